import PyProof.Rows.All
import Wide.All
import OpenK.AllK
import Wide.FinOn
import Lean
import PyProof.EqAt
import PyProof.EqKinds
import PyProof.TupleCall
import PyProof.NeKinds
import PyProof.SetScanFacts
import PyProof.TupleKey
import PyProof.SetKind
import PyProof.IsRules
import PyProof.Rules
import PyProof.Rows.SetFrom
import PyProof.SetRoads
import KE.KDictOf
import PyProof.Rows.MinMaxN
import PyProof.ListRange
import PyProof.TupleOfGen
import PyProof.EnumMake
import PyProof.ZipIter
import PyProof.Rows.ZipGen
import PyProof.CollectWalk
import PyProof.ForAny
import PyProof.Rows.SortWalk
import PyProof.CollectIter
import PyProof.MeetsSeq2
import PySem.Challenge.RW_mapwright_k54_least_parts_both_and_any
set_option Elab.async false
set_option linter.all false
set_option tactic.hygienic false
set_option genSizeOf false
set_option genInjectivity false
set_option maxRecDepth 100000
abbrev Zl:=List PySem.Value
abbrev Zp:=List (PySem.Addr×PySem.Obj)
abbrev Zs:=PySem.Str->Option PySem.Value
abbrev Y3:=PySem.Value->PySem.Shared->Prop
abbrev Ya:=Option (PySem.Str×Nat)
abbrev Yf:=List Nat
abbrev X0:=List PySem.Expr
abbrev X9:=List PySem.Str
abbrev Xs:=List (PySem.Str×PySem.NameKind)
abbrev Xt:=List PySem.Addr
abbrev U1:=List Int
abbrev U2:=List (PySem.Str×PySem.Addr)
abbrev Q1:=Array PySem.Value
def jq:=@Array.getElem?_eq_some_iff
def qb:=@Array.getElem?_toList
def wk:=@Array.length_toList
def aq:=@Bool.and_eq_true
def yc:=@Bool.eq_iff_iff
def bu:=@Bool.false_eq_true
def jg:=@Bool.false_ne_true
def zg:=@Bool.not_false
def m6:=@Bool.not_true
def yr:=@Classical.byContradiction
def Ad:=@Int.emod_lt_of_pos
def Be:=@Int.emod_nonneg
def wg:=@Int.toNat_natCast
def xm:=@List.Perm.refl
def jb:=@List.all_eq_true
def zm:=@List.any_eq_true
def Bk:=@List.any_map
def q9:=@List.append_assoc
def yd:=@List.append_nil
def zp:=@List.cons_append
def ye:=@List.ext_getElem?
def t7:=@List.find?_cons
def yt:=@List.findIdx?_eq_none_iff
def vm:=@List.findIdx?_eq_some_iff_getElem
def du:=@List.getD_eq_getElem?_getD
def fc:=@List.getElem?_append_left
def jc:=@List.getElem?_append_right
def dj:=@List.getElem?_eq_getElem
def kj:=@List.getElem?_eq_none
def ak:=@List.getElem?_eq_some_iff
def jh:=@List.getElem?_map
def ux:=@List.getElem?_range
def vq:=@List.getElem?_set_ne
def Ab:=@List.getElem?_set_self
def zb:=@List.getElem?_zipIdx
def Ba:=@List.getElem_inj
def p7:=@List.getElem_mem
def qd:=@List.getElem_of_mem
def um:=@List.isEmpty_iff
def vf:=@List.length_append
def gm:=@List.length_cons
def qg:=@List.length_eq_zero_iff
def xf:=@List.length_filter_le
def dw:=@List.length_map
def Ah:=@List.length_nil
def o6:=@List.lookup_cons
def pq:=@List.map_append
def wu:=@List.map_congr_left
def ig:=@List.map_cons
def Bl:=@List.map_map
def dh:=@List.mem_append
def ue:=@List.mem_append_left
def gq:=@List.mem_append_right
def bz:=@List.mem_cons
def bh:=@List.mem_cons_of_mem
def dg:=@List.mem_cons_self
def uz:=@List.mem_filter
def xg:=@List.mem_iff_getElem?
def bw:=@List.mem_map
def az:=@List.mem_of_getElem?
def ju:=@List.mem_range
def jw:=@List.mem_singleton
def yx:=@List.nil_append
def zc:=@List.nodup_append
def u0:=@List.nodup_cons
def Av:=@List.nodup_iff_pairwise_ne
def Ax:=@List.nodup_nil
def yo:=@List.not_mem_nil
def Af:=@List.pairwise_cons
def Ai:=@List.range_succ
def gw:=@List.size_toArray
def Bb:=@List.take_length
def yl:=@List.take_of_length_le
def yp:=@Nat.le_add_right
def yu:=@Nat.le_of_lt
def bf:=@Nat.le_refl
def w5:=@Nat.le_succ
def ie:=@Nat.le_trans
def m7:=@Nat.lt_irrefl
def gr:=@Nat.lt_of_lt_of_le
def yw:=@Nat.lt_or_ge
def qj:=@Nat.lt_succ_of_lt
def p8:=@Nat.lt_succ_self
def o7:=@Nat.ne_of_gt
def dq:=@Nat.ne_of_lt
def yz:=@Nat.not_lt_zero
def vo:=@Nat.zero_add
def jx:=@Nat.zero_le
def j5:=@Ne.symm
def dm:=@Option.bind_eq_some_iff
def qw:=@Option.bind_some
def qy:=@Option.isSome_iff_exists
def cg:=@Option.map_eq_some_iff
def wy:=@Option.map_some
def jt:=@Option.some.inj
def uq:=@PyProof.Rows.F.entry_set_update_loop
def mj:=@PyProof.Rows.F.plain_set_update_loop
def uo:=@PyProof.Rows.callWith_builtin1
def iw:=@PyProof.Rows.callWith_type1
def j7:=@PySem.Around.under_plainId
def jy:=@PySem.Calls.spliced_cons
def ql:=@PySem.Calls.spliced_nil
def vg:=@PySem.F.called_set
def yh:=@PySem.F.slot_enumerate_next
def v7:=@PySem.F.slot_tuple_iterator_next
def vy:=@PySem.Heap.SameBut.refl
def jm:=@PySem.Heap.SameBut.update
def ao:=@PySem.Heap.get?_push_of_some
def bc:=@PySem.Heap.get?_push_size
def vd:=@PySem.Heap.get?_update_other
def m8:=@PySem.Heap.get?_update_self
def au:=@PySem.Heap.lt_size
def iz:=@PySem.Heap.size_push
def t8:=@PySem.W.kia_one
def jr:=@PySem.W.mg_none_of
def gf:=@PySem.W.mg_of
def ou:=@PySem.codeAny_builtin
def xj:=@PySem.codeAny_mono
def uf:=@PySem.isSubtype_type
def zj:=@PySem.mem_of_lookup
def rm:=@PySem.sizeLine_eq
def xq:=@PySem.tupleKind_room_in1
def gn:=@PySem.wpAny_Call_Name_kw
def ym:=@PySem.wpAny_askSetting
def aa:=@PySem.wpAny_bind
def j8:=@PySem.wpAny_callSpecial?_slot
def jf:=@PySem.wpAny_call_entry
def uc:=@PySem.wpAny_dictEntries
def ji:=@PySem.wpAny_field
def qu:=@PySem.wpAny_forIn_list
def il:=@PySem.wpAny_holding
def m5:=@PySem.wpAny_isInstance
def mq:=@PySem.wpAny_mono
def ud:=@PySem.wpAny_newObj_type
def u5:=@PySem.wpAny_passesOwn
def aj:=@PySem.wpAny_pure
def yf:=@PySem.wpAny_pyIter_list
def xr:=@PySem.wpAny_pyIter_tuple
def ug:=@PySem.wpAny_seqItems
def j0:=@PySem.wpAny_setEntries_of
def jd:=@PySem.wpAny_setField_rec
def gh:=@PySem.wpAny_setState_of
def vz:=@PySem.wpAny_storeSet_of
def km:=@PySem.wpAny_truthy_bool
def vh:=@PySem.wpAny_typeOf
def qz:=@beq_eq_false_iff_ne
def zq:=@beq_self_eq_true
def o8:=@bne_self_eq_false
def nq:=@congrArg
def Aj:=@decide_eq_false
def cu:=@decide_eq_true_eq
def ik:=@if_false
def bx:=@if_neg
def cj:=@if_pos
def jn:=@if_true
def j9:=@of_decide_eq_true
abbrev Fg:=PySem.W.Frag
def a_{a b c:Nat}(h:a<=b)(k:b<=c):a<=c:=ie h k
def b_{a b c:Nat}(h:a<b)(k:b<=c):a<c:=gr h k
def c_{a b c:Nat}(h:a<=b)(k:b<c):a<c:=Nat.lt_of_le_of_lt h k
def d_{a b c:Nat}(h:a<b)(k:b<c):a<c:=Nat.lt_trans h k
def e_{a b:Nat}(h:a<b):a<=b:=yu h
def f_{a b:Nat}(h:a=b):a<=b:=Nat.le_of_eq h
def g_{a b:Nat}(h:a=b):b<=a:=Nat.le_of_eq h.symm
def h_{a b:Nat}(h:a<b):a≠b:=dq h
def i_{a b:Nat}(h:b<a):a≠b:=o7 h
def j_{a b:Nat}(h:b<=a):¬a<b:=Nat.not_lt_of_le h
def l_{p:Prop}{a b:Nat}(h:a<b)(k:b<=a):p:=absurd h (Nat.not_lt_of_le k)
def m_{a b:Nat}(h:a<b):(a:Int)<(b:Int):=Int.ofNat_lt.mpr h
def n_{a b:Nat}(h:a<=b):(a:Int)<=(b:Int):=Int.ofNat_le.mpr h
def o_{a b:Nat}(h:(a:Int)<(b:Int)):a<b:=Int.ofNat_lt.mp h
def q_{a:Nat}:(0:Int)<=(a:Int):=Int.natCast_nonneg a
def r_{a b c:Nat}(h:a+c<=b):a<=b-c:=Nat.le_sub_of_add_le h
def s_{a b:Nat}(h:¬a<b):b<=a:=Nat.le_of_not_lt h
def t_{a b:Nat}(h:¬a<=b):b<a:=Nat.lt_of_not_le h
def u_{a b:Nat}(h:a<=b)(k:b<=a):a=b:=Nat.le_antisymm h k
def v_{a b c:Nat}(h:a<=b):a+c<=b+c:=Nat.add_le_add_right h c
def w_{a b c:Nat}(h:a<=b):c+a<=c+b:=Nat.add_le_add_left h c
def x_{a b:Nat}:a<=a+b:=yp a b
def z_{a b:Nat}(h:a<b+1):a<=b:=Nat.le_of_lt_succ h
def A_{a b:Nat}(h:a<=b):a<b+1:=Nat.lt_succ_of_le h
def B_{a:Nat}:a<a+1:=p8 a
def C_{a b:Nat}:a-b<=a:=Nat.sub_le a b
def D_{a b:Nat}(h:(a:Int)=(b:Int)):a=b:=Int.ofNat_inj.mp h
def E_{a b:Nat}(h:a=b):(a:Int)=(b:Int):=nq _ h
def G_{a b c:Nat}(h:a<b):a+c<b+c:=Nat.add_lt_add_right h c
def H_{a b c:Nat}(h:a<b):c+a<c+b:=Nat.add_lt_add_left h c
def hG{P:Prop}(h:∀G:Prop,(P->G)->G):P:=h P id
namespace Qu
open PySem SetTable
def Srt(xs:Array Nat):Prop:=∀(i j a b:Nat),xs[i]?=some a->xs[j]?=some b->i<j->a<b
def ark(hs:Srt xs):∀(Z lo hi:Nat),lo<=hi->hi<=xs.size->hi-lo<=Z ->
 (∀(i a:Nat),xs[i]?=some a->i<lo->a<j)->(∀(i a:Nat),xs[i]?=some a->hi<=i->j<=a) ->
 below.go xs j Z lo hi<=xs.size/\(∀(i a:Nat),xs[i]?=some a->i<below.go xs j Z lo hi->a<j)/\(∀(i a:Nat),xs[i]?=some a->below.go xs j Z lo hi<=i->j<=a):=by
 intro Z
 induction Z with
 |zero =>
  intro lo hi h1 h2 h3 h4 h5;unfold below.go;have:lo=hi:=by lia
  subst this;exact⟨h2,h4,h5⟩
 |succ Z ih =>
  intro lo hi h1 h2 h3 h4 h5;unfold below.go
  by_cases Jh:lo<hi
  .simp only[cj Jh]
   have hm:(lo+hi) / 2<xs.size:=by lia
   have R:xs[(lo+hi) / 2]?=some xs[(lo+hi) / 2]:=by simp[hm]
   have qq:xs.getD ((lo+hi) / 2) j=xs[(lo+hi) / 2]:=by simp[Array.getD,hm]
   rw[qq]
   by_cases U:xs[(lo+hi) / 2]<j
   .rw[cj U]
    refine ih _ _ (by lia) h2 (by omega) (λi a e l=>?_) h5
    by_cases G:i=(lo+hi) / 2
    .subst G;rw[R] at e;cases e;exact U
    .exact Nat.lt_trans (hs _ _ _ _ e R (by lia)) U
   .rw[bx U]
    refine ih _ _ (by lia) (e_ hm) (by omega) h4 (λi a e l=>?_)
    by_cases G:i=(lo+hi) / 2
    .subst G;rw[R] at e;cases e;exact s_ U
    .have:=hs _ _ _ _ R e (by lia);exact e_ (c_ (s_ U) this)
  .rw[bx Jh]
   have:lo=hi:=u_ h1 (s_ Jh);subst this;exact⟨h2,h4,h5⟩
def El(hs:Srt xs):below xs j<=xs.size/\(∀(i a:Nat),xs[i]?=some a->i<below xs j->a<j)/\(∀(i a:Nat),xs[i]?=some a->below xs j<=i->j<=a) :=
 ark hs _ _ _ (jx _) (bf _) C_ (λi a _ h=>absurd h (yz _)) (λi a e h=>by
  have:=(jq.mp e).1;lia)
def below_at(hs:Srt xs)(h:xs[i]?=some j):below xs j=i:=by
 obtain⟨R,U,G⟩:=El (j:=j) hs;rcases Nat.lt_trichotomy (below xs j) i with l|l|l
 .have li:=(jq.mp h).1
  have Z:xs[below xs j]?=some xs[below xs j]:=by simp
  have a:=G _ _ Z (bf _);have b:=hs _ _ _ _ Z h l
  lia
 .exact l
 .have:=U _ _ h l;lia
def Yd(j:Nat):has #[] j=false:=by simp[has]
set_option tactic.hygienic true in
def Sv{t:SetTable}(hs:Srt t.place):t.slot j=.live i↔t.place[i]?=some j:=by
 unfold slot;constructor
 .intro h
  dsimp only at h;split at h
  .rename_i e;cases h;simpa using e
  .split at h<;>cases h
 .intro h
  dsimp only;rw[below_at hs h,h];simp
def ae4{t:SetTable}(hs:Srt t.place)(Z:t.dummies=#[]):t.slot j=.empty↔∀i:Nat,t.place[i]?≠some j:=by
 constructor
 .intro h i e
  rw[(Sv hs).mpr e] at h;cases h
 .intro h
  unfold slot;dsimp only;rw[Z,Yd,bx (by simpa using h _)];rfl
def J6(xs:Array α)(p:Nat)(x:α)(hp:p<=xs.size)(i:Nat):(insertAt xs p x)[i]?=if i<p then xs[i]? else if i=p then some x else xs[i-1]?:=by
 rw[<- qb,toList_insertAt];have G:(xs.toList.take p).length=p:=by simp;lia
 by_cases Z:i<p
 .rw[cj Z,fc (b_ Z (g_ G)),List.getElem?_take,cj Z,qb]
 .rw[bx Z,jc (a_ (f_ G) (s_ Z)),G]
  by_cases U:i=p
  .subst U;simp
  .rw[bx U]
   obtain⟨q,R⟩:∃q,i=p+q+1:=⟨i-p-1,by lia⟩;subst R;rw[show p+q+1-p=q+1 by lia,List.getElem?_cons_succ,List.getElem?_drop,show p+q+1-1=p+q by lia,qb]
def Lr(xs:Array α)(p:Nat)(x:α):(insertAt xs p x).size=xs.size+1:=by have:=(insertAt_perm xs p x).length_eq;simpa using this
noncomputable def up(p i:Nat):Nat:=if i<p then i else i+1
def Pu(xs:Array α)(p:Nat)(x:α)(hp:p<=xs.size)(i:Nat):(insertAt xs p x)[up p i]?=xs[i]?:=by
 rw[J6 xs p x hp];unfold up
 by_cases h:i<p
 .simp[h]
 .rw[bx h,bx (j_ (a_ (s_ h) x_)),bx (i_ (A_ (s_ h)))];rfl
def Ji(xs:Array α)(p:Nat)(x:α)(hp:p<=xs.size):(insertAt xs p x)[p]?=some x:=by rw[J6 xs p x hp];simp
def Ot(p i:Nat):i=p\/∃k,i=up p k:=by
 unfold up;rcases Nat.lt_trichotomy i p with h|h|h
 .exact .inr ⟨i,by simp[h]⟩
 .exact .inl h
 .exact .inr ⟨i-1,by rw[bx (by omega)];lia⟩
def arl(hs:Srt xs)(hn:∀i:Nat,xs[i]?≠some j):Srt (insertAt xs (below xs j) j):=by
 obtain⟨U,h2,R⟩:=El (j:=j) hs;intro a b x y G Z l;rcases Ot (below xs j) a with rfl|⟨a',rfl⟩<;>rcases Ot (below xs j) b with hb|⟨b',rfl⟩
 .subst hb;lia
 .rw[Ji _ _ _ U] at G
  rw[Pu _ _ _ U] at Z;cases G;have:below xs j<=b':=by unfold up at l;split at l<;>omega
  have g:=R _ _ Z this;rcases Nat.lt_or_eq_of_le g with g|g
  .exact g
  .subst g;exact absurd Z (hn _)
 .subst hb
  rw[Ji _ _ _ U] at Z;rw[Pu _ _ _ U] at G;cases Z;exact h2 _ _ G (by unfold up at l;split at l<;>omega)
 .rw[Pu _ _ _ U] at G Z
  exact hs _ _ _ _ G Z (by unfold up at l;split at l<;>split at l<;>omega)
noncomputable def adv(m:Nat)(p:Probe):Probe:=({ SetTable.fresh 0 0 true with mask:=m }:SetTable).advance p
def ax6(t:SetTable)(p:Probe):t.advance p=adv t.mask p:=rfl
def Zq(h:p.more > 0):adv m p={ p with j:=p.j+1,more:=p.more-1 }:=cj h
def Vs(h:¬p.more > 0):adv m p={ p with j:=(leap m p.i p.perturb).1,more:=runEnd m (leap m p.i p.perturb).1-(leap m p.i p.perturb).1,i:=(leap m p.i p.perturb).1,perturb:=(leap m p.i p.perturb).2 }:=bx h
noncomputable def beg(m i pt:Nat):Probe:={ j:=i,more:=runEnd m i-i,i:=i,perturb:=pt,dummy:=none }
noncomputable def P(m:Nat)(h:Int):Nat->Probe
 |0=>beg m (bits h%(m+1)) (bits h)|n+1=>adv m (P m h n)
def ab3(t:SetTable)(h:Int):t.probeStart h=P t.mask h 0:=rfl
theorem Zr(m:Nat)(h:Int):∀n,(P m h n).dummy=none
 |0=>rfl
 |n+1=>by
  show(adv m (P m h n)).dummy=none
  by_cases q:(P m h n).more > 0
  .rw[Zq q];exact Zr m h n
  .rw[Vs q];exact Zr m h n
noncomputable def I(m:Nat)(h:Int):Nat->Nat
 |0=>bits h%(m+1)|T+1=>(I m h T*5+1+bits h / 32 ^ (T+1))%(m+1)
def arn(m i:Nat):runEnd m i-i<=9:=by unfold runEnd;split<;>lia
theorem ab4{m:Nat}{h:Int}{n i pt:Nat}(e:P m h n=beg m i pt):∀c,c<=runEnd m i-i->P m h (n+c)={ j:=i+c,more:=runEnd m i-i-c,i:=i,perturb:=pt,dummy:=none }
 |0,_=>by rw[Nat.add_zero,e];rfl
 |c+1,hc=>by
  have:=ab4 e c (by lia);show adv m (P m h (n+c))=_;rw[this,Zq (by show 0<runEnd m i-i-c;lia)];simp only
  congr 1
def aln(e:P m h n=beg m i pt):P m h (n+(runEnd m i-i)+1)=beg m ((i*5+1+pt / 32)%(m+1)) (pt / 32):=by show adv m (P m h (n+(runEnd m i-i)))=_;rw[ab4 e _ (bf _),Vs (by simp)];rfl
theorem alo(m:Nat)(h:Int):∀T,∃n,n<=10*T/\P m h n=beg m (I m h T) (bits h / 32 ^ T)
 |0=>⟨0,jx _,by simp[P,I]⟩
 |T+1=>by
  obtain⟨n,G,Z⟩:=alo m h T;have:=arn m (I m h T);refine⟨_,?_,(aln Z).trans ?_⟩
  .lia
  .rw[Nat.div_div_eq_div_mul,<- Nat.pow_succ];rfl
noncomputable def f5(m x:Nat):Nat:=(x*5+1)%(m+1)
noncomputable def it(m:Nat):Nat->Nat->Nat
 |0,x=>x|k+1,x=>f5 m (it m k x)
theorem Vt(m a x:Nat):∀k,it m (a+k) x=it m k (it m a x)
 |0=>rfl|k+1=>by show f5 m (it m (a+k) x)=_;rw[Vt m a x k];rfl
def Cov(m:Nat):Prop:=∀i j,i<=m->j<=m->∃k,k<=m/\it m k i=j
def ax7(R:it m (m+1) 0=0)(h:∀j,j<=m->∃k,k<=m/\it m k 0=j):Cov m:=λi j hi hj=>by
 obtain⟨a,la,G⟩:=h i hi;obtain⟨b,U,Z⟩:=h j hj
 by_cases qq:a<=b
 .refine⟨b-a,a_ C_ U,?_⟩
  rw[<- G,<- Vt,show a+(b-a)=b by lia,Z]
 .refine⟨m+1+b-a,by omega,?_⟩
  rw[<- G,<- Vt,show a+(m+1+b-a)=(m+1)+b by lia,Vt,R,Z]
noncomputable def orb(m:Nat):Nat->Nat->List Nat
 |0,_=>[]|k+1,x=>x::orb m k (f5 m x)
theorem agy{m:Nat}:∀{k x j:Nat},j∈orb m k x->∃q,q<k/\it m q x=j
 |0,_,_,h=>by simp[orb] at h
 |k+1,x,j,h=>by
  simp only[orb,bz] at h;rcases h with rfl|h
  .exact⟨0,A_ (jx _),rfl⟩
  .obtain⟨q,l,e⟩:=agy h
   refine⟨1+q,by lia,?_⟩;rw[Vt];exact e
def Qy(Z:it m (m+1) 0=0)(h:((List.range (m+1)).all λj=>(orb m (m+1) 0).contains j)=true):Cov m :=
 ax7 Z λj G=>by have:=jb.mp h j (by simp;exact A_ G);obtain⟨q,l,e⟩:=agy (by simpa using this);exact⟨q,z_ l,e⟩
def Zt(m:Nat):Prop:=m=7\/m=15\/m=31\/m=63\/m=127
def bb3:Cov 7:=Qy (by decide+kernel) (by decide+kernel)
def a4l:Cov 15:=Qy (by decide+kernel) (by decide+kernel)
def a4m:Cov 31:=Qy (by decide+kernel) (by decide+kernel)
def a4n:Cov 63:=Qy (by decide+kernel) (by decide+kernel)
def ax8:Cov 127:=Qy (by decide+kernel) (by decide+kernel)
def Zt.cov(h:Zt m):Cov m:=by
 rcases h with rfl|rfl|rfl|rfl|rfl
 .exact bb3
 .exact a4l
 .exact a4m
 .exact a4n
 .exact ax8
def aro(h:Int):bits h<2 ^ 64:=by
 unfold bits;have G:=Be h (b:=2 ^ 64) (by decide);have Z:=Ad h (b:=2 ^ 64) (by decide)
 lia
theorem a4o(m:Nat)(h:Int):∀T,I m h T<=m
 |0=>Nat.le_of_lt_succ (Nat.mod_lt (bits h) (Nat.succ_pos m))|T+1=>Nat.le_of_lt_succ (Nat.mod_lt (I m h T*5+1+bits h / 32 ^ (T+1)) (Nat.succ_pos m))
theorem alp(m:Nat)(h:Int):∀k,I m h (13+k)=it m k (I m h 13)
 |0=>rfl
 |k+1=>by
  show(I m h (13+k)*5+1+bits h / 32 ^ (13+k+1))%(m+1)=f5 m (it m k (I m h 13));have:bits h / 32 ^ (13+k+1)=0:=by
   apply Nat.div_eq_of_lt;refine gr (aro h) ?_
   calc 2 ^ 64<=32 ^ 13:=by decide
    _<=32 ^ (13+k+1):=Nat.pow_le_pow_right (by decide) (a_ x_ x_)
  rw[this,alp m h k];rfl
def cover(U:Zt m)(h:Int)(j:Nat)(G:j<=m):∃T,T<=13+m/\I m h T=j:=by obtain⟨k,Z,e⟩:=U.cov (I m h 13) j (a4o m h 13) G;exact⟨13+k,w_ Z,(alp m h k).trans e⟩
def arp(Z:Zt m)(h:Int)(j:Nat)(G:j<=m):∃n,n<10*turns m/\(P m h n).j=j:=by obtain⟨T,R,e⟩:=cover Z h j G;obtain⟨n,ln,U⟩:=alo m h T;exact⟨n,by unfold turns;lia,by rw[U];exact e⟩
def mod_le(a m:Nat):a%(m+1)<=m:=Nat.le_of_lt_succ (Nat.mod_lt a (Nat.succ_pos m))
def Sw(h:i<=m):i<=runEnd m i/\runEnd m i<=m:=by unfold runEnd;split<;>omega
theorem a4p(m:Nat)(h:Int):∀n,(P m h n).j+(P m h n).more<=m
 |0=>by
  have:=Sw (mod_le (bits h) m);show bits h%(m+1)+(runEnd m (bits h%(m+1))-bits h%(m+1))<=m
  omega
 |n+1=>by
  have Z:=a4p m h n;show(adv m (P m h n)).j+(adv m (P m h n)).more<=m
  by_cases q:(P m h n).more > 0
  .rw[Zq q];simp only;lia
  .rw[Vs q]
   have:=Sw (mod_le ((P m h n).i*5+1+(P m h n).perturb / 32) m);show(leap m (P m h n).i (P m h n).perturb).1+(runEnd m (leap m (P m h n).i (P m h n).perturb).1-(leap m (P m h n).i (P m h n).perturb).1)<=m
   have e:(leap m (P m h n).i (P m h n).perturb).1=((P m h n).i*5+1+(P m h n).perturb / 32)%(m+1):=rfl;rw[e];omega
def bb4(m:Nat)(h:Int)(n:Nat):(P m h n).j<=m:=by have:=a4p m h n;lia
def Occ(t:SetTable)(j:Nat):Prop:=∃i:Nat,t.place[i]?=some j
structure Xn(t:SetTable)(es:Array (Int×Value)):Prop where
 msk:Zt t.mask
 dum:t.dummies=#[]
 Ue:t.place.size=es.size
 Zu:Srt t.place
 bnd:∀(i j:Nat),t.place[i]?=some j->j<=t.mask
 ful:t.place.size<=t.mask
 rch:∀(i j:Nat) e,t.place[i]?=some j->es[i]?=some e->∃n,(P t.mask e.1 n).j=j/\∀m,m<n->Occ t (P t.mask e.1 m).j
theorem Xn.fits(k:Xn t es):t.fits es.size=true:=by unfold SetTable.fits fill;rw[k.dum];simp[k.Ue];have:=k.ful;have:=k.Ue;lia
def Zt.odd(h:Zt m):m%2=1:=by rcases h with rfl|rfl|rfl|rfl|rfl<;>rfl
def Xn.way(k:Xn t es):t.gaveWay=false:=by unfold gaveWay;rw[k.msk.odd];rfl
def alq(hs:Srt xs)(h:xs.size<=m):∃j,j<=m/\∀i:Nat,xs[i]?≠some j:=by
 apply yr;intro R;have all:∀j,j<=m->∃i:Nat,xs[i]?=some j:=λj U=>by apply yr;intro hc;exact R ⟨j,U,λi e=>hc ⟨i,e⟩⟩
 have:∀j,j<=m->∀i:Nat,xs[i]?=some j->j<=i:=by
  intro j
  induction j with
  |zero=>intro _ i _;exact jx _
  |succ j ih =>
   intro U i e;obtain⟨G,Z⟩:=all j (by lia);have:=ih (by lia) G Z;rcases Nat.lt_trichotomy i G with l|l|l
   .have:=hs _ _ _ _ e Z l;lia
   .subst l;rw[e] at Z;injection Z with Z;exact a_ (f_ Z) this
   .exact a_ (v_ this) l
 obtain⟨i,e⟩:=all m (bf _);have h1:=this m (bf _) i e;have h2:=(jq.mp e).1;exact l_ h2 (a_ h h1)
structure Fst(t:SetTable)(h:Int)(N:Nat):Prop where
 lt:N<10*turns t.mask
 emp:¬Occ t (P t.mask h N).j
 occ:∀m,m<N->Occ t (P t.mask h m).j
def least{p:Nat->Prop}:∀{n:Nat},p n->∃k,k<=n/\p k/\∀m,m<k->¬p m:=by
 intro n
 induction n using Nat.strongRecOn with
 |ind n U =>
  intro h
  by_cases G:∃m,m<n/\p m
  .obtain⟨m,l,Z⟩:=G
   obtain⟨k,R,a,b⟩:=U m l Z;exact⟨k,e_ (c_ R l),a,b⟩
  .exact⟨n,bf _,h,λm l Z=>G ⟨m,l,Z⟩⟩
def Xn.fst(k:Xn t es)(h:Int):∃N,Fst t h N:=by obtain⟨j,Z,e⟩:=alq k.Zu k.ful;obtain⟨n,U,G⟩:=arp k.msk h j Z;obtain⟨N,l,a,b⟩:=least (p:=λn=>¬Occ t (P t.mask h n).j) (n:=n) (λ⟨i,c⟩=>e i (by rw[G] at c;exact c));exact⟨N,c_ l U,a,λm R=>Classical.not_not.mp (b m R)⟩
theorem alr(k:Xn t es)(F:Fst t h N)(G:Nat->Int):∀(Z n:Nat),n<=N->N-n<Z ->
 (probe.go t G h Z (P t.mask h n)=some (.empty (P t.mask h N).j none)/\∀m,n<=m->m<N->∀i:Nat,t.place[i]?=some (P t.mask h m).j->G i≠h)
\/∃m i:Nat,n<=m/\m<N/\t.place[i]?=some (P t.mask h m).j/\G i=h/\(∀q,n<=q->q<m->∀i:Nat,t.place[i]?=some (P t.mask h q).j->G i≠h)
 /\probe.go t G h Z (P t.mask h n)=some (.candidate (P t.mask h m).j i (P t.mask h (m+1))):=by
 intro Z
 induction Z with
 |zero=>intro n _ l;omega
 |succ Z ih =>
  intro n hn l;unfold probe.go
  by_cases e:n=N
  .subst e
   left
   rw[(ae4 k.Zu k.dum).mpr (λi c=>F.emp ⟨i,c⟩)];simp only;rw[Zr];exact⟨rfl,λm a b=>by lia⟩
  .obtain⟨i,hi⟩:=F.occ n (by lia)
   rw[(Sv k.Zu).mpr hi];simp only[ax6];have qq:adv t.mask (P t.mask h n)=P t.mask h (n+1):=rfl;rw[qq]
   by_cases R:G i=h
   .right
    refine⟨n,i,bf _,by lia,hi,R,λq a b=>by lia,?_⟩;rw[cj (by simp[R])]
   .rw[bx (by simp[R])]
    have un:∀U:Nat,t.place[U]?=some (P t.mask h n).j->G U≠h:=λU e'=>by have a:=below_at k.Zu e';have b:=below_at k.Zu hi;rw[<- a,b];exact R
    rcases ih (n+1) (by lia) (by lia) with⟨a,b⟩|⟨m,U,a,b,c,d,e1,e2⟩
    .left
     refine⟨a,λm x y=>?_⟩
     by_cases q:m=n
     .subst q;exact un
     .exact b m (by lia) y
    .right
     refine⟨m,U,by lia,b,c,d,λq x y=>?_,e2⟩
     by_cases z:q=n
     .subst z;exact un
     .exact e1 q (by lia) y
def Xn.ahead(k:Xn t es)(F:Fst t h N){i:Nat}(G:es[i]?=some e)(R:e.1=h):∃m,m<N/\t.place[i]?=some (P t.mask h m).j:=by
 have U:i<t.place.size:=by rw[k.Ue];exact(jq.mp G).1
 have Z:t.place[i]?=some t.place[i]:=by simp[U]
 obtain⟨n,a,b⟩:=k.rch i _ e Z G;subst R;refine⟨n,?_,by rw[a];exact Z⟩;rcases Nat.lt_trichotomy n N with l|l|l
 .exact l
 .subst l;exact absurd ⟨i,by rw[a];exact Z⟩ F.emp
 .exact absurd (b N l) F.emp
def Zv(hs:Srt t.place)(q:Nat):Occ (t.put j).1 q↔q=j\/Occ t q:=by
 obtain⟨Z,G,U⟩:=El (j:=j) hs;constructor
 .rintro⟨i,e⟩
  have e:(insertAt t.place (below t.place j) j)[i]?=some q:=e;rcases Ot (below t.place j) i with rfl|⟨i',rfl⟩
  .rw[Ji _ _ _ Z] at e;cases e;exact .inl rfl
  .rw[Pu _ _ _ Z] at e;exact .inr ⟨i',e⟩
 .rintro(rfl|⟨i,e⟩)
  .exact⟨_,Ji _ _ _ Z⟩
  .exact⟨up (below t.place j) i,(Pu _ _ _ Z i).trans e⟩
theorem Xn.put(k:Xn t es)(F:Fst t h N)(room:t.place.size+1<=t.mask) :
 Xn (t.put (P t.mask h N).j).1 (insertAt es (t.put (P t.mask h N).j).2 (h,x)):=by
 obtain⟨R,h2,h3⟩:=El (j:=(P t.mask h N).j) k.Zu;have U:below t.place (P t.mask h N).j<=es.size:=by rw[<- k.Ue];exact R
 refine⟨k.msk,?_,?_,?_,?_,?_,?_⟩
 .show(if has t.dummies _ then _ else t.dummies)=#[]
  rw[k.dum,Yd];rfl
 .show(insertAt t.place _ _).size=(insertAt es _ _).size
  rw[Lr,Lr,k.Ue]
 .exact arl k.Zu (λi e=>F.emp ⟨i,e⟩)
 .intro i j e
  rcases(Zv k.Zu j).mp ⟨i,e⟩ with rfl|⟨i',e'⟩
  .exact bb4 _ _ _
  .exact k.bnd i' j e'
 .show(insertAt t.place _ _).size<=t.mask
  rw[Lr];exact room
 .intro i j e G Z
  have G:(insertAt t.place (below t.place (P t.mask h N).j) (P t.mask h N).j)[i]?=some j:=G;have Z:(insertAt es (below t.place (P t.mask h N).j) (h,x))[i]?=some e:=Z;show ∃n,(P t.mask e.1 n).j=j/\∀m,m<n->Occ (t.put (P t.mask h N).j).1 (P t.mask e.1 m).j
  rcases Ot (below t.place (P t.mask h N).j) i with rfl|⟨i',rfl⟩
  .rw[Ji _ _ _ R] at G
   rw[Ji _ _ _ U] at Z;cases G;cases Z;exact⟨N,rfl,λm l=>(Zv k.Zu _).mpr (.inr (F.occ m l))⟩
  .rw[Pu _ _ _ R] at G
   rw[Pu _ _ _ U] at Z;obtain⟨n,a,b⟩:=k.rch i' j e G Z;exact⟨n,a,λm l=>(Zv k.Zu _).mpr (.inr (b m l))⟩
abbrev OcO(ow:Array (Option Nat))(j:Nat):Prop:=∃i,ow[j]?=some (some i)
structure Own(m:Nat)(ow:Array (Option Nat))(hs:U1):Prop where
 Ue:ow.size=m+1
 cnt:ow.toList.countP Option.isSome=hs.length
 lt:∀(j i:Nat),ow[j]?=some (some i)->i<hs.length
 inj:∀(j j' i:Nat),ow[j]?=some (some i)->ow[j']?=some (some i)->j=j'
 at':∀(i:Nat) h,hs[i]?=some h->∃j n,ow[j]?=some (some i)/\(P m h n).j=j/\∀q,q<n->OcO ow (P m h q).j
def getD_none{Z:Array (Option Nat)}(hz:Z.size=m+1)(h:(Z.getD j (some 0)).isNone=true):Z[j]?=some none:=by
 by_cases l:j<Z.size
 .simp[Array.getD,l] at h;simp[l,h]
 .simp[Array.getD,l] at h
def getD_some(hz:ow.size=m+1)(Z:j<=m)(h:¬(ow.getD j (some 0)).isNone=true):OcO ow j:=by
 have l:j<ow.size:=by lia
 simp[Array.getD,l] at h;unfold OcO;rw[show ow[j]?=some ow[j] by simp[l]];cases e:ow[j] with
 |none=>exact absurd e h|some i=>exact⟨i,rfl⟩
def ai7(hz:ow.size=m+1)(h:Int):∀(Z T n:Nat),P m h n=beg m (I m h T) (bits h / 32 ^ T)->(∀q,q<n->OcO ow (P m h q).j) ->
 (∃k,k<Z/\ow[I m h (T+k)]?=some none)->∃j U,layClean.free m ow Z (I m h T) (bits h / 32 ^ T)=some j/\(P m h U).j=j/\ow[j]?=some none/\∀q,q<U->OcO ow (P m h q).j:=by
 intro Z
 induction Z with
 |zero=>rintro T n _ _ ⟨k,l,_⟩;lia
 |succ Z ih =>
  rintro T n e hq ⟨k,lk,ek⟩;have hI:=a4o m h T;obtain⟨r1,r2⟩:=Sw hI;unfold layClean.free;cases hf:(List.range (runEnd m (I m h T)+1-I m h T)).find? λk=>(ow.getD (I m h T+k) (some 0)).isNone with
  |some c =>
   obtain⟨a,b,d⟩:=List.find?_range_eq_some.mp hf;have b:=ju.mp b;refine⟨_,n+c,rfl,by rw[ab4 e c (by omega)],getD_none hz a,λq l=>?_⟩
   by_cases R:q<n
   .exact hq q R
   .obtain⟨c',rfl⟩:∃c',q=n+c':=⟨q-n,by lia⟩
    rw[ab4 e c' (by lia)];show OcO ow (I m h T+c');exact getD_some hz (by lia) (λhh=>by
     have:=d c' (by lia);simp only[hh] at this;cases this)
  |none =>
   have Dq:=List.find?_eq_none.mp hf;have G:∀c,c<=runEnd m (I m h T)-I m h T->OcO ow (I m h T+c):=λc hc=>getD_some hz (by lia) (Dq c (ju.mpr (by lia)))
   cases k with
   |zero =>
    obtain⟨i,ei⟩:=G 0 (jx _);rw[Nat.add_zero] at ek ei;rw[ek] at ei;cases ei
   |succ k =>
    have pe:bits h / 32 ^ T / 32=bits h / 32 ^ (T+1):=by rw[Nat.div_div_eq_div_mul,<- Nat.pow_succ]
    have:=ih (T+1) (n+(runEnd m (I m h T)-I m h T)+1) (by rw[aln e,pe];rfl) (λq l=>?_) ⟨k,by lia,by rw[show T+1+k=T+(k+1) by lia];exact ek⟩
    .obtain⟨j,U,e1,e2⟩:=this
     refine⟨j,U,?_,e2⟩;rw[<- e1];show layClean.free m ow Z ((I m h T*5+1+bits h / 32 ^ T / 32)%(m+1)) (bits h / 32 ^ T / 32)=_;rw[pe];rfl
    .by_cases R:q<n
     .exact hq q R
     .obtain⟨c',rfl⟩:∃c',q=n+c':=⟨q-n,by lia⟩
      rw[ab4 e c' (by lia)];show OcO ow (I m h T+c');exact G c' (by lia)
def Own.room(k:Own m ow hs)(h:hs.length<=m):∃j,j<=m/\ow[j]?=some none:=by
 apply yr;intro R;have:ow.toList.countP Option.isSome=ow.toList.length:=List.countP_eq_length.mpr λa U=>by
  obtain⟨j,G,e⟩:=qd U;cases a with
  |some i=>rfl
  |none =>
   have Z:j<ow.size:=by simpa using G
   refine absurd ⟨j,by have:=k.Ue;exact z_ (b_ Z (f_ this)),?_⟩ R;rw[<- qb,dj G,e]
 rw[k.cnt] at this;have:=k.Ue;simp at *
 lia
theorem Own.free(U:Zt m)(k:Own m ow hs)(hl:hs.length<=m)(h:Int):∃j Z,layClean.free m ow (turns m) (bits h%(m+1)) (bits h)=some j/\(P m h Z).j=j/\ow[j]?=some none/\∀q,q<Z->OcO ow (P m h q).j:=by obtain⟨j,R,e⟩:=k.room hl;obtain⟨T,lT,G⟩:=cover U h j R;have:=ai7 k.Ue h (turns m) 0 0 (by simp[P,I]) (λq l=>by lia) ⟨T,by unfold turns;lia,by rw[vo,G];exact e⟩;simpa[I] using this
def Own.lay(k:Own m ow hs)(e1:(P m h R).j=j)(U:ow[j]?=some none)(e3:∀q,q<R->OcO ow (P m h q).j) :
 Own m (ow.setIfInBounds j (some hs.length)) (hs++[h]):=by
 have lj:j<ow.size:=(jq.mp U).1
 have get:∀q:Nat,(ow.setIfInBounds j (some hs.length))[q]?=if j=q then some (some hs.length) else ow[q]?:=λq=>by rw[Array.getElem?_setIfInBounds];split<;>simp_all
 have G:∀q,OcO ow q->OcO (ow.setIfInBounds j (some hs.length)) q:=λq ⟨i,e⟩=>by refine⟨i,?_⟩;rw[get,bx (λh=>by subst h;rw[U] at e;cases e)];exact e
 refine⟨by simp[k.Ue],?_,λq i e=>?_,λq q' i e Z=>?_,λi h' e=>?_⟩
 .rw[Array.toList_setIfInBounds,List.countP_set (by simpa using lj),k.cnt]
  have:ow.toList[j]'(by simpa using lj)=none:=by have:=(jq.mp U).2;simpa using this
  rw[this];simp
 .rw[get] at e
  split at e
  .cases e;simp
  .have:=k.lt q i e;simp;exact A_ (e_ this)
 .rw[get] at e Z
  split at e<;>split at Z
  .lia
  .cases e;have:=k.lt _ _ Z;lia
  .cases Z;have:=k.lt _ _ e;lia
  .exact k.inj q q' i e Z
 .by_cases l:i<hs.length
  .rw[fc l] at e
   obtain⟨j',n,a,b,c⟩:=k.at' i h' e;refine⟨j',n,?_,b,λq l=>G _ (c q l)⟩;rw[get,bx (λh=>by subst h;rw[U] at a;cases a)];exact a
  .have hi:i=hs.length:=by
    have:=(ak.mp e).1;simp at this;exact u_ (z_ this) (s_ l)
   subst hi;simp at e;subst e;exact⟨j,R,by rw[get,cj rfl],e1,λq l=>G _ (e3 q l)⟩
theorem agz{m:Nat}(R:Zt m):∀(rest hs:U1)(G:Array (Option Nat)),Own m G hs->hs.length+rest.length<=m+1 ->
 ∃Z,rest.foldl (λU h=>do
  let (owner,k) <- U
  let j <- layClean.free m owner (turns m) (bits h%(m+1)) (bits h)
  pure (owner.setIfInBounds j (some k),k+1)) (some (G,hs.length))=some (Z,hs.length+rest.length)/\Own m Z (hs++rest)
 |[],hs,G,k,_=>⟨G,rfl,by simpa using k⟩
 |h::rest,hs,G,k,l=>by
  obtain⟨j,n',e0,e1,e2,e3⟩:=k.free R (by simp at l;lia) h;have k':=k.lay e1 e2 e3;obtain⟨Z,a,b⟩:=agz R rest (hs++[h]) _ k' (by simp at l ⊢;lia);refine⟨Z,?_,by simpa using b⟩;rw[List.foldl_cons];have:(do
   let (owner,k) <- some (G,hs.length)
   let j <- layClean.free m owner (turns m) (bits h%(m+1)) (bits h)
   pure (owner.setIfInBounds j (some k),k+1))=some (G.setIfInBounds j (some hs.length),(hs++[h]).length):=by
   show(layClean.free m G (turns m) (bits h%(m+1)) (bits h) >>= _)=_;rw[e0];simp
  rw[this,a]
  simp;lia
def als(U:Zt m)(hs:Array Int)(l:hs.size<=m+1):∃Z,layClean m hs=some Z/\Own m Z hs.toList:=by have G:Own m (Array.replicate (m+1) none) []:=⟨by simp,by simp,λj i e=>by simp[Array.getElem?_replicate] at e,λj R i e=>by simp[Array.getElem?_replicate] at e,λi h e=>by simp at e⟩;obtain⟨Z,a,b⟩:=agz U hs.toList [] _ G (by simpa using l);refine⟨Z,?_,by simpa using b⟩;unfold layClean;rw[<- Array.foldl_toList];exact(nq (Option.map (·.1)) a).trans rfl
noncomputable def lv(m:Nat)(Z:Array (Option Nat)):List (Nat×Nat):=(List.range (m+1)).filterMap λj=>(Z.getD j none).map (j,·)
def Px(k:Own m ow hs):(j,i)∈lv m ow↔ow[j]?=some (some i):=by
 unfold lv;rw[List.mem_filterMap];constructor
 .rintro⟨q,a,b⟩
  obtain⟨U,Z,G⟩:=cg.mp b;cases G;have:j<ow.size:=by rw[k.Ue];exact ju.mp a
  simp[Array.getD,this] at Z;simp[this,Z]
 .intro e
  have l:=(jq.mp e).1;refine⟨j,ju.mpr (by rw[<- k.Ue];exact l),?_⟩;have:ow.getD j none=some i:=by simp[Array.getD,l,(jq.mp e).2]
  rw[this];rfl
def alu(m:Nat)(U:Array (Option Nat)):(lv m U).Pairwise λa b=>a.1<b.1:=by unfold lv;refine List.Pairwise.filterMap _ (λa a' R b G b' Z=>?_) List.pairwise_lt_range;obtain⟨_,_,rfl⟩:=cg.mp G;obtain⟨_,_,rfl⟩:=cg.mp Z;exact R
def arq(k:Own m ow hs):((lv m ow).map (·.2)).Perm (List.range hs.length):=by
 refine(List.perm_ext_iff_of_nodup ?_ List.nodup_range).mpr λi=>?_
 .rw[Av,List.pairwise_map]
  refine(alu m ow).imp_of_mem fun{a b} Z hb Jh e=>?_
  have:=k.inj a.1 b.1 a.2 ((Px k).mp Z) (by rw[e];exact(Px k).mp hb);exact l_ Jh (g_ this)
 .rw[bw,ju]
  constructor
  .rintro⟨a,Z,rfl⟩;exact k.lt _ _ ((Px k).mp Z)
  .intro l
   obtain⟨j,n,a,_⟩:=k.at' i _ (dj l);exact⟨(j,i),(Px k).mpr a,rfl⟩
theorem alv{α G:Type}{g:α->Option G}:∀{l:List α},(∀x∈l,(g x).isSome=true)->∀q:Nat,(l.filterMap g)[q]?=l[q]?.bind g
 |[],_,q=>by simp
 |x::l,h,q=>by
  have Z:=h x (dg ..);obtain⟨y,e⟩:=qy.mp Z;rw[List.filterMap_cons_some e];cases q with
  |zero=>simp[e]|succ q=>simpa using alv (λx Z=>h x (bh _ Z)) q
def Vg(hm:Zt m)(fg mv:Nat)(ld pl:Bool)(es:Array (Int×Value))(l:es.size<=m) :
 ∃t Z,laid m fg mv ld pl (es.map (·.1))=some (t,Z)/\t.mask=m/\Xn t (Z.filterMap (es[·]?))/\(Z.filterMap (es[·]?)).toList.Perm es.toList/\(Z.filterMap (es[·]?)).size=es.size
 /\t.led=ld/\t.plain=pl/\t.finger=fg/\Z.toList.Perm (List.range es.size):=by
 obtain⟨G,e,k⟩:=als hm (es.map (·.1)) (by simp;exact a_ l x_);have Ye:=arq k;simp at Ye;have R:(lv m G).length=es.size:=by have:=Ye.length_eq;simpa using this
 have qq:((((lv m G).map (·.2)).toArray).filterMap (es[·]?)).size=es.size:=by have:=(Ye.filterMap (es[·]?)).length_eq;rw[filterMap_getElem?_range] at this;rw[<- wk,Array.toList_filterMap,this];simp
 refine⟨{ mask:=m,place:=((lv m G).map (·.1)).toArray,dummies:=#[],finger:=fg,led:=ld,moves:=mv,plain:=pl },((lv m G).map (·.2)).toArray,?_,rfl,?_,?_,?_,rfl,rfl,rfl,Ye⟩
 .unfold laid;rw[e];rfl
 .have qk:∀x∈(lv m G).map (·.2),(es[x]?).isSome=true:=λx hx=>by
   have:=ju.mp (Ye.mem_iff.mp hx)
   simp;exact this
  have get:∀q:Nat,((((lv m G).map (·.2)).toArray).filterMap (es[·]?))[q]?=((lv m G)[q]?).bind λa=>es[a.2]?:=λq=>by rw[<- qb,Array.toList_filterMap,alv qk,jh];cases(lv m G)[q]?<;>rfl
  have U:∀q j:Nat,(((lv m G).map (·.1)).toArray)[q]?=some j↔∃i,(lv m G)[q]?=some (j,i):=λq j=>by
   simp only[List.getElem?_toArray,jh,cg];constructor
   .rintro⟨a,h,rfl⟩;exact⟨a.2,h⟩
   .rintro⟨i,h⟩;exact⟨_,h,rfl⟩
  refine⟨hm,rfl,?_,?_,?_,?_,?_⟩
  .show(((lv m G).map (·.1)).toArray).size=_
   rw[qq];simp[R]
  .intro i j a b ea eb lt
   obtain⟨i1,e1⟩:=(U i a).mp ea;obtain⟨i2,e2⟩:=(U j b).mp eb;obtain⟨l1,g1⟩:=ak.mp e1;obtain⟨l2,g2⟩:=ak.mp e2;have:=List.pairwise_iff_getElem.mp (alu m G) i j l1 l2 lt;rw[g1,g2] at this;exact this
  .intro i j e
   obtain⟨i1,e1⟩:=(U i j).mp e;have:=(Px k).mp (az e1);have:=(jq.mp this).1;rw[k.Ue] at this;show j<=m
   exact z_ this
  .show(((lv m G).map (·.1)).toArray).size<=m
   simp[R];exact l
  .intro q j e' hp he
   obtain⟨i,e1⟩:=(U q j).mp hp;rw[get,e1] at he;have he:es[i]?=some e':=he;obtain⟨j',n,a,b,c⟩:=k.at' i e'.1 (by simp[he]);have hj:=k.inj j j' i ((Px k).mp (az e1)) a;subst hj;refine⟨n,b,λw lw=>?_⟩;obtain⟨i',qv⟩:=c w lw;obtain⟨z,hz⟩:=xg.mp ((Px k).mpr qv);exact⟨z,(U z _).mpr ⟨i',hz⟩⟩
 .rw[Array.toList_filterMap]
  have:=Ye.filterMap (es[·]?);rw[filterMap_getElem?_range] at this;exact this
 .exact qq
def Yg:∀n,n<32->Zt (sizeAbove (grown n)-1)/\n<=sizeAbove (grown n)-1/\n+1<=sizeAbove (grown n)-1/\¬(n*5 >= (sizeAbove (grown n)-1)*3)/\sizeAbove (grown n)<=128:=by unfold Zt;decide+kernel
def ab5:∀n,n<64->Zt (sizeAbove (n*2)-1)/\n<=sizeAbove (n*2)-1/\¬(n*5 >= (sizeAbove (n*2)-1)*3)/\sizeAbove (n*2)<=128:=by unfold Zt;decide+kernel
section
variable{prog:Program}{w:World}{K:Type}[DecidableEq K]{knd:KeyKind prog w K}{A:Around}{E:Y3}{s:Shared}
def ae5(n:Nat)(h:carriedByValue v=true):ofAClassStatement n v=pure false:=by cases v<;>first|(simp[carriedByValue] at h;done)|(unfold ofAClassStatement;rfl)
def Vu(hk:IsTupleKey knd s.heap ks a)(h:Q false s):wpAny (model prog w) A (ofAClassStatement 8 (.ref a)) Q E s:=by
 have hT:=hk.typeIs;obtain⟨o,G,n,ho,_,hd,hi⟩:=hk;unfold ofAClassStatement;refine aa (vh hT ?_);show wpAny _ _ (if("tuple"=="tuple")=true then _ else _) _ _ s;rw[cj (by decide)];refine aa (aj ?_);simp only[m6,bu,ik];refine aa (ug ho hd ?_);refine aa ?_;show wpAny _ _ (forIn G _ _) _ _ s;rw[<- Array.forIn_toList];refine qu _ (λZ r s'=>r.1=none/\s'=s/\∀v∈Z,carriedByValue v=true) _ ?_ ?_ _ _ ⟨rfl,rfl,hi.byValue⟩
 .rintro v Z r s' ⟨U,rfl,Dq⟩
  rw[ae5 _ (Dq v dg)];refine aa (aj ?_);simp only[bu,ik];exact aj ⟨rfl,rfl,λu R=>Dq u (bh _ R)⟩
 .rintro⟨r1,r2⟩ s' ⟨U,rfl,_⟩
  simp only at U;subst U;exact aj h
def alw(hk:IsTupleKey knd s.heap ks a)(hs:∀v∈st,∃ks b,v=.ref b/\IsTupleKey knd s.heap ks b)(h:Q false s) :
 wpAny (model prog w) A (searchCouldBeSeen (.ref a) st) Q E s:=by
 unfold searchCouldBeSeen;refine aa ?_;refine qu _ (λZ r U=>r.1=none/\U=s/\∀v∈Z,∃ks b,v=.ref b/\IsTupleKey knd s.heap ks b) _ ?_ ?_ _ _ ⟨rfl,rfl,hs⟩
 .rintro v Z r U ⟨R,rfl,Dq⟩
  obtain⟨qq,b,rfl,hb⟩:=Dq v dg;have G:∀v∈Z,∃ks b,v=.ref b/\IsTupleKey knd U.heap ks b:=λv hv=>Dq v (bh _ hv)
  dsimp only;split
  .exact aj ⟨rfl,rfl,G⟩
  .refine aa (wpAny_eqIsQuiet_tuple hk ?_)
   simp only[m6,bu,ik];refine aa (wpAny_eqIsQuiet_tuple hb ?_);simp only[m6,bu,ik];refine aa (Vu hk ?_);simp only[bu,ik];refine aa (Vu hb ?_);simp only[bu,ik];exact aj ⟨rfl,rfl,G⟩
 .rintro⟨r1,r2⟩ U ⟨R,rfl,_⟩
  simp only at R;subst R;exact aj h
noncomputable def ent(knd:KeyKind prog w K)(x:List K×Addr):Int×Value:=(tupleKeyHash knd x.1,.ref x.2)
def ae6{es:Array (Int×Value)}{xs:List (List K×Addr)}(Z:es.toList=xs.map (ent knd))(j:Nat):es[j]?=(xs[j]?).map (ent knd):=by rw[<- qb,Z,jh]
def ai8{xs:List (List K×Addr)}(hu:A.units<cLine)(hk:IsTupleKey knd s.heap k p)(ho:s.heap.get? a=some o)(hd:o.data=.set es ep t)(T:Xn t es)(he:es.toList=xs.map (ent knd))(hx:∀x∈xs,IsTupleKey knd s.heap x.1 x.2)(hn:(xs.map (·.1)).Nodup)(F:Fst t (tupleKeyHash knd k) N)(Xu:∀(i:Nat) x,xs[i]?=some x->x.1=k->Q (.there (if adding then none else some i)) s)(z1:(∀x∈xs,x.1≠k)->Q (.free (P t.mask (tupleKeyHash knd k) N).j false) s) :
 ∀(G n:Nat)(st:Option Probe),n<=N->N-n<G->st.getD (t.probeStart (tupleKeyHash knd k))=P t.mask (tupleKeyHash knd k) n ->
  (∀m,m<n->∀(i:Nat) x,t.place[i]?=some (P t.mask (tupleKeyHash knd k) m).j->xs[i]?=some x->x.1≠k) ->
  wpAny (model prog w) A (setSearchFrom a (.ref p) (tupleKeyHash knd k) adding G st) Q E s:=by
 intro G
 induction G with
 |zero=>intro n st _ l;omega
 |succ G ih =>
  intro n st q6 l Xv q4;unfold setSearchFrom;refine aa (gh ho hd T.fits ?_);dsimp only;rw[T.way,Xv];simp only[bu,ik];have zv:=alr T F (λi=>(es[i]?.map (·.1)).getD 0) (10*turns t.mask) n q6 (by have:=F.lt;exact c_ C_ this);generalize qq:t.probe _ (tupleKeyHash knd k) (P t.mask (tupleKeyHash knd k) n)=pr;have qq:t.probe (λi=>(es[i]?.map (·.1)).getD 0) (tupleKeyHash knd k) (P t.mask (tupleKeyHash knd k) n)=pr:=qq;have atI:∀(i j:Nat),t.place[i]?=some j->∃x,xs[i]?=some x/\es[i]?=some (ent knd x):=λi j e=>by
   have li:i<es.size:=by rw[<- T.Ue];exact(jq.mp e).1
   have lx:i<xs.length:=by have:=nq List.length he;simp at this;exact b_ li (f_ this)
   refine⟨xs[i],by simp[lx],?_⟩;rw[ae6 he];simp[lx]
  rcases zv with⟨e,zw⟩|⟨m,i,h1,h2,h3,h4,h5,e⟩
  .have e:pr=_:=qq.symm.trans e
   subst e;dsimp only;refine aj (z1 λx q8 Z=>?_);obtain⟨i,hi⟩:=xg.mp q8;have U:es[i]?=some (ent knd x):=by rw[ae6 he,hi];rfl
   obtain⟨m,lm,hp⟩:=T.ahead F U (by unfold ent;rw[Z])
   by_cases q2:m<n
   .exact q4 m q2 i x hp hi Z
   .refine zw m (s_ q2) lm i hp ?_
    rw[U];show tupleKeyHash knd x.1=_;rw[Z]
  .have e:pr=_:=qq.symm.trans e
   subst e;dsimp only;obtain⟨x,q0,U⟩:=atI i _ h3;have zk:=hx x (az q0);have q5:∀{R:Bool->Shared->Prop},R false s->wpAny (model prog w) A (searchCouldBeSeen (.ref p) ((es.filter (·.1==tupleKeyHash knd k)).toList.map (·.2))) R E s:=λhR=>alw hk (λv hv=>by
    obtain⟨y,hy,rfl⟩:=bw.mp hv;have q3:y∈es.toList:=by simp at hy;simpa using hy.1
    rw[he] at q3;obtain⟨z,hz,rfl⟩:=bw.mp q3;exact⟨z.1,z.2,rfl,hx z hz⟩) hR
   rcases Bool.eq_false_or_eq_true t.led with a4t|a4t
   all_goals
    simp only[a4t,m6,zg,bu,ik,jn]
    first
    |(rw[U];show wpAny _ _ (holding [.ref x.2] (eqBool (.ref x.2) (.ref p)) >>= _) _ _ _)
    |(refine aa (q5 ?_);simp only[bu,ik];rw[U];show wpAny _ _ (holding [.ref x.2] (eqBool (.ref x.2) (.ref p)) >>= _) _ _ _)
    refine aa (il (wpAny_eqBool_tuple hu zk hk ?_));refine aa (gh ho hd T.fits ?_);dsimp only;have zz:t.sameMemory t.moves t.mask=some true:=by unfold sameMemory;simp
    rw[zz];dsimp only;rw[cj rfl,(Sv T.Zu).mpr h3];dsimp only;rw[U]
    by_cases Z:x.1=k
    .have qv:decide (x.1=k)=true:=by simp[Z]
     rw[qv];have hq:=Xu i x q0 Z;cases adding
     .simp only[Bool.false_and,bu,ik]
      refine aa (wpAny_isSame_ref_self ?_);refine aa (aj ?_);simpa using aj hq
     .simp only[Bool.and_self,jn]
      exact aj hq
    .have qv:decide (x.1=k)=false:=by simp[Z]
     rw[qv];simp only[Bool.and_false,bu,ik];refine aa (wpAny_isSame_ref_self ?_);refine aa (aj ?_);simp only[jn];refine ih (m+1) _ h2 (by lia) rfl λm' z2 i' x' q1 qk=>?_
     by_cases hc:m'<n
     .exact q4 m' hc i' x' q1 qk
     .by_cases hm:m'=m
      .subst hm
       have ei:i'=i:=by rw[<- below_at T.Zu q1,<- below_at T.Zu h3]
       subst ei;rw[q0] at qk;cases qk;exact Z
      .intro q7
       have z0:es[i']?=some (ent knd x'):=by rw[ae6 he,qk];rfl
       refine h5 m' (s_ hc) (by lia) i' q1 ?_;rw[z0];show tupleKeyHash knd x'.1=_;rw[q7]
end
section
variable{prog:Program}{w:World}{K:Type}[DecidableEq K]{knd:KeyKind prog w K}{pk:List K×Addr->Prop}{A:Around}{E:Y3}{s:Shared}
noncomputable abbrev bt(w:World):Bool:=w.params.followText "set-order"
def J7(h:Q (bt w) s):wpAny (model prog w) A setsByText Q E s:=by unfold setsByText;exact aa (ym (aj h))
def Sx(knd:KeyKind prog w K)(pk:List K×Addr->Prop):Prop:=∀x,pk x->∀k∈x.1,∀v n,knd.is k v=true->hashByValue n v=pure true
theorem Ug:∀{ks:List K}{vs:Zl},ItemsAre knd ks vs->(∀k∈ks,∀v n,knd.is k v=true->hashByValue n v=pure true)->∀v∈vs,∀n,hashByValue n v=pure true
 |_,_,.nil,_,v,h=>by simp at h
 |_,_,.cons h t,hp,v,hv=>by
  rcases bz.mp hv with rfl|hv
  .exact λn=>hp _ dg _ n h
  .exact Ug t (λk Z=>hp k (bh _ Z)) v hv
def ae8(qq:Sx knd pk)(hk:IsTupleKey knd s.heap ks a)(hp:pk (ks,a))(h:Q true s):wpAny (model prog w) A (hashByValue 8 (.ref a)) Q E s:=by
 have hT:=hk.typeIs;obtain⟨o,G,n,ho,_,hd,hi⟩:=hk;unfold hashByValue;refine aa (wpAny_specialOf hT F.slot_tuple_hash.lookup ?_);dsimp only;refine aa (ug ho hd ?_);refine aa ?_;show wpAny _ _ (forIn G _ _) _ _ s;rw[<- Array.forIn_toList];refine qu _ (λZ r s'=>r.1=none/\s'=s/\∀v∈Z,∀n,hashByValue n v=pure true) _ ?_ ?_ _ _ ⟨rfl,rfl,Ug hi (qq _ hp)⟩
 .rintro v Z r s' ⟨U,rfl,Dq⟩
  rw[Dq v dg];refine aa (aj ?_);simp only[m6,bu,ik];exact aj ⟨rfl,rfl,λu R=>Dq u (bh _ R)⟩
 .rintro⟨r1,r2⟩ s' ⟨U,rfl,_⟩
  simp only at U;subst U;exact aj h
structure Sy(knd:KeyKind prog w K)(pk:List K×Addr->Prop)(h:Heap)(a:Addr)(xs:List (List K×Addr))(o:Obj)(es:Array (Int×Value))(ep:Nat)(t:SetTable):Prop where
 get:h.get? a=some o
 exa:o.ExactSet
 dat:o.data=.set es ep t
 tab:Xn t es
 ent:es.toList=xs.map (ent knd)
 keys:∀x∈xs,IsTupleKey knd h x.1 x.2/\pk x
 nod:(xs.map (·.1)).Nodup
 led:t.led=!bt w
 Yh:t.plain=true
def Df(knd:KeyKind prog w K)(pk:List K×Addr->Prop)(h:Heap)(a:Addr)(S:List K->Prop)(n:Nat):Prop:=∃Z o G U t,Sy knd pk h a Z o G U t/\(∀k,S k↔k∈Z.map (·.1))/\Z.length=n/\t.place.size*5<t.mask*3
theorem Sy.size(X:Sy knd pk h a xs o es ep t):es.size=xs.length:=by have:=nq List.length X.ent;simpa using this
def alx(p:Addr)(es:Array (Int×Value)):byScan (.ref p) es=false:=by unfold byScan;simp[Value.scannable]
def aly(h:Zt m):10*turns m<100000:=by rcases h with rfl|rfl|rfl|rfl|rfl<;>decide
def Vv(R:A.units<cLine)(U:IsTupleKey knd s.heap k p)(X:Sy knd pk s.heap a xs o es ep t)(F:Fst t (tupleKeyHash knd k) N)(Xu:∀(i:Nat) x,xs[i]?=some x->x.1=k->Q (.there (if adding then none else some i)) s)(Z:(∀x∈xs,x.1≠k)->Q (.free (P t.mask (tupleKeyHash knd k) N).j false) s) :
 wpAny (model prog w) A (setSearch a (.ref p) (tupleKeyHash knd k) adding) Q E s:=by
 unfold setSearch;exact ai8 R U X.get X.dat X.tab X.ent (λx G=>(X.keys x G).1) X.nod F Xu Z 100000 0 none (jx _) (by have:=F.lt;have:=aly X.tab.msk;lia) (ab3 _ _) (λm l=>by lia)
def arv(hu:A.units<cLine)(hk:IsTupleKey knd s.heap k p)(hS:Df knd pk s.heap a S n)(h:∀r:Option Nat,(r.isSome=true↔S k)->Q r s):wpAny (model prog w) A (setFind a (.ref p) (tupleKeyHash knd k)) Q E s:=by
 obtain⟨xs,o,es,ep,t,X,U,_,_⟩:=hS;obtain⟨N,F⟩:=X.tab.fst (tupleKeyHash knd k);unfold setFind setFindIn;refine aa (gh X.get X.dat X.tab.fits ?_);dsimp only;rw[alx];simp only[bu,ik];refine aa (Vv hu hk X F (λi x R Z=>?_) (λG=>?_))
 .simp only[bu,ik]
  exact aj (h _ (by simp;exact(U k).mpr (bw.mpr ⟨x,az R,Z⟩)))
 .dsimp only
  refine aj (h _ ?_);simp only[Option.isSome_none,bu,false_iff];intro hs;obtain⟨x,Z,e⟩:=bw.mp ((U k).mp hs);exact G x Z e
end
def By{α β:Type}{f:α->β}:∀{l l':List β},l.Perm l'->∀{xs:List α},l'=xs.map f->∃Z:List α,l=Z.map f/\Z.Perm xs:=by
 intro l l' p
 induction p with
 |nil=>intro xs e;cases xs with
  |nil=>exact⟨[],rfl,.nil⟩|cons _ _=>cases e
 |cons a p ih =>
  intro xs e;cases xs with
  |nil=>cases e
  |cons x xs =>
   simp only[ig,List.cons.injEq] at e;obtain⟨Z,G,R⟩:=ih e.2;exact⟨x::Z,by simp[G,e.1],R.cons x⟩
 |swap a b l =>
  intro xs e
  match xs,e with
  |x::y::xs,e =>
   simp only[ig,List.cons.injEq] at e;obtain⟨rfl,rfl,rfl⟩:=e;exact⟨y::x::xs,rfl,.swap x y xs⟩
 |trans p q U qq =>
  intro xs e;obtain⟨ys,G,R⟩:=qq e;obtain⟨zs,e2,p2⟩:=U G;exact⟨zs,e2,p2.trans R⟩
section
variable{prog:Program}{w:World}{K:Type}[DecidableEq K]{knd:KeyKind prog w K}{pk:List K×Addr->Prop}{A:Around}{E:Y3}{s:Shared}
def alz(x:IsTupleKey knd h ks p)(ho:h.get? a=some o)(hd:o.data=.set es ep t)(hs:Heap.SameBut a h h'):IsTupleKey knd h' ks p:=by
 obtain⟨U,Z,n,R,hc,G,hi⟩:=x;have Uh:p≠a:=by rintro rfl;obtain rfl:U=o:=jt (R.symm.trans ho);rw[hd] at G;exact nomatch G
 exact⟨U,Z,n,(hs.2 p Uh).trans R,hc,G,hi⟩
def newX(X:Sy knd pk h a xs o es ep t)(T':Xn t' es')(R:es'.toList=Z.map (ent knd))(U:∀x∈Z,IsTupleKey knd h x.1 x.2/\pk x)(hn:(Z.map (·.1)).Nodup)(hl:t'.led=!bt w)(hp:t'.plain=true) :
 Sy knd pk (h.update a (Obj.putSet es' t')) a Z { o with data:=.set es' (ep+1) t' } es' (ep+1) t':=by
 have hg:(h.update a (Obj.putSet es' t')).get? a=some { o with data:=.set es' (ep+1) t' }:=by have:=m8 (Obj.putSet es' t') X.get (by rw[putSet_of es' t' X.dat];rfl);rw[putSet_of es' t' X.dat] at this;exact this
 exact⟨hg,X.exa,rfl,T',R,λx G=>⟨alz (U x G).1 X.get X.dat (jm h a _),(U x G).2⟩,hn,hl,hp⟩
def Dm(h:n<=128):n<=sizeLine:=by rw[rm];exact a_ h (by decide)
def ab6(X:Sy knd pk s.heap a xs o es ep t)(hm:Zt (sizeAbove wanted-1))(hz:es.size<=sizeAbove wanted-1)(hb:sizeAbove wanted<=128)(h:∀h' G o' es' qq t',Heap.SameBut a s.heap h'->Sy knd pk h' a G o' es' qq t'->G.Perm xs->t'.mask=sizeAbove wanted-1->t'.place.size=es.size->Q () { s with heap:=h' }) :
 wpAny (model prog w) A (setRelay a wanted) Q E s:=by
 obtain⟨t',Z,e,e1,T',p,sz,hl,hp,_⟩:=Vg hm t.finger (t.movedTo (sizeAbove wanted-1)) t.led t.plain es hz;unfold setRelay;refine aa (gh X.get X.dat X.tab.fits ?_);dsimp only;rw[bx (by have:=Dm hb;exact j_ this)];have er:t.relaid (es.map (·.1)) wanted=some (t',Z):=e;rw[er];refine aa ?_;have R:wpAny (model prog w) A (if((Z.filterMap (es[·]?)).size != es.size)=true then(do unsupported "internal:set-table-lost-an-element";pure (Z.filterMap (es[·]?),t')) else pure (Z.filterMap (es[·]?),t'))
  (λr s'=>wpAny (model prog w) A (storeSet a r.1 r.2) Q E s') E s:=by
  rw[bx (by simp[sz])];refine aj ?_;obtain⟨G,ex,U⟩:=By p X.ent;have hX:=newX X T' ex (λx hx=>X.keys x (U.mem_iff.mp hx)) ((U.map _).nodup_iff.mpr X.nod) (hl.trans X.led) (hp.trans X.Yh);refine vz X.get X.dat (h _ _ _ _ _ _ (jm s.heap a _) hX U e1 (by rw[T'.Ue,sz])) (Dm (by rw[sz];exact a_ hz (a_ C_ hb)))
 exact R
def Zx(q2:Sx knd pk)(hu:A.units<cLine)(hk:IsTupleKey knd s.heap k p)(hp:pk (k,p))(hS:Df knd pk s.heap a S n)(hn:n+1<32)(h:∀h' n' b,Heap.SameBut a s.heap h'->Df knd pk h' a (λk'=>S k'\/k'=k) n'->n'<=n+1->Q b { s with heap:=h' }) :
 wpAny (model prog w) A (setAddHashed a (.ref p) (tupleKeyHash knd k)) Q E s:=by
 obtain⟨xs,o,es,ep,t,X,hm,hl,nf⟩:=hS;obtain⟨N,F⟩:=X.tab.fst (tupleKeyHash knd k);have qk:=X.size;unfold setAddHashed setAddHashedIn;refine il (aa (gh X.get X.dat X.tab.fits ?_));dsimp only;rw[alx];simp only[bu,ik];refine aa (Vv hu hk X F (λi x hi U=>?_) (λq5=>?_))
 .dsimp only
  refine aj ?_;have q0:S k:=(hm k).mpr (bw.mpr ⟨x,az hi,U⟩);have:=h s.heap n false (vy a s.heap) ⟨xs,o,es,ep,t,X,λk'=>by
   rw[<- hm k'];exact⟨λh=>h.elim id (λe=>e▸q0),.inl⟩,hl,nf⟩ x_
  exact this
 .dsimp only
  refine aa (gh X.get X.dat X.tab.fits ?_);dsimp only;have room:t.place.size+1<=t.mask:=by have:=X.tab.msk;rcases this with e|e|e|e|e<;>lia
  have T':=X.tab.put (x:=.ref p) F room;have Gu:(t.put (P t.mask (tupleKeyHash knd k) N).j).1.plain=true:=X.Yh;rw[Gu];simp only[jn];refine aa (ae8 q2 hk hp ?_);simp only[jn];obtain⟨G,ex,px⟩:=By (f:=ent knd) (insertAt_perm es (t.put (P t.mask (tupleKeyHash knd k) N).j).2 (tupleKeyHash knd k,.ref p)) (xs:=xs++[(k,p)]) (by rw[Array.toList_push,X.ent,pq];rfl);have pm:=px.map (·.1);have q3:(G.map (·.1)).Nodup:=pm.nodup_iff.mpr (by
   rw[pq,zc];refine⟨X.nod,by simp,λa ha b hb=>?_⟩;simp at hb;subst hb;rintro rfl;obtain⟨x,U,e⟩:=bw.mp ha;exact q5 x U e)
  have Vw:∀x∈G,IsTupleKey knd s.heap x.1 x.2/\pk x:=λx U=>by
   rcases dh.mp (px.mem_iff.mp U) with U|U
   .exact X.keys x U
   .simp at U;subst U;exact⟨hk,hp⟩
  have hX:=newX X T' ex Vw q3 X.led X.Yh;have Hz:∀k',(S k'\/k'=k)↔k'∈G.map (·.1):=λk'=>by rw[pm.mem_iff,pq,dh,hm k'];simp
  have qq:G.length=n+1:=by rw[px.length_eq];simp[hl]
  have R:(insertAt es (t.put (P t.mask (tupleKeyHash knd k) N).j).2 (tupleKeyHash knd k,.ref p)).size=es.size+1:=Lr _ _ _;refine aa (vz X.get X.dat ?_ (Dm (by rw[R];exact e_ (c_ (v_ (f_ qk)) (c_ (v_ (f_ hl)) (b_ hn (by decide)))))));have qv:(t.put (P t.mask (tupleKeyHash knd k) N).j).1.place.size=es.size+1:=by rw[T'.Ue,R]
  by_cases Z:(t.put (P t.mask (tupleKeyHash knd k) N).j).1.tooFull=true
  .rw[Z]
   simp only[zg,Bool.and_self,jn];obtain⟨g1,g2,g3,g4,g5⟩:=Yg (es.size+1) (c_ (v_ (f_ qk)) (c_ (v_ (f_ hl)) hn));refine aa (ab6 hX g1 (by rw[R];exact g2) g5 λh' q4 o2 q1 q6 t2 sb X2 p2 em ps=>?_);refine aj (h h' (n+1) true ((jm s.heap a _).trans sb) ⟨q4,o2,q1,q6,t2,X2,λk'=>?_,by rw[p2.length_eq,qq],?_⟩ (bf _))
   .exact(Hz k').trans (p2.map (·.1)).mem_iff.symm
   .rw[ps,em,R];exact t_ g4
  .rw[Bool.not_eq_true] at Z
   rw[Z];simp only[Bool.and_false,bu,ik];refine aj (h _ (n+1) true (jm s.heap a _) ⟨G,_,_,_,_,hX,Hz,qq,?_⟩ (bf _));unfold tooFull at Z;have hf:(t.put (P t.mask (tupleKeyHash knd k) N).j).1.fill=es.size+1:=by unfold fill;rw[qv,T'.dum];rfl
   rw[hf] at Z;rw[qv];simp at Z;exact Z
end
open PySem
def upto(J:Nat->β->Shared->Prop)(G:∀i b z,i<n->J i b z->wpAny M A (f i b) (λr R=>match r with|.yield Z=>J (i+1) Z R|.done Z=>Q Z R) E z)(fin:∀b z,J n b z->Q b z)(start:J 0 b s) :
 wpAny M A (forIn [:n] b f) Q E s:=by
 have go:∀(k i:Nat)(b:β)(z:Shared),n=i+k->J i b z->wpAny M A (forIn (List.range' i k) b f) Q E z:=by
  intro k
  induction k with
  |zero=>intro i b z e hj;subst e;exact aj (fin b z hj)
  |succ k ih =>
   intro i b z e hj;show wpAny M A (forIn (i::List.range' (i+1) k) b f) Q E z;rw[List.forIn_cons];refine aa (mq (G i b z (by lia) hj) (λr R U=>?_) λ_ _ x=>x)
   match r,U with
   |.done Z,U=>exact aj U|.yield Z,U=>exact ih (i+1) Z R (by lia) U
 have e:(forIn [:n] b f:Sem β)=forIn (List.range' 0 n) b f:=by rw[Std.Legacy.Range.forIn_eq_forIn_range'];simp[Std.Legacy.Range.size]
 rw[e];exact go n 0 b s (by lia) start
def sub_dict_set:isSubtype (.type "dict") (.type "set")=pure false:=by rw[uf];kernel_rfl
def sub_dict_frozenset:isSubtype (.type "dict") (.type "frozenset")=pure false:=by rw[uf];kernel_rfl
section
variable{prog:Program}{w:World}{K:Type}[DecidableEq K]{knd:KeyKind prog w K}{pk:List K×Addr->Prop}{A:Around}{E:Y3}{s:Shared}
def Gv(Z:s.TypeIs v T)(U:isSubtype (.type T) (.type "set")=pure false)(G:isSubtype (.type T) (.type "frozenset")=pure false)(h:Q false s) :
 wpAny (model prog w) A (Builtin.Frozenset.isAnySet v) Q E s:=by
 unfold Builtin.Frozenset.isAnySet;refine aa (m5 Z U ?_);exact m5 Z G h
def afa(Z:s.TypeIs v "set")(h:Q true s):wpAny (model prog w) A (Builtin.Frozenset.isAnySet v) Q E s:=by unfold Builtin.Frozenset.isAnySet;refine aa (m5 Z sub_set_self ?_);exact aj h
noncomputable def qx(w:World):Obj:={ cls:=.type "set",dict:=none,data:=.set #[] 0 (.fresh 0 0 (!bt w)) }
def arz(G:h.get? a=some (qx w)):Df knd pk h a (λ_=>False) 0 :=
 ⟨[],qx w,#[],0,_,⟨G,⟨rfl,rfl,rfl⟩,rfl,⟨.inl rfl,rfl,rfl,λi j a b e=>by simp[SetTable.fresh] at e,λi j e=>by simp[SetTable.fresh] at e,by simp[SetTable.fresh],λi j e a=>by simp[SetTable.fresh] at a⟩,
  rfl,λx Z=>by simp at Z,Ax,rfl,rfl⟩,λk=>by simp,rfl,by simp[SetTable.fresh]⟩
set_option tactic.hygienic true in
def ar0(hS:Df knd pk s.heap a S n)(hl:n+m<64)(h:∀h',Heap.SameBut a s.heap h'->Df knd pk h' a S n->Q () { s with heap:=h' }):wpAny (model prog w) A (setRoomFor a m) Q E s:=by
 obtain⟨xs,o,es,ep,t,X,y,Y,nf⟩:=hS;have G:=X.size;unfold setRoomFor;refine aa (gh X.get X.dat X.tab.fits ?_);dsimp only;unfold roomFor;have C:=X.tab.Ue;split
 .rename_i Z e
  split at e
  .cases e
   obtain⟨g1,g2,g3,g4⟩:=ab5 (t.place.size+m) (c_ (v_ (f_ C)) (c_ (v_ (f_ G)) (c_ (v_ (f_ Y)) hl)));refine ab6 X g1 (by lia) g4 λh' U o2 J L t2 sb X2 R em u=>h h' sb ⟨U,o2,J,L,t2,X2,λk'=>?_,by rw[R.length_eq,Y],?_⟩
   .exact(y k').trans (R.map (·.1)).mem_iff.symm
   .rw[u,em];lia
  .cases e
 .exact aj (h s.heap (vy _ _) ⟨xs,o,es,ep,t,X,y,Y,nf⟩)
theorem Df.get(Z:Df knd pk h a S n):∃o es ep t,h.get? a=some o/\o.ExactSet/\o.data=.set es ep t/\t.fits es.size=true :=
 let ⟨_,o,es,ep,t,X,_⟩:=Z;⟨o,es,ep,t,X.get,X.exa,X.dat,X.tab.fits⟩
def Df.typeIs(Z:Df knd pk s.heap a S n):s.TypeIs (.ref a) "set" :=
 let ⟨o,_,_,_,ho,hc,_⟩:=Z.get;⟨o,ho,hc.1⟩
def Df.congr(G:Df knd pk h a S n)(e:∀k,S k↔Z k):Df knd pk h a Z n :=
 let ⟨xs,o,es,ep,t,X,hm,r⟩:=G;⟨xs,o,es,ep,t,X,λk=>(e k).symm.trans (hm k),r⟩
def al2(q8:Sx knd pk){id:String}(hu:A.units<cLine)(hS:Df knd pk s.heap a S n)(hd:s.heap.DictOfH (tupleKind knd) d xs)(zk:(d==sysModules)=false)(zv:∀x∈xs,pk (x.1,x.2.1))(hl:n+xs.length<31)(h:∀h' n',Heap.SameBut a s.heap h'->Df knd pk h' a (λk=>S k\/k∈xs.map (·.1)) n'->Q () { s with heap:=h' }) :
 wpAny (model prog w) A (Builtin.Frozenset.updateFrom id a (.ref d)) Q E s:=by
 have hT:=hd.typeIs;obtain⟨od,q2,z3,G,z5,Z,q4,q6,z4⟩:=hd;obtain⟨o0,z9,z7,t0,qk,z2,qv,z8⟩:=hS.get;have Uh:d≠a:=by rintro rfl;rw[G] at qk;cases qk;rw[Z] at qv;cases qv
 have R:q2.size=xs.length:=size_of_entries q4;unfold Builtin.Frozenset.updateFrom;refine aa (Gv hT sub_dict_set sub_dict_frozenset ?_);simp only[bu,ik];refine aa (vh hT ?_);rw[cj (by decide)];refine aa (wpAny_rule ?_);refine aa (m:=Builtin.Frozenset.addrOf (.ref d)) (aj ?_);rw[bx (by rw[zk];decide)];refine aa (wpAny_dictEpoch G Z ?_);refine aa (uc G Z ?_);refine aa (ar0 hS (by lia) λh1 q0 q7=>?_);have z0:h1.get? d=some od:=(q0.2 d Uh).trans G;refine aa (uc z0 Z ?_);refine aa ?_;refine upto (λi _ z=>∃h' n',z={ s with heap:=h' }/\Df knd pk h' a (λk=>S k\/k∈(xs.take i).map (·.1)) n'/\n'<=n+i/\Heap.SameBut a s.heap h') (λi _ z lt qq=>?_) (λ_ z qq=>?_) ⟨h1,n,rfl,q7.congr (λk=>by simp),x_,q0⟩
 .obtain⟨h',n',rfl,J8,Jj,U⟩:=qq
  have q1:h'.get? d=some od:=(U.2 d Uh).trans G;refine aa (uc q1 Z ?_);have lx:i<xs.length:=b_ lt (f_ R)
  have he:q2[i]?=some (entryOfKey (tupleKind knd) xs[i]):=by rw[entry_at q4];simp[lx]
  rw[he];have q5:IsTupleKey knd h' xs[i].1 xs[i].2.1:=alz (q6 _ (p7 lx)) qk qv U;show wpAny _ _ (holding [.ref xs[i].2.1] (setAddHashed a (.ref xs[i].2.1) (tupleKeyHash knd xs[i].1)) >>= _) _ _ _;refine aa (il (Zx (s:={ s with heap:=h' }) q8 hu q5 (zv _ (p7 lx)) J8 (by lia) λzw zz b q3 z1 z6=>?_));refine aa (wpAny_dictEpoch ((q3.2 d Uh).trans q1) Z ?_);rw[o8];refine aj ⟨zw,zz,rfl,z1.congr (λk=>?_),by lia,U.trans q3⟩;rw[List.take_add_one,pq,dh,show xs[i]?=some xs[i] by simp[lx]];simp[or_assoc]
 .obtain⟨h',n',rfl,J8,Jj,U⟩:=qq
  refine aj (h h' n' U (J8.congr λk=>?_));rw[yl (g_ R)]
end
section
variable{prog:Program}{w:World}{K:Type}[DecidableEq K]{knd:KeyKind prog w K}{pk:List K×Addr->Prop}{A:Around}{E:Y3}{s:Shared}
def ar4(Z:R (.ref s.heap.objs.size) { s with heap:=s.heap.push (qx w) }) :
 codeAny (model prog w) A (.call (.builtin "set.__new__") ⟨[.type "set",v],[]⟩) (wants R E) s:=by
 refine codeAny_call_builtin F.plain_set_new F.entry_set_new (wpAny_of_eq (F.newCall_set_1 v) ?_);have G:=sub_set_self;unfold Builtin.«set.__new__» Builtin.Frozenset.newClass
 wp_walk
 exact ym (aj (aa (wpAny_alloc (aj (aj Z)))))
set_option maxHeartbeats 3200000 in
def Ig{R:Shared->Prop}(qq:wpAny (model prog w) A.in1.in1 (Builtin.Frozenset.updateFrom "set.__init__" s.heap.objs.size x) (λ_ s'=>R s') E { s with heap:=s.heap.push (qx w) })(h:∀s',R s'->Q (.ref s.heap.objs.size) s') :
 wpAny (model prog w) A (call (.type "set") [x]) Q E s:=by
 obtain⟨c,tl,q4⟩:=vg.mro;have q2:=vg.made;have Zy:=vg.sub;refine wpAny_call (codeAny_of_tree ?_);show wpAny _ _ (callAny (.type "set") _) _ _ _;refine aj ⟨Code.quiet_builtin _ (by decide+kernel),ou F.entry_type_call ?_⟩;rw[Around.under_plain (weight_type_call_type "set" [x] []) rfl];have h1:=vg.notType;have h2:=vg.canCreate;have q3:=F.typeCall_set_1 x
 repeat (any_goals (first|assumption|wp_step))
 refine xj (ar4 (v:=x) (E:=E) (R:=λobj U=>obj=.ref s.heap.objs.size/\U={ s with heap:=s.heap.push (qx w) }) ⟨rfl,rfl⟩) λr U hr=>?_
 cases r with
 |error e=>exact hr
 |ok fl =>
  cases fl with
  |ret obj =>
   obtain⟨rfl,rfl⟩:=hr;have hS:(s.heap.push (qx w)).get? s.heap.objs.size=some (qx w):=bc _ rfl;have hT:Shared.TypeIs { s with heap:=s.heap.push (qx w) } (.ref s.heap.objs.size) "set" := ⟨_,hS,rfl⟩;have q0:=vg.init.lookup;have q1:=vg.init.bind (.ref s.heap.objs.size)
   repeat (any_goals (first|assumption|wp_step))
   refine xj (codeAny_call_builtin (R:=wants (λr G=>r=.none/\R G) E) vg.init.plain F.entry_set_init (check_set_init_1 hT ?_)) λqv G Z=>?_
   .unfold Builtin.«set.__init__» noKeywords
    generalize hUF:Builtin.Frozenset.updateFrom=UF at qq ⊢;unfold qx at hS hT qq ⊢
    wp_walk
    exact mq qq (λ_ s' hr=>aj ⟨rfl,hr⟩) (λe s' he=>he)
   .cases qv with
    |error e=>exact Z
    |ok qk =>
     cases qk with
     |ret r =>
      obtain⟨rfl,hq⟩:=Z
      repeat (any_goals (first|assumption|wp_step))
      exact h _ hq
     |_=>exact Z.elim
  |_=>exact hr.elim
end
open PyProof.Rows (F.entry_set_update_loop F.plain_set_update_loop)
section
variable{prog:Program}{w:World}{K:Type}[DecidableEq K]{knd:KeyKind prog w K}{pk:List K×Addr->Prop}{A:Around}{E:Y3}{s:Shared}
def S8{wr:Xt}(Z:IsTupleKey knd h ks p)(hp:p∉wr)(G:∀b o,b∉wr->h.get? b=some o->h'.get? b=some o):IsTupleKey knd h' ks p :=
 let ⟨o,items,n,ho,r⟩:=Z;⟨o,items,n,G p o hp ho,r⟩
def Df.moved{wr:Xt}(hS:Df knd pk h a S n)(U:a∉wr)(R:∀(b:Addr) (ks:List K),b∈wr->¬IsTupleKey knd h ks b)(G:∀b o,b∉wr->h.get? b=some o->h'.get? b=some o):Df knd pk h' a S n :=
 let ⟨xs,o,es,ep,t,X,r⟩:=hS
 ⟨xs,o,es,ep,t,⟨G a o U X.get,X.exa,X.dat,X.tab,X.ent,λx Z=>⟨S8 (X.keys x Z).1 (λhc=>R _ _ hc (X.keys x Z).1) G,(X.keys x Z).2⟩,X.nod,X.led,X.Yh⟩,r⟩
def ar5(q5:Sx knd pk){I:Addr}{P:Nat->Value->Prop}(hu:A.in1.units<cLine)(W:WalksS prog w A.in1 I fp wr G n P St)(a:Addr)(q0:a∉fp)(ks:List (List K×Addr))(qv:ks.length=n)(z0:∀i v x,P i v->ks[i]?=some x->v=.ref x.2)(zz:∀x∈ks,pk x)(hb:n<31)(z1:∀x∈ks,x.2∉wr)(q3:∀i (s:Shared),St i s->∀(b:Addr) (ks:List K),b∈wr->¬IsTupleKey knd s.heap ks b) :
 ∀(k i n':Nat)(s:Shared),n-i=k->i<=n->St i s->(∀x∈ks,IsTupleKey knd s.heap x.1 x.2) ->
  Df knd pk s.heap a (λk'=>k'∈(ks.take i).map (·.1)) n'->n'<=i ->
  (∀Z q8,Moved (a::wr) G s Z->Df knd pk Z.heap a (λk'=>k'∈ks.map (·.1)) q8->R (.ok (.ret .none)) Z) ->
  codeAny (model prog w) A (.builtin "set.update.loop" ⟨[.ref a,.ref I],[]⟩) R s:=by
 have q1:a∉wr:=λh=>q0 (W.sub _ h)
 have Zy:∀b∈wr,b∈a::wr:=λb hb=>bh _ hb
 intro k
 induction k with
 |zero =>
  intro i n' s hk hi Xv Vw hS Jj hR;have Xu:i=n:=by lia
  subst Xu;refine ou uq ?_;rw[j7 mj _];show wpAny _ A.in1 (pyNext (.ref I) >>= _) _ _ s;refine aa (W.done s _ _ Xv λZ hm=>?_);show wpAny _ A.in1 (ret Value.none) _ _ Z;refine aj (hR Z n' (hm.mono Zy) ((hS.moved q1 (q3 _ s Xv) hm.heap).congr λk=>?_));rw[yl (f_ qv)]
 |succ k ih =>
  intro i n' s hk hi Xv Vw hS Jj hR;have Jh:i<n:=by lia
  refine ou uq ?_;rw[j7 mj _];show wpAny _ A.in1 (pyNext (.ref I) >>= _) _ _ s;refine aa (W.item i s _ _ Jh Xv λv Z hP zv hm=>?_);have lx:i<ks.length:=b_ Jh (g_ qv)
  have q2:ks[i]?=some ks[i]:=by simp[lx]
  obtain rfl:=z0 i v _ hP q2;have U:=p7 lx;have J8:=hS.moved q1 (q3 _ s Xv) hm.heap;have qk:∀x∈ks,IsTupleKey knd Z.heap x.1 x.2:=λx hx=>S8 (Vw x hx) (z1 x hx) hm.heap
  show wpAny _ A.in1 (holding [Value.ref ks[i].2] (setAdd a (.ref ks[i].2)) >>= _) _ _ Z;refine aa (il ?_);unfold setAdd;refine il ?_;refine aa (wpAny_pyHash_tuple hu (qk _ U) ?_);refine Zx (s:={ Z with toks:=Z.toks+(ks[i].1.length+1) }) q5 hu (qk _ U) (zz _ U) J8 (by lia) λh' n2 b qq q6 Py=>?_
  obtain⟨oa,z6,z4,ta,q4,z3,zk,z5⟩:=J8.get;refine aj ⟨plainId_quiet mj _,ih (i+1) n2 _ (by lia) Jh (W.frame _ Z _ _ zv (yp _ _) λb hb o e=>?_) (λx hx=>alz (qk x hx) q4 zk qq) (q6.congr λk=>?_) (a_ Py (v_ Jj)) λzw n3 z2 q7=>?_⟩
  .rw[qq.2 b (λh:b=a=>q0 (by rw[<- h];exact hb))];exact e
  .rw[List.take_add_one,pq,dh,q2];simp
  .refine hR zw n3 (Moved.trans W.gtrans ((hm.mono Zy).then_heap (yp _ _) λb o hb e=>?_) z2) q7
   rw[qq.2 b (λh:b=a=>hb (by rw[h];exact dg))];exact e
def al5(q4:Sx knd pk){id:String}{ks:List (List K×Addr)}(hh:A.handled=none)(hu:A.in1.units+1<cLine)(hS:Df knd pk s.heap a (λ_=>False) 0)(hl:s.heap.IsList l items)(qv:items.toList=ks.map λx=>.ref x.2)(Vw:∀x∈ks,IsTupleKey knd s.heap x.1 x.2)(q6:∀x∈ks,pk x)(qk:ks.length<31)(h:∀h' tk n',(∀b o,b≠a->s.heap.get? b=some o->h'.get? b=some o)->Df knd pk h' a (λk=>k∈ks.map (·.1)) n'->Q () { s with heap:=h',toks:=tk }) :
 wpAny (model prog w) A (Builtin.Frozenset.updateFrom id a (.ref l)) Q E s:=by
 have hT:s.TypeIs (.ref l) "list" := let ⟨o,Z,U,_⟩:=hl;⟨o,Z,U⟩;have qq:items.size=ks.length:=by rw[<- wk,qv];simp
 obtain⟨oa,z1,zw,ta,G,zv,q0,z0⟩:=hS.get;unfold Builtin.Frozenset.updateFrom;refine aa (Gv hT F.sub_list_set F.sub_list_frozenset ?_);simp only[bu,ik];refine aa (vh hT ?_);rw[bx (by decide)];refine aa (yf hl ?_);refine aa (wpAny_runValue ?_);have Jh:l<s.heap.objs.size:=let ⟨o,Z,_⟩:=hl;au Z
 have q8:a<s.heap.objs.size:=au G
 have q2:l≠a:=by rintro rfl;obtain⟨o,Z,_,n,hd⟩:=hl;rw[Z] at G;cases G;rw[hd] at q0;cases q0
 have zz:l≠s.heap.objs.size:=dq Jh;have q3:a∉[s.heap.objs.size,l]:=by simp only[bz,yo,or_false,not_or];exact⟨dq q8,λe=>q2 e.symm⟩
 have keep:∀b o,s.heap.get? b=some o->(s.heap.push { cls:=.type "list_iterator",data:=.fields #[.ref l,.int 0 0] }).get? b=some o:=λb o e=>ao _ e
 refine ar5 q4 (by lia) ((Walks.list (by simp[hh]) _ l zz items).toS) a q3 ks qq.symm (λi v x hv hx=>?_) q6 (c_ (f_ qq) qk) (λx hx U=>?_) (λi s' st b kk hb zk=>?_) items.size 0 0 _ rfl (jx _)
  ⟨⟨_,bc _ rfl,rfl,rfl⟩,hl.push _⟩ (λx hx=>S8 (wr:=[]) (Vw x hx) (by simp) λb o _ e=>keep b o e) ?_ (bf _) ?_
 .have:items.toList[i]?=some v:=by simpa using hv
  rw[qv,jh,hx] at this;exact(jt this).symm
 .simp at U
  obtain⟨o,_,_,Z,_⟩:=Vw x hx;have:=au Z;rw[U] at this;exact m7 _ this
 .simp at hb
  subst hb;obtain⟨o,_,_,Z,U,_⟩:=zk;obtain⟨⟨o',Zw,R,_⟩,_⟩:=st;rw[Z] at Zw;cases Zw;rw[U] at R;exact absurd R (by decide)
 .refine(hS.moved (wr:=[]) (by simp) (by simp) λb o _ e=>keep b o e).congr λk=>by simp
 .intro s' q5 hm J8
  obtain⟨h',g',d',q1,q7⟩:=s';have eg:g'=s.gens:=hm.gens;have ed:d'=s.drawn:=hm.drawn;have eo:q7=s.os:=hm.os;subst eg;subst ed;subst eo;show wpAny _ _ _ _ _ _;refine aj (h h' q1 q5 (λb o hb e=>?_) J8);refine hm.heap b o ?_ (keep b o e);simp only[bz,yo,or_false,not_or];exact⟨hb,dq (au e)⟩
end
theorem Vx{α:Type}:∀{l:List α}{i:Nat}(h:i<l.length),(l[i]::l.eraseIdx i).Perm l
 |x::l,0,_=>xm _
 |x::l,i+1,h=>by
  have Z:=Vx (l:=l) (i:=i) (by simpa using h);simp only[List.getElem_cons_succ,List.eraseIdx_cons_succ];exact(List.Perm.swap x _ _).trans (Z.cons x)
theorem ag4{α:Type}(nx:Nat->Nat):∀(G k:Nat)(Z:List α)(out:Array α),Z.length=G->(pickOrder.go nx G k Z out).toList.Perm (out.toList++Z)
 |0,k,Z,out,h=>by
  have:Z=[]:=qg.mp h;subst this;unfold pickOrder.go;simp
 |G+1,k,Z,out,h=>by
  unfold pickOrder.go;have U:nx k%Z.length<Z.length:=Nat.mod_lt _ (by lia)
  rw[dj U];dsimp only;refine(ag4 nx G (k+1) _ _ (by rw[List.length_eraseIdx];split<;>lia)).trans ?_;rw[Array.toList_push,q9];refine List.Perm.append_left _ ?_;exact Vx U
def Yi(nx:Nat->Nat)(xs:Array α):(pickOrder nx xs).toList.Perm xs.toList:=by unfold pickOrder;simpa using ag4 nx xs.size 0 xs.toList #[] (by simp)
theorem Vy{α:Type}[DecidableEq α]:∀{l1 l2:List α},l1.Nodup->l1 ⊆ l2->l2.length<=l1.length->∀x∈l2,x∈l1
 |[],l2,_,_,h,x,hx=>by
  have:l2=[]:=qg.mp (by simpa using h);subst this;simp at hx
 |a::l1,l2,hn,hs,h,x,hx=>by
  by_cases e:x=a
  .subst e;exact dg
  .refine bh _ ?_
   have U:a∈l2:=hs dg;have Z:=u0.mp hn;refine Vy (l2:=l2.erase a) Z.2 (λy G=>?_) ?_ x ((List.mem_erase_of_ne e).mpr hx)
   .exact(List.mem_erase_of_ne (λ(e:y=a)=>Z.1 (by rw[<- e];exact G))).mpr (hs (bh _ G))
   .rw[List.length_erase_of_mem U];simp at h;omega
def Zz:entryFor table "set.__ne__" = some Builtin.«frozenset.__ne__» :=
 entryFor_alias (id' := "frozenset.__ne__") (by kernel_rfl) rfl (by decide+kernel) (by kernel_rfl)
def sub_set_frozenset:isSubtype (.type "set") (.type "frozenset")=pure false:=by rw[uf];kernel_rfl
section
variable{prog:Program}{w:World}{K:Type}[DecidableEq K]{knd:KeyKind prog w K}{pk:List K×Addr->Prop}{A:Around}{E:Y3}{s:Shared}
set_option tactic.hygienic true in
def ar8(X:Sy knd pk s.heap a xs o es ep t)(h:∀l,l.toList.Perm es.toList->Q l s):wpAny (model prog w) A (setWalk a) Q E s:=by
 unfold setWalk;refine aa (gh X.get X.dat X.tab.fits ?_);dsimp only;refine aa (J7 ?_);split
 .exact aa (ym (aj (h _ (Yi _ _))))
 .rename_i Y
  have Y:bt w=false:=by simpa using Y
  split
  .rename_i Z
   have Z:(!t.plain&&decide (es.size > 1))=true:=Z;rw[X.Yh] at Z;cases Z
  .refine aa ?_
   have:wpAny (model prog w) A (if(!t.led&&decide (es.size > 1))=true then unsupported "set:maker-not-led" else pure ()) (λ_ G=>wpAny (model prog w) A (pure es) Q E G) E s:=by rw[X.led,Y];simp only[zg,m6,Bool.false_and,bu,ik];exact aj (aj (h es (xm _)))
   exact this
def aja(Z:IsTupleKey knd s.heap ks a)(h:Q false s):wpAny (model prog w) A (Builtin.Frozenset.quietEq (.ref a)) Q E s:=by
 unfold Builtin.Frozenset.quietEq;refine aa (wpAny_specialOf Z.typeIs F.slot_tuple_eq.lookup ?_);refine aj ?_;have:(some (Value.builtin "tuple.__eq__")==some (Value.builtin "object.__eq__"))=false:=by decide
 rw[this];exact h
def Z0(X:Sy knd pk h a xs o es ep t)(Z:e∈es.toList):∃x∈xs,e=ent knd x:=by rw[X.ent] at Z;obtain⟨x,G,rfl⟩:=bw.mp Z;exact⟨x,G,rfl⟩
def ajb(X:Sy knd pk s.heap a xs o es ep t)(Y:Sy knd pk s.heap b ys o' es' qq t')(h:∀l:List (Int×Value),l.Perm es.toList->Q l s):wpAny (model prog w) A (Builtin.Frozenset.walkUnseen a b) Q E s:=by
 unfold Builtin.Frozenset.walkUnseen;refine aa (j0 X.get X.dat X.tab.fits ?_);refine aa (j0 Y.get Y.dat Y.tab.fits ?_);refine aa ?_;refine qu _ (λZ r s'=>r.1=none/\s'=s/\∀e∈Z,∃ks p,e.2=.ref p/\IsTupleKey knd s.heap ks p) _ ?_ ?_ _ _ ⟨rfl,rfl,λe G=>?_⟩
 .rintro e Z r s' ⟨hr,rfl,Dq⟩
  obtain⟨ks,p,R,hk⟩:=Dq e dg;obtain⟨h0,x0⟩:=e;subst R;dsimp only;refine aa (aja hk ?_);simp only[zg,jn];unfold Builtin.Frozenset.walk;refine aa (aa (ar8 X λl hl=>aj ?_));exact aj (aj (h _ hl))
 .rintro⟨r1,r2⟩ s' ⟨hr,rfl,_⟩
  simp only at hr;subst hr;exact aj (h _ (xm _))
 .rcases dh.mp G with G|G
  .obtain⟨x,U,rfl⟩:=Z0 X G
   exact⟨x.1,x.2,rfl,(X.keys x U).1⟩
  .obtain⟨x,U,rfl⟩:=Z0 Y G
   exact⟨x.1,x.2,rfl,(Y.keys x U).1⟩
def ayk{id:String}(hu:A.units<cLine)(hS:Df knd pk s.heap a S n)(hT:Df knd pk s.heap b T m)(h:∀c:Bool,(c=true↔n<=m/\∀k,S k->T k)->Q c s):wpAny (model prog w) A (Builtin.Frozenset.subsetOf id a b) Q E s:=by
 have qk:=hT;obtain⟨xs,o,es,ep,t,X,hm,hn,_⟩:=hS;obtain⟨ys,o',q1,q0,t',Y,qv,Jj,_⟩:=hT;have h1:=X.size;have h2:=Y.size;unfold Builtin.Frozenset.subsetOf Builtin.Frozenset.sizeOf;refine aa (aa (j0 X.get X.dat X.tab.fits (aj ?_)));refine aa (aa (j0 Y.get Y.dat Y.tab.fits (aj ?_)));split
 .exact aj (h false (by simp;lia))
 .refine aa (wpAny_setEpoch_of X.get X.dat X.tab.fits ?_)
  refine aa (ajb X Y λl hl=>?_);refine aa ?_;refine qu _ (λG r s'=>r.1=none/\s'=s/\(∀e∈G,∃x∈xs,e=ent knd x)/\∀x∈xs,ent knd x∈G\/T x.1) _ ?_ ?_ _ _ ⟨rfl,rfl,λe he=>Z0 X (hl.mem_iff.mp he),λx R=>.inl (hl.mem_iff.mpr (by rw[X.ent];exact bw.mpr ⟨x,R,rfl⟩))⟩
  .rintro e G r s' ⟨hr,rfl,Dq,U⟩
   obtain⟨x,R,rfl⟩:=Dq e dg;show wpAny _ _ (holding [.ref x.2] (setFind b (.ref x.2) (tupleKeyHash knd x.1)) >>= _) _ _ _;refine aa (il (arv hu (X.keys x R).1 qk λr hr=>?_));cases r with
   |none =>
    simp only[Option.isNone_none,jn];refine aj (aj (h false ?_));simp only[bu,false_iff,not_and,Classical.not_forall];intro _;refine⟨x.1,(hm x.1).mpr (bw.mpr ⟨x,R,rfl⟩),λZ=>?_⟩;have:=hr.mpr Z;cases this
   |some i =>
    simp only[Option.isNone_some,bu,ik];unfold Builtin.Frozenset.unchanged;refine aa (aa (wpAny_setEpoch_of X.get X.dat X.tab.fits ?_));rw[bx (by simp)];refine aj (aj ⟨rfl,rfl,λe he=>Dq e (bh _ he),λy hy=>?_⟩);rcases U y hy with Z|Z
    .rcases bz.mp Z with Z|Z
     .right
      have qq:T x.1:=hr.mp rfl;have e2:y.2=x.2:=by have:=nq Prod.snd Z;unfold ent at this;injection this
      have:y.1=x.1:=IsTupleKey.inj (X.keys y hy).1 (by rw[e2];exact(X.keys x R).1);rw[this];exact qq
     .exact .inl Z
    .exact .inr Z
  .rintro⟨r1,r2⟩ s' ⟨hr,rfl,_,U⟩
   simp only at hr;subst hr;refine aj (h true ?_);simp only[true_iff];refine⟨by lia,λk hk=>?_⟩;obtain⟨x,R,rfl⟩:=bw.mp ((hm k).mp hk);rcases U x R with Z|Z
   .simp at Z
   .exact Z
set_option tactic.hygienic true in
def a5c(hu:A.in1.units<cLine)(y:A.units<cLine)(J:Df knd pk s.heap a S n)(C:Df knd pk s.heap b T m)(h:∀c:Bool,(c=true↔¬∀k,S k↔T k)->Q (.bool c) s):wpAny (model prog w) A (compareOp .NotEq (.ref a) (.ref b)) Q E s:=by
 show wpAny _ _ (richCompare .NotEq (.ref a) (.ref b)) _ _ _;refine wpAny_richCompare_same_room (op:=.NotEq) J.typeIs C.typeIs F.slot_set_ne (jf F.slot_set_ne J.typeIs Zz ?_ (F.args_set_ne_2 _ _)) y;have fin:∀c:Bool,(c=true↔∀k,S k↔T k)->Q (.bool !c) s:=λc hc=>h _ (by cases c<;>simp_all)
 have J8:=J;have qq:=C;obtain⟨xs,o,es,ep,t,X,u,R,_⟩:=J8;obtain⟨ys,o',qv,qk,t',Y,Z,L,_⟩:=qq;have h1:=X.size;have h2:=Y.size;have same:(∀k,S k↔T k)->n=m:=λe=>by
  have:(xs.map (·.1)).Perm (ys.map (·.1)):=(List.perm_ext_iff_of_nodup X.nod Y.nod).mpr λk=>by rw[<- u k,<- Z k];exact e k
  have:=this.length_eq;simp at this;exact u_ (a_ (g_ R) (a_ (f_ this) (f_ L))) (a_ (g_ L) (a_ (g_ this) (f_ R)))
 have U:n=m->(∀k,S k->T k)->∀k,S k↔T k:=λe hs k=>⟨hs k,λhk=>(u k).mpr (Vy X.nod (λk hk=>(Z k).mp (hs k ((u k).mpr hk))) (by simp;exact a_ (f_ L) (a_ (g_ e) (g_ R))) k ((Z k).mp hk))⟩
 show wpAny _ _ (Builtin.Frozenset.slot1 "__ne__" ⟨[.ref a,.ref b],[]⟩ >>= _) _ _ _;unfold Builtin.Frozenset.slot1 slotArgs;simp only[List.isEmpty_nil,m6,bu,↓reduceIte,bind_assoc,gm,Ah,o8];refine aa (aj ?_)
 try dsimp only
 refine aa (aj ?_)
 try dsimp only
 refine aa (afa C.typeIs ?_);simp only[m6,bu,↓reduceIte];refine aa (m:=Builtin.Frozenset.addrOf (.ref a)) (aj ?_);refine aa (m:=Builtin.Frozenset.addrOf (.ref b)) (aj ?_);unfold Builtin.Frozenset.sizeOf;refine aa (aa (j0 X.get X.dat X.tab.fits (aj ?_)));refine aa (aa (j0 Y.get Y.dat Y.tab.fits (aj ?_)));refine aa ?_;split
 .rename_i Uh
  refine aj ?_;refine aj ⟨_,rfl,(λe=>nomatch e),fin false ?_⟩;simp only[bu,false_iff];intro e;have:=same e;simp at Uh;lia
 .rename_i Uh
  have G:n=m:=by simp at Uh;lia
  refine aa (aa (m5 J.typeIs sub_set_frozenset ?_));refine aj ?_;simp only[bu,↓reduceIte];refine ayk hu J C λc hc=>?_
  exact aj ⟨_,rfl,(λe=>nomatch e),fin c (hc.trans ⟨λe=>U G e.2,λe=>⟨f_ G,λk=>(e k).mp⟩⟩)⟩
end
def ag5{prog:Program}{w:World}{A:Around}{α:Type}{Q:α->Shared->Prop}{E:Y3}{s:Shared}(Z:A.handled=none)(q:∀h' x,(∀b o,s.heap.get? b=some o->h'.get? b=some o)->(∃o,h'.get? x=some o/\o.cls=.type "StopIteration")->E (.ref x) { s with heap:=h' }):wpAny (model prog w) A (newExc (.type "StopIteration") [] >>= raiseNew) Q E s:=by simp only[newExc,newTuple];refine aa (aa (ud (aa (m:=firstArgMember _ _) (wpAny_of_eq (a:=Value.none) (by first|rfl|(simp only[firstArgMember];rfl)) (ud ?_ (by size_fits)))) (by size_fits)));simp only[raiseNew];refine aa (wpAny_handled ?_);rw[Z];exact aa (aj (wpAny_throw (q _ _ (λb o e=>ao _ (ao _ e)) ⟨_,bc _ rfl,rfl⟩)))
def asa(k:Xn t es)(F:Fst t h N)(room:t.place.size+1<=t.mask) :
 layNew t es h x=(insertAt es (t.put (P t.mask h N).j).2 (h,x),(t.put (P t.mask h N).j).1,false,false):=by
 have e:t.freeSlot h=some ((P t.mask h N).j,false):=by
  unfold freeSlot probe;rw[ab3];rcases alr k F (λ_=>h+1) (10*turns t.mask) 0 (jx _) (by have:=F.lt;exact c_ C_ this) with⟨a,_⟩|⟨m,i,_,_,_,c,_⟩
  .rw[a];rfl
  .lia
 have f:=(k.put (x:=x) F room).fits;unfold layNew;rw[e];show(insertAt es (t.put (P t.mask h N).j).2 (h,x),(t.put (P t.mask h N).j).1.orStandIn (insertAt es (t.put (P t.mask h N).j).2 (h,x)).size,false,!(t.put (P t.mask h N).j).1.fits (insertAt es (t.put (P t.mask h N).j).2 (h,x)).size)=_;unfold orStandIn;rw[cj f,f];rfl
def ajc(hm:Zt (sizeAbove wanted-1))(hz:es.size<=sizeAbove wanted-1) :
 ∃es' t',relayAll t es wanted=(es',t',false)/\t'.mask=sizeAbove wanted-1/\Xn t' es'/\es'.toList.Perm es.toList/\t'.led=t.led/\t'.plain=t.plain:=by
 obtain⟨t',Z,e,R,U,p,sz,hl,hp,_,G⟩:=Vg hm t.finger (t.movedTo (sizeAbove wanted-1)) t.led t.plain es hz;have er:t.relaid (es.map (·.1)) wanted=some (t',Z):=e;refine⟨Z.filterMap (es[·]?),t',?_,R,U,p,hl,hp⟩;unfold relayAll;rw[er];dsimp only;rw[cj];rw[aq];exact⟨by unfold coversAll;exact List.isPerm_iff.mpr G,U.fits⟩
noncomputable def enI(x:Int×Tok):Int×Value:=(hashInt x.1,.int x.1 x.2)
structure Bh(w:World)(h:Heap)(a:Addr)(xs:List (Int×Tok))(o:Obj)(es:Array (Int×Value))(ep:Nat)(t:SetTable):Prop where
 get:h.get? a=some o
 exa:o.ExactSet
 dat:o.data=.set es ep t
 tab:Xn t es
 ent:es.toList=xs.map enI
 nod:(xs.map (·.1)).Nodup
 led:t.led=!bt w
 Yh:t.plain=true
def uw(w:World)(h:Heap)(a:Addr)(S:Int->Prop)(n:Nat):Prop:=∃Z o G U t,Bh w h a Z o G U t/\(∀k,S k↔k∈Z.map (·.1))/\Z.length=n/\t.place.size*5<t.mask*3
theorem Bh.size(X:Bh w h a xs o es ep t):es.size=xs.length:=by have:=nq List.length X.ent;simpa using this
def Bh.elems(X:Bh w h a xs o es ep t):ElemsOf (intKind prog w) es.toList:=λe Z=>by rw[X.ent] at Z;obtain⟨x,_,rfl⟩:=bw.mp Z;exact⟨⟨x.1,by simp[enI,intKind,Value.isInt],rfl⟩,rfl⟩
def asb(X:Bh w h a xs o es ep t)(U:Xn t' es')(G:es'.toList=Z.map enI)(hn:(Z.map (·.1)).Nodup)(hl:t'.led=!bt w)(hp:t'.plain=true) :
 Bh w (h.update a (Obj.putSet es' t')) a Z { o with data:=.set es' (ep+1) t' } es' (ep+1) t':=by
 have R:(h.update a (Obj.putSet es' t')).get? a=some { o with data:=.set es' (ep+1) t' }:=by have:=m8 (Obj.putSet es' t') X.get (by rw[putSet_of es' t' X.dat];rfl);rw[putSet_of es' t' X.dat] at this;exact this
 exact⟨R,X.exa,rfl,U,G,hn,hl,hp⟩
theorem uw.get(Z:uw w h a S n):∃o es ep t,h.get? a=some o/\o.ExactSet/\o.data=.set es ep t/\t.fits es.size=true :=
 let ⟨_,o,es,ep,t,X,_⟩:=Z;⟨o,es,ep,t,X.get,X.exa,X.dat,X.tab.fits⟩
theorem afe:∀{a b:U1},a.Nodup->(∀x∈a,x∈b)->a.length<=b.length
 |[],_,_,_=>jx _
 |x::a,b,h,s=>by
  obtain⟨U,G⟩:=u0.mp h;have:=afe (b:=b.erase x) G λy Z=>(List.mem_erase_of_ne (λe:y=x=>U (e▸Z))).mpr (s y (.tail _ Z))
  rw[List.length_erase_of_mem (s x (.head _))] at this;have:=List.length_pos_of_mem (s x (.head _));rw[gm];lia
def uw.le(R:uw w h a S n){B:U1}(Z:∀k,S k->k∈B):n<=B.length:=by obtain⟨xs,o,es,ep,t,X,U,rfl,_⟩:=R;rw[<- dw (f:=(·.1))];exact afe X.nod λk G=>Z k ((U k).mpr G)
def uw.congr(G:uw w h a S n)(e:∀k,S k↔Z k):uw w h a Z n :=
 let ⟨xs,o,es,ep,t,X,hm,r⟩:=G;⟨xs,o,es,ep,t,X,λk=>(e k).symm.trans (hm k),r⟩
def uw.moved(G:uw w h a S n)(Z:∀o,h.get? a=some o->h'.get? a=some o):uw w h' a S n :=
 let ⟨xs,o,es,ep,t,X,r⟩:=G
 ⟨xs,o,es,ep,t,⟨Z o X.get,X.exa,X.dat,X.tab,X.ent,X.nod,X.led,X.Yh⟩,r⟩
def Qz(Z:h.get? a=some (qx w)):uw w h a (λ_=>False) 0 :=
 ⟨[],qx w,#[],0,_,⟨Z,⟨rfl,rfl,rfl⟩,rfl,⟨.inl rfl,rfl,rfl,λi j a b e=>by simp[SetTable.fresh] at e,λi j e=>by simp[SetTable.fresh] at e,by simp[SetTable.fresh],λi j e a=>by simp[SetTable.fresh] at a⟩,
  rfl,Ax,rfl,rfl⟩,λk=>by simp,rfl,by simp[SetTable.fresh]⟩
def Z3(hS:uw w s.heap a S n)(hn:n+1<32)(h:∀h' n' b,Heap.SameBut a s.heap h'->uw w h' a (λk'=>S k'\/k'=k) n'->n'<=n+1->Q b { s with heap:=h' }) :
 wpAny (model prog w) A (setAddHashed a (.int k tk) (hashInt k)) Q E s:=by
 obtain⟨xs,o,es,ep,t,X,hm,hl,nf⟩:=hS;obtain⟨N,F⟩:=X.tab.fst (hashInt k);have q7:=X.size;have qv:=X.elems (prog:=prog);have zw:(intKind prog w).is k (.int k tk)=true:=by simp[intKind,Value.isInt]
 unfold setAddHashed setAddHashedIn;refine il (aa (gh X.get X.dat X.tab.fits ?_));dsimp only;rw[byScan_of (knd:=intKind prog w) (x:=.int k tk) rfl (by unfold scanBound;lia) qv];simp only[↓reduceIte];unfold setAddByScan;refine aa ?_;refine aa (wpAny_rule ?_);refine aa (wpAny_setScan_of (knd:=intKind prog w) (k:=k) zw X.get X.dat X.tab.fits qv ?_);cases hr:List.findIdx? (λe=>(intKind prog w).is k e.2) es.toList with
 |some j =>
  dsimp only;obtain⟨hj,zk,_⟩:=vm.mp hr;have q6:S k:=by
   obtain⟨x,hx,ex⟩:∃x∈xs,enI x=es.toList[j]:=by have Hz:=p7 hj;generalize es.toList[j]=e at Hz;rw[X.ent] at Hz;exact bw.mp Hz
   have z1:(intKind prog w).is k (enI x).2=true:=by rw[ex];exact zk
   refine(hm k).mpr (bw.mpr ⟨x,hx,?_⟩);have:(intKind prog w).is x.1 (enI x).2=true:=by simp[enI,intKind,Value.isInt]
   exact(intKind prog w).inj _ _ _ this z1
  refine aj (aj ?_);have:=h s.heap n false (vy a s.heap) ⟨xs,o,es,ep,t,X,λk'=>by
   rw[<- hm k'];exact⟨λh=>h.elim id (λe=>e▸q6),.inl⟩,hl,nf⟩ x_
  exact this
 |none =>
  dsimp only;have zv:∀x∈xs,x.1≠k:=λx hx e=>by have:=yt.mp hr (enI x) (by rw[X.ent];exact bw.mpr ⟨x,hx,rfl⟩);subst e;simp[enI,intKind,Value.isInt] at this
  have room:t.place.size+1<=t.mask:=by have:=X.tab.msk;rcases this with e|e|e|e|e<;>lia
  have T':=X.tab.put (x:=.int k tk) F room;rw[asa X.tab F room];have Gu:(t.put (P t.mask (hashInt k) N).j).1.plain=true:=X.Yh;have q3:(t.put (P t.mask (hashInt k) N).j).1.led=!bt w:=X.led;obtain⟨U,ex,px⟩:=By (f:=enI) (insertAt_perm es (t.put (P t.mask (hashInt k) N).j).2 (hashInt k,.int k tk)) (xs:=xs++[(k,tk)]) (by rw[Array.toList_push,X.ent,pq];rfl);have pm:=px.map (·.1);have q1:(U.map (·.1)).Nodup:=pm.nodup_iff.mpr (by
   rw[pq,zc];refine⟨X.nod,by simp,λa ha b hb=>?_⟩;simp at hb;subst hb;rintro rfl;obtain⟨x,hx,e⟩:=bw.mp ha;exact zv x hx e)
  have hX:=asb X T' ex q1 q3 Gu;have Hz:∀k',(S k'\/k'=k)↔k'∈U.map (·.1):=λk'=>by rw[pm.mem_iff,pq,dh,hm k'];simp
  have R:U.length=n+1:=by rw[px.length_eq];simp[hl]
  have G:(insertAt es (t.put (P t.mask (hashInt k) N).j).2 (hashInt k,Value.int k tk)).size=es.size+1:=Lr _ _ _;have q4:(t.put (P t.mask (hashInt k) N).j).1.place.size=es.size+1:=by rw[T'.Ue,G]
  have hf:(t.put (P t.mask (hashInt k) N).j).1.fill=es.size+1:=by unfold fill;rw[q4,T'.dum];rfl
  generalize insertAt es (t.put (P t.mask (hashInt k) N).j).2 (hashInt k,Value.int k tk)=es1 at *;generalize(t.put (P t.mask (hashInt k) N).j).1=t1 at *;dsimp only;refine aa (aj ?_);rw[Gu];simp only[jn];refine aa ?_;rw[hashByValue_scannable 8 (x:=.int k tk) rfl];refine aj ?_;have z0:plainKind (.int k tk)=true:=rfl;simp only[z0,jn];refine aa (vz X.get X.dat ?_ (Dm (by lia)))
  by_cases Z:t1.tooFull=true
  .rw[Z]
   simp only[zg,Bool.and_self,jn];obtain⟨g1,g2,g3,g4,g5⟩:=Yg (es.size+1) (c_ (v_ (f_ q7)) (c_ (v_ (f_ hl)) hn));obtain⟨q0,t2,e2,m2,T2,p2,l2,q2⟩:=ajc (t:=t1) (es:=es1) (wanted:=grown (es.size+1)) g1 (a_ (f_ G) g2);rw[G,e2];dsimp only;refine aa (aj ?_);obtain⟨zz,q8,qq⟩:=By p2 ex;have q5:=asb hX T2 q8 ((qq.map _).nodup_iff.mpr q1) (l2.trans q3) (q2.trans Gu);have qk:q0.size=es.size+1:=by have:=p2.length_eq;simp at this;exact this.trans G
   refine aa (vz hX.get rfl ?_ (Dm (a_ (f_ qk) (a_ g2 (a_ C_ g5)))));refine aj (aj (h _ (n+1) true ((jm s.heap a _).trans (jm _ a _)) ⟨zz,_,q0,_,t2,q5,λk'=>?_,by rw[qq.length_eq,R],?_⟩ (bf _)))
   .exact(Hz k').trans (qq.map (·.1)).mem_iff.symm
   .rw[T2.Ue,m2,qk];exact t_ g4
  .rw[Bool.not_eq_true] at Z
   rw[Z];simp only[Bool.and_false,bu,ik];refine aj (aj (h _ (n+1) true (jm s.heap a _) ⟨U,_,_,_,_,hX,Hz,R,?_⟩ (bf _)));unfold tooFull at Z;rw[hf] at Z;rw[q4];simp at Z;exact Z
def al7{I:Addr}{P:Nat->Value->Prop}(W:WalksS prog w A.in1 I fp wr G n P St)(a:Addr)(qk:a∉fp)(ks:U1)(qq:ks.length=n)(zz:∀i v x,P i v->ks[i]?=some x->∃tk,v=.int x tk){B:U1}(hB:∀k∈ks,k∈B)(U:B.length<31) :
 ∀(k i n':Nat)(s:Shared),n-i=k->i<=n->St i s ->
  uw w s.heap a (λk'=>k'∈ks.take i) n'->n'<=B.length ->
  (∀Z q2,Moved (a::wr) G s Z->uw w Z.heap a (λk'=>k'∈ks) q2->q2<=B.length->R (.ok (.ret .none)) Z) ->
  codeAny (model prog w) A (.builtin "set.update.loop" ⟨[.ref a,.ref I],[]⟩) R s:=by
 have q0:a∉wr:=λh=>qk (W.sub _ h)
 have Zy:∀b∈wr,b∈a::wr:=λb U=>bh _ U
 intro k
 induction k with
 |zero =>
  intro i n' s hk hi Xv hS Jj hR;have Xu:i=n:=by lia
  subst Xu;refine ou uq ?_;rw[j7 mj _];show wpAny _ A.in1 (pyNext (.ref I) >>= _) _ _ s;refine aa (W.done s _ _ Xv λZ hm=>?_);show wpAny _ A.in1 (ret Value.none) _ _ Z;refine aj (hR Z n' (hm.mono Zy) ((hS.moved λo=>hm.heap a o q0).congr λk=>?_) Jj);rw[yl (f_ qq)]
 |succ k ih =>
  intro i n' s hk hi Xv hS Jj hR;have Jh:i<n:=by lia
  refine ou uq ?_;rw[j7 mj _];show wpAny _ A.in1 (pyNext (.ref I) >>= _) _ _ s;refine aa (W.item i s _ _ Jh Xv λv Z hP q6 hm=>?_);have lx:i<ks.length:=b_ Jh (g_ qq)
  have q1:ks[i]?=some ks[i]:=by simp[lx]
  obtain⟨tk,rfl⟩:=zz i v _ hP q1;have J8:=hS.moved λo=>hm.heap a o q0
  show wpAny _ A.in1 (holding [Value.int ks[i] tk] (setAdd a (.int ks[i] tk)) >>= _) _ _ Z;refine aa (il ?_);unfold setAdd;refine il ?_;refine aa (wpAny_pyHash_int ?_);refine Z3 (s:={ Z with toks:=Z.toks+1 }) J8 (by lia) λh' n2 b qv q5 Py=>?_
  have q3:uw w h' a (λk=>k∈ks.take (i+1)) n2:=q5.congr λk=>by rw[List.take_add_one,dh,q1];simp
  refine aj ⟨plainId_quiet mj _,ih (i+1) n2 _ (by lia) Jh (W.frame _ Z _ _ q6 (yp _ _) λb U o e=>?_) q3 (q3.le λk hk=>hB k (List.mem_of_mem_take hk)) λq7 n3 zk q8 q4=>?_⟩
  .rw[qv.2 b (λh:b=a=>qk (by rw[<- h];exact U))];exact e
  .refine hR q7 n3 (Moved.trans W.gtrans ((hm.mono Zy).then_heap (yp _ _) λb o U e=>?_) zk) q8 q4
   rw[qv.2 b (λh:b=a=>U (by rw[h];exact dg))];exact e
def ag6{id T:String}{io lo:Obj}{items:Q1}{St:Nat->Heap->Prop}(hS:uw w s.heap a (λ_=>False) 0)(Z:s.heap.get? l=some lo)(hc:lo.cls=.type T)(qv:∀es ep t,lo.data≠.set es ep t)(n1:isSubtype (.type T) (.type "set")=pure false)(n2:isSubtype (.type T) (.type "frozenset")=pure false)(nd:(Value.type T==.type "dict")=false)
 (hi:∀{Q:Y3},Q (.ref s.heap.objs.size) { s with heap:=s.heap.push io }->wpAny (model prog w) A (pyIter (.ref l)) Q E s) (W:l≠s.heap.objs.size->Walks prog w A.in1 s.heap.objs.size [s.heap.objs.size,l] [s.heap.objs.size] items.size (λi v=>items[i]?=some v) St) (h0:St 0 (s.heap.push io))
 (R:PyProof.Rows.IntsAre items.toList ks) {B:U1} (hB:∀k∈ks,k∈B) (U:B.length<31) (h:∀h' tk n',(∀b o,b≠a->s.heap.get? b=some o->h'.get? b=some o)->uw w h' a (λk=>k∈ks) n'->n'<=B.length->Q () { s with heap:=h',toks:=tk }) :
 wpAny (model prog w) A (Builtin.Frozenset.updateFrom id a (.ref l)) Q E s:=by
 have hT:s.TypeIs (.ref l) T:=⟨lo,Z,hc⟩;have q1:items.size=ks.length:=by rw[<- wk];exact PyProof.Rows.IntsAre.length R
 obtain⟨oa,zk,q8,ta,G,q7,q4,zz⟩:=hS.get;unfold Builtin.Frozenset.updateFrom;refine aa (Gv hT n1 n2 ?_);simp only[bu,ik];refine aa (vh hT ?_);rw[bx (by rw[nd];simp)];refine aa (hi ?_);refine aa (wpAny_runValue ?_);have Jh:l<s.heap.objs.size:=au Z
 have q6:a<s.heap.objs.size:=au G
 have qk:l≠a:=by rintro rfl;rw[Z] at G;cases G;exact qv _ _ _ q4
 have q0:a∉[s.heap.objs.size,l]:=by simp only[bz,yo,or_false,not_or];exact⟨dq q6,λe=>qk e.symm⟩
 have keep:∀b o,s.heap.get? b=some o->(s.heap.push io).get? b=some o:=λb o e=>ao _ e
 refine al7 ((W (dq Jh)).toS) a q0 ks q1.symm (λi v x hv hx=>?_) hB U items.size 0 0 _ rfl (jx _)
  h0 ?_ (jx _) ?_
 .obtain⟨tk,e⟩:=PyProof.Rows.IntsAre.int_at R i v (by rw[qb];exact hv)
  rw[du,hx] at e;exact⟨tk,e⟩
 .refine(hS.moved λo e=>keep a o e).congr λk=>by simp
 .intro s' q2 hm J8 q3
  obtain⟨h',g',d',qq,q5⟩:=s';have eg:g'=s.gens:=hm.gens;have ed:d'=s.drawn:=hm.drawn;have eo:q5=s.os:=hm.os;subst eg;subst ed;subst eo;show wpAny _ _ _ _ _ _;refine aj (h h' qq q2 (λb o hb e=>?_) J8 q3);refine hm.heap b o ?_ (keep b o e);simp only[bz,yo,or_false,not_or];exact⟨hb,dq (au e)⟩
def ajd{id:String}(hh:A.handled=none)(hS:uw w s.heap a (λ_=>False) 0)(hl:s.heap.IsList l items)(G:PyProof.Rows.IntsAre items.toList ks){B:U1}(hB:∀k∈ks,k∈B)(Z:B.length<31)(h:∀h' tk R,(∀b o,b≠a->s.heap.get? b=some o->h'.get? b=some o)->uw w h' a (λk=>k∈ks) R->R<=B.length->Q () { s with heap:=h',toks:=tk }) :
 wpAny (model prog w) A (Builtin.Frozenset.updateFrom id a (.ref l)) Q E s:=by
 have U:=hl;obtain⟨o,ho,hc,n,hd⟩:=U;exact ag6 hS ho hc (λ_ _ _ z=>by rw[hd] at z;cases z) F.sub_list_set F.sub_list_frozenset (by decide) (yf hl) (λne=>Walks.list (by simp[hh]) _ l ne items) ⟨⟨_,bc _ rfl,rfl,rfl⟩,hl.push _⟩ G hB Z h
def al8{id:String}(hh:A.handled=none)(hS:uw w s.heap a (λ_=>False) 0)(hl:s.heap.IsTuple l items)(G:PyProof.Rows.IntsAre items.toList ks){B:U1}(hB:∀k∈ks,k∈B)(Z:B.length<31)(h:∀h' tk R,(∀b o,b≠a->s.heap.get? b=some o->h'.get? b=some o)->uw w h' a (λk=>k∈ks) R->R<=B.length->Q () { s with heap:=h',toks:=tk }) :
 wpAny (model prog w) A (Builtin.Frozenset.updateFrom id a (.ref l)) Q E s:=by
 have U:=hl;obtain⟨o,ho,hc,n,hd⟩:=U;exact ag6 hS ho hc (λ_ _ _ z=>by rw[hd] at z;cases z) (by rw[uf];kernel_rfl) (by rw[uf];kernel_rfl) (by decide) (xr hl) (λne=>Walks.tuple (by simp[hh]) _ l ne items) ⟨⟨_,bc _ rfl,rfl,rfl⟩,o,ao _ ho,hc,n,hd⟩ G hB Z h
def aje(hh:A.handled=none)(hl:s.heap.IsList l items)(qq:PyProof.Rows.IntsAre items.toList ks){B:U1}(hB:∀k∈ks,k∈B)(G:B.length<31)(h:∀h' tk Z,(∀b o,s.heap.get? b=some o->h'.get? b=some o)->uw w h' s.heap.objs.size (λk=>k∈ks) Z->Z<=B.length->Q (.ref s.heap.objs.size) { s with heap:=h',toks:=tk }) :
 wpAny (model prog w) A (call (.type "set") [.ref l]) Q E s:=by
 refine Ig (R:=λs'=>∃h' tk Z,s'={ s with heap:=h',toks:=tk }/\(∀b o,s.heap.get? b=some o->h'.get? b=some o)/\uw w h' s.heap.objs.size (λk=>k∈ks) Z/\Z<=B.length)
  (ajd (s:={ s with heap:=s.heap.push (qx w) }) (by simp[hh]) (Qz (bc _ rfl)) (hl.push _) qq hB G λh' tk Z hk J8 U=>⟨h',tk,Z,rfl,λb o e=>hk b o (dq (au e)) (ao _ e),J8,U⟩)
  λs' ⟨h',tk,Z,e,hk,J8,U⟩=>by subst e;exact h h' tk Z hk J8 U
def ajf(hh:A.handled=none)(hl:s.heap.IsTuple l items)(qq:PyProof.Rows.IntsAre items.toList ks){B:U1}(hB:∀k∈ks,k∈B)(G:B.length<31)(h:∀h' tk Z,(∀b o,s.heap.get? b=some o->h'.get? b=some o)->uw w h' s.heap.objs.size (λk=>k∈ks) Z->Z<=B.length->Q (.ref s.heap.objs.size) { s with heap:=h',toks:=tk }) :
 wpAny (model prog w) A (call (.type "set") [.ref l]) Q E s:=by
 refine Ig (R:=λs'=>∃h' tk Z,s'={ s with heap:=h',toks:=tk }/\(∀b o,s.heap.get? b=some o->h'.get? b=some o)/\uw w h' s.heap.objs.size (λk=>k∈ks) Z/\Z<=B.length)
  (al8 (s:={ s with heap:=s.heap.push (qx w) }) (by simp[hh]) (Qz (bc _ rfl)) (let ⟨o,ho,r⟩:=hl;⟨o,ao _ ho,r⟩) qq hB G λh' tk Z hk J8 U=>⟨h',tk,Z,rfl,λb o e=>hk b o (dq (au e)) (ao _ e),J8,U⟩)
  λs' ⟨h',tk,Z,e,hk,J8,U⟩=>by subst e;exact h h' tk Z hk J8 U
def Vz:entryFor table "set.__iter__" = some Builtin.«frozenset.__iter__» :=
 entryFor_alias (id' := "frozenset.__iter__") (by kernel_rfl) rfl (by decide+kernel) (by kernel_rfl)
def Bo:Slot "set_iterator" "__next__" "set_iterator.__next__" :=
 .of (owner := "set_iterator") (n := "__next__") (by rw[typeLookup_type,builtinLookup_eq_fast];kernel_rfl) (by decide+kernel) (by decide+kernel) (by decide+kernel)
  (by first|exact .inl (by decide+kernel)|exact .inr (by decide+kernel)) (by rw[uf];kernel_rfl)
def Kz:Slot "set_iterator" "__iter__" "set_iterator.__iter__" :=
 .of (owner := "set_iterator") (n := "__iter__") (by rw[typeLookup_type,builtinLookup_eq_fast];kernel_rfl) (by decide+kernel) (by decide+kernel) (by decide+kernel)
  (by first|exact .inl (by decide+kernel)|exact .inr (by decide+kernel)) (by rw[uf];kernel_rfl)
def Jk:entryFor table "set_iterator.__next__" = some Builtin.«set_iterator.__next__»:=entryFor_of_fast (by kernel_rfl)
def Tc:entryFor table "set_iterator.__iter__" = some Builtin.«dict_keyiterator.__iter__» :=
 entryFor_alias (id' := "dict_keyiterator.__iter__") (by kernel_rfl) rfl (by decide+kernel) (by kernel_rfl)
def K1(a:Value):argsOk "set_iterator.__next__" ⟨[a],[]⟩:=by unfold argsOk;kernel_rfl
def U6(a:Value):argsOk "set_iterator.__iter__" ⟨[a],[]⟩:=by unfold argsOk;kernel_rfl
def afg(hs:Srt xs):below xs 0=0:=by
 obtain⟨G,Z,U⟩:=El (j:=0) hs;rcases Nat.eq_zero_or_pos (below xs 0) with e|e
 .exact e
 .have l:0<xs.size:=b_ e G
  have:=Z 0 xs[0] (by simp[l]) e
  lia
def afh(hs:Srt xs)(h:xs[i]?=some j):below xs (j+1)=i+1:=by
 obtain⟨h1,h2,G⟩:=El (j:=j+1) hs;have R:i<below xs (j+1):=by
  rcases yw i (below xs (j+1)) with l|l
  .exact l
  .have:=G i j h l;lia
 have U:¬i+1<below xs (j+1):=λl=>by
  have l2:i+1<xs.size:=b_ l h1
  have Z:xs[i+1]?=some xs[i+1]:=by simp[l2]
  have:=h2 (i+1) _ Z l;have:=hs i (i+1) j _ h Z B_
  lia
 exact u_ (s_ U) R
noncomputable def Q0(w:World)(a:Addr)(es:Array (Int×Value))(ep:Nat):Array (Int×Value):=if bt w then pickOrder (w.params.setOrder a ep) es else es
def Q3:(Q0 w a es ep).toList.Perm es.toList:=by
 unfold Q0;split
 .exact Yi _ _
 .exact xm _
def Ls:(Q0 w a es ep).size=es.size:=by have:=(Q3 (w:=w) (a:=a) (es:=es) (ep:=ep)).length_eq;simpa using this
noncomputable def itN(a:Addr)(Z i n ep:Nat):Obj:={ cls:=.type "set_iterator",data:=.fields #[.int Z 0,.int i 0,.ref a,.int n 0,.int ep 0] }
set_option tactic.hygienic true in
def aw4(X:Bh w s.heap a xs o es ep t){Z:Nat}(L:bt w=false->below t.place Z=i)(hs:∀e U,(Q0 w a es ep)[i]?=some e->(bt w=false->below t.place U=i+1)->Q (some (e.2,U)) s)(J:(Q0 w a es ep)[i]?=none->Q none s) :
 wpAny (model prog w) A (setNext a Z i ep) Q E s:=by
 unfold setNext;refine aa (gh X.get X.dat X.tab.fits ?_);dsimp only;refine aa (J7 ?_);cases hbt:bt w with
 |true =>
  simp only[jn,o8,bu,ik];refine aa ?_;unfold setWalk;refine aa (gh X.get X.dat X.tab.fits ?_);dsimp only;refine aa (J7 ?_);rw[hbt];simp only[jn];refine aa (ym (aj (aj ?_)));have Y:Q0 w a es ep=pickOrder (w.params.setOrder a ep) es:=by unfold Q0;rw[hbt];rfl
  show Q (((pickOrder (w.params.setOrder a ep) es)[i]?).map _) s;rw[<- Y];cases hg:(Q0 w a es ep)[i]? with
  |none=>exact J hg|some e=>exact hs e Z hg (λc=>by rw[hbt] at c;cases c)
 |false =>
  have Y:Q0 w a es ep=es:=by unfold Q0;rw[hbt];rfl
  simp only[bu,ik];split
  .rename_i G
   have G:(!t.plain&&decide (es.size > 1))=true:=G;rw[X.Yh] at G;cases G
  .refine aa ?_
   have fin:Q (match es[below t.place Z]?,t.place[below t.place Z]? with|some (_,x),some j=>some (x,j+1)|_,_=>none) s:=by
    rw[L hbt];cases hg:es[i]? with
    |none=>exact J (by rw[Y];exact hg)
    |some e =>
     have R:i<t.place.size:=by rw[X.tab.Ue];exact(jq.mp hg).1
     have C:t.place[i]?=some t.place[i]:=by simp[R]
     rw[C];exact hs e _ (by rw[Y];exact hg) (λ_=>afh X.tab.Zu C)
   have:wpAny (model prog w) A (if(!t.led&&!es.isEmpty)=true then unsupported "set:maker-not-led" else pure ()) (λ_ S=>wpAny (model prog w) A (pure (match es[below t.place Z]?,t.place[below t.place Z]? with|some (_,x),some j=>some (x,j+1)|_,_=>none)) Q E S) E s:=by rw[X.led,hbt];simp only[zg,m6,Bool.false_and,bu,ik];exact aj (aj fin)
   exact this
set_option tactic.hygienic true in
def al9{I:Addr}(X:Bh w s.heap a xs o es ep t){Z:Nat}(R:s.heap.get? I=some (itN a Z i es.size ep))(u:bt w=false->below t.place Z=i)(Y:(Q0 w a es ep)[i]?=some e)(hQ:∀h' G,h'.get? I=some (itN a G (i+1) es.size ep)->(bt w=false->below t.place G=i+1)->Heap.SameBut I s.heap h'->Q (some e.2) { s with heap:=h' }) :
 wpAny (model prog w) A (pyNext (.ref I)) Q E s:=by
 have S:s.TypeIs (.ref I) "set_iterator" := ⟨_,R,rfl⟩;unfold pyNext;refine aa (wpAny_attempt (j8 (name:=Str.ofString "__next__") S Bo
  (jf Bo S Jk ?_ (K1 _))))
 unfold Builtin.«set_iterator.__next__»;refine aa (m:=slotArgs "__next__" 0 _) (aj ?_);refine aa (wpAny_fieldsOf R rfl ?_);show wpAny _ _ (setEntries a >>= _) _ _ s;refine aa (j0 X.get X.dat X.tab.fits ?_);rw[o8];simp only[bu,ik];show wpAny _ _ (setNext a Z i ep >>= _) _ _ s;refine aa (aw4 X u (λe' G U J=>?_) (λy=>by rw[y] at Y;cases Y));rw[U] at Y;cases Y;dsimp only;refine aa (jd R (by simp) λh1 g1 L=>?_);refine aa (jd (s:={ s with heap:=h1 }) g1 (by simp) λh2 g2 C=>?_);exact aj ⟨_,rfl,aj (hQ h2 G (by rw[g2];rfl) J (L.trans C))⟩
set_option tactic.hygienic true in
def ase{I:Addr}(hh:A.handled=none)(X:Bh w s.heap a xs o es ep t){Z:Nat}(J:s.heap.get? I=some (itN a Z i es.size ep))(S:bt w=false->below t.place Z=i)(U:(Q0 w a es ep)[i]?=none)(y:∀h',Heap.ExtBut I s.heap h'->Q none { s with heap:=h' }) :
 wpAny (model prog w) A (pyNext (.ref I)) Q E s:=by
 have C:s.TypeIs (.ref I) "set_iterator" := ⟨_,J,rfl⟩;unfold pyNext;refine aa (wpAny_attempt (j8 (name:=Str.ofString "__next__") C Bo
  (jf Bo C Jk ?_ (K1 _))))
 unfold Builtin.«set_iterator.__next__»;refine aa (m:=slotArgs "__next__" 0 _) (aj ?_);refine aa (wpAny_fieldsOf J rfl ?_);show wpAny _ _ (setEntries a >>= _) _ _ s;refine aa (j0 X.get X.dat X.tab.fits ?_);rw[o8];simp only[bu,ik];show wpAny _ _ (setNext a Z i ep >>= _) _ _ s;refine aa (aw4 X S (λe' sl Y L=>by rw[Y] at U;cases U) (λhn=>?_));dsimp only;refine aa (jd J (by simp) λh1 g1 G=>?_);show wpAny _ _ (newExc (.type "StopIteration") [] >>= _) _ _ _;refine ag5 (show A.in1.handled=none from hh) λh' x k z_=>?_
 obtain⟨o,R,u⟩:=z_;exact aa (m5 (T := "StopIteration") (b:=true) ⟨o,R,u⟩ isSubtype_stop (aj (y _ λb o n z=>k b o (G.extBut b o n z))))
def ItS(w:World)(a I:Addr)(xs:List (Int×Tok))(o:Obj)(es:Array (Int×Value))(ep:Nat)(t:SetTable)(i:Nat)(h:Heap):Prop :=
 Bh w h a xs o es ep t/\∃Z,h.get? I=some (itN a Z i es.size ep)/\(bt w=false->below t.place Z=i)
def Bh.at(X:Bh w h a xs o es ep t)(e:h'.get? a=some o):Bh w h' a xs o es ep t:=⟨e,X.exa,X.dat,X.tab,X.ent,X.nod,X.led,X.Yh⟩
theorem Walks.bco{I:Addr}(hh:A.handled=none)(Uh:a≠I)(xs:List (Int×Tok))(o:Obj)(es:Array (Int×Value))(ep:Nat)(t:SetTable) :
 Walks prog w A I [I,a] [I] es.size (λi v=>((Q0 w a es ep)[i]?).map (·.2)=some v) (ItS w a I xs o es ep t) where
 sub:=λb Z=>by simp at Z;simp[Z]
 frame:=λ_ _ _ st hk=>⟨st.1.at (hk a (by simp) o st.1.get),let ⟨sl,e,r⟩:=st.2;⟨sl,hk I (by simp) _ e,r⟩⟩
 item:=λi s Q E hi st U=>by
  obtain⟨X,G,R,Z⟩:=st;have he:(Q0 w a es ep)[i]?=some ((Q0 w a es ep)[i]'(by rw[Ls];exact hi)):=by simp[Ls,hi]
  refine al9 X R Z he λh' sl g r sb=>U _ h' s.toks (by rw[he];rfl) ⟨X.at ((sb.2 a Uh).trans X.get),sl,g,r⟩ λb o Z e=>(sb.2 b (λh=>Z (by simp[h]))).trans e
 done:=λs Q E st U=>by obtain⟨X,G,R,Z⟩:=st;exact ase hh X R Z (by simp[Ls]) λh' qq=>U h' s.toks λb o Z e=>qq b o (λh=>Z (by simp[h])) e
 self:=λ_ s _ _ st U=>by obtain⟨X,G,R,Z⟩:=st;have hT:s.TypeIs (.ref I) "set_iterator" := ⟨_,R,rfl⟩;refine wpAny_pyIter_slot hT Kz (jf Kz hT Tc ?_ (U6 _));show wpAny _ _ (ret (.ref I)) _ _ s;exact aj ⟨_,rfl, "set_iterator",_,hT,Bo.lookup,U⟩
def a5f(X:Bh w s.heap a xs o es ep t)(U:Q (.ref s.heap.objs.size) { s with heap:=s.heap.push (itN a 0 0 es.size ep) }):wpAny (model prog w) A (pyIter (.ref a)) Q E s:=by
 have Z:s.TypeIs (.ref a) "set" := ⟨o,X.get,X.exa.1⟩;refine wpAny_pyIter_slot Z F.slot_set_iter (jf F.slot_set_iter Z Vz ?_ (F.args_set_iter_1 _));unfold Builtin.«frozenset.__iter__» Builtin.Frozenset.slot0 slotArgs;simp only[List.isEmpty_nil,m6,bu,↓reduceIte,bind_assoc,Ah,o8];unfold Builtin.Frozenset.addrOf Builtin.Frozenset.sizeOf;refine aa (aj ?_)
 try dsimp only
 refine aa (aj ?_);refine aa (aa (j0 X.get X.dat X.tab.fits (aj ?_)));refine aa ?_;unfold setDrawn;refine aa (gh X.get X.dat X.tab.fits ?_);dsimp only;refine aa (J7 (aj ?_));have G:(!bt w&&(!t.plain&&decide (es.size > 1)))=false:=by rw[X.Yh];simp
 show wpAny _ _ (if(!bt w&&(!t.plain&&decide (es.size > 1)))=true then _ else _) _ _ s;rw[G];simp only[bu,ik];refine aa (aj (aa (wpAny_setEpoch_of X.get X.dat X.tab.fits ?_)));exact aa (ud (aj ⟨_,rfl, "set_iterator",_,⟨_,bc _ rfl,rfl⟩,Bo.lookup,U⟩))
def a5g(Z:s.TypeIs (.ref a) "set")(h:Q false s):wpAny (model prog w) A (Builtin.List.listLengthHint (.ref a)) Q E s:=by
 unfold Builtin.List.listLengthHint;refine aa (wpAny_specialOf Z F.slot_set_len.lookup ?_)
 (generalize hid:("set.__len__" : String)=id0;(fail_if_success (clear hid id0));wp_delta;rw[show splitId id0=some ("set", "__len__") from by subst hid;decide+kernel];subst hid)
 refine aa (m5 (b:=true) Z sub_set_self ?_);refine aa (vh Z ?_);exact aj h
def ama(hh:A.handled=none)(X:Bh w s.heap a xs o es ep t)(hz:es.size<=sizeLine)(h:∀h' tk qk,(∀b o,s.heap.get? b=some o->h'.get? b=some o)->s.heap.objs.size<=h'.objs.size->ItemsOf (λi v=>((Q0 w a es ep)[i]?).map (·.2)=some v) qk es.size->Q qk.toList { s with heap:=h',toks:=tk }) :
 wpAny (model prog w) A (collect (.ref a)) Q E s:=by
 have Jh:a<s.heap.objs.size:=au X.get
 have U:s.heap.objs.size≠a:=o7 Jh;unfold collect;refine aa (wpAny_runValue (ou F.entry_proto_collect ?_));rw[j7 F.plain_proto_collect _];show wpAny _ A.in1 (newList [] >>= λl=>again (.builtin "list.__iadd__" ⟨[l,.ref a],[]⟩)) _ _ s;refine aa (ud ?_);refine aj ⟨plainId_quiet F.plain_list_iadd _,ou F.entry_list_iadd ?_⟩;rw[j7 F.plain_list_iadd _];have X1:Bh w (s.heap.push { cls:=.type "list",data:=.seq ([]:Zl).toArray }) a xs o es ep t:=X.at (ao _ X.get);have q2:Shared.TypeIs { s with heap:=s.heap.push { cls:=.type "list",data:=.seq ([]:Zl).toArray } } (.ref a) "set" := ⟨o,X1.get,X1.exa.1⟩;have h1:Builtin.List.listSameRef (.ref s.heap.objs.size) (.ref a)=false:=by simp[Builtin.List.listSameRef,U]
 show wpAny _ A.in1 (Builtin.List.listExtendWith (.ref s.heap.objs.size) (.ref a) (.ref s.heap.objs.size)) _ _ _;unfold Builtin.List.listExtendWith;refine aa (vh q2 ?_);rw[bx (by rw[h1];decide)];refine aa (a5f (s:={ s with heap:=s.heap.push { cls:=.type "list",data:=.seq ([]:Zl).toArray } }) X1 ?_);have qv:(s.heap.push { cls:=.type "list",data:=.seq ([]:Zl).toArray }).objs.size=s.heap.objs.size+1:=iz ..;show wpAny _ A.in1 (holding [.ref (s.heap.push { cls:=.type "list",data:=.seq ([]:Zl).toArray }).objs.size] (Builtin.List.listLengthHint (.ref a)) >>= _) _ _ { s with heap:=(s.heap.push { cls:=.type "list",data:=.seq ([]:Zl).toArray }).push (itN a 0 0 es.size ep) };have gI:((s.heap.push { cls:=.type "list",data:=.seq ([]:Zl).toArray }).push (itN a 0 0 es.size ep)).get? (s.heap.push { cls:=.type "list",data:=.seq ([]:Zl).toArray }).objs.size=some (itN a 0 0 es.size ep):=bc _ rfl;have gS:((s.heap.push { cls:=.type "list",data:=.seq ([]:Zl).toArray }).push (itN a 0 0 es.size ep)).get? s.heap.objs.size=some { cls:=.type "list",data:=.seq ([]:Zl).toArray }:=ao _ (bc _ rfl);have R:∀b o,s.heap.get? b=some o->((s.heap.push { cls:=.type "list",data:=.seq ([]:Zl).toArray }).push (itN a 0 0 es.size ep)).get? b=some o:=λb o e=>ao _ (ao _ e)
 have q4:s.heap.objs.size<=((s.heap.push { cls:=.type "list",data:=.seq ([]:Zl).toArray }).push (itN a 0 0 es.size ep)).objs.size:=by rw[iz,qv];exact a_ x_ x_
 generalize(s.heap.push { cls:=.type "list",data:=.seq ([]:Zl).toArray }).push (itN a 0 0 es.size ep)=hp at *;rw[qv] at gI ⊢;have X2:Bh w hp a xs o es ep t:=X.at (R a o X.get);refine aa (il (a5g ⟨o,X2.get,X2.exa.1⟩ ?_));rw[cj (by decide+kernel)];refine aa (wpAny_rule ?_);refine aa ?_;show wpAny _ A.in1 (updateSeq s.heap.objs.size (·.push .none) >>= λ_=>updateSeq s.heap.objs.size (·.pop)) _ _ _;refine aa (wpAny_updateSeq gS rfl ?_);have Z:=m8 (Obj.mapSeq (·.push Value.none)) gS rfl;refine wpAny_updateSeq (hz:=by seq_fits) Z rfl ?_;have G:=m8 (Obj.mapSeq (·.pop)) Z rfl;have qq:∀b o,b≠s.heap.objs.size->hp.get? b=some o->((hp.update s.heap.objs.size (Obj.mapSeq (·.push Value.none))).update s.heap.objs.size (Obj.mapSeq (·.pop))).get? b=some o :=
  λb o hb e=>(vd _ _ (j5 hb)).trans ((vd _ _ (j5 hb)).trans e)
 have q5:((hp.update s.heap.objs.size (Obj.mapSeq (·.push Value.none))).update s.heap.objs.size (Obj.mapSeq (·.pop))).objs.size=hp.objs.size:=by rw[Heap.size_update,Heap.size_update]
 generalize(hp.update s.heap.objs.size (Obj.mapSeq (·.push Value.none))).update s.heap.objs.size (Obj.mapSeq (·.pop))=h3 at *;have W:=(Walks.bco (prog:=prog) (w:=w) (A:=A.in1) (I:=s.heap.objs.size+1) (a:=a) hh (dq (qj Jh)) xs o es ep t).toS;refine aj ⟨plainId_quiet F.plain_extend_loop _,codeAny_extend_loopS W hz _ (by simp only[bz,yo,or_false,not_or];exact⟨dq (p8 _),U⟩) _ es.size 0 _ _ _ rfl (jx _)
  ⟨X.at (qq a o (j5 U) (R a o X.get)),0,qq _ _ (o7 (p8 _)) gI,λ_=>afg X.tab.Zu⟩ G (ItemsOf.nil _) λs' q0 c' hm J8 Em=>?_⟩
 show wpAny _ A (load s.heap.objs.size >>= _) _ _ s';refine aa (wpAny_load J8 ?_);obtain⟨h',g',d',q1,q3⟩:=s';have eg:g'=s.gens:=hm.gens;have ed:d'=s.drawn:=hm.drawn;have eo:q3=s.os:=hm.os;subst eg;subst ed;subst eo;refine aj (h h' q1 q0 (λb o e=>?_) ?_ Em)
 .have hb:=au e
  exact hm.heap b o (by simp only[bz,yo,or_false,not_or];exact⟨dq hb,dq (qj hb)⟩) (qq b o (dq hb) (R b o e))
 .have:=au J8
  exact yu this
def afi{s:Shared}(X:Bh w s.heap a xs o es ep t)(Em:ItemsOf (λi v=>((Q0 w a es ep)[i]?).map (·.2)=some v) acc es.size) :
 ∃ns:List Int,PyProof.Rows.IntsAre acc.toList ns/\ns.Perm (xs.map (·.1)):=by
 obtain⟨Z,ey,U⟩:=By (f:=enI) (Q3 (w:=w) (a:=a) (es:=es) (ep:=ep)) X.ent;have e1:acc.toList=Z.map λy=>Value.int y.1 y.2:=by
  apply ye;intro i;have R:acc.toList.length=es.size:=by simpa using Em.1
  have hy:Z.length=es.size:=by rw[U.length_eq,<- X.size]
  by_cases G:i<es.size
  .have e2:acc.toList[i]?=some (acc.toList[i]'(b_ G (g_ R))):=by simp[R,G]
   have e3:=Em.2 i _ (by rw[<- qb];exact e2);rw[e2,<- e3,<- qb,ey,jh,jh];cases Z[i]?<;>rfl
  .rw[kj (a_ (f_ R) (s_ G)),kj (by simp;exact a_ (f_ hy) (s_ G))]
 refine⟨Z.map (·.1),?_,U.map _⟩;rw[e1];clear e1 U ey Em
 induction Z with
 |nil=>exact .nil|cons y Z ih=>exact .cons _ _ ih
def ab7(hh:A.handled=none)(hS:uw w s.heap a S n)(hn:n<31)(h:∀(h':Heap) (tk:Nat) (p:Addr) (out:Q1) (ns:U1),(∀b o,s.heap.get? b=some o->h'.get? b=some o)->s.heap.objs.size<=p->PyProof.Rows.IntsAre out.toList ns->ns.Pairwise (·<=·)->ns.Nodup->(∀k,S k↔k∈ns) ->
 (∃c,h'.get? p=some (PyProof.Rows.seqObj "list" out c))->Q (.ref p) { s with heap:=h',toks:=tk }) :
 wpAny (model prog w) A (call (.builtin "sorted") [.ref a]) Q E s:=by
 obtain⟨xs,o,es,ep,t,X,hm,hl,nf⟩:=hS;have U:=X.size;refine Calls.call_function_entry PyProof.Rows.kind_sorted PyProof.Rows.plain_sorted PyProof.Rows.entry_sorted (PyProof.Rows.args_sorted1 _) ?_;unfold Builtin.«sorted»;refine aa (m:=checkCount "sorted" 1 1 _) (aj ?_);refine aa (ama (by simpa using hh) X (by rw[rm];exact e_ (c_ (f_ U) (c_ (f_ hl) (b_ hn (by decide))))) λh1 tk Z keep qk Em=>?_);obtain⟨ns,hI,pn⟩:=afi X Em;have G:Z.toList.length=n:=by have:=Em.1;simp;exact u_ (a_ (f_ this) (a_ (f_ U) (f_ hl))) (a_ (g_ hl) (a_ (g_ U) (g_ this)))
 have q0:Z=Z.toList.toArray:=by simp
 refine aa (wpAny_newList ?_ (by rw[rm];exact e_ (c_ (f_ G) (b_ hn (by decide)))));have R:(h1.push (PyProof.Rows.seqObj "list" Z.toList.toArray 0)).get? h1.objs.size=some (PyProof.Rows.seqObj "list" Z.toList.toArray 0):=bc _ rfl;refine aa (il (jf PyProof.Rows.slot_list_sort ⟨_,R,rfl⟩ PyProof.Rows.entry_list_sort (PyProof.Rows.list_sort_tree (s:={ s with heap:=h1.push (PyProof.Rows.seqObj "list" Z.toList.toArray 0),toks:=tk }) R hI (c_ (f_ G) (b_ hn (by decide))) λout qv a1 a2 a3=>⟨_,rfl,?_⟩) (PyProof.Rows.args_list_sort _)));have p2:=a2.trans pn;refine aj ⟨_,rfl,h _ tk h1.objs.size out qv (λb o e=>?_) qk a1 a3 (p2.nodup_iff.mpr X.nod) (λk=>(hm k).trans p2.mem_iff.symm) (PyProof.Rows.sortedHeap_at R)⟩;have qq:=keep b o e;have Jh:=au qq;rw[PyProof.Rows.sortedHeap_old (dq Jh) (by rw[iz];exact qj Jh),Heap.get?_push_ne _ _ _ (dq Jh)];exact qq
def Bh.setOf(X:Bh w h a xs o es ep t)(R:xs.length<32):h.SetOf (intKind prog w) a (λk=>decide (k∈xs.map (·.1))) xs.length :=
 ⟨o,es,ep,t,X.get,X.exa,X.dat,X.elems,λk=>by
  rw[cu,X.ent];constructor
  .intro h
   obtain⟨x,Z,rfl⟩:=bw.mp h;exact⟨enI x,bw.mpr ⟨x,Z,rfl⟩,by simp[enI,intKind,Value.isInt]⟩
  .rintro⟨e,G,U⟩
   obtain⟨x,Z,rfl⟩:=bw.mp G;refine bw.mpr ⟨x,Z,?_⟩;have:(intKind prog w).is x.1 (enI x).2=true:=by simp[enI,intKind,Value.isInt]
   exact(intKind prog w).inj _ _ _ this U,by rw[X.size];unfold scanBound;lia,X.tab.fits,X.size⟩
def a5j(U:uw w s.heap a S n)(R:n<32)(h:∀r:Option Nat,(r.isSome=true↔S k)->Q r s):wpAny (model prog w) A (setFind a (.int k tk) (hashInt k)) Q E s:=by
 obtain⟨xs,o,es,ep,t,X,G,hl,nf⟩:=U;refine wpAny_setFind_of (knd:=intKind prog w) (k:=k) (by simp[intKind,Value.isInt]) rfl (X.setOf (by lia)) λr Z=>h r ?_
 rw[Z,cu,G]
def a5k(X:Bh w s.heap a xs o es ep t)(h:Q (Q0 w a es ep) s):wpAny (model prog w) A (setWalk a) Q E s:=by
 unfold setWalk;refine aa (gh X.get X.dat X.tab.fits ?_);dsimp only;refine aa (J7 ?_);cases hbt:bt w with
 |true =>
  simp only[jn];refine aa (ym (aj ?_));have Z:Q0 w a es ep=pickOrder (w.params.setOrder a ep) es:=by unfold Q0;rw[hbt];rfl
  rw[Z] at h;exact h
 |false =>
  have Z:Q0 w a es ep=es:=by unfold Q0;rw[hbt];rfl
  rw[Z] at h;simp only[bu,ik];have G:¬(!t.plain&&decide (es.size > 1))=true:=by rw[X.Yh];simp
  show wpAny _ _ (if(!t.plain&&decide (es.size > 1))=true then _ else _) _ _ _;rw[bx G];refine aa ?_;show wpAny _ _ (if(!t.led&&decide (es.size > 1))=true then _ else pure ()) _ _ _;rw[X.led,hbt];exact aj (aj h)
def aw5(X:Bh w s.heap a xs o es ep t)(h:Q (Q0 w a es ep) s):wpAny (model prog w) A (setWalkUnseen a others filled) Q E s:=by
 unfold setWalkUnseen;refine aa (gh X.get X.dat X.tab.fits ?_);dsimp only;refine aa (J7 ?_);rw[X.led,X.Yh];have:(bt w||(!bt w&&true)||decide (es.size<=1))=true:=by cases bt w<;>rfl
 rw[this];exact a5k X h
def Td(X:Bh w s.heap a xs o es ep t)(h:Q ep s):wpAny (model prog w) A (setEpoch a) Q E s:=by unfold setEpoch;exact aa (gh X.get X.dat X.tab.fits (aj h))
def ag7(h:Q (.ref s.heap.objs.size) { s with heap:=s.heap.push (qx w) }):wpAny (model prog w) A (newSet (.type "set")) Q E s:=by unfold newSet;refine aa (J7 ?_);dsimp only;simp only[newObj];exact aa (wpAny_alloc (aj h))
def aw6(Z:s.TypeIs (.ref a) "set")(h:Q (.type "set") s):wpAny (model prog w) A (Builtin.Frozenset.baseOf a) Q E s:=by unfold Builtin.Frozenset.baseOf;refine aa (m5 (T := "set") (b:=true) Z ?_ (aj h));rw[uf];kernel_rfl
def Bh.ty{s:Shared}(X:Bh w s.heap a xs o es ep t):s.TypeIs (.ref a) "set" := ⟨o,X.get,X.exa.1⟩
def Q4(X:Bh w h a xs o es ep t):∀e∈(Q0 w a es ep).toList,∃k tk,e=(hashInt k,.int k tk)/\k∈xs.map (·.1):=λe Z=>by have Z:=Q3.mem_iff.mp Z;rw[X.ent] at Z;obtain⟨x,G,rfl⟩:=bw.mp Z;exact⟨x.1,x.2,rfl,bw.mpr ⟨x,G,rfl⟩⟩
def ab8(X:Bh w h a xs o es ep t)(G:k∈xs.map (·.1)):∃tk,(hashInt k,Value.int k tk)∈(Q0 w a es ep).toList:=by obtain⟨x,Z,rfl⟩:=bw.mp G;exact⟨x.2,Q3.mem_iff.mpr (by rw[X.ent];exact bw.mpr ⟨x,Z,rfl⟩)⟩
def ag8{id:String}{r wa as:Addr}(X:Bh w s.heap wa xs o es ep t)(hA:uw w s.heap as T m)(hm:m<32)(hx:xs.length<31)(hr:uw w s.heap r (λ_=>False) 0)(n1:r≠wa)(n2:r≠as)
 (h:∀h' n',Heap.SameBut r s.heap h'->uw w h' r (λk=>k∈xs.map (·.1)/\T k) n'->n'<=xs.length->Q () { s with heap:=h' }) :
 wpAny (model prog w) A (do
  for (h,x) in <- setWalkUnseen wa [as,r] (some r) do
   holding [x] do
    if(<- setFind as x h).isSome then
     let _ <- setAddHashed r x h
   Builtin.Frozenset.unchanged id wa ep) Q E s:=by
 refine aa (aw5 X ?_);have q2:(Q0 w wa es ep).size=xs.length:=by rw[Ls,X.size]
 refine aa (PySem.MeetsSeq2.wpAny_forIn_array _ (λqq b s'=>∃Z h' n',(Q0 w wa es ep).toList=Z++qq/\s'={ s with heap:=h' }/\Heap.SameBut r s.heap h'/\uw w h' r (λk=>(∃tk,(hashInt k,Value.int k tk)∈Z)/\T k) n'/\n'<=Z.length) _ (λe qq b s' hI=>?_) (λb s' hI=>?_) _ _ ⟨[],s.heap,0,rfl,rfl,vy _ _,hr.congr λk=>by simp,bf _⟩)
 .obtain⟨Z,h',n',e1,rfl,sb,hS,hn⟩:=hI
  obtain⟨k,tk,rfl,hk⟩:=Q4 X e (by rw[e1];simp);have X':Bh w h' wa xs o es ep t:=X.at (by rw[sb.2 wa n1.symm];exact X.get);have qv:uw w h' as T m:=hA.moved λo e=>by rw[sb.2 as n2.symm];exact e
  have lp:Z.length<31:=by
   have:=nq List.length e1;simp at this
   lia
  dsimp only;refine aa (il (aa (a5j (s:={ s with heap:=h' }) qv hm λq hq=>?_)))
  by_cases hT:T k
  .rw[hq.mpr hT]
   simp only[jn];refine aa (Z3 (s:={ s with heap:=h' }) hS (by lia) λU q1 b2 qk q0 Py=>aj ?_);have X2:Bh w U wa xs o es ep t:=X'.at (by rw[qk.2 wa n1.symm];exact X'.get);unfold Builtin.Frozenset.unchanged;refine aa (aa (Td (s:={ s with heap:=U }) X2 ?_));simp only[o8,bu,ik];refine aj (aj ⟨Z++[(hashInt k,.int k tk)],U,q1,by rw[e1];simp,rfl,sb.trans qk,q0.congr λk'=>?_,by simp;lia⟩);constructor
   .rintro(⟨⟨G,R⟩,U⟩|rfl)
    .exact⟨⟨G,ue _ R⟩,U⟩
    .exact⟨⟨tk,by simp⟩,hT⟩
   .rintro⟨⟨G,R⟩,U⟩
    rcases dh.mp R with z|z
    .exact .inl ⟨⟨G,z⟩,U⟩
    .have z:=jw.mp z
     injection z with z1 z2
     injection z2 with z2
     exact .inr z2
  .have:q.isSome=false:=by
    cases hz:q.isSome with
    |false=>rfl|true=>exact absurd (hq.mp hz) hT
   rw[this];simp only[bu,ik];refine aj ?_;unfold Builtin.Frozenset.unchanged;refine aa (aa (Td (s:={ s with heap:=h' }) X' ?_));simp only[o8,bu,ik];refine aj (aj ⟨Z++[(hashInt k,.int k tk)],h',n',by rw[e1];simp,rfl,sb,hS.congr λk'=>?_,by simp;lia⟩);constructor
   .rintro⟨⟨G,R⟩,U⟩
    exact⟨⟨G,ue _ R⟩,U⟩
   .rintro⟨⟨G,R⟩,U⟩
    rcases dh.mp R with z|z
    .exact⟨⟨G,z⟩,U⟩
    .have z:=jw.mp z
     injection z with z1 z2
     injection z2 with z2
     subst z2;exact absurd U hT
 .obtain⟨Z,h',n',e1,rfl,sb,hS,hn⟩:=hI
  rw[yd] at e1;refine aj (h h' n' sb (hS.congr λk=>?_) ?_)
  .rw[<- e1]
   constructor
   .rintro⟨⟨tk,R⟩,U⟩
    obtain⟨k',G,e,hk⟩:=Q4 X _ R;injection e with e1 e2
    injection e2 with e2
    subst e2;exact⟨hk,U⟩
   .rintro⟨R,U⟩
    exact⟨ab8 X R,U⟩
  .have:=nq List.length e1
   simp at this
   lia
def aw7(X:Bh w s.heap a xs o es ep t)(h:Q xs.length s):wpAny (model prog w) A (Builtin.Frozenset.sizeOf a) Q E s:=by unfold Builtin.Frozenset.sizeOf;refine aa (j0 X.get X.dat X.tab.fits (aj ?_));rw[X.size];exact h
def ayn{id:String}(hS:uw w s.heap a S n)(hT:uw w s.heap b T m)(hn:n<31)(hm:m<31)(ne:b≠a)(h:∀h' G,(∀c o,s.heap.get? c=some o->h'.get? c=some o)->uw w h' s.heap.objs.size (λk=>S k/\T k) G->G<31->Q (.ref s.heap.objs.size) { s with heap:=h' }) :
 wpAny (model prog w) A (Builtin.Frozenset.intersection id a (.ref b)) Q E s:=by
 have qq:=hS;have qv:=hT;obtain⟨xs,o,es,ep,t,X,hx,lx,nx⟩:=hS;obtain⟨ys,o',q0,qk,t',Y,hy,ly,ny⟩:=hT;have la:a<s.heap.objs.size:=au X.get
 have lb:b<s.heap.objs.size:=au Y.get
 unfold Builtin.Frozenset.intersection;have e0:(Value.ref b==Value.ref a)=false:=by simp[ne]
 rw[e0];simp only[bu,ik];refine aa (aw6 X.ty (aa (ag7 ?_)));have up:∀c o,s.heap.get? c=some o->(s.heap.push (qx w)).get? c=some o:=λc o e=>ao _ e
 have hr:uw w (s.heap.push (qx w)) s.heap.objs.size (λ_=>False) 0:=Qz (bc _ rfl);have X':Bh w (s.heap.push (qx w)) a xs o es ep t:=X.at (up _ _ X.get);have Y':Bh w (s.heap.push (qx w)) b ys o' q0 qk t':=Y.at (up _ _ Y.get);have J8:=qq.moved λo e=>up a o e
 have q1:=qv.moved λo e=>up b o e
 refine aa (aj (aa (il (aa (afa (s:={ s with heap:=s.heap.push (qx w) }) Y'.ty ?_)))));simp only[jn];refine aa (aj (aa (aw7 (s:={ s with heap:=s.heap.push (qx w) }) Y' (aa (aw7 (s:={ s with heap:=s.heap.push (qx w) }) X' ?_)))));have fin:∀{U:Int->Prop},(∀k,U k↔S k/\T k)->∀h' G,Heap.SameBut s.heap.objs.size (s.heap.push (qx w)) h'->uw w h' s.heap.objs.size U G->G<31->wpAny (model prog w) A (pure (Value.ref s.heap.objs.size)) Q E { s with heap:=h' }:=λhU h' G R Z Py =>
  aj (h h' G (λc o e=>by rw[R.2 c (dq (au e))];exact up c o e) (Z.congr hU) Py)
 by_cases c:ys.length > xs.length
 .rw[cj c]
  dsimp only;refine aa (Td (s:={ s with heap:=s.heap.push (qx w) }) X' ?_);exact ag8 (s:={ s with heap:=s.heap.push (qx w) }) X' q1 (by lia) (by lia) hr (o7 la) (o7 lb) λh' G R Z Py=>fin (λk=>by rw[<- hx]) h' G R Z (by lia)
 .rw[bx c]
  dsimp only;refine aa (Td (s:={ s with heap:=s.heap.push (qx w) }) Y' ?_);exact ag8 (s:={ s with heap:=s.heap.push (qx w) }) Y' J8 (by lia) (by lia) hr (o7 lb) (o7 la) λh' G R Z Py=>fin (λk=>by rw[<- hy];exact And.comm) h' G R Z (by lia)
def ayo(X:Bh w s.heap a xs o es ep t)(hm:Zt (sizeAbove wanted-1))(hz:es.size<=sizeAbove wanted-1)(hb:sizeAbove wanted<=128)(h:∀h' G o' es' R t',Heap.SameBut a s.heap h'->Bh w h' a G o' es' R t'->G.Perm xs->t'.mask=sizeAbove wanted-1->t'.place.size=es.size->Q () { s with heap:=h' }) :
 wpAny (model prog w) A (setRelay a wanted) Q E s:=by
 obtain⟨t',Z,e,e1,T',p,sz,hl,hp,_⟩:=Vg hm t.finger (t.movedTo (sizeAbove wanted-1)) t.led t.plain es hz;unfold setRelay;refine aa (gh X.get X.dat X.tab.fits ?_);dsimp only;rw[bx (by have:=Dm hb;exact j_ this)];have er:t.relaid (es.map (·.1)) wanted=some (t',Z):=e;rw[er];refine aa ?_;have U:wpAny (model prog w) A (if((Z.filterMap (es[·]?)).size != es.size)=true then(do unsupported "internal:set-table-lost-an-element";pure (Z.filterMap (es[·]?),t')) else pure (Z.filterMap (es[·]?),t'))
  (λr s'=>wpAny (model prog w) A (storeSet a r.1 r.2) Q E s') E s:=by
  rw[bx (by simp[sz])];refine aj ?_;obtain⟨G,ex,px⟩:=By p X.ent;have hX:=asb X T' ex ((px.map _).nodup_iff.mpr X.nod) (hl.trans X.led) (hp.trans X.Yh);exact vz X.get X.dat (h _ _ _ _ _ _ (jm s.heap a _) hX px e1 (by rw[T'.Ue,sz])) (Dm (by rw[sz];exact a_ hz (a_ C_ hb)))
 exact U
set_option tactic.hygienic true in
def a5l(X:Bh w s.heap a xs o es ep t)(hl:xs.length+m<31)(h:∀h' Z o' es' C t',Heap.SameBut a s.heap h'->Bh w h' a Z o' es' C t'->Z.Perm xs->(t'.place.size+m)*5<t'.mask*3->Q () { s with heap:=h' }):wpAny (model prog w) A (setRoomFor a m) Q E s:=by
 have qq:=X.size;have U:=X.tab.Ue;have hf:t.fill=t.place.size:=by unfold fill;rw[X.tab.dum];rfl
 unfold setRoomFor;refine aa (gh X.get X.dat X.tab.fits ?_);dsimp only;unfold roomFor;rw[hf];split
 .rename_i Y e
  split at e
  .cases e
   obtain⟨g1,g2,g3,g4⟩:=ab5 (t.place.size+m) (by lia);refine ayo X g1 (by lia) g4 λh' J u G L t2 y X2 R em S=>h h' J u G L t2 y X2 R ?_
   rw[S,em,<- U];lia
  .cases e
 .rename_i e
  refine aj (h s.heap xs o es ep t (vy _ _) X (xm _) ?_);split at e
  .exact(e _ rfl).elim
  .lia
def Bh.nh(X:Bh w h a xs o es ep t)(G:∀k,S k↔k∈xs.map (·.1))(Z:t.place.size*5<t.mask*3):uw w h a S xs.length:=⟨xs,o,es,ep,t,X,G,rfl,Z⟩
def amb{q3:Sem Unit}(hS:uw w s.heap a S n)(Y:Bh w s.heap b ys o' es' qv t')(ny:t'.place.size*5<t'.mask*3)(hl:n+ys.length<31)(ne:b≠a)(he:∀{Q:Unit->Shared->Prop} {h':Heap},Bh w h' b ys o' es' qv t'->Q () { s with heap:=h' }->wpAny (model prog w) A q3 Q E { s with heap:=h' })
 (h:∀h' n',Heap.SameBut a s.heap h'->uw w h' a (λk=>S k\/k∈ys.map (·.1)) n'->n'<=n+ys.length->Q () { s with heap:=h' }):wpAny (model prog w) A (setMerge a b q3) Q E s:=by
 obtain⟨xs,o,es,ep,t,X,hx,rfl,nx⟩:=hS;have qq:=Y.size;unfold setMerge;have e0:(a==b)=false:=by simp[ne.symm]
 rw[e0];simp only[bu,ik];refine aa (gh Y.get Y.dat Y.tab.fits ?_);dsimp only
 by_cases c:es'.isEmpty=true
 .rw[cj c]
  have:ys=[]:=qg.mp (by rw[<- qq];simpa using c);subst this;exact aj (h s.heap _ (vy _ _) ((X.nh hx nx).congr λk=>by simp) x_)
 .rw[bx c]
  refine aa (a5l X (by rw[qq];exact hl) λZ q0 o1 zw z0 G q5 X1 p1 r1=>?_);have Y1:Bh w Z b ys o' es' qv t':=Y.at (by rw[q5.2 b ne];exact Y.get);have q6:∀k,S k↔k∈q0.map (·.1):=λk=>(hx k).trans (p1.map (·.1)).mem_iff.symm
  refine aa (gh (s:={ s with heap:=Z }) X1.get X1.dat X1.tab.fits ?_);dsimp only;have hf:G.fill=G.place.size:=by unfold fill;rw[X1.tab.dum];rfl
  have em:(G.fill != 0)=false->q0=[]:=λz=>by rw[hf,X1.tab.Ue,X1.size] at z;exact qg.mp (by simpa using z)
  have led:(G.led&&t'.led)=!bt w:=by rw[X1.led,Y.led];cases bt w<;>rfl
  have Yh:(G.plain&&t'.plain)=true:=by rw[X1.Yh,Y.Yh];rfl
  have fin:∀{qk:Array (Int×Value)}{t2:SetTable},q0=[]->Xn t2 qk->qk.toList.Perm es'.toList->t2.led=!bt w->t2.plain=true->t2.place.size*5<t2.mask*3->wpAny (model prog w) A (storeSet a qk t2) Q E { s with heap:=Z }:=fun{qk t2} z T2 pe l2 q2 n2=>by
   subst z;obtain⟨zs,ez,pz⟩:=By pe Y.ent;have hX:=asb X1 T2 ez ((pz.map _).nodup_iff.mpr Y.nod) l2 q2;have sz:qk.size=ys.length:=by have:=pe.length_eq;simp at this;rw[this,qq]
   refine vz (s:={ s with heap:=Z }) X1.get X1.dat (h _ zs.length (q5.trans (jm Z a _)) (hX.nh (λk=>?_) n2) (by rw[pz.length_eq];exact Nat.le_add_left _ _)) (Dm (by lia));rw[(pz.map (·.1)).mem_iff,q6];simp
  have hr:G.road t'=if(G.fill != 0)=true then .oneByOne else if(G.mask==t'.mask&&t'.dummies.isEmpty)=true then .slotForSlot else .clean:=rfl
  by_cases c1:(G.fill != 0)=true
  .rw[hr,cj c1]
   dsimp only;refine aa (aw5 (s:={ s with heap:=Z }) Y1 ?_);have zv:(Q0 w b es' qv).size=ys.length:=by rw[Ls,qq]
   refine aa (PySem.MeetsSeq2.wpAny_forIn_array _ (λq4 _ s'=>∃U h' n',(Q0 w b es' qv).toList=U++q4/\s'={ s with heap:=h' }/\Heap.SameBut a s.heap h'/\uw w h' a (λk=>S k\/∃tk,(hashInt k,Value.int k tk)∈U) n'/\n'<=xs.length+U.length) _ (λe q4 u s' hI=>?_) (λu s' hI=>?_) _ _ ⟨[],Z,q0.length,rfl,rfl,q5,(X1.nh q6 (by lia)).congr λk=>by simp,by rw[p1.length_eq];exact x_⟩)
   .obtain⟨U,h',n',e1,rfl,sb,hS,hn⟩:=hI
    obtain⟨k,tk,rfl,hk⟩:=Q4 Y e (by rw[e1];simp);have lp:U.length+1<=ys.length:=by
     have:=nq List.length e1;simp at this
     lia
    dsimp only;refine aa (il (Z3 (s:={ s with heap:=h' }) hS (by lia) λh2 zk b2 q7 zz Py=>?_));have Y2:Bh w h2 b ys o' es' qv t':=Y.at (by rw[q7.2 b ne,sb.2 b ne];exact Y.get);refine aa (he Y2 (aa (gh (s:={ s with heap:=h2 }) Y2.get Y2.dat Y2.tab.fits ?_)));simp only[o8,bu,ik];refine aj ⟨U++[(hashInt k,.int k tk)],h2,zk,by rw[e1];simp,rfl,sb.trans q7,zz.congr λk'=>?_,by simp;lia⟩;constructor
    .rintro((Z|⟨q1,Z⟩)|rfl)
     .exact .inl Z
     .exact .inr ⟨q1,ue _ Z⟩
     .exact .inr ⟨tk,by simp⟩
    .rintro(Z|⟨q1,Z⟩)
     .exact .inl (.inl Z)
     .rcases dh.mp Z with z|z
      .exact .inl (.inr ⟨q1,z⟩)
      .have z:=jw.mp z
       injection z with z1 z2
       injection z2 with z2
       exact .inr z2
   .obtain⟨U,h',n',e1,rfl,sb,hS,hn⟩:=hI
    rw[yd] at e1;refine aj (h h' n' sb (hS.congr λk=>?_) ?_)
    .rw[<- e1]
     constructor
     .rintro(Z|⟨tk,Z⟩)
      .exact .inl Z
      .obtain⟨k',q1,e,hk⟩:=Q4 Y _ Z
       injection e with e1 e2
       injection e2 with e2
       subst e2;exact .inr hk
     .rintro(Z|Z)
      .exact .inl Z
      .exact .inr (ab8 Y Z)
    .have:=nq List.length e1
     simp at this
     lia
  .have z:=em (by simpa using c1)
   have mz:G.place.size=0:=by rw[X1.tab.Ue,X1.size,z];rfl
   by_cases c2:(G.mask==t'.mask&&t'.dummies.isEmpty)=true
   .rw[hr,bx c1,cj c2]
    dsimp only;have T2:Xn { t' with finger:=G.finger,led:=G.led&&t'.led,moves:=G.moves,plain:=G.plain&&t'.plain } es':=⟨Y.tab.msk,Y.tab.dum,Y.tab.Ue,Y.tab.Zu,Y.tab.bnd,Y.tab.ful,Y.tab.rch⟩;exact fin z T2 (xm _) led Yh ny
   .rw[hr,bx c1,bx c2]
    dsimp only;rw[mz,qq] at r1;obtain⟨t2,R,e,e1,T',p,sz,l2,q2,_⟩:=Vg X1.tab.msk G.finger G.moves (G.led&&t'.led) (G.plain&&t'.plain) es' (by lia);rw[e];refine aa ?_;have q8:wpAny (model prog w) A (if((R.filterMap (es'[·]?)).size != es'.size)=true then(do unsupported "internal:set-table-lost-an-element";pure (R.filterMap (es'[·]?),t2)) else pure (R.filterMap (es'[·]?),t2))
     (λr s'=>wpAny (model prog w) A (storeSet a r.1 r.2) Q E s') E { s with heap:=Z }:=by
     rw[bx (by simp[sz])];exact aj (fin z T' p (l2.trans led) (q2.trans Yh) (by rw[T'.Ue,sz,qq,e1];lia))
    exact q8
def Xw:entryFor table "set.__and__" = some Builtin.«frozenset.__and__»:=entryFor_alias (id' := "frozenset.__and__") (by kernel_rfl) rfl (by decide+kernel) (by kernel_rfl)
def Z4:entryFor table "set.__or__" = some Builtin.«frozenset.__or__»:=entryFor_alias (id' := "frozenset.__or__") (by kernel_rfl) rfl (by decide+kernel) (by kernel_rfl)
theorem uw.ty{s:Shared}(h:uw w s.heap a S n):s.TypeIs (.ref a) "set" := by obtain⟨G,o,Z,U,t,X,_⟩:=h;exact X.ty
def asf(G:uw w s.heap a S n)(U:uw w s.heap b T m)(hn:n+m<31)(ne:b≠a)(h:∀h' Z,(∀c o,s.heap.get? c=some o->h'.get? c=some o)->uw w h' s.heap.objs.size (λk=>S k/\T k) Z->Z<31->Q (.ref s.heap.objs.size) { s with heap:=h' }) :
 wpAny (model prog w) A (binaryOp .BitAnd (.ref a) (.ref b)) Q E s:=by
 refine wpAny_binaryOp_same (op:=.BitAnd) G.ty U.ty F.fills_set_and F.slot_set_and (jf F.slot_set_and G.ty Xw ?_ (F.args_set_and_2 _ _));show wpAny _ _ (Builtin.Frozenset.slot1 "__and__" ⟨[.ref a,.ref b],[]⟩ >>= _) _ _ _;unfold Builtin.Frozenset.slot1 slotArgs;simp only[List.isEmpty_nil,m6,bu,↓reduceIte,bind_assoc,gm,Ah,o8];refine aa (aj ?_)
 try dsimp only
 refine aa (aj ?_)
 try dsimp only
 refine aa (aa (afa G.ty ?_));simp only[toBool,↓reduceIte];refine afa U.ty ?_;simp only[m6,bu,↓reduceIte];refine aa (m:=Builtin.Frozenset.addrOf (.ref a)) (aj ?_);exact aa (ayn G U (by lia) (by lia) ne λh' Z k R Jj=>aj ⟨_,rfl,by simp,h h' Z k R Jj⟩)
def a5m{Q:Y3}{id:String}(hS:uw w s.heap a S n)(hT:uw w s.heap b T m)(hn:n+m<31)(ne:b≠a)(h:∀h' n',(∀c o,s.heap.get? c=some o->h'.get? c=some o)->uw w h' s.heap.objs.size (λk=>S k\/T k) n'->n'<31->Q (.ref s.heap.objs.size) { s with heap:=h' }) :
 wpAny (model prog w) A (do
  let result <- Builtin.Frozenset.copyOf a
  if Value.ref b != .ref a then holding [result] (Builtin.Frozenset.updateFrom id (<- Builtin.Frozenset.addrOf result) (.ref b))
  return result) Q E s:=by
 obtain⟨xs,o,es,ep,t,X,hx,lx,nx⟩:=hS;obtain⟨ys,o',q0,qv,t',Y,hy,ly,ny⟩:=hT;have la:a<s.heap.objs.size:=au X.get
 have lb:b<s.heap.objs.size:=au Y.get
 have up:∀c o,s.heap.get? c=some o->(s.heap.push (qx w)).get? c=some o:=λc o e=>ao _ e
 have hr:uw w (s.heap.push (qx w)) s.heap.objs.size (λ_=>False) 0:=Qz (bc _ rfl);unfold Builtin.Frozenset.copyOf;refine aa (aa (aw6 X.ty (aa (ag7 (aa (m:=Builtin.Frozenset.addrOf _) (aj (aa ?_)))))));refine amb (s:={ s with heap:=s.heap.push (qx w) }) hr (X.at (up _ _ X.get)) nx (by lia) (dq la) (λ_ q=>aj q) λU n1 G R q1=>aj ?_
 have e0:(Value.ref b != Value.ref a)=true:=by simp[ne]
 rw[e0];simp only[jn];refine aa (m:=Builtin.Frozenset.addrOf _) (aj (aa (il ?_)));have Y1:Bh w U b ys o' q0 qv t':=Y.at (by rw[G.2 b (dq lb)];exact up _ _ Y.get);unfold Builtin.Frozenset.updateFrom;refine aa (afa (s:={ s with heap:=U }) Y1.ty ?_);simp only[jn];refine aa (m:=Builtin.Frozenset.addrOf _) (aj ?_);unfold Builtin.Frozenset.merge;refine aa (Td (s:={ s with heap:=U }) Y1 ?_);refine amb (s:={ s with heap:=U }) R Y1 ny (by lia) (dq lb) (fun{Q h'} Z q=>?_) λh2 n2 qk qq Py=>aj (h h2 n2 (λc o e=>by
  have:=dq (au e);rw[qk.2 c this,G.2 c this];exact up c o e) (qq.congr λk=>by rw[<- hx,<- hy];simp) (by lia))
 unfold Builtin.Frozenset.unchanged;refine aa (Td (s:={ s with heap:=h' }) Z ?_);simp only[o8,bu,ik];exact aj q
def ayp(G:uw w s.heap a S n)(U:uw w s.heap b T m)(hn:n+m<31)(ne:b≠a)(h:∀h' Z,(∀c o,s.heap.get? c=some o->h'.get? c=some o)->uw w h' s.heap.objs.size (λk=>S k\/T k) Z->Z<31->Q (.ref s.heap.objs.size) { s with heap:=h' }) :
 wpAny (model prog w) A (binaryOp .BitOr (.ref a) (.ref b)) Q E s:=by
 refine wpAny_binaryOp_same (op:=.BitOr) G.ty U.ty F.fills_set_or F.slot_set_or (jf F.slot_set_or G.ty Z4 ?_ (F.args_set_or_2 _ _));show wpAny _ _ (Builtin.Frozenset.slot1 "__or__" ⟨[.ref a,.ref b],[]⟩ >>= _) _ _ _;unfold Builtin.Frozenset.slot1 slotArgs;simp only[List.isEmpty_nil,m6,bu,↓reduceIte,bind_assoc,gm,Ah,o8];refine aa (aj ?_)
 try dsimp only
 refine aa (aj ?_)
 try dsimp only
 refine aa (aa (afa G.ty ?_));simp only[toBool,↓reduceIte];refine afa U.ty ?_;simp only[m6,bu,↓reduceIte];refine aa (m:=Builtin.Frozenset.addrOf (.ref a)) (aj ?_);exact aa (a5m G U hn ne λh' Z k R Jj=>aj ⟨_,rfl,by simp,h h' Z k R Jj⟩)
end Qu
namespace MW
open PySem (Str)
set_option genInjectivity true in
inductive D where
 |non|bl (b:Bool)|int (i:Int)|str (s:Str)|tup (ds:List D)|vl (ds:List D)|fz (ds:List D)|ref (n:Nat)
noncomputable abbrev Kx:=Sum Int Str
set_option genInjectivity true in
inductive MO where
 |lst (ds:List D)|dT (iu:List (List Kx×D))|dK (iu:List (Kx×D))|ins (c:Nat) (fs:List (Nat×D))
noncomputable abbrev cz:=List MO
noncomputable abbrev Env:=List (Option D)
set_option genInjectivity true in
inductive Res(α:Type) where
 |ok (a:α) (M:cz)|err (c:Nat) (M:cz)|bad
namespace Res
noncomputable def bind{α β:Type}(r:Res α)(f:α->cz->Res β):Res β :=
 match r with|ok a M=>f a M|err c M=>err c M|bad=>bad
@[simp] def Am(a:α)(M:cz)(f:α->cz->Res β):(ok a M).bind f=f a M:=rfl
@[simp] def a5n(c:Nat)(M:cz)(f:α->cz->Res β):(err c M:Res α).bind f=err c M:=rfl
@[simp] def a5o(f:α->cz->Res β):(bad:Res α).bind f=bad:=rfl
noncomputable def wj{α:Type}(o:Option α)(M:cz):Res α:=match o with|some a=>ok a M|none=>bad
@[simp] def Cr(a:α)(M:cz):wj (some a) M=ok a M:=rfl
@[simp] def ayq(M:cz):wj (none:Option α) M=bad:=rfl
end Res
inductive Op2 where|add|ajg|sub|mul|fdiv|mod|pow
inductive Cp where|eq|ne|lt|le|gt|ge|inn|Ui
inductive Blt where
 |len|tuple|max|min|dict|all|isList|isTuple|isBool|isSeq|Ca|list
inductive Bm where|append|index|get
inductive Tg where
 |name (i:Nat)|names (is:Yf)
mutual
inductive Ex where
 |var (i:Nat)|cst (d:D)
 |bin (op:Op2) (a b:Ex)|neg (a:Ex)
 |cmp (op:Cp) (a b:Ex)|chain (o1 o2:Cp) (a b c:Ex)
 |and (a b:Ex)|or (a b:Ex)|not (a:Ex)|ite (c a b:Ex)
 |tup (es:Dg)|lst (es:Dg)|Ia (es:Dg)|afj|afk
 |ix (a b:Ex)|cut (a:Ex) (lo hi:OEx)
 |call (f:Nat) (es:Dg)|make (c:Nat) (es:Dg)|meth (o:Ex) (m:Nat) (es:Dg)|fld (o:Ex) (f:Nat)
 |blt (b:Blt) (es:Dg)|bm (m:Bm) (o:Ex) (es:Dg)
 |comp (v:Bool) (k:Nat) (t:Tg) (it:Qv) (e:Ex)|Cj (v:Bool) (k:Nat) (t:Tg) (it:Qv) (c:Ex) (e:Ex)
 |V0 (a b:Ex)|J9 (v:Bool) (a b:Ex)|afm (e:Ex)|afn (e:Ex)
inductive Dg where
 |nil|cons (e:Ex) (es:Dg)
inductive OEx where
 |none|some (e:Ex)
inductive Qv where
 |val (e:Ex)|Ln (e:Ex)|enm (e:Ex)|zip (es:Dg)
end
noncomputable abbrev Ex.v:=Ex.var
noncomputable abbrev Ex.i(n:Int):Ex:=.cst (.int n)
noncomputable abbrev Ex.l(e:Ex):Ex:=.blt .len (.cons e .nil)
noncomputable abbrev Dg.z:=Dg.nil
noncomputable abbrev Dg.c:=Dg.cons
noncomputable abbrev Dg.o(a:Ex):Dg:=.cons a .nil
noncomputable abbrev Dg.p(a b:Ex):Dg:=.cons a (.cons b .nil)
noncomputable abbrev Dg.q(a b c:Ex):Dg:=.cons a (.cons b (.cons c .nil))
inductive Lv where
 |tg (t:Tg)|sub (o i:Ex)|fld (o:Ex) (f:Nat)
mutual
inductive Cm where
 |asg (l:Lv) (e:Ex)|expr (e:Ex)|iff (c:Ex) (a b:ph)|whl (c:Ex) (b:ph)|for_ (t:Tg) (it:Qv) (b:ph)
 |ret (e:Ex)|ash|brk|cont|pass|raise (c:Nat) (es:Dg)
inductive ph where
 |nil|cons (s:Cm) (r:ph)
end
noncomputable abbrev Cm.a(i:Nat)(e:Ex):Cm:=.asg (.tg (.name i)) e
noncomputable abbrev Cm.f(c:Ex)(b:ph):Cm:=.iff c b .nil
noncomputable abbrev ph.z:=ph.nil
noncomputable abbrev ph.c:=ph.cons
noncomputable abbrev ph.o(a:Cm):ph:=.cons a .nil
noncomputable abbrev ph.p(a b:Cm):ph:=.cons a (.cons b .nil)
noncomputable abbrev ph.q(a b c:Cm):ph:=.cons a (.cons b (.cons c .nil))
structure Fn where
 np:Nat
 ns:Nat
 body:ph
structure Cl where
 init:Nat
 meths:List (Nat×Nat)
noncomputable def fu(M:cz):D->Option (List D)
 |.vl ds=>some ds|.ref n=>match M[n]? with|some (.lst ds)=>some ds|_=>none
 |_=>none
noncomputable def wz(M:cz):D->Option (List D)
 |.tup ds=>some ds|d=>fu M d
noncomputable def Te:D->Option Kx
 |.int i=>some (.inl i)|.str s=>some (.inr s)|_=>none
noncomputable def Z5:List D->Option (List Kx)
 |[]=>some []
 |d::ds=>match Te d,Z5 ds with
  |some k,some ks=>some (k::ks)|_,_=>none
noncomputable def Tf:D->Option (List Kx)
 |.tup ds=>Z5 ds|_=>none
noncomputable def amc:Kx->D
 |.inl i=>.int i|.inr s=>.str s
noncomputable def amd(ks:List Kx):D:=.tup (ks.map amc)
noncomputable def Dr:List D->Option (List (List Kx))
 |[]=>some []
 |d::ds=>match Tf d,Dr ds with
  |some k,some ks=>some (k::ks)|_,_=>none
noncomputable def O5(f:D->D->Option Bool):List D->List D->Option Bool
 |[],[]=>some true
 |a::as,b::bs=>match f a b,O5 f as bs with
  |some x,some y=>some (x&&y)|_,_=>none
 |_,_=>some false
instance:DecidableEq Kx:=inferInstanceAs (DecidableEq (Sum Int Str))
noncomputable def xu{Z:Type}[DecidableEq Z](G:List (Z×D))(k:Z):Option D:=(G.find? λp=>decide (p.1=k)).map (·.2)
noncomputable def Ka(M:cz):Nat->D->D->Option Bool
 |0,_,_=>none
 |n+1,a,b=>match a,b with
  |.int i,.int j=>some (decide (i=j))|.bl i,.bl j=>some (i==j)|.str i,.str j=>some (decide (i=j))|.non,.non=>some true|.tup as,.tup bs=>O5 (Ka M n) as bs
  |a,b=>match fu M a,fu M b with
   |some as,some bs=>if as.length=bs.length then O5 (Ka M n) as bs else some false
   |_,_=>none
noncomputable def za(M:cz)(a b:D):Option Bool:=Ka M 6 a b
noncomputable def Pz(M:cz)(x:D):List D->Option (List Bool)
 |[]=>some []
 |y::ys=>match za M y x,Pz M x ys with
  |some a,some b=>some (a::b)|_,_=>none
noncomputable def memD(M:cz)(x:D)(ds:List D):Option Bool:=(Pz M x ds).map (·.any id)
noncomputable def Xx(M:cz)(x:D)(ds:List D):Option Nat:=(Pz M x ds).bind (·.findIdx? id)
noncomputable def Th:List D->Option (List Int)
 |[]=>some []|.int i::r=>(Th r).map (i::·)|_::_=>none
noncomputable def V1(n:Nat)(i:Int):Option Nat:=if 0<=i then(if i<n then some i.toNat else none) else if -(n:Int)<=i then some (i+n).toNat else none
noncomputable def clip(n:Nat)(d:Nat):Option Int->Nat
 |none=>d|some i=>if 0<=i then min i.toNat n else(i+n).toNat
noncomputable def afo(ds:List D)(lo hi:Option Int):List D:=(ds.drop (clip ds.length 0 lo)).take (clip ds.length ds.length hi-clip ds.length 0 lo)
noncomputable def ayr:List Int->Option Int
 |[]=>none|a::r=>some (r.foldl (λm x=>if m<x then x else m) a)
noncomputable def a5p:List Int->Option Int
 |[]=>none|a::r=>some (r.foldl (λm x=>if x<m then x else m) a)
noncomputable def insI(x:Int):List Int->List Int
 |[]=>[x]|y::ys=>if x<y then x::y::ys else y::insI x ys
noncomputable def sortI(xs:U1):List Int:=xs.foldr insI []
noncomputable def Aa:List Int->List Int
 |[]=>[]|x::xs=>if x∈xs then Aa xs else x::Aa xs
noncomputable def keysOf(M:cz)(d:D):Option (List D) :=
 match d with
 |.ref n=>match M[n]? with
  |some (.dT iu)=>some (iu.map λp=>amd p.1)
  |_=>fu M d
 |_=>fu M d
noncomputable def Dd{G:Type}[DecidableEq G](U:List (G×D))(k:G)(v:D):List (G×D) :=
 if(U.any λZ=>decide (Z.1=k))=true then U.map (λZ=>if Z.1=k then(Z.1,v) else Z) else U++[(k,v)]
noncomputable def Dt(xs:List (List Kx)):Bool:=decide (xs.length<=30)&&xs.all λk=>k.all λx=>match x with|.inl _=>true|.inr _=>false
noncomputable def Ih(xs ys:List (List Kx)):Bool:=xs.all (λx=>ys.any λy=>decide (y=x))&&ys.all (λy=>xs.any λx=>decide (x=y))
noncomputable def new(o:MO)(M:cz):Res D:=.ok (.ref M.length) (M++[o])
noncomputable def ab9(a b:D)(M:cz):Res D :=
 match a,b with
 |.int i,.int j=>.ok (.int (i+j)) M|.tup xs,.tup ys=>if xs.length+ys.length<=100000 then .ok (.tup (xs++ys)) M else .bad
 |x,y=>match fu M x,fu M y with
  |some xs,some ys=>if xs.length+ys.length<=100000 then .ok (.vl (xs++ys)) M else .bad
  |_,_=>.bad
noncomputable def afp(x y:D)(M:cz):Res D :=
 match fu M x,fu M y with
 |some xs,some ys=>if xs.length+ys.length<=100000 then new (.lst (xs++ys)) M else .bad
 |_,_=>.bad
noncomputable def ii{α:Type}(x y:D)(f:Int->Int->α)(z:α):α:=match x with|.int i=>(match y with|.int j=>f i j|_=>z)|_=>z
def afq(h:ii x y f z=r)(hz:z≠r):∃i j,x=.int i/\y=.int j/\f i j=r:=by
 cases x with
 |int i=>cases y with
  |int j=>exact⟨i,j,rfl,rfl,h⟩|_=>exact absurd h hz
 |_=>exact absurd h hz
@[simp] def bcr(i j:Int)(f:Int->Int->α)(z:α):ii (.int i) (.int j) f z=f i j:=rfl
noncomputable def a5q(a b:D)(M:cz):Res D:=ii a b (λi j=>.ok (.int (i-j)) M) .bad
noncomputable def a5r(a b:D)(M:cz):Res D:=ii a b (λi j=>if(-(2 ^ 64)<i/\i<2 ^ 64)\/(-(2 ^ 64)<j/\j<2 ^ 64) then .ok (.int (i*j)) M else .bad) .bad
noncomputable def ays(a b:D)(M:cz):Res D:=ii a b (λi j=>if 0<j/\j<1073741824 then .ok (.int (i / j)) M else .bad) .bad
noncomputable def a5s(a b:D)(M:cz):Res D:=ii a b (λi j=>if 0<j then .ok (.int (i%j)) M else .bad) .bad
noncomputable def aw8(a b:D)(M:cz):Res D:=ii a b (λi j=>if 0<=j/\j<=64/\i.natAbs<2 ^ 64 then .ok (.int (i ^ j.toNat)) M else .bad) .bad
noncomputable def Fy(op:Op2):D->D->cz->Res D :=
 match op with
 |.add=>ab9|.ajg=>afp|.sub=>a5q|.mul=>a5r|.fdiv=>ays|.mod=>a5s|.pow=>aw8
noncomputable def O3(M:cz)(a b:D):Option Bool :=
 match b with
 |.ref n=>match M[n]? with
  |some (.dT iu)=>(Tf a).map λk=>(xu iu k).isSome
  |some (.dK iu)=>(Te a).map λk=>(xu iu k).isSome
  |_=>(wz M b).bind (memD M a)
 |_=>(wz M b).bind (memD M a)
noncomputable def aca(f:Int->Int->Bool)(a b:D):Option Bool:=ii a b (λi j=>some (f i j)) none
noncomputable def Lw(op:Cp)(a b:D)(M:cz):Option Bool :=
 match op with
 |.lt=>aca (λi j=>decide (i<j)) a b
 |.le=>aca (λi j=>decide (i<=j)) a b
 |.gt=>aca (λi j=>decide (j<i)) a b
 |.ge=>aca (λi j=>decide (j<=i)) a b
 |.eq=>za M a b|.ne=>(za M a b).map not|.inn=>O3 M a b|.Ui=>(O3 M a b).map not
noncomputable def Aw(a b:D)(M:cz):Option D :=
 match a with
 |.ref n=>match M[n]? with
  |some (.dT iu)=>(Tf b).bind (xu iu)|some (.dK iu)=>(Te b).bind (xu iu)
  |_=>match fu M a,b with
   |some ds,.int i=>(V1 ds.length i).bind λj=>ds[j]?
   |_,_=>none
 |.fz ds=>match b with
  |.int i=>(V1 ds.length i).bind λj=>ds[j]?
  |_=>none
 |_=>match wz M a,b with
  |some ds,.int i=>(V1 ds.length i).bind λj=>ds[j]?
  |_,_=>none
noncomputable def acb(a:D)(lo hi:Option Int)(M:cz):Option D:=(fu M a).map λZ=>.vl (afo Z lo hi)
noncomputable def allB:List D->Option Bool
 |[]=>some true|.bl b::r=>(allB r).map (b&&·)|_::_=>none
noncomputable def afr(Z:List (List Kx×D)):Bool:=Z.all λp=>match p.1 with
 |[.inl i,.inl j]=>decide (-1<=i)&&decide (i<9)&&decide (-1<=j)&&decide (j<9)|_=>false
noncomputable def Ti(M:cz):D->Res D
 |.ref n=>match M[n]? with
  |some (.lst ds)=>.ok (.int ds.length) M|_=>.bad
 |.fz ds=>.ok (.int ds.length) M|.tup ds=>.ok (.int ds.length) M|.vl ds=>.ok (.int ds.length) M|_=>.bad
noncomputable def Vh(M:cz):D->Res D
 |.ref n=>match M[n]? with
  |some (.dT iu)=>if afr iu then new (.dT iu) M else .bad
  |some (.dK iu)=>new (.dK iu) M|_=>.bad
 |_=>.bad
noncomputable def isX(bt bi bv:Option Bool)(d:D):Option Bool:=match d with
 |.tup _=>bt|.vl _=>bv|.int _=>bi|_=>none
noncomputable def isR(bt bi bv:Option Bool)(M:cz)(d:D):Res D:=Res.wj ((isX bt bi bv d).map D.bl) M
noncomputable def two(ds:List D)(f:Int->Int->Int)(g:D->Option Int)(M:cz):Res D :=
 match ds with
 |[a,b]=>(match a,b with|.int i,.int j=>.ok (.int (f i j)) M|_,_=>.bad)
 |[d]=>Res.wj ((g d).map D.int) M|_=>.bad
noncomputable def P0(ds:List D)(g:D->Res D):Res D :=
 match ds with
 |[d]=>g d|_=>.bad
noncomputable def rz(b:Blt)(ds:List D)(M:cz):Res D :=
 match b with
 |.len=>P0 ds (Ti M)|.tuple=>P0 ds λd=>Res.wj ((wz M d).map D.tup) M
 |.max=>two ds (λi j=>if i<j then j else i) (λd=>((fu M d).bind Th).bind ayr) M
 |.min=>two ds (λi j=>if j<i then j else i) (λd=>((fu M d).bind Th).bind a5p) M
 |.Ca=>P0 ds λd=>Res.wj (((wz M d).bind Th).bind λis=>if(Aa is).length<31 then some (D.vl ((sortI (Aa is)).map D.int)) else none) M
 |.dict=>P0 ds (Vh M)|.all=>P0 ds λd=>Res.wj (((fu M d).bind allB).map D.bl) M
 |.isList=>P0 ds (isR (some false) none (some true) M)|.isTuple=>P0 ds (isR (some true) (some false) (some false) M)|.isBool=>P0 ds (isR none (some false) none M)|.isSeq=>P0 ds (isR (some true) (some false) (some true) M)
 |.list=>P0 ds λd=>match wz M d with
  |some Z=>new (.lst Z) M|none=>.bad
noncomputable def Qa(m:Bm)(x:D)(M:cz):Bool :=
 match m,x with
 |.append,.ref n=>match M[n]? with|some (.lst _)=>true|_=>false
 |.index,x=>(fu M x).isSome|.get,.ref n=>match M[n]? with|some (.dK _)=>true|_=>false
 |_,_=>false
noncomputable def Jl(m:Bm)(o:D)(ds:List D)(M:cz):Res D :=
 match m,o,ds with
 |.append,.ref n,[d]=>match M[n]? with
  |some (.lst xs)=>if xs.length<100000 then .ok .non (M.set n (.lst (xs++[d]))) else .bad
  |_=>.bad
 |.index,o,[d]=>Res.wj (((wz M o).bind (Xx M d)).map λj=>D.int (j:Int)) M
 |.get,.ref n,[k,d]=>match M[n]? with
  |some (.dK iu)=>Res.wj ((Te k).map λq=>(xu iu q).getD d) M
  |_=>.bad
 |_,_,_=>.bad
noncomputable def setOp(o i v:D)(M:cz):Option cz :=
 match o with
 |.ref n=>match M[n]? with
  |some (.lst xs)=>match i with
   |.int j=>(V1 xs.length j).map λq=>M.set n (.lst (xs.set q v))
   |_=>none
  |some (.dT iu)=>(Tf i).bind λk=>if iu.length<100000 then some (M.set n (.dT (Dd iu k v))) else none
  |some (.dK iu)=>(Te i).bind λk=>if iu.length<100000 then some (M.set n (.dK (Dd iu k v))) else none
  |_=>none
 |_=>none
noncomputable def Uj(f:Nat)(v:D):List (Nat×D)->List (Nat×D)
 |[]=>[(f,v)]|(g,x)::r=>if g=f then(g,v)::r else(g,x)::Uj f v r
noncomputable def Q5(o:D)(f:Nat)(M:cz):Option D :=
 match o with
 |.ref n=>match M[n]? with
  |some (.ins _ fs)=>fs.lookup f|_=>none
 |_=>none
noncomputable def Q6(o:D)(f:Nat)(v:D)(M:cz):Option cz :=
 match o with
 |.ref n=>match M[n]? with
  |some (.ins c fs)=>if fs.length<1000 then some (M.set n (.ins c (Uj f v fs))) else none
  |_=>none
 |_=>none
inductive Src where
 |con (ds:List D)|live (n:Nat) (len:Nat)
noncomputable def Src.len:Src->Nat
 |.con ds=>ds.length|.live _ k=>k
noncomputable def Src.item(s:Src)(i:Nat)(M:cz):Option D :=
 match s with
 |.con ds=>ds[i]?
 |.live n k=>match M[n]? with
  |some (.lst ds)=>if ds.length=k then ds[i]? else none
  |_=>none
noncomputable def Src.fin(s:Src)(M:cz):Bool :=
 match s with
 |.con _=>true
 |.live n k=>match M[n]? with
  |some (.lst ds)=>ds.length==k|_=>false
noncomputable def srcOf(M:cz)(d:D):Option Src :=
 match d with
 |.tup ds=>some (.con ds)|.vl ds=>some (.con ds)
 |.ref n=>match M[n]? with
  |some (.lst ds)=>some (.live n ds.length)|_=>none
 |_=>none
inductive Flow where
 |next|brk|cont|ret (d:D)
noncomputable def Qc:List Nat->List D->Env->Env
 |i::is,d::ds,ρ=>Qc is ds (ρ.set i (some d))|_,_,ρ=>ρ
noncomputable def Tg.put(t:Tg)(d:D)(ρ:Env):Option Env :=
 match t with
 |.name i=>some (ρ.set i (some d))
 |.names is=>match d with
  |.tup ds=>if ds.length=is.length then some (Qc is ds ρ) else none
  |_=>none
structure G5 where
 call:Nat->List D->cz->Res D
 cls:List Cl
noncomputable def Bv(fin:cz->Bool)(item:Nat->cz->Option D)(body:D->Env->cz->Res (Flow×Env)):Nat->Nat->Env->cz->Res (Flow×Env)
 |0,_,ρ,M=>if fin M then .ok (.next,ρ) M else .bad
 |k+1,i,ρ,M=>match item i M with
  |none=>.bad
  |some d=>(body d ρ M).bind λr Z=>match r.1 with
   |.next=>Bv fin item body k (i+1) r.2 Z|.cont=>Bv fin item body k (i+1) r.2 Z|.brk=>.ok (.next,r.2) Z|.ret v=>.ok (.ret v,r.2) Z
noncomputable def Dh(fin:cz->Bool)(item:Nat->cz->Option D)(body:D->cz->Res (Option D)):Nat->Nat->cz->Res (List D)
 |0,_,M=>if fin M then .ok [] M else .bad
 |k+1,i,M=>match item i M with
  |none=>.bad|some d=>(body d M).bind λo G=>(Dh fin item body k (i+1) G).bind λZ U=>.ok (match o with|some x=>x::Z|none=>Z) U
noncomputable def An(s:Src)(body:D->cz->Res (Option D))(M:cz):Res (List D):=if s.len<=100000 then Dh s.fin s.item body s.len 0 M else .bad
noncomputable def Fp(c:Env->cz->Res D)(body:Env->cz->Res (Flow×Env)):Nat->Env->cz->Res (Flow×Env)
 |0,_,_=>.bad
 |k+1,ρ,M=>(c ρ M).bind λb G=>match b with
  |.bl false=>.ok (.next,ρ) G
  |.bl true=>(body ρ G).bind λr Z=>match r.1 with
   |.next=>Fp c body k r.2 Z|.cont=>Fp c body k r.2 Z|.brk=>.ok (.next,r.2) Z|.ret v=>.ok (.ret v,r.2) Z
  |_=>.bad
noncomputable def afs:Nat:=1000000
noncomputable def G6(b:Bool):List D->Option (List (List D))
 |[]=>some []|.tup l::r=>if b then(G6 b r).map (l::·) else none
 |.vl l::r=>if b then none else(G6 b r).map (l::·)
 |_::_=>none
noncomputable def Qd(ds:List D):Option (List (List D)):=match G6 true ds with|some l=>some l|none=>G6 false ds
noncomputable def Jm(ls:List (List D))(n:Nat):List D:=(List.range n).map λi=>.tup (ls.map λl=>l.getD i .non)
noncomputable def Bs(ds:List D):Nat->List D:=λn=>(ds.zipIdx n).map λp=>D.tup [.int p.2,p.1]
mutual
noncomputable def Ex.den(W:G5):Ex->Env->cz->Res D
 |.var i,ρ,M=>match ρ[i]? with
  |some (some d)=>.ok d M|_=>.bad
 |.cst d,_,M=>.ok d M|.bin op a b,ρ,M=>(a.den W ρ M).bind λx Z=>(b.den W ρ Z).bind λy G=>Fy op x y G
 |.neg a,ρ,M=>(a.den W ρ M).bind λx Z=>match x with|.int i=>.ok (.int (-i)) Z|_=>.bad
 |.cmp op a b,ρ,M=>(a.den W ρ M).bind λx Z=>(b.den W ρ Z).bind λy G=>Res.wj ((Lw op x y G).map D.bl) G
 |.chain o1 o2 a b c,ρ,M=>(a.den W ρ M).bind λx Z=>(b.den W ρ Z).bind λy G=>(Res.wj (Lw o1 x y G) G).bind λq G=>if q then(c.den W ρ G).bind λz M3=>Res.wj ((Lw o2 y z M3).map D.bl) M3 else .ok (.bl false) G
 |.and a b,ρ,M=>(a.den W ρ M).bind λx Z=>match x with|.bl true=>b.den W ρ Z|.bl false=>.ok (.bl false) Z|_=>.bad
 |.or a b,ρ,M=>(a.den W ρ M).bind λx Z=>match x with|.bl true=>.ok (.bl true) Z|.bl false=>b.den W ρ Z|_=>.bad
 |.not a,ρ,M=>(a.den W ρ M).bind λx Z=>match x with|.bl b=>.ok (.bl !b) Z|_=>.bad
 |.ite c a b,ρ,M=>(c.den W ρ M).bind λx Z=>match x with|.bl true=>a.den W ρ Z|.bl false=>b.den W ρ Z|_=>.bad
 |.tup es,ρ,M=>(es.den W ρ M).bind λU Z=>.ok (.tup U) Z
 |.lst es,ρ,M=>(es.den W ρ M).bind λU Z=>new (.lst U) Z
 |.Ia es,ρ,M=>(es.den W ρ M).bind λU Z=>.ok (.vl U) Z
 |.afj,_,M=>new (.dT []) M|.afk,_,M=>new (.dK []) M|.ix a b,ρ,M=>(a.den W ρ M).bind λx Z=>(b.den W ρ Z).bind λy G=>Res.wj (Aw x y G) G
 |.cut a lo hi,ρ,M=>(a.den W ρ M).bind λx Z=>(lo.den W ρ Z).bind λl G=>(hi.den W ρ G).bind λh M3=>Res.wj (acb x l h M3) M3
 |.call f es,ρ,M=>(es.den W ρ M).bind λU Z=>W.call f U Z
 |.make c es,ρ,M=>(es.den W ρ M).bind λU Z=>match W.cls[c]? with
  |some C=>(W.call C.init (.ref Z.length::U) (Z++[.ins c []])).bind λr G=>match r with|.non=>.ok (.ref Z.length) G|_=>.bad
  |none=>.bad
 |.meth o m es,ρ,M=>(o.den W ρ M).bind λx Z=>(es.den W ρ Z).bind λU G=>match x with
  |.ref n=>match Z[n]? with
   |some (.ins c _)=>match(W.cls[c]?).bind λC=>C.meths.lookup m with
    |some f=>W.call f (.ref n::U) G|none=>.bad
   |_=>.bad
  |_=>.bad
 |.fld o f,ρ,M=>(o.den W ρ M).bind λx Z=>Res.wj (Q5 x f Z) Z
 |.blt b es,ρ,M=>(es.den W ρ M).bind λU Z=>rz b U Z
 |.bm m o es,ρ,M=>(o.den W ρ M).bind λx Z=>if Qa m x Z then(es.den W ρ Z).bind λU G=>Jl m x U G else .bad
 |.comp v k t it e,ρ,M=>(it.den W ρ M).bind λs Z =>
  (An s (λd M=>match t.put d (ρ++List.replicate k none) with
   |some R=>(e.den W R M).bind λx M'=>.ok (some x) M'
   | none=>.bad) Z).bind λU G=>if v then .ok (.vl U) G else new (.lst U) G
 |.Cj v k t it c e,ρ,M=>(it.den W ρ M).bind λs Z =>
  (An s (λd M=>match t.put d (ρ++List.replicate k none) with
   |some R=>(c.den W R M).bind λb M'=>match b with
    |.bl true=>(e.den W R M').bind λx qq=>.ok (some x) qq
    |.bl false=>.ok none M'|_=>.bad
   | none=>.bad) Z).bind λU G=>if v then .ok (.vl U) G else new (.lst U) G
 |.V0 a b,ρ,M=>(a.den W ρ M).bind λx Z =>
  match(keysOf Z x).bind Dr with
  |some xs=>if Dt xs then(b.den W ρ Z).bind λy G =>
   match(keysOf G y).bind Dr with
   |some ys=>if Dt ys then .ok (.bl !Ih xs ys) G else .bad
   |none=>.bad
   else .bad
  |none=>.bad
 |.J9 v a b,ρ,M=>(a.den W ρ M).bind λx Z =>
  match(wz Z x).bind Th with
  |some xs=>if xs.length<31 then(b.den W ρ Z).bind λy G =>
   match(wz G y).bind Th with
   |some ys=>if xs.length+ys.length<31 then .ok (.vl ((sortI (Aa (if v then xs.filter (λi=>decide (i∈ys)) else xs++ys))).map D.int)) G else .bad
   |none=>.bad
   else .bad
  |none=>.bad
 |.afm e,ρ,M=>(e.den W ρ M).bind λx Z=>match x with
  |.int i=>if i.natAbs<=100000 then .ok (.tup ((List.range i.toNat).map λ(k:Nat)=>D.int (k:Int))) Z else .bad
  |_=>.bad
 |.afn e,ρ,M=>(e.den W ρ M).bind λx Z=>match x with
  |.int i=>if i.natAbs<=100000 then new (.lst ((List.range i.toNat).map λ(k:Nat)=>D.int (k:Int))) Z else .bad
  |_=>.bad
noncomputable def Dg.den(W:G5):Dg->Env->cz->Res (List D)
 |.nil,_,M=>.ok [] M|.cons e es,ρ,M=>(e.den W ρ M).bind λx Z=>(es.den W ρ Z).bind λU G=>.ok (x::U) G
noncomputable def OEx.den(W:G5):OEx->Env->cz->Res (Option Int)
 |.none,_,M=>.ok none M|.some e,ρ,M=>(e.den W ρ M).bind λx Z=>match x with|.int i=>.ok (some i) Z|_=>.bad
noncomputable def Qv.den(W:G5):Qv->Env->cz->Res Src
 |.val e,ρ,M=>(e.den W ρ M).bind λx Z=>Res.wj (srcOf Z x) Z
 |.Ln e,ρ,M=>(e.den W ρ M).bind λx Z=>match x with
  |.int i=>if i.natAbs<=100000 then .ok (.con ((List.range i.toNat).map λ(k:Nat)=>D.int (k:Int))) Z else .bad
  |_=>.bad
 |.enm e,ρ,M=>(e.den W ρ M).bind λx Z=>match x with
  |.tup G=>.ok (.con (Bs G 0)) Z|.vl G=>.ok (.con (Bs G 0)) Z|_=>.bad
 |.zip es,ρ,M=>(es.den W ρ M).bind λG Z=>match Qd G with
  |some (l::r)=>if(r.all λx=>x.length==l.length)=true then .ok (.con (Jm (l::r) l.length)) Z else .bad
  |_=>.bad
end
noncomputable def Lv.put(W:G5)(l:Lv)(d:D)(ρ:Env)(M:cz):Res Env :=
 match l with
 |.tg t=>Res.wj (t.put d ρ) M|.sub o i=>(o.den W ρ M).bind λx Z=>(i.den W ρ Z).bind λy G=>(Res.wj (setOp x y d G) G).bind λU _=>.ok ρ U
 |.fld o f=>(o.den W ρ M).bind λx Z=>(Res.wj (Q6 x f d Z) Z).bind λG _=>.ok ρ G
mutual
noncomputable def Cm.den(W:G5):Cm->Env->cz->Res (Flow×Env)
 |.asg l e,Z,M=>(e.den W Z M).bind λx G=>(l.put W x Z G).bind fun U R=>.ok (.next,U) R
 |.expr e,Z,M=>(e.den W Z M).bind λ_ G=>.ok (.next,Z) G
 |.iff c a b,Z,M=>(c.den W Z M).bind λx G=>match x with|.bl true=>a.den W Z G|.bl false=>b.den W Z G|_=>.bad
 |.whl c b,Z,M=>Fp (c.den W) (b.den W) afs Z M
 | .for_ t it b,Z,M=>(it.den W Z M).bind λs G=>Bv s.fin s.item (λd Z M=>match t.put d Z with
  | some U=>b.den W U M|none=>.bad) s.len 0 Z G
 |.ret e,Z,M=>(e.den W Z M).bind λx G=>.ok (.ret x,Z) G
 |.ash,Z,M=>.ok (.ret .non,Z) M|.brk,Z,M=>.ok (.brk,Z) M|.cont,Z,M=>.ok (.cont,Z) M|.pass,Z,M=>.ok (.next,Z) M|.raise c es,Z,M=>(es.den W Z M).bind λ_ G=>.err c G
noncomputable def ph.den(W:G5):ph->Env->cz->Res (Flow×Env)
 |.nil,ρ,M=>.ok (.next,ρ) M
 |.cons s r,ρ,M=>(s.den W ρ M).bind λp Z=>match p.1 with
  |.next=>r.den W p.2 Z|.brk=>.ok (.brk,p.2) Z|.cont=>.ok (.cont,p.2) Z|.ret d=>.ok (.ret d,p.2) Z
end
structure Prog where
 fns:List Fn
 cls:List Cl
noncomputable def Fn.run(W:G5)(f:Fn)(ds:List D)(M:cz):Res D :=
 if ds.length=f.np then
  (f.body.den W (ds.map some++List.replicate (f.ns-f.np) none) M).bind λp Z=>match p.1 with
   |.ret d=>.ok d Z|.next=>.ok .non Z|_=>.bad
 else .bad
noncomputable def Prog.call(P:Prog):Nat->Nat->List D->cz->Res D
 |0,_,_,_=>.bad
 |n+1,f,ds,M=>match P.fns[f]? with
  |some F=>F.run ⟨P.call n,P.cls⟩ ds M|none=>.bad
@[simp] def ag9(i:Nat):(Ex.var i).den W ρ M=match ρ[i]? with|some (some d)=>.ok d M|_=>.bad:=rfl
@[simp high] theorem bcs(d:D)(r:Env):(Ex.var 0).den W (some d::r) M=.ok d M:=rfl
@[simp high] theorem bct(a0:Option D)(d:D)(r:Env):(Ex.var 1).den W (a0::some d::r) M=.ok d M:=rfl
@[simp high] theorem bcu(a0 a1:Option D)(d:D)(r:Env):(Ex.var 2).den W (a0::a1::some d::r) M=.ok d M:=rfl
@[simp high] theorem bcv(a0 a1 a2:Option D)(d:D)(r:Env):(Ex.var 3).den W (a0::a1::a2::some d::r) M=.ok d M:=rfl
@[simp high] theorem bcw(a0 a1 a2 a3:Option D)(d:D)(r:Env):(Ex.var 4).den W (a0::a1::a2::a3::some d::r) M=.ok d M:=rfl
@[simp high] theorem bcx(a0 a1 a2 a3 a4:Option D)(d:D)(r:Env):(Ex.var 5).den W (a0::a1::a2::a3::a4::some d::r) M=.ok d M:=rfl
@[simp high] theorem bcy(a0 a1 a2 a3 a4 a5:Option D)(d:D)(r:Env):(Ex.var 6).den W (a0::a1::a2::a3::a4::a5::some d::r) M=.ok d M:=rfl
@[simp high] theorem bcz(a0 a1 a2 a3 a4 a5 a6:Option D)(d:D)(r:Env):(Ex.var 7).den W (a0::a1::a2::a3::a4::a5::a6::some d::r) M=.ok d M:=rfl
@[simp high] theorem bc0(a0 a1 a2 a3 a4 a5 a6 a7:Option D)(d:D)(r:Env):(Ex.var 8).den W (a0::a1::a2::a3::a4::a5::a6::a7::some d::r) M=.ok d M:=rfl
@[simp high] theorem bc1(a0 a1 a2 a3 a4 a5 a6 a7 a8:Option D)(d:D)(r:Env):(Ex.var 9).den W (a0::a1::a2::a3::a4::a5::a6::a7::a8::some d::r) M=.ok d M:=rfl
@[simp high] theorem bal(a0 a1 a2 a3 a4 a5 a6 a7 a8 a9:Option D)(d:D)(r:Env):(Ex.var 10).den W (a0::a1::a2::a3::a4::a5::a6::a7::a8::a9::some d::r) M=.ok d M:=rfl
@[simp high] theorem bam(a0 a1 a2 a3 a4 a5 a6 a7 a8 a9 a10:Option D)(d:D)(r:Env):(Ex.var 11).den W (a0::a1::a2::a3::a4::a5::a6::a7::a8::a9::a10::some d::r) M=.ok d M:=rfl
@[simp high] theorem ban(a0 a1 a2 a3 a4 a5 a6 a7 a8 a9 a10 a11:Option D)(d:D)(r:Env):(Ex.var 12).den W (a0::a1::a2::a3::a4::a5::a6::a7::a8::a9::a10::a11::some d::r) M=.ok d M:=rfl
@[simp] def Q7(d:D):(Ex.cst d).den W ρ M=.ok d M:=rfl
@[simp] def asi(op:Op2)(a b:Ex):(Ex.bin op a b).den W ρ M=(a.den W ρ M).bind λx M1=>(b.den W ρ M1).bind λy M2=>Fy op x y M2:=rfl
@[simp] def asj(a:Ex):(Ex.neg a).den W ρ M=(a.den W ρ M).bind λx M1=>match x with|.int i=>.ok (.int (-i)) M1|_=>.bad:=rfl
@[simp] def asl(op:Cp)(a b:Ex):(Ex.cmp op a b).den W ρ M=(a.den W ρ M).bind λx M1=>(b.den W ρ M1).bind λy M2=>Res.wj ((Lw op x y M2).map D.bl) M2:=rfl
@[simp] def ajh(G U:Cp)(a b c:Ex):(Ex.chain G U a b c).den W ρ M=(a.den W ρ M).bind λx M1=>(b.den W ρ M1).bind λy M2=>(Res.wj (Lw G x y M2) M2).bind λq M2=>if q then(c.den W ρ M2).bind λz Z=>Res.wj ((Lw U y z Z).map D.bl) Z else .ok (.bl false) M2:=rfl
def aha(a b:Ex):(Ex.and a b).den W ρ M=(a.den W ρ M).bind λx M1=>match x with|.bl true=>b.den W ρ M1|.bl false=>.ok (.bl false) M1|_=>.bad:=rfl
def ame(a b:Ex):(Ex.or a b).den W ρ M=(a.den W ρ M).bind λx M1=>match x with|.bl true=>.ok (.bl true) M1|.bl false=>b.den W ρ M1|_=>.bad:=rfl
@[simp] def ahb(a:Ex):(Ex.not a).den W ρ M=(a.den W ρ M).bind λx M1=>match x with|.bl b=>.ok (.bl !b) M1|_=>.bad:=rfl
def asm(c a b:Ex):(Ex.ite c a b).den W ρ M=(c.den W ρ M).bind λx M1=>match x with|.bl true=>a.den W ρ M1|.bl false=>b.den W ρ M1|_=>.bad:=rfl
@[simp] def asn(es:Dg):(Ex.tup es).den W ρ M=(es.den W ρ M).bind λds M1=>.ok (.tup ds) M1:=rfl
@[simp] def aso(es:Dg):(Ex.lst es).den W ρ M=(es.den W ρ M).bind λds M1=>new (.lst ds) M1:=rfl
@[simp] def amf(es:Dg):(Ex.Ia es).den W ρ M=(es.den W ρ M).bind λds M1=>.ok (.vl ds) M1:=rfl
@[simp] def amg:Ex.afj.den W ρ M=new (.dT []) M:=rfl
@[simp] def amh:Ex.afk.den W ρ M=new (.dK []) M:=rfl
@[simp] def ayt(a b:Ex):(Ex.ix a b).den W ρ M=(a.den W ρ M).bind λx M1=>(b.den W ρ M1).bind λy M2=>Res.wj (Aw x y M2) M2:=rfl
@[simp] def asp(a:Ex)(lo hi:OEx):(Ex.cut a lo hi).den W ρ M=(a.den W ρ M).bind λx M1=>(lo.den W ρ M1).bind λl Z=>(hi.den W ρ Z).bind λh M3=>Res.wj (acb x l h M3) M3:=rfl
@[simp] def ami(f:Nat)(es:Dg):(Ex.call f es).den W ρ M=(es.den W ρ M).bind λds M1=>W.call f ds M1:=rfl
@[simp] theorem acd{W:G5}{ρ:Env}{M:cz}(c:Nat)(es:Dg):(Ex.make c es).den W ρ M=(es.den W ρ M).bind λds M1=>match W.cls[c]? with
 |some C=>(W.call C.init (.ref M1.length::ds) (M1++[.ins c []])).bind λr Z=>match r with|.non=>.ok (.ref M1.length) Z|_=>.bad
 |none=>.bad:=rfl
@[simp] theorem Q8{W:G5}{ρ:Env}{M:cz}(o:Ex)(m:Nat)(es:Dg):(Ex.meth o m es).den W ρ M=(o.den W ρ M).bind λx M1=>(es.den W ρ M1).bind λds Z=>match x with
 |.ref n=>match M1[n]? with
  |some (.ins c _)=>match(W.cls[c]?).bind λC=>C.meths.lookup m with
   |some f=>W.call f (.ref n::ds) Z|none=>.bad
  |_=>.bad
 |_=>.bad:=rfl
@[simp] def asq(o:Ex)(f:Nat):(Ex.fld o f).den W ρ M=(o.den W ρ M).bind λx M1=>Res.wj (Q5 x f M1) M1:=rfl
@[simp] def Vi(b:Blt)(es:Dg):(Ex.blt b es).den W ρ M=(es.den W ρ M).bind λds M1=>rz b ds M1:=rfl
@[simp] def ayu(m:Bm)(o:Ex)(es:Dg):(Ex.bm m o es).den W ρ M=(o.den W ρ M).bind λx M1=>if Qa m x M1 then(es.den W ρ M1).bind λds Z=>Jl m x ds Z else .bad:=rfl
@[simp] theorem amj{W:G5}{ρ:Env}{M:cz}(e:Ex):(Ex.afm e).den W ρ M=(e.den W ρ M).bind λx M1=>match x with
 |.int i=>if i.natAbs<=100000 then .ok (.tup ((List.range i.toNat).map λ(k:Nat)=>D.int (k:Int))) M1 else .bad
 |_=>.bad:=rfl
@[simp] theorem amk{W:G5}{ρ:Env}{M:cz}(e:Ex):(Ex.afn e).den W ρ M=(e.den W ρ M).bind λx M1=>match x with
 |.int i=>if i.natAbs<=100000 then new (.lst ((List.range i.toNat).map λ(k:Nat)=>D.int (k:Int))) M1 else .bad
 |_=>.bad:=rfl
def Lx(v:Bool)(k:Nat)(t:Tg)(it:Qv)(e:Ex):(Ex.comp v k t it e).den W ρ M=(it.den W ρ M).bind λs M1 =>
 (An s (λd M=>match t.put d (ρ++List.replicate k none) with
  |some Z=>(e.den W Z M).bind λx M'=>.ok (some x) M'
  | none=>.bad) M1).bind λds M2=>if v then .ok (.vl ds) M2 else new (.lst ds) M2:=rfl
def V2(v:Bool)(k:Nat)(t:Tg)(it:Qv)(c e:Ex):(Ex.Cj v k t it c e).den W ρ M=(it.den W ρ M).bind λs M1 =>
 (An s (λd M=>match t.put d (ρ++List.replicate k none) with
  |some Z=>(c.den W Z M).bind λb M'=>match b with
   |.bl true=>(e.den W Z M').bind λx G=>.ok (some x) G
   |.bl false=>.ok none M'|_=>.bad
  | none=>.bad) M1).bind λds M2=>if v then .ok (.vl ds) M2 else new (.lst ds) M2:=rfl
@[simp] def Ly:Dg.nil.den W ρ M=.ok [] M:=rfl
@[simp] def G4(e:Ex)(es:Dg):(Dg.cons e es).den W ρ M=(e.den W ρ M).bind λx M1=>(es.den W ρ M1).bind λxs M2=>.ok (x::xs) M2:=rfl
@[simp] def aji:OEx.none.den W ρ M=.ok none M:=rfl
@[simp] def ajj(e:Ex):(OEx.some e).den W ρ M=(e.den W ρ M).bind λx M1=>match x with|.int i=>.ok (some i) M1|_=>.bad:=rfl
@[simp] def Kc(e:Ex):(Qv.val e).den W ρ M=(e.den W ρ M).bind λx M1=>Res.wj (srcOf M1 x) M1:=rfl
@[simp] theorem Q9{W:G5}{ρ:Env}{M:cz}(e:Ex):(Qv.Ln e).den W ρ M=(e.den W ρ M).bind λx M1=>match x with
 |.int i=>if i.natAbs<=100000 then .ok (.con ((List.range i.toNat).map λ(k:Nat)=>D.int (k:Int))) M1 else .bad
 |_=>.bad:=rfl
@[simp] theorem Z6{W:G5}{ρ:Env}{M:cz}(e:Ex):(Qv.enm e).den W ρ M=(e.den W ρ M).bind λx M1=>match x with
 |.tup ds=>.ok (.con (Bs ds 0)) M1|.vl ds=>.ok (.con (Bs ds 0)) M1|_=>.bad:=rfl
@[simp] theorem asr(es:Dg):(Qv.zip es).den W ρ M=(es.den W ρ M).bind λds M1=>match Qd ds with
 |some (l::r)=>if(r.all λx=>x.length==l.length)=true then .ok (.con (Jm (l::r) l.length)) M1 else .bad
 |_=>.bad:=rfl
@[simp] def Z7(l:Lv)(e:Ex):(Cm.asg l e).den W ρ M=(e.den W ρ M).bind λx M1=>(l.put W x ρ M1).bind fun Z M2=>.ok (.next,Z) M2:=rfl
@[simp] def ass(e:Ex):(Cm.expr e).den W ρ M=(e.den W ρ M).bind λ_ M1=>.ok (.next,ρ) M1:=rfl
def ayv(c:Ex)(a b:ph):(Cm.iff c a b).den W ρ M=(c.den W ρ M).bind λx M1=>match x with|.bl true=>a.den W ρ M1|.bl false=>b.den W ρ M1|_=>.bad:=rfl
@[simp] def ayw(e:Ex):(Cm.ret e).den W ρ M=(e.den W ρ M).bind λx M1=>.ok (.ret x,ρ) M1:=rfl
@[simp] def bao:Cm.ash.den W ρ M=.ok (.ret .non,ρ) M:=rfl
@[simp] def ayx:Cm.brk.den W ρ M=.ok (.brk,ρ) M:=rfl
@[simp] def asu:Cm.cont.den W ρ M=.ok (.cont,ρ) M:=rfl
@[simp] def asv:Cm.pass.den W ρ M=.ok (.next,ρ) M:=rfl
@[simp] def aml(c:Nat)(es:Dg):(Cm.raise c es).den W ρ M=(es.den W ρ M).bind λ_ M1=>.err c M1:=rfl
def Z8(c:Ex)(b:ph):(Cm.whl c b).den W ρ M=Fp (c.den W) (b.den W) afs ρ M:=rfl
def Tj(t:Tg)(it:Qv)(b:ph):(Cm.for_ t it b).den W ρ M=(it.den W ρ M).bind λs M1=>Bv s.fin s.item (λd ρ M=>match t.put d ρ with
 | some Z=>b.den W Z M|none=>.bad) s.len 0 ρ M1:=rfl
@[simp] def asw:ph.nil.den W ρ M=.ok (.next,ρ) M:=rfl
theorem amm{W:G5}{ρ:Env}{M:cz}(s:Cm)(r:ph):(ph.cons s r).den W ρ M=(s.den W ρ M).bind λp M1=>match p.1 with
 |.next=>r.den W p.2 M1|.brk=>.ok (.brk,p.2) M1|.cont=>.ok (.cont,p.2) M1|.ret d=>.ok (.ret d,p.2) M1:=rfl
noncomputable def ajk(W:G5)(r:ph)(x:Res (Flow×Env)):Res (Flow×Env):=x.bind λp Z=>match p.1 with
 |.next=>r.den W p.2 Z|.brk=>.ok (.brk,p.2) Z|.cont=>.ok (.cont,p.2) Z|.ret d=>.ok (.ret d,p.2) Z
@[simp] def bap(s:Cm)(r:ph):(ph.cons s r).den W ρ M=ajk W r (s.den W ρ M):=rfl
@[simp] def a5t(r:ph):ajk W r (.ok (.next,ρ) M)=r.den W ρ M:=rfl
@[simp] def baq(r:ph):ajk W r (.ok (.brk,ρ) M)=.ok (.brk,ρ) M:=rfl
@[simp] def a5u(r:ph):ajk W r (.ok (.cont,ρ) M)=.ok (.cont,ρ) M:=rfl
@[simp] def bas(r:ph)(d:D):ajk W r (.ok (.ret d,ρ) M)=.ok (.ret d,ρ) M:=rfl
@[simp] def bau(r:ph)(c:Nat):ajk W r (.err c M)=.err c M:=rfl
noncomputable def ifK{α:Type}(a b:cz->Res α)(x:Res D):Res α:=x.bind λx Z=>match x with|.bl true=>a Z|.bl false=>b Z|_=>.bad
@[simp] def a5v(c:Ex)(a b:ph):(Cm.iff c a b).den W ρ M=ifK (a.den W ρ) (b.den W ρ) (c.den W ρ M):=rfl
@[simp] def bc2(c a b:Ex):(Ex.ite c a b).den W ρ M=ifK (a.den W ρ) (b.den W ρ) (c.den W ρ M):=rfl
@[simp] def bc3(a b:Ex):(Ex.and a b).den W ρ M=ifK (b.den W ρ) (.ok (.bl false)) (a.den W ρ M):=rfl
@[simp] def bg8(a b:Ex):(Ex.or a b).den W ρ M=ifK (.ok (.bl true)) (b.den W ρ) (a.den W ρ M):=rfl
@[simp] def bg9(a b:cz->Res α):ifK a b (.ok (.bl true) M)=a M:=rfl
@[simp] def bha(a b:cz->Res α):ifK a b (.ok (.bl false) M)=b M:=rfl
@[simp] def bc4(a b:cz->Res α)(c:Nat):ifK a b (.err c M)=.err c M:=rfl
theorem Yj{W:G5}{ρ:Env}{M:cz}(a b:Ex):(Ex.V0 a b).den W ρ M=(a.den W ρ M).bind λx M1 =>
 match(keysOf M1 x).bind Dr with
 |some U=>if Dt U then(b.den W ρ M1).bind λy Z =>
  match(keysOf Z y).bind Dr with
  |some G=>if Dt G then .ok (.bl !Ih U G) Z else .bad
  |none=>.bad
  else .bad
 |none=>.bad:=rfl
@[simp] def amn(t:Tg)(d:D):(Lv.tg t).put W d ρ M=Res.wj (t.put d ρ) M:=rfl
@[simp] def asx(o i:Ex)(d:D):(Lv.sub o i).put W d ρ M=(o.den W ρ M).bind λx M1=>(i.den W ρ M1).bind λy Z=>(Res.wj (setOp x y d Z) Z).bind λM3 _=>.ok ρ M3:=rfl
@[simp] def asy(o:Ex)(f:Nat)(d:D):(Lv.fld o f).put W d ρ M=(o.den W ρ M).bind λx M1=>(Res.wj (Q6 x f d M1) M1).bind λM2 _=>.ok ρ M2:=rfl
@[simp] def ayz(i:Nat)(d:D):(Tg.name i).put d ρ=some (ρ.set i (some d)):=rfl
@[simp] def aw9(is:Yf)(ds:List D)(h:ds.length=is.length):(Tg.names is).put (.tup ds) ρ=some (Qc is ds ρ):=by simp[Tg.put,h]
@[simp] def axa(i:Nat)(is:Yf)(d:D)(ds:List D):Qc (i::is) (d::ds) ρ=Qc is ds (ρ.set i (some d)):=rfl
@[simp] def ay0(ds:List D):Qc [] ds ρ=ρ:=by cases ds<;>rfl
@[simp] def a5w(i j:Int):Fy .add (.int i) (.int j) M=.ok (.int (i+j)) M:=rfl
@[simp] def a5x(i j:Int):Fy .sub (.int i) (.int j) M=.ok (.int (i-j)) M:=rfl
def Lz(i j:Int)(h:(-(2 ^ 64)<i/\i<2 ^ 64)\/(-(2 ^ 64)<j/\j<2 ^ 64)):Fy .mul (.int i) (.int j) M=.ok (.int (i*j)) M:=cj h
def Yk(i j:Int)(h:0<j)(Z:j<1073741824):Fy .fdiv (.int i) (.int j) M=.ok (.int (i / j)) M:=cj ⟨h,Z⟩
@[simp] def a5y(i j:Int)(h:0<j):Fy .mod (.int i) (.int j) M=.ok (.int (i%j)) M:=cj h
@[simp] def ay1:Fy .pow (.int 10) (.int 18) M=.ok (.int (10 ^ 18)) M:=by simp[Fy,aw8]
def Yl(xs ys:List D)(h:xs.length+ys.length<=100000):Fy .add (.vl xs) (.vl ys) M=.ok (.vl (xs++ys)) M:=cj h
def ajl(xs ys:List D)(h:xs.length+ys.length<=100000):Fy .ajg (.vl xs) (.vl ys) M=new (.lst (xs++ys)) M:=cj h
@[simp] def bc5(i j:Int):Lw .lt (.int i) (.int j) M=some (decide (i<j)):=rfl
@[simp] def bc6(i j:Int):Lw .le (.int i) (.int j) M=some (decide (i<=j)):=rfl
@[simp] def cmp_gt(i j:Int):Lw .gt (.int i) (.int j) M=some (decide (j<i)):=rfl
@[simp] def bc7(i j:Int):Lw .ge (.int i) (.int j) M=some (decide (j<=i)):=rfl
@[simp] def bc8(a b:D):Lw .eq a b M=za M a b:=rfl
@[simp] def bc9(a b:D):Lw .ne a b M=(za M a b).map not:=rfl
@[simp] def bda(a b:D):Lw .inn a b M=O3 M a b:=rfl
@[simp] def a3r(a b:D):Lw .Ui a b M=(O3 M a b).map not:=rfl
def ahc(n:Nat)(i j:Int):Ka M (n+1) (.int i) (.int j)=some (decide (i=j)):=rfl
def bav(n:Nat)(as bs:List D):Ka M (n+1) (.tup as) (.tup bs)=O5 (Ka M n) as bs:=rfl
def Du(G:f a b=some x)(Z:O5 f as bs=some y):O5 f (a::as) (b::bs)=some (x&&y):=by simp[O5,G,Z]
@[simp] def eq_int(i j:Int):za M (.int i) (.int j)=some (decide (i=j)):=rfl
@[simp] def bhb(i j:Bool):za M (.bl i) (.bl j)=some (i==j):=rfl
@[simp] def ajm(ds:List D):fu M (.vl ds)=some ds:=rfl
@[simp] def a5z(ds:List D):wz M (.vl ds)=some ds:=rfl
@[simp] def a3s(ds:List D):wz M (.tup ds)=some ds:=rfl
def qm(h:M[n]?=some (.lst ds)):fu M (.ref n)=some ds:=by simp[fu,h]
def V3(h:fu M d=some ds):wz M d=some ds:=by cases d<;>first|exact h|(simp[fu] at h)
set_option tactic.hygienic true in
def len_list(h:fu M d=some ds):rz .len [d] M=.ok (.int ds.length) M:=by
 show Ti M d=_;cases d with
 |vl Y=>simp[fu] at h;subst h;rfl
 |ref n =>
  simp only[fu] at h;split at h<;>simp at h;rename_i Y Z;subst h;simp[Ti,Z]
 |_=>simp[fu] at h
@[simp] def a6a(d:D)(g:D->Res D):P0 [d] g=g d:=rfl
@[simp] def a6b(g:D->Res D):P0 [] g=.bad:=rfl
@[simp] def a3t(a b:D)(l:List D)(g:D->Res D):P0 (a::b::l) g=.bad:=rfl
@[simp] def bdc(i j:Int)(f:Int->Int->Int)(g:D->Option Int):two [.int i,.int j] f g M=.ok (.int (f i j)) M:=rfl
@[simp] def asz(d:D)(f:Int->Int->Int)(g:D->Option Int):two [d] f g M=Res.wj ((g d).map D.int) M:=rfl
@[simp] def ay2(ds:List D):Ti M (.tup ds)=.ok (.int ds.length) M:=rfl
@[simp] theorem axb{M:cz}(n:Nat):Vh M (.ref n)=match M[n]? with
 |some (.dT iu)=>if afr iu then new (.dT iu) M else .bad
 |some (.dK iu)=>new (.dK iu) M|_=>.bad:=rfl
def baw:rz .len [.tup ds] M=.ok (.int ds.length) M:=rfl
def Cy(h:fu M d=some ds)(G:0<=i)(hx:ds[i.toNat]?=some x):Aw d (.int i) M=some x:=by
 obtain⟨R,Z⟩:=ak.mp hx;have U:i<ds.length:=by lia
 cases d with
 |vl xs=>simp[fu] at h;subst h;simp[Aw,wz,V1,G,U,R,Z]
 |ref n =>
  simp only[fu] at h;cases e:M[n]? with
  |none=>rw[e] at h;simp at h|some o=>rw[e] at h;cases o<;>simp at h<;>subst h<;>simp[Aw,fu,e,V1,G,U,R,Z]
 |_=>simp[fu] at h
def Iw(U:0<=i)(G:ds[i.toNat]?=some x):Aw (.tup ds) (.int i) M=some x:=by
 obtain⟨hl,Z⟩:=ak.mp G;have R:i<ds.length:=by lia
 simp[Aw,wz,V1,U,R,hl,Z]
def a6c(U:0<=i)(G:ds[i.toNat]?=some x):Aw (.fz ds) (.int i) M=some x:=by
 obtain⟨hl,Z⟩:=ak.mp G;have R:i<ds.length:=by lia
 simp[Aw,V1,U,R,hl,Z]
def amo:rz .len [.fz ds] M=.ok (.int ds.length) M:=rfl
@[simp] def bax(x:D)(r:List D):Aw (.tup (x::r)) (.int 0) M=some x:=Iw (by decide) rfl
@[simp] def bay(x y:D)(r:List D):Aw (.tup (x::y::r)) (.int 1) M=some y:=Iw (by decide) rfl
@[simp] def baz(x y z:D)(r:List D):Aw (.tup (x::y::z::r)) (.int 2) M=some z:=Iw (by decide) rfl
def ace(h:M[n]?=some (.dT G))(Z:Tf b=some k):Aw (.ref n) b M=xu G k:=by simp[Aw,h,Z]
def axc(h:M[n]?=some (.dT G))(Z:Tf b=some k):O3 M b (.ref n)=some (xu G k).isSome:=by simp[O3,h,Z]
def a6d(h:M[n]?=some (.dK G))(Z:Te b=some k):Aw (.ref n) b M=xu G k:=by simp[Aw,h,Z]
@[simp] def Ym(i j:Int):Tf (.tup [.int i,.int j])=some [.inl i,.inl j]:=rfl
@[simp] def bhc(i:Int):Te (.int i)=some (.inl i):=rfl
def Cu(h:M[n]?=some (.lst xs)):Qa .append (.ref n) M=true:=by simp[Qa,h]
def Cq(h:M[n]?=some (.lst xs))(hl:xs.length<100000):Jl .append (.ref n) [d] M=.ok .non (M.set n (.lst (xs++[d]))):=by simp[Jl,h,hl]
def Z9(h:M[n]?=some (.lst xs))(Z:0<=i)(hi:i<xs.length):setOp (.ref n) (.int i) d M=some (M.set n (.lst (xs.set i.toNat d))):=by simp[setOp,h,V1,Z,hi]
def amq(h:M[n]?=some (.dT Z))(G:Tf b=some k)(hs:Z.length<100000):setOp (.ref n) b d M=some (M.set n (.dT (Dd Z k d))):=by simp[setOp,h,G,hs]
def w6{M:cz}(h:M[a]?=some o):a<M.length:=(ak.mp h).1
def ur{M:cz}(h:M[a]?=some p):(M.set a o)[a]?=some o:=by rw[Ab (w6 h)]
def qp{M:cz}(h:b≠a):(M.set b o)[a]?=M[a]?:=vq h
def qt{M:cz}{a:Nat}(h:M[a]?=some o):(M++X)[a]?=some o:=by rw[fc (w6 h)];exact h
@[simp] def ba0{M:cz}:(M++[o])[M.length]?=some o:=by simp
theorem V4(x:Int):∀l,(insI x l).Perm (x::l)
 |[]=>xm _
 |y::l=>by
  unfold insI;split
  .exact xm _
  .exact((V4 x l).cons y).trans (List.Perm.swap x y l)
theorem Jo:∀l,(sortI l).Perm l
 |[]=>xm _|x::l=>(V4 x _).trans ((Jo l).cons x)
theorem amr(x:Int):∀{l:U1},l.Pairwise (·<=·)->(insI x l).Pairwise (·<=·)
 |[],_=>List.pairwise_singleton _ _
 |y::l,h=>by
  obtain⟨G,U⟩:=Af.mp h;unfold insI;split
  .refine Af.mpr ⟨λz Z=>?_,h⟩
   rcases bz.mp Z with rfl|Z
   .lia
   .have:=G z Z;lia
  .refine Af.mpr ⟨λz Z=>?_,amr x U⟩
   rcases bz.mp ((V4 x l).mem_iff.mp Z) with rfl|Z
   .lia
   .exact G z Z
theorem ahd:∀l,(sortI l).Pairwise (·<=·)
 |[]=>List.Pairwise.nil|x::l=>amr x (ahd l)
set_option tactic.hygienic true in
theorem Qe(k:Int):∀l,k∈Aa l↔k∈l
 |[]=>Iff.rfl
 |x::l=>by
  unfold Aa;split
  .rename_i h
   rw[Qe k l,bz];exact⟨.inr,λz=>z.elim (λe=>e▸h) id⟩
  .rw[bz,bz,Qe k l]
set_option tactic.hygienic true in
theorem aaa:∀l,(Aa l).Nodup
 |[]=>Ax
 |x::l=>by
  unfold Aa;split
  .exact aaa l
  .rename_i h
   exact u0.mpr ⟨λz=>h ((Qe x l).mp z),aaa l⟩
theorem aab:∀l,(Aa l).length<=l.length
 |[]=>bf _
 |x::l=>by
  have:=aab l;unfold Aa;split<;>simp<;>omega
theorem axd:∀{a b:U1},a.Pairwise (·<=·)->b.Pairwise (·<=·)->a.Nodup->b.Nodup->(∀k,k∈a↔k∈b)->a=b
 |[],[],_,_,_,_,_=>rfl|[],y::b,_,_,_,_,h=>nomatch(h y).mpr dg|x::a,[],_,_,_,_,h=>nomatch(h x).mp dg
 |x::a,y::b,ha,hb,na,nb,h=>by
  obtain⟨U,G⟩:=Af.mp ha;obtain⟨b1,Z⟩:=Af.mp hb;obtain⟨c1,c2⟩:=u0.mp na;obtain⟨R,d2⟩:=u0.mp nb;have e:x=y:=by
   rcases bz.mp ((h x).mp dg) with e|m
   .exact e
   .rcases bz.mp ((h y).mpr dg) with e|m'
    .exact e.symm
    .have:=b1 x m;have:=U y m';lia
  subst e
  congr 1
  refine axd G Z c2 d2 λk=>⟨λm=>?_,λm=>?_⟩
  .rcases bz.mp ((h k).mp (bh _ m)) with rfl|m'
   .exact absurd m c1
   .exact m'
  .rcases bz.mp ((h k).mpr (bh _ m)) with rfl|m'
   .exact absurd m R
   .exact m'
def ahe(U:ns.Pairwise (·<=·))(Z:ns.Nodup)(G:∀k,k∈l↔k∈ns):ns=sortI (Aa l) :=
 axd U (ahd _) Z ((Jo _).nodup_iff.mpr (aaa l)) λk=>by rw[(Jo _).mem_iff,Qe,G]
theorem aac{fin:cz->Bool}{item:Nat->cz->Option D}{body:D->Env->cz->Res (Flow×Env)}(I:Nat->Env->cz->Prop){n:Nat}
 (step:∀i ρ M,i<n->I i ρ M->∃d G Z M',item i M=some d/\body d ρ M=.ok (G,Z) M'/\(G=.next\/G=.cont)/\I (i+1) Z M') (Qf:∀ρ M,I n ρ M->fin M=true) :
 ∀(k i:Nat)(ρ:Env)(M:cz),i+k=n->I i ρ M->∃Z M',Bv fin item body k i ρ M=.ok (.next,Z) M'/\I n Z M'
 |0,i,ρ,M,e,h=>by
  have q:i=n:=by lia
  rw[q] at h;exact⟨ρ,M,by simp[Bv,Qf ρ M h],h⟩
 |k+1,i,ρ,M,e,h=>by
  obtain⟨d,G,U,M1,h1,h2,h3,h4⟩:=step i ρ M (by lia) h;obtain⟨R,M2,g1,g2⟩:=aac I step Qf k (i+1) U M1 (by lia) h4;refine⟨R,M2,?_,g2⟩;rcases h3 with rfl|rfl<;>simp[Bv,h1,h2,g1]
def Vj(I:Nat->Env->cz->Prop)(R:I 0 ρ M)(step:∀i d ρ M,ds[i]?=some d->I i ρ M->∃G Z M',body d ρ M=.ok (G,Z) M'/\(G=.next\/G=.cont)/\I (i+1) Z M') :
 ∃Z M',Bv (Src.con ds).fin (Src.con ds).item body (Src.con ds).len 0 ρ M=.ok (.next,Z) M'/\I ds.length Z M':=by
 refine aac I (λi ρ M U h=>?_) (λ_ _ _=>rfl) ds.length 0 ρ M (vo _) R;obtain⟨G,Z,M',a,b,c⟩:=step i ds[i] ρ M (by simp[U]) h;exact⟨ds[i],G,Z,M',by simp[Src.item,U],a,b,c⟩
def aad(I:Nat->Env->cz->Prop)(h0:I 0 ρ M)(step:∀i ρ M,i<n->I i ρ M->∃U Z M',body (.int i) ρ M=.ok (U,Z) M'/\(U=.next\/U=.cont)/\I (i+1) Z M') :
 ∃Z M',Bv (Src.con ((List.range n).map λ(k:Nat)=>D.int (k:Int))).fin (Src.con ((List.range n).map λ(k:Nat)=>D.int (k:Int))).item body (Src.con ((List.range n).map λ(k:Nat)=>D.int (k:Int))).len 0 ρ M=.ok (.next,Z) M'/\I n Z M':=by
 have:=Vj (ds:=(List.range n).map λ(k:Nat)=>D.int (k:Int)) (body:=body) I h0 (λi d ρ M G h=>by
  have R:i<n:=by have:=(ak.mp G).1;simpa using this
  rw[jh,ux R] at G;have G:D.int (i:Int)=d:=by simpa using G
  subst G;exact step i ρ M R h)
 simpa using this
def ams(I:Nat->Env->cz->Prop)(R:I 0 ρ M)(stay:∀i ρ M,I i ρ M->M[p]?=some (.lst ds))(step:∀i d ρ M,ds[i]?=some d->I i ρ M->∃G Z M',body d ρ M=.ok (G,Z) M'/\(G=.next\/G=.cont)/\I (i+1) Z M') :
 ∃Z M',Bv (Src.live p ds.length).fin (Src.live p ds.length).item body (Src.live p ds.length).len 0 ρ M=.ok (.next,Z) M'/\I ds.length Z M':=by
 refine aac I (λi ρ M U h=>?_) (fun ρ M h=>by simp[Src.fin,stay _ ρ M h]) ds.length 0 ρ M (vo _) R;obtain⟨G,Z,M',a,b,c⟩:=step i ds[i] ρ M (by simp[U]) h;exact⟨ds[i],G,Z,M',by simp[Src.item,stay i ρ M h,U],a,b,c⟩
theorem G7{fin:cz->Bool}{item:Nat->cz->Option D}{body:D->cz->Res (Option D)}(I:Nat->List D->cz->Prop){n:Nat}
 (step:∀i xs M,i<n->I i xs M->∃d o M',item i M=some d/\body d M=.ok o M'/\I (i+1) (xs++o.toList) M') (Z:∀xs M,I n xs M->fin M=true) :
 ∀(k i:Nat)(xs:List D)(M:cz),i+k=n->I i xs M->∃ys M',Dh fin item body k i M=.ok ys M'/\I n (xs++ys) M'
 |0,i,xs,M,e,h=>by
  have q:i=n:=by lia
  rw[q] at h;exact⟨[],M,by simp[Dh,Z xs M h],by simpa using h⟩
 |k+1,i,xs,M,e,h=>by
  obtain⟨d,o,G,R,h2,U⟩:=step i xs M (by lia) h;obtain⟨ys,M2,g1,g2⟩:=G7 I step Z k (i+1) (xs++o.toList) G (by lia) U;refine⟨o.toList++ys,M2,?_,by rw[<- q9];exact g2⟩;cases o<;>simp[Dh,R,h2,g1]
def Tn{s:Src}{ds:List D}(Qf:s.fin M=true)(hl:s.len=ds.length)(hi:∀i,i<ds.length->s.item i M=ds[i]?)(h:∀d∈ds,body d M=.ok (g d) M) :
 Dh s.fin s.item body s.len 0 M=.ok (ds.filterMap g) M:=by
 obtain⟨ys,Z,e,h1,R⟩:=G7 (fin:=s.fin) (item:=s.item) (body:=body) (λi U Z=>Z=M/\U=(ds.take i).filterMap g) (n:=ds.length) (λi U Z G hI=>by
  obtain⟨rfl,rfl⟩:=hI;refine⟨ds[i],g ds[i],Z,by rw[hi i G];simp[G],h _ (p7 G),rfl,?_⟩;rw[List.take_succ,List.filterMap_append];simp[G];cases e:g ds[i]<;>simp[e]) (λU Z h=>by rw[h.1];exact Qf) ds.length 0 [] M (vo _) ⟨rfl,rfl⟩
 rw[hl,e,h1];simp at R;rw[R]
def amt(h:∀d∈ds,body d M=.ok (some (g d)) M) :
 Dh (Src.con ds).fin (Src.con ds).item body (Src.con ds).len 0 M=.ok (ds.map g) M:=by
 rw[Tn (s:=.con ds) (ds:=ds) (g:=λd=>some (g d)) rfl rfl (λi _=>rfl) h,List.filterMap_eq_map']
end MW
namespace MW
theorem Ou{c:Env->cz->Res D}{body:Env->cz->Res (Flow×Env)}(I:Nat->Env->cz->Prop)(Tp:Env->cz->Prop)
 (step:∀m ρ M,I m ρ M->(∃M1,c ρ M=.ok (.bl false) M1/\Tp ρ M1) \/
  ∃M1 U Z R G,c ρ M=.ok (.bl true) M1/\body ρ M1=.ok (U,Z) R/\(U=.next\/U=.cont)/\G<m/\I G Z R) :
 ∀(k m:Nat)(ρ:Env)(M:cz),m<k->I m ρ M->∃Z M',Fp c body k ρ M=.ok (.next,Z) M'/\Tp Z M'
 |0,m,_,_,h,_=>absurd h (yz _)
 |k+1,m,ρ,M,h,hI=>by
  rcases step m ρ M hI with⟨M1,h1,h2⟩|⟨M1,U,qq,R,G,h1,h2,h3,h4,h5⟩
  .exact⟨ρ,M1,by simp[Fp,h1],h2⟩
  .obtain⟨qk,M3,g1,g2⟩:=Ou I Tp step k G qq R (b_ h4 (z_ h)) h5
   refine⟨qk,M3,?_,g2⟩;rcases h3 with rfl|rfl<;>simp[Fp,h1,h2,g1]
end MW
namespace MW
noncomputable def Bt(M M':cz):Prop:=∀(a:Nat)(o:MO),M[a]?=some o->M'[a]?=some o
def Bt.refl(M:cz):Bt M M:=λ_ _ h=>h
def Bt.trans(a:Bt M M1)(b:Bt M1 M2):Bt M M2:=λx o h=>b x o (a x o h)
def Bt.app(M X:cz):Bt M (M++X):=λ_ _ h=>qt h
def Bt.len(k:Bt M M'):M.length<=M'.length:=by
 rcases Nat.eq_zero_or_pos M.length with h|h
 .exact a_ (f_ h) (jx _)
 .have:=w6 (k (M.length-1) M[M.length-1] (by simp))
  lia
theorem Bt.fu(k:Bt M M')(h:fu M d=some ds):MW.fu M' d=some ds:=by
 cases d with
 |vl Z=>exact h
 |ref n =>
  simp only[MW.fu] at h ⊢;cases e:M[n]? with
  |none=>rw[e] at h;simp at h|some o=>rw[e] at h;rw[k n o e];exact h
 |_=>simp[MW.fu] at h
def V5(I:Nat->Env->cz->Prop)(G:fu M d=some ds)(h0:I 0 ρ M)(stay:∀i ρ M,I i ρ M->fu M d=some ds)(step:∀i x ρ M,ds[i]?=some x->I i ρ M->∃U Z M',body x ρ M=.ok (U,Z) M'/\(U=.next\/U=.cont)/\I (i+1) Z M') :
 ∃s,srcOf M d=some s/\∃Z M',Bv s.fin s.item body s.len 0 ρ M=.ok (.next,Z) M'/\I ds.length Z M':=by
 cases d with
 |vl R=>simp[fu] at G;subst G;exact⟨_,rfl,Vj I h0 step⟩
 |ref n =>
  cases e:M[n]? with
  |none=>simp[fu,e] at G
  |some o =>
   cases o with
   |lst R =>
    simp[fu,e] at G;subst G;refine⟨.live n R.length,by simp[srcOf,e],ams I h0 (λi ρ M h=>?_) step⟩;have:=stay i ρ M h;simp only[fu] at this;split at this<;>simp_all
   |_=>simp[fu,e] at G
 |_=>simp[fu] at G
def ahf(hl:ds.length<=100000)(h:∀d∈ds,body d M=.ok (some (g d)) M):An (.con ds) body M=.ok (ds.map g) M:=by rw[An,cj (show(Src.con ds).len<=100000 from hl)];exact amt h
def Ra(hl:ds.length<=100000)(h:∀d∈ds,body d M=.ok (g d) M):An (.con ds) body M=.ok (ds.filterMap g) M:=by rw[An,cj (show(Src.con ds).len<=100000 from hl)];exact Tn (s:=.con ds) rfl rfl (λ_ _=>rfl) h
def acf(Z:fu M d=some ds)(hl:ds.length<=100000)(h:∀x∈ds,body x M=.ok (g x) M) :
 ∃s,srcOf M d=some s/\An s body M=.ok (ds.filterMap g) M:=by
 cases d with
 |vl G=>simp[fu] at Z;subst Z;exact⟨_,rfl,Ra hl h⟩
 |ref n =>
  cases e:M[n]? with
  |none=>simp[fu,e] at Z
  |some o =>
   cases o with
   |lst G =>
    simp[fu,e] at Z;subst Z;exact⟨.live n G.length,by simp[srcOf,e],by rw[An,cj (show(Src.live n G.length).len<=100000 from hl)];exact Tn (s:=.live n G.length) (by simp[Src.fin,e]) rfl (λi _=>by simp[Src.item,e]) h⟩
   |_=>simp[fu,e] at Z
 |_=>simp[fu] at Z
def Jp(v:Bool)(k:Nat)(t:Tg)(it:Qv)(e:Ex):(Ex.comp v k t it e).den W ρ M=(it.den W ρ M).bind λs M1 =>
 (An s (λd M=>(Res.wj (t.put d (ρ++List.replicate k none)) M).bind fun Z M=>(e.den W Z M).bind λx M'=>.ok (some x) M') M1).bind λds M2=>if v then .ok (.vl ds) M2 else new (.lst ds) M2:=by
 rw[Lx]
 congr 1;funext s M1;congr 2;funext d M
 cases t.put d (ρ++List.replicate k none)<;>rfl
def Ma(v:Bool)(k:Nat)(t:Tg)(it:Qv)(c e:Ex):(Ex.Cj v k t it c e).den W ρ M=(it.den W ρ M).bind λs M1 =>
 (An s (λd M=>(Res.wj (t.put d (ρ++List.replicate k none)) M).bind fun Z M=>(c.den W Z M).bind λb M' =>
  match b with
   |.bl true=>(e.den W Z M').bind λx G=>.ok (some x) G
   | .bl false=>.ok none M'|_=>.bad) M1).bind λds M2=>if v then .ok (.vl ds) M2 else new (.lst ds) M2:=by
 rw[V2]
 congr 1;funext s M1;congr 2;funext d M
 cases t.put d (ρ++List.replicate k none)<;>rfl
def Ov(t:Tg)(it:Qv)(b:ph):(Cm.for_ t it b).den W ρ M=(it.den W ρ M).bind λs M1=>Bv s.fin s.item (λd ρ M=>(Res.wj (t.put d ρ) M).bind fun Z M=>b.den W Z M) s.len 0 ρ M1:=by
 rw[Tj]
 congr 1;funext s M1;congr 1;funext d ρ M
 cases t.put d ρ<;>rfl
def zx(R:it.den W ρ M=.ok (.int (n:Int)) M1)(hn:n<=100000)(I:Nat->Env->cz->Prop)(h0:I 0 ρ M1)(step:∀i ρ M,i<n->I i ρ M->∃G U Z M',t.put (.int i) ρ=some G/\b.den W G M=.ok (U,Z) M'/\(U=.next\/U=.cont)/\I (i+1) Z M') :
 ∃Z M',(Cm.for_ t (.Ln it) b).den W ρ M=.ok (.next,Z) M'/\I n Z M':=by
 rw[Ov,Q9,R];have Jj:((n:Int)).natAbs<=100000:=by lia
 simp only[Res.Am,Jj,jn,wg];exact aad I h0 (λi ρ M hi h=>by
  obtain⟨G,U,Z,M',a,b,c,d⟩:=step i ρ M hi h;exact⟨U,Z,M',by rw[a];exact b,c,d⟩)
def Kd(R:it.den W ρ M=.ok d M1)(hd:fu M1 d=some ds)(I:Nat->Env->cz->Prop)(h0:I 0 ρ M1)(stay:∀i ρ M,I i ρ M->fu M d=some ds)(step:∀i x ρ M,ds[i]?=some x->I i ρ M->∃G U Z M',t.put x ρ=some G/\b.den W G M=.ok (U,Z) M'/\(U=.next\/U=.cont)/\I (i+1) Z M') :
 ∃Z M',(Cm.for_ t (.val it) b).den W ρ M=.ok (.next,Z) M'/\I ds.length Z M':=by
 rw[Ov,Kc,R];obtain⟨s,h1,h2⟩:=V5 (body:=λd ρ M=>(Res.wj (t.put d ρ) M).bind fun Z M=>b.den W Z M) I hd h0 stay (λi x ρ M hx h=>by
  obtain⟨G,U,Z,M',a,b,c,d⟩:=step i x ρ M hx h;exact⟨U,Z,M',by rw[a];exact b,c,d⟩)
 simp only[Res.Am,h1,Res.Cr];exact h2
def acg(R:it.den W ρ M=.ok (.tup ds) M1)(I:Nat->Env->cz->Prop)(h0:I 0 ρ M1)(step:∀i x ρ M,ds[i]?=some x->I i ρ M->∃G U Z M',t.put x ρ=some G/\b.den W G M=.ok (U,Z) M'/\(U=.next\/U=.cont)/\I (i+1) Z M') :
 ∃Z M',(Cm.for_ t (.val it) b).den W ρ M=.ok (.next,Z) M'/\I ds.length Z M':=by
 rw[Ov,Kc,R];exact Vj I h0 (λi x ρ M hx h=>by
  obtain⟨G,U,Z,M',a,b,c,d⟩:=step i x ρ M hx h;exact⟨U,Z,M',by rw[a];exact b,c,d⟩)
def Uk(qq:it.den W ρ M=.ok (.tup ds) M1)(I:Nat->Env->cz->Prop)(h0:I 0 ρ M1)(step:∀i x ρ M,ds[i]?=some x->I i ρ M->∃G R Z M',t.put (.tup [.int i,x]) ρ=some G/\b.den W G M=.ok (R,Z) M'/\(R=.next\/R=.cont)/\I (i+1) Z M') :
 ∃Z M',(Cm.for_ t (.enm it) b).den W ρ M=.ok (.next,Z) M'/\I ds.length Z M':=by
 rw[Ov,Z6,qq];have:=Vj (ds:=Bs ds 0) (body:=λd ρ M=>(Res.wj (t.put d ρ) M).bind fun Z M=>b.den W Z M) I h0 (λi x ρ M hx h=>by
  have U:i<ds.length:=by have:=(ak.mp hx).1;simpa[Bs] using this
  have qk:x=.tup [.int i,ds[i]]:=by simp[Bs,U] at hx;exact hx.symm
  subst qk;obtain⟨G,R,Z,M',a,b,c,d⟩:=step i ds[i] ρ M (by simp[U]) h;exact⟨R,Z,M',by rw[a];exact b,c,d⟩)
 have e:(Bs ds 0).length=ds.length:=by simp[Bs]
 rw[e] at this;exact this
def Ao(G:it.den W ρ M=.ok d M1)(hd:fu M1 d=some ds)(hl:ds.length<=100000)(h:∀x∈ds,∃Z,t.put x (ρ++List.replicate k none)=some Z/\e.den W Z M1=.ok (g x) M1) :
 (Ex.comp v k t (.val it) e).den W ρ M=if v then .ok (.vl (ds.map g)) M1 else new (.lst (ds.map g)) M1:=by
 rw[Jp,Kc,G];obtain⟨s,h1,h2⟩:=acf (g:=λx=>some (g x)) (body:=λd M=>(Res.wj (t.put d (ρ++List.replicate k none)) M).bind fun U M=>(e.den W U M).bind λx M'=>.ok (some x) M') hd hl (λx R=>by
  obtain⟨Z,a,b⟩:=h x R;rw[a];simp[b])
 simp only[Res.Am,h1,Res.Cr,h2,List.filterMap_eq_map']
def aae(G:it.den W ρ M=.ok (.tup ds) M1)(hl:ds.length<=100000)(h:∀x∈ds,∃Z,t.put x (ρ++List.replicate k none)=some Z/\e.den W Z M1=.ok (g x) M1) :
 (Ex.comp v k t (.val it) e).den W ρ M=if v then .ok (.vl (ds.map g)) M1 else new (.lst (ds.map g)) M1:=by
 rw[Jp,Kc,G];have h2:=ahf (g:=g) (M:=M1) (body:=λd M=>(Res.wj (t.put d (ρ++List.replicate k none)) M).bind fun U M=>(e.den W U M).bind λx M'=>.ok (some x) M') hl (λx R=>by
  obtain⟨Z,a,b⟩:=h x R;rw[a];simp[b])
 show(An (.con ds) _ M1).bind _=_;rw[h2];rfl
def Mf(G:it.den W ρ M=.ok (.int (n:Int)) M1)(hl:n<=100000)(h:∀i,i<n->∃Z,t.put (.int i) (ρ++List.replicate k none)=some Z/\c.den W Z M1=.ok (.bl (q i)) M1/\(q i=true->e.den W Z M1=.ok (g i) M1)) :
 (Ex.Cj v k t (.Ln it) c e).den W ρ M=if v then .ok (.vl (((List.range n).filter q).map g)) M1 else new (.lst (((List.range n).filter q).map g)) M1:=by
 rw[Ma,Q9,G];have U:((n:Int)).natAbs<=100000:=by lia
 simp only[Res.Am,U,jn,wg];rw[Ra (ds:=(List.range n).map λ(k:Nat)=>D.int (k:Int)) (g:=λd=>match d with|.int i=>if q i.toNat then some (g i.toNat) else none|_=>none) (by simpa using hl) (λx R=>by
  obtain⟨i,hi,rfl⟩:=bw.mp R;obtain⟨Z,a,b,c⟩:=h i (ju.mp hi);rw[a,Res.Cr,Res.Am,b,Res.Am];cases e:q i with
  | true=>simp[e,c e]|false=>simp[e])]
 have:(((List.range n).map λ(k:Nat)=>D.int (k:Int)).filterMap λd=>match d with|.int i=>if q i.toNat then some (g i.toNat) else none|_=>none)=((List.range n).filter q).map g:=by
  rw[List.filterMap_map]
  induction List.range n with
  |nil=>rfl|cons a l ih=>by_cases e:q a=true<;>simp[e,ih]
 rw[this];rfl
def V6(G:it.den W ρ M=.ok (.tup ds) M1)(hl:ds.length<=100000)(h:∀(i:Nat) (x:D),ds[i]?=some x->∃Z,t.put (.tup [.int i,x]) (ρ++List.replicate k none)=some Z/\c.den W Z M1=.ok (.bl (q i)) M1/\(q i=true->e.den W Z M1=.ok (g i) M1)) :
 (Ex.Cj v k t (.enm it) c e).den W ρ M=if v then .ok (.vl (((List.range ds.length).filter q).map g)) M1 else new (.lst (((List.range ds.length).filter q).map g)) M1:=by
 rw[Ma,Z6,G];simp only[Res.Am];rw[Ra (ds:=Bs ds 0) (g:=λd=>match d with|.tup [.int i,_]=>if q i.toNat then some (g i.toNat) else none|_=>none) (by simpa[Bs] using hl) (λx hx=>by
  obtain⟨i,hi,ei⟩:=qd hx;have U:i<ds.length:=by simpa[Bs] using hi
  have qq:x=.tup [.int i,ds[i]]:=by rw[<- ei];simp[Bs]
  subst qq;obtain⟨Z,a,b,c⟩:=h i ds[i] (by simp[U]);rw[a,Res.Cr,Res.Am,b,Res.Am];cases e:q i with
  | true=>simp[e,c e]|false=>simp[e])]
 have:((Bs ds 0).filterMap λd=>match d with|.tup [.int i,_]=>if q i.toNat then some (g i.toNat) else none|_=>none)=((List.range ds.length).filter q).map g:=by
  have R:∀(l:List D)(s:Nat),((Bs l s).filterMap λd=>match d with|.tup [.int i,_]=>if q i.toNat then some (g i.toNat) else none|_=>none)=((List.range' s l.length).filter q).map g:=by
   intro l
   induction l with
   |nil=>intro s;rfl
   |cons a l ih =>
    intro s;have e1:Bs (a::l) s=.tup [.int s,a]::Bs l (s+1):=by simp[Bs]
    rw[e1,gm,List.range'_succ]
    by_cases e:q s=true<;>simp[e,ih]
  rw[R,List.range_eq_range']
 rw[this];rfl
theorem ahg{fin:cz->Bool}{item:Nat->cz->Option D}{body:D->Env->cz->Res (Flow×Env)}(I:Nat->Env->cz->Prop)(R:Env->cz->Prop){n:Nat}
 (step:∀i ρ M,i<n->I i ρ M->∃d U Z M',item i M=some d/\body d ρ M=.ok (U,Z) M'/\(((U=.next\/U=.cont)/\I (i+1) Z M')\/(U=.brk/\R Z M'))) (Qf:∀ρ M,I n ρ M->fin M=true/\R ρ M) :
 ∀(k i:Nat)(ρ:Env)(M:cz),i+k=n->I i ρ M->∃Z M',Bv fin item body k i ρ M=.ok (.next,Z) M'/\R Z M'
 |0,i,ρ,M,e,h=>by
  have q:i=n:=by lia
  rw[q] at h;exact⟨ρ,M,by simp[Bv,(Qf ρ M h).1],(Qf ρ M h).2⟩
 |k+1,i,ρ,M,e,h=>by
  obtain⟨d,U,G,M1,h1,h2,⟨h3,h4⟩|⟨rfl,h4⟩⟩:=step i ρ M (by lia) h
  .obtain⟨qq,M2,g1,g2⟩:=ahg I R step Qf k (i+1) G M1 (by lia) h4
   refine⟨qq,M2,?_,g2⟩;rcases h3 with rfl|rfl<;>simp[Bv,h1,h2,g1]
  .exact⟨G,M1,by simp[Bv,h1,h2],h4⟩
def ach(qq:it.den W ρ M=.ok (.int (n:Int)) M1)(hn:n<=100000)(I:Nat->Env->cz->Prop)(R:Env->cz->Prop)(h0:I 0 ρ M1)(hp:∀ρ M,I n ρ M->R ρ M)(step:∀i ρ M,i<n->I i ρ M->∃G U Z M',t.put (.int i) ρ=some G/\b.den W G M=.ok (U,Z) M'/\(((U=.next\/U=.cont)/\I (i+1) Z M')\/(U=.brk/\R Z M'))) :
 ∃Z M',(Cm.for_ t (.Ln it) b).den W ρ M=.ok (.next,Z) M'/\R Z M':=by
 rw[Ov,Q9,qq];have Jj:((n:Int)).natAbs<=100000:=by lia
 simp only[Res.Am,Jj,jn,wg];obtain⟨Z,M',e,h⟩:=ahg (fin:=(Src.con ((List.range n).map λ(k:Nat)=>D.int (k:Int))).fin) (item:=(Src.con ((List.range n).map λ(k:Nat)=>D.int (k:Int))).item) (body:=λd ρ M=>(Res.wj (t.put d ρ) M).bind fun Z M=>b.den W Z M) I R (n:=n) (λi ρ M hi h=>by
  obtain⟨G,U,Z,M',a,b,c⟩:=step i ρ M hi h;exact⟨.int i,U,Z,M',by simp[Src.item,hi],by rw[a];exact b,c⟩) (fun ρ M h=>⟨rfl,hp ρ M h⟩) n 0 ρ M1 (vo _) h0
 have hl:(Src.con ((List.range n).map λ(k:Nat)=>D.int (k:Int))).len=n:=by simp[Src.len]
 rw[hl];exact⟨Z,M',e,h⟩
def aaf(G:it.den W ρ M=.ok (.int (n:Int)) M1)(hn:n<=100000)(I:Nat->List D->cz->Prop)(h0:I 0 [] M1)(step:∀i xs M,i<n->I i xs M->∃Z x M',t.put (.int i) (ρ++List.replicate k none)=some Z/\e.den W Z M=.ok x M'/\I (i+1) (xs++[x]) M') :
 ∃ys M',(Ex.comp v k t (.Ln it) e).den W ρ M=(if v then .ok (.vl ys) M' else new (.lst ys) M')/\I n ys M':=by
 rw[Jp,Q9,G];have Jj:((n:Int)).natAbs<=100000:=by lia
 simp only[Res.Am,Jj,jn,wg];obtain⟨ys,M',g,h⟩:=G7 (fin:=(Src.con ((List.range n).map λ(k:Nat)=>D.int (k:Int))).fin) (item:=(Src.con ((List.range n).map λ(k:Nat)=>D.int (k:Int))).item) (body:=λd M=>(Res.wj (t.put d (ρ++List.replicate k none)) M).bind fun U M=>(e.den W U M).bind λx M'=>.ok (some x) M') I (n:=n) (λi xs M R h=>by
  obtain⟨Z,x,M',a,b,c⟩:=step i xs M R h;exact⟨.int i,some x,M',by simp[Src.item,R],by rw[a];simp[b],by simpa using c⟩) (λ_ _ _=>rfl) n 0 [] M1 (vo _) h0
 have hl:(Src.con ((List.range n).map λ(k:Nat)=>D.int (k:Int))).len=n:=by simp[Src.len]
 refine⟨ys,M',?_,by simpa using h⟩;rw[An,hl,cj hn,g];rfl
set_option tactic.hygienic true in
def Iz(Y:it.den W ρ M=.ok d M1)(J:fu M1 d=some ds)(C:ds.length<=100000)(I:Nat->List D->cz->Prop)(R:I 0 [] M1)(stay:∀i xs M,I i xs M->fu M d=some ds)(step:∀i y xs M,ds[i]?=some y->I i xs M->∃Z x M',t.put y (ρ++List.replicate k none)=some Z/\e.den W Z M=.ok x M'/\I (i+1) (xs++[x]) M') :
 ∃ys M',(Ex.comp v k t (.val it) e).den W ρ M=(if v then .ok (.vl ys) M' else new (.lst ys) M')/\I ds.length ys M':=by
 rw[Jp,Kc,Y];obtain⟨s,hs,u,L,S⟩:∃s,srcOf M1 d=some s/\s.len=ds.length/\(∀M i,fu M d=some ds->s.item i M=ds[i]?)/\∀M,fu M d=some ds->s.fin M=true:=by
  cases d with
  |vl zs=>cases J;exact⟨.con ds,rfl,rfl,λ_ _ _=>rfl,λ_ _=>rfl⟩
  |ref p =>
   have get:∀{M:cz},fu M (.ref p)=some ds->M[p]?=some (.lst ds):=fun{M} h=>by
    simp only[fu] at h;split at h
    .rename_i z;cases h;exact z
    .cases h
   refine⟨.live p ds.length,by simp[srcOf,get J],rfl,λM i h=>by simp[Src.item,get h],λM h=>by simp[Src.fin,get h]⟩
  |_=>cases J
 simp only[Res.Am,hs,Res.Cr];obtain⟨ys,M',g,h⟩:=G7 (fin:=s.fin) (item:=s.item) (body:=λd M=>(Res.wj (t.put d (ρ++List.replicate k none)) M).bind fun G M=>(e.den W G M).bind λx M'=>.ok (some x) M') I (n:=ds.length) (λi xs M U h=>by
  obtain⟨Z,x,M',a,b,c⟩:=step i ds[i] xs M (by simp[U]) h;exact⟨ds[i],some x,M',by rw[L M i (stay i xs M h)];simp[U],by rw[a];simp[b],by simpa using c⟩) (λxs M h=>S M (stay _ xs M h)) ds.length 0 [] M1 (vo _) R
 refine⟨ys,M',?_,by simpa using h⟩;rw[An,u,cj C,g];rfl
noncomputable abbrev Goes(I:Nat->Env->cz->Prop)(R:D->cz->Prop)(i:Nat)(r:Res (Flow×Env)):Prop:=∃fl ρ' M',r=.ok (fl,ρ') M'/\((fl=.next/\I i ρ' M')\/∃v,fl=.ret v/\R v M')
theorem ahh{fin:cz->Bool}{item:Nat->cz->Option D}{body:D->Env->cz->Res (Flow×Env)}(I:Nat->Env->cz->Prop)(R:D->cz->Prop){n:Nat}
 (step:∀i ρ M,i<n->I i ρ M->∃d,item i M=some d/\Goes I R (i+1) (body d ρ M)) (U:∀ρ M,I n ρ M->fin M=true) :
 ∀k i ρ M,i+k=n->I i ρ M->Goes I R n (Bv fin item body k i ρ M)
 |0,i,ρ,M,e,h=>by
  obtain rfl:i=n:=by lia
  exact⟨_,ρ,M,by simp[Bv,U ρ M h],.inl ⟨rfl,h⟩⟩
 |k+1,i,ρ,M,e,h=>by
  obtain⟨d,h1,fl,Z,M',h2,⟨rfl,G⟩|⟨v,rfl,G⟩⟩:=step i ρ M (by lia) h
  .have:=ahh I R step U k (i+1) Z M' (by lia) G
   simpa[Bv,h1,h2] using this
  .exact⟨.ret v,Z,M',by simp[Bv,h1,h2],.inr ⟨v,rfl,G⟩⟩
section
variable{W:G5}{ρ:Env}{M M1:cz}{t:Tg}{b:ph}
def Ke{it:Qv}{s:Src}{n:Nat}(G:it.den W ρ M=.ok s M1)(U:s.len=n)(I:Nat->Env->cz->Prop)(R:D->cz->Prop)(h0:I 0 ρ M1)(hf:∀ρ M,I n ρ M->s.fin M=true)
 (step:∀i ρ M,i<n->I i ρ M->∃d Z,s.item i M=some d/\t.put d ρ=some Z/\Goes I R (i+1) (b.den W Z M)):Goes I R n ((Cm.for_ t it b).den W ρ M):=by
 rw[Ov,G,Res.Am,U];exact ahh I R (λi ρ M hi h=>by
  obtain⟨d,Z,a,b,c⟩:=step i ρ M hi h;exact⟨d,a,by rw[b];exact c⟩) hf n 0 ρ M1 (vo n) h0
end
end MW
namespace K54
open MW
noncomputable section
def Jq:ph:=.c (.expr (.call 9 (.p (.v 1) (.v 2)))) (.c (.expr (.call 10 (.p (.v 2) (.v 3)))) (.c (.expr (.call 11 (.p (.v 2) (.v 3)))) (.q (.asg (.fld (.v 0) 2) (.v 1)) (.asg (.fld (.v 0) 1) (.v 2)) (.asg (.fld (.v 0) 0) (.blt .dict (.o (.v 3)))))))
def Jr:Fn:=⟨4,4,Jq⟩
def U7:ph:=.o (.ret (.fld (.v 0) 2))
def U8:Fn:=⟨1,1,U7⟩
def Tq:ph:=.o (.ret (.fld (.v 0) 1))
def Tt:Fn:=⟨1,1,Tq⟩
def Tu:ph:=.o (.expr (.call 21 (.o (.i 0))))
def Tv:Fn:=⟨3,3,Tu⟩
def Eo:Ex:=.Cj true 2 (.names [2,3]) (.enm (.fld (.v 0) 1)) (.cmp .eq (.ix (.v 3) (.i 0)) (.v 1)) (.v 2)
def Mg:ph:=.o (.ret (.bin .ajg (.Ia (.o (.i (-1)))) Eo))
def Mh:Fn:=⟨2,2,Mg⟩
def Ja:ph:=.p (.f (.cmp .eq (.v 2) (.i (-1))) (.o (.ret (.v 1)))) (.ret (.ix (.ix (.fld (.v 0) 1) (.v 2)) (.i 1)))
def Jb:Fn:=⟨3,3,Ja⟩
def Ii:ph:=.q (.f (.cmp .eq (.v 1) (.i (-1))) (.o (.ret (.v 2)))) (.f (.cmp .eq (.v 2) (.i (-1))) (.o (.ret (.v 1)))) (.ret (.ix (.v 0) (.tup (.p (.v 1) (.v 2)))))
def Ij:Fn:=⟨3,3,Ii⟩
def Bp:ph:=.o (.f (.cmp .eq (.ix (.v 3) (.i 1)) (.ix (.v 5) (.i 0))) (.o (.expr (.bm .append (.v 1) (.o (.tup (.p (.v 2) (.v 4))))))))
def Ik:Cm:=.for_ (.names [4,5]) (.enm (.v 0)) Bp
def Dw:ph:=.o Ik
def Il:Cm:=.for_ (.names [2,3]) (.enm (.v 0)) Dw
def K3:ph:=.q (.a 1 (.lst .z)) Il (.ret (.v 1))
def K4:Fn:=⟨1,6,K3⟩
def Ep:ph:=.p (.f (.cmp .eq (.v 1) (.i (-1))) (.o (.ret (.cmp .eq (.v 2) (.v 3))))) (.ret (.and (.chain .le .lt (.i 0) (.v 1) (.l (.v 0))) (.cmp .eq (.ix (.v 0) (.v 1)) (.tup (.p (.v 2) (.v 3))))))
def Er:Fn:=⟨4,4,Ep⟩
def Es:ph:=.o (.f (.not (.and (.chain .le .lt (.i 0) (.ix (.v 2) (.i 0)) (.v 0)) (.chain .le .lt (.i 0) (.ix (.v 2) (.i 1)) (.v 0)))) (.o (.raise 1 (.o (.cst (.str (PySem.Str.ofString "a doing is from a kind to a kind")))))))
def Js:Cm:=.for_ (.name 2) (.val (.v 1)) Es
def Mi:ph:=.q (.f (.not (.chain .le .le (.i 1) (.v 0) (.i 3))) (.o (.raise 1 (.o (.cst (.str (PySem.Str.ofString "a pattern has one to three kinds"))))))) (.f (.cmp .gt (.l (.v 1)) (.i 5)) (.o (.raise 1 (.o (.cst (.str (PySem.Str.ofString "a pattern has at most five doings"))))))) Js
def Mj:Fn:=⟨2,3,Mi⟩
def Gd:ph:=.o (.f (.not (.call 8 (.c (.v 0) (.q (.ix (.v 1) (.tup (.p (.v 3) (.v 4)))) (.ix (.ix (.v 0) (.v 3)) (.i 0)) (.ix (.ix (.v 0) (.v 4)) (.i 1)))))) (.o (.raise 1 (.o (.cst (.str (PySem.Str.ofString "two doings come to a way of their own ends")))))))
def K5:Cm:=.for_ (.names [3,4]) (.val (.v 2)) Gd
def O6:ph:=.q (.a 2 (.call 7 (.o (.v 0)))) (.f (.V0 (.v 1) (.v 2)) (.o (.raise 1 (.o (.cst (.str (PySem.Str.ofString "a table tells of just the pairs of doings that meet"))))))) K5
def O7:Fn:=⟨2,5,O6⟩
def Cz:ph:=.c (.f (.cmp .Ui (.tup (.p (.v 4) (.v 5))) (.v 1)) (.o .cont)) (.q (.a 6 (.call 6 (.q (.v 1) (.ix (.v 1) (.tup (.p (.v 3) (.v 4)))) (.v 5)))) (.a 7 (.call 6 (.q (.v 1) (.v 3) (.ix (.v 1) (.tup (.p (.v 4) (.v 5))))))) (.f (.cmp .ne (.v 6) (.v 7)) (.o (.raise 1 (.o (.cst (.str (PySem.Str.ofString "three doings come to one way, however they are taken together"))))))))
def Jt:Cm:=.for_ (.name 5) (.Ln (.l (.v 0))) Cz
def Et:ph:=.o Jt
def Ju:Cm:=.for_ (.names [3,4]) (.val (.v 2)) Et
def Ml:ph:=.p (.a 2 (.call 7 (.o (.v 0)))) Ju
def Mm:Fn:=⟨2,8,Ml⟩
def G8:ph:=.p (.f (.cmp .lt (.v 1) (.l (.v 0))) (.o (.ret (.ix (.v 0) (.v 1))))) (.ret (.i 0))
def G9:Fn:=⟨2,2,G8⟩
def Kf:ph:=.q (.a 2 (.call 12 (.p (.v 0) (.v 1)))) (.f (.cmp .ge (.v 2) (.bin .pow (.i 10) (.i 18))) (.o (.ret (.lst (.p (.bin .sub (.v 2) (.bin .pow (.i 10) (.i 18))) (.cst (.bl true))))))) (.ret (.lst (.p (.bin .mod (.v 2) (.i 2147483647)) (.cst (.bl false)))))
def Kg:Fn:=⟨2,3,Kf⟩
def Mp:ph:=.c (.f (.ix (.v 0) (.i 1)) (.q (.a 2 (.bin .mod (.ix (.v 0) (.i 0)) (.v 1))) (.asg (.sub (.v 0) (.i 0)) (.bin .fdiv (.ix (.v 0) (.i 0)) (.v 1))) (.ret (.v 2)))) (.c (.asg (.sub (.v 0) (.i 0)) (.bin .mod (.bin .add (.bin .mul (.ix (.v 0) (.i 0)) (.i 48271)) (.i 29)) (.i 2147483647))) (.q (.a 3 (.bin .mod (.bin .add (.bin .add (.bin .mul (.ix (.v 0) (.i 0)) (.ix (.v 0) (.i 0))) (.bin .mul (.i 39373) (.ix (.v 0) (.i 0)))) (.i 7)) (.i 2147483629))) (.a 3 (.bin .mod (.bin .add (.bin .mul (.v 3) (.v 3)) (.bin .mul (.i 16807) (.v 3))) (.i 2147483587))) (.ret (.bin .mod (.bin .fdiv (.v 3) (.i 8)) (.v 1)))))
def Mq:Fn:=⟨2,4,Mp⟩
def Ha:Ex:=.comp true 1 (.name 12) (.Ln (.ix (.v 7) (.v 10))) (.call 14 (.p (.v 0) (.ix (.v 7) (.v 11))))
def Dy:ph:=.q (.a 10 (.call 14 (.p (.v 0) (.v 6)))) (.a 11 (.call 14 (.p (.v 0) (.v 6)))) (.expr (.bm .append (.v 8) (.o (.tup (.q (.v 10) (.v 11) (.blt .tuple (.o Ha)))))))
def Hb:Cm:=.for_ (.name 9) (.Ln (.call 14 (.p (.v 0) (.i 4)))) Dy
def Hc:Ex:=.comp true 1 (.name 12) (.Ln (.v 6)) (.bin .add (.i 1) (.call 14 (.p (.v 0) (.i 3))))
def Kh:ph:=.c (.a 1 (.call 14 (.p (.v 0) (.i 12)))) (.c (.f (.cmp .lt (.v 1) (.i 7)) (.c (.a 2 (.Ia (.p (.tup (.q (.i 0) (.i 1) (.tup (.p (.i 0) (.i 1))))) (.tup (.q (.i 0) (.i 1) (.tup (.p (.i 1) (.i 0)))))))) (.c (.a 3 (.Ia (.q (.tup (.q (.i 0) (.i 1) (.tup (.c (.i 0) (.q (.i 0) (.i 1) (.i 1)))))) (.tup (.q (.i 0) (.i 1) (.tup (.c (.i 0) (.q (.i 1) (.i 0) (.i 1)))))) (.tup (.q (.i 1) (.i 0) (.tup (.p (.i 0) (.i 3)))))))) (.q (.a 4 (.Ia (.o (.tup (.q (.i 0) (.i 0) (.tup (.p (.i 1) (.i 0)))))))) (.a 5 (.Ia (.c (.v 2) (.c (.v 3) (.c (.v 4) (.c (.Ia (.o (.tup (.q (.i 0) (.i 0) (.tup (.q (.i 1) (.i 2) (.i 0))))))) (.q (.Ia (.o (.tup (.q (.i 0) (.i 0) (.tup (.p (.i 0) (.i 0))))))) (.Ia .z) (.Ia (.p (.tup (.q (.i 0) (.i 1) (.tup (.p (.i 0) (.i 1))))) (.tup (.q (.i 1) (.i 2) (.tup (.q (.i 0) (.i 0) (.i 1)))))))))))))) (.ret (.ix (.v 5) (.v 1))))))) (.c (.a 6 (.bin .add (.i 1) (.call 14 (.p (.v 0) (.i 3))))) (.c (.a 7 Hc) (.q (.a 8 (.lst .z)) Hb (.ret (.v 8))))))
def Dc:Fn:=⟨1,12,Kh⟩
def Ge:Ex:=.comp true 1 (.name 10) (.val (.ix (.v 7) (.i 2))) (.ix (.ix (.v 8) (.i 2)) (.v 10))
def Ce:ph:=.c (.a 4 (.tup .z)) (.q (.f (.cmp .eq (.ix (.v 7) (.i 1)) (.ix (.v 8) (.i 0))) (.o (.a 4 (.blt .tuple (.o Ge))))) (.a 9 (.tup (.q (.ix (.v 7) (.i 0)) (.ix (.v 8) (.i 1)) (.v 4)))) (.f (.and (.cmp .ne (.v 4) (.tup .z)) (.and (.cmp .Ui (.v 9) (.v 1)) (.or (.cmp .ne (.ix (.v 9) (.i 0)) (.ix (.v 9) (.i 1))) (.cmp .ne (.v 4) (.afm (.l (.v 4))))))) (.o (.expr (.bm .append (.v 1) (.o (.v 9)))))))
def Gf:Cm:=.for_ (.names [7,8]) (.val (.Ia (.p (.tup (.p (.ix (.v 1) (.v 5)) (.ix (.v 1) (.v 6)))) (.tup (.p (.ix (.v 1) (.v 6)) (.ix (.v 1) (.v 5))))))) Ce
def Gg:ph:=.o Gf
def Gh:Cm:=.for_ (.name 6) (.Ln (.l (.v 1))) Gg
def K6:ph:=.p Gh (.a 5 (.bin .add (.v 5) (.i 1)))
def Gi:Cm:=.whl (.and (.cmp .lt (.v 5) (.l (.v 1))) (.cmp .lt (.l (.v 1)) (.i 6))) K6
def zy:ph:=.o (.f (.and (.or (.cmp .ne (.v 2) (.v 3)) (.cmp .ne (.v 4) (.afm (.l (.v 4))))) (.cmp .Ui (.tup (.q (.v 2) (.v 3) (.v 4))) (.v 1))) (.o (.expr (.bm .append (.v 1) (.o (.tup (.q (.v 2) (.v 3) (.v 4))))))))
def Gj:Cm:=.for_ (.names [2,3,4]) (.val (.v 0)) zy
def O8:ph:=.c (.a 1 (.lst .z)) (.c Gj (.q (.a 5 (.i 0)) Gi (.ret (.v 1))))
def O9:Fn:=⟨1,10,O8⟩
def Eu:Ex:=.comp true 3 (.names [8,9,10]) (.val (.v 2)) (.tup (.p (.v 8) (.v 9)))
def Ew:Ex:=.comp true 1 (.name 8) (.val (.ix (.ix (.v 2) (.v 5)) (.i 2))) (.ix (.ix (.ix (.v 2) (.v 6)) (.i 2)) (.v 8))
def Bd:ph:=.o (.f (.cmp .eq (.ix (.ix (.v 2) (.v 5)) (.i 1)) (.ix (.ix (.v 2) (.v 6)) (.i 0))) (.p (.a 7 (.tup (.q (.ix (.ix (.v 2) (.v 5)) (.i 0)) (.ix (.ix (.v 2) (.v 6)) (.i 1)) (.blt .tuple (.o Ew))))) (.asg (.sub (.v 4) (.tup (.p (.v 5) (.v 6)))) (.ite (.cmp .inn (.v 7) (.v 2)) (.bm .index (.v 2) (.o (.v 7))) (.neg (.i 1))))))
def Jv:Cm:=.for_ (.name 6) (.Ln (.l (.v 2))) Bd
def Ey:ph:=.o Jv
def Ez:Cm:=.for_ (.name 5) (.Ln (.l (.v 2))) Ey
def Fb:Ex:=.comp true 3 (.names [8,9,10]) (.val (.v 2)) (.blt .max (.p (.v 8) (.v 9)))
def Jw:ph:=.p (.a 1 (.cut (.v 1) .none (.some (.neg (.i 1))))) (.a 2 (.call 16 (.o (.v 1))))
def Fe:Cm:=.whl (.cmp .gt (.l (.v 2)) (.i 5)) Jw
def Mr:ph:=.c (.a 1 (.call 15 (.o (.v 0)))) (.c (.a 2 (.call 16 (.o (.v 1)))) (.c Fe (.c (.a 3 (.bin .add (.i 1) (.blt .max (.o (.bin .add Fb (.Ia (.o (.i 0)))))))) (.c (.f (.cmp .eq (.v 2) (.Ia .z)) (.o (.a 3 (.bin .add (.i 1) (.call 14 (.p (.v 0) (.i 3))))))) (.q (.a 4 .afj) Ez (.ret (.tup (.q (.v 3) (.blt .tuple (.o Eu)) (.v 4)))))))))
def Ms:Fn:=⟨1,8,Mr⟩
def Jc:Ex:=.Cj true 1 (.name 2) (.Ln (.l (.ix (.v 0) (.i 1)))) (.cmp .eq (.ix (.ix (.ix (.v 0) (.i 1)) (.v 2)) (.i 0)) (.v 1)) (.v 2)
def Ul:ph:=.o (.ret (.bin .add (.Ia (.o (.neg (.i 1)))) Jc))
def Um:Fn:=⟨2,2,Ul⟩
def Qg:ph:=.o (.ret (.ite (.cmp .lt (.v 2) (.i 0)) (.v 1) (.ix (.ix (.ix (.v 0) (.i 1)) (.v 2)) (.i 1))))
def Qh:Fn:=⟨3,3,Qg⟩
def Fq:ph:=.p (.f (.or (.cmp .lt (.v 1) (.i 0)) (.cmp .lt (.v 2) (.i 0))) (.o (.ret (.bin .add (.bin .add (.v 1) (.v 2)) (.i 1))))) (.ret (.ix (.ix (.v 0) (.i 2)) (.tup (.p (.v 1) (.v 2)))))
def Ft:Fn:=⟨3,3,Fq⟩
def ajn:ph:=.o .pass
def ajo:Cm:=.whl (.cst (.bl true)) ajn
def as3:ph:=.o ajo
def as4:Fn:=⟨1,1,as3⟩
def amv:ph:=.p (.f (.cmp .eq (.v 2) (.i (-1))) (.o (.ret (.v 1)))) (.ret (.ix (.ix (.ix (.v 0) (.i 1)) (.v 2)) (.v 1)))
def amw:Fn:=⟨3,3,amv⟩
def Mt:Ex:=.comp true 1 (.name 4) (.val (.meth (.v 0) 3 (.o (.v 3)))) (.tup (.p (.meth (.v 0) 4 (.p (.v 3) (.v 4))) (.call 22 (.q (.v 1) (.ix (.v 2) (.i 1)) (.v 4)))))
def Yn:ph:=.p (.a 3 (.ix (.v 2) (.i 0))) (.ret Mt)
def Yo:Fn:=⟨3,4,Yn⟩
def Mu:Ex:=.Cj true 1 (.name 5) (.Ln (.v 4)) (.cmp .inn (.tup (.p (.v 3) (.v 5))) (.v 1)) (.v 5)
def Mv:ph:=.o (.expr (.bm .append (.v 2) (.o (.blt .tuple (.o Mu)))))
def Uo:Cm:=.for_ (.names [3,4]) (.enm (.ix (.v 0) (.i 0))) Mv
def Yp:ph:=.q (.a 2 (.lst .z)) Uo (.ret (.blt .tuple (.o (.v 2))))
def Yq:Fn:=⟨2,5,Yp⟩
def Hd:ph:=.o (.asg (.sub (.v 3) (.v 5)) (.cst (.bl true)))
def Mw:Cm:=.for_ (.name 5) (.val (.call 23 (.q (.v 0) (.v 1) (.v 4)))) Hd
def Hf:ph:=.o Mw
def Mx:Cm:=.for_ (.name 4) (.val (.v 2)) Hf
def Rb:ph:=.q (.a 3 .afj) Mx (.ret (.call 24 (.p (.v 1) (.v 3))))
def Rc:Fn:=⟨3,6,Rb⟩
def aci:Ex:=.comp true 2 (.names [2,3]) (.zip (.p (.v 0) (.v 1))) (.blt .tuple (.o (.J9 true (.v 2) (.v 3))))
def amx:ph:=.o (.ret (.blt .tuple (.o aci)))
def f_both:Fn:=⟨2,2,amx⟩
def V7:Ex:=.comp true 2 (.names [2,3]) (.zip (.p (.v 0) (.v 1))) (.blt .tuple (.o (.J9 false (.v 2) (.v 3))))
def acj:ph:=.o (.ret (.blt .tuple (.o V7)))
def ack:Fn:=⟨2,2,acj⟩
def K7:Ex:=.comp true 1 (.name 13) (.val (.ix (.v 1) (.v 6))) (.ite (.cmp .eq (.v 13) (.v 12)) (.v 11) (.v 13))
def Cg:ph:=.c (.a 9 (.ix (.ix (.v 1) (.v 5)) (.v 8))) (.q (.a 10 (.ix (.ix (.v 1) (.v 6)) (.ix (.ix (.v 2) (.v 4)) (.v 8)))) (.f (.cmp .ne (.bm .get (.v 7) (.p (.v 9) (.v 10))) (.v 10)) (.c (.a 11 (.blt .min (.p (.ix (.v 7) (.v 9)) (.v 10)))) (.c (.a 12 (.blt .max (.p (.ix (.v 7) (.v 9)) (.v 10)))) (.c (.asg (.sub (.v 1) (.v 6)) K7) (.q (.a 3 (.cst (.bl true))) (.a 7 .afk) .brk))))) (.asg (.sub (.v 7) (.v 9)) (.v 10)))
def K8:Cm:=.for_ (.name 8) (.Ln (.l (.ix (.v 1) (.v 5)))) Cg
def Dk:ph:=.q (.asg (.tg (.names [5,6])) (.ix (.ix (.v 0) (.i 1)) (.v 4))) (.a 7 .afk) K8
def K9:Cm:=.for_ (.name 4) (.Ln (.l (.ix (.v 0) (.i 1)))) Dk
def Gk:ph:=.p (.a 3 (.cst (.bl false))) K9
def Gm:Cm:=.whl (.v 3) Gk
def Pa:ph:=.q (.a 3 (.cst (.bl true))) Gm (.ret (.v 1))
def Pb:Fn:=⟨3,13,Pa⟩
def Hg:Ex:=.comp true 1 (.name 19) (.val (.v 16)) (.l (.v 19))
def Hh:Ex:=.comp true 1 (.name 19) (.val (.v 18)) (.bm .index (.ix (.v 16) (.v 12)) (.o (.v 19)))
def Hi:Ex:=.comp true 1 (.name 19) (.val (.ix (.v 16) (.v 11))) (.ix (.ix (.v 13) (.v 12)) (.ix (.ix (.v 9) (.v 10)) (.v 19)))
def Dz:ph:=.q (.asg (.tg (.names [11,12])) (.ix (.ix (.v 1) (.i 1)) (.v 10))) (.a 18 Hi) (.expr (.bm .append (.v 17) (.o (.blt .tuple (.o Hh)))))
def My:Cm:=.for_ (.name 10) (.Ln (.l (.ix (.v 1) (.i 1)))) Dz
def Hj:Ex:=.comp true 1 (.name 19) (.val (.v 13)) (.blt .Ca (.o (.v 19)))
def Mz:Ex:=.comp true 1 (.name 19) (.val (.ix (.v 13) (.v 5))) (.ite (.cmp .eq (.v 19) (.v 15)) (.v 14) (.v 19))
def Cv:ph:=.c (.a 5 (.call 14 (.p (.v 0) (.ix (.v 1) (.i 0))))) (.q (.a 11 (.call 14 (.p (.v 0) (.i 7)))) (.a 12 (.call 14 (.p (.v 0) (.i 7)))) (.f (.cmp .lt (.blt .max (.p (.v 11) (.v 12))) (.l (.ix (.v 13) (.v 5)))) (.c (.a 14 (.blt .min (.p (.ix (.ix (.v 13) (.v 5)) (.v 11)) (.ix (.ix (.v 13) (.v 5)) (.v 12))))) (.q (.a 15 (.blt .max (.p (.ix (.ix (.v 13) (.v 5)) (.v 11)) (.ix (.ix (.v 13) (.v 5)) (.v 12))))) (.asg (.sub (.v 13) (.v 5)) Mz) (.a 13 (.call 28 (.q (.v 1) (.v 13) (.v 9))))))))
def M9:Cm:=.for_ (.name 10) (.Ln (.call 14 (.p (.v 0) (.i 4)))) Cv
def Hk:Ex:=.comp false 1 (.name 19) (.val (.v 3)) (.afn (.l (.v 19)))
def Hl:Ex:=.comp true 3 (.names [19,20,21]) (.val (.ix (.v 3) (.v 11))) (.bm .index (.ix (.v 3) (.v 12)) (.o (.tup (.q (.v 19) (.v 20) (.call 20 (.q (.v 1) (.v 21) (.v 10)))))))
def Hm:ph:=.p (.asg (.tg (.names [11,12])) (.ix (.ix (.v 1) (.i 1)) (.v 10))) (.expr (.bm .append (.v 9) (.o Hl)))
def Nb:Cm:=.for_ (.name 10) (.Ln (.l (.ix (.v 1) (.i 1)))) Hm
def Hn:Ex:=.comp true 1 (.name 19) (.val (.v 3)) (.l (.v 19))
def Ea:ph:=.o (.expr (.bm .append (.ix (.v 3) (.v 7)) (.o (.tup (.q (.v 4) (.v 5) (.v 8))))))
def Nf:Cm:=.for_ (.names [7,8]) (.val (.v 6)) Ea
def Ho:Ex:=.comp true 1 (.name 19) (.val (.call 18 (.p (.v 1) (.v 5)))) (.tup (.p (.call 19 (.q (.v 1) (.v 5) (.v 19))) (.v 19)))
def Cw:ph:=.q (.a 5 (.call 14 (.p (.v 0) (.ix (.v 1) (.i 0))))) (.a 6 Ho) (.f (.cmp .lt (.bin .add (.blt .max (.o Hn)) (.l (.v 6))) (.i 8)) (.o Nf))
def Ng:Cm:=.for_ (.name 4) (.Ln (.call 14 (.p (.v 0) (.bin .add (.v 2) (.i 1))))) Cw
def La:Ex:=.comp true 1 (.name 19) (.Ln (.ix (.v 1) (.i 0))) (.lst .z)
def Rf:ph:=.c (.a 3 La) (.c Ng (.c (.a 9 (.lst .z)) (.c Nb (.c (.a 13 Hk) (.c M9 (.c (.a 16 Hj) (.q (.a 17 (.lst .z)) My (.ret (.tup (.p (.blt .tuple (.o Hg)) (.blt .tuple (.o (.v 17)))))))))))))
def Rg:Fn:=⟨3,19,Rf⟩
def Qi:ph:=.p (.f (.cmp .lt (.v 2) (.i 0)) (.o (.ret (.v 1)))) (.ret (.ix (.ix (.ix (.v 0) (.i 1)) (.v 2)) (.v 1)))
def Qj:Fn:=⟨3,3,Qi⟩
def Jd:Ex:=.comp true 2 (.names [2,3]) (.zip (.p (.v 0) (.v 1))) (.call 31 (.p (.v 2) (.v 3)))
def Nh:ph:=.p (.f (.blt .isSeq (.o (.v 1))) (.q (.f (.or (.cmp .ne (.blt .isTuple (.o (.v 0))) (.blt .isTuple (.o (.v 1)))) (.cmp .ne (.blt .isList (.o (.v 0))) (.blt .isList (.o (.v 1))))) (.o (.ret (.cst (.bl false))))) (.f (.cmp .ne (.l (.v 0)) (.l (.v 1))) (.o (.ret (.cst (.bl false))))) (.ret (.blt .all (.o Jd))))) (.ret (.and (.cmp .eq (.v 0) (.v 1)) (.cmp .eq (.blt .isBool (.o (.v 0))) (.blt .isBool (.o (.v 1))))))
def Ni:Fn:=⟨2,2,Nh⟩
def Nj:Ex:=.comp true 1 (.name 8) (.val (.v 3)) (.blt .tuple (.o (.blt .Ca (.o (.v 8)))))
def Hq:ph:=.o (.expr (.bm .append (.ix (.v 3) (.call 19 (.q (.v 1) (.v 5) (.v 7)))) (.o (.call 30 (.q (.v 2) (.v 6) (.v 7))))))
def Nk:Cm:=.for_ (.name 7) (.val (.call 18 (.p (.v 1) (.v 5)))) Hq
def Eb:ph:=.q (.a 5 (.call 14 (.p (.v 0) (.ix (.v 1) (.i 0))))) (.a 6 (.call 14 (.p (.v 0) (.i 8)))) (.f (.cmp .lt (.v 6) (.ix (.ix (.v 2) (.i 0)) (.v 5))) (.o Nk))
def Np:Cm:=.for_ (.name 4) (.Ln (.call 14 (.p (.v 0) (.i 4)))) Eb
def Nq:Ex:=.comp true 1 (.name 8) (.Ln (.ix (.v 1) (.i 0))) (.lst .z)
def Rh:ph:=.q (.a 3 Nq) Np (.ret (.blt .tuple (.o Nj)))
def Ri:Fn:=⟨3,8,Rh⟩
def Ec:ph:=.p (.a 5 (.call 14 (.p (.v 0) (.ix (.v 1) (.i 0))))) (.f (.cmp .gt (.ix (.ix (.v 2) (.i 0)) (.v 5)) (.i 0)) (.p (.expr (.bm .append (.v 3) (.o (.tup (.p (.v 5) (.call 14 (.p (.v 0) (.ix (.ix (.v 2) (.i 0)) (.v 5))))))))) (.f (.cmp .eq (.call 14 (.p (.v 0) (.i 4))) (.i 0)) (.o (.expr (.bm .append (.v 3) (.o (.ix (.v 3) (.i 0)))))))))
def Rj:Cm:=.for_ (.name 4) (.Ln (.call 14 (.p (.v 0) (.i 6)))) Ec
def V8:ph:=.q (.a 3 (.lst .z)) Rj (.ret (.v 3))
def V9:Fn:=⟨3,6,V8⟩
def Nr:Ex:=.comp true 1 (.name 8) (.val (.v 3)) (.blt .tuple (.o (.blt .Ca (.o (.v 8)))))
def Hr:ph:=.p (.a 7 (.call 19 (.q (.v 0) (.v 4) (.v 6)))) (.expr (.bm .append (.ix (.v 3) (.v 7)) (.o (.call 30 (.q (.v 1) (.v 5) (.v 6))))))
def Nt:Cm:=.for_ (.name 6) (.val (.call 18 (.p (.v 0) (.v 4)))) Hr
def Hs:ph:=.o Nt
def Nu:Cm:=.for_ (.names [4,5]) (.val (.v 2)) Hs
def Nv:Ex:=.comp true 1 (.name 8) (.Ln (.ix (.v 0) (.i 0))) (.lst .z)
def Rk:ph:=.q (.a 3 Nv) Nu (.ret (.blt .tuple (.o Nr)))
def Rm:Fn:=⟨3,8,Rk⟩
def Ht:Ex:=.Cj true 1 (.name 14) (.val (.ix (.v 7) (.v 11))) (.cmp .inn (.v 14) (.ix (.v 8) (.v 11))) (.v 14)
def Ed:ph:=.c (.a 12 Ht) (.q (.expr (.bm .append (.v 9) (.o (.blt .tuple (.o (.v 12)))))) (.a 12 (.blt .Ca (.o (.bin .add (.ix (.v 7) (.v 11)) (.ix (.v 8) (.v 11)))))) (.expr (.bm .append (.v 10) (.o (.blt .tuple (.o (.v 12)))))))
def Nx:Cm:=.for_ (.name 11) (.Ln (.ix (.v 1) (.i 0))) Ed
def Rn:ph:=.c (.a 4 (.call 33 (.q (.v 0) (.v 1) (.v 3)))) (.c (.a 5 (.blt .list (.o (.v 4)))) (.c (.a 6 (.call 25 (.q (.v 2) (.v 3) (.v 5)))) (.c (.f (.or (.not (.call 31 (.p (.v 6) (.call 34 (.q (.v 1) (.v 3) (.v 4)))))) (.cmp .ne (.v 5) (.v 4))) (.o (.ret (.cst (.bl false))))) (.c (.a 7 (.call 32 (.q (.v 0) (.v 1) (.v 3)))) (.c (.a 8 (.call 32 (.q (.v 0) (.v 1) (.v 3)))) (.c (.a 9 (.lst .z)) (.c (.a 10 (.lst .z)) (.c Nx (.q (.a 6 (.Ia (.c (.call 26 (.p (.v 7) (.v 8))) (.q (.call 26 (.p (.v 8) (.v 7))) (.call 27 (.p (.v 7) (.v 8))) (.call 27 (.p (.v 8) (.v 7))))))) (.a 13 (.Ia (.c (.blt .tuple (.o (.v 9))) (.q (.blt .tuple (.o (.v 9))) (.blt .tuple (.o (.v 10))) (.blt .tuple (.o (.v 10))))))) (.ret (.call 31 (.p (.v 6) (.v 13)))))))))))))
def Ro:Fn:=⟨4,14,Rn⟩
def aag:ph:=.o (.f (.not (.call 35 (.c (.v 1) (.q (.v 2) (.v 3) (.v 6))))) (.o (.ret (.cst (.bl false)))))
def ahi:Cm:=.for_ (.name 6) (.val (.v 4)) aag
def aah:ph:=.o ahi
def ahj:Cm:=.for_ (.name 5) (.Ln (.i 4)) aah
def axf:ph:=.c (.a 1 (.call 13 (.p (.v 0) (.i 0)))) (.c (.a 2 (.call 17 (.o (.v 1)))) (.c (.a 3 (.make 2 (.q (.ix (.v 2) (.i 0)) (.ix (.v 2) (.i 1)) (.blt .dict (.o (.ix (.v 2) (.i 2))))))) (.q (.a 4 (.Ia (.p (.call 29 (.q (.v 1) (.v 2) (.i 3))) (.call 29 (.q (.v 1) (.v 2) (.i 3)))))) ahj (.ret (.cst (.bl true))))))
def amy:Fn:=⟨1,7,axf⟩
def prog:Prog:=⟨[Jr,U8,Tt,Tv,Mh,Jb,Ij,K4,Er,Mj,O7,Mm,G9,Kg,Mq,Dc,O9,Ms,Um,Qh,Ft,as4,amw,Yo,Yq,Rc,f_both,ack,Pb,Rg,Qj,Ni,Ri,V9,Rm,Ro,amy],[⟨0,[]⟩,⟨0,[]⟩,⟨0,[(0,1),(1,2),(2,3),(3,4),(4,5)]⟩]⟩
end
noncomputable abbrev PW(m:Nat):G5:=⟨prog.call m,prog.cls⟩
set_option genInjectivity true in
structure F where
 a:Nat
 b:Nat
 r:List Nat
 deriving DecidableEq
noncomputable def nD(x:Nat):D:=.int (x:Int)
noncomputable def Ei(r:Yf):D:=.tup (r.map nD)
noncomputable def F.toD(f:F):D:=.tup [.int f.a,.int f.b,Ei f.r]
def ahk(x y:Nat):decide ((x:Int)=(y:Int))=decide (x=y):=by
 by_cases h:x=y
 .simp[h]
 .have:¬((x:Int)=(y:Int)):=by lia
  simp[h,this]
def Kl(M:cz)(n x y:Nat):Ka M (n+1) (.int x) (.int y)=some (decide (x=y)):=by rw[ahc,ahk]
theorem aai(M:cz)(n:Nat):∀r s:List Nat,O5 (Ka M (n+1)) (r.map nD) (s.map nD)=some (decide (r=s))
 |[],[]=>by simp[O5]|[],_::_=>by simp[O5]|_::_,[]=>by simp[O5]
 |x::r,y::s=>by
  rw[ig,ig,Du (a:=nD x) (b:=nD y) (Kl M n x y) (aai M n r s)]
  by_cases h:x=y<;>simp[h]
def aft(M:cz)(r s:Yf):za M (Ei r) (Ei s)=some (decide (r=s)):=aai M 4 r s
def bdd(M:cz)(f g:F):za M f.toD g.toD=some (decide (f=g)):=by
 refine hG λ_ _k=>?_
 obtain⟨a,b,r⟩:=f;obtain⟨c,d,s⟩:=g;have e:Ka M 5 (Ei r) (Ei s)=some (decide (r=s)):=aai M 3 r s;apply _k;show O5 (Ka M 5) [.int a,.int b,Ei r] [.int c,.int d,Ei s]=_;rw[Du (Kl M 4 a c) (Du (Kl M 4 b d) (Du e (show O5 (Ka M 5) [] []=some true from rfl)))];simp
theorem amz(M:cz)(g:F):∀fs:List F,Pz M g.toD (fs.map F.toD)=some (fs.map λf=>decide (f=g))
 |[]=>rfl|f::fs=>by simp only[ig,Pz,bdd,amz M g fs]
def am0(M:cz)(g:F)(fs:List F):memD M g.toD (fs.map F.toD)=some (decide (g∈fs)):=by
 rw[memD,amz,wy]
 congr 1
 induction fs with
 |nil=>simp
 |cons f fs Z =>
  by_cases h:f=g
  .simp[h]
  .simp only[ig,List.any_cons,Z,bz,id]
   simp[h,j5 h]
noncomputable def pos(g:F):List F->Nat
 |[]=>0|f::fs=>if f=g then 0 else pos g fs+1
def a6e(M:cz)(g:F)(fs:List F):Xx M g.toD (fs.map F.toD)=if g∈fs then some (pos g fs) else none:=by
 rw[Xx,amz,qw]
 induction fs with
 |nil=>simp
 |cons f fs G =>
  rw[ig,List.findIdx?_cons,G,pos]
  by_cases h:f=g
  .simp[h]
  .by_cases Z:g∈fs<;>simp[h,j5 h,Z]
theorem aaj(g:F):∀{fs:List F},g∈fs->fs[pos g fs]?=some g
 |f::fs,h=>by
  by_cases e:f=g
  .simp[pos,e]
  .have:g∈fs:=by
    rcases bz.mp h with q|q
    .exact absurd q.symm e
    .exact q
   simp[pos,e,aaj g this]
def afu(G:fs.Nodup)(h:fs[i]?=some f):pos f fs=i:=by have m:f∈fs:=az h;have g:=aaj f m;obtain⟨l1,Z⟩:=ak.mp h;obtain⟨R,U⟩:=ak.mp g;exact(Ba G).mp (U.trans Z.symm)
noncomputable def F.comp(f g:F):F:=⟨f.a,g.b,f.r.map λx=>g.r.getD x 0⟩
noncomputable def F.Qk(f:F):Prop:=f.a=f.b/\f.r=List.range f.r.length
instance (f:F):Decidable f.Qk:=inferInstanceAs (Decidable (_/\_))
structure Xo(sz:Nat->Nat)(f:F):Prop where
 a:f.a<3
 b:f.b<3
 len:f.r.length=sz f.a
 ran:∀x∈f.r,x<sz f.b
noncomputable def Sz(sz:Nat->Nat):Prop:=∀k,1<=sz k/\sz k<=4
noncomputable def Good(sz:Nat->Nat)(fs:List F):Prop:=∀f∈fs,Xo sz f
def getD_mem{r:Yf}(h:x<r.length):r.getD x 0∈r:=by rw[du,dj h];exact p7 h
theorem Xo.comp(Z:Xo sz f)(G:Xo sz g)(h:f.b=g.a):Xo sz (f.comp g):=by
 refine⟨Z.a,G.b,by simp[F.comp,Z.len],λx U=>?_⟩;refine hG λ_ _k=>?_
 obtain⟨y,R,rfl⟩:=bw.mp U;apply _k;have:y<g.r.length:=by rw[G.len,<- h];exact Z.ran y R
 exact G.ran _ (getD_mem this)
def acn(r:Yf):(List.range r.length).map (λx=>r.getD x 0)=r:=by
 apply ye;intro i
 by_cases h:i<r.length
 .simp[h,ux h]
 .simp[Nat.le_of_not_lt h,kj]
def afv(Z:Xo sz f)(U:Xo sz g)(R:f.b=g.a):(f.comp g).comp h=f.comp (g.comp h):=by
 simp only[F.comp,Bl,F.mk.injEq,true_and];apply wu;intro x G;have:x<g.r.length:=by rw[U.len,<- R];exact Z.ran x G
 simp[this]
noncomputable def idF(sz:Nat->Nat)(k:Nat):F:=⟨k,k,List.range (sz k)⟩
def aak(Z:Xo sz f)(h:f.Qk):f=idF sz f.a:=by
 refine hG λ_ _k=>?_
 obtain⟨a,b,r⟩:=f;obtain⟨G,U⟩:=h;have:=Z.len;apply _k;simp only[idF] at *;subst G;rw[<- this,<- U]
def id_comp(Z:Xo sz f):(idF sz f.a).comp f=f:=by obtain⟨a,b,r⟩:=f;have:=Z.len;simp only[idF,F.comp] at *;rw[<- this,acn]
def comp_id(Z:Xo sz f):f.comp (idF sz f.b)=f:=by
 obtain⟨a,b,r⟩:=f;have:=Z.ran;simp only[idF,F.comp,F.mk.injEq,true_and] at *
 conv=>rhs;rw[<- List.map_id r]
 apply wu;intro x G;simp[ux (this x G)]
noncomputable def Ny(fs:List F):Prop:=∀f∈fs,∀g∈fs,f.b=g.a->f.comp g∈fs\/(f.comp g).Qk
def call_of(U:1<=m)(Z:prog.fns[f]?=some G):prog.call m f ds M=G.run (PW (m-1)) ds M:=by obtain⟨n,rfl⟩:∃n,m=n+1:=⟨m-1,by lia⟩;simp[Prog.call,Z]
noncomputable def ay3(n:Int)(f:Bool):Prop:=0<=n/\(f=false->n<2147483647)
noncomputable def Uq(t:Nat)(f:Bool)(M:cz):Prop:=∃n,M[t]?=some (.lst [.int n,.bl f])/\ay3 n f
structure St(t:Nat)(f:Bool)(M M':cz):Prop where
 len:M.length<=M'.length
 has:Uq t f M'
 keep:∀(a:Nat)(o:MO),a≠t->M[a]?=some o->M'[a]?=some o
def St.trans(a:St t f M M1)(b:St t f M1 M2):St t f M M2 :=
 ⟨ie a.len b.len,b.has,λx o n h=>b.keep x o n (a.keep x o n h)⟩
def St.of(h:Uq t f M)(k:Bt M M'):St t f M M' :=
 ⟨k.len,let ⟨n,a,b⟩:=h;⟨n,k _ _ a,b⟩,λa o _ e=>k a o e⟩
def Aq(hm:1<=m)(hs:Uq t f M)(hp:0<many)(hq:many<1073741824) :
 ∃(v:Nat)(M':cz),prog.call m 14 [.ref t,.int many] M=.ok (.int v) M'/\(v:Int)<many/\St t f M M'/\M'.length=M.length:=by
 obtain⟨n,h,G⟩:=hs;rw[call_of hm rfl];have hl:=qm h;have g0:=Cy hl (i:=0) (by decide) rfl;have g1:=Cy hl (i:=1) (by decide) rfl;have fin:∀n':Int,ay3 n' f->St t f M (M.set t (.lst [.int n',.bl f])):=λn' o=>⟨by simp,⟨n',ur h,o⟩,λa u e q=>by rw[qp (j5 e)];exact q⟩
 have U:many≠0:=by lia
 have c1:∀y:Int,∃v:Nat,y%many=(v:Int)/\(v:Int)<many:=λy=>by have a:=Be y U;have b:=Ad y hp;exact⟨(y%many).toNat,by lia,by lia⟩
 cases f with
 |true =>
  obtain⟨v,e,l⟩:=c1 n;refine⟨v,_,?_,l,fin (n / many) ⟨Int.ediv_nonneg G.1 (by lia),by simp⟩,by simp⟩;simp[Fn.run,Mq,Mp,g0,g1,hp,Yk _ _ hp hq,Z9 h,e]
 |false =>
  refine hG λ_ _k=>?_
  have h1:=G.1;have h2:=G.2 rfl;obtain⟨n',R⟩:∃n',(n*48271+29)%2147483647=n':=⟨_,rfl⟩;have e1:0<=n':=R▸Be _ (by decide)
  have e2:n'<2147483647:=R▸Ad _ (by decide)
  obtain⟨x,Z⟩:∃x,(n'*n'+39373*n'+7)%2147483629=x:=⟨_,rfl⟩;have x1:0<=x:=Z▸Be _ (by decide)
  have x2:x<2147483629:=Z▸Ad _ (by decide)
  obtain⟨y,ey⟩:∃y,(x*x+16807*x)%2147483587=y:=⟨_,rfl⟩;obtain⟨v,e,l⟩:=c1 (y / 8);apply _k;refine⟨v,_,?_,l,fin n' ⟨e1,λ_=>e2⟩,by simp⟩;have k:=ur (o:=.lst [.int n',.bl false]) h;have k0:=Cy (qm k) (i:=0) (by decide) rfl;simp[Fn.run,Mq,Mp,g0,g1,hp,Z9 h,Lz n 48271 (.inr (by decide)),R,k0,Lz n' n' (.inl (by lia)),Lz 39373 n' (.inl (by decide)),Z,Lz x x (.inl (by lia)),Lz 16807 x (.inl (by decide)),ey,Yk _ 8 (by decide) (by decide),e]
def ahl{k:Nat}{ns:U1}(G:1<=m):prog.call m 12 [.fz (ns.map D.int),.int k] M=.ok (.int (ns.getD k 0)) M:=by
 rw[call_of G rfl]
 by_cases Z:k<ns.length
 .simp[Fn.run,G9,G8,amo,Z,a6c (ds:=ns.map D.int) (i:=k) (x:=.int (ns.getD k 0)) q_ (by simp[Z])]
 .simp[Fn.run,G9,G8,amo,Z]
def am1{k:Nat}{ns:U1}(G:2<=m):∃n f,prog.call m 13 [.fz (ns.map D.int),.int k] M=.ok (.ref M.length) (M++[.lst [.int n,.bl f]])/\ay3 n f:=by
 rw[call_of (a_ (by decide) G) rfl]
 by_cases h:(10:Int) ^ 18<=ns.getD k 0
 .refine⟨ns.getD k 0-10 ^ 18,true,?_,by lia,by simp⟩
  have Z:(1000000000000000000:Int)<=ns[k]?.getD 0:=by simpa using h
  simp[Fn.run,Kg,Kf,ahl (show 1<=m-1 by exact r_ G),Z,MW.new]
 .refine⟨ns.getD k 0%2147483647,false,?_,Be _ (by decide),λ_=>Ad _ (by decide)⟩
  have Z:¬(1000000000000000000:Int)<=ns[k]?.getD 0:=by simpa using h
  simp[Fn.run,Kg,Kf,ahl (show 1<=m-1 by exact r_ G),Z,MW.new]
def ahm(n:Nat)(i:Nat)(M:cz)(h:i<n):(Src.con ((List.range n).map λ(k:Nat)=>D.int (k:Int))).item i M=some (.int i):=by simp[Src.item,ux h]
def ahn(n:Nat):(Src.con ((List.range n).map λ(k:Nat)=>D.int (k:Int))).len=n:=by simp[Src.len]
def am2{K:Nat}(hm:1<=m)(hs:Uq t f M)(hK:K<=3) :
 ∃(Z:Yf)(M':cz),Hc.den (PW m) [some (.ref t),a1,a2,a3,a4,a5,some (.int K),a7,a8,a9,a10,a11] M=.ok (.vl (Z.map nD)) M'/\Z.length=K/\(∀x∈Z,1<=x/\x<=3)/\St t f M M'/\M'.length=M.length:=by
 unfold Hc;rw[Lx];have G:K<=100000:=a_ hK (by decide)
 simp[G];refine hG λ_ _k=>?_
 have h:=G7 (fin:=λ_=>true) (item:=(Src.con ((List.range K).map λ(k:Nat)=>D.int (k:Int))).item)
  (body:=λd M=>((prog.call m 14 [D.ref t,D.int 3] M).bind λy M2=>Fy .add (.int 1) y M2).bind λx M'=>Res.ok (some x) M')
  (λi xs M'=>∃Z:List Nat,xs=Z.map nD/\Z.length=i/\(∀x∈Z,1<=x/\x<=3)/\St t f M M'/\M'.length=M.length) (n:=K)
  (λi xs M' hi hI=>by
   refine hG λ_ _k=>?_
   obtain⟨Z,rfl,rfl,U,R,h3⟩:=hI;obtain⟨v,M2,e,l,s2,l2⟩:=Aq hm R.has (many:=3) (by decide) (by decide);apply _k;refine⟨.int Z.length,some (.int (1+v)),M2,ahm K _ M' hi,by simp[e],Z++[1+v],by simp[nD],by simp,λx hx=>?_,R.trans s2,l2.trans h3⟩;rcases dh.mp hx with q|q
   .exact U x q
   .have:x=1+v:=by simpa using q
    lia) (λ_ _ _=>rfl) K 0 [] M (vo _) ⟨[],rfl,rfl,by simp,St.of hs (Bt.refl M),rfl⟩
 obtain⟨ys,M',e,Z,U,R,h3,h4,h5⟩:=h;apply _k;refine⟨Z,M',?_,R,h3,h4,h5⟩;rw[An,ahn,cj G,show(Src.con ((List.range _).map λ(k:Nat)=>D.int (k:Int))).fin=λ_=>true from rfl,e];simp at U;simp[U]
def ay4{Z:Yf}(hm:1<=m)(hs:Uq t f M)(G:∀x∈Z,1<=x/\x<=3)(hi:i<Z.length)(hj:j<Z.length) :
 ∃(r:Yf)(M':cz),Ha.den (PW m) [some (.ref t),a1,a2,a3,a4,a5,a6,some (.vl (Z.map nD)),a8,a9,some (.int i),some (.int j)] M=.ok (.vl (r.map nD)) M' /\
  r.length=Z.getD i 0/\(∀x∈r,x<Z.getD j 0)/\St t f M M'/\M'.length=M.length:=by
 unfold Ha;rw[Lx];have gi:=Cy (M:=M) (d:=.vl (Z.map nD)) (i:=i) (x:=.int ((Z.getD i 0:Nat):Int)) rfl q_ (by simp[hi,nD]);have gj:∀M',Aw (.vl (Z.map nD)) (.int j) M'=some (.int ((Z.getD j 0:Nat):Int)):=λM'=>Cy rfl q_ (by simp[hj,nD])
 have bi:=G _ (getD_mem hi);have bj:=G _ (getD_mem hj);generalize ea:Z.getD i 0=a at *;generalize eb:Z.getD j 0=b at *;have ha:a<=100000:=a_ bi.2 (by decide)
 simp[gi,gj,ha];refine hG λ_ _k=>?_
 have h:=G7 (fin:=λ_=>true) (item:=(Src.con ((List.range a).map λ(k:Nat)=>D.int (k:Int))).item)
  (body:=λd M=>(prog.call m 14 [D.ref t,D.int b] M).bind λx M'=>Res.ok (some x) M')
  (λi xs M'=>∃r:List Nat,xs=r.map nD/\r.length=i/\(∀x∈r,x<b)/\St t f M M'/\M'.length=M.length) (n:=a)
  (λi xs M' hi hI=>by
   refine hG λ_ _k=>?_
   obtain⟨r,rfl,rfl,U,R,G⟩:=hI;obtain⟨v,M2,e,l,s2,l2⟩:=Aq hm R.has (many:=b) (m_ bj.1) (m_ (c_ bj.2 (by decide)));apply _k;refine⟨.int r.length,some (.int v),M2,ahm a _ M' hi,by simp[e],r++[v],by simp[nD],by simp,λx hx=>?_,R.trans s2,l2.trans G⟩;rcases dh.mp hx with q|q
   .exact U x q
   .have:x=v:=by simpa using q
    exact c_ (f_ this) (o_ l)) (λ_ _ _=>rfl) a 0 [] M (vo _) ⟨[],rfl,rfl,by simp,St.of hs (Bt.refl M),rfl⟩
 obtain⟨ys,M',e,r,U,R,G,h4,h5⟩:=h;apply _k;refine⟨r,M',?_,R,G,h4,h5⟩;rw[An,ahn,cj ha,show(Src.con ((List.range _).map λ(k:Nat)=>D.int (k:Int))).fin=λ_=>true from rfl,e];simp at U;simp[U]
def aal{v:Nat}{G:Yf}(hm:1<=m)(hs:Uq t f M)(hK:G.length=K)(qk:1<=K)(R:K<=3)(h3:∀x∈G,1<=x/\x<=3)(hp:M[p]?=some (.lst []))(Z:p≠t) :
 ∃(fs:List F)(qq:Env)(M':cz),Hb.den (PW m) [some (.ref t),some (.int v),none,none,none,none,some (.int K),some (.vl (G.map nD)),some (.ref p),a9,a10,a11] M=.ok (.next,qq) M' /\
  qq[8]?=some (some (.ref p))/\M'[p]?=some (.lst (fs.map F.toD))/\fs.length<=3/\Good (λk=>G.getD k 1) fs/\M.length<=M'.length/\Uq t f M'/\(∀(a:Nat)(o:MO),a≠t->a≠p->M[a]?=some o->M'[a]?=some o):=by
 refine hG λ_ _k=>?_
 obtain⟨w,M1,e1,l1,s1,q4⟩:=Aq hm hs (many:=4) (by decide) (by decide);apply _k;unfold Hb;rw[Tj];have hw:w<=100000:=e_ (b_ (o_ l1) (by decide))
 simp[e1,hw];refine hG λ_ _k=>?_
 obtain⟨qq,M',e,fs,b9,U,Lb,rfl,h1,h2,h4,h5,h6,h7⟩:=aad (n:=w) (body:=λd ρ M=>Dy.den (PW m) (ρ.set 9 (some d)) M)
  (λi ρ M'=>∃(fs:List F)(b9 U Lb:Option D),ρ=[some (.ref t),some (.int v),none,none,none,none,some (.int K),some (.vl (G.map nD)),some (.ref p),b9,U,Lb] /\
   M'[p]?=some (.lst (fs.map F.toD))/\fs.length=i/\Good (λk=>G.getD k 1) fs/\M.length<=M'.length/\Uq t f M'/\(∀(a:Nat)(o:MO),a≠t->a≠p->M[a]?=some o->M'[a]?=some o))
  (M:=M1) ⟨[],a9,a10,a11,rfl,by simpa using s1.keep p _ Z hp,rfl,by intro f hf;simp at hf,s1.len,s1.has,λa o na _ h=>s1.keep a o na h⟩
  (λi ρ M2 hi hI=>by
   refine hG λ_ _k=>?_
   obtain⟨fs,b9,U,Lb,rfl,g1,g2,g3,g4,g5,g6⟩:=hI;obtain⟨x,M3,ex,lx,sx,q0⟩:=Aq hm g5 (many:=K) (m_ qk) (m_ (c_ R (by decide)));obtain⟨y,M4,ey,ly,sy,q3⟩:=Aq hm sx.has (many:=K) (m_ qk) (m_ (c_ R (by decide)));obtain⟨r,M5,er,lr,rr,sr,qv⟩:=ay4 (a1:=some (.int v)) (a2:=none) (a3:=none) (a4:=none) (a5:=none) (a6:=some (.int K)) (a8:=some (.ref p)) (a9:=some (.int i)) (i:=x) (j:=y) hm sy.has h3 (b_ (o_ lx) (g_ hK)) (b_ (o_ ly) (g_ hK));have gp:=sr.keep p _ Z (sy.keep p _ Z (sx.keep p _ Z g1));apply _k;have hl:(fs.map F.toD).length<100000:=by rw[dw];exact c_ (f_ g2) (b_ hi hw)
   refine⟨.next,_,M5.set p (.lst (fs.map F.toD++[F.toD ⟨x,y,r⟩])),?_,.inl rfl,fs++[⟨x,y,r⟩],some (.int i),some (.int x),some (.int y),rfl,?_,by simp[g2],?_,?_,?_,?_⟩
   .simp[Dy,ex,ey,er,Cq gp hl,Cu (sy.keep p _ Z (sx.keep p _ Z g1)),rz,F.toD,Ei]
   .rw[ur gp];simp
   .intro f hf
    rcases dh.mp hf with q|q
    .exact g3 f q
    .have:f=⟨x,y,r⟩:=by simpa using q
     subst this;refine⟨by show x<3;exact b_ (o_ lx) R,by show y<3;exact b_ (o_ ly) R,?_,?_⟩
     .show r.length=G.getD x 1
      rw[lr];simp[du,dj (show x<G.length by exact b_ (o_ lx) (g_ hK))]
     .intro z hz
      have:=rr z hz;show z<G.getD y 1
      simp[du,dj (show y<G.length by exact b_ (o_ ly) (g_ hK))] at this ⊢;exact this
   .have:=sr.len;have:=sy.len;have:=sx.len;simp;exact a_ g4 (a_ (g_ q0) (a_ (g_ q3) (g_ qv)))
   .obtain⟨n',q1,q2⟩:=sr.has
    exact⟨n',by rw[qp Z];exact q1,q2⟩
   .intro a o na nb h
    rw[qp (j5 nb)];exact sr.keep a o na (sy.keep a o na (sx.keep a o na (g6 a o na nb h))))
 have e':Bv (Src.con ((List.range w).map λ(k:Nat)=>D.int (k:Int))).fin (Src.con ((List.range w).map λ(k:Nat)=>D.int (k:Int))).item (λd ρ M=>Dy.den (PW m) (ρ.set 9 (some d)) M) (Src.con ((List.range w).map λ(k:Nat)=>D.int (k:Int))).len 0 [some (.ref t),some (.int v),none,none,none,none,some (.int K),some (.vl (G.map nD)),some (.ref p),a9,a10,a11] M1=_:=e;apply _k;exact⟨fs,[some (.ref t),some (.int v),none,none,none,none,some (.int K),some (.vl (G.map nD)),some (.ref p),b9,U,Lb],M',e',rfl,h1,by lia,h4,h5,h6,h7⟩
def am3(hm:2<=m)(hs:Uq t f M):∃(d:D)(M':cz)(fs:List F)(sz:Nat->Nat),prog.call m 15 [.ref t] M=.ok d M'/\fu M' d=some (fs.map F.toD)/\(∀n,d=.ref n->n≠t)/\Sz sz/\Good sz fs/\fs.length<=3/\St t f M M':=by
 refine hG λ_ _k=>?_
 have U:1<=m-1:=r_ hm
 obtain⟨v,M1,e1,l1,s1,zz⟩:=Aq U hs (many:=12) (by decide) (by decide);apply _k;rw[call_of (a_ U C_) rfl]
 by_cases hv:v<7
 .have R:(v:Int)<7:=m_ hv
  have G:∀(fs:List F)(sz:Nat->Nat),Dc.run (PW (m-1)) [.ref t] M=.ok (.vl (fs.map F.toD)) M1->Sz sz->Good sz fs->fs.length<=3 ->
   ∃(d:D)(M':cz)(fs:List F)(sz:Nat->Nat),Dc.run (PW (m-1)) [.ref t] M=.ok d M'/\fu M' d=some (fs.map F.toD)/\(∀n,d=.ref n->n≠t)/\Sz sz/\Good sz fs/\fs.length<=3/\St t f M M' :=
   λfs sz a b c d=>⟨_,M1,fs,sz,a,rfl,λn h=>(by cases h),b,c,d,s1⟩
  have run:∀d,Aw (.vl [.vl [.tup [.int 0,.int 1,.tup [.int 0,.int 1]],.tup [.int 0,.int 1,.tup [.int 1,.int 0]]],.vl [.tup [.int 0,.int 1,.tup [.int 0,.int 0,.int 1,.int 1]],.tup [.int 0,.int 1,.tup [.int 0,.int 1,.int 0,.int 1]],.tup [.int 1,.int 0,.tup [.int 0,.int 3]]],
   .vl [.tup [.int 0,.int 0,.tup [.int 1,.int 0]]],.vl [.tup [.int 0,.int 0,.tup [.int 1,.int 2,.int 0]]],.vl [.tup [.int 0,.int 0,.tup [.int 0,.int 0]]],.vl [],.vl [.tup [.int 0,.int 1,.tup [.int 0,.int 1]],.tup [.int 1,.int 2,.tup [.int 0,.int 0,.int 1]]]]) (.int v) M1=some d ->
   Dc.run (PW (m-1)) [.ref t] M=.ok d M1:=λd hd=>by simp[Fn.run,Dc,Kh,e1,R,hd]
  have cs:v=0\/v=1\/v=2\/v=3\/v=4\/v=5\/v=6:=by lia
  rcases cs with rfl|rfl|rfl|rfl|rfl|rfl|rfl
  .refine G [⟨0,1,[0,1]⟩,⟨0,1,[1,0]⟩] (λ_=>2) ?_ (λk=>by simp) (λf Z=>?_) (by decide)
   .exact run _ rfl
   .simp at Z;rcases Z with rfl|rfl<;>exact⟨by decide,by decide,by decide,by decide⟩
  .refine G [⟨0,1,[0,0,1,1]⟩,⟨0,1,[0,1,0,1]⟩,⟨1,0,[0,3]⟩] (λk=>if k=0 then 4 else 2) ?_ (λk=>by dsimp only;split<;>omega) (λf Z=>?_) (by decide)
   .exact run _ rfl
   .simp at Z;rcases Z with rfl|rfl|rfl<;>exact⟨by decide,by decide,by decide,by decide⟩
  .refine G [⟨0,0,[1,0]⟩] (λ_=>2) ?_ (λk=>by simp) (λf Z=>?_) (by decide)
   .exact run _ rfl
   .simp at Z;subst Z;exact⟨by decide,by decide,by decide,by decide⟩
  .refine G [⟨0,0,[1,2,0]⟩] (λ_=>3) ?_ (λk=>by simp) (λf Z=>?_) (by decide)
   .exact run _ rfl
   .simp at Z;subst Z;exact⟨by decide,by decide,by decide,by decide⟩
  .refine G [⟨0,0,[0,0]⟩] (λ_=>2) ?_ (λk=>by simp) (λf Z=>?_) (by decide)
   .exact run _ rfl
   .simp at Z;subst Z;exact⟨by decide,by decide,by decide,by decide⟩
  .refine G [] (λ_=>1) ?_ (λk=>by simp) (λf Z=>?_) (by decide)
   .exact run _ rfl
   .simp at Z
  .refine G [⟨0,1,[0,1]⟩,⟨1,2,[0,0,1]⟩] (λk=>if k=1 then 3 else 2) ?_ (λk=>by dsimp only;split<;>exact⟨by decide,by decide⟩) (λf Z=>?_) (by decide)
   .exact run _ rfl
   .simp at Z;rcases Z with rfl|rfl<;>exact⟨by decide,by decide,by decide,by decide⟩
 .refine hG λ_ _k=>?_
  have R:¬(v:Int)<7:=by lia
  obtain⟨u,M2,e2,l2,s2,qv⟩:=Aq U s1.has (many:=3) (by decide) (by decide);obtain⟨K,eK,q0⟩:∃K:Nat,(1:Int)+(u:Int)=(K:Int)/\K=1+u:=⟨1+u,by lia,rfl⟩;obtain⟨Je,M3,e3,l3,r3,s3,qk⟩:=am2 (a1:=some (.int v)) (a2:=none) (a3:=none) (a4:=none) (a5:=none) (a7:=none) (a8:=none) (a9:=none) (a10:=none) (a11:=none) (K:=K) U s2.has (by lia);apply _k;have qq:t<M3.length:=by obtain⟨n,h,_⟩:=s3.has;exact w6 h
  have h4:Uq t f (M3++[.lst []]):=by obtain⟨n,h,o⟩:=s3.has;exact⟨n,qt h,o⟩
  refine hG λ_ _k=>?_
  obtain⟨fs,q7,M5,e5,q8,q1,q2,q3,q4,q5,q6⟩:=aal (v:=v) (K:=K) (p:=M3.length) (a9:=none) (a10:=none) (a11:=none) U h4 l3 (by lia) (by lia) r3 (by simp) (i_ qq);apply _k;refine⟨.ref M3.length,M5,fs,λk=>Je.getD k 1,?_,qm q1,λn h=>by cases h;exact i_ qq,λk=>?_,q3,q2,?_⟩
  .simp[Fn.run,Dc,Kh,e1,R,e2,eK,e3,MW.new,e5,q8]
  .show 1<=Je.getD k 1/\Je.getD k 1<=4
   by_cases h:k<Je.length
   .have:=r3 _ (getD_mem h)
    simp[du,h] at this ⊢;exact⟨this.1,a_ this.2 (by decide)⟩
   .simp[du,h]
  .refine s1.trans (s2.trans (s3.trans ⟨?_,q5,λa o na h=>q6 a o na ?_ (qt h)⟩))
   .have:=q4;simp at this;lia
   .have:=w6 h;exact h_ this
structure Up(p:Nat)(M M':cz):Prop where
 len:M'.length=M.length
 oth:∀a:Nat,a≠p->M'[a]?=M[a]?
def Up.refl(p:Nat)(M:cz):Up p M M:=⟨rfl,λ_ _=>rfl⟩
theorem Up.trans(a:Up p M M1)(b:Up p M1 M2):Up p M M2:=⟨b.len.trans a.len,λx h=>(b.oth x h).trans (a.oth x h)⟩
theorem Up.set(p:Nat)(M:cz)(o:MO):Up p M (M.set p o):=⟨by simp,λa h=>qp (j5 h)⟩
def Ql(h:M[p]?=some (.lst ds)):O3 M x (.ref p)=memD M x ds:=by simp[O3,h,wz,fu]
def Ur(f:F)(M:cz):Aw f.toD (.int 0) M=some (.int f.a):=rfl
def Us(f:F)(M:cz):Aw f.toD (.int 1) M=some (.int f.b):=rfl
def am4(f:F)(M:cz):Aw f.toD (.int 2) M=some (Ei f.r):=rfl
def Nz(M:cz)(r:Yf)(n:Nat):za M (Ei r) (.tup ((List.range n).map λ(k:Nat)=>D.int (k:Int)))=some (decide (r=List.range n)):=aft M r (List.range n)
def eq_nil(M:cz)(r:Yf):za M (Ei r) (.tup [])=some (decide (r=[])):=aft M r []
def Bg(M:cz)(a b:Nat):za M (.int a) (.int b)=some (decide (a=b)):=by rw[eq_int,ahk]
def Im(M:cz)(r:Yf):rz .len [Ei r] M=.ok (.int r.length) M:=by simp[rz,wz,Ei]
def Hu(M:cz)(ds:List D):rz .tuple [.vl ds] M=.ok (.tup ds) M:=by simp[rz,wz]
def aam(M:cz)(r:Yf):rz .tuple [.vl (r.map nD)] M=.ok (Ei r) M:=Hu M _
def afw(hz:Sz sz)(h:Xo sz f):1<=f.r.length/\f.r.length<=4:=by rw[h.len];exact hz _
def as7(M:cz)(r:Yf):srcOf M (Ei r)=some (.con (r.map nD)):=rfl
def am5(M:cz)(r:Yf)(h:x<r.length):Aw (Ei r) (.int x) M=some (.int (r.getD x 0)):=Iw q_ (by simp[h,nD])
def am6(hz:Sz sz)(U:Xo sz f)(hg:Xo sz g)(h:f.b=g.a) :
 Ge.den W [a0,a1,a2,a3,a4,a5,a6,some f.toD,some g.toD,a9] M=.ok (.vl ((f.comp g).r.map nD)) M:=by
 have G:(f.r.map nD).length<=100000:=by rw[dw,U.len];have:=hz f.a;exact a_ this.2 (by decide)
 unfold Ge;rw[Lx];simp[am4,as7];have:=ahf (M:=M) (ds:=f.r.map nD) (g:=λd=>match d with|.int i=>nD (g.r.getD i.toNat 0)|_=>.non)
  (body:=λd M=>((Res.wj (Aw (Ei g.r) d M) M).bind λx M'=>Res.ok (some x) M')) G (λd hd=>by
   refine hG λ_ _k=>?_
   obtain⟨x,R,rfl⟩:=bw.mp hd;apply _k;have Z:x<g.r.length:=by rw[hg.len,<- h];exact U.ran x R
   rw[show nD x=D.int (x:Int) from rfl,am5 M g.r Z];simp[nD])
 rw[this];simp[F.comp,nD]
noncomputable def Km(gs:List F)(f g:F):List F:=if f.b=g.a/\f.comp g∉gs/\¬(f.comp g).Qk then gs++[f.comp g] else gs
def afx(f g:F):D.tup [.int f.a,.int g.b,Ei (f.comp g).r]=(f.comp g).toD:=rfl
def Wa(hz:Sz sz)(R:Xo sz f)(G:Xo sz g)(hp:M[p]?=some (.lst (gs.map F.toD)))(hl:gs.length<100000) :
 ∃(b4 b9:Option D)(M':cz),Ce.den W [a0,D.ref p,a2,a3,a4,a5,a6,some f.toD,some g.toD,a9] M=.ok (.next,[a0,some (.ref p),a2,a3,b4,a5,a6,some f.toD,some g.toD,b9]) M' /\
  M'[p]?=some (.lst ((Km gs f g).map F.toD))/\Up p M M':=by
 by_cases h:f.b=g.a
 .have hc:=am6 (W:=W) (M:=M) (a0:=a0) (a1:=some (.ref p)) (a2:=a2) (a3:=a3) (a4:=some (.tup [])) (a5:=a5) (a6:=a6) (a9:=a9) hz R G h
  have hr:(f.comp g).r≠[]:=λe=>by have:=(afw hz (R.comp G h)).1;rw[e] at this;simp at this
  have Z:(f.comp g).r.length<=100000:=by have:=(afw hz (R.comp G h)).2;exact a_ this (by decide)
  refine hG λ_ _k=>?_
  have Hz:=am0 M (f.comp g) gs;have e0:(f.comp g).a=f.a:=rfl;have e1:(f.comp g).b=g.b:=rfl;have ap:=Cq (d:=(f.comp g).toD) hp (by rw[dw];exact hl);have U:∃T:Res (Flow×Env),Ce.den W [a0,D.ref p,a2,a3,a4,a5,a6,some f.toD,some g.toD,a9] M=T/\(f.comp g∈gs->T=.ok (.next,[a0,some (.ref p),a2,a3,some (Ei (f.comp g).r),a5,a6,some f.toD,some g.toD,some (f.comp g).toD]) M)/\(f.comp g∉gs->(f.comp g).Qk->T=.ok (.next,[a0,some (.ref p),a2,a3,some (Ei (f.comp g).r),a5,a6,some f.toD,some g.toD,some (f.comp g).toD]) M) /\
   (f.comp g∉gs->¬(f.comp g).Qk->T=.ok (.next,[a0,some (.ref p),a2,a3,some (Ei (f.comp g).r),a5,a6,some f.toD,some g.toD,some (f.comp g).toD]) (M.set p (.lst ((gs++[f.comp g]).map F.toD)))):=by
   refine⟨_,(by simp[-eq_int,Ce,Ur,Us,Bg,h,hc,aam,afx,eq_nil,hr,Ql hp,Hz];exact rfl),?_,?_,?_⟩
   .intro m;simp[m]
   .intro m i;simp[-eq_int,m,Ur,Us,Bg,i.1,Im,Z,Nz,decide_eq_true i.2]
   .intro m i
    by_cases i1:(f.comp g).a=(f.comp g).b
    .have i2:¬(f.comp g).r=List.range (f.comp g).r.length:=λq=>i ⟨i1,q⟩
     simp[-eq_int,Ur,Us,Bg,m,i1,Im,Z,Nz,i2,Cu hp,ap]
    .simp[-eq_int,Ur,Us,Bg,m,i1,Im,Z,Nz,Cu hp,ap]
  obtain⟨T,e,k1,k2,k3⟩:=U;apply _k
  by_cases m:f.comp g∈gs
  .exact⟨_,_,M,e.trans (k1 m),by rw[Km,bx (λq=>q.2.1 m)];exact hp,Up.refl p M⟩
  .by_cases i:(f.comp g).Qk
   .exact⟨_,_,M,e.trans (k2 m i),by rw[Km,bx (λq=>q.2.2 i)];exact hp,Up.refl p M⟩
   .exact⟨_,_,_,e.trans (k3 m i),by rw[Km,cj ⟨h,m,i⟩,ur hp],Up.set _ _ _⟩
 .refine⟨some (.tup []),some (.tup [.int f.a,.int g.b,.tup []]),M,?_,by rw[Km,bx (λq=>h q.1)];exact hp,Up.refl p M⟩
  have:=aft M [] [];simp[Ei] at this;simp[-eq_int,Ce,Ur,Us,Bg,h,this]
structure Inv(sz:Nat->Nat)(gs:List F):Prop where
 good:Good sz gs
 nd:gs.Nodup
 nid:∀f∈gs,¬f.Qk
def Inv.snoc{sz:Nat->Nat}(h:Inv sz gs)(hf:Xo sz f)(R:f∉gs)(hi:¬f.Qk):Inv sz (gs++[f]):=by
 refine⟨λx Z=>?_,?_,λx Z=>?_⟩
 .rcases dh.mp Z with q|q
  .exact h.good x q
  .have:x=f:=by simpa using q
   exact this▸hf
 .rw[zc]
  refine⟨h.nd,by simp,λa G b U=>?_⟩;have:b=f:=by simpa using U
  exact λe=>R (by rw[<- this,<- e];exact G)
 .rcases dh.mp Z with q|q
  .exact h.nid x q
  .have:x=f:=by simpa using q
   exact this▸hi
noncomputable def Cl2(gs:List F)(f g:F):Prop:=f.b=g.a->f.comp g∈gs\/(f.comp g).Qk
def Cl2.mono(h:Cl2 gs f g)(s:gs <+: hs):Cl2 hs f g:=λe=>(h e).imp (λm=>s.subset m) id
def N5(gs:List F)(f g:F):gs <+: Km gs f g:=by
 unfold Km;split
 .exact List.prefix_append _ _
 .exact List.prefix_rfl
def Wb(gs:List F)(f g:F):(Km gs f g).length<=gs.length+1:=by unfold Km;split<;>simp
set_option tactic.hygienic true in
def aco(h:Inv sz gs)(Z:Xo sz f)(Y:Xo sz g):Inv sz (Km gs f g):=by
 unfold Km;split
 .rename_i q;exact h.snoc (Z.comp Y q.1) q.2.1 q.2.2
 .exact h
def aho(gs:List F)(f g:F):Cl2 (Km gs f g) f g:=by
 intro e;unfold Km
 by_cases m:f.comp g∈gs
 .left;split
  .exact ue _ m
  .exact m
 .by_cases i:(f.comp g).Qk
  .exact .inr i
  .left;rw[cj ⟨e,m,i⟩];simp
def Rp{gs:List F}{i:Nat}(s:gs <+: hs)(h:gs[i]?=some f):hs[i]?=some f:=by obtain⟨t,rfl⟩:=s;rw[fc (ak.mp h).1];exact h
def Pg{gs:List F}{i:Nat}(hp:M[p]?=some (.lst (gs.map F.toD)))(h:gs[i]?=some f):Aw (.ref p) (.int i) M=some f.toD:=Cy (qm hp) q_ (by simp[h])
def Ko{gs:List F}(hp:M[p]?=some (.lst (gs.map F.toD))):rz .len [.ref p] M=.ok (.int gs.length) M:=by rw[len_list (qm hp)];simp
def ay6{k j:Nat}(hz:Sz sz)(hi:Inv sz gs)(hp:M[p]?=some (.lst (gs.map F.toD)))(hl:gs.length<90000)(G:gs[k]?=some f)(U:gs[j]?=some g) :
 ∃(b4 b7 b8 b9:Option D)(M':cz),Gf.den W [a0,D.ref p,a2,a3,a4,D.int k,D.int j,a7,a8,a9] M=.ok (.next,[a0,some (.ref p),a2,a3,b4,some (.int k),some (.int j),b7,b8,b9]) M' /\
  M'[p]?=some (.lst ((Km (Km gs f g) g f).map F.toD))/\Up p M M':=by
 refine hG λ_ _k=>?_
 have R:=hi.good f (az G);have Z:=hi.good g (az U);have l1:=Wb gs f g;obtain⟨b4,b9,M1,e1,p1,u1⟩:=Wa (W:=W) (M:=M) (a0:=a0) (a2:=a2) (a3:=a3) (a4:=a4) (a5:=some (.int k)) (a6:=some (.int j)) (a9:=a9) hz R Z hp (b_ hl (by decide));obtain⟨c4,c9,M2,e2,p2,u2⟩:=Wa (W:=W) (M:=M1) (a0:=a0) (a2:=a2) (a3:=a3) (a4:=b4) (a5:=some (.int k)) (a6:=some (.int j)) (a9:=b9) hz Z R p1 (by lia);apply _k;refine⟨c4,some g.toD,some f.toD,c9,M2,?_,p2,u1.trans u2⟩;unfold Gf;rw[Tj];simp[Pg hp G,Pg hp U,srcOf,Src.len,Src.fin,Bv,Src.item,e1,e2]
def as9{k:Nat}(hz:Sz sz)(hi:Inv sz gs)(hp:M[p]?=some (.lst (gs.map F.toD)))(hl:gs.length<10000)(hk:gs[k]?=some f) :
 ∃(hs:List F)(b4 b6 b7 b8 b9:Option D)(M':cz),Gh.den W [a0,D.ref p,a2,a3,a4,D.int k,a6,a7,a8,a9] M=.ok (.next,[a0,some (.ref p),a2,a3,b4,some (.int k),b6,b7,b8,b9]) M' /\
  M'[p]?=some (.lst (hs.map F.toD))/\Up p M M'/\gs <+: hs/\Inv sz hs/\hs.length<=3*gs.length/\∀(j:Nat)(g:F),gs[j]?=some g->Cl2 hs f g/\Cl2 hs g f:=by
 unfold Gh;rw[Tj];have qq:gs.length<=100000:=e_ (b_ hl (by decide))
 simp[Ko hp,qq];refine hG λ_ _k=>?_
 obtain⟨qk,M',e,hs,b4,b6,b7,b8,b9,rfl,h1,h2,h3,h4,h5,h6⟩:=aad (n:=gs.length) (body:=λd ρ M=>Gg.den W (ρ.set 6 (some d)) M)
  (λi ρ M'=>∃(hs:List F)(b4 b6 b7 b8 b9:Option D),ρ=[a0,some (.ref p),a2,a3,b4,some (.int k),b6,b7,b8,b9]/\M'[p]?=some (.lst (hs.map F.toD))/\Up p M M'/\gs <+: hs/\Inv sz hs/\hs.length<=gs.length+2*i /\
   ∀(j:Nat)(g:F),j<i->gs[j]?=some g->Cl2 hs f g/\Cl2 hs g f) (ρ:=[a0,D.ref p,a2,a3,a4,D.int k,a6,a7,a8,a9]) (M:=M)
  ⟨gs,a4,a6,a7,a8,a9,rfl,hp,Up.refl p M,List.prefix_rfl,hi,x_,λj g h=>absurd h (yz _)⟩
  (λi ρ M2 Jh hI=>by
   refine hG λ_ _k=>?_
   obtain⟨hs,b4,b6,b7,b8,b9,rfl,g1,g2,U,R,g5,g6⟩:=hI;have gi:gs[i]?=some gs[i]:=by simp[Jh]
   obtain⟨c4,c7,c8,c9,M3,e3,p3,u3⟩:=ay6 (W:=W) (M:=M2) (a0:=a0) (a2:=a2) (a3:=a3) (a4:=b4) (a7:=b7) (a8:=b8) (a9:=b9) hz R g1 (by lia) (Rp U hk) (Rp U gi);have hf:=R.good f (az (Rp U hk));have G:=R.good gs[i] (az (Rp U gi));apply _k;refine⟨.next,_,M3,?_,.inl rfl,Km (Km hs f gs[i]) gs[i] f,c4,some (.int i),c7,c8,c9,rfl,p3,g2.trans u3,(U.trans (N5 _ _ _)).trans (N5 _ _ _),aco (aco R hf G) G hf,?_,?_⟩
   .simp[Gg,e3]
   .have:=Wb hs f gs[i]
    have:=Wb (Km hs f gs[i]) gs[i] f
    lia
   .intro j g hj Z
    have pr:=(N5 hs f gs[i]).trans (N5 (Km hs f gs[i]) gs[i] f);rcases Nat.lt_succ_iff_lt_or_eq.mp hj with q|q
    .exact⟨(g6 j g q Z).1.mono pr,(g6 j g q Z).2.mono pr⟩
    .subst q
     have:g=gs[j]:=by rw[gi] at Z;exact(jt Z).symm
     subst this;exact⟨(aho _ _ _).mono (N5 _ _ _),aho _ _ _⟩)
 apply _k;refine⟨hs,b4,b6,b7,b8,b9,M',e,h1,h2,h3,h4,by lia,λj g G=>h6 j g (ak.mp G).1 G⟩
def am8(f:F)(i j k:Nat)(ρ:Env):(Tg.names [i,j,k]).put f.toD ρ=some (((ρ.set i (some (.int f.a))).set j (some (.int f.b))).set k (some (Ei f.r))):=rfl
noncomputable def aao(gs:List F)(f:F):List F:=if ¬f.Qk/\f∉gs then gs++[f] else gs
noncomputable def ClK(gs:List F)(k:Nat):Prop:=∀(i j:Nat)(f g:F),i<k->j<k->gs[i]?=some f->gs[j]?=some g->Cl2 gs f g
def ajp(hz:Sz sz)(hf:Xo sz f)(hp:M[p]?=some (.lst (gs.map F.toD)))(hl:gs.length<100000) :
 ∃M',zy.den W [a0,D.ref p,D.int f.a,D.int f.b,Ei f.r,a5,a6,a7,a8,a9] M=.ok (.next,[a0,some (.ref p),some (.int f.a),some (.int f.b),some (Ei f.r),a5,a6,a7,a8,a9]) M' /\
  M'[p]?=some (.lst ((aao gs f).map F.toD))/\Up p M M':=by
 have Z:f.r.length<=100000:=by have:=(afw hz hf).2;exact a_ this (by decide)
 have R:=am0 M f gs;have U:D.tup [.int f.a,.int f.b,Ei f.r]=f.toD:=rfl;have ap:=Cq (d:=f.toD) hp (by rw[dw];exact hl)
 by_cases i:f.Qk
 .refine⟨M,?_,by rw[aao,bx (λq=>q.1 i)];exact hp,Up.refl p M⟩
  simp[-eq_int,zy,Bg,i.1,Im,Z,Nz,decide_eq_true i.2]
 .by_cases m:f∈gs
  .refine⟨M,?_,by rw[aao,bx (λq=>q.2 m)];exact hp,Up.refl p M⟩
   by_cases G:f.a=f.b
   .have i2:¬f.r=List.range f.r.length:=λq=>i ⟨G,q⟩
    simp[G] at U;simp[-eq_int,zy,Bg,G,i2,Im,Z,Nz,U,Ql hp,R,m]
   .simp[-eq_int,zy,Bg,G,Im,Z,Nz,U,Ql hp,R,m]
  .refine⟨M.set p (.lst ((gs++[f]).map F.toD)),?_,by rw[aao,cj ⟨i,m⟩,ur hp],Up.set _ _ _⟩
   by_cases G:f.a=f.b
   .have i2:¬f.r=List.range f.r.length:=λq=>i ⟨G,q⟩
    simp[G] at U;simp[-eq_int,zy,Bg,G,i2,Im,Z,Nz,U,Ql hp,R,m,Cu hp,ap]
   .simp[-eq_int,zy,Bg,G,Im,Z,Nz,U,Ql hp,R,m,Cu hp,ap]
set_option tactic.hygienic true in
def am9(h:Inv sz gs)(Z:Xo sz f):Inv sz (aao gs f):=by
 unfold aao;split
 .rename_i q;exact h.snoc Z q.2 q.1
 .exact h
def ana(gs:List F)(f:F):(aao gs f).length<=gs.length+1:=by unfold aao;split<;>simp
def ajq(hz:Sz sz)(hi:Inv sz gs)(hp:M[p]?=some (.lst (gs.map F.toD)))(hl:gs.length<=3) :
 ∃(G:Env)(M':cz),Gi.den W [a0,D.ref p,a2,a3,a4,D.int 0,a6,a7,a8,a9] M=.ok (.next,G) M'/\G[1]?=some (some (.ref p))/\∃hs:List F,M'[p]?=some (.lst (hs.map F.toD))/\Up p M M'/\Inv sz hs/\hs.length<=15 /\
  (hs.length<6->Ny hs)/\(gs=[]->hs=[]):=by
 unfold Gi;rw[Z8];refine Ou (λm ρ M'=>∃(hs:List F)(k:Nat)(b4 b6 b7 b8 b9:Option D),ρ=[a0,some (.ref p),a2,a3,b4,some (.int k),b6,b7,b8,b9]/\M'[p]?=some (.lst (hs.map F.toD))/\Up p M M'/\Inv sz hs/\hs.length<=15/\ClK hs k/\k<=5/\m=10-k/\(gs=[]->hs=[]))
  (fun G M'=>G[1]?=some (some (.ref p))/\∃hs:List F,M'[p]?=some (.lst (hs.map F.toD))/\Up p M M'/\Inv sz hs/\hs.length<=15/\(hs.length<6->Ny hs)/\(gs=[]->hs=[])) ?_ afs 10 _ M (by decide)
  ⟨gs,0,a4,a6,a7,a8,a9,rfl,hp,Up.refl p M,hi,a_ hl (by decide),λi j f g h=>absurd h (yz _),jx _,rfl,id⟩
 intro m ρ M1 hI;refine hG λ_ _k=>?_
 obtain⟨hs,k,b4,b6,b7,b8,b9,rfl,g1,g2,g3,g4,g5,g6,g7,g8⟩:=hI;apply _k
 by_cases c1:k<hs.length
 .have R:(k:Int)<(hs.length:Int):=m_ c1
  by_cases c2:hs.length<6
  .have qv:(hs.length:Int)<6:=m_ c2
   right
   refine hG λ_ _k=>?_
   obtain⟨is,d4,d6,d7,d8,d9,M2,e,p2,u2,pr,q1,l2,q2⟩:=as9 (W:=W) (M:=M1) (a0:=a0) (a2:=a2) (a3:=a3) (a4:=b4) (a6:=b6) (a7:=b7) (a8:=b8) (a9:=b9) (k:=k) hz g3 g1 (c_ g4 (by decide)) (show hs[k]?=some hs[k] by simp[c1]);apply _k;refine⟨M1,.next,_,M2,10-(k+1),?_,?_,.inl rfl,by lia,is,k+1,d4,d6,d7,d8,d9,rfl,p2,g2.trans u2,q1,by lia,?_,by lia,rfl,?_⟩
   .simp[Ko g1,R,qv]
   .simp[K6,e]
   .intro i j f g Z U hf hg
    have qq:∀(i:Nat)(f:F),i<k+1->is[i]?=some f->hs[i]?=some f:=λi f hi hf=>by
     have Jh:i<hs.length:=b_ hi c1
     have:=Rp pr (show hs[i]?=some hs[i] by simp[Jh]);rw[hf] at this;rw[this];simp[Jh]
    have q0:=qq i f Z hf;have qk:=qq j g U hg
    by_cases ei:i=k
    .subst ei
     have:f=hs[i]:=by have:=q0;simp[c1] at this;exact this.symm
     subst this;exact(q2 j g qk).1
    .by_cases ej:j=k
     .subst ej
      have:g=hs[j]:=by have:=qk;simp[c1] at this;exact this.symm
      subst this;exact(q2 i f q0).2
     .exact(g5 i j f g (by lia) (by lia) q0 qk).mono pr
   .intro e0
    have:=g8 e0;subst this;simp at c1
  .left
   have qv:¬(hs.length:Int)<6:=by lia
   exact⟨M1,by simp[Ko g1,R,qv],rfl,hs,g1,g2,g3,g4,λq=>absurd q c2,g8⟩
 .left
  have R:¬(k:Int)<(hs.length:Int):=by lia
  refine⟨M1,by simp[Ko g1,R],rfl,hs,g1,g2,g3,g4,λ_=>?_,g8⟩;intro f hf g hg;refine hG λ_ _k=>?_
  obtain⟨i,Z,ei⟩:=qd hf;obtain⟨j,U,ej⟩:=qd hg;apply _k;exact g5 i j f g (b_ Z (s_ c1)) (b_ U (s_ c1)) (by simp[Z,ei]) (by simp[U,ej])
def Yr(hm:1<=m)(hz:Sz sz)(hg:Good sz fs)(hl:fs.length<=3)(hd:fu M d=some (fs.map F.toD)) :
 ∃(hs:List F)(M':cz),prog.call m 16 [d] M=.ok (.ref M.length) M'/\M'[M.length]?=some (.lst (hs.map F.toD))/\Bt M M'/\M'.length=M.length+1/\Inv sz hs/\hs.length<=15/\(hs.length<6->Ny hs)/\(fs=[]->hs=[]):=by
 rw[call_of hm rfl];refine hG λ_ _k=>?_
 have G:fu (M++[.lst []]) d=some (fs.map F.toD):=(Bt.app M _).fu hd;obtain⟨s,q3,q6,M1,e1,Z,b2,b3,R,rfl,h1,h2,h3,h4,h5⟩:=V5 (body:=λd ρ M=>match(Tg.names [2,3,4]).put d ρ with
  | some q2=>zy.den (PW (m-1)) q2 M|none=>.bad)
  (λi ρ M'=>∃(Z:List F)(b2 b3 R:Option D),ρ=[some d,some (.ref M.length),b2,b3,R,none,none,none,none,none]/\M'[M.length]?=some (.lst (Z.map F.toD))/\Up M.length (M++[.lst []]) M'/\Inv sz Z/\Z.length<=i/\(fs=[]->Z=[]))
  (ρ:=[some d,D.ref M.length,none,none,none,none,none,none,none,none]) (M:=M++[.lst []]) G
  ⟨[],none,none,none,rfl,by simp,Up.refl _ _,⟨λf U=>by simp at U,by simp,λf U=>by simp at U⟩,by simp,λ_=>rfl⟩
  (λi ρ M' hI=>by
   refine hG λ_ _k=>?_
   obtain⟨Z,b2,b3,R,rfl,g1,g2,g3,g4,g5⟩:=hI;apply _k;cases d with
   |vl xs=>exact hd
   |ref n =>
    have hn:n≠M.length:=by
     simp only[fu] at hd;cases e:M[n]? with
     |none=>rw[e] at hd;simp at hd|some o=>have:=w6 e;exact h_ this
    simp only[fu] at G ⊢;rw[g2.oth n hn];exact G
   | _=>simp[fu] at hd)
  (λi x ρ M' hx hI=>by
   refine hG λ_ _k=>?_
   obtain⟨Z,b2,b3,R,rfl,g1,g2,g3,g4,g5⟩:=hI;obtain⟨f,U,rfl⟩:∃f,fs[i]?=some f/\f.toD=x:=by simpa using hx
   have qk:=az U;have q0:=(ak.mp U).1;obtain⟨M2,e2,p2,u2⟩:=ajp (W:=PW (m-1)) (M:=M') (a0:=some d) (a5:=none) (a6:=none) (a7:=none) (a8:=none) (a9:=none) hz (hg f qk) g1 (c_ g4 (b_ q0 (a_ hl (by decide))));apply _k;refine⟨.next,_,M2,?_,.inl rfl,aao Z f,some (.int f.a),some (.int f.b),some (Ei f.r),rfl,p2,g2.trans u2,am9 g3 (hg f qk),?_,λe=>?_⟩
   .rw[am8];exact e2
   .have:=ana Z f;exact a_ this (v_ g4)
   .subst e;simp at U)
 apply _k;have qv:Z.length<=3:=by simp at h4;exact a_ h4 hl
 refine hG λ_ _k=>?_
 obtain⟨q5,M2,e2,q1,hs,p2,u2,qq,l2,c2,z2⟩:=ajq (W:=PW (m-1)) (M:=M1) (a0:=some d) (a2:=b2) (a3:=b3) (a4:=R) (a6:=none) (a7:=none) (a8:=none) (a9:=none) hz h3 h1 qv;have up:=h2.trans u2;apply _k;refine⟨hs,M2,?_,p2,λa o h=>?_,?_,qq,l2,c2,λe=>z2 (h5 e)⟩
 .have q4:Gj.den (PW (m-1)) [some d,some (.ref M.length),none,none,none,none,none,none,none,none] (M++[.lst []])=.ok (.next,[some d,some (.ref M.length),b2,b3,R,none,none,none,none,none]) M1:=by
   unfold Gj;rw[Tj];simp[q3];exact e1
  simp[Fn.run,O9,O8,MW.new,q4,e2,q1]
 .have:=w6 h
  rw[up.oth a (h_ this)];exact qt h
 .rw[up.len];simp
noncomputable def eD(f:F):D:=.tup [.int f.a,.int f.b]
noncomputable def Ib(hs:List F):D:=.tup (hs.map eD)
noncomputable def ent(hs:List F)(f g:F):Int:=if f.comp g∈hs then(pos (f.comp g) hs:Int) else -1
noncomputable def ky(j k:Nat):List Kx:=[.inl (j:Int),.inl (k:Int)]
def aap(h:ky j k=ky Z k'):j=Z/\k=k':=by simp[ky] at h;exact⟨D_ h.1,D_ h.2⟩
noncomputable def Ys(j k Z k':Nat):Prop:=Z<j\/(Z=j/\k'<k)
structure Tb(hs:List F)(j k:Nat)(iu:List (List Kx×D)):Prop where
 keys:∀p∈iu,∃(j' k':Nat)(f g:F),p=(ky j' k',.int (ent hs f g))/\hs[j']?=some f/\hs[k']?=some g/\f.b=g.a/\Ys j k j' k'
 look:∀(j' k':Nat)(f g:F),hs[j']?=some f->hs[k']?=some g->f.b=g.a->Ys j k j' k'->xu iu (ky j' k')=some (.int (ent hs f g))
 len:iu.length<=j*hs.length+k
def ajr{Z:List (List Kx×D)}(h:∀p∈Z,p.1≠q):xu Z q=none:=by unfold xu;rw[List.find?_eq_none.mpr (λp G=>by simpa using h p G)];rfl
def ajs{Z:List (List Kx×D)}(h:∀p∈Z,p.1≠q):Dd Z q v=Z++[(q,v)]:=by unfold Dd;rw[bx];simp only[zm,cu,not_exists,not_and];exact h
def aaq{Z:List (List Kx×D)}(h:q≠q'):xu (Z++[(q,v)]) q'=xu Z q':=by
 unfold xu;rw[List.find?_append];cases e:Z.find? (λp=>decide (p.1=q')) with
 |some p=>rfl|none=>simp[h]
def aar{Z:List (List Kx×D)}(h:∀p∈Z,p.1≠q):xu (Z++[(q,v)]) q=some v:=by unfold xu;rw[List.find?_append,List.find?_eq_none.mpr (λp G=>by simpa using h p G)];simp
def Tb.skip(h:Tb hs j k iu)(hf:hs[j]?=some f)(hg:hs[k]?=some g)(n:f.b≠g.a):Tb hs j (k+1) iu:=by
 refine⟨λp hp=>?_,λZ G R U a b c d=>?_,by have:=h.len;exact a_ this (w_ x_)⟩
 .refine hG λ_ _k=>?_
  obtain⟨Z,G,R,U,e,a,b,c,d⟩:=h.keys p hp;apply _k;exact⟨Z,G,R,U,e,a,b,c,by unfold Ys at *;lia⟩
 .by_cases q:Z=j/\G=k
  .refine hG λ_ _k=>?_
   obtain⟨rfl,rfl⟩:=q;rw[hf] at a;rw[hg] at b;cases a;cases b;apply _k;exact absurd c n
  .exact h.look Z G R U a b c (by unfold Ys at *;lia)
def Tb.fresh(h:Tb hs j k Z):∀p∈Z,p.1≠ky j k:=by
 intro p G e;refine hG λ_ _k=>?_
 obtain⟨U,k',f',R,rfl,a,b,c,d⟩:=h.keys p G;have:=aap e;unfold Ys at d;apply _k
 lia
def Tb.put(h:Tb hs j k iu)(hf:hs[j]?=some f)(hg:hs[k]?=some g)(n:f.b=g.a):Tb hs j (k+1) (Dd iu (ky j k) (.int (ent hs f g))):=by
 rw[ajs h.fresh];refine⟨λp hp=>?_,λZ G R U a b c d=>?_,by have:=h.len;simp;lia⟩
 .rcases dh.mp hp with q|q
  .refine hG λ_ _k=>?_
   obtain⟨Z,G,R,U,e,a,b,c,d⟩:=h.keys p q;apply _k;exact⟨Z,G,R,U,e,a,b,c,by unfold Ys at *;lia⟩
  .have:p=(ky j k,.int (ent hs f g)):=by simpa using q
   exact⟨j,k,f,g,this,hf,hg,n,by unfold Ys;lia⟩
 .by_cases q:Z=j/\G=k
  .refine hG λ_ _k=>?_
   obtain⟨rfl,rfl⟩:=q;rw[hf] at a;rw[hg] at b;cases a;cases b;apply _k;exact aar h.fresh
  .rw[aaq (λe=>q (by have:=aap e;exact⟨this.1.symm,this.2.symm⟩))]
   exact h.look Z G R U a b c (by unfold Ys at *;lia)
def Tb.next(h:Tb hs j hs.length iu):Tb hs (j+1) 0 iu:=by
 refine⟨λp hp=>?_,λZ U R G a b c d=>?_,by have:=h.len;have e:(j+1)*hs.length=j*hs.length+hs.length:=Nat.succ_mul _ _;exact a_ this (a_ (g_ e) x_)⟩
 .refine hG λ_ _k=>?_
  obtain⟨Z,U,R,G,e,a,b,c,d⟩:=h.keys p hp;apply _k;exact⟨Z,U,R,G,e,a,b,c,by unfold Ys at *;lia⟩
 .have:=(ak.mp b).1
  exact h.look Z U R G a b c (by unfold Ys at *;lia)
def anb{hs:List F}{j k:Nat}(hz:Sz sz)(U:Xo sz f)(hg:Xo sz g)(h:f.b=g.a)(R:M[q]?=some (.lst (hs.map F.toD)))(hj:hs[j]?=some f)(hk:hs[k]?=some g) :
 Ew.den W [a0,a1,D.ref q,a3,a4,D.int j,D.int k,a7] M=.ok (.vl ((f.comp g).r.map nD)) M:=by
 have G:(f.r.map nD).length<=100000:=by rw[dw,U.len];have:=hz f.a;exact a_ this.2 (by decide)
 unfold Ew;rw[aae (ds:=f.r.map nD) (M1:=M) (g:=λd=>match d with|.int i=>nD (g.r.getD i.toNat 0)|_=>.non) (by simp[Pg R hj,am4,Ei]) G (λx hx=>by
  refine hG λ_ _k=>?_
  obtain⟨y,hy,rfl⟩:=bw.mp hx;apply _k;have Z:y<g.r.length:=by rw[hg.len,<- h];exact U.ran y hy
  exact⟨_,rfl,by simp[Pg R hk,am4,nD,am5 M g.r Z]⟩)]
 simp[F.comp,nD]
def afy(hz:Sz sz)(hi:Inv sz hs)(hl:hs.length<=5)(Z:M[q]?=some (.lst (hs.map F.toD)))(hr:M[r]?=some (.dT iu))(R:hs[j]?=some f)(G:hs[k]?=some g)(ht:Tb hs j k iu) :
 ∃(b7:Option D)(M':cz)(U:List (List Kx×D)),Bd.den W [a0,a1,D.ref q,a3,D.ref r,D.int j,D.int k,a7] M=.ok (.next,[a0,a1,some (.ref q),a3,some (.ref r),some (.int j),some (.int k),b7]) M' /\
  M'[r]?=some (.dT U)/\Tb hs j (k+1) U/\Up r M M':=by
 have qk:=(ak.mp R).1;have q1:=(ak.mp G).1;have hf:=hi.good f (az R);have hg:=hi.good g (az G)
 by_cases h:f.b=g.a
 .have hc:=anb (W:=W) (M:=M) (a0:=a0) (a1:=a1) (a3:=a3) (a4:=some (.ref r)) (a7:=a7) hz hf hg h Z R G
  have Hz:=am0 M (f.comp g) hs;have qq:iu.length<100000:=by
   have:=ht.len;have:j*hs.length<=5*5:=Nat.mul_le_mul (e_ (b_ qk hl)) hl
   lia
  have st:=amq (d:=.int (ent hs f g)) (b:=.tup [.int j,.int k]) hr rfl qq;refine⟨some (f.comp g).toD,_,Dd iu (ky j k) (.int (ent hs f g)),?_,ur (o:=.dT (Dd iu (ky j k) (.int (ent hs f g)))) hr,ht.put R G h,Up.set _ _ _⟩
  by_cases m:f.comp g∈hs
  .have qv:Jl .index (.ref q) [(f.comp g).toD] M=.ok (.int (pos (f.comp g) hs)) M:=by simp[Jl,V3 (qm Z),a6e,m]
   have q0:Qa .index (.ref q) M=true:=by simp[Qa,qm Z]
   have he:ent hs f g=(pos (f.comp g) hs:Int):=cj m;rw[he] at st;simp[-eq_int,Bd,Pg Z R,Pg Z G,Ur,Us,Bg,h,hc,aam,afx,Ql Z,Hz,m,q0,qv,st,he,ky]
  .have he:ent hs f g=-1:=bx m
   rw[he] at st;simp[-eq_int,Bd,Pg Z R,Pg Z G,Ur,Us,Bg,h,hc,aam,afx,Ql Z,Hz,m,st,he,ky]
 .refine⟨a7,M,iu,?_,hr,ht.skip R G h,Up.refl r M⟩
  simp[-eq_int,Bd,Pg Z R,Pg Z G,Ur,Us,Bg,h]
def ay7(hz:Sz sz)(hi:Inv sz hs)(hl:hs.length<=5)(hq:M[q]?=some (.lst (hs.map F.toD)))(hr:M[r]?=some (.dT []))(qq:q≠r) :
 ∃(G:Env)(M':cz)(Z:List (List Kx×D)),Ez.den W [a0,a1,D.ref q,a3,D.ref r,a5,a6,a7] M=.ok (.next,G) M'/\G[2]?=some (some (.ref q))/\G[3]?=some a3/\G[4]?=some (some (.ref r))/\G.length=8 /\
  M'[r]?=some (.dT Z)/\Tb hs hs.length 0 Z/\Up r M M':=by
 unfold Ez;refine hG λ_ _k=>?_
 have q2:∀(M':cz),Up r M M'->rz .len [.ref q] M'=.ok (.int hs.length) M':=λM' u=>Ko (by rw[u.oth q qq];exact hq)
 obtain⟨G,M',e,b5,R,U,Z,rfl,h1,h2,h3⟩:=zx (W:=W) (t:=.name 5) (b:=Ey) (it:=.blt .len (.o (.v 2))) (n:=hs.length) (ρ:=[a0,a1,D.ref q,a3,D.ref r,a5,a6,a7]) (M:=M) (M1:=M) (by simp[Ko hq]) (a_ hl (by decide))
  (λj ρ M'=>∃(b5 R U:Option D)(Z:List (List Kx×D)),ρ=[a0,a1,some (.ref q),a3,some (.ref r),b5,R,U]/\M'[r]?=some (.dT Z)/\Tb hs j 0 Z/\Up r M M')
  ⟨a5,a6,a7,[],rfl,hr,⟨λp hp=>by simp at hp,λj' k' f g a b c d=>by unfold Ys at d;lia,by simp⟩,Up.refl r M⟩
  (λj ρ M1 hj hI=>by
   refine hG λ_ _k=>?_
   obtain⟨b5,R,U,Z,rfl,g1,g2,g3⟩:=hI;apply _k;have qk:M1[q]?=some (.lst (hs.map F.toD)):=by rw[g3.oth q qq];exact hq
   refine hG λ_ _k=>?_
   obtain⟨q3,M2,e2,c6,c7,q1,rfl,k1,k2,k3⟩:=zx (W:=W) (t:=.name 6) (b:=Bd) (it:=.blt .len (.o (.v 2))) (n:=hs.length) (ρ:=[a0,a1,D.ref q,a3,D.ref r,D.int j,R,U]) (M:=M1) (M1:=M1) (by simp[Ko qk]) (a_ hl (by decide))
    (λk ρ M'=>∃(R U:Option D)(Z:List (List Kx×D)),ρ=[a0,a1,some (.ref q),a3,some (.ref r),some (.int j),R,U]/\M'[r]?=some (.dT Z)/\Tb hs j k Z/\Up r M1 M')
    ⟨R,U,Z,rfl,g1,g2,Up.refl r M1⟩
    (λk ρ M2 hk hI=>by
     refine hG λ_ _k=>?_
     obtain⟨R,U,Z,rfl,k1,k2,k3⟩:=hI;apply _k;have q0:M2[q]?=some (.lst (hs.map F.toD)):=by rw[k3.oth q qq];exact qk
     refine hG λ_ _k=>?_
     obtain⟨c7,M3,qv,e3,p3,t3,u3⟩:=afy (W:=W) (M:=M2) (a0:=a0) (a1:=a1) (a3:=a3) (a7:=U) hz hi hl q0 k1 (show hs[j]?=some hs[j] by simp[hj]) (show hs[k]?=some hs[k] by simp[hk]) k2;apply _k;exact⟨_,.next,_,M3,rfl,e3,.inl rfl,_,c7,qv,rfl,p3,t3,k3.trans u3⟩)
   apply _k;exact⟨_,.next,_,M2,rfl,by simp[Ey,Jv,e2],  .inl rfl,some (.int j),c6,c7,q1,rfl,k1,k2.next,g3.trans k3⟩)
 apply _k;exact⟨_,M',Z,e,rfl,rfl,rfl,rfl,h1,h2,h3⟩
structure Lp(sz:Nat->Nat)(K:Nat)(hs:List F)(iu:List (List Kx×D)):Prop where
 hz:Sz sz
 inv:Inv sz hs
 cl:Ny hs
 len:hs.length<=5
 k1:1<=K
 k3:K<=3
 anc:∀f∈hs,f.a<K
 ajt:∀f∈hs,f.b<K
 tb:Tb hs hs.length 0 iu
theorem acp:∀(xs:Yf)(a:Nat),∃v:Nat,(xs.map λ(x:Nat)=>(x:Int)).foldl (λm x=>if m<x then x else m) (a:Int)=(v:Int)/\a<=v/\(∀x∈xs,x<=v)/\(v=a\/v∈xs)
 |[],a=>⟨a,rfl,bf _,by simp,.inl rfl⟩
 |x::xs,a=>by
  refine hG λ_ _k=>?_
  obtain⟨v,e,Z,G,U⟩:=acp xs (if a<x then x else a);apply _k;refine⟨v,?_,?_,λy R=>?_,?_⟩
  .rw[ig,List.foldl_cons,<- e]
   congr 1
   by_cases q:a<x
   .have:(a:Int)<(x:Int):=m_ q
    simp[q]
   .have:¬(a:Int)<(x:Int):=by lia
    simp[q]
  .split at Z<;>omega
  .rcases bz.mp R with q|q
   .subst q;split at Z<;>omega
   .exact G y q
  .rcases U with q|q
   .by_cases w:a<x
    .right;rw[cj w] at q;subst q;simp
    .left;rw[bx w] at q;exact q
   .right;exact bh _ q
theorem acq:∀xs:List Nat,Th (xs.map nD)=some (xs.map λ(x:Nat)=>(x:Int))
 |[]=>rfl|x::xs=>by simp[nD,Th,show Th (xs.map nD)=_ from acq xs]
def ane(h:xs≠[]):∃v:Nat,rz .max [.vl (xs.map nD)] M=.ok (.int v) M/\(∀x∈xs,x<=v)/\v∈xs:=by
 refine hG λ_ _k=>?_
 obtain⟨a,r,rfl⟩:∃a r,xs=a::r:=List.exists_cons_of_ne_nil h;obtain⟨v,e,U,Z,G⟩:=acp r a;apply _k;refine⟨v,?_,λx R=>?_,?_⟩
 .have:=acq (a::r)
  simp only[rz,asz,ajm,qw,this];simp only[ig,ayr,qw,wy,Res.Cr,e]
 .rcases bz.mp R with q|q
  .subst q;exact U
  .exact Z x q
 .rcases G with q|q
  .rw[q];simp
  .exact bh _ q
def max2(a b:Nat):rz .max [.int a,.int b] M=.ok (nD (max a b)) M:=by
 by_cases h:a<b
 .have Z:(a:Int)<b:=m_ h
  have e:max a b=b:=by lia
  simp[rz,h,nD,e]
 .have Z:¬(a:Int)<b:=by lia
  have e:max a b=a:=by lia
  simp[rz,h,nD,e]
noncomputable def toF:D->F
 |.tup [.int a,.int b,.tup r]=>⟨a.toNat,b.toNat,r.map λd=>match d with|.int i=>i.toNat|_=>0⟩
 |_=>⟨0,0,[]⟩
def Vk(f:F):toF f.toD=f:=by
 obtain⟨a,b,r⟩:=f;show F.mk a b ((r.map nD).map λd=>match d with|.int i=>i.toNat|_=>0)=F.mk a b r;rw[Bl]
 conv=>rhs;rw[<- List.map_id r]
 exact nq _ (wu λx _=>rfl)
def anf{hs:List F}(hl:hs.length<=100000)(G:M[q]?=some (.lst (hs.map F.toD))) :
 Fb.den W [a0,a1,D.ref q,a3,a4,a5,a6,a7] M=.ok (.vl ((hs.map λf=>max f.a f.b).map nD)) M:=by
 unfold Fb;rw[Ao (d:=.ref q) (ds:=hs.map F.toD) (M1:=M) (g:=λd=>nD (max (toF d).a (toF d).b)) (by simp) (qm G) (by simpa using hl) (λx Z=>by
  refine hG λ_ _k=>?_
  obtain⟨f,U,rfl⟩:=bw.mp Z;apply _k;exact⟨_,am8 _ _ _ _ _,by simp[max2,Vk]⟩)]
 simp[Vk]
def aju{hs:List F}(G:ρ[2]?=some (some (.ref q)))(Z:ρ.length=8)(hl:hs.length<=100000)(R:M[q]?=some (.lst (hs.map F.toD))) :
 Eu.den W ρ M=.ok (.vl (hs.map eD)) M:=by
 unfold Eu;rw[Ao (d:=.ref q) (ds:=hs.map F.toD) (M1:=M) (g:=λd=>eD (toF d)) (by simp[G]) (qm R) (by simpa using hl) (λx U=>by
  refine hG λ_ _k=>?_
  obtain⟨f,hf,rfl⟩:=bw.mp U;apply _k;refine⟨_,am8 _ _ _ _ _,?_⟩;rw[Vk];simp[eD,List.getElem?_set,Z])]
 simp[Vk]
def ajv(hm:1<=m)(hz:Sz sz)(q2:Uq t f M)(hg:Good sz fs)(hl:fs.length<=3)(hd:fu M d=some (fs.map F.toD))(hq:M[q]?=some (.lst (hs.map F.toD)))(q1:q≠t)(hi:Inv sz hs)(qv:hs.length<=15)(hc:hs.length<6->Ny hs)(h0:fs=[]->hs=[]) :
 ∃(G:Env)(M':cz),Fe.den (PW m) [some (.ref t),some d,some (.ref q),a3,a4,a5,a6,a7] M=.ok (.next,G) M'/\∃(d':D)(R:Nat)(Z:List F),G=[some (.ref t),some d',some (.ref R),a3,a4,a5,a6,a7] /\
  M'[R]?=some (.lst (Z.map F.toD))/\R≠t/\Inv sz Z/\Z.length<=5/\Ny Z/\Bt M M':=by
 unfold Fe;rw[Z8];refine Ou (λn ρ M'=>∃(d:D)(fs hs:List F)(q:Nat),ρ=[some (.ref t),some d,some (.ref q),a3,a4,a5,a6,a7]/\fs.length=n/\Good sz fs/\fs.length<=3/\fu M' d=some (fs.map F.toD)/\M'[q]?=some (.lst (hs.map F.toD))/\q≠t /\
  Inv sz hs/\hs.length<=15/\(hs.length<6->Ny hs)/\(fs=[]->hs=[])/\Bt M M')
  (fun G M'=>∃(d':D)(R:Nat)(Z:List F),G=[some (.ref t),some d',some (.ref R),a3,a4,a5,a6,a7]/\M'[R]?=some (.lst (Z.map F.toD))/\R≠t/\Inv sz Z/\Z.length<=5/\Ny Z/\Bt M M') ?_ afs fs.length _ M (by unfold afs;exact c_ hl (by decide))
  ⟨d,fs,hs,q,rfl,rfl,hg,hl,hd,hq,q1,hi,qv,hc,h0,Bt.refl M⟩
 intro n ρ M1 hI;refine hG λ_ _k=>?_
 obtain⟨d,fs,hs,q,rfl,rfl,g1,g2,g3,g4,g5,g6,g7,g8,g9,U⟩:=hI;apply _k
 by_cases c:5<hs.length
 .right
  refine hG λ_ _k=>?_
  have c':(5:Int)<(hs.length:Int):=m_ c
  have Uh:fs≠[]:=λe=>by rw[g9 e] at c;simp at c
  have q3:1<=fs.length:=List.length_pos_iff.mpr Uh
  have q0:acb d none (some (-1)) M1=some (.vl (fs.dropLast.map F.toD)):=by
   have qq:afo (fs.map F.toD) none (some (-1))=fs.dropLast.map F.toD:=by
    have e2:((-1:Int)+(fs.length:Int)).toNat=fs.length-1:=by lia
    simp[afo,clip,e2,List.map_dropLast,List.dropLast_eq_take]
   cases d with
   |tup ds=>simp[fu] at g3|vl ds=>simp only[acb,g3,wy,qq]|ref n=>simp only[acb,g3,wy,qq]|_=>simp[fu] at g3
  have gd:Good sz fs.dropLast:=λf hf=>g1 f (List.dropLast_subset fs hf)
  obtain⟨Z,M2,e,p2,k2,l2,i2,b2,c2,z2⟩:=Yr (M:=M1) (m:=m) (d:=.vl (fs.dropLast.map F.toD)) hm hz gd (by simp;exact a_ g2 (by decide)) rfl;have qk:t<M1.length:=by obtain⟨n,h,_⟩:=q2;exact w6 (U t _ h)
  apply _k;refine⟨M1,.next,_,M2,fs.length-1,?_,?_,.inl rfl,by lia,.vl (fs.dropLast.map F.toD),fs.dropLast,Z,M1.length,rfl,by simp,gd,by simp;exact a_ g2 (by decide),rfl,p2,i_ qk,i2,b2,c2,z2,U.trans k2⟩
  .simp[Ko g4,c']
  .simp[-List.map_dropLast,Jw,q0,e]
 .left
  have c':¬(5:Int)<(hs.length:Int):=by lia
  exact⟨M1,by simp[Ko g4,c'],d,q,hs,rfl,g4,g5,g6,s_ c,g8 (c_ (s_ c) (by decide)),U⟩
def afz(hm:3<=m)(qv:Uq t f M):∃(K r:Nat)(sz:Nat->Nat)(hs:List F)(iu:List (List Kx×D))(M':cz),prog.call m 17 [.ref t] M=.ok (.tup [.int K,Ib hs,.ref r]) M'/\M'[r]?=some (.dT iu)/\M.length<=r/\Lp sz K hs iu/\St t f M M':=by
 rw[call_of (a_ (by decide) hm) rfl];have z0:t<M.length:=by obtain⟨n,h,_⟩:=qv;exact w6 h
 refine hG λ_ _k=>?_
 obtain⟨d,M1,fs,sz,e1,d1,n1,hz,g1,l1,s1⟩:=am3 (m:=m-1) (r_ hm) qv;obtain⟨hs,M2,e2,p2,k2,zv,i2,b2,c2,z2⟩:=Yr (M:=M1) (m:=m-1) (d:=d) (r_ (a_ (by decide) hm)) hz g1 l1 d1;apply _k;have q6:t<M1.length:=by obtain⟨n,h,_⟩:=s1.has;exact w6 h
 refine hG λ_ _k=>?_
 have s2:St t f M1 M2:=St.of s1.has k2;obtain⟨z3,M3,e3,d',q,Z,rfl,p3,q3,i3,l3,c3,k3⟩:=ajv (M:=M2) (m:=m-1) (t:=t) (f:=f) (d:=d) (fs:=fs) (hs:=hs) (q:=M1.length) (a3:=none) (a4:=none) (a5:=none) (a6:=none) (a7:=none) (r_ (a_ (by decide) hm)) hz s2.has g1 l1 (k2.fu d1) p2 (i_ q6) i2 b2 c2 z2;have s3:St t f M2 M3:=St.of s2.has k3;have q7:=s1.trans (s2.trans s3);apply _k;refine hG λ_ _k=>?_
 have q0:=anf (W:=PW (m-1)) (M:=M3) (a0:=some (.ref t)) (a1:=some d') (a3:=none) (a4:=none) (a5:=none) (a6:=none) (a7:=none) (by exact a_ l3 (by decide):Z.length<=100000) p3;obtain⟨v,ev,qk,q5⟩:=ane (M:=M3) (xs:=(Z.map λf:F=>max f.a f.b)++[0]) (by simp);have U:Fy .add (.vl ((Z.map λf:F=>max f.a f.b).map nD)) (.vl [.int 0]) M3=.ok (.vl (((Z.map λf:F=>max f.a f.b)++[0]).map nD)) M3:=by rw[Yl _ _ (by simp;exact a_ l3 (by decide))];simp[nD]
 generalize hX:(D.vl ((Z.map λf:F=>max f.a f.b).map nD))=X at q0 U;generalize hY:(D.vl (((Z.map λf:F=>max f.a f.b)++[0]).map nD))=Y at ev U;have zw:v<=2:=by
  rcases dh.mp q5 with w|w
  .refine hG λ_ _k=>?_
   obtain⟨x,R,rfl⟩:=bw.mp w;apply _k;have:=(i3.good x R).a;have:=(i3.good x R).b;lia
  .simp at w;exact a_ (f_ w) (jx _)
 have q2:za M3 (.ref q) (.vl [])=some (decide (Z=[])):=by
  simp only[za];cases Z with
  |nil=>simp[Ka,fu,p3,O5]|cons a l=>simp[Ka,fu,p3]
 apply _k;refine hG λ_ _k=>?_
 obtain⟨K,G,hK,k1,q4,ka,kb,p4,s4,l4⟩:∃(K:Nat)(G:cz),
  (Cm.iff (.cmp .eq (.v 2) (.Ia .nil)) (.o (.asg (.tg (.name 3)) (.bin .add (.i 1) (.call 14 (.p (.v 0) (.i 3)))))) .nil).den (PW (m-1)) [some (.ref t),some d',some (.ref q),some (.int (1+(v:Int))),none,none,none,none] M3
   = .ok (.next,[some (.ref t),some d',some (.ref q),some (.int K),none,none,none,none]) G/\1<=K/\K<=3/\(∀f∈Z,f.a<K)/\(∀f∈Z,f.b<K)/\G[q]?=some (.lst (Z.map F.toD))/\St t f M3 G/\G.length=M3.length:=by
  by_cases he:Z=[]
  .refine hG λ_ _k=>?_
   obtain⟨w,G,ew,lw,sw,zz⟩:=Aq (m:=m-1) (r_ (a_ (by decide) hm)) s3.has (many:=3) (by decide) (by decide);apply _k;refine⟨1+w,G,?_,x_,by lia,by simp[he],by simp[he],sw.keep q _ q3 p3,sw,zz⟩;simp[q2,he,ew]
  .refine⟨1+v,M3,?_,x_,by lia,λx R=>?_,λx R=>?_,p3,St.of s3.has (Bt.refl _),rfl⟩
   .simp[q2,he]
   .have:=qk (max x.a x.b) (ue _ (bw.mpr ⟨x,R,rfl⟩));lia
   .have:=qk (max x.a x.b) (ue _ (bw.mpr ⟨x,R,rfl⟩));lia
 have p5:(G++[.dT []])[q]?=some (.lst (Z.map F.toD)):=qt p4;have qq:=w6 p4;obtain⟨z1,M6,iu,e6,r2,r3,r4,r8,p6,t6,u6⟩:=ay7 (W:=PW (m-1)) (M:=G++[.dT []]) (q:=q) (r:=G.length) (a0:=some (.ref t)) (a1:=some d') (a3:=some (.int K)) (a5:=none) (a6:=none) (a7:=none) hz i3 l3 p5 (by simp) (h_ qq);apply _k;have zk:M6[q]?=some (.lst (Z.map F.toD)):=by rw[u6.oth q (h_ qq)];exact p5
 have q8:=aju (W:=PW (m-1)) (M:=M6) r2 r8 (by exact a_ l3 (by decide):Z.length<=100000) zk;have q1:=q7.trans s4;refine⟨K,G.length,sz,Z,iu,M6,?_,p6,q1.len,⟨hz,i3,c3,l3,k1,q4,ka,kb,t6⟩,?_⟩
 .simp only[Fn.run,Ms,Mr]
  simp[-a5v,e1,e2,e3,q0,U,ev,hK,MW.new,e6,r3,r4,q8,Hu,Ib]
 .refine q1.trans ⟨?_,?_,λa o na h=>?_⟩
  .rw[u6.len];simp
  .obtain⟨n,h,o⟩:=s4.has
   exact⟨n,by rw[u6.oth t (by have:=w6 h;exact h_ this)];exact qt h,o⟩
  .rw[u6.oth a (by have:=w6 h;exact h_ this)];exact qt h
noncomputable def pD(p:Nat×Nat):D:=.tup [.int p.1,.int p.2]
noncomputable def Meet(hs:List F)(j k:Nat):Prop:=∃f g,hs[j]?=some f/\hs[k]?=some g/\f.b=g.a
structure Ps(hs:List F)(j k:Nat)(ps:List (Nat×Nat)):Prop where
 all:∀p:Nat×Nat,p∈ps↔Meet hs p.1 p.2/\Ys j k p.1 p.2
 len:ps.length<=j*hs.length+k
def Ps.skip(h:Ps hs j k ps)(G:hs[j]?=some f)(Z:hs[k]?=some g)(n:f.b≠g.a):Ps hs j (k+1) ps:=by
 refine⟨λp=>?_,by have:=h.len;exact a_ this (w_ x_)⟩;rw[h.all p];constructor
 .exact λq=>⟨q.1,by have:=q.2;unfold Ys at *;lia⟩
 .intro q
  refine⟨q.1,?_⟩;have R:=q.2
  by_cases e:p.1=j/\p.2=k
  .refine hG λ_ _k=>?_
   obtain⟨f',U,a,b,c⟩:=q.1;rw[e.1,G] at a;rw[e.2,Z] at b;cases a;cases b;apply _k;exact absurd c n
  .unfold Ys at *;lia
def Ps.put(h:Ps hs j k ps)(Z:hs[j]?=some f)(G:hs[k]?=some g)(n:f.b=g.a):Ps hs j (k+1) (ps++[(j,k)]):=by
 refine⟨λp=>?_,by have:=h.len;simp;lia⟩;rw[dh,h.all p,jw];constructor
 .rintro(q|q)
  .exact⟨q.1,by have:=q.2;unfold Ys at *;lia⟩
  .subst q;exact⟨⟨f,g,Z,G,n⟩,by unfold Ys;lia⟩
 .intro q
  by_cases e:p.1=j/\p.2=k
  .right;exact Prod.ext e.1 e.2
  .left;exact⟨q.1,by have:=q.2;unfold Ys at *;lia⟩
def Ps.next(h:Ps hs j hs.length ps):Ps hs (j+1) 0 ps:=by
 refine⟨λp=>?_,by have:=h.len;have e:(j+1)*hs.length=j*hs.length+hs.length:=Nat.succ_mul _ _;exact a_ this (a_ (g_ e) x_)⟩;rw[h.all p];constructor
 .exact λq=>⟨q.1,by have:=q.2;unfold Ys at *;lia⟩
 .intro q
  refine⟨q.1,?_⟩;refine hG λ_ _k=>?_
  obtain⟨f,g,a,b,c⟩:=q.1;have:=(ak.mp b).1;have:=q.2;apply _k;unfold Ys at *;lia
def Yt(f:F)(M:cz):Aw (eD f) (.int 0) M=some (.int f.a):=rfl
def Yu(f:F)(M:cz):Aw (eD f) (.int 1) M=some (.int f.b):=rfl
def Rq{i:Nat}(h:hs[i]?=some f):Aw (Ib hs) (.int i) M=some (eD f):=Iw q_ (by simp[h])
def Qm:rz .len [Ib hs] M=.ok (.int hs.length) M:=by simp[rz,wz,Ib]
def Jx(x y:D)(i j:Nat)(ρ:Env):(Tg.names [i,j]).put (.tup [x,y]) ρ=some ((ρ.set i (some x)).set j (some y)):=rfl
def acr(hl:hs.length<=5)(G:M[q]?=some (.lst (ps.map pD)))(hj:hs[j]?=some f)(R:hs[k]?=some g)(hp:Ps hs j k ps) :
 ∃(M':cz)(Z:List (Nat×Nat)),Bp.den W [a0,D.ref q,D.int j,eD f,D.int k,eD g] M=.ok (.next,[a0,some (.ref q),some (.int j),some (eD f),some (.int k),some (eD g)]) M' /\
  M'[q]?=some (.lst (Z.map pD))/\Ps hs j (k+1) Z/\Up q M M':=by
 have U:=(ak.mp hj).1;have qq:=(ak.mp R).1
 by_cases h:f.b=g.a
 .have Gu:(ps.map pD).length<100000:=by
   have:=hp.len;have:j*hs.length<=5*5:=Nat.mul_le_mul (e_ (b_ U hl)) hl
   rw[dw];lia
  have ap:=Cq (d:=.tup [.int j,.int k]) G Gu;refine⟨M.set q (.lst ((ps++[(j,k)]).map pD)),ps++[(j,k)],?_,ur G,hp.put hj R h,Up.set _ _ _⟩;simp[-eq_int,Bp,Yt,Yu,Bg,h,Cu G,ap,pD]
 .refine⟨M,ps,?_,G,hp.skip hj R h,Up.refl q M⟩
  simp[-eq_int,Bp,Yt,Yu,Bg,h]
def acs(hm:1<=m)(hl:hs.length<=5) :
 ∃(M':cz)(Z:List (Nat×Nat)),prog.call m 7 [Ib hs] M=.ok (.ref M.length) M'/\M'[M.length]?=some (.lst (Z.map pD))/\Ps hs hs.length 0 Z/\Up M.length (M++[.lst []]) M':=by
 rw[call_of hm rfl];refine hG λ_ _k=>?_
 obtain⟨q0,M',e,b2,b3,G,U,Z,rfl,h1,h2,h3⟩:=Uk (W:=PW (m-1)) (t:=.names [2,3]) (b:=Dw) (it:=.v 0) (ds:=hs.map eD) (ρ:=[Ib hs,D.ref M.length,none,none,none,none]) (M:=M++[.lst []]) (M1:=M++[.lst []]) (by simp[Ib])
  (λj ρ M'=>∃(b2 b3 G U:Option D)(Z:List (Nat×Nat)),ρ=[some (Ib hs),some (.ref M.length),b2,b3,G,U]/\M'[M.length]?=some (.lst (Z.map pD))/\Ps hs j 0 Z/\Up M.length (M++[.lst []]) M')
  ⟨none,none,none,none,[],rfl,by simp,⟨λp=>by simp[Ys],by simp⟩,Up.refl _ _⟩
  (λj x ρ M1 hj hI=>by
   refine hG λ_ _k=>?_
   obtain⟨b2,b3,G,U,Z,rfl,g1,g2,g3⟩:=hI;obtain⟨f,hf,rfl⟩:∃f,hs[j]?=some f/\eD f=x:=by simpa using hj
   obtain⟨qv,M2,e2,c4,c5,qk,rfl,k1,R,k3⟩:=Uk (W:=PW (m-1)) (t:=.names [4,5]) (b:=Bp) (it:=.v 0) (ds:=hs.map eD) (ρ:=[Ib hs,D.ref M.length,D.int j,eD f,G,U]) (M:=M1) (M1:=M1) (by simp[Ib])
    (λk ρ M'=>∃(G U:Option D)(Z:List (Nat×Nat)),ρ=[some (Ib hs),some (.ref M.length),some (.int j),some (eD f),G,U]/\M'[M.length]?=some (.lst (Z.map pD))/\Ps hs j k Z/\Up M.length M1 M')
    ⟨G,U,Z,rfl,g1,g2,Up.refl _ _⟩
    (λk y ρ M2 hk hI=>by
     refine hG λ_ _k=>?_
     obtain⟨G,U,Z,rfl,k1,R,k3⟩:=hI;obtain⟨g,hg,rfl⟩:∃g,hs[k]?=some g/\eD g=y:=by simpa using hk
     obtain⟨M3,qq,e3,p3,t3,u3⟩:=acr (W:=PW (m-1)) (M:=M2) (a0:=some (Ib hs)) hl k1 hf hg R;apply _k;exact⟨_,.next,_,M3,Jx _ _ _ _ _,e3,.inl rfl,some (.int k),some (eD g),qq,rfl,p3,t3,k3.trans u3⟩)
   rw[dw] at R;apply _k;exact⟨_,.next,_,M2,Jx _ _ _ _ _,by simp[Dw,Ik,e2],.inl rfl,some (.int j),some (eD f),c4,c5,qk,rfl,k1,R.next,g3.trans k3⟩)
 rw[dw] at h2;apply _k;refine⟨M',Z,?_,h1,h2,h3⟩;simp[Fn.run,K4,K3,MW.new,Il,e]
noncomputable def bothW(hs:List F)(Z:List (List Kx×D))(x y:Int):Option D:=if x=-1 then some (.int y) else if y=-1 then some (.int x) else xu Z [.inl x,.inl y]
def ahp(hm:1<=m)(U:M[r]?=some (.dT R))(h:bothW hs R x y=some v):prog.call m 6 [.ref r,.int x,.int y] M=.ok v M:=by
 rw[call_of hm rfl];unfold bothW at h
 by_cases Z:x=-1
 .rw[cj Z] at h;cases h
  simp[Fn.run,Ij,Ii,Z]
 .rw[bx Z] at h
  by_cases G:y=-1
  .rw[cj G] at h;cases h
   simp[Fn.run,Ij,Ii,Z,G]
  .rw[bx G] at h
   simp[Fn.run,Ij,Ii,Z,G,ace U (Ym x y),h]
noncomputable def ajw(hs:List F)(c:F):Int:=if c∈hs then(pos c hs:Int) else -1
def Qn(hs:List F)(f g:F):ent hs f g=ajw hs (f.comp g):=rfl
def ahq(Z:hs.Nodup){i:Nat}(h:hs[i]?=some f):ajw hs f=i:=by have m:f∈hs:=az h;rw[ajw,cj m,afu Z h]
def Tw:∀k:List Kx,Tf (amd k)=some k:=by
 intro k;show Z5 (k.map amc)=some k
 induction k with
 |nil=>rfl|cons a l Z=>cases a<;>simp[Z5,amc,Te,Z]
theorem acu:∀Z:List (List Kx×D),Dr (Z.map λp=>amd p.1)=some (Z.map (·.1))
 |[]=>rfl|p::l=>by simp[Dr,Tw,acu l]
theorem acv:∀Z:List (Nat×Nat),Dr (Z.map pD)=some (Z.map λp=>ky p.1 p.2)
 |[]=>rfl|p::l=>by simp[Dr,pD,acv l,ky]
def ang{Z:List (List Kx×D)}(h:xu Z q=some v):∃p∈Z,p.1=q:=by
 unfold xu at h;cases e:Z.find? (λp=>decide (p.1=q)) with
 |none=>rw[e] at h;cases h|some p=>exact⟨p,List.mem_of_find?_eq_some e,by simpa using List.find?_some e⟩
section
variable{sz:Nat->Nat}{K:Nat}{hs:List F}{iu:List (List Kx×D)}(P:Lp sz K hs iu)
include P
theorem Lp.look(Z:hs[j]?=some f)(G:hs[k]?=some g)(h:f.b=g.a):xu iu (ky j k)=some (.int (ent hs f g)) :=
 P.tb.look j k f g Z G h (.inl (ak.mp Z).1)
theorem Lp.no(h:¬Meet hs j k):xu iu (ky j k)=none:=by
 apply ajr;intro p Z e;refine hG λ_ _k=>?_
 obtain⟨G,U,f,g,rfl,a,b,c,_⟩:=P.tb.keys p Z;obtain⟨rfl,rfl⟩:=aap e;apply _k;exact h ⟨f,g,a,b,c⟩
theorem Lp.kl:iu.length<=25:=by
 have:=P.tb.len;have:hs.length*hs.length<=5*5:=Nat.mul_le_mul P.len P.len
 lia
theorem Lp.plain:Dt (iu.map (·.1))=true:=by
 have:=P.kl;simp only[Dt,dw,aq,cu];refine⟨a_ this (by decide),?_⟩;rw[jb];intro k G;refine hG λ_ _k=>?_
 obtain⟨p,Z,rfl⟩:=bw.mp G;obtain⟨j,k,f,g,rfl,_⟩:=P.tb.keys p Z;apply _k;simp[ky]
theorem Lp.sm:afr iu=true:=by
 unfold afr;rw[jb];intro p Z;refine hG λ_ _k=>?_
 obtain⟨j,k,f,g,rfl,a,b,_⟩:=P.tb.keys p Z;have:=(ak.mp a).1;have:=(ak.mp b).1;have:=P.len;apply _k;simp[ky]
 lia
theorem Lp.same(h:Ps hs hs.length 0 ps):Ih (iu.map (·.1)) (ps.map λp=>ky p.1 p.2)=true:=by
 unfold Ih;rw[aq,jb,jb];constructor
 .intro x U
  refine hG λ_ _k=>?_
  obtain⟨p,Z,rfl⟩:=bw.mp U;obtain⟨j,k,f,g,rfl,a,b,c,d⟩:=P.tb.keys p Z;apply _k;rw[zm];exact⟨ky j k,bw.mpr ⟨(j,k),(h.all (j,k)).mpr ⟨⟨f,g,a,b,c⟩,d⟩,rfl⟩,by simp⟩
 .intro y R
  refine hG λ_ _k=>?_
  obtain⟨p,Z,rfl⟩:=bw.mp R;obtain⟨⟨f,g,a,b,c⟩,d⟩:=(h.all p).mp Z;obtain⟨q,G,e⟩:=ang (P.look a b c);apply _k;rw[zm];exact⟨q.1,bw.mpr ⟨q,G,rfl⟩,by simp[e]⟩
theorem Lp.Hv(h:c∈hs\/c.Qk):(ajw hs c=-1/\c.Qk)\/∃i:Nat,hs[i]?=some c/\ajw hs c=i:=by
 by_cases m:c∈hs
 .exact .inr ⟨pos c hs,aaj c m,cj m⟩
 .exact .inl ⟨bx m,h.resolve_left m⟩
theorem Lp.aza{j k l:Nat}(hj:hs[j]?=some f)(hk:hs[k]?=some g)(hl:hs[l]?=some h)(R:f.b=g.a)(e2:g.b=h.a) :
 ∃v:Int,bothW hs iu (ent hs f g) l=some (.int v)/\bothW hs iu j (ent hs g h)=some (.int v):=by
 have mf:=az hj;have mg:=az hk;have mh:=az hl;have of:=P.inv.good f mf;have og:=P.inv.good g mg;have oh:=P.inv.good h mh;have as:=afv (h:=h) of og R;rw[Qn,Qn];have nj:¬((j:Int)=-1):=by lia
 have nl:¬((l:Int)=-1):=by lia
 rcases P.Hv (P.cl f mf g mg R) with⟨x1,i1⟩|⟨u,hu,x1⟩
 .have c1:=aak (of.comp og R) i1
  have ha:f.a=g.b:=i1.1;have G:(f.comp g).comp h=h:=by rw[c1];show(idF sz f.a).comp h=h;rw[ha,e2];exact id_comp oh
  rcases P.Hv (P.cl g mg h mh e2) with⟨U,i2⟩|⟨w,hw,U⟩
  .have c2:=aak (og.comp oh e2) i2
   have Z:f.comp (g.comp h)=f:=by rw[c2];show f.comp (idF sz g.a)=f;rw[<- R];exact comp_id of
   have fh:f=h:=by rw[<- Z,<- as,G]
   have jl:j=l:=by rw[<- afu P.inv.nd hj,<- afu P.inv.nd hl,fh]
   refine⟨l,by simp[bothW,x1],?_⟩;rw[U,bothW,bx nj,cj rfl,jl]
  .have nw:¬((w:Int)=-1):=by lia
   refine⟨l,by simp[bothW,x1],?_⟩;rw[U,bothW,bx nj,bx nw];have:=P.look hj hw (show f.b=(g.comp h).a from R);rw[Qn,<- as,G,ahq P.inv.nd hl] at this;exact this
 .have nu:¬((u:Int)=-1):=by lia
  have lu:=P.look hu hl (show(f.comp g).b=h.a from e2);rcases P.Hv (P.cl g mg h mh e2) with⟨U,i2⟩|⟨w,hw,U⟩
  .have c2:=aak (og.comp oh e2) i2
   have Z:f.comp (g.comp h)=f:=by rw[c2];show f.comp (idF sz g.a)=f;rw[<- R];exact comp_id of
   refine⟨j,?_,?_⟩
   .rw[x1,bothW,bx nu,bx nl]
    rw[Qn,as,Z,ahq P.inv.nd hj] at lu;exact lu
   .rw[U,bothW,bx nj,cj rfl]
  .have nw:¬((w:Int)=-1):=by lia
   refine⟨ajw hs ((f.comp g).comp h),?_,?_⟩
   .rw[x1,bothW,bx nu,bx nl];exact lu
   .rw[U,bothW,bx nj,bx nw]
    have:=P.look hj hw (show f.b=(g.comp h).a from R);rw[Qn,<- as] at this;exact this
end
def ata(hm:1<=m)(P:Lp sz K hs iu):prog.call m 9 [.int K,Ib hs] M=.ok .non M:=by
 rw[call_of hm rfl];refine hG λ_ _k=>?_
 obtain⟨qq,M',e,⟨Z,rfl⟩,rfl⟩:=acg (W:=PW (m-1)) (t:=.name 2) (b:=Es) (it:=.v 1) (ds:=hs.map eD) (ρ:=[D.int K,Ib hs,none]) (M:=M) (M1:=M) (by simp[Ib])
  (λj ρ M'=>(∃Z:Option D,ρ=[some (.int K),some (Ib hs),Z])/\M'=M) ⟨⟨none,rfl⟩,rfl⟩
  (λj x ρ M1 hj hI=>by
   refine hG λ_ _k=>?_
   obtain⟨⟨Z,rfl⟩,rfl⟩:=hI;obtain⟨f,hf,rfl⟩:∃f,hs[j]?=some f/\eD f=x:=by simpa using hj
   have mf:=az hf;have R:=P.anc f mf;have h2:=P.ajt f mf;apply _k;refine⟨_,.next,_,M1,rfl,?_,.inl rfl,⟨some (eD f),rfl⟩,rfl⟩;have U:(f.a:Int)<K:=m_ R
   have G:(f.b:Int)<K:=m_ h2
   have z1:(0:Int)<=(f.a:Int):=q_
   have z2:(0:Int)<=(f.b:Int):=q_
   simp[Es,Yt,Yu,R,h2,U,G,z1,z2])
 apply _k;have k1:(1:Int)<=K:=by have:=P.k1;exact n_ this
 have k3:(K:Int)<=3:=by have:=P.k3;exact n_ this
 have l5:¬(5:Int)<(hs.length:Int):=by have:=P.len;lia
 simp[Fn.run,Mj,Mi,k1,k3,Qm,l5,Js,e]
def azb{j k:Nat}(hm:1<=m)(P:Lp sz K hs iu)(hj:hs[j]?=some f)(hk:hs[k]?=some g)(h:f.b=g.a):prog.call m 8 [Ib hs,.int (ent hs f g),.int f.a,.int g.b] M=.ok (.bl true) M:=by
 rw[call_of hm rfl,Qn];have mf:=az hj;have mg:=az hk;rcases P.Hv (P.cl f mf g mg h) with⟨U,i1⟩|⟨u,R,U⟩
 .have ha:f.a=g.b:=i1.1
  simp[Fn.run,Er,Ep,U,ha]
 .have Z:=(ak.mp R).1
  have nu:¬((u:Int)=-1):=by lia
  have z:(0:Int)<=(u:Int):=q_
  have G:(u:Int)<(hs.length:Int):=m_ Z
  have e:za M (eD (f.comp g)) (.tup [.int f.a,.int g.b])=some true:=by show O5 (Ka M 5) [.int f.a,.int g.b] [.int f.a,.int g.b]=some true;rw[Du (Kl M 4 _ _) (Du (Kl M 4 _ _) (show O5 (Ka M 5) [] []=some true from rfl))];simp
  simp[Fn.run,Er,Ep,U,nu,z,Z,G,Qm,Rq R,e]
def atb(hm:2<=m)(P:Lp sz K hs iu)(hr:M[r]?=some (.dT iu)):∃M',prog.call m 10 [Ib hs,.ref r] M=.ok .non M'/\Bt M M'/\M'.length=M.length+1:=by
 rw[call_of (a_ (by decide) hm) rfl];refine hG λ_ _k=>?_
 obtain⟨M1,Z,e1,p1,G,u1⟩:=acs (M:=M) (m:=m-1) (hs:=hs) (r_ hm) P.len;apply _k;have k1:Bt M M1:=λa o h=>by rw[u1.oth a (by have:=w6 h;exact h_ this)];exact qt h
 refine hG λ_ _k=>?_
 have r1:=k1 r _ hr;have qq:(keysOf M1 (.ref r)).bind Dr=some (iu.map (·.1)):=by simp only[keysOf,r1,qw,acu]
 have U:(keysOf M1 (.ref M.length)).bind Dr=some (Z.map λp=>ky p.1 p.2):=by simp only[keysOf,p1,fu,qw,acv]
 have Gu:Dt (Z.map λp=>ky p.1 p.2)=true:=by
  have:=G.len;have:hs.length*hs.length<=5*5:=Nat.mul_le_mul P.len P.len
  simp only[Dt,dw,aq,cu];refine⟨by lia,?_⟩;rw[jb];intro k hk;refine hG λ_ _k=>?_
  obtain⟨p,hp,rfl⟩:=bw.mp hk;apply _k;simp[ky]
 have qk:(Ex.V0 (.v 1) (.v 2)).den (PW (m-1)) [some (Ib hs),some (.ref r),some (.ref M.length),none,none] M1=.ok (.bl false) M1:=by rw[Yj];simp only[ag9,List.getElem?_cons_succ,List.getElem?_cons_zero,Res.Am,qq,P.plain,U,Gu,P.same G,jn,m6]
 obtain⟨qv,M',e,⟨b3,R,rfl⟩,rfl⟩:=Kd (W:=PW (m-1)) (t:=.names [3,4]) (b:=Gd) (it:=.v 2) (d:=.ref M.length) (ds:=Z.map pD) (ρ:=[Ib hs,D.ref r,D.ref M.length,none,none]) (M:=M1) (M1:=M1) (by simp) (qm p1)
  (λj ρ M'=>(∃b3 R:Option D,ρ=[some (Ib hs),some (.ref r),some (.ref M.length),b3,R])/\M'=M1) ⟨⟨none,none,rfl⟩,rfl⟩ (λi ρ M h=>by rw[h.2];exact qm p1)
  (λi x ρ M2 hx hI=>by
   refine hG λ_ _k=>?_
   obtain⟨⟨b3,R,rfl⟩,rfl⟩:=hI;obtain⟨p,hp,rfl⟩:∃p,Z[i]?=some p/\pD p=x:=by simpa using hx
   obtain⟨⟨f,g,a,b,c⟩,d⟩:=(G.all p).mp (az hp);apply _k;refine⟨_,.next,_,M2,Jx _ _ _ _ _,?_,.inl rfl,⟨some (.int p.1),some (.int p.2),rfl⟩,rfl⟩;have lk:=ace r1 (Ym p.1 p.2);rw[show([.inl (p.1:Int),.inl (p.2:Int)]:List Kx)=ky p.1 p.2 from rfl,P.look a b c] at lk;simp[Gd,lk,Rq a,Rq b,Yt,Yu,azb (show 1<=m-1 by exact r_ hm) P a b c])
 apply _k;refine⟨M',?_,k1,by rw[u1.len];simp⟩;simp[Fn.run,O7,O6,e1,qk,K5,e]
def atc(hm:2<=m)(P:Lp sz K hs iu)(hr:M[r]?=some (.dT iu)):∃M',prog.call m 11 [Ib hs,.ref r] M=.ok .non M'/\Bt M M'/\M'.length=M.length+1:=by
 rw[call_of (a_ (by decide) hm) rfl];refine hG λ_ _k=>?_
 obtain⟨M1,ps,e1,p1,t1,u1⟩:=acs (M:=M) (m:=m-1) (hs:=hs) (r_ hm) P.len;apply _k;have k1:Bt M M1:=λa o h=>by rw[u1.oth a (by have:=w6 h;exact h_ this)];exact qt h
 refine hG λ_ _k=>?_
 have r1:=k1 r _ hr;have hl:=P.len;obtain⟨q0,M',e,⟨b3,b4,R,Z,G,rfl⟩,rfl⟩:=Kd (W:=PW (m-1)) (t:=.names [3,4]) (b:=Et) (it:=.v 2) (d:=.ref M.length) (ds:=ps.map pD) (ρ:=[Ib hs,D.ref r,D.ref M.length,none,none,none,none,none]) (M:=M1) (M1:=M1) (by simp) (qm p1)
  (λj ρ M'=>(∃b3 b4 R Z G:Option D,ρ=[some (Ib hs),some (.ref r),some (.ref M.length),b3,b4,R,Z,G])/\M'=M1) ⟨⟨none,none,none,none,none,rfl⟩,rfl⟩ (λi ρ M h=>by rw[h.2];exact qm p1)
  (λi x ρ M2 hx hI=>by
   refine hG λ_ _k=>?_
   obtain⟨⟨b3,b4,R,Z,G,rfl⟩,rfl⟩:=hI;obtain⟨p,hp,rfl⟩:∃p,ps[i]?=some p/\pD p=x:=by simpa using hx
   obtain⟨⟨f,g,a,b,c⟩,d⟩:=(t1.all p).mp (az hp);obtain⟨q1,M3,e3,⟨c5,c6,c7,rfl⟩,rfl⟩:=zx (W:=PW (m-1)) (t:=.name 5) (b:=Cz) (it:=.blt .len (.o (.v 0))) (n:=hs.length) (ρ:=[Ib hs,D.ref r,D.ref M.length,D.int p.1,D.int p.2,R,Z,G]) (M:=M2) (M1:=M2) (by simp[Qm]) (a_ hl (by decide))
    (λj ρ M'=>(∃R Z G:Option D,ρ=[some (Ib hs),some (.ref r),some (.ref M.length),some (.int p.1),some (.int p.2),R,Z,G])/\M'=M2) ⟨⟨R,Z,G,rfl⟩,rfl⟩
    (λl ρ M4 qv hI=>by
     refine hG λ_ _k=>?_
     obtain⟨⟨R,Z,G,rfl⟩,rfl⟩:=hI;have U:hs[l]?=some hs[l]:=by simp[qv]
     have Xu:=axc r1 (Ym p.2 l);rw[show([.inl (p.2:Int),.inl (l:Int)]:List Kx)=ky p.2 l from rfl] at Xu;apply _k
     by_cases q:g.b=hs[l].a
     .rw[P.look b U q] at Xu
      obtain⟨v,v1,v2⟩:=P.aza a b U c q;have qk:=ace r1 (Ym p.1 p.2);rw[show([.inl (p.1:Int),.inl (p.2:Int)]:List Kx)=ky p.1 p.2 from rfl,P.look a b c] at qk;have qq:=ace r1 (Ym p.2 l);rw[show([.inl (p.2:Int),.inl (l:Int)]:List Kx)=ky p.2 l from rfl,P.look b U q] at qq;refine⟨_,.next,_,M4,rfl,?_,.inl rfl,⟨some (.int l),some (.int v),some (.int v),rfl⟩,rfl⟩;simp[Cz,Xu,qk,qq,ahp (show 1<=m-1 by exact r_ hm) r1 v1,ahp (show 1<=m-1 by exact r_ hm) r1 v2]
     .rw[P.no (λ⟨g',h',x,y,z⟩=>by rw[b] at x;rw[U] at y;cases x;cases y;exact q z)] at Xu
      refine⟨_,.cont,_,M4,rfl,?_,.inr rfl,⟨some (.int l),Z,G,rfl⟩,rfl⟩;simp[Cz,Xu])
   apply _k;refine⟨_,.next,_,M3,Jx _ _ _ _ _,?_,.inl rfl,⟨some (.int p.1),some (.int p.2),c5,c6,c7,rfl⟩,rfl⟩;simp[Et,Jt,e3])
 apply _k;refine⟨M',?_,k1,by rw[u1.len];simp⟩;simp[Fn.run,Mm,Ml,e1,Ju,e]
noncomputable def Made(n r K:Nat)(hs:List F)(Z:List (List Kx×D))(M:cz):Prop:=M[n]?=some (.ins 2 [(2,.int K),(1,Ib hs),(0,.ref r)])/\M[r]?=some (.dT Z)
def atd(hm:3<=m)(P:Lp sz K hs G)(U:M[r]?=some (.dT G))(hn:M[n]?=some (.ins 2 [])) :
 ∃M' r',prog.call m 0 [.ref n,.int K,Ib hs,.ref r] M=.ok .non M'/\Made n r' K hs G M'/\M.length<=r'/\r'<M'.length/\(∀(a:Nat)(o:MO),a≠n->M[a]?=some o->M'[a]?=some o):=by
 rw[call_of (a_ (by decide) hm) rfl];refine hG λ_ _k=>?_
 have d1:=ata (M:=M) (m:=m-1) (r_ (a_ (by decide) hm)) P;obtain⟨M1,e1,k1,l1⟩:=atb (M:=M) (m:=m-1) (r_ hm) P U;obtain⟨Z,e2,k2,l2⟩:=atc (M:=M1) (m:=m-1) (r_ hm) P (k1 r _ U);have k:=k1.trans k2;have R:=k n _ hn;have r2:=k r _ U;have qk:r≠n:=λe=>by rw[e,hn] at U;cases U
 have s1:Q6 (.ref n) 2 (.int K) Z=some (Z.set n (.ins 2 [(2,.int K)])):=by simp[Q6,R,Uj]
 have n3:=ur (o:=.ins 2 [(2,.int K)]) R;have s2:Q6 (.ref n) 1 (Ib hs) (Z.set n (.ins 2 [(2,.int K)]))=some (Z.set n (.ins 2 [(2,.int K),(1,Ib hs)])):=by simp[Q6,n3,Uj]
 have n4:=ur (o:=.ins 2 [(2,.int K),(1,Ib hs)]) R;apply _k;have r4:(Z.set n (.ins 2 [(2,.int K),(1,Ib hs)]))[r]?=some (.dT G):=by rw[qp (j5 qk)];exact r2
 have dc:rz .dict [.ref r] (Z.set n (.ins 2 [(2,.int K),(1,Ib hs)]))=.ok (.ref Z.length) (Z.set n (.ins 2 [(2,.int K),(1,Ib hs)])++[.dT G]):=by simp[rz,r4,P.sm,MW.new]
 have n5:(Z.set n (.ins 2 [(2,.int K),(1,Ib hs)])++[.dT G])[n]?=some (.ins 2 [(2,.int K),(1,Ib hs)]):=qt n4;have s3:Q6 (.ref n) 0 (.ref Z.length) (Z.set n (.ins 2 [(2,.int K),(1,Ib hs)])++[.dT G])=some ((List.set Z n (MO.ins 2 [(2,.int K),(1,Ib hs)])++[MO.dT G]).set n (MO.ins 2 [(2,.int K),(1,Ib hs),(0,.ref Z.length)])):=by simp[Q6,n5,Uj]
 have qq:=w6 R;refine⟨_,Z.length,?_,⟨ur (o:=.ins 2 [(2,.int K),(1,Ib hs),(0,.ref Z.length)]) n5,?_⟩,by lia,by simp,λa o na h=>?_⟩
 .simp[Fn.run,Jr,Jq,d1,e1,e2,s1,s2,dc,s3]
 .rw[qp (h_ qq)]
  rw[jc (by simp)];simp
 .rw[qp (j5 na)]
  exact qt (by rw[qp (j5 na)];exact k a o h)
end K54
namespace L2
open PySem PySem.Spec PyProof.Rows
abbrev Key:=Sum Int Str
noncomputable def Wc:Key->Value->Bool
 |.inl k,v=>Value.isInt k v|.inr x,v=>Value.isStrOf x v
noncomputable def bdm(w:World):Key->Int
 |.inl k=>hashInt k|.inr x=>hashStr w x
theorem Bc:∀{k:Key}{v:Value},Wc k v=true->(∃i t,k=Sum.inl i/\v=Value.int i t)\/(∃x t,k=Sum.inr x/\v=Value.str x t)
 |.inl i,v,h=>by
  obtain⟨t,e⟩:=Value.isInt_shape (k:=i) (v:=v) h;exact .inl ⟨i,t,rfl,e⟩
 |.inr x,v,h=>by
  obtain⟨t,e⟩:=Value.isStrOf_shape (x:=x) (v:=v) h;exact .inr ⟨x,t,rfl,e⟩
def ajx(i:Int)(t:Tok):Wc (.inl i) (.int i t)=true:=by simp[Wc,Value.isInt]
def ajy(x:Str)(t:Tok):Wc (.inr x) (.str x t)=true:=by simp[Wc,Value.isStrOf]
def azc(a b:Int):decide ((Sum.inl a:Key)=Sum.inl b)=(a==b):=by
 by_cases e:a=b
 .subst e;simp
 .have h:¬(Sum.inl a:Key)=Sum.inl b:=λq=>e (Sum.inl.inj q)
  rw[Aj h];exact(qz.mpr e).symm
def azd(a b:Str):decide ((Sum.inr a:Key)=Sum.inr b)=decide (a=b):=by
 by_cases e:a=b
 .subst e;simp
 .have h:¬(Sum.inr a:Key)=Sum.inr b:=λq=>e (Sum.inr.inj q)
  rw[Aj h,Aj e]
def aze(a:Int)(b:Str):decide ((Sum.inl a:Key)=Sum.inr b)=false:=Aj (λq=>nomatch q)
def azf(a:Str)(b:Int):decide ((Sum.inr a:Key)=Sum.inl b)=false:=Aj (λq=>nomatch q)
noncomputable def o5(prog:Program)(w:World):PySem.KeyKind prog w Key where
 is:=Wc
 hash:=bdm w
 inj:=λv a b R G=>by
  rcases Bc R with⟨i,t,rfl,rfl⟩|⟨x,t,rfl,rfl⟩
  .rcases Bc G with⟨j,u,rfl,e⟩|⟨y,u,rfl,e⟩
   .injection e with e1 _;rw[e1]
   .exact nomatch e
  .rcases Bc G with⟨j,u,rfl,e⟩|⟨y,u,rfl,e⟩
   .exact nomatch e
   .injection e with e1 _;rw[e1]
 byValue:=λk v h=>by rcases Bc h with⟨i,t,rfl,rfl⟩|⟨x,t,rfl,rfl⟩<;>rfl
 pyHash:=λZ h=>by
  rcases Bc Z with⟨i,t,rfl,rfl⟩|⟨x,t,rfl,rfl⟩
  .exact wpAny_pyHash_int h
  .exact wpAny_pyHash_str h
 eqBool:=λU Z h=>by
  rcases Bc U with⟨i,t,rfl,rfl⟩|⟨x,t,rfl,rfl⟩
  .rcases Bc Z with⟨j,u,rfl,rfl⟩|⟨y,u,rfl,rfl⟩
   .rw[azc] at h;exact wpAny_eqBool_int h
   .rw[aze] at h;exact SeqAt.EqAt.int_str i t y u _ _ _ _ h
  .rcases Bc Z with⟨j,u,rfl,rfl⟩|⟨y,u,rfl,rfl⟩
   .rw[azf] at h;exact SeqAt.EqAt.str_int x t j u _ _ _ _ h
   .rw[azd] at h;exact wpAny_eqBool_str h
 «strs»:=λk x t v h=>by
  rcases Bc h with⟨i,u,rfl,e⟩|⟨y,u,rfl,e⟩
  .exact nomatch e
  .injection e with e1 _
   subst e1;cases v<;>rfl
def acw(prog:Program)(w:World)(i:Int)(t:Tok):(o5 prog w).is (.inl i) (.int i t)=true:=ajx i t
def acx(prog:Program)(w:World)(x:Str)(t:Tok):(o5 prog w).is (.inr x) (.str x t)=true:=ajy x t
end L2
namespace L2
open PySem PySem.Spec PyProof.Rows
set_option genInjectivity true in
inductive V where
 |non|bl (b:Bool)|int (i:Int)|str (x:Str)|byt (b:Array UInt8)|flt (b:UInt64)|ref (a:Addr)|ty (n:String)
 deriving DecidableEq
def RelV:V->Value->Prop
 |.non,u=>u=Value.none|.bl b,u=>u=Value.bool b|.int i,u=>∃t,u=Value.int i t|.str x,u=>∃t,u=Value.str x t|.byt b,u=>∃t,u=Value.bytes b t|.flt b,u=>∃t,u=Value.float b t|.ref a,u=>u=Value.ref a|.ty n,u=>u=Value.type n
abbrev Vals:List V->List Value->Prop:=Paired RelV
theorem Vals.length(r:Vals xs us):xs.length=us.length:=Paired.length r
theorem Vals.get:∀{xs:List V}{us:Zl}{i:Nat}{x:V},Vals xs us->xs[i]?=some x->∃u,us[i]?=some u/\RelV x u
 |_,_,_,_,.nil,e=>by simp at e|_,_,0,_,.cons r _,e=>by simp at e;subst e;exact⟨_,rfl,r⟩
 |_,_,i+1,x,.cons _ t,e=>by
  obtain⟨u,G,Z⟩:=Vals.get (i:=i) (x:=x) t (by simpa using e);exact⟨u,by simpa using G,Z⟩
theorem Vals.set{x:V}{u:Value}(r:RelV x u):∀{xs:List V}{us:Zl}(i:Nat),Vals xs us->Vals (xs.set i x) (us.set i u)
 |_,_,_,.nil=>.nil|_,_,0,.cons _ t=>.cons r t|_,_,i+1,.cons q t=>.cons q (Vals.set r i t)
theorem Vals.append:∀{xs ys:List V}{us Z:Zl},Vals xs us->Vals ys Z->Vals (xs++ys) (us++Z)
 |_,_,_,_,.nil,s=>s|_,_,_,_,.cons r t,s=>.cons r (Vals.append t s)
theorem Vals.take:∀{xs:List V}{us:Zl}(n:Nat),Vals xs us->Vals (xs.take n) (us.take n)
 |_,_,0,_=>.nil|_,_,_+1,.nil=>.nil|_,_,n+1,.cons r t=>.cons r (Vals.take n t)
theorem Vals.drop:∀{xs:List V}{us:Zl}(n:Nat),Vals xs us->Vals (xs.drop n) (us.drop n)
 |_,_,0,r=>r|_,_,_+1,.nil=>.nil|_,_,n+1,.cons _ t=>Vals.drop n t
def Lg:Option V->Option Value->Prop
 |some v,some u=>RelV v u|none,none=>True|_,_=>False
def KV{Z:Type}:List (Z×V)->List (Z×Value)->Prop:=Paired λ(p:Z×V) (q:Z×Value)=>p.1=q.1/\RelV p.2 q.2
noncomputable def kV:Key->V
 |.inl i=>.int i|.inr x=>.str x
inductive HO where
 |lst (xs:List V)
 |tup (xs:List V)
 |dK (iu:List (Key×V))|dT (iu:List (List Key×V))
 |set (S:Int->Bool) (n:Nat)
 |ins (C dx:Addr) (fs:List (Str×V))
 |own (x:Addr)
 |xd (fs:List (Str×V))
 |met (f x:Addr)
 |Ln (lo hi:Int)
 |N6 (o:Obj) (u:HO)
 |tbl (ps:Q1)
 |ext (φ:Heap->Prop)
abbrev Hp:=Addr->Option HO
noncomputable def upd(H:Hp)(a:Addr)(o:HO):Hp:=λb=>if b=a then some o else H b
def yg:upd H a o a=some o:=by unfold upd;rw[cj rfl]
def kh(h:b≠a):upd H a o b=H b:=by unfold upd;rw[bx h]
def anh{H:Hp}(h:H a=some o)(h':H b=some u)(d:o≠u):a≠b:=by intro e;subst e;rw[h] at h';exact d (jt h')
def lq{H:Hp}(h:H a=some o)(h':H b=none):a≠b:=by intro e;subst e;rw[h] at h';cases h'
section
variable(P:Program)(w:World)
def Xy(h:Heap)(a:Addr)(items:Q1):Prop:=∃o,h.get? a=some o/\o.cls=.type "tuple"/\∃n,o.data=.seq items n/\o.dict=none
def Xy.is(x:Xy h a items):IsTup h a items:=let ⟨o,h1,h2,n,h3,_⟩:=x;⟨o,h1,h2,n,h3⟩
def Xy.new(h:Heap)(items:Q1):Xy (h.push { cls:=.type "tuple",data:=.seq items }) h.objs.size items:=⟨_,bc _ rfl,rfl,_,rfl,rfl⟩
def Ay(H:Hp)(h:Heap)(a:Addr):HO->Prop
 |.lst Z=>Z.length<=sizeLine/\∃(U:Zl)(n:Nat),Vals Z U/\h.get? a=some { cls:=.type "list",data:=.seq U.toArray n }|.tup Z=>Z.length<=sizeLine/\∃U:List Value,Vals Z U/\Xy h a U.toArray|.dK iu=>iu.length<=sizeLine/\(a==sysModules)=false/\∃R,KV iu R/\h.DictOf (o5 P w) a R
 |.dT iu=>iu.length<=sizeLine/\(a==sysModules)=false/\∃Z:List (List Key×Addr×Value),
  Paired (λ(p:List Key×V) (q:List Key×Addr×Value)=>p.1=q.1/\H q.2.1=some (.tup (p.1.map kV))/\RelV p.2 q.2.2) iu Z /\
  ∃o es ep,h.get? a=some o/\o.ExactDict/\o.data=.dict es ep/\es.toList=Z.map (entryOfKey (tupleKind (o5 P w)))/\(Z.map (·.1)).Nodup
 |.set S n=>h.SetOf (intKind P w) a S n
 |.ins C dx fs=>H dx=some (.own a)/\fs.length<=1000/\dx≠a/\h.get? a=some (PySem.W.instObj C dx) /\
  ∃G,h.Ns1 dx G/\(∀f,Lg (fs.lookup f) (G f))/\PySem.Within G (fs.map (·.1))
 |.own _=>∃o,h.get? a=some o|.xd fs=>∃G,h.Ns1 a G/\∀f,Lg (fs.lookup f) (G f)|.Ln lo hi=>∃t u v,h.get? a=some { cls:=.type "range",data:=.fields #[.int lo t,.int hi u,.int 1 v] }|.N6 o u=>h.get? a=some o/\Ay H h a u|.tbl ps=>h.get? a=some { cls:=.none,data:=.fields ps }|.met f x=>h.get? a=some (PySem.W.methodObj (.ref f) (.ref x))|.ext φ=>φ h/\(∃o,h.get? a=some o)/\∀h1 h2:Heap,φ h1->(∀o,h1.get? a=some o->h2.get? a=some o)->φ h2
def Ph(H:Hp)(h:Heap):Prop:=∀a o,H a=some o->Ay P w H h a o
end
theorem Ay.lt(x:Ay P w H h a o):a<h.objs.size:=by
 cases o with
 |lst Z=>obtain⟨_,_,_,_,e⟩:=x;exact au e
 |tup Z=>obtain⟨_,_,_,p⟩:=x;exact(Xy.is p).lt
 |dK G=>obtain⟨_,_,_,_,o,_,_,e,_⟩:=x;exact au e
 |dT G=>obtain⟨_,_,_,_,o,_,_,e,_⟩:=x;exact au e
 |set S n=>obtain⟨o,_,_,_,e,_⟩:=x;exact au e
 |ins C dx fs=>obtain⟨_,_,_,e,_⟩:=x;exact au e
 |own y=>obtain⟨_,e⟩:=x;exact au e
 |xd fs=>obtain⟨_,⟨_,_,_,e,_⟩,_⟩:=x;exact au e
 |Ln lo hi=>obtain⟨_,_,_,e⟩:=x;exact au e
 |N6 ob u=>obtain⟨e,_⟩:=x;exact au e
 |tbl U=>exact au (show h.get? a=some _ from x)
 |met f y=>exact au (show h.get? a=some _ from x)
 |ext R=>obtain⟨_,⟨_,e⟩,_⟩:=x;exact au e
theorem Paired.azh{α R:Type}{F G:α->R->Prop}:∀{Z:List α}{U:List R},Paired F Z U->(∀a b,F a b->G a b)->Paired G Z U
 |_,_,.nil,_=>.nil|_,_,.cons r t,f=>.cons (f _ _ r) (Paired.azh t f)
def Ay.stay(x:Ay P w H h a o)(k:∀b u,(b=a\/H b=some (.own a))->h.get? b=some u->h'.get? b=some u)(ho:∀b,H b=some (.own a)->H' b=some (.own a))(ht:∀b xs,H b=some (.tup xs)->H' b=some (.tup xs)):Ay P w H' h' a o:=by
 induction o with
 |lst xs=>obtain⟨z,yq,n,r,e⟩:=x;exact⟨z,yq,n,r,k _ _ (.inl rfl) e⟩
 |tup xs=>obtain⟨z,yq,r,Z,e,c⟩:=x;exact⟨z,yq,r,Z,k _ _ (.inl rfl) e,c⟩
 |dK iu=>obtain⟨z,y,vs,r,Z,G,U,e,c⟩:=x;exact⟨z,y,vs,r,Z,G,U,k _ _ (.inl rfl) e,c⟩
 |dT iu =>
  obtain⟨z,y,xs,r,Z,G,U,e,c⟩:=x;exact⟨z,y,xs,Paired.azh r λp q z=>⟨z.1,ht _ _ z.2.1,z.2.2⟩,Z,G,U,k _ _ (.inl rfl) e,c⟩
 |set S n=>obtain⟨Z,G,U,t,e,c⟩:=x;exact⟨Z,G,U,t,k _ _ (.inl rfl) e,c⟩
 |ins C dx fs =>
  obtain⟨d,z,ne,e,R,⟨od,G,U,e2,c⟩,r⟩:=x;exact⟨ho _ d,z,ne,k _ _ (.inl rfl) e,R,⟨od,G,U,k _ _ (.inr d) e2,c⟩,r⟩
 |own y=>obtain⟨Z,e⟩:=x;exact⟨Z,k _ _ (.inl rfl) e⟩
 |xd fs=>obtain⟨R,⟨od,G,U,e,c⟩,r⟩:=x;exact⟨R,⟨od,G,U,k _ _ (.inl rfl) e,c⟩,r⟩
 |Ln lo hi=>obtain⟨t,u,v,e⟩:=x;exact⟨t,u,v,k _ _ (.inl rfl) e⟩
 |N6 Z u ih=>obtain⟨e,q⟩:=x;exact⟨k _ _ (.inl rfl) e,ih q⟩
 |tbl ps =>
  have e:h.get? a=some { cls:=.none,data:=.fields ps }:=x;show h'.get? a=some { cls:=.none,data:=.fields ps };exact k a _ (.inl rfl) e
 |met f y =>
  have e:h.get? a=some (PySem.W.methodObj (.ref f) (.ref y)):=x;show h'.get? a=some (PySem.W.methodObj (.ref f) (.ref y));exact k a _ (.inl rfl) e
 |ext φ=>obtain⟨p,⟨o,e⟩,st⟩:=x;exact⟨st _ _ p λo q=>k _ _ (.inl rfl) q,⟨o,k _ _ (.inl rfl) e⟩,st⟩
theorem Ph.lt(x:Ph P w H h)(e:H a=some o):a<h.objs.size:=(x a o e).lt
def Ph.fresh(x:Ph P w H h)(e:h.objs.size<=a):H a=none:=by
 cases q:H a with
 |none=>rfl|some u=>exact absurd (gr (x.lt q) e) (m7 _)
def Ph.kept(x:Ph P w H h)(k:∀b u,h.get? b=some u->h'.get? b=some u):Ph P w H h':=λa o e =>
 (x a o e).stay (λb u _ q=>k b u q) (λ_ q=>q) λ_ _ q=>q
def Ph.laid(x:Ph P w H h)(k:∀b u,h.get? b=some u->h'.get? b=some u)(hp:h.objs.size<=a)(new:Ay P w (upd H a o) h' a o):Ph P w (upd H a o) h':=λb u e=>by
 have G:=x.fresh hp
 by_cases Z:b=a
 .subst Z;rw[yg] at e;cases e;exact new
 .rw[kh Z] at e
  exact(x b u e).stay (λc v _ q=>k c v q) (λc q=>by rw[kh (lq q G)];exact q) λc U q=>by rw[kh (lq q G)];exact q
def Rd(H:Hp)(a:Addr)(u:HO):Prop:=H a=some u\/∃o,H a=some (.N6 o u)
def Rd.ok(r:Rd H a u)(x:Ph P w H h):Ay P w H h a u:=by
 rcases r with r|⟨o,r⟩
 .exact x a u r
 .obtain⟨_,q⟩:=x a _ r
  exact q
def Mut:Option HO->Prop
 |some (.lst _)=>True|some (.dK _)=>True|some (.dT _)=>True|some (.set _ _)=>True|some (.ins _ _ _)=>True|some (.ext _)=>True|_=>False
def Ph.write(ok:Ph P w H h)(mu:Mut (H x))(he:e=x\/H e=some (.own x))(k:∀b u,b≠e->h.get? b=some u->h'.get? b=some u)(qk:∃u,h'.get? e=some u)(new:Ay P w (upd H x o') h' x o'):Ph P w (upd H x o') h':=λb u q=>by
 have G:∀c y,H c=some (.own y)->c≠x:=λc y r z=>by subst z;rw[r] at mu;exact mu
 have qq:∀c U,H c=some (.tup U)->c≠x:=λc U r z=>by subst z;rw[r] at mu;exact mu
 by_cases R:b=x
 .subst R;rw[yg] at q;cases q;exact new
 .rw[kh R] at q
  by_cases Z:b=e
  .have q':H b=some (.own x):=by
    rcases he with z|z
    .exact absurd (Z.trans z) R
    .rw[Z];exact z
   rw[q] at q';cases q';obtain⟨v,hv⟩:=qk;exact⟨v,by rw[Z];exact hv⟩
  .refine(ok b u q).stay (λc v hc r=>k c v ?_ r) (λc r=>by rw[kh (G c b r)];exact r) λc U r=>by rw[kh (qq c U r)];exact r
   rcases hc with rfl|hc
   .exact Z
   .rintro rfl
    rcases he with z|z
    .exact G c b hc z
    .rw[hc] at z;cases z;exact R rfl
structure Un(fs ex:Xt)(H H':Hp)(h h':Heap):Prop where
 keep:∀b o,h.get? b=some o->H b=none->b∉fs->b∉ex->h'.get? b=some o
 slot:∀b o,h.get? b=some o->H b=none->b∈fs->b∉ex->∃sl,h'.get? b=some { o with slots:=sl }
 free:∀b o,h.get? b=some o->H b=none->b∉ex->H' b=none
 there:∀b o,h.get? b=some o->b∉ex->∃o',h'.get? b=some o'
 Wd:∀b xs,H b=some (.tup xs)->H' b=some (.tup xs)
 aas:∀b o u,H b=some (.N6 o u)->H' b=some (.N6 o u)
 acy:∀b ps,H b=some (.tbl ps)->∃more,H' b=some (.tbl (ps++more))
def Un.any(u:Un fs ex H H1 h h1)(q:h.get? b=some Z)(n:H b=none)(G:b∉ex):∃R,h1.get? b=some { Z with slots:=R }:=by
 by_cases U:b∈fs
 .exact u.slot b Z q n U G
 .exact⟨Z.slots,u.keep b Z q n U G⟩
def Un.kept(k:∀b u,h.get? b=some u->h'.get? b=some u):Un fs ex H H h h' :=
 ⟨λb Z q _ _ _=>k b Z q,λb Z q _ _ _=>⟨Z.slots,k b Z q⟩,λ_ _ _ n _=>n,λb Z q _=>⟨Z,k b Z q⟩,λ_ _ q=>q,λ_ _ _ q=>q,λ_ G q=>⟨#[],by rw[q];simp⟩⟩
def Un.refl:Un fs ex H H h h:=Un.kept λ_ _ q=>q
theorem Un.laid(k:∀b u,h.get? b=some u->h'.get? b=some u)(hp:h.objs.size<=a)(Z:H a=none):Un fs ex H (upd H a o) h h' where
 keep:=λb u q _ _ _=>k b u q
 slot:=λb u q _ _ _=>⟨u.slots,k b u q⟩
 free:=λb u q n _=>by rw[kh (dq (gr (au q) hp))];exact n
 there:=λb u q _=>⟨u,k b u q⟩
 Wd:=λb G q=>by rw[kh (lq q Z)];exact q
 aas:=λb u G q=>by rw[kh (lq q Z)];exact q
 acy:=λb U q=>⟨#[],by rw[kh (lq q Z),q];simp⟩
def Un.write(G:Mut (H x))(he:e=x\/H e=some (.own x))(k:∀b u,b≠e->h.get? b=some u->h'.get? b=some u)(R:∃u,h'.get? e=some u):Un fs ex H (upd H x o) h h':=by
 have hx:∀b,H b=none->b≠x:=λb n z=>by subst z;rw[n] at G;exact G
 have hb:∀b,H b=none->b≠e:=λb n z=>by
  subst z;rcases he with r|r
  .exact hx b n r
  .rw[n] at r;cases r
 have U:∀b u,H b=some u->¬Mut (some u)->b≠x:=λb u q nm z=>by subst z;rw[q] at G;exact nm G
 refine⟨λb u q n _ _=>k b u (hb b n) q,λb u q n _ _=>⟨u.slots,k b u (hb b n) q⟩,λb u q n _=>by rw[kh (hx b n)];exact n,λb u q _=>?_,
  λb xs q=>by rw[kh (U b _ q λz=>z)];exact q,λb u xs q=>by rw[kh (U b _ q λz=>z)];exact q,λb ps q=>⟨#[],by rw[kh (U b _ q λz=>z),q];simp⟩⟩
 by_cases Z:b=e
 .subst Z;exact R
 .exact⟨u,k b u Z q⟩
noncomputable def trk(h:Heap)(H:Hp):List Addr:=(List.range h.objs.size).filter λa=>(H a).isSome
noncomputable def aat(h:Heap)(H:Hp):Heap:=PySem.W.hideAll h (trk h H)
def ajz(h:Heap)(H:Hp):(aat h H).objs.size=h.objs.size:=PySem.W.hideAll_size _ _
def ani(e:h.get? b=some o)(n:H b=none):(aat h H).get? b=some o :=
 PySem.W.hideAll_get _ e λZ=>by have q:(H b).isSome=true:=(uz.mp Z).2;rw[n] at q;simp at q
def ate(e:(aat h H).get? b=some o):h.get? b=some o/\H b=none:=by
 have Z:h.get? b=some o:=PySem.W.of_hideAll (trk h H) e;refine⟨Z,?_⟩;cases q:H b with
 |none=>rfl
 |some x =>
  have G:b∈trk h H:=uz.mpr ⟨ju.mpr (au Z),by simp[q]⟩;have z:(aat h H).get? b=none:=PySem.W.hideAll_none (trk h H) G;rw[z] at e;cases e
end L2
namespace L2
open PySem PySem.Spec PyProof.Rows
structure Mod(K:Fg)(mg:Zs)(base:Heap):Prop where
 kin:K.In base
 glob:base.Ns mainGlobals mg
 blt:∃mb,base.Ns builtinsNs mb/\∀x:Str,x≠"__name__" -> mb x=bootBuiltins x
 nolimit:base.NoLimit
structure Cx where
 prog:Program
 w:World
 K:Fg
 mg:Str->Option Value
 base:Heap
 A:Around
 N:List Str
 s₀:Shared
 H₀:Hp
 env:Env
 outer:List Env
 stack:List Env
 ex:List Addr
 fn:Str->Bool
 calm:Bool
 pn:List (Addr×Obj)
 xe:Value->Shared->Prop
noncomputable def frs(l:List Env):List Addr:=l.filterMap (·.frame)
noncomputable abbrev Cx.fs(X:Cx):List Addr:=frs X.outer
def Vis(sc:Scope)(x:Str):Prop:=sc.names.lookup x=some .local\/sc.names.lookup x=some .cell\/sc.names.lookup x=some .free
def Loc(sc:Scope)(x:Str):Prop:=sc.names.lookup x=some .local\/sc.names.lookup x=some .cell
def Look(env:Env)(h:Heap)(m:Zs)(x:Str)(u:Value):Prop :=
 (env.kindOf x=some .local/\m x=some u)\/((env.kindOf x=some .cell\/env.kindOf x=some .free)/\∃c,env.cells.lookup x=some c/\h.IsCell c (some u))
structure Cx.Ok(X:Cx):Prop where
 mod:Mod X.K X.mg X.base
 kind:X.env.scope.kind=.function
 glob:X.env.globals=mainGlobals
 blt:X.env.builtins=builtinsNs
 above:X.s₀.heap.objs.size<=X.env.locals
 inj:∀x y c,X.env.cells.lookup x=some c->X.env.cells.lookup y=some c->x=y
 has:∀x,(X.env.kindOf x=some .cell\/X.env.kindOf x=some .free)->∃c,X.env.cells.lookup x=some c
 cab:∀x c,X.fn x=true->X.env.cells.lookup x=some c->X.s₀.heap.objs.size<=c
 hd:X.calm=true->X.A.handled=none
 frames:X.A.frames=some X.stack
 stk:X.stack=X.outer\/(X.stack=X.env::X.outer/\X.env.frame=some X.env.locals)
 exf:∀b∈X.ex,b≠X.env.locals/\∀x c,X.env.cells.lookup x=some c->c≠b
 bs:∀b o,X.base.get? b=some o->X.s₀.heap.get? b=some o/\X.H₀ b=none
 bsz:X.base.objs.size<=X.s₀.heap.objs.size
 ank:∀b o,X.base.get? b=some o->b∉X.ex
 atg:∀b∈X.ex,b∉X.fs
 U9:X.s₀.heap.FunFrames X.base X.outer
 frf:∀b∈X.fs,X.H₀ b=none
structure Inv(X:Cx)(pins:Zp)(σ:List (Option V))(H:Hp)(s:Shared):Prop where
 ok:X.Ok
 os:s.os=X.s₀.os
 bare:AllBare s.gens
 base:Un X.fs X.ex X.H₀ H X.s₀.heap s.heap
 loc:∃m,s.heap.Ns X.env.locals m/\∀(i:Nat)(x:Str)(v:V),X.N[i]?=some x->σ[i]?=some (some v)->Vis X.env.scope x->∃u,RelV v u/\Look X.env s.heap m x u
 cell:∀x c,X.env.cells.lookup x=some c->∃v,s.heap.IsCell c v
 free:H X.env.locals=none
 N7:∀x c,X.env.cells.lookup x=some c->H c=none
 pin:∀p∈X.pn++pins,s.heap.get? p.1=some p.2/\H p.1=none/\p.1≠X.env.locals/\p.1∉X.fs/\∀v,p.2.data≠.cell v
 Ar:Ph X.prog X.w H s.heap
 len:σ.length=X.N.length
def Cx.Ok.bdo{X:Cx}(ok:X.Ok)(e:X.base.get? b=some o):b∉X.fs:=λZ=>by have:=(ok.U9.mem Z).1;rw[e] at this;cases this
theorem Inv.bs(I:Inv X pins σ H s):∀b o,X.base.get? b=some o->s.heap.get? b=some o/\H b=none:=λb o e =>
 ⟨I.base.keep b o (I.ok.bs b o e).1 (I.ok.bs b o e).2 (I.ok.bdo e) (I.ok.ank b o e),I.base.free b o (I.ok.bs b o e).1 (I.ok.bs b o e).2 (I.ok.ank b o e)⟩
def Inv.bk(I:Inv X pins σ H s):∀b o,X.base.get? b=some o->s.heap.get? b=some o:=λb o e=>(I.bs b o e).1
theorem Inv.mod(I:Inv X pins σ H s):Mod X.K X.mg X.base:=I.ok.mod
def Inv.Su(I:Inv X pins σ H s):X.K.In s.heap:=I.ok.mod.kin.keeps I.bk
theorem Inv.lt(I:Inv X pins σ H s):X.env.locals<s.heap.objs.size:=let ⟨_,hn,_⟩:=I.loc;hn.lt
def Inv.sz(I:Inv X pins σ H s):X.s₀.heap.objs.size<=s.heap.objs.size:=ie I.ok.above (yu I.lt)
def Inv.ath(I:Inv X pins σ H s)(h:s.heap.objs.size<=a):a∉X.fs:=λZ=>by obtain⟨_,o,G,_⟩:=I.ok.U9.mem Z;exact absurd (gr (au G) (ie I.sz h)) (m7 _)
def Inv.cne(I:Inv X pins σ H s):∀x c,X.env.cells.lookup x=some c->c≠X.env.locals:=λx c e z=>by obtain⟨v,o,G,U⟩:=I.cell x c e;obtain⟨m,⟨o',es,ep,R,Z,_⟩,_⟩:=I.loc;rw[z,R] at G;cases G;rw[Z] at U;cases U
theorem Inv.U9(I:Inv X pins σ H s):s.heap.FunFrames X.base X.outer:=by
 have all:∀(l:List Env),(∀b∈frs l,b∈X.fs)->X.s₀.heap.FunFrames X.base l->s.heap.FunFrames X.base l:=by
  intro l
  induction l with
  |nil=>intro _ _;trivial
  |cons qq r ih =>
   intro R hl;obtain⟨hk,⟨L,o,U,hn,ho,hd⟩,hr⟩:=hl;have G:L∈X.fs:=R L (by unfold frs;rw[List.filterMap_cons,U];exact dg);obtain⟨sl,e⟩:=I.base.slot L o ho (I.ok.frf L G) G λz=>I.ok.atg L z G
   exact⟨hk,⟨L,_,U,hn,e,hd⟩,ih (λb Z=>R b (by unfold frs;rw[List.filterMap_cons,U];exact bh _ Z)) hr⟩
 exact all X.outer (λ_ Z=>Z) I.ok.U9
theorem Inv.stack(I:Inv X pins σ H s):s.heap.FunFrames X.base X.stack:=by
 rcases I.ok.stk with e|⟨e,hf⟩
 .rw[e];exact I.U9
 .rw[e]
  obtain⟨m,Z,_⟩:=I.loc;refine .cons (by rw[I.ok.kind];decide) hf Z ?_ I.U9;exact Heap.get?_none_of_le (ie I.ok.bsz I.ok.above)
def Inv.aau(I:Inv X pins σ H s):∀b∈frs X.stack,b∈X.env.locals::X.fs:=λb Z=>by
 rcases I.ok.stk with e|⟨e,hf⟩
 .rw[e] at Z;exact bh _ Z
 .rw[e] at Z
  unfold frs at Z;rw[List.filterMap_cons,hf] at Z;exact Z
def Inv.ahr(I:Inv X pins σ H s):∀b∈frs X.stack,H b=none:=λb Z=>by
 rcases bz.mp (I.aau b Z) with e|Z
 .rw[e];exact I.free
 .obtain⟨_,o,G,_⟩:=I.ok.U9.mem Z
  exact I.base.free b o G (I.ok.frf b Z) λz=>I.ok.atg b z Z
def Inv.step{ch:Xt}(I:Inv X pins σ H s)(U:∀b∈ch,(b∈X.ex\/X.s₀.heap.objs.size<=b)/\b≠X.env.locals/\(∀x c,X.env.cells.lookup x=some c->c≠b)/\∀p∈X.pn++pins,p.1≠b)(keep:∀b o,b≠X.env.locals->b∉X.fs->b∉ch->s.heap.get? b=some o->H b=none->h'.get? b=some o)(qk:∀b o,b≠X.env.locals->b∈X.fs->b∉ch->s.heap.get? b=some o->H b=none->∃sl,h'.get? b=some { o with slots:=sl })(free:∀b o,b∉ch->s.heap.get? b=some o->H b=none->H' b=none)(qv:∀b o,b∉ch->s.heap.get? b=some o->∃o',h'.get? b=some o')(Wd:∀b xs,H b=some (.tup xs)->H' b=some (.tup xs))(q1:∀b o u,H b=some (.N6 o u)->H' b=some (.N6 o u))(q2:∀b ps,H b=some (.tbl ps)->∃more,H' b=some (.tbl (ps++more)))(ns:∀m,s.heap.Ns X.env.locals m->h'.Ns X.env.locals m)(Ar:Ph X.prog X.w H' h')(hg:AllBare g') :
 Inv X pins σ H' { s with heap:=h',gens:=g',drawn:=d',toks:=t' }:=by
 have q0:∀b o,X.s₀.heap.get? b=some o->b≠X.env.locals:=λb o e=>dq (gr (au e) I.ok.above)
 have qq:∀b o,X.s₀.heap.get? b=some o->b∉X.ex->b∉ch:=λb o e Z hb=>by
  rcases(U b hb).1 with z|z
  .exact Z z
  .exact absurd (gr (au e) z) (m7 _)
 have R:∀x c,X.env.cells.lookup x=some c->∀v,s.heap.IsCell c v->h'.IsCell c v:=λx c e v ⟨o,ho,hd⟩=>by
  have G:c∉ch:=λz=>(U c z).2.2.1 x c e rfl
  by_cases hc:c∈X.fs
  .obtain⟨sl,q⟩:=qk c o (I.cne x c e) hc G ho (I.N7 x c e)
   exact⟨_,q,hd⟩
  .exact⟨o,keep c o (I.cne x c e) hc G ho (I.N7 x c e),hd⟩
 refine⟨I.ok,I.os,hg,⟨λb o e n hb Z=>?_,λb o e n hb Z=>?_,λb o e n Z=>?_,λb o e Z=>?_,λb xs e=>Wd b xs (I.base.Wd b xs e),λb o xs e=>q1 b o xs (I.base.aas b o xs e),λb ps e=>?_⟩,?_,λx c e=>?_,?_,λx c e=>?_,λp hp=>?_,Ar,I.len⟩
 .exact keep b o (q0 b o e) hb (qq b o e Z) (I.base.keep b o e n hb Z) (I.base.free b o e n Z)
 .obtain⟨sl,e1⟩:=I.base.slot b o e n hb Z
  obtain⟨q3,e2⟩:=qk b _ (q0 b o e) hb (qq b o e Z) e1 (I.base.free b o e n Z);exact⟨q3,e2⟩
 .obtain⟨o',e1⟩:=I.base.there b o e Z
  exact free b o' (qq b o e Z) e1 (I.base.free b o e n Z)
 .obtain⟨o',e1⟩:=I.base.there b o e Z
  exact qv b o' (qq b o e Z) e1
 .obtain⟨m1,e1⟩:=I.base.acy b ps e
  obtain⟨m2,e2⟩:=q2 b _ e1;exact⟨m1++m2,by rw[e2,Array.append_assoc]⟩
 .obtain⟨m,hn,hl⟩:=I.loc
  refine⟨m,ns m hn,λi x v e1 e2 e3=>?_⟩;obtain⟨u,r,l⟩:=hl i x v e1 e2 e3;refine⟨u,r,?_⟩;rcases l with l|⟨k,c,e,z⟩
  .exact .inl l
  .exact .inr ⟨k,c,e,R x c e _ z⟩
 .obtain⟨v,z⟩:=I.cell x c e
  exact⟨v,R x c e v z⟩
 .obtain⟨m,⟨o,_,_,ho,_⟩,_⟩:=I.loc
  exact free _ o (λz=>(U _ z).2.1 rfl) ho I.free
 .obtain⟨v,o,ho,hd⟩:=I.cell x c e
  exact free c o (λz=>(U c z).2.2.1 x c e rfl) ho (I.N7 x c e)
 .obtain⟨e,n,ne,nf,d⟩:=I.pin p hp
  have G:p.1∉ch:=λz=>(U p.1 z).2.2.2 p hp rfl
  exact⟨keep p.1 p.2 ne nf G e n,free p.1 p.2 G e n,ne,nf,d⟩
def Inv.un(I:Inv X pins σ H s)(u:Un X.fs [] H H' s.heap h')(Ar:Ph X.prog X.w H' h'):Inv X pins σ H' { s with heap:=h',toks:=t' }:=by
 obtain⟨m,⟨o,es,ep,R,r⟩,_⟩:=id I.loc;obtain⟨sl,hL⟩:=u.any R I.free (by simp);exact I.step (g':=s.gens) (d':=s.drawn) (ch:=[]) (λ_ z=>nomatch z) (λb o _ Z _ e n=>u.keep b o e n Z (by simp)) (λb o _ Z _ e n=>u.slot b o e n Z (by simp)) (λb o _ e n=>u.free b o e n (by simp)) (λb o _ e=>u.there b o e (by simp)) u.Wd u.aas u.acy (λm' hm=>by
  obtain⟨o',G,U,Zw,r'⟩:=hm;rw[R] at Zw;cases Zw;exact⟨_,G,U,hL,r'⟩) Ar I.bare
def Inv.call(I:Inv X pins σ H s)(u:Un (frs X.stack) ch H H' s.heap h')(Ar:Ph X.prog X.w H' h')(hg:AllBare g')(G:∀b∈ch,(b∈X.ex\/X.s₀.heap.objs.size<=b)/\b≠X.env.locals/\(∀x c,X.env.cells.lookup x=some c->c≠b)/\∀p∈X.pn++pins,p.1≠b) :
 Inv X pins σ H' { s with heap:=h',gens:=g',drawn:=d',toks:=t' }:=by
 obtain⟨m,⟨o,es,ep,ho,r⟩,_⟩:=id I.loc;obtain⟨sl,U⟩:=u.any ho I.free λz=>(G _ z).2.1 rfl
 exact I.step (ch:=ch) G (λb o U hb Z e n=>u.keep b o e n (λz=>(bz.mp (I.aau b z)).elim U hb) Z) (λb o _ _ Z e n=>u.any e n Z) (λb o Z e n=>u.free b o e n Z) (λb o Z e=>u.there b o e Z) u.Wd u.aas u.acy (λm' hm=>by
  obtain⟨o',R,qq,Zw,r'⟩:=hm;rw[ho] at Zw;cases Zw;exact⟨_,R,qq,U,r'⟩) Ar hg
def Inv.turned(I:Inv X pins σ H s)(k:∀b o,b≠it->s.heap.get? b=some o->h'.get? b=some o)(hn:H it=none)(U:it≠X.env.locals)(h1:it∈X.ex\/X.s₀.heap.objs.size<=it)(h2:∀x c,X.env.cells.lookup x=some c->c≠it)(R:∀p∈X.pn++pins,p.1≠it):Inv X pins σ H { s with heap:=h',toks:=t' }:=by
 have G:∀b u,H b=some u->b≠it:=λb u e z=>by rw[z,hn] at e;cases e
 refine I.step (g':=s.gens) (d':=s.drawn) (ch:=[it]) (λb hb=>?_) (λb o _ _ Z e _=>k b o (λz=>Z (by simp[z])) e) (λb o _ _ Z e _=>⟨o.slots,k b o (λz=>Z (by simp[z])) e⟩) (λ_ _ _ _ n=>n)
  (λb o Z e=>⟨o,k b o (λz=>Z (by simp[z])) e⟩) (λ_ _ e=>e) (λ_ _ _ e=>e) (λb ps e=>⟨#[],by rw[e];simp⟩) (λm hm=>?_) (λb u e=>?_) I.bare
 .have e:b=it:=by simpa using hb
  subst e;exact⟨h1,U,h2,R⟩
 .obtain⟨o,es,ep,ho,r⟩:=hm
  exact⟨o,es,ep,k _ o (j5 U) ho,r⟩
 .refine(I.Ar b u e).stay (λc v Z q=>k c v ?_ q) (λ_ q=>q) λ_ _ q=>q
  rcases Z with z|z
  .rw[z];exact G b u e
  .exact G c _ z
def Inv.tok(I:Inv X pins σ H s)(t:Nat):Inv X pins σ H { s with toks:=t }:=I.un (h':=s.heap) (t':=t) Un.refl I.Ar
theorem Inv.kept(I:Inv X pins σ H s)(k:∀b u,s.heap.get? b=some u->h'.get? b=some u):Inv X pins σ H { s with heap:=h',toks:=t' }:=I.un (Un.kept k) (I.Ar.kept k)
theorem Inv.laid(I:Inv X pins σ H s)(k:∀b u,s.heap.get? b=some u->h'.get? b=some u)(hp:s.heap.objs.size<=a)(new:Ay X.prog X.w (upd H a o) h' a o) :
 Inv X pins σ (upd H a o) { s with heap:=h',toks:=t' }:=I.un (Un.laid k hp (I.Ar.fresh hp)) (I.Ar.laid k hp new)
theorem Inv.write(I:Inv X pins σ H s)(U:Mut (H x))(G:e=x\/H e=some (.own x))(k:∀b u,b≠e->s.heap.get? b=some u->h'.get? b=some u)(Z:∃u,h'.get? e=some u)(new:Ay X.prog X.w (upd H x o) h' x o):Inv X pins σ (upd H x o) { s with heap:=h',toks:=t' }:=I.un (Un.write U G k Z) (I.Ar.write U G k Z new)
def Inv.weak(I:Inv X pins σ H s)(hl:σ'.length=σ.length)(w:∀(i:Nat) v,σ'[i]?=some (some v)->σ[i]?=some (some v)):Inv X pins σ' H s :=
 ⟨I.ok,I.os,I.bare,I.base,let ⟨m,hn,hl'⟩:=I.loc;⟨m,hn,λi x v U G Z=>hl' i x v U (w i v G) Z⟩,I.cell,I.free,I.N7,I.pin,I.Ar,hl.trans I.len⟩
def Inv.Kp(I:Inv X pins σ H s)(h:∀p∈ahs,s.heap.get? p.1=some p.2/\H p.1=none/\p.1≠X.env.locals/\p.1∉X.fs/\∀v,p.2.data≠.cell v):Inv X ahs σ H s :=
 ⟨I.ok,I.os,I.bare,I.base,I.loc,I.cell,I.free,I.N7,λp Z=>(dh.mp Z).elim (λz=>I.pin p (ue _ z)) (h p),I.Ar,I.len⟩
def acz{N:X9}(G:N.Nodup){i:Nat}(a:N[i]?=some x)(b:N[j]?=some x):i=j:=by obtain⟨R,Z⟩:=ak.mp a;obtain⟨h2,U⟩:=ak.mp b;exact(Ba G).mp (Z.trans U.symm)
def aj0(I:Inv X pins σ H s)(hN:X.N.Nodup)(hi:X.N[i]?=some x)(hx:Loc X.env.scope x)(r:RelV v u)(h:∀s',Inv X pins (σ.set i (some v)) H s'->(∃a,Heap.SameBut a s.heap s'.heap/\(a=X.env.locals\/X.env.cells.lookup x=some a))->Q () s')(hf:X.fn x=true\/X.env.scope.names.lookup x=some .local:=by first|exact .inl rfl|exact .inr rfl|assumption):wpAny M A (storeName X.env x u) Q E s:=by
 obtain⟨m,hn,hl⟩:=id I.loc;have q2:(X.env.scope.kind==.class||(X.env.scope.kind==.module&&X.env.locals != X.env.globals))=false:=by rw[I.ok.kind];rfl
 have qq:i < σ.length:=by rw[I.len];exact(ak.mp hi).1
 have cne:=I.cne;have U:∀{a:Addr}{h':Heap},(∃o,s.heap.get? a=some o/\H a=none)->Heap.SameBut a s.heap h'->Ph X.prog X.w H h':=fun{a h'} ha Z b ob e=>by
  obtain⟨_,_,Pj⟩:=ha;refine(I.Ar b ob e).stay (λc w' R q=>(Z.2 c ?_).trans q) (λ_ q=>q) λ_ _ q=>q
  rintro rfl;rcases R with rfl|R
  .rw[Pj] at e;cases e
  .rw[Pj] at R;cases R
 rcases hx with hk|hk
 .refine wpAny_storeName_local hk hn (λh' Jj Z=>?_) q2
  obtain⟨oL,_,_,q3,_⟩:=id hn;refine h _ ⟨I.ok,I.os,I.bare,⟨λb o e n hb hx=>?_,λb o e n hb hx=>?_,I.base.free,λb o e hx=>?_,I.base.Wd,I.base.aas,I.base.acy⟩,⟨_,Jj,λj y v' G e2 e3=>?_⟩,λy c e=>?_,I.free,I.N7,λp hp=>?_,U ⟨oL,q3,I.free⟩ Z,by simpa using I.len⟩ ⟨_,Z,.inl rfl⟩
  .exact(Z.2 b (dq (gr (au e) I.ok.above))).trans (I.base.keep b o e n hb hx)
  .obtain⟨sl,G⟩:=I.base.slot b o e n hb hx
   exact⟨sl,(Z.2 b (dq (gr (au e) I.ok.above))).trans G⟩
  .obtain⟨o',G⟩:=I.base.there b o e hx
   exact⟨o',(Z.2 b (dq (gr (au e) I.ok.above))).trans G⟩
  .by_cases hj:j=i
   .subst hj
    rw[hi] at G;cases G;rw[Ab qq] at e2;cases e2;exact⟨u,r,.inl ⟨hk,by simp⟩⟩
   .rw[vq (j5 hj)] at e2
    obtain⟨u',r',q⟩:=hl j y v' G e2 e3;refine⟨u',r',?_⟩;rcases q with⟨k,e⟩|⟨k,c,e,z⟩
    .refine .inl ⟨k,?_⟩
     have:y≠x:=λe=>hj (acz hN G (e▸hi))
     simp[this,e]
    .exact .inr ⟨k,c,e,z.sameBut Z (cne y c e)⟩
  .obtain⟨w',z⟩:=I.cell y c e
   exact⟨w',z.sameBut Z (cne y c e)⟩
  .obtain⟨e,n,ne,nf,d⟩:=I.pin p hp
   exact⟨(Z.2 p.1 ne).trans e,n,ne,nf,d⟩
 .have qk:X.fn x=true:=by
   rcases hf with z|z
   .exact z
   .rw[z] at hk;cases hk
  obtain⟨c,R⟩:=I.ok.has x (.inl hk);obtain⟨w',z⟩:=I.cell x c R;refine wpAny_storeName_cell I.ok.kind hk R z (λh' qv Z=>?_);obtain⟨oc,q0,q4⟩:=id z;refine h { s with heap:=h' } ⟨I.ok,I.os,I.bare,⟨λb o e n hb hx=>?_,λb o e n hb hx=>?_,I.base.free,λb o e hx=>?_,I.base.Wd,I.base.aas,I.base.acy⟩,⟨m,hn.sameBut Z (j5 (cne x c R)),λj y v' G e2 e3=>?_⟩,λy c' e=>?_,I.free,I.N7,λp hp=>?_,U ⟨oc,q0,I.N7 x c R⟩ Z,by simpa using I.len⟩ ⟨c,Z,.inr R⟩
  .exact(Z.2 b (dq (gr (au e) (I.ok.cab x c qk R)))).trans (I.base.keep b o e n hb hx)
  .obtain⟨sl,G⟩:=I.base.slot b o e n hb hx
   exact⟨sl,(Z.2 b (dq (gr (au e) (I.ok.cab x c qk R)))).trans G⟩
  .obtain⟨o',G⟩:=I.base.there b o e hx
   exact⟨o',(Z.2 b (dq (gr (au e) (I.ok.cab x c qk R)))).trans G⟩
  .by_cases hj:j=i
   .subst hj
    rw[hi] at G;cases G;rw[Ab qq] at e2;cases e2;exact⟨u,r,.inr ⟨.inl hk,c,R,qv⟩⟩
   .rw[vq (j5 hj)] at e2
    obtain⟨u',r',q⟩:=hl j y v' G e2 e3;refine⟨u',r',?_⟩;rcases q with q|⟨k,c',e,z'⟩
    .exact .inl q
    .refine .inr ⟨k,c',e,z'.sameBut Z ?_⟩
     rintro rfl;exact hj (acz hN G (I.ok.inj _ _ _ e R▸hi))
  .by_cases q1:c'=c
   .subst q1;exact⟨_,qv⟩
   .obtain⟨w2,z2⟩:=I.cell y c' e
    exact⟨w2,z2.sameBut Z q1⟩
  .obtain⟨e,n,ne,nf,d⟩:=I.pin p hp
   refine⟨(Z.2 p.1 ?_).trans e,n,ne,nf,d⟩;intro q;rw[q,q0] at e;have q':oc=p.2:=jt e;exact d w' (by rw[<- q'];exact q4)
def anm(I:Inv X pins σ H s)(U:X.N.Nodup)(hi:X.N[i]?=some x)(G:Loc X.env.scope x)(r:RelV v u)(h:∀Z,Inv X pins (σ.set i (some v)) H Z->Q () Z)(R:X.fn x=true\/X.env.scope.names.lookup x=some .local:=by first|exact .inl rfl|exact .inr rfl|assumption):wpAny M A (storeName X.env x u) Q E s :=
 aj0 I U hi G r (λZ I' _=>h Z I') R
def Inv.call'(I:Inv X pins σ H s)(U:s'.os=s.os)(u:Un (frs X.stack) ch H H' s.heap s'.heap)(Ar:Ph X.prog X.w H' s'.heap)(G:AllBare s'.gens)(Z:∀b∈ch,(b∈X.ex\/X.s₀.heap.objs.size<=b)/\b≠X.env.locals/\(∀x c,X.env.cells.lookup x=some c->c≠b)/\∀p∈X.pn++pins,p.1≠b):Inv X pins σ H' s':=by obtain⟨h',g',d',t',R⟩:=s';have e:R=s.os:=U;subst e;exact I.call (g':=g') (t':=t') (d':=d') u Ar G Z
abbrev XK:=Value->Option Addr->Hp->Prop
abbrev St:=List (Option V)
abbrev VK:=V->Hp->Prop
abbrev TE:=St->Hp->VK->Prop
abbrev TT:=St->Hp->(Bool->Hp->Prop)->Prop
abbrev TA:=St->Hp->(List V->Hp->Prop)->Prop
structure Ends where
 nx:St->Hp->Prop
 rt:VK
 bk:St->Hp->Prop:=λ_ _=>False
 ct:St->Hp->Prop:=λ_ _=>False
abbrev TS:=Ends->St->Hp->Prop
def EP(X:Cx)(Z:Zp)(U:St)(Q:VK)(u:Value)(R:Shared):Prop:=∃v G,Inv X Z U G R/\RelV v u/\Q v G
def TP(X:Cx)(Z:Zp)(U:St)(Q:Bool->Hp->Prop)(b:Bool)(R:Shared):Prop:=∃G,Inv X Z U G R/\Q b G
def AP(X:Cx)(Z:Zp)(R:St)(Q:List V->Hp->Prop)(us:Zl)(s':Shared):Prop:=∃U G,Inv X Z R G s'/\Vals U us/\Q U G
def SP(X:Cx)(G:Zp)(D:Ends)(f:Flow)(R:Shared):Prop :=
 match f with
 |.next=>∃Z U,Inv X G Z U R/\D.nx Z U|.brk=>∃Z U,Inv X G Z U R/\D.bk Z U|.cont=>∃Z U,Inv X G Z U R/\D.ct Z U|.ret u=>∃v Z U,Inv X G Z U R/\RelV v u/\D.rt v U
def PE(X:Cx)(e:Expr)(t:TE):Prop :=
 ∀(Z:Zp)(s:Shared)(G:St)(H:Hp)(Q:VK),Inv X Z G H s->t G H Q->wpAny (model X.prog X.w) X.A (eval e X.env) (EP X Z G Q) X.xe s
def PT(X:Cx)(e:Expr)(t:TT):Prop :=
 ∀(Z:Zp)(s:Shared)(G:St)(H:Hp)(Q:Bool->Hp->Prop),Inv X Z G H s->t G H Q->wpAny (model X.prog X.w) X.A (isTrue e X.env (eval e X.env)) (TP X Z G Q) X.xe s
def PW(X:Cx)(e:Expr)(t:TT):Prop :=
 ∀(G:Sem Value)(Z:Zp)(s:Shared)(U:St)(H:Hp)(Q:Bool->Hp->Prop),Inv X Z U H s->t U H Q->wpAny (model X.prog X.w) X.A (isTrue e X.env G) (TP X Z U Q) X.xe s
def PW.pt(h:PW X e t):PT X e t:=h _
def PA(X:Cx)(es:X0)(t:TA):Prop :=
 ∀(pos:Pos)(Z:Zp)(s:Shared)(G:St)(H:Hp)(Q:List V->Hp->Prop),Inv X Z G H s->t G H Q->wpAny (model X.prog X.w) X.A (spliced (backTo pos (starEach es X.env))) (AP X Z G Q) X.xe s
def PS(X:Cx)(st:Stmt)(t:TS):Prop :=
 ∀(Z:Zp)(s:Shared)(G:St)(H:Hp)(D:Ends),Inv X Z G H s->t D G H->wpAny (model X.prog X.w) X.A (exec st X.env) (SP X Z D) X.xe s
def Rr(X:Cx)(st:List Stmt)(t:TS):Prop :=
 ∀(Z:Zp)(s:Shared)(G:St)(H:Hp)(D:Ends),Inv X Z G H s->t D G H->wpAny (model X.prog X.w) X.A (execs st X.env) (SP X Z D) X.xe s
def Bj(h:wpAny M A t Q E s)(G:∀a s,Q a s->Z a s):wpAny M A t Z E s:=mq h G λ_ _ x=>x
end L2
namespace L2
open PySem PySem.Spec PyProof.Rows
def bds(i:Nat):TE:=fun Z H Q=>∃v,Z[i]?=some (some v)/\Q v H
def tC(v:V):TE:=λ_ H Q=>Q v H
def azm(hN:X.N[i]?=some x)(hv:Vis X.env.scope x)(hd:(x==("__debug__" : Str))=false:=by decide)(R:(x==("__classdict__" : Str))=false:=by decide):PE X (.Name x pos) (bds i):=by
 intro U s σ H Q I h;obtain⟨v,e,h⟩:=h;obtain⟨m,hn,hl⟩:=I.loc;obtain⟨u,r,l⟩:=hl i x v hN e hv;have fin:EP X U σ Q u s:=⟨v,H,I,r,h⟩;rcases l with⟨Z,hm⟩|⟨Z,c,hc,G⟩
 .exact wpAny_Name (wpAny_loadName_local I.ok.kind Z hn hm fin) hd
 .rcases Z with Z|Z
  .exact wpAny_Name (wpAny_loadName_cell I.ok.kind Z hc G fin) hd
  .exact wpAny_Name (wpAny_loadName_free I.ok.kind Z hc G fin R) hd
def azn:PE X (.Constant (.int i) j pos) (tC (.int i)):=λ_ _ _ H _ I h=>wpAny_Constant_int ⟨.int i,H,I.tok _,⟨_,rfl⟩,h⟩
def a6k:PE X (.Constant (.bool b) j pos) (tC (.bl b)):=λ_ _ _ H _ I h=>Constant_bool ⟨.bl b,H,I,rfl,h⟩
def azo:PE X (.Constant .none j pos) (tC .non):=λ_ _ _ H _ I h=>Constant_none ⟨.non,H,I,rfl,h⟩
def azp:PE X (.Constant (.str x) j pos) (tC (.str x)):=λ_ _ _ H _ I h=>Calls.Constant_str ⟨.str x,H,I.tok _,⟨_,rfl⟩,h⟩
def Gl(X:Cx)(x:Str):Prop:=X.env.kindOf x=some .globalImplicit
def aav(I:Inv X pins σ H s)(Z:Gl X x)(U:X.mg x=some u)(h:Q u s)(G:(x==("__debug__" : Str))=false:=by decide):wpAny (model X.prog X.w) X.A (eval (.Name x pos) X.env) Q E s :=
 Calls.Name_function_global I.ok.kind Z (Calls.loadGlobal_global (by rw[I.ok.glob];exact I.mod.glob.keeps I.bk) U h) G
def Bq(I:Inv X pins σ H s)(Z:Gl X x)(R:X.mg x=none)(hv:bootBuiltins x=some u)(h:Q u s)(G:x≠"__name__" := by decide)(hd:(x==("__debug__" : Str))=false:=by decide):wpAny (model X.prog X.w) X.A (eval (.Name x pos) X.env) Q E s:=by obtain⟨mb,h1,U⟩:=I.mod.blt;exact Calls.Name_function_global I.ok.kind Z (Calls.loadGlobal_builtin (by rw[I.ok.glob];exact I.mod.glob.keeps I.bk) R (by rw[I.ok.blt];exact h1.keeps I.bk) ((U x G).trans hv) h) hd
def ati(Z:Gl X x)(U:X.mg x=some u)(r:RelV v u)(G:(x==("__debug__" : Str))=false:=by decide):PE X (.Name x pos) (tC v) :=
 λ_ _ _ H _ I h=>aav I Z U ⟨v,H,I,r,h⟩ G
def PC(X:Cx)(op:CmpOp)(a b:Expr)(t:TE):Prop :=
 ∀(Z:Zp)(s:Shared)(R:St)(H:Hp)(Q:VK),Inv X Z R H s->t R H Q ->
  wpAny (model X.prog X.w) X.A (eval a X.env) (λv U=>wpAny (model X.prog X.w) X.A (eval b X.env) (λu G=>wpAny (model X.prog X.w) X.A (compareOp op v u) (EP X Z R Q) X.xe G) X.xe U) X.xe s
def ac0(b:Expr)(h:op≠.In)(Z:op≠.NotIn):behindInMarks op b=false:=by
 have U:(op==CmpOp.In)=false:=by cases op<;>first|rfl|exact absurd rfl h
 have G:(op==CmpOp.NotIn)=false:=by cases op<;>first|rfl|exact absurd rfl Z
 cases b<;>simp[behindInMarks,U,G]
def tB(t:TE):TT:=fun Z H Q=>t Z H λx G=>∃c,x=.bl c/\Q c G
def azq(h:PC X op a b t)(U:behindInMarks op b=false:=by first|exact ac0 _ (by decide) (by decide)|rfl):PE X (.Compare a [op] [b] pos) t:=λZ s G H Q I R=>wpAny_Compare1 (h Z s G H Q I R) U
def azr(h:PC X op a b t)(G:behindInMarks op b=false:=by first|exact ac0 _ (by decide) (by decide)|rfl):PT X (.Compare a [op] [b] pos) (tB t):=by intro Z s R H Q I U;refine wpAny_isTrue_Compare1 (Bj (h Z s R H _ I U) λv s1 G=>Bj G λu s2 h2=>Bj h2 λc s3 ⟨x,H1,I1,r1,q1⟩=>?_) G;obtain⟨d,rfl,q⟩:=q1;cases r1;exact km ⟨H1,I1,q⟩
def azs(h:PE X e t)(U:∀Z,isTrue e X.env Z=(do let v <- Z;standAt e.pos;holding [v] (truthy v)):=by intro _;rfl):PT X e (tB t):=by intro G s σ H Q I R;refine isTrue_plain (Bj (h G s σ H _ I R) λv s1 ⟨x,H1,I1,r1,q1⟩=>?_) (U _);obtain⟨d,rfl,q⟩:=q1;cases r1;exact km ⟨H1,I1,q⟩
def bdt(t u:TT):TT:=fun Z H Q=>t Z H λc G=>if c=true then u Z G Q else Q false G
def tOr(t u:TT):TT:=fun Z H Q=>t Z H λc G=>if c=true then Q true G else u Z G Q
def bdu(t:TT):TT:=fun Z H Q=>t Z H λc G=>Q (!c) G
def atj(G:PT X a tA):PW X (.BoolOp .And [a] pos) tA:=by
 intro wh Z s U H Q I h;refine isTrue_and (Bj (G Z s U H Q I h) λc R e=>?_);cases c with
 |true=>exact isTrue_and_nil e|false=>exact e
def azt(G:PT X a tA):PW X (.BoolOp .Or [a] pos) tA:=by
 intro wh Z s U H Q I h;refine isTrue_or (Bj (G Z s U H Q I h) λc R e=>?_);cases c with
 |false=>exact isTrue_or_nil e|true=>exact e
def azu{rest:X0}(ha:PT X a tA)(hb:PW X (.BoolOp .And (b::rest) pos) tB'):PW X (.BoolOp .And (a::b::rest) pos) (bdt tA tB'):=by
 intro wh Z s G H Q I h;refine isTrue_and (Bj (ha Z s G H _ I h) λc s1 z_=>?_);obtain⟨H1,U,R⟩:=z_;cases c with
 |true=>exact hb wh Z s1 G H1 Q U R|false=>exact⟨H1,U,R⟩
def a6l{rest:X0}(ha:PT X a tA)(hb:PW X (.BoolOp .Or (b::rest) pos) tB'):PW X (.BoolOp .Or (a::b::rest) pos) (tOr tA tB'):=by
 intro wh Z s G H Q I h;refine isTrue_or (Bj (ha Z s G H _ I h) λc s1 z_=>?_);obtain⟨H1,U,R⟩:=z_;cases c with
 |true=>exact⟨H1,U,R⟩|false=>exact hb wh Z s1 G H1 Q U R
def azv(U:PT X a tA):PT X (.UnaryOp .Not a pos) (bdu tA):=by intro Z s G H Q I h;exact isTrue_not (U Z s G H (λc R=>Q (!c) R) I h)
def a6m(U R:TE):TE:=fun Z H Q=>U Z H λx G=>∃c,x=.bl c/\if c=true then R Z G Q else Q (.bl false) G
def bdw(U R:TE):TE:=fun Z H Q=>U Z H λx G=>∃c,x=.bl c/\if c=true then Q (.bl true) G else R Z G Q
def a6n(Z:TE):TE:=fun G H Q=>Z G H λx U=>∃c,x=.bl c/\Q (.bl (!c)) U
def azw{rest:X0}(ha:PE X a ta)(hb:PE X (.BoolOp .And (b::rest) pos) tb):PE X (.BoolOp .And (a::b::rest) pos) (a6m ta tb):=by
 intro Z s R H Q I h;refine BoolOp_and (Bj (ha Z s R H _ I h) λv s1 z_=>?_);obtain⟨x,U,I1,r1,G⟩:=z_;obtain⟨c,rfl,G⟩:=G;cases r1;refine km ?_;cases c with
 |true=>exact hb Z s1 R U Q I1 G|false=>exact⟨.bl false,U,I1,rfl,G⟩
def a6o{rest:X0}(ha:PE X a ta)(hb:PE X (.BoolOp .Or (b::rest) pos) tb):PE X (.BoolOp .Or (a::b::rest) pos) (bdw ta tb):=by
 intro Z s R H Q I h;refine BoolOp_or (Bj (ha Z s R H _ I h) λv s1 z_=>?_);obtain⟨x,U,I1,r1,G⟩:=z_;obtain⟨c,rfl,G⟩:=G;cases r1;refine km ?_;cases c with
 |false=>exact hb Z s1 R U Q I1 G|true=>exact⟨.bl true,U,I1,rfl,G⟩
def azx(U:PE X a ta):PE X (.UnaryOp .Not a pos) (a6n ta):=by intro Z s σ H Q I h;refine UnaryOp_ (Bj (U Z s σ H _ I h) λv s1 z_=>?_);obtain⟨x,H1,I1,R,G⟩:=z_;obtain⟨c,rfl,G⟩:=G;cases R;exact not_of (km ⟨.bl (!c),H1,I1,rfl,G⟩)
def tIf(t:TT)(U R:TE):TE:=fun Z H Q=>t Z H λc G=>if c=true then U Z G Q else R Z G Q
def ano(hc:PT X c tA)(ha:PE X a ta)(hb:PE X b tb):PE X (.IfExp c a b pos) (tIf tA ta tb):=by
 intro Z s G H Q I h;refine wpAny_IfExp (Bj (hc Z s G H _ I h) λd U z_=>?_);obtain⟨H1,R,q1⟩:=z_;cases d with
 |true=>exact ha Z U G H1 Q R q1|false=>exact hb Z U G H1 Q R q1
end L2
namespace L2
open PySem PySem.Spec PyProof.Rows
def Gw(K:Fg)(H:Hp)(a:Addr)(xs:List V):Prop :=
 Rd H a (.lst xs) \/
  ∃(o:Obj)(Z:Q1)(n:Nat),K.lookup a=some o/\o.cls=.type "list"/\o.dict=none/\o.data=.seq Z n/\Z.size<=sizeLine/\Vals xs Z.toList
def J5(K:Fg)(H:Hp)(a:Addr)(xs:List V):Prop :=
 Rd H a (.tup xs) \/
  ∃(o:Obj)(Z:Q1)(n:Nat),K.lookup a=some o/\o.cls=.type "tuple"/\o.data=.seq Z n/\Z.size<=sizeLine/\Vals xs Z.toList
noncomputable def bdx:Value->Option V
 |.none=>some .non|.bool b=>some (.bl b)|.int i _=>some (.int i)|.str x _=>some (.str x)|.bytes b _=>some (.byt b)|.float b _=>some (.flt b)|.ref a=>some (.ref a)|.type n=>some (.ty n)|_=>none
def RelV.abs(r:RelV x u):bdx u=some x:=by
 cases x with
 |non=>cases r;rfl|bl _=>cases r;rfl|int _=>obtain⟨t,rfl⟩:=r;rfl
 |str _=>obtain⟨t,rfl⟩:=r;rfl
 |byt _=>obtain⟨t,rfl⟩:=r;rfl
 |flt _=>obtain⟨t,rfl⟩:=r;rfl
 |ref _=>cases r;rfl|ty _=>cases r;rfl
def RelV.inj(r:RelV x u)(q:RelV y u):x=y:=jt (r.abs.symm.trans q.abs)
theorem Vals.inj:∀{xs ys:List V}{us:Zl},Vals xs us->Vals ys us->xs=ys
 |_,_,_,.nil,.nil=>rfl|_,_,_,.cons r t,.cons r' t'=>by rw[r.inj r',Vals.inj t t']
def Gw.of{K:Fg}(h:H a=some (.lst xs)):Gw K H a xs:=.inl (.inl h)
def J5.of{K:Fg}(h:H a=some (.tup xs)):J5 K H a xs:=.inl (.inl h)
def Inv.list(I:Inv X pins σ H s)(h:Gw X.K H a xs):∃Z:List Value,Vals xs Z/\PlainL s.heap a Z.toArray/\xs.length<=sizeLine:=by
 rcases h with h|⟨o,Z,n,hk,hc,hd,hs,hz,r⟩
 .obtain⟨z,Z,n,r,e⟩:=h.ok I.Ar
  exact⟨Z,r,⟨_,n,e,rfl,rfl,rfl⟩,z⟩
 .refine⟨Z.toList,r,⟨o,n,I.Su a o hk,hc,hd,by simpa using hs⟩,?_⟩
  have e:=r.length;simp only[wk] at e;exact a_ (f_ e) hz
def Inv.tuple(I:Inv X pins σ H s)(h:J5 X.K H a xs):∃Z:List Value,Vals xs Z/\IsTup s.heap a Z.toArray/\xs.length<=sizeLine:=by
 rcases h with h|⟨o,Z,n,hk,hc,hs,hz,r⟩
 .obtain⟨z,Z,r,p⟩:=h.ok I.Ar
  exact⟨Z,r,p.is,z⟩
 .refine⟨Z.toList,r,⟨o,I.Su a o hk,hc,n,by simpa using hs⟩,?_⟩
  have e:=r.length;simp only[wk] at e;exact a_ (f_ e) hz
def Inv.ac8(I:Inv X pins σ H s)(h:Gw X.K H a xs)(h':Gw X.K H a ys):xs=ys:=by
 obtain⟨U,r,⟨o,n,e,_,_,d⟩,_⟩:=I.list h;obtain⟨its',R,⟨o',n',Z,_,_,G⟩,_⟩:=I.list h';rw[e] at Z;cases Z;rw[d] at G;injection G with d1 _
 have:U=its':=by simpa using nq Array.toList d1
 subst this;exact r.inj R
def Inv.Yv(I:Inv X pins σ H s)(h:J5 X.K H a xs)(h':J5 X.K H a ys):xs=ys:=by
 obtain⟨U,r,⟨o,e,_,n,d⟩,_⟩:=I.tuple h;obtain⟨its',R,⟨o',Z,_,n',G⟩,_⟩:=I.tuple h';rw[e] at Z;cases Z;rw[d] at G;injection G with d1 _
 have:U=its':=by simpa using nq Array.toList d1
 subst this;exact r.inj R
noncomputable abbrev Cx.Xz(X:Cx)(E:Y3):Cx:={ X with xe:=E }
noncomputable abbrev Cx.nox(X:Cx):Cx:=X.Xz λ_ _=>False
theorem Cx.Ok.Xz{X:Cx}(ok:X.Ok)(E:Y3):(X.Xz E).Ok :=
 ⟨ok.mod,ok.kind,ok.glob,ok.blt,ok.above,ok.inj,ok.has,ok.cab,ok.hd,ok.frames,ok.stk,ok.exf,ok.bs,ok.bsz,ok.ank,ok.atg,ok.U9,ok.frf⟩
def Cx.Ok.N8{X:Cx}(ok:(X.Xz E).Ok):X.Ok :=
 ⟨ok.mod,ok.kind,ok.glob,ok.blt,ok.above,ok.inj,ok.has,ok.cab,ok.hd,ok.frames,ok.stk,ok.exf,ok.bs,ok.bsz,ok.ank,ok.atg,ok.U9,ok.frf⟩
theorem Inv.Xz(I:Inv X pins σ H s)(E:Y3):Inv (X.Xz E) pins σ H s:=⟨I.ok.Xz E,I.os,I.bare,I.base,I.loc,I.cell,I.free,I.N7,I.pin,I.Ar,I.len⟩
theorem Inv.N8(I:Inv (X.Xz E) pins σ H s):Inv X pins σ H s:=⟨I.ok.N8,I.os,I.bare,I.base,I.loc,I.cell,I.free,I.N7,I.pin,I.Ar,I.len⟩
theorem SP.N8(h:SP (X.Xz E) pins D f s'):SP X pins D f s':=by
 cases f with
 |next=>obtain⟨Z,G,I,q⟩:=h;exact⟨Z,G,I.N8,q⟩
 |brk=>obtain⟨Z,G,I,q⟩:=h;exact⟨Z,G,I.N8,q⟩
 |cont=>obtain⟨Z,G,I,q⟩:=h;exact⟨Z,G,I.N8,q⟩
 |ret u=>obtain⟨v,Z,G,I,r,q⟩:=h;exact⟨v,Z,G,I.N8,r,q⟩
theorem Rr.nox{st:List Stmt}(h:Rr X.nox st t):Rr X st t:=λZ s G H D I U =>
 mq (h Z s G H D (I.Xz _) U) (λ_ _ q=>q.N8) λ_ _ z=>False.elim z
def axj:TS:=λD Z H=>D.nx Z H
def bdz(t u:TS):TS:=λD Z H=>t { D with nx:=u D } Z H
def atk:Rr X [] axj:=λ_ _ Z H _ I h=>wpAny_execs_nil ⟨Z,H,I,h⟩
def anp{st:Stmt}{rest:List Stmt}(h1:PS X st t)(h2:Rr X rest u):Rr X (st::rest) (bdz t u):=by
 intro Z s σ H D I h;refine wpAny_execs_cons (Bj (h1 Z s σ H { D with nx:=u D } I h) λf R q=>?_);cases f with
 |next =>
  obtain⟨G,U,I',q⟩:=q;exact h2 Z R G U D I' q
 |ret v=>exact q|brk=>exact q|cont=>exact q
def azy:TS:=λD Z H=>D.bk Z H
def a6q:TS:=λD Z H=>D.ct Z H
def atl:PS X (.Pass pos) axj:=λ_ _ Z H _ I h=>wpAny_Pass ⟨Z,H,I,h⟩
def anq:PS X (.Break pos) azy:=λ_ _ Z H _ I h=>wpAny_Break ⟨Z,H,I,h⟩
def ac9:PS X (.Continue pos) a6q:=λ_ _ Z H _ I h=>wpAny_Continue ⟨Z,H,I,h⟩
def Inv.quiet(I:Inv X pins σ H s):interactive X.env=false:=by simp[interactive,I.ok.kind]
def a6r(G:TE):TS:=λD Z H=>G Z H λ_ U=>D.nx Z U
def atm(U:PE X e R)(hs:swapsWith e none pos.line X.env=pure false:=by rfl):PS X (.Expr e pos) (a6r R):=by intro Z s G H D I h;exact wpAny_Expr_any (Bj (U Z s G H _ I h) λv s1 ⟨x,H1,I1,r1,q1⟩=>⟨G,H1,I1,q1⟩) I.quiet hs
def bd1(Z:TE):TS:=λD G H=>Z G H D.rt
def azz(U:PE X e R):PS X (.Return (some e) pos) (bd1 R):=by intro Z s G H D I h;exact wpAny_Return_some (Bj (U Z s G H _ I h) λv s1 ⟨x,H1,I1,r1,q1⟩=>⟨x,G,H1,I1,r1,q1⟩)
def bd2(c:TT)(t u:TS):TS:=λD Z H=>c Z H λb G=>if b=true then t D Z G else u D Z G
def a6s(hc:PT X c tc)(ha:Rr X a t)(hb:Rr X b u):PS X (.If c a b pos) (bd2 tc t u):=by
 intro Z s G H D I h;refine wpAny_If (Bj (hc Z s G H _ I h) λd U z_=>?_);obtain⟨H1,R,q1⟩:=z_;cases d with
 |true=>exact ha Z U G H1 D R q1|false=>exact hb Z U G H1 D R q1
abbrev TG:=V->St->Hp->(St->Hp->Prop)->Prop
abbrev TGs:=List V->St->Hp->(St->Hp->Prop)->Prop
def PG(X:Cx)(Z:Expr)(t:TG):Prop :=
 ∀(G:Zp)(s:Shared)(σ:St)(H:Hp)(v:V)(u:Value)(Q:St->Hp->Prop),Inv X G σ H s->RelV v u->t v σ H Q ->
  wpAny (model X.prog X.w) X.A (assign Z X.env u) (λ_ s'=>∃U R,Inv X G U R s'/\Q U R) X.xe s
def PGs(X:Cx)(ts:X0)(t:TGs):Prop :=
 ∀(Z:Zp)(s:Shared)(σ:St)(H:Hp)(vs:List V)(R:Zl)(Q:St->Hp->Prop),Inv X Z σ H s->Vals vs R->t vs σ H Q ->
  wpAny (model X.prog X.w) X.A (assignInOrder ((assignEach ts X.env).map (·.2)) R) (λ_ s'=>∃G U,Inv X Z G U s'/\Q G U) X.xe s
abbrev az0:=V->V->V->Hp->(Hp->Prop)->Prop
def az1(X:Cx)(t:az0):Prop :=
 ∀(Z:Zp)(s:Shared)(R:St)(H:Hp)(o i v:V)(U iv u:Value)(Q:Hp->Prop),Inv X Z R H s->RelV o U->RelV i iv->RelV v u->t o i v H Q ->
  wpAny (model X.prog X.w) X.A (setItem U iv u) (λ_ s'=>∃G,Inv X Z R G s'/\Q G) X.xe s
def aht(i:Nat):TG:=λv Z H Q=>Q (Z.set i (some v)) H
def aaw(U:X.N.Nodup)(hi:X.N[i]?=some x)(G:Loc X.env.scope x)(R:X.fn x=true\/X.env.scope.names.lookup x=some .local:=by first|exact .inl rfl|exact .inr rfl|assumption):PG X (.Name x pos) (aht i):=by intro Z s σ H v u Q I r h;exact wpAny_assign_Name (anm I U hi G r (λs' I'=>⟨_,H,I',h⟩) R)
def bd3:TGs:=λG Z H Q=>G=[]/\Q Z H
def a6v(t:TG)(u:TGs):TGs:=λR U H Q=>∃v r,R=v::r/\t v U H fun Z G=>u r Z G Q
def atn:PGs X [] bd3:=by intro Z s G H R U Q I r h;obtain⟨e,h⟩:=h;subst e;cases r;exact assignInOrder_nil ⟨G,H,I,h⟩
def anr(h1:PG X e t)(h2:PGs X es u)(hs:(assignEach (e::es) X.env).map (·.2)=assign e X.env::(assignEach es X.env).map (·.2):=by rfl):PGs X (e::es) (a6v t u):=by
 intro Z s σ H vs us Q I r h;obtain⟨v,vr,U,h⟩:=h;subst U;cases r with
 |cons r rr =>
  rw[hs];refine assignInOrder_cons (Bj (h1 Z s σ H _ _ _ I r h) λ_ R z_=>?_);obtain⟨G,H1,I1,q1⟩:=z_;exact h2 Z R G H1 _ _ Q I1 rr q1
def bd4(K:Fg)(n:Nat)(t:TGs):TG:=λv G H Q=>∃a Z,v=.ref a/\J5 K H a Z/\Z.length=n/\t Z G H Q
def az2(hc:X.calm=true)(h:PGs X es t)(hn:(assignEach es X.env).length=n:=by rfl)(Xv:(assignEach es X.env).findIdx? (·.1)=none:=by rfl):PG X (.Tuple es k pos) (bd4 X.K n t):=by
 intro Z s R H v u Q I r G;obtain⟨a,xs,e1,hq,hl,G⟩:=G;subst e1;cases r;obtain⟨yq,U,ht,hz⟩:=I.tuple hq;refine assign_Tuple_tuple (I.ok.hd hc) ht (by simp[hn,<- hl,U.length]) Xv λh' hx=>?_
 have I1:Inv X Z R H { s with heap:=h' }:=I.kept (t':=s.toks) λb o e=>hx b o (dq (au e)) e
 exact h Z _ R H xs _ Q I1 (by simpa using U) G
def bd5(G R:TE)(t:az0):TG:=λv Z H Q=>G Z H λo H1=>R Z H1 λi H2=>t o i v H2 λU=>Q Z U
def az3(ho:PE X o to)(hi:PE X i ti)(hs:az1 X t)(ha:∀v,assign (.Subscript o i pos) X.env v=(do
 let G <- holding [v] (eval o X.env)
 let U <- holding [v,G] (eval i X.env)
 standAt pos
 holding [v,G,U] (setItem G U v)
 release [v,G,U] []):=by intro _;rfl):PG X (.Subscript o i pos) (bd5 to ti t):=by
 intro Z s R H v u Q I r h;rw[ha];refine aa (il (Bj (ho Z s R H _ I h) λG s1 z_=>?_));obtain⟨x,H1,I1,r1,q1⟩:=z_;refine aa (il (Bj (hi Z s1 R H1 _ I1 q1) λU s2 z_=>?_));obtain⟨y,H2,I2,r2,q2⟩:=z_;refine aa (wpAny_standAt (aa (il (Bj (hs Z s2 R H2 x y v G U u _ I2 r1 r2 r q2) λ_ s3 z_=>?_))));obtain⟨H3,I3,q3⟩:=z_;exact wpAny_release ⟨R,H3,I3,q3⟩
def az4(G:TE)(g:TG):TS:=λD Z H=>G Z H λx U=>g x Z U D.nx
def ant(U:PE X e te)(R:PG X tg g)(hs:swapsWithSole [tg] e pos.line X.env=pure false:=by rfl)(hw:swappedStores [tg] e X.env=pure none:=by rfl)(h1:(assignEach [tg] X.env).map (·.2)=[assign tg X.env]:=by rfl):PS X (.Assign [tg] e pos) (az4 te g):=by intro Z s G H D I h;refine wpAny_Assign_stores (Bj (U Z s G H _ I h) λv s1 ⟨x,H1,I1,r1,q1⟩=>?_) hs hw;rw[h1];exact Bj (R Z s1 G H1 x v _ I1 r1 q1) λ_ s2 q=>q
def az5(c:TT)(tb:TS):TS:=λD Z H=>∃W:Nat->St->Hp->Prop,(∃m,W m Z H)/\∀m Z H,W m Z H ->
 c Z H λb H1=>if b=true then ∃N:St->Hp->Prop,(∀G U,N G U->∃R,R<m/\W R G U)/\tb { D with nx:=N,ct:=N,bk:=D.nx } Z H1 else D.nx Z H1
def anu(hp:PassesOwn (model X.prog X.w) X.A X.env X.xe)(hc:PT X c tc)(hb:Rr X body tb):PS X (.While c body [] pos) (az5 tc tb):=by
 intro Z s σ H D I h;obtain⟨W,⟨m0,w0⟩,R⟩:=h;refine wpAny_While (codeAny_whileLoop (λn s'=>∃qq H',Inv X Z qq H' s'/\W n qq H') ?_ m0 ⟨σ,H,I,w0⟩);rintro n s1 ⟨U,H1,I1,w1⟩;refine u5 hp (Bj (hc Z s1 U H1 _ I1 (R n U H1 w1)) λb s2 z_=>?_);obtain⟨H2,I2,q2⟩:=z_;cases b with
 |true =>
  obtain⟨N,hN,q2⟩:=q2;rw[cj rfl];refine u5 hp (Bj (hb Z s2 U H2 _ I2 q2) λf s3 q3=>?_);cases f with
  |next =>
   obtain⟨G,H3,I3,n3⟩:=q3;obtain⟨m',hm,w3⟩:=hN G H3 n3;exact⟨m',hm,G,H3,I3,w3⟩
  |cont =>
   obtain⟨G,H3,I3,n3⟩:=q3;obtain⟨m',hm,w3⟩:=hN G H3 n3;exact⟨m',hm,G,H3,I3,w3⟩
  |brk=>exact q3|ret v=>exact q3
 |false =>
  rw[bx jg];exact wpAny_execs_nil ⟨U,H2,I2,q2⟩
structure It where
 go:Nat->Hp->Prop
 yld:Nat->Hp->V->Hp->Prop
 stop:Nat->Hp->Prop
def Va(X:Cx)(Z:Zp)(H:Hp)(b:Addr):Prop :=
 H b=none/\b≠X.env.locals/\b∉X.fs/\(b∈X.ex\/X.s₀.heap.objs.size<=b)/\(∀x c,X.env.cells.lookup x=some c->c≠b)/\∀p∈X.pn++Z,p.1≠b
def Inv.anv(I:Inv X pins σ H s)(Z:s.heap.objs.size<=b)(U:H' b=none):Va X pins H' b:=by
 refine⟨U,o7 (gr I.lt Z),I.ath Z,.inr (ie I.sz Z),λx c e z=>?_,λp G z=>?_⟩
 .obtain⟨v,q⟩:=I.cell x c e
  exact absurd (gr q.lt (by rw[z];exact Z)) (m7 _)
 .exact absurd (gr (au (I.pin p G).1) (by rw[z];exact Z)) (m7 _)
structure Turn(P:Program)(w:World)(K:Fg)(tg:Expr)(J:It)(fp:Xt)(it:Addr)(tn:Nat->Heap->Prop):Prop where
 mem:it∈fp
 obj:∀i h,tn i h->∀b∈fp,∃o,h.get? b=some o/\∀v,o.data≠.cell v
 keep:∀i h h',tn i h->(∀b∈fp,∀o,h.get? b=some o->h'.get? b=some o)->tn i h'
 item:∀(X:Cx),X.prog=P->X.w=w->X.K=K->X.calm=true->∀(i:Nat)(pins:Zp)(s:Shared)(σ:St)(H:Hp)(E:Y3),Inv X pins σ H s->(∀b∈fp,Va X pins H b)->tn i s.heap->J.go i H ->
  wpAny (model P w) X.A (pyNext (.ref it)) (λr s1=>∃u,r=some u /\
   wpAny (model P w) X.A (letOwnedTupleGo tg (.ref it) u) (λ_ s2=>∃x H',Inv X pins σ H' s2/\RelV x u/\J.yld i H x H'/\tn (i+1) s2.heap/\∀b∈fp,H' b=none) E s1) E s
 done:∀(X:Cx),X.prog=P->X.w=w->X.K=K->X.calm=true->∀(i:Nat)(pins:Zp)(s:Shared)(σ:St)(H:Hp)(E:Y3),Inv X pins σ H s->(∀b∈fp,Va X pins H b)->tn i s.heap->J.stop i H ->
  wpAny (model P w) X.A (pyNext (.ref it)) (λr s1=>r=none/\Inv X pins σ H s1) E s
 self:∀(A:Around)(i:Nat)(s:Shared)(Q:Y3)(E:Y3),tn i s.heap->Q (.ref it) s->wpAny (model P w) A (pyIter (.ref it)) Q E s
abbrev TI:=St->Hp->(It->Hp->Prop)->Prop
def PIE(X:Cx)(Z:Zp)(σ:St)(tg:Expr)(R:It->Hp->Prop)(U:Value)(s2:Shared):Prop :=
 ∃(it:Addr)(fp:Xt)(tn:Nat->Heap->Prop)(J:It)(G:Hp),U=.ref it/\Inv X Z σ G s2/\Turn X.prog X.w X.K tg J fp it tn/\tn 0 s2.heap/\(∀b∈fp,Va X Z G b)/\R J G
def PI(X:Cx)(tg G:Expr)(wi:TI):Prop :=
 ∀(Z:Zp)(s:Shared)(U:St)(H:Hp)(R:It->Hp->Prop),Inv X Z U H s->wi U H R ->
  wpAny (model X.prog X.w) X.A (eval G X.env) (λv s1=>wpAny (model X.prog X.w) X.A (pyIter v) (PIE X Z U tg R) X.xe s1) X.xe s
def anw(U:s.heap.get? it=some o)(R:o.cls=.type n)(hd:o.data=.fields vs)(G:["enumerate", "zip", "dict_itemiterator", "dict_reverseitemiterator", "odict_iterator", "itertools.zip_longest", "itertools.pairwise"].contains n=false)(Z:Q () s):wpAny M A (letOwnedTupleGo tg (.ref it) u) Q E s:=by
 unfold letOwnedTupleGo;cases tg<;>first
  |exact aj Z
  | (cases u<;>first
   |exact aj Z
   | (refine aa (wpAny_load U ?_)
      rw[R,hd];show wpAny M A (if(["enumerate", "zip", "dict_itemiterator", "dict_reverseitemiterator", "odict_iterator", "itertools.zip_longest", "itertools.pairwise"].contains n&&vs[0]?==some (rawInt _))=true then _ else _) Q E s;rw[bx (by intro h;rw[G,Bool.false_and] at h;cases h)];exact aj Z))
noncomputable def Itl(K:Fg)(a:Addr):It :=
 ⟨λi H=>∃Z x,Gw K H a Z/\Z[i]?=some x,λi H x G=>G=H/\∀Z,Gw K H a Z->Z[i]?=some x,λi H=>∃Z,Gw K H a Z/\Z.length<=i⟩
noncomputable def Itt(K:Fg)(a:Addr):It :=
 ⟨λi H=>∃Z x,J5 K H a Z/\Z[i]?=some x,λi H x G=>G=H/\∀Z,J5 K H a Z->Z[i]?=some x,λi H=>∃Z,J5 K H a Z/\Z.length<=i⟩
noncomputable def Qv(lo:Int)(n:Nat):It:=⟨λi _=>i<n,λi H x Z=>Z=H/\x=.int (lo+i),λi _=>n<=i⟩
theorem aj1{K:Fg}(a it:Addr):Turn P w K tg (Itl K a) [it] it (λi h=>h.IsListIter it a i) where
 mem:=by simp
 obj:=λi h st b G=>by
  have e:b=it:=by simpa using G
  subst e;obtain⟨o,e,c,d⟩:=st;exact⟨o,e,λv z=>by rw[d] at z;cases z⟩
 keep:=λi h h' st k=>st.at λo e=>k it (by simp) o e
 item:=by
  intro X hP hw hK hc i Z s σ H E I hf st hg;subst hP hw hK;obtain⟨xs,x,hq,R⟩:=hg;obtain⟨yq,rv,p,hz⟩:=I.list hq;obtain⟨u,hu,ru⟩:=rv.get R;obtain⟨f0,f1,f2,f3,f4,f5⟩:=hf it (by simp);refine wpAny_pyNext_list_item st p.isList (x:=u) (by simpa using hu) λh' U sb=>?_
  have I1:Inv X Z σ H { s with heap:=h' }:=I.turned (t':=s.toks) (λb o G e=>(sb.2 b G).trans e) f0 f1 f3 f4 f5;obtain⟨o,e,c,d⟩:=id U;exact⟨u,rfl,anw (s:={ s with heap:=h' }) e c d (by decide) ⟨x,H,I1,ru,⟨rfl,λys hy=>by rw[I.ac8 hy hq];exact R⟩,U,λb G=>(hf b G).1⟩⟩
 done:=by intro X hP hw hK hc i Z s σ H E I hf st hg;subst hP hw hK;obtain⟨xs,hq,R⟩:=hg;obtain⟨yq,rv,p,hz⟩:=I.list hq;obtain⟨f0,f1,f2,f3,f4,f5⟩:=hf it (by simp);have hl:=rv.length;exact wpAny_pyNext_list_end (I.ok.hd hc) st p.isList (by simp;exact a_ (g_ hl) R) λh' eb=>⟨rfl,I.turned (t':=s.toks) (λb o G e=>eb b o G e) f0 f1 f3 f4 f5⟩
 self:=λ_ _ _ _ _ st h=>wpAny_pyIter_listiter st h
theorem af0{K:Fg}(a it:Addr):Turn P w K tg (Itt K a) [it] it (λi h=>h.IsTupleIter it a i) where
 mem:=by simp
 obj:=λi h st b G=>by
  have e:b=it:=by simpa using G
  subst e;obtain⟨o,e,c,d⟩:=st;exact⟨o,e,λv z=>by rw[d] at z;cases z⟩
 keep:=λi h h' st k=>st.at λo e=>k it (by simp) o e
 item:=by
  intro X hP hw hK hc i Z s σ H E I hf st hg;subst hP hw hK;obtain⟨xs,x,hq,R⟩:=hg;obtain⟨yq,rv,p,hz⟩:=I.tuple hq;obtain⟨u,hu,ru⟩:=rv.get R;obtain⟨f0,f1,f2,f3,f4,f5⟩:=hf it (by simp);refine wpAny_pyNext_tuple_item st (show s.heap.IsTuple a yq.toArray from p) (x:=u) (by simpa using hu) λh' U sb=>?_
  have I1:Inv X Z σ H { s with heap:=h' }:=I.turned (t':=s.toks) (λb o G e=>(sb.2 b G).trans e) f0 f1 f3 f4 f5;obtain⟨o,e,c,d⟩:=id U;exact⟨u,rfl,anw (s:={ s with heap:=h' }) e c d (by decide) ⟨x,H,I1,ru,⟨rfl,λys hy=>by rw[I.Yv hy hq];exact R⟩,U,λb G=>(hf b G).1⟩⟩
 done:=by intro X hP hw hK hc i Z s σ H E I hf st hg;subst hP hw hK;obtain⟨xs,hq,R⟩:=hg;obtain⟨yq,rv,p,hz⟩:=I.tuple hq;obtain⟨f0,f1,f2,f3,f4,f5⟩:=hf it (by simp);have hl:=rv.length;exact wpAny_pyNext_tuple_end (I.ok.hd hc) st (show s.heap.IsTuple a yq.toArray from p) (by simp;exact a_ (g_ hl) R) λh' eb=>⟨rfl,I.turned (t':=s.toks) (λb o G e=>eb b o G e) f0 f1 f3 f4 f5⟩
 self:=λ_ _ _ _ _ st h=>wpAny_pyIter_tupleiter st h
theorem af1{K:Fg}(it:Addr)(lo:Int)(n:Nat):Turn P w K tg (Qv lo n) [it] it (λi h=>IsRangeIter h it (lo+(i:Nat)*1) ((n:Int)-(i:Nat)) 1) where
 mem:=by simp
 obj:=λi h st b G=>by
  have e:b=it:=by simpa using G
  subst e;exact⟨_,st,λv z=>by
   have z':Data.fields _=Data.cell v:=z;cases z'⟩
 keep:=λi h R st k=>k it (by simp) _ st
 item:=by
  intro X hP hw hK hc i Z s σ H E I hf st hg;subst hP hw hK;obtain⟨f0,f1,f2,f3,f4,f5⟩:=hf it (by simp);have W:=Walks.range (prog:=X.prog) (w:=X.w) (I.ok.hd hc) it lo 1 n;refine W.item i s _ _ hg st λv R tk hv U kk=>?_
  obtain⟨t,rfl⟩:=hv;have I1:Inv X Z σ H { s with heap:=R,toks:=tk }:=I.turned (λb o G e=>kk b o (by simpa using G) e) f0 f1 f3 f4 f5;refine⟨_,rfl,anw (s:={ s with heap:=R,toks:=tk }) (n := "range_iterator") U rfl rfl (by decide) ⟨.int (lo+i),H,I1,⟨t,?_⟩,⟨rfl,rfl⟩,U,λb G=>(hf b G).1⟩⟩;rw[Int.mul_one]
 done:=by intro X hP hw hK hc i Z s σ H E I hf st hg;subst hP hw hK;obtain⟨f0,f1,f2,f3,f4,f5⟩:=hf it (by simp);exact wpAny_pyNext_range_end (I.ok.hd hc) st (by have:n<=i:=hg;lia) λR eb=>⟨rfl,I.turned (t':=s.toks) (λb o G e=>eb b o G e) f0 f1 f3 f4 f5⟩
 self:=λ_ _ _ _ _ st h=>wpAny_pyIter_rangeiter st h
end L2
namespace L2
open PySem PySem.Spec PyProof.Rows
def anx{lo:Int}(I:Inv X pins σ H s)(h1:-(2 ^ 62)<=lo)(h2:lo<2 ^ 62)(G:-(2 ^ 62)<=hi)(h4:hi<2 ^ 62)(q:R (Qv lo (hi-lo).toNat) H):wpAny (model X.prog X.w) X.A (pyIter (.ref s.heap.objs.size)) (PIE X pins σ tg R) E { s with heap:=s.heap.push { cls:=.type "range",data:=.fields #[.int lo t,.int hi u,.int 1 v] },toks:=tk }:=by
 refine wpAny_pyIter_range (IsRange.new ..) (small_one h1 h2 G h4) ?_;have Z:Inv X pins σ H { s with heap:=s.heap.push { cls:=.type "range",data:=.fields #[.int lo t,.int hi u,.int 1 v] },toks:=tk }:=I.kept λb o e=>ao _ e
 refine⟨(s.heap.push { cls:=.type "range",data:=.fields #[.int lo t,.int hi u,.int 1 v] }).objs.size,[(s.heap.push { cls:=.type "range",data:=.fields #[.int lo t,.int hi u,.int 1 v] }).objs.size],_,_,H,rfl,
  Z.kept (t':=tk) λb o e=>ao _ e,af1 _ lo (hi-lo).toNat,?_,λb hb=>?_,q⟩
 .have U:lo+((0:Nat):Int)*1=lo:=by simp
  have e2:(((hi-lo).toNat:Nat):Int)-((0:Nat):Int)=Builtin.Range.rangeSize lo hi 1:=by rw[rangeSize_one];split<;>lia
  show IsRangeIter _ _ (lo+((0:Nat):Int)*1) ((((hi-lo).toNat:Nat):Int)-((0:Nat):Int)) 1;rw[U,e2];exact bc _ rfl
 .have e:b=(s.heap.push { cls:=.type "range",data:=.fields #[.int lo t,.int hi u,.int 1 v] }).objs.size:=by simpa using hb
  subst e;exact Z.anv (bf _) (Z.Ar.fresh (bf _))
def a6x(Z:TA):TI:=fun G H R=>Z G H λvs U=>∃j:Int,vs=[.int j]/\-(2 ^ 62)<=j/\j<2 ^ 62/\R (Qv 0 j.toNat) U
def aj2{X:Cx}{tg:Expr}(hg:Gl X "range")(hm:X.mg "range" = none)(U:PA X [a] ta)(hs:starEach [a] X.env=[(false,eval a X.env)]:=by rfl):PI X tg (.Call (.Name "range" p) [a] [] pos) (a6x ta):=by
 intro Z s σ H R I h;refine Call_ (Bq I hg hm boot_range (iw (Bj (U pos Z s σ H _ I h) λus s1 ⟨vs,H1,I1,r1,G⟩=>?_) hs rfl));obtain⟨j,e,G,q2,q⟩:=G;subst e;cases r1 with
 |cons r rr =>
  cases rr;obtain⟨t,rfl⟩:=r;exact call_range_1 (anx I1 (by lia) (by lia) G q2 (by simpa using q))
def bd7(wi:TI)(g:TG)(tb:TS):TS:=λD Z H=>wi Z H λJ H1=>∃W:Nat->Nat->St->Hp->Prop,(∃m,W 0 m Z H1)/\∀i m Z H,W i m Z H ->
 (J.stop i H/\D.nx Z H)\/(J.go i H/\∃N:St->Hp->Prop,(∀U G,N U G->∃m',m'<m/\W (i+1) m' U G)/\∀x G,J.yld i H x G->g x Z G fun R H2=>tb { D with nx:=N,ct:=N,bk:=D.nx } R H2)
noncomputable def Tz(Z:Xt)(h:Heap):List (Addr×Obj):=Z.filterMap λb=>(h.get? b).map λo=>(b,o)
def Kq(Z:b∈G)(e:h.get? b=some o):(b,o)∈Tz G h:=List.mem_filterMap.mpr ⟨b,Z,by rw[e];rfl⟩
def aj3(hp:p∈Tz G h):p.1∈G/\h.get? p.1=some p.2:=by
 obtain⟨b,Z,e⟩:=List.mem_filterMap.mp hp;cases q:h.get? b with
 |none=>rw[q] at e;cases e
 |some o =>
  rw[q] at e;have U:(b,o)=p:=jt e;subst U;exact⟨Z,q⟩
def Inv.pinned{X:Cx}(I:Inv X pins σ H s)(hf:∀b∈U,Va X pins H b)(R:∀b∈U,∃o,s.heap.get? b=some o/\∀v,o.data≠.cell v):Inv X (pins++Tz U s.heap) σ H s :=
 I.Kp λp hp=>(dh.mp hp).elim (λz=>I.pin p (gq _ z)) λz=>by obtain⟨Z,e⟩:=aj3 z;obtain⟨f0,f1,f2,_⟩:=hf p.1 Z;obtain⟨o,G,d⟩:=R p.1 Z;rw[e] at G;cases G;exact⟨e,f0,f1,f2,d⟩
def Inv.Oa{X:Cx}(I:Inv X (pins++pl) σ H s):Inv X pins σ H s:=I.Kp λp Z=>I.pin p (gq _ (ue _ Z))
def az6{X:Cx}{tg:Expr}(hp:PassesOwn (model X.prog X.w) X.A X.env X.xe)(hc:X.calm=true)(hi:PI X tg iter wi)(hg:PG X tg g)(hb:Rr X body tb)(hs:∀x,foldedSetIterable iter X.env x=pure x:=by intro _;rfl):PS X (.For tg iter body [] pos) (bd7 wi g tb):=by
 intro G s σ H D I h;refine wpAny_For (Bj (hi G s σ H _ I h) λv s1 h1=>Bj h1 λzv s2 h2=>?_) hs;obtain⟨it,fp,tn,J,H2,e,I2,T,zz,f2,W,⟨m0,w0⟩,q1⟩:=h2;subst e;have qv:∀{H':Hp},(∀b∈fp,H' b=none)->∀b∈fp,Va X G H' b:=λhn b hb=>⟨hn b hb,(f2 b hb).2⟩
 refine codeAny_forLoop_any (λn s'=>∃i R H',Inv X G R H' s'/\tn i s'.heap/\(∀b∈fp,H' b=none)/\W i n R H') ?_ m0 ⟨0,σ,H2,I2,zz,λb hb=>(f2 b hb).1,w0⟩;rintro n s3 ⟨i,qq,H3,I3,q4,q3,w3⟩;rcases q1 i n qq H3 w3 with⟨q2,qn⟩|⟨go,N,hN,step⟩
 .refine u5 hp (Bj (T.done X rfl rfl rfl hc i G s3 qq H3 X.xe I3 (qv q3) q4 q2) λr s4 z_=>?_)
  obtain⟨hr,I4⟩:=z_;subst hr;exact wpAny_execs_nil ⟨qq,H3,I4,qn⟩
 .refine u5 hp (Bj (T.item X rfl rfl rfl hc i G s3 qq H3 X.xe I3 (qv q3) q4 go) λr s4 z_=>?_)
  obtain⟨u,hr,h4⟩:=z_;subst hr;refine u5 hp (Bj h4 λ_ s5 z_=>?_);obtain⟨x,H5,I5,r5,y5,q0,q5⟩:=z_;have zk:=I5.pinned (qv q5) (T.obj _ _ q0);refine u5 hp (Bj (hg _ s5 qq H5 x u _ zk r5 (step x H5 y5)) λ_ s6 z_=>?_);obtain⟨q8,H6,I6,q6⟩:=z_;refine u5 hp (Bj (hb _ s6 q8 H6 _ I6 q6) λf s7 q7=>?_);have qk:∀{Z:St}{H7:Hp},Inv X (G++Tz fp s5.heap) Z H7 s7->N Z H7->∃m,m<n/\∃i R H',Inv X G R H' s7/\tn i s7.heap/\(∀b∈fp,H' b=none)/\W i m R H':=fun{Z H7} U n7=>by obtain⟨m',hm,w7⟩:=hN Z H7 n7;refine⟨m',hm,i+1,Z,H7,U.Oa,T.keep _ _ _ q0 λb hb o e=>(U.pin (b,o) (gq _ (gq _ (Kq hb e)))).1,λb hb=>?_,w7⟩;obtain⟨o,e,d⟩:=T.obj _ _ q0 b hb;exact(U.pin (b,o) (gq _ (gq _ (Kq hb e)))).2.1
  cases f with
  |next=>obtain⟨Z,H7,U,n7⟩:=q7;exact qk U n7
  |cont=>obtain⟨Z,H7,U,n7⟩:=q7;exact qk U n7
  |brk=>obtain⟨Z,H7,U,q7⟩:=q7;exact⟨Z,H7,U.Oa,q7⟩
  |ret v=>obtain⟨x7,Z,H7,U,r7,q7⟩:=q7;exact⟨x7,Z,H7,U.Oa,r7,q7⟩
end L2
namespace L2
open PySem PySem.Spec PyProof.Rows
abbrev R2:=V->V->Hp->VK->Prop
def De(X:Cx)(f:Value->Value->Sem Value)(r:R2):Prop :=
 ∀(Z:Zp)(s:Shared)(G:St)(H:Hp)(x y:V)(v u:Value)(Q:VK),Inv X Z G H s->RelV x v->RelV y u->r x y H Q ->
  wpAny (model X.prog X.w) X.A (f v u) (EP X Z G Q) X.xe s
def UnR(X:Cx)(f:Value->Sem Value)(r:V->Hp->VK->Prop):Prop :=
 ∀(Z:Zp)(s:Shared)(G:St)(H:Hp)(x:V)(v:Value)(Q:VK),Inv X Z G H s->RelV x v->r x H Q ->
  wpAny (model X.prog X.w) X.A (f v) (EP X Z G Q) X.xe s
def Bw(X:Cx)(f:Value)(r:List V->Hp->VK->Prop):Prop :=
 ∀(Z:Zp)(s:Shared)(G:St)(H:Hp)(R:List V)(U:Zl)(Q:VK),Inv X Z G H s->Vals R U->r R H Q ->
  wpAny (model X.prog X.w) X.A (call f U) (EP X Z G Q) X.xe s
def tOp(r:R2)(ta G:TE):TE:=fun Z H Q=>ta Z H λx U=>G Z U λy R=>r x y R Q
def tUn(r:V->Hp->VK->Prop)(Z:TE):TE:=fun G H Q=>Z G H λx U=>r x U Q
def rI(C:Int->Int->Prop)(g:Int->Int->V):R2:=λx y H Q=>∃i j,x=.int i/\y=.int j/\C i j/\Q (g i j) H
def rI0(g:Int->Int->V):R2:=λx y H Q=>∃i j,x=.int i/\y=.int j/\Q (g i j) H
def rU(g:Int->V):V->Hp->VK->Prop:=λx H Q=>∃i,x=.int i/\Q (g i) H
def az8{X:Cx}{a b:Expr}{ta tb:TE}(ha:PE X a ta)(hb:PE X b tb){Z:Zp}{s:Shared}{U:St}{H:Hp}{R:V->V->Hp->Prop}(I:Inv X Z U H s)
 (h:ta U H λx H1=>tb U H1 λy G=>R x y G) {Q:Y3} {f:Value->Value->Sem Value}
 (hf:∀v u s2 x y G,Inv X Z U G s2->RelV x v->RelV y u->R x y G->wpAny (model X.prog X.w) X.A (f v u) Q X.xe s2) :
 wpAny (model X.prog X.w) X.A (eval a X.env) (λv qk=>wpAny (model X.prog X.w) X.A (eval b X.env) (λu qq=>wpAny (model X.prog X.w) X.A (f v u) Q X.xe qq) X.xe qk) X.xe s:=by
 refine Bj (ha Z s U H _ I h) λv s1 z_=>?_
 obtain⟨x,H1,I1,r1,q1⟩:=z_;refine Bj (hb Z s1 U H1 _ I1 q1) λu s2 z_=>?_
 obtain⟨y,G,I2,r2,q2⟩:=z_;exact hf v u s2 x y G I2 r1 r2 q2
def a6z{X:Cx}{a b:Expr}{U G:TE}{pos:Pos}{op:Operator}{r:R2}(ho:De X (binaryOp op) r)(R:PE X a U)(hb:PE X b G):PE X (.BinOp a op b pos) (tOp r U G):=by intro Z s σ H Q I h;exact wpAny_BinOp (az8 R hb I h λv u s2 x y H2 I2 rx ry q=>ho Z s2 σ H2 x y v u Q I2 rx ry q)
def a65{X:Cx}{a:Expr}{U:TE}{pos:Pos}{op:UnaryOp}{r:V->Hp->VK->Prop}(ho:UnR X (unaryOp op) r)(R:PE X a U):PE X (.UnaryOp op a pos) (tUn r U):=by intro Z s G H Q I h;exact UnaryOp_ (Bj (R Z s G H _ I h) λv s1 ⟨x,H1,I1,r1,q1⟩=>ho Z s1 G H1 x v Q I1 r1 q1)
def opI{X:Cx}{f:Value->Value->Sem Value}{C:Int->Int->Prop}{g:Int->Int->Int}
 (Z:∀(i j:Int)(t u:Tok)(s:Shared)(Q:Y3)(E:Y3),C i j->Q (.int (g i j) s.toks) { s with toks:=s.toks+1 }->wpAny (model X.prog X.w) X.A (f (.int i t) (.int j u)) Q E s) :
 De X f (rI C λi j=>.int (g i j)):=by
 intro G s σ H x y v u Q I U ry h;obtain⟨i,j,rfl,rfl,hc,q⟩:=h;obtain⟨t,rfl⟩:=U;obtain⟨R,rfl⟩:=ry;exact Z i j t R s _ _ hc ⟨.int (g i j),H,I.tok _,⟨_,rfl⟩,q⟩
def a66{X:Cx}{f:Value->Value->Sem Value}{g:Int->Int->Int}
 (Z:∀(i j:Int)(t u:Tok)(s:Shared)(Q:Y3)(E:Y3),Q (.int (g i j) s.toks) { s with toks:=s.toks+1 }->wpAny (model X.prog X.w) X.A (f (.int i t) (.int j u)) Q E s) :
 De X f (rI0 λi j=>.int (g i j)):=by
 intro G s σ H x y v u Q I U ry h;obtain⟨i,j,rfl,rfl,q⟩:=h;obtain⟨t,rfl⟩:=U;obtain⟨R,rfl⟩:=ry;exact Z i j t R s _ _ ⟨.int (g i j),H,I.tok _,⟨_,rfl⟩,q⟩
def atp{X:Cx}{f:Value->Value->Sem Value}{g:Int->Int->Bool}
 (Z:∀(i j:Int)(t u:Tok)(s:Shared)(Q:Y3)(E:Y3),Q (.bool (g i j)) s->wpAny (model X.prog X.w) X.A (f (.int i t) (.int j u)) Q E s) :
 De X f (rI0 λi j=>.bl (g i j)):=by
 intro G s σ H x y v u Q I U ry h;obtain⟨i,j,rfl,rfl,q⟩:=h;obtain⟨t,rfl⟩:=U;obtain⟨R,rfl⟩:=ry;exact Z i j t R s _ _ ⟨.bl (g i j),H,I,rfl,q⟩
def beb(i j:Int):Prop:=0<j/\j<1073741824
def bec(i j:Int):Prop:=0<=j/\j<=1000000/\i.natAbs<2 ^ 64
def az9(i j:Int):Prop:=(-(2 ^ 64)<i/\i<2 ^ 64)\/(-(2 ^ 64)<j/\j<2 ^ 64)
def az9.ok{i j:Int}(h:az9 i j):IntMulOk i j:=by
 rcases h with⟨G,Z⟩|⟨G,Z⟩
 .exact .of_left (intBits_le_64 G Z)
 .exact .of_right (intBits_le_64 G Z)
def a0a{X:Cx}:De X (binaryOp .Add) (rI0 λi j=>.int (i+j)):=a66 λ_ _ _ _ _ _ _ q=>add_int q
def a0b{X:Cx}:De X (binaryOp .Sub) (rI0 λi j=>.int (i-j)):=a66 λ_ _ _ _ _ _ _ q=>sub_int q
def a0c{X:Cx}:De X (binaryOp .Mult) (rI az9 λi j=>.int (i*j)):=opI λ_ _ _ _ _ _ _ Z q=>mul_int q Z.ok
def atq{X:Cx}:De X (binaryOp .FloorDiv) (rI beb λi j=>.int (i / j)):=opI λi j _ _ _ _ _ Z q=>by
 have U:(0:Int)<j:=Z.1
 have G:j<1073741824:=Z.2
 exact floordiv_int (by lia) (by rw[Int.fdiv_eq_ediv_of_nonneg i (by lia)];exact q) (.inl (PyProof.noPylong_small (by omega)))
def a0d{X:Cx}:De X (binaryOp .Mod) (rI (λ_ j=>0<j) λi j=>.int (i%j)):=opI λi j _ _ _ _ _ Z q=>by
 have G:(0:Int)<j:=Z
 exact mod_int' (by lia) (by rw[Int.fmod_eq_emod_of_nonneg i (by lia)];exact q)
def a0e{X:Cx}:De X (binaryOp .Pow) (rI bec λi j=>.int (i ^ j.toNat)):=opI λ_ _ _ _ _ _ _ Z q=>pow_int_small Z.1 Z.2.1 Z.2.2 q
def unI{X:Cx}{f:Value->Sem Value}{g:Int->Int}
 (Z:∀(i:Int)(t:Tok)(s:Shared)(Q:Y3)(E:Y3),Q (.int (g i) s.toks) { s with toks:=s.toks+1 }->wpAny (model X.prog X.w) X.A (f (.int i t)) Q E s) :
 UnR X f (rU λi=>.int (g i)):=by
 intro G s R H x v Q I U h;obtain⟨i,rfl,q⟩:=h;obtain⟨t,rfl⟩:=U;exact Z i t s _ _ ⟨.int (g i),H,I.tok _,⟨_,rfl⟩,q⟩
def a0f{X:Cx}:UnR X (unaryOp .USub) (rU λi=>.int (-i)):=unI λ_ _ _ _ _ q=>neg_int q
noncomputable def a0g:V->V->Bool
 |.non,.non=>true|.non,.int _=>true|.int _,.non=>true|.non,.bl _=>true|.bl _,.non=>true|.non,.str _=>true|.str _,.non=>true
 |.int _,.int _=>true|.bl _,.bl _=>true|.str _,.str _=>true|.byt _,.byt _=>true
 |.int _,.str _=>true|.str _,.int _=>true|.bl _,.str _=>true|.str _,.bl _=>true
 |_,_=>false
def rEq:R2:=λx y H Q=>a0g x y=true/\Q (.bl (decide (x=y))) H
def rNe:R2:=λx y H Q=>a0g x y=true/\Q (.bl (!decide (x=y))) H
def ahu{i j:Int}:decide (V.int i=V.int j)=(i==j):=by rw[yc];simp
def anz{i j:Bool}:decide (V.bl i=V.bl j)=(i==j):=by rw[yc];simp
def ahv{i j:Str}:decide (V.str i=V.str j)=(i==j):=by rw[yc];simp
def ahw{i j:Array UInt8}:decide (V.byt i=V.byt j)=(i.toList==j.toList):=by rw[yc];cases i;cases j;simp
def zf{X:Cx}{Z:Zp}{G:St}{H:Hp}{s:Shared}{Q:VK}{k k':Bool}(I:Inv X Z G H s)(q:Q (.bl k) H)(e:k=k'):EP X Z G Q (.bool k') s:=by subst e;exact⟨.bl k,H,I,rfl,q⟩
def a67{X:Cx}:De X (compareOp .Eq) rEq:=by
 intro qq s σ H x y v u Q I R Z h;obtain⟨U,q⟩:=h;cases x with
 |non =>
  cases R;cases y with
  |non=>cases Z;exact PySem.EqNone.eq_none_none (zf I q (by simp))|bl j=>cases Z;exact PySem.EqNone.eq_none_bool (zf I q (by simp))|int j=>obtain⟨G,rfl⟩:=Z;exact PySem.EqNone.eq_none_int (zf I q (by simp))
  |str j=>obtain⟨G,rfl⟩:=Z;exact PySem.EqNone.eq_none_str (zf I q (by simp))
  |_=>exact absurd (show false=true from U) jg
 |bl i =>
  cases R;cases y with
  |non=>cases Z;exact PySem.EqNone.eq_bool_none (zf I q (by simp))|bl j=>cases Z;exact eq_bool (zf I q anz)|str j=>obtain⟨G,rfl⟩:=Z;exact PySem.EqMixed.eq_bool_str (zf I q (by simp))
  |_=>exact absurd (show false=true from U) jg
 |int i =>
  obtain⟨t,rfl⟩:=R;cases y with
  |non=>cases Z;exact PySem.EqNone.eq_int_none (zf I q (by simp))|int j=>obtain⟨G,rfl⟩:=Z;exact eq_int (zf I q ahu)
  |str j=>obtain⟨G,rfl⟩:=Z;exact PySem.EqMixed.eq_int_str (zf I q (by simp))
  |_=>exact absurd (show false=true from U) jg
 |str i =>
  obtain⟨t,rfl⟩:=R;cases y with
  |non=>cases Z;exact PySem.EqNone.eq_str_none (zf I q (by simp))|bl j=>cases Z;exact PySem.EqMixed.eq_str_bool (zf I q (by simp))|int j=>obtain⟨G,rfl⟩:=Z;exact PySem.EqMixed.eq_str_int (zf I q (by simp))
  |str j=>obtain⟨G,rfl⟩:=Z;exact eq_str (zf I q ahv)
  |_=>exact absurd (show false=true from U) jg
 |byt i =>
  obtain⟨t,rfl⟩:=R;cases y with
  |byt j=>obtain⟨G,rfl⟩:=Z;exact PySem.W.eq_bytes (zf I q ahw)
  |_=>exact absurd (show false=true from U) jg
 |_=>cases y<;>exact absurd (show false=true from U) jg
def a68{X:Cx}:De X (compareOp .NotEq) rNe:=by
 intro qq s σ H x y v u Q I R Z h;obtain⟨U,q⟩:=h;cases x with
 |non =>
  cases R;cases y with
  |non=>cases Z;exact PySem.EqNone.ne_none_none (zf I q (by simp))|bl j=>cases Z;exact PySem.EqNone.ne_none_bool (zf I q (by simp))|int j=>obtain⟨G,rfl⟩:=Z;exact PySem.EqNone.ne_none_int (zf I q (by simp))
  |str j=>obtain⟨G,rfl⟩:=Z;exact PySem.EqNone.ne_none_str (zf I q (by simp))
  |_=>exact absurd (show false=true from U) jg
 |bl i =>
  cases R;cases y with
  |non=>cases Z;exact PySem.EqNone.ne_bool_none (zf I q (by simp))|bl j=>cases Z;exact ne_bool (zf I q (nq not anz))|str j=>obtain⟨G,rfl⟩:=Z;exact PySem.EqMixed.ne_bool_str (zf I q (by simp))
  |_=>exact absurd (show false=true from U) jg
 |int i =>
  obtain⟨t,rfl⟩:=R;cases y with
  |non=>cases Z;exact PySem.EqNone.ne_int_none (zf I q (by simp))|int j=>obtain⟨G,rfl⟩:=Z;exact ne_int (zf I q (nq not ahu))
  |str j=>obtain⟨G,rfl⟩:=Z;exact PySem.EqMixed.ne_int_str (zf I q (by simp))
  |_=>exact absurd (show false=true from U) jg
 |str i =>
  obtain⟨t,rfl⟩:=R;cases y with
  |non=>cases Z;exact PySem.EqNone.ne_str_none (zf I q (by simp))|bl j=>cases Z;exact PySem.EqMixed.ne_str_bool (zf I q (by simp))|int j=>obtain⟨G,rfl⟩:=Z;exact PySem.EqMixed.ne_str_int (zf I q (by simp))
  |str j=>obtain⟨G,rfl⟩:=Z;exact ne_str (zf I q (nq not ahv))
  |_=>exact absurd (show false=true from U) jg
 |byt i =>
  obtain⟨t,rfl⟩:=R;cases y with
  |byt j=>obtain⟨G,rfl⟩:=Z;exact PySem.W.ne_bytes (zf I q (nq not ahw))
  |_=>exact absurd (show false=true from U) jg
 |_=>cases y<;>exact absurd (show false=true from U) jg
def a69{X:Cx}:De X (compareOp .Lt) (rI0 λi j=>.bl (decide (i<j))):=atp λ_ _ _ _ _ _ _ q=>lt_int q
def a7a{X:Cx}:De X (compareOp .LtE) (rI0 λi j=>.bl (decide (i<=j))):=atp λ_ _ _ _ _ _ _ q=>le_int q
def a7b{X:Cx}:De X (compareOp .Gt) (rI0 λi j=>.bl (decide (j<i))):=atp λ_ _ _ _ _ _ _ q=>gt_int q
def a7c{X:Cx}:De X (compareOp .GtE) (rI0 λi j=>.bl (decide (j<=i))):=atp λ_ _ _ _ _ _ _ q=>ge_int q
def De.or{X:Cx}{f:Value->Value->Sem Value}{r r':R2}(h:De X f r)(h':De X f r'):De X f (λx y H Q=>r x y H Q\/r' x y H Q):=by
 intro Z s R H x y v u Q I G U q;rcases q with q|q
 .exact h Z s R H x y v u Q I G U q
 .exact h' Z s R H x y v u Q I G U q
def atr{X:Cx}{a b:Expr}{U G:TE}{pos:Pos}{op:CmpOp}{r:R2}(ho:De X (compareOp op) r)(R:PE X a U)(hb:PE X b G)(hm:behindInMarks op b=false):PE X (.Compare a [op] [b] pos) (tOp r U G):=by intro Z s σ H Q I h;exact wpAny_Compare1 (az8 R hb I h λv u s2 x y H2 I2 rx ry q=>ho Z s2 σ H2 x y v u Q I2 rx ry q) hm
def axk(t:TE):TT:=fun G H Q=>t G H λx Z=>∃k,x=.bl k/\Q k Z
def atu{X:Cx}{a b:Expr}{R U:TE}{pos:Pos}{op:CmpOp}{r:R2}(ho:De X (compareOp op) r)(ha:PE X a R)(hb:PE X b U)(hm:behindInMarks op b=false):PT X (.Compare a [op] [b] pos) (axk (tOp r R U)):=by
 intro Z s G H Q I h;refine wpAny_isTrue_Compare1 (Bj (ha Z s G H _ I h) λv s1 ⟨x,H1,I1,r1,q1⟩=>Bj (hb Z s1 G H1 _ I1 q1) λu s2 ⟨y,H2,I2,r2,q2⟩ =>
  Bj (ho Z s2 G H2 x y v u _ I2 r1 r2 q2) λc s3 ⟨z,H3,I3,r3,k,e,q3⟩=>?_) hm
 subst e;cases r3;exact km ⟨H3,I3,q3⟩
def aax(r r':R2)(ta tb U:TE):TE:=fun Z H Q=>ta Z H λx H1=>tb Z H1 λy H2=>r x y H2 λz G=>∃k,z=.bl k /\
 (if k=true then U Z G λR H4=>r' y R H4 Q else Q (.bl false) G)
def aoa{X:Cx}{a b c:Expr}{ta tb R:TE}{pos:Pos}{op G:CmpOp}{r r':R2}(ho:De X (compareOp op) r)(Zw:De X (compareOp G) r')(ha:PE X a ta)(hb:PE X b tb)(hc:PE X c R)
 (hm:lastMarks [op,G] [b,c]=false:=by with_unfolding_all rfl):PE X (.Compare a [op,G] [b,c] pos) (aax r r' ta tb R):=by
 intro Z s U H Q I h;refine Compare_chain (Bj (ha Z s U H _ I h) λv s1 ⟨x,H1,I1,r1,q1⟩=>chain_link (Bj (hb Z s1 U H1 _ I1 q1) λu s2 ⟨y,H2,I2,r2,q2⟩ =>
  Bj (ho Z s2 U H2 x y v u _ I2 r1 r2 q2) λd s3 ⟨z,H3,I3,r3,k,e,q3⟩=>?_)) hm
 subst e;cases r3;refine km ?_;cases k with
 |false=>exact ite_ff ⟨.bl false,H3,I3,rfl,q3⟩|true=>exact ite_tt (chain_last (Bj (hc Z s3 U H3 _ I3 q3) λw' s4 ⟨z',H4,I4,r4,q4⟩=>Zw Z s4 U H4 y z' u w' Q I4 r2 r4 q4))
def aob{X:Cx}{a b c:Expr}{ta tb tc:TE}{pos:Pos}{op G:CmpOp}{r R:R2}(ho:De X (compareOp op) r)(Zw:De X (compareOp G) R)(ha:PE X a ta)(hb:PE X b tb)(hc:PE X c tc)
 (hm:lastMarks [op,G] [b,c]=false:=by with_unfolding_all rfl):PT X (.Compare a [op,G] [b,c] pos) (axk (aax r R ta tb tc)):=by
 intro Z s U H Q I h;refine isTrue_chain (Bj (ha Z s U H _ I h) λv s1 ⟨x,H1,I1,r1,q1⟩=>test_link (Bj (hb Z s1 U H1 _ I1 q1) λu s2 ⟨y,H2,I2,r2,q2⟩ =>
  Bj (ho Z s2 U H2 x y v u _ I2 r1 r2 q2) λd s3 ⟨z,H3,I3,r3,k,e,q3⟩=>?_)) hm
 subst e;cases r3;refine km ?_;cases k with
 |false =>
  obtain⟨k',e',q'⟩:=q3;cases e';exact ite_ff ⟨H3,I3,q'⟩
 |true =>
  refine ite_tt (test_last (Bj (hc Z s3 U H3 _ I3 q3) λw' s4 ⟨z',H4,I4,r4,q4⟩=>Bj (Zw Z s4 U H4 y z' u w' _ I4 r2 r4 q4) λd' s5 z_=>?_));obtain⟨z2,H5,I5,r5,k2,e2,q5⟩:=z_;subst e2;cases r5;exact km ⟨H5,I5,q5⟩
def aay:(sizeLine:Nat)<2 ^ 63:=by rw[rm];decide
def vals1{x:V}{us:Zl}(r:Vals [x] us):∃u,us=[u]/\RelV x u:=by
 cases r with
 |cons G Z=>cases Z;exact⟨_,rfl,G⟩
def vals2{x y:V}{us:Zl}(r:Vals [x,y] us):∃u w',us=[u,w']/\RelV x u/\RelV y w':=by
 cases r with
 |cons G Z =>
  cases Z with
  |cons U R=>cases R;exact⟨_,_,rfl,G,U⟩
def aj4{X:Cx}(U:X.calm=true):Bw X (.builtin "max") (λxs H Q=>∃i j,xs=[.int i,.int j]/\Q (.int (if j > i then j else i)) H):=by
 intro G s σ H xs R Q I r h;obtain⟨i,j,rfl,q⟩:=h;obtain⟨u,w',rfl,⟨t,rfl⟩,⟨t',rfl⟩⟩:=vals2 r;refine max_two_ints (I.ok.hd U) λh' tk k=>⟨_,H,I.kept k,?_,q⟩
 by_cases Z:j > i
 .rw[cj Z,cj Z];exact⟨_,rfl⟩
 .rw[bx Z,bx Z];exact⟨_,rfl⟩
def aj5{X:Cx}(U:X.calm=true):Bw X (.builtin "min") (λxs H Q=>∃i j,xs=[.int i,.int j]/\Q (.int (if j<i then j else i)) H):=by
 intro G s σ H xs R Q I r h;obtain⟨i,j,rfl,q⟩:=h;obtain⟨u,w',rfl,⟨t,rfl⟩,⟨t',rfl⟩⟩:=vals2 r;refine min_two_ints (I.ok.hd U) λh' tk k=>⟨_,H,I.kept k,?_,q⟩
 by_cases Z:j<i
 .rw[cj Z,cj Z];exact⟨_,rfl⟩
 .rw[bx Z,bx Z];exact⟨_,rfl⟩
end L2
namespace L2
open PySem PySem.Spec PyProof.Rows
structure af3(h:Heap)(x dx C:Addr)(mA:Zs):Prop where
 obj:h.get? x=some (PySem.W.instObj C dx)
 ns:h.Ns1 dx mA
 ne:dx≠x
set_option tactic.hygienic true in
def aj6{h:Heap}{U:Addr}{Y:Zs}(n:h.Ns1 U Y):∃J,h.get? U=some J/\∀name,PySem.W.lookIn name J=some (Y name):=by
 obtain⟨o,G,ep,R,hd,S,_,u⟩:=n;refine⟨o,R,λname=>?_⟩;have e:=u name;unfold nsFind findBy at e;rw[<- Array.find?_toList] at e;unfold PySem.W.lookIn;rw[hd];dsimp only;split
 .rename_i y q
  rw[q] at e;exact nq some e
 .rename_i q
  rw[q] at e;have a:G.toList.any (·.refKey)=false:=by rw[List.any_eq_false];intro y C;obtain⟨z,t,Z⟩:=S y (Array.mem_toList_iff.mp C);simp[DictEntry.refKey,Z]
  have L:¬G.toList.any (·.refKey)=true:=by rw[a];exact jg
  rw[bx L];exact nq some e
def af3.look{h:Heap}{x G C:Addr}{U:Zs}(I:af3 h x G C U):∃Z,PySem.W.InstAt h x (PySem.W.instObj C G) C (some Z)/\∀name,PySem.W.lookIn name Z=some (U name) :=
 let ⟨Z,ho,hl⟩:=aj6 I.ns
 ⟨Z,⟨I.obj,rfl,rfl,ho⟩,hl⟩
def get_map{prog:Program}{w:World}{A:Around}{E:Y3}{s:Shared}{K:Fg}{x dx C:Addr}{U:Zs}{name:Str}{v:Value}{Z:Bool}{Q:Y3}(X:K.In s.heap)(I:af3 s.heap x dx C U)(hg:PySem.W.plainGet K C name=true)(hh:PySem.W.hasDictIn K C=true)
 (R:PySem.W.findIn K (.ref C) name=some none) (hv:U name=some v) (G:PySem.W.handedIn v=true) (h:Q v { s with toks:=s.toks+1 }) :
 wpAny (model prog w) A (getAttr (.ref x) name Z) Q E s:=by
 obtain⟨od,J,hl⟩:=I.look;exact PySem.W.get_value X J (PySem.W.plainGet_of hg).1 (PySem.W.findObj_own hh R rfl (by rw[hl,hv])) G h
def aoc{prog:Program}{w:World}{A:Around}{E:Y3}{s:Shared}{K:Fg}{x U C f:Addr}{G:Zs}{name:Str}{pl:Sem Bool}{Q:Value×List Value->Shared->Prop}(X:K.In s.heap)(I:af3 s.heap x U C G)(Z:PySem.W.plainGet K C name=true)
 (R:PySem.W.findIn K (.ref C) name=some (some (.ref f))) (ht:PySem.W.isFn K (.ref f)=true) (hv:G name=none) (h:Q (.ref f,[.ref x]) s) :
 wpAny (model prog w) A (getMethod (.ref x) name pl) Q E s:=by
 obtain⟨od,J,hl⟩:=I.look;exact PySem.W.method_fn X J (PySem.W.plainGet_of Z).1 (PySem.W.plainGet_of Z).2 R (beq_iff_eq.mp ht) (by show(PySem.W.lookIn name od).map (·.isSome)=some false;rw[hl,hv];rfl) h
def atv{prog:Program}{w:World}{A:Around}{E:Y3}{s:Shared}{K:Fg}{x Z C:Addr}{U:Zs}{name:Str}{v:Value}{ns:X9}{Q:Unit->Shared->Prop}(X:K.In s.heap)(I:af3 s.heap x Z C U)
 (hs:PySem.W.findIn K (.ref C) "__setattr__" = some (some (.builtin "object.__setattr__"))) (hp:PySem.W.plainOver K C=true) (ht:PySem.W.takerIn K C name=some none) (hh:PySem.W.hasDictIn K C=true)
 (hw:PySem.Within U ns) (hsz:ns.length<=sizeLine)
 (h:∀h',af3 h' x Z C (λy=>if y=name then some v else U y)->Heap.SameBut Z s.heap h'->Q () { s with heap:=h',toks:=s.toks+2 }) :
 wpAny (model prog w) A (setAttr (.ref x) name v) Q E s:=by
 obtain⟨od,J,hl⟩:=I.look;refine PySem.W.set_plain X J hs (PySem.W.osa_open (s:={ s with toks:=s.toks+1 }) (r:=none) X J hp ht λb=>?_);obtain⟨cd,hc,qq⟩:=PySem.W.any_some hh;have hx:s.heap.get? x=some ⟨.ref C,some Z,.plain,#[]⟩:=I.obj;refine aa (aj (aa (aa (wpAny_loadPart hx (aa (PySem.W.Looks.here (s:={ s with toks:=s.toks+1 }) (PySem.W.looks_clsIn X hc) ?_))))));rw[qq];refine aj (a:=some Z) (aa (aj (aa ?_)));refine wpAny_nsSet1 (s:={ s with toks:=s.toks+1 }) I.ns λh' Py G=>?_
 obtain⟨oD,q0,q1,qv,R,qk⟩:=Py.count (PySem.Within.cons name v hw);refine aa (wpAny_lookBehind qv (by rw[R];exact pastItsLine_dict (ie qk (by rw[gm];exact v_ hsz))) ?_);exact aj (h _ ⟨(G.2 _ (j5 I.ne)).trans I.obj,Py,I.ne⟩ G)
def aod{prog:Program}{w:World}{A:Around}{s:Shared}{K:Fg}{C f:Addr}{R:Result->Shared->Prop}{vs:Zl}{G:List (Str×Value)}(X:K.In s.heap)(U:PySem.W.makesIn K C=true)
 (hi:PySem.W.findIn K (.ref C) "__init__" = some (some (.ref f))) (hf:PySem.W.typeIn K (.ref f)=some (.type "function"))
 (h:codeAny (model prog w) (A.under (.builtin "type.__call__" ⟨.ref C::vs,G⟩)) (.call (.ref f) ⟨.ref (s.heap.objs.size+1)::vs,G⟩) (PySem.W.InitBack (s.heap.objs.size+1) R)
  { s with heap:=(s.heap.push PySem.W.emptyDict).push (PySem.W.instObj C s.heap.objs.size) }) :
 codeAny (model prog w) A (.call (.ref C) ⟨vs,G⟩) R s:=by
 obtain⟨hh,g,d,t,os⟩:=s;exact PySem.W.make_core (PySem.W.makes_of X U) (PySem.W.looks_findIn X hi) (λZ=>PySem.W.bind_fn X Z hf) (.inl rfl) h
noncomputable def Ie(f:Str)(v:V):List (Str×V)->List (Str×V)
 |[]=>[(f,v)]|(g,x)::r=>if g=f then(g,v)::r else(g,x)::Ie f v r
theorem Ut(f g:Str)(v:V):∀fs:List (Str×V),(Ie f v fs).lookup g=if g=f then some v else fs.lookup g
 |[]=>by
  show List.lookup g [(f,v)]=_
  by_cases h:g=f
  .have Z:(g==f)=true:=beq_iff_eq.mpr h
   simp only[List.lookup,Z,cj h]
  .have Z:(g==f)=false:=qz.mpr h
   simp only[List.lookup,Z,bx h]
 |(k,x)::r=>by
  have U:=Ut f g v r;rw[show Ie f v ((k,x)::r)=(if k=f then(k,v)::r else(k,x)::Ie f v r) from rfl]
  by_cases G:k=f
  .rw[cj G]
   by_cases h:g=k
   .have Z:(g==k)=true:=beq_iff_eq.mpr h
    simp only[List.lookup,Z,cj (h.trans G)]
   .have Z:(g==k)=false:=qz.mpr h
    simp only[List.lookup,Z,bx (λe:g=f=>h (e.trans G.symm))]
  .rw[bx G]
   by_cases h:g=k
   .have Z:(g==k)=true:=beq_iff_eq.mpr h
    simp only[List.lookup,Z,bx (λe:g=f=>G (h.symm.trans e))]
   .have Z:(g==k)=false:=qz.mpr h
    simp only[List.lookup,Z];exact U
theorem T3(f:Str)(v:V):∀fs:List (Str×V),f∈(Ie f v fs).map (·.1)/\∀g,g∈fs.map (·.1)->g∈(Ie f v fs).map (·.1)
 |[]=>⟨by simp[Ie],λg h=>by simp at h⟩
 |(k,x)::r=>by
  obtain⟨G,U⟩:=T3 f v r;rw[show Ie f v ((k,x)::r)=(if k=f then(k,v)::r else(k,x)::Ie f v r) from rfl]
  by_cases Z:k=f
  .rw[cj Z]
   subst Z;exact⟨by simp,λg h=>by simpa using h⟩
  .rw[bx Z]
   refine⟨?_,λg h=>?_⟩
   .rw[ig]
    exact bh _ G
   .rw[ig] at h ⊢
    rcases bz.mp h with e|e
    .exact bz.mpr (.inl e)
    .exact bh _ (U g e)
theorem Uu(f:Str)(v:V):∀fs:List (Str×V),(Ie f v fs).length<=fs.length+1
 |[]=>by simp[Ie]
 |(k,x)::r=>by
  have G:=Uu f v r;rw[show Ie f v ((k,x)::r)=(if k=f then(k,v)::r else(k,x)::Ie f v r) from rfl]
  by_cases Z:k=f
  .rw[cj Z,gm,gm];exact x_
  .rw[bx Z,gm,gm];exact v_ G
def Lg.some_of{v:V}{o:Option Value}(r:Lg (some v) o):∃u,o=some u/\RelV v u:=by
 cases o with
 |none=>exact(show False from r).elim
 |some u=>exact⟨u,rfl,r⟩
def Lg.none_of{o:Option Value}(r:Lg none o):o=none:=by
 cases o with
 |none=>rfl|some u=>exact(show False from r).elim
def aj7{v:V}{u:Value}(r:RelV v u):PySem.W.handedIn u=true:=by
 cases v with
 |non=>cases(show u=Value.none from r);rfl
 |bl b=>cases(show u=Value.bool b from r);rfl
 |int i=>obtain⟨t,e⟩:=(show ∃t,u=Value.int i t from r);cases e;rfl
 |str x=>obtain⟨t,e⟩:=(show ∃t,u=Value.str x t from r);cases e;rfl
 |byt b=>obtain⟨t,e⟩:=(show ∃t,u=Value.bytes b t from r);cases e;rfl
 |flt b=>obtain⟨t,e⟩:=(show ∃t,u=Value.float b t from r);cases e;rfl
 |ref a=>cases(show u=Value.ref a from r);rfl
 |ty n=>cases(show u=Value.type n from r);rfl
def J6{P:Program}{w:World}{H:Hp}{h:Heap}{a C G:Addr}{fs:List (Str×V)}(Ar:Ph P w H h)(e:H a=some (.ins C G fs)):∃Z,af3 h a G C Z/\(∀f,Lg (fs.lookup f) (Z f))/\PySem.Within Z (fs.map (·.1))/\fs.length<=1000/\H G=some (.own a):=by obtain⟨d,z,U,R,Z,n,r,q⟩:=(show Ay P w H h a (.ins C G fs) from Ar a _ e);exact⟨Z,⟨R,n,U⟩,r,q,z,d⟩
structure Cls(K:Fg)(C:Addr):Prop where
 pg:PySem.W.plainGet K C Str.empty=true
 hd:PySem.W.hasDictIn K C=true
 po:PySem.W.plainOver K C=true
 sa:PySem.W.findIn K (.ref C) "__setattr__" = some (some (.builtin "object.__setattr__"))
def Cls.get{K:Fg}{C:Addr}(c:Cls K C)(f:Str):PySem.W.plainGet K C f=true:=c.pg
def Gn(K:Fg)(C:Addr)(f:Str):Prop:=PySem.W.findIn K (.ref C) f=some none
def Gn.taker{K:Fg}{C:Addr}{f:Str}(n:Gn K C f):PySem.W.takerIn K C f=some none:=by unfold PySem.W.takerIn;rw[show PySem.W.findIn K (.ref C) f=some none from n];rfl
structure Meth(K:Fg)(C:Addr)(m:Str)(f:Addr):Prop where
 at_:PySem.W.findIn K (.ref C) m=some (some (.ref f))
 fn:PySem.W.isFn K (.ref f)=true
 kp:PySem.W.keepIn K (.ref f)=true
def af4{X:Cx}{Z:Zp}{U:St}{H:Hp}{s:Shared}{a C dx:Addr}{fs:List (Str×V)}{f:Str}{v:V}{A:Around}{E:Y3}{b:Bool}{Q:Y3}(I:Inv X Z U H s)(e:H a=some (.ins C dx fs))(c:Cls X.K C)(n:Gn X.K C f)(l:fs.lookup f=some v)
 (h:∀u R,Inv X Z U H R->RelV v u->Q u R):wpAny (model X.prog X.w) A (getAttr (.ref a) f b) Q E s:=by
 obtain⟨mA,O,r,_,_,_⟩:=J6 I.Ar e;obtain⟨u,hu,G⟩:=Lg.some_of (v:=v) (o:=mA f) (by rw[<- l];exact r f);exact get_map I.Su O (c.get f) c.hd n hu (aj7 G) (h u _ (I.tok _) G)
def We{X:Cx}{Z:Zp}{R:St}{H:Hp}{s:Shared}{a C dx:Addr}{fs:List (Str×V)}{A:Around}{E:Y3}{m:Str}{g:Addr}{pl:Sem Bool}{Q:Value×List Value->Shared->Prop}(I:Inv X Z R H s)(e:H a=some (.ins C dx fs))(c:Cls X.K C)(k:Meth X.K C m g)(l:fs.lookup m=none)
 (h:Q (.ref g,[.ref a]) s):wpAny (model X.prog X.w) A (getMethod (.ref a) m pl) Q E s:=by
 obtain⟨U,O,r,_,_,_⟩:=J6 I.Ar e;have G:U m=none:=Lg.none_of (by rw[<- l];exact r m);exact aoc I.Su O (c.get m) k.at_ k.fn G h
def af5{X:Cx}{Z:Zp}{σ:St}{H:Hp}{s:Shared}{a C G:Addr}{fs:List (Str×V)}{f:Str}{A:Around}{E:Y3}{y:V}{u:Value}{Q:Unit->Shared->Prop}(I:Inv X Z σ H s)(e:H a=some (.ins C G fs))(c:Cls X.K C)(n:Gn X.K C f)(hl:fs.length<1000)(ry:RelV y u)
 (h:∀s',Inv X Z σ (upd H a (.ins C G (Ie f y fs))) s'->Q () s'):wpAny (model X.prog X.w) A (setAttr (.ref a) f u) Q E s:=by
 obtain⟨R,O,r,wi,_,ho⟩:=J6 I.Ar e;have hz:(fs.map (·.1)).length<=sizeLine:=by rw[dw,rm];exact e_ (b_ hl (by decide))
 refine atv I.Su O c.sa c.po n.taker c.hd wi hz λh' U sb=>h _ ?_
 have hd:∃o,h'.get? G=some o:=let ⟨o,_,_,e',_⟩:=U.ns;⟨o,e'⟩;refine I.write (x:=a) (e:=G) (by rw[e];exact True.intro) (.inr ho) (λb q hb z=>(sb.2 b hb).trans z) hd ?_;refine⟨by rw[kh O.ne];exact ho,?_,O.ne,U.obj,_,U.ns,λg=>?_,λg hg=>?_⟩
 .have:=Uu f y fs;exact a_ this hl
 .show Lg ((Ie f y fs).lookup g) (if g=f then some u else R g)
  rw[Ut]
  by_cases q:g=f
  .rw[cj q,cj q];exact ry
  .rw[bx q,bx q];exact r g
 .by_cases q:g=f
  .rw[q];exact(T3 f y fs).1
  .refine(T3 f y fs).2 g (wi g λz=>hg ?_)
   show(if g=f then some u else R g)=none;rw[bx q];exact z
def Inv.made{X:Cx}{Z:Zp}{R:St}{H:Hp}{s:Shared}{C:Addr}(I:Inv X Z R H s):Inv X Z R (upd (upd H s.heap.objs.size (.own (s.heap.objs.size+1))) (s.heap.objs.size+1) (.ins C s.heap.objs.size []))
 { s with heap:=(s.heap.push PySem.W.emptyDict).push (PySem.W.instObj C s.heap.objs.size) }:=by
 have G:(s.heap.push PySem.W.emptyDict).get? s.heap.objs.size=some PySem.W.emptyDict:=bc s.heap rfl;have e2:((s.heap.push PySem.W.emptyDict).push (PySem.W.instObj C s.heap.objs.size)).get? (s.heap.objs.size+1)=some (PySem.W.instObj C s.heap.objs.size):=by
  have:=bc (s.heap.push PySem.W.emptyDict) (o:=PySem.W.instObj C s.heap.objs.size) rfl
  rwa [iz] at this
 have e3:(s.heap.push PySem.W.emptyDict).Ns s.heap.objs.size (λ_=>none):=⟨PySem.W.emptyDict,#[],_,G,rfl,(λe he=>absurd he (by simp)),λ_=>rfl⟩;have I1:=I.laid (a:=s.heap.objs.size) (o:=.own (s.heap.objs.size+1)) (h':=s.heap.push PySem.W.emptyDict) (t':=s.toks) (λb u q=>ao _ q) (bf _) ⟨_,G⟩;refine I1.laid (a:=s.heap.objs.size+1) (o:=.ins C s.heap.objs.size []) (t':=s.toks) (λb u q=>ao _ q) (Nat.le_of_eq (iz _ _)) ?_;have U:s.heap.objs.size≠s.heap.objs.size+1:=dq (p8 _);refine⟨by rw[kh U,yg],jx _,U,e2,λ_=>none,(Heap.Ns1.of_empty e3).at λo q=>ao _ q,λ_=>True.intro,λy hy=>absurd rfl hy⟩
def atw{A:Around}{E:Y3}{prog:Program}{w:World}{env:Env}{e:Expr}{f:Str}{pos:Pos}{s:Shared}{Q:Y3}(G:attributeBase e f env (eval e env)=eval e env)
 (h:wpAny (model prog w) A (eval e env) (λo Z=>wpAny (model prog w) A (getAttr o f true) Q E Z) E s):wpAny (model prog w) A (eval (.Attribute e f pos) env) Q E s :=
 Attribute_any_ h (by rw[arm_eval_Attribute,G])
def bed(K:Fg)(U:TE)(f:Str):TE:=fun R H Q=>U R H λx Z=>∃a C G fs v,x=.ref a/\Z a=some (.ins C G fs)/\Cls K C/\Gn K C f/\fs.lookup f=some v/\Q v Z
def bee(K:Fg)(ta R:TE)(f:Str):TS:=λD Z H=>R Z H λy H1=>ta Z H1 λx U=>∃a C G fs,x=.ref a/\U a=some (.ins C G fs)/\Cls K C/\Gn K C f/\fs.length<1000 /\
 D.nx Z (upd U a (.ins C G (Ie f y fs)))
def a0h{X:Cx}{e:Expr}{f:Str}{pos:Pos}{G:TE}(R:PE X e G)(hb:attributeBase e f X.env (eval e X.env)=eval e X.env):PE X (.Attribute e f pos) (bed X.K G f):=by intro Z s σ H Q I h;refine atw hb (Bj (R Z s σ H _ I h) λu s1 z_=>?_);obtain⟨x,H1,I1,rx,a,C,dx,fs,v,U,ea,c,n,l,q⟩:=z_;subst U;obtain rfl:u=Value.ref a:=rx;exact af4 I1 ea c n l λu' s2 I2 ru=>⟨v,H1,I2,ru,q⟩
def a0i{X:Cx}{o Z:Expr}{f:Str}{pos U:Pos}{ta tv:TE}(ha:PE X o ta)(hv:PE X Z tv)(hs:swapsWith Z (some (.Attribute o f U)) pos.line X.env=pure false):PS X (.Assign [.Attribute o f U] Z pos) (bee X.K ta tv f):=by intro G s R H D I h;refine plainObj_wpAny_Assign_Attribute (Bj (hv G s R H _ I h) λu s1 ⟨y,H1,I1,ry,q⟩=>Bj (ha G s1 R H1 _ I1 q) λov s2 ⟨x,H2,I2,rx,a,C,dx,fs,ex,ea,c,n,l,q2⟩=>?_) hs;subst ex;obtain rfl:ov=Value.ref a:=rx;exact af5 I2 ea c n l ry λs3 I3=>⟨R,_,I3,q2⟩
inductive Vb(K:Fg)(H:Hp):V->Value->Prop where
 |non:Vb K H .non (.type "NoneType")
 |bl (x:Bool):Vb K H (.bl x) (.type "bool")
 |int (i:Int):Vb K H (.int i) (.type "int")
 |str (x:Str):Vb K H (.str x) (.type "str")
 |flt (x:UInt64):Vb K H (.flt x) (.type "float")
 |lst {a:Addr} {xs:List V} (e:H a=some (.lst xs)):Vb K H (.ref a) (.type "list")
 |N6 {a:Addr} {o:Obj} {xs:List V} (e:H a=some (.N6 o (.lst xs))):Vb K H (.ref a) (.type "list")
 |tup {a:Addr} {xs:List V} (e:H a=some (.tup xs)):Vb K H (.ref a) (.type "tuple")
 |dK {a:Addr} {iu:List (Key×V)} (e:H a=some (.dK iu)):Vb K H (.ref a) (.type "dict")
 |dT {a:Addr} {iu:List (List Key×V)} (e:H a=some (.dT iu)):Vb K H (.ref a) (.type "dict")
 |ins {a C dx:Addr} {fs:List (Str×V)} (e:H a=some (.ins C dx fs)) (cl:Cls K C) (ha:PySem.W.findIn K (.ref C) "__class__" = some (some (.builtin "object.__class__")))
  (hn:PySem.W.specialIn K (.builtin "object.__class__") "__get__" = some (some (.builtin "getset_descriptor.__get__"))) (htk:PySem.W.takesIn K (.builtin "object.__class__")=some true)
  (hm:PySem.W.mroIn K C (.type "object")=some true):Vb K H (.ref a) (.ref C)
def T4{X:Cx}{R:Zp}{σ:St}{H:Hp}{s:Shared}{A:Around}{E Q:Y3}{c:Value}{b:Bool}{x:V}{u t:Value}(I:Inv X R σ H s)(Z:RelV x u)(ty:Vb X.K H x t)(e:PySem.W.kitOne X.K t c=some b)(h:∀tk,Q (.bool b) { s with toks:=tk }) :
 wpAny (model X.prog X.w) A (call (.builtin "isinstance") [u,c]) Q E s:=by
 cases ty with
 |non=>cases(show u=Value.none from Z);exact t8 PySem.W.kitx_none I.Su True.intro e (λz=>nomatch z) h
 |bl y=>cases(show u=Value.bool y from Z);exact t8 PySem.W.kitx_bool I.Su True.intro e (λz=>nomatch z) h
 |int i=>obtain⟨t,q⟩:=(show ∃t,u=Value.int i t from Z);cases q;exact t8 PySem.W.kitx_int I.Su True.intro e (λz=>nomatch z) h
 |str y=>obtain⟨t,q⟩:=(show ∃t,u=Value.str y t from Z);cases q;exact t8 PySem.W.kitx_str I.Su True.intro e (λz=>nomatch z) h
 |flt y=>obtain⟨t,q⟩:=(show ∃t,u=Value.float y t from Z);cases q;exact t8 PySem.W.kitx_float I.Su True.intro e (λz=>nomatch z) h
 |@lst a U ea =>
  cases(show u=Value.ref a from Z);obtain⟨_,_,n,_,G⟩:=(show Ay X.prog X.w H s.heap a (.lst U) from I.Ar a _ ea);exact t8 PySem.W.kitx_list I.Su ⟨_,G,rfl⟩ e (λz=>nomatch z) h
 |@N6 a ob U ea =>
  cases(show u=Value.ref a from Z);obtain⟨_,_,_,n,_,G⟩:=(show Ay X.prog X.w H s.heap a (.N6 ob (.lst U)) from I.Ar a _ ea);exact t8 PySem.W.kitx_list I.Su ⟨_,G,rfl⟩ e (λz=>nomatch z) h
 |@tup a U ea =>
  cases(show u=Value.ref a from Z);obtain⟨_,_,_,p⟩:=(show Ay X.prog X.w H s.heap a (.tup U) from I.Ar a _ ea);obtain⟨o,G,h2,_⟩:=p;exact t8 PySem.W.kitx_tuple I.Su ⟨o,G,h2⟩ e (λz=>nomatch z) h
 |@dK a iu ea =>
  cases(show u=Value.ref a from Z);obtain⟨_,_,vs,_,p⟩:=(show Ay X.prog X.w H s.heap a (.dK iu) from I.Ar a _ ea);obtain⟨o,es,ep,G,h2,_⟩:=p;exact t8 PySem.W.kitx_dict I.Su ⟨o,G,h2.1⟩ e (λz=>nomatch z) h
 |@dT a iu ea =>
  cases(show u=Value.ref a from Z);obtain⟨_,_,U,_,o,es,ep,G,h2,_⟩:=(show Ay X.prog X.w H s.heap a (.dT iu) from I.Ar a _ ea);exact t8 PySem.W.kitx_dict I.Su ⟨o,G,h2.1⟩ e (λz=>nomatch z) h
 |@ins a C dx fs ea cl ha hn htk hm =>
  cases(show u=Value.ref a from Z);obtain⟨mA,O,_⟩:=J6 I.Ar ea;obtain⟨od,J,_⟩:=O.look;exact t8 (PySem.W.kitx_own (cl.get _) cl.hd ha hn htk hm) I.Su J e (λz=>nomatch z) h
end L2
namespace L2
open PySem PySem.Spec PyProof.Rows
structure Ag(k:Nat)(A:Around):Prop where
 hd:A.handled=none
 dp:A.depth+3*k+5<recursionLimit
 un:A.units+16*k+200<cLine
def Ag.mono{j k:Nat}{A:Around}(r:Ag k A)(h:j<=k):Ag j A:=⟨r.hd,by have:=r.dp;lia,by have:=r.un;lia⟩
theorem Ag.deeper{k:Nat}{A:Around}(r:Ag (k+1) A)(env:Env):Ag k (A.deeper env) :=
 ⟨r.hd,by have:=r.dp;show A.depth+1+3*k+5<_;lia,by have:=r.un;show A.units+3+16*k+200<_;lia⟩
theorem Ag.in1{k:Nat}{A:Around}(r:Ag (k+1) A):Ag k A.in1 :=
 ⟨r.hd,by have:=r.dp;show A.depth+3*k+5<_;lia,by have:=r.un;show A.units+1+16*k+200<_;lia⟩
def af6{A:Around}{C:Addr}{us:Zl}{Z:List (Str×Value)}:(A.under (.builtin "type.__call__" ⟨.ref C::us,Z⟩)).depth=A.depth+1:=by first|rfl|simp[Around.under,Code.weight,Code.isCreation,Code.isGuard,Code.isCaller,Code.frames,Code.isFrame,guardIds]
def af7{A:Around}{C:Addr}{us:Zl}{Z:List (Str×Value)}:(A.under (.builtin "type.__call__" ⟨.ref C::us,Z⟩)).units=A.units+1:=by first|rfl|simp[Around.under,Code.cUnits,Code.frames,Code.isFrame]
def Ag.make{k:Nat}{A:Around}(r:Ag (k+1) A)(C:Addr)(us:Zl)(Z:List (Str×Value)):Ag k (A.under (.builtin "type.__call__" ⟨.ref C::us,Z⟩)) :=
 ⟨r.hd,by have:=r.dp;rw[af6];lia,by have:=r.un;rw[af7];lia⟩
theorem Ag.depth{k:Nat}{A:Around}(r:Ag k A):A.depth<recursionLimit:=by have:=r.dp;lia
theorem Ag.units{k:Nat}{A:Around}(r:Ag k A):A.units+64<cLine:=by have:=r.un;lia
def Ag.Wf{k:Nat}{A:Around}(r:Ag k A):A.units<cLine:=by have:=r.un;lia
def a7d:TA:=λ_ H Q=>Q [] H
def a7e(ta:TE)(tr:TA):TA:=fun Z H Q=>ta Z H λx U=>tr Z U λG R=>Q (x::G) R
def a0j{X:Cx}:PA X [] a7d:=λ_ _ _ _ H Q I h=>ql ⟨[],H,I,.nil,h⟩
def atx{X:Cx}{e:Expr}{es:X0}{G:TE}{t:TA}(R:PE X e G)(hr:PA X es t)(hs:starEach (e::es) X.env=(false,eval e X.env)::starEach es X.env:=by rfl):PA X (e::es) (a7e G t):=by intro pos Z s U H Q I h;rw[hs];show wpAny _ _ (spliced ((false,eval e X.env)::backTo pos (starEach es X.env))) _ _ s;refine jy (Bj (R Z s U H _ I h) λu s1 z_=>?_);obtain⟨x,H1,I1,r1,q1⟩:=z_;exact Bj (hr pos Z s1 U H1 _ I1 q1) λus s2 ⟨xs,H2,I2,r2,q2⟩=>⟨x::xs,H2,I2,.cons r1 r2,q2⟩
def bef(t:TA):TE:=fun U H Q=>t U H λG Z=>G.length<=sizeLine/\∀p,Z p=none->Q (.ref p) (upd Z p (.tup G))
def beh(t:TA):TE:=fun U H Q=>t U H λG Z=>G.length<=sizeLine/\∀p,Z p=none->Q (.ref p) (upd Z p (.lst G))
def a0k{X:Cx}{es:X0}{t:TA}{pos:Pos}{R}(h:PA X es t):PE X (.Tuple es R pos) (bef t):=by intro Z s σ H Q I hq;refine wpAny_Tuple_spliced (Bj (h pos Z s σ H _ I hq) λU G ⟨xs,H1,I1,r,z,q⟩=>⟨by rw[<- r.length];exact z,?_⟩);have hf:H1 G.heap.objs.size=none:=I1.Ar.fresh (bf _);refine⟨.ref G.heap.objs.size,upd H1 G.heap.objs.size (.tup xs),I1.laid (t':=G.toks) (λb u e=>ao _ e) (bf _) ?_,rfl,q _ hf⟩;exact⟨z,U,r,Xy.new _ _⟩
def aoe{X:Cx}{es:X0}{t:TA}{pos:Pos}(h:PA X es t):PE X (.List es pos) (beh t):=by intro Z s σ H Q I hq;refine wpAny_List_spliced (Bj (h pos Z s σ H _ I hq) λU G ⟨xs,H1,I1,r,z,q⟩=>⟨by rw[<- r.length];exact z,?_⟩);have R:H1 G.heap.objs.size=none:=I1.Ar.fresh (bf _);refine⟨.ref G.heap.objs.size,upd H1 G.heap.objs.size (.lst xs),I1.laid (t':=G.toks) (λb u e=>ao _ e) (bf _) ?_,rfl,q _ R⟩;exact⟨z,U,0,r,bc _ rfl⟩
abbrev Sp:=List V->Hp->VK->XK->Prop
abbrev CXT:=List Env->Hp->Shared->XK->Value->Shared->Prop
structure af9(P:Program)(w:World)(K:Fg)(mg:Zs)(base:Heap)(A:Around)(outer:List Env)(s:Shared)(H:Hp):Prop where
 frames:A.frames=some outer
 mod:Mod K mg base
 bs:∀b o,base.get? b=some o->s.heap.get? b=some o/\H b=none
 bsz:base.objs.size<=s.heap.objs.size
 U9:s.heap.FunFrames base outer
 frf:∀b∈frs outer,H b=none
 Ar:Ph P w H s.heap
 bare:AllBare s.gens
def CE(Z:List Env)(P:Program)(w:World)(H:Hp)(s:Shared)(Q:VK)(u:Value)(G:Shared):Prop :=
 ∃v U,G.os=s.os/\AllBare G.gens/\Un (frs Z) [] H U s.heap G.heap/\Ph P w U G.heap/\RelV v u/\Q v U
def CR(CX:CXT)(Z:List Env)(P:Program)(w:World)(H:Hp)(s:Shared)(Q:VK)(E:XK)(r:Result)(G:Shared):Prop :=
 match r with
 |.ok (.ret u)=>CE Z P w H s Q u G|.ok _=>False|.error e=>CX Z H s E e G
structure Ff(P:Program)(w:World)(K:Fg)(mg:Zs)(base:Heap)(CX:CXT)(k:Nat)(f:Addr)(fd:FuncData)(ps:X9)(sp:Sp):Prop where
 len:∀vs H Q E,sp vs H Q E->vs.length=ps.length
 run:∀(A:Around)(outer:List Env)(s:Shared)(H:Hp)(args:Args)(us:Zl)(vs:List V)(Q:VK)(E:XK),Ag k A->af9 P w K mg base A outer s H->BindsTo s fd args (ps.zip us)->Vals vs us->sp vs H Q E ->
  codeAny (model P w) A (.call (.ref f) args) (CR CX outer P w H s Q E) s
def Ff.imp{P:Program}{w:World}{K:Fg}{mg:Zs}{base:Heap}{CX:CXT}{k:Nat}{f:Addr}{fd:FuncData}{U:X9}{sp sp':Sp}(F:Ff P w K mg base CX k f fd U sp)
 (h:∀vs H Q E,sp' vs H Q E->sp vs H Q E):Ff P w K mg base CX k f fd U sp' :=
 ⟨λvs H Q E q=>F.len vs H Q E (h _ _ _ _ q),λA Z s H G us vs Q E hr R hb hv hs=>F.run A Z s H G us vs Q E hr R hb hv (h _ _ _ _ hs)⟩
def af9.make{P:Program}{w:World}{K:Fg}{mg:Zs}{base:Heap}{A:Around}{Z:List Env}{s:Shared}{H:Hp}(e:af9 P w K mg base A Z s H)(C:Addr)(us:Zl)(G:List (Str×Value)) :
 af9 P w K mg base (A.under (.builtin "type.__call__" ⟨.ref C::us,G⟩)) Z s H:=⟨by first|exact e.frames|(simpa[Around.under,Code.envs,Code.isFrame,pushEnvs] using e.frames),e.mod,e.bs,e.bsz,e.U9,e.frf,e.Ar,e.bare⟩
def Inv.env0{X:Cx}{Z:Zp}{G:St}{H:Hp}{s:Shared}(I:Inv X Z G H s):af9 X.prog X.w X.K X.mg X.base X.A X.stack s H :=
 ⟨I.ok.frames,I.ok.mod,I.bs,ie I.ok.bsz I.sz,I.stack,I.ahr,I.Ar,I.bare⟩
def Inv.after{X:Cx}{Z:Zp}{R:St}{H:Hp}{s s':Shared}{Q:VK}{u:Value}(I:Inv X Z R H s)(h:CE X.stack X.prog X.w H s Q u s'):EP X Z R Q u s':=by obtain⟨v,H',os,G,un,Ar,r,q⟩:=h;obtain⟨hh,g,d,t,U⟩:=s';obtain rfl:U=s.os:=os;exact⟨v,H',I.call (h':=hh) (g':=g) (d':=d) (t':=t) (ch:=[]) un Ar G (λb z=>absurd z (by simp)),r,q⟩
def a7f(sp:Sp)(Z:List V)(E:XK)(t:TA):TE:=fun G H Q=>t G H λR U=>sp (R++Z) U Q E
def axl(C:Addr)(m:Str)(sp:Sp)(Uv:List V)(E:XK)(R:TE)(t:TA):TE:=fun Z H Q=>R Z H λx G=>∃a dx fs,x=.ref a/\G a=some (.ins C dx fs)/\fs.lookup m=none /\
 t Z G λU H2=>sp (x::(U++Uv)) H2 Q E
def a7g(C:Addr)(sp:Sp)(Uv:List V)(E:XK)(t:TA):TE:=fun R H Q=>t R H λU G=>∀x Z,G x=none->G Z=none->Z≠x ->
 sp (.ref x::(U++Uv)) (upd (upd G Z (.own x)) x (.ins C Z [])) (λv H2=>v=.non/\Q (.ref x) H2) E
def Binds(K:Fg)(fd:FuncData)(G:X9)(ds:Zl):Prop :=
 ∀(s:Shared)(Z:Zl),K.In s.heap->(Z++ds).length=G.length->BindsTo s fd ⟨Z,[]⟩ (G.zip (Z++ds))
def Binds.all{K:Fg}{fd:FuncData}{Z:X9}(h:∀us:List Value,us.length=Z.length->bindArgs fd ⟨us,[]⟩=pure (Z.zip us)):Binds K fd Z []:=λs us _ G=>by rw[yd] at G ⊢;exact .of_eq (h us G)
def Passes(CX:CXT)(X:Cx)(E:XK):Prop:=∀(Z:Zp)(U:St)(H:Hp)(s:Shared)(e:Value)(G:Shared),Inv X Z U H s->CX X.stack H s E e G->X.xe e G
def aga{X:Cx}{CX:CXT}{k:Nat}{f:Addr}{fd:FuncData}{R:X9}{sp:Sp}{U:List V}{ds:Zl}{E:XK}{Z:Zp}{σ:St}{H:Hp}{s:Shared}{Q:VK}{us:Zl}{vs:List V}(F:Ff X.prog X.w X.K X.mg X.base CX k f fd R sp)(hr:Ag k X.A)(hb:Binds X.K fd R ds)(hd:Vals U ds)(hx:Passes CX X E)
 (I:Inv X Z σ H s) (r:Vals vs us) (h:sp (vs++U) H Q E):wpAny (model X.prog X.w) X.A (call (.ref f) us) (EP X Z σ Q) X.xe s:=by
 have r2:Vals (vs++U) (us++ds):=r.append hd;have hl:(us++ds).length=R.length:=by rw[<- r2.length];exact F.len _ _ _ _ h
 refine wpAny_call (xj (F.run X.A X.stack s H ⟨us,[]⟩ (us++ds) (vs++U) Q E hr I.env0 (hb s us I.Su hl) r2 h) λr s' G=>?_);cases r with
 |error e=>exact hx Z σ H s e s' I G
 |ok fl =>
  cases fl with
  |ret u=>exact I.after G|next=>exact False.elim G|brk=>exact False.elim G|cont=>exact False.elim G
def aty{X:Cx}{CX:CXT}{k:Nat}{f:Addr}{fd:FuncData}{G:X9}{sp:Sp}{U:List V}{ds:Zl}{E:XK}{x:Str}{p pos:Pos}{e:Expr}{es:X0}{t:TA}(F:Ff X.prog X.w X.K X.mg X.base CX k f fd G sp)(hr:Ag k X.A)(hg:Gl X x)(hm:X.mg x=some (.ref f))(hk:PySem.W.keepIn X.K (.ref f)=true)(hb:Binds X.K fd G ds)(hd:Vals U ds)(hx:Passes CX X E)
 (R:PA X (e::es) t) (Qw:(x==("__debug__" : Str))=false:=by decide) (he:starEach (e::es) X.env=(false,eval e X.env)::starEach es X.env:=by rfl) (Gu:(backTo pos (starEach es X.env)).any (·.1)=false:=by rfl) :
 PE X (.Call (.Name x p) (e::es) [] pos) (a7f sp U E t):=by
 intro Z s σ H Q I h;refine gn (aav I hg hm ?_ Qw);refine PySem.W.callWith_K (h₀:=X.base) I.ok.mod.kin hk (Bj (R pos Z s σ H _ I h) λus s1 ⟨vs,H1,I1,r,q⟩=>⟨I1.Su,?_⟩) he Gu;exact aga F hr hb hd hx I1 r q
def atz{X:Cx}{CX:CXT}{k:Nat}{f C:Addr}{fd:FuncData}{U:X9}{sp:Sp}{R:List V}{ds:Zl}{E:XK}{m:Str}{pos Z:Pos}{e o:Expr}{es:X0}{ta:TE}{t:TA}{pl:Sem Bool}(he:PE X o ta)(c:Cls X.K C)(hm:Meth X.K C m f)(F:Ff X.prog X.w X.K X.mg X.base CX k f fd U sp)(hr:Ag k X.A)(hb:Binds X.K fd U ds)(hd:Vals R ds)(hx:Passes CX X E)(ha:PA X (e::es) t)
 (Xv:starEach (e::es) X.env=(false,eval e X.env)::starEach es X.env:=by rfl) (Gu:(backTo pos (starEach es X.env)).any (·.1)=false:=by rfl)
 (ht:eval (.Call (.Attribute o m Z) (e::es) [] pos) X.env=(do
  let ov <- eval o X.env
  standAt Z.atName
  let (f,first) <- holding [ov] (getMethod ov m pl)
  callWith pos f first (backTo pos (starEach (e::es) X.env)) (backToKw pos (keywordEach [] X.env))):=by rfl) :
 PE X (.Call (.Attribute o m Z) (e::es) [] pos) (axl C m sp R E ta t):=by
 intro G s σ H Q I h;refine PySem.W.methodCall_KW (pl:=pl) (Bj (he G s σ H _ I h) λu s1 ⟨x,H1,I1,rx,a,dx,fs,ex,ea,l,q⟩=>?_) ht;subst ex;obtain rfl:u=Value.ref a:=rx;refine We I1 ea c hm l ?_;refine PySem.W.callWith_K (first:=[.ref a]) (h₀:=X.base) I.ok.mod.kin hm.kp (Bj (ha pos G s1 σ H1 _ I1 q) λus s2 ⟨vs,H2,I2,r,q2⟩=>⟨I2.Su,?_⟩) Xv Gu;exact aga (us:=.ref a::us) (vs:=.ref a::vs) F hr hb hd hx I2 (.cons rfl r) q2
def aof{X:Cx}{CX:CXT}{k:Nat}{f C:Addr}{fd:FuncData}{U:X9}{sp:Sp}{Uv:List V}{ds:Zl}{E:XK}{m:Str}{pos Z:Pos}{o:Expr}{ta:TE}{pl:Sem Bool}(he:PE X o ta)(c:Cls X.K C)(hm:Meth X.K C m f)(F:Ff X.prog X.w X.K X.mg X.base CX k f fd U sp)(hr:Ag k X.A)(hb:Binds X.K fd U ds)(hd:Vals Uv ds)(hx:Passes CX X E)
 (ht:eval (.Call (.Attribute o m Z) [] [] pos) X.env=(do
  let R <- eval o X.env
  standAt Z.atName
  let (f,first) <- holding [R] (getMethod R m pl)
  callWith pos f first (backTo pos (starEach [] X.env)) (backToKw pos (keywordEach [] X.env))):=by rfl) :
 PE X (.Call (.Attribute o m Z) [] [] pos) (axl C m sp Uv E ta a7d):=by
 intro G s σ H Q I h;refine PySem.W.methodCall_KW (pl:=pl) (Bj (he G s σ H _ I h) λu s1 ⟨x,H1,I1,rx,a,dx,fs,ex,ea,l,q⟩=>?_) ht;subst ex;obtain rfl:u=Value.ref a:=rx;refine We I1 ea c hm l ?_;exact PySem.W.callWith_K0 (first:=[.ref a]) I1.Su hm.kp (aga (us:=[.ref a]) (vs:=[.ref a]) F hr hb hd hx I1 (.cons rfl .nil) q)
structure Mk(K:Fg)(C f:Addr):Prop where
 makes:PySem.W.makesIn K C=true
 init:PySem.W.findIn K (.ref C) "__init__" = some (some (.ref f))
 fn:PySem.W.isFn K (.ref f)=true
 kp:PySem.W.keepIn K (.ref C)=true
def aog{X:Cx}{CX:CXT}{k:Nat}{f C:Addr}{fd:FuncData}{ps:X9}{sp:Sp}{Uv:List V}{ds:Zl}{E:XK}{Z:Zp}{σ:St}{H:Hp}{s:Shared}{Q:VK}{us:Zl}{vs:List V}(M:Mk X.K C f)(F:Ff X.prog X.w X.K X.mg X.base CX k f fd ps sp)(hr:Ag (k+1) X.A)(hb:Binds X.K fd ps ds)(hd:Vals Uv ds)
 (hx:Passes CX X E) (I:Inv X Z σ H s) (r:Vals vs us)
 (h:∀x U,H x=none->H U=none->U≠x->sp (.ref x::(vs++Uv)) (upd (upd H U (.own x)) x (.ins C U [])) (λv H2=>v=.non/\Q (.ref x) H2) E) :
 wpAny (model X.prog X.w) X.A (call (.ref C) us) (EP X Z σ Q) X.xe s:=by
 have hq:=h (s.heap.objs.size+1) s.heap.objs.size (I.Ar.fresh (w5 _)) (I.Ar.fresh (bf _)) (dq (p8 _));have R:=Inv.made (C:=C) I;have r2:Vals (V.ref (s.heap.objs.size+1)::(vs++Uv)) (Value.ref (s.heap.objs.size+1)::(us++ds)):=.cons rfl (r.append hd);have hl:(Value.ref (s.heap.objs.size+1)::us++ds).length=ps.length:=by have e:=r2.length;rw[F.len _ _ _ _ hq] at e;exact e.symm
 refine wpAny_call (aod (f:=f) I.Su M.makes M.init (beq_iff_eq.mp M.fn) (xj (F.run _ X.stack _ _ ⟨Value.ref (s.heap.objs.size+1)::us,[]⟩ (Value.ref (s.heap.objs.size+1)::(us++ds)) _ _ E (hr.make C us [])
  (R.env0.make C us []) (hb _ (Value.ref (s.heap.objs.size+1)::us) R.Su hl) r2 hq) λr s' G=>?_))
 cases r with
 |error e=>exact hx Z σ _ _ e s' R G
 |ok fl =>
  cases fl with
  |ret u =>
   obtain⟨v,H',I3,rv,ev,q3⟩:=R.after G;subst ev;exact⟨rv,⟨V.ref (s.heap.objs.size+1),H',I3,rfl,q3⟩⟩
  |next=>exact False.elim G|brk=>exact False.elim G|cont=>exact False.elim G
def at3{X:Cx}{CX:CXT}{k:Nat}{f C:Addr}{fd:FuncData}{G:X9}{sp:Sp}{U:List V}{ds:Zl}{E:XK}{x:Str}{p pos:Pos}{e:Expr}{es:X0}{t:TA}(M:Mk X.K C f)(F:Ff X.prog X.w X.K X.mg X.base CX k f fd G sp)(hr:Ag (k+1) X.A)(hg:Gl X x)(hm:X.mg x=some (.ref C))(hb:Binds X.K fd G ds)(hd:Vals U ds)(hx:Passes CX X E)
 (R:PA X (e::es) t) (Qw:(x==("__debug__" : Str))=false:=by decide) (he:starEach (e::es) X.env=(false,eval e X.env)::starEach es X.env:=by rfl) (Gu:(backTo pos (starEach es X.env)).any (·.1)=false:=by rfl) :
 PE X (.Call (.Name x p) (e::es) [] pos) (a7g C sp U E t):=by
 intro Z s σ H Q I h;refine gn (aav I hg hm ?_ Qw);refine PySem.W.callWith_K (h₀:=X.base) I.ok.mod.kin M.kp (Bj (R pos Z s σ H _ I h) λus s1 ⟨vs,H1,I1,r,q⟩=>⟨I1.Su,?_⟩) he Gu;exact aog M F hr hb hd hx I1 r q
structure Vl(N P:X9)(sc:Scope):Prop where
 kind:sc.kind=.function
 co:sc.isCoroutine=false
 gen:sc.isGenerator=false
 nd:N.Nodup
 pre:N.take P.length=P
 par:∀x∈P,sc.names.lookup x=some .local\/sc.names.lookup x=some .cell
 a0l:∀y∈sc.names,y.2≠.free
theorem Yw{Z:Str->Option NameKind}{x:Str}:∀{binds:List (Str×Value)}{m:Zs},(∀v,(x,v)∉binds)->bindL Z binds m x=m x
 |[],_,_=>rfl
 |(n,v)::r,m,h=>by
  unfold bindL;rw[Yw λw G=>h w (bh _ G)];split
  .have:x≠n:=by rintro rfl;exact h v dg
   simp[this]
  .rfl
theorem Yx{Z:Str->Option NameKind}{x:Str}:∀{binds:List (Str×Value)}{m:Zs},(∀v,(x,v)∉binds)->bindC Z binds m x=m x
 |[],_,_=>rfl
 |(n,v)::r,m,h=>by
  unfold bindC;rw[Yx λw G=>h w (bh _ G)];split
  .rfl
  .have:x≠n:=by rintro rfl;exact h v dg
   simp[this]
theorem Yy{Z:Str->Option NameKind}{x:Str}{v:Value}:∀{P:X9}{vs:Zl}{i:Nat}{m:Zs},P.Nodup->P[i]?=some x->vs[i]?=some v->Z x=some .local ->
 bindL Z (P.zip vs) m x=some v
 |[],_,_,_,_,h,_,_=>by simp at h|_::_,[],_,_,_,_,h,_=>by simp at h
 |p::P,w::vs,0,m,nd,h1,h2,hk=>by
  simp at h1 h2;subst h1;subst h2;show bindL Z ((p,w)::P.zip vs) m p=_;unfold bindL;rw[Yw λv G=>(u0.mp nd).1 (List.of_mem_zip G).1,cj hk];simp
 |p::P,w::vs,i+1,m,nd,h1,h2,hk=>by
  show bindL Z ((p,w)::P.zip vs) m x=_;unfold bindL;exact Yy (i:=i) (u0.mp nd).2 (by simpa using h1) (by simpa using h2) hk
theorem Yz{Z:Str->Option NameKind}{x:Str}{v:Value}:∀{P:X9}{vs:Zl}{i:Nat}{m:Zs},P.Nodup->P[i]?=some x->vs[i]?=some v->Z x≠some .local ->
 bindC Z (P.zip vs) m x=some v
 |[],_,_,_,_,h,_,_=>by simp at h|_::_,[],_,_,_,_,h,_=>by simp at h
 |p::P,w::vs,0,m,nd,h1,h2,hk=>by
  simp at h1 h2;subst h1;subst h2;show bindC Z ((p,w)::P.zip vs) m p=_;unfold bindC;rw[Yx λv G=>(u0.mp nd).1 (List.of_mem_zip G).1,bx hk];simp
 |p::P,w::vs,i+1,m,nd,h1,h2,hk=>by
  show bindC Z ((p,w)::P.zip vs) m x=_;unfold bindC;exact Yz (i:=i) (u0.mp nd).2 (by simpa using h1) (by simpa using h2) hk
noncomputable def start(N:X9)(vs:List V):St:=vs.map some++List.replicate (N.length-vs.length) none
noncomputable def agb(CX:CXT)(P:Program)(w:World)(K:Fg)(mg:Zs)(base:Heap)(N:X9)(qual:Str)(scope:Scope)(f:Addr)(G:Value)(A:Around)(outer:List Env)(s:Shared)(H:Hp)(E:XK):Cx where
 prog:=P
 w:=w
 K:=K
 mg:=mg
 base:=base
 A:=A.deeper (envOfC qual scope s.heap.objs.size f G)
 N:=N
 s₀:=s
 H₀:=H
 env:=envOfC qual scope s.heap.objs.size f G
 outer:=outer
 stack:=envOfC qual scope s.heap.objs.size f G::outer
 ex:=[]
 calm:=true
 fn:=λ_=>true
 pn:=[]
 xe:=λe R=>wpAny (model P w) (A.deeper (envOfC qual scope s.heap.objs.size f G)) (leaving (envOfC qual scope s.heap.objs.size f G) e) (λ_ Z=>CX outer H s E e Z) (λU Z=>CX outer H s E U Z) R
def ada{sc:Scope}{n:Nat}{x:Str}(h:sc.names.lookup x=some .cell):∃c,(cellsFrom n sc.names []).lookup x=some c:=by have q:=PySem.W.cellsFrom_some sc.names n [] (.inl h);exact qy.mp q
def aj8{CX:CXT}{P:Program}{w:World}{K:Fg}{mg:Zs}{base:Heap}{N R:X9}{qual:Str}{scope:Scope}{f:Addr}{cd:Value}{A:Around}{Z:List Env}{s s1:Shared}{H:Hp}{E:XK}{us:Zl}{vs:List V}
 (S:Vl N R scope) (hd:A.handled=none) (U:af9 P w K mg base A Z s H) (hl:vs.length=R.length) (r:Vals vs us)
 (x:InCallC s s.heap.objs.size (bindL (envOfC qual scope s.heap.objs.size f cd).kindOf (R.zip us) λ_=>none) (cellsFrom (s.heap.objs.size+1) scope.names []) (bindC (envOfC qual scope s.heap.objs.size f cd).kindOf (R.zip us) λ_=>none) s1) :
 Inv (agb CX P w K mg base N qual scope f cd A Z s H E) [] (start N vs) H s1:=by
 have Gu:R.length<=N.length:=by have:=nq List.length S.pre;rw[List.length_take] at this;lia
 obtain⟨h1,tk,rfl,hk⟩:=x.done;have qq:∀b:Addr,b∉(agb CX P w K mg base N qual scope f cd A Z s H E).ex:=λb z=>absurd (show b∈([]:Xt) from z) (by simp)
 refine⟨⟨U.mod,S.kind,rfl,rfl,bf _,λy z c h1 G=>?_,λy hy=>?_,λy c _ h=>?_,λ_=>hd,Around.frames_deeper U.frames,.inr ⟨rfl,rfl⟩,λb z=>absurd z (qq b),U.bs,U.bsz,λb _ _=>qq b,λb z=>absurd z (qq b),U.U9,U.frf⟩,
  rfl,U.bare,Un.kept hk,⟨_,x.toInCall.ns,λi y v h1 G h3=>?_⟩,λy c h=>⟨_,x.cell y c h⟩,U.Ar.fresh (bf _),λy c h=>?_,λp hp=>absurd (show p∈([]:Zp) from hp) (by simp),U.Ar.kept hk,?_⟩
 .exact name_of_addr x.apart (zj h1) (zj G)
 .have hy:scope.names.lookup y=some .cell\/scope.names.lookup y=some .free:=hy
  rcases hy with hy|hy
  .exact ada hy
  .exact absurd rfl (S.a0l _ (zj hy))
 .exact yu (x.above y c (zj h))
 .have hi:i<vs.length:=by
   unfold start at G
   by_cases hi:i<vs.length
   .exact hi
   .rw[jc (by simpa using hi)] at G
    rw[List.getElem?_replicate] at G;split at G<;>cases G
  have ha:vs[i]?=some v:=by
   unfold start at G;rw[fc (by simpa using hi),jh] at G;cases e:vs[i]? with
   |none=>rw[e] at G;cases G|some a=>rw[e] at G;cases G;rfl
  obtain⟨u,hu,rv⟩:=r.get ha;have hp:R[i]?=some y:=by rw[<- S.pre,List.getElem?_take_of_lt (b_ hi (f_ hl))];exact h1
  have qk:R.Nodup:=by rw[<- S.pre];exact S.nd.sublist (List.take_sublist _ _)
  refine⟨u,rv,?_⟩;rcases S.par y (az hp) with k|k
  .exact .inl ⟨k,Yy qk hp hu k⟩
  .obtain⟨c,e⟩:=ada (n:=s.heap.objs.size+1) k
   refine .inr ⟨.inl k,c,e,?_⟩;have q:=x.cell y c e;rw[Yz qk hp hu (by show scope.names.lookup y≠_;rw[k];decide)] at q;exact q
 .exact U.Ar.fresh (yu (x.above y c (zj h)))
 .unfold start
  show _=N.length;rw[vf,dw,List.length_replicate]
  lia
def a7j{CX:CXT}{P:Program}{w:World}{K:Fg}{mg:Zs}{base:Heap}{k:Nat}{f:Addr}{name qual:Str}{U:Arguments}{body:List Stmt}{scope:Scope}{dV kV qk pm G ct oc:Value}{an od:Option Addr}
 {qv:Array (Option Value)} {N ps:X9} {sp:Sp} (lk:K.lookup f=some ⟨oc,od,.func (PySem.W.fnOf name qual U body scope dV kV qk pm an G ct),qv⟩) (q0:PySem.W.codeIn K G qual=true) (S:Vl N ps scope)
 (len:∀vs H Q E,sp vs H Q E->vs.length=ps.length)
 (q2:∀(A:Around)(Z:List Env)(s:Shared)(H:Hp)(vs:List V)(Q:VK)(E:XK),Ag k (A.deeper (envOfC qual scope s.heap.objs.size f G))->sp vs H Q E ->
  ∃t,Rr (agb CX P w K mg base N qual scope f G A Z s H E) body t/\t { nx:=λ_ H'=>Q .non H',rt:=Q } (start N vs) H) :
 Ff P w K mg base CX (k+1) f (PySem.W.fnOf name qual U body scope dV kV qk pm an G ct) ps sp:=by
 refine⟨len,λA Z s H q4 us vs Q E hr e0 hb r qq=>?_⟩;have hl:=len _ _ _ _ qq;have KX:K.In s.heap:=e0.mod.kin.keeps λb o e=>(e0.bs b o e).1
 have q1:s.heap.NoLimit:=e0.mod.nolimit.keeps λb o e=>(e0.bs b o e).1
 have q3:∀y∈ps.zip us,scope.names.lookup y.1=some .local\/(scope.names.lookup y.1=some .cell/\((cellsFrom (s.heap.objs.size+1) scope.names []).lookup y.1).isSome=true):=λ⟨n,v⟩ hy=>by
  rcases S.par n (List.of_mem_zip hy).1 with q|q
  .exact .inl q
  .exact .inr ⟨q,PySem.W.cellsFrom_some _ _ _ (.inl q)⟩
 refine codeAny_call_function hr.depth (KX _ _ lk) rfl S.co S.gen rfl (PySem.W.codeRec_of KX q0) (hb _ _ _ _ ?_);refine wpAny_newFunctionEnv_cells S.kind q3 λq5 he s1 x=>?_
 subst he;refine⟨q1.keeps x.toInCall.keep,codeAny_func ?_⟩;obtain⟨t,ht,hq⟩:=q2 A Z s H vs Q E (hr.deeper _) qq;have I:Inv (agb CX P w K mg base N qual scope f G A Z s H E) [] (start N vs) H s1:=aj8 S hr.hd e0 hl r x;refine mq (ht [] s1 (start N vs) H _ I hq) (λfl s' hs=>?_) λe s' hs=>hs
 have fin:∀{R:St}{H':Hp}{v:V}{u:Value},Inv (agb CX P w K mg base N qual scope f G A Z s H E) [] R H' s'->RelV v u->Q v H'->CE Z P w H s Q u s' :=
  fun{R H' v u} J rv q=>⟨v,H',J.os,J.bare,J.base,J.Ar,rv,q⟩
 cases fl with
 |ret u =>
  obtain⟨v,R,H',J,rv,q⟩:=hs;exact fin J rv q
 |next =>
  obtain⟨R,H',J,q⟩:=hs;exact fin (v:=V.non) (u:=Value.none) J rfl q
 |brk =>
  obtain⟨_,_,_,q⟩:=hs;exact False.elim q
 |cont =>
  obtain⟨_,_,_,q⟩:=hs;exact False.elim q
end L2
namespace L2
open PySem PySem.Spec PyProof.Rows
def tCB(r:List V->Hp->VK->Prop)(t:TA):TE:=fun Z H Q=>t Z H λU G=>r U G Q
def aoi{X:Cx}{x:Str}{p pos:Pos}{e:Expr}{es:X0}{t:TA}{id:String}{r:List V->Hp->VK->Prop}(hc:Bw X (.builtin id) r)(hg:Gl X x)(hm:X.mg x=none)(hv:bootBuiltins x=some (.builtin id))(U:PA X (e::es) t)(hn:x≠"__name__" := by decide)(Qw:(x==("__debug__" : Str))=false:=by decide)
 (R:starEach (e::es) X.env=(false,eval e X.env)::starEach es X.env:=by rfl) (Gu:(backTo pos (starEach es X.env)).any (·.1)=false:=by rfl):PE X (.Call (.Name x p) (e::es) [] pos) (tCB r t):=by
 intro Z s G H Q I h;refine gn (Bq I hg hm hv ?_ hn Qw);exact uo (Bj (U pos Z s G H _ I h) λus s1 ⟨vs,H1,I1,r1,q1⟩=>hc Z s1 G H1 vs us Q I1 r1 q1) R Gu
def aj9{X:Cx}{x:Str}{p pos:Pos}{e:Expr}{es:X0}{t:TA}{T:String}{r:List V->Hp->VK->Prop}(hc:Bw X (.type T) r)(hg:Gl X x)(hm:X.mg x=none)(hv:bootBuiltins x=some (.type T))(U:PA X (e::es) t)(hn:x≠"__name__" := by decide)(Qw:(x==("__debug__" : Str))=false:=by decide)
 (R:starEach (e::es) X.env=(false,eval e X.env)::starEach es X.env:=by rfl) (Gu:(backTo pos (starEach es X.env)).any (·.1)=false:=by rfl):PE X (.Call (.Name x p) (e::es) [] pos) (tCB r t):=by
 intro Z s G H Q I h;refine gn (Bq I hg hm hv ?_ hn Qw);exact iw (Bj (U pos Z s G H _ I h) λus s1 ⟨vs,H1,I1,r1,q1⟩=>hc Z s1 G H1 vs us Q I1 r1 q1) R Gu
section
variable{κ:Type}[DecidableEq κ]
noncomputable def Rt(Z:List (κ×V))(k:κ):Option V:=(Z.find? λG=>decide (G.1=k)).map (·.2)
noncomputable def putK(G:List (κ×V))(k:κ)(v:V):List (κ×V) :=
 if(G.any λZ=>decide (Z.1=k))=true then G.map (λZ=>if Z.1=k then(Z.1,v) else Z) else G++[(k,v)]
def Ru{p:κ×V}(e:p.1=k):Rt (p::r) k=some p.2:=by simp[Rt,t7,e]
def Rv{p:κ×V}(e:¬p.1=k):Rt (p::r) k=Rt r k:=by simp[Rt,t7,e]
theorem adb(k:κ):∀Z:List (κ×V),(Z.any λG=>decide (G.1=k))=(Rt Z k).isSome
 |[]=>rfl
 |p::r=>by
  rw[List.any_cons]
  by_cases e:p.1=k
  .simp only[Ru e,decide_eq_true e,Bool.true_or,Option.isSome_some]
  .rw[Rv e,Aj e,Bool.false_or];exact adb k r
def Uw(Z:List (κ×V))(k:κ)(v:V):(putK Z k v).length<=Z.length+1:=by
 unfold putK;split
 .rw[dw];exact x_
 .rw[vf,gm,Ah];exact bf _
def Lg.Jy(r:Lg o u):o.isSome=u.isSome:=by
 cases o with
 |none=>cases u with
  |none=>rfl|some _=>exact(show False from r).elim
 |some _=>cases u with
  |none=>exact(show False from r).elim
  |some _=>rfl
theorem Lg.getD(r:Lg o u)(Z:RelV d d'):RelV (o.getD d) (u.getD d'):=by
 cases o with
 |none=>cases u with
  |none=>exact Z|some _=>exact(show False from r).elim
 |some _=>cases u with
  |none=>exact(show False from r).elim
  |some _=>exact r
def KV.val(r:KV R vs)(k:κ):Lg (Rt R k) (valueAt vs k):=by
 unfold KV at r
 induction r with
 |nil=>exact True.intro
 |@cons p q ps qs h t ih =>
  obtain⟨G,U⟩:=h
  by_cases e:p.1=k
  .have Z:q.1=k:=G.symm.trans e
   have b:valueAt (q::qs) k=some q.2:=by simp[valueAt,t7,Z]
   rw[Ru e,b];exact U
  .have Z:¬q.1=k:=λz=>e (G.trans z)
   have b:valueAt (q::qs) k=valueAt qs k:=by simp[valueAt,t7,Z]
   rw[Rv e,b];exact ih
theorem KV.any(r:KV G vs)(k:κ):(G.any λZ=>decide (Z.1=k))=vs.any λZ=>decide (Z.1=k):=by
 unfold KV at r
 induction r with
 |nil=>rfl|cons h t U=>rw[List.any_cons,List.any_cons,U,h.1]
def KV.Hw(r:KV U vs)(k:κ)(R:RelV y u) :
 KV (U.map λZ=>if Z.1=k then(Z.1,y) else Z) (vs.map λZ=>if Z.1=k then(Z.1,u) else Z):=by
 unfold KV at r ⊢
 induction r with
 |nil=>exact .nil
 |@cons p q ps qs h t ih =>
  rw[ig,ig];refine .cons ?_ ih;obtain⟨G,h2⟩:=h
  by_cases e:p.1=k
  .rw[cj e,cj (G.symm.trans e)];exact⟨G,R⟩
  .rw[bx e,bx (λz=>e (G.trans z))];exact⟨G,h2⟩
def KV.put(r:KV G vs)(k:κ)(Z:RelV y u):KV (putK G k y) (stored vs k u):=by
 unfold putK stored;rw[r.any k]
 by_cases e:(vs.any λU=>decide (U.1=k))=true
 .rw[cj e,cj e];exact r.Hw k Z
 .rw[bx e,bx e];exact Paired.snoc r ⟨rfl,Z⟩
theorem KV.length{Z:List (κ×V)}{vs:List (κ×Value)}(r:KV Z vs):Z.length=vs.length:=Paired.length r
end
def Y0(r:RelV (kV k) u):(o5 P w).is k u=true:=by
 cases k with
 |inl i=>obtain⟨t,e⟩:=(show ∃t,u=Value.int i t from r);subst e;exact acw P w i t
 |inr x=>obtain⟨t,e⟩:=(show ∃t,u=Value.str x t from r);subst e;exact acx P w x t
theorem Y4{P:Program}{w:World}:∀{ks:List Key}{us:Zl},Vals (ks.map kV) us->ItemsAre (o5 P w) ks us
 |[],_,r=>by rw[List.map_nil] at r;cases r;exact .nil
 |k::ks,_,r=>by
  rw[ig] at r;cases r with
  |cons h t=>exact .cons (Y0 h) (Y4 t)
abbrev KT(H:Hp):List (List Key×V)->List (List Key×Addr×Value)->Prop:=Paired λp q=>p.1=q.1/\H q.2.1=some (.tup (p.1.map kV))/\RelV p.2 q.2.2
def KT.val(r:KT H R xs)(k:List Key):Lg (Rt R k) ((atKey xs k).map (·.2)):=by
 induction r with
 |nil=>exact True.intro
 |@cons p q ps qs h t ih =>
  obtain⟨G,_,U⟩:=h
  by_cases e:p.1=k
  .have Z:q.1=k:=G.symm.trans e
   have b:atKey (q::qs) k=some q.2:=by simp[atKey,t7,Z]
   rw[Ru e,b];exact U
  .have Z:¬q.1=k:=λz=>e (G.trans z)
   have b:atKey (q::qs) k=atKey qs k:=by simp[atKey,t7,Z]
   rw[Rv e,b];exact ih
def KT.Hw(r:KT H iu xs)(k:List Key)(ry:RelV y u) :
 KT H (iu.map λG=>if G.1=k then(G.1,y) else G) (xs.map (putAt k u)):=by
 induction r with
 |nil=>exact .nil
 |@cons p q ps qs h t ih =>
  rw[ig,ig];refine .cons ?_ ih;obtain⟨Z,U,R⟩:=h;unfold putAt
  by_cases e:p.1=k
  .rw[cj e,cj (Z.symm.trans e)];exact⟨Z,U,ry⟩
  .rw[bx e,bx (λz=>e (Z.trans z))];exact⟨Z,U,R⟩
def KT.put(r:KT H G xs)(k:List Key)(U:H b=some (.tup (k.map kV)))(Z:RelV y u) :
 KT H (putK G k y) (storedH xs k b u):=by
 have e:(G.any λR=>decide (R.1=k))=(atKey xs k).isSome:=by rw[adb,(r.val k).Jy,Option.isSome_map]
 unfold putK storedH;rw[e]
 by_cases q:(atKey xs k).isSome=true
 .rw[cj q,cj q];exact r.Hw k Z
 .rw[bx q,bx q];exact Paired.snoc r ⟨rfl,U,Z⟩
def KT.keeps(r:KT H G xs)(Z:∀b ys,H b=some (.tup ys)->H' b=some (.tup ys)):KT H' G xs :=
 Paired.azh r λ_ _ z=>⟨z.1,Z _ _ z.2.1,z.2.2⟩
def axn(ok:Ph P w H h)(e:Rd H a u):Ay P w H h a u:=e.ok ok
def Wg(ok:Ph P w H h)(e:Rd H a (.dK Z)):Z.length<=sizeLine/\(a==sysModules)=false/\∃vs,KV Z vs/\h.DictOf (o5 P w) a vs :=
 show Ay P w H h a (.dK Z) from axn ok e
def a7l(ok:Ph P w H h)(e:H a=some (.dK Z)):Z.length<=sizeLine/\(a==sysModules)=false/\∃vs,KV Z vs/\h.DictOf (o5 P w) a vs:=Wg ok (.inl e)
def Ob(ok:Ph P w H h)(e:H a=some (.tup (ks.map kV))):(tupleKind (o5 P w)).is h ks a:=by obtain⟨_,Z,r,o,R,G,n,U,_⟩:=(show Ay P w H h a (.tup (ks.map kV)) from ok a _ e);exact⟨o,Z.toArray,n,R,G,U,by simpa using Y4 r⟩
def Y5(ok:Ph P w H h)(e:Rd H a (.dT G)):G.length<=sizeLine/\(a==sysModules)=false /\
 ∃xs,KT H G xs/\h.DictOfH (tupleKind (o5 P w)) a xs:=by
 obtain⟨z,y,xs,r,o,es,ep,h1,h2,U,h4,R⟩:=(show Ay P w H h a (.dT G) from axn ok e);refine⟨z,y,xs,r,o,es,ep,h1,h2,U,h4,λx Z=>?_,R⟩;have all:∀{l:List (List Key×V)}{m:List (List Key×Addr×Value)},KT H l m->∀x∈m,(tupleKind (o5 P w)).is h x.1 x.2.1:=by
  intro l m q
  induction q with
  |nil=>intro x Z;exact nomatch Z
  |@cons p q ps qs hq t ih =>
   intro x Z;rcases bz.mp Z with e|Z
   .subst e
    exact Ob ok (by rw[<- hq.1];exact hq.2.1)
   .exact ih x Z
 exact all r x Z
def aoj(ok:Ph P w H h)(e:H a=some (.dT Z)):Z.length<=sizeLine/\(a==sysModules)=false /\
 ∃xs,KT H Z xs/\h.DictOfH (tupleKind (o5 P w)) a xs:=Y5 ok (.inl e)
def Oc(H:Hp)(a:Addr)(y:V)(r:Option V):Prop :=
 (∃Z k,Rd H a (.dK Z)/\y=kV k/\r=Rt Z k)\/∃Z k b,Rd H a (.dT Z)/\y=.ref b/\H b=some (.tup (k.map kV))/\r=Rt Z k
def agc(H:Hp)(a:Addr)(y v:V)(H':Hp):Prop :=
 (∃Z k,H a=some (.dK Z)/\y=kV k/\Z.length<sizeLine/\H'=upd H a (.dK (putK Z k v))) \/
 ∃Z k b,H a=some (.dT Z)/\y=.ref b/\H b=some (.tup (k.map kV))/\Z.length<sizeLine/\H'=upd H a (.dT (putK Z k v))
theorem Oc.k{k:Key}(e:H a=some (.dK Z)):Oc H a (kV k) (Rt Z k):=.inl ⟨Z,k,.inl e,rfl,rfl⟩
def Oc.t{k:List Key}(e:H a=some (.dT Z))(G:H b=some (.tup (k.map kV))):Oc H a (.ref b) (Rt Z k):=.inr ⟨Z,k,b,.inl e,rfl,G,rfl⟩
theorem agc.k{k:Key}(e:H a=some (.dK Z))(hl:Z.length<sizeLine):agc H a (kV k) v (upd H a (.dK (putK Z k v))):=.inl ⟨Z,k,e,rfl,hl,rfl⟩
def agc.t{k:List Key}(e:H a=some (.dT Z))(G:H b=some (.tup (k.map kV)))(hl:Z.length<sizeLine) :
 agc H a (.ref b) v (upd H a (.dT (putK Z k v))):=.inr ⟨Z,k,b,e,rfl,G,hl,rfl⟩
def Inv.big(I:Inv X pins σ H s):sysModules<s.heap.objs.size:=by
 have h:mainGlobals<s.heap.objs.size:=(I.mod.glob.keeps I.bk).lt
 exact Nat.lt_trans (by decide) h
def aka(hu:A.units+1<cLine)(I:Inv X pins σ H s)(g:Oc H a y (some v))(ry:RelV y u)(h:∀U s',Inv X pins σ H s'->RelV v U->Q U s') :
 wpAny (model X.prog X.w) A (getItem (.ref a) u) Q E s:=by
 rcases g with⟨iu,k,e,ey,l⟩|⟨iu,k,b,e,ey,eb,l⟩
 .subst ey
  obtain⟨z,hd,vs,Z,dd⟩:=Wg I.Ar e;obtain⟨U,R,G⟩:=Lg.some_of (v:=v) (o:=valueAt vs k) (by rw[l];exact Z.val k);exact wpAny_getItem_of (Y0 ry) dd.mapOf R (h U _ (I.tok _) G)
 .subst ey
  cases(show u=Value.ref b from ry);obtain⟨z,hd,xs,Z,dd⟩:=Y5 I.Ar e;obtain⟨U,R,G⟩:=Lg.some_of (v:=v) (o:=(atKey xs k).map (·.2)) (by rw[l];exact Z.val k);obtain⟨p,hp,qq⟩:=cg.mp R;refine wpAny_getItem_heap (xq hu) (Ob I.Ar eb) dd hp ?_;rw[qq];exact h U _ (I.tok _) G
def a7m(hu:A.units+1<cLine)(I:Inv X pins σ H s)(g:Oc H a y o)(ry:RelV y u)(h:∀s',Inv X pins σ H s'->Q (.bool o.isSome) s') :
 wpAny (model X.prog X.w) A (compareOp .In u (.ref a)) Q E s:=by
 rcases g with⟨iu,k,e,R,l⟩|⟨iu,k,b,e,R,eb,l⟩
 .subst R
  obtain⟨z,U,vs,Z,G⟩:=Wg I.Ar e;refine wpAny_in_of (Y0 ry) U G.mapOf ?_;rw[<- (Z.val k).Jy,<- l];exact h _ (I.tok _)
 .subst R
  cases(show u=Value.ref b from ry);obtain⟨z,U,xs,Z,G⟩:=Y5 I.Ar e;refine wpAny_in_heap (xq hu) (Ob I.Ar eb) U G ?_;have q:=(Z.val k).Jy;rw[Option.isSome_map] at q;rw[<- q,<- l];exact h _ (I.tok _)
def ahx(hu:A.units+1<cLine)(I:Inv X pins σ H s)(g:Oc H a y o)(ry:RelV y u)(h:∀s',Inv X pins σ H s'->Q (.bool (!o.isSome)) s') :
 wpAny (model X.prog X.w) A (compareOp .NotIn u (.ref a)) Q E s:=by
 rcases g with⟨iu,k,e,R,l⟩|⟨iu,k,b,e,R,eb,l⟩
 .subst R
  obtain⟨z,U,vs,Z,G⟩:=Wg I.Ar e;refine wpAny_notIn_of (Y0 ry) U G.mapOf ?_;rw[<- (Z.val k).Jy,<- l];exact h _ (I.tok _)
 .subst R
  cases(show u=Value.ref b from ry);obtain⟨z,U,xs,Z,G⟩:=Y5 I.Ar e;refine wpAny_notIn_heap (xq hu) (Ob I.Ar eb) U G ?_;have q:=(Z.val k).Jy;rw[Option.isSome_map] at q;rw[<- q,<- l];exact h _ (I.tok _)
def ahy(I:Inv X pins σ H s)(R:Mut (H a))(hs:Heap.SameBut a s.heap h')(U:∃q,h'.get? a=some q)(new:Ay X.prog X.w (upd H a Z) h' a Z) :
 Inv X pins σ (upd H a Z) { s with heap:=h',toks:=t' } :=
 I.write (x:=a) (e:=a) R (.inl rfl) (λb q G z=>(hs.2 b G).trans z) U new
def aok(z:G.length<=sizeLine)(U:(a==sysModules)=false)(Z:KV G vs)(dd:h'.DictOf (o5 P w) a vs) :
 Ay P w H' h' a (.dK G):=⟨z,U,vs,Z,dd⟩
def Y6(hu:A.units+1<cLine)(I:Inv X pins σ H s)(g:agc H a y v H')(ry:RelV y u)(rv:RelV v r)(h:∀s',Inv X pins σ H' s'->Q () s') :
 wpAny (model X.prog X.w) A (setItem (.ref a) u r) Q E s:=by
 rcases g with⟨U,k,e,ey,l,eH⟩|⟨U,k,b,e,ey,eb,l,eH⟩
 .subst ey eH
  obtain⟨z,hd,vs,Z,dd⟩:=a7l I.Ar e;have hz:vs.length<=sizeLine:=by rw[<- Z.length];exact z
  have hl:(putK U k v).length<=sizeLine:=by have:=Uw U k v;exact a_ this l
  refine wpAny_setItem_pairs (hsz:=hz) (Y0 ry) dd λh' G hs=>h _ ?_
  have he:∃q,h'.get? a=some q:=let ⟨q,_,_,R,_⟩:=G;⟨q,R⟩;exact ahy I (by rw[e];exact True.intro) hs he (aok hl hd (Z.put k rv) G)
 .subst ey eH
  cases(show u=Value.ref b from ry);obtain⟨z,hd,xs,Z,dd⟩:=aoj I.Ar e;have hz:xs.length<=sizeLine:=by rw[<- Paired.length Z];exact z
  have hl:(putK U k v).length<=sizeLine:=by have:=Uw U k v;exact a_ this l
  refine wpAny_setItem_heap (hsz:=hz) (xq hu) (Ob I.Ar eb) dd λh' G hs=>h _ ?_
  obtain⟨q,es,ep,R,h2,h3,h4,_,h5⟩:=G;refine ahy I (by rw[e];exact True.intro) hs ⟨q,R⟩ ⟨hl,hd,_,(Z.put k eb rv).keeps λc ys ec=>?_,q,es,ep,R,h2,h3,h4,h5⟩;rw[kh (anh ec e (λz=>nomatch z))];exact ec
def ade(I:Inv X pins σ H s)(g:Oc H a y o):s.TypeIs (.ref a) "dict" := by
 rcases g with⟨G,k,e,_,_⟩|⟨G,k,b,e,_,_,_⟩
 .obtain⟨_,_,R,_,Z⟩:=Wg I.Ar e
  exact Z.typeIs
 .obtain⟨_,_,U,_,Z⟩:=Y5 I.Ar e
  exact Z.typeIs
def aol(h:Heap)(Z:sysModules<h.objs.size):Ay P w H (h.push { cls:=.type "dict",data:=.dict #[] }) h.objs.size (.dK []) :=
 ⟨jx _,qz.mpr (j5 (dq Z)),[],.nil,Heap.DictOf.new h⟩
def aom(h:Heap)(Z:sysModules<h.objs.size):Ay P w H (h.push { cls:=.type "dict",data:=.dict #[] }) h.objs.size (.dT []) :=
 ⟨jx _,qz.mpr (j5 (dq Z)),[],.nil,_,#[],0,bc _ rfl,⟨rfl,rfl,rfl⟩,rfl,rfl,Ax⟩
def a0m:TE:=λ_ H Q=>∀p,H p=none->Q (.ref p) (upd H p (.dK []))
def a0n:TE:=λ_ H Q=>∀p,H p=none->Q (.ref p) (upd H p (.dT []))
def aon:PE X (.Dict [] [] pos) a0m:=λZ s G H Q I h =>
 wpAny_Dict_empty ⟨.ref s.heap.objs.size,_,I.laid (a:=s.heap.objs.size) (o:=.dK []) (t':=s.toks) (λ_ _ q=>ao _ q) (bf _) (aol s.heap I.big),rfl,h _ (I.Ar.fresh (bf _))⟩
def aoo:PE X (.Dict [] [] pos) a0n:=λZ s G H Q I h =>
 wpAny_Dict_empty ⟨.ref s.heap.objs.size,_,I.laid (a:=s.heap.objs.size) (o:=.dT []) (t':=s.toks) (λ_ _ q=>ao _ q) (bf _) (aom s.heap I.big),rfl,h _ (I.Ar.fresh (bf _))⟩
def a0o(hu:A.units+1<cLine)(I:Inv X pins σ H s)(g:Oc H a y o)(ry:RelV y u)(rd:RelV d r)(h:∀w' s',Inv X pins σ H s'->RelV (o.getD d) w'->Q w' s') :
 wpAny (model X.prog X.w) A (call (.builtin "dict.get") [.ref a,u,r]) Q E s:=by
 rcases g with⟨iu,k,e,R,l⟩|⟨iu,k,b,e,R,eb,l⟩
 .subst R
  obtain⟨z,U,vs,Z,G⟩:=Wg I.Ar e;refine call_meetsIn PySem.F.slot_dict_get G.typeIs PySem.F.entry_dict_get (PySem.F.args_dict_get_3 _ _ _) (meets_dict_get_default (o5 X.prog X.w) a (Y0 ry) U r) ⟨_,G.mapOf,h _ _ (I.tok _) ?_⟩;rw[l];exact(Z.val k).getD rd
 .subst R
  cases(show u=Value.ref b from ry);obtain⟨z,U,xs,Z,G⟩:=Y5 I.Ar e;refine call_meetsIn PySem.F.slot_dict_get G.typeIs PySem.F.entry_dict_get (PySem.F.args_dict_get_3 _ _ _) (meetsH_dict_get_default (tupleKind (o5 X.prog X.w)) a b U r) ⟨xq hu,k,xs,Ob I.Ar eb,G,h _ _ (I.tok _) ?_⟩;rw[l];exact(Z.val k).getD rd
def aop(I:Inv X pins σ H s)(e:Rd H a (.dK U))(h:∀p s',H p=none->Inv X pins σ (upd H p (.dK U)) s'->Q (.ref p) s'):wpAny (model X.prog X.w) A (call (.type "dict") [.ref a]) Q E s:=by
 obtain⟨z,hd,vs,Z,dd⟩:=Wg I.Ar e;refine kt_call_dict hd dd (by rw[<- Z.length];exact z) λh' G hs=>?_
 refine h _ _ (I.Ar.fresh (bf _)) (I.laid (a:=s.heap.objs.size) (o:=.dK U) (t':=s.toks) (λb q R=>?_) (bf _) (aok z (qz.mpr (j5 (dq I.big))) Z G));exact(hs.2 b (dq (au R))).trans (ao _ R)
end L2
namespace HT
open PySem PyProof.Rows
def at5(ht:IsTup s.heap t vs.toArray)(hb:IsTup s.heap b G.toArray)(h0:vs=[]->Q (.ref b) s)(h1:G=[]->Q (.ref t) s)(h2:vs≠[]->G≠[]->Q (.ref s.heap.objs.size) { s with heap:=s.heap.push { cls:=.type "tuple",data:=.seq (vs++G).toArray } })(hsz:vs.length+G.length<=sizeLine):wpAny (model prog w) A (binaryOp .Add (.ref t) (.ref b)) Q E s:=by
 obtain⟨⟨cls,dd,data,sl⟩,ho,hc,n,hd⟩:=id ht;obtain⟨⟨q0,R,qv,U⟩,Z,qk,n2,qq⟩:=id hb;simp only at hc hd qk qq;subst hc hd qk qq;have e:vs.toArray++G.toArray=(vs++G).toArray:=by simp
 by_cases hv:vs=[]
 .exact concat_meets ⟨_,ho,rfl⟩ ⟨_,Z,rfl⟩ noFill_tuple_add seq_tuple_add PySem.F.slot_tuple_add PySem.F.entry_tuple_add (PySem.F.args_tuple_add_2 _ _)
   (tuple_addW0 t b vs.toArray G.toArray n n2 dd R sl U (by simp[hv])) ⟨ho,Z,h0 hv⟩
 by_cases hw:G=[]
 .exact concat_meets ⟨_,ho,rfl⟩ ⟨_,Z,rfl⟩ noFill_tuple_add seq_tuple_add PySem.F.slot_tuple_add PySem.F.entry_tuple_add (PySem.F.args_tuple_add_2 _ _)
   (tuple_addW1 t b vs.toArray G.toArray n n2 dd R sl U (by simpa using hv) (by simp[hw])) ⟨ho,Z,h1 hw⟩
 .refine concat_meets ⟨_,ho,rfl⟩ ⟨_,Z,rfl⟩ noFill_tuple_add seq_tuple_add PySem.F.slot_tuple_add PySem.F.entry_tuple_add (PySem.F.args_tuple_add_2 _ _)
   (tuple_addW2 t b vs.toArray G.toArray n n2 dd R sl U (by simpa using hv) (by simpa using hw) (by rw[gw,gw];exact hsz)) ⟨ho,Z,?_⟩
  rw[e];exact h2 hv hw
noncomputable def sIx(n d:Nat):Option Int->Nat
 |none=>d|some v=>if v<0 then(v+(n:Int)).toNat else min v.toNat n
end HT
namespace L2
open PySem PySem.Spec PyProof.Rows
abbrev TO:=St->Hp->(Option Int->Hp->Prop)->Prop
def PO(X:Cx)(e:Option Expr)(t:TO):Prop :=
 ∀(Z:Zp)(s:Shared)(G:St)(H:Hp)(Q:Option Int->Hp->Prop),Inv X Z G H s->t G H Q ->
  wpAny (model X.prog X.w) X.A (evalPart e X.env) (λu R=>∃o U,Inv X Z G U R/\IsPart u o/\Q o U) X.xe s
def at6:TO:=λ_ H Q=>Q none H
def a7n(t:TE):TO:=fun Z H Q=>t Z H λx G=>∃i,x=.int i/\Q (some i) G
def at7:PO X none at6:=by intro Z s G H Q I h;rw[evalPart_none];exact aj ⟨none,H,I,.none,h⟩
def at8(h:PE X e U):PO X (some e) (a7n U):=by
 intro Z s σ H Q I R;rw[evalPart_some];refine Bj (h Z s σ H _ I R) λu s1 z_=>?_
 obtain⟨x,H1,I1,G,q1⟩:=z_;obtain⟨i,rfl,q⟩:=q1;obtain⟨t,rfl⟩:=G;exact⟨some i,H1,I1,.int i t,q⟩
def SlR(X:Cx)(r:V->Option Int->Option Int->Hp->VK->Prop):Prop :=
 ∀(Z:Zp)(s:Shared)(σ:St)(H:Hp)(x:V)(v G vu:Value)(lo U:Option Int)(R:Addr)(Q:VK),Inv X Z σ H s->RelV x v->s.heap.IsSliceOf R G vu .none->IsPart G lo->IsPart vu U->r x lo U H Q ->
  ∃T id,typeLookup (.type T) "__getitem__" = pure (some (.builtin id))/\s.TypeIs v T/\wpAny (model X.prog X.w) X.A (getItem v (.ref R)) (EP X Z σ Q) X.xe s
def tSl(r:V->Option Int->Option Int->Hp->VK->Prop)(U:TE)(R th:TO):TE:=fun Z H Q=>U Z H λx H1=>R Z H1 λl H2=>th Z H2 λu G=>r x l u G Q
def aoq{lo:Option Expr}(hr:SlR X r)(he:PE X e te)(hl:PO X lo tl)(hu:PO X hi th):PE X (.Subscript e (.Slice lo hi none p2) pos) (tSl r te tl th):=by
 intro Z s U H Q I h;refine Subscript_ (Bj (he Z s U H _ I h) λv s1 z_=>?_);obtain⟨x,H1,I1,r1,q1⟩:=z_;refine wpAny_Slice (Bj (hl Z s1 U H1 _ I1 q1) λR s2 ⟨l,H2,I2,pl,q2⟩=>Bj (hu Z s2 U H2 _ I2 q2) λvu G z_=>?_);obtain⟨u,H3,I3,pu,q3⟩:=z_;rw[evalPart_none];refine aj ?_;have I4:Inv X Z U H3 { G with heap:=G.heap.push { cls:=.type "slice",data:=.fields #[R,vu,.none] } }:=I3.kept (t':=G.toks) λb ob q=>ao _ q
 obtain⟨T,id,hT,ht,hg⟩:=hr Z { G with heap:=G.heap.push { cls:=.type "slice",data:=.fields #[R,vu,.none] } } U H3 x v R vu l u G.heap.objs.size Q I4 r1 (Heap.IsSliceOf.new ..) pl pu q3;show wpAny (model X.prog X.w) X.A (subscriptTail e (.Slice lo hi none p2) v (.ref G.heap.objs.size)) (EP X Z U Q) X.xe { G with heap:=G.heap.push { cls:=.type "slice",data:=.fields #[R,vu,.none] } };exact tail_any (ops:=[.ref G.heap.objs.size,v]) ht hT hg (by with_unfolding_all rfl)
noncomputable def akb(xs:List V)(lo hi:Option Int):List V:=(xs.drop (HT.sIx xs.length 0 lo)).take (HT.sIx xs.length xs.length hi-HT.sIx xs.length 0 lo)
def adf(xs:List V)(lo hi:Option Int):(akb xs lo hi).length<=xs.length:=by
 unfold akb;rw[List.length_take,List.length_drop]
 lia
def a7o(K:Fg):R2:=λx y H Q=>∃a b G Z,x=.ref a/\y=.ref b/\J5 K H a G/\J5 K H b Z/\G.length+Z.length<=sizeLine /\
 (G=[]->Q (.ref b) H)/\(Z=[]->Q (.ref a) H)/\(∀p,H p=none->Q (.ref p) (upd H p (.tup (G++Z))))
def Vals.ahz(r:Vals xs us):us=[]↔xs=[]:=by
 cases r with
 |nil=>simp|cons _ _=>simp
def at9:De X (binaryOp .Add) (a7o X.K):=by intro U s σ H x y v u Q I rx ry h;obtain⟨a,b,xs,ys,rfl,rfl,ha,hb,R,q0,q1,q2⟩:=h;cases rx;cases ry;obtain⟨yq,G,p1,_⟩:=I.tuple ha;obtain⟨qq,Z,p2,_⟩:=I.tuple hb;refine HT.at5 p1 p2 (λz=>⟨.ref b,H,I,rfl,q0 (G.ahz.mp z)⟩) (λz=>⟨.ref a,H,I,rfl,q1 (Z.ahz.mp z)⟩) (λ_ _=>?_) (by rw[<- G.length,<- Z.length];exact R);refine⟨.ref s.heap.objs.size,_,I.laid (t':=s.toks) (o:=.tup (xs++ys)) (λb ob q=>ao _ q) (bf _) ?_,rfl,q2 _ (I.Ar.fresh (bf _))⟩;exact⟨by rw[vf];exact R,_,G.append Z,Xy.new _ _⟩
end L2
namespace L2
open PySem PySem.Spec PyProof.Rows
noncomputable def ixN(n:Nat)(i:Int):Option Nat:=if 0<=i then(if i<n then some i.toNat else none) else if -(n:Int)<=i then some (i+n).toNat else none
noncomputable def atI{α:Type}(xs:List α)(i:Int):Option α:=(ixN xs.length i).bind λj=>xs[j]?
def ah0(h:ixN n i=some j):seqIndex? i n=some j/\j<n/\-(n:Int)<=i/\i<n:=by
 unfold ixN at h
 by_cases G:0<=i
 .rw[cj G] at h
  by_cases Z:i<n
  .rw[cj Z] at h
   have e:i.toNat=j:=jt h;exact⟨by rw[seqIndex_of G Z,e],by lia,by lia,Z⟩
  .rw[bx Z] at h;cases h
 .rw[bx G] at h
  by_cases Z:-(n:Int)<=i
  .rw[cj Z] at h
   have e:(i+n).toNat=j:=jt h;exact⟨by rw[seqIndex_neg (by lia) Z,e],by lia,Z,by lia⟩
  .rw[bx Z] at h;cases h
def ah1(h:atI xs i=some v):∃j,seqIndex? i xs.length=some j/\xs[j]?=some v/\j<xs.length/\-(xs.length:Int)<=i/\i<xs.length:=by
 unfold atI at h;cases e:ixN xs.length i with
 |none=>rw[e] at h;cases h
 |some j =>
  rw[e] at h;obtain⟨R,Z,G,U⟩:=ah0 e;exact⟨j,R,h,Z,G,U⟩
def aaz(b:Expr):Prop:=∀o i,subscripted b false o i=operate [o,i] (getItem o i)
def IxR(X:Cx)(r:R2):Prop :=
 ∀(U Z:Expr)(G:Zp)(s:Shared)(R:St)(H:Hp)(x y:V)(v u:Value)(Q:VK),Inv X G R H s->RelV x v->RelV y u->r x y H Q ->
  subscripted Z false v u=operate [v,u] (getItem v u)->wpAny (model X.prog X.w) X.A (subscriptTail U Z v u) (EP X G R Q) X.xe s
def MtR(X:Cx)(id:String)(r:V->List V->Hp->VK->Prop):Prop :=
 ∀(Z:Zp)(s:Shared)(G:St)(H:Hp)(x:V)(R:List V)(v:Value)(U:Zl)(Q:VK),Inv X Z G H s->RelV x v->Vals R U->r x R H Q ->
  wpAny (model X.prog X.w) X.A (call (.builtin id) (v::U)) (EP X Z G Q) X.xe s
def a7r(hr:IxR X r)(G:PE X a ta)(hb:PE X b tb)(hs:aaz b):PE X (.Subscript a b pos) (tOp r ta tb):=by intro Z s σ H Q I h;exact Subscript_ (az8 G hb I h λv u R x y H2 I2 U ry q=>hr a b Z R σ H2 x y v u Q I2 U ry q (hs _ _))
def bej(K:Fg):R2:=λx y H Q=>∃p Z i v,x=.ref p/\y=.int i/\Gw K H p Z/\atI Z i=some v/\Q v H
def bek(K:Fg):R2:=λx y H Q=>∃p Z i v,x=.ref p/\y=.int i/\J5 K H p Z/\atI Z i=some v/\Q v H
def Cy:IxR X (bej X.K):=by
 intro qk qq Z s σ H x y v u Q I rx ry h hs;obtain⟨p,xs,i,z,rfl,rfl,hq,he,q⟩:=h;cases rx;obtain⟨t,rfl⟩:=ry;obtain⟨yq,r,pl,hz⟩:=I.list hq;obtain⟨j,G,h2,h3,h4,h5⟩:=ah1 he;obtain⟨w,ew,U⟩:=r.get h2;have hl:=r.length;have hn:=aay;have fin:EP X Z σ Q w s:=⟨z,H,I,U,q⟩
 by_cases h0:0<=i
 .have R:i.toNat=j:=by
   rw[seqIndex_of h0 h5] at G;exact jt G
  exact item_listR pl.isList h0 (by lia) (by rw[R];simpa using ew) fin hs
 .have R:(i+(yq.toArray.size:Int)).toNat=j:=by
   rw[seqIndex_neg (by lia) h4] at G;rw[gw,<- hl];exact jt G
  exact subscriptTail_builtinR (x:=w) pl.isList.typeIs slot_list_getitem.lookup
   (wpAny_getItem_list_neg (Q:=λr s'=>r=w/\EP X Z σ Q r s') pl.isList (by lia) (by rw[gw]<;>lia) (by lia) (by rw[R];simpa using ew) ⟨rfl,fin⟩) hs
def Iw:IxR X (bek X.K):=by
 intro R U Z s σ H x y v u Q I rx ry h hs;obtain⟨p,xs,i,z,rfl,rfl,hq,he,q⟩:=h;cases rx;obtain⟨t,rfl⟩:=ry;obtain⟨yq,r,pl,hz⟩:=I.tuple hq;obtain⟨j,h1,h2,h3,h4,h5⟩:=ah1 he;obtain⟨w,ew,G⟩:=r.get h2;have hl:=r.length;have hn:=aay;have fin:EP X Z σ Q w s:=⟨z,H,I,G,q⟩;exact subscriptTail_builtinR (x:=w) pl.typeIs slot_tuple_getitem.lookup
  (getItem_tuple (j:=j) (Q:=λr s'=>r=w/\EP X Z σ Q r s') pl (by lia) (by lia) (by rw[gw,<- hl];exact h1) (by simpa using ew) ⟨rfl,fin⟩) hs
def agd(Z:Zl)(n j:Nat)(u:Value):Obj.mapSeq (·.setIfInBounds j u) { cls:=.type "list",data:=.seq Z.toArray n }={ cls:=.type "list",data:=.seq (Z.set j u).toArray n }:=by simp[Obj.mapSeq]
theorem Inv.lst{X:Cx}{Z:Zp}{U:St}{H:Hp}{s:Shared}{p:Addr}{xs:List V}(I:Inv X Z U H s)(h:H p=some (.lst xs)) :
 ∃(G:Zl)(n:Nat),Vals xs G/\s.heap.get? p=some { cls:=.type "list",data:=.seq G.toArray n }/\xs.length<=sizeLine:=by
 obtain⟨z,G,n,r,e⟩:=I.Ar p _ h;exact⟨G,n,r,e,z⟩
def Inv.a0q{G:Zl}(I:Inv X pins σ H s)(h:H p=some (.lst xs))(ho:s.heap.get? p=some { cls:=.type "list",data:=.seq G.toArray n })(U:f { cls:=.type "list",data:=.seq G.toArray n }={ cls:=.type "list",data:=.seq its'.toArray Z })(r:Vals ys its')(hz:ys.length<=sizeLine)(t:Nat) :
 Inv X pins σ (upd H p (.lst ys)) { s with heap:=s.heap.update p f,toks:=t }:=by
 have e:(s.heap.update p f).get? p=some { cls:=.type "list",data:=.seq its'.toArray Z }:=by rw[m8 f ho (by rw[U]<;>rfl),U]
 refine I.write (x:=p) (e:=p) (by rw[h];trivial) (.inl rfl) (λb u R q=>(vd _ _ (j5 R)).trans q) ⟨_,e⟩ ?_;exact⟨hz,its',Z,r,e⟩
def a7s:V->V->V->Hp->(Hp->Prop)->Prop:=λo i v H Q=>∃p Z k j,o=.ref p/\i=.int k/\H p=some (.lst Z)/\ixN Z.length k=some j/\Q (upd H p (.lst (Z.set j v)))
def set_list:az1 X a7s:=by
 intro Z s σ H o i v ov iv u Q I ro ri rv h;obtain⟨p,xs,k,j,rfl,rfl,hp,hj,q⟩:=h;cases ro;obtain⟨t,rfl⟩:=ri;obtain⟨yq,n,r,U,hz⟩:=I.lst hp;obtain⟨G,h2,h3,h4⟩:=ah0 hj;have R:=r.length;have hn:=aay;have I':Inv X Z σ (upd H p (.lst (xs.set j v))) { s with heap:=s.heap.update p (Obj.mapSeq (·.setIfInBounds j u)) } :=
  I.a0q hp U (agd yq n j u) (r.set rv j) (by rw[List.length_set];exact hz) s.toks
 by_cases h0:0<=k
 .have hk:k.toNat=j:=by
   rw[seqIndex_of h0 h4] at G;exact jt G
  exact PySem.W.ki_setAt U h0 (by lia) (by rw[gw,<- R];exact h4) (by rw[hk];exact⟨_,I',q⟩)
 .have hk:(k+(yq.toArray.size:Int)).toNat=j:=by
   rw[seqIndex_neg (by lia) h3] at G;rw[gw,<- R];exact jt G
  exact PySem.W.ki_setBack U (by lia) (by rw[gw,<- R];exact h3) (by lia) (by rw[hk];exact⟨_,I',q⟩)
def aa0(lo hi:Option Int)(n:Nat):(sliceBounds lo hi none n).1=((HT.sIx n 0 lo:Nat):Int)/\(sliceBounds lo hi none n).2.1=((HT.sIx n n hi:Nat):Int)/\(sliceBounds lo hi none n).2.2=1:=by
 refine⟨?_,?_,rfl⟩
 .cases lo with
  |none=>simp[sliceBounds,HT.sIx]
  |some i =>
   simp only[sliceBounds,HT.sIx,Option.getD_none,show(1:Int) > 0 by decide,jn]
   by_cases h:i<0
   .simp only[h,jn]<;>lia
   .simp only[h,ik]<;>lia
 .cases hi with
  |none=>simp[sliceBounds,HT.sIx]
  |some i =>
   simp only[sliceBounds,HT.sIx,Option.getD_none,show(1:Int) > 0 by decide,jn]
   by_cases h:i<0
   .simp only[h,jn]<;>lia
   .simp only[h,ik]<;>lia
def X3(Z:Zl)(lo hi:Option Int):slicePick Z.toArray lo hi none=((Z.drop (HT.sIx Z.length 0 lo)).take (HT.sIx Z.length Z.length hi-HT.sIx Z.length 0 lo)).toArray:=by obtain⟨R,G,U⟩:=aa0 lo hi Z.toArray.size;unfold slicePick;rw[R,G,U];simp only[sliceRange_one,pick_run,gw]<;>rfl
def a7t(K:Fg):V->Option Int->Option Int->Hp->VK->Prop:=λx U G H Q=>∃a Z,x=.ref a/\Gw K H a Z/\∀p,H p=none->Q (.ref p) (upd H p (.lst (akb Z U G)))
def aua:SlR X (a7t X.K):=by intro qq s σ H x v vl vu U R sl Q I rx hs pl pu h;obtain⟨a,G,rfl,hx,q⟩:=h;cases rx;obtain⟨yq,r,ht,hz⟩:=I.list hx;have Z:=r.length;refine⟨"list",_,slot_list_getitem.lookup,ht.isList.typeIs,?_⟩;refine wpAny_getItem_list_slice ht.isList hs pl pu .none (by simp) ?_ (by rw[gw]<;>exact a_ (g_ Z) hz);rw[X3,<- Z];refine⟨.ref s.heap.objs.size,_,I.laid (t':=s.toks) (o:=.lst (akb G U R)) (λb ob q=>ao _ q) (bf _) ?_,rfl,q _ (I.Ar.fresh (bf _))⟩;exact⟨ie (adf G U R) hz,_,0,(r.drop (HT.sIx G.length 0 U)).take (HT.sIx G.length G.length R-HT.sIx G.length 0 U),bc _ rfl⟩
def aa1:Bw X (.builtin "len") (λxs H Q=>∃p ys,xs=[.ref p]/\(Gw X.K H p ys\/J5 X.K H p ys)/\Q (.int ys.length) H):=by
 intro qq s σ H xs us Q I r h;obtain⟨p,ys,rfl,G,q⟩:=h;obtain⟨u,rfl,rx⟩:=vals1 r;cases rx;have hn:=aay;rcases G with G|G
 .obtain⟨yq,U,R,hz⟩:=I.list G
  have Z:=U.length;exact Calls.call_len_list R.isList (by simp only[gw]<;>lia) ⟨.int ys.length,H,I.tok _,⟨s.toks+1,by rw[gw,Z]⟩,q⟩
 .obtain⟨yq,U,R,hz⟩:=I.tuple G
  have Z:=U.length;exact len_tuple R (by simp only[gw]<;>lia) ⟨.int ys.length,H,I.tok _,⟨s.toks+1,by rw[gw,Z]⟩,q⟩
def aa2:Bw X (.type "list") (λxs H Q=>∃p ys,xs=[.ref p]/\(Gw X.K H p ys\/J5 X.K H p ys)/\∀l,H l=none->Q (.ref l) (upd H l (.lst ys))):=by
 intro qq s σ H xs us Q I r h;obtain⟨p,ys,rfl,hq,q⟩:=h;obtain⟨u,rfl,rx⟩:=vals1 r;cases rx;have fin:∀(U:Zl),Vals ys U->ys.length<=sizeLine->∀(G:Heap)(R:Nat),(∀b o',s.heap.get? b=some o'->G.get? b=some o') ->
  G.get? s.heap.objs.size=some { cls:=.type "list",dict:=none,data:=.seq U.toArray R,slots:=#[] }->EP X qq σ Q (.ref s.heap.objs.size) { s with heap:=G }:=λU r' hz G R kp e =>
  ⟨.ref s.heap.objs.size,_,I.laid (t':=s.toks) kp (bf _) (show Ay X.prog X.w _ G _ (.lst ys) from⟨hz,U,R,r',e⟩),rfl,q _ (I.Ar.fresh (bf _))⟩
 rcases hq with hq|hq
 .obtain⟨U,r',pl,hz⟩:=I.list hq
  have Z:=r'.length;obtain⟨o,ho,hc,n,hd⟩:=pl.isList;exact call_list_seq p (.inl rfl) ho hc hd (λG R kp e=>fin U r' hz G R kp e) (by simp only[gw]<;>exact a_ (g_ Z) hz)
 .obtain⟨U,r',pl,hz⟩:=I.tuple hq
  have Z:=r'.length;obtain⟨o,ho,hc,n,hd⟩:=pl;exact call_list_seq p (.inr rfl) ho hc hd (λG R kp e=>fin U r' hz G R kp e) (by simp only[gw]<;>exact a_ (g_ Z) hz)
def X4:Bw X (.type "tuple") (λxs H Q=>∃p ys,xs=[.ref p]/\((Gw X.K H p ys/\∀l,H l=none->Q (.ref l) (upd H l (.tup ys)))\/(J5 X.K H p ys/\Q (.ref p) H))):=by
 intro Z s σ H xs us Q I r h;obtain⟨p,ys,rfl,h⟩:=h;obtain⟨u,rfl,rx⟩:=vals1 r;cases rx;rcases h with⟨R,q⟩|⟨R,q⟩
 .obtain⟨yq,r',pl,hz⟩:=I.list R
  have G:=r'.length;refine call_tuple_list pl.isList (λU kp=>?_) (by simp only[gw]<;>exact a_ (g_ G) hz);have I1:Inv X Z σ H { s with heap:=U }:=I.kept (t':=s.toks) kp;have I2:Inv X Z σ (upd H U.objs.size (.tup ys)) { s with heap:=U.push { cls:=.type "tuple",data:=.seq yq.toArray } } :=
   I1.laid (t':=s.toks) (λb o e=>ao _ e) (bf _) (show Ay X.prog X.w _ _ _ (.tup ys) from⟨hz,yq,r',Xy.new _ _⟩)
  exact⟨.ref U.objs.size,_,I2,rfl,q _ (I1.Ar.fresh (bf _))⟩
 .obtain⟨yq,r',pl,hz⟩:=I.tuple R
  exact call_tuple_same pl ⟨.ref p,H,I,rfl,q⟩
def tyV(K:Fg)(T:String)(x:V)(H:Hp):Prop:=match x with
 |.str _=>T = "str"|.int _=>T = "int"
 |.ref p=>(T = "list"/\∃G,Gw K H p G)\/(T = "tuple"/\∃o,K.lookup p=some o/\o.cls=.type "tuple"/\o.dict=none) \/
  (T = "dict"/\((∃Z,H p=some (.dK Z))\/∃Z,H p=some (.dT Z)))\/(T = "set"/\∃S n,H p=some (.set S n))
 |_=>False
def a0r(I:Inv X pins σ H s)(r:RelV x v)(ty:tyV X.K T x H) :
 s.TypeIs v T/\∀a,v=.ref a->∃ob,s.heap.get? a=some ob/\ob.dict=none:=by
 cases x with
 |str z =>
  obtain⟨t,rfl⟩:=r;cases(show T = "str" from ty);exact⟨typeIs_str s z t,λ_ e=>nomatch e⟩
 |int i =>
  obtain⟨t,rfl⟩:=r;cases(show T = "int" from ty);exact⟨typeIs_int s i t,λ_ e=>nomatch e⟩
 |ref p =>
  cases r;rcases ty with⟨rfl,xs,hq⟩|⟨rfl,o,Z,hc,R⟩|⟨rfl,Z⟩|⟨rfl,S,n,Z⟩
  .obtain⟨yq,_,pl,_⟩:=I.list hq
   refine⟨pl.isList.typeIs,λa e=>?_⟩;cases e;obtain⟨o,n,e,c,R,_⟩:=pl;exact⟨o,e,R⟩
  .refine⟨⟨o,I.Su p o Z,hc⟩,λa e=>?_⟩
   cases e;exact⟨o,I.Su _ o Z,R⟩
  .have z:∃o,s.heap.get? p=some o/\o.ExactDict:=by
    rcases Z with⟨iu,Z⟩|⟨iu,Z⟩
    .obtain⟨_,_,_,_,o,_,_,e,G,_⟩:=I.Ar p _ Z
     exact⟨o,e,G⟩
    .obtain⟨_,_,_,_,o,_,_,e,G,_⟩:=I.Ar p _ Z
     exact⟨o,e,G⟩
   obtain⟨o,e,G⟩:=z;refine⟨⟨o,e,G.1⟩,λa U=>?_⟩;cases U;exact⟨o,e,G.2.1⟩
  .obtain⟨o,_,_,_,e,G,_⟩:=I.Ar p _ Z
   refine⟨⟨o,e,G.1⟩,λa U=>?_⟩;cases U;exact⟨o,e,G.2.1⟩
 |_=>exact False.elim ty
def tBM(K:Fg)(T:String)(r:V->List V->Hp->VK->Prop)(U:TE)(t:TA):TE:=fun Z H Q=>U Z H λx G=>tyV K T x G/\t Z G λR H2=>r x R H2 Q
theorem a7u{id:String}(pa:PlainAttrs T)(U:Slot T name id)(R:typeOf (.builtin id)=pure (.type "method_descriptor"))(hm:MtR X id r)(ho:PE X o to)(ha:PA X (e::es) t)(qk:attributeBase o name X.env (eval o X.env)=eval o X.env:=by rfl)(qq:((backTo G (starEach (e::es) X.env)).all (λx=>!x.1)&&(backToKw G (keywordEach [] X.env)).all (λx=>x.1.isSome)
&&decide ((e::es).length+([]:List Keyword).length+(if([]:List Keyword).isEmpty then 0 else 1)<30))=true:=by rfl)(qv:(apos.endLine==G.line)=true:=by rfl)(hs:starEach (e::es) X.env=(false,eval e X.env)::starEach es X.env:=by rfl)(q0:(backTo G (starEach es X.env)).any (·.1)=false:=by rfl) :
 PE X (.Call (.Attribute o name apos) (e::es) [] G) (tBM X.K T r to t):=by
 intro Z s σ H Q I h;refine wpAny_Call_method_late qk qq qv rfl (Bj (ho Z s σ H _ I h) λv s1 z_=>?_);obtain⟨x,H1,I1,r1,ty,q1⟩:=z_;obtain⟨h1,h2⟩:=a0r I1 r1 ty;refine⟨T,id,pa,U,R,h1,h2,?_⟩;have hA:=ha G Z s1 σ H1 _ I1 q1;rw[hs] at hA ⊢;refine Calls.callWith_builtin (by show(false||(backTo G (starEach es X.env)).any (·.1))=false;rw[q0]<;>rfl) (Calls.evalArgs_plain ?_);exact Bj hA λus s2 ⟨vs,H2,I2,r2,q2⟩=>hm Z s2 σ H2 x vs v us Q I2 r1 r2 q2
end L2
namespace L2
open PySem PySem.Spec PyProof.Rows
def MtM(X:Cx)(id:String)(r:V->List V->Hp->VK->Prop):Prop :=
 ∀(Z:Zp)(s:Shared)(G:St)(H:Hp)(x:V)(R:List V)(v:Value)(U:Zl)(Q:VK),Inv X Z G H s->RelV x v->Vals R U->r x R H Q ->
  wpAny (model X.prog X.w) X.A (call (.builtin id) (v::U)) (EP X Z G Q) X.xe s
theorem Vals.one:∀{x:V}{us:Zl},Vals [x] us->∃u,us=[u]/\RelV x u
 |_,_,.cons r .nil=>⟨_,rfl,r⟩
def Inv.bel{Z:Zl}(I:Inv X pins σ H s)(hH:H l=some (.lst xs))(e:s.heap.get? l=some { cls:=.type "list",data:=.seq Z.toArray n })(R:f Z.toArray=its'.toArray)(hv:Vals ys its')(hz:ys.length<=sizeLine) :
 Inv X pins σ (upd H l (.lst ys)) { s with heap:=s.heap.update l (Obj.mapSeq f),toks:=t' }:=by
 have q:=PySem.IsL.update e f;rw[R] at q;refine I.write (x:=l) (e:=l) (by rw[hH];exact trivial) (.inl rfl) (λb' u G U=>(vd s.heap (Obj.mapSeq f) (j5 G)).trans U) ⟨_,q⟩ ?_;exact⟨hz,its',_,hv,q⟩
def Inv.bem(I:Inv X pins σ H s)(G:Vals ys Z)(hz:ys.length<=sizeLine) :
 Inv X pins σ (upd H s.heap.objs.size (.lst ys)) { s with heap:=s.heap.push { cls:=.type "list",data:=.seq Z.toArray },toks:=t' } :=
 I.laid (λ_ _ q=>ao _ q) (bf _) ⟨hz,Z,0,G,bc _ rfl⟩
theorem Inv.fresh(I:Inv X pins σ H s):H s.heap.objs.size=none:=I.Ar.fresh (bf _)
def Inv.aub(I:Inv X pins σ H s)(G:H l=some (.lst xs)):xs.length<=sizeLine/\∃(Z:Zl)(n:Nat),Vals xs Z/\xs.length=Z.length/\s.heap.get? l=some { cls:=.type "list",data:=.seq Z.toArray n }:=by obtain⟨z,Z,n,r,e⟩:=I.Ar l _ G;exact⟨z,Z,n,r,r.length,e⟩
def auc:V->List V->Hp->VK->Prop:=λx G H Q=>∃l Z y,x=.ref l/\G=[y]/\H l=some (.lst Z)/\Z.length<sizeLine/\Q .non (upd H l (.lst (Z++[y])))
def Y7:MtM X "list.append" auc:=by intro G s σ H x vs v us Q I rx rv h;obtain⟨l,xs,y,rfl,rfl,R,U,q⟩:=h;cases rx;obtain⟨u,rfl,ru⟩:=rv.one;obtain⟨z,Z,n,r,hl,e⟩:=I.aub R;refine call_meets F.slot_list_append ⟨_,e,rfl⟩ F.entry_list_append (F.args_list_append_2 _ _) (PySem.list_append l Z.toArray n u (by rw[gw];exact e_ (c_ (g_ hl) U))) ⟨e,?_⟩;refine⟨.non,_,I.bel (its':=Z++[u]) R e (by simp) (r.append (.cons ru .nil)) ?_,rfl,q⟩;rw[vf,List.length_singleton];exact U
def a7v:R2:=λx y H Q=>∃l b G Z,x=.ref l/\y=.ref b/\H l=some (.lst G)/\H b=some (.lst Z)/\G.length+Z.length<=sizeLine/\∀p,H p=none->Q (.ref p) (upd H p (.lst (G++Z)))
def aot:De X (binaryOp .Add) a7v:=by
 intro U s σ H x y v u Q I R ry h;obtain⟨l,b,xs,zs,rfl,rfl,hH,hB,hz,q⟩:=h;cases R;cases ry;obtain⟨z,G,n,r,hl,e⟩:=I.aub hH;obtain⟨z2,Z,n2,r2,qq,e2⟩:=I.aub hB;refine PySem.P.add_list e e2 ?_ (by rw[gw,gw];lia);have ea:G.toArray++Z.toArray=(G++Z).toArray:=by simp
 rw[ea];exact⟨.ref _,_,I.bem (t':=s.toks) (r.append r2) (by rw[vf];exact hz),rfl,q _ I.fresh⟩
end L2
namespace Att
open PySem PySem.W PySem.Calls PyProof.Rows
def Vc:∀(ns:U1)(vs:Zl),WellAll P h vs (ns.map WData.int)->IntsAre vs ns:=by
 intro ns
 induction ns with
 |nil =>
  intro vs w;rw[List.map_nil] at w;cases w;exact .nil
 |cons n ns Z =>
  intro vs w;rw[ig] at w;cases w with
  |cons a b =>
   cases a;exact .cons _ _ (Z _ b)
def akc{l:OpenLaw}(hn:l.most=some n)(G:l.row.toRowW.claim.pre args=true)(qk:WellAll P h vals args) :
 ∃a vs ns,vals=[Value.ref a]/\args=[WData.list (ns.map WData.int)]/\h.get? a=some { cls:=.type "list",data:=.seq vs.toArray }/\IntsAre vs ns/\ns.length<=n:=by
 have qq:WShape.hasAll [] args [.list .int]=true:=(pre_splitW G).1;have hc:l.pre.holds [] { args:=args }=true:=(pre_splitW G).2;obtain⟨d,r,rfl,h1,h2⟩:=hasAllW_cons qq;obtain rfl:=hasAllW_nil h2;obtain⟨xs,rfl,h3⟩:=hasW_list h1;obtain⟨ns,rfl⟩:=items_int h3;have Z:ns.length<=n:=by
  unfold OpenLaw.pre at hc;have R:(WTm.not (.lt (.lit (.int (n:Int))) (.len (.arg 0)))).holds [] { args:=[.list (ns.map .int)] }=true:=by have R:=(holds_andW hc).1;rw[hn] at R;exact R
  have U:=condW_of R (w_not (w_lt w_lit (w_len_list (w_arg rfl))));rw[dw] at U;refine Nat.le_of_not_lt λq=>?_
  have q':(n:Int)<((ns.length:Nat):Int):=m_ q
  first
   |(rw[decide_eq_true q'] at U;exact absurd U (by decide))
   |(simp at U;omega)
 cases qk with
 |cons w1 w2 =>
  cases w2;cases w1 with
  |list ho Dq=>exact⟨_,_,ns,rfl,rfl,ho,Vc ns _ Dq,Z⟩
def akd(l:OpenLaw)(args:List WData):l.row.toRowW.claim.post args (.bool true) args=true :=
 postW_of (r:=l.row.toRowW) (X:=(true==true))
  (show WShape.has [] (.bool true) .bool=true by first|rfl|decide|simp[WShape.has,WShape.arms,WShape.armsAll])
  (show(WTm.eq .res (.lit (.bool true))).value [] { args:=args,res:=some (.bool true),after:=args }=some (.bool (true==true)) from w_eq_bool (w_res rfl) w_lit) rfl
def adg{l:OpenLaw}(hn:l.most=some n)(q0:d.params.defaults=[])(call:∀(w:World) (U Z:Shared) (mg mb:Zs) (fa:Addr) (o:Obj) (pm cd qq:Value) (a:Addr) (vs:Zl) (ns:U1),
 Ground q loose [] XP w U mg mb Z.heap->YP w Z.heap ->
 Z.heap.get? fa=some o->o.data=.func (docDef d.name d.params d.body d.scope pm cd qq)->Z.heap.CodeRec cd d.name->mg d.name=some (.ref fa) ->
 Z.heap.get? a=some { cls:=.type "list",data:=.seq vs.toArray }->IntsAre vs ns->ns.length<=n->Z.gens=#[] ->
 codeAny (model l.prog w) callerA (.call (.ref fa) ⟨[.ref a],[]⟩) (λr s'=>r=.ok (.ret (.bool true))/\OldK Z.heap s'.heap/\s'.os=Z.os/\AllBare s'.gens) Z) :
 WalkO q loose XP YP l.row.toRowW d [] (λf vs=>PySem.call f vs):=by
 intro w U Z mg mb G Y fa o pm cd qq dV kV ho hd q2 hD q4 hg q5 q6 as q3 q8 zz q1 q7;obtain rfl:dV=.none:=Dflts.none hD q0;obtain rfl:kV=.none:=Dflts.noKw hD;obtain⟨a,vs,ns,rfl,rfl,qv,R,qk⟩:=akc hn q3 q1;refine enter_call (xj (call w U Z mg mb fa o pm cd qq a vs ns G Y ho (fd_plain hd) q2 q4 qv R qk hg) λr s' hq=>?_);obtain⟨rfl,h2,h3,h4⟩:=hq;exact⟨.inl ⟨.bool true,.bool true,[],rfl,λ_=>rfl,.bool true,akd l _,λ_=>⟨List.Pairwise.nil,λ_ hm=>(nomatch hm)⟩⟩,h2,h3,h4⟩
end Att
namespace L2
open PySem PySem.Spec PyProof.Rows
theorem Y8:∀{vs:Zl}{ns:U1},IntsAre vs ns->Vals (ns.map V.int) vs
 |_,_,.nil=>.nil|_,_,.cons n t h=>.cons ⟨t,rfl⟩ (Y8 h)
def Only(H:Hp):Prop:=∀b,H b=none\/∃o Z,H b=some (.N6 o (.lst Z))
def aou{K:Fg}(KX:K.In s₁.heap)(qk:s₁.heap.Ns mainGlobals mg)(Z:s₁.heap.Ns builtinsNs mb)(q1:∀x:Str,x≠"__name__" -> mb x=bootBuiltins x)(q7:s₁.heap.NoLimit)(hg:s₁.gens=#[])(ha:s₁.heap.get? a=some { cls:=.type "list",data:=.seq vs.toArray })(hi:IntsAre vs ns)(hl:ns.length<=sizeLine)(hr:Ag k callerA)(F:∀base:Heap,K.In base->base.Ns mainGlobals mg->Ff P w K mg base CX k fa fd [x] sp)(q2:∀(s:Shared) (u:Value),BindsTo s fd ⟨[u],[]⟩ [(x,u)])(q3:∀H:Hp,Only H->Gw K H a (ns.map V.int)->sp [.ref a] H (λv _=>v=.bl true) λ_ _ _=>False)(q4:∀H e G,CX [] H s₁ (λ_ _ _=>False) e G->False) :
 codeAny (model P w) callerA (.call (.ref fa) ⟨[.ref a],[]⟩) (λr G=>r=.ok (.ret (.bool true))/\OldK s₁.heap G.heap/\G.os=s₁.os/\AllBare G.gens) s₁:=by
 have rv:=Y8 hi;have q0:=hi.length;have R:∀H:Hp,Only H->Gw K H a (ns.map V.int)->Ph P w H s₁.heap->(∀b,H b≠none->b=a)->(H a≠none->K.lookup a=none) ->
  codeAny (model P w) callerA (.call (.ref fa) ⟨[.ref a],[]⟩) (λr G=>r=.ok (.ret (.bool true))/\OldK s₁.heap G.heap/\G.os=s₁.os/\AllBare G.gens) s₁:=by
  intro H hO hS Ar hA hK;have Ip:∀{b:Addr}{o:Obj},s₁.heap.get? b=some o->H b=none->(aat s₁.heap H).get? b=some o:=λe n=>ani e n
  have q5:∀{b:Addr}{o:Obj}{es:Array DictEntry}{ep:Nat},s₁.heap.get? b=some o->o.data=.dict es ep->H b=none:=fun{b o es ep} e d=>by
   cases q:H b with
   |none=>rfl
   |some u =>
    have e':b=a:=hA b (by rw[q];simp);subst e';rw[ha] at e;cases e;have d':Data.seq vs.toArray _=Data.dict es ep:=d;cases d'
  have U:∀{b:Addr}{m:Zs},s₁.heap.Ns b m->(aat s₁.heap H).Ns b m:=fun{b m} ⟨o,es,ep,e,d,r⟩=>⟨o,es,ep,Ip e (q5 e d),d,r⟩
  have qv:K.In (aat s₁.heap H):=λb o e=>Ip (KX b o e) (by
   cases q:H b with
   |none=>rfl
   |some u =>
    have e':b=a:=hA b (by rw[q];simp);subst e';rw[hK (by rw[q];simp)] at e;cases e)
  have hM:Mod K mg (aat s₁.heap H):=⟨qv,U qk,⟨mb,U Z,q1⟩,let ⟨mc,h1,h2⟩:=q7;⟨mc,U h1,h2⟩⟩;have e0:af9 P w K mg (aat s₁.heap H) callerA [] s₁ H:=⟨rfl,hM,λb o e=>ate e,Nat.le_of_eq (ajz _ _),trivial,λb Z=>absurd (show b∈([]:Xt) from Z) (by simp),Ar,.of_eq hg⟩;refine xj ((F _ qv (U qk)).run callerA [] s₁ H ⟨[.ref a],[]⟩ [.ref a] [.ref a] _ _ hr e0 (q2 s₁ (.ref a)) (.cons rfl .nil) (q3 H hO hS)) λr G h=>?_
  cases r with
  |error e=>exact(q4 H e G h).elim
  |ok fl =>
   cases fl with
   |next=>exact False.elim h|brk=>exact False.elim h|cont=>exact False.elim h
   |ret u =>
    obtain⟨v,H',os,qq,un,q6,r',q⟩:=h;have q':v=.bl true:=q;subst q';obtain rfl:u=Value.bool true:=r';refine⟨rfl,OldK.of_keep λb o e=>?_,os,qq⟩;cases q:H b with
    |none=>exact un.keep b o e q (by intro z;exact absurd (show b∈([]:Xt) from z) (by simp)) (by simp)
    |some u =>
     rcases hO b with z|⟨ob,xs,z⟩
     .rw[q] at z;cases z
     .have z2:=un.aas b ob _ z
      obtain⟨e1,_⟩:=Ar b _ z;obtain⟨e2,_⟩:=q6 b _ z2;rw[e] at e1;cases e1;exact e2
 cases hk:K.lookup a with
 |some o =>
  have e:=KX a o hk;rw[ha] at e;cases e;refine R (λ_=>none) (λ_=>.inl rfl) (.inr ⟨_,vs.toArray,_,hk,rfl,rfl,rfl,by rw[gw,q0];exact hl,by simpa using rv⟩) (λb u z=>by have z':(none:Option HO)=some u:=z;cases z') (λb z=>absurd rfl z) λz=>absurd rfl z
 |none =>
  refine R (λb=>if b=a then some (.N6 { cls:=.type "list",data:=.seq vs.toArray } (.lst (ns.map V.int))) else none) (λb=>?_) (.inl (.inr ⟨{ cls:=.type "list",data:=.seq vs.toArray },cj rfl⟩)) (λb u z=>?_) (λb z=>?_) λ_=>hk
  .by_cases Z:b=a
   .exact .inr ⟨_,_,cj Z⟩
   .exact .inl (bx Z)
  .by_cases Z:b=a
   .have z':=(cj Z).symm.trans z
    cases z';subst Z;exact⟨ha,by rw[dw];exact hl,vs,_,rv,ha⟩
   .have z':=(bx Z).symm.trans z
    cases z'
  .by_cases Z:b=a
   .exact Z
   .exact absurd (bx Z) z
end L2
namespace L2
open PySem PySem.Spec PyProof.Rows
def aue{l:PySem.W.OpenLaw}{K:Params->Fg}{CX:World->CXT}{sp:World->Sp}(hn:l.most=some n)(Py:n<=sizeLine)(qk:d.params.defaults=[])(hr:Ag k callerA)(hY:∀(w:World) (h:Heap),YP w h->(K w.params).In h)(F:∀(w:World) (mg:Zs) (fa:Addr) (h:Heap),(K w.params).In h->h.Ns mainGlobals mg->mg d.name=some (.ref fa) ->
 ∃fd:FuncData,(∀(s:Shared) (u:Value),BindsTo s fd ⟨[u],[]⟩ [(x,u)]) /\
  ∀base:Heap,(K w.params).In base->base.Ns mainGlobals mg->Ff l.prog w (K w.params) mg base (CX w) k fa fd [x] (sp w))(qv:∀(w:World) (H:Hp) (a:Addr) (ns:U1),ns.length<=n->Only H->Gw (K w.params) H a (ns.map V.int)->sp w [.ref a] H (λv _=>v=.bl true) λ_ _ _=>False)(q0:∀(w:World) (H:Hp) (s:Shared) (e:Value) (s':Shared),CX w [] H s (λ_ _ _=>False) e s'->False) :
 PySem.W.WalkO q loose XP YP l.row.toRowW d [] (λf vs=>PySem.call f vs):=by
 refine Att.adg hn qk λw q2 R mg mb fa o pm cd q4 a vs ns G Y ho hd q3 q1 qq U Z hg=>?_
 have KX:=hY w _ Y;obtain⟨fd,hb,hF⟩:=F w mg fa _ KX G.T.g q1;exact aou KX G.T.g G.T.b G.T.builtins G.T.nolimit hg qq U (ie Z Py) hr hF hb (λH hO hS=>qv w H a ns Z hO hS) λH e s'=>q0 w H R e s'
end L2
namespace L2
open PySem PySem.Spec PyProof.Rows
noncomputable def inClass(s:Stmt)(j:Nat):Stmt:=match s with
 |.ClassDef _ _ _ body _ _ _ _ _ _ _=>body.getD j (.Pass ⟨0,0,0,0⟩)|_=>.Pass ⟨0,0,0,0⟩
noncomputable def Ir(s:Stmt):Arguments:=match s with
 |.FunctionDef _ a _ _ _ _ _ _ _ _=>a|_=>{ posonlyargs:=[],args:=[],vararg:=none,kwonlyargs:=[],kw_defaults:=[],kwarg:=none,defaults:=[] }
noncomputable def Fv(s:Stmt):List Stmt:=match s with
 |.FunctionDef _ _ b _ _ _ _ _ _ _=>b|_=>[]
noncomputable def Bf(s:Stmt):Scope:=match s with
 |.FunctionDef _ _ _ _ _ _ sc _ _ _=>sc|_=>{ kind:=.function,names:=[],isGenerator:=false,isCoroutine:=false }
abbrev CX0:CXT:=λ_ _ _ _ _ _=>False
abbrev E0:XK:=λ_ _ _=>False
def ah3:Passes CX0 X E0:=λ_ _ _ _ _ _ _ h=>h.elim
structure Fun(K:Fg)(x qual:Str)(st:Stmt)(f:Addr)(fd:FuncData):Prop where
 ex:∃(oc:Value)(od:Option Addr)(kV doc pm:Value)(an:Option Addr)(cdv ct:Value)(osl:Array (Option Value)),
  fd=PySem.W.fnOf x qual (Ir st) (Fv st) (Bf st) .none kV doc pm an cdv ct/\K.lookup f=some ⟨oc,od,.func fd,osl⟩/\PySem.W.codeIn K cdv qual=true
 kp:PySem.W.keepIn K (.ref f)=true
def Fun.ok{K:Fg}{st:Stmt}(F:Fun K x qual st f fd)(S:Vl N ps (Bf st))(len:∀vs H Q E,sp vs H Q E->vs.length=ps.length)(U:∀(G:Value) (A:Around) (Z:List Env) (s:Shared) (H:Hp) (vs:List V) (Q:VK) (E:XK),Ag k (A.deeper (envOfC qual (Bf st) s.heap.objs.size f G))->sp vs H Q E ->
 ∃t,Rr (agb CX0 P w K mg base N qual (Bf st) f G A Z s H E).nox (Fv st) t/\t { nx:=λ_ H'=>Q .non H',rt:=Q } (start N vs) H):Ff P w K mg base CX0 (k+1) f fd ps sp:=by
 obtain⟨oc,od,kV,qk,pm,an,G,ct,qv,rfl,lk,qq⟩:=F.ex;refine a7j lk qq S len λA Z s H vs Q E hr R=>?_
 obtain⟨t,h,q⟩:=U G A Z s H vs Q E hr R;exact⟨t,h.nox,q⟩
def Fun.binds{K:Fg}{st:Stmt}(F:Fun K x qual st f fd)(h:∀(kV Z R:Value) (U:Option Addr) (G ct:Value) (us:Zl),us.length=ps.length->bindArgs (PySem.W.fnOf x qual (Ir st) (Fv st) (Bf st) .none kV Z R U G ct) ⟨us,[]⟩=pure (ps.zip us)):Binds K fd ps []:=by obtain⟨oc,od,kV,Z,R,U,G,ct,qk,rfl,lk,qq⟩:=F.ex;exact .all (h kV Z R U G ct)
def aov{K:Fg}{st:Stmt}{f:Addr}{oc:Value}{od R:Option Addr}{U:Array (Option Value)}{kV G pm Z ct:Value}(l:K.lookup f=some ⟨oc,od,.func (PySem.W.fnOf x qual (Ir st) (Fv st) (Bf st) .none kV G pm R Z ct),U⟩)(c:PySem.W.codeIn K Z qual=true)(k:PySem.W.keepIn K (.ref f)=true):Fun K x qual st f (PySem.W.fnOf x qual (Ir st) (Fv st) (Bf st) .none kV G pm R Z ct):=⟨⟨oc,od,kV,G,pm,R,Z,ct,U,rfl,l,c⟩,k⟩
def adh{A:Around}{k:Nat}(Z:Ag k A):A.units+1<cLine:=Nat.lt_of_le_of_lt (Nat.add_le_add_left (by decide:1<=64) _) Z.units
end L2
namespace L2
open PySem PySem.Spec PyProof.Rows
noncomputable def Dn(cells:U2):List (Str×NameKind)->List (Str×Addr)->List (Str×Addr)
 |[],cs=>cs|(n,k)::r,cs=>Dn cells r (if k==.free then(n,(cells.lookup n).getD 0)::cs else cs)
theorem Ux{α Z:Type}{f:α->Z->Sem (ForInStep Z)}{g:α->Z->Z}:∀{l:List α}(c:Z),(∀x∈l,∀c,f x c=pure (.yield (g x c)))->forIn l c f=pure (l.foldl (λc x=>g x c) c)
 |[],c,_=>rfl
 |x::l,c,h=>by
  rw[List.forIn_cons,h x dg,pure_bind];exact Ux (g x c) λy G=>h y (bh _ G)
theorem Uy(cells:U2):∀(l:Xs)(cs:U2),Dn cells l cs=l.foldl (λc x=>if x.2==.free then(x.1,(cells.lookup x.1).getD 0)::c else c) cs
 |[],_=>rfl|(n,k)::r,cs=>Uy cells r _
def Wi(h:∀y∈scope.names,y.2=.free->∃c,env.cells.lookup y.1=some c):closureFor scope env=pure (Dn env.cells scope.names []):=by
 simp only[closureFor];rw[Ux (g:=λx c=>if x.2==.free then(x.1,(env.cells.lookup x.1).getD 0)::c else c) [] (λx R c=>by
  obtain⟨n,k⟩:=x
  by_cases G:k=.free
  .subst G
   obtain⟨c',Z⟩:=h (n,.free) R rfl;have Z:env.cells.lookup n=some c':=Z;simp[cellOf,Z]
  .have U:(k==NameKind.free)=false:=by simpa using G
   simp[U]),Uy]
 rfl
theorem adi(cells:U2):∀(l:Xs)(cs:U2)(x:Str)(c:Addr),(∀y∈l,y.2=.free->∃c,cells.lookup y.1=some c)->(Dn cells l cs).lookup x=some c ->
 cs.lookup x=some c\/cells.lookup x=some c
 |[],cs,x,c,_,h=>.inl h
 |(n,k)::r,cs,x,c,hy,h=>by
  rcases adi cells r _ x c (λz R=>hy z (bh _ R)) h with q|q
  .by_cases G:k=.free
   .subst G
    simp only[zq,jn,o6] at q;cases e:x==n with
    |true =>
     rw[e] at q;obtain⟨c',Z⟩:=hy (n,.free) dg rfl;have Z:cells.lookup n=some c':=Z;simp only[Z,Option.getD_some,Option.some.injEq] at q;subst q;rw[eq_of_beq e];exact .inr Z
    |false=>rw[e] at q;exact .inl q
   .have U:(k==NameKind.free)=false:=by simpa using G
    simp only[U,bu,ik] at q;exact .inl q
  .exact .inr q
theorem Wj(cells:U2):∀(l:Xs)(cs:U2)(x:Str),(∃c,cs.lookup x=some c)->∃c,(Dn cells l cs).lookup x=some c
 |[],cs,x,h=>h
 |(n,k)::r,cs,x,h=>by
  refine Wj cells r _ x ?_
  by_cases Z:(k==NameKind.free)=true
  .rw[cj Z,o6]
   cases e:x==n with
   |true=>exact⟨_,rfl⟩|false=>exact h
  .rw[bx Z];exact h
theorem T5(cells:U2):∀(l:Xs)(cs:U2)(x:Str),(x,NameKind.free)∈l->∃c,(Dn cells l cs).lookup x=some c
 |(n,k)::r,cs,x,h=>by
  rcases bz.mp h with q|q
  .obtain⟨rfl,rfl⟩:=Prod.mk.inj q
   refine Wj cells r _ x ⟨(cells.lookup x).getD 0,?_⟩;rw[cj (by simp),o6,zq]
  .exact T5 cells r _ x q
theorem Od{env:Env}:∀{names:Xs}{x:Str},
 (names.map λ(y:Str×NameKind)=>if(y.2==NameKind.free&&env.scope.kind==.function&&env.kindOf y.1==some .cell) then(y.1,NameKind.cell) else(y.1,y.2)).lookup x
  = (names.lookup x).map λk=>if(k==NameKind.free&&env.scope.kind==.function&&env.kindOf x==some .cell) then NameKind.cell else k
 |[],_=>rfl
 |(n,k)::r,x=>by
  have G:=@Od env r x;rw[ig];cases hx:x==n with
  |true =>
   have e:=eq_of_beq hx;subst e;clear hx
   by_cases Z:(k==NameKind.free&&env.scope.kind==.function&&env.kindOf x==some .cell)=true
   .simp only[Z,jn,o6,zq,wy]
   .have U:(k==NameKind.free&&env.scope.kind==.function&&env.kindOf x==some .cell)=false:=by simpa using Z
    simp only[U,bu,ik,o6,zq,wy]
  |false =>
   by_cases Z:(k==NameKind.free&&env.scope.kind==.function&&env.kindOf n==some .cell)=true
   .simp only[Z,jn,o6,hx];exact G
   .simp only[Z,o6,hx];simpa[o6,hx] using G
theorem mem_of_lookup{α Z:Type}[BEq α][LawfulBEq α]:∀{l:List (α×Z)}{x:α}{y:Z},l.lookup x=some y->(x,y)∈l
 |(a,b)::r,x,y,h=>by
  rw[o6] at h;cases e:x==a with
  |true=>rw[e] at h;cases h;rw[eq_of_beq e];exact dg|false=>rw[e] at h;exact bh _ (mem_of_lookup h)
def Dp{α:Type}{v:α}{r:List (Str×α)}:((k,v)::r).lookup x=if x=k then some v else r.lookup x:=by
 rw[o6]
 by_cases h:x=k
 .rw[cj h,show(x==k)=true from beq_iff_eq.mpr h]
 .rw[bx h,show(x==k)=false from qz.mpr h]
set_option tactic.hygienic true in
theorem ah4:∀(l:Xs)(n:Nat)(Z:U2)(x:Str)(c:Addr),(cellsFrom n l Z).lookup x=some c->((x,NameKind.cell)∈l/\n<=c)\/Z.lookup x=some c
 |[],_,_,_,_,h=>.inr h
 |(k,kd)::r,n,Z,x,c,h=>by
  unfold cellsFrom at h;split at h
  .rename_i e
   rcases ah4 r _ _ x c h with⟨q,l⟩|q
   .exact .inl ⟨bh _ q,by omega⟩
   .rw[Dp] at q
    split at q
    .rename_i z
     cases q;exact .inl ⟨by rw[z,eq_of_beq e];exact dg,bf _⟩
    .exact .inr q
  .rcases ah4 r _ _ x c h with⟨q,l⟩|q
   .exact .inl ⟨bh _ q,l⟩
   .exact .inr q
set_option tactic.hygienic true in
theorem aa4:∀(l:Xs)(n:Nat)(Z:U2)(x:Str),((x,NameKind.cell)∈l\/∃c,Z.lookup x=some c)->∃c,(cellsFrom n l Z).lookup x=some c
 |[],_,_,_,h=>by rcases h with q|q;cases q;exact q
 |(k,kd)::r,n,Z,x,h=>by
  unfold cellsFrom;split
  .refine aa4 r _ _ x ?_
   by_cases z:x=k
   .exact .inr ⟨n,by rw[Dp,cj z]⟩
   .rcases h with q|q
    .rcases bz.mp q with q|q
     .cases q;exact absurd rfl z
     .exact .inl q
    .exact .inr (by rw[Dp,bx z];exact q)
  .rename_i e
   refine aa4 r _ _ x ?_;rcases h with q|q
   .rcases bz.mp q with q|q
    .cases q;exact absurd rfl e
    .exact .inl q
   .exact .inr q
set_option tactic.hygienic true in
theorem aow:∀(l:Xs)(n:Nat)(Z:U2)(x:Str),(x,NameKind.cell)∉l->(cellsFrom n l Z).lookup x=Z.lookup x
 |[],_,_,_,_=>rfl
 |(k,kd)::r,n,Z,x,h=>by
  have Y:(x,NameKind.cell)∉r:=λq=>h (bh _ q)
  unfold cellsFrom;split
  .rename_i e
   rw[aow r _ _ x Y,Dp,bx];intro z;exact h (by rw[z,eq_of_beq e];exact dg)
  .exact aow r _ _ x Y
set_option tactic.hygienic true in
theorem agf:∀(l:Xs)(n:Nat)(Z:U2),(∀x c,Z.lookup x=some c->c<n)->(∀x y c,Z.lookup x=some c->Z.lookup y=some c->x=y)->∀x y c,(cellsFrom n l Z).lookup x=some c->(cellsFrom n l Z).lookup y=some c->x=y
 |[],_,_,_,h=>h
 |(k,kd)::r,n,Z,lt,h=>by
  unfold cellsFrom;split
  .refine agf r _ _ (λx c q=>?_) (λx y c Y G=>?_)
   .rw[Dp] at q
    split at q
    .cases q;exact p8 n
    .exact qj (lt x c q)
   .rw[Dp] at Y G
    split at Y<;>split at G
    .rename_i a b;rw[a,b]
    .cases Y;exact absurd (lt y _ G) (m7 _)
    .cases G;exact absurd (lt x _ Y) (m7 _)
    .exact h x y c Y G
  .exact agf r _ _ lt h
set_option tactic.hygienic true in
theorem aa5:∀(l:Xs)(h:Heap)(Z:U2),(∀x c,Z.lookup x=some c->∃v,h.IsCell c v)->∀x c,(cellsFrom h.objs.size l Z).lookup x=some c->∃v,(pushCells h l).IsCell c v
 |[],_,_,k,x,c,q=>k x c q
 |(n,kd)::r,h,Z,k,x,c,q=>by
  unfold cellsFrom at q;unfold pushCells;split at q
  .rename_i e
   rw[cj e];have sz:(h.push { cls:=.type "cell",data:=.cell none }).objs.size=h.objs.size+1:=iz _ _;rw[<- sz] at q;refine aa5 r _ _ (λx c q=>?_) x c q;rw[Dp] at q;split at q
   .cases q;exact⟨none,_,bc _ rfl,rfl⟩
   .obtain⟨v,Y⟩:=k x c q
    exact⟨v,Y.keeps λb o e=>ao _ e⟩
  .rename_i e
   rw[bx e];exact aa5 r _ _ k x c q
set_option tactic.hygienic true in
theorem Wk(cells:U2):∀(l:Xs)(cs:U2)(x:Str)(c:Addr),(Dn cells l cs).lookup x=some c->(x,NameKind.free)∈l\/cs.lookup x=some c
 |[],_,_,_,h=>.inr h
 |(k,kd)::r,cs,x,c,h=>by
  unfold Dn at h;rcases Wk cells r _ x c h with q|q
  .exact .inl (bh _ q)
  .split at q
   .rename_i e
    rw[Dp] at q;split at q
    .rename_i z
     exact .inl (by rw[z,eq_of_beq e];exact dg)
    .exact .inr q
   .exact .inr q
def ake(h:Q { scope:=scope,locals:=s.heap.objs.size,globals:=globals,cells:=cellsFrom (s.heap.objs.size+1) scope.names cl,qual:=qual,func:=none,code:=around.code,frame:=around.frame,builtins:=around.builtins } { s with heap:=pushCells (s.heap.push { cls:=.type "dict",data:=.dict #[] }) scope.names }) :
 wpAny M A (newFunctionEnv scope globals cl [] qual none .none (some around)) Q E s:=by
 simp only[newFunctionEnv,Option.isSome_some,jn];refine aa (wpAny_alloc ?_);refine aa (wpAny_layCells _ (λG Z cells=>by cases hkc:Z==NameKind.cell<;>simp[hkc]) _ _ _ _ ?_);rw[show({ s with heap:=s.heap.push { cls:=.type "dict",data:=.dict #[] } }:Shared).heap.objs.size=s.heap.objs.size+1 from iz ..];exact aa (aj (aj h))
noncomputable def Lq(X:Cx)(N:X9)(scope:Scope)(C:Addr)(Z:Xt)(s:Shared)(H:Hp):Cx where
 prog:=X.prog
 w:=X.w
 K:=X.K
 mg:=X.mg
 base:=X.base
 A:=X.A
 N:=N
 s₀:=s
 H₀:=H
 env:=compEnvC scope (cellsFrom (C+1) scope.names (Dn X.env.cells scope.names [])) C X.env
 outer:=X.stack
 stack:=X.stack
 ex:=Z
 fn:=λx=>scope.names.lookup x==some .cell
 calm:=X.calm
 pn:=[]
 xe:=λ_ _=>False
structure Ek(X:Cx)(N:X9)(scope:Scope):Prop where
 kind:scope.kind=.function
 locs:∀y∈scope.names,y.2=.local->scope.names.lookup y.1=some .local
 frees:∀y∈scope.names,y.2=.free->X.env.kindOf y.1=some .cell\/X.env.kindOf y.1=some .free
 uniq:∀x k,(x,k)∈scope.names->scope.names.lookup x=some k
 long:X.N.length<=N.length
 vis:∀i x,i<X.N.length->N[i]?=some x->Vis (relabel scope X.env) x->X.N[i]?=some x/\scope.names.lookup x=some .free
theorem Ek.cells(B:Ek X N scope)(ok:X.Ok):∀y∈scope.names,y.2=.free->∃c,X.env.cells.lookup y.1=some c:=λy G Z=>ok.has y.1 (B.frees y G Z)
def Ek.clos(B:Ek X N scope)(ok:X.Ok):closureFor scope X.env=pure (Dn X.env.cells scope.names []):=Wi (B.cells ok)
def Ek.inCells(B:Ek X N scope)(ok:X.Ok)(h:(Dn X.env.cells scope.names []).lookup x=some c):X.env.cells.lookup x=some c:=by
 rcases adi _ _ _ _ _ (B.cells ok) h with q|q
 .simp at q
 .exact q
def adk{X:Cx}(x:Str):(compEnvC scope cl C X.env).kindOf x=(scope.names.lookup x).map λk=>if(k==NameKind.free&&X.env.scope.kind==.function&&X.env.kindOf x==some .cell) then NameKind.cell else k:=by show(relabel scope X.env).names.lookup x=_;exact Od
def Ek.agg(B:Ek X N scope)(ok:X.Ok)(h:(cellsFrom (C+1) scope.names (Dn X.env.cells scope.names [])).lookup x=some c):(scope.names.lookup x=some .cell/\C+1<=c)\/X.env.cells.lookup x=some c:=by
 rcases ah4 _ _ _ _ _ h with⟨q,l⟩|q
 .exact .inl ⟨B.uniq _ _ q,l⟩
 .exact .inr (B.inCells ok q)
def akf(B:Ek X N scope)(I:Inv X pins σ H s)(hf:∀b∈fp,Va X pins H b)(qv:∀b∈fp,∃o,s.heap.get? b=some o)(q0:Z.Ns (s.heap.objs.size+1) λ_=>none)(hk:∀b o,s.heap.get? b=some o->Z.get? b=some o)(Em:Z.get? s.heap.objs.size=some { cls:=.type "list",data:=.seq ([]:Zl).toArray })(q3:∀x c,(cellsFrom (s.heap.objs.size+1+1) scope.names (Dn X.env.cells scope.names [])).lookup x=some c->∃v,Z.IsCell c v) :
 Inv (Lq X N scope (s.heap.objs.size+1) fp s H) [] (σ++List.replicate (N.length-X.N.length) none) (upd H s.heap.objs.size (.lst [])) { s with heap:=Z,toks:=t }:=by
 have ok:=I.ok;have hD:H s.heap.objs.size=none:=I.Ar.fresh (bf _);have hC:H (s.heap.objs.size+1)=none:=I.Ar.fresh (w5 _);have q4:s.heap.objs.size+1≠s.heap.objs.size:=Nat.succ_ne_self _;have lt:∀b∈fp,b<s.heap.objs.size:=λb hb=>by obtain⟨o,e⟩:=qv b hb;exact au e
 have qk:∀x c,X.env.cells.lookup x=some c->c<s.heap.objs.size:=λx c e=>by obtain⟨v,o,ho,_⟩:=I.cell x c e;exact au ho
 refine⟨⟨ok.mod,B.kind,ok.glob,ok.blt,w5 _,?_,?_,?_,ok.hd,ok.frames,.inl rfl,?_,λb o e=>I.bs b o e,ie ok.bsz I.sz,?_,?_,I.stack,I.ahr⟩,rfl,I.bare,?_,?_,?_,?_,?_,?_,?_,?_⟩
 .intro x y c R hy
  refine agf scope.names (s.heap.objs.size+1+1) (Dn X.env.cells scope.names []) (λx c q=>?_) (λx y c q1 q2=>ok.inj x y c (B.inCells ok q1) (B.inCells ok q2)) x y c R hy;exact qj (qj (qk x c (B.inCells ok q)))
 .intro x R
  rw[show(Lq X N scope (s.heap.objs.size+1) fp s H).env.kindOf x=_ from adk x] at R;cases e:scope.names.lookup x with
  |none=>rw[e] at R;rcases R with q|q<;>simp at q
  |some k =>
   have Pj:k=.free\/k=.cell:=by
    rw[e] at R;cases k with
    |free=>exact .inl rfl|cell=>exact .inr rfl|«local»=>rcases R with q|q<;>simp at q
    |globalExplicit=>rcases R with q|q<;>simp at q
    |globalImplicit=>rcases R with q|q<;>simp at q
   rcases Pj with rfl|rfl
   .exact aa4 _ _ _ _ (.inr (T5 _ _ _ _ (mem_of_lookup e)))
   .exact aa4 _ _ _ _ (.inl (mem_of_lookup e))
 .intro x c h hc
  have h:scope.names.lookup x=some .cell:=eq_of_beq h;show s.heap.objs.size<=c
  rcases ah4 _ _ _ _ _ hc with⟨_,l⟩|q
  .exact ie (yp _ 2) l
  .rcases Wk _ _ _ _ _ q with z|z
   .rw[B.uniq _ _ z] at h;cases h
   .cases z
 .intro b hb
  refine⟨λe=>?_,λx c hc e=>?_⟩
  .have q:=lt b hb
   have e:b=s.heap.objs.size+1:=e;rw[e] at q;exact absurd q (Nat.not_lt.mpr (w5 _))
  .obtain⟨_,_,_,_,f4,_⟩:=hf b hb
   rcases B.agg ok hc with⟨_,l⟩|hc
   .have q:=lt b hb
    rw[<- e] at q;exact absurd (gr (qj (qj q)) l) (m7 _)
   .exact f4 x c hc e
 .intro b o e hb
  obtain⟨_,_,_,f3,_⟩:=hf b hb;rcases f3 with q|q
  .exact ok.ank b o e q
  .exact m7 _ (gr (au e) (ie ok.bsz q))
 .intro b hb q
  obtain⟨_,f1,f2,_⟩:=hf b hb;rcases bz.mp (I.aau b q) with z|z
  .exact f1 z
  .exact f2 z
 .exact Un.laid hk (bf _) hD
 .refine⟨_,q0,λi x v hN G hv=>?_⟩
  have hi:i<X.N.length:=by
   rcases yw i σ.length with q|q
   .rw[I.len] at q;exact q
   .rw[jc q] at G
    rw[List.getElem?_replicate] at G;split at G<;>simp at G
  rw[fc (by rw[I.len];exact hi)] at G;obtain⟨R,Pj⟩:=B.vis i x hi hN hv;obtain⟨m,_,hl⟩:=I.loc;have qq:=B.frees _ (mem_of_lookup Pj) rfl;have q5:Vis X.env.scope x:=by
   rcases qq with q|q
   .exact .inr (.inl q)
   .exact .inr (.inr q)
  obtain⟨u,ru,lu⟩:=hl i x v R G q5;refine⟨u,ru,.inr ⟨?_,?_⟩⟩
  .rw[show(Lq X N scope (s.heap.objs.size+1) fp s H).env.kindOf x=_ from adk x,Pj]
   simp only[wy];split
   .exact .inl rfl
   .exact .inr rfl
  .rcases lu with⟨q,_⟩|⟨_,c,hc,ic⟩
   .rcases qq with z|z<;>rw[q] at z<;>cases z
   .obtain⟨c',U⟩:=T5 X.env.cells scope.names [] x (mem_of_lookup Pj)
    have:=B.inCells ok U;rw[hc] at this;cases this;refine⟨c,?_,ic.keeps hk⟩;show(cellsFrom (s.heap.objs.size+1+1) scope.names (Dn X.env.cells scope.names [])).lookup x=some c;rw[aow _ _ _ _ λz=>by rw[B.uniq _ _ z] at Pj;cases Pj];exact U
 .exact q3
 .show upd H s.heap.objs.size (.lst []) (s.heap.objs.size+1)=none
  rw[kh q4];exact hC
 .intro x c hc
  rcases B.agg ok hc with⟨_,l⟩|U
  .have l:s.heap.objs.size+1+1<=c:=l
   rw[kh (o7 (gr (qj (p8 _)) l))];exact I.Ar.fresh (ie (yp _ 2) l)
  .rw[kh (dq (qk x c U))]
   exact I.N7 x c U
 .intro p hp;simp[Lq] at hp
 .exact Ph.laid I.Ar hk (bf _) ⟨jx _,[],0,.nil,Em⟩
 .show(σ++List.replicate (N.length-X.N.length) none).length=N.length
  rw[vf,List.length_replicate,I.len];have:=B.long;omega
def Oe(I:Nat->Shared->Prop)(q5:∀n s,I n s->wpAny (model prog w) A (pyNext it) (λr G=>match r with
 |none=>R (.ok .next) G
 | some v=>wpAny (model prog w) A (letOwnedTupleGo target it v) (λ_ qq=>wpAny (model prog w) A (assign target env v) (λ_ q0 =>
  wpAny (model prog w) A (forIn ifs true λc r=>if r=true then do let ok <- isTrue c env (eval c env);pure (ForInStep.yield ok) else pure (ForInStep.yield r)) (λok U =>
   if ok=true then wpAny (model prog w) A (eval elt env) (λx q1 =>
    wpAny (model prog w) A (call (.builtin "list.append") [acc,x]) (λ_ qk=>∃m,m<n/\I m qk) (λ_ _=>False) q1) (λ_ _=>False) U
   else ∃m,m<n/\I m U) (λ_ _=>False) q0) (λ_ _=>False) qq) (λ_ _=>False) G) (λ_ _=>False) s)(n:Nat)(h:I n s) :
 codeAny (model prog w) A (.compLoop (.ListComp elt [⟨target,iter,ifs,0⟩] scope pos) 0 it acc env) R s:=by
 have nv:∀{α:Type}{t:Sem α}{Q:α->Shared->Prop}{E:Y3}{s:Shared},wpAny (model prog w) A t Q (λ_ _=>False) s->wpAny (model prog w) A t Q E s:=λh=>mq h (λ_ _ q=>q) λ_ _ f=>f.elim
 refine codeAny_loop rfl I (λn s hI=>?_) n h;show wpAny _ A ((compTurn (.ListComp elt [⟨target,iter,ifs,0⟩] scope pos) 0 it acc env).onRaise (λx=>do noteFrame x env;theTreesLotGoes x)) _ _ s;refine wpAny_noted ?_;rw[compTurn_list];refine aa (wpAny_standAt (aa (mq (q5 n s hI) (λr G qv=>?_) λ_ _ Z=>Z.elim)));cases r with
 |none=>exact aj qv
 |some v =>
  refine aa (mq qv (λ_ qq q3=>?_) λ_ _ Z=>Z.elim);refine aa (mq q3 (λ_ q0 q7=>aa (mq q7 (λok U q2=>?_) λ_ _ Z=>Z.elim)) λ_ _ Z=>Z.elim);cases ok with
  |false=>exact aj ⟨rfl,q2⟩
  |true =>
   exact aa (aa (mq q2 (λx q1 q6=>aa (mq q6 (λ_ qk q4=>aj (aj ⟨rfl,q4⟩)) λ_ _ Z=>Z.elim)) λ_ _ Z=>Z.elim))
def adl(k:Nat)(wi:TI)(g:TG)(tc:TT)(te:TE):TE:=fun U H Q=>wi U H λJ H1=>∀D,H1 D=none->∃W:Nat->Nat->Hp->Prop,(∃m,W 0 m (upd H1 D (.lst [])))/\∀i m H,W i m H ->
 (J.stop i H/\Q (.ref D) H)\/(J.go i H/\∀x H',J.yld i H x H'->g x (U++List.replicate k none) H' fun Z H2=>Z.length=(U++List.replicate k none).length /\
  (∀(j:Nat) v,(U++List.replicate k none)[j]?=some (some v)->Z[j]?=some (some v))/\tc Z H2 λb H3 =>
   if b=true then te Z H3 λv H4=>∃R G,H4 D=some (.lst R)/\R.length<sizeLine/\G<m/\W (i+1) G (upd H4 D (.lst (R++[v]))) else ∃G,G<m/\W (i+1) G H3)
def PTs(X:Cx)(Z:X0)(G:TT):Prop:=(Z=[]/\G=λ_ H Q=>Q true H)\/∃c,Z=[c]/\PT X c G
def Y9(I:Inv X pins σ H s)(hf:∀b∈fp,Va X pins H b)(J:Inv (Lq X N scope (s.heap.objs.size+1) fp s H) [] Z U s3):Inv X pins σ U s3/\∃m,s3.heap.Ns (s.heap.objs.size+1) m:=by
 refine⟨I.call' J.os J.base J.Ar J.bare λb R=>?_,?_⟩
 .obtain⟨_,f1,_,f3,f4,f5⟩:=hf b R
  exact⟨f3,f1,f4,f5⟩
 .obtain⟨m,G,_⟩:=J.loc
  exact⟨m,G⟩
def akg(I:Inv X pins σ H s)(R:Inv X pins σ G s3)(hC:G (s.heap.objs.size+1)=none)(hs:Heap.SameBut (s.heap.objs.size+1) s3.heap h'):Inv X pins σ G { s3 with heap:=h' }:=by
 have big:∀b o,s.heap.get? b=some o->b≠s.heap.objs.size+1:=λb o e z=>by have:=au e;rw[z] at this;exact absurd this (Nat.not_lt.mpr (w5 _))
 refine R.turned (t':=s3.toks) (λb o U e=>hs.extBut b o U e) hC ?_ (.inr (ie I.sz (w5 _))) ?_ ?_
 .intro e
  obtain⟨m,⟨o,_,_,Z,_⟩,_⟩:=I.loc;exact big _ o Z e.symm
 .intro x c hc
  obtain⟨v,o,Z,_⟩:=I.cell x c hc;exact big c o Z
 .intro p hp
  exact big p.1 p.2 (I.pin p hp).1
def Wl{RR:Value->Addr->Result->Shared->Prop}(B:Ek X N scope)(Iu:X.calm=true)(I:Inv X pins σ H s)(hf:∀b∈G,Va X pins H b)(T:Turn X.prog X.w X.K tg J G it tn)(h0:tn 0 s.heap)(hg:∀C s H,PG (Lq X N scope C G s H) tg g)(hc:∀C s H,PTs (Lq X N scope C G s H) ifs tc)(he:∀C s H,PE (Lq X N scope C G s H) elt te){Q:VK}(W:Nat->Nat->Hp->Prop)(w0:W 0 m0 (upd H s.heap.objs.size (.lst [])))(z4:∀i m H,W i m H->(J.stop i H/\Q (.ref s.heap.objs.size) H)\/(J.go i H/\∀x H',J.yld i H x H'->g x (σ++List.replicate (N.length-X.N.length) none) H' fun qk H2=>qk.length=(σ++List.replicate (N.length-X.N.length) none).length /\
 (∀(j:Nat) v,(σ++List.replicate (N.length-X.N.length) none)[j]?=some (some v)->qk[j]?=some (some v))/\tc qk H2 λb H3 =>
  if b=true then te qk H3 λv H4=>∃xs U,H4 s.heap.objs.size=some (.lst xs)/\xs.length<sizeLine/\U<m/\W (i+1) U (upd H4 s.heap.objs.size (.lst (xs++[v]))) else ∃U,U<m/\W (i+1) U H3))(z6:∀z2 H3 s3,Inv (Lq X N scope (s.heap.objs.size+1) G s H) [] z2 H3 s3->Q (.ref s.heap.objs.size) H3->RR (.ref s.heap.objs.size) (s.heap.objs.size+1) (.ok .next) s3) :
 wpAny (model X.prog X.w) X.A (newList []) (λzk z5=>wpAny (model X.prog X.w) X.A (newFunctionEnv scope X.env.globals (Dn X.env.cells scope.names []) [] X.env.qual none .none (some X.env)) (λq1 z1 =>
  codeAny (model X.prog X.w) X.A (.compStart (.ListComp elt [⟨tg,iter,ifs,0⟩] scope pos) 0 (.ref it) zk { q1 with scope:=relabel scope X.env }) (RR zk q1.locals) z1) E z5) E s:=by
 refine ud (ake ?_);have q5:(s.heap.push { cls:=.type "list",dict:=none,data:=.seq ([]:Zl).toArray }).objs.size=s.heap.objs.size+1:=iz _ _;obtain⟨Z,eh⟩:∃Z,Z=pushCells ((s.heap.push { cls:=.type "list",dict:=none,data:=.seq ([]:Zl).toArray }).push { cls:=.type "dict",data:=.dict #[] }) scope.names:=⟨_,rfl⟩;have up:∀b o,(s.heap.push { cls:=.type "list",dict:=none,data:=.seq ([]:Zl).toArray }).get? b=some o->Z.get? b=some o:=λb o e=>by rw[eh];exact pushCells_keeps _ _ b o (ao _ e)
 have q4:∀b o,s.heap.get? b=some o->Z.get? b=some o:=λb o e=>up b o (ao _ e)
 have Em:Z.get? s.heap.objs.size=some { cls:=.type "list",data:=.seq ([]:Zl).toArray }:=up _ _ (bc _ rfl);have q0:Z.Ns (s.heap.objs.size+1) λ_=>none:=by rw[eh,<- q5];exact(Heap.Ns.new _ (.type "dict")).keeps (pushCells_keeps _ _)
 have z9:∀x c,(cellsFrom (s.heap.objs.size+1+1) scope.names (Dn X.env.cells scope.names [])).lookup x=some c->∃v,Z.IsCell c v:=by
  have yy:((s.heap.push { cls:=.type "list",dict:=none,data:=.seq ([]:Zl).toArray }).push { cls:=.type "dict",data:=.dict #[] }).objs.size=s.heap.objs.size+1+1:=by rw[iz,q5]
  rw[eh,<- yy];refine aa5 _ _ _ λx c q=>?_
  obtain⟨v,hv⟩:=I.cell x c (B.inCells I.ok q);exact⟨v,hv.keeps λb o e=>ao _ (ao _ e)⟩
 have qv:∀b∈G,∃o,s.heap.get? b=some o:=λb hb=>let ⟨o,e,_⟩:=T.obj 0 _ h0 b hb;⟨o,e⟩
 have I0:=akf (t:=s.toks) B I hf qv q0 q4 Em z9;have q8:∀{H':Hp},(∀b∈G,H' b=none)->∀b∈G,Va (Lq X N scope (s.heap.objs.size+1) G s H) [] H' b:=λhn b hb=>by
  obtain⟨f0,f1,f2,f3,f4,f5⟩:=hf b hb;refine⟨hn b hb,?_,?_,.inl hb,?_,λp hp=>(by simp[Lq] at hp)⟩
  .intro z
   obtain⟨o,e⟩:=qv b hb;have:=au e;rw[show b=s.heap.objs.size+1 from z] at this;exact absurd this (Nat.not_lt.mpr (w5 _))
  .intro q
   rcases bz.mp (I.aau b q) with z|z
   .exact f1 z
   .exact f2 z
  .intro x c hc
   rcases B.agg I.ok hc with⟨_,l⟩|hc
   .intro z
    obtain⟨o,e⟩:=qv b hb;have q:=au e;rw[<- z] at q;exact absurd (gr (qj (qj q)) l) (m7 _)
   .exact f4 x c hc
 have z7:∀b∈G,upd H s.heap.objs.size (.lst []) b=none:=λb hb=>by obtain⟨o,e⟩:=qv b hb;rw[kh (dq (au e))];exact(hf b hb).1
 have q2:∀s':Shared,s'={ s with heap:=Z }->codeAny (model X.prog X.w) X.A (.compLoop (.ListComp elt [⟨tg,iter,ifs,0⟩] scope pos) 0 (.ref it) (.ref s.heap.objs.size) (compEnvC scope (cellsFrom (s.heap.objs.size+1+1) scope.names (Dn X.env.cells scope.names [])) (s.heap.objs.size+1) X.env))
  (RR (.ref s.heap.objs.size) (s.heap.objs.size+1)) s':=by
  rintro s' rfl;refine Oe (λn s'=>∃i σ' H',Inv (Lq X N scope (s.heap.objs.size+1) G s H) [] σ' H' s'/\(∀(j:Nat) v,(σ++List.replicate (N.length-X.N.length) none)[j]?=some (some v)->σ'[j]?=some (some v))/\tn i s'.heap/\(∀b∈G,H' b=none)/\W i n H') ?_ m0
   ⟨0,_,_,I0,λ_ _ z=>z,T.keep 0 _ _ h0 (λb _ o e=>q4 b o e),z7,w0⟩
  rintro n s3 ⟨i,z2,H3,I3,k3,z3,zw,w3⟩;have z0:=I3.weak (σ':=σ++List.replicate (N.length-X.N.length) none) (by rw[I3.len];exact I0.len) k3;rcases z4 i n H3 w3 with⟨zv,qn⟩|⟨go,step⟩
  .refine Bj (T.done (Lq X N scope (s.heap.objs.size+1) G s H) rfl rfl rfl Iu i [] s3 _ H3 (λ_ _=>False) z0 (q8 zw) z3 zv) λr s4 z_=>?_
   obtain⟨hr,I4⟩:=z_;subst hr;exact z6 _ _ _ I4 qn
  .refine Bj (T.item (Lq X N scope (s.heap.objs.size+1) G s H) rfl rfl rfl Iu i [] s3 _ H3 (λ_ _=>False) z0 (q8 zw) z3 go) λr s4 z_=>?_
   obtain⟨u,hr,h4⟩:=z_;subst hr;refine Bj h4 λ_ s5 z_=>?_
   obtain⟨x,H5,I5,r5,y5,zz,z8⟩:=z_;have yk:=I5.pinned (q8 z8) (T.obj _ _ zz);refine Bj (hg _ _ _ _ s5 _ H5 x u _ yk r5 (step x H5 y5)) λ_ s6 z_=>?_
   obtain⟨R,H6,I6,l6,k6,q6⟩:=z_;have qq:∀{ahs:Zp}{H7:Hp}{s7:Shared}{m:Nat},Inv (Lq X N scope (s.heap.objs.size+1) G s H) ([]++Tz G s5.heap) R H7 s7->m<n->W (i+1) m H7 ->
    ∃m,m<n/\∃i σ' H',Inv (Lq X N scope (s.heap.objs.size+1) G s H) [] σ' H' s7/\(∀(j:Nat) v,(σ++List.replicate (N.length-X.N.length) none)[j]?=some (some v)->σ'[j]?=some (some v))/\tn i s7.heap/\(∀b∈G,H' b=none)/\W i m H':=fun{_ H7 s7 m} I7 hm w7=>by
    refine⟨m,hm,i+1,R,H7,I7.Oa,k6,T.keep _ _ _ zz λb hb o e=>(I7.pin (b,o) (gq _ (gq _ (Kq hb e)))).1,λb hb=>?_,w7⟩;obtain⟨o,e,d⟩:=T.obj _ _ zz b hb;exact(I7.pin (b,o) (gq _ (gq _ (Kq hb e)))).2.1
   have q3:wpAny (model X.prog X.w) X.A (forIn ifs true λc r=>if r=true then do let ok <- isTrue c (compEnvC scope (cellsFrom (s.heap.objs.size+1+1) scope.names (Dn X.env.cells scope.names [])) (s.heap.objs.size+1) X.env) (eval c (compEnvC scope (cellsFrom (s.heap.objs.size+1+1) scope.names (Dn X.env.cells scope.names [])) (s.heap.objs.size+1) X.env));pure (ForInStep.yield ok) else pure (ForInStep.yield r))
    (TP (Lq X N scope (s.heap.objs.size+1) G s H) ([]++Tz G s5.heap) R λb H3 =>
     if b=true then te R H3 λv H4=>∃xs U,H4 s.heap.objs.size=some (.lst xs)/\xs.length<sizeLine/\U<n/\W (i+1) U (upd H4 s.heap.objs.size (.lst (xs++[v]))) else ∃U,U<n/\W (i+1) U H3) (λ_ _=>False) s6:=by
    rcases hc (s.heap.objs.size+1) s H with⟨rfl,rfl⟩|⟨c,rfl,yq⟩
    .exact wpAny_tests_nil ⟨H6,I6,q6⟩
    .exact wpAny_tests_one (yq _ s6 R H6 _ I6 q6)
   refine Bj q3 λok s7 z_=>?_
   obtain⟨H7,I7,q7⟩:=z_;cases ok with
   |false =>
    obtain⟨U,hm,w7⟩:=(show ∃U,U<n/\W (i+1) U H7 from q7);exact qq (ahs:=[]) I7 hm w7
   |true =>
    show wpAny _ _ _ _ _ _;refine Bj (he _ _ _ _ s7 R H7 _ I7 q7) λx s8 z_=>?_
    obtain⟨v,H8,I8,r8,xs,U,hD,hl,hm,w8⟩:=z_;refine Bj (Y7 _ s8 R H8 (.ref s.heap.objs.size) [v] (.ref s.heap.objs.size) [x] (λ_ H'=>W (i+1) U H') I8 rfl (.cons r8 .nil) ⟨_,xs,v,rfl,rfl,hD,hl,w8⟩) λ_ s9 z_=>?_
    obtain⟨_,H9,I9,_,w9⟩:=z_;exact qq (ahs:=[]) I9 hm w9
 rw[<- eh,q5];exact codeAny_compStart_list (q2 _ rfl) (T.self _ 0 _ _ _ (T.keep 0 _ _ h0 (λb _ o e=>q4 b o e)) (q2 _ rfl))
def ah5(B:Ek X N scope)(Iu:X.calm=true)(hi:PI X tg iter wi)(hg:∀C Z s H,PG (Lq X N scope C Z s H) tg g)(hc:∀C Z s H,PTs (Lq X N scope C Z s H) ifs tc)(he:∀C Z s H,PE (Lq X N scope C Z s H) elt te)(hs:∀x,foldedSetIterable iter X.env x=pure x):PE X (.ListComp elt [⟨tg,iter,ifs,0⟩] scope pos) (adl (N.length-X.N.length) wi g tc te):=by intro G s σ H Q I h;rw[eval_ListComp];refine wpAny_comprehension_free (use:=none) rfl hs (B.clos I.ok) B.kind B.locs (Bj (hi G s σ H _ I h) λv s1 h1=>Bj h1 λqv s2 h2=>?_);obtain⟨it,Z,tn,J,H2,rfl,R,T,qk,f2,q2⟩:=h2;obtain⟨W,⟨m0,w0⟩,U⟩:=q2 s2.heap.objs.size (R.Ar.fresh (bf _));refine Wl (RR:=λqq C=>compPost (model X.prog X.w) X.A X.xe none (EP X G σ Q) qq C) B Iu R f2 T qk (λC s H=>hg C Z s H) (λC s H=>hc C Z s H) (λC s H=>he C Z s H) W w0 U ?_;intro q0 H3 s3 I3 q3;obtain⟨J3,m,hn⟩:=Y9 R f2 I3;exact⟨m,hn,λh' Ow=>⟨.ref s2.heap.objs.size,H3,akg R J3 I3.free Ow,rfl,q3⟩⟩
set_option tactic.hygienic true in
def ah6(B:Ek X N scope)(Iu:X.calm=true)(hi:PI X tg iter wi)(hg:∀C G s H,PG (Lq X N scope C G s H) tg g)(hc:∀C G s H,PTs (Lq X N scope C G s H) ifs tc)(he:∀C G s H,PE (Lq X N scope C G s H) elt te)(hs:∀x,foldedSetIterable iter X.env x=pure x)(hN:X.N.Nodup)(hy:X.N[i]?=some y)(hl:X.env.scope.names.lookup y=some .local)(qq:swapsWith (.ListComp elt [⟨tg,iter,ifs,0⟩] scope pos) (some (.Name y py)) aox.line X.env=pure true) :
 PS X (.Assign [.Name y py] (.ListComp elt [⟨tg,iter,ifs,0⟩] scope pos) aox) (az4 (adl (N.length-X.N.length) wi g tc te) (aht i)):=by
 intro Z s σ H D I h;rw[exec_Assign_Name_used _ _ _ _ qq];refine aa (wpAny_standAt (aa ?_));show wpAny _ _ (do let _ <- comprehension (.ListComp elt [⟨tg,iter,ifs,0⟩] scope pos) scope X.env _ (newList []) false (eval iter X.env) (some (assign (.Name y py) X.env))) _ _ s;refine aa (mq (wpAny_comprehension_free (use:=some (assign (.Name y py) X.env)) (Q:=λ_ s'=>SP X Z D .next s') rfl hs (B.clos I.ok) B.kind B.locs
  (Bj (hi Z s σ H _ I h) λv s1 h1=>Bj h1 λq6 Y h2=>?_)) (λ_ s' hq=>aj (aj hq)) λ_ _ e=>e)
 obtain⟨it,G,tn,J,H2,rfl,U,T,q5,f2,q2⟩:=h2;obtain⟨W,⟨m0,w0⟩,L⟩:=q2 Y.heap.objs.size (U.Ar.fresh (bf _));refine Wl (RR:=λqk C=>compPost (model X.prog X.w) X.A X.xe (some (assign (.Name y py) X.env)) (λ_ s'=>SP X Z D .next s') qk C) (Q:=λx H1=>aht i x σ H1 D.nx) B Iu U f2 T q5 (λC s H=>hg C G s H) (λC s H=>hc C G s H) (λC s H=>he C G s H) W w0 L ?_;intro q7 H3 s3 I3 q3;obtain⟨J3,m,hn⟩:=Y9 U f2 I3;have qv:=I3.free;obtain⟨u,_,_,R,q1,_⟩:=id hn;have big:∀b o,Y.heap.get? b=some o->b≠Y.heap.objs.size+1:=λb o e z=>by have:=au e;rw[z] at this;exact absurd this (Nat.not_lt.mpr (w5 _))
 have S:Y.heap.objs.size+1≠X.env.locals:=λe=>by obtain⟨m,⟨o,_,_,ho,_⟩,_⟩:=U.loc;exact big _ o ho e.symm
 have J4:Inv X (Z++[(Y.heap.objs.size+1,u)]) σ H3 s3:=J3.Kp λp hp=>by
  rcases dh.mp hp with q|q
  .exact J3.pin p (gq _ q)
  .have e:p=(Y.heap.objs.size+1,u):=by simpa using q
   subst e;refine⟨R,qv,S,λhb=>?_,λv z=>by rw[q1] at z;cases z⟩;exact U.ath (w5 _) hb
 show wpAny (model X.prog X.w) X.A (assign (.Name y py) X.env (.ref Y.heap.objs.size)) _ _ s3;refine Bj (aaw (pos:=py) hN hy (.inl hl) (.inr hl) (Z++[(Y.heap.objs.size+1,u)]) s3 σ H3 (.ref Y.heap.objs.size) (.ref Y.heap.objs.size) D.nx J4 rfl q3) λ_ s4 z_=>?_
 obtain⟨q0,H4,I4,q4⟩:=z_;have pC:=I4.pin (Y.heap.objs.size+1,u) (gq _ (gq _ (by simp)));refine⟨m,hn.at' λo e=>by rw[R] at e;cases e;exact pC.1,λh' Ow=>⟨q0,H4,?_,q4⟩⟩;refine(I4.Oa).turned (t':=s4.toks) (λb o hb e=>Ow.extBut b o hb e) pC.2.1 S (.inr (ie U.sz (w5 _))) ?_ ?_
 .intro x c hc
  obtain⟨v,o,ho,_⟩:=U.cell x c hc;exact big c o ho
 .intro p hp
  exact big p.1 p.2 (U.pin p hp).1
end L2
namespace Sm
open PySem L2
open MW (Ex Dg OEx Qv Cm ph Lv Tg Res cz MO G5 Cp Op2 Blt Bm Kx)
abbrev Dv:=MW.D
abbrev En:=MW.Env
structure Io where
 l:List Addr
 δ:List Addr
noncomputable def Io.add(ι:Io)(p:Addr):Io:=⟨ι.l++[p],ι.δ⟩
noncomputable def Io.hide(ι:Io)(p:Addr):Io:=⟨ι.l,p::ι.δ⟩
def Io.off(ι:Io)(a:Addr):Prop:=a∉ι.l/\a∉ι.δ
def aa6(K:Fg)(H:Hp)(a:Addr)(vs:List V):Prop :=
 (∃o,H a=some (.N6 o (.lst vs))) \/
  ∃(o:Obj)(Z:Q1)(n:Nat),K.lookup a=some o/\o.cls=.type "list"/\o.dict=none/\o.data=.seq Z n/\Z.size<=sizeLine/\Vals vs Z.toList
def aa6.sq(h:aa6 K H a vs):Gw K H a vs:=by
 rcases h with⟨o,h⟩|h
 .exact .inl (.inr ⟨o,h⟩)
 .exact .inr h
mutual
inductive Rep(K:Fg)(ι:Io)(H:Hp):Dv->V->Prop
 |non:Rep K ι H .non .non
 |bl (b:Bool):Rep K ι H (.bl b) (.bl b)
 |int (i:Int):Rep K ι H (.int i) (.int i)
 |str (s:Str):Rep K ι H (.str s) (.str s)
 |tup {a:Addr} {ds:List Dv} {vs:List V} (e:H a=some (.tup vs)) (r:my K ι H ds vs):Rep K ι H (.tup ds) (.ref a)
 |vl {a:Addr} {ds:List Dv} {vs:List V} (e:H a=some (.lst vs)) (n:ι.off a) (r:my K ι H ds vs):Rep K ι H (.vl ds) (.ref a)
 |fz {a:Addr} {ds:List Dv} {vs:List V} (e:aa6 K H a vs) (r:my K ι H ds vs):Rep K ι H (.fz ds) (.ref a)
 |ref {n:Nat} {a:Addr} (e:ι.l[n]?=some a):Rep K ι H (.ref n) (.ref a)
inductive my(K:Fg)(ι:Io)(H:Hp):List Dv->List V->Prop
 |nil:my K ι H [] []
 |cons {d:Dv} {v:V} {ds:List Dv} {vs:List V} (h:Rep K ι H d v) (t:my K ι H ds vs):my K ι H (d::ds) (v::vs)
end
structure Le(ι:Io)(H:Hp)(ι':Io)(H':Hp):Prop where
 ext:∃Y,ι'.l=ι.l++Y/\∀a∈Y,H a=none
 del:ι'.δ=ι.δ
 tup:∀a vs,H a=some (.tup vs)->H' a=some (.tup vs)
 N6:∀a o u,H a=some (.N6 o u)->H' a=some (.N6 o u)
 lst:∀a vs,a∉ι.l->H a=some (.lst vs)->H' a=some (.lst vs)
 dom:∀a,H' a=none->H a=none
def Le.refl(ι:Io)(H:Hp):Le ι H ι H:=⟨⟨[],by simp,by simp⟩,rfl,λ_ _ h=>h,λ_ _ _ h=>h,λ_ _ _ h=>h,λ_ h=>h⟩
def Gy{H H':Hp}(U:∀a u,H a=some u->∃G,H' a=some G)(h:H' a=none):H a=none:=by
 cases e:H a with
 |none=>rfl|some u=>obtain⟨G,Z⟩:=U a u e;rw[h] at Z;cases Z
def Le.get(l:Le ι H Z H'){n:Nat}(h:ι.l[n]?=some a):Z.l[n]?=some a:=by obtain⟨Y,e,_⟩:=l.ext;rw[e,fc (ak.mp h).1];exact h
def Le.a0u(l:Le ι H Z H')(h:a∉ι.l)(G:H a=some o):a∉Z.l:=by
 obtain⟨Y,e,U⟩:=l.ext;rw[e];intro m;rcases dh.mp m with q|q
 .exact h q
 .rw[U a q] at G;cases G
def Le.out(l:Le ι H Z H')(h:ι.off a)(G:H a=some o):Z.off a:=⟨l.a0u h.1 G,by rw[l.del];exact h.2⟩
theorem Le.trans(a:Le ι H U H1)(b:Le U H1 R H2):Le ι H R H2:=by
 obtain⟨Y,e1,h1⟩:=a.ext;obtain⟨Z,e2,h2⟩:=b.ext;refine⟨⟨Y++Z,by rw[e2,e1,q9],λx m=>?_⟩,b.del.trans a.del,λx G h=>b.tup x G (a.tup x G h),λx o u h=>b.N6 x o u (a.N6 x o u h),λx G n h=>b.lst x G (a.a0u n h) (a.lst x G n h),λx h=>a.dom x (b.dom x h)⟩;rcases dh.mp m with q|q
 .exact h1 x q
 .exact a.dom x (h2 x q)
structure LeX(ι:Io)(H:Hp)(ι':Io)(H':Hp):Prop where
 ext:∃Y,ι'.l=ι.l++Y/\∀a∈Y,H a=none
 del:∀a∈ι'.δ,a∈ι.δ\/H a=none
 tup:∀a vs,H a=some (.tup vs)->H' a=some (.tup vs)
 N6:∀a o u,H a=some (.N6 o u)->H' a=some (.N6 o u)
 lst:∀a vs,a∉ι.l->H a=some (.lst vs)->H' a=some (.lst vs)
def Le.toX(l:Le ι H Z H'):LeX ι H Z H':=⟨l.ext,λa h=>.inl (by rw[<- l.del];exact h),l.tup,l.N6,l.lst⟩
def LeX.get(l:LeX ι H Z H'){n:Nat}(h:ι.l[n]?=some a):Z.l[n]?=some a:=by obtain⟨Y,e,_⟩:=l.ext;rw[e,fc (ak.mp h).1];exact h
def LeX.out(l:LeX ι H G H')(h:ι.off a)(Z:H a=some o):G.off a:=by
 obtain⟨Y,e,U⟩:=l.ext;refine⟨λm=>?_,λm=>?_⟩
 .rw[e] at m
  rcases dh.mp m with q|q
  .exact h.1 q
  .rw[U a q] at Z;cases Z
 .rcases l.del a m with q|q
  .exact h.2 q
  .rw[q] at Z;cases Z
structure Tr(K:Fg)(ι:Io)(H:Hp)(ι':Io)(H':Hp):Prop where
 tup:∀a vs,H a=some (.tup vs)->H' a=some (.tup vs)
 vl:∀a vs,H a=some (.lst vs)->ι.off a->H' a=some (.lst vs)/\ι'.off a
 fz:∀a vs,aa6 K H a vs->aa6 K H' a vs
 rf:∀(n:Nat) a,ι.l[n]?=some a->ι'.l[n]?=some a
mutual
theorem Rep.tr{K:Fg}{ι Z:Io}{H H':Hp}(l:Tr K ι H Z H'):∀{d:Dv}{v:V},Rep K ι H d v->Rep K Z H' d v
 |_,_,.non=>.non|_,_,.bl b=>.bl b|_,_,.int i=>.int i|_,_,.str s=>.str s|_,_,.tup e r=>.tup (l.tup _ _ e) (my.tr l r)|_,_,.vl e n r=>.vl (l.vl _ _ e n).1 (l.vl _ _ e n).2 (my.tr l r)|_,_,.fz e r=>.fz (l.fz _ _ e) (my.tr l r)|_,_,.ref e=>.ref (l.rf _ _ e)
theorem my.tr{K:Fg}{ι Z:Io}{H H':Hp}(l:Tr K ι H Z H'):∀{ds:List Dv}{vs:List V},my K ι H ds vs->my K Z H' ds vs
 |_,_,.nil=>.nil|_,_,.cons h t=>.cons (Rep.tr l h) (my.tr l t)
end
def LeX.tr(l:LeX ι H Z H'):Tr K ι H Z H':=⟨l.tup,λa G e n=>⟨l.lst _ _ n.1 e,l.out n e⟩,λa G e=>by
 rcases e with⟨o,e⟩|e
 .exact .inl ⟨o,l.N6 _ _ _ e⟩
 .exact .inr e,λ_ _ e=>l.get e⟩
def Rep.Ld(l:LeX ι H Z H')(r:Rep K ι H d v):Rep K Z H' d v:=r.tr l.tr
def my.Ld(l:LeX ι H Z H')(r:my K ι H ds vs):my K Z H' ds vs:=r.tr l.tr
def Rep.mono(l:Le ι H Z H')(r:Rep K ι H d v):Rep K Z H' d v:=r.Ld l.toX
def my.mono(l:Le ι H Z H')(r:my K ι H ds vs):my K Z H' ds vs:=r.Ld l.toX
theorem my.length{K:Fg}{ι:Io}{H:Hp}:∀{ds:List Dv}{vs:List V},my K ι H ds vs->ds.length=vs.length
 |_,_,.nil=>rfl|_,_,.cons _ t=>by rw[gm,gm,my.length t]
theorem my.get{K:Fg}{ι:Io}{H:Hp}:∀{ds:List Dv}{vs:List V}{i:Nat}{d:Dv},my K ι H ds vs->ds[i]?=some d->∃v,vs[i]?=some v/\Rep K ι H d v
 |_,_,_,_,.nil,e=>by simp at e|_,_,0,_,.cons h _,e=>by simp at e;subst e;exact⟨_,rfl,h⟩
 |_,_,i+1,d,.cons _ t,e=>by
  obtain⟨v,G,Z⟩:=my.get (i:=i) t (by simpa using e);exact⟨v,by simpa using G,Z⟩
theorem my.set{K:Fg}{ι:Io}{H:Hp}{d:Dv}{v:V}(r:Rep K ι H d v):∀{ds:List Dv}{vs:List V}(i:Nat),my K ι H ds vs->my K ι H (ds.set i d) (vs.set i v)
 |_,_,_,.nil=>.nil|_,_,0,.cons _ t=>.cons r t|_,_,i+1,.cons h t=>.cons h (my.set r i t)
theorem my.append{K:Fg}{ι:Io}{H:Hp}:∀{ds es:List Dv}{vs us:List V},my K ι H ds vs->my K ι H es us->my K ι H (ds++es) (vs++us)
 |_,_,_,_,.nil,r=>r|_,_,_,_,.cons h t,r=>.cons h (my.append t r)
theorem my.drop{K:Fg}{ι:Io}{H:Hp}:∀{ds:List Dv}{vs:List V}(n:Nat),my K ι H ds vs->my K ι H (ds.drop n) (vs.drop n)
 |_,_,0,r=>r|_,_,_+1,.nil=>.nil|_,_,n+1,.cons _ t=>my.drop n t
theorem my.take{K:Fg}{ι:Io}{H:Hp}:∀{ds:List Dv}{vs:List V}(n:Nat),my K ι H ds vs->my K ι H (ds.take n) (vs.take n)
 |_,_,0,_=>.nil|_,_,_+1,.nil=>.nil|_,_,n+1,.cons h t=>.cons h (my.take n t)
theorem my.eraseIdx{K:Fg}{ι:Io}{H:Hp}:∀{ds:List Dv}{vs:List V}(n:Nat),my K ι H ds vs->my K ι H (ds.eraseIdx n) (vs.eraseIdx n)
 |_,_,_,.nil=>.nil|_,_,0,.cons _ t=>t|_,_,n+1,.cons h t=>.cons h (my.eraseIdx n t)
theorem my.ints{K:Fg}{ι:Io}{H:Hp}:∀(ns:U1),my K ι H (ns.map MW.D.int) (ns.map V.int)
 |[]=>.nil|n::r=>.cons (.int n) (my.ints r)
structure Nm where
 cls:Nat->Option Addr
 fld:Nat->Str
 inj:∀i j,fld i=fld j->i=j
inductive uh{κ κ':Type}(K:Fg)(ι:Io)(H:Hp)(f:κ->κ'->Prop):List (κ×Dv)->List (κ'×V)->Prop
 |nil:uh K ι H f [] []
 |cons {k:κ} {k':κ'} {d:Dv} {v:V} {l:List (κ×Dv)} {l':List (κ'×V)} (hk:f k k') (h:Rep K ι H d v) (t:uh K ι H f l l'):uh K ι H f ((k,d)::l) ((k',v)::l')
theorem uh.mono{R Z:Type}{K:Fg}{ι G:Io}{H H':Hp}{f:R->Z->Prop}(le:Le ι H G H'):∀{l:List (R×Dv)}{U:List (Z×V)},uh K ι H f l U->uh K G H' f l U
 |_,_,.nil=>.nil|_,_,.cons k h t=>.cons k (h.mono le) (uh.mono le t)
def Gp(nm:Nm)(K:Fg)(ι:Io)(H:Hp)(o:MO)(a:Addr):Prop :=
 match o with
 |.lst ds=>∃G,H a=some (.lst G)/\my K ι H ds G|.dT iu=>∃l,H a=some (.dT l)/\uh K ι H (λk Z=>k=Z) iu l
 |.dK iu=>∃l,H a=some (.dK l)/\uh K ι H (λk Z=>k=Z) iu l
 |.ins c fs=>∃C U l,nm.cls c=some C/\H a=some (.ins C U l)/\uh K ι H (λk Z=>Z=nm.fld k) fs l
structure lz(nm:Nm)(K:Fg)(ι:Io)(H:Hp)(M:cz):Prop where
 len:ι.l.length=M.length
 nd:ι.l.Nodup
 del:∀a∈ι.δ,a∉ι.l/\∃vs,H a=some (.lst vs)
 obj:∀(n:Nat)(o:MO)(a:Addr),M[n]?=some o->ι.l[n]?=some a->Gp nm K ι H o a
theorem Gp.some(h:Gp nm K ι H o a):∃u,H a=some u/\Mut (H a):=by
 cases o with
 |lst R=>obtain⟨Z,e,_⟩:=h;exact⟨_,e,by rw[e];trivial⟩
 |dT G=>obtain⟨Z,e,_⟩:=h;exact⟨_,e,by rw[e];trivial⟩
 |dK G=>obtain⟨Z,e,_⟩:=h;exact⟨_,e,by rw[e];trivial⟩
 |ins c fs=>obtain⟨C,U,l,_,e,_⟩:=h;exact⟨_,e,by rw[e];trivial⟩
def lz.addr(S:lz nm K ι H M){n:Nat}(h:M[n]?=some o):∃a,ι.l[n]?=some a/\Gp nm K ι H o a:=by
 have Z:n < ι.l.length:=by rw[S.len];exact MW.w6 h
 exact⟨ι.l[n],by simp[Z],S.obj n o _ h (by simp[Z])⟩
def lz.mem(S:lz nm K ι H M)(h:a∈ι.l):∃u,H a=some u/\Mut (H a):=by
 obtain⟨n,Z,rfl⟩:=qd h;have G:n<M.length:=by rw[<- S.len];exact Z
 exact(S.obj n M[n] ι.l[n] (by simp[G]) (by simp[Z])).some
def lz.fresh(S:lz nm K ι H M)(h:H a=none):ι.off a:=by
 refine⟨λm=>?_,λm=>?_⟩
 .obtain⟨u,e,_⟩:=S.mem m
  rw[h] at e;cases e
 .obtain⟨_,Z,e⟩:=S.del a m
  rw[h] at e;cases e
def Gp.move(h:Gp nm K ι H o a)(le:Le ι H G H')(e:H' a=H a):Gp nm K G H' o a:=by
 cases o with
 |lst ds=>obtain⟨Z,q,r⟩:=h;exact⟨Z,e.trans q,r.mono le⟩
 |dT U=>obtain⟨Z,q,r⟩:=h;exact⟨Z,e.trans q,r.mono le⟩
 |dK U=>obtain⟨Z,q,r⟩:=h;exact⟨Z,e.trans q,r.mono le⟩
 |ins c fs=>obtain⟨C,dx,l,R,q,r⟩:=h;exact⟨C,dx,l,R,e.trans q,r.mono le⟩
def lz.laid(S:lz nm K ι H M)(h:H p=none)(o:HO):lz nm K ι (upd H p o) M/\Le ι H ι (upd H p o):=by
 have Z:∀a u,H a=some u->a≠p:=λa u e=>lq e h
 have le:Le ι H ι (upd H p o):=⟨⟨[],by simp,by simp⟩,rfl,λa G e=>by rw[kh (Z a _ e)];exact e,λa _ u e=>by rw[kh (Z a _ e)];exact e,λa G _ e=>by rw[kh (Z a _ e)];exact e,
  λa h'=>Gy (λb u e=>⟨u,by rw[kh (Z b _ e)];exact e⟩) h'⟩
 refine⟨⟨S.len,S.nd,λa U=>?_,λn o' a hn U=>?_⟩,le⟩
 .obtain⟨R,G,h2⟩:=S.del a U
  exact⟨R,G,le.lst a G R h2⟩
 .have q:=S.obj n o' a hn U
  obtain⟨u,e,_⟩:=q.some;exact q.move le (by rw[kh (Z a u e)])
def Ci{α:Type}{l:List α}{x y:α}(h:(l++[x])[n]?=some y):(l[n]?=some y)\/(n=l.length/\y=x):=by
 rcases yw n l.length with q|q
 .rw[fc q] at h;exact .inl h
 .rw[jc q] at h
  have:n-l.length=0:=by
   rcases Nat.eq_zero_or_pos (n-l.length) with z|z
   .exact z
   .rw[kj (by simp;exact z)] at h;cases h
  rw[this] at h;simp at h;exact .inr ⟨by lia,h.symm⟩
def lz.new(S:lz nm K ι H M)(h:H p=none)(Z:∀a u,H a=some u->H' a=some u)(ho:Le ι H (ι.add p) H'->Gp nm K (ι.add p) H' o p):lz nm K (ι.add p) H' (M++[o])/\Le ι H (ι.add p) H':=by
 have le:Le ι H (ι.add p) H':=⟨⟨[p],rfl,by simpa using h⟩,rfl,λa U e=>Z _ _ e,λa _ u e=>Z _ _ e,λa U _ e=>Z _ _ e,λa h'=>Gy (H:=H) (H':=H') (λb u e=>⟨u,Z b u e⟩) h'⟩;refine⟨⟨by simp[Io.add,S.len],?_,λa G=>?_,λn o' a hn G=>?_⟩,le⟩
 .exact zc.mpr ⟨S.nd,by simp,by
   intro x hx y hy;have:y=p:=by simpa using hy
   subst this;intro e;subst e;exact(S.fresh h).1 hx⟩
 .obtain⟨h1,U,R⟩:=S.del a G
  exact⟨le.a0u h1 R,U,Z _ _ R⟩
 .rcases Ci hn with q|⟨q,rfl⟩
  .rcases Ci G with r|⟨r,_⟩
   .have z:=S.obj n o' a q r
    obtain⟨u,e,_⟩:=z.some;exact z.move le ((Z a u e).trans e.symm)
   .exact absurd (MW.w6 q) (by rw[r,S.len];exact m7 _)
  .rcases Ci G with r|⟨_,rfl⟩
   .exact absurd (ak.mp r).1 (by rw[q,S.len];exact m7 _)
   .exact ho le
def lz.put(S:lz nm K ι H M)(hn:M[n]?=some R)(ha:ι.l[n]?=some a)(ho:Le ι H ι (upd H a u)->Gp nm K ι (upd H a u) o a):lz nm K ι (upd H a u) (M.set n o)/\Le ι H ι (upd H a u):=by
 obtain⟨qq,qk,Z⟩:=(S.obj n R a hn ha).some;have hm:a∈ι.l:=az ha;have le:Le ι H ι (upd H a u):=⟨⟨[],by simp,by simp⟩,rfl,λb vs e=>by rw[kh (λz=>by subst z;rw[e] at Z;exact Z)];exact e,
  λb _ _ e=>by rw[kh (λz=>by subst z;rw[e] at Z;exact Z)];exact e,λb vs nb e=>by rw[kh (λz=>by subst z;exact nb hm)];exact e,λb h'=>Gy (λc w e=>by
   by_cases z:c=a
   .exact⟨u,by rw[z,yg]⟩
   .exact⟨w,by rw[kh z];exact e⟩) h'⟩
 refine⟨⟨by rw[List.length_set];exact S.len,S.nd,λb U=>?_,λm o' b G U=>?_⟩,le⟩
 .obtain⟨h1,vs,h2⟩:=S.del b U
  exact⟨h1,vs,le.lst b vs h1 h2⟩
 by_cases q:m=n
 .subst q
  rw[MW.ur hn] at G;cases G;rw[ha] at U;cases U;exact ho le
 .rw[MW.qp (j5 q)] at G
  have z:=S.obj m o' b G U;have nb:b≠a:=λe=>by subst e;obtain⟨l1,e1⟩:=ak.mp U;obtain⟨l2,e2⟩:=ak.mp ha;exact q ((Ba S.nd).mp (e1.trans e2.symm))
  exact z.move le (by rw[kh nb])
mutual
theorem Rep.hide{K:Fg}{ι:Io}{H:Hp}{D:Addr}{o:HO}(Z:H D=none):∀{d:Dv}{v:V},Rep K ι H d v->Rep K (ι.hide D) (upd H D o) d v
 |_,_,.non=>.non|_,_,.bl b=>.bl b|_,_,.int i=>.int i|_,_,.str s=>.str s|_,_,.tup e r=>.tup (by rw[kh (lq e Z)];exact e) (my.hide Z r)
 | _,_,.vl e n r=>.vl (by rw[kh (lq e Z)];exact e) ⟨n.1,λm=>by
  rcases bz.mp m with q|q
  .exact lq e Z q
  .exact n.2 q⟩ (my.hide Z r)
 | _,_,.fz e r=>.fz (by
  rcases e with⟨q,e⟩|e
  .exact .inl ⟨q,by rw[kh (lq e Z)];exact e⟩
  .exact .inr e) (my.hide Z r)
 |_,_,.ref e=>.ref e
theorem my.hide{K:Fg}{ι:Io}{H:Hp}{D:Addr}{o:HO}(Z:H D=none):∀{ds:List Dv}{vs:List V},my K ι H ds vs->my K (ι.hide D) (upd H D o) ds vs
 |_,_,.nil=>.nil|_,_,.cons h t=>.cons (Rep.hide Z h) (my.hide Z t)
end
mutual
theorem Rep.grow{K:Fg}{ι:Io}{H:Hp}{D:Addr}{vs U:List V}(Z:H D=some (.lst vs))(G:D∈ι.δ):∀{d:Dv}{v:V},Rep K ι H d v->Rep K ι (upd H D (.lst U)) d v
 |_,_,.non=>.non|_,_,.bl b=>.bl b|_,_,.int i=>.int i|_,_,.str s=>.str s|_,_,.tup e r=>.tup (by rw[kh (anh e Z (by intro z;cases z))];exact e) (my.grow Z G r)|_,_,.vl e n r=>.vl (by rw[kh (λz=>by subst z;exact n.2 G)];exact e) n (my.grow Z G r)
 | _,_,.fz e r=>.fz (by
  rcases e with⟨q,e⟩|e
  .exact .inl ⟨q,by rw[kh (anh e Z (by intro z;cases z))];exact e⟩
  .exact .inr e) (my.grow Z G r)
 |_,_,.ref e=>.ref e
theorem my.grow{K:Fg}{ι:Io}{H:Hp}{D:Addr}{vs U:List V}(Z:H D=some (.lst vs))(G:D∈ι.δ):∀{ds:List Dv}{us:List V},my K ι H ds us->my K ι (upd H D (.lst U)) ds us
 |_,_,.nil=>.nil|_,_,.cons h t=>.cons (Rep.grow Z G h) (my.grow Z G t)
end
def Io.show(ι:Io)(H:Hp)(D:Addr):Tr K (ι.hide D) H ι H:=⟨λ_ _ e=>e,λ_ _ e n=>⟨e,n.1,λm=>n.2 (bh _ m)⟩,λ_ _ e=>e,λ_ _ e=>e⟩
theorem Rep.show(r:Rep K (ι.hide D) H d v):Rep K ι H d v:=r.tr (ι.show H D)
theorem my.show(r:my K (ι.hide D) H d v):my K ι H d v:=r.tr (ι.show H D)
theorem uh.map{R Z:Type}{K:Fg}{ι G:Io}{H H':Hp}{f:R->Z->Prop}(g:∀d v,Rep K ι H d v->Rep K G H' d v):∀{l:List (R×Dv)}{U:List (Z×V)},uh K ι H f l U->uh K G H' f l U
 |_,_,.nil=>.nil|_,_,.cons k h t=>.cons k (g _ _ h) (uh.map g t)
theorem my.map{K:Fg}{ι Z:Io}{H H':Hp}(g:∀d v,Rep K ι H d v->Rep K Z H' d v):∀{l:List Dv}{G:List V},my K ι H l G->my K Z H' l G
 |_,_,.nil=>.nil|_,_,.cons h t=>.cons (g _ _ h) (my.map g t)
theorem Gp.map(g:∀d v,Rep K ι H d v->Rep K G H' d v)(h:Gp nm K ι H o a)(e:H' a=H a):Gp nm K G H' o a:=by
 cases o with
 |lst ds=>obtain⟨Z,q,r⟩:=h;exact⟨Z,e.trans q,r.map g⟩
 |dT U=>obtain⟨Z,q,r⟩:=h;exact⟨Z,e.trans q,r.map g⟩
 |dK U=>obtain⟨Z,q,r⟩:=h;exact⟨Z,e.trans q,r.map g⟩
 |ins c fs=>obtain⟨C,dx,l,R,q,r⟩:=h;exact⟨C,dx,l,R,e.trans q,r.map g⟩
theorem lz.hide(S:lz nm K ι H M)(Z:H D=none):lz nm K (ι.hide D) (upd H D (.lst [])) M:=by
 refine⟨S.len,S.nd,λa G=>?_,λn o a R G=>?_⟩
 .rcases bz.mp G with q|q
  .subst q;exact⟨(S.fresh Z).1,[],yg⟩
  .obtain⟨h1,vs,U⟩:=S.del a q
   exact⟨h1,vs,by rw[kh (lq U Z)];exact U⟩
 .have z:=S.obj n o a R G
  obtain⟨u,e,_⟩:=z.some;exact z.map (λd v r=>r.hide Z) (by rw[kh (lq e Z)])
theorem lz.grow(S:lz nm K ι H M)(hD:H D=some (.lst vs))(G:D∈ι.δ):lz nm K ι (upd H D (.lst ws)) M:=by
 refine⟨S.len,S.nd,λa Z=>?_,λn o a hn Z=>?_⟩
 .obtain⟨U,R,h2⟩:=S.del a Z
  by_cases z:a=D
  .subst z;exact⟨U,ws,yg⟩
  .exact⟨U,R,by rw[kh z];exact h2⟩
 .have z:=S.obj n o a hn Z
  have ne:a≠D:=λe=>by subst e;exact(S.del a G).1 (az Z)
  exact z.map (λd v r=>r.grow hD G) (by rw[kh ne])
theorem lz.show(S:lz nm K (ι.hide D) H M):lz nm K ι H M :=
 ⟨S.len,S.nd,λa Z=>S.del a (bh _ Z),λn o a G Z=>(S.obj n o a G Z).map (λd v r=>r.show) rfl⟩
structure LeD(D:Addr)(ι:Io)(H:Hp)(ι':Io)(H':Hp):Prop where
 ext:∃Y,ι'.l=ι.l++Y/\∀a∈Y,H a=none
 del:ι'.δ=D::ι.δ
 tup:∀a vs,H a=some (.tup vs)->H' a=some (.tup vs)
 N6:∀a o u,H a=some (.N6 o u)->H' a=some (.N6 o u)
 lst:∀a vs,a∉ι.l->H a=some (.lst vs)->H' a=some (.lst vs)
 dom:∀a,H' a=none->H a=none
def LeD.toX(l:LeD D ι H Z H')(G:H D=none):LeX ι H Z H':=⟨l.ext,λa h=>by
 rw[l.del] at h;rcases bz.mp h with q|q
 .exact .inr (by rw[q];exact G)
 .exact .inl q,l.tup,l.N6,l.lst⟩
def LeD.start(Z:H D=none)(o:HO):LeD D ι H (ι.hide D) (upd H D o) :=
 ⟨⟨[],by simp[Io.hide],by simp⟩,rfl,λa U e=>by rw[kh (lq e Z)];exact e,λa _ _ e=>by rw[kh (lq e Z)];exact e,λa U _ e=>by rw[kh (lq e Z)];exact e,
  λa G=>Gy (λb u e=>⟨u,by rw[kh (lq e Z)];exact e⟩) G⟩
def LeD.go(a:LeD D ι H G H1)(b:Le G H1 R H2):LeD D ι H R H2:=by
 obtain⟨Y,e1,h1⟩:=a.ext;obtain⟨Z,e2,h2⟩:=b.ext;have out:∀x o,x∉ι.l->H x=some o->x∉G.l:=λx o n h m=>by
  rw[e1] at m;rcases dh.mp m with q|q
  .exact n q
  .rw[h1 x q] at h;cases h
 refine⟨⟨Y++Z,by rw[e2,e1,q9],λx m=>?_⟩,b.del.trans a.del,λx U h=>b.tup x U (a.tup x U h),λx o u h=>b.N6 x o u (a.N6 x o u h),λx U n h=>b.lst x U (out x _ n h) (a.lst x U n h),λx h=>a.dom x (b.dom x h)⟩;rcases dh.mp m with q|q
 .exact h1 x q
 .exact a.dom x (h2 x q)
def LeD.grow(a:LeD D ι H Z R)(U:H D=none)(hD:R D=some (.lst vs)):LeD D ι H Z (upd R D (.lst ws)) :=
 ⟨a.ext,a.del,λx G h=>by rw[kh (lq h U)];exact a.tup x G h,λx o u h=>by rw[kh (lq h U)];exact a.N6 x o u h,λx G n h=>by rw[kh (lq h U)];exact a.lst x G n h,
  λx h=>a.dom x (by
   by_cases z:x=D
   .rw[z,yg] at h;cases h
   .rw[kh z] at h;exact h)⟩
def LeD.done(a:LeD D ι H ⟨Z.l,D::Z.δ⟩ H1):Le ι H Z H1 :=
 ⟨a.ext,(List.cons.inj a.del).2,a.tup,a.N6,a.lst,a.dom⟩
inductive v9(K:Fg)(ι:Io)(H:Hp):En->St->Prop
 |nil:v9 K ι H [] []
 |skp {y:Option V} {ρ:En} {σ:St} (t:v9 K ι H ρ σ):v9 K ι H (none::ρ) (y::σ)
 |has {d:Dv} {v:V} {ρ:En} {σ:St} (h:Rep K ι H d v) (t:v9 K ι H ρ σ):v9 K ι H (some d::ρ) (some v::σ)
theorem v9.Ld{K:Fg}{ι Z:Io}{H H':Hp}(le:LeX ι H Z H'):∀{ρ:En}{G:St},v9 K ι H ρ G->v9 K Z H' ρ G
 |_,_,.nil=>.nil|_,_,.skp t=>.skp (v9.Ld le t)|_,_,.has h t=>.has (h.Ld le) (v9.Ld le t)
theorem v9.mono{K:Fg}{ι Z:Io}{H H':Hp}(le:Le ι H Z H'):∀{ρ:En}{G:St},v9 K ι H ρ G->v9 K Z H' ρ G
 |_,_,.nil=>.nil|_,_,.skp t=>.skp (v9.mono le t)|_,_,.has h t=>.has (h.mono le) (v9.mono le t)
theorem v9.get{K:Fg}{ι:Io}{H:Hp}:∀{ρ:En}{U:St}{i:Nat}{d:Dv},v9 K ι H ρ U->ρ[i]?=some (some d)->∃v,U[i]?=some (some v)/\Rep K ι H d v
 |_,_,_,_,.nil,e=>by simp at e|_,_,0,_,.skp _,e=>by simp at e|_,_,0,_,.has h _,e=>by simp at e;subst e;exact⟨_,rfl,h⟩
 |_,_,i+1,d,.skp t,e=>by
  obtain⟨v,G,Z⟩:=v9.get (i:=i) t (by simpa using e);exact⟨v,by simpa using G,Z⟩
 |_,_,i+1,d,.has _ t,e=>by
  obtain⟨v,G,Z⟩:=v9.get (i:=i) t (by simpa using e);exact⟨v,by simpa using G,Z⟩
theorem v9.set{K:Fg}{ι:Io}{H:Hp}{d:Dv}{v:V}(r:Rep K ι H d v):∀{ρ:En}{Z:St}(i:Nat),v9 K ι H ρ Z->v9 K ι H (ρ.set i (some d)) (Z.set i (some v))
 |_,_,_,.nil=>.nil|_,_,0,.skp t=>.has r t|_,_,0,.has _ t=>.has r t|_,_,i+1,.skp t=>.skp (v9.set r i t)|_,_,i+1,.has h t=>.has h (v9.set r i t)
theorem v9.length{K:Fg}{ι:Io}{H:Hp}:∀{ρ:En}{Z:St},v9 K ι H ρ Z->ρ.length=Z.length
 |_,_,.nil=>rfl|_,_,.skp t=>by rw[gm,gm,v9.length t]|_,_,.has _ t=>by rw[gm,gm,v9.length t]
theorem v9.append{K:Fg}{ι:Io}{H:Hp}:∀{ρ Z:En}{G σ':St},v9 K ι H ρ G->v9 K ι H Z σ'->v9 K ι H (ρ++Z) (G++σ')
 |_,_,_,_,.nil,r=>r|_,_,_,_,.skp t,r=>.skp (v9.append t r)|_,_,_,_,.has h t,r=>.has h (v9.append t r)
theorem v9.aoy{K:Fg}{ι:Io}{H:Hp}:∀(k:Nat){Z:St},Z.length=k->v9 K ι H (List.replicate k none) Z
 |0,[],_=>.nil|k+1,_::r,h=>.skp (v9.aoy k (by simpa using h))
theorem v9.aoz{K:Fg}{ι:Io}{H:Hp}:∀{ds:List Dv}{vs:List V},my K ι H ds vs->v9 K ι H (ds.map some) (vs.map some)
 |_,_,.nil=>.nil|_,_,.cons h t=>.has h (v9.aoz t)
def dz{r:Res α}(h:r.bind f=.ok b M):∃a M1,r=.ok a M1/\f a M1=.ok b M:=by
 cases r with
 |ok a M1=>exact⟨a,M1,rfl,h⟩|err c M1=>cases h|bad=>cases h
def yj(h:Res.wj o M=.ok a M'):o=some a/\M'=M:=by
 cases o with
 |none=>cases h|some x=>cases h;exact⟨rfl,rfl⟩
def PE.weak(h:PE X e t)(w:∀Z H Q,t' Z H Q->t Z H Q):PE X e t':=λG s Z H Q I q=>h G s Z H Q I (w Z H Q q)
def PT.weak(h:PT X e t)(w:∀Z H Q,t' Z H Q->t Z H Q):PT X e t':=λG s Z H Q I q=>h G s Z H Q I (w Z H Q q)
def PA.weak(h:PA X es t)(w:∀Z H Q,t' Z H Q->t Z H Q):PA X es t':=λpos G s Z H Q I q=>h pos G s Z H Q I (w Z H Q q)
def PS.weak(h:PS X e t)(w:∀D Z H,t' D Z H->t D Z H):PS X e t':=λG s Z H D I q=>h G s Z H D I (w D Z H q)
def Rr.weak(h:Rr X e t)(w:∀D Z H,t' D Z H->t D Z H):Rr X e t':=λG s Z H D I q=>h G s Z H D I (w D Z H q)
def De.weak(h:De X f r)(w:∀x y H Q,r' x y H Q->r x y H Q):De X f r':=λZ s G H x y v u Q I R U q=>h Z s G H x y v u Q I R U (w x y H Q q)
section
variable(nm:Nm)(W:G5)(K:Fg)
def tE(e:Ex):TE:=fun σ H Q=>∃U R M d M',lz nm K U H M/\v9 K U H R σ/\e.den W R M=.ok d M'/\∀Z G v,Le U H Z G->lz nm K Z G M'->Rep K Z G d v->Q v G
def tQ(e:Ex):TT:=fun σ H Q=>∃U R M b M',lz nm K U H M/\v9 K U H R σ/\e.den W R M=.ok (.bl b) M'/\∀Z G,Le U H Z G->lz nm K Z G M'->Q b G
def Vd(es:Dg):TA:=fun σ H Q=>∃U ρ M ds M',lz nm K U H M/\v9 K U H ρ σ/\es.den W ρ M=.ok ds M'/\∀Z G R,Le U H Z G->lz nm K Z G M'->my K Z G ds R->Q R G
def Wm(D:Ends)(ι:Io)(H:Hp)(R:MW.Flow)(ρ:En)(M:cz):Prop :=
 ∀G U Z,Le ι H G U->lz nm K G U M->v9 K G U ρ Z ->
  match R with
  |.next=>D.nx Z U|.brk=>D.bk Z U|.cont=>D.ct Z U|.ret d=>∀v,Rep K G U d v->D.rt v U
def tS(st:Cm):TS:=λD σ H=>∃G U M R Z M',lz nm K G H M/\v9 K G H U σ/\st.den W U M=.ok (R,Z) M'/\Wm nm K D G H R Z M'
def tSs(st:ph):TS:=λD σ H=>∃G U M R Z M',lz nm K G H M/\v9 K G H U σ/\st.den W U M=.ok (R,Z) M'/\Wm nm K D G H R Z M'
end
def PE.of(h:PE X a t)(w:∀G H Q ι ρ M d M',lz nm X.K ι H M->v9 X.K ι H ρ G->U.den W ρ M=.ok d M'->(∀Z H' v,Le ι H Z H'->lz nm X.K Z H' M'->Rep X.K Z H' d v->Q v H')->t G H Q):PE X a (tE nm W X.K U):=PE.weak h fun G H Q z_=>by obtain⟨ι,ρ,M,d,M',S,R,e,q⟩:=z_;exact w G H Q ι ρ M d M' S R e q
def PT.of(h:PT X a t)(w:∀G H Q ι ρ M b M',lz nm X.K ι H M->v9 X.K ι H ρ G->U.den W ρ M=.ok (.bl b) M'->(∀Z H',Le ι H Z H'->lz nm X.K Z H' M'->Q b H')->t G H Q):PT X a (tQ nm W X.K U):=PT.weak h fun G H Q z_=>by obtain⟨ι,ρ,M,d,M',S,R,e,q⟩:=z_;exact w G H Q ι ρ M d M' S R e q
def PA.of(h:PA X es t)(w:∀G H Q ι ρ M ds M',lz nm X.K ι H M->v9 X.K ι H ρ G->es'.den W ρ M=.ok ds M'->(∀Z H' vs,Le ι H Z H'->lz nm X.K Z H' M'->my X.K Z H' ds vs->Q vs H')->t G H Q):PA X es (Vd nm W X.K es'):=PA.weak h fun G H Q z_=>by obtain⟨ι,ρ,M,d,M',S,R,e,q⟩:=z_;exact w G H Q ι ρ M d M' S R e q
def PS.of(h:PS X st t)(w:∀D G H ι ρ M U Z M',lz nm X.K ι H M->v9 X.K ι H ρ G->s'.den W ρ M=.ok (U,Z) M'->Wm nm X.K D ι H U Z M'->t D G H):PS X st (tS nm W X.K s'):=PS.weak h λD G H z_=>by obtain⟨ι,ρ,M,U,Z,M',S,R,e,q⟩:=z_;exact w D G H ι ρ M U Z M' S R e q
def Rr.of(h:Rr X st t)(w:∀D G H ι ρ M U Z M',lz nm X.K ι H M->v9 X.K ι H ρ G->s'.den W ρ M=.ok (U,Z) M'->Wm nm X.K D ι H U Z M'->t D G H):Rr X st (tSs nm W X.K s'):=Rr.weak h λD G H z_=>by obtain⟨ι,ρ,M,U,Z,M',S,R,e,q⟩:=z_;exact w D G H ι ρ M U Z M' S R e q
def one{X:Cx}{M1:cz}(S:lz nm X.K ι H M)(R:v9 X.K ι H ρ σ)(ha:a'.den W ρ M=.ok x M1)(h:∀Z U v,Le ι H Z U->lz nm X.K Z U M1->v9 X.K Z U ρ σ->Rep X.K Z U x v->G v U):tE nm W X.K a' σ H G :=
 ⟨ι,ρ,M,x,M1,S,R,ha,fun qq H' v le S' r=>h qq H' v le S' (R.mono le) r⟩
theorem two{X:Cx}{M1 M2:cz}{G:V->V->Hp->Prop}(S:lz nm X.K ι H M)(R:v9 X.K ι H ρ σ)(ha:a'.den W ρ M=.ok x M1)(hb:b'.den W ρ M1=.ok y M2)(h:∀Z H2 v u,Le ι H Z H2->lz nm X.K Z H2 M2->v9 X.K Z H2 ρ σ->Rep X.K Z H2 x v->Rep X.K Z H2 y u->G v u H2) :
 tE nm W X.K a' σ H λv H1=>tE nm W X.K b' σ H1 λu H2=>G v u H2 :=
 one S R ha fun qq H1 v T6 S1 R1 r1=>one S1 R1 hb fun Z H2 u U S2 R2 r2=>h Z H2 v u (T6.trans U) S2 R2 (r1.mono U) r2
set_option tactic.hygienic true in
def a70(J:X.N[i]?=some n)(L:Vis X.env.scope n)(Y:(n==("__debug__" : Str))=false)(Z:(n==("__classdict__" : Str))=false):PE X (.Name n pos) (tE nm W X.K (.var i)) :=
 PE.of (azm J L Y Z) fun u H Q G y M d M' S R e q=>by
  rw[MW.ag9] at e;split at e
  .rename_i d' Y
   cases e;obtain⟨v,C,U⟩:=R.get Y;exact⟨v,C,q G H v (Le.refl _ _) S U⟩
  .cases e
def a71:PE X (.Constant (.int i) j pos) (tE nm W X.K (.cst (.int i))) :=
 PE.of azn fun G H Q Z U M d M' S R e q=>by rw[MW.Q7] at e;cases e;exact q Z H _ (Le.refl _ _) S (.int i)
def bet:PE X (.Constant (.bool i) j pos) (tE nm W X.K (.cst (.bl i))) :=
 PE.of a6k fun G H Q Z U M d M' S R e q=>by rw[MW.Q7] at e;cases e;exact q Z H _ (Le.refl _ _) S (.bl i)
def a72:PE X (.Constant .none j pos) (tE nm W X.K (.cst .non)) :=
 PE.of azo fun G H Q Z U M d M' S R e q=>by rw[MW.Q7] at e;cases e;exact q Z H _ (Le.refl _ _) S .non
def a73:PE X (.Constant (.str i) j pos) (tE nm W X.K (.cst (.str i))) :=
 PE.of azp fun G H Q Z U M d M' S R e q=>by rw[MW.Q7] at e;cases e;exact q Z H _ (Le.refl _ _) S (.str i)
def a0w(Z:Gl X n)(U:X.mg n=some (.int i t))(hd:(n==("__debug__" : Str))=false):PE X (.Name n pos) (tE nm W X.K (.cst (.int i))) :=
 PE.of (ati (v:=.int i) Z U ⟨t,rfl⟩ hd) fun σ H Q G ρ M d M' S R e q=>by rw[MW.Q7] at e;cases e;exact q G H _ (Le.refl _ _) S (.int i)
def rOp(nm:Nm)(K:Fg)(f:Dv->Dv->cz->Res Dv):R2:=λv u H Q=>∃U M x y d R,lz nm K U H M/\Rep K U H x v/\Rep K U H y u/\f x y M=.ok d R /\
 ∀Z G w,Le U H Z G->lz nm K Z G R->Rep K Z G d w->Q w G
def De.of(h:De X f r)(w:∀v u H Q ι M x y d M',lz nm X.K ι H M->Rep X.K ι H x v->Rep X.K ι H y u->g x y M=.ok d M'->(∀Z H' w,Le ι H Z H'->lz nm X.K Z H' M'->Rep X.K Z H' d w->Q w H')->r v u H Q):De X f (rOp nm X.K g) :=
 De.weak h λv u H Q z_=>by obtain⟨ι,M,x,y,d,M',S,G,U,e,q⟩:=z_;exact w v u H Q ι M x y d M' S G U e q
def a74(ho:De X (binaryOp op) (rOp nm X.K (MW.Fy Z)))(ha:PE X a (tE nm W X.K a'))(hb:PE X b (tE nm W X.K b')):PE X (.BinOp a op b pos) (tE nm W X.K (.bin Z a' b')) :=
 PE.of (a6z ho ha hb) fun σ H Q ι ρ M d M' S R e q=>by rw[MW.asi] at e;obtain⟨x,M1,e1,e⟩:=dz e;obtain⟨y,M2,e2,e⟩:=dz e;exact two S R e1 e2 fun U H2 v u le S2 _ rv ru=>⟨U,M2,x,y,d,M',S2,rv,ru,e,fun G H' w Xp S' r=>q G H' w (le.trans Xp) S' r⟩
def a75:De X (binaryOp .Sub) (rOp nm X.K (MW.Fy .sub)) :=
 De.of a0b λv u H Q Z M x y d M' S U G e q=>by obtain⟨i,j,rfl,rfl,R⟩:=MW.afq e (by intro z;cases z);cases U;cases G;cases R;exact⟨_,_,rfl,rfl,q Z H _ (Le.refl _ _) S (.int _)⟩
def auh{g:Int->Int->Int}{P:Int->Int->Prop}[∀i j,Decidable (P i j)](h:De X (binaryOp op) r)(hb:∀x y M,MW.Fy G x y M=MW.ii x y (λi j=>if P i j then .ok (.int (g i j)) M else .bad) .bad)(w:∀i j H Q,P i j->Q (.int (g i j)) H->r (.int i) (.int j) H Q):De X (binaryOp op) (rOp nm X.K (MW.Fy G)) :=
 De.of h λv u H Q R M x y d M' S rv ru e q=>by
  rw[hb] at e;obtain⟨i,j,rfl,rfl,Z⟩:=MW.afq e (by intro z;cases z)
  by_cases U:P i j
  .rw[cj U] at Z
   cases rv;cases ru;cases Z;exact w i j H Q U (q R H _ (Le.refl _ _) S (.int _))
  .rw[bx U] at Z;cases Z
def a76:De X (binaryOp .Mod) (rOp nm X.K (MW.Fy .mod)):=auh a0d (λ_ _ _=>rfl) λi j H Q h q=>⟨_,_,rfl,rfl,h,q⟩
def a0x:De X (binaryOp .FloorDiv) (rOp nm X.K (MW.Fy .fdiv)):=auh atq (λ_ _ _=>rfl) λi j H Q h q=>⟨_,_,rfl,rfl,h,q⟩
def a77:De X (binaryOp .Pow) (rOp nm X.K (MW.Fy .pow)):=auh a0e (λ_ _ _=>rfl) λi j H Q h q=>⟨_,_,rfl,rfl,⟨h.1,by omega,h.2.2⟩,q⟩
set_option tactic.hygienic true in
def uv{X:Cx}(S:lz nm X.K ι H M)(r:Rep X.K ι H d v)(h:MW.fu M d=some ds):∃p vs,v=.ref p/\H p=some (.lst vs)/\my X.K ι H ds vs:=by
 cases r with
 |vl e n r=>simp[MW.fu] at h;subst h;exact⟨_,_,rfl,e,r⟩
 |ref e =>
  rename_i n p;simp only[MW.fu] at h;split at h<;>simp at h;rename_i J G;subst h;obtain⟨vs,Y,Z⟩:=S.obj n _ p G e;exact⟨p,vs,rfl,Y,Z⟩
 |_=>simp[MW.fu] at h
def Fi{X:Cx}(S:lz nm X.K ι H M)(r:Rep X.K ι H d v)(h:MW.wz M d=some ds):∃p vs,v=.ref p/\(H p=some (.lst vs)\/H p=some (.tup vs))/\my X.K ι H ds vs:=by
 cases r with
 |tup e r=>simp[MW.wz] at h;subst h;exact⟨_,_,rfl,.inr e,r⟩
 |vl e n r =>
  obtain⟨p,vs,U,Z,G⟩:=uv S (.vl e n r) (show MW.fu M _=_ from h);exact⟨p,vs,U,.inl Z,G⟩
 |ref e =>
  obtain⟨p,vs,U,Z,G⟩:=uv S (.ref e) (show MW.fu M _=_ from h);exact⟨p,vs,U,.inl Z,G⟩
 |_=>simp[MW.wz,MW.fu] at h
def aa7{X:Cx}(S:lz nm X.K ι H M)(hp:H p=none)(r:my X.K ι H ds vs):lz nm X.K ι (upd H p (.lst vs)) M/\Le ι H ι (upd H p (.lst vs))/\Rep X.K ι (upd H p (.lst vs)) (.vl ds) (.ref p):=by obtain⟨Z,le⟩:=S.laid hp (.lst vs);exact⟨Z,le,.vl yg (S.fresh hp) (r.mono le)⟩
def Ox{X:Cx}(S:lz nm X.K ι H M)(hp:H p=none)(r:my X.K ι H ds vs):lz nm X.K ι (upd H p (.tup vs)) M/\Le ι H ι (upd H p (.tup vs))/\Rep X.K ι (upd H p (.tup vs)) (.tup ds) (.ref p):=by obtain⟨Z,le⟩:=S.laid hp (.tup vs);exact⟨Z,le,.tup yg (r.mono le)⟩
def Vm{X:Cx}(S:lz nm X.K ι H M)(hp:H p=none)(r:my X.K ι H ds vs):lz nm X.K (ι.add p) (upd H p (.lst vs)) (M++[.lst ds])/\Le ι H (ι.add p) (upd H p (.lst vs))/\Rep X.K (ι.add p) (upd H p (.lst vs)) (.ref M.length) (.ref p):=by
 obtain⟨Z,le⟩:=S.new (H':=upd H p (.lst vs)) (o:=.lst ds) hp (λa u e=>by rw[kh (lq e hp)];exact e) λle=>⟨vs,yg,r.mono le⟩
 exact⟨Z,le,.ref (by show(ι.l++[p])[M.length]?=some p;rw[<- S.len];simp)⟩
def Rx:(100000:Nat)<=sizeLine:=by decide
set_option tactic.hygienic true in
def aui(h:MW.Fy .add x y M=.ok d M'):(∃i j,x=.int i/\y=.int j/\d=.int (i+j)/\M'=M) \/
 (∃xs ys,x=.tup xs/\y=.tup ys/\xs.length+ys.length<=100000/\d=.tup (xs++ys)/\M'=M) \/
 ∃xs ys,MW.fu M x=some xs/\MW.fu M y=some ys/\xs.length+ys.length<=100000/\d=.vl (xs++ys)/\M'=M:=by
 have h:MW.ab9 x y M=.ok d M':=h;unfold MW.ab9 at h;split at h<;>try cases h
 .exact .inl ⟨_,_,rfl,rfl,rfl,rfl⟩
 .split at h<;>cases h
  rename_i J;exact .inr (.inl ⟨_,_,rfl,rfl,J,rfl,rfl⟩)
 .split at h
  .split at h<;>cases h
   rename_i G Z Y;exact .inr (.inr ⟨_,_,G,Z,Y,rfl,rfl⟩)
  .cases h
def a78:De X (binaryOp .Mult) (rOp nm X.K (MW.Fy .mul)):=auh a0c (λ_ _ _=>rfl) λi j H Q h q=>⟨_,_,rfl,rfl,h,q⟩
def a79:De X (binaryOp .Add) (rOp nm X.K (MW.Fy .add)) :=
 De.of (a0a.or (aot.or at9)) λv u H Q ι M x y d M' S rv ru e q=>by
  have U:∀R ys,MW.fu M x=some R->MW.fu M y=some ys->R.length+ys.length<=100000->d=.vl (R++ys)->M'=M->a7v v u H Q:=λR ys h1 h2 hl hd hm=>by
   subst hd hm;obtain⟨p,vs,rfl,e1,G⟩:=uv S rv h1;obtain⟨p2,qq,rfl,e2,Z⟩:=uv S ru h2;refine⟨p,p2,vs,qq,rfl,rfl,e1,e2,?_,λp3 h3=>?_⟩
   .rw[<- G.length,<- Z.length];exact ie hl Rx
   .obtain⟨a,b,c⟩:=aa7 S h3 (G.append Z)
    exact q ι _ _ b a c
  rcases aui e with⟨i,j,rfl,rfl,rfl,rfl⟩|⟨R,ys,rfl,rfl,hl,rfl,rfl⟩|⟨R,ys,h1,h2,hl,h3,h4⟩
  .cases rv;cases ru
   exact .inl ⟨_,_,rfl,rfl,q ι H _ (Le.refl _ _) S (.int _)⟩
  .cases rv with
   |tup e1 G =>
    cases ru with
    |tup e2 Z =>
     refine .inr (.inr ⟨_,_,_,_,rfl,rfl,J5.of e1,J5.of e2,?_,λhn=>?_,λhn=>?_,λp hp=>?_⟩)
     .rw[<- G.length,<- Z.length];exact ie hl Rx
     .have:=G.length
      rw[hn] at this;rw[qg.mp this,yx] at q;exact q ι H _ (Le.refl _ _) S (.tup e2 Z)
     .have:=Z.length
      rw[hn] at this;rw[qg.mp this,yd] at q;exact q ι H _ (Le.refl _ _) S (.tup e1 G)
     .obtain⟨a,b,c⟩:=Ox S hp (G.append Z)
      exact q ι _ _ b a c
  .exact .inr (.inl (U _ _ h1 h2 hl h3 h4))
def auj{t:TE}(h:PT X a (fun Z H Q=>t Z H λx H1=>∃c,x=.bl c/\Q c H1))(w:∀Z H Q,tE nm W X.K a' Z H Q->t Z H Q):PT X a (tQ nm W X.K a') :=
 PT.of h fun Z H Q ι ρ M b M' S R e q=>w Z H _ ⟨ι,ρ,M,_,M',S,R,e,fun G H' v le U r=>by cases r;exact⟨b,rfl,q G H' le U⟩⟩
def a8a(h:PE X a (tE nm W X.K U))(G:∀Z,isTrue a X.env Z=(do let v <- Z;standAt a.pos;holding [v] (truthy v))):PT X a (tQ nm W X.K U) :=
 auj (azs h G) λ_ _ _ q=>q
def Xq(nm:Nm)(K:Fg)(op:Cp):R2:=λv u H Q=>∃Z M x y b,lz nm K Z H M/\Rep K Z H x v/\Rep K Z H y u/\MW.Lw op x y M=some b/\Q (.bl b) H
def adm{X:Cx}:∀U H Q,tE nm W X.K (.cmp G a' b') U H Q->tOp (Xq nm X.K G) (tE nm W X.K a') (tE nm W X.K b') U H Q:=fun U H Q hh=>by obtain⟨ι,ρ,M,d,M',S,R,e,q⟩:=hh;rw[MW.asl] at e;obtain⟨x,M1,e1,e⟩:=dz e;obtain⟨y,M2,e2,e⟩:=dz e;obtain⟨e,rfl⟩:=yj e;obtain⟨b,e3,rfl⟩:=cg.mp e;exact two S R e1 e2 fun Z H2 v u le S2 _ rv ru=>⟨Z,M',x,y,b,S2,rv,ru,e3,q Z H2 _ le S2 (.bl b)⟩
def a8b(ho:De X (compareOp op) (Xq nm X.K Z))(G:PE X a (tE nm W X.K R))(U:PE X b (tE nm W X.K b'))(hm:behindInMarks op b=false):PE X (.Compare a [op] [b] pos) (tE nm W X.K (.cmp Z R b')) :=
 PE.weak (atr ho G U hm) adm
def a8c(ho:De X (compareOp op) (Xq nm X.K Z))(R:PE X a (tE nm W X.K G))(hb:PE X b (tE nm W X.K U))(hm:behindInMarks op b=false):PT X (.Compare a [op] [b] pos) (tQ nm W X.K (.cmp Z G U)) :=
 auj (t:=tOp (Xq nm X.K Z) (tE nm W X.K G) (tE nm W X.K U)) (atu ho R hb hm) adm
def Wn{X:Cx}:∀σ H Q,tE nm W X.K (.chain op1 op2 a' b' c') σ H Q->aax (Xq nm X.K op1) (Xq nm X.K op2) (tE nm W X.K a') (tE nm W X.K b') (tE nm W X.K c') σ H Q:=fun σ H Q hh=>by
 obtain⟨ι,ρ,M,d,M',S,R,e,q⟩:=hh;rw[MW.ajh] at e;obtain⟨x,M1,e1,e⟩:=dz e;obtain⟨y,M2,e2,e⟩:=dz e;obtain⟨k,Z,e3,e⟩:=dz e;obtain⟨e3,rfl⟩:=yj e3;refine two S R e1 e2 fun U H2 v u le S2 R2 rv ru=>⟨U,Z,x,y,k,S2,rv,ru,e3,k,rfl,?_⟩
 cases k with
 |false =>
  have e:Res.ok (MW.D.bl false) Z=.ok d M':=e;cases e;exact q U H2 _ le S2 (.bl false)
 |true =>
  have e:((c'.den W ρ Z).bind λz M3=>Res.wj ((MW.Lw op2 y z M3).map MW.D.bl) M3)=.ok d M':=e;obtain⟨z,M3,e4,e⟩:=dz e;obtain⟨e,rfl⟩:=yj e;obtain⟨b,e5,rfl⟩:=cg.mp e;show tE nm W X.K c' σ H2 _;exact one S2 R2 e4 fun G H3 w Za S3 _ rw=>⟨G,M',y,z,b,S3,ru.mono Za,rw,e5,q G H3 _ (le.trans Za) S3 (.bl b)⟩
def auk(h1:De X (compareOp Z) (Xq nm X.K op1))(h2:De X (compareOp G) (Xq nm X.K op2))(U:PE X a (tE nm W X.K a'))(R:PE X b (tE nm W X.K b'))(hc:PE X c (tE nm W X.K c'))(hm:lastMarks [Z,G] [b,c]=false) :
 PE X (.Compare a [Z,G] [b,c] pos) (tE nm W X.K (.chain op1 op2 a' b' c')):=PE.weak (aoa h1 h2 U R hc hm) Wn
def aul(h1:De X (compareOp G) (Xq nm X.K op1))(h2:De X (compareOp R) (Xq nm X.K op2))(ha:PE X a (tE nm W X.K Z))(hb:PE X b (tE nm W X.K b'))(hc:PE X c (tE nm W X.K U))(hm:lastMarks [G,R] [b,c]=false) :
 PT X (.Compare a [G,R] [b,c] pos) (tQ nm W X.K (.chain op1 op2 Z b' U)):=auj (t:=aax (Xq nm X.K op1) (Xq nm X.K op2) (tE nm W X.K Z) (tE nm W X.K b') (tE nm W X.K U)) (aob h1 h2 ha hb hc hm) Wn
def aa8(h:De X (compareOp op) (rI0 λi j=>.bl (f i j)))(e:∀x y M,MW.Lw Z x y M=MW.aca f x y):De X (compareOp op) (Xq nm X.K Z) :=
 De.weak h λv u H Q U=>by obtain⟨ι,M,x,y,b,S,rv,R,G,q⟩:=U;rw[e] at G;obtain⟨i,j,rfl,rfl,e2⟩:=MW.afq G (by intro z;cases z);cases rv;cases R;cases e2;exact⟨_,_,rfl,rfl,q⟩
def bev:De X (compareOp .Lt) (Xq nm X.K .lt):=aa8 a69 λ_ _ _=>rfl
def bew:De X (compareOp .LtE) (Xq nm X.K .le):=aa8 a7a λ_ _ _=>rfl
def bex:De X (compareOp .Gt) (Xq nm X.K .gt):=aa8 a7b λ_ _ _=>rfl
def bey:De X (compareOp .GtE) (Xq nm X.K .ge):=aa8 a7c λ_ _ _=>rfl
set_option tactic.hygienic true in
def axp{rest:X0}(C:PE X a (tE nm W X.K a'))(u:PE X (.BoolOp .And (b::rest) pos) (tE nm W X.K b')):PE X (.BoolOp .And (a::b::rest) pos) (tE nm W X.K (.and a' b')) :=
 PE.of (azw C u) fun σ H Q ι ρ M d M' S R e q=>by
  rw[MW.aha] at e;obtain⟨x,M1,y,e⟩:=dz e;refine one S R y fun Z U v le G J r=>?_
  cases r<;>try cases e
  rename_i k;refine⟨k,rfl,?_⟩;cases k with
  |false=>cases e;exact q Z U _ le G (.bl false)|true=>exact one G J e fun Y H2 w Ak L _ r2=>q Y H2 w (le.trans Ak) L r2
set_option tactic.hygienic true in
def a8d{rest:X0}(C:PE X a (tE nm W X.K a'))(u:PE X (.BoolOp .Or (b::rest) pos) (tE nm W X.K b')):PE X (.BoolOp .Or (a::b::rest) pos) (tE nm W X.K (.or a' b')) :=
 PE.of (a6o C u) fun σ H Q ι ρ M d M' S R e q=>by
  rw[MW.ame] at e;obtain⟨x,M1,y,e⟩:=dz e;refine one S R y fun Z U v le G J r=>?_
  cases r<;>try cases e
  rename_i k;refine⟨k,rfl,?_⟩;cases k with
  |true=>cases e;exact q Z U _ le G (.bl true)|false=>exact one G J e fun Y H2 w Ak L _ r2=>q Y H2 w (le.trans Ak) L r2
def a8e(G:PE X a (tE nm W X.K a')):PE X (.UnaryOp .Not a pos) (tE nm W X.K (.not a')) :=
 PE.of (azx G) fun σ H Q ι ρ M d M' S R e q=>by
  rw[MW.ahb] at e;obtain⟨x,M1,U,e⟩:=dz e;refine one S R U fun Z H1 v le S1 R1 r=>?_
  cases r<;>try cases e
  exact⟨_,rfl,q Z H1 _ le S1 (.bl _)⟩
def X5{X:Cx}{M1:cz}(S:lz nm X.K ι H M)(R:v9 X.K ι H ρ σ)(ha:a'.den W ρ M=.ok (.bl k) M1)(h:∀Z U,Le ι H Z U->lz nm X.K Z U M1->v9 X.K Z U ρ σ->G k U):tQ nm W X.K a' σ H G :=
 ⟨ι,ρ,M,k,M1,S,R,ha,fun qq H' le S'=>h qq H' le S' (R.mono le)⟩
set_option tactic.hygienic true in
def axq{rest:X0}(C:PT X a (tQ nm W X.K a'))(u:PW X (.BoolOp .And (b::rest) pos) (tQ nm W X.K b')):PW X (.BoolOp .And (a::b::rest) pos) (tQ nm W X.K (.and a' b')) :=
 λZ Y s σ H Q I ⟨ι,ρ,M,d,M',S,R,e,q⟩=>azu C u Z Y s σ H Q I (by
  rw[MW.aha] at e;obtain⟨x,M1,y,e⟩:=dz e;cases x<;>try cases e
  rename_i k;refine X5 S R y fun G H1 le U R1=>?_
  cases k with
  | false=>cases e;exact q G H1 le U|true=>exact X5 U R1 e fun J H2 Ak L _=>q J H2 (le.trans Ak) L)
set_option tactic.hygienic true in
def a8f{rest:X0}(C:PT X a (tQ nm W X.K a'))(u:PW X (.BoolOp .Or (b::rest) pos) (tQ nm W X.K b')):PW X (.BoolOp .Or (a::b::rest) pos) (tQ nm W X.K (.or a' b')) :=
 λZ Y s σ H Q I ⟨ι,ρ,M,d,M',S,R,e,q⟩=>a6l C u Z Y s σ H Q I (by
  rw[MW.ame] at e;obtain⟨x,M1,y,e⟩:=dz e;cases x<;>try cases e
  rename_i k;refine X5 S R y fun G H1 le U R1=>?_
  cases k with
  | true=>cases e;exact q G H1 le U|false=>exact X5 U R1 e fun J H2 Ak L _=>q J H2 (le.trans Ak) L)
def a8g(G:PT X a (tQ nm W X.K a')):PT X (.UnaryOp .Not a pos) (tQ nm W X.K (.not a')) :=
 PT.of (azv G) fun σ H Q ι ρ M d M' S R e q=>by
  rw[MW.ahb] at e;obtain⟨x,M1,U,e⟩:=dz e;cases x<;>try cases e
  exact X5 S R U fun Z H1 le S1 R1=>q Z H1 le S1
set_option tactic.hygienic true in
def a8h(hc:PT X c (tQ nm W X.K y))(ha:PE X a (tE nm W X.K a'))(hb:PE X b (tE nm W X.K b')):PE X (.IfExp c a b pos) (tE nm W X.K (.ite y a' b')) :=
 PE.of (ano hc ha hb) fun σ H Q ι ρ M d M' S R e q=>by
  rw[MW.asm] at e;obtain⟨x,M1,e1,e⟩:=dz e;cases x<;>try cases e
  rename_i k;refine X5 S R e1 fun u H1 le L C=>?_
  cases k with
  |true=>exact one L C e fun Z J w G Y _ U=>q Z J w (le.trans G) Y U
  |false=>exact one L C e fun Z J w G Y _ U=>q Z J w (le.trans G) Y U
def Pk:PA X [] (Vd nm W X.K .nil):=PA.of a0j fun U H Q Z G M ds M' S R e q=>by rw[MW.Ly] at e;cases e;exact q Z H _ (Le.refl _ _) S .nil
def Wo{X:Cx}{M1:cz}(S:lz nm X.K ι H M)(R:v9 X.K ι H ρ σ)(ha:es'.den W ρ M=.ok ds M1)(h:∀Z U vs,Le ι H Z U->lz nm X.K Z U M1->v9 X.K Z U ρ σ->my X.K Z U ds vs->G vs U):Vd nm W X.K es' σ H G :=
 ⟨ι,ρ,M,ds,M1,S,R,ha,fun qq H' v le S' r=>h qq H' v le S' (R.mono le) r⟩
def Jf(ha:PE X a (tE nm W X.K a'))(hr:PA X es (Vd nm W X.K es'))(hs:starEach (a::es) X.env=(false,eval a X.env)::starEach es X.env):PA X (a::es) (Vd nm W X.K (.cons a' es')) :=
 PA.of (atx ha hr hs) fun σ H Q ι ρ M ds M' S R e q=>by rw[MW.G4] at e;obtain⟨x,M1,e1,e⟩:=dz e;obtain⟨xs,M2,e2,e⟩:=dz e;cases e;exact one S R e1 fun qq H1 v le S1 U r1=>Wo S1 U e2 fun Z H2 vs G S2 R2 r2=>q Z H2 _ (le.trans G) S2 (.cons (r1.mono G) r2)
noncomputable def Dg.len:Dg->Nat
 |.nil=>0|.cons _ r=>Dg.len r+1
theorem Fz{W:G5}:∀{es':Dg}{ρ:En}{M M1:cz}{ds:List Dv},es'.den W ρ M=.ok ds M1->ds.length=Dg.len es'
 |.nil,_,_,_,_,e=>by rw[MW.Ly] at e;cases e;rfl
 |.cons _ r,_,_,_,_,e=>by
  rw[MW.G4] at e;obtain⟨x,M1,G,e⟩:=dz e;obtain⟨R,U,Z,e⟩:=dz e;cases e;rw[gm,Fz Z];rfl
def a8i(h:PA X es (Vd nm W X.K es'))(hl:Dg.len es'<=1000):PE X (.Tuple es k pos) (tE nm W X.K (.tup es')) :=
 PE.of (a0k h) fun σ H Q ι ρ M d M' S R e q=>by
  rw[MW.asn] at e;obtain⟨ds,M1,G,e⟩:=dz e;cases e;refine Wo S R G fun Z H1 vs le S1 R1 r=>⟨?_,λp hp=>?_⟩
  .rw[<- r.length,Fz G];exact ie hl (by decide)
  .obtain⟨S2,Ak,U⟩:=Ox S1 hp r
   exact q Z _ _ (le.trans Ak) S2 U
def a00(h:PA X es (Vd nm W X.K es'))(hl:Dg.len es'<=1000):PE X (.List es pos) (tE nm W X.K (.Ia es')) :=
 PE.of (aoe h) fun σ H Q ι ρ M d M' S R e q=>by
  rw[MW.amf] at e;obtain⟨ds,M1,G,e⟩:=dz e;cases e;refine Wo S R G fun Z H1 vs le S1 R1 r=>⟨?_,λp hp=>?_⟩
  .rw[<- r.length,Fz G];exact ie hl (by decide)
  .obtain⟨S2,Ak,U⟩:=aa7 S1 hp r
   exact q Z _ _ (le.trans Ak) S2 U
def a8j(h:PA X es (Vd nm W X.K es'))(hl:Dg.len es'<=1000):PE X (.List es pos) (tE nm W X.K (.lst es')) :=
 PE.of (aoe h) fun σ H Q ι ρ M d M' S R e q=>by
  rw[MW.aso] at e;obtain⟨ds,M1,Z,e⟩:=dz e;cases e;refine Wo S R Z fun G H1 vs le S1 R1 r=>⟨?_,λp hp=>?_⟩
  .rw[<- r.length,Fz Z];exact ie hl (by decide)
  .obtain⟨S2,Ak,U⟩:=Vm S1 hp r
   exact q _ _ _ (le.trans Ak) S2 U
def a8k(G:PE X a (tE nm W X.K a')):PE X (.UnaryOp .USub a pos) (tE nm W X.K (.neg a')) :=
 PE.of (a65 a0f G) fun σ H Q ι ρ M d M' S R e q=>by
  rw[MW.asj] at e;obtain⟨x,M1,U,e⟩:=dz e;refine one S R U fun Z H1 v le S1 R1 r=>?_
  cases r<;>try cases e
  exact⟨_,rfl,q Z H1 _ le S1 (.int _)⟩
open PyProof.Rows (subscriptTail)
section
variable{κ:Type}[DecidableEq κ]{K:Fg}{ι:Io}{H:Hp}
theorem uh.length{κ Z:Type}{f:κ->Z->Prop}:∀{l:List (κ×Dv)}{G:List (Z×V)},uh K ι H f l G->l.length=G.length
 |_,_,.nil=>rfl|_,_,.cons _ _ t=>by rw[gm,gm,uh.length t]
theorem uh.look{k:κ}:∀{G:List (κ×Dv)}{l:List (κ×V)},uh K ι H (λk k'=>k=k') G l->(∀d,MW.xu G k=some d->∃v,Rt l k=some v/\Rep K ι H d v)/\(MW.xu G k=none->Rt l k=none)
 |_,_,.nil=>⟨λd h=>by simp[MW.xu] at h,λ_=>rfl⟩
 |_,_,.cons (k:=q) (k':=q') hk h t=>by
  subst hk;obtain⟨a,b⟩:=uh.look (k:=k) t
  by_cases e:q=k
  .refine⟨λd Z=>?_,λZ=>?_⟩
   .simp[MW.xu,t7,e] at Z
    subst Z;exact⟨_,Ru e,h⟩
   .simp[MW.xu,t7,e] at Z
  .have z:∀(d:Dv) r,MW.xu ((q,d)::r) k=MW.xu r k:=λd r=>by simp[MW.xu,t7,e]
   rw[z,Rv (by exact e)];exact⟨a,b⟩
theorem uh.any{k:κ}:∀{G:List (κ×Dv)}{l:List (κ×V)},uh K ι H (λk k'=>k=k') G l->(G.any λZ=>decide (Z.1=k))=(l.any λZ=>decide (Z.1=k))
 |_,_,.nil=>rfl|_,_,.cons hk h t=>by subst hk;simp only[List.any_cons,uh.any t]
theorem uh.Hw{k:κ}{d:Dv}{v:V}(r:Rep K ι H d v):∀{G:List (κ×Dv)}{l:List (κ×V)},uh K ι H (λk k'=>k=k') G l ->
 uh K ι H (λk k'=>k=k') (G.map λZ=>if Z.1=k then(Z.1,d) else Z) (l.map λZ=>if Z.1=k then(Z.1,v) else Z)
 |_,_,.nil=>.nil
 |_,_,.cons (k:=q) hk h t=>by
  subst hk;simp only[ig]
  by_cases e:q=k
  .simp only[e,jn];exact .cons rfl r (uh.Hw r t)
  .simp only[e,ik];exact .cons rfl h (uh.Hw r t)
theorem uh.snoc{κ Z:Type}{f:κ->Z->Prop}{k:κ}{k':Z}{d:Dv}{v:V}(G:f k k')(r:Rep K ι H d v):∀{l:List (κ×Dv)}{U:List (Z×V)},uh K ι H f l U->uh K ι H f (l++[(k,d)]) (U++[(k',v)])
 |_,_,.nil=>.cons G r .nil|_,_,.cons q h t=>.cons q h (uh.snoc G r t)
def uh.put{k:κ}(r:Rep K ι H d v)(t:uh K ι H (λk k'=>k=k') Z l):uh K ι H (λk k'=>k=k') (MW.Dd Z k d) (putK l k v):=by
 unfold MW.Dd putK;rw[t.any (k:=k)]
 by_cases e:(l.any λG=>decide (G.1=k))=true
 .rw[cj e,cj e];exact t.Hw r
 .rw[bx e,bx e];exact t.snoc rfl r
theorem uh.fld{nm:Nm}{f:Nat}:∀{fs:List (Nat×Dv)}{l:List (Str×V)},uh K ι H (λk k'=>k'=nm.fld k) fs l->(∀d,fs.lookup f=some d->∃v,l.lookup (nm.fld f)=some v/\Rep K ι H d v)/\(fs.lookup f=none->l.lookup (nm.fld f)=none)
 |_,_,.nil=>⟨λd h=>by simp at h,λ_=>rfl⟩
 |_,_,.cons (k:=q) (k':=q') hk h t=>by
  subst hk;obtain⟨a,b⟩:=uh.fld (nm:=nm) (f:=f) t;rw[o6,o6]
  by_cases e:f=q
  .subst e
   simp only[zq];exact⟨λd Z=>by cases Z;exact⟨_,rfl,h⟩,λZ=>by cases Z⟩
  .have G:(f==q)=false:=by simpa using e
   have U:(nm.fld f==nm.fld q)=false:=by
    cases z:nm.fld f==nm.fld q with
    |false=>rfl|true=>exact absurd (nm.inj _ _ (eq_of_beq z)) e
   rw[G,U];exact⟨a,b⟩
theorem uh.Ie{nm:Nm}{f:Nat}{d:Dv}{v:V}(r:Rep K ι H d v):∀{fs:List (Nat×Dv)}{l:List (Str×V)},uh K ι H (λk k'=>k'=nm.fld k) fs l->uh K ι H (λk k'=>k'=nm.fld k) (MW.Uj f d fs) (L2.Ie (nm.fld f) v l)
 |_,_,.nil=>.cons rfl r .nil
 |_,_,.cons (k:=q) (k':=q') hk h t=>by
  subst hk;unfold MW.Uj L2.Ie
  by_cases e:q=f
  .subst e
   simp only[jn];exact .cons rfl r t
  .have Z:¬nm.fld q=nm.fld f:=λz=>e (nm.inj _ _ z)
   rw[bx e,bx Z];exact .cons rfl h (uh.Ie r t)
def T7(r:Rep K ι H d v)(h:MW.Te d=some k):v=kV k:=by cases r<;>simp[MW.Te] at h<;>subst h<;>rfl
set_option tactic.hygienic true in
theorem ao1:∀{ds:List Dv}{vs:List V}{ks:List Kx},my K ι H ds vs->MW.Z5 ds=some ks->vs=ks.map kV
 |_,_,_,.nil,h=>by simp[MW.Z5] at h;subst h;rfl
 |_,_,_,.cons r t,h=>by
  simp only[MW.Z5] at h;split at h
  .rename_i k Y G Z
   cases h;rw[T7 r G,ao1 t Z];rfl
  .cases h
def Wq(r:Rep K ι H d v)(h:MW.Tf d=some ks):∃b,v=.ref b/\H b=some (.tup (ks.map kV)):=by
 cases r with
 |tup e r=>exact⟨_,rfl,by rw[<- ao1 r h];exact e⟩|_=>simp[MW.Tf] at h
end
def bez(nm:Nm)(K:Fg):R2:=λv u H Q=>∃Z M x y d,lz nm K Z H M/\Rep K Z H x v/\Rep K Z H y u/\MW.Aw x y M=some d/\∀w,Rep K Z H d w->Q w H
def ao2(hu:X.A.units+1<cLine):IxR X (λx y H Q=>∃a v,x=.ref a/\Oc H a y (some v)/\Q v H):=by intro G Z U s σ H x y v u Q I R ry h hs;obtain⟨p,z,rfl,g,q⟩:=h;cases R;exact PyProof.Rows.tail_any (ade I g) PySem.F.slot_dict_getitem.lookup (aka hu I g ry λw' s' I' r=>⟨z,H,I',r,q⟩) hs
set_option tactic.hygienic true in
def a01(hu:X.A.units+1<cLine):IxR X (bez nm X.K):=by
 intro Y Z G s σ H v u v' u' Q I rv ru ⟨ι,M,x,y,d,S,rx,ry,e,q⟩ hs;have C:∀(p:Addr)(U:List V)(ds:List Dv),v=.ref p->(Gw X.K H p U\/J5 X.K H p U)->my X.K ι H ds U->(match y with|.int i=>(MW.V1 ds.length i).bind λj=>ds[j]?|_=>none)=some d ->
  wpAny (model X.prog X.w) X.A (subscriptTail Y Z v' u') (EP X G σ Q) X.xe s:=λp U ds hv hq r e=>by
  subst hv;obtain⟨i,qk⟩:∃i,y=.int i:=by cases y<;>first|exact⟨_,rfl⟩|cases e
  subst qk;cases ry;obtain⟨j,J,e2⟩:=dm.mp e;obtain⟨z,R,L⟩:=r.get e2;have qq:atI U i=some z:=by unfold atI;rw[show ixN U.length i=some j from by rw[<- r.length];exact J];exact R
  rcases hq with hq|hq
  .exact L2.Cy Y Z G s σ H _ _ v' u' Q I rv ru ⟨p,U,i,z,rfl,rfl,hq,qq,q z L⟩ hs
  .exact L2.Iw Y Z G s σ H _ _ v' u' Q I rv ru ⟨p,U,i,z,rfl,rfl,hq,qq,q z L⟩ hs
 cases rx with
 |tup J r1=>exact C _ _ _ rfl (.inr (J5.of J)) r1 (by cases ry<;>first|exact e|(simp[MW.Aw,MW.wz] at e))
 |vl J n1 r1=>exact C _ _ _ rfl (.inl (Gw.of J)) r1 (by cases ry<;>first|exact e|(simp[MW.Aw,MW.wz,MW.fu] at e))
 |fz J r1=>exact C _ _ _ rfl (.inl J.sq) r1 (by cases ry<;>first|exact e|(simp[MW.Aw] at e))
 |ref J =>
  rename_i n p;simp only[MW.Aw] at e;split at e
  .rename_i iu hn
   obtain⟨l,R,L⟩:=S.obj n _ p hn J;obtain⟨k,e2,e3⟩:=dm.mp e;obtain⟨z,h3,h4⟩:=(L.look (k:=k)).1 d e3;obtain⟨b,rfl,hb⟩:=Wq ry e2;exact ao2 hu Y Z G s σ H _ _ v' u' Q I rv ru ⟨p,z,rfl,by rw[<- h3];exact Oc.t R hb,q z h4⟩ hs
  .rename_i iu hn
   obtain⟨l,R,L⟩:=S.obj n _ p hn J;obtain⟨k,e2,e3⟩:=dm.mp e;obtain⟨z,h3,h4⟩:=(L.look (k:=k)).1 d e3;have hy:=T7 ry e2;subst hy;exact ao2 hu Y Z G s σ H _ _ v' u' Q I rv ru ⟨p,z,rfl,by rw[<- h3];exact Oc.k R,q z h4⟩ hs
  .cases hl:MW.fu M (.ref n) with
   |none=>rw[hl] at e;cases e
   |some ds =>
    obtain⟨p',U,hp,R,L⟩:=uv S (.ref J) hl;cases hp;rw[hl] at e;exact C _ _ _ rfl (.inl (Gw.of R)) L (by cases ry<;>first|exact e|cases e)
 |_=>simp[MW.Aw,MW.wz,MW.fu] at e
def be0(hu:X.A.units+1<cLine)(U:PE X a (tE nm W X.K a'))(hb:PE X b (tE nm W X.K b'))(hs:aaz b):PE X (.Subscript a b pos) (tE nm W X.K (.ix a' b')) :=
 PE.of (a7r (a01 (nm:=nm) hu) U hb hs) fun σ H Q ι ρ M d M' S R e q=>by rw[MW.ayt] at e;obtain⟨x,M1,e1,e⟩:=dz e;obtain⟨y,M2,e2,e⟩:=dz e;obtain⟨e,rfl⟩:=yj e;exact two S R e1 e2 fun Z H2 v u le G _ rv ru=>⟨Z,M',x,y,d,G,rv,ru,e,λw r=>q Z H2 w le G r⟩
set_option tactic.hygienic true in
def a8l(L:n=nm.fld f)(G:∀c C,nm.cls c=some C->Cls X.K C/\Gn X.K C n)(u:PE X a (tE nm W X.K a'))(hb:attributeBase a n X.env (eval a X.env)=eval a X.env):PE X (.Attribute a n pos) (tE nm W X.K (.fld a' f)) :=
 PE.of (a0h u hb) fun σ H Q ι ρ M d M' S R e q=>by
  rw[MW.asq] at e;obtain⟨x,M1,e1,e⟩:=dz e;obtain⟨e,rfl⟩:=yj e;refine one S R e1 fun Z y v le J R1 r=>?_
  obtain⟨m,Y⟩:∃m,x=.ref m:=by cases x<;>first|exact⟨_,rfl⟩|cases e
  subst Y;obtain⟨p,rfl,hp⟩:∃p,v=.ref p/\Z.l[m]?=some p:=by cases r with|ref z=>exact⟨_,rfl,z⟩
  simp only[MW.Q5] at e;split at e
  .rename_i c fs hm
   obtain⟨C,dx,l,h1,h2,U⟩:=J.obj m _ p hm hp;obtain⟨z,h4,h5⟩:=(U.fld (nm:=nm) (f:=f)).1 d e;subst L;obtain⟨g1,g2⟩:=G c C h1;exact⟨p,C,dx,l,z,rfl,h2,g1,g2,h4,q Z y z le J h5⟩
  .cases e
open MW (Ex Dg OEx Qv Cm ph Lv Tg Res cz MO G5 Cp Op2 Blt Bm Kx Src)
noncomputable def T8:Expr->Bool
 |.ListComp ..=>false|.SetComp ..=>false|.DictComp ..=>false|_=>true
def Og(h:T8 e=true)(t:Option Expr)(l:Nat)(env:Env):swapsWith e t l env=pure false:=by cases e<;>first|rfl|(cases h)
noncomputable def Gv:Expr->Bool
 |.Set ..=>false|_=>true
def Ef(h:Gv e=true)(env:Env)(x:Value):foldedSetIterable e env x=pure x:=by cases e<;>first|rfl|(cases h)
def Uz(h:Gv e=true)(op:CmpOp):behindInMarks op e=false:=by cases e<;>first|rfl|(cases h)
noncomputable def axr:Expr->Bool
 |.Tuple ..=>false|_=>true
noncomputable def noStar:Expr->Bool
 |.Starred ..=>false|_=>true
def jz(h:noStar e=true)(es:X0)(env:Env):starEach (e::es) env=(false,eval e env)::starEach es env:=by cases e<;>first|rfl|(cases h)
noncomputable def aa9:Expr->Bool
 |.Slice ..=>false|_=>true
def ao3(h:aa9 e=true):aaz e:=by intro o i;cases e<;>first|rfl|(cases h)
noncomputable def Br:Tg->List Nat
 |.name i=>[i]|.names is=>is
def tGt(nm:Nm)(K:Fg)(t:Tg):TG:=λv R H Q=>∃U ρ M d G,lz nm K U H M/\v9 K U H ρ R/\Rep K U H d v/\t.put d ρ=some G/\∀Z,v9 K U H G Z->Z.length=R.length->(∀j,j∉Br t->Z[j]?=R[j]?)->Q Z H
def PG.weak(h:PG X tg t)(w:∀v Z H Q,t' v Z H Q->t v Z H Q):PG X tg t':=λG s Z H v u Q I r q=>h G s Z H v u Q I r (w v Z H Q q)
def PG.of(h:PG X tg t)(w:∀v G H Q ι ρ M d Z,lz nm X.K ι H M->v9 X.K ι H ρ G->Rep X.K ι H d v->tt.put d ρ=some Z->(∀σ',v9 X.K ι H Z σ'->σ'.length=G.length->(∀j,j∉Br tt->σ'[j]?=G[j]?)->Q σ' H)->t v G H Q):PG X tg (tGt nm X.K tt) :=
 PG.weak h λv G H Q z_=>by obtain⟨ι,ρ,M,d,Z,S,R,r,e,q⟩:=z_;exact w v G H Q ι ρ M d Z S R r e q
def a02(G:X.N.Nodup)(hi:X.N[i]?=some n)(Z:Loc X.env.scope n)(hf:X.fn n=true\/X.env.scope.names.lookup n=some .local):PG X (.Name n pos) (tGt nm X.K (.name i)) :=
 PG.of (aaw G hi Z hf) λv σ H Q ι ρ M d qq S R r e q=>by cases e;exact q _ (R.set r i) (by simp) λj U=>vq (λz=>U (by simp[Br,z]))
noncomputable def Kr:List Nat->List V->St->St
 |i::is,v::vs,σ=>Kr is vs (σ.set i (some v))|_,_,σ=>σ
theorem Wr{ι:Io}{H:Hp}{K:Fg}:∀{is:Yf}{ds:List Dv}{vs:List V}{ρ:En}{Z:St},v9 K ι H ρ Z->my K ι H ds vs->v9 K ι H (MW.Qc is ds ρ) (Kr is vs Z)
 |[],_,_,_,_,R,r=>by cases r<;>exact R|_::_,_,_,_,_,R,.nil=>R|i::is,_,_,_,_,R,.cons h t=>Wr (is:=is) (R.set h i) t
theorem Ry:∀{is:Yf}{vs:List V}{Z:St}{j:Nat},j∉is->(Kr is vs Z)[j]?=Z[j]?
 |[],vs,Z,j,_=>by cases vs<;>rfl|i::is,[],Z,j,_=>rfl
 |i::is,v::vs,Z,j,h=>by
  show(Kr is vs (Z.set i (some v)))[j]?=_;rw[Ry (λz=>h (bh _ z)),vq (λz=>h (by rw[z];exact dg))]
theorem U0:∀{is:Yf}{vs:List V}{Z:St},(Kr is vs Z).length=Z.length
 |[],vs,Z=>by cases vs<;>rfl|_::_,[],Z=>rfl|i::is,v::vs,Z=>by show(Kr is vs (Z.set i (some v))).length=_;rw[U0,List.length_set]
inductive Ks(X:Cx):List Expr->List Nat->Prop
 |nil:Ks X [] []
 |cons {n:Str} {p:Pos} {i:Nat} {ts:X0} {is:Yf} (hi:X.N[i]?=some n) (hx:Loc X.env.scope n) (hf:X.fn n=true\/X.env.scope.names.lookup n=some .local) (t:Ks X ts is):Ks X (.Name n p::ts) (i::is)
theorem adn{X:Cx}(hN:X.N.Nodup):∀{ts:X0}{is:Yf},Ks X ts is->PGs X ts (λvs G H Q=>vs.length=is.length/\Q (Kr is vs G) H)
 |_,_,.nil=>λZ s G H vs R Q I r q=>by
  obtain⟨U,h2⟩:=q;have hv:vs=[]:=qg.mp U;subst hv;exact atn Z s G H [] R Q I r ⟨rfl,h2⟩
 |_,_,.cons hi hx hf t=>λZ s G H vs R Q I r q=>by
  obtain⟨U,h2⟩:=q;cases vs with
  |nil=>simp at U|cons v vs=>exact anr (aaw hN hi hx hf) (adn hN t) (by rfl) Z s G H (v::vs) R Q I r ⟨v,vs,rfl,by simpa using U,h2⟩
theorem Fj{X:Cx}{env:Env}:∀{ts:X0}{is:Yf},Ks X ts is->(assignEach ts env).length=is.length/\(assignEach ts env).findIdx? (·.1)=none
 |_,_,.nil=>⟨rfl,rfl⟩
 |_,_,.cons hi hx hf t=>by
  obtain⟨Z,G⟩:=Fj (env:=env) t;refine⟨by simp[assignEach,Z],?_⟩;simp[assignEach,List.findIdx?_cons];simpa using G
set_option tactic.hygienic true in
def aum(L:X.calm=true)(J:X.N.Nodup)(h:Ks X ts is):PG X (.Tuple ts k pos) (tGt nm X.K (.names is)) :=
 PG.of (az2 L (adn J h) (Fj h).1 (Fj h).2) λv σ H Q y u M d C S R r e q=>by
  cases r with
  |tup G Z =>
   simp only[Tg.put] at e;split at e<;>cases e;rename_i Y;exact⟨_,_,rfl,J5.of G,by rw[<- Z.length];exact Y,by rw[<- Z.length];exact Y,q _ (Wr R Z) U0 λj U=>Ry U⟩
  |_=>simp[Tg.put] at e
def ao4(he:PE X a (tE nm W X.K a'))(hg:PG X tg (tGt nm X.K t))(hs:swapsWithSole [tg] a pos.line X.env=pure false)(hw:swappedStores [tg] a X.env=pure none)(h1:(assignEach [tg] X.env).map (·.2)=[assign tg X.env]) :
 PS X (.Assign [tg] a pos) (tS nm W X.K (.asg (.tg t) a')) :=
 PS.of (ant he hg hs hw h1) λD σ H ι ρ M fl U M' S R e q=>by rw[MW.Z7] at e;obtain⟨x,M1,e1,e⟩:=dz e;obtain⟨qq,M2,e2,e⟩:=dz e;cases e;rw[MW.amn] at e2;obtain⟨e3,e4⟩:=yj e2;subst e4;exact one S R e1 fun Z H1 v le S1 R1 r=>⟨Z,ρ,_,x,U,S1,R1,r,e3,fun G R' _ _=>q Z H1 G le S1 R'⟩
def a03(G:PE X a (tE nm W X.K a'))(hs:swapsWith a none pos.line X.env=pure false):PS X (.Expr a pos) (tS nm W X.K (.expr a')) :=
 PS.of (atm G hs) λD σ H ι ρ M fl qq M' S R e q=>by rw[MW.ass] at e;obtain⟨x,M1,U,e⟩:=dz e;cases e;exact one S R U fun Z H1 v le S1 R1 r=>q Z H1 σ le S1 R1
def a8m(G:PE X a (tE nm W X.K a')):PS X (.Return (some a) pos) (tS nm W X.K (.ret a')) :=
 PS.of (azz G) λD σ H ι ρ M fl qq M' S R e q=>by rw[MW.ayw] at e;obtain⟨x,M1,U,e⟩:=dz e;cases e;exact one S R U fun Z H1 v le S1 R1 r=>q Z H1 σ le S1 R1 v r
def a04:PS X (.Pass pos) (tS nm W X.K .pass) :=
 PS.of atl λD G H Z ρ M fl U M' S R e q=>by rw[MW.asv] at e;cases e;exact q Z H G (Le.refl _ _) S R
def a8n:PS X (.Break pos) (tS nm W X.K .brk) :=
 PS.of anq λD G H Z ρ M fl U M' S R e q=>by rw[MW.ayx] at e;cases e;exact q Z H G (Le.refl _ _) S R
def a05:PS X (.Continue pos) (tS nm W X.K .cont) :=
 PS.of ac9 λD G H Z ρ M fl U M' S R e q=>by rw[MW.asu] at e;cases e;exact q Z H G (Le.refl _ _) S R
def Wm.mono{X:Cx}(le:Le ι H U H')(q:Wm nm X.K D ι H fl ρ M):Wm nm X.K D U H' fl ρ M:=fun G H2 Z Ak R R2=>q G H2 Z (le.trans Ak) R R2
set_option tactic.hygienic true in
def a8o(hc:PT X c (tQ nm W X.K c'))(ht:Rr X ts (tSs nm W X.K J))(hf:Rr X fs (tSs nm W X.K G)):PS X (.If c ts fs pos) (tS nm W X.K (.iff c' J G)) :=
 PS.of (a6s hc ht hf) λD σ H ι y M fl Y u S R e q=>by
  rw[MW.ayv] at e;obtain⟨x,U,e1,e⟩:=dz e;cases x<;>try cases e
  rename_i k;refine X5 S R e1 fun Z H1 le C L=>?_
  cases k with
  |true=>exact⟨Z,y,U,fl,Y,u,C,L,e,q.mono le⟩|false=>exact⟨Z,y,U,fl,Y,u,C,L,e,q.mono le⟩
def a06:Rr X [] (tSs nm W X.K .nil):=Rr.of atk λD G H Z ρ M fl U M' S R e q=>by rw[MW.asw] at e;cases e;exact q Z H G (Le.refl _ _) S R
def aun{rest:List Stmt}(h1:PS X st (tS nm W X.K qk))(h2:Rr X rest (tSs nm W X.K rest')):Rr X (st::rest) (tSs nm W X.K (.cons qk rest')) :=
 Rr.of (anp h1 h2) λD σ H ι ρ M fl qv M' S R e q=>by
  rw[MW.amm] at e;obtain⟨⟨U,qq⟩,M1,e1,e⟩:=dz e;refine⟨ι,ρ,M,U,qq,M1,S,R,e1,fun Z H1 G le S1 R1=>?_⟩;cases U with
  |next=>exact⟨Z,qq,M1,fl,qv,M',S1,R1,e,q.mono le⟩|brk=>cases e;exact q Z H1 G le S1 R1|cont=>cases e;exact q Z H1 G le S1 R1|ret d=>cases e;exact q Z H1 G le S1 R1
set_option tactic.hygienic true in
def a8p(hp:PassesOwn (model X.prog X.w) X.A X.env X.xe)(hc:PT X c (tQ nm W X.K c'))(hb:Rr X body (tSs nm W X.K Ws)):PS X (.While c body [] pos) (tS nm W X.K (.whl c' Ws)) :=
 PS.of (anu hp hc hb) λD σ H ι ρ M fl q0 M' S R e q=>by
  rw[MW.Z8] at e;refine⟨λm y H1=>∃U C M1,Le ι H U H1/\lz nm X.K U H1 M1/\v9 X.K U H1 C y/\MW.Fp (c'.den W) (Ws.den W) m C M1=.ok (fl,q0) M',⟨MW.afs,ι,ρ,M,Le.refl _ _,S,R,e⟩,?_⟩;rintro m y H1 ⟨U,C,M1,T6,S1,R1,Y⟩;cases m with
  |zero=>cases Y
  |succ m =>
   simp only[MW.Fp] at Y;obtain⟨x,M2,e2,Y⟩:=dz Y;cases x<;>try cases Y
   rename_i k;refine X5 S1 R1 e2 fun qv H2 Ak S2 R2=>?_
   cases k with
   |false=>cases Y;exact q qv H2 y (T6.trans Ak) S2 R2
   |true =>
    obtain⟨⟨qk,u⟩,M3,e3,Y⟩:=dz Y;refine⟨fun G L=>∃Z qq M4,Le ι H Z L/\lz nm X.K Z L M4/\v9 X.K Z L qq G/\MW.Fp (c'.den W) (Ws.den W) m qq M4=.ok (fl,q0) M',fun G L h4=>⟨m,p8 _,h4⟩,qv,C,M2,qk,u,M3,S2,R2,e3,fun Z L G J S4 R4=>?_⟩;cases qk with
    |next=>exact⟨Z,u,M3,(T6.trans Ak).trans J,S4,R4,Y⟩|cont=>exact⟨Z,u,M3,(T6.trans Ak).trans J,S4,R4,Y⟩|brk=>cases Y;exact q Z L G ((T6.trans Ak).trans J) S4 R4|ret d=>cases Y;exact q Z L G ((T6.trans Ak).trans J) S4 R4
def ao5(nm:Nm)(K:Fg)(ι:Io)(H:Hp)(s:Src)(J:It):Prop:=∀Z G R,LeX ι H Z G->lz nm K Z G R ->
 (∀i d,i<s.len->s.item i R=some d->J.go i G/\∀v U,J.yld i G v U->Le Z G Z U/\lz nm K Z U R/\Rep K Z U d v)/\(s.fin R=true->J.stop s.len G)
def tI(nm:Nm)(W:G5)(K:Fg)(it:Qv):TI:=fun σ H R=>∃U ρ M s M',lz nm K U H M/\v9 K U H ρ σ/\it.den W ρ M=.ok s M'/\∀Z G J,Le U H Z G->lz nm K Z G M'->ao5 nm K Z G s J->R J G
set_option tactic.hygienic true in
def a8r(hp:PassesOwn (model X.prog X.w) X.A X.env X.xe)(hc:X.calm=true)(hi:PI X tg iter (tI nm W X.K it))(hg:PG X tg (tGt nm X.K t))(hb:Rr X body (tSs nm W X.K Ws))(hs:Gv iter=true):PS X (.For tg iter body [] pos) (tS nm W X.K (.for_ t it Ws)) :=
 PS.of (az6 hp hc hi hg hb (Ef hs X.env)) λD σ H ι ρ M fl G M' S R e q=>by
  rw[MW.Tj] at e;obtain⟨s,M1,e1,e⟩:=dz e;refine⟨ι,ρ,M,s,M1,S,R,e1,fun qk H1 J T6 S1 sj=>?_⟩;refine⟨λi m qq H2=>m=s.len-i/\i<=s.len/\∃Y y M2,Le qk H1 Y H2/\lz nm X.K Y H2 M2/\v9 X.K Y H2 y qq/\MW.Bv s.fin s.item (λd ρ M=>match t.put d ρ with|some G=>Ws.den W G M|none=>.bad) m i y M2=.ok (fl,G) M',
   ⟨s.len,rfl,jx _,qk,ρ,M1,Le.refl _ _,S1,R.mono T6,e⟩,?_⟩
  rintro i m qq H2 ⟨hm,q5,Y,y,M2,Ak,S2,R2,U⟩;obtain⟨go,q1⟩:=sj Y H2 M2 Ak.toX S2;cases m with
  |zero =>
   simp only[MW.Bv] at U;split at U<;>cases U;rename_i Qf;have hi:i=s.len:=by lia
   subst hi;exact .inl ⟨q1 Qf,q Y H2 qq (T6.trans Ak) S2 R2⟩
  |succ m =>
   simp only[MW.Bv] at U;split at U
   .cases U
   .rename_i d hd
    obtain⟨⟨q2,qv⟩,M3,e3,U⟩:=dz U;obtain⟨g1,g2⟩:=go i d (by omega) hd;refine .inr ⟨g1,fun C H4=>∃Z L M4,Le qk H1 Z H4/\lz nm X.K Z H4 M4/\v9 X.K Z H4 L C/\MW.Bv s.fin s.item (λd ρ M=>match t.put d ρ with|some G=>Ws.den W G M|none=>.bad) m (i+1) L M4=.ok (fl,G) M',
     fun C H4 ⟨Z,L,M4,h4⟩=>⟨m,p8 _,by omega,by omega,Z,L,M4,h4⟩,λv H3 yv=>?_⟩
    obtain⟨Za,S3,r3⟩:=g2 v H3 yv;split at e3
    .rename_i q0 q3
     refine⟨Y,y,M2,d,q0,S3,R2.mono Za,r3,q3,fun q6 R5 _ _=>⟨Y,q0,M2,q2,qv,M3,S3,R5,e3,fun Z H4 C q4 S4 R4=>?_⟩⟩;have u:=(Ak.trans Za).trans q4;cases q2 with
     |next=>exact⟨Z,qv,M3,u,S4,R4,U⟩|cont=>exact⟨Z,qv,M3,u,S4,R4,U⟩|brk=>cases U;exact q Z H4 C (T6.trans u) S4 R4|ret d=>cases U;exact q Z H4 C (T6.trans u) S4 R4
    .cases e3
section
variable{nm:Nm}{W:G5}{X:Cx}{a b c:Expr}{a' b' c':Ex}{pos pos':Pos}{ι:Io}{H:Hp}{σ:St}{ρ:En}{M M1 M2:cz}{x y:Dv}{es:X0}{es':Dg}{tg iter elt:Expr}
def PI.weak(h:PI X tg iter G)(w:∀σ H R,wi' σ H R->G σ H R):PI X tg iter wi':=λZ s σ H R I q=>h Z s σ H R I (w σ H R q)
def PI.of(h:PI X tg iter U)(w:∀σ H G ι ρ M s M',lz nm X.K ι H M->v9 X.K ι H ρ σ->it.den W ρ M=.ok s M'->(∀Z H' J,Le ι H Z H'->lz nm X.K Z H' M'->ao5 nm X.K Z H' s J->G J H')->U σ H G):PI X tg iter (tI nm W X.K it) :=
 PI.weak h fun σ H G z_=>by obtain⟨ι,ρ,M,s,M',S,R,e,q⟩:=z_;exact w σ H G ι ρ M s M' S R e q
def a07(hl:PE X l tl):PI X tg l (fun σ H R=>tl σ H λx U=>∃a,x=.ref a/\((∃xs,Gw X.K U a xs)/\R (Itl X.K a) U\/(∃xs,J5 X.K U a xs)/\R (Itt X.K a) U)):=by
 intro qq s σ H R I h;refine Bj (hl qq s σ H _ I h) λv Z z_=>?_
 obtain⟨x,U,G,r1,q1⟩:=z_;obtain⟨a,e,⟨⟨xs,hq⟩,q⟩|⟨⟨xs,hq⟩,q⟩⟩:=q1
 .subst e
  cases r1;obtain⟨yq,rv,p,hz⟩:=G.list hq;refine yf p.isList ?_;refine⟨Z.heap.objs.size,[Z.heap.objs.size],_,_,U,rfl,G.kept (t':=Z.toks) λb o e=>ao _ e,aj1 a _,⟨_,bc _ rfl,rfl,rfl⟩,λb hb=>?_,q⟩;have e:b=Z.heap.objs.size:=by simpa using hb
  subst e;exact G.anv (bf _) (G.Ar.fresh (bf _))
 .subst e
  cases r1;obtain⟨yq,rv,p,hz⟩:=G.tuple hq;refine xr (show Z.heap.IsTuple a yq.toArray from p) ?_;refine⟨Z.heap.objs.size,[Z.heap.objs.size],_,_,U,rfl,G.kept (t':=Z.toks) λb o e=>ao _ e,af0 a _,⟨_,bc _ rfl,rfl,rfl⟩,λb hb=>?_,q⟩;have e:b=Z.heap.objs.size:=by simpa using hb
  subst e;exact G.anv (bf _) (G.Ar.fresh (bf _))
def Zb{p:Addr}{ds:List Dv}{s:Src}(hs:∀Z G M1,LeX ι H Z G->lz nm X.K Z G M1->(∀i d,s.item i M1=some d->∃vs v,G p=some (.lst vs)/\vs[i]?=some v/\Rep X.K Z G d v)/\(s.fin M1=true->∃vs,G p=some (.lst vs)/\vs.length<=s.len)) :
 ao5 nm X.K ι H s (Itl X.K p):=fun Z G M1 le S1=>by
 obtain⟨a,b⟩:=hs Z G M1 le S1;refine⟨λi d hi hd=>?_,λhf=>?_⟩
 .obtain⟨vs,v,R,U,h3⟩:=a i d hd
  refine⟨⟨vs,v,Gw.of R,U⟩,λu H2 ⟨e,y⟩=>?_⟩;subst e;have:=y vs (Gw.of R);rw[U] at this;cases this;exact⟨Le.refl _ _,S1,h3⟩
 .obtain⟨vs,R,U⟩:=b hf
  exact⟨vs,Gw.of R,U⟩
set_option tactic.hygienic true in
def a8s(ha:PE X a (tE nm W X.K a')):PI X tg a (tI nm W X.K (.val a')) :=
 PI.of (a07 ha) fun σ H R' ι ρ M s M' S R e q=>by
  rw[MW.Kc] at e;obtain⟨x,M1,e1,e⟩:=dz e;obtain⟨e,rfl⟩:=yj e;refine one S R e1 fun U H1 v le S1 R1 r=>?_
  cases r with
  |@tup p ds G h1 r1 =>
   simp only[MW.srcOf] at e;cases e;refine⟨p,rfl,.inr ⟨⟨G,J5.of h1⟩,q U H1 _ le S1 fun qq H2 M2 Y S2=>⟨λi d hi Z=>?_,λ_=>⟨G,J5.of (Y.tup _ _ h1),by rw[<- r1.length];exact bf _⟩⟩⟩⟩;have Z:ds[i]?=some d:=Z;obtain⟨v,C,g2⟩:=(r1.Ld Y).get Z;refine⟨⟨G,v,J5.of (Y.tup _ _ h1),C⟩,λu H3 ⟨ee,yy⟩=>?_⟩;subst ee;have:=yy G (J5.of (Y.tup _ _ h1));rw[C] at this;cases this;exact⟨Le.refl _ _,S2,g2⟩
  |@vl p ds G h1 n1 r1 =>
   simp only[MW.srcOf] at e;cases e;refine⟨p,rfl,.inl ⟨⟨G,Gw.of h1⟩,q U H1 _ le S1 (Zb (ds:=ds) fun qq H2 M2 Y S2=>⟨λi d Z=>?_,λ_=>⟨G,Y.lst _ _ n1.1 h1,by rw[<- r1.length];exact bf _⟩⟩)⟩⟩;have Z:ds[i]?=some d:=Z;obtain⟨v,C,g2⟩:=(r1.Ld Y).get Z;exact⟨G,v,Y.lst _ _ n1.1 h1,C,g2⟩
  |@ref n p h1 =>
   simp only[MW.srcOf] at e;obtain⟨ds,hn,rfl⟩:∃ds,M'[n]?=some (.lst ds)/\s=.live n ds.length:=by
    split at e
    .rename_i ds hn;cases e;exact⟨ds,hn,rfl⟩
    .cases e
   obtain⟨G,C,g2⟩:=S1.obj n _ p hn h1;refine⟨p,rfl,.inl ⟨⟨G,Gw.of C⟩,q U H1 _ le S1 (Zb (ds:=ds) fun qq H2 M2 Y S2=>⟨λi d Z=>?_,λhf=>?_⟩)⟩⟩
   .simp only[Src.item] at Z
    split at Z
    .rename_i L Py
     split at Z
     .obtain⟨J,k1,k2⟩:=S2.obj n _ p Py (Y.get h1)
      obtain⟨v,k3,k4⟩:=k2.get Z;exact⟨J,v,k1,k3,k4⟩
     .cases Z
    .cases Z
   .simp only[Src.fin] at hf
    split at hf
    .rename_i L Py
     obtain⟨J,k1,k2⟩:=S2.obj n _ p Py (Y.get h1);refine⟨J,k1,?_⟩;rw[<- k2.length];have:L.length=ds.length:=by simpa using hf
     rw[this];exact bf _
    .cases hf
  |_=>simp[MW.srcOf] at e
set_option tactic.hygienic true in
def a8t(hg:Gl X "range")(hm:X.mg "range" = none)(C:PE X a (tE nm W X.K a'))(G:noStar a=true):PI X tg (.Call (.Name "range" pr) [a] [] pos) (tI nm W X.K (.Ln a')) :=
 PI.of (aj2 hg hm (Jf C Pk (jz G _ _)) (jz G _ _)) fun σ H R' ι ρ M s M' S R e q=>by
  rw[MW.Q9] at e;obtain⟨x,M1,e1,e⟩:=dz e;refine Wo (es':=.cons a' .nil) (ds:=[x]) (M1:=M1) S R (by rw[MW.G4,e1];simp) fun Y U vs le S1 R1 r=>?_
  obtain⟨i,hx⟩:∃i,x=.int i:=by cases x<;>first|exact⟨_,rfl⟩|cases e
  subst hx;have e:(if i.natAbs<=100000 then Res.ok (Src.con ((List.range i.toNat).map λ(k:Nat)=>MW.D.int (k:Int))) M1 else .bad)=.ok s M':=e;split at e<;>cases e;rename_i hi;cases r with
  |cons r1 r2 =>
   cases r1;cases r2;refine⟨i,rfl,by lia,by omega,q Y U _ le S1 fun qq H2 M2 Ak L=>⟨λj d hj Z=>?_,λ_=>?_⟩⟩
   .have J:j<i.toNat:=by simpa[Src.len] using hj
    have Z:((List.range i.toNat).map λ(k:Nat)=>MW.D.int (k:Int))[j]?=some d:=Z;rw[jh,ux J] at Z;have Z:MW.D.int (j:Int)=d:=by simpa using Z
    subst Z;refine⟨J,λu H3 ⟨ee,yy⟩=>?_⟩;subst ee yy;exact⟨Le.refl _ _,L,by rw[Int.zero_add];exact .int _⟩
   .show i.toNat<=_
    simp[Src.len]
def aki(R:v9 K ι H ρ σ):v9 K ι H (ρ++List.replicate k none) (σ++List.replicate k none):=R.append (v9.aoy k (by simp))
def ao6{Z:St}(R:σ.length=n)(U:∀i∈Br t,n<=i)(h:∀j,j∉Br t->Z[j]?=(σ++List.replicate k none)[j]?):∀(j:Nat) v,(σ++List.replicate k none)[j]?=some (some v)->Z[j]?=some (some v):=λj v e=>by
 by_cases G:j∈Br t
 .have:=U j G
  rw[jc (a_ (f_ R) this),List.getElem?_replicate] at e;split at e<;>simp at e
 .rw[h j G];exact e
noncomputable def axt(o:Option Dv):List Dv:=match o with|some x=>[x]|none=>[]
set_option tactic.hygienic true in
def ado(h:MW.Dh fin item body (k+1) i M=.ok ds M') :
 ∃d o M1 rest,item i M=some d/\body d M=.ok o M1/\MW.Dh fin item body k (i+1) M1=.ok rest M'/\ds=axt o++rest:=by
 simp only[MW.Dh] at h;split at h
 .cases h
 .rename_i d Z
  obtain⟨o,M1,G,h⟩:=dz h;obtain⟨rest,M2,Y,h⟩:=dz h;cases h;exact⟨d,o,M1,rest,Z,G,Y,by cases o<;>rfl⟩
def my.snoc(r:my K ι H ds vs)(h:Rep K ι H d v):my K ι H (ds++[d]) (vs++[v]):=r.append (.cons h .nil)
set_option tactic.hygienic true in
def Vn(e:MW.An s body M1=.ok ds M2):s.len<=100000/\MW.Dh s.fin s.item body s.len 0 M1=.ok ds M2:=by
 unfold MW.An at e;split at e
 .rename_i Z
  exact⟨Z,e⟩
 .cases e
noncomputable def keptAs(v:Bool)(ds:List Dv)(M:cz):Res Dv:=if v=true then .ok (.vl ds) M else MW.new (.lst ds) M
def akj(h:(Ex.comp v k t it U).den W ρ M=.ok d M'):∃s M1 ds M2,it.den W ρ M=.ok s M1/\s.len<=100000 /\
 MW.Dh s.fin s.item (λd M=>match t.put d (ρ++List.replicate k none) with|some Z=>(U.den W Z M).bind λx M'=>.ok (some x) M'|none=>.bad) s.len 0 M1=.ok ds M2/\keptAs v ds M2=.ok d M':=by
 rw[MW.Lx] at h;obtain⟨s,M1,R,h⟩:=dz h;obtain⟨ds,M2,G,h⟩:=dz h;exact⟨s,M1,ds,M2,R,(Vn G).1,(Vn G).2,h⟩
def Io.adopt(ι:Io)(H:Hp)(D:Addr):Tr K (ι.hide D) H (ι.add D) H:=⟨λ_ _ e=>e,λ_ _ e n=>⟨e,λm=>(dh.mp m).elim n.1 λz=>n.2 (by rw[jw.mp z];exact dg),λm=>n.2 (bh _ m)⟩,λ_ _ e=>e,λn a e=>by
 have e:ι.l[n]?=some a:=e;show(ι.l++[D])[n]?=_;rw[fc (ak.mp e).1];exact e⟩
theorem Rep.adopt(r:Rep K (ι.hide D) H d v):Rep K (ι.add D) H d v:=r.tr (ι.adopt H D)
theorem my.adopt(r:my K (ι.hide D) H d v):my K (ι.add D) H d v:=r.tr (ι.adopt H D)
theorem lz.adopt(S:lz nm K (ι.hide D) H M)(hd:H D=some (.lst vs))(r:my K (ι.hide D) H ds vs)(G:ι.off D):lz nm K (ι.add D) H (M++[.lst ds]):=by
 refine⟨by have:=S.len;simp only[Io.hide] at this;simp[Io.add,this],?_,λa Z=>?_,λn o a R Z=>?_⟩
 .exact zc.mpr ⟨S.nd,by simp,by
   intro x U y hy;have:y=D:=by simpa using hy
   subst this;intro e;subst e;exact G.1 U⟩
 .obtain⟨h1,vs,h2⟩:=S.del a (bh _ Z)
  exact⟨λm=>(dh.mp m).elim h1 λz=>G.2 (by rw[<- jw.mp z];exact Z),vs,h2⟩
 .rcases Ci R with q|⟨q,rfl⟩
  .rcases Ci Z with z|⟨z,_⟩
   .exact(S.obj n o a q z).map (λd v r=>r.adopt) rfl
   .exact absurd (MW.w6 q) (by rw[z,<- S.len];exact m7 _)
  .rcases Ci Z with z|⟨_,rfl⟩
   .exact absurd (ak.mp z).1 (by rw[q,<- S.len];exact m7 _)
   .exact⟨vs,hd,r.adopt⟩
def ao7(S:lz nm K (ι.hide D) H M)(hd:H D=some (.lst vs))(r:my K (ι.hide D) H ds vs)(G:ι.off D)(le:Le U R ι H)(h0:R D=none)(h:keptAs v ds M=.ok d M') :
 ∃Z,Le U R Z H/\lz nm K Z H M'/\Rep K Z H d (.ref D):=by
 unfold keptAs at h;split at h
 .cases h
  exact⟨ι,le,S.show,.vl hd G r.show⟩
 .cases h
  refine⟨ι.add D,⟨?_,le.del,le.tup,le.N6,le.lst,le.dom⟩,S.adopt hd r G,.ref ?_⟩
  .obtain⟨Y,e,hY⟩:=le.ext
   exact⟨Y++[D],by show ι.l++[D]=_;rw[e,q9],λa ha=>(dh.mp ha).elim (hY a) λz=>by rw[jw.mp z];exact h0⟩
  .show(ι.l++[D])[M.length]?=some D
   rw[<- S.len];simp[Io.hide]
def BodyOk(nm:Nm)(K:Fg)(Z:St)(tc:TT)(te:TE)(R:En)(M:cz)(o:Option Dv)(M':cz):Prop:=∀ι H (G1:V->Hp->Prop) (G0:Hp->Prop),lz nm K ι H M->v9 K ι H R Z ->
 (∀G U v,Le ι H G U->lz nm K G U M'->(match o with|some x=>Rep K G U x v->G1 v U|none=>G0 U))->tc Z H λb H3=>if b=true then te Z H3 λv H4=>G1 v H4 else G0 H3
set_option tactic.hygienic true in
def Zc{N:X9}(hk:N.length-X.N.length=k)(ho:∀i∈Br t,X.N.length<=i)(z0:σ.length=X.N.length)(S:lz nm X.K ι H M)(R:v9 X.K ι H ρ σ)(e1:it.den W ρ M=.ok s M1)(q8:s.len<=100000)(e2:MW.Dh s.fin s.item body s.len 0 M1=.ok ds M')(ek:keptAs v0 ds M'=.ok d0 M0)(q:∀q1 H' v,Le ι H q1 H'->lz nm X.K q1 H' M0->Rep X.K q1 H' d0 v->Q v H')(hb:∀d M2 o M3,body d M2=.ok o M3->∃qk,t.put d (ρ++List.replicate k none)=some qk/\∀q3,BodyOk nm X.K q3 tc te qk M2 o M3):adl (N.length-X.N.length) (tI nm W X.K it) (tGt nm X.K t) tc te σ H Q:=by
 refine⟨ι,ρ,M,s,M1,S,R,e1,fun U H1 J T6 S1 sj D hD=>?_⟩;rw[hk];refine⟨λi m H2=>m=s.len-i/\i<=s.len/\∃Z M2 G vs L,LeD D U H1 (Io.hide Z D) H2/\lz nm X.K (Io.hide Z D) H2 M2/\H2 D=some (.lst vs)/\my X.K (Io.hide Z D) H2 G vs/\G.length<=i /\
  MW.Dh s.fin s.item body m i M2=.ok L M'/\ds=G++L,?_,?_⟩
 .exact⟨s.len,rfl,jx _,U,M1,[],[],ds,LeD.start hD _,S1.hide hD,yg,.nil,bf _,e2,rfl⟩
 .rintro i m H2 ⟨hm,z2,Z,M2,G,vs,L,Ak,S2,q6,q4,Em,e3,q0⟩
  have zz:Le U H1 Z H2:=LeD.done Ak;have zw:Z.δ=U.δ:=zz.del;have z1:Z.off D:=⟨(S2.del D dg).1,λz=>by rw[zw] at z;exact(S1.fresh hD).2 z⟩;obtain⟨go,q5⟩:=sj (Io.hide Z D) H2 M2 (Ak.toX hD) S2;cases m with
  |zero =>
   simp only[MW.Dh] at e3;split at e3<;>cases e3;rename_i Qf;refine hG λ_ _k=>?_
   have hi:i=s.len:=by lia
   subst hi;rw[yd] at q0;subst q0;obtain⟨z3,z5,S9,r9⟩:=ao7 S2 q6 q4 z1 zz hD ek;apply _k;exact .inl ⟨q5 Qf,q z3 H2 _ (T6.trans z5) S9 r9⟩
  |succ m =>
   refine hG λ_ _k=>?_
   obtain⟨d,o,M3,C,h1,h2,h3,h4⟩:=ado e3;obtain⟨g1,g2⟩:=go i d (by lia) h1;apply _k;refine .inr ⟨g1,λv H3 yv=>?_⟩;refine hG λ_ _k=>?_
   obtain⟨Za,S3,r3⟩:=g2 v H3 yv;obtain⟨qk,zv,zk⟩:=hb d M2 o M3 h2;have R3:v9 X.K (Io.hide Z D) H3 ρ σ:=((R.mono T6).Ld (Ak.toX hD)).mono Za;apply _k;refine⟨Io.hide Z D,ρ++List.replicate k none,M2,d,qk,S3,aki R3,r3,zv,fun q3 R5 l5 k5=>⟨l5,ao6 z0 ho k5,?_⟩⟩;have z4:=Za.lst D vs (S2.del D dg).1 q6;refine zk q3 (Io.hide Z D) H3 _ _ S3 R5 (fun Y H6 u qv S6=>by
    have qq:=qv.lst D vs (S2.del D dg).1 z4;have q2:LeD D U H1 Y H6:=(Ak.go Za).go qv;have ei:Y=Io.hide ⟨Y.l,Z.δ⟩ D:=by have:=qv.del;obtain⟨l6,z6⟩:=Y;simp only[Io.hide] at this ⊢;rw[this]
    rw[ei] at q2 S6;have q7:my X.K (Io.hide ⟨Y.l,Z.δ⟩ D) H6 G vs:=by rw[<- ei];exact(q4.mono Za).mono qv
    cases o with
    |none =>
     refine⟨m,p8 _,by lia,by lia,⟨Y.l,Z.δ⟩,M3,G,vs,C,q2,S6,qq,q7,a_ Em x_,h3,?_⟩;rw[q0,h4];rfl
    |some x =>
     intro r6;rw[ei] at r6;have Hz:D∈(Io.hide ⟨Y.l,Z.δ⟩ D).δ:=dg;refine⟨vs,m,qq,?_,p8 _,by lia,by lia,⟨Y.l,Z.δ⟩,M3,G++[x],vs++[u],C,q2.grow hD qq,S6.grow qq Hz,yg,(q7.snoc r6).grow qq Hz,by simp;exact Em,h3,?_⟩
     .rw[<- q4.length]
      exact Nat.lt_of_le_of_lt (ie Em (ie z2 q8)) (by decide)
     .rw[q0,h4];simp[axt])
set_option tactic.hygienic true in
def Zd{N:X9}(hk:N.length-X.N.length=k)(ho:∀i∈Br t,X.N.length<=i):∀σ H Q,σ.length=X.N.length->tE nm W X.K (.comp v0 k t it e') σ H Q ->
 adl (N.length-X.N.length) (tI nm W X.K it) (tGt nm X.K t) (λ_ H Q=>Q true H) (tE nm W X.K e') σ H Q:=fun σ H Q J hh=>by
 obtain⟨ι,ρ,M,d,M',S,R,e,q⟩:=hh;obtain⟨s,M1,ds,M2,e1,Y,e2,ek⟩:=akj e;refine Zc hk ho J S R e1 Y e2 ek q λd M2 o M3 Z=>?_
 split at Z
 .rename_i U G
  obtain⟨x,M4,e5,Z⟩:=dz Z;cases Z;refine⟨U,G,fun qk qq H5 G1 G0 S5 R5 g=>?_⟩;show if true=true then _ else _
  rw[cj rfl];exact one (X:=X) S5 R5 e5 fun C H6 u L S6 R6 r6=>g C H6 u L S6 r6
 .cases Z
def adp(h:(Ex.Cj v k t it c' e').den W ρ M=.ok d M'):∃s M1 ds M2,it.den W ρ M=.ok s M1/\s.len<=100000 /\
 MW.Dh s.fin s.item (λd M=>match t.put d (ρ++List.replicate k none) with|some Z=>(c'.den W Z M).bind λb M'=>(match b with|.bl true=>(e'.den W Z M').bind λx G=>.ok (some x) G|.bl false=>.ok none M'|_=>.bad)|none=>.bad) s.len 0 M1=.ok ds M2/\keptAs v ds M2=.ok d M':=by
 rw[MW.V2] at h;obtain⟨s,M1,R,h⟩:=dz h;obtain⟨ds,M2,U,h⟩:=dz h;exact⟨s,M1,ds,M2,R,(Vn U).1,(Vn U).2,h⟩
set_option tactic.hygienic true in
def U3{N:X9}(hk:N.length-X.N.length=k)(ho:∀i∈Br t,X.N.length<=i):∀σ H Q,σ.length=X.N.length->tE nm W X.K (.Cj v0 k t it c' e') σ H Q ->
 adl (N.length-X.N.length) (tI nm W X.K it) (tGt nm X.K t) (tQ nm W X.K c') (tE nm W X.K e') σ H Q:=fun σ H Q C hh=>by
 obtain⟨ι,ρ,M,d,M',S,R,e,q⟩:=hh;obtain⟨s,M1,ds,M2,e1,J,e2,ek⟩:=adp e;refine Zc hk ho C S R e1 J e2 ek q λd M2 o M3 Z=>?_
 split at Z
 .rename_i L U
  obtain⟨x,M4,e5,Z⟩:=dz Z;refine⟨L,U,fun q0 qv H5 G1 G0 S5 R5 g=>?_⟩;split at Z
  .obtain⟨y,M6,e6,Z⟩:=dz Z
   cases Z;refine X5 (X:=X) S5 R5 e5 fun G H6 Y S6 R6=>?_
   rw[cj rfl];exact one (X:=X) S6 R6 e6 fun qk H7 u qq S7 R7 r7=>g qk H7 u (Y.trans qq) S7 r7
  .cases Z
   refine X5 (X:=X) S5 R5 e5 fun G H6 Y S6 R6=>?_
   rw[bx (by simp)];exact g G H6 .non Y S6
  .cases Z
 .cases Z
def PE.adq(h:PE X e t)(w:∀σ H Q,σ.length=X.N.length->t' σ H Q->t σ H Q):PE X e t':=λZ s σ H Q I q=>h Z s σ H Q I (w σ H Q I.len q)
def PS.adq(h:PS X st t)(w:∀D σ H,σ.length=X.N.length->t' D σ H->t D σ H):PS X st t':=λZ s σ H D I q=>h Z s σ H D I (w D σ H I.len q)
def a1a(B:Ek X N scope)(U:X.calm=true)(hi:PI X tg iter (tI nm W X.K it))(R:∀C Z s H,PG (Lq X N scope C Z s H) tg (tGt nm X.K t))(G:∀C Z s H,PE (Lq X N scope C Z s H) elt (tE nm W X.K e'))(hs:Gv iter=true)(hk:N.length-X.N.length=k)(ho:∀i∈Br t,X.N.length<=i):PE X (.ListComp elt [⟨tg,iter,[],0⟩] scope pos) (tE nm W X.K (.comp v0 k t it e')) :=
 PE.adq (ah5 B U hi R (λ_ _ _ _=>.inl ⟨rfl,rfl⟩) G (Ef hs X.env)) (Zd hk ho)
def ao8(B:Ek X N scope)(U:X.calm=true)(hi:PI X tg iter (tI nm W X.K it))(R:∀C Z s H,PG (Lq X N scope C Z s H) tg (tGt nm X.K t))(hc:∀C Z s H,PT (Lq X N scope C Z s H) c (tQ nm W X.K c'))(G:∀C Z s H,PE (Lq X N scope C Z s H) elt (tE nm W X.K e'))(hs:Gv iter=true)(hk:N.length-X.N.length=k)(ho:∀i∈Br t,X.N.length<=i):PE X (.ListComp elt [⟨tg,iter,[c],0⟩] scope pos) (tE nm W X.K (.Cj v0 k t it c' e')) :=
 PE.adq (ah5 B U hi R (λ_ _ _ _=>.inr ⟨c,rfl,hc _ _ _ _⟩) G (Ef hs X.env)) (U3 hk ho)
def adt(h:∀σ H Q,σ.length=X.N.length->tE nm W X.K e' σ H Q->tt σ H Q):∀D σ H,σ.length=X.N.length->tS nm W X.K (.asg (.tg (.name i)) e') D σ H->az4 tt (aht i) D σ H:=λD σ H G hh=>by obtain⟨ι,ρ,M,fl,qk,M',S,R,e,q⟩:=hh;rw[MW.Z7] at e;obtain⟨x,M1,e1,e⟩:=dz e;obtain⟨qq,M2,U,e⟩:=dz e;cases e;rw[MW.amn] at U;obtain⟨e3,e4⟩:=yj U;subst e4;cases e3;exact h σ H _ G (one S R e1 fun Z H1 v le S1 R1 r=>q Z H1 _ le S1 (R1.set r i))
def akk{y:Str}(B:Ek X N scope)(R:X.calm=true)(hi:PI X tg iter (tI nm W X.K it))(hg:∀C G s H,PG (Lq X N scope C G s H) tg (tGt nm X.K t))(U:∀C G s H,PE (Lq X N scope C G s H) elt (tE nm W X.K e'))(hs:Gv iter=true)(hk:N.length-X.N.length=k)(ho:∀i∈Br t,X.N.length<=i)(hN:X.N.Nodup)(hy:X.N[i]?=some y)(hl:X.env.scope.names.lookup y=some .local)(Z:swapsWith (.ListComp elt [⟨tg,iter,[],0⟩] scope pos) (some (.Name y py)) aox.line X.env=pure true):PS X (.Assign [.Name y py] (.ListComp elt [⟨tg,iter,[],0⟩] scope pos) aox) (tS nm W X.K (.asg (.tg (.name i)) (.comp v0 k t it e'))) :=
 PS.adq (ah6 B R hi hg (λ_ _ _ _=>.inl ⟨rfl,rfl⟩) U (Ef hs X.env) hN hy hl Z) (adt (Zd hk ho))
def adu{y:Str}(B:Ek X N scope)(R:X.calm=true)(hi:PI X tg iter (tI nm W X.K it))(hg:∀C Z s H,PG (Lq X N scope C Z s H) tg (tGt nm X.K t))(hc:∀C Z s H,PT (Lq X N scope C Z s H) c (tQ nm W X.K c'))(U:∀C Z s H,PE (Lq X N scope C Z s H) elt (tE nm W X.K e'))(hs:Gv iter=true)(hk:N.length-X.N.length=k)(ho:∀i∈Br t,X.N.length<=i)(hN:X.N.Nodup)(hy:X.N[i]?=some y)(hl:X.env.scope.names.lookup y=some .local)(G:swapsWith (.ListComp elt [⟨tg,iter,[c],0⟩] scope pos) (some (.Name y py)) aox.line X.env=pure true):PS X (.Assign [.Name y py] (.ListComp elt [⟨tg,iter,[c],0⟩] scope pos) aox) (tS nm W X.K (.asg (.tg (.name i)) (.Cj v0 k t it c' e'))) :=
 PS.adq (ah6 B R hi hg (λ_ _ _ _=>.inr ⟨c,rfl,hc _ _ _ _⟩) U (Ef hs X.env) hN hy hl G) (adt (U3 hk ho))
end
def spF(nm:Nm)(W:G5)(K:Fg)(n f:Nat):Sp:=λvs H Q _=>∃U M R d M',lz nm K U H M/\my K U H R vs/\R.length=n/\W.call f R M=.ok d M'/\∀Z G v,Le U H Z G->lz nm K Z G M'->Rep K Z G d v->Q v G
def s_call(F:Ff X.prog X.w X.K X.mg X.base CX0 k fa fd ps (spF nm W X.K n f))(hr:Ag k X.A)(hg:Gl X x)(hm:X.mg x=some (.ref fa))(hk:PySem.W.keepIn X.K (.ref fa)=true)(hb:Binds X.K fd ps [])(Z:Dg.len es'=n)(ha:PA X (a::es) (Vd nm W X.K es'))(Qw:(x==("__debug__" : Str))=false)(he:starEach (a::es) X.env=(false,eval a X.env)::starEach es X.env)(Gu:(backTo pos (starEach es X.env)).any (·.1)=false) :
 PE X (.Call (.Name x p) (a::es) [] pos) (tE nm W X.K (.call f es')) :=
 PE.of (aty (E:=E0) F hr hg hm hk hb .nil ah3 ha Qw he Gu) fun σ H Q ι ρ M d M' S R e q=>by
  rw[MW.ami] at e;obtain⟨ds,M1,e1,e⟩:=dz e;refine Wo S R e1 fun G H1 vs le S1 R1 r=>?_
  rw[yd];exact⟨G,M1,ds,d,M',S1,r,(Fz e1).trans Z,e,fun U H' v Xp S' r'=>q U H' v (le.trans Xp) S' r'⟩
def a1b(q1:Mk X.K C fa)(F:Ff X.prog X.w X.K X.mg X.base CX0 k fa fd ps (spF nm W X.K (n+1) f))(hr:Ag (k+1) X.A)(hg:Gl X x)(hm:X.mg x=some (.ref C))(hb:Binds X.K fd ps [])(qv:W.cls[ci]?=some cl)(Xu:cl.init=f)(qk:nm.cls ci=some C)(qq:Dg.len es'=n)(ha:PA X (a::es) (Vd nm W X.K es'))(Qw:(x==("__debug__" : Str))=false)(he:starEach (a::es) X.env=(false,eval a X.env)::starEach es X.env)(Gu:(backTo pos (starEach es X.env)).any (·.1)=false) :
 PE X (.Call (.Name x p) (a::es) [] pos) (tE nm W X.K (.make ci es')) :=
 PE.of (at3 (E:=E0) q1 F hr hg hm hb .nil ah3 ha Qw he Gu) fun σ H Q ι ρ M d M' S R e q=>by
  rw[MW.acd] at e;obtain⟨ds,Z,e1,e⟩:=dz e;rw[qv] at e;have e:((W.call cl.init (.ref Z.length::ds) (Z++[.ins ci []])).bind λr M2=>match r with|.non=>.ok (.ref Z.length) M2|_=>.bad)=.ok d M':=e;obtain⟨r0,M2,e2,e⟩:=dz e;refine Wo S R e1 fun G H1 vs le S1 R1 r=>λp U hp q2 Uh=>?_
  rw[yd];have keep:∀a u,H1 a=some u->upd (upd H1 U (.own p)) p (.ins C U []) a=some u:=λa u e=>by rw[kh (lq e hp),kh (lq e q2)];exact e
  obtain⟨S2,Ak⟩:=S1.new (o:=.ins ci []) hp keep λ_=>⟨C,U,[],qk,yg,.nil⟩
  have rp:Rep X.K (G.add p) (upd (upd H1 U (.own p)) p (.ins C U [])) (.ref Z.length) (.ref p):=.ref (by show(G.l++[p])[Z.length]?=some p;rw[<- S1.len];simp);refine⟨G.add p,Z++[.ins ci []],.ref Z.length::ds,r0,M2,S2,.cons rp (r.mono Ak),by rw[gm,Fz e1,qq],by rw[<- Xu];exact e2,fun q0 H' v Xp S' r'=>?_⟩;cases r'<;>try cases e
  exact⟨rfl,q q0 H' _ (le.trans (Ak.trans Xp)) S' (rp.mono Xp)⟩
theorem Wt{nm:Nm}{ι:Io}{H:Hp}{m:Str}{K:Fg}(Z:∀i,nm.fld i≠m):∀{fs:List (Nat×Dv)}{l:List (Str×V)},uh K ι H (λk k'=>k'=nm.fld k) fs l->l.lookup m=none
 |_,_,.nil=>rfl
 |_,_,.cons (k:=kk) (k':=kk') hk h t=>by
  subst hk;rw[o6];have z:(m==nm.fld kk)=false:=by
   cases z:m==nm.fld kk with
   |false=>rfl|true=>exact absurd (eq_of_beq z).symm (Z kk)
  rw[z];exact Wt Z t
def a1c{nm:Nm}{W:G5}{X:Cx}{a o:Expr}{o':Ex}{pos Z:Pos}{es:X0}{es':Dg}{k n f:Nat}{fa C:Addr}{fd:FuncData}{ps:X9}{m:Str}{U ci:Nat}{cl:MW.Cl}{pl:Sem Bool}(ho:PE X o (tE nm W X.K o'))(c0:Cls X.K C)(q4:Meth X.K C m fa)(F:Ff X.prog X.w X.K X.mg X.base CX0 k fa fd ps (spF nm W X.K (n+1) f))(hr:Ag k X.A)(hb:Binds X.K fd ps [])
 (q0:∀c' G,W.cls[c']?=some G->∀g,G.meths.lookup U=some g->nm.cls c'=some C/\g=f) (q2:∀i,nm.fld i≠m)
 (qq:Dg.len es'=n) (ha:PA X (a::es) (Vd nm W X.K es')) (he:starEach (a::es) X.env=(false,eval a X.env)::starEach es X.env) (Gu:(backTo pos (starEach es X.env)).any (·.1)=false)
 (ht:eval (.Call (.Attribute o m Z) (a::es) [] pos) X.env=(do
  let ov <- eval o X.env
  standAt Z.atName
  let (f,first) <- holding [ov] (getMethod ov m pl)
  callWith pos f first (backTo pos (starEach (a::es) X.env)) (backToKw pos (keywordEach [] X.env)))) :
 PE X (.Call (.Attribute o m Z) (a::es) [] pos) (tE nm W X.K (.meth o' U es')) :=
 PE.of (atz (E:=E0) ho c0 q4 F hr hb .nil ah3 ha he Gu ht) fun σ H Q ι ρ M d M' S R e q=>by
  rw[MW.Q8] at e;obtain⟨x,M1,e1,e⟩:=dz e;obtain⟨ds,M2,e2,e⟩:=dz e;refine one S R e1 fun qk H1 v le S1 R1 r=>?_
  obtain⟨j,hx⟩:∃j,x=.ref j:=by cases x<;>first|exact⟨_,rfl⟩|cases e
  subst hx;obtain⟨p,rfl,hp⟩:∃p,v=.ref p/\qk.l[j]?=some p:=by cases r with|ref z=>exact⟨_,rfl,z⟩
  have e:(match M1[j]? with
   | some (.ins c _)=>(match(W.cls[c]?).bind λC=>C.meths.lookup U with
    | some f=>W.call f (.ref j::ds) M2|none=>.bad)
   | _=>.bad)=Res.ok d M':=e
  cases hM:M1[j]? with
  |none=>rw[hM] at e;cases e
  |some ob =>
   rw[hM] at e;cases ob with
   |ins ci fs =>
    have e:(match(W.cls[ci]?).bind λC=>C.meths.lookup U with|some f=>W.call f (.ref j::ds) M2|none=>.bad)=Res.ok d M':=e;cases hL:(W.cls[ci]?).bind λC=>C.meths.lookup U with
    |none=>rw[hL] at e;cases e
    |some g =>
     rw[hL] at e;have e:W.call g (.ref j::ds) M2=.ok d M':=e;obtain⟨G,h1,h2⟩:=dm.mp hL;obtain⟨h3,rfl⟩:=q0 ci G h1 g h2;obtain⟨C',dx,l,g1,g2,g3⟩:=S1.obj j _ p hM hp;rw[h3] at g1;cases g1;have qv:l.lookup m=none:=Wt q2 g3;refine⟨p,dx,l,rfl,g2,qv,Wo S1 R1 e2 fun q3 H2 vs Ak S2 R2 r2=>?_⟩;rw[yd];exact⟨q3,M2,.ref j::ds,d,M',S2,.cons (r.mono Ak) r2,by rw[gm,Fz e2,qq],e,fun q1 H' v Xp S' r'=>q q1 H' v ((le.trans Ak).trans Xp) S' r'⟩
   |_=>cases e
def a1e:PE X (.Dict [] [] pos) (tE nm W X.K .afj):=PE.of aoo fun σ H Q U ρ M d M' S R e q=>by
 rw[MW.amg] at e;cases e;intro p Z;obtain⟨G,Ak⟩:=S.new (o:=.dT []) (H':=upd H p (.dT [])) Z (λa u e=>by rw[kh (lq e Z)];exact e) λ_=>⟨[],yg,.nil⟩
 exact q _ _ _ Ak G (.ref (by show(U.l++[p])[M.length]?=some p;rw[<- S.len];simp))
def a1f:PE X (.Dict [] [] pos) (tE nm W X.K .afk):=PE.of aon fun σ H Q U ρ M d M' S R e q=>by
 rw[MW.amh] at e;cases e;intro p Z;obtain⟨G,Ak⟩:=S.new (o:=.dK []) (H':=upd H p (.dK [])) Z (λa u e=>by rw[kh (lq e Z)];exact e) λ_=>⟨[],yg,.nil⟩
 exact q _ _ _ Ak G (.ref (by show(U.l++[p])[M.length]?=some p;rw[<- S.len];simp))
def be6(nm:Nm)(K:Fg):az0:=λo i v H Q=>∃Z M x y d U,lz nm K Z H M/\Rep K Z H x o/\Rep K Z H y i/\Rep K Z H d v/\MW.setOp x y d M=some U/\∀G,Le Z H Z G->lz nm K Z G U->Q G
def Wu(h:n<100000):n<sizeLine:=gr h Rx
set_option tactic.hygienic true in
def auo(hu:X.A.units+1<cLine):az1 X (be6 nm X.K):=by
 intro C s σ H o i v ov iv u Q I ro ri rv hh;obtain⟨ι,M,x,y,d,M',S,rx,ry,rd,e,q⟩:=hh;obtain⟨j,hx⟩:∃j,x=.ref j:=by cases x<;>first|exact⟨_,rfl⟩|cases e
 subst hx;obtain⟨p,rfl,G⟩:∃p,o=.ref p/\ι.l[j]?=some p:=by cases rx with|ref z=>exact⟨_,rfl,z⟩
 simp only[MW.setOp] at e;split at e
 .rename_i xs Z
  split at e
  .rename_i k
   obtain⟨qq,U,e2⟩:=cg.mp e;subst e2;cases ry;obtain⟨vs,L,Y⟩:=S.obj j _ p Z G;refine set_list C s σ H _ _ v ov iv u Q I ro ri rv ⟨p,vs,k,qq,rfl,rfl,L,by rw[<- Y.length];exact U,?_⟩;obtain⟨J,R⟩:=S.put (u:=.lst (vs.set qq v)) (o:=.lst (xs.set qq d)) Z G λle=>⟨_,yg,(Y.mono le).set (rd.mono le) qq⟩
   exact q _ R J
  .cases e
 .rename_i iu Z
  obtain⟨k,U,e⟩:=dm.mp e;split at e<;>cases e;rename_i hl;obtain⟨l,L,Y⟩:=S.obj j _ p Z G;obtain⟨b,rfl,hb⟩:=Wq ry U;cases ro;refine Y6 (H':=upd H p (.dT (putK l k v))) (y:=.ref b) (v:=v) hu I (agc.t L hb (by rw[<- Y.length];exact Wu hl)) ri rv λs' I'=>⟨_,I',?_⟩
  obtain⟨J,R⟩:=S.put (u:=.dT (putK l k v)) (o:=.dT (MW.Dd iu k d)) Z G λle=>⟨_,yg,(Y.mono le).put (rd.mono le)⟩
  exact q _ R J
 .rename_i iu Z
  obtain⟨k,U,e⟩:=dm.mp e;split at e<;>cases e;rename_i hl;obtain⟨l,L,Y⟩:=S.obj j _ p Z G;have hy:=T7 ry U;subst hy;cases ro;refine Y6 (H':=upd H p (.dK (putK l k v))) (y:=kV k) (v:=v) hu I (agc.k L (by rw[<- Y.length];exact Wu hl)) ri rv λs' I'=>⟨_,I',?_⟩
  obtain⟨J,R⟩:=S.put (u:=.dK (putK l k v)) (o:=.dK (MW.Dd iu k d)) Z G λle=>⟨_,yg,(Y.mono le).put (rd.mono le)⟩
  exact q _ R J
 .cases e
def Wv(h:T8 e=true)(t:Expr)(l:Nat)(env:Env):swapsWithSole [t] e l env=pure false:=by unfold swapsWithSole;exact Og h _ _ _
def ao9(e o b:Expr)(p:Pos)(l:Nat)(env:Env):swapsWithSole [.Subscript o b p] e l env=pure false:=by cases e<;>rfl
def apa(hu:X.A.units+1<cLine)(he:PE X a (tE nm W X.K a'))(ho:PE X o (tE nm W X.K o'))(hi:PE X b (tE nm W X.K b'))(ha:∀v,assign (.Subscript o b pos') X.env v=(do
 let U <- holding [v] (eval o X.env)
 let iv <- holding [v,U] (eval b X.env)
 standAt pos'
 holding [v,U,iv] (setItem U iv v)
 release [v,U,iv] [])):PS X (.Assign [.Subscript o b pos'] a pos) (tS nm W X.K (.asg (.sub o' b') a')) :=
 PS.of (ant he (az3 ho hi (auo (nm:=nm) hu) ha) (ao9 _ _ _ _ _ _) (by rfl) (by rfl)) λD σ H ι ρ M fl q0 M' S R e q=>by
  rw[MW.Z7] at e;obtain⟨x,M1,e1,e⟩:=dz e;obtain⟨qk,M2,Z,e⟩:=dz e;cases e;rw[MW.asx] at Z;obtain⟨y,M3,e3,Z⟩:=dz Z;obtain⟨z,M4,e4,Z⟩:=dz Z;obtain⟨M5,M6,e5,e6⟩:=dz Z;obtain⟨e7,e8⟩:=yj e5;subst e8;cases e6;refine one S R e1 fun qq H1 v le S1 R1 r=>?_
  refine one S1 R1 e3 fun qv H2 v2 Ak S2 R2 r2=>one S2 R2 e4 fun G H3 v3 Za S3 R3 r3=>?_
  exact⟨G,_,y,z,x,_,S3,r2.mono Za,r3,(r.mono Ak).mono Za,e7,λH' Xp S'=>q G H' σ (((le.trans Ak).trans Za).trans Xp) S' (R3.mono Xp)⟩
set_option tactic.hygienic true in
def apb(hn:n=nm.fld f)(U:∀c C,nm.cls c=some C->Cls X.K C/\Gn X.K C n)(he:PE X a (tE nm W X.K a'))(ho:PE X o (tE nm W X.K o'))(Gu:T8 a=true) :
 PS X (.Assign [.Attribute o n pos'] a pos) (tS nm W X.K (.asg (.fld o' f) a')) :=
 PS.of (a0i ho he (Og Gu _ _ _)) λD σ H ι ρ M fl qv M' S R e q=>by
  rw[MW.Z7] at e;obtain⟨x,M1,e1,e⟩:=dz e;obtain⟨qk,M2,G,e⟩:=dz e;cases e;rw[MW.asy] at G;obtain⟨y,M3,e3,G⟩:=dz G;obtain⟨M5,M6,e5,e6⟩:=dz G;obtain⟨Z,e8⟩:=yj e5;subst e8;cases e6;refine one S R e1 fun qq H1 v le S1 R1 r=>one S1 R1 e3 fun Y H2 v2 Ak S2 R2 r2=>?_
  obtain⟨j,hx⟩:∃j,y=.ref j:=by cases y<;>first|exact⟨_,rfl⟩|cases Z
  subst hx;obtain⟨p,rfl,hp⟩:∃p,v2=.ref p/\Y.l[j]?=some p:=by cases r2 with|ref z=>exact⟨_,rfl,z⟩
  simp only[MW.Q6] at Z;split at Z
  .rename_i c fs hM
   have hl:fs.length<1000:=by
    by_cases z:fs.length<1000
    .exact z
    .rw[bx z] at Z;cases Z
   rw[cj hl] at Z;cases Z;obtain⟨C,J,l,h1,h2,L⟩:=S2.obj j _ p hM hp;subst hn;obtain⟨g1,g2⟩:=U c C h1;refine⟨p,C,J,l,rfl,h2,g1,g2,by rw[<- L.length];exact hl,?_⟩;obtain⟨S3,Za⟩:=S2.put (u:=.ins C J (Ie (nm.fld f) v l)) (o:=.ins c (MW.Uj f x fs)) hM hp λXp=>⟨C,J,_,h1,yg,(L.mono Xp).Ie ((r.mono Ak).mono Xp)⟩
   exact q Y _ σ ((le.trans Ak).trans Za) S3 (R2.mono Za)
  .cases Z
def Bw.weak(h:Bw X f r)(w:∀xs H Q,r' xs H Q->r xs H Q):Bw X f r':=λZ s R H xs U Q I G q=>h Z s R H xs U Q I G (w xs H Q q)
def rB(nm:Nm)(K:Fg)(b:Blt):List V->Hp->VK->Prop:=λvs H Q=>∃U M ds d R,lz nm K U H M/\my K U H ds vs/\MW.rz b ds M=.ok d R/\∀Z G v,Le U H Z G->lz nm K Z G R->Rep K Z G d v->Q v G
def Bw.of(h:Bw X f r)(w:∀vs H Q ι M ds d M',lz nm X.K ι H M->my X.K ι H ds vs->MW.rz G ds M=.ok d M'->(∀Z H' v,Le ι H Z H'->lz nm X.K Z H' M'->Rep X.K Z H' d v->Q v H')->r vs H Q):Bw X f (rB nm X.K G) :=
 Bw.weak h λvs H Q z_=>by obtain⟨ι,M,ds,d,M',S,r,e,q⟩:=z_;exact w vs H Q ι M ds d M' S r e q
def adx{X:Cx}:∀G H Q,tE nm W X.K (.blt t es') G H Q->tCB (rB nm X.K t) (Vd nm W X.K es') G H Q:=fun G H Q hh=>by obtain⟨ι,ρ,M,d,M',S,R,e,q⟩:=hh;rw[MW.Vi] at e;obtain⟨ds,M1,e1,e⟩:=dz e;exact Wo S R e1 fun Z H1 vs le S1 R1 r=>⟨Z,M1,ds,d,M',S1,r,e,fun U H' v Xp S' r'=>q U H' v (le.trans Xp) S' r'⟩
def ah8{id:String}(hc:Bw X (.builtin id) (rB nm X.K t))(U:Gl X x)(hm:X.mg x=none)(hv:bootBuiltins x=some (.builtin id))(Z:PA X (a::es) (Vd nm W X.K es'))(R:x≠"__name__")(Qw:(x==("__debug__" : Str))=false)(G:starEach (a::es) X.env=(false,eval a X.env)::starEach es X.env)(Gu:(backTo pos (starEach es X.env)).any (·.1)=false):PE X (.Call (.Name x p) (a::es) [] pos) (tE nm W X.K (.blt t es')):=PE.weak (aoi hc U hm hv Z R Qw G Gu) adx
def agj(hc:Bw X (.type T) (rB nm X.K t))(U:Gl X x)(hm:X.mg x=none)(hv:bootBuiltins x=some (.type T))(Z:PA X (a::es) (Vd nm W X.K es'))(R:x≠"__name__")(Qw:(x==("__debug__" : Str))=false)(G:starEach (a::es) X.env=(false,eval a X.env)::starEach es X.env)(Gu:(backTo pos (starEach es X.env)).any (·.1)=false):PE X (.Call (.Name x p) (a::es) [] pos) (tE nm W X.K (.blt t es')):=PE.weak (aj9 hc U hm hv Z R Qw G Gu) adx
def Fw(r:my K ι H ds vs)(h:ds=[d]):∃v,vs=[v]/\Rep K ι H d v:=by subst h;cases r with|cons h t=>cases t;exact⟨_,rfl,h⟩
def aup:Bw X (.type "tuple") (rB nm X.K .tuple):=Bw.of X4 λvs H Q U M ds d M' S r e q=>by
 cases r with
 |nil=>simp[MW.rz] at e
 |@cons x v _ _ h t =>
  cases t with
  |cons h2 t2=>simp[MW.rz] at e
  |nil =>
   have e:Res.wj ((MW.wz M x).map MW.D.tup) M=.ok d M':=e;obtain⟨e1,e2⟩:=yj e;subst e2;obtain⟨xs,e3,rfl⟩:=cg.mp e1;obtain⟨p,G,rfl,Z,R⟩:=Fi S h e3;rcases Z with Z|Z
   .refine⟨p,G,rfl,.inl ⟨Gw.of Z,λl hl=>?_⟩⟩
    obtain⟨S2,Ak,r2⟩:=Ox S hl R;exact q U _ _ Ak S2 r2
   .exact⟨p,G,rfl,.inr ⟨J5.of Z,q U H _ (Le.refl _ _) S (.tup Z R)⟩⟩
def a1g:Bw X (.type "list") (rB nm X.K .list):=Bw.of aa2 λvs H Q ι M Z d M' S r e q=>by
 cases r with
 |nil=>simp[MW.rz] at e
 |@cons x v _ _ h t =>
  cases t with
  |cons h2 t2=>simp[MW.rz] at e
  |nil =>
   have e:(match MW.wz M x with|some Z=>MW.new (.lst Z) M|none=>.bad)=Res.ok d M':=e;cases e3:MW.wz M x with
   |none=>rw[e3] at e;cases e
   |some xs =>
    rw[e3] at e;cases e;obtain⟨p,U,rfl,hp,ru⟩:=Fi S h e3;refine⟨p,U,rfl,hp.imp Gw.of J5.of,λl hl=>?_⟩;obtain⟨R,Ak,G⟩:=Vm S hl ru;exact q _ _ _ Ak R G
set_option tactic.hygienic true in
def a8w:Bw X (.builtin "len") (rB nm X.K .len):=Bw.of aa1 λvs H Q C M Y d M' S r e q=>by
 cases r with
 |nil=>simp[MW.rz] at e
 |@cons x v _ _ h t =>
  cases t with
  |cons h2 t2=>simp[MW.rz] at e
  |nil =>
   have fin:∀J,(MW.wz M x=some J)->d=.int J.length->M'=M->∃p U,[v]=[V.ref p]/\(Gw X.K H p U\/J5 X.K H p U)/\Q (.int U.length) H:=λJ y Z e2=>by subst Z e2;obtain⟨p,L,rfl,hp,u⟩:=Fi S h y;exact⟨p,L,rfl,hp.imp Gw.of J5.of,by rw[<- u.length];exact q C H _ (Le.refl _ _) S (.int _)⟩
   cases h with
   |fz Z G =>
    cases e;exact⟨_,_,rfl,.inl Z.sq,by rw[<- G.length];exact q C H _ (Le.refl _ _) S (.int _)⟩
   |@ref n p Z =>
    have e:(match M[n]? with|some (.lst Y)=>Res.ok (MW.D.int Y.length) M|_=>.bad)=Res.ok d M':=e;split at e
    .rename_i Y R
     cases e;exact fin Y (by simp[MW.wz,MW.fu,R]) rfl rfl
    .cases e
   |tup Z G=>cases e;exact fin _ rfl rfl rfl|vl Z n1 G=>cases e;exact fin _ rfl rfl rfl|_=>cases e
open MW
noncomputable def Gx(f:Dv->Dv->Option Bool)(as bs:List Dv)(j:Nat):Bool:=match as[j]?,bs[j]? with
 |some a,some b=>(f a b).getD false|_,_=>false
set_option tactic.hygienic true in
theorem Hx{f:Dv->Dv->Option Bool}:∀{as bs:List Dv}{r:Bool},MW.O5 f as bs=some r->(∀(j:Nat) a b,as[j]?=some a->bs[j]?=some b->∃c,f a b=some c) /\
 r=((List.range (min as.length bs.length)).all (Gx f as bs)&&as.length==bs.length)
 |[],[],r,h=>by cases h;exact⟨λj a b e=>by simp at e,by simp⟩
 |[],b::bs,r,h=>by cases h;exact⟨λj a b e=>by simp at e,by simp⟩
 |a::as,[],r,h=>by cases h;exact⟨λj a b _ e=>by simp at e,by simp⟩
 |a::as,b::bs,r,h=>by
  simp only[MW.O5] at h;split at h
  .rename_i x y G R
   cases h;obtain⟨S,u⟩:=Hx R;refine⟨λj J L Z Y=>?_,?_⟩
   .cases j with
    |zero=>simp at Z Y;subst Z Y;exact⟨x,G⟩|succ j=>exact S j J L (by simpa using Z) (by simpa using Y)
   .rw[gm,gm,Nat.succ_min_succ,List.range_succ_eq_map,List.all_cons,List.all_map]
    have z:Gx f (a::as) (b::bs) 0=x:=by simp[Gx,G]
    have C:(Gx f (a::as) (b::bs) ∘ Nat.succ)=Gx f as bs:=by funext j;simp[Gx]
    rw[z,C,u];have U:(as.length+1==bs.length+1)=(as.length==bs.length):=by
     by_cases q:as.length=bs.length
     .simp[q]
     .have:¬(as.length+1=bs.length+1):=by lia
      simp[q,this]
    rw[U,Bool.and_assoc]
  .cases h
set_option tactic.hygienic true in
theorem Oh{ι:Io}{H:Hp}{K:Fg}{f:Dv->Dv->Option Bool}(Z:∀x y v r,Rep K ι H x v->Rep K ι H y v->f x y=some r->r=true):∀{as bs:List Dv}{vs:List V}{r:Bool},my K ι H as vs->my K ι H bs vs->MW.O5 f as bs=some r->r=true
 |_,_,_,_,.nil,.nil,h=>by cases h;rfl
 |_,_,_,_,.cons h1 t1,.cons h2 t2,h=>by
  simp only[MW.O5] at h;split at h
  .rename_i x y G Y
   cases h;rw[Z _ _ _ _ h1 h2 G,Oh Z t1 t2 Y];rfl
  .cases h
inductive EqI(M:cz)(f:Dv->Dv->Option Bool):Dv->Dv->Bool->Prop
 |non:EqI M f .non .non true
 |bl (a b:Bool):EqI M f (.bl a) (.bl b) (a==b)
 |int (a b:Int):EqI M f (.int a) (.int b) (decide (a=b))
 |str (a b:Str):EqI M f (.str a) (.str b) (decide (a=b))
 |tup {as bs:List Dv} {r:Bool} (h:MW.O5 f as bs=some r):EqI M f (.tup as) (.tup bs) r
 |lst {x y:Dv} {as bs:List Dv} {r:Bool} (h1:MW.fu M x=some as) (h2:MW.fu M y=some bs) (h:(if as.length=bs.length then MW.O5 f as bs else some false)=some r):EqI M f x y r
set_option tactic.hygienic true in
def aba(h:MW.Ka M (k+1) x y=some r):EqI M (MW.Ka M k) x y r:=by
 unfold MW.Ka at h;split at h
 .cases h;exact .int _ _
 .cases h;exact .bl _ _
 .cases h;exact .str _ _
 .cases h;exact .non
 .exact .tup h
 .split at h
  .rename_i Y Z;exact .lst Y Z h
  .cases h
def ady{X:Cx}(S:lz nm X.K ι H M)(U:Rep X.K ι H x v)(ry:Rep X.K ι H y v)(h1:MW.fu M x=some ds)(h2:MW.fu M y=some es):∃vs,my X.K ι H ds vs/\my X.K ι H es vs:=by obtain⟨p,vs,rfl,G,g2⟩:=uv S U h1;obtain⟨p',ws,R,Z,g4⟩:=uv S ry h2;cases R;rw[G] at Z;cases Z;exact⟨vs,g2,g4⟩
theorem abb{nm:Nm}{ι:Io}{H:Hp}{M:cz}{X:Cx}(S:lz nm X.K ι H M):∀(k:Nat)(x y:Dv)(v:V)(r:Bool),Rep X.K ι H x v->Rep X.K ι H y v->MW.Ka M k x y=some r->r=true
 |0,_,_,_,_,_,_,h=>by cases h
 |k+1,x,y,v,r,rx,ry,h=>by
  have R:=abb S k;cases aba h with
  |non=>rfl|bl a b=>cases rx;cases ry;simp|int a b=>cases rx;cases ry;simp|str a b=>cases rx;cases ry;simp
  |tup h=>cases rx with
   |tup e1 G=>cases ry with
    |tup e2 Z=>rw[e1] at e2;cases e2;exact Oh R G Z h
  |lst h1 h2 U =>
   obtain⟨vs,G,Z⟩:=ady S rx ry h1 h2;rw[cj (G.length.trans Z.length.symm)] at U;exact Oh R G Z U
def Vals.adz{j:Nat}(r:Vals xs us)(U:xs[j]?=some v)(R:us[j]?=some u):RelV v u:=by obtain⟨u',Z,G⟩:=L2.Vals.get r U;rw[R] at Z;cases Z;exact G
theorem Qo{ι:Io}{H:Hp}{K:Fg}:∀{l:List (List Kx×Dv)}{Z:List (List Key×V)},uh K ι H (λk k'=>k=k') l Z->Z.map (·.1)=l.map (·.1)
 |_,_,.nil=>rfl|_,_,.cons k h t=>by simp[Qo t,k]
def ah9(r:KT H l xs):xs.map (·.1)=l.map (·.1)/\∀x∈xs,H x.2.1=some (.tup (x.1.map kV)):=by
 induction r with
 |nil=>exact⟨rfl,by simp⟩
 |@cons p q ps qs hq t ih =>
  refine⟨by simp[ih.1,hq.1],λx Z=>?_⟩;rcases bz.mp Z with rfl|Z
  .rw[<- hq.1];exact hq.2.1
  .exact ih.2 x Z
set_option tactic.hygienic true in
theorem Ww{nm:Nm}{X:Cx}{ι:Io}{H:Hp}{σ:St}{M:cz}{qk:Zp}{s:Shared}(I:Inv X qk σ H s)(S:lz nm X.K ι H M):∀(k:Nat)(A:Around)(x y:Dv)(v u:V)(v' u':Value)(r:Bool),Ag k A->Rep X.K ι H x v->Rep X.K ι H y u->RelV v v'->RelV u u'->MW.Ka M k x y=some r->SeqAt.EqAt A s v' u' r
 |0,_,_,_,_,_,_,_,_,_,_,_,_,_,h=>by cases h
 |k+1,A,x,y,v,u,v',u',r,hr,rx,ry,rv,ru,h=>by
  have ih:=Ww I S k A.in1;have q3:=hr.in1;have elems:∀(Z Y:List Dv)(vs ws:List V)(is G:Zl)(rr:Bool),my X.K ι H Z vs->my X.K ι H Y ws->Vals vs is->Vals ws G->MW.O5 (MW.Ka M k) Z Y=some rr ->
   ∀j (h1:j<is.toArray.size) (h2:j<G.toArray.size),SeqAt.EqAt A.in1 s is.toArray[j] G.toArray[j] (Gx (MW.Ka M k) Z Y j):=λZ Y vs ws is G rr rd re X6 qv he j h1 h2=>by
   have l1:j<Z.length:=by rw[rd.length,X6.length];simpa using h1
   have l2:j<Y.length:=by rw[re.length,qv.length];simpa using h2
   have g1:Z[j]?=some Z[j]:=by simp[l1]
   have J:Y[j]?=some Y[j]:=by simp[l2]
   obtain⟨c,hc⟩:=(Hx he).1 j _ _ g1 J;obtain⟨va,a1,a2⟩:=rd.get g1;obtain⟨wa,b1,b2⟩:=re.get J;have q1:is[j]?=some is.toArray[j]:=by simp
   have q2:G[j]?=some G.toArray[j]:=by simp
   have:=ih _ _ va wa _ _ c q3 a2 b2 (Vals.adz X6 a1 q1) (Vals.adz qv b1 q2) hc;have z:Gx (MW.Ka M k) Z Y j=c:=by simp[Gx,g1,J,hc]
   rw[z];exact this
  have qq:∀(p p2:Addr)(Z Y:List Dv),v=.ref p->u=.ref p2->MW.fu M x=some Z->MW.fu M y=some Y->(if Z.length=Y.length then MW.O5 (MW.Ka M k) Z Y else some false)=some r->SeqAt.EqAt A s v' u' r:=λp p2 Z Y hv hu h1 h2 C=>by
   subst hv hu;cases rv;cases ru;obtain⟨_,vs,hv,g1,J⟩:=uv S rx h1;cases hv;obtain⟨_,ws,hw,g3,g4⟩:=uv S ry h2;cases hw
   by_cases U:p=p2
   .subst U
    have:r=true:=by rw[g1] at g3;cases g3;rw[cj (J.length.trans g4.length.symm)] at C;exact Oh (λx y v r a b c=>abb S k x y v r a b c) J g4 C
    rw[this];exact SeqAt.EqAt.same _
   .refine SeqAt.EqAt.of_refs U ?_
    obtain⟨is,r1,R,_⟩:=I.list (Gw.of g1);obtain⟨G,r2,L,_⟩:=I.list (Gw.of g3)
    by_cases hl:Z.length=Y.length
    .rw[cj hl] at C
     have q0:is.toArray.size=G.toArray.size:=by simp[<- r1.length,<- r2.length,<- J.length,<- g4.length,hl]
     have:=SeqAt.RcAt.lists (e:=Gx (MW.Ka M k) Z Y) R.isList L.isList q0 hr.Wf (elems Z Y vs ws is G r J g4 r1 r2 C);rw[(Hx C).2];have e1:is.toArray.size=min Z.length Y.length:=by simp[<- r1.length,<- J.length,hl]
     rw[e1] at this;simpa[hl] using this
    .rw[bx hl] at C
     cases C;exact SeqAt.RcAt.lists_lengths R.isList L.isList (by simp[<- r1.length,<- r2.length,<- J.length,<- g4.length,hl]) hr.Wf
  cases aba h with
  |non=>cases rx;cases ry;cases rv;cases ru;exact SeqAt.EqAt.same _|bl a b=>cases rx;cases ry;cases rv;cases ru;exact SeqAt.EqAt.bool_bool _ _
  |int a b =>
   cases rx;cases ry;obtain⟨t,rfl⟩:=rv;obtain⟨t2,rfl⟩:=ru;rw[<- Bool.beq_eq_decide_eq];exact SeqAt.EqAt.int_int _ _ _ _
  |str a b =>
   cases rx;cases ry;obtain⟨t,rfl⟩:=rv;obtain⟨t2,rfl⟩:=ru;rw[<- Bool.beq_eq_decide_eq];exact SeqAt.EqAt.str_str _ _ _ _
  |@tup Z Y _ h=>cases rx with
   |@tup p _ vs e1 r1=>cases ry with
    |@tup p2 _ ws e2 r2 =>
     cases rv;cases ru
     by_cases U:p=p2
     .subst U
      have:r=true:=by rw[e1] at e2;cases e2;exact Oh (λx y v r a b c=>abb S k x y v r a b c) r1 r2 h
      rw[this];exact SeqAt.EqAt.same _
     .refine SeqAt.EqAt.of_refs U ?_
      obtain⟨is,g1,R,_⟩:=I.tuple (J5.of e1);obtain⟨G,J,L,_⟩:=I.tuple (J5.of e2);have:=SeqAt.RcAt.tuples (e:=Gx (MW.Ka M k) Z Y) (show s.heap.IsTuple p is.toArray from R) (show s.heap.IsTuple p2 G.toArray from L) hr.Wf (elems Z Y vs ws is G r r1 r2 g1 J h);rw[(Hx h).2];have z1:is.toArray.size=Z.length:=by simp[<- g1.length,<- r1.length]
      have z2:G.toArray.size=Y.length:=by simp[<- J.length,<- r2.length]
      rw[z1,z2] at this;exact this
  |lst h1 h2 C =>
   obtain⟨p,_,e1,_⟩:=uv S rx h1;obtain⟨p2,_,e2,_⟩:=uv S ry h2;exact qq p p2 _ _ e1 e2 h1 h2 C
inductive abd(A:Around)(s:Shared):Value->Value->Bool->Prop
 |Wd {p p2:Addr} {is js:Q1} (e:Nat->Bool) (h1:s.heap.IsTuple p is) (h2:s.heap.IsTuple p2 js) (he:∀j (h1:j<is.size) (h2:j<js.size),SeqAt.EqAt A.in1 s is[j] js[j] (e j)):abd A s (.ref p) (.ref p2) ((List.range (min is.size js.size)).all e&&is.size==js.size)
 |a8y {p p2:Addr} {is js:Q1} (e:Nat->Bool) (h1:s.heap.IsList p is) (h2:s.heap.IsList p2 js) (hz:is.size=js.size) (he:∀j (h1:j<is.size) (h2:j<js.size),SeqAt.EqAt A.in1 s is[j] js[j] (e j)):abd A s (.ref p) (.ref p2) ((List.range is.size).all e)
 |lens {p p2:Addr} {is js:Q1} (h1:s.heap.IsList p is) (h2:s.heap.IsList p2 js) (hz:(is.size != js.size)=true):abd A s (.ref p) (.ref p2) false
def Ze{A:Around}(I:Inv X pins σ H s)(S:lz nm X.K ι H M)(hr:Ag k A.in1)(rd:my X.K ι H ds vs)(re:my X.K ι H es ws)(X6:Vals vs is)(Z:Vals ws G)(he:MW.O5 (MW.Ka M k) ds es=some rr) :
 ∀j (h1:j<is.toArray.size) (h2:j<G.toArray.size),SeqAt.EqAt A.in1 s is.toArray[j] G.toArray[j] (Gx (MW.Ka M k) ds es j):=λj h1 h2=>by
 have l1:j<ds.length:=by rw[rd.length,X6.length];simpa using h1
 have l2:j<es.length:=by rw[re.length,Z.length];simpa using h2
 have R:ds[j]?=some ds[j]:=by simp[l1]
 have U:es[j]?=some es[j]:=by simp[l2]
 obtain⟨c,hc⟩:=(Hx he).1 j _ _ R U;obtain⟨va,a1,a2⟩:=rd.get R;obtain⟨wa,b1,b2⟩:=re.get U;have q1:is[j]?=some is.toArray[j]:=by simp
 have q2:G[j]?=some G.toArray[j]:=by simp
 have:=Ww I S k A.in1 _ _ va wa _ _ c hr a2 b2 (Vals.adz X6 a1 q1) (Vals.adz Z b1 q2) hc;have z:Gx (MW.Ka M k) ds es j=c:=by simp[Gx,R,U,hc]
 rw[z];exact this
def agk(I:Inv X pins σ H s)(S:lz nm X.K ι H M)(hr:Ag k A.in1)(rx:Rep X.K ι H x v)(ry:Rep X.K ι H y u)(rv:RelV v v')(ru:RelV u u')(h1:MW.fu M x=some ds)(h2:MW.fu M y=some es)(G:(if ds.length=es.length then MW.O5 (MW.Ka M k) ds es else some false)=some r):abd A s v' u' r:=by
 obtain⟨p,vs,rfl,g1,g2⟩:=uv S rx h1;obtain⟨p2,ws,rfl,g3,g4⟩:=uv S ry h2;cases rv;cases ru;obtain⟨is,r1,R,_⟩:=I.list (Gw.of g1);obtain⟨js,r2,U,_⟩:=I.list (Gw.of g3)
 by_cases Z:ds.length=es.length
 .rw[cj Z] at G
  have qq:is.toArray.size=js.toArray.size:=by simp[<- r1.length,<- r2.length,<- g2.length,<- g4.length,Z]
  have z:=abd.a8y (A:=A) (Gx (MW.Ka M k) ds es) R.isList U.isList qq (Ze I S hr g2 g4 r1 r2 G);rw[(Hx G).2];have e1:is.toArray.size=min ds.length es.length:=by simp[<- r1.length,<- g2.length,Z]
  rw[e1] at z;simpa[Z] using z
 .rw[bx Z] at G
  cases G;exact .lens R.isList U.isList (by simp[<- r1.length,<- r2.length,<- g2.length,<- g4.length,Z])
set_option tactic.hygienic true in
def ad0(I:Inv X pins σ H s)(S:lz nm X.K ι H M)(L:Ag k A.in1)(Z:Rep X.K ι H x v)(Y:Rep X.K ι H y u)(rv:RelV v v')(C:RelV u u')(h:MW.Ka M (k+1) x y=some r) :
 abd A s v' u' r\/(a0g v u=true/\r=decide (v=u)):=by
 cases aba h with
 |non=>cases Z;cases Y;exact .inr ⟨rfl,by simp⟩|bl a b=>cases Z;cases Y;exact .inr ⟨rfl,by by_cases z:a=b<;>simp[z]⟩|int a b=>cases Z;cases Y;exact .inr ⟨rfl,by by_cases z:a=b<;>simp[z]⟩|str a b=>cases Z;cases Y;exact .inr ⟨rfl,by by_cases z:a=b<;>simp[z]⟩
 |@tup ds es _ h=>cases Z with
  |@tup p _ vs e1 r1=>cases Y with
   |@tup p2 _ ws e2 r2 =>
    cases rv;cases C;obtain⟨is,U,J,_⟩:=I.tuple (J5.of e1);obtain⟨R,g2,G,_⟩:=I.tuple (J5.of e2);have z:=abd.Wd (A:=A) (Gx (MW.Ka M k) ds es) (show s.heap.IsTuple p is.toArray from J) (show s.heap.IsTuple p2 R.toArray from G) (Ze I S L r1 r2 U g2 h);rw[(Hx h).2];have z1:is.toArray.size=ds.length:=by simp[<- U.length,<- r1.length]
    have z2:R.toArray.size=es.length:=by simp[<- g2.length,<- r2.length]
    rw[z1,z2] at z;exact .inl z
 |lst h1 h2 h3=>exact .inl (agk I S L Z Y rv C h1 h2 h3)
def abd.rc(h:abd A s v u r)(U:A.units<cLine):SeqAt.RcAt A s v u r/\SeqAt.RcNeAt A s v u (!r):=by
 cases h with
 |Wd e G Z R=>exact⟨SeqAt.RcAt.tuples G Z U R,SeqAt.RcNeAt.tuples G Z U R⟩|a8y e G Z hz R=>exact⟨SeqAt.RcAt.lists G Z hz U R,SeqAt.RcNeAt.lists G Z hz U R⟩|lens G Z hz=>exact⟨SeqAt.RcAt.lists_lengths G Z hz U,SeqAt.RcNeAt.lists_lengths G Z hz U⟩
def be7(G:Ag 6 X.A):De X (compareOp .Eq) (Xq nm X.K .eq):=λZ s σ H v u v' u' Q I R U hh=>by
 obtain⟨ι,M,x,y,b,S,rx,ry,e,q⟩:=hh;have e:MW.Ka M 6 x y=some b:=e;rcases ad0 (A:=X.A) I S G.in1 rx ry R U e with h|⟨h1,h2⟩
 .exact(h.rc G.Wf).1 X.prog X.w X.xe _ ⟨.bl b,H,I,rfl,q⟩
 .subst h2
  exact a67 Z s σ H v u v' u' Q I R U ⟨h1,q⟩
def be8(G:Ag 6 X.A):De X (compareOp .NotEq) (Xq nm X.K .ne):=λZ s σ H v u v' u' Q I R U hh=>by
 obtain⟨ι,M,x,y,b,S,rx,ry,e,q⟩:=hh;obtain⟨b',e1,e2⟩:=cg.mp (show(MW.za M x y).map not=some b from e);subst e2;rcases ad0 (A:=X.A) I S G.in1 rx ry R U (show MW.Ka M 6 x y=_ from e1) with h|⟨h1,h2⟩
 .exact(h.rc G.Wf).2 X.prog X.w X.xe _ ⟨.bl !b',H,I,rfl,q⟩
 .subst h2
  exact a68 Z s σ H v u v' u' Q I R U ⟨h1,q⟩
section
variable{nm:Nm}{W:G5}{X:Cx}{a b c o:Expr}{a' b' c' o':Ex}{pos pos' apos:Pos}{ι:Io}{H:Hp}{σ:St}{ρ:En}{M M1 M2:cz}{x y:Dv}{es:X0}{es':Dg}
set_option tactic.hygienic true in
theorem Fl:∀{ds:List Dv}{bs:List Bool},MW.Pz M x ds=some bs->bs.length=ds.length/\∀(j:Nat) d,ds[j]?=some d->∃b,bs[j]?=some b/\MW.za M d x=some b
 |[],bs,h=>by cases h;exact⟨rfl,λj d e=>by simp at e⟩
 |y::ys,bs,h=>by
  simp only[MW.Pz] at h;split at h
  .rename_i a b J Z
   cases h;obtain⟨Y,G⟩:=Fl Z;refine⟨by simp[Y],λj d e=>?_⟩;cases j with
   |zero=>simp at e;subst e;exact⟨a,rfl,J⟩|succ j=>simpa using G j d (by simpa using e)
  .cases h
def Gz(I:Inv X pins σ H s)(e:aa6 X.K H p vs):(∃o,H p=some (.N6 o (.lst vs)))\/(H p=none/\∃(o:Obj)(Z:Q1)(n:Nat),X.K.lookup p=some o/\o.data=.seq Z n/\Vals vs Z.toList):=by
 rcases e with h|⟨o,Z,n,h1,_,_,h2,_,h3⟩
 .exact .inl h
 .exact .inr ⟨(I.bs p o (I.mod.kin p o h1)).2,o,Z,n,h1,h2,h3⟩
def a1i(I:Inv X pins σ H s)(e:aa6 X.K H p vs)(e2:aa6 X.K H p ws):vs=ws:=by
 rcases Gz I e with⟨o,h⟩|⟨h,o,yq,n,h1,h2,h3⟩
 .rcases Gz I e2 with⟨o',Z⟩|⟨Z,_⟩
  .rw[h] at Z;cases Z;rfl
  .rw[h] at Z;cases Z
 .rcases Gz I e2 with⟨o',Z⟩|⟨_,o',qq,n',U,G,R⟩
  .rw[h] at Z;cases Z
  .rw[h1] at U;cases U
   rw[h2] at G;cases G;exact Vals.inj h3 R
mutual
theorem aia{R:Zp}{s:Shared}(I:Inv X R σ H s)(S:lz nm X.K ι H M):∀{d d':Dv}{v:V},Rep X.K ι H d v->Rep X.K ι H d' v->d=d'
 |_,_,_,.non,r=>by cases r;rfl|_,_,_,.bl b,r=>by cases r;rfl|_,_,_,.int i,r=>by cases r;rfl|_,_,_,.str z,r=>by cases r;rfl
 |_,_,_,.tup e1 r1,r=>by
  cases r with
  |tup Z G =>
   rw[e1] at Z;cases Z;rw[Rz I S r1 G]
  |vl Z n2 G=>rw[e1] at Z;cases Z
  |fz Z G =>
   rcases Gz I Z with⟨o,h⟩|⟨h,_⟩
   .rw[e1] at h;cases h
   .rw[e1] at h;cases h
  |ref Z =>
   obtain⟨u,q,U⟩:=S.mem (az Z);rw[e1] at U;exact U.elim
 |_,_,_,.vl e1 n1 r1,r=>by
  cases r with
  |tup Z G=>rw[e1] at Z;cases Z
  |vl Z n2 G =>
   rw[e1] at Z;cases Z;rw[Rz I S r1 G]
  |fz Z G =>
   rcases Gz I Z with⟨o,h⟩|⟨h,_⟩
   .rw[e1] at h;cases h
   .rw[e1] at h;cases h
  |ref Z=>exact absurd (az Z) n1.1
 |_,_,_,.fz e1 r1,r=>by
  cases r with
  |tup Z G =>
   rcases Gz I e1 with⟨o,h⟩|⟨h,_⟩
   .rw[Z] at h;cases h
   .rw[Z] at h;cases h
  |vl Z n2 G =>
   rcases Gz I e1 with⟨o,h⟩|⟨h,_⟩
   .rw[Z] at h;cases h
   .rw[Z] at h;cases h
  |fz Z G =>
   have:=a1i I e1 Z;subst this;rw[Rz I S r1 G]
  |ref Z =>
   obtain⟨u,q,U⟩:=S.mem (az Z);rcases Gz I e1 with⟨o,h⟩|⟨h,_⟩
   .rw[h] at U;exact U.elim
   .rw[h] at q;cases q
 |_,_,_,.ref e1,r=>by
  cases r with
  |tup Z G =>
   obtain⟨u,q,U⟩:=S.mem (az e1);rw[Z] at U;exact U.elim
  |vl Z n2 G=>exact absurd (az e1) n2.1
  |fz Z G =>
   obtain⟨u,q,U⟩:=S.mem (az e1);rcases Gz I Z with⟨o,h⟩|⟨h,_⟩
   .rw[h] at U;exact U.elim
   .rw[h] at q;cases q
  |ref Z =>
   obtain⟨l1,q1⟩:=ak.mp e1;obtain⟨l2,q2⟩:=ak.mp Z;rw[(Ba S.nd).mp (q1.trans q2.symm)]
theorem Rz{Z:Zp}{s:Shared}(I:Inv X Z σ H s)(S:lz nm X.K ι H M):∀{ds G:List Dv}{vs:List V},my X.K ι H ds vs->my X.K ι H G vs->ds=G
 |_,_,_,.nil,r=>by cases r;rfl
 |_,_,_,.cons h t,r=>by
  cases r with
  |cons U R=>rw[aia I S h U,Rz I S t R]
end
def R8(I:Inv X pins σ H s)(S:lz nm X.K ι H M)(hr:Ag 6 A)(rd:my X.K ι H ds vs)(rv:Vals vs is)(rx:Rep X.K ι H x u)(ru:RelV u u')(h:MW.Pz M x ds=some bs):∃e:Value->Bool,(∀w,w∈is.toArray->SeqAt.EqAt A s w u' (e w))/\∀(j:Nat)(w:Value),is[j]?=some w->bs[j]?=some (e w):=by
 obtain⟨g1,g2⟩:=Fl h;have U:∀(j:Nat)(w:Value),is[j]?=some w->∃b,bs[j]?=some b/\SeqAt.EqAt A s w u' b:=λj w G=>by
  have lj:j<ds.length:=by rw[rd.length,rv.length];exact(ak.mp G).1
  have gd:ds[j]?=some ds[j]:=by simp[lj]
  obtain⟨b,R,e2⟩:=g2 j _ gd;obtain⟨v,a1,a2⟩:=rd.get gd;exact⟨b,R,Ww I S 6 A _ _ v u w u' b hr a2 rx (Vals.adz rv a1 G) ru e2⟩
 classical
 refine⟨λw=>if G:∃j:Nat,is[j]?=some w then(bs[G.choose]?).getD false else false,λw G=>?_,λj w G=>?_⟩
 .obtain⟨j,hj,e⟩:=qd (by simpa using G:w∈is)
  have Z:∃j:Nat,is[j]?=some w:=⟨j,by simp[hj,e]⟩;obtain⟨b,R,e2⟩:=U Z.choose w Z.choose_spec;simp only[dif_pos Z,R,Option.getD_some];exact e2
 .have Z:∃j:Nat,is[j]?=some w:=⟨j,G⟩
  obtain⟨b,R,e2⟩:=U j w G;obtain⟨b',e3,e4⟩:=U Z.choose w Z.choose_spec;simp only[dif_pos Z,e3,Option.getD_some];rw[R]
  congr 1
  have lj:j<ds.length:=by rw[rd.length,rv.length];exact(ak.mp G).1
  have lk:Z.choose<ds.length:=by rw[rd.length,rv.length];exact(ak.mp Z.choose_spec).1
  have gd:ds[j]?=some ds[j]:=by simp[lj]
  have gk:ds[Z.choose]?=some ds[Z.choose]:=by simp[lk]
  obtain⟨c1,q1,q2⟩:=g2 j _ gd;obtain⟨c2,q3,q4⟩:=g2 Z.choose _ gk;obtain⟨v1,p1,p2⟩:=rd.get gd;obtain⟨v2,p3,p4⟩:=rd.get gk;have hv:v1=v2:=RelV.inj (Vals.adz rv p1 G) (Vals.adz rv p3 Z.choose_spec);subst hv;rw[R] at q1;rw[e3] at q3;cases q1;cases q3;have hd:=aia I S p2 p4;rw[hd,q4] at q2;exact(jt q2).symm
def Vo{is:Zl}{bs:List Bool}(hl:bs.length=is.length)(h:∀(j:Nat) (w:Value),is[j]?=some w->bs[j]?=some (e w)):bs=is.map e:=by
 apply ye;intro j;rw[jh];cases q:is[j]? with
 |none=>rw[kj (by rw[hl];exact List.getElem?_eq_none_iff.mp q)];rfl|some w=>rw[h j w q];rfl
set_option tactic.hygienic true in
def be9(hr:Ag 8 X.A):De X (compareOp .In) (Xq nm X.K .inn):=λC s σ H v u v' u' Q I rv ru hh=>by
 obtain⟨ι,M,x,y,b,S,rx,ry,e,q⟩:=hh;have e:MW.O3 M x y=some b:=e;have hu:X.A.units+1<cLine:=adh hr
 have qq:∀G,MW.wz M y=some G->MW.memD M x G=some b->wpAny (model X.prog X.w) X.A (compareOp .In v' u') (EP X C σ Q) X.xe s:=λG Y Z=>by
  obtain⟨bs,U,J⟩:=cg.mp (show(MW.Pz M x G).map (·.any id)=some b from Z);obtain⟨p,vs,rfl,L,r⟩:=Fi S ry Y;cases ru;rcases L with L|L
  .obtain⟨is,R,pl,_⟩:=I.list (Gw.of L)
   obtain⟨f,g1,g2⟩:=R8 (A:=X.A.in1) I S ((hr.mono (by decide:7<=8)).in1) r R rx rv U;refine SeqAt.in_listAt f pl.isList g1 ?_;have:=Vo (by rw[(Fl U).1,r.length,R.length]) g2;rw[this] at J;rw[show is.toArray.any f=b by rw[<- J];simp[Bk]];exact⟨.bl b,H,I,rfl,q⟩
  .obtain⟨is,R,pl,_⟩:=I.tuple (J5.of L)
   obtain⟨f,g1,g2⟩:=R8 (A:=X.A.in1) I S ((hr.mono (by decide:7<=8)).in1) r R rx rv U;refine SeqAt.in_tupleAt f (show s.heap.IsTuple p is.toArray from pl) g1 ?_;have:=Vo (by rw[(Fl U).1,r.length,R.length]) g2;rw[this] at J;rw[show is.toArray.any f=b by rw[<- J];simp[Bk]];exact⟨.bl b,H,I,rfl,q⟩
 cases ry with
 |@ref n p U =>
  simp only[MW.O3] at e;split at e
  .rename_i iu hM
   obtain⟨k,J,e3⟩:=cg.mp e;obtain⟨l,Y,Z⟩:=S.obj n _ p hM U;obtain⟨bb,rfl,hb⟩:=Wq rx J;cases ru;refine a7m hu I (Oc.t Y hb) rv λs' I'=>⟨.bl b,H,I',?_,q⟩
   rw[<- e3];cases hk:MW.xu iu k with
   |none=>rw[(Z.look (k:=k)).2 hk];rfl|some d=>obtain⟨z,h3,_⟩:=(Z.look (k:=k)).1 d hk;rw[h3];rfl
  .rename_i iu hM
   obtain⟨k,J,e3⟩:=cg.mp e;obtain⟨l,Y,Z⟩:=S.obj n _ p hM U;have hy:=T7 rx J;subst hy;cases ru;refine a7m hu I (Oc.k Y) rv λs' I'=>⟨.bl b,H,I',?_,q⟩
   rw[<- e3];cases hk:MW.xu iu k with
   |none=>rw[(Z.look (k:=k)).2 hk];rfl|some d=>obtain⟨z,h3,_⟩:=(Z.look (k:=k)).1 d hk;rw[h3];rfl
  .obtain⟨G,Y,Z⟩:=dm.mp e
   exact qq G Y Z
 |_ =>
  simp only[MW.O3] at e;obtain⟨G,Y,Z⟩:=dm.mp e;exact qq G Y Z
set_option tactic.hygienic true in
def auq(hr:Ag 8 X.A):De X (compareOp .NotIn) (Xq nm X.K .Ui):=λL s σ H v u v' u' Q I rv ru hh=>by
 obtain⟨ι,M,x,y,b0,S,rx,ry,e,q⟩:=hh;obtain⟨b,C,eb⟩:=cg.mp (show(MW.O3 M x y).map not=some b0 from e);subst eb;have hu:X.A.units+1<cLine:=adh hr
 have qq:∀G,MW.wz M y=some G->MW.memD M x G=some b->wpAny (model X.prog X.w) X.A (compareOp .NotIn v' u') (EP X L σ Q) X.xe s:=λG Y Z=>by
  obtain⟨bs,U,J⟩:=cg.mp (show(MW.Pz M x G).map (·.any id)=some b from Z);obtain⟨p,vs,rfl,R,r⟩:=Fi S ry Y;cases ru;rcases R with R|R
  .obtain⟨is,r1,pl,_⟩:=I.list (Gw.of R)
   obtain⟨f,g1,g2⟩:=R8 (A:=X.A.in1) I S ((hr.mono (by decide:7<=8)).in1) r r1 rx rv U;refine SeqAt.notIn_listAt f pl.isList g1 ?_;have:=Vo (by rw[(Fl U).1,r.length,r1.length]) g2;rw[this] at J;rw[show is.toArray.any f=b by rw[<- J];simp[Bk]];exact⟨.bl !b,H,I,rfl,q⟩
  .obtain⟨is,r1,pl,_⟩:=I.tuple (J5.of R)
   obtain⟨f,g1,g2⟩:=R8 (A:=X.A.in1) I S ((hr.mono (by decide:7<=8)).in1) r r1 rx rv U;refine SeqAt.notIn_tupleAt f (show s.heap.IsTuple p is.toArray from pl) g1 ?_;have:=Vo (by rw[(Fl U).1,r.length,r1.length]) g2;rw[this] at J;rw[show is.toArray.any f=b by rw[<- J];simp[Bk]];exact⟨.bl !b,H,I,rfl,q⟩
 cases ry with
 |@ref n p U =>
  clear e;simp only[MW.O3] at C;split at C
  .rename_i iu hM
   obtain⟨k,J,e3⟩:=cg.mp C;obtain⟨l,Y,Z⟩:=S.obj n _ p hM U;obtain⟨bb,rfl,hb⟩:=Wq rx J;cases ru;refine ahx hu I (Oc.t Y hb) rv λs' I'=>⟨.bl !b,H,I',?_,q⟩
   rw[<- e3];cases hk:MW.xu iu k with
   |none=>rw[(Z.look (k:=k)).2 hk];rfl|some d=>obtain⟨z,h3,_⟩:=(Z.look (k:=k)).1 d hk;rw[h3];rfl
  .rename_i iu hM
   obtain⟨k,J,e3⟩:=cg.mp C;obtain⟨l,Y,Z⟩:=S.obj n _ p hM U;have hy:=T7 rx J;subst hy;cases ru;refine ahx hu I (Oc.k Y) rv λs' I'=>⟨.bl !b,H,I',?_,q⟩
   rw[<- e3];cases hk:MW.xu iu k with
   |none=>rw[(Z.look (k:=k)).2 hk];rfl|some d=>obtain⟨z,h3,_⟩:=(Z.look (k:=k)).1 d hk;rw[h3];rfl
  .obtain⟨G,Y,Z⟩:=dm.mp C
   exact qq G Y Z
 |_ =>
  simp only[MW.O3] at C;obtain⟨G,Y,Z⟩:=dm.mp C;exact qq G Y Z
end
open Qu (Df Sy)
def KH(H:Hp)(x:List Key×Addr):Prop:=H x.2=some (.tup (x.1.map kV))/\∀k∈x.1,∃i,k=.inl i
def ad1(P:Program)(w:World)(H:Hp):Qu.Sx (o5 P w) (KH H):=λx G k U v n Z=>by
 obtain⟨i,rfl⟩:=G.2 k U;rcases Bc (show Wc (Sum.inl i) v=true from Z) with⟨j,t,e,rfl⟩|⟨y,t,e,_⟩
 .unfold hashByValue;rfl
 .cases e
def Tw:∀ks:List Kx,MW.Tf (MW.amd ks)=some ks:=λks=>by
 show MW.Z5 (ks.map MW.amc)=some ks
 induction ks with
 |nil=>rfl|cons k ks Z=>cases k<;>simp[MW.Z5,MW.amc,MW.Te,Z]
theorem Wx:∀{l:List (List Kx×Dv)},MW.Dr (l.map λp=>MW.amd p.1)=some (l.map (·.1))
 |[]=>rfl|p::l=>by simp[MW.Dr,Tw,Wx]
set_option tactic.hygienic true in
theorem aib{ι:Io}{H:Hp}{K:Fg}:∀{ds:List Dv}{vs:List V}{ks:List (List Kx)},my K ι H ds vs->MW.Dr ds=some ks->∃bs:List Addr,vs=bs.map V.ref/\bs.length=ks.length/\∀x∈ks.zip bs,H x.2=some (.tup (x.1.map kV))
 |_,_,_,.nil,h=>by simp[MW.Dr] at h;subst h;exact⟨[],rfl,rfl,by simp⟩
 |_,_,_,.cons r t,h=>by
  simp only[MW.Dr] at h;split at h
  .rename_i k Y U G
   cases h;obtain⟨b,rfl,e⟩:=Wq r U;obtain⟨bs,rfl,J,C⟩:=aib t G;refine⟨b::bs,rfl,by simp[J],λx Z=>?_⟩;simp only[List.zip_cons_cons,bz] at Z;rcases Z with rfl|Z
   .exact e
   .exact C x Z
  .cases h
def akm(h:MW.Dt ks=true):ks.length<=30/\∀k∈ks,∀x∈k,∃i,x=Sum.inl i:=by
 simp only[MW.Dt,aq,cu,jb] at h;refine⟨h.1,λk G x Z=>?_⟩;have:=h.2 k G x Z;cases x with
 |inl i=>exact⟨i,rfl⟩|inr s=>cases this
set_option tactic.hygienic true in
def ape(hr:Ag 8 X.A)(I:Inv X pins σ H s)(S:lz nm X.K ι H M)(rx:Rep X.K ι H x v)(ru:RelV v u)(Y:MW.keysOf M x=some ds)(hd:MW.Dr ds=some ks)(pl:MW.Dt ks=true)(h:∀p o n Z,Inv X ((p,o)::pins) σ H Z->Df (o5 X.prog X.w) (KH H) Z.heap p (λk=>k∈ks) n->Z.heap.get? p=some o->Q (.ref p) Z) :
 wpAny (model X.prog X.w) X.A (call (.type "set") [u]) Q X.xe s:=by
 obtain⟨qk,J⟩:=akm pl;have hu:X.A.in1.in1.in1.units+1<cLine:=by have:=hr.un;show X.A.units+1+1+1+1<cLine;lia
 have kept:∀b o,s.heap.get? b=some o->(s.heap.push (Qu.qx X.w)).get? b=some o:=λb o e=>ao _ e
 have I1:Inv X pins σ H { s with heap:=s.heap.push (Qu.qx X.w) }:=I.kept (t':=s.toks) kept;have fr:Df (o5 X.prog X.w) (KH H) (s.heap.push (Qu.qx X.w)) s.heap.objs.size (λ_=>False) 0:=Qu.arz (bc _ rfl);have fin:∀(G:Heap)(tk n':Nat),(∀b o,b≠s.heap.objs.size->(s.heap.push (Qu.qx X.w)).get? b=some o->G.get? b=some o)->Df (o5 X.prog X.w) (KH H) G s.heap.objs.size (λk=>k∈ks) n'->Q (.ref s.heap.objs.size) { s with heap:=G,toks:=tk }:=λG tk n' U hS=>by
  have I2:Inv X pins σ H { s with heap:=G,toks:=tk }:=I.kept λb o e=>U b o (dq (au e)) (kept b o e)
  obtain⟨o,es,ep,t,hg,hc,q4,_⟩:=hS.get;refine h _ o n' _ (I2.Kp λq hq=>?_) hS hg;rcases bz.mp hq with rfl|hq
  .refine⟨hg,I.Ar.fresh (bf _),o7 I.lt,I.ath (bf _),λv hv=>?_⟩
   rw[show o.data=_ from q4] at hv;cases hv
  .exact I2.pin q (gq _ hq)
 have lst:∀p vs,v=.ref p->H p=some (.lst vs)->my X.K ι H ds vs->wpAny (model X.prog X.w) X.A (call (.type "set") [u]) Q X.xe s:=λp vs ev hp r=>by
  subst ev;cases ru;obtain⟨is,rv,qv,_⟩:=I1.list (Gw.of hp);obtain⟨bs,rfl,qq,hz⟩:=aib r hd;have q1:is=(ks.zip bs).map λx=>Value.ref x.2:=by
   apply ye;intro j;rw[jh]
   by_cases hj:j<bs.length
   .have C:(bs.map V.ref)[j]?=some (.ref bs[j]):=by simp[hj]
    have L:j<is.length:=by have:=rv.length;simp at this;exact b_ hj (f_ this)
    have e2:is[j]?=some is[j]:=by simp[L]
    have:=Vals.adz rv C e2;rw[e2,show is[j]=Value.ref bs[j] from this];have q5:j<ks.length:=b_ hj (f_ qq)
    have q0:(ks.zip bs)[j]?=some (ks[j],bs[j]):=by rw[dj (by simp;lia)];simp
    rw[q0];rfl
   .have L:¬j<is.length:=by have:=rv.length;simp at this;exact j_ (a_ (g_ this) (s_ hj))
    rw[kj (s_ L),kj (by simp;lia)];rfl
  refine Qu.Ig (R:=λZ=>Q (.ref s.heap.objs.size) Z) ?_ λZ h=>h
  refine Qu.al5 (ad1 _ _ H) (ks:=ks.zip bs) (items:=is.toArray) (by have:=hr.hd;exact this) hu fr qv.isList (by simpa using q1) (λx y=>Ob I1.Ar (hz x y)) (λx y=>⟨hz x y,λk Y=>J x.1 (List.of_mem_zip (a:=x.1) (b:=x.2) y).1 k Y⟩) (by simp;lia) λG tk n' U hS=>?_
  refine fin G tk n' U (hS.congr λk=>?_);rw[List.map_fst_zip (g_ qq)]
 unfold MW.keysOf at Y;split at Y
 .rename_i n
  split at Y
  .rename_i iu hM
   cases Y;rw[Wx] at hd;cases hd;cases rx with
   |@ref n p C =>
    obtain⟨l,h1,h2⟩:=S.obj n _ p hM C;cases ru;obtain⟨_,q2,xs,q3,dd⟩:=aoj I1.Ar h1;obtain⟨k1,k2⟩:=ah9 q3;have k3:xs.map (·.1)=iu.map (·.1):=k1.trans (Qo h2);have hl:xs.length=iu.length:=by have:=nq List.length k3;simpa using this
    refine Qu.Ig (R:=λZ=>Q (.ref s.heap.objs.size) Z) ?_ λZ h=>h
    refine Qu.al2 (ad1 _ _ H) (by have:=hr.un;show X.A.units+1+1<cLine;lia) fr dd q2 (λx y=>⟨k2 x y,λk Y=>?_⟩) (by simp at qk;lia) λG n' sb hS=>?_
    .have:x.1∈iu.map (·.1):=by rw[<- k3];exact bw.mpr ⟨x,y,rfl⟩
     exact J x.1 this k Y
    .refine fin G s.toks n' (λb o hb e=>(sb.2 b hb).trans e) (hS.congr λk=>?_)
     rw[k3];simp
  .obtain⟨p,vs,C,e2,r⟩:=uv S rx Y
   exact lst p vs C e2 r
 .obtain⟨p,vs,C,e2,r⟩:=uv S rx Y
  exact lst p vs C e2 r
def a8z(hS:Df (o5 P w) (KH H) h p T n)(hg:h.get? p=some o)(Z:h'.get? p=some o)(le:∀a vs,H a=some (.tup vs)->H' a=some (.tup vs))(ok:Ph P w H' h'):Df (o5 P w) (KH H') h' p T n:=by obtain⟨xs,G,es,ep,t,D,r⟩:=hS;have e:G=o:=jt (D.get.symm.trans hg);subst e;refine⟨xs,G,es,ep,t,⟨Z,D.exa,D.dat,D.tab,D.ent,λx R=>?_,D.nod,D.led,D.Yh⟩,r⟩;obtain⟨_,U,k2⟩:=D.keys x R;exact⟨Ob ok (le _ _ U),le _ _ U,k2⟩
def ad2:MW.Ih xs ys=true↔∀k,k∈xs↔k∈ys:=by
 simp only[MW.Ih,aq,jb,zm,cu];constructor
 .rintro⟨R,G⟩ k
  exact⟨λh=>by obtain⟨y,Z,e⟩:=R k h;rw[<- e];exact Z,λh=>by obtain⟨y,Z,e⟩:=G k h;rw[<- e];exact Z⟩
 .exact λh=>⟨λx U=>⟨x,(h x).mp U,rfl⟩,λy Z=>⟨y,(h y).mpr Z,rfl⟩⟩
set_option tactic.hygienic true in
def aur(hr:Ag 8 X.A)(hg:Gl X C)(hm:X.mg C=none)(hv:bootBuiltins C=some (.type "set"))(hn:C≠"__name__")(Qw:(C==("__debug__" : Str))=false)(ha:PA X [a] (Vd nm W X.K (.cons a' .nil)))(hb:PA X [b] (Vd nm W X.K (.cons b' .nil)))(he:starEach [a] X.env=(false,eval a X.env)::starEach [] X.env)(q7:starEach [b] X.env=(false,eval b X.env)::starEach [] X.env)(Gu:(backTo q1 (starEach [] X.env)).any (·.1)=false)(qq:(backTo q2 (starEach [] X.env)).any (·.1)=false) :
 PC X .NotEq (.Call (.Name C p1) [a] [] q1) (.Call (.Name C p2) [b] [] q2) (tE nm W X.K (.V0 a' b')):=by
 intro u s σ H Q I hh;obtain⟨ι,ρ,M,d,M',S,R,e,q⟩:=hh;rw[MW.Yj] at e;obtain⟨x,M1,e1,e⟩:=dz e;cases hk1:(MW.keysOf M1 x).bind MW.Dr with
 |none=>rw[hk1] at e;cases e
 |some ks =>
  rw[hk1] at e;simp only at e;split at e
  .rename_i q3
   obtain⟨y,M2,e2,e⟩:=dz e;cases hk2:(MW.keysOf M2 y).bind MW.Dr with
   |none=>rw[hk2] at e;cases e
   |some ls =>
    rw[hk2] at e;simp only at e;split at e
    .rename_i qk
     cases e;obtain⟨zk,g1,q0⟩:=dm.mp hk1;obtain⟨zz,g2,q8⟩:=dm.mp hk2;refine gn (Bq I hg hm hv ?_ hn Qw);refine iw (Bj (ha q1 u s σ H (λU J=>∃Z v,U=[v]/\Le ι H Z J/\lz nm X.K Z J M1/\Rep X.K Z J x v) I ⟨ι,ρ,M,[x],M1,S,R,by simp[e1,Res.bind],fun Z J U le S1 r=>?_⟩) λus s1 ⟨U,J,I1,r1,Z,v,ev,T6,S1,rx⟩=>?_) he Gu
     .obtain⟨v,ev,L⟩:=Fw r rfl
      exact⟨Z,v,ev,le,S1,L⟩
     subst ev;cases r1 with
     |cons L rn =>
      cases rn;refine ape hr I1 S1 rx L g1 q0 q3 λp o n s2 I2 hS q6=>?_
      refine gn (Bq I2 hg hm hv ?_ hn Qw);refine iw (Bj (hb q2 _ s2 σ J (λU G=>∃Y v,U=[v]/\Le Z J Y G/\lz nm X.K Y G M'/\Rep X.K Y G y v) I2 ⟨Z,ρ,M1,[y],M',S1,R.mono T6,by simp[e2,Res.bind],fun Y G U le S2 r=>?_⟩) λus s3 ⟨U,G,I3,r2,Y,v2,ev2,Ak,S2,ry⟩=>?_) q7 qq
      .obtain⟨v,ev,L⟩:=Fw r rfl
       exact⟨Y,v,ev,le,S2,L⟩
      subst ev2;cases r2 with
      |cons qv q4 =>
       cases q4;refine ape hr I3 S2 ry qv g2 q8 qk λp' o' n' s4 I4 J8 zv=>?_
       have hp:s4.heap.get? p=some o:=(I4.pin (p,o) (gq _ (bh _ dg))).1;have q5:=a8z (H':=G) hS q6 hp Ak.tup I4.Ar;refine Qu.a5c (by have:=hr.un;show X.A.units+1<cLine;lia) (by have:=hr.un;lia) q5 J8 λc hc=>?_
       have ec:c=!MW.Ih ks ls:=by have:=ad2 (xs:=ks) (ys:=ls);cases c<;>cases h:MW.Ih ks ls<;>simp_all
       refine⟨.bl c,G,(I4.Kp λz hz=>I4.pin z (gq _ (bh _ (bh _ hz)))),rfl,?_⟩;rw[ec];exact q Y G _ (T6.trans Ak) S2 (.bl _)
    .cases e
  .cases e
def rM(nm:Nm)(K:Fg)(m:Bm):V->List V->Hp->VK->Prop:=λv vs H Q=>∃U M x ds d R,lz nm K U H M/\Rep K U H x v/\my K U H ds vs/\MW.Jl m x ds M=.ok d R/\(∀ts,x=.tup ts->m≠.index) /\
 ∀Z G w,Le U H Z G->lz nm K Z G R->Rep K Z G d w->Q w G
set_option tactic.hygienic true in
theorem a1k{id:String}(hT:∀ι H M x v,lz nm X.K ι H M->Rep X.K ι H x v->MW.Qa m x M=true->tyV X.K T v H)(pa:PlainAttrs T)(Y:Slot T name id)(J:typeOf (.builtin id)=pure (.type "method_descriptor"))(y:MtR X id (rM nm X.K m))(ho:PE X o (tE nm W X.K o'))(ha:PA X (e::es) (Vd nm W X.K es'))(C:attributeBase o name X.env (eval o X.env)=eval o X.env)(U:((backTo G (starEach (e::es) X.env)).all (λx=>!x.1)&&(backToKw G (keywordEach [] X.env)).all (λx=>x.1.isSome)
&&decide ((e::es).length+([]:List Keyword).length+(if([]:List Keyword).isEmpty then 0 else 1)<30))=true)(qq:(apos.endLine==G.line)=true)(hs:starEach (e::es) X.env=(false,eval e X.env)::starEach es X.env)(qk:(backTo G (starEach es X.env)).any (·.1)=false) :
 PE X (.Call (.Attribute o name apos) (e::es) [] G) (tE nm W X.K (.bm m o' es')) :=
 PE.of (a7u pa Y J y ho ha C U qq hs qk) fun σ H Q ι ρ M d M' S R e q=>by
  rw[MW.ayu] at e;obtain⟨x,M1,e1,e⟩:=dz e;split at e
  .rename_i ht
   obtain⟨ds,M2,e2,e⟩:=dz e;exact one S R e1 fun Z H1 v le S1 R1 r=>⟨hT Z H1 M1 x v S1 r ht,Z,ρ,M1,ds,M2,S1,R1,e2,fun u H2 vs Ak S2 rs=>⟨u,M2,x,ds,d,M',S2,r.mono Ak,rs,e,(λts hx y=>by subst hx;subst y;cases ht),fun L H' w Xp S' r'=>q L H' w ((le.trans Ak).trans Xp) S' r'⟩⟩
  .cases e
set_option tactic.hygienic true in
def ty_list{X:Cx}(U:m=.append\/m=.index)(S:lz nm X.K ι H M)(r:Rep X.K ι H x v)(h:MW.Qa m x M=true):tyV X.K "list" v H:=by
 have go:∀Z,MW.fu M x=some Z->tyV X.K "list" v H:=λZ Y=>by obtain⟨p,J,rfl,C,_⟩:=uv S r Y;exact .inl ⟨rfl,J,Gw.of C⟩
 rcases U with rfl|rfl
 .cases x<;>simp only[MW.Qa] at h<;>try cases h
  split at h
  .rename_i n Z G
   exact go Z (by simp only[MW.fu,G])
  .cases h
 .have h:(MW.fu M x).isSome=true:=h
  obtain⟨Z,Y⟩:=qy.mp h;exact go Z Y
set_option tactic.hygienic true in
def aut(e:MW.Jl .append x ds M=.ok d M'):∃n Z xs,x=.ref n/\ds=[Z]/\M[n]?=some (.lst xs)/\xs.length<100000/\d=.non/\M'=M.set n (.lst (xs++[Z])):=by
 unfold MW.Jl at e;split at e
 .rename_i n Z
  split at e
  .rename_i xs G
   split at e
   .rename_i Y
    cases e;exact⟨_,_,_,rfl,rfl,G,Y,rfl,rfl⟩
   .cases e
  .cases e
 .rename_i h;cases h
 .rename_i h;cases h
 .cases e
def auu(e:MW.Jl .index x ds M=.ok d M'):∃Z xs j,ds=[Z]/\MW.wz M x=some xs/\MW.Xx M Z xs=some j/\d=.int ((j:Nat):Int)/\M'=M:=by
 match ds,e with
 |[Z],e =>
  have e:Res.wj (((MW.wz M x).bind (MW.Xx M Z)).map λj=>MW.D.int ((j:Nat):Int)) M=.ok d M':=by rw[<- e];cases x<;>simp only[MW.Jl]<;>first|rfl|(generalize(MW.wz M _).bind (MW.Xx M Z)=z;cases z<;>rfl)
  obtain⟨G,e2⟩:=yj e;obtain⟨j,R,e4⟩:=cg.mp G;obtain⟨xs,e6,U⟩:=dm.mp R;exact⟨Z,xs,j,rfl,e6,U,e4.symm,e2⟩
 |[],e=>cases x<;>simp[MW.Jl] at e|_::_::_,e=>cases x<;>simp[MW.Jl] at e
def apg:MtR X "list.append" (rM nm X.K .append):=λZ s σ H v vs u us Q I ru X6 hh=>by
 obtain⟨ι,M,x,ds,d,M',S,r,rs,e,_,q⟩:=hh;obtain⟨n,d0,xs,rfl,rfl,G,hl,rfl,rfl⟩:=aut e;cases r with
 |ref U =>
  obtain⟨R,h3,h4⟩:=S.obj n _ _ G U;cases rs with
  |cons hd ht =>
   cases ht;refine Y7 Z s σ H _ _ u us Q I ru X6 ⟨_,R,_,rfl,rfl,h3,by rw[<- h4.length];exact Wu hl,?_⟩;obtain⟨S2,Ak⟩:=S.put (u:=.lst (R++[_])) (o:=.lst (xs++[_])) G U λle=>⟨_,yg,(h4.mono le).append (.cons (hd.mono le) .nil)⟩
   exact q _ _ _ Ak S2 .non
def abf:∀{bs:List Bool}{j:Nat},bs.findIdx? id=some j->bs[j]?=some true/\∀m,m<j->bs[m]?=some false:=fun{bs j} h=>by obtain⟨Z,U,R⟩:=vm.mp h;refine⟨by rw[dj Z];simpa using U,λm G=>?_⟩;have:=R m G;rw[dj (d_ G Z)];simpa using this
def auv(hr:Ag 8 X.A):MtR X "list.index" (rM nm X.K .index):=λq0 s σ H v vs u us Q I ru X6 hh=>by
 obtain⟨ι,M,x,ds,d,M',S,r,rs,e,nt,q⟩:=hh;obtain⟨d0,xs,j,rfl,e1,e2,rfl,rfl⟩:=auu e;cases rs with
 |cons hd ht =>
  cases ht;cases X6 with
  |cons hu qq =>
   cases qq;obtain⟨bs,e3,e4⟩:=dm.mp (show(MW.Pz M' d0 xs).bind (·.findIdx? id)=some j from e2);obtain⟨p,ys,rfl,Z,rl⟩:=Fi S r e1;cases ru;rcases Z with Z|Z
   .obtain⟨z,is,n,rv,hl,hg⟩:=I.aub Z
    obtain⟨f,g1,g2⟩:=R8 (A:=X.A.in1) I S ((hr.mono (by decide:7<=8)).in1) rl rv hd hu e3;obtain⟨f1,f2⟩:=abf e4;have hb:=(Fl e3).1;have U:is.length=bs.length:=by rw[hb,rl.length,hl]
    have lj:j<is.length:=by rw[U];exact(ak.mp f1).1
    have fa:∀m (G:m<is.length),bs[m]?=some (f is[m]):=λm G=>g2 m _ (dj G)
    have hT:s.TypeIs (.ref p) "list" := ⟨_,hg,rfl⟩;have qk:is.length<=sizeLine:=by rw[<- hl];exact z
    rw[rm] at qk;refine call_meetsIn F.slot_list_index hT F.entry_list_index (F.args_list_index_2 _ _) (λA R s h=>SeqAt.list_indexAt p is.toArray n none #[] _ f j (by simpa using lj) (by lia) ?_ ?_ _ _ A R s h) ⟨hg,g1,?_⟩
    .have:=fa j lj;rw[f1] at this;simpa using(jt this).symm
    .intro m G qv
     have G:m<is.length:=by simpa using G
     have:=fa m G;rw[f2 m qv] at this;simpa using(jt this).symm
    .exact⟨.int j,H,I.tok _,⟨_,rfl⟩,q ι H _ (Le.refl _ _) S (.int _)⟩
   .cases r with
    |tup e r=>exact absurd rfl (nt _ rfl)|vl e n r=>rw[Z] at e;cases e|fz e r=>simp[MW.wz,MW.fu] at e1
    |ref e =>
     obtain⟨u',q',mu⟩:=S.mem (az e);rw[Z] at mu;exact mu.elim
end Sm
namespace Qu
open PySem L2
def SmK(k:List Key):Prop:=∃i j:Int,-1<=i/\i<9/\-1<=j/\j<9/\k=[.inl i,.inl j]
noncomputable def aic(i j:Int):Int:=reduceHash (Builtin.Tuple.tupleHashOf [hashInt i,hashInt j])
noncomputable def rgI:List Int:=[-1,0,1,2,3,4,5,6,7,8]
def aph:(rgI.all λi=>rgI.all λj=>rgI.all λG=>rgI.all λZ=>(aic i j != aic G Z)||(i==G&&j==Z))=true:=by decide+kernel
def abg(G:-1<=i)(Z:i<9):i∈rgI:=by
 have:i=-1\/i=0\/i=1\/i=2\/i=3\/i=4\/i=5\/i=6\/i=7\/i=8:=by lia
 unfold rgI;simp only[bz,yo,or_false];exact this
def api{P:Program}(h:SmK k)(h':SmK k')(e:tupleKeyHash (o5 P w) k=tupleKeyHash (o5 P w) k'):k=k':=by obtain⟨i,j,a1,U,a3,R,rfl⟩:=h;obtain⟨Z,j',b1,G,b3,b4,rfl⟩:=h';have e:aic i j=aic Z j':=e;have:=jb.mp (jb.mp (jb.mp (jb.mp aph i (abg a1 U)) j (abg a3 R)) Z (abg b1 G)) j' (abg b3 b4);rw[e] at this;simp at this;rw[this.1,this.2]
def agl(Z:IsTupleKey (o5 prog w) s.heap ks a)(h:Q false s):wpAny (model prog w) A (Builtin.Dict.quietEq (.ref a)) Q E s:=by
 unfold Builtin.Dict.quietEq;refine aa (wpAny_specialOf Z.typeIs F.slot_tuple_eq.lookup ?_);refine aj ?_;have:(some (Value.builtin "tuple.__eq__")==some (Value.builtin "object.__eq__"))=false:=by decide
 rw[this];exact h
def apj{xs:List (List Key×Addr×Value)}(R:(xs.map (·.1)).Nodup)(hs:∀x∈xs,SmK x.1)(Z:x∈xs) :
 ((xs.map (entryOfKey (tupleKind (o5 prog w)))).filter (·.hash==tupleKeyHash (o5 prog w) x.1)).length<=1:=by
 induction xs with
 |nil=>simp
 |cons y ys ih =>
  rw[ig,u0] at R;rw[ig]
  by_cases hy:tupleKeyHash (o5 prog w) y.1=tupleKeyHash (o5 prog w) x.1
  .have e:=api (hs y dg) (hs x Z) hy
   have none:(ys.map (entryOfKey (tupleKind (o5 prog w)))).filter (·.hash==tupleKeyHash (o5 prog w) x.1)=[]:=by rw[List.filter_eq_nil_iff];intro z hz hq;obtain⟨U,G,rfl⟩:=bw.mp hz;have hq:tupleKeyHash (o5 prog w) U.1=tupleKeyHash (o5 prog w) x.1:=eq_of_beq (show(tupleKeyHash (o5 prog w) U.1==tupleKeyHash (o5 prog w) x.1)=true from hq);have:=api (hs U (bh _ G)) (hs x Z) hq;exact R.1 (bw.mpr ⟨U,G,this.trans e.symm⟩)
   rw[List.filter_cons,none];split<;>simp
  .rw[List.filter_cons,bx (by show ¬((tupleKeyHash (o5 prog w) y.1==tupleKeyHash (o5 prog w) x.1)=true);simpa using hy)]
   rcases bz.mp Z with rfl|Z
   .exact absurd rfl hy
   .exact ih R.2 (λz hz=>hs z (bh _ hz)) Z
def ad3{id:String}{xs:List (List Key×Addr×Value)}(ho:s.heap.get? d=some o)(hd:o.data=.dict es ep)(G:es.toList=xs.map (entryOfKey (tupleKind (o5 prog w))))(hk:∀x∈xs,IsTupleKey (o5 prog w) s.heap x.1 x.2.1)(hn:(xs.map (·.1)).Nodup)(hs:∀x∈xs,SmK x.1)(h:Q es s) :
 wpAny (model prog w) A (Builtin.Dict.entriesForEmpty id d) Q E s:=by
 unfold Builtin.Dict.entriesForEmpty;refine aa (uc ho hd ?_);refine aa ?_;rw[<- Array.forIn_toList];refine qu _ (λZ _ R=>R=s/\∀e∈Z,∃x∈xs,e=entryOfKey (tupleKind (o5 prog w)) x) _ ?_ ?_ _ _ ⟨rfl,λe hm=>?_⟩
 .rintro e Z r R ⟨rfl,Dq⟩
  obtain⟨x,U,rfl⟩:=Dq e dg;show wpAny _ _ (Builtin.Dict.quietEq (.ref x.2.1) >>= _) _ _ _;refine aa (agl (hk x U) ?_);simp only[zg,jn];have h1:=apj (prog:=prog) (w:=w) hn hs U;rw[bx (by
   intro hc;have:(es.filter (·.hash==(entryOfKey (tupleKind (o5 prog w)) x).hash)).size=((xs.map (entryOfKey (tupleKind (o5 prog w)))).filter (·.hash==tupleKeyHash (o5 prog w) x.1)).length:=by rw[<- G,<- wk,Array.toList_filter];rfl
   exact l_ hc (a_ (f_ this) h1))]
  exact aj ⟨rfl,λe G=>Dq e (bh _ G)⟩
 .rintro b R ⟨rfl,_⟩
  exact aj h
 .rw[G] at hm
  obtain⟨x,U,rfl⟩:=bw.mp hm;exact⟨x,U,rfl⟩
def a82{prog:Program}{w:World}{h h':Heap}{ks:List Key}{p a:Addr}(x:IsTupleKey (o5 prog w) h ks p)(hs:∀b o,h.get? b=some o->h'.get? b=some o):IsTupleKey (o5 prog w) h' ks p :=
 let ⟨o,items,n,ho,r⟩:=x;⟨o,items,n,hs p o ho,r⟩
set_option tactic.hygienic true in
def a83(q3:(d==sysModules)=false)(hd:s.heap.DictOfH (tupleKind (o5 prog w)) d xs)(hs:∀x∈xs,SmK x.1)(hsz:xs.length<=sizeLine)(h:∀h',h'.DictOfH (tupleKind (o5 prog w)) s.heap.objs.size xs->(∀b o,s.heap.get? b=some o->h'.get? b=some o)->Q (.ref s.heap.objs.size) { s with heap:=h' }) :
 wpAny (model prog w) A (call (.type "dict") [.ref d]) Q E s:=by
 refine callType_codes (Q₁:=λobj R=>obj=.ref s.heap.objs.size/\R={ s with heap:=s.heap.push { cls:=.type "dict",data:=.dict #[] } }) F.kt_called_dict (F.kt_typeCall_dict_1 _) F.entry_dict_init (kt_code_dict_new _ ⟨rfl,rfl⟩) ?_;rintro obj R ⟨rfl,rfl⟩;have q5:=hd.typeIs;obtain⟨od,Y,q4,S,q2,C,L,q1,y⟩:=hd;have keep:∀b o,s.heap.get? b=some o->(s.heap.push { cls:=.type "dict",data:=.dict #[] }).get? b=some o:=λb o e=>ao _ e
 have G:(s.heap.push { cls:=.type "dict",data:=.dict #[] }).get? s.heap.objs.size=some { cls:=.type "dict",data:=.dict #[] }:=bc _ rfl;have qq:Shared.TypeIs { s with heap:=s.heap.push { cls:=.type "dict",data:=.dict #[] } } (.ref s.heap.objs.size) "dict" := ⟨_,G,rfl⟩;have u:Shared.TypeIs { s with heap:=s.heap.push { cls:=.type "dict",data:=.dict #[] } } (.ref d) "dict" := ⟨od,keep _ _ S,q2.1⟩;have U:=keep _ _ S;have q0:s.heap.objs.size≠d:=λe=>absurd (au S) (by rw[e];exact m7 _)
 have J:Y.size=xs.length:=size_of_entries L;refine⟨qq,F.args_dict_init_2 _ _,?_⟩;unfold Builtin.«dict.__init__»;refine aa ?_;unfold Builtin.Dict.selfAndRest;refine aa (wpAny_notOrdered_dict qq ?_);show wpAny _ _ (pure (s.heap.objs.size,[Value.ref d])) _ _ _;refine aj ?_;show wpAny _ _ (Builtin.Dict.updateFrom "dict.__init__" s.heap.objs.size (.ref d) [] .none) _ _ _;unfold Builtin.Dict.updateFrom;refine aa (vh u ?_);rw[bx (by decide)];refine aa ?_;unfold Builtin.Dict.merge;refine aa ?_;unfold Builtin.Dict.readDirectly;refine aa (m5 u isSubtype_dict_dict ?_);simp only[m6,bu,ik];refine aa (wpAny_specialOf u F.slot_dict_iter.lookup (aj ?_));simp only[zq,jn];refine aa (aj ?_);unfold Builtin.Dict.mergeDict;rw[bx (by simpa using q0)];unfold Builtin.Dict.showsAll;rw[bx (by rw[q3];exact jg)];refine aa (aj ?_);refine aa (uc U C ?_);have kk:∀{h':Heap},(∀b o,s.heap.get? b=some o->h'.get? b=some o)->∀x∈xs,(tupleKind (o5 prog w)).is h' x.1 x.2.1:=λhk x hx=>a82 (a:=d) (q1 x hx) hk
 have qk:Y=#[]->∀s',s'={ s with heap:=s.heap.push { cls:=.type "dict",data:=.dict #[] } }->wpAny (model prog w) A.in1.in1 (Builtin.Dict.addKeywords s.heap.objs.size [] >>= λ_=>ret Value.none) (λfin s'=>match fin with|.done f=>wants (λr Z=>r=Value.none/\Q (.ref s.heap.objs.size) Z) E (.ok f) s'|.again c'=>c'.quiet=true/\codeAny (model prog w) A.in1 c' (wants (λr Z=>r=Value.none/\Q (.ref s.heap.objs.size) Z) E) s') (λe s'=>wants (λr Z=>r=Value.none/\Q (.ref s.heap.objs.size) Z) E (.error e) s') s':=λhe s' Ow=>by have qv:xs=[]:=qg.mp (by rw[<- J,he];rfl);subst Ow;refine aa (aj (aj ⟨rfl,h _ ⟨_,#[],0,G,⟨rfl,rfl,rfl⟩,rfl,?_,kk keep,y⟩ keep⟩));rw[qv];rfl
 dsimp only;split
 .refine aa (uc G rfl ?_)
  rw[cj (show(#[]:Array DictEntry).isEmpty=true from rfl)];refine aa (ad3 U C L (kk keep) y hs ?_);split
  .refine aa (wpAny_updateDictKeysTo G rfl (aj ?_) (by show Y.size<=_;exact a_ (f_ J) (a_ hsz x_)))
   have Wy:∀b o,s.heap.get? b=some o->((s.heap.push { cls:=.type "dict",data:=.dict #[] }).update s.heap.objs.size (Obj.mapDictKeys λ_=>Y)).get? b=some o:=λb o e=>by rw[vd _ _ (j5 (dq (au e)))];exact keep b o e
   refine aa (aj (aj ⟨rfl,h _ ⟨_,Y,0+1,m8 _ G (Obj.isFreed_of_dict (Obj.data_mapDictKeys rfl _)),⟨rfl,rfl,rfl⟩,Obj.data_mapDictKeys rfl _,L,kk Wy,y⟩ Wy⟩))
  .rename_i Uh
   exact aj (qk (Array.isEmpty_iff.mp (by simpa using Uh)) _ rfl)
 .rename_i hf
  have he:Y=#[]:=by
   apply yr;intro Uh;have hx:xs≠[]:=λe=>Uh (Array.eq_empty_of_size_eq_zero (by rw[J,e];rfl))
   obtain⟨x,ys,rfl⟩:=List.exists_cons_of_ne_nil hx;have Dq:(Y.all λe=>(keyPart e.key).isSome)=true:=by simp only[Bool.not_eq_true',Bool.not_eq_false,aq] at hf;exact hf.2
   rw[<- Array.all_toList,L,ig,List.all_cons,aq] at Dq;exact Bool.noConfusion (Dq.1:(keyPart (.ref x.2.1)).isSome=true)
  refine aa (wpAny_dictEpoch U C ?_);refine aa (uc U C ?_);refine aa ?_;rw[he,Std.Legacy.Range.forIn_eq_forIn_range'];simp only[Std.Legacy.Range.size,gw,Ah,Nat.sub_zero,vo,Nat.sub_self,Nat.div_one,List.range'_zero,List.forIn_nil];exact aj (aj (qk he _ rfl))
end Qu
namespace Sm
open PySem L2
open MW (Ex Dg OEx Qv Cm ph Lv Tg Res cz MO G5 Cp Op2 Blt Bm Kx Src)
set_option tactic.hygienic true in
def auw(h:MW.afr l=true):∀k∈l.map (·.1),Qu.SmK k:=λk Y=>by
 obtain⟨p,Z,rfl⟩:=bw.mp Y;simp only[MW.afr,jb] at h;have:=h p Z;split at this
 .rename_i i j e
  simp only[aq,cu] at this;exact⟨i,j,this.1.1.1,this.1.1.2,this.1.2,this.2,e⟩
 .cases this
def a1l{X:Cx}(S:lz nm X.K ι H M)(hp:H p=none)(r:uh X.K ι H (λk k'=>k=k') Z l) :
 lz nm X.K (ι.add p) (upd H p (.dT l)) (M++[.dT Z])/\Le ι H (ι.add p) (upd H p (.dT l))/\Rep X.K (ι.add p) (upd H p (.dT l)) (.ref M.length) (.ref p):=by
 obtain⟨G,le⟩:=S.new (H':=upd H p (.dT l)) (o:=.dT Z) hp (λa u e=>by rw[kh (lq e hp)];exact e) λle=>⟨l,yg,r.mono le⟩
 exact⟨G,le,.ref (by show(ι.l++[p])[M.length]?=some p;rw[<- S.len];simp)⟩
def a1m{X:Cx}(S:lz nm X.K ι H M)(hp:H p=none)(r:uh X.K ι H (λk k'=>k=k') Z l) :
 lz nm X.K (ι.add p) (upd H p (.dK l)) (M++[.dK Z])/\Le ι H (ι.add p) (upd H p (.dK l))/\Rep X.K (ι.add p) (upd H p (.dK l)) (.ref M.length) (.ref p):=by
 obtain⟨G,le⟩:=S.new (H':=upd H p (.dK l)) (o:=.dK Z) hp (λa u e=>by rw[kh (lq e hp)];exact e) λle=>⟨l,yg,r.mono le⟩
 exact⟨G,le,.ref (by show(ι.l++[p])[M.length]?=some p;rw[<- S.len];simp)⟩
set_option tactic.hygienic true in
def a1n:Bw X (.type "dict") (rB nm X.K .dict):=λqq s σ H vs us Q I X6 hh=>by
 obtain⟨ι,M,ds,d,M',S,r,e,q⟩:=hh;cases r with
 |nil=>simp[MW.rz] at e
 |@cons x v _ _ h t =>
  cases t with
  |cons G t2=>cases x<;>simp[MW.rz] at e
  |nil =>
   cases X6 with
   |cons ru rn =>
    cases rn;cases h with
    |@ref n p hp =>
     cases ru;have e:(match M[n]? with|some (.dT Z)=>if MW.afr Z then MW.new (.dT Z) M else .bad|some (.dK Z)=>MW.new (.dK Z) M|_=>.bad)=.ok d M':=e;split at e
     .rename_i Z J
      split at e
      .rename_i hs
       cases e;obtain⟨l,y,G⟩:=S.obj n _ p J hp;obtain⟨z,U,xs,Y,dd⟩:=aoj I.Ar y;obtain⟨k1,k2⟩:=ah9 Y;have hl:xs.length=l.length:=by have:=nq List.length k1;simpa using this
       refine Qu.a83 U dd (λx hx=>?_) (by rw[hl];exact z) λh' L keep=>?_
       .refine auw hs x.1 ?_
        rw[<- Qo G,<- k1];exact bw.mpr ⟨x,hx,rfl⟩
       .have hf:H s.heap.objs.size=none:=I.Ar.fresh (bf _)
        obtain⟨C,u,r2⟩:=a1l (X:=X) S hf G;refine⟨.ref s.heap.objs.size,upd H s.heap.objs.size (.dT l),I.laid (a:=s.heap.objs.size) (o:=.dT l) (t':=s.toks) keep (bf _) ?_,rfl,q _ _ _ u C r2⟩;obtain⟨o,es,ep,g1,g2,g3,g4,g5,g6⟩:=L;exact⟨z,qz.mpr (j5 (dq I.big)),xs,Y.keeps (λb ys e=>by rw[kh (lq e hf)];exact e),o,es,ep,g1,g2,g3,g4,g6⟩
      .cases e
     .rename_i Z J
      cases e;obtain⟨l,y,G⟩:=S.obj n _ p J hp;refine aop I (.inl y) λp' s' R I'=>?_
      obtain⟨C,u,r2⟩:=a1m (X:=X) S R G;exact⟨.ref p',_,I',rfl,q _ _ _ u C r2⟩
     .cases e
    |_=>cases e
set_option tactic.hygienic true in
theorem ints_rep{ι:Io}{H:Hp}{K:Fg}:∀{ds:List Dv}{vs:List V}{is:Zl}{ns:U1},my K ι H ds vs->Vals vs is->MW.Th ds=some ns->∃xs:Array (Int×Tok),is.toArray=intItems xs/\xs.toList.map (·.1)=ns
 |_,_,_,_,.nil,.nil,h=>by cases h;exact⟨#[],by simp[intItems],rfl⟩
 |_,_,_,_,.cons r t,.cons rv tv,h=>by
  cases r<;>simp only[MW.Th] at h<;>try cases h
  rename_i i;obtain⟨U,Y,J⟩:=cg.mp h;obtain⟨xs,C,L⟩:=ints_rep t tv Y;obtain⟨G,rfl⟩:=rv;refine⟨#[(i,G)]++xs,?_,by simp[L,J]⟩;have Z:=nq Array.toList C;apply Array.toList_inj.mp;simp[intItems] at Z ⊢;exact Z
theorem ad4:∀(l:U1)(z m:Int),(m=z\/m∈l)->z<=m->(∀a∈l,a<=m)->l.foldl (λm x=>if m<x then x else m) z=m
 |[],z,m,h,_,_=>by rcases h with h|h;exact h.symm;cases h
 |a::l,z,m,h,hz,Dq=>by
  rw[List.foldl_cons];have U:=Dq a dg;refine ad4 l _ m ?_ (by split<;>lia) (λb G=>Dq b (bh _ G));rcases h with h|h
  .subst h;left;split<;>lia
  .rcases bz.mp h with h|h
   .subst h
    by_cases Z:z<m
    .left;rw[cj Z]
    .left;rw[bx Z];lia
   .exact .inr h
theorem ad5:∀(l:U1)(z m:Int),(m=z\/m∈l)->m<=z->(∀a∈l,m<=a)->l.foldl (λm x=>if x<m then x else m) z=m
 |[],z,m,h,_,_=>by rcases h with h|h;exact h.symm;cases h
 |a::l,z,m,h,hz,Dq=>by
  rw[List.foldl_cons];have U:=Dq a dg;refine ad5 l _ m ?_ (by split<;>lia) (λb G=>Dq b (bh _ G));rcases h with h|h
  .subst h;left;split<;>lia
  .rcases bz.mp h with h|h
   .subst h
    by_cases Z:m<z
    .left;rw[cj Z]
    .left;rw[bx Z];lia
   .exact .inr h
def aid(e:MW.two ds f g M=.ok d M'):M'=M/\((∃i j,ds=[.int i,.int j]/\d=.int (f i j))\/∃x m,ds=[x]/\g x=some m/\d=.int m):=by
 cases ds with
 |nil=>cases e
 |cons x r=>cases r with
  |nil =>
   obtain⟨U,G⟩:=yj (show Res.wj ((g x).map MW.D.int) M=.ok d M' from e);obtain⟨m,Z,R⟩:=cg.mp U;exact⟨G,.inr ⟨x,m,rfl,Z,R.symm⟩⟩
  |cons y r=>cases r with
   |nil =>
    cases x<;>try cases e
    cases y<;>cases e;exact⟨rfl,.inl ⟨_,_,rfl,rfl⟩⟩
   |cons _ _=>cases e
def Zf{h:List Int->Option Int}(e:((MW.fu M x).bind MW.Th).bind h=some m):∃xs ns,MW.fu M x=some xs/\MW.Th xs=some ns/\h ns=some m:=by obtain⟨ns,U,R⟩:=dm.mp e;obtain⟨xs,G,Z⟩:=dm.mp U;exact⟨xs,ns,G,Z,R⟩
def auy(e:MW.rz .max ds M=.ok d M'):M'=M/\((∃i j,ds=[.int i,.int j]/\d=.int (if i<j then j else i))\/∃x xs ns m,ds=[x]/\MW.fu M x=some xs/\MW.Th xs=some ns/\MW.ayr ns=some m/\d=.int m):=by
 obtain⟨h,h2|⟨x,m,Z,R,G⟩⟩:=aid e
 .exact⟨h,.inl h2⟩
 .obtain⟨xs,ns,g1,g2,U⟩:=Zf R
  exact⟨h,.inr ⟨x,xs,ns,m,Z,g1,g2,U,G⟩⟩
def auz(e:MW.rz .min ds M=.ok d M'):M'=M/\((∃i j,ds=[.int i,.int j]/\d=.int (if j<i then j else i))\/∃x xs ns m,ds=[x]/\MW.fu M x=some xs/\MW.Th xs=some ns/\MW.a5p ns=some m/\d=.int m):=by
 obtain⟨h,h2|⟨x,m,Z,R,G⟩⟩:=aid e
 .exact⟨h,.inl h2⟩
 .obtain⟨xs,ns,g1,g2,U⟩:=Zf R
  exact⟨h,.inr ⟨x,xs,ns,m,Z,g1,g2,U,G⟩⟩
def Oi(h:Vals [v] us):∃u,us=[u]/\RelV v u:=L2.Vals.one h
def Oz(h:i<xs.size):(xs.toList.map (·.1))[i]?=some (numAt xs i):=by simp[numAt,h]
def a84(hc:X.calm=true):Bw X (.builtin "max") (rB nm X.K .max):=λR s σ H vs us Q I X6 hh=>by
 obtain⟨ι,M,ds,d,M',S,r,e,q⟩:=hh;obtain⟨rfl,⟨i,j,rfl,rfl⟩|⟨x,xs,ns,m,rfl,e1,e2,U,rfl⟩⟩:=auy e
 .cases r with
  |cons h1 t1 =>
   cases t1 with
   |cons h2 t2 =>
    cases t2;cases h1;cases h2;refine aj4 hc R s σ H _ us Q I X6 ⟨i,j,rfl,?_⟩;have:=q ι H _ (Le.refl _ _) S (.int (if i<j then j else i));exact this
 .obtain⟨v,rfl,rv⟩:=Fw r rfl
  obtain⟨u,rfl,ru⟩:=Oi X6;obtain⟨p,ws,rfl,hp,rl⟩:=uv S rv e1;cases ru;obtain⟨is,qq,pl,_⟩:=I.list (Gw.of hp);obtain⟨Z,g1,g2⟩:=ints_rep rl qq e2;have Uh:0<Z.size:=by
   cases ns with
   |nil=>cases U|cons n ns=>have:=nq List.length g2;simp at this;lia
  refine max_intList (I.ok.hd hc) (by rw[<- g1];exact pl.isList) Uh λw h' tk hw keep=>?_
  obtain⟨t,rfl⟩:=intItems_at hw;obtain⟨b1,b2⟩:=argBest_gt (numAt Z) (Z.size-1);have hm:m=numAt Z (argBest (λi j=>decide (numAt Z i > numAt Z j)) (Z.size-1)):=by
   cases hns:ns with
   |nil=>rw[hns] at U;cases U
   |cons n ns' =>
    rw[hns] at U;cases U;have mem:∀i,i<Z.size->numAt Z i∈n::ns':=λi G=>by rw[<- hns,<- g2];exact az (Oz G)
    have le:∀a∈n::ns',a<=numAt Z (argBest (λi j=>decide (numAt Z i > numAt Z j)) (Z.size-1)):=λa ha=>by
     rw[<- hns,<- g2] at ha;obtain⟨i,G⟩:=xg.mp ha;have li:i<Z.size:=by have:=(ak.mp G).1;simpa using this
     rw[Oz li] at G;cases G;exact b2 i (by lia)
    exact ad4 ns' n _ (bz.mp (mem _ (by omega))) (le n dg) (λa ha=>le a (bh _ ha))
  subst hm;exact⟨.int _,H,I.kept keep,⟨t,rfl⟩,q ι H _ (Le.refl _ _) S (.int _)⟩
def ad6(n d:Nat)(o:Option Int):HT.sIx n d o=MW.clip n d o:=by
 cases o with
 |none=>rfl
 |some i =>
  show(if i<0 then(i+(n:Int)).toNat else min i.toNat n)=(if 0<=i then min i.toNat n else(i+(n:Int)).toNat)
  by_cases h:i<0
  .rw[cj h,bx (by lia)]
  .rw[bx h,cj (by lia)]
def tO(nm:Nm)(W:G5)(K:Fg)(o:OEx):TO:=fun σ H Q=>∃U R M d M',lz nm K U H M/\v9 K U H R σ/\o.den W R M=.ok d M'/\∀Z G,Le U H Z G->lz nm K Z G M'->Q d G
def PO.weak(h:PO X e t)(w:∀Z H Q,t' Z H Q->t Z H Q):PO X e t':=λG s Z H Q I q=>h G s Z H Q I (w Z H Q q)
def PO.of(h:PO X e t)(w:∀G H Q ι ρ M d M',lz nm X.K ι H M->v9 X.K ι H ρ G->U.den W ρ M=.ok d M'->(∀Z H',Le ι H Z H'->lz nm X.K Z H' M'->Q d H')->t G H Q):PO X e (tO nm W X.K U):=PO.weak h fun G H Q z_=>by obtain⟨ι,ρ,M,d,M',S,R,e,q⟩:=z_;exact w G H Q ι ρ M d M' S R e q
def au1:PO X none (tO nm W X.K .none):=PO.of at7 fun G H Q Z U M d M' S R e q=>by rw[MW.aji] at e;cases e;exact q Z H (Le.refl _ _) S
set_option tactic.hygienic true in
def au2(Y:PE X a (tE nm W X.K U)):PO X (some a) (tO nm W X.K (.some U)):=PO.of (at8 Y) fun σ H Q y ρ M d M' S R e q=>by rw[MW.ajj] at e;obtain⟨x,L,G,e⟩:=dz e;split at e<;>cases e;rename_i i;exact one S R G fun Z C v le J u r=>by cases r;exact⟨i,rfl,q Z C le J⟩
set_option tactic.hygienic true in
def a85(ha:PE X a (tE nm W X.K a'))(hl:PO X lo (tO nm W X.K G))(hh:PO X hi (tO nm W X.K L)):PE X (.Subscript a (.Slice lo hi none p2) pos) (tE nm W X.K (.cut a' G L)) :=
 PE.of (aoq aua ha hl hh) fun σ H Q ι ρ M d M' S R e q=>by
  rw[MW.asp] at e;obtain⟨x,M1,e1,e⟩:=dz e;obtain⟨l,M2,e2,e⟩:=dz e;obtain⟨h,M3,e3,e⟩:=dz e;obtain⟨e4,e5⟩:=yj e;subst e5;refine one S R e1 fun C H1 v le S1 R1 r=>⟨C,ρ,M1,l,M2,S1,R1,e2,fun qk H2 Ak S2=>⟨qk,ρ,M2,h,_,S2,R1.mono Ak,e3,fun y H3 Za S3=>?_⟩⟩
  have r3:=(r.mono Ak).mono Za;have fin:=fun u H' w Xp S' r'=>q u H' w (((le.trans Ak).trans Za).trans Xp) S' r'
  have lst:∀Z,MW.fu M' x=some Z->d=.vl (MW.afo Z l h)->a7t X.K v l h H3 Q:=λZ J Y=>by
   obtain⟨p,vs,rfl,hp,rl⟩:=uv S3 r3 J;refine⟨p,vs,rfl,Gw.of hp,λp' qq=>?_⟩;have:my X.K y H3 (MW.afo Z l h) (akb vs l h):=by unfold MW.afo akb;rw[ad6,ad6,<- rl.length];exact(rl.drop _).take _
   obtain⟨S4,U,r4⟩:=aa7 (X:=X) S3 qq this;subst Y;exact fin _ _ _ U S4 r4
  obtain⟨Z,J,Y⟩:=cg.mp (show(MW.fu M' x).map (λZ=>MW.D.vl (MW.afo Z l h))=some d from e4);exact lst Z J Y.symm
def R9(K:Fg)(T:String):PySem.W.kitOne K (.type T) (.type T)=some true:=by unfold PySem.W.kitOne;rw[cj (by simp)]
def a86{bt bi bv:Option Bool}(ht:∀b,bt=some b->PySem.W.kitOne X.K (.type "tuple") (.type T)=some b)(hi:∀b,bi=some b->PySem.W.kitOne X.K (.type "int") (.type T)=some b)(hl:∀b,bv=some b->PySem.W.kitOne X.K (.type "list") (.type T)=some b)(hb:∀d M,MW.rz t [d] M=MW.isR bt bi bv M d)(hg:Gl X n)(hm:X.mg n=none)(hv:bootBuiltins n=some (.builtin "isinstance"))(hn:n≠"__name__")(Qw:(n==("__debug__" : Str))=false)(q1:Gl X G)(qv:X.mg G=none)(qk:bootBuiltins G=some (.type T))(Py:G≠"__name__")(X7:(G==("__debug__" : Str))=false)(ha:PE X a (tE nm W X.K a'))(he:starEach [a,.Name G p'] X.env=(false,eval a X.env)::starEach [.Name G p'] X.env)(q0:starEach [.Name G p'] X.env=(false,eval (.Name G p') X.env)::starEach [] X.env)(Gu:(backTo pos (starEach [.Name G p'] X.env)).any (·.1)=false):PE X (.Call (.Name n p) [a,.Name G p'] [] pos) (tE nm W X.K (.blt t (.cons a' .nil))):=by
 intro qq s σ H Q I hh;obtain⟨ι,ρ,M,d,M',S,R,e,q⟩:=hh;rw[MW.Vi] at e;obtain⟨ds,M1,e1,e⟩:=dz e;rw[MW.G4] at e1;obtain⟨x,M2,e2,e1⟩:=dz e1;rw[MW.Ly] at e1;cases e1;refine gn (Bq I hg hm hv ?_ hn Qw);refine uo (Q:=EP X qq σ Q) ?_ he Gu;rw[he];show wpAny _ _ (spliced ((false,eval a X.env)::backTo pos (starEach [.Name G p'] X.env))) _ _ s;refine jy (Bj (ha qq s σ H (λv U=>∃Z,Le ι H Z U/\lz nm X.K Z U M1/\Rep X.K Z U x v) I ⟨ι,ρ,M,x,M1,S,R,e2,fun Z U v le S1 r=>⟨Z,le,S1,r⟩⟩) λu s1 z_=>?_);obtain⟨v,U,I1,r1,Z,le,S1,r⟩:=z_;rw[q0];show wpAny _ _ (spliced ((false,eval (.Name G p') X.env)::backTo pos (starEach [] X.env))) _ _ s1;refine jy (Bq I1 q1 qv qk ?_ Py X7);refine ql ?_;have e:MW.rz t [x] M1=.ok d M':=e;rw[hb] at e;obtain⟨e4,rfl⟩:=yj e;obtain⟨b,e3,rfl⟩:=cg.mp e4;cases r with
 |tup h r=>exact T4 I1 r1 (.tup h) (ht b e3) λtk=>⟨.bl b,U,I1.tok _,rfl,q Z U _ le S1 (.bl b)⟩
 |vl h _ r=>exact T4 I1 r1 (.lst h) (hl b e3) λtk=>⟨.bl b,U,I1.tok _,rfl,q Z U _ le S1 (.bl b)⟩
 |int i=>exact T4 I1 r1 (.int i) (hi b e3) λtk=>⟨.bl b,U,I1.tok _,rfl,q Z U _ le S1 (.bl b)⟩
 |_=>cases e3
def a87(hc:X.calm=true):Bw X (.builtin "min") (rB nm X.K .min):=λR s σ H vs us Q I X6 hh=>by
 obtain⟨ι,M,ds,d,M',S,r,e,q⟩:=hh;obtain⟨rfl,⟨i,j,rfl,rfl⟩|⟨x,xs,ns,m,rfl,e1,e2,U,rfl⟩⟩:=auz e
 .cases r with
  |cons h1 t1 =>
   cases t1 with
   |cons h2 t2 =>
    cases t2;cases h1;cases h2;refine aj5 hc R s σ H _ us Q I X6 ⟨i,j,rfl,?_⟩;have:=q ι H _ (Le.refl _ _) S (.int (if j<i then j else i));exact this
 .obtain⟨v,rfl,rv⟩:=Fw r rfl
  obtain⟨u,rfl,ru⟩:=Oi X6;obtain⟨p,ws,rfl,hp,rl⟩:=uv S rv e1;cases ru;obtain⟨is,qq,pl,_⟩:=I.list (Gw.of hp);obtain⟨Z,g1,g2⟩:=ints_rep rl qq e2;have Uh:0<Z.size:=by
   cases ns with
   |nil=>cases U|cons n ns=>have:=nq List.length g2;simp at this;lia
  refine min_intList (I.ok.hd hc) (by rw[<- g1];exact pl.isList) Uh λw h' tk hw keep=>?_
  obtain⟨t,rfl⟩:=intItems_at hw;obtain⟨b1,b2⟩:=argBest_lt (numAt Z) (Z.size-1);have hm:m=numAt Z (argBest (λi j=>decide (numAt Z i<numAt Z j)) (Z.size-1)):=by
   cases hns:ns with
   |nil=>rw[hns] at U;cases U
   |cons n ns' =>
    rw[hns] at U;cases U;have mem:∀i,i<Z.size->numAt Z i∈n::ns':=λi G=>by rw[<- hns,<- g2];exact az (Oz G)
    have le:∀a∈n::ns',numAt Z (argBest (λi j=>decide (numAt Z i<numAt Z j)) (Z.size-1))<=a:=λa ha=>by
     rw[<- hns,<- g2] at ha;obtain⟨i,G⟩:=xg.mp ha;have li:i<Z.size:=by have:=(ak.mp G).1;simpa using this
     rw[Oz li] at G;cases G;exact b2 i (by lia)
    exact ad5 ns' n _ (bz.mp (mem _ (by omega))) (le n dg) (λa ha=>le a (bh _ ha))
  subst hm;exact⟨.int _,H,I.kept keep,⟨t,rfl⟩,q ι H _ (Le.refl _ _) S (.int _)⟩
def X8{n:Nat}(hh:A.handled=none)(hr:IsRange s.heap r a b c t u v)(Wz:Builtin.Range.small a b c=true)(hn:Builtin.Range.rangeSize a b c=n)(qq:n<=2 ^ 24)(hQ:∀(h':Heap) (tk:Nat) (Z:Q1),(∀b o,s.heap.get? b=some o->h'.get? b=some o)->ItemsOf (λi v=>∃t,v=.int (a+i*c) t) Z n->Q Z.toList { s with heap:=h',toks:=tk }):wpAny (model prog w) A (collect (.ref r)) Q E s:=by
 unfold collect;refine aa (wpAny_runValue (ou F.entry_proto_collect ?_));rw[j7 F.plain_proto_collect _];show wpAny _ A.in1 (newList [] >>= λl=>again (.builtin "list.__iadd__" ⟨[l,.ref r],[]⟩)) _ _ s;refine aa (ud ?_);refine aj ⟨plainId_quiet F.plain_list_iadd _,ou F.entry_list_iadd ?_⟩;rw[j7 F.plain_list_iadd _];show wpAny _ A.in1 (Builtin.List.listExtendWith (.ref s.heap.objs.size) (.ref r) (.ref s.heap.objs.size)) _ _ _;have keep:∀b o,s.heap.get? b=some o->(s.heap.push { cls:=.type "list",data:=.seq ([]:Zl).toArray }).get? b=some o:=λb o e=>ao _ e
 have qv:(s.heap.push { cls:=.type "list",data:=.seq ([]:Zl).toArray }).get? s.heap.objs.size=some { cls:=.type "list",data:=.seq #[] 0 }:=bc _ rfl;have qk:=wpAny_extend_range (prog:=prog) (w:=w) (A:=A) (R:=λr' s'=>∃(h':Heap)(tk:Nat)(Z:Q1)(G:Nat),r'=.ok (.ret (.ref s.heap.objs.size))/\s'={ s with heap:=h',toks:=tk }/\(∀b o,s.heap.get? b=some o->h'.get? b=some o)
 /\h'.get? s.heap.objs.size=some { cls:=.type "list",dict:=none,data:=.seq Z G,slots:=#[] }/\ItemsOf (λi v=>∃t,v=.int (a+i*c) t) Z n)
  (s:={ s with heap:=s.heap.push { cls:=.type "list",data:=.seq ([]:Zl).toArray } }) hh (keep _ _ hr) Wz hn qq s.heap.objs.size (.ref s.heap.objs.size) 0 qv
  λh' tk Z G hk hS Em=>⟨h',tk,Z,G,rfl,rfl,λb o e=>hk b o (dq (au e)) (keep b o e),hS,Em⟩
 have U:∀{r':Result}{s':Shared},(∃(h':Heap)(tk:Nat)(Z:Q1)(G:Nat),r'=.ok (.ret (.ref s.heap.objs.size))/\s'={ s with heap:=h',toks:=tk }/\(∀b o,s.heap.get? b=some o->h'.get? b=some o)
 /\h'.get? s.heap.objs.size=some { cls:=.type "list",dict:=none,data:=.seq Z G,slots:=#[] }/\ItemsOf (λi v=>∃t,v=.int (a+i*c) t) Z n)->∃(h':Heap)(tk:Nat)(Z:Q1)(G:Nat),r'=.ok (.ret (.ref s.heap.objs.size))/\s'={ s with heap:=h',toks:=tk }/\h'.get? s.heap.objs.size=some { cls:=.type "list",dict:=none,data:=.seq Z G,slots:=#[] }/\Q Z.toList s':=λ⟨h',tk,Z,G,e1,e2,e3,e4,e5⟩=>⟨h',tk,Z,G,e1,e2,e4,by rw[e2];exact hQ h' tk Z e3 e5⟩
 refine mq qk (λfin s' hf=>?_) (λe s' he=>?_)
 .cases fin with
  |done f =>
   obtain⟨h',tk,Z,G,e1,rfl,e4,e5⟩:=U hf;cases e1;exact aa (wpAny_load e4 (aj e5))
  |again G =>
   refine⟨hf.1,xj hf.2 λr' q1 q0=>?_⟩;obtain⟨h',tk,Z,G,e1,rfl,e4,e5⟩:=U q0;subst e1;exact aa (wpAny_load e4 (aj e5))
 .obtain⟨_,_,_,_,e1,_⟩:=U he
  cases e1
def T9{n:Nat}(hh:A.handled=none)(U:IsRange s.heap r a b c t u v)(Wz:Builtin.Range.small a b c=true)(hn:Builtin.Range.rangeSize a b c=n)(Z:n<=2 ^ 24)(h:∀(h':Heap) (tk:Nat) (acc:Q1),(∀b o,s.heap.get? b=some o->h'.get? b=some o)->ItemsOf (λi v=>∃t,v=.int (a+i*c) t) acc n->Q₁ (.ref h'.objs.size) { s with heap:=h'.push { cls:=.type "tuple",data:=.seq acc },toks:=tk }) :
 codeAny (model prog w) A (.call (.builtin "tuple.__new__") ⟨[.type "tuple",.ref r],[]⟩) (wants Q₁ E) s:=by
 refine codeAny_of_tree ?_;show wpAny _ A.in1 (do checkBuiltinCall "tuple.__new__" ⟨[.type "tuple",.ref r],[]⟩;again (.builtin "tuple.__new__" ⟨[.type "tuple",.ref r],[]⟩)) _ _ s;refine aa (wpAny_of_eq (F.newCall_tuple_1 _) (aj ⟨plainId_quiet F.plain_tuple_new _,ou F.entry_tuple_new ?_⟩));rw[j7 F.plain_tuple_new _];have Zy:=sub_tuple_self;have qq:=init_tuple_lookup;have qk:=madeHere_tuple;have G:s.TypeIs (.ref r) "range" := ⟨_,U,rfl⟩
 wp_walk using vh G,X8 (A:=A.in1) hh U Wz hn Z
 intro h' tk acc hk R;show wpAny _ _ (Builtin.Tuple.tupleExact acc.toList.toArray >>= λv=>ret v) _ _ _;unfold Builtin.Tuple.tupleExact;refine aa (ud ?_ (by show acc.toList.toArray.size<=sizeLine;simp only[Array.toArray_toList];rw[R.1,rm];exact Z));refine aj ?_;have e:acc.toList.toArray=acc:=by simp
 rw[e];exact h h' tk acc hk R
def Ua{n:Nat}(hh:A.handled=none)(hr:IsRange s.heap r a b c t u v)(Wz:Builtin.Range.small a b c=true)(hn:Builtin.Range.rangeSize a b c=n)(R:n<=2 ^ 24)(hQ:∀(h':Heap) (tk:Nat) (U:Q1),(∀b o,s.heap.get? b=some o->h'.get? b=some o)->ItemsOf (λi v=>∃t,v=.int (a+i*c) t) U n->Q (.ref h'.objs.size) { s with heap:=h'.push { cls:=.type "tuple",data:=.seq U },toks:=tk }) :
 wpAny (model prog w) A (call (.type "tuple") [.ref r]) Q E s:=by
 refine callType_codes (Q₁:=λobj Z=>Z.TypeIs obj "tuple"/\Q obj Z) F.called_tuple (F.typeCall_tuple_1 _) F.entry_object_init
  (T9 (A:=A.in1) hh hr Wz hn R λh' tk U hk Em=>⟨⟨_,bc _ rfl,rfl⟩,hQ h' tk U hk Em⟩) λobj Z G=>?_
 exact⟨G.1,F.args_object_init_2 obj _,object_init_meets F.called_tuple.init.lookup F.called_tuple.made (by decide) prog w A.in1 _ Z ⟨G.1,rfl,G.2⟩⟩
def W0(h:ItemsOf (λi v=>∃t,v=.int (0+(i:Int)*1) t) acc n):Vals ((List.range n).map λ(k:Nat)=>V.int (k:Int)) acc.toList:=by
 have go:∀(l:Zl)(k:Nat),(∀(j:Nat)(v:Value),l[j]?=some v->∃t,v=Value.int ((k+j:Nat):Int) t)->Vals ((List.range' k l.length).map λ(k:Nat)=>V.int (k:Int)) l:=by
  intro l
  induction l with
  |nil=>intro k _;exact .nil
  |cons v l U =>
   intro k G;rw[gm,List.range'_succ,ig];refine .cons ?_ (U (k+1) λj v Z=>?_)
   .exact G 0 v rfl
   .obtain⟨t,e⟩:=G (j+1) v (by simpa using Z)
    exact⟨t,by rw[e];congr 1;lia⟩
 have:=go acc.toList 0 (λj v Z=>by
  obtain⟨t,e⟩:=h.2 j v (by simpa using Z);exact⟨t,by rw[e];congr 1;lia⟩)
 rw[wk,h.1,<- List.range_eq_range'] at this;exact this
def W2(n:Nat):my K ι H ((List.range n).map λ(k:Nat)=>MW.D.int (k:Int)) ((List.range n).map λ(k:Nat)=>V.int (k:Int)):=by
 generalize List.range n=l
 induction l with
 |nil=>exact .nil|cons k l Z=>exact .cons (.int _) Z
set_option tactic.hygienic true in
def a1o(hr:Ag 8 X.A)(hg:Gl X n)(hm:X.mg n=none)(hv:bootBuiltins n=some (.type "tuple"))(hn:n≠"__name__")(Qw:(n==("__debug__" : Str))=false)(q3:Gl X G)(qv:X.mg G=none)(qk:bootBuiltins G=some (.type "range"))(Py:G≠"__name__")(X7:(G==("__debug__" : Str))=false)(ha:PA X [a] (Vd nm W X.K (.cons a' .nil)))(he:starEach [.Call (.Name G p') [a] [] q2] X.env=(false,eval (.Call (.Name G p') [a] [] q2) X.env)::starEach [] X.env)(Gu:(backTo q1 (starEach [] X.env)).any (·.1)=false)(q0:starEach [a] X.env=(false,eval a X.env)::starEach [] X.env)(qq:(backTo q2 (starEach [] X.env)).any (·.1)=false) :
 PE X (.Call (.Name n p) [.Call (.Name G p') [a] [] q2] [] q1) (tE nm W X.K (.afm a')):=by
 intro Z s y H Q I hh;obtain⟨ι,ρ,M,d,M',S,R,e,q⟩:=hh;rw[MW.amj] at e;obtain⟨x,M1,e1,e⟩:=dz e;split at e<;>try cases e
 rename_i i;split at e<;>cases e;rename_i hi;refine gn (Bq I hg hm hv ?_ hn Qw);refine iw (Q:=EP X Z y Q) ?_ he Gu;rw[he];show wpAny _ _ (spliced ((false,eval (.Call (.Name G p') [a] [] q2) X.env)::backTo q1 (starEach [] X.env))) _ _ s;refine jy ?_;refine gn (Bq I q3 qv qk ?_ Py X7);refine iw (Bj (ha q2 Z s y H (λvs J=>∃Y,vs=[.int i]/\Le ι H Y J/\lz nm X.K Y J M') I ⟨ι,ρ,M,[.int i],M',S,R,by simp[e1,Res.bind],fun Y J vs le S1 r=>?_⟩) λus C ⟨vs,J,I1,r1,Y,ev,T6,S1⟩=>?_) q0 qq
 .obtain⟨v,ev,rv⟩:=Fw r rfl
  cases rv;exact⟨Y,ev,le,S1⟩
 subst ev;obtain⟨u,rfl,ru⟩:=Oi r1;obtain⟨t,rfl⟩:=ru;refine call_range_1 ?_;show wpAny _ _ (spliced []) _ _ _;refine ql ?_;have keep:∀b o,C.heap.get? b=some o->(C.heap.push { cls:=.type "range",data:=.fields #[.int 0 C.toks,.int i t,.int 1 (C.toks+1)] }).get? b=some o:=λb o e=>ao _ e
 refine Ua (n:=i.toNat) hr.hd (bc _ rfl) (small_one (by lia) (by lia) (by lia) (by omega)) (by rw[rangeSize_one];split<;>lia) (by lia) λU tk L hk Em=>?_
 have I2:Inv X Z y J { C with heap:=U,toks:=tk }:=I1.kept λb o e=>hk b o (keep b o e)
 have hz:((List.range i.toNat).map λ(k:Nat)=>V.int (k:Int)).length<=sizeLine:=by simp[rm];omega
 have hf:J U.objs.size=none:=I2.Ar.fresh (bf _);have I3:Inv X Z y (upd J U.objs.size (.tup ((List.range i.toNat).map λ(k:Nat)=>V.int (k:Int)))) { C with heap:=U.push { cls:=.type "tuple",data:=.seq L },toks:=tk } :=
  I2.laid (a:=U.objs.size) (t':=tk) (λb o e=>ao _ e) (bf _) (show Ay X.prog X.w _ _ _ (.tup _) from⟨hz,L.toList,W0 Em,by simpa using L2.Xy.new _ _⟩)
 obtain⟨S2,Ak,r2⟩:=Ox (X:=X) S1 hf (W2 i.toNat);exact⟨.ref U.objs.size,_,I3,rfl,q Y _ _ (T6.trans Ak) S2 r2⟩
end Sm
namespace EnT
open PySem PySem.Spec
open AutoSeq1 (wpAny_loadPart')
set_option tactic.hygienic true in
def apl(a:s.heap.IsTupleIter it t i)(b:s.heap.IsTuple t xs)(e:xs[i]?=some x)(q:∀h',h'.IsTupleIter it t (i+1)->Heap.SameBut it s.heap h'->Q x { s with heap:=h' }):wpAny (model prog w) A (Builtin.SmallTypes.nextOf (.ref it)) Q E s:=by obtain⟨o,Y,J,Z⟩:=id a;obtain⟨R,G,L,C,U⟩:=b;unfold Builtin.SmallTypes.nextOf;refine aa (j8 (name:=Str.ofString "__next__") a.typeIs v7 (jf v7 a.typeIs F.entry_tuple_iterator_next ?_ (F.args_tuple_iterator_next_1 _)));show wpAny _ _ (field (.ref it) 0 >>= _) _ _ s;refine aa (ji Y Z (x:=.ref t) rfl ?_);show wpAny _ _ (if(Value.ref t==Value.none)=true then _ else field (.ref it) 1 >>= _) _ _ s;rw[bx (show ¬((Value.ref t==Value.none)=true) by exact jg)];refine aa (ji Y Z (x:=.int i 0) rfl (aa (ug G U ?_)));simp only[wg,e];refine aa (wpAny_setField Y Z (by simp) (aj ⟨x,rfl,aj (q _ ⟨_,m8 _ Y (Obj.isFreed_of_fields (Obj.data_mapFields Z _)),(Obj.cls_mapFields ..).trans J,?_⟩ (jm ..))⟩));rw[Obj.data_mapFields Z];simp[rawInt]
set_option tactic.hygienic true in
def au3(G:A.handled=none)(a:s.heap.IsTupleIter it t i)(b:s.heap.IsTuple t xs)(e:xs[i]?=none)(q:∀h' x,Heap.ExtBut it s.heap h'->(∃o,h'.get? x=some o/\o.cls=.type "StopIteration")->E (.ref x) { s with heap:=h' }):wpAny (model prog w) A (Builtin.SmallTypes.nextOf (.ref it)) Q E s:=by obtain⟨o,Y,R,Z⟩:=id a;obtain⟨S,J,L,C,U⟩:=b;unfold Builtin.SmallTypes.nextOf;refine aa (j8 (name:=Str.ofString "__next__") a.typeIs v7 (jf v7 a.typeIs F.entry_tuple_iterator_next ?_ (F.args_tuple_iterator_next_1 _)));show wpAny _ _ (field (.ref it) 0 >>= _) _ _ s;refine aa (ji Y Z (x:=.ref t) rfl ?_);show wpAny _ _ (if(Value.ref t==Value.none)=true then _ else field (.ref it) 1 >>= _) _ _ s;rw[bx (show ¬((Value.ref t==Value.none)=true) by exact jg)];refine aa (ji Y Z (x:=.int i 0) rfl (aa (ug J U ?_)));simp only[wg,e];refine aa (wpAny_rule (aa (wpAny_setField Y Z (by simp) ?_)));show wpAny _ _ (newExc (.type "StopIteration") [] >>= raiseNew) _ _ _;exact Qu.ag5 G λh' x k e=>q h' x (λb o n z=>k b o ((jm ..).extBut b o n z)) e
def Zg(b:Bool)(h:Heap)(it a:Addr)(i:Nat):Prop:=cond b (h.IsTupleIter it a i) (h.IsListIter it a i)
def SqB(b:Bool)(h:Heap)(a:Addr)(xs:Q1):Prop:=cond b (h.IsTuple a xs) (h.IsList a xs)
def Zg.at(x:Zg b h it a i)(k:∀o,h.get? it=some o->h'.get? it=some o):Zg b h' it a i:=by
 cases b with
 |true=>obtain⟨o,e,r⟩:=x;exact⟨o,k o e,r⟩
 |false=>obtain⟨o,e,r⟩:=x;exact⟨o,k o e,r⟩
def Zg.obj(x:Zg b h it a i):∃o,h.get? it=some o/\∀v,o.data≠.cell v:=by
 cases b with
 |true=>obtain⟨o,e,c,d⟩:=x;exact⟨o,e,λv z=>by rw[d] at z;cases z⟩
 |false=>obtain⟨o,e,c,d⟩:=x;exact⟨o,e,λv z=>by rw[d] at z;cases z⟩
def ad7(a:Zg b s.heap it t i)(c:SqB b s.heap t xs)(e:xs[i]?=some x)(q:∀h',Zg b h' it t (i+1)->Heap.SameBut it s.heap h'->Q x { s with heap:=h' }):wpAny (model prog w) A (Builtin.SmallTypes.nextOf (.ref it)) Q E s:=by
 cases b with
 |true=>exact apl a c e q|false=>exact wpAny_nextOf_list_item a c e q
def aie(Z:A.handled=none)(a:Zg b s.heap it t i)(c:SqB b s.heap t xs)(e:xs[i]?=none)(q:∀h' x,Heap.ExtBut it s.heap h'->(∃o,h'.get? x=some o/\o.cls=.type "StopIteration")->E (.ref x) { s with heap:=h' }):wpAny (model prog w) A (Builtin.SmallTypes.nextOf (.ref it)) Q E s:=by
 cases b with
 |true=>exact au3 Z a c e q|false=>exact wpAny_nextOf_list_end Z a c e q
def au4{i:Nat}{Q:Y3}(he:IsEnum s.heap e it i old)(a:Zg b s.heap it t i)(c:SqB b s.heap t xs)(ex:xs[i]?=some x)(ne:e≠it)(q:∀h',IsEnumOut h' e it ((i:Int)+1) x s.heap.objs.size->Zg b h' it t (i+1)->h'.get? s.heap.objs.size=some { cls:=.type "tuple",data:=.seq #[.int i s.toks,x] }->h'.objs.size=s.heap.objs.size+1 ->
 (∀y o,y≠e->y≠it->s.heap.get? y=some o->h'.get? y=some o)->Q (.ref s.heap.objs.size) { s with heap:=h',toks:=s.toks+1 }) :
 wpAny (model prog w) A (Builtin.«enumerate.__next__» ⟨[.ref e],[]⟩) (λfin s'=>∃v,fin=.done (.ret v)/\Q v s') E s:=by
 obtain⟨G,g,d,tk,os⟩:=s;show wpAny _ _ (field (.ref e) 2 >>= _) _ _ _;refine aa (ji he rfl (x:=.ref it) rfl (aa (ad7 a c ex λh1 a1 s1=>?_)));have s1:Heap.SameBut it G h1:=s1;have e1:IsEnum h1 e it i old:=(s1.2 e ne).trans he;refine aa (ji e1 rfl (x:=rawInt i) rfl (aa (ji e1 rfl (x:=.none) rfl (aa (wpAny_mkInt ?_)))));show wpAny _ _ (setField (.ref e) 3 (rawInt ((i:Int)+1)) >>= _) _ _ ⟨h1,g,d,tk+1,os⟩;refine aa (jd e1 (by simp) λh2 e2 s2=>?_);have s2:Heap.SameBut e h1 h2:=s2;have e2:IsEnum h2 e it ((i:Int)+1) old:=e2;refine aa (jd e2 (by simp) λh3 e3 s3=>?_);have s3:Heap.SameBut e h2 h3:=s3;have e3:IsEnum h3 e it ((i:Int)+1) old:=e3;refine aa (wpAny_newTuple ?_);have n3:h3.objs.size=G.objs.size:=by rw[s3.1,s2.1,s1.1]
 obtain⟨Z,R⟩:∃Z,Z=h3.push { cls:=.type "tuple",data:=.seq #[.int i tk,x] }:=⟨_,rfl⟩;have e4:IsEnum Z e it ((i:Int)+1) old:=by rw[R];exact ao _ e3
 have t4:Z.get? G.objs.size=some { cls:=.type "tuple",data:=.seq #[.int i tk,x] }:=by rw[R,<- n3];exact bc _ rfl
 have n4:Z.objs.size=G.objs.size+1:=by rw[R,iz,n3]
 have k3:∀y o,y≠e->h1.get? y=some o->Z.get? y=some o:=λy o U z=>by rw[R];exact ao _ (s3.extBut y o U (s2.extBut y o U z))
 have a4:Zg b Z it t (i+1):=a1.at λo z=>k3 it o (j5 ne) z
 have lt:e<G.objs.size:=au he
 show wpAny _ _ (Builtin.SmallTypes.ownedTupleIsFree (.ref e) >>= _) _ _ ⟨h3.push _,g,d,tk+1,os⟩;rw[n3,<- R];refine aa ?_;unfold Builtin.SmallTypes.ownedTupleIsFree;refine aa (ji e4 rfl (x:=.none) rfl (aj ?_));simp only[jn];refine aa (wpAny_rule (aa (ji e4 rfl (x:=old) rfl (aa (jd e4 (by simp) λh5 e5 s5=>?_)))));have s5:Heap.SameBut e Z h5:=s5;have e5:IsEnum h5 e it ((i:Int)+1) x:=e5;refine aa ?_;unfold Builtin.SmallTypes.ownedTupleHandOut;refine aa (jd e5 (by simp) λh6 e6 s6=>?_);have s6:Heap.SameBut e h5 h6:=s6;have e6:IsEnumOut h6 e it ((i:Int)+1) x G.objs.size:=e6;refine jd e6 (by simp) λh7 e7 s7=>?_
 have s7:Heap.SameBut e h6 h7:=s7;have k7:∀y o,y≠e->Z.get? y=some o->h7.get? y=some o:=λy o U z=>s7.extBut y o U (s6.extBut y o U (s5.extBut y o U z))
 exact aa (wpAny_letGo (aj ⟨_,rfl,q h7 e7 (a4.at λo z=>k7 it o (j5 ne) z) (k7 _ _ (o7 lt) t4) (by rw[s7.1,s6.1,s5.1,n4]) λy o y1 y2 z=>k7 y o y1 (k3 y o y1 (s1.extBut y o y2 z))⟩))
set_option tactic.hygienic true in
def au5{i:Nat}(Z:IsEnum s.heap e it i old)(a:Zg b s.heap it t i)(c:SqB b s.heap t xs)(Y:xs[i]?=some x)(L:e≠it)(q:∀h',IsEnumOut h' e it ((i:Int)+1) x s.heap.objs.size->Zg b h' it t (i+1)->h'.get? s.heap.objs.size=some { cls:=.type "tuple",data:=.seq #[.int i s.toks,x] }->h'.objs.size=s.heap.objs.size+1 ->
 (∀y o,y≠e->y≠it->s.heap.get? y=some o->h'.get? y=some o)->Q (some (.ref s.heap.objs.size)) { s with heap:=h',toks:=s.toks+1 }):wpAny (model prog w) A (pyNext (.ref e)) Q E s:=by
 have ty:s.TypeIs (.ref e) "enumerate" := ⟨_,Z,rfl⟩;unfold pyNext;refine aa (wpAny_attempt (j8 (name:=Str.ofString "__next__") ty yh (jf yh ty F.entry_enumerate_next ?_ (F.args_enumerate_next_1 _))));exact au4 Z a c Y L λh' C U J G R=>aj (q h' C U J G R)
set_option tactic.hygienic true in
def au6{i:Nat}(J:A.handled=none)(Z:IsEnum s.heap e it i old)(a:Zg b s.heap it t i)(c:SqB b s.heap t xs)(Y:xs[i]?=none)(q:∀h',Heap.ExtBut it s.heap h'->Q none { s with heap:=h' }):wpAny (model prog w) A (pyNext (.ref e)) Q E s:=by have ty:s.TypeIs (.ref e) "enumerate" := ⟨_,Z,rfl⟩;unfold pyNext;refine aa (wpAny_attempt (j8 (name:=Str.ofString "__next__") ty yh (jf yh ty F.entry_enumerate_next ?_ (F.args_enumerate_next_1 _))));show wpAny _ _ (field (.ref e) 2 >>= _) _ _ _;refine aa (ji Z rfl (x:=.ref it) rfl (aa (aie J a c Y λh' z k z_=>?_)));obtain⟨o,G,U⟩:=z_;exact aa (m5 (T := "StopIteration") (b:=true) ⟨o,G,U⟩ isSubtype_stop (aj (q _ k)))
set_option tactic.hygienic true in
def au7(t:Addr)(xs:Q1)(n:Nat)(Y:Option Addr)(J:Array (Option Value)) :
 Meets (Builtin.«enumerate.__new__» ⟨[.type "enumerate",.ref t],[]⟩) (λ_ R s=>s.heap.get? t=some { cls:=.type "tuple",dict:=Y,data:=.seq xs n,slots:=J } /\
  R (.ok (.ret (.ref (s.heap.push { cls:=.type "tuple_iterator",data:=.fields #[.ref t,.int 0 0] }).objs.size)))
   { s with heap:=(s.heap.push { cls:=.type "tuple_iterator",data:=.fields #[.ref t,.int 0 0] }).push { cls:=.type "enumerate",data:=.fields #[.none,.bool false,.ref s.heap.objs.size,rawInt 0,.none,.none] } }) :=
 .of_wp λprog w A R s h=>by
  obtain⟨L,g,d,C,U⟩:=s;obtain⟨Z,h⟩:=h;have S:=sub_enumerate;have G:Heap.IsTuple (Shared.heap ⟨L,g,d,C,U⟩) t xs:=⟨_,Z,rfl,n,rfl⟩
  wp_walk using wpAny_loadPart' Z
  refine wpAny_stack_any λst=>aj ?_
  split
  .rename_i c _ _ _ _ _
   cases(c==Value.type "enumerate")<;>(wp_walk using wpAny_loadPart' Z,xr G)<;>exact⟨_,rfl,h⟩
  .wp_walk using wpAny_loadPart' Z,xr G
   exact⟨_,rfl,h⟩
def apm(c:s.heap.IsTuple t xs)(q:∀h',IsEnum h' (s.heap.objs.size+1) s.heap.objs.size 0 .none->h'.IsTupleIter s.heap.objs.size t 0->h'.objs.size=s.heap.objs.size+2 ->
 (∀y o,s.heap.get? y=some o->h'.get? y=some o)->Q (.ref (s.heap.objs.size+1)) { s with heap:=h' }):wpAny (model prog w) A (call (.type "enumerate") [.ref t]) Q E s:=by
 obtain⟨⟨c0,R,dt,sl⟩,hl,Z,n,G⟩:=c;have Z:c0=.type "tuple" := Z;have G:dt=.seq xs n:=G;subst Z G;have U:(s.heap.push { cls:=.type "tuple_iterator",data:=.fields #[.ref t,.int 0 0] }).objs.size=s.heap.objs.size+1:=iz ..;refine callType_new F.called_enumerate (by decide) (F.typeCall_enumerate_1 _) (F.newCall_enumerate_1 _) (λobj=>F.args_object_init_2 obj _) F.entry_enumerate_new (au7 t xs n R sl) ⟨hl,?_⟩;show _/\_;rw[U];have e1:IsEnum ((s.heap.push { cls:=.type "tuple_iterator",data:=.fields #[.ref t,.int 0 0] }).push { cls:=.type "enumerate",data:=.fields #[.none,.bool false,.ref s.heap.objs.size,rawInt 0,.none,.none] }) (s.heap.objs.size+1) s.heap.objs.size 0 .none:=by rw[<- U];exact bc _ rfl
 exact⟨⟨_,e1,rfl⟩,q _ e1 ⟨_,ao _ (bc _ rfl),rfl,rfl⟩ (by rw[iz,U]) λy o z=>ao _ (ao _ z)⟩
end EnT
namespace L2
open PySem PySem.Spec EnT
def Inv.Zh{ch:Xt}(I:Inv X pins σ H s)(G:∀b∈ch,Va X pins H b)(k:∀b o,b∉ch->s.heap.get? b=some o->h'.get? b=some o)(hn:s.heap.objs.size<=n)(new:Ay X.prog X.w (upd H n (.tup vs)) h' n (.tup vs)):Inv X pins σ (upd H n (.tup vs)) { s with heap:=h',toks:=t' }:=by
 have R:H n=none:=I.Ar.fresh hn;have U:∀b u,H b=some u->b∉ch:=λb u e z=>by rw[(G b z).1] at e;cases e
 have qq:∀b o,s.heap.get? b=some o->b≠n:=λb o e=>dq (gr (au e) hn)
 refine I.step (g':=s.gens) (d':=s.drawn) (ch:=ch) (λb hb=>⟨(G b hb).2.2.2.1,(G b hb).2.1,(G b hb).2.2.2.2.1,(G b hb).2.2.2.2.2⟩) (λb o _ _ Z e _=>k b o Z e) (λb o _ _ Z e _=>⟨o.slots,k b o Z e⟩) (λb o _ e n0=>by rw[kh (qq b o e)];exact n0)
  (λb o Z e=>⟨o,k b o Z e⟩) (λb xs e=>by rw[kh (lq e R)];exact e) (λb o u e=>by rw[kh (lq e R)];exact e) (λb ps e=>⟨#[],by rw[kh (lq e R),e];simp⟩) (λm hm=>?_) (λb u e=>?_) I.bare
 .obtain⟨o,es,ep,ho,r⟩:=hm
  exact⟨o,es,ep,k _ o (λz=>(G _ z).2.1 rfl) ho,r⟩
 .by_cases z:b=n
  .subst z;rw[yg] at e;cases e;exact new
  .rw[kh z] at e
   refine(I.Ar b u e).stay (λc v Z q=>k c v ?_ q) (λc q=>by rw[kh (lq q R)];exact q) λc xs q=>by rw[kh (lq q R)];exact q
   rcases Z with y|y
   .rw[y];exact U b u e
   .exact U c _ y
def Inv.aif{ch:Xt}(I:Inv X pins σ H s)(G:∀b∈ch,Va X pins H b)(k:∀b o,b∉ch->s.heap.get? b=some o->h'.get? b=some o):Inv X pins σ H { s with heap:=h',toks:=t' }:=by
 have U:∀b u,H b=some u->b∉ch:=λb u e z=>by rw[(G b z).1] at e;cases e
 refine I.step (g':=s.gens) (d':=s.drawn) (ch:=ch) (λb R=>⟨(G b R).2.2.2.1,(G b R).2.1,(G b R).2.2.2.2.1,(G b R).2.2.2.2.2⟩) (λb o _ _ Z e _=>k b o Z e) (λb o _ _ Z e _=>⟨o.slots,k b o Z e⟩) (λb o _ e n0=>n0)
  (λb o Z e=>⟨o,k b o Z e⟩) (λb xs e=>e) (λb o u e=>e) (λb ps e=>⟨#[],by rw[e];simp⟩) (λm hm=>?_) (λb u e=>?_) I.bare
 .obtain⟨o,es,ep,ho,r⟩:=hm
  exact⟨o,es,ep,k _ o (λz=>(G _ z).2.1 rfl) ho,r⟩
 .refine(I.Ar b u e).stay (λc v Z q=>k c v ?_ q) (λ_ q=>q) λ_ _ q=>q
  rcases Z with y|y
  .rw[y];exact U b u e
  .exact U c _ y
def SqX(b:Bool)(K:Fg)(H:Hp)(a:Addr)(xs:List V):Prop:=cond b (J5 K H a xs) (Gw K H a xs)
def Inv.akn(I:Inv X pins σ H s)(h:SqX b X.K H a xs):∃Z,Vals xs Z/\SqB b s.heap a Z.toArray:=by
 cases b with
 |true=>obtain⟨Z,G,p,U⟩:=I.tuple h;exact⟨Z,G,show s.heap.IsTuple a Z.toArray from p⟩
 |false=>obtain⟨Z,G,p,U⟩:=I.list h;exact⟨Z,G,p.isList⟩
def Inv.ad8(I:Inv X pins σ H s)(h:SqX b X.K H a xs)(g:SqX b X.K H a ys):xs=ys:=by
 cases b with
 |true=>exact I.Yv h g|false=>exact I.ac8 h g
noncomputable def Ien(b:Bool)(K:Fg)(a:Addr):It :=
 ⟨λi H=>∃Z x,SqX b K H a Z/\Z[i]?=some x,λi H v G=>∃p x,v=.ref p/\H p=none/\G=upd H p (.tup [.int (i:Nat),x])/\∀Z,SqX b K H a Z->Z[i]?=some x,λi H=>∃Z,SqX b K H a Z/\Z.length<=i⟩
set_option tactic.hygienic true in
theorem au8(a e it:Addr)(ne:e≠it):Turn P w K (.Tuple ts k0 pt) (Ien b K a) [e,it] e (λi h=>(∃Z,IsEnum h e it ((i:Nat):Int) Z)/\Zg b h it a i) where
 mem:=by simp
 obj:=λi h st c Y=>by
  obtain⟨⟨Z,G⟩,J⟩:=st;rcases bz.mp Y with z|z
  .subst z;exact⟨_,G,λv z=>by cases z⟩
  .have z:c=it:=by simpa using z
   subst z;exact J.obj
 keep:=λi h h' st k=>by obtain⟨⟨Z,G⟩,J⟩:=st;exact⟨⟨Z,k e (by simp) _ G⟩,J.at λo z=>k it (by simp) o z⟩
 item:=by
  intro X hP hw hK Y i C s σ H E I R st hg;subst hP hw hK;obtain⟨xs,x,S,L⟩:=hg;obtain⟨yq,rv,p⟩:=I.akn S;obtain⟨u,hu,ru⟩:=rv.get L;obtain⟨⟨Z,G⟩,J⟩:=st;have lt:e<s.heap.objs.size:=au G
  refine au5 G J p (x:=u) (by simpa using hu) ne λh1 o1 a1 t1 n1 k1=>⟨_,rfl,?_⟩
  refine wpAny_letOwnedTupleGo_enum o1 λh2 o2 U=>?_
  have U:Heap.SameBut e h1 h2:=U;have t2:h2.get? s.heap.objs.size=some { cls:=.type "tuple",data:=.seq #[.int i s.toks,u] }:=(U.2 _ (o7 lt)).trans t1;refine⟨.ref s.heap.objs.size,upd H s.heap.objs.size (.tup [.int (i:Nat),x]),I.Zh (t':=s.toks+1) R (λc o Y z=>?_) (bf _) ⟨by show 2<=sizeLine;decide,[.int i s.toks,u],.cons ⟨s.toks,rfl⟩ (.cons ru .nil),⟨_,t2,rfl,_,rfl,rfl⟩⟩,rfl,
   ⟨_,x,rfl,I.Ar.fresh (bf _),rfl,λys hy=>by rw[I.ad8 hy S];exact L⟩,⟨⟨u,?_⟩,a1.at λo z=>U.extBut it o (j5 ne) z⟩,λc Y=>?_⟩
  .have c1:c≠e:=λz=>Y (by simp[z])
   have c2:c≠it:=λz=>Y (by simp[z])
   exact U.extBut c o c1 (k1 c o c1 c2 z)
  .have q:((i+1:Nat):Int)=(i:Int)+1:=by push_cast;rfl
   rw[q];exact o2
  .have qq:c<s.heap.objs.size:=by
    rcases bz.mp Y with z|z
    .rw[z];exact lt
    .have z:c=it:=by simpa using z
     obtain⟨o,z2,_⟩:=J.obj;rw[z];exact au z2
   rw[kh (dq qq)];exact(R c Y).1
 done:=by intro X hP hw hK Y i C s σ H E I R st hg;subst hP hw hK;obtain⟨xs,S,L⟩:=hg;obtain⟨yq,rv,p⟩:=I.akn S;obtain⟨⟨Z,G⟩,J⟩:=st;have hl:=rv.length;refine au6 (I.ok.hd Y) G J p (by simp;exact a_ (g_ hl) L) λh' eb=>⟨rfl,I.aif (t':=s.toks) R λc o Y z=>eb c o (λy=>Y (by simp[y])) z⟩
 self:=λ_ _ _ _ _ st h=>by obtain⟨⟨Z,G⟩,J⟩:=st;exact wpAny_pyIter_enum G h
def a89(hg:Gl X "enumerate")(hm:X.mg "enumerate" = none)(ha:PA X [a] ta)(hs:starEach [a] X.env=[(false,eval a X.env)]) :
 PI X (.Tuple ts k0 pt) (.Call (.Name "enumerate" p) [a] [] pos) (fun σ H R=>ta σ H λvs H1=>∃b q,vs=[.ref q]/\(∃xs,SqX b X.K H1 q xs)/\R (Ien b X.K q) H1):=by
 intro U s σ H R I h;refine PyProof.Rows.Call_ (Bq I hg hm (show bootBuiltins "enumerate" = some (.type "enumerate") by decide+kernel) (iw (Bj (ha pos U s σ H _ I h) λus Z ⟨vs,H1,I1,r1,q1⟩=>?_) hs rfl));obtain⟨b,q,rfl,⟨xs,hq⟩,hR⟩:=q1;cases r1 with
 |cons r rr =>
  cases rr;cases r;obtain⟨yq,rv,p⟩:=I1.akn hq;have fin:∀G,IsEnum G (Z.heap.objs.size+1) Z.heap.objs.size 0 .none->Zg b G Z.heap.objs.size q 0->(∀y o,Z.heap.get? y=some o->G.get? y=some o) ->
   wpAny (model X.prog X.w) X.A (pyIter (.ref (Z.heap.objs.size+1))) (PIE X U σ (.Tuple ts k0 pt) R) X.xe { Z with heap:=G }:=λG e1 e2 kk=>by
   refine wpAny_pyIter_enum e1 ?_;refine⟨Z.heap.objs.size+1,[Z.heap.objs.size+1,Z.heap.objs.size],_,_,H1,rfl,I1.kept (t':=Z.toks) kk,au8 (b:=b) q _ _ (Nat.succ_ne_self _),⟨⟨.none,e1⟩,e2⟩,λc hc=>?_,hR⟩;have qq:Z.heap.objs.size<=c:=by
    rcases bz.mp hc with z|z
    .rw[z];exact w5 _
    .have z:c=Z.heap.objs.size:=by simpa using z
     rw[z];exact bf _
   exact I1.anv qq (I1.Ar.fresh qq)
  cases b with
  |true=>exact apm p λG e1 e2 _ kk=>fin G e1 e2 kk
  |false=>exact call_enumerate_list p λG e1 e2 _ kk=>fin G e1 e2 kk
end L2
namespace EnT
open PySem PySem.Spec
noncomputable def tpN(xs:Zl):Obj:={ cls:=.type "tuple",data:=.seq xs.toArray }
structure ZN(b:Bool)(h0:Heap)(n:Nat)(ls:Yf)(f0:Value)(ov:Zl)(k d:Nat)(g:Heap):Prop where
 z:IsZip g (n+ls.length+2) (n+ls.length) (n+ls.length+1) f0
 o:g.get? (n+ls.length+1)=some (tpN ov)
 a:∀(j:Nat) l,ls[j]?=some l->Zg b g (n+j) l (if j<d then k+1 else k)
 low:∀c o,(c<n\/c=n+ls.length\/n+ls.length+2<c)->h0.get? c=some o->g.get? c=some o
def SqB.lt(x:SqB b h a xs):a<h.objs.size:=by
 cases b with
 |true=>obtain⟨o,c,_⟩:=x;exact au c
 |false=>obtain⟨o,c,_⟩:=x;exact au c
def SqB.at(x:SqB b h a xs)(e:∀o,h.get? a=some o->h'.get? a=some o):SqB b h' a xs:=by
 cases b with
 |true=>obtain⟨o,c,d⟩:=x;exact⟨o,e o c,d⟩
 |false=>obtain⟨o,c,d⟩:=x;exact⟨o,e o c,d⟩
def aea{ls:Yf}{j:Nat}(h:ls[j]?=some l):j<ls.length:=(ak.mp h).1
def ZN.sz(H:ZN b h0 n ls f0 Z k d g)(e:Heap.ExtBut (n+ls.length+2) g g')(z:IsZip g' (n+ls.length+2) (n+ls.length) (n+ls.length+1) f1):ZN b h0 n ls f1 Z k d g' :=
 ⟨z,e _ _ (by lia) H.o,λj l h=>(H.a j l h).at λo=>e _ o (by have:=aea h;lia),λc o G z=>e _ _ (by lia) (H.low c o G z)⟩
def ZN.so(H:ZN b h0 n ls f0 G k d g)(e:Heap.ExtBut (n+ls.length+1) g g')(z:g'.get? (n+ls.length+1)=some (tpN ow)):ZN b h0 n ls f0 ow k d g' :=
 ⟨e _ _ (by lia) H.z,z,λj l h=>(H.a j l h).at λo=>e _ o (by have:=aea h;lia),λc o Z z=>e _ _ (by lia) (H.low c o Z z)⟩
def ZN.sa(H:ZN b h0 n ls f0 Z k d g)(U:d<ls.length)(e:Heap.ExtBut (n+d) g g')(z:∀l,ls[d]?=some l->Zg b g' (n+d) l (k+1)):ZN b h0 n ls f0 Z k (d+1) g' :=
 ⟨e _ _ (by lia) H.z,e _ _ (by lia) H.o,λj l h=>by
  by_cases c:j=d
  .subst c;rw[cj (by lia)];exact z l h
  .have:=H.a j l h
   have i:(if j<d+1 then k+1 else k)=if j<d then k+1 else k:=by
    by_cases q:j<d
    .rw[cj q,cj (by lia)]
    .rw[bx q,bx (by lia)]
   rw[i];exact this.at λo=>e _ o (by lia),λc o G z=>e _ _ (by lia) (H.low c o G z)⟩
def ZN.up(H:ZN b h0 n ls f0 Z k d g)(e:∀c o,g.get? c=some o->g'.get? c=some o):ZN b h0 n ls f0 Z k d g' :=
 ⟨e _ _ H.z,e _ _ H.o,λj l h=>(H.a j l h).at (e _),λc o G z=>e _ _ (H.low c o G z)⟩
def ZN.nx(H:ZN b h0 n ls f0 Z k ls.length g):ZN b h0 n ls f0 Z (k+1) 0 g :=
 ⟨H.z,H.o,λj l h=>by have:=H.a j l h;rw[cj (aea h)] at this;exact this,H.low⟩
def au9{T:Addr}{Q:Unit->Shared->Prop}(hz:Z.length<=3)(G:s.heap.get? T=some (tpN Z))(h:∀h',h'.get? T=some (tpN (Z.set k x))->Heap.ExtBut T s.heap h'->h'.objs.size=s.heap.objs.size->Q () { s with heap:=h' }) :
 wpAny (model prog w) A (updateSeq T (·.setIfInBounds k x)) Q E s:=by
 have U:Heap.SameBut T s.heap (s.heap.update T (Obj.mapSeq (·.setIfInBounds k x))):=jm ..;refine wpAny_updateSeq G rfl (h _ ?_ U.extBut U.1) (hz:=ie (by simpa using hz) (show 3<=sizeLine by decide)) (_hz':=ie (by simpa using hz) (show 3<=sizeLine+1 by decide));rw[m8 _ G rfl];simp[Obj.mapSeq,tpN]
noncomputable def Fo(n m:Nat):List Value:=(List.range m).map λj=>.ref (n+j)
def aih(n m:Nat):(Fo n m).zipIdx=(List.range' 0 m).map λj=>(Value.ref (n+j),j):=by
 apply ye;intro i;rw[zb]
 by_cases h:i<m
 .simp[Fo,h]
 .simp[Fo,h]
def At(b:Bool)(h:Heap)(ls:Yf)(k:Nat)(vs:Zl):Prop:=vs.length=ls.length/\∀(j:Nat) l,ls[j]?=some l->∃Z x,SqB b h l Z/\Z[k]?=some x/\vs[j]?=some x
def ava{n k:Nat}{Q:Y3}(Uh:ls≠[])(h3:ls.length<=3)(H:ZN b s.heap n ls .none Z k 0 s.heap)(ho:Z.length=ls.length)(hI:s.heap.get? (n+ls.length)=some (tpN (Fo n ls.length)))(hl:∀l∈ls,l<n)(ha:At b s.heap ls k vs)
 (hq:∀h',ZN b s.heap n ls (rawInt s.heap.objs.size) vs (k+1) 0 h'->h'.get? s.heap.objs.size=some (tpN vs)->Q (.ref s.heap.objs.size) { s with heap:=h' }) :
 wpAny (model prog w) A (Builtin.«zip.__next__» ⟨[.ref (n+ls.length+2)],[]⟩) (λfin s'=>∃v,fin=.done (.ret v)/\Q v s') E s:=by
 have hz:=H.z;have ne:(Fo n ls.length).toArray.isEmpty=false:=by cases ls with|nil=>exact absurd rfl Uh|cons a l=>simp[Fo]
 show wpAny _ _ (field (.ref (n+ls.length+2)) 2 >>= _) _ _ _;refine aa (ji hz rfl (x:=.bool false) rfl (aa (ji hz rfl (x:=.ref (n+ls.length)) rfl (aa (ug hI rfl ?_)))));simp only[ne,bu,ik];unfold Builtin.SmallTypes.ownedTupleIsFree;refine aa (aa (ji hz rfl (x:=.none) rfl (aj ?_)));simp only[jn];refine aa (wpAny_rule (aa (ji hz rfl (x:=.ref (n+ls.length+1)) rfl (aa (jd hz (by simp) λg1 z1 s1=>?_)))));have H1:=H.sz s1.extBut (f1:=.ellipsis) z1;refine aa (qu _ (λU bb s'=>bb=(none,())/\∃d Z g,U=((List.range' d (ls.length-d)).map λj=>(Value.ref (n+j),j))/\d<=ls.length/\s'={ s with heap:=g }/\ZN b s.heap n ls .ellipsis Z k d g/\Z.length=ls.length/\(∀i,i<d->Z[i]?=vs[i]?)/\g.objs.size=s.heap.objs.size) _ (λx U bb s' hI=>?_) (λbb s' hI=>?_) _ _ ⟨rfl,0,Z,g1,?_,jx _,rfl,H1,ho,λi hi=>absurd hi (yz _),s1.1⟩)
 .obtain⟨rfl,d,Z,g,e,G,rfl,R,o2,v2,n2⟩:=hI
  have G:d<ls.length:=by
   rcases yw d ls.length with h|h
   .exact h
   .rw[Nat.sub_eq_zero_of_le h] at e;cases e
  obtain⟨c,hc⟩:∃c,ls.length-d=c+1:=⟨ls.length-d-1,by lia⟩;rw[hc,List.range'_succ,ig] at e;injection e with e1 e2
  subst e1 e2;obtain⟨l,el⟩:∃l,ls[d]?=some l:=⟨ls[d],by simp[G]⟩;obtain⟨xs,x,t1,t2,t3⟩:=ha.2 d l el;have i0:=R.a d l el;rw[bx (m7 _)] at i0;have ll:=hl l (az el);refine aa (wpAny_onRaise (aa (ad7 (s:={ s with heap:=g }) i0 (t1.at λo=>R.low _ o (by lia)) t2 λg2 i2 s2=>aj ?_)));have H3:=R.sa G s2.extBut λl' h=>by rw[el] at h;cases h;exact i2
  refine aa (ug H3.o rfl (aa (au9 (by rw[o2];exact h3) H3.o λg3 o3 s3 n3=>?_)));have H4:=H3.so s3 o3;refine aa (wpAny_letGo (aj ⟨rfl,d+1,Z.set d x,g3,by rw[show ls.length-(d+1)=c by lia],G,rfl,H4,by rw[List.length_set,o2],λi hi=>?_,by rw[n3,show g2.objs.size=g.objs.size from s2.1,n2]⟩))
  by_cases z:i=d
  .subst z
   rw[Ab (by lia),t3]
  .rw[vq (j5 z)];exact v2 i (by lia)
 .obtain⟨rfl,d,Z,g,e,G,rfl,R,o2,v2,n2⟩:=hI
  have G:d=ls.length:=by
   rcases yw d ls.length with h|h
   .obtain⟨c,hc⟩:∃c,ls.length-d=c+1:=⟨ls.length-d-1,by lia⟩
    rw[hc,List.range'_succ] at e;cases e
   .exact Nat.le_antisymm G h
  subst G;obtain rfl:Z=vs:=by
   apply ye;intro i;rcases yw i ls.length with h|h
   .exact v2 i h
   .rw[kj (by lia),kj (by rw[ha.1];exact h)]
  refine aa (ug R.o rfl (aa (wpAny_newTuple ?_)));have H8:=R.nx.up (g':=g.push (tpN Z)) λc o e=>ao _ e
  refine aa ?_;unfold Builtin.SmallTypes.ownedTupleHandOut;refine aa (jd H8.z (by simp) λg9 z9 s9=>?_);have H9:=H8.sz s9.extBut (f1:=rawInt g.objs.size) z9;refine jd H9.z (by simp) λq0 q1 qk=>?_
  have qq:=H9.sz qk.extBut (f1:=rawInt g.objs.size) q1;have zl:n+ls.length+2<g.objs.size:=au R.z
  have qv:q0.get? g.objs.size=some (tpN Z):=qk.extBut _ _ (o7 zl) (s9.extBut _ _ (o7 zl) (bc _ rfl));refine aj ⟨_,rfl,?_⟩;show Q (.ref g.objs.size) _;rw[n2] at qq qv ⊢;exact hq q0 qq qv
 .show(Fo n ls.length).zipIdx=_
  rw[aih];rfl
def a1p{n k:Nat}{ls:Yf}(hd:A.handled=none)(h0:ls[0]?=some l)(H:ZN b s.heap n ls .none ov k 0 s.heap)(hI:s.heap.get? (n+ls.length)=some (tpN (Fo n ls.length)))(hl:l<n)(c1:SqB b s.heap l xs)(e1:xs[k]?=none)
 (hE:∀h' e,(∀c o,(c<n\/n+ls.length+2<c)->s.heap.get? c=some o->h'.get? c=some o)->(∃o,h'.get? e=some o/\o.cls=.type "StopIteration")->E (.ref e) { s with heap:=h' }) :
 wpAny (model prog w) A (Builtin.«zip.__next__» ⟨[.ref (n+ls.length+2)],[]⟩) Q E s:=by
 have Z:=H.z;obtain⟨c,hc⟩:∃c,ls.length=c+1:=⟨ls.length-1,by have:=aea h0;lia⟩;have U:(Fo n ls.length).toArray.isEmpty=false:=by rw[hc];simp[Fo]
 show wpAny _ _ (field (.ref (n+ls.length+2)) 2 >>= _) _ _ _;refine aa (ji Z rfl (x:=.bool false) rfl (aa (ji Z rfl (x:=.ref (n+ls.length)) rfl (aa (ug hI rfl ?_)))));simp only[U,bu,ik];unfold Builtin.SmallTypes.ownedTupleIsFree;refine aa (aa (ji Z rfl (x:=.none) rfl (aj ?_)));simp only[jn];refine aa (wpAny_rule (aa (ji Z rfl (x:=.ref (n+ls.length+1)) rfl (aa (jd Z (by simp) λg1 z1 s1=>?_)))));have G:=H.sz s1.extBut (f1:=.ellipsis) z1;have i1:Zg b g1 n l k:=G.a 0 l h0;have er:(Fo n ls.length).zipIdx=(Value.ref n,0)::(List.range' 1 c).map λj=>(Value.ref (n+j),j):=by rw[aih,hc];rfl
 rw[er,List.forIn_cons];refine aa (aa (aa (wpAny_onRaise (aa (aie (s:={ s with heap:=g1 }) hd i1 (c1.at λo=>G.low _ o (by lia)) e1 λg2 x s2 z_=>?_)))));obtain⟨o,R,o2⟩:=z_;have z2:IsZip g2 (n+ls.length+2) (n+ls.length) (n+ls.length+1) .ellipsis:=s2 _ _ (by lia) G.z;have U:x≠n+ls.length+2:=λy=>by subst y;rw[z2] at R;cases R;simp at o2
 exact jd z2 (by simp) λg3 _ s3=>hE g3 x (λc o y1 e=>s3.extBut _ _ (by lia) (s2 _ _ (by lia) (s1.extBut _ _ (by lia) e))) ⟨o,s3.extBut _ _ U R,o2⟩
noncomputable def zI(b:Bool)(a:Addr):Obj:={ cls:=.type (cond b "tuple_iterator" "list_iterator"),data:=.fields #[.ref a,.int 0 0] }
noncomputable def pI(b:Bool)(h:Heap)(ls:Yf):Heap:=ls.foldl (λh l=>h.push (zI b l)) h
theorem abh:∀(ls:Yf)(h:Heap),(pI b h ls).objs.size=h.objs.size+ls.length
 |[],h=>rfl
 |l::ls,h=>by
  have:=abh (b:=b) ls (h.push (zI b l));rw[iz] at this;rw[gm,<- Nat.add_assoc,Nat.add_right_comm];exact this
theorem aii:∀{ls:Yf}{h:Heap},h.get? c=some o->(pI b h ls).get? c=some o
 |[],_,e=>e|x::ls,h,e=>aii (ls:=ls) (h:=h.push (zI b x)) (ao _ e)
theorem apn:∀{ls:Yf}{h:Heap}{j:Nat},ls[j]?=some l->(pI b h ls).get? (h.objs.size+j)=some (zI b l)
 |x::ls,h,0,e=>by cases e;exact aii (ls:=ls) (h:=h.push (zI b l)) (bc _ rfl)
 |x::ls,h,j+1,e=>by
  have:=apn (b:=b) (h:=h.push (zI b x)) (ls:=ls) (j:=j) e;rw[iz] at this;rw[<- Nat.add_assoc,Nat.add_right_comm];exact this
def a9b(h:g.get? i=some (zI b l)):Zg b g i l 0:=by
 cases b with
 |true=>exact⟨_,h,rfl,rfl⟩|false=>exact⟨_,h,rfl,rfl⟩
def a1q{Q:Y3}(h:SqB b s.heap a xs)(q:Q (.ref s.heap.objs.size) { s with heap:=s.heap.push (zI b a) }):wpAny (model prog w) A (pyIter (.ref a)) Q E s:=by
 cases b with
 |true=>exact xr h q|false=>exact yf h q
def avb{Q:List Value->Shared->Prop}(ht:∀l∈ls,∃xs,SqB b s.heap l xs)(q:Q (Fo s.heap.objs.size ls.length) { s with heap:=pI b s.heap ls }):wpAny (model prog w) A (Builtin.SmallTypes.iterAll (ls.map .ref)) Q E s:=by
 unfold Builtin.SmallTypes.iterAll;refine aa (qu _ (λG yq R=>∃d,d<=ls.length/\G=(ls.drop d).map .ref/\yq=(Fo s.heap.objs.size d).toArray/\R={ s with heap:=pI b s.heap (ls.take d) }) _ (λx G bb R U=>?_) (λbb R U=>?_) _ _ ⟨0,jx _,rfl,rfl,rfl⟩)
 .obtain⟨d,Z,e,rfl,rfl⟩:=U
  have Z:d<ls.length:=by
   rcases yw d ls.length with h|h
   .exact h
   .rw[List.drop_of_length_le h] at e;cases e
  rw[List.drop_eq_getElem_cons Z,ig] at e;injection e with e1 e2
  subst e1 e2;obtain⟨xs,hx⟩:=ht ls[d] (p7 Z);refine aa (il (a1q (hx.at λo e=>aii e) (aj ⟨d+1,Z,rfl,?_,?_⟩)))
  .rw[abh,List.length_take,Nat.min_eq_left (yu Z)]
   simp[Fo,Ai]
  .have:pI b s.heap (ls.take (d+1))=(pI b s.heap (ls.take d)).push (zI b ls[d]):=by
    rw[List.take_succ,dj Z,pI,List.foldl_append];rfl
   rw[this]
 .obtain⟨d,Z,e,rfl,rfl⟩:=U
  have Z:d=ls.length:=by
   rcases yw d ls.length with h|h
   .rw[List.drop_eq_getElem_cons h] at e;cases e
   .exact Nat.le_antisymm Z h
  subst Z;rw[Bb];exact aj (by simpa using q)
noncomputable def zB(b:Bool)(h:Heap)(ls:Yf):Heap:=(pI b h ls).push (tpN (Fo h.objs.size ls.length))
noncomputable def zC(b:Bool)(h:Heap)(ls:Yf):Heap:=(zB b h ls).push (tpN ((Fo h.objs.size ls.length).map λ_=>.none))
noncomputable def zD(b:Bool)(h:Heap)(ls:Yf):Heap:=(zC b h ls).push { cls:=.type "zip",data:=.fields #[.none,.bool false,.bool false,.ref (pI b h ls).objs.size,.ref (zB b h ls).objs.size] }
def apo(h3:ls.length<=3) :
 Meets (Builtin.«zip.__new__» ⟨.type "zip"::ls.map .ref,[]⟩) (λ_ R s=>(∀l∈ls,∃xs,SqB b s.heap l xs)/\R (.ok (.ret (.ref (zC b s.heap ls).objs.size))) { s with heap:=zD b s.heap ls }) :=
 .of_wp λprog w A R s h=>by
  obtain⟨Z,g,d,U,G⟩:=s;obtain⟨ht,h⟩:=h;have Zy:=sub_zip;have f1:∀{Q:List Value->Shared->Prop}{A E},Q (Fo Z.objs.size ls.length) ⟨pI b Z ls,g,d,U,G⟩->wpAny (model prog w) A (Builtin.SmallTypes.iterAll (ls.map .ref)) Q E ⟨Z,g,d,U,G⟩:=λq=>avb ht q
  have sz:∀(xs:Zl),xs.length<=3->xs.toArray.size<=sizeLine:=λxs h=>ie (by simpa using h) (show 3<=sizeLine by decide)
  have f2:∀{Q:Y3}{A E}{h:Heap},Q (.ref h.objs.size) ⟨h.push (tpN (Fo Z.objs.size ls.length)),g,d,U,G⟩->wpAny (model prog w) A (newTuple (Fo Z.objs.size ls.length)) Q E ⟨h,g,d,U,G⟩:=λq=>wpAny_newTuple q (sz _ (by simpa[Fo] using h3))
  have f3:∀{Q:Y3}{A E}{h:Heap},Q (.ref h.objs.size) ⟨h.push (tpN ((Fo Z.objs.size ls.length).map λ_=>.none)),g,d,U,G⟩->wpAny (model prog w) A (newTuple ((Fo Z.objs.size ls.length).map λ_=>.none)) Q E ⟨h,g,d,U,G⟩:=λq=>wpAny_newTuple q (sz _ (by simpa[Fo] using h3))
  wp_walk using f1,f2,f3
  exact⟨_,rfl,h⟩
def avc{n:Nat}(h3:ls.length<=3)(Z:s.heap.objs.size=n)(ct:checkTypeCall "zip" ⟨ls.map .ref,[]⟩=pure ())(cb:checkBuiltinCall "zip.__new__" ⟨.type "zip"::ls.map .ref,[]⟩=pure ())(ca:∀obj,argsOk "object.__init__" ⟨obj::ls.map .ref,[]⟩)(ht:∀l∈ls,∃xs,SqB b s.heap l xs)
 (h:∀h',ZN b h' n ls .none ((Fo n ls.length).map λ_=>.none) 0 0 h'->h'.get? (n+ls.length)=some (tpN (Fo n ls.length))->(∀c o,s.heap.get? c=some o->h'.get? c=some o)->Q (.ref (n+ls.length+2)) { s with heap:=h' }):wpAny (model prog w) A (call (.type "zip") (ls.map .ref)) Q E s:=by
 refine callType_new F.called_zip (by decide) ct cb ca F.entry_zip_new (apo h3) ⟨ht,?_⟩;have U:(pI b s.heap ls).objs.size=n+ls.length:=by rw[abh,Z]
 have G:(zB b s.heap ls).objs.size=n+ls.length+1:=by unfold zB;rw[iz,U]
 have z5:(zC b s.heap ls).objs.size=n+ls.length+2:=by unfold zC;rw[iz,G]
 have up:∀{h:Heap}{o':Obj}{c:Addr}{o:Obj},h.get? c=some o->(h.push o').get? c=some o:=λe=>ao _ e
 have R:(zD b s.heap ls).get? (zC b s.heap ls).objs.size=some _:=bc _ rfl;have g5:(zD b s.heap ls).get? (zB b s.heap ls).objs.size=some _:=up (bc _ rfl);have g4:(zD b s.heap ls).get? (pI b s.heap ls).objs.size=some _:=up (up (bc _ rfl));rw[U,G,z5] at R;rw[G,Z] at g5;rw[U,Z] at g4;show _/\_;rw[z5];exact⟨⟨_,R,rfl⟩,h _ ⟨R,g5,λj l e=>a9b (up (up (up (by rw[<- Z];exact apn e)))),λ_ _ _ e=>e⟩ g4 λc o e=>up (up (up (aii e)))⟩
theorem ako:∀vs:List Value,vs.length=2->checkTypeCall "zip" ⟨vs,[]⟩=pure ()/\checkBuiltinCall "zip.__new__" ⟨.type "zip"::vs,[]⟩=pure ()/\∀obj,argsOk "object.__init__" ⟨obj::vs,[]⟩
 |[a,b],_=>⟨F.typeCall_zip_2 _ _,F.newCall_zip_2 _ _,λobj=>F.args_object_init_3 obj _ _⟩
end EnT
namespace L2
open PySem PySem.Spec EnT
noncomputable def IzN(b:Bool)(K:Fg)(as:Xt):It :=
 ⟨λi H=>∃G:List V,G.length=as.length/\∀(j:Nat) a,as[j]?=some a->∃Z x,SqX b K H a Z/\Z[i]?=some x/\G[j]?=some x,
  λi H v U=>∃p G,v=.ref p/\H p=none/\U=upd H p (.tup G)/\G.length=as.length/\∀(j:Nat) a Z,as[j]?=some a->SqX b K H a Z->G[j]?=Z[i]?,
  λi H=>∃a Z,as[0]?=some a/\SqX b K H a Z/\Z.length<=i⟩
def TN(b:Bool)(n:Nat)(as:Xt)(i:Nat)(h:Heap):Prop:=(∃Z,ZN b h n as .none Z i 0 h/\Z.length=as.length)/\h.get? (n+as.length)=some (tpN (Fo n as.length))
noncomputable def FN(n m:Nat):List Addr:=List.range' n (m+3)
def FN.mem{n m c:Nat}:c∈FN n m↔n<=c/\c<n+m+3:=List.mem_range'_1
theorem at_of(I:Inv X pins σ H s):∀{as:Xt}{vs:List V},vs.length=as.length->(∀(j:Nat) a,as[j]?=some a->∃xs x,SqX b X.K H a xs/\xs[i]?=some x/\vs[j]?=some x)->∃us,Vals vs us/\At b s.heap as i us
 |[],[],_,_=>⟨[],.nil,rfl,λj l h=>by simp at h⟩
 |a::as,v::vs,l,h=>by
  obtain⟨us,r,e,q⟩:=at_of I (as:=as) (vs:=vs) (by simpa using l) (λj a e=>h (j+1) a e);obtain⟨xs,x,q1,x1,hv⟩:=h 0 a rfl;cases hv;obtain⟨i1,R,p1⟩:=I.akn q1;obtain⟨Z,u1,U⟩:=R.get x1;refine⟨Z::us,.cons U r,by simp[e],λj l G=>?_⟩;cases j with
  |zero=>cases G;exact⟨i1.toArray,Z,p1,by simpa using u1,rfl⟩|succ j=>exact q j l G
theorem avd{n:Nat}(h3:as.length<=3)(Uh:as≠[])(hl:∀a∈as,a<n):Turn P w K (.Tuple ts k0 pt) (IzN b K as) (FN n as.length) (n+as.length+2) (TN b n as) where
 mem:=FN.mem.mpr (by lia)
 obj:=λi h st e G=>by
  obtain⟨⟨ov,H,_⟩,U⟩:=st;obtain⟨c1,c2⟩:=FN.mem.mp G
  by_cases z:e<n+as.length
  .have q:e-n<as.length:=by lia
   have z:=(H.a (e-n) as[e-n] (by simp[q])).obj;rw[show n+(e-n)=e by lia] at z;exact z
  .rcases(show e=n+as.length\/e=n+as.length+1\/e=n+as.length+2 by lia) with rfl|rfl|rfl
   .exact⟨_,U,λv z=>by cases z⟩
   .exact⟨_,H.o,λv z=>by cases z⟩
   .exact⟨_,H.z,λv z=>by cases z⟩
 keep:=λi h h' st k=>by
  obtain⟨⟨ov,H,l⟩,U⟩:=st;have kk:∀d o,n<=d->d<n+as.length+3->h.get? d=some o->h'.get? d=some o:=λd o h1 h2=>k d (FN.mem.mpr ⟨h1,h2⟩) o
  exact⟨⟨ov,⟨kk _ _ (by lia) (by lia) H.z,kk _ _ (by lia) (by lia) H.o,λj l h=>(H.a j l h).at λo=>kk _ o (by lia) (by have:=aea h;lia),λ_ _ _ e=>e⟩,l⟩,kk _ _ (by lia) (by lia) U⟩
 item:=by
  intro X hP hw hK G i qq s σ H E I hf st R;subst hP hw hK;obtain⟨⟨ov,Z,lo⟩,U⟩:=st;have lt:n+as.length+2<s.heap.objs.size:=au Z.z
  obtain⟨vs,lv,R⟩:=R;obtain⟨us,r,ha⟩:=at_of I lv R;have ty:s.TypeIs (.ref (n+as.length+2)) "zip" := ⟨_,Z.z,rfl⟩;unfold pyNext;refine aa (wpAny_attempt (j8 (name:=Str.ofString "__next__") ty F.slot_zip_next (jf F.slot_zip_next ty F.entry_zip_next ?_ (F.args_zip_next_1 _))));refine ava Uh h3 Z lo U hl ha λh1 Z1 t1=>aj ⟨_,rfl,?_⟩
  refine wpAny_letOwnedTupleGo_zip Z1.z λh2 z2 s2=>?_
  have s2:Heap.SameBut (n+as.length+2) h1 h2:=s2;have Z2:=Z1.sz s2.extBut (f1:=.none) z2;have t2:h2.get? s.heap.objs.size=some (tpN us):=s2.extBut _ _ (o7 lt) t1;refine⟨.ref s.heap.objs.size,upd H s.heap.objs.size (.tup vs),I.Zh (t':=s.toks) hf (λc o G zz=>Z2.low c o (by rw[FN.mem] at G;lia) zz) (bf _) ⟨by rw[lv];exact ie h3 (show 3<=sizeLine by decide),us,r,⟨_,t2,rfl,_,rfl,rfl⟩⟩,rfl,
   ⟨_,vs,rfl,I.Ar.fresh (bf _),rfl,lv,λj a ys ja hy=>?_⟩,⟨⟨us,⟨Z2.z,Z2.o,Z2.a,λ_ _ _ e=>e⟩,ha.1⟩,Z2.low _ _ (by lia) U⟩,λc G=>?_⟩
  .obtain⟨xs,x,q1,q2,q3⟩:=R j a ja
   rw[I.ad8 hy q1,q2,q3]
  .rw[FN.mem] at G
   rw[kh (by lia)];exact(hf c (FN.mem.mpr G)).1
 done:=by
  intro X hP hw hK G i qq s σ H E I hf st R;subst hP hw hK;obtain⟨⟨ov,Z,lo⟩,U⟩:=st;obtain⟨a,xs,a0,q1,x1⟩:=R;obtain⟨i1,r1,p1⟩:=I.akn q1;have qk:=r1.length;have ty:s.TypeIs (.ref (n+as.length+2)) "zip" := ⟨_,Z.z,rfl⟩;unfold pyNext;refine aa (wpAny_attempt (j8 (name:=Str.ofString "__next__") ty F.slot_zip_next (jf F.slot_zip_next ty F.entry_zip_next ?_ (F.args_zip_next_1 _))));refine a1p (I.ok.hd G) a0 Z U (hl a (az a0)) (xs:=i1.toArray) p1 (by simp;lia) λh' e k z_=>?_
  obtain⟨o,o1,o2⟩:=z_;exact aa (m5 (T := "StopIteration") (b:=true) ⟨o,o1,o2⟩ isSubtype_stop (aj ⟨rfl,I.aif (t':=s.toks) hf λc o G zz=>k c o (by rw[FN.mem] at G;lia) zz⟩))
 self:=λ_ _ _ _ _ st h=>by obtain⟨⟨ov,Z,_⟩,_⟩:=st;exact wpAny_pyIter_zip Z.z h
theorem Zi:∀{as:Xt}{us:Zl},Vals (as.map V.ref) us->us=as.map Value.ref
 |[],_,h=>by cases h;rfl|_::_,_,h=>by cases h with|cons r t=>cases r;rw[Zi t];rfl
def a9c(hg:Gl X "zip")(hm:X.mg "zip" = none)(ha:PA X (a::es) ta)(hs:starEach (a::es) X.env=(false,eval a X.env)::starEach es X.env)(Gu:(backTo pos (starEach es X.env)).any (·.1)=false) :
 PI X (.Tuple ts k0 pt) (.Call (.Name "zip" p) (a::es) [] pos) (fun σ H R=>ta σ H λvs H1=>∃(b:Bool)(as:Xt),vs=as.map V.ref/\as.length=2/\(∀q∈as,∃xs,SqX b X.K H1 q xs)/\R (IzN b X.K as) H1):=by
 intro U s σ H R I h;refine PyProof.Rows.Call_ (Bq I hg hm (show bootBuiltins "zip" = some (.type "zip") by decide+kernel) (iw (Bj (ha pos U s σ H _ I h) λus s1 z=>?_) hs Gu));obtain⟨vs,H1,I1,r1,b,as,rfl,l,ht,hR⟩:=z;cases Zi r1;obtain⟨c1,c2,c3⟩:=ako (as.map Value.ref) (by simpa using l);have h3:as.length<=3:=by lia
 have tp:∀q∈as,∃xs,SqB b s1.heap q xs:=λq hq=>by obtain⟨xs,hx⟩:=ht q hq;obtain⟨i1,_,p1⟩:=I1.akn hx;exact⟨_,p1⟩
 refine avc h3 rfl c1 c2 c3 tp λh' Z hI kk=>wpAny_pyIter_zip Z.z ?_
 refine⟨s1.heap.objs.size+as.length+2,_,_,_,H1,rfl,I1.kept (t':=s1.toks) kk,avd h3 (λz=>by subst z;simp at l) λq hq=>by obtain⟨xs,e⟩:=tp q hq;exact e.lt,⟨⟨_,Z,by simp[Fo]⟩,hI⟩,λc hc=>?_,hR⟩;have G:=(FN.mem.mp hc).1;exact I1.anv G (I1.Ar.fresh G)
end L2
namespace Sm
open PySem L2
open MW (Ex Dg OEx Qv Cm ph Lv Tg Res cz MO G5 Cp Op2 Blt Bm Kx Src)
def akp{i:Nat}(h:(MW.Bs ds 0)[i]?=some d):∃z,ds[i]?=some z/\d=.tup [.int (i:Nat),z]:=by
 unfold MW.Bs at h;rw[jh,zb] at h;cases e:ds[i]? with
 |none=>rw[e] at h;simp at h|some z=>rw[e] at h;simp at h;exact⟨z,rfl,h.symm⟩
def aij{X:Cx}(r:my X.K ι H ds vs)(U:∀Z G,LeX ι H Z G->SqX bb X.K G q vs):ao5 nm X.K ι H (.con (MW.Bs ds 0)) (Ien bb X.K q):=fun Z G M1 le S1=>by
 refine⟨λi d hi hd=>?_,λ_=>⟨vs,U Z G le,?_⟩⟩
 .obtain⟨z,e1,rfl⟩:=akp (show(MW.Bs ds 0)[i]?=some d from hd)
  obtain⟨v,R,g2⟩:=(r.Ld le).get e1;refine⟨⟨vs,v,U Z G le,R⟩,λu H2 ⟨p,x,e2,e3,e4,e5⟩=>?_⟩;have ex:x=v:=by have:=e5 vs (U Z G le);rw[R] at this;cases this;rfl
  subst ex e2 e4;obtain⟨S2,Ak,r2⟩:=Ox (X:=X) S1 e3 (.cons (.int _) (.cons g2 .nil));exact⟨Ak,S2,r2⟩
 .show vs.length<=(MW.Bs ds 0).length
  rw[<- r.length];simp[MW.Bs]
def a9d(hg:Gl X "enumerate")(hm:X.mg "enumerate" = none)(ha:PE X a (tE nm W X.K a'))(Xv:noStar a=true):PI X (.Tuple ts k0 pt) (.Call (.Name "enumerate" pr) [a] [] pos) (tI nm W X.K (.enm a')):=by
 intro U s0 σ H R' I hh;obtain⟨ι,ρ,M,s,M',S,R,e,q⟩:=hh;rw[MW.Z6] at e;obtain⟨x,M1,e1,e⟩:=dz e;refine PI.weak (a89 (ts:=ts) (k0:=k0) (pt:=pt) (p:=pr) (pos:=pos) hg hm (Jf ha Pk (jz Xv _ _)) (jz Xv _ _)) (wi':=fun G H0 R0=>G=σ/\H0=H/\R0=R') (fun G H0 R0 ⟨z1,z2,z3⟩=>?_) U s0 σ H R' I ⟨rfl,rfl,rfl⟩;subst z1 z2 z3;refine Wo (es':=.cons a' .nil) (ds:=[x]) (M1:=M1) S R (by rw[MW.G4,e1];simp) fun Z H1 vs le S1 R1 r=>?_
 cases r with
 |cons r1 r2 =>
  cases r2;cases r1 with
  |@tup p ds us h1 rr =>
   cases e;exact⟨true,p,rfl,⟨us,J5.of h1⟩,q Z H1 _ le S1 (aij rr fun qq H2 Ak=>J5.of (Ak.tup _ _ h1))⟩
  |@vl p ds us h1 n1 rr =>
   cases e;exact⟨false,p,rfl,⟨us,Gw.of h1⟩,q Z H1 _ le S1 (aij rr fun qq H2 Ak=>Gw.of (Ak.lst _ _ n1.1 h1))⟩
  |_=>cases e
set_option tactic.hygienic true in
def a1r:De X (binaryOp .Add) (rOp nm X.K (MW.Fy .ajg)) :=
 De.of aot λv u H Q ι M x y d M' S rv ru e q=>by
  have e:MW.afp x y M=.ok d M':=e;unfold MW.afp at e;split at e<;>try cases e
  rename_i G J h1 h2
  by_cases Y:G.length+J.length<=100000
  case neg=>rw[bx Y] at e;cases e
  rw[cj Y] at e;obtain⟨p,vs,rfl,g1,C⟩:=uv S rv h1;obtain⟨L,Z,rfl,g2,U⟩:=uv S ru h2;refine⟨p,L,vs,Z,rfl,rfl,g1,g2,by rw[<- C.length,<- U.length];exact ie Y Rx,λp3 R=>?_⟩;have e:Res.ok (MW.D.ref M.length) (M++[.lst (G++J)])=.ok d M':=e;cases e;obtain⟨z1,z2,z3⟩:=Vm S R (C.append U);exact q _ _ _ z2 z1 z3
def ave{nm:Nm}{W:G5}{X:Cx}{o:Expr}{o':Ex}{pos Z:Pos}{k f:Nat}{fa C:Addr}{fd:FuncData}{ps:X9}{m:Str}{mi ci:Nat}{cl:MW.Cl}{pl:Sem Bool}(ho:PE X o (tE nm W X.K o'))(c0:Cls X.K C)(q1:Meth X.K C m fa)(F:Ff X.prog X.w X.K X.mg X.base CX0 k fa fd ps (spF nm W X.K 1 f))(hr:Ag k X.A)(hb:Binds X.K fd ps [])
 (qk:∀c' G,W.cls[c']?=some G->∀g,G.meths.lookup mi=some g->nm.cls c'=some C/\g=f) (q0:∀i,nm.fld i≠m)
 (ht:eval (.Call (.Attribute o m Z) [] [] pos) X.env=(do
  let ov <- eval o X.env
  standAt Z.atName
  let (f,first) <- holding [ov] (getMethod ov m pl)
  callWith pos f first (backTo pos (starEach [] X.env)) (backToKw pos (keywordEach [] X.env)))) :
 PE X (.Call (.Attribute o m Z) [] [] pos) (tE nm W X.K (.meth o' mi .nil)) :=
 PE.of (aof (E:=E0) ho c0 q1 F hr hb .nil ah3 ht) fun σ H Q ι ρ M d M' S R e q=>by
  rw[MW.Q8] at e;obtain⟨x,U,e1,e⟩:=dz e;rw[MW.Ly] at e;refine one S R e1 fun qq H1 v le S1 R1 r=>?_
  obtain⟨j,hx⟩:∃j,x=.ref j:=by cases x<;>first|exact⟨_,rfl⟩|cases e
  subst hx;obtain⟨p,rfl,hp⟩:∃p,v=.ref p/\qq.l[j]?=some p:=by cases r with|ref z=>exact⟨_,rfl,z⟩
  have e:(match U[j]? with
   | some (.ins c _)=>(match(W.cls[c]?).bind λC=>C.meths.lookup mi with
    | some f=>W.call f [.ref j] U|none=>.bad)
   | _=>.bad)=Res.ok d M':=e
  cases hM:U[j]? with
  |none=>rw[hM] at e;cases e
  |some ob =>
   rw[hM] at e;cases ob with
   |ins ci fs =>
    have e:(match(W.cls[ci]?).bind λC=>C.meths.lookup mi with|some f=>W.call f [.ref j] U|none=>.bad)=Res.ok d M':=e;cases hL:(W.cls[ci]?).bind λC=>C.meths.lookup mi with
    |none=>rw[hL] at e;cases e
    |some g =>
     rw[hL] at e;have e:W.call g [.ref j] U=.ok d M':=e;obtain⟨G,h1,h2⟩:=dm.mp hL;obtain⟨h3,rfl⟩:=qk ci G h1 g h2;obtain⟨C',dx,l,g1,g2,g3⟩:=S1.obj j _ p hM hp;rw[h3] at g1;cases g1;exact⟨p,dx,l,rfl,g2,Wt q0 g3,qq,U,[.ref j],d,M',S1,.cons r .nil,rfl,e,fun qv H' v Xp S' r'=>q qv H' v (le.trans Xp) S' r'⟩
   |_=>cases e
def avf:PS X st (tS nm W X.K (.raise ci es')):=λZ s σ H D I U=>by obtain⟨ι,ρ,M,fl,G,M',S,R,e,q⟩:=U;rw[MW.aml] at e;obtain⟨x,M1,e1,e⟩:=dz e;cases e
def axw(h:PE X a t):PE X (.BoolOp op [a] pos) t:=λZ s G H Q I q=>PyProof.Rows.BoolOp_one (h Z s G H Q I q)
def akq(b:Bool)(ι:Io)(H:Hp)(a:Addr)(us:List V):Prop:=cond b (H a=some (.tup us)) (H a=some (.lst us)/\ι.off a)
def akq.sq(h:akq b ι H a us)(le:LeX ι H Z G)(K:Fg):SqX b K G a us:=by
 cases b with
 |true=>exact J5.of (le.tup _ _ h)|false=>exact Gw.of (le.lst _ _ h.2.1 h.1)
theorem aeb{K:Fg}{ι:Io}{H:Hp}:∀{ds:List Dv}{vs:List V}{Yb:List (List Dv)},MW.G6 b ds=some Yb->my K ι H ds vs->∃as:List Addr,vs=as.map V.ref/\as.length=Yb.length/\∀(j:Nat) l,Yb[j]?=some l->∃a us,as[j]?=some a/\akq b ι H a us/\my K ι H l us
 |[],_,_,e,r=>by cases e;cases r;exact⟨[],rfl,rfl,λj l h=>by simp at h⟩
 |d::ds,_,_,e,r=>by
  cases r with
  |@cons _ v _ vs r1 r2 =>
   have fin:∀{l Yb p us},MW.G6 b ds=some Yb->akq b ι H p us->my K ι H l us->∃as:List Addr,V.ref p::vs=as.map V.ref/\as.length=(l::Yb).length/\∀(j:Nat) k,(l::Yb)[j]?=some k->∃a us,as[j]?=some a/\akq b ι H a us/\my K ι H k us:=fun{l Yb p us} Z U G=>by
    obtain⟨as,rfl,R,h2⟩:=aeb Z r2;refine⟨p::as,rfl,by simp[R],λj l h=>?_⟩;cases j with
    |zero=>cases h;exact⟨p,us,rfl,U,G⟩|succ j=>exact h2 j l h
   cases d with
   |tup l =>
    cases b with
    |false=>cases e
    |true =>
     obtain⟨Yb,Z,rfl⟩:=cg.mp (show(MW.G6 true ds).map (l::·)=_ from e);cases r1 with
     |tup U G=>exact fin Z U G
   |vl l =>
    cases b with
    |true=>cases e
    |false =>
     obtain⟨Yb,Z,rfl⟩:=cg.mp (show(MW.G6 false ds).map (l::·)=_ from e);cases r1 with
     |vl U n G=>exact fin Z ⟨U,n⟩ G
   |_=>cases e
def avh(e:MW.Qd ds=some Yb):∃b,MW.G6 b ds=some Yb:=by
 unfold MW.Qd at e;cases e1:MW.G6 true ds with
 |none=>rw[e1] at e;exact⟨false,e⟩|some l=>rw[e1] at e;cases e;exact⟨true,e1⟩
theorem aec{K:Fg}{ι:Io}{H:Hp}:∀{Yb:List (List Dv)}{as:Xt},as.length=Yb.length->(∀(j:Nat) l,Yb[j]?=some l->i<l.length/\∃a us,as[j]?=some a/\SqX b K H a us/\my K ι H l us)->∃vs:List V,vs.length=as.length/\my K ι H (Yb.map λl=>l.getD i .non) vs/\∀(j:Nat) a,as[j]?=some a->∃xs x,SqX b K H a xs/\xs[i]?=some x/\vs[j]?=some x
 |[],as,l,_=>by cases as with
  |nil=>exact⟨[],rfl,.nil,λj a h=>by simp at h⟩
  |cons _ _=>cases l
 |l::Yb,as,hl,h=>by cases as with
  |nil=>cases hl
  |cons a as =>
   obtain⟨vs,g1,g2,g3⟩:=aec (i:=i) (Yb:=Yb) (as:=as) (by simpa using hl) (λj l e=>h (j+1) l e);obtain⟨lt,_,us,U,q,r⟩:=h 0 l rfl;cases U;obtain⟨v,R,G⟩:=r.get (dj lt);refine⟨v::vs,by simp[g1],.cons (by show Rep K ι H (l.getD i .non) v;rw[du,dj lt];exact G) g2,λj b Z=>?_⟩;cases j with
   |zero=>cases Z;exact⟨us,v,q,R,rfl⟩|succ j=>exact g3 j b Z
def avi{X:Cx}{n:Nat}{l:List Dv}{r:List (List Dv)}(hn:∀(j:Nat) k,(l::r)[j]?=some k->k.length=n)(hl:as.length=(l::r).length)(h:∀(j:Nat) k,(l::r)[j]?=some k->∃a us,as[j]?=some a/\akq b ι H a us/\my X.K ι H k us) :
 ao5 nm X.K ι H (.con (MW.Jm (l::r) n)) (IzN b X.K as):=fun R H1 M1 le S1=>by
 refine⟨λi d G Z=>?_,λ_=>?_⟩
 .have Z:(MW.Jm (l::r) n)[i]?=some d:=Z
  have G:i<n:=by simpa[MW.Jm] using(ak.mp Z).1
  have ed:d=.tup ((l::r).map λl=>l.getD i .non):=by rw[MW.Jm,jh,ux G] at Z;cases Z;rfl
  subst ed;obtain⟨vs,g1,g2,g3⟩:=aec (i:=i) (b:=b) (K:=X.K) (ι:=R) (H:=H1) hl λj k e=>by obtain⟨a,us,a1,a2,U⟩:=h j k e;exact⟨by rw[hn j k e];exact G,a,us,a1,a2.sq le _,U.Ld le⟩
  refine⟨⟨vs,g1,g3⟩,λu' H2 z=>?_⟩;obtain⟨p,qq,e5,e6,e7,e8,e9⟩:=z;have:qq=vs:=by
   apply ye;intro j;rcases yw j as.length with q|q
   .obtain⟨xs,x,x1,x2,x3⟩:=g3 j as[j] (by simp[q])
    rw[e9 j as[j] xs (by simp[q]) x1,x2,x3]
   .rw[kj (by rw[e8];exact q),kj (by rw[g1];exact q)]
  subst this e5 e7;obtain⟨S2,Ak,r2⟩:=Ox (X:=X) S1 e6 g2;exact⟨Ak,S2,r2⟩
 .obtain⟨a,us,a1,a2,U⟩:=h 0 l rfl
  refine⟨a,us,a1,a2.sq le _,?_⟩;show us.length<=(MW.Jm (l::r) n).length
  have:=U.length;have:=hn 0 l rfl;simp[MW.Jm]
  lia
def a9e(hg:Gl X "zip")(hm:X.mg "zip" = none)(ha:PA X (a::es) (Vd nm W X.K es'))(hs:starEach (a::es) X.env=(false,eval a X.env)::starEach es X.env)(Gu:(backTo pos (starEach es X.env)).any (·.1)=false)(h2:Dg.len es'=2) :
 PI X (.Tuple ts k0 pt) (.Call (.Name "zip" pr) (a::es) [] pos) (tI nm W X.K (.zip es')):=by
 intro U s0 σ H R' I hh;obtain⟨ι,ρ,M,s,M',S,R,e,q⟩:=hh;rw[MW.asr] at e;obtain⟨ds,N1,e1,e⟩:=dz e;have hd:=Fz e1;cases Z:MW.Qd ds with
 |none=>rw[Z] at e;cases e
 |some Yb=>cases Yb with
  |nil=>rw[Z] at e;cases e
  |cons l r =>
   rw[Z] at e
   by_cases hc:(r.all λx=>x.length==l.length)=true
   .have e:(if(r.all λx=>x.length==l.length)=true then Res.ok (Src.con (MW.Jm (l::r) l.length)) N1 else .bad)=.ok s M':=e
    rw[cj hc] at e;cases e;refine PI.weak (a9c (ts:=ts) (k0:=k0) (pt:=pt) (p:=pr) (pos:=pos) hg hm ha hs Gu) (wi':=fun G H0 R0=>G=σ/\H0=H/\R0=R') (fun G H0 R0 z=>?_) U s0 σ H R' I ⟨rfl,rfl,rfl⟩;obtain⟨rfl,rfl,rfl⟩:=z;refine Wo S R e1 fun qq H1 vs le S1 R1 rr=>?_
    obtain⟨b,Z⟩:=avh Z;obtain⟨as,rfl,g1,g2⟩:=aeb Z rr;have gl:=rr.length;rw[dw] at gl;refine⟨b,as,rfl,by rw[<- gl,hd];exact h2,λa ha=>?_,q qq H1 _ le S1 (avi (λj k hk=>?_) g1 g2)⟩
    .obtain⟨j,hj⟩:=List.getElem?_of_mem ha
     have lt:=(ak.mp hj).1;rw[g1] at lt;obtain⟨a',us,x1,x2,_⟩:=g2 j _ (dj lt);rw[hj] at x1;cases x1;exact⟨us,x2.sq (Le.refl _ _).toX _⟩
    .cases j with
     |zero=>cases hk;rfl|succ j=>simpa using jb.mp hc k (az hk)
   .have e:(if(r.all λx=>x.length==l.length)=true then Res.ok (Src.con (MW.Jm (l::r) l.length)) N1 else .bad)=.ok s M':=e
    rw[bx hc] at e;cases e
theorem aed:∀{xs:List Dv}{b:Bool},MW.allB xs=some b->∃bs:List Bool,xs=bs.map MW.D.bl/\b=bs.all id
 |[],b,e=>by cases e;exact⟨[],rfl,rfl⟩
 |.bl k::r,b,e=>by
  obtain⟨c,Z,rfl⟩:=cg.mp (show(MW.allB r).map (k&&·)=some b from e);obtain⟨bs,rfl,rfl⟩:=aed Z;exact⟨k::bs,rfl,by simp⟩
theorem Zj{ι:Io}{H:Hp}{K:Fg}:∀{bs:List Bool}{vs:List V}{is:Zl},my K ι H (bs.map MW.D.bl) vs->Vals vs is->is=bs.map Value.bool
 |[],_,_,r,h=>by cases r;cases h;rfl
 |k::bs,_,_,r,h=>by
  cases r with
  |cons U G =>
   cases h with
   |cons R Z =>
    cases U;cases R;rw[Zj G Z];rfl
def a9f(hc:X.calm=true):Bw X (.builtin "all") (rB nm X.K .all):=λqk s σ H vs us Q I X6 hh=>by
 obtain⟨ι,M,ds,d,M',S,r,e,q⟩:=hh;obtain⟨x,rfl,e⟩:∃x,ds=[x]/\Res.wj (((MW.fu M x).bind MW.allB).map MW.D.bl) M=.ok d M':=by
  cases ds with
  |nil=>cases e
  |cons x l=>cases l with
   |nil=>exact⟨x,rfl,e⟩|cons _ _=>cases e
 obtain⟨e1,rfl⟩:=yj e;obtain⟨b,e2,rfl⟩:=cg.mp e1;obtain⟨xs,e3,e4⟩:=dm.mp e2;obtain⟨bs,rfl,rfl⟩:=aed e4;obtain⟨v,rfl,rv⟩:=Fw r rfl;obtain⟨u,rfl,ru⟩:=Oi X6;obtain⟨p,ws,rfl,hp,rl⟩:=uv S rv e3;cases ru;obtain⟨is,qq,pl,_⟩:=I.list (Gw.of hp);have Z:=Zj rl qq;have Jh:p<s.heap.objs.size:=by obtain⟨_,e,_⟩:=pl.isList;exact au e
 refine call_all_walk (yf pl.isList ?_);refine⟨_,_,_,_,_,_,λi=>bs.getD i true,rfl,Walks.list (A:=X.A.in1) (I.ok.hd hc) s.heap.objs.size p (dq Jh) is.toArray,⟨⟨_,bc _ rfl,rfl,rfl⟩,pl.isList.push _⟩,λi v s Q E hP hQ=>?_,λh' tk U=>?_⟩
 .have hv:is[i]?=some v:=by simpa using hP
  rw[Z,jh] at hv;obtain⟨k,U,rfl⟩:=cg.mp hv;refine km ?_;have hQ:Q (bs.getD i true) s:=hQ;rw[du,U] at hQ;exact hQ
 .have ha:(List.range is.toArray.size).all (λi=>bs.getD i true)=bs.all id:=by
   rw[Z];simp only[gw,dw];rw[yc,jb,jb];constructor
   .intro h k U
    obtain⟨i,R,rfl⟩:=qd U;have:=h i (ju.mpr R);simpa[du,R] using this
   .intro h i R
    have G:=ju.mp R;have:=h bs[i] (p7 G);simpa[du,G] using this
  rw[ha];exact⟨.bl _,H,I.kept (t':=tk) (old_kept U),rfl,q ι H _ (Le.refl _ _) S (.bl _)⟩
def avj(hT:PySem.W.kitAny X.K (.type "tuple") [.type "tuple",.type "list"]=some true)(hL:PySem.W.kitAny X.K (.type "list") [.type "tuple",.type "list"]=some true)(q1:PySem.W.kitAny X.K (.type "int") [.type "tuple",.type "list"]=some false)(hg:Gl X n)(hm:X.mg n=none)(hv:bootBuiltins n=some (.builtin "isinstance"))(hn:n≠"__name__")(Qw:(n==("__debug__" : Str))=false)(q0:Gl X "tuple")(qk:X.mg "tuple" = none)(q2:Gl X "list")(qv:X.mg "list" = none)(ha:PE X a (tE nm W X.K a'))(he:starEach [a,.Tuple [.Name "tuple" p1,.Name "list" p2] k pt] X.env=(false,eval a X.env)::starEach [.Tuple [.Name "tuple" p1,.Name "list" p2] k pt] X.env)(Gu:(backTo pos (starEach [.Tuple [.Name "tuple" p1,.Name "list" p2] k pt] X.env)).any (·.1)=false):PE X (.Call (.Name n p) [a,.Tuple [.Name "tuple" p1,.Name "list" p2] k pt] [] pos) (tE nm W X.K (.blt .isSeq (.cons a' .nil))):=by
 intro G s σ H Q I hh;obtain⟨ι,ρ,M,d,M',S,R,e,q⟩:=hh;rw[MW.Vi] at e;obtain⟨ds,M1,e1,e⟩:=dz e;rw[MW.G4] at e1;obtain⟨x,M2,e2,e1⟩:=dz e1;rw[MW.Ly] at e1;cases e1;refine gn (Bq I hg hm hv ?_ hn Qw);refine uo (Q:=EP X G σ Q) ?_ he Gu;rw[he];show wpAny _ _ (spliced ((false,eval a X.env)::backTo pos (starEach [.Tuple [.Name "tuple" p1,.Name "list" p2] k pt] X.env))) _ _ s;refine jy (Bj (ha G s σ H (λv U=>∃Z,Le ι H Z U/\lz nm X.K Z U M1/\Rep X.K Z U x v) I ⟨ι,ρ,M,x,M1,S,R,e2,fun Z U v le S1 r=>⟨Z,le,S1,r⟩⟩) λu s1 z_=>?_);obtain⟨v,U,I1,r1,Z,le,S1,r⟩:=z_;show wpAny _ _ (spliced ((false,eval (.Tuple [.Name "tuple" p1,.Name "list" p2] k pt) X.env)::backTo pos (starEach [] X.env))) _ _ s1;refine jy (wpAny_Tuple ?_);show wpAny _ _ (spliced ((false,eval (.Name "tuple" p1) X.env)::backTo pt (starEach [.Name "list" p2] X.env))) _ _ s1;refine jy (Bq I1 q0 qk (show bootBuiltins "tuple" = some (.type "tuple") by decide+kernel) ?_ (by decide+kernel) (by decide+kernel));show wpAny _ _ (spliced ((false,eval (.Name "list" p2) X.env)::backTo pt (starEach [] X.env))) _ _ s1;refine jy (Bq I1 q2 qv (show bootBuiltins "list" = some (.type "list") by decide+kernel) ?_ (by decide+kernel) (by decide+kernel));refine ql ⟨by show 2<=sizeLine;decide,?_⟩;refine ql ?_;have I2:Inv X G σ U { s1 with heap:=s1.heap.push { cls:=.type "tuple",data:=.seq #[.type "tuple",.type "list"] } }:=I1.kept (t':=s1.toks) λb u e=>ao _ e
 have qq:(s1.heap.push { cls:=.type "tuple",data:=.seq #[.type "tuple",.type "list"] }).get? s1.heap.objs.size=some { cls:=.type "tuple",data:=.seq #[.type "tuple",.type "list"] }:=bc _ rfl;have e:Res.wj ((MW.isX (some true) (some false) (some true) x).map MW.D.bl) M1=.ok d M':=e;obtain⟨e4,e5⟩:=yj e;subst e5;obtain⟨b,e3,rfl⟩:=cg.mp e4;have fin:∀tk,EP X G σ Q (.bool b) { s1 with heap:=s1.heap.push { cls:=.type "tuple",data:=.seq #[.type "tuple",.type "list"] },toks:=tk }:=λtk=>⟨.bl b,U,I2.tok _,rfl,q Z U _ le S1 (.bl b)⟩
 cases r with
 |int i=>cases e3;obtain⟨t,q⟩:=(show ∃t,u=Value.int i t from r1);cases q;exact PySem.W.kia_tup PySem.W.kitx_int I2.Su True.intro qq q1 (λz=>nomatch z) fin
 |@tup p ds us h1 rr =>
  cases e3;cases(show u=Value.ref p from r1);obtain⟨_,_,_,h1⟩:=(show Ay X.prog X.w U _ p (.tup us) from I2.Ar p _ h1);obtain⟨o,g1,g2,_⟩:=h1;exact PySem.W.kia_tup PySem.W.kitx_tuple I2.Su ⟨o,g1,g2⟩ qq hT (λz=>nomatch z) fin
 |@vl p ds us h1 _ rr =>
  cases e3;cases(show u=Value.ref p from r1);obtain⟨_,_,_,_,h1⟩:=(show Ay X.prog X.w U _ p (.lst us) from I2.Ar p _ h1);exact PySem.W.kia_tup PySem.W.kitx_list I2.Su ⟨_,h1,rfl⟩ qq hL (λz=>nomatch z) fin
 |_=>cases e3
set_option tactic.hygienic true in
def avk(e:MW.Jl .get x ds M=.ok d M'):∃n k d0,x=.ref n/\ds=[k,d0]/\M'=M/\∃Z q,M[n]?=some (.dK Z)/\MW.Te k=some q/\d=(MW.xu Z q).getD d0:=by
 cases x with
 |ref n =>
  match ds,e with
  |[k,d0],e =>
   have e:(match M[n]? with
    |some (.dK Z)=>Res.wj ((MW.Te k).map λq=>(MW.xu Z q).getD d0) M
    | _=>.bad)=.ok d M':=e
   refine⟨n,k,d0,rfl,rfl,?_⟩;split at e
   .rename_i Z Y
    obtain⟨G,J⟩:=yj e;obtain⟨q,U,C⟩:=cg.mp G;exact⟨J,Z,q,Y,U,C.symm⟩
   .cases e
  |[],e=>cases e|[_],e=>cases e|_::_::_::_,e=>cases e
 |_=>cases e
set_option tactic.hygienic true in
def ty_dict{X:Cx}(S:lz nm X.K ι H M)(r:Rep X.K ι H x v)(h:MW.Qa .get x M=true):tyV X.K "dict" v H:=by
 cases r with
 |@ref n p hp =>
  have h:(match M[n]? with|some (.dK _)=>true|_=>false)=true:=h;split at h
  .rename_i Z
   obtain⟨l,Y,_⟩:=S.obj n _ p Z hp;exact .inr (.inr (.inl ⟨rfl,.inl ⟨_,Y⟩⟩))
  .cases h
 |_=>cases h
def a9g(hu:X.A.units+1<cLine):MtR X "dict.get" (rM nm X.K .get):=λqk s σ H v vs u us Q I ru X6 hh=>by
 obtain⟨ι,M,x,ds,d,M',S,r,rs,e,_,q⟩:=hh;obtain⟨n,k,d0,rfl,rfl,rfl,iu,k0,hM,hk,rfl⟩:=avk e;cases rs with
 |cons rk U =>
  cases U with
  |cons rd U =>
   cases U;cases X6 with
   |cons qq Z =>
    cases Z with
    |cons R Z =>
     cases Z;cases r with
     |ref ha =>
      cases ru;obtain⟨l,h1,h2⟩:=S.obj n _ _ hM ha;have hy:=T7 rk hk;subst hy;refine a0o hu I (Oc.k h1) qq R λw' s' I' G=>⟨_,H,I',G,q ι H _ (Le.refl _ _) S ?_⟩
      cases hl:MW.xu iu k0 with
      |none=>rw[(h2.look (k:=k0)).2 hl];exact rd|some d=>obtain⟨z,h3,h4⟩:=(h2.look (k:=k0)).1 d hl;rw[h3];exact h4
set_option tactic.hygienic true in
def a1s(hr:Ag 8 X.A)(hg:Gl X n)(hm:X.mg n=none)(hv:bootBuiltins n=some (.type "list"))(hn:n≠"__name__")(Qw:(n==("__debug__" : Str))=false)(q4:Gl X J)(q0:X.mg J=none)(qk:bootBuiltins J=some (.type "range"))(Py:J≠"__name__")(X7:(J==("__debug__" : Str))=false)(ha:PA X [a] (Vd nm W X.K (.cons a' .nil)))(he:starEach [.Call (.Name J p') [a] [] q2] X.env=(false,eval (.Call (.Name J p') [a] [] q2) X.env)::starEach [] X.env)(Gu:(backTo q1 (starEach [] X.env)).any (·.1)=false)(q3:starEach [a] X.env=(false,eval a X.env)::starEach [] X.env)(qq:(backTo q2 (starEach [] X.env)).any (·.1)=false) :
 PE X (.Call (.Name n p) [.Call (.Name J p') [a] [] q2] [] q1) (tE nm W X.K (.afn a')):=by
 intro Y s σ H Q I hh;obtain⟨ι,ρ,M,d,M',S,R,e,q⟩:=hh;rw[MW.amk] at e;obtain⟨x,M1,e1,e⟩:=dz e;split at e<;>try cases e
 rename_i i;split at e<;>cases e;rename_i hi;refine gn (Bq I hg hm hv ?_ hn Qw);refine iw (Q:=EP X Y σ Q) ?_ he Gu;rw[he];show wpAny _ _ (spliced ((false,eval (.Call (.Name J p') [a] [] q2) X.env)::backTo q1 (starEach [] X.env))) _ _ s;refine jy ?_;refine gn (Bq I q4 q0 qk ?_ Py X7);refine iw (Bj (ha q2 Y s σ H (λvs U=>∃G,vs=[.int i]/\Le ι H G U/\lz nm X.K G U M1) I ⟨ι,ρ,M,[.int i],M1,S,R,by simp[e1,Res.bind],fun G U vs le S1 r=>?_⟩) λus Z ⟨vs,U,I1,r1,G,ev,T6,S1⟩=>?_) q3 qq
 .obtain⟨v,ev,rv⟩:=Fw r rfl
  cases rv;exact⟨G,ev,le,S1⟩
 subst ev;obtain⟨u,rfl,ru⟩:=Oi r1;obtain⟨t,rfl⟩:=ru;refine call_range_1 ?_;show wpAny _ _ (spliced []) _ _ _;refine ql ?_;have keep:∀b o,Z.heap.get? b=some o->(Z.heap.push { cls:=.type "range",data:=.fields #[.int 0 Z.toks,.int i t,.int 1 (Z.toks+1)] }).get? b=some o:=λb o e=>ao _ e
 refine call_list_range (n:=i.toNat) hr.hd (bc _ rfl) (small_one (by lia) (by lia) (by lia) (by omega)) (by rw[rangeSize_one];split<;>lia) (by lia) λh' tk L c' hk y Em=>?_
 have qv:(Z.heap.push { cls:=.type "range",data:=.fields #[.int 0 Z.toks,.int i t,.int 1 (Z.toks+1)] }).objs.size=Z.heap.objs.size+1:=iz ..;have y:h'.get? (Z.heap.push { cls:=.type "range",data:=.fields #[.int 0 Z.toks,.int i t,.int 1 (Z.toks+1)] }).objs.size=some { cls:=.type "list",dict:=none,data:=.seq L c',slots:=#[] }:=y;show EP X Y σ Q (.ref (Z.heap.push { cls:=.type "range",data:=.fields #[.int 0 Z.toks,.int i t,.int 1 (Z.toks+1)] }).objs.size) _;rw[qv] at y ⊢;have hz:((List.range i.toNat).map λ(k:Nat)=>V.int (k:Int)).length<=sizeLine:=by simp[rm];omega
 have C:Z.heap.objs.size<=Z.heap.objs.size+1:=w5 _
 have hf:U (Z.heap.objs.size+1)=none:=I1.Ar.fresh C;have I3:Inv X Y σ (upd U (Z.heap.objs.size+1) (.lst ((List.range i.toNat).map λ(k:Nat)=>V.int (k:Int)))) { Z with heap:=h',toks:=tk } :=
  I1.laid (a:=Z.heap.objs.size+1) (t':=tk) (λb o e=>hk b o (keep b o e)) C (show Ay X.prog X.w _ _ _ (.lst _) from⟨hz,L.toList,c',W0 Em,by simpa using y⟩)
 obtain⟨S2,Ak,r2⟩:=Vm (X:=X) S1 hf (W2 i.toNat);exact⟨.ref (Z.heap.objs.size+1),_,I3,rfl,q _ _ _ (T6.trans Ak) S2 r2⟩
end Sm
namespace Sm
open PySem L2
open MW (Ex Dg OEx Qv Cm ph Lv Tg Res cz MO G5 Cp Op2 Blt Bm Kx Src)
theorem W3{ι:Io}{H:Hp}{K:Fg}:∀{ds:List Dv}{vs:List V}{is:Zl}{ns:U1},my K ι H ds vs->Vals vs is->MW.Th ds=some ns->PyProof.Rows.IntsAre is ns
 |_,_,_,_,.nil,.nil,h=>by cases h;exact .nil
 |_,_,_,_,.cons r t,.cons rv tv,h=>by
  cases r<;>simp only[MW.Th] at h<;>try cases h
  obtain⟨Z,U,G⟩:=cg.mp h;subst G;obtain⟨R,rfl⟩:=rv;exact .cons _ _ (W3 t tv U)
theorem aee:∀{is:Zl}{ns:U1},PyProof.Rows.IntsAre is ns->Vals (ns.map V.int) is
 |_,_,.nil=>.nil|_,_,.cons n t h=>.cons ⟨t,rfl⟩ (aee h)
theorem Zk{ι:Io}{H:Hp}{K:Fg}:∀ns:List Int,my K ι H (ns.map MW.D.int) (ns.map V.int)
 |[]=>.nil|n::ns=>.cons (.int n) (Zk ns)
set_option tactic.hygienic true in
def aef(e:MW.rz .Ca ds M=.ok d M'):∃x xs ns,ds=[x]/\MW.wz M x=some xs/\MW.Th xs=some ns/\(MW.Aa ns).length<31/\d=.vl ((MW.sortI (MW.Aa ns)).map MW.D.int)/\M'=M:=by
 match ds,e with
 |[x],e =>
  have e:Res.wj (((MW.wz M x).bind MW.Th).bind λis=>if(MW.Aa is).length<31 then some (MW.D.vl ((MW.sortI (MW.Aa is)).map MW.D.int)) else none) M=.ok d M':=e;obtain⟨G,L⟩:=yj e;obtain⟨ns,J,Z⟩:=dm.mp G;obtain⟨xs,Y,U⟩:=dm.mp J;split at Z
  .rename_i C
   exact⟨x,xs,ns,rfl,Y,U,C,(jt Z).symm,L⟩
  .cases Z
 |[],e=>cases e|_::_::_,e=>cases e
def agm(hr:Ag 8 X.A)(I:Inv X pins σ H s)(S:lz nm X.K ι H M)(rx:Rep X.K ι H x v)(ru:RelV v u)(e2:MW.wz M x=some xs)(e3:MW.Th xs=some ns)(hl:(MW.Aa ns).length<31)(h:∀h' tk n',(∀b o,s.heap.get? b=some o->h'.get? b=some o)->Qu.uw X.w h' s.heap.objs.size (λk=>k∈ns) n'->n'<=(MW.Aa ns).length->Q (.ref s.heap.objs.size) { s with heap:=h',toks:=tk }) :
 wpAny (model X.prog X.w) X.A (call (.type "set") [u]) Q X.xe s:=by
 obtain⟨p,ws,rfl,G,rl⟩:=Fi S rx e2;cases ru;rcases G with G|G
 .obtain⟨is,Z,R,_⟩:=I.list (Gw.of G)
  exact Qu.aje hr.hd R.isList (by simpa using W3 rl Z e3) (λk U=>(MW.Qe k ns).mpr U) hl h
 .obtain⟨is,Z,R,_⟩:=I.tuple (J5.of G)
  exact Qu.ajf hr.hd R (by simpa using W3 rl Z e3) (λk U=>(MW.Qe k ns).mpr U) hl h
def Zm(hr:Ag 8 X.A)(I1:Inv X pins σ R s1)(S1:lz nm X.K qv R M')(hS:Qu.uw X.w h' a (λk=>k∈ns) n')(ha:s1.heap.objs.size<=a)(keep:∀b o,s1.heap.get? b=some o->h'.get? b=some o)(hn:n'<31)(q:∀Z H' v,Le qv R Z H'->lz nm X.K Z H' M'->Rep X.K Z H' (.vl ((MW.sortI (MW.Aa ns)).map MW.D.int)) v->Q v H') :
 wpAny (model X.prog X.w) X.A (call (.builtin "sorted") [.ref a]) (EP X pins σ Q) X.xe { s1 with heap:=h',toks:=tk }:=by
 refine Qu.ab7 (s:={ s1 with heap:=h',toks:=tk }) hr.hd hS hn λh2 U p2 out ms Wy q1 qq so nd mem z_=>?_
 obtain⟨c,g⟩:=z_;have q0:(MW.Aa ns).length<=n':=by
  obtain⟨xs,o,es,ep,t,X,hm,rfl,_⟩:=hS;have:=Qu.afe (MW.aaa ns) λk hk=>(hm k).mp ((MW.Qe k ns).mp hk)
  rw[dw] at this;exact this
 obtain rfl:=MW.ahe so nd mem;obtain⟨o9,_,_,_,g9,_⟩:=hS.get;have G:s1.heap.objs.size<=p2:=ie (ie ha (yu (au g9))) q1
 have hf:R p2=none:=I1.Ar.fresh G;have qk:((MW.sortI (MW.Aa ns)).map V.int).length<=sizeLine:=by rw[dw,(MW.Jo _).length_eq,rm];exact e_ (c_ q0 (b_ hn (by decide)))
 have I3:Inv X pins σ (upd R p2 (.lst ((MW.sortI (MW.Aa ns)).map V.int))) { s1 with heap:=h2,toks:=U } :=
  I1.laid (a:=p2) (t':=U) (λb o e=>Wy b o (keep b o e)) G (show Ay X.prog X.w _ _ _ (.lst _) from⟨qk,out.toList,c,aee qq,by simpa using g⟩)
 obtain⟨S2,Ak,r2⟩:=aa7 (X:=X) S1 hf (Zk _);exact⟨.ref p2,_,I3,rfl,q _ _ _ Ak S2 r2⟩
def akr(hr:Ag 8 X.A)(hg:Gl X n)(hm:X.mg n=none)(hv:bootBuiltins n=some (.builtin "sorted"))(hn:n≠"__name__")(Qw:(n==("__debug__" : Str))=false)(q4:Gl X G)(q0:X.mg G=none)(qk:bootBuiltins G=some (.type "set"))(Py:G≠"__name__")(X7:(G==("__debug__" : Str))=false)(ha:PA X [a] (Vd nm W X.K (.cons a' .nil)))(he:starEach [.Call (.Name G p') [a] [] q2] X.env=(false,eval (.Call (.Name G p') [a] [] q2) X.env)::starEach [] X.env)(Gu:(backTo q1 (starEach [] X.env)).any (·.1)=false)(q3:starEach [a] X.env=(false,eval a X.env)::starEach [] X.env)(qq:(backTo q2 (starEach [] X.env)).any (·.1)=false) :
 PE X (.Call (.Name n p) [.Call (.Name G p') [a] [] q2] [] q1) (tE nm W X.K (.blt .Ca (.cons a' .nil))):=by
 intro U s σ H Q I hh;obtain⟨ι,ρ,M,d,M',S,R,e,q⟩:=hh;rw[MW.Vi] at e;obtain⟨ds,M1,e1,e⟩:=dz e;obtain⟨x,xs,ns,rfl,e2,e3,hl,rfl,rfl⟩:=aef e;refine gn (Bq I hg hm hv ?_ hn Qw);refine uo (Q:=EP X U σ Q) ?_ he Gu;rw[he];show wpAny _ _ (spliced ((false,eval (.Call (.Name G p') [a] [] q2) X.env)::backTo q1 (starEach [] X.env))) _ _ s;refine jy ?_;refine gn (Bq I q4 q0 qk ?_ Py X7);refine iw (Bj (ha q2 U s σ H (λvs H1=>∃Z v,vs=[v]/\Rep X.K Z H1 x v/\Le ι H Z H1/\lz nm X.K Z H1 M') I ⟨ι,ρ,M,[x],M',S,R,e1,fun Z H1 vs le S1 r=>?_⟩) λus s1 ⟨vs,H1,I1,r1,Z,v,ev,rx,T6,S1⟩=>?_) q3 qq
 .obtain⟨v,ev,rv⟩:=Fw r rfl
  exact⟨Z,v,ev,rv,le,S1⟩
 subst ev;obtain⟨u,rfl,ru⟩:=Oi r1;refine agm hr I1 S1 rx ru e2 e3 hl λh' tk n' keep hS Jj=>?_
 show wpAny _ _ (spliced []) _ _ _;refine ql ?_;exact Zm hr I1 S1 hS (bf _) keep (c_ Jj hl) fun qv H' v le=>q qv H' v (T6.trans le)
noncomputable def opB(v:Bool):Operator:=cond v .BitAnd .BitOr
def a1t{v:Bool}{ns U:U1}(hS:Qu.uw w s.heap a (λk=>k∈ns) n)(R:Qu.uw w s.heap b (λk=>k∈U) m)(hn:n+m<31)(ne:b≠a)(h:∀h' Z,(∀c o,s.heap.get? c=some o->h'.get? c=some o)->Qu.uw w h' s.heap.objs.size (λk=>k∈if v then ns.filter (λi=>decide (i∈U)) else ns++U) Z->Z<31->Q (.ref s.heap.objs.size) { s with heap:=h' }) :
 wpAny (model prog w) A (binaryOp (opB v) (.ref a) (.ref b)) Q E s:=by
 cases v with
 |true=>exact Qu.asf hS R hn ne λh' Z k G=>h h' Z k (G.congr λk=>by simp)
 |false=>exact Qu.ayp hS R hn ne λh' Z k G=>h h' Z k (G.congr λk=>by simp)
def avl{W:G5}{ρ:MW.Env}(e:(Ex.J9 v a b).den W ρ M=.ok d M'):∃x M1 xs ns y ys Z,a.den W ρ M=.ok x M1/\MW.wz M1 x=some xs/\MW.Th xs=some ns/\b.den W ρ M1=.ok y M'/\MW.wz M' y=some ys/\MW.Th ys=some Z/\ns.length+Z.length<31/\d=.vl ((MW.sortI (MW.Aa (if v then ns.filter (λi=>decide (i∈Z)) else ns++Z))).map MW.D.int):=by
 rw[Ex.den] at e;obtain⟨x,M1,e1,e⟩:=dz e;cases hk1:(MW.wz M1 x).bind MW.Th with
 |none=>rw[hk1] at e;cases e
 |some ns =>
  rw[hk1] at e;have e:(if ns.length<31 then _ else _)=_:=e
  by_cases c1:ns.length<31
  .rw[cj c1] at e
   obtain⟨y,M2,e2,e⟩:=dz e;cases hk2:(MW.wz M2 y).bind MW.Th with
   |none=>rw[hk2] at e;cases e
   |some Z =>
    rw[hk2] at e;have e:(if ns.length+Z.length<31 then _ else _)=_:=e
    by_cases R:ns.length+Z.length<31
    .rw[cj R] at e
     cases e;obtain⟨xs,g1,G⟩:=dm.mp hk1;obtain⟨ys,g2,U⟩:=dm.mp hk2;exact⟨x,M1,xs,ns,y,ys,Z,e1,g1,G,e2,g2,U,R,rfl⟩
    .rw[bx R] at e;cases e
  .rw[bx c1] at e;cases e
def apq{v:Bool}(hr:Ag 8 X.A)(hg:Gl X n)(hm:X.mg n=none)(hv:bootBuiltins n=some (.builtin "sorted"))(hn:n≠"__name__")(Qw:(n==("__debug__" : Str))=false)(q6:Gl X tn)(q5:X.mg tn=none)(qk:bootBuiltins tn=some (.type "set"))(Py:tn≠"__name__")(X7:(tn==("__debug__" : Str))=false)(ha:PA X [a] (Vd nm W X.K (.cons a' .nil)))(hb:PA X [b] (Vd nm W X.K (.cons b' .nil)))(he:starEach [.BinOp (.Call (.Name tn p1) [a] [] q1) (opB v) (.Call (.Name tn p2) [b] [] q2) q0] X.env=(false,eval (.BinOp (.Call (.Name tn p1) [a] [] q1) (opB v) (.Call (.Name tn p2) [b] [] q2) q0) X.env)::starEach [] X.env)(Gu:(backTo q (starEach [] X.env)).any (·.1)=false)(z3:starEach [a] X.env=(false,eval a X.env)::starEach [] X.env)(z6:(backTo q1 (starEach [] X.env)).any (·.1)=false)(q8:starEach [b] X.env=(false,eval b X.env)::starEach [] X.env)(zk:(backTo q2 (starEach [] X.env)).any (·.1)=false) :
 PE X (.Call (.Name n p) [.BinOp (.Call (.Name tn p1) [a] [] q1) (opB v) (.Call (.Name tn p2) [b] [] q2) q0] [] q) (tE nm W X.K (.J9 v a' b')):=by
 intro Z s σ H Q I hh;obtain⟨ι,ρ,M,d,M',S,R,e,qq⟩:=hh;obtain⟨x,M1,xs,ns,y,ys,ms,e1,g1,z0,e2,g2,z5,hl,rfl⟩:=avl e;have d1:=MW.aab ns;have d2:=MW.aab ms;refine gn (Bq I hg hm hv ?_ hn Qw);refine uo (Q:=EP X Z σ Q) ?_ he Gu;rw[he];show wpAny _ _ (spliced ((false,eval (.BinOp (.Call (.Name tn p1) [a] [] q1) (opB v) (.Call (.Name tn p2) [b] [] q2) q0) X.env)::backTo q (starEach [] X.env))) _ _ s;refine jy (wpAny_BinOp ?_);refine gn (Bq I q6 q5 qk ?_ Py X7);refine iw (Bj (ha q1 Z s σ H (λvs H1=>∃G v,vs=[v]/\Le ι H G H1/\lz nm X.K G H1 M1/\Rep X.K G H1 x v) I ⟨ι,ρ,M,[x],M1,S,R,by simp[e1,Res.bind],fun G H1 vs le S1 r=>?_⟩) λus s1 z_=>?_) z3 z6
 .obtain⟨v,ev,rv⟩:=Fw r rfl
  exact⟨G,v,ev,le,S1,rv⟩
 obtain⟨vs,H1,I1,r1,G,v1,ev,T6,S1,rx⟩:=z_;subst ev;obtain⟨u,rfl,ru⟩:=Oi r1;refine agm hr I1 S1 rx ru g1 z0 (by lia) λh' tk n1 keep hS z8=>?_
 obtain⟨o,es,ep,t,qv,z7,zz,_⟩:=hS.get;have J:Inv X Z σ H1 { s1 with heap:=h',toks:=tk }:=I1.kept keep;have J2:Inv X ((s1.heap.objs.size,o)::Z) σ H1 { s1 with heap:=h',toks:=tk }:=J.Kp λz hz=>by
  rcases bz.mp hz with rfl|hz
  .exact⟨qv,I1.Ar.fresh (bf _),o7 I1.lt,I1.ath (bf _),λv hv=>by rw[show o.data=_ from zz] at hv;cases hv⟩
  .exact J.pin z (gq _ hz)
 refine gn (Bq J2 q6 q5 qk ?_ Py X7);refine iw (Bj (hb q2 _ _ σ H1 (λvs H2=>∃U v,vs=[v]/\Le G H1 U H2/\lz nm X.K U H2 M'/\Rep X.K U H2 y v) J2 ⟨G,ρ,M1,[y],M',S1,R.mono T6,by simp[e2,Res.bind],fun U H2 vs le S2 r=>?_⟩) λus s3 z_=>?_) q8 zk
 .obtain⟨v,ev,rv⟩:=Fw r rfl
  exact⟨U,v,ev,le,S2,rv⟩
 obtain⟨vs,H2,I3,r2,U,v2,z1,Ak,S2,ry⟩:=z_;subst z1;obtain⟨u2,rfl,zw⟩:=Oi r2;have hp:=(I3.pin (s1.heap.objs.size,o) (gq _ dg)).1;have I4:Inv X Z σ H2 s3:=I3.Kp λz hz=>I3.pin z (gq _ (bh _ hz))
 refine agm hr I3 S2 ry zw g2 z5 (by lia) λh2 q4 n2 Wy q3 Py=>?_
 have J8:Qu.uw X.w h2 s1.heap.objs.size (λk=>k∈ns) n1:=hS.moved λo' Zw=>by rw[show o'=o from jt (Zw.symm.trans qv)];exact Wy _ _ hp
 have ne:s3.heap.objs.size≠s1.heap.objs.size:=o7 (au hp);refine a1t (s:={ s3 with heap:=h2,toks:=q4 }) J8 q3 (by lia) ne λh4 n4 z4 q7 zv=>?_
 show wpAny _ _ (spliced []) _ _ _;refine ql ?_;obtain⟨o9,_,_,_,g9,_⟩:=q3.get;exact Zm (s1:=s3) (h':=h4) (tk:=q4) hr I4 S2 q7 (yu (au g9)) (λb o e=>z4 b o (Wy b o e)) zv fun z2 H' w le=>qq z2 H' w ((T6.trans Ak).trans le)
end Sm
namespace Ck
open PySem L2 Sm
open MW (Ex Dg OEx Qv Cm ph Lv Tg Res cz MO G5 Cp Op2 Blt Bm Kx Src)
structure Tab where
 fns:List (Option (Str×Nat))
 cls:List (Option (Str×Nat))
 mts:List (Str×Nat)
 Qp:List Str
 avm:List (Str×Int)
noncomputable def Oj:List Str:=["len", "tuple", "list", "dict", "max", "min", "isinstance", "range", "enumerate", "set", "zip", "all", "bool", "int", "sum", "sorted"]
structure apr(T:Tab)(nm:Nm)(W:G5)(k:Nat)(P:Program)(w:World)(K:Fg)(mg:Zs)(base:Heap):Prop where
 fn:∀f x n,T.fns[f]?=some (some (x,n))->∃fa fd ps,Ff P w K mg base CX0 k fa fd ps (spF nm W K n f)/\mg x=some (.ref fa)/\PySem.W.keepIn K (.ref fa)=true/\Binds K fd ps []
 cl:∀c x n,T.cls[c]?=some (some (x,n))->∃C fa fd ps cl,Mk K C fa/\Ff P w K mg base CX0 k fa fd ps (spF nm W K (n+1) cl.init)/\mg x=some (.ref C)/\Binds K fd ps []/\W.cls[c]?=some cl/\nm.cls c=some C
 mt:∀m x n,T.mts[m]?=some (x,n)->∃C fa fd ps f,Cls K C/\Meth K C x fa/\Ff P w K mg base CX0 k fa fd ps (spF nm W K (n+1) f)/\Binds K fd ps [] /\
  (∀c' cl',W.cls[c']?=some cl'->∀g,cl'.meths.lookup m=some g->nm.cls c'=some C/\g=f)/\∀i,nm.fld i≠x
 fl:∀f x,T.Qp[f]?=some x->x=nm.fld f/\∀c C,nm.cls c=some C->Cls K C/\Gn K C x
 cs:∀x i,(x,i)∈T.avm->∃t,mg x=some (.int i t)
 bt:∀x∈Oj,mg x=none
structure Ctx where
 N:List Str
 sc:List (Str×NameKind)
 fn:Bool
 own:List Str
structure Ej(T:Tab)(nm:Nm)(W:G5)(k:Nat)(c:Ctx)(X:Cx):Prop where
 N:X.N=c.N
 nd:c.N.Nodup
 sc:X.env.scope.names=c.sc
 kd:X.env.scope.kind=.function
 calm:X.calm=true
 room:Ag (k+16) X.A
 fnl:c.fn=true->(∀n,X.fn n=true)/\PassesOwn (model X.prog X.w) X.A X.env X.xe
 tab:apr T nm W k X.prog X.w X.K X.mg X.base
 ow:∀n,c.own.contains n=true->X.fn n=true
def Ol{Z U:String}(K:Fg)(h:(if(Value.type Z==Value.type U)=true then some true else if PySem.W.kitMeta U=true then(fastBuiltinMro Z).map (·.contains (.type U)) else none)=some b):PySem.W.kitOne K (.type Z) (.type U)=some b:=h
def W4(G:PySem.W.kitOne K (.type Ty) (.type "tuple")=some a)(Z:PySem.W.kitOne K (.type Ty) (.type "list")=some b):PySem.W.kitAny K (.type Ty) [.type "tuple",.type "list"]=some (a||b):=by cases a<;>cases b<;>simp[PySem.W.kitAny,G,Z]
noncomputable def W5(n:Str):Bool:=!(n==("__debug__" : Str))&&(!(n==("__classdict__" : Str))&&!(n==("__name__" : Str)))
noncomputable def aks(c:Ctx)(n:Str):Bool:=match c.sc.lookup n with|some .local=>true|some .cell=>true|some .free=>true|_=>false
noncomputable def a1u(c:Ctx)(n:Str):Bool:=match c.sc.lookup n with|some .local=>true|some .cell=>c.fn||c.own.contains n|_=>false
noncomputable def Qx(c:Ctx)(n:Str):Bool:=W5 n&&(match c.sc.lookup n with|some .globalImplicit=>true|_=>false)
noncomputable def ail(c:Ctx)(i:Nat)(n:Str):Bool:=match c.N[i]? with|some m=>m==n|none=>false
noncomputable def Al:List Expr->Bool
 |[]=>true|e::r=>noStar e&&Al r
noncomputable def W6:Expr->Bool
 |.Name ..=>true|.Attribute ..=>true|.Subscript ..=>true|.Call (.Attribute ..) ..=>true|_=>false
def qe(h:W5 n=true):(n==("__debug__" : Str))=false/\(n==("__classdict__" : Str))=false/\n≠"__name__" := by simp only[W5,aq,Bool.not_eq_true'] at h;exact⟨h.1,h.2.1,λz=>by have:=h.2.2;rw[z] at this;simp at this⟩
set_option tactic.hygienic true in
def a1v(h:Ej T nm W k c X)(Z:aks c n=true):Vis X.env.scope n:=by unfold Vis;rw[h.sc];unfold aks at Z;split at Z<;>rename_i e<;>first|exact .inl e|exact .inr (.inl e)|exact .inr (.inr e)|cases Z
set_option tactic.hygienic true in
def a1w(h:Ej T nm W k c X)(Z:a1u c n=true):L2.Loc X.env.scope n/\(X.fn n=true\/X.env.scope.names.lookup n=some .local):=by
 unfold L2.Loc;rw[h.sc];unfold a1u at Z;split at Z
 .rename_i e;exact⟨.inl e,.inr e⟩
 .rename_i e;rcases(Bool.or_eq_true _ _).mp Z with z|z
  .exact⟨.inr e,.inl ((h.fnl z).1 n)⟩
  .exact⟨.inr e,.inl (h.ow n z)⟩
 .cases Z
set_option tactic.hygienic true in
def Di(h:Ej T nm W k c X)(Z:Qx c n=true):Gl X n/\W5 n=true:=by
 unfold Qx at Z;rw[aq] at Z;refine⟨?_,Z.1⟩;have Z:=Z.2;unfold Gl Env.kindOf;rw[h.sc];split at Z
 .rename_i e;exact e
 .cases Z
set_option tactic.hygienic true in
def slot_of(h:Ej T nm W k c X)(Z:ail c i n=true):X.N[i]?=some n:=by
 rw[h.N];unfold ail at Z;split at Z
 .rename_i m e;rw[e,eq_of_beq Z]
 .cases Z
theorem W7{env:Env}:∀{es:X0},Al es=true->starEach es env=es.map λe=>(false,eval e env)
 |[],_=>rfl
 |e::r,h=>by
  simp only[Al,aq] at h;rw[jz h.1,W7 h.2];rfl
def u9(h:Al es=true):(backTo pos (starEach es env)).any (·.1)=false:=by rw[W7 h];simp[backTo]
def W8(h:Al es=true):(backTo pos (starEach es env)).all (λx=>!x.1)=true:=by rw[W7 h];simp[backTo]
set_option tactic.hygienic true in
def Ip(h:W6 o=true):attributeBase o n env (eval o env)=eval o env:=by
 cases o<;>try first|rfl|(cases h;done)
 rename_i f Y Z p;cases f<;>first|rfl|(cases h)
def aim(h:W6 o=true)(hs:Al es=true)(hl:es.length<29)(hp:(apos.endLine==pos.line)=true) :
 eval (.Call (.Attribute o m apos) es [] pos) env=(do
  let Z <- eval o env
  standAt apos.atName
  let (f,first) <- holding [Z] (getMethod Z m (do return (<- importBound o env).getD true))
  callWith pos f first (backTo pos (starEach es env)) (backToKw pos (keywordEach [] env))):=by
 have U:methodCallForm (es.length+0) (backTo pos (starEach es env)) (backToKw pos (keywordEach [] env))=true:=by unfold methodCallForm;rw[W8 hs];simp[keywordEach,backToKw];exact b_ hl (by decide)
 show(do
  let Z <- attributeBase o m env (eval o env)
  standAt apos.atName
  methodCall o m apos pos env Z (es.length+0) (backTo pos (starEach es env)) (backToKw pos (keywordEach [] env)))=_
 rw[Ip h];unfold methodCall;rw[U];have G:methodCallPos true o env apos pos=pure pos:=by unfold methodCallPos;rw[hp];rfl
 rw[G];simp only[calleeOf,jn,pure_bind]
noncomputable def Bx{α:Type}(o:Option α)(f:α->Bool):Bool:=match o with|some x=>f x|none=>false
def je(h:Bx o f=true):∃x,o=some x/\f x=true:=by
 cases o with
 |none=>cases h|some x=>exact⟨x,rfl,h⟩
noncomputable def Lh{α:Type}(l:List α):Option α:=match l with|[x]=>some x|_=>none
def Az(h:Lh l=some x):l=[x]:=by
 cases l with
 |nil=>cases h
 |cons y r=>cases r with
  |nil=>cases h;rfl|cons _ _=>cases h
def Xr{α:Type}{P:α->Prop}{o:Option {x // P x}}{q:α}(h:o.map Subtype.val=some q):P q:=by
 cases o with
 |none=>cases h|some x=>cases h;exact x.2
noncomputable def Lf(a:Expr):Option Str:=Option.map Subtype.val (α:={q:Str // ∃p,a=.Name q p}) (match a with|.Name n p=>some ⟨n,p,rfl⟩|_=>none)
noncomputable def aps(a:Expr):Option Const:=Option.map Subtype.val (α:={q:Const // ∃k p,a=.Constant q k p}) (match a with|.Constant n k p=>some ⟨n,k,p,rfl⟩|_=>none)
noncomputable def a1x(a:Expr):Option (Expr×Operator×Expr):=Option.map Subtype.val (α:={q:Expr×Operator×Expr // ∃p,a=.BinOp q.1 q.2.1 q.2.2 p}) (match a with|.BinOp l o r p=>some ⟨(l,o,r),p,rfl⟩|_=>none)
noncomputable def dUn(a:Expr):Option (UnaryOp×Expr):=Option.map Subtype.val (α:={q:UnaryOp×Expr // ∃p,a=.UnaryOp q.1 q.2 p}) (match a with|.UnaryOp o l p=>some ⟨(o,l),p,rfl⟩|_=>none)
noncomputable def avn(a:Expr):Option (Expr×List CmpOp×List Expr):=Option.map Subtype.val (α:={q:Expr×List CmpOp×List Expr // ∃p,a=.Compare q.1 q.2.1 q.2.2 p}) (match a with|.Compare l o r p=>some ⟨(l,o,r),p,rfl⟩|_=>none)
noncomputable def axx(a:Expr):Option (BoolOp×List Expr×Pos):=Option.map Subtype.val (α:={q:BoolOp×List Expr×Pos // a=.BoolOp q.1 q.2.1 q.2.2}) (match a with|.BoolOp o l p=>some ⟨(o,l,p),rfl⟩|_=>none)
noncomputable def a1y(a:Expr):Option (Expr×Expr×Expr):=Option.map Subtype.val (α:={q:Expr×Expr×Expr // ∃p,a=.IfExp q.1 q.2.1 q.2.2 p}) (match a with|.IfExp t l r p=>some ⟨(t,l,r),p,rfl⟩|_=>none)
noncomputable def aeg(a:Expr):Option (List Expr):=Option.map Subtype.val (α:={q:List Expr // ∃k p,a=.Tuple q k p}) (match a with|.Tuple l k p=>some ⟨l,k,p,rfl⟩|_=>none)
noncomputable def a1z(a:Expr):Option (List Expr):=Option.map Subtype.val (α:={q:List Expr // ∃p,a=.List q p}) (match a with|.List l p=>some ⟨l,p,rfl⟩|_=>none)
noncomputable def a2a(a:Expr):Option (List (Option Expr)×List Expr):=Option.map Subtype.val (α:={q:List (Option Expr)×List Expr // ∃p,a=.Dict q.1 q.2 p}) (match a with|.Dict k v p=>some ⟨(k,v),p,rfl⟩|_=>none)
noncomputable def apt(a:Expr):Option (Expr×Expr):=Option.map Subtype.val (α:={q:Expr×Expr // ∃p,a=.Subscript q.1 q.2 p}) (match a with|.Subscript l r p=>some ⟨(l,r),p,rfl⟩|_=>none)
noncomputable def dSl(a:Expr):Option (Option Expr×Option Expr×Option Expr):=Option.map Subtype.val (α:={q:Option Expr×Option Expr×Option Expr // ∃p,a=.Slice q.1 q.2.1 q.2.2 p}) (match a with|.Slice l r s p=>some ⟨(l,r,s),p,rfl⟩|_=>none)
noncomputable def apu(a:Expr):Option (Expr×List Expr×List Keyword×Pos):=Option.map Subtype.val (α:={q:Expr×List Expr×List Keyword×Pos // a=.Call q.1 q.2.1 q.2.2.1 q.2.2.2}) (match a with|.Call f l k p=>some ⟨(f,l,k,p),rfl⟩|_=>none)
noncomputable def apv(a:Expr):Option (Expr×Str×Pos):=Option.map Subtype.val (α:={q:Expr×Str×Pos // a=.Attribute q.1 q.2.1 q.2.2}) (match a with|.Attribute l n p=>some ⟨(l,n,p),rfl⟩|_=>none)
noncomputable def aeh(a:Expr):Option (Expr×List Comprehension×Scope):=Option.map Subtype.val (α:={q:Expr×List Comprehension×Scope // ∃p,a=.ListComp q.1 q.2.1 q.2.2 p}) (match a with|.ListComp e g s p=>some ⟨(e,g,s),p,rfl⟩|_=>none)
def Ga(h:Lf a=some n):∃p,a=.Name n p:=(Xr h :)
def Vp(h:aps a=some n):∃k p,a=.Constant n k p:=(Xr h :)
def ain(h:a1x a=some (l,o,r)):∃p,a=.BinOp l o r p:=(Xr h :)
def apw(h:dUn a=some (o,l)):∃p,a=.UnaryOp o l p:=(Xr h :)
def abi(h:avn a=some (l,o,r)):∃p,a=.Compare l o r p:=(Xr h :)
def apx(h:axx a=some (o,r,p)):a=.BoolOp o r p:=(Xr h :)
def avo(h:a1y a=some (t,l,r)):∃p,a=.IfExp t l r p:=(Xr h :)
def O1(h:aeg a=some l):∃k p,a=.Tuple l k p:=(Xr h :)
def aio(h:a1z a=some l):∃p,a=.List l p:=(Xr h :)
def aip(h:a2a a=some (k,l)):∃p,a=.Dict k l p:=(Xr h :)
def abj(h:apt a=some (l,r)):∃p,a=.Subscript l r p:=(Xr h :)
def a2b(h:dSl a=some (l,r,s)):∃p,a=.Slice l r s p:=(Xr h :)
def aei(h:apu a=some (f,l,k,p)):a=.Call f l k p:=(Xr h :)
def abk(h:apv a=some (l,n,p)):a=.Attribute l n p:=(Xr h :)
def W9(h:aeh a=some (e,g,s)):∃p,a=.ListComp e g s p:=(Xr h :)
noncomputable def dCN(a:Expr):Option (Str×List Expr):=(apu a).bind λq=>if q.2.2.1.isEmpty then(Lf q.1).map λn=>(n,q.2.1) else none
set_option tactic.hygienic true in
def Dl(h:dCN a=some (n,l)):∃p p',a=.Call (.Name n p) l [] p':=by
 obtain⟨⟨f,L,k,p⟩,J,Y⟩:=dm.mp h;split at Y
 .rename_i Z
  obtain⟨C,G,U⟩:=cg.mp Y;obtain⟨p',e⟩:=Ga G;have e:f=_:=e;have Z:k=[]:=um.mp Z;cases U;exact⟨p',p,by rw[aei J,e,Z]⟩
 .cases Y
noncomputable def dCA(a:Expr):Option (Expr×Str×Pos×List Expr×Pos):=(apu a).bind λq=>if q.2.2.1.isEmpty then(apv q.1).map λn=>(n.1,n.2.1,n.2.2,q.2.1,q.2.2.2) else none
set_option tactic.hygienic true in
def apy(h:dCA a=some (o,n,J,l,p)):a=.Call (.Attribute o n J) l [] p:=by
 obtain⟨⟨f,u,k,S⟩,C,Y⟩:=dm.mp h;split at Y
 .rename_i Z
  obtain⟨⟨y,R,U⟩,G,L⟩:=cg.mp Y;have e:f=_:=abk G;have Z:k=[]:=um.mp Z;cases L;rw[aei C,e,Z]
 .cases Y
noncomputable def a9k(l:X0):List Str:=l.filterMap Lf
noncomputable def Eg(e:Expr):List Str:=match aeg e with|some l=>a9k l|none=>a9k [e]
noncomputable def hid(i:Nat):Str:=⟨#[0,i]⟩
noncomputable def akt(ts:X9)(p:Str×Nat):Str:=if ts.contains p.1=true then hid p.2 else p.1
noncomputable def Ve(N ts:X9):List Str:=N.zipIdx.map (akt ts)++ts
noncomputable def avp(c:Ctx)(names:Xs):List (Str×NameKind):=names.map λy=>if(y.2==NameKind.free&&c.sc.lookup y.1==some .cell) then(y.1,NameKind.cell) else(y.1,y.2)
noncomputable def aek(c:Ctx)(sc:Scope)(ts:X9):Ctx:=⟨Ve c.N ts,avp c sc.names,false,(sc.names.filter λy=>y.2==NameKind.cell).map (·.1)⟩
noncomputable def a2c(c:Ctx)(sc:Scope)(ts:X9):Bool :=
 decide (sc.kind=.function)&&(sc.names.all (λy=>sc.names.lookup y.1==some y.2) &&
 (sc.names.all (λy=>!(y.2==NameKind.free)||(c.sc.lookup y.1==some .cell||c.sc.lookup y.1==some .free))&&(decide ((Ve c.N ts).Nodup) &&
 c.N.zipIdx.all (λp=>!(aks (aek c sc ts) (akt ts p))||(akt ts p==p.1&&sc.names.lookup (akt ts p)==some .free)))))
noncomputable def a9l:Op2->Operator
 |.add=>.Add|.ajg=>.Add|.sub=>.Sub|.mul=>.Mult|.fdiv=>.FloorDiv|.mod=>.Mod|.pow=>.Pow
noncomputable def avq:Cp->Option CmpOp
 |.eq=>some .Eq|.ne=>some .NotEq|.lt=>some .Lt|.le=>some .LtE|.gt=>some .Gt|.ge=>some .GtE|.inn=>some .In|.Ui=>some .NotIn
noncomputable def a2d:Blt->Option Str
 |.len=>some "len"|.tuple=>some "tuple"|.list=>some "list"|.dict=>some "dict"|.max=>some "max"|.min=>some "min"
 |.all=>some "all"|_=>none
noncomputable def bmN:Bm->Option Str
 |.append=>some "append"|.index=>some "index"|.get=>some "get"
noncomputable def a2e(T:Tab)(c:Ctx)(d:MW.D)(a:Expr):Bool :=
 match d with
 |.int i=>Bx (aps a) (λk=>decide (k=.int i))||Bx (Lf a) λn=>Qx c n&&T.avm.contains (n,i)
 |.bl i=>Bx (aps a) λk=>decide (k=.bool i)
 |.non=>Bx (aps a) λk=>decide (k=.none)
 |.str s=>Bx (aps a) λk=>decide (k=.str s)
 |_=>false
noncomputable def tg1(c:Ctx)(lo i:Nat)(e:Expr):Bool:=Bx (Lf e) λn=>ail c i n&&(a1u c n&&decide (lo<=i))
noncomputable def aku(c:Ctx)(lo:Nat):List Nat->List Expr->Bool
 |[],[]=>true|i::is,e::ts=>tg1 c lo i e&&aku c lo is ts|_,_=>false
noncomputable def tgB(c:Ctx)(lo:Nat)(t:Tg)(e:Expr):Bool :=
 match t with
 |.name i=>tg1 c lo i e|.names is=>Bx (aeg e) λZ=>aku c lo is Z
noncomputable def Sd(e:Expr):Bool:=(a1y e).isNone
noncomputable def fnB(l:List (Option (Str×Nat)))(f:Nat)(n:Str)(k:Nat):Bool:=decide (l[f]?=some (some (n,k)))
noncomputable def mtB(l:List (Str×Nat))(f:Nat)(n:Str)(k:Nat):Bool:=decide (l[f]?=some (n,k))
noncomputable def flB(l:X9)(f:Nat)(n:Str):Bool:=decide (l[f]?=some n)
noncomputable def aiq(c:Ctx)(k:Nat)(t:Tg)(g:Comprehension)(sc:Scope):Bool :=
 a2c c sc (Eg g.target)&&((k==(Eg g.target).length)&&(tgB (aek c sc (Eg g.target)) c.N.length t g.target&&(Gv g.iter&&decide (g.is_async=0))))
noncomputable def apz(o:BoolOp)(a:Expr)(x y:Expr->Bool):Bool :=
 Bx (axx a) λq=>decide (q.1=o)&&(match q.2.1 with
  |l::r::rest=>(Sd l&&x l)&&(match rest with|[]=>Sd r&&y r|_::_=>y (.BoolOp o (r::rest) q.2.2))
  | _=>false)
noncomputable def ap0(c:Ctx)(ty:Str)(a:Expr)(f:Expr->Bool):Bool:=Bx (dCN a) λq=>match q.2 with
 |[l,t]=>Bx (Lf t) λZ=>(decide (q.1 = "isinstance")&&decide (Z=ty))&&((Qx c q.1&&Qx c Z)&&(noStar l&&f l))
 |_=>false
noncomputable def a2f(c:Ctx)(a:Expr)(f:Expr->Bool):Bool:=Bx (dCN a) λq=>match q.2 with
 |[l,t]=>Bx (aeg t) λU=>match U with
  |[u,v]=>Bx (Lf u) λG=>Bx (Lf v) λZ=>(decide (q.1 = "isinstance")&&(decide (G = "tuple")&&decide (Z = "list")))&&((Qx c q.1&&(Qx c G&&Qx c Z))&&(noStar l&&f l))
  |_=>false
 |_=>false
def avr(h:ap0 c ty a f=true):∃l p p1 p2,a=.Call (.Name "isinstance" p) [l,.Name ty p1] [] p2/\Qx c "isinstance" = true/\Qx c ty=true/\noStar l=true/\f l=true:=by
 obtain⟨⟨n,ls⟩,G,R⟩:=je h;clear h;obtain⟨p,p',rfl⟩:=Dl G
 match ls,G,R with
 |[l,t],G,h =>
  replace h:=je (f:=λZ=>(decide (n = "isinstance")&&decide (Z=ty))&&((Qx c n&&Qx c Z)&&(noStar l&&f l))) h;obtain⟨Z,h2,h⟩:=h;obtain⟨p2,rfl⟩:=Ga h2;simp only[aq,cu] at h;obtain⟨⟨rfl,rfl⟩,⟨U,h4⟩,h5,h6⟩:=h;exact⟨l,p,p2,p',rfl,U,h4,h5,h6⟩
 |[],_,h=>cases h|[_],_,h=>cases h|_::_::_::_,_,h=>cases h
def avs(h:a2f c a f=true):∃l p p1 p2 G k p4,a=.Call (.Name "isinstance" p) [l,.Tuple [.Name "tuple" p1,.Name "list" p2] k G] [] p4/\Qx c "isinstance" = true/\Qx c "tuple" = true/\Qx c "list" = true/\noStar l=true/\f l=true:=by
 obtain⟨⟨n,ls⟩,Z,h0⟩:=je h;clear h;obtain⟨p,p',rfl⟩:=Dl Z
 match ls,Z,h0 with
 |[l,t],Z,h =>
  replace h:=je (o:=aeg t) h;obtain⟨tl,U,h⟩:=h;obtain⟨k,G,rfl⟩:=O1 U
  match tl,U,h with
  |[u,v],U,h =>
   replace h:=je (o:=Lf u) h;obtain⟨n1,h7,h⟩:=h;replace h:=je (o:=Lf v) h;obtain⟨n2,h8,h⟩:=h;obtain⟨q1,rfl⟩:=Ga h7;obtain⟨q2,rfl⟩:=Ga h8;simp only[aq,cu] at h;obtain⟨⟨rfl,rfl,rfl⟩,⟨R,h4,h9⟩,h5,h6⟩:=h;exact⟨l,p,q1,q2,G,k,p',rfl,R,h4,h9,h5,h6⟩
  |[],_,h=>cases h|[_],_,h=>cases h|_::_::_::_,_,h=>cases h
 |[],_,h=>cases h|[_],_,h=>cases h|_::_::_::_,_,h=>cases h
noncomputable def ap3(c:Ctx)(ty Z:Str)(a:Expr)(f:Expr->Bool):Bool:=Bx (dCN a) λq=>Bx (Lh q.2) λr=>Bx (dCN r) λu=>Bx (Lh u.2) λl=>((decide (q.1=ty)&&decide (u.1=Z))&&(Qx c q.1&&Qx c u.1))&&(noStar l&&f l)
def abl(h:ap3 c ty Z a f=true):∃l p p1 p2 p3,a=.Call (.Name ty p) [.Call (.Name Z p1) [l] [] p2] [] p3/\Qx c ty=true/\Qx c Z=true/\noStar l=true/\f l=true:=by replace h:=je h;obtain⟨⟨n,ls⟩,h1,h⟩:=h;obtain⟨p,p',rfl⟩:=Dl h1;replace h:=je h;obtain⟨r,h2,h⟩:=h;cases Az h2;replace h:=je h;obtain⟨⟨m,ms⟩,G,h⟩:=h;obtain⟨p2,R,rfl⟩:=Dl G;replace h:=je h;obtain⟨l,h4,h⟩:=h;cases Az h4;simp only[aq,cu] at h;obtain⟨⟨⟨rfl,rfl⟩,h5,U⟩,h7,h8⟩:=h;exact⟨l,p,p2,R,p',rfl,h5,U,h7,h8⟩
mutual
noncomputable def zr(T:Tab):Ex->Ctx->Expr->Bool
 |.var i,c,a=>Bx (Lf a) λn=>ail c i n&&(aks c n&&W5 n)
 |.cst d,c,a=>a2e T c d a|.bin op x y,c,a=>Bx (a1x a) λq=>decide (q.2.1=a9l op)&&(zr T x c q.1&&zr T y c q.2.2)
 |.neg x,c,a=>Bx (dUn a) λq=>decide (q.1=.USub)&&zr T x c q.2
 |.cmp op x y,c,a=>Bx (avn a) λq=>Bx (Lh q.2.1) λo=>Bx (Lh q.2.2) λr=>decide (avq op=some o)&&(Gv r&&(zr T x c q.1&&zr T y c r))
 |.chain o1 o2 x y z,c,a=>Bx (avn a) λq=>match q.2.1,q.2.2 with
  |[p1,p2],[r,s]=>(decide (avq o1=some p1)&&decide (avq o2=some p2))&&(Gv s&&(zr T x c q.1&&(zr T y c r&&zr T z c s)))|_,_=>false
 |.and x y,c,a=>apz .And a (zr T x c) (zr T y c)|.or x y,c,a=>apz .Or a (zr T x c) (zr T y c)|.not x,c,a=>Bx (dUn a) λq=>decide (q.1=.Not)&&(Sd q.2&&zr T x c q.2)
 |.ite t x y,c,a=>Bx (a1y a) λq=>Sd q.1&&(zr T t c q.1&&(zr T x c q.2.1&&zr T y c q.2.2))
 |.tup es,c,a=>Bx (aeg a) λl=>decide (Dg.len es<=1000)&&Hy T es c l
 |.lst es,c,a=>Bx (a1z a) λl=>decide (Dg.len es<=1000)&&Hy T es c l
 |.Ia es,c,a=>Bx (a1z a) λl=>decide (Dg.len es<=1000)&&Hy T es c l
 |.afj,_,a=>Bx (a2a a) λq=>q.1.isEmpty&&q.2.isEmpty
 |.afk,_,a=>Bx (a2a a) λq=>q.1.isEmpty&&q.2.isEmpty
 |.ix x y,c,a=>Bx (apt a) λq=>aa9 q.2&&(zr T x c q.1&&zr T y c q.2)
 |.cut x lo hi,c,a=>Bx (apt a) λq=>Bx (dSl q.2) λs=>s.2.2.isNone&&(zr T x c q.1&&(a2g T lo c s.1&&a2g T hi c s.2.1))
 |.call f es,c,a=>Bx (dCN a) λq=>(fnB T.fns f q.1 (Dg.len es)&&(Qx c q.1&&!q.2.isEmpty))&&Hy T es c q.2
 |.make f es,c,a=>Bx (dCN a) λq=>(fnB T.cls f q.1 (Dg.len es)&&(Qx c q.1&&!q.2.isEmpty))&&Hy T es c q.2
 |.meth o m es,c,a=>Bx (dCA a) λq=>((mtB T.mts m q.2.1 (Dg.len es)&&W6 q.1)&&(decide (q.2.2.2.1.length<29)&&(q.2.2.1.endLine==q.2.2.2.2.line)))&&(zr T o c q.1&&Hy T es c q.2.2.2.1)
 |.fld o f,c,a=>Bx (apv a) λq=>(flB T.Qp f q.2.1&&W6 q.1)&&zr T o c q.1
 |.blt .Ca (.cons x .nil),c,a=>ap3 c "sorted" "set" a (zr T x c)|.blt .isTuple (.cons x .nil),c,a=>ap0 c "tuple" a (zr T x c)|.blt .isList (.cons x .nil),c,a=>ap0 c "list" a (zr T x c)|.blt .isBool (.cons x .nil),c,a=>ap0 c "bool" a (zr T x c)|.blt .isSeq (.cons x .nil),c,a=>a2f c a (zr T x c)|.blt b es,c,a=>Bx (dCN a) λq=>(decide (a2d b=some q.1)&&(Qx c q.1&&!q.2.isEmpty))&&Hy T es c q.2
 |.bm m o es,c,a=>Bx (dCA a) λq=>((decide (bmN m=some q.2.1)&&W6 q.1)&&(decide (q.2.2.2.1.length<29)&&((q.2.2.1.endLine==q.2.2.2.2.line)&&!q.2.2.2.1.isEmpty)))&&(zr T o c q.1&&Hy T es c q.2.2.2.1)
 |.comp v k t it e,c,a=>Bx (aeh a) λq=>Bx (Lh q.2.1) λg=>(aiq c k t g q.2.2&&g.ifs.isEmpty)&&(avt T it c g.target g.iter&&zr T e (aek c q.2.2 (Eg g.target)) q.1)
 |.Cj v k t it i e,c,a=>Bx (aeh a) λq=>Bx (Lh q.2.1) λg=>Bx (Lh g.ifs) λd=>(aiq c k t g q.2.2&&Sd d)&&(avt T it c g.target g.iter&&(zr T i (aek c q.2.2 (Eg g.target)) d&&zr T e (aek c q.2.2 (Eg g.target)) q.1))
 |.V0 x y,c,a=>Bx (avn a) λq=>Bx (Lh q.2.1) λo=>Bx (Lh q.2.2) λr=>Bx (dCN q.1) λu=>Bx (dCN r) λv=>Bx (Lh u.2) λl=>Bx (Lh v.2) λm =>
  ((decide (o=.NotEq)&&decide (u.1 = "set"))&&(decide (v.1 = "set")&&Qx c u.1))&&((noStar l&&noStar m)&&(zr T x c l&&zr T y c m))
 |.J9 v x y,c,a=>Bx (dCN a) λw=>Bx (Lh w.2) λz=>Bx (a1x z) λq=>Bx (dCN q.1) λu=>Bx (dCN q.2.2) λt=>Bx (Lh u.2) λl=>Bx (Lh t.2) λm =>
  ((decide (w.1 = "sorted")&&(Qx c w.1&&decide (q.2.1=cond v Operator.BitAnd Operator.BitOr)))&&(decide (u.1 = "set")&&(decide (t.1 = "set")&&Qx c u.1)))&&((noStar l&&noStar m)&&(zr T x c l&&zr T y c m))
 |.afm x,c,a=>ap3 c "tuple" "range" a (zr T x c)|.afn x,c,a=>ap3 c "list" "range" a (zr T x c)
noncomputable def Hy(T:Tab):Dg->Ctx->List Expr->Bool
 |.nil,_,a=>a.isEmpty|.cons e es,c,a=>match a with|l::ls=>noStar l&&(zr T e c l&&Hy T es c ls)|_=>false
noncomputable def a2g(T:Tab):OEx->Ctx->Option Expr->Bool
 |.none,_,a=>a.isNone|.some e,c,a=>Bx a (zr T e c)
noncomputable def avt(T:Tab):Qv->Ctx->Expr->Expr->Bool
 |.val e,c,_,a=>zr T e c a|.Ln e,c,_,a=>Bx (dCN a) λq=>Bx (Lh q.2) λl=>(decide (q.1 = "range")&&Qx c q.1)&&(noStar l&&zr T e c l)
 |.enm e,c,tg,a=>Bx (dCN a) λq=>Bx (Lh q.2) λl=>((aeg tg).isSome&&(decide (q.1 = "enumerate")&&Qx c q.1))&&(noStar l&&zr T e c l)
 |.zip es,c,tg,a=>Bx (dCN a) λq=>((aeg tg).isSome&&(decide (q.1 = "zip")&&(Qx c q.1&&!q.2.isEmpty)))&&(decide (Dg.len es=2)&&Hy T es c q.2)
end
def Pn(h:Ej T nm W k c X)(sc:Scope):(relabel sc X.env).names=avp c sc.names:=by
 unfold relabel avp;refine wu λy _=>?_
 obtain⟨n,Z⟩:=y;show(if(Z==NameKind.free&&X.env.scope.kind==.function&&X.env.kindOf n==some .cell)=true then _ else _)=_;have e:(Z==NameKind.free&&X.env.scope.kind==.function&&X.env.kindOf n==some .cell)=(Z==NameKind.free&&c.sc.lookup n==some .cell):=by unfold Env.kindOf;rw[h.kd,h.sc];simp
 rw[e]
def a2h(h:Ej T nm W k c X)(hb:a2c c sc ts=true):Ek X (Ve c.N ts) sc/\∀C fp s H,Ej T nm W k (aek c sc ts) (Lq X (Ve c.N ts) sc C fp s H):=by
 simp only[a2c,aq,cu,jb] at hb;obtain⟨h1,h3,h4,h5,h6⟩:=hb;have Z:∀x kd,(x,kd)∈sc.names->sc.names.lookup x=some kd:=λx kd m=>by have:=h3 (x,kd) m;simpa using this
 refine⟨⟨h1,λy m e=>by rw[Z y.1 y.2 m,e],λy m e=>?_,Z,?_,λi x R G hv=>?_⟩,λC fp s H=>⟨rfl,h5,Pn h sc,h1,h.calm,h.room,(λz=>by cases z),h.tab,λn m=>?_⟩⟩
 .have:=h4 y m
  rw[e] at this;unfold Env.kindOf;rw[h.sc];simpa using this
 .rw[h.N];simp[Ve]
 .rw[h.N] at R
  have hl:i<(c.N.zipIdx.map (akt ts)).length:=by simpa using R
  unfold Ve at G;rw[fc hl,jh,zb] at G;obtain⟨n,U⟩:∃n,c.N[i]?=some n:=⟨c.N[i],by simp[R]⟩;rw[U] at G;have G:akt ts (n,i)=x:=by simpa using G
  have m:(n,i)∈c.N.zipIdx:=by rw[xg];exact⟨i,by rw[zb,U];simp⟩
  have q:=h6 (n,i) m;rw[G] at q;have v:aks (aek c sc ts) x=true:=by unfold Vis at hv;rw[Pn h] at hv;unfold aks;show(match(avp c sc.names).lookup x with|some .local=>true|some .cell=>true|some .free=>true|_=>false)=true;rcases hv with e|e|e<;>rw[e]
  rw[v] at q;simp only[m6,Bool.false_or,aq] at q;rw[h.N,U];have e1:x=n:=eq_of_beq q.1;exact⟨by rw[e1],by have:=q.2;simpa using this⟩
 .obtain⟨y,hy,rfl⟩:=bw.mp (List.contains_iff_mem.mp m)
  obtain⟨h7,h8⟩:=uz.mp hy;show(sc.names.lookup y.1==some .cell)=true;rw[Z y.1 y.2 h7,eq_of_beq h8];rfl
def a9m(h:o=a9l op):De X (binaryOp o) (rOp nm X.K (MW.Fy op)):=by
 subst h;cases op with
 |add=>exact a79|ajg=>exact a1r|sub=>exact a75|mul=>exact a78|fdiv=>exact a0x|mod=>exact a76|pow=>exact a77
def ap4(Z:Ag 8 X.A)(h:avq op=some o):De X (compareOp o) (Xq nm X.K op):=by
 have G:Ag 6 X.A:=Z.mono (by decide);cases op with
 |eq=>cases h;exact be7 G|ne=>cases h;exact be8 G|lt=>cases h;exact bev|le=>cases h;exact bew|gt=>cases h;exact bex|ge=>cases h;exact bey|inn=>cases h;exact be9 Z|Ui=>cases h;exact auq Z
def agn(h:Ej T nm W k c X)(G:tg1 c lo i e=true):∃n p,e=.Name n p/\X.N[i]?=some n/\L2.Loc X.env.scope n/\(X.fn n=true\/X.env.scope.names.lookup n=some .local)/\lo<=i:=by obtain⟨n,U,Z⟩:=je G;obtain⟨p,rfl⟩:=Ga U;simp only[aq,cu] at Z;obtain⟨l1,R⟩:=a1w h Z.2.1;exact⟨n,p,rfl,slot_of h Z.1,l1,R,Z.2.2⟩
theorem ap5{T:Tab}{nm:Nm}{W:G5}{k:Nat}{c:Ctx}{X:Cx}(h:Ej T nm W k c X){lo:Nat}:∀{is:Yf}{ts:X0},aku c lo is ts=true->Ks X ts is/\∀i∈is,lo<=i
 |[],[],_=>⟨.nil,by simp⟩|[],_::_,e=>by cases e|_::_,[],e=>by cases e
 |i::is,a::ts,e=>by
  unfold aku at e;rw[aq] at e;obtain⟨n,p,rfl,Z,R,G,e4⟩:=agn h e.1;obtain⟨g1,g2⟩:=ap5 h e.2;refine⟨.cons Z R G g1,λj U=>?_⟩;rcases bz.mp U with z|z
  .rw[z];exact e4
  .exact g2 j z
def air(h:Ej T nm W k c X)(Z:tgB c lo t e=true):PG X e (tGt nm X.K t)/\∀i∈Br t,lo<=i:=by
 have G:X.N.Nodup:=by rw[h.N];exact h.nd
 cases t with
 |name i =>
  obtain⟨n,p,rfl,U,e2,e3,e4⟩:=agn h Z;exact⟨a02 G U e2 e3,λi R=>by rw[jw.mp R];exact e4⟩
 |names is =>
  obtain⟨ts,h1,h2⟩:=je Z;obtain⟨k0,p,rfl⟩:=O1 h1;obtain⟨g1,g2⟩:=ap5 h h2;exact⟨aum h.calm G g1,g2⟩
structure Got(nm:Nm)(W:G5)(X:Cx)(a:Expr)(e:Ex):Prop where
 v:PE X a (tE nm W X.K e)
 q:Sd a=true->PT X a (tQ nm W X.K e)
 w:∀op ls p,a=.BoolOp op ls p->PW X a (tQ nm W X.K e)
noncomputable def a9n:Expr->Bool
 |.BoolOp ..=>false|.UnaryOp .Not _ _=>false|.IfExp ..=>false|.Compare ..=>false|_=>true
set_option tactic.hygienic true in
def xx(h:PE X a (tE nm W X.K e))(Y:a9n a=true):Got nm W X a e:=by
 refine⟨h,λJ=>a8a h λZ=>?_,λG U p z=>by subst z;cases Y⟩;cases a<;>first|rfl|(cases Y)|skip
 rename_i G x p;cases G<;>first|rfl|cases Y
def a2i(h:Ej T nm W k c X)(G:a2e T c d a=true):PE X a (tE nm W X.K (.cst d))/\a9n a=true:=by
 cases d with
 |int i =>
  simp only[a2e,Bool.or_eq_true] at G;rcases G with G|G
  .obtain⟨k,U,Z⟩:=je G
   obtain⟨j,p,rfl⟩:=Vp U;rw[j9 Z];exact⟨a71,rfl⟩
  .obtain⟨n,U,Z⟩:=je G
   obtain⟨p,rfl⟩:=Ga U;rw[aq] at Z;obtain⟨g1,g2⟩:=Di h Z.1;obtain⟨t,R⟩:=h.tab.cs _ _ (List.contains_iff_mem.mp Z.2);exact⟨a0w g1 R (qe g2).1,rfl⟩
 |bl i =>
  obtain⟨k,U,Z⟩:=je G;obtain⟨j,p,rfl⟩:=Vp U;rw[j9 Z];exact⟨bet,rfl⟩
 |non =>
  obtain⟨k,U,Z⟩:=je G;obtain⟨j,p,rfl⟩:=Vp U;rw[j9 Z];exact⟨a72,rfl⟩
 |str s =>
  obtain⟨k,U,Z⟩:=je G;obtain⟨j,p,rfl⟩:=Vp U;rw[j9 Z];exact⟨a73,rfl⟩
 |_=>cases G
section
variable{T:Tab}{nm:Nm}{W:G5}{k:Nat}
def Ej.r8(h:Ej T nm W k c X):Ag 8 X.A:=h.room.mono (by lia)
theorem Ej.mg(h:Ej T nm W k c X)(m:n∈Oj):X.mg n=none:=h.tab.bt n m
def akv(h:Hy T es c []=true):es=.nil:=by
 cases es with
 |nil=>rfl|cons e es=>simp[Hy] at h
theorem U4{c:Ctx}{lo:Nat}:∀{is:Yf}{ts:X0},aku c lo is ts=true->∀i∈is,lo<=i
 |[],_,_=>by simp|_::_,[],e=>by cases e
 |i::is,a::ts,e=>by
  unfold aku at e;rw[aq] at e;intro j G;rcases bz.mp G with z|z
  .obtain⟨n,U,Z⟩:=je e.1
   simp only[aq,cu] at Z;rw[z];exact Z.2.2
  .exact U4 e.2 j z
def ago(h:tgB c lo t e=true):∀i∈Br t,lo<=i:=by
 cases t with
 |name j =>
  obtain⟨n,U,Z⟩:=je h;simp only[aq,cu] at Z;intro i G;rw[jw.mp G];exact Z.2.2
 |names is =>
  obtain⟨R,U,Z⟩:=je h;exact U4 Z
def ap6:(Ve N ts).length-N.length=ts.length:=by simp[Ve]
def Sg(G:Ej T nm W k c X)(h:aiq c j t g sc=true) :
 Gv g.iter=true/\g.is_async=0/\Ek X (Ve c.N (Eg g.target)) sc/\(∀C Z s H,Ej T nm W k (aek c sc (Eg g.target)) (Lq X (Ve c.N (Eg g.target)) sc C Z s H)) /\
 (∀C Z s H,PG (Lq X (Ve c.N (Eg g.target)) sc C Z s H) g.target (tGt nm X.K t))/\(Ve c.N (Eg g.target)).length-X.N.length=j/\∀i∈Br t,X.N.length<=i:=by
 simp only[aiq,aq,cu] at h;obtain⟨h2,h3,R,h5,h6⟩:=h;obtain⟨B,U⟩:=a2h G h2;exact⟨h5,h6,B,U,λC Z s H=>(air (U C Z s H) R).1,by rw[G.N,ap6];exact(eq_of_beq h3).symm,λi hi=>by rw[G.N];exact ago R i hi⟩
def ais(h:apz o a x y=true):(∃l r p,a=.BoolOp o [l,r] p/\Sd l=true/\x l=true/\Sd r=true/\y r=true) \/
 ∃l r s rest p,a=.BoolOp o (l::r::s::rest) p/\Sd l=true/\x l=true/\y (.BoolOp o (r::s::rest) p)=true:=by
 obtain⟨⟨R,G,p⟩,h1,Z⟩:=je h;cases apx h1;rw[aq] at Z;obtain⟨U,Z⟩:=Z;cases j9 U;cases G with
 |nil=>cases Z
 |cons l G=>cases G with
  |nil=>cases Z
  |cons r rest =>
   cases rest with
   |nil =>
    have Z:((Sd l&&x l)&&(Sd r&&y r))=true:=Z;simp only[aq] at Z;exact .inl ⟨l,r,p,rfl,Z.1.1,Z.1.2,Z.2.1,Z.2.2⟩
   |cons s rest =>
    have Z:((Sd l&&x l)&&y (.BoolOp R (r::s::rest) p))=true:=Z;simp only[aq] at Z;exact .inr ⟨l,r,s,rest,p,rfl,Z.1.1,Z.1.2,Z.2⟩
def a2j(hc:Ej T nm W k c X)(Z:a2d b=some n)(hg:Qx c n=true)(U:PA X (l::ls) (Vd nm W X.K es))(e2:Al (l::ls)=true):PE X (.Call (.Name n p) (l::ls) [] p') (tE nm W X.K (.blt b es)):=by
 obtain⟨g1,g2⟩:=Di hc hg;obtain⟨R,d2,G⟩:=qe g2;simp only[Al,aq] at e2;have st:=jz e2.1 ls X.env;have an:=u9 (env:=X.env) (pos:=p') e2.2;have mg:n∈Oj->X.mg n=none:=hc.mg;cases b with
 |len=>cases Z;exact ah8 (id := "len") a8w g1 (mg (by decide+kernel)) (by decide+kernel) U G R st an|max=>cases Z;exact ah8 (id := "max") (a84 hc.calm) g1 (mg (by decide+kernel)) (by decide+kernel) U G R st an|all=>cases Z;exact ah8 (id := "all") (a9f hc.calm) g1 (mg (by decide+kernel)) (by decide+kernel) U G R st an|min=>cases Z;exact ah8 (id := "min") (a87 hc.calm) g1 (mg (by decide+kernel)) (by decide+kernel) U G R st an|tuple=>cases Z;exact agj (T := "tuple") aup g1 (mg (by decide+kernel)) (by decide+kernel) U G R st an|list=>cases Z;exact agj (T := "list") a1g g1 (mg (by decide+kernel)) (by decide+kernel) U G R st an|dict=>cases Z;exact agj (T := "dict") a1n g1 (mg (by decide+kernel)) (by decide+kernel) U G R st an|_=>cases Z
def Xa{α:Type}{l:List α}(h:(!l.isEmpty)=true):∃x r,l=x::r:=by
 cases l with
 |nil=>cases h|cons x r=>exact⟨x,r,rfl⟩
set_option maxHeartbeats 2000000 in
set_option tactic.hygienic true in
mutual
theorem jo:∀(e:Ex){c:Ctx}{X:Cx}{a:Expr},Ej T nm W k c X->zr T e c a=true->Got nm W X a e
 |.var i,c,X,a,hc,h=>by
  replace h:=je h;obtain⟨n,G,h⟩:=h;obtain⟨p,rfl⟩:=Ga G;simp only[aq] at h;exact xx (a70 (slot_of hc h.1) (a1v hc h.2.1) (qe h.2.2).1 (qe h.2.2).2.1) rfl
 |.cst d,c,X,a,hc,h=>by
  obtain⟨G,R⟩:=a2i hc h;exact xx G R
 |.bin op x y,c,X,a,hc,h=>by
  replace h:=je h;obtain⟨⟨l,o,r⟩,G,h⟩:=h;obtain⟨p,rfl⟩:=ain G;simp only[aq,cu] at h;exact xx (a74 (a9m h.1) (jo x hc h.2.1).v (jo y hc h.2.2).v) rfl
 |.neg x,c,X,a,hc,h=>by
  replace h:=je h;obtain⟨⟨o,l⟩,G,h⟩:=h;obtain⟨p,rfl⟩:=apw G;simp only[aq,cu] at h;obtain⟨rfl,h⟩:=h;exact xx (a8k (jo x hc h).v) rfl
 |.cmp op x y,c,X,a,hc,h=>by
  replace h:=je h;obtain⟨⟨l,o,r⟩,G,h⟩:=h;obtain⟨p,rfl⟩:=abi G;replace h:=je h;obtain⟨o1,R,h⟩:=h;replace h:=je h;obtain⟨r1,h3,h⟩:=h;cases Az R;cases Az h3;simp only[aq,cu] at h;have g:=ap4 (nm:=nm) hc.r8 h.1;have m:=Uz h.2.1 o1;exact⟨a8b g (jo x hc h.2.2.1).v (jo y hc h.2.2.2).v m,λ_=>a8c g (jo x hc h.2.2.1).v (jo y hc h.2.2.2).v m,λ_ _ _ z=>by cases z⟩
 |.chain o1 o2 x y z,c,X,a,hc,h=>by
  replace h:=je h;obtain⟨⟨l,o,r⟩,G,h⟩:=h;obtain⟨p,rfl⟩:=abi G;dsimp only at h;split at h
  .rename_i p1 p2 r s
   simp only[aq,cu] at h;have g1:=ap4 (nm:=nm) hc.r8 h.1.1;have U:=ap4 (nm:=nm) hc.r8 h.1.2;have m:lastMarks [p1,p2] [r,s]=false:=Uz h.2.1 p2;exact⟨auk g1 U (jo x hc h.2.2.1).v (jo y hc h.2.2.2.1).v (jo z hc h.2.2.2.2).v m,λ_=>aul g1 U (jo x hc h.2.2.1).v (jo y hc h.2.2.2.1).v (jo z hc h.2.2.2.2).v m,λ_ _ _ z=>by cases z⟩
  .cases h
 |.and x y,c,X,a,hc,h=>by
  rcases ais h with⟨l,r,p,rfl,G,R,h3,h4⟩|⟨l,r,s,rest,p,rfl,G,R,h3⟩
  .have g1:=jo x hc R
   have U:=jo y hc h4;have w:=axq (pos:=p) (rest:=[]) (g1.q G) (atj (U.q h3));exact⟨axp g1.v (axw U.v),λ_=>w.pt,λ_ _ _ _=>w⟩
  .have g1:=jo x hc R
   have U:=jo y hc h3;have w:=axq (g1.q G) (U.w _ _ _ rfl);exact⟨axp g1.v U.v,λ_=>w.pt,λ_ _ _ _=>w⟩
 |.or x y,c,X,a,hc,h=>by
  rcases ais h with⟨l,r,p,rfl,G,R,h3,h4⟩|⟨l,r,s,rest,p,rfl,G,R,h3⟩
  .have g1:=jo x hc R
   have U:=jo y hc h4;have w:=a8f (pos:=p) (rest:=[]) (g1.q G) (azt (U.q h3));exact⟨a8d g1.v (axw U.v),λ_=>w.pt,λ_ _ _ _=>w⟩
  .have g1:=jo x hc R
   have U:=jo y hc h3;have w:=a8f (g1.q G) (U.w _ _ _ rfl);exact⟨a8d g1.v U.v,λ_=>w.pt,λ_ _ _ _=>w⟩
 |.not x,c,X,a,hc,h=>by
  replace h:=je h;obtain⟨⟨o,l⟩,G,h⟩:=h;obtain⟨p,rfl⟩:=apw G;simp only[aq,cu] at h;obtain⟨rfl,h⟩:=h;have g:=jo x hc h.2;exact⟨a8e g.v,λ_=>a8g (g.q h.1),λ_ _ _ z=>by cases z⟩
 |.ite t x y,c,X,a,hc,h=>by
  replace h:=je h;obtain⟨⟨t',l,r⟩,G,h⟩:=h;obtain⟨p,rfl⟩:=avo G;simp only[aq] at h;exact⟨a8h ((jo t hc h.2.1).q h.1) (jo x hc h.2.2.1).v (jo y hc h.2.2.2).v,(λz=>by cases z),λ_ _ _ z=>by cases z⟩
 |.tup es,c,X,a,hc,h=>by
  replace h:=je h;obtain⟨l,G,h⟩:=h;obtain⟨k0,p,rfl⟩:=O1 G;simp only[aq,cu] at h;exact xx (a8i (Dj es hc h.2).1 h.1) rfl
 |.lst es,c,X,a,hc,h=>by
  replace h:=je h;obtain⟨l,G,h⟩:=h;obtain⟨p,rfl⟩:=aio G;simp only[aq,cu] at h;exact xx (a8j (Dj es hc h.2).1 h.1) rfl
 |.Ia es,c,X,a,hc,h=>by
  replace h:=je h;obtain⟨l,G,h⟩:=h;obtain⟨p,rfl⟩:=aio G;simp only[aq,cu] at h;exact xx (a00 (Dj es hc h.2).1 h.1) rfl
 |.afj,c,X,a,hc,h=>by
  replace h:=je h;obtain⟨⟨q,l⟩,G,h⟩:=h;obtain⟨p,rfl⟩:=aip G;simp only[aq,um] at h;obtain⟨rfl,rfl⟩:=h;exact xx a1e rfl
 |.afk,c,X,a,hc,h=>by
  replace h:=je h;obtain⟨⟨q,l⟩,G,h⟩:=h;obtain⟨p,rfl⟩:=aip G;simp only[aq,um] at h;obtain⟨rfl,rfl⟩:=h;exact xx a1f rfl
 |.ix x y,c,X,a,hc,h=>by
  replace h:=je h;obtain⟨⟨l,r⟩,G,h⟩:=h;obtain⟨p,rfl⟩:=abj G;simp only[aq] at h;exact xx (be0 (adh hc.room) (jo x hc h.2.1).v (jo y hc h.2.2).v (ao3 h.1)) rfl
 |.cut x lo hi,c,X,a,hc,h=>by
  replace h:=je h;obtain⟨⟨l,r⟩,G,h⟩:=h;obtain⟨p,rfl⟩:=abj G;replace h:=je h;obtain⟨⟨u,v,st⟩,R,h⟩:=h;obtain⟨p2,e⟩:=a2b R;have e:r=_:=e;subst e;simp only[aq,Option.isNone_iff_eq_none] at h;obtain⟨rfl,h⟩:=h;exact xx (a85 (jo x hc h.1).v (ait lo hc h.2.1) (ait hi hc h.2.2)) rfl
 |.call f es,c,X,a,hc,h=>by
  replace h:=je h;obtain⟨⟨n,ls⟩,G,h⟩:=h;obtain⟨p,p',rfl⟩:=Dl G;simp only[aq] at h;obtain⟨⟨R,h3,h4⟩,h5⟩:=h;obtain⟨l,ls,rfl⟩:=Xa h4;obtain⟨fa,fd,ps,F,m,kp,b⟩:=hc.tab.fn _ _ _ (j9 R);obtain⟨g1,U⟩:=Di hc h3;obtain⟨e1,e2⟩:=Dj es hc h5;simp only[Al,aq] at e2;exact xx (s_call F (hc.room.mono x_) g1 m kp b rfl e1 (qe U).1 (jz e2.1 _ _) (u9 e2.2)) rfl
 |.make f es,c,X,a,hc,h=>by
  replace h:=je h;obtain⟨⟨n,ls⟩,G,h⟩:=h;obtain⟨p,p',rfl⟩:=Dl G;simp only[aq] at h;obtain⟨⟨R,h3,h4⟩,h5⟩:=h;obtain⟨l,ls,rfl⟩:=Xa h4;obtain⟨C,fa,fd,ps,cl,M0,F,m,b,d1,d2⟩:=hc.tab.cl _ _ _ (j9 R);obtain⟨g1,U⟩:=Di hc h3;obtain⟨e1,e2⟩:=Dj es hc h5;simp only[Al,aq] at e2;exact xx (a1b M0 F (hc.room.mono (w_ (by decide))) g1 m b d1 rfl d2 rfl e1 (qe U).1 (jz e2.1 _ _) (u9 e2.2)) rfl
 |.meth o m es,c,X,a,hc,h=>by
  replace h:=je h;obtain⟨⟨lo,n,ap,ls,p⟩,h0,h⟩:=h;cases apy h0;simp only[aq,cu] at h;obtain⟨⟨⟨G,R⟩,h3,h4⟩,h5,h6⟩:=h;obtain⟨C,fa,fd,ps,f,C0,Me,F,b,u,nf⟩:=hc.tab.mt _ _ _ (j9 G);obtain⟨e1,e2⟩:=Dj es hc h6;have g:=jo o hc h5;cases ls with
  |nil =>
   have z:=akv h6;subst z;exact xx (ave (ci:=0) (cl:=⟨0,[]⟩) g.v C0 Me F (hc.room.mono x_) b u nf (aim R rfl h3 h4)) rfl
  |cons l ls =>
   have e3:=e2;simp only[Al,aq] at e3;exact xx (a1c (ci:=0) (cl:=⟨0,[]⟩) g.v C0 Me F (hc.room.mono x_) b u nf rfl e1 (jz e3.1 _ _) (u9 e3.2) (aim R e2 h3 h4)) rfl
 |.fld o f,c,X,a,hc,h=>by
  replace h:=je h;obtain⟨⟨l,n,p⟩,G,h⟩:=h;cases abk G;simp only[aq] at h;obtain⟨t1,t2⟩:=hc.tab.fl _ _ (j9 h.1.1);exact xx (a8l t1 t2 (jo o hc h.2).v (Ip h.1.2)) rfl
 |.blt b es,c,X,a,hc,h=>by
  have Z:(Bx (dCN a) λq=>(decide (a2d b=some q.1)&&(Qx c q.1&&!q.2.isEmpty))&&Hy T es c q.2)=true->Got nm W X a (.blt b es):=λhh=>by clear h;replace hh:=je hh;obtain⟨⟨n,ls⟩,G,h⟩:=hh;obtain⟨p,p',rfl⟩:=Dl G;simp only[aq] at h;obtain⟨⟨R,h3,h4⟩,h5⟩:=h;obtain⟨l,ls,rfl⟩:=Xa h4;obtain⟨e1,e2⟩:=Dj es hc h5;exact xx (a2j hc (j9 R) h3 e1 e2) rfl
  have qv:∀{bb:Blt}{ty:Str}{T0:String}{x:Ex}{bt bi bv:Option Bool},(∀b,bt=some b->PySem.W.kitOne X.K (.type "tuple") (.type T0)=some b)->(∀b,bi=some b->PySem.W.kitOne X.K (.type "int") (.type T0)=some b)->(∀b,bv=some b->PySem.W.kitOne X.K (.type "list") (.type T0)=some b)->(∀d M,MW.rz bb [d] M=MW.isR bt bi bv M d)->X.mg ty=none->bootBuiltins ty=some (.type T0)->(∀l,zr T x c l=true->PE X l (tE nm W X.K x))->ap0 c ty a (zr T x c)=true->Got nm W X a (.blt bb (.cons x .nil)):=λk1 k2 k4 k3 hm hv zw hi=>by obtain⟨l,p,p1,p2,rfl,h3,h4,h5,h6⟩:=avr hi;obtain⟨g1,U⟩:=Di hc h3;obtain⟨g3,g4⟩:=Di hc h4;exact xx (a86 k1 k2 k4 k3 g1 (hc.mg (by decide+kernel)) (by decide+kernel) (qe U).2.2 (qe U).1 g3 hm hv (qe g4).2.2 (qe g4).1 (zw l h6) (jz h5 _ _) (jz rfl _ _) (u9 rfl)) rfl
  match b,es,h,Z with
  |.isList,.cons x .nil,h,_=>exact qv (T0 := "list") (bt:=some false) (bi:=none) (bv:=some true) (λ_ z=>by cases z;exact Ol _ (by decide+kernel)) (λ_ z=>by cases z) (λ_ z=>by cases z;exact R9 _ _) (λ_ _=>rfl) (hc.mg (by decide+kernel)) (by decide+kernel) (λl q=>(jo x hc q).v) h
  |.isTuple,.cons x .nil,h,_=>exact qv (T0 := "tuple") (bt:=some true) (bi:=some false) (bv:=some false) (λ_ z=>by cases z;exact R9 _ _) (λ_ z=>by cases z;exact Ol _ (by decide+kernel)) (λ_ z=>by cases z;exact Ol _ (by decide+kernel)) (λ_ _=>rfl) (hc.mg (by decide+kernel)) (by decide+kernel) (λl q=>(jo x hc q).v) h
  |.isBool,.cons x .nil,h,_=>exact qv (T0 := "bool") (bt:=none) (bi:=some false) (bv:=none) (λ_ z=>by cases z) (λ_ z=>by cases z;exact Ol _ (by decide+kernel)) (λ_ z=>by cases z) (λ_ _=>rfl) (hc.mg (by decide+kernel)) (by decide+kernel) (λl q=>(jo x hc q).v) h
  |.isSeq,.cons x .nil,h,_ =>
   obtain⟨l,p,p1,p2,p3,k0,p4,rfl,h3,h4,h5,h6,h7⟩:=avs (show a2f c a (zr T x c)=true from h);obtain⟨g1,U⟩:=Di hc h3;exact xx (avj (W4 (R9 _ _) (b:=false) (Ol _ (by decide+kernel))) (W4 (a:=false) (Ol _ (by decide+kernel)) (R9 _ _)) (W4 (a:=false) (b:=false) (Ol _ (by decide+kernel)) (Ol _ (by decide+kernel))) g1 (hc.mg (by decide+kernel)) (by decide+kernel) (qe U).2.2 (qe U).1 (Di hc h4).1 (hc.mg (by decide+kernel)) (Di hc h5).1 (hc.mg (by decide+kernel)) (jo x hc h7).v (jz h6 _ _) (u9 rfl)) rfl
  |.isList,.nil,h,Z=>exact Z h|.isTuple,.nil,h,Z=>exact Z h|.isBool,.nil,h,Z=>exact Z h|.isSeq,.nil,h,Z=>exact Z h|.isList,.cons _ (.cons _ _),h,Z=>exact Z h|.isTuple,.cons _ (.cons _ _),h,Z=>exact Z h|.isBool,.cons _ (.cons _ _),h,Z=>exact Z h|.isSeq,.cons _ (.cons _ _),h,Z=>exact Z h|.len,_,h,Z=>exact Z h|.tuple,_,h,Z=>exact Z h|.max,_,h,Z=>exact Z h|.min,_,h,Z=>exact Z h|.dict,_,h,Z=>exact Z h|.list,_,h,Z=>exact Z h|.all,_,h,Z=>exact Z h|.Ca,.nil,h,Z=>exact Z h|.Ca,.cons _ (.cons _ _),h,Z=>exact Z h
  |.Ca,.cons x .nil,h,_ =>
   obtain⟨l,p,p1,p2,p3,rfl,h5,h6,h7,h8⟩:=abl (show ap3 c "sorted" "set" a (zr T x c)=true from h);obtain⟨g1,U⟩:=Di hc h5;obtain⟨g3,g4⟩:=Di hc h6;exact xx (akr hc.r8 g1 (hc.mg (by decide+kernel)) (by decide+kernel) (qe U).2.2 (qe U).1 g3 (hc.mg (by decide+kernel)) (by decide+kernel) (qe g4).2.2 (qe g4).1
    (Jf (jo x hc h8).v Pk (jz h7 _ _)) (jz rfl _ _) (u9 rfl) (jz h7 _ _) (u9 rfl)) rfl
 |.bm m o es,c,X,a,hc,h=>by
  replace h:=je h;obtain⟨⟨lo,n,ap,ls,p⟩,h0,h⟩:=h;cases apy h0;simp only[aq,cu] at h;obtain⟨⟨⟨G,R⟩,h3,h4,zv⟩,h5,h6⟩:=h;obtain⟨l,ls,rfl⟩:=Xa zv;obtain⟨e1,e2⟩:=Dj es hc h6;have e3:=e2;simp only[Al,aq] at e3;have q5:((backTo p (starEach (l::ls) X.env)).all (λx=>!x.1)&&(backToKw p (keywordEach [] X.env)).all (λx=>x.1.isSome)&&decide ((l::ls).length+([]:List Keyword).length+(if([]:List Keyword).isEmpty then 0 else 1)<30))=true:=by rw[W8 e2];simp[keywordEach,backToKw];simp at h3;exact b_ h3 (by decide)
  have g:=jo o hc h5;cases m with
  |append=>cases G;exact xx (a1k (T := "list") (id := "list.append") (fun ι H M x v S r t=>ty_list (.inl rfl) S r t) PySem.F.plainAttrs_list PySem.F.slot_list_append PySem.F.type_list_append apg g.v e1 (Ip R) q5 h4 (jz e3.1 _ _) (u9 e3.2)) rfl
  |index=>cases G;exact xx (a1k (T := "list") (id := "list.index") (fun ι H M x v S r t=>ty_list (.inr rfl) S r t) PySem.F.plainAttrs_list PySem.F.slot_list_index PySem.F.type_list_index (auv hc.r8) g.v e1 (Ip R) q5 h4 (jz e3.1 _ _) (u9 e3.2)) rfl
  |get=>cases G;exact xx (a1k (T := "dict") (id := "dict.get") (fun ι H M x v S r t=>ty_dict S r t) PySem.F.plainAttrs_dict PySem.F.slot_dict_get PySem.F.type_dict_get (a9g (adh hc.room)) g.v e1 (Ip R) q5 h4 (jz e3.1 _ _) (u9 e3.2)) rfl
 |.comp v j t it e,c,X,a,hc,h=>by
  replace h:=je h;obtain⟨⟨zz,gs,sc⟩,G,h⟩:=h;obtain⟨p,rfl⟩:=W9 G;replace h:=je h;obtain⟨⟨tg,q7,q8,as⟩,R,h⟩:=h;cases Az R;simp only[aq,um] at h;obtain⟨⟨h3,rfl⟩,h4,h5⟩:=h;obtain⟨q1,q2,B,hB,hg,q3,q4⟩:=Sg hc h3;cases q2;exact xx (a1a B hc.calm (Sh it hc h4) hg (λC fp s H=>(jo e (hB C fp s H) h5).v) q1 q3 q4) rfl
 |.Cj v j t it i e,c,X,a,hc,h=>by
  replace h:=je h;obtain⟨⟨zz,gs,sc⟩,G,h⟩:=h;obtain⟨p,rfl⟩:=W9 G;replace h:=je h;obtain⟨⟨tg,q7,q8,as⟩,R,h⟩:=h;cases Az R;replace h:=je h;obtain⟨d,h6,h⟩:=h;cases Az h6;simp only[aq] at h;obtain⟨⟨h3,h7⟩,h4,h8,h5⟩:=h;obtain⟨q1,q2,B,hB,hg,q3,q4⟩:=Sg hc h3;cases q2;exact xx (ao8 B hc.calm (Sh it hc h4) hg (λC fp s H=>(jo i (hB C fp s H) h8).q h7) (λC fp s H=>(jo e (hB C fp s H) h5).v) q1 q3 q4) rfl
 |.V0 x y,c,X,a,hc,h=>by
  replace h:=je h;obtain⟨⟨l0,o,r0⟩,G,h⟩:=h;obtain⟨p,rfl⟩:=abi G;replace h:=je h;obtain⟨o1,R,h⟩:=h;replace h:=je h;obtain⟨r1,h3,h⟩:=h;cases Az R;cases Az h3;replace h:=je h;obtain⟨⟨n,ls⟩,h4,h⟩:=h;replace h:=je h;obtain⟨⟨m,ms⟩,h5,h⟩:=h;replace h:=je h;obtain⟨l,h6,h⟩:=h;replace h:=je h;obtain⟨r,h7,h⟩:=h;cases Az h6;cases Az h7;obtain⟨p1,q1,e1⟩:=Dl h4;obtain⟨p2,q2,e2⟩:=Dl h5;have e1:l0=_:=e1;subst e1 e2;simp only[aq,cu] at h;obtain⟨⟨⟨rfl,rfl⟩,rfl,h8⟩,⟨h9,qq⟩,qk,q6⟩:=h;obtain⟨g1,U⟩:=Di hc h8;have z:=aur (nm:=nm) (W:=W) (p1:=p1) (p2:=p2) (q1:=q1) (q2:=q2) hc.r8 g1 (hc.mg (by decide+kernel)) (by decide+kernel) (qe U).2.2 (qe U).1 (Jf (jo x hc qk).v Pk (jz h9 _ _)) (Jf (jo y hc q6).v Pk (jz qq _ _)) (jz h9 _ _) (jz qq _ _) (u9 rfl) (u9 rfl);exact⟨azq z,λ_=>auj (azr z) λ_ _ _ q=>q,λ_ _ _ z=>by cases z⟩
 |.J9 v x y,c,X,a,hc,h=>by
  replace h:=je h;obtain⟨⟨n0,z1⟩,h0,h⟩:=h;replace h:=je h;obtain⟨z,zk,h⟩:=h;cases Az zk;replace h:=je h;obtain⟨⟨l0,o,r0⟩,G,h⟩:=h;obtain⟨p0,q0,rfl⟩:=Dl h0;obtain⟨pb,rfl⟩:=ain G;replace h:=je h;obtain⟨⟨n,ls⟩,h4,h⟩:=h;replace h:=je h;obtain⟨⟨m,ms⟩,h5,h⟩:=h;replace h:=je h;obtain⟨l,h6,h⟩:=h;replace h:=je h;obtain⟨r,h7,h⟩:=h;cases Az h6;cases Az h7;obtain⟨p1,q1,e1⟩:=Dl h4;obtain⟨p2,q2,e2⟩:=Dl h5;have e1:l0=_:=e1;have e2:r0=_:=e2;subst e1 e2;simp only[aq,cu] at h;obtain⟨⟨⟨rfl,h8,rfl⟩,rfl,rfl,z0⟩,⟨h9,qq⟩,qk,q6⟩:=h;obtain⟨g1,U⟩:=Di hc h8;obtain⟨g3,g4⟩:=Di hc z0;exact xx (apq (v:=v) hc.r8 g1 (hc.mg (by decide+kernel)) (by decide+kernel) (qe U).2.2 (qe U).1 g3 (hc.mg (by decide+kernel)) (by decide+kernel) (qe g4).2.2 (qe g4).1 (Jf (jo x hc qk).v Pk (jz h9 _ _)) (Jf (jo y hc q6).v Pk (jz qq _ _)) (jz rfl _ _) (u9 rfl) (jz h9 _ _) (u9 rfl) (jz qq _ _) (u9 rfl)) rfl
 |.afm x,c,X,a,hc,h=>by
  obtain⟨l,p,p1,p2,p3,rfl,h5,h6,h7,h8⟩:=abl h;obtain⟨g1,U⟩:=Di hc h5;obtain⟨g3,g4⟩:=Di hc h6;exact xx (a1o hc.r8 g1 (hc.mg (by decide+kernel)) (by decide+kernel) (qe U).2.2 (qe U).1 g3 (hc.mg (by decide+kernel)) (by decide+kernel) (qe g4).2.2 (qe g4).1
   (Jf (jo x hc h8).v Pk (jz h7 _ _)) (jz rfl _ _) (u9 rfl) (jz h7 _ _) (u9 rfl)) rfl
 |.afn x,c,X,a,hc,h=>by
  obtain⟨l,p,p1,p2,p3,rfl,h5,h6,h7,h8⟩:=abl h;obtain⟨g1,U⟩:=Di hc h5;obtain⟨g3,g4⟩:=Di hc h6;exact xx (a1s hc.r8 g1 (hc.mg (by decide+kernel)) (by decide+kernel) (qe U).2.2 (qe U).1 g3 (hc.mg (by decide+kernel)) (by decide+kernel) (qe g4).2.2 (qe g4).1
   (Jf (jo x hc h8).v Pk (jz h7 _ _)) (jz rfl _ _) (u9 rfl) (jz h7 _ _) (u9 rfl)) rfl
theorem Dj:∀(es:Dg){c:Ctx}{X:Cx}{a:X0},Ej T nm W k c X->Hy T es c a=true->PA X a (Vd nm W X.K es)/\Al a=true
 |.nil,c,X,a,hc,h=>by
  cases um.mp h;exact⟨Pk,rfl⟩
 |.cons e es,c,X,a,hc,h=>by
  cases a with
  |nil=>cases h
  |cons l Z =>
   replace h:(noStar l&&(zr T e c l&&Hy T es c Z))=true:=h;simp only[aq] at h;obtain⟨G,U⟩:=Dj es hc h.2.2;exact⟨Jf (jo e hc h.2.1).v G (jz h.1 _ _),by simp only[Al,aq];exact⟨h.1,U⟩⟩
theorem ait:∀(e:OEx){c:Ctx}{X:Cx}{a:Option Expr},Ej T nm W k c X->a2g T e c a=true->PO X a (tO nm W X.K e)
 |.none,c,X,a,hc,h=>by
  cases Option.isNone_iff_eq_none.mp h;exact au1
 |.some e,c,X,a,hc,h=>by
  replace h:=je h;obtain⟨l,rfl,h⟩:=h;exact au2 (jo e hc h).v
theorem Sh:∀(it:Qv){c:Ctx}{X:Cx}{Z a:Expr},Ej T nm W k c X->avt T it c Z a=true->PI X Z a (tI nm W X.K it)
 |.val e,c,X,Z,a,hc,h=>a8s (jo e hc h).v
 |.Ln e,c,X,Z,a,hc,h=>by
  replace h:=je h;obtain⟨⟨n,ls⟩,R,h⟩:=h;obtain⟨p,p',rfl⟩:=Dl R;replace h:=je h;obtain⟨l,h2,h⟩:=h;cases Az h2;simp only[aq,cu] at h;obtain⟨⟨rfl,G⟩,h4,U⟩:=h;exact a8t (Di hc G).1 (hc.mg (by decide+kernel)) (jo e hc U).v h4
 |.enm e,c,X,Z,a,hc,h=>by
  replace h:=je h;obtain⟨⟨n,ls⟩,R,h⟩:=h;obtain⟨p,p',rfl⟩:=Dl R;replace h:=je h;obtain⟨l,h2,h⟩:=h;cases Az h2;simp only[aq,cu] at h;obtain⟨⟨h6,rfl,G⟩,h4,U⟩:=h;obtain⟨ts,h7⟩:=qy.mp h6;obtain⟨k0,pt,rfl⟩:=O1 h7;exact a9d (Di hc G).1 (hc.mg (by decide+kernel)) (jo e hc U).v h4
 |.zip es,c,X,Z,a,hc,h=>by
  replace h:=je h;obtain⟨⟨n,ls⟩,R,h⟩:=h;obtain⟨p,p',rfl⟩:=Dl R;simp only[aq,cu] at h;obtain⟨⟨h6,rfl,G,h4⟩,U,h7⟩:=h;obtain⟨l,ls,rfl⟩:=Xa h4;obtain⟨e1,e2⟩:=Dj es hc h7;obtain⟨ts,h9⟩:=qy.mp h6;obtain⟨k0,pt,rfl⟩:=O1 h9;simp only[Al,aq] at e2;obtain⟨f1,f2⟩:=e2;exact a9e (Di hc G).1 (hc.mg (by decide+kernel)) e1 (jz f1 _ _) (u9 f2) U
end
end
noncomputable def a9o(e:Ex):Option {b:Bool // (∃v j t it x,e=.comp v j t it x)\/∃v j t it i x,e=.Cj v j t it i x}:=match e with|.comp ..=>some ⟨true,.inl ⟨_,_,_,_,_,rfl⟩⟩|.Cj ..=>some ⟨true,.inr ⟨_,_,_,_,_,_,rfl⟩⟩|_=>none
noncomputable def a2k(T:Tab)(c:Ctx)(l:Lv)(e:Ex)(Z v:Expr):Bool :=
 match l with
 |.tg t=>(tgB c 0 t Z&&((T8 v&&((Lf Z).isSome||axr v))||(match t with|.name _=>(aeh v).isSome&&(a9o e).isSome|_=>false)))&&zr T e c v
 |.sub o i=>Bx (apt Z) λq=>aa9 q.2&&(zr T e c v&&(zr T o c q.1&&zr T i c q.2))
 |.fld o f=>Bx (apv Z) λq=>(T8 v&&flB T.Qp f q.2.1)&&(zr T e c v&&zr T o c q.1)
noncomputable def a9p(a:Stmt):Option (List Expr×Expr):=Option.map Subtype.val (α:={q:List Expr×Expr // ∃p,a=.Assign q.1 q.2 p}) (match a with|.Assign t v p=>some ⟨(t,v),p,rfl⟩|_=>none)
noncomputable def a9q(a:Stmt):Option Expr:=Option.map Subtype.val (α:={q:Expr // ∃p,a=.Expr q p}) (match a with|.Expr v p=>some ⟨v,p,rfl⟩|_=>none)
noncomputable def a9r(a:Stmt):Option (Expr×List Stmt×List Stmt):=Option.map Subtype.val (α:={q:Expr×List Stmt×List Stmt // ∃p,a=.If q.1 q.2.1 q.2.2 p}) (match a with|.If t l r p=>some ⟨(t,l,r),p,rfl⟩|_=>none)
noncomputable def a9s(a:Stmt):Option (Expr×List Stmt×List Stmt):=Option.map Subtype.val (α:={q:Expr×List Stmt×List Stmt // ∃p,a=.While q.1 q.2.1 q.2.2 p}) (match a with|.While t l r p=>some ⟨(t,l,r),p,rfl⟩|_=>none)
noncomputable def a9t(a:Stmt):Option (Expr×Expr×List Stmt×List Stmt):=Option.map Subtype.val (α:={q:Expr×Expr×List Stmt×List Stmt // ∃p,a=.For q.1 q.2.1 q.2.2.1 q.2.2.2 p}) (match a with|.For t i l r p=>some ⟨(t,i,l,r),p,rfl⟩|_=>none)
noncomputable def a9u(a:Stmt):Option (Option Expr):=Option.map Subtype.val (α:={q:Option Expr // ∃p,a=.Return q p}) (match a with|.Return v p=>some ⟨v,p,rfl⟩|_=>none)
noncomputable def avu(a:Stmt):Option Nat:=Option.map Subtype.val (α:={n:Nat // (n=0/\∃p,a=.Break p)\/(n=1/\∃p,a=.Continue p)\/(n=2/\∃p,a=.Pass p)}) (match a with|.Break p=>some ⟨0,.inl ⟨rfl,p,rfl⟩⟩|.Continue p=>some ⟨1,.inr (.inl ⟨rfl,p,rfl⟩)⟩|.Pass p=>some ⟨2,.inr (.inr ⟨rfl,p,rfl⟩)⟩|_=>none)
def avv(h:a9p a=some (t,v)):∃p,a=.Assign t v p:=(Xr h :)
def avw(h:a9q a=some v):∃p,a=.Expr v p:=(Xr h :)
def avx(h:a9r a=some (t,l,r)):∃p,a=.If t l r p:=(Xr h :)
def avy(h:a9s a=some (t,l,r)):∃p,a=.While t l r p:=(Xr h :)
def avz(h:a9t a=some (t,i,l,r)):∃p,a=.For t i l r p:=(Xr h :)
def av0(h:a9u a=some v):∃p,a=.Return v p:=(Xr h :)
def abm(h:avu a=some n):(n=0/\∃p,a=.Break p)\/(n=1/\∃p,a=.Continue p)\/(n=2/\∃p,a=.Pass p):=(Xr h :)
mutual
noncomputable def a2l(T:Tab):Cm->Ctx->Stmt->Bool
 |.asg l e,c,a=>Bx (a9p a) λq=>Bx (Lh q.1) λt=>a2k T c l e t q.2
 |.expr e,c,a=>Bx (a9q a) λv=>T8 v&&zr T e c v
 |.iff t x y,c,a=>Bx (a9r a) λq=>Sd q.1&&(zr T t c q.1&&(U5 T x c q.2.1&&U5 T y c q.2.2))
 |.whl t x,c,a=>Bx (a9s a) λq=>(Sd q.1&&q.2.2.isEmpty)&&(zr T t c q.1&&U5 T x c q.2.1)
 |.for_ t it x,c,a=>Bx (a9t a) λq=>(tgB c 0 t q.1&&(Gv q.2.1&&q.2.2.2.isEmpty))&&(avt T it c q.1 q.2.1&&U5 T x c q.2.2.1)
 |.ret e,c,a=>Bx (a9u a) λv=>Bx v (zr T e c)
 |.ash,_,_=>false|.brk,_,a=>decide (avu a=some 0)|.cont,_,a=>decide (avu a=some 1)|.pass,_,a=>decide (avu a=some 2)|.raise _ _,_,_=>true
noncomputable def U5(T:Tab):ph->Ctx->List Stmt->Bool
 |.nil,_,a=>a.isEmpty|.cons s r,c,a=>match a with|st::rest=>a2l T s c st&&U5 T r c rest|_=>false
end
noncomputable def swB(c:Ctx)(t:Str)(pt vp:Pos)(sc:Scope):Bool:=(c.sc.lookup t==some NameKind.local&&pt.line==vp.line)&&!(sc.names.any λy=>y.1==t&&(y.2==.local||y.2==.cell))
def agp(Z:Ej T nm W k c X):swapsWith (.ListComp elt gs sc vp) (some (.Name t pt)) l X.env=pure (swB c t pt vp sc):=by
 have b:X.env.blockKind=.function:=by unfold Env.blockKind;rw[Z.kd];rfl
 show(pure (X.env.blockKind==.function&&X.env.kindOf t==some .local&&pt.line==vp.line&&!(sc.names.any λ(n,k)=>n==t&&(k==.local||k==.cell))):Sem Bool)=_;rw[b];unfold Env.kindOf;rw[Z.sc];simp[swB]
def ap7(Z:Ej T nm W k c X)(ht:tgB c 0 (.name i) tg=true)(hv:(aeh v).isSome=true)(hw:(a9o e).isSome=true)(h:zr T e c v=true):PS X (.Assign [tg] v p) (tS nm W X.K (.asg (.tg (.name i)) e)):=by
 have nd:X.N.Nodup:=by rw[Z.N];exact Z.nd
 obtain⟨⟨elt,gs,sc⟩,hq⟩:=qy.mp hv;obtain⟨y,py,rfl,hy,_⟩:=agn (nm:=nm) (W:=W) (k:=k) (T:=T) Z ht;obtain⟨⟨_,co⟩,_⟩:=qy.mp hw;obtain⟨vp,rfl⟩:=W9 hq;have R:=λl=>agp (T:=T) (nm:=nm) (W:=W) (k:=k) Z (elt:=elt) (gs:=gs) (sc:=sc) (vp:=vp) (pt:=py) (t:=y) (l:=l)
 cases hs:swB c y py vp sc with
 |false =>
  rw[hs] at R;exact ao4 (jo e Z h).v (air Z ht).1 (R p.line) rfl rfl
 |true =>
  rw[hs] at R;simp only[swB,aq] at hs;have hl:X.env.scope.names.lookup y=some .local:=by rw[Z.sc];have:=hs.1.1;simpa using this
  rcases co with⟨v,j,t,it,x,rfl⟩|⟨v,j,t,it,i',x,rfl⟩
  .replace h:=je h
   obtain⟨⟨q0,qk,qv⟩,h1,h⟩:=h;cases h1;replace h:=je h;obtain⟨⟨tg,U,qq,as⟩,h2,h⟩:=h;cases Az h2;simp only[aq,um] at h;obtain⟨⟨h3,rfl⟩,h4,h5⟩:=h;obtain⟨q1,q2,B,hB,hg,q3,q4⟩:=Sg Z h3;cases q2;exact akk B Z.calm (Sh it Z h4) hg (λC G s H=>(jo x (hB C G s H) h5).v) q1 q3 q4 nd hy hl (R p.line)
  .replace h:=je h
   obtain⟨⟨q0,qk,qv⟩,h1,h⟩:=h;cases h1;replace h:=je h;obtain⟨⟨tg,U,qq,as⟩,h2,h⟩:=h;cases Az h2;replace h:=je h;obtain⟨d,h6,h⟩:=h;cases Az h6;simp only[aq] at h;obtain⟨⟨h3,h7⟩,h4,h8,h5⟩:=h;obtain⟨q1,q2,B,hB,hg,q3,q4⟩:=Sg Z h3;cases q2;exact adu B Z.calm (Sh it Z h4) hg (λC G s H=>(jo i' (hB C G s H) h8).q h7) (λC G s H=>(jo x (hB C G s H) h5).v) q1 q3 q4 nd hy hl (R p.line)
section
variable{T:Tab}{nm:Nm}{W:G5}{k:Nat}
def av1(Z:Ej T nm W k c X)(h:a2k T c l e tg v=true):PS X (.Assign [tg] v p) (tS nm W X.K (.asg l e)):=by
 cases l with
 |tg t =>
  simp only[a2k,aq,Bool.or_eq_true] at h;obtain⟨⟨h1,h2⟩,U⟩:=h;rcases h2 with⟨G,R⟩|G
  .have g:=air (nm:=nm) Z h1
   have sh:(∃n q,tg=.Name n q)\/∃ts k0 q,tg=.Tuple ts k0 q:=by
    cases t with
    |name i =>
     obtain⟨n,z1,_⟩:=je h1;exact .inl ⟨n,Ga z1⟩
    |names is =>
     obtain⟨ts,z1,_⟩:=je h1;exact .inr ⟨ts,O1 z1⟩
   rcases sh with⟨n,q,rfl⟩|⟨ts,k0,q,rfl⟩
   .exact ao4 (jo e Z U).v g.1 (Wv G _ _ _) rfl rfl
   .have w:axr v=true:=by
     rcases R with R|R
     .cases R
     .exact R
    have w2:swappedStores [.Tuple ts k0 q] v X.env=pure none:=by cases v<;>first|rfl|(cases w;done)
    exact ao4 (jo e Z U).v g.1 (Wv G _ _ _) w2 rfl
  .cases t with
   |name i=>rw[aq] at G;exact ap7 Z h1 G.1 G.2 U|names _=>cases G
 |sub o i =>
  replace h:=je (show Bx (apt tg) _=true from h);obtain⟨⟨lo,li⟩,h0,h⟩:=h;obtain⟨p',rfl⟩:=abj h0;simp only[aq] at h;obtain⟨h2,U,G,R⟩:=h;refine apa (adh Z.room) (jo e Z U).v (jo o Z G).v (jo i Z R).v λv=>?_
  cases li<;>first|rfl|(cases h2;done)
 |fld o f =>
  replace h:=je (show Bx (apv tg) _=true from h);obtain⟨⟨lo,n,p'⟩,h0,h⟩:=h;cases abk h0;simp only[aq] at h;obtain⟨⟨h1,h2⟩,U,G⟩:=h;obtain⟨t1,t2⟩:=Z.tab.fl _ _ (j9 h2);exact apb t1 t2 (jo e Z U).v (jo o Z G).v h1
mutual
theorem av2:∀(s:Cm){c:Ctx}{X:Cx}{a:Stmt},Ej T nm W k c X->c.fn=true->a2l T s c a=true->PS X a (tS nm W X.K s)
 |.asg l e,c,X,a,hc,hf,h=>by
  replace h:=je h;obtain⟨⟨ts,v⟩,Z,h⟩:=h;obtain⟨p,rfl⟩:=avv Z;replace h:=je h;obtain⟨t,G,h⟩:=h;cases Az G;exact av1 hc h
 |.expr e,c,X,a,hc,hf,h=>by
  replace h:=je h;obtain⟨v,Z,h⟩:=h;obtain⟨p,rfl⟩:=avw Z;simp only[aq] at h;exact a03 (jo e hc h.2).v (Og h.1 _ _ _)
 |.iff t x y,c,X,a,hc,hf,h=>by
  replace h:=je h;obtain⟨⟨q,l,r⟩,Z,h⟩:=h;obtain⟨p,rfl⟩:=avx Z;simp only[aq] at h;exact a8o ((jo t hc h.2.1).q h.1) (Jz x hc hf h.2.2.1) (Jz y hc hf h.2.2.2)
 |.whl t x,c,X,a,hc,hf,h=>by
  replace h:=je h;obtain⟨⟨q,l,r⟩,Z,h⟩:=h;obtain⟨p,rfl⟩:=avy Z;simp only[aq,um] at h;obtain⟨⟨G,rfl⟩,U,R⟩:=h;exact a8p (hc.fnl hf).2 ((jo t hc U).q G) (Jz x hc hf R)
 |.for_ t it x,c,X,a,hc,hf,h=>by
  replace h:=je h;obtain⟨⟨tg,qq,l,r⟩,Z,h⟩:=h;obtain⟨p,rfl⟩:=avz Z;simp only[aq,um] at h;obtain⟨⟨G,U,rfl⟩,R,h5⟩:=h;exact a8r (hc.fnl hf).2 hc.calm (Sh it hc R) (air hc G).1 (Jz x hc hf h5) U
 |.ret e,c,X,a,hc,hf,h=>by
  replace h:=je h;obtain⟨v,Z,h⟩:=h;obtain⟨p,rfl⟩:=av0 Z;replace h:=je h;obtain⟨w,rfl,h⟩:=h;exact a8m (jo e hc h).v
 |.ash,c,X,a,hc,hf,h=>by cases h
 |.brk,c,X,a,hc,hf,h=>by
  rcases abm (j9 h) with⟨_,p,rfl⟩|⟨z,_⟩|⟨z,_⟩
  .exact a8n
  .cases z
  .cases z
 |.cont,c,X,a,hc,hf,h=>by
  rcases abm (j9 h) with⟨z,_⟩|⟨_,p,rfl⟩|⟨z,_⟩
  .cases z
  .exact a05
  .cases z
 |.pass,c,X,a,hc,hf,h=>by
  rcases abm (j9 h) with⟨z,_⟩|⟨z,_⟩|⟨_,p,rfl⟩
  .cases z
  .cases z
  .exact a04
 |.raise _ _,c,X,a,hc,hf,h=>avf
theorem Jz:∀(s:ph){c:Ctx}{X:Cx}{a:List Stmt},Ej T nm W k c X->c.fn=true->U5 T s c a=true->Rr X a (tSs nm W X.K s)
 |.nil,c,X,a,hc,hf,h=>by
  cases um.mp h;exact a06
 |.cons s r,c,X,a,hc,hf,h=>by
  cases a with
  |nil=>cases h
  |cons st Z =>
   replace h:(a2l T s c st&&U5 T r c Z)=true:=h;simp only[aq] at h;exact aun (av2 s hc hf h.1) (Jz r hc hf h.2)
end
end
structure Def where
 x:Str
 qual:Str
 N:List Str
 ps:List Str
noncomputable def scB(N Z:X9)(sc:Scope):Bool :=
 (decide (sc.kind=.function)&&(!sc.isCoroutine&&!sc.isGenerator))&&((decide N.Nodup&&decide (N.take Z.length=Z)) &&
 (Z.all (λx=>sc.names.lookup x==some .local||sc.names.lookup x==some .cell)&&sc.names.all (λy=>!(y.2==NameKind.free))))
def a2m(h:scB N ps sc=true):Vl N ps sc:=by simp only[scB,aq,cu,Bool.not_eq_true',jb] at h;obtain⟨⟨h1,h2,Z⟩,⟨R,U⟩,G,h7⟩:=h;exact⟨h1,h2,Z,R,U,λx m=>by have:=G x m;simpa using this,λy m=>by have:=h7 y m;simpa using this⟩
noncomputable def akx(T:Tab)(d:Def)(F:MW.Fn)(st:Stmt):Bool :=
 (scB d.N d.ps (Bf st)&&(decide (F.np=d.ps.length)&&decide (F.ns=d.N.length)))&&U5 T F.body ⟨d.N,(Bf st).names,true,[]⟩ (Fv st)
set_option tactic.hygienic true in
def av3{F:MW.Fn}(h:F.run W ds M=.ok d M'):ds.length=F.np/\∃Y Z,F.body.den W (ds.map some++List.replicate (F.ns-F.np) none) M=.ok (Y,Z) M'/\(Y=.ret d\/(Y=.next/\d=.non)):=by
 unfold MW.Fn.run at h;split at h
 .rename_i J
  obtain⟨⟨Y,Z⟩,U,G,e⟩:=dz h;refine⟨J,Y,Z,?_⟩;cases Y with
  |ret z=>cases e;exact⟨G,.inl rfl⟩|next=>cases e;exact⟨G,.inr ⟨rfl,rfl⟩⟩|brk=>cases e|cont=>cases e
 .cases h
def a2n{IR:MW.Prog}(U:Fun K d.x d.qual st f fd)(hF:IR.fns[i]?=some F)(h:akx T d F st=true)(hT:apr T nm ⟨IR.call n,IR.cls⟩ k P w K mg base):Ff P w K mg base CX0 (k+17) f fd d.ps (spF nm ⟨IR.call (n+1),IR.cls⟩ K F.np i):=by
 simp only[akx,aq,cu] at h;obtain⟨⟨h1,h2,h3⟩,h4⟩:=h;have S:=a2m h1;have go:∀G M R M',MW.G5.call ⟨IR.call (n+1),IR.cls⟩ i G M=.ok R M'->F.run ⟨IR.call n,IR.cls⟩ G M=.ok R M':=λG M R M' e=>by have e:IR.call (n+1) i G M=.ok R M':=e;unfold MW.Prog.call at e;rw[hF] at e;exact e
 refine U.ok (k:=k+16) S (λvs H Q E ⟨ι,M,G,R,M',_,r,l,e,_⟩=>by rw[<- r.length,l,h2]) (λqk A Z s H vs Q E hr z_=>?_);obtain⟨ι,M,G,R,M',SM,r,l,e,q⟩:=z_;have hc:Ej T nm ⟨IR.call n,IR.cls⟩ k ⟨d.N,(Bf st).names,true,[]⟩ (agb CX0 P w K mg base d.N d.qual (Bf st) f qk A Z s H E).nox :=
  ⟨rfl,S.nd,rfl,S.kind,rfl,hr,λ_=>⟨λ_=>rfl,PassesOwn.never⟩,hT,λn h=>by cases h⟩
 refine⟨_,Jz F.body hc rfl h4,?_⟩;obtain⟨hl,fl,qv,e1,e2⟩:=av3 (go _ _ _ _ e);refine⟨ι,_,M,fl,qv,M',SM,?_,e1,fun qq H' q0 le S' R'=>?_⟩
 .unfold L2.start
  exact(v9.aoz r).append (v9.aoy _ (by rw[List.length_replicate,h3,<- r.length,l]))
 .rcases e2 with rfl|⟨rfl,rfl⟩
  .exact λv rv=>q qq H' v le S' rv
  .exact q qq H' _ le S' .non
theorem aiu{nm:Nm}{P:Program}{w:World}{K:Fg}{mg:Zs}{base:Heap}{IR:MW.Prog}{T:Tab}{D:Nat->Def}{st:Nat->Stmt}{fa:Nat->Addr}{fd:Nat->FuncData}
 (U:∀i,i<IR.fns.length->Fun K (D i).x (D i).qual (st i) (fa i) (fd i)) (h:∀i F,IR.fns[i]?=some F->akx T (D i) F (st i)=true)
 (G:∀n,(∀i F,IR.fns[i]?=some F->Ff P w K mg base CX0 (17*n) (fa i) (fd i) (D i).ps (spF nm ⟨IR.call n,IR.cls⟩ K F.np i))->apr T nm ⟨IR.call n,IR.cls⟩ (17*n) P w K mg base) :
 ∀n i F,IR.fns[i]?=some F->Ff P w K mg base CX0 (17*n) (fa i) (fd i) (D i).ps (spF nm ⟨IR.call n,IR.cls⟩ K F.np i)
 |0,i,F,hF=>⟨(λvs H Q E ⟨ι,M,ds,d',M',_,r,l,e,_⟩=>by cases e),λA Z s H R us vs Q E hr he hb hv ⟨ι,M,ds,d',M',_,r,l,e,_⟩=>by cases e⟩
 |n+1,i,F,hF=>a2n (U i (ak.mp hF).1) hF (h i F hF) (G n (aiu U h G n))
noncomputable def a2o(s:Str):Bool:=s.cps[0]?==some 0
noncomputable def ap8(Z:X9):Bool:=decide Z.Nodup&&Z.all λs=>!a2o s
noncomputable def ael(Z:X9)(i:Nat):Str:=match Z[i]? with|some s=>s|none=>⟨#[0,0,i]⟩
def ap9(h:ap8 Qp=true)(i j:Nat)(e:ael Qp i=ael Qp j):i=j:=by
 simp only[ap8,aq,cu,jb] at h;have Z:∀k,a2o ⟨#[0,0,k]⟩=true:=λk=>rfl
 unfold ael at e;cases hi:Qp[i]? with
 |some a =>
  rw[hi] at e;cases hj:Qp[j]? with
  |some b =>
   rw[hj] at e;have e:a=b:=e;subst e;obtain⟨l1,G⟩:=ak.mp hi;obtain⟨R,U⟩:=ak.mp hj;exact(Ba h.1).mp (G.trans U.symm)
  |none =>
   rw[hj] at e;have e:a=⟨#[0,0,j]⟩:=e;have:=h.2 a (az hi);rw[e,Z] at this;cases this
 |none =>
  rw[hi] at e;cases hj:Qp[j]? with
  |some b =>
   rw[hj] at e;have e:(⟨#[0,0,i]⟩:Str)=b:=e;have:=h.2 b (az hj);rw[<- e,Z] at this;cases this
  |none =>
   rw[hj] at e;have e:(⟨#[0,0,i]⟩:Str)=⟨#[0,0,j]⟩:=e;simpa using e
noncomputable def a2p(Z:List (Option Addr))(G:X9)(h:ap8 G=true):Nm:=⟨λc=>(Z[c]?).join,ael G,ap9 h⟩
noncomputable def aqa(Z:X9)(x:Str):Bool:=!(Z.contains x)&&!a2o x
def aqb(h:aqa Qp x=true)(i:Nat):ael Qp i≠x:=λe=>by
 simp only[aqa,aq,Bool.not_eq_true'] at h;unfold ael at e;cases hi:Qp[i]? with
 |some a =>
  rw[hi] at e;have e:a=x:=e;rw[<- e] at h;have:=List.contains_iff_mem.mpr (az hi);rw[this] at h;cases h.1
 |none =>
  rw[hi] at e;have e:(⟨#[0,0,i]⟩:Str)=x:=e;rw[<- e] at h;cases h.2
section
variable(K:Fg)(mg:Zs)
noncomputable def abn:List Def->List Stmt->List Addr->List FuncData->Prop
 |d::ds,s::ss,a::as,f::fs=>(Fun K d.x d.qual s a f/\Binds K f d.ps [])/\abn ds ss as fs|[],[],[],[]=>True|_,_,_,_=>False
noncomputable def Ub:List (Option (Str×Nat))->List Addr->Prop
 |some p::r,a::as=>mg p.1=some (.ref a)/\Ub r as|none::r,_::as=>Ub r as|_,_=>True
noncomputable def aem(C:Addr)(Z:List (Str×Nat))(G:Xt):List (Nat×Nat)->Prop
 |q::r=>(∃p a,Z[q.1]?=some p/\G[q.2]?=some a/\Meth K C p.1 a)/\aem C Z G r|[]=>True
noncomputable def abo(C:Addr):List Str->Prop
 |x::r=>Gn K C x/\abo C r|[]=>True
structure ClF(T:Tab)(Li:Xt)(x:Str)(C:Addr)(cl:MW.Cl):Prop where
 mg:mg x=some (.ref C)
 cs:Cls K C
 ini:∃f,Li[cl.init]?=some f/\Mk K C f
 me:aem K C T.mts Li cl.meths
 na:abo K C T.Qp
noncomputable def Om(T:Tab)(Z:Xt):List (Option (Str×Nat))->List (Option Addr)->List MW.Cl->Prop
 |some p::r,some C::cs,cl::cls=>ClF K mg T Z p.1 C cl/\Om T Z r cs cls|none::r,none::cs,_::cls=>Om T Z r cs cls|[],[],[]=>True|_,_,_=>False
noncomputable def abp:List (Str×Int)->Prop
 |p::r=>(∃t,mg p.1=some (.int p.2 t))/\abp r|[]=>True
noncomputable def AllB:List Str->Prop
 |x::r=>mg x=none/\AllB r|[]=>True
end
theorem abn.get{K:Fg}:∀{ds:List Def}{Z:List Stmt}{as:Xt}{fs:List FuncData}{i:Nat}{d:Def},abn K ds Z as fs->ds[i]?=some d->∃s a f,Z[i]?=some s/\as[i]?=some a/\fs[i]?=some f/\Fun K d.x d.qual s a f/\Binds K f d.ps []
 |d::ds,s::Z,a::as,f::fs,0,d',h,e=>by cases e;exact⟨s,a,f,rfl,rfl,rfl,h.1⟩
 |d::ds,s::Z,a::as,f::fs,i+1,d',h,e=>by
  obtain⟨s',U,f',h1,h2,G,R⟩:=abn.get (i:=i) h.2 (by simpa using e);exact⟨s',U,f',by simpa using h1,by simpa using h2,by simpa using G,R⟩
theorem Ub.get{mg:Zs}:∀{l:List (Option (Str×Nat))}{as:Xt}{i:Nat}{p:Str×Nat}{a:Addr},Ub mg l as->l[i]?=some (some p)->as[i]?=some a->mg p.1=some (.ref a)
 |some q::l,b::as,0,p,a,h,e,e2=>by cases e;cases e2;exact h.1|none::l,b::as,0,p,a,h,e,e2=>by cases e|some q::l,b::as,i+1,p,a,h,e,e2=>Ub.get (i:=i) h.2 (by simpa using e) (by simpa using e2)|none::l,b::as,i+1,p,a,h,e,e2=>Ub.get (i:=i) (l:=l) (as:=as) h (by simpa using e) (by simpa using e2)
theorem aem.get{K:Fg}{C:Addr}{Z:List (Str×Nat)}{G:Xt}:∀{l:List (Nat×Nat)}{q:Nat×Nat},aem K C Z G l->q∈l->∃p a,Z[q.1]?=some p/\G[q.2]?=some a/\Meth K C p.1 a
 |q'::l,q,h,m=>by
  rcases bz.mp m with z|z
  .rw[z];exact h.1
  .exact aem.get h.2 z
theorem abo.get{K:Fg}{C:Addr}:∀{l:X9}{x:Str},abo K C l->x∈l->Gn K C x
 |y::l,x,h,m=>by
  rcases bz.mp m with z|z
  .rw[z];exact h.1
  .exact abo.get h.2 z
theorem Om.get{K:Fg}{mg:Zs}{T:Tab}{Li:Xt}:∀{l:List (Option (Str×Nat))}{cs:List (Option Addr)}{cls:List MW.Cl}{c:Nat}{p:Str×Nat},Om K mg T Li l cs cls->l[c]?=some (some p)->∃C cl,cs[c]?=some (some C)/\cls[c]?=some cl/\ClF K mg T Li p.1 C cl
 |some q::l,some C::cs,cl::cls,0,p,h,e=>by cases e;exact⟨C,cl,rfl,rfl,h.1⟩
 |some q::l,some C::cs,cl::cls,c+1,p,h,e=>by
  obtain⟨R,Z,U,h2,G⟩:=Om.get (c:=c) h.2 (by simpa using e);exact⟨R,Z,by simpa using U,by simpa using h2,G⟩
 |none::l,none::cs,cl::cls,0,p,h,e=>by cases e
 |none::l,none::cs,cl::cls,c+1,p,h,e=>by
  obtain⟨R,Z,U,h2,G⟩:=Om.get (l:=l) (cs:=cs) (cls:=cls) (c:=c) h (by simpa using e);exact⟨R,Z,by simpa using U,by simpa using h2,G⟩
theorem Om.at{K:Fg}{mg:Zs}{T:Tab}{Z:Xt}:∀{l:List (Option (Str×Nat))}{cs:List (Option Addr)}{cls:List MW.Cl}{c:Nat}{C:Addr},Om K mg T Z l cs cls->cs[c]?=some (some C)->Cls K C/\abo K C T.Qp
 |some q::l,some C::cs,cl::cls,0,p,h,e=>by cases e;exact⟨h.1.cs,h.1.na⟩|some q::l,some C::cs,cl::cls,c+1,p,h,e=>Om.at (c:=c) h.2 (by simpa using e)|none::l,none::cs,cl::cls,0,p,h,e=>by cases e|[],[],_,_,_,_,e=>by simp at e|[],_::_,[],_,_,h,_=>h.elim|[],_::_,_::_,_,_,h,_=>h.elim|none::l,none::cs,cl::cls,c+1,p,h,e=>Om.at (l:=l) (cs:=cs) (cls:=cls) (c:=c) h (by simpa using e)
theorem abp.get{mg:Zs}:∀{l:List (Str×Int)}{x:Str}{i:Int},abp mg l->(x,i)∈l->∃t,mg x=some (.int i t)
 |q::l,x,i,h,m=>by
  rcases bz.mp m with z|z
  .rw[<- z] at h;exact h.1
  .exact abp.get h.2 z
theorem AllB.get{mg:Zs}:∀{l:X9}{x:Str},AllB mg l->x∈l->mg x=none
 |q::l,x,h,m=>by
  rcases bz.mp m with z|z
  .rw[z];exact h.1
  .exact AllB.get h.2 z
noncomputable def av4(T:Tab):List MW.Fn->List Def->List Stmt->Bool
 |F::Fs,d::ds,s::ss=>akx T d F s&&av4 T Fs ds ss|[],[],[]=>true|_,_,_=>false
noncomputable def npB(Z:List MW.Fn)(f n:Nat):Bool:=match Z[f]? with|some F=>F.np==n|none=>false
noncomputable def tfB(Z:List MW.Fn)(l:List (Option (Str×Nat))):Bool:=l.zipIdx.all λq=>match q.1 with|some p=>npB Z q.2 p.2|none=>true
noncomputable def tcB(IR:MW.Prog)(l:List (Option (Str×Nat))):Bool:=l.zipIdx.all λq=>match q.1 with|some p=>(match IR.cls[q.2]? with|some Z=>npB IR.fns Z.init (p.2+1)|none=>false)|none=>true
noncomputable def bfs(cls:List MW.Cl)(m c f:Nat):Bool:=cls.zipIdx.all λq=>match q.1.meths.lookup m with|none=>true|some g=>q.2==c&&g==f
noncomputable def tmB(IR:MW.Prog)(T:Tab)(mcs:List (Nat×Nat)):Bool:=T.mts.zipIdx.all λq=>match mcs[q.2]? with
 |some Z=>(bfs IR.cls q.2 Z.1 Z.2&&(npB IR.fns Z.2 (q.1.2+1)&&aqa T.Qp q.1.1))&&((match T.cls[Z.1]? with|some (some _)=>true|_=>false)&&(match IR.cls[Z.1]? with|some G=>G.meths.lookup q.2==some Z.2|none=>false))
 |none=>false
def Ku{α:Type}{l:List α}{g:α×Nat->Bool}(h:l.zipIdx.all g=true){x:α}(e:l[i]?=some x):g (x,i)=true:=by rw[jb] at h;exact h (x,i) (by rw[xg];exact⟨i,by rw[zb,e];simp⟩)
set_option tactic.hygienic true in
def agq(h:npB fns f n=true):∃F,fns[f]?=some F/\F.np=n:=by
 unfold npB at h;split at h
 .rename_i F e;exact⟨F,e,eq_of_beq h⟩
 .cases h
theorem Xb{T:Tab}:∀{G:List MW.Fn}{ds:List Def}{Z:List Stmt}{i:Nat}{F:MW.Fn},av4 T G ds Z=true->G[i]?=some F->∃d s,ds[i]?=some d/\Z[i]?=some s/\akx T d F s=true
 |F::G,d::ds,s::Z,0,F',h,e=>by
  replace h:=Bool.and_eq_true_iff.mp h;cases e;exact⟨d,s,rfl,rfl,h.1⟩
 |F::G,d::ds,s::Z,i+1,F',h,e=>by
  replace h:=Bool.and_eq_true_iff.mp h;obtain⟨d',s',R,h2,U⟩:=Xb (i:=i) h.2 (by simpa using e);exact⟨d',s',by simpa using R,by simpa using h2,U⟩
 |[],_,_,_,_,_,e=>by simp at e|_::_,[],_,_,_,h,_=>by cases h|_::_,_::_,[],_,_,h,_=>by cases h
set_option tactic.hygienic true in
def a2q(u:ap8 T.Qp=true)(hP:av4 T IR.fns Ds ss=true)(h1:tfB IR.fns T.fns=true)(h2:tcB IR T.cls=true)(h3:tmB IR T mcs=true)(aF:abn K Ds ss R fds)(aG:Ub mg T.fns R)(aC:Om K mg T R T.cls cas IR.cls)(aV:abp mg T.avm)(aB:AllB mg Oj)(hF:IR.fns[i]?=some F) :
 ∃d a f,Ds[i]?=some d/\R[i]?=some a/\fds[i]?=some f/\Binds K f d.ps []/\Ff P w K mg base CX0 (17*n) a f d.ps (spF (a2p cas T.Qp u) ⟨IR.call n,IR.cls⟩ K F.np i):=by
 let dd:Def:=⟨Str.empty,Str.empty,[],[]⟩
 let sd:Stmt:=.Pass ⟨0,0,0,0⟩
 obtain⟨d,s,g1,g2,g3⟩:=Xb hP hF;have all:∀(i:Nat)(F:MW.Fn),IR.fns[i]?=some F->∃d s a f,Ds[i]?=some d/\ss[i]?=some s/\R[i]?=some a/\fds[i]?=some f/\Fun K d.x d.qual s a f/\Binds K f d.ps []/\akx T d F s=true:=λi F e=>by
  refine hG λ_ _k=>?_
  obtain⟨d,s,g1,g2,g3⟩:=Xb hP e;obtain⟨s',a,f,Y,S,Z,U,k5⟩:=aF.get g1;rw[g2] at Y;cases Y;apply _k;exact⟨d,s,a,f,g1,g2,S,Z,U,k5,g3⟩
 have df:∀{j:Nat}{a:Addr}{f:FuncData}{d:Def},R[j]?=some a->fds[j]?=some f->Ds[j]?=some d->(R[j]?).getD 0=a/\Ds[j]?.getD dd=d:=λJ L e3=>⟨by rw[J];rfl,by rw[e3];rfl⟩
 obtain⟨qk,q6⟩:∃qk:FuncData,True:=by obtain⟨s',a,f,_⟩:=aF.get g1;exact⟨f,trivial⟩
 have qv:=aiu (nm:=a2p cas T.Qp u) (P:=P) (w:=w) (K:=K) (mg:=mg) (base:=base) (IR:=IR) (T:=T) (D:=λi=>Ds[i]?.getD dd) (st:=λi=>ss[i]?.getD sd) (fa:=λi=>(R[i]?).getD 0) (fd:=λi=>(fds[i]?).getD qk)
  (λi hi=>by
   refine hG λ_ _k=>?_
   obtain⟨d,s,a,f,Y,S,Z,U,k5,k6,k7⟩:=all i IR.fns[i] (by simp[hi]);apply _k;rw[Y,S,Z,U];exact k5)
  (λi F e=>by
   refine hG λ_ _k=>?_
   obtain⟨d,s,a,f,Y,S,Z,U,k5,k6,k7⟩:=all i F e;apply _k;rw[Y,S];exact k7)
  (λn G=>?_) n i F hF
 .refine hG λ_ _k=>?_
  obtain⟨d',s',a,f,Y,S,Z,U,k5,k6,k7⟩:=all i F hF;apply _k;refine⟨d',a,f,Y,Z,U,k6,?_⟩;have:=qv;rw[Y,Z,U] at this;exact this
 ·
  have qq:∀{j:Nat}{F:MW.Fn}{a:Addr},IR.fns[j]?=some F->R[j]?=some a->∃(f:FuncData)(d:Def),Binds K f d.ps []/\Ff P w K mg base CX0 (17*n) a f d.ps (spF (a2p cas T.Qp u) ⟨IR.call n,IR.cls⟩ K F.np j)/\PySem.W.keepIn K (.ref a)=true:=fun{j F a} J L=>by
   refine hG λ_ _k=>?_
   obtain⟨d,s,a',f,Y,S,Z,U,k5,k6,k7⟩:=all j F J;rw[L] at Z;cases Z;have g:=G j F J;rw[Y,L,U] at g;apply _k;exact⟨f,d,k6,g,k5.kp⟩
  have addr:∀{j:Nat}{F:MW.Fn},IR.fns[j]?=some F->∃a,R[j]?=some a:=fun{j F} e=>by
   refine hG λ_ _k=>?_
   obtain⟨d,s,a',f,Y,S,Z,_⟩:=all j F e;apply _k;exact⟨a',Z⟩
  refine⟨λf x m e=>?_,λc x m e=>?_,λm x j e=>?_,λf x e=>?_,λx i m=>aV.get m,λx m=>aB.get m⟩
  .refine hG λ_ _k=>?_
   obtain⟨F,J,L⟩:=agq (Ku h1 e);obtain⟨a,e3⟩:=addr J;obtain⟨fd,d,b,g,kp⟩:=qq J e3;rw[L] at g;apply _k;exact⟨a,fd,d.ps,g,aG.get e e3,kp,b⟩
  .refine hG λ_ _k=>?_
   obtain⟨C,cl,q1,q2,q3⟩:=aC.get e;have z:=Ku h2 e;simp only[q2] at z;obtain⟨F,J,L⟩:=agq z;obtain⟨f,f1,f2⟩:=q3.ini;obtain⟨fd,d,b,g,kp⟩:=qq J f1;rw[L] at g;apply _k;exact⟨C,f,fd,d.ps,cl,f2,g,q3.mg,b,q2,by show(cas[c]?).join=some C;rw[q1];rfl⟩
  .have z:=Ku h3 e
   simp only at z;split at z
   .rename_i cf q7
    simp only[aq] at z;refine hG λ_ _k=>?_
    obtain⟨⟨z1,z2,z3⟩,z4,z5⟩:=z;obtain⟨F,J,L⟩:=agq z2;apply _k;split at z4
    .rename_i p hp
     refine hG λ_ _k=>?_
     obtain⟨C,cl,q1,q2,q3⟩:=aC.get hp;rw[q2] at z5;simp only at z5;have mem:(m,cf.2)∈cl.meths:=mem_of_lookup (eq_of_beq z5);obtain⟨p',a,r1,r2,r3⟩:=q3.me.get mem;rw[e] at r1;cases r1;obtain⟨fd,d,b,g,kp⟩:=qq J r2;rw[L] at g;apply _k;refine⟨C,a,fd,d.ps,cf.2,q3.cs,r3,g,b,λc' q8 q0 g' q5=>?_,aqb z3⟩;have y:=Ku z1 q0;simp only[q5,aq] at y;have y1:c'=cf.1:=eq_of_beq y.1;exact⟨by show(cas[c']?).join=some C;rw[y1,q1];rfl,eq_of_beq y.2⟩
    .cases z4
   .cases z
  .refine⟨by show x=ael T.Qp f;unfold ael;rw[e],λc C hC=>?_⟩
   have hC:(cas[c]?).join=some C:=hC;have q4:cas[c]?=some (some C):=by
    cases q:cas[c]? with
    |none=>rw[q] at hC;cases hC
    |some o=>rw[q] at hC;cases o with
     |none=>cases hC|some C'=>cases hC;rfl
   obtain⟨y1,y2⟩:=aC.at q4;exact⟨y1,y2.get (az e)⟩
def fN:abn K [] [] [] []:=trivial
def gN:Ub mg [] as:=trivial
def gS(h:mg p.1=some (.ref a))(t:Ub mg r as):Ub mg (some p::r) (a::as):=⟨h,t⟩
def gO(t:Ub mg r as):Ub mg (none::r) (a::as):=t
def mN:aem K C mts Z []:=trivial
def mC(U:mts[q.1]?=some p)(G:Z[q.2]?=some a)(m:Meth K C p.1 a)(t:aem K C mts Z r):aem K C mts Z (q::r):=⟨⟨p,a,U,G,m⟩,t⟩
def nN:abo K C []:=trivial
def nC(h:Gn K C x)(t:abo K C r):abo K C (x::r):=⟨h,t⟩
def cN:Om K mg T Z [] [] []:=trivial
def cO(t:Om K mg T Z r cs cls):Om K mg T Z (none::r) (none::cs) (cl::cls):=t
def cS(h:ClF K mg T Z p.1 C cl)(t:Om K mg T Z r cs cls):Om K mg T Z (some p::r) (some C::cs) (cl::cls):=⟨h,t⟩
def vN:abp mg []:=trivial
def vC(h:mg p.1=some (.int p.2 t))(q:abp mg r):abp mg (p::r):=⟨⟨t,h⟩,q⟩
def bN:AllB mg []:=trivial
def bC(h:mg x=none)(q:AllB mg r):AllB mg (x::r):=⟨h,q⟩
noncomputable abbrev Lk(K:Fg)(f:Addr)(x q:Str)(st:Stmt)(oc:Value)(od:Option Addr)(kV dc pm:Value)(an:Option Addr)(cd ct:Value)(sl:Array (Option Value)):Prop :=
 K.lookup f=some ⟨oc,od,.func (PySem.W.fnOf x q (Ir st) (Fv st) (Bf st) .none kV dc pm an cd ct),sl⟩/\PySem.W.codeIn K cd q=true/\PySem.W.keepIn K (.ref f)=true
def bfu{α:Type}{us:List α}(h:us.length=1):∃a,us=[a]:=match us,h with|[a],_=>⟨a,rfl⟩
def bfv{α:Type}{us:List α}(h:us.length=2):∃a b,us=[a,b]:=match us,h with|[a,b],_=>⟨a,b,rfl⟩
def bfw{α:Type}{us:List α}(h:us.length=3):∃a b c,us=[a,b,c]:=match us,h with|[a,b,c],_=>⟨a,b,c,rfl⟩
def bfx{α:Type}{us:List α}(h:us.length=4):∃a b c d,us=[a,b,c,d]:=match us,h with|[a,b,c,d],_=>⟨a,b,c,d,rfl⟩
def bfy{α:Type}{us:List α}(h:us.length=5):∃a b c d e,us=[a,b,c,d,e]:=match us,h with|[a,b,c,d,e],_=>⟨a,b,c,d,e,rfl⟩
def bfz{α:Type}{us:List α}(h:us.length=6):∃a b c d e f,us=[a,b,c,d,e,f]:=match us,h with|[a,b,c,d,e,f],_=>⟨a,b,c,d,e,f,rfl⟩
def bf0{α:Type}{us:List α}(h:us.length=7):∃a b c d e f g,us=[a,b,c,d,e,f,g]:=match us,h with|[a,b,c,d,e,f,g],_=>⟨a,b,c,d,e,f,g,rfl⟩
def fE{kV:Value}(l:Lk K a d.x d.qual s oc od kV dc R G cd ct sl)(r:abn K ds ss as fs)
 (b:∀(kV U R:Value)(G:Option Addr)(Z ct:Value)(us:Zl),us.length=d.ps.length->bindArgs (PySem.W.fnOf d.x d.qual (Ir s) (Fv s) (Bf s) .none kV U R G Z ct) ⟨us,[]⟩=pure (d.ps.zip us):=by intro _ _ _ _ _ _ us hl;first|(obtain⟨_,rfl⟩:=Ck.bfu hl;rfl)|(obtain⟨_,_,rfl⟩:=Ck.bfv hl;rfl)|(obtain⟨_,_,_,rfl⟩:=Ck.bfw hl;rfl)|(obtain⟨_,_,_,_,rfl⟩:=Ck.bfx hl;rfl)|(obtain⟨_,_,_,_,_,rfl⟩:=Ck.bfy hl;rfl)|(obtain⟨_,_,_,_,_,_,rfl⟩:=Ck.bfz hl;rfl)|(obtain⟨_,_,_,_,_,_,_,rfl⟩:=Ck.bf0 hl;rfl)) :
 abn K (d::ds) (s::ss) (a::as) (PySem.W.fnOf d.x d.qual (Ir s) (Fv s) (Bf s) .none kV dc R G cd ct::fs):=⟨⟨aov l.1 l.2.1 l.2.2,(aov l.1 l.2.1 l.2.2).binds b⟩,r⟩
noncomputable def aiv(K:Fg):Sp:=λU H Q _=>∃(a:Addr)(Z:U1),U=[.ref a]/\Only H/\Gw K H a (Z.map V.int)/\Z.length<=63/\∀G,Q (.bl true) G
def av5(o:Only H)(h:Gw K H a vs):aa6 K H a vs:=by
 rcases h with(h|h)|h
 .rcases o a with z|⟨ob,xs,z⟩<;>rw[z] at h<;>cases h
 .exact .inl h
 .exact .inr h
def av6(run:∀(ns:U1),ns.length<=63->∃M',W.call i [.fz (ns.map MW.D.int)] []=.ok (.bl true) M')(h:aiv K vs H Q E):spF nm W K 1 i vs H Q E:=by obtain⟨a,ns,rfl,o,G,U,k⟩:=h;obtain⟨M',e⟩:=run ns U;refine⟨⟨[],[]⟩,[],_,_,M',⟨rfl,Ax,by simp,λn o a h=>by simp at h⟩,.cons (.fz (av5 o G) (my.ints ns)) .nil,rfl,e,fun R Z v le S' r=>?_⟩;cases r;exact k Z
def walk{l:PySem.W.OpenLaw}{K:Params->Fg}(G:l.most=some 63)(Z:d.params.defaults=[])(hY:∀(w:World) (h:Heap),YP w h->(K w.params).In h)(F:∀(w:World) (mg:Zs) (fa:Addr) (h:Heap),(K w.params).In h->h.Ns mainGlobals mg->mg d.name=some (.ref fa) ->
 ∃fd:FuncData,(∀(s:Shared) (u:Value),BindsTo s fd ⟨[u],[]⟩ [("script",u)])/\∀base:Heap,(K w.params).In base->base.Ns mainGlobals mg->Ff l.prog w (K w.params) mg base CX0 170 fa fd ["script"] (aiv (K w.params))) :
 PySem.W.WalkO q loose XP YP l.row.toRowW d [] (λf vs=>PySem.call f vs) :=
 L2.aue (n:=63) (k:=170) (x := "script") (CX:=λ_=>CX0) (sp:=λw=>aiv (K w.params)) G (by decide) Z ⟨rfl,by decide,by decide⟩ hY F (λ_ _ a U hl R hS=>⟨a,U,rfl,R,hS,hl,λ_=>rfl⟩) λ_ _ _ _ _ z=>z
end Ck
namespace K54
open PySem L2
noncomputable def top(i:Nat):Stmt:=PySem.Challenge.pw_mapwright_k54_least_parts_both_and_any.main.body.getD i (.Pass ⟨0,0,0,0⟩)
noncomputable def sts:List Stmt:=[inClass (top 8) 0,inClass (top 8) 1,inClass (top 8) 2,inClass (top 8) 3,inClass (top 8) 4,inClass (top 8) 5,top 9,top 10,top 11,top 12,top 13,top 14,top 25,top 26,top 27,top 28,top 29,top 30,top 31,top 32,top 33,top 0,top 16,top 17,top 19,top 21,top 22,top 23,top 34,top 35,top 36,top 37,top 38,top 39,top 40,top 41,top 42]
noncomputable def Ds:List Ck.Def:=[⟨"__init__", "Pattern.__init__",["self", "kinds", "doings", "table"],["self", "kinds", "doings", "table"]⟩,⟨"kinds", "Pattern.kinds",["self"],["self"]⟩,⟨"doings", "Pattern.doings",["self"],["self"]⟩,⟨"behind", "Pattern.behind",["self", "one", "other"],["self", "one", "other"]⟩,⟨"ways", "Pattern.ways",["self", "kind"],["self", "kind"]⟩,⟨"end", "Pattern.end",["self", "kind", "way"],["self", "kind", "way"]⟩,⟨"both_ways", "both_ways",["table", "one", "other"],["table", "one", "other"]⟩,⟨"meeting_pairs", "meeting_pairs",["doings", "pairs", "one", "ends", "other", "more"],["doings"]⟩,⟨"is_way_between", "is_way_between",["doings", "way", "start", "goal"],["doings", "way", "start", "goal"]⟩,⟨"check_doings", "check_doings",["kinds", "doings", "ends"],["kinds", "doings"]⟩,⟨"check_table", "check_table",["doings", "table", "pairs", "one", "other"],["doings", "table"]⟩,⟨"check_threes", "check_threes",["doings", "table", "pairs", "one", "other", "last", "ahead", "after"],["doings", "table"]⟩,⟨"_law_cell_at", "_law_cell_at",["script", "k"],["script", "k"]⟩,⟨"_law_state", "_law_state",["script", "k", "cell"],["script", "k"]⟩,⟨"_law_take", "_law_take",["state", "many", "found", "mixed"],["state", "many"]⟩,⟨"_law_begun", "_law_begun",["state", "way", "graph", "loops", "swap", "known", "kinds", "sizes", "found", "k", "one", "other"],["state"]⟩,⟨"_law_closed", "_law_closed",["begun", "found", "one", "other", "row", "k", "j", "first", "second", "more"],["begun"]⟩,⟨"_law_pattern", "_law_pattern",["state", "begun", "closed", "kinds", "table", "j", "k", "more"],["state"]⟩,⟨"_law_ways", "_law_ways",["pat", "kind"],["pat", "kind"]⟩,⟨"_law_end", "_law_end",["pat", "kind", "way"],["pat", "kind", "way"]⟩,⟨"_law_behind", "_law_behind",["pat", "one", "other"],["pat", "one", "other"]⟩,⟨"_wall", "_wall",["k"],["k"]⟩,⟨"led", "led",["world", "thing", "way"],["world", "thing", "way"]⟩,⟨"reached", "reached",["pattern", "world", "spot", "kind"],["pattern", "world", "spot"]⟩,⟨"as_part", "as_part",["world", "members", "rows", "kind", "size"],["world", "members"]⟩,⟨"least_part", "least_part",["pattern", "world", "some", "members", "spot", "below"],["pattern", "world", "some"]⟩,⟨"both", "both",["one", "other"],["one", "other"]⟩,⟨"any_of", "any_of",["one", "other"],["one", "other"]⟩,⟨"_law_merged", "_law_merged",["pat", "marks", "acts", "changed", "k", "one", "other", "first", "thing", "mark", "end", "low", "high"],["pat", "marks", "acts"]⟩,⟨"_law_world", "_law_world",["state", "pat", "most", "rows", "number", "kind", "some", "end", "way", "acts", "k", "one", "other", "marks", "low", "high", "heads", "told", "row"],["state", "pat", "most"]⟩,⟨"_law_led", "_law_led",["world", "thing", "way"],["world", "thing", "way"]⟩,⟨"_law_same", "_law_same",["found", "due"],["found", "due"]⟩,⟨"_law_grown", "_law_grown",["state", "pat", "world", "rows", "turn", "kind", "thing", "way"],["state", "pat", "world"]⟩,⟨"_law_lot", "_law_lot",["state", "pat", "world", "found", "turn", "kind"],["state", "pat", "world"]⟩,⟨"_law_least", "_law_least",["pat", "world", "some", "rows", "kind", "one", "way", "end"],["pat", "world", "some"]⟩,⟨"_law_right", "_law_right",["state", "pat", "pattern", "world", "some", "handed", "found", "one", "other", "meets", "joins", "kind", "row", "due"],["state", "pat", "pattern", "world"]⟩,⟨"law", "law",["script", "state", "pat", "pattern", "worlds", "turn", "world"],["script"]⟩]
noncomputable def tab:Ck.Tab:=⟨[none,none,none,none,none,none,(some ("both_ways",3):Ya),(some ("meeting_pairs",1):Ya),(some ("is_way_between",4):Ya),(some ("check_doings",2):Ya),(some ("check_table",2):Ya),(some ("check_threes",2):Ya),(some ("_law_cell_at",2):Ya),(some ("_law_state",2):Ya),(some ("_law_take",2):Ya),(some ("_law_begun",1):Ya),(some ("_law_closed",1):Ya),(some ("_law_pattern",1):Ya),(some ("_law_ways",2):Ya),(some ("_law_end",3):Ya),(some ("_law_behind",3):Ya),(some ("_wall",1):Ya),(some ("led",3):Ya),(some ("reached",3):Ya),(some ("as_part",2):Ya),(some ("least_part",3):Ya),(some ("both",2):Ya),(some ("any_of",2):Ya),(some ("_law_merged",3):Ya),(some ("_law_world",3):Ya),(some ("_law_led",3):Ya),(some ("_law_same",2):Ya),(some ("_law_grown",3):Ya),(some ("_law_lot",3):Ya),(some ("_law_least",3):Ya),(some ("_law_right",4):Ya),(some ("law",1):Ya)],[none,none,some ("Pattern",3)],[("kinds",0),("doings",0),("behind",2),("ways",1),("end",2)],["together", "doing_ends", "kind_count"],[("STAYING",-1),("MOST_KINDS",3),("MOST_DOINGS",5)]⟩
noncomputable def mcs:List (Nat×Nat):=[(2,1),(2,2),(2,3),(2,4),(2,5)]
def chk:Ck.av4 tab prog.fns Ds sts=true:=by decide+kernel
def bf1:Ck.ap8 tab.Qp=true:=by decide+kernel
def bf2:Ck.tfB prog.fns tab.fns=true:=by decide+kernel
def bf3:Ck.tcB prog tab.cls=true:=by decide+kernel
def bf4:Ck.tmB prog tab mcs=true:=by decide+kernel
open MW
noncomputable def Eh(hs:List F)(k i:Nat):Bool:=match hs[i]? with|some f=>decide (f.a=k)|none=>false
noncomputable def uy(hs:List F)(k:Nat):List D:=.int (-1)::((List.range hs.length).filter (Eh hs k)).map nD
def Gb(h:d∈uy hs k):d=.int (-1)\/∃(i:Nat)(f:F),d=.int i/\hs[i]?=some f/\f.a=k:=by
 rcases bz.mp h with q|q
 .exact .inl q
 .refine hG λ_ _k=>?_
  obtain⟨i,U,rfl⟩:=bw.mp q;obtain⟨R,G⟩:=uz.mp U;have Z:=ju.mp R;have e:hs[i]?=some hs[i]:=by simp[Z]
  rw[Eh,e] at G;apply _k;exact .inr ⟨i,hs[i],rfl,e,by simpa using G⟩
def aqc(h:d∈uy hs k):∃i:Int,d=.int i:=by rcases Gb h with rfl|⟨i,f,rfl,_⟩<;>exact⟨_,rfl⟩
def J0(hl:hs.length<=5):(uy hs k).length<=6:=by have:=xf (Eh hs k) (List.range hs.length);simp at this;simp[uy];exact a_ this hl
noncomputable def su(K r:Nat)(hs:List F):D:=.tup [.int K,Ib hs,.ref r]
def Iv(K r:Nat)(hs:List F)(M:cz):Aw (su K r hs) (.int 0) M=some (.int K):=rfl
def Pq(K r:Nat)(hs:List F)(M:cz):Aw (su K r hs) (.int 1) M=some (Ib hs):=rfl
def axy(K r:Nat)(hs:List F)(M:cz):Aw (su K r hs) (.int 2) M=some (.ref r):=rfl
def Made.keep(h:Made n r K hs Z M)(k:Bt M M'):Made n r K hs Z M':=⟨k _ _ h.1,k _ _ h.2⟩
def Made.f2(h:Made n r K hs Z M):Q5 (.ref n) 2 M=some (.int K):=by simp[Q5,h.1,List.lookup]
def Made.f1(h:Made n r K hs Z M):Q5 (.ref n) 1 M=some (Ib hs):=by simp[Q5,h.1,List.lookup]
def Made.f0(h:Made n r K hs Z M):Q5 (.ref n) 0 M=some (.ref r):=by simp[Q5,h.1,List.lookup]
def av7(G:1<=m)(h:Made n r K hs iu M)(hl:hs.length<=5){k:Nat}:prog.call m 4 [.ref n,.int k] M=.ok (.ref M.length) (M++[.lst (uy hs k)]):=by
 rw[call_of G rfl];have R:Eo.den (PW (m-1)) [some (.ref n),some (.int k)] M=.ok (.vl (((List.range hs.length).filter (Eh hs k)).map nD)) M:=by
  unfold Eo;rw[V6 (ds:=hs.map eD) (M1:=M) (q:=Eh hs k) (g:=nD) (by simp[h.f1,Ib]) (by simp;exact a_ hl (by decide)) (λi x Z=>by
   refine hG λ_ _k=>?_
   obtain⟨f,U,rfl⟩:∃f,hs[i]?=some f/\eD f=x:=by simpa using Z
   apply _k;refine⟨_,Jx _ _ _ _ _,?_,λ_=>?_⟩
   .simp[-eq_int,Yt,Bg,Eh,U]
   .simp[nD])]
  simp
 have:=ajl (M:=M) [.int (-1)] (((List.range hs.length).filter (Eh hs k)).map nD) (by
  have:=xf (Eh hs k) (List.range hs.length);simp at this ⊢
  lia)
 simp[Fn.run,Mh,Mg,R,this,MW.new,uy]
def a2r(U:1<=m)(h:Made n r K hs R M){k i:Nat}(Z:hs[i]?=some f):prog.call m 5 [.ref n,.int k,.int i] M=.ok (.int f.b) M:=by
 rw[call_of U rfl];have G:¬((i:Int)=-1):=by lia
 simp[Fn.run,Jb,Ja,G,h.f1,Rq Z,Yu]
def aqd(Z:1<=m)(h:Made n r K hs G M){k:Nat}:prog.call m 5 [.ref n,.int k,.int (-1)] M=.ok (.int k) M:=by rw[call_of Z rfl];simp[Fn.run,Jb,Ja]
def Xc(U:1<=m)(hl:hs.length<=5){k:Nat}:prog.call m 18 [su K r hs,.int k] M=.ok (.vl (uy hs k)) M:=by
 rw[call_of U rfl];have G:Jc.den (PW (m-1)) [some (su K r hs),some (.int k)] M=.ok (.vl (((List.range hs.length).filter (Eh hs k)).map nD)) M:=by
  unfold Jc;rw[Mf (n:=hs.length) (M1:=M) (q:=Eh hs k) (g:=nD) (by simp[Pq,Qm]) (a_ hl (by decide)) (λi Z=>by
   have e:hs[i]?=some hs[i]:=by simp[Z]
   refine⟨_,rfl,?_,λ_=>?_⟩
   .simp[-eq_int,Pq,Rq e,Yt,Bg,Eh,Z]
   .simp[nD])]
  simp
 have:=Yl (M:=M) [.int (-1)] (((List.range hs.length).filter (Eh hs k)).map nD) (by
  have:=xf (Eh hs k) (List.range hs.length);simp at this ⊢
  lia)
 simp[Fn.run,Um,Ul,G,this,uy]
def av8(U:1<=m){k i:Nat}(Z:hs[i]?=some f):prog.call m 19 [su K r hs,.int k,.int i] M=.ok (.int f.b) M:=by
 rw[call_of U rfl];have G:¬((i:Int)<0):=by lia
 simp[Fn.run,Qh,Qg,G,Pq,Rq Z,Yu]
def aky(Z:1<=m){k:Nat}:prog.call m 19 [su K r hs,.int k,.int (-1)] M=.ok (.int k) M:=by rw[call_of Z rfl];simp[Fn.run,Qh,Qg]
def agr(hm:1<=m)(hr:M[r']?=some (.dT iu))(hx:-1<=x)(hy:-1<=y)(Z:bothW hs iu x y=some v):prog.call m 20 [su K r' hs,.int x,.int y] M=.ok v M:=by
 rw[call_of hm rfl];unfold bothW at Z
 by_cases G:x=-1
 .rw[cj G] at Z;cases Z
  subst G;have:(-1:Int)+y+1=y:=by lia
  simp[Fn.run,Ft,Fq,this]
 .rw[bx G] at Z
  have nx:¬x<0:=by lia
  by_cases U:y=-1
  .rw[cj U] at Z;cases Z
   subst U;have:x+(-1:Int)+1=x:=by lia
   simp[Fn.run,Ft,Fq,nx,this]
  .rw[bx U] at Z
   have R:¬y<0:=by lia
   simp[Fn.run,Ft,Fq,nx,R,axy,ace hr (Ym x y),Z]
def aiw(G:o.den W ρ M=.ok (.ref n) M)(Z:es.den W ρ M=.ok ds M)(U:M[n]?=some (.ins c fs))(R:(W.cls[c]?).bind (λC=>C.meths.lookup mm)=some fi) :
 (Ex.meth o mm es).den W ρ M=W.call fi (.ref n::ds) M:=by
 rw[Q8,G,Res.Am,Z,Res.Am];simp only[U,R]
end K54
namespace MW
end MW
namespace K54
open MW
noncomputable def Bu(hs:List F)(k:Nat):D->Nat
 |.int i=>if i=-1 then k else match hs[i.toNat]? with|some f=>f.b|none=>0
 |_=>0
noncomputable def wT(hs:List F)(k g:Nat):List D:=(uy hs k).filter λd=>decide (Bu hs k d=g)
def aqe(h:d∈wT hs k g):d∈uy hs k/\Bu hs k d=g:=by have:=uz.mp h;exact⟨this.1,by simpa using this.2⟩
def O2{i:Nat}(h:hs[i]?=some f):Bu hs k (.int i)=f.b:=by
 have:¬((i:Int)=-1):=by lia
 simp[Bu,this,h]
def a2s{i:Nat}(h:hs[i]?=some f)(e:f.a=k):.int i∈uy hs k:=by refine bh _ (bw.mpr ⟨i,uz.mpr ⟨ju.mpr (ak.mp h).1,?_⟩,rfl⟩);simp[Eh,h,e]
def axz{i:Nat}(h:hs[i]?=some f)(e:f.a=k):.int i∈wT hs k f.b :=
 uz.mpr ⟨a2s h e,by simp[O2 h]⟩
def a2t(h:d∈wT hs k g):∃i:Int,d=.int i:=aqc (aqe h).1
noncomputable def bv(hs:List F)(Z:List (List Kx×D))(j:Nat):D->Int
 |.int x=>match bothW hs Z x j with|some (.int v)=>v|_=>0
 |_=>0
def av9(P:Lp sz K hs Z){j:Nat}(U:hs[j]?=some f)(hd:d∈wT hs k f.a) :
 ∃x:Int,d=.int x/\-1<=x/\bothW hs Z x j=some (.int (bv hs Z j d))/\.int (bv hs Z j d)∈wT hs k f.b:=by
 obtain⟨h1,G⟩:=aqe hd;have nj:¬((j:Int)=-1):=by lia
 rcases Gb h1 with rfl|⟨i,g,rfl,hg,e⟩
 .have e:k=f.a:=by simpa[Bu] using G
  have:bothW hs Z (-1) j=some (.int j):=by simp[bothW]
  refine⟨-1,rfl,by lia,by simp[bv,this],?_⟩;simp only[bv,this];exact axz U e.symm
 .rw[O2 hg] at G
  have ni:¬((i:Int)=-1):=by lia
  have:bothW hs Z i j=some (.int (ent hs g f)):=by rw[bothW,bx ni,bx nj];exact P.look hg U G
  refine⟨i,rfl,by lia,by simp[bv,this],?_⟩;simp only[bv,this];have mg:=az hg;have mf:=az U;rw[Qn];rcases P.Hv (P.cl g mg f mf G) with⟨R,i1⟩|⟨u,hu,R⟩
  .rw[R]
   refine uz.mpr ⟨by simp[uy],?_⟩;have:g.a=f.b:=i1.1;simp[Bu,<- e,this]
  .rw[R]
   exact axz (f:=g.comp f) hu e
noncomputable def ixI(v:Int)(ds:List D):Nat:=(ds.findIdx? λd=>match d with|.int i=>decide (i=v)|_=>false).getD 0
theorem Xd(M:cz)(v:Int):∀ds:List D,(∀d∈ds,∃i:Int,d=.int i)->Pz M (.int v) ds=some (ds.map λd=>match d with|.int i=>decide (i=v)|_=>false)
 |[],_=>rfl
 |d::l,h=>by
  obtain⟨i,rfl⟩:=h d (by simp);simp[Pz,Xd M v l (λx Z=>h x (bh _ Z))]
theorem aen{α:Type}(f:α->Bool):∀l:List α,(l.map f).findIdx? id=l.findIdx? f
 |[]=>rfl|a::l=>by simp[List.findIdx?_cons,aen f l]
def aqf(hi:∀d∈ds,∃i:Int,d=.int i)(h:.int v∈ds):Jl .index (.vl ds) [.int v] M=.ok (.int (ixI v ds)) M:=by
 have e:Xx M (.int v) ds=some (ixI v ds):=by
  rw[Xx,Xd M v ds hi,qw,aen];unfold ixI;cases q:ds.findIdx? (λd=>match d with|.int i=>decide (i=v)|_=>false) with
  |some j=>rfl
  |none =>
   rw[yt] at q;have:=q _ h;simp at this
 simp[Jl,e]
end K54
namespace K54
open MW
def Xe(Z:1<=m)(G:d∈uy hs k):prog.call m 19 [su K r hs,.int k,d] M=.ok (.int (Bu hs k d)) M:=by
 rcases Gb G with rfl|⟨i,f,rfl,hf,_⟩
 .rw[aky Z];simp[Bu]
 .rw[av8 Z hf,O2 hf]
noncomputable def RS(p K:Nat)(Z:Nat->List D)(M:cz):Prop:=∀i,i<K->M[p+i]?=some (.lst (Z i))
noncomputable def v5(p K:Nat):List D:=(List.range K).map λi=>.ref (p+i)
theorem RS.keep(h:RS p K rs M)(s:St t f M M')(G:t<p):RS p K rs M':=λi Z=>s.keep _ _ (i_ (b_ G x_)) (h i Z)
def Sq(hi:i<K):Aw (.vl (v5 p K)) (.int i) M=some (.ref (p+i)):=Cy rfl q_ (by simp[v5,hi])
def Xf(R:y=ρ.length)(U:e.den W ρ M=.ok (.int K) M)(hK:K<=100000) :
 (Ex.comp true 1 (.name y) (.Ln e) (.lst .nil)).den W ρ M=.ok (.vl (v5 M.length K)) (M++List.replicate K (.lst [])):=by
 subst R;refine hG λ_ _k=>?_
 obtain⟨ys,Z,g,h1,h2⟩:=aaf (v:=true) (k:=1) (t:=.name ρ.length) (e:=.lst .nil) U hK (λi G Z=>G=v5 M.length i/\Z=M++List.replicate i (.lst [])) ⟨rfl,by simp⟩
  (λi G Z hi hI=>by
   refine hG λ_ _k=>?_
   obtain⟨rfl,rfl⟩:=hI;apply _k;refine⟨_,.ref (M.length+i),M++List.replicate i (MO.lst [])++[MO.lst []],rfl,by simp[MW.new],?_,?_⟩
   .simp[v5,Ai]
   .simp[List.replicate_succ'])
 apply _k;rw[g,h1,h2];rfl
noncomputable def rowsOf(hs:List F)(Z:List (Nat×Nat))(e:Nat):List D:=Z.flatMap λp=>(wT hs p.2 e).map λw=>.tup [.int p.1,.int p.2,w]
def Xg(hs:List F)(Z:List (Nat×Nat))(p:Nat×Nat)(e:Nat):rowsOf hs (Z++[p]) e=rowsOf hs Z e++(wT hs p.2 e).map λw=>.tup [.int p.1,.int p.2,w]:=by simp[rowsOf]
def Vq(P:Lp sz K hs U)(G:k<K)(Z:d∈uy hs k):Bu hs k d<K:=by
 rcases Gb Z with rfl|⟨i,f,rfl,hf,_⟩
 .simpa[Bu] using G
 .rw[O2 hf];exact P.ajt f (az hf)
def awa(U:1<=m)(hl:hs.length<=5)(R:ρ[1]?=some (some (su K r hs)))(G:ρ[5]?=some (some (.int k)))(Z:ρ.length=19) :
 Ho.den (PW m) ρ M=.ok (.vl ((uy hs k).map λw=>.tup [.int (Bu hs k w),w])) M:=by
 unfold Ho;rw[Ao (d:=.vl (uy hs k)) (ds:=uy hs k) (M1:=M) (g:=λw=>.tup [.int (Bu hs k w),w]) (by simp[R,G,Xc U hl]) rfl (ie (J0 hl) (by decide)) (λx hx=>by
  refine⟨_,rfl,?_⟩;have e1:(ρ++List.replicate 1 none).set 19 (some x)=ρ++[some x]:=by rw[List.set_append];simp[Z]
  rw[e1];have g1:(ρ++[some x])[1]?=some (some (su K r hs)):=by rw[fc (b_ (by decide) (g_ Z))];exact R
  have g5:(ρ++[some x])[5]?=some (some (.int k)):=by rw[fc (b_ (by decide) (g_ Z))];exact G
  have g9:(ρ++[some x])[19]?=some (some x):=by rw[<- Z];simp
  simp[g1,g5,g9,Xe U hx])]
 rfl
noncomputable def Pr(p:Nat)(M M':cz):Prop:=∀(a:Nat)(o:MO),a<p->M[a]?=some o->M'[a]?=some o
def Pr.refl(p:Nat)(M:cz):Pr p M M:=λ_ _ _ h=>h
def Pr.trans(a:Pr p M M1)(b:Pr p M1 M2):Pr p M M2:=λx o h e=>b x o h (a x o h e)
theorem Pr.set(h:p<=q):Pr p M (M.set q o):=λa u Z e=>by rw[qp (i_ (b_ Z h))];exact e
noncomputable def trD(n k:Nat)(w:D):D:=.tup [.int n,.int k,w]
def ax0(n k:Nat)(w:D):D.tup [.int n,.int k,w]=trD n k w:=rfl
noncomputable def abq(hs:List F)(Z:Nat->List D)(n k j:Nat)(e:Nat):List D:=Z e++(((uy hs k).take j).filter λw=>decide (Bu hs k w=e)).map (trD n k)
def aqg(hs:List F)(Z:Nat->List D)(n k e:Nat):abq hs Z n k (uy hs k).length e=Z e++(wT hs k e).map (trD n k):=by unfold abq wT;rw[Bb]
def aqh(hl:hs.length<=5)(U:(rs e).length<=7):(abq hs rs n k j e).length<=13:=by
 have R:=xf (λw=>decide (Bu hs k w=e)) ((uy hs k).take j);have Z:=J0 (k:=k) hl;have G:((uy hs k).take j).length<=(uy hs k).length:=by simp;lia
 simp only[abq,vf,dw]
 lia
def Zx(P:Lp sz K hs iu)(hk:k<K)(h:RS p K rs M)(h7:∀e,e<K->(rs e).length<=7)(hr:rest.length=10) :
 ∃b7 b8 M',Nf.den W ([a0,a1,a2,some (.vl (v5 p K)),some (.int n),some (.int k),some (.vl ((uy hs k).map λw=>.tup [.int (Bu hs k w),w])),b7',b8']++rest) M
  = .ok (.next,[a0,a1,a2,some (.vl (v5 p K)),some (.int n),some (.int k),some (.vl ((uy hs k).map λw=>.tup [.int (Bu hs k w),w])),b7,b8]++rest) M'/\RS p K (λe=>rs e++(wT hs k e).map (trD n k)) M'/\Pr p M M'/\M'.length=M.length:=by
 refine hG λ_ _k=>?_
 have hl:=P.len;obtain⟨qq,M',e,⟨c7,c8,rfl⟩,r1,r2,r3⟩:=Kd (W:=W) (t:=.names [7,8]) (b:=Ea) (it:=.v 6) (d:=.vl ((uy hs k).map λw=>.tup [.int (Bu hs k w),w])) (ds:=(uy hs k).map λw=>.tup [.int (Bu hs k w),w])
  (ρ:=[a0,a1,a2,some (.vl (v5 p K)),some (.int n),some (.int k),some (.vl ((uy hs k).map λw=>.tup [.int (Bu hs k w),w])),b7',b8']++rest) (M:=M) (M1:=M) (by simp) rfl
  (λj ρ M'=>(∃b7 b8:Option D,ρ=[a0,a1,a2,some (.vl (v5 p K)),some (.int n),some (.int k),some (.vl ((uy hs k).map λw=>.tup [.int (Bu hs k w),w])),b7,b8]++rest)/\RS p K (abq hs rs n k j) M'/\Pr p M M'/\M'.length=M.length)
  ⟨⟨b7',b8',rfl⟩,λi Z=>by rw[h i Z];simp[abq],Pr.refl _ _,rfl⟩ (λ_ _ _ _=>rfl)
  (λj x ρ M1 hx hI=>by
   refine hG λ_ _k=>?_
   obtain⟨⟨c7,c8,rfl⟩,q1,q2,q3⟩:=hI;obtain⟨w,hw,rfl⟩:∃w,(uy hs k)[j]?=some w/\D.tup [.int (Bu hs k w),w]=x:=by simpa using hx
   have G:=az hw;have U:=Vq P hk G;have g:=q1 _ U;have ap:=Cq (d:=trD n k w) g (by have:=aqh (n:=n) (k:=k) (j:=j) hl (h7 _ U);exact c_ this (by decide));apply _k;refine⟨_,.next,_,M1.set (p+Bu hs k w) (.lst (abq hs rs n k j (Bu hs k w)++[trD n k w])),Jx _ _ _ _ _,?_,.inl rfl,⟨some (.int (Bu hs k w)),some w,rfl⟩,?_,q2.trans (Pr.set x_),by simp[q3]⟩
   .show Ea.den W (a0::a1::a2::some (.vl (v5 p K))::some (.int n)::some (.int k)::some (.vl ((uy hs k).map λw=>.tup [.int (Bu hs k w),w]))::some (.int (Bu hs k w))::some w::rest) M1=_
    simp[Ea,Sq U,Cu g,ax0,ap]
   .intro i Z
    have R:(uy hs k).take (j+1)=(uy hs k).take j++[w]:=by rw[List.take_succ,hw];rfl
    by_cases z:i=Bu hs k w
    .subst z
     rw[ur g];simp[abq,R,List.filter_append]
    .rw[qp (by lia),q1 i Z]
     simp[abq,R,List.filter_append,j5 z])
 apply _k;refine⟨c7,c8,M',e,λi Z=>?_,r2,r3⟩;rw[r1 i Z];simp only[dw];rw[aqg]
structure Gs(t:Nat)(f:Bool)(p:Nat)(M M':cz):Prop where
 has:Uq t f M'
 low:∀(a:Nat)(o:MO),a<p->a≠t->M[a]?=some o->M'[a]?=some o
 len:M.length<=M'.length
def Gs.trans(a:Gs t f p M M1)(b:Gs t f p M1 M2):Gs t f p M M2:=⟨b.has,λx o h n e=>b.low x o h n (a.low x o h n e),ie a.len b.len⟩
def Gs.Oo(s:St t f M M1):Gs t f p M M1:=⟨s.has,λa o _ n e=>s.keep a o n e,s.len⟩
def Pr.has(h:Uq t f M)(l:Pr p M M1)(Z:t<p):Uq t f M1:=by obtain⟨n,e,o⟩:=h;exact⟨n,l _ _ Z e,o⟩
def Gs.Xh(h:Uq t f M)(l:Pr p M M1)(Z:t<p)(hl:M.length<=M1.length):Gs t f p M M1:=⟨l.has h Z,λa o x _ e=>l a o x e,hl⟩
def Gs.refl(h:Uq t f M):Gs t f p M M:=⟨h,λ_ _ _ _ e=>e,bf _⟩
def Gs.st(g:Gs t f M.length M M1):St t f M M1:=⟨g.len,g.has,λa o n e=>g.low a o (w6 e) n e⟩
def Gs.app(h:Uq t f M)(hp:p<=M.length)(X:cz):Gs t f p M (M++X):=⟨by obtain⟨n,e,o⟩:=h;exact⟨n,qt e,o⟩,λa o _ _ e=>qt e,by simp⟩
def awb(U:ρ.length=y)(G:ρ[3]?=some (some (.vl (v5 p K))))(h:RS p K rs M)(R:K<=3) :
 (Ex.comp true 1 (.name y) (.val (.v 3)) (.blt .len (.o (.var y)))).den W ρ M=.ok (.vl (((List.range K).map λi=>(rs i).length).map nD)) M:=by
 subst U;rw[Ao (d:=.vl (v5 p K)) (ds:=v5 p K) (M1:=M) (g:=λd=>match rz .len [d] M with|.ok x _=>x|_=>.non) (by simp[G]) rfl (by simp[v5];exact a_ R (by decide)) (λd hd=>by
  refine hG λ_ _k=>?_
  obtain⟨i,Z,rfl⟩:=bw.mp hd;apply _k;refine⟨_,rfl,?_⟩;simp[len_list (qm (h i (ju.mp Z)))])]
 simp only[jn,v5,Bl]
 congr 2
 apply wu;intro i Z;simp[len_list (qm (h i (ju.mp Z))),nD]
structure Rw(hs:List F)(K p:Nat)(ad:List (Nat×Nat))(M:cz):Prop where
 rs:RS p K (rowsOf hs ad) M
 kd:∀q∈ad,q.2<K
 le:∀e,e<K->(rowsOf hs ad e).length<=7
 nd:(ad.map (·.1)).Nodup
def awc(hm:1<=m)(P:Lp sz K hs iu)(hh:Uq t f M)(ht:t<p)(h:Rw hs K p ad M)(hn:∀q∈ad,q.1<n)(hr:rest.length=10) :
 ∃c5 c6 c7 G R M',Cw.den (PW m) ([some (.ref t),some (su K r hs),some (.int 3),some (.vl (v5 p K)),some (.int n),b5,b6,b7,b8]++rest) M
  = .ok (.next,[some (.ref t),some (su K r hs),some (.int 3),some (.vl (v5 p K)),some (.int n),c5,c6,c7,G]++rest) M'/\Rw hs K p R M'/\(∀q∈R,q.1<n+1)/\Gs t f p M M'/\M'.length=M.length:=by
 refine hG λ_ _k=>?_
 have hl:=P.len;have h3:=P.k3;obtain⟨k,M1,e1,l1,s1,n1⟩:=Aq (many:=K) hm hh (by have:=P.k1;exact m_ this) (m_ (c_ h3 (by decide)));have hk:k<K:=o_ l1
 have r1:=h.rs.keep s1 ht;have c9:=awa (M:=M1) (r:=r) (K:=K) (hs:=hs) (ρ:=[some (.ref t),some (su K r hs),some (.int 3),some (.vl (v5 p K)),some (.int n),some (.int k),b6,b7,b8]++rest) (k:=k) hm hl rfl rfl (by simp[hr]);have G:=awb (W:=PW m) (M:=M1) (ρ:=[some (.ref t),some (su K r hs),some (.int 3),some (.vl (v5 p K)),some (.int n),some (.int k),some (.vl ((uy hs k).map λw=>.tup [.int (Bu hs k w),w])),b7,b8]++rest) (y:=19) (by simp[hr]) rfl r1 h3;obtain⟨v,e3,v1,v2⟩:=ane (M:=M1) (xs:=(List.range K).map λi=>(rowsOf hs ad i).length) (by have:=P.k1;intro z;have:=nq List.length z;simp at this;exact l_ (o_ l1) (a_ (f_ this) (jx _)));generalize hL:(D.vl (((List.range K).map λi=>(rowsOf hs ad i).length).map nD))=L at e3 G;have Z:rz .len [.vl ((uy hs k).map λw=>D.tup [.int (Bu hs k w),w])] M1=.ok (.int (uy hs k).length) M1:=by simp[rz,Ti]
 apply _k
 by_cases q:v+(uy hs k).length<8
 .refine hG λ_ _k=>?_
  have q':(v:Int)+((uy hs k).length:Int)<8:=by lia
  obtain⟨d7,d8,M2,e4,r2,lo,n2⟩:=Zx (W:=PW m) (M:=M1) P (n:=n) hk r1 h.le (a0:=some (.ref t)) (a1:=some (su K r hs)) (a2:=some (.int 3)) (b7':=b7) (b8':=b8) (rest:=rest) hr;apply _k;refine⟨some (.int k),some (.vl ((uy hs k).map λw=>D.tup [.int (Bu hs k w),w])),d7,d8,ad++[(n,k)],M2,?_,⟨λi hi=>?_,λq U=>?_,λe he=>?_,?_⟩,λq U=>?_,(Gs.Oo s1).trans (Gs.Xh s1.has lo ht (g_ n2)),n2.trans n1⟩
  .simp only[zp,yx] at c9 G e4 ⊢
   simp[Cw,Iv,e1,c9,Hn,G,e3,Z,q',e4]
  .rw[r2 i hi,Xg];rfl
  .rcases dh.mp U with z|z
   .exact h.kd q z
   .have:q=(n,k):=by simpa using z
    rw[this];exact hk
  .rw[Xg,vf,dw]
   have a1:=v1 (rowsOf hs ad e).length (bw.mpr ⟨e,ju.mpr he,rfl⟩);have a2:(wT hs k e).length<=(uy hs k).length:=xf _ _
   simp only
   lia
  .rw[pq]
   refine zc.mpr ⟨h.nd,by simp,λa ha b hb=>?_⟩;refine hG λ_ _k=>?_
   obtain⟨q,U,rfl⟩:=bw.mp ha;have:b=n:=by simpa using hb
   have:=hn q U;apply _k
   lia
  .rcases dh.mp U with z|z
   .have:=hn q z;exact A_ (e_ this)
   .have:q=(n,k):=by simpa using z
    rw[this];exact p8 n
 .have q':¬(v:Int)+((uy hs k).length:Int)<8:=by lia
  refine⟨some (.int k),some (.vl ((uy hs k).map λw=>D.tup [.int (Bu hs k w),w])),b7,b8,ad,M1,?_,⟨r1,h.kd,h.le,h.nd⟩,λq U=>by have:=hn q U;exact A_ (e_ this),Gs.Oo s1,n1⟩;simp only[zp,yx] at c9 G ⊢;simp[Cw,Iv,e1,c9,Hn,G,e3,Z,q']
theorem aix{M:cz}{x:D}:∀{ds:List D},(∀y∈ds,∃b,za M y x=some b)->∃bs:List Bool,Pz M x ds=some bs/\bs.length=ds.length/\∀(i:Nat)(y:D),ds[i]?=some y->(bs[i]?).map some=some (za M y x)
 |[],_=>⟨[],rfl,rfl,λi y h=>by simp at h⟩
 |y::l,h=>by
  refine hG λ_ _k=>?_
  obtain⟨b,G⟩:=h y (by simp);obtain⟨bs,R,h2,U⟩:=aix (λz Z=>h z (bh _ Z));apply _k;refine⟨b::bs,by simp[Pz,G,R],by simp[h2],λi z Z=>?_⟩;cases i with
  |zero=>simp at Z;subst Z;simp[G]|succ i=>simpa using U i z (by simpa using Z)
def a2u(h:∀y∈ds,∃b,za M y x=some b)(hx:x∈ds)(he:za M x x=some true):∃j y,Xx M x ds=some j/\ds[j]?=some y/\za M y x=some true:=by
 refine hG λ_ _k=>?_
 obtain⟨bs,h1,h2,U⟩:=aix h;obtain⟨i,hi,ei⟩:=qd hx;have R:=U i x (by simp[hi,ei]);rw[he] at R;obtain⟨b,e1,e2⟩:=cg.mp R;cases e2;apply _k;rw[Xx,h1,qw];cases q:bs.findIdx? id with
 |some j =>
  obtain⟨G,g2,_⟩:=vm.mp q;have g3:ds[j]?=some (ds[j]'(b_ G (f_ h2))):=dj (b_ G (f_ h2));have Z:=U j _ g3;rw[dj G] at Z;simp only[wy,Option.some.injEq] at Z;exact⟨j,_,rfl,g3,by rw[<- Z];simpa using g2⟩
 |none =>
  rw[yt] at q;have:=q true (az e1);simp at this
def awd(hp:M[p]?=some (.lst ds))(h:∀y∈ds,∃b,za M y x=some b)(G:x∈ds)(Z:za M x x=some true):∃(j:Nat)(y:D),Jl .index (.ref p) [x] M=.ok (.int j) M/\ds[j]?=some y/\za M y x=some true:=by
 refine hG λ_ _k=>?_
 obtain⟨j,y,R,h2,U⟩:=a2u h G Z;apply _k;exact⟨j,y,by simp[Jl,V3 (qm hp),R],h2,U⟩
def awe(hp:M[p]?=some (.lst ds)):Qa .index (.ref p) M=true:=by simp[Qa,qm hp]
def aqj(M:cz)(n k Z k':Nat)(a G:Int):za M (trD n k (.int a)) (trD Z k' (.int G))=some (decide (n=Z)&&(decide (k=k')&&(decide (a=G)&&true))):=by show O5 (Ka M 5) [.int n,.int k,.int a] [.int Z,.int k',.int G]=_;rw[Du (Kl M 4 n Z) (Du (Kl M 4 k k') (Du (ahc 4 a G) (show O5 (Ka M 5) [] []=some true from rfl)))]
def Kv(h:d∈rowsOf hs ad e):∃(n k:Nat)(x:Int),(n,k)∈ad/\.int x∈wT hs k e/\d=trD n k (.int x):=by
 refine hG λ_ _k=>?_
 obtain⟨q,G,U⟩:=List.mem_flatMap.mp h;obtain⟨w,Z,rfl⟩:=bw.mp U;obtain⟨x,rfl⟩:=a2t Z;apply _k;exact⟨q.1,q.2,x,G,Z,rfl⟩
def akz(h:(n,k)∈ad)(Z:w∈wT hs k e):trD n k w∈rowsOf hs ad e :=
 List.mem_flatMap.mpr ⟨(n,k),h,bw.mpr ⟨w,Z,rfl⟩⟩
structure Ae(hs:List F)(iu:List (List Kx×D))(ad:List (Nat×Nat))(j:Nat)(g:F)(js:Yf):Prop where
 len:js.length=(rowsOf hs ad g.a).length
 go:∀(i n k:Nat)(x:Int),(rowsOf hs ad g.a)[i]?=some (trD n k (.int x))->(rowsOf hs ad g.b)[js.getD i 0]?=some (trD n k (.int (bv hs iu j (.int x))))
def aqk(h:i<l.length):(l++[x]).getD i 0=l.getD i 0:=by rw[du,fc h,du]
def Ae.lt(h:Ae hs iu ad j g R):∀x∈R,x<(rowsOf hs ad g.b).length:=λx U=>by
 refine hG λ_ _k=>?_
 obtain⟨i,G,rfl⟩:=qd U;apply _k;have Z:i<(rowsOf hs ad g.a).length:=by rw[<- h.len];exact G
 refine hG λ_ _k=>?_
 obtain⟨n,k,y,_,_,e⟩:=Kv (p7 Z);have:=h.go i n k y (by rw[dj Z,e]);rw[du,dj G] at this;apply _k;exact(ak.mp this).1
def a2v(hm:1<=m)(P:Lp sz K hs iu)(hr:M[r]?=some (.dT iu)){j:Nat}(h:Rw hs K p ad M)(hj:hs[j]?=some g)(qk:rest.length=6) :
 ∃js:List Nat,Hl.den (PW m) ([a0,some (su K r hs),a2,some (.vl (v5 p K)),a4,a5,a6,a7,a8,a9,some (.int j),some (.int g.a),some (.int g.b)]++rest) M=.ok (.vl (js.map nD)) M /\
  Ae hs iu ad j g js:=by
 have hg:=az hj;have ha:=P.anc g hg;have hb:=P.ajt g hg;have ga:=h.rs _ ha;have gb:=h.rs _ hb;unfold Hl;refine hG λ_ _k=>?_
 obtain⟨ys,U,e,hI⟩:=Iz (W:=PW m) (v:=true) (k:=3) (t:=.names [19,20,21]) (it:=.ix (.v 3) (.v 11)) (e:=.bm .index (.ix (.v 3) (.v 12)) (.o (.tup (.q (.v 19) (.v 20) (.call 20 (.q (.v 1) (.v 21) (.v 10)))))))
  (ρ:=[a0,some (su K r hs),a2,some (.vl (v5 p K)),a4,a5,a6,a7,a8,a9,some (.int j),some (.int g.a),some (.int g.b)]++rest) (M:=M) (M1:=M) (d:=.ref (p+g.a)) (ds:=rowsOf hs ad g.a) (by simp[Sq ha]) (qm ga) (by have:=h.le _ ha;exact a_ this (by decide))
  (λi xs U=>U=M/\∃js:List Nat,xs=js.map nD/\js.length=i/\∀(G n k:Nat)(x:Int),G<i->(rowsOf hs ad g.a)[G]?=some (trD n k (.int x))->(rowsOf hs ad g.b)[js.getD G 0]?=some (trD n k (.int (bv hs iu j (.int x))))) ⟨rfl,[],rfl,rfl,by simp⟩ (λi xs U h=>by rw[h.1];exact qm ga)
  (λi y xs U hy hI=>by
   refine hG λ_ _k=>?_
   obtain⟨rfl,js,rfl,R,q2⟩:=hI;obtain⟨n,k,x,h1,h2,rfl⟩:=Kv (az hy);obtain⟨x',z,hx,hv,Xu⟩:=av9 P hj h2;cases z;obtain⟨jj,yy,e1,e2,e3⟩:=awd (x:=trD n k (.int (bv hs iu j (.int x)))) gb (λy hy=>by obtain⟨n',k',qv,_,_,rfl⟩:=Kv hy;exact⟨_,aqj _ _ _ _ _ _ _⟩) (akz h1 Xu) (by rw[aqj];simp);apply _k;refine⟨_,.int jj,U,rfl,?_,rfl,js++[jj],by simp[nD],by simp[R],λG n' k' x' qq Z=>?_⟩
   .have hl:rest.length=6:=qk
    match rest,hl with
    |[r0,r1,r2,r3,r4,r5],_ =>
     show(Ex.bm .index (.ix (.v 3) (.v 12)) (.o (.tup (.q (.v 19) (.v 20) (.call 20 (.q (.v 1) (.v 21) (.v 10))))))).den _ [a0,su K r hs,a2,D.vl (v5 p K),a4,a5,a6,a7,a8,a9,D.int j,D.int g.a,D.int g.b,r0,r1,r2,r3,r4,r5,D.int n,D.int k,D.int x] U=_;simp[Sq hb,awe gb,agr hm hr hx (show(-1:Int)<=j by lia) hv,ax0,e1]
   .by_cases z:G<i
    .rw[aqk (b_ z (g_ R))];exact q2 G n' k' x' z Z
    .refine hG λ_ _k=>?_
     have z:G=i:=u_ (z_ qq) (s_ z);subst z;rw[hy] at Z;simp only[trD,Option.some.injEq,D.tup.injEq,List.cons.injEq,D.int.injEq,Int.ofNat_inj,and_true] at Z;obtain⟨rfl,rfl,rfl⟩:=Z;apply _k;have ej:(js++[jj]).getD G 0=jj:=by rw[<- R];simp[du]
     rw[ej,e2];refine hG λ_ _k=>?_
     obtain⟨n3,k3,x3,_,_,rfl⟩:=Kv (az e2);rw[aqj] at e3;simp only[Option.some.injEq,aq,cu,and_true] at e3;obtain⟨rfl,rfl,rfl⟩:=e3;apply _k;rfl)
 obtain⟨rfl,js,rfl,R,q2⟩:=hI;apply _k;exact⟨js,by rw[e];rfl,R,λi n k x h=>q2 i n k x (ak.mp h).1 h⟩
noncomputable def up(Z:Nat->List Nat)(i:Nat)(ns:Yf):Nat->List Nat:=λe=>if e=i then ns else Z e
noncomputable def Hw(lo hi:Nat)(l:Yf):List Nat:=l.map λo=>if o=hi then lo else o
theorem aiy{lo hi:Nat}(h:lo<hi):∀l:List Nat,(Hw lo hi l).sum<=l.sum
 |[]=>bf _
 |a::l=>by
  have:=aiy h l;simp only[Hw,ig,List.sum_cons] at this ⊢;split<;>omega
theorem aiz{lo hi:Nat}(h:lo<hi):∀{l:Yf},hi∈l->(Hw lo hi l).sum<l.sum
 |a::l,hm=>by
  have Z:=aiy h l;simp only[Hw,ig,List.sum_cons] at Z ⊢
  by_cases z:a=hi
  .rw[cj z];exact b_ (G_ h) (a_ (v_ (g_ z)) (w_ Z))
  .have:=aiz h (show hi∈l from by simpa[j5 z] using hm)
   simp only[Hw] at this;rw[bx z];exact H_ this
noncomputable def Yc(K:Nat)(Z:Nat->List Nat):Nat:=((List.range K).map λi=>(Z i).sum).sum
theorem aql{Z:Nat->List Nat}{b:Nat}{ns:Yf}(h:ns.sum<(Z b).sum):∀K,Yc K (up Z b ns)<=Yc K Z/\(b<K->Yc K (up Z b ns)<Yc K Z)
 |0=>⟨bf _,λz=>absurd z (yz _)⟩
 |K+1=>by
  obtain⟨G,U⟩:=aql h K;simp only[Yc,Ai,pq,List.sum_append,ig,List.map_nil,List.sum_cons,List.sum_nil] at G U ⊢
  by_cases z:K=b
  .subst z
   have e:up Z K ns K=ns:=by simp[up]
   rw[e];constructor
   .exact e_ (c_ (v_ G) (H_ (G_ h)))
   .intro _;exact c_ (v_ G) (H_ (G_ h))
  .have e:up Z b ns K=Z K:=by simp[up,z]
   rw[e];constructor
   .exact v_ G
   .intro q;have:=U (by lia);exact G_ this
structure Mk(t pm K:Nat)(L:Nat->Nat)(ms:Nat->List Nat)(M:cz):Prop where
 ex:∃mds:List D,M[pm]?=some (.lst mds)/\mds.length=K/\∀i,i<K->∃d,mds[i]?=some d/\fu M d=some ((ms i).map nD)/\∀a,d=.ref a->t<a/\a<pm
 len:∀i,i<K->(ms i).length=L i
 lt:∀i,i<K->∀x∈ms i,x<L i
 fx:∀i,i<K->∀x∈ms i,(ms i).getD x 0=x
def Xi(h:fu M d=some ds)(k:∀a o,d=.ref a->M[a]?=some o->M'[a]?=some o):fu M' d=some ds:=by
 cases d with
 |ref a =>
  simp only[fu] at h ⊢;cases e:M[a]? with
  |none=>rw[e] at h;cases h|some o=>rw[e] at h;rw[k a o rfl e];exact h
 |vl Z=>exact h|_=>cases h
def Mk.frame(h:Mk t G K L ms M)(k:∀(a:Nat) (o:MO),t<a->a<=G->M[a]?=some o->M'[a]?=some o)(ht:t<G):Mk t G K L ms M':=by
 refine hG λ_ _k=>?_
 obtain⟨U,h1,h2,R⟩:=h.ex;apply _k;refine⟨⟨U,k _ _ ht (bf _) h1,h2,λi hi=>?_⟩,h.len,h.lt,h.fx⟩;refine hG λ_ _k=>?_
 obtain⟨d,g1,g2,Z⟩:=R i hi;apply _k;exact⟨d,g1,Xi g2 λa o e q=>k a o (Z a e).1 (yu (Z a e).2) q,Z⟩
def Mk.row(h:Mk t pm K L ms M)(hi:i<K):∃d,Aw (.ref pm) (.int i) M=some d/\fu M d=some ((ms i).map nD):=by
 refine hG λ_ _k=>?_
 obtain⟨qq,U,h2,Z⟩:=h.ex;obtain⟨d,R,G,_⟩:=Z i hi;apply _k;exact⟨d,Cy (qm U) q_ (by simpa using R),G⟩
def Qq{l:Yf}(h:fu M d=some (l.map nD))(Z:x<l.length):Aw d (.int x) M=some (.int (l.getD x 0)) :=
 Cy h q_ (by simp[Z,nD])
def getD_mem'{l:Yf}(Z:x<l.length):l.getD x 0∈l:=by rw[du,dj Z];exact p7 Z
set_option tactic.hygienic true in
theorem Mk.set(h:Mk t G K L C M)(hi:i<K)(h1:ns.length=L i)(h2:∀x∈ns,x<L i)(h4:∀x∈ns,ns.getD x 0=x)(ht:t<G) :
 ∃o,setOp (.ref G) (.int i) (.vl (ns.map nD)) M=some (M.set G o)/\Mk t G K L (up C i ns) (M.set G o):=by
 refine hG λ_ _k=>?_
 obtain⟨J,R,U,g3⟩:=h.ex;apply _k;refine⟨.lst (J.set i (.vl (ns.map nD))),?_,⟨J.set i (.vl (ns.map nD)),ur R,by simp[U],λe Y=>?_⟩,λe Y=>?_,λe Y x Z=>?_,λe Y x Z=>?_⟩
 .have:=Z9 (d:=.vl (ns.map nD)) (i:=i) R q_ (m_ (b_ hi (g_ U)))
  simpa using this
 .by_cases z:e=i
  .subst z
   exact⟨.vl (ns.map nD),by simp[U,Y],by simp[up],λa q=>by cases q⟩
  .refine hG λ_ _k=>?_
   obtain⟨d,y,u,S⟩:=g3 e Y;apply _k;refine⟨d,by rw[vq (j5 z)];exact y,?_,S⟩;have:up C i ns e=C e:=by simp[up,z]
   rw[this];exact Xi u λa o q w=>by rw[qp (by have:=(S a q).2;exact i_ this)];exact w
 .unfold up;split
  .rename_i z;rw[z];exact h1
  .exact h.len e Y
 .unfold up at Z;split at Z
  .rename_i z;rw[z];exact h2 x Z
  .exact h.lt e Y x Z
 .unfold up at Z ⊢;split at Z
  .rename_i z;rw[cj z];exact h4 x Z
  .rename_i z;rw[bx z];exact h.fx e Y x Z
def getD_map{α:Type}{l:Yf}{f:Nat->Nat}{x:Nat}(h:x<l.length):(l.map f).getD x 0=f (l.getD x 0):=by simp[du,jh,dj h]
set_option tactic.hygienic true in
def ai0(U:∀x∈l,l.getD x 0=x)(lt:∀x∈l,x<l.length)(Z:lo∈l):∀x∈Hw lo hi l,(Hw lo hi l).getD x 0=x:=λx G=>by
 obtain⟨o,J,e⟩:=bw.mp G;have Y:x∈l:=by
  split at e
  .rw[<- e];exact Z
  .rw[<- e];exact J
 unfold Hw;rw[getD_map (α:=Nat) (lt x Y),U x Y]
 by_cases z:x=hi
 .rw[cj z]
  split at e
  .exact e
  .rename_i w;exact absurd (e.trans z) w
 .rw[bx z]
structure Ac(q:Nat)(hs:List F)(L:Nat->Nat)(as:List (List Nat))(M:cz):Prop where
 at_:M[q]?=some (.lst (as.map λjs=>.vl (js.map nD)))
 len:as.length=hs.length
 ok:∀(j:Nat)(g:F)(js:Yf),hs[j]?=some g->as[j]?=some js->js.length=L g.a/\∀x∈js,x<L g.b
def Ac.get(h:Ac q hs L as M){j:Nat}(U:hs[j]?=some g):∃Z,as[j]?=some Z/\Aw (.ref q) (.int j) M=some (.vl (Z.map nD))/\Z.length=L g.a/\∀x∈Z,x<L g.b:=by
 have R:=(ak.mp U).1;have G:j<as.length:=by rw[h.len];exact R
 have e:as[j]?=some as[j]:=dj G;exact⟨_,e,Cy (qm h.at_) q_ (by simp[e]),h.ok j g _ U e⟩
def a2w(h:M[n]?=some (.dK Z)):Jl .get (.ref n) [.int k,d] M=.ok ((xu Z (.inl k)).getD d) M:=by simp[Jl,h]
def a9x(h:M[n]?=some (.dK Z)):Qa .get (.ref n) M=true:=by simp[Qa,h]
def a2x(h:M[n]?=some (.dK Z))(hl:Z.length<100000):setOp (.ref n) (.int k) d M=some (M.set n (.dK (Dd Z (.inl k) d))):=by simp[setOp,h,hl]
def aqn[DecidableEq R]{Z:List (R×D)}(h:xu Z k=some v):∃p∈Z,p.2=v:=by unfold xu at h;obtain⟨p,U,G⟩:=cg.mp h;exact⟨p,List.mem_of_find?_eq_some U,G⟩
def awf[DecidableEq R]{G:List (R×D)}(h:p∈Dd G k v):p∈G\/p.2=v:=by
 unfold Dd at h;split at h
 .obtain⟨q,U,Z⟩:=bw.mp h
  split at Z
  .rw[<- Z];exact .inr rfl
  .rw[<- Z];exact .inl U
 .rcases dh.mp h with z|z
  .exact .inl z
  .have:p=(k,v):=by simpa using z
   rw[this];exact .inr rfl
def J1[DecidableEq Z](p:Z×D)(r:List (Z×D))(k:Z):xu (p::r) k=if p.1=k then some p.2 else xu r k:=by
 unfold xu
 by_cases h:p.1=k
 .simp[t7,h]
 .simp[t7,h]
theorem Xj{U:Type}[DecidableEq U]{k k':U}{v:D}:∀{Z:List (U×D)},(∃p∈Z,p.1=k)->xu (Z.map λp=>if p.1=k then(p.1,v) else p) k'=if k'=k then some v else xu Z k'
 |p::r,h=>by
  rw[ig,J1,J1]
  by_cases a:p.1=k
  .rw[cj a]
   by_cases b:k'=k
   .simp[a,b]
   .have c:¬p.1=k':=λz=>b (z.symm.trans a)
    rw[bx c,bx b,bx c]
    by_cases d:∃p∈r,p.1=k
    .rw[Xj d,bx b]
    .congr 1
     conv=>rhs;rw[<- List.map_id r]
     apply wu;intro q hq;rw[bx λz=>d ⟨q,hq,z⟩];rfl
  .rw[bx a]
   have d:∃p∈r,p.1=k:=by
    obtain⟨q,G,R⟩:=h;rcases bz.mp G with rfl|G
    .exact absurd R a
    .exact⟨q,G,R⟩
   rw[Xj d]
   by_cases b:k'=k
   .have c:¬p.1=k':=λz=>a (z.trans b)
    rw[bx c];simp[b]
   .simp[b]
theorem aeo{Z:Type}[DecidableEq Z]{k k':Z}{v:D}:∀{G:List (Z×D)},(∀p∈G,p.1≠k)->xu (G++[(k,v)]) k'=if k'=k then some v else xu G k'
 |[],_=>by
  rw[yx,J1]
  by_cases b:k'=k
  .simp[b]
  .simp[b,j5 b]
 |p::r,h=>by
  rw[zp,J1,J1,aeo (λq U=>h q (bh _ U))];have a:=h p (by simp)
  by_cases b:k'=k
  .have c:¬p.1=k':=λz=>a (z.trans b)
   rw[bx c];simp[b]
  .simp[b]
def aqo[DecidableEq G](Z:List (G×D))(k k':G)(v:D):xu (Dd Z k v) k'=if k'=k then some v else xu Z k':=by
 unfold Dd
 by_cases h:(Z.any λp=>decide (p.1=k))=true
 .rw[cj h]
  exact Xj (by simpa using h)
 .rw[bx h]
  exact aeo (λp U z=>h (zm.mpr ⟨p,U,by simpa using z⟩))
def ai1[DecidableEq G](Z:List (G×D))(k:G)(v:D):(Dd Z k v).length<=Z.length+1:=by unfold Dd;split<;>simp
def abr(M:cz)(a b:Nat):za M (.int a) (.int b)=some (decide (a=b)):=Bg M a b
noncomputable def Fm(Z n:Nat)(M M':cz):Prop:=∀(a:Nat)(o:MO),a≠Z->a<n->M[a]?=some o->M'[a]?=some o
def ai2(M:cz)(a b:Nat):rz .min [.int a,.int b] M=.ok (.int (min a b:Nat)) M:=by
 show Res.ok (D.int (if(b:Int)<(a:Int) then(b:Int) else(a:Int))) M=_
 by_cases h:b<a
 .rw[cj (m_ h),Nat.min_eq_right (e_ h)]
 .rw[bx (by lia),Nat.min_eq_left (s_ h)]
def abt(M:cz)(a b:Nat):rz .max [.int a,.int b] M=.ok (.int (max a b:Nat)) M:=by
 show Res.ok (D.int (if(a:Int)<(b:Int) then(b:Int) else(a:Int))) M=_
 by_cases h:a<b
 .rw[cj (m_ h),Nat.max_eq_right (e_ h)]
 .rw[bx (by lia),Nat.max_eq_left (s_ h)]
def aep(hx:(Ex.ix (.var v) (.var x)).den W ρ M=.ok d M)(hd:fu M d=some (l.map nD))(hl:l.length<=100000)(hy:y=ρ.length)(U:ρ[a]?=some (some (.int lo)))(Z:ρ[b]?=some (some (.int hi))) :
 (Ex.comp true 1 (.name y) (.val (.ix (.var v) (.var x))) (.ite (.cmp .eq (.var y) (.var b)) (.var a) (.var y))).den W ρ M=.ok (.vl ((Hw lo hi l).map nD)) M:=by
 subst hy;have ha:=(ak.mp U).1;have hb:=(ak.mp Z).1;rw[Ao (d:=d) (ds:=l.map nD) (M1:=M) (g:=λd=>match d with|.int o=>nD (if o.toNat=hi then lo else o.toNat)|_=>.non) hx hd (by simpa using hl) (λz hz=>by
  refine hG λ_ _k=>?_
  obtain⟨o,ho,rfl⟩:=bw.mp hz;apply _k;refine⟨_,rfl,?_⟩;have e1:(ρ++List.replicate 1 none).set ρ.length (some (nD o))=ρ++[some (.int o)]:=by rw[List.set_append];simp[nD]
  have R:(ρ++[some (D.int o)])[a]?=some (some (.int lo)):=by rw[fc ha];exact U
  have g2:(ρ++[some (D.int o)])[b]?=some (some (.int hi)):=by rw[fc hb];exact Z
  have G:(ρ++[some (D.int o)])[ρ.length]?=some (some (.int o)):=by simp
  rw[e1]
  by_cases z:o=hi
  .subst z;simp[-eq_int,R,g2,G,abr,nD]
  .simp[-eq_int,R,g2,G,abr,z,nD])]
 simp[Hw,nD]
def awg(Z:(Ex.ix (.v 1) (.var x)).den W ρ M=.ok d M)(hd:fu M d=some (l.map nD))(hl:l.length<=100000)(G:y=ρ.length)(U:12<y)(R:ρ[11]?=some (some (.int lo)))(h2:ρ[12]?=some (some (.int hi))) :
 (Ex.comp true 1 (.name y) (.val (.ix (.v 1) (.var x))) (.ite (.cmp .eq (.var y) (.v 12)) (.v 11) (.var y))).den W ρ M=.ok (.vl ((Hw lo hi l).map nD)) M:=aep Z hd hl G R h2
structure Fd(dd:Nat)(b:Yf)(n:Nat)(M:cz):Prop where
 ex:∃kv:List (Kx×D),M[dd]?=some (.dK kv)/\kv.length<=n/\(∀p∈kv,∃e:Nat,p.2=.int e/\e∈b)
def aqp{j:Nat}(mk:Mk t Z K L U M)(ac:Ac q hs L as M)(hj:hs[j]?=some g)(ga:g.a<K)(gb:g.b<K)(hd:M[dd]?=some (.dK []))(z0:Z<dd)(zv:q<dd)(z2:q≠Z)(ht:t<Z)(hL:∀e,e<K->L e<=7) :
 ∃R M',K8.den W [su K r hs,D.ref Z,D.ref q,b3,D.int j,D.int g.a,D.int g.b,D.ref dd,b8,b9,b10,Lb,Lj] M=.ok (.next,R) M' /\
  ∃c3 c7 c8 c9 G qq qk,R=[some (su K r hs),some (.ref Z),some (.ref q),c3,some (.int j),some (.int g.a),some (.int g.b),c7,c8,c9,G,qq,qk]/\Fm Z dd M M'/\M.length<=M'.length /\
   ((c3=b3/\Mk t Z K L U M')\/(c3=some (.bl true)/\∃O4,Mk t Z K L O4 M'/\Yc K O4<Yc K U)):=by
 refine hG λ_ _k=>?_
 obtain⟨js,ej,_,lj,rj⟩:=ac.get hj;obtain⟨da,fa,la⟩:=mk.row ga;have q4:=mk.len _ ga;have zz:=hL _ ga;apply _k;refine ach (W:=W) (t:=.name 8) (b:=Cg) (it:=.blt .len (.o (.ix (.v 1) (.v 5)))) (n:=L g.a) (M1:=M) ?_ (a_ zz (by decide))
  (λi ρ M'=>(∃b8 b9 b10,ρ=[some (su K r hs),some (.ref Z),some (.ref q),b3,some (.int j),some (.int g.a),some (.int g.b),some (.ref dd),b8,b9,b10,Lb,Lj])/\Mk t Z K L U M'/\Fd dd (U g.b) i M'/\Pr dd M M'/\M'.length=M.length)
  (fun R M'=>∃c3 c7 c8 c9 G qq qk,R=[some (su K r hs),some (.ref Z),some (.ref q),c3,some (.int j),some (.int g.a),some (.int g.b),c7,c8,c9,G,qq,qk]/\Fm Z dd M M'/\M.length<=M'.length /\
   ((c3=b3/\Mk t Z K L U M')\/(c3=some (.bl true)/\∃O4,Mk t Z K L O4 M'/\Yc K O4<Yc K U)))
  ⟨⟨b8,b9,b10,rfl⟩,mk,⟨[],hd,bf _,by simp⟩,Pr.refl _ _,rfl⟩ (fun ρ M' h=>?_) (λi ρ M1 hi hI=>?_)
 .have e:=len_list la
  simp only[dw,q4] at e;simp[fa,e]
 .refine hG λ_ _k=>?_
  obtain⟨⟨c8,c9,G,rfl⟩,h1,_,h3,h4⟩:=h;apply _k;exact⟨b3,_,c8,c9,G,Lb,Lj,rfl,λa o _ x e=>h3 a o x e,g_ h4,.inl ⟨rfl,h1⟩⟩
 .refine hG λ_ _k=>?_
  obtain⟨⟨c8,c9,G,rfl⟩,h1,⟨kv,k1,k2,k3⟩,h3,h4⟩:=hI;obtain⟨da,fa,la⟩:=h1.row ga;obtain⟨db,fb,lb⟩:=h1.row gb;have zk:Ac q hs L as M1:=⟨h3 _ _ zv ac.at_,ac.len,ac.ok⟩;obtain⟨z1,q3,fj,_,_⟩:=zk.get hj;rw[ej] at q3;cases q3;have q2:=Qq la (show i<(U g.a).length by rw[q4];exact hi);have q0:Aw (.vl (js.map nD)) (.int i) M1=some (.int (js.getD i 0)):=Qq rfl (b_ hi (g_ lj));apply _k;have hy:js.getD i 0<(U g.b).length:=by rw[h1.len _ gb];exact rj _ (getD_mem' (b_ hi (g_ lj)))
  generalize hy0:js.getD i 0=y at q0 hy;have q1:=Qq lb hy;have hz:=getD_mem' hy;generalize hx0:(U g.a).getD i 0=x at q2;generalize hz0:(U g.b).getD y 0=z at q1 hz;have gt:=a2w (k:=(x:Int)) (d:=.int z) k1;have ty:=a9x k1;have qv:((xu kv (.inl (x:Int))).getD (.int z)=.int z)->∃q6 fl R M',(Tg.name 8).put (.int i) [some (su K r hs),some (.ref Z),some (.ref q),b3,some (.int j),some (.int g.a),some (.int g.b),some (.ref dd),c8,c9,G,Lb,Lj]=some q6/\Cg.den W q6 M1=.ok (fl,R) M' /\
   (((fl=.next\/fl=.cont)/\(∃b8 b9 b10,R=[some (su K r hs),some (.ref Z),some (.ref q),b3,some (.int j),some (.int g.a),some (.int g.b),some (.ref dd),b8,b9,b10,Lb,Lj])/\Mk t Z K L U M'/\Fd dd (U g.b) (i+1) M'/\Pr dd M M'/\M'.length=M.length) \/
     (fl=.brk/\∃c3 c7 c8 c9 G qq qk,R=[some (su K r hs),some (.ref Z),some (.ref q),c3,some (.int j),some (.int g.a),some (.int g.b),c7,c8,c9,G,qq,qk]/\Fm Z dd M M'/\M.length<=M'.length /\
      ((c3=b3/\Mk t Z K L U M')\/(c3=some (.bl true)/\∃O4,Mk t Z K L O4 M'/\Yc K O4<Yc K U)))):=λhg=>by
   rw[hg] at gt;have st:=a2x (k:=(x:Int)) (d:=.int z) k1 (by have:=hL _ ga;exact c_ k2 (b_ hi (a_ zz (by decide))));refine⟨_,.next,_,M1.set dd (.dK (Dd kv (.inl (x:Int)) (.int z))),rfl,?_,.inl ⟨.inl rfl,⟨some (.int i),some (.int x),some (.int z),rfl⟩,h1.frame (λa o _ ha e=>by rw[qp (i_ (c_ ha z0))];exact e) ht,⟨_,ur k1,?_,?_⟩,h3.trans (Pr.set (bf _)),by simp[h4]⟩⟩
   .simp[-eq_int,Cg,fa,q2,fb,fj,q0,q1,ty,gt,abr,st]
   .have:=ai1 kv (.inl (x:Int)) (.int z);exact a_ this (v_ k2)
   .intro p hp
    rcases awf hp with w|w
    .exact k3 p w
    .exact⟨z,w,hz⟩
  cases hlk:xu kv (.inl (x:Int)) with
  |none=>exact qv (by rw[hlk];rfl)
  |some v =>
   refine hG λ_ _k=>?_
   obtain⟨p,hp,rfl⟩:=aqn hlk;obtain⟨e,he,q8⟩:=k3 p hp;rw[he] at hlk;apply _k
   by_cases q7:e=z
   .exact qv (by rw[hlk,q7];rfl)
   .rw[hlk] at gt
    have ix:=a6d (b:=.int x) k1 rfl;rw[show(Sum.inl (x:Int):Kx)=.inl (x:Int) from rfl,hlk] at ix;have lh:min e z<max e z:=by lia
    have hm:max e z∈U g.b:=by
     rcases Nat.le_total e z with w|w
     .rw[Nat.max_eq_right w];exact hz
     .rw[Nat.max_eq_left w];exact q8
    have q5:min e z∈U g.b:=by
     rcases Nat.le_total e z with w|w
     .rw[Nat.min_eq_left w];exact q8
     .rw[Nat.min_eq_right w];exact hz
    have rp:=awg (W:=W) (M:=M1) (ρ:=[su K r hs,D.ref Z,D.ref q,b3,D.int j,D.int g.a,D.int g.b,D.ref dd,D.int i,D.int x,D.int z,D.int (min e z:Nat),D.int (max e z:Nat)]) (x:=6) (y:=13) (lo:=min e z) (hi:=max e z) (by simp[fb]) lb (by rw[h1.len _ gb];have:=hL _ gb;exact a_ this (by decide)) rfl (by decide) rfl rfl;obtain⟨o,so,zw⟩:=h1.set gb (ns:=Hw (min e z) (max e z) (U g.b)) (by simp[Hw,h1.len _ gb]) (λy hy=>by
     refine hG λ_ _k=>?_
     obtain⟨w,hw,rfl⟩:=bw.mp hy;apply _k;split
     .exact h1.lt _ gb _ q5
     .exact h1.lt _ gb _ hw) (ai0 (h1.fx _ gb) (λx hx=>by rw[h1.len _ gb];exact h1.lt _ gb x hx) q5) ht
    have ne:¬((e:Nat)=z):=q7;refine⟨_,.brk,_,M1.set Z o++[.dK []],rfl,?_,.inr ⟨rfl,some (.bl true),some (.ref (M1.set Z o).length),some (.int i),some (.int x),some (.int z),some (.int (min e z:Nat)),some (.int (max e z:Nat)),rfl,λa u na ha q=>?_,by simp;exact a_ (g_ h4) x_,.inr ⟨rfl,_,zw.frame (λa u _ _ q=>qt q) ht,(aql (aiz lh hm) K).2 gb⟩⟩⟩
    .simp only[Option.getD_some] at gt
     simp[-eq_int,Cg,fa,q2,fb,fj,q0,q1,ty,gt,abr,ne,ix,ai2,abt,K7,rp,so,MW.new]
    .refine qt ?_
     rw[qp (j5 na)];exact h3 a u ha q
def Fm.trans(a:Fm Z n M M1)(b:Fm Z n M1 M2):Fm Z n M M2:=λx o h l e=>b x o h l (a x o h l e)
def Fm.le(a:Fm G n M M1)(h:Z<=n):Fm G Z M M1:=λx o q l e=>a x o q (b_ l h) e
theorem ags:∀{l:Yf}{c:Nat},(∀x∈l,x<=c)->l.sum<=l.length*c
 |[],_,_=>by simp
 |a::l,c,h=>by
  have U:=h a (by simp);have G:=ags (λx Z=>h x (bh _ Z));simp only[List.sum_cons,gm,Nat.succ_mul]
  lia
def a2z(R:Mk t pm K L G M)(hL:∀e,e<K->L e<=7)(hK:K<=3):Yc K G<=200:=by
 have:∀x∈(List.range K).map λi=>(G i).sum,x<=49:=λx U=>by
  refine hG λ_ _k=>?_
  obtain⟨i,Z,rfl⟩:=bw.mp U;have Z:=ju.mp Z;have h1:=ags (l:=G i) (c:=7) (λx U=>by have:=R.lt i Z x U;have:=hL i Z;lia);have h2:=R.len i Z;have h3:=hL i Z;have h4:(G i).length*7<=7*7:=Nat.mul_le_mul_right 7 (a_ (f_ h2) h3)
  apply _k
  lia
 have h:=ags this;simp only[dw,List.length_range] at h;have h5:K*49<=3*49:=Nat.mul_le_mul_right 49 hK
 unfold Yc
 lia
def aqr(P:Lp sz K hs iu)(mk:Mk t Z K L ms M)(ac:Ac q hs L as M)(q3:Z<M.length)(qv:q<M.length)(q0:q≠Z)(ht:t<Z)(hL:∀e,e<K->L e<=7) :
 ∃qq M',K9.den W [su K r hs,D.ref Z,D.ref q,b3,b4,b5,b6,b7,b8,b9,b10,Lb,Lj] M=.ok (.next,qq) M' /\
  ∃c3 c4 c5 c6 c7 c8 c9 U G R O4,qq=[some (su K r hs),some (.ref Z),some (.ref q),c3,c4,c5,c6,c7,c8,c9,U,G,R]/\Fm Z M.length M M'/\M.length<=M'.length/\Mk t Z K L O4 M'/\((c3=b3/\O4=ms)\/(c3=some (.bl true)/\Yc K O4<Yc K ms)):=by
 have hl:=P.len;refine zx (W:=W) (t:=.name 4) (b:=Dk) (it:=.blt .len (.o (.ix (.v 0) (.i 1)))) (n:=hs.length) (M1:=M) (by simp[Pq,Qm]) (a_ hl (by decide))
  (λn qq M'=>∃c3 c4 c5 c6 c7 c8 c9 U G R O4,qq=[some (su K r hs),some (.ref Z),some (.ref q),c3,c4,c5,c6,c7,c8,c9,U,G,R]/\Fm Z M.length M M'/\M.length<=M'.length/\Mk t Z K L O4 M'/\((c3=b3/\O4=ms)\/(c3=some (.bl true)/\Yc K O4<Yc K ms)))
  ⟨b3,b4,b5,b6,b7,b8,b9,b10,Lb,Lj,ms,rfl,λ_ _ _ _ e=>e,bf _,mk,.inl ⟨rfl,rfl⟩⟩ (λj ρ M1 hj hI=>?_)
 refine hG λ_ _k=>?_
 obtain⟨c3,c4,c5,c6,c7,c8,c9,U,G,R,m1,rfl,f1,l1,k1,o1⟩:=hI;have qk:hs[j]?=some hs[j]:=by simp[hj]
 have hg:=az qk;have k2:Mk t Z K L m1 (M1++[.dK []]):=k1.frame (λa o _ _ e=>qt e) ht;have q5:Ac q hs L as (M1++[.dK []]):=⟨qt (f1 _ _ q0 qv ac.at_),ac.len,ac.ok⟩;obtain⟨q6,M2,e2,d3,d7,d8,d9,q1,q2,q4,rfl,f2,l2,o2⟩:=aqp (W:=W) (r:=r) (dd:=M1.length) (b3:=c3) (b8:=c8) (b9:=c9) (b10:=U) (Lb:=G) (Lj:=R) k2 q5 qk (P.anc _ hg) (P.ajt _ hg) (by simp) (b_ q3 l1) (b_ qv l1) q0 ht hL;have f3:Fm Z M.length M M2:=λa o na ha e=>f2 a o na (b_ ha l1) (qt (f1 a o na ha e))
 apply _k;have l3:M.length<=M2.length:=by simp at l2;lia
 have pe:∀ρ,(Tg.names [5,6]).put (eD hs[j]) ρ=some ((ρ.set 5 (some (.int hs[j].a))).set 6 (some (.int hs[j].b))):=λ_=>rfl
 have run:Dk.den W [su K r hs,D.ref Z,D.ref q,c3,D.int j,c5,c6,c7,c8,c9,U,G,R] M1=.ok (.next,[some (su K r hs),some (.ref Z),some (.ref q),d3,some (.int j),some (.int hs[j].a),some (.int hs[j].b),d7,d8,d9,q1,q2,q4]) M2:=by simp[Dk,Pq,Rq qk,pe,MW.new,e2]
 refine⟨_,.next,_,M2,rfl,run,.inl rfl,?_⟩;rcases o2 with⟨rfl,k3⟩|⟨rfl,m2,k3,t3⟩
 .rcases o1 with⟨rfl,rfl⟩|⟨rfl,t1⟩
  .exact⟨_,_,_,_,_,_,_,_,_,_,m1,rfl,f3,l3,k3,.inl ⟨rfl,rfl⟩⟩
  .exact⟨_,_,_,_,_,_,_,_,_,_,m1,rfl,f3,l3,k3,.inr ⟨rfl,t1⟩⟩
 .refine⟨_,_,_,_,_,_,_,_,_,_,m2,rfl,f3,l3,k3,.inr ⟨rfl,?_⟩⟩
  rcases o1 with⟨_,rfl⟩|⟨_,t1⟩<;>omega
def ak0(hm:1<=m)(P:Lp sz K hs iu)(mk:Mk t Z K L ms M)(ac:Ac q hs L as M)(q3:Z<M.length)(q0:q<M.length)(q1:q≠Z)(ht:t<Z)(hL:∀e,e<K->L e<=7) :
 ∃U M',prog.call m 28 [su K r hs,.ref Z,.ref q] M=.ok (.ref Z) M'/\Mk t Z K L U M'/\Fm Z M.length M M'/\M.length<=M'.length:=by
 rw[call_of hm rfl];refine hG λ_ _k=>?_
 obtain⟨G,M',e,U,k1,f1,R,c,q2⟩:∃G M',Gm.den (PW (m-1)) [some (su K r hs),some (.ref Z),some (.ref q),some (.bl true),none,none,none,none,none,none,none,none,none] M=.ok (.next,G) M' /\
  ∃U,Mk t Z K L U M'/\Fm Z M.length M M'/\M.length<=M'.length/\∃c:Env,G=[some (su K r hs),some (.ref Z)]++c:=by
  unfold Gm;rw[Z8];refine Ou (λm ρ M'=>∃(U:Nat->List Nat)(b:Bool)(c:Env),ρ=[some (su K r hs),some (.ref Z),some (.ref q),some (.bl b)]++c/\c.length=9/\Mk t Z K L U M'/\Fm Z M.length M M'/\M.length<=M'.length/\m=(if b then Yc K U+1 else 0))
   (fun G M'=>∃U,Mk t Z K L U M'/\Fm Z M.length M M'/\M.length<=M'.length/\∃c:Env,G=[some (su K r hs),some (.ref Z)]++c) (λn ρ M1 hI=>?_) afs (Yc K ms+1) _ M (by have:=a2z mk hL P.k3;show Yc K ms+1<1000000;lia)
   ⟨ms,true,[none,none,none,none,none,none,none,none,none],rfl,rfl,mk,λ_ _ _ _ e=>e,bf _,rfl⟩
  refine hG λ_ _k=>?_
  obtain⟨m1,b,c,rfl,hc,k1,f1,R,rfl⟩:=hI;apply _k
  match c,hc with
  |[c4,c5,c6,c7,c8,c9,c10,c11,c12],_ =>
  cases b with
  |false=>exact .inl ⟨M1,rfl,m1,k1,f1,R,_,rfl⟩
  |true =>
   right
   refine hG λ_ _k=>?_
   obtain⟨q4,M2,e2,d3,d4,d5,d6,d7,d8,d9,qq,qk,qv,m2,rfl,f2,l2,k2,o2⟩:=aqr (W:=PW (m-1)) (r:=r) (as:=as) P k1 (⟨f1 _ _ q1 q0 ac.at_,ac.len,ac.ok⟩:Ac q hs L as M1) (b_ q3 R) (b_ q0 R) q1 ht hL (b3:=some (.bl false)) (b4:=c4) (b5:=c5) (b6:=c6) (b7:=c7) (b8:=c8) (b9:=c9) (b10:=c10) (Lb:=c11) (Lj:=c12);have f3:Fm Z M.length M M2:=f1.trans (f2.le R);have run:Gk.den (PW (m-1)) [some (su K r hs),some (.ref Z),some (.ref q),some (.bl true),c4,c5,c6,c7,c8,c9,c10,c11,c12] M1=.ok (.next,[some (su K r hs),some (.ref Z),some (.ref q),d3,d4,d5,d6,d7,d8,d9,qq,qk,qv]) M2:=by simp[Gk,e2]
   apply _k;rcases o2 with⟨rfl,rfl⟩|⟨rfl,t3⟩
   .exact⟨M1,.next,_,M2,0,rfl,run,.inl rfl,by simp,m2,false,[d4,d5,d6,d7,d8,d9,qq,qk,qv],rfl,rfl,k2,f3,a_ R l2,rfl⟩
   .exact⟨M1,.next,_,M2,Yc K m2+1,rfl,run,.inl rfl,by simp;exact t3,m2,true,[d4,d5,d6,d7,d8,d9,qq,qk,qv],rfl,rfl,k2,f3,a_ R l2,rfl⟩
 subst q2;apply _k;refine⟨U,M',?_,k1,f1,R⟩;simp only[zp,yx] at e;simp[Fn.run,Pb,Pa,e]
theorem Vr:∀l:List Nat,Th (l.map nD)=some (l.map λ(x:Nat)=>(x:Int))
 |[]=>rfl|a::l=>by show(Th (l.map nD)).map _=_;rw[Vr l];rfl
def agt{M:cz}(h:fu M d=some l):wz M d=some l:=by
 cases d with
 |tup _=>cases h|_=>exact h
noncomputable def Gq(b:Nat)(f:Nat->Bool):List Nat:=(List.range b).filter f
def Kw(b:Nat)(f:Nat->Bool):(Gq b f).length<=b:=by have:=xf f (List.range b);rw[List.length_range] at this;exact this
def G3:x∈Gq b f↔x<b/\f x=true:=by rw[Gq,uz,ju]
def agu(b:Nat)(f:Nat->Bool):(Gq b f).Pairwise (· < ·):=List.pairwise_lt_range.filter f
def Zu{is:U1}{f:Nat->Bool}(h:∀y,y∈is↔∃z:Nat,z<b/\f z=true/\y=z):sortI (Aa is)=(Gq b f).map λ(x:Nat)=>(x:Int) :=
 (ahe (List.pairwise_map.mpr ((agu b f).imp λh=>by lia)) (Av.mpr (List.pairwise_map.mpr ((agu b f).imp λh=>by lia))) λy=>by
  rw[h,bw];constructor
  .rintro⟨z,G,U,rfl⟩;exact⟨z,G3.mpr ⟨G,U⟩,rfl⟩
  .rintro⟨z,Z,rfl⟩;exact⟨z,(G3.mp Z).1,(G3.mp Z).2,rfl⟩).symm
def ai3(l:Yf):(l.map λ(x:Nat)=>(x:Int)).map D.int=l.map nD:=by rw[Bl];rfl
def mem_cast{l:Yf}{y:Int}:y∈l.map (λ(x:Nat)=>(x:Int))↔∃z:Nat,z∈l/\y=z:=by rw[bw];constructor<;>rintro⟨z,h,e⟩<;>exact⟨z,h,e.symm⟩
def abw{M:cz}{l:Yf}(h:wz M d=some (l.map nD))(R:b<=7\/l.length<31)(G:∀z,z∈l↔z<b/\f z=true):rz .Ca [d] M=.ok (.vl ((Gq b f).map nD)) M/\(Gq b f).length<=l.length:=by
 have e:=Zu (is:=l.map λ(x:Nat)=>(x:Int)) (b:=b) (f:=f) λy=>by
  rw[mem_cast];constructor
  .rintro⟨z,Z,rfl⟩;exact⟨z,((G z).mp Z).1,((G z).mp Z).2,rfl⟩
  .rintro⟨z,Z,U,rfl⟩;exact⟨z,(G z).mpr ⟨Z,U⟩,rfl⟩
 have q:=(Jo (Aa (l.map λ(x:Nat)=>(x:Int)))).length_eq;have n:=aab (l.map λ(x:Nat)=>(x:Int));rw[e,dw] at q;rw[<- q,dw] at n;have le:(Aa (l.map λ(x:Nat)=>(x:Int))).length<31:=by have:=Kw b f;rw[<- q];lia
 refine⟨?_,n⟩;show Res.wj (((wz M d).bind Th).bind λis=>if(Aa is).length<31 then some (D.vl ((sortI (Aa is)).map D.int)) else none) M=_;rw[h,qw,Vr,qw,cj le,e,ai3];rfl
theorem bnd:∀l:List Nat,∃b,∀z∈l,z<b
 |[]=>⟨0,by simp⟩
 |a::l=>by
  obtain⟨b,h⟩:=bnd l;refine⟨a+b+1,λz Z=>?_⟩;rcases bz.mp Z with rfl|Z
  .lia
  .have:=h z Z;lia
def agv{M:cz}{l:Yf}(h:wz M d=some (l.map nD))(hz:l.length<31):∃hl:List Nat,rz .Ca [d] M=.ok (.vl (hl.map nD)) M/\hl.length<=l.length/\hl.Nodup/\∀x,x∈hl↔x∈l:=by
 obtain⟨b,G⟩:=bnd l;have Z:∀z,z∈l↔z<b/\decide (z∈l)=true:=λz=>by rw[cu];exact⟨λq=>⟨G z q,q⟩,λq=>q.2⟩
 obtain⟨R,U⟩:=abw (f:=λz=>decide (z∈l)) h (.inr hz) Z;exact⟨_,R,U,Av.mpr ((agu b _).imp λh=>by lia),λx=>by rw[G3];exact(Z x).symm⟩
def ak1(G:ρ.length=19)(h3:ρ[3]?=some (some (.vl (v5 p K))))(h:RS p K rs M)(hK:K<=3)(h7:∀e,e<K->(rs e).length<=7)(ht:t<M.length) :
 ∃M',Hk.den W ρ M=.ok (.ref (M.length+K)) M'/\Mk t (M.length+K) K (λe=>(rs e).length) (λe=>List.range (rs e).length) M'/\Bt M M'/\M'.length=M.length+K+1:=by
 unfold Hk;refine hG λ_ _k=>?_
 obtain⟨ys,M1,e,r1,r2,r3,U⟩:=Iz (W:=W) (v:=false) (k:=1) (t:=.name 19) (it:=.v 3) (e:=.afn (.l (.v 19))) (ρ:=ρ) (M:=M) (M1:=M) (d:=.vl (v5 p K)) (ds:=v5 p K) (by simp[h3]) rfl (by simp[v5];exact a_ hK (by decide))
  (λi xs M'=>xs=v5 M.length i/\(∀e,e<i->M'[M.length+e]?=some (.lst ((List.range (rs e).length).map nD)))/\Bt M M'/\M'.length=M.length+i) ⟨rfl,λe he=>absurd he (yz _),Bt.refl M,rfl⟩ (λ_ _ _ _=>rfl)
  (λi y xs M' hy hI=>by
   refine hG λ_ _k=>?_
   obtain⟨rfl,q1,q2,q3⟩:=hI;apply _k;have Z:i<K:=by have:=(ak.mp hy).1;simpa[v5] using this
   obtain rfl:D.ref (p+i)=y:=by simpa[v5,Z] using hy
   have ln:=len_list (qm (q2 _ _ (h i Z)));have e1:(ρ++List.replicate 1 none).set 19 (some (.ref (p+i)))=ρ++[some (.ref (p+i))]:=by rw[List.set_append];simp[G]
   have g9:(ρ++[some (D.ref (p+i))])[19]?=some (some (.ref (p+i))):=by rw[<- G];simp
   refine⟨_,.ref M'.length,M'++[.lst ((List.range (rs i).length).map nD)],rfl,?_,?_,λe he=>?_,q2.trans (Bt.app _ _),by simp[q3];exact rfl⟩
   .have h8:=h7 i Z
    have h9:(rs i).length<=100000:=a_ h8 (by decide)
    rw[e1];simp[g9,ln,h9,MW.new,nD]
   .simp[v5,Ai,q3]
   .by_cases z:e=i
    .subst z;rw[<- q3];simp
    .exact qt (q1 e (by lia)))
 have R:(v5 p K).length=K:=by simp[v5]
 rw[R] at r1 r2 U;apply _k;refine⟨M1++[.lst ys],by rw[e];simp[MW.new,U],⟨⟨ys,by rw[<- U];simp,by rw[r1];simp[v5],λi Z=>?_⟩,λi Z=>by simp,λi Z x hx=>ju.mp hx,λi Z x hx=>by simp[ju.mp hx]⟩,r3.trans (Bt.app _ _),by simp[U]⟩;refine⟨.ref (M.length+i),by rw[r1];simp[v5,Z],qm (qt (r2 i Z)),λa q=>?_⟩;cases q;exact⟨b_ ht x_,H_ Z⟩
def Mk.st(h:Mk t Z K L R M)(s:St t f M M')(U:t<Z):Mk t Z K L R M':=h.frame (λa o G _ e=>s.keep a o (i_ G) e) U
def Ac.of(h:Ac q hs L as M)(k:∀o,M[q]?=some o->M'[q]?=some o):Ac q hs L as M':=⟨k _ h.at_,h.len,h.ok⟩
def awk(hm:1<=m)(P:Lp sz K hs iu)(hh:Uq t f M)(mk:Mk t pm K L ms M)(ac:Ac q hs L as M)(G:t<p)(hp:p<=pm)(zk:pm<M.length)(hq:p<=q)(qq:q≠pm)(qv:q<M.length)(hL:∀e,e<K->L e<=7) :
 ∃c5 q5 zz q7 q6 O4 M',Cv.den (PW m) [some (.ref t),some (su K r hs),a2,a3,b4,b5,b6,b7,b8,some (.ref q),b10,Lb,Lj,some (.ref pm),b14,b15,n16,n17,n18] M =
  .ok (.next,[some (.ref t),some (su K r hs),a2,a3,b4,c5,b6,b7,b8,some (.ref q),b10,q5,zz,some (.ref pm),q7,q6,n16,n17,n18]) M'/\Mk t pm K L O4 M'/\Ac q hs L as M'/\Gs t f p M M':=by
 refine hG λ_ _k=>?_
 have h3:=P.k3;obtain⟨k,M1,e1,l1,s1,n1⟩:=Aq (many:=K) hm hh (by have:=P.k1;exact m_ this) (m_ (c_ h3 (by decide)));obtain⟨x,M2,e2,l2,s2,n2⟩:=Aq (many:=7) hm s1.has (by decide) (by decide);obtain⟨y,M3,e3,l3,s3,n3⟩:=Aq (many:=7) hm s2.has (by decide) (by decide);have hk:k<K:=o_ l1
 have s:=s1.trans (s2.trans s3);have Z:=mk.st s (b_ G hp);have q1:Ac q hs L as M3:=ac.of λo e=>s.keep _ _ (i_ (b_ G hq)) e
 obtain⟨dk,fk,lk⟩:=Z.row hk;have R:=Z.len _ hk;have ln:=len_list lk;simp only[dw,R] at ln;have mx:=abt M3 x y;apply _k
 by_cases c:max x y<L k
 .have c':((max x y:Nat):Int)<(L k:Int):=m_ c
  have hx:x<(ms k).length:=by lia
  have hy:y<(ms k).length:=by lia
  have ix:=Qq lk hx;have iy:=Qq lk hy;have qk:=getD_mem' hx;have q2:=getD_mem' hy;generalize hx0:(ms k).getD x 0=u at ix qk;generalize hy0:(ms k).getD y 0=w at iy q2;have q0:min u w∈ms k:=by
   rcases Nat.le_total u w with z|z
   .rw[Nat.min_eq_left z];exact qk
   .rw[Nat.min_eq_right z];exact q2
  have rp:=aep (W:=PW m) (M:=M3) (ρ:=[D.ref t,su K r hs,a2,a3,b4,D.int k,b6,b7,b8,D.ref q,b10,D.int x,D.int y,D.ref pm,D.int (min u w:Nat),D.int (max u w:Nat),n16,n17,n18]) (v:=13) (x:=5) (y:=19) (a:=14) (b:=15) (lo:=min u w) (hi:=max u w) (by simp[fk]) lk (by have:=hL _ hk;exact a_ (f_ R) (a_ this (by decide))) rfl rfl rfl;obtain⟨o,so,q8⟩:=Z.set hk (ns:=Hw (min u w) (max u w) (ms k)) (by simp[Hw,R]) (λz hz=>by
   refine hG λ_ _k=>?_
   obtain⟨v,hv,rfl⟩:=bw.mp hz;apply _k;split
   .exact Z.lt _ hk _ q0
   .exact Z.lt _ hk _ hv) (ai0 (Z.fx _ hk) (λx hx=>by rw[R];exact Z.lt _ hk x hx) q0) (b_ G hp)
  have q3:Ac q hs L as (M3.set pm o):=q1.of λo e=>by rw[qp (j5 qq)];exact e
  refine hG λ_ _k=>?_
  have U:M3.length=M.length:=u_ (a_ (f_ n3) (a_ (f_ n2) (f_ n1))) (a_ (g_ n1) (a_ (g_ n2) (g_ n3)));obtain⟨O4,M5,e5,q4,f5,l5⟩:=ak0 (r:=r) (M:=M3.set pm o) hm P q8 q3 (by simp;exact b_ zk (g_ U)) (by simp;exact b_ qv (g_ U)) qq (b_ G hp) hL;have zv:Ac q hs L as M5:=q3.of λo e=>f5 _ _ qq (by simp;exact b_ qv (g_ U)) e
  apply _k;refine⟨some (.int k),some (.int x),some (.int y),some (.int (min u w:Nat)),some (.int (max u w:Nat)),O4,M5,?_,q4,zv,⟨?_,λa v ha na e=>?_,by simp at l5;exact a_ (g_ U) l5⟩⟩
  .simp[Cv,Iv,e1,e2,e3,mx,fk,ln,c',ix,iy,ai2,abt,Mz,rp,so,e5]
  .obtain⟨n,hn,ho⟩:=s.has
   exact⟨n,f5 _ _ (h_ (b_ G hp)) (by have:=w6 hn;simp;exact this) (by rw[qp (i_ (b_ G hp))];exact hn),ho⟩
  .refine f5 _ _ (h_ (b_ ha hp)) (by have:=w6 e;simp;exact b_ this (g_ U)) ?_
   rw[qp (i_ (b_ ha hp))];exact s.keep a v na e
 .have c':¬((max x y:Nat):Int)<(L k:Int):=by lia
  refine⟨some (.int k),some (.int x),some (.int y),b14,b15,ms,M3,?_,Z,q1,Gs.Oo s⟩;simp[Cv,Iv,e1,e2,e3,mx,fk,ln,c']
noncomputable def j6(U:Yf)(Z:List (List Nat)):D:=.tup [.tup (U.map nD),.tup (Z.map λG=>.tup (G.map nD))]
def a3a(h:.int v∈ds):ixI v ds<ds.length:=by
 unfold ixI;cases q:ds.findIdx? (λd=>match d with|.int i=>decide (i=v)|_=>false) with
 |some j=>exact(vm.mp q).1
 |none =>
  rw[yt] at q;have:=q _ h;simp at this
def aqs(l:Yf):∀d∈l.map nD,∃i:Int,d=.int i:=λd Z=>by obtain⟨x,_,rfl⟩:=bw.mp Z;exact⟨_,rfl⟩
noncomputable def ixo(l:Yf)(x:Nat):Nat:=ixI (x:Int) (l.map nD)
noncomputable def a91(ms:Nat->List Nat)(g:F)(U Z G:Yf):List Nat:=Z.map λR=>ixo G ((ms g.b).getD (U.getD R 0) 0)
structure Vf(K:Nat)(hs:List F)(Ss:Yf)(agw:List (List Nat)):Prop where
 ls:Ss.length=K
 la:agw.length=hs.length
 sm:∀x∈Ss,x<=7
 ok:∀(j:Nat)(g:F)(js:Yf),hs[j]?=some g->agw[j]?=some js->js.length=Ss.getD g.a 0/\∀x∈js,x<Ss.getD g.b 0
noncomputable def Uc(l:Yf):D:=.vl (l.map nD)
def aqt(G:ρ.length=19)(qk:ρ[13]?=some (some (.ref pm)))(mk:Mk t pm K L ms M)(hK:K<=3)(h7:∀i,i<K->L i<=7) :
 ∃hl:List (List Nat),Hj.den W ρ M=.ok (.vl (hl.map Uc)) M/\hl.length=K/\∀e l,hl[e]?=some l->l.length<=L e/\l.Nodup/\∀x,x∈l↔x∈ms e:=by
 refine hG λ_ _k=>?_
 obtain⟨qq,h1,h2,h3⟩:=mk.ex;apply _k;unfold Hj;refine hG λ_ _k=>?_
 obtain⟨ys,U,e,rfl,hl,r1,r2,r3⟩:=Iz (W:=W) (v:=true) (k:=1) (t:=.name 19) (it:=.v 13) (e:=.blt .Ca (.o (.v 19))) (ρ:=ρ) (M:=M) (M1:=M) (d:=.ref pm) (ds:=qq) (by simp[qk]) (qm h1) (a_ (f_ h2) (a_ hK (by decide)))
  (λi xs U=>U=M/\∃hl:List (List Nat),xs=hl.map Uc/\hl.length=i/\∀e l,hl[e]?=some l->l.length<=L e/\l.Nodup/\∀x,x∈l↔x∈ms e) ⟨rfl,[],rfl,rfl,by simp⟩ (λi xs U h=>by rw[h.1];exact qm h1)
  (λi y xs U hy hI=>by
   refine hG λ_ _k=>?_
   obtain⟨rfl,hl,rfl,q1,q2⟩:=hI;apply _k;have R:i<K:=by have:=(ak.mp hy).1;exact b_ this (f_ h2)
   refine hG λ_ _k=>?_
   obtain⟨d,g1,g2,_⟩:=h3 i R;rw[hy] at g1;cases g1;obtain⟨l,k1,k2,k4,k3⟩:=agv (agt g2) (by have:=h7 i R;have:=mk.len i R;lia);apply _k;have e1:(ρ++List.replicate 1 none).set 19 (some y)=ρ++[some y]:=by rw[List.set_append];simp[G]
   have g9:(ρ++[some y])[19]?=some (some y):=by rw[<- G];simp
   refine⟨_,Uc l,U,rfl,by rw[e1];simp[g9,k1,Uc],rfl,hl++[l],by simp,by simp[q1],λe l' Z=>?_⟩
   by_cases z:e<hl.length
   .rw[fc z] at Z;exact q2 e l' Z
   .have ze:e=i:=by have:=(ak.mp Z).1;simp at this;lia
    subst ze;rw[jc (s_ z),q1] at Z;simp at Z;subst Z;rw[<- mk.len e R];exact⟨k2,k4,k3⟩)
 apply _k;refine⟨hl,by rw[e,r1];rfl,r2.trans h2,r3⟩
def aqu{hl:List (List Nat)}{i:Nat}(h:hl[i]?=some l):Aw (.vl (hl.map Uc)) (.int i) M=some (Uc l):=Cy rfl q_ (by simp[h])
def ak4{hl:List (List Nat)}(mk:Mk t pm K L R M)(ac:Ac q hs L as M){j:Nat}(hj:hs[j]?=some g)(ej:as[j]?=some G)(ga:g.a<K)(gb:g.b<K)(h1:hl[g.a]?=some la)(h2:hl[g.b]?=some lb)(q2:∀x,x∈la↔x∈R g.a)(q0:∀x,x∈lb↔x∈R g.b)(h7:la.length<=7)(hw:M[w]?=some (.lst td))(q1:td.length<100000) :
 ∃(q4:Option D)(zs:Yf),Dz.den W [a0,su K r hs,a2,a3,b4,b5,b6,b7,b8,D.ref q,D.int j,Lb,Lj,D.ref pm,b14,b15,D.vl (hl.map Uc),D.ref w,b18] M =
  .ok (.next,[a0,some (su K r hs),a2,a3,b4,b5,b6,b7,b8,some (.ref q),some (.int j),some (.int g.a),some (.int g.b),some (.ref pm),b14,b15,some (.vl (hl.map Uc)),some (.ref w),q4]) (M.set w (.lst (td++[.tup (zs.map nD)])))/\zs=a91 R g G la lb/\zs.length=la.length/\∀x∈zs,x<lb.length:=by
 refine hG λ_ _k=>?_
 obtain⟨q5,qv,fj,lj,rj⟩:=ac.get hj;rw[ej] at qv;cases qv;obtain⟨db,fb,q3⟩:=mk.row gb;have hz:∀Z∈la,G.getD Z 0<(R g.b).length/\Z<G.length:=λZ h=>by
  have h3:=mk.lt _ ga Z ((q2 Z).mp h);have h4:Z<G.length:=b_ h3 (g_ lj)
  exact⟨by rw[mk.len _ gb];exact rj _ (getD_mem' h4),h4⟩
 apply _k;have c3:Hi.den W [a0,su K r hs,a2,a3,b4,b5,b6,b7,b8,D.ref q,D.int j,D.int g.a,D.int g.b,D.ref pm,b14,b15,D.vl (hl.map Uc),D.ref w,b18] M=.ok (Uc (la.map λZ=>(R g.b).getD (G.getD Z 0) 0)) M:=by
  unfold Hi;rw[Ao (d:=Uc la) (ds:=la.map nD) (M1:=M) (g:=λd=>match d with|.int o=>nD ((R g.b).getD (G.getD o.toNat 0) 0)|_=>.non) (by simp[aqu h1]) rfl (by simp;exact a_ h7 (by decide)) (λz U=>by
   refine hG λ_ _k=>?_
   obtain⟨Z,qq,rfl⟩:=bw.mp U;obtain⟨k1,k2⟩:=hz Z qq;apply _k;refine⟨_,rfl,?_⟩;have i1:Aw (.vl (G.map nD)) (.int Z) M=some (.int (G.getD Z 0)):=Qq rfl k2;have i2:=Qq q3 k1;show(Ex.ix (.ix (.v 13) (.v 12)) (.ix (.ix (.v 9) (.v 10)) (.v 19))).den W [a0,su K r hs,a2,a3,b4,b5,b6,b7,b8,D.ref q,D.int j,D.int g.a,D.int g.b,D.ref pm,b14,b15,D.vl (hl.map Uc),D.ref w,b18,D.int Z] M=.ok (nD ((R g.b).getD (G.getD (Z:Int).toNat 0) 0)) M;rw[wg];generalize G.getD Z 0=yy at i1 i2;generalize(R g.b).getD yy 0=zz at i2;simp[fb,fj,i1,i2,nD])]
  simp[Uc,nD]
 have Xu:∀z∈la.map (λZ=>(R g.b).getD (G.getD Z 0) 0),.int (z:Int)∈lb.map nD:=λz h=>by
  refine hG λ_ _k=>?_
  obtain⟨Z,qq,rfl⟩:=bw.mp h;apply _k;exact bw.mpr ⟨_,(q0 _).mpr (getD_mem' (hz Z qq).1),rfl⟩
 generalize a92:la.map (λZ=>(R g.b).getD (G.getD Z 0) 0)=row at c3 Xu;have qk:row.length=la.length:=by rw[<- a92];simp
 have c2:Hh.den W [a0,su K r hs,a2,a3,b4,b5,b6,b7,b8,D.ref q,D.int j,D.int g.a,D.int g.b,D.ref pm,b14,b15,D.vl (hl.map Uc),D.ref w,Uc row] M=.ok (.vl ((row.map λ(z:Nat)=>ixI (z:Int) (lb.map nD)).map nD)) M:=by
  unfold Hh;rw[Ao (d:=Uc row) (ds:=row.map nD) (M1:=M) (g:=λd=>match d with|.int o=>nD (ixI o (lb.map nD))|_=>.non) (by simp) rfl (by simp;exact a_ (f_ qk) (a_ h7 (by decide))) (λz U=>by
   refine hG λ_ _k=>?_
   obtain⟨o,ho,rfl⟩:=bw.mp U;apply _k;refine⟨_,rfl,?_⟩;have i1:=aqf (M:=M) (ds:=lb.map nD) (v:=(o:Int)) (λd hd=>by obtain⟨x,_,rfl⟩:=bw.mp hd;exact⟨_,rfl⟩) (Xu o ho);show(Ex.bm .index (.ix (.v 16) (.v 12)) (.o (.v 19))).den W [a0,su K r hs,a2,a3,b4,b5,b6,b7,b8,D.ref q,D.int j,D.int g.a,D.int g.b,D.ref pm,b14,b15,D.vl (hl.map Uc),D.ref w,Uc row,D.int o] M=_;simp[aqu h2,Uc,Qa,i1,nD])]
  simp[nD]
 refine⟨some (Uc row),row.map λ(z:Nat)=>ixI (z:Int) (lb.map nD),?_,by rw[<- a92,Bl];rfl,by simp[qk],λx hx=>?_⟩
 .have pe:∀ρ,(Tg.names [11,12]).put (eD g) ρ=some ((ρ.set 11 (some (.int g.a))).set 12 (some (.int g.b))):=λ_=>rfl
  have ap:=Cq (d:=.tup ((row.map λ(z:Nat)=>ixI (z:Int) (lb.map nD)).map nD)) hw q1;simp only[Bl] at c2 ap ⊢;simp[-List.map_map,Dz,Pq,Rq hj,pe,c3,c2,Cu hw,Hu,ap]
 .refine hG λ_ _k=>?_
  obtain⟨z,U,rfl⟩:=bw.mp hx;have:=a3a (Xu z U);apply _k;simpa using this
def aeq(hm:2<=m)(P:Lp sz K hs iu)(hh:Uq t f M)(hr:M[r]?=some (.dT iu))(yq:r≠t) :
 ∃Ss z2 M',prog.call m 29 [.ref t,su K r hs,.int 3] M=.ok (j6 Ss z2) M'/\Vf K hs Ss z2/\St t f M M':=by
 rw[call_of (a_ (by decide) hm) rfl];have h3:=P.k3;have hl:=P.len;have ht:t<M.length:=by obtain⟨n,h,_⟩:=hh;exact w6 h
 have z4:=w6 hr;have r0:=Xf (W:=PW (m-1)) (M:=M) (K:=K) (y:=19) (e:=.ix (.v 1) (.i 0)) (ρ:=[D.ref t,su K r hs,D.int 3,none,none,none,none,none,none,none,none,none,none,none,none,none,none,none,none]) rfl (by simp[Iv]) (a_ h3 (by decide));have g0:Gs t f M.length M (M++List.replicate K (.lst [])):=Gs.app hh (bf _) _;have w0:Rw hs K M.length [] (M++List.replicate K (.lst [])):=⟨λi hi=>by
  rw[jc x_];simp[rowsOf,hi],by simp,by simp[rowsOf],Ax⟩
 refine hG λ_ _k=>?_
 obtain⟨v,M1,e1,l1,s1,n1⟩:=Aq (many:=4) (m:=m-1) (r_ hm) g0.has (by decide) (by decide);obtain⟨uu,U,e2,⟨b4,b5,b6,b7,b8,rfl⟩,ad,w2,Py,g2,n2⟩:=zx (W:=PW (m-1)) (t:=.name 4) (b:=Cw) (it:=.call 14 (.p (.v 0) (.bin .add (.v 2) (.i 1)))) (n:=v)
  (ρ:=[some (.ref t),some (su K r hs),some (.int 3),some (.vl (v5 M.length K)),none,none,none,none,none]++[none,none,none,none,none,none,none,none,none,none]) (M:=M++List.replicate K (.lst [])) (M1:=M1) (by simp[e1]) (e_ (b_ (o_ l1) (by decide)))
  (λi ρ M'=>(∃b4 b5 b6 b7 b8:Option D,ρ=[some (.ref t),some (su K r hs),some (.int 3),some (.vl (v5 M.length K)),b4,b5,b6,b7,b8]++[none,none,none,none,none,none,none,none,none,none])/\∃ad,Rw hs K M.length ad M'/\(∀q∈ad,q.1<i)/\Gs t f M.length M M'/\M'.length=M.length+K)
  ⟨⟨none,none,none,none,none,rfl⟩,[],⟨w0.rs.keep s1 ht,w0.kd,w0.le,w0.nd⟩,by simp,g0.trans (Gs.Oo s1),by simp at n1;exact n1⟩
  (λi ρ U hi hI=>by
   refine hG λ_ _k=>?_
   obtain⟨⟨b4,b5,b6,b7,b8,rfl⟩,ad,q1,hn,q2,q3⟩:=hI;obtain⟨c5,c6,c7,c8,jv,M3,e3,k1,Jj,k2,k3⟩:=awc (m:=m-1) (r:=r) (n:=i) (r_ hm) P q2.has ht q1 hn (b5:=b5) (b6:=b6) (b7:=b7) (b8:=b8) (rest:=[none,none,none,none,none,none,none,none,none,none]) rfl;apply _k;exact⟨_,.next,_,M3,rfl,e3,.inl rfl,⟨some (.int i),c5,c6,c7,c8,rfl⟩,jv,k1,Jj,q2.trans k2,k3.trans q3⟩)
 apply _k;refine hG λ_ _k=>?_
 have j4:=n2;obtain⟨uk,M3,e3,⟨b10,Lb,Lj,rfl⟩,as,a3,a4,a5,w3,g3,n3⟩:=zx (W:=PW (m-1)) (t:=.name 10) (b:=Hm) (it:=.blt .len (.o (.ix (.v 1) (.i 1)))) (n:=hs.length)
  (ρ:=[D.ref t,su K r hs,D.int 3,D.vl (v5 M.length K),b4,b5,b6,b7,b8,D.ref U.length,none,none,none,none,none,none,none,none,none]) (M:=U++[.lst []]) (M1:=U++[.lst []]) (by simp[Pq,Qm]) (a_ hl (by decide))
  (λj ρ M'=>(∃b10 Lb Lj:Option D,ρ=[some (.ref t),some (su K r hs),some (.int 3),some (.vl (v5 M.length K)),b4,b5,b6,b7,b8,some (.ref U.length),b10,Lb,Lj,none,none,none,none,none,none]) /\
   ∃as:List (List Nat),M'[U.length]?=some (.lst (as.map λG=>.vl (G.map nD)))/\as.length=j/\(∀(j:Nat)(g:F)(G:Yf),hs[j]?=some g->as[j]?=some G->Ae hs iu ad j g G)/\Rw hs K M.length ad M'/\Gs t f M.length M M'/\M'.length=U.length+1)
  ⟨⟨none,none,none,rfl⟩,[],by simp,rfl,by simp,⟨λi hi=>qt (w2.rs i hi),w2.kd,w2.le,w2.nd⟩,g2.trans (Gs.app g2.has (by lia) _),by simp⟩
  (λj ρ M3 hj hI=>by
   refine hG λ_ _k=>?_
   obtain⟨⟨b10,Lb,Lj,rfl⟩,as,q1,q2,q3,q4,q5,q6⟩:=hI;have R:hs[j]?=some hs[j]:=by simp[hj]
   obtain⟨G,c7,k1⟩:=a2v (m:=m-1) (M:=M3) (r:=r) (r_ hm) P (q5.low _ _ z4 yq hr) q4 R (a0:=some (.ref t)) (a2:=some (.int 3)) (a4:=b4) (a5:=b5) (a6:=b6) (a7:=b7) (a8:=b8) (a9:=some (.ref U.length)) (rest:=[none,none,none,none,none,none]) rfl;have ap:=Cq (d:=.vl (G.map nD)) q1 (by simp;exact c_ (f_ q2) (b_ hj (a_ hl (by decide))));have pe:∀ρ,(Tg.names [11,12]).put (eD hs[j]) ρ=some ((ρ.set 11 (some (.int hs[j].a))).set 12 (some (.int hs[j].b))):=λ_=>rfl
   simp only[zp,yx] at c7;apply _k;refine⟨_,.next,_,M3.set U.length (.lst ((as.map λG=>.vl (G.map nD))++[.vl (G.map nD)])),rfl,by simp[Hm,Pq,Rq R,pe,Cu q1,c7,ap],.inl rfl,⟨some (.int j),some (.int hs[j].a),some (.int hs[j].b),rfl⟩,as++[G],by rw[ur q1];simp,by simp[q2],λj' g zk hg Z=>?_,⟨λi hi=>?_,q4.kd,q4.le,q4.nd⟩,q5.trans (Gs.Xh q5.has (Pr.set (by lia)) ht (by simp)),by simp[q6]⟩
   .by_cases z:j'<as.length
    .rw[fc z] at Z;exact q3 j' g zk hg Z
    .have ze:j'=j:=by have:=(ak.mp Z).1;simp at this;lia
     subst ze;rw[jc (s_ z),q2] at Z;simp at Z;subst Z;rw[R] at hg;cases hg;exact k1
   .rw[qp (by lia)];exact q4.rs i hi)
 apply _k;refine hG λ_ _k=>?_
 obtain⟨M4,e4,z8,q7,n4⟩:=ak1 (W:=PW (m-1)) (t:=t) (M:=M3) (ρ:=[D.ref t,su K r hs,D.int 3,D.vl (v5 M.length K),b4,b5,b6,b7,b8,D.ref U.length,b10,Lb,Lj,none,none,none,none,none,none]) rfl rfl w3.rs h3 w3.le (by lia);have g4:Gs t f M.length M M4:=g3.trans ⟨by obtain⟨n,h,o⟩:=g3.has;exact⟨n,q7 _ _ h,o⟩,λa o _ _ e=>q7 a o e,by lia⟩;have y9:Ac U.length hs (λe=>(rowsOf hs ad e).length) as M4:=⟨q7 _ _ a3,a4,λj g G h1 h2=>⟨(a5 j g G h1 h2).len,(a5 j g G h1 h2).lt⟩⟩;obtain⟨u,M5,e5,l5,s5,n5⟩:=Aq (many:=4) (m:=m-1) (r_ hm) g4.has (by decide) (by decide);obtain⟨uj,M6,e6,⟨d5,q8,q0,zw,qq,qk,rfl⟩,ms,z0,z1,g6,n6⟩:=zx (W:=PW (m-1)) (t:=.name 10) (b:=Cv) (it:=.call 14 (.p (.v 0) (.i 4))) (n:=u)
  (ρ:=[D.ref t,su K r hs,D.int 3,D.vl (v5 M.length K),b4,b5,b6,b7,b8,D.ref U.length,b10,Lb,Lj,D.ref (M3.length+K),none,none,none,none,none]) (M:=M4) (M1:=M5) (by simp[e5]) (e_ (b_ (o_ l5) (by decide)))
  (λ_ ρ M'=>(∃b5 b10 Lb Lj b14 b15:Option D,ρ=[some (.ref t),some (su K r hs),some (.int 3),some (.vl (v5 M.length K)),b4,b5,b6,b7,b8,some (.ref U.length),b10,Lb,Lj,some (.ref (M3.length+K)),b14,b15,none,none,none]) /\
   ∃ms,Mk t (M3.length+K) K (λe=>(rowsOf hs ad e).length) ms M'/\Ac U.length hs (λe=>(rowsOf hs ad e).length) as M'/\Gs t f M.length M M'/\M3.length+K<M'.length)
  ⟨⟨b5,b10,Lb,Lj,none,none,rfl⟩,_,z8.st s5 (by lia),y9.of λo e=>s5.keep _ _ (by lia) e,g4.trans (Gs.Oo s5),by lia⟩
  (λi ρ M6 hi hI=>by
   refine hG λ_ _k=>?_
   obtain⟨⟨b5,b10,Lb,Lj,b14,b15,rfl⟩,ms,q1,q2,q3,q4⟩:=hI;obtain⟨c5,jk,yk,y6,z6,O4,M7,e7,k1,k2,k3⟩:=awk (m:=m-1) (r:=r) (p:=M.length) (r_ hm) P q3.has q1 q2 ht (by lia) q4 (by lia) (by lia) (by lia) w3.le (a2:=some (.int 3)) (a3:=some (.vl (v5 M.length K))) (b4:=b4) (b5:=b5) (b6:=b6) (b7:=b7) (b8:=b8) (b10:=some (.int i)) (Lb:=Lb) (Lj:=Lj) (b14:=b14) (b15:=b15) (n16:=none) (n17:=none) (n18:=none);apply _k;exact⟨_,.next,_,M7,rfl,e7,.inl rfl,⟨c5,some (.int i),jk,yk,y6,z6,rfl⟩,O4,k1,k2,q3.trans k3,by have:=k3.len;exact b_ q4 this⟩)
 apply _k;refine hG λ_ _k=>?_
 obtain⟨hd,e7,qv,y7⟩:=aqt (W:=PW (m-1)) (M:=M6) (ρ:=[D.ref t,su K r hs,D.int 3,D.vl (v5 M.length K),b4,d5,b6,b7,b8,D.ref U.length,q8,q0,zw,D.ref (M3.length+K),qq,qk,none,none,none]) rfl rfl z0 h3 w3.le;have zv:∀e,e<K->∃l,hd[e]?=some l/\l.length<=7/\∀x,x∈l↔x∈ms e:=λe he=>by have z:hd[e]?=some hd[e]:=dj (b_ he (g_ qv));obtain⟨y1,_,y2⟩:=y7 e _ z;have:=w3.le e he;exact⟨_,z,a_ y1 this,y2⟩
 apply _k;refine hG λ_ _k=>?_
 obtain⟨j3,M8,e8,⟨z9,j2,yv,z7,rfl⟩,td,t1,t2,t3,g8,n8⟩:=zx (W:=PW (m-1)) (t:=.name 10) (b:=Dz) (it:=.blt .len (.o (.ix (.v 1) (.i 1)))) (n:=hs.length)
  (ρ:=[D.ref t,su K r hs,D.int 3,D.vl (v5 M.length K),b4,d5,b6,b7,b8,D.ref U.length,q8,q0,zw,D.ref (M3.length+K),qq,qk,D.vl (hd.map Uc),D.ref M6.length,none]) (M:=M6++[.lst []]) (M1:=M6++[.lst []]) (by simp[Pq,Qm]) (a_ hl (by decide))
  (λj ρ M'=>(∃b10 Lb Lj b18:Option D,ρ=[some (.ref t),some (su K r hs),some (.int 3),some (.vl (v5 M.length K)),b4,d5,b6,b7,b8,some (.ref U.length),b10,Lb,Lj,some (.ref (M3.length+K)),qq,qk,some (.vl (hd.map Uc)),some (.ref M6.length),b18]) /\
   ∃td:List (List Nat),M'[M6.length]?=some (.lst (td.map λG=>.tup (G.map nD)))/\td.length=j/\(∀(j:Nat)(g:F)(G:Yf),hs[j]?=some g->td[j]?=some G->G.length=(hd.map List.length).getD g.a 0/\∀x∈G,x<(hd.map List.length).getD g.b 0)/\Bt M6 M'/\M'.length=M6.length+1)
  ⟨⟨q8,q0,zw,none,rfl⟩,[],by simp,rfl,by simp,Bt.app _ _,by simp⟩
  (λj ρ M7 hj hI=>by
   refine hG λ_ _k=>?_
   obtain⟨⟨b10,Lb,Lj,b18,rfl⟩,td,q1,q2,q3,q4,q5⟩:=hI;have R:hs[j]?=some hs[j]:=by simp[hj]
   obtain⟨sj,ej,_⟩:=z1.get R;have hg:=az R;obtain⟨la,x1,x2,x3⟩:=zv _ (P.anc _ hg);obtain⟨lb,y1,y2,y3⟩:=zv _ (P.ajt _ hg);have yy:=z0.frame (M':=M7) (λa o _ _ e=>q4 a o e) (by lia);have y8:=z1.of (M':=M7) λo e=>q4 _ _ e
   obtain⟨y0,zs,e9,kz,k1,k2⟩:=ak4 (W:=PW (m-1)) (r:=r) yy y8 (hl:=hd) R ej (P.anc _ hg) (P.ajt _ hg) x1 y1 x3 y3 x2 q1 (by simp;exact c_ (f_ q2) (b_ hj (a_ hl (by decide)))) (a0:=some (.ref t)) (a2:=some (.int 3)) (a3:=some (.vl (v5 M.length K))) (b4:=b4) (b5:=d5) (b6:=b6) (b7:=b7) (b8:=b8) (Lb:=Lb) (Lj:=Lj) (b14:=qq) (b15:=qk) (b18:=b18);apply _k;refine⟨_,.next,_,_,rfl,e9,.inl rfl,⟨some (.int j),some (.int hs[j].a),some (.int hs[j].b),y0,rfl⟩,td++[zs],by rw[ur q1];simp,by simp[q2],λj' g zk zz Z=>?_,λa o e=>?_,by simp[q5]⟩
   .by_cases z:j'<td.length
    .rw[fc z] at Z;exact q3 j' g zk zz Z
    .have ze:j'=j:=by have:=(ak.mp Z).1;simp at this;lia
     subst ze;rw[jc (s_ z),q2] at Z;simp at Z;subst Z;rw[R] at zz;cases zz;have u1:(hd.map List.length).getD hs[j'].a 0=la.length:=by simp[du,x1]
     have u2:(hd.map List.length).getD hs[j'].b 0=lb.length:=by simp[du,y1]
     rw[u1,u2];exact⟨k1,k2⟩
   .rw[qp (by have:=w6 e;exact i_ this)];exact q4 a o e)
 have c1:Hg.den (PW (m-1)) [some (.ref t),some (su K r hs),some (.int 3),some (.vl (v5 M.length K)),b4,d5,b6,b7,b8,some (.ref U.length),z9,j2,yv,some (.ref (M3.length+K)),qq,qk,some (.vl (hd.map Uc)),some (.ref M6.length),z7] M8=.ok (.vl ((hd.map List.length).map nD)) M8:=by
  unfold Hg;rw[Ao (d:=.vl (hd.map Uc)) (ds:=hd.map Uc) (M1:=M8) (g:=λd=>match d with|.vl l=>.int l.length|_=>.non) (by simp) rfl (by simp;exact a_ (f_ qv) (a_ h3 (by decide))) (λz hz=>by
   refine hG λ_ _k=>?_
   obtain⟨l,z3,rfl⟩:=bw.mp hz;apply _k;refine⟨_,rfl,?_⟩;simp[Uc,rz,Ti])]
  simp[Uc,nD]
 apply _k;refine⟨hd.map List.length,td,M8,?_,⟨by simp[qv],t2,λx hx=>?_,t3⟩,?_⟩
 .simp only[zp,yx] at e2
  have j1:Ng.den (PW (m-1)) _ _=_:=e2;have jj:Nb.den (PW (m-1)) _ _=_:=e3;have y5:M9.den (PW (m-1)) _ _=_:=e6;have z5:My.den (PW (m-1)) _ _=_:=e8;have y4:La.den (PW (m-1)) _ _=_:=r0;simp[-List.map_map,Fn.run,Rg,Rf,y4,j1,MW.new,jj,e4,y5,e7,z5,c1,Hu,rz,V3 (qm t1),j6]
 .refine hG λ_ _k=>?_
  obtain⟨l,z3,rfl⟩:=bw.mp hx;obtain⟨i,hi,rfl⟩:=qd z3;obtain⟨l2,y1,y2,_⟩:=zv i (b_ hi (f_ qv));rw[dj hi] at y1;cases y1;apply _k;exact y2
 .have:Gs t f M.length M M8:=g6.trans ⟨by obtain⟨n,h,o⟩:=g6.has;exact⟨n,g8 _ _ h,o⟩,λa o _ _ e=>g8 a o e,by lia⟩
  exact this.st
noncomputable def zu(l:Yf):D:=.tup (l.map nD)
def Zn(s:Yf)(a:List (List Nat))(M:cz):Aw (j6 s a) (.int 0) M=some (zu s):=rfl
def ax1(s:Yf)(a:List (List Nat))(M:cz):Aw (j6 s a) (.int 1) M=some (.tup (a.map zu)):=rfl
def ai4{l:Yf}(h:i<l.length):Aw (zu l) (.int i) M=some (.int (l.getD i 0)):=Iw q_ (by simp[h,nD])
def ax2{a:List (List Nat)}{j:Nat}(h:a[j]?=some Z):Aw (.tup (a.map zu)) (.int j) M=some (zu Z):=Iw q_ (by simp[h])
section
variable{W:G5}{ρ:Env}{M:cz}{t:Tg}{it:Qv}{ds:List D}
def abx{g:Nat->D}(U:it.den W ρ M=.ok (.con ds) M)(hl:ds.length<=100000)(h:∀(i:Nat) d,ds[i]?=some d->∃Z,t.put d (ρ++List.replicate k none)=some Z/\e.den W Z M=.ok (g i) M) :
 (Ex.comp true k t it e).den W ρ M=.ok (.vl ((List.range ds.length).map g)) M:=by
 rw[Jp,U];refine hG λ_ _k=>?_
 obtain⟨ys,G,e1,e2,rfl⟩:=G7 (fin:=(Src.con ds).fin) (item:=(Src.con ds).item) (body:=λd M=>(Res.wj (t.put d (ρ++List.replicate k none)) M).bind fun R M=>(e.den W R M).bind λx G=>.ok (some x) G) (λi xs G=>xs=(List.range i).map g/\G=M) (n:=ds.length) (λi xs G hi h1=>by
  refine hG λ_ _k=>?_
  obtain⟨rfl,rfl⟩:=h1;obtain⟨Z,a,b⟩:=h i ds[i] (by simp[hi]);apply _k;exact⟨_,some (g i),G,by simp[Src.item,hi];rfl,by rw[a];simp[b],by simp[Ai],rfl⟩) (λ_ _ _=>rfl) ds.length 0 [] M (vo _) ⟨rfl,rfl⟩
 apply _k;show(An (.con ds) _ G).bind _=_;rw[An,show(Src.con ds).len=ds.length from rfl,cj hl,e1,<- e2];rfl
end
noncomputable def rD(r:List (List Nat)):D:=.tup (r.map zu)
def ax3{j:Nat}(h:r[j]?=some Z):Aw (rD r) (.int j) M=some (zu Z):=Iw q_ (by simp[h])
def Qs{α:Type}{l:List α}{i:Nat}(h:i<l.length):∃x,l[i]?=some x:=⟨l[i],by simp[h]⟩
def aby{α:Type}{l:List α}{i:Nat}{x d:α}(h:l[i]?=some x):l.getD i d=x:=by simp[du,h]
def Vf.get(w:Vf K hs s1 a1){k:Nat}{g:F}(h:hs[k]?=some g):∃Z,a1[k]?=some Z/\Z.length=s1.getD g.a 0/\∀x∈Z,x<s1.getD g.b 0:=by obtain⟨Z,e⟩:=Qs (l:=a1) (i:=k) (by rw[w.la];exact(ak.mp h).1);exact⟨Z,e,w.ok k g Z h e⟩
def Vf.s7(w:Vf K hs s1 a1)(k:Nat):s1.getD k 0<=7:=by
 rw[du];cases e:s1[k]? with
 |none=>simp|some y=>exact w.sm y (az e)
noncomputable def isI(v:Int)(d:D):Bool:=match d with|.int i=>decide (i=v)|_=>false
def awl(M:cz)(v:Int)(ds:List D)(h:∀d∈ds,∃i:Int,d=.int i):O3 M (.int v) (.tup ds)=some (ds.any (isI v)):=by show memD M (.int v) ds=_;rw[memD,Xd M v ds h,wy,Bk];rfl
def a96(M:cz)(x:Nat)(l:Yf):O3 M (.int x) (zu l)=some (decide (x∈l)):=by
 rw[zu,awl M x _ (aqs l),Bk]
 congr 1
 rw[yc,zm,cu];constructor
 .intro h
  obtain⟨y,Z,e⟩:=h;have:(y:Int)=x:=by simpa[isI,nD] using e
  have:y=x:=by lia
  rw[<- this];exact Z
 .exact λh=>⟨x,h,by simp[isI,nD]⟩
noncomputable def Oq(a:List (List Nat))(x:Nat)(d:D):Nat:=match d with
 |.int w=>if w=-1 then x else(a.getD w.toNat []).getD x 0
 |_=>0
def abz{a:List (List Nat)}{i:Nat}(h:a[i]?=some Z):Oq a x (.int i)=Z.getD x 0:=by
 have G:¬((i:Int)=-1):=by lia
 simp only[Oq,bx G,wg,aby h]
section
variable{m:Nat}{M:cz}{sz:Nat->Nat}{K n r:Nat}{hs:List F}{iu:List (List Kx×D)}{s:Yf}{a p q:List (List Nat)}
def awm(hm:1<=m)(w:Vf K hs s a)(hd:d∈uy hs k)(R:x<s.getD k 0):prog.call m 22 [j6 s a,.int x,d] M=.ok (.int (Oq a x d:Nat)) M:=by
 rw[call_of hm rfl];rcases Gb hd with rfl|⟨i,g,rfl,hg,rfl⟩
 .simp[Fn.run,amw,amv,Oq]
 .refine hG λ_ _k=>?_
  obtain⟨Z,G,h2,_⟩:=w.get hg;have U:=ai4 (M:=M) (l:=Z) (i:=x) (b_ R (g_ h2));have ni:¬((i:Int)=-1):=by lia
  apply _k;rw[abz G];generalize Z.getD x 0=y at U;simp[Fn.run,amw,amv,ni,ax1,ax2 G,U]
def aer(hm:1<=m)(w:Vf K hs s a)(hd:d∈uy hs k)(R:x<s.getD k 0):prog.call m 30 [j6 s a,.int x,d] M=.ok (.int (Oq a x d:Nat)) M:=by
 rw[call_of hm rfl];rcases Gb hd with rfl|⟨i,g,rfl,hg,rfl⟩
 .simp[Fn.run,Qj,Qi,Oq]
 .refine hG λ_ _k=>?_
  obtain⟨Z,G,h2,_⟩:=w.get hg;have U:=ai4 (M:=M) (l:=Z) (i:=x) (b_ R (g_ h2));have ni:¬((i:Int)<0):=by lia
  apply _k;rw[abz G];generalize Z.getD x 0=y at U;simp[Fn.run,Qj,Qi,ni,ax1,ax2 G,U]
def awn(Z:1<=m)(h:Made n r K hs iu M)(G:d∈uy hs k):prog.call m 5 [.ref n,.int k,d] M=.ok (.int (Bu hs k d)) M:=by
 rcases Gb G with rfl|⟨i,g,rfl,hg,rfl⟩
 .rw[aqd Z h];simp[Bu]
 .rw[a2r Z h hg,O2 hg]
noncomputable def Gr(p:Nat×Nat):D:=.tup [.int p.1,.int p.2]
def a97(p:Nat×Nat)(M:cz):Aw (Gr p) (.int 0) M=some (.int p.1):=rfl
def a98(p:Nat×Nat)(M:cz):Aw (Gr p) (.int 1) M=some (.int p.2):=rfl
def ax4(p:Nat×Nat):Tf (Gr p)=some (ky p.1 p.2):=rfl
noncomputable def Cd(hs:List F)(a:List (List Nat))(k x:Nat):List (Nat×Nat):=(uy hs k).map λd=>(Bu hs k d,Oq a x d)
def agx(R:2<=m)(P:Lp sz K hs iu)(h:Made n r K hs iu M)(w:Vf K hs s a)(hx:x<s.getD k 0):prog.call m 23 [.ref n,j6 s a,Gr (k,x)] M=.ok (.vl ((Cd hs a k x).map Gr)) (M++[.lst (uy hs k)]):=by
 rw[call_of (a_ (by decide) R) rfl];have Z:1<=m-1:=r_ R
 have U:Made n r K hs iu (M++[.lst (uy hs k)]):=⟨qt h.1,qt h.2⟩;have g1:=aiw (M:=M) (W:=PW (m-1)) (n:=n) (ρ:=[D.ref n,j6 s a,Gr (k,x),D.int k]) (o:=.v 0) (mm:=3) (es:=.o (.v 3)) (ds:=[.int k]) (fi:=4) (by simp) (by simp) h.1 rfl;have c1:Mt.den (PW (m-1)) [some (.ref n),some (j6 s a),some (Gr (k,x)),some (.int k)] M=.ok (.vl ((Cd hs a k x).map Gr)) (M++[.lst (uy hs k)]):=by
  unfold Mt;rw[Ao (d:=.ref M.length) (ds:=uy hs k) (M1:=M++[.lst (uy hs k)]) (g:=λd=>Gr (Bu hs k d,Oq a x d)) (g1.trans (av7 Z h P.len)) (by simp[fu]) (a_ (J0 P.len) (by decide)) (λd hd=>by
   have G:=aiw (M:=M++[.lst (uy hs k)]) (W:=PW (m-1)) (n:=n) (ρ:=[D.ref n,j6 s a,Gr (k,x),D.int k,some d]) (o:=.v 0) (mm:=4) (es:=.p (.v 3) (.v 4)) (ds:=[.int k,d]) (fi:=5) (by simp) (by simp) U.1 rfl;have G:=G.trans (awn Z U hd);have l:=awm (M:=M++[.lst (uy hs k)]) Z w hd hx;exact⟨_,rfl,by simp[-Q8,G,l,a98];rfl⟩)]
  simp[Cd]
 simp[Fn.run,Yo,Yn,a97,c1]
end
def awo(M:cz)(a b:MO):(M++[a]).set M.length b=M++[b]:=by simp
def Ky(M:cz)(a:MO):(M++[a])[M.length]?=some a:=by simp
noncomputable def m9(s:Yf)(f:Nat->Nat->Bool)(K:Nat):List (List Nat):=(List.range K).map λk=>(List.range (s.getD k 0)).filter (f k)
def Qt(s:Yf)(f:Nat->Nat->Bool)(i:Nat):m9 s f (i+1)=m9 s f i++[(List.range (s.getD i 0)).filter (f i)]:=by simp[m9,Ai]
section
variable{m:Nat}{M:cz}{sz:Nat->Nat}{K n r mp:Nat}{hs:List F}{iu kv:List (List Kx×D)}{s:Yf}{a p q:List (List Nat)}
def awp(hm:1<=m)(w:Vf K hs s a)(hK:K<=3)(hp:M[mp]?=some (.dT kv)):prog.call m 24 [j6 s a,.ref mp] M=.ok (rD (m9 s (λk x=>(xu kv (ky k x)).isSome) K)) (M++[.lst ((m9 s (λk x=>(xu kv (ky k x)).isSome) K).map zu)]):=by
 rw[call_of hm rfl];obtain⟨fl,qq,M',e,⟨rfl,⟨Z,R,rfl⟩,rfl⟩|⟨v,rfl,h⟩⟩:=Ke (W:=PW (m-1)) (s:=.con (Bs (s.map nD) 0)) (n:=K) (t:=.names [3,4]) (b:=Mv) (it:=.enm (.ix (.v 0) (.i 0))) (ρ:=[j6 s a,D.ref mp,D.ref M.length,none,none]) (M:=M++[.lst []]) (M1:=M++[.lst []]) (by simp[Zn,zu]) (by simp[Src.len,Bs,w.ls])
  (λi ρ M'=>(∃Z R,ρ=[some (j6 s a),some (.ref mp),some (.ref M.length),Z,R])/\M'=M++[.lst ((m9 s (λk x=>(xu kv (ky k x)).isSome) i).map zu)]) (λ_ _=>False) ⟨⟨none,none,rfl⟩,by simp[m9]⟩ (λ_ _ _=>rfl) (λi ρ M' hi hI=>by
   refine hG λ_ _k=>?_
   obtain⟨⟨Z,R,rfl⟩,rfl⟩:=hI;have h7:=w.s7 i;obtain⟨y,U⟩:=Qs (l:=s) (i:=i) (by rw[w.ls];exact hi);rw[aby U] at h7;have c1:Mu.den (PW (m-1)) [some (j6 s a),some (.ref mp),some (.ref M.length),some (.int i),some (.int y)] (M++[.lst ((m9 s (λk x=>(xu kv (ky k x)).isSome) i).map zu)])=.ok (.vl (((List.range y).filter λx=>(xu kv (ky i x)).isSome).map nD)) (M++[.lst ((m9 s (λk x=>(xu kv (ky k x)).isSome) i).map zu)]):=by
    unfold Mu;rw[Mf (n:=y) (M1:=M++[.lst ((m9 s (λk x=>(xu kv (ky k x)).isSome) i).map zu)]) (q:=λx=>(xu kv (ky i x)).isSome) (g:=nD) (by simp) (a_ h7 (by decide)) (λx hx=>by
     have ii:=axc (qt (X:=[.lst ((m9 s (λk x=>(xu kv (ky k x)).isSome) i).map zu)]) hp) (ax4 (i,x));rw[Gr] at ii;exact⟨_,rfl,by simp[ii],λ_=>by simp[nD]⟩)]
    rfl
   have g:=Ky M (.lst ((m9 s (λk x=>(xu kv (ky k x)).isSome) i).map zu));have ap:=Cq (d:=zu ((List.range y).filter λx=>(xu kv (ky i x)).isSome)) g (by simp[m9];lia);apply _k;rw[awo,show(m9 s (λk x=>(xu kv (ky k x)).isSome) i).map zu++[zu ((List.range y).filter λx=>(xu kv (ky i x)).isSome)]=(m9 s (λk x=>(xu kv (ky k x)).isSome) (i+1)).map zu by rw[Qt,aby U];simp] at ap;have G:=Hu (M++[.lst ((m9 s (λk x=>(xu kv (ky k x)).isSome) i).map zu)]) (((List.range y).filter λx=>(xu kv (ky i x)).isSome).map nD);exact⟨.tup [.int i,.int y],[some (j6 s a),some (.ref mp),some (.ref M.length),some (.int i),some (.int y)],by simp[Src.item,Bs,U,nD],rfl,.next,_,_,by simp[Mv,Cu g,c1,G];exact ap▸rfl,.inl ⟨rfl,⟨some (.int i),some (.int y),rfl⟩,rfl⟩⟩)
 .have e:Uo.den (PW (m-1)) _ _=_:=e
  have G:rz .tuple [.ref M.length] (M++[.lst ((m9 s (λk x=>(xu kv (ky k x)).isSome) K).map zu)])=.ok (rD (m9 s (λk x=>(xu kv (ky k x)).isSome) K)) (M++[.lst ((m9 s (λk x=>(xu kv (ky k x)).isSome) K).map zu)]):=by simp[rz,wz,fu,rD]
  simp[Fn.run,Yq,Yp,MW.new,e,G]
 .exact h.elim
end
section
variable{m:Nat}{M:cz}{W:G5}{ρ:Env}{l l1 l2:Yf}
def a3c{v:Bool}(G:x.den W ρ M=.ok d M)(U:y.den W ρ M=.ok d' M)(R:wz M d=some (l1.map nD))(h2:wz M d'=some (l2.map nD))(n1:l1.length<=7)(n2:l2.length<=7)(Z:∀z,(if v then z∈l1/\z∈l2 else z∈l1\/z∈l2)↔z<b/\f z=true) :
 (Ex.J9 v x y).den W ρ M=.ok (.vl ((Gq b f).map nD)) M:=by
 have e:=Zu (is:=if v then(l1.map λ(x:Nat)=>(x:Int)).filter (λi=>decide (i∈l2.map λ(x:Nat)=>(x:Int))) else(l1.map λ(x:Nat)=>(x:Int))++l2.map λ(x:Nat)=>(x:Int)) (b:=b) (f:=f) λy=>by
  have:(∃z:Nat,z<b/\f z=true/\y=z)↔∃z:Nat,(if v then z∈l1/\z∈l2 else z∈l1\/z∈l2)/\y=z:=by
   constructor
   .rintro⟨z,a,c,rfl⟩;exact⟨z,(Z z).mpr ⟨a,c⟩,rfl⟩
   .rintro⟨z,a,rfl⟩;exact⟨z,((Z z).mp a).1,((Z z).mp a).2,rfl⟩
  rw[this];cases v with
  |true =>
   simp only[jn,uz,cu,mem_cast];constructor
   .rintro⟨⟨z,a,rfl⟩,u,c,e⟩
    have:z=u:=by lia
    subst this;exact⟨z,⟨a,c⟩,rfl⟩
   .rintro⟨z,⟨a,c⟩,rfl⟩;exact⟨⟨z,a,rfl⟩,z,c,rfl⟩
  |false =>
   simp only[bu,ik,dh,mem_cast];constructor
   .rintro(⟨z,a,rfl⟩|⟨z,a,rfl⟩)
    .exact⟨z,.inl a,rfl⟩
    .exact⟨z,.inr a,rfl⟩
   .rintro⟨z,a|a,rfl⟩
    .exact .inl ⟨z,a,rfl⟩
    .exact .inr ⟨z,a,rfl⟩
 rw[Ex.den,G,Res.Am,R,qw,Vr];simp only[];rw[cj (by simp;lia),U,Res.Am,h2,qw,Vr];simp only[];rw[cj (by simp;lia),e,ai3]
end
section
variable{m:Nat}{M:cz}{sz:Nat->Nat}{K n r mp:Nat}{hs:List F}{iu kv:List (List Kx×D)}{s:Yf}{a p q:List (List Nat)}
def Xk(s:Yf)(f:Nat->Nat->Bool)(Z:k<K):(m9 s f K)[k]?=some (Gq (s.getD k 0) (f k)):=by simp[m9,Z,Gq]
def aes(P:Lp sz K hs iu)(Z:k<K)(h:e∈Cd hs a k x):e.1<K:=by
 refine hG λ_ _k=>?_
 obtain⟨d,G,rfl⟩:=bw.mp h;apply _k;exact Vq P Z G
def ak6(P:Lp sz K hs iu):(Cd hs a k x).length<=6:=by rw[Cd,dw];exact J0 P.len
def aet(w:Vf K hs s a)(Z:x<s.getD k 0)(h:e∈Cd hs a k x):e.2<s.getD e.1 0:=by
 refine hG λ_ _k=>?_
 obtain⟨d,hd,rfl⟩:=bw.mp h;apply _k;rcases Gb hd with rfl|⟨i,g,rfl,hg,rfl⟩
 .simpa[Bu,Oq] using Z
 .refine hG λ_ _k=>?_
  obtain⟨U,R,h2,G⟩:=w.get hg;apply _k;show Oq a x (.int i)<s.getD (Bu hs g.a (.int i)) 0
  rw[O2 hg,abz R];refine G _ ?_;have:x<U.length:=by rw[h2];exact Z
  rw[du,dj this];exact p7 this
noncomputable def inR(R:List (Nat×Nat))(k x:Nat):Bool:=decide ((k,x)∈R)
noncomputable def allR(hs:List F)(a:List (List Nat))(S:List (Nat×Nat)):List (Nat×Nat):=S.flatMap λe=>Cd hs a e.1 e.2
noncomputable def InW(K:Nat)(s:Yf)(S:List (Nat×Nat)):Prop:=∀e∈S,e.1<K/\e.2<s.getD e.1 0
def InW.all(P:Lp sz K hs iu)(w:Vf K hs s a)(h:InW K s S):InW K s (allR hs a S):=λe Z=>by
 refine hG λ_ _k=>?_
 obtain⟨b,G,Z⟩:=List.mem_flatMap.mp Z;obtain⟨U,R⟩:=h b G;apply _k;exact⟨aes P U Z,aet w R Z⟩
end
noncomputable abbrev EP(n:Nat)(w:D)(hp mp:Nat)(b4 b5:Option D):Env:=[some (.ref n),some w,some (.ref hp),some (.ref mp),b4,b5]
noncomputable def Tel(Z:List (List Kx×D))(R:List (Nat×Nat)):Prop:=∀k x,(xu Z (ky k x)).isSome=true↔(k,x)∈R
def Tel.put(h:Tel Z R)(e:Nat×Nat):Tel (Dd Z (ky e.1 e.2) (.bl true)) (R++[e]):=λk x=>by
 rw[aqo,dh,jw]
 by_cases z:ky k x=ky e.1 e.2
 .refine hG λ_ _k=>?_
  obtain⟨rfl,rfl⟩:=aap z;apply _k;rw[cj rfl];exact⟨λ_=>.inr rfl,λ_=>rfl⟩
 .rw[bx z,h k x]
  refine⟨.inl,λy=>y.elim id λy=>?_⟩;cases y;exact absurd rfl z
noncomputable def But(p:Nat)(M M':cz):Prop:=∀b o,b≠p->M[b]?=some o->M'[b]?=some o
def take_one{α:Type}{l:List α}{x:α}(h:l[i]?=some x):l.take (i+1)=l.take i++[x]:=by rw[List.take_succ,h];rfl
section
variable{m:Nat}{M:cz}{sz:Nat->Nat}{K n r mp hp:Nat}{hs:List F}{iu kv:List (List Kx×D)}{s:Yf}{a p q:List (List Nat)}{S R:List (Nat×Nat)}
def a3e(hm:2<=m)(P:Lp sz K hs iu)(h:Made n r K hs iu M)(w:Vf K hs s a)(hx:x<s.getD k 0)(hd:M[mp]?=some (.dT kv))(hl:kv.length<=c)(hc:c<=1000)(hT:Tel kv R) :
 ∃c5 M' Z,Mw.den (PW m) (EP n (j6 s a) hp mp (some (Gr (k,x))) b5) M=.ok (.next,EP n (j6 s a) hp mp (some (Gr (k,x))) c5) M'/\M'[mp]?=some (.dT Z)/\Z.length<=c+6/\Tel Z (R++Cd hs a k x)/\But mp M M':=by
 have re:=agx (m:=m) (M:=M) hm P h w hx;have rl:=ak6 (a:=a) (k:=k) (x:=x) P;generalize Cd hs a k x=L at re rl;obtain⟨fl,qq,M',e,⟨rfl,⟨c5,rfl⟩,Z,U,g2,G,g4⟩|⟨v,rfl,h⟩⟩:=Ke (W:=PW m) (s:=.con (L.map Gr)) (n:=L.length) (t:=.name 5) (b:=Hd) (it:=.val (.call 23 (.q (.v 0) (.v 1) (.v 4)))) (ρ:=EP n (j6 s a) hp mp (some (Gr (k,x))) b5) (M:=M) (M1:=M++[.lst (uy hs k)]) (by simp[re,srcOf]) (by simp[Src.len])
  (λi ρ M'=>(∃b5,ρ=EP n (j6 s a) hp mp (some (Gr (k,x))) b5)/\∃Z,M'[mp]?=some (.dT Z)/\Z.length<=c+i/\Tel Z (R++L.take i)/\But mp M M') (λ_ _=>False) ⟨⟨b5,rfl⟩,kv,qt hd,hl,by simpa using hT,λ_ _ _ h=>qt h⟩ (λ_ _ _=>rfl) (λi ρ M' hi hI=>by
   refine hG λ_ _k=>?_
   obtain⟨⟨b5,rfl⟩,Z,U,g2,G,g4⟩:=hI;obtain⟨e,he⟩:=Qs hi;have st:=amq (d:=.bl true) U (ax4 e) (by lia);have pl:=ai1 Z (ky e.1 e.2) (.bl true);apply _k;exact⟨Gr e,EP n (j6 s a) hp mp (some (Gr (k,x))) (some (Gr e)),by simp[Src.item,he],rfl,.next,_,M'.set mp (.dT (Dd Z (ky e.1 e.2) (.bl true))),by simp[Hd,st],.inl ⟨rfl,⟨some (Gr e),rfl⟩,_,ur U,by lia,by rw[take_one he,<- q9];exact G.put e,λb o hb ho=>by rw[qp hb.symm];exact g4 b o hb ho⟩⟩)
 .rw[Bb] at G
  exact⟨c5,M',Z,e,U,by lia,G,g4⟩
 .exact h.elim
def aqw(hm:3<=m)(P:Lp sz K hs iu)(h:Made n r K hs iu M)(w:Vf K hs s a)(hS:InW K s S)(hl:S.length<=100)(G:M[hp]?=some (.lst (S.map Gr))) :
 ∃M',prog.call m 25 [.ref n,j6 s a,.ref hp] M=.ok (rD (m9 s (inR (allR hs a S)) K)) M'/\Bt M M':=by
 rw[call_of (a_ (by decide) hm) rfl];have q0:(M++[MO.dT []])[hp]?=some (.lst (S.map Gr)):=qt G;have ne:hp≠M.length:=h_ (w6 G);obtain⟨fl,qv,M',e,⟨rfl,⟨b4,b5,rfl⟩,kv,g1,g2,g3,Z⟩|⟨v,rfl,h⟩⟩:=Ke (W:=PW (m-1)) (s:=.live hp S.length) (n:=S.length) (t:=.name 4) (b:=Hf) (it:=.val (.v 2)) (ρ:=EP n (j6 s a) hp M.length none none) (M:=M++[.dT []]) (M1:=M++[.dT []]) (by simp[srcOf,q0]) rfl
  (λi ρ M'=>(∃b4 b5,ρ=EP n (j6 s a) hp M.length b4 b5)/\∃kv,M'[M.length]?=some (.dT kv)/\kv.length<=6*i/\Tel kv (allR hs a (S.take i))/\But M.length (M++[.dT []]) M') (λ_ _=>False) ⟨⟨none,none,rfl⟩,[],Ky M _,bf _,λk x=>by simp[xu,allR],λ_ _ _ h=>h⟩ (λ_ M' h=>by
   refine hG λ_ _k=>?_
   obtain⟨_,kv,_,_,_,g⟩:=h;apply _k;simp[Src.fin,g _ _ ne q0]) (λi ρ M' hi hI=>by
   refine hG λ_ _k=>?_
   obtain⟨⟨b4,b5,rfl⟩,kv,g1,g2,g3,Z⟩:=hI;have qi:=Z _ _ ne q0;obtain⟨⟨k,x⟩,he⟩:=Qs hi;have qk:=hS _ (az he);have h':Made n r K hs iu M':=⟨Z _ _ (h_ (w6 h.1)) (qt h.1),Z _ _ (h_ (w6 h.2)) (qt h.2)⟩;obtain⟨c5,M1,qq,e1,j1,j2,j3,j4⟩:=a3e (m:=m-1) (hp:=hp) (b5:=b5) (r_ hm) P h' w qk.2 g1 g2 (by lia) g3;apply _k;exact⟨Gr (k,x),EP n (j6 s a) hp M.length (some (Gr (k,x))) b5,by simp[Src.item,qi,he],rfl,.next,_,M1,by simp[Hf,e1],.inl ⟨rfl,⟨some (Gr (k,x)),c5,rfl⟩,qq,j1,by lia,by rw[take_one he,allR,List.flatMap_append];simpa[allR] using j3,λb o U ho=>j4 b o U (Z b o U ho)⟩⟩)
 .have e:Mx.den (PW (m-1)) _ _=_:=e
  have pk:=awp (M:=M') (m:=m-1) (r_ (a_ (by decide) hm)) w P.k3 g1;rw[Bb] at g3;have er:m9 s (λk x=>(xu kv (ky k x)).isSome) K=m9 s (inR (allR hs a S)) K :=
   wu λk hk=>List.filter_congr λx hx=>by rw[yc,g3 k x,inR,cu]
  rw[er] at pk;exact⟨M'++[.lst ((m9 s (inR (allR hs a S)) K).map zu)],by simp[Fn.run,Rc,Rb,MW.new,e,pk],λb o U=>qt (Z b o (h_ (w6 U)) (qt U))⟩
 .exact h.elim
end
noncomputable abbrev EW(t:Nat)(pt w:D)(p K:Nat)(b4 b5 b6 b7:Option D):Env:=[some (.ref t),some pt,some w,some (.vl (v5 p K)),b4,b5,b6,b7]
noncomputable abbrev EV(pt w:D)(sp p K:Nat)(b4 b5 b6 b7:Option D):Env:=[some pt,some w,some (.ref sp),some (.vl (v5 p K)),b4,b5,b6,b7]
noncomputable def NR(p K c:Nat)(R:List (Nat×Nat))(M:cz):Prop:=∀e,e<K->∃l:List Nat,M[p+e]?=some (.lst (l.map nD))/\l.length<=c/\∀x,x∈l↔(e,x)∈R
section
variable{m t:Nat}{f0:Bool}{M:cz}{sz:Nat->Nat}{K n r p c:Nat}{hs:List F}{iu:List (List Kx×D)}{s:Yf}{a:List (List Nat)}{S R:List (Nat×Nat)}
def NR.le(h:NR p K c R M)(l:c<=d):NR p K d R M:=λe G=>by
 refine hG λ_ _k=>?_
 obtain⟨j,U,Z,h3⟩:=h e G;apply _k;exact⟨j,U,a_ Z l,h3⟩
def NR.st(h:NR p K c R M)(k:St t f0 M M')(ht:t<p):NR p K c R M':=λe G=>by obtain⟨j,U,Z⟩:=h e G;exact⟨j,k.keep _ _ (i_ (b_ ht x_)) U,Z⟩
def NR.add(h:NR p K c R M)(hi:i<K)(hc:c<1000)(y:Nat):∃l:List D,M[p+i]?=some (.lst l)/\l.length<100000/\NR p K (c+1) (R++[(i,y)]) (M.set (p+i) (.lst (l++[.int y]))):=by
 refine hG λ_ _k=>?_
 obtain⟨l,Z,g2,g3⟩:=h i hi;apply _k;refine⟨_,Z,by rw[dw];lia,λe G=>?_⟩
 by_cases z:e=i
 .subst z
  exact⟨l++[y],by rw[ur Z];simp[nD],by simp;lia,λx=>by rw[dh,dh,g3,jw,jw,Prod.mk.injEq];simp⟩
 .refine hG λ_ _k=>?_
  obtain⟨l',g4,g5,U⟩:=h e G;apply _k;exact⟨l',by rw[qp (by lia)];exact g4,by lia,λx=>by rw[dh,U,jw,Prod.mk.injEq];simp[z]⟩
def Zo{i:Nat}(h:(uy hs k)[i]?=some d):(Cd hs a k x)[i]?=some (Bu hs k d,Oq a x d):=by simp[Cd,h]
def awq(hm:1<=m)(P:Lp sz K hs iu)(w:Vf K hs s a)(hk:k<K)(hx:x<s.getD k 0)(h:NR p K c R M)(hc:c<=500) :
 ∃b7 M',Nk.den (PW m) (EW t (su K r hs) (j6 s a) p K b4 (some (.int k)) (some (.int x)) b7') M=.ok (.next,EW t (su K r hs) (j6 s a) p K b4 (some (.int k)) (some (.int x)) b7) M'/\NR p K (c+6) (R++Cd hs a k x) M'/\Pr p M M'/\M'.length=M.length:=by
 have wl:=J0 (hs:=hs) (k:=k) P.len;obtain⟨fl,qq,M',e,⟨rfl,⟨b7,rfl⟩,G,r2,r3⟩|⟨v,rfl,h⟩⟩:=Ke (W:=PW m) (s:=.con (uy hs k)) (n:=(uy hs k).length) (t:=.name 7) (b:=Hq) (it:=.val (.call 18 (.p (.v 1) (.v 5)))) (ρ:=EW t (su K r hs) (j6 s a) p K b4 (some (.int k)) (some (.int x)) b7') (M:=M) (M1:=M) (by simp[Xc hm P.len,srcOf]) rfl
  (λi ρ M'=>(∃b7,ρ=EW t (su K r hs) (j6 s a) p K b4 (some (.int k)) (some (.int x)) b7)/\NR p K (c+i) (R++(Cd hs a k x).take i) M'/\Pr p M M'/\M'.length=M.length) (λ_ _=>False) ⟨⟨b7',rfl⟩,by simpa using h,Pr.refl _ _,rfl⟩ (λ_ _ _=>rfl) (λi ρ M1 hi hI=>by
   refine hG λ_ _k=>?_
   obtain⟨⟨b7,rfl⟩,G,r2,r3⟩:=hI;obtain⟨d,U⟩:=Qs hi;have Z:=az U;have fl:=Vq P hk Z;obtain⟨l,g1,g2,g3⟩:=G.add fl (by lia) (Oq a x d);have ee:=Xe (K:=K) (r:=r) (M:=M1) hm Z;have ll:=aer (M:=M1) hm w Z hx;have ap:=Cq (d:=.int (Oq a x d:Nat)) g1 g2;have ir:=Sq (p:=p) (K:=K) (M:=M1) fl;apply _k;exact⟨d,EW t (su K r hs) (j6 s a) p K b4 (some (.int k)) (some (.int x)) (some d),U,rfl,.next,_,M1.set (p+Bu hs k d) (.lst (l++[.int (Oq a x d:Nat)])),by simp[Hq,ee,ir,Cu g1,ll,ap],.inl ⟨rfl,⟨some d,rfl⟩,by rw[take_one (Zo U),<- q9];exact g3,r2.trans (Pr.set x_),by simp[r3]⟩⟩)
 .rw[yl (by simp[Cd])] at G
  exact⟨b7,M',e,G.le (by lia),r2,r3⟩
 .exact h.elim
def awr(hm:1<=m)(P:Lp sz K hs iu)(w:Vf K hs s a)(hk:k<K)(hx:x<s.getD k 0)(h:NR p K c R M)(hc:c<=500) :
 ∃b6 b7 M',Nt.den (PW m) (EV (su K r hs) (j6 s a) t p K (some (.int k)) (some (.int x)) b6' b7') M=.ok (.next,EV (su K r hs) (j6 s a) t p K (some (.int k)) (some (.int x)) b6 b7) M'/\NR p K (c+6) (R++Cd hs a k x) M'/\Pr p M M':=by
 have wl:=J0 (hs:=hs) (k:=k) P.len;obtain⟨fl,qq,M',e,⟨rfl,⟨b6,b7,rfl⟩,G,r2⟩|⟨v,rfl,h⟩⟩:=Ke (W:=PW m) (s:=.con (uy hs k)) (n:=(uy hs k).length) (t:=.name 6) (b:=Hr) (it:=.val (.call 18 (.p (.v 0) (.v 4)))) (ρ:=EV (su K r hs) (j6 s a) t p K (some (.int k)) (some (.int x)) b6' b7') (M:=M) (M1:=M) (by simp[Xc hm P.len,srcOf]) rfl
  (λi ρ M'=>(∃b6 b7,ρ=EV (su K r hs) (j6 s a) t p K (some (.int k)) (some (.int x)) b6 b7)/\NR p K (c+i) (R++(Cd hs a k x).take i) M'/\Pr p M M') (λ_ _=>False) ⟨⟨b6',b7',rfl⟩,by simpa using h,Pr.refl _ _⟩ (λ_ _ _=>rfl) (λi ρ M1 hi hI=>by
   refine hG λ_ _k=>?_
   obtain⟨⟨b6,b7,rfl⟩,G,r2⟩:=hI;obtain⟨d,U⟩:=Qs hi;have Z:=az U;have fl:=Vq P hk Z;obtain⟨l,g1,g2,g3⟩:=G.add fl (by lia) (Oq a x d);have ee:=Xe (K:=K) (r:=r) (M:=M1) hm Z;have ll:=aer (M:=M1) hm w Z hx;have ap:=Cq (d:=.int (Oq a x d:Nat)) g1 g2;have ir:=Sq (p:=p) (K:=K) (M:=M1) fl;apply _k;exact⟨d,EV (su K r hs) (j6 s a) t p K (some (.int k)) (some (.int x)) (some d) b7,U,rfl,.next,_,M1.set (p+Bu hs k d) (.lst (l++[.int (Oq a x d:Nat)])),by simp[Hr,ee,ir,Cu g1,ll,ap],.inl ⟨rfl,⟨some d,some (.int (Bu hs k d)),rfl⟩,by rw[take_one (Zo U),<- q9];exact g3,r2.trans (Pr.set x_)⟩⟩)
 .rw[yl (by simp[Cd])] at G
  exact⟨b6,b7,M',e,G.le (by lia),r2⟩
 .exact h.elim
def aeu{W:G5}{ρ:Env}(w:Vf K hs s a)(hK:K<=3)(h:NR p K c R M)(hR:InW K s R)(h3:ρ[3]?=some (some (.vl (v5 p K))))(hy:ρ.length=8) :
 (Ex.comp true 1 (.name 8) (.val (.v 3)) (.blt .tuple (.o (.blt .Ca (.o (.v 8)))))).den W ρ M=.ok (.vl ((m9 s (inR R) K).map zu)) M:=by
 rw[abx (g:=λi=>zu (Gq (s.getD i 0) (inR R i))) (ds:=v5 p K) (by simp[h3,srcOf]) (by simp[v5];exact a_ hK (by decide)) (λi d G=>by
  have Z:i<K:=by have:=(ak.mp G).1;simpa[v5] using this
  obtain rfl:D.ref (p+i)=d:=by simpa[v5,Z] using G
  refine hG λ_ _k=>?_
  obtain⟨l,g1,g2,g4⟩:=h i Z;have sl:fu M (.ref (p+i))=some (l.map nD):=by simp[fu,g1]
  have z:=abw (b:=s.getD i 0) (f:=inR R i) (agt sl) (.inl (w.s7 i)) λx=>by rw[g4,inR,cu];exact⟨λq=>⟨(hR _ q).2,q⟩,λq=>q.2⟩
  apply _k;refine⟨(ρ++[none]).set 8 (some (.ref (p+i))),rfl,?_⟩;have U:((ρ++[none]).set 8 (some (D.ref (p+i))))[8]?=some (some (.ref (p+i))):=by simp[hy]
  simp[U,z.1,Hu];rfl)]
 simp[m9,v5,Gq]
def aev(hm:2<=m)(P:Lp sz K hs iu)(hh:Uq t f0 M)(w:Vf K hs s a):∃f M',prog.call m 32 [.ref t,su K r hs,j6 s a] M=.ok (rD (m9 s f K)) M'/\St t f0 M M':=by
 rw[call_of (a_ (by decide) hm) rfl];have k3:=P.k3;have m1:1<=m-1:=r_ hm
 have ht:t<M.length:=by obtain⟨_,h,_⟩:=hh;exact w6 h
 refine hG λ_ _k=>?_
 have r0:Nq.den (PW (m-1)) [some (.ref t),some (su K r hs),some (j6 s a),none,none,none,none,none] M=_:=Xf (y:=8) (K:=K) rfl (by simp[Iv]) (a_ k3 (by decide));have g0:Gs t f0 M.length M (M++List.replicate K (.lst [])):=Gs.app hh (bf _) _;have n0:NR M.length K 0 [] (M++List.replicate K (.lst [])):=λe G=>⟨[],by rw[jc x_];simp[G],bf _,by simp⟩
 obtain⟨v,M1,e1,l1,s1,n1⟩:=Aq (many:=4) (m:=m-1) m1 g0.has (by decide) (by decide);obtain⟨qv,M2,e2,⟨b4,b5,b6,Z,rfl⟩,R,h2,hR,g2⟩:=zx (W:=PW (m-1)) (t:=.name 4) (b:=Eb) (it:=.call 14 (.p (.v 0) (.i 4))) (n:=v) (ρ:=EW t (su K r hs) (j6 s a) M.length K none none none none) (M:=M++List.replicate K (.lst [])) (M1:=M1) (by simp[e1]) (e_ (b_ (o_ l1) (by decide)))
  (λi ρ M'=>(∃b4 b5 b6 Z,ρ=EW t (su K r hs) (j6 s a) M.length K b4 b5 b6 Z)/\∃R,NR M.length K (6*i) R M'/\InW K s R/\Gs t f0 M.length M M') ⟨⟨none,none,none,none,rfl⟩,[],n0.st s1 ht,λ_ h=>by simp at h,g0.trans (Gs.Oo s1)⟩
  (λi ρ M2 hi hI=>by
   refine hG λ_ _k=>?_
   obtain⟨⟨b4,b5,b6,Z,rfl⟩,R,h2,hR,g2⟩:=hI;have l1:v<4:=o_ l1
   obtain⟨k,M3,e3,l3,s3,n3⟩:=Aq (many:=K) (m:=m-1) m1 g2.has (by have:=P.k1;exact m_ this) (m_ (c_ k3 (by decide)));obtain⟨x,M4,e4,l4,s4,n4⟩:=Aq (many:=8) (m:=m-1) m1 s3.has (by decide) (by decide);have hk:k<K:=o_ l3
   have U:=s3.trans s4;have h4:=h2.st U ht;have g4:=g2.trans (Gs.Oo U);have j2:=ai4 (l:=s) (i:=k) (M:=M4) (by rw[w.ls];exact hk);apply _k
   by_cases c:x<s.getD k 0
   .refine hG λ_ _k=>?_
    obtain⟨c7,M5,e5,h5,qk,n5⟩:=awq (m:=m-1) (t:=t) (r:=r) (b4:=some (.int i)) (b7':=Z) m1 P w hk c h4 (by lia);have qq:InW K s (R++Cd hs a k x):=λe G=>(dh.mp G).elim (hR e) λG=>⟨aes P hk G,aet w c G⟩
    generalize s.getD k 0=B at j2 c;have c':(x:Int)<(B:Int):=m_ c
    apply _k;exact⟨_,.next,_,M5,rfl,by simp[Eb,Iv,e3,e4,Zn,j2,c,c',e5],.inl rfl,⟨some (.int i),some (.int k),some (.int x),c7,rfl⟩,_,h5.le (by lia),qq,g4.trans (Gs.Xh g4.has qk ht (g_ n5))⟩
   .generalize s.getD k 0=B at j2 c
    have c':¬(x:Int)<(B:Int):=by lia
    exact⟨_,.next,_,M4,rfl,by simp[Eb,Iv,e3,e4,Zn,j2,c,c'],.inl rfl,⟨some (.int i),some (.int k),some (.int x),Z,rfl⟩,R,h4.le (by lia),hR,g4⟩)
 have e2:Np.den (PW (m-1)) _ _=_:=e2;have e5:Nj.den (PW (m-1)) (EW t (su K r hs) (j6 s a) M.length K b4 b5 b6 Z) M2=_:=aeu w k3 h2 hR rfl rfl;apply _k;exact⟨inR R,M2,by simp[Fn.run,Ri,Rh,r0,e2,e5,Hu];rfl,g2.st⟩
def ak7(hm:2<=m)(P:Lp sz K hs iu)(w:Vf K hs s a)(hS:InW K s S)(hl:S.length<=50)(U:M[t]?=some (.lst (S.map Gr))) :
 ∃M',prog.call m 34 [su K r hs,j6 s a,.ref t] M=.ok (rD (m9 s (inR (allR hs a S)) K)) M'/\Bt M M':=by
 rw[call_of (a_ (by decide) hm) rfl];have k3:=P.k3;have m1:1<=m-1:=r_ hm
 have r0:Nv.den (PW (m-1)) [some (su K r hs),some (j6 s a),some (.ref t),none,none,none,none,none] M=_:=Xf (y:=8) (K:=K) rfl (by simp[Iv]) (a_ k3 (by decide));have n0:NR M.length K 0 [] (M++List.replicate K (.lst [])):=λe he=>⟨[],by rw[jc x_];simp[he],bf _,by simp⟩
 have q0:(M++List.replicate K (MO.lst []))[t]?=some (.lst (S.map Gr)):=qt U;have tl:=w6 U;obtain⟨fl,qv,M',e,⟨rfl,⟨b4,b5,Z,G,rfl⟩,h2,lo⟩|⟨v,rfl,h⟩⟩:=Ke (W:=PW (m-1)) (s:=.live t S.length) (n:=S.length) (t:=.names [4,5]) (b:=Hs) (it:=.val (.v 2)) (ρ:=EV (su K r hs) (j6 s a) t M.length K none none none none) (M:=M++List.replicate K (.lst [])) (M1:=M++List.replicate K (.lst [])) (by simp[srcOf,q0]) rfl
  (λi ρ M'=>(∃b4 b5 Z G,ρ=EV (su K r hs) (j6 s a) t M.length K b4 b5 Z G)/\NR M.length K (6*i) (allR hs a (S.take i)) M'/\Pr M.length (M++List.replicate K (.lst [])) M') (λ_ _=>False) ⟨⟨none,none,none,none,rfl⟩,by simpa[allR] using n0,Pr.refl _ _⟩ (λ_ M' h=>by
   obtain⟨_,_,g⟩:=h;simp[Src.fin,g _ _ tl q0]) (λi ρ M1 hi hI=>by
   refine hG λ_ _k=>?_
   obtain⟨⟨b4,b5,Z,G,rfl⟩,h2,lo⟩:=hI;have qi:=lo _ _ tl q0;obtain⟨⟨k,x⟩,he⟩:=Qs hi;have qq:=hS _ (az he);obtain⟨c6,c7,M5,e5,h5,qk⟩:=awr (m:=m-1) (t:=t) (r:=r) (b6':=Z) (b7':=G) m1 P w qq.1 qq.2 h2 (by lia);apply _k;exact⟨Gr (k,x),EV (su K r hs) (j6 s a) t M.length K (some (.int k)) (some (.int x)) Z G,by simp[Src.item,qi,he],rfl,.next,_,M5,by simp[Hs,e5],.inl ⟨rfl,⟨some (.int k),some (.int x),c6,c7,rfl⟩,by rw[take_one he,allR,List.flatMap_append];simpa[allR] using h5.le (by lia),lo.trans qk⟩⟩)
 .have e:Nu.den (PW (m-1)) _ _=_:=e
  rw[Bb] at h2;have e5:Nr.den (PW (m-1)) (EV (su K r hs) (j6 s a) t M.length K b4 b5 Z G) M'=_:=aeu w k3 h2 (hS.all P w) rfl rfl;exact⟨M',by simp[Fn.run,Rm,Rk,r0,e,e5,Hu];rfl,λb o hb=>lo b o (w6 hb) (qt hb)⟩
 .exact h.elim
end
section
variable{W:G5}{ρ:Env}{M:cz}
def Xl(G:it.den W ρ M=.ok (.tup ds) M1)(hl:ds.length<=100000)
 (h:∀x∈ds,∃Z,t.put x (ρ++List.replicate k none)=some Z/\c.den W Z M1=.ok (.bl (q x)) M1/\(q x=true->e.den W Z M1=.ok (g x) M1)) :
 (Ex.Cj v k t (.val it) c e).den W ρ M=if v then .ok (.vl ((ds.filter q).map g)) M1 else new (.lst ((ds.filter q).map g)) M1:=by
 rw[Ma,Kc,G];simp only[Res.Am,srcOf,Res.Cr];rw[Ra (ds:=ds) (g:=λx=>if q x then some (g x) else none) hl (λx U=>by
  refine hG λ_ _k=>?_
  obtain⟨Z,a,b,c⟩:=h x U;apply _k;rw[a,Res.Cr,Res.Am,b,Res.Am];cases e:q x with
  | true=>simp[c e]|false=>simp)]
 have:ds.filterMap (λx=>if q x then some (g x) else none)=(ds.filter q).map g:=by
  clear h hl G
  induction ds with
  |nil=>rfl|cons a l R=>by_cases e:q a=true<;>simp[e,R]
 rw[this];rfl
theorem aew{f:D->D->Option Bool}:∀{l:List D},(∀d∈l,f d d=some true)->O5 f l l=some true
 |[],_=>rfl|a::l,h=>by rw[O5,h a (.head _),aew λd Z=>h d (.tail _ Z)];rfl
def aqx{S:List (Nat×Nat)}(G:M[i]?=some (.lst (S.map Gr)))(Z:M[j]?=some (.lst (S.map Gr))):za M (.ref i) (.ref j)=some true:=by
 show(match fu M (.ref i),fu M (.ref j) with
  |some as,some bs=>if as.length=bs.length then O5 (Ka M 5) as bs else some false
  | _,_=>none)=_
 simp only[fu,G,Z,cj];exact aew λd U=>by
  refine hG λ_ _k=>?_
  obtain⟨e,_,rfl⟩:=bw.mp U;apply _k;simp[Gr,Ka,O5]
end
section
variable{m t:Nat}{f0:Bool}{M:cz}{sz:Nat->Nat}{K n r p c:Nat}{hs:List F}{iu:List (List Kx×D)}{s:Yf}{a:List (List Nat)}{S R:List (Nat×Nat)}{f g:Nat->Nat->Bool}
noncomputable abbrev EO(t:Nat)(pt w:D)(p:Nat)(b4 b5:Option D):Env:=[some (.ref t),some pt,some w,some (.ref p),b4,b5]
def a3g(hm:2<=m)(P:Lp sz K hs iu)(hh:Uq t f0 M)(w:Vf K hs s a):∃S M',prog.call m 33 [.ref t,su K r hs,j6 s a] M=.ok (.ref M.length) M'/\M'[M.length]?=some (.lst (S.map Gr))/\InW K s S/\S.length<=10/\St t f0 M M':=by
 rw[call_of (a_ (by decide) hm) rfl];have k3:=P.k3;have m1:1<=m-1:=r_ hm
 have ht:t<M.length:=by obtain⟨_,h,_⟩:=hh;exact w6 h
 refine hG λ_ _k=>?_
 have nt:M.length≠t:=i_ ht;have g0:Gs t f0 M.length M (M++[.lst []]):=Gs.app hh (bf _) _;obtain⟨v,M1,e1,l1,s1,n1⟩:=Aq (many:=6) (m:=m-1) m1 g0.has (by decide) (by decide);obtain⟨q0,M2,e2,⟨b4,b5,rfl⟩,S,h2,hS,hl,g2⟩:=zx (W:=PW (m-1)) (t:=.name 4) (b:=Ec) (it:=.call 14 (.p (.v 0) (.i 6))) (n:=v) (ρ:=EO t (su K r hs) (j6 s a) M.length none none) (M:=M++[.lst []]) (M1:=M1) (by simp[e1]) (e_ (b_ (o_ l1) (by decide)))
  (λi ρ M'=>(∃b4 b5,ρ=EO t (su K r hs) (j6 s a) M.length b4 b5)/\∃S,M'[M.length]?=some (.lst (S.map Gr))/\InW K s S/\S.length<=2*i/\Gs t f0 M.length M M') ⟨⟨none,none,rfl⟩,[],s1.keep _ _ nt (Ky M _),λ_ h=>by simp at h,bf _,g0.trans (Gs.Oo s1)⟩
  (λi ρ M2 hi hI=>by
   refine hG λ_ _k=>?_
   obtain⟨⟨b4,b5,rfl⟩,S,h2,hS,hl,g2⟩:=hI;have l1:v<6:=o_ l1
   obtain⟨k,M3,e3,l3,s3,n3⟩:=Aq (many:=K) (m:=m-1) m1 g2.has (by have:=P.k1;exact m_ this) (m_ (c_ k3 (by decide)));have hk:k<K:=o_ l3
   have h3:=s3.keep _ _ nt h2;have g3:=g2.trans (Gs.Oo s3);have j2:=λM':cz=>ai4 (l:=s) (i:=k) (M:=M') (by rw[w.ls];exact hk)
   have h7:=w.s7 k;apply _k
   by_cases c:0<s.getD k 0
   .refine hG λ_ _k=>?_
    obtain⟨x,M4,e4,l4,s4,n4⟩:=Aq (many:=s.getD k 0) (m:=m-1) m1 s3.has (m_ c) (by lia);have h4:=s4.keep _ _ nt h3;have g4:=g3.trans (Gs.Oo s4);have ap:=Cq (d:=Gr (k,x)) h4 (by simp;lia);rw[show S.map Gr++[Gr (k,x)]=(S++[(k,x)]).map Gr by simp] at ap;apply _k;have J8:InW K s (S++[(k,x)]):=λe G=>(dh.mp G).elim (hS e) λG=>by rw[jw.mp G];exact⟨hk,o_ l4⟩
    generalize hM5:M4.set M.length (.lst ((S++[(k,x)]).map Gr))=M5 at ap;have h5:M5[M.length]?=some (.lst ((S++[(k,x)]).map Gr)):=by rw[<- hM5];exact ur h4
    have g5:Gs t f0 M.length M M5:=by rw[<- hM5];exact g4.trans (Gs.Xh g4.has (Pr.set (bf _)) ht (by simp))
    refine hG λ_ _k=>?_
    obtain⟨y,M6,e6,l6,s6,n6⟩:=Aq (many:=4) (m:=m-1) m1 g5.has (by decide) (by decide);have h6:=s6.keep _ _ nt h5;have g6:=g5.trans (Gs.Oo s6);have jj:=j2 M3;have jk:=j2 M2;have c':(0:Int)<((s.getD k 0:Nat):Int):=m_ c
    rw[Gr] at ap;generalize s.getD k 0=B at jj jk e4 c c';apply _k
    by_cases c2:y=0
    .subst c2
     obtain⟨Z,S',qq⟩:∃Z S',S++[(k,x)]=Z::S':=by cases S with|nil=>exact⟨_,_,rfl⟩|cons z l=>exact⟨_,_,rfl⟩
     have i0:Aw (.ref M.length) (.int 0) M6=some (Gr Z):=by rw[qq] at h6;simp[Aw,h6,fu,V1]
     have U:=Cq (d:=Gr Z) h6 (by simp;lia);rw[show(S++[(k,x)]).map Gr++[Gr Z]=(S++[(k,x)]++[Z]).map Gr by simp] at U;have qv:Z∈S++[(k,x)]:=by rw[qq];exact .head _
     refine⟨_,.next,_,M6.set M.length (.lst ((S++[(k,x)]++[Z]).map Gr)),rfl,?_,.inl rfl,⟨some (.int i),some (.int k),rfl⟩,S++[(k,x)]++[Z],ur h6,λe G=>(dh.mp G).elim (J8 e) λG=>by rw[jw.mp G];exact J8 _ qv,by simp;lia,g6.trans (Gs.Xh g6.has (Pr.set (bf _)) ht (by simp))⟩;generalize(S++[(k,x)]++[Z]).map Gr=L2 at U;simp[Ec,Iv,e3,Zn,jj,jk,c',c,Cu h3,e4,ap,e6,Cu h6,i0,U]
    .have qk:¬(y:Int)=0:=by lia
     refine⟨_,.next,_,M6,rfl,?_,.inl rfl,⟨some (.int i),some (.int k),rfl⟩,S++[(k,x)],h6,J8,by simp;lia,g6⟩;simp[Ec,Iv,e3,Zn,jj,jk,c',c,Cu h3,e4,ap,e6,qk,c2]
   .have jj:=j2 M3
    have c':¬(0:Int)<((s.getD k 0:Nat):Int):=by lia
    generalize s.getD k 0=B at jj c c';exact⟨_,.next,_,M3,rfl,by simp[Ec,Iv,e3,Zn,jj,c',c],.inl rfl,⟨some (.int i),some (.int k),rfl⟩,S,h3,hS,by lia,g3⟩)
 have e2:Rj.den (PW (m-1)) _ _=_:=e2;have l1:v<6:=o_ l1
 apply _k;exact⟨S,M2,by simp[Fn.run,V9,V8,MW.new,e2],h2,hS,by lia,g2.st⟩
noncomputable def Jg(v:Bool)(f g:Nat->Nat->Bool)(k x:Nat):Bool:=if v then f k x&&g k x else f k x||g k x
def ai5{W:G5}(v:Bool)(hK:K<=3)(Z:∀k,s.getD k 0<=7):(Ex.comp true 2 (.names [2,3]) (.zip (.p (.v 0) (.v 1))) (.blt .tuple (.o (.J9 v (.v 2) (.v 3))))).den W [some (rD (m9 s f K)),some (rD (m9 s g K))] M=.ok (.vl ((m9 s (Jg v f g) K).map zu)) M:=by
 have lf:∀f,(m9 s f K).length=K:=λf=>by simp[m9]
 rw[abx (g:=λi=>zu (Gq (s.getD i 0) (Jg v f g i))) (ds:=Jm [(m9 s f K).map zu,(m9 s g K).map zu] K) (by simp[rD,Qd,G6,lf]) (by simp[Jm];exact a_ hK (by decide)) (λi d G=>by
  have U:i<K:=by simpa[Jm] using(ak.mp G).1
  have:d=.tup [zu (Gq (s.getD i 0) (f i)),zu (Gq (s.getD i 0) (g i))]:=by rw[Jm,jh,ux U] at G;cases G;simp[Xk s _ U]
  subst this;have Z:=Z i;generalize s.getD i 0=B at Z;have so:=a3c (W:=W) (M:=M) (ρ:=[rD (m9 s f K),rD (m9 s g K),zu (Gq B (f i)),zu (Gq B (g i))]) (x:=.v 2) (y:=.v 3) (d:=zu (Gq B (f i))) (d':=zu (Gq B (g i))) (l1:=Gq B (f i)) (l2:=Gq B (g i)) (v:=v) (b:=B) (f:=Jg v f g i) (by simp) (by simp) rfl rfl (a_ (Kw _ _) Z) (a_ (Kw _ _) Z) (λz=>by
   rw[G3,G3,Jg];cases v with
   |true=>simp;exact⟨λh=>⟨h.1.1,h.1.2,h.2.2⟩,λh=>⟨⟨h.1,h.2.1⟩,h.1,h.2.2⟩⟩
   | false=>simp;exact⟨λh=>h.elim (λh=>⟨h.1,.inl h.2⟩) λh=>⟨h.1,.inr h.2⟩,λh=>h.2.elim (λq=>.inl ⟨h.1,q⟩) λq=>.inr ⟨h.1,q⟩⟩)
  exact⟨_,rfl,by simp[so,Hu];rfl⟩)]
 simp[m9,Jm,Gq]
def aqy(G:1<=m)(w:Vf K hs s a)(Z:K<=3):prog.call m 26 [rD (m9 s f K),rD (m9 s g K)] M=.ok (rD (m9 s (Jg true f g) K)) M:=by rw[call_of G rfl];have c:aci.den (PW (m-1)) [some (rD (m9 s f K)),some (rD (m9 s g K))] M=_:=ai5 true Z w.s7;simp[Fn.run,f_both,amx,c,Hu];rfl
def aqz(G:1<=m)(w:Vf K hs s a)(Z:K<=3):prog.call m 27 [rD (m9 s f K),rD (m9 s g K)] M=.ok (rD (m9 s (Jg false f g) K)) M:=by rw[call_of G rfl];have c:V7.den (PW (m-1)) [some (rD (m9 s f K)),some (rD (m9 s g K))] M=_:=ai5 false Z w.s7;simp[Fn.run,ack,acj,c,Hu];rfl
def aq0:Jg v f g=Jg v g f:=by
 funext k x
 cases v<;>simp[Jg,Bool.and_comm,Bool.or_comm]
theorem ai6:∀n,allB (List.replicate n (.bl true))=some true
 |0=>rfl|n+1=>by rw[List.replicate_succ,allB,ai6 n];rfl
def same_int(U:1<=m)(i:Nat):prog.call m 31 [nD i,nD i] M=.ok (.bl true) M:=by
 rw[call_of U rfl];have Z:rz .isSeq [nD i] M=.ok (.bl false) M:=rfl;have e2:rz .isBool [nD i] M=.ok (.bl false) M:=rfl;have G:za M (nD i) (nD i)=some true:=by simp[nD]
 have e4:za M (.bl false) (.bl false)=some true:=rfl;simp[Fn.run,Ni,Nh,Z,e2,G,e4]
def Xm(hm:1<=m){ds:List D}(G:d=.tup ds\/d=.vl ds)(hl:ds.length<=100000)(h:∀d∈ds,prog.call (m-1) 31 [d,d] M=.ok (.bl true) M):prog.call m 31 [d,d] M=.ok (.bl true) M:=by
 rw[call_of hm rfl];have tu:Qd [d,d]=some [ds,ds]:=by rcases G with rfl|rfl<;>rfl
 have e1:rz .isSeq [d] M=.ok (.bl true) M:=by rcases G with rfl|rfl<;>rfl
 obtain⟨x,e2⟩:∃x,rz .isTuple [d] M=.ok (.bl x) M:=by rcases G with rfl|rfl<;>exact⟨_,rfl⟩
 obtain⟨y,e3⟩:∃x,rz .isList [d] M=.ok (.bl x) M:=by rcases G with rfl|rfl<;>exact⟨_,rfl⟩
 have e4:∀b,za M (.bl b) (.bl b)=some true:=λb=>by cases b<;>rfl
 have e6:rz .len [d] M=.ok (.int ds.length) M:=by rcases G with rfl|rfl<;>rfl
 have c:Jd.den (PW (m-1)) [some d,some d] M=.ok (.vl (List.replicate ds.length (.bl true))) M:=by
  unfold Jd;rw[abx (g:=λ_=>.bl true) (ds:=Jm [ds,ds] ds.length) (by simp[tu]) (by simpa[Jm] using hl) (λi d' Z=>by
   have U:i<ds.length:=by simpa[Jm] using(ak.mp Z).1
   have:d'=.tup [ds[i],ds[i]]:=by rw[Jm,jh,ux U] at Z;cases Z;simp[U]
   subst this;exact⟨[some d,some d,some ds[i],some ds[i]],rfl,by simp[h _ (p7 U)]⟩)]
  simp[Jm,List.map_const']
 have al:rz .all [.vl (List.replicate ds.length (.bl true))] M=.ok (.bl true) M:=by show Res.wj ((allB _).map D.bl) M=_;rw[ai6];rfl
 simp[Fn.run,Ni,Nh,c,e1,e2,e3,e4,e6,al]
def Ud(Z:3<=m)(w:Vf K hs s a)(U:K<=3):prog.call m 31 [rD (m9 s f K),rD (m9 s f K)] M=.ok (.bl true) M:=by
 refine Xm (a_ (by decide) Z) (.inl rfl) (by simp[m9];exact a_ U (by decide)) λd G=>?_
 refine hG λ_ _k=>?_
 obtain⟨js,h1,rfl⟩:=bw.mp G;have:js.length<=7:=by
  refine hG λ_ _k=>?_
  obtain⟨k,_,rfl⟩:=bw.mp h1;apply _k;exact a_ (Kw _ _) (w.s7 k)
 apply _k;refine Xm (r_ (a_ (by decide) Z)) (.inl rfl) (by rw[dw];exact a_ this (by decide)) λd G=>?_
 refine hG λ_ _k=>?_
 obtain⟨i,_,rfl⟩:=bw.mp G;apply _k;exact same_int (r_ (r_ (a_ (by decide) Z))) i
end
noncomputable abbrev ER(t:Nat)(pt:D)(n:Nat)(w:D)(sp hp:Nat)(fo o1 o2:D)(p9 p10:Nat)(Lb Lj b13:Option D):Env:=[some (.ref t),some pt,some (.ref n),some w,some (.ref sp),some (.ref hp),some fo,some o1,some o2,some (.ref p9),some (.ref p10),Lb,Lj,b13]
section
variable{m t:Nat}{f0:Bool}{M:cz}{sz:Nat->Nat}{K n r a0 p9 p10:Nat}{hs:List F}{iu:List (List Kx×D)}{s:Yf}{a:List (List Nat)}{S R:List (Nat×Nat)}{f g:Nat->Nat->Bool}
def awt(M:cz)(l1 l2:Yf)(h:l1.length+l2.length<=100000):ab9 (zu l1) (zu l2) M=.ok (zu (l1++l2)) M:=by show(if(l1.map nD).length+(l2.map nD).length<=100000 then Res.ok (D.tup (l1.map nD++l2.map nD)) M else .bad)=_;rw[cj (by simpa using h),<- pq];rfl
def awu(B:Nat)(u v:Nat->Bool):(Gq B u).filter (λx=>decide (x∈Gq B v))=Gq B λx=>u x&&v x:=by
 rw[show Gq B u=(List.range B).filter u from rfl,List.filter_filter];refine List.filter_congr λx Z=>?_
 rw[yc,aq,aq,cu,G3];exact⟨λh=>⟨h.2,h.1.2⟩,λh=>⟨⟨ju.mp Z,h.2⟩,h.1⟩⟩
def awv(w:Vf K hs s a)(hk:k<K)(hK:K<=3)(h9:M[p9]?=some (.lst ((m9 s (Jg true f g) k).map zu)))(qv:M[p10]?=some (.lst ((m9 s (Jg false f g) k).map zu)))(ne:p9≠p10) :
 ∃qk,Ed.den (PW m) (ER t pt n wd sp hp fo (rD (m9 s f K)) (rD (m9 s g K)) p9 p10 (some (.int k)) Lj b13) M=.ok (.next,ER t pt n wd sp hp fo (rD (m9 s f K)) (rD (m9 s g K)) p9 p10 (some (.int k)) qk b13) ((M.set p9 (.lst ((m9 s (Jg true f g) (k+1)).map zu))).set p10 (.lst ((m9 s (Jg false f g) (k+1)).map zu))):=by
 have h7:=w.s7 k;have i1:=λM'=>ax3 (M:=M') (Xk s f hk)
 have i2:=λM'=>ax3 (M:=M') (Xk s g hk)
 rw[Qt,Qt,pq,pq,List.map_singleton,List.map_singleton];have ea:(λx=>f k x&&g k x)=Jg true f g k:=rfl;have hf:=awu (s.getD k 0) (f k) (g k);rw[ea] at hf;have fe:∀v,(List.range (s.getD k 0)).filter (Jg v f g k)=Gq (s.getD k 0) (Jg v f g k):=λ_=>rfl
 rw[fe,fe];have lg:∀f,(m9 s f k).length<100000:=λf=>by simp[m9];lia
 generalize s.getD k 0=B at h7 i1 i2 hf;have G:=Cq (d:=zu (Gq B (Jg true f g k))) h9 (by rw[dw];exact lg _);have qq:(M.set p9 (.lst ((m9 s (Jg true f g) k).map zu++[zu (Gq B (Jg true f g k))])))[p10]?=_:=(qp ne).trans qv;have Z:=Cq (d:=zu (Gq B (Jg false f g k))) qq (by rw[dw];exact lg _);generalize(m9 s (Jg true f g) k).map zu++[zu (Gq B (Jg true f g k))]=L1 at G qq Z;generalize(m9 s (Jg false f g) k).map zu++[zu (Gq B (Jg false f g k))]=L2 at Z;have c1:Ht.den (PW m) (ER t pt n wd sp hp fo (rD (m9 s f K)) (rD (m9 s g K)) p9 p10 (some (.int k)) Lj b13) M=.ok (.vl ((Gq B (Jg true f g k)).map nD)) M:=by
  unfold Ht;rw[Xl (ds:=(Gq B (f k)).map nD) (M1:=M) (q:=λd=>match d with|.int i=>decide (i.toNat∈Gq B (g k))|_=>false) (g:=λd=>d) (by simp[i1,zu]) (by rw[dw];exact a_ (Kw _ _) (a_ h7 (by decide))) (λd hd=>by
   refine hG λ_ _k=>?_
   obtain⟨x,hx,rfl⟩:=bw.mp hd;have ii:=a96 M x (Gq B (g k));apply _k;exact⟨_,rfl,by simp[nD,i2,ii],λ_=>by simp⟩)]
  rw[cj rfl,List.filter_map,List.map_id',<- hf];rfl
 have U:=awt (M.set p9 (.lst L1)) (Gq B (f k)) (Gq B (g k)) (by have:=Kw B (f k);have:=Kw B (g k);lia);have so:=abw (M:=M.set p9 (.lst L1)) (d:=zu (Gq B (f k)++Gq B (g k))) (l:=Gq B (f k)++Gq B (g k)) (b:=B) (f:=Jg false f g k) rfl (.inl h7) (λz=>by
  rw[dh,G3,G3,Jg];simp;exact⟨λh=>h.elim (λh=>⟨h.1,.inl h.2⟩) λh=>⟨h.1,.inr h.2⟩,λh=>h.2.elim (λq=>.inl ⟨h.1,q⟩) λq=>.inr ⟨h.1,q⟩⟩)
 obtain⟨so,_⟩:=so;have t1:rz .tuple [.vl ((Gq B (Jg true f g k)).map nD)] M=.ok (zu (Gq B (Jg true f g k))) M:=rfl;have t2:rz .tuple [.vl ((Gq B (Jg false f g k)).map nD)] (M.set p9 (.lst L1))=.ok (zu (Gq B (Jg false f g k))) (M.set p9 (.lst L1)):=rfl;have b2:∀x y M,Fy .add x y M=ab9 x y M:=λ_ _ _=>rfl
 refine⟨some (.vl ((Gq B (Jg false f g k)).map nD)),?_⟩;generalize Gq B (Jg true f g k)=l3 at c1 t1 G;generalize Gq B (Jg false f g k)=l4 at so t2 Z;generalize Gq B (f k)=l5 at i1 U so;generalize Gq B (g k)=l6 at i2 U so;simp[Ed,c1,Cu h9,t1,G,i1,i2,b2,U,so,Cu qq,t2,Z]
def aq1(hm:5<=m)(P:Lp sz K hs iu)(h:Made n a0 K hs iu M)(nt:n≠t)(qv:a0≠t)(hh:Uq t f0 M)(w:Vf K hs s a) :
 ∃M',prog.call m 35 [.ref t,su K r hs,.ref n,j6 s a] M=.ok (.bl true) M'/\St t f0 M M':=by
 rw[call_of (a_ (by decide) hm) rfl];have G:=P.k3;have m2:2<=m-1:=r_ (a_ (by decide) hm)
 have m3:3<=m-1:=r_ (a_ (by decide) hm)
 have m1:1<=m-1:=r_ (a_ (by decide) hm)
 have ht:t<M.length:=by obtain⟨_,h,_⟩:=hh;exact w6 h
 refine hG λ_ _k=>?_
 obtain⟨S,M1,e1,h1,hS,hl,s1⟩:=a3g (m:=m-1) (r:=r) m2 P hh w;have li:rz .list [.ref M.length] M1=.ok (.ref M1.length) (M1++[.lst (S.map Gr)]):=by show(match wz M1 (.ref M.length) with|some ds=>new (.lst ds) M1|none=>.bad)=_;rw[agt (show fu M1 (.ref M.length)=some (S.map Gr) by simp[fu,h1])];rfl
 have q0:Made n a0 K hs iu (M1++[.lst (S.map Gr)]):=⟨qt (s1.keep _ _ nt h.1),qt (s1.keep _ _ qv h.2)⟩;obtain⟨M2,e2,k2⟩:=aqw (m:=m-1) (hp:=M1.length) m3 P q0 w hS (a_ hl (by decide)) (Ky M1 _);have h2:=k2 _ _ (qt (X:=[.lst (S.map Gr)]) h1);obtain⟨M3,e3,qq⟩:=ak7 (m:=m-1) (r:=r) (t:=M.length) (M:=M2) m2 P w hS (a_ hl (by decide)) h2;have e4:=Ud (m:=m-1) (M:=M3) (f:=inR (allR hs a S)) m3 w G;have kk:=k2.trans qq;have eq:=aqx (M:=M3) (i:=M1.length) (j:=M.length) (kk _ _ (Ky M1 _)) (qq _ _ h2);have s3:=s1.trans (St.of s1.has ((Bt.app M1 _).trans kk));obtain⟨f,M4,e5,s5⟩:=aev (m:=m-1) (r:=r) m2 P s3.has w;obtain⟨g,Z,e6,s6⟩:=aev (m:=m-1) (r:=r) m2 P s5.has w;have q4:=(s3.trans s5).trans s6;apply _k;have t5:t<Z.length:=by obtain⟨_,h,_⟩:=s6.has;exact w6 h
 generalize rD (m9 s (inR (allR hs a S)) K)=fo at e2 e3 e4;refine hG λ_ _k=>?_
 obtain⟨q6,M7,e7,⟨Lb,Lj,rfl⟩,h9,U,k7⟩:=zx (W:=PW (m-1)) (t:=.name 11) (b:=Ed) (it:=.ix (.v 1) (.i 0)) (n:=K) (ρ:=ER t (su K r hs) n (j6 s a) M.length M1.length fo (rD (m9 s f K)) (rD (m9 s g K)) Z.length (Z.length+1) none none none) (M:=Z++[.lst []]++[.lst []]) (M1:=Z++[.lst []]++[.lst []]) (by simp[Iv]) (a_ G (by decide))
  (λi ρ M'=>(∃Lb Lj,ρ=ER t (su K r hs) n (j6 s a) M.length M1.length fo (rD (m9 s f K)) (rD (m9 s g K)) Z.length (Z.length+1) Lb Lj none)/\M'[Z.length]?=some (.lst ((m9 s (Jg true f g) i).map zu))/\M'[Z.length+1]?=some (.lst ((m9 s (Jg false f g) i).map zu))/\Bt Z M') ⟨⟨none,none,rfl⟩,by simp[m9],by simp[m9],λb o hb=>qt (qt hb)⟩
  (λi ρ M' hi hI=>by
   refine hG λ_ _k=>?_
   obtain⟨⟨Lb,Lj,rfl⟩,h9,U,k7⟩:=hI;obtain⟨q5,e8⟩:=awv (m:=m-1) (t:=t) (n:=n) (pt:=su K r hs) (wd:=j6 s a) (sp:=M.length) (hp:=M1.length) (fo:=fo) (Lj:=Lj) (b13:=none) w hi G h9 U (by lia);apply _k;refine⟨_,.next,_,_,rfl,e8,.inl rfl,⟨some (.int i),q5,rfl⟩,(qp (by lia)).trans (ur h9),ur ((qp (by lia)).trans U),λb o hb=>?_⟩;have:=w6 hb;rw[qp (by lia),qp (by lia)];exact k7 b o hb)
 have e7:Nx.den (PW (m-1)) _ _=_:=e7;rw[q9,List.singleton_append] at e7;have o1:=aqy (m:=m-1) (M:=M7) (f:=f) (g:=g) m1 w G;have o2:=aqy (m:=m-1) (M:=M7) (f:=g) (g:=f) m1 w G;have o3:=aqz (m:=m-1) (M:=M7) (f:=f) (g:=g) m1 w G;have o4:=aqz (m:=m-1) (M:=M7) (f:=g) (g:=f) m1 w G;rw[aq0] at o2 o4;apply _k;have t9:rz .tuple [.ref Z.length] M7=.ok (rD (m9 s (Jg true f g) K)) M7:=by simp only[rz,P0,wz,fu,h9];rfl
 have qk:rz .tuple [.ref (Z.length+1)] M7=.ok (rD (m9 s (Jg false f g) K)) M7:=by simp only[rz,P0,wz,fu,U];rfl
 have q1:=Ud (m:=m-1-1) (M:=M7) (f:=Jg true f g) (r_ (r_ hm)) w G;have q2:=Ud (m:=m-1-1) (M:=M7) (f:=Jg false f g) (r_ (r_ hm)) w G;generalize rD (m9 s (Jg true f g) K)=z1 at o1 o2 t9 q1;generalize rD (m9 s (Jg false f g) K)=z2 at o3 o4 qk q2;have q3:=Xm (m:=m-1) (M:=M7) (d:=.vl [z1,z1,z2,z2]) m1 (.inr rfl) (by simp) (λd hd=>by
  simp at hd;rcases hd with rfl|rfl
  .exact q1
  .exact q2)
 generalize rD (m9 s f K)=p1 at e5 e7 o1 o2 o3 o4;generalize rD (m9 s g K)=p2 at e6 e7 o1 o2 o3 o4;exact⟨M7,by simp[Fn.run,Ro,Rn,e1,li,e2,e3,e4,eq,e5,e6,MW.new,e7,o1,o2,o3,o4,t9,qk,q3],q4.trans (St.of s6.has k7)⟩
end
noncomputable abbrev EL(sc st pt:D)(n:Nat)(ws:D)(b5 b6:Option D):Env:=[some sc,some st,some pt,some (.ref n),some ws,b5,b6]
def a3h{m:Nat}{ns:U1}{M:cz}(hm:6<=m):∃M',prog.call m 36 [.fz (ns.map D.int)] M=.ok (.bl true) M':=by
 rw[call_of (a_ (by decide) hm) rfl];refine hG λ_ _k=>?_
 obtain⟨n0,f0,s0,o0⟩:=am1 (m:=m-1) (k:=0) (ns:=ns) (M:=M) (r_ (a_ (by decide) hm));have s0:prog.call (m-1) 13 [.fz (ns.map D.int),.int 0] M=_:=s0;have q3:Uq M.length f0 (M++[.lst [.int n0,.bl f0]]):=⟨n0,by simp,o0⟩;obtain⟨K,r,sz,G,Z,M1,e0,p0,lr,P,t0⟩:=afz (m:=m-1) (r_ (a_ (by decide) hm)) q3;have e0:prog.call (m-1) 17 [.ref M.length] (M++[.lst [.int n0,.bl f0]])=.ok (su K r G) M1:=e0;apply _k;have qk:r≠M.length:=by have:=lr;simp at this;lia
 refine hG λ_ _k=>?_
 have di:rz .dict [.ref r] M1=.ok (.ref M1.length) (M1++[.dT Z]):=by show Vh M1 (.ref r)=_;simp[Vh,p0,P.sm,MW.new]
 have nn:(M1++[.dT Z]++[.ins 2 []])[(M1++[MO.dT Z]).length]?=some (.ins 2 []):=Ky _ _;obtain⟨M2,a0,i0,md,la,lb,k0⟩:=atd (M:=M1++[.dT Z]++[.ins 2 []]) (m:=m-1) (r:=M1.length) (n:=(M1++[MO.dT Z]).length) (r_ (a_ (by decide) hm)) P (qt (Ky _ _)) nn;have qq:Bt M1 M2:=λa o h=>k0 a o (by have:=w6 h;simp;lia) (qt (qt h))
 apply _k;have q6:M.length<M1.length:=by obtain⟨k,h,o⟩:=t0.has;exact w6 h
 have mk:(Ex.make 2 (.q (.ix (.v 2) (.i 0)) (.ix (.v 2) (.i 1)) (.blt .dict (.o (.ix (.v 2) (.i 2)))))).den (PW (m-1)) [some (.fz (ns.map D.int)),some (.ref M.length),some (su K r G),none,none,none,none] M1=.ok (.ref (M1++[MO.dT Z]).length) M2:=by have cl:(prog.cls)[2]?=some ⟨0,[(0,1),(1,2),(2,3),(3,4),(4,5)]⟩:=rfl;generalize hq:(M1++[MO.dT Z]).length=q at i0;simp only[q9] at i0;simp[Iv,Pq,axy,di,cl,<- hq] at i0 ⊢;simp[i0]
 have nt:(M1++[MO.dT Z]).length≠M.length:=by simp;lia
 generalize(M1++[MO.dT Z]).length=n at mk md nt;have q4:Uq M.length f0 M2:=by obtain⟨k,h,o⟩:=t0.has;exact⟨k,qq _ _ h,o⟩
 have U:a0≠M.length:=by have:=la;simp at this;lia
 refine hG λ_ _k=>?_
 have h3:=P.k3;obtain⟨s1,a1,M4,e4,w1,s4⟩:=aeq (m:=m-1) (r:=r) (r_ (a_ (by decide) hm)) P q4 (qq _ _ p0) qk;obtain⟨s2,a2,M5,e5,w2,s5⟩:=aeq (m:=m-1) (r:=r) (r_ (a_ (by decide) hm)) P s4.has (s4.keep _ _ qk (qq _ _ p0)) qk;have q0:=s4.trans s5;have qv:Made n a0 K G Z M5:=⟨q0.keep _ _ nt md.1,q0.keep _ _ U md.2⟩;obtain⟨q5,M6,e6,⟨b5,R,rfl⟩,s6⟩:=zx (W:=PW (m-1)) (t:=.name 5) (b:=aah) (it:=.i 4) (n:=4) (ρ:=EL (.fz (ns.map D.int)) (.ref M.length) (su K r G) n (.vl [j6 s1 a1,j6 s2 a2]) none none) (M:=M5) (M1:=M5) rfl (by decide)
  (λ_ ρ M'=>(∃b5 R,ρ=EL (.fz (ns.map D.int)) (.ref M.length) (su K r G) n (.vl [j6 s1 a1,j6 s2 a2]) b5 R)/\St M.length f0 M5 M') ⟨⟨none,none,rfl⟩,St.of s5.has (Bt.refl _)⟩
  (λi ρ M6 hi hI=>by
   refine hG λ_ _k=>?_
   obtain⟨⟨b5,R,rfl⟩,s6⟩:=hI;have q1:Made n a0 K G Z M6:=⟨s6.keep _ _ nt qv.1,s6.keep _ _ U qv.2⟩;apply _k;obtain⟨fl,q7,M7,e7,⟨rfl,⟨c6,rfl⟩,s7⟩|⟨v,rfl,h⟩⟩:=Ke (W:=PW (m-1)) (s:=.con [j6 s1 a1,j6 s2 a2]) (n:=2) (t:=.name 6) (b:=aag) (it:=.val (.v 4)) (ρ:=EL (.fz (ns.map D.int)) (.ref M.length) (su K r G) n (.vl [j6 s1 a1,j6 s2 a2]) (some (.int i)) R) (M:=M6) (M1:=M6) rfl rfl
    (λ_ ρ M'=>(∃R,ρ=EL (.fz (ns.map D.int)) (.ref M.length) (su K r G) n (.vl [j6 s1 a1,j6 s2 a2]) (some (.int i)) R)/\St M.length f0 M6 M') (λ_ _=>False) ⟨⟨R,rfl⟩,St.of s6.has (Bt.refl _)⟩ (λ_ _ _=>rfl) (λj ρ M7 hj hI=>by
     refine hG λ_ _k=>?_
     obtain⟨⟨R,rfl⟩,s7⟩:=hI;have q2:Made n a0 K G Z M7:=⟨s7.keep _ _ nt q1.1,s7.keep _ _ U q1.2⟩;obtain⟨s,a,w,it⟩:∃s a,Vf K G s a/\(Src.con [j6 s1 a1,j6 s2 a2]).item j M7=some (j6 s a):=match j,hj with
      |0,_=>⟨s1,a1,w1,rfl⟩|1,_=>⟨s2,a2,w2,rfl⟩
     obtain⟨M8,e8,s8⟩:=aq1 (m:=m-1) (r:=r) (r_ hm) P q2 nt U s7.has w;apply _k;exact⟨_,EL (.fz (ns.map D.int)) (.ref M.length) (su K r G) n (.vl [j6 s1 a1,j6 s2 a2]) (some (.int i)) (some (j6 s a)),it,rfl,.next,_,M8,by simp[aag,e8],.inl ⟨rfl,⟨some (j6 s a),rfl⟩,s7.trans s8⟩⟩)
   .have e7:ahi.den (PW (m-1)) _ _=_:=e7
    exact⟨_,.next,_,M7,rfl,by simp[aah,e7],.inl rfl,⟨some (.int i),c6,rfl⟩,s6.trans s7⟩
   .exact h.elim)
 have e6:ahj.den (PW (m-1)) _ _=_:=e6;apply _k;exact⟨M6,by simp[-acd,Fn.run,amy,axf,s0,e0,mk,e4,e5,e6]⟩
open PySem L2
open PySem.W
set_option maxHeartbeats 0 in
def all_mk{l:OpenLaw}{K:Frag}{h:Heap}(X:K.In h)(G:h.Ns mainGlobals mg)(j4:mg "law" = some (.ref fa))
 (yq:nsIn K mainGlobals "Pattern" = some (some (.ref Z)))
 (a0:findIn K (.ref Z) "__init__" = some (some (.ref f0)))
 (i0:isFn K (.ref f0)=true)
 (l0:Ck.Lk K f0 "__init__" "Pattern.__init__" (inClass (top 8) 0) oc0 od0 kV0 dc0 pm0 an0 cd0 ct0 sl0)
 (a1:findIn K (.ref Z) "kinds" = some (some (.ref f1)))
 (i1:isFn K (.ref f1)=true)
 (l1:Ck.Lk K f1 "kinds" "Pattern.kinds" (inClass (top 8) 1) oc1 od1 kV1 dc1 pm1 an1 cd1 ct1 sl1)
 (a2:findIn K (.ref Z) "doings" = some (some (.ref f2)))
 (i2:isFn K (.ref f2)=true)
 (l2:Ck.Lk K f2 "doings" "Pattern.doings" (inClass (top 8) 2) oc2 od2 kV2 dc2 pm2 an2 cd2 ct2 sl2)
 (a3:findIn K (.ref Z) "behind" = some (some (.ref R)))
 (i3:isFn K (.ref R)=true)
 (l3:Ck.Lk K R "behind" "Pattern.behind" (inClass (top 8) 3) oc3 od3 kV3 dc3 pm3 an3 cd3 ct3 sl3)
 (a4:findIn K (.ref Z) "ways" = some (some (.ref f4)))
 (i4:isFn K (.ref f4)=true)
 (l4:Ck.Lk K f4 "ways" "Pattern.ways" (inClass (top 8) 4) oc4 od4 kV4 dc4 pm4 an4 cd4 ct4 sl4)
 (a5:findIn K (.ref Z) "end" = some (some (.ref f5)))
 (i5:isFn K (.ref f5)=true)
 (l5:Ck.Lk K f5 "end" "Pattern.end" (inClass (top 8) 5) oc5 od5 kV5 dc5 pm5 an5 cd5 ct5 sl5)
 (a6:nsIn K mainGlobals "both_ways" = some (some (.ref f6)))
 (l6:Ck.Lk K f6 "both_ways" "both_ways" (top 9) oc6 od6 kV6 dc6 pm6 an6 cd6 ct6 sl6)
 (a7:nsIn K mainGlobals "meeting_pairs" = some (some (.ref f7)))
 (l7:Ck.Lk K f7 "meeting_pairs" "meeting_pairs" (top 10) oc7 od7 kV7 dc7 pm7 an7 cd7 ct7 sl7)
 (a8:nsIn K mainGlobals "is_way_between" = some (some (.ref f8)))
 (l8:Ck.Lk K f8 "is_way_between" "is_way_between" (top 11) oc8 od8 kV8 dc8 pm8 an8 cd8 ct8 sl8)
 (a9:nsIn K mainGlobals "check_doings" = some (some (.ref f9)))
 (l9:Ck.Lk K f9 "check_doings" "check_doings" (top 12) oc9 od9 kV9 dc9 pm9 an9 cd9 ct9 sl9)
 (a10:nsIn K mainGlobals "check_table" = some (some (.ref f10)))
 (u7:Ck.Lk K f10 "check_table" "check_table" (top 13) bmv bmw bmx bmy bmz bm0 bm1 bm2 bm3)
 (a11:nsIn K mainGlobals "check_threes" = some (some (.ref f11)))
 (jj:Ck.Lk K f11 "check_threes" "check_threes" (top 14) bm5 bm6 bm7 bm8 bm9 bna bnb bnc bnf)
 (x4:nsIn K mainGlobals "_law_cell_at" = some (some (.ref f12)))
 (zw:Ck.Lk K f12 "_law_cell_at" "_law_cell_at" (top 25) bnh bni bnj bnk bnl bnm bnn bno bnp)
 (qv:nsIn K mainGlobals "_law_state" = some (some (.ref f13)))
 (u1:Ck.Lk K f13 "_law_state" "_law_state" (top 26) bnr bns bnt bnu bnv bnw bnx bny bnz)
 (j2:nsIn K mainGlobals "_law_take" = some (some (.ref f14)))
 (zv:Ck.Lk K f14 "_law_take" "_law_take" (top 27) bn1 bn2 bn3 bn4 bn5 bn6 bn7 bn8 bn9)
 (u2:nsIn K mainGlobals "_law_begun" = some (some (.ref f15)))
 (xw:Ck.Lk K f15 "_law_begun" "_law_begun" (top 28) bob boc bod boe bof bog boh boi boj)
 (a16:nsIn K mainGlobals "_law_closed" = some (some (.ref f16)))
 (qk:Ck.Lk K f16 "_law_closed" "_law_closed" (top 29) boo bop boq bos bou bov bow boy boz)
 (uj:nsIn K mainGlobals "_law_pattern" = some (some (.ref f17)))
 (y1:Ck.Lk K f17 "_law_pattern" "_law_pattern" (top 30) bo1 bo2 bo3 bo4 bo5 bo6 bo7 bo8 bo9)
 (x1:nsIn K mainGlobals "_law_ways" = some (some (.ref f18)))
 (l18:Ck.Lk K f18 "_law_ways" "_law_ways" (top 31) bpb bpc bpd bpe bpf bpg bph bpi bpj)
 (j3:nsIn K mainGlobals "_law_end" = some (some (.ref f19)))
 (y8:Ck.Lk K f19 "_law_end" "_law_end" (top 32) bpl bpm bpn bpo bpp bpq bpr bps bpt)
 (a20:nsIn K mainGlobals "_law_behind" = some (some (.ref f20)))
 (y3:Ck.Lk K f20 "_law_behind" "_law_behind" (top 33) bpv bpw bpx bpy bpz bp0 bp1 bp2 bp3)
 (x9:nsIn K mainGlobals "_wall" = some (some (.ref f21)))
 (x2:Ck.Lk K f21 "_wall" "_wall" (top 0) bp5 bp6 bp7 bp8 bp9 bqa bqb bqc bqd)
 (u3:nsIn K mainGlobals "led" = some (some (.ref f22)))
 (jv:Ck.Lk K f22 "led" "led" (top 16) bqf bqg bqh bqi bqj bqk bql bqm bqn)
 (y4:nsIn K mainGlobals "reached" = some (some (.ref f23)))
 (q7:Ck.Lk K f23 "reached" "reached" (top 17) bqp bqq bqr bqs bqt bqu bqv bqw bqx)
 (j1:nsIn K mainGlobals "as_part" = some (some (.ref f24)))
 (l24:Ck.Lk K f24 "as_part" "as_part" (top 19) bqz bq0 bq1 bq2 bq3 bq4 bq5 bq6 bq7)
 (y0:nsIn K mainGlobals "least_part" = some (some (.ref f25)))
 (l25:Ck.Lk K f25 "least_part" "least_part" (top 21) bq9 bra brb brc brd bre brf brg brh)
 (y9:nsIn K mainGlobals "both" = some (some (.ref f26)))
 (xk:Ck.Lk K f26 "both" "both" (top 22) brj brl brm brn bro brp brq brr brs)
 (a27:nsIn K mainGlobals "any_of" = some (some (.ref f27)))
 (q4:Ck.Lk K f27 "any_of" "any_of" (top 23) bru brv brw brx bry brz br0 br1 br2)
 (q5:nsIn K mainGlobals "_law_merged" = some (some (.ref f28)))
 (q2:Ck.Lk K f28 "_law_merged" "_law_merged" (top 34) br4 br5 br6 br7 br8 br9 bsa bsb bsc)
 (xv:nsIn K mainGlobals "_law_world" = some (some (.ref f29)))
 (y5:Ck.Lk K f29 "_law_world" "_law_world" (top 35) bse bsf bsg bsh bsi bsj bsk bsl bsm)
 (q1:nsIn K mainGlobals "_law_led" = some (some (.ref f30)))
 (xy:Ck.Lk K f30 "_law_led" "_law_led" (top 36) bso bsp bsq bsr bss bst bsu bsv bsw)
 (a31:nsIn K mainGlobals "_law_same" = some (some (.ref f31)))
 (q6:Ck.Lk K f31 "_law_same" "_law_same" (top 37) bsy bs0 bs1 bs2 bs3 bs4 bs5 bs6 bs7)
 (yk:nsIn K mainGlobals "_law_grown" = some (some (.ref f32)))
 (x5:Ck.Lk K f32 "_law_grown" "_law_grown" (top 38) bs9 bta btb btc btd bte btf btg bth)
 (a33:nsIn K mainGlobals "_law_lot" = some (some (.ref f33)))
 (x3:Ck.Lk K f33 "_law_lot" "_law_lot" (top 39) btj btk btl btm btn bto btp btq btr)
 (x6:nsIn K mainGlobals "_law_least" = some (some (.ref f34)))
 (y2:Ck.Lk K f34 "_law_least" "_law_least" (top 40) btt btu btv btw btx bty btz bt0 bt1)
 (yy:nsIn K mainGlobals "_law_right" = some (some (.ref f35)))
 (u4:Ck.Lk K f35 "_law_right" "_law_right" (top 41) bt3 bt4 bt5 bt6 bt7 bt8 bt9 bua bub)
 (U:nsIn K mainGlobals "law" = some (some (.ref f36)))
 (yv:Ck.Lk K f36 "law" "law" (top 42) bue buh bgk bgl bgm bgn bgo bgp bui)
 (zk:plainGet K Z Str.empty=true)
 (x7:hasDictIn K Z=true)
 (q3:plainOver K Z=true)
 (jk:findIn K (.ref Z) "__setattr__" = some (some (.builtin "object.__setattr__")))
 (y6:makesIn K Z=true)
 (q0:keepIn K (.ref Z)=true)
 (q8:findIn K (.ref Z) "together" = some none)
 (bgr:findIn K (.ref Z) "doing_ends" = some none)
 (x8:findIn K (.ref Z) "kind_count" = some none)
 (v0:nsIn K mainGlobals "STAYING" = some (some (.int (-1) tk0)))
 (v1:nsIn K mainGlobals "MOST_KINDS" = some (some (.int (3) tk1)))
 (v2:nsIn K mainGlobals "MOST_DOINGS" = some (some (.int (5) tk2)))
 (z0:nsIn K mainGlobals "len" = some none)
 (z1:nsIn K mainGlobals "tuple" = some none)
 (z2:nsIn K mainGlobals "list" = some none)
 (z3:nsIn K mainGlobals "dict" = some none)
 (z4:nsIn K mainGlobals "max" = some none)
 (z5:nsIn K mainGlobals "min" = some none)
 (z6:nsIn K mainGlobals "isinstance" = some none)
 (z7:nsIn K mainGlobals "range" = some none)
 (z8:nsIn K mainGlobals "enumerate" = some none)
 (z9:nsIn K mainGlobals "set" = some none)
 (uu:nsIn K mainGlobals "zip" = some none)
 (u6:nsIn K mainGlobals "all" = some none)
 (qq:nsIn K mainGlobals "bool" = some none)
 (y7:nsIn K mainGlobals "int" = some none)
 (uk:nsIn K mainGlobals "sum" = some none)
 (zz:nsIn K mainGlobals "sorted" = some none)
 : ∃fd:FuncData,(∀(s:Shared)(v:Value),BindsTo s fd ⟨[v],[]⟩ [("script",v)])/\∀base:Heap,K.In base->base.Ns mainGlobals mg->Ff l.prog w K mg base CX0 170 fa fd ["script"] (Ck.aiv K):=by
 have e:=(gf X G U).symm.trans j4;cases e;have aF:Ck.abn K Ds sts [f0,f1,f2,R,f4,f5,f6,f7,f8,f9,f10,f11,f12,f13,f14,f15,f16,f17,f18,f19,f20,f21,f22,f23,f24,f25,f26,f27,f28,f29,f30,f31,f32,f33,f34,f35,fa] [_,_,_,_,_,_,_,_,_,_,_,_,_,_,_,_,_,_,_,_,_,_,_,_,_,_,_,_,_,_,_,_,_,_,_,_,_]:=(Ck.fE l0 (Ck.fE l1 (Ck.fE l2 (Ck.fE l3 (Ck.fE l4 (Ck.fE l5 (Ck.fE l6 (Ck.fE l7 (Ck.fE l8 (Ck.fE l9 (Ck.fE u7 (Ck.fE jj (Ck.fE zw (Ck.fE u1 (Ck.fE zv (Ck.fE xw (Ck.fE qk (Ck.fE y1 (Ck.fE l18 (Ck.fE y8 (Ck.fE y3 (Ck.fE x2 (Ck.fE jv (Ck.fE q7 (Ck.fE l24 (Ck.fE l25 (Ck.fE xk (Ck.fE q4 (Ck.fE q2 (Ck.fE y5 (Ck.fE xy (Ck.fE q6 (Ck.fE x5 (Ck.fE x3 (Ck.fE y2 (Ck.fE u4 (Ck.fE yv Ck.fN)))))))))))))))))))))))))))))))))))));have aG:Ck.Ub mg tab.fns [f0,f1,f2,R,f4,f5,f6,f7,f8,f9,f10,f11,f12,f13,f14,f15,f16,f17,f18,f19,f20,f21,f22,f23,f24,f25,f26,f27,f28,f29,f30,f31,f32,f33,f34,f35,fa]:=(Ck.gO (Ck.gO (Ck.gO (Ck.gO (Ck.gO (Ck.gO (Ck.gS (gf X G a6) (Ck.gS (gf X G a7) (Ck.gS (gf X G a8) (Ck.gS (gf X G a9) (Ck.gS (gf X G a10) (Ck.gS (gf X G a11) (Ck.gS (gf X G x4) (Ck.gS (gf X G qv) (Ck.gS (gf X G j2) (Ck.gS (gf X G u2) (Ck.gS (gf X G a16) (Ck.gS (gf X G uj) (Ck.gS (gf X G x1) (Ck.gS (gf X G j3) (Ck.gS (gf X G a20) (Ck.gS (gf X G x9) (Ck.gS (gf X G u3) (Ck.gS (gf X G y4) (Ck.gS (gf X G j1) (Ck.gS (gf X G y0) (Ck.gS (gf X G y9) (Ck.gS (gf X G a27) (Ck.gS (gf X G q5) (Ck.gS (gf X G xv) (Ck.gS (gf X G q1) (Ck.gS (gf X G a31) (Ck.gS (gf X G yk) (Ck.gS (gf X G a33) (Ck.gS (gf X G x6) (Ck.gS (gf X G yy) (Ck.gS (gf X G U) Ck.gN)))))))))))))))))))))))))))))))))))));have aC:Ck.Om K mg tab [f0,f1,f2,R,f4,f5,f6,f7,f8,f9,f10,f11,f12,f13,f14,f15,f16,f17,f18,f19,f20,f21,f22,f23,f24,f25,f26,f27,f28,f29,f30,f31,f32,f33,f34,f35,fa] tab.cls [none,none,some Z] prog.cls:=(Ck.cO (Ck.cO (Ck.cS ⟨gf X G yq,⟨zk,x7,q3,jk⟩,⟨_,rfl,⟨y6,a0,i0,q0⟩⟩,(Ck.mC rfl rfl ⟨a1,i1,l1.2.2⟩ (Ck.mC rfl rfl ⟨a2,i2,l2.2.2⟩ (Ck.mC rfl rfl ⟨a3,i3,l3.2.2⟩ (Ck.mC rfl rfl ⟨a4,i4,l4.2.2⟩ (Ck.mC rfl rfl ⟨a5,i5,l5.2.2⟩ Ck.mN))))),(Ck.nC q8 (Ck.nC bgr (Ck.nC x8 Ck.nN)))⟩ Ck.cN)));have aV:Ck.abp mg tab.avm:=(Ck.vC (gf X G v0) (Ck.vC (gf X G v1) (Ck.vC (gf X G v2) Ck.vN)));have aB:Ck.AllB mg Ck.Oj:=(Ck.bC (jr X G z0) (Ck.bC (jr X G z1) (Ck.bC (jr X G z2) (Ck.bC (jr X G z3) (Ck.bC (jr X G z4) (Ck.bC (jr X G z5) (Ck.bC (jr X G z6) (Ck.bC (jr X G z7) (Ck.bC (jr X G z8) (Ck.bC (jr X G z9) (Ck.bC (jr X G uu) (Ck.bC (jr X G u6) (Ck.bC (jr X G qq) (Ck.bC (jr X G y7) (Ck.bC (jr X G uk) (Ck.bC (jr X G zz) Ck.bN))))))))))))))));refine⟨fnOf "law" "law" (Ir (top 42)) (Fv (top 42)) (Bf (top 42)) .none bgk bgl bgm bgn bgo bgp,λs v=>.of_eq rfl,λbase _ _=>?_⟩;obtain⟨d,a,f,g1,g2,g3,g4,g5⟩:=Ck.a2q (P:=l.prog) (w:=w) (base:=base) (n:=10) (i:=36) (F:=amy) bf1 chk bf2 bf3 bf4 aF aG aC aV aB rfl;cases g1;cases g2;cases g3;exact g5.imp λvs H Q E hh=>Ck.av6 (λns hl=>a3h (by decide)) hh
end K54
open PySem PySem.W PyProof.Rows
namespace PySem.W.Fast
def tw2570080421352973668:=Nat
def tw8874541597324076494:=Nat
def tw4676058932330487625:=Nat
def tw9833473148489840015:=Nat
def tw16609111165684385725:=Nat
def tw2555683542634908648:=Nat
def tw15136203430729592291:=Nat
def tw16195010894415430038:=Nat
def tw5538700635380584356:=Nat
def tw15317724634798085701:=Nat
def tw9574450708118968267:=Nat
def tw9323792997713414528:=Nat
def tw4456972293144808632:=Nat
def tw11788854691135372095:=Nat
def tw5860066005264375344:=Nat
def tw7366489487607727072:=Nat
def tw17639224790998898245:=Nat
def tw8354657151621001531:=Nat
def tw2782435686335756185:=Nat
def tw16787027340646659782:=Nat
def tw3368592129513303442:=Nat
def tw10210898193604709780:=Nat
def tw14939272311514923048:=Nat
def tw17428954781135324466:=Nat
def tw15639597738371047135:=Nat
def tw8284816397431436704:=Nat
def tw10821536828362503722:=Nat
def tw1300517428340499301:=Nat
def tw9095902335390283172:=Nat
def tw14906849379360169228:=Nat
def tw12487162273159446525:=Nat
def tw879590582969564494:=Nat
def tw10553235539317650184:=Nat
def tw2890955079867796551:=Nat
def tw18298328408758339602:=Nat
def tw626044173154270197:=Nat
def tw938649123590443398:=Nat
def tw10827580422736580935:=Nat
def tw9047942299377483141:=Nat
def tw8396882649874599911:=Nat
def tw8077030579559664917:=Nat
def tw15214479148773714053:=Nat
def tw304825836516619599:=Nat
def tw6560596720634267897:=Nat
def tw7697072191627321957:=Nat
def tw10470272355217371964:=Nat
def tw7916339535066824610:=Nat
def tw6340522210690673915:=Nat
def tw45213674014423855:=Nat
def tw3870500011280798799:=Nat
def tw6630700020638050640:=Nat
def tw17254946710131434995:=Nat
def tw5780572458708575860:=Nat
def tw7339944918193853821:=Nat
def tw17009383872381879927:=Nat
def tw5880627559042211681:=Nat
def tw12844816425894350841:=Nat
def tw8372253583439008333:=Nat
def tw4129910685269729600:=Nat
def tw972737704808437212:=Nat
def tw3087717635282780603:=Nat
def tw8237696852358574578:=Nat
def tw2489314785870398650:=Nat
def tw1998410044157067149:=Nat
def tw4737763764244615002:=Nat
def tw3352428961071272698:=Nat
def tw14604150121579510662:=Nat
def tw161325589737725295:=Nat
def tw5232040343613492288:=Nat
def tw4287807846472372057:=Nat
def tw5735719788061620912:=Nat
def tw12554850183255692833:=Nat
def tw2170301522341598899:=Nat
def tw8653037179884711513:=Nat
def tw14761797929188533048:=Nat
def tw9187866547147898155:=Nat
def tw7131114111828159610:=Nat
def tw4344248580186046228:=Nat
def tw11444209052112373176:=Nat
def tw5642645305745008744:=Nat
def tw130880286172845992:=Nat
def tw15994628420736164371:=Nat
def tw9989788075223793979:=Nat
def tw12193553371220749873:=Nat
def tw774619735264856611:=Nat
def tw12465554065133790395:=Nat
def tw7575296659248602109:=Nat
def tw5660798313850365944:=Nat
def tw6688129291204642877:=Nat
def tw1638406539813261925:=Nat
def tw2760939604140016347:=Nat
def tw15717414311171009817:=Nat
def tw15198819527480820133:=Nat
def tw16853531138998304820:=Nat
def tw8550570180126942633:=Nat
def tw9428472922545239637:=Nat
def tw15613387951331962255:=Nat
def tw12047513363293427362:=Nat
def tw16084339046644760943:=Nat
def tw7243111701517097283:=Nat
def tw7115446089877955220:=Nat
def tw4483732528043661002:=Nat
def tw4832161263951501584:=Nat
def tw6080855674700442870:=Nat
def tw18208051574630524656:=Nat
def tw16156647548128069274:=Nat
def tw10003698501076306273:=Nat
def tw17151642261644774113:=Nat
def tw3955415981044325009:=Nat
def tw7100459620758544992:=Nat
def tw14428879821233676424:=Nat
def tw476536318227919379:=Nat
def tw11502869552207622789:=Nat
def tw4105898811931842457:=Nat
def tw11080485760673526079:=Nat
def tw9846149902288518626:=Nat
def tw3815096760413640838:=Nat
def tw9036107463248165925:=Nat
def tw1727542894054198314:=Nat
def tw10134699643371236593:=Nat
def tw9652118546049422552:=Nat
def tw11130284758308659764:=Nat
def tw10388358848334734146:=Nat
def tw1339623873243016211:=Nat
def tw8132803163713621640:=Nat
def tw4154308691732271752:=Nat
def tw11700472339234237948:=Nat
def tw8787829298179309407:=Nat
def tw13172026968028977048:=Nat
def tw7141841695454836311:=Nat
def tw10077542793360140990:=Nat
def tw11831856713824402576:=Nat
def tw14475139090317219896:=Nat
def tw18123564832526005415:=Nat
def tw1749911716530907906:=Nat
def tw6243108026310212806:=Nat
def tw7884558060825215635:=Nat
def tw3067477537384265183:=Nat
def tw17697861127100580625:=Nat
def tw3927743597323327609:=Nat
def tw13642791404680490777:=Nat
def tw12038556941908348631:=Nat
def tw10486325167553995145:=Nat
def tw17389676226051525676:=Nat
def tw15153158751390594641:=Nat
def tw8278678166274096539:=Nat
def tw14619423021284874351:=Nat
def tw5395117561455946559:=Nat
def tw4421546290646771441:=Nat
def tw10817642158909653099:=Nat
def tw8561677673067320826:=Nat
def tw8791281632805274011:=Nat
def tw11716078472893800830:=Nat
def tw9955649346362522224:=Nat
def tw15354210740844405684:=Nat
def tw13230955187207569658:=Nat
def tw4457141415426431436:=Nat
def tw4202966398957434968:=Nat
def tw17854221021985266756:=Nat
def tw11929591073883289049:=Nat
def tw5565839433821767628:=Nat
def tw15160400214699428012:=Nat
def tw4837639804100891802:=Nat
def tw4277302758604385401:=Nat
def tw8977128596214501454:=Nat
def tw12806618506217377335:=Nat
def tw14193145035686940028:=Nat
def tw17950124668553832198:=Nat
def tw15672453400051919393:=Nat
def tw1880224131922972607:=Nat
def tw10160775001331025656:=Nat
def tw9113286486518040674:=Nat
def tw16350517144036184726:=Nat
def tw13748551147402108912:=Nat
def tw17048260976807512156:=Nat
def tw9857272384324509540:=Nat
def tw16537242118523959150:=Nat
def tw15137039735973197190:=Nat
def tw13809535141335283802:=Nat
def tw14799434568475784080:=Nat
def tw2685424786166946946:=Nat
def tw17989877309462852607:=Nat
def tw16697219715745001023:=Nat
def tw1369197265108286177:=Nat
def tw8707772797123583208:=Nat
def tw6430806604385898451:=Nat
def tw1692494037026253141:=Nat
def tw3478117309327879140:=Nat
def tw2788571677423279281:=Nat
def tw4484370488084696193:=Nat
def tw14202848945565806930:=Nat
def tw13511605902584778572:=Nat
def tw9990071821586953817:=Nat
def tw9972642350970954854:=Nat
def tw9854770032097724150:=Nat
def tw9733772251930827114:=Nat
def tw9715766705766795685:=Nat
def tw9647224510162354395:=Nat
def tw9462245134716286074:=Nat
end PySem.W.Fast
set_option maxRecDepth 100000 in
set_option maxHeartbeats 0 in
theorem PySem.Challenge.cw_mapwright_k54_least_parts_both_and_any_holds : PySem.Challenge.rw_mapwright_k54_least_parts_both_and_any.Holds := by
 w_on;o_law;k_head;(case hw=>w_witness2)
 k_fill
 refine Ck.walk (l:=PySem.Challenge.rw_mapwright_k54_least_parts_both_and_any) rfl rfl (λw h Y=>PySem.W.kIn_of Y) ?F
 case F =>
  intro w mg fa h KX G hmg;apply K54.all_mk KX G hmg<;>(try refine⟨?_,?_,?_⟩)<;>k_is
