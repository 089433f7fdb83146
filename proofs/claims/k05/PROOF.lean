import PyProof.Rows.All
import Wide.All
import OpenK.AllK
import Wide.FinOn
import Lean
import PyProof.EqAt
import PyProof.EqKinds
import PyProof.TupleCall
import PyProof.SetScanFacts
import PyProof.TupleKey
import PyProof.SetKind
import PyProof.IsRules
import PyProof.Rules
import PyProof.Rows.SetFrom
import PyProof.SetRoads
import KE.KDictOf
import KE.KEqDict
import PyProof.NeKinds
import PyProof.Rows.MinMaxN
import PyProof.ListRange
import PyProof.TupleOfGen
import PyProof.EnumMake
import PyProof.ZipIter
import PyProof.Rows.ZipGen
import PyProof.CollectWalk
import PyProof.ForAny
import PyProof.Rows.SortWalk
import PyProof.CollectIter
import PySem.Challenge.RW_mapwright_k05_whole_ways_and_things
set_option Elab.async false
set_option linter.all false
set_option tactic.hygienic false
set_option genSizeOf false
set_option genInjectivity false
set_option maxRecDepth 100000
abbrev Zl:=List PySem.Value
abbrev Zp:=List (PySem.Addr×PySem.Obj)
abbrev Zs:=PySem.Str->Option PySem.Value
abbrev Y1:=PySem.Value->PySem.Shared->Prop
abbrev Y2:=Option (PySem.Str×Nat)
abbrev Y3:=List Nat
abbrev Ya:=List PySem.Expr
abbrev Yf:=List PySem.Str
abbrev X0:=List (PySem.Str×PySem.NameKind)
abbrev X9:=List PySem.Addr
abbrev Xs:=List Int
abbrev Xt:=List (PySem.Str×PySem.Addr)
abbrev U1:=Array PySem.Value
def jn:=@Array.getElem?_eq_some_iff
def m6:=@Array.getElem?_toList
def tu:=@Array.length_toList
def au:=@Bool.and_eq_true
def Av:=@Bool.eq_iff_iff
def dg:=@Bool.false_eq_true
def jg:=@Bool.false_ne_true
def ym:=@Bool.not_false
def qm:=@Bool.not_true
def xr:=@Classical.byContradiction
def zc:=@Int.emod_lt_of_pos
def Aw:=@Int.emod_nonneg
def Ao:=@Int.ofNat_inj
def t7:=@Int.toNat_natCast
def yo:=@List.Perm.refl
def jc:=@List.all_eq_true
def Ah:=@List.any_eq_true
def yf:=@List.append_assoc
def xx:=@List.append_nil
def yw:=@List.cons_append
def zu:=@List.ext_getElem?
def qt:=@List.find?_cons
def uz:=@List.findIdx?_eq_none_iff
def qg:=@List.findIdx?_eq_some_iff_getElem
def bc:=@List.getD_eq_getElem?_getD
def dm:=@List.getElem?_append_left
def je:=@List.getElem?_append_right
def bz:=@List.getElem?_eq_getElem
def p7:=@List.getElem?_eq_none
def ak:=@List.getElem?_eq_some_iff
def jb:=@List.getElem?_map
def yp:=@List.getElem?_range
def vq:=@List.getElem?_set_ne
def Aa:=@List.getElem?_zipIdx
def xu:=@List.getElem?_zip_eq_some
def vd:=@List.getElem_inj
def ph:=@List.getElem_mem
def m8:=@List.getElem_of_mem
def qy:=@List.isEmpty_iff
def ug:=@List.length_append
def gr:=@List.length_cons
def uo:=@List.length_eq_zero_iff
def xm:=@List.length_filter_le
def gm:=@List.length_map
def m9:=@List.lookup_cons
def ud:=@List.map_append
def p8:=@List.map_congr_left
def ie:=@List.map_cons
def um:=@List.map_map
def gh:=@List.mem_append
def yg:=@List.mem_append_left
def iz:=@List.mem_append_right
def cu:=@List.mem_cons
def bh:=@List.mem_cons_of_mem
def dh:=@List.mem_cons_self
def uy:=@List.mem_filter
def u9:=@List.mem_iff_getElem?
def bf:=@List.mem_map
def aq:=@List.mem_of_getElem?
def ig:=@List.mem_range
def xj:=@List.mem_singleton
def zj:=@List.nil_append
def yh:=@List.nodup_append
def mj:=@List.nodup_cons
def jx:=@List.nodup_iff_pairwise_ne
def xg:=@List.nodup_nil
def yx:=@List.nodup_range
def qz:=@List.not_mem_nil
def zf:=@List.pairwise_cons
def yj:=@List.pairwise_map
def zx:=@List.perm_ext_iff_of_nodup
def dz:=@List.size_toArray
def zb:=@List.take_of_length_le
def w6:=@Nat.le_add_right
def Af:=@Nat.le_of_lt
def bw:=@Nat.le_refl
def uq:=@Nat.le_succ
def iu:=@Nat.le_trans
def nq:=@Nat.lt_irrefl
def gq:=@Nat.lt_of_lt_of_le
def Bb:=@Nat.lt_or_ge
def qb:=@Nat.lt_succ_of_lt
def pq:=@Nat.lt_succ_self
def u0:=@Nat.ne_of_gt
def du:=@Nat.ne_of_lt
def v7:=@Nat.not_lt_zero
def wu:=@Nat.zero_add
def j5:=@Nat.zero_le
def j6:=@Ne.symm
def dj:=@Option.bind_eq_some_iff
def q9:=@Option.bind_some
def xf:=@Option.getD_some
def qj:=@Option.isSome_iff_exists
def cj:=@Option.map_eq_some_iff
def v8:=@Option.map_some
def jd:=@Option.some.inj
def zy:=@Option.some.injEq
def rm:=@PyProof.Rows.F.entry_set_update_loop
def lq:=@PyProof.Rows.F.plain_set_update_loop
def ji:=@PyProof.Rows.callWith_type1
def yc:=@PyProof.Rows.slot_tuple_getitem
def j8:=@PySem.Around.under_plainId
def uh:=@PySem.F.called_set
def wz:=@PySem.F.slot_enumerate_next
def uv:=@PySem.F.slot_tuple_iterator_next
def km:=@PySem.Heap.SameBut.update
def ao:=@PySem.Heap.get?_push_of_some
def bu:=@PySem.Heap.get?_push_size
def uf:=@PySem.Heap.get?_update_other
def o8:=@PySem.Heap.get?_update_self
def az:=@PySem.Heap.lt_size
def ik:=@PySem.Heap.size_push
def jq:=@PySem.W.mg_none_of
def fc:=@PySem.W.mg_of
def m7:=@PySem.codeAny_builtin
def vf:=@PySem.codeAny_mono
def yq:=@PySem.mem_of_lookup
def qd:=@PySem.sizeLine_eq
def vh:=@PySem.tupleKind_room_in1
def jm:=@PySem.wpAny_Call_Name_kw
def aa:=@PySem.wpAny_bind
def jw:=@PySem.wpAny_callSpecial?_slot
def jf:=@PySem.wpAny_call_entry
def j0:=@PySem.wpAny_dictEntries
def il:=@PySem.wpAny_field
def rz:=@PySem.wpAny_forIn_list
def ir:=@PySem.wpAny_holding
def my:=@PySem.wpAny_isInstance
def j7:=@PySem.wpAny_mono
def jk:=@PySem.wpAny_newObj_type
def ue:=@PySem.wpAny_passesOwn
def aj:=@PySem.wpAny_pure
def v9:=@PySem.wpAny_pyIter_list
def o5:=@PySem.wpAny_seqItems
def lg:=@PySem.wpAny_setEntries_of
def iw:=@PySem.wpAny_setField_rec
def jr:=@PySem.wpAny_setState_of
def j4:=@PySem.wpAny_truthy_bool
def qx:=@PySem.wpAny_typeOf
def u5:=@Std.Legacy.Range.forIn_eq_forIn_range'
def ql:=@beq_eq_false_iff_ne
def yz:=@beq_self_eq_true
def wj:=@bne_self_eq_false
def o7:=@congrArg
def zm:=@decide_eq_false
def dq:=@decide_eq_true_eq
def jo:=@if_false
def bx:=@if_neg
def cz:=@if_pos
def jy:=@if_true
def mz:=@of_decide_eq_true
def Ak:=@or_false
abbrev Fg:=PySem.W.Frag
def a_{a b c:Nat}(h:a<=b)(k:b<=c):a<=c:=iu h k
def b_{a b c:Nat}(h:a<b)(k:b<=c):a<c:=gq h k
def c_{a b c:Nat}(h:a<=b)(k:b<c):a<c:=Nat.lt_of_le_of_lt h k
def d_{a b c:Nat}(h:a<b)(k:b<c):a<c:=Nat.lt_trans h k
def e_{a b:Nat}(h:a<b):a<=b:=Af h
def f_{a b:Nat}(h:a=b):a<=b:=Nat.le_of_eq h
def g_{a b:Nat}(h:a=b):b<=a:=Nat.le_of_eq h.symm
def h_{a b:Nat}(h:a<b):a≠b:=du h
def i_{a b:Nat}(h:b<a):a≠b:=u0 h
def j_{a b:Nat}(h:b<=a):¬a<b:=Nat.not_lt_of_le h
def k_{a b:Nat}(h:b<a):¬a<=b:=Nat.not_le_of_lt h
def l_{p:Prop}{a b:Nat}(h:a<b)(k:b<=a):p:=absurd h (Nat.not_lt_of_le k)
def m_{a b:Nat}(h:a<b):(a:Int)<(b:Int):=Int.ofNat_lt.mpr h
def n_{a b:Nat}(h:a<=b):(a:Int)<=(b:Int):=Int.ofNat_le.mpr h
def o_{a b:Nat}(h:(a:Int)<(b:Int)):a<b:=Int.ofNat_lt.mp h
def p_{a b:Nat}(h:(a:Int)<=(b:Int)):a<=b:=Int.ofNat_le.mp h
def q_{a:Nat}:(0:Int)<=(a:Int):=Int.natCast_nonneg a
def r_{a b c:Nat}(h:a+c<=b):a<=b-c:=Nat.le_sub_of_add_le h
def s_{a b:Nat}(h:¬a<b):b<=a:=Nat.le_of_not_lt h
def t_{a b:Nat}(h:¬a<=b):b<a:=Nat.lt_of_not_le h
def u_{a b:Nat}(h:a<=b)(k:b<=a):a=b:=Nat.le_antisymm h k
def v_{a b c:Nat}(h:a<=b):a+c<=b+c:=Nat.add_le_add_right h c
def w_{a b c:Nat}(h:a<=b):c+a<=c+b:=Nat.add_le_add_left h c
def x_{a b:Nat}:a<=a+b:=w6 a b
def y_{a b:Nat}:a<=b+a:=Nat.le_add_left a b
def z_{a b:Nat}(h:a<b+1):a<=b:=Nat.le_of_lt_succ h
def A_{a b:Nat}(h:a<=b):a<b+1:=Nat.lt_succ_of_le h
def B_{a:Nat}:a<a+1:=pq a
def C_{a b:Nat}:a-b<=a:=Nat.sub_le a b
def D_{a b:Nat}(h:(a:Int)=(b:Int)):a=b:=Ao.mp h
def E_{a b:Nat}(h:a=b):(a:Int)=(b:Int):=o7 _ h
def G_{a b c:Nat}(h:a<b):a+c<b+c:=Nat.add_lt_add_right h c
def H_{a b c:Nat}(h:a<b):c+a<c+b:=Nat.add_lt_add_left h c
namespace Xx
open PySem SetTable
def Srt(xs:Array Nat):Prop:=∀(i j a b:Nat),xs[i]?=some a->xs[j]?=some b->i<j->a<b
def arx(hs:Srt xs):∀(fuel lo hi:Nat),lo<=hi->hi<=xs.size->hi-lo<=fuel ->
 (∀(i a:Nat),xs[i]?=some a->i<lo->a<j)->(∀(i a:Nat),xs[i]?=some a->hi<=i->j<=a) ->
 below.go xs j fuel lo hi<=xs.size/\(∀(i a:Nat),xs[i]?=some a->i<below.go xs j fuel lo hi->a<j)/\(∀(i a:Nat),xs[i]?=some a->below.go xs j fuel lo hi<=i->j<=a):=by
 intro fuel
 induction fuel with
 |zero =>
  intro lo hi h1 h2 h3 h4 h5;unfold below.go;have:lo=hi:=by lia
  subst this;exact⟨h2,h4,h5⟩
 |succ fuel ih =>
  intro lo hi h1 h2 h3 h4 h5;unfold below.go
  by_cases Hb:lo<hi
  . simp only[cz Hb]
    have hm:(lo+hi) / 2<xs.size:=by lia
    have hg:xs[(lo+hi) / 2]?=some xs[(lo+hi) / 2]:=by simp[hm]
    have hgd:xs.getD ((lo+hi) / 2) j=xs[(lo+hi) / 2]:=by simp[Array.getD,hm]
    rw[hgd]
    by_cases hc:xs[(lo+hi) / 2]<j
    . rw[cz hc]
      refine ih _ _ (by lia) h2 (by omega) (λi a e l=>?_) h5
      by_cases Vg:i=(lo+hi) / 2
      . subst Vg;rw[hg] at e;cases e;exact hc
      . exact Nat.lt_trans (hs _ _ _ _ e hg (by lia)) hc
    . rw[bx hc]
      refine ih _ _ (by lia) (e_ hm) (by omega) h4 (λi a e l=>?_)
      by_cases Vg:i=(lo+hi) / 2
      . subst Vg;rw[hg] at e;cases e;exact s_ hc
      . have:=hs _ _ _ _ hg e (by lia);exact e_ (c_ (s_ hc) this)
  . rw[bx Hb]
    have:lo=hi:=u_ h1 (s_ Hb);subst this;exact⟨h2,h4,h5⟩
def Ej(hs:Srt xs):below xs j<=xs.size/\(∀(i a:Nat),xs[i]?=some a->i<below xs j->a<j)/\(∀(i a:Nat),xs[i]?=some a->below xs j<=i->j<=a) :=
 arx hs _ _ _ (j5 _) (bw _) C_ (λi a _ h=>absurd h (v7 _)) (λi a e h=>by
  have:=(jn.mp e).1;lia)
def below_at(hs:Srt xs)(h:xs[i]?=some j):below xs j=i:=by
 obtain⟨h1,h2,h3⟩:=Ej (j:=j) hs;rcases Nat.lt_trichotomy (below xs j) i with l|l|l
 . have li:=(jn.mp h).1
   have hg:xs[below xs j]?=some xs[below xs j]:=by simp
   have a:=h3 _ _ hg (bw _);have b:=hs _ _ _ _ hg h l
   lia
 . exact l
 . have:=h2 _ _ h l;lia
def Yj(j:Nat):has #[] j=false:=by simp[has]
set_option tactic.hygienic true in
def Su{t:SetTable}(hs:Srt t.place):t.slot j=.live i↔t.place[i]?=some j:=by
 unfold slot;constructor
 . intro h
   dsimp only at h;split at h
   . rename_i e;cases h;simpa using e
   . split at h<;>cases h
 . intro h
   dsimp only;rw[below_at hs h,h];simp
def ae7{t:SetTable}(hs:Srt t.place)(hd:t.dummies=#[]):t.slot j=.empty↔∀i:Nat,t.place[i]?≠some j:=by
 constructor
 . intro h i e
   rw[(Su hs).mpr e] at h;cases h
 . intro h
   unfold slot;dsimp only;rw[hd,Yj,bx (by simpa using h _)];rfl
def Oj(xs:Array α)(p:Nat)(x:α)(hp:p<=xs.size)(i:Nat):(insertAt xs p x)[i]?=if i<p then xs[i]? else if i=p then some x else xs[i-1]?:=by
 rw[<- m6,toList_insertAt];have hl:(xs.toList.take p).length=p:=by simp;lia
 by_cases h1:i<p
 . rw[cz h1,dm (b_ h1 (g_ hl)),List.getElem?_take,cz h1,m6]
 . rw[bx h1,je (a_ (f_ hl) (s_ h1)),hl]
   by_cases h2:i=p
   . subst h2;simp
   . rw[bx h2]
     obtain⟨q,hq⟩:∃q,i=p+q+1:=⟨i-p-1,by lia⟩;subst hq;rw[show p+q+1-p=q+1 by lia,List.getElem?_cons_succ,List.getElem?_drop,show p+q+1-1=p+q by lia,m6]
def Mj(xs:Array α)(p:Nat)(x:α):(insertAt xs p x).size=xs.size+1:=by have:=(insertAt_perm xs p x).length_eq;simpa using this
noncomputable def up(p i:Nat):Nat:=if i<p then i else i+1
def Qi(xs:Array α)(p:Nat)(x:α)(hp:p<=xs.size)(i:Nat):(insertAt xs p x)[up p i]?=xs[i]?:=by
 rw[Oj xs p x hp];unfold up
 by_cases h:i<p
 . simp[h]
 . rw[bx h,bx (j_ (a_ (s_ h) x_)),bx (i_ (A_ (s_ h)))];rfl
def Jq(xs:Array α)(p:Nat)(x:α)(hp:p<=xs.size):(insertAt xs p x)[p]?=some x:=by rw[Oj xs p x hp];simp
def Ol(p i:Nat):i=p\/∃k,i=up p k:=by
 unfold up;rcases Nat.lt_trichotomy i p with h|h|h
 . exact .inr ⟨i,by simp[h]⟩
 . exact .inl h
 . exact .inr ⟨i-1,by rw[bx (by omega)];lia⟩
def arz(hs:Srt xs)(hn:∀i:Nat,xs[i]?≠some j):Srt (insertAt xs (below xs j) j):=by
 obtain⟨h1,h2,h3⟩:=Ej (j:=j) hs;intro a b x y ea eb l;rcases Ol (below xs j) a with rfl|⟨a',rfl⟩<;>rcases Ol (below xs j) b with hb|⟨b',rfl⟩
 . subst hb;lia
 . rw[Jq _ _ _ h1] at ea
   rw[Qi _ _ _ h1] at eb;cases ea;have:below xs j<=b':=by unfold up at l;split at l<;>omega
   have g:=h3 _ _ eb this;rcases Nat.lt_or_eq_of_le g with g|g
   . exact g
   . subst g;exact absurd eb (hn _)
 . subst hb
   rw[Jq _ _ _ h1] at eb;rw[Qi _ _ _ h1] at ea;cases eb;exact h2 _ _ ea (by unfold up at l;split at l<;>omega)
 . rw[Qi _ _ _ h1] at ea eb
   exact hs _ _ _ _ ea eb (by unfold up at l;split at l<;>split at l<;>omega)
noncomputable def adv(m:Nat)(p:Probe):Probe:=({ SetTable.fresh 0 0 true with mask:=m }:SetTable).advance p
def ax0(t:SetTable)(p:Probe):t.advance p=adv t.mask p:=rfl
def Z5(h:p.more > 0):adv m p={ p with j:=p.j+1,more:=p.more-1 }:=cz h
def Vv(h:¬p.more > 0):adv m p={ p with j:=(leap m p.i p.perturb).1,more:=runEnd m (leap m p.i p.perturb).1-(leap m p.i p.perturb).1,i:=(leap m p.i p.perturb).1,perturb:=(leap m p.i p.perturb).2 }:=bx h
noncomputable def beg(m i pt:Nat):Probe:={ j:=i,more:=runEnd m i-i,i:=i,perturb:=pt,dummy:=none }
noncomputable def P(m:Nat)(h:Int):Nat->Probe
 |0=>beg m (bits h%(m+1)) (bits h)|n+1=>adv m (P m h n)
def acg(t:SetTable)(h:Int):t.probeStart h=P t.mask h 0:=rfl
theorem Z6(m:Nat)(h:Int):∀n,(P m h n).dummy=none
 |0=>rfl
 |n+1=>by
  show(adv m (P m h n)).dummy=none
  by_cases q:(P m h n).more > 0
  . rw[Z5 q];exact Z6 m h n
  . rw[Vv q];exact Z6 m h n
noncomputable def I(m:Nat)(h:Int):Nat->Nat
 |0=>bits h%(m+1)|T+1=>(I m h T*5+1+bits h / 32 ^ (T+1))%(m+1)
def ar0(m i:Nat):runEnd m i-i<=9:=by unfold runEnd;split<;>lia
theorem ach{m:Nat}{h:Int}{n i pt:Nat}(e:P m h n=beg m i pt):∀c,c<=runEnd m i-i->P m h (n+c)={ j:=i+c,more:=runEnd m i-i-c,i:=i,perturb:=pt,dummy:=none }
 |0,_=>by rw[Nat.add_zero,e];rfl
 |c+1,hc=>by
  have:=ach e c (by lia);show adv m (P m h (n+c))=_;rw[this,Z5 (by show 0<runEnd m i-i-c;lia)];simp only
  congr 1
def als(e:P m h n=beg m i pt):P m h (n+(runEnd m i-i)+1)=beg m ((i*5+1+pt / 32)%(m+1)) (pt / 32):=by show adv m (P m h (n+(runEnd m i-i)))=_;rw[ach e _ (bw _),Vv (by simp)];rfl
theorem alu(m:Nat)(h:Int):∀T,∃n,n<=10*T/\P m h n=beg m (I m h T) (bits h / 32 ^ T)
 |0=>⟨0,j5 _,by simp[P,I]⟩
 |T+1=>by
  obtain⟨n,h1,h2⟩:=alu m h T;have:=ar0 m (I m h T);refine⟨_,?_,(als h2).trans ?_⟩
  . lia
  . rw[Nat.div_div_eq_div_mul,<- Nat.pow_succ];rfl
noncomputable def f5(m x:Nat):Nat:=(x*5+1)%(m+1)
noncomputable def it(m:Nat):Nat->Nat->Nat
 |0,x=>x|k+1,x=>f5 m (it m k x)
theorem Vw(m a x:Nat):∀k,it m (a+k) x=it m k (it m a x)
 |0=>rfl|k+1=>by show f5 m (it m (a+k) x)=_;rw[Vw m a x k];rfl
def Cov(m:Nat):Prop:=∀i j,i<=m->j<=m->∃k,k<=m/\it m k i=j
def ax1(h0:it m (m+1) 0=0)(h:∀j,j<=m->∃k,k<=m/\it m k 0=j):Cov m:=λi j hi hj=>by
 obtain⟨a,la,ea⟩:=h i hi;obtain⟨b,lb,eb⟩:=h j hj
 by_cases hab:a<=b
 . refine⟨b-a,a_ C_ lb,?_⟩
   rw[<- ea,<- Vw,show a+(b-a)=b by lia,eb]
 . refine⟨m+1+b-a,by omega,?_⟩
   rw[<- ea,<- Vw,show a+(m+1+b-a)=(m+1)+b by lia,Vw,h0,eb]
noncomputable def orb(m:Nat):Nat->Nat->List Nat
 |0,_=>[]|k+1,x=>x::orb m k (f5 m x)
theorem ag5{m:Nat}:∀{k x j:Nat},j∈orb m k x->∃q,q<k/\it m q x=j
 |0,_,_,h=>by simp[orb] at h
 |k+1,x,j,h=>by
  simp only[orb,cu] at h;rcases h with rfl|h
  . exact⟨0,A_ (j5 _),rfl⟩
  . obtain⟨q,l,e⟩:=ag5 h
    refine⟨1+q,by lia,?_⟩;rw[Vw];exact e
def Q0(h0:it m (m+1) 0=0)(h:((List.range (m+1)).all λj=>(orb m (m+1) 0).contains j)=true):Cov m :=
 ax1 h0 λj hj=>by have:=jc.mp h j (by simp;exact A_ hj);obtain⟨q,l,e⟩:=ag5 (by simpa using this);exact⟨q,z_ l,e⟩
def Msk(m:Nat):Prop:=m=7\/m=15\/m=31\/m=63\/m=127
def bbs:Cov 7:=Q0 (by decide+kernel) (by decide+kernel)
def a4a:Cov 15:=Q0 (by decide+kernel) (by decide+kernel)
def a4b:Cov 31:=Q0 (by decide+kernel) (by decide+kernel)
def a4c:Cov 63:=Q0 (by decide+kernel) (by decide+kernel)
def ax2:Cov 127:=Q0 (by decide+kernel) (by decide+kernel)
def Msk.cov(h:Msk m):Cov m:=by
 rcases h with rfl|rfl|rfl|rfl|rfl
 . exact bbs
 . exact a4a
 . exact a4b
 . exact a4c
 . exact ax2
def ar3(h:Int):bits h<2 ^ 64:=by
 unfold bits;have h1:=Aw h (b:=2 ^ 64) (by decide);have h2:=zc h (b:=2 ^ 64) (by decide)
 lia
theorem a4d(m:Nat)(h:Int):∀T,I m h T<=m
 |0=>Nat.le_of_lt_succ (Nat.mod_lt (bits h) (Nat.succ_pos m))|T+1=>Nat.le_of_lt_succ (Nat.mod_lt (I m h T*5+1+bits h / 32 ^ (T+1)) (Nat.succ_pos m))
theorem alv(m:Nat)(h:Int):∀k,I m h (13+k)=it m k (I m h 13)
 |0=>rfl
 |k+1=>by
  show(I m h (13+k)*5+1+bits h / 32 ^ (13+k+1))%(m+1)=f5 m (it m k (I m h 13));have:bits h / 32 ^ (13+k+1)=0:=by
   apply Nat.div_eq_of_lt;refine gq (ar3 h) ?_
   calc 2 ^ 64<=32 ^ 13:=by decide
    _<=32 ^ (13+k+1):=Nat.pow_le_pow_right (by decide) (a_ x_ x_)
  rw[this,alv m h k];rfl
def cover(hm:Msk m)(h:Int)(j:Nat)(hj:j<=m):∃T,T<=13+m/\I m h T=j:=by obtain⟨k,lk,e⟩:=hm.cov (I m h 13) j (a4d m h 13) hj;exact⟨13+k,w_ lk,(alv m h k).trans e⟩
def ar4(hm:Msk m)(h:Int)(j:Nat)(hj:j<=m):∃n,n<10*turns m/\(P m h n).j=j:=by obtain⟨T,lT,e⟩:=cover hm h j hj;obtain⟨n,ln,e2⟩:=alu m h T;exact⟨n,by unfold turns;lia,by rw[e2];exact e⟩
def mod_le(a m:Nat):a%(m+1)<=m:=Nat.le_of_lt_succ (Nat.mod_lt a (Nat.succ_pos m))
def Sv(h:i<=m):i<=runEnd m i/\runEnd m i<=m:=by unfold runEnd;split<;>omega
theorem a4e(m:Nat)(h:Int):∀n,(P m h n).j+(P m h n).more<=m
 |0=>by
  have:=Sv (mod_le (bits h) m);show bits h%(m+1)+(runEnd m (bits h%(m+1))-bits h%(m+1))<=m
  omega
 |n+1=>by
  have ih:=a4e m h n;show(adv m (P m h n)).j+(adv m (P m h n)).more<=m
  by_cases q:(P m h n).more > 0
  . rw[Z5 q];simp only;lia
  . rw[Vv q]
    have:=Sv (mod_le ((P m h n).i*5+1+(P m h n).perturb / 32) m);show(leap m (P m h n).i (P m h n).perturb).1+(runEnd m (leap m (P m h n).i (P m h n).perturb).1-(leap m (P m h n).i (P m h n).perturb).1)<=m
    have e:(leap m (P m h n).i (P m h n).perturb).1=((P m h n).i*5+1+(P m h n).perturb / 32)%(m+1):=rfl;rw[e];omega
def bbt(m:Nat)(h:Int)(n:Nat):(P m h n).j<=m:=by have:=a4e m h n;lia
def Occ(t:SetTable)(j:Nat):Prop:=∃i:Nat,t.place[i]?=some j
structure Yk(t:SetTable)(es:Array (Int×Value)):Prop where
 msk:Msk t.mask
 dum:t.dummies=#[]
 Yl:t.place.size=es.size
 srt:Srt t.place
 bnd:∀(i j:Nat),t.place[i]?=some j->j<=t.mask
 ful:t.place.size<=t.mask
 rch:∀(i j:Nat) e,t.place[i]?=some j->es[i]?=some e->∃n,(P t.mask e.1 n).j=j/\∀m,m<n->Occ t (P t.mask e.1 m).j
theorem Yk.fits(k:Yk t es):t.fits es.size=true:=by unfold SetTable.fits fill;rw[k.dum];simp[k.Yl];have:=k.ful;have:=k.Yl;lia
def Msk.odd(h:Msk m):m%2=1:=by rcases h with rfl|rfl|rfl|rfl|rfl<;>rfl
def Yk.way(k:Yk t es):t.gaveWay=false:=by unfold gaveWay;rw[k.msk.odd];rfl
def alw(hs:Srt xs)(h:xs.size<=m):∃j,j<=m/\∀i:Nat,xs[i]?≠some j:=by
 apply xr;intro hn;have all:∀j,j<=m->∃i:Nat,xs[i]?=some j:=λj hj=>by apply xr;intro hc;exact hn ⟨j,hj,λi e=>hc ⟨i,e⟩⟩
 have:∀j,j<=m->∀i:Nat,xs[i]?=some j->j<=i:=by
  intro j
  induction j with
  |zero=>intro _ i _;exact j5 _
  |succ j ih =>
   intro hj i e;obtain⟨i',e'⟩:=all j (by lia);have:=ih (by lia) i' e';rcases Nat.lt_trichotomy i i' with l|l|l
   . have:=hs _ _ _ _ e e' l;lia
   . subst l;rw[e] at e';injection e' with e';exact a_ (f_ e') this
   . exact a_ (v_ this) l
 obtain⟨i,e⟩:=all m (bw _);have h1:=this m (bw _) i e;have h2:=(jn.mp e).1;exact l_ h2 (a_ h h1)
structure Fst(t:SetTable)(h:Int)(N:Nat):Prop where
 lt:N<10*turns t.mask
 emp:¬Occ t (P t.mask h N).j
 occ:∀m,m<N->Occ t (P t.mask h m).j
def least{p:Nat->Prop}:∀{n:Nat},p n->∃k,k<=n/\p k/\∀m,m<k->¬p m:=by
 intro n
 induction n using Nat.strongRecOn with
 |ind n ih =>
  intro h
  by_cases hc:∃m,m<n/\p m
  . obtain⟨m,l,hm⟩:=hc
    obtain⟨k,l2,a,b⟩:=ih m l hm;exact⟨k,e_ (c_ l2 l),a,b⟩
  . exact⟨n,bw _,h,λm l hm=>hc ⟨m,l,hm⟩⟩
def Yk.fst(k:Yk t es)(h:Int):∃N,Fst t h N:=by obtain⟨j,hj,e⟩:=alw k.srt k.ful;obtain⟨n,ln,en⟩:=ar4 k.msk h j hj;obtain⟨N,l,a,b⟩:=least (p:=λn=>¬Occ t (P t.mask h n).j) (n:=n) (λ⟨i,c⟩=>e i (by rw[en] at c;exact c));exact⟨N,c_ l ln,a,λm hm=>Classical.not_not.mp (b m hm)⟩
theorem alx(k:Yk t es)(F:Fst t h N)(ha:Nat->Int):∀(fuel n:Nat),n<=N->N-n<fuel ->
 (probe.go t ha h fuel (P t.mask h n)=some (.empty (P t.mask h N).j none)/\∀m,n<=m->m<N->∀i:Nat,t.place[i]?=some (P t.mask h m).j->ha i≠h)
\/∃m i:Nat,n<=m/\m<N/\t.place[i]?=some (P t.mask h m).j/\ha i=h/\(∀q,n<=q->q<m->∀i:Nat,t.place[i]?=some (P t.mask h q).j->ha i≠h)
 /\probe.go t ha h fuel (P t.mask h n)=some (.candidate (P t.mask h m).j i (P t.mask h (m+1))):=by
 intro fuel
 induction fuel with
 |zero=>intro n _ l;omega
 |succ fuel ih =>
  intro n hn l;unfold probe.go
  by_cases e:n=N
  . subst e
    left
    rw[(ae7 k.srt k.dum).mpr (λi c=>F.emp ⟨i,c⟩)];simp only;rw[Z6];exact⟨rfl,λm a b=>by lia⟩
  . obtain⟨i,hi⟩:=F.occ n (by lia)
    rw[(Su k.srt).mpr hi];simp only[ax0];have hnx:adv t.mask (P t.mask h n)=P t.mask h (n+1):=rfl;rw[hnx]
    by_cases hh:ha i=h
    . right
      refine⟨n,i,bw _,by lia,hi,hh,λq a b=>by lia,?_⟩;rw[cz (by simp[hh])]
    . rw[bx (by simp[hh])]
      have un:∀i':Nat,t.place[i']?=some (P t.mask h n).j->ha i'≠h:=λi' e'=>by have a:=below_at k.srt e';have b:=below_at k.srt hi;rw[<- a,b];exact hh
      rcases ih (n+1) (by lia) (by lia) with⟨a,b⟩|⟨m,i',a,b,c,d,e1,e2⟩
      . left
        refine⟨a,λm x y=>?_⟩
        by_cases q:m=n
        . subst q;exact un
        . exact b m (by lia) y
      . right
        refine⟨m,i',by lia,b,c,d,λq x y=>?_,e2⟩
        by_cases z:q=n
        . subst z;exact un
        . exact e1 q (by lia) y
def Yk.ahead(k:Yk t es)(F:Fst t h N){i:Nat}(he:es[i]?=some e)(hh:e.1=h):∃m,m<N/\t.place[i]?=some (P t.mask h m).j:=by
 have li:i<t.place.size:=by rw[k.Yl];exact(jn.mp he).1
 have hp:t.place[i]?=some t.place[i]:=by simp[li]
 obtain⟨n,a,b⟩:=k.rch i _ e hp he;subst hh;refine⟨n,?_,by rw[a];exact hp⟩;rcases Nat.lt_trichotomy n N with l|l|l
 . exact l
 . subst l;exact absurd ⟨i,by rw[a];exact hp⟩ F.emp
 . exact absurd (b N l) F.emp
def Z7(hs:Srt t.place)(q:Nat):Occ (t.put j).1 q↔q=j\/Occ t q:=by
 obtain⟨h1,h2,h3⟩:=Ej (j:=j) hs;constructor
 . rintro⟨i,e⟩
   have e:(insertAt t.place (below t.place j) j)[i]?=some q:=e;rcases Ol (below t.place j) i with rfl|⟨i',rfl⟩
   . rw[Jq _ _ _ h1] at e;cases e;exact .inl rfl
   . rw[Qi _ _ _ h1] at e;exact .inr ⟨i',e⟩
 . rintro(rfl|⟨i,e⟩)
   . exact⟨_,Jq _ _ _ h1⟩
   . exact⟨up (below t.place j) i,(Qi _ _ _ h1 i).trans e⟩
theorem Yk.put(k:Yk t es)(F:Fst t h N)(room:t.place.size+1<=t.mask) :
 Yk (t.put (P t.mask h N).j).1 (insertAt es (t.put (P t.mask h N).j).2 (h,x)):=by
 obtain⟨h1,h2,h3⟩:=Ej (j:=(P t.mask h N).j) k.srt;have h1':below t.place (P t.mask h N).j<=es.size:=by rw[<- k.Yl];exact h1
 refine⟨k.msk,?_,?_,?_,?_,?_,?_⟩
 . show(if has t.dummies _ then _ else t.dummies)=#[]
   rw[k.dum,Yj];rfl
 . show(insertAt t.place _ _).size=(insertAt es _ _).size
   rw[Mj,Mj,k.Yl]
 . exact arz k.srt (λi e=>F.emp ⟨i,e⟩)
 . intro i j e
   rcases(Z7 k.srt j).mp ⟨i,e⟩ with rfl|⟨i',e'⟩
   . exact bbt _ _ _
   . exact k.bnd i' j e'
 . show(insertAt t.place _ _).size<=t.mask
   rw[Mj];exact room
 . intro i j e hp he
   have hp:(insertAt t.place (below t.place (P t.mask h N).j) (P t.mask h N).j)[i]?=some j:=hp;have he:(insertAt es (below t.place (P t.mask h N).j) (h,x))[i]?=some e:=he;show ∃n,(P t.mask e.1 n).j=j/\∀m,m<n->Occ (t.put (P t.mask h N).j).1 (P t.mask e.1 m).j
   rcases Ol (below t.place (P t.mask h N).j) i with rfl|⟨i',rfl⟩
   . rw[Jq _ _ _ h1] at hp
     rw[Jq _ _ _ h1'] at he;cases hp;cases he;exact⟨N,rfl,λm l=>(Z7 k.srt _).mpr (.inr (F.occ m l))⟩
   . rw[Qi _ _ _ h1] at hp
     rw[Qi _ _ _ h1'] at he;obtain⟨n,a,b⟩:=k.rch i' j e hp he;exact⟨n,a,λm l=>(Z7 k.srt _).mpr (.inr (b m l))⟩
abbrev OcO(ow:Array (Option Nat))(j:Nat):Prop:=∃i,ow[j]?=some (some i)
structure Own(m:Nat)(ow:Array (Option Nat))(hs:Xs):Prop where
 Yl:ow.size=m+1
 cnt:ow.toList.countP Option.isSome=hs.length
 lt:∀(j i:Nat),ow[j]?=some (some i)->i<hs.length
 inj:∀(j j' i:Nat),ow[j]?=some (some i)->ow[j']?=some (some i)->j=j'
 at':∀(i:Nat) h,hs[i]?=some h->∃j n,ow[j]?=some (some i)/\(P m h n).j=j/\∀q,q<n->OcO ow (P m h q).j
def getD_none{ow:Array (Option Nat)}(hz:ow.size=m+1)(h:(ow.getD j (some 0)).isNone=true):ow[j]?=some none:=by
 by_cases l:j<ow.size
 . simp[Array.getD,l] at h;simp[l,h]
 . simp[Array.getD,l] at h
def getD_some(hz:ow.size=m+1)(hj:j<=m)(h:¬(ow.getD j (some 0)).isNone=true):OcO ow j:=by
 have l:j<ow.size:=by lia
 simp[Array.getD,l] at h;unfold OcO;rw[show ow[j]?=some ow[j] by simp[l]];cases e:ow[j] with
 |none=>exact absurd e h|some i=>exact⟨i,rfl⟩
def ajb(hz:ow.size=m+1)(h:Int):∀(fuel T n:Nat),P m h n=beg m (I m h T) (bits h / 32 ^ T)->(∀q,q<n->OcO ow (P m h q).j) ->
 (∃k,k<fuel/\ow[I m h (T+k)]?=some none)->∃j n',layClean.free m ow fuel (I m h T) (bits h / 32 ^ T)=some j/\(P m h n').j=j/\ow[j]?=some none/\∀q,q<n'->OcO ow (P m h q).j:=by
 intro fuel
 induction fuel with
 |zero=>rintro T n _ _ ⟨k,l,_⟩;lia
 |succ fuel ih =>
  rintro T n e hq ⟨k,lk,ek⟩;have hI:=a4d m h T;obtain⟨r1,r2⟩:=Sv hI;unfold layClean.free;cases hf:(List.range (runEnd m (I m h T)+1-I m h T)).find? λk=>(ow.getD (I m h T+k) (some 0)).isNone with
  |some c =>
   obtain⟨a,b,d⟩:=List.find?_range_eq_some.mp hf;have b:=ig.mp b;refine⟨_,n+c,rfl,by rw[ach e c (by omega)],getD_none hz a,λq l=>?_⟩
   by_cases hn:q<n
   . exact hq q hn
   . obtain⟨c',rfl⟩:∃c',q=n+c':=⟨q-n,by lia⟩
     rw[ach e c' (by lia)];show OcO ow (I m h T+c');exact getD_some hz (by lia) (λhh=>by
      have:=d c' (by lia);simp only[hh] at this;cases this)
  |none =>
   have Dl:=List.find?_eq_none.mp hf;have occ:∀c,c<=runEnd m (I m h T)-I m h T->OcO ow (I m h T+c):=λc hc=>getD_some hz (by lia) (Dl c (ig.mpr (by lia)))
   cases k with
   |zero =>
    obtain⟨i,ei⟩:=occ 0 (j5 _);rw[Nat.add_zero] at ek ei;rw[ek] at ei;cases ei
   |succ k =>
    have pe:bits h / 32 ^ T / 32=bits h / 32 ^ (T+1):=by rw[Nat.div_div_eq_div_mul,<- Nat.pow_succ]
    have:=ih (T+1) (n+(runEnd m (I m h T)-I m h T)+1) (by rw[als e,pe];rfl) (λq l=>?_) ⟨k,by lia,by rw[show T+1+k=T+(k+1) by lia];exact ek⟩
    . obtain⟨j,n',e1,e2⟩:=this
      refine⟨j,n',?_,e2⟩;rw[<- e1];show layClean.free m ow fuel ((I m h T*5+1+bits h / 32 ^ T / 32)%(m+1)) (bits h / 32 ^ T / 32)=_;rw[pe];rfl
    . by_cases hn:q<n
      . exact hq q hn
      . obtain⟨c',rfl⟩:∃c',q=n+c':=⟨q-n,by lia⟩
        rw[ach e c' (by lia)];show OcO ow (I m h T+c');exact occ c' (by lia)
def Own.room(k:Own m ow hs)(h:hs.length<=m):∃j,j<=m/\ow[j]?=some none:=by
 apply xr;intro hn;have:ow.toList.countP Option.isSome=ow.toList.length:=List.countP_eq_length.mpr λa ha=>by
  obtain⟨j,hj,e⟩:=m8 ha;cases a with
  |some i=>rfl
  |none =>
   have hj':j<ow.size:=by simpa using hj
   refine absurd ⟨j,by have:=k.Yl;exact z_ (b_ hj' (f_ this)),?_⟩ hn;rw[<- m6,bz hj,e]
 rw[k.cnt] at this;have:=k.Yl;simp at *
 lia
theorem Own.free(hm:Msk m)(k:Own m ow hs)(hl:hs.length<=m)(h:Int):∃j n',layClean.free m ow (turns m) (bits h%(m+1)) (bits h)=some j/\(P m h n').j=j/\ow[j]?=some none/\∀q,q<n'->OcO ow (P m h q).j:=by obtain⟨j,hj,e⟩:=k.room hl;obtain⟨T,lT,eT⟩:=cover hm h j hj;have:=ajb k.Yl h (turns m) 0 0 (by simp[P,I]) (λq l=>by lia) ⟨T,by unfold turns;lia,by rw[wu,eT];exact e⟩;simpa[I] using this
def Own.lay(k:Own m ow hs)(e1:(P m h n').j=j)(e2:ow[j]?=some none)(e3:∀q,q<n'->OcO ow (P m h q).j) :
 Own m (ow.setIfInBounds j (some hs.length)) (hs++[h]):=by
 have lj:j<ow.size:=(jn.mp e2).1
 have get:∀q:Nat,(ow.setIfInBounds j (some hs.length))[q]?=if j=q then some (some hs.length) else ow[q]?:=λq=>by rw[Array.getElem?_setIfInBounds];split<;>simp_all
 have occ:∀q,OcO ow q->OcO (ow.setIfInBounds j (some hs.length)) q:=λq ⟨i,e⟩=>by refine⟨i,?_⟩;rw[get,bx (λh=>by subst h;rw[e2] at e;cases e)];exact e
 refine⟨by simp[k.Yl],?_,λq i e=>?_,λq q' i e e'=>?_,λi h' e=>?_⟩
 . rw[Array.toList_setIfInBounds,List.countP_set (by simpa using lj),k.cnt]
   have:ow.toList[j]'(by simpa using lj)=none:=by have:=(jn.mp e2).2;simpa using this
   rw[this];simp
 . rw[get] at e
   split at e
   . cases e;simp
   . have:=k.lt q i e;simp;exact A_ (e_ this)
 . rw[get] at e e'
   split at e<;>split at e'
   . lia
   . cases e;have:=k.lt _ _ e';lia
   . cases e';have:=k.lt _ _ e;lia
   . exact k.inj q q' i e e'
 . by_cases l:i<hs.length
   . rw[dm l] at e
     obtain⟨j',n,a,b,c⟩:=k.at' i h' e;refine⟨j',n,?_,b,λq l=>occ _ (c q l)⟩;rw[get,bx (λh=>by subst h;rw[e2] at a;cases a)];exact a
   . have hi:i=hs.length:=by
      have:=(ak.mp e).1;simp at this;exact u_ (z_ this) (s_ l)
     subst hi;simp at e;subst e;exact⟨j,n',by rw[get,cz rfl],e1,λq l=>occ _ (e3 q l)⟩
theorem ag6{m:Nat}(hm:Msk m):∀(rest hs:Xs)(ow:Array (Option Nat)),Own m ow hs->hs.length+rest.length<=m+1 ->
 ∃ow',rest.foldl (λacc h=>do
  let (owner,k) <- acc
  let j <- layClean.free m owner (turns m) (bits h%(m+1)) (bits h)
  pure (owner.setIfInBounds j (some k),k+1)) (some (ow,hs.length))=some (ow',hs.length+rest.length)/\Own m ow' (hs++rest)
 |[],hs,ow,k,_=>⟨ow,rfl,by simpa using k⟩
 |h::rest,hs,ow,k,l=>by
  obtain⟨j,n',e0,e1,e2,e3⟩:=k.free hm (by simp at l;lia) h;have k':=k.lay e1 e2 e3;obtain⟨ow',a,b⟩:=ag6 hm rest (hs++[h]) _ k' (by simp at l ⊢;lia);refine⟨ow',?_,by simpa using b⟩;rw[List.foldl_cons];have:(do
   let (owner,k) <- some (ow,hs.length)
   let j <- layClean.free m owner (turns m) (bits h%(m+1)) (bits h)
   pure (owner.setIfInBounds j (some k),k+1))=some (ow.setIfInBounds j (some hs.length),(hs++[h]).length):=by
   show(layClean.free m ow (turns m) (bits h%(m+1)) (bits h) >>= _)=_;rw[e0];simp
  rw[this,a]
  simp;lia
def aly(hm:Msk m)(hs:Array Int)(l:hs.size<=m+1):∃ow,layClean m hs=some ow/\Own m ow hs.toList:=by have k0:Own m (Array.replicate (m+1) none) []:=⟨by simp,by simp,λj i e=>by simp[Array.getElem?_replicate] at e,λj j' i e=>by simp[Array.getElem?_replicate] at e,λi h e=>by simp at e⟩;obtain⟨ow,a,b⟩:=ag6 hm hs.toList [] _ k0 (by simpa using l);refine⟨ow,?_,by simpa using b⟩;unfold layClean;rw[<- Array.foldl_toList];exact(o7 (Option.map (·.1)) a).trans rfl
noncomputable def lv(m:Nat)(ow:Array (Option Nat)):List (Nat×Nat):=(List.range (m+1)).filterMap λj=>(ow.getD j none).map (j,·)
def Qj(k:Own m ow hs):(j,i)∈lv m ow↔ow[j]?=some (some i):=by
 unfold lv;rw[List.mem_filterMap];constructor
 . rintro⟨q,a,b⟩
   obtain⟨i',e1,e2⟩:=cj.mp b;cases e2;have:j<ow.size:=by rw[k.Yl];exact ig.mp a
   simp[Array.getD,this] at e1;simp[this,e1]
 . intro e
   have l:=(jn.mp e).1;refine⟨j,ig.mpr (by rw[<- k.Yl];exact l),?_⟩;have:ow.getD j none=some i:=by simp[Array.getD,l,(jn.mp e).2]
   rw[this];rfl
def alz(m:Nat)(ow:Array (Option Nat)):(lv m ow).Pairwise λa b=>a.1<b.1:=by unfold lv;refine List.Pairwise.filterMap _ (λa a' Hb b hb b' hb'=>?_) List.pairwise_lt_range;obtain⟨_,_,rfl⟩:=cj.mp hb;obtain⟨_,_,rfl⟩:=cj.mp hb';exact Hb
def ar5(k:Own m ow hs):((lv m ow).map (·.2)).Perm (List.range hs.length):=by
 refine(zx ?_ yx).mpr λi=>?_
 . rw[jx,yj]
   refine(alz m ow).imp_of_mem fun{a b} ha hb Hb e=>?_
   have:=k.inj a.1 b.1 a.2 ((Qj k).mp ha) (by rw[e];exact(Qj k).mp hb);exact l_ Hb (g_ this)
 . rw[bf,ig]
   constructor
   . rintro⟨a,ha,rfl⟩;exact k.lt _ _ ((Qj k).mp ha)
   . intro l
     obtain⟨j,n,a,_⟩:=k.at' i _ (bz l);exact⟨(j,i),(Qj k).mpr a,rfl⟩
theorem al0{α β:Type}{g:α->Option β}:∀{l:List α},(∀x∈l,(g x).isSome=true)->∀q:Nat,(l.filterMap g)[q]?=l[q]?.bind g
 |[],_,q=>by simp
 |x::l,h,q=>by
  have hx:=h x (dh ..);obtain⟨y,e⟩:=qj.mp hx;rw[List.filterMap_cons_some e];cases q with
  |zero=>simp[e]|succ q=>simpa using al0 (λx hx=>h x (bh _ hx)) q
def ag7(hm:Msk m)(fg mv:Nat)(ld pl:Bool)(es:Array (Int×Value))(l:es.size<=m) :
 ∃t order,laid m fg mv ld pl (es.map (·.1))=some (t,order)/\t.mask=m/\Yk t (order.filterMap (es[·]?))/\(order.filterMap (es[·]?)).toList.Perm es.toList/\(order.filterMap (es[·]?)).size=es.size
 /\t.led=ld/\t.plain=pl/\t.finger=fg/\order.toList.Perm (List.range es.size):=by
 obtain⟨ow,e,k⟩:=aly hm (es.map (·.1)) (by simp;exact a_ l x_);have Ym:=ar5 k;simp at Ym;have hlen:(lv m ow).length=es.size:=by have:=Ym.length_eq;simpa using this
 have hsz:((((lv m ow).map (·.2)).toArray).filterMap (es[·]?)).size=es.size:=by have:=(Ym.filterMap (es[·]?)).length_eq;rw[filterMap_getElem?_range] at this;rw[<- tu,Array.toList_filterMap,this];simp
 refine⟨{ mask:=m,place:=((lv m ow).map (·.1)).toArray,dummies:=#[],finger:=fg,led:=ld,moves:=mv,plain:=pl },((lv m ow).map (·.2)).toArray,?_,rfl,?_,?_,?_,rfl,rfl,rfl,Ym⟩
 . unfold laid;rw[e];rfl
 . have a4g:∀x∈(lv m ow).map (·.2),(es[x]?).isSome=true:=λx hx=>by
    have:=ig.mp (Ym.mem_iff.mp hx)
    simp;exact this
   have get:∀q:Nat,((((lv m ow).map (·.2)).toArray).filterMap (es[·]?))[q]?=((lv m ow)[q]?).bind λa=>es[a.2]?:=λq=>by rw[<- m6,Array.toList_filterMap,al0 a4g,jb];cases(lv m ow)[q]?<;>rfl
   have plc:∀q j:Nat,(((lv m ow).map (·.1)).toArray)[q]?=some j↔∃i,(lv m ow)[q]?=some (j,i):=λq j=>by
    simp only[List.getElem?_toArray,jb,cj];constructor
    . rintro⟨a,h,rfl⟩;exact⟨a.2,h⟩
    . rintro⟨i,h⟩;exact⟨_,h,rfl⟩
   refine⟨hm,rfl,?_,?_,?_,?_,?_⟩
   . show(((lv m ow).map (·.1)).toArray).size=_
     rw[hsz];simp[hlen]
   . intro i j a b ea eb lt
     obtain⟨i1,e1⟩:=(plc i a).mp ea;obtain⟨i2,e2⟩:=(plc j b).mp eb;obtain⟨l1,g1⟩:=ak.mp e1;obtain⟨l2,g2⟩:=ak.mp e2;have:=List.pairwise_iff_getElem.mp (alz m ow) i j l1 l2 lt;rw[g1,g2] at this;exact this
   . intro i j e
     obtain⟨i1,e1⟩:=(plc i j).mp e;have:=(Qj k).mp (aq e1);have:=(jn.mp this).1;rw[k.Yl] at this;show j<=m
     exact z_ this
   . show(((lv m ow).map (·.1)).toArray).size<=m
     simp[hlen];exact l
   . intro q j e' hp he
     obtain⟨i,e1⟩:=(plc q j).mp hp;rw[get,e1] at he;have he:es[i]?=some e':=he;obtain⟨j',n,a,b,c⟩:=k.at' i e'.1 (by simp[he]);have hj:=k.inj j j' i ((Qj k).mp (aq e1)) a;subst hj;refine⟨n,b,λw lw=>?_⟩;obtain⟨i',ei'⟩:=c w lw;obtain⟨z,hz⟩:=u9.mp ((Qj k).mpr ei');exact⟨z,(plc z _).mpr ⟨i',hz⟩⟩
 . rw[Array.toList_filterMap]
   have:=Ym.filterMap (es[·]?);rw[filterMap_getElem?_range] at this;exact this
 . exact hsz
def Yn:∀n,n<32->Msk (sizeAbove (grown n)-1)/\n<=sizeAbove (grown n)-1/\n+1<=sizeAbove (grown n)-1/\¬(n*5 >= (sizeAbove (grown n)-1)*3)/\sizeAbove (grown n)<=128:=by unfold Msk;decide+kernel
def al1:∀n,n<64->Msk (sizeAbove (n*2)-1)/\n<=sizeAbove (n*2)-1/\¬(n*5 >= (sizeAbove (n*2)-1)*3)/\sizeAbove (n*2)<=128:=by unfold Msk;decide+kernel
section
variable{prog:Program}{w:World}{K:Type}[DecidableEq K]{knd:KeyKind prog w K}{A:Around}{E:Y1}{s:Shared}
def ae9(n:Nat)(h:carriedByValue v=true):ofAClassStatement n v=pure false:=by cases v<;>first|(simp[carriedByValue] at h;done)|(unfold ofAClassStatement;rfl)
def Vx(hk:IsTupleKey knd s.heap ks a)(h:Q false s):wpAny (model prog w) A (ofAClassStatement 8 (.ref a)) Q E s:=by
 have hT:=hk.typeIs;obtain⟨o,items,n,ho,_,hd,hi⟩:=hk;unfold ofAClassStatement;refine aa (qx hT ?_);show wpAny _ _ (if("tuple"=="tuple")=true then _ else _) _ _ s;rw[cz (by decide)];refine aa (aj ?_);simp only[qm,dg,jo];refine aa (o5 ho hd ?_);refine aa ?_;show wpAny _ _ (forIn items _ _) _ _ s;rw[<- Array.forIn_toList];refine rz _ (λrest r s'=>r.1=none/\s'=s/\∀v∈rest,carriedByValue v=true) _ ?_ ?_ _ _ ⟨rfl,rfl,hi.byValue⟩
 . rintro v rest r s' ⟨hr,rfl,Dl⟩
   rw[ae9 _ (Dl v dh)];refine aa (aj ?_);simp only[dg,jo];exact aj ⟨rfl,rfl,λu hu'=>Dl u (bh _ hu')⟩
 . rintro⟨r1,r2⟩ s' ⟨hr,rfl,_⟩
   simp only at hr;subst hr;exact aj h
def al2(hk:IsTupleKey knd s.heap ks a)(hs:∀v∈st,∃ks b,v=.ref b/\IsTupleKey knd s.heap ks b)(h:Q false s) :
 wpAny (model prog w) A (searchCouldBeSeen (.ref a) st) Q E s:=by
 unfold searchCouldBeSeen;refine aa ?_;refine rz _ (λrest r s'=>r.1=none/\s'=s/\∀v∈rest,∃ks b,v=.ref b/\IsTupleKey knd s.heap ks b) _ ?_ ?_ _ _ ⟨rfl,rfl,hs⟩
 . rintro v rest r s' ⟨hr,rfl,Dl⟩
   obtain⟨ks',b,rfl,hb⟩:=Dl v dh;have aw0:∀v∈rest,∃ks b,v=.ref b/\IsTupleKey knd s'.heap ks b:=λv hv=>Dl v (bh _ hv)
   dsimp only;split
   . exact aj ⟨rfl,rfl,aw0⟩
   . refine aa (wpAny_eqIsQuiet_tuple hk ?_)
     simp only[qm,dg,jo];refine aa (wpAny_eqIsQuiet_tuple hb ?_);simp only[qm,dg,jo];refine aa (Vx hk ?_);simp only[dg,jo];refine aa (Vx hb ?_);simp only[dg,jo];exact aj ⟨rfl,rfl,aw0⟩
 . rintro⟨r1,r2⟩ s' ⟨hr,rfl,_⟩
   simp only at hr;subst hr;exact aj h
noncomputable def ent(knd:KeyKind prog w K)(x:List K×Addr):Int×Value:=(tupleKeyHash knd x.1,.ref x.2)
def afa{es:Array (Int×Value)}{xs:List (List K×Addr)}(he:es.toList=xs.map (ent knd))(j:Nat):es[j]?=(xs[j]?).map (ent knd):=by rw[<- m6,he,jb]
def ajc{xs:List (List K×Addr)}(hu:A.units<cLine)(hk:IsTupleKey knd s.heap k p)(ho:s.heap.get? a=some o)(hd:o.data=.set es ep t)(T:Yk t es)(he:es.toList=xs.map (ent knd))(hx:∀x∈xs,IsTupleKey knd s.heap x.1 x.2)(hn:(xs.map (·.1)).Nodup)(F:Fst t (tupleKeyHash knd k) N)(X5:∀(i:Nat) x,xs[i]?=some x->x.1=k->Q (.there (if adding then none else some i)) s)(ax6:(∀x∈xs,x.1≠k)->Q (.free (P t.mask (tupleKeyHash knd k) N).j false) s) :
 ∀(fuel n:Nat)(st:Option Probe),n<=N->N-n<fuel->st.getD (t.probeStart (tupleKeyHash knd k))=P t.mask (tupleKeyHash knd k) n ->
  (∀m,m<n->∀(i:Nat) x,t.place[i]?=some (P t.mask (tupleKeyHash knd k) m).j->xs[i]?=some x->x.1≠k) ->
  wpAny (model prog w) A (setSearchFrom a (.ref p) (tupleKeyHash knd k) adding fuel st) Q E s:=by
 intro fuel
 induction fuel with
 |zero=>intro n st _ l;omega
 |succ fuel ih =>
  intro n st hnN l Vh a4i;unfold setSearchFrom;refine aa (jr ho hd T.fits ?_);dsimp only;rw[T.way,Vh];simp only[dg,jo];have key:=alx T F (λi=>(es[i]?.map (·.1)).getD 0) (10*turns t.mask) n hnN (by have:=F.lt;exact c_ C_ this);generalize hpr:t.probe _ (tupleKeyHash knd k) (P t.mask (tupleKeyHash knd k) n)=pr;have hpr:t.probe (λi=>(es[i]?.map (·.1)).getD 0) (tupleKeyHash knd k) (P t.mask (tupleKeyHash knd k) n)=pr:=hpr;have atI:∀(i j:Nat),t.place[i]?=some j->∃x,xs[i]?=some x/\es[i]?=some (ent knd x):=λi j e=>by
   have li:i<es.size:=by rw[<- T.Yl];exact(jn.mp e).1
   have lx:i<xs.length:=by have:=o7 List.length he;simp at this;exact b_ li (f_ this)
   refine⟨xs[i],by simp[lx],?_⟩;rw[afa he];simp[lx]
  rcases key with⟨e,hno⟩|⟨m,i,h1,h2,h3,h4,h5,e⟩
  . have e:pr=_:=hpr.symm.trans e
    subst e;dsimp only;refine aj (ax6 λx hxm hxk=>?_);obtain⟨i,hi⟩:=u9.mp hxm;have hei:es[i]?=some (ent knd x):=by rw[afa he,hi];rfl
    obtain⟨m,lm,hp⟩:=T.ahead F hei (by unfold ent;rw[hxk])
    by_cases hmn:m<n
    . exact a4i m hmn i x hp hi hxk
    . refine hno m (s_ hmn) lm i hp ?_
      rw[hei];show tupleKeyHash knd x.1=_;rw[hxk]
  . have e:pr=_:=hpr.symm.trans e
    subst e;dsimp only;obtain⟨x,hxi,hei⟩:=atI i _ h3;have hkx:=hx x (aq hxi);have seen:∀{R:Bool->Shared->Prop},R false s->wpAny (model prog w) A (searchCouldBeSeen (.ref p) ((es.filter (·.1==tupleKeyHash knd k)).toList.map (·.2))) R E s:=λhR=>al2 hk (λv hv=>by
     obtain⟨y,hy,rfl⟩:=bf.mp hv;have hy':y∈es.toList:=by simp at hy;simpa using hy.1
     rw[he] at hy';obtain⟨z,hz,rfl⟩:=bf.mp hy';exact⟨z.1,z.2,rfl,hx z hz⟩) hR
    rcases Bool.eq_false_or_eq_true t.led with a4j|a4j
    all_goals
     simp only[a4j,qm,ym,dg,jo,jy]
     first
     |(rw[hei];show wpAny _ _ (holding [.ref x.2] (eqBool (.ref x.2) (.ref p)) >>= _) _ _ _)
     |(refine aa (seen ?_);simp only[dg,jo];rw[hei];show wpAny _ _ (holding [.ref x.2] (eqBool (.ref x.2) (.ref p)) >>= _) _ _ _)
     refine aa (ir (wpAny_eqBool_tuple hu hkx hk ?_));refine aa (jr ho hd T.fits ?_);dsimp only;have hsm:t.sameMemory t.moves t.mask=some true:=by unfold sameMemory;simp
     rw[hsm];dsimp only;rw[cz rfl,(Su T.srt).mpr h3];dsimp only;rw[hei]
     by_cases hxk:x.1=k
     . have hd1:decide (x.1=k)=true:=by simp[hxk]
       rw[hd1];have hq:=X5 i x hxi hxk;cases adding
       . simp only[Bool.false_and,dg,jo]
         refine aa (wpAny_isSame_ref_self ?_);refine aa (aj ?_);simpa using aj hq
       . simp only[Bool.and_self,jy]
         exact aj hq
     . have hd1:decide (x.1=k)=false:=by simp[hxk]
       rw[hd1];simp only[Bool.and_false,dg,jo];refine aa (wpAny_isSame_ref_self ?_);refine aa (aj ?_);simp only[jy];refine ih (m+1) _ h2 (by lia) rfl λm' hm' i' x' hp' ar7=>?_
       by_cases hc:m'<n
       . exact a4i m' hc i' x' hp' ar7
       . by_cases hm:m'=m
         . subst hm
           have ei:i'=i:=by rw[<- below_at T.srt hp',<- below_at T.srt h3]
           subst ei;rw[hxi] at ar7;cases ar7;exact hxk
         . intro bbw
           have bbx:es[i']?=some (ent knd x'):=by rw[afa he,ar7];rfl
           refine h5 m' (s_ hc) (by lia) i' hp' ?_;rw[bbx];show tupleKeyHash knd x'.1=_;rw[bbw]
end
section
variable{prog:Program}{w:World}{K:Type}[DecidableEq K]{knd:KeyKind prog w K}{pk:List K×Addr->Prop}{A:Around}{E:Y1}{s:Shared}
noncomputable abbrev bt(w:World):Bool:=w.params.followText "set-order"
def Vi(h:Q (bt w) s):wpAny (model prog w) A setsByText Q E s:=by unfold setsByText;exact aa (wpAny_askSetting (aj h))
def Sw(knd:KeyKind prog w K)(pk:List K×Addr->Prop):Prop:=∀x,pk x->∀k∈x.1,∀v n,knd.is k v=true->hashByValue n v=pure true
theorem Uc:∀{ks:List K}{vs:Zl},ItemsAre knd ks vs->(∀k∈ks,∀v n,knd.is k v=true->hashByValue n v=pure true)->∀v∈vs,∀n,hashByValue n v=pure true
 |_,_,.nil,_,v,h=>by simp at h
 |_,_,.cons h t,hp,v,hv=>by
  rcases cu.mp hv with rfl|hv
  . exact λn=>hp _ dh _ n h
  . exact Uc t (λk hk=>hp k (bh _ hk)) v hv
def afd(hpk:Sw knd pk)(hk:IsTupleKey knd s.heap ks a)(hp:pk (ks,a))(h:Q true s):wpAny (model prog w) A (hashByValue 8 (.ref a)) Q E s:=by
 have hT:=hk.typeIs;obtain⟨o,items,n,ho,_,hd,hi⟩:=hk;unfold hashByValue;refine aa (wpAny_specialOf hT F.slot_tuple_hash.lookup ?_);dsimp only;refine aa (o5 ho hd ?_);refine aa ?_;show wpAny _ _ (forIn items _ _) _ _ s;rw[<- Array.forIn_toList];refine rz _ (λrest r s'=>r.1=none/\s'=s/\∀v∈rest,∀n,hashByValue n v=pure true) _ ?_ ?_ _ _ ⟨rfl,rfl,Uc hi (hpk _ hp)⟩
 . rintro v rest r s' ⟨hr,rfl,Dl⟩
   rw[Dl v dh];refine aa (aj ?_);simp only[qm,dg,jo];exact aj ⟨rfl,rfl,λu hu'=>Dl u (bh _ hu')⟩
 . rintro⟨r1,r2⟩ s' ⟨hr,rfl,_⟩
   simp only at hr;subst hr;exact aj h
structure Sx(knd:KeyKind prog w K)(pk:List K×Addr->Prop)(h:Heap)(a:Addr)(xs:List (List K×Addr))(o:Obj)(es:Array (Int×Value))(ep:Nat)(t:SetTable):Prop where
 get:h.get? a=some o
 exa:o.ExactSet
 dat:o.data=.set es ep t
 tab:Yk t es
 ent:es.toList=xs.map (ent knd)
 keys:∀x∈xs,IsTupleKey knd h x.1 x.2/\pk x
 nod:(xs.map (·.1)).Nodup
 led:t.led=!bt w
 pla:t.plain=true
def Cw(knd:KeyKind prog w K)(pk:List K×Addr->Prop)(h:Heap)(a:Addr)(S:List K->Prop)(n:Nat):Prop:=∃xs o es ep t,Sx knd pk h a xs o es ep t/\(∀k,S k↔k∈xs.map (·.1))/\xs.length=n/\t.place.size*5<t.mask*3
theorem Sx.size(X:Sx knd pk h a xs o es ep t):es.size=xs.length:=by have:=o7 List.length X.ent;simpa using this
def al3(p:Addr)(es:Array (Int×Value)):byScan (.ref p) es=false:=by unfold byScan;simp[Value.scannable]
def al4(h:Msk m):10*turns m<100000:=by rcases h with rfl|rfl|rfl|rfl|rfl<;>decide
def Vy(hu:A.units<cLine)(hk:IsTupleKey knd s.heap k p)(X:Sx knd pk s.heap a xs o es ep t)(F:Fst t (tupleKeyHash knd k) N)(X5:∀(i:Nat) x,xs[i]?=some x->x.1=k->Q (.there (if adding then none else some i)) s)(ax6:(∀x∈xs,x.1≠k)->Q (.free (P t.mask (tupleKeyHash knd k) N).j false) s) :
 wpAny (model prog w) A (setSearch a (.ref p) (tupleKeyHash knd k) adding) Q E s:=by
 unfold setSearch;exact ajc hu hk X.get X.dat X.tab X.ent (λx hx=>(X.keys x hx).1) X.nod F X5 ax6 100000 0 none (j5 _) (by have:=F.lt;have:=al4 X.tab.msk;lia) (acg _ _) (λm l=>by lia)
def ar9(hu:A.units<cLine)(hk:IsTupleKey knd s.heap k p)(hS:Cw knd pk s.heap a S n)(h:∀r:Option Nat,(r.isSome=true↔S k)->Q r s):wpAny (model prog w) A (setFind a (.ref p) (tupleKeyHash knd k)) Q E s:=by
 obtain⟨xs,o,es,ep,t,X,hm,_,_⟩:=hS;obtain⟨N,F⟩:=X.tab.fst (tupleKeyHash knd k);unfold setFind setFindIn;refine aa (jr X.get X.dat X.tab.fits ?_);dsimp only;rw[al3];simp only[dg,jo];refine aa (Vy hu hk X F (λi x hi hx=>?_) (λhno=>?_))
 . simp only[dg,jo]
   exact aj (h _ (by simp;exact(hm k).mpr (bf.mpr ⟨x,aq hi,hx⟩)))
 . dsimp only
   refine aj (h _ ?_);simp only[Option.isSome_none,dg,false_iff];intro hs;obtain⟨x,hx,e⟩:=bf.mp ((hm k).mp hs);exact hno x hx e
end
def Dm{α β:Type}{f:α->β}:∀{l l':List β},l.Perm l'->∀{xs:List α},l'=xs.map f->∃xs':List α,l=xs'.map f/\xs'.Perm xs:=by
 intro l l' p
 induction p with
 |nil=>intro xs e;cases xs with
  |nil=>exact⟨[],rfl,.nil⟩|cons _ _=>cases e
 |cons a p ih =>
  intro xs e;cases xs with
  |nil=>cases e
  |cons x xs =>
   simp only[ie,List.cons.injEq] at e;obtain⟨xs',e1,p1⟩:=ih e.2;exact⟨x::xs',by simp[e1,e.1],p1.cons x⟩
 |swap a b l =>
  intro xs e
  match xs,e with
  |x::y::xs,e =>
   simp only[ie,List.cons.injEq] at e;obtain⟨rfl,rfl,rfl⟩:=e;exact⟨y::x::xs,rfl,.swap x y xs⟩
 |trans p q ih1 ih2 =>
  intro xs e;obtain⟨ys,e1,p1⟩:=ih2 e;obtain⟨zs,e2,p2⟩:=ih1 e1;exact⟨zs,e2,p2.trans p1⟩
section
variable{prog:Program}{w:World}{K:Type}[DecidableEq K]{knd:KeyKind prog w K}{pk:List K×Addr->Prop}{A:Around}{E:Y1}{s:Shared}
def al5(x:IsTupleKey knd h ks p)(ho:h.get? a=some o)(hd:o.data=.set es ep t)(hs:Heap.SameBut a h h'):IsTupleKey knd h' ks p:=by
 obtain⟨o',items,n,ho',hc,hd',hi⟩:=x;have Xy:p≠a:=by rintro rfl;obtain rfl:o'=o:=jd (ho'.symm.trans ho);rw[hd] at hd';exact nomatch hd'
 exact⟨o',items,n,(hs.2 p Xy).trans ho',hc,hd',hi⟩
def newX(X:Sx knd pk h a xs o es ep t)(T':Yk t' es')(he:es'.toList=xs'.map (ent knd))(hk:∀x∈xs',IsTupleKey knd h x.1 x.2/\pk x)(hn:(xs'.map (·.1)).Nodup)(hl:t'.led=!bt w)(hp:t'.plain=true) :
 Sx knd pk (h.update a (Obj.putSet es' t')) a xs' { o with data:=.set es' (ep+1) t' } es' (ep+1) t':=by
 have hg:(h.update a (Obj.putSet es' t')).get? a=some { o with data:=.set es' (ep+1) t' }:=by have:=o8 (Obj.putSet es' t') X.get (by rw[putSet_of es' t' X.dat];rfl);rw[putSet_of es' t' X.dat] at this;exact this
 exact⟨hg,X.exa,rfl,T',he,λx hx=>⟨al5 (hk x hx).1 X.get X.dat (km h a _),(hk x hx).2⟩,hn,hl,hp⟩
def Jr(h:n<=128):n<=sizeLine:=by rw[qd];exact a_ h (by decide)
def acj(X:Sx knd pk s.heap a xs o es ep t)(hm:Msk (sizeAbove wanted-1))(hz:es.size<=sizeAbove wanted-1)(hb:sizeAbove wanted<=128)(h:∀h' xs' o' es' ep' t',Heap.SameBut a s.heap h'->Sx knd pk h' a xs' o' es' ep' t'->xs'.Perm xs->t'.mask=sizeAbove wanted-1->t'.place.size=es.size->Q () { s with heap:=h' }) :
 wpAny (model prog w) A (setRelay a wanted) Q E s:=by
 obtain⟨t',order,e,e1,T',p,sz,hl,hp,_⟩:=ag7 hm t.finger (t.movedTo (sizeAbove wanted-1)) t.led t.plain es hz;unfold setRelay;refine aa (jr X.get X.dat X.tab.fits ?_);dsimp only;rw[bx (by have:=Jr hb;exact j_ this)];have er:t.relaid (es.map (·.1)) wanted=some (t',order):=e;rw[er];refine aa ?_;have hif:wpAny (model prog w) A (if((order.filterMap (es[·]?)).size != es.size)=true then(do unsupported "internal:set-table-lost-an-element";pure (order.filterMap (es[·]?),t')) else pure (order.filterMap (es[·]?),t'))
  (λr s'=>wpAny (model prog w) A (storeSet a r.1 r.2) Q E s') E s:=by
  rw[bx (by simp[sz])];refine aj ?_;obtain⟨xs',ex,px⟩:=Dm p X.ent;have hX:=newX X T' ex (λx hx=>X.keys x (px.mem_iff.mp hx)) ((px.map _).nodup_iff.mpr X.nod) (hl.trans X.led) (hp.trans X.pla);refine wpAny_storeSet_of X.get X.dat (h _ _ _ _ _ _ (km s.heap a _) hX px e1 (by rw[T'.Yl,sz])) (Jr (by rw[sz];exact a_ hz (a_ C_ hb)))
 exact hif
def Z8(hpk:Sw knd pk)(hu:A.units<cLine)(hk:IsTupleKey knd s.heap k p)(hp:pk (k,p))(hS:Cw knd pk s.heap a S n)(hn:n+1<32)(h:∀h' n' b,Heap.SameBut a s.heap h'->Cw knd pk h' a (λk'=>S k'\/k'=k) n'->n'<=n+1->Q b { s with heap:=h' }) :
 wpAny (model prog w) A (setAddHashed a (.ref p) (tupleKeyHash knd k)) Q E s:=by
 obtain⟨xs,o,es,ep,t,X,hm,hl,nf⟩:=hS;obtain⟨N,F⟩:=X.tab.fst (tupleKeyHash knd k);have hsz:=X.size;unfold setAddHashed setAddHashedIn;refine ir (aa (jr X.get X.dat X.tab.fits ?_));dsimp only;rw[al3];simp only[dg,jo];refine aa (Vy hu hk X F (λi x hi hx=>?_) (λhno=>?_))
 . dsimp only
   refine aj ?_;have hSk:S k:=(hm k).mpr (bf.mpr ⟨x,aq hi,hx⟩);have:=h s.heap n false (Heap.SameBut.refl a s.heap) ⟨xs,o,es,ep,t,X,λk'=>by
    rw[<- hm k'];exact⟨λh=>h.elim id (λe=>e▸hSk),.inl⟩,hl,nf⟩ x_
   exact this
 . dsimp only
   refine aa (jr X.get X.dat X.tab.fits ?_);dsimp only;have room:t.place.size+1<=t.mask:=by have:=X.tab.msk;rcases this with e|e|e|e|e<;>lia
   have T':=X.tab.put (x:=.ref p) F room;have Ib:(t.put (P t.mask (tupleKeyHash knd k) N).j).1.plain=true:=X.pla;rw[Ib];simp only[jy];refine aa (afd hpk hk hp ?_);simp only[jy];obtain⟨xs',ex,px⟩:=Dm (f:=ent knd) (insertAt_perm es (t.put (P t.mask (tupleKeyHash knd k) N).j).2 (tupleKeyHash knd k,.ref p)) (xs:=xs++[(k,p)]) (by rw[Array.toList_push,X.ent,ud];rfl);have pm:=px.map (·.1);have hnd:(xs'.map (·.1)).Nodup:=pm.nodup_iff.mpr (by
    rw[ud,yh];refine⟨X.nod,by simp,λa ha b hb=>?_⟩;simp at hb;subst hb;rintro rfl;obtain⟨x,hx,e⟩:=bf.mp ha;exact hno x hx e)
   have Vz:∀x∈xs',IsTupleKey knd s.heap x.1 x.2/\pk x:=λx hx=>by
    rcases gh.mp (px.mem_iff.mp hx) with hx|hx
    . exact X.keys x hx
    . simp at hx;subst hx;exact⟨hk,hp⟩
   have hX:=newX X T' ex Vz hnd X.led X.pla;have Ie:∀k',(S k'\/k'=k)↔k'∈xs'.map (·.1):=λk'=>by rw[pm.mem_iff,ud,gh,hm k'];simp
   have hlen:xs'.length=n+1:=by rw[px.length_eq];simp[hl]
   have hes:(insertAt es (t.put (P t.mask (tupleKeyHash knd k) N).j).2 (tupleKeyHash knd k,.ref p)).size=es.size+1:=Mj _ _ _;refine aa (wpAny_storeSet_of X.get X.dat ?_ (Jr (by rw[hes];exact e_ (c_ (v_ (f_ hsz)) (c_ (v_ (f_ hl)) (b_ hn (by decide)))))));have al6:(t.put (P t.mask (tupleKeyHash knd k) N).j).1.place.size=es.size+1:=by rw[T'.Yl,hes]
   by_cases htf:(t.put (P t.mask (tupleKeyHash knd k) N).j).1.tooFull=true
   . rw[htf]
     simp only[ym,Bool.and_self,jy];obtain⟨g1,g2,g3,g4,g5⟩:=Yn (es.size+1) (c_ (v_ (f_ hsz)) (c_ (v_ (f_ hl)) hn));refine aa (acj hX g1 (by rw[hes];exact g2) g5 λh' xs2 o2 es2 ep2 t2 sb X2 p2 em ps=>?_);refine aj (h h' (n+1) true ((km s.heap a _).trans sb) ⟨xs2,o2,es2,ep2,t2,X2,λk'=>?_,by rw[p2.length_eq,hlen],?_⟩ (bw _))
     . exact(Ie k').trans (p2.map (·.1)).mem_iff.symm
     . rw[ps,em,hes];exact t_ g4
   . rw[Bool.not_eq_true] at htf
     rw[htf];simp only[Bool.and_false,dg,jo];refine aj (h _ (n+1) true (km s.heap a _) ⟨xs',_,_,_,_,hX,Ie,hlen,?_⟩ (bw _));unfold tooFull at htf;have hf:(t.put (P t.mask (tupleKeyHash knd k) N).j).1.fill=es.size+1:=by unfold fill;rw[al6,T'.dum];rfl
     rw[hf] at htf;rw[al6];simp at htf;exact htf
end
open PySem
def upto(J:Nat->β->Shared->Prop)(turn:∀i b z,i<n->J i b z->wpAny M A (f i b) (λr z'=>match r with|.yield b'=>J (i+1) b' z'|.done b'=>Q b' z') E z)(fin:∀b z,J n b z->Q b z)(start:J 0 b s) :
 wpAny M A (forIn [:n] b f) Q E s:=by
 have go:∀(k i:Nat)(b:β)(z:Shared),n=i+k->J i b z->wpAny M A (forIn (List.range' i k) b f) Q E z:=by
  intro k
  induction k with
  |zero=>intro i b z e hj;subst e;exact aj (fin b z hj)
  |succ k ih =>
   intro i b z e hj;show wpAny M A (forIn (i::List.range' (i+1) k) b f) Q E z;rw[List.forIn_cons];refine aa (j7 (turn i b z (by lia) hj) (λr z' hr=>?_) λ_ _ x=>x)
   match r,hr with
   |.done b',hr=>exact aj hr|.yield b',hr=>exact ih (i+1) b' z' (by lia) hr
 have e:(forIn [:n] b f:Sem β)=forIn (List.range' 0 n) b f:=by rw[u5];simp[Std.Legacy.Range.size]
 rw[e];exact go n 0 b s (by lia) start
def sub_dict_set:isSubtype (.type "dict") (.type "set")=pure false:=by rw[isSubtype_type];kernel_rfl
def sub_dict_frozenset:isSubtype (.type "dict") (.type "frozenset")=pure false:=by rw[isSubtype_type];kernel_rfl
section
variable{prog:Program}{w:World}{K:Type}[DecidableEq K]{knd:KeyKind prog w K}{pk:List K×Addr->Prop}{A:Around}{E:Y1}{s:Shared}
def Gw(hT:s.TypeIs v T)(h1:isSubtype (.type T) (.type "set")=pure false)(h2:isSubtype (.type T) (.type "frozenset")=pure false)(h:Q false s) :
 wpAny (model prog w) A (Builtin.Frozenset.isAnySet v) Q E s:=by
 unfold Builtin.Frozenset.isAnySet;refine aa (my hT h1 ?_);exact my hT h2 h
def bb0(hT:s.TypeIs v "set")(h:Q true s):wpAny (model prog w) A (Builtin.Frozenset.isAnySet v) Q E s:=by unfold Builtin.Frozenset.isAnySet;refine aa (my hT sub_set_self ?_);exact aj h
noncomputable def Ai(w:World):Obj:={ cls:=.type "set",dict:=none,data:=.set #[] 0 (.fresh 0 0 (!bt w)) }
def asb(hg:h.get? a=some (Ai w)):Cw knd pk h a (λ_=>False) 0 :=
 ⟨[],Ai w,#[],0,_,⟨hg,⟨rfl,rfl,rfl⟩,rfl,⟨.inl rfl,rfl,rfl,λi j a b e=>by simp[SetTable.fresh] at e,λi j e=>by simp[SetTable.fresh] at e,by simp[SetTable.fresh],λi j e a=>by simp[SetTable.fresh] at a⟩,
  rfl,λx hx=>by simp at hx,xg,rfl,rfl⟩,λk=>by simp,rfl,by simp[SetTable.fresh]⟩
set_option tactic.hygienic true in
def asd(hS:Cw knd pk s.heap a S n)(hl:n+m<64)(h:∀h',Heap.SameBut a s.heap h'->Cw knd pk h' a S n->Q () { s with heap:=h' }):wpAny (model prog w) A (setRoomFor a m) Q E s:=by
 obtain⟨xs,o,es,ep,t,X,hm,hn,nf⟩:=hS;have hsz:=X.size;unfold setRoomFor;refine aa (jr X.get X.dat X.tab.fits ?_);dsimp only;unfold roomFor;have hps:=X.tab.Yl;split
 . rename_i wanted e
   split at e
   . cases e
     obtain⟨g1,g2,g3,g4⟩:=al1 (t.place.size+m) (c_ (v_ (f_ hps)) (c_ (v_ (f_ hsz)) (c_ (v_ (f_ hn)) hl)));refine acj X g1 (by lia) g4 λh' xs2 o2 es2 ep2 t2 sb X2 p2 em ps=>h h' sb ⟨xs2,o2,es2,ep2,t2,X2,λk'=>?_,by rw[p2.length_eq,hn],?_⟩
     . exact(hm k').trans (p2.map (·.1)).mem_iff.symm
     . rw[ps,em];lia
   . cases e
 . exact aj (h s.heap (Heap.SameBut.refl _ _) ⟨xs,o,es,ep,t,X,hm,hn,nf⟩)
theorem Cw.get(hS:Cw knd pk h a S n):∃o es ep t,h.get? a=some o/\o.ExactSet/\o.data=.set es ep t/\t.fits es.size=true :=
 let ⟨_,o,es,ep,t,X,_⟩:=hS;⟨o,es,ep,t,X.get,X.exa,X.dat,X.tab.fits⟩
def Cw.typeIs(hS:Cw knd pk s.heap a S n):s.TypeIs (.ref a) "set" :=
 let ⟨o,_,_,_,ho,hc,_⟩:=hS.get;⟨o,ho,hc.1⟩
def Cw.congr(hS:Cw knd pk h a S n)(e:∀k,S k↔S' k):Cw knd pk h a S' n :=
 let ⟨xs,o,es,ep,t,X,hm,r⟩:=hS;⟨xs,o,es,ep,t,X,λk=>(e k).symm.trans (hm k),r⟩
def al7(hpk:Sw knd pk){id:String}(hu:A.units<cLine)(hS:Cw knd pk s.heap a S n)(hd:s.heap.DictOfH (tupleKind knd) d xs)(hds:(d==sysModules)=false)(hpx:∀x∈xs,pk (x.1,x.2.1))(hl:n+xs.length<31)(h:∀h' n',Heap.SameBut a s.heap h'->Cw knd pk h' a (λk=>S k\/k∈xs.map (·.1)) n'->Q () { s with heap:=h' }) :
 wpAny (model prog w) A (Builtin.Frozenset.updateFrom id a (.ref d)) Q E s:=by
 have hT:=hd.typeIs;obtain⟨od,esd,epd,hod,hcd,hdd,hed,hxd,hnd⟩:=hd;obtain⟨o0,es0,ep0,t0,hg0,hc0,hd0,hf0⟩:=hS.get;have Xy:d≠a:=by rintro rfl;rw[hod] at hg0;cases hg0;rw[hdd] at hd0;cases hd0
 have hlen:esd.size=xs.length:=size_of_entries hed;unfold Builtin.Frozenset.updateFrom;refine aa (Gw hT sub_dict_set sub_dict_frozenset ?_);simp only[dg,jo];refine aa (qx hT ?_);rw[cz (by decide)];refine aa (wpAny_rule ?_);refine aa (m:=Builtin.Frozenset.addrOf (.ref d)) (aj ?_);rw[bx (by rw[hds];decide)];refine aa (wpAny_dictEpoch hod hdd ?_);refine aa (j0 hod hdd ?_);refine aa (asd hS (by lia) λh1 sb1 hS1=>?_);have bb4:h1.get? d=some od:=(sb1.2 d Xy).trans hod;refine aa (j0 bb4 hdd ?_);refine aa ?_;refine upto (λi _ z=>∃h' n',z={ s with heap:=h' }/\Cw knd pk h' a (λk=>S k\/k∈(xs.take i).map (·.1)) n'/\n'<=n+i/\Heap.SameBut a s.heap h') (λi _ z lt inv=>?_) (λ_ z inv=>?_) ⟨h1,n,rfl,hS1.congr (λk=>by simp),x_,sb1⟩
 . obtain⟨h',n',rfl,V0,Om,sb'⟩:=inv
   have afh:h'.get? d=some od:=(sb'.2 d Xy).trans hod;refine aa (j0 afh hdd ?_);have lx:i<xs.length:=b_ lt (f_ hlen)
   have he:esd[i]?=some (entryOfKey (tupleKind knd) xs[i]):=by rw[entry_at hed];simp[lx]
   rw[he];have hkk:IsTupleKey knd h' xs[i].1 xs[i].2.1:=al5 (hxd _ (ph lx)) hg0 hd0 sb';show wpAny _ _ (holding [.ref xs[i].2.1] (setAddHashed a (.ref xs[i].2.1) (tupleKeyHash knd xs[i].1)) >>= _) _ _ _;refine aa (ir (Z8 (s:={ s with heap:=h' }) hpk hu hkk (hpx _ (ph lx)) V0 (by lia) λh'' n'' b a4n al9 a4o=>?_));refine aa (wpAny_dictEpoch ((a4n.2 d Xy).trans afh) hdd ?_);rw[wj];refine aj ⟨h'',n'',rfl,al9.congr (λk=>?_),by lia,sb'.trans a4n⟩;rw[List.take_add_one,ud,gh,show xs[i]?=some xs[i] by simp[lx]];simp[or_assoc]
 . obtain⟨h',n',rfl,V0,Om,sb'⟩:=inv
   refine aj (h h' n' sb' (V0.congr λk=>?_));rw[zb (g_ hlen)]
end
section
variable{prog:Program}{w:World}{K:Type}[DecidableEq K]{knd:KeyKind prog w K}{pk:List K×Addr->Prop}{A:Around}{E:Y1}{s:Shared}
def asf(post:R (.ref s.heap.objs.size) { s with heap:=s.heap.push (Ai w) }) :
 codeAny (model prog w) A (.call (.builtin "set.__new__") ⟨[.type "set",v],[]⟩) (wants R E) s:=by
 refine codeAny_call_builtin F.plain_set_new F.entry_set_new (wpAny_of_eq (F.newCall_set_1 v) ?_);have sub:=sub_set_self;unfold Builtin.«set.__new__» Builtin.Frozenset.newClass
 wp_walk
 exact wpAny_askSetting (aj (aa (wpAny_alloc (aj (aj post)))))
set_option maxHeartbeats 3200000 in
def Ml{R:Shared->Prop}(hup:wpAny (model prog w) A.in1.in1 (Builtin.Frozenset.updateFrom "set.__init__" s.heap.objs.size x) (λ_ s'=>R s') E { s with heap:=s.heap.push (Ai w) })(h:∀s',R s'->Q (.ref s.heap.objs.size) s') :
 wpAny (model prog w) A (call (.type "set") [x]) Q E s:=by
 obtain⟨c,tl,bis⟩:=uh.mro;have bgk:=uh.made;have Z9:=uh.sub;refine wpAny_call (codeAny_of_tree ?_);show wpAny _ _ (callAny (.type "set") _) _ _ _;refine aj ⟨Code.quiet_builtin _ (by decide+kernel),m7 F.entry_type_call ?_⟩;rw[Around.under_plain (weight_type_call_type "set" [x] []) rfl];have h1:=uh.notType;have h2:=uh.canCreate;have hct:=F.typeCall_set_1 x
 repeat (any_goals (first|assumption|wp_step))
 refine vf (asf (v:=x) (E:=E) (R:=λobj s₁=>obj=.ref s.heap.objs.size/\s₁={ s with heap:=s.heap.push (Ai w) }) ⟨rfl,rfl⟩) λr s₁ hr=>?_
 cases r with
 |error e=>exact hr
 |ok fl =>
  cases fl with
  |ret obj =>
   obtain⟨rfl,rfl⟩:=hr;have hS:(s.heap.push (Ai w)).get? s.heap.objs.size=some (Ai w):=bu _ rfl;have hT:Shared.TypeIs { s with heap:=s.heap.push (Ai w) } (.ref s.heap.objs.size) "set" := ⟨_,hS,rfl⟩;have hli:=uh.init.lookup;have hbi:=uh.init.bind (.ref s.heap.objs.size)
   repeat (any_goals (first|assumption|wp_step))
   refine vf (codeAny_call_builtin (R:=wants (λr s₂=>r=.none/\R s₂) E) uh.init.plain F.entry_set_init (check_set_init_1 hT ?_)) λr₂ s₂ hr₂=>?_
   . unfold Builtin.«set.__init__» noKeywords
     generalize hUF:Builtin.Frozenset.updateFrom=UF at hup ⊢;unfold Ai at hS hT hup ⊢
     wp_walk
     exact j7 hup (λ_ s' hr=>aj ⟨rfl,hr⟩) (λe s' he=>he)
   . cases r₂ with
     |error e=>exact hr₂
     |ok fl₂ =>
      cases fl₂ with
      |ret r =>
       obtain⟨rfl,hq⟩:=hr₂
       repeat (any_goals (first|assumption|wp_step))
       exact h _ hq
      |_=>exact hr₂.elim
  |_=>exact hr.elim
end
open PyProof.Rows (F.entry_set_update_loop F.plain_set_update_loop)
section
variable{prog:Program}{w:World}{K:Type}[DecidableEq K]{knd:KeyKind prog w K}{pk:List K×Addr->Prop}{A:Around}{E:Y1}{s:Shared}
def Sy{wr:X9}(hk:IsTupleKey knd h ks p)(hp:p∉wr)(hm:∀b o,b∉wr->h.get? b=some o->h'.get? b=some o):IsTupleKey knd h' ks p :=
 let ⟨o,items,n,ho,r⟩:=hk;⟨o,items,n,hm p o hp ho,r⟩
def Cw.moved{wr:X9}(hS:Cw knd pk h a S n)(ha:a∉wr)(hw:∀(b:Addr) (ks:List K),b∈wr->¬IsTupleKey knd h ks b)(hm:∀b o,b∉wr->h.get? b=some o->h'.get? b=some o):Cw knd pk h' a S n :=
 let ⟨xs,o,es,ep,t,X,r⟩:=hS
 ⟨xs,o,es,ep,t,⟨hm a o ha X.get,X.exa,X.dat,X.tab,X.ent,λx hx=>⟨Sy (X.keys x hx).1 (λhc=>hw _ _ hc (X.keys x hx).1) hm,(X.keys x hx).2⟩,X.nod,X.led,X.pla⟩,r⟩
def ash(hpk:Sw knd pk){I:Addr}{P:Nat->Value->Prop}(hu:A.in1.units<cLine)(W:WalksS prog w A.in1 I fp wr G n P St)(a:Addr)(haf:a∉fp)(ks:List (List K×Addr))(hkl:ks.length=n)(ax9:∀i v x,P i v->ks[i]?=some x->v=.ref x.2)(hpx:∀x∈ks,pk x)(hb:n<31)(hkw:∀x∈ks,x.2∉wr)(hnk:∀i (s:Shared),St i s->∀(b:Addr) (ks:List K),b∈wr->¬IsTupleKey knd s.heap ks b) :
 ∀(k i n':Nat)(s:Shared),n-i=k->i<=n->St i s->(∀x∈ks,IsTupleKey knd s.heap x.1 x.2) ->
  Cw knd pk s.heap a (λk'=>k'∈(ks.take i).map (·.1)) n'->n'<=i ->
  (∀s' n'',Moved (a::wr) G s s'->Cw knd pk s'.heap a (λk'=>k'∈ks.map (·.1)) n''->R (.ok (.ret .none)) s') ->
  codeAny (model prog w) A (.builtin "set.update.loop" ⟨[.ref a,.ref I],[]⟩) R s:=by
 have haw:a∉wr:=λh=>haf (W.sub _ h)
 have Z9:∀b∈wr,b∈a::wr:=λb hb=>bh _ hb
 intro k
 induction k with
 |zero =>
  intro i n' s hk hi Vh Vz hS Om hR;have X5:i=n:=by lia
  subst X5;refine m7 rm ?_;rw[j8 lq _];show wpAny _ A.in1 (pyNext (.ref I) >>= _) _ _ s;refine aa (W.done s _ _ Vh λs' hm=>?_);show wpAny _ A.in1 (ret Value.none) _ _ s';refine aj (hR s' n' (hm.mono Z9) ((hS.moved haw (hnk _ s Vh) hm.heap).congr λk=>?_));rw[zb (f_ hkl)]
 |succ k ih =>
  intro i n' s hk hi Vh Vz hS Om hR;have Hb:i<n:=by lia
  refine m7 rm ?_;rw[j8 lq _];show wpAny _ A.in1 (pyNext (.ref I) >>= _) _ _ s;refine aa (W.item i s _ _ Hb Vh λv s' hP aya hm=>?_);have lx:i<ks.length:=b_ Hb (g_ hkl)
  have hgx:ks[i]?=some ks[i]:=by simp[lx]
  obtain rfl:=ax9 i v _ hP hgx;have hxm:=ph lx;have V0:=hS.moved haw (hnk _ s Vh) hm.heap;have afi:∀x∈ks,IsTupleKey knd s'.heap x.1 x.2:=λx hx=>Sy (Vz x hx) (hkw x hx) hm.heap
  show wpAny _ A.in1 (holding [Value.ref ks[i].2] (setAdd a (.ref ks[i].2)) >>= _) _ _ s';refine aa (ir ?_);unfold setAdd;refine ir ?_;refine aa (wpAny_pyHash_tuple hu (afi _ hxm) ?_);refine Z8 (s:={ s' with toks:=s'.toks+(ks[i].1.length+1) }) hpk hu (afi _ hxm) (hpx _ hxm) V0 (by lia) λh' n2 b hsb hS2 hn2=>?_
  obtain⟨oa,esa,epa,ta,hga,hca,hda,hfa⟩:=V0.get;refine aj ⟨plainId_quiet lq _,ih (i+1) n2 _ (by lia) Hb (W.frame _ s' _ _ aya (w6 _ _) λb hb o e=>?_) (λx hx=>al5 (afi x hx) hga hda hsb) (hS2.congr λk=>?_) (a_ hn2 (v_ Om)) λs'' n3 ayb al9=>?_⟩
  . rw[hsb.2 b (λh:b=a=>haf (by rw[<- h];exact hb))];exact e
  . rw[List.take_add_one,ud,gh,hgx];simp
  . refine hR s'' n3 (Moved.trans W.gtrans ((hm.mono Z9).then_heap (w6 _ _) λb o hb e=>?_) ayb) al9
    rw[hsb.2 b (λh:b=a=>hb (by rw[h];exact dh))];exact e
def ama(hpk:Sw knd pk){id:String}{ks:List (List K×Addr)}(hh:A.handled=none)(hu:A.in1.units+1<cLine)(hS:Cw knd pk s.heap a (λ_=>False) 0)(hl:s.heap.IsList l items)(hit:items.toList=ks.map λx=>.ref x.2)(Vz:∀x∈ks,IsTupleKey knd s.heap x.1 x.2)(hpx:∀x∈ks,pk x)(hlen:ks.length<31)(h:∀h' tk n',(∀b o,b≠a->s.heap.get? b=some o->h'.get? b=some o)->Cw knd pk h' a (λk=>k∈ks.map (·.1)) n'->Q () { s with heap:=h',toks:=tk }) :
 wpAny (model prog w) A (Builtin.Frozenset.updateFrom id a (.ref l)) Q E s:=by
 have hT:s.TypeIs (.ref l) "list" := let ⟨o,ho,hc,_⟩:=hl;⟨o,ho,hc⟩;have hsz:items.size=ks.length:=by rw[<- tu,hit];simp
 obtain⟨oa,esa,epa,ta,hga,hca,hda,hfa⟩:=hS.get;unfold Builtin.Frozenset.updateFrom;refine aa (Gw hT F.sub_list_set F.sub_list_frozenset ?_);simp only[dg,jo];refine aa (qx hT ?_);rw[bx (by decide)];refine aa (v9 hl ?_);refine aa (wpAny_runValue ?_);have Hb:l<s.heap.objs.size:=let ⟨o,ho,_⟩:=hl;az ho
 have hat:a<s.heap.objs.size:=az hga
 have hla:l≠a:=by rintro rfl;obtain⟨o,ho,_,n,hd⟩:=hl;rw[ho] at hga;cases hga;rw[hd] at hda;cases hda
 have ayc:l≠s.heap.objs.size:=du Hb;have haf:a∉[s.heap.objs.size,l]:=by simp only[cu,qz,Ak,not_or];exact⟨du hat,λe=>hla e.symm⟩
 have keep:∀b o,s.heap.get? b=some o->(s.heap.push { cls:=.type "list_iterator",data:=.fields #[.ref l,.int 0 0] }).get? b=some o:=λb o e=>ao _ e
 refine ash hpk (by lia) ((Walks.list (by simp[hh]) _ l ayc items).toS) a haf ks hsz.symm (λi v x hv hx=>?_) hpx (c_ (f_ hsz) hlen) (λx hx hc=>?_) (λi s' st b kk hb hkb=>?_) items.size 0 0 _ rfl (j5 _)
  ⟨⟨_,bu _ rfl,rfl,rfl⟩,hl.push _⟩ (λx hx=>Sy (wr:=[]) (Vz x hx) (by simp) λb o _ e=>keep b o e) ?_ (bw _) ?_
 . have:items.toList[i]?=some v:=by simpa using hv
   rw[hit,jb,hx] at this;exact(jd this).symm
 . simp at hc
   obtain⟨o,_,_,ho,_⟩:=Vz x hx;have:=az ho;rw[hc] at this;exact nq _ this
 . simp at hb
   subst hb;obtain⟨o,_,_,ho,hc,_⟩:=hkb;obtain⟨⟨o',ho',hc',_⟩,_⟩:=st;rw[ho] at ho';cases ho';rw[hc] at hc';exact absurd hc' (by decide)
 . refine(hS.moved (wr:=[]) (by simp) (by simp) λb o _ e=>keep b o e).congr λk=>by simp
 . intro s' n'' hm V0
   obtain⟨h',g',d',tk',os'⟩:=s';have eg:g'=s.gens:=hm.gens;have ed:d'=s.drawn:=hm.drawn;have eo:os'=s.os:=hm.os;subst eg;subst ed;subst eo;show wpAny _ _ _ _ _ _;refine aj (h h' tk' n'' (λb o hb e=>?_) V0);refine hm.heap b o ?_ (keep b o e);simp only[cu,qz,Ak,not_or];exact⟨hb,du (az e)⟩
end
theorem Hc{α:Type}:∀{l:List α}{i:Nat}(h:i<l.length),(l[i]::l.eraseIdx i).Perm l
 |x::l,0,_=>yo _
 |x::l,i+1,h=>by
  have ih:=Hc (l:=l) (i:=i) (by simpa using h);simp only[List.getElem_cons_succ,List.eraseIdx_cons_succ];exact(List.Perm.swap x _ _).trans (ih.cons x)
theorem aha{α:Type}(nx:Nat->Nat):∀(fuel k:Nat)(left:List α)(out:Array α),left.length=fuel->(pickOrder.go nx fuel k left out).toList.Perm (out.toList++left)
 |0,k,left,out,h=>by
  have:left=[]:=uo.mp h;subst this;unfold pickOrder.go;simp
 |fuel+1,k,left,out,h=>by
  unfold pickOrder.go;have hq:nx k%left.length<left.length:=Nat.mod_lt _ (by lia)
  rw[bz hq];dsimp only;refine(aha nx fuel (k+1) _ _ (by rw[List.length_eraseIdx];split<;>lia)).trans ?_;rw[Array.toList_push,yf];refine List.Perm.append_left _ ?_;exact Hc hq
def Yo(nx:Nat->Nat)(xs:Array α):(pickOrder nx xs).toList.Perm xs.toList:=by unfold pickOrder;simpa using aha nx xs.size 0 xs.toList #[] (by simp)
theorem V1{α:Type}[DecidableEq α]:∀{l1 l2:List α},l1.Nodup->l1 ⊆ l2->l2.length<=l1.length->∀x∈l2,x∈l1
 |[],l2,_,_,h,x,hx=>by
  have:l2=[]:=uo.mp (by simpa using h);subst this;simp at hx
 |a::l1,l2,hn,hs,h,x,hx=>by
  by_cases e:x=a
  . subst e;exact dh
  . refine bh _ ?_
    have ha:a∈l2:=hs dh;have Om:=mj.mp hn;refine V1 (l2:=l2.erase a) Om.2 (λy hy=>?_) ?_ x ((List.mem_erase_of_ne e).mpr hx)
    . exact(List.mem_erase_of_ne (λ(e:y=a)=>Om.1 (by rw[<- e];exact hy))).mpr (hs (bh _ hy))
    . rw[List.length_erase_of_mem ha];simp at h;omega
def aab:entryFor table "set.__ne__" = some Builtin.«frozenset.__ne__» :=
 entryFor_alias (id' := "frozenset.__ne__") (by kernel_rfl) rfl (by decide+kernel) (by kernel_rfl)
def sub_set_frozenset:isSubtype (.type "set") (.type "frozenset")=pure false:=by rw[isSubtype_type];kernel_rfl
section
variable{prog:Program}{w:World}{K:Type}[DecidableEq K]{knd:KeyKind prog w K}{pk:List K×Addr->Prop}{A:Around}{E:Y1}{s:Shared}
set_option tactic.hygienic true in
def asl(X:Sx knd pk s.heap a xs o es ep t)(h:∀l,l.toList.Perm es.toList->Q l s):wpAny (model prog w) A (setWalk a) Q E s:=by
 unfold setWalk;refine aa (jr X.get X.dat X.tab.fits ?_);dsimp only;refine aa (Vi ?_);split
 . exact aa (wpAny_askSetting (aj (h _ (Yo _ _))))
 . rename_i hb
   have hb:bt w=false:=by simpa using hb
   split
   . rename_i hd
     have hd:(!t.plain&&decide (es.size > 1))=true:=hd;rw[X.pla] at hd;cases hd
   . refine aa ?_
     have:wpAny (model prog w) A (if(!t.led&&decide (es.size > 1))=true then unsupported "set:maker-not-led" else pure ()) (λ_ s'=>wpAny (model prog w) A (pure es) Q E s') E s:=by rw[X.led,hb];simp only[ym,qm,Bool.false_and,dg,jo];exact aj (aj (h es (yo _)))
     exact this
def ajg(hk:IsTupleKey knd s.heap ks a)(h:Q false s):wpAny (model prog w) A (Builtin.Frozenset.quietEq (.ref a)) Q E s:=by
 unfold Builtin.Frozenset.quietEq;refine aa (wpAny_specialOf hk.typeIs F.slot_tuple_eq.lookup ?_);refine aj ?_;have:(some (Value.builtin "tuple.__eq__")==some (Value.builtin "object.__eq__"))=false:=by decide
 rw[this];exact h
def aac(X:Sx knd pk h a xs o es ep t)(he:e∈es.toList):∃x∈xs,e=ent knd x:=by rw[X.ent] at he;obtain⟨x,hx,rfl⟩:=bf.mp he;exact⟨x,hx,rfl⟩
def ajh(X:Sx knd pk s.heap a xs o es ep t)(Y:Sx knd pk s.heap b ys o' es' ep' t')(h:∀l:List (Int×Value),l.Perm es.toList->Q l s):wpAny (model prog w) A (Builtin.Frozenset.walkUnseen a b) Q E s:=by
 unfold Builtin.Frozenset.walkUnseen;refine aa (lg X.get X.dat X.tab.fits ?_);refine aa (lg Y.get Y.dat Y.tab.fits ?_);refine aa ?_;refine rz _ (λrest r s'=>r.1=none/\s'=s/\∀e∈rest,∃ks p,e.2=.ref p/\IsTupleKey knd s.heap ks p) _ ?_ ?_ _ _ ⟨rfl,rfl,λe he=>?_⟩
 . rintro e rest r s' ⟨hr,rfl,Dl⟩
   obtain⟨ks,p,hep,hk⟩:=Dl e dh;obtain⟨h0,x0⟩:=e;subst hep;dsimp only;refine aa (ajg hk ?_);simp only[ym,jy];unfold Builtin.Frozenset.walk;refine aa (aa (asl X λl hl=>aj ?_));exact aj (aj (h _ hl))
 . rintro⟨r1,r2⟩ s' ⟨hr,rfl,_⟩
   simp only at hr;subst hr;exact aj (h _ (yo _))
 . rcases gh.mp he with he|he
   . obtain⟨x,hx,rfl⟩:=aac X he
     exact⟨x.1,x.2,rfl,(X.keys x hx).1⟩
   . obtain⟨x,hx,rfl⟩:=aac Y he
     exact⟨x.1,x.2,rfl,(Y.keys x hx).1⟩
def ayd{id:String}(hu:A.units<cLine)(hS:Cw knd pk s.heap a S n)(hT:Cw knd pk s.heap b T m)(h:∀c:Bool,(c=true↔n<=m/\∀k,S k->T k)->Q c s):wpAny (model prog w) A (Builtin.Frozenset.subsetOf id a b) Q E s:=by
 have hT':=hT;obtain⟨xs,o,es,ep,t,X,hm,hn,_⟩:=hS;obtain⟨ys,o',es',ep',t',Y,hm',Om,_⟩:=hT;have h1:=X.size;have h2:=Y.size;unfold Builtin.Frozenset.subsetOf Builtin.Frozenset.sizeOf;refine aa (aa (lg X.get X.dat X.tab.fits (aj ?_)));refine aa (aa (lg Y.get Y.dat Y.tab.fits (aj ?_)));split
 . exact aj (h false (by simp;lia))
 . refine aa (wpAny_setEpoch_of X.get X.dat X.tab.fits ?_)
   refine aa (ajh X Y λl hl=>?_);refine aa ?_;refine rz _ (λrest r s'=>r.1=none/\s'=s/\(∀e∈rest,∃x∈xs,e=ent knd x)/\∀x∈xs,ent knd x∈rest\/T x.1) _ ?_ ?_ _ _ ⟨rfl,rfl,λe he=>aac X (hl.mem_iff.mp he),λx hx=>.inl (hl.mem_iff.mpr (by rw[X.ent];exact bf.mpr ⟨x,hx,rfl⟩))⟩
   . rintro e rest r s' ⟨hr,rfl,Dl,amb⟩
     obtain⟨x,hx,rfl⟩:=Dl e dh;show wpAny _ _ (holding [.ref x.2] (setFind b (.ref x.2) (tupleKeyHash knd x.1)) >>= _) _ _ _;refine aa (ir (ar9 hu (X.keys x hx).1 hT' λr hr=>?_));cases r with
     |none =>
      simp only[Option.isNone_none,jy];refine aj (aj (h false ?_));simp only[dg,false_iff,not_and,Classical.not_forall];intro _;refine⟨x.1,(hm x.1).mpr (bf.mpr ⟨x,hx,rfl⟩),λhc=>?_⟩;have:=hr.mpr hc;cases this
     |some i =>
      simp only[Option.isNone_some,dg,jo];unfold Builtin.Frozenset.unchanged;refine aa (aa (wpAny_setEpoch_of X.get X.dat X.tab.fits ?_));rw[bx (by simp)];refine aj (aj ⟨rfl,rfl,λe he=>Dl e (bh _ he),λy hy=>?_⟩);rcases amb y hy with hc|hc
      . rcases cu.mp hc with hc|hc
        . right
          have hTx:T x.1:=hr.mp rfl;have e2:y.2=x.2:=by have:=o7 Prod.snd hc;unfold ent at this;injection this
          have:y.1=x.1:=IsTupleKey.inj (X.keys y hy).1 (by rw[e2];exact(X.keys x hx).1);rw[this];exact hTx
        . exact .inl hc
      . exact .inr hc
   . rintro⟨r1,r2⟩ s' ⟨hr,rfl,_,amb⟩
     simp only at hr;subst hr;refine aj (h true ?_);simp only[true_iff];refine⟨by lia,λk hk=>?_⟩;obtain⟨x,hx,rfl⟩:=bf.mp ((hm k).mp hk);rcases amb x hx with hc|hc
     . simp at hc
     . exact hc
set_option tactic.hygienic true in
def a4r(hu:A.in1.units<cLine)(hu0:A.units<cLine)(hS:Cw knd pk s.heap a S n)(hT:Cw knd pk s.heap b T m)(h:∀c:Bool,(c=true↔¬∀k,S k↔T k)->Q (.bool c) s):wpAny (model prog w) A (compareOp .NotEq (.ref a) (.ref b)) Q E s:=by
 show wpAny _ _ (richCompare .NotEq (.ref a) (.ref b)) _ _ _;refine wpAny_richCompare_same_room (op:=.NotEq) hS.typeIs hT.typeIs F.slot_set_ne (jf F.slot_set_ne hS.typeIs aab ?_ (F.args_set_ne_2 _ _)) hu0;have fin:∀c:Bool,(c=true↔∀k,S k↔T k)->Q (.bool !c) s:=λc hc=>h _ (by cases c<;>simp_all)
 have V0:=hS;have hT':=hT;obtain⟨xs,o,es,ep,t,X,hm,hn,_⟩:=V0;obtain⟨ys,o',es',ep',t',Y,hm',Om,_⟩:=hT';have h1:=X.size;have h2:=Y.size;have same:(∀k,S k↔T k)->n=m:=λe=>by
  have:(xs.map (·.1)).Perm (ys.map (·.1)):=(zx X.nod Y.nod).mpr λk=>by rw[<- hm k,<- hm' k];exact e k
  have:=this.length_eq;simp at this;exact u_ (a_ (g_ hn) (a_ (f_ this) (f_ Om))) (a_ (g_ Om) (a_ (g_ this) (f_ hn)))
 have back:n=m->(∀k,S k->T k)->∀k,S k↔T k:=λe hs k=>⟨hs k,λhk=>(hm k).mpr (V1 X.nod (λk hk=>(hm' k).mp (hs k ((hm k).mpr hk))) (by simp;exact a_ (f_ Om) (a_ (g_ e) (g_ hn))) k ((hm' k).mp hk))⟩
 show wpAny _ _ (Builtin.Frozenset.slot1 "__ne__" ⟨[.ref a,.ref b],[]⟩ >>= _) _ _ _;unfold Builtin.Frozenset.slot1 slotArgs;simp only[List.isEmpty_nil,qm,dg,↓reduceIte,bind_assoc,gr,List.length_nil,wj];refine aa (aj ?_)
 try dsimp only
 refine aa (aj ?_)
 try dsimp only
 refine aa (bb0 hT.typeIs ?_);simp only[qm,dg,↓reduceIte];refine aa (m:=Builtin.Frozenset.addrOf (.ref a)) (aj ?_);refine aa (m:=Builtin.Frozenset.addrOf (.ref b)) (aj ?_);unfold Builtin.Frozenset.sizeOf;refine aa (aa (lg X.get X.dat X.tab.fits (aj ?_)));refine aa (aa (lg Y.get Y.dat Y.tab.fits (aj ?_)));refine aa ?_;split
 . rename_i Xy
   refine aj ?_;refine aj ⟨_,rfl,(λe=>nomatch e),fin false ?_⟩;simp only[dg,false_iff];intro e;have:=same e;simp at Xy;lia
 . rename_i Xy
   have hnm:n=m:=by simp at Xy;lia
   refine aa (aa (my hS.typeIs sub_set_frozenset ?_));refine aj ?_;simp only[dg,↓reduceIte];refine ayd hu hS hT λc hc=>?_
   exact aj ⟨_,rfl,(λe=>nomatch e),fin c (hc.trans ⟨λe=>back hnm e.2,λe=>⟨f_ hnm,λk=>(e k).mp⟩⟩)⟩
end
def asm(k:Yk t es)(F:Fst t h N)(room:t.place.size+1<=t.mask) :
 layNew t es h x=(insertAt es (t.put (P t.mask h N).j).2 (h,x),(t.put (P t.mask h N).j).1,false,false):=by
 have e:t.freeSlot h=some ((P t.mask h N).j,false):=by
  unfold freeSlot probe;rw[acg];rcases alx k F (λ_=>h+1) (10*turns t.mask) 0 (j5 _) (by have:=F.lt;exact c_ C_ this) with⟨a,_⟩|⟨m,i,_,_,_,c,_⟩
  . rw[a];rfl
  . lia
 have f:=(k.put (x:=x) F room).fits;unfold layNew;rw[e];show(insertAt es (t.put (P t.mask h N).j).2 (h,x),(t.put (P t.mask h N).j).1.orStandIn (insertAt es (t.put (P t.mask h N).j).2 (h,x)).size,false,!(t.put (P t.mask h N).j).1.fits (insertAt es (t.put (P t.mask h N).j).2 (h,x)).size)=_;unfold orStandIn;rw[cz f,f];rfl
def aji(hm:Msk (sizeAbove wanted-1))(hz:es.size<=sizeAbove wanted-1) :
 ∃es' t',relayAll t es wanted=(es',t',false)/\t'.mask=sizeAbove wanted-1/\Yk t' es'/\es'.toList.Perm es.toList/\t'.led=t.led/\t'.plain=t.plain:=by
 obtain⟨t',order,e,e1,T',p,sz,hl,hp,_,hpm⟩:=ag7 hm t.finger (t.movedTo (sizeAbove wanted-1)) t.led t.plain es hz;have er:t.relaid (es.map (·.1)) wanted=some (t',order):=e;refine⟨order.filterMap (es[·]?),t',?_,e1,T',p,hl,hp⟩;unfold relayAll;rw[er];dsimp only;rw[cz];rw[au];exact⟨by unfold coversAll;exact List.isPerm_iff.mpr hpm,T'.fits⟩
noncomputable def enI(x:Int×Tok):Int×Value:=(hashInt x.1,.int x.1 x.2)
structure Ko(w:World)(h:Heap)(a:Addr)(xs:List (Int×Tok))(o:Obj)(es:Array (Int×Value))(ep:Nat)(t:SetTable):Prop where
 get:h.get? a=some o
 exa:o.ExactSet
 dat:o.data=.set es ep t
 tab:Yk t es
 ent:es.toList=xs.map enI
 nod:(xs.map (·.1)).Nodup
 led:t.led=!bt w
 pla:t.plain=true
def Eg(w:World)(h:Heap)(a:Addr)(S:Int->Prop)(n:Nat):Prop:=∃xs o es ep t,Ko w h a xs o es ep t/\(∀k,S k↔k∈xs.map (·.1))/\xs.length=n/\t.place.size*5<t.mask*3
theorem Ko.size(X:Ko w h a xs o es ep t):es.size=xs.length:=by have:=o7 List.length X.ent;simpa using this
def Ko.elems(X:Ko w h a xs o es ep t):ElemsOf (intKind prog w) es.toList:=λe he=>by rw[X.ent] at he;obtain⟨x,_,rfl⟩:=bf.mp he;exact⟨⟨x.1,by simp[enI,intKind,Value.isInt],rfl⟩,rfl⟩
def a4s(X:Ko w h a xs o es ep t)(T':Yk t' es')(he:es'.toList=xs'.map enI)(hn:(xs'.map (·.1)).Nodup)(hl:t'.led=!bt w)(hp:t'.plain=true) :
 Ko w (h.update a (Obj.putSet es' t')) a xs' { o with data:=.set es' (ep+1) t' } es' (ep+1) t':=by
 have hg:(h.update a (Obj.putSet es' t')).get? a=some { o with data:=.set es' (ep+1) t' }:=by have:=o8 (Obj.putSet es' t') X.get (by rw[putSet_of es' t' X.dat];rfl);rw[putSet_of es' t' X.dat] at this;exact this
 exact⟨hg,X.exa,rfl,T',he,hn,hl,hp⟩
theorem Eg.get(hS:Eg w h a S n):∃o es ep t,h.get? a=some o/\o.ExactSet/\o.data=.set es ep t/\t.fits es.size=true :=
 let ⟨_,o,es,ep,t,X,_⟩:=hS;⟨o,es,ep,t,X.get,X.exa,X.dat,X.tab.fits⟩
def Eg.congr(hS:Eg w h a S n)(e:∀k,S k↔S' k):Eg w h a S' n :=
 let ⟨xs,o,es,ep,t,X,hm,r⟩:=hS;⟨xs,o,es,ep,t,X,λk=>(e k).symm.trans (hm k),r⟩
def Eg.moved(hS:Eg w h a S n)(hm:∀o,h.get? a=some o->h'.get? a=some o):Eg w h' a S n :=
 let ⟨xs,o,es,ep,t,X,r⟩:=hS
 ⟨xs,o,es,ep,t,⟨hm o X.get,X.exa,X.dat,X.tab,X.ent,X.nod,X.led,X.pla⟩,r⟩
def amd(hg:h.get? a=some (Ai w)):Eg w h a (λ_=>False) 0 :=
 ⟨[],Ai w,#[],0,_,⟨hg,⟨rfl,rfl,rfl⟩,rfl,⟨.inl rfl,rfl,rfl,λi j a b e=>by simp[SetTable.fresh] at e,λi j e=>by simp[SetTable.fresh] at e,by simp[SetTable.fresh],λi j e a=>by simp[SetTable.fresh] at a⟩,
  rfl,xg,rfl,rfl⟩,λk=>by simp,rfl,by simp[SetTable.fresh]⟩
def asn(hS:Eg w s.heap a S n)(hn:n+1<32)(h:∀h' n' b,Heap.SameBut a s.heap h'->Eg w h' a (λk'=>S k'\/k'=k) n'->n'<=n+1->Q b { s with heap:=h' }) :
 wpAny (model prog w) A (setAddHashed a (.int k tk) (hashInt k)) Q E s:=by
 obtain⟨xs,o,es,ep,t,X,hm,hl,nf⟩:=hS;obtain⟨N,F⟩:=X.tab.fst (hashInt k);have hsz:=X.size;have hel:=X.elems (prog:=prog);have ayf:(intKind prog w).is k (.int k tk)=true:=by simp[intKind,Value.isInt]
 unfold setAddHashed setAddHashedIn;refine ir (aa (jr X.get X.dat X.tab.fits ?_));dsimp only;rw[byScan_of (knd:=intKind prog w) (x:=.int k tk) rfl (by unfold scanBound;lia) hel];simp only[↓reduceIte];unfold setAddByScan;refine aa ?_;refine aa (wpAny_rule ?_);refine aa (wpAny_setScan_of (knd:=intKind prog w) (k:=k) ayf X.get X.dat X.tab.fits hel ?_);cases hr:List.findIdx? (λe=>(intKind prog w).is k e.2) es.toList with
 |some j =>
  dsimp only;obtain⟨hj,hpj,_⟩:=qg.mp hr;have hSk:S k:=by
   obtain⟨x,hx,ex⟩:∃x∈xs,enI x=es.toList[j]:=by have Ie:=ph hj;generalize es.toList[j]=e at Ie;rw[X.ent] at Ie;exact bf.mp Ie
   have hp2:(intKind prog w).is k (enI x).2=true:=by rw[ex];exact hpj
   refine(hm k).mpr (bf.mpr ⟨x,hx,?_⟩);have:(intKind prog w).is x.1 (enI x).2=true:=by simp[enI,intKind,Value.isInt]
   exact(intKind prog w).inj _ _ _ this hp2
  refine aj (aj ?_);have:=h s.heap n false (Heap.SameBut.refl a s.heap) ⟨xs,o,es,ep,t,X,λk'=>by
   rw[<- hm k'];exact⟨λh=>h.elim id (λe=>e▸hSk),.inl⟩,hl,nf⟩ x_
  exact this
 |none =>
  dsimp only;have hno:∀x∈xs,x.1≠k:=λx hx e=>by have:=uz.mp hr (enI x) (by rw[X.ent];exact bf.mpr ⟨x,hx,rfl⟩);subst e;simp[enI,intKind,Value.isInt] at this
  have room:t.place.size+1<=t.mask:=by have:=X.tab.msk;rcases this with e|e|e|e|e<;>lia
  have T':=X.tab.put (x:=.int k tk) F room;rw[asm X.tab F room];have Ib:(t.put (P t.mask (hashInt k) N).j).1.plain=true:=X.pla;have hld:(t.put (P t.mask (hashInt k) N).j).1.led=!bt w:=X.led;obtain⟨xs',ex,px⟩:=Dm (f:=enI) (insertAt_perm es (t.put (P t.mask (hashInt k) N).j).2 (hashInt k,.int k tk)) (xs:=xs++[(k,tk)]) (by rw[Array.toList_push,X.ent,ud];rfl);have pm:=px.map (·.1);have hnd:(xs'.map (·.1)).Nodup:=pm.nodup_iff.mpr (by
   rw[ud,yh];refine⟨X.nod,by simp,λa ha b hb=>?_⟩;simp at hb;subst hb;rintro rfl;obtain⟨x,hx,e⟩:=bf.mp ha;exact hno x hx e)
  have hX:=a4s X T' ex hnd hld Ib;have Ie:∀k',(S k'\/k'=k)↔k'∈xs'.map (·.1):=λk'=>by rw[pm.mem_iff,ud,gh,hm k'];simp
  have hlen:xs'.length=n+1:=by rw[px.length_eq];simp[hl]
  have hes:(insertAt es (t.put (P t.mask (hashInt k) N).j).2 (hashInt k,Value.int k tk)).size=es.size+1:=Mj _ _ _;have al6:(t.put (P t.mask (hashInt k) N).j).1.place.size=es.size+1:=by rw[T'.Yl,hes]
  have hf:(t.put (P t.mask (hashInt k) N).j).1.fill=es.size+1:=by unfold fill;rw[al6,T'.dum];rfl
  generalize insertAt es (t.put (P t.mask (hashInt k) N).j).2 (hashInt k,Value.int k tk)=es1 at *;generalize(t.put (P t.mask (hashInt k) N).j).1=t1 at *;dsimp only;refine aa (aj ?_);rw[Ib];simp only[jy];refine aa ?_;rw[hashByValue_scannable 8 (x:=.int k tk) rfl];refine aj ?_;have ep1:plainKind (.int k tk)=true:=rfl;simp only[ep1,jy];refine aa (wpAny_storeSet_of X.get X.dat ?_ (Jr (by lia)))
  by_cases htf:t1.tooFull=true
  . rw[htf]
    simp only[ym,Bool.and_self,jy];obtain⟨g1,g2,g3,g4,g5⟩:=Yn (es.size+1) (c_ (v_ (f_ hsz)) (c_ (v_ (f_ hl)) hn));obtain⟨es2,t2,e2,m2,T2,p2,l2,q2⟩:=aji (t:=t1) (es:=es1) (wanted:=grown (es.size+1)) g1 (a_ (f_ hes) g2);rw[hes,e2];dsimp only;refine aa (aj ?_);obtain⟨xs2,ex2,px2⟩:=Dm p2 ex;have hX2:=a4s hX T2 ex2 ((px2.map _).nodup_iff.mpr hnd) (l2.trans hld) (q2.trans Ib);have hz2:es2.size=es.size+1:=by have:=p2.length_eq;simp at this;exact this.trans hes
    refine aa (wpAny_storeSet_of hX.get rfl ?_ (Jr (a_ (f_ hz2) (a_ g2 (a_ C_ g5)))));refine aj (aj (h _ (n+1) true ((km s.heap a _).trans (km _ a _)) ⟨xs2,_,es2,_,t2,hX2,λk'=>?_,by rw[px2.length_eq,hlen],?_⟩ (bw _)))
    . exact(Ie k').trans (px2.map (·.1)).mem_iff.symm
    . rw[T2.Yl,m2,hz2];exact t_ g4
  . rw[Bool.not_eq_true] at htf
    rw[htf];simp only[Bool.and_false,dg,jo];refine aj (aj (h _ (n+1) true (km s.heap a _) ⟨xs',_,_,_,_,hX,Ie,hlen,?_⟩ (bw _)));unfold tooFull at htf;rw[hf] at htf;rw[al6];simp at htf;exact htf
def ame{I:Addr}{P:Nat->Value->Prop}(W:WalksS prog w A.in1 I fp wr G n P St)(a:Addr)(haf:a∉fp)(ks:Xs)(hkl:ks.length=n)(ax9:∀i v x,P i v->ks[i]?=some x->∃tk,v=.int x tk)(hb:n<31) :
 ∀(k i n':Nat)(s:Shared),n-i=k->i<=n->St i s ->
  Eg w s.heap a (λk'=>k'∈ks.take i) n'->n'<=i ->
  (∀s' n'',Moved (a::wr) G s s'->Eg w s'.heap a (λk'=>k'∈ks) n''->n''<=n->R (.ok (.ret .none)) s') ->
  codeAny (model prog w) A (.builtin "set.update.loop" ⟨[.ref a,.ref I],[]⟩) R s:=by
 have haw:a∉wr:=λh=>haf (W.sub _ h)
 have Z9:∀b∈wr,b∈a::wr:=λb hb=>bh _ hb
 intro k
 induction k with
 |zero =>
  intro i n' s hk hi Vh hS Om hR;have X5:i=n:=by lia
  subst X5;refine m7 rm ?_;rw[j8 lq _];show wpAny _ A.in1 (pyNext (.ref I) >>= _) _ _ s;refine aa (W.done s _ _ Vh λs' hm=>?_);show wpAny _ A.in1 (ret Value.none) _ _ s';refine aj (hR s' n' (hm.mono Z9) ((hS.moved λo=>hm.heap a o haw).congr λk=>?_) Om);rw[zb (f_ hkl)]
 |succ k ih =>
  intro i n' s hk hi Vh hS Om hR;have Hb:i<n:=by lia
  refine m7 rm ?_;rw[j8 lq _];show wpAny _ A.in1 (pyNext (.ref I) >>= _) _ _ s;refine aa (W.item i s _ _ Hb Vh λv s' hP aya hm=>?_);have lx:i<ks.length:=b_ Hb (g_ hkl)
  have hgx:ks[i]?=some ks[i]:=by simp[lx]
  obtain⟨tk,rfl⟩:=ax9 i v _ hP hgx;have V0:=hS.moved λo=>hm.heap a o haw
  show wpAny _ A.in1 (holding [Value.int ks[i] tk] (setAdd a (.int ks[i] tk)) >>= _) _ _ s';refine aa (ir ?_);unfold setAdd;refine ir ?_;refine aa (wpAny_pyHash_int ?_);refine asn (s:={ s' with toks:=s'.toks+1 }) V0 (by lia) λh' n2 b hsb hS2 hn2=>?_
  refine aj ⟨plainId_quiet lq _,ih (i+1) n2 _ (by lia) Hb (W.frame _ s' _ _ aya (w6 _ _) λb hb o e=>?_) (hS2.congr λk=>?_) (a_ hn2 (v_ Om)) λs'' n3 ayb al9 hn3=>?_⟩
  . rw[hsb.2 b (λh:b=a=>haf (by rw[<- h];exact hb))];exact e
  . rw[List.take_add_one,gh,hgx];simp
  . refine hR s'' n3 (Moved.trans W.gtrans ((hm.mono Z9).then_heap (w6 _ _) λb o hb e=>?_) ayb) al9 hn3
    rw[hsb.2 b (λh:b=a=>hb (by rw[h];exact dh))];exact e
def ajj{id:String}(hh:A.handled=none)(hS:Eg w s.heap a (λ_=>False) 0)(hl:s.heap.IsList l items)(hit:PyProof.Rows.IntsAre items.toList ks)(hlen:ks.length<31)(h:∀h' tk n',(∀b o,b≠a->s.heap.get? b=some o->h'.get? b=some o)->Eg w h' a (λk=>k∈ks) n'->n'<=ks.length->Q () { s with heap:=h',toks:=tk }) :
 wpAny (model prog w) A (Builtin.Frozenset.updateFrom id a (.ref l)) Q E s:=by
 have hT:s.TypeIs (.ref l) "list" := let ⟨o,ho,hc,_⟩:=hl;⟨o,ho,hc⟩;have hsz:items.size=ks.length:=by rw[<- tu];exact PyProof.Rows.IntsAre.length hit
 obtain⟨oa,esa,epa,ta,hga,hca,hda,hfa⟩:=hS.get;unfold Builtin.Frozenset.updateFrom;refine aa (Gw hT F.sub_list_set F.sub_list_frozenset ?_);simp only[dg,jo];refine aa (qx hT ?_);rw[bx (by decide)];refine aa (v9 hl ?_);refine aa (wpAny_runValue ?_);have Hb:l<s.heap.objs.size:=let ⟨o,ho,_⟩:=hl;az ho
 have hat:a<s.heap.objs.size:=az hga
 have hla:l≠a:=by rintro rfl;obtain⟨o,ho,_,n,hd⟩:=hl;rw[ho] at hga;cases hga;rw[hd] at hda;cases hda
 have ayc:l≠s.heap.objs.size:=du Hb;have haf:a∉[s.heap.objs.size,l]:=by simp only[cu,qz,Ak,not_or];exact⟨du hat,λe=>hla e.symm⟩
 have keep:∀b o,s.heap.get? b=some o->(s.heap.push { cls:=.type "list_iterator",data:=.fields #[.ref l,.int 0 0] }).get? b=some o:=λb o e=>ao _ e
 refine ame ((Walks.list (by simp[hh]) _ l ayc items).toS) a haf ks hsz.symm (λi v x hv hx=>?_) (c_ (f_ hsz) hlen) items.size 0 0 _ rfl (j5 _)
  ⟨⟨_,bu _ rfl,rfl,rfl⟩,hl.push _⟩ ?_ (bw _) ?_
 . obtain⟨tk,e⟩:=PyProof.Rows.IntsAre.int_at hit i v (by rw[m6];exact hv)
   rw[bc,hx] at e;exact⟨tk,e⟩
 . refine(hS.moved λo e=>keep a o e).congr λk=>by simp
 . intro s' n'' hm V0 a4o
   obtain⟨h',g',d',tk',os'⟩:=s';have eg:g'=s.gens:=hm.gens;have ed:d'=s.drawn:=hm.drawn;have eo:os'=s.os:=hm.os;subst eg;subst ed;subst eo;show wpAny _ _ _ _ _ _;refine aj (h h' tk' n'' (λb o hb e=>?_) V0 (a_ a4o (f_ hsz)));refine hm.heap b o ?_ (keep b o e);simp only[cu,qz,Ak,not_or];exact⟨hb,du (az e)⟩
def ajk(hh:A.handled=none)(hl:s.heap.IsList l items)(hit:PyProof.Rows.IntsAre items.toList ks)(hlen:ks.length<31)(h:∀h' tk n',(∀b o,s.heap.get? b=some o->h'.get? b=some o)->Eg w h' s.heap.objs.size (λk=>k∈ks) n'->n'<=ks.length->Q (.ref s.heap.objs.size) { s with heap:=h',toks:=tk }) :
 wpAny (model prog w) A (call (.type "set") [.ref l]) Q E s:=by
 refine Ml (R:=λs'=>∃h' tk n',s'={ s with heap:=h',toks:=tk }/\(∀b o,s.heap.get? b=some o->h'.get? b=some o)/\Eg w h' s.heap.objs.size (λk=>k∈ks) n'/\n'<=ks.length)
  (ajj (s:={ s with heap:=s.heap.push (Ai w) }) (by simp[hh]) (amd (bu _ rfl)) (hl.push _) hit hlen λh' tk n' hk V0 Om=>⟨h',tk,n',rfl,λb o e=>hk b o (du (az e)) (ao _ e),V0,Om⟩)
  λs' ⟨h',tk,n',e,hk,V0,Om⟩=>by subst e;exact h h' tk n' hk V0 Om
def V2:entryFor table "set.__iter__" = some Builtin.«frozenset.__iter__» :=
 entryFor_alias (id' := "frozenset.__iter__") (by kernel_rfl) rfl (by decide+kernel) (by kernel_rfl)
def Bc:Slot "set_iterator" "__next__" "set_iterator.__next__" :=
 .of (owner := "set_iterator") (n := "__next__") (by rw[typeLookup_type,builtinLookup_eq_fast];kernel_rfl) (by decide+kernel) (by decide+kernel) (by decide+kernel)
  (by first|exact .inl (by decide+kernel)|exact .inr (by decide+kernel)) (by rw[isSubtype_type];kernel_rfl)
def K8:Slot "set_iterator" "__iter__" "set_iterator.__iter__" :=
 .of (owner := "set_iterator") (n := "__iter__") (by rw[typeLookup_type,builtinLookup_eq_fast];kernel_rfl) (by decide+kernel) (by decide+kernel) (by decide+kernel)
  (by first|exact .inl (by decide+kernel)|exact .inr (by decide+kernel)) (by rw[isSubtype_type];kernel_rfl)
def Js:entryFor table "set_iterator.__next__" = some Builtin.«set_iterator.__next__»:=entryFor_of_fast (by kernel_rfl)
def S8:entryFor table "set_iterator.__iter__" = some Builtin.«dict_keyiterator.__iter__» :=
 entryFor_alias (id' := "dict_keyiterator.__iter__") (by kernel_rfl) rfl (by decide+kernel) (by kernel_rfl)
def K9(a:Value):argsOk "set_iterator.__next__" ⟨[a],[]⟩:=by unfold argsOk;kernel_rfl
def U9(a:Value):argsOk "set_iterator.__iter__" ⟨[a],[]⟩:=by unfold argsOk;kernel_rfl
def afj(hs:Srt xs):below xs 0=0:=by
 obtain⟨h1,h2,h3⟩:=Ej (j:=0) hs;rcases Nat.eq_zero_or_pos (below xs 0) with e|e
 . exact e
 . have l:0<xs.size:=b_ e h1
   have:=h2 0 xs[0] (by simp[l]) e
   lia
def afk(hs:Srt xs)(h:xs[i]?=some j):below xs (j+1)=i+1:=by
 obtain⟨h1,h2,h3⟩:=Ej (j:=j+1) hs;have a1:i<below xs (j+1):=by
  rcases Bb i (below xs (j+1)) with l|l
  . exact l
  . have:=h3 i j h l;lia
 have a2:¬i+1<below xs (j+1):=λl=>by
  have l2:i+1<xs.size:=b_ l h1
  have e2:xs[i+1]?=some xs[i+1]:=by simp[l2]
  have:=h2 (i+1) _ e2 l;have:=hs i (i+1) j _ h e2 B_
  lia
 exact u_ (s_ a2) a1
noncomputable def wkN(w:World)(a:Addr)(es:Array (Int×Value))(ep:Nat):Array (Int×Value):=if bt w then pickOrder (w.params.setOrder a ep) es else es
def acn:(wkN w a es ep).toList.Perm es.toList:=by
 unfold wkN;split
 . exact Yo _ _
 . exact yo _
def V3:(wkN w a es ep).size=es.size:=by have:=(acn (w:=w) (a:=a) (es:=es) (ep:=ep)).length_eq;simpa using this
noncomputable def itN(a:Addr)(slot i n ep:Nat):Obj:={ cls:=.type "set_iterator",data:=.fields #[.int slot 0,.int i 0,.ref a,.int n 0,.int ep 0] }
set_option tactic.hygienic true in
def aw3(X:Ko w s.heap a xs o es ep t){slot:Nat}(hb:bt w=false->below t.place slot=i)(hs:∀e sl,(wkN w a es ep)[i]?=some e->(bt w=false->below t.place sl=i+1)->Q (some (e.2,sl)) s)(hn:(wkN w a es ep)[i]?=none->Q none s) :
 wpAny (model prog w) A (setNext a slot i ep) Q E s:=by
 unfold setNext;refine aa (jr X.get X.dat X.tab.fits ?_);dsimp only;refine aa (Vi ?_);cases hbt:bt w with
 |true =>
  simp only[jy,wj,dg,jo];refine aa ?_;unfold setWalk;refine aa (jr X.get X.dat X.tab.fits ?_);dsimp only;refine aa (Vi ?_);rw[hbt];simp only[jy];refine aa (wpAny_askSetting (aj (aj ?_)));have ew:wkN w a es ep=pickOrder (w.params.setOrder a ep) es:=by unfold wkN;rw[hbt];rfl
  show Q (((pickOrder (w.params.setOrder a ep) es)[i]?).map _) s;rw[<- ew];cases hg:(wkN w a es ep)[i]? with
  |none=>exact hn hg|some e=>exact hs e slot hg (λc=>by rw[hbt] at c;cases c)
 |false =>
  have ew:wkN w a es ep=es:=by unfold wkN;rw[hbt];rfl
  simp only[dg,jo];split
  . rename_i hd
    have hd:(!t.plain&&decide (es.size > 1))=true:=hd;rw[X.pla] at hd;cases hd
  . refine aa ?_
    have fin:Q (match es[below t.place slot]?,t.place[below t.place slot]? with|some (_,x),some j=>some (x,j+1)|_,_=>none) s:=by
     rw[hb hbt];cases hg:es[i]? with
     |none=>exact hn (by rw[ew];exact hg)
     |some e =>
      have li:i<t.place.size:=by rw[X.tab.Yl];exact(jn.mp hg).1
      have hp:t.place[i]?=some t.place[i]:=by simp[li]
      rw[hp];exact hs e _ (by rw[ew];exact hg) (λ_=>afk X.tab.srt hp)
    have:wpAny (model prog w) A (if(!t.led&&!es.isEmpty)=true then unsupported "set:maker-not-led" else pure ()) (λ_ s'=>wpAny (model prog w) A (pure (match es[below t.place slot]?,t.place[below t.place slot]? with|some (_,x),some j=>some (x,j+1)|_,_=>none)) Q E s') E s:=by rw[X.led,hbt];simp only[ym,qm,Bool.false_and,dg,jo];exact aj (aj fin)
    exact this
set_option tactic.hygienic true in
def amf{I:Addr}(X:Ko w s.heap a xs o es ep t){slot:Nat}(hI:s.heap.get? I=some (itN a slot i es.size ep))(hb:bt w=false->below t.place slot=i)(he:(wkN w a es ep)[i]?=some e)(hQ:∀h' sl,h'.get? I=some (itN a sl (i+1) es.size ep)->(bt w=false->below t.place sl=i+1)->Heap.SameBut I s.heap h'->Q (some e.2) { s with heap:=h' }) :
 wpAny (model prog w) A (pyNext (.ref I)) Q E s:=by
 have hT:s.TypeIs (.ref I) "set_iterator" := ⟨_,hI,rfl⟩;unfold pyNext;refine aa (wpAny_attempt (jw (name:=Str.ofString "__next__") hT Bc
  (jf Bc hT Js ?_ (K9 _))))
 unfold Builtin.«set_iterator.__next__»;refine aa (m:=slotArgs "__next__" 0 _) (aj ?_);refine aa (wpAny_fieldsOf hI rfl ?_);show wpAny _ _ (setEntries a >>= _) _ _ s;refine aa (lg X.get X.dat X.tab.fits ?_);rw[wj];simp only[dg,jo];show wpAny _ _ (setNext a slot i ep >>= _) _ _ s;refine aa (aw3 X hb (λe' sl he' hsl=>?_) (λhn=>by rw[hn] at he;cases he));rw[he'] at he;cases he;dsimp only;refine aa (iw hI (by simp) λh1 g1 sb1=>?_);refine aa (iw (s:={ s with heap:=h1 }) g1 (by simp) λh2 g2 sb2=>?_);exact aj ⟨_,rfl,aj (hQ h2 sl (by rw[g2];rfl) hsl (sb1.trans sb2))⟩
set_option tactic.hygienic true in
def aso{I:Addr}(hh:A.handled=none)(X:Ko w s.heap a xs o es ep t){slot:Nat}(hI:s.heap.get? I=some (itN a slot i es.size ep))(hb:bt w=false->below t.place slot=i)(he:(wkN w a es ep)[i]?=none)(hQ:∀h',Heap.ExtBut I s.heap h'->Q none { s with heap:=h' }) :
 wpAny (model prog w) A (pyNext (.ref I)) Q E s:=by
 have hT:s.TypeIs (.ref I) "set_iterator" := ⟨_,hI,rfl⟩;unfold pyNext;refine aa (wpAny_attempt (jw (name:=Str.ofString "__next__") hT Bc
  (jf Bc hT Js ?_ (K9 _))))
 unfold Builtin.«set_iterator.__next__»;refine aa (m:=slotArgs "__next__" 0 _) (aj ?_);refine aa (wpAny_fieldsOf hI rfl ?_);show wpAny _ _ (setEntries a >>= _) _ _ s;refine aa (lg X.get X.dat X.tab.fits ?_);rw[wj];simp only[dg,jo];show wpAny _ _ (setNext a slot i ep >>= _) _ _ s;refine aa (aw3 X hb (λe' sl he' hsl=>by rw[he'] at he;cases he) (λhn=>?_));dsimp only;refine aa (iw hI (by simp) λh1 g1 sb1=>?_);show wpAny _ _ (newExc (.type "StopIteration") [] >>= _) _ _ _;refine aa ?_;simp only[newExc,newTuple];refine aa (jk ?_ (by size_fits));refine aa (m:=firstArgMember _ _) (wpAny_of_eq (a:=Value.none) (by first|rfl|(simp only[firstArgMember];rfl)) ?_);refine jk ?_ (by size_fits);simp only[raiseNew];refine aa (wpAny_handled ?_);rw[show A.in1.handled=none from hh];refine aa (aj (wpAny_throw ?_));refine aa (my (T := "StopIteration") (b:=true) ⟨_,bu _ rfl,rfl⟩ isSubtype_stop ?_);exact aj (hQ _ ((sb1.extBut.push _).push _))
def ItS(w:World)(a I:Addr)(xs:List (Int×Tok))(o:Obj)(es:Array (Int×Value))(ep:Nat)(t:SetTable)(i:Nat)(h:Heap):Prop :=
 Ko w h a xs o es ep t/\∃slot,h.get? I=some (itN a slot i es.size ep)/\(bt w=false->below t.place slot=i)
def Ko.at(X:Ko w h a xs o es ep t)(e:h'.get? a=some o):Ko w h' a xs o es ep t:=⟨e,X.exa,X.dat,X.tab,X.ent,X.nod,X.led,X.pla⟩
theorem Walks.bb8{I:Addr}(hh:A.handled=none)(Xy:a≠I)(xs:List (Int×Tok))(o:Obj)(es:Array (Int×Value))(ep:Nat)(t:SetTable) :
 Walks prog w A I [I,a] [I] es.size (λi v=>((wkN w a es ep)[i]?).map (·.2)=some v) (ItS w a I xs o es ep t) where
 sub:=λb hb=>by simp at hb;simp[hb]
 frame:=λ_ _ _ st hk=>⟨st.1.at (hk a (by simp) o st.1.get),let ⟨sl,e,r⟩:=st.2;⟨sl,hk I (by simp) _ e,r⟩⟩
 item:=λi s Q E hi st hQ=>by
  obtain⟨X,slot,hI,hb⟩:=st;have he:(wkN w a es ep)[i]?=some ((wkN w a es ep)[i]'(by rw[V3];exact hi)):=by simp[V3,hi]
  refine amf X hI hb he λh' sl g r sb=>hQ _ h' s.toks (by rw[he];rfl) ⟨X.at ((sb.2 a Xy).trans X.get),sl,g,r⟩ λb o hb e=>(sb.2 b (λh=>hb (by simp[h]))).trans e
 done:=λs Q E st hQ=>by obtain⟨X,slot,hI,hb⟩:=st;exact aso hh X hI hb (by simp[V3]) λh' he'=>hQ h' s.toks λb o hb e=>he' b o (λh=>hb (by simp[h])) e
 self:=λ_ s _ _ st hQ=>by obtain⟨X,slot,hI,hb⟩:=st;have hT:s.TypeIs (.ref I) "set_iterator" := ⟨_,hI,rfl⟩;refine wpAny_pyIter_slot hT K8 (jf K8 hT S8 ?_ (U9 _));show wpAny _ _ (ret (.ref I)) _ _ s;exact aj ⟨_,rfl, "set_iterator",_,hT,Bc.lookup,hQ⟩
def a4v(X:Ko w s.heap a xs o es ep t)(hQ:Q (.ref s.heap.objs.size) { s with heap:=s.heap.push (itN a 0 0 es.size ep) }):wpAny (model prog w) A (pyIter (.ref a)) Q E s:=by
 have hT:s.TypeIs (.ref a) "set" := ⟨o,X.get,X.exa.1⟩;refine wpAny_pyIter_slot hT F.slot_set_iter (jf F.slot_set_iter hT V2 ?_ (F.args_set_iter_1 _));unfold Builtin.«frozenset.__iter__» Builtin.Frozenset.slot0 slotArgs;simp only[List.isEmpty_nil,qm,dg,↓reduceIte,bind_assoc,List.length_nil,wj];unfold Builtin.Frozenset.addrOf Builtin.Frozenset.sizeOf;refine aa (aj ?_)
 try dsimp only
 refine aa (aj ?_);refine aa (aa (lg X.get X.dat X.tab.fits (aj ?_)));refine aa ?_;unfold setDrawn;refine aa (jr X.get X.dat X.tab.fits ?_);dsimp only;refine aa (Vi (aj ?_));have hd:(!bt w&&(!t.plain&&decide (es.size > 1)))=false:=by rw[X.pla];simp
 show wpAny _ _ (if(!bt w&&(!t.plain&&decide (es.size > 1)))=true then _ else _) _ _ s;rw[hd];simp only[dg,jo];refine aa (aj (aa (wpAny_setEpoch_of X.get X.dat X.tab.fits ?_)));exact aa (jk (aj ⟨_,rfl, "set_iterator",_,⟨_,bu _ rfl,rfl⟩,Bc.lookup,hQ⟩))
def a4w(hT:s.TypeIs (.ref a) "set")(h:Q false s):wpAny (model prog w) A (Builtin.List.listLengthHint (.ref a)) Q E s:=by
 unfold Builtin.List.listLengthHint;refine aa (wpAny_specialOf hT F.slot_set_len.lookup ?_)
 (generalize hid:("set.__len__" : String)=id0;(fail_if_success (clear hid id0));wp_delta;rw[show splitId id0=some ("set", "__len__") from by subst hid;decide+kernel];subst hid)
 refine aa (my (b:=true) hT sub_set_self ?_);refine aa (qx hT ?_);exact aj h
def amg(hh:A.handled=none)(X:Ko w s.heap a xs o es ep t)(hz:es.size<=sizeLine)(h:∀h' tk acc,(∀b o,s.heap.get? b=some o->h'.get? b=some o)->s.heap.objs.size<=h'.objs.size->ItemsOf (λi v=>((wkN w a es ep)[i]?).map (·.2)=some v) acc es.size->Q acc.toList { s with heap:=h',toks:=tk }) :
 wpAny (model prog w) A (collect (.ref a)) Q E s:=by
 have Hb:a<s.heap.objs.size:=az X.get
 have hSa:s.heap.objs.size≠a:=u0 Hb;unfold collect;refine aa (wpAny_runValue (m7 F.entry_proto_collect ?_));rw[j8 F.plain_proto_collect _];show wpAny _ A.in1 (newList [] >>= λl=>again (.builtin "list.__iadd__" ⟨[l,.ref a],[]⟩)) _ _ s;refine aa (jk ?_);refine aj ⟨plainId_quiet F.plain_list_iadd _,m7 F.entry_list_iadd ?_⟩;rw[j8 F.plain_list_iadd _];have X1:Ko w (s.heap.push { cls:=.type "list",data:=.seq ([]:Zl).toArray }) a xs o es ep t:=X.at (ao _ X.get);have hT1:Shared.TypeIs { s with heap:=s.heap.push { cls:=.type "list",data:=.seq ([]:Zl).toArray } } (.ref a) "set" := ⟨o,X1.get,X1.exa.1⟩;have h1:Builtin.List.listSameRef (.ref s.heap.objs.size) (.ref a)=false:=by simp[Builtin.List.listSameRef,hSa]
 show wpAny _ A.in1 (Builtin.List.listExtendWith (.ref s.heap.objs.size) (.ref a) (.ref s.heap.objs.size)) _ _ _;unfold Builtin.List.listExtendWith;refine aa (qx hT1 ?_);rw[bx (by rw[h1];decide)];refine aa (a4v (s:={ s with heap:=s.heap.push { cls:=.type "list",data:=.seq ([]:Zl).toArray } }) X1 ?_);have sz1:(s.heap.push { cls:=.type "list",data:=.seq ([]:Zl).toArray }).objs.size=s.heap.objs.size+1:=ik ..;show wpAny _ A.in1 (holding [.ref (s.heap.push { cls:=.type "list",data:=.seq ([]:Zl).toArray }).objs.size] (Builtin.List.listLengthHint (.ref a)) >>= _) _ _ { s with heap:=(s.heap.push { cls:=.type "list",data:=.seq ([]:Zl).toArray }).push (itN a 0 0 es.size ep) };have gI:((s.heap.push { cls:=.type "list",data:=.seq ([]:Zl).toArray }).push (itN a 0 0 es.size ep)).get? (s.heap.push { cls:=.type "list",data:=.seq ([]:Zl).toArray }).objs.size=some (itN a 0 0 es.size ep):=bu _ rfl;have gS:((s.heap.push { cls:=.type "list",data:=.seq ([]:Zl).toArray }).push (itN a 0 0 es.size ep)).get? s.heap.objs.size=some { cls:=.type "list",data:=.seq ([]:Zl).toArray }:=ao _ (bu _ rfl);have ayg:∀b o,s.heap.get? b=some o->((s.heap.push { cls:=.type "list",data:=.seq ([]:Zl).toArray }).push (itN a 0 0 es.size ep)).get? b=some o:=λb o e=>ao _ (ao _ e)
 have gsz:s.heap.objs.size<=((s.heap.push { cls:=.type "list",data:=.seq ([]:Zl).toArray }).push (itN a 0 0 es.size ep)).objs.size:=by rw[ik,sz1];exact a_ x_ x_
 generalize(s.heap.push { cls:=.type "list",data:=.seq ([]:Zl).toArray }).push (itN a 0 0 es.size ep)=hp at *;rw[sz1] at gI ⊢;have X2:Ko w hp a xs o es ep t:=X.at (ayg a o X.get);refine aa (ir (a4w ⟨o,X2.get,X2.exa.1⟩ ?_));rw[cz (by decide+kernel)];refine aa (wpAny_rule ?_);refine aa ?_;show wpAny _ A.in1 (updateSeq s.heap.objs.size (·.push .none) >>= λ_=>updateSeq s.heap.objs.size (·.pop)) _ _ _;refine aa (wpAny_updateSeq gS rfl ?_);have hS₂:=o8 (Obj.mapSeq (·.push Value.none)) gS rfl;refine wpAny_updateSeq (hz:=by seq_fits) hS₂ rfl ?_;have hS₃:=o8 (Obj.mapSeq (·.pop)) hS₂ rfl;have oth:∀b o,b≠s.heap.objs.size->hp.get? b=some o->((hp.update s.heap.objs.size (Obj.mapSeq (·.push Value.none))).update s.heap.objs.size (Obj.mapSeq (·.pop))).get? b=some o :=
  λb o hb e=>(uf _ _ (j6 hb)).trans ((uf _ _ (j6 hb)).trans e)
 have sz3:((hp.update s.heap.objs.size (Obj.mapSeq (·.push Value.none))).update s.heap.objs.size (Obj.mapSeq (·.pop))).objs.size=hp.objs.size:=by rw[Heap.size_update,Heap.size_update]
 generalize(hp.update s.heap.objs.size (Obj.mapSeq (·.push Value.none))).update s.heap.objs.size (Obj.mapSeq (·.pop))=h3 at *;have W:=(Walks.bb8 (prog:=prog) (w:=w) (A:=A.in1) (I:=s.heap.objs.size+1) (a:=a) hh (du (qb Hb)) xs o es ep t).toS;refine aj ⟨plainId_quiet F.plain_extend_loop _,codeAny_extend_loopS W hz _ (by simp only[cu,qz,Ak,not_or];exact⟨du (pq _),hSa⟩) _ es.size 0 _ _ _ rfl (j5 _)
  ⟨X.at (oth a o (j6 hSa) (ayg a o X.get)),0,oth _ _ (u0 (pq _)) gI,λ_=>afj X.tab.srt⟩ hS₃ (ItemsOf.nil _) λs' acc' c' hm V0 Ek=>?_⟩
 show wpAny _ A (load s.heap.objs.size >>= _) _ _ s';refine aa (wpAny_load V0 ?_);obtain⟨h',g',d',tk',os'⟩:=s';have eg:g'=s.gens:=hm.gens;have ed:d'=s.drawn:=hm.drawn;have eo:os'=s.os:=hm.os;subst eg;subst ed;subst eo;refine aj (h h' tk' acc' (λb o e=>?_) ?_ Ek)
 . have hb:=az e
   exact hm.heap b o (by simp only[cu,qz,Ak,not_or];exact⟨du hb,du (qb hb)⟩) (oth b o (du hb) (ayg b o e))
 . have:=az V0
   exact Af this
def afl{s:Shared}(X:Ko w s.heap a xs o es ep t)(Ek:ItemsOf (λi v=>((wkN w a es ep)[i]?).map (·.2)=some v) acc es.size) :
 ∃ns:List Int,PyProof.Rows.IntsAre acc.toList ns/\ns.Perm (xs.map (·.1)):=by
 obtain⟨ys,ey,py⟩:=Dm (f:=enI) (acn (w:=w) (a:=a) (es:=es) (ep:=ep)) X.ent;have e1:acc.toList=ys.map λy=>Value.int y.1 y.2:=by
  apply zu;intro i;have hz:acc.toList.length=es.size:=by simpa using Ek.1
  have hy:ys.length=es.size:=by rw[py.length_eq,<- X.size]
  by_cases li:i<es.size
  . have e2:acc.toList[i]?=some (acc.toList[i]'(b_ li (g_ hz))):=by simp[hz,li]
    have e3:=Ek.2 i _ (by rw[<- m6];exact e2);rw[e2,<- e3,<- m6,ey,jb,jb];cases ys[i]?<;>rfl
  . rw[p7 (a_ (f_ hz) (s_ li)),p7 (by simp;exact a_ (f_ hy) (s_ li))]
 refine⟨ys.map (·.1),?_,py.map _⟩;rw[e1];clear e1 py ey Ek
 induction ys with
 |nil=>exact .nil|cons y ys ih=>exact .cons _ _ ih
def aco(hh:A.handled=none)(hS:Eg w s.heap a S n)(hn:n<31)(h:∀(h':Heap) (tk:Nat) (p:Addr) (out:U1) (ns:Xs),(∀b o,s.heap.get? b=some o->h'.get? b=some o)->s.heap.objs.size<=p->PyProof.Rows.IntsAre out.toList ns->ns.Pairwise (·<=·)->ns.Nodup->(∀k,S k↔k∈ns) ->
 (∃c,h'.get? p=some (PyProof.Rows.seqObj "list" out c))->Q (.ref p) { s with heap:=h',toks:=tk }) :
 wpAny (model prog w) A (call (.builtin "sorted") [.ref a]) Q E s:=by
 obtain⟨xs,o,es,ep,t,X,hm,hl,nf⟩:=hS;have hsz:=X.size;refine Calls.call_function_entry PyProof.Rows.kind_sorted PyProof.Rows.plain_sorted PyProof.Rows.entry_sorted (PyProof.Rows.args_sorted1 _) ?_;unfold Builtin.«sorted»;refine aa (m:=checkCount "sorted" 1 1 _) (aj ?_);refine aa (amg (by simpa using hh) X (by rw[qd];exact e_ (c_ (f_ hsz) (c_ (f_ hl) (b_ hn (by decide))))) λh1 tk acc keep hz1 Ek=>?_);obtain⟨ns,hI,pn⟩:=afl X Ek;have hlen:acc.toList.length=n:=by have:=Ek.1;simp;exact u_ (a_ (f_ this) (a_ (f_ hsz) (f_ hl))) (a_ (g_ hl) (a_ (g_ hsz) (g_ this)))
 have eac:acc=acc.toList.toArray:=by simp
 refine aa (wpAny_newList ?_ (by rw[qd];exact e_ (c_ (f_ hlen) (b_ hn (by decide)))));have hoL:(h1.push (PyProof.Rows.seqObj "list" acc.toList.toArray 0)).get? h1.objs.size=some (PyProof.Rows.seqObj "list" acc.toList.toArray 0):=bu _ rfl;refine aa (ir (jf PyProof.Rows.slot_list_sort ⟨_,hoL,rfl⟩ PyProof.Rows.entry_list_sort (PyProof.Rows.list_sort_tree (s:={ s with heap:=h1.push (PyProof.Rows.seqObj "list" acc.toList.toArray 0),toks:=tk }) hoL hI (c_ (f_ hlen) (b_ hn (by decide))) λout ns' a1 a2 a3=>⟨_,rfl,?_⟩) (PyProof.Rows.args_list_sort _)));have p2:=a2.trans pn;refine aj ⟨_,rfl,h _ tk h1.objs.size out ns' (λb o e=>?_) hz1 a1 a3 (p2.nodup_iff.mpr X.nod) (λk=>(hm k).trans p2.mem_iff.symm) (PyProof.Rows.sortedHeap_at hoL)⟩;have hb1:=keep b o e;have Hb:=az hb1;rw[PyProof.Rows.sortedHeap_old (du Hb) (by rw[ik];exact qb Hb),Heap.get?_push_ne _ _ _ (du Hb)];exact hb1
end Xx
namespace MW
open PySem (Str)
set_option genInjectivity true in
inductive D where
 |non|bl (b:Bool)|int (i:Int)|str (s:Str)|tup (ds:List D)|vl (ds:List D)|fz (ds:List D)|ref (n:Nat)
noncomputable abbrev Kx:=Sum Int Str
set_option genInjectivity true in
inductive MO where
 |lst (ds:List D)|dT (gw:List (List Kx×D))|dK (gw:List (Kx×D))|ins (c:Nat) (fs:List (Nat×D))
noncomputable abbrev di:=List MO
noncomputable abbrev Env:=List (Option D)
set_option genInjectivity true in
inductive Res(α:Type) where
 |ok (a:α) (M:di)|err (c:Nat) (M:di)|bad
namespace Res
noncomputable def bind{α β:Type}(r:Res α)(f:α->di->Res β):Res β :=
 match r with|ok a M=>f a M|err c M=>err c M|bad=>bad
@[simp] def Ab(a:α)(M:di)(f:α->di->Res β):(ok a M).bind f=f a M:=rfl
@[simp] def a4z(c:Nat)(M:di)(f:α->di->Res β):(err c M:Res α).bind f=err c M:=rfl
@[simp] def a5a(f:α->di->Res β):(bad:Res α).bind f=bad:=rfl
noncomputable def qi{α:Type}(o:Option α)(M:di):Res α:=match o with|some a=>ok a M|none=>bad
@[simp] def By(a:α)(M:di):qi (some a) M=ok a M:=rfl
@[simp] def ayh(M:di):qi (none:Option α) M=bad:=rfl
end Res
inductive Op2 where|add|ajm|sub|mul|fdiv|mod|pow
inductive Cp where|eq|ne|lt|le|gt|ge|is|Yp|inn|Ud
inductive Blt where
 |len|tuple|list|max|min|sum|sorted|dict|all|isList|isTuple|isInt|isBool|Fq|isSeq
inductive Bm where|append|pop|index|get|Hd
inductive Tg where
 |name (i:Nat)|names (is:Y3)
mutual
inductive Ex where
 |var (i:Nat)|cst (d:D)
 |bin (op:Op2) (a b:Ex)|neg (a:Ex)
 |cmp (op:Cp) (a b:Ex)|chain (o1 o2:Cp) (a b c:Ex)
 |and (a b:Ex)|or (a b:Ex)|not (a:Ex)|ite (c a b:Ex)
 |tup (es:Cz)|lst (es:Cz)|Kp (es:Cz)|ajn|afm
 |ix (a b:Ex)|cut (a:Ex) (lo hi:OEx)
 |call (f:Nat) (es:Cz)|make (c:Nat) (es:Cz)|meth (o:Ex) (m:Nat) (es:Cz)|fld (o:Ex) (f:Nat)
 |blt (b:Blt) (es:Cz)|bm (m:Bm) (o:Ex) (es:Cz)
 |comp (v:Bool) (k:Nat) (t:Tg) (it:Pg) (e:Ex)|Dg (v:Bool) (k:Nat) (t:Tg) (it:Pg) (c:Ex) (e:Ex)
 |V4 (a b:Ex)|afn (e:Ex)|aad (e:Ex)
inductive Cz where
 |nil|cons (e:Ex) (es:Cz)
inductive OEx where
 |none|some (e:Ex)
inductive Pg where
 |val (e:Ex)|O6 (e:Ex)|enm (e:Ex)|zip (a b:Ex)
end
noncomputable abbrev Ex.v:=Ex.var
noncomputable abbrev Ex.i(n:Int):Ex:=.cst (.int n)
noncomputable abbrev Ex.l(e:Ex):Ex:=.blt .len (.cons e .nil)
noncomputable abbrev Cz.z:=Cz.nil
noncomputable abbrev Cz.c:=Cz.cons
noncomputable abbrev Cz.o(a:Ex):Cz:=.cons a .nil
noncomputable abbrev Cz.p(a b:Ex):Cz:=.cons a (.cons b .nil)
noncomputable abbrev Cz.q(a b c:Ex):Cz:=.cons a (.cons b (.cons c .nil))
inductive Lv where
 |tg (t:Tg)|sub (o i:Ex)|fld (o:Ex) (f:Nat)
mutual
inductive Br where
 |asg (l:Lv) (e:Ex)|expr (e:Ex)|iff (c:Ex) (a b:o6)|whl (c:Ex) (b:o6)|for_ (t:Tg) (it:Pg) (b:o6)
 |ret (e:Ex)|asp|brk|cont|pass|raise (c:Nat) (es:Cz)
inductive o6 where
 |nil|cons (s:Br) (r:o6)
end
noncomputable abbrev Br.a(i:Nat)(e:Ex):Br:=.asg (.tg (.name i)) e
noncomputable abbrev Br.f(c:Ex)(b:o6):Br:=.iff c b .nil
noncomputable abbrev o6.z:=o6.nil
noncomputable abbrev o6.c:=o6.cons
noncomputable abbrev o6.o(a:Br):o6:=.cons a .nil
noncomputable abbrev o6.p(a b:Br):o6:=.cons a (.cons b .nil)
noncomputable abbrev o6.q(a b c:Br):o6:=.cons a (.cons b (.cons c .nil))
structure Fn where
 np:Nat
 ns:Nat
 body:o6
structure Cl where
 init:Nat
 meths:List (Nat×Nat)
noncomputable def gf(M:di):D->Option (List D)
 |.vl ds=>some ds|.ref n=>match M[n]? with|some (.lst ds)=>some ds|_=>none
 |_=>none
noncomputable def yr(M:di):D->Option (List D)
 |.tup ds=>some ds|d=>gf M d
noncomputable def Tc:D->Option Kx
 |.int i=>some (.inl i)|.str s=>some (.inr s)|_=>none
noncomputable def aae:List D->Option (List Kx)
 |[]=>some []
 |d::ds=>match Tc d,aae ds with
  |some k,some ks=>some (k::ks)|_,_=>none
noncomputable def Qk:D->Option (List Kx)
 |.tup ds=>aae ds|_=>none
noncomputable def amh:Kx->D
 |.inl i=>.int i|.inr s=>.str s
noncomputable def ami(ks:List Kx):D:=.tup (ks.map amh)
noncomputable def Dn:List D->Option (List (List Kx))
 |[]=>some []
 |d::ds=>match Qk d,Dn ds with
  |some k,some ks=>some (k::ks)|_,_=>none
noncomputable def Ph(f:D->D->Option Bool):List D->List D->Option Bool
 |[],[]=>some true
 |a::as,b::bs=>match f a b,Ph f as bs with
  |some x,some y=>some (x&&y)|_,_=>none
 |_,_=>some false
instance:DecidableEq Kx:=inferInstanceAs (DecidableEq (Sum Int Str))
noncomputable def zg{κ:Type}[DecidableEq κ](gw:List (κ×D))(k:κ):Option D:=(gw.find? λp=>decide (p.1=k)).map (·.2)
noncomputable def Yq(gw:List (List Kx×D)):Bool:=gw.all λp=>p.1.all λx=>match x with|.inl _=>true|.inr _=>false
noncomputable def eqK(f:D->D->Option Bool)(kb:List (List Kx×D)):List (List Kx×D)->Option Bool
 |[]=>some true
 |(k,v)::r=>match zg kb k with
  |none=>some false
  |some y=>match f v y,eqK f kb r with
   |some e,some b=>some (e&&b)|_,_=>none
noncomputable def acp(f:D->D->Option Bool)(M:di)(a b:D):Option Bool :=
 match a,b with
 |.ref i,.ref j=>match M[i]?,M[j]? with
  |some (.dT ka),some (.dT kb)=>if Yq ka&&Yq kb then(if i=j then some true else if ka.length=kb.length then eqK f kb ka else some false) else none
  |_,_=>none
 |_,_=>none
noncomputable def Yr(M:di):D->Bool
 |.ref n=>match M[n]? with|some (.dT _)=>true|_=>false
 |_=>false
noncomputable def Ih(M:di):Nat->D->D->Option Bool
 |0,_,_=>none
 |n+1,a,b=>match a,b with
  |.int i,.int j=>some (decide (i=j))|.bl i,.bl j=>some (i==j)|.str i,.str j=>some (decide (i=j))|.non,.non=>some true|.tup as,.tup bs=>Ph (Ih M n) as bs
  |a,b=>match gf M a,gf M b with
   |some as,some bs=>if as.length=bs.length then Ph (Ih M n) as bs else some false
   |none,none=>acp (Ih M n) M a b|_,_=>none
noncomputable def yd(M:di)(a b:D):Option Bool:=if Yr M a then none else Ih M 6 a b
noncomputable def O7(M:di)(x:D):List D->Option (List Bool)
 |[]=>some []
 |y::ys=>match yd M y x,O7 M x ys with
  |some a,some b=>some (a::b)|_,_=>none
noncomputable def memD(M:di)(x:D)(ds:List D):Option Bool:=(O7 M x ds).map (·.any id)
noncomputable def Q3(M:di)(x:D)(ds:List D):Option Nat:=(O7 M x ds).bind (·.findIdx? id)
noncomputable def Va:List D->Option (List Int)
 |[]=>some []|.int i::r=>(Va r).map (i::·)|_::_=>none
noncomputable def O8(n:Nat)(i:Int):Option Nat:=if 0<=i then(if i<n then some i.toNat else none) else if -(n:Int)<=i then some (i+n).toNat else none
noncomputable def clip(n:Nat)(d:Nat):Option Int->Nat
 |none=>d|some i=>if 0<=i then min i.toNat n else(i+n).toNat
noncomputable def aaf(ds:List D)(lo hi:Option Int):List D:=(ds.drop (clip ds.length 0 lo)).take (clip ds.length ds.length hi-clip ds.length 0 lo)
noncomputable def ayi:List Int->Option Int
 |[]=>none|a::r=>some (r.foldl (λm x=>if m<x then x else m) a)
noncomputable def a5c:List Int->Option Int
 |[]=>none|a::r=>some (r.foldl (λm x=>if x<m then x else m) a)
noncomputable def insI(x:Int):List Int->List Int
 |[]=>[x]|y::ys=>if x<y then x::y::ys else y::insI x ys
noncomputable def sortI(xs:Xs):List Int:=xs.foldr insI []
noncomputable def Ag:List Int->List Int
 |[]=>[]|x::xs=>if x∈xs then Ag xs else x::Ag xs
noncomputable def keysOf(M:di)(d:D):Option (List D) :=
 match d with
 |.ref n=>match M[n]? with
  |some (.dT gw)=>some (gw.map λp=>ami p.1)
  |_=>gf M d
 |_=>gf M d
noncomputable def Dh{κ:Type}[DecidableEq κ](gw:List (κ×D))(k:κ)(v:D):List (κ×D) :=
 if(gw.any λkv=>decide (kv.1=k))=true then gw.map (λkv=>if kv.1=k then(kv.1,v) else kv) else gw++[(k,v)]
noncomputable def Dp(xs:List (List Kx)):Bool:=decide (xs.length<=30)&&xs.all λk=>k.all λx=>match x with|.inl _=>true|.inr _=>false
noncomputable def Ii(xs ys:List (List Kx)):Bool:=xs.all (λx=>ys.any λy=>decide (y=x))&&ys.all (λy=>xs.any λx=>decide (x=y))
noncomputable def new(o:MO)(M:di):Res D:=.ok (.ref M.length) (M++[o])
noncomputable def amj(a b:D)(M:di):Res D :=
 match a,b with
 |.int i,.int j=>.ok (.int (i+j)) M|.tup xs,.tup ys=>if xs.length+ys.length<=100000/\xs.isEmpty=false then .ok (.tup (xs++ys)) M else .bad
 |x,y=>match gf M x,gf M y with
  |some xs,some ys=>if xs.length+ys.length<=100000 then .ok (.vl (xs++ys)) M else .bad
  |_,_=>.bad
noncomputable def afo(x y:D)(M:di):Res D :=
 match gf M x,gf M y with
 |some xs,some ys=>if xs.length+ys.length<=100000 then new (.lst (xs++ys)) M else .bad
 |_,_=>.bad
noncomputable def ii{α:Type}(x y:D)(f:Int->Int->α)(z:α):α:=match x with|.int i=>(match y with|.int j=>f i j|_=>z)|_=>z
def afp(h:ii x y f z=r)(hz:z≠r):∃i j,x=.int i/\y=.int j/\f i j=r:=by
 cases x with
 |int i=>cases y with
  |int j=>exact⟨i,j,rfl,rfl,h⟩|_=>exact absurd h hz
 |_=>exact absurd h hz
@[simp] def bca(i j:Int)(f:Int->Int->α)(z:α):ii (.int i) (.int j) f z=f i j:=rfl
noncomputable def a5d(a b:D)(M:di):Res D:=ii a b (λi j=>.ok (.int (i-j)) M) .bad
noncomputable def a5e(a b:D)(M:di):Res D:=ii a b (λi j=>if(-(2 ^ 64)<i/\i<2 ^ 64)\/(-(2 ^ 64)<j/\j<2 ^ 64) then .ok (.int (i*j)) M else .bad) .bad
noncomputable def ayj(a b:D)(M:di):Res D:=ii a b (λi j=>if 0<j/\j<1073741824 then .ok (.int (i / j)) M else .bad) .bad
noncomputable def a5f(a b:D)(M:di):Res D:=ii a b (λi j=>if 0<j then .ok (.int (i%j)) M else .bad) .bad
noncomputable def aw4(a b:D)(M:di):Res D:=ii a b (λi j=>if 0<=j/\j<=64/\i.natAbs<2 ^ 64 then .ok (.int (i ^ j.toNat)) M else .bad) .bad
noncomputable def Gf(op:Op2):D->D->di->Res D :=
 match op with
 |.add=>amj|.ajm=>afo|.sub=>a5d|.mul=>a5e|.fdiv=>ayj|.mod=>a5f|.pow=>aw4
noncomputable def Q4(M:di)(a b:D):Option Bool :=
 match b with
 |.ref n=>match M[n]? with
  |some (.dT gw)=>(Qk a).map λk=>(zg gw k).isSome
  |some (.dK gw)=>(Tc a).map λk=>(zg gw k).isSome
  |_=>(yr M b).bind (memD M a)
 |_=>(yr M b).bind (memD M a)
noncomputable def asq(a b:D):Option Bool:=match a with|.bl x=>(match b with|.bl y=>some (x==y)|_=>none)|_=>none
noncomputable def acq(f:Int->Int->Bool)(a b:D):Option Bool:=ii a b (λi j=>some (f i j)) none
noncomputable def Lz(op:Cp)(a b:D)(M:di):Option Bool :=
 match op with
 |.lt=>acq (λi j=>decide (i<j)) a b
 |.le=>acq (λi j=>decide (i<=j)) a b
 |.gt=>acq (λi j=>decide (j<i)) a b
 |.ge=>acq (λi j=>decide (j<=i)) a b
 |.eq=>yd M a b|.ne=>(yd M a b).map not|.inn=>Q4 M a b|.Ud=>(Q4 M a b).map not|.is=>asq a b|.Yp=>(asq a b).map not
noncomputable def Ax(a b:D)(M:di):Option D :=
 match a with
 |.ref n=>match M[n]? with
  |some (.dT gw)=>(Qk b).bind (zg gw)|some (.dK gw)=>(Tc b).bind (zg gw)
  |_=>match gf M a,b with
   |some ds,.int i=>(O8 ds.length i).bind λj=>ds[j]?
   |_,_=>none
 |.fz ds=>match b with
  |.int i=>(O8 ds.length i).bind λj=>ds[j]?
  |_=>none
 |_=>match yr M a,b with
  |some ds,.int i=>(O8 ds.length i).bind λj=>ds[j]?
  |_,_=>none
noncomputable def V5(a:D)(lo hi:Option Int)(M:di):Option D :=
 match a with
 |.tup ds=>if clip ds.length 0 lo=0/\clip ds.length ds.length hi=ds.length then none else some (.tup (aaf ds lo hi))
 |_=>(gf M a).map λds=>.vl (aaf ds lo hi)
noncomputable def allB:List D->Option Bool
 |[]=>some true|.bl b::r=>(allB r).map (b&&·)|_::_=>none
noncomputable def isL(M:di):D->Option Bool
 |.vl _=>some true|.fz _=>none
 |.ref n=>match M[n]? with
  |some (.lst _)=>some true|some (.dT _)=>some false|some (.dK _)=>some false|_=>none
 |_=>some false
noncomputable def afq(gw:List (List Kx×D)):Bool:=gw.all λp=>match p.1 with
 |[.inl i,.inl j]=>decide (-1<=i)&&decide (i<9)&&decide (-1<=j)&&decide (j<9)|_=>false
noncomputable def Jc(M:di):D->Res D
 |.ref n=>match M[n]? with
  |some (.lst ds)=>.ok (.int ds.length) M|_=>.bad
 |.fz ds=>.ok (.int ds.length) M|.tup ds=>.ok (.int ds.length) M|.vl ds=>.ok (.int ds.length) M|_=>.bad
noncomputable def ahc(M:di):D->Res D
 |.ref n=>match M[n]? with
  |some (.dT gw)=>if afq gw then new (.dT gw) M else .bad
  |some (.dK gw)=>new (.dK gw) M|_=>.bad
 |_=>.bad
noncomputable def isT(M:di):D->Option Bool
 |.tup _=>some true|.fz _=>none
 |.ref n=>match M[n]? with
  |some (.lst _)=>some false|some (.dT _)=>some false|some (.dK _)=>some false|_=>none
 |_=>some false
noncomputable def isB:D->Option Bool
 |.bl _=>some true|.fz _=>none|.ref _=>none|_=>some false
noncomputable def isS:D->Option Bool
 |.tup _=>some true|.vl _=>some true|.fz _=>none|.ref _=>none|_=>some false
noncomputable def aag:D->Option (List D)
 |.tup ds=>some ds|.vl ds=>some ds|_=>none
noncomputable def two(ds:List D)(f:Int->Int->Int)(g:D->Option Int)(M:di):Res D :=
 match ds with
 |[a,b]=>(match a,b with|.int i,.int j=>.ok (.int (f i j)) M|_,_=>.bad)
 |[d]=>Res.qi ((g d).map D.int) M|_=>.bad
noncomputable def O9(ds:List D)(g:D->Res D):Res D :=
 match ds with
 |[d]=>g d|_=>.bad
noncomputable def uc(b:Blt)(ds:List D)(M:di):Res D :=
 match b with
 |.len=>O9 ds (Jc M)|.tuple=>O9 ds λd=>Res.qi ((yr M d).map D.tup) M
 |.list=>O9 ds λd=>match yr M d with
  |some ds=>new (.lst ds) M|none=>.bad
 |.max=>two ds (λi j=>if i<j then j else i) (λd=>((gf M d).bind Va).bind ayi) M
 |.min=>two ds (λi j=>if j<i then j else i) (λd=>((gf M d).bind Va).bind a5c) M
 |.sum=>O9 ds λd=>Res.qi (((yr M d).bind Va).map λis=>D.int is.sum) M
 |.sorted=>O9 ds λd=>Res.qi (((yr M d).bind Va).map λis=>D.vl ((sortI is).map D.int)) M
 |.Fq=>O9 ds λd=>Res.qi (((gf M d).bind Va).bind λis=>if is.length<31 then some (D.vl ((sortI (Ag is)).map D.int)) else none) M
 |.dict=>O9 ds (ahc M)|.all=>O9 ds λd=>Res.qi (((gf M d).bind allB).map D.bl) M
 |.isList=>O9 ds λd=>Res.qi ((isL M d).map D.bl) M
 |.isTuple=>O9 ds λd=>Res.qi ((isT M d).map D.bl) M
 |.isInt=>O9 ds λd=>match d with
  |.int _=>.ok (.bl true) M|_=>.bad
 |.isBool=>O9 ds λd=>Res.qi ((isB d).map D.bl) M
 |.isSeq=>O9 ds λd=>Res.qi ((isS d).map D.bl) M
noncomputable def Jt(m:Bm)(x:D)(M:di):Bool :=
 match m,x with
 |.append,.ref n=>match M[n]? with|some (.lst _)=>true|_=>false
 |.pop,.ref n=>match M[n]? with|some (.lst _)=>true|_=>false
 |.index,x=>(gf M x).isSome|.Hd,.tup _=>true|.get,.ref n=>match M[n]? with|some (.dT _)=>true|some (.dK _)=>true|_=>false
 |_,_=>false
noncomputable def Ec(m:Bm)(o:D)(ds:List D)(M:di):Res D :=
 match m,o,ds with
 |.append,.ref n,[d]=>match M[n]? with
  |some (.lst xs)=>if xs.length<100000 then .ok .non (M.set n (.lst (xs++[d]))) else .bad
  |_=>.bad
 |.pop,.ref n,[.int i]=>match M[n]? with
  |some (.lst xs)=>match(O8 xs.length i).bind λj=>(xs[j]?).map λd=>(j,d) with
   |some (j,d)=>.ok d (M.set n (.lst (xs.eraseIdx j)))|none=>.bad
  |_=>.bad
 |.index,o,[d]=>Res.qi (((yr M o).bind (Q3 M d)).map λj=>D.int (j:Int)) M
 |.Hd,.tup xs,[d]=>Res.qi ((Q3 M d xs).map λj=>D.int (j:Int)) M
 |.get,.ref n,[k,d]=>match M[n]? with
  |some (.dT gw)=>Res.qi ((Qk k).map λq=>(zg gw q).getD d) M
  |some (.dK gw)=>Res.qi ((Tc k).map λq=>(zg gw q).getD d) M
  |_=>.bad
 |_,_,_=>.bad
noncomputable def setOp(o i v:D)(M:di):Option di :=
 match o with
 |.ref n=>match M[n]? with
  |some (.lst xs)=>match i with
   |.int j=>(O8 xs.length j).map λq=>M.set n (.lst (xs.set q v))
   |_=>none
  |some (.dT gw)=>(Qk i).bind λk=>if gw.length<100000 then some (M.set n (.dT (Dh gw k v))) else none
  |some (.dK gw)=>(Tc i).bind λk=>if gw.length<100000 then some (M.set n (.dK (Dh gw k v))) else none
  |_=>none
 |_=>none
noncomputable def Ue(f:Nat)(v:D):List (Nat×D)->List (Nat×D)
 |[]=>[(f,v)]|(g,x)::r=>if g=f then(g,v)::r else(g,x)::Ue f v r
noncomputable def Q5(o:D)(f:Nat)(M:di):Option D :=
 match o with
 |.ref n=>match M[n]? with
  |some (.ins _ fs)=>fs.lookup f|_=>none
 |_=>none
noncomputable def Q6(o:D)(f:Nat)(v:D)(M:di):Option di :=
 match o with
 |.ref n=>match M[n]? with
  |some (.ins c fs)=>if fs.length<1000 then some (M.set n (.ins c (Ue f v fs))) else none
  |_=>none
 |_=>none
inductive Src where
 |con (ds:List D)|live (n:Nat) (len:Nat)
noncomputable def Src.len:Src->Nat
 |.con ds=>ds.length|.live _ k=>k
noncomputable def Src.item(s:Src)(i:Nat)(M:di):Option D :=
 match s with
 |.con ds=>ds[i]?
 |.live n k=>match M[n]? with
  |some (.lst ds)=>if ds.length=k then ds[i]? else none
  |_=>none
noncomputable def Src.fin(s:Src)(M:di):Bool :=
 match s with
 |.con _=>true
 |.live n k=>match M[n]? with
  |some (.lst ds)=>ds.length==k|_=>false
noncomputable def srcOf(M:di)(d:D):Option Src :=
 match d with
 |.tup ds=>some (.con ds)|.vl ds=>some (.con ds)
 |.ref n=>match M[n]? with
  |some (.lst ds)=>some (.live n ds.length)|_=>none
 |_=>none
inductive Flow where
 |next|brk|cont|ret (d:D)
noncomputable def Ql:List Nat->List D->Env->Env
 |i::is,d::ds,ρ=>Ql is ds (ρ.set i (some d))|_,_,ρ=>ρ
noncomputable def Tg.put(t:Tg)(d:D)(ρ:Env):Option Env :=
 match t with
 |.name i=>some (ρ.set i (some d))
 |.names is=>match d with
  |.tup ds=>if ds.length=is.length then some (Ql is ds ρ) else none
  |_=>none
structure Jp where
 call:Nat->List D->di->Res D
 cls:List Cl
noncomputable def Cu(fin:di->Bool)(item:Nat->di->Option D)(body:D->Env->di->Res (Flow×Env)):Nat->Nat->Env->di->Res (Flow×Env)
 |0,_,ρ,M=>if fin M then .ok (.next,ρ) M else .bad
 |k+1,i,ρ,M=>match item i M with
  |none=>.bad
  |some d=>(body d ρ M).bind λr M1=>match r.1 with
   |.next=>Cu fin item body k (i+1) r.2 M1|.cont=>Cu fin item body k (i+1) r.2 M1|.brk=>.ok (.next,r.2) M1|.ret v=>.ok (.ret v,r.2) M1
noncomputable def Cy(fin:di->Bool)(item:Nat->di->Option D)(body:D->di->Res (Option D)):Nat->Nat->di->Res (List D)
 |0,_,M=>if fin M then .ok [] M else .bad
 |k+1,i,M=>match item i M with
  |none=>.bad|some d=>(body d M).bind λo M1=>(Cy fin item body k (i+1) M1).bind λds M2=>.ok (match o with|some x=>x::ds|none=>ds) M2
noncomputable def Aj(s:Src)(body:D->di->Res (Option D))(M:di):Res (List D):=if s.len<=100000 then Cy s.fin s.item body s.len 0 M else .bad
noncomputable def Ft(c:Env->di->Res D)(body:Env->di->Res (Flow×Env)):Nat->Env->di->Res (Flow×Env)
 |0,_,_=>.bad
 |k+1,ρ,M=>(c ρ M).bind λb M1=>match b with
  |.bl false=>.ok (.next,ρ) M1
  |.bl true=>(body ρ M1).bind λr M2=>match r.1 with
   |.next=>Ft c body k r.2 M2|.cont=>Ft c body k r.2 M2|.brk=>.ok (.next,r.2) M2|.ret v=>.ok (.ret v,r.2) M2
  |_=>.bad
noncomputable def afr:Nat:=1000000
noncomputable def Bx(ds:List D):Nat->List D:=λn=>(ds.zipIdx n).map λp=>D.tup [.int p.2,p.1]
mutual
noncomputable def Ex.den(W:Jp):Ex->Env->di->Res D
 |.var i,ρ,M=>match ρ[i]? with
  |some (some d)=>.ok d M|_=>.bad
 |.cst d,_,M=>.ok d M|.bin op a b,ρ,M=>(a.den W ρ M).bind λx M1=>(b.den W ρ M1).bind λy M2=>Gf op x y M2
 |.neg a,ρ,M=>(a.den W ρ M).bind λx M1=>match x with|.int i=>.ok (.int (-i)) M1|_=>.bad
 |.cmp op a b,ρ,M=>(a.den W ρ M).bind λx M1=>(b.den W ρ M1).bind λy M2=>Res.qi ((Lz op x y M2).map D.bl) M2
 |.chain o1 o2 a b c,ρ,M=>(a.den W ρ M).bind λx M1=>(b.den W ρ M1).bind λy M2=>(Res.qi (Lz o1 x y M2) M2).bind λq M2=>if q then(c.den W ρ M2).bind λz M3=>Res.qi ((Lz o2 y z M3).map D.bl) M3 else .ok (.bl false) M2
 |.and a b,ρ,M=>(a.den W ρ M).bind λx M1=>match x with|.bl true=>b.den W ρ M1|.bl false=>.ok (.bl false) M1|_=>.bad
 |.or a b,ρ,M=>(a.den W ρ M).bind λx M1=>match x with|.bl true=>.ok (.bl true) M1|.bl false=>b.den W ρ M1|_=>.bad
 |.not a,ρ,M=>(a.den W ρ M).bind λx M1=>match x with|.bl b=>.ok (.bl !b) M1|_=>.bad
 |.ite c a b,ρ,M=>(c.den W ρ M).bind λx M1=>match x with|.bl true=>a.den W ρ M1|.bl false=>b.den W ρ M1|_=>.bad
 |.tup es,ρ,M=>(es.den W ρ M).bind λds M1=>.ok (.tup ds) M1
 |.lst es,ρ,M=>(es.den W ρ M).bind λds M1=>new (.lst ds) M1
 |.Kp es,ρ,M=>(es.den W ρ M).bind λds M1=>.ok (.vl ds) M1
 |.ajn,_,M=>new (.dT []) M|.afm,_,M=>new (.dK []) M|.ix a b,ρ,M=>(a.den W ρ M).bind λx M1=>(b.den W ρ M1).bind λy M2=>Res.qi (Ax x y M2) M2
 |.cut a lo hi,ρ,M=>(a.den W ρ M).bind λx M1=>(lo.den W ρ M1).bind λl M2=>(hi.den W ρ M2).bind λh M3=>Res.qi (V5 x l h M3) M3
 |.call f es,ρ,M=>(es.den W ρ M).bind λds M1=>W.call f ds M1
 |.make c es,ρ,M=>(es.den W ρ M).bind λds M1=>match W.cls[c]? with
  |some C=>(W.call C.init (.ref M1.length::ds) (M1++[.ins c []])).bind λr M2=>match r with|.non=>.ok (.ref M1.length) M2|_=>.bad
  |none=>.bad
 |.meth o m es,ρ,M=>(o.den W ρ M).bind λx M1=>(es.den W ρ M1).bind λds M2=>match x with
  |.ref n=>match M1[n]? with
   |some (.ins c _)=>match(W.cls[c]?).bind λC=>C.meths.lookup m with
    |some f=>W.call f (.ref n::ds) M2|none=>.bad
   |_=>.bad
  |_=>.bad
 |.fld o f,ρ,M=>(o.den W ρ M).bind λx M1=>Res.qi (Q5 x f M1) M1
 |.blt b es,ρ,M=>(es.den W ρ M).bind λds M1=>uc b ds M1
 |.bm m o es,ρ,M=>(o.den W ρ M).bind λx M1=>if Jt m x M1 then(es.den W ρ M1).bind λds M2=>Ec m x ds M2 else .bad
 |.comp v k t it e,ρ,M=>(it.den W ρ M).bind λs M1 =>
  (Aj s (λd M=>match t.put d (ρ++List.replicate k none) with
   |some ρ'=>(e.den W ρ' M).bind λx M'=>.ok (some x) M'
   | none=>.bad) M1).bind λds M2=>if v then .ok (.vl ds) M2 else new (.lst ds) M2
 |.Dg v k t it c e,ρ,M=>(it.den W ρ M).bind λs M1 =>
  (Aj s (λd M=>match t.put d (ρ++List.replicate k none) with
   |some ρ'=>(c.den W ρ' M).bind λb M'=>match b with
    |.bl true=>(e.den W ρ' M').bind λx M''=>.ok (some x) M''
    |.bl false=>.ok none M'|_=>.bad
   | none=>.bad) M1).bind λds M2=>if v then .ok (.vl ds) M2 else new (.lst ds) M2
 |.V4 a b,ρ,M=>(a.den W ρ M).bind λx M1 =>
  match(keysOf M1 x).bind Dn with
  |some xs=>if Dp xs then(b.den W ρ M1).bind λy M2 =>
   match(keysOf M2 y).bind Dn with
   |some ys=>if Dp ys then .ok (.bl !Ii xs ys) M2 else .bad
   |none=>.bad
   else .bad
  |none=>.bad
 |.afn e,ρ,M=>(e.den W ρ M).bind λx M1=>match x with
  |.int i=>if i.natAbs<=100000 then .ok (.tup ((List.range i.toNat).map λ(k:Nat)=>D.int (k:Int))) M1 else .bad
  |_=>.bad
 |.aad e,ρ,M=>(e.den W ρ M).bind λx M1=>match x with
  |.int i=>if i.natAbs<=100000 then new (.lst ((List.range i.toNat).map λ(k:Nat)=>D.int (k:Int))) M1 else .bad
  |_=>.bad
noncomputable def Cz.den(W:Jp):Cz->Env->di->Res (List D)
 |.nil,_,M=>.ok [] M|.cons e es,ρ,M=>(e.den W ρ M).bind λx M1=>(es.den W ρ M1).bind λxs M2=>.ok (x::xs) M2
noncomputable def OEx.den(W:Jp):OEx->Env->di->Res (Option Int)
 |.none,_,M=>.ok none M|.some e,ρ,M=>(e.den W ρ M).bind λx M1=>match x with|.int i=>.ok (some i) M1|_=>.bad
noncomputable def Pg.den(W:Jp):Pg->Env->di->Res Src
 |.val e,ρ,M=>(e.den W ρ M).bind λx M1=>Res.qi (srcOf M1 x) M1
 |.O6 e,ρ,M=>(e.den W ρ M).bind λx M1=>match x with
  |.int i=>if i.natAbs<=100000 then .ok (.con ((List.range i.toNat).map λ(k:Nat)=>D.int (k:Int))) M1 else .bad
  |_=>.bad
 |.enm e,ρ,M=>(e.den W ρ M).bind λx M1=>match x with
  |.tup ds=>.ok (.con (Bx ds 0)) M1|.vl ds=>.ok (.con (Bx ds 0)) M1|_=>.bad
 |.zip a b,ρ,M=>(a.den W ρ M).bind λx M1=>(b.den W ρ M1).bind λy M2=>(Res.qi (aag x) M2).bind λds M2=>(Res.qi (aag y) M2).bind λes M2=>.ok (.con ((ds.zip es).map λp=>D.tup [p.1,p.2])) M2
end
noncomputable def Lv.put(W:Jp)(l:Lv)(d:D)(ρ:Env)(M:di):Res Env :=
 match l with
 |.tg t=>Res.qi (t.put d ρ) M|.sub o i=>(o.den W ρ M).bind λx M1=>(i.den W ρ M1).bind λy M2=>(Res.qi (setOp x y d M2) M2).bind λM3 _=>.ok ρ M3
 |.fld o f=>(o.den W ρ M).bind λx M1=>(Res.qi (Q6 x f d M1) M1).bind λM2 _=>.ok ρ M2
mutual
noncomputable def Br.den(W:Jp):Br->Env->di->Res (Flow×Env)
 |.asg l e,ρ,M=>(e.den W ρ M).bind λx M1=>(l.put W x ρ M1).bind fun ρ' M2=>.ok (.next,ρ') M2
 |.expr e,ρ,M=>(e.den W ρ M).bind λ_ M1=>.ok (.next,ρ) M1
 |.iff c a b,ρ,M=>(c.den W ρ M).bind λx M1=>match x with|.bl true=>a.den W ρ M1|.bl false=>b.den W ρ M1|_=>.bad
 |.whl c b,ρ,M=>Ft (c.den W) (b.den W) afr ρ M
 | .for_ t it b,ρ,M=>(it.den W ρ M).bind λs M1=>Cu s.fin s.item (λd ρ M=>match t.put d ρ with
  | some ρ'=>b.den W ρ' M|none=>.bad) s.len 0 ρ M1
 |.ret e,ρ,M=>(e.den W ρ M).bind λx M1=>.ok (.ret x,ρ) M1
 |.asp,ρ,M=>.ok (.ret .non,ρ) M|.brk,ρ,M=>.ok (.brk,ρ) M|.cont,ρ,M=>.ok (.cont,ρ) M|.pass,ρ,M=>.ok (.next,ρ) M|.raise c es,ρ,M=>(es.den W ρ M).bind λ_ M1=>.err c M1
noncomputable def o6.den(W:Jp):o6->Env->di->Res (Flow×Env)
 |.nil,ρ,M=>.ok (.next,ρ) M
 |.cons s r,ρ,M=>(s.den W ρ M).bind λp M1=>match p.1 with
  |.next=>r.den W p.2 M1|.brk=>.ok (.brk,p.2) M1|.cont=>.ok (.cont,p.2) M1|.ret d=>.ok (.ret d,p.2) M1
end
structure Prog where
 fns:List Fn
 cls:List Cl
noncomputable def Fn.run(W:Jp)(f:Fn)(ds:List D)(M:di):Res D :=
 if ds.length=f.np then
  (f.body.den W (ds.map some++List.replicate (f.ns-f.np) none) M).bind λp M1=>match p.1 with
   |.ret d=>.ok d M1|.next=>.ok .non M1|_=>.bad
 else .bad
noncomputable def Prog.call(P:Prog):Nat->Nat->List D->di->Res D
 |0,_,_,_=>.bad
 |n+1,f,ds,M=>match P.fns[f]? with
  |some F=>F.run ⟨P.call n,P.cls⟩ ds M|none=>.bad
@[simp] def aah(i:Nat):(Ex.var i).den W ρ M=match ρ[i]? with|some (some d)=>.ok d M|_=>.bad:=rfl
@[simp high] theorem bcb(d:D)(r:Env):(Ex.var 0).den W (some d::r) M=.ok d M:=rfl
@[simp high] theorem bcc(a0:Option D)(d:D)(r:Env):(Ex.var 1).den W (a0::some d::r) M=.ok d M:=rfl
@[simp high] theorem bcd(a0 a1:Option D)(d:D)(r:Env):(Ex.var 2).den W (a0::a1::some d::r) M=.ok d M:=rfl
@[simp high] theorem bcf(a0 a1 a2:Option D)(d:D)(r:Env):(Ex.var 3).den W (a0::a1::a2::some d::r) M=.ok d M:=rfl
@[simp high] theorem bcg(a0 a1 a2 a3:Option D)(d:D)(r:Env):(Ex.var 4).den W (a0::a1::a2::a3::some d::r) M=.ok d M:=rfl
@[simp high] theorem bch(a0 a1 a2 a3 a4:Option D)(d:D)(r:Env):(Ex.var 5).den W (a0::a1::a2::a3::a4::some d::r) M=.ok d M:=rfl
@[simp high] theorem bci(a0 a1 a2 a3 a4 a5:Option D)(d:D)(r:Env):(Ex.var 6).den W (a0::a1::a2::a3::a4::a5::some d::r) M=.ok d M:=rfl
@[simp high] theorem bck(a0 a1 a2 a3 a4 a5 a6:Option D)(d:D)(r:Env):(Ex.var 7).den W (a0::a1::a2::a3::a4::a5::a6::some d::r) M=.ok d M:=rfl
@[simp high] theorem bcl(a0 a1 a2 a3 a4 a5 a6 a7:Option D)(d:D)(r:Env):(Ex.var 8).den W (a0::a1::a2::a3::a4::a5::a6::a7::some d::r) M=.ok d M:=rfl
@[simp high] theorem bcm(a0 a1 a2 a3 a4 a5 a6 a7 a8:Option D)(d:D)(r:Env):(Ex.var 9).den W (a0::a1::a2::a3::a4::a5::a6::a7::a8::some d::r) M=.ok d M:=rfl
@[simp high] theorem a97(a0 a1 a2 a3 a4 a5 a6 a7 a8 a9:Option D)(d:D)(r:Env):(Ex.var 10).den W (a0::a1::a2::a3::a4::a5::a6::a7::a8::a9::some d::r) M=.ok d M:=rfl
@[simp high] theorem a98(a0 a1 a2 a3 a4 a5 a6 a7 a8 a9 a10:Option D)(d:D)(r:Env):(Ex.var 11).den W (a0::a1::a2::a3::a4::a5::a6::a7::a8::a9::a10::some d::r) M=.ok d M:=rfl
@[simp high] theorem a99(a0 a1 a2 a3 a4 a5 a6 a7 a8 a9 a10 a11:Option D)(d:D)(r:Env):(Ex.var 12).den W (a0::a1::a2::a3::a4::a5::a6::a7::a8::a9::a10::a11::some d::r) M=.ok d M:=rfl
@[simp] def Q7(d:D):(Ex.cst d).den W ρ M=.ok d M:=rfl
@[simp] def asr(op:Op2)(a b:Ex):(Ex.bin op a b).den W ρ M=(a.den W ρ M).bind λx M1=>(b.den W ρ M1).bind λy M2=>Gf op x y M2:=rfl
@[simp] def ass(a:Ex):(Ex.neg a).den W ρ M=(a.den W ρ M).bind λx M1=>match x with|.int i=>.ok (.int (-i)) M1|_=>.bad:=rfl
@[simp] def asu(op:Cp)(a b:Ex):(Ex.cmp op a b).den W ρ M=(a.den W ρ M).bind λx M1=>(b.den W ρ M1).bind λy M2=>Res.qi ((Lz op x y M2).map D.bl) M2:=rfl
@[simp] def ajo(o1 o2:Cp)(a b c:Ex):(Ex.chain o1 o2 a b c).den W ρ M=(a.den W ρ M).bind λx M1=>(b.den W ρ M1).bind λy M2=>(Res.qi (Lz o1 x y M2) M2).bind λq M2=>if q then(c.den W ρ M2).bind λz M3=>Res.qi ((Lz o2 y z M3).map D.bl) M3 else .ok (.bl false) M2:=rfl
def ahd(a b:Ex):(Ex.and a b).den W ρ M=(a.den W ρ M).bind λx M1=>match x with|.bl true=>b.den W ρ M1|.bl false=>.ok (.bl false) M1|_=>.bad:=rfl
def amk(a b:Ex):(Ex.or a b).den W ρ M=(a.den W ρ M).bind λx M1=>match x with|.bl true=>.ok (.bl true) M1|.bl false=>b.den W ρ M1|_=>.bad:=rfl
@[simp] def ahe(a:Ex):(Ex.not a).den W ρ M=(a.den W ρ M).bind λx M1=>match x with|.bl b=>.ok (.bl !b) M1|_=>.bad:=rfl
def asv(c a b:Ex):(Ex.ite c a b).den W ρ M=(c.den W ρ M).bind λx M1=>match x with|.bl true=>a.den W ρ M1|.bl false=>b.den W ρ M1|_=>.bad:=rfl
@[simp] def asw(es:Cz):(Ex.tup es).den W ρ M=(es.den W ρ M).bind λds M1=>.ok (.tup ds) M1:=rfl
@[simp] def asx(es:Cz):(Ex.lst es).den W ρ M=(es.den W ρ M).bind λds M1=>new (.lst ds) M1:=rfl
@[simp] def aml(es:Cz):(Ex.Kp es).den W ρ M=(es.den W ρ M).bind λds M1=>.ok (.vl ds) M1:=rfl
@[simp] def amm:Ex.ajn.den W ρ M=new (.dT []) M:=rfl
@[simp] def amn:Ex.afm.den W ρ M=new (.dK []) M:=rfl
@[simp] def ayk(a b:Ex):(Ex.ix a b).den W ρ M=(a.den W ρ M).bind λx M1=>(b.den W ρ M1).bind λy M2=>Res.qi (Ax x y M2) M2:=rfl
@[simp] def asy(a:Ex)(lo hi:OEx):(Ex.cut a lo hi).den W ρ M=(a.den W ρ M).bind λx M1=>(lo.den W ρ M1).bind λl M2=>(hi.den W ρ M2).bind λh M3=>Res.qi (V5 x l h M3) M3:=rfl
@[simp] def amo(f:Nat)(es:Cz):(Ex.call f es).den W ρ M=(es.den W ρ M).bind λds M1=>W.call f ds M1:=rfl
@[simp] theorem acr{W:Jp}{ρ:Env}{M:di}(c:Nat)(es:Cz):(Ex.make c es).den W ρ M=(es.den W ρ M).bind λds M1=>match W.cls[c]? with
 |some C=>(W.call C.init (.ref M1.length::ds) (M1++[.ins c []])).bind λr M2=>match r with|.non=>.ok (.ref M1.length) M2|_=>.bad
 |none=>.bad:=rfl
@[simp] theorem Bs{W:Jp}{ρ:Env}{M:di}(o:Ex)(m:Nat)(es:Cz):(Ex.meth o m es).den W ρ M=(o.den W ρ M).bind λx M1=>(es.den W ρ M1).bind λds M2=>match x with
 |.ref n=>match M1[n]? with
  |some (.ins c _)=>match(W.cls[c]?).bind λC=>C.meths.lookup m with
   |some f=>W.call f (.ref n::ds) M2|none=>.bad
  |_=>.bad
 |_=>.bad:=rfl
@[simp] def asz(o:Ex)(f:Nat):(Ex.fld o f).den W ρ M=(o.den W ρ M).bind λx M1=>Res.qi (Q5 x f M1) M1:=rfl
@[simp] def ahf(b:Blt)(es:Cz):(Ex.blt b es).den W ρ M=(es.den W ρ M).bind λds M1=>uc b ds M1:=rfl
@[simp] def amq(m:Bm)(o:Ex)(es:Cz):(Ex.bm m o es).den W ρ M=(o.den W ρ M).bind λx M1=>if Jt m x M1 then(es.den W ρ M1).bind λds M2=>Ec m x ds M2 else .bad:=rfl
@[simp] theorem amr{W:Jp}{ρ:Env}{M:di}(e:Ex):(Ex.afn e).den W ρ M=(e.den W ρ M).bind λx M1=>match x with
 |.int i=>if i.natAbs<=100000 then .ok (.tup ((List.range i.toNat).map λ(k:Nat)=>D.int (k:Int))) M1 else .bad
 |_=>.bad:=rfl
@[simp] theorem acs{W:Jp}{ρ:Env}{M:di}(e:Ex):(Ex.aad e).den W ρ M=(e.den W ρ M).bind λx M1=>match x with
 |.int i=>if i.natAbs<=100000 then new (.lst ((List.range i.toNat).map λ(k:Nat)=>D.int (k:Int))) M1 else .bad
 |_=>.bad:=rfl
def Mm(v:Bool)(k:Nat)(t:Tg)(it:Pg)(e:Ex):(Ex.comp v k t it e).den W ρ M=(it.den W ρ M).bind λs M1 =>
 (Aj s (λd M=>match t.put d (ρ++List.replicate k none) with
  |some ρ'=>(e.den W ρ' M).bind λx M'=>.ok (some x) M'
  | none=>.bad) M1).bind λds M2=>if v then .ok (.vl ds) M2 else new (.lst ds) M2:=rfl
def V6(v:Bool)(k:Nat)(t:Tg)(it:Pg)(c e:Ex):(Ex.Dg v k t it c e).den W ρ M=(it.den W ρ M).bind λs M1 =>
 (Aj s (λd M=>match t.put d (ρ++List.replicate k none) with
  |some ρ'=>(c.den W ρ' M).bind λb M'=>match b with
   |.bl true=>(e.den W ρ' M').bind λx M''=>.ok (some x) M''
   |.bl false=>.ok none M'|_=>.bad
  | none=>.bad) M1).bind λds M2=>if v then .ok (.vl ds) M2 else new (.lst ds) M2:=rfl
@[simp] def V7:Cz.nil.den W ρ M=.ok [] M:=rfl
@[simp] def Ju(e:Ex)(es:Cz):(Cz.cons e es).den W ρ M=(e.den W ρ M).bind λx M1=>(es.den W ρ M1).bind λxs M2=>.ok (x::xs) M2:=rfl
@[simp] def ajp:OEx.none.den W ρ M=.ok none M:=rfl
@[simp] def ajq(e:Ex):(OEx.some e).den W ρ M=(e.den W ρ M).bind λx M1=>match x with|.int i=>.ok (some i) M1|_=>.bad:=rfl
@[simp] def Oo(e:Ex):(Pg.val e).den W ρ M=(e.den W ρ M).bind λx M1=>Res.qi (srcOf M1 x) M1:=rfl
@[simp] theorem Q8{W:Jp}{ρ:Env}{M:di}(e:Ex):(Pg.O6 e).den W ρ M=(e.den W ρ M).bind λx M1=>match x with
 |.int i=>if i.natAbs<=100000 then .ok (.con ((List.range i.toNat).map λ(k:Nat)=>D.int (k:Int))) M1 else .bad
 |_=>.bad:=rfl
@[simp] theorem aai{W:Jp}{ρ:Env}{M:di}(e:Ex):(Pg.enm e).den W ρ M=(e.den W ρ M).bind λx M1=>match x with
 |.tup ds=>.ok (.con (Bx ds 0)) M1|.vl ds=>.ok (.con (Bx ds 0)) M1|_=>.bad:=rfl
def as3(a b:Ex):(Pg.zip a b).den W ρ M=(a.den W ρ M).bind λx M1=>(b.den W ρ M1).bind λy M2=>(Res.qi (aag x) M2).bind λds M2=>(Res.qi (aag y) M2).bind λes M2=>.ok (.con ((ds.zip es).map λp=>D.tup [p.1,p.2])) M2:=rfl
@[simp] def aaj(l:Lv)(e:Ex):(Br.asg l e).den W ρ M=(e.den W ρ M).bind λx M1=>(l.put W x ρ M1).bind fun ρ' M2=>.ok (.next,ρ') M2:=rfl
@[simp] def as4(e:Ex):(Br.expr e).den W ρ M=(e.den W ρ M).bind λ_ M1=>.ok (.next,ρ) M1:=rfl
def ayl(c:Ex)(a b:o6):(Br.iff c a b).den W ρ M=(c.den W ρ M).bind λx M1=>match x with|.bl true=>a.den W ρ M1|.bl false=>b.den W ρ M1|_=>.bad:=rfl
@[simp] def aym(e:Ex):(Br.ret e).den W ρ M=(e.den W ρ M).bind λx M1=>.ok (.ret x,ρ) M1:=rfl
@[simp] def baa:Br.asp.den W ρ M=.ok (.ret .non,ρ) M:=rfl
@[simp] def ayn:Br.brk.den W ρ M=.ok (.brk,ρ) M:=rfl
@[simp] def as5:Br.cont.den W ρ M=.ok (.cont,ρ) M:=rfl
@[simp] def bab:Br.pass.den W ρ M=.ok (.next,ρ) M:=rfl
@[simp] def ams(c:Nat)(es:Cz):(Br.raise c es).den W ρ M=(es.den W ρ M).bind λ_ M1=>.err c M1:=rfl
def aak(c:Ex)(b:o6):(Br.whl c b).den W ρ M=Ft (c.den W) (b.den W) afr ρ M:=rfl
def Td(t:Tg)(it:Pg)(b:o6):(Br.for_ t it b).den W ρ M=(it.den W ρ M).bind λs M1=>Cu s.fin s.item (λd ρ M=>match t.put d ρ with
 | some ρ'=>b.den W ρ' M|none=>.bad) s.len 0 ρ M1:=rfl
@[simp] def as6:o6.nil.den W ρ M=.ok (.next,ρ) M:=rfl
theorem amt{W:Jp}{ρ:Env}{M:di}(s:Br)(r:o6):(o6.cons s r).den W ρ M=(s.den W ρ M).bind λp M1=>match p.1 with
 |.next=>r.den W p.2 M1|.brk=>.ok (.brk,p.2) M1|.cont=>.ok (.cont,p.2) M1|.ret d=>.ok (.ret d,p.2) M1:=rfl
noncomputable def ajr(W:Jp)(r:o6)(x:Res (Flow×Env)):Res (Flow×Env):=x.bind λp M1=>match p.1 with
 |.next=>r.den W p.2 M1|.brk=>.ok (.brk,p.2) M1|.cont=>.ok (.cont,p.2) M1|.ret d=>.ok (.ret d,p.2) M1
@[simp] def bac(s:Br)(r:o6):(o6.cons s r).den W ρ M=ajr W r (s.den W ρ M):=rfl
@[simp] def a5g(r:o6):ajr W r (.ok (.next,ρ) M)=r.den W ρ M:=rfl
@[simp] def bae(r:o6):ajr W r (.ok (.brk,ρ) M)=.ok (.brk,ρ) M:=rfl
@[simp] def a5h(r:o6):ajr W r (.ok (.cont,ρ) M)=.ok (.cont,ρ) M:=rfl
@[simp] def baf(r:o6)(d:D):ajr W r (.ok (.ret d,ρ) M)=.ok (.ret d,ρ) M:=rfl
@[simp] def bag(r:o6)(c:Nat):ajr W r (.err c M)=.err c M:=rfl
noncomputable def ifK{α:Type}(a b:di->Res α)(x:Res D):Res α:=x.bind λx M1=>match x with|.bl true=>a M1|.bl false=>b M1|_=>.bad
@[simp] def a5i(c:Ex)(a b:o6):(Br.iff c a b).den W ρ M=ifK (a.den W ρ) (b.den W ρ) (c.den W ρ M):=rfl
@[simp] def bcn(c a b:Ex):(Ex.ite c a b).den W ρ M=ifK (a.den W ρ) (b.den W ρ) (c.den W ρ M):=rfl
@[simp] def bco(a b:Ex):(Ex.and a b).den W ρ M=ifK (b.den W ρ) (.ok (.bl false)) (a.den W ρ M):=rfl
@[simp] def bgt(a b:Ex):(Ex.or a b).den W ρ M=ifK (.ok (.bl true)) (b.den W ρ) (a.den W ρ M):=rfl
@[simp] def bgu(a b:di->Res α):ifK a b (.ok (.bl true) M)=a M:=rfl
@[simp] def bgv(a b:di->Res α):ifK a b (.ok (.bl false) M)=b M:=rfl
@[simp] def bcp(a b:di->Res α)(c:Nat):ifK a b (.err c M)=.err c M:=rfl
theorem Ys{W:Jp}{ρ:Env}{M:di}(a b:Ex):(Ex.V4 a b).den W ρ M=(a.den W ρ M).bind λx M1 =>
 match(keysOf M1 x).bind Dn with
 |some xs=>if Dp xs then(b.den W ρ M1).bind λy M2 =>
  match(keysOf M2 y).bind Dn with
  |some ys=>if Dp ys then .ok (.bl !Ii xs ys) M2 else .bad
  |none=>.bad
  else .bad
 |none=>.bad:=rfl
@[simp] def amu(t:Tg)(d:D):(Lv.tg t).put W d ρ M=Res.qi (t.put d ρ) M:=rfl
@[simp] def as7(o i:Ex)(d:D):(Lv.sub o i).put W d ρ M=(o.den W ρ M).bind λx M1=>(i.den W ρ M1).bind λy M2=>(Res.qi (setOp x y d M2) M2).bind λM3 _=>.ok ρ M3:=rfl
@[simp] def as8(o:Ex)(f:Nat)(d:D):(Lv.fld o f).put W d ρ M=(o.den W ρ M).bind λx M1=>(Res.qi (Q6 x f d M1) M1).bind λM2 _=>.ok ρ M2:=rfl
@[simp] def ayp(i:Nat)(d:D):(Tg.name i).put d ρ=some (ρ.set i (some d)):=rfl
@[simp] def aw5(is:Y3)(ds:List D)(h:ds.length=is.length):(Tg.names is).put (.tup ds) ρ=some (Ql is ds ρ):=by simp[Tg.put,h]
@[simp] def aw6(i:Nat)(is:Y3)(d:D)(ds:List D):Ql (i::is) (d::ds) ρ=Ql is ds (ρ.set i (some d)):=rfl
@[simp] def ayq(ds:List D):Ql [] ds ρ=ρ:=by cases ds<;>rfl
@[simp] def a5j(i j:Int):Gf .add (.int i) (.int j) M=.ok (.int (i+j)) M:=rfl
@[simp] def a5k(i j:Int):Gf .sub (.int i) (.int j) M=.ok (.int (i-j)) M:=rfl
def Mp(i j:Int)(h:(-(2 ^ 64)<i/\i<2 ^ 64)\/(-(2 ^ 64)<j/\j<2 ^ 64)):Gf .mul (.int i) (.int j) M=.ok (.int (i*j)) M:=cz h
def Yt(i j:Int)(h:0<j)(h2:j<1073741824):Gf .fdiv (.int i) (.int j) M=.ok (.int (i / j)) M:=cz ⟨h,h2⟩
@[simp] def a5l(i j:Int)(h:0<j):Gf .mod (.int i) (.int j) M=.ok (.int (i%j)) M:=cz h
@[simp] def ayr:Gf .pow (.int 10) (.int 18) M=.ok (.int (10 ^ 18)) M:=by simp[Gf,aw4]
def Yu(xs ys:List D)(h:xs.length+ys.length<=100000):Gf .add (.vl xs) (.vl ys) M=.ok (.vl (xs++ys)) M:=cz h
def ajs(xs ys:List D)(h:xs.length+ys.length<=100000):Gf .ajm (.vl xs) (.vl ys) M=new (.lst (xs++ys)) M:=cz h
@[simp] def bcq(i j:Int):Lz .lt (.int i) (.int j) M=some (decide (i<j)):=rfl
@[simp] def bcr(i j:Int):Lz .le (.int i) (.int j) M=some (decide (i<=j)):=rfl
@[simp] def cmp_gt(i j:Int):Lz .gt (.int i) (.int j) M=some (decide (j<i)):=rfl
@[simp] def bcs(i j:Int):Lz .ge (.int i) (.int j) M=some (decide (j<=i)):=rfl
@[simp] def bct(a b:D):Lz .eq a b M=yd M a b:=rfl
@[simp] def bcu(a b:D):Lz .ne a b M=(yd M a b).map not:=rfl
@[simp] def bcv(a b:D):Lz .inn a b M=Q4 M a b:=rfl
@[simp] def a3e(a b:D):Lz .Ud a b M=(Q4 M a b).map not:=rfl
def ahg(n:Nat)(i j:Int):Ih M (n+1) (.int i) (.int j)=some (decide (i=j)):=rfl
def Bt(h1:f a b=some x)(h2:Ph f as bs=some y):Ph f (a::as) (b::bs)=some (x&&y):=by simp[Ph,h1,h2]
@[simp] def eq_int(i j:Int):yd M (.int i) (.int j)=some (decide (i=j)):=rfl
@[simp] def bgw(i j:Bool):yd M (.bl i) (.bl j)=some (i==j):=rfl
@[simp] def ajt(ds:List D):gf M (.vl ds)=some ds:=rfl
@[simp] def a5m(ds:List D):yr M (.vl ds)=some ds:=rfl
@[simp] def a3f(ds:List D):yr M (.tup ds)=some ds:=rfl
def jt(h:M[n]?=some (.lst ds)):gf M (.ref n)=some ds:=by simp[gf,h]
def Jv(h:gf M d=some ds):yr M d=some ds:=by cases d<;>first|exact h|(simp[gf] at h)
set_option tactic.hygienic true in
def len_list(h:gf M d=some ds):uc .len [d] M=.ok (.int ds.length) M:=by
 show Jc M d=_;cases d with
 |vl xs=>simp[gf] at h;subst h;rfl
 |ref n =>
  simp only[gf] at h;split at h<;>simp at h;rename_i xs hx;subst h;simp[Jc,hx]
 |_=>simp[gf] at h
@[simp] def a5n(d:D)(g:D->Res D):O9 [d] g=g d:=rfl
@[simp] def a5o(g:D->Res D):O9 [] g=.bad:=rfl
@[simp] def a3g(a b:D)(l:List D)(g:D->Res D):O9 (a::b::l) g=.bad:=rfl
@[simp] def bcw(i j:Int)(f:Int->Int->Int)(g:D->Option Int):two [.int i,.int j] f g M=.ok (.int (f i j)) M:=rfl
@[simp] def as9(d:D)(f:Int->Int->Int)(g:D->Option Int):two [d] f g M=Res.qi ((g d).map D.int) M:=rfl
@[simp] def ays(ds:List D):Jc M (.tup ds)=.ok (.int ds.length) M:=rfl
@[simp] theorem aw7{M:di}(n:Nat):ahc M (.ref n)=match M[n]? with
 |some (.dT gw)=>if afq gw then new (.dT gw) M else .bad
 |some (.dK gw)=>new (.dK gw) M|_=>.bad:=rfl
def Cj(h:gf M d=some ds)(h0:0<=i)(hx:ds[i.toNat]?=some x):Ax d (.int i) M=some x:=by
 obtain⟨hl,hxx⟩:=ak.mp hx;have hi:i<ds.length:=by lia
 cases d with
 |vl xs=>simp[gf] at h;subst h;simp[Ax,yr,O8,h0,hi,hl,hxx]
 |ref n =>
  simp only[gf] at h;cases e:M[n]? with
  |none=>rw[e] at h;simp at h|some o=>rw[e] at h;cases o<;>simp at h<;>subst h<;>simp[Ax,gf,e,O8,h0,hi,hl,hxx]
 |_=>simp[gf] at h
def Kq(h0:0<=i)(hx:ds[i.toNat]?=some x):Ax (.tup ds) (.int i) M=some x:=by
 obtain⟨hl,hxx⟩:=ak.mp hx;have hi:i<ds.length:=by lia
 simp[Ax,yr,O8,h0,hi,hl,hxx]
def a5p(h0:0<=i)(hx:ds[i.toNat]?=some x):Ax (.fz ds) (.int i) M=some x:=by
 obtain⟨hl,hxx⟩:=ak.mp hx;have hi:i<ds.length:=by lia
 simp[Ax,O8,h0,hi,hl,hxx]
def amv:uc .len [.fz ds] M=.ok (.int ds.length) M:=rfl
@[simp] def bah(x:D)(r:List D):Ax (.tup (x::r)) (.int 0) M=some x:=Kq (by decide) rfl
@[simp] def bai(x y:D)(r:List D):Ax (.tup (x::y::r)) (.int 1) M=some y:=Kq (by decide) rfl
@[simp] def baj(x y z:D)(r:List D):Ax (.tup (x::y::z::r)) (.int 2) M=some z:=Kq (by decide) rfl
def acu(h:M[n]?=some (.dT gw))(hk:Qk b=some k):Ax (.ref n) b M=zg gw k:=by simp[Ax,h,hk]
def a5q(h:M[n]?=some (.dT gw))(hk:Qk b=some k):Q4 M b (.ref n)=some (zg gw k).isSome:=by simp[Q4,h,hk]
def a5r(h:M[n]?=some (.dK gw))(hk:Tc b=some k):Ax (.ref n) b M=zg gw k:=by simp[Ax,h,hk]
@[simp] def Yv(i j:Int):Qk (.tup [.int i,.int j])=some [.inl i,.inl j]:=rfl
@[simp] def bgx(i:Int):Tc (.int i)=some (.inl i):=rfl
def Hf(h:M[n]?=some (.lst xs)):Jt .append (.ref n) M=true:=by simp[Jt,h]
def Gz(h:M[n]?=some (.lst xs))(hl:xs.length<100000):Ec .append (.ref n) [d] M=.ok .non (M.set n (.lst (xs++[d]))):=by simp[Ec,h,hl]
def Vj(h:M[n]?=some (.lst xs))(h0:0<=i)(hi:i<xs.length):setOp (.ref n) (.int i) d M=some (M.set n (.lst (xs.set i.toNat d))):=by simp[setOp,h,O8,h0,hi]
def ayt(h:M[n]?=some (.dT gw))(hk:Qk b=some k)(hs:gw.length<100000):setOp (.ref n) b d M=some (M.set n (.dT (Dh gw k d))):=by simp[setOp,h,hk,hs]
def xq{M:di}(h:M[a]?=some o):a<M.length:=(ak.mp h).1
def ur{M:di}(h:M[a]?=some p):(M.set a o)[a]?=some o:=by rw[List.getElem?_set_self (xq h)]
def qu{M:di}(h:b≠a):(M.set b o)[a]?=M[a]?:=vq h
def v5{M:di}{a:Nat}(h:M[a]?=some o):(M++X)[a]?=some o:=by rw[dm (xq h)];exact h
@[simp] def bak{M:di}:(M++[o])[M.length]?=some o:=by simp
theorem aal{fin:di->Bool}{item:Nat->di->Option D}{body:D->Env->di->Res (Flow×Env)}(I:Nat->Env->di->Prop){n:Nat}
 (step:∀i ρ M,i<n->I i ρ M->∃d fl ρ' M',item i M=some d/\body d ρ M=.ok (fl,ρ') M'/\(fl=.next\/fl=.cont)/\I (i+1) ρ' M') (Qm:∀ρ M,I n ρ M->fin M=true) :
 ∀(k i:Nat)(ρ:Env)(M:di),i+k=n->I i ρ M->∃ρ' M',Cu fin item body k i ρ M=.ok (.next,ρ') M'/\I n ρ' M'
 |0,i,ρ,M,e,h=>by
  have q:i=n:=by lia
  rw[q] at h;exact⟨ρ,M,by simp[Cu,Qm ρ M h],h⟩
 |k+1,i,ρ,M,e,h=>by
  obtain⟨d,fl,ρ1,M1,h1,h2,h3,h4⟩:=step i ρ M (by lia) h;obtain⟨ρ2,M2,g1,g2⟩:=aal I step Qm k (i+1) ρ1 M1 (by lia) h4;refine⟨ρ2,M2,?_,g2⟩;rcases h3 with rfl|rfl<;>simp[Cu,h1,h2,g1]
def Q9(I:Nat->Env->di->Prop)(h0:I 0 ρ M)(step:∀i d ρ M,ds[i]?=some d->I i ρ M->∃fl ρ' M',body d ρ M=.ok (fl,ρ') M'/\(fl=.next\/fl=.cont)/\I (i+1) ρ' M') :
 ∃ρ' M',Cu (Src.con ds).fin (Src.con ds).item body (Src.con ds).len 0 ρ M=.ok (.next,ρ') M'/\I ds.length ρ' M':=by
 refine aal I (λi ρ M hi h=>?_) (λ_ _ _=>rfl) ds.length 0 ρ M (wu _) h0;obtain⟨fl,ρ',M',a,b,c⟩:=step i ds[i] ρ M (by simp[hi]) h;exact⟨ds[i],fl,ρ',M',by simp[Src.item,hi],a,b,c⟩
def aam(I:Nat->Env->di->Prop)(h0:I 0 ρ M)(step:∀i ρ M,i<n->I i ρ M->∃fl ρ' M',body (.int i) ρ M=.ok (fl,ρ') M'/\(fl=.next\/fl=.cont)/\I (i+1) ρ' M') :
 ∃ρ' M',Cu (Src.con ((List.range n).map λ(k:Nat)=>D.int (k:Int))).fin (Src.con ((List.range n).map λ(k:Nat)=>D.int (k:Int))).item body (Src.con ((List.range n).map λ(k:Nat)=>D.int (k:Int))).len 0 ρ M=.ok (.next,ρ') M'/\I n ρ' M':=by
 have:=Q9 (ds:=(List.range n).map λ(k:Nat)=>D.int (k:Int)) (body:=body) I h0 (λi d ρ M hd h=>by
  have hi:i<n:=by have:=(ak.mp hd).1;simpa using this
  rw[jb,yp hi] at hd;have hd:D.int (i:Int)=d:=by simpa using hd
  subst hd;exact step i ρ M hi h)
 simpa using this
def amw(I:Nat->Env->di->Prop)(h0:I 0 ρ M)(stay:∀i ρ M,I i ρ M->M[p]?=some (.lst ds))(step:∀i d ρ M,ds[i]?=some d->I i ρ M->∃fl ρ' M',body d ρ M=.ok (fl,ρ') M'/\(fl=.next\/fl=.cont)/\I (i+1) ρ' M') :
 ∃ρ' M',Cu (Src.live p ds.length).fin (Src.live p ds.length).item body (Src.live p ds.length).len 0 ρ M=.ok (.next,ρ') M'/\I ds.length ρ' M':=by
 refine aal I (λi ρ M hi h=>?_) (fun ρ M h=>by simp[Src.fin,stay _ ρ M h]) ds.length 0 ρ M (wu _) h0;obtain⟨fl,ρ',M',a,b,c⟩:=step i ds[i] ρ M (by simp[hi]) h;exact⟨ds[i],fl,ρ',M',by simp[Src.item,stay i ρ M h,hi],a,b,c⟩
theorem Jw{fin:di->Bool}{item:Nat->di->Option D}{body:D->di->Res (Option D)}(I:Nat->List D->di->Prop){n:Nat}
 (step:∀i xs M,i<n->I i xs M->∃d o M',item i M=some d/\body d M=.ok o M'/\I (i+1) (xs++o.toList) M') (Qm:∀xs M,I n xs M->fin M=true) :
 ∀(k i:Nat)(xs:List D)(M:di),i+k=n->I i xs M->∃ys M',Cy fin item body k i M=.ok ys M'/\I n (xs++ys) M'
 |0,i,xs,M,e,h=>by
  have q:i=n:=by lia
  rw[q] at h;exact⟨[],M,by simp[Cy,Qm xs M h],by simpa using h⟩
 |k+1,i,xs,M,e,h=>by
  obtain⟨d,o,M1,h1,h2,h3⟩:=step i xs M (by lia) h;obtain⟨ys,M2,g1,g2⟩:=Jw I step Qm k (i+1) (xs++o.toList) M1 (by lia) h3;refine⟨o.toList++ys,M2,?_,by rw[<- yf];exact g2⟩;cases o<;>simp[Cy,h1,h2,g1]
def Te{s:Src}{ds:List D}(Qm:s.fin M=true)(hl:s.len=ds.length)(hi:∀i,i<ds.length->s.item i M=ds[i]?)(h:∀d∈ds,body d M=.ok (g d) M) :
 Cy s.fin s.item body s.len 0 M=.ok (ds.filterMap g) M:=by
 obtain⟨ys,M',e,h1,h2⟩:=Jw (fin:=s.fin) (item:=s.item) (body:=body) (λi xs M'=>M'=M/\xs=(ds.take i).filterMap g) (n:=ds.length) (λi xs M' Hb hI=>by
  obtain⟨rfl,rfl⟩:=hI;refine⟨ds[i],g ds[i],M',by rw[hi i Hb];simp[Hb],h _ (ph Hb),rfl,?_⟩;rw[List.take_succ,List.filterMap_append];simp[Hb];cases e:g ds[i]<;>simp[e]) (λxs M' h=>by rw[h.1];exact Qm) ds.length 0 [] M (wu _) ⟨rfl,rfl⟩
 rw[hl,e,h1];simp at h2;rw[h2]
def amx(h:∀d∈ds,body d M=.ok (some (g d)) M) :
 Cy (Src.con ds).fin (Src.con ds).item body (Src.con ds).len 0 M=.ok (ds.map g) M:=by
 rw[Te (s:=.con ds) (ds:=ds) (g:=λd=>some (g d)) rfl rfl (λi _=>rfl) h,List.filterMap_eq_map']
end MW
namespace MW
theorem Oq{c:Env->di->Res D}{body:Env->di->Res (Flow×Env)}(I:Nat->Env->di->Prop)(Tf:Env->di->Prop)
 (step:∀m ρ M,I m ρ M->(∃M1,c ρ M=.ok (.bl false) M1/\Tf ρ M1) \/
  ∃M1 fl ρ' M2 m',c ρ M=.ok (.bl true) M1/\body ρ M1=.ok (fl,ρ') M2/\(fl=.next\/fl=.cont)/\m'<m/\I m' ρ' M2) :
 ∀(k m:Nat)(ρ:Env)(M:di),m<k->I m ρ M->∃ρ' M',Ft c body k ρ M=.ok (.next,ρ') M'/\Tf ρ' M'
 |0,m,_,_,h,_=>absurd h (v7 _)
 |k+1,m,ρ,M,h,hI=>by
  rcases step m ρ M hI with⟨M1,h1,h2⟩|⟨M1,fl,ρ1,M2,m',h1,h2,h3,h4,h5⟩
  . exact⟨ρ,M1,by simp[Ft,h1],h2⟩
  . obtain⟨ρ3,M3,g1,g2⟩:=Oq I Tf step k m' ρ1 M2 (b_ h4 (z_ h)) h5
    refine⟨ρ3,M3,?_,g2⟩;rcases h3 with rfl|rfl<;>simp[Ft,h1,h2,g1]
end MW
namespace MW
noncomputable def yt(M M':di):Prop:=∀(a:Nat)(o:MO),M[a]?=some o->M'[a]?=some o
def yt.refl(M:di):yt M M:=λ_ _ h=>h
def yt.trans(a:yt M M1)(b:yt M1 M2):yt M M2:=λx o h=>b x o (a x o h)
def yt.app(M X:di):yt M (M++X):=λ_ _ h=>v5 h
def yt.len(k:yt M M'):M.length<=M'.length:=by
 rcases Nat.eq_zero_or_pos M.length with h|h
 . exact a_ (f_ h) (j5 _)
 . have:=xq (k (M.length-1) M[M.length-1] (by simp))
   lia
theorem yt.gf(k:yt M M')(h:gf M d=some ds):MW.gf M' d=some ds:=by
 cases d with
 |vl xs=>exact h
 |ref n =>
  simp only[MW.gf] at h ⊢;cases e:M[n]? with
  |none=>rw[e] at h;simp at h|some o=>rw[e] at h;rw[k n o e];exact h
 |_=>simp[MW.gf] at h
def V8(I:Nat->Env->di->Prop)(hd:gf M d=some ds)(h0:I 0 ρ M)(stay:∀i ρ M,I i ρ M->gf M d=some ds)(step:∀i x ρ M,ds[i]?=some x->I i ρ M->∃fl ρ' M',body x ρ M=.ok (fl,ρ') M'/\(fl=.next\/fl=.cont)/\I (i+1) ρ' M') :
 ∃s,srcOf M d=some s/\∃ρ' M',Cu s.fin s.item body s.len 0 ρ M=.ok (.next,ρ') M'/\I ds.length ρ' M':=by
 cases d with
 |vl xs=>simp[gf] at hd;subst hd;exact⟨_,rfl,Q9 I h0 step⟩
 |ref n =>
  cases e:M[n]? with
  |none=>simp[gf,e] at hd
  |some o =>
   cases o with
   |lst xs =>
    simp[gf,e] at hd;subst hd;refine⟨.live n xs.length,by simp[srcOf,e],amw I h0 (λi ρ M h=>?_) step⟩;have:=stay i ρ M h;simp only[gf] at this;split at this<;>simp_all
   |_=>simp[gf,e] at hd
 |_=>simp[gf] at hd
def ahh(hl:ds.length<=100000)(h:∀d∈ds,body d M=.ok (some (g d)) M):Aj (.con ds) body M=.ok (ds.map g) M:=by rw[Aj,cz (show(Src.con ds).len<=100000 from hl)];exact amx h
def V9(hl:ds.length<=100000)(h:∀d∈ds,body d M=.ok (g d) M):Aj (.con ds) body M=.ok (ds.filterMap g) M:=by rw[Aj,cz (show(Src.con ds).len<=100000 from hl)];exact Te (s:=.con ds) rfl rfl (λ_ _=>rfl) h
def acv(hd:gf M d=some ds)(hl:ds.length<=100000)(h:∀x∈ds,body x M=.ok (g x) M) :
 ∃s,srcOf M d=some s/\Aj s body M=.ok (ds.filterMap g) M:=by
 cases d with
 |vl xs=>simp[gf] at hd;subst hd;exact⟨_,rfl,V9 hl h⟩
 |ref n =>
  cases e:M[n]? with
  |none=>simp[gf,e] at hd
  |some o =>
   cases o with
   |lst xs =>
    simp[gf,e] at hd;subst hd;exact⟨.live n xs.length,by simp[srcOf,e],by rw[Aj,cz (show(Src.live n xs.length).len<=100000 from hl)];exact Te (s:=.live n xs.length) (by simp[Src.fin,e]) rfl (λi _=>by simp[Src.item,e]) h⟩
   |_=>simp[gf,e] at hd
 |_=>simp[gf] at hd
def Ot(v:Bool)(k:Nat)(t:Tg)(it:Pg)(e:Ex):(Ex.comp v k t it e).den W ρ M=(it.den W ρ M).bind λs M1 =>
 (Aj s (λd M=>(Res.qi (t.put d (ρ++List.replicate k none)) M).bind fun ρ' M=>(e.den W ρ' M).bind λx M'=>.ok (some x) M') M1).bind λds M2=>if v then .ok (.vl ds) M2 else new (.lst ds) M2:=by
 rw[Mm]
 congr 1;funext s M1;congr 2;funext d M
 cases t.put d (ρ++List.replicate k none)<;>rfl
def Ug(v:Bool)(k:Nat)(t:Tg)(it:Pg)(c e:Ex):(Ex.Dg v k t it c e).den W ρ M=(it.den W ρ M).bind λs M1 =>
 (Aj s (λd M=>(Res.qi (t.put d (ρ++List.replicate k none)) M).bind fun ρ' M=>(c.den W ρ' M).bind λb M' =>
  match b with
   |.bl true=>(e.den W ρ' M').bind λx M''=>.ok (some x) M''
   | .bl false=>.ok none M'|_=>.bad) M1).bind λds M2=>if v then .ok (.vl ds) M2 else new (.lst ds) M2:=by
 rw[V6]
 congr 1;funext s M1;congr 2;funext d M
 cases t.put d (ρ++List.replicate k none)<;>rfl
def Ou(t:Tg)(it:Pg)(b:o6):(Br.for_ t it b).den W ρ M=(it.den W ρ M).bind λs M1=>Cu s.fin s.item (λd ρ M=>(Res.qi (t.put d ρ) M).bind fun ρ' M=>b.den W ρ' M) s.len 0 ρ M1:=by
 rw[Td]
 congr 1;funext s M1;congr 1;funext d ρ M
 cases t.put d ρ<;>rfl
def Al(hit:it.den W ρ M=.ok (.int (n:Int)) M1)(hn:n<=100000)(I:Nat->Env->di->Prop)(h0:I 0 ρ M1)(step:∀i ρ M,i<n->I i ρ M->∃ρ1 fl ρ' M',t.put (.int i) ρ=some ρ1/\b.den W ρ1 M=.ok (fl,ρ') M'/\(fl=.next\/fl=.cont)/\I (i+1) ρ' M') :
 ∃ρ' M',(Br.for_ t (.O6 it) b).den W ρ M=.ok (.next,ρ') M'/\I n ρ' M':=by
 rw[Ou,Q8,hit];have Om:((n:Int)).natAbs<=100000:=by lia
 simp only[Res.Ab,Om,jy,t7];exact aam I h0 (λi ρ M hi h=>by
  obtain⟨ρ1,fl,ρ',M',a,b,c,d⟩:=step i ρ M hi h;exact⟨fl,ρ',M',by rw[a];exact b,c,d⟩)
def Bl(hit:it.den W ρ M=.ok d M1)(hd:gf M1 d=some ds)(I:Nat->Env->di->Prop)(h0:I 0 ρ M1)(stay:∀i ρ M,I i ρ M->gf M d=some ds)(step:∀i x ρ M,ds[i]?=some x->I i ρ M->∃ρ1 fl ρ' M',t.put x ρ=some ρ1/\b.den W ρ1 M=.ok (fl,ρ') M'/\(fl=.next\/fl=.cont)/\I (i+1) ρ' M') :
 ∃ρ' M',(Br.for_ t (.val it) b).den W ρ M=.ok (.next,ρ') M'/\I ds.length ρ' M':=by
 rw[Ou,Oo,hit];obtain⟨s,h1,h2⟩:=V8 (body:=λd ρ M=>(Res.qi (t.put d ρ) M).bind fun ρ' M=>b.den W ρ' M) I hd h0 stay (λi x ρ M hx h=>by
  obtain⟨ρ1,fl,ρ',M',a,b,c,d⟩:=step i x ρ M hx h;exact⟨fl,ρ',M',by rw[a];exact b,c,d⟩)
 simp only[Res.Ab,h1,Res.By];exact h2
def Uh(hit:it.den W ρ M=.ok (.tup ds) M1)(I:Nat->Env->di->Prop)(h0:I 0 ρ M1)(step:∀i x ρ M,ds[i]?=some x->I i ρ M->∃ρ1 fl ρ' M',t.put x ρ=some ρ1/\b.den W ρ1 M=.ok (fl,ρ') M'/\(fl=.next\/fl=.cont)/\I (i+1) ρ' M') :
 ∃ρ' M',(Br.for_ t (.val it) b).den W ρ M=.ok (.next,ρ') M'/\I ds.length ρ' M':=by
 rw[Ou,Oo,hit];exact Q9 I h0 (λi x ρ M hx h=>by
  obtain⟨ρ1,fl,ρ',M',a,b,c,d⟩:=step i x ρ M hx h;exact⟨fl,ρ',M',by rw[a];exact b,c,d⟩)
def Ij(hit:it.den W ρ M=.ok (.tup ds) M1)(I:Nat->Env->di->Prop)(h0:I 0 ρ M1)(step:∀i x ρ M,ds[i]?=some x->I i ρ M->∃ρ1 fl ρ' M',t.put (.tup [.int i,x]) ρ=some ρ1/\b.den W ρ1 M=.ok (fl,ρ') M'/\(fl=.next\/fl=.cont)/\I (i+1) ρ' M') :
 ∃ρ' M',(Br.for_ t (.enm it) b).den W ρ M=.ok (.next,ρ') M'/\I ds.length ρ' M':=by
 rw[Ou,aai,hit];have:=Q9 (ds:=Bx ds 0) (body:=λd ρ M=>(Res.qi (t.put d ρ) M).bind fun ρ' M=>b.den W ρ' M) I h0 (λi x ρ M hx h=>by
  have Xz:i<ds.length:=by have:=(ak.mp hx).1;simpa[Bx] using this
  have hx':x=.tup [.int i,ds[i]]:=by simp[Bx,Xz] at hx;exact hx.symm
  subst hx';obtain⟨ρ1,fl,ρ',M',a,b,c,d⟩:=step i ds[i] ρ M (by simp[Xz]) h;exact⟨fl,ρ',M',by rw[a];exact b,c,d⟩)
 have e:(Bx ds 0).length=ds.length:=by simp[Bx]
 rw[e] at this;exact this
def Am(hit:it.den W ρ M=.ok d M1)(hd:gf M1 d=some ds)(hl:ds.length<=100000)(h:∀x∈ds,∃ρ1,t.put x (ρ++List.replicate k none)=some ρ1/\e.den W ρ1 M1=.ok (g x) M1) :
 (Ex.comp v k t (.val it) e).den W ρ M=if v then .ok (.vl (ds.map g)) M1 else new (.lst (ds.map g)) M1:=by
 rw[Ot,Oo,hit];obtain⟨s,h1,h2⟩:=acv (g:=λx=>some (g x)) (body:=λd M=>(Res.qi (t.put d (ρ++List.replicate k none)) M).bind fun ρ' M=>(e.den W ρ' M).bind λx M'=>.ok (some x) M') hd hl (λx hx=>by
  obtain⟨ρ1,a,b⟩:=h x hx;rw[a];simp[b])
 simp only[Res.Ab,h1,Res.By,h2,List.filterMap_eq_map']
def G3(hit:it.den W ρ M=.ok (.tup ds) M1)(hl:ds.length<=100000)(h:∀x∈ds,∃ρ1,t.put x (ρ++List.replicate k none)=some ρ1/\e.den W ρ1 M1=.ok (g x) M1) :
 (Ex.comp v k t (.val it) e).den W ρ M=if v then .ok (.vl (ds.map g)) M1 else new (.lst (ds.map g)) M1:=by
 rw[Ot,Oo,hit];have h2:=ahh (g:=g) (M:=M1) (body:=λd M=>(Res.qi (t.put d (ρ++List.replicate k none)) M).bind fun ρ' M=>(e.den W ρ' M).bind λx M'=>.ok (some x) M') hl (λx hx=>by
  obtain⟨ρ1,a,b⟩:=h x hx;rw[a];simp[b])
 show(Aj (.con ds) _ M1).bind _=_;rw[h2];rfl
def Wa(hit:it.den W ρ M=.ok (.int (n:Int)) M1)(hl:n<=100000)(h:∀i,i<n->∃ρ1,t.put (.int i) (ρ++List.replicate k none)=some ρ1/\c.den W ρ1 M1=.ok (.bl (q i)) M1/\(q i=true->e.den W ρ1 M1=.ok (g i) M1)) :
 (Ex.Dg v k t (.O6 it) c e).den W ρ M=if v then .ok (.vl (((List.range n).filter q).map g)) M1 else new (.lst (((List.range n).filter q).map g)) M1:=by
 rw[Ug,Q8,hit];have Om:((n:Int)).natAbs<=100000:=by lia
 simp only[Res.Ab,Om,jy,t7];rw[V9 (ds:=(List.range n).map λ(k:Nat)=>D.int (k:Int)) (g:=λd=>match d with|.int i=>if q i.toNat then some (g i.toNat) else none|_=>none) (by simpa using hl) (λx hx=>by
  obtain⟨i,hi,rfl⟩:=bf.mp hx;obtain⟨ρ1,a,b,c⟩:=h i (ig.mp hi);rw[a,Res.By,Res.Ab,b,Res.Ab];cases e:q i with
  | true=>simp[e,c e]|false=>simp[e])]
 have:(((List.range n).map λ(k:Nat)=>D.int (k:Int)).filterMap λd=>match d with|.int i=>if q i.toNat then some (g i.toNat) else none|_=>none)=((List.range n).filter q).map g:=by
  rw[List.filterMap_map]
  induction List.range n with
  |nil=>rfl|cons a l ih=>by_cases e:q a=true<;>simp[e,ih]
 rw[this];rfl
def Wb(hit:it.den W ρ M=.ok (.tup ds) M1)(hl:ds.length<=100000)(h:∀(i:Nat) (x:D),ds[i]?=some x->∃ρ1,t.put (.tup [.int i,x]) (ρ++List.replicate k none)=some ρ1/\c.den W ρ1 M1=.ok (.bl (q i)) M1/\(q i=true->e.den W ρ1 M1=.ok (g i) M1)) :
 (Ex.Dg v k t (.enm it) c e).den W ρ M=if v then .ok (.vl (((List.range ds.length).filter q).map g)) M1 else new (.lst (((List.range ds.length).filter q).map g)) M1:=by
 rw[Ug,aai,hit];simp only[Res.Ab];rw[V9 (ds:=Bx ds 0) (g:=λd=>match d with|.tup [.int i,_]=>if q i.toNat then some (g i.toNat) else none|_=>none) (by simpa[Bx] using hl) (λx hx=>by
  obtain⟨i,hi,ei⟩:=m8 hx;have Xz:i<ds.length:=by simpa[Bx] using hi
  have hx':x=.tup [.int i,ds[i]]:=by rw[<- ei];simp[Bx]
  subst hx';obtain⟨ρ1,a,b,c⟩:=h i ds[i] (by simp[Xz]);rw[a,Res.By,Res.Ab,b,Res.Ab];cases e:q i with
  | true=>simp[e,c e]|false=>simp[e])]
 have:((Bx ds 0).filterMap λd=>match d with|.tup [.int i,_]=>if q i.toNat then some (g i.toNat) else none|_=>none)=((List.range ds.length).filter q).map g:=by
  have aux:∀(l:List D)(s:Nat),((Bx l s).filterMap λd=>match d with|.tup [.int i,_]=>if q i.toNat then some (g i.toNat) else none|_=>none)=((List.range' s l.length).filter q).map g:=by
   intro l
   induction l with
   |nil=>intro s;rfl
   |cons a l ih =>
    intro s;have e1:Bx (a::l) s=.tup [.int s,a]::Bx l (s+1):=by simp[Bx]
    rw[e1,gr,List.range'_succ]
    by_cases e:q s=true<;>simp[e,ih]
  rw[aux,List.range_eq_range']
 rw[this];rfl
theorem ahi{fin:di->Bool}{item:Nat->di->Option D}{body:D->Env->di->Res (Flow×Env)}(I:Nat->Env->di->Prop)(Tf:Env->di->Prop){n:Nat}
 (step:∀i ρ M,i<n->I i ρ M->∃d fl ρ' M',item i M=some d/\body d ρ M=.ok (fl,ρ') M'/\(((fl=.next\/fl=.cont)/\I (i+1) ρ' M')\/(fl=.brk/\Tf ρ' M'))) (Qm:∀ρ M,I n ρ M->fin M=true/\Tf ρ M) :
 ∀(k i:Nat)(ρ:Env)(M:di),i+k=n->I i ρ M->∃ρ' M',Cu fin item body k i ρ M=.ok (.next,ρ') M'/\Tf ρ' M'
 |0,i,ρ,M,e,h=>by
  have q:i=n:=by lia
  rw[q] at h;exact⟨ρ,M,by simp[Cu,(Qm ρ M h).1],(Qm ρ M h).2⟩
 |k+1,i,ρ,M,e,h=>by
  obtain⟨d,fl,ρ1,M1,h1,h2,⟨h3,h4⟩|⟨rfl,h4⟩⟩:=step i ρ M (by lia) h
  . obtain⟨ρ2,M2,g1,g2⟩:=ahi I Tf step Qm k (i+1) ρ1 M1 (by lia) h4
    refine⟨ρ2,M2,?_,g2⟩;rcases h3 with rfl|rfl<;>simp[Cu,h1,h2,g1]
  . exact⟨ρ1,M1,by simp[Cu,h1,h2],h4⟩
def acw(hit:it.den W ρ M=.ok (.int (n:Int)) M1)(hn:n<=100000)(I:Nat->Env->di->Prop)(Tf:Env->di->Prop)(h0:I 0 ρ M1)(hp:∀ρ M,I n ρ M->Tf ρ M)(step:∀i ρ M,i<n->I i ρ M->∃ρ1 fl ρ' M',t.put (.int i) ρ=some ρ1/\b.den W ρ1 M=.ok (fl,ρ') M'/\(((fl=.next\/fl=.cont)/\I (i+1) ρ' M')\/(fl=.brk/\Tf ρ' M'))) :
 ∃ρ' M',(Br.for_ t (.O6 it) b).den W ρ M=.ok (.next,ρ') M'/\Tf ρ' M':=by
 rw[Ou,Q8,hit];have Om:((n:Int)).natAbs<=100000:=by lia
 simp only[Res.Ab,Om,jy,t7];obtain⟨ρ',M',e,h⟩:=ahi (fin:=(Src.con ((List.range n).map λ(k:Nat)=>D.int (k:Int))).fin) (item:=(Src.con ((List.range n).map λ(k:Nat)=>D.int (k:Int))).item) (body:=λd ρ M=>(Res.qi (t.put d ρ) M).bind fun ρ' M=>b.den W ρ' M) I Tf (n:=n) (λi ρ M hi h=>by
  obtain⟨ρ1,fl,ρ',M',a,b,c⟩:=step i ρ M hi h;exact⟨.int i,fl,ρ',M',by simp[Src.item,hi],by rw[a];exact b,c⟩) (fun ρ M h=>⟨rfl,hp ρ M h⟩) n 0 ρ M1 (wu _) h0
 have hl:(Src.con ((List.range n).map λ(k:Nat)=>D.int (k:Int))).len=n:=by simp[Src.len]
 rw[hl];exact⟨ρ',M',e,h⟩
def Kr(hit:it.den W ρ M=.ok (.int (n:Int)) M1)(hn:n<=100000)(I:Nat->List D->di->Prop)(h0:I 0 [] M1)(step:∀i xs M,i<n->I i xs M->∃ρ1 x M',t.put (.int i) (ρ++List.replicate k none)=some ρ1/\e.den W ρ1 M=.ok x M'/\I (i+1) (xs++[x]) M') :
 ∃ys M',(Ex.comp v k t (.O6 it) e).den W ρ M=(if v then .ok (.vl ys) M' else new (.lst ys) M')/\I n ys M':=by
 rw[Ot,Q8,hit];have Om:((n:Int)).natAbs<=100000:=by lia
 simp only[Res.Ab,Om,jy,t7];obtain⟨ys,M',g,h⟩:=Jw (fin:=(Src.con ((List.range n).map λ(k:Nat)=>D.int (k:Int))).fin) (item:=(Src.con ((List.range n).map λ(k:Nat)=>D.int (k:Int))).item) (body:=λd M=>(Res.qi (t.put d (ρ++List.replicate k none)) M).bind fun ρ' M=>(e.den W ρ' M).bind λx M'=>.ok (some x) M') I (n:=n) (λi xs M hi h=>by
  obtain⟨ρ1,x,M',a,b,c⟩:=step i xs M hi h;exact⟨.int i,some x,M',by simp[Src.item,hi],by rw[a];simp[b],by simpa using c⟩) (λ_ _ _=>rfl) n 0 [] M1 (wu _) h0
 have hl:(Src.con ((List.range n).map λ(k:Nat)=>D.int (k:Int))).len=n:=by simp[Src.len]
 refine⟨ys,M',?_,by simpa using h⟩;rw[Aj,hl,cz hn,g];rfl
set_option tactic.hygienic true in
def Jd(hit:it.den W ρ M=.ok d M1)(hd:gf M1 d=some ds)(hn:ds.length<=100000)(I:Nat->List D->di->Prop)(h0:I 0 [] M1)(stay:∀i xs M,I i xs M->gf M d=some ds)(step:∀i y xs M,ds[i]?=some y->I i xs M->∃ρ1 x M',t.put y (ρ++List.replicate k none)=some ρ1/\e.den W ρ1 M=.ok x M'/\I (i+1) (xs++[x]) M') :
 ∃ys M',(Ex.comp v k t (.val it) e).den W ρ M=(if v then .ok (.vl ys) M' else new (.lst ys) M')/\I ds.length ys M':=by
 rw[Ot,Oo,hit];obtain⟨s,hs,hl,hi,hf⟩:∃s,srcOf M1 d=some s/\s.len=ds.length/\(∀M i,gf M d=some ds->s.item i M=ds[i]?)/\∀M,gf M d=some ds->s.fin M=true:=by
  cases d with
  |vl zs=>cases hd;exact⟨.con ds,rfl,rfl,λ_ _ _=>rfl,λ_ _=>rfl⟩
  |ref p =>
   have get:∀{M:di},gf M (.ref p)=some ds->M[p]?=some (.lst ds):=fun{M} h=>by
    simp only[gf] at h;split at h
    . rename_i z;cases h;exact z
    . cases h
   refine⟨.live p ds.length,by simp[srcOf,get hd],rfl,λM i h=>by simp[Src.item,get h],λM h=>by simp[Src.fin,get h]⟩
  |_=>cases hd
 simp only[Res.Ab,hs,Res.By];obtain⟨ys,M',g,h⟩:=Jw (fin:=s.fin) (item:=s.item) (body:=λd M=>(Res.qi (t.put d (ρ++List.replicate k none)) M).bind fun ρ' M=>(e.den W ρ' M).bind λx M'=>.ok (some x) M') I (n:=ds.length) (λi xs M Hb h=>by
  obtain⟨ρ1,x,M',a,b,c⟩:=step i ds[i] xs M (by simp[Hb]) h;exact⟨ds[i],some x,M',by rw[hi M i (stay i xs M h)];simp[Hb],by rw[a];simp[b],by simpa using c⟩) (λxs M h=>hf M (stay _ xs M h)) ds.length 0 [] M1 (wu _) h0
 refine⟨ys,M',?_,by simpa using h⟩;rw[Aj,hl,cz hn,g];rfl
end MW
namespace K05
open MW
noncomputable def Jx:o6:=.c (.expr (.call 9 (.p (.v 1) (.v 2)))) (.c (.expr (.call 10 (.p (.v 2) (.v 3)))) (.c (.expr (.call 11 (.p (.v 2) (.v 3)))) (.q (.asg (.fld (.v 0) 2) (.v 1)) (.asg (.fld (.v 0) 1) (.v 2)) (.asg (.fld (.v 0) 0) (.blt .dict (.o (.v 3)))))))
noncomputable def Jy:Fn:=⟨4,4,Jx⟩
noncomputable def La:o6:=.o (.ret (.fld (.v 0) 2))
noncomputable def Lb:Fn:=⟨1,1,La⟩
noncomputable def Jz:o6:=.o (.ret (.fld (.v 0) 1))
noncomputable def J0:Fn:=⟨1,1,Jz⟩
noncomputable def J1:o6:=.o (.ret (.call 6 (.q (.fld (.v 0) 0) (.v 1) (.v 2))))
noncomputable def J2:Fn:=⟨3,3,J1⟩
noncomputable def El:Ex:=.Dg true 2 (.names [2,3]) (.enm (.fld (.v 0) 1)) (.cmp .eq (.ix (.v 3) (.i 0)) (.v 1)) (.v 2)
noncomputable def Mq:o6:=.o (.ret (.bin .ajm (.Kp (.o (.i (-1)))) El))
noncomputable def Mr:Fn:=⟨2,2,Mq⟩
noncomputable def Je:o6:=.p (.f (.cmp .eq (.v 2) (.i (-1))) (.o (.ret (.v 1)))) (.ret (.ix (.ix (.fld (.v 0) 1) (.v 2)) (.i 1)))
noncomputable def Jf:Fn:=⟨3,3,Je⟩
noncomputable def Ik:o6:=.q (.f (.cmp .eq (.v 1) (.i (-1))) (.o (.ret (.v 2)))) (.f (.cmp .eq (.v 2) (.i (-1))) (.o (.ret (.v 1)))) (.ret (.ix (.v 0) (.tup (.p (.v 1) (.v 2)))))
noncomputable def Il:Fn:=⟨3,3,Ik⟩
noncomputable def Bd:o6:=.o (.f (.cmp .eq (.ix (.v 3) (.i 1)) (.ix (.v 5) (.i 0))) (.o (.expr (.bm .append (.v 1) (.o (.tup (.p (.v 2) (.v 4))))))))
noncomputable def Im:Br:=.for_ (.names [4,5]) (.enm (.v 0)) Bd
noncomputable def Dq:o6:=.o Im
noncomputable def Ip:Br:=.for_ (.names [2,3]) (.enm (.v 0)) Dq
noncomputable def Ld:o6:=.q (.a 1 (.lst .z)) Ip (.ret (.v 1))
noncomputable def Lf:Fn:=⟨1,6,Ld⟩
noncomputable def Em:o6:=.p (.f (.cmp .eq (.v 1) (.i (-1))) (.o (.ret (.cmp .eq (.v 2) (.v 3))))) (.ret (.and (.chain .le .lt (.i 0) (.v 1) (.l (.v 0))) (.cmp .eq (.ix (.v 0) (.v 1)) (.tup (.p (.v 2) (.v 3))))))
noncomputable def Eo:Fn:=⟨4,4,Em⟩
noncomputable def Ep:o6:=.o (.f (.not (.and (.chain .le .lt (.i 0) (.ix (.v 2) (.i 0)) (.v 0)) (.chain .le .lt (.i 0) (.ix (.v 2) (.i 1)) (.v 0)))) (.o (.raise 1 (.o (.cst (.str (PySem.Str.ofString "a doing is from a kind to a kind")))))))
noncomputable def J5:Br:=.for_ (.name 2) (.val (.v 1)) Ep
noncomputable def Ms:o6:=.q (.f (.not (.chain .le .le (.i 1) (.v 0) (.i 3))) (.o (.raise 1 (.o (.cst (.str (PySem.Str.ofString "a pattern has one to three kinds"))))))) (.f (.cmp .gt (.l (.v 1)) (.i 5)) (.o (.raise 1 (.o (.cst (.str (PySem.Str.ofString "a pattern has at most five doings"))))))) J5
noncomputable def Mt:Fn:=⟨2,3,Ms⟩
noncomputable def Gg:o6:=.o (.f (.not (.call 8 (.c (.v 0) (.q (.ix (.v 1) (.tup (.p (.v 3) (.v 4)))) (.ix (.ix (.v 0) (.v 3)) (.i 0)) (.ix (.ix (.v 0) (.v 4)) (.i 1)))))) (.o (.raise 1 (.o (.cst (.str (PySem.Str.ofString "two doings come to a way of their own ends")))))))
noncomputable def Lg:Br:=.for_ (.names [3,4]) (.val (.v 2)) Gg
noncomputable def Pj:o6:=.q (.a 2 (.call 7 (.o (.v 0)))) (.f (.V4 (.v 1) (.v 2)) (.o (.raise 1 (.o (.cst (.str (PySem.Str.ofString "a table tells of just the pairs of doings that meet"))))))) Lg
noncomputable def Pk:Fn:=⟨2,5,Pj⟩
noncomputable def Cm:o6:=.c (.f (.cmp .Ud (.tup (.p (.v 4) (.v 5))) (.v 1)) (.o .cont)) (.q (.a 6 (.call 6 (.q (.v 1) (.ix (.v 1) (.tup (.p (.v 3) (.v 4)))) (.v 5)))) (.a 7 (.call 6 (.q (.v 1) (.v 3) (.ix (.v 1) (.tup (.p (.v 4) (.v 5))))))) (.f (.cmp .ne (.v 6) (.v 7)) (.o (.raise 1 (.o (.cst (.str (PySem.Str.ofString "three doings come to one way, however they are taken together"))))))))
noncomputable def J6:Br:=.for_ (.name 5) (.O6 (.l (.v 0))) Cm
noncomputable def Er:o6:=.o J6
noncomputable def J7:Br:=.for_ (.names [3,4]) (.val (.v 2)) Er
noncomputable def Mu:o6:=.p (.a 2 (.call 7 (.o (.v 0)))) J7
noncomputable def Mv:Fn:=⟨2,8,Mu⟩
noncomputable def Hg:o6:=.p (.f (.cmp .lt (.v 1) (.l (.v 0))) (.o (.ret (.ix (.v 0) (.v 1))))) (.ret (.i 0))
noncomputable def Hh:Fn:=⟨2,2,Hg⟩
noncomputable def Ks:o6:=.q (.a 2 (.call 12 (.p (.v 0) (.v 1)))) (.f (.cmp .ge (.v 2) (.bin .pow (.i 10) (.i 18))) (.o (.ret (.lst (.p (.bin .sub (.v 2) (.bin .pow (.i 10) (.i 18))) (.cst (.bl true))))))) (.ret (.lst (.p (.bin .mod (.v 2) (.i 2147483647)) (.cst (.bl false)))))
noncomputable def Ku:Fn:=⟨2,3,Ks⟩
noncomputable def Mw:o6:=.c (.f (.ix (.v 0) (.i 1)) (.q (.a 2 (.bin .mod (.ix (.v 0) (.i 0)) (.v 1))) (.asg (.sub (.v 0) (.i 0)) (.bin .fdiv (.ix (.v 0) (.i 0)) (.v 1))) (.ret (.v 2)))) (.c (.asg (.sub (.v 0) (.i 0)) (.bin .mod (.bin .add (.bin .mul (.ix (.v 0) (.i 0)) (.i 48271)) (.i 29)) (.i 2147483647))) (.q (.a 3 (.bin .mod (.bin .add (.bin .add (.bin .mul (.ix (.v 0) (.i 0)) (.ix (.v 0) (.i 0))) (.bin .mul (.i 39373) (.ix (.v 0) (.i 0)))) (.i 7)) (.i 2147483629))) (.a 3 (.bin .mod (.bin .add (.bin .mul (.v 3) (.v 3)) (.bin .mul (.i 16807) (.v 3))) (.i 2147483587))) (.ret (.bin .mod (.bin .fdiv (.v 3) (.i 8)) (.v 1)))))
noncomputable def Mx:Fn:=⟨2,4,Mw⟩
noncomputable def Hi:Ex:=.comp true 1 (.name 12) (.O6 (.ix (.v 7) (.v 10))) (.call 14 (.p (.v 0) (.ix (.v 7) (.v 11))))
noncomputable def Dr:o6:=.q (.a 10 (.call 14 (.p (.v 0) (.v 6)))) (.a 11 (.call 14 (.p (.v 0) (.v 6)))) (.expr (.bm .append (.v 8) (.o (.tup (.q (.v 10) (.v 11) (.blt .tuple (.o Hi)))))))
noncomputable def Hj:Br:=.for_ (.name 9) (.O6 (.call 14 (.p (.v 0) (.i 4)))) Dr
noncomputable def Hk:Ex:=.comp true 1 (.name 12) (.O6 (.v 6)) (.bin .add (.i 1) (.call 14 (.p (.v 0) (.i 3))))
noncomputable def Kv:o6:=.c (.a 1 (.call 14 (.p (.v 0) (.i 12)))) (.c (.f (.cmp .lt (.v 1) (.i 7)) (.c (.a 2 (.Kp (.p (.tup (.q (.i 0) (.i 1) (.tup (.p (.i 0) (.i 1))))) (.tup (.q (.i 0) (.i 1) (.tup (.p (.i 1) (.i 0)))))))) (.c (.a 3 (.Kp (.q (.tup (.q (.i 0) (.i 1) (.tup (.c (.i 0) (.q (.i 0) (.i 1) (.i 1)))))) (.tup (.q (.i 0) (.i 1) (.tup (.c (.i 0) (.q (.i 1) (.i 0) (.i 1)))))) (.tup (.q (.i 1) (.i 0) (.tup (.p (.i 0) (.i 3)))))))) (.q (.a 4 (.Kp (.o (.tup (.q (.i 0) (.i 0) (.tup (.p (.i 1) (.i 0)))))))) (.a 5 (.Kp (.c (.v 2) (.c (.v 3) (.c (.v 4) (.c (.Kp (.o (.tup (.q (.i 0) (.i 0) (.tup (.q (.i 1) (.i 2) (.i 0))))))) (.q (.Kp (.o (.tup (.q (.i 0) (.i 0) (.tup (.p (.i 0) (.i 0))))))) (.Kp .z) (.Kp (.p (.tup (.q (.i 0) (.i 1) (.tup (.p (.i 0) (.i 1))))) (.tup (.q (.i 1) (.i 2) (.tup (.q (.i 0) (.i 0) (.i 1)))))))))))))) (.ret (.ix (.v 5) (.v 1))))))) (.c (.a 6 (.bin .add (.i 1) (.call 14 (.p (.v 0) (.i 3))))) (.c (.a 7 Hk) (.q (.a 8 (.lst .z)) Hj (.ret (.v 8))))))
noncomputable def Cq:Fn:=⟨1,12,Kv⟩
noncomputable def Gh:Ex:=.comp true 1 (.name 10) (.val (.ix (.v 7) (.i 2))) (.ix (.ix (.v 8) (.i 2)) (.v 10))
noncomputable def Bu:o6:=.c (.a 4 (.tup .z)) (.q (.f (.cmp .eq (.ix (.v 7) (.i 1)) (.ix (.v 8) (.i 0))) (.o (.a 4 (.blt .tuple (.o Gh))))) (.a 9 (.tup (.q (.ix (.v 7) (.i 0)) (.ix (.v 8) (.i 1)) (.v 4)))) (.f (.and (.cmp .ne (.v 4) (.tup .z)) (.and (.cmp .Ud (.v 9) (.v 1)) (.or (.cmp .ne (.ix (.v 9) (.i 0)) (.ix (.v 9) (.i 1))) (.cmp .ne (.v 4) (.afn (.l (.v 4))))))) (.o (.expr (.bm .append (.v 1) (.o (.v 9)))))))
noncomputable def Gi:Br:=.for_ (.names [7,8]) (.val (.Kp (.p (.tup (.p (.ix (.v 1) (.v 5)) (.ix (.v 1) (.v 6)))) (.tup (.p (.ix (.v 1) (.v 6)) (.ix (.v 1) (.v 5))))))) Bu
noncomputable def Gj:o6:=.o Gi
noncomputable def Gk:Br:=.for_ (.name 6) (.O6 (.l (.v 1))) Gj
noncomputable def Lh:o6:=.p Gk (.a 5 (.bin .add (.v 5) (.i 1)))
noncomputable def Gm:Br:=.whl (.and (.cmp .lt (.v 5) (.l (.v 1))) (.cmp .lt (.l (.v 1)) (.i 6))) Lh
noncomputable def za:o6:=.o (.f (.and (.or (.cmp .ne (.v 2) (.v 3)) (.cmp .ne (.v 4) (.afn (.l (.v 4))))) (.cmp .Ud (.tup (.q (.v 2) (.v 3) (.v 4))) (.v 1))) (.o (.expr (.bm .append (.v 1) (.o (.tup (.q (.v 2) (.v 3) (.v 4))))))))
noncomputable def Gn:Br:=.for_ (.names [2,3,4]) (.val (.v 0)) za
noncomputable def Pn:o6:=.c (.a 1 (.lst .z)) (.c Gn (.q (.a 5 (.i 0)) Gm (.ret (.v 1))))
noncomputable def Pq:Fn:=⟨1,10,Pn⟩
noncomputable def Es:Ex:=.comp true 3 (.names [8,9,10]) (.val (.v 2)) (.tup (.p (.v 8) (.v 9)))
noncomputable def Et:Ex:=.comp true 1 (.name 8) (.val (.ix (.ix (.v 2) (.v 5)) (.i 2))) (.ix (.ix (.ix (.v 2) (.v 6)) (.i 2)) (.v 8))
noncomputable def Aq:o6:=.o (.f (.cmp .eq (.ix (.ix (.v 2) (.v 5)) (.i 1)) (.ix (.ix (.v 2) (.v 6)) (.i 0))) (.p (.a 7 (.tup (.q (.ix (.ix (.v 2) (.v 5)) (.i 0)) (.ix (.ix (.v 2) (.v 6)) (.i 1)) (.blt .tuple (.o Et))))) (.asg (.sub (.v 4) (.tup (.p (.v 5) (.v 6)))) (.ite (.cmp .inn (.v 7) (.v 2)) (.bm .index (.v 2) (.o (.v 7))) (.neg (.i 1))))))
noncomputable def J8:Br:=.for_ (.name 6) (.O6 (.l (.v 2))) Aq
noncomputable def Eu:o6:=.o J8
noncomputable def Ew:Br:=.for_ (.name 5) (.O6 (.l (.v 2))) Eu
noncomputable def Ey:Ex:=.comp true 3 (.names [8,9,10]) (.val (.v 2)) (.blt .max (.p (.v 8) (.v 9)))
noncomputable def J9:o6:=.p (.a 1 (.cut (.v 1) .none (.some (.neg (.i 1))))) (.a 2 (.call 16 (.o (.v 1))))
noncomputable def Ez:Br:=.whl (.cmp .gt (.l (.v 2)) (.i 5)) J9
noncomputable def My:o6:=.c (.a 1 (.call 15 (.o (.v 0)))) (.c (.a 2 (.call 16 (.o (.v 1)))) (.c Ez (.c (.a 3 (.bin .add (.i 1) (.blt .max (.o (.bin .add Ey (.Kp (.o (.i 0)))))))) (.c (.f (.cmp .eq (.v 2) (.Kp .z)) (.o (.a 3 (.bin .add (.i 1) (.call 14 (.p (.v 0) (.i 3))))))) (.q (.a 4 .ajn) Ew (.ret (.tup (.q (.v 3) (.blt .tuple (.o Es)) (.v 4)))))))))
noncomputable def Mz:Fn:=⟨1,8,My⟩
noncomputable def Jg:Ex:=.Dg true 1 (.name 2) (.O6 (.l (.ix (.v 0) (.i 1)))) (.cmp .eq (.ix (.ix (.ix (.v 0) (.i 1)) (.v 2)) (.i 0)) (.v 1)) (.v 2)
noncomputable def Ui:o6:=.o (.ret (.bin .add (.Kp (.o (.neg (.i 1)))) Jg))
noncomputable def Uj:Fn:=⟨2,2,Ui⟩
noncomputable def Qn:o6:=.o (.ret (.ite (.cmp .lt (.v 2) (.i 0)) (.v 1) (.ix (.ix (.ix (.v 0) (.i 1)) (.v 2)) (.i 1))))
noncomputable def Qo:Fn:=⟨3,3,Qn⟩
noncomputable def Fv:o6:=.p (.f (.or (.cmp .lt (.v 1) (.i 0)) (.cmp .lt (.v 2) (.i 0))) (.o (.ret (.bin .add (.bin .add (.v 1) (.v 2)) (.i 1))))) (.ret (.ix (.ix (.v 0) (.i 2)) (.tup (.p (.v 1) (.v 2)))))
noncomputable def Fw:Fn:=⟨3,3,Fv⟩
noncomputable def Wc:o6:=.o (.ret (.and (.call 22 (.p (.v 0) (.v 1))) (.and (.call 23 (.p (.v 0) (.v 1))) (.call 24 (.p (.v 0) (.v 1))))))
noncomputable def Wd:Fn:=⟨2,2,Wc⟩
noncomputable def Jh:Ex:=.comp true 1 (.name 3) (.val (.v 2)) (.cmp .ge (.v 3) (.i 0))
noncomputable def Uk:o6:=.p (.a 2 (.ix (.v 1) (.i 0))) (.ret (.and (.cmp .eq (.l (.v 2)) (.meth (.v 0) 0 .z)) (.blt .all (.o Jh))))
noncomputable def Ul:Fn:=⟨2,3,Uk⟩
noncomputable def Kw:Ex:=.comp true 1 (.name 7) (.val (.v 5)) (.chain .le .lt (.i 0) (.v 7) (.ix (.v 2) (.ix (.v 6) (.i 1))))
noncomputable def G4:o6:=.p (.f (.cmp .ne (.l (.v 5)) (.ix (.v 2) (.ix (.v 6) (.i 0)))) (.o (.ret (.cst (.bl false))))) (.f (.not (.blt .all (.o Kw))) (.o (.ret (.cst (.bl false)))))
noncomputable def Ra:Br:=.for_ (.names [5,6]) (.zip (.v 3) (.v 4)) G4
noncomputable def We:o6:=.c (.a 2 (.ix (.v 1) (.i 0))) (.c (.a 3 (.ix (.v 1) (.i 1))) (.c (.a 4 (.meth (.v 0) 1 .z)) (.q (.f (.cmp .ne (.l (.v 3)) (.l (.v 4))) (.o (.ret (.cst (.bl false))))) Ra (.ret (.cst (.bl true))))))
noncomputable def Wf:Fn:=⟨2,7,We⟩
noncomputable def Dc:o6:=.o (.f (.cmp .ne (.call 25 (.q (.v 1) (.v 6) (.v 3))) (.call 25 (.q (.v 1) (.v 5) (.v 4)))) (.o (.ret (.cst (.bl false)))))
noncomputable def Li:Br:=.for_ (.names [5,6]) (.enm (.ix (.ix (.v 1) (.i 1)) (.v 2))) Dc
noncomputable def Dd:o6:=.p (.a 4 (.meth (.v 0) 2 (.p (.v 2) (.v 3)))) Li
noncomputable def Lj:Br:=.for_ (.names [2,3]) (.val (.call 7 (.o (.meth (.v 0) 1 .z)))) Dd
noncomputable def Pr:o6:=.p Lj (.ret (.cst (.bl true)))
noncomputable def Pu:Fn:=⟨2,7,Pr⟩
noncomputable def amy:o6:=.p (.f (.cmp .eq (.v 2) (.i (-1))) (.o (.ret (.v 1)))) (.ret (.ix (.ix (.ix (.v 0) (.i 1)) (.v 2)) (.v 1)))
noncomputable def amz:Fn:=⟨3,3,amy⟩
noncomputable def acx:o6:=.o (.ret (.blt .sum (.o (.ix (.v 0) (.i 0)))))
noncomputable def acy:Fn:=⟨1,1,acx⟩
noncomputable def Dt:o6:=.o (.expr (.bm .append (.v 3) (.o (.call 28 (.q (.v 4) (.ix (.v 2) (.ix (.v 5) (.i 0))) (.ix (.v 2) (.ix (.v 5) (.i 1))))))))
noncomputable def Nb:Br:=.for_ (.names [4,5]) (.zip (.ix (.v 1) (.i 1)) (.meth (.v 0) 1 .z)) Dt
noncomputable def Rb:o6:=.q (.a 3 (.lst .z)) Nb (.ret (.tup (.p (.ix (.v 1) (.i 0)) (.blt .tuple (.o (.v 3))))))
noncomputable def Rc:Fn:=⟨3,6,Rb⟩
noncomputable def Bo:o6:=.o (.asg (.sub (.v 3) (.ix (.v 1) (.v 4))) (.ix (.v 2) (.v 5)))
noncomputable def Hl:Br:=.for_ (.names [4,5]) (.enm (.v 0)) Bo
noncomputable def Ka:o6:=.q (.a 3 (.blt .list (.o (.v 0)))) Hl (.ret (.blt .tuple (.o (.v 3))))
noncomputable def Kc:Fn:=⟨3,6,Ka⟩
noncomputable def Ln:Ex:=.comp true 1 (.name 13) (.val (.ix (.v 1) (.v 6))) (.ite (.cmp .eq (.v 13) (.v 12)) (.v 11) (.v 13))
noncomputable def Bv:o6:=.c (.a 9 (.ix (.ix (.v 1) (.v 5)) (.v 8))) (.q (.a 10 (.ix (.ix (.v 1) (.v 6)) (.ix (.ix (.v 2) (.v 4)) (.v 8)))) (.f (.cmp .ne (.bm .get (.v 7) (.p (.v 9) (.v 10))) (.v 10)) (.c (.a 11 (.blt .min (.p (.ix (.v 7) (.v 9)) (.v 10)))) (.c (.a 12 (.blt .max (.p (.ix (.v 7) (.v 9)) (.v 10)))) (.c (.asg (.sub (.v 1) (.v 6)) Ln) (.q (.a 3 (.cst (.bl true))) (.a 7 .afm) .brk))))) (.asg (.sub (.v 7) (.v 9)) (.v 10)))
noncomputable def Lp:Br:=.for_ (.name 8) (.O6 (.l (.ix (.v 1) (.v 5)))) Bv
noncomputable def De:o6:=.q (.asg (.tg (.names [5,6])) (.ix (.ix (.v 0) (.i 1)) (.v 4))) (.a 7 .afm) Lp
noncomputable def Lq:Br:=.for_ (.name 4) (.O6 (.l (.ix (.v 0) (.i 1)))) De
noncomputable def Gp:o6:=.p (.a 3 (.cst (.bl false))) Lq
noncomputable def Gq:Br:=.whl (.v 3) Gp
noncomputable def Px:o6:=.q (.a 3 (.cst (.bl true))) Gq (.ret (.v 1))
noncomputable def Py:Fn:=⟨3,13,Px⟩
noncomputable def Hm:Ex:=.comp true 1 (.name 19) (.val (.v 16)) (.l (.v 19))
noncomputable def Hn:Ex:=.comp true 1 (.name 19) (.val (.v 18)) (.bm .index (.ix (.v 16) (.v 12)) (.o (.v 19)))
noncomputable def Ho:Ex:=.comp true 1 (.name 19) (.val (.ix (.v 16) (.v 11))) (.ix (.ix (.v 13) (.v 12)) (.ix (.ix (.v 9) (.v 10)) (.v 19)))
noncomputable def Du:o6:=.q (.asg (.tg (.names [11,12])) (.ix (.ix (.v 1) (.i 1)) (.v 10))) (.a 18 Ho) (.expr (.bm .append (.v 17) (.o (.blt .tuple (.o Hn)))))
noncomputable def Nf:Br:=.for_ (.name 10) (.O6 (.l (.ix (.v 1) (.i 1)))) Du
noncomputable def Hq:Ex:=.comp true 1 (.name 19) (.val (.v 13)) (.blt .Fq (.o (.v 19)))
noncomputable def Ng:Ex:=.comp true 1 (.name 19) (.val (.ix (.v 13) (.v 5))) (.ite (.cmp .eq (.v 19) (.v 15)) (.v 14) (.v 19))
noncomputable def Ca:o6:=.c (.a 5 (.call 14 (.p (.v 0) (.ix (.v 1) (.i 0))))) (.q (.a 11 (.call 14 (.p (.v 0) (.i 7)))) (.a 12 (.call 14 (.p (.v 0) (.i 7)))) (.f (.cmp .lt (.blt .max (.p (.v 11) (.v 12))) (.l (.ix (.v 13) (.v 5)))) (.c (.a 14 (.blt .min (.p (.ix (.ix (.v 13) (.v 5)) (.v 11)) (.ix (.ix (.v 13) (.v 5)) (.v 12))))) (.q (.a 15 (.blt .max (.p (.ix (.ix (.v 13) (.v 5)) (.v 11)) (.ix (.ix (.v 13) (.v 5)) (.v 12))))) (.asg (.sub (.v 13) (.v 5)) Ng) (.a 13 (.call 29 (.q (.v 1) (.v 13) (.v 9))))))))
noncomputable def Nh:Br:=.for_ (.name 10) (.O6 (.call 14 (.p (.v 0) (.i 4)))) Ca
noncomputable def Hr:Ex:=.comp false 1 (.name 19) (.val (.v 3)) (.aad (.l (.v 19)))
noncomputable def Hs:Ex:=.comp true 3 (.names [19,20,21]) (.val (.ix (.v 3) (.v 11))) (.bm .index (.ix (.v 3) (.v 12)) (.o (.tup (.q (.v 19) (.v 20) (.call 20 (.q (.v 1) (.v 21) (.v 10)))))))
noncomputable def Ht:o6:=.p (.asg (.tg (.names [11,12])) (.ix (.ix (.v 1) (.i 1)) (.v 10))) (.expr (.bm .append (.v 9) (.o Hs)))
noncomputable def Ni:Br:=.for_ (.name 10) (.O6 (.l (.ix (.v 1) (.i 1)))) Ht
noncomputable def Hu:Ex:=.comp true 1 (.name 19) (.val (.v 3)) (.l (.v 19))
noncomputable def Dw:o6:=.o (.expr (.bm .append (.ix (.v 3) (.v 7)) (.o (.tup (.q (.v 4) (.v 5) (.v 8))))))
noncomputable def Nj:Br:=.for_ (.names [7,8]) (.val (.v 6)) Dw
noncomputable def Hv:Ex:=.comp true 1 (.name 19) (.val (.call 18 (.p (.v 1) (.v 5)))) (.tup (.p (.call 19 (.q (.v 1) (.v 5) (.v 19))) (.v 19)))
noncomputable def Cd:o6:=.q (.a 5 (.call 14 (.p (.v 0) (.ix (.v 1) (.i 0))))) (.a 6 Hv) (.f (.cmp .lt (.bin .add (.blt .max (.o Hu)) (.l (.v 6))) (.i 8)) (.o Nj))
noncomputable def Nk:Br:=.for_ (.name 4) (.O6 (.call 14 (.p (.v 0) (.bin .add (.v 2) (.i 1))))) Cd
noncomputable def Lr:Ex:=.comp true 1 (.name 19) (.O6 (.ix (.v 1) (.i 0))) (.lst .z)
noncomputable def Rf:o6:=.c (.a 3 Lr) (.c Nk (.c (.a 9 (.lst .z)) (.c Ni (.c (.a 13 Hr) (.c Nh (.c (.a 16 Hq) (.q (.a 17 (.lst .z)) Nf (.ret (.tup (.p (.blt .tuple (.o Hm)) (.blt .tuple (.o (.v 17)))))))))))))
noncomputable def Rg:Fn:=⟨3,19,Rf⟩
noncomputable def Gr:Ex:=.comp true 1 (.name 5) (.O6 (.v 3)) (.bm .pop (.v 4) (.o (.call 14 (.p (.v 0) (.l (.v 4))))))
noncomputable def Df:o6:=.p (.a 4 (.aad (.v 3))) (.expr (.bm .append (.v 2) (.o (.blt .tuple (.o Gr)))))
noncomputable def Ls:Br:=.for_ (.name 3) (.val (.ix (.v 1) (.i 0))) Df
noncomputable def Pz:o6:=.q (.a 2 (.lst .z)) Ls (.ret (.blt .tuple (.o (.v 2))))
noncomputable def P0:Fn:=⟨2,5,Pz⟩
noncomputable def Fb:o6:=.o (.f (.cmp .ne (.call 25 (.q (.v 1) (.v 8) (.v 6))) (.call 25 (.q (.v 1) (.call 25 (.q (.v 1) (.v 8) (.v 3))) (.v 4)))) (.o (.ret (.cst (.bl false)))))
noncomputable def Kd:Br:=.for_ (.name 8) (.O6 (.ix (.ix (.v 1) (.i 0)) (.v 2))) Fb
noncomputable def Fe:o6:=.o (.f (.cmp .ne (.meth (.v 0) 2 (.p (.v 6) (.v 7))) (.meth (.v 0) 2 (.p (.v 3) (.meth (.v 0) 2 (.p (.v 4) (.v 7)))))) (.o (.ret (.cst (.bl false)))))
noncomputable def Ke:Br:=.for_ (.name 7) (.val (.meth (.v 0) 3 (.o (.v 5)))) Fe
noncomputable def Np:o6:=.c (.a 5 (.meth (.v 0) 4 (.p (.meth (.v 0) 4 (.p (.v 2) (.v 3))) (.v 4)))) (.c (.a 6 (.meth (.v 0) 2 (.p (.v 3) (.v 4)))) (.c (.f (.cmp .ne (.meth (.v 0) 4 (.p (.v 2) (.v 6))) (.v 5)) (.o (.ret (.cst (.bl false))))) (.q Ke Kd (.ret (.cst (.bl true))))))
noncomputable def Nq:Fn:=⟨5,9,Np⟩
noncomputable def Fy:Ex:=.comp true 1 (.name 2) (.O6 (.l (.v 1))) (.bm .Hd (.v 1) (.o (.v 2)))
noncomputable def Ji:Ex:=.comp true 1 (.name 1) (.val (.v 0)) (.blt .tuple (.o Fy))
noncomputable def Um:o6:=.o (.ret (.blt .tuple (.o Ji)))
noncomputable def Uo:Fn:=⟨1,1,Um⟩
noncomputable def aan:o6:=.o (.f (.not (.call 32 (.c (.v 3) (.c (.v 4) (.q (.v 5) (.v 6) (.v 7)))))) (.o (.ret (.cst (.bl false)))))
noncomputable def ahj:Br:=.for_ (.name 7) (.val (.meth (.v 3) 3 (.o (.meth (.v 3) 4 (.p (.v 5) (.v 6)))))) aan
noncomputable def aao:o6:=.o ahj
noncomputable def ahk:Br:=.for_ (.name 6) (.val (.meth (.v 3) 3 (.o (.v 5)))) aao
noncomputable def aap:o6:=.o ahk
noncomputable def ahl:Br:=.for_ (.name 5) (.O6 (.ix (.v 2) (.i 0))) aap
noncomputable def aw8:o6:=.c (.a 1 (.call 13 (.p (.v 0) (.i 0)))) (.c (.a 2 (.call 17 (.o (.v 1)))) (.c (.a 3 (.make 2 (.q (.ix (.v 2) (.i 0)) (.ix (.v 2) (.i 1)) (.ix (.v 2) (.i 2))))) (.c (.a 4 (.call 30 (.q (.v 1) (.v 2) (.i 4)))) (.c ahl (.c (.a 8 (.call 31 (.p (.v 1) (.v 4)))) (.q (.a 9 (.call 27 (.q (.v 3) (.v 4) (.v 8)))) (.f (.or (.cmp .Yp (.call 21 (.p (.v 3) (.v 9))) (.cst (.bl true))) (.cmp .ne (.call 26 (.o (.v 9))) (.call 26 (.o (.v 4))))) (.o (.ret (.cst (.bl false))))) (.ret (.cmp .eq (.call 27 (.q (.v 3) (.v 9) (.call 33 (.o (.v 8))))) (.v 4)))))))))
noncomputable def am0:Fn:=⟨1,10,aw8⟩
noncomputable def prog:Prog:=⟨[Jy,Lb,J0,J2,Mr,Jf,Il,Lf,Eo,Mt,Pk,Mv,Hh,Ku,Mx,Cq,Pq,Mz,Uj,Qo,Fw,Wd,Ul,Wf,Pu,amz,acy,Rc,Kc,Py,Rg,P0,Nq,Uo,am0],[⟨0,[]⟩,⟨0,[]⟩,⟨0,[(0,1),(1,2),(2,3),(3,4),(4,5)]⟩]⟩
set_option genInjectivity true in
structure F where
 a:Nat
 b:Nat
 r:List Nat
 deriving DecidableEq
noncomputable def nD(x:Nat):D:=.int (x:Int)
noncomputable def Ed(r:Y3):D:=.tup (r.map nD)
noncomputable def F.toD(f:F):D:=.tup [.int f.a,.int f.b,Ed f.r]
def ahm(x y:Nat):decide ((x:Int)=(y:Int))=decide (x=y):=by
 by_cases h:x=y
 . simp[h]
 . have:¬((x:Int)=(y:Int)):=by lia
   simp[h,this]
def Ir(M:di)(n x y:Nat):Ih M (n+1) (.int x) (.int y)=some (decide (x=y)):=by rw[ahg,ahm]
theorem aaq(M:di)(n:Nat):∀r s:List Nat,Ph (Ih M (n+1)) (r.map nD) (s.map nD)=some (decide (r=s))
 |[],[]=>by simp[Ph]|[],_::_=>by simp[Ph]|_::_,[]=>by simp[Ph]
 |x::r,y::s=>by
  rw[ie,ie,Bt (a:=nD x) (b:=nD y) (Ir M n x y) (aaq M n r s)]
  by_cases h:x=y<;>simp[h]
def afs(M:di)(r s:Y3):yd M (Ed r) (Ed s)=some (decide (r=s)):=aaq M 4 r s
def bcx(M:di)(f g:F):yd M f.toD g.toD=some (decide (f=g)):=by obtain⟨a,b,r⟩:=f;obtain⟨c,d,s⟩:=g;have e:Ih M 5 (Ed r) (Ed s)=some (decide (r=s)):=aaq M 3 r s;show Ph (Ih M 5) [.int a,.int b,Ed r] [.int c,.int d,Ed s]=_;rw[Bt (Ir M 4 a c) (Bt (Ir M 4 b d) (Bt e (show Ph (Ih M 5) [] []=some true from rfl)))];simp
theorem am1(M:di)(g:F):∀fs:List F,O7 M g.toD (fs.map F.toD)=some (fs.map λf=>decide (f=g))
 |[]=>rfl|f::fs=>by simp only[ie,O7,bcx,am1 M g fs]
def am2(M:di)(g:F)(fs:List F):memD M g.toD (fs.map F.toD)=some (decide (g∈fs)):=by
 rw[memD,am1,v8]
 congr 1
 induction fs with
 |nil=>simp
 |cons f fs ih =>
  by_cases h:f=g
  . simp[h]
  . simp only[ie,List.any_cons,ih,cu,id]
    simp[h,j6 h]
noncomputable def pos(g:F):List F->Nat
 |[]=>0|f::fs=>if f=g then 0 else pos g fs+1
def a5s(M:di)(g:F)(fs:List F):Q3 M g.toD (fs.map F.toD)=if g∈fs then some (pos g fs) else none:=by
 rw[Q3,am1,q9]
 induction fs with
 |nil=>simp
 |cons f fs ih =>
  rw[ie,List.findIdx?_cons,ih,pos]
  by_cases h:f=g
  . simp[h]
  . by_cases h2:g∈fs<;>simp[h,j6 h,h2]
theorem aar(g:F):∀{fs:List F},g∈fs->fs[pos g fs]?=some g
 |f::fs,h=>by
  by_cases e:f=g
  . simp[pos,e]
  . have:g∈fs:=by
     rcases cu.mp h with q|q
     . exact absurd q.symm e
     . exact q
    simp[pos,e,aar g this]
def aft(nd:fs.Nodup)(h:fs[i]?=some f):pos f fs=i:=by have m:f∈fs:=aq h;have g:=aar f m;obtain⟨l1,e1⟩:=ak.mp h;obtain⟨l2,e2⟩:=ak.mp g;exact(vd nd).mp (e2.trans e1.symm)
noncomputable def F.comp(f g:F):F:=⟨f.a,g.b,f.r.map λx=>g.r.getD x 0⟩
noncomputable def F.Pa(f:F):Prop:=f.a=f.b/\f.r=List.range f.r.length
instance (f:F):Decidable f.Pa:=inferInstanceAs (Decidable (_/\_))
structure X3(sz:Nat->Nat)(f:F):Prop where
 a:f.a<3
 b:f.b<3
 len:f.r.length=sz f.a
 ran:∀x∈f.r,x<sz f.b
noncomputable def Sz(sz:Nat->Nat):Prop:=∀k,1<=sz k/\sz k<=4
noncomputable def Good(sz:Nat->Nat)(fs:List F):Prop:=∀f∈fs,X3 sz f
def getD_mem{r:Y3}(h:x<r.length):r.getD x 0∈r:=by rw[bc,bz h];exact ph h
theorem X3.comp(hf:X3 sz f)(hg:X3 sz g)(h:f.b=g.a):X3 sz (f.comp g):=by
 refine⟨hf.a,hg.b,by simp[F.comp,hf.len],λx hx=>?_⟩;obtain⟨y,hy,rfl⟩:=bf.mp hx;have:y<g.r.length:=by rw[hg.len,<- h];exact hf.ran y hy
 exact hg.ran _ (getD_mem this)
def acz(r:Y3):(List.range r.length).map (λx=>r.getD x 0)=r:=by
 apply zu;intro i
 by_cases h:i<r.length
 . simp[h,yp h]
 . simp[Nat.le_of_not_lt h,p7]
def afu(hf:X3 sz f)(hg:X3 sz g)(e1:f.b=g.a):(f.comp g).comp h=f.comp (g.comp h):=by
 simp only[F.comp,um,F.mk.injEq,true_and];apply p8;intro x hx;have:x<g.r.length:=by rw[hg.len,<- e1];exact hf.ran x hx
 simp[this]
noncomputable def idF(sz:Nat->Nat)(k:Nat):F:=⟨k,k,List.range (sz k)⟩
def aas(hf:X3 sz f)(h:f.Pa):f=idF sz f.a:=by obtain⟨a,b,r⟩:=f;obtain⟨h1,h2⟩:=h;have:=hf.len;simp only[idF] at *;subst h1;rw[<- this,<- h2]
def id_comp(hf:X3 sz f):(idF sz f.a).comp f=f:=by obtain⟨a,b,r⟩:=f;have:=hf.len;simp only[idF,F.comp] at *;rw[<- this,acz]
def comp_id(hf:X3 sz f):f.comp (idF sz f.b)=f:=by
 obtain⟨a,b,r⟩:=f;have:=hf.ran;simp only[idF,F.comp,F.mk.injEq,true_and] at *
 conv=>rhs;rw[<- List.map_id r]
 apply p8;intro x hx;simp[yp (this x hx)]
noncomputable def Nr(fs:List F):Prop:=∀f∈fs,∀g∈fs,f.b=g.a->f.comp g∈fs\/(f.comp g).Pa
def call_of(hm:1<=m)(hf:prog.fns[f]?=some Fx):prog.call m f ds M=Fx.run ⟨prog.call (m-1),prog.cls⟩ ds M:=by obtain⟨n,rfl⟩:∃n,m=n+1:=⟨m-1,by lia⟩;simp[Prog.call,hf]
noncomputable def ayu(n:Int)(f:Bool):Prop:=0<=n/\(f=false->n<2147483647)
noncomputable def Th(t:Nat)(f:Bool)(M:di):Prop:=∃n,M[t]?=some (.lst [.int n,.bl f])/\ayu n f
structure St(t:Nat)(f:Bool)(M M':di):Prop where
 len:M.length<=M'.length
 has:Th t f M'
 keep:∀(a:Nat)(o:MO),a≠t->M[a]?=some o->M'[a]?=some o
def St.trans(a:St t f M M1)(b:St t f M1 M2):St t f M M2 :=
 ⟨iu a.len b.len,b.has,λx o n h=>b.keep x o n (a.keep x o n h)⟩
def St.of(h:Th t f M)(k:yt M M'):St t f M M' :=
 ⟨k.len,let ⟨n,a,b⟩:=h;⟨n,k _ _ a,b⟩,λa o _ e=>k a o e⟩
def Bp(hm:1<=m)(hs:Th t f M)(hp:0<many)(hq:many<1073741824) :
 ∃(v:Nat)(M':di),prog.call m 14 [.ref t,.int many] M=.ok (.int v) M'/\(v:Int)<many/\St t f M M'/\M'.length=M.length:=by
 obtain⟨n,h,hn⟩:=hs;rw[call_of hm rfl];have hl:=jt h;have g0:=Cj hl (i:=0) (by decide) rfl;have g1:=Cj hl (i:=1) (by decide) rfl;have fin:∀n':Int,ayu n' f->St t f M (M.set t (.lst [.int n',.bl f])):=λn' o=>⟨by simp,⟨n',ur h,o⟩,λa u e q=>by rw[qu (j6 e)];exact q⟩
 have hm0:many≠0:=by lia
 have c1:∀y:Int,∃v:Nat,y%many=(v:Int)/\(v:Int)<many:=λy=>by have a:=Aw y hm0;have b:=zc y hp;exact⟨(y%many).toNat,by lia,by lia⟩
 cases f with
 |true =>
  obtain⟨v,e,l⟩:=c1 n;refine⟨v,_,?_,l,fin (n / many) ⟨Int.ediv_nonneg hn.1 (by lia),by simp⟩,by simp⟩;simp[Fn.run,Mx,Mw,g0,g1,hp,Yt _ _ hp hq,Vj h,e]
 |false =>
  have h1:=hn.1;have h2:=hn.2 rfl;obtain⟨n',en⟩:∃n',(n*48271+29)%2147483647=n':=⟨_,rfl⟩;have e1:0<=n':=en▸Aw _ (by decide)
  have e2:n'<2147483647:=en▸zc _ (by decide)
  obtain⟨x,ex⟩:∃x,(n'*n'+39373*n'+7)%2147483629=x:=⟨_,rfl⟩;have x1:0<=x:=ex▸Aw _ (by decide)
  have x2:x<2147483629:=ex▸zc _ (by decide)
  obtain⟨y,ey⟩:∃y,(x*x+16807*x)%2147483587=y:=⟨_,rfl⟩;obtain⟨v,e,l⟩:=c1 (y / 8);refine⟨v,_,?_,l,fin n' ⟨e1,λ_=>e2⟩,by simp⟩;have k:=ur (o:=.lst [.int n',.bl false]) h;have k0:=Cj (jt k) (i:=0) (by decide) rfl;simp[Fn.run,Mx,Mw,g0,g1,hp,Vj h,Mp n 48271 (.inr (by decide)),en,k0,Mp n' n' (.inl (by lia)),Mp 39373 n' (.inl (by decide)),ex,Mp x x (.inl (by lia)),Mp 16807 x (.inl (by decide)),ey,Yt _ 8 (by decide) (by decide),e]
def ahn{k:Nat}{ns:Xs}(hm:1<=m):prog.call m 12 [.fz (ns.map D.int),.int k] M=.ok (.int (ns.getD k 0)) M:=by
 rw[call_of hm rfl]
 by_cases hk:k<ns.length
 . simp[Fn.run,Hh,Hg,amv,hk,a5p (ds:=ns.map D.int) (i:=k) (x:=.int (ns.getD k 0)) q_ (by simp[hk])]
 . simp[Fn.run,Hh,Hg,amv,hk]
def am3{k:Nat}{ns:Xs}(hm:2<=m):∃n f,prog.call m 13 [.fz (ns.map D.int),.int k] M=.ok (.ref M.length) (M++[.lst [.int n,.bl f]])/\ayu n f:=by
 rw[call_of (a_ (by decide) hm) rfl]
 by_cases h:(10:Int) ^ 18<=ns.getD k 0
 . refine⟨ns.getD k 0-10 ^ 18,true,?_,by lia,by simp⟩
   have h':(1000000000000000000:Int)<=ns[k]?.getD 0:=by simpa using h
   simp[Fn.run,Ku,Ks,ahn (show 1<=m-1 by exact r_ hm),h',MW.new]
 . refine⟨ns.getD k 0%2147483647,false,?_,Aw _ (by decide),λ_=>zc _ (by decide)⟩
   have h':¬(1000000000000000000:Int)<=ns[k]?.getD 0:=by simpa using h
   simp[Fn.run,Ku,Ks,ahn (show 1<=m-1 by exact r_ hm),h',MW.new]
def aho(n:Nat)(i:Nat)(M:di)(h:i<n):(Src.con ((List.range n).map λ(k:Nat)=>D.int (k:Int))).item i M=some (.int i):=by simp[Src.item,yp h]
def ahp(n:Nat):(Src.con ((List.range n).map λ(k:Nat)=>D.int (k:Int))).len=n:=by simp[Src.len]
def am4{K:Nat}(hm:1<=m)(hs:Th t f M)(hK:K<=3) :
 ∃(Jj:Y3)(M':di),Hk.den ⟨prog.call m,prog.cls⟩ [D.ref t,a1,a2,a3,a4,a5,D.int K,a7,a8,a9,a10,a11] M=.ok (.vl (Jj.map nD)) M'/\Jj.length=K/\(∀x∈Jj,1<=x/\x<=3)/\St t f M M'/\M'.length=M.length:=by
 unfold Hk;rw[Mm];have hK':K<=100000:=a_ hK (by decide)
 simp[hK'];have h:=Jw (fin:=λ_=>true) (item:=(Src.con ((List.range K).map λ(k:Nat)=>D.int (k:Int))).item)
  (body:=λd M=>((prog.call m 14 [D.ref t,D.int 3] M).bind λy M2=>Gf .add (.int 1) y M2).bind λx M'=>Res.ok (some x) M')
  (λi xs M'=>∃Jj:List Nat,xs=Jj.map nD/\Jj.length=i/\(∀x∈Jj,1<=x/\x<=3)/\St t f M M'/\M'.length=M.length) (n:=K)
  (λi xs M' hi hI=>by
   obtain⟨Jj,rfl,rfl,h1,h2,h3⟩:=hI;obtain⟨v,M2,e,l,s2,l2⟩:=Bp hm h2.has (many:=3) (by decide) (by decide);refine⟨.int Jj.length,some (.int (1+v)),M2,aho K _ M' hi,by simp[e],Jj++[1+v],by simp[nD],by simp,λx hx=>?_,h2.trans s2,l2.trans h3⟩;rcases gh.mp hx with q|q
   . exact h1 x q
   . have:x=1+v:=by simpa using q
     lia) (λ_ _ _=>rfl) K 0 [] M (wu _) ⟨[],rfl,rfl,by simp,St.of hs (yt.refl M),rfl⟩
 obtain⟨ys,M',e,Jj,h1,h2,h3,h4,h5⟩:=h;refine⟨Jj,M',?_,h2,h3,h4,h5⟩;rw[Aj,ahp,cz hK',show(Src.con ((List.range _).map λ(k:Nat)=>D.int (k:Int))).fin=λ_=>true from rfl,e];simp at h1;simp[h1]
def ayv{Jj:Y3}(hm:1<=m)(hs:Th t f M)(h3:∀x∈Jj,1<=x/\x<=3)(hi:i<Jj.length)(hj:j<Jj.length) :
 ∃(r:Y3)(M':di),Hi.den ⟨prog.call m,prog.cls⟩ [D.ref t,a1,a2,a3,a4,a5,a6,D.vl (Jj.map nD),a8,a9,D.int i,D.int j] M=.ok (.vl (r.map nD)) M' /\
  r.length=Jj.getD i 0/\(∀x∈r,x<Jj.getD j 0)/\St t f M M'/\M'.length=M.length:=by
 unfold Hi;rw[Mm];have gi:=Cj (M:=M) (d:=.vl (Jj.map nD)) (i:=i) (x:=.int ((Jj.getD i 0:Nat):Int)) rfl q_ (by simp[hi,nD]);have gj:∀M',Ax (.vl (Jj.map nD)) (.int j) M'=some (.int ((Jj.getD j 0:Nat):Int)):=λM'=>Cj rfl q_ (by simp[hj,nD])
 have bi:=h3 _ (getD_mem hi);have bj:=h3 _ (getD_mem hj);generalize ea:Jj.getD i 0=a at *;generalize eb:Jj.getD j 0=b at *;have ha:a<=100000:=a_ bi.2 (by decide)
 simp[gi,gj,ha];have h:=Jw (fin:=λ_=>true) (item:=(Src.con ((List.range a).map λ(k:Nat)=>D.int (k:Int))).item)
  (body:=λd M=>(prog.call m 14 [D.ref t,D.int b] M).bind λx M'=>Res.ok (some x) M')
  (λi xs M'=>∃r:List Nat,xs=r.map nD/\r.length=i/\(∀x∈r,x<b)/\St t f M M'/\M'.length=M.length) (n:=a)
  (λi xs M' hi hI=>by
   obtain⟨r,rfl,rfl,h1,h2,h3⟩:=hI;obtain⟨v,M2,e,l,s2,l2⟩:=Bp hm h2.has (many:=b) (m_ bj.1) (m_ (c_ bj.2 (by decide)));refine⟨.int r.length,some (.int v),M2,aho a _ M' hi,by simp[e],r++[v],by simp[nD],by simp,λx hx=>?_,h2.trans s2,l2.trans h3⟩;rcases gh.mp hx with q|q
   . exact h1 x q
   . have:x=v:=by simpa using q
     exact c_ (f_ this) (o_ l)) (λ_ _ _=>rfl) a 0 [] M (wu _) ⟨[],rfl,rfl,by simp,St.of hs (yt.refl M),rfl⟩
 obtain⟨ys,M',e,r,h1,h2,h3,h4,h5⟩:=h;refine⟨r,M',?_,h2,h3,h4,h5⟩;rw[Aj,ahp,cz ha,show(Src.con ((List.range _).map λ(k:Nat)=>D.int (k:Int))).fin=λ_=>true from rfl,e];simp at h1;simp[h1]
def aat{v:Nat}{Jj:Y3}(hm:1<=m)(hs:Th t f M)(hK:Jj.length=K)(hK1:1<=K)(hK3:K<=3)(h3:∀x∈Jj,1<=x/\x<=3)(hp:M[p]?=some (.lst []))(hpt:p≠t) :
 ∃(fs:List F)(ρ':Env)(M':di),Hj.den ⟨prog.call m,prog.cls⟩ [D.ref t,D.int v,none,none,none,none,D.int K,D.vl (Jj.map nD),D.ref p,a9,a10,a11] M=.ok (.next,ρ') M' /\
  ρ'[8]?=some (some (.ref p))/\M'[p]?=some (.lst (fs.map F.toD))/\fs.length<=3/\Good (λk=>Jj.getD k 1) fs/\M.length<=M'.length/\Th t f M'/\(∀(a:Nat)(o:MO),a≠t->a≠p->M[a]?=some o->M'[a]?=some o):=by
 obtain⟨w,M1,e1,l1,s1,ll1⟩:=Bp hm hs (many:=4) (by decide) (by decide);unfold Hj;rw[Td];have hw:w<=100000:=e_ (b_ (o_ l1) (by decide))
 simp[e1,hw];obtain⟨ρ',M',e,fs,b9,b10,Qa,rfl,h1,h2,h4,h5,h6,h7⟩:=aam (n:=w) (body:=λd ρ M=>Dr.den ⟨prog.call m,prog.cls⟩ (ρ.set 9 (some d)) M)
  (λi ρ M'=>∃(fs:List F)(b9 b10 Qa:Option D),ρ=[some (.ref t),some (.int v),none,none,none,none,some (.int K),some (.vl (Jj.map nD)),some (.ref p),b9,b10,Qa] /\
   M'[p]?=some (.lst (fs.map F.toD))/\fs.length=i/\Good (λk=>Jj.getD k 1) fs/\M.length<=M'.length/\Th t f M'/\(∀(a:Nat)(o:MO),a≠t->a≠p->M[a]?=some o->M'[a]?=some o))
  (M:=M1) ⟨[],a9,a10,a11,rfl,by simpa using s1.keep p _ hpt hp,rfl,by intro f hf;simp at hf,s1.len,s1.has,λa o na _ h=>s1.keep a o na h⟩
  (λi ρ M2 hi hI=>by
   obtain⟨fs,b9,b10,Qa,rfl,g1,g2,g3,g4,g5,g6⟩:=hI;obtain⟨x,M3,ex,lx,sx,llx⟩:=Bp hm g5 (many:=K) (m_ hK1) (m_ (c_ hK3 (by decide)));obtain⟨y,M4,ey,ly,sy,lly⟩:=Bp hm sx.has (many:=K) (m_ hK1) (m_ (c_ hK3 (by decide)));obtain⟨r,M5,er,lr,rr,sr,llr⟩:=ayv (a1:=some (.int v)) (a2:=none) (a3:=none) (a4:=none) (a5:=none) (a6:=some (.int K)) (a8:=some (.ref p)) (a9:=some (.int i)) (i:=x) (j:=y) hm sy.has h3 (b_ (o_ lx) (g_ hK)) (b_ (o_ ly) (g_ hK));have gp:=sr.keep p _ hpt (sy.keep p _ hpt (sx.keep p _ hpt g1));have hl:(fs.map F.toD).length<100000:=by rw[gm];exact c_ (f_ g2) (b_ hi hw)
   refine⟨.next,_,M5.set p (.lst (fs.map F.toD++[F.toD ⟨x,y,r⟩])),?_,.inl rfl,fs++[⟨x,y,r⟩],some (.int i),some (.int x),some (.int y),rfl,?_,by simp[g2],?_,?_,?_,?_⟩
   . simp[Dr,ex,ey,er,Gz gp hl,Hf (sy.keep p _ hpt (sx.keep p _ hpt g1)),uc,F.toD,Ed]
   . rw[ur gp];simp
   . intro f hf
     rcases gh.mp hf with q|q
     . exact g3 f q
     . have:f=⟨x,y,r⟩:=by simpa using q
       subst this;refine⟨by show x<3;exact b_ (o_ lx) hK3,by show y<3;exact b_ (o_ ly) hK3,?_,?_⟩
       . show r.length=Jj.getD x 1
         rw[lr];simp[bc,bz (show x<Jj.length by exact b_ (o_ lx) (g_ hK))]
       . intro z hz
         have:=rr z hz;show z<Jj.getD y 1
         simp[bc,bz (show y<Jj.length by exact b_ (o_ ly) (g_ hK))] at this ⊢;exact this
   . have:=sr.len;have:=sy.len;have:=sx.len;simp;exact a_ g4 (a_ (g_ llx) (a_ (g_ lly) (g_ llr)))
   . obtain⟨n',q1,q2⟩:=sr.has
     exact⟨n',by rw[qu hpt];exact q1,q2⟩
   . intro a o na nb h
     rw[qu (j6 nb)];exact sr.keep a o na (sy.keep a o na (sx.keep a o na (g6 a o na nb h))))
 have e':Cu (Src.con ((List.range w).map λ(k:Nat)=>D.int (k:Int))).fin (Src.con ((List.range w).map λ(k:Nat)=>D.int (k:Int))).item (λd ρ M=>Dr.den ⟨prog.call m,prog.cls⟩ (ρ.set 9 (some d)) M) (Src.con ((List.range w).map λ(k:Nat)=>D.int (k:Int))).len 0 [some (.ref t),some (.int v),none,none,none,none,some (.int K),some (.vl (Jj.map nD)),some (.ref p),a9,a10,a11] M1=_:=e;exact⟨fs,[some (.ref t),some (.int v),none,none,none,none,some (.int K),some (.vl (Jj.map nD)),some (.ref p),b9,b10,Qa],M',e',rfl,h1,by lia,h4,h5,h6,h7⟩
def am5(hm:2<=m)(hs:Th t f M):∃(d:D)(M':di)(fs:List F)(sz:Nat->Nat),prog.call m 15 [.ref t] M=.ok d M'/\gf M' d=some (fs.map F.toD)/\(∀n,d=.ref n->n≠t)/\Sz sz/\Good sz fs/\fs.length<=3/\St t f M M':=by
 have hm1:1<=m-1:=r_ hm
 obtain⟨v,M1,e1,l1,s1,ll1⟩:=Bp hm1 hs (many:=12) (by decide) (by decide);rw[call_of (a_ hm1 C_) rfl]
 by_cases hv:v<7
 . have hv':(v:Int)<7:=m_ hv
   have key:∀(fs:List F)(sz:Nat->Nat),Cq.run ⟨prog.call (m-1),prog.cls⟩ [.ref t] M=.ok (.vl (fs.map F.toD)) M1->Sz sz->Good sz fs->fs.length<=3 ->
    ∃(d:D)(M':di)(fs:List F)(sz:Nat->Nat),Cq.run ⟨prog.call (m-1),prog.cls⟩ [.ref t] M=.ok d M'/\gf M' d=some (fs.map F.toD)/\(∀n,d=.ref n->n≠t)/\Sz sz/\Good sz fs/\fs.length<=3/\St t f M M' :=
    λfs sz a b c d=>⟨_,M1,fs,sz,a,rfl,λn h=>(by cases h),b,c,d,s1⟩
   have run:∀d,Ax (.vl [.vl [.tup [.int 0,.int 1,.tup [.int 0,.int 1]],.tup [.int 0,.int 1,.tup [.int 1,.int 0]]],.vl [.tup [.int 0,.int 1,.tup [.int 0,.int 0,.int 1,.int 1]],.tup [.int 0,.int 1,.tup [.int 0,.int 1,.int 0,.int 1]],.tup [.int 1,.int 0,.tup [.int 0,.int 3]]],
    .vl [.tup [.int 0,.int 0,.tup [.int 1,.int 0]]],.vl [.tup [.int 0,.int 0,.tup [.int 1,.int 2,.int 0]]],.vl [.tup [.int 0,.int 0,.tup [.int 0,.int 0]]],.vl [],.vl [.tup [.int 0,.int 1,.tup [.int 0,.int 1]],.tup [.int 1,.int 2,.tup [.int 0,.int 0,.int 1]]]]) (.int v) M1=some d ->
    Cq.run ⟨prog.call (m-1),prog.cls⟩ [.ref t] M=.ok d M1:=λd hd=>by simp[Fn.run,Cq,Kv,e1,hv',hd]
   have cs:v=0\/v=1\/v=2\/v=3\/v=4\/v=5\/v=6:=by lia
   rcases cs with rfl|rfl|rfl|rfl|rfl|rfl|rfl
   . refine key [⟨0,1,[0,1]⟩,⟨0,1,[1,0]⟩] (λ_=>2) ?_ (λk=>by simp) (λf hf=>?_) (by decide)
     . exact run _ rfl
     . simp at hf;rcases hf with rfl|rfl<;>exact⟨by decide,by decide,by decide,by decide⟩
   . refine key [⟨0,1,[0,0,1,1]⟩,⟨0,1,[0,1,0,1]⟩,⟨1,0,[0,3]⟩] (λk=>if k=0 then 4 else 2) ?_ (λk=>by dsimp only;split<;>omega) (λf hf=>?_) (by decide)
     . exact run _ rfl
     . simp at hf;rcases hf with rfl|rfl|rfl<;>exact⟨by decide,by decide,by decide,by decide⟩
   . refine key [⟨0,0,[1,0]⟩] (λ_=>2) ?_ (λk=>by simp) (λf hf=>?_) (by decide)
     . exact run _ rfl
     . simp at hf;subst hf;exact⟨by decide,by decide,by decide,by decide⟩
   . refine key [⟨0,0,[1,2,0]⟩] (λ_=>3) ?_ (λk=>by simp) (λf hf=>?_) (by decide)
     . exact run _ rfl
     . simp at hf;subst hf;exact⟨by decide,by decide,by decide,by decide⟩
   . refine key [⟨0,0,[0,0]⟩] (λ_=>2) ?_ (λk=>by simp) (λf hf=>?_) (by decide)
     . exact run _ rfl
     . simp at hf;subst hf;exact⟨by decide,by decide,by decide,by decide⟩
   . refine key [] (λ_=>1) ?_ (λk=>by simp) (λf hf=>?_) (by decide)
     . exact run _ rfl
     . simp at hf
   . refine key [⟨0,1,[0,1]⟩,⟨1,2,[0,0,1]⟩] (λk=>if k=1 then 3 else 2) ?_ (λk=>by dsimp only;split<;>exact⟨by decide,by decide⟩) (λf hf=>?_) (by decide)
     . exact run _ rfl
     . simp at hf;rcases hf with rfl|rfl<;>exact⟨by decide,by decide,by decide,by decide⟩
 . have hv':¬(v:Int)<7:=by lia
   obtain⟨u,M2,e2,l2,s2,ll2⟩:=Bp hm1 s1.has (many:=3) (by decide) (by decide);obtain⟨K,eK,hKu⟩:∃K:Nat,(1:Int)+(u:Int)=(K:Int)/\K=1+u:=⟨1+u,by lia,rfl⟩;obtain⟨Jj,M3,e3,l3,r3,s3,ll3⟩:=am4 (a1:=some (.int v)) (a2:=none) (a3:=none) (a4:=none) (a5:=none) (a7:=none) (a8:=none) (a9:=none) (a10:=none) (a11:=none) (K:=K) hm1 s2.has (by lia);have htl:t<M3.length:=by obtain⟨n,h,_⟩:=s3.has;exact xq h
   have h4:Th t f (M3++[.lst []]):=by obtain⟨n,h,o⟩:=s3.has;exact⟨n,v5 h,o⟩
   obtain⟨fs,ρ',M5,e5,q8,q1,q2,q3,q4,q5,q6⟩:=aat (v:=v) (K:=K) (p:=M3.length) (a9:=none) (a10:=none) (a11:=none) hm1 h4 l3 (by lia) (by lia) r3 (by simp) (i_ htl);refine⟨.ref M3.length,M5,fs,λk=>Jj.getD k 1,?_,jt q1,λn h=>by cases h;exact i_ htl,λk=>?_,q3,q2,?_⟩
   . simp[Fn.run,Cq,Kv,e1,hv',e2,eK,e3,MW.new,e5,q8]
   . show 1<=Jj.getD k 1/\Jj.getD k 1<=4
     by_cases h:k<Jj.length
     . have:=r3 _ (getD_mem h)
       simp[bc,h] at this ⊢;exact⟨this.1,a_ this.2 (by decide)⟩
     . simp[bc,h]
   . refine s1.trans (s2.trans (s3.trans ⟨?_,q5,λa o na h=>q6 a o na ?_ (v5 h)⟩))
     . have:=q4;simp at this;lia
     . have:=xq h;exact h_ this
structure Up(p:Nat)(M M':di):Prop where
 len:M'.length=M.length
 oth:∀a:Nat,a≠p->M'[a]?=M[a]?
def Up.refl(p:Nat)(M:di):Up p M M:=⟨rfl,λ_ _=>rfl⟩
theorem Up.trans(a:Up p M M1)(b:Up p M1 M2):Up p M M2:=⟨b.len.trans a.len,λx h=>(b.oth x h).trans (a.oth x h)⟩
theorem Up.set(p:Nat)(M:di)(o:MO):Up p M (M.set p o):=⟨by simp,λa h=>qu (j6 h)⟩
def Qp(h:M[p]?=some (.lst ds)):Q4 M x (.ref p)=memD M x ds:=by simp[Q4,h,yr,gf]
def Uq(f:F)(M:di):Ax f.toD (.int 0) M=some (.int f.a):=rfl
def Ur(f:F)(M:di):Ax f.toD (.int 1) M=some (.int f.b):=rfl
def am6(f:F)(M:di):Ax f.toD (.int 2) M=some (Ed f.r):=rfl
def Nt(M:di)(r:Y3)(n:Nat):yd M (Ed r) (.tup ((List.range n).map λ(k:Nat)=>D.int (k:Int)))=some (decide (r=List.range n)):=afs M r (List.range n)
def eq_nil(M:di)(r:Y3):yd M (Ed r) (.tup [])=some (decide (r=[])):=afs M r []
def Ba(M:di)(a b:Nat):yd M (.int a) (.int b)=some (decide (a=b)):=by rw[eq_int,ahm]
def Iu(M:di)(r:Y3):uc .len [Ed r] M=.ok (.int r.length) M:=by simp[uc,yr,Ed]
def Qq(M:di)(ds:List D):uc .tuple [.vl ds] M=.ok (.tup ds) M:=by simp[uc,yr]
def aau(M:di)(r:Y3):uc .tuple [.vl (r.map nD)] M=.ok (Ed r) M:=Qq M _
def afv(hz:Sz sz)(h:X3 sz f):1<=f.r.length/\f.r.length<=4:=by rw[h.len];exact hz _
def atc(M:di)(r:Y3):srcOf M (Ed r)=some (.con (r.map nD)):=rfl
def am7(M:di)(r:Y3)(h:x<r.length):Ax (Ed r) (.int x) M=some (.int (r.getD x 0)):=Kq q_ (by simp[h,nD])
def am8(hz:Sz sz)(hf:X3 sz f)(hg:X3 sz g)(h:f.b=g.a) :
 Gh.den W [a0,a1,a2,a3,a4,a5,a6,some f.toD,some g.toD,a9] M=.ok (.vl ((f.comp g).r.map nD)) M:=by
 have hsm:(f.r.map nD).length<=100000:=by rw[gm,hf.len];have:=hz f.a;exact a_ this.2 (by decide)
 unfold Gh;rw[Mm];simp[am6,atc];have:=ahh (M:=M) (ds:=f.r.map nD) (g:=λd=>match d with|.int i=>nD (g.r.getD i.toNat 0)|_=>.non)
  (body:=λd M=>((Res.qi (Ax (Ed g.r) d M) M).bind λx M'=>Res.ok (some x) M')) hsm (λd hd=>by
   obtain⟨x,hx,rfl⟩:=bf.mp hd;have hx':x<g.r.length:=by rw[hg.len,<- h];exact hf.ran x hx
   rw[show nD x=D.int (x:Int) from rfl,am7 M g.r hx'];simp[nD])
 rw[this];simp[F.comp,nD]
noncomputable def Ky(gs:List F)(f g:F):List F:=if f.b=g.a/\f.comp g∉gs/\¬(f.comp g).Pa then gs++[f.comp g] else gs
def afw(f g:F):D.tup [.int f.a,.int g.b,Ed (f.comp g).r]=(f.comp g).toD:=rfl
def Wg(hz:Sz sz)(hf:X3 sz f)(hg:X3 sz g)(hp:M[p]?=some (.lst (gs.map F.toD)))(hl:gs.length<100000) :
 ∃(b4 b9:Option D)(M':di),Bu.den W [a0,D.ref p,a2,a3,a4,a5,a6,some f.toD,some g.toD,a9] M=.ok (.next,[a0,some (.ref p),a2,a3,b4,a5,a6,some f.toD,some g.toD,b9]) M' /\
  M'[p]?=some (.lst ((Ky gs f g).map F.toD))/\Up p M M':=by
 by_cases h:f.b=g.a
 . have hc:=am8 (W:=W) (M:=M) (a0:=a0) (a1:=some (.ref p)) (a2:=a2) (a3:=a3) (a4:=some (.tup [])) (a5:=a5) (a6:=a6) (a9:=a9) hz hf hg h
   have hr:(f.comp g).r≠[]:=λe=>by have:=(afv hz (hf.comp hg h)).1;rw[e] at this;simp at this
   have hlen:(f.comp g).r.length<=100000:=by have:=(afv hz (hf.comp hg h)).2;exact a_ this (by decide)
   have Ie:=am2 M (f.comp g) gs;have e0:(f.comp g).a=f.a:=rfl;have e1:(f.comp g).b=g.b:=rfl;have ap:=Gz (d:=(f.comp g).toD) hp (by rw[gm];exact hl);have key:∃T:Res (Flow×Env),Bu.den W [a0,D.ref p,a2,a3,a4,a5,a6,some f.toD,some g.toD,a9] M=T/\(f.comp g∈gs->T=.ok (.next,[a0,some (.ref p),a2,a3,some (Ed (f.comp g).r),a5,a6,some f.toD,some g.toD,some (f.comp g).toD]) M)/\(f.comp g∉gs->(f.comp g).Pa->T=.ok (.next,[a0,some (.ref p),a2,a3,some (Ed (f.comp g).r),a5,a6,some f.toD,some g.toD,some (f.comp g).toD]) M) /\
    (f.comp g∉gs->¬(f.comp g).Pa->T=.ok (.next,[a0,some (.ref p),a2,a3,some (Ed (f.comp g).r),a5,a6,some f.toD,some g.toD,some (f.comp g).toD]) (M.set p (.lst ((gs++[f.comp g]).map F.toD)))):=by
    refine⟨_,(by simp[-eq_int,Bu,Uq,Ur,Ba,h,hc,aau,afw,eq_nil,hr,Qp hp,Ie];exact rfl),?_,?_,?_⟩
    . intro m;simp[m]
    . intro m i;simp[-eq_int,m,Uq,Ur,Ba,i.1,Iu,hlen,Nt,decide_eq_true i.2]
    . intro m i
      by_cases i1:(f.comp g).a=(f.comp g).b
      . have i2:¬(f.comp g).r=List.range (f.comp g).r.length:=λq=>i ⟨i1,q⟩
        simp[-eq_int,Uq,Ur,Ba,m,i1,Iu,hlen,Nt,i2,Hf hp,ap]
      . simp[-eq_int,Uq,Ur,Ba,m,i1,Iu,hlen,Nt,Hf hp,ap]
   obtain⟨T,e,k1,k2,k3⟩:=key
   by_cases m:f.comp g∈gs
   . exact⟨_,_,M,e.trans (k1 m),by rw[Ky,bx (λq=>q.2.1 m)];exact hp,Up.refl p M⟩
   . by_cases i:(f.comp g).Pa
     . exact⟨_,_,M,e.trans (k2 m i),by rw[Ky,bx (λq=>q.2.2 i)];exact hp,Up.refl p M⟩
     . exact⟨_,_,_,e.trans (k3 m i),by rw[Ky,cz ⟨h,m,i⟩,ur hp],Up.set _ _ _⟩
 . refine⟨some (.tup []),some (.tup [.int f.a,.int g.b,.tup []]),M,?_,by rw[Ky,bx (λq=>h q.1)];exact hp,Up.refl p M⟩
   have:=afs M [] [];simp[Ed] at this;simp[-eq_int,Bu,Uq,Ur,Ba,h,this]
structure Inv(sz:Nat->Nat)(gs:List F):Prop where
 good:Good sz gs
 nd:gs.Nodup
 nid:∀f∈gs,¬f.Pa
def Inv.snoc{sz:Nat->Nat}(h:Inv sz gs)(hf:X3 sz f)(hm:f∉gs)(hi:¬f.Pa):Inv sz (gs++[f]):=by
 refine⟨λx hx=>?_,?_,λx hx=>?_⟩
 . rcases gh.mp hx with q|q
   . exact h.good x q
   . have:x=f:=by simpa using q
     exact this▸hf
 . rw[yh]
   refine⟨h.nd,by simp,λa ha b hb=>?_⟩;have:b=f:=by simpa using hb
   exact λe=>hm (by rw[<- this,<- e];exact ha)
 . rcases gh.mp hx with q|q
   . exact h.nid x q
   . have:x=f:=by simpa using q
     exact this▸hi
noncomputable def Cl2(gs:List F)(f g:F):Prop:=f.b=g.a->f.comp g∈gs\/(f.comp g).Pa
def Cl2.mono(h:Cl2 gs f g)(s:gs <+: hs):Cl2 hs f g:=λe=>(h e).imp (λm=>s.subset m) id
def Nu(gs:List F)(f g:F):gs <+: Ky gs f g:=by
 unfold Ky;split
 . exact List.prefix_append _ _
 . exact List.prefix_rfl
def Wh(gs:List F)(f g:F):(Ky gs f g).length<=gs.length+1:=by unfold Ky;split<;>simp
set_option tactic.hygienic true in
def ac0(h:Inv sz gs)(hf:X3 sz f)(hg:X3 sz g):Inv sz (Ky gs f g):=by
 unfold Ky;split
 . rename_i q;exact h.snoc (hf.comp hg q.1) q.2.1 q.2.2
 . exact h
def ahq(gs:List F)(f g:F):Cl2 (Ky gs f g) f g:=by
 intro e;unfold Ky
 by_cases m:f.comp g∈gs
 . left;split
   . exact yg _ m
   . exact m
 . by_cases i:(f.comp g).Pa
   . exact .inr i
   . left;rw[cz ⟨e,m,i⟩];simp
def Rh{gs:List F}{i:Nat}(s:gs <+: hs)(h:gs[i]?=some f):hs[i]?=some f:=by obtain⟨t,rfl⟩:=s;rw[dm (ak.mp h).1];exact h
def Qc{gs:List F}{i:Nat}(hp:M[p]?=some (.lst (gs.map F.toD)))(h:gs[i]?=some f):Ax (.ref p) (.int i) M=some f.toD:=Cj (jt hp) q_ (by simp[h])
def Kz{gs:List F}(hp:M[p]?=some (.lst (gs.map F.toD))):uc .len [.ref p] M=.ok (.int gs.length) M:=by rw[len_list (jt hp)];simp
def ayx{k j:Nat}(hz:Sz sz)(hi:Inv sz gs)(hp:M[p]?=some (.lst (gs.map F.toD)))(hl:gs.length<90000)(hk:gs[k]?=some f)(hj:gs[j]?=some g) :
 ∃(b4 b7 b8 b9:Option D)(M':di),Gi.den W [a0,D.ref p,a2,a3,a4,D.int k,D.int j,a7,a8,a9] M=.ok (.next,[a0,some (.ref p),a2,a3,b4,some (.int k),some (.int j),b7,b8,b9]) M' /\
  M'[p]?=some (.lst ((Ky (Ky gs f g) g f).map F.toD))/\Up p M M':=by
 have hf:=hi.good f (aq hk);have hg:=hi.good g (aq hj);have l1:=Wh gs f g;obtain⟨b4,b9,M1,e1,p1,u1⟩:=Wg (W:=W) (M:=M) (a0:=a0) (a2:=a2) (a3:=a3) (a4:=a4) (a5:=some (.int k)) (a6:=some (.int j)) (a9:=a9) hz hf hg hp (b_ hl (by decide));obtain⟨c4,c9,M2,e2,p2,u2⟩:=Wg (W:=W) (M:=M1) (a0:=a0) (a2:=a2) (a3:=a3) (a4:=b4) (a5:=some (.int k)) (a6:=some (.int j)) (a9:=b9) hz hg hf p1 (by lia);refine⟨c4,some g.toD,some f.toD,c9,M2,?_,p2,u1.trans u2⟩;unfold Gi;rw[Td];simp[Qc hp hk,Qc hp hj,srcOf,Src.len,Src.fin,Cu,Src.item,e1,e2]
def ate{k:Nat}(hz:Sz sz)(hi:Inv sz gs)(hp:M[p]?=some (.lst (gs.map F.toD)))(hl:gs.length<10000)(hk:gs[k]?=some f) :
 ∃(hs:List F)(b4 b6 b7 b8 b9:Option D)(M':di),Gk.den W [a0,D.ref p,a2,a3,a4,D.int k,a6,a7,a8,a9] M=.ok (.next,[a0,some (.ref p),a2,a3,b4,some (.int k),b6,b7,b8,b9]) M' /\
  M'[p]?=some (.lst (hs.map F.toD))/\Up p M M'/\gs <+: hs/\Inv sz hs/\hs.length<=3*gs.length/\∀(j:Nat)(g:F),gs[j]?=some g->Cl2 hs f g/\Cl2 hs g f:=by
 unfold Gk;rw[Td];have hl':gs.length<=100000:=e_ (b_ hl (by decide))
 simp[Kz hp,hl'];obtain⟨ρ',M',e,hs,b4,b6,b7,b8,b9,rfl,h1,h2,h3,h4,h5,h6⟩:=aam (n:=gs.length) (body:=λd ρ M=>Gj.den W (ρ.set 6 (some d)) M)
  (λi ρ M'=>∃(hs:List F)(b4 b6 b7 b8 b9:Option D),ρ=[a0,some (.ref p),a2,a3,b4,some (.int k),b6,b7,b8,b9]/\M'[p]?=some (.lst (hs.map F.toD))/\Up p M M'/\gs <+: hs/\Inv sz hs/\hs.length<=gs.length+2*i /\
   ∀(j:Nat)(g:F),j<i->gs[j]?=some g->Cl2 hs f g/\Cl2 hs g f) (ρ:=[a0,D.ref p,a2,a3,a4,D.int k,a6,a7,a8,a9]) (M:=M)
  ⟨gs,a4,a6,a7,a8,a9,rfl,hp,Up.refl p M,List.prefix_rfl,hi,x_,λj g h=>absurd h (v7 _)⟩
  (λi ρ M2 Hb hI=>by
   obtain⟨hs,b4,b6,b7,b8,b9,rfl,g1,g2,g3,g4,g5,g6⟩:=hI;have gi:gs[i]?=some gs[i]:=by simp[Hb]
   obtain⟨c4,c7,c8,c9,M3,e3,p3,u3⟩:=ayx (W:=W) (M:=M2) (a0:=a0) (a2:=a2) (a3:=a3) (a4:=b4) (a7:=b7) (a8:=b8) (a9:=b9) hz g4 g1 (by lia) (Rh g3 hk) (Rh g3 gi);have hf:=g4.good f (aq (Rh g3 hk));have hg:=g4.good gs[i] (aq (Rh g3 gi));refine⟨.next,_,M3,?_,.inl rfl,Ky (Ky hs f gs[i]) gs[i] f,c4,some (.int i),c7,c8,c9,rfl,p3,g2.trans u3,(g3.trans (Nu _ _ _)).trans (Nu _ _ _),ac0 (ac0 g4 hf hg) hg hf,?_,?_⟩
   . simp[Gj,e3]
   . have:=Wh hs f gs[i]
     have:=Wh (Ky hs f gs[i]) gs[i] f
     lia
   . intro j g hj Yw
     have pr:=(Nu hs f gs[i]).trans (Nu (Ky hs f gs[i]) gs[i] f);rcases Nat.lt_succ_iff_lt_or_eq.mp hj with q|q
     . exact⟨(g6 j g q Yw).1.mono pr,(g6 j g q Yw).2.mono pr⟩
     . subst q
       have:g=gs[j]:=by rw[gi] at Yw;exact(jd Yw).symm
       subst this;exact⟨(ahq _ _ _).mono (Nu _ _ _),ahq _ _ _⟩)
 refine⟨hs,b4,b6,b7,b8,b9,M',e,h1,h2,h3,h4,by lia,λj g hg=>h6 j g (ak.mp hg).1 hg⟩
def ana(f:F)(i j k:Nat)(ρ:Env):(Tg.names [i,j,k]).put f.toD ρ=some (((ρ.set i (some (.int f.a))).set j (some (.int f.b))).set k (some (Ed f.r))):=rfl
noncomputable def aav(gs:List F)(f:F):List F:=if ¬f.Pa/\f∉gs then gs++[f] else gs
noncomputable def ClK(gs:List F)(k:Nat):Prop:=∀(i j:Nat)(f g:F),i<k->j<k->gs[i]?=some f->gs[j]?=some g->Cl2 gs f g
def aju(hz:Sz sz)(hf:X3 sz f)(hp:M[p]?=some (.lst (gs.map F.toD)))(hl:gs.length<100000) :
 ∃M',za.den W [a0,D.ref p,D.int f.a,D.int f.b,Ed f.r,a5,a6,a7,a8,a9] M=.ok (.next,[a0,some (.ref p),some (.int f.a),some (.int f.b),some (Ed f.r),a5,a6,a7,a8,a9]) M' /\
  M'[p]?=some (.lst ((aav gs f).map F.toD))/\Up p M M':=by
 have hlen:f.r.length<=100000:=by have:=(afv hz hf).2;exact a_ this (by decide)
 have Ie:=am2 M f gs;have hD:D.tup [.int f.a,.int f.b,Ed f.r]=f.toD:=rfl;have ap:=Gz (d:=f.toD) hp (by rw[gm];exact hl)
 by_cases i:f.Pa
 . refine⟨M,?_,by rw[aav,bx (λq=>q.1 i)];exact hp,Up.refl p M⟩
   simp[-eq_int,za,Ba,i.1,Iu,hlen,Nt,decide_eq_true i.2]
 . by_cases m:f∈gs
   . refine⟨M,?_,by rw[aav,bx (λq=>q.2 m)];exact hp,Up.refl p M⟩
     by_cases i1:f.a=f.b
     . have i2:¬f.r=List.range f.r.length:=λq=>i ⟨i1,q⟩
       simp[i1] at hD;simp[-eq_int,za,Ba,i1,i2,Iu,hlen,Nt,hD,Qp hp,Ie,m]
     . simp[-eq_int,za,Ba,i1,Iu,hlen,Nt,hD,Qp hp,Ie,m]
   . refine⟨M.set p (.lst ((gs++[f]).map F.toD)),?_,by rw[aav,cz ⟨i,m⟩,ur hp],Up.set _ _ _⟩
     by_cases i1:f.a=f.b
     . have i2:¬f.r=List.range f.r.length:=λq=>i ⟨i1,q⟩
       simp[i1] at hD;simp[-eq_int,za,Ba,i1,i2,Iu,hlen,Nt,hD,Qp hp,Ie,m,Hf hp,ap]
     . simp[-eq_int,za,Ba,i1,Iu,hlen,Nt,hD,Qp hp,Ie,m,Hf hp,ap]
set_option tactic.hygienic true in
def anb(h:Inv sz gs)(hf:X3 sz f):Inv sz (aav gs f):=by
 unfold aav;split
 . rename_i q;exact h.snoc hf q.2 q.1
 . exact h
def anc(gs:List F)(f:F):(aav gs f).length<=gs.length+1:=by unfold aav;split<;>simp
def ajv(hz:Sz sz)(hi:Inv sz gs)(hp:M[p]?=some (.lst (gs.map F.toD)))(hl:gs.length<=3) :
 ∃(ρ':Env)(M':di),Gm.den W [a0,D.ref p,a2,a3,a4,D.int 0,a6,a7,a8,a9] M=.ok (.next,ρ') M'/\ρ'[1]?=some (some (.ref p))/\∃hs:List F,M'[p]?=some (.lst (hs.map F.toD))/\Up p M M'/\Inv sz hs/\hs.length<=15 /\
  (hs.length<6->Nr hs)/\(gs=[]->hs=[]):=by
 unfold Gm;rw[aak];refine Oq (λm ρ M'=>∃(hs:List F)(k:Nat)(b4 b6 b7 b8 b9:Option D),ρ=[a0,some (.ref p),a2,a3,b4,some (.int k),b6,b7,b8,b9]/\M'[p]?=some (.lst (hs.map F.toD))/\Up p M M'/\Inv sz hs/\hs.length<=15/\ClK hs k/\k<=5/\m=10-k/\(gs=[]->hs=[]))
  (fun ρ' M'=>ρ'[1]?=some (some (.ref p))/\∃hs:List F,M'[p]?=some (.lst (hs.map F.toD))/\Up p M M'/\Inv sz hs/\hs.length<=15/\(hs.length<6->Nr hs)/\(gs=[]->hs=[])) ?_ afr 10 _ M (by decide)
  ⟨gs,0,a4,a6,a7,a8,a9,rfl,hp,Up.refl p M,hi,a_ hl (by decide),λi j f g h=>absurd h (v7 _),j5 _,rfl,id⟩
 intro m ρ M1 hI;obtain⟨hs,k,b4,b6,b7,b8,b9,rfl,g1,g2,g3,g4,g5,g6,g7,g8⟩:=hI
 by_cases c1:k<hs.length
 . have c1':(k:Int)<(hs.length:Int):=m_ c1
   by_cases c2:hs.length<6
   . have c2':(hs.length:Int)<6:=m_ c2
     right
     obtain⟨is,d4,d6,d7,d8,d9,M2,e,p2,u2,pr,inv2,l2,cl2⟩:=ate (W:=W) (M:=M1) (a0:=a0) (a2:=a2) (a3:=a3) (a4:=b4) (a6:=b6) (a7:=b7) (a8:=b8) (a9:=b9) (k:=k) hz g3 g1 (c_ g4 (by decide)) (show hs[k]?=some hs[k] by simp[c1]);refine⟨M1,.next,_,M2,10-(k+1),?_,?_,.inl rfl,by lia,is,k+1,d4,d6,d7,d8,d9,rfl,p2,g2.trans u2,inv2,by lia,?_,by lia,rfl,?_⟩
     . simp[Kz g1,c1',c2']
     . simp[Lh,e]
     . intro i j f g Vg hj' hf hg
       have back:∀(i:Nat)(f:F),i<k+1->is[i]?=some f->hs[i]?=some f:=λi f hi hf=>by
        have Hb:i<hs.length:=b_ hi c1
        have:=Rh pr (show hs[i]?=some hs[i] by simp[Hb]);rw[hf] at this;rw[this];simp[Hb]
       have hf':=back i f Vg hf;have Yw:=back j g hj' hg
       by_cases ei:i=k
       . subst ei
         have:f=hs[i]:=by have:=hf';simp[c1] at this;exact this.symm
         subst this;exact(cl2 j g Yw).1
       . by_cases ej:j=k
         . subst ej
           have:g=hs[j]:=by have:=Yw;simp[c1] at this;exact this.symm
           subst this;exact(cl2 i f hf').2
         . exact(g5 i j f g (by lia) (by lia) hf' Yw).mono pr
     . intro e0
       have:=g8 e0;subst this;simp at c1
   . left
     have c2':¬(hs.length:Int)<6:=by lia
     exact⟨M1,by simp[Kz g1,c1',c2'],rfl,hs,g1,g2,g3,g4,λq=>absurd q c2,g8⟩
 . left
   have c1':¬(k:Int)<(hs.length:Int):=by lia
   refine⟨M1,by simp[Kz g1,c1'],rfl,hs,g1,g2,g3,g4,λ_=>?_,g8⟩;intro f hf g hg;obtain⟨i,Vg,ei⟩:=m8 hf;obtain⟨j,hj',ej⟩:=m8 hg;exact g5 i j f g (b_ Vg (s_ c1)) (b_ hj' (s_ c1)) (by simp[Vg,ei]) (by simp[hj',ej])
def Yx(hm:1<=m)(hz:Sz sz)(hg:Good sz fs)(hl:fs.length<=3)(hd:gf M d=some (fs.map F.toD)) :
 ∃(hs:List F)(M':di),prog.call m 16 [d] M=.ok (.ref M.length) M'/\M'[M.length]?=some (.lst (hs.map F.toD))/\yt M M'/\M'.length=M.length+1/\Inv sz hs/\hs.length<=15/\(hs.length<6->Nr hs)/\(fs=[]->hs=[]):=by
 rw[call_of hm rfl];have hd1:gf (M++[.lst []]) d=some (fs.map F.toD):=(yt.app M _).gf hd;obtain⟨s,hs0,ρ1,M1,e1,gs,b2,b3,b4,rfl,h1,h2,h3,h4,h5⟩:=V8 (body:=λd ρ M=>match(Tg.names [2,3,4]).put d ρ with
  | some ρ'=>za.den ⟨prog.call (m-1),prog.cls⟩ ρ' M|none=>.bad)
  (λi ρ M'=>∃(gs:List F)(b2 b3 b4:Option D),ρ=[some d,some (.ref M.length),b2,b3,b4,none,none,none,none,none]/\M'[M.length]?=some (.lst (gs.map F.toD))/\Up M.length (M++[.lst []]) M'/\Inv sz gs/\gs.length<=i/\(fs=[]->gs=[]))
  (ρ:=[some d,D.ref M.length,none,none,none,none,none,none,none,none]) (M:=M++[.lst []]) hd1
  ⟨[],none,none,none,rfl,by simp,Up.refl _ _,⟨λf hf=>by simp at hf,by simp,λf hf=>by simp at hf⟩,by simp,λ_=>rfl⟩
  (λi ρ M' hI=>by
   obtain⟨gs,b2,b3,b4,rfl,g1,g2,g3,g4,g5⟩:=hI;cases d with
   |vl xs=>exact hd
   |ref n =>
    have hn:n≠M.length:=by
     simp only[gf] at hd;cases e:M[n]? with
     |none=>rw[e] at hd;simp at hd|some o=>have:=xq e;exact h_ this
    simp only[gf] at hd1 ⊢;rw[g2.oth n hn];exact hd1
   | _=>simp[gf] at hd)
  (λi x ρ M' hx hI=>by
   obtain⟨gs,b2,b3,b4,rfl,g1,g2,g3,g4,g5⟩:=hI;obtain⟨f,hf,rfl⟩:∃f,fs[i]?=some f/\f.toD=x:=by simpa using hx
   have hfm:=aq hf;have Xz:=(ak.mp hf).1;obtain⟨M2,e2,p2,u2⟩:=aju (W:=⟨prog.call (m-1),prog.cls⟩) (M:=M') (a0:=some d) (a5:=none) (a6:=none) (a7:=none) (a8:=none) (a9:=none) hz (hg f hfm) g1 (c_ g4 (b_ Xz (a_ hl (by decide))));refine⟨.next,_,M2,?_,.inl rfl,aav gs f,some (.int f.a),some (.int f.b),some (Ed f.r),rfl,p2,g2.trans u2,anb g3 (hg f hfm),?_,λe=>?_⟩
   . rw[ana];exact e2
   . have:=anc gs f;exact a_ this (v_ g4)
   . subst e;simp at hf)
 have hgl:gs.length<=3:=by simp at h4;exact a_ h4 hl
 obtain⟨ρ2,M2,e2,q1,hs,p2,u2,inv2,l2,c2,z2⟩:=ajv (W:=⟨prog.call (m-1),prog.cls⟩) (M:=M1) (a0:=some d) (a2:=b2) (a3:=b3) (a4:=b4) (a6:=none) (a7:=none) (a8:=none) (a9:=none) hz h3 h1 hgl;have up:=h2.trans u2;refine⟨hs,M2,?_,p2,λa o h=>?_,?_,inv2,l2,c2,λe=>z2 (h5 e)⟩
 . have e1':Gn.den ⟨prog.call (m-1),prog.cls⟩ [some d,D.ref M.length,none,none,none,none,none,none,none,none] (M++[.lst []])=.ok (.next,[some d,some (.ref M.length),b2,b3,b4,none,none,none,none,none]) M1:=by
    unfold Gn;rw[Td];simp[hs0];exact e1
   simp[Fn.run,Pq,Pn,MW.new,e1',e2,q1]
 . have:=xq h
   rw[up.oth a (h_ this)];exact v5 h
 . rw[up.len];simp
noncomputable def eD(f:F):D:=.tup [.int f.a,.int f.b]
noncomputable def Gb(hs:List F):D:=.tup (hs.map eD)
noncomputable def ent(hs:List F)(f g:F):Int:=if f.comp g∈hs then(pos (f.comp g) hs:Int) else -1
noncomputable def ky(j k:Nat):List Kx:=[.inl (j:Int),.inl (k:Int)]
def afx(h:ky j k=ky j' k'):j=j'/\k=k':=by simp[ky] at h;exact⟨D_ h.1,D_ h.2⟩
noncomputable def Yy(j k j' k':Nat):Prop:=j'<j\/(j'=j/\k'<k)
structure Tb(hs:List F)(j k:Nat)(gw:List (List Kx×D)):Prop where
 keys:∀p∈gw,∃(j' k':Nat)(f g:F),p=(ky j' k',.int (ent hs f g))/\hs[j']?=some f/\hs[k']?=some g/\f.b=g.a/\Yy j k j' k'
 look:∀(j' k':Nat)(f g:F),hs[j']?=some f->hs[k']?=some g->f.b=g.a->Yy j k j' k'->zg gw (ky j' k')=some (.int (ent hs f g))
 len:gw.length<=j*hs.length+k
def ajw{gw:List (List Kx×D)}(h:∀p∈gw,p.1≠q):zg gw q=none:=by unfold zg;rw[List.find?_eq_none.mpr (λp hp=>by simpa using h p hp)];rfl
def ajx{gw:List (List Kx×D)}(h:∀p∈gw,p.1≠q):Dh gw q v=gw++[(q,v)]:=by unfold Dh;rw[bx];simp only[Ah,dq,not_exists,not_and];exact h
def aaw{gw:List (List Kx×D)}(h:q≠q'):zg (gw++[(q,v)]) q'=zg gw q':=by
 unfold zg;rw[List.find?_append];cases e:gw.find? (λp=>decide (p.1=q')) with
 |some p=>rfl|none=>simp[h]
def aax{gw:List (List Kx×D)}(h:∀p∈gw,p.1≠q):zg (gw++[(q,v)]) q=some v:=by unfold zg;rw[List.find?_append,List.find?_eq_none.mpr (λp hp=>by simpa using h p hp)];simp
def Tb.skip(h:Tb hs j k gw)(hf:hs[j]?=some f)(hg:hs[k]?=some g)(n:f.b≠g.a):Tb hs j (k+1) gw:=by
 refine⟨λp hp=>?_,λj' k' f' g' a b c d=>?_,by have:=h.len;exact a_ this (w_ x_)⟩
 . obtain⟨j',k',f',g',e,a,b,c,d⟩:=h.keys p hp
   exact⟨j',k',f',g',e,a,b,c,by unfold Yy at *;lia⟩
 . by_cases q:j'=j/\k'=k
   . obtain⟨rfl,rfl⟩:=q
     rw[hf] at a;rw[hg] at b;cases a;cases b;exact absurd c n
   . exact h.look j' k' f' g' a b c (by unfold Yy at *;lia)
def Tb.fresh(h:Tb hs j k gw):∀p∈gw,p.1≠ky j k:=by
 intro p hp e;obtain⟨j',k',f',g',rfl,a,b,c,d⟩:=h.keys p hp;have:=afx e;unfold Yy at d
 lia
def Tb.put(h:Tb hs j k gw)(hf:hs[j]?=some f)(hg:hs[k]?=some g)(n:f.b=g.a):Tb hs j (k+1) (Dh gw (ky j k) (.int (ent hs f g))):=by
 rw[ajx h.fresh];refine⟨λp hp=>?_,λj' k' f' g' a b c d=>?_,by have:=h.len;simp;lia⟩
 . rcases gh.mp hp with q|q
   . obtain⟨j',k',f',g',e,a,b,c,d⟩:=h.keys p q
     exact⟨j',k',f',g',e,a,b,c,by unfold Yy at *;lia⟩
   . have:p=(ky j k,.int (ent hs f g)):=by simpa using q
     exact⟨j,k,f,g,this,hf,hg,n,by unfold Yy;lia⟩
 . by_cases q:j'=j/\k'=k
   . obtain⟨rfl,rfl⟩:=q
     rw[hf] at a;rw[hg] at b;cases a;cases b;exact aax h.fresh
   . rw[aaw (λe=>q (by have:=afx e;exact⟨this.1.symm,this.2.symm⟩))]
     exact h.look j' k' f' g' a b c (by unfold Yy at *;lia)
def Tb.next(h:Tb hs j hs.length gw):Tb hs (j+1) 0 gw:=by
 refine⟨λp hp=>?_,λj' k' f' g' a b c d=>?_,by have:=h.len;have e:(j+1)*hs.length=j*hs.length+hs.length:=Nat.succ_mul _ _;exact a_ this (a_ (g_ e) x_)⟩
 . obtain⟨j',k',f',g',e,a,b,c,d⟩:=h.keys p hp
   exact⟨j',k',f',g',e,a,b,c,by unfold Yy at *;lia⟩
 . have:=(ak.mp b).1
   exact h.look j' k' f' g' a b c (by unfold Yy at *;lia)
def ane{hs:List F}{j k:Nat}(hz:Sz sz)(hf:X3 sz f)(hg:X3 sz g)(h:f.b=g.a)(hq:M[q]?=some (.lst (hs.map F.toD)))(hj:hs[j]?=some f)(hk:hs[k]?=some g) :
 Et.den W [a0,a1,D.ref q,a3,a4,D.int j,D.int k,a7] M=.ok (.vl ((f.comp g).r.map nD)) M:=by
 have hsm:(f.r.map nD).length<=100000:=by rw[gm,hf.len];have:=hz f.a;exact a_ this.2 (by decide)
 unfold Et;rw[G3 (ds:=f.r.map nD) (M1:=M) (g:=λd=>match d with|.int i=>nD (g.r.getD i.toNat 0)|_=>.non) (by simp[Qc hq hj,am6,Ed]) hsm (λx hx=>by
  obtain⟨y,hy,rfl⟩:=bf.mp hx;have hy':y<g.r.length:=by rw[hg.len,<- h];exact hf.ran y hy
  exact⟨_,rfl,by simp[Qc hq hk,am6,nD,am7 M g.r hy']⟩)]
 simp[F.comp,nD]
def afy(hz:Sz sz)(hi:Inv sz hs)(hl:hs.length<=5)(hq:M[q]?=some (.lst (hs.map F.toD)))(hr:M[r]?=some (.dT gw))(hj:hs[j]?=some f)(hk:hs[k]?=some g)(ht:Tb hs j k gw) :
 ∃(b7:Option D)(M':di)(kvs':List (List Kx×D)),Aq.den W [a0,a1,D.ref q,a3,D.ref r,D.int j,D.int k,a7] M=.ok (.next,[a0,a1,some (.ref q),a3,some (.ref r),some (.int j),some (.int k),b7]) M' /\
  M'[r]?=some (.dT kvs')/\Tb hs j (k+1) kvs'/\Up r M M':=by
 have hjl:=(ak.mp hj).1;have hkl:=(ak.mp hk).1;have hf:=hi.good f (aq hj);have hg:=hi.good g (aq hk)
 by_cases h:f.b=g.a
 . have hc:=ane (W:=W) (M:=M) (a0:=a0) (a1:=a1) (a3:=a3) (a4:=some (.ref r)) (a7:=a7) hz hf hg h hq hj hk
   have Ie:=am2 M (f.comp g) hs;have hkv:gw.length<100000:=by
    have:=ht.len;have:j*hs.length<=5*5:=Nat.mul_le_mul (e_ (b_ hjl hl)) hl
    lia
   have st:=ayt (d:=.int (ent hs f g)) (b:=.tup [.int j,.int k]) hr rfl hkv;refine⟨some (f.comp g).toD,_,Dh gw (ky j k) (.int (ent hs f g)),?_,ur (o:=.dT (Dh gw (ky j k) (.int (ent hs f g)))) hr,ht.put hj hk h,Up.set _ _ _⟩
   by_cases m:f.comp g∈hs
   . have hix:Ec .index (.ref q) [(f.comp g).toD] M=.ok (.int (pos (f.comp g) hs)) M:=by simp[Ec,Jv (jt hq),a5s,m]
     have hty:Jt .index (.ref q) M=true:=by simp[Jt,jt hq]
     have he:ent hs f g=(pos (f.comp g) hs:Int):=cz m;rw[he] at st;simp[-eq_int,Aq,Qc hq hj,Qc hq hk,Uq,Ur,Ba,h,hc,aau,afw,Qp hq,Ie,m,hty,hix,st,he,ky]
   . have he:ent hs f g=-1:=bx m
     rw[he] at st;simp[-eq_int,Aq,Qc hq hj,Qc hq hk,Uq,Ur,Ba,h,hc,aau,afw,Qp hq,Ie,m,st,he,ky]
 . refine⟨a7,M,gw,?_,hr,ht.skip hj hk h,Up.refl r M⟩
   simp[-eq_int,Aq,Qc hq hj,Qc hq hk,Uq,Ur,Ba,h]
def ayz(hz:Sz sz)(hi:Inv sz hs)(hl:hs.length<=5)(hq:M[q]?=some (.lst (hs.map F.toD)))(hr:M[r]?=some (.dT []))(hqr:q≠r) :
 ∃(ρ':Env)(M':di)(gw:List (List Kx×D)),Ew.den W [a0,a1,D.ref q,a3,D.ref r,a5,a6,a7] M=.ok (.next,ρ') M'/\ρ'[2]?=some (some (.ref q))/\ρ'[3]?=some a3/\ρ'[4]?=some (some (.ref r))/\ρ'.length=8 /\
  M'[r]?=some (.dT gw)/\Tb hs hs.length 0 gw/\Up r M M':=by
 unfold Ew;have hlen:∀(M':di),Up r M M'->uc .len [.ref q] M'=.ok (.int hs.length) M':=λM' u=>Kz (by rw[u.oth q hqr];exact hq)
 obtain⟨ρ',M',e,b5,b6,b7,gw,rfl,h1,h2,h3⟩:=Al (W:=W) (t:=.name 5) (b:=Eu) (it:=.blt .len (.o (.v 2))) (n:=hs.length) (ρ:=[a0,a1,D.ref q,a3,D.ref r,a5,a6,a7]) (M:=M) (M1:=M) (by simp[Kz hq]) (a_ hl (by decide))
  (λj ρ M'=>∃(b5 b6 b7:Option D)(gw:List (List Kx×D)),ρ=[a0,a1,some (.ref q),a3,some (.ref r),b5,b6,b7]/\M'[r]?=some (.dT gw)/\Tb hs j 0 gw/\Up r M M')
  ⟨a5,a6,a7,[],rfl,hr,⟨λp hp=>by simp at hp,λj' k' f g a b c d=>by unfold Yy at d;lia,by simp⟩,Up.refl r M⟩
  (λj ρ M1 hj hI=>by
   obtain⟨b5,b6,b7,gw,rfl,g1,g2,g3⟩:=hI;have hq1:M1[q]?=some (.lst (hs.map F.toD)):=by rw[g3.oth q hqr];exact hq
   obtain⟨ρ2,M2,e2,c6,c7,bc1,rfl,k1,k2,k3⟩:=Al (W:=W) (t:=.name 6) (b:=Aq) (it:=.blt .len (.o (.v 2))) (n:=hs.length) (ρ:=[a0,a1,D.ref q,a3,D.ref r,D.int j,b6,b7]) (M:=M1) (M1:=M1) (by simp[Kz hq1]) (a_ hl (by decide))
    (λk ρ M'=>∃(b6 b7:Option D)(gw:List (List Kx×D)),ρ=[a0,a1,some (.ref q),a3,some (.ref r),some (.int j),b6,b7]/\M'[r]?=some (.dT gw)/\Tb hs j k gw/\Up r M1 M')
    ⟨b6,b7,gw,rfl,g1,g2,Up.refl r M1⟩
    (λk ρ M2 hk hI=>by
     obtain⟨b6,b7,gw,rfl,k1,k2,k3⟩:=hI;have hq2:M2[q]?=some (.lst (hs.map F.toD)):=by rw[k3.oth q hqr];exact hq1
     obtain⟨c7,M3,bc2,e3,p3,t3,u3⟩:=afy (W:=W) (M:=M2) (a0:=a0) (a1:=a1) (a3:=a3) (a7:=b7) hz hi hl hq2 k1 (show hs[j]?=some hs[j] by simp[hj]) (show hs[k]?=some hs[k] by simp[hk]) k2;exact⟨_,.next,_,M3,rfl,e3,.inl rfl,_,c7,bc2,rfl,p3,t3,k3.trans u3⟩)
   exact⟨_,.next,_,M2,rfl,by simp[Eu,J8,e2],  .inl rfl,some (.int j),c6,c7,bc1,rfl,k1,k2.next,g3.trans k3⟩)
 exact⟨_,M',gw,e,rfl,rfl,rfl,rfl,h1,h2,h3⟩
structure Lw(sz:Nat->Nat)(K:Nat)(hs:List F)(gw:List (List Kx×D)):Prop where
 hz:Sz sz
 inv:Inv sz hs
 cl:Nr hs
 len:hs.length<=5
 k1:1<=K
 k3:K<=3
 Vb:∀f∈hs,f.a<K
 Ti:∀f∈hs,f.b<K
 tb:Tb hs hs.length 0 gw
theorem ac8:∀(xs:Y3)(a:Nat),∃v:Nat,(xs.map λ(x:Nat)=>(x:Int)).foldl (λm x=>if m<x then x else m) (a:Int)=(v:Int)/\a<=v/\(∀x∈xs,x<=v)/\(v=a\/v∈xs)
 |[],a=>⟨a,rfl,bw _,by simp,.inl rfl⟩
 |x::xs,a=>by
  obtain⟨v,e,h1,h2,h3⟩:=ac8 xs (if a<x then x else a);refine⟨v,?_,?_,λy hy=>?_,?_⟩
  . rw[ie,List.foldl_cons,<- e]
    congr 1
    by_cases q:a<x
    . have:(a:Int)<(x:Int):=m_ q
      simp[q]
    . have:¬(a:Int)<(x:Int):=by lia
      simp[q]
  . split at h1<;>omega
  . rcases cu.mp hy with q|q
    . subst q;split at h1<;>omega
    . exact h2 y q
  . rcases h3 with q|q
    . by_cases w:a<x
      . right;rw[cz w] at q;subst q;simp
      . left;rw[bx w] at q;exact q
    . right;exact bh _ q
theorem ac9:∀xs:List Nat,Va (xs.map nD)=some (xs.map λ(x:Nat)=>(x:Int))
 |[]=>rfl|x::xs=>by simp[nD,Va,show Va (xs.map nD)=_ from ac9 xs]
def anf(h:xs≠[]):∃v:Nat,uc .max [.vl (xs.map nD)] M=.ok (.int v) M/\(∀x∈xs,x<=v)/\v∈xs:=by
 obtain⟨a,r,rfl⟩:∃a r,xs=a::r:=List.exists_cons_of_ne_nil h;obtain⟨v,e,h1,h2,h3⟩:=ac8 r a;refine⟨v,?_,λx hx=>?_,?_⟩
 . have:=ac9 (a::r)
   simp only[uc,as9,ajt,q9,this];simp only[ie,ayi,q9,v8,Res.By,e]
 . rcases cu.mp hx with q|q
   . subst q;exact h1
   . exact h2 x q
 . rcases h3 with q|q
   . rw[q];simp
   . exact bh _ q
def max2(a b:Nat):uc .max [.int a,.int b] M=.ok (nD (max a b)) M:=by
 by_cases h:a<b
 . have h':(a:Int)<b:=m_ h
   have e:max a b=b:=by lia
   simp[uc,h,nD,e]
 . have h':¬(a:Int)<b:=by lia
   have e:max a b=a:=by lia
   simp[uc,h,nD,e]
noncomputable def toF:D->F
 |.tup [.int a,.int b,.tup r]=>⟨a.toNat,b.toNat,r.map λd=>match d with|.int i=>i.toNat|_=>0⟩
 |_=>⟨0,0,[]⟩
def Vk(f:F):toF f.toD=f:=by
 obtain⟨a,b,r⟩:=f;show F.mk a b ((r.map nD).map λd=>match d with|.int i=>i.toNat|_=>0)=F.mk a b r;rw[um]
 conv=>rhs;rw[<- List.map_id r]
 exact o7 _ (p8 λx _=>rfl)
def ang{hs:List F}(hl:hs.length<=100000)(hq:M[q]?=some (.lst (hs.map F.toD))) :
 Ey.den W [a0,a1,D.ref q,a3,a4,a5,a6,a7] M=.ok (.vl ((hs.map λf=>max f.a f.b).map nD)) M:=by
 unfold Ey;rw[Am (d:=.ref q) (ds:=hs.map F.toD) (M1:=M) (g:=λd=>nD (max (toF d).a (toF d).b)) (by simp) (jt hq) (by simpa using hl) (λx hx=>by
  obtain⟨f,hf,rfl⟩:=bf.mp hx;exact⟨_,ana _ _ _ _ _,by simp[max2,Vk]⟩)]
 simp[Vk]
def ajy{hs:List F}(hρ:ρ[2]?=some (some (.ref q)))(hρl:ρ.length=8)(hl:hs.length<=100000)(hq:M[q]?=some (.lst (hs.map F.toD))) :
 Es.den W ρ M=.ok (.vl (hs.map eD)) M:=by
 unfold Es;rw[Am (d:=.ref q) (ds:=hs.map F.toD) (M1:=M) (g:=λd=>eD (toF d)) (by simp[hρ]) (jt hq) (by simpa using hl) (λx hx=>by
  obtain⟨f,hf,rfl⟩:=bf.mp hx;refine⟨_,ana _ _ _ _ _,?_⟩;rw[Vk];simp[eD,List.getElem?_set,hρl])]
 simp[Vk]
def ajz(hm:1<=m)(hz:Sz sz)(hs0:Th t f M)(hg:Good sz fs)(hl:fs.length<=3)(hd:gf M d=some (fs.map F.toD))(hq:M[q]?=some (.lst (hs.map F.toD)))(hqt:q≠t)(hi:Inv sz hs)(hhl:hs.length<=15)(hc:hs.length<6->Nr hs)(h0:fs=[]->hs=[]) :
 ∃(ρ':Env)(M':di),Ez.den ⟨prog.call m,prog.cls⟩ [D.ref t,some d,D.ref q,a3,a4,a5,a6,a7] M=.ok (.next,ρ') M'/\∃(d':D)(q':Nat)(Ov:List F),ρ'=[some (.ref t),some d',some (.ref q'),a3,a4,a5,a6,a7] /\
  M'[q']?=some (.lst (Ov.map F.toD))/\q'≠t/\Inv sz Ov/\Ov.length<=5/\Nr Ov/\yt M M':=by
 unfold Ez;rw[aak];refine Oq (λn ρ M'=>∃(d:D)(fs hs:List F)(q:Nat),ρ=[some (.ref t),some d,some (.ref q),a3,a4,a5,a6,a7]/\fs.length=n/\Good sz fs/\fs.length<=3/\gf M' d=some (fs.map F.toD)/\M'[q]?=some (.lst (hs.map F.toD))/\q≠t /\
  Inv sz hs/\hs.length<=15/\(hs.length<6->Nr hs)/\(fs=[]->hs=[])/\yt M M')
  (fun ρ' M'=>∃(d':D)(q':Nat)(Ov:List F),ρ'=[some (.ref t),some d',some (.ref q'),a3,a4,a5,a6,a7]/\M'[q']?=some (.lst (Ov.map F.toD))/\q'≠t/\Inv sz Ov/\Ov.length<=5/\Nr Ov/\yt M M') ?_ afr fs.length _ M (by unfold afr;exact c_ hl (by decide))
  ⟨d,fs,hs,q,rfl,rfl,hg,hl,hd,hq,hqt,hi,hhl,hc,h0,yt.refl M⟩
 intro n ρ M1 hI;obtain⟨d,fs,hs,q,rfl,rfl,g1,g2,g3,g4,g5,g6,g7,g8,g9,g10⟩:=hI
 by_cases c:5<hs.length
 . right
   have c':(5:Int)<(hs.length:Int):=m_ c
   have Xy:fs≠[]:=λe=>by rw[g9 e] at c;simp at c
   have bjo:1<=fs.length:=List.length_pos_iff.mpr Xy
   have bc4:V5 d none (some (-1)) M1=some (.vl (fs.dropLast.map F.toD)):=by
    have hcl:aaf (fs.map F.toD) none (some (-1))=fs.dropLast.map F.toD:=by
     have e2:((-1:Int)+(fs.length:Int)).toNat=fs.length-1:=by lia
     simp[aaf,clip,e2,List.map_dropLast,List.dropLast_eq_take]
    cases d with
    |tup ds=>simp[gf] at g3|vl ds=>simp only[V5,g3,v8,hcl]|ref n=>simp only[V5,g3,v8,hcl]|_=>simp[gf] at g3
   have gd:Good sz fs.dropLast:=λf hf=>g1 f (List.dropLast_subset fs hf)
   obtain⟨Ov,M2,e,p2,k2,l2,i2,b2,c2,z2⟩:=Yx (M:=M1) (m:=m) (d:=.vl (fs.dropLast.map F.toD)) hm hz gd (by simp;exact a_ g2 (by decide)) rfl;have ht1:t<M1.length:=by obtain⟨n,h,_⟩:=hs0;exact xq (g10 t _ h)
   refine⟨M1,.next,_,M2,fs.length-1,?_,?_,.inl rfl,by lia,.vl (fs.dropLast.map F.toD),fs.dropLast,Ov,M1.length,rfl,by simp,gd,by simp;exact a_ g2 (by decide),rfl,p2,i_ ht1,i2,b2,c2,z2,g10.trans k2⟩
   . simp[Kz g4,c']
   . simp[-List.map_dropLast,J9,bc4,e]
 . left
   have c':¬(5:Int)<(hs.length:Int):=by lia
   exact⟨M1,by simp[Kz g4,c'],d,q,hs,rfl,g4,g5,g6,s_ c,g8 (c_ (s_ c) (by decide)),g10⟩
def afz(hm:3<=m)(hs0:Th t f M):∃(K r:Nat)(sz:Nat->Nat)(hs:List F)(gw:List (List Kx×D))(M':di),prog.call m 17 [.ref t] M=.ok (.tup [.int K,Gb hs,.ref r]) M'/\M'[r]?=some (.dT gw)/\M.length<=r/\Lw sz K hs gw/\St t f M M':=by
 rw[call_of (a_ (by decide) hm) rfl];have ht0:t<M.length:=by obtain⟨n,h,_⟩:=hs0;exact xq h
 obtain⟨d,M1,fs,sz,e1,d1,n1,hz,g1,l1,s1⟩:=am5 (m:=m-1) (r_ hm) hs0;obtain⟨hs,M2,e2,p2,k2,ll2,i2,b2,c2,z2⟩:=Yx (M:=M1) (m:=m-1) (d:=d) (r_ (a_ (by decide) hm)) hz g1 l1 d1;have ht1:t<M1.length:=by obtain⟨n,h,_⟩:=s1.has;exact xq h
 have s2:St t f M1 M2:=St.of s1.has k2;obtain⟨ρ3,M3,e3,d',q,Ov,rfl,p3,q3,i3,l3,c3,k3⟩:=ajz (M:=M2) (m:=m-1) (t:=t) (f:=f) (d:=d) (fs:=fs) (hs:=hs) (q:=M1.length) (a3:=none) (a4:=none) (a5:=none) (a6:=none) (a7:=none) (r_ (a_ (by decide) hm)) hz s2.has g1 l1 (k2.gf d1) p2 (i_ ht1) i2 b2 c2 z2;have s3:St t f M2 M3:=St.of s2.has k3;have s03:=s1.trans (s2.trans s3);have axa:=ang (W:=⟨prog.call (m-1),prog.cls⟩) (M:=M3) (a0:=some (.ref t)) (a1:=some d') (a3:=none) (a4:=none) (a5:=none) (a6:=none) (a7:=none) (by exact a_ l3 (by decide):Ov.length<=100000) p3;obtain⟨v,ev,hv1,hv2⟩:=anf (M:=M3) (xs:=(Ov.map λf:F=>max f.a f.b)++[0]) (by simp);have ay2:Gf .add (.vl ((Ov.map λf:F=>max f.a f.b).map nD)) (.vl [.int 0]) M3=.ok (.vl (((Ov.map λf:F=>max f.a f.b)++[0]).map nD)) M3:=by rw[Yu _ _ (by simp;exact a_ l3 (by decide))];simp[nD]
 generalize hX:(D.vl ((Ov.map λf:F=>max f.a f.b).map nD))=X at axa ay2;generalize hY:(D.vl (((Ov.map λf:F=>max f.a f.b)++[0]).map nD))=Y at ev ay2;have hv3:v<=2:=by
  rcases gh.mp hv2 with w|w
  . obtain⟨x,hx,rfl⟩:=bf.mp w
    have:=(i3.good x hx).a;have:=(i3.good x hx).b;lia
  . simp at w;exact a_ (f_ w) (j5 _)
 have heq:yd M3 (.ref q) (.vl [])=some (decide (Ov=[])):=by
  have hdc:Yr M3 (.ref q)=false:=by simp[Yr,p3]
  simp only[yd,hdc];cases Ov with
  |nil=>simp[Ih,gf,p3,Ph]|cons a l=>simp[Ih,gf,p3]
 obtain⟨K,M4,hK,k1,k3',ka,kb,p4,s4,l4⟩:∃(K:Nat)(M4:di),
  (Br.iff (.cmp .eq (.v 2) (.Kp .nil)) (.o (.asg (.tg (.name 3)) (.bin .add (.i 1) (.call 14 (.p (.v 0) (.i 3)))))) .nil).den ⟨prog.call (m-1),prog.cls⟩ [D.ref t,some d',D.ref q,D.int (1+(v:Int)),none,none,none,none] M3
   = .ok (.next,[some (.ref t),some d',some (.ref q),some (.int K),none,none,none,none]) M4/\1<=K/\K<=3/\(∀f∈Ov,f.a<K)/\(∀f∈Ov,f.b<K)/\M4[q]?=some (.lst (Ov.map F.toD))/\St t f M3 M4/\M4.length=M3.length:=by
  by_cases he:Ov=[]
  . obtain⟨w,M4,ew,lw,sw,llw⟩:=Bp (m:=m-1) (r_ (a_ (by decide) hm)) s3.has (many:=3) (by decide) (by decide)
    refine⟨1+w,M4,?_,x_,by lia,by simp[he],by simp[he],sw.keep q _ q3 p3,sw,llw⟩;simp[heq,he,ew]
  . refine⟨1+v,M3,?_,x_,by lia,λx hx=>?_,λx hx=>?_,p3,St.of s3.has (yt.refl _),rfl⟩
    . simp[heq,he]
    . have:=hv1 (max x.a x.b) (yg _ (bf.mpr ⟨x,hx,rfl⟩));lia
    . have:=hv1 (max x.a x.b) (yg _ (bf.mpr ⟨x,hx,rfl⟩));lia
 have p5:(M4++[.dT []])[q]?=some (.lst (Ov.map F.toD)):=v5 p4;have hql:=xq p4;obtain⟨ρ6,M6,gw,e6,r2,r3,r4,r8,p6,t6,u6⟩:=ayz (W:=⟨prog.call (m-1),prog.cls⟩) (M:=M4++[.dT []]) (q:=q) (r:=M4.length) (a0:=some (.ref t)) (a1:=some d') (a3:=some (.int K)) (a5:=none) (a6:=none) (a7:=none) hz i3 l3 p5 (by simp) (h_ hql);have p6q:M6[q]?=some (.lst (Ov.map F.toD)):=by rw[u6.oth q (h_ hql)];exact p5
 have hc1:=ajy (W:=⟨prog.call (m-1),prog.cls⟩) (M:=M6) r2 r8 (by exact a_ l3 (by decide):Ov.length<=100000) p6q;have s04:=s03.trans s4;refine⟨K,M4.length,sz,Ov,gw,M6,?_,p6,s04.len,⟨hz,i3,c3,l3,k1,k3',ka,kb,t6⟩,?_⟩
 . simp only[Fn.run,Mz,My]
   simp[-a5i,e1,e2,e3,axa,ay2,ev,hK,MW.new,e6,r3,r4,hc1,Qq,Gb]
 . refine s04.trans ⟨?_,?_,λa o na h=>?_⟩
   . rw[u6.len];simp
   . obtain⟨n,h,o⟩:=s4.has
     exact⟨n,by rw[u6.oth t (by have:=xq h;exact h_ this)];exact v5 h,o⟩
   . rw[u6.oth a (by have:=xq h;exact h_ this)];exact v5 h
noncomputable def pD(p:Nat×Nat):D:=.tup [.int p.1,.int p.2]
noncomputable def Meet(hs:List F)(j k:Nat):Prop:=∃f g,hs[j]?=some f/\hs[k]?=some g/\f.b=g.a
structure Ps(hs:List F)(j k:Nat)(ps:List (Nat×Nat)):Prop where
 all:∀p:Nat×Nat,p∈ps↔Meet hs p.1 p.2/\Yy j k p.1 p.2
 len:ps.length<=j*hs.length+k
def Ps.skip(h:Ps hs j k ps)(hf:hs[j]?=some f)(hg:hs[k]?=some g)(n:f.b≠g.a):Ps hs j (k+1) ps:=by
 refine⟨λp=>?_,by have:=h.len;exact a_ this (w_ x_)⟩;rw[h.all p];constructor
 . exact λq=>⟨q.1,by have:=q.2;unfold Yy at *;lia⟩
 . intro q
   refine⟨q.1,?_⟩;have hb:=q.2
   by_cases e:p.1=j/\p.2=k
   . obtain⟨f',g',a,b,c⟩:=q.1
     rw[e.1,hf] at a;rw[e.2,hg] at b;cases a;cases b;exact absurd c n
   . unfold Yy at *;lia
def Ps.put(h:Ps hs j k ps)(hf:hs[j]?=some f)(hg:hs[k]?=some g)(n:f.b=g.a):Ps hs j (k+1) (ps++[(j,k)]):=by
 refine⟨λp=>?_,by have:=h.len;simp;lia⟩;rw[gh,h.all p,xj];constructor
 . rintro(q|q)
   . exact⟨q.1,by have:=q.2;unfold Yy at *;lia⟩
   . subst q;exact⟨⟨f,g,hf,hg,n⟩,by unfold Yy;lia⟩
 . intro q
   by_cases e:p.1=j/\p.2=k
   . right;exact Prod.ext e.1 e.2
   . left;exact⟨q.1,by have:=q.2;unfold Yy at *;lia⟩
def Ps.next(h:Ps hs j hs.length ps):Ps hs (j+1) 0 ps:=by
 refine⟨λp=>?_,by have:=h.len;have e:(j+1)*hs.length=j*hs.length+hs.length:=Nat.succ_mul _ _;exact a_ this (a_ (g_ e) x_)⟩;rw[h.all p];constructor
 . exact λq=>⟨q.1,by have:=q.2;unfold Yy at *;lia⟩
 . intro q
   refine⟨q.1,?_⟩;obtain⟨f,g,a,b,c⟩:=q.1;have:=(ak.mp b).1;have:=q.2;unfold Yy at *;lia
def Us(f:F)(M:di):Ax (eD f) (.int 0) M=some (.int f.a):=rfl
def Ut(f:F)(M:di):Ax (eD f) (.int 1) M=some (.int f.b):=rfl
def Ri{i:Nat}(h:hs[i]?=some f):Ax (Gb hs) (.int i) M=some (eD f):=Kq q_ (by simp[h])
def Nv:uc .len [Gb hs] M=.ok (.int hs.length) M:=by simp[uc,yr,Gb]
def Ce(x y:D)(i j:Nat)(ρ:Env):(Tg.names [i,j]).put (.tup [x,y]) ρ=some ((ρ.set i (some x)).set j (some y)):=rfl
def ada(hl:hs.length<=5)(hq:M[q]?=some (.lst (ps.map pD)))(hj:hs[j]?=some f)(hk:hs[k]?=some g)(hp:Ps hs j k ps) :
 ∃(M':di)(ps':List (Nat×Nat)),Bd.den W [a0,D.ref q,D.int j,eD f,D.int k,eD g] M=.ok (.next,[a0,some (.ref q),some (.int j),some (eD f),some (.int k),some (eD g)]) M' /\
  M'[q]?=some (.lst (ps'.map pD))/\Ps hs j (k+1) ps'/\Up q M M':=by
 have hjl:=(ak.mp hj).1;have hkl:=(ak.mp hk).1
 by_cases h:f.b=g.a
 . have Ib:(ps.map pD).length<100000:=by
    have:=hp.len;have:j*hs.length<=5*5:=Nat.mul_le_mul (e_ (b_ hjl hl)) hl
    rw[gm];lia
   have ap:=Gz (d:=.tup [.int j,.int k]) hq Ib;refine⟨M.set q (.lst ((ps++[(j,k)]).map pD)),ps++[(j,k)],?_,ur hq,hp.put hj hk h,Up.set _ _ _⟩;simp[-eq_int,Bd,Us,Ut,Ba,h,Hf hq,ap,pD]
 . refine⟨M,ps,?_,hq,hp.skip hj hk h,Up.refl q M⟩
   simp[-eq_int,Bd,Us,Ut,Ba,h]
def Wi(hm:1<=m)(hl:hs.length<=5) :
 ∃(M':di)(ps:List (Nat×Nat)),prog.call m 7 [Gb hs] M=.ok (.ref M.length) M'/\M'[M.length]?=some (.lst (ps.map pD))/\Ps hs hs.length 0 ps/\Up M.length (M++[.lst []]) M':=by
 rw[call_of hm rfl];obtain⟨ρ',M',e,b2,b3,b4,b5,ps,rfl,h1,h2,h3⟩:=Ij (W:=⟨prog.call (m-1),prog.cls⟩) (t:=.names [2,3]) (b:=Dq) (it:=.v 0) (ds:=hs.map eD) (ρ:=[Gb hs,D.ref M.length,none,none,none,none]) (M:=M++[.lst []]) (M1:=M++[.lst []]) (by simp[Gb])
  (λj ρ M'=>∃(b2 b3 b4 b5:Option D)(ps:List (Nat×Nat)),ρ=[some (Gb hs),some (.ref M.length),b2,b3,b4,b5]/\M'[M.length]?=some (.lst (ps.map pD))/\Ps hs j 0 ps/\Up M.length (M++[.lst []]) M')
  ⟨none,none,none,none,[],rfl,by simp,⟨λp=>by simp[Yy],by simp⟩,Up.refl _ _⟩
  (λj x ρ M1 hj hI=>by
   obtain⟨b2,b3,b4,b5,ps,rfl,g1,g2,g3⟩:=hI;obtain⟨f,hf,rfl⟩:∃f,hs[j]?=some f/\eD f=x:=by simpa using hj
   obtain⟨ρ2,M2,e2,c4,c5,ps2,rfl,k1,k2,k3⟩:=Ij (W:=⟨prog.call (m-1),prog.cls⟩) (t:=.names [4,5]) (b:=Bd) (it:=.v 0) (ds:=hs.map eD) (ρ:=[Gb hs,D.ref M.length,D.int j,eD f,b4,b5]) (M:=M1) (M1:=M1) (by simp[Gb])
    (λk ρ M'=>∃(b4 b5:Option D)(ps:List (Nat×Nat)),ρ=[some (Gb hs),some (.ref M.length),some (.int j),some (eD f),b4,b5]/\M'[M.length]?=some (.lst (ps.map pD))/\Ps hs j k ps/\Up M.length M1 M')
    ⟨b4,b5,ps,rfl,g1,g2,Up.refl _ _⟩
    (λk y ρ M2 hk hI=>by
     obtain⟨b4,b5,ps,rfl,k1,k2,k3⟩:=hI;obtain⟨g,hg,rfl⟩:∃g,hs[k]?=some g/\eD g=y:=by simpa using hk
     obtain⟨M3,ps3,e3,p3,t3,u3⟩:=ada (W:=⟨prog.call (m-1),prog.cls⟩) (M:=M2) (a0:=some (Gb hs)) hl k1 hf hg k2;exact⟨_,.next,_,M3,Ce _ _ _ _ _,e3,.inl rfl,some (.int k),some (eD g),ps3,rfl,p3,t3,k3.trans u3⟩)
   rw[gm] at k2;exact⟨_,.next,_,M2,Ce _ _ _ _ _,by simp[Dq,Im,e2],.inl rfl,some (.int j),some (eD f),c4,c5,ps2,rfl,k1,k2.next,g3.trans k3⟩)
 rw[gm] at h2;refine⟨M',ps,?_,h1,h2,h3⟩;simp[Fn.run,Lf,Ld,MW.new,Ip,e]
noncomputable def bothW(hs:List F)(gw:List (List Kx×D))(x y:Int):Option D:=if x=-1 then some (.int y) else if y=-1 then some (.int x) else zg gw [.inl x,.inl y]
def aay(hm:1<=m)(hr:M[r]?=some (.dT gw))(h:bothW hs gw x y=some v):prog.call m 6 [.ref r,.int x,.int y] M=.ok v M:=by
 rw[call_of hm rfl];unfold bothW at h
 by_cases hx:x=-1
 . rw[cz hx] at h;cases h
   simp[Fn.run,Il,Ik,hx]
 . rw[bx hx] at h
   by_cases hy:y=-1
   . rw[cz hy] at h;cases h
     simp[Fn.run,Il,Ik,hx,hy]
   . rw[bx hy] at h
     simp[Fn.run,Il,Ik,hx,hy,acu hr (Yv x y),h]
noncomputable def aj0(hs:List F)(c:F):Int:=if c∈hs then(pos c hs:Int) else -1
def Jk(hs:List F)(f g:F):ent hs f g=aj0 hs (f.comp g):=rfl
def ahr(nd:hs.Nodup){i:Nat}(h:hs[i]?=some f):aj0 hs f=i:=by have m:f∈hs:=aq h;rw[aj0,cz m,aft nd h]
def Tj:∀k:List Kx,Qk (ami k)=some k:=by
 intro k;show aae (k.map amh)=some k
 induction k with
 |nil=>rfl|cons a l ih=>cases a<;>simp[aae,amh,Tc,ih]
theorem adb:∀gw:List (List Kx×D),Dn (gw.map λp=>ami p.1)=some (gw.map (·.1))
 |[]=>rfl|p::l=>by simp[Dn,Tj,adb l]
theorem ade:∀ps:List (Nat×Nat),Dn (ps.map pD)=some (ps.map λp=>ky p.1 p.2)
 |[]=>rfl|p::l=>by simp[Dn,pD,ade l,ky]
def anh{gw:List (List Kx×D)}(h:zg gw q=some v):∃p∈gw,p.1=q:=by
 unfold zg at h;cases e:gw.find? (λp=>decide (p.1=q)) with
 |none=>rw[e] at h;cases h|some p=>exact⟨p,List.mem_of_find?_eq_some e,by simpa using List.find?_some e⟩
section
variable{sz:Nat->Nat}{K:Nat}{hs:List F}{gw:List (List Kx×D)}(P:Lw sz K hs gw)
include P
theorem Lw.look(hj:hs[j]?=some f)(hk:hs[k]?=some g)(h:f.b=g.a):zg gw (ky j k)=some (.int (ent hs f g)) :=
 P.tb.look j k f g hj hk h (.inl (ak.mp hj).1)
theorem Lw.no(h:¬Meet hs j k):zg gw (ky j k)=none:=by apply ajw;intro p hp e;obtain⟨j',k',f,g,rfl,a,b,c,_⟩:=P.tb.keys p hp;obtain⟨rfl,rfl⟩:=afx e;exact h ⟨f,g,a,b,c⟩
theorem Lw.kl:gw.length<=25:=by
 have:=P.tb.len;have:hs.length*hs.length<=5*5:=Nat.mul_le_mul P.len P.len
 lia
theorem Lw.plain:Dp (gw.map (·.1))=true:=by have:=P.kl;simp only[Dp,gm,au,dq];refine⟨a_ this (by decide),?_⟩;rw[jc];intro k hk;obtain⟨p,hp,rfl⟩:=bf.mp hk;obtain⟨j,k,f,g,rfl,_⟩:=P.tb.keys p hp;simp[ky]
theorem Lw.sm:afq gw=true:=by
 unfold afq;rw[jc];intro p hp;obtain⟨j,k,f,g,rfl,a,b,_⟩:=P.tb.keys p hp;have:=(ak.mp a).1;have:=(ak.mp b).1;have:=P.len;simp[ky]
 lia
theorem Lw.same(h:Ps hs hs.length 0 ps):Ii (gw.map (·.1)) (ps.map λp=>ky p.1 p.2)=true:=by
 unfold Ii;rw[au,jc,jc];constructor
 . intro x hx
   obtain⟨p,hp,rfl⟩:=bf.mp hx;obtain⟨j,k,f,g,rfl,a,b,c,d⟩:=P.tb.keys p hp;rw[Ah];exact⟨ky j k,bf.mpr ⟨(j,k),(h.all (j,k)).mpr ⟨⟨f,g,a,b,c⟩,d⟩,rfl⟩,by simp⟩
 . intro y hy
   obtain⟨p,hp,rfl⟩:=bf.mp hy;obtain⟨⟨f,g,a,b,c⟩,d⟩:=(h.all p).mp hp;obtain⟨q,hq,e⟩:=anh (P.look a b c);rw[Ah];exact⟨q.1,bf.mpr ⟨q,hq,rfl⟩,by simp[e]⟩
theorem Lw.Ci(h:c∈hs\/c.Pa):(aj0 hs c=-1/\c.Pa)\/∃i:Nat,hs[i]?=some c/\aj0 hs c=i:=by
 by_cases m:c∈hs
 . exact .inr ⟨pos c hs,aar c m,cz m⟩
 . exact .inl ⟨bx m,h.resolve_left m⟩
theorem Lw.af0{j k l:Nat}(hj:hs[j]?=some f)(hk:hs[k]?=some g)(hl:hs[l]?=some h)(e1:f.b=g.a)(e2:g.b=h.a) :
 ∃v:Int,bothW hs gw (ent hs f g) l=some (.int v)/\bothW hs gw j (ent hs g h)=some (.int v):=by
 have mf:=aq hj;have mg:=aq hk;have mh:=aq hl;have of:=P.inv.good f mf;have og:=P.inv.good g mg;have oh:=P.inv.good h mh;have as:=afu (h:=h) of og e1;rw[Jk,Jk];have nj:¬((j:Int)=-1):=by lia
 have nl:¬((l:Int)=-1):=by lia
 rcases P.Ci (P.cl f mf g mg e1) with⟨x1,i1⟩|⟨u,hu,x1⟩
 . have c1:=aas (of.comp og e1) i1
   have ha:f.a=g.b:=i1.1;have left:(f.comp g).comp h=h:=by rw[c1];show(idF sz f.a).comp h=h;rw[ha,e2];exact id_comp oh
   rcases P.Ci (P.cl g mg h mh e2) with⟨x2,i2⟩|⟨w,hw,x2⟩
   . have c2:=aas (og.comp oh e2) i2
     have right:f.comp (g.comp h)=f:=by rw[c2];show f.comp (idF sz g.a)=f;rw[<- e1];exact comp_id of
     have fh:f=h:=by rw[<- right,<- as,left]
     have jl:j=l:=by rw[<- aft P.inv.nd hj,<- aft P.inv.nd hl,fh]
     refine⟨l,by simp[bothW,x1],?_⟩;rw[x2,bothW,bx nj,cz rfl,jl]
   . have nw:¬((w:Int)=-1):=by lia
     refine⟨l,by simp[bothW,x1],?_⟩;rw[x2,bothW,bx nj,bx nw];have:=P.look hj hw (show f.b=(g.comp h).a from e1);rw[Jk,<- as,left,ahr P.inv.nd hl] at this;exact this
 . have nu:¬((u:Int)=-1):=by lia
   have lu:=P.look hu hl (show(f.comp g).b=h.a from e2);rcases P.Ci (P.cl g mg h mh e2) with⟨x2,i2⟩|⟨w,hw,x2⟩
   . have c2:=aas (og.comp oh e2) i2
     have right:f.comp (g.comp h)=f:=by rw[c2];show f.comp (idF sz g.a)=f;rw[<- e1];exact comp_id of
     refine⟨j,?_,?_⟩
     . rw[x1,bothW,bx nu,bx nl]
       rw[Jk,as,right,ahr P.inv.nd hj] at lu;exact lu
     . rw[x2,bothW,bx nj,cz rfl]
   . have nw:¬((w:Int)=-1):=by lia
     refine⟨aj0 hs ((f.comp g).comp h),?_,?_⟩
     . rw[x1,bothW,bx nu,bx nl];exact lu
     . rw[x2,bothW,bx nj,bx nw]
       have:=P.look hj hw (show f.b=(g.comp h).a from e1);rw[Jk,<- as] at this;exact this
end
def atg(hm:1<=m)(P:Lw sz K hs gw):prog.call m 9 [.int K,Gb hs] M=.ok .non M:=by
 rw[call_of hm rfl];obtain⟨ρ',M',e,⟨b2,rfl⟩,rfl⟩:=Uh (W:=⟨prog.call (m-1),prog.cls⟩) (t:=.name 2) (b:=Ep) (it:=.v 1) (ds:=hs.map eD) (ρ:=[D.int K,Gb hs,none]) (M:=M) (M1:=M) (by simp[Gb])
  (λj ρ M'=>(∃b2:Option D,ρ=[some (.int K),some (Gb hs),b2])/\M'=M) ⟨⟨none,rfl⟩,rfl⟩
  (λj x ρ M1 hj hI=>by
   obtain⟨⟨b2,rfl⟩,rfl⟩:=hI;obtain⟨f,hf,rfl⟩:∃f,hs[j]?=some f/\eD f=x:=by simpa using hj
   have mf:=aq hf;have h1:=P.Vb f mf;have h2:=P.Ti f mf;refine⟨_,.next,_,M1,rfl,?_,.inl rfl,⟨some (eD f),rfl⟩,rfl⟩;have h1':(f.a:Int)<K:=m_ h1
   have h2':(f.b:Int)<K:=m_ h2
   have z1:(0:Int)<=(f.a:Int):=q_
   have z2:(0:Int)<=(f.b:Int):=q_
   simp[Ep,Us,Ut,h1,h2,h1',h2',z1,z2])
 have k1:(1:Int)<=K:=by have:=P.k1;exact n_ this
 have k3:(K:Int)<=3:=by have:=P.k3;exact n_ this
 have l5:¬(5:Int)<(hs.length:Int):=by have:=P.len;lia
 simp[Fn.run,Mt,Ms,k1,k3,Nv,l5,J5,e]
def ay3{j k:Nat}(hm:1<=m)(P:Lw sz K hs gw)(hj:hs[j]?=some f)(hk:hs[k]?=some g)(h:f.b=g.a):prog.call m 8 [Gb hs,.int (ent hs f g),.int f.a,.int g.b] M=.ok (.bl true) M:=by
 rw[call_of hm rfl,Jk];have mf:=aq hj;have mg:=aq hk;rcases P.Ci (P.cl f mf g mg h) with⟨x1,i1⟩|⟨u,hu,x1⟩
 . have ha:f.a=g.b:=i1.1
   simp[Fn.run,Eo,Em,x1,ha]
 . have hul:=(ak.mp hu).1
   have nu:¬((u:Int)=-1):=by lia
   have z:(0:Int)<=(u:Int):=q_
   have bc5:(u:Int)<(hs.length:Int):=m_ hul
   have e:yd M (eD (f.comp g)) (.tup [.int f.a,.int g.b])=some true:=by show Ph (Ih M 5) [.int f.a,.int g.b] [.int f.a,.int g.b]=some true;rw[Bt (Ir M 4 _ _) (Bt (Ir M 4 _ _) (show Ph (Ih M 5) [] []=some true from rfl))];simp
   simp[Fn.run,Eo,Em,x1,nu,z,hul,bc5,Nv,Ri hu,e]
def ath(hm:2<=m)(P:Lw sz K hs gw)(hr:M[r]?=some (.dT gw)):∃M',prog.call m 10 [Gb hs,.ref r] M=.ok .non M'/\yt M M'/\M'.length=M.length+1:=by
 rw[call_of (a_ (by decide) hm) rfl];obtain⟨M1,ps,e1,p1,t1,u1⟩:=Wi (M:=M) (m:=m-1) (hs:=hs) (r_ hm) P.len;have k1:yt M M1:=λa o h=>by rw[u1.oth a (by have:=xq h;exact h_ this)];exact v5 h
 have r1:=k1 r _ hr;have hks:(keysOf M1 (.ref r)).bind Dn=some (gw.map (·.1)):=by simp only[keysOf,r1,q9,adb]
 have hkp:(keysOf M1 (.ref M.length)).bind Dn=some (ps.map λp=>ky p.1 p.2):=by simp only[keysOf,p1,gf,q9,ade]
 have Ib:Dp (ps.map λp=>ky p.1 p.2)=true:=by
  have:=t1.len;have:hs.length*hs.length<=5*5:=Nat.mul_le_mul P.len P.len
  simp only[Dp,gm,au,dq];refine⟨by lia,?_⟩;rw[jc];intro k hk;obtain⟨p,hp,rfl⟩:=bf.mp hk;simp[ky]
 have bc6:(Ex.V4 (.v 1) (.v 2)).den ⟨prog.call (m-1),prog.cls⟩ [Gb hs,D.ref r,D.ref M.length,none,none] M1=.ok (.bl false) M1:=by rw[Ys];simp only[aah,List.getElem?_cons_succ,List.getElem?_cons_zero,Res.Ab,hks,P.plain,hkp,Ib,P.same t1,jy,qm]
 obtain⟨ρ',M',e,⟨b3,b4,rfl⟩,rfl⟩:=Bl (W:=⟨prog.call (m-1),prog.cls⟩) (t:=.names [3,4]) (b:=Gg) (it:=.v 2) (d:=.ref M.length) (ds:=ps.map pD) (ρ:=[Gb hs,D.ref r,D.ref M.length,none,none]) (M:=M1) (M1:=M1) (by simp) (jt p1)
  (λj ρ M'=>(∃b3 b4:Option D,ρ=[some (Gb hs),some (.ref r),some (.ref M.length),b3,b4])/\M'=M1) ⟨⟨none,none,rfl⟩,rfl⟩ (λi ρ M h=>by rw[h.2];exact jt p1)
  (λi x ρ M2 hx hI=>by
   obtain⟨⟨b3,b4,rfl⟩,rfl⟩:=hI;obtain⟨p,hp,rfl⟩:∃p,ps[i]?=some p/\pD p=x:=by simpa using hx
   obtain⟨⟨f,g,a,b,c⟩,d⟩:=(t1.all p).mp (aq hp);refine⟨_,.next,_,M2,Ce _ _ _ _ _,?_,.inl rfl,⟨some (.int p.1),some (.int p.2),rfl⟩,rfl⟩;have lk:=acu r1 (Yv p.1 p.2);rw[show([.inl (p.1:Int),.inl (p.2:Int)]:List Kx)=ky p.1 p.2 from rfl,P.look a b c] at lk;simp[Gg,lk,Ri a,Ri b,Us,Ut,ay3 (show 1<=m-1 by exact r_ hm) P a b c])
 refine⟨M',?_,k1,by rw[u1.len];simp⟩;simp[Fn.run,Pk,Pj,e1,bc6,Lg,e]
def ati(hm:2<=m)(P:Lw sz K hs gw)(hr:M[r]?=some (.dT gw)):∃M',prog.call m 11 [Gb hs,.ref r] M=.ok .non M'/\yt M M'/\M'.length=M.length+1:=by
 rw[call_of (a_ (by decide) hm) rfl];obtain⟨M1,ps,e1,p1,t1,u1⟩:=Wi (M:=M) (m:=m-1) (hs:=hs) (r_ hm) P.len;have k1:yt M M1:=λa o h=>by rw[u1.oth a (by have:=xq h;exact h_ this)];exact v5 h
 have r1:=k1 r _ hr;have hl:=P.len;obtain⟨ρ',M',e,⟨b3,b4,b5,b6,b7,rfl⟩,rfl⟩:=Bl (W:=⟨prog.call (m-1),prog.cls⟩) (t:=.names [3,4]) (b:=Er) (it:=.v 2) (d:=.ref M.length) (ds:=ps.map pD) (ρ:=[Gb hs,D.ref r,D.ref M.length,none,none,none,none,none]) (M:=M1) (M1:=M1) (by simp) (jt p1)
  (λj ρ M'=>(∃b3 b4 b5 b6 b7:Option D,ρ=[some (Gb hs),some (.ref r),some (.ref M.length),b3,b4,b5,b6,b7])/\M'=M1) ⟨⟨none,none,none,none,none,rfl⟩,rfl⟩ (λi ρ M h=>by rw[h.2];exact jt p1)
  (λi x ρ M2 hx hI=>by
   obtain⟨⟨b3,b4,b5,b6,b7,rfl⟩,rfl⟩:=hI;obtain⟨p,hp,rfl⟩:∃p,ps[i]?=some p/\pD p=x:=by simpa using hx
   obtain⟨⟨f,g,a,b,c⟩,d⟩:=(t1.all p).mp (aq hp);obtain⟨ρ3,M3,e3,⟨c5,c6,c7,rfl⟩,rfl⟩:=Al (W:=⟨prog.call (m-1),prog.cls⟩) (t:=.name 5) (b:=Cm) (it:=.blt .len (.o (.v 0))) (n:=hs.length) (ρ:=[Gb hs,D.ref r,D.ref M.length,D.int p.1,D.int p.2,b5,b6,b7]) (M:=M2) (M1:=M2) (by simp[Nv]) (a_ hl (by decide))
    (λj ρ M'=>(∃b5 b6 b7:Option D,ρ=[some (Gb hs),some (.ref r),some (.ref M.length),some (.int p.1),some (.int p.2),b5,b6,b7])/\M'=M2) ⟨⟨b5,b6,b7,rfl⟩,rfl⟩
    (λl ρ M4 hll hI=>by
     obtain⟨⟨b5,b6,b7,rfl⟩,rfl⟩:=hI;have hl':hs[l]?=some hs[l]:=by simp[hll]
     have X5:=a5q r1 (Yv p.2 l);rw[show([.inl (p.2:Int),.inl (l:Int)]:List Kx)=ky p.2 l from rfl] at X5
     by_cases q:g.b=hs[l].a
     . rw[P.look b hl' q] at X5
       obtain⟨v,v1,v2⟩:=P.af0 a b hl' c q;have lk1:=acu r1 (Yv p.1 p.2);rw[show([.inl (p.1:Int),.inl (p.2:Int)]:List Kx)=ky p.1 p.2 from rfl,P.look a b c] at lk1;have lk2:=acu r1 (Yv p.2 l);rw[show([.inl (p.2:Int),.inl (l:Int)]:List Kx)=ky p.2 l from rfl,P.look b hl' q] at lk2;refine⟨_,.next,_,M4,rfl,?_,.inl rfl,⟨some (.int l),some (.int v),some (.int v),rfl⟩,rfl⟩;simp[Cm,X5,lk1,lk2,aay (show 1<=m-1 by exact r_ hm) r1 v1,aay (show 1<=m-1 by exact r_ hm) r1 v2]
     . rw[P.no (λ⟨g',h',x,y,z⟩=>by rw[b] at x;rw[hl'] at y;cases x;cases y;exact q z)] at X5
       refine⟨_,.cont,_,M4,rfl,?_,.inr rfl,⟨some (.int l),b6,b7,rfl⟩,rfl⟩;simp[Cm,X5])
   refine⟨_,.next,_,M3,Ce _ _ _ _ _,?_,.inl rfl,⟨some (.int p.1),some (.int p.2),c5,c6,c7,rfl⟩,rfl⟩;simp[Er,J6,e3])
 refine⟨M',?_,k1,by rw[u1.len];simp⟩;simp[Fn.run,Mv,Mu,e1,J7,e]
noncomputable def Made(n r K:Nat)(hs:List F)(gw:List (List Kx×D))(M:di):Prop:=M[n]?=some (.ins 2 [(2,.int K),(1,Gb hs),(0,.ref r)])/\M[r]?=some (.dT gw)
def atj(hm:3<=m)(P:Lw sz K hs gw)(hr:M[r]?=some (.dT gw))(hn:M[n]?=some (.ins 2 [])) :
 ∃M' r',prog.call m 0 [.ref n,.int K,Gb hs,.ref r] M=.ok .non M'/\Made n r' K hs gw M'/\M.length<=r'/\r'<M'.length/\(∀(a:Nat)(o:MO),a≠n->M[a]?=some o->M'[a]?=some o):=by
 rw[call_of (a_ (by decide) hm) rfl];have d1:=atg (M:=M) (m:=m-1) (r_ (a_ (by decide) hm)) P;obtain⟨M1,e1,k1,l1⟩:=ath (M:=M) (m:=m-1) (r_ hm) P hr;obtain⟨M2,e2,k2,l2⟩:=ati (M:=M1) (m:=m-1) (r_ hm) P (k1 r _ hr);have k:=k1.trans k2;have n2:=k n _ hn;have r2:=k r _ hr;have hrn:r≠n:=λe=>by rw[e,hn] at hr;cases hr
 have s1:Q6 (.ref n) 2 (.int K) M2=some (M2.set n (.ins 2 [(2,.int K)])):=by simp[Q6,n2,Ue]
 have n3:=ur (o:=.ins 2 [(2,.int K)]) n2;have s2:Q6 (.ref n) 1 (Gb hs) (M2.set n (.ins 2 [(2,.int K)]))=some (M2.set n (.ins 2 [(2,.int K),(1,Gb hs)])):=by simp[Q6,n3,Ue]
 have n4:=ur (o:=.ins 2 [(2,.int K),(1,Gb hs)]) n2;have r4:(M2.set n (.ins 2 [(2,.int K),(1,Gb hs)]))[r]?=some (.dT gw):=by rw[qu (j6 hrn)];exact r2
 have dc:uc .dict [.ref r] (M2.set n (.ins 2 [(2,.int K),(1,Gb hs)]))=.ok (.ref M2.length) (M2.set n (.ins 2 [(2,.int K),(1,Gb hs)])++[.dT gw]):=by simp[uc,r4,P.sm,MW.new]
 have n5:(M2.set n (.ins 2 [(2,.int K),(1,Gb hs)])++[.dT gw])[n]?=some (.ins 2 [(2,.int K),(1,Gb hs)]):=v5 n4;have s3:Q6 (.ref n) 0 (.ref M2.length) (M2.set n (.ins 2 [(2,.int K),(1,Gb hs)])++[.dT gw])=some ((List.set M2 n (MO.ins 2 [(2,.int K),(1,Gb hs)])++[MO.dT gw]).set n (MO.ins 2 [(2,.int K),(1,Gb hs),(0,.ref M2.length)])):=by simp[Q6,n5,Ue]
 have hnl:=xq n2;refine⟨_,M2.length,?_,⟨ur (o:=.ins 2 [(2,.int K),(1,Gb hs),(0,.ref M2.length)]) n5,?_⟩,by lia,by simp,λa o na h=>?_⟩
 . simp[Fn.run,Jy,Jx,d1,e1,e2,s1,s2,dc,s3]
 . rw[qu (h_ hnl)]
   rw[je (by simp)];simp
 . rw[qu (j6 na)]
   exact v5 (by rw[qu (j6 na)];exact k a o h)
end K05
namespace L2
open PySem PySem.Spec PyProof.Rows
abbrev Key:=Sum Int Str
noncomputable def Wj:Key->Value->Bool
 |.inl k,v=>Value.isInt k v|.inr x,v=>Value.isStrOf x v
noncomputable def bc7(w:World):Key->Int
 |.inl k=>hashInt k|.inr x=>hashStr w x
theorem An:∀{k:Key}{v:Value},Wj k v=true->(∃i t,k=Sum.inl i/\v=Value.int i t)\/(∃x t,k=Sum.inr x/\v=Value.str x t)
 |.inl i,v,h=>by
  obtain⟨t,e⟩:=Value.isInt_shape (k:=i) (v:=v) h;exact .inl ⟨i,t,rfl,e⟩
 |.inr x,v,h=>by
  obtain⟨t,e⟩:=Value.isStrOf_shape (x:=x) (v:=v) h;exact .inr ⟨x,t,rfl,e⟩
def aj1(i:Int)(t:Tok):Wj (.inl i) (.int i t)=true:=by simp[Wj,Value.isInt]
def aj2(x:Str)(t:Tok):Wj (.inr x) (.str x t)=true:=by simp[Wj,Value.isStrOf]
def ay4(a b:Int):decide ((Sum.inl a:Key)=Sum.inl b)=(a==b):=by
 by_cases e:a=b
 . subst e;simp
 . have h:¬(Sum.inl a:Key)=Sum.inl b:=λq=>e (Sum.inl.inj q)
   rw[zm h];exact(ql.mpr e).symm
def ay5(a b:Str):decide ((Sum.inr a:Key)=Sum.inr b)=decide (a=b):=by
 by_cases e:a=b
 . subst e;simp
 . have h:¬(Sum.inr a:Key)=Sum.inr b:=λq=>e (Sum.inr.inj q)
   rw[zm h,zm e]
def ay6(a:Int)(b:Str):decide ((Sum.inl a:Key)=Sum.inr b)=false:=zm (λq=>nomatch q)
def ay7(a:Str)(b:Int):decide ((Sum.inr a:Key)=Sum.inl b)=false:=zm (λq=>nomatch q)
noncomputable def jh(prog:Program)(w:World):PySem.KeyKind prog w Key where
 is:=Wj
 hash:=bc7 w
 inj:=λv a b ha hb=>by
  rcases An ha with⟨i,t,rfl,rfl⟩|⟨x,t,rfl,rfl⟩
  . rcases An hb with⟨j,u,rfl,e⟩|⟨y,u,rfl,e⟩
    . injection e with e1 _;rw[e1]
    . exact nomatch e
  . rcases An hb with⟨j,u,rfl,e⟩|⟨y,u,rfl,e⟩
    . exact nomatch e
    . injection e with e1 _;rw[e1]
 byValue:=λk v h=>by rcases An h with⟨i,t,rfl,rfl⟩|⟨x,t,rfl,rfl⟩<;>rfl
 pyHash:=λhv h=>by
  rcases An hv with⟨i,t,rfl,rfl⟩|⟨x,t,rfl,rfl⟩
  . exact wpAny_pyHash_int h
  . exact wpAny_pyHash_str h
 eqBool:=λhu hv h=>by
  rcases An hu with⟨i,t,rfl,rfl⟩|⟨x,t,rfl,rfl⟩
  . rcases An hv with⟨j,u,rfl,rfl⟩|⟨y,u,rfl,rfl⟩
    . rw[ay4] at h;exact wpAny_eqBool_int h
    . rw[ay6] at h;exact SeqAt.EqAt.int_str i t y u _ _ _ _ h
  . rcases An hv with⟨j,u,rfl,rfl⟩|⟨y,u,rfl,rfl⟩
    . rw[ay7] at h;exact SeqAt.EqAt.str_int x t j u _ _ _ _ h
    . rw[ay5] at h;exact wpAny_eqBool_str h
 «strs»:=λk x t v h=>by
  rcases An h with⟨i,u,rfl,e⟩|⟨y,u,rfl,e⟩
  . exact nomatch e
  . injection e with e1 _
    subst e1;cases v<;>rfl
def adf(prog:Program)(w:World)(i:Int)(t:Tok):(jh prog w).is (.inl i) (.int i t)=true:=aj1 i t
def adg(prog:Program)(w:World)(x:Str)(t:Tok):(jh prog w).is (.inr x) (.str x t)=true:=aj2 x t
end L2
namespace L2
open PySem PySem.Spec PyProof.Rows
set_option genInjectivity true in
inductive V where
 |non|bl (b:Bool)|int (i:Int)|str (x:Str)|byt (b:Array UInt8)|flt (b:UInt64)|ref (a:Addr)|ty (n:String)
 deriving DecidableEq
def RelV:V->Value->Prop
 |.non,u=>u=Value.none|.bl b,u=>u=Value.bool b|.int i,u=>∃t,u=Value.int i t|.str x,u=>∃t,u=Value.str x t|.byt b,u=>∃t,u=Value.bytes b t|.flt b,u=>∃t,u=Value.float b t|.ref a,u=>u=Value.ref a|.ty n,u=>u=Value.type n
abbrev Vals:List V->List Value->Prop:=Paired RelV
theorem Vals.length(r:Vals xs us):xs.length=us.length:=Paired.length r
theorem Vals.get:∀{xs:List V}{us:Zl}{i:Nat}{x:V},Vals xs us->xs[i]?=some x->∃u,us[i]?=some u/\RelV x u
 |_,_,_,_,.nil,e=>by simp at e|_,_,0,_,.cons r _,e=>by simp at e;subst e;exact⟨_,rfl,r⟩
 |_,_,i+1,x,.cons _ t,e=>by
  obtain⟨u,h1,h2⟩:=Vals.get (i:=i) (x:=x) t (by simpa using e);exact⟨u,by simpa using h1,h2⟩
theorem Vals.set{x:V}{u:Value}(r:RelV x u):∀{xs:List V}{us:Zl}(i:Nat),Vals xs us->Vals (xs.set i x) (us.set i u)
 |_,_,_,.nil=>.nil|_,_,0,.cons _ t=>.cons r t|_,_,i+1,.cons q t=>.cons q (Vals.set r i t)
theorem Vals.append:∀{xs ys:List V}{us ws:Zl},Vals xs us->Vals ys ws->Vals (xs++ys) (us++ws)
 |_,_,_,_,.nil,s=>s|_,_,_,_,.cons r t,s=>.cons r (Vals.append t s)
theorem Vals.take:∀{xs:List V}{us:Zl}(n:Nat),Vals xs us->Vals (xs.take n) (us.take n)
 |_,_,0,_=>.nil|_,_,_+1,.nil=>.nil|_,_,n+1,.cons r t=>.cons r (Vals.take n t)
theorem Vals.drop:∀{xs:List V}{us:Zl}(n:Nat),Vals xs us->Vals (xs.drop n) (us.drop n)
 |_,_,0,r=>r|_,_,_+1,.nil=>.nil|_,_,n+1,.cons _ t=>Vals.drop n t
def Ma:Option V->Option Value->Prop
 |some v,some u=>RelV v u|none,none=>True|_,_=>False
def KV{κ:Type}:List (κ×V)->List (κ×Value)->Prop:=Paired λ(p:κ×V) (q:κ×Value)=>p.1=q.1/\RelV p.2 q.2
noncomputable def kV:Key->V
 |.inl i=>.int i|.inr x=>.str x
inductive HO where
 |lst (xs:List V)
 |tup (xs:List V)
 |dK (gw:List (Key×V))|dT (gw:List (List Key×V))
 |set (S:Int->Bool) (n:Nat)
 |ins (C dx:Addr) (fs:List (Str×V))
 |own (x:Addr)
 |xd (fs:List (Str×V))
 |met (f x:Addr)
 |O6 (lo hi:Int)
 |Qs (o:Obj) (u:HO)
 |tbl (ps:U1)
 |ext (φ:Heap->Prop)
abbrev Hp:=Addr->Option HO
noncomputable def upd(H:Hp)(a:Addr)(o:HO):Hp:=λb=>if b=a then some o else H b
def vm:upd H a o a=some o:=by unfold upd;rw[cz rfl]
def j9(h:b≠a):upd H a o b=H b:=by unfold upd;rw[bx h]
def ani{H:Hp}(h:H a=some o)(h':H b=some u)(d:o≠u):a≠b:=by intro e;subst e;rw[h] at h';exact d (jd h')
def kj{H:Hp}(h:H a=some o)(h':H b=none):a≠b:=by intro e;subst e;rw[h] at h';cases h'
section
variable(P:Program)(w:World)
def Wk(h:Heap)(a:Addr)(items:U1):Prop:=∃o,h.get? a=some o/\o.cls=.type "tuple"/\∃n,o.data=.seq items n/\o.dict=none
def Wk.is(x:Wk h a items):IsTup h a items:=let ⟨o,h1,h2,n,h3,_⟩:=x;⟨o,h1,h2,n,h3⟩
def Wk.new(h:Heap)(items:U1):Wk (h.push { cls:=.type "tuple",data:=.seq items }) h.objs.size items:=⟨_,bu _ rfl,rfl,_,rfl,rfl⟩
def Be(H:Hp)(h:Heap)(a:Addr):HO->Prop
 |.lst xs=>xs.length<=sizeLine/\∃(wy:Zl)(n:Nat),Vals xs wy/\h.get? a=some { cls:=.type "list",data:=.seq wy.toArray n }|.tup xs=>xs.length<=sizeLine/\∃wy:List Value,Vals xs wy/\Wk h a wy.toArray|.dK gw=>gw.length<=sizeLine/\(a==sysModules)=false/\∃vs,KV gw vs/\h.DictOf (jh P w) a vs
 |.dT gw=>gw.length<=sizeLine/\(a==sysModules)=false/\∃xs:List (List Key×Addr×Value),
  Paired (λ(p:List Key×V) (q:List Key×Addr×Value)=>p.1=q.1/\H q.2.1=some (.tup (p.1.map kV))/\RelV p.2 q.2.2) gw xs /\
  ∃o es ep,h.get? a=some o/\o.ExactDict/\o.data=.dict es ep/\es.toList=xs.map (entryOfKey (tupleKind (jh P w)))/\(xs.map (·.1)).Nodup
 |.set S n=>h.SetOf (intKind P w) a S n
 |.ins C dx fs=>H dx=some (.own a)/\fs.length<=1000/\dx≠a/\h.get? a=some (PySem.W.instObj C dx) /\
  ∃mA,h.Ns1 dx mA/\(∀f,Ma (fs.lookup f) (mA f))/\PySem.Within mA (fs.map (·.1))
 |.own _=>∃o,h.get? a=some o|.xd fs=>∃mA,h.Ns1 a mA/\∀f,Ma (fs.lookup f) (mA f)|.O6 lo hi=>∃t u v,h.get? a=some { cls:=.type "range",data:=.fields #[.int lo t,.int hi u,.int 1 v] }|.Qs o u=>h.get? a=some o/\Be H h a u|.tbl ps=>h.get? a=some { cls:=.none,data:=.fields ps }|.met f x=>h.get? a=some (PySem.W.methodObj (.ref f) (.ref x))|.ext φ=>φ h/\(∃o,h.get? a=some o)/\∀h1 h2:Heap,φ h1->(∀o,h1.get? a=some o->h2.get? a=some o)->φ h2
def Qd(H:Hp)(h:Heap):Prop:=∀a o,H a=some o->Be P w H h a o
end
theorem Be.lt(x:Be P w H h a o):a<h.objs.size:=by
 cases o with
 |lst xs=>obtain⟨_,_,_,_,e⟩:=x;exact az e
 |tup xs=>obtain⟨_,_,_,p⟩:=x;exact(Wk.is p).lt
 |dK gw=>obtain⟨_,_,_,_,o,_,_,e,_⟩:=x;exact az e
 |dT gw=>obtain⟨_,_,_,_,o,_,_,e,_⟩:=x;exact az e
 |set S n=>obtain⟨o,_,_,_,e,_⟩:=x;exact az e
 |ins C dx fs=>obtain⟨_,_,_,e,_⟩:=x;exact az e
 |own y=>obtain⟨_,e⟩:=x;exact az e
 |xd fs=>obtain⟨_,⟨_,_,_,e,_⟩,_⟩:=x;exact az e
 |O6 lo hi=>obtain⟨_,_,_,e⟩:=x;exact az e
 |Qs ob u=>obtain⟨e,_⟩:=x;exact az e
 |tbl ps=>exact az (show h.get? a=some _ from x)
 |met f y=>exact az (show h.get? a=some _ from x)
 |ext φ=>obtain⟨_,⟨_,e⟩,_⟩:=x;exact az e
theorem Paired.ay9{α β:Type}{F G:α->β->Prop}:∀{l₁:List α}{l₂:List β},Paired F l₁ l₂->(∀a b,F a b->G a b)->Paired G l₁ l₂
 |_,_,.nil,_=>.nil|_,_,.cons r t,f=>.cons (f _ _ r) (Paired.ay9 t f)
def Be.stay(x:Be P w H h a o)(k:∀b u,(b=a\/H b=some (.own a))->h.get? b=some u->h'.get? b=some u)(ho:∀b,H b=some (.own a)->H' b=some (.own a))(ht:∀b xs,H b=some (.tup xs)->H' b=some (.tup xs)):Be P w H' h' a o:=by
 induction o with
 |lst xs=>obtain⟨z,wy,n,r,e⟩:=x;exact⟨z,wy,n,r,k _ _ (.inl rfl) e⟩
 |tup xs=>obtain⟨z,wy,r,ob,e,c⟩:=x;exact⟨z,wy,r,ob,k _ _ (.inl rfl) e,c⟩
 |dK gw=>obtain⟨z,y,vs,r,ob,es,ep,e,c⟩:=x;exact⟨z,y,vs,r,ob,es,ep,k _ _ (.inl rfl) e,c⟩
 |dT gw =>
  obtain⟨z,y,xs,r,ob,es,ep,e,c⟩:=x;exact⟨z,y,xs,Paired.ay9 r λp q z=>⟨z.1,ht _ _ z.2.1,z.2.2⟩,ob,es,ep,k _ _ (.inl rfl) e,c⟩
 |set S n=>obtain⟨ob,es,ep,t,e,c⟩:=x;exact⟨ob,es,ep,t,k _ _ (.inl rfl) e,c⟩
 |ins C dx fs =>
  obtain⟨d,z,ne,e,mA,⟨od,es,ep,e2,c⟩,r⟩:=x;exact⟨ho _ d,z,ne,k _ _ (.inl rfl) e,mA,⟨od,es,ep,k _ _ (.inr d) e2,c⟩,r⟩
 |own y=>obtain⟨ob,e⟩:=x;exact⟨ob,k _ _ (.inl rfl) e⟩
 |xd fs=>obtain⟨mA,⟨od,es,ep,e,c⟩,r⟩:=x;exact⟨mA,⟨od,es,ep,k _ _ (.inl rfl) e,c⟩,r⟩
 |O6 lo hi=>obtain⟨t,u,v,e⟩:=x;exact⟨t,u,v,k _ _ (.inl rfl) e⟩
 |Qs ob u ih=>obtain⟨e,q⟩:=x;exact⟨k _ _ (.inl rfl) e,ih q⟩
 |tbl ps =>
  have e:h.get? a=some { cls:=.none,data:=.fields ps }:=x;show h'.get? a=some { cls:=.none,data:=.fields ps };exact k a _ (.inl rfl) e
 |met f y =>
  have e:h.get? a=some (PySem.W.methodObj (.ref f) (.ref y)):=x;show h'.get? a=some (PySem.W.methodObj (.ref f) (.ref y));exact k a _ (.inl rfl) e
 |ext φ=>obtain⟨p,⟨o,e⟩,st⟩:=x;exact⟨st _ _ p λo q=>k _ _ (.inl rfl) q,⟨o,k _ _ (.inl rfl) e⟩,st⟩
theorem Qd.lt(x:Qd P w H h)(e:H a=some o):a<h.objs.size:=(x a o e).lt
def Qd.fresh(x:Qd P w H h)(e:h.objs.size<=a):H a=none:=by
 cases q:H a with
 |none=>rfl|some u=>exact absurd (gq (x.lt q) e) (nq _)
def Qd.kept(x:Qd P w H h)(k:∀b u,h.get? b=some u->h'.get? b=some u):Qd P w H h':=λa o e =>
 (x a o e).stay (λb u _ q=>k b u q) (λ_ q=>q) λ_ _ q=>q
def Qd.laid(x:Qd P w H h)(k:∀b u,h.get? b=some u->h'.get? b=some u)(hp:h.objs.size<=a)(new:Be P w (upd H a o) h' a o):Qd P w (upd H a o) h':=λb u e=>by
 have hn:=x.fresh hp
 by_cases hb:b=a
 . subst hb;rw[vm] at e;cases e;exact new
 . rw[j9 hb] at e
   exact(x b u e).stay (λc v _ q=>k c v q) (λc q=>by rw[j9 (kj q hn)];exact q) λc xs q=>by rw[j9 (kj q hn)];exact q
def Rd(H:Hp)(a:Addr)(u:HO):Prop:=H a=some u\/∃o,H a=some (.Qs o u)
def Rd.ok(r:Rd H a u)(x:Qd P w H h):Be P w H h a u:=by
 rcases r with r|⟨o,r⟩
 . exact x a u r
 . obtain⟨_,q⟩:=x a _ r
   exact q
def Mut:Option HO->Prop
 |some (.lst _)=>True|some (.dK _)=>True|some (.dT _)=>True|some (.set _ _)=>True|some (.ins _ _ _)=>True|some (.ext _)=>True|_=>False
def Qd.write(ok:Qd P w H h)(mu:Mut (H x))(he:e=x\/H e=some (.own x))(k:∀b u,b≠e->h.get? b=some u->h'.get? b=some u)(heo:∃u,h'.get? e=some u)(new:Be P w (upd H x o') h' x o'):Qd P w (upd H x o') h':=λb u q=>by
 have a5w:∀c y,H c=some (.own y)->c≠x:=λc y r z=>by subst z;rw[r] at mu;exact mu
 have bc8:∀c xs,H c=some (.tup xs)->c≠x:=λc xs r z=>by subst z;rw[r] at mu;exact mu
 by_cases hb:b=x
 . subst hb;rw[vm] at q;cases q;exact new
 . rw[j9 hb] at q
   by_cases hbe:b=e
   . have q':H b=some (.own x):=by
      rcases he with z|z
      . exact absurd (hbe.trans z) hb
      . rw[hbe];exact z
     rw[q] at q';cases q';obtain⟨v,hv⟩:=heo;exact⟨v,by rw[hbe];exact hv⟩
   . refine(ok b u q).stay (λc v hc r=>k c v ?_ r) (λc r=>by rw[j9 (a5w c b r)];exact r) λc xs r=>by rw[j9 (bc8 c xs r)];exact r
     rcases hc with rfl|hc
     . exact hbe
     . rintro rfl
       rcases he with z|z
       . exact a5w c b hc z
       . rw[hc] at z;cases z;exact hb rfl
structure Un(fs ex:X9)(H H':Hp)(h h':Heap):Prop where
 keep:∀b o,h.get? b=some o->H b=none->b∉fs->b∉ex->h'.get? b=some o
 slot:∀b o,h.get? b=some o->H b=none->b∈fs->b∉ex->∃sl,h'.get? b=some { o with slots:=sl }
 free:∀b o,h.get? b=some o->H b=none->b∉ex->H' b=none
 there:∀b o,h.get? b=some o->b∉ex->∃o',h'.get? b=some o'
 Wl:∀b xs,H b=some (.tup xs)->H' b=some (.tup xs)
 aaz:∀b o u,H b=some (.Qs o u)->H' b=some (.Qs o u)
 adh:∀b ps,H b=some (.tbl ps)->∃more,H' b=some (.tbl (ps++more))
def Un.any(u:Un fs ex H H1 h h1)(q:h.get? b=some ob)(n:H b=none)(hx:b∉ex):∃sl,h1.get? b=some { ob with slots:=sl }:=by
 by_cases hb:b∈fs
 . exact u.slot b ob q n hb hx
 . exact⟨ob.slots,u.keep b ob q n hb hx⟩
def Un.kept(k:∀b u,h.get? b=some u->h'.get? b=some u):Un fs ex H H h h' :=
 ⟨λb ob q _ _ _=>k b ob q,λb ob q _ _ _=>⟨ob.slots,k b ob q⟩,λ_ _ _ n _=>n,λb ob q _=>⟨ob,k b ob q⟩,λ_ _ q=>q,λ_ _ _ q=>q,λ_ ps q=>⟨#[],by rw[q];simp⟩⟩
def Un.refl:Un fs ex H H h h:=Un.kept λ_ _ q=>q
theorem Un.laid(k:∀b u,h.get? b=some u->h'.get? b=some u)(hp:h.objs.size<=a)(hn:H a=none):Un fs ex H (upd H a o) h h' where
 keep:=λb u q _ _ _=>k b u q
 slot:=λb u q _ _ _=>⟨u.slots,k b u q⟩
 free:=λb u q n _=>by rw[j9 (du (gq (az q) hp))];exact n
 there:=λb u q _=>⟨u,k b u q⟩
 Wl:=λb xs q=>by rw[j9 (kj q hn)];exact q
 aaz:=λb u xs q=>by rw[j9 (kj q hn)];exact q
 adh:=λb ps q=>⟨#[],by rw[j9 (kj q hn),q];simp⟩
def Un.write(mu:Mut (H x))(he:e=x\/H e=some (.own x))(k:∀b u,b≠e->h.get? b=some u->h'.get? b=some u)(heo:∃u,h'.get? e=some u):Un fs ex H (upd H x o) h h':=by
 have hx:∀b,H b=none->b≠x:=λb n z=>by subst z;rw[n] at mu;exact mu
 have hb:∀b,H b=none->b≠e:=λb n z=>by
  subst z;rcases he with r|r
  . exact hx b n r
  . rw[n] at r;cases r
 have hm:∀b u,H b=some u->¬Mut (some u)->b≠x:=λb u q nm z=>by subst z;rw[q] at mu;exact nm mu
 refine⟨λb u q n _ _=>k b u (hb b n) q,λb u q n _ _=>⟨u.slots,k b u (hb b n) q⟩,λb u q n _=>by rw[j9 (hx b n)];exact n,λb u q _=>?_,
  λb xs q=>by rw[j9 (hm b _ q λz=>z)];exact q,λb u xs q=>by rw[j9 (hm b _ q λz=>z)];exact q,λb ps q=>⟨#[],by rw[j9 (hm b _ q λz=>z),q];simp⟩⟩
 by_cases hbe:b=e
 . subst hbe;exact heo
 . exact⟨u,k b u hbe q⟩
noncomputable def trk(h:Heap)(H:Hp):List Addr:=(List.range h.objs.size).filter λa=>(H a).isSome
noncomputable def aa0(h:Heap)(H:Hp):Heap:=PySem.W.hideAll h (trk h H)
def aj3(h:Heap)(H:Hp):(aa0 h H).objs.size=h.objs.size:=PySem.W.hideAll_size _ _
def anj(e:h.get? b=some o)(n:H b=none):(aa0 h H).get? b=some o :=
 PySem.W.hideAll_get _ e λhm=>by have q:(H b).isSome=true:=(uy.mp hm).2;rw[n] at q;simp at q
def atk(e:(aa0 h H).get? b=some o):h.get? b=some o/\H b=none:=by
 have e':h.get? b=some o:=PySem.W.of_hideAll (trk h H) e;refine⟨e',?_⟩;cases q:H b with
 |none=>rfl
 |some x =>
  have hm:b∈trk h H:=uy.mpr ⟨ig.mpr (az e'),by simp[q]⟩;have z:(aa0 h H).get? b=none:=PySem.W.hideAll_none (trk h H) hm;rw[z] at e;cases e
end L2
namespace L2
open PySem PySem.Spec PyProof.Rows
structure Mod(K:Fg)(mg:Zs)(base:Heap):Prop where
 kin:K.In base
 glob:base.Ns mainGlobals mg
 blt:∃mb,base.Ns builtinsNs mb/\∀x:Str,x≠"__name__" -> mb x=bootBuiltins x
 nolimit:base.NoLimit
structure Cx where
 prog:Program
 w:World
 K:Fg
 mg:Str->Option Value
 base:Heap
 A:Around
 N:List Str
 s₀:Shared
 H₀:Hp
 env:Env
 outer:List Env
 stack:List Env
 ex:List Addr
 fn:Str->Bool
 calm:Bool
 pn:List (Addr×Obj)
 xe:Value->Shared->Prop
noncomputable def frs(l:List Env):List Addr:=l.filterMap (·.frame)
noncomputable abbrev Cx.fs(X:Cx):List Addr:=frs X.outer
def Vis(sc:Scope)(x:Str):Prop:=sc.names.lookup x=some .local\/sc.names.lookup x=some .cell\/sc.names.lookup x=some .free
def Loc(sc:Scope)(x:Str):Prop:=sc.names.lookup x=some .local\/sc.names.lookup x=some .cell
def Look(env:Env)(h:Heap)(m:Zs)(x:Str)(u:Value):Prop :=
 (env.kindOf x=some .local/\m x=some u)\/((env.kindOf x=some .cell\/env.kindOf x=some .free)/\∃c,env.cells.lookup x=some c/\h.IsCell c (some u))
structure Cx.Ok(X:Cx):Prop where
 mod:Mod X.K X.mg X.base
 kind:X.env.scope.kind=.function
 glob:X.env.globals=mainGlobals
 blt:X.env.builtins=builtinsNs
 above:X.s₀.heap.objs.size<=X.env.locals
 inj:∀x y c,X.env.cells.lookup x=some c->X.env.cells.lookup y=some c->x=y
 has:∀x,(X.env.kindOf x=some .cell\/X.env.kindOf x=some .free)->∃c,X.env.cells.lookup x=some c
 cab:∀x c,X.fn x=true->X.env.cells.lookup x=some c->X.s₀.heap.objs.size<=c
 hd:X.calm=true->X.A.handled=none
 frames:X.A.frames=some X.stack
 stk:X.stack=X.outer\/(X.stack=X.env::X.outer/\X.env.frame=some X.env.locals)
 exf:∀b∈X.ex,b≠X.env.locals/\∀x c,X.env.cells.lookup x=some c->c≠b
 bs:∀b o,X.base.get? b=some o->X.s₀.heap.get? b=some o/\X.H₀ b=none
 bsz:X.base.objs.size<=X.s₀.heap.objs.size
 anl:∀b o,X.base.get? b=some o->b∉X.ex
 atm:∀b∈X.ex,b∉X.fs
 Vc:X.s₀.heap.FunFrames X.base X.outer
 frf:∀b∈X.fs,X.H₀ b=none
structure Inv(X:Cx)(pins:Zp)(σ:List (Option V))(H:Hp)(s:Shared):Prop where
 ok:X.Ok
 os:s.os=X.s₀.os
 bare:AllBare s.gens
 base:Un X.fs X.ex X.H₀ H X.s₀.heap s.heap
 loc:∃m,s.heap.Ns X.env.locals m/\∀(i:Nat)(x:Str)(v:V),X.N[i]?=some x->σ[i]?=some (some v)->Vis X.env.scope x->∃u,RelV v u/\Look X.env s.heap m x u
 cell:∀x c,X.env.cells.lookup x=some c->∃v,s.heap.IsCell c v
 free:H X.env.locals=none
 Nx:∀x c,X.env.cells.lookup x=some c->H c=none
 pin:∀p∈X.pn++pins,s.heap.get? p.1=some p.2/\H p.1=none/\p.1≠X.env.locals/\p.1∉X.fs/\∀v,p.2.data≠.cell v
 Ad:Qd X.prog X.w H s.heap
 len:σ.length=X.N.length
def Cx.Ok.bc9{X:Cx}(ok:X.Ok)(e:X.base.get? b=some o):b∉X.fs:=λhb=>by have:=(ok.Vc.mem hb).1;rw[e] at this;cases this
theorem Inv.bs(I:Inv X pins σ H s):∀b o,X.base.get? b=some o->s.heap.get? b=some o/\H b=none:=λb o e =>
 ⟨I.base.keep b o (I.ok.bs b o e).1 (I.ok.bs b o e).2 (I.ok.bc9 e) (I.ok.anl b o e),I.base.free b o (I.ok.bs b o e).1 (I.ok.bs b o e).2 (I.ok.anl b o e)⟩
def Inv.bk(I:Inv X pins σ H s):∀b o,X.base.get? b=some o->s.heap.get? b=some o:=λb o e=>(I.bs b o e).1
theorem Inv.mod(I:Inv X pins σ H s):Mod X.K X.mg X.base:=I.ok.mod
def Inv.kIn(I:Inv X pins σ H s):X.K.In s.heap:=I.ok.mod.kin.keeps I.bk
theorem Inv.lt(I:Inv X pins σ H s):X.env.locals<s.heap.objs.size:=let ⟨_,hn,_⟩:=I.loc;hn.lt
def Inv.sz(I:Inv X pins σ H s):X.s₀.heap.objs.size<=s.heap.objs.size:=iu I.ok.above (Af I.lt)
def Inv.azd(I:Inv X pins σ H s)(h:s.heap.objs.size<=a):a∉X.fs:=λhb=>by obtain⟨_,o,ho,_⟩:=I.ok.Vc.mem hb;exact absurd (gq (az ho) (iu I.sz h)) (nq _)
def Inv.cne(I:Inv X pins σ H s):∀x c,X.env.cells.lookup x=some c->c≠X.env.locals:=λx c e z=>by obtain⟨v,o,ho,hd⟩:=I.cell x c e;obtain⟨m,⟨o',es,ep,ho',hd',_⟩,_⟩:=I.loc;rw[z,ho'] at ho;cases ho;rw[hd'] at hd;cases hd
theorem Inv.Vc(I:Inv X pins σ H s):s.heap.FunFrames X.base X.outer:=by
 have all:∀(l:List Env),(∀b∈frs l,b∈X.fs)->X.s₀.heap.FunFrames X.base l->s.heap.FunFrames X.base l:=by
  intro l
  induction l with
  |nil=>intro _ _;trivial
  |cons env r ih =>
   intro hs hl;obtain⟨hk,⟨L,o,hf,hn,ho,hd⟩,hr⟩:=hl;have hL:L∈X.fs:=hs L (by unfold frs;rw[List.filterMap_cons,hf];exact dh);obtain⟨sl,e⟩:=I.base.slot L o ho (I.ok.frf L hL) hL λz=>I.ok.atm L z hL
   exact⟨hk,⟨L,_,hf,hn,e,hd⟩,ih (λb hb=>hs b (by unfold frs;rw[List.filterMap_cons,hf];exact bh _ hb)) hr⟩
 exact all X.outer (λ_ hb=>hb) I.ok.Vc
theorem Inv.stack(I:Inv X pins σ H s):s.heap.FunFrames X.base X.stack:=by
 rcases I.ok.stk with e|⟨e,hf⟩
 . rw[e];exact I.Vc
 . rw[e]
   obtain⟨m,hn,_⟩:=I.loc;refine .cons (by rw[I.ok.kind];decide) hf hn ?_ I.Vc;exact Heap.get?_none_of_le (iu I.ok.bsz I.ok.above)
def Inv.aa1(I:Inv X pins σ H s):∀b∈frs X.stack,b∈X.env.locals::X.fs:=λb hb=>by
 rcases I.ok.stk with e|⟨e,hf⟩
 . rw[e] at hb;exact bh _ hb
 . rw[e] at hb
   unfold frs at hb;rw[List.filterMap_cons,hf] at hb;exact hb
def Inv.aht(I:Inv X pins σ H s):∀b∈frs X.stack,H b=none:=λb hb=>by
 rcases cu.mp (I.aa1 b hb) with e|hb
 . rw[e];exact I.free
 . obtain⟨_,o,ho,_⟩:=I.ok.Vc.mem hb
   exact I.base.free b o ho (I.ok.frf b hb) λz=>I.ok.atm b z hb
def Inv.step{ch:X9}(I:Inv X pins σ H s)(hch:∀b∈ch,(b∈X.ex\/X.s₀.heap.objs.size<=b)/\b≠X.env.locals/\(∀x c,X.env.cells.lookup x=some c->c≠b)/\∀p∈X.pn++pins,p.1≠b)(keep:∀b o,b≠X.env.locals->b∉X.fs->b∉ch->s.heap.get? b=some o->H b=none->h'.get? b=some o)(slot:∀b o,b≠X.env.locals->b∈X.fs->b∉ch->s.heap.get? b=some o->H b=none->∃sl,h'.get? b=some { o with slots:=sl })(free:∀b o,b∉ch->s.heap.get? b=some o->H b=none->H' b=none)(there:∀b o,b∉ch->s.heap.get? b=some o->∃o',h'.get? b=some o')(Wl:∀b xs,H b=some (.tup xs)->H' b=some (.tup xs))(aaz:∀b o u,H b=some (.Qs o u)->H' b=some (.Qs o u))(adh:∀b ps,H b=some (.tbl ps)->∃more,H' b=some (.tbl (ps++more)))(ns:∀m,s.heap.Ns X.env.locals m->h'.Ns X.env.locals m)(Ad:Qd X.prog X.w H' h')(hg:AllBare g') :
 Inv X pins σ H' { s with heap:=h',gens:=g',drawn:=d',toks:=t' }:=by
 have neL:∀b o,X.s₀.heap.get? b=some o->b≠X.env.locals:=λb o e=>du (gq (az e) I.ok.above)
 have neC:∀b o,X.s₀.heap.get? b=some o->b∉X.ex->b∉ch:=λb o e hx hb=>by
  rcases(hch b hb).1 with z|z
  . exact hx z
  . exact absurd (gq (az e) z) (nq _)
 have cellK:∀x c,X.env.cells.lookup x=some c->∀v,s.heap.IsCell c v->h'.IsCell c v:=λx c e v ⟨o,ho,hd⟩=>by
  have nch:c∉ch:=λz=>(hch c z).2.2.1 x c e rfl
  by_cases hc:c∈X.fs
  . obtain⟨sl,q⟩:=slot c o (I.cne x c e) hc nch ho (I.Nx x c e)
    exact⟨_,q,hd⟩
  . exact⟨o,keep c o (I.cne x c e) hc nch ho (I.Nx x c e),hd⟩
 refine⟨I.ok,I.os,hg,⟨λb o e n hb hx=>?_,λb o e n hb hx=>?_,λb o e n hx=>?_,λb o e hx=>?_,λb xs e=>Wl b xs (I.base.Wl b xs e),λb o xs e=>aaz b o xs (I.base.aaz b o xs e),λb ps e=>?_⟩,?_,λx c e=>?_,?_,λx c e=>?_,λp hp=>?_,Ad,I.len⟩
 . exact keep b o (neL b o e) hb (neC b o e hx) (I.base.keep b o e n hb hx) (I.base.free b o e n hx)
 . obtain⟨sl,e1⟩:=I.base.slot b o e n hb hx
   obtain⟨sl',e2⟩:=slot b _ (neL b o e) hb (neC b o e hx) e1 (I.base.free b o e n hx);exact⟨sl',e2⟩
 . obtain⟨o',e1⟩:=I.base.there b o e hx
   exact free b o' (neC b o e hx) e1 (I.base.free b o e n hx)
 . obtain⟨o',e1⟩:=I.base.there b o e hx
   exact there b o' (neC b o e hx) e1
 . obtain⟨m1,e1⟩:=I.base.adh b ps e
   obtain⟨m2,e2⟩:=adh b _ e1;exact⟨m1++m2,by rw[e2,Array.append_assoc]⟩
 . obtain⟨m,hn,hl⟩:=I.loc
   refine⟨m,ns m hn,λi x v e1 e2 e3=>?_⟩;obtain⟨u,r,l⟩:=hl i x v e1 e2 e3;refine⟨u,r,?_⟩;rcases l with l|⟨k,c,e,z⟩
   . exact .inl l
   . exact .inr ⟨k,c,e,cellK x c e _ z⟩
 . obtain⟨v,z⟩:=I.cell x c e
   exact⟨v,cellK x c e v z⟩
 . obtain⟨m,⟨o,_,_,ho,_⟩,_⟩:=I.loc
   exact free _ o (λz=>(hch _ z).2.1 rfl) ho I.free
 . obtain⟨v,o,ho,hd⟩:=I.cell x c e
   exact free c o (λz=>(hch c z).2.2.1 x c e rfl) ho (I.Nx x c e)
 . obtain⟨e,n,ne,nf,d⟩:=I.pin p hp
   have nch:p.1∉ch:=λz=>(hch p.1 z).2.2.2 p hp rfl
   exact⟨keep p.1 p.2 ne nf nch e n,free p.1 p.2 nch e n,ne,nf,d⟩
def Inv.un(I:Inv X pins σ H s)(u:Un X.fs [] H H' s.heap h')(Ad:Qd X.prog X.w H' h'):Inv X pins σ H' { s with heap:=h',toks:=t' }:=by
 obtain⟨m,⟨o,es,ep,ho,r⟩,_⟩:=id I.loc;obtain⟨sl,hL⟩:=u.any ho I.free (by simp);exact I.step (g':=s.gens) (d':=s.drawn) (ch:=[]) (λ_ z=>nomatch z) (λb o _ hb _ e n=>u.keep b o e n hb (by simp)) (λb o _ hb _ e n=>u.slot b o e n hb (by simp)) (λb o _ e n=>u.free b o e n (by simp)) (λb o _ e=>u.there b o e (by simp)) u.Wl u.aaz u.adh (λm' hm=>by
  obtain⟨o',es',ep',ho',r'⟩:=hm;rw[ho] at ho';cases ho';exact⟨_,es',ep',hL,r'⟩) Ad I.bare
def Inv.call(I:Inv X pins σ H s)(u:Un (frs X.stack) ch H H' s.heap h')(Ad:Qd X.prog X.w H' h')(hg:AllBare g')(hch:∀b∈ch,(b∈X.ex\/X.s₀.heap.objs.size<=b)/\b≠X.env.locals/\(∀x c,X.env.cells.lookup x=some c->c≠b)/\∀p∈X.pn++pins,p.1≠b) :
 Inv X pins σ H' { s with heap:=h',gens:=g',drawn:=d',toks:=t' }:=by
 obtain⟨m,⟨o,es,ep,ho,r⟩,_⟩:=id I.loc;obtain⟨sl,hL⟩:=u.any ho I.free λz=>(hch _ z).2.1 rfl
 exact I.step (ch:=ch) hch (λb o hL hb hc e n=>u.keep b o e n (λz=>(cu.mp (I.aa1 b z)).elim hL hb) hc) (λb o _ _ hc e n=>u.any e n hc) (λb o hc e n=>u.free b o e n hc) (λb o hc e=>u.there b o e hc) u.Wl u.aaz u.adh (λm' hm=>by
  obtain⟨o',es',ep',ho',r'⟩:=hm;rw[ho] at ho';cases ho';exact⟨_,es',ep',hL,r'⟩) Ad hg
def Inv.turned(I:Inv X pins σ H s)(k:∀b o,b≠it->s.heap.get? b=some o->h'.get? b=some o)(hn:H it=none)(hL:it≠X.env.locals)(h1:it∈X.ex\/X.s₀.heap.objs.size<=it)(h2:∀x c,X.env.cells.lookup x=some c->c≠it)(h3:∀p∈X.pn++pins,p.1≠it):Inv X pins σ H { s with heap:=h',toks:=t' }:=by
 have nit:∀b u,H b=some u->b≠it:=λb u e z=>by rw[z,hn] at e;cases e
 refine I.step (g':=s.gens) (d':=s.drawn) (ch:=[it]) (λb hb=>?_) (λb o _ _ hc e _=>k b o (λz=>hc (by simp[z])) e) (λb o _ _ hc e _=>⟨o.slots,k b o (λz=>hc (by simp[z])) e⟩) (λ_ _ _ _ n=>n)
  (λb o hc e=>⟨o,k b o (λz=>hc (by simp[z])) e⟩) (λ_ _ e=>e) (λ_ _ _ e=>e) (λb ps e=>⟨#[],by rw[e];simp⟩) (λm hm=>?_) (λb u e=>?_) I.bare
 . have e:b=it:=by simpa using hb
   subst e;exact⟨h1,hL,h2,h3⟩
 . obtain⟨o,es,ep,ho,r⟩:=hm
   exact⟨o,es,ep,k _ o (j6 hL) ho,r⟩
 . refine(I.Ad b u e).stay (λc v hc q=>k c v ?_ q) (λ_ q=>q) λ_ _ q=>q
   rcases hc with z|z
   . rw[z];exact nit b u e
   . exact nit c _ z
def Inv.tok(I:Inv X pins σ H s)(t:Nat):Inv X pins σ H { s with toks:=t }:=I.un (h':=s.heap) (t':=t) Un.refl I.Ad
theorem Inv.kept(I:Inv X pins σ H s)(k:∀b u,s.heap.get? b=some u->h'.get? b=some u):Inv X pins σ H { s with heap:=h',toks:=t' }:=I.un (Un.kept k) (I.Ad.kept k)
theorem Inv.laid(I:Inv X pins σ H s)(k:∀b u,s.heap.get? b=some u->h'.get? b=some u)(hp:s.heap.objs.size<=a)(new:Be X.prog X.w (upd H a o) h' a o) :
 Inv X pins σ (upd H a o) { s with heap:=h',toks:=t' }:=I.un (Un.laid k hp (I.Ad.fresh hp)) (I.Ad.laid k hp new)
theorem Inv.write(I:Inv X pins σ H s)(mu:Mut (H x))(he:e=x\/H e=some (.own x))(k:∀b u,b≠e->s.heap.get? b=some u->h'.get? b=some u)(heo:∃u,h'.get? e=some u)(new:Be X.prog X.w (upd H x o) h' x o):Inv X pins σ (upd H x o) { s with heap:=h',toks:=t' }:=I.un (Un.write mu he k heo) (I.Ad.write mu he k heo new)
def Inv.weak(I:Inv X pins σ H s)(hl:σ'.length=σ.length)(w:∀(i:Nat) v,σ'[i]?=some (some v)->σ[i]?=some (some v)):Inv X pins σ' H s :=
 ⟨I.ok,I.os,I.bare,I.base,let ⟨m,hn,hl'⟩:=I.loc;⟨m,hn,λi x v e1 e2 e3=>hl' i x v e1 (w i v e2) e3⟩,I.cell,I.free,I.Nx,I.pin,I.Ad,hl.trans I.len⟩
def Inv.Rj(I:Inv X pins σ H s)(h:∀p∈ahu,s.heap.get? p.1=some p.2/\H p.1=none/\p.1≠X.env.locals/\p.1∉X.fs/\∀v,p.2.data≠.cell v):Inv X ahu σ H s :=
 ⟨I.ok,I.os,I.bare,I.base,I.loc,I.cell,I.free,I.Nx,λp hp=>(gh.mp hp).elim (λz=>I.pin p (yg _ z)) (h p),I.Ad,I.len⟩
def Kf{N:Yf}(hN:N.Nodup){i:Nat}(a:N[i]?=some x)(b:N[j]?=some x):i=j:=by obtain⟨h1,e1⟩:=ak.mp a;obtain⟨h2,e2⟩:=ak.mp b;exact(vd hN).mp (e1.trans e2.symm)
def aj4(I:Inv X pins σ H s)(hN:X.N.Nodup)(hi:X.N[i]?=some x)(hx:Loc X.env.scope x)(r:RelV v u)(h:∀s',Inv X pins (σ.set i (some v)) H s'->(∃a,Heap.SameBut a s.heap s'.heap/\(a=X.env.locals\/X.env.cells.lookup x=some a))->Q () s')(hf:X.fn x=true\/X.env.scope.names.lookup x=some .local:=by first|exact .inl rfl|exact .inr rfl|assumption):wpAny M A (storeName X.env x u) Q E s:=by
 obtain⟨m,hn,hl⟩:=id I.loc;have bda:(X.env.scope.kind==.class||(X.env.scope.kind==.module&&X.env.locals != X.env.globals))=false:=by rw[I.ok.kind];rfl
 have hiσ:i < σ.length:=by rw[I.len];exact(ak.mp hi).1
 have cne:=I.cne;have tracked:∀{a:Addr}{h':Heap},(∃o,s.heap.get? a=some o/\H a=none)->Heap.SameBut a s.heap h'->Qd X.prog X.w H h':=fun{a h'} ha hs b ob e=>by
  obtain⟨_,_,Qe⟩:=ha;refine(I.Ad b ob e).stay (λc w' hc q=>(hs.2 c ?_).trans q) (λ_ q=>q) λ_ _ q=>q
  rintro rfl;rcases hc with rfl|hc
  . rw[Qe] at e;cases e
  . rw[Qe] at hc;cases hc
 rcases hx with hk|hk
 . refine wpAny_storeName_local hk hn (λh' Om hs=>?_) bda
   obtain⟨oL,_,_,hoL,_⟩:=id hn;refine h _ ⟨I.ok,I.os,I.bare,⟨λb o e n hb hx=>?_,λb o e n hb hx=>?_,I.base.free,λb o e hx=>?_,I.base.Wl,I.base.aaz,I.base.adh⟩,⟨_,Om,λj y v' e1 e2 e3=>?_⟩,λy c e=>?_,I.free,I.Nx,λp hp=>?_,tracked ⟨oL,hoL,I.free⟩ hs,by simpa using I.len⟩ ⟨_,hs,.inl rfl⟩
   . exact(hs.2 b (du (gq (az e) I.ok.above))).trans (I.base.keep b o e n hb hx)
   . obtain⟨sl,e1⟩:=I.base.slot b o e n hb hx
     exact⟨sl,(hs.2 b (du (gq (az e) I.ok.above))).trans e1⟩
   . obtain⟨o',e1⟩:=I.base.there b o e hx
     exact⟨o',(hs.2 b (du (gq (az e) I.ok.above))).trans e1⟩
   . by_cases hj:j=i
     . subst hj
       rw[hi] at e1;cases e1;rw[List.getElem?_set_self hiσ] at e2;cases e2;exact⟨u,r,.inl ⟨hk,by simp⟩⟩
     . rw[vq (j6 hj)] at e2
       obtain⟨u',r',q⟩:=hl j y v' e1 e2 e3;refine⟨u',r',?_⟩;rcases q with⟨k,e⟩|⟨k,c,e,z⟩
       . refine .inl ⟨k,?_⟩
         have:y≠x:=λe=>hj (Kf hN e1 (e▸hi))
         simp[this,e]
       . exact .inr ⟨k,c,e,z.sameBut hs (cne y c e)⟩
   . obtain⟨w',z⟩:=I.cell y c e
     exact⟨w',z.sameBut hs (cne y c e)⟩
   . obtain⟨e,n,ne,nf,d⟩:=I.pin p hp
     exact⟨(hs.2 p.1 ne).trans e,n,ne,nf,d⟩
 . have hfn:X.fn x=true:=by
    rcases hf with z|z
    . exact z
    . rw[z] at hk;cases hk
   obtain⟨c,hc⟩:=I.ok.has x (.inl hk);obtain⟨w',z⟩:=I.cell x c hc;refine wpAny_storeName_cell I.ok.kind hk hc z (λh' hc' hs=>?_);obtain⟨oc,hoc,bdd⟩:=id z;refine h { s with heap:=h' } ⟨I.ok,I.os,I.bare,⟨λb o e n hb hx=>?_,λb o e n hb hx=>?_,I.base.free,λb o e hx=>?_,I.base.Wl,I.base.aaz,I.base.adh⟩,⟨m,hn.sameBut hs (j6 (cne x c hc)),λj y v' e1 e2 e3=>?_⟩,λy c' e=>?_,I.free,I.Nx,λp hp=>?_,tracked ⟨oc,hoc,I.Nx x c hc⟩ hs,by simpa using I.len⟩ ⟨c,hs,.inr hc⟩
   . exact(hs.2 b (du (gq (az e) (I.ok.cab x c hfn hc)))).trans (I.base.keep b o e n hb hx)
   . obtain⟨sl,e1⟩:=I.base.slot b o e n hb hx
     exact⟨sl,(hs.2 b (du (gq (az e) (I.ok.cab x c hfn hc)))).trans e1⟩
   . obtain⟨o',e1⟩:=I.base.there b o e hx
     exact⟨o',(hs.2 b (du (gq (az e) (I.ok.cab x c hfn hc)))).trans e1⟩
   . by_cases hj:j=i
     . subst hj
       rw[hi] at e1;cases e1;rw[List.getElem?_set_self hiσ] at e2;cases e2;exact⟨u,r,.inr ⟨.inl hk,c,hc,hc'⟩⟩
     . rw[vq (j6 hj)] at e2
       obtain⟨u',r',q⟩:=hl j y v' e1 e2 e3;refine⟨u',r',?_⟩;rcases q with q|⟨k,c',e,z'⟩
       . exact .inl q
       . refine .inr ⟨k,c',e,z'.sameBut hs ?_⟩
         rintro rfl;exact hj (Kf hN e1 (I.ok.inj _ _ _ e hc▸hi))
   . by_cases hcc:c'=c
     . subst hcc;exact⟨_,hc'⟩
     . obtain⟨w2,z2⟩:=I.cell y c' e
       exact⟨w2,z2.sameBut hs hcc⟩
   . obtain⟨e,n,ne,nf,d⟩:=I.pin p hp
     refine⟨(hs.2 p.1 ?_).trans e,n,ne,nf,d⟩;intro q;rw[q,hoc] at e;have q':oc=p.2:=jd e;exact d w' (by rw[<- q'];exact bdd)
def ano(I:Inv X pins σ H s)(hN:X.N.Nodup)(hi:X.N[i]?=some x)(hx:Loc X.env.scope x)(r:RelV v u)(h:∀s',Inv X pins (σ.set i (some v)) H s'->Q () s')(hf:X.fn x=true\/X.env.scope.names.lookup x=some .local:=by first|exact .inl rfl|exact .inr rfl|assumption):wpAny M A (storeName X.env x u) Q E s :=
 aj4 I hN hi hx r (λs' I' _=>h s' I') hf
def Inv.call'(I:Inv X pins σ H s)(ho:s'.os=s.os)(u:Un (frs X.stack) ch H H' s.heap s'.heap)(Ad:Qd X.prog X.w H' s'.heap)(hg:AllBare s'.gens)(hch:∀b∈ch,(b∈X.ex\/X.s₀.heap.objs.size<=b)/\b≠X.env.locals/\(∀x c,X.env.cells.lookup x=some c->c≠b)/\∀p∈X.pn++pins,p.1≠b):Inv X pins σ H' s':=by obtain⟨h',g',d',t',o'⟩:=s';have e:o'=s.os:=ho;subst e;exact I.call (g':=g') (t':=t') (d':=d') u Ad hg hch
abbrev XK:=Value->Option Addr->Hp->Prop
abbrev St:=List (Option V)
abbrev VK:=V->Hp->Prop
abbrev TE:=St->Hp->VK->Prop
abbrev TT:=St->Hp->(Bool->Hp->Prop)->Prop
abbrev TA:=St->Hp->(List V->Hp->Prop)->Prop
structure Ends where
 nx:St->Hp->Prop
 rt:VK
 bk:St->Hp->Prop:=λ_ _=>False
 ct:St->Hp->Prop:=λ_ _=>False
abbrev TS:=Ends->St->Hp->Prop
def EP(X:Cx)(pins:Zp)(σ:St)(Q:VK)(u:Value)(s':Shared):Prop:=∃v H',Inv X pins σ H' s'/\RelV v u/\Q v H'
def TP(X:Cx)(pins:Zp)(σ:St)(Q:Bool->Hp->Prop)(b:Bool)(s':Shared):Prop:=∃H',Inv X pins σ H' s'/\Q b H'
def AP(X:Cx)(pins:Zp)(σ:St)(Q:List V->Hp->Prop)(us:Zl)(s':Shared):Prop:=∃vs H',Inv X pins σ H' s'/\Vals vs us/\Q vs H'
def SP(X:Cx)(pins:Zp)(D:Ends)(f:Flow)(s':Shared):Prop :=
 match f with
 |.next=>∃σ' H',Inv X pins σ' H' s'/\D.nx σ' H'|.brk=>∃σ' H',Inv X pins σ' H' s'/\D.bk σ' H'|.cont=>∃σ' H',Inv X pins σ' H' s'/\D.ct σ' H'|.ret u=>∃v σ' H',Inv X pins σ' H' s'/\RelV v u/\D.rt v H'
def PE(X:Cx)(e:Expr)(t:TE):Prop :=
 ∀(pins:Zp)(s:Shared)(σ:St)(H:Hp)(Q:VK),Inv X pins σ H s->t σ H Q->wpAny (model X.prog X.w) X.A (eval e X.env) (EP X pins σ Q) X.xe s
def PT(X:Cx)(e:Expr)(t:TT):Prop :=
 ∀(pins:Zp)(s:Shared)(σ:St)(H:Hp)(Q:Bool->Hp->Prop),Inv X pins σ H s->t σ H Q->wpAny (model X.prog X.w) X.A (isTrue e X.env (eval e X.env)) (TP X pins σ Q) X.xe s
def PW(X:Cx)(e:Expr)(t:TT):Prop :=
 ∀(whole:Sem Value)(pins:Zp)(s:Shared)(σ:St)(H:Hp)(Q:Bool->Hp->Prop),Inv X pins σ H s->t σ H Q->wpAny (model X.prog X.w) X.A (isTrue e X.env whole) (TP X pins σ Q) X.xe s
def PW.pt(h:PW X e t):PT X e t:=h _
def PA(X:Cx)(es:Ya)(t:TA):Prop :=
 ∀(pos:Pos)(pins:Zp)(s:Shared)(σ:St)(H:Hp)(Q:List V->Hp->Prop),Inv X pins σ H s->t σ H Q->wpAny (model X.prog X.w) X.A (spliced (backTo pos (starEach es X.env))) (AP X pins σ Q) X.xe s
def PS(X:Cx)(st:Stmt)(t:TS):Prop :=
 ∀(pins:Zp)(s:Shared)(σ:St)(H:Hp)(D:Ends),Inv X pins σ H s->t D σ H->wpAny (model X.prog X.w) X.A (exec st X.env) (SP X pins D) X.xe s
def Rk(X:Cx)(st:List Stmt)(t:TS):Prop :=
 ∀(pins:Zp)(s:Shared)(σ:St)(H:Hp)(D:Ends),Inv X pins σ H s->t D σ H->wpAny (model X.prog X.w) X.A (execs st X.env) (SP X pins D) X.xe s
def Bf(h:wpAny M A t Q E s)(hQ:∀a s,Q a s->Q' a s):wpAny M A t Q' E s:=j7 h hQ λ_ _ x=>x
end L2
namespace L2
open PySem PySem.Spec PyProof.Rows
def bde(i:Nat):TE:=fun σ H Q=>∃v,σ[i]?=some (some v)/\Q v H
def tC(v:V):TE:=λ_ H Q=>Q v H
def azf(hN:X.N[i]?=some x)(hv:Vis X.env.scope x)(hd:(x==("__debug__" : Str))=false:=by decide)(hcd:(x==("__classdict__" : Str))=false:=by decide):PE X (.Name x pos) (bde i):=by
 intro pins s σ H Q I h;obtain⟨v,e,h⟩:=h;obtain⟨m,hn,hl⟩:=I.loc;obtain⟨u,r,l⟩:=hl i x v hN e hv;have fin:EP X pins σ Q u s:=⟨v,H,I,r,h⟩;rcases l with⟨hk,hm⟩|⟨hk,c,hc,axc⟩
 . exact wpAny_Name (wpAny_loadName_local I.ok.kind hk hn hm fin) hd
 . rcases hk with hk|hk
   . exact wpAny_Name (wpAny_loadName_cell I.ok.kind hk hc axc fin) hd
   . exact wpAny_Name (wpAny_loadName_free I.ok.kind hk hc axc fin hcd) hd
def azg:PE X (.Constant (.int i) j pos) (tC (.int i)):=λ_ _ _ H _ I h=>wpAny_Constant_int ⟨.int i,H,I.tok _,⟨_,rfl⟩,h⟩
def a5y:PE X (.Constant (.bool b) j pos) (tC (.bl b)):=λ_ _ _ H _ I h=>Constant_bool ⟨.bl b,H,I,rfl,h⟩
def azh:PE X (.Constant .none j pos) (tC .non):=λ_ _ _ H _ I h=>Constant_none ⟨.non,H,I,rfl,h⟩
def azi:PE X (.Constant (.str x) j pos) (tC (.str x)):=λ_ _ _ H _ I h=>Calls.Constant_str ⟨.str x,H,I.tok _,⟨_,rfl⟩,h⟩
def Gl(X:Cx)(x:Str):Prop:=X.env.kindOf x=some .globalImplicit
def aa2(I:Inv X pins σ H s)(hg:Gl X x)(hm:X.mg x=some u)(h:Q u s)(hd:(x==("__debug__" : Str))=false:=by decide):wpAny (model X.prog X.w) X.A (eval (.Name x pos) X.env) Q E s :=
 Calls.Name_function_global I.ok.kind hg (Calls.loadGlobal_global (by rw[I.ok.glob];exact I.mod.glob.keeps I.bk) hm h) hd
def Ff(I:Inv X pins σ H s)(hg:Gl X x)(hm:X.mg x=none)(hv:bootBuiltins x=some u)(h:Q u s)(hn:x≠"__name__" := by decide)(hd:(x==("__debug__" : Str))=false:=by decide):wpAny (model X.prog X.w) X.A (eval (.Name x pos) X.env) Q E s:=by obtain⟨mb,h1,h2⟩:=I.mod.blt;exact Calls.Name_function_global I.ok.kind hg (Calls.loadGlobal_builtin (by rw[I.ok.glob];exact I.mod.glob.keeps I.bk) hm (by rw[I.ok.blt];exact h1.keeps I.bk) ((h2 x hn).trans hv) h) hd
def atn(hg:Gl X x)(hm:X.mg x=some u)(r:RelV v u)(hd:(x==("__debug__" : Str))=false:=by decide):PE X (.Name x pos) (tC v) :=
 λ_ _ _ H _ I h=>aa2 I hg hm ⟨v,H,I,r,h⟩ hd
def PC(X:Cx)(op:CmpOp)(a b:Expr)(t:TE):Prop :=
 ∀(pins:Zp)(s:Shared)(σ:St)(H:Hp)(Q:VK),Inv X pins σ H s->t σ H Q ->
  wpAny (model X.prog X.w) X.A (eval a X.env) (λv s₁=>wpAny (model X.prog X.w) X.A (eval b X.env) (λu s₂=>wpAny (model X.prog X.w) X.A (compareOp op v u) (EP X pins σ Q) X.xe s₂) X.xe s₁) X.xe s
def adi(b:Expr)(h:op≠.In)(h2:op≠.NotIn):behindInMarks op b=false:=by
 have e1:(op==CmpOp.In)=false:=by cases op<;>first|rfl|exact absurd rfl h
 have e2:(op==CmpOp.NotIn)=false:=by cases op<;>first|rfl|exact absurd rfl h2
 cases b<;>simp[behindInMarks,e1,e2]
def tB(t:TE):TT:=fun σ H Q=>t σ H λx H1=>∃c,x=.bl c/\Q c H1
def azj(h:PC X op a b t)(h1:behindInMarks op b=false:=by first|exact adi _ (by decide) (by decide)|rfl):PE X (.Compare a [op] [b] pos) t:=λpins s σ H Q I hw=>wpAny_Compare1 (h pins s σ H Q I hw) h1
def azk(h:PC X op a b t)(h1:behindInMarks op b=false:=by first|exact adi _ (by decide) (by decide)|rfl):PT X (.Compare a [op] [b] pos) (tB t):=by intro pins s σ H Q I hw;refine wpAny_isTrue_Compare1 (Bf (h pins s σ H _ I hw) λv s1 h1=>Bf h1 λu s2 h2=>Bf h2 λc s3 ⟨x,H1,I1,r1,q1⟩=>?_) h1;obtain⟨d,rfl,q⟩:=q1;cases r1;exact j4 ⟨H1,I1,q⟩
def azl(h:PE X e t)(he:∀whole,isTrue e X.env whole=(do let v <- whole;standAt e.pos;holding [v] (truthy v)):=by intro _;rfl):PT X e (tB t):=by intro pins s σ H Q I hw;refine isTrue_plain (Bf (h pins s σ H _ I hw) λv s1 ⟨x,H1,I1,r1,q1⟩=>?_) (he _);obtain⟨d,rfl,q⟩:=q1;cases r1;exact j4 ⟨H1,I1,q⟩
def bdf(t u:TT):TT:=fun σ H Q=>t σ H λc H1=>if c=true then u σ H1 Q else Q false H1
def tOr(t u:TT):TT:=fun σ H Q=>t σ H λc H1=>if c=true then Q true H1 else u σ H1 Q
def bdg(t:TT):TT:=fun σ H Q=>t σ H λc H1=>Q (!c) H1
def ato(ha:PT X a tA):PW X (.BoolOp .And [a] pos) tA:=by
 intro wh pins s σ H Q I h;refine isTrue_and (Bf (ha pins s σ H Q I h) λc s1 e=>?_);cases c with
 |true=>exact isTrue_and_nil e|false=>exact e
def azm(ha:PT X a tA):PW X (.BoolOp .Or [a] pos) tA:=by
 intro wh pins s σ H Q I h;refine isTrue_or (Bf (ha pins s σ H Q I h) λc s1 e=>?_);cases c with
 |false=>exact isTrue_or_nil e|true=>exact e
def azn{rest:Ya}(ha:PT X a tA)(hb:PW X (.BoolOp .And (b::rest) pos) tB'):PW X (.BoolOp .And (a::b::rest) pos) (bdf tA tB'):=by
 intro wh pins s σ H Q I h;refine isTrue_and (Bf (ha pins s σ H _ I h) λc s1 ⟨H1,I1,q1⟩=>?_);cases c with
 |true=>exact hb wh pins s1 σ H1 Q I1 q1|false=>exact⟨H1,I1,q1⟩
def a5z{rest:Ya}(ha:PT X a tA)(hb:PW X (.BoolOp .Or (b::rest) pos) tB'):PW X (.BoolOp .Or (a::b::rest) pos) (tOr tA tB'):=by
 intro wh pins s σ H Q I h;refine isTrue_or (Bf (ha pins s σ H _ I h) λc s1 ⟨H1,I1,q1⟩=>?_);cases c with
 |true=>exact⟨H1,I1,q1⟩|false=>exact hb wh pins s1 σ H1 Q I1 q1
def azo(ha:PT X a tA):PT X (.UnaryOp .Not a pos) (bdg tA):=by intro pins s σ H Q I h;exact isTrue_not (ha pins s σ H (λc H1=>Q (!c) H1) I h)
def a6a(ta tb:TE):TE:=fun σ H Q=>ta σ H λx H1=>∃c,x=.bl c/\if c=true then tb σ H1 Q else Q (.bl false) H1
def bdi(ta tb:TE):TE:=fun σ H Q=>ta σ H λx H1=>∃c,x=.bl c/\if c=true then Q (.bl true) H1 else tb σ H1 Q
def a6b(ta:TE):TE:=fun σ H Q=>ta σ H λx H1=>∃c,x=.bl c/\Q (.bl (!c)) H1
def azp{rest:Ya}(ha:PE X a ta)(hb:PE X (.BoolOp .And (b::rest) pos) tb):PE X (.BoolOp .And (a::b::rest) pos) (a6a ta tb):=by
 intro pins s σ H Q I h;refine BoolOp_and (Bf (ha pins s σ H _ I h) λv s1 ⟨x,H1,I1,r1,q1⟩=>?_);obtain⟨c,rfl,q1⟩:=q1;cases r1;refine j4 ?_;cases c with
 |true=>exact hb pins s1 σ H1 Q I1 q1|false=>exact⟨.bl false,H1,I1,rfl,q1⟩
def a6c{rest:Ya}(ha:PE X a ta)(hb:PE X (.BoolOp .Or (b::rest) pos) tb):PE X (.BoolOp .Or (a::b::rest) pos) (bdi ta tb):=by
 intro pins s σ H Q I h;refine BoolOp_or (Bf (ha pins s σ H _ I h) λv s1 ⟨x,H1,I1,r1,q1⟩=>?_);obtain⟨c,rfl,q1⟩:=q1;cases r1;refine j4 ?_;cases c with
 |false=>exact hb pins s1 σ H1 Q I1 q1|true=>exact⟨.bl true,H1,I1,rfl,q1⟩
def azq(ha:PE X a ta):PE X (.UnaryOp .Not a pos) (a6b ta):=by intro pins s σ H Q I h;refine UnaryOp_ (Bf (ha pins s σ H _ I h) λv s1 ⟨x,H1,I1,r1,q1⟩=>?_);obtain⟨c,rfl,q1⟩:=q1;cases r1;exact not_of (j4 ⟨.bl (!c),H1,I1,rfl,q1⟩)
def tIf(t:TT)(ta tb:TE):TE:=fun σ H Q=>t σ H λc H1=>if c=true then ta σ H1 Q else tb σ H1 Q
def anp(hc:PT X c tA)(ha:PE X a ta)(hb:PE X b tb):PE X (.IfExp c a b pos) (tIf tA ta tb):=by
 intro pins s σ H Q I h;refine wpAny_IfExp (Bf (hc pins s σ H _ I h) λd s1 ⟨H1,I1,q1⟩=>?_);cases d with
 |true=>exact ha pins s1 σ H1 Q I1 q1|false=>exact hb pins s1 σ H1 Q I1 q1
end L2
namespace L2
open PySem PySem.Spec PyProof.Rows
def Gd(K:Fg)(H:Hp)(a:Addr)(xs:List V):Prop :=
 Rd H a (.lst xs) \/
  ∃(o:Obj)(wy:U1)(n:Nat),K.lookup a=some o/\o.cls=.type "list"/\o.dict=none/\o.data=.seq wy n/\wy.size<=sizeLine/\Vals xs wy.toList
def Jl(K:Fg)(H:Hp)(a:Addr)(xs:List V):Prop :=
 Rd H a (.tup xs) \/
  ∃(o:Obj)(wy:U1)(n:Nat),K.lookup a=some o/\o.cls=.type "tuple"/\o.data=.seq wy n/\wy.size<=sizeLine/\Vals xs wy.toList
noncomputable def bdj:Value->Option V
 |.none=>some .non|.bool b=>some (.bl b)|.int i _=>some (.int i)|.str x _=>some (.str x)|.bytes b _=>some (.byt b)|.float b _=>some (.flt b)|.ref a=>some (.ref a)|.type n=>some (.ty n)|_=>none
def RelV.abs(r:RelV x u):bdj u=some x:=by
 cases x with
 |non=>cases r;rfl|bl _=>cases r;rfl|int _=>obtain⟨t,rfl⟩:=r;rfl
 |str _=>obtain⟨t,rfl⟩:=r;rfl
 |byt _=>obtain⟨t,rfl⟩:=r;rfl
 |flt _=>obtain⟨t,rfl⟩:=r;rfl
 |ref _=>cases r;rfl|ty _=>cases r;rfl
def RelV.inj(r:RelV x u)(q:RelV y u):x=y:=jd (r.abs.symm.trans q.abs)
theorem Vals.inj:∀{xs ys:List V}{us:Zl},Vals xs us->Vals ys us->xs=ys
 |_,_,_,.nil,.nil=>rfl|_,_,_,.cons r t,.cons r' t'=>by rw[r.inj r',Vals.inj t t']
def Gd.of{K:Fg}(h:H a=some (.lst xs)):Gd K H a xs:=.inl (.inl h)
def Jl.of{K:Fg}(h:H a=some (.tup xs)):Jl K H a xs:=.inl (.inl h)
def Inv.list(I:Inv X pins σ H s)(h:Gd X.K H a xs):∃wy:List Value,Vals xs wy/\PlainL s.heap a wy.toArray/\xs.length<=sizeLine:=by
 rcases h with h|⟨o,wy,n,hk,hc,hd,hs,hz,r⟩
 . obtain⟨z,wy,n,r,e⟩:=h.ok I.Ad
   exact⟨wy,r,⟨_,n,e,rfl,rfl,rfl⟩,z⟩
 . refine⟨wy.toList,r,⟨o,n,I.kIn a o hk,hc,hd,by simpa using hs⟩,?_⟩
   have e:=r.length;simp only[tu] at e;exact a_ (f_ e) hz
def Inv.tuple(I:Inv X pins σ H s)(h:Jl X.K H a xs):∃wy:List Value,Vals xs wy/\IsTup s.heap a wy.toArray/\xs.length<=sizeLine:=by
 rcases h with h|⟨o,wy,n,hk,hc,hs,hz,r⟩
 . obtain⟨z,wy,r,p⟩:=h.ok I.Ad
   exact⟨wy,r,p.is,z⟩
 . refine⟨wy.toList,r,⟨o,I.kIn a o hk,hc,n,by simpa using hs⟩,?_⟩
   have e:=r.length;simp only[tu] at e;exact a_ (f_ e) hz
def Inv.adk(I:Inv X pins σ H s)(h:Gd X.K H a xs)(h':Gd X.K H a ys):xs=ys:=by
 obtain⟨wy,r,⟨o,n,e,_,_,d⟩,_⟩:=I.list h;obtain⟨its',r',⟨o',n',e',_,_,d'⟩,_⟩:=I.list h';rw[e] at e';cases e';rw[d] at d';injection d' with d1 _
 have:wy=its':=by simpa using o7 Array.toList d1
 subst this;exact r.inj r'
def Inv.Yz(I:Inv X pins σ H s)(h:Jl X.K H a xs)(h':Jl X.K H a ys):xs=ys:=by
 obtain⟨wy,r,⟨o,e,_,n,d⟩,_⟩:=I.tuple h;obtain⟨its',r',⟨o',e',_,n',d'⟩,_⟩:=I.tuple h';rw[e] at e';cases e';rw[d] at d';injection d' with d1 _
 have:wy=its':=by simpa using o7 Array.toList d1
 subst this;exact r.inj r'
noncomputable abbrev Cx.X6(X:Cx)(E:Y1):Cx:={ X with xe:=E }
noncomputable abbrev Cx.nox(X:Cx):Cx:=X.X6 λ_ _=>False
theorem Cx.Ok.X6{X:Cx}(ok:X.Ok)(E:Y1):(X.X6 E).Ok :=
 ⟨ok.mod,ok.kind,ok.glob,ok.blt,ok.above,ok.inj,ok.has,ok.cab,ok.hd,ok.frames,ok.stk,ok.exf,ok.bs,ok.bsz,ok.anl,ok.atm,ok.Vc,ok.frf⟩
def Cx.Ok.Ny{X:Cx}(ok:(X.X6 E).Ok):X.Ok :=
 ⟨ok.mod,ok.kind,ok.glob,ok.blt,ok.above,ok.inj,ok.has,ok.cab,ok.hd,ok.frames,ok.stk,ok.exf,ok.bs,ok.bsz,ok.anl,ok.atm,ok.Vc,ok.frf⟩
theorem Inv.X6(I:Inv X pins σ H s)(E:Y1):Inv (X.X6 E) pins σ H s:=⟨I.ok.X6 E,I.os,I.bare,I.base,I.loc,I.cell,I.free,I.Nx,I.pin,I.Ad,I.len⟩
theorem Inv.Ny(I:Inv (X.X6 E) pins σ H s):Inv X pins σ H s:=⟨I.ok.Ny,I.os,I.bare,I.base,I.loc,I.cell,I.free,I.Nx,I.pin,I.Ad,I.len⟩
theorem SP.Ny(h:SP (X.X6 E) pins D f s'):SP X pins D f s':=by
 cases f with
 |next=>obtain⟨σ',H',I,q⟩:=h;exact⟨σ',H',I.Ny,q⟩
 |brk=>obtain⟨σ',H',I,q⟩:=h;exact⟨σ',H',I.Ny,q⟩
 |cont=>obtain⟨σ',H',I,q⟩:=h;exact⟨σ',H',I.Ny,q⟩
 |ret u=>obtain⟨v,σ',H',I,r,q⟩:=h;exact⟨v,σ',H',I.Ny,r,q⟩
theorem Rk.nox{st:List Stmt}(h:Rk X.nox st t):Rk X st t:=λpins s σ H D I hw =>
 j7 (h pins s σ H D (I.X6 _) hw) (λ_ _ q=>q.Ny) λ_ _ z=>False.elim z
def a6e:TS:=λD σ H=>D.nx σ H
def bdk(t u:TS):TS:=λD σ H=>t { D with nx:=u D } σ H
def atp:Rk X [] a6e:=λ_ _ σ H _ I h=>wpAny_execs_nil ⟨σ,H,I,h⟩
def anq{st:Stmt}{rest:List Stmt}(h1:PS X st t)(h2:Rk X rest u):Rk X (st::rest) (bdk t u):=by
 intro pins s σ H D I h;refine wpAny_execs_cons (Bf (h1 pins s σ H { D with nx:=u D } I h) λf s1 q=>?_);cases f with
 |next =>
  obtain⟨σ',H',I',q⟩:=q;exact h2 pins s1 σ' H' D I' q
 |ret v=>exact q|brk=>exact q|cont=>exact q
def azr:TS:=λD σ H=>D.bk σ H
def a6f:TS:=λD σ H=>D.ct σ H
def anr:PS X (.Break pos) azr:=λ_ _ σ H _ I h=>wpAny_Break ⟨σ,H,I,h⟩
def adl:PS X (.Continue pos) a6f:=λ_ _ σ H _ I h=>wpAny_Continue ⟨σ,H,I,h⟩
def Inv.quiet(I:Inv X pins σ H s):interactive X.env=false:=by simp[interactive,I.ok.kind]
def a6g(te:TE):TS:=λD σ H=>te σ H λ_ H1=>D.nx σ H1
def atq(he:PE X e te)(hs:swapsWith e none pos.line X.env=pure false:=by rfl):PS X (.Expr e pos) (a6g te):=by intro pins s σ H D I h;exact wpAny_Expr_any (Bf (he pins s σ H _ I h) λv s1 ⟨x,H1,I1,r1,q1⟩=>⟨σ,H1,I1,q1⟩) I.quiet hs
def bdl(te:TE):TS:=λD σ H=>te σ H D.rt
def azs(he:PE X e te):PS X (.Return (some e) pos) (bdl te):=by intro pins s σ H D I h;exact wpAny_Return_some (Bf (he pins s σ H _ I h) λv s1 ⟨x,H1,I1,r1,q1⟩=>⟨x,σ,H1,I1,r1,q1⟩)
def bdm(c:TT)(t u:TS):TS:=λD σ H=>c σ H λb H1=>if b=true then t D σ H1 else u D σ H1
def a6h(hc:PT X c tc)(ha:Rk X a t)(hb:Rk X b u):PS X (.If c a b pos) (bdm tc t u):=by
 intro pins s σ H D I h;refine wpAny_If (Bf (hc pins s σ H _ I h) λd s1 ⟨H1,I1,q1⟩=>?_);cases d with
 |true=>exact ha pins s1 σ H1 D I1 q1|false=>exact hb pins s1 σ H1 D I1 q1
abbrev TG:=V->St->Hp->(St->Hp->Prop)->Prop
abbrev TGs:=List V->St->Hp->(St->Hp->Prop)->Prop
def PG(X:Cx)(target:Expr)(t:TG):Prop :=
 ∀(pins:Zp)(s:Shared)(σ:St)(H:Hp)(v:V)(u:Value)(Q:St->Hp->Prop),Inv X pins σ H s->RelV v u->t v σ H Q ->
  wpAny (model X.prog X.w) X.A (assign target X.env u) (λ_ s'=>∃σ' H',Inv X pins σ' H' s'/\Q σ' H') X.xe s
def PGs(X:Cx)(ts:Ya)(t:TGs):Prop :=
 ∀(pins:Zp)(s:Shared)(σ:St)(H:Hp)(vs:List V)(us:Zl)(Q:St->Hp->Prop),Inv X pins σ H s->Vals vs us->t vs σ H Q ->
  wpAny (model X.prog X.w) X.A (assignInOrder ((assignEach ts X.env).map (·.2)) us) (λ_ s'=>∃σ' H',Inv X pins σ' H' s'/\Q σ' H') X.xe s
abbrev azt:=V->V->V->Hp->(Hp->Prop)->Prop
def azu(X:Cx)(t:azt):Prop :=
 ∀(pins:Zp)(s:Shared)(σ:St)(H:Hp)(o i v:V)(ov iv u:Value)(Q:Hp->Prop),Inv X pins σ H s->RelV o ov->RelV i iv->RelV v u->t o i v H Q ->
  wpAny (model X.prog X.w) X.A (setItem ov iv u) (λ_ s'=>∃H',Inv X pins σ H' s'/\Q H') X.xe s
def ahv(i:Nat):TG:=λv σ H Q=>Q (σ.set i (some v)) H
def aa3(hN:X.N.Nodup)(hi:X.N[i]?=some x)(hx:Loc X.env.scope x)(hf:X.fn x=true\/X.env.scope.names.lookup x=some .local:=by first|exact .inl rfl|exact .inr rfl|assumption):PG X (.Name x pos) (ahv i):=by intro pins s σ H v u Q I r h;exact wpAny_assign_Name (ano I hN hi hx r (λs' I'=>⟨_,H,I',h⟩) hf)
def bdn:TGs:=λvs σ H Q=>vs=[]/\Q σ H
def a6k(t:TG)(u:TGs):TGs:=λvs σ H Q=>∃v r,vs=v::r/\t v σ H fun σ' H'=>u r σ' H' Q
def atr:PGs X [] bdn:=by intro pins s σ H vs us Q I r h;obtain⟨e,h⟩:=h;subst e;cases r;exact assignInOrder_nil ⟨σ,H,I,h⟩
def ant(h1:PG X e t)(h2:PGs X es u)(hs:(assignEach (e::es) X.env).map (·.2)=assign e X.env::(assignEach es X.env).map (·.2):=by rfl):PGs X (e::es) (a6k t u):=by
 intro pins s σ H vs us Q I r h;obtain⟨v,vr,e1,h⟩:=h;subst e1;cases r with
 |cons r rr =>
  rw[hs];refine assignInOrder_cons (Bf (h1 pins s σ H _ _ _ I r h) λ_ s1 ⟨σ1,H1,I1,q1⟩=>?_);exact h2 pins s1 σ1 H1 _ _ Q I1 rr q1
def bdo(K:Fg)(n:Nat)(t:TGs):TG:=λv σ H Q=>∃a xs,v=.ref a/\Jl K H a xs/\xs.length=n/\t xs σ H Q
def azv(hc:X.calm=true)(h:PGs X es t)(hn:(assignEach es X.env).length=n:=by rfl)(Vh:(assignEach es X.env).findIdx? (·.1)=none:=by rfl):PG X (.Tuple es k pos) (bdo X.K n t):=by
 intro pins s σ H v u Q I r hw;obtain⟨a,xs,e1,hq,hl,hw⟩:=hw;subst e1;cases r;obtain⟨wy,rv,ht,hz⟩:=I.tuple hq;refine assign_Tuple_tuple (I.ok.hd hc) ht (by simp[hn,<- hl,rv.length]) Vh λh' hx=>?_
 have I1:Inv X pins σ H { s with heap:=h' }:=I.kept (t':=s.toks) λb o e=>hx b o (du (az e)) e
 exact h pins _ σ H xs _ Q I1 (by simpa using rv) hw
def bdp(to ti:TE)(t:azt):TG:=λv σ H Q=>to σ H λo H1=>ti σ H1 λi H2=>t o i v H2 λH3=>Q σ H3
def azw(ho:PE X o to)(hi:PE X i ti)(hs:azu X t)(ha:∀v,assign (.Subscript o i pos) X.env v=(do
 let ov <- holding [v] (eval o X.env)
 let iv <- holding [v,ov] (eval i X.env)
 standAt pos
 holding [v,ov,iv] (setItem ov iv v)
 release [v,ov,iv] []):=by intro _;rfl):PG X (.Subscript o i pos) (bdp to ti t):=by
 intro pins s σ H v u Q I r h;rw[ha];refine aa (ir (Bf (ho pins s σ H _ I h) λov s1 ⟨x,H1,I1,r1,q1⟩=>?_));refine aa (ir (Bf (hi pins s1 σ H1 _ I1 q1) λiv s2 ⟨y,H2,I2,r2,q2⟩=>?_));refine aa (wpAny_standAt (aa (ir (Bf (hs pins s2 σ H2 x y v ov iv u _ I2 r1 r2 r q2) λ_ s3 ⟨H3,I3,q3⟩=>?_))));exact wpAny_release ⟨σ,H3,I3,q3⟩
def azx(te:TE)(g:TG):TS:=λD σ H=>te σ H λx H1=>g x σ H1 D.nx
def anu(he:PE X e te)(hg:PG X tg g)(hs:swapsWithSole [tg] e pos.line X.env=pure false:=by rfl)(hw:swappedStores [tg] e X.env=pure none:=by rfl)(h1:(assignEach [tg] X.env).map (·.2)=[assign tg X.env]:=by rfl):PS X (.Assign [tg] e pos) (azx te g):=by intro pins s σ H D I h;refine wpAny_Assign_stores (Bf (he pins s σ H _ I h) λv s1 ⟨x,H1,I1,r1,q1⟩=>?_) hs hw;rw[h1];exact Bf (hg pins s1 σ H1 x v _ I1 r1 q1) λ_ s2 q=>q
def azy(c:TT)(tb:TS):TS:=λD σ H=>∃W:Nat->St->Hp->Prop,(∃m,W m σ H)/\∀m σ H,W m σ H ->
 c σ H λb H1=>if b=true then ∃N:St->Hp->Prop,(∀σ' H',N σ' H'->∃m',m'<m/\W m' σ' H')/\tb { D with nx:=N,ct:=N,bk:=D.nx } σ H1 else D.nx σ H1
def anv(hp:PassesOwn (model X.prog X.w) X.A X.env X.xe)(hc:PT X c tc)(hb:Rk X body tb):PS X (.While c body [] pos) (azy tc tb):=by
 intro pins s σ H D I h;obtain⟨W,⟨m0,w0⟩,turn⟩:=h;refine wpAny_While (codeAny_whileLoop (λn s'=>∃σ' H',Inv X pins σ' H' s'/\W n σ' H') ?_ m0 ⟨σ,H,I,w0⟩);rintro n s1 ⟨σ1,H1,I1,w1⟩;refine ue hp (Bf (hc pins s1 σ1 H1 _ I1 (turn n σ1 H1 w1)) λb s2 ⟨H2,I2,q2⟩=>?_);cases b with
 |true =>
  obtain⟨N,hN,q2⟩:=q2;rw[cz rfl];refine ue hp (Bf (hb pins s2 σ1 H2 _ I2 q2) λf s3 q3=>?_);cases f with
  |next =>
   obtain⟨σ3,H3,I3,n3⟩:=q3;obtain⟨m',hm,w3⟩:=hN σ3 H3 n3;exact⟨m',hm,σ3,H3,I3,w3⟩
  |cont =>
   obtain⟨σ3,H3,I3,n3⟩:=q3;obtain⟨m',hm,w3⟩:=hN σ3 H3 n3;exact⟨m',hm,σ3,H3,I3,w3⟩
  |brk=>exact q3|ret v=>exact q3
 |false =>
  rw[bx jg];exact wpAny_execs_nil ⟨σ1,H2,I2,q2⟩
structure It where
 go:Nat->Hp->Prop
 yld:Nat->Hp->V->Hp->Prop
 stop:Nat->Hp->Prop
def Vd(X:Cx)(pins:Zp)(H:Hp)(b:Addr):Prop :=
 H b=none/\b≠X.env.locals/\b∉X.fs/\(b∈X.ex\/X.s₀.heap.objs.size<=b)/\(∀x c,X.env.cells.lookup x=some c->c≠b)/\∀p∈X.pn++pins,p.1≠b
def Inv.anw(I:Inv X pins σ H s)(hb:s.heap.objs.size<=b)(hn:H' b=none):Vd X pins H' b:=by
 refine⟨hn,u0 (gq I.lt hb),I.azd hb,.inr (iu I.sz hb),λx c e z=>?_,λp hp z=>?_⟩
 . obtain⟨v,q⟩:=I.cell x c e
   exact absurd (gq q.lt (by rw[z];exact hb)) (nq _)
 . exact absurd (gq (az (I.pin p hp).1) (by rw[z];exact hb)) (nq _)
structure Turn(P:Program)(w:World)(K:Fg)(tg:Expr)(J:It)(fp:X9)(it:Addr)(tn:Nat->Heap->Prop):Prop where
 mem:it∈fp
 obj:∀i h,tn i h->∀b∈fp,∃o,h.get? b=some o/\∀v,o.data≠.cell v
 keep:∀i h h',tn i h->(∀b∈fp,∀o,h.get? b=some o->h'.get? b=some o)->tn i h'
 item:∀(X:Cx),X.prog=P->X.w=w->X.K=K->X.calm=true->∀(i:Nat)(pins:Zp)(s:Shared)(σ:St)(H:Hp)(E:Y1),Inv X pins σ H s->(∀b∈fp,Vd X pins H b)->tn i s.heap->J.go i H ->
  wpAny (model P w) X.A (pyNext (.ref it)) (λr s1=>∃u,r=some u /\
   wpAny (model P w) X.A (letOwnedTupleGo tg (.ref it) u) (λ_ s2=>∃x H',Inv X pins σ H' s2/\RelV x u/\J.yld i H x H'/\tn (i+1) s2.heap/\∀b∈fp,H' b=none) E s1) E s
 done:∀(X:Cx),X.prog=P->X.w=w->X.K=K->X.calm=true->∀(i:Nat)(pins:Zp)(s:Shared)(σ:St)(H:Hp)(E:Y1),Inv X pins σ H s->(∀b∈fp,Vd X pins H b)->tn i s.heap->J.stop i H ->
  wpAny (model P w) X.A (pyNext (.ref it)) (λr s1=>r=none/\Inv X pins σ H s1) E s
 self:∀(A:Around)(i:Nat)(s:Shared)(Q:Y1)(E:Y1),tn i s.heap->Q (.ref it) s->wpAny (model P w) A (pyIter (.ref it)) Q E s
abbrev TI:=St->Hp->(It->Hp->Prop)->Prop
def PIE(X:Cx)(pins:Zp)(σ:St)(tg:Expr)(R:It->Hp->Prop)(itv:Value)(s2:Shared):Prop :=
 ∃(it:Addr)(fp:X9)(tn:Nat->Heap->Prop)(J:It)(H':Hp),itv=.ref it/\Inv X pins σ H' s2/\Turn X.prog X.w X.K tg J fp it tn/\tn 0 s2.heap/\(∀b∈fp,Vd X pins H' b)/\R J H'
def PI(X:Cx)(tg iter:Expr)(wi:TI):Prop :=
 ∀(pins:Zp)(s:Shared)(σ:St)(H:Hp)(R:It->Hp->Prop),Inv X pins σ H s->wi σ H R ->
  wpAny (model X.prog X.w) X.A (eval iter X.env) (λv s1=>wpAny (model X.prog X.w) X.A (pyIter v) (PIE X pins σ tg R) X.xe s1) X.xe s
def anx(ho:s.heap.get? it=some o)(hc:o.cls=.type n)(hd:o.data=.fields vs)(hn:["enumerate", "zip", "dict_itemiterator", "dict_reverseitemiterator", "odict_iterator", "itertools.zip_longest", "itertools.pairwise"].contains n=false)(hQ:Q () s):wpAny M A (letOwnedTupleGo tg (.ref it) u) Q E s:=by
 unfold letOwnedTupleGo;cases tg<;>first
  |exact aj hQ
  | (cases u<;>first
   |exact aj hQ
   | (refine aa (wpAny_load ho ?_)
      rw[hc,hd];show wpAny M A (if(["enumerate", "zip", "dict_itemiterator", "dict_reverseitemiterator", "odict_iterator", "itertools.zip_longest", "itertools.pairwise"].contains n&&vs[0]?==some (rawInt _))=true then _ else _) Q E s;rw[bx (by intro h;rw[hn,Bool.false_and] at h;cases h)];exact aj hQ))
noncomputable def Itl(K:Fg)(a:Addr):It :=
 ⟨λi H=>∃xs x,Gd K H a xs/\xs[i]?=some x,λi H x H'=>H'=H/\∀xs,Gd K H a xs->xs[i]?=some x,λi H=>∃xs,Gd K H a xs/\xs.length<=i⟩
noncomputable def Itt(K:Fg)(a:Addr):It :=
 ⟨λi H=>∃xs x,Jl K H a xs/\xs[i]?=some x,λi H x H'=>H'=H/\∀xs,Jl K H a xs->xs[i]?=some x,λi H=>∃xs,Jl K H a xs/\xs.length<=i⟩
noncomputable def Pg(lo:Int)(n:Nat):It:=⟨λi _=>i<n,λi H x H'=>H'=H/\x=.int (lo+i),λi _=>n<=i⟩
theorem aj5{K:Fg}(a it:Addr):Turn P w K tg (Itl K a) [it] it (λi h=>h.IsListIter it a i) where
 mem:=by simp
 obj:=λi h st b hb=>by
  have e:b=it:=by simpa using hb
  subst e;obtain⟨o,e,c,d⟩:=st;exact⟨o,e,λv z=>by rw[d] at z;cases z⟩
 keep:=λi h h' st k=>st.at λo e=>k it (by simp) o e
 item:=by
  intro X hP hw hK hc i pins s σ H E I hf st hg;subst hP hw hK;obtain⟨xs,x,hq,hx⟩:=hg;obtain⟨wy,rv,p,hz⟩:=I.list hq;obtain⟨u,hu,ru⟩:=rv.get hx;obtain⟨f0,f1,f2,f3,f4,f5⟩:=hf it (by simp);refine wpAny_pyNext_list_item st p.isList (x:=u) (by simpa using hu) λh' st' sb=>?_
  have I1:Inv X pins σ H { s with heap:=h' }:=I.turned (t':=s.toks) (λb o hb e=>(sb.2 b hb).trans e) f0 f1 f3 f4 f5;obtain⟨o,e,c,d⟩:=id st';exact⟨u,rfl,anx (s:={ s with heap:=h' }) e c d (by decide) ⟨x,H,I1,ru,⟨rfl,λys hy=>by rw[I.adk hy hq];exact hx⟩,st',λb hb=>(hf b hb).1⟩⟩
 done:=by intro X hP hw hK hc i pins s σ H E I hf st hg;subst hP hw hK;obtain⟨xs,hq,hx⟩:=hg;obtain⟨wy,rv,p,hz⟩:=I.list hq;obtain⟨f0,f1,f2,f3,f4,f5⟩:=hf it (by simp);have hl:=rv.length;exact wpAny_pyNext_list_end (I.ok.hd hc) st p.isList (by simp;exact a_ (g_ hl) hx) λh' eb=>⟨rfl,I.turned (t':=s.toks) (λb o hb e=>eb b o hb e) f0 f1 f3 f4 f5⟩
 self:=λ_ _ _ _ _ st h=>wpAny_pyIter_listiter st h
theorem af1{K:Fg}(a it:Addr):Turn P w K tg (Itt K a) [it] it (λi h=>h.IsTupleIter it a i) where
 mem:=by simp
 obj:=λi h st b hb=>by
  have e:b=it:=by simpa using hb
  subst e;obtain⟨o,e,c,d⟩:=st;exact⟨o,e,λv z=>by rw[d] at z;cases z⟩
 keep:=λi h h' st k=>st.at λo e=>k it (by simp) o e
 item:=by
  intro X hP hw hK hc i pins s σ H E I hf st hg;subst hP hw hK;obtain⟨xs,x,hq,hx⟩:=hg;obtain⟨wy,rv,p,hz⟩:=I.tuple hq;obtain⟨u,hu,ru⟩:=rv.get hx;obtain⟨f0,f1,f2,f3,f4,f5⟩:=hf it (by simp);refine wpAny_pyNext_tuple_item st (show s.heap.IsTuple a wy.toArray from p) (x:=u) (by simpa using hu) λh' st' sb=>?_
  have I1:Inv X pins σ H { s with heap:=h' }:=I.turned (t':=s.toks) (λb o hb e=>(sb.2 b hb).trans e) f0 f1 f3 f4 f5;obtain⟨o,e,c,d⟩:=id st';exact⟨u,rfl,anx (s:={ s with heap:=h' }) e c d (by decide) ⟨x,H,I1,ru,⟨rfl,λys hy=>by rw[I.Yz hy hq];exact hx⟩,st',λb hb=>(hf b hb).1⟩⟩
 done:=by intro X hP hw hK hc i pins s σ H E I hf st hg;subst hP hw hK;obtain⟨xs,hq,hx⟩:=hg;obtain⟨wy,rv,p,hz⟩:=I.tuple hq;obtain⟨f0,f1,f2,f3,f4,f5⟩:=hf it (by simp);have hl:=rv.length;exact wpAny_pyNext_tuple_end (I.ok.hd hc) st (show s.heap.IsTuple a wy.toArray from p) (by simp;exact a_ (g_ hl) hx) λh' eb=>⟨rfl,I.turned (t':=s.toks) (λb o hb e=>eb b o hb e) f0 f1 f3 f4 f5⟩
 self:=λ_ _ _ _ _ st h=>wpAny_pyIter_tupleiter st h
theorem af2{K:Fg}(it:Addr)(lo:Int)(n:Nat):Turn P w K tg (Pg lo n) [it] it (λi h=>IsRangeIter h it (lo+(i:Nat)*1) ((n:Int)-(i:Nat)) 1) where
 mem:=by simp
 obj:=λi h st b hb=>by
  have e:b=it:=by simpa using hb
  subst e;exact⟨_,st,λv z=>by
   have z':Data.fields _=Data.cell v:=z;cases z'⟩
 keep:=λi h h' st k=>k it (by simp) _ st
 item:=by
  intro X hP hw hK hc i pins s σ H E I hf st hg;subst hP hw hK;obtain⟨f0,f1,f2,f3,f4,f5⟩:=hf it (by simp);have W:=Walks.range (prog:=X.prog) (w:=X.w) (I.ok.hd hc) it lo 1 n;refine W.item i s _ _ hg st λv h' tk hv st' kk=>?_
  obtain⟨t,rfl⟩:=hv;have I1:Inv X pins σ H { s with heap:=h',toks:=tk }:=I.turned (λb o hb e=>kk b o (by simpa using hb) e) f0 f1 f3 f4 f5;refine⟨_,rfl,anx (s:={ s with heap:=h',toks:=tk }) (n := "range_iterator") st' rfl rfl (by decide) ⟨.int (lo+i),H,I1,⟨t,?_⟩,⟨rfl,rfl⟩,st',λb hb=>(hf b hb).1⟩⟩;rw[Int.mul_one]
 done:=by intro X hP hw hK hc i pins s σ H E I hf st hg;subst hP hw hK;obtain⟨f0,f1,f2,f3,f4,f5⟩:=hf it (by simp);exact wpAny_pyNext_range_end (I.ok.hd hc) st (by have:n<=i:=hg;lia) λh' eb=>⟨rfl,I.turned (t':=s.toks) (λb o hb e=>eb b o hb e) f0 f1 f3 f4 f5⟩
 self:=λ_ _ _ _ _ st h=>wpAny_pyIter_rangeiter st h
end L2
namespace L2
open PySem PySem.Spec PyProof.Rows
def anz{lo:Int}(I:Inv X pins σ H s)(h1:-(2 ^ 62)<=lo)(h2:lo<2 ^ 62)(h3:-(2 ^ 62)<=hi)(h4:hi<2 ^ 62)(q:R (Pg lo (hi-lo).toNat) H):wpAny (model X.prog X.w) X.A (pyIter (.ref s.heap.objs.size)) (PIE X pins σ tg R) E { s with heap:=s.heap.push { cls:=.type "range",data:=.fields #[.int lo t,.int hi u,.int 1 v] },toks:=tk }:=by
 refine wpAny_pyIter_range (IsRange.new ..) (small_one h1 h2 h3 h4) ?_;have I1:Inv X pins σ H { s with heap:=s.heap.push { cls:=.type "range",data:=.fields #[.int lo t,.int hi u,.int 1 v] },toks:=tk }:=I.kept λb o e=>ao _ e
 refine⟨(s.heap.push { cls:=.type "range",data:=.fields #[.int lo t,.int hi u,.int 1 v] }).objs.size,[(s.heap.push { cls:=.type "range",data:=.fields #[.int lo t,.int hi u,.int 1 v] }).objs.size],_,_,H,rfl,
  I1.kept (t':=tk) λb o e=>ao _ e,af2 _ lo (hi-lo).toNat,?_,λb hb=>?_,q⟩
 . have e1:lo+((0:Nat):Int)*1=lo:=by simp
   have e2:(((hi-lo).toNat:Nat):Int)-((0:Nat):Int)=Builtin.Range.rangeSize lo hi 1:=by rw[rangeSize_one];split<;>lia
   show IsRangeIter _ _ (lo+((0:Nat):Int)*1) ((((hi-lo).toNat:Nat):Int)-((0:Nat):Int)) 1;rw[e1,e2];exact bu _ rfl
 . have e:b=(s.heap.push { cls:=.type "range",data:=.fields #[.int lo t,.int hi u,.int 1 v] }).objs.size:=by simpa using hb
   subst e;exact I1.anw (bw _) (I1.Ad.fresh (bw _))
def a6m(ta:TA):TI:=fun σ H R=>ta σ H λvs H1=>∃j:Int,vs=[.int j]/\-(2 ^ 62)<=j/\j<2 ^ 62/\R (Pg 0 j.toNat) H1
def aj6{X:Cx}{tg:Expr}(hg:Gl X "range")(hm:X.mg "range" = none)(ha:PA X [a] ta)(hs:starEach [a] X.env=[(false,eval a X.env)]:=by rfl):PI X tg (.Call (.Name "range" p) [a] [] pos) (a6m ta):=by
 intro pins s σ H R I h;refine Call_ (Ff I hg hm boot_range (ji (Bf (ha pos pins s σ H _ I h) λus s1 ⟨vs,H1,I1,r1,q1⟩=>?_) hs rfl));obtain⟨j,e,q1,q2,q⟩:=q1;subst e;cases r1 with
 |cons r rr =>
  cases rr;obtain⟨t,rfl⟩:=r;exact call_range_1 (anz I1 (by lia) (by lia) q1 q2 (by simpa using q))
def bdr(wi:TI)(g:TG)(tb:TS):TS:=λD σ H=>wi σ H λJ H1=>∃W:Nat->Nat->St->Hp->Prop,(∃m,W 0 m σ H1)/\∀i m σ H,W i m σ H ->
 (J.stop i H/\D.nx σ H)\/(J.go i H/\∃N:St->Hp->Prop,(∀σ' H',N σ' H'->∃m',m'<m/\W (i+1) m' σ' H')/\∀x H',J.yld i H x H'->g x σ H' fun σ2 H2=>tb { D with nx:=N,ct:=N,bk:=D.nx } σ2 H2)
noncomputable def Tn(fp:X9)(h:Heap):List (Addr×Obj):=fp.filterMap λb=>(h.get? b).map λo=>(b,o)
def K1(hb:b∈fp)(e:h.get? b=some o):(b,o)∈Tn fp h:=List.mem_filterMap.mpr ⟨b,hb,by rw[e];rfl⟩
def aj7(hp:p∈Tn fp h):p.1∈fp/\h.get? p.1=some p.2:=by
 obtain⟨b,hb,e⟩:=List.mem_filterMap.mp hp;cases q:h.get? b with
 |none=>rw[q] at e;cases e
 |some o =>
  rw[q] at e;have e':(b,o)=p:=jd e;subst e';exact⟨hb,q⟩
def Inv.pinned{X:Cx}(I:Inv X pins σ H s)(hf:∀b∈fp,Vd X pins H b)(ho:∀b∈fp,∃o,s.heap.get? b=some o/\∀v,o.data≠.cell v):Inv X (pins++Tn fp s.heap) σ H s :=
 I.Rj λp hp=>(gh.mp hp).elim (λz=>I.pin p (iz _ z)) λz=>by obtain⟨hb,e⟩:=aj7 z;obtain⟨f0,f1,f2,_⟩:=hf p.1 hb;obtain⟨o,e',d⟩:=ho p.1 hb;rw[e] at e';cases e';exact⟨e,f0,f1,f2,d⟩
def Inv.Nz{X:Cx}(I:Inv X (pins++pl) σ H s):Inv X pins σ H s:=I.Rj λp hp=>I.pin p (iz _ (yg _ hp))
def azz{X:Cx}{tg:Expr}(hp:PassesOwn (model X.prog X.w) X.A X.env X.xe)(hc:X.calm=true)(hi:PI X tg iter wi)(hg:PG X tg g)(hb:Rk X body tb)(hs:∀x,foldedSetIterable iter X.env x=pure x:=by intro _;rfl):PS X (.For tg iter body [] pos) (bdr wi g tb):=by
 intro pins s σ H D I h;refine wpAny_For (Bf (hi pins s σ H _ I h) λv s1 h1=>Bf h1 λitv s2 h2=>?_) hs;obtain⟨it,fp,tn,J,H2,e,I2,T,st2,f2,W,⟨m0,w0⟩,turn⟩:=h2;subst e;have af3:∀{H':Hp},(∀b∈fp,H' b=none)->∀b∈fp,Vd X pins H' b:=λhn b hb=>⟨hn b hb,(f2 b hb).2⟩
 refine codeAny_forLoop_any (λn s'=>∃i σ' H',Inv X pins σ' H' s'/\tn i s'.heap/\(∀b∈fp,H' b=none)/\W i n σ' H') ?_ m0 ⟨0,σ,H2,I2,st2,λb hb=>(f2 b hb).1,w0⟩;rintro n s3 ⟨i,σ3,H3,I3,st3,fr3,w3⟩;rcases turn i n σ3 H3 w3 with⟨stop,qn⟩|⟨go,N,hN,step⟩
 . refine ue hp (Bf (T.done X rfl rfl rfl hc i pins s3 σ3 H3 X.xe I3 (af3 fr3) st3 stop) λr s4 ⟨hr,I4⟩=>?_)
   subst hr;exact wpAny_execs_nil ⟨σ3,H3,I4,qn⟩
 . refine ue hp (Bf (T.item X rfl rfl rfl hc i pins s3 σ3 H3 X.xe I3 (af3 fr3) st3 go) λr s4 ⟨u,hr,h4⟩=>?_)
   subst hr;refine ue hp (Bf h4 λ_ s5 ⟨x,H5,I5,r5,y5,st5,fr5⟩=>?_);have I5':=I5.pinned (af3 fr5) (T.obj _ _ st5);refine ue hp (Bf (hg _ s5 σ3 H5 x u _ I5' r5 (step x H5 y5)) λ_ s6 ⟨σ6,H6,I6,q6⟩=>?_);refine ue hp (Bf (hb _ s6 σ6 H6 _ I6 q6) λf s7 q7=>?_);have again:∀{σ7:St}{H7:Hp},Inv X (pins++Tn fp s5.heap) σ7 H7 s7->N σ7 H7->∃m,m<n/\∃i σ' H',Inv X pins σ' H' s7/\tn i s7.heap/\(∀b∈fp,H' b=none)/\W i m σ' H':=fun{σ7 H7} I7 n7=>by obtain⟨m',hm,w7⟩:=hN σ7 H7 n7;refine⟨m',hm,i+1,σ7,H7,I7.Nz,T.keep _ _ _ st5 λb hb o e=>(I7.pin (b,o) (iz _ (iz _ (K1 hb e)))).1,λb hb=>?_,w7⟩;obtain⟨o,e,d⟩:=T.obj _ _ st5 b hb;exact(I7.pin (b,o) (iz _ (iz _ (K1 hb e)))).2.1
   cases f with
   |next=>obtain⟨σ7,H7,I7,n7⟩:=q7;exact again I7 n7
   |cont=>obtain⟨σ7,H7,I7,n7⟩:=q7;exact again I7 n7
   |brk=>obtain⟨σ7,H7,I7,q7⟩:=q7;exact⟨σ7,H7,I7.Nz,q7⟩
   |ret v=>obtain⟨x7,σ7,H7,I7,r7,q7⟩:=q7;exact⟨x7,σ7,H7,I7.Nz,r7,q7⟩
end L2
namespace L2
open PySem PySem.Spec PyProof.Rows
abbrev R2:=V->V->Hp->VK->Prop
def Cr(X:Cx)(f:Value->Value->Sem Value)(r:R2):Prop :=
 ∀(pins:Zp)(s:Shared)(σ:St)(H:Hp)(x y:V)(v u:Value)(Q:VK),Inv X pins σ H s->RelV x v->RelV y u->r x y H Q ->
  wpAny (model X.prog X.w) X.A (f v u) (EP X pins σ Q) X.xe s
def UnR(X:Cx)(f:Value->Sem Value)(r:V->Hp->VK->Prop):Prop :=
 ∀(pins:Zp)(s:Shared)(σ:St)(H:Hp)(x:V)(v:Value)(Q:VK),Inv X pins σ H s->RelV x v->r x H Q ->
  wpAny (model X.prog X.w) X.A (f v) (EP X pins σ Q) X.xe s
def Bk(X:Cx)(f:Value)(r:List V->Hp->VK->Prop):Prop :=
 ∀(pins:Zp)(s:Shared)(σ:St)(H:Hp)(xs:List V)(us:Zl)(Q:VK),Inv X pins σ H s->Vals xs us->r xs H Q ->
  wpAny (model X.prog X.w) X.A (call f us) (EP X pins σ Q) X.xe s
def tOp(r:R2)(ta tb:TE):TE:=fun σ H Q=>ta σ H λx H1=>tb σ H1 λy H2=>r x y H2 Q
def tUn(r:V->Hp->VK->Prop)(ta:TE):TE:=fun σ H Q=>ta σ H λx H1=>r x H1 Q
def rI(C:Int->Int->Prop)(g:Int->Int->V):R2:=λx y H Q=>∃i j,x=.int i/\y=.int j/\C i j/\Q (g i j) H
def rI0(g:Int->Int->V):R2:=λx y H Q=>∃i j,x=.int i/\y=.int j/\Q (g i j) H
def rU(g:Int->V):V->Hp->VK->Prop:=λx H Q=>∃i,x=.int i/\Q (g i) H
def az1{X:Cx}{a b:Expr}{ta tb:TE}(ha:PE X a ta)(hb:PE X b tb){pins:Zp}{s:Shared}{σ:St}{H:Hp}{R:V->V->Hp->Prop}(I:Inv X pins σ H s)
 (h:ta σ H λx H1=>tb σ H1 λy H2=>R x y H2) {Q:Y1} {f:Value->Value->Sem Value}
 (hf:∀v u s2 x y H2,Inv X pins σ H2 s2->RelV x v->RelV y u->R x y H2->wpAny (model X.prog X.w) X.A (f v u) Q X.xe s2) :
 wpAny (model X.prog X.w) X.A (eval a X.env) (λv s₁=>wpAny (model X.prog X.w) X.A (eval b X.env) (λu s₂=>wpAny (model X.prog X.w) X.A (f v u) Q X.xe s₂) X.xe s₁) X.xe s:=by
 refine Bf (ha pins s σ H _ I h) λv s1 ⟨x,H1,I1,r1,q1⟩=>?_
 refine Bf (hb pins s1 σ H1 _ I1 q1) λu s2 ⟨y,H2,I2,r2,q2⟩=>?_
 exact hf v u s2 x y H2 I2 r1 r2 q2
def a6o{X:Cx}{a b:Expr}{ta tb:TE}{pos:Pos}{op:Operator}{r:R2}(ho:Cr X (binaryOp op) r)(ha:PE X a ta)(hb:PE X b tb):PE X (.BinOp a op b pos) (tOp r ta tb):=by intro pins s σ H Q I h;exact wpAny_BinOp (az1 ha hb I h λv u s2 x y H2 I2 rx ry q=>ho pins s2 σ H2 x y v u Q I2 rx ry q)
def a6p{X:Cx}{a:Expr}{ta:TE}{pos:Pos}{op:UnaryOp}{r:V->Hp->VK->Prop}(ho:UnR X (unaryOp op) r)(ha:PE X a ta):PE X (.UnaryOp op a pos) (tUn r ta):=by intro pins s σ H Q I h;exact UnaryOp_ (Bf (ha pins s σ H _ I h) λv s1 ⟨x,H1,I1,r1,q1⟩=>ho pins s1 σ H1 x v Q I1 r1 q1)
def opI{X:Cx}{f:Value->Value->Sem Value}{C:Int->Int->Prop}{g:Int->Int->Int}
 (rule:∀(i j:Int)(t u:Tok)(s:Shared)(Q:Y1)(E:Y1),C i j->Q (.int (g i j) s.toks) { s with toks:=s.toks+1 }->wpAny (model X.prog X.w) X.A (f (.int i t) (.int j u)) Q E s) :
 Cr X f (rI C λi j=>.int (g i j)):=by
 intro pins s σ H x y v u Q I rx ry h;obtain⟨i,j,rfl,rfl,hc,q⟩:=h;obtain⟨t,rfl⟩:=rx;obtain⟨t',rfl⟩:=ry;exact rule i j t t' s _ _ hc ⟨.int (g i j),H,I.tok _,⟨_,rfl⟩,q⟩
def a6q{X:Cx}{f:Value->Value->Sem Value}{g:Int->Int->Int}
 (rule:∀(i j:Int)(t u:Tok)(s:Shared)(Q:Y1)(E:Y1),Q (.int (g i j) s.toks) { s with toks:=s.toks+1 }->wpAny (model X.prog X.w) X.A (f (.int i t) (.int j u)) Q E s) :
 Cr X f (rI0 λi j=>.int (g i j)):=by
 intro pins s σ H x y v u Q I rx ry h;obtain⟨i,j,rfl,rfl,q⟩:=h;obtain⟨t,rfl⟩:=rx;obtain⟨t',rfl⟩:=ry;exact rule i j t t' s _ _ ⟨.int (g i j),H,I.tok _,⟨_,rfl⟩,q⟩
def atv{X:Cx}{f:Value->Value->Sem Value}{g:Int->Int->Bool}
 (rule:∀(i j:Int)(t u:Tok)(s:Shared)(Q:Y1)(E:Y1),Q (.bool (g i j)) s->wpAny (model X.prog X.w) X.A (f (.int i t) (.int j u)) Q E s) :
 Cr X f (rI0 λi j=>.bl (g i j)):=by
 intro pins s σ H x y v u Q I rx ry h;obtain⟨i,j,rfl,rfl,q⟩:=h;obtain⟨t,rfl⟩:=rx;obtain⟨t',rfl⟩:=ry;exact rule i j t t' s _ _ ⟨.bl (g i j),H,I,rfl,q⟩
def bdv(i j:Int):Prop:=0<j/\j<1073741824
def bdw(i j:Int):Prop:=0<=j/\j<=1000000/\i.natAbs<2 ^ 64
def az2(i j:Int):Prop:=(-(2 ^ 64)<i/\i<2 ^ 64)\/(-(2 ^ 64)<j/\j<2 ^ 64)
def az2.ok{i j:Int}(h:az2 i j):IntMulOk i j:=by
 rcases h with⟨h1,h2⟩|⟨h1,h2⟩
 . exact .of_left (intBits_le_64 h1 h2)
 . exact .of_right (intBits_le_64 h1 h2)
def az3{X:Cx}:Cr X (binaryOp .Add) (rI0 λi j=>.int (i+j)):=a6q λ_ _ _ _ _ _ _ q=>add_int q
def az4{X:Cx}:Cr X (binaryOp .Sub) (rI0 λi j=>.int (i-j)):=a6q λ_ _ _ _ _ _ _ q=>sub_int q
def az5{X:Cx}:Cr X (binaryOp .Mult) (rI az2 λi j=>.int (i*j)):=opI λ_ _ _ _ _ _ _ hc q=>mul_int q hc.ok
def atw{X:Cx}:Cr X (binaryOp .FloorDiv) (rI bdv λi j=>.int (i / j)):=opI λi j _ _ _ _ _ hc q=>by
 have h1:(0:Int)<j:=hc.1
 have h2:j<1073741824:=hc.2
 exact floordiv_int (by lia) (by rw[Int.fdiv_eq_ediv_of_nonneg i (by lia)];exact q) (.inl (PyProof.noPylong_small (by omega)))
def az6{X:Cx}:Cr X (binaryOp .Mod) (rI (λ_ j=>0<j) λi j=>.int (i%j)):=opI λi j _ _ _ _ _ hc q=>by
 have h1:(0:Int)<j:=hc
 exact mod_int' (by lia) (by rw[Int.fmod_eq_emod_of_nonneg i (by lia)];exact q)
def az7{X:Cx}:Cr X (binaryOp .Pow) (rI bdw λi j=>.int (i ^ j.toNat)):=opI λ_ _ _ _ _ _ _ hc q=>pow_int_small hc.1 hc.2.1 hc.2.2 q
def unI{X:Cx}{f:Value->Sem Value}{g:Int->Int}
 (rule:∀(i:Int)(t:Tok)(s:Shared)(Q:Y1)(E:Y1),Q (.int (g i) s.toks) { s with toks:=s.toks+1 }->wpAny (model X.prog X.w) X.A (f (.int i t)) Q E s) :
 UnR X f (rU λi=>.int (g i)):=by
 intro pins s σ H x v Q I rx h;obtain⟨i,rfl,q⟩:=h;obtain⟨t,rfl⟩:=rx;exact rule i t s _ _ ⟨.int (g i),H,I.tok _,⟨_,rfl⟩,q⟩
def az8{X:Cx}:UnR X (unaryOp .USub) (rU λi=>.int (-i)):=unI λ_ _ _ _ _ q=>neg_int q
noncomputable def az9:V->V->Bool
 |.non,.non=>true|.non,.int _=>true|.int _,.non=>true|.non,.bl _=>true|.bl _,.non=>true|.non,.str _=>true|.str _,.non=>true
 |.int _,.int _=>true|.bl _,.bl _=>true|.str _,.str _=>true|.byt _,.byt _=>true
 |.int _,.str _=>true|.str _,.int _=>true|.bl _,.str _=>true|.str _,.bl _=>true
 |_,_=>false
def rEq:R2:=λx y H Q=>az9 x y=true/\Q (.bl (decide (x=y))) H
def rNe:R2:=λx y H Q=>az9 x y=true/\Q (.bl (!decide (x=y))) H
def ahw{i j:Int}:decide (V.int i=V.int j)=(i==j):=by rw[Av];simp
def aoa{i j:Bool}:decide (V.bl i=V.bl j)=(i==j):=by rw[Av];simp
def ahx{i j:Str}:decide (V.str i=V.str j)=(i==j):=by rw[Av];simp
def ahy{i j:Array UInt8}:decide (V.byt i=V.byt j)=(i.toList==j.toList):=by rw[Av];cases i;cases j;simp
def ye{X:Cx}{pins:Zp}{σ:St}{H:Hp}{s:Shared}{Q:VK}{k k':Bool}(I:Inv X pins σ H s)(q:Q (.bl k) H)(e:k=k'):EP X pins σ Q (.bool k') s:=by subst e;exact⟨.bl k,H,I,rfl,q⟩
def a6r{X:Cx}:Cr X (compareOp .Eq) rEq:=by
 intro pins s σ H x y v u Q I rx ry h;obtain⟨hs,q⟩:=h;cases x with
 |non =>
  cases rx;cases y with
  |non=>cases ry;exact PySem.EqNone.eq_none_none (ye I q (by simp))|bl j=>cases ry;exact PySem.EqNone.eq_none_bool (ye I q (by simp))|int j=>obtain⟨t',rfl⟩:=ry;exact PySem.EqNone.eq_none_int (ye I q (by simp))
  |str j=>obtain⟨t',rfl⟩:=ry;exact PySem.EqNone.eq_none_str (ye I q (by simp))
  |_=>exact absurd (show false=true from hs) jg
 |bl i =>
  cases rx;cases y with
  |non=>cases ry;exact PySem.EqNone.eq_bool_none (ye I q (by simp))|bl j=>cases ry;exact eq_bool (ye I q aoa)|str j=>obtain⟨t',rfl⟩:=ry;exact PySem.EqMixed.eq_bool_str (ye I q (by simp))
  |_=>exact absurd (show false=true from hs) jg
 |int i =>
  obtain⟨t,rfl⟩:=rx;cases y with
  |non=>cases ry;exact PySem.EqNone.eq_int_none (ye I q (by simp))|int j=>obtain⟨t',rfl⟩:=ry;exact eq_int (ye I q ahw)
  |str j=>obtain⟨t',rfl⟩:=ry;exact PySem.EqMixed.eq_int_str (ye I q (by simp))
  |_=>exact absurd (show false=true from hs) jg
 |str i =>
  obtain⟨t,rfl⟩:=rx;cases y with
  |non=>cases ry;exact PySem.EqNone.eq_str_none (ye I q (by simp))|bl j=>cases ry;exact PySem.EqMixed.eq_str_bool (ye I q (by simp))|int j=>obtain⟨t',rfl⟩:=ry;exact PySem.EqMixed.eq_str_int (ye I q (by simp))
  |str j=>obtain⟨t',rfl⟩:=ry;exact eq_str (ye I q ahx)
  |_=>exact absurd (show false=true from hs) jg
 |byt i =>
  obtain⟨t,rfl⟩:=rx;cases y with
  |byt j=>obtain⟨t',rfl⟩:=ry;exact PySem.W.eq_bytes (ye I q ahy)
  |_=>exact absurd (show false=true from hs) jg
 |_=>cases y<;>exact absurd (show false=true from hs) jg
def a6s{X:Cx}:Cr X (compareOp .NotEq) rNe:=by
 intro pins s σ H x y v u Q I rx ry h;obtain⟨hs,q⟩:=h;cases x with
 |non =>
  cases rx;cases y with
  |non=>cases ry;exact PySem.EqNone.ne_none_none (ye I q (by simp))|bl j=>cases ry;exact PySem.EqNone.ne_none_bool (ye I q (by simp))|int j=>obtain⟨t',rfl⟩:=ry;exact PySem.EqNone.ne_none_int (ye I q (by simp))
  |str j=>obtain⟨t',rfl⟩:=ry;exact PySem.EqNone.ne_none_str (ye I q (by simp))
  |_=>exact absurd (show false=true from hs) jg
 |bl i =>
  cases rx;cases y with
  |non=>cases ry;exact PySem.EqNone.ne_bool_none (ye I q (by simp))|bl j=>cases ry;exact ne_bool (ye I q (o7 not aoa))|str j=>obtain⟨t',rfl⟩:=ry;exact PySem.EqMixed.ne_bool_str (ye I q (by simp))
  |_=>exact absurd (show false=true from hs) jg
 |int i =>
  obtain⟨t,rfl⟩:=rx;cases y with
  |non=>cases ry;exact PySem.EqNone.ne_int_none (ye I q (by simp))|int j=>obtain⟨t',rfl⟩:=ry;exact ne_int (ye I q (o7 not ahw))
  |str j=>obtain⟨t',rfl⟩:=ry;exact PySem.EqMixed.ne_int_str (ye I q (by simp))
  |_=>exact absurd (show false=true from hs) jg
 |str i =>
  obtain⟨t,rfl⟩:=rx;cases y with
  |non=>cases ry;exact PySem.EqNone.ne_str_none (ye I q (by simp))|bl j=>cases ry;exact PySem.EqMixed.ne_str_bool (ye I q (by simp))|int j=>obtain⟨t',rfl⟩:=ry;exact PySem.EqMixed.ne_str_int (ye I q (by simp))
  |str j=>obtain⟨t',rfl⟩:=ry;exact ne_str (ye I q (o7 not ahx))
  |_=>exact absurd (show false=true from hs) jg
 |byt i =>
  obtain⟨t,rfl⟩:=rx;cases y with
  |byt j=>obtain⟨t',rfl⟩:=ry;exact PySem.W.ne_bytes (ye I q (o7 not ahy))
  |_=>exact absurd (show false=true from hs) jg
 |_=>cases y<;>exact absurd (show false=true from hs) jg
def a6t{X:Cx}:Cr X (compareOp .Lt) (rI0 λi j=>.bl (decide (i<j))):=atv λ_ _ _ _ _ _ _ q=>lt_int q
def a6u{X:Cx}:Cr X (compareOp .LtE) (rI0 λi j=>.bl (decide (i<=j))):=atv λ_ _ _ _ _ _ _ q=>le_int q
def a6v{X:Cx}:Cr X (compareOp .Gt) (rI0 λi j=>.bl (decide (j<i))):=atv λ_ _ _ _ _ _ _ q=>gt_int q
def a6w{X:Cx}:Cr X (compareOp .GtE) (rI0 λi j=>.bl (decide (j<=i))):=atv λ_ _ _ _ _ _ _ q=>ge_int q
def Cr.or{X:Cx}{f:Value->Value->Sem Value}{r r':R2}(h:Cr X f r)(h':Cr X f r'):Cr X f (λx y H Q=>r x y H Q\/r' x y H Q):=by
 intro pins s σ H x y v u Q I rx ry q;rcases q with q|q
 . exact h pins s σ H x y v u Q I rx ry q
 . exact h' pins s σ H x y v u Q I rx ry q
def atx{X:Cx}{a b:Expr}{ta tb:TE}{pos:Pos}{op:CmpOp}{r:R2}(ho:Cr X (compareOp op) r)(ha:PE X a ta)(hb:PE X b tb)(hm:behindInMarks op b=false):PE X (.Compare a [op] [b] pos) (tOp r ta tb):=by intro pins s σ H Q I h;exact wpAny_Compare1 (az1 ha hb I h λv u s2 x y H2 I2 rx ry q=>ho pins s2 σ H2 x y v u Q I2 rx ry q) hm
def axd(t:TE):TT:=fun σ H Q=>t σ H λx H'=>∃k,x=.bl k/\Q k H'
def aty{X:Cx}{a b:Expr}{ta tb:TE}{pos:Pos}{op:CmpOp}{r:R2}(ho:Cr X (compareOp op) r)(ha:PE X a ta)(hb:PE X b tb)(hm:behindInMarks op b=false):PT X (.Compare a [op] [b] pos) (axd (tOp r ta tb)):=by
 intro pins s σ H Q I h;refine wpAny_isTrue_Compare1 (Bf (ha pins s σ H _ I h) λv s1 ⟨x,H1,I1,r1,q1⟩=>Bf (hb pins s1 σ H1 _ I1 q1) λu s2 ⟨y,H2,I2,r2,q2⟩ =>
  Bf (ho pins s2 σ H2 x y v u _ I2 r1 r2 q2) λc s3 ⟨z,H3,I3,r3,k,e,q3⟩=>?_) hm
 subst e;cases r3;exact j4 ⟨H3,I3,q3⟩
def aa4(r r':R2)(ta tb tc:TE):TE:=fun σ H Q=>ta σ H λx H1=>tb σ H1 λy H2=>r x y H2 λz H3=>∃k,z=.bl k /\
 (if k=true then tc σ H3 λw' H4=>r' y w' H4 Q else Q (.bl false) H3)
def aob{X:Cx}{a b c:Expr}{ta tb tc:TE}{pos:Pos}{op op':CmpOp}{r r':R2}(ho:Cr X (compareOp op) r)(ho':Cr X (compareOp op') r')(ha:PE X a ta)(hb:PE X b tb)(hc:PE X c tc)
 (hm:lastMarks [op,op'] [b,c]=false:=by with_unfolding_all rfl):PE X (.Compare a [op,op'] [b,c] pos) (aa4 r r' ta tb tc):=by
 intro pins s σ H Q I h;refine Compare_chain (Bf (ha pins s σ H _ I h) λv s1 ⟨x,H1,I1,r1,q1⟩=>chain_link (Bf (hb pins s1 σ H1 _ I1 q1) λu s2 ⟨y,H2,I2,r2,q2⟩ =>
  Bf (ho pins s2 σ H2 x y v u _ I2 r1 r2 q2) λd s3 ⟨z,H3,I3,r3,k,e,q3⟩=>?_)) hm
 subst e;cases r3;refine j4 ?_;cases k with
 |false=>exact ite_ff ⟨.bl false,H3,I3,rfl,q3⟩|true=>exact ite_tt (chain_last (Bf (hc pins s3 σ H3 _ I3 q3) λw' s4 ⟨z',H4,I4,r4,q4⟩=>ho' pins s4 σ H4 y z' u w' Q I4 r2 r4 q4))
def aoc{X:Cx}{a b c:Expr}{ta tb tc:TE}{pos:Pos}{op op':CmpOp}{r r':R2}(ho:Cr X (compareOp op) r)(ho':Cr X (compareOp op') r')(ha:PE X a ta)(hb:PE X b tb)(hc:PE X c tc)
 (hm:lastMarks [op,op'] [b,c]=false:=by with_unfolding_all rfl):PT X (.Compare a [op,op'] [b,c] pos) (axd (aa4 r r' ta tb tc)):=by
 intro pins s σ H Q I h;refine isTrue_chain (Bf (ha pins s σ H _ I h) λv s1 ⟨x,H1,I1,r1,q1⟩=>test_link (Bf (hb pins s1 σ H1 _ I1 q1) λu s2 ⟨y,H2,I2,r2,q2⟩ =>
  Bf (ho pins s2 σ H2 x y v u _ I2 r1 r2 q2) λd s3 ⟨z,H3,I3,r3,k,e,q3⟩=>?_)) hm
 subst e;cases r3;refine j4 ?_;cases k with
 |false =>
  obtain⟨k',e',q'⟩:=q3;cases e';exact ite_ff ⟨H3,I3,q'⟩
 |true =>
  refine ite_tt (test_last (Bf (hc pins s3 σ H3 _ I3 q3) λw' s4 ⟨z',H4,I4,r4,q4⟩=>Bf (ho' pins s4 σ H4 y z' u w' _ I4 r2 r4 q4) λd' s5 ⟨z2,H5,I5,r5,k2,e2,q5⟩=>?_));subst e2;cases r5;exact j4 ⟨H5,I5,q5⟩
def aa5:(sizeLine:Nat)<2 ^ 63:=by rw[qd];decide
def vals1{x:V}{us:Zl}(r:Vals [x] us):∃u,us=[u]/\RelV x u:=by
 cases r with
 |cons r1 r2=>cases r2;exact⟨_,rfl,r1⟩
def vals2{x y:V}{us:Zl}(r:Vals [x,y] us):∃u w',us=[u,w']/\RelV x u/\RelV y w':=by
 cases r with
 |cons r1 r2 =>
  cases r2 with
  |cons r3 r4=>cases r4;exact⟨_,_,rfl,r1,r3⟩
def aj8{X:Cx}(hc:X.calm=true):Bk X (.builtin "max") (λxs H Q=>∃i j,xs=[.int i,.int j]/\Q (.int (if j > i then j else i)) H):=by
 intro pins s σ H xs us Q I r h;obtain⟨i,j,rfl,q⟩:=h;obtain⟨u,w',rfl,⟨t,rfl⟩,⟨t',rfl⟩⟩:=vals2 r;refine max_two_ints (I.ok.hd hc) λh' tk k=>⟨_,H,I.kept k,?_,q⟩
 by_cases hj:j > i
 . rw[cz hj,cz hj];exact⟨_,rfl⟩
 . rw[bx hj,bx hj];exact⟨_,rfl⟩
def aj9{X:Cx}(hc:X.calm=true):Bk X (.builtin "min") (λxs H Q=>∃i j,xs=[.int i,.int j]/\Q (.int (if j<i then j else i)) H):=by
 intro pins s σ H xs us Q I r h;obtain⟨i,j,rfl,q⟩:=h;obtain⟨u,w',rfl,⟨t,rfl⟩,⟨t',rfl⟩⟩:=vals2 r;refine min_two_ints (I.ok.hd hc) λh' tk k=>⟨_,H,I.kept k,?_,q⟩
 by_cases hj:j<i
 . rw[cz hj,cz hj];exact⟨_,rfl⟩
 . rw[bx hj,bx hj];exact⟨_,rfl⟩
end L2
namespace L2
open PySem PySem.Spec PyProof.Rows
structure af4(h:Heap)(x dx C:Addr)(mA:Zs):Prop where
 obj:h.get? x=some (PySem.W.instObj C dx)
 ns:h.Ns1 dx mA
 ne:dx≠x
set_option tactic.hygienic true in
def aka{h:Heap}{dx:Addr}{mA:Zs}(n:h.Ns1 dx mA):∃od,h.get? dx=some od/\∀name,PySem.W.lookIn name od=some (mA name):=by
 obtain⟨o,es,ep,ho,hd,hk,_,hm⟩:=n;refine⟨o,ho,λname=>?_⟩;have e:=hm name;unfold nsFind findBy at e;rw[<- Array.find?_toList] at e;unfold PySem.W.lookIn;rw[hd];dsimp only;split
 . rename_i y q
   rw[q] at e;exact o7 some e
 . rename_i q
   rw[q] at e;have a:es.toList.any (·.refKey)=false:=by rw[List.any_eq_false];intro y hy;obtain⟨z,t,ayf⟩:=hk y (Array.mem_toList_iff.mp hy);simp[DictEntry.refKey,ayf]
   have a':¬es.toList.any (·.refKey)=true:=by rw[a];exact jg
   rw[bx a'];exact o7 some e
def af4.look{h:Heap}{x dx C:Addr}{mA:Zs}(I:af4 h x dx C mA):∃od,PySem.W.InstAt h x (PySem.W.instObj C dx) C (some od)/\∀name,PySem.W.lookIn name od=some (mA name) :=
 let ⟨od,ho,hl⟩:=aka I.ns
 ⟨od,⟨I.obj,rfl,rfl,ho⟩,hl⟩
def get_map{prog:Program}{w:World}{A:Around}{E:Y1}{s:Shared}{K:Fg}{x dx C:Addr}{mA:Zs}{name:Str}{v:Value}{expr:Bool}{Q:Y1}(X:K.In s.heap)(I:af4 s.heap x dx C mA)(hg:PySem.W.plainGet K C name=true)(hh:PySem.W.hasDictIn K C=true)
 (ha:PySem.W.findIn K (.ref C) name=some none) (hv:mA name=some v) (hv':PySem.W.handedIn v=true) (h:Q v { s with toks:=s.toks+1 }) :
 wpAny (model prog w) A (getAttr (.ref x) name expr) Q E s:=by
 obtain⟨od,J,hl⟩:=I.look;exact PySem.W.get_value X J (PySem.W.plainGet_of hg).1 (PySem.W.findObj_own hh ha rfl (by rw[hl,hv])) hv' h
def aod{prog:Program}{w:World}{A:Around}{E:Y1}{s:Shared}{K:Fg}{x dx C f:Addr}{mA:Zs}{name:Str}{pl:Sem Bool}{Q:Value×List Value->Shared->Prop}(X:K.In s.heap)(I:af4 s.heap x dx C mA)(hg:PySem.W.plainGet K C name=true)
 (hf:PySem.W.findIn K (.ref C) name=some (some (.ref f))) (ht:PySem.W.isFn K (.ref f)=true) (hv:mA name=none) (h:Q (.ref f,[.ref x]) s) :
 wpAny (model prog w) A (getMethod (.ref x) name pl) Q E s:=by
 obtain⟨od,J,hl⟩:=I.look;exact PySem.W.method_fn X J (PySem.W.plainGet_of hg).1 (PySem.W.plainGet_of hg).2 hf (beq_iff_eq.mp ht) (by show(PySem.W.lookIn name od).map (·.isSome)=some false;rw[hl,hv];rfl) h
def atz{prog:Program}{w:World}{A:Around}{E:Y1}{s:Shared}{K:Fg}{x dx C:Addr}{mA:Zs}{name:Str}{v:Value}{ns:Yf}{Q:Unit->Shared->Prop}(X:K.In s.heap)(I:af4 s.heap x dx C mA)
 (hs:PySem.W.findIn K (.ref C) "__setattr__" = some (some (.builtin "object.__setattr__"))) (hp:PySem.W.plainOver K C=true) (ht:PySem.W.takerIn K C name=some none) (hh:PySem.W.hasDictIn K C=true)
 (hw:PySem.Within mA ns) (hsz:ns.length<=sizeLine)
 (h:∀h',af4 h' x dx C (λy=>if y=name then some v else mA y)->Heap.SameBut dx s.heap h'->Q () { s with heap:=h',toks:=s.toks+2 }) :
 wpAny (model prog w) A (setAttr (.ref x) name v) Q E s:=by
 obtain⟨od,J,hl⟩:=I.look;refine PySem.W.set_plain X J hs (PySem.W.osa_open (s:={ s with toks:=s.toks+1 }) (r:=none) X J hp ht λb=>?_);obtain⟨cd,hc,hd'⟩:=PySem.W.any_some hh;have hx:s.heap.get? x=some ⟨.ref C,some dx,.plain,#[]⟩:=I.obj;refine aa (aj (aa (aa (wpAny_loadPart hx (aa (PySem.W.Looks.here (s:={ s with toks:=s.toks+1 }) (PySem.W.looks_clsIn X hc) ?_))))));rw[hd'];refine aj (a:=some dx) (aa (aj (aa ?_)));refine wpAny_nsSet1 (s:={ s with toks:=s.toks+1 }) I.ns λh' hn2 hs2=>?_
 obtain⟨oD,esD,epD,hoD,hdD,hcD⟩:=hn2.count (PySem.Within.cons name v hw);refine aa (wpAny_lookBehind hoD (by rw[hdD];exact pastItsLine_dict (iu hcD (by rw[gr];exact v_ hsz))) ?_);exact aj (h _ ⟨(hs2.2 _ (j6 I.ne)).trans I.obj,hn2,I.ne⟩ hs2)
def aoe{prog:Program}{w:World}{A:Around}{s:Shared}{K:Fg}{C f:Addr}{R:Result->Shared->Prop}{vs:Zl}{kw:List (Str×Value)}(X:K.In s.heap)(hm:PySem.W.makesIn K C=true)
 (hi:PySem.W.findIn K (.ref C) "__init__" = some (some (.ref f))) (hf:PySem.W.typeIn K (.ref f)=some (.type "function"))
 (h:codeAny (model prog w) (A.under (.builtin "type.__call__" ⟨.ref C::vs,kw⟩)) (.call (.ref f) ⟨.ref (s.heap.objs.size+1)::vs,kw⟩) (PySem.W.InitBack (s.heap.objs.size+1) R)
  { s with heap:=(s.heap.push PySem.W.emptyDict).push (PySem.W.instObj C s.heap.objs.size) }) :
 codeAny (model prog w) A (.call (.ref C) ⟨vs,kw⟩) R s:=by
 obtain⟨hh,g,d,t,os⟩:=s;exact PySem.W.make_core (PySem.W.makes_of X hm) (PySem.W.looks_findIn X hi) (λself=>PySem.W.bind_fn X self hf) (.inl rfl) h
noncomputable def Ig(f:Str)(v:V):List (Str×V)->List (Str×V)
 |[]=>[(f,v)]|(g,x)::r=>if g=f then(g,v)::r else(g,x)::Ig f v r
theorem Uu(f g:Str)(v:V):∀fs:List (Str×V),(Ig f v fs).lookup g=if g=f then some v else fs.lookup g
 |[]=>by
  show List.lookup g [(f,v)]=_
  by_cases h:g=f
  . have hb:(g==f)=true:=beq_iff_eq.mpr h
    simp only[List.lookup,hb,cz h]
  . have hb:(g==f)=false:=ql.mpr h
    simp only[List.lookup,hb,bx h]
 |(k,x)::r=>by
  have ih:=Uu f g v r;rw[show Ig f v ((k,x)::r)=(if k=f then(k,v)::r else(k,x)::Ig f v r) from rfl]
  by_cases hk:k=f
  . rw[cz hk]
    by_cases h:g=k
    . have hb:(g==k)=true:=beq_iff_eq.mpr h
      simp only[List.lookup,hb,cz (h.trans hk)]
    . have hb:(g==k)=false:=ql.mpr h
      simp only[List.lookup,hb,bx (λe:g=f=>h (e.trans hk.symm))]
  . rw[bx hk]
    by_cases h:g=k
    . have hb:(g==k)=true:=beq_iff_eq.mpr h
      simp only[List.lookup,hb,bx (λe:g=f=>hk (h.symm.trans e))]
    . have hb:(g==k)=false:=ql.mpr h
      simp only[List.lookup,hb];exact ih
theorem Tp(f:Str)(v:V):∀fs:List (Str×V),f∈(Ig f v fs).map (·.1)/\∀g,g∈fs.map (·.1)->g∈(Ig f v fs).map (·.1)
 |[]=>⟨by simp[Ig],λg h=>by simp at h⟩
 |(k,x)::r=>by
  obtain⟨i1,i2⟩:=Tp f v r;rw[show Ig f v ((k,x)::r)=(if k=f then(k,v)::r else(k,x)::Ig f v r) from rfl]
  by_cases hk:k=f
  . rw[cz hk]
    subst hk;exact⟨by simp,λg h=>by simpa using h⟩
  . rw[bx hk]
    refine⟨?_,λg h=>?_⟩
    . rw[ie]
      exact bh _ i1
    . rw[ie] at h ⊢
      rcases cu.mp h with e|e
      . exact cu.mpr (.inl e)
      . exact bh _ (i2 g e)
theorem Uv(f:Str)(v:V):∀fs:List (Str×V),(Ig f v fs).length<=fs.length+1
 |[]=>by simp[Ig]
 |(k,x)::r=>by
  have ih:=Uv f v r;rw[show Ig f v ((k,x)::r)=(if k=f then(k,v)::r else(k,x)::Ig f v r) from rfl]
  by_cases hk:k=f
  . rw[cz hk,gr,gr];exact x_
  . rw[bx hk,gr,gr];exact v_ ih
def Ma.some_of{v:V}{o:Option Value}(r:Ma (some v) o):∃u,o=some u/\RelV v u:=by
 cases o with
 |none=>exact(show False from r).elim
 |some u=>exact⟨u,rfl,r⟩
def Ma.none_of{o:Option Value}(r:Ma none o):o=none:=by
 cases o with
 |none=>rfl|some u=>exact(show False from r).elim
def akb{v:V}{u:Value}(r:RelV v u):PySem.W.handedIn u=true:=by
 cases v with
 |non=>cases(show u=Value.none from r);rfl
 |bl b=>cases(show u=Value.bool b from r);rfl
 |int i=>obtain⟨t,e⟩:=(show ∃t,u=Value.int i t from r);cases e;rfl
 |str x=>obtain⟨t,e⟩:=(show ∃t,u=Value.str x t from r);cases e;rfl
 |byt b=>obtain⟨t,e⟩:=(show ∃t,u=Value.bytes b t from r);cases e;rfl
 |flt b=>obtain⟨t,e⟩:=(show ∃t,u=Value.float b t from r);cases e;rfl
 |ref a=>cases(show u=Value.ref a from r);rfl
 |ty n=>cases(show u=Value.type n from r);rfl
def Oj{P:Program}{w:World}{H:Hp}{h:Heap}{a C dx:Addr}{fs:List (Str×V)}(Ad:Qd P w H h)(e:H a=some (.ins C dx fs)):∃mA,af4 h a dx C mA/\(∀f,Ma (fs.lookup f) (mA f))/\PySem.Within mA (fs.map (·.1))/\fs.length<=1000/\H dx=some (.own a):=by obtain⟨d,z,ne,ob,mA,n,r,q⟩:=(show Be P w H h a (.ins C dx fs) from Ad a _ e);exact⟨mA,⟨ob,n,ne⟩,r,q,z,d⟩
structure Cls(K:Fg)(C:Addr):Prop where
 pg:PySem.W.plainGet K C Str.empty=true
 hd:PySem.W.hasDictIn K C=true
 po:PySem.W.plainOver K C=true
 sa:PySem.W.findIn K (.ref C) "__setattr__" = some (some (.builtin "object.__setattr__"))
def Cls.get{K:Fg}{C:Addr}(c:Cls K C)(f:Str):PySem.W.plainGet K C f=true:=c.pg
def Gu(K:Fg)(C:Addr)(f:Str):Prop:=PySem.W.findIn K (.ref C) f=some none
def Gu.taker{K:Fg}{C:Addr}{f:Str}(n:Gu K C f):PySem.W.takerIn K C f=some none:=by unfold PySem.W.takerIn;rw[show PySem.W.findIn K (.ref C) f=some none from n];rfl
structure Meth(K:Fg)(C:Addr)(m:Str)(f:Addr):Prop where
 at_:PySem.W.findIn K (.ref C) m=some (some (.ref f))
 fn:PySem.W.isFn K (.ref f)=true
 kp:PySem.W.keepIn K (.ref f)=true
def af5{X:Cx}{pins:Zp}{σ:St}{H:Hp}{s:Shared}{a C dx:Addr}{fs:List (Str×V)}{f:Str}{v:V}{A:Around}{E:Y1}{b:Bool}{Q:Y1}(I:Inv X pins σ H s)(e:H a=some (.ins C dx fs))(c:Cls X.K C)(n:Gu X.K C f)(l:fs.lookup f=some v)
 (h:∀u s',Inv X pins σ H s'->RelV v u->Q u s'):wpAny (model X.prog X.w) A (getAttr (.ref a) f b) Q E s:=by
 obtain⟨mA,O,r,_,_,_⟩:=Oj I.Ad e;obtain⟨u,hu,ru⟩:=Ma.some_of (v:=v) (o:=mA f) (by rw[<- l];exact r f);exact get_map I.kIn O (c.get f) c.hd n hu (akb ru) (h u _ (I.tok _) ru)
def Wm{X:Cx}{pins:Zp}{σ:St}{H:Hp}{s:Shared}{a C dx:Addr}{fs:List (Str×V)}{A:Around}{E:Y1}{m:Str}{g:Addr}{pl:Sem Bool}{Q:Value×List Value->Shared->Prop}(I:Inv X pins σ H s)(e:H a=some (.ins C dx fs))(c:Cls X.K C)(k:Meth X.K C m g)(l:fs.lookup m=none)
 (h:Q (.ref g,[.ref a]) s):wpAny (model X.prog X.w) A (getMethod (.ref a) m pl) Q E s:=by
 obtain⟨mA,O,r,_,_,_⟩:=Oj I.Ad e;have hn:mA m=none:=Ma.none_of (by rw[<- l];exact r m);exact aod I.kIn O (c.get m) k.at_ k.fn hn h
def af6{X:Cx}{pins:Zp}{σ:St}{H:Hp}{s:Shared}{a C dx:Addr}{fs:List (Str×V)}{f:Str}{A:Around}{E:Y1}{y:V}{u:Value}{Q:Unit->Shared->Prop}(I:Inv X pins σ H s)(e:H a=some (.ins C dx fs))(c:Cls X.K C)(n:Gu X.K C f)(hl:fs.length<1000)(ry:RelV y u)
 (h:∀s',Inv X pins σ (upd H a (.ins C dx (Ig f y fs))) s'->Q () s'):wpAny (model X.prog X.w) A (setAttr (.ref a) f u) Q E s:=by
 obtain⟨mA,O,r,wi,_,ho⟩:=Oj I.Ad e;have hz:(fs.map (·.1)).length<=sizeLine:=by rw[gm,qd];exact e_ (b_ hl (by decide))
 refine atz I.kIn O c.sa c.po n.taker c.hd wi hz λh' O' sb=>h _ ?_
 have hd:∃o,h'.get? dx=some o:=let ⟨o,_,_,e',_⟩:=O'.ns;⟨o,e'⟩;refine I.write (x:=a) (e:=dx) (by rw[e];exact True.intro) (.inr ho) (λb q hb z=>(sb.2 b hb).trans z) hd ?_;refine⟨by rw[j9 O.ne];exact ho,?_,O.ne,O'.obj,_,O'.ns,λg=>?_,λg hg=>?_⟩
 . have:=Uv f y fs;exact a_ this hl
 . show Ma ((Ig f y fs).lookup g) (if g=f then some u else mA g)
   rw[Uu]
   by_cases q:g=f
   . rw[cz q,cz q];exact ry
   . rw[bx q,bx q];exact r g
 . by_cases q:g=f
   . rw[q];exact(Tp f y fs).1
   . refine(Tp f y fs).2 g (wi g λz=>hg ?_)
     show(if g=f then some u else mA g)=none;rw[bx q];exact z
def Inv.made{X:Cx}{pins:Zp}{σ:St}{H:Hp}{s:Shared}{C:Addr}(I:Inv X pins σ H s):Inv X pins σ (upd (upd H s.heap.objs.size (.own (s.heap.objs.size+1))) (s.heap.objs.size+1) (.ins C s.heap.objs.size []))
 { s with heap:=(s.heap.push PySem.W.emptyDict).push (PySem.W.instObj C s.heap.objs.size) }:=by
 have e1:(s.heap.push PySem.W.emptyDict).get? s.heap.objs.size=some PySem.W.emptyDict:=bu s.heap rfl;have e2:((s.heap.push PySem.W.emptyDict).push (PySem.W.instObj C s.heap.objs.size)).get? (s.heap.objs.size+1)=some (PySem.W.instObj C s.heap.objs.size):=by
  have:=bu (s.heap.push PySem.W.emptyDict) (o:=PySem.W.instObj C s.heap.objs.size) rfl
  rwa [ik] at this
 have e3:(s.heap.push PySem.W.emptyDict).Ns s.heap.objs.size (λ_=>none):=⟨PySem.W.emptyDict,#[],_,e1,rfl,(λe he=>absurd he (by simp)),λ_=>rfl⟩;have I1:=I.laid (a:=s.heap.objs.size) (o:=.own (s.heap.objs.size+1)) (h':=s.heap.push PySem.W.emptyDict) (t':=s.toks) (λb u q=>ao _ q) (bw _) ⟨_,e1⟩;refine I1.laid (a:=s.heap.objs.size+1) (o:=.ins C s.heap.objs.size []) (t':=s.toks) (λb u q=>ao _ q) (Nat.le_of_eq (ik _ _)) ?_;have ne:s.heap.objs.size≠s.heap.objs.size+1:=du (pq _);refine⟨by rw[j9 ne,vm],j5 _,ne,e2,λ_=>none,(Heap.Ns1.of_empty e3).at λo q=>ao _ q,λ_=>True.intro,λy hy=>absurd rfl hy⟩
def at6{A:Around}{E:Y1}{prog:Program}{w:World}{env:Env}{e:Expr}{f:Str}{pos:Pos}{s:Shared}{Q:Y1}(hb:attributeBase e f env (eval e env)=eval e env)
 (h:wpAny (model prog w) A (eval e env) (λo s₁=>wpAny (model prog w) A (getAttr o f true) Q E s₁) E s):wpAny (model prog w) A (eval (.Attribute e f pos) env) Q E s :=
 Attribute_any_ h (by rw[arm_eval_Attribute,hb])
def bdx(K:Fg)(ta:TE)(f:Str):TE:=fun σ H Q=>ta σ H λx H1=>∃a C dx fs v,x=.ref a/\H1 a=some (.ins C dx fs)/\Cls K C/\Gu K C f/\fs.lookup f=some v/\Q v H1
def bdz(K:Fg)(ta tv:TE)(f:Str):TS:=λD σ H=>tv σ H λy H1=>ta σ H1 λx H2=>∃a C dx fs,x=.ref a/\H2 a=some (.ins C dx fs)/\Cls K C/\Gu K C f/\fs.length<1000 /\
 D.nx σ (upd H2 a (.ins C dx (Ig f y fs)))
def a0a{X:Cx}{e:Expr}{f:Str}{pos:Pos}{ta:TE}(he:PE X e ta)(hb:attributeBase e f X.env (eval e X.env)=eval e X.env):PE X (.Attribute e f pos) (bdx X.K ta f):=by intro pins s σ H Q I h;refine at6 hb (Bf (he pins s σ H _ I h) λu s1 ⟨x,H1,I1,rx,a,C,dx,fs,v,ex,ea,c,n,l,q⟩=>?_);subst ex;obtain rfl:u=Value.ref a:=rx;exact af5 I1 ea c n l λu' s2 I2 ru=>⟨v,H1,I2,ru,q⟩
def a0b{X:Cx}{o value:Expr}{f:Str}{pos pos':Pos}{ta tv:TE}(ha:PE X o ta)(hv:PE X value tv)(hs:swapsWith value (some (.Attribute o f pos')) pos.line X.env=pure false):PS X (.Assign [.Attribute o f pos'] value pos) (bdz X.K ta tv f):=by intro pins s σ H D I h;refine plainObj_wpAny_Assign_Attribute (Bf (hv pins s σ H _ I h) λu s1 ⟨y,H1,I1,ry,q⟩=>Bf (ha pins s1 σ H1 _ I1 q) λov s2 ⟨x,H2,I2,rx,a,C,dx,fs,ex,ea,c,n,l,q2⟩=>?_) hs;subst ex;obtain rfl:ov=Value.ref a:=rx;exact af6 I2 ea c n l ry λs3 I3=>⟨σ,_,I3,q2⟩
end L2
namespace L2
open PySem PySem.Spec PyProof.Rows
structure zr(k:Nat)(A:Around):Prop where
 hd:A.handled=none
 dp:A.depth+3*k+5<recursionLimit
 un:A.units+16*k+200<cLine
def zr.mono{j k:Nat}{A:Around}(r:zr k A)(h:j<=k):zr j A:=⟨r.hd,by have:=r.dp;lia,by have:=r.un;lia⟩
theorem zr.deeper{k:Nat}{A:Around}(r:zr (k+1) A)(env:Env):zr k (A.deeper env) :=
 ⟨r.hd,by have:=r.dp;show A.depth+1+3*k+5<_;lia,by have:=r.un;show A.units+3+16*k+200<_;lia⟩
theorem zr.in1{k:Nat}{A:Around}(r:zr (k+1) A):zr k A.in1 :=
 ⟨r.hd,by have:=r.dp;show A.depth+3*k+5<_;lia,by have:=r.un;show A.units+1+16*k+200<_;lia⟩
def af7{A:Around}{C:Addr}{us:Zl}{kw:List (Str×Value)}:(A.under (.builtin "type.__call__" ⟨.ref C::us,kw⟩)).depth=A.depth+1:=by first|rfl|simp[Around.under,Code.weight,Code.isCreation,Code.isGuard,Code.isCaller,Code.frames,Code.isFrame,guardIds]
def af8{A:Around}{C:Addr}{us:Zl}{kw:List (Str×Value)}:(A.under (.builtin "type.__call__" ⟨.ref C::us,kw⟩)).units=A.units+1:=by first|rfl|simp[Around.under,Code.cUnits,Code.frames,Code.isFrame]
def zr.make{k:Nat}{A:Around}(r:zr (k+1) A)(C:Addr)(us:Zl)(kw:List (Str×Value)):zr k (A.under (.builtin "type.__call__" ⟨.ref C::us,kw⟩)) :=
 ⟨r.hd,by have:=r.dp;rw[af7];lia,by have:=r.un;rw[af8];lia⟩
theorem zr.depth{k:Nat}{A:Around}(r:zr k A):A.depth<recursionLimit:=by have:=r.dp;lia
theorem zr.units{k:Nat}{A:Around}(r:zr k A):A.units+64<cLine:=by have:=r.un;lia
def zr.Tq{k:Nat}{A:Around}(r:zr k A):A.units<cLine:=by have:=r.un;lia
def a6x:TA:=λ_ H Q=>Q [] H
def a6y(ta:TE)(tr:TA):TA:=fun σ H Q=>ta σ H λx H1=>tr σ H1 λxs H2=>Q (x::xs) H2
def a0c{X:Cx}:PA X [] a6x:=λ_ _ _ _ H Q I h=>Calls.spliced_nil ⟨[],H,I,.nil,h⟩
def at7{X:Cx}{e:Expr}{es:Ya}{te:TE}{t:TA}(ha:PE X e te)(hr:PA X es t)(hs:starEach (e::es) X.env=(false,eval e X.env)::starEach es X.env:=by rfl):PA X (e::es) (a6y te t):=by intro pos pins s σ H Q I h;rw[hs];show wpAny _ _ (spliced ((false,eval e X.env)::backTo pos (starEach es X.env))) _ _ s;refine Calls.spliced_cons (Bf (ha pins s σ H _ I h) λu s1 ⟨x,H1,I1,r1,q1⟩=>?_);exact Bf (hr pos pins s1 σ H1 _ I1 q1) λus s2 ⟨xs,H2,I2,r2,q2⟩=>⟨x::xs,H2,I2,.cons r1 r2,q2⟩
def bd1(t:TA):TE:=fun σ H Q=>t σ H λxs H1=>xs.length<=sizeLine/\∀p,H1 p=none->Q (.ref p) (upd H1 p (.tup xs))
def bd2(t:TA):TE:=fun σ H Q=>t σ H λxs H1=>xs.length<=sizeLine/\∀p,H1 p=none->Q (.ref p) (upd H1 p (.lst xs))
def a0d{X:Cx}{es:Ya}{t:TA}{pos:Pos}{x1}(h:PA X es t):PE X (.Tuple es x1 pos) (bd1 t):=by intro pins s σ H Q I hq;refine wpAny_Tuple_spliced (Bf (h pos pins s σ H _ I hq) λus s1 ⟨xs,H1,I1,r,z,q⟩=>⟨by rw[<- r.length];exact z,?_⟩);have hf:H1 s1.heap.objs.size=none:=I1.Ad.fresh (bw _);refine⟨.ref s1.heap.objs.size,upd H1 s1.heap.objs.size (.tup xs),I1.laid (t':=s1.toks) (λb u e=>ao _ e) (bw _) ?_,rfl,q _ hf⟩;exact⟨z,us,r,Wk.new _ _⟩
def aof{X:Cx}{es:Ya}{t:TA}{pos:Pos}(h:PA X es t):PE X (.List es pos) (bd2 t):=by intro pins s σ H Q I hq;refine wpAny_List_spliced (Bf (h pos pins s σ H _ I hq) λus s1 ⟨xs,H1,I1,r,z,q⟩=>⟨by rw[<- r.length];exact z,?_⟩);have hf:H1 s1.heap.objs.size=none:=I1.Ad.fresh (bw _);refine⟨.ref s1.heap.objs.size,upd H1 s1.heap.objs.size (.lst xs),I1.laid (t':=s1.toks) (λb u e=>ao _ e) (bw _) ?_,rfl,q _ hf⟩;exact⟨z,us,0,r,bu _ rfl⟩
abbrev Sp:=List V->Hp->VK->XK->Prop
abbrev CXT:=List Env->Hp->Shared->XK->Value->Shared->Prop
structure aga(P:Program)(w:World)(K:Fg)(mg:Zs)(base:Heap)(A:Around)(outer:List Env)(s:Shared)(H:Hp):Prop where
 frames:A.frames=some outer
 mod:Mod K mg base
 bs:∀b o,base.get? b=some o->s.heap.get? b=some o/\H b=none
 bsz:base.objs.size<=s.heap.objs.size
 Vc:s.heap.FunFrames base outer
 frf:∀b∈frs outer,H b=none
 Ad:Qd P w H s.heap
 bare:AllBare s.gens
def CE(outer:List Env)(P:Program)(w:World)(H:Hp)(s:Shared)(Q:VK)(u:Value)(s':Shared):Prop :=
 ∃v H',s'.os=s.os/\AllBare s'.gens/\Un (frs outer) [] H H' s.heap s'.heap/\Qd P w H' s'.heap/\RelV v u/\Q v H'
def CR(CX:CXT)(outer:List Env)(P:Program)(w:World)(H:Hp)(s:Shared)(Q:VK)(E:XK)(r:Result)(s':Shared):Prop :=
 match r with
 |.ok (.ret u)=>CE outer P w H s Q u s'|.ok _=>False|.error e=>CX outer H s E e s'
structure Fi(P:Program)(w:World)(K:Fg)(mg:Zs)(base:Heap)(CX:CXT)(k:Nat)(f:Addr)(fd:FuncData)(ps:Yf)(sp:Sp):Prop where
 len:∀vs H Q E,sp vs H Q E->vs.length=ps.length
 run:∀(A:Around)(outer:List Env)(s:Shared)(H:Hp)(args:Args)(us:Zl)(vs:List V)(Q:VK)(E:XK),zr k A->aga P w K mg base A outer s H->BindsTo s fd args (ps.zip us)->Vals vs us->sp vs H Q E ->
  codeAny (model P w) A (.call (.ref f) args) (CR CX outer P w H s Q E) s
def Fi.imp{P:Program}{w:World}{K:Fg}{mg:Zs}{base:Heap}{CX:CXT}{k:Nat}{f:Addr}{fd:FuncData}{ps:Yf}{sp sp':Sp}(F:Fi P w K mg base CX k f fd ps sp)
 (h:∀vs H Q E,sp' vs H Q E->sp vs H Q E):Fi P w K mg base CX k f fd ps sp' :=
 ⟨λvs H Q E q=>F.len vs H Q E (h _ _ _ _ q),λA outer s H args us vs Q E hr he hb hv hs=>F.run A outer s H args us vs Q E hr he hb hv (h _ _ _ _ hs)⟩
def aga.make{P:Program}{w:World}{K:Fg}{mg:Zs}{base:Heap}{A:Around}{outer:List Env}{s:Shared}{H:Hp}(e:aga P w K mg base A outer s H)(C:Addr)(us:Zl)(kw:List (Str×Value)) :
 aga P w K mg base (A.under (.builtin "type.__call__" ⟨.ref C::us,kw⟩)) outer s H:=⟨by first|exact e.frames|(simpa[Around.under,Code.envs,Code.isFrame,pushEnvs] using e.frames),e.mod,e.bs,e.bsz,e.Vc,e.frf,e.Ad,e.bare⟩
def Inv.env0{X:Cx}{pins:Zp}{σ:St}{H:Hp}{s:Shared}(I:Inv X pins σ H s):aga X.prog X.w X.K X.mg X.base X.A X.stack s H :=
 ⟨I.ok.frames,I.ok.mod,I.bs,iu I.ok.bsz I.sz,I.stack,I.aht,I.Ad,I.bare⟩
def Inv.after{X:Cx}{pins:Zp}{σ:St}{H:Hp}{s s':Shared}{Q:VK}{u:Value}(I:Inv X pins σ H s)(h:CE X.stack X.prog X.w H s Q u s'):EP X pins σ Q u s':=by obtain⟨v,H',os,bare,un,Ad,r,q⟩:=h;obtain⟨hh,g,d,t,os'⟩:=s';obtain rfl:os'=s.os:=os;exact⟨v,H',I.call (h':=hh) (g':=g) (d':=d) (t':=t) (ch:=[]) un Ad bare (λb z=>absurd z (by simp)),r,q⟩
def a6z(sp:Sp)(Uw:List V)(E:XK)(t:TA):TE:=fun σ H Q=>t σ H λvs H1=>sp (vs++Uw) H1 Q E
def axe(C:Addr)(m:Str)(sp:Sp)(Uw:List V)(E:XK)(ta:TE)(t:TA):TE:=fun σ H Q=>ta σ H λx H1=>∃a dx fs,x=.ref a/\H1 a=some (.ins C dx fs)/\fs.lookup m=none /\
 t σ H1 λvs H2=>sp (x::(vs++Uw)) H2 Q E
def a65(C:Addr)(sp:Sp)(Uw:List V)(E:XK)(t:TA):TE:=fun σ H Q=>t σ H λvs H1=>∀x dx,H1 x=none->H1 dx=none->dx≠x ->
 sp (.ref x::(vs++Uw)) (upd (upd H1 dx (.own x)) x (.ins C dx [])) (λv H2=>v=.non/\Q (.ref x) H2) E
def Binds(K:Fg)(fd:FuncData)(ps:Yf)(ds:Zl):Prop :=
 ∀(s:Shared)(us:Zl),K.In s.heap->(us++ds).length=ps.length->BindsTo s fd ⟨us,[]⟩ (ps.zip (us++ds))
def Binds.all{K:Fg}{fd:FuncData}{ps:Yf}(h:∀us:List Value,us.length=ps.length->bindArgs fd ⟨us,[]⟩=pure (ps.zip us)):Binds K fd ps []:=λs us _ hl=>by rw[xx] at hl ⊢;exact .of_eq (h us hl)
def Passes(CX:CXT)(X:Cx)(E:XK):Prop:=∀(pins:Zp)(σ:St)(H:Hp)(s:Shared)(e:Value)(s':Shared),Inv X pins σ H s->CX X.stack H s E e s'->X.xe e s'
def agb{X:Cx}{CX:CXT}{k:Nat}{f:Addr}{fd:FuncData}{ps:Yf}{sp:Sp}{Uw:List V}{ds:Zl}{E:XK}{pins:Zp}{σ:St}{H:Hp}{s:Shared}{Q:VK}{us:Zl}{vs:List V}(F:Fi X.prog X.w X.K X.mg X.base CX k f fd ps sp)(hr:zr k X.A)(hb:Binds X.K fd ps ds)(hd:Vals Uw ds)(hx:Passes CX X E)
 (I:Inv X pins σ H s) (r:Vals vs us) (h:sp (vs++Uw) H Q E):wpAny (model X.prog X.w) X.A (call (.ref f) us) (EP X pins σ Q) X.xe s:=by
 have r2:Vals (vs++Uw) (us++ds):=r.append hd;have hl:(us++ds).length=ps.length:=by rw[<- r2.length];exact F.len _ _ _ _ h
 refine wpAny_call (vf (F.run X.A X.stack s H ⟨us,[]⟩ (us++ds) (vs++Uw) Q E hr I.env0 (hb s us I.kIn hl) r2 h) λr s' hq=>?_);cases r with
 |error e=>exact hx pins σ H s e s' I hq
 |ok fl =>
  cases fl with
  |ret u=>exact I.after hq|next=>exact False.elim hq|brk=>exact False.elim hq|cont=>exact False.elim hq
def at8{X:Cx}{CX:CXT}{k:Nat}{f:Addr}{fd:FuncData}{ps:Yf}{sp:Sp}{Uw:List V}{ds:Zl}{E:XK}{x:Str}{p pos:Pos}{e:Expr}{es:Ya}{t:TA}(F:Fi X.prog X.w X.K X.mg X.base CX k f fd ps sp)(hr:zr k X.A)(hg:Gl X x)(hm:X.mg x=some (.ref f))(hk:PySem.W.keepIn X.K (.ref f)=true)(hb:Binds X.K fd ps ds)(hd:Vals Uw ds)(hx:Passes CX X E)
 (ha:PA X (e::es) t) (Vl:(x==("__debug__" : Str))=false:=by decide) (he:starEach (e::es) X.env=(false,eval e X.env)::starEach es X.env:=by rfl) (Ib:(backTo pos (starEach es X.env)).any (·.1)=false:=by rfl) :
 PE X (.Call (.Name x p) (e::es) [] pos) (a6z sp Uw E t):=by
 intro pins s σ H Q I h;refine jm (aa2 I hg hm ?_ Vl);refine PySem.W.callWith_K (h₀:=X.base) I.ok.mod.kin hk (Bf (ha pos pins s σ H _ I h) λus s1 ⟨vs,H1,I1,r,q⟩=>⟨I1.kIn,?_⟩) he Ib;exact agb F hr hb hd hx I1 r q
def at9{X:Cx}{CX:CXT}{k:Nat}{f C:Addr}{fd:FuncData}{ps:Yf}{sp:Sp}{Uw:List V}{ds:Zl}{E:XK}{m:Str}{pos apos:Pos}{e o:Expr}{es:Ya}{ta:TE}{t:TA}{pl:Sem Bool}(he:PE X o ta)(c:Cls X.K C)(hm:Meth X.K C m f)(F:Fi X.prog X.w X.K X.mg X.base CX k f fd ps sp)(hr:zr k X.A)(hb:Binds X.K fd ps ds)(hd:Vals Uw ds)(hx:Passes CX X E)(ha:PA X (e::es) t)
 (Vh:starEach (e::es) X.env=(false,eval e X.env)::starEach es X.env:=by rfl) (Ib:(backTo pos (starEach es X.env)).any (·.1)=false:=by rfl)
 (ht:eval (.Call (.Attribute o m apos) (e::es) [] pos) X.env=(do
  let ov <- eval o X.env
  standAt apos.atName
  let (f,first) <- holding [ov] (getMethod ov m pl)
  callWith pos f first (backTo pos (starEach (e::es) X.env)) (backToKw pos (keywordEach [] X.env))):=by rfl) :
 PE X (.Call (.Attribute o m apos) (e::es) [] pos) (axe C m sp Uw E ta t):=by
 intro pins s σ H Q I h;refine PySem.W.methodCall_KW (pl:=pl) (Bf (he pins s σ H _ I h) λu s1 ⟨x,H1,I1,rx,a,dx,fs,ex,ea,l,q⟩=>?_) ht;subst ex;obtain rfl:u=Value.ref a:=rx;refine Wm I1 ea c hm l ?_;refine PySem.W.callWith_K (first:=[.ref a]) (h₀:=X.base) I.ok.mod.kin hm.kp (Bf (ha pos pins s1 σ H1 _ I1 q) λus s2 ⟨vs,H2,I2,r,q2⟩=>⟨I2.kIn,?_⟩) Vh Ib;exact agb (us:=.ref a::us) (vs:=.ref a::vs) F hr hb hd hx I2 (.cons rfl r) q2
def aog{X:Cx}{CX:CXT}{k:Nat}{f C:Addr}{fd:FuncData}{ps:Yf}{sp:Sp}{Uw:List V}{ds:Zl}{E:XK}{m:Str}{pos apos:Pos}{o:Expr}{ta:TE}{pl:Sem Bool}(he:PE X o ta)(c:Cls X.K C)(hm:Meth X.K C m f)(F:Fi X.prog X.w X.K X.mg X.base CX k f fd ps sp)(hr:zr k X.A)(hb:Binds X.K fd ps ds)(hd:Vals Uw ds)(hx:Passes CX X E)
 (ht:eval (.Call (.Attribute o m apos) [] [] pos) X.env=(do
  let ov <- eval o X.env
  standAt apos.atName
  let (f,first) <- holding [ov] (getMethod ov m pl)
  callWith pos f first (backTo pos (starEach [] X.env)) (backToKw pos (keywordEach [] X.env))):=by rfl) :
 PE X (.Call (.Attribute o m apos) [] [] pos) (axe C m sp Uw E ta a6x):=by
 intro pins s σ H Q I h;refine PySem.W.methodCall_KW (pl:=pl) (Bf (he pins s σ H _ I h) λu s1 ⟨x,H1,I1,rx,a,dx,fs,ex,ea,l,q⟩=>?_) ht;subst ex;obtain rfl:u=Value.ref a:=rx;refine Wm I1 ea c hm l ?_;exact PySem.W.callWith_K0 (first:=[.ref a]) I1.kIn hm.kp (agb (us:=[.ref a]) (vs:=[.ref a]) F hr hb hd hx I1 (.cons rfl .nil) q)
structure Mk(K:Fg)(C f:Addr):Prop where
 makes:PySem.W.makesIn K C=true
 init:PySem.W.findIn K (.ref C) "__init__" = some (some (.ref f))
 fn:PySem.W.isFn K (.ref f)=true
 kp:PySem.W.keepIn K (.ref C)=true
def aoh{X:Cx}{CX:CXT}{k:Nat}{f C:Addr}{fd:FuncData}{ps:Yf}{sp:Sp}{Uw:List V}{ds:Zl}{E:XK}{pins:Zp}{σ:St}{H:Hp}{s:Shared}{Q:VK}{us:Zl}{vs:List V}(M:Mk X.K C f)(F:Fi X.prog X.w X.K X.mg X.base CX k f fd ps sp)(hr:zr (k+1) X.A)(hb:Binds X.K fd ps ds)(hd:Vals Uw ds)
 (hx:Passes CX X E) (I:Inv X pins σ H s) (r:Vals vs us)
 (h:∀x dx,H x=none->H dx=none->dx≠x->sp (.ref x::(vs++Uw)) (upd (upd H dx (.own x)) x (.ins C dx [])) (λv H2=>v=.non/\Q (.ref x) H2) E) :
 wpAny (model X.prog X.w) X.A (call (.ref C) us) (EP X pins σ Q) X.xe s:=by
 have hq:=h (s.heap.objs.size+1) s.heap.objs.size (I.Ad.fresh (uq _)) (I.Ad.fresh (bw _)) (du (pq _));have I2:=Inv.made (C:=C) I;have r2:Vals (V.ref (s.heap.objs.size+1)::(vs++Uw)) (Value.ref (s.heap.objs.size+1)::(us++ds)):=.cons rfl (r.append hd);have hl:(Value.ref (s.heap.objs.size+1)::us++ds).length=ps.length:=by have e:=r2.length;rw[F.len _ _ _ _ hq] at e;exact e.symm
 refine wpAny_call (aoe (f:=f) I.kIn M.makes M.init (beq_iff_eq.mp M.fn) (vf (F.run _ X.stack _ _ ⟨Value.ref (s.heap.objs.size+1)::us,[]⟩ (Value.ref (s.heap.objs.size+1)::(us++ds)) _ _ E (hr.make C us [])
  (I2.env0.make C us []) (hb _ (Value.ref (s.heap.objs.size+1)::us) I2.kIn hl) r2 hq) λr s' hq'=>?_))
 cases r with
 |error e=>exact hx pins σ _ _ e s' I2 hq'
 |ok fl =>
  cases fl with
  |ret u =>
   obtain⟨v,H',I3,rv,ev,q3⟩:=I2.after hq';subst ev;exact⟨rv,⟨V.ref (s.heap.objs.size+1),H',I3,rfl,q3⟩⟩
  |next=>exact False.elim hq'|brk=>exact False.elim hq'|cont=>exact False.elim hq'
def aua{X:Cx}{CX:CXT}{k:Nat}{f C:Addr}{fd:FuncData}{ps:Yf}{sp:Sp}{Uw:List V}{ds:Zl}{E:XK}{x:Str}{p pos:Pos}{e:Expr}{es:Ya}{t:TA}(M:Mk X.K C f)(F:Fi X.prog X.w X.K X.mg X.base CX k f fd ps sp)(hr:zr (k+1) X.A)(hg:Gl X x)(hm:X.mg x=some (.ref C))(hb:Binds X.K fd ps ds)(hd:Vals Uw ds)(hx:Passes CX X E)
 (ha:PA X (e::es) t) (Vl:(x==("__debug__" : Str))=false:=by decide) (he:starEach (e::es) X.env=(false,eval e X.env)::starEach es X.env:=by rfl) (Ib:(backTo pos (starEach es X.env)).any (·.1)=false:=by rfl) :
 PE X (.Call (.Name x p) (e::es) [] pos) (a65 C sp Uw E t):=by
 intro pins s σ H Q I h;refine jm (aa2 I hg hm ?_ Vl);refine PySem.W.callWith_K (h₀:=X.base) I.ok.mod.kin M.kp (Bf (ha pos pins s σ H _ I h) λus s1 ⟨vs,H1,I1,r,q⟩=>⟨I1.kIn,?_⟩) he Ib;exact aoh M F hr hb hd hx I1 r q
structure Vm(N P:Yf)(sc:Scope):Prop where
 kind:sc.kind=.function
 co:sc.isCoroutine=false
 gen:sc.isGenerator=false
 nd:N.Nodup
 pre:N.take P.length=P
 par:∀x∈P,sc.names.lookup x=some .local\/sc.names.lookup x=some .cell
 a0e:∀y∈sc.names,y.2≠.free
theorem Y0{kindOf:Str->Option NameKind}{x:Str}:∀{binds:List (Str×Value)}{m:Zs},(∀v,(x,v)∉binds)->bindL kindOf binds m x=m x
 |[],_,_=>rfl
 |(n,v)::r,m,h=>by
  unfold bindL;rw[Y0 λw hw=>h w (bh _ hw)];split
  . have:x≠n:=by rintro rfl;exact h v dh
    simp[this]
  . rfl
theorem Y4{kindOf:Str->Option NameKind}{x:Str}:∀{binds:List (Str×Value)}{m:Zs},(∀v,(x,v)∉binds)->bindC kindOf binds m x=m x
 |[],_,_=>rfl
 |(n,v)::r,m,h=>by
  unfold bindC;rw[Y4 λw hw=>h w (bh _ hw)];split
  . rfl
  . have:x≠n:=by rintro rfl;exact h v dh
    simp[this]
theorem Y5{kindOf:Str->Option NameKind}{x:Str}{v:Value}:∀{P:Yf}{vs:Zl}{i:Nat}{m:Zs},P.Nodup->P[i]?=some x->vs[i]?=some v->kindOf x=some .local ->
 bindL kindOf (P.zip vs) m x=some v
 |[],_,_,_,_,h,_,_=>by simp at h|_::_,[],_,_,_,_,h,_=>by simp at h
 |p::P,w::vs,0,m,nd,h1,h2,hk=>by
  simp at h1 h2;subst h1;subst h2;show bindL kindOf ((p,w)::P.zip vs) m p=_;unfold bindL;rw[Y0 λv hv=>(mj.mp nd).1 (List.of_mem_zip hv).1,cz hk];simp
 |p::P,w::vs,i+1,m,nd,h1,h2,hk=>by
  show bindL kindOf ((p,w)::P.zip vs) m x=_;unfold bindL;exact Y5 (i:=i) (mj.mp nd).2 (by simpa using h1) (by simpa using h2) hk
theorem Y6{kindOf:Str->Option NameKind}{x:Str}{v:Value}:∀{P:Yf}{vs:Zl}{i:Nat}{m:Zs},P.Nodup->P[i]?=some x->vs[i]?=some v->kindOf x≠some .local ->
 bindC kindOf (P.zip vs) m x=some v
 |[],_,_,_,_,h,_,_=>by simp at h|_::_,[],_,_,_,_,h,_=>by simp at h
 |p::P,w::vs,0,m,nd,h1,h2,hk=>by
  simp at h1 h2;subst h1;subst h2;show bindC kindOf ((p,w)::P.zip vs) m p=_;unfold bindC;rw[Y4 λv hv=>(mj.mp nd).1 (List.of_mem_zip hv).1,bx hk];simp
 |p::P,w::vs,i+1,m,nd,h1,h2,hk=>by
  show bindC kindOf ((p,w)::P.zip vs) m x=_;unfold bindC;exact Y6 (i:=i) (mj.mp nd).2 (by simpa using h1) (by simpa using h2) hk
noncomputable def start(N:Yf)(vs:List V):St:=vs.map some++List.replicate (N.length-vs.length) none
noncomputable def agc(CX:CXT)(P:Program)(w:World)(K:Fg)(mg:Zs)(base:Heap)(N:Yf)(qual:Str)(scope:Scope)(f:Addr)(cd:Value)(A:Around)(outer:List Env)(s:Shared)(H:Hp)(E:XK):Cx where
 prog:=P
 w:=w
 K:=K
 mg:=mg
 base:=base
 A:=A.deeper (envOfC qual scope s.heap.objs.size f cd)
 N:=N
 s₀:=s
 H₀:=H
 env:=envOfC qual scope s.heap.objs.size f cd
 outer:=outer
 stack:=envOfC qual scope s.heap.objs.size f cd::outer
 ex:=[]
 calm:=true
 fn:=λ_=>true
 pn:=[]
 xe:=λe s'=>wpAny (model P w) (A.deeper (envOfC qual scope s.heap.objs.size f cd)) (leaving (envOfC qual scope s.heap.objs.size f cd) e) (λ_ s''=>CX outer H s E e s'') (λe' s''=>CX outer H s E e' s'') s'
def adn{sc:Scope}{n:Nat}{x:Str}(h:sc.names.lookup x=some .cell):∃c,(cellsFrom n sc.names []).lookup x=some c:=by have q:=PySem.W.cellsFrom_some sc.names n [] (.inl h);exact qj.mp q
def akc{CX:CXT}{P:Program}{w:World}{K:Fg}{mg:Zs}{base:Heap}{N ps:Yf}{qual:Str}{scope:Scope}{f:Addr}{cd:Value}{A:Around}{outer:List Env}{s s1:Shared}{H:Hp}{E:XK}{us:Zl}{vs:List V}
 (S:Vm N ps scope) (hd:A.handled=none) (e0:aga P w K mg base A outer s H) (hl:vs.length=ps.length) (r:Vals vs us)
 (x:InCallC s s.heap.objs.size (bindL (envOfC qual scope s.heap.objs.size f cd).kindOf (ps.zip us) λ_=>none) (cellsFrom (s.heap.objs.size+1) scope.names []) (bindC (envOfC qual scope s.heap.objs.size f cd).kindOf (ps.zip us) λ_=>none) s1) :
 Inv (agc CX P w K mg base N qual scope f cd A outer s H E) [] (start N vs) H s1:=by
 have Ib:ps.length<=N.length:=by have:=o7 List.length S.pre;rw[List.length_take] at this;lia
 obtain⟨h1,tk,rfl,hk⟩:=x.done;have noA:∀b:Addr,b∉(agc CX P w K mg base N qual scope f cd A outer s H E).ex:=λb z=>absurd (show b∈([]:X9) from z) (by simp)
 refine⟨⟨e0.mod,S.kind,rfl,rfl,bw _,λy z c h1 h2=>?_,λy hy=>?_,λy c _ h=>?_,λ_=>hd,Around.frames_deeper e0.frames,.inr ⟨rfl,rfl⟩,λb z=>absurd z (noA b),e0.bs,e0.bsz,λb _ _=>noA b,λb z=>absurd z (noA b),e0.Vc,e0.frf⟩,
  rfl,e0.bare,Un.kept hk,⟨_,x.toInCall.ns,λi y v h1 h2 h3=>?_⟩,λy c h=>⟨_,x.cell y c h⟩,e0.Ad.fresh (bw _),λy c h=>?_,λp hp=>absurd (show p∈([]:Zp) from hp) (by simp),e0.Ad.kept hk,?_⟩
 . exact name_of_addr x.apart (yq h1) (yq h2)
 . have hy:scope.names.lookup y=some .cell\/scope.names.lookup y=some .free:=hy
   rcases hy with hy|hy
   . exact adn hy
   . exact absurd rfl (S.a0e _ (yq hy))
 . exact Af (x.above y c (yq h))
 . have hi:i<vs.length:=by
    unfold start at h2
    by_cases hi:i<vs.length
    . exact hi
    . rw[je (by simpa using hi)] at h2
      rw[List.getElem?_replicate] at h2;split at h2<;>cases h2
   have ha:vs[i]?=some v:=by
    unfold start at h2;rw[dm (by simpa using hi),jb] at h2;cases e:vs[i]? with
    |none=>rw[e] at h2;cases h2|some a=>rw[e] at h2;cases h2;rfl
   obtain⟨u,hu,rv⟩:=r.get ha;have hp:ps[i]?=some y:=by rw[<- S.pre,List.getElem?_take_of_lt (b_ hi (f_ hl))];exact h1
   have ndP:ps.Nodup:=by rw[<- S.pre];exact S.nd.sublist (List.take_sublist _ _)
   refine⟨u,rv,?_⟩;rcases S.par y (aq hp) with k|k
   . exact .inl ⟨k,Y5 ndP hp hu k⟩
   . obtain⟨c,e⟩:=adn (n:=s.heap.objs.size+1) k
     refine .inr ⟨.inl k,c,e,?_⟩;have q:=x.cell y c e;rw[Y6 ndP hp hu (by show scope.names.lookup y≠_;rw[k];decide)] at q;exact q
 . exact e0.Ad.fresh (Af (x.above y c (yq h)))
 . unfold start
   show _=N.length;rw[ug,gm,List.length_replicate]
   lia
def a68{CX:CXT}{P:Program}{w:World}{K:Fg}{mg:Zs}{base:Heap}{k:Nat}{f:Addr}{name qual:Str}{params:Arguments}{body:List Stmt}{scope:Scope}{dV kV doc pm cdv ct oc:Value}{an od:Option Addr}
 {osl:Array (Option Value)} {N ps:Yf} {sp:Sp} (lk:K.lookup f=some ⟨oc,od,.func (PySem.W.fnOf name qual params body scope dV kV doc pm an cdv ct),osl⟩) (hcd:PySem.W.codeIn K cdv qual=true) (S:Vm N ps scope)
 (len:∀vs H Q E,sp vs H Q E->vs.length=ps.length)
 (aoi:∀(A:Around)(outer:List Env)(s:Shared)(H:Hp)(vs:List V)(Q:VK)(E:XK),zr k (A.deeper (envOfC qual scope s.heap.objs.size f cdv))->sp vs H Q E ->
  ∃t,Rk (agc CX P w K mg base N qual scope f cdv A outer s H E) body t/\t { nx:=λ_ H'=>Q .non H',rt:=Q } (start N vs) H) :
 Fi P w K mg base CX (k+1) f (PySem.W.fnOf name qual params body scope dV kV doc pm an cdv ct) ps sp:=by
 refine⟨len,λA outer s H args us vs Q E hr e0 hb r hsp=>?_⟩;have hl:=len _ _ _ _ hsp;have KX:K.In s.heap:=e0.mod.kin.keeps λb o e=>(e0.bs b o e).1
 have lim:s.heap.NoLimit:=e0.mod.nolimit.keeps λb o e=>(e0.bs b o e).1
 have a69:∀y∈ps.zip us,scope.names.lookup y.1=some .local\/(scope.names.lookup y.1=some .cell/\((cellsFrom (s.heap.objs.size+1) scope.names []).lookup y.1).isSome=true):=λ⟨n,v⟩ hy=>by
  rcases S.par n (List.of_mem_zip hy).1 with q|q
  . exact .inl q
  . exact .inr ⟨q,PySem.W.cellsFrom_some _ _ _ (.inl q)⟩
 refine codeAny_call_function hr.depth (KX _ _ lk) rfl S.co S.gen rfl (PySem.W.codeRec_of KX hcd) (hb _ _ _ _ ?_);refine wpAny_newFunctionEnv_cells S.kind a69 λenv he s1 x=>?_
 subst he;refine⟨lim.keeps x.toInCall.keep,codeAny_func ?_⟩;obtain⟨t,ht,hq⟩:=aoi A outer s H vs Q E (hr.deeper _) hsp;have I:Inv (agc CX P w K mg base N qual scope f cdv A outer s H E) [] (start N vs) H s1:=akc S hr.hd e0 hl r x;refine j7 (ht [] s1 (start N vs) H _ I hq) (λfl s' hs=>?_) λe s' hs=>hs
 have fin:∀{σ':St}{H':Hp}{v:V}{u:Value},Inv (agc CX P w K mg base N qual scope f cdv A outer s H E) [] σ' H' s'->RelV v u->Q v H'->CE outer P w H s Q u s' :=
  fun{σ' H' v u} J rv q=>⟨v,H',J.os,J.bare,J.base,J.Ad,rv,q⟩
 cases fl with
 |ret u =>
  obtain⟨v,σ',H',J,rv,q⟩:=hs;exact fin J rv q
 |next =>
  obtain⟨σ',H',J,q⟩:=hs;exact fin (v:=V.non) (u:=Value.none) J rfl q
 |brk =>
  obtain⟨_,_,_,q⟩:=hs;exact False.elim q
 |cont =>
  obtain⟨_,_,_,q⟩:=hs;exact False.elim q
end L2
namespace L2
open PySem PySem.Spec PyProof.Rows
def tCB(r:List V->Hp->VK->Prop)(t:TA):TE:=fun σ H Q=>t σ H λvs H1=>r vs H1 Q
def aoj{X:Cx}{x:Str}{p pos:Pos}{e:Expr}{es:Ya}{t:TA}{id:String}{r:List V->Hp->VK->Prop}(hc:Bk X (.builtin id) r)(hg:Gl X x)(hm:X.mg x=none)(hv:bootBuiltins x=some (.builtin id))(ha:PA X (e::es) t)(hn:x≠"__name__" := by decide)(Vl:(x==("__debug__" : Str))=false:=by decide)
 (he:starEach (e::es) X.env=(false,eval e X.env)::starEach es X.env:=by rfl) (Ib:(backTo pos (starEach es X.env)).any (·.1)=false:=by rfl):PE X (.Call (.Name x p) (e::es) [] pos) (tCB r t):=by
 intro pins s σ H Q I h;refine jm (Ff I hg hm hv ?_ hn Vl);exact PyProof.Rows.callWith_builtin1 (Bf (ha pos pins s σ H _ I h) λus s1 ⟨vs,H1,I1,r1,q1⟩=>hc pins s1 σ H1 vs us Q I1 r1 q1) he Ib
def akd{X:Cx}{x:Str}{p pos:Pos}{e:Expr}{es:Ya}{t:TA}{T:String}{r:List V->Hp->VK->Prop}(hc:Bk X (.type T) r)(hg:Gl X x)(hm:X.mg x=none)(hv:bootBuiltins x=some (.type T))(ha:PA X (e::es) t)(hn:x≠"__name__" := by decide)(Vl:(x==("__debug__" : Str))=false:=by decide)
 (he:starEach (e::es) X.env=(false,eval e X.env)::starEach es X.env:=by rfl) (Ib:(backTo pos (starEach es X.env)).any (·.1)=false:=by rfl):PE X (.Call (.Name x p) (e::es) [] pos) (tCB r t):=by
 intro pins s σ H Q I h;refine jm (Ff I hg hm hv ?_ hn Vl);exact ji (Bf (ha pos pins s σ H _ I h) λus s1 ⟨vs,H1,I1,r1,q1⟩=>hc pins s1 σ H1 vs us Q I1 r1 q1) he Ib
section
variable{κ:Type}[DecidableEq κ]
noncomputable def Rm(gw:List (κ×V))(k:κ):Option V:=(gw.find? λkv=>decide (kv.1=k)).map (·.2)
noncomputable def putK(gw:List (κ×V))(k:κ)(v:V):List (κ×V) :=
 if(gw.any λkv=>decide (kv.1=k))=true then gw.map (λkv=>if kv.1=k then(kv.1,v) else kv) else gw++[(k,v)]
def Rn{p:κ×V}(e:p.1=k):Rm (p::r) k=some p.2:=by simp[Rm,qt,e]
def Ro{p:κ×V}(e:¬p.1=k):Rm (p::r) k=Rm r k:=by simp[Rm,qt,e]
theorem ado(k:κ):∀gw:List (κ×V),(gw.any λkv=>decide (kv.1=k))=(Rm gw k).isSome
 |[]=>rfl
 |p::r=>by
  rw[List.any_cons]
  by_cases e:p.1=k
  . simp only[Rn e,decide_eq_true e,Bool.true_or,Option.isSome_some]
  . rw[Ro e,zm e,Bool.false_or];exact ado k r
def Ux(gw:List (κ×V))(k:κ)(v:V):(putK gw k v).length<=gw.length+1:=by
 unfold putK;split
 . rw[gm];exact x_
 . rw[ug,gr,List.length_nil];exact bw _
def Ma.G8(r:Ma o u):o.isSome=u.isSome:=by
 cases o with
 |none=>cases u with
  |none=>rfl|some _=>exact(show False from r).elim
 |some _=>cases u with
  |none=>exact(show False from r).elim
  |some _=>rfl
theorem Ma.getD(r:Ma o u)(rd:RelV d d'):RelV (o.getD d) (u.getD d'):=by
 cases o with
 |none=>cases u with
  |none=>exact rd|some _=>exact(show False from r).elim
 |some _=>cases u with
  |none=>exact(show False from r).elim
  |some _=>exact r
def KV.val(r:KV gw vs)(k:κ):Ma (Rm gw k) (valueAt vs k):=by
 unfold KV at r
 induction r with
 |nil=>exact True.intro
 |@cons p q ps qs h t ih =>
  obtain⟨h1,h2⟩:=h
  by_cases e:p.1=k
  . have e':q.1=k:=h1.symm.trans e
    have b:valueAt (q::qs) k=some q.2:=by simp[valueAt,qt,e']
    rw[Rn e,b];exact h2
  . have e':¬q.1=k:=λz=>e (h1.trans z)
    have b:valueAt (q::qs) k=valueAt qs k:=by simp[valueAt,qt,e']
    rw[Ro e,b];exact ih
theorem KV.any(r:KV gw vs)(k:κ):(gw.any λkv=>decide (kv.1=k))=vs.any λkv=>decide (kv.1=k):=by
 unfold KV at r
 induction r with
 |nil=>rfl|cons h t ih=>rw[List.any_cons,List.any_cons,ih,h.1]
def KV.Hw(r:KV gw vs)(k:κ)(ry:RelV y u) :
 KV (gw.map λkv=>if kv.1=k then(kv.1,y) else kv) (vs.map λkv=>if kv.1=k then(kv.1,u) else kv):=by
 unfold KV at r ⊢
 induction r with
 |nil=>exact .nil
 |@cons p q ps qs h t ih =>
  rw[ie,ie];refine .cons ?_ ih;obtain⟨h1,h2⟩:=h
  by_cases e:p.1=k
  . rw[cz e,cz (h1.symm.trans e)];exact⟨h1,ry⟩
  . rw[bx e,bx (λz=>e (h1.trans z))];exact⟨h1,h2⟩
def KV.put(r:KV gw vs)(k:κ)(ry:RelV y u):KV (putK gw k y) (stored vs k u):=by
 unfold putK stored;rw[r.any k]
 by_cases e:(vs.any λkv=>decide (kv.1=k))=true
 . rw[cz e,cz e];exact r.Hw k ry
 . rw[bx e,bx e];exact Paired.snoc r ⟨rfl,ry⟩
theorem KV.length{gw:List (κ×V)}{vs:List (κ×Value)}(r:KV gw vs):gw.length=vs.length:=Paired.length r
end
def Y7(r:RelV (kV k) u):(jh P w).is k u=true:=by
 cases k with
 |inl i=>obtain⟨t,e⟩:=(show ∃t,u=Value.int i t from r);subst e;exact adf P w i t
 |inr x=>obtain⟨t,e⟩:=(show ∃t,u=Value.str x t from r);subst e;exact adg P w x t
theorem Y8{P:Program}{w:World}:∀{ks:List Key}{us:Zl},Vals (ks.map kV) us->ItemsAre (jh P w) ks us
 |[],_,r=>by rw[List.map_nil] at r;cases r;exact .nil
 |k::ks,_,r=>by
  rw[ie] at r;cases r with
  |cons h t=>exact .cons (Y7 h) (Y8 t)
abbrev KT(H:Hp):List (List Key×V)->List (List Key×Addr×Value)->Prop:=Paired λp q=>p.1=q.1/\H q.2.1=some (.tup (p.1.map kV))/\RelV p.2 q.2.2
def KT.val(r:KT H gw xs)(k:List Key):Ma (Rm gw k) ((atKey xs k).map (·.2)):=by
 induction r with
 |nil=>exact True.intro
 |@cons p q ps qs h t ih =>
  obtain⟨h1,_,h2⟩:=h
  by_cases e:p.1=k
  . have e':q.1=k:=h1.symm.trans e
    have b:atKey (q::qs) k=some q.2:=by simp[atKey,qt,e']
    rw[Rn e,b];exact h2
  . have e':¬q.1=k:=λz=>e (h1.trans z)
    have b:atKey (q::qs) k=atKey qs k:=by simp[atKey,qt,e']
    rw[Ro e,b];exact ih
def KT.Hw(r:KT H gw xs)(k:List Key)(ry:RelV y u) :
 KT H (gw.map λkv=>if kv.1=k then(kv.1,y) else kv) (xs.map (putAt k u)):=by
 induction r with
 |nil=>exact .nil
 |@cons p q ps qs h t ih =>
  rw[ie,ie];refine .cons ?_ ih;obtain⟨h1,h2,h3⟩:=h;unfold putAt
  by_cases e:p.1=k
  . rw[cz e,cz (h1.symm.trans e)];exact⟨h1,h2,ry⟩
  . rw[bx e,bx (λz=>e (h1.trans z))];exact⟨h1,h2,h3⟩
def KT.put(r:KT H gw xs)(k:List Key)(hb:H b=some (.tup (k.map kV)))(ry:RelV y u) :
 KT H (putK gw k y) (storedH xs k b u):=by
 have e:(gw.any λkv=>decide (kv.1=k))=(atKey xs k).isSome:=by rw[ado,(r.val k).G8,Option.isSome_map]
 unfold putK storedH;rw[e]
 by_cases q:(atKey xs k).isSome=true
 . rw[cz q,cz q];exact r.Hw k ry
 . rw[bx q,bx q];exact Paired.snoc r ⟨rfl,hb,ry⟩
def KT.keeps(r:KT H gw xs)(ht:∀b ys,H b=some (.tup ys)->H' b=some (.tup ys)):KT H' gw xs :=
 Paired.ay9 r λ_ _ z=>⟨z.1,ht _ _ z.2.1,z.2.2⟩
def axg(ok:Qd P w H h)(e:Rd H a u):Be P w H h a u:=e.ok ok
def Wn(ok:Qd P w H h)(e:Rd H a (.dK gw)):gw.length<=sizeLine/\(a==sysModules)=false/\∃vs,KV gw vs/\h.DictOf (jh P w) a vs :=
 show Be P w H h a (.dK gw) from axg ok e
def a7a(ok:Qd P w H h)(e:H a=some (.dK gw)):gw.length<=sizeLine/\(a==sysModules)=false/\∃vs,KV gw vs/\h.DictOf (jh P w) a vs:=Wn ok (.inl e)
def N5(ok:Qd P w H h)(e:H a=some (.tup (ks.map kV))):(tupleKind (jh P w)).is h ks a:=by obtain⟨_,wy,r,o,h1,h2,n,h3,_⟩:=(show Be P w H h a (.tup (ks.map kV)) from ok a _ e);exact⟨o,wy.toArray,n,h1,h2,h3,by simpa using Y8 r⟩
def Y9(ok:Qd P w H h)(e:Rd H a (.dT gw)):gw.length<=sizeLine/\(a==sysModules)=false /\
 ∃xs,KT H gw xs/\h.DictOfH (tupleKind (jh P w)) a xs:=by
 obtain⟨z,y,xs,r,o,es,ep,h1,h2,h3,h4,h5⟩:=(show Be P w H h a (.dT gw) from axg ok e);refine⟨z,y,xs,r,o,es,ep,h1,h2,h3,h4,λx hx=>?_,h5⟩;have all:∀{l:List (List Key×V)}{m:List (List Key×Addr×Value)},KT H l m->∀x∈m,(tupleKind (jh P w)).is h x.1 x.2.1:=by
  intro l m q
  induction q with
  |nil=>intro x hx;exact nomatch hx
  |@cons p q ps qs hq t ih =>
   intro x hx;rcases cu.mp hx with e|hx
   . subst e
     exact N5 ok (by rw[<- hq.1];exact hq.2.1)
   . exact ih x hx
 exact all r x hx
def adp(ok:Qd P w H h)(e:H a=some (.dT gw)):gw.length<=sizeLine/\(a==sysModules)=false /\
 ∃xs,KT H gw xs/\h.DictOfH (tupleKind (jh P w)) a xs:=Y9 ok (.inl e)
def Mf(H:Hp)(a:Addr)(y:V)(r:Option V):Prop :=
 (∃gw k,Rd H a (.dK gw)/\y=kV k/\r=Rm gw k)\/∃gw k b,Rd H a (.dT gw)/\y=.ref b/\H b=some (.tup (k.map kV))/\r=Rm gw k
def agd(H:Hp)(a:Addr)(y v:V)(H':Hp):Prop :=
 (∃gw k,H a=some (.dK gw)/\y=kV k/\gw.length<sizeLine/\H'=upd H a (.dK (putK gw k v))) \/
 ∃gw k b,H a=some (.dT gw)/\y=.ref b/\H b=some (.tup (k.map kV))/\gw.length<sizeLine/\H'=upd H a (.dT (putK gw k v))
theorem Mf.k{k:Key}(e:H a=some (.dK gw)):Mf H a (kV k) (Rm gw k):=.inl ⟨gw,k,.inl e,rfl,rfl⟩
def Mf.t{k:List Key}(e:H a=some (.dT gw))(eb:H b=some (.tup (k.map kV))):Mf H a (.ref b) (Rm gw k):=.inr ⟨gw,k,b,.inl e,rfl,eb,rfl⟩
theorem agd.k{k:Key}(e:H a=some (.dK gw))(hl:gw.length<sizeLine):agd H a (kV k) v (upd H a (.dK (putK gw k v))):=.inl ⟨gw,k,e,rfl,hl,rfl⟩
def agd.t{k:List Key}(e:H a=some (.dT gw))(eb:H b=some (.tup (k.map kV)))(hl:gw.length<sizeLine) :
 agd H a (.ref b) v (upd H a (.dT (putK gw k v))):=.inr ⟨gw,k,b,e,rfl,eb,hl,rfl⟩
def Inv.big(I:Inv X pins σ H s):sysModules<s.heap.objs.size:=by
 have h:mainGlobals<s.heap.objs.size:=(I.mod.glob.keeps I.bk).lt
 exact Nat.lt_trans (by decide) h
def ake(hu:A.units+1<cLine)(I:Inv X pins σ H s)(g:Mf H a y (some v))(ry:RelV y u)(h:∀w' s',Inv X pins σ H s'->RelV v w'->Q w' s') :
 wpAny (model X.prog X.w) A (getItem (.ref a) u) Q E s:=by
 rcases g with⟨gw,k,e,ey,l⟩|⟨gw,k,b,e,ey,eb,l⟩
 . subst ey
   obtain⟨z,hd,vs,rel,dd⟩:=Wn I.Ad e;obtain⟨w',hw,rw'⟩:=Ma.some_of (v:=v) (o:=valueAt vs k) (by rw[l];exact rel.val k);exact wpAny_getItem_of (Y7 ry) dd.mapOf hw (h w' _ (I.tok _) rw')
 . subst ey
   cases(show u=Value.ref b from ry);obtain⟨z,hd,xs,rel,dd⟩:=Y9 I.Ad e;obtain⟨w',hw,rw'⟩:=Ma.some_of (v:=v) (o:=(atKey xs k).map (·.2)) (by rw[l];exact rel.val k);obtain⟨p,hp,hp2⟩:=cj.mp hw;refine wpAny_getItem_heap (vh hu) (N5 I.Ad eb) dd hp ?_;rw[hp2];exact h w' _ (I.tok _) rw'
def a7b(hu:A.units+1<cLine)(I:Inv X pins σ H s)(g:Mf H a y o)(ry:RelV y u)(h:∀s',Inv X pins σ H s'->Q (.bool o.isSome) s') :
 wpAny (model X.prog X.w) A (compareOp .In u (.ref a)) Q E s:=by
 rcases g with⟨gw,k,e,ey,l⟩|⟨gw,k,b,e,ey,eb,l⟩
 . subst ey
   obtain⟨z,hd,vs,rel,dd⟩:=Wn I.Ad e;refine wpAny_in_of (Y7 ry) hd dd.mapOf ?_;rw[<- (rel.val k).G8,<- l];exact h _ (I.tok _)
 . subst ey
   cases(show u=Value.ref b from ry);obtain⟨z,hd,xs,rel,dd⟩:=Y9 I.Ad e;refine wpAny_in_heap (vh hu) (N5 I.Ad eb) hd dd ?_;have q:=(rel.val k).G8;rw[Option.isSome_map] at q;rw[<- q,<- l];exact h _ (I.tok _)
def ahz(hu:A.units+1<cLine)(I:Inv X pins σ H s)(g:Mf H a y o)(ry:RelV y u)(h:∀s',Inv X pins σ H s'->Q (.bool (!o.isSome)) s') :
 wpAny (model X.prog X.w) A (compareOp .NotIn u (.ref a)) Q E s:=by
 rcases g with⟨gw,k,e,ey,l⟩|⟨gw,k,b,e,ey,eb,l⟩
 . subst ey
   obtain⟨z,hd,vs,rel,dd⟩:=Wn I.Ad e;refine wpAny_notIn_of (Y7 ry) hd dd.mapOf ?_;rw[<- (rel.val k).G8,<- l];exact h _ (I.tok _)
 . subst ey
   cases(show u=Value.ref b from ry);obtain⟨z,hd,xs,rel,dd⟩:=Y9 I.Ad e;refine wpAny_notIn_heap (vh hu) (N5 I.Ad eb) hd dd ?_;have q:=(rel.val k).G8;rw[Option.isSome_map] at q;rw[<- q,<- l];exact h _ (I.tok _)
def ah0(I:Inv X pins σ H s)(mu:Mut (H a))(hs:Heap.SameBut a s.heap h')(he:∃q,h'.get? a=some q)(new:Be X.prog X.w (upd H a ob) h' a ob) :
 Inv X pins σ (upd H a ob) { s with heap:=h',toks:=t' } :=
 I.write (x:=a) (e:=a) mu (.inl rfl) (λb q hb z=>(hs.2 b hb).trans z) he new
def aok(z:gw.length<=sizeLine)(hd:(a==sysModules)=false)(rel:KV gw vs)(dd:h'.DictOf (jh P w) a vs) :
 Be P w H' h' a (.dK gw):=⟨z,hd,vs,rel,dd⟩
def Za(hu:A.units+1<cLine)(I:Inv X pins σ H s)(g:agd H a y v H')(ry:RelV y u)(rv:RelV v r)(h:∀s',Inv X pins σ H' s'->Q () s') :
 wpAny (model X.prog X.w) A (setItem (.ref a) u r) Q E s:=by
 rcases g with⟨gw,k,e,ey,l,eH⟩|⟨gw,k,b,e,ey,eb,l,eH⟩
 . subst ey eH
   obtain⟨z,hd,vs,rel,dd⟩:=a7a I.Ad e;have hz:vs.length<=sizeLine:=by rw[<- rel.length];exact z
   have hl:(putK gw k v).length<=sizeLine:=by have:=Ux gw k v;exact a_ this l
   refine wpAny_setItem_pairs (hsz:=hz) (Y7 ry) dd λh' dd' hs=>h _ ?_
   have he:∃q,h'.get? a=some q:=let ⟨q,_,_,hq,_⟩:=dd';⟨q,hq⟩;exact ah0 I (by rw[e];exact True.intro) hs he (aok hl hd (rel.put k rv) dd')
 . subst ey eH
   cases(show u=Value.ref b from ry);obtain⟨z,hd,xs,rel,dd⟩:=adp I.Ad e;have hz:xs.length<=sizeLine:=by rw[<- Paired.length rel];exact z
   have hl:(putK gw k v).length<=sizeLine:=by have:=Ux gw k v;exact a_ this l
   refine wpAny_setItem_heap (hsz:=hz) (vh hu) (N5 I.Ad eb) dd λh' dd' hs=>h _ ?_
   obtain⟨q,es,ep,hq,h2,h3,h4,_,h5⟩:=dd';refine ah0 I (by rw[e];exact True.intro) hs ⟨q,hq⟩ ⟨hl,hd,_,(rel.put k eb rv).keeps λc ys ec=>?_,q,es,ep,hq,h2,h3,h4,h5⟩;rw[j9 (ani ec e (λz=>nomatch z))];exact ec
def adq(I:Inv X pins σ H s)(g:Mf H a y o):s.TypeIs (.ref a) "dict" := by
 rcases g with⟨gw,k,e,_,_⟩|⟨gw,k,b,e,_,_,_⟩
 . obtain⟨_,_,vs,_,dd⟩:=Wn I.Ad e
   exact dd.typeIs
 . obtain⟨_,_,xs,_,dd⟩:=Y9 I.Ad e
   exact dd.typeIs
def aol(h:Heap)(hb:sysModules<h.objs.size):Be P w H (h.push { cls:=.type "dict",data:=.dict #[] }) h.objs.size (.dK []) :=
 ⟨j5 _,ql.mpr (j6 (du hb)),[],.nil,Heap.DictOf.new h⟩
def aom(h:Heap)(hb:sysModules<h.objs.size):Be P w H (h.push { cls:=.type "dict",data:=.dict #[] }) h.objs.size (.dT []) :=
 ⟨j5 _,ql.mpr (j6 (du hb)),[],.nil,_,#[],0,bu _ rfl,⟨rfl,rfl,rfl⟩,rfl,rfl,xg⟩
def a0f:TE:=λ_ H Q=>∀p,H p=none->Q (.ref p) (upd H p (.dK []))
def a0g:TE:=λ_ H Q=>∀p,H p=none->Q (.ref p) (upd H p (.dT []))
def aon:PE X (.Dict [] [] pos) a0f:=λpins s σ H Q I h =>
 wpAny_Dict_empty ⟨.ref s.heap.objs.size,_,I.laid (a:=s.heap.objs.size) (o:=.dK []) (t':=s.toks) (λ_ _ q=>ao _ q) (bw _) (aol s.heap I.big),rfl,h _ (I.Ad.fresh (bw _))⟩
def aoo:PE X (.Dict [] [] pos) a0g:=λpins s σ H Q I h =>
 wpAny_Dict_empty ⟨.ref s.heap.objs.size,_,I.laid (a:=s.heap.objs.size) (o:=.dT []) (t':=s.toks) (λ_ _ q=>ao _ q) (bw _) (aom s.heap I.big),rfl,h _ (I.Ad.fresh (bw _))⟩
def aop(hu:A.units+1<cLine)(I:Inv X pins σ H s)(g:Mf H a y o)(ry:RelV y u)(rd:RelV d r)(h:∀w' s',Inv X pins σ H s'->RelV (o.getD d) w'->Q w' s') :
 wpAny (model X.prog X.w) A (call (.builtin "dict.get") [.ref a,u,r]) Q E s:=by
 rcases g with⟨gw,k,e,ey,l⟩|⟨gw,k,b,e,ey,eb,l⟩
 . subst ey
   obtain⟨z,hd,vs,rel,dd⟩:=Wn I.Ad e;refine call_meetsIn PySem.F.slot_dict_get dd.typeIs PySem.F.entry_dict_get (PySem.F.args_dict_get_3 _ _ _) (meets_dict_get_default (jh X.prog X.w) a (Y7 ry) hd r) ⟨_,dd.mapOf,h _ _ (I.tok _) ?_⟩;rw[l];exact(rel.val k).getD rd
 . subst ey
   cases(show u=Value.ref b from ry);obtain⟨z,hd,xs,rel,dd⟩:=Y9 I.Ad e;refine call_meetsIn PySem.F.slot_dict_get dd.typeIs PySem.F.entry_dict_get (PySem.F.args_dict_get_3 _ _ _) (meetsH_dict_get_default (tupleKind (jh X.prog X.w)) a b hd r) ⟨vh hu,k,xs,N5 I.Ad eb,dd,h _ _ (I.tok _) ?_⟩;rw[l];exact(rel.val k).getD rd
def aoq(I:Inv X pins σ H s)(e:Rd H a (.dK gw))(h:∀p s',H p=none->Inv X pins σ (upd H p (.dK gw)) s'->Q (.ref p) s'):wpAny (model X.prog X.w) A (call (.type "dict") [.ref a]) Q E s:=by
 obtain⟨z,hd,vs,rel,dd⟩:=Wn I.Ad e;refine kt_call_dict hd dd (by rw[<- rel.length];exact z) λh' dd' hs=>?_
 refine h _ _ (I.Ad.fresh (bw _)) (I.laid (a:=s.heap.objs.size) (o:=.dK gw) (t':=s.toks) (λb q hq=>?_) (bw _) (aok z (ql.mpr (j6 (du I.big))) rel dd'));exact(hs.2 b (du (az hq))).trans (ao _ hq)
end L2
namespace HT
open PySem PyProof.Rows
def aub(ht:IsTup s.heap t vs.toArray)(hb:IsTup s.heap b ws.toArray)(hv:vs≠[])(h1:ws=[]->Q (.ref t) s)(h2:ws≠[]->Q (.ref s.heap.objs.size) { s with heap:=s.heap.push { cls:=.type "tuple",data:=.seq (vs++ws).toArray } })(hsz:vs.length+ws.length<=sizeLine):wpAny (model prog w) A (binaryOp .Add (.ref t) (.ref b)) Q E s:=by
 obtain⟨⟨cls,dd,data,sl⟩,ho,hc,n,hd⟩:=id ht;obtain⟨⟨cls2,dd2,data2,sl2⟩,ho2,hc2,n2,hd2⟩:=id hb;simp only at hc hd hc2 hd2;subst hc hd hc2 hd2;have e:vs.toArray++ws.toArray=(vs++ws).toArray:=by simp
 by_cases hw:ws=[]
 . exact concat_meets ⟨_,ho,rfl⟩ ⟨_,ho2,rfl⟩ noFill_tuple_add seq_tuple_add PySem.F.slot_tuple_add PySem.F.entry_tuple_add (PySem.F.args_tuple_add_2 _ _)
    (tuple_addW1 t b vs.toArray ws.toArray n n2 dd dd2 sl sl2 (by simpa using hv) (by simp[hw])) ⟨ho,ho2,h1 hw⟩
 . refine concat_meets ⟨_,ho,rfl⟩ ⟨_,ho2,rfl⟩ noFill_tuple_add seq_tuple_add PySem.F.slot_tuple_add PySem.F.entry_tuple_add (PySem.F.args_tuple_add_2 _ _)
    (tuple_addW2 t b vs.toArray ws.toArray n n2 dd dd2 sl sl2 (by simpa using hv) (by simpa using hw) (by rw[dz,dz];exact hsz)) ⟨ho,ho2,?_⟩
   rw[e];exact h2 hw
noncomputable def Ge(n d:Nat):Option Int->Nat
 |none=>d|some v=>if v<0 then(v+(n:Int)).toNat else min v.toNat n
def a0h(n d:Nat)(hd:d<=n)(o:Option Int):Ge n d o<=n:=by
 cases o with
 |none=>exact hd
 |some v =>
  show(if v<0 then(v+(n:Int)).toNat else min v.toNat n)<=n
  by_cases hv:v<0
  . rw[cz hv];lia
  . rw[bx hv];exact Nat.min_le_right _ _
def ah1(v:Int)(n d:Nat):(if v<0 then max (v+(n:Int)) 0 else min v (n:Int))=((Ge n d (some v):Nat):Int):=by
 show(if v<0 then max (v+(n:Int)) 0 else min v (n:Int))=(((if v<0 then(v+(n:Int)).toNat else min v.toNat n):Nat):Int)
 by_cases hv:v<0
 . simp only[cz hv];lia
 . simp only[bx hv];lia
def age(lo hi:Option Int)(n:Nat):Builtin.Slice.sliceAdjust lo hi 1 (n:Int)=(((Ge n 0 lo:Nat):Int),((Ge n n hi:Nat):Int)):=by
 have h1:¬((1:Int)<0):=by lia
 unfold Builtin.Slice.sliceAdjust;simp only[h1,jo];refine Prod.ext ?_ ?_
 . cases lo with
   |none=>rfl|some v=>exact ah1 v n 0
 . cases hi with
   |none=>rfl|some v=>exact ah1 v n n
def agf(i j:Nat):Builtin.Slice.slicePlaces (i:Int) (j:Int) 1=j-i:=by unfold Builtin.Slice.slicePlaces;have h1:(1:Int) > 0:=m_ (by decide);simp only[h1,jy,Int.ediv_one];split<;>lia
def Wo(p:IsPart v o)(h:Q o s):wpAny (model prog w) A (Builtin.Slice.slicePartIndex v) Q E s:=by
 cases p with
 |none=>exact slicePart_none h|int i t=>exact slicePart_int h
def Tr{lo:Option Int}{n:Nat}(hs:s.heap.IsSliceOf sl vl vu .none)(pl:IsPart vl lo)(pu:IsPart vu hi)(h:Q (((Ge n 0 lo:Nat):Int),1,Ge n n hi-Ge n 0 lo) s):wpAny (model prog w) A (Builtin.Slice.sliceApplied (.ref sl) (pure (n:Int))) Q E s:=by obtain⟨os,hos,hcs,hds⟩:=id hs;unfold Builtin.Slice.sliceApplied Builtin.Slice.sliceFields;refine aa (aa (il hos hds (x:=vl) rfl (aa (il hos hds (x:=vu) rfl (aa (il hos hds (x:=.none) rfl (aj ?_)))))));refine aa (slicePart_none ?_);show wpAny _ _ (if((1:Int)==0)=true then _ else _) _ _ s;rw[bx (by decide)];refine aa (Wo pl (aa (Wo pu (aa (aj ?_)))));show wpAny _ _ (match Builtin.Slice.sliceAdjust lo hi 1 (n:Int) with|(lo,hi)=>pure (lo,(1:Int),Builtin.Slice.slicePlaces lo hi 1)) _ _ s;rw[age lo hi n];show wpAny _ _ (pure (((Ge n 0 lo:Nat):Int),(1:Int),Builtin.Slice.slicePlaces ((Ge n 0 lo:Nat):Int) ((Ge n n hi:Nat):Int) 1)) _ _ s;rw[agf];exact aj h
def aor(xs:U1)(i k:Nat):((List.range k).filterMap λ(m:Nat)=>xs[((i:Int)+(m:Int)*1).toNat]?).toArray=((xs.toList.drop i).take k).toArray:=by
 have e:(λ(m:Nat)=>xs[((i:Int)+(m:Int)*1).toNat]?)=λm=>xs[i+m]?:=by
  funext m
  have:((i:Int)+(m:Int)*1).toNat=i+m:=by lia
  rw[this]
 rw[e];have:=pick_run xs i k;rw[List.filterMap_map] at this;have e2:((λx=>xs[x]?) ∘ λx=>i+x)=λm=>xs[i+m]?:=rfl
 rw[e2] at this;rw[this]
def Rp{lo:Option Int}(ht:IsTup s.heap t items)(hs:s.heap.IsSliceOf sl vl vu .none)(pl:IsPart vl lo)(pu:IsPart vu hi)(hw:¬(Ge items.size 0 lo=0/\Ge items.size items.size hi=items.size))(h:Q (.ref s.heap.objs.size) { s with heap:=s.heap.push { cls:=.type "tuple",data:=.seq ((items.toList.drop (Ge items.size 0 lo)).take (Ge items.size items.size hi-Ge items.size 0 lo)).toArray } })(hsz:items.size<=sizeLine):wpAny (model prog w) A (getItem (.ref t) (.ref sl)) Q E s:=by
 have ah2:sizeOk (.seq ((items.toList.drop (Ge items.size 0 lo)).take (Ge items.size items.size hi-Ge items.size 0 lo)).toArray):=by
  show((items.toList.drop (Ge items.size 0 lo)).take (Ge items.size items.size hi-Ge items.size 0 lo)).toArray.size<=sizeLine
  rw[dz,List.length_take,List.length_drop,tu];omega
 have hj:Ge items.size items.size hi<=items.size:=a0h _ _ (bw _) hi
 obtain⟨os,hos,hcs,hds⟩:=id hs;have hTs:s.TypeIs (.ref sl) "slice" := ⟨os,hos,hcs⟩;unfold getItem
 try with_reducible refine ir ?_
 first|refine aa (aj ?_)|skip
 refine aa (wpAny_sequenceKey ht.typeIs (by decide) ?_);refine aa (jw (name:=Str.ofString "__getitem__") ht.typeIs yc
  (jf yc ht.typeIs entry_tuple_getitem ?_ (args_tuple_getitem _ _)))
 show wpAny _ _ (Builtin.Tuple.tupleItemsOf (.ref t) >>= _) _ _ s;refine aa (tupleItemsOf_ ht ?_);refine aa (qx hTs ?_);rw[cz (by decide)];refine aa (Tr hs pl pu ?_);have hno:¬((((Ge items.size 0 lo:Nat):Int)==0&&(1:Int)==1&&(Ge items.size items.size hi-Ge items.size 0 lo)==items.size)=true):=by intro q;rw[au,au] at q;have q1:((Ge items.size 0 lo:Nat):Int)=0:=eq_of_beq q.1.1;have q2:Ge items.size items.size hi-Ge items.size 0 lo=items.size:=eq_of_beq q.2;exact hw ⟨D_ q1,u_ hj (a_ (g_ q2) C_)⟩
 show wpAny _ _ (if(((Ge items.size 0 lo:Nat):Int)==0&&(1:Int)==1&&(Ge items.size items.size hi-Ge items.size 0 lo)==items.size)=true then _ else _) _ _ s;rw[bx hno,aor]
 first
  |exact aa (m:=Builtin.Tuple.tupleExact _) (jk (aj ⟨_,rfl,aj h⟩) ah2)
  |exact aa (m:=Builtin.Tuple.tupleExact _) (jk (aa (aj (aj ⟨_,rfl,aj h⟩))) ah2)
  |exact aa (aa (m:=Builtin.Tuple.tupleExact _) (jk (aj (aj ⟨_,rfl,aj h⟩)) ah2))
  |exact aa (aa (m:=Builtin.Tuple.tupleExact _) (jk (aj ⟨_,rfl,aj h⟩) ah2))
end HT
namespace L2
open PySem PySem.Spec PyProof.Rows
abbrev TO:=St->Hp->(Option Int->Hp->Prop)->Prop
def PO(X:Cx)(e:Option Expr)(t:TO):Prop :=
 ∀(pins:Zp)(s:Shared)(σ:St)(H:Hp)(Q:Option Int->Hp->Prop),Inv X pins σ H s->t σ H Q ->
  wpAny (model X.prog X.w) X.A (evalPart e X.env) (λu s'=>∃o H',Inv X pins σ H' s'/\IsPart u o/\Q o H') X.xe s
def auc:TO:=λ_ H Q=>Q none H
def a7d(t:TE):TO:=fun σ H Q=>t σ H λx H1=>∃i,x=.int i/\Q (some i) H1
def aud:PO X none auc:=by intro pins s σ H Q I h;rw[evalPart_none];exact aj ⟨none,H,I,.none,h⟩
def aue(h:PE X e te):PO X (some e) (a7d te):=by
 intro pins s σ H Q I hw;rw[evalPart_some];refine Bf (h pins s σ H _ I hw) λu s1 ⟨x,H1,I1,r1,q1⟩=>?_
 obtain⟨i,rfl,q⟩:=q1;obtain⟨t,rfl⟩:=r1;exact⟨some i,H1,I1,.int i t,q⟩
def SlR(X:Cx)(r:V->Option Int->Option Int->Hp->VK->Prop):Prop :=
 ∀(pins:Zp)(s:Shared)(σ:St)(H:Hp)(x:V)(v vl vu:Value)(lo hi:Option Int)(sl:Addr)(Q:VK),Inv X pins σ H s->RelV x v->s.heap.IsSliceOf sl vl vu .none->IsPart vl lo->IsPart vu hi->r x lo hi H Q ->
  ∃T id,typeLookup (.type T) "__getitem__" = pure (some (.builtin id))/\s.TypeIs v T/\wpAny (model X.prog X.w) X.A (getItem v (.ref sl)) (EP X pins σ Q) X.xe s
def SlR.or(h:SlR X r)(h':SlR X r'):SlR X (λx lo hi H Q=>r x lo hi H Q\/r' x lo hi H Q):=by
 intro pins s σ H x v vl vu lo hi sl Q I rx hs pl pu q;rcases q with q|q
 . exact h pins s σ H x v vl vu lo hi sl Q I rx hs pl pu q
 . exact h' pins s σ H x v vl vu lo hi sl Q I rx hs pl pu q
def tSl(r:V->Option Int->Option Int->Hp->VK->Prop)(te:TE)(tl th:TO):TE:=fun σ H Q=>te σ H λx H1=>tl σ H1 λl H2=>th σ H2 λu H3=>r x l u H3 Q
def aos{lo:Option Expr}(hr:SlR X r)(he:PE X e te)(hl:PO X lo tl)(hu:PO X hi th):PE X (.Subscript e (.Slice lo hi none p2) pos) (tSl r te tl th):=by
 intro pins s σ H Q I h;refine Subscript_ (Bf (he pins s σ H _ I h) λv s1 ⟨x,H1,I1,r1,q1⟩=>?_);refine wpAny_Slice (Bf (hl pins s1 σ H1 _ I1 q1) λvl s2 ⟨l,H2,I2,pl,q2⟩=>Bf (hu pins s2 σ H2 _ I2 q2) λvu s3 ⟨u,H3,I3,pu,q3⟩=>?_);rw[evalPart_none];refine aj ?_;have I4:Inv X pins σ H3 { s3 with heap:=s3.heap.push { cls:=.type "slice",data:=.fields #[vl,vu,.none] } }:=I3.kept (t':=s3.toks) λb ob q=>ao _ q
 obtain⟨T,id,hT,ht,hg⟩:=hr pins { s3 with heap:=s3.heap.push { cls:=.type "slice",data:=.fields #[vl,vu,.none] } } σ H3 x v vl vu l u s3.heap.objs.size Q I4 r1 (Heap.IsSliceOf.new ..) pl pu q3;show wpAny (model X.prog X.w) X.A (subscriptTail e (.Slice lo hi none p2) v (.ref s3.heap.objs.size)) (EP X pins σ Q) X.xe { s3 with heap:=s3.heap.push { cls:=.type "slice",data:=.fields #[vl,vu,.none] } };exact tail_any (ops:=[.ref s3.heap.objs.size,v]) ht hT hg (by with_unfolding_all rfl)
noncomputable def X7(xs:List V)(lo hi:Option Int):List V:=(xs.drop (HT.Ge xs.length 0 lo)).take (HT.Ge xs.length xs.length hi-HT.Ge xs.length 0 lo)
def Uy(xs:List V)(lo hi:Option Int):(X7 xs lo hi).length<=xs.length:=by
 unfold X7;rw[List.length_take,List.length_drop]
 lia
def bd4(K:Fg):V->Option Int->Option Int->Hp->VK->Prop:=λx lo hi H Q=>∃a xs,x=.ref a/\Jl K H a xs /\
 ¬(HT.Ge xs.length 0 lo=0/\HT.Ge xs.length xs.length hi=xs.length)/\∀p,H p=none->Q (.ref p) (upd H p (.tup (X7 xs lo hi)))
def a0i:SlR X (bd4 X.K):=by
 intro pins s σ H x v vl vu lo hi sl Q I rx hs pl pu h;obtain⟨a,xs,rfl,hx,hw,q⟩:=h;cases rx;obtain⟨wy,r,ht,hz⟩:=I.tuple hx;have hlen:wy.toArray.size=xs.length:=by rw[dz];exact r.length.symm
 refine⟨"tuple",_,yc.lookup,ht.typeIs,?_⟩;refine HT.Rp ht hs pl pu (by rw[hlen];exact hw) ?_ (by rw[hlen];exact hz);rw[hlen];refine⟨.ref s.heap.objs.size,_,I.laid (t':=s.toks) (o:=.tup (X7 xs lo hi)) (λb ob q=>ao _ q) (bw _) ?_,rfl,q _ (I.Ad.fresh (bw _))⟩;exact⟨iu (Uy xs lo hi) hz,_,(r.drop (HT.Ge xs.length 0 lo)).take (HT.Ge xs.length xs.length hi-HT.Ge xs.length 0 lo),Wk.new _ _⟩
def a7e(K:Fg):R2:=λx y H Q=>∃a b xs ys,x=.ref a/\y=.ref b/\Jl K H a xs/\Jl K H b ys/\xs≠[]/\xs.length+ys.length<=sizeLine /\
 (ys=[]->Q (.ref a) H)/\(ys≠[]->∀p,H p=none->Q (.ref p) (upd H p (.tup (xs++ys))))
def Vals.aa6(r:Vals xs us):us=[]↔xs=[]:=by
 cases r with
 |nil=>simp|cons _ _=>simp
def auf:Cr X (binaryOp .Add) (a7e X.K):=by intro pins s σ H x y v u Q I rx ry h;obtain⟨a,b,xs,ys,rfl,rfl,ha,hb,hx,hz,q1,q2⟩:=h;cases rx;cases ry;obtain⟨wy,r1,p1,_⟩:=I.tuple ha;obtain⟨akg,r2,p2,_⟩:=I.tuple hb;refine HT.aub p1 p2 (λz=>hx (r1.aa6.mp z)) (λz=>⟨.ref a,H,I,rfl,q1 (r2.aa6.mp z)⟩) (λz=>?_) (by rw[<- r1.length,<- r2.length];exact hz);refine⟨.ref s.heap.objs.size,_,I.laid (t':=s.toks) (o:=.tup (xs++ys)) (λb ob q=>ao _ q) (bw _) ?_,rfl,q2 (λw=>z (r2.aa6.mpr w)) _ (I.Ad.fresh (bw _))⟩;exact⟨by rw[ug];exact hz,_,r1.append r2,Wk.new _ _⟩
end L2
namespace L2
open PySem PySem.Spec PyProof.Rows
noncomputable def ixN(n:Nat)(i:Int):Option Nat:=if 0<=i then(if i<n then some i.toNat else none) else if -(n:Int)<=i then some (i+n).toNat else none
noncomputable def atI{α:Type}(xs:List α)(i:Int):Option α:=(ixN xs.length i).bind λj=>xs[j]?
def aa7(h:ixN n i=some j):seqIndex? i n=some j/\j<n/\-(n:Int)<=i/\i<n:=by
 unfold ixN at h
 by_cases h0:0<=i
 . rw[cz h0] at h
   by_cases h1:i<n
   . rw[cz h1] at h
     have e:i.toNat=j:=jd h;exact⟨by rw[seqIndex_of h0 h1,e],by lia,by lia,h1⟩
   . rw[bx h1] at h;cases h
 . rw[bx h0] at h
   by_cases h1:-(n:Int)<=i
   . rw[cz h1] at h
     have e:(i+n).toNat=j:=jd h;exact⟨by rw[seqIndex_neg (by lia) h1,e],by lia,h1,by lia⟩
   . rw[bx h1] at h;cases h
def ah3(h:atI xs i=some v):∃j,seqIndex? i xs.length=some j/\xs[j]?=some v/\j<xs.length/\-(xs.length:Int)<=i/\i<xs.length:=by
 unfold atI at h;cases e:ixN xs.length i with
 |none=>rw[e] at h;cases h
 |some j =>
  rw[e] at h;obtain⟨h1,h2,h3,h4⟩:=aa7 e;exact⟨j,h1,h,h2,h3,h4⟩
def aa8(b:Expr):Prop:=∀o i,subscripted b false o i=operate [o,i] (getItem o i)
def IxR(X:Cx)(r:R2):Prop :=
 ∀(value slice:Expr)(pins:Zp)(s:Shared)(σ:St)(H:Hp)(x y:V)(v u:Value)(Q:VK),Inv X pins σ H s->RelV x v->RelV y u->r x y H Q ->
  subscripted slice false v u=operate [v,u] (getItem v u)->wpAny (model X.prog X.w) X.A (subscriptTail value slice v u) (EP X pins σ Q) X.xe s
def MtR(X:Cx)(id:String)(r:V->List V->Hp->VK->Prop):Prop :=
 ∀(pins:Zp)(s:Shared)(σ:St)(H:Hp)(x:V)(xs:List V)(v:Value)(us:Zl)(Q:VK),Inv X pins σ H s->RelV x v->Vals xs us->r x xs H Q ->
  wpAny (model X.prog X.w) X.A (call (.builtin id) (v::us)) (EP X pins σ Q) X.xe s
def a7g(hr:IxR X r)(ha:PE X a ta)(hb:PE X b tb)(hs:aa8 b):PE X (.Subscript a b pos) (tOp r ta tb):=by intro pins s σ H Q I h;exact Subscript_ (az1 ha hb I h λv u s2 x y H2 I2 rx ry q=>hr a b pins s2 σ H2 x y v u Q I2 rx ry q (hs _ _))
def bd5(K:Fg):R2:=λx y H Q=>∃p xs i v,x=.ref p/\y=.int i/\Gd K H p xs/\atI xs i=some v/\Q v H
def bd6(K:Fg):R2:=λx y H Q=>∃p xs i v,x=.ref p/\y=.int i/\Jl K H p xs/\atI xs i=some v/\Q v H
def Cj:IxR X (bd5 X.K):=by
 intro value slice pins s σ H x y v u Q I rx ry h hs;obtain⟨p,xs,i,z,rfl,rfl,hq,he,q⟩:=h;cases rx;obtain⟨t,rfl⟩:=ry;obtain⟨wy,r,pl,hz⟩:=I.list hq;obtain⟨j,h1,h2,h3,h4,h5⟩:=ah3 he;obtain⟨w,ew,rw'⟩:=r.get h2;have hl:=r.length;have hn:=aa5;have fin:EP X pins σ Q w s:=⟨z,H,I,rw',q⟩
 by_cases h0:0<=i
 . have hj:i.toNat=j:=by
    rw[seqIndex_of h0 h5] at h1;exact jd h1
   exact item_listR pl.isList h0 (by lia) (by rw[hj];simpa using ew) fin hs
 . have hj:(i+(wy.toArray.size:Int)).toNat=j:=by
    rw[seqIndex_neg (by lia) h4] at h1;rw[dz,<- hl];exact jd h1
   exact subscriptTail_builtinR (x:=w) pl.isList.typeIs slot_list_getitem.lookup
    (wpAny_getItem_list_neg (Q:=λr s'=>r=w/\EP X pins σ Q r s') pl.isList (by lia) (by rw[dz]<;>lia) (by lia) (by rw[hj];simpa using ew) ⟨rfl,fin⟩) hs
def Kq:IxR X (bd6 X.K):=by
 intro value slice pins s σ H x y v u Q I rx ry h hs;obtain⟨p,xs,i,z,rfl,rfl,hq,he,q⟩:=h;cases rx;obtain⟨t,rfl⟩:=ry;obtain⟨wy,r,pl,hz⟩:=I.tuple hq;obtain⟨j,h1,h2,h3,h4,h5⟩:=ah3 he;obtain⟨w,ew,rw'⟩:=r.get h2;have hl:=r.length;have hn:=aa5;have fin:EP X pins σ Q w s:=⟨z,H,I,rw',q⟩;exact subscriptTail_builtinR (x:=w) pl.typeIs slot_tuple_getitem.lookup
  (getItem_tuple (j:=j) (Q:=λr s'=>r=w/\EP X pins σ Q r s') pl (by lia) (by lia) (by rw[dz,<- hl];exact h1) (by simpa using ew) ⟨rfl,fin⟩) hs
def agg(wy:Zl)(n j:Nat)(u:Value):Obj.mapSeq (·.setIfInBounds j u) { cls:=.type "list",data:=.seq wy.toArray n }={ cls:=.type "list",data:=.seq (wy.set j u).toArray n }:=by simp[Obj.mapSeq]
theorem Inv.lst{X:Cx}{pins:Zp}{σ:St}{H:Hp}{s:Shared}{p:Addr}{xs:List V}(I:Inv X pins σ H s)(h:H p=some (.lst xs)) :
 ∃(wy:Zl)(n:Nat),Vals xs wy/\s.heap.get? p=some { cls:=.type "list",data:=.seq wy.toArray n }/\xs.length<=sizeLine:=by
 obtain⟨z,wy,n,r,e⟩:=I.Ad p _ h;exact⟨wy,n,r,e,z⟩
def Inv.a0k{wy:Zl}(I:Inv X pins σ H s)(h:H p=some (.lst xs))(ho:s.heap.get? p=some { cls:=.type "list",data:=.seq wy.toArray n })(hf:f { cls:=.type "list",data:=.seq wy.toArray n }={ cls:=.type "list",data:=.seq its'.toArray n' })(r:Vals ys its')(hz:ys.length<=sizeLine)(t:Nat) :
 Inv X pins σ (upd H p (.lst ys)) { s with heap:=s.heap.update p f,toks:=t }:=by
 have e:(s.heap.update p f).get? p=some { cls:=.type "list",data:=.seq its'.toArray n' }:=by rw[o8 f ho (by rw[hf]<;>rfl),hf]
 refine I.write (x:=p) (e:=p) (by rw[h];trivial) (.inl rfl) (λb u hb q=>(uf _ _ (j6 hb)).trans q) ⟨_,e⟩ ?_;exact⟨hz,its',n',r,e⟩
def a7h:V->V->V->Hp->(Hp->Prop)->Prop:=λo i v H Q=>∃p xs k j,o=.ref p/\i=.int k/\H p=some (.lst xs)/\ixN xs.length k=some j/\Q (upd H p (.lst (xs.set j v)))
def set_list:azu X a7h:=by
 intro pins s σ H o i v ov iv u Q I ro ri rv h;obtain⟨p,xs,k,j,rfl,rfl,hp,hj,q⟩:=h;cases ro;obtain⟨t,rfl⟩:=ri;obtain⟨wy,n,r,ho,hz⟩:=I.lst hp;obtain⟨h1,h2,h3,h4⟩:=aa7 hj;have hl:=r.length;have hn:=aa5;have I':Inv X pins σ (upd H p (.lst (xs.set j v))) { s with heap:=s.heap.update p (Obj.mapSeq (·.setIfInBounds j u)) } :=
  I.a0k hp ho (agg wy n j u) (r.set rv j) (by rw[List.length_set];exact hz) s.toks
 by_cases h0:0<=k
 . have hk:k.toNat=j:=by
    rw[seqIndex_of h0 h4] at h1;exact jd h1
   exact PySem.W.ki_setAt ho h0 (by lia) (by rw[dz,<- hl];exact h4) (by rw[hk];exact⟨_,I',q⟩)
 . have hk:(k+(wy.toArray.size:Int)).toNat=j:=by
    rw[seqIndex_neg (by lia) h3] at h1;rw[dz,<- hl];exact jd h1
   exact PySem.W.ki_setBack ho (by lia) (by rw[dz,<- hl];exact h3) (by lia) (by rw[hk];exact⟨_,I',q⟩)
def aa9(lo hi:Option Int)(n:Nat):(sliceBounds lo hi none n).1=((HT.Ge n 0 lo:Nat):Int)/\(sliceBounds lo hi none n).2.1=((HT.Ge n n hi:Nat):Int)/\(sliceBounds lo hi none n).2.2=1:=by
 refine⟨?_,?_,rfl⟩
 . cases lo with
   |none=>simp[sliceBounds,HT.Ge]
   |some i =>
    simp only[sliceBounds,HT.Ge,Option.getD_none,show(1:Int) > 0 by decide,jy]
    by_cases h:i<0
    . simp only[h,jy]<;>lia
    . simp only[h,jo]<;>lia
 . cases hi with
   |none=>simp[sliceBounds,HT.Ge]
   |some i =>
    simp only[sliceBounds,HT.Ge,Option.getD_none,show(1:Int) > 0 by decide,jy]
    by_cases h:i<0
    . simp only[h,jy]<;>lia
    . simp only[h,jo]<;>lia
def X8(wy:Zl)(lo hi:Option Int):slicePick wy.toArray lo hi none=((wy.drop (HT.Ge wy.length 0 lo)).take (HT.Ge wy.length wy.length hi-HT.Ge wy.length 0 lo)).toArray:=by obtain⟨h1,h2,h3⟩:=aa9 lo hi wy.toArray.size;unfold slicePick;rw[h1,h2,h3];simp only[sliceRange_one,pick_run,dz]<;>rfl
def a7i(K:Fg):V->Option Int->Option Int->Hp->VK->Prop:=λx lo hi H Q=>∃a xs,x=.ref a/\Gd K H a xs/\∀p,H p=none->Q (.ref p) (upd H p (.lst (X7 xs lo hi)))
def auh:SlR X (a7i X.K):=by intro pins s σ H x v vl vu lo hi sl Q I rx hs pl pu h;obtain⟨a,xs,rfl,hx,q⟩:=h;cases rx;obtain⟨wy,r,ht,hz⟩:=I.list hx;have hlen:=r.length;refine⟨"list",_,slot_list_getitem.lookup,ht.isList.typeIs,?_⟩;refine wpAny_getItem_list_slice ht.isList hs pl pu .none (by simp) ?_ (by rw[dz]<;>exact a_ (g_ hlen) hz);rw[X8,<- hlen];refine⟨.ref s.heap.objs.size,_,I.laid (t':=s.toks) (o:=.lst (X7 xs lo hi)) (λb ob q=>ao _ q) (bw _) ?_,rfl,q _ (I.Ad.fresh (bw _))⟩;exact⟨iu (Uy xs lo hi) hz,_,0,(r.drop (HT.Ge xs.length 0 lo)).take (HT.Ge xs.length xs.length hi-HT.Ge xs.length 0 lo),bu _ rfl⟩
def aba:Bk X (.builtin "len") (λxs H Q=>∃p ys,xs=[.ref p]/\(Gd X.K H p ys\/Jl X.K H p ys)/\Q (.int ys.length) H):=by
 intro pins s σ H xs us Q I r h;obtain⟨p,ys,rfl,hq,q⟩:=h;obtain⟨u,rfl,rx⟩:=vals1 r;cases rx;have hn:=aa5;rcases hq with hq|hq
 . obtain⟨wy,r',pl,hz⟩:=I.list hq
   have hlen:=r'.length;exact Calls.call_len_list pl.isList (by simp only[dz]<;>lia) ⟨.int ys.length,H,I.tok _,⟨s.toks+1,by rw[dz,hlen]⟩,q⟩
 . obtain⟨wy,r',pl,hz⟩:=I.tuple hq
   have hlen:=r'.length;exact len_tuple pl (by simp only[dz]<;>lia) ⟨.int ys.length,H,I.tok _,⟨s.toks+1,by rw[dz,hlen]⟩,q⟩
def abb:Bk X (.type "list") (λxs H Q=>∃p ys,xs=[.ref p]/\(Gd X.K H p ys\/Jl X.K H p ys)/\∀l,H l=none->Q (.ref l) (upd H l (.lst ys))):=by
 intro pins s σ H xs us Q I r h;obtain⟨p,ys,rfl,hq,q⟩:=h;obtain⟨u,rfl,rx⟩:=vals1 r;cases rx;have fin:∀(wy:Zl),Vals ys wy->ys.length<=sizeLine->∀(h':Heap)(c':Nat),(∀b o',s.heap.get? b=some o'->h'.get? b=some o') ->
  h'.get? s.heap.objs.size=some { cls:=.type "list",dict:=none,data:=.seq wy.toArray c',slots:=#[] }->EP X pins σ Q (.ref s.heap.objs.size) { s with heap:=h' }:=λwy r' hz h' c' kp e =>
  ⟨.ref s.heap.objs.size,_,I.laid (t':=s.toks) kp (bw _) (show Be X.prog X.w _ h' _ (.lst ys) from⟨hz,wy,c',r',e⟩),rfl,q _ (I.Ad.fresh (bw _))⟩
 rcases hq with hq|hq
 . obtain⟨wy,r',pl,hz⟩:=I.list hq
   have hlen:=r'.length;obtain⟨o,ho,hc,n,hd⟩:=pl.isList;exact call_list_seq p (.inl rfl) ho hc hd (λh' c' kp e=>fin wy r' hz h' c' kp e) (by simp only[dz]<;>exact a_ (g_ hlen) hz)
 . obtain⟨wy,r',pl,hz⟩:=I.tuple hq
   have hlen:=r'.length;obtain⟨o,ho,hc,n,hd⟩:=pl;exact call_list_seq p (.inr rfl) ho hc hd (λh' c' kp e=>fin wy r' hz h' c' kp e) (by simp only[dz]<;>exact a_ (g_ hlen) hz)
def Yb:Bk X (.type "tuple") (λxs H Q=>∃p ys,xs=[.ref p]/\((Gd X.K H p ys/\∀l,H l=none->Q (.ref l) (upd H l (.tup ys)))\/(Jl X.K H p ys/\Q (.ref p) H))):=by
 intro pins s σ H xs us Q I r h;obtain⟨p,ys,rfl,h⟩:=h;obtain⟨u,rfl,rx⟩:=vals1 r;cases rx;rcases h with⟨hq,q⟩|⟨hq,q⟩
 . obtain⟨wy,r',pl,hz⟩:=I.list hq
   have hlen:=r'.length;refine call_tuple_list pl.isList (λh' kp=>?_) (by simp only[dz]<;>exact a_ (g_ hlen) hz);have I1:Inv X pins σ H { s with heap:=h' }:=I.kept (t':=s.toks) kp;have I2:Inv X pins σ (upd H h'.objs.size (.tup ys)) { s with heap:=h'.push { cls:=.type "tuple",data:=.seq wy.toArray } } :=
    I1.laid (t':=s.toks) (λb o e=>ao _ e) (bw _) (show Be X.prog X.w _ _ _ (.tup ys) from⟨hz,wy,r',Wk.new _ _⟩)
   exact⟨.ref h'.objs.size,_,I2,rfl,q _ (I1.Ad.fresh (bw _))⟩
 . obtain⟨wy,r',pl,hz⟩:=I.tuple hq
   exact call_tuple_same pl ⟨.ref p,H,I,rfl,q⟩
def tyV(K:Fg)(T:String)(x:V)(H:Hp):Prop:=match x with
 |.str _=>T = "str"|.int _=>T = "int"
 |.ref p=>(T = "list"/\∃xs,Gd K H p xs)\/(T = "tuple"/\∃o,K.lookup p=some o/\o.cls=.type "tuple"/\o.dict=none) \/
  (T = "dict"/\((∃gw,H p=some (.dK gw))\/∃gw,H p=some (.dT gw)))\/(T = "set"/\∃S n,H p=some (.set S n))
 |_=>False
def a0l(I:Inv X pins σ H s)(r:RelV x v)(ty:tyV X.K T x H) :
 s.TypeIs v T/\∀a,v=.ref a->∃ob,s.heap.get? a=some ob/\ob.dict=none:=by
 cases x with
 |str z =>
  obtain⟨t,rfl⟩:=r;cases(show T = "str" from ty);exact⟨typeIs_str s z t,λ_ e=>nomatch e⟩
 |int i =>
  obtain⟨t,rfl⟩:=r;cases(show T = "int" from ty);exact⟨typeIs_int s i t,λ_ e=>nomatch e⟩
 |ref p =>
  cases r;rcases ty with⟨rfl,xs,hq⟩|⟨rfl,o,hk,hc,hd⟩|⟨rfl,hk⟩|⟨rfl,S,n,hk⟩
  . obtain⟨wy,_,pl,_⟩:=I.list hq
    refine⟨pl.isList.typeIs,λa e=>?_⟩;cases e;obtain⟨o,n,e,c,hd,_⟩:=pl;exact⟨o,e,hd⟩
  . refine⟨⟨o,I.kIn p o hk,hc⟩,λa e=>?_⟩
    cases e;exact⟨o,I.kIn _ o hk,hd⟩
  . have z:∃o,s.heap.get? p=some o/\o.ExactDict:=by
     rcases hk with⟨gw,hk⟩|⟨gw,hk⟩
     . obtain⟨_,_,_,_,o,_,_,e,ex,_⟩:=I.Ad p _ hk
       exact⟨o,e,ex⟩
     . obtain⟨_,_,_,_,o,_,_,e,ex,_⟩:=I.Ad p _ hk
       exact⟨o,e,ex⟩
    obtain⟨o,e,ex⟩:=z;refine⟨⟨o,e,ex.1⟩,λa e2=>?_⟩;cases e2;exact⟨o,e,ex.2.1⟩
  . obtain⟨o,_,_,_,e,ex,_⟩:=I.Ad p _ hk
    refine⟨⟨o,e,ex.1⟩,λa e2=>?_⟩;cases e2;exact⟨o,e,ex.2.1⟩
 |_=>exact False.elim ty
def tBM(K:Fg)(T:String)(r:V->List V->Hp->VK->Prop)(to:TE)(t:TA):TE:=fun σ H Q=>to σ H λx H1=>tyV K T x H1/\t σ H1 λxs H2=>r x xs H2 Q
theorem a7j{id:String}(pa:PlainAttrs T)(slot:Slot T name id)(hty:typeOf (.builtin id)=pure (.type "method_descriptor"))(hm:MtR X id r)(ho:PE X o to)(ha:PA X (e::es) t)(adt:attributeBase o name X.env (eval o X.env)=eval o X.env:=by rfl)(aot:((backTo Mg (starEach (e::es) X.env)).all (λx=>!x.1)&&(backToKw Mg (keywordEach [] X.env)).all (λx=>x.1.isSome)
&&decide ((e::es).length+([]:List Keyword).length+(if([]:List Keyword).isEmpty then 0 else 1)<30))=true:=by rfl)(adu:(apos.endLine==Mg.line)=true:=by rfl)(hs:starEach (e::es) X.env=(false,eval e X.env)::starEach es X.env:=by rfl)(Wq:(backTo Mg (starEach es X.env)).any (·.1)=false:=by rfl) :
 PE X (.Call (.Attribute o name apos) (e::es) [] Mg) (tBM X.K T r to t):=by
 intro pins s σ H Q I h;refine wpAny_Call_method_late adt aot adu rfl (Bf (ho pins s σ H _ I h) λv s1 ⟨x,H1,I1,r1,ty,q1⟩=>?_);obtain⟨h1,h2⟩:=a0l I1 r1 ty;refine⟨T,id,pa,slot,hty,h1,h2,?_⟩;have hA:=ha Mg pins s1 σ H1 _ I1 q1;rw[hs] at hA ⊢;refine Calls.callWith_builtin (by show(false||(backTo Mg (starEach es X.env)).any (·.1))=false;rw[Wq]<;>rfl) (Calls.evalArgs_plain ?_);exact Bf hA λus s2 ⟨vs,H2,I2,r2,q2⟩=>hm pins s2 σ H2 x vs v us Q I2 r1 r2 q2
end L2
namespace L2
open PySem PySem.Spec PyProof.Rows
def MtM(X:Cx)(id:String)(r:V->List V->Hp->VK->Prop):Prop :=
 ∀(pins:Zp)(s:Shared)(σ:St)(H:Hp)(x:V)(xs:List V)(v:Value)(us:Zl)(Q:VK),Inv X pins σ H s->RelV x v->Vals xs us->r x xs H Q ->
  wpAny (model X.prog X.w) X.A (call (.builtin id) (v::us)) (EP X pins σ Q) X.xe s
theorem Vals.one:∀{x:V}{us:Zl},Vals [x] us->∃u,us=[u]/\RelV x u
 |_,_,.cons r .nil=>⟨_,rfl,r⟩
theorem Vals.eraseIdx:∀{xs:List V}{us:Zl}(i:Nat),Vals xs us->Vals (xs.eraseIdx i) (us.eraseIdx i)
 |_,_,_,.nil=>.nil|_,_,0,.cons _ t=>t|_,_,i+1,.cons r t=>.cons r (Vals.eraseIdx i t)
theorem Zb{α:Type}:∀(l:List α)(i:Nat),(l.eraseIdx i).length<=l.length
 |[],_=>bw _|_::_,0=>uq _|_::r,i+1=>Nat.succ_le_succ (Zb r i)
def Inv.a7k{wy:Zl}(I:Inv X pins σ H s)(hH:H l=some (.lst xs))(e:s.heap.get? l=some { cls:=.type "list",data:=.seq wy.toArray n })(hf:f wy.toArray=its'.toArray)(hv:Vals ys its')(hz:ys.length<=sizeLine) :
 Inv X pins σ (upd H l (.lst ys)) { s with heap:=s.heap.update l (Obj.mapSeq f),toks:=t' }:=by
 have q:=PySem.IsL.update e f;rw[hf] at q;refine I.write (x:=l) (e:=l) (by rw[hH];exact trivial) (.inl rfl) (λb' u hb hu=>(uf s.heap (Obj.mapSeq f) (j6 hb)).trans hu) ⟨_,q⟩ ?_;exact⟨hz,its',_,hv,q⟩
def Inv.bd7(I:Inv X pins σ H s)(hv:Vals ys wy)(hz:ys.length<=sizeLine) :
 Inv X pins σ (upd H s.heap.objs.size (.lst ys)) { s with heap:=s.heap.push { cls:=.type "list",data:=.seq wy.toArray },toks:=t' } :=
 I.laid (λ_ _ q=>ao _ q) (bw _) ⟨hz,wy,0,hv,bu _ rfl⟩
theorem Inv.fresh(I:Inv X pins σ H s):H s.heap.objs.size=none:=I.Ad.fresh (bw _)
def Inv.akh(I:Inv X pins σ H s)(hH:H l=some (.lst xs)):xs.length<=sizeLine/\∃(wy:Zl)(n:Nat),Vals xs wy/\xs.length=wy.length/\s.heap.get? l=some { cls:=.type "list",data:=.seq wy.toArray n }:=by obtain⟨z,wy,n,r,e⟩:=I.Ad l _ hH;exact⟨z,wy,n,r,r.length,e⟩
def aui:V->List V->Hp->VK->Prop:=λx vs H Q=>∃l xs y,x=.ref l/\vs=[y]/\H l=some (.lst xs)/\xs.length<sizeLine/\Q .non (upd H l (.lst (xs++[y])))
def Zc:MtM X "list.append" aui:=by intro pins s σ H x vs v us Q I rx rv h;obtain⟨l,xs,y,rfl,rfl,hH,hz,q⟩:=h;cases rx;obtain⟨u,rfl,ru⟩:=rv.one;obtain⟨z,wy,n,r,hl,e⟩:=I.akh hH;refine call_meets F.slot_list_append ⟨_,e,rfl⟩ F.entry_list_append (F.args_list_append_2 _ _) (PySem.list_append l wy.toArray n u (by rw[dz];exact e_ (c_ (g_ hl) hz))) ⟨e,?_⟩;refine⟨.non,_,I.a7k (its':=wy++[u]) hH e (by simp) (r.append (.cons ru .nil)) ?_,rfl,q⟩;rw[ug,List.length_singleton];exact hz
def a0m:V->List V->Hp->VK->Prop:=λx vs H Q=>∃l xs i k y,x=.ref l/\vs=[.int i]/\H l=some (.lst xs)/\-(2 ^ 63)<=i/\i<2 ^ 63/\seqIndex? i xs.length=some k/\xs[k]?=some y/\Q y (upd H l (.lst (xs.eraseIdx k)))
def aou:MtM X "list.pop" a0m:=by
 intro pins s σ H x vs v us Q I rx rv h;obtain⟨l,xs,i,k,y,rfl,rfl,hH,h1,h2,hk,hy,q⟩:=h;cases rx;obtain⟨u,rfl,ru⟩:=rv.one;obtain⟨t,rfl⟩:=ru;obtain⟨z,wy,n,r,hl,e⟩:=I.akh hH;obtain⟨w,hw,rw'⟩:=r.get hy;refine call_meets F.slot_list_pop ⟨_,e,rfl⟩ F.entry_list_pop (F.args_list_pop_2 _ _)
  (MeetsSeq.list_pop_at l wy.toArray n i t k w (fitsIndex_both h1 h2) (by rw[dz,<- hl];exact hk) (by rw[<- m6];exact hw) (by rw[dz];exact a_ (g_ hl) z)) ⟨e,?_⟩
 refine⟨y,_,I.a7k (its':=wy.eraseIdx k) hH e ?_ (r.eraseIdx k) ?_,rw',q⟩
 . show wy.toArray.eraseIdxIfInBounds k=(wy.eraseIdx k).toArray
   rw[List.eraseIdxIfInBounds_toArray]
 . have:=Zb xs k
   exact a_ this z
def a7l:R2:=λx y H Q=>∃l b xs zs,x=.ref l/\y=.ref b/\H l=some (.lst xs)/\H b=some (.lst zs)/\xs.length+zs.length<=sizeLine/\∀p,H p=none->Q (.ref p) (upd H p (.lst (xs++zs)))
def aov:Cr X (binaryOp .Add) a7l:=by
 intro pins s σ H x y v u Q I rx ry h;obtain⟨l,b,xs,zs,rfl,rfl,hH,hB,hz,q⟩:=h;cases rx;cases ry;obtain⟨z,wy,n,r,hl,e⟩:=I.akh hH;obtain⟨z2,akg,n2,r2,hl2,e2⟩:=I.akh hB;refine PySem.P.add_list e e2 ?_ (by rw[dz,dz];lia);have ea:wy.toArray++akg.toArray=(wy++akg).toArray:=by simp
 rw[ea];exact⟨.ref _,_,I.bd7 (t':=s.toks) (r.append r2) (by rw[ug];exact hz),rfl,q _ I.fresh⟩
end L2
namespace Att
open PySem PySem.W PySem.Calls PyProof.Rows
def Ve:∀(ns:Xs)(vs:Zl),WellAll P h vs (ns.map WData.int)->IntsAre vs ns:=by
 intro ns
 induction ns with
 |nil =>
  intro vs w;rw[List.map_nil] at w;cases w;exact .nil
 |cons n ns ih =>
  intro vs w;rw[ie] at w;cases w with
  |cons a b =>
   cases a;exact .cons _ _ (ih _ b)
def aki{l:OpenLaw}(hn:l.most=some n)(auj:l.row.toRowW.claim.pre args=true)(hwl:WellAll P h vals args) :
 ∃a vs ns,vals=[Value.ref a]/\args=[WData.list (ns.map WData.int)]/\h.get? a=some { cls:=.type "list",data:=.seq vs.toArray }/\IntsAre vs ns/\ns.length<=n:=by
 have hsh:WShape.hasAll [] args [.list .int]=true:=(pre_splitW auj).1;have hc:l.pre.holds [] { args:=args }=true:=(pre_splitW auj).2;obtain⟨d,r,rfl,h1,h2⟩:=hasAllW_cons hsh;obtain rfl:=hasAllW_nil h2;obtain⟨xs,rfl,h3⟩:=hasW_list h1;obtain⟨ns,rfl⟩:=items_int h3;have hlen:ns.length<=n:=by
  unfold OpenLaw.pre at hc;have h4:(WTm.not (.lt (.lit (.int (n:Int))) (.len (.arg 0)))).holds [] { args:=[.list (ns.map .int)] }=true:=by have h4:=(holds_andW hc).1;rw[hn] at h4;exact h4
  have h5:=condW_of h4 (w_not (w_lt w_lit (w_len_list (w_arg rfl))));rw[gm] at h5;refine Nat.le_of_not_lt λq=>?_
  have q':(n:Int)<((ns.length:Nat):Int):=m_ q
  first
   |(rw[decide_eq_true q'] at h5;exact absurd h5 (by decide))
   |(simp at h5;omega)
 cases hwl with
 |cons w1 w2 =>
  cases w2;cases w1 with
  |list ho Dl=>exact⟨_,_,ns,rfl,rfl,ho,Ve ns _ Dl,hlen⟩
def akj(l:OpenLaw)(args:List WData):l.row.toRowW.claim.post args (.bool true) args=true :=
 postW_of (r:=l.row.toRowW) (X:=(true==true))
  (show WShape.has [] (.bool true) .bool=true by first|rfl|decide|simp[WShape.has,WShape.arms,WShape.armsAll])
  (show(WTm.eq .res (.lit (.bool true))).value [] { args:=args,res:=some (.bool true),after:=args }=some (.bool (true==true)) from w_eq_bool (w_res rfl) w_lit) rfl
def adw{l:OpenLaw}(hn:l.most=some n)(hdf:d.params.defaults=[])(call:∀(w:World) (s₀ s₁:Shared) (mg mb:Zs) (fa:Addr) (o:Obj) (pm cd doc:Value) (a:Addr) (vs:Zl) (ns:Xs),
 Ground q loose [] XP w s₀ mg mb s₁.heap->YP w s₁.heap ->
 s₁.heap.get? fa=some o->o.data=.func (docDef d.name d.params d.body d.scope pm cd doc)->s₁.heap.CodeRec cd d.name->mg d.name=some (.ref fa) ->
 s₁.heap.get? a=some { cls:=.type "list",data:=.seq vs.toArray }->IntsAre vs ns->ns.length<=n->s₁.gens=#[] ->
 codeAny (model l.prog w) callerA (.call (.ref fa) ⟨[.ref a],[]⟩) (λr s'=>r=.ok (.ret (.bool true))/\OldK s₁.heap s'.heap/\s'.os=s₁.os/\AllBare s'.gens) s₁) :
 WalkO q loose XP YP l.row.toRowW d [] (λf vs=>PySem.call f vs):=by
 intro w s₀ s₁ mg mb G Y fa o pm cd doc dV kV ho hd hcd hD hmg hg args vals as auj bkd hrd hwl hlo;obtain rfl:dV=.none:=Dflts.none hD hdf;obtain rfl:kV=.none:=Dflts.noKw hD;obtain⟨a,vs,ns,rfl,rfl,a0o,hints,hlen⟩:=aki hn auj hwl;refine enter_call (vf (call w s₀ s₁ mg mb fa o pm cd doc a vs ns G Y ho (fd_plain hd) hcd hmg a0o hints hlen hg) λr s' hq=>?_);obtain⟨rfl,h2,h3,h4⟩:=hq;exact⟨.inl ⟨.bool true,.bool true,[],rfl,λ_=>rfl,.bool true,akj l _,λ_=>⟨List.Pairwise.nil,λ_ hm=>(nomatch hm)⟩⟩,h2,h3,h4⟩
end Att
namespace L2
open PySem PySem.Spec PyProof.Rows
theorem Zd:∀{vs:Zl}{ns:Xs},IntsAre vs ns->Vals (ns.map V.int) vs
 |_,_,.nil=>.nil|_,_,.cons n t h=>.cons ⟨t,rfl⟩ (Zd h)
def Only(H:Hp):Prop:=∀b,H b=none\/∃o xs,H b=some (.Qs o (.lst xs))
def aow{K:Fg}(KX:K.In s₁.heap)(hns:s₁.heap.Ns mainGlobals mg)(hb:s₁.heap.Ns builtinsNs mb)(hbb:∀x:Str,x≠"__name__" -> mb x=bootBuiltins x)(bd9:s₁.heap.NoLimit)(hg:s₁.gens=#[])(ha:s₁.heap.get? a=some { cls:=.type "list",data:=.seq vs.toArray })(hi:IntsAre vs ns)(hl:ns.length<=sizeLine)(hr:zr k callerA)(F:∀base:Heap,K.In base->base.Ns mainGlobals mg->Fi P w K mg base CX k fa fd [x] sp)(a7o:∀(s:Shared) (u:Value),BindsTo s fd ⟨[u],[]⟩ [(x,u)])(hsp:∀H:Hp,Only H->Gd K H a (ns.map V.int)->sp [.ref a] H (λv _=>v=.bl true) λ_ _ _=>False)(hCX:∀H e s',CX [] H s₁ (λ_ _ _=>False) e s'->False) :
 codeAny (model P w) callerA (.call (.ref fa) ⟨[.ref a],[]⟩) (λr s'=>r=.ok (.ret (.bool true))/\OldK s₁.heap s'.heap/\s'.os=s₁.os/\AllBare s'.gens) s₁:=by
 have rv:=Zd hi;have lenV:=hi.length;have core:∀H:Hp,Only H->Gd K H a (ns.map V.int)->Qd P w H s₁.heap->(∀b,H b≠none->b=a)->(H a≠none->K.lookup a=none) ->
  codeAny (model P w) callerA (.call (.ref fa) ⟨[.ref a],[]⟩) (λr s'=>r=.ok (.ret (.bool true))/\OldK s₁.heap s'.heap/\s'.os=s₁.os/\AllBare s'.gens) s₁:=by
  intro H hO hS Ad hA hK;have Fz:∀{b:Addr}{o:Obj},s₁.heap.get? b=some o->H b=none->(aa0 s₁.heap H).get? b=some o:=λe n=>anj e n
  have noA:∀{b:Addr}{o:Obj}{es:Array DictEntry}{ep:Nat},s₁.heap.get? b=some o->o.data=.dict es ep->H b=none:=fun{b o es ep} e d=>by
   cases q:H b with
   |none=>rfl
   |some u =>
    have e':b=a:=hA b (by rw[q];simp);subst e';rw[ha] at e;cases e;have d':Data.seq vs.toArray _=Data.dict es ep:=d;cases d'
  have nsK:∀{b:Addr}{m:Zs},s₁.heap.Ns b m->(aa0 s₁.heap H).Ns b m:=fun{b m} ⟨o,es,ep,e,d,r⟩=>⟨o,es,ep,Fz e (noA e d),d,r⟩
  have hKb:K.In (aa0 s₁.heap H):=λb o e=>Fz (KX b o e) (by
   cases q:H b with
   |none=>rfl
   |some u =>
    have e':b=a:=hA b (by rw[q];simp);subst e';rw[hK (by rw[q];simp)] at e;cases e)
  have hM:Mod K mg (aa0 s₁.heap H):=⟨hKb,nsK hns,⟨mb,nsK hb,hbb⟩,let ⟨mc,h1,h2⟩:=bd9;⟨mc,nsK h1,h2⟩⟩;have e0:aga P w K mg (aa0 s₁.heap H) callerA [] s₁ H:=⟨rfl,hM,λb o e=>atk e,Nat.le_of_eq (aj3 _ _),trivial,λb hb=>absurd (show b∈([]:X9) from hb) (by simp),Ad,.of_eq hg⟩;refine vf ((F _ hKb (nsK hns)).run callerA [] s₁ H ⟨[.ref a],[]⟩ [.ref a] [.ref a] _ _ hr e0 (a7o s₁ (.ref a)) (.cons rfl .nil) (hsp H hO hS)) λr s' h=>?_
  cases r with
  |error e=>exact(hCX H e s' h).elim
  |ok fl =>
   cases fl with
   |next=>exact False.elim h|brk=>exact False.elim h|cont=>exact False.elim h
   |ret u =>
    obtain⟨v,H',os,bare,un,beb,r',q⟩:=h;have q':v=.bl true:=q;subst q';obtain rfl:u=Value.bool true:=r';refine⟨rfl,OldK.of_keep λb o e=>?_,os,bare⟩;cases q:H b with
    |none=>exact un.keep b o e q (by intro z;exact absurd (show b∈([]:X9) from z) (by simp)) (by simp)
    |some u =>
     rcases hO b with z|⟨ob,xs,z⟩
     . rw[q] at z;cases z
     . have z2:=un.aaz b ob _ z
       obtain⟨e1,_⟩:=Ad b _ z;obtain⟨e2,_⟩:=beb b _ z2;rw[e] at e1;cases e1;exact e2
 cases hk:K.lookup a with
 |some o =>
  have e:=KX a o hk;rw[ha] at e;cases e;refine core (λ_=>none) (λ_=>.inl rfl) (.inr ⟨_,vs.toArray,_,hk,rfl,rfl,rfl,by rw[dz,lenV];exact hl,by simpa using rv⟩) (λb u z=>by have z':(none:Option HO)=some u:=z;cases z') (λb z=>absurd rfl z) λz=>absurd rfl z
 |none =>
  refine core (λb=>if b=a then some (.Qs { cls:=.type "list",data:=.seq vs.toArray } (.lst (ns.map V.int))) else none) (λb=>?_) (.inl (.inr ⟨{ cls:=.type "list",data:=.seq vs.toArray },cz rfl⟩)) (λb u z=>?_) (λb z=>?_) λ_=>hk
  . by_cases hb:b=a
    . exact .inr ⟨_,_,cz hb⟩
    . exact .inl (bx hb)
  . by_cases hb:b=a
    . have z':=(cz hb).symm.trans z
      cases z';subst hb;exact⟨ha,by rw[gm];exact hl,vs,_,rv,ha⟩
    . have z':=(bx hb).symm.trans z
      cases z'
  . by_cases hb:b=a
    . exact hb
    . exact absurd (bx hb) z
end L2
namespace L2
open PySem PySem.Spec PyProof.Rows
def auk{l:PySem.W.OpenLaw}{K:Params->Fg}{CX:World->CXT}{sp:World->Sp}(hn:l.most=some n)(hn2:n<=sizeLine)(hdf:d.params.defaults=[])(hr:zr k callerA)(hY:∀(w:World) (h:Heap),YP w h->(K w.params).In h)(F:∀(w:World) (mg:Zs) (fa:Addr) (h:Heap),(K w.params).In h->h.Ns mainGlobals mg->mg d.name=some (.ref fa) ->
 ∃fd:FuncData,(∀(s:Shared) (u:Value),BindsTo s fd ⟨[u],[]⟩ [(x,u)]) /\
  ∀base:Heap,(K w.params).In base->base.Ns mainGlobals mg->Fi l.prog w (K w.params) mg base (CX w) k fa fd [x] (sp w))(hsp:∀(w:World) (H:Hp) (a:Addr) (ns:Xs),ns.length<=n->Only H->Gd (K w.params) H a (ns.map V.int)->sp w [.ref a] H (λv _=>v=.bl true) λ_ _ _=>False)(hCX:∀(w:World) (H:Hp) (s:Shared) (e:Value) (s':Shared),CX w [] H s (λ_ _ _=>False) e s'->False) :
 PySem.W.WalkO q loose XP YP l.row.toRowW d [] (λf vs=>PySem.call f vs):=by
 refine Att.adw hn hdf λw s₀ s₁ mg mb fa o pm cd doc a vs ns G Y ho hd hcd hmg a0o hints hlen hg=>?_
 have KX:=hY w _ Y;obtain⟨fd,hb,hF⟩:=F w mg fa _ KX G.T.g hmg;exact aow KX G.T.g G.T.b G.T.builtins G.T.nolimit hg a0o hints (iu hlen hn2) hr hF hb (λH hO hS=>hsp w H a ns hlen hO hS) λH e s'=>hCX w H s₁ e s'
end L2
namespace L2
open PySem PySem.Spec PyProof.Rows
noncomputable def inClass(s:Stmt)(j:Nat):Stmt:=match s with
 |.ClassDef _ _ _ body _ _ _ _ _ _ _=>body.getD j (.Pass ⟨0,0,0,0⟩)|_=>.Pass ⟨0,0,0,0⟩
noncomputable def Iv(s:Stmt):Arguments:=match s with
 |.FunctionDef _ a _ _ _ _ _ _ _ _=>a|_=>{ posonlyargs:=[],args:=[],vararg:=none,kwonlyargs:=[],kw_defaults:=[],kwarg:=none,defaults:=[] }
noncomputable def Ga(s:Stmt):List Stmt:=match s with
 |.FunctionDef _ _ b _ _ _ _ _ _ _=>b|_=>[]
noncomputable def Ay(s:Stmt):Scope:=match s with
 |.FunctionDef _ _ _ _ _ _ sc _ _ _=>sc|_=>{ kind:=.function,names:=[],isGenerator:=false,isCoroutine:=false }
abbrev CX0:CXT:=λ_ _ _ _ _ _=>False
abbrev E0:XK:=λ_ _ _=>False
def ah5:Passes CX0 X E0:=λ_ _ _ _ _ _ _ h=>h.elim
structure Fun(K:Fg)(x qual:Str)(st:Stmt)(f:Addr)(fd:FuncData):Prop where
 ex:∃(oc:Value)(od:Option Addr)(kV doc pm:Value)(an:Option Addr)(cdv ct:Value)(osl:Array (Option Value)),
  fd=PySem.W.fnOf x qual (Iv st) (Ga st) (Ay st) .none kV doc pm an cdv ct/\K.lookup f=some ⟨oc,od,.func fd,osl⟩/\PySem.W.codeIn K cdv qual=true
 kp:PySem.W.keepIn K (.ref f)=true
def Fun.ok{K:Fg}{st:Stmt}(F:Fun K x qual st f fd)(S:Vm N ps (Ay st))(len:∀vs H Q E,sp vs H Q E->vs.length=ps.length)(aoi:∀(cdv:Value) (A:Around) (outer:List Env) (s:Shared) (H:Hp) (vs:List V) (Q:VK) (E:XK),zr k (A.deeper (envOfC qual (Ay st) s.heap.objs.size f cdv))->sp vs H Q E ->
 ∃t,Rk (agc CX0 P w K mg base N qual (Ay st) f cdv A outer s H E).nox (Ga st) t/\t { nx:=λ_ H'=>Q .non H',rt:=Q } (start N vs) H):Fi P w K mg base CX0 (k+1) f fd ps sp:=by
 obtain⟨oc,od,kV,doc,pm,an,cdv,ct,osl,rfl,lk,hcd⟩:=F.ex;refine a68 lk hcd S len λA outer s H vs Q E hr hsp=>?_
 obtain⟨t,h,q⟩:=aoi cdv A outer s H vs Q E hr hsp;exact⟨t,h.nox,q⟩
def Fun.binds{K:Fg}{st:Stmt}(F:Fun K x qual st f fd)(h:∀(kV doc pm:Value) (an:Option Addr) (cdv ct:Value) (us:Zl),us.length=ps.length->bindArgs (PySem.W.fnOf x qual (Iv st) (Ga st) (Ay st) .none kV doc pm an cdv ct) ⟨us,[]⟩=pure (ps.zip us)):Binds K fd ps []:=by obtain⟨oc,od,kV,doc,pm,an,cdv,ct,osl,rfl,lk,hcd⟩:=F.ex;exact .all (h kV doc pm an cdv ct)
def aox{K:Fg}{st:Stmt}{f:Addr}{oc:Value}{od an:Option Addr}{osl:Array (Option Value)}{kV doc pm cdv ct:Value}(l:K.lookup f=some ⟨oc,od,.func (PySem.W.fnOf x qual (Iv st) (Ga st) (Ay st) .none kV doc pm an cdv ct),osl⟩)(c:PySem.W.codeIn K cdv qual=true)(k:PySem.W.keepIn K (.ref f)=true):Fun K x qual st f (PySem.W.fnOf x qual (Iv st) (Ga st) (Ay st) .none kV doc pm an cdv ct):=⟨⟨oc,od,kV,doc,pm,an,cdv,ct,osl,rfl,l,c⟩,k⟩
def adx{A:Around}{k:Nat}(hr:zr k A):A.units+1<cLine:=Nat.lt_of_le_of_lt (Nat.add_le_add_left (by decide:1<=64) _) hr.units
end L2
namespace L2
open PySem PySem.Spec PyProof.Rows
noncomputable def Di(cells:Xt):List (Str×NameKind)->List (Str×Addr)->List (Str×Addr)
 |[],cs=>cs|(n,k)::r,cs=>Di cells r (if k==.free then(n,(cells.lookup n).getD 0)::cs else cs)
theorem Uz{α β:Type}{f:α->β->Sem (ForInStep β)}{g:α->β->β}:∀{l:List α}(c:β),(∀x∈l,∀c,f x c=pure (.yield (g x c)))->forIn l c f=pure (l.foldl (λc x=>g x c) c)
 |[],c,_=>rfl
 |x::l,c,h=>by
  rw[List.forIn_cons,h x dh,pure_bind];exact Uz (g x c) λy hy=>h y (bh _ hy)
theorem U0(cells:Xt):∀(l:X0)(cs:Xt),Di cells l cs=l.foldl (λc x=>if x.2==.free then(x.1,(cells.lookup x.1).getD 0)::c else c) cs
 |[],_=>rfl|(n,k)::r,cs=>U0 cells r _
def Wr(h:∀y∈scope.names,y.2=.free->∃c,env.cells.lookup y.1=some c):closureFor scope env=pure (Di env.cells scope.names []):=by
 simp only[closureFor];rw[Uz (g:=λx c=>if x.2==.free then(x.1,(env.cells.lookup x.1).getD 0)::c else c) [] (λx hx c=>by
  obtain⟨n,k⟩:=x
  by_cases hk:k=.free
  . subst hk
    obtain⟨c',hc⟩:=h (n,.free) hx rfl;have hc:env.cells.lookup n=some c':=hc;simp[cellOf,hc]
  . have hb:(k==NameKind.free)=false:=by simpa using hk
    simp[hb]),U0]
 rfl
theorem ady(cells:Xt):∀(l:X0)(cs:Xt)(x:Str)(c:Addr),(∀y∈l,y.2=.free->∃c,cells.lookup y.1=some c)->(Di cells l cs).lookup x=some c ->
 cs.lookup x=some c\/cells.lookup x=some c
 |[],cs,x,c,_,h=>.inl h
 |(n,k)::r,cs,x,c,hy,h=>by
  rcases ady cells r _ x c (λz hz=>hy z (bh _ hz)) h with q|q
  . by_cases hk:k=.free
    . subst hk
      simp only[yz,jy,m9] at q;cases e:x==n with
      |true =>
       rw[e] at q;obtain⟨c',hc⟩:=hy (n,.free) dh rfl;have hc:cells.lookup n=some c':=hc;simp only[hc,xf,zy] at q;subst q;rw[eq_of_beq e];exact .inr hc
      |false=>rw[e] at q;exact .inl q
    . have hb:(k==NameKind.free)=false:=by simpa using hk
      simp only[hb,dg,jo] at q;exact .inl q
  . exact .inr q
theorem Ws(cells:Xt):∀(l:X0)(cs:Xt)(x:Str),(∃c,cs.lookup x=some c)->∃c,(Di cells l cs).lookup x=some c
 |[],cs,x,h=>h
 |(n,k)::r,cs,x,h=>by
  refine Ws cells r _ x ?_
  by_cases hk:(k==NameKind.free)=true
  . rw[cz hk,m9]
    cases e:x==n with
    |true=>exact⟨_,rfl⟩|false=>exact h
  . rw[bx hk];exact h
theorem Tt(cells:Xt):∀(l:X0)(cs:Xt)(x:Str),(x,NameKind.free)∈l->∃c,(Di cells l cs).lookup x=some c
 |(n,k)::r,cs,x,h=>by
  rcases cu.mp h with q|q
  . obtain⟨rfl,rfl⟩:=Prod.mk.inj q
    refine Ws cells r _ x ⟨(cells.lookup x).getD 0,?_⟩;rw[cz (by simp),m9,yz]
  . exact Tt cells r _ x q
theorem N6{env:Env}:∀{names:X0}{x:Str},
 (names.map λ(y:Str×NameKind)=>if(y.2==NameKind.free&&env.scope.kind==.function&&env.kindOf y.1==some .cell) then(y.1,NameKind.cell) else(y.1,y.2)).lookup x
  = (names.lookup x).map λk=>if(k==NameKind.free&&env.scope.kind==.function&&env.kindOf x==some .cell) then NameKind.cell else k
 |[],_=>rfl
 |(n,k)::r,x=>by
  have ih:=@N6 env r x;rw[ie];cases hx:x==n with
  |true =>
   have e:=eq_of_beq hx;subst e;clear hx
   by_cases hc:(k==NameKind.free&&env.scope.kind==.function&&env.kindOf x==some .cell)=true
   . simp only[hc,jy,m9,yz,v8]
   . have hb:(k==NameKind.free&&env.scope.kind==.function&&env.kindOf x==some .cell)=false:=by simpa using hc
     simp only[hb,dg,jo,m9,yz,v8]
  |false =>
   by_cases hc:(k==NameKind.free&&env.scope.kind==.function&&env.kindOf n==some .cell)=true
   . simp only[hc,jy,m9,hx];exact ih
   . simp only[hc,m9,hx];simpa[m9,hx] using ih
theorem mem_of_lookup{α β:Type}[BEq α][LawfulBEq α]:∀{l:List (α×β)}{x:α}{y:β},l.lookup x=some y->(x,y)∈l
 |(a,b)::r,x,y,h=>by
  rw[m9] at h;cases e:x==a with
  |true=>rw[e] at h;cases h;rw[eq_of_beq e];exact dh|false=>rw[e] at h;exact bh _ (mem_of_lookup h)
def Dj{α:Type}{v:α}{r:List (Str×α)}:((k,v)::r).lookup x=if x=k then some v else r.lookup x:=by
 rw[m9]
 by_cases h:x=k
 . rw[cz h,show(x==k)=true from beq_iff_eq.mpr h]
 . rw[bx h,show(x==k)=false from ql.mpr h]
set_option tactic.hygienic true in
theorem ah6:∀(l:X0)(n:Nat)(acc:Xt)(x:Str)(c:Addr),(cellsFrom n l acc).lookup x=some c->((x,NameKind.cell)∈l/\n<=c)\/acc.lookup x=some c
 |[],_,_,_,_,h=>.inr h
 |(k,kd)::r,n,acc,x,c,h=>by
  unfold cellsFrom at h;split at h
  . rename_i e
    rcases ah6 r _ _ x c h with⟨q,l⟩|q
    . exact .inl ⟨bh _ q,by omega⟩
    . rw[Dj] at q
      split at q
      . rename_i z
        cases q;exact .inl ⟨by rw[z,eq_of_beq e];exact dh,bw _⟩
      . exact .inr q
  . rcases ah6 r _ _ x c h with⟨q,l⟩|q
    . exact .inl ⟨bh _ q,l⟩
    . exact .inr q
set_option tactic.hygienic true in
theorem abe:∀(l:X0)(n:Nat)(acc:Xt)(x:Str),((x,NameKind.cell)∈l\/∃c,acc.lookup x=some c)->∃c,(cellsFrom n l acc).lookup x=some c
 |[],_,_,_,h=>by rcases h with q|q;cases q;exact q
 |(k,kd)::r,n,acc,x,h=>by
  unfold cellsFrom;split
  . refine abe r _ _ x ?_
    by_cases z:x=k
    . exact .inr ⟨n,by rw[Dj,cz z]⟩
    . rcases h with q|q
      . rcases cu.mp q with q|q
        . cases q;exact absurd rfl z
        . exact .inl q
      . exact .inr (by rw[Dj,bx z];exact q)
  . rename_i e
    refine abe r _ _ x ?_;rcases h with q|q
    . rcases cu.mp q with q|q
      . cases q;exact absurd rfl e
      . exact .inl q
    . exact .inr q
set_option tactic.hygienic true in
theorem aoy:∀(l:X0)(n:Nat)(acc:Xt)(x:Str),(x,NameKind.cell)∉l->(cellsFrom n l acc).lookup x=acc.lookup x
 |[],_,_,_,_=>rfl
 |(k,kd)::r,n,acc,x,h=>by
  have h2:(x,NameKind.cell)∉r:=λq=>h (bh _ q)
  unfold cellsFrom;split
  . rename_i e
    rw[aoy r _ _ x h2,Dj,bx];intro z;exact h (by rw[z,eq_of_beq e];exact dh)
  . exact aoy r _ _ x h2
set_option tactic.hygienic true in
theorem agh:∀(l:X0)(n:Nat)(acc:Xt),(∀x c,acc.lookup x=some c->c<n)->(∀x y c,acc.lookup x=some c->acc.lookup y=some c->x=y)->∀x y c,(cellsFrom n l acc).lookup x=some c->(cellsFrom n l acc).lookup y=some c->x=y
 |[],_,_,_,h=>h
 |(k,kd)::r,n,acc,lt,h=>by
  unfold cellsFrom;split
  . refine agh r _ _ (λx c q=>?_) (λx y c q1 q2=>?_)
    . rw[Dj] at q
      split at q
      . cases q;exact pq n
      . exact qb (lt x c q)
    . rw[Dj] at q1 q2
      split at q1<;>split at q2
      . rename_i a b;rw[a,b]
      . cases q1;exact absurd (lt y _ q2) (nq _)
      . cases q2;exact absurd (lt x _ q1) (nq _)
      . exact h x y c q1 q2
  . exact agh r _ _ lt h
set_option tactic.hygienic true in
theorem abf:∀(l:X0)(h:Heap)(acc:Xt),(∀x c,acc.lookup x=some c->∃v,h.IsCell c v)->∀x c,(cellsFrom h.objs.size l acc).lookup x=some c->∃v,(pushCells h l).IsCell c v
 |[],_,_,k,x,c,q=>k x c q
 |(n,kd)::r,h,acc,k,x,c,q=>by
  unfold cellsFrom at q;unfold pushCells;split at q
  . rename_i e
    rw[cz e];have sz:(h.push { cls:=.type "cell",data:=.cell none }).objs.size=h.objs.size+1:=ik _ _;rw[<- sz] at q;refine abf r _ _ (λx c q=>?_) x c q;rw[Dj] at q;split at q
    . cases q;exact⟨none,_,bu _ rfl,rfl⟩
    . obtain⟨v,hv⟩:=k x c q
      exact⟨v,hv.keeps λb o e=>ao _ e⟩
  . rename_i e
    rw[bx e];exact abf r _ _ k x c q
set_option tactic.hygienic true in
theorem Wt(cells:Xt):∀(l:X0)(cs:Xt)(x:Str)(c:Addr),(Di cells l cs).lookup x=some c->(x,NameKind.free)∈l\/cs.lookup x=some c
 |[],_,_,_,h=>.inr h
 |(k,kd)::r,cs,x,c,h=>by
  unfold Di at h;rcases Wt cells r _ x c h with q|q
  . exact .inl (bh _ q)
  . split at q
    . rename_i e
      rw[Dj] at q;split at q
      . rename_i z
        exact .inl (by rw[z,eq_of_beq e];exact dh)
      . exact .inr q
    . exact .inr q
def akk(h:Q { scope:=scope,locals:=s.heap.objs.size,globals:=globals,cells:=cellsFrom (s.heap.objs.size+1) scope.names cl,qual:=qual,func:=none,code:=around.code,frame:=around.frame,builtins:=around.builtins } { s with heap:=pushCells (s.heap.push { cls:=.type "dict",data:=.dict #[] }) scope.names }) :
 wpAny M A (newFunctionEnv scope globals cl [] qual none .none (some around)) Q E s:=by
 simp only[newFunctionEnv,Option.isSome_some,jy];refine aa (wpAny_alloc ?_);refine aa (wpAny_layCells _ (λname kind cells=>by cases hkc:kind==NameKind.cell<;>simp[hkc]) _ _ _ _ ?_);rw[show({ s with heap:=s.heap.push { cls:=.type "dict",data:=.dict #[] } }:Shared).heap.objs.size=s.heap.objs.size+1 from ik ..];exact aa (aj (aj h))
noncomputable def Mi(X:Cx)(N:Yf)(scope:Scope)(C:Addr)(fp:X9)(s:Shared)(H:Hp):Cx where
 prog:=X.prog
 w:=X.w
 K:=X.K
 mg:=X.mg
 base:=X.base
 A:=X.A
 N:=N
 s₀:=s
 H₀:=H
 env:=compEnvC scope (cellsFrom (C+1) scope.names (Di X.env.cells scope.names [])) C X.env
 outer:=X.stack
 stack:=X.stack
 ex:=fp
 fn:=λx=>scope.names.lookup x==some .cell
 calm:=X.calm
 pn:=[]
 xe:=λ_ _=>False
structure Eh(X:Cx)(N:Yf)(scope:Scope):Prop where
 kind:scope.kind=.function
 locs:∀y∈scope.names,y.2=.local->scope.names.lookup y.1=some .local
 frees:∀y∈scope.names,y.2=.free->X.env.kindOf y.1=some .cell\/X.env.kindOf y.1=some .free
 uniq:∀x k,(x,k)∈scope.names->scope.names.lookup x=some k
 long:X.N.length<=N.length
 vis:∀i x,i<X.N.length->N[i]?=some x->Vis (relabel scope X.env) x->X.N[i]?=some x/\scope.names.lookup x=some .free
theorem Eh.cells(B:Eh X N scope)(ok:X.Ok):∀y∈scope.names,y.2=.free->∃c,X.env.cells.lookup y.1=some c:=λy hy hk=>ok.has y.1 (B.frees y hy hk)
def Eh.clos(B:Eh X N scope)(ok:X.Ok):closureFor scope X.env=pure (Di X.env.cells scope.names []):=Wr (B.cells ok)
def Eh.inCells(B:Eh X N scope)(ok:X.Ok)(h:(Di X.env.cells scope.names []).lookup x=some c):X.env.cells.lookup x=some c:=by
 rcases ady _ _ _ _ _ (B.cells ok) h with q|q
 . simp at q
 . exact q
def adz{X:Cx}(x:Str):(compEnvC scope cl C X.env).kindOf x=(scope.names.lookup x).map λk=>if(k==NameKind.free&&X.env.scope.kind==.function&&X.env.kindOf x==some .cell) then NameKind.cell else k:=by show(relabel scope X.env).names.lookup x=_;exact N6
def Eh.agi(B:Eh X N scope)(ok:X.Ok)(h:(cellsFrom (C+1) scope.names (Di X.env.cells scope.names [])).lookup x=some c):(scope.names.lookup x=some .cell/\C+1<=c)\/X.env.cells.lookup x=some c:=by
 rcases ah6 _ _ _ _ _ h with⟨q,l⟩|q
 . exact .inl ⟨B.uniq _ _ q,l⟩
 . exact .inr (B.inCells ok q)
def akl(B:Eh X N scope)(I:Inv X pins σ H s)(hf:∀b∈fp,Vd X pins H b)(hfo:∀b∈fp,∃o,s.heap.get? b=some o)(hns:h₁.Ns (s.heap.objs.size+1) λ_=>none)(hk:∀b o,s.heap.get? b=some o->h₁.get? b=some o)(Ek:h₁.get? s.heap.objs.size=some { cls:=.type "list",data:=.seq ([]:Zl).toArray })(hcl:∀x c,(cellsFrom (s.heap.objs.size+1+1) scope.names (Di X.env.cells scope.names [])).lookup x=some c->∃v,h₁.IsCell c v) :
 Inv (Mi X N scope (s.heap.objs.size+1) fp s H) [] (σ++List.replicate (N.length-X.N.length) none) (upd H s.heap.objs.size (.lst [])) { s with heap:=h₁,toks:=t }:=by
 have ok:=I.ok;have hD:H s.heap.objs.size=none:=I.Ad.fresh (bw _);have hC:H (s.heap.objs.size+1)=none:=I.Ad.fresh (uq _);have hCD:s.heap.objs.size+1≠s.heap.objs.size:=Nat.succ_ne_self _;have lt:∀b∈fp,b<s.heap.objs.size:=λb hb=>by obtain⟨o,e⟩:=hfo b hb;exact az e
 have clt:∀x c,X.env.cells.lookup x=some c->c<s.heap.objs.size:=λx c e=>by obtain⟨v,o,ho,_⟩:=I.cell x c e;exact az ho
 refine⟨⟨ok.mod,B.kind,ok.glob,ok.blt,uq _,?_,?_,?_,ok.hd,ok.frames,.inl rfl,?_,λb o e=>I.bs b o e,iu ok.bsz I.sz,?_,?_,I.stack,I.aht⟩,rfl,I.bare,?_,?_,?_,?_,?_,?_,?_,?_⟩
 . intro x y c hx hy
   refine agh scope.names (s.heap.objs.size+1+1) (Di X.env.cells scope.names []) (λx c q=>?_) (λx y c q1 q2=>ok.inj x y c (B.inCells ok q1) (B.inCells ok q2)) x y c hx hy;exact qb (qb (clt x c (B.inCells ok q)))
 . intro x hx
   rw[show(Mi X N scope (s.heap.objs.size+1) fp s H).env.kindOf x=_ from adz x] at hx;cases e:scope.names.lookup x with
   |none=>rw[e] at hx;rcases hx with q|q<;>simp at q
   |some k =>
    have Qe:k=.free\/k=.cell:=by
     rw[e] at hx;cases k with
     |free=>exact .inl rfl|cell=>exact .inr rfl|«local»=>rcases hx with q|q<;>simp at q
     |globalExplicit=>rcases hx with q|q<;>simp at q
     |globalImplicit=>rcases hx with q|q<;>simp at q
    rcases Qe with rfl|rfl
    . exact abe _ _ _ _ (.inr (Tt _ _ _ _ (mem_of_lookup e)))
    . exact abe _ _ _ _ (.inl (mem_of_lookup e))
 . intro x c h hc
   have h:scope.names.lookup x=some .cell:=eq_of_beq h;show s.heap.objs.size<=c
   rcases ah6 _ _ _ _ _ hc with⟨_,l⟩|q
   . exact iu (w6 _ 2) l
   . rcases Wt _ _ _ _ _ q with z|z
     . rw[B.uniq _ _ z] at h;cases h
     . cases z
 . intro b hb
   refine⟨λe=>?_,λx c hc e=>?_⟩
   . have q:=lt b hb
     have e:b=s.heap.objs.size+1:=e;rw[e] at q;exact absurd q (Nat.not_lt.mpr (uq _))
   . obtain⟨_,_,_,_,f4,_⟩:=hf b hb
     rcases B.agi ok hc with⟨_,l⟩|hc
     . have q:=lt b hb
       rw[<- e] at q;exact absurd (gq (qb (qb q)) l) (nq _)
     . exact f4 x c hc e
 . intro b o e hb
   obtain⟨_,_,_,f3,_⟩:=hf b hb;rcases f3 with q|q
   . exact ok.anl b o e q
   . exact nq _ (gq (az e) (iu ok.bsz q))
 . intro b hb q
   obtain⟨_,f1,f2,_⟩:=hf b hb;rcases cu.mp (I.aa1 b q) with z|z
   . exact f1 z
   . exact f2 z
 . exact Un.laid hk (bw _) hD
 . refine⟨_,hns,λi x v hN hσ hv=>?_⟩
   have hi:i<X.N.length:=by
    rcases Bb i σ.length with q|q
    . rw[I.len] at q;exact q
    . rw[je q] at hσ
      rw[List.getElem?_replicate] at hσ;split at hσ<;>simp at hσ
   rw[dm (by rw[I.len];exact hi)] at hσ;obtain⟨hx,Qe⟩:=B.vis i x hi hN hv;obtain⟨m,_,hl⟩:=I.loc;have hkx:=B.frees _ (mem_of_lookup Qe) rfl;have hvx:Vis X.env.scope x:=by
    rcases hkx with q|q
    . exact .inr (.inl q)
    . exact .inr (.inr q)
   obtain⟨u,ru,lu⟩:=hl i x v hx hσ hvx;refine⟨u,ru,.inr ⟨?_,?_⟩⟩
   . rw[show(Mi X N scope (s.heap.objs.size+1) fp s H).env.kindOf x=_ from adz x,Qe]
     simp only[v8];split
     . exact .inl rfl
     . exact .inr rfl
   . rcases lu with⟨q,_⟩|⟨_,c,hc,ic⟩
     . rcases hkx with z|z<;>rw[q] at z<;>cases z
     . obtain⟨c',hc'⟩:=Tt X.env.cells scope.names [] x (mem_of_lookup Qe)
       have:=B.inCells ok hc';rw[hc] at this;cases this;refine⟨c,?_,ic.keeps hk⟩;show(cellsFrom (s.heap.objs.size+1+1) scope.names (Di X.env.cells scope.names [])).lookup x=some c;rw[aoy _ _ _ _ λz=>by rw[B.uniq _ _ z] at Qe;cases Qe];exact hc'
 . exact hcl
 . show upd H s.heap.objs.size (.lst []) (s.heap.objs.size+1)=none
   rw[j9 hCD];exact hC
 . intro x c hc
   rcases B.agi ok hc with⟨_,l⟩|hc'
   . have l:s.heap.objs.size+1+1<=c:=l
     rw[j9 (u0 (gq (qb (pq _)) l))];exact I.Ad.fresh (iu (w6 _ 2) l)
   . rw[j9 (du (clt x c hc'))]
     exact I.Nx x c hc'
 . intro p hp;simp[Mi] at hp
 . exact Qd.laid I.Ad hk (bw _) ⟨j5 _,[],0,.nil,Ek⟩
 . show(σ++List.replicate (N.length-X.N.length) none).length=N.length
   rw[ug,List.length_replicate,I.len];have:=B.long;omega
def N7(I:Nat->Shared->Prop)(turn:∀n s,I n s->wpAny (model prog w) A (pyNext it) (λr s₁=>match r with
 |none=>R (.ok .next) s₁
 | some v=>wpAny (model prog w) A (letOwnedTupleGo target it v) (λ_ s₁'=>wpAny (model prog w) A (assign target env v) (λ_ s₂ =>
  wpAny (model prog w) A (forIn ifs true λc r=>if r=true then do let ok <- isTrue c env (eval c env);pure (ForInStep.yield ok) else pure (ForInStep.yield r)) (λok s₃ =>
   if ok=true then wpAny (model prog w) A (eval elt env) (λx s₄ =>
    wpAny (model prog w) A (call (.builtin "list.append") [acc,x]) (λ_ s₅=>∃m,m<n/\I m s₅) (λ_ _=>False) s₄) (λ_ _=>False) s₃
   else ∃m,m<n/\I m s₃) (λ_ _=>False) s₂) (λ_ _=>False) s₁') (λ_ _=>False) s₁) (λ_ _=>False) s)(n:Nat)(h:I n s) :
 codeAny (model prog w) A (.compLoop (.ListComp elt [⟨target,iter,ifs,0⟩] scope pos) 0 it acc env) R s:=by
 have nv:∀{α:Type}{t:Sem α}{Q:α->Shared->Prop}{E:Y1}{s:Shared},wpAny (model prog w) A t Q (λ_ _=>False) s->wpAny (model prog w) A t Q E s:=λh=>j7 h (λ_ _ q=>q) λ_ _ f=>f.elim
 refine codeAny_loop rfl I (λn s hI=>?_) n h;show wpAny _ A ((compTurn (.ListComp elt [⟨target,iter,ifs,0⟩] scope pos) 0 it acc env).onRaise (λx=>do noteFrame x env;theTreesLotGoes x)) _ _ s;refine wpAny_noted ?_;rw[compTurn_list];refine aa (wpAny_standAt (aa (j7 (turn n s hI) (λr s₁ h₁=>?_) λ_ _ h'=>h'.elim)));cases r with
 |none=>exact aj h₁
 |some v =>
  refine aa (j7 h₁ (λ_ s₁' h₁'=>?_) λ_ _ h'=>h'.elim);refine aa (j7 h₁' (λ_ s₂ h₂=>aa (j7 h₂ (λok s₃ h₃=>?_) λ_ _ h'=>h'.elim)) λ_ _ h'=>h'.elim);cases ok with
  |false=>exact aj ⟨rfl,h₃⟩
  |true =>
   exact aa (aa (j7 h₃ (λx s₄ h₄=>aa (j7 h₄ (λ_ s₅ h₅=>aj (aj ⟨rfl,h₅⟩)) λ_ _ h'=>h'.elim)) λ_ _ h'=>h'.elim))
def ad0(k:Nat)(wi:TI)(g:TG)(tc:TT)(te:TE):TE:=fun σ H Q=>wi σ H λJ H1=>∀D,H1 D=none->∃W:Nat->Nat->Hp->Prop,(∃m,W 0 m (upd H1 D (.lst [])))/\∀i m H,W i m H ->
 (J.stop i H/\Q (.ref D) H)\/(J.go i H/\∀x H',J.yld i H x H'->g x (σ++List.replicate k none) H' fun σ2 H2=>σ2.length=(σ++List.replicate k none).length /\
  (∀(j:Nat) v,(σ++List.replicate k none)[j]?=some (some v)->σ2[j]?=some (some v))/\tc σ2 H2 λb H3 =>
   if b=true then te σ2 H3 λv H4=>∃xs m',H4 D=some (.lst xs)/\xs.length<sizeLine/\m'<m/\W (i+1) m' (upd H4 D (.lst (xs++[v]))) else ∃m',m'<m/\W (i+1) m' H3)
def PTs(X:Cx)(ifs:Ya)(tc:TT):Prop:=(ifs=[]/\tc=λ_ H Q=>Q true H)\/∃c,ifs=[c]/\PT X c tc
def Ze(I:Inv X pins σ H s)(hf:∀b∈fp,Vd X pins H b)(J:Inv (Mi X N scope (s.heap.objs.size+1) fp s H) [] σ3 H3 s3):Inv X pins σ H3 s3/\∃m,s3.heap.Ns (s.heap.objs.size+1) m:=by
 refine⟨I.call' J.os J.base J.Ad J.bare λb hb=>?_,?_⟩
 . obtain⟨_,f1,_,f3,f4,f5⟩:=hf b hb
   exact⟨f3,f1,f4,f5⟩
 . obtain⟨m,hn,_⟩:=J.loc
   exact⟨m,hn⟩
def akm(I:Inv X pins σ H s)(I3:Inv X pins σ H3 s3)(hC:H3 (s.heap.objs.size+1)=none)(hs:Heap.SameBut (s.heap.objs.size+1) s3.heap h'):Inv X pins σ H3 { s3 with heap:=h' }:=by
 have big:∀b o,s.heap.get? b=some o->b≠s.heap.objs.size+1:=λb o e z=>by have:=az e;rw[z] at this;exact absurd this (Nat.not_lt.mpr (uq _))
 refine I3.turned (t':=s3.toks) (λb o hb e=>hs.extBut b o hb e) hC ?_ (.inr (iu I.sz (uq _))) ?_ ?_
 . intro e
   obtain⟨m,⟨o,_,_,ho,_⟩,_⟩:=I.loc;exact big _ o ho e.symm
 . intro x c hc
   obtain⟨v,o,ho,_⟩:=I.cell x c hc;exact big c o ho
 . intro p hp
   exact big p.1 p.2 (I.pin p hp).1
def Wu{RR:Value->Addr->Result->Shared->Prop}(B:Eh X N scope)(Iw:X.calm=true)(I:Inv X pins σ H s)(hf:∀b∈fp,Vd X pins H b)(T:Turn X.prog X.w X.K tg J fp it tn)(h0:tn 0 s.heap)(hg:∀C s H,PG (Mi X N scope C fp s H) tg g)(hc:∀C s H,PTs (Mi X N scope C fp s H) ifs tc)(he:∀C s H,PE (Mi X N scope C fp s H) elt te){Q:VK}(W:Nat->Nat->Hp->Prop)(w0:W 0 m0 (upd H s.heap.objs.size (.lst [])))(turn:∀i m H,W i m H->(J.stop i H/\Q (.ref s.heap.objs.size) H)\/(J.go i H/\∀x H',J.yld i H x H'->g x (σ++List.replicate (N.length-X.N.length) none) H' fun σ2 H2=>σ2.length=(σ++List.replicate (N.length-X.N.length) none).length /\
 (∀(j:Nat) v,(σ++List.replicate (N.length-X.N.length) none)[j]?=some (some v)->σ2[j]?=some (some v))/\tc σ2 H2 λb H3 =>
  if b=true then te σ2 H3 λv H4=>∃xs m',H4 s.heap.objs.size=some (.lst xs)/\xs.length<sizeLine/\m'<m/\W (i+1) m' (upd H4 s.heap.objs.size (.lst (xs++[v]))) else ∃m',m'<m/\W (i+1) m' H3))(hRR:∀σ3 H3 s3,Inv (Mi X N scope (s.heap.objs.size+1) fp s H) [] σ3 H3 s3->Q (.ref s.heap.objs.size) H3->RR (.ref s.heap.objs.size) (s.heap.objs.size+1) (.ok .next) s3) :
 wpAny (model X.prog X.w) X.A (newList []) (λacc s₃=>wpAny (model X.prog X.w) X.A (newFunctionEnv scope X.env.globals (Di X.env.cells scope.names []) [] X.env.qual none .none (some X.env)) (λcenv s₄ =>
  codeAny (model X.prog X.w) X.A (.compStart (.ListComp elt [⟨tg,iter,ifs,0⟩] scope pos) 0 (.ref it) acc { cenv with scope:=relabel scope X.env }) (RR acc cenv.locals) s₄) E s₃) E s:=by
 refine jk (akk ?_);have hsz:(s.heap.push { cls:=.type "list",dict:=none,data:=.seq ([]:Zl).toArray }).objs.size=s.heap.objs.size+1:=ik _ _;obtain⟨h₁,eh⟩:∃h₁,h₁=pushCells ((s.heap.push { cls:=.type "list",dict:=none,data:=.seq ([]:Zl).toArray }).push { cls:=.type "dict",data:=.dict #[] }) scope.names:=⟨_,rfl⟩;have up:∀b o,(s.heap.push { cls:=.type "list",dict:=none,data:=.seq ([]:Zl).toArray }).get? b=some o->h₁.get? b=some o:=λb o e=>by rw[eh];exact pushCells_keeps _ _ b o (ao _ e)
 have old:∀b o,s.heap.get? b=some o->h₁.get? b=some o:=λb o e=>up b o (ao _ e)
 have Ek:h₁.get? s.heap.objs.size=some { cls:=.type "list",data:=.seq ([]:Zl).toArray }:=up _ _ (bu _ rfl);have hns₁:h₁.Ns (s.heap.objs.size+1) λ_=>none:=by rw[eh,<- hsz];exact(Heap.Ns.new _ (.type "dict")).keeps (pushCells_keeps _ _)
 have hcl:∀x c,(cellsFrom (s.heap.objs.size+1+1) scope.names (Di X.env.cells scope.names [])).lookup x=some c->∃v,h₁.IsCell c v:=by
  have sz2:((s.heap.push { cls:=.type "list",dict:=none,data:=.seq ([]:Zl).toArray }).push { cls:=.type "dict",data:=.dict #[] }).objs.size=s.heap.objs.size+1+1:=by rw[ik,hsz]
  rw[eh,<- sz2];refine abf _ _ _ λx c q=>?_
  obtain⟨v,hv⟩:=I.cell x c (B.inCells I.ok q);exact⟨v,hv.keeps λb o e=>ao _ (ao _ e)⟩
 have hfo:∀b∈fp,∃o,s.heap.get? b=some o:=λb hb=>let ⟨o,e,_⟩:=T.obj 0 _ h0 b hb;⟨o,e⟩
 have I0:=akl (t:=s.toks) B I hf hfo hns₁ old Ek hcl;have af3:∀{H':Hp},(∀b∈fp,H' b=none)->∀b∈fp,Vd (Mi X N scope (s.heap.objs.size+1) fp s H) [] H' b:=λhn b hb=>by
  obtain⟨f0,f1,f2,f3,f4,f5⟩:=hf b hb;refine⟨hn b hb,?_,?_,.inl hb,?_,λp hp=>(by simp[Mi] at hp)⟩
  . intro z
    obtain⟨o,e⟩:=hfo b hb;have:=az e;rw[show b=s.heap.objs.size+1 from z] at this;exact absurd this (Nat.not_lt.mpr (uq _))
  . intro q
    rcases cu.mp (I.aa1 b q) with z|z
    . exact f1 z
    . exact f2 z
  . intro x c hc
    rcases B.agi I.ok hc with⟨_,l⟩|hc
    . intro z
      obtain⟨o,e⟩:=hfo b hb;have q:=az e;rw[<- z] at q;exact absurd (gq (qb (qb q)) l) (nq _)
    . exact f4 x c hc
 have fr0:∀b∈fp,upd H s.heap.objs.size (.lst []) b=none:=λb hb=>by obtain⟨o,e⟩:=hfo b hb;rw[j9 (du (az e))];exact(hf b hb).1
 have loop:∀s':Shared,s'={ s with heap:=h₁ }->codeAny (model X.prog X.w) X.A (.compLoop (.ListComp elt [⟨tg,iter,ifs,0⟩] scope pos) 0 (.ref it) (.ref s.heap.objs.size) (compEnvC scope (cellsFrom (s.heap.objs.size+1+1) scope.names (Di X.env.cells scope.names [])) (s.heap.objs.size+1) X.env))
  (RR (.ref s.heap.objs.size) (s.heap.objs.size+1)) s':=by
  rintro s' rfl;refine N7 (λn s'=>∃i σ' H',Inv (Mi X N scope (s.heap.objs.size+1) fp s H) [] σ' H' s'/\(∀(j:Nat) v,(σ++List.replicate (N.length-X.N.length) none)[j]?=some (some v)->σ'[j]?=some (some v))/\tn i s'.heap/\(∀b∈fp,H' b=none)/\W i n H') ?_ m0
   ⟨0,_,_,I0,λ_ _ z=>z,T.keep 0 _ _ h0 (λb _ o e=>old b o e),fr0,w0⟩
  rintro n s3 ⟨i,σ3,H3,I3,k3,st3,fr3,w3⟩;have I3':=I3.weak (σ':=σ++List.replicate (N.length-X.N.length) none) (by rw[I3.len];exact I0.len) k3;rcases turn i n H3 w3 with⟨stop,qn⟩|⟨go,step⟩
  . refine Bf (T.done (Mi X N scope (s.heap.objs.size+1) fp s H) rfl rfl rfl Iw i [] s3 _ H3 (λ_ _=>False) I3' (af3 fr3) st3 stop) λr s4 ⟨hr,I4⟩=>?_
    subst hr;exact hRR _ _ _ I4 qn
  . refine Bf (T.item (Mi X N scope (s.heap.objs.size+1) fp s H) rfl rfl rfl Iw i [] s3 _ H3 (λ_ _=>False) I3' (af3 fr3) st3 go) λr s4 ⟨u,hr,h4⟩=>?_
    subst hr;refine Bf h4 λ_ s5 ⟨x,H5,I5,r5,y5,st5,fr5⟩=>?_
    have I5':=I5.pinned (af3 fr5) (T.obj _ _ st5);refine Bf (hg _ _ _ _ s5 _ H5 x u _ I5' r5 (step x H5 y5)) λ_ s6 ⟨σ6,H6,I6,l6,k6,q6⟩=>?_
    have again:∀{ahu:Zp}{H7:Hp}{s7:Shared}{m:Nat},Inv (Mi X N scope (s.heap.objs.size+1) fp s H) ([]++Tn fp s5.heap) σ6 H7 s7->m<n->W (i+1) m H7 ->
     ∃m,m<n/\∃i σ' H',Inv (Mi X N scope (s.heap.objs.size+1) fp s H) [] σ' H' s7/\(∀(j:Nat) v,(σ++List.replicate (N.length-X.N.length) none)[j]?=some (some v)->σ'[j]?=some (some v))/\tn i s7.heap/\(∀b∈fp,H' b=none)/\W i m H':=fun{_ H7 s7 m} I7 hm w7=>by
     refine⟨m,hm,i+1,σ6,H7,I7.Nz,k6,T.keep _ _ _ st5 λb hb o e=>(I7.pin (b,o) (iz _ (iz _ (K1 hb e)))).1,λb hb=>?_,w7⟩;obtain⟨o,e,d⟩:=T.obj _ _ st5 b hb;exact(I7.pin (b,o) (iz _ (iz _ (K1 hb e)))).2.1
    have tests:wpAny (model X.prog X.w) X.A (forIn ifs true λc r=>if r=true then do let ok <- isTrue c (compEnvC scope (cellsFrom (s.heap.objs.size+1+1) scope.names (Di X.env.cells scope.names [])) (s.heap.objs.size+1) X.env) (eval c (compEnvC scope (cellsFrom (s.heap.objs.size+1+1) scope.names (Di X.env.cells scope.names [])) (s.heap.objs.size+1) X.env));pure (ForInStep.yield ok) else pure (ForInStep.yield r))
     (TP (Mi X N scope (s.heap.objs.size+1) fp s H) ([]++Tn fp s5.heap) σ6 λb H3 =>
      if b=true then te σ6 H3 λv H4=>∃xs m',H4 s.heap.objs.size=some (.lst xs)/\xs.length<sizeLine/\m'<n/\W (i+1) m' (upd H4 s.heap.objs.size (.lst (xs++[v]))) else ∃m',m'<n/\W (i+1) m' H3) (λ_ _=>False) s6:=by
     rcases hc (s.heap.objs.size+1) s H with⟨rfl,rfl⟩|⟨c,rfl,hpt⟩
     . exact wpAny_tests_nil ⟨H6,I6,q6⟩
     . exact wpAny_tests_one (hpt _ s6 σ6 H6 _ I6 q6)
    refine Bf tests λok s7 ⟨H7,I7,q7⟩=>?_
    cases ok with
    |false =>
     obtain⟨m',hm,w7⟩:=(show ∃m',m'<n/\W (i+1) m' H7 from q7);exact again (ahu:=[]) I7 hm w7
    |true =>
     show wpAny _ _ _ _ _ _;refine Bf (he _ _ _ _ s7 σ6 H7 _ I7 q7) λx s8 ⟨v,H8,I8,r8,xs,m',hD,hl,hm,w8⟩=>?_
     refine Bf (Zc _ s8 σ6 H8 (.ref s.heap.objs.size) [v] (.ref s.heap.objs.size) [x] (λ_ H'=>W (i+1) m' H') I8 rfl (.cons r8 .nil) ⟨_,xs,v,rfl,rfl,hD,hl,w8⟩) λ_ s9 ⟨_,H9,I9,_,w9⟩=>?_
     exact again (ahu:=[]) I9 hm w9
 rw[<- eh,hsz];exact codeAny_compStart_list (loop _ rfl) (T.self _ 0 _ _ _ (T.keep 0 _ _ h0 (λb _ o e=>old b o e)) (loop _ rfl))
def ah7(B:Eh X N scope)(Iw:X.calm=true)(hi:PI X tg iter wi)(hg:∀C fp s H,PG (Mi X N scope C fp s H) tg g)(hc:∀C fp s H,PTs (Mi X N scope C fp s H) ifs tc)(he:∀C fp s H,PE (Mi X N scope C fp s H) elt te)(hs:∀x,foldedSetIterable iter X.env x=pure x):PE X (.ListComp elt [⟨tg,iter,ifs,0⟩] scope pos) (ad0 (N.length-X.N.length) wi g tc te):=by intro pins s σ H Q I h;rw[eval_ListComp];refine wpAny_comprehension_free (use:=none) rfl hs (B.clos I.ok) B.kind B.locs (Bf (hi pins s σ H _ I h) λv s1 h1=>Bf h1 λitv s2 h2=>?_);obtain⟨it,fp,tn,J,H2,rfl,I2,T,st2,f2,q2⟩:=h2;obtain⟨W,⟨m0,w0⟩,turn⟩:=q2 s2.heap.objs.size (I2.Ad.fresh (bw _));refine Wu (RR:=λacc C=>compPost (model X.prog X.w) X.A X.xe none (EP X pins σ Q) acc C) B Iw I2 f2 T st2 (λC s H=>hg C fp s H) (λC s H=>hc C fp s H) (λC s H=>he C fp s H) W w0 turn ?_;intro σ3 H3 s3 I3 q3;obtain⟨J3,m,hn⟩:=Ze I2 f2 I3;exact⟨m,hn,λh' Ov=>⟨.ref s2.heap.objs.size,H3,akm I2 J3 I3.free Ov,rfl,q3⟩⟩
set_option tactic.hygienic true in
def ah8(B:Eh X N scope)(Iw:X.calm=true)(hi:PI X tg iter wi)(hg:∀C fp s H,PG (Mi X N scope C fp s H) tg g)(hc:∀C fp s H,PTs (Mi X N scope C fp s H) ifs tc)(he:∀C fp s H,PE (Mi X N scope C fp s H) elt te)(hs:∀x,foldedSetIterable iter X.env x=pure x)(hN:X.N.Nodup)(hy:X.N[i]?=some y)(hl:X.env.scope.names.lookup y=some .local)(hsw:swapsWith (.ListComp elt [⟨tg,iter,ifs,0⟩] scope pos) (some (.Name y py)) aoz.line X.env=pure true) :
 PS X (.Assign [.Name y py] (.ListComp elt [⟨tg,iter,ifs,0⟩] scope pos) aoz) (azx (ad0 (N.length-X.N.length) wi g tc te) (ahv i)):=by
 intro pins s σ H D I h;rw[exec_Assign_Name_used _ _ _ _ hsw];refine aa (wpAny_standAt (aa ?_));show wpAny _ _ (do let _ <- comprehension (.ListComp elt [⟨tg,iter,ifs,0⟩] scope pos) scope X.env _ (newList []) false (eval iter X.env) (some (assign (.Name y py) X.env))) _ _ s;refine aa (j7 (wpAny_comprehension_free (use:=some (assign (.Name y py) X.env)) (Q:=λ_ s'=>SP X pins D .next s') rfl hs (B.clos I.ok) B.kind B.locs
  (Bf (hi pins s σ H _ I h) λv s1 h1=>Bf h1 λitv s2 h2=>?_)) (λ_ s' hq=>aj (aj hq)) λ_ _ e=>e)
 obtain⟨it,fp,tn,J,H2,rfl,I2,T,st2,f2,q2⟩:=h2;obtain⟨W,⟨m0,w0⟩,turn⟩:=q2 s2.heap.objs.size (I2.Ad.fresh (bw _));refine Wu (RR:=λacc C=>compPost (model X.prog X.w) X.A X.xe (some (assign (.Name y py) X.env)) (λ_ s'=>SP X pins D .next s') acc C) (Q:=λx H1=>ahv i x σ H1 D.nx) B Iw I2 f2 T st2 (λC s H=>hg C fp s H) (λC s H=>hc C fp s H) (λC s H=>he C fp s H) W w0 turn ?_;intro σ3 H3 s3 I3 q3;obtain⟨J3,m,hn⟩:=Ze I2 f2 I3;have hC3:=I3.free;obtain⟨oC,_,_,hoC,hdC,_⟩:=id hn;have big:∀b o,s2.heap.get? b=some o->b≠s2.heap.objs.size+1:=λb o e z=>by have:=az e;rw[z] at this;exact absurd this (Nat.not_lt.mpr (uq _))
 have neL:s2.heap.objs.size+1≠X.env.locals:=λe=>by obtain⟨m,⟨o,_,_,ho,_⟩,_⟩:=I2.loc;exact big _ o ho e.symm
 have J4:Inv X (pins++[(s2.heap.objs.size+1,oC)]) σ H3 s3:=J3.Rj λp hp=>by
  rcases gh.mp hp with q|q
  . exact J3.pin p (iz _ q)
  . have e:p=(s2.heap.objs.size+1,oC):=by simpa using q
    subst e;refine⟨hoC,hC3,neL,λhb=>?_,λv z=>by rw[hdC] at z;cases z⟩;exact I2.azd (uq _) hb
 show wpAny (model X.prog X.w) X.A (assign (.Name y py) X.env (.ref s2.heap.objs.size)) _ _ s3;refine Bf (aa3 (pos:=py) hN hy (.inl hl) (.inr hl) (pins++[(s2.heap.objs.size+1,oC)]) s3 σ H3 (.ref s2.heap.objs.size) (.ref s2.heap.objs.size) D.nx J4 rfl q3) λ_ s4 ⟨σ4,H4,I4,q4⟩=>?_
 have pC:=I4.pin (s2.heap.objs.size+1,oC) (iz _ (iz _ (by simp)));refine⟨m,hn.at' λo e=>by rw[hoC] at e;cases e;exact pC.1,λh' Ov=>⟨σ4,H4,?_,q4⟩⟩;refine(I4.Nz).turned (t':=s4.toks) (λb o hb e=>Ov.extBut b o hb e) pC.2.1 neL (.inr (iu I2.sz (uq _))) ?_ ?_
 . intro x c hc
   obtain⟨v,o,ho,_⟩:=I2.cell x c hc;exact big c o ho
 . intro p hp
   exact big p.1 p.2 (I2.pin p hp).1
end L2
namespace Sm
open PySem L2
open MW (Ex Cz OEx Pg Br o6 Lv Tg Res di MO Jp Cp Op2 Blt Bm Kx)
abbrev Dv:=MW.D
abbrev En:=MW.Env
structure Io where
 l:List Addr
 δ:List Addr
noncomputable def Io.add(ι:Io)(p:Addr):Io:=⟨ι.l++[p],ι.δ⟩
noncomputable def Io.hide(ι:Io)(p:Addr):Io:=⟨ι.l,p::ι.δ⟩
def Io.off(ι:Io)(a:Addr):Prop:=a∉ι.l/\a∉ι.δ
def agj(K:Fg)(H:Hp)(a:Addr)(vs:List V):Prop :=
 (∃o,H a=some (.Qs o (.lst vs))) \/
  ∃(o:Obj)(wy:U1)(n:Nat),K.lookup a=some o/\o.cls=.type "list"/\o.dict=none/\o.data=.seq wy n/\wy.size<=sizeLine/\Vals vs wy.toList
def agj.sq(h:agj K H a vs):Gd K H a vs:=by
 rcases h with⟨o,h⟩|h
 . exact .inl (.inr ⟨o,h⟩)
 . exact .inr h
mutual
inductive Rep(K:Fg)(ι:Io)(H:Hp):Dv->V->Prop
 |non:Rep K ι H .non .non
 |bl (b:Bool):Rep K ι H (.bl b) (.bl b)
 |int (i:Int):Rep K ι H (.int i) (.int i)
 |str (s:Str):Rep K ι H (.str s) (.str s)
 |tup {a:Addr} {ds:List Dv} {vs:List V} (e:H a=some (.tup vs)) (r:lz K ι H ds vs):Rep K ι H (.tup ds) (.ref a)
 |vl {a:Addr} {ds:List Dv} {vs:List V} (e:H a=some (.lst vs)) (n:ι.off a) (r:lz K ι H ds vs):Rep K ι H (.vl ds) (.ref a)
 |fz {a:Addr} {ds:List Dv} {vs:List V} (e:agj K H a vs) (r:lz K ι H ds vs):Rep K ι H (.fz ds) (.ref a)
 |ref {n:Nat} {a:Addr} (e:ι.l[n]?=some a):Rep K ι H (.ref n) (.ref a)
inductive lz(K:Fg)(ι:Io)(H:Hp):List Dv->List V->Prop
 |nil:lz K ι H [] []
 |cons {d:Dv} {v:V} {ds:List Dv} {vs:List V} (h:Rep K ι H d v) (t:lz K ι H ds vs):lz K ι H (d::ds) (v::vs)
end
structure Le(ι:Io)(H:Hp)(ι':Io)(H':Hp):Prop where
 ext:∃Y,ι'.l=ι.l++Y/\∀a∈Y,H a=none
 del:ι'.δ=ι.δ
 tup:∀a vs,H a=some (.tup vs)->H' a=some (.tup vs)
 Qs:∀a o u,H a=some (.Qs o u)->H' a=some (.Qs o u)
 lst:∀a vs,a∉ι.l->H a=some (.lst vs)->H' a=some (.lst vs)
 dom:∀a,H' a=none->H a=none
def Le.refl(ι:Io)(H:Hp):Le ι H ι H:=⟨⟨[],by simp,by simp⟩,rfl,λ_ _ h=>h,λ_ _ _ h=>h,λ_ _ _ h=>h,λ_ h=>h⟩
def G5{H H':Hp}(hk:∀a u,H a=some u->∃u',H' a=some u')(h:H' a=none):H a=none:=by
 cases e:H a with
 |none=>rfl|some u=>obtain⟨u',e'⟩:=hk a u e;rw[h] at e';cases e'
def Le.get(l:Le ι H ι' H'){n:Nat}(h:ι.l[n]?=some a):ι'.l[n]?=some a:=by obtain⟨Y,e,_⟩:=l.ext;rw[e,dm (ak.mp h).1];exact h
def Le.a0p(l:Le ι H ι' H')(h:a∉ι.l)(ha:H a=some o):a∉ι'.l:=by
 obtain⟨Y,e,hy⟩:=l.ext;rw[e];intro m;rcases gh.mp m with q|q
 . exact h q
 . rw[hy a q] at ha;cases ha
def Le.out(l:Le ι H ι' H')(h:ι.off a)(ha:H a=some o):ι'.off a:=⟨l.a0p h.1 ha,by rw[l.del];exact h.2⟩
theorem Le.trans(a:Le ι H ι1 H1)(b:Le ι1 H1 ι2 H2):Le ι H ι2 H2:=by
 obtain⟨Y,e1,h1⟩:=a.ext;obtain⟨Z,e2,h2⟩:=b.ext;refine⟨⟨Y++Z,by rw[e2,e1,yf],λx m=>?_⟩,b.del.trans a.del,λx vs h=>b.tup x vs (a.tup x vs h),λx o u h=>b.Qs x o u (a.Qs x o u h),λx vs n h=>b.lst x vs (a.a0p n h) (a.lst x vs n h),λx h=>a.dom x (b.dom x h)⟩;rcases gh.mp m with q|q
 . exact h1 x q
 . exact a.dom x (h2 x q)
structure LeX(ι:Io)(H:Hp)(ι':Io)(H':Hp):Prop where
 ext:∃Y,ι'.l=ι.l++Y/\∀a∈Y,H a=none
 del:∀a∈ι'.δ,a∈ι.δ\/H a=none
 tup:∀a vs,H a=some (.tup vs)->H' a=some (.tup vs)
 Qs:∀a o u,H a=some (.Qs o u)->H' a=some (.Qs o u)
 lst:∀a vs,a∉ι.l->H a=some (.lst vs)->H' a=some (.lst vs)
def Le.toX(l:Le ι H ι' H'):LeX ι H ι' H':=⟨l.ext,λa h=>.inl (by rw[<- l.del];exact h),l.tup,l.Qs,l.lst⟩
def LeX.get(l:LeX ι H ι' H'){n:Nat}(h:ι.l[n]?=some a):ι'.l[n]?=some a:=by obtain⟨Y,e,_⟩:=l.ext;rw[e,dm (ak.mp h).1];exact h
def LeX.out(l:LeX ι H ι' H')(h:ι.off a)(ha:H a=some o):ι'.off a:=by
 obtain⟨Y,e,hy⟩:=l.ext;refine⟨λm=>?_,λm=>?_⟩
 . rw[e] at m
   rcases gh.mp m with q|q
   . exact h.1 q
   . rw[hy a q] at ha;cases ha
 . rcases l.del a m with q|q
   . exact h.2 q
   . rw[q] at ha;cases ha
mutual
theorem Rep.Ei{K:Fg}{ι ι':Io}{H H':Hp}(l:LeX ι H ι' H'):∀{d:Dv}{v:V},Rep K ι H d v->Rep K ι' H' d v
 |_,_,.non=>.non|_,_,.bl b=>.bl b|_,_,.int i=>.int i|_,_,.str s=>.str s|_,_,.tup e r=>.tup (l.tup _ _ e) (lz.Ei l r)|_,_,.vl e n r=>.vl (l.lst _ _ n.1 e) (l.out n e) (lz.Ei l r)
 | _,_,.fz e r=>.fz (by
  rcases e with⟨o,e⟩|e
  . exact .inl ⟨o,l.Qs _ _ _ e⟩
  . exact .inr e) (lz.Ei l r)
 |_,_,.ref e=>.ref (l.get e)
theorem lz.Ei{K:Fg}{ι ι':Io}{H H':Hp}(l:LeX ι H ι' H'):∀{ds:List Dv}{vs:List V},lz K ι H ds vs->lz K ι' H' ds vs
 |_,_,.nil=>.nil|_,_,.cons h t=>.cons (Rep.Ei l h) (lz.Ei l t)
end
def Rep.mono(l:Le ι H ι' H')(r:Rep K ι H d v):Rep K ι' H' d v:=r.Ei l.toX
def lz.mono(l:Le ι H ι' H')(r:lz K ι H ds vs):lz K ι' H' ds vs:=r.Ei l.toX
theorem lz.length{K:Fg}{ι:Io}{H:Hp}:∀{ds:List Dv}{vs:List V},lz K ι H ds vs->ds.length=vs.length
 |_,_,.nil=>rfl|_,_,.cons _ t=>by rw[gr,gr,lz.length t]
theorem lz.get{K:Fg}{ι:Io}{H:Hp}:∀{ds:List Dv}{vs:List V}{i:Nat}{d:Dv},lz K ι H ds vs->ds[i]?=some d->∃v,vs[i]?=some v/\Rep K ι H d v
 |_,_,_,_,.nil,e=>by simp at e|_,_,0,_,.cons h _,e=>by simp at e;subst e;exact⟨_,rfl,h⟩
 |_,_,i+1,d,.cons _ t,e=>by
  obtain⟨v,h1,h2⟩:=lz.get (i:=i) t (by simpa using e);exact⟨v,by simpa using h1,h2⟩
theorem lz.set{K:Fg}{ι:Io}{H:Hp}{d:Dv}{v:V}(r:Rep K ι H d v):∀{ds:List Dv}{vs:List V}(i:Nat),lz K ι H ds vs->lz K ι H (ds.set i d) (vs.set i v)
 |_,_,_,.nil=>.nil|_,_,0,.cons _ t=>.cons r t|_,_,i+1,.cons h t=>.cons h (lz.set r i t)
theorem lz.append{K:Fg}{ι:Io}{H:Hp}:∀{ds es:List Dv}{vs us:List V},lz K ι H ds vs->lz K ι H es us->lz K ι H (ds++es) (vs++us)
 |_,_,_,_,.nil,r=>r|_,_,_,_,.cons h t,r=>.cons h (lz.append t r)
theorem lz.drop{K:Fg}{ι:Io}{H:Hp}:∀{ds:List Dv}{vs:List V}(n:Nat),lz K ι H ds vs->lz K ι H (ds.drop n) (vs.drop n)
 |_,_,0,r=>r|_,_,_+1,.nil=>.nil|_,_,n+1,.cons _ t=>lz.drop n t
theorem lz.take{K:Fg}{ι:Io}{H:Hp}:∀{ds:List Dv}{vs:List V}(n:Nat),lz K ι H ds vs->lz K ι H (ds.take n) (vs.take n)
 |_,_,0,_=>.nil|_,_,_+1,.nil=>.nil|_,_,n+1,.cons h t=>.cons h (lz.take n t)
theorem lz.eraseIdx{K:Fg}{ι:Io}{H:Hp}:∀{ds:List Dv}{vs:List V}(n:Nat),lz K ι H ds vs->lz K ι H (ds.eraseIdx n) (vs.eraseIdx n)
 |_,_,_,.nil=>.nil|_,_,0,.cons _ t=>t|_,_,n+1,.cons h t=>.cons h (lz.eraseIdx n t)
theorem lz.ints{K:Fg}{ι:Io}{H:Hp}:∀(ns:Xs),lz K ι H (ns.map MW.D.int) (ns.map V.int)
 |[]=>.nil|n::r=>.cons (.int n) (lz.ints r)
structure Nm where
 cls:Nat->Option Addr
 fld:Nat->Str
 inj:∀i j,fld i=fld j->i=j
inductive qp{κ κ':Type}(K:Fg)(ι:Io)(H:Hp)(f:κ->κ'->Prop):List (κ×Dv)->List (κ'×V)->Prop
 |nil:qp K ι H f [] []
 |cons {k:κ} {k':κ'} {d:Dv} {v:V} {l:List (κ×Dv)} {l':List (κ'×V)} (hk:f k k') (h:Rep K ι H d v) (t:qp K ι H f l l'):qp K ι H f ((k,d)::l) ((k',v)::l')
theorem qp.mono{κ κ':Type}{K:Fg}{ι ι':Io}{H H':Hp}{f:κ->κ'->Prop}(le:Le ι H ι' H'):∀{l:List (κ×Dv)}{l':List (κ'×V)},qp K ι H f l l'->qp K ι' H' f l l'
 |_,_,.nil=>.nil|_,_,.cons k h t=>.cons k (h.mono le) (qp.mono le t)
def Gv(nm:Nm)(K:Fg)(ι:Io)(H:Hp)(o:MO)(a:Addr):Prop :=
 match o with
 |.lst ds=>∃vs,H a=some (.lst vs)/\lz K ι H ds vs|.dT gw=>∃l,H a=some (.dT l)/\qp K ι H (λk k'=>k=k') gw l
 |.dK gw=>∃l,H a=some (.dK l)/\qp K ι H (λk k'=>k=k') gw l
 |.ins c fs=>∃C dx l,nm.cls c=some C/\H a=some (.ins C dx l)/\qp K ι H (λk k'=>k'=nm.fld k) fs l
structure m5(nm:Nm)(K:Fg)(ι:Io)(H:Hp)(M:di):Prop where
 len:ι.l.length=M.length
 nd:ι.l.Nodup
 del:∀a∈ι.δ,a∉ι.l/\∃vs,H a=some (.lst vs)
 obj:∀(n:Nat)(o:MO)(a:Addr),M[n]?=some o->ι.l[n]?=some a->Gv nm K ι H o a
theorem Gv.some(h:Gv nm K ι H o a):∃u,H a=some u/\Mut (H a):=by
 cases o with
 |lst ds=>obtain⟨vs,e,_⟩:=h;exact⟨_,e,by rw[e];trivial⟩
 |dT gw=>obtain⟨vs,e,_⟩:=h;exact⟨_,e,by rw[e];trivial⟩
 |dK gw=>obtain⟨vs,e,_⟩:=h;exact⟨_,e,by rw[e];trivial⟩
 |ins c fs=>obtain⟨C,dx,l,_,e,_⟩:=h;exact⟨_,e,by rw[e];trivial⟩
def m5.addr(S:m5 nm K ι H M){n:Nat}(h:M[n]?=some o):∃a,ι.l[n]?=some a/\Gv nm K ι H o a:=by
 have hl:n < ι.l.length:=by rw[S.len];exact MW.xq h
 exact⟨ι.l[n],by simp[hl],S.obj n o _ h (by simp[hl])⟩
def m5.mem(S:m5 nm K ι H M)(h:a∈ι.l):∃u,H a=some u/\Mut (H a):=by
 obtain⟨n,hn,rfl⟩:=m8 h;have hm:n<M.length:=by rw[<- S.len];exact hn
 exact(S.obj n M[n] ι.l[n] (by simp[hm]) (by simp[hn])).some
def m5.fresh(S:m5 nm K ι H M)(h:H a=none):ι.off a:=by
 refine⟨λm=>?_,λm=>?_⟩
 . obtain⟨u,e,_⟩:=S.mem m
   rw[h] at e;cases e
 . obtain⟨_,vs,e⟩:=S.del a m
   rw[h] at e;cases e
def Gv.move(h:Gv nm K ι H o a)(le:Le ι H ι' H')(e:H' a=H a):Gv nm K ι' H' o a:=by
 cases o with
 |lst ds=>obtain⟨vs,q,r⟩:=h;exact⟨vs,e.trans q,r.mono le⟩
 |dT gw=>obtain⟨vs,q,r⟩:=h;exact⟨vs,e.trans q,r.mono le⟩
 |dK gw=>obtain⟨vs,q,r⟩:=h;exact⟨vs,e.trans q,r.mono le⟩
 |ins c fs=>obtain⟨C,dx,l,hc,q,r⟩:=h;exact⟨C,dx,l,hc,e.trans q,r.mono le⟩
def m5.laid(S:m5 nm K ι H M)(h:H p=none)(o:HO):m5 nm K ι (upd H p o) M/\Le ι H ι (upd H p o):=by
 have ne:∀a u,H a=some u->a≠p:=λa u e=>kj e h
 have le:Le ι H ι (upd H p o):=⟨⟨[],by simp,by simp⟩,rfl,λa vs e=>by rw[j9 (ne a _ e)];exact e,λa _ u e=>by rw[j9 (ne a _ e)];exact e,λa vs _ e=>by rw[j9 (ne a _ e)];exact e,
  λa h'=>G5 (λb u e=>⟨u,by rw[j9 (ne b _ e)];exact e⟩) h'⟩
 refine⟨⟨S.len,S.nd,λa ha=>?_,λn o' a hn ha=>?_⟩,le⟩
 . obtain⟨h1,vs,h2⟩:=S.del a ha
   exact⟨h1,vs,le.lst a vs h1 h2⟩
 . have q:=S.obj n o' a hn ha
   obtain⟨u,e,_⟩:=q.some;exact q.move le (by rw[j9 (ne a u e)])
def Bw{α:Type}{l:List α}{x y:α}(h:(l++[x])[n]?=some y):(l[n]?=some y)\/(n=l.length/\y=x):=by
 rcases Bb n l.length with q|q
 . rw[dm q] at h;exact .inl h
 . rw[je q] at h
   have:n-l.length=0:=by
    rcases Nat.eq_zero_or_pos (n-l.length) with z|z
    . exact z
    . rw[p7 (by simp;exact z)] at h;cases h
   rw[this] at h;simp at h;exact .inr ⟨by lia,h.symm⟩
def m5.new(S:m5 nm K ι H M)(h:H p=none)(hk:∀a u,H a=some u->H' a=some u)(ho:Le ι H (ι.add p) H'->Gv nm K (ι.add p) H' o p):m5 nm K (ι.add p) H' (M++[o])/\Le ι H (ι.add p) H':=by
 have le:Le ι H (ι.add p) H':=⟨⟨[p],rfl,by simpa using h⟩,rfl,λa vs e=>hk _ _ e,λa _ u e=>hk _ _ e,λa vs _ e=>hk _ _ e,λa h'=>G5 (H:=H) (H':=H') (λb u e=>⟨u,hk b u e⟩) h'⟩;refine⟨⟨by simp[Io.add,S.len],?_,λa ha=>?_,λn o' a hn ha=>?_⟩,le⟩
 . exact yh.mpr ⟨S.nd,by simp,by
    intro x hx y hy;have:y=p:=by simpa using hy
    subst this;intro e;subst e;exact(S.fresh h).1 hx⟩
 . obtain⟨h1,vs,h2⟩:=S.del a ha
   exact⟨le.a0p h1 h2,vs,hk _ _ h2⟩
 . rcases Bw hn with q|⟨q,rfl⟩
   . rcases Bw ha with r|⟨r,_⟩
     . have z:=S.obj n o' a q r
       obtain⟨u,e,_⟩:=z.some;exact z.move le ((hk a u e).trans e.symm)
     . exact absurd (MW.xq q) (by rw[r,S.len];exact nq _)
   . rcases Bw ha with r|⟨_,rfl⟩
     . exact absurd (ak.mp r).1 (by rw[q,S.len];exact nq _)
     . exact ho le
def m5.put(S:m5 nm K ι H M)(hn:M[n]?=some o₀)(ha:ι.l[n]?=some a)(ho:Le ι H ι (upd H a u)->Gv nm K ι (upd H a u) o a):m5 nm K ι (upd H a u) (M.set n o)/\Le ι H ι (upd H a u):=by
 obtain⟨u₀,e₀,m₀⟩:=(S.obj n o₀ a hn ha).some;have hm:a∈ι.l:=aq ha;have le:Le ι H ι (upd H a u):=⟨⟨[],by simp,by simp⟩,rfl,λb vs e=>by rw[j9 (λz=>by subst z;rw[e] at m₀;exact m₀)];exact e,
  λb _ _ e=>by rw[j9 (λz=>by subst z;rw[e] at m₀;exact m₀)];exact e,λb vs nb e=>by rw[j9 (λz=>by subst z;exact nb hm)];exact e,λb h'=>G5 (λc w e=>by
   by_cases z:c=a
   . exact⟨u,by rw[z,vm]⟩
   . exact⟨w,by rw[j9 z];exact e⟩) h'⟩
 refine⟨⟨by rw[List.length_set];exact S.len,S.nd,λb hb=>?_,λm o' b hm' hb=>?_⟩,le⟩
 . obtain⟨h1,vs,h2⟩:=S.del b hb
   exact⟨h1,vs,le.lst b vs h1 h2⟩
 by_cases q:m=n
 . subst q
   rw[MW.ur hn] at hm';cases hm';rw[ha] at hb;cases hb;exact ho le
 . rw[MW.qu (j6 q)] at hm'
   have z:=S.obj m o' b hm' hb;have nb:b≠a:=λe=>by subst e;obtain⟨l1,e1⟩:=ak.mp hb;obtain⟨l2,e2⟩:=ak.mp ha;exact q ((vd S.nd).mp (e1.trans e2.symm))
   exact z.move le (by rw[j9 nb])
mutual
theorem Rep.hide{K:Fg}{ι:Io}{H:Hp}{D:Addr}{o:HO}(hD:H D=none):∀{d:Dv}{v:V},Rep K ι H d v->Rep K (ι.hide D) (upd H D o) d v
 |_,_,.non=>.non|_,_,.bl b=>.bl b|_,_,.int i=>.int i|_,_,.str s=>.str s|_,_,.tup e r=>.tup (by rw[j9 (kj e hD)];exact e) (lz.hide hD r)
 | _,_,.vl e n r=>.vl (by rw[j9 (kj e hD)];exact e) ⟨n.1,λm=>by
  rcases cu.mp m with q|q
  . exact kj e hD q
  . exact n.2 q⟩ (lz.hide hD r)
 | _,_,.fz e r=>.fz (by
  rcases e with⟨q,e⟩|e
  . exact .inl ⟨q,by rw[j9 (kj e hD)];exact e⟩
  . exact .inr e) (lz.hide hD r)
 |_,_,.ref e=>.ref e
theorem lz.hide{K:Fg}{ι:Io}{H:Hp}{D:Addr}{o:HO}(hD:H D=none):∀{ds:List Dv}{vs:List V},lz K ι H ds vs->lz K (ι.hide D) (upd H D o) ds vs
 |_,_,.nil=>.nil|_,_,.cons h t=>.cons (Rep.hide hD h) (lz.hide hD t)
end
mutual
theorem Rep.grow{K:Fg}{ι:Io}{H:Hp}{D:Addr}{vs ws:List V}(hD:H D=some (.lst vs))(hm:D∈ι.δ):∀{d:Dv}{v:V},Rep K ι H d v->Rep K ι (upd H D (.lst ws)) d v
 |_,_,.non=>.non|_,_,.bl b=>.bl b|_,_,.int i=>.int i|_,_,.str s=>.str s|_,_,.tup e r=>.tup (by rw[j9 (ani e hD (by intro z;cases z))];exact e) (lz.grow hD hm r)|_,_,.vl e n r=>.vl (by rw[j9 (λz=>by subst z;exact n.2 hm)];exact e) n (lz.grow hD hm r)
 | _,_,.fz e r=>.fz (by
  rcases e with⟨q,e⟩|e
  . exact .inl ⟨q,by rw[j9 (ani e hD (by intro z;cases z))];exact e⟩
  . exact .inr e) (lz.grow hD hm r)
 |_,_,.ref e=>.ref e
theorem lz.grow{K:Fg}{ι:Io}{H:Hp}{D:Addr}{vs ws:List V}(hD:H D=some (.lst vs))(hm:D∈ι.δ):∀{ds:List Dv}{us:List V},lz K ι H ds us->lz K ι (upd H D (.lst ws)) ds us
 |_,_,.nil=>.nil|_,_,.cons h t=>.cons (Rep.grow hD hm h) (lz.grow hD hm t)
end
mutual
theorem Rep.show{K:Fg}{ι:Io}{H:Hp}{D:Addr}:∀{d:Dv}{v:V},Rep K (ι.hide D) H d v->Rep K ι H d v
 |_,_,.non=>.non|_,_,.bl b=>.bl b|_,_,.int i=>.int i|_,_,.str s=>.str s|_,_,.tup e r=>.tup e (lz.show r)
 |_,_,.vl e n r=>.vl e ⟨n.1,λm=>n.2 (bh _ m)⟩ (lz.show r)
 |_,_,.fz e r=>.fz e (lz.show r)
 |_,_,.ref e=>.ref e
theorem lz.show{K:Fg}{ι:Io}{H:Hp}{D:Addr}:∀{ds:List Dv}{vs:List V},lz K (ι.hide D) H ds vs->lz K ι H ds vs
 |_,_,.nil=>.nil|_,_,.cons h t=>.cons (Rep.show h) (lz.show t)
end
theorem qp.map{κ κ':Type}{K:Fg}{ι ι':Io}{H H':Hp}{f:κ->κ'->Prop}(g:∀d v,Rep K ι H d v->Rep K ι' H' d v):∀{l:List (κ×Dv)}{l':List (κ'×V)},qp K ι H f l l'->qp K ι' H' f l l'
 |_,_,.nil=>.nil|_,_,.cons k h t=>.cons k (g _ _ h) (qp.map g t)
theorem lz.map{K:Fg}{ι ι':Io}{H H':Hp}(g:∀d v,Rep K ι H d v->Rep K ι' H' d v):∀{l:List Dv}{l':List V},lz K ι H l l'->lz K ι' H' l l'
 |_,_,.nil=>.nil|_,_,.cons h t=>.cons (g _ _ h) (lz.map g t)
theorem Gv.map(g:∀d v,Rep K ι H d v->Rep K ι' H' d v)(h:Gv nm K ι H o a)(e:H' a=H a):Gv nm K ι' H' o a:=by
 cases o with
 |lst ds=>obtain⟨vs,q,r⟩:=h;exact⟨vs,e.trans q,r.map g⟩
 |dT gw=>obtain⟨vs,q,r⟩:=h;exact⟨vs,e.trans q,r.map g⟩
 |dK gw=>obtain⟨vs,q,r⟩:=h;exact⟨vs,e.trans q,r.map g⟩
 |ins c fs=>obtain⟨C,dx,l,hc,q,r⟩:=h;exact⟨C,dx,l,hc,e.trans q,r.map g⟩
theorem m5.hide(S:m5 nm K ι H M)(hD:H D=none):m5 nm K (ι.hide D) (upd H D (.lst [])) M:=by
 refine⟨S.len,S.nd,λa ha=>?_,λn o a hn ha=>?_⟩
 . rcases cu.mp ha with q|q
   . subst q;exact⟨(S.fresh hD).1,[],vm⟩
   . obtain⟨h1,vs,h2⟩:=S.del a q
     exact⟨h1,vs,by rw[j9 (kj h2 hD)];exact h2⟩
 . have z:=S.obj n o a hn ha
   obtain⟨u,e,_⟩:=z.some;exact z.map (λd v r=>r.hide hD) (by rw[j9 (kj e hD)])
theorem m5.grow(S:m5 nm K ι H M)(hD:H D=some (.lst vs))(hm:D∈ι.δ):m5 nm K ι (upd H D (.lst ws)) M:=by
 refine⟨S.len,S.nd,λa ha=>?_,λn o a hn ha=>?_⟩
 . obtain⟨h1,us,h2⟩:=S.del a ha
   by_cases z:a=D
   . subst z;exact⟨h1,ws,vm⟩
   . exact⟨h1,us,by rw[j9 z];exact h2⟩
 . have z:=S.obj n o a hn ha
   have ne:a≠D:=λe=>by subst e;exact(S.del a hm).1 (aq ha)
   exact z.map (λd v r=>r.grow hD hm) (by rw[j9 ne])
theorem m5.show(S:m5 nm K (ι.hide D) H M):m5 nm K ι H M :=
 ⟨S.len,S.nd,λa ha=>S.del a (bh _ ha),λn o a hn ha=>(S.obj n o a hn ha).map (λd v r=>r.show) rfl⟩
structure LeD(D:Addr)(ι:Io)(H:Hp)(ι':Io)(H':Hp):Prop where
 ext:∃Y,ι'.l=ι.l++Y/\∀a∈Y,H a=none
 del:ι'.δ=D::ι.δ
 tup:∀a vs,H a=some (.tup vs)->H' a=some (.tup vs)
 Qs:∀a o u,H a=some (.Qs o u)->H' a=some (.Qs o u)
 lst:∀a vs,a∉ι.l->H a=some (.lst vs)->H' a=some (.lst vs)
 dom:∀a,H' a=none->H a=none
def LeD.toX(l:LeD D ι H ι' H')(hD:H D=none):LeX ι H ι' H':=⟨l.ext,λa h=>by
 rw[l.del] at h;rcases cu.mp h with q|q
 . exact .inr (by rw[q];exact hD)
 . exact .inl q,l.tup,l.Qs,l.lst⟩
def LeD.start(hD:H D=none)(o:HO):LeD D ι H (ι.hide D) (upd H D o) :=
 ⟨⟨[],by simp[Io.hide],by simp⟩,rfl,λa vs e=>by rw[j9 (kj e hD)];exact e,λa _ _ e=>by rw[j9 (kj e hD)];exact e,λa vs _ e=>by rw[j9 (kj e hD)];exact e,
  λa h'=>G5 (λb u e=>⟨u,by rw[j9 (kj e hD)];exact e⟩) h'⟩
def LeD.go(a:LeD D ι H ι1 H1)(b:Le ι1 H1 ι2 H2):LeD D ι H ι2 H2:=by
 obtain⟨Y,e1,h1⟩:=a.ext;obtain⟨Z,e2,h2⟩:=b.ext;have out:∀x o,x∉ι.l->H x=some o->x∉ι1.l:=λx o n h m=>by
  rw[e1] at m;rcases gh.mp m with q|q
  . exact n q
  . rw[h1 x q] at h;cases h
 refine⟨⟨Y++Z,by rw[e2,e1,yf],λx m=>?_⟩,b.del.trans a.del,λx vs h=>b.tup x vs (a.tup x vs h),λx o u h=>b.Qs x o u (a.Qs x o u h),λx vs n h=>b.lst x vs (out x _ n h) (a.lst x vs n h),λx h=>a.dom x (b.dom x h)⟩;rcases gh.mp m with q|q
 . exact h1 x q
 . exact a.dom x (h2 x q)
def LeD.grow(a:LeD D ι H ι1 H1)(h0:H D=none)(hD:H1 D=some (.lst vs)):LeD D ι H ι1 (upd H1 D (.lst ws)) :=
 ⟨a.ext,a.del,λx us h=>by rw[j9 (kj h h0)];exact a.tup x us h,λx o u h=>by rw[j9 (kj h h0)];exact a.Qs x o u h,λx us n h=>by rw[j9 (kj h h0)];exact a.lst x us n h,
  λx h=>a.dom x (by
   by_cases z:x=D
   . rw[z,vm] at h;cases h
   . rw[j9 z] at h;exact h)⟩
def LeD.done(a:LeD D ι H ⟨ι1.l,D::ι1.δ⟩ H1):Le ι H ι1 H1 :=
 ⟨a.ext,(List.cons.inj a.del).2,a.tup,a.Qs,a.lst,a.dom⟩
inductive uw(K:Fg)(ι:Io)(H:Hp):En->St->Prop
 |nil:uw K ι H [] []
 |skp {y:Option V} {ρ:En} {σ:St} (t:uw K ι H ρ σ):uw K ι H (none::ρ) (y::σ)
 |has {d:Dv} {v:V} {ρ:En} {σ:St} (h:Rep K ι H d v) (t:uw K ι H ρ σ):uw K ι H (some d::ρ) (some v::σ)
theorem uw.Ei{K:Fg}{ι ι':Io}{H H':Hp}(le:LeX ι H ι' H'):∀{ρ:En}{σ:St},uw K ι H ρ σ->uw K ι' H' ρ σ
 |_,_,.nil=>.nil|_,_,.skp t=>.skp (uw.Ei le t)|_,_,.has h t=>.has (h.Ei le) (uw.Ei le t)
theorem uw.mono{K:Fg}{ι ι':Io}{H H':Hp}(le:Le ι H ι' H'):∀{ρ:En}{σ:St},uw K ι H ρ σ->uw K ι' H' ρ σ
 |_,_,.nil=>.nil|_,_,.skp t=>.skp (uw.mono le t)|_,_,.has h t=>.has (h.mono le) (uw.mono le t)
theorem uw.get{K:Fg}{ι:Io}{H:Hp}:∀{ρ:En}{σ:St}{i:Nat}{d:Dv},uw K ι H ρ σ->ρ[i]?=some (some d)->∃v,σ[i]?=some (some v)/\Rep K ι H d v
 |_,_,_,_,.nil,e=>by simp at e|_,_,0,_,.skp _,e=>by simp at e|_,_,0,_,.has h _,e=>by simp at e;subst e;exact⟨_,rfl,h⟩
 |_,_,i+1,d,.skp t,e=>by
  obtain⟨v,h1,h2⟩:=uw.get (i:=i) t (by simpa using e);exact⟨v,by simpa using h1,h2⟩
 |_,_,i+1,d,.has _ t,e=>by
  obtain⟨v,h1,h2⟩:=uw.get (i:=i) t (by simpa using e);exact⟨v,by simpa using h1,h2⟩
theorem uw.set{K:Fg}{ι:Io}{H:Hp}{d:Dv}{v:V}(r:Rep K ι H d v):∀{ρ:En}{σ:St}(i:Nat),uw K ι H ρ σ->uw K ι H (ρ.set i (some d)) (σ.set i (some v))
 |_,_,_,.nil=>.nil|_,_,0,.skp t=>.has r t|_,_,0,.has _ t=>.has r t|_,_,i+1,.skp t=>.skp (uw.set r i t)|_,_,i+1,.has h t=>.has h (uw.set r i t)
theorem uw.length{K:Fg}{ι:Io}{H:Hp}:∀{ρ:En}{σ:St},uw K ι H ρ σ->ρ.length=σ.length
 |_,_,.nil=>rfl|_,_,.skp t=>by rw[gr,gr,uw.length t]|_,_,.has _ t=>by rw[gr,gr,uw.length t]
theorem uw.append{K:Fg}{ι:Io}{H:Hp}:∀{ρ ρ':En}{σ σ':St},uw K ι H ρ σ->uw K ι H ρ' σ'->uw K ι H (ρ++ρ') (σ++σ')
 |_,_,_,_,.nil,r=>r|_,_,_,_,.skp t,r=>.skp (uw.append t r)|_,_,_,_,.has h t,r=>.has h (uw.append t r)
theorem uw.ao0{K:Fg}{ι:Io}{H:Hp}:∀(k:Nat){σ:St},σ.length=k->uw K ι H (List.replicate k none) σ
 |0,[],_=>.nil|k+1,_::r,h=>.skp (uw.ao0 k (by simpa using h))
theorem uw.ao1{K:Fg}{ι:Io}{H:Hp}:∀{ds:List Dv}{vs:List V},lz K ι H ds vs->uw K ι H (ds.map some) (vs.map some)
 |_,_,.nil=>.nil|_,_,.cons h t=>.has h (uw.ao1 t)
def dw{r:Res α}(h:r.bind f=.ok b M):∃a M1,r=.ok a M1/\f a M1=.ok b M:=by
 cases r with
 |ok a M1=>exact⟨a,M1,rfl,h⟩|err c M1=>cases h|bad=>cases h
def ux(h:Res.qi o M=.ok a M'):o=some a/\M'=M:=by
 cases o with
 |none=>cases h|some x=>cases h;exact⟨rfl,rfl⟩
def PE.weak(h:PE X e t)(w:∀σ H Q,t' σ H Q->t σ H Q):PE X e t':=λpins s σ H Q I q=>h pins s σ H Q I (w σ H Q q)
def PT.weak(h:PT X e t)(w:∀σ H Q,t' σ H Q->t σ H Q):PT X e t':=λpins s σ H Q I q=>h pins s σ H Q I (w σ H Q q)
def PA.weak(h:PA X es t)(w:∀σ H Q,t' σ H Q->t σ H Q):PA X es t':=λpos pins s σ H Q I q=>h pos pins s σ H Q I (w σ H Q q)
def PS.weak(h:PS X e t)(w:∀D σ H,t' D σ H->t D σ H):PS X e t':=λpins s σ H D I q=>h pins s σ H D I (w D σ H q)
def Rk.weak(h:Rk X e t)(w:∀D σ H,t' D σ H->t D σ H):Rk X e t':=λpins s σ H D I q=>h pins s σ H D I (w D σ H q)
def Cr.weak(h:Cr X f r)(w:∀x y H Q,r' x y H Q->r x y H Q):Cr X f r':=λpins s σ H x y v u Q I rx ry q=>h pins s σ H x y v u Q I rx ry (w x y H Q q)
section
variable(nm:Nm)(W:Jp)(K:Fg)
def tE(e:Ex):TE:=fun σ H Q=>∃ι ρ M d M',m5 nm K ι H M/\uw K ι H ρ σ/\e.den W ρ M=.ok d M'/\∀ι' H' v,Le ι H ι' H'->m5 nm K ι' H' M'->Rep K ι' H' d v->Q v H'
def tQ(e:Ex):TT:=fun σ H Q=>∃ι ρ M b M',m5 nm K ι H M/\uw K ι H ρ σ/\e.den W ρ M=.ok (.bl b) M'/\∀ι' H',Le ι H ι' H'->m5 nm K ι' H' M'->Q b H'
def Vn(es:Cz):TA:=fun σ H Q=>∃ι ρ M ds M',m5 nm K ι H M/\uw K ι H ρ σ/\es.den W ρ M=.ok ds M'/\∀ι' H' vs,Le ι H ι' H'->m5 nm K ι' H' M'->lz K ι' H' ds vs->Q vs H'
def Wv(D:Ends)(ι:Io)(H:Hp)(fl:MW.Flow)(ρ:En)(M:di):Prop :=
 ∀ι' H' σ',Le ι H ι' H'->m5 nm K ι' H' M->uw K ι' H' ρ σ' ->
  match fl with
  |.next=>D.nx σ' H'|.brk=>D.bk σ' H'|.cont=>D.ct σ' H'|.ret d=>∀v,Rep K ι' H' d v->D.rt v H'
def tS(st:Br):TS:=λD σ H=>∃ι ρ M fl ρ' M',m5 nm K ι H M/\uw K ι H ρ σ/\st.den W ρ M=.ok (fl,ρ') M'/\Wv nm K D ι H fl ρ' M'
def tSs(st:o6):TS:=λD σ H=>∃ι ρ M fl ρ' M',m5 nm K ι H M/\uw K ι H ρ σ/\st.den W ρ M=.ok (fl,ρ') M'/\Wv nm K D ι H fl ρ' M'
end
def PE.of(h:PE X a t)(w:∀σ H Q ι ρ M d M',m5 nm X.K ι H M->uw X.K ι H ρ σ->e'.den W ρ M=.ok d M'->(∀ι' H' v,Le ι H ι' H'->m5 nm X.K ι' H' M'->Rep X.K ι' H' d v->Q v H')->t σ H Q):PE X a (tE nm W X.K e'):=PE.weak h fun σ H Q ⟨ι,ρ,M,d,M',S,R,e,q⟩=>w σ H Q ι ρ M d M' S R e q
def PT.of(h:PT X a t)(w:∀σ H Q ι ρ M b M',m5 nm X.K ι H M->uw X.K ι H ρ σ->e'.den W ρ M=.ok (.bl b) M'->(∀ι' H',Le ι H ι' H'->m5 nm X.K ι' H' M'->Q b H')->t σ H Q):PT X a (tQ nm W X.K e'):=PT.weak h fun σ H Q ⟨ι,ρ,M,d,M',S,R,e,q⟩=>w σ H Q ι ρ M d M' S R e q
def PA.of(h:PA X es t)(w:∀σ H Q ι ρ M ds M',m5 nm X.K ι H M->uw X.K ι H ρ σ->es'.den W ρ M=.ok ds M'->(∀ι' H' vs,Le ι H ι' H'->m5 nm X.K ι' H' M'->lz X.K ι' H' ds vs->Q vs H')->t σ H Q):PA X es (Vn nm W X.K es'):=PA.weak h fun σ H Q ⟨ι,ρ,M,d,M',S,R,e,q⟩=>w σ H Q ι ρ M d M' S R e q
def PS.of(h:PS X st t)(w:∀D σ H ι ρ M fl ρ' M',m5 nm X.K ι H M->uw X.K ι H ρ σ->s'.den W ρ M=.ok (fl,ρ') M'->Wv nm X.K D ι H fl ρ' M'->t D σ H):PS X st (tS nm W X.K s'):=PS.weak h λD σ H ⟨ι,ρ,M,fl,ρ',M',S,R,e,q⟩=>w D σ H ι ρ M fl ρ' M' S R e q
def Rk.of(h:Rk X st t)(w:∀D σ H ι ρ M fl ρ' M',m5 nm X.K ι H M->uw X.K ι H ρ σ->s'.den W ρ M=.ok (fl,ρ') M'->Wv nm X.K D ι H fl ρ' M'->t D σ H):Rk X st (tSs nm W X.K s'):=Rk.weak h λD σ H ⟨ι,ρ,M,fl,ρ',M',S,R,e,q⟩=>w D σ H ι ρ M fl ρ' M' S R e q
def one{X:Cx}{M1:di}(S:m5 nm X.K ι H M)(R:uw X.K ι H ρ σ)(ha:a'.den W ρ M=.ok x M1)(h:∀ι1 H1 v,Le ι H ι1 H1->m5 nm X.K ι1 H1 M1->uw X.K ι1 H1 ρ σ->Rep X.K ι1 H1 x v->G v H1):tE nm W X.K a' σ H G :=
 ⟨ι,ρ,M,x,M1,S,R,ha,fun ι' H' v le S' r=>h ι' H' v le S' (R.mono le) r⟩
theorem two{X:Cx}{M1 M2:di}{G:V->V->Hp->Prop}(S:m5 nm X.K ι H M)(R:uw X.K ι H ρ σ)(ha:a'.den W ρ M=.ok x M1)(hb:b'.den W ρ M1=.ok y M2)(h:∀ι2 H2 v u,Le ι H ι2 H2->m5 nm X.K ι2 H2 M2->uw X.K ι2 H2 ρ σ->Rep X.K ι2 H2 x v->Rep X.K ι2 H2 y u->G v u H2) :
 tE nm W X.K a' σ H λv H1=>tE nm W X.K b' σ H1 λu H2=>G v u H2 :=
 one S R ha fun ι1 H1 v Vo S1 R1 r1=>one S1 R1 hb fun ι2 H2 u yu S2 R2 r2=>h ι2 H2 v u (Vo.trans yu) S2 R2 (r1.mono yu) r2
set_option tactic.hygienic true in
def a7q(hN:X.N[i]?=some n)(hv:Vis X.env.scope n)(hd:(n==("__debug__" : Str))=false)(hcd:(n==("__classdict__" : Str))=false):PE X (.Name n pos) (tE nm W X.K (.var i)) :=
 PE.of (azf hN hv hd hcd) fun σ H Q ι ρ M d M' S R e q=>by
  rw[MW.aah] at e;split at e
  . rename_i d' hd
    cases e;obtain⟨v,h1,h2⟩:=R.get hd;exact⟨v,h1,q ι H v (Le.refl _ _) S h2⟩
  . cases e
def a7r:PE X (.Constant (.int i) j pos) (tE nm W X.K (.cst (.int i))) :=
 PE.of azg fun σ H Q ι ρ M d M' S R e q=>by rw[MW.Q7] at e;cases e;exact q ι H _ (Le.refl _ _) S (.int i)
def bed:PE X (.Constant (.bool i) j pos) (tE nm W X.K (.cst (.bl i))) :=
 PE.of a5y fun σ H Q ι ρ M d M' S R e q=>by rw[MW.Q7] at e;cases e;exact q ι H _ (Le.refl _ _) S (.bl i)
def a7s:PE X (.Constant .none j pos) (tE nm W X.K (.cst .non)) :=
 PE.of azh fun σ H Q ι ρ M d M' S R e q=>by rw[MW.Q7] at e;cases e;exact q ι H _ (Le.refl _ _) S .non
def a7t:PE X (.Constant (.str i) j pos) (tE nm W X.K (.cst (.str i))) :=
 PE.of azi fun σ H Q ι ρ M d M' S R e q=>by rw[MW.Q7] at e;cases e;exact q ι H _ (Le.refl _ _) S (.str i)
def a0q(hg:Gl X n)(hm:X.mg n=some (.int i t))(hd:(n==("__debug__" : Str))=false):PE X (.Name n pos) (tE nm W X.K (.cst (.int i))) :=
 PE.of (atn (v:=.int i) hg hm ⟨t,rfl⟩ hd) fun σ H Q ι ρ M d M' S R e q=>by rw[MW.Q7] at e;cases e;exact q ι H _ (Le.refl _ _) S (.int i)
def rOp(nm:Nm)(K:Fg)(f:Dv->Dv->di->Res Dv):R2:=λv u H Q=>∃ι M x y d M',m5 nm K ι H M/\Rep K ι H x v/\Rep K ι H y u/\f x y M=.ok d M' /\
 ∀ι' H' w,Le ι H ι' H'->m5 nm K ι' H' M'->Rep K ι' H' d w->Q w H'
def Cr.of(h:Cr X f r)(w:∀v u H Q ι M x y d M',m5 nm X.K ι H M->Rep X.K ι H x v->Rep X.K ι H y u->g x y M=.ok d M'->(∀ι' H' w,Le ι H ι' H'->m5 nm X.K ι' H' M'->Rep X.K ι' H' d w->Q w H')->r v u H Q):Cr X f (rOp nm X.K g) :=
 Cr.weak h λv u H Q ⟨ι,M,x,y,d,M',S,rv,ru,e,q⟩=>w v u H Q ι M x y d M' S rv ru e q
def a7u(ho:Cr X (binaryOp op) (rOp nm X.K (MW.Gf op')))(ha:PE X a (tE nm W X.K a'))(hb:PE X b (tE nm W X.K b')):PE X (.BinOp a op b pos) (tE nm W X.K (.bin op' a' b')) :=
 PE.of (a6o ho ha hb) fun σ H Q ι ρ M d M' S R e q=>by rw[MW.asr] at e;obtain⟨x,M1,e1,e⟩:=dw e;obtain⟨y,M2,e2,e⟩:=dw e;exact two S R e1 e2 fun ι2 H2 v u le S2 _ rv ru=>⟨ι2,M2,x,y,d,M',S2,rv,ru,e,fun ι' H' w Vp S' r=>q ι' H' w (le.trans Vp) S' r⟩
def a7v:Cr X (binaryOp .Sub) (rOp nm X.K (MW.Gf .sub)) :=
 Cr.of az4 λv u H Q ι M x y d M' S rv ru e q=>by obtain⟨i,j,rfl,rfl,e2⟩:=MW.afp e (by intro z;cases z);cases rv;cases ru;cases e2;exact⟨_,_,rfl,rfl,q ι H _ (Le.refl _ _) S (.int _)⟩
def aum{g:Int->Int->Int}{P:Int->Int->Prop}[∀i j,Decidable (P i j)](h:Cr X (binaryOp op) r)(hb:∀x y M,MW.Gf op' x y M=MW.ii x y (λi j=>if P i j then .ok (.int (g i j)) M else .bad) .bad)(w:∀i j H Q,P i j->Q (.int (g i j)) H->r (.int i) (.int j) H Q):Cr X (binaryOp op) (rOp nm X.K (MW.Gf op')) :=
 Cr.of h λv u H Q ι M x y d M' S rv ru e q=>by
  rw[hb] at e;obtain⟨i,j,rfl,rfl,e2⟩:=MW.afp e (by intro z;cases z)
  by_cases hp:P i j
  . rw[cz hp] at e2
    cases rv;cases ru;cases e2;exact w i j H Q hp (q ι H _ (Le.refl _ _) S (.int _))
  . rw[bx hp] at e2;cases e2
def a7w:Cr X (binaryOp .Mult) (rOp nm X.K (MW.Gf .mul)):=aum az5 (λ_ _ _=>rfl) λi j H Q h q=>⟨_,_,rfl,rfl,h,q⟩
def a7x:Cr X (binaryOp .Mod) (rOp nm X.K (MW.Gf .mod)):=aum az6 (λ_ _ _=>rfl) λi j H Q h q=>⟨_,_,rfl,rfl,h,q⟩
def a0r:Cr X (binaryOp .FloorDiv) (rOp nm X.K (MW.Gf .fdiv)):=aum atw (λ_ _ _=>rfl) λi j H Q h q=>⟨_,_,rfl,rfl,h,q⟩
def a7y:Cr X (binaryOp .Pow) (rOp nm X.K (MW.Gf .pow)):=aum az7 (λ_ _ _=>rfl) λi j H Q h q=>⟨_,_,rfl,rfl,⟨h.1,by omega,h.2.2⟩,q⟩
set_option tactic.hygienic true in
def qw{X:Cx}(S:m5 nm X.K ι H M)(r:Rep X.K ι H d v)(h:MW.gf M d=some ds):∃p vs,v=.ref p/\H p=some (.lst vs)/\lz X.K ι H ds vs:=by
 cases r with
 |vl e n r=>simp[MW.gf] at h;subst h;exact⟨_,_,rfl,e,r⟩
 |ref e =>
  rename_i n p;simp only[MW.gf] at h;split at h<;>simp at h;rename_i ds' hn;subst h;obtain⟨vs,h1,h2⟩:=S.obj n _ p hn e;exact⟨p,vs,rfl,h1,h2⟩
 |_=>simp[MW.gf] at h
def Fj{X:Cx}(S:m5 nm X.K ι H M)(r:Rep X.K ι H d v)(h:MW.yr M d=some ds):∃p vs,v=.ref p/\(H p=some (.lst vs)\/H p=some (.tup vs))/\lz X.K ι H ds vs:=by
 cases r with
 |tup e r=>simp[MW.yr] at h;subst h;exact⟨_,_,rfl,.inr e,r⟩
 |vl e n r =>
  obtain⟨p,vs,h1,h2,h3⟩:=qw S (.vl e n r) (show MW.gf M _=_ from h);exact⟨p,vs,h1,.inl h2,h3⟩
 |ref e =>
  obtain⟨p,vs,h1,h2,h3⟩:=qw S (.ref e) (show MW.gf M _=_ from h);exact⟨p,vs,h1,.inl h2,h3⟩
 |_=>simp[MW.yr,MW.gf] at h
def abg{X:Cx}(S:m5 nm X.K ι H M)(hp:H p=none)(r:lz X.K ι H ds vs):m5 nm X.K ι (upd H p (.lst vs)) M/\Le ι H ι (upd H p (.lst vs))/\Rep X.K ι (upd H p (.lst vs)) (.vl ds) (.ref p):=by obtain⟨S1,le⟩:=S.laid hp (.lst vs);exact⟨S1,le,.vl vm (S.fresh hp) (r.mono le)⟩
def K3{X:Cx}(S:m5 nm X.K ι H M)(hp:H p=none)(r:lz X.K ι H ds vs):m5 nm X.K ι (upd H p (.tup vs)) M/\Le ι H ι (upd H p (.tup vs))/\Rep X.K ι (upd H p (.tup vs)) (.tup ds) (.ref p):=by obtain⟨S1,le⟩:=S.laid hp (.tup vs);exact⟨S1,le,.tup vm (r.mono le)⟩
def Vq{X:Cx}(S:m5 nm X.K ι H M)(hp:H p=none)(r:lz X.K ι H ds vs):m5 nm X.K (ι.add p) (upd H p (.lst vs)) (M++[.lst ds])/\Le ι H (ι.add p) (upd H p (.lst vs))/\Rep X.K (ι.add p) (upd H p (.lst vs)) (.ref M.length) (.ref p):=by
 obtain⟨S1,le⟩:=S.new (H':=upd H p (.lst vs)) (o:=.lst ds) hp (λa u e=>by rw[j9 (kj e hp)];exact e) λle=>⟨vs,vm,r.mono le⟩
 exact⟨S1,le,.ref (by show(ι.l++[p])[M.length]?=some p;rw[<- S.len];simp)⟩
def Rq:(100000:Nat)<=sizeLine:=by decide
set_option tactic.hygienic true in
def aun(h:MW.Gf .add x y M=.ok d M'):(∃i j,x=.int i/\y=.int j/\d=.int (i+j)/\M'=M) \/
 (∃xs ys,x=.tup xs/\y=.tup ys/\xs.length+ys.length<=100000/\xs.isEmpty=false/\d=.tup (xs++ys)/\M'=M) \/
 ∃xs ys,MW.gf M x=some xs/\MW.gf M y=some ys/\xs.length+ys.length<=100000/\d=.vl (xs++ys)/\M'=M:=by
 have h:MW.amj x y M=.ok d M':=h;unfold MW.amj at h;split at h<;>try cases h
 . exact .inl ⟨_,_,rfl,rfl,rfl,rfl⟩
 . split at h<;>cases h
   rename_i hc;exact .inr (.inl ⟨_,_,rfl,rfl,hc.1,hc.2,rfl,rfl⟩)
 . split at h
   . split at h<;>cases h
     rename_i h1 h2 hl;exact .inr (.inr ⟨_,_,h1,h2,hl,rfl,rfl⟩)
   . cases h
def a7z:Cr X (binaryOp .Add) (rOp nm X.K (MW.Gf .add)) :=
 Cr.of (az3.or (aov.or auf)) λv u H Q ι M x y d M' S rv ru e q=>by
  have lists:∀xs ys,MW.gf M x=some xs->MW.gf M y=some ys->xs.length+ys.length<=100000->d=.vl (xs++ys)->M'=M->a7l v u H Q:=λxs ys h1 h2 hl hd hm=>by
   subst hd hm;obtain⟨p,vs,rfl,e1,r1⟩:=qw S rv h1;obtain⟨p2,vs2,rfl,e2,r2⟩:=qw S ru h2;refine⟨p,p2,vs,vs2,rfl,rfl,e1,e2,?_,λp3 h3=>?_⟩
   . rw[<- r1.length,<- r2.length];exact iu hl Rq
   . obtain⟨a,b,c⟩:=abg S h3 (r1.append r2)
     exact q ι _ _ b a c
  rcases aun e with⟨i,j,rfl,rfl,rfl,rfl⟩|⟨xs,ys,rfl,rfl,hl,h2,rfl,rfl⟩|⟨xs,ys,h1,h2,hl,h3,h4⟩
  . cases rv;cases ru
    exact .inl ⟨_,_,rfl,rfl,q ι H _ (Le.refl _ _) S (.int _)⟩
  . cases rv with
    |tup e1 r1 =>
     cases ru with
     |tup e2 r2 =>
      refine .inr (.inr ⟨_,_,_,_,rfl,rfl,Jl.of e1,Jl.of e2,?_,?_,λhn=>?_,λ_ p hp=>?_⟩)
      . intro z
        have:=r1.length;rw[z] at this;rw[uo.mp this] at h2;cases h2
      . rw[<- r1.length,<- r2.length];exact iu hl Rq
      . have:=r2.length
        rw[hn] at this;rw[uo.mp this,xx] at q;exact q ι H _ (Le.refl _ _) S (.tup e1 r1)
      . obtain⟨a,b,c⟩:=K3 S hp (r1.append r2)
        exact q ι _ _ b a c
  . exact .inr (.inl (lists _ _ h1 h2 hl h3 h4))
def auo{t:TE}(h:PT X a (fun σ H Q=>t σ H λx H1=>∃c,x=.bl c/\Q c H1))(w:∀σ H Q,tE nm W X.K a' σ H Q->t σ H Q):PT X a (tQ nm W X.K a') :=
 PT.of h fun σ H Q ι ρ M b M' S R e q=>w σ H _ ⟨ι,ρ,M,_,M',S,R,e,fun ι' H' v le S' r=>by cases r;exact⟨b,rfl,q ι' H' le S'⟩⟩
def a70(h:PE X a (tE nm W X.K a'))(he:∀whole,isTrue a X.env whole=(do let v <- whole;standAt a.pos;holding [v] (truthy v))):PT X a (tQ nm W X.K a') :=
 auo (azl h he) λ_ _ _ q=>q
def Ww(nm:Nm)(K:Fg)(op:Cp):R2:=λv u H Q=>∃ι M x y b,m5 nm K ι H M/\Rep K ι H x v/\Rep K ι H y u/\MW.Lz op x y M=some b/\Q (.bl b) H
def ad1{X:Cx}:∀σ H Q,tE nm W X.K (.cmp op' a' b') σ H Q->tOp (Ww nm X.K op') (tE nm W X.K a') (tE nm W X.K b') σ H Q:=fun σ H Q hh=>by obtain⟨ι,ρ,M,d,M',S,R,e,q⟩:=hh;rw[MW.asu] at e;obtain⟨x,M1,e1,e⟩:=dw e;obtain⟨y,M2,e2,e⟩:=dw e;obtain⟨e,rfl⟩:=ux e;obtain⟨b,e3,rfl⟩:=cj.mp e;exact two S R e1 e2 fun ι2 H2 v u le S2 _ rv ru=>⟨ι2,M',x,y,b,S2,rv,ru,e3,q ι2 H2 _ le S2 (.bl b)⟩
def a71(ho:Cr X (compareOp op) (Ww nm X.K op'))(ha:PE X a (tE nm W X.K a'))(hb:PE X b (tE nm W X.K b'))(hm:behindInMarks op b=false):PE X (.Compare a [op] [b] pos) (tE nm W X.K (.cmp op' a' b')) :=
 PE.weak (atx ho ha hb hm) ad1
def a72(ho:Cr X (compareOp op) (Ww nm X.K op'))(ha:PE X a (tE nm W X.K a'))(hb:PE X b (tE nm W X.K b'))(hm:behindInMarks op b=false):PT X (.Compare a [op] [b] pos) (tQ nm W X.K (.cmp op' a' b')) :=
 auo (t:=tOp (Ww nm X.K op') (tE nm W X.K a') (tE nm W X.K b')) (aty ho ha hb hm) ad1
def Wx{X:Cx}:∀σ H Q,tE nm W X.K (.chain op1 op2 a' b' c') σ H Q->aa4 (Ww nm X.K op1) (Ww nm X.K op2) (tE nm W X.K a') (tE nm W X.K b') (tE nm W X.K c') σ H Q:=fun σ H Q hh=>by
 obtain⟨ι,ρ,M,d,M',S,R,e,q⟩:=hh;rw[MW.ajo] at e;obtain⟨x,M1,e1,e⟩:=dw e;obtain⟨y,M2,e2,e⟩:=dw e;obtain⟨k,M2',e3,e⟩:=dw e;obtain⟨e3,rfl⟩:=ux e3;refine two S R e1 e2 fun ι2 H2 v u le S2 R2 rv ru=>⟨ι2,M2',x,y,k,S2,rv,ru,e3,k,rfl,?_⟩
 cases k with
 |false =>
  have e:Res.ok (MW.D.bl false) M2'=.ok d M':=e;cases e;exact q ι2 H2 _ le S2 (.bl false)
 |true =>
  have e:((c'.den W ρ M2').bind λz M3=>Res.qi ((MW.Lz op2 y z M3).map MW.D.bl) M3)=.ok d M':=e;obtain⟨z,M3,e4,e⟩:=dw e;obtain⟨e,rfl⟩:=ux e;obtain⟨b,e5,rfl⟩:=cj.mp e;show tE nm W X.K c' σ H2 _;exact one S2 R2 e4 fun ι3 H3 w Zf S3 _ rw=>⟨ι3,M',y,z,b,S3,ru.mono Zf,rw,e5,q ι3 H3 _ (le.trans Zf) S3 (.bl b)⟩
def aup(h1:Cr X (compareOp o1) (Ww nm X.K op1))(h2:Cr X (compareOp o2) (Ww nm X.K op2))(ha:PE X a (tE nm W X.K a'))(hb:PE X b (tE nm W X.K b'))(hc:PE X c (tE nm W X.K c'))(hm:lastMarks [o1,o2] [b,c]=false) :
 PE X (.Compare a [o1,o2] [b,c] pos) (tE nm W X.K (.chain op1 op2 a' b' c')):=PE.weak (aob h1 h2 ha hb hc hm) Wx
def auq(h1:Cr X (compareOp o1) (Ww nm X.K op1))(h2:Cr X (compareOp o2) (Ww nm X.K op2))(ha:PE X a (tE nm W X.K a'))(hb:PE X b (tE nm W X.K b'))(hc:PE X c (tE nm W X.K c'))(hm:lastMarks [o1,o2] [b,c]=false) :
 PT X (.Compare a [o1,o2] [b,c] pos) (tQ nm W X.K (.chain op1 op2 a' b' c')):=auo (t:=aa4 (Ww nm X.K op1) (Ww nm X.K op2) (tE nm W X.K a') (tE nm W X.K b') (tE nm W X.K c')) (aoc h1 h2 ha hb hc hm) Wx
def abh(h:Cr X (compareOp op) (rI0 λi j=>.bl (f i j)))(e:∀x y M,MW.Lz op' x y M=MW.acq f x y):Cr X (compareOp op) (Ww nm X.K op') :=
 Cr.weak h λv u H Q hh=>by obtain⟨ι,M,x,y,b,S,rv,ru,e',q⟩:=hh;rw[e] at e';obtain⟨i,j,rfl,rfl,e2⟩:=MW.afp e' (by intro z;cases z);cases rv;cases ru;cases e2;exact⟨_,_,rfl,rfl,q⟩
def bef:Cr X (compareOp .Lt) (Ww nm X.K .lt):=abh a6t λ_ _ _=>rfl
def beh:Cr X (compareOp .LtE) (Ww nm X.K .le):=abh a6u λ_ _ _=>rfl
def bei:Cr X (compareOp .Gt) (Ww nm X.K .gt):=abh a6v λ_ _ _=>rfl
def bej:Cr X (compareOp .GtE) (Ww nm X.K .ge):=abh a6w λ_ _ _=>rfl
set_option tactic.hygienic true in
def axl{rest:Ya}(ha:PE X a (tE nm W X.K a'))(hb:PE X (.BoolOp .And (b::rest) pos) (tE nm W X.K b')):PE X (.BoolOp .And (a::b::rest) pos) (tE nm W X.K (.and a' b')) :=
 PE.of (azp ha hb) fun σ H Q ι ρ M d M' S R e q=>by
  rw[MW.ahd] at e;obtain⟨x,M1,e1,e⟩:=dw e;refine one S R e1 fun ι1 H1 v le S1 R1 r=>?_
  cases r<;>try cases e
  rename_i k;refine⟨k,rfl,?_⟩;cases k with
  |false=>cases e;exact q ι1 H1 _ le S1 (.bl false)|true=>exact one S1 R1 e fun ι2 H2 w yu S2 _ r2=>q ι2 H2 w (le.trans yu) S2 r2
set_option tactic.hygienic true in
def a73{rest:Ya}(ha:PE X a (tE nm W X.K a'))(hb:PE X (.BoolOp .Or (b::rest) pos) (tE nm W X.K b')):PE X (.BoolOp .Or (a::b::rest) pos) (tE nm W X.K (.or a' b')) :=
 PE.of (a6c ha hb) fun σ H Q ι ρ M d M' S R e q=>by
  rw[MW.amk] at e;obtain⟨x,M1,e1,e⟩:=dw e;refine one S R e1 fun ι1 H1 v le S1 R1 r=>?_
  cases r<;>try cases e
  rename_i k;refine⟨k,rfl,?_⟩;cases k with
  |true=>cases e;exact q ι1 H1 _ le S1 (.bl true)|false=>exact one S1 R1 e fun ι2 H2 w yu S2 _ r2=>q ι2 H2 w (le.trans yu) S2 r2
def a74(ha:PE X a (tE nm W X.K a')):PE X (.UnaryOp .Not a pos) (tE nm W X.K (.not a')) :=
 PE.of (azq ha) fun σ H Q ι ρ M d M' S R e q=>by
  rw[MW.ahe] at e;obtain⟨x,M1,e1,e⟩:=dw e;refine one S R e1 fun ι1 H1 v le S1 R1 r=>?_
  cases r<;>try cases e
  exact⟨_,rfl,q ι1 H1 _ le S1 (.bl _)⟩
def Yc{X:Cx}{M1:di}(S:m5 nm X.K ι H M)(R:uw X.K ι H ρ σ)(ha:a'.den W ρ M=.ok (.bl k) M1)(h:∀ι1 H1,Le ι H ι1 H1->m5 nm X.K ι1 H1 M1->uw X.K ι1 H1 ρ σ->G k H1):tQ nm W X.K a' σ H G :=
 ⟨ι,ρ,M,k,M1,S,R,ha,fun ι' H' le S'=>h ι' H' le S' (R.mono le)⟩
set_option tactic.hygienic true in
def axm{rest:Ya}(ha:PT X a (tQ nm W X.K a'))(hb:PW X (.BoolOp .And (b::rest) pos) (tQ nm W X.K b')):PW X (.BoolOp .And (a::b::rest) pos) (tQ nm W X.K (.and a' b')) :=
 λwhole pins s σ H Q I ⟨ι,ρ,M,d,M',S,R,e,q⟩=>azn ha hb whole pins s σ H Q I (by
  rw[MW.ahd] at e;obtain⟨x,M1,e1,e⟩:=dw e;cases x<;>try cases e
  rename_i k;refine Yc S R e1 fun ι1 H1 le S1 R1=>?_
  cases k with
  | false=>cases e;exact q ι1 H1 le S1|true=>exact Yc S1 R1 e fun ι2 H2 yu S2 _=>q ι2 H2 (le.trans yu) S2)
set_option tactic.hygienic true in
def a75{rest:Ya}(ha:PT X a (tQ nm W X.K a'))(hb:PW X (.BoolOp .Or (b::rest) pos) (tQ nm W X.K b')):PW X (.BoolOp .Or (a::b::rest) pos) (tQ nm W X.K (.or a' b')) :=
 λwhole pins s σ H Q I ⟨ι,ρ,M,d,M',S,R,e,q⟩=>a5z ha hb whole pins s σ H Q I (by
  rw[MW.amk] at e;obtain⟨x,M1,e1,e⟩:=dw e;cases x<;>try cases e
  rename_i k;refine Yc S R e1 fun ι1 H1 le S1 R1=>?_
  cases k with
  | true=>cases e;exact q ι1 H1 le S1|false=>exact Yc S1 R1 e fun ι2 H2 yu S2 _=>q ι2 H2 (le.trans yu) S2)
def a76(ha:PT X a (tQ nm W X.K a')):PT X (.UnaryOp .Not a pos) (tQ nm W X.K (.not a')) :=
 PT.of (azo ha) fun σ H Q ι ρ M d M' S R e q=>by
  rw[MW.ahe] at e;obtain⟨x,M1,e1,e⟩:=dw e;cases x<;>try cases e
  exact Yc S R e1 fun ι1 H1 le S1 R1=>q ι1 H1 le S1
set_option tactic.hygienic true in
def a77(hc:PT X c (tQ nm W X.K c'))(ha:PE X a (tE nm W X.K a'))(hb:PE X b (tE nm W X.K b')):PE X (.IfExp c a b pos) (tE nm W X.K (.ite c' a' b')) :=
 PE.of (anp hc ha hb) fun σ H Q ι ρ M d M' S R e q=>by
  rw[MW.asv] at e;obtain⟨x,M1,e1,e⟩:=dw e;cases x<;>try cases e
  rename_i k;refine Yc S R e1 fun ι1 H1 le S1 R1=>?_
  cases k with
  |true=>exact one S1 R1 e fun ι2 H2 w yu S2 _ r2=>q ι2 H2 w (le.trans yu) S2 r2
  |false=>exact one S1 R1 e fun ι2 H2 w yu S2 _ r2=>q ι2 H2 w (le.trans yu) S2 r2
def Rr:PA X [] (Vn nm W X.K .nil):=PA.of a0c fun σ H Q ι ρ M ds M' S R e q=>by rw[MW.V7] at e;cases e;exact q ι H _ (Le.refl _ _) S .nil
def Wy{X:Cx}{M1:di}(S:m5 nm X.K ι H M)(R:uw X.K ι H ρ σ)(ha:es'.den W ρ M=.ok ds M1)(h:∀ι1 H1 vs,Le ι H ι1 H1->m5 nm X.K ι1 H1 M1->uw X.K ι1 H1 ρ σ->lz X.K ι1 H1 ds vs->G vs H1):Vn nm W X.K es' σ H G :=
 ⟨ι,ρ,M,ds,M1,S,R,ha,fun ι' H' v le S' r=>h ι' H' v le S' (R.mono le) r⟩
def Jm(ha:PE X a (tE nm W X.K a'))(hr:PA X es (Vn nm W X.K es'))(hs:starEach (a::es) X.env=(false,eval a X.env)::starEach es X.env):PA X (a::es) (Vn nm W X.K (.cons a' es')) :=
 PA.of (at7 ha hr hs) fun σ H Q ι ρ M ds M' S R e q=>by rw[MW.Ju] at e;obtain⟨x,M1,e1,e⟩:=dw e;obtain⟨xs,M2,e2,e⟩:=dw e;cases e;exact one S R e1 fun ι1 H1 v le S1 R1 r1=>Wy S1 R1 e2 fun ι2 H2 vs yu S2 R2 r2=>q ι2 H2 _ (le.trans yu) S2 (.cons (r1.mono yu) r2)
noncomputable def Cz.len:Cz->Nat
 |.nil=>0|.cons _ r=>Cz.len r+1
theorem Hx{W:Jp}:∀{es':Cz}{ρ:En}{M M1:di}{ds:List Dv},es'.den W ρ M=.ok ds M1->ds.length=Cz.len es'
 |.nil,_,_,_,_,e=>by rw[MW.V7] at e;cases e;rfl
 |.cons _ r,_,_,_,_,e=>by
  rw[MW.Ju] at e;obtain⟨x,M1,e1,e⟩:=dw e;obtain⟨xs,M2,e2,e⟩:=dw e;cases e;rw[gr,Hx e2];rfl
def a78(h:PA X es (Vn nm W X.K es'))(hl:Cz.len es'<=1000):PE X (.Tuple es k pos) (tE nm W X.K (.tup es')) :=
 PE.of (a0d h) fun σ H Q ι ρ M d M' S R e q=>by
  rw[MW.asw] at e;obtain⟨ds,M1,e1,e⟩:=dw e;cases e;refine Wy S R e1 fun ι1 H1 vs le S1 R1 r=>⟨?_,λp hp=>?_⟩
  . rw[<- r.length,Hx e1];exact iu hl (by decide)
  . obtain⟨S2,yu,r2⟩:=K3 S1 hp r
    exact q ι1 _ _ (le.trans yu) S2 r2
def a0u(h:PA X es (Vn nm W X.K es'))(hl:Cz.len es'<=1000):PE X (.List es pos) (tE nm W X.K (.Kp es')) :=
 PE.of (aof h) fun σ H Q ι ρ M d M' S R e q=>by
  rw[MW.aml] at e;obtain⟨ds,M1,e1,e⟩:=dw e;cases e;refine Wy S R e1 fun ι1 H1 vs le S1 R1 r=>⟨?_,λp hp=>?_⟩
  . rw[<- r.length,Hx e1];exact iu hl (by decide)
  . obtain⟨S2,yu,r2⟩:=abg S1 hp r
    exact q ι1 _ _ (le.trans yu) S2 r2
def a79(h:PA X es (Vn nm W X.K es'))(hl:Cz.len es'<=1000):PE X (.List es pos) (tE nm W X.K (.lst es')) :=
 PE.of (aof h) fun σ H Q ι ρ M d M' S R e q=>by
  rw[MW.asx] at e;obtain⟨ds,M1,e1,e⟩:=dw e;cases e;refine Wy S R e1 fun ι1 H1 vs le S1 R1 r=>⟨?_,λp hp=>?_⟩
  . rw[<- r.length,Hx e1];exact iu hl (by decide)
  . obtain⟨S2,yu,r2⟩:=Vq S1 hp r
    exact q _ _ _ (le.trans yu) S2 r2
def a8a(ha:PE X a (tE nm W X.K a')):PE X (.UnaryOp .USub a pos) (tE nm W X.K (.neg a')) :=
 PE.of (a6p az8 ha) fun σ H Q ι ρ M d M' S R e q=>by
  rw[MW.ass] at e;obtain⟨x,M1,e1,e⟩:=dw e;refine one S R e1 fun ι1 H1 v le S1 R1 r=>?_
  cases r<;>try cases e
  exact⟨_,rfl,q ι1 H1 _ le S1 (.int _)⟩
open PyProof.Rows (subscriptTail)
section
variable{κ:Type}[DecidableEq κ]{K:Fg}{ι:Io}{H:Hp}
theorem qp.length{κ κ':Type}{f:κ->κ'->Prop}:∀{l:List (κ×Dv)}{l':List (κ'×V)},qp K ι H f l l'->l.length=l'.length
 |_,_,.nil=>rfl|_,_,.cons _ _ t=>by rw[gr,gr,qp.length t]
theorem qp.look{k:κ}:∀{gw:List (κ×Dv)}{l:List (κ×V)},qp K ι H (λk k'=>k=k') gw l->(∀d,MW.zg gw k=some d->∃v,Rm l k=some v/\Rep K ι H d v)/\(MW.zg gw k=none->Rm l k=none)
 |_,_,.nil=>⟨λd h=>by simp[MW.zg] at h,λ_=>rfl⟩
 |_,_,.cons (k:=q) (k':=q') hk h t=>by
  subst hk;obtain⟨a,b⟩:=qp.look (k:=k) t
  by_cases e:q=k
  . refine⟨λd hd=>?_,λhd=>?_⟩
    . simp[MW.zg,qt,e] at hd
      subst hd;exact⟨_,Rn e,h⟩
    . simp[MW.zg,qt,e] at hd
  . have z:∀(d:Dv) r,MW.zg ((q,d)::r) k=MW.zg r k:=λd r=>by simp[MW.zg,qt,e]
    rw[z,Ro (by exact e)];exact⟨a,b⟩
theorem qp.any{k:κ}:∀{gw:List (κ×Dv)}{l:List (κ×V)},qp K ι H (λk k'=>k=k') gw l->(gw.any λkv=>decide (kv.1=k))=(l.any λkv=>decide (kv.1=k))
 |_,_,.nil=>rfl|_,_,.cons hk h t=>by subst hk;simp only[List.any_cons,qp.any t]
theorem qp.Hw{k:κ}{d:Dv}{v:V}(r:Rep K ι H d v):∀{gw:List (κ×Dv)}{l:List (κ×V)},qp K ι H (λk k'=>k=k') gw l ->
 qp K ι H (λk k'=>k=k') (gw.map λkv=>if kv.1=k then(kv.1,d) else kv) (l.map λkv=>if kv.1=k then(kv.1,v) else kv)
 |_,_,.nil=>.nil
 |_,_,.cons (k:=q) hk h t=>by
  subst hk;simp only[ie]
  by_cases e:q=k
  . simp only[e,jy];exact .cons rfl r (qp.Hw r t)
  . simp only[e,jo];exact .cons rfl h (qp.Hw r t)
theorem qp.snoc{κ κ':Type}{f:κ->κ'->Prop}{k:κ}{k':κ'}{d:Dv}{v:V}(hk:f k k')(r:Rep K ι H d v):∀{l:List (κ×Dv)}{l':List (κ'×V)},qp K ι H f l l'->qp K ι H f (l++[(k,d)]) (l'++[(k',v)])
 |_,_,.nil=>.cons hk r .nil|_,_,.cons q h t=>.cons q h (qp.snoc hk r t)
def qp.put{k:κ}(r:Rep K ι H d v)(t:qp K ι H (λk k'=>k=k') gw l):qp K ι H (λk k'=>k=k') (MW.Dh gw k d) (putK l k v):=by
 unfold MW.Dh putK;rw[t.any (k:=k)]
 by_cases e:(l.any λkv=>decide (kv.1=k))=true
 . rw[cz e,cz e];exact t.Hw r
 . rw[bx e,bx e];exact t.snoc rfl r
theorem qp.fld{nm:Nm}{f:Nat}:∀{fs:List (Nat×Dv)}{l:List (Str×V)},qp K ι H (λk k'=>k'=nm.fld k) fs l->(∀d,fs.lookup f=some d->∃v,l.lookup (nm.fld f)=some v/\Rep K ι H d v)/\(fs.lookup f=none->l.lookup (nm.fld f)=none)
 |_,_,.nil=>⟨λd h=>by simp at h,λ_=>rfl⟩
 |_,_,.cons (k:=q) (k':=q') hk h t=>by
  subst hk;obtain⟨a,b⟩:=qp.fld (nm:=nm) (f:=f) t;rw[m9,m9]
  by_cases e:f=q
  . subst e
    simp only[yz];exact⟨λd hd=>by cases hd;exact⟨_,rfl,h⟩,λhd=>by cases hd⟩
  . have e1:(f==q)=false:=by simpa using e
    have e2:(nm.fld f==nm.fld q)=false:=by
     cases z:nm.fld f==nm.fld q with
     |false=>rfl|true=>exact absurd (nm.inj _ _ (eq_of_beq z)) e
    rw[e1,e2];exact⟨a,b⟩
theorem qp.Ig{nm:Nm}{f:Nat}{d:Dv}{v:V}(r:Rep K ι H d v):∀{fs:List (Nat×Dv)}{l:List (Str×V)},qp K ι H (λk k'=>k'=nm.fld k) fs l->qp K ι H (λk k'=>k'=nm.fld k) (MW.Ue f d fs) (L2.Ig (nm.fld f) v l)
 |_,_,.nil=>.cons rfl r .nil
 |_,_,.cons (k:=q) (k':=q') hk h t=>by
  subst hk;unfold MW.Ue L2.Ig
  by_cases e:q=f
  . subst e
    simp only[jy];exact .cons rfl r t
  . have e2:¬nm.fld q=nm.fld f:=λz=>e (nm.inj _ _ z)
    rw[bx e,bx e2];exact .cons rfl h (qp.Ig r t)
def Tu(r:Rep K ι H d v)(h:MW.Tc d=some k):v=kV k:=by cases r<;>simp[MW.Tc] at h<;>subst h<;>rfl
set_option tactic.hygienic true in
theorem ao3:∀{ds:List Dv}{vs:List V}{ks:List Kx},lz K ι H ds vs->MW.aae ds=some ks->vs=ks.map kV
 |_,_,_,.nil,h=>by simp[MW.aae] at h;subst h;rfl
 |_,_,_,.cons r t,h=>by
  simp only[MW.aae] at h;split at h
  . rename_i k ks' h1 h2
    cases h;rw[Tu r h1,ao3 t h2];rfl
  . cases h
def Tv(r:Rep K ι H d v)(h:MW.Qk d=some ks):∃b,v=.ref b/\H b=some (.tup (ks.map kV)):=by
 cases r with
 |tup e r=>exact⟨_,rfl,by rw[<- ao3 r h];exact e⟩|_=>simp[MW.Qk] at h
end
def aur{α:Type}{xs:List α}(h:MW.O8 xs.length i=some j):ixN xs.length i=some j:=h
def bek(nm:Nm)(K:Fg):R2:=λv u H Q=>∃ι M x y d,m5 nm K ι H M/\Rep K ι H x v/\Rep K ι H y u/\MW.Ax x y M=some d/\∀w,Rep K ι H d w->Q w H
def ao4(hu:X.A.units+1<cLine):IxR X (λx y H Q=>∃a v,x=.ref a/\Mf H a y (some v)/\Q v H):=by intro value slice pins s σ H x y v u Q I rx ry h hs;obtain⟨p,z,rfl,g,q⟩:=h;cases rx;exact PyProof.Rows.tail_any (adq I g) PySem.F.slot_dict_getitem.lookup (ake hu I g ry λw' s' I' r=>⟨z,H,I',r,q⟩) hs
set_option tactic.hygienic true in
def a0v(hu:X.A.units+1<cLine):IxR X (bek nm X.K):=by
 intro value slice pins s σ H v u v' u' Q I rv ru ⟨ι,M,x,y,d,S,rx,ry,e,q⟩ hs;have seq:∀(p:Addr)(vs:List V)(ds:List Dv),v=.ref p->(Gd X.K H p vs\/Jl X.K H p vs)->lz X.K ι H ds vs->(match y with|.int i=>(MW.O8 ds.length i).bind λj=>ds[j]?|_=>none)=some d ->
  wpAny (model X.prog X.w) X.A (subscriptTail value slice v' u') (EP X pins σ Q) X.xe s:=λp vs ds hv hq r e=>by
  subst hv;obtain⟨i,hyi⟩:∃i,y=.int i:=by cases y<;>first|exact⟨_,rfl⟩|cases e
  subst hyi;cases ry;obtain⟨j,e1,e2⟩:=dj.mp e;obtain⟨z,h1,h2⟩:=r.get e2;have hat:atI vs i=some z:=by unfold atI;rw[show ixN vs.length i=some j from by rw[<- r.length];exact e1];exact h1
  rcases hq with hq|hq
  . exact L2.Cj value slice pins s σ H _ _ v' u' Q I rv ru ⟨p,vs,i,z,rfl,rfl,hq,hat,q z h2⟩ hs
  . exact L2.Kq value slice pins s σ H _ _ v' u' Q I rv ru ⟨p,vs,i,z,rfl,rfl,hq,hat,q z h2⟩ hs
 cases rx with
 |tup e1 r1=>exact seq _ _ _ rfl (.inr (Jl.of e1)) r1 (by cases ry<;>first|exact e|(simp[MW.Ax,MW.yr] at e))
 |vl e1 n1 r1=>exact seq _ _ _ rfl (.inl (Gd.of e1)) r1 (by cases ry<;>first|exact e|(simp[MW.Ax,MW.yr,MW.gf] at e))
 |fz e1 r1=>exact seq _ _ _ rfl (.inl e1.sq) r1 (by cases ry<;>first|exact e|(simp[MW.Ax] at e))
 |ref e1 =>
  rename_i n p;simp only[MW.Ax] at e;split at e
  . rename_i gw hn
    obtain⟨l,h1,h2⟩:=S.obj n _ p hn e1;obtain⟨k,e2,e3⟩:=dj.mp e;obtain⟨z,h3,h4⟩:=(h2.look (k:=k)).1 d e3;obtain⟨b,rfl,hb⟩:=Tv ry e2;exact ao4 hu value slice pins s σ H _ _ v' u' Q I rv ru ⟨p,z,rfl,by rw[<- h3];exact Mf.t h1 hb,q z h4⟩ hs
  . rename_i gw hn
    obtain⟨l,h1,h2⟩:=S.obj n _ p hn e1;obtain⟨k,e2,e3⟩:=dj.mp e;obtain⟨z,h3,h4⟩:=(h2.look (k:=k)).1 d e3;have hy:=Tu ry e2;subst hy;exact ao4 hu value slice pins s σ H _ _ v' u' Q I rv ru ⟨p,z,rfl,by rw[<- h3];exact Mf.k h1,q z h4⟩ hs
  . cases hl:MW.gf M (.ref n) with
    |none=>rw[hl] at e;cases e
    |some ds =>
     obtain⟨p',vs,hp,h1,h2⟩:=qw S (.ref e1) hl;cases hp;rw[hl] at e;exact seq _ _ _ rfl (.inl (Gd.of h1)) h2 (by cases ry<;>first|exact e|cases e)
 |_=>simp[MW.Ax,MW.yr,MW.gf] at e
def bel(hu:X.A.units+1<cLine)(ha:PE X a (tE nm W X.K a'))(hb:PE X b (tE nm W X.K b'))(hs:aa8 b):PE X (.Subscript a b pos) (tE nm W X.K (.ix a' b')) :=
 PE.of (a7g (a0v (nm:=nm) hu) ha hb hs) fun σ H Q ι ρ M d M' S R e q=>by rw[MW.ayk] at e;obtain⟨x,M1,e1,e⟩:=dw e;obtain⟨y,M2,e2,e⟩:=dw e;obtain⟨e,rfl⟩:=ux e;exact two S R e1 e2 fun ι2 H2 v u le S2 _ rv ru=>⟨ι2,M',x,y,d,S2,rv,ru,e,λw r=>q ι2 H2 w le S2 r⟩
set_option tactic.hygienic true in
def a8b(hn:n=nm.fld f)(hcl:∀c C,nm.cls c=some C->Cls X.K C/\Gu X.K C n)(ha:PE X a (tE nm W X.K a'))(hb:attributeBase a n X.env (eval a X.env)=eval a X.env):PE X (.Attribute a n pos) (tE nm W X.K (.fld a' f)) :=
 PE.of (a0a ha hb) fun σ H Q ι ρ M d M' S R e q=>by
  rw[MW.asz] at e;obtain⟨x,M1,e1,e⟩:=dw e;obtain⟨e,rfl⟩:=ux e;refine one S R e1 fun ι1 H1 v le S1 R1 r=>?_
  obtain⟨m,hxm⟩:∃m,x=.ref m:=by cases x<;>first|exact⟨_,rfl⟩|cases e
  subst hxm;obtain⟨p,rfl,hp⟩:∃p,v=.ref p/\ι1.l[m]?=some p:=by cases r with|ref z=>exact⟨_,rfl,z⟩
  simp only[MW.Q5] at e;split at e
  . rename_i c fs hm
    obtain⟨C,dx,l,h1,h2,h3⟩:=S1.obj m _ p hm hp;obtain⟨z,h4,h5⟩:=(h3.fld (nm:=nm) (f:=f)).1 d e;subst hn;obtain⟨g1,g2⟩:=hcl c C h1;exact⟨p,C,dx,l,z,rfl,h2,g1,g2,h4,q ι1 H1 z le S1 h5⟩
  . cases e
open MW (Ex Cz OEx Pg Br o6 Lv Tg Res di MO Jp Cp Op2 Blt Bm Kx Src)
noncomputable def Tw:Expr->Bool
 |.ListComp ..=>false|.SetComp ..=>false|.DictComp ..=>false|_=>true
def N8(h:Tw e=true)(t:Option Expr)(l:Nat)(env:Env):swapsWith e t l env=pure false:=by cases e<;>first|rfl|(cases h)
noncomputable def Gw:Expr->Bool
 |.Set ..=>false|_=>true
def Dy(h:Gw e=true)(env:Env)(x:Value):foldedSetIterable e env x=pure x:=by cases e<;>first|rfl|(cases h)
def U3(h:Gw e=true)(op:CmpOp):behindInMarks op e=false:=by cases e<;>first|rfl|(cases h)
noncomputable def axn:Expr->Bool
 |.Tuple ..=>false|_=>true
noncomputable def noStar:Expr->Bool
 |.Starred ..=>false|_=>true
def mq(h:noStar e=true)(es:Ya)(env:Env):starEach (e::es) env=(false,eval e env)::starEach es env:=by cases e<;>first|rfl|(cases h)
noncomputable def abi:Expr->Bool
 |.Slice ..=>false|_=>true
def ao5(h:abi e=true):aa8 e:=by intro o i;cases e<;>first|rfl|(cases h)
noncomputable def Bh:Tg->List Nat
 |.name i=>[i]|.names is=>is
def tGt(nm:Nm)(K:Fg)(t:Tg):TG:=λv σ H Q=>∃ι ρ M d ρ',m5 nm K ι H M/\uw K ι H ρ σ/\Rep K ι H d v/\t.put d ρ=some ρ'/\∀σ',uw K ι H ρ' σ'->σ'.length=σ.length->(∀j,j∉Bh t->σ'[j]?=σ[j]?)->Q σ' H
def PG.weak(h:PG X tg t)(w:∀v σ H Q,t' v σ H Q->t v σ H Q):PG X tg t':=λpins s σ H v u Q I r q=>h pins s σ H v u Q I r (w v σ H Q q)
def PG.of(h:PG X tg t)(w:∀v σ H Q ι ρ M d ρ',m5 nm X.K ι H M->uw X.K ι H ρ σ->Rep X.K ι H d v->tt.put d ρ=some ρ'->(∀σ',uw X.K ι H ρ' σ'->σ'.length=σ.length->(∀j,j∉Bh tt->σ'[j]?=σ[j]?)->Q σ' H)->t v σ H Q):PG X tg (tGt nm X.K tt) :=
 PG.weak h λv σ H Q ⟨ι,ρ,M,d,ρ',S,R,r,e,q⟩=>w v σ H Q ι ρ M d ρ' S R r e q
def a0w(hN:X.N.Nodup)(hi:X.N[i]?=some n)(hx:Loc X.env.scope n)(hf:X.fn n=true\/X.env.scope.names.lookup n=some .local):PG X (.Name n pos) (tGt nm X.K (.name i)) :=
 PG.of (aa3 hN hi hx hf) λv σ H Q ι ρ M d ρ' S R r e q=>by cases e;exact q _ (R.set r i) (by simp) λj hj=>vq (λz=>hj (by simp[Bh,z]))
noncomputable def K4:List Nat->List V->St->St
 |i::is,v::vs,σ=>K4 is vs (σ.set i (some v))|_,_,σ=>σ
theorem Wz{ι:Io}{H:Hp}{K:Fg}:∀{is:Y3}{ds:List Dv}{vs:List V}{ρ:En}{σ:St},uw K ι H ρ σ->lz K ι H ds vs->uw K ι H (MW.Ql is ds ρ) (K4 is vs σ)
 |[],_,_,_,_,R,r=>by cases r<;>exact R|_::_,_,_,_,_,R,.nil=>R|i::is,_,_,_,_,R,.cons h t=>Wz (is:=is) (R.set h i) t
theorem Rt:∀{is:Y3}{vs:List V}{σ:St}{j:Nat},j∉is->(K4 is vs σ)[j]?=σ[j]?
 |[],vs,σ,j,_=>by cases vs<;>rfl|i::is,[],σ,j,_=>rfl
 |i::is,v::vs,σ,j,h=>by
  show(K4 is vs (σ.set i (some v)))[j]?=_;rw[Rt (λz=>h (bh _ z)),vq (λz=>h (by rw[z];exact dh))]
theorem U4:∀{is:Y3}{vs:List V}{σ:St},(K4 is vs σ).length=σ.length
 |[],vs,σ=>by cases vs<;>rfl|_::_,[],σ=>rfl|i::is,v::vs,σ=>by show(K4 is vs (σ.set i (some v))).length=_;rw[U4,List.length_set]
inductive K5(X:Cx):List Expr->List Nat->Prop
 |nil:K5 X [] []
 |cons {n:Str} {p:Pos} {i:Nat} {ts:Ya} {is:Y3} (hi:X.N[i]?=some n) (hx:Loc X.env.scope n) (hf:X.fn n=true\/X.env.scope.names.lookup n=some .local) (t:K5 X ts is):K5 X (.Name n p::ts) (i::is)
theorem ad2{X:Cx}(hN:X.N.Nodup):∀{ts:Ya}{is:Y3},K5 X ts is->PGs X ts (λvs σ H Q=>vs.length=is.length/\Q (K4 is vs σ) H)
 |_,_,.nil=>λpins s σ H vs us Q I r q=>by
  obtain⟨h1,h2⟩:=q;have hv:vs=[]:=uo.mp h1;subst hv;exact atr pins s σ H [] us Q I r ⟨rfl,h2⟩
 |_,_,.cons hi hx hf t=>λpins s σ H vs us Q I r q=>by
  obtain⟨h1,h2⟩:=q;cases vs with
  |nil=>simp at h1|cons v vs=>exact ant (aa3 hN hi hx hf) (ad2 hN t) (by rfl) pins s σ H (v::vs) us Q I r ⟨v,vs,rfl,by simpa using h1,h2⟩
theorem Fl{X:Cx}{env:Env}:∀{ts:Ya}{is:Y3},K5 X ts is->(assignEach ts env).length=is.length/\(assignEach ts env).findIdx? (·.1)=none
 |_,_,.nil=>⟨rfl,rfl⟩
 |_,_,.cons hi hx hf t=>by
  obtain⟨g1,g2⟩:=Fl (env:=env) t;refine⟨by simp[assignEach,g1],?_⟩;simp[assignEach,List.findIdx?_cons];simpa using g2
set_option tactic.hygienic true in
def aus(hc:X.calm=true)(hN:X.N.Nodup)(h:K5 X ts is):PG X (.Tuple ts k pos) (tGt nm X.K (.names is)) :=
 PG.of (azv hc (ad2 hN h) (Fl h).1 (Fl h).2) λv σ H Q ι ρ M d ρ' S R r e q=>by
  cases r with
  |tup e1 r1 =>
   simp only[Tg.put] at e;split at e<;>cases e;rename_i hl;exact⟨_,_,rfl,Jl.of e1,by rw[<- r1.length];exact hl,by rw[<- r1.length];exact hl,q _ (Wz R r1) U4 λj hj=>Rt hj⟩
  |_=>simp[Tg.put] at e
def ao6(he:PE X a (tE nm W X.K a'))(hg:PG X tg (tGt nm X.K t))(hs:swapsWithSole [tg] a pos.line X.env=pure false)(hw:swappedStores [tg] a X.env=pure none)(h1:(assignEach [tg] X.env).map (·.2)=[assign tg X.env]) :
 PS X (.Assign [tg] a pos) (tS nm W X.K (.asg (.tg t) a')) :=
 PS.of (anu he hg hs hw h1) λD σ H ι ρ M fl ρ' M' S R e q=>by rw[MW.aaj] at e;obtain⟨x,M1,e1,e⟩:=dw e;obtain⟨ρ2,M2,e2,e⟩:=dw e;cases e;rw[MW.amu] at e2;obtain⟨e3,e4⟩:=ux e2;subst e4;exact one S R e1 fun ι1 H1 v le S1 R1 r=>⟨ι1,ρ,_,x,ρ',S1,R1,r,e3,fun σ' R' _ _=>q ι1 H1 σ' le S1 R'⟩
def a0x(he:PE X a (tE nm W X.K a'))(hs:swapsWith a none pos.line X.env=pure false):PS X (.Expr a pos) (tS nm W X.K (.expr a')) :=
 PS.of (atq he hs) λD σ H ι ρ M fl ρ' M' S R e q=>by rw[MW.as4] at e;obtain⟨x,M1,e1,e⟩:=dw e;cases e;exact one S R e1 fun ι1 H1 v le S1 R1 r=>q ι1 H1 σ le S1 R1
def a8c(he:PE X a (tE nm W X.K a')):PS X (.Return (some a) pos) (tS nm W X.K (.ret a')) :=
 PS.of (azs he) λD σ H ι ρ M fl ρ' M' S R e q=>by rw[MW.aym] at e;obtain⟨x,M1,e1,e⟩:=dw e;cases e;exact one S R e1 fun ι1 H1 v le S1 R1 r=>q ι1 H1 σ le S1 R1 v r
def a8d:PS X (.Break pos) (tS nm W X.K .brk) :=
 PS.of anr λD σ H ι ρ M fl ρ' M' S R e q=>by rw[MW.ayn] at e;cases e;exact q ι H σ (Le.refl _ _) S R
def a0y:PS X (.Continue pos) (tS nm W X.K .cont) :=
 PS.of adl λD σ H ι ρ M fl ρ' M' S R e q=>by rw[MW.as5] at e;cases e;exact q ι H σ (Le.refl _ _) S R
def Wv.mono{X:Cx}(le:Le ι H ι' H')(q:Wv nm X.K D ι H fl ρ M):Wv nm X.K D ι' H' fl ρ M:=fun ι2 H2 σ2 yu S2 R2=>q ι2 H2 σ2 (le.trans yu) S2 R2
set_option tactic.hygienic true in
def a8e(hc:PT X c (tQ nm W X.K c'))(ht:Rk X ts (tSs nm W X.K ts'))(hf:Rk X fs (tSs nm W X.K fs')):PS X (.If c ts fs pos) (tS nm W X.K (.iff c' ts' fs')) :=
 PS.of (a6h hc ht hf) λD σ H ι ρ M fl ρ' M' S R e q=>by
  rw[MW.ayl] at e;obtain⟨x,M1,e1,e⟩:=dw e;cases x<;>try cases e
  rename_i k;refine Yc S R e1 fun ι1 H1 le S1 R1=>?_
  cases k with
  |true=>exact⟨ι1,ρ,M1,fl,ρ',M',S1,R1,e,q.mono le⟩|false=>exact⟨ι1,ρ,M1,fl,ρ',M',S1,R1,e,q.mono le⟩
def a0z:Rk X [] (tSs nm W X.K .nil):=Rk.of atp λD σ H ι ρ M fl ρ' M' S R e q=>by rw[MW.as6] at e;cases e;exact q ι H σ (Le.refl _ _) S R
def aut{rest:List Stmt}(h1:PS X st (tS nm W X.K st'))(h2:Rk X rest (tSs nm W X.K rest')):Rk X (st::rest) (tSs nm W X.K (.cons st' rest')) :=
 Rk.of (anq h1 h2) λD σ H ι ρ M fl ρ' M' S R e q=>by
  rw[MW.amt] at e;obtain⟨⟨fl1,ρ1⟩,M1,e1,e⟩:=dw e;refine⟨ι,ρ,M,fl1,ρ1,M1,S,R,e1,fun ι1 H1 σ1 le S1 R1=>?_⟩;cases fl1 with
  |next=>exact⟨ι1,ρ1,M1,fl,ρ',M',S1,R1,e,q.mono le⟩|brk=>cases e;exact q ι1 H1 σ1 le S1 R1|cont=>cases e;exact q ι1 H1 σ1 le S1 R1|ret d=>cases e;exact q ι1 H1 σ1 le S1 R1
set_option tactic.hygienic true in
def a8f(hp:PassesOwn (model X.prog X.w) X.A X.env X.xe)(hc:PT X c (tQ nm W X.K c'))(hb:Rk X body (tSs nm W X.K W0)):PS X (.While c body [] pos) (tS nm W X.K (.whl c' W0)) :=
 PS.of (anv hp hc hb) λD σ H ι ρ M fl ρ' M' S R e q=>by
  rw[MW.aak] at e;refine⟨λm σ1 H1=>∃ι1 ρ1 M1,Le ι H ι1 H1/\m5 nm X.K ι1 H1 M1/\uw X.K ι1 H1 ρ1 σ1/\MW.Ft (c'.den W) (W0.den W) m ρ1 M1=.ok (fl,ρ') M',⟨MW.afr,ι,ρ,M,Le.refl _ _,S,R,e⟩,?_⟩;rintro m σ1 H1 ⟨ι1,ρ1,M1,Vo,S1,R1,e1⟩;cases m with
  |zero=>cases e1
  |succ m =>
   simp only[MW.Ft] at e1;obtain⟨x,M2,e2,e1⟩:=dw e1;cases x<;>try cases e1
   rename_i k;refine Yc S1 R1 e2 fun ι2 H2 yu S2 R2=>?_
   cases k with
   |false=>cases e1;exact q ι2 H2 σ1 (Vo.trans yu) S2 R2
   |true =>
    obtain⟨⟨fl3,ρ3⟩,M3,e3,e1⟩:=dw e1;refine⟨fun σ4 H4=>∃ι4 ρ4 M4,Le ι H ι4 H4/\m5 nm X.K ι4 H4 M4/\uw X.K ι4 H4 ρ4 σ4/\MW.Ft (c'.den W) (W0.den W) m ρ4 M4=.ok (fl,ρ') M',fun σ4 H4 h4=>⟨m,pq _,h4⟩,ι2,ρ1,M2,fl3,ρ3,M3,S2,R2,e3,fun ι4 H4 σ4 le4 S4 R4=>?_⟩;cases fl3 with
    |next=>exact⟨ι4,ρ3,M3,(Vo.trans yu).trans le4,S4,R4,e1⟩|cont=>exact⟨ι4,ρ3,M3,(Vo.trans yu).trans le4,S4,R4,e1⟩|brk=>cases e1;exact q ι4 H4 σ4 ((Vo.trans yu).trans le4) S4 R4|ret d=>cases e1;exact q ι4 H4 σ4 ((Vo.trans yu).trans le4) S4 R4
def ao7(nm:Nm)(K:Fg)(ι:Io)(H:Hp)(s:Src)(J:It):Prop:=∀ι1 H1 M1,LeX ι H ι1 H1->m5 nm K ι1 H1 M1 ->
 (∀i d,i<s.len->s.item i M1=some d->J.go i H1/\∀v H2,J.yld i H1 v H2->Le ι1 H1 ι1 H2/\m5 nm K ι1 H2 M1/\Rep K ι1 H2 d v)/\(s.fin M1=true->J.stop s.len H1)
def tI(nm:Nm)(W:Jp)(K:Fg)(it:Pg):TI:=fun σ H R=>∃ι ρ M s M',m5 nm K ι H M/\uw K ι H ρ σ/\it.den W ρ M=.ok s M'/\∀ι' H' J,Le ι H ι' H'->m5 nm K ι' H' M'->ao7 nm K ι' H' s J->R J H'
set_option tactic.hygienic true in
def a8h(hp:PassesOwn (model X.prog X.w) X.A X.env X.xe)(hc:X.calm=true)(hi:PI X tg iter (tI nm W X.K it))(hg:PG X tg (tGt nm X.K t))(hb:Rk X body (tSs nm W X.K W0))(hs:Gw iter=true):PS X (.For tg iter body [] pos) (tS nm W X.K (.for_ t it W0)) :=
 PS.of (azz hp hc hi hg hb (Dy hs X.env)) λD σ H ι ρ M fl ρ' M' S R e q=>by
  rw[MW.Td] at e;obtain⟨s,M1,e1,e⟩:=dw e;refine⟨ι,ρ,M,s,M1,S,R,e1,fun ι1 H1 J Vo S1 sj=>?_⟩;refine⟨λi m σ2 H2=>m=s.len-i/\i<=s.len/\∃ι2 ρ2 M2,Le ι1 H1 ι2 H2/\m5 nm X.K ι2 H2 M2/\uw X.K ι2 H2 ρ2 σ2/\MW.Cu s.fin s.item (λd ρ M=>match t.put d ρ with|some ρ'=>W0.den W ρ' M|none=>.bad) m i ρ2 M2=.ok (fl,ρ') M',
   ⟨s.len,rfl,j5 _,ι1,ρ,M1,Le.refl _ _,S1,R.mono Vo,e⟩,?_⟩
  rintro i m σ2 H2 ⟨hm,Xz,ι2,ρ2,M2,yu,S2,R2,e2⟩;obtain⟨go,stop⟩:=sj ι2 H2 M2 yu.toX S2;cases m with
  |zero =>
   simp only[MW.Cu] at e2;split at e2<;>cases e2;rename_i Qm;have hi:i=s.len:=by lia
   subst hi;exact .inl ⟨stop Qm,q ι2 H2 σ2 (Vo.trans yu) S2 R2⟩
  |succ m =>
   simp only[MW.Cu] at e2;split at e2
   . cases e2
   . rename_i d hd
     obtain⟨⟨fl3,ρ3⟩,M3,e3,e2⟩:=dw e2;obtain⟨g1,g2⟩:=go i d (by omega) hd;refine .inr ⟨g1,fun σ4 H4=>∃ι4 ρ4 M4,Le ι1 H1 ι4 H4/\m5 nm X.K ι4 H4 M4/\uw X.K ι4 H4 ρ4 σ4/\MW.Cu s.fin s.item (λd ρ M=>match t.put d ρ with|some ρ'=>W0.den W ρ' M|none=>.bad) m (i+1) ρ4 M4=.ok (fl,ρ') M',
      fun σ4 H4 ⟨ι4,ρ4,M4,h4⟩=>⟨m,pq _,by omega,by omega,ι4,ρ4,M4,h4⟩,λv H3 yv=>?_⟩
     obtain⟨Zf,S3,r3⟩:=g2 v H3 yv;split at e3
     . rename_i ρ5 agl
       refine⟨ι2,ρ2,M2,d,ρ5,S3,R2.mono Zf,r3,agl,fun σ5 R5 _ _=>⟨ι2,ρ5,M2,fl3,ρ3,M3,S3,R5,e3,fun ι4 H4 σ4 le4 S4 R4=>?_⟩⟩;have leA:=(yu.trans Zf).trans le4;cases fl3 with
       |next=>exact⟨ι4,ρ3,M3,leA,S4,R4,e2⟩|cont=>exact⟨ι4,ρ3,M3,leA,S4,R4,e2⟩|brk=>cases e2;exact q ι4 H4 σ4 (Vo.trans leA) S4 R4|ret d=>cases e2;exact q ι4 H4 σ4 (Vo.trans leA) S4 R4
     . cases e3
section
variable{nm:Nm}{W:Jp}{X:Cx}{a b c:Expr}{a' b' c':Ex}{pos pos':Pos}{ι:Io}{H:Hp}{σ:St}{ρ:En}{M M1 M2:di}{x y:Dv}{es:Ya}{es':Cz}{tg iter elt:Expr}
def PI.weak(h:PI X tg iter wi)(w:∀σ H R,wi' σ H R->wi σ H R):PI X tg iter wi':=λpins s σ H R I q=>h pins s σ H R I (w σ H R q)
def PI.of(h:PI X tg iter wi)(w:∀σ H R' ι ρ M s M',m5 nm X.K ι H M->uw X.K ι H ρ σ->it.den W ρ M=.ok s M'->(∀ι' H' J,Le ι H ι' H'->m5 nm X.K ι' H' M'->ao7 nm X.K ι' H' s J->R' J H')->wi σ H R'):PI X tg iter (tI nm W X.K it) :=
 PI.weak h fun σ H R' ⟨ι,ρ,M,s,M',S,R,e,q⟩=>w σ H R' ι ρ M s M' S R e q
def a00(hl:PE X l tl):PI X tg l (fun σ H R=>tl σ H λx H1=>∃a,x=.ref a/\((∃xs,Gd X.K H1 a xs)/\R (Itl X.K a) H1\/(∃xs,Jl X.K H1 a xs)/\R (Itt X.K a) H1)):=by
 intro pins s σ H R I h;refine Bf (hl pins s σ H _ I h) λv s1 ⟨x,H1,I1,r1,q1⟩=>?_
 obtain⟨a,e,⟨⟨xs,hq⟩,q⟩|⟨⟨xs,hq⟩,q⟩⟩:=q1
 . subst e
   cases r1;obtain⟨wy,rv,p,hz⟩:=I1.list hq;refine v9 p.isList ?_;refine⟨s1.heap.objs.size,[s1.heap.objs.size],_,_,H1,rfl,I1.kept (t':=s1.toks) λb o e=>ao _ e,aj5 a _,⟨_,bu _ rfl,rfl,rfl⟩,λb hb=>?_,q⟩;have e:b=s1.heap.objs.size:=by simpa using hb
   subst e;exact I1.anw (bw _) (I1.Ad.fresh (bw _))
 . subst e
   cases r1;obtain⟨wy,rv,p,hz⟩:=I1.tuple hq;refine wpAny_pyIter_tuple (show s1.heap.IsTuple a wy.toArray from p) ?_;refine⟨s1.heap.objs.size,[s1.heap.objs.size],_,_,H1,rfl,I1.kept (t':=s1.toks) λb o e=>ao _ e,af1 a _,⟨_,bu _ rfl,rfl,rfl⟩,λb hb=>?_,q⟩;have e:b=s1.heap.objs.size:=by simpa using hb
   subst e;exact I1.anw (bw _) (I1.Ad.fresh (bw _))
def Zg{p:Addr}{ds:List Dv}{s:Src}(hs:∀ι1 H1 M1,LeX ι H ι1 H1->m5 nm X.K ι1 H1 M1->(∀i d,s.item i M1=some d->∃vs v,H1 p=some (.lst vs)/\vs[i]?=some v/\Rep X.K ι1 H1 d v)/\(s.fin M1=true->∃vs,H1 p=some (.lst vs)/\vs.length<=s.len)) :
 ao7 nm X.K ι H s (Itl X.K p):=fun ι1 H1 M1 le S1=>by
 obtain⟨a,b⟩:=hs ι1 H1 M1 le S1;refine⟨λi d hi hd=>?_,λhf=>?_⟩
 . obtain⟨vs,v,h1,h2,h3⟩:=a i d hd
   refine⟨⟨vs,v,Gd.of h1,h2⟩,λu H2 ⟨e,y⟩=>?_⟩;subst e;have:=y vs (Gd.of h1);rw[h2] at this;cases this;exact⟨Le.refl _ _,S1,h3⟩
 . obtain⟨vs,h1,h2⟩:=b hf
   exact⟨vs,Gd.of h1,h2⟩
set_option tactic.hygienic true in
def a8i(ha:PE X a (tE nm W X.K a')):PI X tg a (tI nm W X.K (.val a')) :=
 PI.of (a00 ha) fun σ H R' ι ρ M s M' S R e q=>by
  rw[MW.Oo] at e;obtain⟨x,M1,e1,e⟩:=dw e;obtain⟨e,rfl⟩:=ux e;refine one S R e1 fun ι1 H1 v le S1 R1 r=>?_
  cases r with
  |@tup p ds vs h1 r1 =>
   simp only[MW.srcOf] at e;cases e;refine⟨p,rfl,.inr ⟨⟨vs,Jl.of h1⟩,q ι1 H1 _ le S1 fun ι2 H2 M2 yu S2=>⟨λi d hi hd=>?_,λ_=>⟨vs,Jl.of (yu.tup _ _ h1),by rw[<- r1.length];exact bw _⟩⟩⟩⟩;have hd:ds[i]?=some d:=hd;obtain⟨v,g1,g2⟩:=(r1.Ei yu).get hd;refine⟨⟨vs,v,Jl.of (yu.tup _ _ h1),g1⟩,λu H3 ⟨ee,yy⟩=>?_⟩;subst ee;have:=yy vs (Jl.of (yu.tup _ _ h1));rw[g1] at this;cases this;exact⟨Le.refl _ _,S2,g2⟩
  |@vl p ds vs h1 n1 r1 =>
   simp only[MW.srcOf] at e;cases e;refine⟨p,rfl,.inl ⟨⟨vs,Gd.of h1⟩,q ι1 H1 _ le S1 (Zg (ds:=ds) fun ι2 H2 M2 yu S2=>⟨λi d hd=>?_,λ_=>⟨vs,yu.lst _ _ n1.1 h1,by rw[<- r1.length];exact bw _⟩⟩)⟩⟩;have hd:ds[i]?=some d:=hd;obtain⟨v,g1,g2⟩:=(r1.Ei yu).get hd;exact⟨vs,v,yu.lst _ _ n1.1 h1,g1,g2⟩
  |@ref n p h1 =>
   simp only[MW.srcOf] at e;obtain⟨ds,hn,rfl⟩:∃ds,M'[n]?=some (.lst ds)/\s=.live n ds.length:=by
    split at e
    . rename_i ds hn;cases e;exact⟨ds,hn,rfl⟩
    . cases e
   obtain⟨vs,g1,g2⟩:=S1.obj n _ p hn h1;refine⟨p,rfl,.inl ⟨⟨vs,Gd.of g1⟩,q ι1 H1 _ le S1 (Zg (ds:=ds) fun ι2 H2 M2 yu S2=>⟨λi d hd=>?_,λhf=>?_⟩)⟩⟩
   . simp only[Src.item] at hd
     split at hd
     . rename_i ds2 hn2
       split at hd
       . obtain⟨vs2,k1,k2⟩:=S2.obj n _ p hn2 (yu.get h1)
         obtain⟨v,k3,k4⟩:=k2.get hd;exact⟨vs2,v,k1,k3,k4⟩
       . cases hd
     . cases hd
   . simp only[Src.fin] at hf
     split at hf
     . rename_i ds2 hn2
       obtain⟨vs2,k1,k2⟩:=S2.obj n _ p hn2 (yu.get h1);refine⟨vs2,k1,?_⟩;rw[<- k2.length];have:ds2.length=ds.length:=by simpa using hf
       rw[this];exact bw _
     . cases hf
  |_=>simp[MW.srcOf] at e
set_option tactic.hygienic true in
def a8j(hg:Gl X "range")(hm:X.mg "range" = none)(ha:PE X a (tE nm W X.K a'))(Vh:noStar a=true):PI X tg (.Call (.Name "range" pr) [a] [] pos) (tI nm W X.K (.O6 a')) :=
 PI.of (aj6 hg hm (Jm ha Rr (mq Vh _ _)) (mq Vh _ _)) fun σ H R' ι ρ M s M' S R e q=>by
  rw[MW.Q8] at e;obtain⟨x,M1,e1,e⟩:=dw e;refine Wy (es':=.cons a' .nil) (ds:=[x]) (M1:=M1) S R (by rw[MW.Ju,e1];simp) fun ι1 H1 vs le S1 R1 r=>?_
  obtain⟨i,hx⟩:∃i,x=.int i:=by cases x<;>first|exact⟨_,rfl⟩|cases e
  subst hx;have e:(if i.natAbs<=100000 then Res.ok (Src.con ((List.range i.toNat).map λ(k:Nat)=>MW.D.int (k:Int))) M1 else .bad)=.ok s M':=e;split at e<;>cases e;rename_i hi;cases r with
  |cons r1 r2 =>
   cases r1;cases r2;refine⟨i,rfl,by lia,by omega,q ι1 H1 _ le S1 fun ι2 H2 M2 yu S2=>⟨λj d hj hd=>?_,λ_=>?_⟩⟩
   . have hl:j<i.toNat:=by simpa[Src.len] using hj
     have hd:((List.range i.toNat).map λ(k:Nat)=>MW.D.int (k:Int))[j]?=some d:=hd;rw[jb,yp hl] at hd;have hd:MW.D.int (j:Int)=d:=by simpa using hd
     subst hd;refine⟨hl,λu H3 ⟨ee,yy⟩=>?_⟩;subst ee yy;exact⟨Le.refl _ _,S2,by rw[Int.zero_add];exact .int _⟩
   . show i.toNat<=_
     simp[Src.len]
def ako(R:uw K ι H ρ σ):uw K ι H (ρ++List.replicate k none) (σ++List.replicate k none):=R.append (uw.ao0 k (by simp))
def ao8{σ2:St}(hn:σ.length=n)(ho:∀i∈Bh t,n<=i)(h:∀j,j∉Bh t->σ2[j]?=(σ++List.replicate k none)[j]?):∀(j:Nat) v,(σ++List.replicate k none)[j]?=some (some v)->σ2[j]?=some (some v):=λj v e=>by
 by_cases hj:j∈Bh t
 . have:=ho j hj
   rw[je (a_ (f_ hn) this),List.getElem?_replicate] at e;split at e<;>simp at e
 . rw[h j hj];exact e
noncomputable def axo(o:Option Dv):List Dv:=match o with|some x=>[x]|none=>[]
set_option tactic.hygienic true in
def ad3(h:MW.Cy fin item body (k+1) i M=.ok ds M') :
 ∃d o M1 rest,item i M=some d/\body d M=.ok o M1/\MW.Cy fin item body k (i+1) M1=.ok rest M'/\ds=axo o++rest:=by
 simp only[MW.Cy] at h;split at h
 . cases h
 . rename_i d hd
   obtain⟨o,M1,e1,h⟩:=dw h;obtain⟨rest,M2,e2,h⟩:=dw h;cases h;exact⟨d,o,M1,rest,hd,e1,e2,by cases o<;>rfl⟩
def lz.snoc(r:lz K ι H ds vs)(h:Rep K ι H d v):lz K ι H (ds++[d]) (vs++[v]):=r.append (.cons h .nil)
set_option tactic.hygienic true in
def Vr(e:MW.Aj s body M1=.ok ds M2):s.len<=100000/\MW.Cy s.fin s.item body s.len 0 M1=.ok ds M2:=by
 unfold MW.Aj at e;split at e
 . rename_i hl
   exact⟨hl,e⟩
 . cases e
noncomputable def keptAs(v:Bool)(ds:List Dv)(M:di):Res Dv:=if v=true then .ok (.vl ds) M else MW.new (.lst ds) M
def akp(h:(Ex.comp v k t it e').den W ρ M=.ok d M'):∃s M1 ds M2,it.den W ρ M=.ok s M1/\s.len<=100000 /\
 MW.Cy s.fin s.item (λd M=>match t.put d (ρ++List.replicate k none) with|some ρ'=>(e'.den W ρ' M).bind λx M'=>.ok (some x) M'|none=>.bad) s.len 0 M1=.ok ds M2/\keptAs v ds M2=.ok d M':=by
 rw[MW.Mm] at h;obtain⟨s,M1,e1,h⟩:=dw h;obtain⟨ds,M2,e2,h⟩:=dw h;exact⟨s,M1,ds,M2,e1,(Vr e2).1,(Vr e2).2,h⟩
mutual
theorem Rep.adopt{K:Fg}{ι:Io}{H:Hp}{D:Addr}:∀{d:Dv}{v:V},Rep K (ι.hide D) H d v->Rep K (ι.add D) H d v
 |_,_,.non=>.non|_,_,.bl b=>.bl b|_,_,.int i=>.int i|_,_,.str s=>.str s|_,_,.tup e r=>.tup e (lz.adopt r)|_,_,.vl e n r=>.vl e ⟨λm=>(gh.mp m).elim n.1 λz=>n.2 (by rw[xj.mp z];exact dh),λm=>n.2 (bh _ m)⟩ (lz.adopt r)
 |_,_,.fz e r=>.fz e (lz.adopt r)
 | _,_,.ref e=>.ref (by
  have e:ι.l[_]?=some _:=e;show(ι.l++[D])[_]?=_;rw[dm (ak.mp e).1];exact e)
theorem lz.adopt{K:Fg}{ι:Io}{H:Hp}{D:Addr}:∀{ds:List Dv}{vs:List V},lz K (ι.hide D) H ds vs->lz K (ι.add D) H ds vs
 |_,_,.nil=>.nil|_,_,.cons h t=>.cons (Rep.adopt h) (lz.adopt t)
end
theorem m5.adopt(S:m5 nm K (ι.hide D) H M)(hd:H D=some (.lst vs))(r:lz K (ι.hide D) H ds vs)(hδ:ι.off D):m5 nm K (ι.add D) H (M++[.lst ds]):=by
 refine⟨by have:=S.len;simp only[Io.hide] at this;simp[Io.add,this],?_,λa ha=>?_,λn o a hn ha=>?_⟩
 . exact yh.mpr ⟨S.nd,by simp,by
    intro x hx y hy;have:y=D:=by simpa using hy
    subst this;intro e;subst e;exact hδ.1 hx⟩
 . obtain⟨h1,vs,h2⟩:=S.del a (bh _ ha)
   exact⟨λm=>(gh.mp m).elim h1 λz=>hδ.2 (by rw[<- xj.mp z];exact ha),vs,h2⟩
 . rcases Bw hn with q|⟨q,rfl⟩
   . rcases Bw ha with z|⟨z,_⟩
     . exact(S.obj n o a q z).map (λd v r=>r.adopt) rfl
     . exact absurd (MW.xq q) (by rw[z,<- S.len];exact nq _)
   . rcases Bw ha with z|⟨_,rfl⟩
     . exact absurd (ak.mp z).1 (by rw[q,<- S.len];exact nq _)
     . exact⟨vs,hd,r.adopt⟩
def ao9(S:m5 nm K (ι.hide D) H M)(hd:H D=some (.lst vs))(r:lz K (ι.hide D) H ds vs)(hδ:ι.off D)(le:Le ι0 H0 ι H)(h0:H0 D=none)(h:keptAs v ds M=.ok d M') :
 ∃ι',Le ι0 H0 ι' H/\m5 nm K ι' H M'/\Rep K ι' H d (.ref D):=by
 unfold keptAs at h;split at h
 . cases h
   exact⟨ι,le,S.show,.vl hd hδ r.show⟩
 . cases h
   refine⟨ι.add D,⟨?_,le.del,le.tup,le.Qs,le.lst,le.dom⟩,S.adopt hd r hδ,.ref ?_⟩
   . obtain⟨Y,e,hY⟩:=le.ext
     exact⟨Y++[D],by show ι.l++[D]=_;rw[e,yf],λa ha=>(gh.mp ha).elim (hY a) λz=>by rw[xj.mp z];exact h0⟩
   . show(ι.l++[D])[M.length]?=some D
     rw[<- S.len];simp[Io.hide]
def BodyOk(nm:Nm)(K:Fg)(σ2:St)(tc:TT)(te:TE)(ρ2:En)(M:di)(o:Option Dv)(M':di):Prop:=∀ι H (G1:V->Hp->Prop) (G0:Hp->Prop),m5 nm K ι H M->uw K ι H ρ2 σ2 ->
 (∀ι' H' v,Le ι H ι' H'->m5 nm K ι' H' M'->(match o with|some x=>Rep K ι' H' x v->G1 v H'|none=>G0 H'))->tc σ2 H λb H3=>if b=true then te σ2 H3 λv H4=>G1 v H4 else G0 H3
set_option tactic.hygienic true in
def Zh{N:Yf}(hk:N.length-X.N.length=k)(ho:∀i∈Bh t,X.N.length<=i)(hσ:σ.length=X.N.length)(S:m5 nm X.K ι H M)(R:uw X.K ι H ρ σ)(e1:it.den W ρ M=.ok s M1)(hlen:s.len<=100000)(e2:MW.Cy s.fin s.item body s.len 0 M1=.ok ds M')(ek:keptAs v0 ds M'=.ok d0 M0)(q:∀ι' H' v,Le ι H ι' H'->m5 nm X.K ι' H' M0->Rep X.K ι' H' d0 v->Q v H')(hb:∀d M2 o M3,body d M2=.ok o M3->∃ρ5,t.put d (ρ++List.replicate k none)=some ρ5/\∀σ5,BodyOk nm X.K σ5 tc te ρ5 M2 o M3):ad0 (N.length-X.N.length) (tI nm W X.K it) (tGt nm X.K t) tc te σ H Q:=by
 refine⟨ι,ρ,M,s,M1,S,R,e1,fun ι1 H1 J Vo S1 sj D hD=>?_⟩;rw[hk];refine⟨λi m H2=>m=s.len-i/\i<=s.len/\∃ι2 M2 acc vs rest,LeD D ι1 H1 (Io.hide ι2 D) H2/\m5 nm X.K (Io.hide ι2 D) H2 M2/\H2 D=some (.lst vs)/\lz X.K (Io.hide ι2 D) H2 acc vs/\acc.length<=i /\
  MW.Cy s.fin s.item body m i M2=.ok rest M'/\ds=acc++rest,?_,?_⟩
 . exact⟨s.len,rfl,j5 _,ι1,M1,[],[],ds,LeD.start hD _,S1.hide hD,vm,.nil,bw _,e2,rfl⟩
 . rintro i m H2 ⟨hm,Xz,ι2,M2,acc,vs,rest,yu,S2,hd2,a01,Ek,e3,hds⟩
   have leP:Le ι1 H1 ι2 H2:=LeD.done yu;have beo:ι2.δ=ι1.δ:=leP.del;have bep:ι2.off D:=⟨(S2.del D dh).1,λz=>by rw[beo] at z;exact(S1.fresh hD).2 z⟩;obtain⟨go,stop⟩:=sj (Io.hide ι2 D) H2 M2 (yu.toX hD) S2;cases m with
   |zero =>
    simp only[MW.Cy] at e3;split at e3<;>cases e3;rename_i Qm;have hi:i=s.len:=by lia
    subst hi;rw[xx] at hds;subst hds;obtain⟨ι9,le9,S9,r9⟩:=ao9 S2 hd2 a01 bep leP hD ek;exact .inl ⟨stop Qm,q ι9 H2 _ (Vo.trans le9) S9 r9⟩
   |succ m =>
    obtain⟨d,o,M3,rest',h1,h2,h3,h4⟩:=ad3 e3;obtain⟨g1,g2⟩:=go i d (by lia) h1;refine .inr ⟨g1,λv H3 yv=>?_⟩;obtain⟨Zf,S3,r3⟩:=g2 v H3 yv;obtain⟨ρ5,agl,bok⟩:=hb d M2 o M3 h2;have R3:uw X.K (Io.hide ι2 D) H3 ρ σ:=((R.mono Vo).Ei (yu.toX hD)).mono Zf;refine⟨Io.hide ι2 D,ρ++List.replicate k none,M2,d,ρ5,S3,ako R3,r3,agl,fun σ5 R5 l5 k5=>⟨l5,ao8 hσ ho k5,?_⟩⟩;have hd3:=Zf.lst D vs (S2.del D dh).1 hd2;refine bok σ5 (Io.hide ι2 D) H3 _ _ S3 R5 (fun ι6 H6 u le6 S6=>by
     have hd6:=le6.lst D vs (S2.del D dh).1 hd3;have a02:LeD D ι1 H1 ι6 H6:=(yu.go Zf).go le6;have ei:ι6=Io.hide ⟨ι6.l,ι2.δ⟩ D:=by have:=le6.del;obtain⟨l6,δ6⟩:=ι6;simp only[Io.hide] at this ⊢;rw[this]
     rw[ei] at a02 S6;have axp:lz X.K (Io.hide ⟨ι6.l,ι2.δ⟩ D) H6 acc vs:=by rw[<- ei];exact(a01.mono Zf).mono le6
     cases o with
     |none =>
      refine⟨m,pq _,by lia,by lia,⟨ι6.l,ι2.δ⟩,M3,acc,vs,rest',a02,S6,hd6,axp,a_ Ek x_,h3,?_⟩;rw[hds,h4];rfl
     |some x =>
      intro r6;rw[ei] at r6;have Ie:D∈(Io.hide ⟨ι6.l,ι2.δ⟩ D).δ:=dh;refine⟨vs,m,hd6,?_,pq _,by lia,by lia,⟨ι6.l,ι2.δ⟩,M3,acc++[x],vs++[u],rest',a02.grow hD hd6,S6.grow hd6 Ie,vm,(axp.snoc r6).grow hd6 Ie,by simp;exact Ek,h3,?_⟩
      . rw[<- a01.length]
        exact Nat.lt_of_le_of_lt (iu Ek (iu Xz hlen)) (by decide)
      . rw[hds,h4];simp[axo])
set_option tactic.hygienic true in
def Zi{N:Yf}(hk:N.length-X.N.length=k)(ho:∀i∈Bh t,X.N.length<=i):∀σ H Q,σ.length=X.N.length->tE nm W X.K (.comp v0 k t it e') σ H Q ->
 ad0 (N.length-X.N.length) (tI nm W X.K it) (tGt nm X.K t) (λ_ H Q=>Q true H) (tE nm W X.K e') σ H Q:=fun σ H Q hσ hh=>by
 obtain⟨ι,ρ,M,d,M',S,R,e,q⟩:=hh;obtain⟨s,M1,ds,M2,e1,hlen,e2,ek⟩:=akp e;refine Zh hk ho hσ S R e1 hlen e2 ek q λd M2 o M3 hb=>?_
 split at hb
 . rename_i ρ5 agl
   obtain⟨x,M4,e5,hb⟩:=dw hb;cases hb;refine⟨ρ5,agl,fun σ5 ι5 H5 G1 G0 S5 R5 g=>?_⟩;show if true=true then _ else _
   rw[cz rfl];exact one (X:=X) S5 R5 e5 fun ι6 H6 u le6 S6 R6 r6=>g ι6 H6 u le6 S6 r6
 . cases hb
def ad4(h:(Ex.Dg v k t it c' e').den W ρ M=.ok d M'):∃s M1 ds M2,it.den W ρ M=.ok s M1/\s.len<=100000 /\
 MW.Cy s.fin s.item (λd M=>match t.put d (ρ++List.replicate k none) with|some ρ'=>(c'.den W ρ' M).bind λb M'=>(match b with|.bl true=>(e'.den W ρ' M').bind λx M''=>.ok (some x) M''|.bl false=>.ok none M'|_=>.bad)|none=>.bad) s.len 0 M1=.ok ds M2/\keptAs v ds M2=.ok d M':=by
 rw[MW.V6] at h;obtain⟨s,M1,e1,h⟩:=dw h;obtain⟨ds,M2,e2,h⟩:=dw h;exact⟨s,M1,ds,M2,e1,(Vr e2).1,(Vr e2).2,h⟩
set_option tactic.hygienic true in
def U5{N:Yf}(hk:N.length-X.N.length=k)(ho:∀i∈Bh t,X.N.length<=i):∀σ H Q,σ.length=X.N.length->tE nm W X.K (.Dg v0 k t it c' e') σ H Q ->
 ad0 (N.length-X.N.length) (tI nm W X.K it) (tGt nm X.K t) (tQ nm W X.K c') (tE nm W X.K e') σ H Q:=fun σ H Q hσ hh=>by
 obtain⟨ι,ρ,M,d,M',S,R,e,q⟩:=hh;obtain⟨s,M1,ds,M2,e1,hlen,e2,ek⟩:=ad4 e;refine Zh hk ho hσ S R e1 hlen e2 ek q λd M2 o M3 hb=>?_
 split at hb
 . rename_i ρ5 agl
   obtain⟨x,M4,e5,hb⟩:=dw hb;refine⟨ρ5,agl,fun σ5 ι5 H5 G1 G0 S5 R5 g=>?_⟩;split at hb
   . obtain⟨y,M6,e6,hb⟩:=dw hb
     cases hb;refine Yc (X:=X) S5 R5 e5 fun ι6 H6 le6 S6 R6=>?_
     rw[cz rfl];exact one (X:=X) S6 R6 e6 fun ι7 H7 u le7 S7 R7 r7=>g ι7 H7 u (le6.trans le7) S7 r7
   . cases hb
     refine Yc (X:=X) S5 R5 e5 fun ι6 H6 le6 S6 R6=>?_
     rw[bx (by simp)];exact g ι6 H6 .non le6 S6
   . cases hb
 . cases hb
def PE.ad5(h:PE X e t)(w:∀σ H Q,σ.length=X.N.length->t' σ H Q->t σ H Q):PE X e t':=λpins s σ H Q I q=>h pins s σ H Q I (w σ H Q I.len q)
def PS.ad5(h:PS X st t)(w:∀D σ H,σ.length=X.N.length->t' D σ H->t D σ H):PS X st t':=λpins s σ H D I q=>h pins s σ H D I (w D σ H I.len q)
def a03(B:Eh X N scope)(Iw:X.calm=true)(hi:PI X tg iter (tI nm W X.K it))(hg:∀C fp s H,PG (Mi X N scope C fp s H) tg (tGt nm X.K t))(he:∀C fp s H,PE (Mi X N scope C fp s H) elt (tE nm W X.K e'))(hs:Gw iter=true)(hk:N.length-X.N.length=k)(ho:∀i∈Bh t,X.N.length<=i):PE X (.ListComp elt [⟨tg,iter,[],0⟩] scope pos) (tE nm W X.K (.comp v0 k t it e')) :=
 PE.ad5 (ah7 B Iw hi hg (λ_ _ _ _=>.inl ⟨rfl,rfl⟩) he (Dy hs X.env)) (Zi hk ho)
def apa(B:Eh X N scope)(Iw:X.calm=true)(hi:PI X tg iter (tI nm W X.K it))(hg:∀C fp s H,PG (Mi X N scope C fp s H) tg (tGt nm X.K t))(hc:∀C fp s H,PT (Mi X N scope C fp s H) c (tQ nm W X.K c'))(he:∀C fp s H,PE (Mi X N scope C fp s H) elt (tE nm W X.K e'))(hs:Gw iter=true)(hk:N.length-X.N.length=k)(ho:∀i∈Bh t,X.N.length<=i):PE X (.ListComp elt [⟨tg,iter,[c],0⟩] scope pos) (tE nm W X.K (.Dg v0 k t it c' e')) :=
 PE.ad5 (ah7 B Iw hi hg (λ_ _ _ _=>.inr ⟨c,rfl,hc _ _ _ _⟩) he (Dy hs X.env)) (U5 hk ho)
def ad6(h:∀σ H Q,σ.length=X.N.length->tE nm W X.K e' σ H Q->tt σ H Q):∀D σ H,σ.length=X.N.length->tS nm W X.K (.asg (.tg (.name i)) e') D σ H->azx tt (ahv i) D σ H:=λD σ H hσ hh=>by obtain⟨ι,ρ,M,fl,ρ',M',S,R,e,q⟩:=hh;rw[MW.aaj] at e;obtain⟨x,M1,e1,e⟩:=dw e;obtain⟨ρ2,M2,e2,e⟩:=dw e;cases e;rw[MW.amu] at e2;obtain⟨e3,e4⟩:=ux e2;subst e4;cases e3;exact h σ H _ hσ (one S R e1 fun ι1 H1 v le S1 R1 r=>q ι1 H1 _ le S1 (R1.set r i))
def akq{y:Str}(B:Eh X N scope)(Iw:X.calm=true)(hi:PI X tg iter (tI nm W X.K it))(hg:∀C fp s H,PG (Mi X N scope C fp s H) tg (tGt nm X.K t))(he:∀C fp s H,PE (Mi X N scope C fp s H) elt (tE nm W X.K e'))(hs:Gw iter=true)(hk:N.length-X.N.length=k)(ho:∀i∈Bh t,X.N.length<=i)(hN:X.N.Nodup)(hy:X.N[i]?=some y)(hl:X.env.scope.names.lookup y=some .local)(hsw:swapsWith (.ListComp elt [⟨tg,iter,[],0⟩] scope pos) (some (.Name y py)) aoz.line X.env=pure true):PS X (.Assign [.Name y py] (.ListComp elt [⟨tg,iter,[],0⟩] scope pos) aoz) (tS nm W X.K (.asg (.tg (.name i)) (.comp v0 k t it e'))) :=
 PS.ad5 (ah8 B Iw hi hg (λ_ _ _ _=>.inl ⟨rfl,rfl⟩) he (Dy hs X.env) hN hy hl hsw) (ad6 (Zi hk ho))
def ad7{y:Str}(B:Eh X N scope)(Iw:X.calm=true)(hi:PI X tg iter (tI nm W X.K it))(hg:∀C fp s H,PG (Mi X N scope C fp s H) tg (tGt nm X.K t))(hc:∀C fp s H,PT (Mi X N scope C fp s H) c (tQ nm W X.K c'))(he:∀C fp s H,PE (Mi X N scope C fp s H) elt (tE nm W X.K e'))(hs:Gw iter=true)(hk:N.length-X.N.length=k)(ho:∀i∈Bh t,X.N.length<=i)(hN:X.N.Nodup)(hy:X.N[i]?=some y)(hl:X.env.scope.names.lookup y=some .local)(hsw:swapsWith (.ListComp elt [⟨tg,iter,[c],0⟩] scope pos) (some (.Name y py)) aoz.line X.env=pure true):PS X (.Assign [.Name y py] (.ListComp elt [⟨tg,iter,[c],0⟩] scope pos) aoz) (tS nm W X.K (.asg (.tg (.name i)) (.Dg v0 k t it c' e'))) :=
 PS.ad5 (ah8 B Iw hi hg (λ_ _ _ _=>.inr ⟨c,rfl,hc _ _ _ _⟩) he (Dy hs X.env) hN hy hl hsw) (ad6 (U5 hk ho))
end
def spF(nm:Nm)(W:Jp)(K:Fg)(n f:Nat):Sp:=λvs H Q _=>∃ι M ds d M',m5 nm K ι H M/\lz K ι H ds vs/\ds.length=n/\W.call f ds M=.ok d M'/\∀ι' H' v,Le ι H ι' H'->m5 nm K ι' H' M'->Rep K ι' H' d v->Q v H'
def s_call(F:Fi X.prog X.w X.K X.mg X.base CX0 k fa fd ps (spF nm W X.K n f))(hr:zr k X.A)(hg:Gl X x)(hm:X.mg x=some (.ref fa))(hk:PySem.W.keepIn X.K (.ref fa)=true)(hb:Binds X.K fd ps [])(hlen:Cz.len es'=n)(ha:PA X (a::es) (Vn nm W X.K es'))(Vl:(x==("__debug__" : Str))=false)(he:starEach (a::es) X.env=(false,eval a X.env)::starEach es X.env)(Ib:(backTo pos (starEach es X.env)).any (·.1)=false) :
 PE X (.Call (.Name x p) (a::es) [] pos) (tE nm W X.K (.call f es')) :=
 PE.of (at8 (E:=E0) F hr hg hm hk hb .nil ah5 ha Vl he Ib) fun σ H Q ι ρ M d M' S R e q=>by
  rw[MW.amo] at e;obtain⟨ds,M1,e1,e⟩:=dw e;refine Wy S R e1 fun ι1 H1 vs le S1 R1 r=>?_
  rw[xx];exact⟨ι1,M1,ds,d,M',S1,r,(Hx e1).trans hlen,e,fun ι' H' v Vp S' r'=>q ι' H' v (le.trans Vp) S' r'⟩
def a04(Mk0:Mk X.K C fa)(F:Fi X.prog X.w X.K X.mg X.base CX0 k fa fd ps (spF nm W X.K (n+1) f))(hr:zr (k+1) X.A)(hg:Gl X x)(hm:X.mg x=some (.ref C))(hb:Binds X.K fd ps [])(hcl:W.cls[ci]?=some cl)(X5:cl.init=f)(hnm:nm.cls ci=some C)(hlen:Cz.len es'=n)(ha:PA X (a::es) (Vn nm W X.K es'))(Vl:(x==("__debug__" : Str))=false)(he:starEach (a::es) X.env=(false,eval a X.env)::starEach es X.env)(Ib:(backTo pos (starEach es X.env)).any (·.1)=false) :
 PE X (.Call (.Name x p) (a::es) [] pos) (tE nm W X.K (.make ci es')) :=
 PE.of (aua (E:=E0) Mk0 F hr hg hm hb .nil ah5 ha Vl he Ib) fun σ H Q ι ρ M d M' S R e q=>by
  rw[MW.acr] at e;obtain⟨ds,M1,e1,e⟩:=dw e;rw[hcl] at e;have e:((W.call cl.init (.ref M1.length::ds) (M1++[.ins ci []])).bind λr M2=>match r with|.non=>.ok (.ref M1.length) M2|_=>.bad)=.ok d M':=e;obtain⟨r0,M2,e2,e⟩:=dw e;refine Wy S R e1 fun ι1 H1 vs le S1 R1 r=>λp dx hp hdx Xy=>?_
  rw[xx];have keep:∀a u,H1 a=some u->upd (upd H1 dx (.own p)) p (.ins C dx []) a=some u:=λa u e=>by rw[j9 (kj e hp),j9 (kj e hdx)];exact e
  obtain⟨S2,yu⟩:=S1.new (o:=.ins ci []) hp keep λ_=>⟨C,dx,[],hnm,vm,.nil⟩
  have rp:Rep X.K (ι1.add p) (upd (upd H1 dx (.own p)) p (.ins C dx [])) (.ref M1.length) (.ref p):=.ref (by show(ι1.l++[p])[M1.length]?=some p;rw[<- S1.len];simp);refine⟨ι1.add p,M1++[.ins ci []],.ref M1.length::ds,r0,M2,S2,.cons rp (r.mono yu),by rw[gr,Hx e1,hlen],by rw[<- X5];exact e2,fun ι' H' v Vp S' r'=>?_⟩;cases r'<;>try cases e
  exact⟨rfl,q ι' H' _ (le.trans (yu.trans Vp)) S' (rp.mono Vp)⟩
theorem W2{nm:Nm}{ι:Io}{H:Hp}{m:Str}{K:Fg}(hno:∀i,nm.fld i≠m):∀{fs:List (Nat×Dv)}{l:List (Str×V)},qp K ι H (λk k'=>k'=nm.fld k) fs l->l.lookup m=none
 |_,_,.nil=>rfl
 |_,_,.cons (k:=kk) (k':=kk') hk h t=>by
  subst hk;rw[m9];have z:(m==nm.fld kk)=false:=by
   cases z:m==nm.fld kk with
   |false=>rfl|true=>exact absurd (eq_of_beq z).symm (hno kk)
  rw[z];exact W2 hno t
def a05{nm:Nm}{W:Jp}{X:Cx}{a o:Expr}{o':Ex}{pos apos:Pos}{es:Ya}{es':Cz}{k n f:Nat}{fa C:Addr}{fd:FuncData}{ps:Yf}{m:Str}{mi ci:Nat}{cl:MW.Cl}{pl:Sem Bool}(ho:PE X o (tE nm W X.K o'))(c0:Cls X.K C)(hme:Meth X.K C m fa)(F:Fi X.prog X.w X.K X.mg X.base CX0 k fa fd ps (spF nm W X.K (n+1) f))(hr:zr k X.A)(hb:Binds X.K fd ps [])
 (a06:∀c' cl',W.cls[c']?=some cl'->∀g,cl'.meths.lookup mi=some g->nm.cls c'=some C/\g=f) (hno:∀i,nm.fld i≠m)
 (hlen:Cz.len es'=n) (ha:PA X (a::es) (Vn nm W X.K es')) (he:starEach (a::es) X.env=(false,eval a X.env)::starEach es X.env) (Ib:(backTo pos (starEach es X.env)).any (·.1)=false)
 (ht:eval (.Call (.Attribute o m apos) (a::es) [] pos) X.env=(do
  let ov <- eval o X.env
  standAt apos.atName
  let (f,first) <- holding [ov] (getMethod ov m pl)
  callWith pos f first (backTo pos (starEach (a::es) X.env)) (backToKw pos (keywordEach [] X.env)))) :
 PE X (.Call (.Attribute o m apos) (a::es) [] pos) (tE nm W X.K (.meth o' mi es')) :=
 PE.of (at9 (E:=E0) ho c0 hme F hr hb .nil ah5 ha he Ib ht) fun σ H Q ι ρ M d M' S R e q=>by
  rw[MW.Bs] at e;obtain⟨x,M1,e1,e⟩:=dw e;obtain⟨ds,M2,e2,e⟩:=dw e;refine one S R e1 fun ι1 H1 v le S1 R1 r=>?_
  obtain⟨j,hx⟩:∃j,x=.ref j:=by cases x<;>first|exact⟨_,rfl⟩|cases e
  subst hx;obtain⟨p,rfl,hp⟩:∃p,v=.ref p/\ι1.l[j]?=some p:=by cases r with|ref z=>exact⟨_,rfl,z⟩
  have e:(match M1[j]? with
   | some (.ins c _)=>(match(W.cls[c]?).bind λC=>C.meths.lookup mi with
    | some f=>W.call f (.ref j::ds) M2|none=>.bad)
   | _=>.bad)=Res.ok d M':=e
  cases hM:M1[j]? with
  |none=>rw[hM] at e;cases e
  |some ob =>
   rw[hM] at e;cases ob with
   |ins ci fs =>
    have e:(match(W.cls[ci]?).bind λC=>C.meths.lookup mi with|some f=>W.call f (.ref j::ds) M2|none=>.bad)=Res.ok d M':=e;cases hL:(W.cls[ci]?).bind λC=>C.meths.lookup mi with
    |none=>rw[hL] at e;cases e
    |some g =>
     rw[hL] at e;have e:W.call g (.ref j::ds) M2=.ok d M':=e;obtain⟨cl',h1,h2⟩:=dj.mp hL;obtain⟨h3,rfl⟩:=a06 ci cl' h1 g h2;obtain⟨C',dx,l,g1,g2,g3⟩:=S1.obj j _ p hM hp;rw[h3] at g1;cases g1;have a8l:l.lookup m=none:=W2 hno g3;refine⟨p,dx,l,rfl,g2,a8l,Wy S1 R1 e2 fun ι2 H2 vs yu S2 R2 r2=>?_⟩;rw[xx];exact⟨ι2,M2,.ref j::ds,d,M',S2,.cons (r.mono yu) r2,by rw[gr,Hx e2,hlen],e,fun ι' H' v Vp S' r'=>q ι' H' v ((le.trans yu).trans Vp) S' r'⟩
   |_=>cases e
def a07:PE X (.Dict [] [] pos) (tE nm W X.K .ajn):=PE.of aoo fun σ H Q ι ρ M d M' S R e q=>by
 rw[MW.amm] at e;cases e;intro p hp;obtain⟨S2,yu⟩:=S.new (o:=.dT []) (H':=upd H p (.dT [])) hp (λa u e=>by rw[j9 (kj e hp)];exact e) λ_=>⟨[],vm,.nil⟩
 exact q _ _ _ yu S2 (.ref (by show(ι.l++[p])[M.length]?=some p;rw[<- S.len];simp))
def a08:PE X (.Dict [] [] pos) (tE nm W X.K .afm):=PE.of aon fun σ H Q ι ρ M d M' S R e q=>by
 rw[MW.amn] at e;cases e;intro p hp;obtain⟨S2,yu⟩:=S.new (o:=.dK []) (H':=upd H p (.dK [])) hp (λa u e=>by rw[j9 (kj e hp)];exact e) λ_=>⟨[],vm,.nil⟩
 exact q _ _ _ yu S2 (.ref (by show(ι.l++[p])[M.length]?=some p;rw[<- S.len];simp))
def bes(nm:Nm)(K:Fg):azt:=λo i v H Q=>∃ι M x y d M',m5 nm K ι H M/\Rep K ι H x o/\Rep K ι H y i/\Rep K ι H d v/\MW.setOp x y d M=some M'/\∀H',Le ι H ι H'->m5 nm K ι H' M'->Q H'
def W3(h:n<100000):n<sizeLine:=gq h Rq
set_option tactic.hygienic true in
def auu(hu:X.A.units+1<cLine):azu X (bes nm X.K):=by
 intro pins s σ H o i v ov iv u Q I ro ri rv hh;obtain⟨ι,M,x,y,d,M',S,rx,ry,rd,e,q⟩:=hh;obtain⟨j,hx⟩:∃j,x=.ref j:=by cases x<;>first|exact⟨_,rfl⟩|cases e
 subst hx;obtain⟨p,rfl,hp⟩:∃p,o=.ref p/\ι.l[j]?=some p:=by cases rx with|ref z=>exact⟨_,rfl,z⟩
 simp only[MW.setOp] at e;split at e
 . rename_i xs hM
   split at e
   . rename_i k
     obtain⟨qq,e1,e2⟩:=cj.mp e;subst e2;cases ry;obtain⟨vs,h1,h2⟩:=S.obj j _ p hM hp;refine set_list pins s σ H _ _ v ov iv u Q I ro ri rv ⟨p,vs,k,qq,rfl,rfl,h1,by rw[<- h2.length];exact e1,?_⟩;obtain⟨S2,yu⟩:=S.put (u:=.lst (vs.set qq v)) (o:=.lst (xs.set qq d)) hM hp λle=>⟨_,vm,(h2.mono le).set (rd.mono le) qq⟩
     exact q _ yu S2
   . cases e
 . rename_i gw hM
   obtain⟨k,e1,e⟩:=dj.mp e;split at e<;>cases e;rename_i hl;obtain⟨l,h1,h2⟩:=S.obj j _ p hM hp;obtain⟨b,rfl,hb⟩:=Tv ry e1;cases ro;refine Za (H':=upd H p (.dT (putK l k v))) (y:=.ref b) (v:=v) hu I (agd.t h1 hb (by rw[<- h2.length];exact W3 hl)) ri rv λs' I'=>⟨_,I',?_⟩
   obtain⟨S2,yu⟩:=S.put (u:=.dT (putK l k v)) (o:=.dT (MW.Dh gw k d)) hM hp λle=>⟨_,vm,(h2.mono le).put (rd.mono le)⟩
   exact q _ yu S2
 . rename_i gw hM
   obtain⟨k,e1,e⟩:=dj.mp e;split at e<;>cases e;rename_i hl;obtain⟨l,h1,h2⟩:=S.obj j _ p hM hp;have hy:=Tu ry e1;subst hy;cases ro;refine Za (H':=upd H p (.dK (putK l k v))) (y:=kV k) (v:=v) hu I (agd.k h1 (by rw[<- h2.length];exact W3 hl)) ri rv λs' I'=>⟨_,I',?_⟩
   obtain⟨S2,yu⟩:=S.put (u:=.dK (putK l k v)) (o:=.dK (MW.Dh gw k d)) hM hp λle=>⟨_,vm,(h2.mono le).put (rd.mono le)⟩
   exact q _ yu S2
 . cases e
def W4(h:Tw e=true)(t:Expr)(l:Nat)(env:Env):swapsWithSole [t] e l env=pure false:=by unfold swapsWithSole;exact N8 h _ _ _
def apb(e o b:Expr)(p:Pos)(l:Nat)(env:Env):swapsWithSole [.Subscript o b p] e l env=pure false:=by cases e<;>rfl
def apc(hu:X.A.units+1<cLine)(he:PE X a (tE nm W X.K a'))(ho:PE X o (tE nm W X.K o'))(hi:PE X b (tE nm W X.K b'))(ha:∀v,assign (.Subscript o b pos') X.env v=(do
 let ov <- holding [v] (eval o X.env)
 let iv <- holding [v,ov] (eval b X.env)
 standAt pos'
 holding [v,ov,iv] (setItem ov iv v)
 release [v,ov,iv] [])):PS X (.Assign [.Subscript o b pos'] a pos) (tS nm W X.K (.asg (.sub o' b') a')) :=
 PS.of (anu he (azw ho hi (auu (nm:=nm) hu) ha) (apb _ _ _ _ _ _) (by rfl) (by rfl)) λD σ H ι ρ M fl ρ' M' S R e q=>by
  rw[MW.aaj] at e;obtain⟨x,M1,e1,e⟩:=dw e;obtain⟨ρ2,M2,e2,e⟩:=dw e;cases e;rw[MW.as7] at e2;obtain⟨y,M3,e3,e2⟩:=dw e2;obtain⟨z,M4,e4,e2⟩:=dw e2;obtain⟨M5,M6,e5,e6⟩:=dw e2;obtain⟨e7,e8⟩:=ux e5;subst e8;cases e6;refine one S R e1 fun ι1 H1 v le S1 R1 r=>?_
  refine one S1 R1 e3 fun ι2 H2 v2 yu S2 R2 r2=>one S2 R2 e4 fun ι3 H3 v3 Zf S3 R3 r3=>?_
  exact⟨ι3,_,y,z,x,_,S3,r2.mono Zf,r3,(r.mono yu).mono Zf,e7,λH' Vp S'=>q ι3 H' σ (((le.trans yu).trans Zf).trans Vp) S' (R3.mono Vp)⟩
set_option tactic.hygienic true in
def apd(hn:n=nm.fld f)(hcl:∀c C,nm.cls c=some C->Cls X.K C/\Gu X.K C n)(he:PE X a (tE nm W X.K a'))(ho:PE X o (tE nm W X.K o'))(Ib:Tw a=true) :
 PS X (.Assign [.Attribute o n pos'] a pos) (tS nm W X.K (.asg (.fld o' f) a')) :=
 PS.of (a0b ho he (N8 Ib _ _ _)) λD σ H ι ρ M fl ρ' M' S R e q=>by
  rw[MW.aaj] at e;obtain⟨x,M1,e1,e⟩:=dw e;obtain⟨ρ2,M2,e2,e⟩:=dw e;cases e;rw[MW.as8] at e2;obtain⟨y,M3,e3,e2⟩:=dw e2;obtain⟨M5,M6,e5,e6⟩:=dw e2;obtain⟨e7,e8⟩:=ux e5;subst e8;cases e6;refine one S R e1 fun ι1 H1 v le S1 R1 r=>one S1 R1 e3 fun ι2 H2 v2 yu S2 R2 r2=>?_
  obtain⟨j,hx⟩:∃j,y=.ref j:=by cases y<;>first|exact⟨_,rfl⟩|cases e7
  subst hx;obtain⟨p,rfl,hp⟩:∃p,v2=.ref p/\ι2.l[j]?=some p:=by cases r2 with|ref z=>exact⟨_,rfl,z⟩
  simp only[MW.Q6] at e7;split at e7
  . rename_i c fs hM
    have hl:fs.length<1000:=by
     by_cases z:fs.length<1000
     . exact z
     . rw[bx z] at e7;cases e7
    rw[cz hl] at e7;cases e7;obtain⟨C,dx,l,h1,h2,h3⟩:=S2.obj j _ p hM hp;subst hn;obtain⟨g1,g2⟩:=hcl c C h1;refine⟨p,C,dx,l,rfl,h2,g1,g2,by rw[<- h3.length];exact hl,?_⟩;obtain⟨S3,Zf⟩:=S2.put (u:=.ins C dx (Ig (nm.fld f) v l)) (o:=.ins c (MW.Ue f x fs)) hM hp λVp=>⟨C,dx,_,h1,vm,(h3.mono Vp).Ig ((r.mono yu).mono Vp)⟩
    exact q ι2 _ σ ((le.trans yu).trans Zf) S3 (R2.mono Zf)
  . cases e7
def Bk.weak(h:Bk X f r)(w:∀xs H Q,r' xs H Q->r xs H Q):Bk X f r':=λpins s σ H xs us Q I rs q=>h pins s σ H xs us Q I rs (w xs H Q q)
def rB(nm:Nm)(K:Fg)(b:Blt):List V->Hp->VK->Prop:=λvs H Q=>∃ι M ds d M',m5 nm K ι H M/\lz K ι H ds vs/\MW.uc b ds M=.ok d M'/\∀ι' H' v,Le ι H ι' H'->m5 nm K ι' H' M'->Rep K ι' H' d v->Q v H'
def Bk.of(h:Bk X f r)(w:∀vs H Q ι M ds d M',m5 nm X.K ι H M->lz X.K ι H ds vs->MW.uc bb ds M=.ok d M'->(∀ι' H' v,Le ι H ι' H'->m5 nm X.K ι' H' M'->Rep X.K ι' H' d v->Q v H')->r vs H Q):Bk X f (rB nm X.K bb) :=
 Bk.weak h λvs H Q ⟨ι,M,ds,d,M',S,r,e,q⟩=>w vs H Q ι M ds d M' S r e q
def ad9{X:Cx}:∀σ H Q,tE nm W X.K (.blt t es') σ H Q->tCB (rB nm X.K t) (Vn nm W X.K es') σ H Q:=fun σ H Q hh=>by obtain⟨ι,ρ,M,d,M',S,R,e,q⟩:=hh;rw[MW.ahf] at e;obtain⟨ds,M1,e1,e⟩:=dw e;exact Wy S R e1 fun ι1 H1 vs le S1 R1 r=>⟨ι1,M1,ds,d,M',S1,r,e,fun ι' H' v Vp S' r'=>q ι' H' v (le.trans Vp) S' r'⟩
def aea{id:String}(hc:Bk X (.builtin id) (rB nm X.K t))(hg:Gl X x)(hm:X.mg x=none)(hv:bootBuiltins x=some (.builtin id))(ha:PA X (a::es) (Vn nm W X.K es'))(hn:x≠"__name__")(Vl:(x==("__debug__" : Str))=false)(he:starEach (a::es) X.env=(false,eval a X.env)::starEach es X.env)(Ib:(backTo pos (starEach es X.env)).any (·.1)=false):PE X (.Call (.Name x p) (a::es) [] pos) (tE nm W X.K (.blt t es')):=PE.weak (aoj hc hg hm hv ha hn Vl he Ib) ad9
def agm(hc:Bk X (.type T) (rB nm X.K t))(hg:Gl X x)(hm:X.mg x=none)(hv:bootBuiltins x=some (.type T))(ha:PA X (a::es) (Vn nm W X.K es'))(hn:x≠"__name__")(Vl:(x==("__debug__" : Str))=false)(he:starEach (a::es) X.env=(false,eval a X.env)::starEach es X.env)(Ib:(backTo pos (starEach es X.env)).any (·.1)=false):PE X (.Call (.Name x p) (a::es) [] pos) (tE nm W X.K (.blt t es')):=PE.weak (akd hc hg hm hv ha hn Vl he Ib) ad9
def G6(r:lz K ι H ds vs)(h:ds=[d]):∃v,vs=[v]/\Rep K ι H d v:=by subst h;cases r with|cons h t=>cases t;exact⟨_,rfl,h⟩
def auv:Bk X (.type "tuple") (rB nm X.K .tuple):=Bk.of Yb λvs H Q ι M ds d M' S r e q=>by
 cases r with
 |nil=>simp[MW.uc] at e
 |@cons x v _ _ h t =>
  cases t with
  |cons h2 t2=>simp[MW.uc] at e
  |nil =>
   have e:Res.qi ((MW.yr M x).map MW.D.tup) M=.ok d M':=e;obtain⟨e1,e2⟩:=ux e;subst e2;obtain⟨xs,e3,rfl⟩:=cj.mp e1;obtain⟨p,us,rfl,hp,ru⟩:=Fj S h e3;rcases hp with hp|hp
   . refine⟨p,us,rfl,.inl ⟨Gd.of hp,λl hl=>?_⟩⟩
     obtain⟨S2,yu,r2⟩:=K3 S hl ru;exact q ι _ _ yu S2 r2
   . exact⟨p,us,rfl,.inr ⟨Jl.of hp,q ι H _ (Le.refl _ _) S (.tup hp ru)⟩⟩
def a09:Bk X (.type "list") (rB nm X.K .list):=Bk.of abb λvs H Q ι M ds d M' S r e q=>by
 cases r with
 |nil=>simp[MW.uc] at e
 |@cons x v _ _ h t =>
  cases t with
  |cons h2 t2=>simp[MW.uc] at e
  |nil =>
   have e:(match MW.yr M x with|some ds=>MW.new (.lst ds) M|none=>.bad)=Res.ok d M':=e;cases e3:MW.yr M x with
   |none=>rw[e3] at e;cases e
   |some xs =>
    rw[e3] at e;cases e;obtain⟨p,us,rfl,hp,ru⟩:=Fj S h e3;refine⟨p,us,rfl,hp.imp Gd.of Jl.of,λl hl=>?_⟩;obtain⟨S2,yu,r2⟩:=Vq S hl ru;exact q _ _ _ yu S2 r2
set_option tactic.hygienic true in
def a8m:Bk X (.builtin "len") (rB nm X.K .len):=Bk.of aba λvs H Q ι M ds d M' S r e q=>by
 cases r with
 |nil=>simp[MW.uc] at e
 |@cons x v _ _ h t =>
  cases t with
  |cons h2 t2=>simp[MW.uc] at e
  |nil =>
   have fin:∀xs,(MW.yr M x=some xs)->d=.int xs.length->M'=M->∃p ys,[v]=[V.ref p]/\(Gd X.K H p ys\/Jl X.K H p ys)/\Q (.int ys.length) H:=λxs e3 e1 e2=>by subst e1 e2;obtain⟨p,us,rfl,hp,ru⟩:=Fj S h e3;exact⟨p,us,rfl,hp.imp Gd.of Jl.of,by rw[<- ru.length];exact q ι H _ (Le.refl _ _) S (.int _)⟩
   cases h with
   |fz e1 r1 =>
    cases e;exact⟨_,_,rfl,.inl e1.sq,by rw[<- r1.length];exact q ι H _ (Le.refl _ _) S (.int _)⟩
   |@ref n p e1 =>
    have e:(match M[n]? with|some (.lst ds)=>Res.ok (MW.D.int ds.length) M|_=>.bad)=Res.ok d M':=e;split at e
    . rename_i ds hM
      cases e;exact fin ds (by simp[MW.yr,MW.gf,hM]) rfl rfl
    . cases e
   |tup e1 r1=>cases e;exact fin _ rfl rfl rfl|vl e1 n1 r1=>cases e;exact fin _ rfl rfl rfl|_=>cases e
open MW
set_option tactic.hygienic true in
def Tz(h:acp f M (.ref i) (.ref j)=some r):∃ka kb,M[i]?=some (.dT ka)/\M[j]?=some (.dT kb)/\Yq ka=true/\Yq kb=true/\((i=j/\r=true)\/(i≠j/\(if ka.length=kb.length then eqK f kb ka else some false)=some r)):=by
 unfold acp at h;dsimp only at h;split at h
 . rename_i ka kb h1 h2
   split at h
   . rename_i hk
     rw[au] at hk;split at h
     . rename_i e;cases h;exact⟨ka,kb,h1,h2,hk.1,hk.2,.inl ⟨e,rfl⟩⟩
     . rename_i e;exact⟨ka,kb,h1,h2,hk.1,hk.2,.inr ⟨e,h⟩⟩
   . cases h
 . cases h
set_option tactic.hygienic true in
def Qt(h:yd M a b=some r):Yr M a=false/\Ih M 6 a b=some r:=by
 unfold yd at h;split at h
 . cases h
 . rename_i hd;exact⟨by simpa using hd,h⟩
end Sm
namespace Xx
open PySem L2
def SmK(k:List Key):Prop:=∃i j:Int,-1<=i/\i<9/\-1<=j/\j<9/\k=[.inl i,.inl j]
noncomputable def aia(i j:Int):Int:=reduceHash (Builtin.Tuple.tupleHashOf [hashInt i,hashInt j])
noncomputable def rgI:List Int:=[-1,0,1,2,3,4,5,6,7,8]
def ape:(rgI.all λi=>rgI.all λj=>rgI.all λi'=>rgI.all λj'=>(aia i j != aia i' j')||(i==i'&&j==j'))=true:=by decide+kernel
def abj(h1:-1<=i)(h2:i<9):i∈rgI:=by
 have:i=-1\/i=0\/i=1\/i=2\/i=3\/i=4\/i=5\/i=6\/i=7\/i=8:=by lia
 unfold rgI;simp only[cu,qz,Ak];exact this
def apf{P:Program}(h:SmK k)(h':SmK k')(e:tupleKeyHash (jh P w) k=tupleKeyHash (jh P w) k'):k=k':=by obtain⟨i,j,a1,a2,a3,a4,rfl⟩:=h;obtain⟨i',j',b1,b2,b3,b4,rfl⟩:=h';have e:aia i j=aia i' j':=e;have:=jc.mp (jc.mp (jc.mp (jc.mp ape i (abj a1 a2)) j (abj a3 a4)) i' (abj b1 b2)) j' (abj b3 b4);rw[e] at this;simp at this;rw[this.1,this.2]
def agn(hk:IsTupleKey (jh prog w) s.heap ks a)(h:Q false s):wpAny (model prog w) A (Builtin.Dict.quietEq (.ref a)) Q E s:=by
 unfold Builtin.Dict.quietEq;refine aa (wpAny_specialOf hk.typeIs F.slot_tuple_eq.lookup ?_);refine aj ?_;have:(some (Value.builtin "tuple.__eq__")==some (Value.builtin "object.__eq__"))=false:=by decide
 rw[this];exact h
def apg{xs:List (List Key×Addr×Value)}(hn:(xs.map (·.1)).Nodup)(hs:∀x∈xs,SmK x.1)(hx:x∈xs) :
 ((xs.map (entryOfKey (tupleKind (jh prog w)))).filter (·.hash==tupleKeyHash (jh prog w) x.1)).length<=1:=by
 induction xs with
 |nil=>simp
 |cons y ys ih =>
  rw[ie,mj] at hn;rw[ie]
  by_cases hy:tupleKeyHash (jh prog w) y.1=tupleKeyHash (jh prog w) x.1
  . have e:=apf (hs y dh) (hs x hx) hy
    have none:(ys.map (entryOfKey (tupleKind (jh prog w)))).filter (·.hash==tupleKeyHash (jh prog w) x.1)=[]:=by rw[List.filter_eq_nil_iff];intro z hz hq;obtain⟨z',hz',rfl⟩:=bf.mp hz;have hq:tupleKeyHash (jh prog w) z'.1=tupleKeyHash (jh prog w) x.1:=eq_of_beq (show(tupleKeyHash (jh prog w) z'.1==tupleKeyHash (jh prog w) x.1)=true from hq);have:=apf (hs z' (bh _ hz')) (hs x hx) hq;exact hn.1 (bf.mpr ⟨z',hz',this.trans e.symm⟩)
    rw[List.filter_cons,none];split<;>simp
  . rw[List.filter_cons,bx (by show ¬((tupleKeyHash (jh prog w) y.1==tupleKeyHash (jh prog w) x.1)=true);simpa using hy)]
    rcases cu.mp hx with rfl|hx
    . exact absurd rfl hy
    . exact ih hn.2 (λz hz=>hs z (bh _ hz)) hx
def aeb{id:String}{xs:List (List Key×Addr×Value)}(ho:s.heap.get? d=some o)(hd:o.data=.dict es ep)(he:es.toList=xs.map (entryOfKey (tupleKind (jh prog w))))(hk:∀x∈xs,IsTupleKey (jh prog w) s.heap x.1 x.2.1)(hn:(xs.map (·.1)).Nodup)(hs:∀x∈xs,SmK x.1)(h:Q es s) :
 wpAny (model prog w) A (Builtin.Dict.entriesForEmpty id d) Q E s:=by
 unfold Builtin.Dict.entriesForEmpty;refine aa (j0 ho hd ?_);refine aa ?_;rw[<- Array.forIn_toList];refine rz _ (λrest _ s'=>s'=s/\∀e∈rest,∃x∈xs,e=entryOfKey (tupleKind (jh prog w)) x) _ ?_ ?_ _ _ ⟨rfl,λe hm=>?_⟩
 . rintro e rest r s' ⟨rfl,Dl⟩
   obtain⟨x,hx,rfl⟩:=Dl e dh;show wpAny _ _ (Builtin.Dict.quietEq (.ref x.2.1) >>= _) _ _ _;refine aa (agn (hk x hx) ?_);simp only[ym,jy];have h1:=apg (prog:=prog) (w:=w) hn hs hx;rw[bx (by
    intro hc;have:(es.filter (·.hash==(entryOfKey (tupleKind (jh prog w)) x).hash)).size=((xs.map (entryOfKey (tupleKind (jh prog w)))).filter (·.hash==tupleKeyHash (jh prog w) x.1)).length:=by rw[<- he,<- tu,Array.toList_filter];rfl
    exact l_ hc (a_ (f_ this) h1))]
   exact aj ⟨rfl,λe he=>Dl e (bh _ he)⟩
 . rintro b s' ⟨rfl,_⟩
   exact aj h
 . rw[he] at hm
   obtain⟨x,hx,rfl⟩:=bf.mp hm;exact⟨x,hx,rfl⟩
def a8n{prog:Program}{w:World}{h h':Heap}{ks:List Key}{p a:Addr}(x:IsTupleKey (jh prog w) h ks p)(hs:∀b o,h.get? b=some o->h'.get? b=some o):IsTupleKey (jh prog w) h' ks p :=
 let ⟨o,items,n,ho,r⟩:=x;⟨o,items,n,hs p o ho,r⟩
set_option tactic.hygienic true in
def a8o(hds:(d==sysModules)=false)(hd:s.heap.DictOfH (tupleKind (jh prog w)) d xs)(hs:∀x∈xs,SmK x.1)(hsz:xs.length<=sizeLine)(h:∀h',h'.DictOfH (tupleKind (jh prog w)) s.heap.objs.size xs->(∀b o,s.heap.get? b=some o->h'.get? b=some o)->Q (.ref s.heap.objs.size) { s with heap:=h' }) :
 wpAny (model prog w) A (call (.type "dict") [.ref d]) Q E s:=by
 refine callType_codes (Q₁:=λobj s₁=>obj=.ref s.heap.objs.size/\s₁={ s with heap:=s.heap.push { cls:=.type "dict",data:=.dict #[] } }) F.kt_called_dict (F.kt_typeCall_dict_1 _) F.entry_dict_init (kt_code_dict_new _ ⟨rfl,rfl⟩) ?_;rintro obj s₁ ⟨rfl,rfl⟩;have hdT:=hd.typeIs;obtain⟨od,esd,epd,hod,hcd,hdd,hed,hxd,hnd⟩:=hd;have keep:∀b o,s.heap.get? b=some o->(s.heap.push { cls:=.type "dict",data:=.dict #[] }).get? b=some o:=λb o e=>ao _ e
 have aph:(s.heap.push { cls:=.type "dict",data:=.dict #[] }).get? s.heap.objs.size=some { cls:=.type "dict",data:=.dict #[] }:=bu _ rfl;have hTn:Shared.TypeIs { s with heap:=s.heap.push { cls:=.type "dict",data:=.dict #[] } } (.ref s.heap.objs.size) "dict" := ⟨_,aph,rfl⟩;have hT':Shared.TypeIs { s with heap:=s.heap.push { cls:=.type "dict",data:=.dict #[] } } (.ref d) "dict" := ⟨od,keep _ _ hod,hcd.1⟩;have afh:=keep _ _ hod;have hdo:s.heap.objs.size≠d:=λe=>absurd (az hod) (by rw[e];exact nq _)
 have hlen:esd.size=xs.length:=size_of_entries hed;refine⟨hTn,F.args_dict_init_2 _ _,?_⟩;unfold Builtin.«dict.__init__»;refine aa ?_;unfold Builtin.Dict.selfAndRest;refine aa (wpAny_notOrdered_dict hTn ?_);show wpAny _ _ (pure (s.heap.objs.size,[Value.ref d])) _ _ _;refine aj ?_;show wpAny _ _ (Builtin.Dict.updateFrom "dict.__init__" s.heap.objs.size (.ref d) [] .none) _ _ _;unfold Builtin.Dict.updateFrom;refine aa (qx hT' ?_);rw[bx (by decide)];refine aa ?_;unfold Builtin.Dict.merge;refine aa ?_;unfold Builtin.Dict.readDirectly;refine aa (my hT' isSubtype_dict_dict ?_);simp only[qm,dg,jo];refine aa (wpAny_specialOf hT' F.slot_dict_iter.lookup (aj ?_));simp only[yz,jy];refine aa (aj ?_);unfold Builtin.Dict.mergeDict;rw[bx (by simpa using hdo)];unfold Builtin.Dict.showsAll;rw[bx (by rw[hds];exact jg)];refine aa (aj ?_);refine aa (j0 afh hdd ?_);have kk:∀{h':Heap},(∀b o,s.heap.get? b=some o->h'.get? b=some o)->∀x∈xs,(tupleKind (jh prog w)).is h' x.1 x.2.1:=λhk x hx=>a8n (a:=d) (hxd x hx) hk
 have emp:esd=#[]->∀s',s'={ s with heap:=s.heap.push { cls:=.type "dict",data:=.dict #[] } }->wpAny (model prog w) A.in1.in1 (Builtin.Dict.addKeywords s.heap.objs.size [] >>= λ_=>ret Value.none) (λfin s'=>match fin with|.done f=>wants (λr s₂=>r=Value.none/\Q (.ref s.heap.objs.size) s₂) E (.ok f) s'|.again c'=>c'.quiet=true/\codeAny (model prog w) A.in1 c' (wants (λr s₂=>r=Value.none/\Q (.ref s.heap.objs.size) s₂) E) s') (λe s'=>wants (λr s₂=>r=Value.none/\Q (.ref s.heap.objs.size) s₂) E (.error e) s') s':=λhe s' Ov=>by have hx0:xs=[]:=uo.mp (by rw[<- hlen,he];rfl);subst Ov;refine aa (aj (aj ⟨rfl,h _ ⟨_,#[],0,aph,⟨rfl,rfl,rfl⟩,rfl,?_,kk keep,hnd⟩ keep⟩));rw[hx0];rfl
 dsimp only;split
 . refine aa (j0 aph rfl ?_)
   rw[cz (show(#[]:Array DictEntry).isEmpty=true from rfl)];refine aa (aeb afh hdd hed (kk keep) hnd hs ?_);split
   . refine aa (wpAny_updateDictKeysTo aph rfl (aj ?_) (by show esd.size<=_;exact a_ (f_ hlen) (a_ hsz x_)))
     have aib:∀b o,s.heap.get? b=some o->((s.heap.push { cls:=.type "dict",data:=.dict #[] }).update s.heap.objs.size (Obj.mapDictKeys λ_=>esd)).get? b=some o:=λb o e=>by rw[uf _ _ (j6 (du (az e)))];exact keep b o e
     refine aa (aj (aj ⟨rfl,h _ ⟨_,esd,0+1,o8 _ aph (Obj.isFreed_of_dict (Obj.data_mapDictKeys rfl _)),⟨rfl,rfl,rfl⟩,Obj.data_mapDictKeys rfl _,hed,kk aib,hnd⟩ aib⟩))
   . rename_i Xy
     exact aj (emp (Array.isEmpty_iff.mp (by simpa using Xy)) _ rfl)
 . rename_i hf
   have he:esd=#[]:=by
    apply xr;intro Xy;have hx:xs≠[]:=λe=>Xy (Array.eq_empty_of_size_eq_zero (by rw[hlen,e];rfl))
    obtain⟨x,ys,rfl⟩:=List.exists_cons_of_ne_nil hx;have Dl:(esd.all λe=>(keyPart e.key).isSome)=true:=by simp only[Bool.not_eq_true',Bool.not_eq_false,au] at hf;exact hf.2
    rw[<- Array.all_toList,hed,ie,List.all_cons,au] at Dl;exact Bool.noConfusion (Dl.1:(keyPart (.ref x.2.1)).isSome=true)
   refine aa (wpAny_dictEpoch afh hdd ?_);refine aa (j0 afh hdd ?_);refine aa ?_;rw[he,u5];simp only[Std.Legacy.Range.size,dz,List.length_nil,Nat.sub_zero,wu,Nat.sub_self,Nat.div_one,List.range'_zero,List.forIn_nil];exact aj (aj (emp he _ rfl))
inductive Iz(A:Around)(s:Shared)(kb:List (List Key×Addr×Value)):List (List Key×Addr×Value)->Bool->Prop
 |nil:Iz A s kb [] true
 |miss {k:List Key} {p:Addr} {v:Value} {r:List (List Key×Addr×Value)}:atKey kb k=none->Iz A s kb ((k,p,v)::r) false
 |hit {k:List Key} {p q:Addr} {v y:Value} {r:List (List Key×Addr×Value)} {e b:Bool}:atKey kb k=some (q,y)->SeqAt.EqAt A s v y e->Iz A s kb r b->Iz A s kb ((k,p,v)::r) (e&&b)
def Iz.inv(h:Iz A s kb ((k,p,v)::r) b) :
 (atKey kb k=none/\b=false)\/∃q y e b',atKey kb k=some (q,y)/\SeqAt.EqAt A s v y e/\Iz A s kb r b'/\b=(e&&b'):=by
 cases h with
 |miss hn=>exact .inl ⟨hn,rfl⟩|hit hy he hr=>exact .inr ⟨_,_,_,_,hy,he,hr,rfl⟩
def api{rest:List (List Key×Addr×Value)}(room:A.units<cLine)(key:IsTupleKey (jh prog w) s.heap k p)(db:s.heap.DictOfH (tupleKind (jh prog w)) b kb)(gn:g none=pure false)(gs:∀j,g (some j)=(do let l <- dictEntries b;match l[j]? with|some f=>holding [f.val] (eqBool v f.val)|_=>unsupported "internal:dict-equal"))(hits:Iz A s kb ((k,p,v)::rest) r)(no:r=false->Q false s)(yes:Iz A s kb rest r->Q true s) :
 wpAny (model prog w) A (dictFind b (.ref p) (tupleKeyHash (jh prog w) k) >>= g) Q E s:=by
 obtain⟨o,ents,ep,at1,_,at2,at3,at4,at5⟩:=db;refine aa (wpAny_dictFind_heap (knd:=tupleKind (jh prog w)) room key at1 at2 at3 at4 at5 (λnone=>?_) λj pv some'=>?_)
 . rw[gn]
   refine aj (no ?_);rcases hits.inv with⟨_,e⟩|⟨_,_,_,_,z,_⟩
   . exact e
   . rw[atKey_none_of_get none] at z;cases z
 . rw[gs]
   have there:=atKey_of_get at5 some';refine aa (j0 at1 at2 ?_);rw[show ents[j]?=some (entryOfKey (tupleKind (jh prog w)) (k,pv)) by rw[entry_at at3,some'];rfl];rcases hits.inv with⟨z,_⟩|⟨q,y,c,d,z,same,more,e⟩
   . rw[there] at z;cases z
   . have:pv=(q,y):=jd (there.symm.trans z)
     subst this;refine ir (same prog w _ _ ?_);cases c
     . exact no e
     . exact yes (by rw[e];exact more)
set_option tactic.hygienic true in
def a8q{id:String}(room:A.units<cLine)(na:(a==sysModules)=false)(nb:(b==sysModules)=false)(da:s.heap.DictOfH (tupleKind (jh prog w)) a ka)(db:s.heap.DictOfH (tupleKind (jh prog w)) b kb)(hits:ka.length=kb.length->Iz A s kb ka r)(post:Q (ka.length==kb.length&&r) s) :
 wpAny (model prog w) A (Builtin.Dict.samePairs id a b) Q E s:=by
 have db':=db;obtain⟨o,ents,ep,at1,_,at2,at3,at4,at5⟩:=da;obtain⟨o',bhr,ep',bev,_,bew,bex,bkx,bky⟩:=db;have la:=size_of_entries at3;have lb:=size_of_entries bex;unfold Builtin.Dict.samePairs;have sa:∀{d:Addr}{R:Unit->Shared->Prop},(d==sysModules)=false->R () s->wpAny (model prog w) A (Builtin.Dict.showsAll d) R E s:=λhd hR=>by unfold Builtin.Dict.showsAll;rw[hd];exact aj hR
 refine aa (sa na (aa (sa nb (aa (j0 at1 at2 (aa (j0 bev bew ?_)))))));rw[la,lb];split
 . rename_i ne
   have:(ka.length==kb.length)=false:=by simpa using ne
   rw[this] at post;exact aa (wpAny_rule (aj post))
 . rename_i eq
   have eq:ka.length=kb.length:=by simpa using eq
   have post:Q r s:=by simpa[eq] using post
   refine aa (wpAny_dictEpoch at1 at2 (aa ?_));refine upto (λi q z=>z=s/\q=(none,())/\Iz A s kb (ka.drop i) r) (λi q z lt inv=>?_) (λq z inv=>?_) ⟨rfl,rfl,hits eq⟩
   . obtain⟨rfl,rfl,inv⟩:=inv
     rw[List.drop_eq_getElem_cons lt] at inv;refine aa (j0 at1 at2 ?_);rw[show ents[i]?=some (entryOfKey (tupleKind (jh prog w)) ka[i]) by rw[entry_at at3];simp[lt]];refine aa (ir (api (v:=ka[i].2.2) room (at4 _ (ph lt)) db' rfl (λ_=>rfl) inv (λe=>?_) λmore=>?_))
     . subst e;exact aj (aj post)
     . refine aa (wpAny_dictEpoch at1 at2 ?_)
       rw[wj];exact aj ⟨rfl,rfl,more⟩
   . obtain⟨rfl,rfl,inv⟩:=inv
     rw[List.drop_length] at inv;cases inv;exact aj post
def eqH(na:(a==sysModules)=false)(nb:(b==sysModules)=false)(da:s.heap.DictOfH (tupleKind (jh prog w)) a ka)(db:s.heap.DictOfH (tupleKind (jh prog w)) b kb)(room:A.units+1<cLine)(hits:ka.length=kb.length->Iz A.in1 s kb ka r)(post:Q (.bool (ka.length==kb.length&&r)) s) :
 wpAny (model prog w) A (richCompare .Eq (.ref a) (.ref b)) Q E s:=by
 have two:∀{R:Value×Value->Shared->Prop},R (.ref a,.ref b) s->wpAny (model prog w) A.in1 (Builtin.Dict.dictSlotArgs "__eq__" ⟨[.ref a,.ref b],[]⟩) R E s:=λhR=>aa (wpAny_notOrdered_dict da.typeIs (aj hR))
 have body:wpAny (model prog w) A.in1 (Builtin.«dict.__eq__» ⟨[.ref a,.ref b],[]⟩) (λf z=>∃v,f=.done (.ret v)/\v≠.notImplemented/\Q v z) E s:=by refine aa (two (aa (my (T := "dict") db.typeIs PySem.F.sub_dict_dict ?_)));refine aa (aj (aa (aj (aa (a8q (show A.units+1<cLine from room) na nb da db hits (aj ⟨_,rfl,(λz=>nomatch z),?_⟩))))));simpa using post
 exact wpAny_richCompare_same_room (op:=.Eq) da.typeIs db.typeIs PySem.F.slot_dict_eq (jf PySem.F.slot_dict_eq da.typeIs PySem.F.entry_dict_eq body (PySem.F.args_dict_eq_2 _ _)) (by lia)
theorem Zj{P P':Program}{w w':World}:∀{ks:List Key}{vs:Zl},ItemsAre (jh P w) ks vs->ItemsAre (jh P' w') ks vs
 |_,_,.nil=>.nil|_,_,.cons a b=>.cons a (Zj b)
def aec{P:Program}{h:Heap}(hd:h.DictOfH (tupleKind (jh P w)) d xs)(hi:∀x∈xs,∀k∈x.1,∃i,k=Sum.inl i):h.DictOfH (tupleKind (jh P' w')) d xs:=by
 obtain⟨o,es,ep,h1,h2,h3,h4,h5,h6⟩:=hd;refine⟨o,es,ep,h1,h2,h3,?_,λx hx=>?_,h6⟩
 . rw[h4]
   refine p8 λx hx=>?_
   have:x.1.map (jh P w).hash=x.1.map (jh P' w').hash:=p8 λk hk=>by obtain⟨i,rfl⟩:=hi x hx k hk;rfl
   show DictEntry.mk (reduceHash (Builtin.Tuple.tupleHashOf (x.1.map (jh P w).hash))) _ _=DictEntry.mk (reduceHash (Builtin.Tuple.tupleHashOf (x.1.map (jh P' w').hash))) _ _;rw[this]
 . obtain⟨o',wy,n,g1,g2,g3,g4⟩:=h5 x hx
   refine⟨o',wy,n,g1,g2,g3,?_⟩;exact Zj g4
def Zk{P:Program}(ha:(a==sysModules)=false)(hb:(b==sysModules)=false)(hab:a≠b)(da:s.heap.DictOfH (tupleKind (jh P w)) a ka)(db:s.heap.DictOfH (tupleKind (jh P w)) b kb)(ia:∀x∈ka,∀k∈x.1,∃i,k=Sum.inl i)(ib:∀x∈kb,∀k∈x.1,∃i,k=Sum.inl i)(hu:A.units+1<cLine)(hits:ka.length=kb.length->Iz A.in1 s kb ka r):SeqAt.EqAt A s (.ref a) (.ref b) (ka.length==kb.length&&r):=by
 intro prog' w' E Q hq;unfold eqBool
 try with_reducible refine ir ?_
 show wpAny _ _ (if(Value.ref a==Value.ref b)=true then _ else _) Q E s;rw[bx (by intro h;have:=eq_of_beq h;injection this with this;exact hab this)];exact aa (eqH ha hb (aec da ia) (aec db ib) hu hits (j4 hq))
end Xx
namespace Sm
open PySem L2
open MW (Ex Cz OEx Pg Br o6 Lv Tg Res di MO Jp Cp Op2 Blt Bm Kx Src)
noncomputable def Gx(f:Dv->Dv->Option Bool)(as bs:List Dv)(j:Nat):Bool:=match as[j]?,bs[j]? with
 |some a,some b=>(f a b).getD false|_,_=>false
set_option tactic.hygienic true in
theorem Hy{f:Dv->Dv->Option Bool}:∀{as bs:List Dv}{r:Bool},MW.Ph f as bs=some r->(∀(j:Nat) a b,as[j]?=some a->bs[j]?=some b->∃c,f a b=some c) /\
 r=((List.range (min as.length bs.length)).all (Gx f as bs)&&as.length==bs.length)
 |[],[],r,h=>by cases h;exact⟨λj a b e=>by simp at e,by simp⟩
 |[],b::bs,r,h=>by cases h;exact⟨λj a b e=>by simp at e,by simp⟩
 |a::as,[],r,h=>by cases h;exact⟨λj a b _ e=>by simp at e,by simp⟩
 |a::as,b::bs,r,h=>by
  simp only[MW.Ph] at h;split at h
  . rename_i x y h1 h2
    cases h;obtain⟨g1,g2⟩:=Hy h2;refine⟨λj a' b' e1 e2=>?_,?_⟩
    . cases j with
      |zero=>simp at e1 e2;subst e1 e2;exact⟨x,h1⟩|succ j=>exact g1 j a' b' (by simpa using e1) (by simpa using e2)
    . rw[gr,gr,Nat.succ_min_succ,List.range_succ_eq_map,List.all_cons,List.all_map]
      have z:Gx f (a::as) (b::bs) 0=x:=by simp[Gx,h1]
      have z2:(Gx f (a::as) (b::bs) ∘ Nat.succ)=Gx f as bs:=by funext j;simp[Gx]
      rw[z,z2,g2];have z3:(as.length+1==bs.length+1)=(as.length==bs.length):=by
       by_cases q:as.length=bs.length
       . simp[q]
       . have:¬(as.length+1=bs.length+1):=by lia
         simp[q,this]
      rw[z3,Bool.and_assoc]
  . cases h
set_option tactic.hygienic true in
theorem Oa{ι:Io}{H:Hp}{K:Fg}{f:Dv->Dv->Option Bool}(hf:∀x y v r,Rep K ι H x v->Rep K ι H y v->f x y=some r->r=true):∀{as bs:List Dv}{vs:List V}{r:Bool},lz K ι H as vs->lz K ι H bs vs->MW.Ph f as bs=some r->r=true
 |_,_,_,_,.nil,.nil,h=>by cases h;rfl
 |_,_,_,_,.cons h1 t1,.cons h2 t2,h=>by
  simp only[MW.Ph] at h;split at h
  . rename_i x y e1 e2
    cases h;rw[hf _ _ _ _ h1 h2 e1,Oa hf t1 t2 e2];rfl
  . cases h
inductive EqI(M:di)(f:Dv->Dv->Option Bool):Dv->Dv->Bool->Prop
 |non:EqI M f .non .non true
 |bl (a b:Bool):EqI M f (.bl a) (.bl b) (a==b)
 |int (a b:Int):EqI M f (.int a) (.int b) (decide (a=b))
 |str (a b:Str):EqI M f (.str a) (.str b) (decide (a=b))
 |tup {as bs:List Dv} {r:Bool} (h:MW.Ph f as bs=some r):EqI M f (.tup as) (.tup bs) r
 |lst {x y:Dv} {as bs:List Dv} {r:Bool} (h1:MW.gf M x=some as) (h2:MW.gf M y=some bs) (h:(if as.length=bs.length then MW.Ph f as bs else some false)=some r):EqI M f x y r
 |dic {i j:Nat} {r:Bool} (h:MW.acp f M (.ref i) (.ref j)=some r):EqI M f (.ref i) (.ref j) r
set_option tactic.hygienic true in
def abk(h:MW.Ih M (k+1) x y=some r):EqI M (MW.Ih M k) x y r:=by
 unfold MW.Ih at h;split at h
 . cases h;exact .int _ _
 . cases h;exact .bl _ _
 . cases h;exact .str _ _
 . cases h;exact .non
 . exact .tup h
 . split at h
   . rename_i h1 h2;exact .lst h1 h2 h
   . have hd:=h
     unfold MW.acp at hd;split at hd
     . exact .dic h
     . cases hd
   . cases h
def aed{X:Cx}(S:m5 nm X.K ι H M)(rx:Rep X.K ι H x v)(ry:Rep X.K ι H y v)(h1:MW.gf M x=some ds)(h2:MW.gf M y=some es):∃vs,lz X.K ι H ds vs/\lz X.K ι H es vs:=by obtain⟨p,vs,rfl,g1,g2⟩:=qw S rx h1;obtain⟨p',ws,hw,g3,g4⟩:=qw S ry h2;cases hw;rw[g1] at g3;cases g3;exact⟨vs,g2,g4⟩
def apj{i j:Nat}(S:m5 nm K ι H M)(e1:ι.l[i]?=some p)(e2:ι.l[j]?=some p):i=j:=by obtain⟨l1,q1⟩:=ak.mp e1;obtain⟨l2,q2⟩:=ak.mp e2;exact(vd S.nd).mp (q1.trans q2.symm)
theorem abl{nm:Nm}{ι:Io}{H:Hp}{M:di}{X:Cx}(S:m5 nm X.K ι H M):∀(k:Nat)(x y:Dv)(v:V)(r:Bool),Rep X.K ι H x v->Rep X.K ι H y v->MW.Ih M k x y=some r->r=true
 |0,_,_,_,_,_,_,h=>by cases h
 |k+1,x,y,v,r,rx,ry,h=>by
  have ih:=abl S k;cases abk h with
  |non=>rfl|bl a b=>cases rx;cases ry;simp|int a b=>cases rx;cases ry;simp|str a b=>cases rx;cases ry;simp
  |tup h=>cases rx with
   |tup e1 r1=>cases ry with
    |tup e2 r2=>rw[e1] at e2;cases e2;exact Oa ih r1 r2 h
  |lst h1 h2 h3 =>
   obtain⟨vs,r1,r2⟩:=aed S rx ry h1 h2;rw[cz (r1.length.trans r2.length.symm)] at h3;exact Oa ih r1 r2 h3
  |dic h =>
   obtain⟨_,_,_,_,_,_,hc⟩:=Tz h;rcases hc with⟨_,er⟩|⟨en,_⟩
   . exact er
   . cases rx with
     |ref e1=>cases ry with
      |ref e2=>exact absurd (apj S e1 e2) en
def Vals.aee{j:Nat}(r:Vals xs us)(h1:xs[j]?=some v)(h2:us[j]?=some u):RelV v u:=by obtain⟨u',e1,e2⟩:=L2.Vals.get r h1;rw[h2] at e1;cases e1;exact e2
theorem Fo{ι:Io}{H:Hp}{K:Fg}:∀{l:List (List Kx×Dv)}{l':List (List Key×V)},qp K ι H (λk k'=>k=k') l l'->l'.map (·.1)=l.map (·.1)
 |_,_,.nil=>rfl|_,_,.cons k h t=>by simp[Fo t,k]
def Ru(r:KT H l xs):xs.map (·.1)=l.map (·.1)/\∀x∈xs,H x.2.1=some (.tup (x.1.map kV)):=by
 induction r with
 |nil=>exact⟨rfl,by simp⟩
 |@cons p q ps qs hq t ih =>
  refine⟨by simp[ih.1,hq.1],λx hx=>?_⟩;rcases cu.mp hx with rfl|hx
  . rw[<- hq.1];exact hq.2.1
  . exact ih.2 x hx
def Rv(h:MW.Yq l=true)(g:qp K ι H (λk k'=>k=k') l l')(r:KT H l' xs):∀x∈xs,∀k∈x.1,∃i,k=Sum.inl i:=λx hx k hk=>by
 have e:=(Ru r).1.trans (Fo g);have:x.1∈l.map (·.1):=by rw[<- e];exact bf.mpr ⟨x,hx,rfl⟩
 obtain⟨y,hy,ey⟩:=bf.mp this;simp only[MW.Yq,jc] at h;have:=h y hy k (by rw[ey];exact hk);cases k with
 |inl i=>exact⟨i,rfl⟩|inr s=>cases this
set_option tactic.hygienic true in
theorem W5{nm:Nm}{X:Cx}{ι:Io}{H:Hp}{σ:St}{M:di}{pins:Zp}{s:Shared}(I:Inv X pins σ H s)(S:m5 nm X.K ι H M):∀(k:Nat)(A:Around)(x y:Dv)(v u:V)(v' u':Value)(r:Bool),zr k A->Rep X.K ι H x v->Rep X.K ι H y u->RelV v v'->RelV u u'->MW.Ih M k x y=some r->SeqAt.EqAt A s v' u' r
 |0,_,_,_,_,_,_,_,_,_,_,_,_,_,h=>by cases h
 |k+1,A,x,y,v,u,v',u',r,hr,rx,ry,rv,ru,h=>by
  have ih:=W5 I S k A.in1;have hr1:=hr.in1;have elems:∀(ds es:List Dv)(vs ws:List V)(is js:Zl)(rr:Bool),lz X.K ι H ds vs->lz X.K ι H es ws->Vals vs is->Vals ws js->MW.Ph (MW.Ih M k) ds es=some rr ->
   ∀j (h1:j<is.toArray.size) (h2:j<js.toArray.size),SeqAt.EqAt A.in1 s is.toArray[j] js.toArray[j] (Gx (MW.Ih M k) ds es j):=λds es vs ws is js rr rd re T3 rws he j h1 h2=>by
   have l1:j<ds.length:=by rw[rd.length,T3.length];simpa using h1
   have l2:j<es.length:=by rw[re.length,rws.length];simpa using h2
   have g1:ds[j]?=some ds[j]:=by simp[l1]
   have g2:es[j]?=some es[j]:=by simp[l2]
   obtain⟨c,hc⟩:=(Hy he).1 j _ _ g1 g2;obtain⟨va,a1,a2⟩:=rd.get g1;obtain⟨wa,b1,b2⟩:=re.get g2;have q1:is[j]?=some is.toArray[j]:=by simp
   have q2:js[j]?=some js.toArray[j]:=by simp
   have:=ih _ _ va wa _ _ c hr1 a2 b2 (Vals.aee T3 a1 q1) (Vals.aee rws b1 q2) hc;have z:Gx (MW.Ih M k) ds es j=c:=by simp[Gx,g1,g2,hc]
   rw[z];exact this
  have lists:∀(p p2:Addr)(ds es:List Dv),v=.ref p->u=.ref p2->MW.gf M x=some ds->MW.gf M y=some es->(if ds.length=es.length then MW.Ph (MW.Ih M k) ds es else some false)=some r->SeqAt.EqAt A s v' u' r:=λp p2 ds es hv hu h1 h2 h3=>by
   subst hv hu;cases rv;cases ru;obtain⟨_,vs,hv,g1,g2⟩:=qw S rx h1;cases hv;obtain⟨_,ws,hw,g3,g4⟩:=qw S ry h2;cases hw
   by_cases hpp:p=p2
   . subst hpp
     have:r=true:=by rw[g1] at g3;cases g3;rw[cz (g2.length.trans g4.length.symm)] at h3;exact Oa (λx y v r a b c=>abl S k x y v r a b c) g2 g4 h3
     rw[this];exact SeqAt.EqAt.same _
   . refine SeqAt.EqAt.of_refs hpp ?_
     obtain⟨is,r1,pl1,_⟩:=I.list (Gd.of g1);obtain⟨js,r2,pl2,_⟩:=I.list (Gd.of g3)
     by_cases hl:ds.length=es.length
     . rw[cz hl] at h3
       have hsz:is.toArray.size=js.toArray.size:=by simp[<- r1.length,<- r2.length,<- g2.length,<- g4.length,hl]
       have:=SeqAt.RcAt.lists (e:=Gx (MW.Ih M k) ds es) pl1.isList pl2.isList hsz hr.Tq (elems ds es vs ws is js r g2 g4 r1 r2 h3);rw[(Hy h3).2];have e1:is.toArray.size=min ds.length es.length:=by simp[<- r1.length,<- g2.length,hl]
       rw[e1] at this;simpa[hl] using this
     . rw[bx hl] at h3
       cases h3;exact SeqAt.RcAt.lists_lengths pl1.isList pl2.isList (by simp[<- r1.length,<- r2.length,<- g2.length,<- g4.length,hl]) hr.Tq
  cases abk h with
  |non=>cases rx;cases ry;cases rv;cases ru;exact SeqAt.EqAt.same _|bl a b=>cases rx;cases ry;cases rv;cases ru;exact SeqAt.EqAt.bool_bool _ _
  |int a b =>
   cases rx;cases ry;obtain⟨t,rfl⟩:=rv;obtain⟨t2,rfl⟩:=ru;rw[<- Bool.beq_eq_decide_eq];exact SeqAt.EqAt.int_int _ _ _ _
  |str a b =>
   cases rx;cases ry;obtain⟨t,rfl⟩:=rv;obtain⟨t2,rfl⟩:=ru;rw[<- Bool.beq_eq_decide_eq];exact SeqAt.EqAt.str_str _ _ _ _
  |@tup ds es _ h=>cases rx with
   |@tup p _ vs e1 r1=>cases ry with
    |@tup p2 _ ws e2 r2 =>
     cases rv;cases ru
     by_cases hpp:p=p2
     . subst hpp
       have:r=true:=by rw[e1] at e2;cases e2;exact Oa (λx y v r a b c=>abl S k x y v r a b c) r1 r2 h
       rw[this];exact SeqAt.EqAt.same _
     . refine SeqAt.EqAt.of_refs hpp ?_
       obtain⟨is,g1,pl1,_⟩:=I.tuple (Jl.of e1);obtain⟨js,g2,pl2,_⟩:=I.tuple (Jl.of e2);have:=SeqAt.RcAt.tuples (e:=Gx (MW.Ih M k) ds es) (show s.heap.IsTuple p is.toArray from pl1) (show s.heap.IsTuple p2 js.toArray from pl2) hr.Tq (elems ds es vs ws is js r r1 r2 g1 g2 h);rw[(Hy h).2];have z1:is.toArray.size=ds.length:=by simp[<- g1.length,<- r1.length]
       have z2:js.toArray.size=es.length:=by simp[<- g2.length,<- r2.length]
       rw[z1,z2] at this;exact this
  |lst h1 h2 h3 =>
   obtain⟨p,_,e1,_⟩:=qw S rx h1;obtain⟨p2,_,e2,_⟩:=qw S ry h2;exact lists p p2 _ _ e1 e2 h1 h2 h3
  |@dic n n' _ h=>cases rx with
   |@ref _ p e1=>cases ry with
    |@ref _ p2 e2 =>
     obtain⟨ka,kb,m1,m2,i1,i2,hc⟩:=Tz h;cases rv;cases ru;rcases hc with⟨en,er⟩|⟨en,h3⟩
     . subst en;subst er
       rw[e1] at e2;cases e2;exact SeqAt.EqAt.same _
     . have hpp:p≠p2:=λz=>by
        subst z;obtain⟨l1,q1⟩:=ak.mp e1;obtain⟨l2,q2⟩:=ak.mp e2;exact en ((vd S.nd).mp (q1.trans q2.symm))
       obtain⟨la,g1,g2⟩:=S.obj n _ p m1 e1;obtain⟨lb,g3,g4⟩:=S.obj n' _ p2 m2 e2;obtain⟨_,z1,xa,ra,da⟩:=adp I.Ad g1;obtain⟨_,z2,xb,rb,db⟩:=adp I.Ad g3;have hla:xa.length=ka.length:=by have:=o7 List.length ((Ru ra).1.trans (Fo g2));simpa using this
       have hlb:xb.length=kb.length:=by have:=o7 List.length ((Ru rb).1.trans (Fo g4));simpa using this
       have hu:A.units+1<cLine:=by have:=hr1.Tq;exact this
       have hits:∀(ka:List (List Kx×Dv))(la:List (List Key×V))(xa:List (List Key×Addr×Value))(r:Bool),qp X.K ι H (λk k'=>k=k') ka la->KT H la xa->MW.eqK (MW.Ih M k) kb ka=some r->Xx.Iz A.in1 s xb xa r:=by
        intro ka
        induction ka with
        |nil =>
         intro la xa r hp hk he;cases hp;cases hk;cases he;exact .nil
        |cons kv ka ihk =>
         intro la xa r hp hk he;cases hp with
         |@cons q q' d v _ la' hq rd hp' =>
          subst hq;cases hk with
          |@cons _ w _ xa' hw hk' =>
           obtain⟨w1,w2,w3⟩:=w;obtain⟨hw1,_,hw3⟩:=hw;have hw1:q=w1:=hw1;subst hw1;simp only[MW.eqK] at he;split at he
           . rename_i hn
             cases he;refine .miss ?_;have:=(g4.look (k:=q)).2 hn;have hv:=(rb.val q).G8;rw[this] at hv;cases hat:atKey xb q with
             |none=>rfl|some z=>rw[hat] at hv;cases hv
           . rename_i y hy
             split at he
             . rename_i eb bb he1 he2
               cases he;obtain⟨vy,hv1,hv2⟩:=(g4.look (k:=q)).1 y hy;have hv:=rb.val q;rw[hv1] at hv;cases hat:atKey xb q with
               |none=>rw[hat] at hv;exact hv.elim
               |some z =>
                rw[hat] at hv;obtain⟨z1',z2'⟩:=z;have hv:RelV vy z2':=hv;exact .hit hat (ih d y v vy w3 z2' eb hr1 rd hv2 hw3 hv he1) (ihk la' xa' bb hp' hk' he2)
             . cases he
       by_cases hlen:ka.length=kb.length
       . rw[cz hlen] at h3
         have:=Xx.Zk z1 z2 hpp da db (Rv i1 g2 ra) (Rv i2 g4 rb) hu (λ_=>hits ka la xa r g2 ra h3);simpa[hla,hlb,hlen] using this
       . rw[bx hlen] at h3
         cases h3;have:=Xx.Zk (A:=A) (s:=s) (r:=false) z1 z2 hpp da db (Rv i1 g2 ra) (Rv i2 g4 rb) hu (λe=>absurd (by rw[<- hla,<- hlb];exact e) hlen);simpa using this
inductive abm(A:Around)(s:Shared):Value->Value->Bool->Prop
 |Wl {p p2:Addr} {is js:U1} (e:Nat->Bool) (h1:s.heap.IsTuple p is) (h2:s.heap.IsTuple p2 js) (he:∀j (h1:j<is.size) (h2:j<js.size),SeqAt.EqAt A.in1 s is[j] js[j] (e j)):abm A s (.ref p) (.ref p2) ((List.range (min is.size js.size)).all e&&is.size==js.size)
 |a8r {p p2:Addr} {is js:U1} (e:Nat->Bool) (h1:s.heap.IsList p is) (h2:s.heap.IsList p2 js) (hz:is.size=js.size) (he:∀j (h1:j<is.size) (h2:j<js.size),SeqAt.EqAt A.in1 s is[j] js[j] (e j)):abm A s (.ref p) (.ref p2) ((List.range is.size).all e)
 |lens {p p2:Addr} {is js:U1} (h1:s.heap.IsList p is) (h2:s.heap.IsList p2 js) (hz:(is.size != js.size)=true):abm A s (.ref p) (.ref p2) false
def Zm{A:Around}(I:Inv X pins σ H s)(S:m5 nm X.K ι H M)(hr:zr k A.in1)(rd:lz X.K ι H ds vs)(re:lz X.K ι H es ws)(T3:Vals vs is)(rws:Vals ws js)(he:MW.Ph (MW.Ih M k) ds es=some rr) :
 ∀j (h1:j<is.toArray.size) (h2:j<js.toArray.size),SeqAt.EqAt A.in1 s is.toArray[j] js.toArray[j] (Gx (MW.Ih M k) ds es j):=λj h1 h2=>by
 have l1:j<ds.length:=by rw[rd.length,T3.length];simpa using h1
 have l2:j<es.length:=by rw[re.length,rws.length];simpa using h2
 have g1:ds[j]?=some ds[j]:=by simp[l1]
 have g2:es[j]?=some es[j]:=by simp[l2]
 obtain⟨c,hc⟩:=(Hy he).1 j _ _ g1 g2;obtain⟨va,a1,a2⟩:=rd.get g1;obtain⟨wa,b1,b2⟩:=re.get g2;have q1:is[j]?=some is.toArray[j]:=by simp
 have q2:js[j]?=some js.toArray[j]:=by simp
 have:=W5 I S k A.in1 _ _ va wa _ _ c hr a2 b2 (Vals.aee T3 a1 q1) (Vals.aee rws b1 q2) hc;have z:Gx (MW.Ih M k) ds es j=c:=by simp[Gx,g1,g2,hc]
 rw[z];exact this
def ago(I:Inv X pins σ H s)(S:m5 nm X.K ι H M)(hr:zr k A.in1)(rx:Rep X.K ι H x v)(ry:Rep X.K ι H y u)(rv:RelV v v')(ru:RelV u u')(h1:MW.gf M x=some ds)(h2:MW.gf M y=some es)(h3:(if ds.length=es.length then MW.Ph (MW.Ih M k) ds es else some false)=some r):abm A s v' u' r:=by
 obtain⟨p,vs,rfl,g1,g2⟩:=qw S rx h1;obtain⟨p2,ws,rfl,g3,g4⟩:=qw S ry h2;cases rv;cases ru;obtain⟨is,r1,pl1,_⟩:=I.list (Gd.of g1);obtain⟨js,r2,pl2,_⟩:=I.list (Gd.of g3)
 by_cases hl:ds.length=es.length
 . rw[cz hl] at h3
   have hsz:is.toArray.size=js.toArray.size:=by simp[<- r1.length,<- r2.length,<- g2.length,<- g4.length,hl]
   have z:=abm.a8r (A:=A) (Gx (MW.Ih M k) ds es) pl1.isList pl2.isList hsz (Zm I S hr g2 g4 r1 r2 h3);rw[(Hy h3).2];have e1:is.toArray.size=min ds.length es.length:=by simp[<- r1.length,<- g2.length,hl]
   rw[e1] at z;simpa[hl] using z
 . rw[bx hl] at h3
   cases h3;exact .lens pl1.isList pl2.isList (by simp[<- r1.length,<- r2.length,<- g2.length,<- g4.length,hl])
set_option tactic.hygienic true in
def aef(I:Inv X pins σ H s)(S:m5 nm X.K ι H M)(hr:zr k A.in1)(rx:Rep X.K ι H x v)(ry:Rep X.K ι H y u)(rv:RelV v v')(ru:RelV u u')(h:MW.Ih M (k+1) x y=some r)(hnd:MW.Yr M x=false) :
 abm A s v' u' r\/(az9 v u=true/\r=decide (v=u)):=by
 cases abk h with
 |non=>cases rx;cases ry;exact .inr ⟨rfl,by simp⟩|bl a b=>cases rx;cases ry;exact .inr ⟨rfl,by by_cases z:a=b<;>simp[z]⟩|int a b=>cases rx;cases ry;exact .inr ⟨rfl,by by_cases z:a=b<;>simp[z]⟩|str a b=>cases rx;cases ry;exact .inr ⟨rfl,by by_cases z:a=b<;>simp[z]⟩
 |@tup ds es _ h=>cases rx with
  |@tup p _ vs e1 r1=>cases ry with
   |@tup p2 _ ws e2 r2 =>
    cases rv;cases ru;obtain⟨is,g1,pl1,_⟩:=I.tuple (Jl.of e1);obtain⟨js,g2,pl2,_⟩:=I.tuple (Jl.of e2);have z:=abm.Wl (A:=A) (Gx (MW.Ih M k) ds es) (show s.heap.IsTuple p is.toArray from pl1) (show s.heap.IsTuple p2 js.toArray from pl2) (Zm I S hr r1 r2 g1 g2 h);rw[(Hy h).2];have z1:is.toArray.size=ds.length:=by simp[<- g1.length,<- r1.length]
    have z2:js.toArray.size=es.length:=by simp[<- g2.length,<- r2.length]
    rw[z1,z2] at z;exact .inl z
 |lst h1 h2 h3=>exact .inl (ago I S hr rx ry rv ru h1 h2 h3)
 |dic h =>
  obtain⟨ka,kb,m1,_⟩:=Tz h;simp[MW.Yr,m1] at hnd
def abm.rc(h:abm A s v u r)(hu:A.units<cLine):SeqAt.RcAt A s v u r/\SeqAt.RcNeAt A s v u (!r):=by
 cases h with
 |Wl e h1 h2 he=>exact⟨SeqAt.RcAt.tuples h1 h2 hu he,SeqAt.RcNeAt.tuples h1 h2 hu he⟩|a8r e h1 h2 hz he=>exact⟨SeqAt.RcAt.lists h1 h2 hz hu he,SeqAt.RcNeAt.lists h1 h2 hz hu he⟩|lens h1 h2 hz=>exact⟨SeqAt.RcAt.lists_lengths h1 h2 hz hu,SeqAt.RcNeAt.lists_lengths h1 h2 hz hu⟩
def be1(hr:zr 6 X.A):Cr X (compareOp .Eq) (Ww nm X.K .eq):=λpins s σ H v u v' u' Q I rv ru hh=>by
 obtain⟨ι,M,x,y,b,S,rx,ry,e,q⟩:=hh;obtain⟨hnd,e⟩:=Qt (show MW.yd M x y=some b from e);rcases aef (A:=X.A) I S hr.in1 rx ry rv ru e hnd with h|⟨h1,h2⟩
 . exact(h.rc hr.Tq).1 X.prog X.w X.xe _ ⟨.bl b,H,I,rfl,q⟩
 . subst h2
   exact a6r pins s σ H v u v' u' Q I rv ru ⟨h1,q⟩
def be2(hr:zr 6 X.A):Cr X (compareOp .NotEq) (Ww nm X.K .ne):=λpins s σ H v u v' u' Q I rv ru hh=>by
 obtain⟨ι,M,x,y,b,S,rx,ry,e,q⟩:=hh;obtain⟨b',e1,e2⟩:=cj.mp (show(MW.yd M x y).map not=some b from e);subst e2;obtain⟨hnd,e1⟩:=Qt e1;rcases aef (A:=X.A) I S hr.in1 rx ry rv ru e1 hnd with h|⟨h1,h2⟩
 . exact(h.rc hr.Tq).2 X.prog X.w X.xe _ ⟨.bl !b',H,I,rfl,q⟩
 . subst h2
   exact a6s pins s σ H v u v' u' Q I rv ru ⟨h1,q⟩
section
variable{nm:Nm}{W:Jp}{X:Cx}{a b c o:Expr}{a' b' c' o':Ex}{pos pos' apos:Pos}{ι:Io}{H:Hp}{σ:St}{ρ:En}{M M1 M2:di}{x y:Dv}{es:Ya}{es':Cz}
set_option tactic.hygienic true in
theorem Dk:∀{ds:List Dv}{bs:List Bool},MW.O7 M x ds=some bs->bs.length=ds.length/\∀(j:Nat) d,ds[j]?=some d->∃b,bs[j]?=some b/\MW.yd M d x=some b
 |[],bs,h=>by cases h;exact⟨rfl,λj d e=>by simp at e⟩
 |y::ys,bs,h=>by
  simp only[MW.O7] at h;split at h
  . rename_i a b h1 h2
    cases h;obtain⟨g1,g2⟩:=Dk h2;refine⟨by simp[g1],λj d e=>?_⟩;cases j with
    |zero=>simp at e;subst e;exact⟨a,rfl,h1⟩|succ j=>simpa using g2 j d (by simpa using e)
  . cases h
def G7(I:Inv X pins σ H s)(e:agj X.K H p vs):(∃o,H p=some (.Qs o (.lst vs)))\/(H p=none/\∃(o:Obj)(wy:U1)(n:Nat),X.K.lookup p=some o/\o.data=.seq wy n/\Vals vs wy.toList):=by
 rcases e with h|⟨o,wy,n,h1,_,_,h2,_,h3⟩
 . exact .inl h
 . exact .inr ⟨(I.bs p o (I.mod.kin p o h1)).2,o,wy,n,h1,h2,h3⟩
def a1a(I:Inv X pins σ H s)(e:agj X.K H p vs)(e2:agj X.K H p ws):vs=ws:=by
 rcases G7 I e with⟨o,h⟩|⟨h,o,wy,n,h1,h2,h3⟩
 . rcases G7 I e2 with⟨o',h'⟩|⟨h',_⟩
   . rw[h] at h';cases h';rfl
   . rw[h] at h';cases h'
 . rcases G7 I e2 with⟨o',h'⟩|⟨_,o',its',n',h1',h2',h3'⟩
   . rw[h] at h';cases h'
   . rw[h1] at h1';cases h1'
     rw[h2] at h2';cases h2';exact Vals.inj h3 h3'
mutual
theorem aic{pins:Zp}{s:Shared}(I:Inv X pins σ H s)(S:m5 nm X.K ι H M):∀{d d':Dv}{v:V},Rep X.K ι H d v->Rep X.K ι H d' v->d=d'
 |_,_,_,.non,r=>by cases r;rfl|_,_,_,.bl b,r=>by cases r;rfl|_,_,_,.int i,r=>by cases r;rfl|_,_,_,.str z,r=>by cases r;rfl
 |_,_,_,.tup e1 r1,r=>by
  cases r with
  |tup e2 r2 =>
   rw[e1] at e2;cases e2;rw[Rx I S r1 r2]
  |vl e2 n2 r2=>rw[e1] at e2;cases e2
  |fz e2 r2 =>
   rcases G7 I e2 with⟨o,h⟩|⟨h,_⟩
   . rw[e1] at h;cases h
   . rw[e1] at h;cases h
  |ref e2 =>
   obtain⟨u,q,mu⟩:=S.mem (aq e2);rw[e1] at mu;exact mu.elim
 |_,_,_,.vl e1 n1 r1,r=>by
  cases r with
  |tup e2 r2=>rw[e1] at e2;cases e2
  |vl e2 n2 r2 =>
   rw[e1] at e2;cases e2;rw[Rx I S r1 r2]
  |fz e2 r2 =>
   rcases G7 I e2 with⟨o,h⟩|⟨h,_⟩
   . rw[e1] at h;cases h
   . rw[e1] at h;cases h
  |ref e2=>exact absurd (aq e2) n1.1
 |_,_,_,.fz e1 r1,r=>by
  cases r with
  |tup e2 r2 =>
   rcases G7 I e1 with⟨o,h⟩|⟨h,_⟩
   . rw[e2] at h;cases h
   . rw[e2] at h;cases h
  |vl e2 n2 r2 =>
   rcases G7 I e1 with⟨o,h⟩|⟨h,_⟩
   . rw[e2] at h;cases h
   . rw[e2] at h;cases h
  |fz e2 r2 =>
   have:=a1a I e1 e2;subst this;rw[Rx I S r1 r2]
  |ref e2 =>
   obtain⟨u,q,mu⟩:=S.mem (aq e2);rcases G7 I e1 with⟨o,h⟩|⟨h,_⟩
   . rw[h] at mu;exact mu.elim
   . rw[h] at q;cases q
 |_,_,_,.ref e1,r=>by
  cases r with
  |tup e2 r2 =>
   obtain⟨u,q,mu⟩:=S.mem (aq e1);rw[e2] at mu;exact mu.elim
  |vl e2 n2 r2=>exact absurd (aq e1) n2.1
  |fz e2 r2 =>
   obtain⟨u,q,mu⟩:=S.mem (aq e1);rcases G7 I e2 with⟨o,h⟩|⟨h,_⟩
   . rw[h] at mu;exact mu.elim
   . rw[h] at q;cases q
  |ref e2 =>
   obtain⟨l1,q1⟩:=ak.mp e1;obtain⟨l2,q2⟩:=ak.mp e2;rw[(vd S.nd).mp (q1.trans q2.symm)]
theorem Rx{pins:Zp}{s:Shared}(I:Inv X pins σ H s)(S:m5 nm X.K ι H M):∀{ds ds':List Dv}{vs:List V},lz X.K ι H ds vs->lz X.K ι H ds' vs->ds=ds'
 |_,_,_,.nil,r=>by cases r;rfl
 |_,_,_,.cons h t,r=>by
  cases r with
  |cons h2 t2=>rw[aic I S h h2,Rx I S t t2]
end
def Ow(I:Inv X pins σ H s)(S:m5 nm X.K ι H M)(hr:zr 6 A)(rd:lz X.K ι H ds vs)(rv:Vals vs is)(rx:Rep X.K ι H x u)(ru:RelV u u')(h:MW.O7 M x ds=some bs):∃e:Value->Bool,(∀w,w∈is.toArray->SeqAt.EqAt A s w u' (e w))/\∀(j:Nat)(w:Value),is[j]?=some w->bs[j]?=some (e w):=by
 obtain⟨g1,g2⟩:=Dk h;have at':∀(j:Nat)(w:Value),is[j]?=some w->∃b,bs[j]?=some b/\SeqAt.EqAt A s w u' b:=λj w hw=>by
  have lj:j<ds.length:=by rw[rd.length,rv.length];exact(ak.mp hw).1
  have gd:ds[j]?=some ds[j]:=by simp[lj]
  obtain⟨b,e1,e2⟩:=g2 j _ gd;obtain⟨v,a1,a2⟩:=rd.get gd;exact⟨b,e1,W5 I S 6 A _ _ v u w u' b hr a2 rx (Vals.aee rv a1 hw) ru (Qt e2).2⟩
 classical
 refine⟨λw=>if hw:∃j:Nat,is[j]?=some w then(bs[hw.choose]?).getD false else false,λw hw=>?_,λj w hw=>?_⟩
 . obtain⟨j,hj,e⟩:=m8 (by simpa using hw:w∈is)
   have hex:∃j:Nat,is[j]?=some w:=⟨j,by simp[hj,e]⟩;obtain⟨b,e1,e2⟩:=at' hex.choose w hex.choose_spec;simp only[dif_pos hex,e1,xf];exact e2
 . have hex:∃j:Nat,is[j]?=some w:=⟨j,hw⟩
   obtain⟨b,e1,e2⟩:=at' j w hw;obtain⟨b',e3,e4⟩:=at' hex.choose w hex.choose_spec;simp only[dif_pos hex,e3,xf];rw[e1]
   congr 1
   have lj:j<ds.length:=by rw[rd.length,rv.length];exact(ak.mp hw).1
   have lk:hex.choose<ds.length:=by rw[rd.length,rv.length];exact(ak.mp hex.choose_spec).1
   have gd:ds[j]?=some ds[j]:=by simp[lj]
   have gk:ds[hex.choose]?=some ds[hex.choose]:=by simp[lk]
   obtain⟨c1,q1,q2⟩:=g2 j _ gd;obtain⟨c2,q3,q4⟩:=g2 hex.choose _ gk;obtain⟨v1,p1,p2⟩:=rd.get gd;obtain⟨v2,p3,p4⟩:=rd.get gk;have hv:v1=v2:=RelV.inj (Vals.aee rv p1 hw) (Vals.aee rv p3 hex.choose_spec);subst hv;rw[e1] at q1;rw[e3] at q3;cases q1;cases q3;have hd:=aic I S p2 p4;rw[hd,q4] at q2;exact(jd q2).symm
def Vs{is:Zl}{bs:List Bool}(hl:bs.length=is.length)(h:∀(j:Nat) (w:Value),is[j]?=some w->bs[j]?=some (e w)):bs=is.map e:=by
 apply zu;intro j;rw[jb];cases q:is[j]? with
 |none=>rw[p7 (by rw[hl];exact List.getElem?_eq_none_iff.mp q)];rfl|some w=>rw[h j w q];rfl
set_option tactic.hygienic true in
def be3(hr:zr 8 X.A):Cr X (compareOp .In) (Ww nm X.K .inn):=λpins s σ H v u v' u' Q I rv ru hh=>by
 obtain⟨ι,M,x,y,b,S,rx,ry,e,q⟩:=hh;have e:MW.Q4 M x y=some b:=e;have hu:X.A.units+1<cLine:=adx hr
 have seq:∀ds,MW.yr M y=some ds->MW.memD M x ds=some b->wpAny (model X.prog X.w) X.A (compareOp .In v' u') (EP X pins σ Q) X.xe s:=λds h1 h2=>by
  obtain⟨bs,e1,e2⟩:=cj.mp (show(MW.O7 M x ds).map (·.any id)=some b from h2);obtain⟨p,vs,rfl,hp,r⟩:=Fj S ry h1;cases ru;rcases hp with hp|hp
  . obtain⟨is,r1,pl,_⟩:=I.list (Gd.of hp)
    obtain⟨f,g1,g2⟩:=Ow (A:=X.A.in1) I S ((hr.mono (by decide:7<=8)).in1) r r1 rx rv e1;refine SeqAt.in_listAt f pl.isList g1 ?_;have:=Vs (by rw[(Dk e1).1,r.length,r1.length]) g2;rw[this] at e2;rw[show is.toArray.any f=b by rw[<- e2];simp[List.any_map]];exact⟨.bl b,H,I,rfl,q⟩
  . obtain⟨is,r1,pl,_⟩:=I.tuple (Jl.of hp)
    obtain⟨f,g1,g2⟩:=Ow (A:=X.A.in1) I S ((hr.mono (by decide:7<=8)).in1) r r1 rx rv e1;refine SeqAt.in_tupleAt f (show s.heap.IsTuple p is.toArray from pl) g1 ?_;have:=Vs (by rw[(Dk e1).1,r.length,r1.length]) g2;rw[this] at e2;rw[show is.toArray.any f=b by rw[<- e2];simp[List.any_map]];exact⟨.bl b,H,I,rfl,q⟩
 cases ry with
 |@ref n p e1 =>
  simp only[MW.Q4] at e;split at e
  . rename_i gw hM
    obtain⟨k,e2,e3⟩:=cj.mp e;obtain⟨l,h1,h2⟩:=S.obj n _ p hM e1;obtain⟨bb,rfl,hb⟩:=Tv rx e2;cases ru;refine a7b hu I (Mf.t h1 hb) rv λs' I'=>⟨.bl b,H,I',?_,q⟩
    rw[<- e3];cases hk:MW.zg gw k with
    |none=>rw[(h2.look (k:=k)).2 hk];rfl|some d=>obtain⟨z,h3,_⟩:=(h2.look (k:=k)).1 d hk;rw[h3];rfl
  . rename_i gw hM
    obtain⟨k,e2,e3⟩:=cj.mp e;obtain⟨l,h1,h2⟩:=S.obj n _ p hM e1;have hy:=Tu rx e2;subst hy;cases ru;refine a7b hu I (Mf.k h1) rv λs' I'=>⟨.bl b,H,I',?_,q⟩
    rw[<- e3];cases hk:MW.zg gw k with
    |none=>rw[(h2.look (k:=k)).2 hk];rfl|some d=>obtain⟨z,h3,_⟩:=(h2.look (k:=k)).1 d hk;rw[h3];rfl
  . obtain⟨ds,h1,h2⟩:=dj.mp e
    exact seq ds h1 h2
 |_ =>
  simp only[MW.Q4] at e;obtain⟨ds,h1,h2⟩:=dj.mp e;exact seq ds h1 h2
set_option tactic.hygienic true in
def auy(hr:zr 8 X.A):Cr X (compareOp .NotIn) (Ww nm X.K .Ud):=λpins s σ H v u v' u' Q I rv ru hh=>by
 obtain⟨ι,M,x,y,b0,S,rx,ry,e,q⟩:=hh;obtain⟨b,e',eb⟩:=cj.mp (show(MW.Q4 M x y).map not=some b0 from e);subst eb;have hu:X.A.units+1<cLine:=adx hr
 have seq:∀ds,MW.yr M y=some ds->MW.memD M x ds=some b->wpAny (model X.prog X.w) X.A (compareOp .NotIn v' u') (EP X pins σ Q) X.xe s:=λds h1 h2=>by
  obtain⟨bs,e1,e2⟩:=cj.mp (show(MW.O7 M x ds).map (·.any id)=some b from h2);obtain⟨p,vs,rfl,hp,r⟩:=Fj S ry h1;cases ru;rcases hp with hp|hp
  . obtain⟨is,r1,pl,_⟩:=I.list (Gd.of hp)
    obtain⟨f,g1,g2⟩:=Ow (A:=X.A.in1) I S ((hr.mono (by decide:7<=8)).in1) r r1 rx rv e1;refine SeqAt.notIn_listAt f pl.isList g1 ?_;have:=Vs (by rw[(Dk e1).1,r.length,r1.length]) g2;rw[this] at e2;rw[show is.toArray.any f=b by rw[<- e2];simp[List.any_map]];exact⟨.bl !b,H,I,rfl,q⟩
  . obtain⟨is,r1,pl,_⟩:=I.tuple (Jl.of hp)
    obtain⟨f,g1,g2⟩:=Ow (A:=X.A.in1) I S ((hr.mono (by decide:7<=8)).in1) r r1 rx rv e1;refine SeqAt.notIn_tupleAt f (show s.heap.IsTuple p is.toArray from pl) g1 ?_;have:=Vs (by rw[(Dk e1).1,r.length,r1.length]) g2;rw[this] at e2;rw[show is.toArray.any f=b by rw[<- e2];simp[List.any_map]];exact⟨.bl !b,H,I,rfl,q⟩
 cases ry with
 |@ref n p e1 =>
  clear e;simp only[MW.Q4] at e';split at e'
  . rename_i gw hM
    obtain⟨k,e2,e3⟩:=cj.mp e';obtain⟨l,h1,h2⟩:=S.obj n _ p hM e1;obtain⟨bb,rfl,hb⟩:=Tv rx e2;cases ru;refine ahz hu I (Mf.t h1 hb) rv λs' I'=>⟨.bl !b,H,I',?_,q⟩
    rw[<- e3];cases hk:MW.zg gw k with
    |none=>rw[(h2.look (k:=k)).2 hk];rfl|some d=>obtain⟨z,h3,_⟩:=(h2.look (k:=k)).1 d hk;rw[h3];rfl
  . rename_i gw hM
    obtain⟨k,e2,e3⟩:=cj.mp e';obtain⟨l,h1,h2⟩:=S.obj n _ p hM e1;have hy:=Tu rx e2;subst hy;cases ru;refine ahz hu I (Mf.k h1) rv λs' I'=>⟨.bl !b,H,I',?_,q⟩
    rw[<- e3];cases hk:MW.zg gw k with
    |none=>rw[(h2.look (k:=k)).2 hk];rfl|some d=>obtain⟨z,h3,_⟩:=(h2.look (k:=k)).1 d hk;rw[h3];rfl
  . obtain⟨ds,h1,h2⟩:=dj.mp e'
    exact seq ds h1 h2
 |_ =>
  simp only[MW.Q4] at e';obtain⟨ds,h1,h2⟩:=dj.mp e';exact seq ds h1 h2
end
open Xx (Cw Sx)
def KH(H:Hp)(x:List Key×Addr):Prop:=H x.2=some (.tup (x.1.map kV))/\∀k∈x.1,∃i,k=.inl i
def aeg(P:Program)(w:World)(H:Hp):Xx.Sw (jh P w) (KH H):=λx hx k hk v n hv=>by
 obtain⟨i,rfl⟩:=hx.2 k hk;rcases An (show Wj (Sum.inl i) v=true from hv) with⟨j,t,e,rfl⟩|⟨y,t,e,_⟩
 . unfold hashByValue;rfl
 . cases e
def Tj:∀ks:List Kx,MW.Qk (MW.ami ks)=some ks:=λks=>by
 show MW.aae (ks.map MW.amh)=some ks
 induction ks with
 |nil=>rfl|cons k ks ih=>cases k<;>simp[MW.aae,MW.amh,MW.Tc,ih]
theorem W6:∀{l:List (List Kx×Dv)},MW.Dn (l.map λp=>MW.ami p.1)=some (l.map (·.1))
 |[]=>rfl|p::l=>by simp[MW.Dn,Tj,W6]
set_option tactic.hygienic true in
theorem aid{ι:Io}{H:Hp}{K:Fg}:∀{ds:List Dv}{vs:List V}{ks:List (List Kx)},lz K ι H ds vs->MW.Dn ds=some ks->∃bs:List Addr,vs=bs.map V.ref/\bs.length=ks.length/\∀x∈ks.zip bs,H x.2=some (.tup (x.1.map kV))
 |_,_,_,.nil,h=>by simp[MW.Dn] at h;subst h;exact⟨[],rfl,rfl,by simp⟩
 |_,_,_,.cons r t,h=>by
  simp only[MW.Dn] at h;split at h
  . rename_i k ks' h1 h2
    cases h;obtain⟨b,rfl,e⟩:=Tv r h1;obtain⟨bs,rfl,hl,hz⟩:=aid t h2;refine⟨b::bs,rfl,by simp[hl],λx hx=>?_⟩;simp only[List.zip_cons_cons,cu] at hx;rcases hx with rfl|hx
    . exact e
    . exact hz x hx
  . cases h
def aks(h:MW.Dp ks=true):ks.length<=30/\∀k∈ks,∀x∈k,∃i,x=Sum.inl i:=by
 simp only[MW.Dp,au,dq,jc] at h;refine⟨h.1,λk hk x hx=>?_⟩;have:=h.2 k hk x hx;cases x with
 |inl i=>exact⟨i,rfl⟩|inr s=>cases this
set_option tactic.hygienic true in
def apm(hr:zr 8 X.A)(I:Inv X pins σ H s)(S:m5 nm X.K ι H M)(rx:Rep X.K ι H x v)(ru:RelV v u)(hk:MW.keysOf M x=some ds)(hd:MW.Dn ds=some ks)(pl:MW.Dp ks=true)(h:∀p o n s',Inv X ((p,o)::pins) σ H s'->Cw (jh X.prog X.w) (KH H) s'.heap p (λk=>k∈ks) n->s'.heap.get? p=some o->Q (.ref p) s') :
 wpAny (model X.prog X.w) X.A (call (.type "set") [u]) Q X.xe s:=by
 obtain⟨hlen,hint⟩:=aks pl;have hu:X.A.in1.in1.in1.units+1<cLine:=by have:=hr.un;show X.A.units+1+1+1+1<cLine;lia
 have kept:∀b o,s.heap.get? b=some o->(s.heap.push (Xx.Ai X.w)).get? b=some o:=λb o e=>ao _ e
 have I1:Inv X pins σ H { s with heap:=s.heap.push (Xx.Ai X.w) }:=I.kept (t':=s.toks) kept;have fr:Cw (jh X.prog X.w) (KH H) (s.heap.push (Xx.Ai X.w)) s.heap.objs.size (λ_=>False) 0:=Xx.asb (bu _ rfl);have fin:∀(h':Heap)(tk n':Nat),(∀b o,b≠s.heap.objs.size->(s.heap.push (Xx.Ai X.w)).get? b=some o->h'.get? b=some o)->Cw (jh X.prog X.w) (KH H) h' s.heap.objs.size (λk=>k∈ks) n'->Q (.ref s.heap.objs.size) { s with heap:=h',toks:=tk }:=λh' tk n' hkp hS=>by
  have I2:Inv X pins σ H { s with heap:=h',toks:=tk }:=I.kept λb o e=>hkp b o (du (az e)) (kept b o e)
  obtain⟨o,es,ep,t,hg,hc,hdt,_⟩:=hS.get;refine h _ o n' _ (I2.Rj λq hq=>?_) hS hg;rcases cu.mp hq with rfl|hq
  . refine⟨hg,I.Ad.fresh (bw _),u0 I.lt,I.azd (bw _),λv hv=>?_⟩
    rw[show o.data=_ from hdt] at hv;cases hv
  . exact I2.pin q (iz _ hq)
 have lst:∀p vs,v=.ref p->H p=some (.lst vs)->lz X.K ι H ds vs->wpAny (model X.prog X.w) X.A (call (.type "set") [u]) Q X.xe s:=λp vs ev hp r=>by
  subst ev;cases ru;obtain⟨is,rv,pll,_⟩:=I1.list (Gd.of hp);obtain⟨bs,rfl,hbl,hz⟩:=aid r hd;have his:is=(ks.zip bs).map λx=>Value.ref x.2:=by
   apply zu;intro j;rw[jb]
   by_cases hj:j<bs.length
   . have e1:(bs.map V.ref)[j]?=some (.ref bs[j]):=by simp[hj]
     have hj2:j<is.length:=by have:=rv.length;simp at this;exact b_ hj (f_ this)
     have e2:is[j]?=some is[j]:=by simp[hj2]
     have:=Vals.aee rv e1 e2;rw[e2,show is[j]=Value.ref bs[j] from this];have hj3:j<ks.length:=b_ hj (f_ hbl)
     have hz2:(ks.zip bs)[j]?=some (ks[j],bs[j]):=by rw[bz (by simp;lia)];simp
     rw[hz2];rfl
   . have hj2:¬j<is.length:=by have:=rv.length;simp at this;exact j_ (a_ (g_ this) (s_ hj))
     rw[p7 (s_ hj2),p7 (by simp;lia)];rfl
  refine Xx.Ml (R:=λs'=>Q (.ref s.heap.objs.size) s') ?_ λs' h=>h
  refine Xx.ama (aeg _ _ H) (ks:=ks.zip bs) (items:=is.toArray) (by have:=hr.hd;exact this) hu fr pll.isList (by simpa using his) (λx hx=>N5 I1.Ad (hz x hx)) (λx hx=>⟨hz x hx,λk hk=>hint x.1 (List.of_mem_zip (a:=x.1) (b:=x.2) hx).1 k hk⟩) (by simp;lia) λh' tk n' hkp hS=>?_
  refine fin h' tk n' hkp (hS.congr λk=>?_);rw[List.map_fst_zip (g_ hbl)]
 unfold MW.keysOf at hk;split at hk
 . rename_i n
   split at hk
   . rename_i gw hM
     cases hk;rw[W6] at hd;cases hd;cases rx with
     |@ref n p e1 =>
      obtain⟨l,h1,h2⟩:=S.obj n _ p hM e1;cases ru;obtain⟨_,hsm,xs,rel,dd⟩:=adp I1.Ad h1;obtain⟨k1,k2⟩:=Ru rel;have k3:xs.map (·.1)=gw.map (·.1):=k1.trans (Fo h2);have hl:xs.length=gw.length:=by have:=o7 List.length k3;simpa using this
      refine Xx.Ml (R:=λs'=>Q (.ref s.heap.objs.size) s') ?_ λs' h=>h
      refine Xx.al7 (aeg _ _ H) (by have:=hr.un;show X.A.units+1+1<cLine;lia) fr dd hsm (λx hx=>⟨k2 x hx,λk hk=>?_⟩) (by simp at hlen;lia) λh' n' sb hS=>?_
      . have:x.1∈gw.map (·.1):=by rw[<- k3];exact bf.mpr ⟨x,hx,rfl⟩
        exact hint x.1 this k hk
      . refine fin h' s.toks n' (λb o hb e=>(sb.2 b hb).trans e) (hS.congr λk=>?_)
        rw[k3];simp
   . obtain⟨p,vs,e1,e2,r⟩:=qw S rx hk
     exact lst p vs e1 e2 r
 . obtain⟨p,vs,e1,e2,r⟩:=qw S rx hk
   exact lst p vs e1 e2 r
def a8s(hS:Cw (jh P w) (KH H) h p T n)(hg:h.get? p=some o)(Yw:h'.get? p=some o)(le:∀a vs,H a=some (.tup vs)->H' a=some (.tup vs))(ok:Qd P w H' h'):Cw (jh P w) (KH H') h' p T n:=by obtain⟨xs,o',es,ep,t,D,r⟩:=hS;have e:o'=o:=jd (D.get.symm.trans hg);subst e;refine⟨xs,o',es,ep,t,⟨Yw,D.exa,D.dat,D.tab,D.ent,λx hx=>?_,D.nod,D.led,D.pla⟩,r⟩;obtain⟨_,k1,k2⟩:=D.keys x hx;exact⟨N5 ok (le _ _ k1),le _ _ k1,k2⟩
def aeh:MW.Ii xs ys=true↔∀k,k∈xs↔k∈ys:=by
 simp only[MW.Ii,au,jc,Ah,dq];constructor
 . rintro⟨h1,h2⟩ k
   exact⟨λh=>by obtain⟨y,hy,e⟩:=h1 k h;rw[<- e];exact hy,λh=>by obtain⟨y,hy,e⟩:=h2 k h;rw[<- e];exact hy⟩
 . exact λh=>⟨λx hx=>⟨x,(h x).mp hx,rfl⟩,λy hy=>⟨y,(h y).mpr hy,rfl⟩⟩
set_option tactic.hygienic true in
def auz(hr:zr 8 X.A)(hg:Gl X xn)(hm:X.mg xn=none)(hv:bootBuiltins xn=some (.type "set"))(hn:xn≠"__name__")(Vl:(xn==("__debug__" : Str))=false)(ha:PA X [a] (Vn nm W X.K (.cons a' .nil)))(hb:PA X [b] (Vn nm W X.K (.cons b' .nil)))(he:starEach [a] X.env=(false,eval a X.env)::starEach [] X.env)(he2:starEach [b] X.env=(false,eval b X.env)::starEach [] X.env)(Ib:(backTo q1 (starEach [] X.env)).any (·.1)=false)(agp:(backTo q2 (starEach [] X.env)).any (·.1)=false) :
 PC X .NotEq (.Call (.Name xn p1) [a] [] q1) (.Call (.Name xn p2) [b] [] q2) (tE nm W X.K (.V4 a' b')):=by
 intro pins s σ H Q I hh;obtain⟨ι,ρ,M,d,M',S,R,e,q⟩:=hh;rw[MW.Ys] at e;obtain⟨x,M1,e1,e⟩:=dw e;cases hk1:(MW.keysOf M1 x).bind MW.Dn with
 |none=>rw[hk1] at e;cases e
 |some ks =>
  rw[hk1] at e;simp only at e;split at e
  . rename_i pl1
    obtain⟨y,M2,e2,e⟩:=dw e;cases hk2:(MW.keysOf M2 y).bind MW.Dn with
    |none=>rw[hk2] at e;cases e
    |some ls =>
     rw[hk2] at e;simp only at e;split at e
     . rename_i pl2
       cases e;obtain⟨ds1,g1,g1'⟩:=dj.mp hk1;obtain⟨ds2,g2,g2'⟩:=dj.mp hk2;refine jm (Ff I hg hm hv ?_ hn Vl);refine ji (Bf (ha q1 pins s σ H (λvs H1=>∃ι1 v,vs=[v]/\Le ι H ι1 H1/\m5 nm X.K ι1 H1 M1/\Rep X.K ι1 H1 x v) I ⟨ι,ρ,M,[x],M1,S,R,by simp[e1,Res.bind],fun ι1 H1 vs le S1 r=>?_⟩) λus s1 ⟨vs,H1,I1,r1,ι1,v,ev,Vo,S1,rx⟩=>?_) he Ib
       . obtain⟨v,ev,rv⟩:=G6 r rfl
         exact⟨ι1,v,ev,le,S1,rv⟩
       subst ev;cases r1 with
       |cons rv rn =>
        cases rn;refine apm hr I1 S1 rx rv g1 g1' pl1 λp o n s2 I2 hS hgp=>?_
        refine jm (Ff I2 hg hm hv ?_ hn Vl);refine ji (Bf (hb q2 _ s2 σ H1 (λvs H2=>∃ι2 v,vs=[v]/\Le ι1 H1 ι2 H2/\m5 nm X.K ι2 H2 M'/\Rep X.K ι2 H2 y v) I2 ⟨ι1,ρ,M1,[y],M',S1,R.mono Vo,by simp[e2,Res.bind],fun ι2 H2 vs le S2 r=>?_⟩) λus s3 ⟨vs,H2,I3,r2,ι2,v2,ev2,yu,S2,ry⟩=>?_) he2 agp
        . obtain⟨v,ev,rv⟩:=G6 r rfl
          exact⟨ι2,v,ev,le,S2,rv⟩
        subst ev2;cases r2 with
        |cons rv2 rn2 =>
         cases rn2;refine apm hr I3 S2 ry rv2 g2 g2' pl2 λp' o' n' s4 I4 V0 blc=>?_
         have hp:s4.heap.get? p=some o:=(I4.pin (p,o) (iz _ (bh _ dh))).1;have hS4:=a8s (H':=H2) hS hgp hp yu.tup I4.Ad;refine Xx.a4r (by have:=hr.un;show X.A.units+1<cLine;lia) (by have:=hr.un;lia) hS4 V0 λc hc=>?_
         have ec:c=!MW.Ii ks ls:=by have:=aeh (xs:=ks) (ys:=ls);cases c<;>cases h:MW.Ii ks ls<;>simp_all
         refine⟨.bl c,H2,(I4.Rj λz hz=>I4.pin z (iz _ (bh _ (bh _ hz)))),rfl,?_⟩;rw[ec];exact q ι2 H2 _ (Vo.trans yu) S2 (.bl _)
     . cases e
  . cases e
def rM(nm:Nm)(K:Fg)(m:Bm):V->List V->Hp->VK->Prop:=λv vs H Q=>∃ι M x ds d M',m5 nm K ι H M/\Rep K ι H x v/\lz K ι H ds vs/\MW.Ec m x ds M=.ok d M'/\(∀ts,x=.tup ts->m≠.index) /\
 ∀ι' H' w,Le ι H ι' H'->m5 nm K ι' H' M'->Rep K ι' H' d w->Q w H'
set_option tactic.hygienic true in
theorem au0{id:String}(hT:∀ι H M x v,m5 nm X.K ι H M->Rep X.K ι H x v->MW.Jt m x M=true->tyV X.K T v H)(pa:PlainAttrs T)(slot:Slot T name id)(hty:typeOf (.builtin id)=pure (.type "method_descriptor"))(hm:MtR X id (rM nm X.K m))(ho:PE X o (tE nm W X.K o'))(ha:PA X (e::es) (Vn nm W X.K es'))(adt:attributeBase o name X.env (eval o X.env)=eval o X.env)(aot:((backTo Mg (starEach (e::es) X.env)).all (λx=>!x.1)&&(backToKw Mg (keywordEach [] X.env)).all (λx=>x.1.isSome)
&&decide ((e::es).length+([]:List Keyword).length+(if([]:List Keyword).isEmpty then 0 else 1)<30))=true)(adu:(apos.endLine==Mg.line)=true)(hs:starEach (e::es) X.env=(false,eval e X.env)::starEach es X.env)(Wq:(backTo Mg (starEach es X.env)).any (·.1)=false) :
 PE X (.Call (.Attribute o name apos) (e::es) [] Mg) (tE nm W X.K (.bm m o' es')) :=
 PE.of (a7j pa slot hty hm ho ha adt aot adu hs Wq) fun σ H Q ι ρ M d M' S R e q=>by
  rw[MW.amq] at e;obtain⟨x,M1,e1,e⟩:=dw e;split at e
  . rename_i ht
    obtain⟨ds,M2,e2,e⟩:=dw e;exact one S R e1 fun ι1 H1 v le S1 R1 r=>⟨hT ι1 H1 M1 x v S1 r ht,ι1,ρ,M1,ds,M2,S1,R1,e2,fun ι2 H2 vs yu S2 rs=>⟨ι2,M2,x,ds,d,M',S2,r.mono yu,rs,e,(λts hx hm=>by subst hx;subst hm;cases ht),fun ι' H' w Vp S' r'=>q ι' H' w ((le.trans yu).trans Vp) S' r'⟩⟩
  . cases e
set_option tactic.hygienic true in
def ty_list{X:Cx}(hm:m=.append\/m=.pop\/m=.index)(S:m5 nm X.K ι H M)(r:Rep X.K ι H x v)(h:MW.Jt m x M=true):tyV X.K "list" v H:=by
 have go:∀ds,MW.gf M x=some ds->tyV X.K "list" v H:=λds hd=>by obtain⟨p,vs,rfl,e2,_⟩:=qw S r hd;exact .inl ⟨rfl,vs,Gd.of e2⟩
 rcases hm with rfl|rfl|rfl
 . cases x<;>simp only[MW.Jt] at h<;>try cases h
   split at h
   . rename_i n ds hM
     exact go ds (by simp only[MW.gf,hM])
   . cases h
 . cases x<;>simp only[MW.Jt] at h<;>try cases h
   split at h
   . rename_i n ds hM
     exact go ds (by simp only[MW.gf,hM])
   . cases h
 . have h:(MW.gf M x).isSome=true:=h
   obtain⟨ds,hd⟩:=qj.mp h;exact go ds hd
set_option tactic.hygienic true in
def au1(e:MW.Ec .append x ds M=.ok d M'):∃n d0 xs,x=.ref n/\ds=[d0]/\M[n]?=some (.lst xs)/\xs.length<100000/\d=.non/\M'=M.set n (.lst (xs++[d0])):=by
 unfold MW.Ec at e;split at e
 . rename_i n d0
   split at e
   . rename_i xs hM
     split at e
     . rename_i hl
       cases e;exact⟨_,_,_,rfl,rfl,hM,hl,rfl,rfl⟩
     . cases e
   . cases e
 . rename_i h;cases h
 . rename_i h;cases h
 . rename_i h;cases h
 . rename_i h;cases h
 . cases e
def au2(e:MW.Ec .index x ds M=.ok d M'):∃d0 xs j,ds=[d0]/\MW.yr M x=some xs/\MW.Q3 M d0 xs=some j/\d=.int ((j:Nat):Int)/\M'=M:=by
 match ds,e with
 |[d0],e =>
  have e:Res.qi (((MW.yr M x).bind (MW.Q3 M d0)).map λj=>MW.D.int ((j:Nat):Int)) M=.ok d M':=by rw[<- e];cases x<;>simp only[MW.Ec]<;>first|rfl|(generalize(MW.yr M _).bind (MW.Q3 M d0)=z;cases z<;>rfl)
  obtain⟨e1,e2⟩:=ux e;obtain⟨j,e3,e4⟩:=cj.mp e1;obtain⟨xs,e6,e7⟩:=dj.mp e3;exact⟨d0,xs,j,rfl,e6,e7,e4.symm,e2⟩
 |[],e=>cases x<;>simp[MW.Ec] at e|_::_::_,e=>cases x<;>simp[MW.Ec] at e
def apn:MtR X "list.append" (rM nm X.K .append):=λpins s σ H v vs u us Q I ru T3 hh=>by
 obtain⟨ι,M,x,ds,d,M',S,r,rs,e,_,q⟩:=hh;obtain⟨n,d0,xs,rfl,rfl,hM,hl,rfl,rfl⟩:=au1 e;cases r with
 |ref ha =>
  obtain⟨ys,h3,h4⟩:=S.obj n _ _ hM ha;cases rs with
  |cons hd ht =>
   cases ht;refine Zc pins s σ H _ _ u us Q I ru T3 ⟨_,ys,_,rfl,rfl,h3,by rw[<- h4.length];exact W3 hl,?_⟩;obtain⟨S2,yu⟩:=S.put (u:=.lst (ys++[_])) (o:=.lst (xs++[_])) hM ha λle=>⟨_,vm,(h4.mono le).append (.cons (hd.mono le) .nil)⟩
   exact q _ _ _ yu S2 .non
def Ry:∀{bs:List Bool}{j:Nat},bs.findIdx? id=some j->bs[j]?=some true/\∀m,m<j->bs[m]?=some false:=fun{bs j} h=>by obtain⟨h1,h2,h3⟩:=qg.mp h;refine⟨by rw[bz h1];simpa using h2,λm hm=>?_⟩;have:=h3 m hm;rw[bz (d_ hm h1)];simpa using this
def au3(hr:zr 8 X.A):MtR X "list.index" (rM nm X.K .index):=λpins s σ H v vs u us Q I ru T3 hh=>by
 obtain⟨ι,M,x,ds,d,M',S,r,rs,e,nt,q⟩:=hh;obtain⟨d0,xs,j,rfl,e1,e2,rfl,rfl⟩:=au2 e;cases rs with
 |cons hd ht =>
  cases ht;cases T3 with
  |cons hu ht2 =>
   cases ht2;obtain⟨bs,e3,e4⟩:=dj.mp (show(MW.O7 M' d0 xs).bind (·.findIdx? id)=some j from e2);obtain⟨p,ys,rfl,hp,rl⟩:=Fj S r e1;cases ru;rcases hp with hp|hp
   . obtain⟨z,is,n,rv,hl,hg⟩:=I.akh hp
     obtain⟨f,g1,g2⟩:=Ow (A:=X.A.in1) I S ((hr.mono (by decide:7<=8)).in1) rl rv hd hu e3;obtain⟨f1,f2⟩:=Ry e4;have hb:=(Dk e3).1;have hlen:is.length=bs.length:=by rw[hb,rl.length,hl]
     have lj:j<is.length:=by rw[hlen];exact(ak.mp f1).1
     have fa:∀m (hm:m<is.length),bs[m]?=some (f is[m]):=λm hm=>g2 m _ (bz hm)
     have hT:s.TypeIs (.ref p) "list" := ⟨_,hg,rfl⟩;have hsz:is.length<=sizeLine:=by rw[<- hl];exact z
     rw[qd] at hsz;refine call_meetsIn F.slot_list_index hT F.entry_list_index (F.args_list_index_2 _ _) (λA R s h=>SeqAt.list_indexAt p is.toArray n none #[] _ f j (by simpa using lj) (by lia) ?_ ?_ _ _ A R s h) ⟨hg,g1,?_⟩
     . have:=fa j lj;rw[f1] at this;simpa using(jd this).symm
     . intro m hm hmj
       have hm:m<is.length:=by simpa using hm
       have:=fa m hm;rw[f2 m hmj] at this;simpa using(jd this).symm
     . exact⟨.int j,H,I.tok _,⟨_,rfl⟩,q ι H _ (Le.refl _ _) S (.int _)⟩
   . cases r with
     |tup e r=>exact absurd rfl (nt _ rfl)|vl e n r=>rw[hp] at e;cases e|fz e r=>simp[MW.yr,MW.gf] at e1
     |ref e =>
      obtain⟨u',q',mu⟩:=S.mem (aq e);rw[hp] at mu;exact mu.elim
set_option tactic.hygienic true in
def au4(h:MW.afq l=true):∀k∈l.map (·.1),Xx.SmK k:=λk hk=>by
 obtain⟨p,hp,rfl⟩:=bf.mp hk;simp only[MW.afq,jc] at h;have:=h p hp;split at this
 . rename_i i j e
   simp only[au,dq] at this;exact⟨i,j,this.1.1.1,this.1.1.2,this.1.2,this.2,e⟩
 . cases this
def a1c{X:Cx}(S:m5 nm X.K ι H M)(hp:H p=none)(r:qp X.K ι H (λk k'=>k=k') gw l) :
 m5 nm X.K (ι.add p) (upd H p (.dT l)) (M++[.dT gw])/\Le ι H (ι.add p) (upd H p (.dT l))/\Rep X.K (ι.add p) (upd H p (.dT l)) (.ref M.length) (.ref p):=by
 obtain⟨S1,le⟩:=S.new (H':=upd H p (.dT l)) (o:=.dT gw) hp (λa u e=>by rw[j9 (kj e hp)];exact e) λle=>⟨l,vm,r.mono le⟩
 exact⟨S1,le,.ref (by show(ι.l++[p])[M.length]?=some p;rw[<- S.len];simp)⟩
def a1d{X:Cx}(S:m5 nm X.K ι H M)(hp:H p=none)(r:qp X.K ι H (λk k'=>k=k') gw l) :
 m5 nm X.K (ι.add p) (upd H p (.dK l)) (M++[.dK gw])/\Le ι H (ι.add p) (upd H p (.dK l))/\Rep X.K (ι.add p) (upd H p (.dK l)) (.ref M.length) (.ref p):=by
 obtain⟨S1,le⟩:=S.new (H':=upd H p (.dK l)) (o:=.dK gw) hp (λa u e=>by rw[j9 (kj e hp)];exact e) λle=>⟨l,vm,r.mono le⟩
 exact⟨S1,le,.ref (by show(ι.l++[p])[M.length]?=some p;rw[<- S.len];simp)⟩
set_option tactic.hygienic true in
def a1e:Bk X (.type "dict") (rB nm X.K .dict):=λpins s σ H vs us Q I T3 hh=>by
 obtain⟨ι,M,ds,d,M',S,r,e,q⟩:=hh;cases r with
 |nil=>simp[MW.uc] at e
 |@cons x v _ _ h t =>
  cases t with
  |cons h2 t2=>cases x<;>simp[MW.uc] at e
  |nil =>
   cases T3 with
   |cons ru rn =>
    cases rn;cases h with
    |@ref n p hp =>
     cases ru;have e:(match M[n]? with|some (.dT gw)=>if MW.afq gw then MW.new (.dT gw) M else .bad|some (.dK gw)=>MW.new (.dK gw) M|_=>.bad)=.ok d M':=e;split at e
     . rename_i gw hM
       split at e
       . rename_i hs
         cases e;obtain⟨l,h1,h2⟩:=S.obj n _ p hM hp;obtain⟨z,hsm,xs,rel,dd⟩:=adp I.Ad h1;obtain⟨k1,k2⟩:=Ru rel;have hl:xs.length=l.length:=by have:=o7 List.length k1;simpa using this
         refine Xx.a8o hsm dd (λx hx=>?_) (by rw[hl];exact z) λh' dd' keep=>?_
         . refine au4 hs x.1 ?_
           rw[<- Fo h2,<- k1];exact bf.mpr ⟨x,hx,rfl⟩
         . have hf:H s.heap.objs.size=none:=I.Ad.fresh (bw _)
           obtain⟨S2,yu,r2⟩:=a1c (X:=X) S hf h2;refine⟨.ref s.heap.objs.size,upd H s.heap.objs.size (.dT l),I.laid (a:=s.heap.objs.size) (o:=.dT l) (t':=s.toks) keep (bw _) ?_,rfl,q _ _ _ yu S2 r2⟩;obtain⟨o,es,ep,g1,g2,g3,g4,g5,g6⟩:=dd';exact⟨z,ql.mpr (j6 (du I.big)),xs,rel.keeps (λb ys e=>by rw[j9 (kj e hf)];exact e),o,es,ep,g1,g2,g3,g4,g6⟩
       . cases e
     . rename_i gw hM
       cases e;obtain⟨l,h1,h2⟩:=S.obj n _ p hM hp;refine aoq I (.inl h1) λp' s' hp' I'=>?_
       obtain⟨S2,yu,r2⟩:=a1d (X:=X) S hp' h2;exact⟨.ref p',_,I',rfl,q _ _ _ yu S2 r2⟩
     . cases e
    |_=>cases e
set_option tactic.hygienic true in
theorem ints_rep{ι:Io}{H:Hp}{K:Fg}:∀{ds:List Dv}{vs:List V}{is:Zl}{ns:Xs},lz K ι H ds vs->Vals vs is->MW.Va ds=some ns->∃xs:Array (Int×Tok),is.toArray=intItems xs/\xs.toList.map (·.1)=ns
 |_,_,_,_,.nil,.nil,h=>by cases h;exact⟨#[],by simp[intItems],rfl⟩
 |_,_,_,_,.cons r t,.cons rv tv,h=>by
  cases r<;>simp only[MW.Va] at h<;>try cases h
  rename_i i;obtain⟨ns',e1,e2⟩:=cj.mp h;obtain⟨xs,g1,g2⟩:=ints_rep t tv e1;obtain⟨tk,rfl⟩:=rv;refine⟨#[(i,tk)]++xs,?_,by simp[g2,e2]⟩;have h3:=o7 Array.toList g1;apply Array.toList_inj.mp;simp[intItems] at h3 ⊢;exact h3
theorem aei:∀(l:Xs)(z m:Int),(m=z\/m∈l)->z<=m->(∀a∈l,a<=m)->l.foldl (λm x=>if m<x then x else m) z=m
 |[],z,m,h,_,_=>by rcases h with h|h;exact h.symm;cases h
 |a::l,z,m,h,hz,Dl=>by
  rw[List.foldl_cons];have ha:=Dl a dh;refine aei l _ m ?_ (by split<;>lia) (λb hb=>Dl b (bh _ hb));rcases h with h|h
  . subst h;left;split<;>lia
  . rcases cu.mp h with h|h
    . subst h
      by_cases hc:z<m
      . left;rw[cz hc]
      . left;rw[bx hc];lia
    . exact .inr h
theorem aej:∀(l:Xs)(z m:Int),(m=z\/m∈l)->m<=z->(∀a∈l,m<=a)->l.foldl (λm x=>if x<m then x else m) z=m
 |[],z,m,h,_,_=>by rcases h with h|h;exact h.symm;cases h
 |a::l,z,m,h,hz,Dl=>by
  rw[List.foldl_cons];have ha:=Dl a dh;refine aej l _ m ?_ (by split<;>lia) (λb hb=>Dl b (bh _ hb));rcases h with h|h
  . subst h;left;split<;>lia
  . rcases cu.mp h with h|h
    . subst h
      by_cases hc:m<z
      . left;rw[cz hc]
      . left;rw[bx hc];lia
    . exact .inr h
def aie(e:MW.two ds f g M=.ok d M'):M'=M/\((∃i j,ds=[.int i,.int j]/\d=.int (f i j))\/∃x m,ds=[x]/\g x=some m/\d=.int m):=by
 cases ds with
 |nil=>cases e
 |cons x r=>cases r with
  |nil =>
   obtain⟨e1,e2⟩:=ux (show Res.qi ((g x).map MW.D.int) M=.ok d M' from e);obtain⟨m,e3,e4⟩:=cj.mp e1;exact⟨e2,.inr ⟨x,m,rfl,e3,e4.symm⟩⟩
  |cons y r=>cases r with
   |nil =>
    cases x<;>try cases e
    cases y<;>cases e;exact⟨rfl,.inl ⟨_,_,rfl,rfl⟩⟩
   |cons _ _=>cases e
def Zn{h:List Int->Option Int}(e:((MW.gf M x).bind MW.Va).bind h=some m):∃xs ns,MW.gf M x=some xs/\MW.Va xs=some ns/\h ns=some m:=by obtain⟨ns,e5,e6⟩:=dj.mp e;obtain⟨xs,e7,e8⟩:=dj.mp e5;exact⟨xs,ns,e7,e8,e6⟩
def au5(e:MW.uc .max ds M=.ok d M'):M'=M/\((∃i j,ds=[.int i,.int j]/\d=.int (if i<j then j else i))\/∃x xs ns m,ds=[x]/\MW.gf M x=some xs/\MW.Va xs=some ns/\MW.ayi ns=some m/\d=.int m):=by
 obtain⟨h,h2|⟨x,m,h3,h4,h5⟩⟩:=aie e
 . exact⟨h,.inl h2⟩
 . obtain⟨xs,ns,g1,g2,g3⟩:=Zn h4
   exact⟨h,.inr ⟨x,xs,ns,m,h3,g1,g2,g3,h5⟩⟩
def au6(e:MW.uc .min ds M=.ok d M'):M'=M/\((∃i j,ds=[.int i,.int j]/\d=.int (if j<i then j else i))\/∃x xs ns m,ds=[x]/\MW.gf M x=some xs/\MW.Va xs=some ns/\MW.a5c ns=some m/\d=.int m):=by
 obtain⟨h,h2|⟨x,m,h3,h4,h5⟩⟩:=aie e
 . exact⟨h,.inl h2⟩
 . obtain⟨xs,ns,g1,g2,g3⟩:=Zn h4
   exact⟨h,.inr ⟨x,xs,ns,m,h3,g1,g2,g3,h5⟩⟩
def Qu(h:Vals [v] us):∃u,us=[u]/\RelV v u:=L2.Vals.one h
def Ox(h:i<xs.size):(xs.toList.map (·.1))[i]?=some (numAt xs i):=by simp[numAt,h]
def a8t(hc:X.calm=true):Bk X (.builtin "max") (rB nm X.K .max):=λpins s σ H vs us Q I T3 hh=>by
 obtain⟨ι,M,ds,d,M',S,r,e,q⟩:=hh;obtain⟨rfl,⟨i,j,rfl,rfl⟩|⟨x,xs,ns,m,rfl,e1,e2,e3,rfl⟩⟩:=au5 e
 . cases r with
   |cons h1 t1 =>
    cases t1 with
    |cons h2 t2 =>
     cases t2;cases h1;cases h2;refine aj8 hc pins s σ H _ us Q I T3 ⟨i,j,rfl,?_⟩;have:=q ι H _ (Le.refl _ _) S (.int (if i<j then j else i));exact this
 . obtain⟨v,rfl,rv⟩:=G6 r rfl
   obtain⟨u,rfl,ru⟩:=Qu T3;obtain⟨p,ws,rfl,hp,rl⟩:=qw S rv e1;cases ru;obtain⟨is,rvl,pl,_⟩:=I.list (Gd.of hp);obtain⟨xa,g1,g2⟩:=ints_rep rl rvl e2;have Xy:0<xa.size:=by
    cases ns with
    |nil=>cases e3|cons n ns=>have:=o7 List.length g2;simp at this;lia
   refine max_intList (I.ok.hd hc) (by rw[<- g1];exact pl.isList) Xy λw h' tk hw keep=>?_
   obtain⟨t,rfl⟩:=intItems_at hw;obtain⟨b1,b2⟩:=argBest_gt (numAt xa) (xa.size-1);have hm:m=numAt xa (argBest (λi j=>decide (numAt xa i > numAt xa j)) (xa.size-1)):=by
    cases hns:ns with
    |nil=>rw[hns] at e3;cases e3
    |cons n ns' =>
     rw[hns] at e3;cases e3;have mem:∀i,i<xa.size->numAt xa i∈n::ns':=λi hi=>by rw[<- hns,<- g2];exact aq (Ox hi)
     have le:∀a∈n::ns',a<=numAt xa (argBest (λi j=>decide (numAt xa i > numAt xa j)) (xa.size-1)):=λa ha=>by
      rw[<- hns,<- g2] at ha;obtain⟨i,hi⟩:=u9.mp ha;have li:i<xa.size:=by have:=(ak.mp hi).1;simpa using this
      rw[Ox li] at hi;cases hi;exact b2 i (by lia)
     exact aei ns' n _ (cu.mp (mem _ (by omega))) (le n dh) (λa ha=>le a (bh _ ha))
   subst hm;exact⟨.int _,H,I.kept keep,⟨t,rfl⟩,q ι H _ (Le.refl _ _) S (.int _)⟩
def Kg(n d:Nat)(o:Option Int):HT.Ge n d o=MW.clip n d o:=by
 cases o with
 |none=>rfl
 |some i =>
  show(if i<0 then(i+(n:Int)).toNat else min i.toNat n)=(if 0<=i then min i.toNat n else(i+(n:Int)).toNat)
  by_cases h:i<0
  . rw[cz h,bx (by lia)]
  . rw[bx h,cz (by lia)]
def tO(nm:Nm)(W:Jp)(K:Fg)(o:OEx):TO:=fun σ H Q=>∃ι ρ M d M',m5 nm K ι H M/\uw K ι H ρ σ/\o.den W ρ M=.ok d M'/\∀ι' H',Le ι H ι' H'->m5 nm K ι' H' M'->Q d H'
def PO.weak(h:PO X e t)(w:∀σ H Q,t' σ H Q->t σ H Q):PO X e t':=λpins s σ H Q I q=>h pins s σ H Q I (w σ H Q q)
def PO.of(h:PO X e t)(w:∀σ H Q ι ρ M d M',m5 nm X.K ι H M->uw X.K ι H ρ σ->o'.den W ρ M=.ok d M'->(∀ι' H',Le ι H ι' H'->m5 nm X.K ι' H' M'->Q d H')->t σ H Q):PO X e (tO nm W X.K o'):=PO.weak h fun σ H Q ⟨ι,ρ,M,d,M',S,R,e,q⟩=>w σ H Q ι ρ M d M' S R e q
def au7:PO X none (tO nm W X.K .none):=PO.of aud fun σ H Q ι ρ M d M' S R e q=>by rw[MW.ajp] at e;cases e;exact q ι H (Le.refl _ _) S
set_option tactic.hygienic true in
def au8(ha:PE X a (tE nm W X.K a')):PO X (some a) (tO nm W X.K (.some a')):=PO.of (aue ha) fun σ H Q ι ρ M d M' S R e q=>by rw[MW.ajq] at e;obtain⟨x,M1,e1,e⟩:=dw e;split at e<;>cases e;rename_i i;exact one S R e1 fun ι1 H1 v le S1 R1 r=>by cases r;exact⟨i,rfl,q ι1 H1 le S1⟩
set_option tactic.hygienic true in
def a8u(ha:PE X a (tE nm W X.K a'))(hl:PO X lo (tO nm W X.K lo'))(hh:PO X hi (tO nm W X.K Vg)):PE X (.Subscript a (.Slice lo hi none p2) pos) (tE nm W X.K (.cut a' lo' Vg)) :=
 PE.of (aos (SlR.or auh a0i) ha hl hh) fun σ H Q ι ρ M d M' S R e q=>by
  rw[MW.asy] at e;obtain⟨x,M1,e1,e⟩:=dw e;obtain⟨l,M2,e2,e⟩:=dw e;obtain⟨h,M3,e3,e⟩:=dw e;obtain⟨e4,e5⟩:=ux e;subst e5;refine one S R e1 fun ι1 H1 v le S1 R1 r=>⟨ι1,ρ,M1,l,M2,S1,R1,e2,fun ι2 H2 yu S2=>⟨ι2,ρ,M2,h,_,S2,R1.mono yu,e3,fun ι3 H3 Zf S3=>?_⟩⟩
  have r3:=(r.mono yu).mono Zf;have fin:=fun ι' H' w Vp S' r'=>q ι' H' w (((le.trans yu).trans Zf).trans Vp) S' r'
  have lst:∀ds,MW.gf M' x=some ds->d=.vl (MW.aaf ds l h)->a7i X.K v l h H3 Q:=λds hd ed=>by
   obtain⟨p,vs,rfl,hp,rl⟩:=qw S3 r3 hd;refine⟨p,vs,rfl,Gd.of hp,λp' hp'=>?_⟩;have:lz X.K ι3 H3 (MW.aaf ds l h) (X7 vs l h):=by unfold MW.aaf X7;rw[Kg,Kg,<- rl.length];exact(rl.drop _).take _
   obtain⟨S4,le4,r4⟩:=abg (X:=X) S3 hp' this;subst ed;exact fin _ _ _ le4 S4 r4
  cases x with
  |tup ds =>
   right
   simp only[MW.V5] at e4;split at e4
   . cases e4
   . rename_i hw
     cases e4;cases r3 with
     |@tup p _ vs hp rl =>
      refine⟨p,vs,rfl,Jl.of hp,?_,λp' hp'=>?_⟩
      . rw[Kg,Kg,<- rl.length];exact hw
      . have:lz X.K ι3 H3 (MW.aaf ds l h) (X7 vs l h):=by
         unfold MW.aaf X7;rw[Kg,Kg,<- rl.length];exact(rl.drop _).take _
        obtain⟨S4,le4,r4⟩:=K3 (X:=X) S3 hp' this;exact fin _ _ _ le4 S4 r4
  |_ =>
   left
   simp only[MW.V5] at e4;obtain⟨ds,hd,ed⟩:=cj.mp e4;exact lst ds hd ed.symm
def a8v(hc:X.calm=true):Bk X (.builtin "min") (rB nm X.K .min):=λpins s σ H vs us Q I T3 hh=>by
 obtain⟨ι,M,ds,d,M',S,r,e,q⟩:=hh;obtain⟨rfl,⟨i,j,rfl,rfl⟩|⟨x,xs,ns,m,rfl,e1,e2,e3,rfl⟩⟩:=au6 e
 . cases r with
   |cons h1 t1 =>
    cases t1 with
    |cons h2 t2 =>
     cases t2;cases h1;cases h2;refine aj9 hc pins s σ H _ us Q I T3 ⟨i,j,rfl,?_⟩;have:=q ι H _ (Le.refl _ _) S (.int (if j<i then j else i));exact this
 . obtain⟨v,rfl,rv⟩:=G6 r rfl
   obtain⟨u,rfl,ru⟩:=Qu T3;obtain⟨p,ws,rfl,hp,rl⟩:=qw S rv e1;cases ru;obtain⟨is,rvl,pl,_⟩:=I.list (Gd.of hp);obtain⟨xa,g1,g2⟩:=ints_rep rl rvl e2;have Xy:0<xa.size:=by
    cases ns with
    |nil=>cases e3|cons n ns=>have:=o7 List.length g2;simp at this;lia
   refine min_intList (I.ok.hd hc) (by rw[<- g1];exact pl.isList) Xy λw h' tk hw keep=>?_
   obtain⟨t,rfl⟩:=intItems_at hw;obtain⟨b1,b2⟩:=argBest_lt (numAt xa) (xa.size-1);have hm:m=numAt xa (argBest (λi j=>decide (numAt xa i<numAt xa j)) (xa.size-1)):=by
    cases hns:ns with
    |nil=>rw[hns] at e3;cases e3
    |cons n ns' =>
     rw[hns] at e3;cases e3;have mem:∀i,i<xa.size->numAt xa i∈n::ns':=λi hi=>by rw[<- hns,<- g2];exact aq (Ox hi)
     have le:∀a∈n::ns',numAt xa (argBest (λi j=>decide (numAt xa i<numAt xa j)) (xa.size-1))<=a:=λa ha=>by
      rw[<- hns,<- g2] at ha;obtain⟨i,hi⟩:=u9.mp ha;have li:i<xa.size:=by have:=(ak.mp hi).1;simpa using this
      rw[Ox li] at hi;cases hi;exact b2 i (by lia)
     exact aej ns' n _ (cu.mp (mem _ (by omega))) (le n dh) (λa ha=>le a (bh _ ha))
   subst hm;exact⟨.int _,H,I.kept keep,⟨t,rfl⟩,q ι H _ (Le.refl _ _) S (.int _)⟩
def Yd{n:Nat}(hh:A.handled=none)(hr:IsRange s.heap r a b c t u v)(W7:Builtin.Range.small a b c=true)(hn:Builtin.Range.rangeSize a b c=n)(hlen:n<=2 ^ 24)(hQ:∀(h':Heap) (tk:Nat) (acc:U1),(∀b o,s.heap.get? b=some o->h'.get? b=some o)->ItemsOf (λi v=>∃t,v=.int (a+i*c) t) acc n->Q acc.toList { s with heap:=h',toks:=tk }):wpAny (model prog w) A (collect (.ref r)) Q E s:=by
 unfold collect;refine aa (wpAny_runValue (m7 F.entry_proto_collect ?_));rw[j8 F.plain_proto_collect _];show wpAny _ A.in1 (newList [] >>= λl=>again (.builtin "list.__iadd__" ⟨[l,.ref r],[]⟩)) _ _ s;refine aa (jk ?_);refine aj ⟨plainId_quiet F.plain_list_iadd _,m7 F.entry_list_iadd ?_⟩;rw[j8 F.plain_list_iadd _];show wpAny _ A.in1 (Builtin.List.listExtendWith (.ref s.heap.objs.size) (.ref r) (.ref s.heap.objs.size)) _ _ _;have keep:∀b o,s.heap.get? b=some o->(s.heap.push { cls:=.type "list",data:=.seq ([]:Zl).toArray }).get? b=some o:=λb o e=>ao _ e
 have hS0:(s.heap.push { cls:=.type "list",data:=.seq ([]:Zl).toArray }).get? s.heap.objs.size=some { cls:=.type "list",data:=.seq #[] 0 }:=bu _ rfl;have ext:=wpAny_extend_range (prog:=prog) (w:=w) (A:=A) (R:=λr' s'=>∃(h':Heap)(tk:Nat)(acc:U1)(c':Nat),r'=.ok (.ret (.ref s.heap.objs.size))/\s'={ s with heap:=h',toks:=tk }/\(∀b o,s.heap.get? b=some o->h'.get? b=some o)
 /\h'.get? s.heap.objs.size=some { cls:=.type "list",dict:=none,data:=.seq acc c',slots:=#[] }/\ItemsOf (λi v=>∃t,v=.int (a+i*c) t) acc n)
  (s:={ s with heap:=s.heap.push { cls:=.type "list",data:=.seq ([]:Zl).toArray } }) hh (keep _ _ hr) W7 hn hlen s.heap.objs.size (.ref s.heap.objs.size) 0 hS0
  λh' tk acc c' hk hS Ek=>⟨h',tk,acc,c',rfl,rfl,λb o e=>hk b o (du (az e)) (keep b o e),hS,Ek⟩
 have last:∀{r':Result}{s':Shared},(∃(h':Heap)(tk:Nat)(acc:U1)(c':Nat),r'=.ok (.ret (.ref s.heap.objs.size))/\s'={ s with heap:=h',toks:=tk }/\(∀b o,s.heap.get? b=some o->h'.get? b=some o)
 /\h'.get? s.heap.objs.size=some { cls:=.type "list",dict:=none,data:=.seq acc c',slots:=#[] }/\ItemsOf (λi v=>∃t,v=.int (a+i*c) t) acc n)->∃(h':Heap)(tk:Nat)(acc:U1)(c':Nat),r'=.ok (.ret (.ref s.heap.objs.size))/\s'={ s with heap:=h',toks:=tk }/\h'.get? s.heap.objs.size=some { cls:=.type "list",dict:=none,data:=.seq acc c',slots:=#[] }/\Q acc.toList s':=λ⟨h',tk,acc,c',e1,e2,e3,e4,e5⟩=>⟨h',tk,acc,c',e1,e2,e4,by rw[e2];exact hQ h' tk acc e3 e5⟩
 refine j7 ext (λfin s' hf=>?_) (λe s' he=>?_)
 . cases fin with
   |done f =>
    obtain⟨h',tk,acc,c',e1,rfl,e4,e5⟩:=last hf;cases e1;exact aa (wpAny_load e4 (aj e5))
   |again c' =>
    refine⟨hf.1,vf hf.2 λr' s'' hr'=>?_⟩;obtain⟨h',tk,acc,c',e1,rfl,e4,e5⟩:=last hr';subst e1;exact aa (wpAny_load e4 (aj e5))
 . obtain⟨_,_,_,_,e1,_⟩:=last he
   cases e1
def T4{n:Nat}(hh:A.handled=none)(hr:IsRange s.heap r a b c t u v)(W7:Builtin.Range.small a b c=true)(hn:Builtin.Range.rangeSize a b c=n)(hlen:n<=2 ^ 24)(h:∀(h':Heap) (tk:Nat) (acc:U1),(∀b o,s.heap.get? b=some o->h'.get? b=some o)->ItemsOf (λi v=>∃t,v=.int (a+i*c) t) acc n->Q₁ (.ref h'.objs.size) { s with heap:=h'.push { cls:=.type "tuple",data:=.seq acc },toks:=tk }) :
 codeAny (model prog w) A (.call (.builtin "tuple.__new__") ⟨[.type "tuple",.ref r],[]⟩) (wants Q₁ E) s:=by
 refine codeAny_of_tree ?_;show wpAny _ A.in1 (do checkBuiltinCall "tuple.__new__" ⟨[.type "tuple",.ref r],[]⟩;again (.builtin "tuple.__new__" ⟨[.type "tuple",.ref r],[]⟩)) _ _ s;refine aa (wpAny_of_eq (F.newCall_tuple_1 _) (aj ⟨plainId_quiet F.plain_tuple_new _,m7 F.entry_tuple_new ?_⟩));rw[j8 F.plain_tuple_new _];have Z9:=sub_tuple_self;have bhu:=init_tuple_lookup;have hmh:=madeHere_tuple;have hTI:s.TypeIs (.ref r) "range" := ⟨_,hr,rfl⟩
 wp_walk using qx hTI,Yd (A:=A.in1) hh hr W7 hn hlen
 intro h' tk acc hk Ek;show wpAny _ _ (Builtin.Tuple.tupleExact acc.toList.toArray >>= λv=>ret v) _ _ _;unfold Builtin.Tuple.tupleExact;refine aa (jk ?_ (by show acc.toList.toArray.size<=sizeLine;simp only[Array.toArray_toList];rw[Ek.1,qd];exact hlen));refine aj ?_;have e:acc.toList.toArray=acc:=by simp
 rw[e];exact h h' tk acc hk Ek
def T5{n:Nat}(hh:A.handled=none)(hr:IsRange s.heap r a b c t u v)(W7:Builtin.Range.small a b c=true)(hn:Builtin.Range.rangeSize a b c=n)(hlen:n<=2 ^ 24)(hQ:∀(h':Heap) (tk:Nat) (acc:U1),(∀b o,s.heap.get? b=some o->h'.get? b=some o)->ItemsOf (λi v=>∃t,v=.int (a+i*c) t) acc n->Q (.ref h'.objs.size) { s with heap:=h'.push { cls:=.type "tuple",data:=.seq acc },toks:=tk }) :
 wpAny (model prog w) A (call (.type "tuple") [.ref r]) Q E s:=by
 refine callType_codes (Q₁:=λobj s₁=>s₁.TypeIs obj "tuple"/\Q obj s₁) F.called_tuple (F.typeCall_tuple_1 _) F.entry_object_init
  (T4 (A:=A.in1) hh hr W7 hn hlen λh' tk acc hk Ek=>⟨⟨_,bu _ rfl,rfl⟩,hQ h' tk acc hk Ek⟩) λobj s₁ h₁=>?_
 exact⟨h₁.1,F.args_object_init_2 obj _,object_init_meets F.called_tuple.init.lookup F.called_tuple.made (by decide) prog w A.in1 _ s₁ ⟨h₁.1,rfl,h₁.2⟩⟩
def W8(h:ItemsOf (λi v=>∃t,v=.int (0+(i:Int)*1) t) acc n):Vals ((List.range n).map λ(k:Nat)=>V.int (k:Int)) acc.toList:=by
 have go:∀(l:Zl)(k:Nat),(∀(j:Nat)(v:Value),l[j]?=some v->∃t,v=Value.int ((k+j:Nat):Int) t)->Vals ((List.range' k l.length).map λ(k:Nat)=>V.int (k:Int)) l:=by
  intro l
  induction l with
  |nil=>intro k _;exact .nil
  |cons v l ih =>
   intro k hk;rw[gr,List.range'_succ,ie];refine .cons ?_ (ih (k+1) λj v hj=>?_)
   . exact hk 0 v rfl
   . obtain⟨t,e⟩:=hk (j+1) v (by simpa using hj)
     exact⟨t,by rw[e];congr 1;lia⟩
 have:=go acc.toList 0 (λj v hj=>by
  obtain⟨t,e⟩:=h.2 j v (by simpa using hj);exact⟨t,by rw[e];congr 1;lia⟩)
 rw[tu,h.1,<- List.range_eq_range'] at this;exact this
def W9(n:Nat):lz K ι H ((List.range n).map λ(k:Nat)=>MW.D.int (k:Int)) ((List.range n).map λ(k:Nat)=>V.int (k:Int)):=by
 generalize List.range n=l
 induction l with
 |nil=>exact .nil|cons k l ih=>exact .cons (.int _) ih
set_option tactic.hygienic true in
def a1f(hr:zr 8 X.A)(hg:Gl X n)(hm:X.mg n=none)(hv:bootBuiltins n=some (.type "tuple"))(hn:n≠"__name__")(Vl:(n==("__debug__" : Str))=false)(hg2:Gl X tn)(hm2:X.mg tn=none)(hv2:bootBuiltins tn=some (.type "range"))(hn2:tn≠"__name__")(apq:(tn==("__debug__" : Str))=false)(ha:PA X [a] (Vn nm W X.K (.cons a' .nil)))(he:starEach [.Call (.Name tn p') [a] [] q2] X.env=(false,eval (.Call (.Name tn p') [a] [] q2) X.env)::starEach [] X.env)(Ib:(backTo q1 (starEach [] X.env)).any (·.1)=false)(he2:starEach [a] X.env=(false,eval a X.env)::starEach [] X.env)(agp:(backTo q2 (starEach [] X.env)).any (·.1)=false) :
 PE X (.Call (.Name n p) [.Call (.Name tn p') [a] [] q2] [] q1) (tE nm W X.K (.afn a')):=by
 intro pins s σ H Q I hh;obtain⟨ι,ρ,M,d,M',S,R,e,q⟩:=hh;rw[MW.amr] at e;obtain⟨x,M1,e1,e⟩:=dw e;split at e<;>try cases e
 rename_i i;split at e<;>cases e;rename_i hi;refine jm (Ff I hg hm hv ?_ hn Vl);refine ji (Q:=EP X pins σ Q) ?_ he Ib;rw[he];show wpAny _ _ (spliced ((false,eval (.Call (.Name tn p') [a] [] q2) X.env)::backTo q1 (starEach [] X.env))) _ _ s;refine Calls.spliced_cons ?_;refine jm (Ff I hg2 hm2 hv2 ?_ hn2 apq);refine ji (Bf (ha q2 pins s σ H (λvs H1=>∃ι1,vs=[.int i]/\Le ι H ι1 H1/\m5 nm X.K ι1 H1 M') I ⟨ι,ρ,M,[.int i],M',S,R,by simp[e1,Res.bind],fun ι1 H1 vs le S1 r=>?_⟩) λus s1 ⟨vs,H1,I1,r1,ι1,ev,Vo,S1⟩=>?_) he2 agp
 . obtain⟨v,ev,rv⟩:=G6 r rfl
   cases rv;exact⟨ι1,ev,le,S1⟩
 subst ev;obtain⟨u,rfl,ru⟩:=Qu r1;obtain⟨t,rfl⟩:=ru;refine call_range_1 ?_;show wpAny _ _ (spliced []) _ _ _;refine Calls.spliced_nil ?_;have keep:∀b o,s1.heap.get? b=some o->(s1.heap.push { cls:=.type "range",data:=.fields #[.int 0 s1.toks,.int i t,.int 1 (s1.toks+1)] }).get? b=some o:=λb o e=>ao _ e
 refine T5 (n:=i.toNat) hr.hd (bu _ rfl) (small_one (by lia) (by lia) (by lia) (by omega)) (by rw[rangeSize_one];split<;>lia) (by lia) λh' tk acc hk Ek=>?_
 have I2:Inv X pins σ H1 { s1 with heap:=h',toks:=tk }:=I1.kept λb o e=>hk b o (keep b o e)
 have hz:((List.range i.toNat).map λ(k:Nat)=>V.int (k:Int)).length<=sizeLine:=by simp[qd];omega
 have hf:H1 h'.objs.size=none:=I2.Ad.fresh (bw _);have I3:Inv X pins σ (upd H1 h'.objs.size (.tup ((List.range i.toNat).map λ(k:Nat)=>V.int (k:Int)))) { s1 with heap:=h'.push { cls:=.type "tuple",data:=.seq acc },toks:=tk } :=
  I2.laid (a:=h'.objs.size) (t':=tk) (λb o e=>ao _ e) (bw _) (show Be X.prog X.w _ _ _ (.tup _) from⟨hz,acc.toList,W8 Ek,by simpa using L2.Wk.new _ _⟩)
 obtain⟨S2,yu,r2⟩:=K3 (X:=X) S1 hf (W9 i.toNat);exact⟨.ref h'.objs.size,_,I3,rfl,q ι1 _ _ (Vo.trans yu) S2 r2⟩
end Sm
namespace EnT
open PySem PySem.Spec
open AutoSeq1 (wpAny_loadPart')
set_option tactic.hygienic true in
def apr(a:s.heap.IsTupleIter it t i)(b:s.heap.IsTuple t xs)(e:xs[i]?=some x)(q:∀h',h'.IsTupleIter it t (i+1)->Heap.SameBut it s.heap h'->Q x { s with heap:=h' }):wpAny (model prog w) A (Builtin.SmallTypes.nextOf (.ref it)) Q E s:=by obtain⟨o,o1,o2,o3⟩:=id a;obtain⟨ol,l1,l2,nl,l3⟩:=b;unfold Builtin.SmallTypes.nextOf;refine aa (jw (name:=Str.ofString "__next__") a.typeIs uv (jf uv a.typeIs F.entry_tuple_iterator_next ?_ (F.args_tuple_iterator_next_1 _)));show wpAny _ _ (field (.ref it) 0 >>= _) _ _ s;refine aa (il o1 o3 (x:=.ref t) rfl ?_);show wpAny _ _ (if(Value.ref t==Value.none)=true then _ else field (.ref it) 1 >>= _) _ _ s;rw[bx (show ¬((Value.ref t==Value.none)=true) by exact jg)];refine aa (il o1 o3 (x:=.int i 0) rfl (aa (o5 l1 l3 ?_)));simp only[t7,e];refine aa (wpAny_setField o1 o3 (by simp) (aj ⟨x,rfl,aj (q _ ⟨_,o8 _ o1 (Obj.isFreed_of_fields (Obj.data_mapFields o3 _)),(Obj.cls_mapFields ..).trans o2,?_⟩ (km ..))⟩));rw[Obj.data_mapFields o3];simp[rawInt]
set_option tactic.hygienic true in
def au9(hd:A.handled=none)(a:s.heap.IsTupleIter it t i)(b:s.heap.IsTuple t xs)(e:xs[i]?=none)(q:∀h' x,Heap.ExtBut it s.heap h'->(∃o,h'.get? x=some o/\o.cls=.type "StopIteration")->E (.ref x) { s with heap:=h' }):wpAny (model prog w) A (Builtin.SmallTypes.nextOf (.ref it)) Q E s:=by
 obtain⟨o,o1,o2,o3⟩:=id a;obtain⟨ol,l1,l2,nl,l3⟩:=b;unfold Builtin.SmallTypes.nextOf;refine aa (jw (name:=Str.ofString "__next__") a.typeIs uv (jf uv a.typeIs F.entry_tuple_iterator_next ?_ (F.args_tuple_iterator_next_1 _)));show wpAny _ _ (field (.ref it) 0 >>= _) _ _ s;refine aa (il o1 o3 (x:=.ref t) rfl ?_);show wpAny _ _ (if(Value.ref t==Value.none)=true then _ else field (.ref it) 1 >>= _) _ _ s;rw[bx (show ¬((Value.ref t==Value.none)=true) by exact jg)];refine aa (il o1 o3 (x:=.int i 0) rfl (aa (o5 l1 l3 ?_)));simp only[t7,e];refine aa (wpAny_rule (aa (wpAny_setField o1 o3 (by simp) ?_)));show wpAny _ _ (newExc (.type "StopIteration") [] >>= raiseNew) _ _ _;refine aa ?_;simp only[newExc,newTuple];refine aa (jk ?_ (by size_fits));refine aa (m:=firstArgMember _ _) (wpAny_of_eq (a:=Value.none) (by first|rfl|(simp only[firstArgMember];rfl)) (jk ?_ (by size_fits)));simp only[raiseNew];refine aa (wpAny_handled ?_)
 first|rw[show A.in1.handled=none by exact hd]|rw[hd]
 exact aa (aj (wpAny_throw (q _ _ (((km ..).extBut.push _).push _) ⟨_,bu _ rfl,rfl⟩)))
def Lx(b:Bool)(h:Heap)(it a:Addr)(i:Nat):Prop:=cond b (h.IsTupleIter it a i) (h.IsListIter it a i)
def T6(b:Bool)(h:Heap)(a:Addr)(xs:U1):Prop:=cond b (h.IsTuple a xs) (h.IsList a xs)
def Lx.at(x:Lx b h it a i)(k:∀o,h.get? it=some o->h'.get? it=some o):Lx b h' it a i:=by
 cases b with
 |true=>obtain⟨o,e,r⟩:=x;exact⟨o,k o e,r⟩
 |false=>obtain⟨o,e,r⟩:=x;exact⟨o,k o e,r⟩
def Lx.obj(x:Lx b h it a i):∃o,h.get? it=some o/\∀v,o.data≠.cell v:=by
 cases b with
 |true=>obtain⟨o,e,c,d⟩:=x;exact⟨o,e,λv z=>by rw[d] at z;cases z⟩
 |false=>obtain⟨o,e,c,d⟩:=x;exact⟨o,e,λv z=>by rw[d] at z;cases z⟩
def Rz(a:Lx b s.heap it t i)(c:T6 b s.heap t xs)(e:xs[i]?=some x)(q:∀h',Lx b h' it t (i+1)->Heap.SameBut it s.heap h'->Q x { s with heap:=h' }):wpAny (model prog w) A (Builtin.SmallTypes.nextOf (.ref it)) Q E s:=by
 cases b with
 |true=>exact apr a c e q|false=>exact wpAny_nextOf_list_item a c e q
def abn(hd:A.handled=none)(a:Lx b s.heap it t i)(c:T6 b s.heap t xs)(e:xs[i]?=none)(q:∀h' x,Heap.ExtBut it s.heap h'->(∃o,h'.get? x=some o/\o.cls=.type "StopIteration")->E (.ref x) { s with heap:=h' }):wpAny (model prog w) A (Builtin.SmallTypes.nextOf (.ref it)) Q E s:=by
 cases b with
 |true=>exact au9 hd a c e q|false=>exact wpAny_nextOf_list_end hd a c e q
def ava{i:Nat}{Q:Y1}(he:IsEnum s.heap e it i old)(a:Lx b s.heap it t i)(c:T6 b s.heap t xs)(ex:xs[i]?=some x)(ne:e≠it)(q:∀h',IsEnumOut h' e it ((i:Int)+1) x s.heap.objs.size->Lx b h' it t (i+1)->h'.get? s.heap.objs.size=some { cls:=.type "tuple",data:=.seq #[.int i s.toks,x] }->h'.objs.size=s.heap.objs.size+1 ->
 (∀y o,y≠e->y≠it->s.heap.get? y=some o->h'.get? y=some o)->Q (.ref s.heap.objs.size) { s with heap:=h',toks:=s.toks+1 }) :
 wpAny (model prog w) A (Builtin.«enumerate.__next__» ⟨[.ref e],[]⟩) (λfin s'=>∃v,fin=.done (.ret v)/\Q v s') E s:=by
 obtain⟨hp,g,d,tk,os⟩:=s;show wpAny _ _ (field (.ref e) 2 >>= _) _ _ _;refine aa (il he rfl (x:=.ref it) rfl (aa (Rz a c ex λh1 a1 s1=>?_)));have s1:Heap.SameBut it hp h1:=s1;have e1:IsEnum h1 e it i old:=(s1.2 e ne).trans he;refine aa (il e1 rfl (x:=rawInt i) rfl (aa (il e1 rfl (x:=.none) rfl (aa (wpAny_mkInt ?_)))));show wpAny _ _ (setField (.ref e) 3 (rawInt ((i:Int)+1)) >>= _) _ _ ⟨h1,g,d,tk+1,os⟩;refine aa (iw e1 (by simp) λh2 e2 s2=>?_);have s2:Heap.SameBut e h1 h2:=s2;have e2:IsEnum h2 e it ((i:Int)+1) old:=e2;refine aa (iw e2 (by simp) λh3 e3 s3=>?_);have s3:Heap.SameBut e h2 h3:=s3;have e3:IsEnum h3 e it ((i:Int)+1) old:=e3;refine aa (wpAny_newTuple ?_);have n3:h3.objs.size=hp.objs.size:=by rw[s3.1,s2.1,s1.1]
 obtain⟨h4,d4⟩:∃h4,h4=h3.push { cls:=.type "tuple",data:=.seq #[.int i tk,x] }:=⟨_,rfl⟩;have e4:IsEnum h4 e it ((i:Int)+1) old:=by rw[d4];exact ao _ e3
 have t4:h4.get? hp.objs.size=some { cls:=.type "tuple",data:=.seq #[.int i tk,x] }:=by rw[d4,<- n3];exact bu _ rfl
 have n4:h4.objs.size=hp.objs.size+1:=by rw[d4,ik,n3]
 have k3:∀y o,y≠e->h1.get? y=some o->h4.get? y=some o:=λy o hy z=>by rw[d4];exact ao _ (s3.extBut y o hy (s2.extBut y o hy z))
 have a4:Lx b h4 it t (i+1):=a1.at λo z=>k3 it o (j6 ne) z
 have lt:e<hp.objs.size:=az he
 show wpAny _ _ (Builtin.SmallTypes.ownedTupleIsFree (.ref e) >>= _) _ _ ⟨h3.push _,g,d,tk+1,os⟩;rw[n3,<- d4];refine aa ?_;unfold Builtin.SmallTypes.ownedTupleIsFree;refine aa (il e4 rfl (x:=.none) rfl (aj ?_));simp only[jy];refine aa (wpAny_rule (aa (il e4 rfl (x:=old) rfl (aa (iw e4 (by simp) λh5 e5 s5=>?_)))));have s5:Heap.SameBut e h4 h5:=s5;have e5:IsEnum h5 e it ((i:Int)+1) x:=e5;refine aa ?_;unfold Builtin.SmallTypes.ownedTupleHandOut;refine aa (iw e5 (by simp) λh6 e6 s6=>?_);have s6:Heap.SameBut e h5 h6:=s6;have e6:IsEnumOut h6 e it ((i:Int)+1) x hp.objs.size:=e6;refine iw e6 (by simp) λh7 e7 s7=>?_
 have s7:Heap.SameBut e h6 h7:=s7;have k7:∀y o,y≠e->h4.get? y=some o->h7.get? y=some o:=λy o hy z=>s7.extBut y o hy (s6.extBut y o hy (s5.extBut y o hy z))
 exact aa (wpAny_letGo (aj ⟨_,rfl,q h7 e7 (a4.at λo z=>k7 it o (j6 ne) z) (k7 _ _ (u0 lt) t4) (by rw[s7.1,s6.1,s5.1,n4]) λy o y1 y2 z=>k7 y o y1 (k3 y o y1 (s1.extBut y o y2 z))⟩))
set_option tactic.hygienic true in
def avb{i:Nat}(he:IsEnum s.heap e it i old)(a:Lx b s.heap it t i)(c:T6 b s.heap t xs)(ex:xs[i]?=some x)(ne:e≠it)(q:∀h',IsEnumOut h' e it ((i:Int)+1) x s.heap.objs.size->Lx b h' it t (i+1)->h'.get? s.heap.objs.size=some { cls:=.type "tuple",data:=.seq #[.int i s.toks,x] }->h'.objs.size=s.heap.objs.size+1 ->
 (∀y o,y≠e->y≠it->s.heap.get? y=some o->h'.get? y=some o)->Q (some (.ref s.heap.objs.size)) { s with heap:=h',toks:=s.toks+1 }):wpAny (model prog w) A (pyNext (.ref e)) Q E s:=by
 have ty:s.TypeIs (.ref e) "enumerate" := ⟨_,he,rfl⟩;unfold pyNext;refine aa (wpAny_attempt (jw (name:=Str.ofString "__next__") ty wz (jf wz ty F.entry_enumerate_next ?_ (F.args_enumerate_next_1 _))));exact ava he a c ex ne λh' y1 y2 y3 y4 y5=>aj (q h' y1 y2 y3 y4 y5)
set_option tactic.hygienic true in
def avc{i:Nat}(hd:A.handled=none)(he:IsEnum s.heap e it i old)(a:Lx b s.heap it t i)(c:T6 b s.heap t xs)(ex:xs[i]?=none)(q:∀h',Heap.ExtBut it s.heap h'->Q none { s with heap:=h' }):wpAny (model prog w) A (pyNext (.ref e)) Q E s:=by have ty:s.TypeIs (.ref e) "enumerate" := ⟨_,he,rfl⟩;unfold pyNext;refine aa (wpAny_attempt (jw (name:=Str.ofString "__next__") ty wz (jf wz ty F.entry_enumerate_next ?_ (F.args_enumerate_next_1 _))));show wpAny _ _ (field (.ref e) 2 >>= _) _ _ _;refine aa (il he rfl (x:=.ref it) rfl (aa (abn hd a c ex λh' z k ⟨o,o1,o2⟩=>?_)));exact aa (my (T := "StopIteration") (b:=true) ⟨o,o1,o2⟩ isSubtype_stop (aj (q _ k)))
set_option tactic.hygienic true in
def avd(t:Addr)(xs:U1)(n:Nat)(dct:Option Addr)(sl:Array (Option Value)) :
 Meets (Builtin.«enumerate.__new__» ⟨[.type "enumerate",.ref t],[]⟩) (λ_ R s=>s.heap.get? t=some { cls:=.type "tuple",dict:=dct,data:=.seq xs n,slots:=sl } /\
  R (.ok (.ret (.ref (s.heap.push { cls:=.type "tuple_iterator",data:=.fields #[.ref t,.int 0 0] }).objs.size)))
   { s with heap:=(s.heap.push { cls:=.type "tuple_iterator",data:=.fields #[.ref t,.int 0 0] }).push { cls:=.type "enumerate",data:=.fields #[.none,.bool false,.ref s.heap.objs.size,rawInt 0,.none,.none] } }) :=
 .of_wp λprog w A R s h=>by
  obtain⟨hp,g,d,tk,os⟩:=s;obtain⟨hl,h⟩:=h;have Z9:=sub_enumerate;have hT:Heap.IsTuple (Shared.heap ⟨hp,g,d,tk,os⟩) t xs:=⟨_,hl,rfl,n,rfl⟩
  wp_walk using wpAny_loadPart' hl
  refine wpAny_stack_any λst=>aj ?_
  split
  . rename_i c _ _ _ _ _
    cases(c==Value.type "enumerate")<;>(wp_walk using wpAny_loadPart' hl,wpAny_pyIter_tuple hT)<;>exact⟨_,rfl,h⟩
  . wp_walk using wpAny_loadPart' hl,wpAny_pyIter_tuple hT
    exact⟨_,rfl,h⟩
def aps(c:s.heap.IsTuple t xs)(q:∀h',IsEnum h' (s.heap.objs.size+1) s.heap.objs.size 0 .none->h'.IsTupleIter s.heap.objs.size t 0->h'.objs.size=s.heap.objs.size+2 ->
 (∀y o,s.heap.get? y=some o->h'.get? y=some o)->Q (.ref (s.heap.objs.size+1)) { s with heap:=h' }):wpAny (model prog w) A (call (.type "enumerate") [.ref t]) Q E s:=by
 obtain⟨⟨c0,dct,dt,sl⟩,hl,hc,n,hd⟩:=c;have hc:c0=.type "tuple" := hc;have hd:dt=.seq xs n:=hd;subst hc hd;have n1:(s.heap.push { cls:=.type "tuple_iterator",data:=.fields #[.ref t,.int 0 0] }).objs.size=s.heap.objs.size+1:=ik ..;refine callType_new F.called_enumerate (by decide) (F.typeCall_enumerate_1 _) (F.newCall_enumerate_1 _) (λobj=>F.args_object_init_2 obj _) F.entry_enumerate_new (avd t xs n dct sl) ⟨hl,?_⟩;show _/\_;rw[n1];have e1:IsEnum ((s.heap.push { cls:=.type "tuple_iterator",data:=.fields #[.ref t,.int 0 0] }).push { cls:=.type "enumerate",data:=.fields #[.none,.bool false,.ref s.heap.objs.size,rawInt 0,.none,.none] }) (s.heap.objs.size+1) s.heap.objs.size 0 .none:=by rw[<- n1];exact bu _ rfl
 exact⟨⟨_,e1,rfl⟩,q _ e1 ⟨_,ao _ (bu _ rfl),rfl,rfl⟩ (by rw[ik,n1]) λy o z=>ao _ (ao _ z)⟩
end EnT
namespace L2
open PySem PySem.Spec EnT
def Inv.Zo{ch:X9}(I:Inv X pins σ H s)(hf:∀b∈ch,Vd X pins H b)(k:∀b o,b∉ch->s.heap.get? b=some o->h'.get? b=some o)(hn:s.heap.objs.size<=n)(new:Be X.prog X.w (upd H n (.tup vs)) h' n (.tup vs)):Inv X pins σ (upd H n (.tup vs)) { s with heap:=h',toks:=t' }:=by
 have fr:H n=none:=I.Ad.fresh hn;have nch:∀b u,H b=some u->b∉ch:=λb u e z=>by rw[(hf b z).1] at e;cases e
 have old:∀b o,s.heap.get? b=some o->b≠n:=λb o e=>du (gq (az e) hn)
 refine I.step (g':=s.gens) (d':=s.drawn) (ch:=ch) (λb hb=>⟨(hf b hb).2.2.2.1,(hf b hb).2.1,(hf b hb).2.2.2.2.1,(hf b hb).2.2.2.2.2⟩) (λb o _ _ hc e _=>k b o hc e) (λb o _ _ hc e _=>⟨o.slots,k b o hc e⟩) (λb o _ e n0=>by rw[j9 (old b o e)];exact n0)
  (λb o hc e=>⟨o,k b o hc e⟩) (λb xs e=>by rw[j9 (kj e fr)];exact e) (λb o u e=>by rw[j9 (kj e fr)];exact e) (λb ps e=>⟨#[],by rw[j9 (kj e fr),e];simp⟩) (λm hm=>?_) (λb u e=>?_) I.bare
 . obtain⟨o,es,ep,ho,r⟩:=hm
   exact⟨o,es,ep,k _ o (λz=>(hf _ z).2.1 rfl) ho,r⟩
 . by_cases z:b=n
   . subst z;rw[vm] at e;cases e;exact new
   . rw[j9 z] at e
     refine(I.Ad b u e).stay (λc v hc q=>k c v ?_ q) (λc q=>by rw[j9 (kj q fr)];exact q) λc xs q=>by rw[j9 (kj q fr)];exact q
     rcases hc with y|y
     . rw[y];exact nch b u e
     . exact nch c _ y
def Inv.aif{ch:X9}(I:Inv X pins σ H s)(hf:∀b∈ch,Vd X pins H b)(k:∀b o,b∉ch->s.heap.get? b=some o->h'.get? b=some o):Inv X pins σ H { s with heap:=h',toks:=t' }:=by
 have nch:∀b u,H b=some u->b∉ch:=λb u e z=>by rw[(hf b z).1] at e;cases e
 refine I.step (g':=s.gens) (d':=s.drawn) (ch:=ch) (λb hb=>⟨(hf b hb).2.2.2.1,(hf b hb).2.1,(hf b hb).2.2.2.2.1,(hf b hb).2.2.2.2.2⟩) (λb o _ _ hc e _=>k b o hc e) (λb o _ _ hc e _=>⟨o.slots,k b o hc e⟩) (λb o _ e n0=>n0)
  (λb o hc e=>⟨o,k b o hc e⟩) (λb xs e=>e) (λb o u e=>e) (λb ps e=>⟨#[],by rw[e];simp⟩) (λm hm=>?_) (λb u e=>?_) I.bare
 . obtain⟨o,es,ep,ho,r⟩:=hm
   exact⟨o,es,ep,k _ o (λz=>(hf _ z).2.1 rfl) ho,r⟩
 . refine(I.Ad b u e).stay (λc v hc q=>k c v ?_ q) (λ_ q=>q) λ_ _ q=>q
   rcases hc with y|y
   . rw[y];exact nch b u e
   . exact nch c _ y
def Zq(b:Bool)(K:Fg)(H:Hp)(a:Addr)(xs:List V):Prop:=cond b (Jl K H a xs) (Gd K H a xs)
def Inv.abo(I:Inv X pins σ H s)(h:Zq b X.K H a xs):∃wy,Vals xs wy/\T6 b s.heap a wy.toArray:=by
 cases b with
 |true=>obtain⟨wy,rv,p,hz⟩:=I.tuple h;exact⟨wy,rv,show s.heap.IsTuple a wy.toArray from p⟩
 |false=>obtain⟨wy,rv,p,hz⟩:=I.list h;exact⟨wy,rv,p.isList⟩
def Inv.Xa(I:Inv X pins σ H s)(h:Zq b X.K H a xs)(g:Zq b X.K H a ys):xs=ys:=by
 cases b with
 |true=>exact I.Yz h g|false=>exact I.adk h g
noncomputable def Ien(b:Bool)(K:Fg)(a:Addr):It :=
 ⟨λi H=>∃xs x,Zq b K H a xs/\xs[i]?=some x,λi H v H'=>∃p x,v=.ref p/\H p=none/\H'=upd H p (.tup [.int (i:Nat),x])/\∀xs,Zq b K H a xs->xs[i]?=some x,λi H=>∃xs,Zq b K H a xs/\xs.length<=i⟩
set_option tactic.hygienic true in
theorem ave(a e it:Addr)(ne:e≠it):Turn P w K (.Tuple ts k0 pt) (Ien b K a) [e,it] e (λi h=>(∃old,IsEnum h e it ((i:Nat):Int) old)/\Lx b h it a i) where
 mem:=by simp
 obj:=λi h st c hc=>by
  obtain⟨⟨old,e1⟩,e2⟩:=st;rcases cu.mp hc with z|z
  . subst z;exact⟨_,e1,λv z=>by cases z⟩
  . have z:c=it:=by simpa using z
    subst z;exact e2.obj
 keep:=λi h h' st k=>by obtain⟨⟨old,e1⟩,e2⟩:=st;exact⟨⟨old,k e (by simp) _ e1⟩,e2.at λo z=>k it (by simp) o z⟩
 item:=by
  intro X hP hw hK hc i pins s σ H E I hf st hg;subst hP hw hK;obtain⟨xs,x,hq,hx⟩:=hg;obtain⟨wy,rv,p⟩:=I.abo hq;obtain⟨u,hu,ru⟩:=rv.get hx;obtain⟨⟨old,e1⟩,e2⟩:=st;have lt:e<s.heap.objs.size:=az e1
  refine avb e1 e2 p (x:=u) (by simpa using hu) ne λh1 o1 a1 t1 n1 k1=>⟨_,rfl,?_⟩
  refine wpAny_letOwnedTupleGo_enum o1 λh2 o2 s2=>?_
  have s2:Heap.SameBut e h1 h2:=s2;have t2:h2.get? s.heap.objs.size=some { cls:=.type "tuple",data:=.seq #[.int i s.toks,u] }:=(s2.2 _ (u0 lt)).trans t1;refine⟨.ref s.heap.objs.size,upd H s.heap.objs.size (.tup [.int (i:Nat),x]),I.Zo (t':=s.toks+1) hf (λc o hc z=>?_) (bw _) ⟨by show 2<=sizeLine;decide,[.int i s.toks,u],.cons ⟨s.toks,rfl⟩ (.cons ru .nil),⟨_,t2,rfl,_,rfl,rfl⟩⟩,rfl,
   ⟨_,x,rfl,I.Ad.fresh (bw _),rfl,λys hy=>by rw[I.Xa hy hq];exact hx⟩,⟨⟨u,?_⟩,a1.at λo z=>s2.extBut it o (j6 ne) z⟩,λc hc=>?_⟩
  . have c1:c≠e:=λz=>hc (by simp[z])
    have c2:c≠it:=λz=>hc (by simp[z])
    exact s2.extBut c o c1 (k1 c o c1 c2 z)
  . have q:((i+1:Nat):Int)=(i:Int)+1:=by push_cast;rfl
    rw[q];exact o2
  . have lt2:c<s.heap.objs.size:=by
     rcases cu.mp hc with z|z
     . rw[z];exact lt
     . have z:c=it:=by simpa using z
       obtain⟨o,z2,_⟩:=e2.obj;rw[z];exact az z2
    rw[j9 (du lt2)];exact(hf c hc).1
 done:=by intro X hP hw hK hc i pins s σ H E I hf st hg;subst hP hw hK;obtain⟨xs,hq,hx⟩:=hg;obtain⟨wy,rv,p⟩:=I.abo hq;obtain⟨⟨old,e1⟩,e2⟩:=st;have hl:=rv.length;refine avc (I.ok.hd hc) e1 e2 p (by simp;exact a_ (g_ hl) hx) λh' eb=>⟨rfl,I.aif (t':=s.toks) hf λc o hc z=>eb c o (λy=>hc (by simp[y])) z⟩
 self:=λ_ _ _ _ _ st h=>by obtain⟨⟨old,e1⟩,e2⟩:=st;exact wpAny_pyIter_enum e1 h
def a8z(hg:Gl X "enumerate")(hm:X.mg "enumerate" = none)(ha:PA X [a] ta)(hs:starEach [a] X.env=[(false,eval a X.env)]) :
 PI X (.Tuple ts k0 pt) (.Call (.Name "enumerate" p) [a] [] pos) (fun σ H R=>ta σ H λvs H1=>∃b q,vs=[.ref q]/\(∃xs,Zq b X.K H1 q xs)/\R (Ien b X.K q) H1):=by
 intro pins s σ H R I h;refine PyProof.Rows.Call_ (Ff I hg hm (show bootBuiltins "enumerate" = some (.type "enumerate") by decide+kernel) (ji (Bf (ha pos pins s σ H _ I h) λus s1 ⟨vs,H1,I1,r1,q1⟩=>?_) hs rfl));obtain⟨b,q,rfl,⟨xs,hq⟩,hR⟩:=q1;cases r1 with
 |cons r rr =>
  cases rr;cases r;obtain⟨wy,rv,p⟩:=I1.abo hq;have fin:∀h',IsEnum h' (s1.heap.objs.size+1) s1.heap.objs.size 0 .none->Lx b h' s1.heap.objs.size q 0->(∀y o,s1.heap.get? y=some o->h'.get? y=some o) ->
   wpAny (model X.prog X.w) X.A (pyIter (.ref (s1.heap.objs.size+1))) (PIE X pins σ (.Tuple ts k0 pt) R) X.xe { s1 with heap:=h' }:=λh' e1 e2 kk=>by
   refine wpAny_pyIter_enum e1 ?_;refine⟨s1.heap.objs.size+1,[s1.heap.objs.size+1,s1.heap.objs.size],_,_,H1,rfl,I1.kept (t':=s1.toks) kk,ave (b:=b) q _ _ (Nat.succ_ne_self _),⟨⟨.none,e1⟩,e2⟩,λc hc=>?_,hR⟩;have hle:s1.heap.objs.size<=c:=by
    rcases cu.mp hc with z|z
    . rw[z];exact uq _
    . have z:c=s1.heap.objs.size:=by simpa using z
      rw[z];exact bw _
   exact I1.anw hle (I1.Ad.fresh hle)
  cases b with
  |true=>exact aps p λh' e1 e2 _ kk=>fin h' e1 e2 kk
  |false=>exact call_enumerate_list p λh' e1 e2 _ kk=>fin h' e1 e2 kk
end L2
namespace EnT
open PySem PySem.Spec
def T6.at(x:T6 b h a xs)(k:∀o,h.get? a=some o->h'.get? a=some o):T6 b h' a xs:=by
 cases b with
 |true=>obtain⟨o,e,r⟩:=x;exact⟨o,k o e,r⟩
 |false=>obtain⟨o,e,r⟩:=x;exact⟨o,k o e,r⟩
def T6.obj(x:T6 b h a xs):∃o,h.get? a=some o:=by
 cases b with
 |true=>obtain⟨o,e,_⟩:=x;exact⟨o,e⟩
 |false=>obtain⟨o,e,_⟩:=x;exact⟨o,e⟩
noncomputable def itO(b:Bool)(a:Addr):Obj:={ cls:=.type (cond b "tuple_iterator" "list_iterator"),data:=.fields #[.ref a,.int 0 0] }
def apt(c:T6 b s.heap a xs)(q:Q (.ref s.heap.objs.size) { s with heap:=s.heap.push (itO b a) }):wpAny (model prog w) A (pyIter (.ref a)) Q E s:=by
 cases b with
 |true=>exact wpAny_pyIter_tuple c q|false=>exact v9 c q
def avf{Q:Y1}(D:ZipApart z TI TO i1 i2 l1 l2)(hz:IsZip s.heap z TI TO .none)(hI:IsPair s.heap TI (.ref i1) (.ref i2))(hO:IsPair s.heap TO p q)(a1:Lx b1 s.heap i1 l1 k)(a2:Lx b2 s.heap i2 l2 k)(c1:T6 b1 s.heap l1 xs)(c2:T6 b2 s.heap l2 ys)(ex:xs[k]?=some x)(ey:ys[k]?=some y)(hq:∀h',IsZip h' z TI TO (rawInt s.heap.objs.size)->IsPair h' TO x y->Lx b1 h' i1 l1 (k+1)->Lx b2 h' i2 l2 (k+1)->IsPair h' s.heap.objs.size x y->h'.objs.size=s.heap.objs.size+1 ->
 (∀c o,c≠z->c≠TO->c≠i1->c≠i2->s.heap.get? c=some o->h'.get? c=some o)->Q (.ref s.heap.objs.size) { s with heap:=h' }) :
 wpAny (model prog w) A (Builtin.«zip.__next__» ⟨[.ref z],[]⟩) (λfin s'=>∃v,fin=.done (.ret v)/\Q v s') E s:=by
 show wpAny _ _ (field (.ref z) 2 >>= _) _ _ _;refine aa (il hz rfl (x:=.bool false) rfl (aa (il hz rfl (x:=.ref TI) rfl (aa (o5 hI rfl (aa ?_))))));unfold Builtin.SmallTypes.ownedTupleIsFree;refine aa (il hz rfl (x:=.none) rfl (aj ?_));simp only[jy];refine aa (wpAny_rule (aa (il hz rfl (x:=.ref TO) rfl (aa (iw hz (by simp) λg1 z1 s1=>?_)))));have z1:IsZip g1 z TI TO .ellipsis:=z1;refine aa ?_;simp only[List.zipIdx_cons,List.zipIdx_nil,List.forIn_cons,List.forIn_nil];refine aa (aa (wpAny_onRaise ?_));refine aa (Rz (s:={ s with heap:=g1 }) (a1.at λo e=>s1.extBut _ o D.i1z e) (c1.at λo e=>s1.extBut _ o D.l1z e) ex λg2 e2 s2=>aj ?_);have O2:IsPair g2 TO p q:=s2.extBut _ _ D.TOi1 (s1.extBut _ _ D.TOz hO);refine aa (o5 O2 rfl (aa (wpAny_updateSeq_pair O2 λg3 O3 s3=>?_)));have O3:IsPair g3 TO x q:=O3;have k3:∀c o,c≠z->c≠TO->c≠i1->s.heap.get? c=some o->g3.get? c=some o:=λc o y1 y2 y3 e=>s3.extBut _ _ y2 (s2.extBut _ _ y3 (s1.extBut _ _ y1 e))
 refine aa (wpAny_letGo (aj (aa (aa (wpAny_onRaise ?_)))));refine aa (Rz (s:={ s with heap:=g3 }) (a2.at λo e=>k3 _ o D.i2z D.TOi2.symm D.i12.symm e) (c2.at λo e=>k3 _ o D.l2z D.l2TO D.l2i1 e) ey λg4 e4 s4=>aj ?_);have O4:IsPair g4 TO x q:=s4.extBut _ _ D.TOi2 O3;refine aa (o5 O4 rfl (aa (wpAny_updateSeq_pair O4 λg5 O5 s5=>?_)));have O5:IsPair g5 TO x y:=O5;refine aa (wpAny_letGo (aj (aj (aa (o5 O5 rfl (aa (wpAny_newTuple ?_)))))));have n5:g5.objs.size=s.heap.objs.size:=by rw[s5.1,s4.1,s3.1,s2.1,s1.1]
 have k5:∀c o,c≠z->c≠TO->c≠i1->c≠i2->s.heap.get? c=some o->g5.get? c=some o:=λc o y1 y2 y3 y4 e=>s5.extBut _ _ y2 (s4.extBut _ _ y4 (k3 c o y1 y2 y3 e))
 have z5:IsZip g5 z TI TO .ellipsis:=s5.extBut _ _ D.TOz.symm (s4.extBut _ _ D.i2z.symm (s3.extBut _ _ D.TOz.symm (s2.extBut _ _ D.i1z.symm z1)));have f1:Lx b1 g5 i1 l1 (k+1):=e2.at λo e=>s5.extBut _ _ D.TOi1.symm (s4.extBut _ _ D.i12 (s3.extBut _ _ D.TOi1.symm e))
 have f2:Lx b2 g5 i2 l2 (k+1):=e4.at λo e=>s5.extBut _ _ D.TOi2.symm e
 have zl:z<g5.objs.size:=az z5
 have z6:IsZip (g5.push { cls:=.type "tuple",data:=.seq #[x,y] }) z TI TO .ellipsis:=ao _ z5;refine aa ?_;unfold Builtin.SmallTypes.ownedTupleHandOut;refine aa (iw z6 (by simp) λg7 z7 s7=>?_);have z7:IsZip g7 z TI TO (rawInt g5.objs.size):=z7;refine iw z7 (by simp) λg8 z8 s8=>?_
 have z8:IsZip g8 z TI TO (rawInt g5.objs.size):=z8;have up:∀c o,c≠z->g5.get? c=some o->g8.get? c=some o:=λc o y1 e=>s8.extBut _ _ y1 (s7.extBut _ _ y1 (ao _ e))
 have t8:IsPair g8 g5.objs.size x y:=s8.extBut _ _ (u0 zl) (s7.extBut _ _ (u0 zl) (bu _ rfl));have n8:g8.objs.size=g5.objs.size+1:=by rw[s8.1,s7.1,ik]
 rw[n5] at z8 t8 n8;refine aj ⟨_,rfl,?_⟩;show Q (.ref g5.objs.size) _;rw[n5];exact hq g8 z8 (up _ _ D.TOz O5) (f1.at λo e=>up _ o D.i1z e) (f2.at λo e=>up _ o D.i2z e) t8 n8 λc o y1 y2 y3 y4 e=>up c o y1 (k5 c o y1 y2 y3 y4 e)
def a1g(hd:A.handled=none)(D:ZipApart z TI TO i1 i2 l1 l2)(hz:IsZip s.heap z TI TO .none)(hI:IsPair s.heap TI (.ref i1) (.ref i2))(hO:IsPair s.heap TO p q)(a1:Lx b1 s.heap i1 l1 k)(a2:Lx b2 s.heap i2 l2 k)(c1:T6 b1 s.heap l1 xs)(c2:T6 b2 s.heap l2 ys)(he:xs[k]?=none\/ys[k]?=none)(hE:∀h' e,(∀c o,c≠z->c≠TO->c≠i1->c≠i2->s.heap.get? c=some o->h'.get? c=some o)->(∃o,h'.get? e=some o/\o.cls=.type "StopIteration")->E (.ref e) { s with heap:=h' }) :
 wpAny (model prog w) A (Builtin.«zip.__next__» ⟨[.ref z],[]⟩) Q E s:=by
 show wpAny _ _ (field (.ref z) 2 >>= _) _ _ _;refine aa (il hz rfl (x:=.bool false) rfl (aa (il hz rfl (x:=.ref TI) rfl (aa (o5 hI rfl (aa ?_))))));unfold Builtin.SmallTypes.ownedTupleIsFree;refine aa (il hz rfl (x:=.none) rfl (aj ?_));simp only[jy];refine aa (wpAny_rule (aa (il hz rfl (x:=.ref TO) rfl (aa (iw hz (by simp) λg1 z1 s1=>?_)))));have z1:IsZip g1 z TI TO .ellipsis:=z1;have stop:∀(g:Heap)(x:Addr)(o:Obj),IsZip g z TI TO .ellipsis->g.get? x=some o->o.cls=.type "StopIteration" -> x≠z:=λg x o e1 e2 e3 y=>by subst y;rw[e1] at e2;cases e2;simp at e3
 refine aa ?_;simp only[List.zipIdx_cons,List.zipIdx_nil,List.forIn_cons,List.forIn_nil];refine aa (aa (wpAny_onRaise ?_));have A1:=a1.at (h':=g1) λo e=>s1.extBut _ o D.i1z e
 have C1:=c1.at (h':=g1) λo e=>s1.extBut _ o D.l1z e
 cases hx:xs[k]? with
 |none =>
  refine aa (abn (s:={ s with heap:=g1 }) hd A1 C1 hx λg2 x s2 ⟨o,o1,o2⟩=>?_);have z2:IsZip g2 z TI TO .ellipsis:=s2 _ _ D.i1z.symm z1;exact iw z2 (by simp) λg3 _ s3=>hE g3 x (λc o y1 _ y3 _ e=>s3.extBut _ _ y1 (s2 _ _ y3 (s1.extBut _ _ y1 e))) ⟨o,s3.extBut _ _ (stop _ _ _ z2 o1 o2) o1,o2⟩
 |some x =>
  have ey:ys[k]?=none:=by rcases he with h|h;rw[hx] at h;cases h;exact h
  refine aa (Rz (s:={ s with heap:=g1 }) A1 C1 hx λg2 e2 s2=>aj ?_);have O2:IsPair g2 TO p q:=s2.extBut _ _ D.TOi1 (s1.extBut _ _ D.TOz hO);refine aa (o5 O2 rfl (aa (wpAny_updateSeq_pair O2 λg3 O3 s3=>?_)));have k3:∀c o,c≠z->c≠TO->c≠i1->s.heap.get? c=some o->g3.get? c=some o:=λc o y1 y2 y3 e=>s3.extBut _ _ y2 (s2.extBut _ _ y3 (s1.extBut _ _ y1 e))
  refine aa (wpAny_letGo (aj (aa (aa (wpAny_onRaise ?_)))));refine aa (abn (s:={ s with heap:=g3 }) hd (a2.at λo e=>k3 _ o D.i2z D.TOi2.symm D.i12.symm e) (c2.at λo e=>k3 _ o D.l2z D.l2TO D.l2i1 e) ey λg4 x s4 ⟨o,o1,o2⟩=>?_);have z4:IsZip g4 z TI TO .ellipsis:=s4 _ _ D.i2z.symm (s3.extBut _ _ D.TOz.symm (s2.extBut _ _ D.i1z.symm z1));exact iw z4 (by simp) λg5 _ s5=>hE g5 x (λc o y1 y2 y3 y4 e=>s5.extBut _ _ y1 (s4 _ _ y4 (k3 c o y1 y2 y3 e))) ⟨o,s5.extBut _ _ (stop _ _ _ z4 o1 o2) o1,o2⟩
set_option tactic.hygienic true in
def avh(D:ZipApart z TI TO i1 i2 l1 l2)(hz:IsZip s.heap z TI TO .none)(hI:IsPair s.heap TI (.ref i1) (.ref i2))(hO:IsPair s.heap TO p q)(a1:Lx b1 s.heap i1 l1 k)(a2:Lx b2 s.heap i2 l2 k)(c1:T6 b1 s.heap l1 xs)(c2:T6 b2 s.heap l2 ys)(ex:xs[k]?=some x)(ey:ys[k]?=some y)(hq:∀h',IsZip h' z TI TO (rawInt s.heap.objs.size)->IsPair h' TO x y->Lx b1 h' i1 l1 (k+1)->Lx b2 h' i2 l2 (k+1)->IsPair h' s.heap.objs.size x y->h'.objs.size=s.heap.objs.size+1 ->
 (∀c o,c≠z->c≠TO->c≠i1->c≠i2->s.heap.get? c=some o->h'.get? c=some o)->Q (some (.ref s.heap.objs.size)) { s with heap:=h' }):wpAny (model prog w) A (pyNext (.ref z)) Q E s:=by
 have ty:s.TypeIs (.ref z) "zip" := ⟨_,hz,rfl⟩;unfold pyNext;refine aa (wpAny_attempt (jw (name:=Str.ofString "__next__") ty F.slot_zip_next (jf F.slot_zip_next ty F.entry_zip_next ?_ (F.args_zip_next_1 _))));exact avf D hz hI hO a1 a2 c1 c2 ex ey λh' y1 y2 y3 y4 y5 y6 y7=>aj (hq h' y1 y2 y3 y4 y5 y6 y7)
set_option tactic.hygienic true in
def avi(hd:A.handled=none)(D:ZipApart z TI TO i1 i2 l1 l2)(hz:IsZip s.heap z TI TO .none)(hI:IsPair s.heap TI (.ref i1) (.ref i2))(hO:IsPair s.heap TO p q)(a1:Lx b1 s.heap i1 l1 k)(a2:Lx b2 s.heap i2 l2 k)(c1:T6 b1 s.heap l1 xs)(c2:T6 b2 s.heap l2 ys)(he:xs[k]?=none\/ys[k]?=none)(hq:∀h',(∀c o,c≠z->c≠TO->c≠i1->c≠i2->s.heap.get? c=some o->h'.get? c=some o)->Q none { s with heap:=h' }):wpAny (model prog w) A (pyNext (.ref z)) Q E s:=by
 have ty:s.TypeIs (.ref z) "zip" := ⟨_,hz,rfl⟩;unfold pyNext;refine aa (wpAny_attempt (jw (name:=Str.ofString "__next__") ty F.slot_zip_next (jf F.slot_zip_next ty F.entry_zip_next ?_ (F.args_zip_next_1 _))));refine a1g hd D hz hI hO a1 a2 c1 c2 he λh' e k ⟨o,o1,o2⟩=>?_
 exact aa (my (T := "StopIteration") (b:=true) ⟨o,o1,o2⟩ isSubtype_stop (aj (hq _ k)))
noncomputable def zH2(b1 b2:Bool)(h:Heap)(l1 l2:Addr):Heap:=(h.push (itO b1 l1)).push (itO b2 l2)
noncomputable def zH3(b1 b2:Bool)(h:Heap)(l1 l2:Addr):Heap:=(zH2 b1 b2 h l1 l2).push { cls:=.type "tuple",data:=.seq #[.ref h.objs.size,.ref (h.push (itO b1 l1)).objs.size] }
noncomputable def zH4(b1 b2:Bool)(h:Heap)(l1 l2:Addr):Heap:=(zH3 b1 b2 h l1 l2).push { cls:=.type "tuple",data:=.seq #[.none,.none] }
noncomputable def zH5(b1 b2:Bool)(h:Heap)(l1 l2:Addr):Heap:=(zH4 b1 b2 h l1 l2).push { cls:=.type "zip",data:=.fields #[.none,.bool false,.bool false,.ref (zH2 b1 b2 h l1 l2).objs.size,.ref (zH3 b1 b2 h l1 l2).objs.size] }
def abp(b1 b2:Bool)(l1 l2:Addr)(xs ys:U1) :
 Meets (Builtin.«zip.__new__» ⟨[.type "zip",.ref l1,.ref l2],[]⟩) (λ_ R s=>T6 b1 s.heap l1 xs/\T6 b2 s.heap l2 ys /\
  R (.ok (.ret (.ref (zH4 b1 b2 s.heap l1 l2).objs.size))) { s with heap:=zH5 b1 b2 s.heap l1 l2 }) :=
 .of_wp λprog w A R s h=>by
  obtain⟨hp,g,d,tk,os⟩:=s;obtain⟨hl1,hl2,h⟩:=h;have Z9:=sub_zip;have hL1:T6 b1 (Shared.heap ⟨hp,g,d,tk,os⟩) l1 xs:=hl1;have hL2:T6 b2 (Shared.heap ⟨hp.push (itO b1 l1),g,d,tk,os⟩) l2 ys:=T6.at hl2 λo e=>ao _ e
  wp_walk using apt hL1,apt hL2
  exact⟨_,rfl,h⟩
def Lx.new(e:h.get? i=some (itO b a)):Lx b h i a 0:=by
 cases b with
 |true=>exact⟨_,e,rfl,rfl⟩|false=>exact⟨_,e,rfl,rfl⟩
def avj(hl1:T6 b1 s.heap l1 xs)(hl2:T6 b2 s.heap l2 ys)(h:∀h',IsZip h' (s.heap.objs.size+4) (s.heap.objs.size+2) (s.heap.objs.size+3) .none->IsPair h' (s.heap.objs.size+2) (.ref s.heap.objs.size) (.ref (s.heap.objs.size+1)) ->
 IsPair h' (s.heap.objs.size+3) .none .none->Lx b1 h' s.heap.objs.size l1 0->Lx b2 h' (s.heap.objs.size+1) l2 0 ->
 (∀c o,s.heap.get? c=some o->h'.get? c=some o)->Q (.ref (s.heap.objs.size+4)) { s with heap:=h' }) :
 wpAny (model prog w) A (call (.type "zip") [.ref l1,.ref l2]) Q E s:=by
 refine callType_new F.called_zip (by decide) (F.typeCall_zip_2 _ _) (F.newCall_zip_2 _ _) (λobj=>F.args_object_init_3 obj _ _) F.entry_zip_new
  (abp b1 b2 l1 l2 xs ys) ⟨hl1,hl2,?_⟩
 have z1:(s.heap.push (itO b1 l1)).objs.size=s.heap.objs.size+1:=ik ..;have z2:(zH2 b1 b2 s.heap l1 l2).objs.size=s.heap.objs.size+2:=by unfold zH2;rw[ik,z1]
 have z3:(zH3 b1 b2 s.heap l1 l2).objs.size=s.heap.objs.size+3:=by unfold zH3;rw[ik,z2]
 have z4:(zH4 b1 b2 s.heap l1 l2).objs.size=s.heap.objs.size+4:=by unfold zH4;rw[ik,z3]
 have g5:(zH5 b1 b2 s.heap l1 l2).get? (zH4 b1 b2 s.heap l1 l2).objs.size=some _:=bu _ rfl;have g4:(zH5 b1 b2 s.heap l1 l2).get? (zH3 b1 b2 s.heap l1 l2).objs.size=some _:=ao _ (bu _ rfl);have g3:(zH5 b1 b2 s.heap l1 l2).get? (zH2 b1 b2 s.heap l1 l2).objs.size=some _:=ao _ (ao _ (bu _ rfl));have g2:(zH5 b1 b2 s.heap l1 l2).get? (s.heap.push (itO b1 l1)).objs.size=some _:=ao _ (ao _ (ao _ (bu _ rfl)));have g1:(zH5 b1 b2 s.heap l1 l2).get? s.heap.objs.size=some _:=ao _ (ao _ (ao _ (ao _ (bu _ rfl))));show _/\_;rw[z2,z3,z4] at g5;rw[z1,z2] at g3;rw[z3] at g4;rw[z1] at g2;rw[z4];exact⟨⟨_,g5,rfl⟩,h _ g5 g3 g4 (Lx.new g1) (Lx.new g2) λc o x =>
  ao _ (ao _ (ao _ (ao _ (ao _ x))))⟩
end EnT
namespace L2
open PySem PySem.Spec EnT
noncomputable def Izp(b1 b2:Bool)(K:Fg)(a c:Addr):It :=
 ⟨λi H=>∃xs x ys y,Zq b1 K H a xs/\xs[i]?=some x/\Zq b2 K H c ys/\ys[i]?=some y,λi H v H'=>∃p x y,v=.ref p/\H p=none/\H'=upd H p (.tup [x,y])/\(∀xs,Zq b1 K H a xs->xs[i]?=some x)/\∀ys,Zq b2 K H c ys->ys[i]?=some y,
  λi H=>∃xs ys,Zq b1 K H a xs/\Zq b2 K H c ys/\(xs.length<=i\/ys.length<=i)⟩
theorem avk{TI TO:Addr}(D:ZipApart z TI TO i1 i2 a c):Turn P w K (.Tuple ts k0 pt) (Izp b1 b2 K a c) [z,TI,TO,i1,i2] z
 (λi h=>IsZip h z TI TO .none/\IsPair h TI (.ref i1) (.ref i2)/\(∃p q,IsPair h TO p q)/\Lx b1 h i1 a i/\Lx b2 h i2 c i) where
 mem:=by simp
 obj:=λi h st e hc=>by
  obtain⟨e1,e2,⟨p,q,e3⟩,e4,e5⟩:=st;simp only[cu,qz,Ak] at hc;rcases hc with rfl|rfl|rfl|rfl|rfl
  . exact⟨_,e1,λv z=>by cases z⟩
  . exact⟨_,e2,λv z=>by cases z⟩
  . exact⟨_,e3,λv z=>by cases z⟩
  . exact e4.obj
  . exact e5.obj
 keep:=λi h h' st k=>by obtain⟨e1,e2,⟨p,q,e3⟩,e4,e5⟩:=st;exact⟨k z (by simp) _ e1,k TI (by simp) _ e2,⟨p,q,k TO (by simp) _ e3⟩,e4.at λo x=>k i1 (by simp) o x,e5.at λo x=>k i2 (by simp) o x⟩
 item:=by
  intro X hP hw hK hc i pins s σ H E I hf st hg;subst hP hw hK;obtain⟨xs,x,ys,y,hq,hx,hq2,hy⟩:=hg;obtain⟨wy,rv,p⟩:=I.abo hq;obtain⟨akg,rv2,p2⟩:=I.abo hq2;obtain⟨u,hu,ru⟩:=rv.get hx;obtain⟨u2,hu2,ru2⟩:=rv2.get hy;obtain⟨e1,e2,⟨o1,o2,e3⟩,e4,e5⟩:=st;have lt:∀b∈[z,TI,TO,i1,i2],b<s.heap.objs.size:=λb hb=>by
   simp only[cu,qz,Ak] at hb;rcases hb with rfl|rfl|rfl|rfl|rfl
   . exact az e1
   . exact az e2
   . exact az e3
   . obtain⟨o,z2,_⟩:=e4.obj;exact az z2
   . obtain⟨o,z2,_⟩:=e5.obj;exact az z2
  refine avh D e1 e2 e3 e4 e5 p p2 (x:=u) (y:=u2) (by simpa using hu) (by simpa using hu2) λh1 y1 y2 y3 y4 y5 y6 y7=>⟨_,rfl,?_⟩
  refine wpAny_letOwnedTupleGo_zip y1 λh2 w1 s2=>?_
  have s2:Heap.SameBut z h1 h2:=s2;have zl:=lt z (by simp);have t2:h2.get? s.heap.objs.size=some { cls:=.type "tuple",data:=.seq #[u,u2] }:=(s2.2 _ (u0 zl)).trans y5;refine⟨.ref s.heap.objs.size,upd H s.heap.objs.size (.tup [x,y]),I.Zo (t':=s.toks) hf (λc o hc zz=>?_) (bw _) ⟨by show 2<=sizeLine;decide,[u,u2],.cons ru (.cons ru2 .nil),⟨_,t2,rfl,_,rfl,rfl⟩⟩,rfl,
   ⟨_,x,y,rfl,I.Ad.fresh (bw _),rfl,λys hy=>by rw[I.Xa hy hq];exact hx,λys hy'=>by rw[I.Xa hy' hq2];exact hy⟩,
   ⟨w1,s2.extBut _ _ D.TIz (y7 TI _ D.TIz D.TITO D.TIi1 D.TIi2 e2),⟨u,u2,s2.extBut _ _ D.TOz y2⟩,y3.at λo zz=>s2.extBut _ o D.i1z zz,y4.at λo zz=>s2.extBut _ o D.i2z zz⟩,λc hc=>?_⟩
  . have c1:c≠z:=λq=>hc (by simp[q])
    exact s2.extBut c o c1 (y7 c o c1 (λq=>hc (by simp[q])) (λq=>hc (by simp[q])) (λq=>hc (by simp[q])) zz)
  . rw[j9 (du (lt c hc))]
    exact(hf c hc).1
 done:=by intro X hP hw hK hc i pins s σ H E I hf st hg;subst hP hw hK;obtain⟨xs,ys,hq,hq2,hx⟩:=hg;obtain⟨wy,rv,p⟩:=I.abo hq;obtain⟨akg,rv2,p2⟩:=I.abo hq2;obtain⟨e1,e2,⟨o1,o2,e3⟩,e4,e5⟩:=st;have hl:=rv.length;have hl2:=rv2.length;refine avi (I.ok.hd hc) D e1 e2 e3 e4 e5 p p2 (by simp;lia) λh' eb=>⟨rfl,I.aif (t':=s.toks) hf λc o hc zz=>eb c o (λq=>hc (by simp[q])) (λq=>hc (by simp[q])) (λq=>hc (by simp[q])) (λq=>hc (by simp[q])) zz⟩
 self:=λ_ _ _ _ _ st h=>by obtain⟨e1,_⟩:=st;exact wpAny_pyIter_zip e1 h
def a83(hg:Gl X "zip")(hm:X.mg "zip" = none)(ha:PA X [a,c] ta)(hs:starEach [a,c] X.env=(false,eval a X.env)::starEach [c] X.env)(Ib:(backTo pos (starEach [c] X.env)).any (·.1)=false) :
 PI X (.Tuple ts k0 pt) (.Call (.Name "zip" p) [a,c] [] pos) (fun σ H R=>ta σ H λvs H1=>∃b1 b2 q1 q2,vs=[.ref q1,.ref q2]/\(∃xs,Zq b1 X.K H1 q1 xs)/\(∃ys,Zq b2 X.K H1 q2 ys)/\R (Izp b1 b2 X.K q1 q2) H1):=by
 intro pins s σ H R I h;refine PyProof.Rows.Call_ (Ff I hg hm (show bootBuiltins "zip" = some (.type "zip") by decide+kernel) (ji (Bf (ha pos pins s σ H _ I h) λus s1 ⟨vs,H1,I1,r1,q1⟩=>?_) hs Ib));obtain⟨b1,b2,q1,q2,rfl,⟨xs,hq⟩,⟨ys,hq2⟩,hR⟩:=q1;cases r1 with
 |cons r rr =>
  cases rr with
  |cons r2 rr =>
   cases rr;cases r;cases r2;obtain⟨wy,rv,p⟩:=I1.abo hq;obtain⟨akg,rv2,p2⟩:=I1.abo hq2;refine avj p p2 λh' e1 e2 e3 e4 e5 kk=>?_
   refine wpAny_pyIter_zip e1 ?_;have l1:q1<s1.heap.objs.size:=by obtain⟨o,e⟩:=p.obj;exact az e
   have l2:q2<s1.heap.objs.size:=by obtain⟨o,e⟩:=p2.obj;exact az e
   refine⟨s1.heap.objs.size+4,_,_,_,H1,rfl,I1.kept (t':=s1.toks) kk,avk (b1:=b1) (b2:=b2) (PyProof.Rows.zipApart_new l1 l2),⟨e1,e2,⟨_,_,e3⟩,e4,e5⟩,λc hc=>?_,hR⟩;have hle:s1.heap.objs.size<=c:=by simp only[cu,qz,Ak] at hc;rcases hc with rfl|rfl|rfl|rfl|rfl<;>omega
   exact I1.anw hle (I1.Ad.fresh hle)
end L2
namespace Sm
open PySem L2
open MW (Ex Cz OEx Pg Br o6 Lv Tg Res di MO Jp Cp Op2 Blt Bm Kx Src)
def akt{i:Nat}(h:(MW.Bx ds 0)[i]?=some d):∃z,ds[i]?=some z/\d=.tup [.int (i:Nat),z]:=by
 unfold MW.Bx at h;rw[jb,Aa] at h;cases e:ds[i]? with
 |none=>rw[e] at h;simp at h|some z=>rw[e] at h;simp at h;exact⟨z,rfl,h.symm⟩
def aih{X:Cx}(r:lz X.K ι H ds vs)(hk:∀ι1 H1,LeX ι H ι1 H1->Zq bb X.K H1 q vs):ao7 nm X.K ι H (.con (MW.Bx ds 0)) (Ien bb X.K q):=fun ι1 H1 M1 le S1=>by
 refine⟨λi d hi hd=>?_,λ_=>⟨vs,hk ι1 H1 le,?_⟩⟩
 . obtain⟨z,e1,rfl⟩:=akt (show(MW.Bx ds 0)[i]?=some d from hd)
   obtain⟨v,g1,g2⟩:=(r.Ei le).get e1;refine⟨⟨vs,v,hk ι1 H1 le,g1⟩,λu H2 ⟨p,x,e2,e3,e4,e5⟩=>?_⟩;have ex:x=v:=by have:=e5 vs (hk ι1 H1 le);rw[g1] at this;cases this;rfl
   subst ex e2 e4;obtain⟨S2,yu,r2⟩:=K3 (X:=X) S1 e3 (.cons (.int _) (.cons g2 .nil));exact⟨yu,S2,r2⟩
 . show vs.length<=(MW.Bx ds 0).length
   rw[<- r.length];simp[MW.Bx]
def a84(hg:Gl X "enumerate")(hm:X.mg "enumerate" = none)(ha:PE X a (tE nm W X.K a'))(Vh:noStar a=true):PI X (.Tuple ts k0 pt) (.Call (.Name "enumerate" pr) [a] [] pos) (tI nm W X.K (.enm a')):=by
 intro pins s0 σ H R' I hh;obtain⟨ι,ρ,M,s,M',S,R,e,q⟩:=hh;rw[MW.aai] at e;obtain⟨x,M1,e1,e⟩:=dw e;refine PI.weak (a8z (ts:=ts) (k0:=k0) (pt:=pt) (p:=pr) (pos:=pos) hg hm (Jm ha Rr (mq Vh _ _)) (mq Vh _ _)) (wi':=fun σ0 H0 R0=>σ0=σ/\H0=H/\R0=R') (fun σ0 H0 R0 ⟨z1,z2,z3⟩=>?_) pins s0 σ H R' I ⟨rfl,rfl,rfl⟩;subst z1 z2 z3;refine Wy (es':=.cons a' .nil) (ds:=[x]) (M1:=M1) S R (by rw[MW.Ju,e1];simp) fun ι1 H1 vs le S1 R1 r=>?_
 cases r with
 |cons r1 r2 =>
  cases r2;cases r1 with
  |@tup p ds us h1 rr =>
   cases e;exact⟨true,p,rfl,⟨us,Jl.of h1⟩,q ι1 H1 _ le S1 (aih rr fun ι2 H2 yu=>Jl.of (yu.tup _ _ h1))⟩
  |@vl p ds us h1 n1 rr =>
   cases e;exact⟨false,p,rfl,⟨us,Gd.of h1⟩,q ι1 H1 _ le S1 (aih rr fun ι2 H2 yu=>Gd.of (yu.lst _ _ n1.1 h1))⟩
  |_=>cases e
set_option tactic.hygienic true in
def a1i:Cr X (binaryOp .Add) (rOp nm X.K (MW.Gf .ajm)) :=
 Cr.of aov λv u H Q ι M x y d M' S rv ru e q=>by
  have e:MW.afo x y M=.ok d M':=e;unfold MW.afo at e;split at e<;>try cases e
  rename_i xs ys h1 h2
  by_cases hl:xs.length+ys.length<=100000
  case neg=>rw[bx hl] at e;cases e
  rw[cz hl] at e;obtain⟨p,vs,rfl,g1,r1⟩:=qw S rv h1;obtain⟨p2,vs2,rfl,g2,r2⟩:=qw S ru h2;refine⟨p,p2,vs,vs2,rfl,rfl,g1,g2,by rw[<- r1.length,<- r2.length];exact iu hl Rq,λp3 h3=>?_⟩;have e:Res.ok (MW.D.ref M.length) (M++[.lst (xs++ys)])=.ok d M':=e;cases e;obtain⟨z1,z2,z3⟩:=Vq S h3 (r1.append r2);exact q _ _ _ z2 z1 z3
def avl{nm:Nm}{W:Jp}{X:Cx}{o:Expr}{o':Ex}{pos apos:Pos}{k f:Nat}{fa C:Addr}{fd:FuncData}{ps:Yf}{m:Str}{mi ci:Nat}{cl:MW.Cl}{pl:Sem Bool}(ho:PE X o (tE nm W X.K o'))(c0:Cls X.K C)(hme:Meth X.K C m fa)(F:Fi X.prog X.w X.K X.mg X.base CX0 k fa fd ps (spF nm W X.K 1 f))(hr:zr k X.A)(hb:Binds X.K fd ps [])
 (a06:∀c' cl',W.cls[c']?=some cl'->∀g,cl'.meths.lookup mi=some g->nm.cls c'=some C/\g=f) (hno:∀i,nm.fld i≠m)
 (ht:eval (.Call (.Attribute o m apos) [] [] pos) X.env=(do
  let ov <- eval o X.env
  standAt apos.atName
  let (f,first) <- holding [ov] (getMethod ov m pl)
  callWith pos f first (backTo pos (starEach [] X.env)) (backToKw pos (keywordEach [] X.env)))) :
 PE X (.Call (.Attribute o m apos) [] [] pos) (tE nm W X.K (.meth o' mi .nil)) :=
 PE.of (aog (E:=E0) ho c0 hme F hr hb .nil ah5 ht) fun σ H Q ι ρ M d M' S R e q=>by
  rw[MW.Bs] at e;obtain⟨x,M1,e1,e⟩:=dw e;rw[MW.V7] at e;refine one S R e1 fun ι1 H1 v le S1 R1 r=>?_
  obtain⟨j,hx⟩:∃j,x=.ref j:=by cases x<;>first|exact⟨_,rfl⟩|cases e
  subst hx;obtain⟨p,rfl,hp⟩:∃p,v=.ref p/\ι1.l[j]?=some p:=by cases r with|ref z=>exact⟨_,rfl,z⟩
  have e:(match M1[j]? with
   | some (.ins c _)=>(match(W.cls[c]?).bind λC=>C.meths.lookup mi with
    | some f=>W.call f [.ref j] M1|none=>.bad)
   | _=>.bad)=Res.ok d M':=e
  cases hM:M1[j]? with
  |none=>rw[hM] at e;cases e
  |some ob =>
   rw[hM] at e;cases ob with
   |ins ci fs =>
    have e:(match(W.cls[ci]?).bind λC=>C.meths.lookup mi with|some f=>W.call f [.ref j] M1|none=>.bad)=Res.ok d M':=e;cases hL:(W.cls[ci]?).bind λC=>C.meths.lookup mi with
    |none=>rw[hL] at e;cases e
    |some g =>
     rw[hL] at e;have e:W.call g [.ref j] M1=.ok d M':=e;obtain⟨cl',h1,h2⟩:=dj.mp hL;obtain⟨h3,rfl⟩:=a06 ci cl' h1 g h2;obtain⟨C',dx,l,g1,g2,g3⟩:=S1.obj j _ p hM hp;rw[h3] at g1;cases g1;exact⟨p,dx,l,rfl,g2,W2 hno g3,ι1,M1,[.ref j],d,M',S1,.cons r .nil,rfl,e,fun ι' H' v Vp S' r'=>q ι' H' v (le.trans Vp) S' r'⟩
   |_=>cases e
def avm:PS X st (tS nm W X.K (.raise ci es')):=λpins s σ H D I hh=>by obtain⟨ι,ρ,M,fl,ρ',M',S,R,e,q⟩:=hh;rw[MW.ams] at e;obtain⟨x,M1,e1,e⟩:=dw e;cases e
def axu(h:PE X a t):PE X (.BoolOp op [a] pos) t:=λpins s σ H Q I q=>PyProof.Rows.BoolOp_one (h pins s σ H Q I q)
def apu{ds:List Dv}{i:Nat}(h:((ds.zip es).map λp=>MW.D.tup [p.1,p.2])[i]?=some d):∃x y,ds[i]?=some x/\es[i]?=some y/\d=.tup [x,y]:=by rw[jb] at h;obtain⟨p,hp,rfl⟩:=cj.mp h;obtain⟨h1,h2⟩:=xu.mp hp;exact⟨_,_,h1,h2,rfl⟩
def aii{X:Cx}(r:Rep X.K ι H x v)(e:MW.aag x=some ds):∃b p us,v=.ref p/\lz X.K ι H ds us/\Zq b X.K H p us/\∀ι2 H2,LeX ι H ι2 H2->Zq b X.K H2 p us:=by
 cases r with
 |@tup p ds us h1 rr=>cases e;exact⟨true,p,us,rfl,rr,Jl.of h1,fun ι2 H2 yu=>Jl.of (yu.tup _ _ h1)⟩
 |@vl p ds us h1 n1 rr=>cases e;exact⟨false,p,us,rfl,rr,Gd.of h1,fun ι2 H2 yu=>Gd.of (yu.lst _ _ n1.1 h1)⟩
 |_=>cases e
def avn{X:Cx}(r1:lz X.K ι H ds vs)(r2:lz X.K ι H es ws)(hk1:∀ι1 H1,LeX ι H ι1 H1->Zq b1 X.K H1 q1 vs)(hk2:∀ι1 H1,LeX ι H ι1 H1->Zq b2 X.K H1 q2 ws) :
 ao7 nm X.K ι H (.con ((ds.zip es).map λp=>MW.D.tup [p.1,p.2])) (Izp b1 b2 X.K q1 q2):=fun ι1 H1 M1 le S1=>by
 refine⟨λi d hi hd=>?_,λ_=>⟨vs,ws,hk1 ι1 H1 le,hk2 ι1 H1 le,?_⟩⟩
 . obtain⟨x,y,e1,e2,rfl⟩:=apu hd
   obtain⟨v,g1,g2⟩:=(r1.Ei le).get e1;obtain⟨w,g3,g4⟩:=(r2.Ei le).get e2;refine⟨⟨vs,v,ws,w,hk1 ι1 H1 le,g1,hk2 ι1 H1 le,g3⟩,λu H2 ⟨p,x',y',e5,e6,e7,e8,e9⟩=>?_⟩;have ex:x'=v:=by have:=e8 vs (hk1 ι1 H1 le);rw[g1] at this;cases this;rfl
   have ey:y'=w:=by have:=e9 ws (hk2 ι1 H1 le);rw[g3] at this;cases this;rfl
   subst ex ey e5 e7;obtain⟨S2,yu,r2⟩:=K3 (X:=X) S1 e6 (.cons g2 (.cons g4 .nil));exact⟨yu,S2,r2⟩
 . show vs.length<=((ds.zip es).map λp=>MW.D.tup [p.1,p.2]).length\/ws.length<=((ds.zip es).map λp=>MW.D.tup [p.1,p.2]).length
   rw[<- r1.length,<- r2.length,gm,List.length_zip]
   lia
def avo(e:(Pg.zip a' c').den W ρ M=.ok s M'):∃x y ds es M1,a'.den W ρ M=.ok x M1/\c'.den W ρ M1=.ok y M'/\MW.aag x=some ds/\MW.aag y=some es/\s=.con ((ds.zip es).map λp=>MW.D.tup [p.1,p.2]):=by
 rw[MW.as3] at e;obtain⟨x,N1,e1,e⟩:=dw e;obtain⟨y,N2,e2,e⟩:=dw e;obtain⟨ds,N3,e3,e⟩:=dw e;obtain⟨es,N4,e4,e⟩:=dw e;obtain⟨e3,h3⟩:=ux e3;obtain⟨e4,h4⟩:=ux e4;injection e with e5 e6
 exact⟨x,y,ds,es,N1,e1,by rw[e2,<- h3,<- h4,e6],e3,e4,e5.symm⟩
def a85(hg:Gl X "zip")(hm:X.mg "zip" = none)(ha:PE X a (tE nm W X.K a'))(Vh:noStar a=true)(hb:PE X c (tE nm W X.K c'))(be9:noStar c=true)(Ib:(backTo pos (starEach [c] X.env)).any (·.1)=false) :
 PI X (.Tuple ts k0 pt) (.Call (.Name "zip" pr) [a,c] [] pos) (tI nm W X.K (.zip a' c')):=by
 intro pins s0 σ H R' I hh;obtain⟨ι,ρ,M,s,M',S,R,e,q⟩:=hh;obtain⟨x,y,ds,es,N1,e1,e2,e3,e4,rfl⟩:=avo e;refine PI.weak (a83 (ts:=ts) (k0:=k0) (pt:=pt) (p:=pr) (pos:=pos) hg hm (Jm ha (Jm hb Rr (mq be9 _ _)) (mq Vh _ _)) (mq Vh _ _) Ib) (wi':=fun σ0 H0 R0=>σ0=σ/\H0=H/\R0=R') (fun σ0 H0 R0 ⟨z1,z2,z3⟩=>?_) pins s0 σ H R' I ⟨rfl,rfl,rfl⟩;subst z1 z2 z3;refine Wy (es':=.cons a' (.cons c' .nil)) (ds:=[x,y]) (M1:=M') S R (by rw[MW.Ju,e1];simp[e2]) fun ι1 H1 vs le S1 R1 r=>?_
 cases r with
 |cons r1 r2 =>
  cases r2 with
  |cons r2 r3 =>
   cases r3;obtain⟨b1,p1,us1,rfl,g1,g2,g3⟩:=aii r1 e3;obtain⟨b2,p2,us2,rfl,g4,g5,g6⟩:=aii r2 e4;exact⟨b1,b2,p1,p2,rfl,⟨_,g2⟩,⟨_,g5⟩,q ι1 H1 _ le S1 (avn g1 g4 g3 g6)⟩
theorem aek:∀{xs:List Dv}{b:Bool},MW.allB xs=some b->∃bs:List Bool,xs=bs.map MW.D.bl/\b=bs.all id
 |[],b,e=>by cases e;exact⟨[],rfl,rfl⟩
 |.bl k::r,b,e=>by
  obtain⟨c,e1,rfl⟩:=cj.mp (show(MW.allB r).map (k&&·)=some b from e);obtain⟨bs,rfl,rfl⟩:=aek e1;exact⟨k::bs,rfl,by simp⟩
theorem Zr{ι:Io}{H:Hp}{K:Fg}:∀{bs:List Bool}{vs:List V}{is:Zl},lz K ι H (bs.map MW.D.bl) vs->Vals vs is->is=bs.map Value.bool
 |[],_,_,r,h=>by cases r;cases h;rfl
 |k::bs,_,_,r,h=>by
  cases r with
  |cons r1 r2 =>
   cases h with
   |cons h1 h2 =>
    cases r1;cases h1;rw[Zr r2 h2];rfl
def a86(hc:X.calm=true):Bk X (.builtin "all") (rB nm X.K .all):=λpins s σ H vs us Q I T3 hh=>by
 obtain⟨ι,M,ds,d,M',S,r,e,q⟩:=hh;obtain⟨x,rfl,e⟩:∃x,ds=[x]/\Res.qi (((MW.gf M x).bind MW.allB).map MW.D.bl) M=.ok d M':=by
  cases ds with
  |nil=>cases e
  |cons x l=>cases l with
   |nil=>exact⟨x,rfl,e⟩|cons _ _=>cases e
 obtain⟨e1,rfl⟩:=ux e;obtain⟨b,e2,rfl⟩:=cj.mp e1;obtain⟨xs,e3,e4⟩:=dj.mp e2;obtain⟨bs,rfl,rfl⟩:=aek e4;obtain⟨v,rfl,rv⟩:=G6 r rfl;obtain⟨u,rfl,ru⟩:=Qu T3;obtain⟨p,ws,rfl,hp,rl⟩:=qw S rv e3;cases ru;obtain⟨is,rvl,pl,_⟩:=I.list (Gd.of hp);have his:=Zr rl rvl;have Hb:p<s.heap.objs.size:=by obtain⟨_,e,_⟩:=pl.isList;exact az e
 refine call_all_walk (v9 pl.isList ?_);refine⟨_,_,_,_,_,_,λi=>bs.getD i true,rfl,Walks.list (A:=X.A.in1) (I.ok.hd hc) s.heap.objs.size p (du Hb) is.toArray,⟨⟨_,bu _ rfl,rfl,rfl⟩,pl.isList.push _⟩,λi v s Q E hP hQ=>?_,λh' tk hk=>?_⟩
 . have hv:is[i]?=some v:=by simpa using hP
   rw[his,jb] at hv;obtain⟨k,hk,rfl⟩:=cj.mp hv;refine j4 ?_;have hQ:Q (bs.getD i true) s:=hQ;rw[bc,hk] at hQ;exact hQ
 . have ha:(List.range is.toArray.size).all (λi=>bs.getD i true)=bs.all id:=by
    rw[his];simp only[dz,gm];rw[Av,jc,jc];constructor
    . intro h k hk
      obtain⟨i,hi,rfl⟩:=m8 hk;have:=h i (ig.mpr hi);simpa[bc,hi] using this
    . intro h i hi
      have Vg:=ig.mp hi;have:=h bs[i] (ph Vg);simpa[bc,Vg] using this
   rw[ha];exact⟨.bl _,H,I.kept (t':=tk) (old_kept hk),rfl,q ι H _ (Le.refl _ _) S (.bl _)⟩
set_option tactic.hygienic true in
def avp(e:MW.Ec .pop x ds M=.ok d M'):∃n i xs j,x=.ref n/\ds=[.int i]/\M[n]?=some (.lst xs)/\MW.O8 xs.length i=some j/\xs[j]?=some d/\M'=M.set n (.lst (xs.eraseIdx j)):=by
 unfold MW.Ec at e;split at e
 . rename_i h;cases h
 . rename_i n i
   split at e
   . rename_i xs hM
     split at e
     . rename_i j d0 hj
       cases e;obtain⟨j',h1,h2⟩:=dj.mp hj;obtain⟨d',h3,h4⟩:=cj.mp h2;cases h4;exact⟨_,_,_,_,rfl,rfl,hM,h1,h3,rfl⟩
     . cases e
   . cases e
 . rename_i h;cases h
 . rename_i h;cases h
 . rename_i h;cases h
 . cases e
def a87:MtR X "list.pop" (rM nm X.K .pop):=λpins s σ H v vs u us Q I ru T3 hh=>by
 obtain⟨ι,M,x,ds,d,M',S,r,rs,e,_,q⟩:=hh;obtain⟨n,i,xs,j,rfl,rfl,hM,h1,h2,rfl⟩:=avp e;cases r with
 |ref ha =>
  obtain⟨ys,h3,h4⟩:=S.obj n _ _ hM ha;cases rs with
  |cons hd ht =>
   cases ht;cases hd;obtain⟨w,g1,g2⟩:=h4.get h2;obtain⟨k1,k2,k3,k4⟩:=aa7 (aur h1);obtain⟨z,_⟩:=I.akh h3;have hl:xs.length=ys.length:=h4.length;rw[hl] at k1 k3 k4;have z':=z;rw[qd] at z';refine aou pins s σ H _ _ u us Q I ru T3 ⟨_,ys,i,j,w,rfl,rfl,h3,by lia,by lia,k1,g1,?_⟩;obtain⟨S2,yu⟩:=S.put (u:=.lst (ys.eraseIdx j)) (o:=.lst (xs.eraseIdx j)) hM ha λle=>⟨_,vm,(h4.mono le).eraseIdx j⟩
   exact q _ _ _ yu S2 (g2.mono yu)
end Sm
namespace Sm
open PySem L2
open MW (Ex Cz OEx Pg Br o6 Lv Tg Res di MO Jp Cp Op2 Blt Bm Kx Src)
set_option tactic.hygienic true in
def avq(e:MW.Ec .get x ds M=.ok d M'):∃n k d0,x=.ref n/\ds=[k,d0]/\M'=M/\((∃gw q,M[n]?=some (.dK gw)/\MW.Tc k=some q/\d=(MW.zg gw q).getD d0)\/∃gw q,M[n]?=some (.dT gw)/\MW.Qk k=some q/\d=(MW.zg gw q).getD d0):=by
 cases x with
 |ref n =>
  match ds,e with
  |[k,d0],e =>
   have e:(match M[n]? with
    |some (.dT gw)=>Res.qi ((MW.Qk k).map λq=>(MW.zg gw q).getD d0) M
    |some (.dK gw)=>Res.qi ((MW.Tc k).map λq=>(MW.zg gw q).getD d0) M
    | _=>.bad)=.ok d M':=e
   refine⟨n,k,d0,rfl,rfl,?_⟩;split at e
   . rename_i gw hM
     obtain⟨e1,e2⟩:=ux e;obtain⟨q,h1,h2⟩:=cj.mp e1;exact⟨e2,.inr ⟨gw,q,hM,h1,h2.symm⟩⟩
   . rename_i gw hM
     obtain⟨e1,e2⟩:=ux e;obtain⟨q,h1,h2⟩:=cj.mp e1;exact⟨e2,.inl ⟨gw,q,hM,h1,h2.symm⟩⟩
   . cases e
  |[],e=>cases e|[_],e=>cases e|_::_::_::_,e=>cases e
 |_=>cases e
set_option tactic.hygienic true in
def ty_dict{X:Cx}(S:m5 nm X.K ι H M)(r:Rep X.K ι H x v)(h:MW.Jt .get x M=true):tyV X.K "dict" v H:=by
 cases r with
 |@ref n p hp =>
  have h:(match M[n]? with|some (.dT _)=>true|some (.dK _)=>true|_=>false)=true:=h;split at h
  . rename_i hM
    obtain⟨l,h1,_⟩:=S.obj n _ p hM hp;exact .inr (.inr (.inl ⟨rfl,.inr ⟨_,h1⟩⟩))
  . rename_i hM
    obtain⟨l,h1,_⟩:=S.obj n _ p hM hp;exact .inr (.inr (.inl ⟨rfl,.inl ⟨_,h1⟩⟩))
  . cases h
 |_=>cases h
def a88(hu:X.A.units+1<cLine):MtR X "dict.get" (rM nm X.K .get):=λpins s σ H v vs u us Q I ru T3 hh=>by
 obtain⟨ι,M,x,ds,d,M',S,r,rs,e,_,q⟩:=hh;obtain⟨n,k,d0,rfl,rfl,rfl,h⟩:=avq e;cases rs with
 |cons rk rt =>
  cases rt with
  |cons rd rt =>
   cases rt;cases T3 with
   |cons hk1 ht1 =>
    cases ht1 with
    |cons hd1 ht1 =>
     cases ht1;cases r with
     |ref ha =>
      cases ru;rcases h with⟨gw,k0,hM,hk,rfl⟩|⟨gw,k0,hM,hk,rfl⟩
      . obtain⟨l,h1,h2⟩:=S.obj n _ _ hM ha
        have hy:=Tu rk hk;subst hy;refine aop hu I (Mf.k h1) hk1 hd1 λw' s' I' rw'=>⟨_,H,I',rw',q ι H _ (Le.refl _ _) S ?_⟩
        cases hl:MW.zg gw k0 with
        |none=>rw[(h2.look (k:=k0)).2 hl];exact rd|some d=>obtain⟨z,h3,h4⟩:=(h2.look (k:=k0)).1 d hl;rw[h3];exact h4
      . obtain⟨l,h1,h2⟩:=S.obj n _ _ hM ha
        obtain⟨bb,rfl,hb⟩:=Tv rk hk;refine aop hu I (Mf.t h1 hb) hk1 hd1 λw' s' I' rw'=>⟨_,H,I',rw',q ι H _ (Le.refl _ _) S ?_⟩
        cases hl:MW.zg gw k0 with
        |none=>rw[(h2.look (k:=k0)).2 hl];exact rd|some d=>obtain⟨z,h3,h4⟩:=(h2.look (k:=k0)).1 d hl;rw[h3];exact h4
set_option tactic.hygienic true in
def a1j(hr:zr 8 X.A)(hg:Gl X n)(hm:X.mg n=none)(hv:bootBuiltins n=some (.type "list"))(hn:n≠"__name__")(Vl:(n==("__debug__" : Str))=false)(hg2:Gl X tn)(hm2:X.mg tn=none)(hv2:bootBuiltins tn=some (.type "range"))(hn2:tn≠"__name__")(apq:(tn==("__debug__" : Str))=false)(ha:PA X [a] (Vn nm W X.K (.cons a' .nil)))(he:starEach [.Call (.Name tn p') [a] [] q2] X.env=(false,eval (.Call (.Name tn p') [a] [] q2) X.env)::starEach [] X.env)(Ib:(backTo q1 (starEach [] X.env)).any (·.1)=false)(he2:starEach [a] X.env=(false,eval a X.env)::starEach [] X.env)(agp:(backTo q2 (starEach [] X.env)).any (·.1)=false) :
 PE X (.Call (.Name n p) [.Call (.Name tn p') [a] [] q2] [] q1) (tE nm W X.K (.aad a')):=by
 intro pins s σ H Q I hh;obtain⟨ι,ρ,M,d,M',S,R,e,q⟩:=hh;rw[MW.acs] at e;obtain⟨x,M1,e1,e⟩:=dw e;split at e<;>try cases e
 rename_i i;split at e<;>cases e;rename_i hi;refine jm (Ff I hg hm hv ?_ hn Vl);refine ji (Q:=EP X pins σ Q) ?_ he Ib;rw[he];show wpAny _ _ (spliced ((false,eval (.Call (.Name tn p') [a] [] q2) X.env)::backTo q1 (starEach [] X.env))) _ _ s;refine Calls.spliced_cons ?_;refine jm (Ff I hg2 hm2 hv2 ?_ hn2 apq);refine ji (Bf (ha q2 pins s σ H (λvs H1=>∃ι1,vs=[.int i]/\Le ι H ι1 H1/\m5 nm X.K ι1 H1 M1) I ⟨ι,ρ,M,[.int i],M1,S,R,by simp[e1,Res.bind],fun ι1 H1 vs le S1 r=>?_⟩) λus s1 ⟨vs,H1,I1,r1,ι1,ev,Vo,S1⟩=>?_) he2 agp
 . obtain⟨v,ev,rv⟩:=G6 r rfl
   cases rv;exact⟨ι1,ev,le,S1⟩
 subst ev;obtain⟨u,rfl,ru⟩:=Qu r1;obtain⟨t,rfl⟩:=ru;refine call_range_1 ?_;show wpAny _ _ (spliced []) _ _ _;refine Calls.spliced_nil ?_;have keep:∀b o,s1.heap.get? b=some o->(s1.heap.push { cls:=.type "range",data:=.fields #[.int 0 s1.toks,.int i t,.int 1 (s1.toks+1)] }).get? b=some o:=λb o e=>ao _ e
 refine call_list_range (n:=i.toNat) hr.hd (bu _ rfl) (small_one (by lia) (by lia) (by lia) (by omega)) (by rw[rangeSize_one];split<;>lia) (by lia) λh' tk acc c' hk hS Ek=>?_
 have hsz:(s1.heap.push { cls:=.type "range",data:=.fields #[.int 0 s1.toks,.int i t,.int 1 (s1.toks+1)] }).objs.size=s1.heap.objs.size+1:=ik ..;have hS:h'.get? (s1.heap.push { cls:=.type "range",data:=.fields #[.int 0 s1.toks,.int i t,.int 1 (s1.toks+1)] }).objs.size=some { cls:=.type "list",dict:=none,data:=.seq acc c',slots:=#[] }:=hS;show EP X pins σ Q (.ref (s1.heap.push { cls:=.type "range",data:=.fields #[.int 0 s1.toks,.int i t,.int 1 (s1.toks+1)] }).objs.size) _;rw[hsz] at hS ⊢;have hz:((List.range i.toNat).map λ(k:Nat)=>V.int (k:Int)).length<=sizeLine:=by simp[qd];omega
 have hle:s1.heap.objs.size<=s1.heap.objs.size+1:=uq _
 have hf:H1 (s1.heap.objs.size+1)=none:=I1.Ad.fresh hle;have I3:Inv X pins σ (upd H1 (s1.heap.objs.size+1) (.lst ((List.range i.toNat).map λ(k:Nat)=>V.int (k:Int)))) { s1 with heap:=h',toks:=tk } :=
  I1.laid (a:=s1.heap.objs.size+1) (t':=tk) (λb o e=>hk b o (keep b o e)) hle (show Be X.prog X.w _ _ _ (.lst _) from⟨hz,acc.toList,c',W8 Ek,by simpa using hS⟩)
 obtain⟨S2,yu,r2⟩:=Vq (X:=X) S1 hf (W9 i.toNat);exact⟨.ref (s1.heap.objs.size+1),_,I3,rfl,q _ _ _ (Vo.trans yu) S2 r2⟩
def avr(hh:A.handled=none)(hl:s.heap.IsList l (intItems xs))(h:∀h' tk t',(∀b o,s.heap.get? b=some o->h'.get? b=some o)->Q (.int (preSum (numAt xs) xs.size) t') { s with heap:=h',toks:=tk }) :
 wpAny (model prog w) A (call (.builtin "sum") [.ref l]) Q E s:=by
 have hsz:(intItems xs).size=xs.size:=by simp[intItems]
 refine call_sum_walkAnyS (iter_intList hl λs₂ e st hfp hlI=>?_);subst e;have W:=(Walks.list (prog:=prog) (w:=w) (A:=A.in1) hh s.heap.objs.size l hlI (intItems xs)).toS;rw[hsz] at W;refine⟨s.heap.objs.size,_,_,_,_,_,_,numAt xs,rfl,W,st,hfp,λi v hP=>intItems_at hP,λs' t' hm=>?_⟩;obtain⟨h',g',d',tk',os'⟩:=s';have e1:g'=s.gens:=hm.gens;have e2:d'=s.drawn:=hm.drawn;have e3:os'=s.os:=hm.os;subst e1 e2 e3;exact h h' tk' t' (old_kept hm.heap)
def avs(e:MW.uc .sum ds M=.ok d M'):∃x xs ns,ds=[x]/\MW.yr M x=some xs/\MW.Va xs=some ns/\d=.int ns.sum/\M'=M:=by
 match ds,e with
 |[x],e =>
  have e:Res.qi (((MW.yr M x).bind MW.Va).map λis=>MW.D.int is.sum) M=.ok d M':=e;obtain⟨e1,e2⟩:=ux e;obtain⟨ns,e3,e4⟩:=cj.mp e1;obtain⟨xs,e5,e6⟩:=dj.mp e3;exact⟨x,xs,ns,rfl,e5,e6,e4.symm,e2⟩
 |[],e=>cases e|_::_::_,e=>cases e
def a89(hc:X.calm=true):Bk X (.builtin "sum") (rB nm X.K .sum):=λpins s σ H vs us Q I T3 hh=>by
 obtain⟨ι,M,ds,d,M',S,r,e,q⟩:=hh;obtain⟨x,xs,ns,rfl,e1,e2,rfl,rfl⟩:=avs e;obtain⟨v,rfl,rv⟩:=G6 r rfl;obtain⟨u,rfl,ru⟩:=Qu T3;obtain⟨p,ws,rfl,hp,rl⟩:=Fj S rv e1;cases ru;have fin:∀(xa:Array (Int×Tok)),xa.toList.map (·.1)=ns->∀h' tk t',(∀b o,s.heap.get? b=some o->h'.get? b=some o)->EP X pins σ Q (.int (preSum (numAt xa) xa.size) t') { s with heap:=h',toks:=tk }:=λxa g2 h' tk t' keep=>by
  have z:preSum (numAt xa) xa.size=ns.sum:=by rw[preSum_eq,zb (by simp),g2]
  rw[z];exact⟨.int _,H,I.kept keep,⟨t',rfl⟩,q ι H _ (Le.refl _ _) S (.int _)⟩
 rcases hp with hp|hp
 . obtain⟨is,rvl,pl,_⟩:=I.list (Gd.of hp)
   obtain⟨xa,g1,g2⟩:=ints_rep rl rvl e2;exact avr (I.ok.hd hc) (by rw[<- g1];exact pl.isList) (fin xa g2)
 . obtain⟨is,rvl,pl,_⟩:=I.tuple (Jl.of hp)
   obtain⟨xa,g1,g2⟩:=ints_rep rl rvl e2;exact PySem.W.ktm_sumG (I.ok.hd hc) (by rw[<- g1];exact pl) (fin xa g2)
def tup_is(I:Inv X pins σ H s)(r:RelV (.ref p) v)(h:H p=some (.tup vs)):s.TypeIs v "tuple"/\∀a,v=.ref a->∃ob,s.heap.get? a=some ob/\ob.dict=none:=by cases r;obtain⟨_,_,_,o,h1,h2,_,_,h3⟩:=(show Be X.prog X.w H s.heap p (.tup vs) from I.Ad p _ h);exact⟨⟨o,h1,h2⟩,λa e=>by cases e;exact⟨o,h1,h3⟩⟩
set_option tactic.hygienic true in
theorem a9a{id:String}(hT:∀x M,MW.Jt m x M=true->∃ds,x=.tup ds)(hi:m≠.index)(pa:PlainAttrs "tuple")(slot:Slot "tuple" name id)(hty:typeOf (.builtin id)=pure (.type "method_descriptor"))(hm:MtR X id (rM nm X.K m))(ho:PE X o (tE nm W X.K o'))(ha:PA X (e::es) (Vn nm W X.K es'))(adt:attributeBase o name X.env (eval o X.env)=eval o X.env)(aot:((backTo Mg (starEach (e::es) X.env)).all (λx=>!x.1)&&(backToKw Mg (keywordEach [] X.env)).all (λx=>x.1.isSome)
&&decide ((e::es).length+([]:List Keyword).length+(if([]:List Keyword).isEmpty then 0 else 1)<30))=true)(adu:(apos.endLine==Mg.line)=true)(hs:starEach (e::es) X.env=(false,eval e X.env)::starEach es X.env)(Wq:(backTo Mg (starEach es X.env)).any (·.1)=false) :
 PE X (.Call (.Attribute o name apos) (e::es) [] Mg) (tE nm W X.K (.bm m o' es')):=by
 intro pins s σ H Q I hh;obtain⟨ι,ρ,M,d,M',S,R,e0,q⟩:=hh;rw[MW.amq] at e0;obtain⟨x,M1,e1,e0⟩:=dw e0;split at e0
 . rename_i ht
   obtain⟨ds,M2,e2,e0⟩:=dw e0;obtain⟨ts,rfl⟩:=hT _ _ ht;refine wpAny_Call_method_late adt aot adu rfl (Bf (ho pins s σ H (λv H1=>(∃p vs,v=.ref p/\H1 p=some (.tup vs))/\Vn nm W X.K es' σ H1 λvs H2=>rM nm X.K m v vs H2 Q) I (one S R e1 fun ι1 H1 v le S1 R1 r=>?_)) λv s1 ⟨xv,H1,I1,r1,⟨p,vs,ev,hp⟩,q1⟩=>?_)
   . refine⟨?_,ι1,ρ,M1,ds,M2,S1,R1,e2,fun ι2 H2 vs yu S2 rs=>⟨ι2,M2,.tup ts,ds,d,M',S2,r.mono yu,rs,e0,λ_ _=>hi,fun ι' H' w Vp S' r'=>q ι' H' w ((le.trans yu).trans Vp) S' r'⟩⟩
     cases r with
     |tup h1 h2=>exact⟨_,_,rfl,h1⟩
   . subst ev
     obtain⟨h1,h2⟩:=tup_is I1 r1 hp;refine⟨"tuple",id,pa,slot,hty,h1,h2,?_⟩;have hA:=ha Mg pins s1 σ H1 _ I1 q1;rw[hs] at hA ⊢;refine Calls.callWith_builtin (by show(false||(backTo Mg (starEach es X.env)).any (·.1))=false;rw[Wq]<;>rfl) (Calls.evalArgs_plain ?_);exact Bf hA λus s2 ⟨vs,H2,I2,r2,q2⟩=>hm pins s2 σ H2 _ vs v us Q I2 r1 r2 q2
 . cases e0
end Sm
namespace PySem.SeqAt
open AutoSeq1 (wpAny_loadPart')
open MeetsSeq MeetsSeq2 MeetsSeq3 SeqRoads2
def apv(I:Nat->β->Shared->Prop)(turn:∀i c s,i<b->I i c s->wpAny M A (f i c) (λr s'=>match r with|.yield c'=>I (i+1) c' s'|.done c'=>Q c' s') E s)(fin:∀c s,I b c s->Q c s)(init:I 0 c s):wpAny M A (forIn [:b] c f) Q E s:=by
 rw[u5];have hsz:([:b]:Std.Legacy.Range).size=b:=by simp[Std.Legacy.Range.size]
 show wpAny M A (forIn (List.range' 0 ([:b]:Std.Legacy.Range).size 1) c f) Q E s;rw[hsz];refine rz f (λl c s=>∃i,i<=b/\l=List.range' i (b-i) 1/\I i c s) Q ?_ ?_ _ c ⟨0,j5 _,by simp,init⟩
 . rintro x rest c s ⟨i,hi,hl,h⟩
   have Hb:i<b:=by
    rcases Bb i b with z|z
    . exact z
    . rw[show b-i=0 by lia] at hl;simp at hl
   obtain⟨n,hn⟩:∃n,b-i=n+1:=⟨b-i-1,by lia⟩;rw[hn,List.range'_succ] at hl;obtain⟨rfl,rfl⟩:=List.cons.inj hl;refine j7 (turn x c s Hb h) (λr s' h'=>?_) λ_ _ z=>z
   cases r with
   |done c'=>exact h'|yield c'=>exact⟨x+1,Hb,by congr 1;lia,h'⟩
 . rintro c s ⟨i,hi,hl,h⟩
   have:i=b:=by
    rcases Bb i b with z|z
    . obtain⟨n,hn⟩:∃n,b-i=n+1:=⟨b-i-1,by lia⟩
      rw[hn,List.range'_succ] at hl;simp at hl
    . exact u_ hi z
   subst this;exact fin _ _ h
def Ye(l:Addr)(items:U1)(n:Nat)(dd:Option Addr)(sl:Array (Option Value))(x:Value)(e:Value->Bool)(j:Nat)(hj:j<items.size)
 (hit:e items[j]=true) (hno:∀m (hm:m<items.size),m<j->e items[m]=false) :
 Meets (Builtin.«tuple.index» ⟨[.ref l,x],[]⟩)
  (λA R s=>s.heap.get? l=some { cls:=.type "tuple",dict:=dd,data:=.seq items n,slots:=sl }/\(∀y,y∈items->EqAt A.in1 s y x (e y))/\R (.ok (.ret (.int j s.toks))) { s with toks:=s.toks+1 }) :=
 .of_wp λprog w A R s h=>by
  obtain⟨hp,g,d,tk,os⟩:=s;obtain⟨hl,he,h⟩:=h
  wp_walk using wpAny_loadPart' hl,apv (λi b s'=>b.1=none/\s'=⟨hp,g,d,tk,os⟩/\i<=j)
  case turn =>
   rintro i b s' hi ⟨hb,rfl,hij⟩;have Vg:i<items.size:=c_ hij hj
   rw[show items[i]?=some items[i] from Array.getElem?_eq_getElem Vg];refine aa (he _ (Array.getElem_mem Vg) prog w _ _ ?_);rcases Bb i j with z|z
   . rw[hno i Vg z]
     wp_walk
     exact⟨rfl,rfl,z⟩
   . obtain rfl:i=j:=u_ hij z
     rw[hit]
     wp_walk
     exact⟨_,rfl,h⟩
  case fin =>
   rintro b s' ⟨hb,rfl,hij⟩
   lia
  case init=>exact⟨rfl,rfl,j5 _⟩
end PySem.SeqAt
namespace Sm
open PySem L2
open MW (Ex Cz OEx Pg Br o6 Lv Tg Res di MO Jp Cp Op2 Blt Bm Kx Src)
def apw(e:MW.Ec .Hd x ds M=.ok d M'):∃d0 xs j,ds=[d0]/\x=.tup xs/\MW.Q3 M d0 xs=some j/\d=.int ((j:Nat):Int)/\M'=M:=by
 cases x with
 |tup xs =>
  match ds,e with
  |[d0],e =>
   have e:Res.qi ((MW.Q3 M d0 xs).map λj=>MW.D.int ((j:Nat):Int)) M=.ok d M':=by rw[<- e];simp only[MW.Ec];generalize MW.Q3 M d0 xs=z;cases z<;>rfl
   obtain⟨e1,e2⟩:=ux e;obtain⟨j,e3,e4⟩:=cj.mp e1;exact⟨d0,xs,j,rfl,rfl,e3,e4.symm,e2⟩
  |[],e=>cases e|_::_::_,e=>cases e
 |_=>cases e
def apx(hr:zr 8 X.A):MtR X "tuple.index" (rM nm X.K .Hd):=λpins s σ H v vs u us Q I ru T3 hh=>by
 obtain⟨ι,M,x,ds,d,M',S,r,rs,e,nt,q⟩:=hh;obtain⟨d0,xs,j,rfl,rfl,e2,rfl,rfl⟩:=apw e;cases rs with
 |cons hd ht =>
  cases ht;cases T3 with
  |cons hu ht2 =>
   cases ht2;obtain⟨bs,e3,e4⟩:=dj.mp (show(MW.O7 M' d0 xs).bind (·.findIdx? id)=some j from e2);cases r with
   |tup hp rl =>
    cases ru;obtain⟨z,is,rv,⟨cls,dd,data,sl⟩,hg,hc,n,hda,hdi⟩:=(show Be X.prog X.w H s.heap _ (.tup _) from I.Ad _ _ hp);simp only at hc hda;subst hc hda;obtain⟨f,g1,g2⟩:=Ow (A:=X.A.in1) I S ((hr.mono (by decide:7<=8)).in1) rl rv hd hu e3;obtain⟨f1,f2⟩:=Ry e4;have hlen:is.length=bs.length:=by rw[(Dk e3).1,rl.length,rv.length]
    have lj:j<is.length:=by rw[hlen];exact(ak.mp f1).1
    have fa:∀m (hm:m<is.length),bs[m]?=some (f is[m]):=λm hm=>g2 m _ (bz hm)
    refine call_meetsIn F.slot_tuple_index ⟨_,hg,rfl⟩ F.entry_tuple_index (F.args_tuple_index_2 _ _) (λA R s h=>SeqAt.Ye _ is.toArray n dd sl _ f j (by simpa using lj) ?_ ?_ _ _ A R s h) ⟨hg,g1,?_⟩
    . have:=fa j lj;rw[f1] at this;simpa using(jd this).symm
    . intro m hm hmj
      have hm:m<is.length:=by simpa using hm
      have:=fa m hm;rw[f2 m hmj] at this;simpa using(jd this).symm
    . exact⟨.int j,H,I.tok _,⟨_,rfl⟩,q ι H _ (Le.refl _ _) S (.int _)⟩
end Sm
namespace Sm
open PySem L2
open MW (Ex Cz OEx Pg Br o6 Lv Tg Res di MO Jp Cp Op2 Blt Bm Kx Src)
theorem Xb(x:Int):∀l,(MW.insI x l).Perm (x::l)
 |[]=>yo _
 |y::l=>by
  unfold MW.insI;split
  . exact yo _
  . exact((Xb x l).cons y).trans (List.Perm.swap x y l)
theorem Oz:∀l,(MW.sortI l).Perm l
 |[]=>yo _|x::l=>(Xb x _).trans ((Oz l).cons x)
theorem apy(x:Int):∀{l:Xs},l.Pairwise (·<=·)->(MW.insI x l).Pairwise (·<=·)
 |[],_=>List.pairwise_singleton _ _
 |y::l,h=>by
  obtain⟨h1,h2⟩:=zf.mp h;unfold MW.insI;split
  . refine zf.mpr ⟨λz hz=>?_,h⟩
    rcases cu.mp hz with rfl|hz
    . lia
    . have:=h1 z hz;lia
  . refine zf.mpr ⟨λz hz=>?_,apy x h2⟩
    rcases cu.mp ((Xb x l).mem_iff.mp hz) with rfl|hz
    . lia
    . exact h1 z hz
theorem aij:∀l,(MW.sortI l).Pairwise (·<=·)
 |[]=>List.Pairwise.nil|x::l=>apy x (aij l)
set_option tactic.hygienic true in
theorem abq(k:Int):∀l,k∈MW.Ag l↔k∈l
 |[]=>Iff.rfl
 |x::l=>by
  unfold MW.Ag;split
  . rename_i h
    rw[abq k l,cu];exact⟨.inr,λz=>z.elim (λe=>e▸h) id⟩
  . rw[cu,cu,abq k l]
set_option tactic.hygienic true in
theorem agq:∀l,(MW.Ag l).Nodup
 |[]=>xg
 |x::l=>by
  unfold MW.Ag;split
  . exact agq l
  . rename_i h
    exact mj.mpr ⟨λz=>h ((abq x l).mp z),agq l⟩
theorem apz:∀l,(MW.Ag l).length<=l.length
 |[]=>bw _
 |x::l=>by
  have:=apz l;unfold MW.Ag;split<;>simp<;>omega
theorem axv:∀{a b:Xs},a.Pairwise (·<=·)->b.Pairwise (·<=·)->a.Nodup->b.Nodup->(∀k,k∈a↔k∈b)->a=b
 |[],[],_,_,_,_,_=>rfl|[],y::b,_,_,_,_,h=>nomatch(h y).mpr dh|x::a,[],_,_,_,_,h=>nomatch(h x).mp dh
 |x::a,y::b,ha,hb,na,nb,h=>by
  obtain⟨a1,a2⟩:=zf.mp ha;obtain⟨b1,b2⟩:=zf.mp hb;obtain⟨c1,c2⟩:=mj.mp na;obtain⟨d1,d2⟩:=mj.mp nb;have e:x=y:=by
   rcases cu.mp ((h x).mp dh) with e|m
   . exact e
   . rcases cu.mp ((h y).mpr dh) with e|m'
     . exact e.symm
     . have:=b1 x m;have:=a1 y m';lia
  subst e
  congr 1
  refine axv a2 b2 c2 d2 λk=>⟨λm=>?_,λm=>?_⟩
  . rcases cu.mp ((h k).mp (bh _ m)) with rfl|m'
    . exact absurd m c1
    . exact m'
  . rcases cu.mp ((h k).mpr (bh _ m)) with rfl|m'
    . exact absurd m d1
    . exact m'
def avt(h1:ns.Pairwise (·<=·))(h2:ns.Nodup)(h3:∀k,k∈l↔k∈ns):ns=MW.sortI (MW.Ag l) :=
 axv h1 (aij _) h2 ((Oz _).nodup_iff.mpr (agq l)) λk=>by rw[(Oz _).mem_iff,abq,h3]
theorem ael{ι:Io}{H:Hp}{K:Fg}:∀{ds:List Dv}{vs:List V}{is:Zl}{ns:Xs},lz K ι H ds vs->Vals vs is->MW.Va ds=some ns->PyProof.Rows.IntsAre is ns
 |_,_,_,_,.nil,.nil,h=>by cases h;exact .nil
 |_,_,_,_,.cons r t,.cons rv tv,h=>by
  cases r<;>simp only[MW.Va] at h<;>try cases h
  obtain⟨ns',e1,e2⟩:=cj.mp h;subst e2;obtain⟨tk,rfl⟩:=rv;exact .cons _ _ (ael t tv e1)
theorem aem:∀{is:Zl}{ns:Xs},PyProof.Rows.IntsAre is ns->Vals (ns.map V.int) is
 |_,_,.nil=>.nil|_,_,.cons n t h=>.cons ⟨t,rfl⟩ (aem h)
theorem Zt{ι:Io}{H:Hp}{K:Fg}:∀ns:List Int,lz K ι H (ns.map MW.D.int) (ns.map V.int)
 |[]=>.nil|n::ns=>.cons (.int n) (Zt ns)
set_option tactic.hygienic true in
def aen(e:MW.uc .Fq ds M=.ok d M'):∃x xs ns,ds=[x]/\MW.gf M x=some xs/\MW.Va xs=some ns/\ns.length<31/\d=.vl ((MW.sortI (MW.Ag ns)).map MW.D.int)/\M'=M:=by
 match ds,e with
 |[x],e =>
  have e:Res.qi (((MW.gf M x).bind MW.Va).bind λis=>if is.length<31 then some (MW.D.vl ((MW.sortI (MW.Ag is)).map MW.D.int)) else none) M=.ok d M':=e;obtain⟨e1,e2⟩:=ux e;obtain⟨ns,e3,e4⟩:=dj.mp e1;obtain⟨xs,e5,e6⟩:=dj.mp e3;split at e4
  . rename_i hl
    exact⟨x,xs,ns,rfl,e5,e6,hl,(jd e4).symm,e2⟩
  . cases e4
 |[],e=>cases e|_::_::_,e=>cases e
def aku(hr:zr 8 X.A)(hg:Gl X n)(hm:X.mg n=none)(hv:bootBuiltins n=some (.builtin "sorted"))(hn:n≠"__name__")(Vl:(n==("__debug__" : Str))=false)(hg2:Gl X tn)(hm2:X.mg tn=none)(hv2:bootBuiltins tn=some (.type "set"))(hn2:tn≠"__name__")(apq:(tn==("__debug__" : Str))=false)(ha:PA X [a] (Vn nm W X.K (.cons a' .nil)))(he:starEach [.Call (.Name tn p') [a] [] q2] X.env=(false,eval (.Call (.Name tn p') [a] [] q2) X.env)::starEach [] X.env)(Ib:(backTo q1 (starEach [] X.env)).any (·.1)=false)(he2:starEach [a] X.env=(false,eval a X.env)::starEach [] X.env)(agp:(backTo q2 (starEach [] X.env)).any (·.1)=false) :
 PE X (.Call (.Name n p) [.Call (.Name tn p') [a] [] q2] [] q1) (tE nm W X.K (.blt .Fq (.cons a' .nil))):=by
 intro pins s σ H Q I hh;obtain⟨ι,ρ,M,d,M',S,R,e,q⟩:=hh;rw[MW.ahf] at e;obtain⟨ds,M1,e1,e⟩:=dw e;obtain⟨x,xs,ns,rfl,e2,e3,hl,rfl,rfl⟩:=aen e;refine jm (Ff I hg hm hv ?_ hn Vl);refine PyProof.Rows.callWith_builtin1 (Q:=EP X pins σ Q) ?_ he Ib;rw[he];show wpAny _ _ (spliced ((false,eval (.Call (.Name tn p') [a] [] q2) X.env)::backTo q1 (starEach [] X.env))) _ _ s;refine Calls.spliced_cons ?_;refine jm (Ff I hg2 hm2 hv2 ?_ hn2 apq);refine ji (Bf (ha q2 pins s σ H (λvs H1=>∃ι1 v,vs=[v]/\Rep X.K ι1 H1 x v/\Le ι H ι1 H1/\m5 nm X.K ι1 H1 M') I ⟨ι,ρ,M,[x],M',S,R,e1,fun ι1 H1 vs le S1 r=>?_⟩) λus s1 ⟨vs,H1,I1,r1,ι1,v,ev,rx,Vo,S1⟩=>?_) he2 agp
 . obtain⟨v,ev,rv⟩:=G6 r rfl
   exact⟨ι1,v,ev,rv,le,S1⟩
 subst ev;obtain⟨u,rfl,ru⟩:=Qu r1;obtain⟨p,ws,rfl,hp,rl⟩:=qw S1 rx e2;cases ru;obtain⟨is,rvl,pl,_⟩:=I1.list (Gd.of hp);refine Xx.ajk hr.hd pl.isList (by simpa using ael rl rvl e3) hl λh' tk n' keep hS Om=>?_
 show wpAny _ _ (spliced []) _ _ _;refine Calls.spliced_nil ?_;refine Xx.aco (s:={ s1 with heap:=h',toks:=tk }) hr.hd hS (c_ Om hl) λh2 tk2 p2 out ms aib hp2 hI2 so nd mem ⟨c,g⟩=>?_
 obtain rfl:=avt so nd mem;obtain⟨o9,_,_,_,g9,_⟩:=hS.get;have hz1:s1.heap.objs.size<=p2:=iu (Af (az g9)) hp2
 have hf:H1 p2=none:=I1.Ad.fresh hz1;have hzl:((MW.sortI (MW.Ag ns)).map V.int).length<=sizeLine:=by rw[gm,(Oz _).length_eq,qd];have:=apz ns;exact e_ (c_ this (b_ hl (by decide)))
 have I3:Inv X pins σ (upd H1 p2 (.lst ((MW.sortI (MW.Ag ns)).map V.int))) { s1 with heap:=h2,toks:=tk2 } :=
  I1.laid (a:=p2) (t':=tk2) (λb o e=>aib b o (keep b o e)) hz1 (show Be X.prog X.w _ _ _ (.lst _) from⟨hzl,out.toList,c,aem hI2,by simpa using g⟩)
 obtain⟨S2,yu,r2⟩:=abg (X:=X) S1 hf (Zt _);exact⟨.ref p2,_,I3,rfl,q _ _ _ (Vo.trans yu) S2 r2⟩
open MW (Ex Cz OEx Pg Br o6 Lv Tg Res di MO Jp Cp Op2 Blt Bm Kx)
section
variable{nm:Nm}{X:Cx}
set_option tactic.hygienic true in
def ap0(rx:Rep K ι H x v)(ry:Rep K ι H y u)(rv:RelV v v')(ru:RelV u u')(e:MW.asq x y=some k):plainIs v' u'=true/\(v'==u')=k:=by
 cases rx<;>try(cases e;done)
 cases ry<;>try(cases e;done)
 rename_i b c;cases rv;cases ru;cases e;cases b<;>cases c<;>exact⟨rfl,rfl⟩
def avu:Cr X (compareOp .IsNot) (Ww nm X.K .Yp):=λpins s σ H v u v' u' Q I rv ru hh=>by obtain⟨ι,M,x,y,b,S,rx,ry,e,q⟩:=hh;have e:(MW.asq x y).map not=some b:=e;obtain⟨c,e1,rfl⟩:=cj.mp e;obtain⟨p,ev⟩:=ap0 rx ry rv ru e1;exact wpAny_isNot_plain p (ye I q (by rw[ev]))
end
end Sm
namespace Ck
open PySem L2 Sm
open MW (Ex Cz OEx Pg Br o6 Lv Tg Res di MO Jp Cp Op2 Blt Bm Kx Src)
structure Tab where
 fns:List (Option (Str×Nat))
 cls:List (Option (Str×Nat))
 mts:List (Str×Nat)
 Qv:List Str
 avv:List (Str×Int)
noncomputable def Ob:List Str:=["len", "tuple", "list", "dict", "max", "min", "isinstance", "range", "enumerate", "set", "zip", "all", "bool", "int", "sum", "sorted"]
structure ap1(T:Tab)(nm:Nm)(W:Jp)(k:Nat)(P:Program)(w:World)(K:Fg)(mg:Zs)(base:Heap):Prop where
 fn:∀f x n,T.fns[f]?=some (some (x,n))->∃fa fd ps,Fi P w K mg base CX0 k fa fd ps (spF nm W K n f)/\mg x=some (.ref fa)/\PySem.W.keepIn K (.ref fa)=true/\Binds K fd ps []
 cl:∀c x n,T.cls[c]?=some (some (x,n))->∃C fa fd ps cl,Mk K C fa/\Fi P w K mg base CX0 k fa fd ps (spF nm W K (n+1) cl.init)/\mg x=some (.ref C)/\Binds K fd ps []/\W.cls[c]?=some cl/\nm.cls c=some C
 mt:∀m x n,T.mts[m]?=some (x,n)->∃C fa fd ps f,Cls K C/\Meth K C x fa/\Fi P w K mg base CX0 k fa fd ps (spF nm W K (n+1) f)/\Binds K fd ps [] /\
  (∀c' cl',W.cls[c']?=some cl'->∀g,cl'.meths.lookup m=some g->nm.cls c'=some C/\g=f)/\∀i,nm.fld i≠x
 fl:∀f x,T.Qv[f]?=some x->x=nm.fld f/\∀c C,nm.cls c=some C->Cls K C/\Gu K C x
 cs:∀x i,(x,i)∈T.avv->∃t,mg x=some (.int i t)
 bt:∀x∈Ob,mg x=none
structure Ctx where
 N:List Str
 sc:List (Str×NameKind)
 fn:Bool
 own:List Str
structure Ef(T:Tab)(nm:Nm)(W:Jp)(k:Nat)(c:Ctx)(X:Cx):Prop where
 N:X.N=c.N
 nd:c.N.Nodup
 sc:X.env.scope.names=c.sc
 kd:X.env.scope.kind=.function
 calm:X.calm=true
 room:zr (k+16) X.A
 fnl:c.fn=true->(∀n,X.fn n=true)/\PassesOwn (model X.prog X.w) X.A X.env X.xe
 tab:ap1 T nm W k X.prog X.w X.K X.mg X.base
 ow:∀n,c.own.contains n=true->X.fn n=true
noncomputable def Xc(n:Str):Bool:=!(n==("__debug__" : Str))&&(!(n==("__classdict__" : Str))&&!(n==("__name__" : Str)))
noncomputable def akv(c:Ctx)(n:Str):Bool:=match c.sc.lookup n with|some .local=>true|some .cell=>true|some .free=>true|_=>false
noncomputable def a1k(c:Ctx)(n:Str):Bool:=match c.sc.lookup n with|some .local=>true|some .cell=>c.fn||c.own.contains n|_=>false
noncomputable def glB(c:Ctx)(n:Str):Bool:=Xc n&&(match c.sc.lookup n with|some .globalImplicit=>true|_=>false)
noncomputable def ail(c:Ctx)(i:Nat)(n:Str):Bool:=match c.N[i]? with|some m=>m==n|none=>false
noncomputable def zp:List Expr->Bool
 |[]=>true|e::r=>noStar e&&zp r
noncomputable def Xd:Expr->Bool
 |.Name ..=>true|.Attribute ..=>true|.Subscript ..=>true|.Call (.Attribute ..) ..=>true|_=>false
def vz(h:Xc n=true):(n==("__debug__" : Str))=false/\(n==("__classdict__" : Str))=false/\n≠"__name__" := by simp only[Xc,au,Bool.not_eq_true'] at h;exact⟨h.1,h.2.1,λz=>by have:=h.2.2;rw[z] at this;simp at this⟩
set_option tactic.hygienic true in
def a1l(h:Ef T nm W k c X)(hv:akv c n=true):Vis X.env.scope n:=by unfold Vis;rw[h.sc];unfold akv at hv;split at hv<;>rename_i e<;>first|exact .inl e|exact .inr (.inl e)|exact .inr (.inr e)|cases hv
set_option tactic.hygienic true in
def a1m(h:Ef T nm W k c X)(hv:a1k c n=true):L2.Loc X.env.scope n/\(X.fn n=true\/X.env.scope.names.lookup n=some .local):=by
 unfold L2.Loc;rw[h.sc];unfold a1k at hv;split at hv
 . rename_i e;exact⟨.inl e,.inr e⟩
 . rename_i e;rcases(Bool.or_eq_true _ _).mp hv with z|z
   . exact⟨.inr e,.inl ((h.fnl z).1 n)⟩
   . exact⟨.inr e,.inl (h.ow n z)⟩
 . cases hv
set_option tactic.hygienic true in
def Ja(h:Ef T nm W k c X)(hv:glB c n=true):Gl X n/\Xc n=true:=by
 unfold glB at hv;rw[au] at hv;refine⟨?_,hv.1⟩;have hv:=hv.2;unfold Gl Env.kindOf;rw[h.sc];split at hv
 . rename_i e;exact e
 . cases hv
set_option tactic.hygienic true in
def slot_of(h:Ef T nm W k c X)(hv:ail c i n=true):X.N[i]?=some n:=by
 rw[h.N];unfold ail at hv;split at hv
 . rename_i m e;rw[e,eq_of_beq hv]
 . cases hv
theorem Xe{env:Env}:∀{es:Ya},zp es=true->starEach es env=es.map λe=>(false,eval e env)
 |[],_=>rfl
 |e::r,h=>by
  simp only[zp,au] at h;rw[mq h.1,Xe h.2];rfl
def vg(h:zp es=true):(backTo pos (starEach es env)).any (·.1)=false:=by rw[Xe h];simp[backTo]
def Xf(h:zp es=true):(backTo pos (starEach es env)).all (λx=>!x.1)=true:=by rw[Xe h];simp[backTo]
set_option tactic.hygienic true in
def Fz(h:Xd o=true):attributeBase o n env (eval o env)=eval o env:=by
 cases o<;>try first|rfl|(cases h;done)
 rename_i f as kws p;cases f<;>first|rfl|(cases h)
def aim(h:Xd o=true)(hs:zp es=true)(hl:es.length<29)(hp:(apos.endLine==pos.line)=true) :
 eval (.Call (.Attribute o m apos) es [] pos) env=(do
  let ov <- eval o env
  standAt apos.atName
  let (f,first) <- holding [ov] (getMethod ov m (do return (<- importBound o env).getD true))
  callWith pos f first (backTo pos (starEach es env)) (backToKw pos (keywordEach [] env))):=by
 have hf:methodCallForm (es.length+0) (backTo pos (starEach es env)) (backToKw pos (keywordEach [] env))=true:=by unfold methodCallForm;rw[Xf hs];simp[keywordEach,backToKw];exact b_ hl (by decide)
 show(do
  let ov <- attributeBase o m env (eval o env)
  standAt apos.atName
  methodCall o m apos pos env ov (es.length+0) (backTo pos (starEach es env)) (backToKw pos (keywordEach [] env)))=_
 rw[Fz h];unfold methodCall;rw[hf];have hq:methodCallPos true o env apos pos=pure pos:=by unfold methodCallPos;rw[hp];rfl
 rw[hq];simp only[calleeOf,jy,pure_bind]
noncomputable def Cv{α:Type}(o:Option α)(f:α->Bool):Bool:=match o with|some x=>f x|none=>false
def jz(h:Cv o f=true):∃x,o=some x/\f x=true:=by
 cases o with
 |none=>cases h|some x=>exact⟨x,rfl,h⟩
noncomputable def Qw{α:Type}(l:List α):Option α:=match l with|[x]=>some x|_=>none
def Bg(h:Qw l=some x):l=[x]:=by
 cases l with
 |nil=>cases h
 |cons y r=>cases r with
  |nil=>cases h;rfl|cons _ _=>cases h
def X4{α:Type}{P:α->Prop}{o:Option {x // P x}}{q:α}(h:o.map Subtype.val=some q):P q:=by
 cases o with
 |none=>cases h|some x=>cases h;exact x.2
noncomputable def Xg(a:Expr):Option Str:=Option.map Subtype.val (α:={q:Str // ∃p,a=.Name q p}) (match a with|.Name n p=>some ⟨n,p,rfl⟩|_=>none)
noncomputable def ap2(a:Expr):Option Const:=Option.map Subtype.val (α:={q:Const // ∃k p,a=.Constant q k p}) (match a with|.Constant n k p=>some ⟨n,k,p,rfl⟩|_=>none)
noncomputable def a9b(a:Expr):Option (Expr×Operator×Expr):=Option.map Subtype.val (α:={q:Expr×Operator×Expr // ∃p,a=.BinOp q.1 q.2.1 q.2.2 p}) (match a with|.BinOp l o r p=>some ⟨(l,o,r),p,rfl⟩|_=>none)
noncomputable def dUn(a:Expr):Option (UnaryOp×Expr):=Option.map Subtype.val (α:={q:UnaryOp×Expr // ∃p,a=.UnaryOp q.1 q.2 p}) (match a with|.UnaryOp o l p=>some ⟨(o,l),p,rfl⟩|_=>none)
noncomputable def avw(a:Expr):Option (Expr×List CmpOp×List Expr):=Option.map Subtype.val (α:={q:Expr×List CmpOp×List Expr // ∃p,a=.Compare q.1 q.2.1 q.2.2 p}) (match a with|.Compare l o r p=>some ⟨(l,o,r),p,rfl⟩|_=>none)
noncomputable def axw(a:Expr):Option (BoolOp×List Expr×Pos):=Option.map Subtype.val (α:={q:BoolOp×List Expr×Pos // a=.BoolOp q.1 q.2.1 q.2.2}) (match a with|.BoolOp o l p=>some ⟨(o,l,p),rfl⟩|_=>none)
noncomputable def a1n(a:Expr):Option (Expr×Expr×Expr):=Option.map Subtype.val (α:={q:Expr×Expr×Expr // ∃p,a=.IfExp q.1 q.2.1 q.2.2 p}) (match a with|.IfExp t l r p=>some ⟨(t,l,r),p,rfl⟩|_=>none)
noncomputable def aeo(a:Expr):Option (List Expr):=Option.map Subtype.val (α:={q:List Expr // ∃k p,a=.Tuple q k p}) (match a with|.Tuple l k p=>some ⟨l,k,p,rfl⟩|_=>none)
noncomputable def a1o(a:Expr):Option (List Expr):=Option.map Subtype.val (α:={q:List Expr // ∃p,a=.List q p}) (match a with|.List l p=>some ⟨l,p,rfl⟩|_=>none)
noncomputable def a1p(a:Expr):Option (List (Option Expr)×List Expr):=Option.map Subtype.val (α:={q:List (Option Expr)×List Expr // ∃p,a=.Dict q.1 q.2 p}) (match a with|.Dict k v p=>some ⟨(k,v),p,rfl⟩|_=>none)
noncomputable def ap3(a:Expr):Option (Expr×Expr):=Option.map Subtype.val (α:={q:Expr×Expr // ∃p,a=.Subscript q.1 q.2 p}) (match a with|.Subscript l r p=>some ⟨(l,r),p,rfl⟩|_=>none)
noncomputable def dSl(a:Expr):Option (Option Expr×Option Expr×Option Expr):=Option.map Subtype.val (α:={q:Option Expr×Option Expr×Option Expr // ∃p,a=.Slice q.1 q.2.1 q.2.2 p}) (match a with|.Slice l r s p=>some ⟨(l,r,s),p,rfl⟩|_=>none)
noncomputable def ap4(a:Expr):Option (Expr×List Expr×List Keyword×Pos):=Option.map Subtype.val (α:={q:Expr×List Expr×List Keyword×Pos // a=.Call q.1 q.2.1 q.2.2.1 q.2.2.2}) (match a with|.Call f l k p=>some ⟨(f,l,k,p),rfl⟩|_=>none)
noncomputable def ap5(a:Expr):Option (Expr×Str×Pos):=Option.map Subtype.val (α:={q:Expr×Str×Pos // a=.Attribute q.1 q.2.1 q.2.2}) (match a with|.Attribute l n p=>some ⟨(l,n,p),rfl⟩|_=>none)
noncomputable def aep(a:Expr):Option (Expr×List Comprehension×Scope):=Option.map Subtype.val (α:={q:Expr×List Comprehension×Scope // ∃p,a=.ListComp q.1 q.2.1 q.2.2 p}) (match a with|.ListComp e g s p=>some ⟨(e,g,s),p,rfl⟩|_=>none)
def Oc(h:Xg a=some n):∃p,a=.Name n p:=(X4 h :)
def Vt(h:ap2 a=some n):∃k p,a=.Constant n k p:=(X4 h :)
def avx(h:a9b a=some (l,o,r)):∃p,a=.BinOp l o r p:=(X4 h :)
def ap6(h:dUn a=some (o,l)):∃p,a=.UnaryOp o l p:=(X4 h :)
def abr(h:avw a=some (l,o,r)):∃p,a=.Compare l o r p:=(X4 h :)
def ap7(h:axw a=some (o,r,p)):a=.BoolOp o r p:=(X4 h :)
def avy(h:a1n a=some (t,l,r)):∃p,a=.IfExp t l r p:=(X4 h :)
def R8(h:aeo a=some l):∃k p,a=.Tuple l k p:=(X4 h :)
def ain(h:a1o a=some l):∃p,a=.List l p:=(X4 h :)
def aio(h:a1p a=some (k,l)):∃p,a=.Dict k l p:=(X4 h :)
def abt(h:ap3 a=some (l,r)):∃p,a=.Subscript l r p:=(X4 h :)
def a1q(h:dSl a=some (l,r,s)):∃p,a=.Slice l r s p:=(X4 h :)
def aeq(h:ap4 a=some (f,l,k,p)):a=.Call f l k p:=(X4 h :)
def abu(h:ap5 a=some (l,n,p)):a=.Attribute l n p:=(X4 h :)
def Xh(h:aep a=some (e,g,s)):∃p,a=.ListComp e g s p:=(X4 h :)
noncomputable def dCN(a:Expr):Option (Str×List Expr):=(ap4 a).bind λq=>if q.2.2.1.isEmpty then(Xg q.1).map λn=>(n,q.2.1) else none
set_option tactic.hygienic true in
def Jo(h:dCN a=some (n,l)):∃p p',a=.Call (.Name n p) l [] p':=by
 obtain⟨⟨f,l',k,p⟩,h1,h2⟩:=dj.mp h;split at h2
 . rename_i hk
   obtain⟨n',h3,h4⟩:=cj.mp h2;obtain⟨p',e⟩:=Oc h3;have e:f=_:=e;have hk:k=[]:=qy.mp hk;cases h4;exact⟨p',p,by rw[aeq h1,e,hk]⟩
 . cases h2
noncomputable def dCA(a:Expr):Option (Expr×Str×Pos×List Expr×Pos):=(ap4 a).bind λq=>if q.2.2.1.isEmpty then(ap5 q.1).map λn=>(n.1,n.2.1,n.2.2,q.2.1,q.2.2.2) else none
set_option tactic.hygienic true in
def ap8(h:dCA a=some (o,n,ap,l,p)):a=.Call (.Attribute o n ap) l [] p:=by
 obtain⟨⟨f,l',k,p'⟩,h1,h2⟩:=dj.mp h;split at h2
 . rename_i hk
   obtain⟨⟨o',n',ap'⟩,h3,h4⟩:=cj.mp h2;have e:f=_:=abu h3;have hk:k=[]:=qy.mp hk;cases h4;rw[aeq h1,e,hk]
 . cases h2
noncomputable def a9c(l:Ya):List Str:=l.filterMap Xg
noncomputable def Dz(e:Expr):List Str:=match aeo e with|some l=>a9c l|none=>a9c [e]
noncomputable def hid(i:Nat):Str:=⟨#[0,i]⟩
noncomputable def aky(ts:Yf)(p:Str×Nat):Str:=if ts.contains p.1=true then hid p.2 else p.1
noncomputable def Vf(N ts:Yf):List Str:=N.zipIdx.map (aky ts)++ts
noncomputable def avz(c:Ctx)(names:X0):List (Str×NameKind):=names.map λy=>if(y.2==NameKind.free&&c.sc.lookup y.1==some .cell) then(y.1,NameKind.cell) else(y.1,y.2)
noncomputable def aer(c:Ctx)(sc:Scope)(ts:Yf):Ctx:=⟨Vf c.N ts,avz c sc.names,false,(sc.names.filter λy=>y.2==NameKind.cell).map (·.1)⟩
noncomputable def a1r(c:Ctx)(sc:Scope)(ts:Yf):Bool :=
 decide (sc.kind=.function)&&(sc.names.all (λy=>sc.names.lookup y.1==some y.2) &&
 (sc.names.all (λy=>!(y.2==NameKind.free)||(c.sc.lookup y.1==some .cell||c.sc.lookup y.1==some .free))&&(decide ((Vf c.N ts).Nodup) &&
 c.N.zipIdx.all (λp=>!(akv (aer c sc ts) (aky ts p))||(aky ts p==p.1&&sc.names.lookup (aky ts p)==some .free)))))
noncomputable def a9d:Op2->Operator
 |.add=>.Add|.ajm=>.Add|.sub=>.Sub|.mul=>.Mult|.fdiv=>.FloorDiv|.mod=>.Mod|.pow=>.Pow
noncomputable def av0:Cp->Option CmpOp
 |.eq=>some .Eq|.ne=>some .NotEq|.lt=>some .Lt|.le=>some .LtE|.gt=>some .Gt|.ge=>some .GtE|.inn=>some .In|.Ud=>some .NotIn
 |.Yp=>some .IsNot|.is=>none
noncomputable def a1s:Blt->Option Str
 |.len=>some "len"|.tuple=>some "tuple"|.list=>some "list"|.dict=>some "dict"|.max=>some "max"|.min=>some "min"
 |.sum=>some "sum"|.all=>some "all"
 |_=>none
noncomputable def bmN:Bm->Option Str
 |.append=>some "append"|.index=>some "index"|.pop=>some "pop"|.get=>some "get"|.Hd=>some "index"
noncomputable def a1t(T:Tab)(c:Ctx)(d:MW.D)(a:Expr):Bool :=
 match d with
 |.int i=>Cv (ap2 a) (λk=>decide (k=.int i))||Cv (Xg a) λn=>glB c n&&T.avv.contains (n,i)
 |.bl i=>Cv (ap2 a) λk=>decide (k=.bool i)
 |.non=>Cv (ap2 a) λk=>decide (k=.none)
 |.str s=>Cv (ap2 a) λk=>decide (k=.str s)
 |_=>false
noncomputable def tg1(c:Ctx)(lo i:Nat)(e:Expr):Bool:=Cv (Xg e) λn=>ail c i n&&(a1k c n&&decide (lo<=i))
noncomputable def akz(c:Ctx)(lo:Nat):List Nat->List Expr->Bool
 |[],[]=>true|i::is,e::ts=>tg1 c lo i e&&akz c lo is ts|_,_=>false
noncomputable def tgB(c:Ctx)(lo:Nat)(t:Tg)(e:Expr):Bool :=
 match t with
 |.name i=>tg1 c lo i e|.names is=>Cv (aeo e) λts=>akz c lo is ts
noncomputable def R9(e:Expr):Bool:=(a1n e).isNone
noncomputable def fnB(l:List (Option (Str×Nat)))(f:Nat)(n:Str)(k:Nat):Bool:=decide (l[f]?=some (some (n,k)))
noncomputable def mtB(l:List (Str×Nat))(f:Nat)(n:Str)(k:Nat):Bool:=decide (l[f]?=some (n,k))
noncomputable def flB(l:Yf)(f:Nat)(n:Str):Bool:=decide (l[f]?=some n)
noncomputable def aip(c:Ctx)(k:Nat)(t:Tg)(g:Comprehension)(sc:Scope):Bool :=
 a1r c sc (Dz g.target)&&((k==(Dz g.target).length)&&(tgB (aer c sc (Dz g.target)) c.N.length t g.target&&(Gw g.iter&&decide (g.is_async=0))))
noncomputable def ap9(o:BoolOp)(a:Expr)(x y:Expr->Bool):Bool :=
 Cv (axw a) λq=>decide (q.1=o)&&(match q.2.1 with
  |l::r::rest=>(R9 l&&x l)&&(match rest with|[]=>R9 r&&y r|_::_=>y (.BoolOp o (r::rest) q.2.2))
  | _=>false)
noncomputable def aqa(c:Ctx)(ty tn:Str)(a:Expr)(f:Expr->Bool):Bool:=Cv (dCN a) λq=>Cv (Qw q.2) λr=>Cv (dCN r) λu=>Cv (Qw u.2) λl=>((decide (q.1=ty)&&decide (u.1=tn))&&(glB c q.1&&glB c u.1))&&(noStar l&&f l)
def abv(h:aqa c ty tn a f=true):∃l p p1 p2 p3,a=.Call (.Name ty p) [.Call (.Name tn p1) [l] [] p2] [] p3/\glB c ty=true/\glB c tn=true/\noStar l=true/\f l=true:=by replace h:=jz h;obtain⟨⟨n,ls⟩,h1,h⟩:=h;obtain⟨p,p',rfl⟩:=Jo h1;replace h:=jz h;obtain⟨r,h2,h⟩:=h;cases Bg h2;replace h:=jz h;obtain⟨⟨m,ms⟩,h3,h⟩:=h;obtain⟨p2,q2,rfl⟩:=Jo h3;replace h:=jz h;obtain⟨l,h4,h⟩:=h;cases Bg h4;simp only[au,dq] at h;obtain⟨⟨⟨rfl,rfl⟩,h5,h6⟩,h7,h8⟩:=h;exact⟨l,p,p2,q2,p',rfl,h5,h6,h7,h8⟩
mutual
noncomputable def zq(T:Tab):Ex->Ctx->Expr->Bool
 |.var i,c,a=>Cv (Xg a) λn=>ail c i n&&(akv c n&&Xc n)
 |.cst d,c,a=>a1t T c d a|.bin op x y,c,a=>Cv (a9b a) λq=>decide (q.2.1=a9d op)&&(zq T x c q.1&&zq T y c q.2.2)
 |.neg x,c,a=>Cv (dUn a) λq=>decide (q.1=.USub)&&zq T x c q.2
 |.cmp op x y,c,a=>Cv (avw a) λq=>Cv (Qw q.2.1) λo=>Cv (Qw q.2.2) λr=>decide (av0 op=some o)&&(Gw r&&(zq T x c q.1&&zq T y c r))
 |.chain o1 o2 x y z,c,a=>Cv (avw a) λq=>match q.2.1,q.2.2 with
  |[p1,p2],[r,s]=>(decide (av0 o1=some p1)&&decide (av0 o2=some p2))&&(Gw s&&(zq T x c q.1&&(zq T y c r&&zq T z c s)))|_,_=>false
 |.and x y,c,a=>ap9 .And a (zq T x c) (zq T y c)|.or x y,c,a=>ap9 .Or a (zq T x c) (zq T y c)|.not x,c,a=>Cv (dUn a) λq=>decide (q.1=.Not)&&(R9 q.2&&zq T x c q.2)
 |.ite t x y,c,a=>Cv (a1n a) λq=>R9 q.1&&(zq T t c q.1&&(zq T x c q.2.1&&zq T y c q.2.2))
 |.tup es,c,a=>Cv (aeo a) λl=>decide (Cz.len es<=1000)&&Jb T es c l
 |.lst es,c,a=>Cv (a1o a) λl=>decide (Cz.len es<=1000)&&Jb T es c l
 |.Kp es,c,a=>Cv (a1o a) λl=>decide (Cz.len es<=1000)&&Jb T es c l
 |.ajn,_,a=>Cv (a1p a) λq=>q.1.isEmpty&&q.2.isEmpty
 |.afm,_,a=>Cv (a1p a) λq=>q.1.isEmpty&&q.2.isEmpty
 |.ix x y,c,a=>Cv (ap3 a) λq=>abi q.2&&(zq T x c q.1&&zq T y c q.2)
 |.cut x lo hi,c,a=>Cv (ap3 a) λq=>Cv (dSl q.2) λs=>s.2.2.isNone&&(zq T x c q.1&&(a1u T lo c s.1&&a1u T hi c s.2.1))
 |.call f es,c,a=>Cv (dCN a) λq=>(fnB T.fns f q.1 (Cz.len es)&&(glB c q.1&&!q.2.isEmpty))&&Jb T es c q.2
 |.make f es,c,a=>Cv (dCN a) λq=>(fnB T.cls f q.1 (Cz.len es)&&(glB c q.1&&!q.2.isEmpty))&&Jb T es c q.2
 |.meth o m es,c,a=>Cv (dCA a) λq=>((mtB T.mts m q.2.1 (Cz.len es)&&Xd q.1)&&(decide (q.2.2.2.1.length<29)&&(q.2.2.1.endLine==q.2.2.2.2.line)))&&(zq T o c q.1&&Jb T es c q.2.2.2.1)
 |.fld o f,c,a=>Cv (ap5 a) λq=>(flB T.Qv f q.2.1&&Xd q.1)&&zq T o c q.1
 |.blt .Fq (.cons x .nil),c,a=>aqa c "sorted" "set" a (zq T x c)|.blt b es,c,a=>Cv (dCN a) λq=>(decide (a1s b=some q.1)&&(glB c q.1&&!q.2.isEmpty))&&Jb T es c q.2
 |.bm m o es,c,a=>Cv (dCA a) λq=>((decide (bmN m=some q.2.1)&&Xd q.1)&&(decide (q.2.2.2.1.length<29)&&((q.2.2.1.endLine==q.2.2.2.2.line)&&!q.2.2.2.1.isEmpty)))&&(zq T o c q.1&&Jb T es c q.2.2.2.1)
 |.comp v k t it e,c,a=>Cv (aep a) λq=>Cv (Qw q.2.1) λg=>(aip c k t g q.2.2&&g.ifs.isEmpty)&&(av1 T it c g.target g.iter&&zq T e (aer c q.2.2 (Dz g.target)) q.1)
 |.Dg v k t it i e,c,a=>Cv (aep a) λq=>Cv (Qw q.2.1) λg=>Cv (Qw g.ifs) λd=>(aip c k t g q.2.2&&R9 d)&&(av1 T it c g.target g.iter&&(zq T i (aer c q.2.2 (Dz g.target)) d&&zq T e (aer c q.2.2 (Dz g.target)) q.1))
 |.V4 x y,c,a=>Cv (avw a) λq=>Cv (Qw q.2.1) λo=>Cv (Qw q.2.2) λr=>Cv (dCN q.1) λu=>Cv (dCN r) λv=>Cv (Qw u.2) λl=>Cv (Qw v.2) λm =>
  ((decide (o=.NotEq)&&decide (u.1 = "set"))&&(decide (v.1 = "set")&&glB c u.1))&&((noStar l&&noStar m)&&(zq T x c l&&zq T y c m))
 |.afn x,c,a=>aqa c "tuple" "range" a (zq T x c)|.aad x,c,a=>aqa c "list" "range" a (zq T x c)
noncomputable def Jb(T:Tab):Cz->Ctx->List Expr->Bool
 |.nil,_,a=>a.isEmpty|.cons e es,c,a=>match a with|l::ls=>noStar l&&(zq T e c l&&Jb T es c ls)|_=>false
noncomputable def a1u(T:Tab):OEx->Ctx->Option Expr->Bool
 |.none,_,a=>a.isNone|.some e,c,a=>Cv a (zq T e c)
noncomputable def av1(T:Tab):Pg->Ctx->Expr->Expr->Bool
 |.val e,c,_,a=>zq T e c a|.O6 e,c,_,a=>Cv (dCN a) λq=>Cv (Qw q.2) λl=>(decide (q.1 = "range")&&glB c q.1)&&(noStar l&&zq T e c l)
 |.enm e,c,tg,a=>Cv (dCN a) λq=>Cv (Qw q.2) λl=>((aeo tg).isSome&&(decide (q.1 = "enumerate")&&glB c q.1))&&(noStar l&&zq T e c l)
 |.zip x y,c,tg,a=>Cv (dCN a) λq=>match q.2 with
  |[l,r]=>((aeo tg).isSome&&(decide (q.1 = "zip")&&glB c q.1))&&((noStar l&&noStar r)&&(zq T x c l&&zq T y c r))|_=>false
end
def Qf(h:Ef T nm W k c X)(sc:Scope):(relabel sc X.env).names=avz c sc.names:=by
 unfold relabel avz;refine p8 λy _=>?_
 obtain⟨n,kd⟩:=y;show(if(kd==NameKind.free&&X.env.scope.kind==.function&&X.env.kindOf n==some .cell)=true then _ else _)=_;have e:(kd==NameKind.free&&X.env.scope.kind==.function&&X.env.kindOf n==some .cell)=(kd==NameKind.free&&c.sc.lookup n==some .cell):=by unfold Env.kindOf;rw[h.kd,h.sc];simp
 rw[e]
def a1v(h:Ef T nm W k c X)(hb:a1r c sc ts=true):Eh X (Vf c.N ts) sc/\∀C fp s H,Ef T nm W k (aer c sc ts) (Mi X (Vf c.N ts) sc C fp s H):=by
 simp only[a1r,au,dq,jc] at hb;obtain⟨h1,h3,h4,h5,h6⟩:=hb;have uniq:∀x kd,(x,kd)∈sc.names->sc.names.lookup x=some kd:=λx kd m=>by have:=h3 (x,kd) m;simpa using this
 refine⟨⟨h1,λy m e=>by rw[uniq y.1 y.2 m,e],λy m e=>?_,uniq,?_,λi x hi hx hv=>?_⟩,λC fp s H=>⟨rfl,h5,Qf h sc,h1,h.calm,h.room,(λz=>by cases z),h.tab,λn m=>?_⟩⟩
 . have:=h4 y m
   rw[e] at this;unfold Env.kindOf;rw[h.sc];simpa using this
 . rw[h.N];simp[Vf]
 . rw[h.N] at hi
   have hl:i<(c.N.zipIdx.map (aky ts)).length:=by simpa using hi
   unfold Vf at hx;rw[dm hl,jb,Aa] at hx;obtain⟨n,hn⟩:∃n,c.N[i]?=some n:=⟨c.N[i],by simp[hi]⟩;rw[hn] at hx;have hx:aky ts (n,i)=x:=by simpa using hx
   have m:(n,i)∈c.N.zipIdx:=by rw[u9];exact⟨i,by rw[Aa,hn];simp⟩
   have q:=h6 (n,i) m;rw[hx] at q;have v:akv (aer c sc ts) x=true:=by unfold Vis at hv;rw[Qf h] at hv;unfold akv;show(match(avz c sc.names).lookup x with|some .local=>true|some .cell=>true|some .free=>true|_=>false)=true;rcases hv with e|e|e<;>rw[e]
   rw[v] at q;simp only[qm,Bool.false_or,au] at q;rw[h.N,hn];have e1:x=n:=eq_of_beq q.1;exact⟨by rw[e1],by have:=q.2;simpa using this⟩
 . obtain⟨y,hy,rfl⟩:=bf.mp (List.contains_iff_mem.mp m)
   obtain⟨h7,h8⟩:=uy.mp hy;show(sc.names.lookup y.1==some .cell)=true;rw[uniq y.1 y.2 h7,eq_of_beq h8];rfl
def a9e(h:o=a9d op):Cr X (binaryOp o) (rOp nm X.K (MW.Gf op)):=by
 subst h;cases op with
 |add=>exact a7z|ajm=>exact a1i|sub=>exact a7v|mul=>exact a7w|fdiv=>exact a0r|mod=>exact a7x|pow=>exact a7y
def aqb(hr:zr 8 X.A)(h:av0 op=some o):Cr X (compareOp o) (Ww nm X.K op):=by
 have h6:zr 6 X.A:=hr.mono (by decide);cases op with
 |eq=>cases h;exact be1 h6|ne=>cases h;exact be2 h6|lt=>cases h;exact bef|le=>cases h;exact beh|gt=>cases h;exact bei|ge=>cases h;exact bej|inn=>cases h;exact be3 hr|Ud=>cases h;exact auy hr|is=>cases h|Yp=>cases h;exact avu
def agr(h:Ef T nm W k c X)(hb:tg1 c lo i e=true):∃n p,e=.Name n p/\X.N[i]?=some n/\L2.Loc X.env.scope n/\(X.fn n=true\/X.env.scope.names.lookup n=some .local)/\lo<=i:=by obtain⟨n,h1,h2⟩:=jz hb;obtain⟨p,rfl⟩:=Oc h1;simp only[au,dq] at h2;obtain⟨l1,l2⟩:=a1m h h2.2.1;exact⟨n,p,rfl,slot_of h h2.1,l1,l2,h2.2.2⟩
theorem aqc{T:Tab}{nm:Nm}{W:Jp}{k:Nat}{c:Ctx}{X:Cx}(h:Ef T nm W k c X){lo:Nat}:∀{is:Y3}{ts:Ya},akz c lo is ts=true->K5 X ts is/\∀i∈is,lo<=i
 |[],[],_=>⟨.nil,by simp⟩|[],_::_,e=>by cases e|_::_,[],e=>by cases e
 |i::is,a::ts,e=>by
  unfold akz at e;rw[au] at e;obtain⟨n,p,rfl,e1,e2,e3,e4⟩:=agr h e.1;obtain⟨g1,g2⟩:=aqc h e.2;refine⟨.cons e1 e2 e3 g1,λj hj=>?_⟩;rcases cu.mp hj with z|z
  . rw[z];exact e4
  . exact g2 j z
def aiq(h:Ef T nm W k c X)(hb:tgB c lo t e=true):PG X e (tGt nm X.K t)/\∀i∈Bh t,lo<=i:=by
 have nd:X.N.Nodup:=by rw[h.N];exact h.nd
 cases t with
 |name i =>
  obtain⟨n,p,rfl,e1,e2,e3,e4⟩:=agr h hb;exact⟨a0w nd e1 e2 e3,λi hi=>by rw[xj.mp hi];exact e4⟩
 |names is =>
  obtain⟨ts,h1,h2⟩:=jz hb;obtain⟨k0,p,rfl⟩:=R8 h1;obtain⟨g1,g2⟩:=aqc h h2;exact⟨aus h.calm nd g1,g2⟩
structure Got(nm:Nm)(W:Jp)(X:Cx)(a:Expr)(e:Ex):Prop where
 v:PE X a (tE nm W X.K e)
 q:R9 a=true->PT X a (tQ nm W X.K e)
 w:∀op ls p,a=.BoolOp op ls p->PW X a (tQ nm W X.K e)
noncomputable def a9f:Expr->Bool
 |.BoolOp ..=>false|.UnaryOp .Not _ _=>false|.IfExp ..=>false|.Compare ..=>false|_=>true
set_option tactic.hygienic true in
def w5(h:PE X a (tE nm W X.K e))(hv:a9f a=true):Got nm W X a e:=by
 refine⟨h,λhq=>a70 h λwhole=>?_,λop ls p z=>by subst z;cases hv⟩;cases a<;>first|rfl|(cases hv)|skip
 rename_i op x p;cases op<;>first|rfl|cases hv
def a1w(h:Ef T nm W k c X)(hb:a1t T c d a=true):PE X a (tE nm W X.K (.cst d))/\a9f a=true:=by
 cases d with
 |int i =>
  simp only[a1t,Bool.or_eq_true] at hb;rcases hb with hb|hb
  . obtain⟨k,h1,h2⟩:=jz hb
    obtain⟨j,p,rfl⟩:=Vt h1;rw[mz h2];exact⟨a7r,rfl⟩
  . obtain⟨n,h1,h2⟩:=jz hb
    obtain⟨p,rfl⟩:=Oc h1;rw[au] at h2;obtain⟨g1,g2⟩:=Ja h h2.1;obtain⟨t,ht⟩:=h.tab.cs _ _ (List.contains_iff_mem.mp h2.2);exact⟨a0q g1 ht (vz g2).1,rfl⟩
 |bl i =>
  obtain⟨k,h1,h2⟩:=jz hb;obtain⟨j,p,rfl⟩:=Vt h1;rw[mz h2];exact⟨bed,rfl⟩
 |non =>
  obtain⟨k,h1,h2⟩:=jz hb;obtain⟨j,p,rfl⟩:=Vt h1;rw[mz h2];exact⟨a7s,rfl⟩
 |str s =>
  obtain⟨k,h1,h2⟩:=jz hb;obtain⟨j,p,rfl⟩:=Vt h1;rw[mz h2];exact⟨a7t,rfl⟩
 |_=>cases hb
section
variable{T:Tab}{nm:Nm}{W:Jp}{k:Nat}
def Ef.r8(h:Ef T nm W k c X):zr 8 X.A:=h.room.mono (by lia)
theorem Ef.mg(h:Ef T nm W k c X)(m:n∈Ob):X.mg n=none:=h.tab.bt n m
def ak0(h:Jb T es c []=true):es=.nil:=by
 cases es with
 |nil=>rfl|cons e es=>simp[Jb] at h
theorem U6{c:Ctx}{lo:Nat}:∀{is:Y3}{ts:Ya},akz c lo is ts=true->∀i∈is,lo<=i
 |[],_,_=>by simp|_::_,[],e=>by cases e
 |i::is,a::ts,e=>by
  unfold akz at e;rw[au] at e;intro j hj;rcases cu.mp hj with z|z
  . obtain⟨n,h1,h2⟩:=jz e.1
    simp only[au,dq] at h2;rw[z];exact h2.2.2
  . exact U6 e.2 j z
def ags(h:tgB c lo t e=true):∀i∈Bh t,lo<=i:=by
 cases t with
 |name j =>
  obtain⟨n,h1,h2⟩:=jz h;simp only[au,dq] at h2;intro i hi;rw[xj.mp hi];exact h2.2.2
 |names is =>
  obtain⟨ts,h1,h2⟩:=jz h;exact U6 h2
def aqd:(Vf N ts).length-N.length=ts.length:=by simp[Vf]
def Sd(hc:Ef T nm W k c X)(h:aip c j t g sc=true) :
 Gw g.iter=true/\g.is_async=0/\Eh X (Vf c.N (Dz g.target)) sc/\(∀C fp s H,Ef T nm W k (aer c sc (Dz g.target)) (Mi X (Vf c.N (Dz g.target)) sc C fp s H)) /\
 (∀C fp s H,PG (Mi X (Vf c.N (Dz g.target)) sc C fp s H) g.target (tGt nm X.K t))/\(Vf c.N (Dz g.target)).length-X.N.length=j/\∀i∈Bh t,X.N.length<=i:=by
 simp only[aip,au,dq] at h;obtain⟨h2,h3,h4,h5,h6⟩:=h;obtain⟨B,hB⟩:=a1v hc h2;exact⟨h5,h6,B,hB,λC fp s H=>(aiq (hB C fp s H) h4).1,by rw[hc.N,aqd];exact(eq_of_beq h3).symm,λi hi=>by rw[hc.N];exact ags h4 i hi⟩
def air(h:ap9 o a x y=true):(∃l r p,a=.BoolOp o [l,r] p/\R9 l=true/\x l=true/\R9 r=true/\y r=true) \/
 ∃l r s rest p,a=.BoolOp o (l::r::s::rest) p/\R9 l=true/\x l=true/\y (.BoolOp o (r::s::rest) p)=true:=by
 obtain⟨⟨o',ls,p⟩,h1,h2⟩:=jz h;cases ap7 h1;rw[au] at h2;obtain⟨h3,h2⟩:=h2;cases mz h3;cases ls with
 |nil=>cases h2
 |cons l ls=>cases ls with
  |nil=>cases h2
  |cons r rest =>
   cases rest with
   |nil =>
    have h2:((R9 l&&x l)&&(R9 r&&y r))=true:=h2;simp only[au] at h2;exact .inl ⟨l,r,p,rfl,h2.1.1,h2.1.2,h2.2.1,h2.2.2⟩
   |cons s rest =>
    have h2:((R9 l&&x l)&&y (.BoolOp o' (r::s::rest) p))=true:=h2;simp only[au] at h2;exact .inr ⟨l,r,s,rest,p,rfl,h2.1.1,h2.1.2,h2.2⟩
def a1x(hc:Ef T nm W k c X)(hb:a1s b=some n)(hg:glB c n=true)(e1:PA X (l::ls) (Vn nm W X.K es))(e2:zp (l::ls)=true):PE X (.Call (.Name n p) (l::ls) [] p') (tE nm W X.K (.blt b es)):=by
 obtain⟨g1,g2⟩:=Ja hc hg;obtain⟨d1,d2,d3⟩:=vz g2;simp only[zp,au] at e2;have st:=mq e2.1 ls X.env;have an:=vg (env:=X.env) (pos:=p') e2.2;have mg:n∈Ob->X.mg n=none:=hc.mg;cases b with
 |len=>cases hb;exact aea (id := "len") a8m g1 (mg (by decide+kernel)) (by decide+kernel) e1 d3 d1 st an|max=>cases hb;exact aea (id := "max") (a8t hc.calm) g1 (mg (by decide+kernel)) (by decide+kernel) e1 d3 d1 st an|all=>cases hb;exact aea (id := "all") (a86 hc.calm) g1 (mg (by decide+kernel)) (by decide+kernel) e1 d3 d1 st an|sum=>cases hb;exact aea (id := "sum") (a89 hc.calm) g1 (mg (by decide+kernel)) (by decide+kernel) e1 d3 d1 st an|min=>cases hb;exact aea (id := "min") (a8v hc.calm) g1 (mg (by decide+kernel)) (by decide+kernel) e1 d3 d1 st an|tuple=>cases hb;exact agm (T := "tuple") auv g1 (mg (by decide+kernel)) (by decide+kernel) e1 d3 d1 st an|list=>cases hb;exact agm (T := "list") a09 g1 (mg (by decide+kernel)) (by decide+kernel) e1 d3 d1 st an|dict=>cases hb;exact agm (T := "dict") a1e g1 (mg (by decide+kernel)) (by decide+kernel) e1 d3 d1 st an|_=>cases hb
def abw{α:Type}{l:List α}(h:(!l.isEmpty)=true):∃x r,l=x::r:=by
 cases l with
 |nil=>cases h|cons x r=>exact⟨x,r,rfl⟩
set_option maxHeartbeats 2000000 in
set_option tactic.hygienic true in
mutual
theorem ju:∀(e:Ex){c:Ctx}{X:Cx}{a:Expr},Ef T nm W k c X->zq T e c a=true->Got nm W X a e
 |.var i,c,X,a,hc,h=>by
  replace h:=jz h;obtain⟨n,h1,h⟩:=h;obtain⟨p,rfl⟩:=Oc h1;simp only[au] at h;exact w5 (a7q (slot_of hc h.1) (a1l hc h.2.1) (vz h.2.2).1 (vz h.2.2).2.1) rfl
 |.cst d,c,X,a,hc,h=>by
  obtain⟨h1,h2⟩:=a1w hc h;exact w5 h1 h2
 |.bin op x y,c,X,a,hc,h=>by
  replace h:=jz h;obtain⟨⟨l,o,r⟩,h1,h⟩:=h;obtain⟨p,rfl⟩:=avx h1;simp only[au,dq] at h;exact w5 (a7u (a9e h.1) (ju x hc h.2.1).v (ju y hc h.2.2).v) rfl
 |.neg x,c,X,a,hc,h=>by
  replace h:=jz h;obtain⟨⟨o,l⟩,h1,h⟩:=h;obtain⟨p,rfl⟩:=ap6 h1;simp only[au,dq] at h;obtain⟨rfl,h⟩:=h;exact w5 (a8a (ju x hc h).v) rfl
 |.cmp op x y,c,X,a,hc,h=>by
  replace h:=jz h;obtain⟨⟨l,o,r⟩,h1,h⟩:=h;obtain⟨p,rfl⟩:=abr h1;replace h:=jz h;obtain⟨o1,h2,h⟩:=h;replace h:=jz h;obtain⟨r1,h3,h⟩:=h;cases Bg h2;cases Bg h3;simp only[au,dq] at h;have g:=aqb (nm:=nm) hc.r8 h.1;have m:=U3 h.2.1 o1;exact⟨a71 g (ju x hc h.2.2.1).v (ju y hc h.2.2.2).v m,λ_=>a72 g (ju x hc h.2.2.1).v (ju y hc h.2.2.2).v m,λ_ _ _ z=>by cases z⟩
 |.chain o1 o2 x y z,c,X,a,hc,h=>by
  replace h:=jz h;obtain⟨⟨l,o,r⟩,h1,h⟩:=h;obtain⟨p,rfl⟩:=abr h1;dsimp only at h;split at h
  . rename_i p1 p2 r s
    simp only[au,dq] at h;have g1:=aqb (nm:=nm) hc.r8 h.1.1;have g2:=aqb (nm:=nm) hc.r8 h.1.2;have m:lastMarks [p1,p2] [r,s]=false:=U3 h.2.1 p2;exact⟨aup g1 g2 (ju x hc h.2.2.1).v (ju y hc h.2.2.2.1).v (ju z hc h.2.2.2.2).v m,λ_=>auq g1 g2 (ju x hc h.2.2.1).v (ju y hc h.2.2.2.1).v (ju z hc h.2.2.2.2).v m,λ_ _ _ z=>by cases z⟩
  . cases h
 |.and x y,c,X,a,hc,h=>by
  rcases air h with⟨l,r,p,rfl,h1,h2,h3,h4⟩|⟨l,r,s,rest,p,rfl,h1,h2,h3⟩
  . have g1:=ju x hc h2
    have g2:=ju y hc h4;have w:=axm (pos:=p) (rest:=[]) (g1.q h1) (ato (g2.q h3));exact⟨axl g1.v (axu g2.v),λ_=>w.pt,λ_ _ _ _=>w⟩
  . have g1:=ju x hc h2
    have g2:=ju y hc h3;have w:=axm (g1.q h1) (g2.w _ _ _ rfl);exact⟨axl g1.v g2.v,λ_=>w.pt,λ_ _ _ _=>w⟩
 |.or x y,c,X,a,hc,h=>by
  rcases air h with⟨l,r,p,rfl,h1,h2,h3,h4⟩|⟨l,r,s,rest,p,rfl,h1,h2,h3⟩
  . have g1:=ju x hc h2
    have g2:=ju y hc h4;have w:=a75 (pos:=p) (rest:=[]) (g1.q h1) (azm (g2.q h3));exact⟨a73 g1.v (axu g2.v),λ_=>w.pt,λ_ _ _ _=>w⟩
  . have g1:=ju x hc h2
    have g2:=ju y hc h3;have w:=a75 (g1.q h1) (g2.w _ _ _ rfl);exact⟨a73 g1.v g2.v,λ_=>w.pt,λ_ _ _ _=>w⟩
 |.not x,c,X,a,hc,h=>by
  replace h:=jz h;obtain⟨⟨o,l⟩,h1,h⟩:=h;obtain⟨p,rfl⟩:=ap6 h1;simp only[au,dq] at h;obtain⟨rfl,h⟩:=h;have g:=ju x hc h.2;exact⟨a74 g.v,λ_=>a76 (g.q h.1),λ_ _ _ z=>by cases z⟩
 |.ite t x y,c,X,a,hc,h=>by
  replace h:=jz h;obtain⟨⟨t',l,r⟩,h1,h⟩:=h;obtain⟨p,rfl⟩:=avy h1;simp only[au] at h;exact⟨a77 ((ju t hc h.2.1).q h.1) (ju x hc h.2.2.1).v (ju y hc h.2.2.2).v,(λz=>by cases z),λ_ _ _ z=>by cases z⟩
 |.tup es,c,X,a,hc,h=>by
  replace h:=jz h;obtain⟨l,h1,h⟩:=h;obtain⟨k0,p,rfl⟩:=R8 h1;simp only[au,dq] at h;exact w5 (a78 (Ea es hc h.2).1 h.1) rfl
 |.lst es,c,X,a,hc,h=>by
  replace h:=jz h;obtain⟨l,h1,h⟩:=h;obtain⟨p,rfl⟩:=ain h1;simp only[au,dq] at h;exact w5 (a79 (Ea es hc h.2).1 h.1) rfl
 |.Kp es,c,X,a,hc,h=>by
  replace h:=jz h;obtain⟨l,h1,h⟩:=h;obtain⟨p,rfl⟩:=ain h1;simp only[au,dq] at h;exact w5 (a0u (Ea es hc h.2).1 h.1) rfl
 |.ajn,c,X,a,hc,h=>by
  replace h:=jz h;obtain⟨⟨q,l⟩,h1,h⟩:=h;obtain⟨p,rfl⟩:=aio h1;simp only[au,qy] at h;obtain⟨rfl,rfl⟩:=h;exact w5 a07 rfl
 |.afm,c,X,a,hc,h=>by
  replace h:=jz h;obtain⟨⟨q,l⟩,h1,h⟩:=h;obtain⟨p,rfl⟩:=aio h1;simp only[au,qy] at h;obtain⟨rfl,rfl⟩:=h;exact w5 a08 rfl
 |.ix x y,c,X,a,hc,h=>by
  replace h:=jz h;obtain⟨⟨l,r⟩,h1,h⟩:=h;obtain⟨p,rfl⟩:=abt h1;simp only[au] at h;exact w5 (bel (adx hc.room) (ju x hc h.2.1).v (ju y hc h.2.2).v (ao5 h.1)) rfl
 |.cut x lo hi,c,X,a,hc,h=>by
  replace h:=jz h;obtain⟨⟨l,r⟩,h1,h⟩:=h;obtain⟨p,rfl⟩:=abt h1;replace h:=jz h;obtain⟨⟨u,v,st⟩,h2,h⟩:=h;obtain⟨p2,e⟩:=a1q h2;have e:r=_:=e;subst e;simp only[au,Option.isNone_iff_eq_none] at h;obtain⟨rfl,h⟩:=h;exact w5 (a8u (ju x hc h.1).v (ais lo hc h.2.1) (ais hi hc h.2.2)) rfl
 |.call f es,c,X,a,hc,h=>by
  replace h:=jz h;obtain⟨⟨n,ls⟩,h1,h⟩:=h;obtain⟨p,p',rfl⟩:=Jo h1;simp only[au] at h;obtain⟨⟨h2,h3,h4⟩,h5⟩:=h;obtain⟨l,ls,rfl⟩:=abw h4;obtain⟨fa,fd,ps,F,m,kp,b⟩:=hc.tab.fn _ _ _ (mz h2);obtain⟨g1,g2⟩:=Ja hc h3;obtain⟨e1,e2⟩:=Ea es hc h5;simp only[zp,au] at e2;exact w5 (s_call F (hc.room.mono x_) g1 m kp b rfl e1 (vz g2).1 (mq e2.1 _ _) (vg e2.2)) rfl
 |.make f es,c,X,a,hc,h=>by
  replace h:=jz h;obtain⟨⟨n,ls⟩,h1,h⟩:=h;obtain⟨p,p',rfl⟩:=Jo h1;simp only[au] at h;obtain⟨⟨h2,h3,h4⟩,h5⟩:=h;obtain⟨l,ls,rfl⟩:=abw h4;obtain⟨C,fa,fd,ps,cl,M0,F,m,b,d1,d2⟩:=hc.tab.cl _ _ _ (mz h2);obtain⟨g1,g2⟩:=Ja hc h3;obtain⟨e1,e2⟩:=Ea es hc h5;simp only[zp,au] at e2;exact w5 (a04 M0 F (hc.room.mono (w_ (by decide))) g1 m b d1 rfl d2 rfl e1 (vz g2).1 (mq e2.1 _ _) (vg e2.2)) rfl
 |.meth o m es,c,X,a,hc,h=>by
  replace h:=jz h;obtain⟨⟨lo,n,ap,ls,p⟩,h0,h⟩:=h;cases ap8 h0;simp only[au,dq] at h;obtain⟨⟨⟨h1,h2⟩,h3,h4⟩,h5,h6⟩:=h;obtain⟨C,fa,fd,ps,f,C0,Me,F,b,u,nf⟩:=hc.tab.mt _ _ _ (mz h1);obtain⟨e1,e2⟩:=Ea es hc h6;have g:=ju o hc h5;cases ls with
  |nil =>
   have z:=ak0 h6;subst z;exact w5 (avl (ci:=0) (cl:=⟨0,[]⟩) g.v C0 Me F (hc.room.mono x_) b u nf (aim h2 rfl h3 h4)) rfl
  |cons l ls =>
   have e3:=e2;simp only[zp,au] at e3;exact w5 (a05 (ci:=0) (cl:=⟨0,[]⟩) g.v C0 Me F (hc.room.mono x_) b u nf rfl e1 (mq e3.1 _ _) (vg e3.2) (aim h2 e2 h3 h4)) rfl
 |.fld o f,c,X,a,hc,h=>by
  replace h:=jz h;obtain⟨⟨l,n,p⟩,h1,h⟩:=h;cases abu h1;simp only[au] at h;obtain⟨t1,t2⟩:=hc.tab.fl _ _ (mz h.1.1);exact w5 (a8b t1 t2 (ju o hc h.2).v (Fz h.1.2)) rfl
 |.blt b es,c,X,a,hc,h=>by
  have gen:(Cv (dCN a) λq=>(decide (a1s b=some q.1)&&(glB c q.1&&!q.2.isEmpty))&&Jb T es c q.2)=true->Got nm W X a (.blt b es):=λhh=>by clear h;replace hh:=jz hh;obtain⟨⟨n,ls⟩,h1,h⟩:=hh;obtain⟨p,p',rfl⟩:=Jo h1;simp only[au] at h;obtain⟨⟨h2,h3,h4⟩,h5⟩:=h;obtain⟨l,ls,rfl⟩:=abw h4;obtain⟨e1,e2⟩:=Ea es hc h5;exact w5 (a1x hc (mz h2) h3 e1 e2) rfl
  match b,es,h,gen with
  |.isList,_,h,gen=>exact gen h|.isTuple,_,h,gen=>exact gen h|.isBool,_,h,gen=>exact gen h|.isInt,_,h,gen=>exact gen h|.isSeq,_,h,gen=>exact gen h|.len,_,h,gen=>exact gen h|.tuple,_,h,gen=>exact gen h|.list,_,h,gen=>exact gen h|.max,_,h,gen=>exact gen h|.min,_,h,gen=>exact gen h|.sum,_,h,gen=>exact gen h|.sorted,_,h,gen=>exact gen h|.dict,_,h,gen=>exact gen h|.all,_,h,gen=>exact gen h|.Fq,.nil,h,gen=>exact gen h|.Fq,.cons _ (.cons _ _),h,gen=>exact gen h
  |.Fq,.cons x .nil,h,_ =>
   obtain⟨l,p,p1,p2,p3,rfl,h5,h6,h7,h8⟩:=abv (show aqa c "sorted" "set" a (zq T x c)=true from h);obtain⟨g1,g2⟩:=Ja hc h5;obtain⟨g3,g4⟩:=Ja hc h6;exact w5 (aku hc.r8 g1 (hc.mg (by decide+kernel)) (by decide+kernel) (vz g2).2.2 (vz g2).1 g3 (hc.mg (by decide+kernel)) (by decide+kernel) (vz g4).2.2 (vz g4).1
    (Jm (ju x hc h8).v Rr (mq h7 _ _)) (mq rfl _ _) (vg rfl) (mq h7 _ _) (vg rfl)) rfl
 |.bm m o es,c,X,a,hc,h=>by
  replace h:=jz h;obtain⟨⟨lo,n,ap,ls,p⟩,h0,h⟩:=h;cases ap8 h0;simp only[au,dq] at h;obtain⟨⟨⟨h1,h2⟩,h3,h4,h4'⟩,h5,h6⟩:=h;obtain⟨l,ls,rfl⟩:=abw h4';obtain⟨e1,e2⟩:=Ea es hc h6;have e3:=e2;simp only[zp,au] at e3;have few:((backTo p (starEach (l::ls) X.env)).all (λx=>!x.1)&&(backToKw p (keywordEach [] X.env)).all (λx=>x.1.isSome)&&decide ((l::ls).length+([]:List Keyword).length+(if([]:List Keyword).isEmpty then 0 else 1)<30))=true:=by rw[Xf e2];simp[keywordEach,backToKw];simp at h3;exact b_ h3 (by decide)
  have g:=ju o hc h5;cases m with
  |append=>cases h1;exact w5 (au0 (T := "list") (id := "list.append") (fun ι H M x v S r t=>ty_list (.inl rfl) S r t) PySem.F.plainAttrs_list PySem.F.slot_list_append PySem.F.type_list_append apn g.v e1 (Fz h2) few h4 (mq e3.1 _ _) (vg e3.2)) rfl
  |index=>cases h1;exact w5 (au0 (T := "list") (id := "list.index") (fun ι H M x v S r t=>ty_list (.inr (.inr rfl)) S r t) PySem.F.plainAttrs_list PySem.F.slot_list_index PySem.F.type_list_index (au3 hc.r8) g.v e1 (Fz h2) few h4 (mq e3.1 _ _) (vg e3.2)) rfl
  |pop=>cases h1;exact w5 (au0 (T := "list") (id := "list.pop") (fun ι H M x v S r t=>ty_list (.inr (.inl rfl)) S r t) PySem.F.plainAttrs_list PySem.F.slot_list_pop PySem.F.type_list_pop a87 g.v e1 (Fz h2) few h4 (mq e3.1 _ _) (vg e3.2)) rfl
  |get=>cases h1;exact w5 (au0 (T := "dict") (id := "dict.get") (fun ι H M x v S r t=>ty_dict S r t) PySem.F.plainAttrs_dict PySem.F.slot_dict_get PySem.F.type_dict_get (a88 (adx hc.room)) g.v e1 (Fz h2) few h4 (mq e3.1 _ _) (vg e3.2)) rfl
  |Hd=>cases h1;exact w5 (a9a (id := "tuple.index") (λx M t=>by cases x with|tup ds=>exact⟨ds,rfl⟩|_=>cases t) (λz=>by cases z) PySem.F.plainAttrs_tuple PySem.F.slot_tuple_index PySem.F.type_tuple_index (apx hc.r8) g.v e1 (Fz h2) few h4 (mq e3.1 _ _) (vg e3.2)) rfl
 |.comp v j t it e,c,X,a,hc,h=>by
  replace h:=jz h;obtain⟨⟨elt,gs,sc⟩,h1,h⟩:=h;obtain⟨p,rfl⟩:=Xh h1;replace h:=jz h;obtain⟨⟨tg,iter,ifs,as⟩,h2,h⟩:=h;cases Bg h2;simp only[au,qy] at h;obtain⟨⟨h3,rfl⟩,h4,h5⟩:=h;obtain⟨q1,q2,B,hB,hg,q3,q4⟩:=Sd hc h3;cases q2;exact w5 (a03 B hc.calm (Sg it hc h4) hg (λC fp s H=>(ju e (hB C fp s H) h5).v) q1 q3 q4) rfl
 |.Dg v j t it i e,c,X,a,hc,h=>by
  replace h:=jz h;obtain⟨⟨elt,gs,sc⟩,h1,h⟩:=h;obtain⟨p,rfl⟩:=Xh h1;replace h:=jz h;obtain⟨⟨tg,iter,ifs,as⟩,h2,h⟩:=h;cases Bg h2;replace h:=jz h;obtain⟨d,h6,h⟩:=h;cases Bg h6;simp only[au] at h;obtain⟨⟨h3,h7⟩,h4,h8,h5⟩:=h;obtain⟨q1,q2,B,hB,hg,q3,q4⟩:=Sd hc h3;cases q2;exact w5 (apa B hc.calm (Sg it hc h4) hg (λC fp s H=>(ju i (hB C fp s H) h8).q h7) (λC fp s H=>(ju e (hB C fp s H) h5).v) q1 q3 q4) rfl
 |.V4 x y,c,X,a,hc,h=>by
  replace h:=jz h;obtain⟨⟨l0,o,r0⟩,h1,h⟩:=h;obtain⟨p,rfl⟩:=abr h1;replace h:=jz h;obtain⟨o1,h2,h⟩:=h;replace h:=jz h;obtain⟨r1,h3,h⟩:=h;cases Bg h2;cases Bg h3;replace h:=jz h;obtain⟨⟨n,ls⟩,h4,h⟩:=h;replace h:=jz h;obtain⟨⟨m,ms⟩,h5,h⟩:=h;replace h:=jz h;obtain⟨l,h6,h⟩:=h;replace h:=jz h;obtain⟨r,h7,h⟩:=h;cases Bg h6;cases Bg h7;obtain⟨p1,q1,e1⟩:=Jo h4;obtain⟨p2,q2,e2⟩:=Jo h5;have e1:l0=_:=e1;subst e1 e2;simp only[au,dq] at h;obtain⟨⟨⟨rfl,rfl⟩,rfl,h8⟩,⟨h9,h10⟩,h11,h12⟩:=h;obtain⟨g1,g2⟩:=Ja hc h8;have z:=auz (nm:=nm) (W:=W) (p1:=p1) (p2:=p2) (q1:=q1) (q2:=q2) hc.r8 g1 (hc.mg (by decide+kernel)) (by decide+kernel) (vz g2).2.2 (vz g2).1 (Jm (ju x hc h11).v Rr (mq h9 _ _)) (Jm (ju y hc h12).v Rr (mq h10 _ _)) (mq h9 _ _) (mq h10 _ _) (vg rfl) (vg rfl);exact⟨azj z,λ_=>auo (azk z) λ_ _ _ q=>q,λ_ _ _ z=>by cases z⟩
 |.afn x,c,X,a,hc,h=>by
  obtain⟨l,p,p1,p2,p3,rfl,h5,h6,h7,h8⟩:=abv h;obtain⟨g1,g2⟩:=Ja hc h5;obtain⟨g3,g4⟩:=Ja hc h6;exact w5 (a1f hc.r8 g1 (hc.mg (by decide+kernel)) (by decide+kernel) (vz g2).2.2 (vz g2).1 g3 (hc.mg (by decide+kernel)) (by decide+kernel) (vz g4).2.2 (vz g4).1
   (Jm (ju x hc h8).v Rr (mq h7 _ _)) (mq rfl _ _) (vg rfl) (mq h7 _ _) (vg rfl)) rfl
 |.aad x,c,X,a,hc,h=>by
  obtain⟨l,p,p1,p2,p3,rfl,h5,h6,h7,h8⟩:=abv h;obtain⟨g1,g2⟩:=Ja hc h5;obtain⟨g3,g4⟩:=Ja hc h6;exact w5 (a1j hc.r8 g1 (hc.mg (by decide+kernel)) (by decide+kernel) (vz g2).2.2 (vz g2).1 g3 (hc.mg (by decide+kernel)) (by decide+kernel) (vz g4).2.2 (vz g4).1
   (Jm (ju x hc h8).v Rr (mq h7 _ _)) (mq rfl _ _) (vg rfl) (mq h7 _ _) (vg rfl)) rfl
theorem Ea:∀(es:Cz){c:Ctx}{X:Cx}{a:Ya},Ef T nm W k c X->Jb T es c a=true->PA X a (Vn nm W X.K es)/\zp a=true
 |.nil,c,X,a,hc,h=>by
  cases qy.mp h;exact⟨Rr,rfl⟩
 |.cons e es,c,X,a,hc,h=>by
  cases a with
  |nil=>cases h
  |cons l ls =>
   replace h:(noStar l&&(zq T e c l&&Jb T es c ls))=true:=h;simp only[au] at h;obtain⟨g1,g2⟩:=Ea es hc h.2.2;exact⟨Jm (ju e hc h.2.1).v g1 (mq h.1 _ _),by simp only[zp,au];exact⟨h.1,g2⟩⟩
theorem ais:∀(e:OEx){c:Ctx}{X:Cx}{a:Option Expr},Ef T nm W k c X->a1u T e c a=true->PO X a (tO nm W X.K e)
 |.none,c,X,a,hc,h=>by
  cases Option.isNone_iff_eq_none.mp h;exact au7
 |.some e,c,X,a,hc,h=>by
  replace h:=jz h;obtain⟨l,rfl,h⟩:=h;exact au8 (ju e hc h).v
theorem Sg:∀(it:Pg){c:Ctx}{X:Cx}{tg a:Expr},Ef T nm W k c X->av1 T it c tg a=true->PI X tg a (tI nm W X.K it)
 |.val e,c,X,tg,a,hc,h=>by
  exact a8i (ju e hc h).v
 |.O6 e,c,X,tg,a,hc,h=>by
  replace h:=jz h;obtain⟨⟨n,ls⟩,h1,h⟩:=h;obtain⟨p,p',rfl⟩:=Jo h1;replace h:=jz h;obtain⟨l,h2,h⟩:=h;cases Bg h2;simp only[au,dq] at h;obtain⟨⟨rfl,h3⟩,h4,h5⟩:=h;exact a8j (Ja hc h3).1 (hc.mg (by decide+kernel)) (ju e hc h5).v h4
 |.enm e,c,X,tg,a,hc,h=>by
  replace h:=jz h;obtain⟨⟨n,ls⟩,h1,h⟩:=h;obtain⟨p,p',rfl⟩:=Jo h1;replace h:=jz h;obtain⟨l,h2,h⟩:=h;cases Bg h2;simp only[au,dq] at h;obtain⟨⟨h6,rfl,h3⟩,h4,h5⟩:=h;obtain⟨ts,h7⟩:=qj.mp h6;obtain⟨k0,pt,rfl⟩:=R8 h7;exact a84 (Ja hc h3).1 (hc.mg (by decide+kernel)) (ju e hc h5).v h4
 |.zip x y,c,X,tg,a,hc,h=>by
  obtain⟨⟨n,ls⟩,h1,h0⟩:=jz (show(Cv (dCN a) λq=>match q.2 with
   | [l,r]=>((aeo tg).isSome&&(decide (q.1 = "zip")&&glB c q.1))&&((noStar l&&noStar r)&&(zq T x c l&&zq T y c r))|_=>false)=true from h)
  obtain⟨p,p',rfl⟩:=Jo h1
  match ls,h1,h0 with
  |[l,r],h1,h =>
   replace h:(((aeo tg).isSome&&(decide (n = "zip")&&glB c n))&&((noStar l&&noStar r)&&(zq T x c l&&zq T y c r)))=true:=h;simp only[au,dq] at h;obtain⟨⟨h6,rfl,h3⟩,⟨h4,h5⟩,h7,h8⟩:=h;obtain⟨ts,h9⟩:=qj.mp h6;obtain⟨k0,pt,rfl⟩:=R8 h9;exact a85 (Ja hc h3).1 (hc.mg (by decide+kernel)) (ju x hc h7).v h4 (ju y hc h8).v h5 (vg (by simp[zp,h5]))
  |[],_,h=>cases h|[_],_,h=>cases h|_::_::_::_,_,h=>cases h
end
end
noncomputable def a9g(e:Ex):Option {b:Bool // (∃v j t it x,e=.comp v j t it x)\/∃v j t it i x,e=.Dg v j t it i x}:=match e with|.comp ..=>some ⟨true,.inl ⟨_,_,_,_,_,rfl⟩⟩|.Dg ..=>some ⟨true,.inr ⟨_,_,_,_,_,_,rfl⟩⟩|_=>none
noncomputable def a1y(T:Tab)(c:Ctx)(l:Lv)(e:Ex)(tg v:Expr):Bool :=
 match l with
 |.tg t=>(tgB c 0 t tg&&((Tw v&&((Xg tg).isSome||axn v))||(match t with|.name _=>(aep v).isSome&&(a9g e).isSome|_=>false)))&&zq T e c v
 |.sub o i=>Cv (ap3 tg) λq=>abi q.2&&(zq T e c v&&(zq T o c q.1&&zq T i c q.2))
 |.fld o f=>Cv (ap5 tg) λq=>(Tw v&&flB T.Qv f q.2.1)&&(zq T e c v&&zq T o c q.1)
noncomputable def a9h(a:Stmt):Option (List Expr×Expr):=Option.map Subtype.val (α:={q:List Expr×Expr // ∃p,a=.Assign q.1 q.2 p}) (match a with|.Assign t v p=>some ⟨(t,v),p,rfl⟩|_=>none)
noncomputable def a9i(a:Stmt):Option Expr:=Option.map Subtype.val (α:={q:Expr // ∃p,a=.Expr q p}) (match a with|.Expr v p=>some ⟨v,p,rfl⟩|_=>none)
noncomputable def a9j(a:Stmt):Option (Expr×List Stmt×List Stmt):=Option.map Subtype.val (α:={q:Expr×List Stmt×List Stmt // ∃p,a=.If q.1 q.2.1 q.2.2 p}) (match a with|.If t l r p=>some ⟨(t,l,r),p,rfl⟩|_=>none)
noncomputable def a9k(a:Stmt):Option (Expr×List Stmt×List Stmt):=Option.map Subtype.val (α:={q:Expr×List Stmt×List Stmt // ∃p,a=.While q.1 q.2.1 q.2.2 p}) (match a with|.While t l r p=>some ⟨(t,l,r),p,rfl⟩|_=>none)
noncomputable def a9l(a:Stmt):Option (Expr×Expr×List Stmt×List Stmt):=Option.map Subtype.val (α:={q:Expr×Expr×List Stmt×List Stmt // ∃p,a=.For q.1 q.2.1 q.2.2.1 q.2.2.2 p}) (match a with|.For t i l r p=>some ⟨(t,i,l,r),p,rfl⟩|_=>none)
noncomputable def a9m(a:Stmt):Option (Option Expr):=Option.map Subtype.val (α:={q:Option Expr // ∃p,a=.Return q p}) (match a with|.Return v p=>some ⟨v,p,rfl⟩|_=>none)
noncomputable def a1z(a:Stmt):Option Nat:=Option.map Subtype.val (α:={n:Nat // (n=0/\∃p,a=.Break p)\/(n=1/\∃p,a=.Continue p)\/(n=2/\∃p,a=.Pass p)}) (match a with|.Break p=>some ⟨0,.inl ⟨rfl,p,rfl⟩⟩|.Continue p=>some ⟨1,.inr (.inl ⟨rfl,p,rfl⟩)⟩|.Pass p=>some ⟨2,.inr (.inr ⟨rfl,p,rfl⟩)⟩|_=>none)
def av2(h:a9h a=some (t,v)):∃p,a=.Assign t v p:=(X4 h :)
def av3(h:a9i a=some v):∃p,a=.Expr v p:=(X4 h :)
def av4(h:a9j a=some (t,l,r)):∃p,a=.If t l r p:=(X4 h :)
def av5(h:a9k a=some (t,l,r)):∃p,a=.While t l r p:=(X4 h :)
def av6(h:a9l a=some (t,i,l,r)):∃p,a=.For t i l r p:=(X4 h :)
def av7(h:a9m a=some v):∃p,a=.Return v p:=(X4 h :)
def ait(h:a1z a=some n):(n=0/\∃p,a=.Break p)\/(n=1/\∃p,a=.Continue p)\/(n=2/\∃p,a=.Pass p):=(X4 h :)
mutual
noncomputable def a2a(T:Tab):Br->Ctx->Stmt->Bool
 |.asg l e,c,a=>Cv (a9h a) λq=>Cv (Qw q.1) λt=>a1y T c l e t q.2
 |.expr e,c,a=>Cv (a9i a) λv=>Tw v&&zq T e c v
 |.iff t x y,c,a=>Cv (a9j a) λq=>R9 q.1&&(zq T t c q.1&&(U7 T x c q.2.1&&U7 T y c q.2.2))
 |.whl t x,c,a=>Cv (a9k a) λq=>(R9 q.1&&q.2.2.isEmpty)&&(zq T t c q.1&&U7 T x c q.2.1)
 |.for_ t it x,c,a=>Cv (a9l a) λq=>(tgB c 0 t q.1&&(Gw q.2.1&&q.2.2.2.isEmpty))&&(av1 T it c q.1 q.2.1&&U7 T x c q.2.2.1)
 |.ret e,c,a=>Cv (a9m a) λv=>Cv v (zq T e c)
 |.asp,_,_=>false|.brk,_,a=>decide (a1z a=some 0)|.cont,_,a=>decide (a1z a=some 1)|.pass,_,_=>false|.raise _ _,_,_=>true
noncomputable def U7(T:Tab):o6->Ctx->List Stmt->Bool
 |.nil,_,a=>a.isEmpty|.cons s r,c,a=>match a with|st::rest=>a2a T s c st&&U7 T r c rest|_=>false
end
noncomputable def swB(c:Ctx)(t:Str)(pt vp:Pos)(sc:Scope):Bool:=(c.sc.lookup t==some NameKind.local&&pt.line==vp.line)&&!(sc.names.any λy=>y.1==t&&(y.2==.local||y.2==.cell))
def agt(hc:Ef T nm W k c X):swapsWith (.ListComp elt gs sc vp) (some (.Name t pt)) l X.env=pure (swB c t pt vp sc):=by
 have b:X.env.blockKind=.function:=by unfold Env.blockKind;rw[hc.kd];rfl
 show(pure (X.env.blockKind==.function&&X.env.kindOf t==some .local&&pt.line==vp.line&&!(sc.names.any λ(n,k)=>n==t&&(k==.local||k==.cell))):Sem Bool)=_;rw[b];unfold Env.kindOf;rw[hc.sc];simp[swB]
def aqe(hc:Ef T nm W k c X)(ht:tgB c 0 (.name i) tg=true)(hv:(aep v).isSome=true)(hw:(a9g e).isSome=true)(h:zq T e c v=true):PS X (.Assign [tg] v p) (tS nm W X.K (.asg (.tg (.name i)) e)):=by
 have nd:X.N.Nodup:=by rw[hc.N];exact hc.nd
 obtain⟨⟨elt,gs,sc⟩,hq⟩:=qj.mp hv;obtain⟨y,py,rfl,hy,_⟩:=agr (nm:=nm) (W:=W) (k:=k) (T:=T) hc ht;obtain⟨⟨_,co⟩,_⟩:=qj.mp hw;obtain⟨vp,rfl⟩:=Xh hq;have sw:=λl=>agt (T:=T) (nm:=nm) (W:=W) (k:=k) hc (elt:=elt) (gs:=gs) (sc:=sc) (vp:=vp) (pt:=py) (t:=y) (l:=l)
 cases hs:swB c y py vp sc with
 |false =>
  rw[hs] at sw;exact ao6 (ju e hc h).v (aiq hc ht).1 (sw p.line) rfl rfl
 |true =>
  rw[hs] at sw;simp only[swB,au] at hs;have hl:X.env.scope.names.lookup y=some .local:=by rw[hc.sc];have:=hs.1.1;simpa using this
  rcases co with⟨v,j,t,it,x,rfl⟩|⟨v,j,t,it,i',x,rfl⟩
  . replace h:=jz h
    obtain⟨⟨bff,gs',sc'⟩,h1,h⟩:=h;cases h1;replace h:=jz h;obtain⟨⟨tg,iter,ifs,as⟩,h2,h⟩:=h;cases Bg h2;simp only[au,qy] at h;obtain⟨⟨h3,rfl⟩,h4,h5⟩:=h;obtain⟨q1,q2,B,hB,hg,q3,q4⟩:=Sd hc h3;cases q2;exact akq B hc.calm (Sg it hc h4) hg (λC fp s H=>(ju x (hB C fp s H) h5).v) q1 q3 q4 nd hy hl (sw p.line)
  . replace h:=jz h
    obtain⟨⟨bff,gs',sc'⟩,h1,h⟩:=h;cases h1;replace h:=jz h;obtain⟨⟨tg,iter,ifs,as⟩,h2,h⟩:=h;cases Bg h2;replace h:=jz h;obtain⟨d,h6,h⟩:=h;cases Bg h6;simp only[au] at h;obtain⟨⟨h3,h7⟩,h4,h8,h5⟩:=h;obtain⟨q1,q2,B,hB,hg,q3,q4⟩:=Sd hc h3;cases q2;exact ad7 B hc.calm (Sg it hc h4) hg (λC fp s H=>(ju i' (hB C fp s H) h8).q h7) (λC fp s H=>(ju x (hB C fp s H) h5).v) q1 q3 q4 nd hy hl (sw p.line)
section
variable{T:Tab}{nm:Nm}{W:Jp}{k:Nat}
def av8(hc:Ef T nm W k c X)(h:a1y T c l e tg v=true):PS X (.Assign [tg] v p) (tS nm W X.K (.asg l e)):=by
 cases l with
 |tg t =>
  simp only[a1y,au,Bool.or_eq_true] at h;obtain⟨⟨h1,h2⟩,h3⟩:=h;rcases h2 with⟨h4,h5⟩|h4
  . have g:=aiq (nm:=nm) hc h1
    have sh:(∃n q,tg=.Name n q)\/∃ts k0 q,tg=.Tuple ts k0 q:=by
     cases t with
     |name i =>
      obtain⟨n,z1,_⟩:=jz h1;exact .inl ⟨n,Oc z1⟩
     |names is =>
      obtain⟨ts,z1,_⟩:=jz h1;exact .inr ⟨ts,R8 z1⟩
    rcases sh with⟨n,q,rfl⟩|⟨ts,k0,q,rfl⟩
    . exact ao6 (ju e hc h3).v g.1 (W4 h4 _ _ _) rfl rfl
    . have w:axn v=true:=by
       rcases h5 with h5|h5
       . cases h5
       . exact h5
      have w2:swappedStores [.Tuple ts k0 q] v X.env=pure none:=by cases v<;>first|rfl|(cases w;done)
      exact ao6 (ju e hc h3).v g.1 (W4 h4 _ _ _) w2 rfl
  . cases t with
    |name i=>rw[au] at h4;exact aqe hc h1 h4.1 h4.2 h3|names _=>cases h4
 |sub o i =>
  replace h:=jz (show Cv (ap3 tg) _=true from h);obtain⟨⟨lo,li⟩,h0,h⟩:=h;obtain⟨p',rfl⟩:=abt h0;simp only[au] at h;obtain⟨h2,h3,h4,h5⟩:=h;refine apc (adx hc.room) (ju e hc h3).v (ju o hc h4).v (ju i hc h5).v λv=>?_
  cases li<;>first|rfl|(cases h2;done)
 |fld o f =>
  replace h:=jz (show Cv (ap5 tg) _=true from h);obtain⟨⟨lo,n,p'⟩,h0,h⟩:=h;cases abu h0;simp only[au] at h;obtain⟨⟨h1,h2⟩,h3,h4⟩:=h;obtain⟨t1,t2⟩:=hc.tab.fl _ _ (mz h2);exact apd t1 t2 (ju e hc h3).v (ju o hc h4).v h1
mutual
theorem av9:∀(s:Br){c:Ctx}{X:Cx}{a:Stmt},Ef T nm W k c X->c.fn=true->a2a T s c a=true->PS X a (tS nm W X.K s)
 |.asg l e,c,X,a,hc,hf,h=>by
  replace h:=jz h;obtain⟨⟨ts,v⟩,h1,h⟩:=h;obtain⟨p,rfl⟩:=av2 h1;replace h:=jz h;obtain⟨t,h2,h⟩:=h;cases Bg h2;exact av8 hc h
 |.expr e,c,X,a,hc,hf,h=>by
  replace h:=jz h;obtain⟨v,h1,h⟩:=h;obtain⟨p,rfl⟩:=av3 h1;simp only[au] at h;exact a0x (ju e hc h.2).v (N8 h.1 _ _ _)
 |.iff t x y,c,X,a,hc,hf,h=>by
  replace h:=jz h;obtain⟨⟨q,l,r⟩,h1,h⟩:=h;obtain⟨p,rfl⟩:=av4 h1;simp only[au] at h;exact a8e ((ju t hc h.2.1).q h.1) (Kh x hc hf h.2.2.1) (Kh y hc hf h.2.2.2)
 |.whl t x,c,X,a,hc,hf,h=>by
  replace h:=jz h;obtain⟨⟨q,l,r⟩,h1,h⟩:=h;obtain⟨p,rfl⟩:=av5 h1;simp only[au,qy] at h;obtain⟨⟨h2,rfl⟩,h3,h4⟩:=h;exact a8f (hc.fnl hf).2 ((ju t hc h3).q h2) (Kh x hc hf h4)
 |.for_ t it x,c,X,a,hc,hf,h=>by
  replace h:=jz h;obtain⟨⟨tg,iter,l,r⟩,h1,h⟩:=h;obtain⟨p,rfl⟩:=av6 h1;simp only[au,qy] at h;obtain⟨⟨h2,h3,rfl⟩,h4,h5⟩:=h;exact a8h (hc.fnl hf).2 hc.calm (Sg it hc h4) (aiq hc h2).1 (Kh x hc hf h5) h3
 |.ret e,c,X,a,hc,hf,h=>by
  replace h:=jz h;obtain⟨v,h1,h⟩:=h;obtain⟨p,rfl⟩:=av7 h1;replace h:=jz h;obtain⟨w,rfl,h⟩:=h;exact a8c (ju e hc h).v
 |.asp,c,X,a,hc,hf,h=>by cases h
 |.brk,c,X,a,hc,hf,h=>by
  rcases ait (mz h) with⟨_,p,rfl⟩|⟨z,_⟩|⟨z,_⟩
  . exact a8d
  . cases z
  . cases z
 |.cont,c,X,a,hc,hf,h=>by
  rcases ait (mz h) with⟨z,_⟩|⟨_,p,rfl⟩|⟨z,_⟩
  . cases z
  . exact a0y
  . cases z
 |.pass,c,X,a,hc,hf,h=>by cases h|.raise _ _,c,X,a,hc,hf,h=>avm
theorem Kh:∀(s:o6){c:Ctx}{X:Cx}{a:List Stmt},Ef T nm W k c X->c.fn=true->U7 T s c a=true->Rk X a (tSs nm W X.K s)
 |.nil,c,X,a,hc,hf,h=>by
  cases qy.mp h;exact a0z
 |.cons s r,c,X,a,hc,hf,h=>by
  cases a with
  |nil=>cases h
  |cons st rest =>
   replace h:(a2a T s c st&&U7 T r c rest)=true:=h;simp only[au] at h;exact aut (av9 s hc hf h.1) (Kh r hc hf h.2)
end
end
structure Def where
 x:Str
 qual:Str
 N:List Str
 ps:List Str
noncomputable def scB(N ps:Yf)(sc:Scope):Bool :=
 (decide (sc.kind=.function)&&(!sc.isCoroutine&&!sc.isGenerator))&&((decide N.Nodup&&decide (N.take ps.length=ps)) &&
 (ps.all (λx=>sc.names.lookup x==some .local||sc.names.lookup x==some .cell)&&sc.names.all (λy=>!(y.2==NameKind.free))))
def a2b(h:scB N ps sc=true):Vm N ps sc:=by simp only[scB,au,dq,Bool.not_eq_true',jc] at h;obtain⟨⟨h1,h2,h3⟩,⟨h4,h5⟩,h6,h7⟩:=h;exact⟨h1,h2,h3,h4,h5,λx m=>by have:=h6 x m;simpa using this,λy m=>by have:=h7 y m;simpa using this⟩
noncomputable def ak1(T:Tab)(d:Def)(F:MW.Fn)(st:Stmt):Bool :=
 (scB d.N d.ps (Ay st)&&(decide (F.np=d.ps.length)&&decide (F.ns=d.N.length)))&&U7 T F.body ⟨d.N,(Ay st).names,true,[]⟩ (Ga st)
set_option tactic.hygienic true in
def awa{F:MW.Fn}(h:F.run W ds M=.ok d M'):ds.length=F.np/\∃fl ρ',F.body.den W (ds.map some++List.replicate (F.ns-F.np) none) M=.ok (fl,ρ') M'/\(fl=.ret d\/(fl=.next/\d=.non)):=by
 unfold MW.Fn.run at h;split at h
 . rename_i hl
   obtain⟨⟨fl,ρ'⟩,M1,e1,e⟩:=dw h;refine⟨hl,fl,ρ',?_⟩;cases fl with
   |ret z=>cases e;exact⟨e1,.inl rfl⟩|next=>cases e;exact⟨e1,.inr ⟨rfl,rfl⟩⟩|brk=>cases e|cont=>cases e
 . cases h
def a2c{IR:MW.Prog}(U:Fun K d.x d.qual st f fd)(hF:IR.fns[i]?=some F)(h:ak1 T d F st=true)(hT:ap1 T nm ⟨IR.call n,IR.cls⟩ k P w K mg base):Fi P w K mg base CX0 (k+17) f fd d.ps (spF nm ⟨IR.call (n+1),IR.cls⟩ K F.np i):=by
 simp only[ak1,au,dq] at h;obtain⟨⟨h1,h2,h3⟩,h4⟩:=h;have S:=a2b h1;have go:∀ds M d' M',MW.Jp.call ⟨IR.call (n+1),IR.cls⟩ i ds M=.ok d' M'->F.run ⟨IR.call n,IR.cls⟩ ds M=.ok d' M':=λds M d' M' e=>by have e:IR.call (n+1) i ds M=.ok d' M':=e;unfold MW.Prog.call at e;rw[hF] at e;exact e
 refine U.ok (k:=k+16) S (λvs H Q E ⟨ι,M,ds,d',M',_,r,l,e,_⟩=>by rw[<- r.length,l,h2]) (λcdv A outer s H vs Q E hr ⟨ι,M,ds,d',M',SM,r,l,e,q⟩=>?_);have hc:Ef T nm ⟨IR.call n,IR.cls⟩ k ⟨d.N,(Ay st).names,true,[]⟩ (agc CX0 P w K mg base d.N d.qual (Ay st) f cdv A outer s H E).nox :=
  ⟨rfl,S.nd,rfl,S.kind,rfl,hr,λ_=>⟨λ_=>rfl,PassesOwn.never⟩,hT,λn h=>by cases h⟩
 refine⟨_,Kh F.body hc rfl h4,?_⟩;obtain⟨hl,fl,ρ',e1,e2⟩:=awa (go _ _ _ _ e);refine⟨ι,_,M,fl,ρ',M',SM,?_,e1,fun ι' H' σ' le S' R'=>?_⟩
 . unfold L2.start
   exact(uw.ao1 r).append (uw.ao0 _ (by rw[List.length_replicate,h3,<- r.length,l]))
 . rcases e2 with rfl|⟨rfl,rfl⟩
   . exact λv rv=>q ι' H' v le S' rv
   . exact q ι' H' _ le S' .non
theorem aiu{nm:Nm}{P:Program}{w:World}{K:Fg}{mg:Zs}{base:Heap}{IR:MW.Prog}{T:Tab}{D:Nat->Def}{st:Nat->Stmt}{fa:Nat->Addr}{fd:Nat->FuncData}
 (U:∀i,i<IR.fns.length->Fun K (D i).x (D i).qual (st i) (fa i) (fd i)) (h:∀i F,IR.fns[i]?=some F->ak1 T (D i) F (st i)=true)
 (mk:∀n,(∀i F,IR.fns[i]?=some F->Fi P w K mg base CX0 (17*n) (fa i) (fd i) (D i).ps (spF nm ⟨IR.call n,IR.cls⟩ K F.np i))->ap1 T nm ⟨IR.call n,IR.cls⟩ (17*n) P w K mg base) :
 ∀n i F,IR.fns[i]?=some F->Fi P w K mg base CX0 (17*n) (fa i) (fd i) (D i).ps (spF nm ⟨IR.call n,IR.cls⟩ K F.np i)
 |0,i,F,hF=>⟨(λvs H Q E ⟨ι,M,ds,d',M',_,r,l,e,_⟩=>by cases e),λA outer s H args us vs Q E hr he hb hv ⟨ι,M,ds,d',M',_,r,l,e,_⟩=>by cases e⟩
 |n+1,i,F,hF=>a2c (U i (ak.mp hF).1) hF (h i F hF) (mk n (aiu U h mk n))
noncomputable def a2d(s:Str):Bool:=s.cps[0]?==some 0
noncomputable def aqf(Qv:Yf):Bool:=decide Qv.Nodup&&Qv.all λs=>!a2d s
noncomputable def aes(Qv:Yf)(i:Nat):Str:=match Qv[i]? with|some s=>s|none=>⟨#[0,0,i]⟩
def aqg(h:aqf Qv=true)(i j:Nat)(e:aes Qv i=aes Qv j):i=j:=by
 simp only[aqf,au,dq,jc] at h;have own:∀k,a2d ⟨#[0,0,k]⟩=true:=λk=>rfl
 unfold aes at e;cases hi:Qv[i]? with
 |some a =>
  rw[hi] at e;cases hj:Qv[j]? with
  |some b =>
   rw[hj] at e;have e:a=b:=e;subst e;obtain⟨l1,e1⟩:=ak.mp hi;obtain⟨l2,e2⟩:=ak.mp hj;exact(vd h.1).mp (e1.trans e2.symm)
  |none =>
   rw[hj] at e;have e:a=⟨#[0,0,j]⟩:=e;have:=h.2 a (aq hi);rw[e,own] at this;cases this
 |none =>
  rw[hi] at e;cases hj:Qv[j]? with
  |some b =>
   rw[hj] at e;have e:(⟨#[0,0,i]⟩:Str)=b:=e;have:=h.2 b (aq hj);rw[<- e,own] at this;cases this
  |none =>
   rw[hj] at e;have e:(⟨#[0,0,i]⟩:Str)=⟨#[0,0,j]⟩:=e;simpa using e
noncomputable def a2e(cas:List (Option Addr))(Qv:Yf)(h:aqf Qv=true):Nm:=⟨λc=>(cas[c]?).join,aes Qv,aqg h⟩
noncomputable def aqh(Qv:Yf)(x:Str):Bool:=!(Qv.contains x)&&!a2d x
def aqi(h:aqh Qv x=true)(i:Nat):aes Qv i≠x:=λe=>by
 simp only[aqh,au,Bool.not_eq_true'] at h;unfold aes at e;cases hi:Qv[i]? with
 |some a =>
  rw[hi] at e;have e:a=x:=e;rw[<- e] at h;have:=List.contains_iff_mem.mpr (aq hi);rw[this] at h;cases h.1
 |none =>
  rw[hi] at e;have e:(⟨#[0,0,i]⟩:Str)=x:=e;rw[<- e] at h;cases h.2
section
variable(K:Fg)(mg:Zs)
noncomputable def abx:List Def->List Stmt->List Addr->List FuncData->Prop
 |d::ds,s::ss,a::as,f::fs=>(Fun K d.x d.qual s a f/\Binds K f d.ps [])/\abx ds ss as fs|[],[],[],[]=>True|_,_,_,_=>False
noncomputable def T7:List (Option (Str×Nat))->List Addr->Prop
 |some p::r,a::as=>mg p.1=some (.ref a)/\T7 r as|none::r,_::as=>T7 r as|_,_=>True
noncomputable def aet(C:Addr)(mts:List (Str×Nat))(Mh:X9):List (Nat×Nat)->Prop
 |q::r=>(∃p a,mts[q.1]?=some p/\Mh[q.2]?=some a/\Meth K C p.1 a)/\aet C mts Mh r|[]=>True
noncomputable def aby(C:Addr):List Str->Prop
 |x::r=>Gu K C x/\aby C r|[]=>True
structure ClF(T:Tab)(Mh:X9)(x:Str)(C:Addr)(cl:MW.Cl):Prop where
 mg:mg x=some (.ref C)
 cs:Cls K C
 ini:∃f,Mh[cl.init]?=some f/\Mk K C f
 me:aet K C T.mts Mh cl.meths
 na:aby K C T.Qv
noncomputable def Oe(T:Tab)(Mh:X9):List (Option (Str×Nat))->List (Option Addr)->List MW.Cl->Prop
 |some p::r,some C::cs,cl::cls=>ClF K mg T Mh p.1 C cl/\Oe T Mh r cs cls|none::r,none::cs,_::cls=>Oe T Mh r cs cls|[],[],[]=>True|_,_,_=>False
noncomputable def abz:List (Str×Int)->Prop
 |p::r=>(∃t,mg p.1=some (.int p.2 t))/\abz r|[]=>True
noncomputable def AllB:List Str->Prop
 |x::r=>mg x=none/\AllB r|[]=>True
end
theorem abx.get{K:Fg}:∀{ds:List Def}{ss:List Stmt}{as:X9}{fs:List FuncData}{i:Nat}{d:Def},abx K ds ss as fs->ds[i]?=some d->∃s a f,ss[i]?=some s/\as[i]?=some a/\fs[i]?=some f/\Fun K d.x d.qual s a f/\Binds K f d.ps []
 |d::ds,s::ss,a::as,f::fs,0,d',h,e=>by cases e;exact⟨s,a,f,rfl,rfl,rfl,h.1⟩
 |d::ds,s::ss,a::as,f::fs,i+1,d',h,e=>by
  obtain⟨s',a',f',h1,h2,h3,h4⟩:=abx.get (i:=i) h.2 (by simpa using e);exact⟨s',a',f',by simpa using h1,by simpa using h2,by simpa using h3,h4⟩
theorem T7.get{mg:Zs}:∀{l:List (Option (Str×Nat))}{as:X9}{i:Nat}{p:Str×Nat}{a:Addr},T7 mg l as->l[i]?=some (some p)->as[i]?=some a->mg p.1=some (.ref a)
 |some q::l,b::as,0,p,a,h,e,e2=>by cases e;cases e2;exact h.1|none::l,b::as,0,p,a,h,e,e2=>by cases e|some q::l,b::as,i+1,p,a,h,e,e2=>T7.get (i:=i) h.2 (by simpa using e) (by simpa using e2)|none::l,b::as,i+1,p,a,h,e,e2=>T7.get (i:=i) (l:=l) (as:=as) h (by simpa using e) (by simpa using e2)
theorem aet.get{K:Fg}{C:Addr}{mts:List (Str×Nat)}{Mh:X9}:∀{l:List (Nat×Nat)}{q:Nat×Nat},aet K C mts Mh l->q∈l->∃p a,mts[q.1]?=some p/\Mh[q.2]?=some a/\Meth K C p.1 a
 |q'::l,q,h,m=>by
  rcases cu.mp m with z|z
  . rw[z];exact h.1
  . exact aet.get h.2 z
theorem aby.get{K:Fg}{C:Addr}:∀{l:Yf}{x:Str},aby K C l->x∈l->Gu K C x
 |y::l,x,h,m=>by
  rcases cu.mp m with z|z
  . rw[z];exact h.1
  . exact aby.get h.2 z
theorem Oe.get{K:Fg}{mg:Zs}{T:Tab}{Mh:X9}:∀{l:List (Option (Str×Nat))}{cs:List (Option Addr)}{cls:List MW.Cl}{c:Nat}{p:Str×Nat},Oe K mg T Mh l cs cls->l[c]?=some (some p)->∃C cl,cs[c]?=some (some C)/\cls[c]?=some cl/\ClF K mg T Mh p.1 C cl
 |some q::l,some C::cs,cl::cls,0,p,h,e=>by cases e;exact⟨C,cl,rfl,rfl,h.1⟩
 |some q::l,some C::cs,cl::cls,c+1,p,h,e=>by
  obtain⟨C',cl',h1,h2,h3⟩:=Oe.get (c:=c) h.2 (by simpa using e);exact⟨C',cl',by simpa using h1,by simpa using h2,h3⟩
 |none::l,none::cs,cl::cls,0,p,h,e=>by cases e
 |none::l,none::cs,cl::cls,c+1,p,h,e=>by
  obtain⟨C',cl',h1,h2,h3⟩:=Oe.get (l:=l) (cs:=cs) (cls:=cls) (c:=c) h (by simpa using e);exact⟨C',cl',by simpa using h1,by simpa using h2,h3⟩
theorem Oe.at{K:Fg}{mg:Zs}{T:Tab}{Mh:X9}:∀{l:List (Option (Str×Nat))}{cs:List (Option Addr)}{cls:List MW.Cl}{c:Nat}{C:Addr},Oe K mg T Mh l cs cls->cs[c]?=some (some C)->Cls K C/\aby K C T.Qv
 |some q::l,some C::cs,cl::cls,0,p,h,e=>by cases e;exact⟨h.1.cs,h.1.na⟩|some q::l,some C::cs,cl::cls,c+1,p,h,e=>Oe.at (c:=c) h.2 (by simpa using e)|none::l,none::cs,cl::cls,0,p,h,e=>by cases e|[],[],_,_,_,_,e=>by simp at e|[],_::_,[],_,_,h,_=>h.elim|[],_::_,_::_,_,_,h,_=>h.elim|none::l,none::cs,cl::cls,c+1,p,h,e=>Oe.at (l:=l) (cs:=cs) (cls:=cls) (c:=c) h (by simpa using e)
theorem abz.get{mg:Zs}:∀{l:List (Str×Int)}{x:Str}{i:Int},abz mg l->(x,i)∈l->∃t,mg x=some (.int i t)
 |q::l,x,i,h,m=>by
  rcases cu.mp m with z|z
  . rw[<- z] at h;exact h.1
  . exact abz.get h.2 z
theorem AllB.get{mg:Zs}:∀{l:Yf}{x:Str},AllB mg l->x∈l->mg x=none
 |q::l,x,h,m=>by
  rcases cu.mp m with z|z
  . rw[z];exact h.1
  . exact AllB.get h.2 z
noncomputable def awb(T:Tab):List MW.Fn->List Def->List Stmt->Bool
 |F::Fs,d::ds,s::ss=>ak1 T d F s&&awb T Fs ds ss|[],[],[]=>true|_,_,_=>false
noncomputable def npB(fns:List MW.Fn)(f n:Nat):Bool:=match fns[f]? with|some F=>F.np==n|none=>false
noncomputable def tfB(fns:List MW.Fn)(l:List (Option (Str×Nat))):Bool:=l.zipIdx.all λq=>match q.1 with|some p=>npB fns q.2 p.2|none=>true
noncomputable def tcB(IR:MW.Prog)(l:List (Option (Str×Nat))):Bool:=l.zipIdx.all λq=>match q.1 with|some p=>(match IR.cls[q.2]? with|some cl=>npB IR.fns cl.init (p.2+1)|none=>false)|none=>true
noncomputable def bfi(cls:List MW.Cl)(m c f:Nat):Bool:=cls.zipIdx.all λq=>match q.1.meths.lookup m with|none=>true|some g=>q.2==c&&g==f
noncomputable def tmB(IR:MW.Prog)(T:Tab)(mcs:List (Nat×Nat)):Bool:=T.mts.zipIdx.all λq=>match mcs[q.2]? with
 |some cf=>(bfi IR.cls q.2 cf.1 cf.2&&(npB IR.fns cf.2 (q.1.2+1)&&aqh T.Qv q.1.1))&&((match T.cls[cf.1]? with|some (some _)=>true|_=>false)&&(match IR.cls[cf.1]? with|some cl=>cl.meths.lookup q.2==some cf.2|none=>false))
 |none=>false
def K6{α:Type}{l:List α}{g:α×Nat->Bool}(h:l.zipIdx.all g=true){x:α}(e:l[i]?=some x):g (x,i)=true:=by rw[jc] at h;exact h (x,i) (by rw[u9];exact⟨i,by rw[Aa,e];simp⟩)
set_option tactic.hygienic true in
def agu(h:npB fns f n=true):∃F,fns[f]?=some F/\F.np=n:=by
 unfold npB at h;split at h
 . rename_i F e;exact⟨F,e,eq_of_beq h⟩
 . cases h
theorem Xi{T:Tab}:∀{Fs:List MW.Fn}{ds:List Def}{ss:List Stmt}{i:Nat}{F:MW.Fn},awb T Fs ds ss=true->Fs[i]?=some F->∃d s,ds[i]?=some d/\ss[i]?=some s/\ak1 T d F s=true
 |F::Fs,d::ds,s::ss,0,F',h,e=>by
  replace h:=Bool.and_eq_true_iff.mp h;cases e;exact⟨d,s,rfl,rfl,h.1⟩
 |F::Fs,d::ds,s::ss,i+1,F',h,e=>by
  replace h:=Bool.and_eq_true_iff.mp h;obtain⟨d',s',h1,h2,h3⟩:=Xi (i:=i) h.2 (by simpa using e);exact⟨d',s',by simpa using h1,by simpa using h2,h3⟩
 |[],_,_,_,_,_,e=>by simp at e|_::_,[],_,_,_,h,_=>by cases h|_::_,_::_,[],_,_,h,_=>by cases h
set_option tactic.hygienic true in
def a2f(hfl:aqf T.Qv=true)(hP:awb T IR.fns Ds ss=true)(h1:tfB IR.fns T.fns=true)(h2:tcB IR T.cls=true)(h3:tmB IR T mcs=true)(aF:abx K Ds ss Mh fds)(aG:T7 mg T.fns Mh)(aC:Oe K mg T Mh T.cls cas IR.cls)(aV:abz mg T.avv)(aB:AllB mg Ob)(hF:IR.fns[i]?=some F) :
 ∃d a f,Ds[i]?=some d/\Mh[i]?=some a/\fds[i]?=some f/\Binds K f d.ps []/\Fi P w K mg base CX0 (17*n) a f d.ps (spF (a2e cas T.Qv hfl) ⟨IR.call n,IR.cls⟩ K F.np i):=by
 let dd:Def:=⟨Str.empty,Str.empty,[],[]⟩
 let sd:Stmt:=.Pass ⟨0,0,0,0⟩
 obtain⟨d,s,g1,g2,g3⟩:=Xi hP hF;have all:∀(i:Nat)(F:MW.Fn),IR.fns[i]?=some F->∃d s a f,Ds[i]?=some d/\ss[i]?=some s/\Mh[i]?=some a/\fds[i]?=some f/\Fun K d.x d.qual s a f/\Binds K f d.ps []/\ak1 T d F s=true:=λi F e=>by obtain⟨d,s,g1,g2,g3⟩:=Xi hP e;obtain⟨s',a,f,k1,k2,k3,k4,k5⟩:=aF.get g1;rw[g2] at k1;cases k1;exact⟨d,s,a,f,g1,g2,k2,k3,k4,k5,g3⟩
 have df:∀{j:Nat}{a:Addr}{f:FuncData}{d:Def},Mh[j]?=some a->fds[j]?=some f->Ds[j]?=some d->(Mh[j]?).getD 0=a/\Ds[j]?.getD dd=d:=λe1 e2 e3=>⟨by rw[e1];rfl,by rw[e3];rfl⟩
 obtain⟨fd0,bly⟩:∃fd0:FuncData,True:=by obtain⟨s',a,f,_⟩:=aF.get g1;exact⟨f,trivial⟩
 have main:=aiu (nm:=a2e cas T.Qv hfl) (P:=P) (w:=w) (K:=K) (mg:=mg) (base:=base) (IR:=IR) (T:=T) (D:=λi=>Ds[i]?.getD dd) (st:=λi=>ss[i]?.getD sd) (fa:=λi=>(Mh[i]?).getD 0) (fd:=λi=>(fds[i]?).getD fd0)
  (λi hi=>by
   obtain⟨d,s,a,f,k1,k2,k3,k4,k5,k6,k7⟩:=all i IR.fns[i] (by simp[hi]);rw[k1,k2,k3,k4];exact k5)
  (λi F e=>by
   obtain⟨d,s,a,f,k1,k2,k3,k4,k5,k6,k7⟩:=all i F e;rw[k1,k2];exact k7)
  (λn G=>?_) n i F hF
 . obtain⟨d',s',a,f,k1,k2,k3,k4,k5,k6,k7⟩:=all i F hF
   refine⟨d',a,f,k1,k3,k4,k6,?_⟩;have:=main;rw[k1,k3,k4] at this;exact this
 ·
  have at_:∀{j:Nat}{F:MW.Fn}{a:Addr},IR.fns[j]?=some F->Mh[j]?=some a->∃(f:FuncData)(d:Def),Binds K f d.ps []/\Fi P w K mg base CX0 (17*n) a f d.ps (spF (a2e cas T.Qv hfl) ⟨IR.call n,IR.cls⟩ K F.np j)/\PySem.W.keepIn K (.ref a)=true:=fun{j F a} e1 e2=>by obtain⟨d,s,a',f,k1,k2,k3,k4,k5,k6,k7⟩:=all j F e1;rw[e2] at k3;cases k3;have g:=G j F e1;rw[k1,e2,k4] at g;exact⟨f,d,k6,g,k5.kp⟩
  have addr:∀{j:Nat}{F:MW.Fn},IR.fns[j]?=some F->∃a,Mh[j]?=some a:=fun{j F} e=>by obtain⟨d,s,a',f,k1,k2,k3,_⟩:=all j F e;exact⟨a',k3⟩
  refine⟨λf x m e=>?_,λc x m e=>?_,λm x j e=>?_,λf x e=>?_,λx i m=>aV.get m,λx m=>aB.get m⟩
  . obtain⟨F,e1,e2⟩:=agu (K6 h1 e)
    obtain⟨a,e3⟩:=addr e1;obtain⟨fd,d,b,g,kp⟩:=at_ e1 e3;rw[e2] at g;exact⟨a,fd,d.ps,g,aG.get e e3,kp,b⟩
  . obtain⟨C,cl,q1,q2,q3⟩:=aC.get e
    have z:=K6 h2 e;simp only[q2] at z;obtain⟨F,e1,e2⟩:=agu z;obtain⟨f,f1,f2⟩:=q3.ini;obtain⟨fd,d,b,g,kp⟩:=at_ e1 f1;rw[e2] at g;exact⟨C,f,fd,d.ps,cl,f2,g,q3.mg,b,q2,by show(cas[c]?).join=some C;rw[q1];rfl⟩
  . have z:=K6 h3 e
    simp only at z;split at z
    . rename_i cf hcf
      simp only[au] at z;obtain⟨⟨z1,z2,z3⟩,z4,z5⟩:=z;obtain⟨F,e1,e2⟩:=agu z2;split at z4
      . rename_i p hp
        obtain⟨C,cl,q1,q2,q3⟩:=aC.get hp;rw[q2] at z5;simp only at z5;have mem:(m,cf.2)∈cl.meths:=mem_of_lookup (eq_of_beq z5);obtain⟨p',a,r1,r2,r3⟩:=q3.me.get mem;rw[e] at r1;cases r1;obtain⟨fd,d,b,g,kp⟩:=at_ e1 r2;rw[e2] at g;refine⟨C,a,fd,d.ps,cf.2,q3.cs,r3,g,b,λc' cl' hc' g' Yw=>?_,aqi z3⟩;have y:=K6 z1 hc';simp only[Yw,au] at y;have y1:c'=cf.1:=eq_of_beq y.1;exact⟨by show(cas[c']?).join=some C;rw[y1,q1];rfl,eq_of_beq y.2⟩
      . cases z4
    . cases z
  . refine⟨by show x=aes T.Qv f;unfold aes;rw[e],λc C hC=>?_⟩
    have hC:(cas[c]?).join=some C:=hC;have hC2:cas[c]?=some (some C):=by
     cases q:cas[c]? with
     |none=>rw[q] at hC;cases hC
     |some o=>rw[q] at hC;cases o with
      |none=>cases hC|some C'=>cases hC;rfl
    obtain⟨y1,y2⟩:=aC.at hC2;exact⟨y1,y2.get (aq e)⟩
def fN:abx K [] [] [] []:=trivial
def gN:T7 mg [] as:=trivial
def gS(h:mg p.1=some (.ref a))(t:T7 mg r as):T7 mg (some p::r) (a::as):=⟨h,t⟩
def gO(t:T7 mg r as):T7 mg (none::r) (a::as):=t
def mN:aet K C mts Mh []:=trivial
def mC(h1:mts[q.1]?=some p)(h2:Mh[q.2]?=some a)(m:Meth K C p.1 a)(t:aet K C mts Mh r):aet K C mts Mh (q::r):=⟨⟨p,a,h1,h2,m⟩,t⟩
def nN:aby K C []:=trivial
def nC(h:Gu K C x)(t:aby K C r):aby K C (x::r):=⟨h,t⟩
def cN:Oe K mg T Mh [] [] []:=trivial
def cO(t:Oe K mg T Mh r cs cls):Oe K mg T Mh (none::r) (none::cs) (cl::cls):=t
def cS(h:ClF K mg T Mh p.1 C cl)(t:Oe K mg T Mh r cs cls):Oe K mg T Mh (some p::r) (some C::cs) (cl::cls):=⟨h,t⟩
def vN:abz mg []:=trivial
def vC(h:mg p.1=some (.int p.2 t))(q:abz mg r):abz mg (p::r):=⟨⟨t,h⟩,q⟩
def bN:AllB mg []:=trivial
def bC(h:mg x=none)(q:AllB mg r):AllB mg (x::r):=⟨h,q⟩
noncomputable abbrev Lk(K:Fg)(f:Addr)(x q:Str)(st:Stmt)(oc:Value)(od:Option Addr)(kV dc pm:Value)(an:Option Addr)(cd ct:Value)(sl:Array (Option Value)):Prop :=
 K.lookup f=some ⟨oc,od,.func (PySem.W.fnOf x q (Iv st) (Ga st) (Ay st) .none kV dc pm an cd ct),sl⟩/\PySem.W.codeIn K cd q=true/\PySem.W.keepIn K (.ref f)=true
def bfk{α:Type}{us:List α}(h:us.length=1):∃a,us=[a]:=match us,h with|[a],_=>⟨a,rfl⟩
def bfl{α:Type}{us:List α}(h:us.length=2):∃a b,us=[a,b]:=match us,h with|[a,b],_=>⟨a,b,rfl⟩
def bfm{α:Type}{us:List α}(h:us.length=3):∃a b c,us=[a,b,c]:=match us,h with|[a,b,c],_=>⟨a,b,c,rfl⟩
def bfn{α:Type}{us:List α}(h:us.length=4):∃a b c d,us=[a,b,c,d]:=match us,h with|[a,b,c,d],_=>⟨a,b,c,d,rfl⟩
def bfo{α:Type}{us:List α}(h:us.length=5):∃a b c d e,us=[a,b,c,d,e]:=match us,h with|[a,b,c,d,e],_=>⟨a,b,c,d,e,rfl⟩
def bfp{α:Type}{us:List α}(h:us.length=6):∃a b c d e f,us=[a,b,c,d,e,f]:=match us,h with|[a,b,c,d,e,f],_=>⟨a,b,c,d,e,f,rfl⟩
def fE{kV:Value}(l:Lk K a d.x d.qual s oc od kV dc pm an cd ct sl)(r:abx K ds ss as fs)
 (b:∀(kV doc pm:Value)(an:Option Addr)(cdv ct:Value)(us:Zl),us.length=d.ps.length->bindArgs (PySem.W.fnOf d.x d.qual (Iv s) (Ga s) (Ay s) .none kV doc pm an cdv ct) ⟨us,[]⟩=pure (d.ps.zip us):=by intro _ _ _ _ _ _ us hl;first|(obtain⟨_,rfl⟩:=Ck.bfk hl;rfl)|(obtain⟨_,_,rfl⟩:=Ck.bfl hl;rfl)|(obtain⟨_,_,_,rfl⟩:=Ck.bfm hl;rfl)|(obtain⟨_,_,_,_,rfl⟩:=Ck.bfn hl;rfl)|(obtain⟨_,_,_,_,_,rfl⟩:=Ck.bfo hl;rfl)|(obtain⟨_,_,_,_,_,_,rfl⟩:=Ck.bfp hl;rfl)) :
 abx K (d::ds) (s::ss) (a::as) (PySem.W.fnOf d.x d.qual (Iv s) (Ga s) (Ay s) .none kV dc pm an cd ct::fs):=⟨⟨aox l.1 l.2.1 l.2.2,(aox l.1 l.2.1 l.2.2).binds b⟩,r⟩
noncomputable def aiv(K:Fg):Sp:=λvs H Q _=>∃(a:Addr)(ns:Xs),vs=[.ref a]/\Only H/\Gd K H a (ns.map V.int)/\ns.length<=63/\∀H',Q (.bl true) H'
def awc(o:Only H)(h:Gd K H a vs):agj K H a vs:=by
 rcases h with(h|h)|h
 . rcases o a with z|⟨ob,xs,z⟩<;>rw[z] at h<;>cases h
 . exact .inl h
 . exact .inr h
def awd(run:∀(ns:Xs),ns.length<=63->∃M',W.call i [.fz (ns.map MW.D.int)] []=.ok (.bl true) M')(h:aiv K vs H Q E):spF nm W K 1 i vs H Q E:=by obtain⟨a,ns,rfl,o,hS,hl,k⟩:=h;obtain⟨M',e⟩:=run ns hl;refine⟨⟨[],[]⟩,[],_,_,M',⟨rfl,xg,by simp,λn o a h=>by simp at h⟩,.cons (.fz (awc o hS) (lz.ints ns)) .nil,rfl,e,fun ι' H' v le S' r=>?_⟩;cases r;exact k H'
def walk{l:PySem.W.OpenLaw}{K:Params->Fg}(hn:l.most=some 63)(hdf:d.params.defaults=[])(hY:∀(w:World) (h:Heap),YP w h->(K w.params).In h)(F:∀(w:World) (mg:Zs) (fa:Addr) (h:Heap),(K w.params).In h->h.Ns mainGlobals mg->mg d.name=some (.ref fa) ->
 ∃fd:FuncData,(∀(s:Shared) (u:Value),BindsTo s fd ⟨[u],[]⟩ [("script",u)])/\∀base:Heap,(K w.params).In base->base.Ns mainGlobals mg->Fi l.prog w (K w.params) mg base CX0 170 fa fd ["script"] (aiv (K w.params))) :
 PySem.W.WalkO q loose XP YP l.row.toRowW d [] (λf vs=>PySem.call f vs) :=
 L2.auk (n:=63) (k:=170) (x := "script") (CX:=λ_=>CX0) (sp:=λw=>aiv (K w.params)) hn (by decide) hdf ⟨rfl,by decide,by decide⟩ hY F (λ_ _ a ns hl ho hS=>⟨a,ns,rfl,ho,hS,hl,λ_=>rfl⟩) λ_ _ _ _ _ z=>z
end Ck
namespace K05
open PySem L2
noncomputable def top(i:Nat):Stmt:=PySem.Challenge.pw_mapwright_k05_whole_ways_and_things.main.body.getD i (.Pass ⟨0,0,0,0⟩)
noncomputable def sts:List Stmt:=[inClass (top 7) 0,inClass (top 7) 1,inClass (top 7) 2,inClass (top 7) 3,inClass (top 7) 4,inClass (top 7) 5,top 8,top 9,top 10,top 11,top 12,top 13,top 24,top 25,top 26,top 27,top 28,top 29,top 30,top 31,top 32,top 15,top 16,top 17,top 18,top 19,top 20,top 21,top 22,top 33,top 34,top 35,top 36,top 37,top 38]
noncomputable def Ds:List Ck.Def:=[⟨"__init__", "Pattern.__init__",["self", "kinds", "doings", "table"],["self", "kinds", "doings", "table"]⟩,⟨"kinds", "Pattern.kinds",["self"],["self"]⟩,⟨"doings", "Pattern.doings",["self"],["self"]⟩,⟨"behind", "Pattern.behind",["self", "one", "other"],["self", "one", "other"]⟩,⟨"ways", "Pattern.ways",["self", "kind"],["self", "kind"]⟩,⟨"end", "Pattern.end",["self", "kind", "way"],["self", "kind", "way"]⟩,⟨"both_ways", "both_ways",["table", "one", "other"],["table", "one", "other"]⟩,⟨"meeting_pairs", "meeting_pairs",["doings", "pairs", "one", "ends", "other", "more"],["doings"]⟩,⟨"is_way_between", "is_way_between",["doings", "way", "start", "goal"],["doings", "way", "start", "goal"]⟩,⟨"check_doings", "check_doings",["kinds", "doings", "ends"],["kinds", "doings"]⟩,⟨"check_table", "check_table",["doings", "table", "pairs", "one", "other"],["doings", "table"]⟩,⟨"check_threes", "check_threes",["doings", "table", "pairs", "one", "other", "last", "ahead", "after"],["doings", "table"]⟩,⟨"_law_cell_at", "_law_cell_at",["script", "k"],["script", "k"]⟩,⟨"_law_state", "_law_state",["script", "k", "cell"],["script", "k"]⟩,⟨"_law_take", "_law_take",["state", "many", "found", "mixed"],["state", "many"]⟩,⟨"_law_begun", "_law_begun",["state", "way", "graph", "loops", "swap", "known", "kinds", "sizes", "found", "k", "one", "other"],["state"]⟩,⟨"_law_closed", "_law_closed",["begun", "found", "one", "other", "row", "k", "j", "first", "second", "more"],["begun"]⟩,⟨"_law_pattern", "_law_pattern",["state", "begun", "closed", "kinds", "table", "j", "k", "more"],["state"]⟩,⟨"_law_ways", "_law_ways",["pat", "kind"],["pat", "kind"]⟩,⟨"_law_end", "_law_end",["pat", "kind", "way"],["pat", "kind", "way"]⟩,⟨"_law_behind", "_law_behind",["pat", "one", "other"],["pat", "one", "other"]⟩,⟨"is_world", "is_world",["pattern", "world"],["pattern", "world"]⟩,⟨"has_sizes", "has_sizes",["pattern", "world", "sizes"],["pattern", "world"]⟩,⟨"has_acts", "has_acts",["pattern", "world", "sizes", "acts", "doings", "act", "ends"],["pattern", "world"]⟩,⟨"keeps_table", "keeps_table",["pattern", "world", "one", "other", "both", "thing", "between"],["pattern", "world"]⟩,⟨"led", "led",["world", "thing", "way"],["world", "thing", "way"]⟩,⟨"things", "things",["world"],["world"]⟩,⟨"renumbered", "renumbered",["pattern", "world", "orders", "acts", "act", "ends"],["pattern", "world", "orders"]⟩,⟨"renumbered_act", "renumbered_act",["act", "here", "there", "fresh", "thing", "goal"],["act", "here", "there"]⟩,⟨"_law_merged", "_law_merged",["pat", "marks", "acts", "changed", "k", "one", "other", "first", "thing", "mark", "end", "low", "high"],["pat", "marks", "acts"]⟩,⟨"_law_world", "_law_world",["state", "pat", "most", "rows", "number", "kind", "some", "end", "way", "acts", "k", "one", "other", "marks", "low", "high", "heads", "told", "row"],["state", "pat", "most"]⟩,⟨"_law_orders", "_law_orders",["state", "world", "found", "size", "left"],["state", "world"]⟩,⟨"_law_grouped", "_law_grouped",["pattern", "world", "kind", "one", "other", "far", "way_on", "third", "thing"],["pattern", "world", "kind", "one", "other"]⟩,⟨"_law_back", "_law_back",["orders"],["orders"]⟩,⟨"law", "law",["script", "state", "pat", "pattern", "world", "kind", "one", "other", "orders", "turned"],["script"]⟩]
noncomputable def tab:Ck.Tab:=⟨[none,none,none,none,none,none,(some ("both_ways",3):Y2),(some ("meeting_pairs",1):Y2),(some ("is_way_between",4):Y2),(some ("check_doings",2):Y2),(some ("check_table",2):Y2),(some ("check_threes",2):Y2),(some ("_law_cell_at",2):Y2),(some ("_law_state",2):Y2),(some ("_law_take",2):Y2),(some ("_law_begun",1):Y2),(some ("_law_closed",1):Y2),(some ("_law_pattern",1):Y2),(some ("_law_ways",2):Y2),(some ("_law_end",3):Y2),(some ("_law_behind",3):Y2),(some ("is_world",2):Y2),(some ("has_sizes",2):Y2),(some ("has_acts",2):Y2),(some ("keeps_table",2):Y2),(some ("led",3):Y2),(some ("things",1):Y2),(some ("renumbered",3):Y2),(some ("renumbered_act",3):Y2),(some ("_law_merged",3):Y2),(some ("_law_world",3):Y2),(some ("_law_orders",2):Y2),(some ("_law_grouped",5):Y2),(some ("_law_back",1):Y2),(some ("law",1):Y2)],[none,none,some ("Pattern",3)],[("kinds",0),("doings",0),("behind",2),("ways",1),("end",2)],["together", "doing_ends", "kind_count"],[("STAYING",-1),("MOST_KINDS",3),("MOST_DOINGS",5)]⟩
noncomputable def mcs:List (Nat×Nat):=[(2,1),(2,2),(2,3),(2,4),(2,5)]
def chk:Ck.awb tab prog.fns Ds sts=true:=by decide+kernel
def bfq:Ck.aqf tab.Qv=true:=by decide+kernel
def bfr:Ck.tfB prog.fns tab.fns=true:=by decide+kernel
def bfs:Ck.tcB prog tab.cls=true:=by decide+kernel
def bft:Ck.tmB prog tab mcs=true:=by decide+kernel
open MW
noncomputable def Eb(hs:List F)(k i:Nat):Bool:=match hs[i]? with|some f=>decide (f.a=k)|none=>false
noncomputable def ou(hs:List F)(k:Nat):List D:=.int (-1)::((List.range hs.length).filter (Eb hs k)).map nD
def Az(h:d∈ou hs k):d=.int (-1)\/∃(i:Nat)(f:F),d=.int i/\hs[i]?=some f/\f.a=k:=by
 rcases cu.mp h with q|q
 . exact .inl q
 . obtain⟨i,hi,rfl⟩:=bf.mp q
   obtain⟨h1,h2⟩:=uy.mp hi;have Xz:=ig.mp h1;have e:hs[i]?=some hs[i]:=by simp[Xz]
   rw[Eb,e] at h2;exact .inr ⟨i,hs[i],rfl,e,by simpa using h2⟩
def Sh(h:d∈ou hs k):∃i:Int,d=.int i:=by rcases Az h with rfl|⟨i,f,rfl,_⟩<;>exact⟨_,rfl⟩
def aeu(hl:hs.length<=5):(ou hs k).length<=6:=by have:=xm (Eb hs k) (List.range hs.length);simp at this;simp[ou];exact a_ this hl
noncomputable def vo(K r:Nat)(hs:List F):D:=.tup [.int K,Gb hs,.ref r]
def Xj(K r:Nat)(hs:List F)(M:di):Ax (vo K r hs) (.int 0) M=some (.int K):=rfl
def Qg(K r:Nat)(hs:List F)(M:di):Ax (vo K r hs) (.int 1) M=some (Gb hs):=rfl
def axx(K r:Nat)(hs:List F)(M:di):Ax (vo K r hs) (.int 2) M=some (.ref r):=rfl
def Made.keep(h:Made n r K hs gw M)(k:yt M M'):Made n r K hs gw M':=⟨k _ _ h.1,k _ _ h.2⟩
def Made.f2(h:Made n r K hs gw M):Q5 (.ref n) 2 M=some (.int K):=by simp[Q5,h.1,List.lookup]
def Made.f1(h:Made n r K hs gw M):Q5 (.ref n) 1 M=some (Gb hs):=by simp[Q5,h.1,List.lookup]
def Made.f0(h:Made n r K hs gw M):Q5 (.ref n) 0 M=some (.ref r):=by simp[Q5,h.1,List.lookup]
def kinds_ok(hm:1<=m)(h:Made n r K hs gw M):prog.call m 1 [.ref n] M=.ok (.int K) M:=by rw[call_of hm rfl];simp[Fn.run,Lb,La,h.f2]
def T8(hm:1<=m)(h:Made n r K hs gw M):prog.call m 2 [.ref n] M=.ok (Gb hs) M:=by rw[call_of hm rfl];simp[Fn.run,J0,Jz,h.f1]
def Kl(hm:2<=m)(h:Made n r K hs gw M)(hv:bothW hs gw x y=some v):prog.call m 3 [.ref n,.int x,.int y] M=.ok v M:=by rw[call_of (by omega) rfl];simp[Fn.run,J2,J1,h.f0,aay (show 1<=m-1 by omega) h.2 hv]
def ab0(hm:1<=m)(h:Made n r K hs gw M)(hl:hs.length<=5){k:Nat}:prog.call m 4 [.ref n,.int k] M=.ok (.ref M.length) (M++[.lst (ou hs k)]):=by
 rw[call_of hm rfl];have hc:El.den ⟨prog.call (m-1),prog.cls⟩ [some (.ref n),some (.int k)] M=.ok (.vl (((List.range hs.length).filter (Eb hs k)).map nD)) M:=by
  unfold El;rw[Wb (ds:=hs.map eD) (M1:=M) (q:=Eb hs k) (g:=nD) (by simp[h.f1,Gb]) (by simp;exact a_ hl (by decide)) (λi x hx=>by
   obtain⟨f,hf,rfl⟩:∃f,hs[i]?=some f/\eD f=x:=by simpa using hx
   refine⟨_,Ce _ _ _ _ _,?_,λ_=>?_⟩
   . simp[-eq_int,Us,Ba,Eb,hf]
   . simp[nD])]
  simp
 have:=ajs (M:=M) [.int (-1)] (((List.range hs.length).filter (Eb hs k)).map nD) (by
  have:=xm (Eb hs k) (List.range hs.length);simp at this ⊢
  lia)
 simp[Fn.run,Mr,Mq,hc,this,MW.new,ou]
def a2g(hm:1<=m)(h:Made n r K hs gw M){k i:Nat}(hf:hs[i]?=some f):prog.call m 5 [.ref n,.int k,.int i] M=.ok (.int f.b) M:=by
 rw[call_of hm rfl];have ni:¬((i:Int)=-1):=by lia
 simp[Fn.run,Jf,Je,ni,h.f1,Ri hf,Ut]
def aqj(hm:1<=m)(h:Made n r K hs gw M){k:Nat}:prog.call m 5 [.ref n,.int k,.int (-1)] M=.ok (.int k) M:=by rw[call_of hm rfl];simp[Fn.run,Jf,Je]
def aqk(hm:1<=m)(hl:hs.length<=5){k:Nat}:prog.call m 18 [vo K r hs,.int k] M=.ok (.vl (ou hs k)) M:=by
 rw[call_of hm rfl];have hc:Jg.den ⟨prog.call (m-1),prog.cls⟩ [some (vo K r hs),some (.int k)] M=.ok (.vl (((List.range hs.length).filter (Eb hs k)).map nD)) M:=by
  unfold Jg;rw[Wa (n:=hs.length) (M1:=M) (q:=Eb hs k) (g:=nD) (by simp[Qg,Nv]) (a_ hl (by decide)) (λi hi=>by
   have e:hs[i]?=some hs[i]:=by simp[hi]
   refine⟨_,rfl,?_,λ_=>?_⟩
   . simp[-eq_int,Qg,Ri e,Us,Ba,Eb,hi]
   . simp[nD])]
  simp
 have:=Yu (M:=M) [.int (-1)] (((List.range hs.length).filter (Eb hs k)).map nD) (by
  have:=xm (Eb hs k) (List.range hs.length);simp at this ⊢
  lia)
 simp[Fn.run,Uj,Ui,hc,this,ou]
def awe(hm:1<=m){k i:Nat}(hf:hs[i]?=some f):prog.call m 19 [vo K r hs,.int k,.int i] M=.ok (.int f.b) M:=by
 rw[call_of hm rfl];have ni:¬((i:Int)<0):=by lia
 simp[Fn.run,Qo,Qn,ni,Qg,Ri hf,Ut]
def ak2(hm:1<=m){k:Nat}:prog.call m 19 [vo K r hs,.int k,.int (-1)] M=.ok (.int k) M:=by rw[call_of hm rfl];simp[Fn.run,Qo,Qn]
def agv(hm:1<=m)(hr:M[r']?=some (.dT gw))(hx:-1<=x)(hy:-1<=y)(hv:bothW hs gw x y=some v):prog.call m 20 [vo K r' hs,.int x,.int y] M=.ok v M:=by
 rw[call_of hm rfl];unfold bothW at hv
 by_cases ex:x=-1
 . rw[cz ex] at hv;cases hv
   subst ex;have:(-1:Int)+y+1=y:=by lia
   simp[Fn.run,Fw,Fv,this]
 . rw[bx ex] at hv
   have nx:¬x<0:=by lia
   by_cases ey:y=-1
   . rw[cz ey] at hv;cases hv
     subst ey;have:x+(-1:Int)+1=x:=by lia
     simp[Fn.run,Fw,Fv,nx,this]
   . rw[bx ey] at hv
     have ny:¬y<0:=by lia
     simp[Fn.run,Fw,Fv,nx,ny,axx,acu hr (Yv x y),hv]
def Bj(ho:o.den W ρ M=.ok (.ref n) M)(he:es.den W ρ M=.ok ds M)(hn:M[n]?=some (.ins c fs))(hm:(W.cls[c]?).bind (λC=>C.meths.lookup mm)=some fi) :
 (Ex.meth o mm es).den W ρ M=W.call fi (.ref n::ds) M:=by
 rw[Bs,ho,Res.Ab,he,Res.Ab];simp only[hn,hm]
end K05
namespace MW
def U8(ha:a.den W ρ M=.ok x M1)(hb:b.den W ρ M1=.ok y M2)(hx:aag x=some ds)(hy:aag y=some es)(I:Nat->Env->di->Prop)(h0:I 0 ρ M2)(step:∀i p ρ M,((ds.zip es).map λp=>D.tup [p.1,p.2])[i]?=some p->I i ρ M->∃ρ1 fl ρ' M',t.put p ρ=some ρ1/\bd.den W ρ1 M=.ok (fl,ρ') M'/\(fl=.next\/fl=.cont)/\I (i+1) ρ' M') :
 ∃ρ' M',(Br.for_ t (.zip a b) bd).den W ρ M=.ok (.next,ρ') M'/\I ((ds.zip es).map λp=>D.tup [p.1,p.2]).length ρ' M':=by
 rw[Ou];show ∃ρ' M',((a.den W ρ M).bind _).bind _=_/\_;rw[ha,Res.Ab,hb,Res.Ab,hx,Res.By,Res.Ab,hy,Res.By,Res.Ab,Res.Ab];exact Q9 I h0 (λi x ρ M hx h=>by
  obtain⟨ρ1,fl,ρ',M',a,b,c,d⟩:=step i x ρ M hx h;exact⟨fl,ρ',M',by rw[a];exact b,c,d⟩)
end MW
namespace K05
open MW
noncomputable def Ar(hs:List F)(k:Nat):D->Nat
 |.int i=>if i=-1 then k else match hs[i.toNat]? with|some f=>f.b|none=>0
 |_=>0
noncomputable def wT(hs:List F)(k g:Nat):List D:=(ou hs k).filter λd=>decide (Ar hs k d=g)
def ab1(h:d∈wT hs k g):d∈ou hs k/\Ar hs k d=g:=by have:=uy.mp h;exact⟨this.1,by simpa using this.2⟩
def Bq{i:Nat}(h:hs[i]?=some f):Ar hs k (.int i)=f.b:=by
 have:¬((i:Int)=-1):=by lia
 simp[Ar,this,h]
def agw{i:Nat}(h:hs[i]?=some f)(e:f.a=k):.int i∈ou hs k:=by refine bh _ (bf.mpr ⟨i,uy.mpr ⟨ig.mpr (ak.mp h).1,?_⟩,rfl⟩);simp[Eb,h,e]
def axy{i:Nat}(h:hs[i]?=some f)(e:f.a=k):.int i∈wT hs k f.b :=
 uy.mpr ⟨agw h e,by simp[Bq h]⟩
def a2h(h:d∈wT hs k g):∃i:Int,d=.int i:=Sh (ab1 h).1
noncomputable def bv(hs:List F)(gw:List (List Kx×D))(j:Nat):D->Int
 |.int x=>match bothW hs gw x j with|some (.int v)=>v|_=>0
 |_=>0
def aiw(P:Lw sz K hs gw){j:Nat}(hj:hs[j]?=some f)(hd:d∈wT hs k f.a) :
 ∃x:Int,d=.int x/\-1<=x/\bothW hs gw x j=some (.int (bv hs gw j d))/\.int (bv hs gw j d)∈wT hs k f.b:=by
 obtain⟨h1,h2⟩:=ab1 hd;have nj:¬((j:Int)=-1):=by lia
 rcases Az h1 with rfl|⟨i,g,rfl,hg,e⟩
 . have e:k=f.a:=by simpa[Ar] using h2
   have:bothW hs gw (-1) j=some (.int j):=by simp[bothW]
   refine⟨-1,rfl,by lia,by simp[bv,this],?_⟩;simp only[bv,this];exact axy hj e.symm
 . rw[Bq hg] at h2
   have ni:¬((i:Int)=-1):=by lia
   have:bothW hs gw i j=some (.int (ent hs g f)):=by rw[bothW,bx ni,bx nj];exact P.look hg hj h2
   refine⟨i,rfl,by lia,by simp[bv,this],?_⟩;simp only[bv,this];have mg:=aq hg;have mf:=aq hj;rw[Jk];rcases P.Ci (P.cl g mg f mf h2) with⟨x1,i1⟩|⟨u,hu,x1⟩
   . rw[x1]
     refine uy.mpr ⟨by simp[ou],?_⟩;have:g.a=f.b:=i1.1;simp[Ar,<- e,this]
   . rw[x1]
     exact axy (f:=g.comp f) hu e
noncomputable def ixI(v:Int)(ds:List D):Nat:=(ds.findIdx? λd=>match d with|.int i=>decide (i=v)|_=>false).getD 0
theorem aev(M:di)(v:Int):∀ds:List D,(∀d∈ds,∃i:Int,d=.int i)->O7 M (.int v) ds=some (ds.map λd=>match d with|.int i=>decide (i=v)|_=>false)
 |[],_=>rfl
 |d::l,h=>by
  obtain⟨i,rfl⟩:=h d (by simp);simp[O7,aev M v l (λx hx=>h x (bh _ hx))]
theorem aew{α:Type}(f:α->Bool):∀l:List α,(l.map f).findIdx? id=l.findIdx? f
 |[]=>rfl|a::l=>by simp[List.findIdx?_cons,aew f l]
def aex(hi:∀d∈ds,∃i:Int,d=.int i)(h:.int v∈ds):Ec .index (.vl ds) [.int v] M=.ok (.int (ixI v ds)) M:=by
 have e:Q3 M (.int v) ds=some (ixI v ds):=by
  rw[Q3,aev M v ds hi,q9,aew];unfold ixI;cases q:ds.findIdx? (λd=>match d with|.int i=>decide (i=v)|_=>false) with
  |some j=>rfl
  |none =>
   rw[uz] at q;have:=q _ h;simp at this
 simp[Ec,e]
end K05
namespace K05
open MW
def aql(hm:1<=m)(hd:d∈ou hs k):prog.call m 19 [vo K r hs,.int k,d] M=.ok (.int (Ar hs k d)) M:=by
 rcases Az hd with rfl|⟨i,f,rfl,hf,_⟩
 . rw[ak2 hm];simp[Ar]
 . rw[awe hm hf,Bq hf]
noncomputable def RS(p K:Nat)(rs:Nat->List D)(M:di):Prop:=∀i,i<K->M[p+i]?=some (.lst (rs i))
noncomputable def wk(p K:Nat):List D:=(List.range K).map λi=>.ref (p+i)
theorem RS.keep(h:RS p K rs M)(s:St t f M M')(ht:t<p):RS p K rs M':=λi hi=>s.keep _ _ (i_ (b_ ht x_)) (h i hi)
def ab2(hi:i<K):Ax (.vl (wk p K)) (.int i) M=some (.ref (p+i)):=Cj rfl q_ (by simp[wk,hi])
def aqm(hy:y=ρ.length)(he:e.den W ρ M=.ok (.int K) M)(hK:K<=100000) :
 (Ex.comp true 1 (.name y) (.O6 e) (.lst .nil)).den W ρ M=.ok (.vl (wk M.length K)) (M++List.replicate K (.lst [])):=by
 subst hy;obtain⟨ys,M',g,h1,h2⟩:=Kr (v:=true) (k:=1) (t:=.name ρ.length) (e:=.lst .nil) he hK (λi xs M'=>xs=wk M.length i/\M'=M++List.replicate i (.lst [])) ⟨rfl,by simp⟩
  (λi xs M' hi hI=>by
   obtain⟨rfl,rfl⟩:=hI;refine⟨_,.ref (M.length+i),M++List.replicate i (MO.lst [])++[MO.lst []],rfl,by simp[MW.new],?_,?_⟩
   . simp[wk,List.range_succ]
   . simp[List.replicate_succ'])
 rw[g,h1,h2];rfl
noncomputable def rowsOf(hs:List F)(ad:List (Nat×Nat))(e:Nat):List D:=ad.flatMap λp=>(wT hs p.2 e).map λw=>.tup [.int p.1,.int p.2,w]
def Xk(hs:List F)(ad:List (Nat×Nat))(p:Nat×Nat)(e:Nat):rowsOf hs (ad++[p]) e=rowsOf hs ad e++(wT hs p.2 e).map λw=>.tup [.int p.1,.int p.2,w]:=by simp[rowsOf]
def awf(P:Lw sz K hs gw)(hk:k<K)(hd:d∈ou hs k):Ar hs k d<K:=by
 rcases Az hd with rfl|⟨i,f,rfl,hf,_⟩
 . simpa[Ar] using hk
 . rw[Bq hf];exact P.Ti f (aq hf)
def awg(hm:1<=m)(hl:hs.length<=5)(h1:ρ[1]?=some (some (vo K r hs)))(h5:ρ[5]?=some (some (.int k)))(hy:ρ.length=19) :
 Hv.den ⟨prog.call m,prog.cls⟩ ρ M=.ok (.vl ((ou hs k).map λw=>.tup [.int (Ar hs k w),w])) M:=by
 unfold Hv;rw[Am (d:=.vl (ou hs k)) (ds:=ou hs k) (M1:=M) (g:=λw=>.tup [.int (Ar hs k w),w]) (by simp[h1,h5,aqk hm hl]) rfl (iu (aeu hl) (by decide)) (λx hx=>by
  refine⟨_,rfl,?_⟩;have e1:(ρ++List.replicate 1 none).set 19 (some x)=ρ++[some x]:=by rw[List.set_append];simp[hy]
  rw[e1];have g1:(ρ++[some x])[1]?=some (some (vo K r hs)):=by rw[dm (b_ (by decide) (g_ hy))];exact h1
  have g5:(ρ++[some x])[5]?=some (some (.int k)):=by rw[dm (b_ (by decide) (g_ hy))];exact h5
  have g9:(ρ++[some x])[19]?=some (some x):=by rw[<- hy];simp
  simp[g1,g5,g9,aql hm hx])]
 rfl
noncomputable def Yg(p:Nat)(M M':di):Prop:=∀(a:Nat)(o:MO),a<p->M[a]?=some o->M'[a]?=some o
def Yg.refl(p:Nat)(M:di):Yg p M M:=λ_ _ _ h=>h
def Yg.trans(a:Yg p M M1)(b:Yg p M1 M2):Yg p M M2:=λx o h e=>b x o h (a x o h e)
theorem Yg.set(h:p<=q):Yg p M (M.set q o):=λa u ha e=>by rw[qu (i_ (b_ ha h))];exact e
noncomputable def Zu(n k:Nat)(w:D):D:=.tup [.int n,.int k,w]
def axz(n k:Nat)(w:D):D.tup [.int n,.int k,w]=Zu n k w:=rfl
noncomputable def ab3(hs:List F)(rs:Nat->List D)(n k j:Nat)(e:Nat):List D:=rs e++(((ou hs k).take j).filter λw=>decide (Ar hs k w=e)).map (Zu n k)
def aqn(hs:List F)(rs:Nat->List D)(n k e:Nat):ab3 hs rs n k (ou hs k).length e=rs e++(wT hs k e).map (Zu n k):=by unfold ab3 wT;rw[List.take_length]
def aqo(hl:hs.length<=5)(h7:(rs e).length<=7):(ab3 hs rs n k j e).length<=13:=by
 have h1:=xm (λw=>decide (Ar hs k w=e)) ((ou hs k).take j);have h2:=aeu (k:=k) hl;have h3:((ou hs k).take j).length<=(ou hs k).length:=by simp;lia
 simp only[ab3,ug,gm]
 lia
def Z8(P:Lw sz K hs gw)(hk:k<K)(h:RS p K rs M)(h7:∀e,e<K->(rs e).length<=7)(hr:rest.length=10) :
 ∃b7 b8 M',Nj.den W ([a0,a1,a2,some (.vl (wk p K)),some (.int n),some (.int k),some (.vl ((ou hs k).map λw=>.tup [.int (Ar hs k w),w])),b7',b8']++rest) M
  = .ok (.next,[a0,a1,a2,some (.vl (wk p K)),some (.int n),some (.int k),some (.vl ((ou hs k).map λw=>.tup [.int (Ar hs k w),w])),b7,b8]++rest) M'/\RS p K (λe=>rs e++(wT hs k e).map (Zu n k)) M'/\Yg p M M'/\M'.length=M.length:=by
 have hl:=P.len;obtain⟨ρ',M',e,⟨c7,c8,rfl⟩,r1,r2,r3⟩:=Bl (W:=W) (t:=.names [7,8]) (b:=Dw) (it:=.v 6) (d:=.vl ((ou hs k).map λw=>.tup [.int (Ar hs k w),w])) (ds:=(ou hs k).map λw=>.tup [.int (Ar hs k w),w])
  (ρ:=[a0,a1,a2,some (.vl (wk p K)),some (.int n),some (.int k),some (.vl ((ou hs k).map λw=>.tup [.int (Ar hs k w),w])),b7',b8']++rest) (M:=M) (M1:=M) (by simp) rfl
  (λj ρ M'=>(∃b7 b8:Option D,ρ=[a0,a1,a2,some (.vl (wk p K)),some (.int n),some (.int k),some (.vl ((ou hs k).map λw=>.tup [.int (Ar hs k w),w])),b7,b8]++rest)/\RS p K (ab3 hs rs n k j) M'/\Yg p M M'/\M'.length=M.length)
  ⟨⟨b7',b8',rfl⟩,λi hi=>by rw[h i hi];simp[ab3],Yg.refl _ _,rfl⟩ (λ_ _ _ _=>rfl)
  (λj x ρ M1 hx hI=>by
   obtain⟨⟨c7,c8,rfl⟩,q1,q2,q3⟩:=hI;obtain⟨w,hw,rfl⟩:∃w,(ou hs k)[j]?=some w/\D.tup [.int (Ar hs k w),w]=x:=by simpa using hx
   have hwm:=aq hw;have he:=awf P hk hwm;have g:=q1 _ he;have ap:=Gz (d:=Zu n k w) g (by have:=aqo (n:=n) (k:=k) (j:=j) hl (h7 _ he);exact c_ this (by decide));refine⟨_,.next,_,M1.set (p+Ar hs k w) (.lst (ab3 hs rs n k j (Ar hs k w)++[Zu n k w])),Ce _ _ _ _ _,?_,.inl rfl,⟨some (.int (Ar hs k w)),some w,rfl⟩,?_,q2.trans (Yg.set x_),by simp[q3]⟩
   . show Dw.den W (a0::a1::a2::some (.vl (wk p K))::some (.int n)::some (.int k)::some (.vl ((ou hs k).map λw=>.tup [.int (Ar hs k w),w]))::some (.int (Ar hs k w))::some w::rest) M1=_
     simp[Dw,ab2 he,Hf g,axz,ap]
   . intro i hi
     have e1:(ou hs k).take (j+1)=(ou hs k).take j++[w]:=by rw[List.take_succ,hw];rfl
     by_cases z:i=Ar hs k w
     . subst z
       rw[ur g];simp[ab3,e1,List.filter_append]
     . rw[qu (by lia),q1 i hi]
       simp[ab3,e1,List.filter_append,j6 z])
 refine⟨c7,c8,M',e,λi hi=>?_,r2,r3⟩;rw[r1 i hi];simp only[gm];rw[aqn]
structure Gs(t:Nat)(f:Bool)(p:Nat)(M M':di):Prop where
 has:Th t f M'
 low:∀(a:Nat)(o:MO),a<p->a≠t->M[a]?=some o->M'[a]?=some o
 len:M.length<=M'.length
def Gs.trans(a:Gs t f p M M1)(b:Gs t f p M1 M2):Gs t f p M M2:=⟨b.has,λx o h n e=>b.low x o h n (a.low x o h n e),iu a.len b.len⟩
def Gs.Zv(s:St t f M M1):Gs t f p M M1:=⟨s.has,λa o _ n e=>s.keep a o n e,s.len⟩
def Yg.has(h:Th t f M)(l:Yg p M M1)(ht:t<p):Th t f M1:=by obtain⟨n,e,o⟩:=h;exact⟨n,l _ _ ht e,o⟩
def Gs.agx(h:Th t f M)(l:Yg p M M1)(ht:t<p)(hl:M.length<=M1.length):Gs t f p M M1:=⟨l.has h ht,λa o x _ e=>l a o x e,hl⟩
def Gs.refl(h:Th t f M):Gs t f p M M:=⟨h,λ_ _ _ _ e=>e,bw _⟩
def Gs.st(g:Gs t f M.length M M1):St t f M M1:=⟨g.len,g.has,λa o n e=>g.low a o (xq e) n e⟩
def Gs.app(h:Th t f M)(hp:p<=M.length)(X:di):Gs t f p M (M++X):=⟨by obtain⟨n,e,o⟩:=h;exact⟨n,v5 e,o⟩,λa o _ _ e=>v5 e,by simp⟩
def awh(hy:ρ.length=y)(h3:ρ[3]?=some (some (.vl (wk p K))))(h:RS p K rs M)(hK:K<=3) :
 (Ex.comp true 1 (.name y) (.val (.v 3)) (.blt .len (.o (.var y)))).den W ρ M=.ok (.vl (((List.range K).map λi=>(rs i).length).map nD)) M:=by
 subst hy;rw[Am (d:=.vl (wk p K)) (ds:=wk p K) (M1:=M) (g:=λd=>match uc .len [d] M with|.ok x _=>x|_=>.non) (by simp[h3]) rfl (by simp[wk];exact a_ hK (by decide)) (λd hd=>by
  obtain⟨i,hi,rfl⟩:=bf.mp hd;refine⟨_,rfl,?_⟩;simp[len_list (jt (h i (ig.mp hi)))])]
 simp only[jy,wk,um]
 congr 2
 apply p8;intro i hi;simp[len_list (jt (h i (ig.mp hi))),nD]
structure Rw(hs:List F)(K p:Nat)(ad:List (Nat×Nat))(M:di):Prop where
 rs:RS p K (rowsOf hs ad) M
 kd:∀q∈ad,q.2<K
 le:∀e,e<K->(rowsOf hs ad e).length<=7
 nd:(ad.map (·.1)).Nodup
def awi(hm:1<=m)(P:Lw sz K hs gw)(hh:Th t f M)(ht:t<p)(h:Rw hs K p ad M)(hn:∀q∈ad,q.1<n)(hr:rest.length=10) :
 ∃c5 c6 c7 c8 ad' M',Cd.den ⟨prog.call m,prog.cls⟩ ([some (.ref t),some (vo K r hs),some (.int 4),some (.vl (wk p K)),some (.int n),b5,b6,b7,b8]++rest) M
  = .ok (.next,[some (.ref t),some (vo K r hs),some (.int 4),some (.vl (wk p K)),some (.int n),c5,c6,c7,c8]++rest) M'/\Rw hs K p ad' M'/\(∀q∈ad',q.1<n+1)/\Gs t f p M M'/\M'.length=M.length:=by
 have hl:=P.len;have h3:=P.k3;obtain⟨k,M1,e1,l1,s1,n1⟩:=Bp (many:=K) hm hh (by have:=P.k1;exact m_ this) (m_ (c_ h3 (by decide)));have hk:k<K:=o_ l1
 have r1:=h.rs.keep s1 ht;have c9:=awg (M:=M1) (r:=r) (K:=K) (hs:=hs) (ρ:=[some (.ref t),some (vo K r hs),some (.int 4),some (.vl (wk p K)),some (.int n),some (.int k),b6,b7,b8]++rest) (k:=k) hm hl rfl rfl (by simp[hr]);have c8:=awh (W:=⟨prog.call m,prog.cls⟩) (M:=M1) (ρ:=[some (.ref t),some (vo K r hs),some (.int 4),some (.vl (wk p K)),some (.int n),some (.int k),some (.vl ((ou hs k).map λw=>.tup [.int (Ar hs k w),w])),b7,b8]++rest) (y:=19) (by simp[hr]) rfl r1 h3;obtain⟨v,e3,v1,v2⟩:=anf (M:=M1) (xs:=(List.range K).map λi=>(rowsOf hs ad i).length) (by have:=P.k1;intro z;have:=o7 List.length z;simp at this;exact l_ (o_ l1) (a_ (f_ this) (j5 _)));generalize hL:(D.vl (((List.range K).map λi=>(rowsOf hs ad i).length).map nD))=L at e3 c8;have hlen:uc .len [.vl ((ou hs k).map λw=>D.tup [.int (Ar hs k w),w])] M1=.ok (.int (ou hs k).length) M1:=by simp[uc,Jc]
 by_cases q:v+(ou hs k).length<8
 . have q':(v:Int)+((ou hs k).length:Int)<8:=by lia
   obtain⟨d7,d8,M2,e4,r2,lo,n2⟩:=Z8 (W:=⟨prog.call m,prog.cls⟩) (M:=M1) P (n:=n) hk r1 h.le (a0:=some (.ref t)) (a1:=some (vo K r hs)) (a2:=some (.int 4)) (b7':=b7) (b8':=b8) (rest:=rest) hr;refine⟨some (.int k),some (.vl ((ou hs k).map λw=>D.tup [.int (Ar hs k w),w])),d7,d8,ad++[(n,k)],M2,?_,⟨λi hi=>?_,λq hq=>?_,λe he=>?_,?_⟩,λq hq=>?_,(Gs.Zv s1).trans (Gs.agx s1.has lo ht (g_ n2)),n2.trans n1⟩
   . simp only[yw,zj] at c9 c8 e4 ⊢
     simp[Cd,Xj,e1,c9,Hu,c8,e3,hlen,q',e4]
   . rw[r2 i hi,Xk];rfl
   . rcases gh.mp hq with z|z
     . exact h.kd q z
     . have:q=(n,k):=by simpa using z
       rw[this];exact hk
   . rw[Xk,ug,gm]
     have a1:=v1 (rowsOf hs ad e).length (bf.mpr ⟨e,ig.mpr he,rfl⟩);have a2:(wT hs k e).length<=(ou hs k).length:=xm _ _
     simp only
     lia
   . rw[ud]
     refine yh.mpr ⟨h.nd,by simp,λa ha b hb=>?_⟩;obtain⟨q,hq,rfl⟩:=bf.mp ha;have:b=n:=by simpa using hb
     have:=hn q hq
     lia
   . rcases gh.mp hq with z|z
     . have:=hn q z;exact A_ (e_ this)
     . have:q=(n,k):=by simpa using z
       rw[this];exact pq n
 . have q':¬(v:Int)+((ou hs k).length:Int)<8:=by lia
   refine⟨some (.int k),some (.vl ((ou hs k).map λw=>D.tup [.int (Ar hs k w),w])),b7,b8,ad,M1,?_,⟨r1,h.kd,h.le,h.nd⟩,λq hq=>by have:=hn q hq;exact A_ (e_ this),Gs.Zv s1,n1⟩;simp only[yw,zj] at c9 c8 ⊢;simp[Cd,Xj,e1,c9,Hu,c8,e3,hlen,q']
theorem aiy{M:di}{x:D}:∀{ds:List D},(∀y∈ds,∃b,yd M y x=some b)->∃bs:List Bool,O7 M x ds=some bs/\bs.length=ds.length/\∀(i:Nat)(y:D),ds[i]?=some y->(bs[i]?).map some=some (yd M y x)
 |[],_=>⟨[],rfl,rfl,λi y h=>by simp at h⟩
 |y::l,h=>by
  obtain⟨b,hb⟩:=h y (by simp);obtain⟨bs,h1,h2,h3⟩:=aiy (λz hz=>h z (bh _ hz));refine⟨b::bs,by simp[O7,hb,h1],by simp[h2],λi z hz=>?_⟩;cases i with
  |zero=>simp at hz;subst hz;simp[hb]|succ i=>simpa using h3 i z (by simpa using hz)
def a2i(h:∀y∈ds,∃b,yd M y x=some b)(hx:x∈ds)(he:yd M x x=some true):∃j y,Q3 M x ds=some j/\ds[j]?=some y/\yd M y x=some true:=by
 obtain⟨bs,h1,h2,h3⟩:=aiy h;obtain⟨i,hi,ei⟩:=m8 hx;have h4:=h3 i x (by simp[hi,ei]);rw[he] at h4;obtain⟨b,e1,e2⟩:=cj.mp h4;cases e2;rw[Q3,h1,q9];cases q:bs.findIdx? id with
 |some j =>
  obtain⟨g1,g2,_⟩:=qg.mp q;have g3:ds[j]?=some (ds[j]'(b_ g1 (f_ h2))):=bz (b_ g1 (f_ h2));have g4:=h3 j _ g3;rw[bz g1] at g4;simp only[v8,zy] at g4;exact⟨j,_,rfl,g3,by rw[<- g4];simpa using g2⟩
 |none =>
  rw[uz] at q;have:=q true (aq e1);simp at this
def awj(hp:M[p]?=some (.lst ds))(h:∀y∈ds,∃b,yd M y x=some b)(hx:x∈ds)(he:yd M x x=some true):∃(j:Nat)(y:D),Ec .index (.ref p) [x] M=.ok (.int j) M/\ds[j]?=some y/\yd M y x=some true:=by obtain⟨j,y,h1,h2,h3⟩:=a2i h hx he;exact⟨j,y,by simp[Ec,Jv (jt hp),h1],h2,h3⟩
def awk(hp:M[p]?=some (.lst ds)):Jt .index (.ref p) M=true:=by simp[Jt,jt hp]
def aqp(M:di)(n k n' k':Nat)(a a':Int):yd M (Zu n k (.int a)) (Zu n' k' (.int a'))=some (decide (n=n')&&(decide (k=k')&&(decide (a=a')&&true))):=by show Ph (Ih M 5) [.int n,.int k,.int a] [.int n',.int k',.int a']=_;rw[Bt (Ir M 4 n n') (Bt (Ir M 4 k k') (Bt (ahg 4 a a') (show Ph (Ih M 5) [] []=some true from rfl)))]
def Hz(h:d∈rowsOf hs ad e):∃(n k:Nat)(x:Int),(n,k)∈ad/\.int x∈wT hs k e/\d=Zu n k (.int x):=by obtain⟨q,hq,hd⟩:=List.mem_flatMap.mp h;obtain⟨w,hw,rfl⟩:=bf.mp hd;obtain⟨x,rfl⟩:=a2h hw;exact⟨q.1,q.2,x,hq,hw,rfl⟩
def ak3(h:(n,k)∈ad)(hw:w∈wT hs k e):Zu n k w∈rowsOf hs ad e :=
 List.mem_flatMap.mpr ⟨(n,k),h,bf.mpr ⟨w,hw,rfl⟩⟩
structure Ae(hs:List F)(gw:List (List Kx×D))(ad:List (Nat×Nat))(j:Nat)(g:F)(js:Y3):Prop where
 len:js.length=(rowsOf hs ad g.a).length
 go:∀(i n k:Nat)(x:Int),(rowsOf hs ad g.a)[i]?=some (Zu n k (.int x))->(rowsOf hs ad g.b)[js.getD i 0]?=some (Zu n k (.int (bv hs gw j (.int x))))
def aqq(h:i<l.length):(l++[x]).getD i 0=l.getD i 0:=by rw[bc,dm h,bc]
def Ae.lt(h:Ae hs gw ad j g js):∀x∈js,x<(rowsOf hs ad g.b).length:=λx hx=>by
 obtain⟨i,hi,rfl⟩:=m8 hx;have hi2:i<(rowsOf hs ad g.a).length:=by rw[<- h.len];exact hi
 obtain⟨n,k,y,_,_,e⟩:=Hz (ph hi2);have:=h.go i n k y (by rw[bz hi2,e]);rw[bc,bz hi] at this;exact(ak.mp this).1
def a2j(hm:1<=m)(P:Lw sz K hs gw)(hr:M[r]?=some (.dT gw)){j:Nat}(h:Rw hs K p ad M)(hj:hs[j]?=some g)(a9o:rest.length=6) :
 ∃js:List Nat,Hs.den ⟨prog.call m,prog.cls⟩ ([a0,some (vo K r hs),a2,some (.vl (wk p K)),a4,a5,a6,a7,a8,a9,some (.int j),some (.int g.a),some (.int g.b)]++rest) M=.ok (.vl (js.map nD)) M /\
  Ae hs gw ad j g js:=by
 have hg:=aq hj;have ha:=P.Vb g hg;have hb:=P.Ti g hg;have ga:=h.rs _ ha;have gb:=h.rs _ hb;unfold Hs;obtain⟨ys,M',e,hI⟩:=Jd (W:=⟨prog.call m,prog.cls⟩) (v:=true) (k:=3) (t:=.names [19,20,21]) (it:=.ix (.v 3) (.v 11)) (e:=.bm .index (.ix (.v 3) (.v 12)) (.o (.tup (.q (.v 19) (.v 20) (.call 20 (.q (.v 1) (.v 21) (.v 10)))))))
  (ρ:=[a0,some (vo K r hs),a2,some (.vl (wk p K)),a4,a5,a6,a7,a8,a9,some (.int j),some (.int g.a),some (.int g.b)]++rest) (M:=M) (M1:=M) (d:=.ref (p+g.a)) (ds:=rowsOf hs ad g.a) (by simp[ab2 ha]) (jt ga) (by have:=h.le _ ha;exact a_ this (by decide))
  (λi xs M'=>M'=M/\∃js:List Nat,xs=js.map nD/\js.length=i/\∀(i' n k:Nat)(x:Int),i'<i->(rowsOf hs ad g.a)[i']?=some (Zu n k (.int x))->(rowsOf hs ad g.b)[js.getD i' 0]?=some (Zu n k (.int (bv hs gw j (.int x))))) ⟨rfl,[],rfl,rfl,by simp⟩ (λi xs M' h=>by rw[h.1];exact jt ga)
  (λi y xs M' hy hI=>by
   obtain⟨rfl,js,rfl,q1,q2⟩:=hI;obtain⟨n,k,x,h1,h2,rfl⟩:=Hz (aq hy);obtain⟨x',z,hx,hv,X5⟩:=aiw P hj h2;cases z;obtain⟨jj,yy,e1,e2,e3⟩:=awj (x:=Zu n k (.int (bv hs gw j (.int x)))) gb (λy hy=>by obtain⟨n',k',x'',_,_,rfl⟩:=Hz hy;exact⟨_,aqp _ _ _ _ _ _ _⟩) (ak3 h1 X5) (by rw[aqp];simp);refine⟨_,.int jj,M',rfl,?_,rfl,js++[jj],by simp[nD],by simp[q1],λi' n' k' x' Vg hx'=>?_⟩
   . have hl:rest.length=6:=a9o
     match rest,hl with
     |[r0,r1,r2,r3,r4,r5],_ =>
      show(Ex.bm .index (.ix (.v 3) (.v 12)) (.o (.tup (.q (.v 19) (.v 20) (.call 20 (.q (.v 1) (.v 21) (.v 10))))))).den _ [a0,vo K r hs,a2,D.vl (wk p K),a4,a5,a6,a7,a8,a9,D.int j,D.int g.a,D.int g.b,r0,r1,r2,r3,r4,r5,D.int n,D.int k,D.int x] M'=_;simp[ab2 hb,awk gb,agv hm hr hx (show(-1:Int)<=j by lia) hv,axz,e1]
   . by_cases z:i'<i
     . rw[aqq (b_ z (g_ q1))];exact q2 i' n' k' x' z hx'
     . have z:i'=i:=u_ (z_ Vg) (s_ z)
       subst z;rw[hy] at hx';simp only[Zu,zy,D.tup.injEq,List.cons.injEq,D.int.injEq,Ao,and_true] at hx';obtain⟨rfl,rfl,rfl⟩:=hx';have ej:(js++[jj]).getD i' 0=jj:=by rw[<- q1];simp[bc]
       rw[ej,e2];obtain⟨n3,k3,x3,_,_,rfl⟩:=Hz (aq e2);rw[aqp] at e3;simp only[zy,au,dq,and_true] at e3;obtain⟨rfl,rfl,rfl⟩:=e3;rfl)
 obtain⟨rfl,js,rfl,q1,q2⟩:=hI;exact⟨js,by rw[e];rfl,q1,λi n k x h=>q2 i n k x (ak.mp h).1 h⟩
noncomputable def up(ms:Nat->List Nat)(i:Nat)(ns:Y3):Nat->List Nat:=λe=>if e=i then ns else ms e
noncomputable def Hw(lo hi:Nat)(l:Y3):List Nat:=l.map λo=>if o=hi then lo else o
theorem aiz{lo hi:Nat}(h:lo<hi):∀l:List Nat,(Hw lo hi l).sum<=l.sum
 |[]=>bw _
 |a::l=>by
  have:=aiz h l;simp only[Hw,ie,List.sum_cons] at this ⊢;split<;>omega
theorem ai0{lo hi:Nat}(h:lo<hi):∀{l:Y3},hi∈l->(Hw lo hi l).sum<l.sum
 |a::l,hm=>by
  have h1:=aiz h l;simp only[Hw,ie,List.sum_cons] at h1 ⊢
  by_cases z:a=hi
  . rw[cz z];exact b_ (G_ h) (a_ (v_ (g_ z)) (w_ h1))
  . have:=ai0 h (show hi∈l from by simpa[j6 z] using hm)
    simp only[Hw] at this;rw[bx z];exact H_ this
noncomputable def Yh(K:Nat)(ms:Nat->List Nat):Nat:=((List.range K).map λi=>(ms i).sum).sum
theorem aqr{ms:Nat->List Nat}{b:Nat}{ns:Y3}(h:ns.sum<(ms b).sum):∀K,Yh K (up ms b ns)<=Yh K ms/\(b<K->Yh K (up ms b ns)<Yh K ms)
 |0=>⟨bw _,λz=>absurd z (v7 _)⟩
 |K+1=>by
  obtain⟨h1,h2⟩:=aqr h K;simp only[Yh,List.range_succ,ud,List.sum_append,ie,List.map_nil,List.sum_cons,List.sum_nil] at h1 h2 ⊢
  by_cases z:K=b
  . subst z
    have e:up ms K ns K=ns:=by simp[up]
    rw[e];constructor
    . exact e_ (c_ (v_ h1) (H_ (G_ h)))
    . intro _;exact c_ (v_ h1) (H_ (G_ h))
  . have e:up ms b ns K=ms K:=by simp[up,z]
    rw[e];constructor
    . exact v_ h1
    . intro q;have:=h2 (by lia);exact G_ this
structure Mk(t pm K:Nat)(L:Nat->Nat)(ms:Nat->List Nat)(M:di):Prop where
 ex:∃mds:List D,M[pm]?=some (.lst mds)/\mds.length=K/\∀i,i<K->∃d,mds[i]?=some d/\gf M d=some ((ms i).map nD)/\∀a,d=.ref a->t<a/\a<pm
 len:∀i,i<K->(ms i).length=L i
 lt:∀i,i<K->∀x∈ms i,x<L i
 fx:∀i,i<K->∀x∈ms i,(ms i).getD x 0=x
def Xl(h:gf M d=some ds)(k:∀a o,d=.ref a->M[a]?=some o->M'[a]?=some o):gf M' d=some ds:=by
 cases d with
 |ref a =>
  simp only[gf] at h ⊢;cases e:M[a]? with
  |none=>rw[e] at h;cases h|some o=>rw[e] at h;rw[k a o rfl e];exact h
 |vl xs=>exact h|_=>cases h
def Mk.frame(h:Mk t pm K L ms M)(k:∀(a:Nat) (o:MO),t<a->a<=pm->M[a]?=some o->M'[a]?=some o)(ht:t<pm):Mk t pm K L ms M':=by obtain⟨mds,h1,h2,h3⟩:=h.ex;refine⟨⟨mds,k _ _ ht (bw _) h1,h2,λi hi=>?_⟩,h.len,h.lt,h.fx⟩;obtain⟨d,g1,g2,g3⟩:=h3 i hi;exact⟨d,g1,Xl g2 λa o e q=>k a o (g3 a e).1 (Af (g3 a e).2) q,g3⟩
def Mk.row(h:Mk t pm K L ms M)(hi:i<K):∃d,Ax (.ref pm) (.int i) M=some d/\gf M d=some ((ms i).map nD):=by obtain⟨mds,h1,h2,h3⟩:=h.ex;obtain⟨d,g1,g2,_⟩:=h3 i hi;exact⟨d,Cj (jt h1) q_ (by simpa using g1),g2⟩
def Qx{l:Y3}(h:gf M d=some (l.map nD))(hx:x<l.length):Ax d (.int x) M=some (.int (l.getD x 0)) :=
 Cj h q_ (by simp[hx,nD])
def getD_mem'{l:Y3}(hx:x<l.length):l.getD x 0∈l:=by rw[bc,bz hx];exact ph hx
set_option tactic.hygienic true in
theorem Mk.set(h:Mk t pm K L ms M)(hi:i<K)(h1:ns.length=L i)(h2:∀x∈ns,x<L i)(h4:∀x∈ns,ns.getD x 0=x)(ht:t<pm) :
 ∃o,setOp (.ref pm) (.int i) (.vl (ns.map nD)) M=some (M.set pm o)/\Mk t pm K L (up ms i ns) (M.set pm o):=by
 obtain⟨mds,g1,g2,g3⟩:=h.ex;refine⟨.lst (mds.set i (.vl (ns.map nD))),?_,⟨mds.set i (.vl (ns.map nD)),ur g1,by simp[g2],λe he=>?_⟩,λe he=>?_,λe he x hx=>?_,λe he x hx=>?_⟩
 . have:=Vj (d:=.vl (ns.map nD)) (i:=i) g1 q_ (m_ (b_ hi (g_ g2)))
   simpa using this
 . by_cases z:e=i
   . subst z
     exact⟨.vl (ns.map nD),by simp[g2,he],by simp[up],λa q=>by cases q⟩
   . obtain⟨d,k1,k2,k3⟩:=g3 e he
     refine⟨d,by rw[vq (j6 z)];exact k1,?_,k3⟩;have:up ms i ns e=ms e:=by simp[up,z]
     rw[this];exact Xl k2 λa o q w=>by rw[qu (by have:=(k3 a q).2;exact i_ this)];exact w
 . unfold up;split
   . rename_i z;rw[z];exact h1
   . exact h.len e he
 . unfold up at hx;split at hx
   . rename_i z;rw[z];exact h2 x hx
   . exact h.lt e he x hx
 . unfold up at hx ⊢;split at hx
   . rename_i z;rw[cz z];exact h4 x hx
   . rename_i z;rw[bx z];exact h.fx e he x hx
def getD_map{α:Type}{l:Y3}{f:Nat->Nat}{x:Nat}(h:x<l.length):(l.map f).getD x 0=f (l.getD x 0):=by simp[bc,jb,bz h]
set_option tactic.hygienic true in
def ai1(fx:∀x∈l,l.getD x 0=x)(lt:∀x∈l,x<l.length)(hlo:lo∈l):∀x∈Hw lo hi l,(Hw lo hi l).getD x 0=x:=λx hx=>by
 obtain⟨o,ho,e⟩:=bf.mp hx;have h1:x∈l:=by
  split at e
  . rw[<- e];exact hlo
  . rw[<- e];exact ho
 unfold Hw;rw[getD_map (α:=Nat) (lt x h1),fx x h1]
 by_cases z:x=hi
 . rw[cz z]
   split at e
   . exact e
   . rename_i w;exact absurd (e.trans z) w
 . rw[bx z]
def Cg(ms:Nat->List Nat)(g:F)(js:Y3):Prop:=∀x y,x<js.length->y<js.length->(ms g.a).getD x 0=(ms g.a).getD y 0->(ms g.b).getD (js.getD x 0) 0=(ms g.b).getD (js.getD y 0) 0
structure Ac(q:Nat)(hs:List F)(L:Nat->Nat)(as:List (List Nat))(M:di):Prop where
 at_:M[q]?=some (.lst (as.map λjs=>.vl (js.map nD)))
 len:as.length=hs.length
 ok:∀(j:Nat)(g:F)(js:Y3),hs[j]?=some g->as[j]?=some js->js.length=L g.a/\∀x∈js,x<L g.b
def Ac.get(h:Ac q hs L as M){j:Nat}(hj:hs[j]?=some g):∃js,as[j]?=some js/\Ax (.ref q) (.int j) M=some (.vl (js.map nD))/\js.length=L g.a/\∀x∈js,x<L g.b:=by
 have hl:=(ak.mp hj).1;have hl2:j<as.length:=by rw[h.len];exact hl
 have e:as[j]?=some as[j]:=bz hl2;exact⟨_,e,Cj (jt h.at_) q_ (by simp[e]),h.ok j g _ hj e⟩
def a2k(h:M[n]?=some (.dK kv)):Ec .get (.ref n) [.int k,d] M=.ok ((zg kv (.inl k)).getD d) M:=by simp[Ec,h]
def a9p(h:M[n]?=some (.dK kv)):Jt .get (.ref n) M=true:=by simp[Jt,h]
def a2l(h:M[n]?=some (.dK kv))(hl:kv.length<100000):setOp (.ref n) (.int k) d M=some (M.set n (.dK (Dh kv (.inl k) d))):=by simp[setOp,h,hl]
def aqt[DecidableEq κ]{kv:List (κ×D)}(h:zg kv k=some v):∃p∈kv,p.2=v:=by unfold zg at h;obtain⟨p,h1,h2⟩:=cj.mp h;exact⟨p,List.mem_of_find?_eq_some h1,h2⟩
def awl[DecidableEq κ]{kv:List (κ×D)}(h:p∈Dh kv k v):p∈kv\/p.2=v:=by
 unfold Dh at h;split at h
 . obtain⟨q,h1,h2⟩:=bf.mp h
   split at h2
   . rw[<- h2];exact .inr rfl
   . rw[<- h2];exact .inl h1
 . rcases gh.mp h with z|z
   . exact .inl z
   . have:p=(k,v):=by simpa using z
     rw[this];exact .inr rfl
def Km[DecidableEq κ](p:κ×D)(r:List (κ×D))(k:κ):zg (p::r) k=if p.1=k then some p.2 else zg r k:=by
 unfold zg
 by_cases h:p.1=k
 . simp[qt,h]
 . simp[qt,h]
theorem Xm{κ:Type}[DecidableEq κ]{k k':κ}{v:D}:∀{kv:List (κ×D)},(∃p∈kv,p.1=k)->zg (kv.map λp=>if p.1=k then(p.1,v) else p) k'=if k'=k then some v else zg kv k'
 |p::r,h=>by
  rw[ie,Km,Km]
  by_cases a:p.1=k
  . rw[cz a]
    by_cases b:k'=k
    . simp[a,b]
    . have c:¬p.1=k':=λz=>b (z.symm.trans a)
      rw[bx c,bx b,bx c]
      by_cases d:∃p∈r,p.1=k
      . rw[Xm d,bx b]
      . congr 1
        conv=>rhs;rw[<- List.map_id r]
        apply p8;intro q hq;rw[bx λz=>d ⟨q,hq,z⟩];rfl
  . rw[bx a]
    have d:∃p∈r,p.1=k:=by
     obtain⟨q,h1,h2⟩:=h;rcases cu.mp h1 with rfl|h1
     . exact absurd h2 a
     . exact⟨q,h1,h2⟩
    rw[Xm d]
    by_cases b:k'=k
    . have c:¬p.1=k':=λz=>a (z.trans b)
      rw[bx c];simp[b]
    . simp[b]
theorem aey{κ:Type}[DecidableEq κ]{k k':κ}{v:D}:∀{kv:List (κ×D)},(∀p∈kv,p.1≠k)->zg (kv++[(k,v)]) k'=if k'=k then some v else zg kv k'
 |[],_=>by
  rw[zj,Km]
  by_cases b:k'=k
  . simp[b]
  . simp[b,j6 b]
 |p::r,h=>by
  rw[yw,Km,Km,aey (λq hq=>h q (bh _ hq))];have a:=h p (by simp)
  by_cases b:k'=k
  . have c:¬p.1=k':=λz=>a (z.trans b)
    rw[bx c];simp[b]
  . simp[b]
def aqu[DecidableEq κ](kv:List (κ×D))(k k':κ)(v:D):zg (Dh kv k v) k'=if k'=k then some v else zg kv k':=by
 unfold Dh
 by_cases h:(kv.any λp=>decide (p.1=k))=true
 . rw[cz h]
   exact Xm (by simpa using h)
 . rw[bx h]
   exact aey (λp hp z=>h (Ah.mpr ⟨p,hp,by simpa using z⟩))
def awm[DecidableEq κ](kv:List (κ×D))(k:κ)(v:D):(Dh kv k v).length<=kv.length+1:=by unfold Dh;split<;>simp
def ab4(M:di)(a b:Nat):yd M (.int a) (.int b)=some (decide (a=b)):=Ba M a b
noncomputable def Fm(pm n:Nat)(M M':di):Prop:=∀(a:Nat)(o:MO),a≠pm->a<n->M[a]?=some o->M'[a]?=some o
def ai2(M:di)(a b:Nat):uc .min [.int a,.int b] M=.ok (.int (min a b:Nat)) M:=by
 show Res.ok (D.int (if(b:Int)<(a:Int) then(b:Int) else(a:Int))) M=_
 by_cases h:b<a
 . rw[cz (m_ h),Nat.min_eq_right (e_ h)]
 . rw[bx (by lia),Nat.min_eq_left (s_ h)]
def ab5(M:di)(a b:Nat):uc .max [.int a,.int b] M=.ok (.int (max a b:Nat)) M:=by
 show Res.ok (D.int (if(a:Int)<(b:Int) then(b:Int) else(a:Int))) M=_
 by_cases h:a<b
 . rw[cz (m_ h),Nat.max_eq_right (e_ h)]
 . rw[bx (by lia),Nat.max_eq_left (s_ h)]
def aez(hx:(Ex.ix (.var v) (.var x)).den W ρ M=.ok d M)(hd:gf M d=some (l.map nD))(hl:l.length<=100000)(hy:y=ρ.length)(h1:ρ[a]?=some (some (.int lo)))(h2:ρ[b]?=some (some (.int hi))) :
 (Ex.comp true 1 (.name y) (.val (.ix (.var v) (.var x))) (.ite (.cmp .eq (.var y) (.var b)) (.var a) (.var y))).den W ρ M=.ok (.vl ((Hw lo hi l).map nD)) M:=by
 subst hy;have ha:=(ak.mp h1).1;have hb:=(ak.mp h2).1;rw[Am (d:=d) (ds:=l.map nD) (M1:=M) (g:=λd=>match d with|.int o=>nD (if o.toNat=hi then lo else o.toNat)|_=>.non) hx hd (by simpa using hl) (λz hz=>by
  obtain⟨o,ho,rfl⟩:=bf.mp hz;refine⟨_,rfl,?_⟩;have e1:(ρ++List.replicate 1 none).set ρ.length (some (nD o))=ρ++[some (.int o)]:=by rw[List.set_append];simp[nD]
  have g1:(ρ++[some (D.int o)])[a]?=some (some (.int lo)):=by rw[dm ha];exact h1
  have g2:(ρ++[some (D.int o)])[b]?=some (some (.int hi)):=by rw[dm hb];exact h2
  have g3:(ρ++[some (D.int o)])[ρ.length]?=some (some (.int o)):=by simp
  rw[e1]
  by_cases z:o=hi
  . subst z;simp[-eq_int,g1,g2,g3,ab4,nD]
  . simp[-eq_int,g1,g2,g3,ab4,z,nD])]
 simp[Hw,nD]
def awn(hx:(Ex.ix (.v 1) (.var x)).den W ρ M=.ok d M)(hd:gf M d=some (l.map nD))(hl:l.length<=100000)(hy:y=ρ.length)(hy1:12<y)(h1:ρ[11]?=some (some (.int lo)))(h2:ρ[12]?=some (some (.int hi))) :
 (Ex.comp true 1 (.name y) (.val (.ix (.v 1) (.var x))) (.ite (.cmp .eq (.var y) (.v 12)) (.v 11) (.var y))).den W ρ M=.ok (.vl ((Hw lo hi l).map nD)) M:=aez hx hd hl hy h1 h2
structure Fd(dd:Nat)(a b js:Y3)(n:Nat)(M:di):Prop where
 ex:∃kv:List (Kx×D),M[dd]?=some (.dK kv)/\kv.length<=n/\(∀p∈kv,∃e:Nat,p.2=.int e/\e∈b)/\∀i,i<n->zg kv (.inl ((a.getD i 0:Nat):Int))=some (.int ((b.getD (js.getD i 0) 0:Nat):Int))
def aqv{j:Nat}(mk:Mk t pm K L ms M)(ac:Ac q hs L as M)(hj:hs[j]?=some g)(ga:g.a<K)(gb:g.b<K)(hd:M[dd]?=some (.dK []))(hpd:pm<dd)(hqd:q<dd)(hqp:q≠pm)(ht:t<pm)(hL:∀e,e<K->L e<=7) :
 ∃ρ' M',Lp.den W [vo K r hs,D.ref pm,D.ref q,b3,D.int j,D.int g.a,D.int g.b,D.ref dd,b8,b9,b10,Qa,Sq] M=.ok (.next,ρ') M' /\
  ∃c3 c7 c8 c9 c10 c11 c12,ρ'=[some (vo K r hs),some (.ref pm),some (.ref q),c3,some (.int j),some (.int g.a),some (.int g.b),c7,c8,c9,c10,c11,c12]/\Fm pm dd M M'/\M.length<=M'.length /\
   ((c3=b3/\Mk t pm K L ms M'/\∀js,as[j]?=some js->Cg ms g js)\/(c3=some (.bl true)/\∃Ly,Mk t pm K L Ly M'/\Yh K Ly<Yh K ms)):=by
 obtain⟨js,ej,_,lj,rj⟩:=ac.get hj;obtain⟨da,fa,la⟩:=mk.row ga;have hla:=mk.len _ ga;have hLa:=hL _ ga;refine acw (W:=W) (t:=.name 8) (b:=Bv) (it:=.blt .len (.o (.ix (.v 1) (.v 5)))) (n:=L g.a) (M1:=M) ?_ (a_ hLa (by decide))
  (λi ρ M'=>(∃b8 b9 b10,ρ=[some (vo K r hs),some (.ref pm),some (.ref q),b3,some (.int j),some (.int g.a),some (.int g.b),some (.ref dd),b8,b9,b10,Qa,Sq])/\Mk t pm K L ms M'/\Fd dd (ms g.a) (ms g.b) js i M'/\Yg dd M M'/\M'.length=M.length)
  (fun ρ' M'=>∃c3 c7 c8 c9 c10 c11 c12,ρ'=[some (vo K r hs),some (.ref pm),some (.ref q),c3,some (.int j),some (.int g.a),some (.int g.b),c7,c8,c9,c10,c11,c12]/\Fm pm dd M M'/\M.length<=M'.length /\
   ((c3=b3/\Mk t pm K L ms M'/\∀js,as[j]?=some js->Cg ms g js)\/(c3=some (.bl true)/\∃Ly,Mk t pm K L Ly M'/\Yh K Ly<Yh K ms)))
  ⟨⟨b8,b9,b10,rfl⟩,mk,⟨[],hd,bw _,by simp,by simp⟩,Yg.refl _ _,rfl⟩ (fun ρ M' h=>?_) (λi ρ M1 hi hI=>?_)
 . have e:=len_list la
   simp only[gm,hla] at e;simp[fa,e]
 . obtain⟨⟨c8,c9,c10,rfl⟩,h1,⟨kv,_,_,_,k4⟩,h3,h4⟩:=h
   refine⟨b3,_,c8,c9,c10,Qa,Sq,rfl,λa o _ x e=>h3 a o x e,g_ h4,.inl ⟨rfl,h1,λjs' e' x y hx hy exy=>?_⟩⟩;rw[ej] at e';cases e';have g1:=k4 x (b_ hx (f_ lj));have g2:=k4 y (b_ hy (f_ lj));rw[exy,g2] at g1;simp only[zy,D.int.injEq] at g1;exact(Ao.mp g1).symm
 . obtain⟨⟨c8,c9,c10,rfl⟩,h1,⟨kv,k1,k2,k3,k4⟩,h3,h4⟩:=hI
   obtain⟨da,fa,la⟩:=h1.row ga;obtain⟨db,fb,lb⟩:=h1.row gb;have ac1:Ac q hs L as M1:=⟨h3 _ _ hqd ac.at_,ac.len,ac.ok⟩;obtain⟨js',ej',fj,_,_⟩:=ac1.get hj;rw[ej] at ej';cases ej';have fa2:=Qx la (show i<(ms g.a).length by rw[hla];exact hi);have fj2:Ax (.vl (js.map nD)) (.int i) M1=some (.int (js.getD i 0)):=Qx rfl (b_ hi (g_ lj));have hy:js.getD i 0<(ms g.b).length:=by rw[h1.len _ gb];exact rj _ (getD_mem' (b_ hi (g_ lj)))
   generalize hy0:js.getD i 0=y at fj2 hy;have fb2:=Qx lb hy;have hz:=getD_mem' hy;generalize hx0:(ms g.a).getD i 0=x at fa2;generalize hz0:(ms g.b).getD y 0=z at fb2 hz;have gt:=a2k (k:=(x:Int)) (d:=.int z) k1;have ty:=a9p k1;have goOn:((zg kv (.inl (x:Int))).getD (.int z)=.int z)->∃ρ1 fl ρ' M',(Tg.name 8).put (.int i) [some (vo K r hs),some (.ref pm),some (.ref q),b3,some (.int j),some (.int g.a),some (.int g.b),some (.ref dd),c8,c9,c10,Qa,Sq]=some ρ1/\Bv.den W ρ1 M1=.ok (fl,ρ') M' /\
    (((fl=.next\/fl=.cont)/\(∃b8 b9 b10,ρ'=[some (vo K r hs),some (.ref pm),some (.ref q),b3,some (.int j),some (.int g.a),some (.int g.b),some (.ref dd),b8,b9,b10,Qa,Sq])/\Mk t pm K L ms M'/\Fd dd (ms g.a) (ms g.b) js (i+1) M'/\Yg dd M M'/\M'.length=M.length) \/
      (fl=.brk/\∃c3 c7 c8 c9 c10 c11 c12,ρ'=[some (vo K r hs),some (.ref pm),some (.ref q),c3,some (.int j),some (.int g.a),some (.int g.b),c7,c8,c9,c10,c11,c12]/\Fm pm dd M M'/\M.length<=M'.length /\
       ((c3=b3/\Mk t pm K L ms M'/\∀js,as[j]?=some js->Cg ms g js)\/(c3=some (.bl true)/\∃Ly,Mk t pm K L Ly M'/\Yh K Ly<Yh K ms)))):=λhg=>by
    rw[hg] at gt;have st:=a2l (k:=(x:Int)) (d:=.int z) k1 (by have:=hL _ ga;exact c_ k2 (b_ hi (a_ hLa (by decide))));refine⟨_,.next,_,M1.set dd (.dK (Dh kv (.inl (x:Int)) (.int z))),rfl,?_,.inl ⟨.inl rfl,⟨some (.int i),some (.int x),some (.int z),rfl⟩,h1.frame (λa o _ ha e=>by rw[qu (i_ (c_ ha hpd))];exact e) ht,⟨_,ur k1,?_,?_,λi' Vg=>?_⟩,h3.trans (Yg.set (bw _)),by simp[h4]⟩⟩
    . simp[-eq_int,Bv,fa,fa2,fb,fj,fj2,fb2,ty,gt,ab4,st]
    . have:=awm kv (.inl (x:Int)) (.int z);exact a_ this (v_ k2)
    . intro p hp
      rcases awl hp with w|w
      . exact k3 p w
      . exact⟨z,w,hz⟩
    . rw[aqu]
      by_cases w:(ms g.a).getD i' 0=x
      . rw[w,cz rfl]
        by_cases w2:i'=i
        . subst w2;rw[hy0,hz0]
        . have g1:=k4 i' (by lia)
          rw[w] at g1;rw[g1] at hg;simp only[xf] at hg;rw[hg]
      . have w2:i'≠i:=λq=>w (by rw[q,hx0])
        have:¬((Sum.inl (((ms g.a).getD i' 0:Nat):Int):Kx)=.inl (x:Int)):=λq=>w (by injection q with q;exact Ao.mp q)
        rw[bx this];exact k4 i' (by lia)
   cases hlk:zg kv (.inl (x:Int)) with
   |none=>exact goOn (by rw[hlk];rfl)
   |some v =>
    obtain⟨p,hp,rfl⟩:=aqt hlk;obtain⟨e,he,hem⟩:=k3 p hp;rw[he] at hlk
    by_cases hez:e=z
    . exact goOn (by rw[hlk,hez];rfl)
    . rw[hlk] at gt
      have ix:=a5r (b:=.int x) k1 rfl;rw[show(Sum.inl (x:Int):Kx)=.inl (x:Int) from rfl,hlk] at ix;have lh:min e z<max e z:=by lia
      have hm:max e z∈ms g.b:=by
       rcases Nat.le_total e z with w|w
       . rw[Nat.max_eq_right w];exact hz
       . rw[Nat.max_eq_left w];exact hem
      have hlo:min e z∈ms g.b:=by
       rcases Nat.le_total e z with w|w
       . rw[Nat.min_eq_left w];exact hem
       . rw[Nat.min_eq_right w];exact hz
      have rp:=awn (W:=W) (M:=M1) (ρ:=[vo K r hs,D.ref pm,D.ref q,b3,D.int j,D.int g.a,D.int g.b,D.ref dd,D.int i,D.int x,D.int z,D.int (min e z:Nat),D.int (max e z:Nat)]) (x:=6) (y:=13) (lo:=min e z) (hi:=max e z) (by simp[fb]) lb (by rw[h1.len _ gb];have:=hL _ gb;exact a_ this (by decide)) rfl (by decide) rfl rfl;obtain⟨o,so,mk2⟩:=h1.set gb (ns:=Hw (min e z) (max e z) (ms g.b)) (by simp[Hw,h1.len _ gb]) (λy hy=>by
       obtain⟨w,hw,rfl⟩:=bf.mp hy;split
       . exact h1.lt _ gb _ hlo
       . exact h1.lt _ gb _ hw) (ai1 (h1.fx _ gb) (λx hx=>by rw[h1.len _ gb];exact h1.lt _ gb x hx) hlo) ht
      have ne:¬((e:Nat)=z):=hez;refine⟨_,.brk,_,M1.set pm o++[.dK []],rfl,?_,.inr ⟨rfl,some (.bl true),some (.ref (M1.set pm o).length),some (.int i),some (.int x),some (.int z),some (.int (min e z:Nat)),some (.int (max e z:Nat)),rfl,λa u na ha q=>?_,by simp;exact a_ (g_ h4) x_,.inr ⟨rfl,_,mk2.frame (λa u _ _ q=>v5 q) ht,(aqr (ai0 lh hm) K).2 gb⟩⟩⟩
      . simp only[xf] at gt
        simp[-eq_int,Bv,fa,fa2,fb,fj,fj2,fb2,ty,gt,ab4,ne,ix,ai2,ab5,Ln,rp,so,MW.new]
      . refine v5 ?_
        rw[qu (j6 na)];exact h3 a u ha q
def Fm.trans(a:Fm pm n M M1)(b:Fm pm n M1 M2):Fm pm n M M2:=λx o h l e=>b x o h l (a x o h l e)
def Fm.le(a:Fm pm n M M1)(h:n'<=n):Fm pm n' M M1:=λx o q l e=>a x o q (b_ l h) e
theorem agy:∀{l:Y3}{c:Nat},(∀x∈l,x<=c)->l.sum<=l.length*c
 |[],_,_=>by simp
 |a::l,c,h=>by
  have h1:=h a (by simp);have h2:=agy (λx hx=>h x (bh _ hx));simp only[List.sum_cons,gr,Nat.succ_mul]
  lia
def a2n(mk:Mk t pm K L ms M)(hL:∀e,e<K->L e<=7)(hK:K<=3):Yh K ms<=200:=by
 have:∀x∈(List.range K).map λi=>(ms i).sum,x<=49:=λx hx=>by
  obtain⟨i,hi,rfl⟩:=bf.mp hx;have hi:=ig.mp hi;have h1:=agy (l:=ms i) (c:=7) (λx hx=>by have:=mk.lt i hi x hx;have:=hL i hi;lia);have h2:=mk.len i hi;have h3:=hL i hi;have h4:(ms i).length*7<=7*7:=Nat.mul_le_mul_right 7 (a_ (f_ h2) h3)
  lia
 have h:=agy this;simp only[gm,List.length_range] at h;have h5:K*49<=3*49:=Nat.mul_le_mul_right 49 hK
 unfold Yh
 lia
def Cgs(hs:List F)(as:List (List Nat))(n:Nat)(ms:Nat->List Nat):Prop:=∀(j:Nat)(g:F)(js:Y3),j<n->hs[j]?=some g->as[j]?=some js->Cg ms g js
def aqy(P:Lw sz K hs gw)(mk:Mk t pm K L ms M)(ac:Ac q hs L as M)(hpd:pm<M.length)(hqd:q<M.length)(hqp:q≠pm)(ht:t<pm)(hL:∀e,e<K->L e<=7) :
 ∃ρ' M',Lq.den W [vo K r hs,D.ref pm,D.ref q,b3,b4,b5,b6,b7,b8,b9,b10,Qa,Sq] M=.ok (.next,ρ') M' /\
  ∃c3 c4 c5 c6 c7 c8 c9 c10 c11 c12 Ly,ρ'=[some (vo K r hs),some (.ref pm),some (.ref q),c3,c4,c5,c6,c7,c8,c9,c10,c11,c12]/\Fm pm M.length M M'/\M.length<=M'.length/\Mk t pm K L Ly M'/\((c3=b3/\Ly=ms/\Cgs hs as hs.length ms)\/(c3=some (.bl true)/\Yh K Ly<Yh K ms)):=by
 have hl:=P.len;refine Al (W:=W) (t:=.name 4) (b:=De) (it:=.blt .len (.o (.ix (.v 0) (.i 1)))) (n:=hs.length) (M1:=M) (by simp[Qg,Nv]) (a_ hl (by decide))
  (λn ρ' M'=>∃c3 c4 c5 c6 c7 c8 c9 c10 c11 c12 Ly,ρ'=[some (vo K r hs),some (.ref pm),some (.ref q),c3,c4,c5,c6,c7,c8,c9,c10,c11,c12]/\Fm pm M.length M M'/\M.length<=M'.length/\Mk t pm K L Ly M'/\((c3=b3/\Ly=ms/\Cgs hs as n ms)\/(c3=some (.bl true)/\Yh K Ly<Yh K ms)))
  ⟨b3,b4,b5,b6,b7,b8,b9,b10,Qa,Sq,ms,rfl,λ_ _ _ _ e=>e,bw _,mk,.inl ⟨rfl,rfl,λj g js h=>absurd h (v7 _)⟩⟩ (λj ρ M1 hj hI=>?_)
 obtain⟨c3,c4,c5,c6,c7,c8,c9,c10,c11,c12,m1,rfl,f1,l1,k1,o1⟩:=hI;have hjg:hs[j]?=some hs[j]:=by simp[hj]
 have hg:=aq hjg;have k2:Mk t pm K L m1 (M1++[.dK []]):=k1.frame (λa o _ _ e=>v5 e) ht;have ac2:Ac q hs L as (M1++[.dK []]):=⟨v5 (f1 _ _ hqp hqd ac.at_),ac.len,ac.ok⟩;obtain⟨ρ2,M2,e2,d3,d7,d8,d9,d10,d11,d12,rfl,f2,l2,o2⟩:=aqv (W:=W) (r:=r) (dd:=M1.length) (b3:=c3) (b8:=c8) (b9:=c9) (b10:=c10) (Qa:=c11) (Sq:=c12) k2 ac2 hjg (P.Vb _ hg) (P.Ti _ hg) (by simp) (b_ hpd l1) (b_ hqd l1) hqp ht hL;have f3:Fm pm M.length M M2:=λa o na ha e=>f2 a o na (b_ ha l1) (v5 (f1 a o na ha e))
 have l3:M.length<=M2.length:=by simp at l2;lia
 have pe:∀ρ,(Tg.names [5,6]).put (eD hs[j]) ρ=some ((ρ.set 5 (some (.int hs[j].a))).set 6 (some (.int hs[j].b))):=λ_=>rfl
 have run:De.den W [vo K r hs,D.ref pm,D.ref q,c3,D.int j,c5,c6,c7,c8,c9,c10,c11,c12] M1=.ok (.next,[some (vo K r hs),some (.ref pm),some (.ref q),d3,some (.int j),some (.int hs[j].a),some (.int hs[j].b),d7,d8,d9,d10,d11,d12]) M2:=by simp[De,Qg,Ri hjg,pe,MW.new,e2]
 refine⟨_,.next,_,M2,rfl,run,.inl rfl,?_⟩;rcases o2 with⟨rfl,k3,cg⟩|⟨rfl,m2,k3,t3⟩
 . rcases o1 with⟨rfl,rfl,cs⟩|⟨rfl,t1⟩
   . refine⟨_,_,_,_,_,_,_,_,_,_,m1,rfl,f3,l3,k3,.inl ⟨rfl,rfl,λj' g' js' h1 h2 h3=>?_⟩⟩
     by_cases z:j'=j
     . subst z
       rw[hjg] at h2;cases h2;exact cg _ h3
     . exact cs j' g' js' (by lia) h2 h3
   . exact⟨_,_,_,_,_,_,_,_,_,_,m1,rfl,f3,l3,k3,.inr ⟨rfl,t1⟩⟩
 . refine⟨_,_,_,_,_,_,_,_,_,_,m2,rfl,f3,l3,k3,.inr ⟨rfl,?_⟩⟩
   rcases o1 with⟨_,rfl,_⟩|⟨_,t1⟩<;>omega
def ak4(hm:1<=m)(P:Lw sz K hs gw)(mk:Mk t pm K L ms M)(ac:Ac q hs L as M)(hpd:pm<M.length)(hqd:q<M.length)(hqp:q≠pm)(ht:t<pm)(hL:∀e,e<K->L e<=7) :
 ∃Ly M',prog.call m 29 [vo K r hs,.ref pm,.ref q] M=.ok (.ref pm) M'/\Mk t pm K L Ly M'/\Cgs hs as hs.length Ly/\Fm pm M.length M M'/\M.length<=M'.length:=by
 rw[call_of hm rfl];obtain⟨ρ',M',e,Ly,k1,cg,f1,l1,c,hρ⟩:∃ρ' M',Gq.den ⟨prog.call (m-1),prog.cls⟩ [vo K r hs,D.ref pm,D.ref q,D.bl true,none,none,none,none,none,none,none,none,none] M=.ok (.next,ρ') M' /\
  ∃Ly,Mk t pm K L Ly M'/\Cgs hs as hs.length Ly/\Fm pm M.length M M'/\M.length<=M'.length/\∃c:Env,ρ'=[some (vo K r hs),some (.ref pm)]++c:=by
  unfold Gq;rw[aak];refine Oq (λm ρ M'=>∃(Ly:Nat->List Nat)(b:Bool)(c:Env),ρ=[some (vo K r hs),some (.ref pm),some (.ref q),some (.bl b)]++c/\c.length=9/\Mk t pm K L Ly M'/\(b=false->Cgs hs as hs.length Ly)/\Fm pm M.length M M'/\M.length<=M'.length/\m=(if b then Yh K Ly+1 else 0))
   (fun ρ' M'=>∃Ly,Mk t pm K L Ly M'/\Cgs hs as hs.length Ly/\Fm pm M.length M M'/\M.length<=M'.length/\∃c:Env,ρ'=[some (vo K r hs),some (.ref pm)]++c) (λn ρ M1 hI=>?_) afr (Yh K ms+1) _ M (by have:=a2n mk hL P.k3;show Yh K ms+1<1000000;lia)
   ⟨ms,true,[none,none,none,none,none,none,none,none,none],rfl,rfl,mk,by simp,λ_ _ _ _ e=>e,bw _,rfl⟩
  obtain⟨m1,b,c,rfl,hc,k1,cg,f1,l1,rfl⟩:=hI
  match c,hc with
  |[c4,c5,c6,c7,c8,c9,c10,c11,c12],_ =>
  cases b with
  |false=>exact .inl ⟨M1,rfl,m1,k1,cg rfl,f1,l1,_,rfl⟩
  |true =>
   right
   obtain⟨ρ2,M2,e2,d3,d4,d5,d6,d7,d8,d9,d10,d11,d12,m2,rfl,f2,l2,k2,o2⟩:=aqy (W:=⟨prog.call (m-1),prog.cls⟩) (r:=r) (as:=as) P k1 (⟨f1 _ _ hqp hqd ac.at_,ac.len,ac.ok⟩:Ac q hs L as M1) (b_ hpd l1) (b_ hqd l1) hqp ht hL (b3:=some (.bl false)) (b4:=c4) (b5:=c5) (b6:=c6) (b7:=c7) (b8:=c8) (b9:=c9) (b10:=c10) (Qa:=c11) (Sq:=c12);have f3:Fm pm M.length M M2:=f1.trans (f2.le l1);have run:Gp.den ⟨prog.call (m-1),prog.cls⟩ [vo K r hs,D.ref pm,D.ref q,D.bl true,c4,c5,c6,c7,c8,c9,c10,c11,c12] M1=.ok (.next,[some (vo K r hs),some (.ref pm),some (.ref q),d3,d4,d5,d6,d7,d8,d9,d10,d11,d12]) M2:=by simp[Gp,e2]
   rcases o2 with⟨rfl,rfl,cs⟩|⟨rfl,t3⟩
   . exact⟨M1,.next,_,M2,0,rfl,run,.inl rfl,by simp,m2,false,[d4,d5,d6,d7,d8,d9,d10,d11,d12],rfl,rfl,k2,λ_=>cs,f3,a_ l1 l2,rfl⟩
   . exact⟨M1,.next,_,M2,Yh K m2+1,rfl,run,.inl rfl,by simp;exact t3,m2,true,[d4,d5,d6,d7,d8,d9,d10,d11,d12],rfl,rfl,k2,by simp,f3,a_ l1 l2,rfl⟩
 subst hρ;refine⟨Ly,M',?_,k1,cg,f1,l1⟩;simp only[yw,zj] at e;simp[Fn.run,Py,Px,e]
theorem Xn{x y:Int}:∀{l:Xs},x∈insI y l↔x=y\/x∈l
 |[]=>by simp[insI]
 |a::l=>by
  unfold insI;split
  . simp
  . simp only[cu,Xn]
    constructor
    . rintro(h|h|h)
      . exact .inr (.inl h)
      . exact .inl h
      . exact .inr (.inr h)
    . rintro(h|h|h)
      . exact .inr (.inl h)
      . exact .inl h
      . exact .inr (.inr h)
theorem G9{x:Int}:∀{l:Xs},x∈sortI l↔x∈l
 |[]=>by simp[sortI]
 |a::l=>by
  have h:=G9 (x:=x) (l:=l);show x∈insI a (sortI l)↔_;rw[Xn,h];simp
set_option tactic.hygienic true in
theorem Ha{x:Int}:∀{l:Xs},x∈Ag l↔x∈l
 |[]=>by simp[Ag]
 |a::l=>by
  have h:=Ha (x:=x) (l:=l);unfold Ag;split
  . rename_i z
    rw[h];simp only[cu];exact⟨.inr,λq=>q.elim (λe=>e▸z) id⟩
  . simp only[cu,h]
theorem ae0(y:Int):∀l:List Int,(insI y l).length=l.length+1
 |[]=>rfl|a::l=>by unfold insI;split<;>simp[ae0 y l]
theorem Zw:∀l:List Int,(sortI l).length=l.length
 |[]=>rfl|a::l=>by show(insI a (sortI l)).length=_;rw[ae0,Zw l];rfl
theorem Zx:∀l:List Int,(Ag l).length<=l.length
 |[]=>bw _|a::l=>by have:=Zx l;unfold Ag;split<;>simp<;>omega
theorem ab8:∀l:List Nat,Va (l.map nD)=some (l.map λ(x:Nat)=>(x:Int))
 |[]=>rfl|a::l=>by show(Va (l.map nD)).map _=_;rw[ab8 l];rfl
theorem ai4{y:Int}:∀{l:Xs},l.Nodup->y∉l->(insI y l).Nodup
 |[],_,_=>by simp[insI]
 |a::l,h,hy=>by
  have h1:=mj.mp h;have h2:y≠a/\y∉l:=by simpa using hy
  unfold insI;split
  . exact mj.mpr ⟨hy,h⟩
  . refine mj.mpr ⟨λz=>?_,ai4 h1.2 h2.2⟩
    rcases Xn.mp z with z|z
    . exact h2.1 z.symm
    . exact h1.1 z
theorem ae1:∀{l:Xs},l.Nodup->(sortI l).Nodup
 |[],_=>xg
 |a::l,h=>by
  have h1:=mj.mp h;exact ai4 (ae1 h1.2) (λz=>h1.1 (G9.mp z))
set_option tactic.hygienic true in
theorem Xo:∀l:List Int,(Ag l).Nodup
 |[]=>xg
 |a::l=>by
  unfold Ag;split
  . exact Xo l
  . rename_i h
    exact mj.mpr ⟨λz=>h (Ha.mp z),Xo l⟩
def agz{l:Y3}(h:gf M d=some (l.map nD))(hz:l.length<31):∃hl:List Nat,uc .Fq [d] M=.ok (.vl (hl.map nD)) M/\hl.length<=l.length/\hl.Nodup/\∀x,x∈hl↔x∈l:=by
 refine⟨(sortI (Ag (l.map λ(x:Nat)=>(x:Int)))).map Int.toNat,?_,?_,?_,λx=>?_⟩
 . show Res.qi (((gf M d).bind Va).bind λis=>if is.length<31 then some (D.vl ((sortI (Ag is)).map D.int)) else none) M=_
   rw[h,q9,ab8,q9,cz (by simpa using hz)];have:((sortI (Ag (l.map λ(x:Nat)=>(x:Int)))).map Int.toNat).map nD=(sortI (Ag (l.map λ(x:Nat)=>(x:Int)))).map D.int:=by rw[um];apply p8;intro y hy;rw[G9,Ha] at hy;obtain⟨z,_,rfl⟩:=bf.mp hy;simp[nD]
   rw[this];rfl
 . rw[gm,Zw]
   have:=Zx (l.map λ(x:Nat)=>(x:Int));simpa using this
 . have nd:=ae1 (Xo (l.map λ(x:Nat)=>(x:Int)))
   rw[jx,yj];refine List.Pairwise.imp_of_mem (fun{a b} ha hb hab e=>hab ?_) (jx.mp nd);rw[G9,Ha] at ha hb;obtain⟨x,_,rfl⟩:=bf.mp ha;obtain⟨y,_,rfl⟩:=bf.mp hb;simp only[t7] at e;rw[e]
 . constructor
   . intro h
     obtain⟨y,hy,rfl⟩:=bf.mp h;rw[G9,Ha] at hy;obtain⟨z,hz,rfl⟩:=bf.mp hy;simpa using hz
   . intro h
     refine bf.mpr ⟨(x:Int),?_,by simp⟩;rw[G9,Ha];exact bf.mpr ⟨x,h,rfl⟩
def ak5(hρ:ρ.length=19)(h3:ρ[3]?=some (some (.vl (wk p K))))(h:RS p K rs M)(hK:K<=3)(h7:∀e,e<K->(rs e).length<=7)(ht:t<M.length) :
 ∃M',Hr.den W ρ M=.ok (.ref (M.length+K)) M'/\Mk t (M.length+K) K (λe=>(rs e).length) (λe=>List.range (rs e).length) M'/\yt M M'/\M'.length=M.length+K+1:=by
 unfold Hr;obtain⟨ys,M1,e,r1,r2,r3,r4⟩:=Jd (W:=W) (v:=false) (k:=1) (t:=.name 19) (it:=.v 3) (e:=.aad (.l (.v 19))) (ρ:=ρ) (M:=M) (M1:=M) (d:=.vl (wk p K)) (ds:=wk p K) (by simp[h3]) rfl (by simp[wk];exact a_ hK (by decide))
  (λi xs M'=>xs=wk M.length i/\(∀e,e<i->M'[M.length+e]?=some (.lst ((List.range (rs e).length).map nD)))/\yt M M'/\M'.length=M.length+i) ⟨rfl,λe he=>absurd he (v7 _),yt.refl M,rfl⟩ (λ_ _ _ _=>rfl)
  (λi y xs M' hy hI=>by
   obtain⟨rfl,q1,q2,q3⟩:=hI;have hi:i<K:=by have:=(ak.mp hy).1;simpa[wk] using this
   obtain rfl:D.ref (p+i)=y:=by simpa[wk,hi] using hy
   have ln:=len_list (jt (q2 _ _ (h i hi)));have e1:(ρ++List.replicate 1 none).set 19 (some (.ref (p+i)))=ρ++[some (.ref (p+i))]:=by rw[List.set_append];simp[hρ]
   have g9:(ρ++[some (D.ref (p+i))])[19]?=some (some (.ref (p+i))):=by rw[<- hρ];simp
   refine⟨_,.ref M'.length,M'++[.lst ((List.range (rs i).length).map nD)],rfl,?_,?_,λe he=>?_,q2.trans (yt.app _ _),by simp[q3];exact rfl⟩
   . have h8:=h7 i hi
     have h9:(rs i).length<=100000:=a_ h8 (by decide)
     rw[e1];simp[g9,ln,h9,MW.new,nD]
   . simp[wk,List.range_succ,q3]
   . by_cases z:e=i
     . subst z;rw[<- q3];simp
     . exact v5 (q1 e (by lia)))
 have hlr:(wk p K).length=K:=by simp[wk]
 rw[hlr] at r1 r2 r4;refine⟨M1++[.lst ys],by rw[e];simp[MW.new,r4],⟨⟨ys,by rw[<- r4];simp,by rw[r1];simp[wk],λi hi=>?_⟩,λi hi=>by simp,λi hi x hx=>ig.mp hx,λi hi x hx=>by simp[ig.mp hx]⟩,r3.trans (yt.app _ _),by simp[r4]⟩;refine⟨.ref (M.length+i),by rw[r1];simp[wk,hi],jt (v5 (r2 i hi)),λa q=>?_⟩;cases q;exact⟨b_ ht x_,H_ hi⟩
def Mk.st(h:Mk t pm K L ms M)(s:St t f M M')(ht:t<pm):Mk t pm K L ms M':=h.frame (λa o ha _ e=>s.keep a o (i_ ha) e) ht
def Ac.of(h:Ac q hs L as M)(k:∀o,M[q]?=some o->M'[q]?=some o):Ac q hs L as M':=⟨k _ h.at_,h.len,h.ok⟩
def awr(hm:1<=m)(P:Lw sz K hs gw)(hh:Th t f M)(mk:Mk t pm K L ms M)(ac:Ac q hs L as M)(htp:t<p)(hp:p<=pm)(hpd:pm<M.length)(hq:p<=q)(hqp:q≠pm)(hqd:q<M.length)(hL:∀e,e<K->L e<=7)(hc:Cgs hs as hs.length ms) :
 ∃c5 c11 c12 c14 c15 Ly M',Ca.den ⟨prog.call m,prog.cls⟩ [D.ref t,vo K r hs,a2,a3,b4,b5,b6,b7,b8,D.ref q,b10,Qa,Sq,D.ref pm,b14,b15,n16,n17,n18] M =
  .ok (.next,[some (.ref t),some (vo K r hs),a2,a3,b4,c5,b6,b7,b8,some (.ref q),b10,c11,c12,some (.ref pm),c14,c15,n16,n17,n18]) M'/\Mk t pm K L Ly M'/\Cgs hs as hs.length Ly/\Ac q hs L as M'/\Gs t f p M M':=by
 have h3:=P.k3;obtain⟨k,M1,e1,l1,s1,n1⟩:=Bp (many:=K) hm hh (by have:=P.k1;exact m_ this) (m_ (c_ h3 (by decide)));obtain⟨x,M2,e2,l2,s2,n2⟩:=Bp (many:=7) hm s1.has (by decide) (by decide);obtain⟨y,M3,e3,l3,s3,n3⟩:=Bp (many:=7) hm s2.has (by decide) (by decide);have hk:k<K:=o_ l1
 have s:=s1.trans (s2.trans s3);have mk3:=mk.st s (b_ htp hp);have ac3:Ac q hs L as M3:=ac.of λo e=>s.keep _ _ (i_ (b_ htp hq)) e
 obtain⟨dk,fk,lk⟩:=mk3.row hk;have hlk:=mk3.len _ hk;have ln:=len_list lk;simp only[gm,hlk] at ln;have mx:=ab5 M3 x y
 by_cases c:max x y<L k
 . have c':((max x y:Nat):Int)<(L k:Int):=m_ c
   have hx:x<(ms k).length:=by lia
   have hy:y<(ms k).length:=by lia
   have ix:=Qx lk hx;have iy:=Qx lk hy;have hxm:=getD_mem' hx;have hym:=getD_mem' hy;generalize hx0:(ms k).getD x 0=u at ix hxm;generalize hy0:(ms k).getD y 0=w at iy hym;have hlo:min u w∈ms k:=by
    rcases Nat.le_total u w with z|z
    . rw[Nat.min_eq_left z];exact hxm
    . rw[Nat.min_eq_right z];exact hym
   have rp:=aez (W:=⟨prog.call m,prog.cls⟩) (M:=M3) (ρ:=[D.ref t,vo K r hs,a2,a3,b4,D.int k,b6,b7,b8,D.ref q,b10,D.int x,D.int y,D.ref pm,D.int (min u w:Nat),D.int (max u w:Nat),n16,n17,n18]) (v:=13) (x:=5) (y:=19) (a:=14) (b:=15) (lo:=min u w) (hi:=max u w) (by simp[fk]) lk (by have:=hL _ hk;exact a_ (f_ hlk) (a_ this (by decide))) rfl rfl rfl;obtain⟨o,so,mk4⟩:=mk3.set hk (ns:=Hw (min u w) (max u w) (ms k)) (by simp[Hw,hlk]) (λz hz=>by
    obtain⟨v,hv,rfl⟩:=bf.mp hz;split
    . exact mk3.lt _ hk _ hlo
    . exact mk3.lt _ hk _ hv) (ai1 (mk3.fx _ hk) (λx hx=>by rw[hlk];exact mk3.lt _ hk x hx) hlo) (b_ htp hp)
   have ac4:Ac q hs L as (M3.set pm o):=ac3.of λo e=>by rw[qu (j6 hqp)];exact e
   have hl3:M3.length=M.length:=u_ (a_ (f_ n3) (a_ (f_ n2) (f_ n1))) (a_ (g_ n1) (a_ (g_ n2) (g_ n3)));obtain⟨Ly,M5,e5,mk5,cg5,f5,l5⟩:=ak4 (r:=r) (M:=M3.set pm o) hm P mk4 ac4 (by simp;exact b_ hpd (g_ hl3)) (by simp;exact b_ hqd (g_ hl3)) hqp (b_ htp hp) hL;have ac5:Ac q hs L as M5:=ac4.of λo e=>f5 _ _ hqp (by simp;exact b_ hqd (g_ hl3)) e
   refine⟨some (.int k),some (.int x),some (.int y),some (.int (min u w:Nat)),some (.int (max u w:Nat)),Ly,M5,?_,mk5,cg5,ac5,⟨?_,λa v ha na e=>?_,by simp at l5;exact a_ (g_ hl3) l5⟩⟩
   . simp[Ca,Xj,e1,e2,e3,mx,fk,ln,c',ix,iy,ai2,ab5,Ng,rp,so,e5]
   . obtain⟨n,hn,ho⟩:=s.has
     exact⟨n,f5 _ _ (h_ (b_ htp hp)) (by have:=xq hn;simp;exact this) (by rw[qu (i_ (b_ htp hp))];exact hn),ho⟩
   . refine f5 _ _ (h_ (b_ ha hp)) (by have:=xq e;simp;exact b_ this (g_ hl3)) ?_
     rw[qu (i_ (b_ ha hp))];exact s.keep a v na e
 . have c':¬((max x y:Nat):Int)<(L k:Int):=by lia
   refine⟨some (.int k),some (.int x),some (.int y),b14,b15,ms,M3,?_,mk3,hc,ac3,Gs.Zv s⟩;simp[Ca,Xj,e1,e2,e3,mx,fk,ln,c']
noncomputable def kh(sizes:Y3)(acts:List (List Nat)):D:=.tup [.tup (sizes.map nD),.tup (acts.map λjs=>.tup (js.map nD))]
def aqz(h:.int v∈ds):ixI v ds<ds.length:=by
 unfold ixI;cases q:ds.findIdx? (λd=>match d with|.int i=>decide (i=v)|_=>false) with
 |some j=>exact(qg.mp q).1
 |none =>
  rw[uz] at q;have:=q _ h;simp at this
def aws:∀{ds:List D},(∀d∈ds,∃i:Int,d=.int i)->.int v∈ds->ds[ixI v ds]?=some (.int v):=fun{ds} hi h=>by
 unfold ixI;cases q:ds.findIdx? (λd=>match d with|.int i=>decide (i=v)|_=>false) with
 |some j =>
  obtain⟨h1,h2,_⟩:=qg.mp q;obtain⟨i,ei⟩:=hi ds[j] (ph h1);rw[ei] at h2;have:i=v:=by simpa using h2
  simp[h1,ei,this]
 |none =>
  rw[uz] at q;have:=q _ h;simp at this
def ae2(l:Y3):∀d∈l.map nD,∃i:Int,d=.int i:=λd hd=>by obtain⟨x,_,rfl⟩:=bf.mp hd;exact⟨_,rfl⟩
def ag0{l:Y3}(h:x∈l):.int (x:Int)∈l.map nD:=bf.mpr ⟨x,h,rfl⟩
noncomputable def Yi(l:Y3)(x:Nat):Nat:=ixI (x:Int) (l.map nD)
def Xp(h:x∈l):Yi l x<l.length:=by have:=aqz (ag0 h);simpa[Yi] using this
def O1{l:Y3}(h:x∈l):l.getD (Yi l x) 0=x:=by have h1:=aws (ae2 l) (ag0 h);have h2:=Xp h;unfold Yi at h2 ⊢;rw[jb,bz h2] at h1;simp[nD] at h1;rw[bc,bz h2];simp only[xf];exact D_ h1
noncomputable def Ss(ms:Nat->List Nat)(g:F)(js la lb:Y3):List Nat:=la.map λth=>Yi lb ((ms g.b).getD (js.getD th 0) 0)
noncomputable def K7(acts:List (List Nat))(x:Nat)(w:Int):Nat:=if w=-1 then x else(acts.getD w.toNat []).getD x 0
structure WOk(K:Nat)(hs:List F)(sizes:Y3)(acts:List (List Nat)):Prop where
 ls:sizes.length=K
 la:acts.length=hs.length
 sm:∀x∈sizes,x<=7
 ok:∀(j:Nat)(g:F)(js:Y3),hs[j]?=some g->acts[j]?=some js->js.length=sizes.getD g.a 0/\∀x∈js,x<sizes.getD g.b 0
 fu:∀(j1 j2:Nat)(g1 g2:F)(a1 a2:Y3),hs[j1]?=some g1->hs[j2]?=some g2->g1.b=g2.a->acts[j1]?=some a1->acts[j2]?=some a2->∀x,x<a1.length->a2.getD (a1.getD x 0) 0=K7 acts x (ent hs g1 g2)
noncomputable def T9(l:Y3):D:=.vl (l.map nD)
def aq0(hρ:ρ.length=19)(h13:ρ[13]?=some (some (.ref pm)))(mk:Mk t pm K L ms M)(hK:K<=3)(h7:∀i,i<K->L i<=7) :
 ∃hl:List (List Nat),Hq.den W ρ M=.ok (.vl (hl.map T9)) M/\hl.length=K/\∀e l,hl[e]?=some l->l.length<=L e/\l.Nodup/\∀x,x∈l↔x∈ms e:=by
 obtain⟨mds,h1,h2,h3⟩:=mk.ex;unfold Hq;obtain⟨ys,M',e,rfl,hl,r1,r2,r3⟩:=Jd (W:=W) (v:=true) (k:=1) (t:=.name 19) (it:=.v 13) (e:=.blt .Fq (.o (.v 19))) (ρ:=ρ) (M:=M) (M1:=M) (d:=.ref pm) (ds:=mds) (by simp[h13]) (jt h1) (a_ (f_ h2) (a_ hK (by decide)))
  (λi xs M'=>M'=M/\∃hl:List (List Nat),xs=hl.map T9/\hl.length=i/\∀e l,hl[e]?=some l->l.length<=L e/\l.Nodup/\∀x,x∈l↔x∈ms e) ⟨rfl,[],rfl,rfl,by simp⟩ (λi xs M' h=>by rw[h.1];exact jt h1)
  (λi y xs M' hy hI=>by
   obtain⟨rfl,hl,rfl,q1,q2⟩:=hI;have hi:i<K:=by have:=(ak.mp hy).1;exact b_ this (f_ h2)
   obtain⟨d,g1,g2,_⟩:=h3 i hi;rw[hy] at g1;cases g1;obtain⟨l,k1,k2,k4,k3⟩:=agz g2 (by have:=h7 i hi;have:=mk.len i hi;lia);have e1:(ρ++List.replicate 1 none).set 19 (some y)=ρ++[some y]:=by rw[List.set_append];simp[hρ]
   have g9:(ρ++[some y])[19]?=some (some y):=by rw[<- hρ];simp
   refine⟨_,T9 l,M',rfl,by rw[e1];simp[g9,k1,T9],rfl,hl++[l],by simp,by simp[q1],λe l' he=>?_⟩
   by_cases z:e<hl.length
   . rw[dm z] at he;exact q2 e l' he
   . have ze:e=i:=by have:=(ak.mp he).1;simp at this;lia
     subst ze;rw[je (s_ z),q1] at he;simp at he;subst he;rw[<- mk.len e hi];exact⟨k2,k4,k3⟩)
 refine⟨hl,by rw[e,r1];rfl,r2.trans h2,r3⟩
def aq1{hl:List (List Nat)}{i:Nat}(h:hl[i]?=some l):Ax (.vl (hl.map T9)) (.int i) M=some (T9 l):=Cj rfl q_ (by simp[h])
def ak8{hl:List (List Nat)}(mk:Mk t pm K L ms M)(ac:Ac q hs L as M){j:Nat}(hj:hs[j]?=some g)(ej:as[j]?=some js)(ga:g.a<K)(gb:g.b<K)(h1:hl[g.a]?=some la)(h2:hl[g.b]?=some lb)(hma:∀x,x∈la↔x∈ms g.a)(hmb:∀x,x∈lb↔x∈ms g.b)(h7:la.length<=7)(hw:M[w]?=some (.lst td))(htd:td.length<100000) :
 ∃(c18:Option D)(zs:Y3),Du.den W [a0,vo K r hs,a2,a3,b4,b5,b6,b7,b8,D.ref q,D.int j,Qa,Sq,D.ref pm,b14,b15,D.vl (hl.map T9),D.ref w,b18] M =
  .ok (.next,[a0,some (vo K r hs),a2,a3,b4,b5,b6,b7,b8,some (.ref q),some (.int j),some (.int g.a),some (.int g.b),some (.ref pm),b14,b15,some (.vl (hl.map T9)),some (.ref w),c18]) (M.set w (.lst (td++[.tup (zs.map nD)])))/\zs=Ss ms g js la lb/\zs.length=la.length/\∀x∈zs,x<lb.length:=by
 obtain⟨js',ej',fj,lj,rj⟩:=ac.get hj;rw[ej] at ej';cases ej';obtain⟨db,fb,lbm⟩:=mk.row gb;have hz:∀th∈la,js.getD th 0<(ms g.b).length/\th<js.length:=λth h=>by
  have h3:=mk.lt _ ga th ((hma th).mp h);have h4:th<js.length:=b_ h3 (g_ lj)
  exact⟨by rw[mk.len _ gb];exact rj _ (getD_mem' h4),h4⟩
 have c3:Ho.den W [a0,vo K r hs,a2,a3,b4,b5,b6,b7,b8,D.ref q,D.int j,D.int g.a,D.int g.b,D.ref pm,b14,b15,D.vl (hl.map T9),D.ref w,b18] M=.ok (T9 (la.map λth=>(ms g.b).getD (js.getD th 0) 0)) M:=by
  unfold Ho;rw[Am (d:=T9 la) (ds:=la.map nD) (M1:=M) (g:=λd=>match d with|.int o=>nD ((ms g.b).getD (js.getD o.toNat 0) 0)|_=>.non) (by simp[aq1 h1]) rfl (by simp;exact a_ h7 (by decide)) (λz hz'=>by
   obtain⟨th,hth,rfl⟩:=bf.mp hz';obtain⟨k1,k2⟩:=hz th hth;refine⟨_,rfl,?_⟩;have i1:Ax (.vl (js.map nD)) (.int th) M=some (.int (js.getD th 0)):=Qx rfl k2;have i2:=Qx lbm k1;show(Ex.ix (.ix (.v 13) (.v 12)) (.ix (.ix (.v 9) (.v 10)) (.v 19))).den W [a0,vo K r hs,a2,a3,b4,b5,b6,b7,b8,D.ref q,D.int j,D.int g.a,D.int g.b,D.ref pm,b14,b15,D.vl (hl.map T9),D.ref w,b18,D.int th] M=.ok (nD ((ms g.b).getD (js.getD (th:Int).toNat 0) 0)) M;rw[t7];generalize js.getD th 0=yy at i1 i2;generalize(ms g.b).getD yy 0=zz at i2;simp[fb,fj,i1,i2,nD])]
  simp[T9,nD]
 have X5:∀z∈la.map (λth=>(ms g.b).getD (js.getD th 0) 0),.int (z:Int)∈lb.map nD:=λz h=>by obtain⟨th,hth,rfl⟩:=bf.mp h;exact bf.mpr ⟨_,(hmb _).mpr (getD_mem' (hz th hth).1),rfl⟩
 generalize a9t:la.map (λth=>(ms g.b).getD (js.getD th 0) 0)=row at c3 X5;have hrl:row.length=la.length:=by rw[<- a9t];simp
 have c2:Hn.den W [a0,vo K r hs,a2,a3,b4,b5,b6,b7,b8,D.ref q,D.int j,D.int g.a,D.int g.b,D.ref pm,b14,b15,D.vl (hl.map T9),D.ref w,T9 row] M=.ok (.vl ((row.map λ(z:Nat)=>ixI (z:Int) (lb.map nD)).map nD)) M:=by
  unfold Hn;rw[Am (d:=T9 row) (ds:=row.map nD) (M1:=M) (g:=λd=>match d with|.int o=>nD (ixI o (lb.map nD))|_=>.non) (by simp) rfl (by simp;exact a_ (f_ hrl) (a_ h7 (by decide))) (λz hz'=>by
   obtain⟨o,ho,rfl⟩:=bf.mp hz';refine⟨_,rfl,?_⟩;have i1:=aex (M:=M) (ds:=lb.map nD) (v:=(o:Int)) (λd hd=>by obtain⟨x,_,rfl⟩:=bf.mp hd;exact⟨_,rfl⟩) (X5 o ho);show(Ex.bm .index (.ix (.v 16) (.v 12)) (.o (.v 19))).den W [a0,vo K r hs,a2,a3,b4,b5,b6,b7,b8,D.ref q,D.int j,D.int g.a,D.int g.b,D.ref pm,b14,b15,D.vl (hl.map T9),D.ref w,T9 row,D.int o] M=_;simp[aq1 h2,T9,Jt,i1,nD])]
  simp[nD]
 refine⟨some (T9 row),row.map λ(z:Nat)=>ixI (z:Int) (lb.map nD),?_,by rw[<- a9t,um];rfl,by simp[hrl],λx hx=>?_⟩
 . have pe:∀ρ,(Tg.names [11,12]).put (eD g) ρ=some ((ρ.set 11 (some (.int g.a))).set 12 (some (.int g.b))):=λ_=>rfl
   have ap:=Gz (d:=.tup ((row.map λ(z:Nat)=>ixI (z:Int) (lb.map nD)).map nD)) hw htd;simp only[um] at c2 ap ⊢;simp[-um,Du,Qg,Ri hj,pe,c3,c2,Hf hw,Qq,ap]
 . obtain⟨z,hz',rfl⟩:=bf.mp hx
   have:=aqz (X5 z hz');simpa using this
def a2p(h:nD a=nD b):a=b:=by simp only[nD,D.int.injEq,Ao] at h;exact h
def ag1(hs:List F)(k:Nat):(ou hs k).Nodup:=by
 refine mj.mpr ⟨λh=>?_,?_⟩
 . obtain⟨x,_,e⟩:=bf.mp h
   simp[nD] at e
 . rw[jx,yj]
   exact((jx.mp yx).filter _).imp λh e=>h (a2p e)
def aq2(hs:List F)(k g:Nat):(wT hs k g).Nodup:=(ag1 hs k).filter _
def ai5(h:Zu n k w=Zu n' k' w'):n=n'/\k=k'/\w=w':=by simp only[Zu,D.tup.injEq,List.cons.injEq,D.int.injEq,Ao,and_true] at h;exact h
def Xq(nd:(ad.map (·.1)).Nodup)(e:Nat):(rowsOf hs ad e).Nodup:=by
 rw[jx];unfold rowsOf;rw[List.pairwise_flatMap];refine⟨λp _=>?_,?_⟩
 . rw[yj]
   exact(jx.mp (aq2 hs p.2 e)).imp λh q=>h (ai5 q).2.2
 . rw[jx,yj] at nd
   exact nd.imp λh x hx y hy q=>by obtain⟨u,_,rfl⟩:=bf.mp hx;obtain⟨v,_,rfl⟩:=bf.mp hy;exact h (ai5 q).1
def Kf{α:Type}{l:List α}(h:l.Nodup){i:Nat}{x:α}(h1:l[i]?=some x)(h2:l[j]?=some x):i=j:=by have hi:=(ak.mp h1).1;exact(List.getElem?_inj hi h).mp (h1.trans h2.symm)
def Zy{j:Nat}(h:bothW hs gw x j=some (.int v)):bv hs gw j (.int x)=v:=by simp[bv,h]
def awt(P:Lw sz K hs gw)(h1:hs[j1]?=some g1)(h2:hs[j2]?=some g2)(e:g1.b=g2.a)(hx:.int x∈wT hs k g1.a) :
 (ent hs g1 g2=-1/\(g1.comp g2).Pa/\bv hs gw j2 (.int (bv hs gw j1 (.int x)))=x)\/∃j3:Nat,ent hs g1 g2=j3/\hs[j3]?=some (g1.comp g2)/\bv hs gw j2 (.int (bv hs gw j1 (.int x)))=bv hs gw j3 (.int x):=by
 have n1:¬((j1:Int)=-1):=by lia
 have n2:¬((j2:Int)=-1):=by lia
 have m1:=aq h1;have m2:=aq h2;have Sq:bothW hs gw j1 j2=some (.int (ent hs g1 g2)):=by rw[bothW,bx n1,bx n2];exact P.look h1 h2 e
 obtain⟨w1,w2⟩:=ab1 hx;rcases Az w1 with q|⟨i,f,q,hf,ef⟩
 . cases q
   have c1:bothW hs gw (-1) j1=some (.int j1):=by simp[bothW]
   rw[Zy c1,Zy Sq,Jk];rcases P.Ci (P.cl g1 m1 g2 m2 e) with⟨x1,i1⟩|⟨u,hu,x1⟩
   . exact .inl ⟨x1,i1,x1⟩
   . refine .inr ⟨u,x1,hu,?_⟩
     rw[x1,Zy (v:=u) (by simp[bothW])]
 . cases q
   have ni:¬((i:Int)=-1):=by lia
   rw[Bq hf] at w2;have c1:bothW hs gw i j1=some (.int (ent hs f g1)):=by rw[bothW,bx ni,bx n1];exact P.look hf h1 w2
   obtain⟨v,v1,v2⟩:=P.af0 hf h1 h2 w2 e;rw[Zy c1,Zy v1];rw[Jk] at v2 ⊢;rcases P.Ci (P.cl g1 m1 g2 m2 e) with⟨x1,i1⟩|⟨u,hu,x1⟩
   . rw[x1] at v2
     rw[bothW,bx ni,cz rfl] at v2;cases v2;exact .inl ⟨x1,i1,rfl⟩
   . rw[x1] at v2
     exact .inr ⟨u,x1,hu,(Zy v2).symm⟩
def Fp(h:l.Nodup)(hx:x<l.length):Yi l (l.getD x 0)=x:=by
 have m:l.getD x 0∈l:=getD_mem' hx;have h1:=O1 m;have h2:=Xp m;refine Kf h (x:=l.getD x 0) ?_ ?_
 . rw[bz h2]
   rw[bc,bz h2] at h1;simpa using h1
 . rw[bz hx,bc,bz hx];rfl
def Xr(hx:x<la.length):(Ss ms g js la lb).getD x 0=Yi lb ((ms g.b).getD (js.getD (la.getD x 0) 0) 0):=getD_map (α:=Nat) hx
def func(P:Lw sz K hs gw){hd:List (List Nat)}(nd:(ad.map (·.1)).Nodup)(ml:∀e,e<K->(ms e).length=(rowsOf hs ad e).length)(mlt:∀e,e<K->∀x∈ms e,x<(rowsOf hs ad e).length)(fx:∀e,e<K->∀x∈ms e,(ms e).getD x 0=x)(cg:Cgs hs as hs.length ms)(ae:∀(j:Nat) (g:F) (js:Y3),hs[j]?=some g->as[j]?=some js->Ae hs gw ad j g js)(hh:∀e l,hd[e]?=some l->l.Nodup/\∀x,x∈l↔x∈ms e){j1 j2:Nat}(h1:hs[j1]?=some g1)(h2:hs[j2]?=some g2)(e:g1.b=g2.a)(q1:as[j1]?=some s1)(q2:as[j2]?=some s2)(hla:hd[g1.a]?=some la)(hlb:hd[g1.b]?=some lb)(hlc:hd[g2.b]?=some lc)(hx:x<la.length) :
 (ent hs g1 g2=-1/\(Ss ms g2 s2 lb lc).getD ((Ss ms g1 s1 la lb).getD x 0) 0=x) \/
  ∃j3:Nat,ent hs g1 g2=j3/\hs[j3]?=some (g1.comp g2)/\∀s3,as[j3]?=some s3->(Ss ms g2 s2 lb lc).getD ((Ss ms g1 s1 la lb).getD x 0) 0=(Ss ms (g1.comp g2) s3 la lc).getD x 0:=by
 have m1:=aq h1;have m2:=aq h2;have ka:=P.Vb g1 m1;have kb:=P.Ti g1 m1;have kc:=P.Ti g2 m2;obtain⟨na,ma⟩:=hh _ _ hla;obtain⟨_,mb⟩:=hh _ _ hlb;have A1:=ae _ _ _ h1 q1;have A2:=ae _ _ _ h2 q2;have hm:=(ma _).mp (getD_mem' hx);generalize hh0:la.getD x 0=h at hm;have Hb:=mlt _ ka h hm;obtain⟨n,k,w,_,hw,er⟩:=Hz (ph Hb);have r0:(rowsOf hs ad g1.a)[h]?=some (Zu n k (.int w)):=by rw[bz Hb,er]
 have r1:=A1.go _ _ _ _ r0;have r2:=A2.go _ _ _ _ (by rw[<- e];exact r1);have l1:s1.getD h 0<(ms g1.b).length:=by rw[ml _ kb];exact(ak.mp r1).1
 have v1:=getD_mem' l1;have yl:=Xp ((mb _).mpr v1);rw[Xr hx,hh0,Xr yl,O1 ((mb _).mpr v1)];have c1:(ms g2.b).getD (s2.getD ((ms g1.b).getD (s1.getD h 0) 0) 0) 0=(ms g2.b).getD (s2.getD (s1.getD h 0) 0) 0:=by
  have j2l:=(ak.mp h2).1;refine cg j2 g2 s2 j2l h2 q2 _ _ ?_ ?_ ?_
  . rw[A2.len,<- e];exact mlt _ kb _ v1
  . rw[A2.len,<- e,<- ml _ kb];exact l1
  . rw[<- e];exact fx _ kb _ v1
 rw[c1];rcases awt P h1 h2 e hw with⟨e1,i1,b1⟩|⟨j3,e1,h3,b1⟩
 . left
   refine⟨e1,?_⟩;have ab:g1.a=g2.b:=i1.1;rw[b1,<- ab] at r2;rw[<- ab] at hlc;rw[hla] at hlc;cases hlc;rw[Kf (Xq nd _) r2 r0,<- ab,fx _ ka h hm,<- hh0,Fp na hx]
 . right
   refine⟨j3,e1,h3,λs3 q3=>?_⟩;have A3:=ae _ _ _ h3 q3;have r3:=A3.go h n k w r0;rw[Xr hx,hh0];rw[b1] at r2;have:s2.getD (s1.getD h 0) 0=s3.getD h 0:=Kf (Xq nd g2.b) r2 r3;rw[this];rfl
def aq3(hm:2<=m)(P:Lw sz K hs gw)(hh:Th t f M)(hr:M[r]?=some (.dT gw))(hrt:r≠t) :
 ∃sizes acts M',prog.call m 30 [.ref t,vo K r hs,.int 4] M=.ok (kh sizes acts) M'/\WOk K hs sizes acts/\St t f M M':=by
 rw[call_of (a_ (by decide) hm) rfl];have h3:=P.k3;have hl:=P.len;have ht:t<M.length:=by obtain⟨n,h,_⟩:=hh;exact xq h
 have hrl:=xq hr;have r0:=aqm (W:=⟨prog.call (m-1),prog.cls⟩) (M:=M) (K:=K) (y:=19) (e:=.ix (.v 1) (.i 0)) (ρ:=[D.ref t,vo K r hs,D.int 4,none,none,none,none,none,none,none,none,none,none,none,none,none,none,none,none]) rfl (by simp[Xj]) (a_ h3 (by decide));have g0:Gs t f M.length M (M++List.replicate K (.lst [])):=Gs.app hh (bw _) _;have w0:Rw hs K M.length [] (M++List.replicate K (.lst [])):=⟨λi hi=>by
  rw[je x_];simp[rowsOf,hi],by simp,by simp[rowsOf],xg⟩
 obtain⟨v,M1,e1,l1,s1,n1⟩:=Bp (many:=5) (m:=m-1) (r_ hm) g0.has (by decide) (by decide);obtain⟨ρ2,M2,e2,⟨b4,b5,b6,b7,b8,rfl⟩,ad,w2,hn2,g2,n2⟩:=Al (W:=⟨prog.call (m-1),prog.cls⟩) (t:=.name 4) (b:=Cd) (it:=.call 14 (.p (.v 0) (.bin .add (.v 2) (.i 1)))) (n:=v)
  (ρ:=[some (.ref t),some (vo K r hs),some (.int 4),some (.vl (wk M.length K)),none,none,none,none,none]++[none,none,none,none,none,none,none,none,none,none]) (M:=M++List.replicate K (.lst [])) (M1:=M1) (by simp[e1]) (e_ (b_ (o_ l1) (by decide)))
  (λi ρ M'=>(∃b4 b5 b6 b7 b8:Option D,ρ=[some (.ref t),some (vo K r hs),some (.int 4),some (.vl (wk M.length K)),b4,b5,b6,b7,b8]++[none,none,none,none,none,none,none,none,none,none])/\∃ad,Rw hs K M.length ad M'/\(∀q∈ad,q.1<i)/\Gs t f M.length M M'/\M'.length=M.length+K)
  ⟨⟨none,none,none,none,none,rfl⟩,[],⟨w0.rs.keep s1 ht,w0.kd,w0.le,w0.nd⟩,by simp,g0.trans (Gs.Zv s1),by simp at n1;exact n1⟩
  (λi ρ M2 hi hI=>by
   obtain⟨⟨b4,b5,b6,b7,b8,rfl⟩,ad,q1,hn,q2,q3⟩:=hI;obtain⟨c5,c6,c7,c8,ad',M3,e3,k1,Om,k2,k3⟩:=awi (m:=m-1) (r:=r) (n:=i) (r_ hm) P q2.has ht q1 hn (b5:=b5) (b6:=b6) (b7:=b7) (b8:=b8) (rest:=[none,none,none,none,none,none,none,none,none,none]) rfl;exact⟨_,.next,_,M3,rfl,e3,.inl rfl,⟨some (.int i),c5,c6,c7,c8,rfl⟩,ad',k1,Om,q2.trans k2,k3.trans q3⟩)
 have hM2:=n2;obtain⟨ρ3,M3,e3,⟨b10,Qa,Sq,rfl⟩,as,a3,a4,a5,w3,g3,n3⟩:=Al (W:=⟨prog.call (m-1),prog.cls⟩) (t:=.name 10) (b:=Ht) (it:=.blt .len (.o (.ix (.v 1) (.i 1)))) (n:=hs.length)
  (ρ:=[D.ref t,vo K r hs,D.int 4,D.vl (wk M.length K),b4,b5,b6,b7,b8,D.ref M2.length,none,none,none,none,none,none,none,none,none]) (M:=M2++[.lst []]) (M1:=M2++[.lst []]) (by simp[Qg,Nv]) (a_ hl (by decide))
  (λj ρ M'=>(∃b10 Qa Sq:Option D,ρ=[some (.ref t),some (vo K r hs),some (.int 4),some (.vl (wk M.length K)),b4,b5,b6,b7,b8,some (.ref M2.length),b10,Qa,Sq,none,none,none,none,none,none]) /\
   ∃as:List (List Nat),M'[M2.length]?=some (.lst (as.map λjs=>.vl (js.map nD)))/\as.length=j/\(∀(j:Nat)(g:F)(js:Y3),hs[j]?=some g->as[j]?=some js->Ae hs gw ad j g js)/\Rw hs K M.length ad M'/\Gs t f M.length M M'/\M'.length=M2.length+1)
  ⟨⟨none,none,none,rfl⟩,[],by simp,rfl,by simp,⟨λi hi=>v5 (w2.rs i hi),w2.kd,w2.le,w2.nd⟩,g2.trans (Gs.app g2.has (by lia) _),by simp⟩
  (λj ρ M3 hj hI=>by
   obtain⟨⟨b10,Qa,Sq,rfl⟩,as,q1,q2,q3,q4,q5,q6⟩:=hI;have hjg:hs[j]?=some hs[j]:=by simp[hj]
   obtain⟨js,c7,k1⟩:=a2j (m:=m-1) (M:=M3) (r:=r) (r_ hm) P (q5.low _ _ hrl hrt hr) q4 hjg (a0:=some (.ref t)) (a2:=some (.int 4)) (a4:=b4) (a5:=b5) (a6:=b6) (a7:=b7) (a8:=b8) (a9:=some (.ref M2.length)) (rest:=[none,none,none,none,none,none]) rfl;have ap:=Gz (d:=.vl (js.map nD)) q1 (by simp;exact c_ (f_ q2) (b_ hj (a_ hl (by decide))));have pe:∀ρ,(Tg.names [11,12]).put (eD hs[j]) ρ=some ((ρ.set 11 (some (.int hs[j].a))).set 12 (some (.int hs[j].b))):=λ_=>rfl
   simp only[yw,zj] at c7;refine⟨_,.next,_,M3.set M2.length (.lst ((as.map λjs=>.vl (js.map nD))++[.vl (js.map nD)])),rfl,by simp[Ht,Qg,Ri hjg,pe,Hf q1,c7,ap],.inl rfl,⟨some (.int j),some (.int hs[j].a),some (.int hs[j].b),rfl⟩,as++[js],by rw[ur q1];simp,by simp[q2],λj' g js' hg Zz=>?_,⟨λi hi=>?_,q4.kd,q4.le,q4.nd⟩,q5.trans (Gs.agx q5.has (Yg.set (by lia)) ht (by simp)),by simp[q6]⟩
   . by_cases z:j'<as.length
     . rw[dm z] at Zz;exact q3 j' g js' hg Zz
     . have ze:j'=j:=by have:=(ak.mp Zz).1;simp at this;lia
       subst ze;rw[je (s_ z),q2] at Zz;simp at Zz;subst Zz;rw[hjg] at hg;cases hg;exact k1
   . rw[qu (by lia)];exact q4.rs i hi)
 obtain⟨M4,e4,mk4,kp4,n4⟩:=ak5 (W:=⟨prog.call (m-1),prog.cls⟩) (t:=t) (M:=M3) (ρ:=[D.ref t,vo K r hs,D.int 4,D.vl (wk M.length K),b4,b5,b6,b7,b8,D.ref M2.length,b10,Qa,Sq,none,none,none,none,none,none]) rfl rfl w3.rs h3 w3.le (by lia);have g4:Gs t f M.length M M4:=g3.trans ⟨by obtain⟨n,h,o⟩:=g3.has;exact⟨n,kp4 _ _ h,o⟩,λa o _ _ e=>kp4 a o e,by lia⟩;have ac4:Ac M2.length hs (λe=>(rowsOf hs ad e).length) as M4:=⟨kp4 _ _ a3,a4,λj g js h1 h2=>⟨(a5 j g js h1 h2).len,(a5 j g js h1 h2).lt⟩⟩;have cg4:Cgs hs as hs.length (λe=>List.range (rowsOf hs ad e).length):=λj g js _ h1 h2 x y hx hy e=>by
  have hl:=(a5 j g js h1 h2).len;have ex:(List.range (rowsOf hs ad g.a).length).getD x 0=x:=by simp[<- hl,hx]
  have ey:(List.range (rowsOf hs ad g.a).length).getD y 0=y:=by simp[<- hl,hy]
  simp only[ex,ey] at e;rw[e]
 obtain⟨u,M5,e5,l5,s5,n5⟩:=Bp (many:=4) (m:=m-1) (r_ hm) g4.has (by decide) (by decide);obtain⟨ρ6,M6,e6,⟨d5,d10,d11,d12,d14,d15,rfl⟩,ms,mk6,cg6,ac6,g6,n6⟩:=Al (W:=⟨prog.call (m-1),prog.cls⟩) (t:=.name 10) (b:=Ca) (it:=.call 14 (.p (.v 0) (.i 4))) (n:=u)
  (ρ:=[D.ref t,vo K r hs,D.int 4,D.vl (wk M.length K),b4,b5,b6,b7,b8,D.ref M2.length,b10,Qa,Sq,D.ref (M3.length+K),none,none,none,none,none]) (M:=M4) (M1:=M5) (by simp[e5]) (e_ (b_ (o_ l5) (by decide)))
  (λ_ ρ M'=>(∃b5 b10 Qa Sq b14 b15:Option D,ρ=[some (.ref t),some (vo K r hs),some (.int 4),some (.vl (wk M.length K)),b4,b5,b6,b7,b8,some (.ref M2.length),b10,Qa,Sq,some (.ref (M3.length+K)),b14,b15,none,none,none]) /\
   ∃ms,Mk t (M3.length+K) K (λe=>(rowsOf hs ad e).length) ms M'/\Cgs hs as hs.length ms/\Ac M2.length hs (λe=>(rowsOf hs ad e).length) as M'/\Gs t f M.length M M'/\M3.length+K<M'.length)
  ⟨⟨b5,b10,Qa,Sq,none,none,rfl⟩,_,mk4.st s5 (by lia),cg4,ac4.of λo e=>s5.keep _ _ (by lia) e,g4.trans (Gs.Zv s5),by lia⟩
  (λi ρ M6 hi hI=>by
   obtain⟨⟨b5,b10,Qa,Sq,b14,b15,rfl⟩,ms,q1,qc,q2,q3,q4⟩:=hI;obtain⟨c5,c11,c12,c14,c15,Ly,M7,e7,k1,kc,k2,k3⟩:=awr (m:=m-1) (r:=r) (p:=M.length) (r_ hm) P q3.has q1 q2 ht (by lia) q4 (by lia) (by lia) (by lia) w3.le qc (a2:=some (.int 4)) (a3:=some (.vl (wk M.length K))) (b4:=b4) (b5:=b5) (b6:=b6) (b7:=b7) (b8:=b8) (b10:=some (.int i)) (Qa:=Qa) (Sq:=Sq) (b14:=b14) (b15:=b15) (n16:=none) (n17:=none) (n18:=none);exact⟨_,.next,_,M7,rfl,e7,.inl rfl,⟨c5,some (.int i),c11,c12,c14,c15,rfl⟩,Ly,k1,kc,k2,q3.trans k3,by have:=k3.len;exact b_ q4 this⟩)
 obtain⟨hd,e7,hd1,hd2⟩:=aq0 (W:=⟨prog.call (m-1),prog.cls⟩) (M:=M6) (ρ:=[D.ref t,vo K r hs,D.int 4,D.vl (wk M.length K),b4,d5,b6,b7,b8,D.ref M2.length,d10,d11,d12,D.ref (M3.length+K),d14,d15,none,none,none]) rfl rfl mk6 h3 w3.le;have hdl:∀e,e<K->∃l,hd[e]?=some l/\l.length<=7/\∀x,x∈l↔x∈ms e:=λe he=>by have z:hd[e]?=some hd[e]:=bz (b_ he (g_ hd1));obtain⟨y1,_,y2⟩:=hd2 e _ z;have:=w3.le e he;exact⟨_,z,a_ y1 this,y2⟩
 obtain⟨ρ8,M8,e8,⟨f10,f11,f12,f18,rfl⟩,td,t1,t2,t3,t4,g8,n8⟩:=Al (W:=⟨prog.call (m-1),prog.cls⟩) (t:=.name 10) (b:=Du) (it:=.blt .len (.o (.ix (.v 1) (.i 1)))) (n:=hs.length)
  (ρ:=[D.ref t,vo K r hs,D.int 4,D.vl (wk M.length K),b4,d5,b6,b7,b8,D.ref M2.length,d10,d11,d12,D.ref (M3.length+K),d14,d15,D.vl (hd.map T9),D.ref M6.length,none]) (M:=M6++[.lst []]) (M1:=M6++[.lst []]) (by simp[Qg,Nv]) (a_ hl (by decide))
  (λj ρ M'=>(∃b10 Qa Sq b18:Option D,ρ=[some (.ref t),some (vo K r hs),some (.int 4),some (.vl (wk M.length K)),b4,d5,b6,b7,b8,some (.ref M2.length),b10,Qa,Sq,some (.ref (M3.length+K)),d14,d15,some (.vl (hd.map T9)),some (.ref M6.length),b18]) /\
   ∃td:List (List Nat),M'[M6.length]?=some (.lst (td.map λjs=>.tup (js.map nD)))/\td.length=j/\(∀(j:Nat)(g:F)(js:Y3),hs[j]?=some g->td[j]?=some js->js.length=(hd.map List.length).getD g.a 0/\∀x∈js,x<(hd.map List.length).getD g.b 0)/\(∀(j:Nat)(g:F)(js:Y3),hs[j]?=some g->td[j]?=some js->∃s la lb,as[j]?=some s/\hd[g.a]?=some la/\hd[g.b]?=some lb/\js=Ss ms g s la lb)/\yt M6 M'/\M'.length=M6.length+1)
  ⟨⟨d10,d11,d12,none,rfl⟩,[],by simp,rfl,by simp,by simp,yt.app _ _,by simp⟩
  (λj ρ M7 hj hI=>by
   obtain⟨⟨b10,Qa,Sq,b18,rfl⟩,td,q1,q2,q3,qe,q4,q5⟩:=hI;have hjg:hs[j]?=some hs[j]:=by simp[hj]
   obtain⟨sj,ej,_⟩:=ac6.get hjg;have hg:=aq hjg;obtain⟨la,x1,x2,x3⟩:=hdl _ (P.Vb _ hg);obtain⟨lb,y1,y2,y3⟩:=hdl _ (P.Ti _ hg);have mk7:=mk6.frame (M':=M7) (λa o _ _ e=>q4 a o e) (by lia);have ac7:=ac6.of (M':=M7) λo e=>q4 _ _ e
   obtain⟨c18,zs,e9,kz,k1,k2⟩:=ak8 (W:=⟨prog.call (m-1),prog.cls⟩) (r:=r) mk7 ac7 (hl:=hd) hjg ej (P.Vb _ hg) (P.Ti _ hg) x1 y1 x3 y3 x2 q1 (by simp;exact c_ (f_ q2) (b_ hj (a_ hl (by decide)))) (a0:=some (.ref t)) (a2:=some (.int 4)) (a3:=some (.vl (wk M.length K))) (b4:=b4) (b5:=d5) (b6:=b6) (b7:=b7) (b8:=b8) (Qa:=Qa) (Sq:=Sq) (b14:=d14) (b15:=d15) (b18:=b18);refine⟨_,.next,_,_,rfl,e9,.inl rfl,⟨some (.int j),some (.int hs[j].a),some (.int hs[j].b),c18,rfl⟩,td++[zs],by rw[ur q1];simp,by simp[q2],λj' g js' Yw Zz=>?_,λj' g js' Yw Zz=>?_,λa o e=>?_,by simp[q5]⟩
   . by_cases z:j'<td.length
     . rw[dm z] at Zz;exact q3 j' g js' Yw Zz
     . have ze:j'=j:=by have:=(ak.mp Zz).1;simp at this;lia
       subst ze;rw[je (s_ z),q2] at Zz;simp at Zz;subst Zz;rw[hjg] at Yw;cases Yw;have u1:(hd.map List.length).getD hs[j'].a 0=la.length:=by simp[bc,x1]
       have u2:(hd.map List.length).getD hs[j'].b 0=lb.length:=by simp[bc,y1]
       rw[u1,u2];exact⟨k1,k2⟩
   . by_cases z:j'<td.length
     . rw[dm z] at Zz;exact qe j' g js' Yw Zz
     . have ze:j'=j:=by have:=(ak.mp Zz).1;simp at this;lia
       subst ze;rw[je (s_ z),q2] at Zz;simp at Zz;subst Zz;rw[hjg] at Yw;cases Yw;exact⟨sj,la,lb,ej,x1,y1,kz⟩
   . rw[qu (by have:=xq e;exact i_ this)];exact q4 a o e)
 have c1:Hm.den ⟨prog.call (m-1),prog.cls⟩ [D.ref t,vo K r hs,D.int 4,D.vl (wk M.length K),b4,d5,b6,b7,b8,D.ref M2.length,f10,f11,f12,D.ref (M3.length+K),d14,d15,D.vl (hd.map T9),D.ref M6.length,f18] M8=.ok (.vl ((hd.map List.length).map nD)) M8:=by
  unfold Hm;rw[Am (d:=.vl (hd.map T9)) (ds:=hd.map T9) (M1:=M8) (g:=λd=>match d with|.vl l=>.int l.length|_=>.non) (by simp) rfl (by simp;exact a_ (f_ hd1) (a_ h3 (by decide))) (λz hz=>by
   obtain⟨l,hl',rfl⟩:=bf.mp hz;refine⟨_,rfl,?_⟩;simp[T9,uc,Jc])]
  simp[T9,nD]
 refine⟨hd.map List.length,td,M8,?_,⟨by simp[hd1],t2,λx hx=>?_,t3,λj1 j2 g1 g2 z1 z2 h1 h2 eg q1 q2 x hx=>?_⟩,?_⟩
 . simp only[yw,zj] at e2
   have s3':Nk.den ⟨prog.call (m-1),prog.cls⟩ _ _=_:=e2;have s2':Ni.den ⟨prog.call (m-1),prog.cls⟩ _ _=_:=e3;have s1':Nh.den ⟨prog.call (m-1),prog.cls⟩ _ _=_:=e6;have s0':Nf.den ⟨prog.call (m-1),prog.cls⟩ _ _=_:=e8;have r0':Lr.den ⟨prog.call (m-1),prog.cls⟩ _ _=_:=r0;simp[-um,Fn.run,Rg,Rf,r0',s3',MW.new,s2',e4,s1',e7,s0',c1,Qq,uc,Jv (jt t1),kh]
 . obtain⟨l,hl',rfl⟩:=bf.mp hx
   obtain⟨i,hi,rfl⟩:=m8 hl';obtain⟨l2,y1,y2,_⟩:=hdl i (b_ hi (f_ hd1));rw[bz hi] at y1;cases y1;exact y2
 . obtain⟨s1,la,lb,i1,i2,i3,rfl⟩:=t4 _ _ _ h1 q1
   obtain⟨s2,lb',lc,i4,i5,i6,rfl⟩:=t4 _ _ _ h2 q2;rw[<- eg,i3] at i5;cases i5;have hx':x<la.length:=by simpa[Ss] using hx
   rcases func P w3.nd mk6.len mk6.lt mk6.fx cg6 a5 (λe l he=>(hd2 e l he).2) h1 h2 eg i1 i4 i2 i3 i6 hx' with⟨e1,e2⟩|⟨j3,e1,e2,e3⟩
   . rw[e2,K7,cz e1]
   . have l3:=(ak.mp e2).1
     have u3:td[j3]?=some td[j3]:=bz (b_ l3 (g_ t2));obtain⟨s3,la',lc',i7,i8,i9,i10⟩:=t4 _ _ _ e2 u3;have i8:hd[g1.a]?=some la':=i8;have i9:hd[g2.b]?=some lc':=i9;rw[i2] at i8;cases i8;rw[i6] at i9;cases i9;have nj:¬((j3:Int)=-1):=by lia
     rw[e3 _ i7,<- i10,K7,e1,bx nj];simp[bc,u3]
 . have:Gs t f M.length M M8:=g6.trans ⟨by obtain⟨n,h,o⟩:=g6.has;exact⟨n,g8 _ _ h,o⟩,λa o _ _ e=>g8 a o e,by lia⟩
   exact this.st
end K05
namespace MW
end MW
namespace K05
open MW
theorem Z0{α β:Type}(f:α->β):∀(l:List α)(i:Nat),(l.map f).eraseIdx i=(l.eraseIdx i).map f
 |[],_=>by simp|a::l,0=>rfl|a::l,i+1=>by simp[List.eraseIdx,Z0 f l i]
theorem Hc:∀(l:Y3)(i:Nat)(h:i<l.length),(l[i]::l.eraseIdx i).Perm l
 |a::l,0,_=>by simp
 |a::l,i+1,h=>by
  have:=Hc l i (by simpa using h);simp only[List.getElem_cons_succ,List.eraseIdx_cons_succ];exact(List.Perm.swap _ _ _).trans (this.cons a)
def a2q{l:Y3}(h:M[n]?=some (.lst (l.map nD)))(hi:i<l.length):Ec .pop (.ref n) [.int i] M=.ok (.int (l.getD i 0)) (M.set n (.lst ((l.eraseIdx i).map nD))):=by
 have e:O8 (l.map nD).length (i:Int)=some i:=by simp[O8,hi]
 simp[Ec,h,O8,hi,Z0];rfl
def a2r(h:M[n]?=some (.lst ds)):Jt .pop (.ref n) M=true:=by simp[Jt,h]
def aq4(hm:1<=m)(hh:Th t f M){n:Nat}(hn:n<=7)(hl:M[lf]?=some (.lst ((List.range n).map nD)))(htl:t<lf) :
 ∃(o:Y3)(M':di),Gr.den ⟨prog.call m,prog.cls⟩ [D.ref t,a1,a2,D.int n,D.ref lf] M=.ok (.vl (o.map nD)) M'/\o.Perm (List.range n)/\Gs t f lf M M'/\M'.length=M.length:=by
 unfold Gr;obtain⟨ys,M',e,o,lt,r1,r2,r3,r4,r5,r6⟩:=Kr (W:=⟨prog.call m,prog.cls⟩) (v:=true) (k:=1) (t:=.name 5) (it:=.v 3) (e:=.bm .pop (.v 4) (.o (.call 14 (.p (.v 0) (.l (.v 4)))))) (ρ:=[D.ref t,a1,a2,D.int n,D.ref lf]) (M:=M) (M1:=M) (n:=n) (by simp) (a_ hn (by decide))
  (λi xs M'=>∃(o lt:Y3),xs=o.map nD/\o.length=i/\M'[lf]?=some (.lst (lt.map nD))/\(o++lt).Perm (List.range n)/\Gs t f lf M M'/\M'.length=M.length) ⟨[],List.range n,rfl,rfl,hl,by simp,Gs.refl hh,rfl⟩
  (λi xs M1 hi hI=>by
   obtain⟨o,lt,rfl,q1,q2,q3,q4,q5⟩:=hI;have hlen:o.length+lt.length=n:=by have:=q3.length_eq;simpa using this
   have ln:=len_list (jt q2);simp only[gm] at ln;obtain⟨v,M2,e1,l1,s1,n1⟩:=Bp (many:=lt.length) hm q4.has (by lia) (by lia);have hv:v<lt.length:=o_ l1
   have g2:=s1.keep _ _ (i_ htl) q2;have po:=a2q g2 hv;refine⟨_,.int (lt.getD v 0),M2.set lf (.lst ((lt.eraseIdx v).map nD)),rfl,?_,o++[lt.getD v 0],lt.eraseIdx v,by simp[nD],by simp[q1],ur g2,?_,q4.trans ((Gs.Zv s1).trans (Gs.agx s1.has (Yg.set (bw _)) htl (by simp))),by simp;exact n1.trans q5⟩
   . show(Ex.bm .pop (.v 4) (.o (.call 14 (.p (.v 0) (.l (.v 4)))))).den _ [D.ref t,a1,a2,D.int n,D.ref lf,D.int i] M1=_
     simp[-bc,a2r q2,ln,e1,po]
   . have e2:lt.getD v 0=lt[v]:=by simp[bc,hv]
     rw[e2,yf];refine List.Perm.trans (List.Perm.append_left o ?_) q3;exact Hc lt v hv)
 refine⟨o,M',by rw[e,r1];rfl,?_,r5,r6⟩;have hlen:o.length+lt.length=n:=by have:=r4.length_eq;simpa using this
 have:lt=[]:=List.eq_nil_of_length_eq_zero (by lia);rw[this,xx] at r4;exact r4
noncomputable def Gy(os:List (List Nat)):D:=.tup (os.map λo=>.tup (o.map nD))
def ak9(hm:2<=m)(hh:Th t f M)(hs7:∀x∈sizes,x<=7)(hsl:sizes.length<=3) :
 ∃(os:List (List Nat))(M':di),prog.call m 31 [.ref t,kh sizes acts] M=.ok (Gy os) M'/\os.length=sizes.length/\(∀(i:Nat)(o:Y3),os[i]?=some o->o.Perm (List.range (sizes.getD i 0)))/\St t f M M':=by
 rw[call_of (a_ (by decide) hm) rfl];have ht:t<M.length:=by obtain⟨n,h,_⟩:=hh;exact xq h
 obtain⟨ρ',M',e,⟨b3,b4,rfl⟩,os,r1,r2,r3,r4⟩:=Uh (W:=⟨prog.call (m-1),prog.cls⟩) (t:=.name 3) (b:=Df) (it:=.ix (.v 1) (.i 0)) (ds:=sizes.map nD) (ρ:=[D.ref t,kh sizes acts,D.ref M.length,none,none]) (M:=M++[.lst []]) (M1:=M++[.lst []]) (by simp[kh])
  (λi ρ M'=>(∃b3 b4:Option D,ρ=[some (.ref t),some (kh sizes acts),some (.ref M.length),b3,b4])/\∃os:List (List Nat),M'[M.length]?=some (.lst (os.map λo=>.tup (o.map nD)))/\os.length=i/\(∀(i:Nat)(o:Y3),os[i]?=some o->o.Perm (List.range (sizes.getD i 0)))/\Gs t f M.length M M')
  ⟨⟨none,none,rfl⟩,[],by simp,rfl,by simp,Gs.app hh (bw _) _⟩
  (λi x ρ M1 hx hI=>by
   obtain⟨⟨b3,b4,rfl⟩,os,q1,q2,q3,q4⟩:=hI;obtain⟨n,hn,rfl⟩:∃n,sizes[i]?=some n/\nD n=x:=by simpa using hx
   have hn7:=hs7 n (aq hn);have hl1:=xq q1;have h2:Th t f (M1++[.lst ((List.range n).map nD)]):=by obtain⟨k,h,o⟩:=q4.has;exact⟨k,v5 h,o⟩
   obtain⟨o,M2,e2,p2,g2,n2⟩:=aq4 (m:=m-1) (M:=M1++[.lst ((List.range n).map nD)]) (n:=n) (lf:=M1.length) (r_ hm) h2 hn7 (by simp) (d_ ht hl1) (a1:=some (kh sizes acts)) (a2:=some (.ref M.length));have f2:M2[M.length]?=some (.lst (os.map λo=>.tup (o.map nD))):=g2.low _ _ hl1 (i_ ht) (v5 q1);have Xz:i<sizes.length:=(ak.mp hn).1
   have ap:=Gz (d:=.tup (o.map nD)) f2 (by simp;exact c_ (f_ q2) (b_ Xz (a_ hsl (by decide))));have n9:n<=100000:=a_ hn7 (by decide)
   refine⟨_,.next,_,M2.set M.length (.lst ((os.map λo=>.tup (o.map nD))++[.tup (o.map nD)])),rfl,?_,.inl rfl,⟨some (nD n),some (.ref M1.length),rfl⟩,os++[o],by rw[ur f2];simp,by simp[q2],λi' o' ho=>?_,q4.trans ⟨?_,λa u ha na e=>?_,?_⟩⟩
   . have e2':=e2
     have rg:(List.range n).map (λ(k:Nat)=>D.int (k:Int))=(List.range n).map nD:=rfl;have q1':=v5 (X:=[.lst ((List.range n).map nD)]) q1;show Df.den ⟨prog.call (m-1),prog.cls⟩ [D.ref t,kh sizes acts,D.ref M.length,D.int n,b4] M1=_;have run:(Ex.aad (.v 3)).den ⟨prog.call (m-1),prog.cls⟩ [D.ref t,kh sizes acts,D.ref M.length,D.int n,b4] M1=.ok (.ref M1.length) (M1++[.lst ((List.range n).map nD)]):=by simp[n9,MW.new];intro a _;rfl
     simp[-acs,Df,run,Hf q1',e2,Qq,ap];rfl
   . by_cases z:i'<os.length
     . rw[dm z] at ho;exact q3 i' o' ho
     . have ze:i'=i:=by have:=(ak.mp ho).1;simp at this;lia
       subst ze;rw[je (s_ z),q2] at ho;simp at ho;subst ho;simpa[bc,hn] using p2
   . obtain⟨k,h,o⟩:=g2.has
     exact⟨k,by rw[qu (i_ ht)];exact h,o⟩
   . rw[qu (i_ ha)]
     exact g2.low a u (d_ ha hl1) na (v5 e)
   . simp at n2 ⊢;lia)
 have hl:(sizes.map nD).length=sizes.length:=by simp
 rw[hl] at r2;refine⟨os,M',?_,r2,r3,r4.st⟩;have e':Ls.den ⟨prog.call (m-1),prog.cls⟩ _ _=_:=e;simp[Fn.run,P0,Pz,MW.new,e',uc,Jv (jt r1),Gy]
end K05
namespace K05
open MW
noncomputable def su(l:Y3):D:=.tup (l.map nD)
def ae4(s:Y3)(a:List (List Nat))(M:di):Ax (kh s a) (.int 0) M=some (su s):=rfl
def ai6(s:Y3)(a:List (List Nat))(M:di):Ax (kh s a) (.int 1) M=some (.tup (a.map su)):=rfl
def Z1{l:Y3}(h:i<l.length):Ax (su l) (.int i) M=some (.int (l.getD i 0)):=Kq q_ (by simp[h,nD])
def ai7{a:List (List Nat)}{j:Nat}(h:a[j]?=some js):Ax (.tup (a.map su)) (.int j) M=some (su js):=Kq q_ (by simp[h])
noncomputable def Qy(act here there:Y3):List Nat:=(List.range act.length).map λp=>there.getD (act.getD (Yi here p) 0) 0
def aq5{l:Y3}:(l.set i v).getD j 0=if i=j/\j<l.length then v else l.getD j 0:=by
 simp only[bc,List.getElem?_set]
 by_cases h:i=j
 . subst h
   by_cases z:i<l.length<;>simp[z]
 . simp[h]
def ala(hm:1<=m)(hp:here.Perm (List.range act.length))(hb:∀x∈act,x<there.length)(hl:act.length<=7) :
 ∃M',prog.call m 28 [su act,su here,su there] M=.ok (su (Qy act here there)) M'/\yt M M'/\M.length<=M'.length:=by
 rw[call_of hm rfl];have hhl:here.length=act.length:=by have:=hp.length_eq;simpa using this
 have nd:here.Nodup:=hp.nodup_iff.mpr yx;obtain⟨ρ',M',e,⟨b4,b5,rfl⟩,fr,r1,r2,r3,r4,r5⟩:=Ij (W:=⟨prog.call (m-1),prog.cls⟩) (t:=.names [4,5]) (b:=Bo) (it:=.v 0) (ds:=act.map nD) (ρ:=[su act,su here,su there,D.ref M.length,none,none]) (M:=M++[.lst (act.map nD)]) (M1:=M++[.lst (act.map nD)]) (by simp[su])
  (λi ρ M'=>(∃b4 b5:Option D,ρ=[some (su act),some (su here),some (su there),some (.ref M.length),b4,b5])/\∃fr:List Nat,M'[M.length]?=some (.lst (fr.map nD))/\fr.length=act.length/\(∀i',i'<i->fr.getD (here.getD i' 0) 0=there.getD (act.getD i' 0) 0)/\yt M M'/\M.length<=M'.length)
  ⟨⟨none,none,rfl⟩,act,by simp,rfl,λi' h=>absurd h (v7 _),yt.app _ _,by simp⟩
  (λi x ρ M1 hx hI=>by
   obtain⟨⟨b4,b5,rfl⟩,fr,q1,q2,q3,q4,q5⟩:=hI;obtain⟨y,hy,rfl⟩:∃y,act[i]?=some y/\nD y=x:=by simpa using hx
   have Xz:=(ak.mp hy).1;have hyl:=hb y (aq hy);have hh:here.getD i 0∈here:=getD_mem' (b_ Xz (g_ hhl));have hhn:here.getD i 0<act.length:=by have:=hp.mem_iff.mp hh;simpa using this
   have i1:=Z1 (M:=M1) (l:=here) (i:=i) (b_ Xz (g_ hhl));have i2:=Z1 (M:=M1) (l:=there) (i:=y) hyl;have ay:act.getD i 0=y:=by simp[bc,hy]
   have a9y:∀i',i'<i->here.getD i' 0≠here.getD i 0:=λi' Vg z=>by simp only[bc,bz (show i'<here.length by exact d_ Vg (b_ Xz (g_ hhl))),bz (show i<here.length by exact b_ Xz (g_ hhl)),xf] at z;have:=(vd nd).mp z;exact l_ Vg (g_ this)
   generalize hk:here.getD i 0=k at i1 hhn a9y;generalize hv:there.getD y 0=v at i2;have st:=Vj (i:=(k:Int)) (d:=.int v) q1 q_ (by simp;exact b_ hhn (g_ q2));have em:(fr.map nD).set k (D.int (v:Int))=(fr.set k v).map nD:=by rw[List.map_set];rfl
   rw[t7,em] at st;refine⟨_,.next,_,M1.set M.length (.lst ((fr.set k v).map nD)),Ce _ _ _ _ _,?_,.inl rfl,⟨some (.int i),some (nD y),rfl⟩,fr.set k v,ur q1,by simp[q2],λi' Vg=>?_,λa o e=>?_,by simp[q5]⟩
   . show Bo.den ⟨prog.call (m-1),prog.cls⟩ [su act,su here,su there,D.ref M.length,D.int i,D.int y] M1=_
     simp[Bo,i1,i2,st];rfl
   . rw[aq5]
     by_cases z:i'=i
     . subst z
       rw[hk,cz ⟨rfl,b_ hhn (g_ q2)⟩,ay,hv]
     . have:=a9y i' (by lia)
       rw[bx (λw=>this w.1.symm)];exact q3 i' (by lia)
   . rw[qu (by have:=xq e;exact i_ this)];exact q4 a o e)
 have hfr:fr=Qy act here there:=by
  apply List.ext_getElem
  . simp[Qy,r2]
  . intro p h1 h2
    have Ib:p<act.length:=b_ h1 (f_ r2)
    have hm:p∈here:=hp.mem_iff.mpr (ig.mpr Ib);have hi:=Xp hm;have:=r3 (Yi here p) (by simp;exact b_ hi (f_ hhl));rw[O1 hm,bc,bz h1] at this;simp[Qy] at this ⊢;exact this
 rw[hfr] at r1;refine⟨M',?_,r4,r5⟩;have e':Hl.den ⟨prog.call (m-1),prog.cls⟩ _ _=_:=e;have ls:uc .list [su act] M=.ok (.ref M.length) (M++[.lst (act.map nD)]):=rfl;have tp:uc .tuple [.ref M.length] M'=.ok (su (Qy act here there)) M':=by simp[uc,Jv (jt r1),su]
 simp[Fn.run,Kc,Ka,ls,e',tp]
noncomputable def Pb(hs:List F)(acts os:List (List Nat)):List (List Nat):=(hs.zip acts).map λp=>Qy p.2 (os.getD p.1.a []) (os.getD p.1.b [])
structure Od(sizes:Y3)(os:List (List Nat)):Prop where
 len:os.length=sizes.length
 pm:∀(i:Nat)(o:Y3),os[i]?=some o->o.Perm (List.range (sizes.getD i 0))
def Od.get(h:Od sizes os)(hi:i<sizes.length):∃o,os[i]?=some o/\os.getD i []=o/\o.Perm (List.range (sizes.getD i 0))/\o.length=sizes.getD i 0:=by
 have hl:i<os.length:=by rw[h.len];exact hi
 have e:os[i]?=some os[i]:=bz hl;have p:=h.pm i _ e;exact⟨_,e,by simp[bc,e],p,by have:=p.length_eq;simpa using this⟩
def a2s(os:List (List Nat)):Gy os=.tup (os.map su):=rfl
def Xu(h:acts.length=hs.length):(Pb hs acts os).length=hs.length:=by simp[Pb,h]
def Og{i:Nat}(h1:hs[i]?=some g)(h2:acts[i]?=some js):(Pb hs acts os)[i]?=some (Qy js (os.getD g.a []) (os.getD g.b [])):=by unfold Pb;have e:(hs.zip acts)[i]?=some (g,js):=xu.mpr ⟨h1,h2⟩;rw[jb,e];rfl
def take_one{α:Type}{l:List α}{x:α}(h:l[i]?=some x):l.take (i+1)=l.take i++[x]:=by rw[List.take_succ,h];rfl
def alb{l:Y3}(h:x∈l):Ec .Hd (su l) [.int x] M=.ok (.int (Yi l x)) M:=by have:=aex (M:=M) (ae2 l) (ag0 h);unfold su Yi;simpa[Ec] using this
def Qh(hm:2<=m)(P:Lw sz K hs gw)(h:Made n r' K hs gw M)(w:WOk K hs sizes acts)(o:Od sizes os) :
 ∃M',prog.call m 27 [.ref n,kh sizes acts,Gy os] M=.ok (kh sizes (Pb hs acts os)) M'/\yt M M'/\M.length<=M'.length:=by
 rw[call_of (a_ (by decide) hm) rfl];have h0:=h.keep (yt.app M [.lst []]);have hl:=P.len;have hd:=(Bj (M:=M++[.lst []]) (W:=⟨prog.call (m-1),prog.cls⟩) (n:=n) (ρ:=[D.ref n,kh sizes acts,Gy os,D.ref M.length,none,none]) (o:=.v 0) (mm:=1) (es:=.z) (ds:=[]) (fi:=2) (by simp) (by simp) h0.1 rfl).trans (T8 (r_ hm) h0);obtain⟨ρ',M',e,⟨b4,b5,rfl⟩,r1,r2,r3⟩:=U8 (W:=⟨prog.call (m-1),prog.cls⟩) (t:=.names [4,5]) (bd:=Dt) (a:=.ix (.v 1) (.i 1)) (b:=.meth (.v 0) 1 .nil) (x:=.tup (acts.map su)) (y:=Gb hs) (ds:=acts.map su) (es:=hs.map eD)
  (ρ:=[D.ref n,kh sizes acts,Gy os,D.ref M.length,none,none]) (M:=M++[.lst []]) (M1:=M++[.lst []]) (M2:=M++[.lst []]) (by simp[ai6]) hd rfl rfl
  (λi ρ M'=>(∃b4 b5:Option D,ρ=[some (.ref n),some (kh sizes acts),some (Gy os),some (.ref M.length),b4,b5])/\M'[M.length]?=some (.lst (((Pb hs acts os).take i).map su))/\yt M M'/\M.length<=M'.length) ⟨⟨none,none,rfl⟩,by simp,yt.app _ _,by simp⟩
  (λi p ρ M1 hp hI=>by
   obtain⟨⟨b4,b5,rfl⟩,q1,q2,q3⟩:=hI;obtain⟨⟨a1,a2⟩,hz,rfl⟩:∃q:D×D,((acts.map su).zip (hs.map eD))[i]?=some q/\D.tup [q.1,q.2]=p:=by simpa using hp
   obtain⟨z1,z2⟩:=xu.mp hz;obtain⟨js,hj,e1⟩:∃js,acts[i]?=some js/\su js=a1:=by simpa using z1
   obtain⟨g,hg,e2⟩:∃g,hs[i]?=some g/\eD g=a2:=by simpa using z2
   subst e1 e2;have hgm:=aq hg;obtain⟨k1,k2⟩:=w.ok i g js hg hj;obtain⟨oa,o1,o2,o3,o4⟩:=o.get (i:=g.a) (by rw[w.ls];exact P.Vb g hgm);obtain⟨ob,p1,p2,p3,p4⟩:=o.get (i:=g.b) (by rw[w.ls];exact P.Ti g hgm);have h7:sizes.getD g.a 0<=7:=w.sm _ (getD_mem' (by rw[w.ls];exact P.Vb g hgm))
   obtain⟨M2,e3,kp,le⟩:=ala (m:=m-1) (M:=M1) (r_ hm) (act:=js) (here:=oa) (there:=ob) (by rw[k1];exact o3) (λx hx=>by rw[p4];exact k2 x hx) (a_ (f_ k1) h7);have f2:=kp _ _ q1;have Xz:=(ak.mp hg).1;have ap:=Gz (d:=su (Qy js oa ob)) f2 (by simp;lia);refine⟨_,.next,_,M2.set M.length (.lst (((Pb hs acts os).take i).map su++[su (Qy js oa ob)])),Ce _ _ _ _ _,?_,.inl rfl,⟨some (su js),some (eD g),rfl⟩,?_,λa u q=>?_,by simp;exact a_ q3 le⟩
   . show Dt.den ⟨prog.call (m-1),prog.cls⟩ [D.ref n,kh sizes acts,Gy os,D.ref M.length,su js,eD g] M1=_
     simp[Dt,Hf q1,Us,Ut,a2s,ai7 o1,ai7 p1,e3,ap]
   . rw[ur f2,take_one (Og (os:=os) hg hj),o2,p2];simp
   . rw[qu (by have:=xq q;exact i_ this)];exact kp _ _ (q2 a u q))
 have el:(((acts.map su).zip (hs.map eD)).map λp=>D.tup [p.1,p.2]).length=(Pb hs acts os).length:=by simp[Pb,w.la]
 rw[el,List.take_length] at r1;refine⟨M',?_,r2,r3⟩;have e':Nb.den ⟨prog.call (m-1),prog.cls⟩ _ _=_:=e;have tp:uc .tuple [.ref M.length] M'=.ok (.tup ((Pb hs acts os).map su)) M':=by simp[uc,Jv (jt r1)]
 simp[Fn.run,Rc,Rb,MW.new,e',ae4,tp];rfl
def Xv(hs:List F)(k:Nat):Ar hs k (.int (-1))=k:=by simp[Ar]
def Oh(P:Lw sz K hs gw)(hx:.int x∈ou hs k)(hy:.int y∈ou hs (Ar hs k (.int x))) :
 ∃v:Int,bothW hs gw x y=some (.int v)/\.int v∈ou hs k/\Ar hs k (.int v)=Ar hs (Ar hs k (.int x)) (.int y):=by
 rcases Az hx with q|⟨i,f,q,hf,ef⟩
 . cases q
   rw[Xv] at hy ⊢;exact⟨y,by simp[bothW],hy,rfl⟩
 . cases q
   rw[Bq hf] at hy ⊢;have ni:¬((i:Int)=-1):=by lia
   rcases Az hy with q|⟨j,g,q,hg,eg⟩
   . cases q
     exact⟨i,by simp[bothW,ni],hx,by rw[Bq hf,Xv]⟩
   . cases q
     have hw:.int (i:Int)∈wT hs k g.a:=uy.mpr ⟨hx,by simp[Bq hf,eg]⟩;obtain⟨x',z,_,h1,h2⟩:=aiw P hg hw;cases z;obtain⟨h3,h4⟩:=ab1 h2;exact⟨_,h1,h3,by rw[h4,Bq hg]⟩
def ag2(P:Lw sz K hs gw)(hx:.int x∈ou hs k)(hy:.int y∈ou hs (Ar hs k (.int x)))(hz:.int z∈ou hs (Ar hs (Ar hs k (.int x)) (.int y))) :
 ∃a b v:Int,bothW hs gw x y=some (.int a)/\bothW hs gw y z=some (.int b)/\bothW hs gw a z=some (.int v)/\bothW hs gw x b=some (.int v):=by
 obtain⟨b,hb,_⟩:=Oh P hy hz;obtain⟨a,ha,_⟩:=Oh P hx hy;rcases Az hx with q|⟨i,f,q,hf,ef⟩
 . cases q
   have:a=y:=by simpa[bothW] using ha.symm
   subst this;exact⟨a,b,b,ha,hb,hb,by simp[bothW]⟩
 . cases q
   have ni:¬((i:Int)=-1):=by lia
   rcases Az hy with q|⟨j,g,q,hg,eg⟩
   . cases q
     have:a=i:=by simpa[bothW,ni] using ha.symm
     subst this;have:b=z:=by simpa[bothW] using hb.symm
     subst this;rw[Xv] at hz;obtain⟨v,hv,_⟩:=Oh P hx hz;exact⟨_,_,v,ha,hb,hv,hv⟩
   . cases q
     have nj:¬((j:Int)=-1):=by lia
     rw[Bq hf] at eg;rw[Bq hg] at hz;rcases Az hz with q|⟨l,h,q,hh,eh⟩
     . cases q
       have:b=j:=by simpa[bothW,nj] using hb.symm
       subst this;refine⟨a,_,a,ha,hb,?_,ha⟩;rw[bothW]
       by_cases q:a=-1
       . rw[cz q,q]
       . rw[bx q,cz rfl]
     . cases q
       obtain⟨v,v1,v2⟩:=P.af0 hf hg hh eg.symm eh.symm;have e1:bothW hs gw i j=some (.int (ent hs f g)):=by rw[bothW,bx ni,bx nj];exact P.look hf hg eg.symm
       have nl:¬((l:Int)=-1):=by lia
       have e2:bothW hs gw j l=some (.int (ent hs g h)):=by rw[bothW,bx nj,bx nl];exact P.look hg hh eh.symm
       exact⟨_,_,v,e1,e2,v1,v2⟩
def WOk.act(w:WOk K hs sizes acts){i:Nat}(hg:hs[i]?=some g):∃js,acts[i]?=some js/\(∀th,K7 acts th i=js.getD th 0)/\js.length=sizes.getD g.a 0/\∀x∈js,x<sizes.getD g.b 0:=by
 have Xz:=(ak.mp hg).1;have hj:acts[i]?=some (acts[i]'(by rw[w.la];exact Xz)):=bz _;generalize acts[i]'(by rw[w.la];exact Xz)=js at hj;have ni:¬((i:Int)=-1):=by lia
 exact⟨js,hj,λth=>by simp[K7,ni,bc,hj],w.ok i g js hg hj⟩
def aca(acts:List (List Nat))(th:Nat):K7 acts th (-1)=th:=by simp[K7]
def aq6(w:WOk K hs sizes acts)(hx:.int x∈ou hs k)(hth:th<sizes.getD k 0):K7 acts th x<sizes.getD (Ar hs k (.int x)) 0:=by
 rcases Az hx with q|⟨i,f,q,hf,ef⟩
 . cases q;rw[aca,Xv];exact hth
 . cases q
   obtain⟨js,h1,h2,h3,h4⟩:=w.act hf;rw[h2,Bq hf];exact h4 _ (getD_mem' (by rw[h3,ef];exact hth))
def ai8(P:Lw sz K hs gw)(w:WOk K hs sizes acts)(hx:.int x∈ou hs k)(hy:.int y∈ou hs (Ar hs k (.int x)))(hv:bothW hs gw x y=some (.int v))(hth:th<sizes.getD k 0):K7 acts (K7 acts th x) y=K7 acts th v:=by
 rcases Az hx with q|⟨i,f,q,hf,ef⟩
 . cases q
   have:v=y:=by simpa[bothW] using hv.symm
   rw[aca,this]
 . cases q
   have ni:¬((i:Int)=-1):=by lia
   rw[Bq hf] at hy;rcases Az hy with q|⟨j,g,q,hg,eg⟩
   . cases q
     have:v=i:=by simpa[bothW,ni] using hv.symm
     rw[aca,this]
   . cases q
     have nj:¬((j:Int)=-1):=by lia
     rw[bothW,bx ni,bx nj] at hv;have:=P.look hf hg eg.symm;have hv':v=ent hs f g:=by have:=hv.symm.trans this;simpa using this
     obtain⟨a1,h1,h2,h3,_⟩:=w.act hf;obtain⟨a2,g1,g2,g3,_⟩:=w.act hg;rw[h2,g2,hv'];exact w.fu i j f g a1 a2 hf hg eg.symm h1 g1 th (by rw[h3,ef];exact hth)
def Xw(hm:1<=m)(w:WOk K hs sizes acts)(hx:.int x∈ou hs k)(hth:th<sizes.getD k 0):prog.call m 25 [kh sizes acts,.int th,.int x] M=.ok (.int (K7 acts th x)) M:=by
 rw[call_of hm rfl];rcases Az hx with q|⟨i,g,q,hg,rfl⟩
 . cases q
   rw[aca];simp[Fn.run,amz,amy]
 . cases q
   obtain⟨js,h1,h2,h3,_⟩:=w.act hg;rw[h2];have i1:=Z1 (M:=M) (l:=js) (i:=th) (b_ hth (g_ h3));have ni:¬((i:Int)=-1):=by lia
   generalize js.getD th 0=y at i1;simp[Fn.run,amz,amy,ni,ai6,ai7 h1,i1]
def Vu(hm:1<=m)(h:Made n r K hs gw M)(hx:.int x∈ou hs k):prog.call m 5 [.ref n,.int k,.int x] M=.ok (.int (Ar hs k (.int x))) M:=by
 rcases Az hx with q|⟨i,g,q,hg,rfl⟩
 . cases q;rw[Xv];exact aqj hm h
 . cases q;rw[Bq hg];exact a2g hm h hg
def ag3(hm:3<=m)(P:Lw sz K hs gw)(w:WOk K hs sizes acts)(h:Made n r K hs gw M)(hk:k<K)(hx:.int x∈ou hs k)(hy:.int y∈ou hs (Ar hs k (.int x))) :
 ∃M',prog.call m 32 [.ref n,kh sizes acts,.int k,.int x,.int y] M=.ok (.bl true) M'/\yt M M':=by
 rw[call_of (a_ (by decide) hm) rfl];have hl:=P.len;have m1:1<=m-1:=r_ (a_ (by decide) hm)
 have m2:2<=m-1:=r_ hm
 obtain⟨v,v1,v2,v3⟩:=Oh P hx hy;have e1:=Vu m1 h hx;have e2:=Vu m1 h hy;have e3:=Vu m1 h v2;rw[v3] at e3;generalize hE1:Ar hs k (.int x)=E1 at hy e1 e2 e3 v3;generalize hE2:Ar hs E1 (.int y)=E2 at e2 e3 v3;have b1:=Kl m2 h v1;have g1:=Bj (M:=M) (W:=⟨prog.call (m-1),prog.cls⟩) (n:=n) (ρ:=[D.ref n,kh sizes acts,D.int k,D.int x,D.int y,none,none,none,none]) (o:=.v 0) (mm:=4) (es:=.cons (.v 2) (.o (.v 3))) (ds:=[.int k,.int x]) (fi:=5) (by simp) (by simp) h.1 rfl;have g2:=Bj (M:=M) (W:=⟨prog.call (m-1),prog.cls⟩) (n:=n) (ρ:=[D.ref n,kh sizes acts,D.int k,D.int x,D.int y,none,none,none,none]) (o:=.v 0) (mm:=4) (es:=.cons (.meth (.v 0) 4 (.p (.v 2) (.v 3))) (.o (.v 4))) (ds:=[.int E1,.int y]) (fi:=5) (by simp) (by simp[-Bs,g1,e1]) h.1 rfl;have g3:=Bj (M:=M) (W:=⟨prog.call (m-1),prog.cls⟩) (n:=n) (ρ:=[D.ref n,kh sizes acts,D.int k,D.int x,D.int y,D.int E2,none,none,none]) (o:=.v 0) (mm:=2) (es:=.cons (.v 3) (.o (.v 4))) (ds:=[.int x,.int y]) (fi:=3) (by simp) (by simp) h.1 rfl;have g4:=Bj (M:=M) (W:=⟨prog.call (m-1),prog.cls⟩) (n:=n) (ρ:=[D.ref n,kh sizes acts,D.int k,D.int x,D.int y,D.int E2,D.int v,none,none]) (o:=.v 0) (mm:=4) (es:=.cons (.v 2) (.o (.v 6))) (ds:=[.int k,.int v]) (fi:=5) (by simp) (by simp) h.1 rfl;have g5:=Bj (M:=M) (W:=⟨prog.call (m-1),prog.cls⟩) (n:=n) (ρ:=[D.ref n,kh sizes acts,D.int k,D.int x,D.int y,D.int E2,D.int v,none,none]) (o:=.v 0) (mm:=3) (es:=.cons (.v 5) .nil) (ds:=[.int E2]) (fi:=4) (by simp) (by simp) h.1 rfl;have hw:=ab0 m1 h hl (k:=E2);have kp:yt M (M++[.lst (ou hs E2)]):=yt.app M _;have h':=h.keep kp;obtain⟨ρ1,M1,f1,⟨b7,rfl⟩,rfl⟩:=Bl (W:=⟨prog.call (m-1),prog.cls⟩) (t:=.name 7) (b:=Fe) (it:=.meth (.v 0) 3 (.o (.v 5))) (d:=.ref M.length) (ds:=ou hs E2)
  (ρ:=[D.ref n,kh sizes acts,D.int k,D.int x,D.int y,D.int E2,D.int v,none,none]) (M:=M) (M1:=M++[.lst (ou hs E2)]) (by rw[g5];exact hw) (jt (by simp))
  (λi ρ M'=>(∃b7:Option D,ρ=[some (.ref n),some (kh sizes acts),some (.int k),some (.int x),some (.int y),some (.int E2),some (.int v),b7,none])/\M'=M++[.lst (ou hs E2)]) ⟨⟨none,rfl⟩,rfl⟩ (λ_ _ M' hI=>by rw[hI.2];exact jt (by simp))
  (λi z ρ M1 hz hI=>by
   obtain⟨⟨b7,rfl⟩,rfl⟩:=hI;obtain⟨zi,rfl⟩:=Sh (aq hz);obtain⟨a,b,u,q1,q2,q3,q4⟩:=ag2 P hx (by rw[hE1];exact hy) (z:=zi) (by rw[hE1,hE2];exact aq hz);rw[v1] at q1;cases q1;refine⟨_,.next,_,_,rfl,?_,.inl rfl,⟨some (.int zi),rfl⟩,rfl⟩;have k1:=Bj (M:=M++[.lst (ou hs E2)]) (W:=⟨prog.call (m-1),prog.cls⟩) (n:=n) (ρ:=[D.ref n,kh sizes acts,D.int k,D.int x,D.int y,D.int E2,D.int v,D.int zi,none]) (o:=.v 0) (mm:=2) (es:=.cons (.v 6) (.o (.v 7))) (ds:=[.int v,.int zi]) (fi:=3) (by simp) (by simp) h'.1 rfl;have k2:=Bj (M:=M++[.lst (ou hs E2)]) (W:=⟨prog.call (m-1),prog.cls⟩) (n:=n) (ρ:=[D.ref n,kh sizes acts,D.int k,D.int x,D.int y,D.int E2,D.int v,D.int zi,none]) (o:=.v 0) (mm:=2) (es:=.cons (.v 4) (.o (.v 7))) (ds:=[.int y,.int zi]) (fi:=3) (by simp) (by simp) h'.1 rfl;have k3:=Bj (M:=M++[.lst (ou hs E2)]) (W:=⟨prog.call (m-1),prog.cls⟩) (n:=n) (ρ:=[D.ref n,kh sizes acts,D.int k,D.int x,D.int y,D.int E2,D.int v,D.int zi,none]) (o:=.v 0) (mm:=2) (es:=.cons (.v 3) (.o (.meth (.v 0) 2 (.p (.v 4) (.v 7))))) (ds:=[.int x,.int b]) (fi:=3) (by simp) (by simp[-Bs,k2,Kl m2 h' q2]) h'.1 rfl;simp[-Bs,Fe,k1,k3,Kl m2 h' q3,Kl m2 h' q4])
 have hkl:k<sizes.length:=by rw[w.ls];exact hk
 have isz:=Z1 (M:=M++[.lst (ou hs E2)]) (l:=sizes) (i:=k) hkl;have h7:sizes.getD k 0<=7:=w.sm _ (getD_mem' hkl)
 obtain⟨ρ2,M2,f2,⟨b8,rfl⟩,rfl⟩:=Al (W:=⟨prog.call (m-1),prog.cls⟩) (t:=.name 8) (b:=Fb) (it:=.ix (.ix (.v 1) (.i 0)) (.v 2)) (n:=sizes.getD k 0)
  (ρ:=[D.ref n,kh sizes acts,D.int k,D.int x,D.int y,D.int E2,D.int v,b7,none]) (M:=M++[.lst (ou hs E2)]) (M1:=M++[.lst (ou hs E2)]) (by simp[-bc,ae4,isz]) (a_ h7 (by decide))
  (λ_ ρ M'=>(∃b8:Option D,ρ=[some (.ref n),some (kh sizes acts),some (.int k),some (.int x),some (.int y),some (.int E2),some (.int v),b7,b8])/\M'=M++[.lst (ou hs E2)]) ⟨⟨none,rfl⟩,rfl⟩
  (λth ρ M3 hth hI=>by
   obtain⟨⟨b8,rfl⟩,rfl⟩:=hI;have l1:=Xw (M:=M++[.lst (ou hs E2)]) m1 w v2 hth;have l2:=Xw (M:=M++[.lst (ou hs E2)]) m1 w hx hth;have lt:=aq6 w hx hth;rw[hE1] at lt;have l3:=Xw (M:=M++[.lst (ou hs E2)]) m1 w hy lt;rw[ai8 P w hx (by rw[hE1];exact hy) v1 hth] at l3;generalize K7 acts th x=u at l2 l3;generalize K7 acts th v=u' at l1 l3;refine⟨_,.next,_,_,rfl,?_,.inl rfl,⟨some (.int th),rfl⟩,rfl⟩;simp[Fb,l1,l2,l3])
 have f1':Ke.den ⟨prog.call (m-1),prog.cls⟩ _ _=_:=f1;have f2':Kd.den ⟨prog.call (m-1),prog.cls⟩ _ _=_:=f2;refine⟨_,?_,kp⟩;simp[-Bs,Fn.run,Nq,Np,g2,e2,g3,b1,g4,e3,f1',f2']
def all_true(M:di)(n:Nat):uc .all [.vl (List.replicate n (.bl true))] M=.ok (.bl true) M:=by
 have:∀n,allB (List.replicate n (.bl true))=some true:=λn=>by
  induction n with
  |zero=>rfl|succ n ih=>simp[List.replicate_succ,allB,ih]
 show Res.qi (((yr M (.vl (List.replicate n (.bl true)))).bind allB).map D.bl) M=_;simp[this]
def aq7(js:Y3):(js.map nD).map (λ_=>D.bl true)=List.replicate js.length (.bl true):=by
 induction js with
 |nil=>rfl|cons a l ih=>simp only[ie,gr,List.replicate_succ,ih]
def alc(hm:2<=m)(P:Lw sz K hs gw)(w:WOk K hs sizes acts)(h:Made n r K hs gw M):prog.call m 22 [.ref n,kh sizes acts] M=.ok (.bl true) M:=by
 rw[call_of (a_ (by decide) hm) rfl];have m1:1<=m-1:=r_ hm
 have h3:=P.k3;have g1:=Bj (M:=M) (W:=⟨prog.call (m-1),prog.cls⟩) (n:=n) (ρ:=[D.ref n,kh sizes acts,su sizes]) (o:=.v 0) (mm:=0) (es:=.z) (ds:=[]) (fi:=1) (by simp) (by simp) h.1 rfl;have c1:Jh.den ⟨prog.call (m-1),prog.cls⟩ [D.ref n,kh sizes acts,su sizes] M=.ok (.vl (List.replicate sizes.length (.bl true))) M:=by
  unfold Jh;rw[G3 (ds:=sizes.map nD) (M1:=M) (g:=λ_=>.bl true) (by simp[su]) (by simp[w.ls];exact a_ h3 (by decide)) (λx hx=>by
   obtain⟨y,_,rfl⟩:=bf.mp hx;refine⟨_,rfl,?_⟩;show(Ex.cmp .ge (.v 3) (.i 0)).den _ [D.ref n,kh sizes acts,su sizes,D.int y] M=_
   simp)]
  rw[cz rfl,aq7]
 have ln:uc .len [su sizes] M=.ok (.int K) M:=by simp[uc,Jc,su,w.ls]
 simp[-Bs,Fn.run,Ul,Uk,ae4,ln,g1,kinds_ok m1 h,c1,all_true]
def awu(hm:2<=m)(P:Lw sz K hs gw)(w:WOk K hs sizes acts)(h:Made n r K hs gw M):prog.call m 23 [.ref n,kh sizes acts] M=.ok (.bl true) M:=by
 rw[call_of (a_ (by decide) hm) rfl];have m1:1<=m-1:=r_ hm
 have hl:=P.len;have g1:=Bj (M:=M) (W:=⟨prog.call (m-1),prog.cls⟩) (n:=n) (ρ:=[D.ref n,kh sizes acts,su sizes,D.tup (acts.map su),none,none,none]) (o:=.v 0) (mm:=1) (es:=.z) (ds:=[]) (fi:=2) (by simp) (by simp) h.1 rfl;obtain⟨ρ',M',e,⟨b5,b6,rfl⟩,rfl⟩:=U8 (W:=⟨prog.call (m-1),prog.cls⟩) (t:=.names [5,6]) (bd:=G4) (a:=.v 3) (b:=.v 4) (x:=.tup (acts.map su)) (y:=Gb hs) (ds:=acts.map su) (es:=hs.map eD)
  (ρ:=[D.ref n,kh sizes acts,su sizes,D.tup (acts.map su),Gb hs,none,none]) (M:=M) (M1:=M) (M2:=M) (by simp) (by simp) rfl rfl
  (λi ρ M'=>(∃b5 b6:Option D,ρ=[some (.ref n),some (kh sizes acts),some (su sizes),some (.tup (acts.map su)),some (Gb hs),b5,b6])/\M'=M) ⟨⟨none,none,rfl⟩,rfl⟩
  (λi p ρ M1 hp hI=>by
   obtain⟨⟨b5,b6,rfl⟩,rfl⟩:=hI;obtain⟨⟨a1,a2⟩,hz,rfl⟩:∃q:D×D,((acts.map su).zip (hs.map eD))[i]?=some q/\D.tup [q.1,q.2]=p:=by simpa using hp
   obtain⟨z1,z2⟩:=xu.mp hz;obtain⟨js,hj,e1⟩:∃js,acts[i]?=some js/\su js=a1:=by simpa using z1
   obtain⟨g,hg,e2⟩:∃g,hs[i]?=some g/\eD g=a2:=by simpa using z2
   subst e1 e2;have hgm:=aq hg;obtain⟨k1,k2⟩:=w.ok i g js hg hj;have sa:g.a<sizes.length:=by rw[w.ls];exact P.Vb g hgm
   have sb:g.b<sizes.length:=by rw[w.ls];exact P.Ti g hgm
   have ia:=Z1 (M:=M1) (l:=sizes) (i:=g.a) sa;have ib:=Z1 (M:=M1) (l:=sizes) (i:=g.b) sb;have h7:sizes.getD g.a 0<=7:=w.sm _ (getD_mem' sa)
   rw[<- k1] at ia h7;generalize hB:sizes.getD g.b 0=B at ib k2;have ln:uc .len [su js] M1=.ok (.int js.length) M1:=by simp[uc,Jc,su]
   have c1:Kw.den ⟨prog.call (m-1),prog.cls⟩ [D.ref n,kh sizes acts,su sizes,D.tup (acts.map su),Gb hs,su js,eD g] M1=.ok (.vl (List.replicate js.length (.bl true))) M1:=by
    unfold Kw;rw[G3 (ds:=js.map nD) (M1:=M1) (g:=λ_=>.bl true) (by simp[su]) (by simp;exact a_ h7 (by decide)) (λx hx=>by
     obtain⟨y,hy,rfl⟩:=bf.mp hx;refine⟨_,rfl,?_⟩;have hyb:(y:Int)<(B:Int):=by have:=k2 y hy;exact m_ this
     show(Ex.chain .le .lt (.i 0) (.v 7) (.ix (.v 2) (.ix (.v 6) (.i 1)))).den _ [D.ref n,kh sizes acts,su sizes,D.tup (acts.map su),Gb hs,su js,eD g,D.int y] M1=_;simp[Ut,ib,hyb])]
    rw[cz rfl,aq7]
   refine⟨_,.next,_,M1,Ce _ _ _ _ _,?_,.inl rfl,⟨some (su js),some (eD g),rfl⟩,rfl⟩;show G4.den ⟨prog.call (m-1),prog.cls⟩ [D.ref n,kh sizes acts,su sizes,D.tup (acts.map su),Gb hs,su js,eD g] M1=_;simp[G4,ln,Us,ia,c1,all_true])
 have e':Ra.den ⟨prog.call (m-1),prog.cls⟩ _ _=_:=e;have la:uc .len [.tup (acts.map su)] M'=.ok (.int hs.length) M':=by simp[uc,Jc,w.la]
 simp[-Bs,Fn.run,Wf,We,ae4,ai6,g1,T8 m1 h,la,Nv,e']
def aq8(hm:3<=m)(P:Lw sz K hs gw)(w:WOk K hs sizes acts)(h:Made n r K hs gw M):∃M',prog.call m 24 [.ref n,kh sizes acts] M=.ok (.bl true) M'/\yt M M':=by
 rw[call_of (a_ (by decide) hm) rfl];have m1:1<=m-1:=r_ (a_ (by decide) hm)
 have m2:2<=m-1:=r_ hm
 have g1:=Bj (M:=M) (W:=⟨prog.call (m-1),prog.cls⟩) (n:=n) (ρ:=[D.ref n,kh sizes acts,none,none,none,none,none]) (o:=.v 0) (mm:=1) (es:=.z) (ds:=[]) (fi:=2) (by simp) (by simp) h.1 rfl;obtain⟨M1,ps,e1,p1,t1,u1⟩:=Wi (M:=M) (m:=m-1) (hs:=hs) m1 P.len;have k1:yt M M1:=λa o h=>by rw[u1.oth a (by have:=xq h;exact h_ this)];exact v5 h
 have h1:=h.keep k1;obtain⟨ρ',M',e,⟨b2,b3,b4,b5,b6,rfl⟩,rfl⟩:=Bl (W:=⟨prog.call (m-1),prog.cls⟩) (t:=.names [2,3]) (b:=Dd) (it:=.call 7 (.o (.meth (.v 0) 1 .nil))) (d:=.ref M.length) (ds:=ps.map pD) (ρ:=[D.ref n,kh sizes acts,none,none,none,none,none]) (M:=M) (M1:=M1) (by simp[-Bs,g1,T8 m1 h,e1]) (jt p1)
  (λj ρ M'=>(∃b2 b3 b4 b5 b6:Option D,ρ=[some (.ref n),some (kh sizes acts),b2,b3,b4,b5,b6])/\M'=M1) ⟨⟨none,none,none,none,none,rfl⟩,rfl⟩ (λi ρ M h=>by rw[h.2];exact jt p1)
  (λi x ρ M2 hx hI=>by
   obtain⟨⟨b2,b3,b4,b5,b6,rfl⟩,rfl⟩:=hI;obtain⟨p,hp,rfl⟩:∃p,ps[i]?=some p/\pD p=x:=by simpa using hx
   obtain⟨⟨f,g,a,b,c⟩,d⟩:=(t1.all p).mp (aq hp);have wf:=agw a rfl;have wg:.int (p.2:Int)∈ou hs (Ar hs f.a (.int p.1)):=by rw[Bq a];exact agw b c.symm
   obtain⟨v,v1,v2,v3⟩:=Oh P wf wg;obtain⟨js,q1,q2,q3,q4⟩:=w.act a;have g2:=Bj (M:=M2) (W:=⟨prog.call (m-1),prog.cls⟩) (n:=n) (ρ:=[D.ref n,kh sizes acts,D.int p.1,D.int p.2,b4,b5,b6]) (o:=.v 0) (mm:=2) (es:=.cons (.v 2) (.o (.v 3))) (ds:=[.int p.1,.int p.2]) (fi:=3) (by simp) (by simp) h1.1 rfl;obtain⟨ρ3,M3,e3,⟨c5,c6,rfl⟩,rfl⟩:=Ij (W:=⟨prog.call (m-1),prog.cls⟩) (t:=.names [5,6]) (b:=Dc) (it:=.ix (.ix (.v 1) (.i 1)) (.v 2)) (ds:=js.map nD)
    (ρ:=[D.ref n,kh sizes acts,D.int p.1,D.int p.2,D.int v,b5,b6]) (M:=M2) (M1:=M2) (by simp[ai6,ai7 q1,su])
    (λ_ ρ M'=>(∃b5 b6:Option D,ρ=[some (.ref n),some (kh sizes acts),some (.int p.1),some (.int p.2),some (.int v),b5,b6])/\M'=M2) ⟨⟨b5,b6,rfl⟩,rfl⟩
    (λth y ρ M3 hy hI=>by
     obtain⟨⟨b5,b6,rfl⟩,rfl⟩:=hI;obtain⟨z,hz,rfl⟩:∃z,js[th]?=some z/\nD z=y:=by simpa using hy
     have thl:=(ak.mp hz).1;have hth:th<sizes.getD f.a 0:=b_ thl (f_ q3)
     have ez:K7 acts th p.1=z:=by rw[q2];simp[bc,hz]
     have lt:=aq6 w wf hth;have l1:=Xw (M:=M3) m1 w wg lt;rw[ai8 P w wf wg v1 hth,ez] at l1;have l2:=Xw (M:=M3) m1 w v2 hth;generalize K7 acts th v=u at l1 l2;refine⟨_,.next,_,M3,Ce _ _ _ _ _,?_,.inl rfl,⟨some (.int th),some (.int z),rfl⟩,rfl⟩;show Dc.den ⟨prog.call (m-1),prog.cls⟩ [D.ref n,kh sizes acts,D.int p.1,D.int p.2,D.int v,D.int th,D.int z] M3=_;simp[Dc,l1,l2])
   have e3':Li.den ⟨prog.call (m-1),prog.cls⟩ _ _=_:=e3;refine⟨_,.next,_,M3,Ce _ _ _ _ _,?_,.inl rfl,⟨some (.int p.1),some (.int p.2),some (.int v),c5,c6,rfl⟩,rfl⟩;show Dd.den ⟨prog.call (m-1),prog.cls⟩ [D.ref n,kh sizes acts,D.int p.1,D.int p.2,b4,b5,b6] M3=_;simp[-Bs,Dd,g2,Kl m2 h1 v1,e3'])
 have e':Lj.den ⟨prog.call (m-1),prog.cls⟩ _ _=_:=e;refine⟨M',?_,k1⟩;simp[Fn.run,Pu,Pr,e']
def ag4(hm:4<=m)(P:Lw sz K hs gw)(w:WOk K hs sizes acts)(h:Made n r K hs gw M):∃M',prog.call m 21 [.ref n,kh sizes acts] M=.ok (.bl true) M'/\yt M M':=by rw[call_of (a_ (by decide) hm) rfl];obtain⟨M',e,k⟩:=aq8 (m:=m-1) (r_ hm) P w h;refine⟨M',?_,k⟩;simp[Fn.run,Wd,Wc,alc (show 2<=m-1 by exact r_ (a_ (by decide) hm)) P w h,awu (show 2<=m-1 by exact r_ (a_ (by decide) hm)) P w h,e]
def Oi(hp:p<act.length):(Qy act h t).getD p 0=t.getD (act.getD (Yi h p) 0) 0:=by unfold Qy;rw[getD_map (α:=Nat) (by simpa using hp)];simp[bc,hp]
def Ia(act h t:Y3):(Qy act h t).length=act.length:=by simp[Qy]
def Ua{o:Y3}(h:o.Perm (List.range n)):x∈o↔x<n:=by rw[h.mem_iff];simp
def Z2{o:Y3}(h:o.Perm (List.range n)):o.Nodup:=h.nodup_iff.mpr yx
def Qz{o:Y3}(h:o.Perm (List.range n)):o.length=n:=by simpa using h.length_eq
def Z3{o:Y3}(h:o.Perm (List.range n))(hx:x<n):o.getD x 0<n:=(Ua h).mp (getD_mem' (by rw[Qz h];exact hx))
def aq9(h:o.Perm (List.range n))(hx:x<n):Yi o x<n:=by have:=Xp ((Ua h).mpr hx);rwa [Qz h] at this
def Ub{j:Nat}(hg:hs[j]?=some g)(h:(Pb hs acts os)[j]?=some js)(la:acts.length=hs.length):∃a,acts[j]?=some a/\js=Qy a (os.getD g.a []) (os.getD g.b []):=by have hl:=(ak.mp hg).1;have e:acts[j]?=some (acts[j]'(b_ hl (g_ la))):=bz _;rw[Og hg e] at h;cases h;exact⟨_,e,rfl⟩
def WOk.new(P:Lw sz K hs gw)(w:WOk K hs sizes acts)(o:Od sizes os):WOk K hs sizes (Pb hs acts os):=by
 have od:∀e,e<K->(os.getD e []).Perm (List.range (sizes.getD e 0)):=λe he=>by obtain⟨q,_,h2,h3,_⟩:=o.get (i:=e) (by rw[w.ls];exact he);rw[h2];exact h3
 refine⟨w.ls,Xu w.la,w.sm,λj g js hg hj=>?_,λj1 j2 g1 g2 b1 b2 h1 h2 e q1 q2 x hx=>?_⟩
 . obtain⟨a,ha,rfl⟩:=Ub hg hj w.la
   have hgm:=aq hg;obtain⟨k1,k2⟩:=w.ok j g a hg ha;refine⟨by rw[Ia,k1],λy hy=>?_⟩;obtain⟨p,hp,rfl⟩:=bf.mp hy;have hp:p<a.length:=ig.mp hp
   have:=aq9 (od _ (P.Vb g hgm)) (x:=p) (b_ hp (f_ k1));exact Z3 (od _ (P.Ti g hgm)) (k2 _ (getD_mem' (b_ this (g_ k1))))
 . obtain⟨a1,p1,rfl⟩:=Ub h1 q1 w.la
   obtain⟨a2,p2,rfl⟩:=Ub h2 q2 w.la;have m1:=aq h1;have m2:=aq h2;have oa:=od _ (P.Vb g1 m1);have ob:=od _ (P.Ti g1 m1);rw[Ia] at hx;obtain⟨k1,k2⟩:=w.ok _ _ _ h1 p1;obtain⟨k3,k4⟩:=w.ok _ _ _ h2 p2;have hi:=aq9 oa (x:=x) (b_ hx (f_ k1));have hu:=k2 _ (getD_mem' (x:=Yi (os.getD g1.a []) x) (b_ hi (g_ k1)));have fu:=w.fu j1 j2 g1 g2 a1 a2 h1 h2 e p1 p2 (Yi (os.getD g1.a []) x) (b_ hi (g_ k1));rw[Oi hx,Oi (by rw[k3,<- e];exact Z3 ob hu),<- e,Fp (Z2 ob) (by rw[Qz ob];exact hu),fu];rw[Jk];rcases P.Ci (P.cl g1 m1 g2 m2 e) with⟨x1,i1⟩|⟨u,hu',x1⟩
   . have ab:g1.a=g2.b:=i1.1
     rw[x1,K7,cz rfl,K7,cz rfl,<- ab];exact O1 ((Ua oa).mpr (b_ hx (f_ k1)))
   . have nu:¬((u:Int)=-1):=by lia
     obtain⟨a3,r1,r2,r3,_⟩:=w.act hu';have r4:=Og (os:=os) hu' r1;rw[x1,r2];rw[K7,bx nu];have e1:(Pb hs acts os).getD ((u:Int)).toNat []=Qy a3 (os.getD g1.a []) (os.getD g2.b []):=by simp[bc,r4];rfl
     have r3':a3.length=sizes.getD g1.a 0:=r3;rw[e1,Oi (b_ hx (a_ (f_ k1) (g_ r3')))]
noncomputable def inv(o:Y3):List Nat:=(List.range o.length).map (Yi o)
def ai9(h:o.Perm (List.range n))(hp:p<n):(inv o).getD p 0=Yi o p:=by have:=Qz h;unfold inv;rw[getD_map (α:=Nat) (by simp;exact b_ hp (g_ this))];simp[bc,this,hp]
def awv(o:Y3):(inv o).length=o.length:=by simp[inv]
def ara(h:o.Perm (List.range n)):(inv o).Perm (List.range n):=by
 have hn:=Qz h;refine(zx ?_ yx).mpr λx=>?_
 . unfold inv
   rw[jx,yj];refine List.Pairwise.imp_of_mem (fun{a b} ha hb hab e=>hab ?_) (jx.mp yx);have ha':=(Ua h).mpr (show a<n by rw[<- hn];exact ig.mp ha);have hb':=(Ua h).mpr (show b<n by rw[<- hn];exact ig.mp hb);rw[<- O1 ha',<- O1 hb',e]
 . constructor
   . intro hx
     obtain⟨y,hy,rfl⟩:=bf.mp hx;exact ig.mpr (aq9 h (by rw[<- hn];exact ig.mp hy))
   . intro hx
     have hx:=ig.mp hx;refine bf.mpr ⟨o.getD x 0,ig.mpr (by rw[hn];exact Z3 h hx),Fp (Z2 h) (by rw[hn];exact hx)⟩
def aww(h:o.Perm (List.range n))(hp:p<n):Yi (inv o) p=o.getD p 0:=by
 have hn:=Qz h;have l:=Z3 h hp;have e:(inv o).getD (o.getD p 0) 0=p:=by rw[ai9 h l,Fp (Z2 h) (b_ hp (g_ hn))]
 have:=Fp (Z2 (ara h)) (x:=o.getD p 0) (by rw[awv,hn];exact l)
 rwa [e] at this
theorem Od.inv(o:Od sizes os):Od sizes (os.map inv):=⟨by simp[o.len],λi q h=>by
 rw[jb] at h;obtain⟨u,h1,rfl⟩:=cj.mp h;exact ara (o.pm i u h1)⟩
def arb{a:Y3}(h:a.length=b.length)(k:∀i,i<a.length->a.getD i 0=b.getD i 0):a=b:=by
 refine List.ext_getElem h λi h1 h2=>?_
 have:=k i h1;rw[bc,bc,bz h1,bz h2] at this;exact this
def ald(P:Lw sz K hs gw)(w:WOk K hs sizes acts)(o:Od sizes os):Pb hs (Pb hs acts os) (os.map inv)=acts:=by
 refine zu λj=>?_
 by_cases hj:j<hs.length
 . have hg:hs[j]?=some hs[j]:=bz hj
   obtain⟨a,h1,_,h3,h4⟩:=w.act hg;have hgm:=aq hg;rw[Og hg (Og hg h1),h1]
   congr 1
   obtain⟨oa,a1,a2,a3,a4⟩:=o.get (i:=hs[j].a) (by rw[w.ls];exact P.Vb _ hgm);obtain⟨ob,b1,b2,b3,b4⟩:=o.get (i:=hs[j].b) (by rw[w.ls];exact P.Ti _ hgm);have ia:(os.map inv).getD hs[j].a []=inv oa:=by simp[bc,a1]
   have ib:(os.map inv).getD hs[j].b []=inv ob:=by simp[bc,b1]
   rw[ia,ib,a2,b2];refine arb (by rw[Ia,Ia]) λp hp=>?_
   rw[Ia,Ia] at hp;have hp':p<sizes.getD hs[j].a 0:=b_ hp (f_ h3)
   have l1:=Z3 a3 hp';have l2:=h4 _ (getD_mem' hp);rw[Oi (by rw[Ia];exact hp),aww a3 hp',Oi (b_ l1 (g_ h3)),Fp (Z2 a3) (b_ hp' (g_ a4)),ai9 b3 (Z3 b3 l2),Fp (Z2 b3) (b_ l2 (g_ b4))]
 . have e1:acts[j]?=none:=p7 (by rw[w.la];exact s_ hj)
   rw[e1];exact p7 (by rw[Xu (Xu w.la)];exact s_ hj)
def awx(hm:1<=m)(o:Od sizes os)(h7:∀x∈sizes,x<=7)(hl:sizes.length<=3):prog.call m 33 [Gy os] M=.ok (Gy (os.map inv)) M:=by
 rw[call_of hm rfl];have hz:∀q∈os,∃n,q.Perm (List.range n)/\n<=7:=λq hq=>by
  obtain⟨i,hi,rfl⟩:=m8 hq;have hi2:i<sizes.length:=by rw[<- o.len];exact hi
  exact⟨_,o.pm i _ (bz hi),h7 _ (getD_mem' hi2)⟩
 have c2:Ji.den ⟨prog.call (m-1),prog.cls⟩ [some (Gy os)] M=.ok (.vl ((os.map inv).map su)) M:=by
  unfold Ji;rw[G3 (ds:=os.map su) (M1:=M) (g:=λd=>match d with|.tup l=>.tup ((List.range l.length).map λ(x:Nat)=>nD (ixI (x:Int) l))|_=>.non) (by rw[aah];rfl) (by simp[o.len];exact a_ hl (by decide)) (λx hx=>by
   obtain⟨q,hq,rfl⟩:=bf.mp hx;obtain⟨n,pm,hn⟩:=hz q hq;have ln:=Qz pm;refine⟨_,rfl,?_⟩;show(Ex.blt .tuple (.o Fy)).den _ [some (Gy os),some (su q)] M=.ok (.tup ((List.range (q.map nD).length).map λ(x:Nat)=>nD (ixI (x:Int) (q.map nD)))) M;have c1:Fy.den ⟨prog.call (m-1),prog.cls⟩ [some (Gy os),some (su q)] M=.ok (.vl ((List.range q.length).map λx=>nD (Yi q x))) M:=by
    unfold Fy;obtain⟨ys,M',e,rfl,rfl⟩:=Kr (W:=⟨prog.call (m-1),prog.cls⟩) (v:=true) (k:=1) (t:=.name 2) (it:=.blt .len (.o (.v 1))) (e:=.bm .Hd (.v 1) (.o (.v 2))) (ρ:=[some (Gy os),some (su q)]) (M:=M) (M1:=M) (n:=q.length) (by simp[uc,Jc,su]) (a_ (f_ ln) (a_ hn (by decide)))
     (λi xs M'=>xs=(List.range i).map (λx=>nD (Yi q x))/\M'=M) ⟨rfl,rfl⟩
     (λi xs M' hi hI=>by
      obtain⟨rfl,rfl⟩:=hI;refine⟨_,nD (Yi q i),M',rfl,?_,by simp[List.range_succ],rfl⟩;have ix:=alb (M:=M') ((Ua pm).mpr (show i<n by exact b_ hi (f_ ln)));have ty:Jt .Hd (su q) M'=true:=rfl;show(Ex.bm .Hd (.v 1) (.o (.v 2))).den _ [Gy os,su q,D.int i] M'=_;simp[ty,ix,nD])
    rw[e];rfl
   simp[c1,Qq];intro a _;rfl)]
  rw[cz rfl]
  congr 2
  rw[um,um];apply p8;intro q hq;simp only[Function.comp,su,inv,gm,um]
  congr 1
 have:Gy (os.map inv)=.tup ((os.map inv).map su):=rfl;simp[-um,Fn.run,Uo,Um,c2,Qq,this]
def a2t(l:Y3)(M:di):uc .sum [su l] M=.ok (.int (l.map λ(x:Nat)=>(x:Int)).sum) M:=by show Res.qi (((yr M (su l)).bind Va).map λis=>D.int is.sum) M=_;have:yr M (su l)=some (l.map nD):=rfl;rw[this,q9,ab8];rfl
def ae5(h:∀d∈l,Ih M k d d=some true):Ph (Ih M k) l l=some true:=by
 induction l with
 |nil=>rfl
 |cons a l ih =>
  rw[Bt (h a (by simp)) (ih λd hd=>h d (bh _ hd))];rfl
def aja(M:di)(k:Nat)(l:Y3):Ih M (k+2) (su l) (su l)=some true:=by
 show Ph (Ih M (k+1)) (l.map nD) (l.map nD)=some true;refine ae5 λd hd=>?_
 obtain⟨x,_,rfl⟩:=bf.mp hd;rw[show nD x=D.int (x:Int) from rfl,Ir];simp
def arc(M:di)(s:Y3)(a:List (List Nat)):yd M (kh s a) (kh s a)=some true:=by
 show Ph (Ih M 5) [su s,.tup (a.map su)] [su s,.tup (a.map su)]=some true;have h2:Ih M 5 (.tup (a.map su)) (.tup (a.map su))=some true:=by
  show Ph (Ih M 4) (a.map su) (a.map su)=some true;refine ae5 λd hd=>?_
  obtain⟨x,_,rfl⟩:=bf.mp hd;exact aja M 2 x
 rw[Bt (aja M 3 s) (Bt h2 (show Ph (Ih M 5) [] []=some true from rfl))];rfl
def Z4(hm:1<=m):prog.call m 26 [kh sizes acts] M=.ok (.int (sizes.map λ(x:Nat)=>(x:Int)).sum) M:=by rw[call_of hm rfl];simp[Fn.run,acy,acx,ae4,a2t]
def ard(hm:3<=m)(P:Lw sz K hs gw)(w:WOk K hs sizes acts)(h:Made n r K hs gw M) :
 ∃c5 c6 c7 M',ahl.den ⟨prog.call m,prog.cls⟩ [a0,a1,vo K q hs,D.ref n,kh sizes acts,b5,b6,b7,b8,b9] M=.ok (.next,[a0,a1,some (vo K q hs),some (.ref n),some (kh sizes acts),c5,c6,c7,b8,b9]) M'/\yt M M':=by
 have hl:=P.len;have m1:1<=m:=a_ (by decide) hm
 obtain⟨ρ',M',e,⟨c5,c6,c7,rfl⟩,k⟩:=Al (W:=⟨prog.call m,prog.cls⟩) (t:=.name 5) (b:=aap) (it:=.ix (.v 2) (.i 0)) (n:=K) (ρ:=[a0,a1,vo K q hs,D.ref n,kh sizes acts,b5,b6,b7,b8,b9]) (M:=M) (M1:=M) (by simp[Xj]) (by have:=P.k3;exact a_ this (by decide))
  (λ_ ρ M'=>(∃c5 c6 c7:Option D,ρ=[a0,a1,some (vo K q hs),some (.ref n),some (kh sizes acts),c5,c6,c7,b8,b9])/\yt M M') ⟨⟨b5,b6,b7,rfl⟩,yt.refl M⟩
  (λk ρ M1 hk hI=>by
   obtain⟨⟨c5,c6,c7,rfl⟩,k1⟩:=hI;have h1:=h.keep k1;have g1:=Bj (M:=M1) (W:=⟨prog.call m,prog.cls⟩) (n:=n) (ρ:=[a0,a1,vo K q hs,D.ref n,kh sizes acts,D.int k,c6,c7,b8,b9]) (o:=.v 3) (mm:=3) (es:=.cons (.v 5) .nil) (ds:=[.int k]) (fi:=4) (by simp) (by simp) h1.1 rfl;have k1':yt M1 (M1++[.lst (ou hs k)]):=yt.app M1 _;obtain⟨ρ2,M2,e2,⟨d6,d7,rfl⟩,k2⟩:=Bl (W:=⟨prog.call m,prog.cls⟩) (t:=.name 6) (b:=aao) (it:=.meth (.v 3) 3 (.o (.v 5))) (d:=.ref M1.length) (ds:=ou hs k) (ρ:=[a0,a1,vo K q hs,D.ref n,kh sizes acts,D.int k,c6,c7,b8,b9]) (M:=M1) (M1:=M1++[.lst (ou hs k)]) (by rw[g1];exact ab0 m1 h1 hl) (jt (by simp))
    (λ_ ρ M'=>(∃c6 c7:Option D,ρ=[a0,a1,some (vo K q hs),some (.ref n),some (kh sizes acts),some (.int k),c6,c7,b8,b9])/\yt (M1++[.lst (ou hs k)]) M') ⟨⟨c6,c7,rfl⟩,yt.refl _⟩ (λ_ _ M' hI=>jt (hI.2 _ _ (by simp)))
    (λi x ρ M2 hx hI=>by
     obtain⟨⟨c6,c7,rfl⟩,k2⟩:=hI;have h2:=h1.keep (k1'.trans k2);have hxm:=aq hx;obtain⟨xi,rfl⟩:=Sh hxm;have ee:=Vu m1 h2 hxm;generalize hE:Ar hs k (.int xi)=E at ee;have g2:=Bj (M:=M2) (W:=⟨prog.call m,prog.cls⟩) (n:=n) (ρ:=[a0,a1,vo K q hs,D.ref n,kh sizes acts,D.int k,D.int xi,c7,b8,b9]) (o:=.v 3) (mm:=4) (es:=.cons (.v 5) (.o (.v 6))) (ds:=[.int k,.int xi]) (fi:=5) (by simp) (by simp) h2.1 rfl;have g3:=Bj (M:=M2) (W:=⟨prog.call m,prog.cls⟩) (n:=n) (ρ:=[a0,a1,vo K q hs,D.ref n,kh sizes acts,D.int k,D.int xi,c7,b8,b9]) (o:=.v 3) (mm:=3) (es:=.cons (.meth (.v 3) 4 (.p (.v 5) (.v 6))) .nil) (ds:=[.int E]) (fi:=4) (by simp) (by simp[-Bs,g2,ee]) h2.1 rfl;have k2':yt M2 (M2++[.lst (ou hs E)]):=yt.app M2 _;obtain⟨ρ3,M3,e3,⟨d7,rfl⟩,k3⟩:=Bl (W:=⟨prog.call m,prog.cls⟩) (t:=.name 7) (b:=aan) (it:=.meth (.v 3) 3 (.o (.meth (.v 3) 4 (.p (.v 5) (.v 6))))) (d:=.ref M2.length) (ds:=ou hs E) (ρ:=[a0,a1,vo K q hs,D.ref n,kh sizes acts,D.int k,D.int xi,c7,b8,b9]) (M:=M2) (M1:=M2++[.lst (ou hs E)]) (by rw[g3];exact ab0 m1 h2 hl) (jt (by simp))
      (λ_ ρ M'=>(∃c7:Option D,ρ=[a0,a1,some (vo K q hs),some (.ref n),some (kh sizes acts),some (.int k),some (.int xi),c7,b8,b9])/\yt (M2++[.lst (ou hs E)]) M') ⟨⟨c7,rfl⟩,yt.refl _⟩ (λ_ _ M' hI=>jt (hI.2 _ _ (by simp)))
      (λj y ρ M3 hy hI=>by
       obtain⟨⟨c7,rfl⟩,k3⟩:=hI;have h3:=h2.keep (k2'.trans k3);have hym:=aq hy;obtain⟨yi,rfl⟩:=Sh hym;obtain⟨M4,e4,k4⟩:=ag3 hm P w h3 hk hxm (by rw[hE];exact hym);refine⟨_,.next,_,M4,rfl,?_,.inl rfl,⟨some (.int yi),rfl⟩,k3.trans k4⟩;simp[aan,e4])
     have e3':ahj.den ⟨prog.call m,prog.cls⟩ _ _=_:=e3;refine⟨_,.next,_,M3,rfl,?_,.inl rfl,⟨some (.int xi),d7,rfl⟩,k2.trans (k2'.trans k3)⟩;simp[aao,e3'])
   have e2':ahk.den ⟨prog.call m,prog.cls⟩ _ _=_:=e2;refine⟨_,.next,_,M2,rfl,?_,.inl rfl,⟨some (.int k),d6,d7,rfl⟩,k1.trans (k1'.trans k2)⟩;simp[aap,e2'])
 exact⟨c5,c6,c7,M',e,k⟩
def a2u{ns:Xs}(hm:5<=m):∃M',prog.call m 34 [.fz (ns.map D.int)] M=.ok (.bl true) M':=by
 rw[call_of (a_ (by decide) hm) rfl];obtain⟨n0,f0,s0,o0⟩:=am3 (m:=m-1) (k:=0) (ns:=ns) (M:=M) (r_ (a_ (by decide) hm));have hh0:Th M.length f0 (M++[.lst [.int n0,.bl f0]]):=⟨n0,by simp,o0⟩;obtain⟨K,r,sz,hs,gw,M1,e0,p0,lr,P,t0⟩:=afz (m:=m-1) (r_ (a_ (by decide) hm)) hh0;have e0':prog.call (m-1) 17 [.ref M.length] (M++[.lst [.int n0,.bl f0]])=.ok (vo K r hs) M1:=e0;have hrt:r≠M.length:=by have:=lr;simp at this;lia
 have nn:(M1++[.ins 2 []])[M1.length]?=some (.ins 2 []):=by simp
 obtain⟨M2,a0,i0,md,la,lb,k0⟩:=atj (M:=M1++[.ins 2 []]) (m:=m-1) (r:=r) (n:=M1.length) (r_ (a_ (by decide) hm)) P (v5 p0) nn;have k0':yt M1 M2:=λa o h=>k0 a o (by have:=xq h;exact h_ this) (v5 h)
 have mk:(Ex.make 2 (.q (.ix (.v 2) (.i 0)) (.ix (.v 2) (.i 1)) (.ix (.v 2) (.i 2)))).den ⟨prog.call (m-1),prog.cls⟩ [D.fz (ns.map D.int),D.ref M.length,vo K r hs,none,none,none,none,none,none,none] M1=.ok (.ref M1.length) M2:=by have cl:(prog.cls)[2]?=some ⟨0,[(0,1),(1,2),(2,3),(3,4),(4,5)]⟩:=rfl;simp[Xj,Qg,axx,cl,i0]
 have hh2:Th M.length f0 M2:=by obtain⟨k,h,o⟩:=t0.has;exact⟨k,k0' _ _ h,o⟩
 have hM1:M.length<M1.length:=by obtain⟨k,h,o⟩:=t0.has;exact xq h
 obtain⟨sizes,acts,M4,e4,w4,s4⟩:=aq3 (m:=m-1) (r:=r) (r_ (a_ (by decide) hm)) P hh2 (k0' _ _ p0) hrt;have md4:Made M1.length a0 K hs gw M4:=⟨s4.keep _ _ (i_ hM1) md.1,s4.keep _ _ (by have:=lb;have:=la;simp at this;lia) md.2⟩;obtain⟨c5,c6,c7,M5,e5,k5⟩:=ard (m:=m-1) (r_ (a_ (by decide) hm)) P w4 md4 (q:=r) (a0:=some (.fz (ns.map D.int))) (a1:=some (.ref M.length)) (b5:=none) (b6:=none) (b7:=none) (b8:=none) (b9:=none);have hh5:Th M.length f0 M5:=by obtain⟨k,h,o⟩:=s4.has;exact⟨k,k5 _ _ h,o⟩
 have md5:=md4.keep k5;obtain⟨os,M6,e6,l6,p6,s6⟩:=ak9 (m:=m-1) (sizes:=sizes) (acts:=acts) (r_ (a_ (by decide) hm)) hh5 w4.sm (by rw[w4.ls];exact P.k3);have od:Od sizes os:=⟨l6,p6⟩;have md6:Made M1.length a0 K hs gw M6:=⟨s6.keep _ _ (i_ hM1) md5.1,s6.keep _ _ (by have:=lb;have:=la;simp at this;lia) md5.2⟩;obtain⟨M7,e7,k7,l7⟩:=Qh (m:=m-1) (M:=M6) (r_ (a_ (by decide) hm)) P md6 w4 od;have w7:=w4.new P od;have md7:=md6.keep k7;obtain⟨M8,e8,k8⟩:=ag4 (m:=m-1) (M:=M7) (r_ hm) P w7 md7;have md8:=md7.keep k8;have bk:=awx (m:=m-1) (M:=M8) (r_ (a_ (by decide) hm)) od w4.sm (by rw[w4.ls];exact P.k3);obtain⟨M9,e9,k9,l9⟩:=Qh (m:=m-1) (M:=M8) (r_ (a_ (by decide) hm)) P md8 w7 od.inv;rw[ald P w4 od] at e9;have eq:=arc M9 sizes acts;generalize hS:(sizes.map λ(x:Nat)=>(x:Int)).sum=S;have th1:=Z4 (m:=m-1) (M:=M8) (sizes:=sizes) (acts:=Pb hs acts os) (r_ (a_ (by decide) hm));have th2:=Z4 (m:=m-1) (M:=M8) (sizes:=sizes) (acts:=acts) (r_ (a_ (by decide) hm));rw[hS] at th1 th2;have isn:Lz .Yp (.bl true) (.bl true) M8=some false:=rfl;refine⟨M9,?_⟩;simp at s0;simp[-acr,Fn.run,am0,aw8,s0,e0',mk,e4,e5,e6,e7,e8,th1,th2,bk,e9,eq,isn]
open PySem L2
open PySem.W
set_option maxHeartbeats 0 in
def all_mk{l:OpenLaw}{K:Frag}{h:Heap}(X:K.In h)(G:h.Ns mainGlobals mg)(hfa:mg "law" = some (.ref fa))
 (aC2:nsIn K mainGlobals "Pattern" = some (some (.ref C2)))
 (a0:findIn K (.ref C2) "__init__" = some (some (.ref f0)))
 (i0:isFn K (.ref f0)=true)
 (l0:Ck.Lk K f0 "__init__" "Pattern.__init__" (inClass (top 7) 0) oc0 od0 kV0 dc0 pm0 an0 cd0 ct0 sl0)
 (a1:findIn K (.ref C2) "kinds" = some (some (.ref f1)))
 (i1:isFn K (.ref f1)=true)
 (l1:Ck.Lk K f1 "kinds" "Pattern.kinds" (inClass (top 7) 1) oc1 od1 kV1 dc1 pm1 an1 cd1 ct1 sl1)
 (a2:findIn K (.ref C2) "doings" = some (some (.ref f2)))
 (i2:isFn K (.ref f2)=true)
 (l2:Ck.Lk K f2 "doings" "Pattern.doings" (inClass (top 7) 2) oc2 od2 kV2 dc2 pm2 an2 cd2 ct2 sl2)
 (a3:findIn K (.ref C2) "behind" = some (some (.ref f3)))
 (i3:isFn K (.ref f3)=true)
 (l3:Ck.Lk K f3 "behind" "Pattern.behind" (inClass (top 7) 3) oc3 od3 kV3 dc3 pm3 an3 cd3 ct3 sl3)
 (a4:findIn K (.ref C2) "ways" = some (some (.ref f4)))
 (i4:isFn K (.ref f4)=true)
 (l4:Ck.Lk K f4 "ways" "Pattern.ways" (inClass (top 7) 4) oc4 od4 kV4 dc4 pm4 an4 cd4 ct4 sl4)
 (a5:findIn K (.ref C2) "end" = some (some (.ref f5)))
 (i5:isFn K (.ref f5)=true)
 (l5:Ck.Lk K f5 "end" "Pattern.end" (inClass (top 7) 5) oc5 od5 kV5 dc5 pm5 an5 cd5 ct5 sl5)
 (a6:nsIn K mainGlobals "both_ways" = some (some (.ref f6)))
 (l6:Ck.Lk K f6 "both_ways" "both_ways" (top 8) oc6 od6 kV6 dc6 pm6 an6 cd6 ct6 sl6)
 (a7:nsIn K mainGlobals "meeting_pairs" = some (some (.ref f7)))
 (l7:Ck.Lk K f7 "meeting_pairs" "meeting_pairs" (top 9) oc7 od7 kV7 dc7 pm7 an7 cd7 ct7 sl7)
 (a8:nsIn K mainGlobals "is_way_between" = some (some (.ref f8)))
 (l8:Ck.Lk K f8 "is_way_between" "is_way_between" (top 10) oc8 od8 kV8 dc8 pm8 an8 cd8 ct8 sl8)
 (a9:nsIn K mainGlobals "check_doings" = some (some (.ref f9)))
 (l9:Ck.Lk K f9 "check_doings" "check_doings" (top 11) oc9 od9 kV9 dc9 pm9 an9 cd9 ct9 sl9)
 (a10:nsIn K mainGlobals "check_table" = some (some (.ref f10)))
 (l10:Ck.Lk K f10 "check_table" "check_table" (top 12) bm9 bna bnb bnc bnf bng bnh bni bnj)
 (a11:nsIn K mainGlobals "check_threes" = some (some (.ref f11)))
 (l11:Ck.Lk K f11 "check_threes" "check_threes" (top 13) bnl bnm bnn bno bnp bnq bnr bns bnt)
 (a12:nsIn K mainGlobals "_law_cell_at" = some (some (.ref f12)))
 (l12:Ck.Lk K f12 "_law_cell_at" "_law_cell_at" (top 24) bnv bnw bnx bny bnz bn0 bn1 bn2 bn3)
 (a13:nsIn K mainGlobals "_law_state" = some (some (.ref f13)))
 (l13:Ck.Lk K f13 "_law_state" "_law_state" (top 25) bn5 bn6 bn7 bn8 bn9 boa bob boc bod)
 (a14:nsIn K mainGlobals "_law_take" = some (some (.ref f14)))
 (l14:Ck.Lk K f14 "_law_take" "_law_take" (top 26) bof bog boh boi boj bon boo bop boq)
 (a15:nsIn K mainGlobals "_law_begun" = some (some (.ref f15)))
 (l15:Ck.Lk K f15 "_law_begun" "_law_begun" (top 27) bou bov bow boy boz bo0 bo1 bo2 bo3)
 (a16:nsIn K mainGlobals "_law_closed" = some (some (.ref f16)))
 (l16:Ck.Lk K f16 "_law_closed" "_law_closed" (top 28) bo5 bo6 bo7 bo8 bo9 bpa bpb bpc bpd)
 (a17:nsIn K mainGlobals "_law_pattern" = some (some (.ref f17)))
 (l17:Ck.Lk K f17 "_law_pattern" "_law_pattern" (top 29) bpf bpg bph bpi bpj bpk bpl bpm bpn)
 (a18:nsIn K mainGlobals "_law_ways" = some (some (.ref f18)))
 (l18:Ck.Lk K f18 "_law_ways" "_law_ways" (top 30) bpp bpq bpr bps bpt bpu bpv bpw bpx)
 (a19:nsIn K mainGlobals "_law_end" = some (some (.ref f19)))
 (l19:Ck.Lk K f19 "_law_end" "_law_end" (top 31) bpz bp0 bp1 bp2 bp3 bp4 bp5 bp6 bp7)
 (a20:nsIn K mainGlobals "_law_behind" = some (some (.ref f20)))
 (l20:Ck.Lk K f20 "_law_behind" "_law_behind" (top 32) bp9 bqa bqb bqc bqd bqe bqf bqg bqh)
 (a21:nsIn K mainGlobals "is_world" = some (some (.ref f21)))
 (l21:Ck.Lk K f21 "is_world" "is_world" (top 15) bqj bqk bql bqm bqn bqo bqp bqq bqr)
 (a22:nsIn K mainGlobals "has_sizes" = some (some (.ref f22)))
 (l22:Ck.Lk K f22 "has_sizes" "has_sizes" (top 16) bqt bqu bqv bqw bqx bqy bqz bq0 bq1)
 (a23:nsIn K mainGlobals "has_acts" = some (some (.ref f23)))
 (l23:Ck.Lk K f23 "has_acts" "has_acts" (top 17) bq3 bq4 bq5 bq6 bq7 bq8 bq9 bra brb)
 (a24:nsIn K mainGlobals "keeps_table" = some (some (.ref f24)))
 (l24:Ck.Lk K f24 "keeps_table" "keeps_table" (top 18) brd bre brf brg brh bri brj brl brm)
 (a25:nsIn K mainGlobals "led" = some (some (.ref f25)))
 (l25:Ck.Lk K f25 "led" "led" (top 19) bro brp brq brr brs brt bru brv brw)
 (a26:nsIn K mainGlobals "things" = some (some (.ref f26)))
 (l26:Ck.Lk K f26 "things" "things" (top 20) bry brz br0 br1 br2 br3 br4 br5 br6)
 (a27:nsIn K mainGlobals "renumbered" = some (some (.ref f27)))
 (l27:Ck.Lk K f27 "renumbered" "renumbered" (top 21) br8 br9 bsa bsb bsc bsd bse bsf bsg)
 (a28:nsIn K mainGlobals "renumbered_act" = some (some (.ref f28)))
 (l28:Ck.Lk K f28 "renumbered_act" "renumbered_act" (top 22) bsi bsj bsk bsl bsm bsn bso bsp bsq)
 (a29:nsIn K mainGlobals "_law_merged" = some (some (.ref f29)))
 (l29:Ck.Lk K f29 "_law_merged" "_law_merged" (top 33) bss bst bsu bsv bsw bsx bsy bs0 bs1)
 (a30:nsIn K mainGlobals "_law_world" = some (some (.ref f30)))
 (l30:Ck.Lk K f30 "_law_world" "_law_world" (top 34) bs3 bs4 bs5 bs6 bs7 bs8 bs9 bta btb)
 (a31:nsIn K mainGlobals "_law_orders" = some (some (.ref f31)))
 (l31:Ck.Lk K f31 "_law_orders" "_law_orders" (top 35) btd bte btf btg bth bti btj btk btl)
 (a32:nsIn K mainGlobals "_law_grouped" = some (some (.ref f32)))
 (l32:Ck.Lk K f32 "_law_grouped" "_law_grouped" (top 36) btn bto btp btq btr bts btt btu btv)
 (a33:nsIn K mainGlobals "_law_back" = some (some (.ref f33)))
 (l33:Ck.Lk K f33 "_law_back" "_law_back" (top 37) btx bty btz bt0 bt1 bt2 bt3 bt4 bt5)
 (a34:nsIn K mainGlobals "law" = some (some (.ref f34)))
 (l34:Ck.Lk K f34 "law" "law" (top 38) bt8 bt9 bf8 bf9 bga bgb bgc bgd bua)
 (pg2:plainGet K C2 Str.empty=true)
 (hd2:hasDictIn K C2=true)
 (po2:plainOver K C2=true)
 (sa2:findIn K (.ref C2) "__setattr__" = some (some (.builtin "object.__setattr__")))
 (mk2:makesIn K C2=true)
 (kc2:keepIn K (.ref C2)=true)
 (bge:findIn K (.ref C2) "together" = some none)
 (bgf:findIn K (.ref C2) "doing_ends" = some none)
 (bgg:findIn K (.ref C2) "kind_count" = some none)
 (v0:nsIn K mainGlobals "STAYING" = some (some (.int (-1) tk0)))
 (v1:nsIn K mainGlobals "MOST_KINDS" = some (some (.int (3) tk1)))
 (v2:nsIn K mainGlobals "MOST_DOINGS" = some (some (.int (5) tk2)))
 (z0:nsIn K mainGlobals "len" = some none)
 (z1:nsIn K mainGlobals "tuple" = some none)
 (z2:nsIn K mainGlobals "list" = some none)
 (z3:nsIn K mainGlobals "dict" = some none)
 (z4:nsIn K mainGlobals "max" = some none)
 (z5:nsIn K mainGlobals "min" = some none)
 (z6:nsIn K mainGlobals "isinstance" = some none)
 (z7:nsIn K mainGlobals "range" = some none)
 (z8:nsIn K mainGlobals "enumerate" = some none)
 (z9:nsIn K mainGlobals "set" = some none)
 (z10:nsIn K mainGlobals "zip" = some none)
 (z11:nsIn K mainGlobals "all" = some none)
 (z12:nsIn K mainGlobals "bool" = some none)
 (z13:nsIn K mainGlobals "int" = some none)
 (z14:nsIn K mainGlobals "sum" = some none)
 (z15:nsIn K mainGlobals "sorted" = some none)
 : ∃fd:FuncData,(∀(s:Shared)(v:Value),BindsTo s fd ⟨[v],[]⟩ [("script",v)])/\∀base:Heap,K.In base->base.Ns mainGlobals mg->Fi l.prog w K mg base CX0 170 fa fd ["script"] (Ck.aiv K):=by
 have e:=(fc X G a34).symm.trans hfa;cases e;have aF:Ck.abx K Ds sts [f0,f1,f2,f3,f4,f5,f6,f7,f8,f9,f10,f11,f12,f13,f14,f15,f16,f17,f18,f19,f20,f21,f22,f23,f24,f25,f26,f27,f28,f29,f30,f31,f32,f33,fa] [_,_,_,_,_,_,_,_,_,_,_,_,_,_,_,_,_,_,_,_,_,_,_,_,_,_,_,_,_,_,_,_,_,_,_]:=(Ck.fE l0 (Ck.fE l1 (Ck.fE l2 (Ck.fE l3 (Ck.fE l4 (Ck.fE l5 (Ck.fE l6 (Ck.fE l7 (Ck.fE l8 (Ck.fE l9 (Ck.fE l10 (Ck.fE l11 (Ck.fE l12 (Ck.fE l13 (Ck.fE l14 (Ck.fE l15 (Ck.fE l16 (Ck.fE l17 (Ck.fE l18 (Ck.fE l19 (Ck.fE l20 (Ck.fE l21 (Ck.fE l22 (Ck.fE l23 (Ck.fE l24 (Ck.fE l25 (Ck.fE l26 (Ck.fE l27 (Ck.fE l28 (Ck.fE l29 (Ck.fE l30 (Ck.fE l31 (Ck.fE l32 (Ck.fE l33 (Ck.fE l34 Ck.fN)))))))))))))))))))))))))))))))))));have aG:Ck.T7 mg tab.fns [f0,f1,f2,f3,f4,f5,f6,f7,f8,f9,f10,f11,f12,f13,f14,f15,f16,f17,f18,f19,f20,f21,f22,f23,f24,f25,f26,f27,f28,f29,f30,f31,f32,f33,fa]:=(Ck.gO (Ck.gO (Ck.gO (Ck.gO (Ck.gO (Ck.gO (Ck.gS (fc X G a6) (Ck.gS (fc X G a7) (Ck.gS (fc X G a8) (Ck.gS (fc X G a9) (Ck.gS (fc X G a10) (Ck.gS (fc X G a11) (Ck.gS (fc X G a12) (Ck.gS (fc X G a13) (Ck.gS (fc X G a14) (Ck.gS (fc X G a15) (Ck.gS (fc X G a16) (Ck.gS (fc X G a17) (Ck.gS (fc X G a18) (Ck.gS (fc X G a19) (Ck.gS (fc X G a20) (Ck.gS (fc X G a21) (Ck.gS (fc X G a22) (Ck.gS (fc X G a23) (Ck.gS (fc X G a24) (Ck.gS (fc X G a25) (Ck.gS (fc X G a26) (Ck.gS (fc X G a27) (Ck.gS (fc X G a28) (Ck.gS (fc X G a29) (Ck.gS (fc X G a30) (Ck.gS (fc X G a31) (Ck.gS (fc X G a32) (Ck.gS (fc X G a33) (Ck.gS (fc X G a34) Ck.gN)))))))))))))))))))))))))))))))))));have aC:Ck.Oe K mg tab [f0,f1,f2,f3,f4,f5,f6,f7,f8,f9,f10,f11,f12,f13,f14,f15,f16,f17,f18,f19,f20,f21,f22,f23,f24,f25,f26,f27,f28,f29,f30,f31,f32,f33,fa] tab.cls [none,none,some C2] prog.cls:=(Ck.cO (Ck.cO (Ck.cS ⟨fc X G aC2,⟨pg2,hd2,po2,sa2⟩,⟨_,rfl,⟨mk2,a0,i0,kc2⟩⟩,(Ck.mC rfl rfl ⟨a1,i1,l1.2.2⟩ (Ck.mC rfl rfl ⟨a2,i2,l2.2.2⟩ (Ck.mC rfl rfl ⟨a3,i3,l3.2.2⟩ (Ck.mC rfl rfl ⟨a4,i4,l4.2.2⟩ (Ck.mC rfl rfl ⟨a5,i5,l5.2.2⟩ Ck.mN))))),(Ck.nC bge (Ck.nC bgf (Ck.nC bgg Ck.nN)))⟩ Ck.cN)));have aV:Ck.abz mg tab.avv:=(Ck.vC (fc X G v0) (Ck.vC (fc X G v1) (Ck.vC (fc X G v2) Ck.vN)));have aB:Ck.AllB mg Ck.Ob:=(Ck.bC (jq X G z0) (Ck.bC (jq X G z1) (Ck.bC (jq X G z2) (Ck.bC (jq X G z3) (Ck.bC (jq X G z4) (Ck.bC (jq X G z5) (Ck.bC (jq X G z6) (Ck.bC (jq X G z7) (Ck.bC (jq X G z8) (Ck.bC (jq X G z9) (Ck.bC (jq X G z10) (Ck.bC (jq X G z11) (Ck.bC (jq X G z12) (Ck.bC (jq X G z13) (Ck.bC (jq X G z14) (Ck.bC (jq X G z15) Ck.bN))))))))))))))));refine⟨fnOf "law" "law" (Iv (top 38)) (Ga (top 38)) (Ay (top 38)) .none bf8 bf9 bga bgb bgc bgd,λs v=>.of_eq rfl,λbase _ _=>?_⟩;obtain⟨d,a,f,g1,g2,g3,g4,g5⟩:=Ck.a2f (P:=l.prog) (w:=w) (base:=base) (n:=10) (i:=34) (F:=am0) bfq chk bfr bfs bft aF aG aC aV aB rfl;cases g1;cases g2;cases g3;exact g5.imp λvs H Q E hh=>Ck.awd (λns hl=>a2u (by decide)) hh
end K05
open PySem PySem.W PyProof.Rows
namespace PySem.W.Fast
def tw17165760264844143896:=Nat
def tw17679872440120053909:=Nat
def tw10817253830694644157:=Nat
def tw13683288331710680978:=Nat
def tw4983795882608310304:=Nat
def tw14242013117602849348:=Nat
def tw9519746651072953859:=Nat
def tw3312833626344105566:=Nat
def tw13900012972863581568:=Nat
def tw3991975025993244778:=Nat
def tw5046310582569208919:=Nat
def tw12446295744179540641:=Nat
def tw8479196474699656989:=Nat
def tw13074480298479642498:=Nat
def tw15398094547228439154:=Nat
def tw12666912539660693891:=Nat
def tw415151143926840366:=Nat
def tw13669111291173311661:=Nat
def tw4234102254061617186:=Nat
def tw12565852725222723507:=Nat
def tw11416799862287102203:=Nat
def tw13230078388024385933:=Nat
def tw5256094255211736643:=Nat
def tw5349035084806117158:=Nat
def tw4369473245805833468:=Nat
def tw18384396751559262444:=Nat
def tw18008042148751092935:=Nat
def tw9881221929073272360:=Nat
def tw4914519889944696237:=Nat
def tw9340000743318216467:=Nat
def tw16476434367920486606:=Nat
def tw5234323272247871591:=Nat
def tw10942604622685666289:=Nat
def tw12491366914142073539:=Nat
def tw12730559896637322472:=Nat
def tw5380754580407796139:=Nat
def tw15460205926785400609:=Nat
def tw581046929469522783:=Nat
def tw16368885337869111841:=Nat
def tw15251624523589156121:=Nat
def tw10994951956471463714:=Nat
def tw13091350115909849221:=Nat
def tw8690514895477212299:=Nat
def tw2723660255922569458:=Nat
def tw13240654908792842019:=Nat
def tw3542620457764477366:=Nat
def tw4956283407616316804:=Nat
def tw17675493826663930395:=Nat
def tw11834652040145003341:=Nat
def tw12752593802650591900:=Nat
def tw9755030794617586135:=Nat
def tw10268545441346199195:=Nat
def tw14302768095077107533:=Nat
def tw8867700242332065968:=Nat
def tw13050387510895811414:=Nat
def tw13562211928759652068:=Nat
def tw12083801321134039924:=Nat
def tw17465745428230030401:=Nat
def tw2016599277485983268:=Nat
def tw6839144499513028264:=Nat
def tw15713789454387182937:=Nat
def tw4702980804857755640:=Nat
def tw12933118357380562004:=Nat
def tw3874446459082869014:=Nat
def tw160145363997210966:=Nat
def tw16179414128227627077:=Nat
def tw10179441942414862492:=Nat
def tw6096397122349013204:=Nat
def tw2663024705933283300:=Nat
def tw9519815133855219879:=Nat
def tw1552009138277134438:=Nat
def tw16785622093567198721:=Nat
def tw16535902275467365032:=Nat
def tw17556659852938335644:=Nat
def tw14609450910001798912:=Nat
def tw7623633499590796049:=Nat
def tw5208305597222641543:=Nat
def tw13731196708272250444:=Nat
def tw3510086112066583364:=Nat
def tw9742493858473928044:=Nat
def tw9913679677455278413:=Nat
def tw8990641352532049526:=Nat
def tw16084806881348158615:=Nat
def tw10517931436868800379:=Nat
def tw14493698141525810132:=Nat
def tw9930755598657236200:=Nat
def tw18410826558035869105:=Nat
def tw9685883519154314836:=Nat
def tw13082916274215899511:=Nat
def tw7891652105484428590:=Nat
def tw15812682478497058701:=Nat
def tw5706665176675445701:=Nat
def tw2003857126703951106:=Nat
def tw15696595039907839710:=Nat
def tw6708864504795504620:=Nat
def tw10618798226058624071:=Nat
def tw13401021921149801755:=Nat
def tw8314950346203239987:=Nat
def tw7950610635578958696:=Nat
def tw4234403135748756145:=Nat
def tw2335690093916344904:=Nat
def tw13623400827184811357:=Nat
def tw15904635268168217707:=Nat
def tw12419151637505277131:=Nat
def tw15989866858486491346:=Nat
def tw1195463490590001616:=Nat
def tw10082879875355558431:=Nat
def tw4226069510725291521:=Nat
def tw16723251027229480532:=Nat
def tw10067303463376237601:=Nat
def tw10041845034862515139:=Nat
def tw5079449221413700620:=Nat
def tw10225681498865248636:=Nat
def tw7460967581732915301:=Nat
def tw4020860114104461339:=Nat
def tw4095870113078442758:=Nat
def tw2836835848201373869:=Nat
def tw9141581117002110120:=Nat
def tw15980795041221543445:=Nat
def tw5240727973603755744:=Nat
def tw6133601506165693999:=Nat
def tw12977330050337377846:=Nat
def tw5231275310586091946:=Nat
def tw17174944581070470325:=Nat
def tw11374068076689473665:=Nat
def tw8757949933319766593:=Nat
def tw16664208557837629485:=Nat
def tw15473401707234145716:=Nat
def tw15694452637593458846:=Nat
def tw10184727700055403070:=Nat
def tw17745795306515336048:=Nat
def tw10971267881091303820:=Nat
def tw10870643978324940415:=Nat
def tw10686388492416181601:=Nat
def tw477425804640931963:=Nat
def tw492864215008764618:=Nat
def tw10763631460544861641:=Nat
def tw3219953038813118219:=Nat
def tw13953492265383506697:=Nat
def tw4302918221573480979:=Nat
def tw6197762938723632708:=Nat
def tw2749433337540514434:=Nat
def tw1813690494218313490:=Nat
def tw4955515924939296120:=Nat
def tw7651049997216488389:=Nat
def tw13467189068088461851:=Nat
def tw13042733979427282767:=Nat
def tw12171740455112185507:=Nat
def tw12705623472687940287:=Nat
def tw14536180082752521919:=Nat
def tw14189275858826903596:=Nat
def tw3754149675475939130:=Nat
def tw3276160329484982989:=Nat
def tw11131091928388634678:=Nat
def tw5298423098625767883:=Nat
def tw4859307870468744762:=Nat
def tw15601687651934181238:=Nat
def tw1380303506929451679:=Nat
def tw588280762860386511:=Nat
def tw6214461694559935824:=Nat
def tw15868194252488053211:=Nat
def tw17956939445928132192:=Nat
def tw12894373071491257039:=Nat
def tw3730531114051937941:=Nat
def tw5570710752307037045:=Nat
def tw17075550029125815342:=Nat
def tw17015167645219370458:=Nat
def tw4033997155193389272:=Nat
def tw17063927200021919432:=Nat
def tw8812496982774449063:=Nat
def tw17459208923526831896:=Nat
def tw14006794746783001698:=Nat
def tw15673232148056411505:=Nat
def tw5983194413870237833:=Nat
def tw7678617017098315434:=Nat
def tw2073125549019274229:=Nat
def tw9500803193619258222:=Nat
def tw6607053350847586443:=Nat
def tw16093914275723514589:=Nat
def tw15889028160573043278:=Nat
def tw9550783410321901720:=Nat
def tw4951597579301977010:=Nat
def tw18291364328133026949:=Nat
def tw2807141652722389968:=Nat
def tw8377955088257384588:=Nat
def tw9372227699883872494:=Nat
def tw2124763626079774266:=Nat
def tw12286727386143742822:=Nat
def tw9695147244797648779:=Nat
def tw8754203329127542821:=Nat
def tw8453181913423926190:=Nat
def tw8436045760175486284:=Nat
def tw821520435947354637:=Nat
def tw8193590833042794421:=Nat
def tw782622206361437334:=Nat
def tw7663569657251276617:=Nat
def tw6713204667164907090:=Nat
def tw6296716503926367494:=Nat
def tw6208080487369241971:=Nat
end PySem.W.Fast
set_option maxRecDepth 100000 in
set_option maxHeartbeats 0 in
theorem PySem.Challenge.cw_mapwright_k05_whole_ways_and_things_holds : PySem.Challenge.rw_mapwright_k05_whole_ways_and_things.Holds := by
 w_on;o_law;k_head;(case hw=>w_witness2)
 k_fill
 refine Ck.walk (l:=PySem.Challenge.rw_mapwright_k05_whole_ways_and_things) rfl rfl (λw h Y=>PySem.W.kIn_of Y) ?F
 case F =>
  intro w mg fa h KX G hmg;apply K05.all_mk KX G hmg<;>(try refine⟨?_,?_,?_⟩)<;>k_is
