import PyProof.Rows.All
import Wide.All
import OpenK.AllK
import Wide.FinOn
import Lean
import PyProof.EqAt
import PyProof.EqKinds
import PyProof.TupleCall
import PyProof.Rows.ListMul
import PyProof.NeKinds
import PyProof.SetScanFacts
import PyProof.TupleKey
import PyProof.SetKind
import PyProof.IsRules
import PyProof.Rules
import PyProof.Rows.SetFrom
import PyProof.SetRoads
import KE.KDictOf
import PyProof.Rows.MinMaxN
import PyProof.ListRange
import PyProof.TupleOfGen
import PyProof.EnumMake
import PyProof.ZipIter
import PyProof.Rows.ZipGen
import PyProof.CollectWalk
import PyProof.ForAny
import PyProof.Rows.SortWalk
import PyProof.CollectIter
import PySem.Challenge.RW_mapwright_k11_maps_looked_at
set_option Elab.async false
set_option linter.all false
set_option tactic.hygienic false
set_option genSizeOf false
set_option genInjectivity false
set_option maxRecDepth 100000
abbrev Zl:=List PySem.Value
abbrev Zp:=List (PySem.Addr×PySem.Obj)
abbrev Zs:=PySem.Str->Option PySem.Value
abbrev Y1:=PySem.Value->PySem.Shared->Prop
abbrev Y2:=Option (PySem.Str×Nat)
abbrev Y3:=List Nat
abbrev Ya:=List PySem.Expr
abbrev Yf:=List PySem.Str
abbrev X0:=List (PySem.Str×PySem.NameKind)
abbrev X9:=List PySem.Addr
abbrev Xs:=List Int
abbrev Xt:=List (PySem.Str×PySem.Addr)
abbrev U1:=Array PySem.Value
def jf:=@Array.getElem?_eq_some_iff
def p7:=@Array.getElem?_toList
def t7:=@Array.length_toList
def aq:=@Bool.and_eq_true
def zq:=@Bool.eq_iff_iff
def cz:=@Bool.false_eq_true
def jc:=@Bool.false_ne_true
def yr:=@Bool.not_false
def qp:=@Bool.not_true
def xr:=@Classical.byContradiction
def zj:=@Int.emod_lt_of_pos
def Bc:=@Int.emod_nonneg
def uw:=@Int.toNat_natCast
def yt:=@List.Perm.refl
def gq:=@List.all_eq_true
def Ao:=@List.any_eq_true
def Aa:=@List.append_assoc
def zr:=@List.append_nil
def za:=@List.cons_append
def Ab:=@List.ext_getElem?
def zm:=@List.filter_append
def zg:=@List.filter_eq_nil_iff
def qt:=@List.find?_cons
def xu:=@List.findIdx?_eq_none_iff
def um:=@List.findIdx?_eq_some_iff_getElem
def Bd:=@List.foldl_cons
def bz:=@List.getD_eq_getElem?_getD
def du:=@List.getElem?_append_left
def jg:=@List.getElem?_append_right
def dh:=@List.getElem?_eq_getElem
def p8:=@List.getElem?_eq_none
def ak:=@List.getElem?_eq_some_iff
def jd:=@List.getElem?_map
def yu:=@List.getElem?_range
def v5:=@List.getElem?_set_ne
def Ag:=@List.getElem?_zipIdx
def Aq:=@List.getElem_inj
def qz:=@List.getElem_mem
def qb:=@List.getElem_of_mem
def q9:=@List.isEmpty_iff
def m6:=@List.length_append
def gr:=@List.length_cons
def wz:=@List.length_drop
def uq:=@List.length_eq_zero_iff
def vf:=@List.length_filter_le
def dz:=@List.length_map
def Be:=@List.length_nil
def vg:=@List.length_replicate
def w5:=@List.length_take
def ou:=@List.lookup_cons
def qu:=@List.map_append
def qd:=@List.map_congr_left
def ig:=@List.map_cons
def tu:=@List.map_map
def dj:=@List.mem_append
def yg:=@List.mem_append_left
def iu:=@List.mem_append_right
def bw:=@List.mem_cons
def bh:=@List.mem_cons_of_mem
def dg:=@List.mem_cons_self
def v7:=@List.mem_filter
def vh:=@List.mem_iff_getElem?
def bu:=@List.mem_map
def au:=@List.mem_of_getElem?
def il:=@List.mem_range
def xm:=@List.mem_singleton
def xx:=@List.nil_append
def yh:=@List.nodup_append
def m9:=@List.nodup_cons
def Ad:=@List.nodup_iff_pairwise_ne
def xf:=@List.nodup_nil
def rm:=@List.not_mem_nil
def zp:=@List.pairwise_cons
def v8:=@List.range_succ
def Bf:=@List.set_append
def gf:=@List.size_toArray
def ux:=@List.take_of_length_le
def w6:=@Nat.le_add_right
def Aj:=@Nat.le_of_lt
def bc:=@Nat.le_refl
def uz:=@Nat.le_succ
def gn:=@Nat.le_trans
def mq:=@Nat.lt_irrefl
def gm:=@Nat.lt_of_lt_of_le
def Ak:=@Nat.lt_or_ge
def qe:=@Nat.lt_succ_of_lt
def pq:=@Nat.lt_succ_self
def Bg:=@Nat.min_eq_left
def Ar:=@Nat.min_eq_right
def u0:=@Nat.ne_of_gt
def dw:=@Nat.ne_of_lt
def yc:=@Nat.not_lt_zero
def u5:=@Nat.zero_add
def my:=@Nat.zero_le
def jz:=@Ne.symm
def dm:=@Option.bind_eq_some_iff
def uo:=@Option.bind_some
def ph:=@Option.isSome_iff_exists
def cu:=@Option.map_eq_some_iff
def v9:=@Option.map_some
def jq:=@Option.some.inj
def rz:=@PyProof.Rows.F.entry_set_update_loop
def lq:=@PyProof.Rows.F.plain_set_update_loop
def yq:=@PyProof.Rows.callWith_builtin1
def je:=@PyProof.Rows.callWith_type1
def yd:=@PyProof.Rows.slot_tuple_getitem
def j0:=@PySem.Around.under_plainId
def uc:=@PySem.Calls.spliced_cons
def wg:=@PySem.Calls.spliced_nil
def ug:=@PySem.F.called_set
def wu:=@PySem.F.slot_enumerate_next
def ur:=@PySem.F.slot_tuple_iterator_next
def wy:=@PySem.F.slot_tuple_mul
def jy:=@PySem.Heap.SameBut.update
def ao:=@PySem.Heap.get?_push_of_some
def bf:=@PySem.Heap.get?_push_size
def uf:=@PySem.Heap.get?_update_other
def mz:=@PySem.Heap.get?_update_self
def az:=@PySem.Heap.lt_size
def gw:=@PySem.Heap.size_push
def ji:=@PySem.W.mg_none_of
def dq:=@PySem.W.mg_of
def m7:=@PySem.codeAny_builtin
def vo:=@PySem.codeAny_mono
def yw:=@PySem.mem_of_lookup
def qm:=@PySem.sizeLine_eq
def vy:=@PySem.tupleKind_room_in1
def iz:=@PySem.wpAny_Call_Name_kw
def aa:=@PySem.wpAny_bind
def jt:=@PySem.wpAny_callSpecial?_slot
def jk:=@PySem.wpAny_call_entry
def qw:=@PySem.wpAny_dictEntries
def ie:=@PySem.wpAny_field
def uy:=@PySem.wpAny_forIn_list
def jm:=@PySem.wpAny_holding
def o8:=@PySem.wpAny_isInstance
def vm:=@PySem.wpAny_ite_false
def mj:=@PySem.wpAny_mono
def jw:=@PySem.wpAny_newObj_type
def t8:=@PySem.wpAny_passesOwn
def aj:=@PySem.wpAny_pure
def ud:=@PySem.wpAny_pyIter_tuple
def o6:=@PySem.wpAny_seqItems
def km:=@PySem.wpAny_setEntries_of
def jb:=@PySem.wpAny_setField_rec
def jo:=@PySem.wpAny_setState_of
def j9:=@PySem.wpAny_truthy_bool
def qg:=@PySem.wpAny_typeOf
def ql:=@beq_eq_false_iff_ne
def zb:=@beq_self_eq_true
def yj:=@bne_self_eq_false
def qj:=@congrArg
def jx:=@decide_eq_false
def yx:=@decide_eq_true
def di:=@decide_eq_true_eq
def jh:=@if_false
def bx:=@if_neg
def cg:=@if_pos
def ju:=@if_true
def j6:=@of_decide_eq_true
def Ay:=@or_false
abbrev Fg:=PySem.W.Frag
def a_{a b c:Nat}(h:a<=b)(k:b<=c):a<=c:=gn h k
def b_{a b c:Nat}(h:a<b)(k:b<=c):a<c:=gm h k
def c_{a b c:Nat}(h:a<=b)(k:b<c):a<c:=Nat.lt_of_le_of_lt h k
def d_{a b c:Nat}(h:a<b)(k:b<c):a<c:=Nat.lt_trans h k
def e_{a b:Nat}(h:a<b):a<=b:=Aj h
def f_{a b:Nat}(h:a=b):a<=b:=Nat.le_of_eq h
def g_{a b:Nat}(h:a=b):b<=a:=Nat.le_of_eq h.symm
def h_{a b:Nat}(h:a<b):a≠b:=dw h
def i_{a b:Nat}(h:b<a):a≠b:=u0 h
def j_{a b:Nat}(h:b<=a):¬a<b:=Nat.not_lt_of_le h
def l_{p:Prop}{a b:Nat}(h:a<b)(k:b<=a):p:=absurd h (Nat.not_lt_of_le k)
def m_{a b:Nat}(h:a<b):(a:Int)<(b:Int):=Int.ofNat_lt.mpr h
def n_{a b:Nat}(h:a<=b):(a:Int)<=(b:Int):=Int.ofNat_le.mpr h
def o_{a b:Nat}(h:(a:Int)<(b:Int)):a<b:=Int.ofNat_lt.mp h
def q_{a:Nat}:(0:Int)<=(a:Int):=Int.natCast_nonneg a
def r_{a b c:Nat}(h:a+c<=b):a<=b-c:=Nat.le_sub_of_add_le h
def s_{a b:Nat}(h:¬a<b):b<=a:=Nat.le_of_not_lt h
def t_{a b:Nat}(h:¬a<=b):b<a:=Nat.lt_of_not_le h
def u_{a b:Nat}(h:a<=b)(k:b<=a):a=b:=Nat.le_antisymm h k
def v_{a b c:Nat}(h:a<=b):a+c<=b+c:=Nat.add_le_add_right h c
def w_{a b c:Nat}(h:a<=b):c+a<=c+b:=Nat.add_le_add_left h c
def x_{a b:Nat}:a<=a+b:=w6 a b
def z_{a b:Nat}(h:a<b+1):a<=b:=Nat.le_of_lt_succ h
def A_{a b:Nat}(h:a<=b):a<b+1:=Nat.lt_succ_of_le h
def B_{a:Nat}:a<a+1:=pq a
def C_{a b:Nat}:a-b<=a:=Nat.sub_le a b
def D_{a b:Nat}(h:(a:Int)=(b:Int)):a=b:=Int.ofNat_inj.mp h
def E_{a b:Nat}(h:a=b):(a:Int)=(b:Int):=qj _ h
def G_{a b c:Nat}(h:a<b):a+c<b+c:=Nat.add_lt_add_right h c
def H_{a b c:Nat}(h:a<b):c+a<c+b:=Nat.add_lt_add_left h c
def hG{P:Prop}(h:∀G:Prop,(P->G)->G):P:=h P id
namespace Yy
open PySem SetTable
def Srt(xs:Array Nat):Prop:=∀(i j a b:Nat),xs[i]?=some a->xs[j]?=some b->i<j->a<b
def aro(hs:Srt xs):∀(fuel lo hi:Nat),lo<=hi->hi<=xs.size->hi-lo<=fuel ->
 (∀(i a:Nat),xs[i]?=some a->i<lo->a<j)->(∀(i a:Nat),xs[i]?=some a->hi<=i->j<=a) ->
 below.go xs j fuel lo hi<=xs.size/\(∀(i a:Nat),xs[i]?=some a->i<below.go xs j fuel lo hi->a<j)/\(∀(i a:Nat),xs[i]?=some a->below.go xs j fuel lo hi<=i->j<=a):=by
 intro fuel
 induction fuel with
 |zero =>
  intro lo hi h1 h2 h3 h4 h5;unfold below.go;have:lo=hi:=by lia
  subst this;exact⟨h2,h4,h5⟩
 |succ fuel ih =>
  intro lo hi h1 h2 h3 h4 h5;unfold below.go
  by_cases Km:lo<hi
  . simp only[cg Km]
    have hm:(lo+hi) / 2<xs.size:=by lia
    have hg:xs[(lo+hi) / 2]?=some xs[(lo+hi) / 2]:=by simp[hm]
    have hgd:xs.getD ((lo+hi) / 2) j=xs[(lo+hi) / 2]:=by simp[Array.getD,hm]
    rw[hgd]
    by_cases hc:xs[(lo+hi) / 2]<j
    . rw[cg hc]
      refine ih _ _ (by lia) h2 (by omega) (λi a e l=>?_) h5
      by_cases hi':i=(lo+hi) / 2
      . subst hi';rw[hg] at e;cases e;exact hc
      . exact Nat.lt_trans (hs _ _ _ _ e hg (by lia)) hc
    . rw[bx hc]
      refine ih _ _ (by lia) (e_ hm) (by omega) h4 (λi a e l=>?_)
      by_cases hi':i=(lo+hi) / 2
      . subst hi';rw[hg] at e;cases e;exact s_ hc
      . have:=hs _ _ _ _ hg e (by lia);exact e_ (c_ (s_ hc) this)
  . rw[bx Km]
    have:lo=hi:=u_ h1 (s_ Km);subst this;exact⟨h2,h4,h5⟩
def Fi(hs:Srt xs):below xs j<=xs.size/\(∀(i a:Nat),xs[i]?=some a->i<below xs j->a<j)/\(∀(i a:Nat),xs[i]?=some a->below xs j<=i->j<=a) :=
 aro hs _ _ _ (my _) (bc _) C_ (λi a _ h=>absurd h (yc _)) (λi a e h=>by
  have:=(jf.mp e).1;lia)
def below_at(hs:Srt xs)(h:xs[i]?=some j):below xs j=i:=by
 obtain⟨h1,h2,h3⟩:=Fi (j:=j) hs;rcases Nat.lt_trichotomy (below xs j) i with l|l|l
 . have li:=(jf.mp h).1
   have hg:xs[below xs j]?=some xs[below xs j]:=by simp
   have a:=h3 _ _ hg (bc _);have b:=hs _ _ _ _ hg h l
   lia
 . exact l
 . have:=h2 _ _ h l;lia
def Yz(j:Nat):has #[] j=false:=by simp[has]
set_option tactic.hygienic true in
def Te{t:SetTable}(hs:Srt t.place):t.slot j=.live i↔t.place[i]?=some j:=by
 unfold slot;constructor
 . intro h
   dsimp only at h;split at h
   . rename_i e;cases h;simpa using e
   . split at h<;>cases h
 . intro h
   dsimp only;rw[below_at hs h,h];simp
def afk{t:SetTable}(hs:Srt t.place)(hd:t.dummies=#[]):t.slot j=.empty↔∀i:Nat,t.place[i]?≠some j:=by
 constructor
 . intro h i e
   rw[(Te hs).mpr e] at h;cases h
 . intro h
   unfold slot;dsimp only;rw[hd,Yz,bx (by simpa using h _)];rfl
def Pa(xs:Array α)(p:Nat)(x:α)(hp:p<=xs.size)(i:Nat):(insertAt xs p x)[i]?=if i<p then xs[i]? else if i=p then some x else xs[i-1]?:=by
 rw[<- p7,toList_insertAt];have hl:(xs.toList.take p).length=p:=by simp;lia
 by_cases h1:i<p
 . rw[cg h1,du (b_ h1 (g_ hl)),List.getElem?_take,cg h1,p7]
 . rw[bx h1,jg (a_ (f_ hl) (s_ h1)),hl]
   by_cases h2:i=p
   . subst h2;simp
   . rw[bx h2]
     obtain⟨q,hq⟩:∃q,i=p+q+1:=⟨i-p-1,by lia⟩;subst hq;rw[show p+q+1-p=q+1 by lia,List.getElem?_cons_succ,List.getElem?_drop,show p+q+1-1=p+q by lia,p7]
def Nq(xs:Array α)(p:Nat)(x:α):(insertAt xs p x).size=xs.size+1:=by have:=(insertAt_perm xs p x).length_eq;simpa using this
noncomputable def up(p i:Nat):Nat:=if i<p then i else i+1
def Qm(xs:Array α)(p:Nat)(x:α)(hp:p<=xs.size)(i:Nat):(insertAt xs p x)[up p i]?=xs[i]?:=by
 rw[Pa xs p x hp];unfold up
 by_cases h:i<p
 . simp[h]
 . rw[bx h,bx (j_ (a_ (s_ h) x_)),bx (i_ (A_ (s_ h)))];rfl
def Ko(xs:Array α)(p:Nat)(x:α)(hp:p<=xs.size):(insertAt xs p x)[p]?=some x:=by rw[Pa xs p x hp];simp
def Pb(p i:Nat):i=p\/∃k,i=up p k:=by
 unfold up;rcases Nat.lt_trichotomy i p with h|h|h
 . exact .inr ⟨i,by simp[h]⟩
 . exact .inl h
 . exact .inr ⟨i-1,by rw[bx (by omega)];lia⟩
def arp(hs:Srt xs)(hn:∀i:Nat,xs[i]?≠some j):Srt (insertAt xs (below xs j) j):=by
 obtain⟨h1,h2,h3⟩:=Fi (j:=j) hs;intro a b x y ea eb l;rcases Pb (below xs j) a with rfl|⟨a',rfl⟩<;>rcases Pb (below xs j) b with hb|⟨b',rfl⟩
 . subst hb;lia
 . rw[Ko _ _ _ h1] at ea
   rw[Qm _ _ _ h1] at eb;cases ea;have:below xs j<=b':=by unfold up at l;split at l<;>omega
   have g:=h3 _ _ eb this;rcases Nat.lt_or_eq_of_le g with g|g
   . exact g
   . subst g;exact absurd eb (hn _)
 . subst hb
   rw[Ko _ _ _ h1] at eb;rw[Qm _ _ _ h1] at ea;cases eb;exact h2 _ _ ea (by unfold up at l;split at l<;>omega)
 . rw[Qm _ _ _ h1] at ea eb
   exact hs _ _ _ _ ea eb (by unfold up at l;split at l<;>split at l<;>omega)
noncomputable def adv(m:Nat)(p:Probe):Probe:=({ SetTable.fresh 0 0 true with mask:=m }:SetTable).advance p
def axw(t:SetTable)(p:Probe):t.advance p=adv t.mask p:=rfl
def aad(h:p.more > 0):adv m p={ p with j:=p.j+1,more:=p.more-1 }:=cg h
def V3(h:¬p.more > 0):adv m p={ p with j:=(leap m p.i p.perturb).1,more:=runEnd m (leap m p.i p.perturb).1-(leap m p.i p.perturb).1,i:=(leap m p.i p.perturb).1,perturb:=(leap m p.i p.perturb).2 }:=bx h
noncomputable def beg(m i pt:Nat):Probe:={ j:=i,more:=runEnd m i-i,i:=i,perturb:=pt,dummy:=none }
noncomputable def P(m:Nat)(h:Int):Nat->Probe
 |0=>beg m (bits h%(m+1)) (bits h)|n+1=>adv m (P m h n)
def aca(t:SetTable)(h:Int):t.probeStart h=P t.mask h 0:=rfl
theorem aae(m:Nat)(h:Int):∀n,(P m h n).dummy=none
 |0=>rfl
 |n+1=>by
  show(adv m (P m h n)).dummy=none
  by_cases q:(P m h n).more > 0
  . rw[aad q];exact aae m h n
  . rw[V3 q];exact aae m h n
noncomputable def I(m:Nat)(h:Int):Nat->Nat
 |0=>bits h%(m+1)|T+1=>(I m h T*5+1+bits h / 32 ^ (T+1))%(m+1)
def arq(m i:Nat):runEnd m i-i<=9:=by unfold runEnd;split<;>lia
theorem acb{m:Nat}{h:Int}{n i pt:Nat}(e:P m h n=beg m i pt):∀c,c<=runEnd m i-i->P m h (n+c)={ j:=i+c,more:=runEnd m i-i-c,i:=i,perturb:=pt,dummy:=none }
 |0,_=>by rw[Nat.add_zero,e];rfl
 |c+1,hc=>by
  have:=acb e c (by lia);show adv m (P m h (n+c))=_;rw[this,aad (by show 0<runEnd m i-i-c;lia)];simp only
  congr 1
def als(e:P m h n=beg m i pt):P m h (n+(runEnd m i-i)+1)=beg m ((i*5+1+pt / 32)%(m+1)) (pt / 32):=by show adv m (P m h (n+(runEnd m i-i)))=_;rw[acb e _ (bc _),V3 (by simp)];rfl
theorem alu(m:Nat)(h:Int):∀T,∃n,n<=10*T/\P m h n=beg m (I m h T) (bits h / 32 ^ T)
 |0=>⟨0,my _,by simp[P,I]⟩
 |T+1=>by
  obtain⟨n,h1,h2⟩:=alu m h T;have:=arq m (I m h T);refine⟨_,?_,(als h2).trans ?_⟩
  . lia
  . rw[Nat.div_div_eq_div_mul,<- Nat.pow_succ];rfl
noncomputable def f5(m x:Nat):Nat:=(x*5+1)%(m+1)
noncomputable def it(m:Nat):Nat->Nat->Nat
 |0,x=>x|k+1,x=>f5 m (it m k x)
theorem V4(m a x:Nat):∀k,it m (a+k) x=it m k (it m a x)
 |0=>rfl|k+1=>by show f5 m (it m (a+k) x)=_;rw[V4 m a x k];rfl
def Cov(m:Nat):Prop:=∀i j,i<=m->j<=m->∃k,k<=m/\it m k i=j
def axx(h0:it m (m+1) 0=0)(h:∀j,j<=m->∃k,k<=m/\it m k 0=j):Cov m:=λi j hi hj=>by
 obtain⟨a,la,ea⟩:=h i hi;obtain⟨b,lb,eb⟩:=h j hj
 by_cases hab:a<=b
 . refine⟨b-a,a_ C_ lb,?_⟩
   rw[<- ea,<- V4,show a+(b-a)=b by lia,eb]
 . refine⟨m+1+b-a,by omega,?_⟩
   rw[<- ea,<- V4,show a+(m+1+b-a)=(m+1)+b by lia,V4,h0,eb]
noncomputable def orb(m:Nat):Nat->Nat->List Nat
 |0,_=>[]|k+1,x=>x::orb m k (f5 m x)
theorem ahb{m:Nat}:∀{k x j:Nat},j∈orb m k x->∃q,q<k/\it m q x=j
 |0,_,_,h=>by simp[orb] at h
 |k+1,x,j,h=>by
  simp only[orb,bw] at h;rcases h with rfl|h
  . exact⟨0,A_ (my _),rfl⟩
  . obtain⟨q,l,e⟩:=ahb h
    refine⟨1+q,by lia,?_⟩;rw[V4];exact e
def Q9(h0:it m (m+1) 0=0)(h:((List.range (m+1)).all λj=>(orb m (m+1) 0).contains j)=true):Cov m :=
 axx h0 λj hj=>by have:=gq.mp h j (by simp;exact A_ hj);obtain⟨q,l,e⟩:=ahb (by simpa using this);exact⟨q,z_ l,e⟩
def Msk(m:Nat):Prop:=m=7\/m=15\/m=31\/m=63\/m=127
def bbs:Cov 7:=Q9 (by decide+kernel) (by decide+kernel)
def a4g:Cov 15:=Q9 (by decide+kernel) (by decide+kernel)
def a4h:Cov 31:=Q9 (by decide+kernel) (by decide+kernel)
def a4i:Cov 63:=Q9 (by decide+kernel) (by decide+kernel)
def axy:Cov 127:=Q9 (by decide+kernel) (by decide+kernel)
def Msk.cov(h:Msk m):Cov m:=by
 rcases h with rfl|rfl|rfl|rfl|rfl
 . exact bbs
 . exact a4g
 . exact a4h
 . exact a4i
 . exact axy
def ars(h:Int):bits h<2 ^ 64:=by
 unfold bits;have h1:=Bc h (b:=2 ^ 64) (by decide);have h2:=zj h (b:=2 ^ 64) (by decide)
 lia
theorem a4j(m:Nat)(h:Int):∀T,I m h T<=m
 |0=>Nat.le_of_lt_succ (Nat.mod_lt (bits h) (Nat.succ_pos m))|T+1=>Nat.le_of_lt_succ (Nat.mod_lt (I m h T*5+1+bits h / 32 ^ (T+1)) (Nat.succ_pos m))
theorem alv(m:Nat)(h:Int):∀k,I m h (13+k)=it m k (I m h 13)
 |0=>rfl
 |k+1=>by
  show(I m h (13+k)*5+1+bits h / 32 ^ (13+k+1))%(m+1)=f5 m (it m k (I m h 13));have:bits h / 32 ^ (13+k+1)=0:=by
   apply Nat.div_eq_of_lt;refine gm (ars h) ?_
   calc 2 ^ 64<=32 ^ 13:=by decide
    _<=32 ^ (13+k+1):=Nat.pow_le_pow_right (by decide) (a_ x_ x_)
  rw[this,alv m h k];rfl
def cover(hm:Msk m)(h:Int)(j:Nat)(hj:j<=m):∃T,T<=13+m/\I m h T=j:=by obtain⟨k,lk,e⟩:=hm.cov (I m h 13) j (a4j m h 13) hj;exact⟨13+k,w_ lk,(alv m h k).trans e⟩
def art(hm:Msk m)(h:Int)(j:Nat)(hj:j<=m):∃n,n<10*turns m/\(P m h n).j=j:=by obtain⟨T,lT,e⟩:=cover hm h j hj;obtain⟨n,ln,e2⟩:=alu m h T;exact⟨n,by unfold turns;lia,by rw[e2];exact e⟩
def mod_le(a m:Nat):a%(m+1)<=m:=Nat.le_of_lt_succ (Nat.mod_lt a (Nat.succ_pos m))
def Tf(h:i<=m):i<=runEnd m i/\runEnd m i<=m:=by unfold runEnd;split<;>omega
theorem a4k(m:Nat)(h:Int):∀n,(P m h n).j+(P m h n).more<=m
 |0=>by
  have:=Tf (mod_le (bits h) m);show bits h%(m+1)+(runEnd m (bits h%(m+1))-bits h%(m+1))<=m
  omega
 |n+1=>by
  have ih:=a4k m h n;show(adv m (P m h n)).j+(adv m (P m h n)).more<=m
  by_cases q:(P m h n).more > 0
  . rw[aad q];simp only;lia
  . rw[V3 q]
    have:=Tf (mod_le ((P m h n).i*5+1+(P m h n).perturb / 32) m);show(leap m (P m h n).i (P m h n).perturb).1+(runEnd m (leap m (P m h n).i (P m h n).perturb).1-(leap m (P m h n).i (P m h n).perturb).1)<=m
    have e:(leap m (P m h n).i (P m h n).perturb).1=((P m h n).i*5+1+(P m h n).perturb / 32)%(m+1):=rfl;rw[e];omega
def bbt(m:Nat)(h:Int)(n:Nat):(P m h n).j<=m:=by have:=a4k m h n;lia
def Occ(t:SetTable)(j:Nat):Prop:=∃i:Nat,t.place[i]?=some j
structure Y0(t:SetTable)(es:Array (Int×Value)):Prop where
 msk:Msk t.mask
 dum:t.dummies=#[]
 Y4:t.place.size=es.size
 srt:Srt t.place
 bnd:∀(i j:Nat),t.place[i]?=some j->j<=t.mask
 ful:t.place.size<=t.mask
 rch:∀(i j:Nat) e,t.place[i]?=some j->es[i]?=some e->∃n,(P t.mask e.1 n).j=j/\∀m,m<n->Occ t (P t.mask e.1 m).j
theorem Y0.fits(k:Y0 t es):t.fits es.size=true:=by unfold SetTable.fits fill;rw[k.dum];simp[k.Y4];have:=k.ful;have:=k.Y4;lia
def Msk.odd(h:Msk m):m%2=1:=by rcases h with rfl|rfl|rfl|rfl|rfl<;>rfl
def Y0.way(k:Y0 t es):t.gaveWay=false:=by unfold gaveWay;rw[k.msk.odd];rfl
def alw(hs:Srt xs)(h:xs.size<=m):∃j,j<=m/\∀i:Nat,xs[i]?≠some j:=by
 apply xr;intro hn;have all:∀j,j<=m->∃i:Nat,xs[i]?=some j:=λj hj=>by apply xr;intro hc;exact hn ⟨j,hj,λi e=>hc ⟨i,e⟩⟩
 have:∀j,j<=m->∀i:Nat,xs[i]?=some j->j<=i:=by
  intro j
  induction j with
  |zero=>intro _ i _;exact my _
  |succ j ih =>
   intro hj i e;obtain⟨i',e'⟩:=all j (by lia);have:=ih (by lia) i' e';rcases Nat.lt_trichotomy i i' with l|l|l
   . have:=hs _ _ _ _ e e' l;lia
   . subst l;rw[e] at e';injection e' with e';exact a_ (f_ e') this
   . exact a_ (v_ this) l
 obtain⟨i,e⟩:=all m (bc _);have h1:=this m (bc _) i e;have h2:=(jf.mp e).1;exact l_ h2 (a_ h h1)
structure Fst(t:SetTable)(h:Int)(N:Nat):Prop where
 lt:N<10*turns t.mask
 emp:¬Occ t (P t.mask h N).j
 occ:∀m,m<N->Occ t (P t.mask h m).j
def least{p:Nat->Prop}:∀{n:Nat},p n->∃k,k<=n/\p k/\∀m,m<k->¬p m:=by
 intro n
 induction n using Nat.strongRecOn with
 |ind n ih =>
  intro h
  by_cases hc:∃m,m<n/\p m
  . obtain⟨m,l,hm⟩:=hc
    obtain⟨k,l2,a,b⟩:=ih m l hm;exact⟨k,e_ (c_ l2 l),a,b⟩
  . exact⟨n,bc _,h,λm l hm=>hc ⟨m,l,hm⟩⟩
def Y0.fst(k:Y0 t es)(h:Int):∃N,Fst t h N:=by obtain⟨j,hj,e⟩:=alw k.srt k.ful;obtain⟨n,ln,en⟩:=art k.msk h j hj;obtain⟨N,l,a,b⟩:=least (p:=λn=>¬Occ t (P t.mask h n).j) (n:=n) (λ⟨i,c⟩=>e i (by rw[en] at c;exact c));exact⟨N,c_ l ln,a,λm hm=>Classical.not_not.mp (b m hm)⟩
theorem alx(k:Y0 t es)(F:Fst t h N)(ha:Nat->Int):∀(fuel n:Nat),n<=N->N-n<fuel ->
 (probe.go t ha h fuel (P t.mask h n)=some (.empty (P t.mask h N).j none)/\∀m,n<=m->m<N->∀i:Nat,t.place[i]?=some (P t.mask h m).j->ha i≠h)
\/∃m i:Nat,n<=m/\m<N/\t.place[i]?=some (P t.mask h m).j/\ha i=h/\(∀q,n<=q->q<m->∀i:Nat,t.place[i]?=some (P t.mask h q).j->ha i≠h)
 /\probe.go t ha h fuel (P t.mask h n)=some (.candidate (P t.mask h m).j i (P t.mask h (m+1))):=by
 intro fuel
 induction fuel with
 |zero=>intro n _ l;omega
 |succ fuel ih =>
  intro n hn l;unfold probe.go
  by_cases e:n=N
  . subst e
    left
    rw[(afk k.srt k.dum).mpr (λi c=>F.emp ⟨i,c⟩)];simp only;rw[aae];exact⟨rfl,λm a b=>by lia⟩
  . obtain⟨i,hi⟩:=F.occ n (by lia)
    rw[(Te k.srt).mpr hi];simp only[axw];have hnx:adv t.mask (P t.mask h n)=P t.mask h (n+1):=rfl;rw[hnx]
    by_cases hh:ha i=h
    . right
      refine⟨n,i,bc _,by lia,hi,hh,λq a b=>by lia,?_⟩;rw[cg (by simp[hh])]
    . rw[bx (by simp[hh])]
      have un:∀i':Nat,t.place[i']?=some (P t.mask h n).j->ha i'≠h:=λi' e'=>by have a:=below_at k.srt e';have b:=below_at k.srt hi;rw[<- a,b];exact hh
      rcases ih (n+1) (by lia) (by lia) with⟨a,b⟩|⟨m,i',a,b,c,d,e1,e2⟩
      . left
        refine⟨a,λm x y=>?_⟩
        by_cases q:m=n
        . subst q;exact un
        . exact b m (by lia) y
      . right
        refine⟨m,i',by lia,b,c,d,λq x y=>?_,e2⟩
        by_cases z:q=n
        . subst z;exact un
        . exact e1 q (by lia) y
def Y0.ahead(k:Y0 t es)(F:Fst t h N){i:Nat}(he:es[i]?=some e)(hh:e.1=h):∃m,m<N/\t.place[i]?=some (P t.mask h m).j:=by
 have li:i<t.place.size:=by rw[k.Y4];exact(jf.mp he).1
 have hp:t.place[i]?=some t.place[i]:=by simp[li]
 obtain⟨n,a,b⟩:=k.rch i _ e hp he;subst hh;refine⟨n,?_,by rw[a];exact hp⟩;rcases Nat.lt_trichotomy n N with l|l|l
 . exact l
 . subst l;exact absurd ⟨i,by rw[a];exact hp⟩ F.emp
 . exact absurd (b N l) F.emp
def aaf(hs:Srt t.place)(q:Nat):Occ (t.put j).1 q↔q=j\/Occ t q:=by
 obtain⟨h1,h2,h3⟩:=Fi (j:=j) hs;constructor
 . rintro⟨i,e⟩
   have e:(insertAt t.place (below t.place j) j)[i]?=some q:=e;rcases Pb (below t.place j) i with rfl|⟨i',rfl⟩
   . rw[Ko _ _ _ h1] at e;cases e;exact .inl rfl
   . rw[Qm _ _ _ h1] at e;exact .inr ⟨i',e⟩
 . rintro(rfl|⟨i,e⟩)
   . exact⟨_,Ko _ _ _ h1⟩
   . exact⟨up (below t.place j) i,(Qm _ _ _ h1 i).trans e⟩
theorem Y0.put(k:Y0 t es)(F:Fst t h N)(room:t.place.size+1<=t.mask) :
 Y0 (t.put (P t.mask h N).j).1 (insertAt es (t.put (P t.mask h N).j).2 (h,x)):=by
 obtain⟨h1,h2,h3⟩:=Fi (j:=(P t.mask h N).j) k.srt;have h1':below t.place (P t.mask h N).j<=es.size:=by rw[<- k.Y4];exact h1
 refine⟨k.msk,?_,?_,?_,?_,?_,?_⟩
 . show(if has t.dummies _ then _ else t.dummies)=#[]
   rw[k.dum,Yz];rfl
 . show(insertAt t.place _ _).size=(insertAt es _ _).size
   rw[Nq,Nq,k.Y4]
 . exact arp k.srt (λi e=>F.emp ⟨i,e⟩)
 . intro i j e
   rcases(aaf k.srt j).mp ⟨i,e⟩ with rfl|⟨i',e'⟩
   . exact bbt _ _ _
   . exact k.bnd i' j e'
 . show(insertAt t.place _ _).size<=t.mask
   rw[Nq];exact room
 . intro i j e hp he
   have hp:(insertAt t.place (below t.place (P t.mask h N).j) (P t.mask h N).j)[i]?=some j:=hp;have he:(insertAt es (below t.place (P t.mask h N).j) (h,x))[i]?=some e:=he;show ∃n,(P t.mask e.1 n).j=j/\∀m,m<n->Occ (t.put (P t.mask h N).j).1 (P t.mask e.1 m).j
   rcases Pb (below t.place (P t.mask h N).j) i with rfl|⟨i',rfl⟩
   . rw[Ko _ _ _ h1] at hp
     rw[Ko _ _ _ h1'] at he;cases hp;cases he;exact⟨N,rfl,λm l=>(aaf k.srt _).mpr (.inr (F.occ m l))⟩
   . rw[Qm _ _ _ h1] at hp
     rw[Qm _ _ _ h1'] at he;obtain⟨n,a,b⟩:=k.rch i' j e hp he;exact⟨n,a,λm l=>(aaf k.srt _).mpr (.inr (b m l))⟩
abbrev OcO(ow:Array (Option Nat))(j:Nat):Prop:=∃i,ow[j]?=some (some i)
structure Own(m:Nat)(ow:Array (Option Nat))(hs:Xs):Prop where
 Y4:ow.size=m+1
 cnt:ow.toList.countP Option.isSome=hs.length
 lt:∀(j i:Nat),ow[j]?=some (some i)->i<hs.length
 inj:∀(j j' i:Nat),ow[j]?=some (some i)->ow[j']?=some (some i)->j=j'
 at':∀(i:Nat) h,hs[i]?=some h->∃j n,ow[j]?=some (some i)/\(P m h n).j=j/\∀q,q<n->OcO ow (P m h q).j
def getD_none{ow:Array (Option Nat)}(hz:ow.size=m+1)(h:(ow.getD j (some 0)).isNone=true):ow[j]?=some none:=by
 by_cases l:j<ow.size
 . simp[Array.getD,l] at h;simp[l,h]
 . simp[Array.getD,l] at h
def getD_some(hz:ow.size=m+1)(hj:j<=m)(h:¬(ow.getD j (some 0)).isNone=true):OcO ow j:=by
 have l:j<ow.size:=by lia
 simp[Array.getD,l] at h;unfold OcO;rw[show ow[j]?=some ow[j] by simp[l]];cases e:ow[j] with
 |none=>exact absurd e h|some i=>exact⟨i,rfl⟩
def ajh(hz:ow.size=m+1)(h:Int):∀(fuel T n:Nat),P m h n=beg m (I m h T) (bits h / 32 ^ T)->(∀q,q<n->OcO ow (P m h q).j) ->
 (∃k,k<fuel/\ow[I m h (T+k)]?=some none)->∃j n',layClean.free m ow fuel (I m h T) (bits h / 32 ^ T)=some j/\(P m h n').j=j/\ow[j]?=some none/\∀q,q<n'->OcO ow (P m h q).j:=by
 intro fuel
 induction fuel with
 |zero=>rintro T n _ _ ⟨k,l,_⟩;lia
 |succ fuel ih =>
  rintro T n e hq ⟨k,lk,ek⟩;have hI:=a4j m h T;obtain⟨r1,r2⟩:=Tf hI;unfold layClean.free;cases hf:(List.range (runEnd m (I m h T)+1-I m h T)).find? λk=>(ow.getD (I m h T+k) (some 0)).isNone with
  |some c =>
   obtain⟨a,b,d⟩:=List.find?_range_eq_some.mp hf;have b:=il.mp b;refine⟨_,n+c,rfl,by rw[acb e c (by omega)],getD_none hz a,λq l=>?_⟩
   by_cases hn:q<n
   . exact hq q hn
   . obtain⟨c',rfl⟩:∃c',q=n+c':=⟨q-n,by lia⟩
     rw[acb e c' (by lia)];show OcO ow (I m h T+c');exact getD_some hz (by lia) (λhh=>by
      have:=d c' (by lia);simp only[hh] at this;cases this)
  |none =>
   have Dy:=List.find?_eq_none.mp hf;have occ:∀c,c<=runEnd m (I m h T)-I m h T->OcO ow (I m h T+c):=λc hc=>getD_some hz (by lia) (Dy c (il.mpr (by lia)))
   cases k with
   |zero =>
    obtain⟨i,ei⟩:=occ 0 (my _);rw[Nat.add_zero] at ek ei;rw[ek] at ei;cases ei
   |succ k =>
    have pe:bits h / 32 ^ T / 32=bits h / 32 ^ (T+1):=by rw[Nat.div_div_eq_div_mul,<- Nat.pow_succ]
    have:=ih (T+1) (n+(runEnd m (I m h T)-I m h T)+1) (by rw[als e,pe];rfl) (λq l=>?_) ⟨k,by lia,by rw[show T+1+k=T+(k+1) by lia];exact ek⟩
    . obtain⟨j,n',e1,e2⟩:=this
      refine⟨j,n',?_,e2⟩;rw[<- e1];show layClean.free m ow fuel ((I m h T*5+1+bits h / 32 ^ T / 32)%(m+1)) (bits h / 32 ^ T / 32)=_;rw[pe];rfl
    . by_cases hn:q<n
      . exact hq q hn
      . obtain⟨c',rfl⟩:∃c',q=n+c':=⟨q-n,by lia⟩
        rw[acb e c' (by lia)];show OcO ow (I m h T+c');exact occ c' (by lia)
def Own.room(k:Own m ow hs)(h:hs.length<=m):∃j,j<=m/\ow[j]?=some none:=by
 apply xr;intro hn;have:ow.toList.countP Option.isSome=ow.toList.length:=List.countP_eq_length.mpr λa ha=>by
  obtain⟨j,hj,e⟩:=qb ha;cases a with
  |some i=>rfl
  |none =>
   have hj':j<ow.size:=by simpa using hj
   refine absurd ⟨j,by have:=k.Y4;exact z_ (b_ hj' (f_ this)),?_⟩ hn;rw[<- p7,dh hj,e]
 rw[k.cnt] at this;have:=k.Y4;simp at *
 lia
theorem Own.free(hm:Msk m)(k:Own m ow hs)(hl:hs.length<=m)(h:Int):∃j n',layClean.free m ow (turns m) (bits h%(m+1)) (bits h)=some j/\(P m h n').j=j/\ow[j]?=some none/\∀q,q<n'->OcO ow (P m h q).j:=by obtain⟨j,hj,e⟩:=k.room hl;obtain⟨T,lT,eT⟩:=cover hm h j hj;have:=ajh k.Y4 h (turns m) 0 0 (by simp[P,I]) (λq l=>by lia) ⟨T,by unfold turns;lia,by rw[u5,eT];exact e⟩;simpa[I] using this
def Own.lay(k:Own m ow hs)(e1:(P m h n').j=j)(e2:ow[j]?=some none)(e3:∀q,q<n'->OcO ow (P m h q).j) :
 Own m (ow.setIfInBounds j (some hs.length)) (hs++[h]):=by
 have lj:j<ow.size:=(jf.mp e2).1
 have get:∀q:Nat,(ow.setIfInBounds j (some hs.length))[q]?=if j=q then some (some hs.length) else ow[q]?:=λq=>by rw[Array.getElem?_setIfInBounds];split<;>simp_all
 have occ:∀q,OcO ow q->OcO (ow.setIfInBounds j (some hs.length)) q:=λq ⟨i,e⟩=>by refine⟨i,?_⟩;rw[get,bx (λh=>by subst h;rw[e2] at e;cases e)];exact e
 refine⟨by simp[k.Y4],?_,λq i e=>?_,λq q' i e e'=>?_,λi h' e=>?_⟩
 . rw[Array.toList_setIfInBounds,List.countP_set (by simpa using lj),k.cnt]
   have:ow.toList[j]'(by simpa using lj)=none:=by have:=(jf.mp e2).2;simpa using this
   rw[this];simp
 . rw[get] at e
   split at e
   . cases e;simp
   . have:=k.lt q i e;simp;exact A_ (e_ this)
 . rw[get] at e e'
   split at e<;>split at e'
   . lia
   . cases e;have:=k.lt _ _ e';lia
   . cases e';have:=k.lt _ _ e;lia
   . exact k.inj q q' i e e'
 . by_cases l:i<hs.length
   . rw[du l] at e
     obtain⟨j',n,a,b,c⟩:=k.at' i h' e;refine⟨j',n,?_,b,λq l=>occ _ (c q l)⟩;rw[get,bx (λh=>by subst h;rw[e2] at a;cases a)];exact a
   . have hi:i=hs.length:=by
      have:=(ak.mp e).1;simp at this;exact u_ (z_ this) (s_ l)
     subst hi;simp at e;subst e;exact⟨j,n',by rw[get,cg rfl],e1,λq l=>occ _ (e3 q l)⟩
theorem ahc{m:Nat}(hm:Msk m):∀(rest hs:Xs)(ow:Array (Option Nat)),Own m ow hs->hs.length+rest.length<=m+1 ->
 ∃ow',rest.foldl (λacc h=>do
  let (owner,k) <- acc
  let j <- layClean.free m owner (turns m) (bits h%(m+1)) (bits h)
  pure (owner.setIfInBounds j (some k),k+1)) (some (ow,hs.length))=some (ow',hs.length+rest.length)/\Own m ow' (hs++rest)
 |[],hs,ow,k,_=>⟨ow,rfl,by simpa using k⟩
 |h::rest,hs,ow,k,l=>by
  obtain⟨j,n',e0,e1,e2,e3⟩:=k.free hm (by simp at l;lia) h;have k':=k.lay e1 e2 e3;obtain⟨ow',a,b⟩:=ahc hm rest (hs++[h]) _ k' (by simp at l ⊢;lia);refine⟨ow',?_,by simpa using b⟩;rw[Bd];have:(do
   let (owner,k) <- some (ow,hs.length)
   let j <- layClean.free m owner (turns m) (bits h%(m+1)) (bits h)
   pure (owner.setIfInBounds j (some k),k+1))=some (ow.setIfInBounds j (some hs.length),(hs++[h]).length):=by
   show(layClean.free m ow (turns m) (bits h%(m+1)) (bits h) >>= _)=_;rw[e0];simp
  rw[this,a]
  simp;lia
def aly(hm:Msk m)(hs:Array Int)(l:hs.size<=m+1):∃ow,layClean m hs=some ow/\Own m ow hs.toList:=by have k0:Own m (Array.replicate (m+1) none) []:=⟨by simp,by simp,λj i e=>by simp[Array.getElem?_replicate] at e,λj j' i e=>by simp[Array.getElem?_replicate] at e,λi h e=>by simp at e⟩;obtain⟨ow,a,b⟩:=ahc hm hs.toList [] _ k0 (by simpa using l);refine⟨ow,?_,by simpa using b⟩;unfold layClean;rw[<- Array.foldl_toList];exact(qj (Option.map (·.1)) a).trans rfl
noncomputable def lv(m:Nat)(ow:Array (Option Nat)):List (Nat×Nat):=(List.range (m+1)).filterMap λj=>(ow.getD j none).map (j,·)
def Qn(k:Own m ow hs):(j,i)∈lv m ow↔ow[j]?=some (some i):=by
 unfold lv;rw[List.mem_filterMap];constructor
 . rintro⟨q,a,b⟩
   obtain⟨i',e1,e2⟩:=cu.mp b;cases e2;have:j<ow.size:=by rw[k.Y4];exact il.mp a
   simp[Array.getD,this] at e1;simp[this,e1]
 . intro e
   have l:=(jf.mp e).1;refine⟨j,il.mpr (by rw[<- k.Y4];exact l),?_⟩;have:ow.getD j none=some i:=by simp[Array.getD,l,(jf.mp e).2]
   rw[this];rfl
def alz(m:Nat)(ow:Array (Option Nat)):(lv m ow).Pairwise λa b=>a.1<b.1:=by unfold lv;refine List.Pairwise.filterMap _ (λa a' Km b hb b' hb'=>?_) List.pairwise_lt_range;obtain⟨_,_,rfl⟩:=cu.mp hb;obtain⟨_,_,rfl⟩:=cu.mp hb';exact Km
def aru(k:Own m ow hs):((lv m ow).map (·.2)).Perm (List.range hs.length):=by
 refine(List.perm_ext_iff_of_nodup ?_ List.nodup_range).mpr λi=>?_
 . rw[Ad,List.pairwise_map]
   refine(alz m ow).imp_of_mem fun{a b} ha hb Km e=>?_
   have:=k.inj a.1 b.1 a.2 ((Qn k).mp ha) (by rw[e];exact(Qn k).mp hb);exact l_ Km (g_ this)
 . rw[bu,il]
   constructor
   . rintro⟨a,ha,rfl⟩;exact k.lt _ _ ((Qn k).mp ha)
   . intro l
     obtain⟨j,n,a,_⟩:=k.at' i _ (dh l);exact⟨(j,i),(Qn k).mpr a,rfl⟩
theorem al0{α β:Type}{g:α->Option β}:∀{l:List α},(∀x∈l,(g x).isSome=true)->∀q:Nat,(l.filterMap g)[q]?=l[q]?.bind g
 |[],_,q=>by simp
 |x::l,h,q=>by
  have hx:=h x (dg ..);obtain⟨y,e⟩:=ph.mp hx;rw[List.filterMap_cons_some e];cases q with
  |zero=>simp[e]|succ q=>simpa using al0 (λx hx=>h x (bh _ hx)) q
def ahd(hm:Msk m)(fg mv:Nat)(ld pl:Bool)(es:Array (Int×Value))(l:es.size<=m) :
 ∃t order,laid m fg mv ld pl (es.map (·.1))=some (t,order)/\t.mask=m/\Y0 t (order.filterMap (es[·]?))/\(order.filterMap (es[·]?)).toList.Perm es.toList/\(order.filterMap (es[·]?)).size=es.size
 /\t.led=ld/\t.plain=pl/\t.finger=fg/\order.toList.Perm (List.range es.size):=by
 obtain⟨ow,e,k⟩:=aly hm (es.map (·.1)) (by simp;exact a_ l x_);have Y5:=aru k;simp at Y5;have hlen:(lv m ow).length=es.size:=by have:=Y5.length_eq;simpa using this
 have hsz:((((lv m ow).map (·.2)).toArray).filterMap (es[·]?)).size=es.size:=by have:=(Y5.filterMap (es[·]?)).length_eq;rw[filterMap_getElem?_range] at this;rw[<- t7,Array.toList_filterMap,this];simp
 refine⟨{ mask:=m,place:=((lv m ow).map (·.1)).toArray,dummies:=#[],finger:=fg,led:=ld,moves:=mv,plain:=pl },((lv m ow).map (·.2)).toArray,?_,rfl,?_,?_,?_,rfl,rfl,rfl,Y5⟩
 . unfold laid;rw[e];rfl
 . have a4m:∀x∈(lv m ow).map (·.2),(es[x]?).isSome=true:=λx hx=>by
    have:=il.mp (Y5.mem_iff.mp hx)
    simp;exact this
   have get:∀q:Nat,((((lv m ow).map (·.2)).toArray).filterMap (es[·]?))[q]?=((lv m ow)[q]?).bind λa=>es[a.2]?:=λq=>by rw[<- p7,Array.toList_filterMap,al0 a4m,jd];cases(lv m ow)[q]?<;>rfl
   have plc:∀q j:Nat,(((lv m ow).map (·.1)).toArray)[q]?=some j↔∃i,(lv m ow)[q]?=some (j,i):=λq j=>by
    simp only[List.getElem?_toArray,jd,cu];constructor
    . rintro⟨a,h,rfl⟩;exact⟨a.2,h⟩
    . rintro⟨i,h⟩;exact⟨_,h,rfl⟩
   refine⟨hm,rfl,?_,?_,?_,?_,?_⟩
   . show(((lv m ow).map (·.1)).toArray).size=_
     rw[hsz];simp[hlen]
   . intro i j a b ea eb lt
     obtain⟨i1,e1⟩:=(plc i a).mp ea;obtain⟨i2,e2⟩:=(plc j b).mp eb;obtain⟨l1,g1⟩:=ak.mp e1;obtain⟨l2,g2⟩:=ak.mp e2;have:=List.pairwise_iff_getElem.mp (alz m ow) i j l1 l2 lt;rw[g1,g2] at this;exact this
   . intro i j e
     obtain⟨i1,e1⟩:=(plc i j).mp e;have:=(Qn k).mp (au e1);have:=(jf.mp this).1;rw[k.Y4] at this;show j<=m
     exact z_ this
   . show(((lv m ow).map (·.1)).toArray).size<=m
     simp[hlen];exact l
   . intro q j e' hp he
     obtain⟨i,e1⟩:=(plc q j).mp hp;rw[get,e1] at he;have he:es[i]?=some e':=he;obtain⟨j',n,a,b,c⟩:=k.at' i e'.1 (by simp[he]);have hj:=k.inj j j' i ((Qn k).mp (au e1)) a;subst hj;refine⟨n,b,λw lw=>?_⟩;obtain⟨i',ei'⟩:=c w lw;obtain⟨z,hz⟩:=vh.mp ((Qn k).mpr ei');exact⟨z,(plc z _).mpr ⟨i',hz⟩⟩
 . rw[Array.toList_filterMap]
   have:=Y5.filterMap (es[·]?);rw[filterMap_getElem?_range] at this;exact this
 . exact hsz
def Y6:∀n,n<32->Msk (sizeAbove (grown n)-1)/\n<=sizeAbove (grown n)-1/\n+1<=sizeAbove (grown n)-1/\¬(n*5 >= (sizeAbove (grown n)-1)*3)/\sizeAbove (grown n)<=128:=by unfold Msk;decide+kernel
def al1:∀n,n<64->Msk (sizeAbove (n*2)-1)/\n<=sizeAbove (n*2)-1/\¬(n*5 >= (sizeAbove (n*2)-1)*3)/\sizeAbove (n*2)<=128:=by unfold Msk;decide+kernel
section
variable{prog:Program}{w:World}{K:Type}[DecidableEq K]{knd:KeyKind prog w K}{A:Around}{E:Y1}{s:Shared}
def afm(n:Nat)(h:carriedByValue v=true):ofAClassStatement n v=pure false:=by cases v<;>first|(simp[carriedByValue] at h;done)|(unfold ofAClassStatement;rfl)
def V5(hk:IsTupleKey knd s.heap ks a)(h:Q false s):wpAny (model prog w) A (ofAClassStatement 8 (.ref a)) Q E s:=by
 have hT:=hk.typeIs;obtain⟨o,items,n,ho,_,hd,hi⟩:=hk;unfold ofAClassStatement;refine aa (qg hT ?_);show wpAny _ _ (if("tuple"=="tuple")=true then _ else _) _ _ s;rw[cg (by decide)];refine aa (aj ?_);simp only[qp,cz,jh];refine aa (o6 ho hd ?_);refine aa ?_;show wpAny _ _ (forIn items _ _) _ _ s;rw[<- Array.forIn_toList];refine uy _ (λrest r s'=>r.1=none/\s'=s/\∀v∈rest,carriedByValue v=true) _ ?_ ?_ _ _ ⟨rfl,rfl,hi.byValue⟩
 . rintro v rest r s' ⟨hr,rfl,Dy⟩
   rw[afm _ (Dy v dg)];refine aa (aj ?_);simp only[cz,jh];exact aj ⟨rfl,rfl,λu hu'=>Dy u (bh _ hu')⟩
 . rintro⟨r1,r2⟩ s' ⟨hr,rfl,_⟩
   simp only at hr;subst hr;exact aj h
def al2(hk:IsTupleKey knd s.heap ks a)(hs:∀v∈st,∃ks b,v=.ref b/\IsTupleKey knd s.heap ks b)(h:Q false s) :
 wpAny (model prog w) A (searchCouldBeSeen (.ref a) st) Q E s:=by
 unfold searchCouldBeSeen;refine aa ?_;refine uy _ (λrest r s'=>r.1=none/\s'=s/\∀v∈rest,∃ks b,v=.ref b/\IsTupleKey knd s.heap ks b) _ ?_ ?_ _ _ ⟨rfl,rfl,hs⟩
 . rintro v rest r s' ⟨hr,rfl,Dy⟩
   obtain⟨ks',b,rfl,hb⟩:=Dy v dg;have aws:∀v∈rest,∃ks b,v=.ref b/\IsTupleKey knd s'.heap ks b:=λv hv=>Dy v (bh _ hv)
   dsimp only;split
   . exact aj ⟨rfl,rfl,aws⟩
   . refine aa (wpAny_eqIsQuiet_tuple hk ?_)
     simp only[qp,cz,jh];refine aa (wpAny_eqIsQuiet_tuple hb ?_);simp only[qp,cz,jh];refine aa (V5 hk ?_);simp only[cz,jh];refine aa (V5 hb ?_);simp only[cz,jh];exact aj ⟨rfl,rfl,aws⟩
 . rintro⟨r1,r2⟩ s' ⟨hr,rfl,_⟩
   simp only at hr;subst hr;exact aj h
noncomputable def ent(knd:KeyKind prog w K)(x:List K×Addr):Int×Value:=(tupleKeyHash knd x.1,.ref x.2)
def afn{es:Array (Int×Value)}{xs:List (List K×Addr)}(he:es.toList=xs.map (ent knd))(j:Nat):es[j]?=(xs[j]?).map (ent knd):=by rw[<- p7,he,jd]
def aji{xs:List (List K×Addr)}(hu:A.units<cLine)(hk:IsTupleKey knd s.heap k p)(ho:s.heap.get? a=some o)(hd:o.data=.set es ep t)(T:Y0 t es)(he:es.toList=xs.map (ent knd))(hx:∀x∈xs,IsTupleKey knd s.heap x.1 x.2)(hn:(xs.map (·.1)).Nodup)(F:Fst t (tupleKeyHash knd k) N)(Yg:∀(i:Nat) x,xs[i]?=some x->x.1=k->Q (.there (if adding then none else some i)) s)(ax2:(∀x∈xs,x.1≠k)->Q (.free (P t.mask (tupleKeyHash knd k) N).j false) s) :
 ∀(fuel n:Nat)(st:Option Probe),n<=N->N-n<fuel->st.getD (t.probeStart (tupleKeyHash knd k))=P t.mask (tupleKeyHash knd k) n ->
  (∀m,m<n->∀(i:Nat) x,t.place[i]?=some (P t.mask (tupleKeyHash knd k) m).j->xs[i]?=some x->x.1≠k) ->
  wpAny (model prog w) A (setSearchFrom a (.ref p) (tupleKeyHash knd k) adding fuel st) Q E s:=by
 intro fuel
 induction fuel with
 |zero=>intro n st _ l;omega
 |succ fuel ih =>
  intro n st hnN l Vn a4o;unfold setSearchFrom;refine aa (jo ho hd T.fits ?_);dsimp only;rw[T.way,Vn];simp only[cz,jh];have key:=alx T F (λi=>(es[i]?.map (·.1)).getD 0) (10*turns t.mask) n hnN (by have:=F.lt;exact c_ C_ this);generalize hpr:t.probe _ (tupleKeyHash knd k) (P t.mask (tupleKeyHash knd k) n)=pr;have hpr:t.probe (λi=>(es[i]?.map (·.1)).getD 0) (tupleKeyHash knd k) (P t.mask (tupleKeyHash knd k) n)=pr:=hpr;have atI:∀(i j:Nat),t.place[i]?=some j->∃x,xs[i]?=some x/\es[i]?=some (ent knd x):=λi j e=>by
   have li:i<es.size:=by rw[<- T.Y4];exact(jf.mp e).1
   have lx:i<xs.length:=by have:=qj List.length he;simp at this;exact b_ li (f_ this)
   refine⟨xs[i],by simp[lx],?_⟩;rw[afn he];simp[lx]
  rcases key with⟨e,Y7⟩|⟨m,i,h1,h2,h3,h4,h5,e⟩
  . have e:pr=_:=hpr.symm.trans e
    subst e;dsimp only;refine aj (ax2 λx hxm hxk=>?_);obtain⟨i,hi⟩:=vh.mp hxm;have hei:es[i]?=some (ent knd x):=by rw[afn he,hi];rfl
    obtain⟨m,lm,hp⟩:=T.ahead F hei (by unfold ent;rw[hxk])
    by_cases hmn:m<n
    . exact a4o m hmn i x hp hi hxk
    . refine Y7 m (s_ hmn) lm i hp ?_
      rw[hei];show tupleKeyHash knd x.1=_;rw[hxk]
  . have e:pr=_:=hpr.symm.trans e
    subst e;dsimp only;obtain⟨x,hxi,hei⟩:=atI i _ h3;have hkx:=hx x (au hxi);have seen:∀{R:Bool->Shared->Prop},R false s->wpAny (model prog w) A (searchCouldBeSeen (.ref p) ((es.filter (·.1==tupleKeyHash knd k)).toList.map (·.2))) R E s:=λhR=>al2 hk (λv hv=>by
     obtain⟨y,hy,rfl⟩:=bu.mp hv;have hy':y∈es.toList:=by simp at hy;simpa using hy.1
     rw[he] at hy';obtain⟨z,hz,rfl⟩:=bu.mp hy';exact⟨z.1,z.2,rfl,hx z hz⟩) hR
    rcases Bool.eq_false_or_eq_true t.led with a4p|a4p
    all_goals
     simp only[a4p,qp,yr,cz,jh,ju]
     first
     |(rw[hei];show wpAny _ _ (holding [.ref x.2] (eqBool (.ref x.2) (.ref p)) >>= _) _ _ _)
     |(refine aa (seen ?_);simp only[cz,jh];rw[hei];show wpAny _ _ (holding [.ref x.2] (eqBool (.ref x.2) (.ref p)) >>= _) _ _ _)
     refine aa (jm (wpAny_eqBool_tuple hu hkx hk ?_));refine aa (jo ho hd T.fits ?_);dsimp only;have hsm:t.sameMemory t.moves t.mask=some true:=by unfold sameMemory;simp
     rw[hsm];dsimp only;rw[cg rfl,(Te T.srt).mpr h3];dsimp only;rw[hei]
     by_cases hxk:x.1=k
     . have hd1:decide (x.1=k)=true:=by simp[hxk]
       rw[hd1];have hq:=Yg i x hxi hxk;cases adding
       . simp only[Bool.false_and,cz,jh]
         refine aa (wpAny_isSame_ref_self ?_);refine aa (aj ?_);simpa using aj hq
       . simp only[Bool.and_self,ju]
         exact aj hq
     . have hd1:decide (x.1=k)=false:=by simp[hxk]
       rw[hd1];simp only[Bool.and_false,cz,jh];refine aa (wpAny_isSame_ref_self ?_);refine aa (aj ?_);simp only[ju];refine ih (m+1) _ h2 (by lia) rfl λm' hm' i' x' hp' arx=>?_
       by_cases hc:m'<n
       . exact a4o m' hc i' x' hp' arx
       . by_cases hm:m'=m
         . subst hm
           have ei:i'=i:=by rw[<- below_at T.srt hp',<- below_at T.srt h3]
           subst ei;rw[hxi] at arx;cases arx;exact hxk
         . intro bbw
           have bbx:es[i']?=some (ent knd x'):=by rw[afn he,arx];rfl
           refine h5 m' (s_ hc) (by lia) i' hp' ?_;rw[bbx];show tupleKeyHash knd x'.1=_;rw[bbw]
end
section
variable{prog:Program}{w:World}{K:Type}[DecidableEq K]{knd:KeyKind prog w K}{pk:List K×Addr->Prop}{A:Around}{E:Y1}{s:Shared}
noncomputable abbrev bt(w:World):Bool:=w.params.followText "set-order"
def Vo(h:Q (bt w) s):wpAny (model prog w) A setsByText Q E s:=by unfold setsByText;exact aa (wpAny_askSetting (aj h))
def Th(knd:KeyKind prog w K)(pk:List K×Addr->Prop):Prop:=∀x,pk x->∀k∈x.1,∀v n,knd.is k v=true->hashByValue n v=pure true
theorem Uj:∀{ks:List K}{vs:Zl},ItemsAre knd ks vs->(∀k∈ks,∀v n,knd.is k v=true->hashByValue n v=pure true)->∀v∈vs,∀n,hashByValue n v=pure true
 |_,_,.nil,_,v,h=>by simp at h
 |_,_,.cons h t,hp,v,hv=>by
  rcases bw.mp hv with rfl|hv
  . exact λn=>hp _ dg _ n h
  . exact Uj t (λk hk=>hp k (bh _ hk)) v hv
def afo(hpk:Th knd pk)(hk:IsTupleKey knd s.heap ks a)(hp:pk (ks,a))(h:Q true s):wpAny (model prog w) A (hashByValue 8 (.ref a)) Q E s:=by
 have hT:=hk.typeIs;obtain⟨o,items,n,ho,_,hd,hi⟩:=hk;unfold hashByValue;refine aa (wpAny_specialOf hT F.slot_tuple_hash.lookup ?_);dsimp only;refine aa (o6 ho hd ?_);refine aa ?_;show wpAny _ _ (forIn items _ _) _ _ s;rw[<- Array.forIn_toList];refine uy _ (λrest r s'=>r.1=none/\s'=s/\∀v∈rest,∀n,hashByValue n v=pure true) _ ?_ ?_ _ _ ⟨rfl,rfl,Uj hi (hpk _ hp)⟩
 . rintro v rest r s' ⟨hr,rfl,Dy⟩
   rw[Dy v dg];refine aa (aj ?_);simp only[qp,cz,jh];exact aj ⟨rfl,rfl,λu hu'=>Dy u (bh _ hu')⟩
 . rintro⟨r1,r2⟩ s' ⟨hr,rfl,_⟩
   simp only at hr;subst hr;exact aj h
structure Ti(knd:KeyKind prog w K)(pk:List K×Addr->Prop)(h:Heap)(a:Addr)(xs:List (List K×Addr))(o:Obj)(es:Array (Int×Value))(ep:Nat)(t:SetTable):Prop where
 get:h.get? a=some o
 exa:o.ExactSet
 dat:o.data=.set es ep t
 tab:Y0 t es
 ent:es.toList=xs.map (ent knd)
 keys:∀x∈xs,IsTupleKey knd h x.1 x.2/\pk x
 nod:(xs.map (·.1)).Nodup
 led:t.led=!bt w
 pla:t.plain=true
def Di(knd:KeyKind prog w K)(pk:List K×Addr->Prop)(h:Heap)(a:Addr)(S:List K->Prop)(n:Nat):Prop:=∃xs o es ep t,Ti knd pk h a xs o es ep t/\(∀k,S k↔k∈xs.map (·.1))/\xs.length=n/\t.place.size*5<t.mask*3
theorem Ti.size(X:Ti knd pk h a xs o es ep t):es.size=xs.length:=by have:=qj List.length X.ent;simpa using this
def al3(p:Addr)(es:Array (Int×Value)):byScan (.ref p) es=false:=by unfold byScan;simp[Value.scannable]
def al4(h:Msk m):10*turns m<100000:=by rcases h with rfl|rfl|rfl|rfl|rfl<;>decide
def V6(hu:A.units<cLine)(hk:IsTupleKey knd s.heap k p)(X:Ti knd pk s.heap a xs o es ep t)(F:Fst t (tupleKeyHash knd k) N)(Yg:∀(i:Nat) x,xs[i]?=some x->x.1=k->Q (.there (if adding then none else some i)) s)(ax2:(∀x∈xs,x.1≠k)->Q (.free (P t.mask (tupleKeyHash knd k) N).j false) s) :
 wpAny (model prog w) A (setSearch a (.ref p) (tupleKeyHash knd k) adding) Q E s:=by
 unfold setSearch;exact aji hu hk X.get X.dat X.tab X.ent (λx hx=>(X.keys x hx).1) X.nod F Yg ax2 100000 0 none (my _) (by have:=F.lt;have:=al4 X.tab.msk;lia) (aca _ _) (λm l=>by lia)
def ar0(hu:A.units<cLine)(hk:IsTupleKey knd s.heap k p)(hS:Di knd pk s.heap a S n)(h:∀r:Option Nat,(r.isSome=true↔S k)->Q r s):wpAny (model prog w) A (setFind a (.ref p) (tupleKeyHash knd k)) Q E s:=by
 obtain⟨xs,o,es,ep,t,X,hm,_,_⟩:=hS;obtain⟨N,F⟩:=X.tab.fst (tupleKeyHash knd k);unfold setFind setFindIn;refine aa (jo X.get X.dat X.tab.fits ?_);dsimp only;rw[al3];simp only[cz,jh];refine aa (V6 hu hk X F (λi x hi hx=>?_) (λY7=>?_))
 . simp only[cz,jh]
   exact aj (h _ (by simp;exact(hm k).mpr (bu.mpr ⟨x,au hi,hx⟩)))
 . dsimp only
   refine aj (h _ ?_);simp only[Option.isSome_none,cz,false_iff];intro hs;obtain⟨x,hx,e⟩:=bu.mp ((hm k).mp hs);exact Y7 x hx e
end
def Dz{α β:Type}{f:α->β}:∀{l l':List β},l.Perm l'->∀{xs:List α},l'=xs.map f->∃xs':List α,l=xs'.map f/\xs'.Perm xs:=by
 intro l l' p
 induction p with
 |nil=>intro xs e;cases xs with
  |nil=>exact⟨[],rfl,.nil⟩|cons _ _=>cases e
 |cons a p ih =>
  intro xs e;cases xs with
  |nil=>cases e
  |cons x xs =>
   simp only[ig,List.cons.injEq] at e;obtain⟨xs',e1,p1⟩:=ih e.2;exact⟨x::xs',by simp[e1,e.1],p1.cons x⟩
 |swap a b l =>
  intro xs e
  match xs,e with
  |x::y::xs,e =>
   simp only[ig,List.cons.injEq] at e;obtain⟨rfl,rfl,rfl⟩:=e;exact⟨y::x::xs,rfl,.swap x y xs⟩
 |trans p q ih1 ih2 =>
  intro xs e;obtain⟨ys,e1,p1⟩:=ih2 e;obtain⟨zs,e2,p2⟩:=ih1 e1;exact⟨zs,e2,p2.trans p1⟩
section
variable{prog:Program}{w:World}{K:Type}[DecidableEq K]{knd:KeyKind prog w K}{pk:List K×Addr->Prop}{A:Around}{E:Y1}{s:Shared}
def al5(x:IsTupleKey knd h ks p)(ho:h.get? a=some o)(hd:o.data=.set es ep t)(hs:Heap.SameBut a h h'):IsTupleKey knd h' ks p:=by
 obtain⟨o',items,n,ho',hc,hd',hi⟩:=x;have X8:p≠a:=by rintro rfl;obtain rfl:o'=o:=jq (ho'.symm.trans ho);rw[hd] at hd';exact nomatch hd'
 exact⟨o',items,n,(hs.2 p X8).trans ho',hc,hd',hi⟩
def newX(X:Ti knd pk h a xs o es ep t)(T':Y0 t' es')(he:es'.toList=xs'.map (ent knd))(hk:∀x∈xs',IsTupleKey knd h x.1 x.2/\pk x)(hn:(xs'.map (·.1)).Nodup)(hl:t'.led=!bt w)(hp:t'.plain=true) :
 Ti knd pk (h.update a (Obj.putSet es' t')) a xs' { o with data:=.set es' (ep+1) t' } es' (ep+1) t':=by
 have hg:(h.update a (Obj.putSet es' t')).get? a=some { o with data:=.set es' (ep+1) t' }:=by have:=mz (Obj.putSet es' t') X.get (by rw[putSet_of es' t' X.dat];rfl);rw[putSet_of es' t' X.dat] at this;exact this
 exact⟨hg,X.exa,rfl,T',he,λx hx=>⟨al5 (hk x hx).1 X.get X.dat (jy h a _),(hk x hx).2⟩,hn,hl,hp⟩
def Kp(h:n<=128):n<=sizeLine:=by rw[qm];exact a_ h (by decide)
def ace(X:Ti knd pk s.heap a xs o es ep t)(hm:Msk (sizeAbove wanted-1))(hz:es.size<=sizeAbove wanted-1)(hb:sizeAbove wanted<=128)(h:∀h' xs' o' es' ep' t',Heap.SameBut a s.heap h'->Ti knd pk h' a xs' o' es' ep' t'->xs'.Perm xs->t'.mask=sizeAbove wanted-1->t'.place.size=es.size->Q () { s with heap:=h' }) :
 wpAny (model prog w) A (setRelay a wanted) Q E s:=by
 obtain⟨t',order,e,e1,T',p,sz,hl,hp,_⟩:=ahd hm t.finger (t.movedTo (sizeAbove wanted-1)) t.led t.plain es hz;unfold setRelay;refine aa (jo X.get X.dat X.tab.fits ?_);dsimp only;rw[bx (by have:=Kp hb;exact j_ this)];have er:t.relaid (es.map (·.1)) wanted=some (t',order):=e;rw[er];refine aa ?_;have hif:wpAny (model prog w) A (if((order.filterMap (es[·]?)).size != es.size)=true then(do unsupported "internal:set-table-lost-an-element";pure (order.filterMap (es[·]?),t')) else pure (order.filterMap (es[·]?),t'))
  (λr s'=>wpAny (model prog w) A (storeSet a r.1 r.2) Q E s') E s:=by
  rw[bx (by simp[sz])];refine aj ?_;obtain⟨xs',ex,px⟩:=Dz p X.ent;have hX:=newX X T' ex (λx hx=>X.keys x (px.mem_iff.mp hx)) ((px.map _).nodup_iff.mpr X.nod) (hl.trans X.led) (hp.trans X.pla);refine wpAny_storeSet_of X.get X.dat (h _ _ _ _ _ _ (jy s.heap a _) hX px e1 (by rw[T'.Y4,sz])) (Kp (by rw[sz];exact a_ hz (a_ C_ hb)))
 exact hif
def aag(hpk:Th knd pk)(hu:A.units<cLine)(hk:IsTupleKey knd s.heap k p)(hp:pk (k,p))(hS:Di knd pk s.heap a S n)(hn:n+1<32)(h:∀h' n' b,Heap.SameBut a s.heap h'->Di knd pk h' a (λk'=>S k'\/k'=k) n'->n'<=n+1->Q b { s with heap:=h' }) :
 wpAny (model prog w) A (setAddHashed a (.ref p) (tupleKeyHash knd k)) Q E s:=by
 obtain⟨xs,o,es,ep,t,X,hm,hl,nf⟩:=hS;obtain⟨N,F⟩:=X.tab.fst (tupleKeyHash knd k);have hsz:=X.size;unfold setAddHashed setAddHashedIn;refine jm (aa (jo X.get X.dat X.tab.fits ?_));dsimp only;rw[al3];simp only[cz,jh];refine aa (V6 hu hk X F (λi x hi hx=>?_) (λY7=>?_))
 . dsimp only
   refine aj ?_;have hSk:S k:=(hm k).mpr (bu.mpr ⟨x,au hi,hx⟩);have:=h s.heap n false (Heap.SameBut.refl a s.heap) ⟨xs,o,es,ep,t,X,λk'=>by
    rw[<- hm k'];exact⟨λh=>h.elim id (λe=>e▸hSk),.inl⟩,hl,nf⟩ x_
   exact this
 . dsimp only
   refine aa (jo X.get X.dat X.tab.fits ?_);dsimp only;have room:t.place.size+1<=t.mask:=by have:=X.tab.msk;rcases this with e|e|e|e|e<;>lia
   have T':=X.tab.put (x:=.ref p) F room;have Jg:(t.put (P t.mask (tupleKeyHash knd k) N).j).1.plain=true:=X.pla;rw[Jg];simp only[ju];refine aa (afo hpk hk hp ?_);simp only[ju];obtain⟨xs',ex,px⟩:=Dz (f:=ent knd) (insertAt_perm es (t.put (P t.mask (tupleKeyHash knd k) N).j).2 (tupleKeyHash knd k,.ref p)) (xs:=xs++[(k,p)]) (by rw[Array.toList_push,X.ent,qu];rfl);have pm:=px.map (·.1);have hnd:(xs'.map (·.1)).Nodup:=pm.nodup_iff.mpr (by
    rw[qu,yh];refine⟨X.nod,by simp,λa ha b hb=>?_⟩;simp at hb;subst hb;rintro rfl;obtain⟨x,hx,e⟩:=bu.mp ha;exact Y7 x hx e)
   have V7:∀x∈xs',IsTupleKey knd s.heap x.1 x.2/\pk x:=λx hx=>by
    rcases dj.mp (px.mem_iff.mp hx) with hx|hx
    . exact X.keys x hx
    . simp at hx;subst hx;exact⟨hk,hp⟩
   have hX:=newX X T' ex V7 hnd X.led X.pla;have Ji:∀k',(S k'\/k'=k)↔k'∈xs'.map (·.1):=λk'=>by rw[pm.mem_iff,qu,dj,hm k'];simp
   have hlen:xs'.length=n+1:=by rw[px.length_eq];simp[hl]
   have hes:(insertAt es (t.put (P t.mask (tupleKeyHash knd k) N).j).2 (tupleKeyHash knd k,.ref p)).size=es.size+1:=Nq _ _ _;refine aa (wpAny_storeSet_of X.get X.dat ?_ (Kp (by rw[hes];exact e_ (c_ (v_ (f_ hsz)) (c_ (v_ (f_ hl)) (b_ hn (by decide)))))));have al6:(t.put (P t.mask (tupleKeyHash knd k) N).j).1.place.size=es.size+1:=by rw[T'.Y4,hes]
   by_cases htf:(t.put (P t.mask (tupleKeyHash knd k) N).j).1.tooFull=true
   . rw[htf]
     simp only[yr,Bool.and_self,ju];obtain⟨g1,g2,g3,g4,g5⟩:=Y6 (es.size+1) (c_ (v_ (f_ hsz)) (c_ (v_ (f_ hl)) hn));refine aa (ace hX g1 (by rw[hes];exact g2) g5 λh' xs2 o2 es2 ep2 t2 sb X2 p2 em ps=>?_);refine aj (h h' (n+1) true ((jy s.heap a _).trans sb) ⟨xs2,o2,es2,ep2,t2,X2,λk'=>?_,by rw[p2.length_eq,hlen],?_⟩ (bc _))
     . exact(Ji k').trans (p2.map (·.1)).mem_iff.symm
     . rw[ps,em,hes];exact t_ g4
   . rw[Bool.not_eq_true] at htf
     rw[htf];simp only[Bool.and_false,cz,jh];refine aj (h _ (n+1) true (jy s.heap a _) ⟨xs',_,_,_,_,hX,Ji,hlen,?_⟩ (bc _));unfold tooFull at htf;have hf:(t.put (P t.mask (tupleKeyHash knd k) N).j).1.fill=es.size+1:=by unfold fill;rw[al6,T'.dum];rfl
     rw[hf] at htf;rw[al6];simp at htf;exact htf
end
open PySem
def upto(J:Nat->β->Shared->Prop)(turn:∀i b z,i<n->J i b z->wpAny M A (f i b) (λr z'=>match r with|.yield b'=>J (i+1) b' z'|.done b'=>Q b' z') E z)(fin:∀b z,J n b z->Q b z)(start:J 0 b s) :
 wpAny M A (forIn [:n] b f) Q E s:=by
 have go:∀(k i:Nat)(b:β)(z:Shared),n=i+k->J i b z->wpAny M A (forIn (List.range' i k) b f) Q E z:=by
  intro k
  induction k with
  |zero=>intro i b z e hj;subst e;exact aj (fin b z hj)
  |succ k ih =>
   intro i b z e hj;show wpAny M A (forIn (i::List.range' (i+1) k) b f) Q E z;rw[List.forIn_cons];refine aa (mj (turn i b z (by lia) hj) (λr z' hr=>?_) λ_ _ x=>x)
   match r,hr with
   |.done b',hr=>exact aj hr|.yield b',hr=>exact ih (i+1) b' z' (by lia) hr
 have e:(forIn [:n] b f:Sem β)=forIn (List.range' 0 n) b f:=by rw[Std.Legacy.Range.forIn_eq_forIn_range'];simp[Std.Legacy.Range.size]
 rw[e];exact go n 0 b s (by lia) start
def sub_dict_set:isSubtype (.type "dict") (.type "set")=pure false:=by rw[isSubtype_type];kernel_rfl
def sub_dict_frozenset:isSubtype (.type "dict") (.type "frozenset")=pure false:=by rw[isSubtype_type];kernel_rfl
section
variable{prog:Program}{w:World}{K:Type}[DecidableEq K]{knd:KeyKind prog w K}{pk:List K×Addr->Prop}{A:Around}{E:Y1}{s:Shared}
def Hg(hT:s.TypeIs v T)(h1:isSubtype (.type T) (.type "set")=pure false)(h2:isSubtype (.type T) (.type "frozenset")=pure false)(h:Q false s) :
 wpAny (model prog w) A (Builtin.Frozenset.isAnySet v) Q E s:=by
 unfold Builtin.Frozenset.isAnySet;refine aa (o8 hT h1 ?_);exact o8 hT h2 h
def bb0(hT:s.TypeIs v "set")(h:Q true s):wpAny (model prog w) A (Builtin.Frozenset.isAnySet v) Q E s:=by unfold Builtin.Frozenset.isAnySet;refine aa (o8 hT sub_set_self ?_);exact aj h
noncomputable def Av(w:World):Obj:={ cls:=.type "set",dict:=none,data:=.set #[] 0 (.fresh 0 0 (!bt w)) }
def ar5(hg:h.get? a=some (Av w)):Di knd pk h a (λ_=>False) 0 :=
 ⟨[],Av w,#[],0,_,⟨hg,⟨rfl,rfl,rfl⟩,rfl,⟨.inl rfl,rfl,rfl,λi j a b e=>by simp[SetTable.fresh] at e,λi j e=>by simp[SetTable.fresh] at e,by simp[SetTable.fresh],λi j e a=>by simp[SetTable.fresh] at a⟩,
  rfl,λx hx=>by simp at hx,xf,rfl,rfl⟩,λk=>by simp,rfl,by simp[SetTable.fresh]⟩
set_option tactic.hygienic true in
def ar6(hS:Di knd pk s.heap a S n)(hl:n+m<64)(h:∀h',Heap.SameBut a s.heap h'->Di knd pk h' a S n->Q () { s with heap:=h' }):wpAny (model prog w) A (setRoomFor a m) Q E s:=by
 obtain⟨xs,o,es,ep,t,X,hm,hn,nf⟩:=hS;have hsz:=X.size;unfold setRoomFor;refine aa (jo X.get X.dat X.tab.fits ?_);dsimp only;unfold roomFor;have hps:=X.tab.Y4;split
 . rename_i wanted e
   split at e
   . cases e
     obtain⟨g1,g2,g3,g4⟩:=al1 (t.place.size+m) (c_ (v_ (f_ hps)) (c_ (v_ (f_ hsz)) (c_ (v_ (f_ hn)) hl)));refine ace X g1 (by lia) g4 λh' xs2 o2 es2 ep2 t2 sb X2 p2 em ps=>h h' sb ⟨xs2,o2,es2,ep2,t2,X2,λk'=>?_,by rw[p2.length_eq,hn],?_⟩
     . exact(hm k').trans (p2.map (·.1)).mem_iff.symm
     . rw[ps,em];lia
   . cases e
 . exact aj (h s.heap (Heap.SameBut.refl _ _) ⟨xs,o,es,ep,t,X,hm,hn,nf⟩)
theorem Di.get(hS:Di knd pk h a S n):∃o es ep t,h.get? a=some o/\o.ExactSet/\o.data=.set es ep t/\t.fits es.size=true :=
 let ⟨_,o,es,ep,t,X,_⟩:=hS;⟨o,es,ep,t,X.get,X.exa,X.dat,X.tab.fits⟩
def Di.typeIs(hS:Di knd pk s.heap a S n):s.TypeIs (.ref a) "set" :=
 let ⟨o,_,_,_,ho,hc,_⟩:=hS.get;⟨o,ho,hc.1⟩
def Di.congr(hS:Di knd pk h a S n)(e:∀k,S k↔S' k):Di knd pk h a S' n :=
 let ⟨xs,o,es,ep,t,X,hm,r⟩:=hS;⟨xs,o,es,ep,t,X,λk=>(e k).symm.trans (hm k),r⟩
def al7(hpk:Th knd pk){id:String}(hu:A.units<cLine)(hS:Di knd pk s.heap a S n)(hd:s.heap.DictOfH (tupleKind knd) d xs)(hds:(d==sysModules)=false)(hpx:∀x∈xs,pk (x.1,x.2.1))(hl:n+xs.length<31)(h:∀h' n',Heap.SameBut a s.heap h'->Di knd pk h' a (λk=>S k\/k∈xs.map (·.1)) n'->Q () { s with heap:=h' }) :
 wpAny (model prog w) A (Builtin.Frozenset.updateFrom id a (.ref d)) Q E s:=by
 have hT:=hd.typeIs;obtain⟨od,esd,epd,hod,hcd,hdd,hed,hxd,hnd⟩:=hd;obtain⟨o0,es0,ep0,t0,hg0,hc0,hd0,hf0⟩:=hS.get;have X8:d≠a:=by rintro rfl;rw[hod] at hg0;cases hg0;rw[hdd] at hd0;cases hd0
 have hlen:esd.size=xs.length:=size_of_entries hed;unfold Builtin.Frozenset.updateFrom;refine aa (Hg hT sub_dict_set sub_dict_frozenset ?_);simp only[cz,jh];refine aa (qg hT ?_);rw[cg (by decide)];refine aa (wpAny_rule ?_);refine aa (m:=Builtin.Frozenset.addrOf (.ref d)) (aj ?_);rw[bx (by rw[hds];decide)];refine aa (wpAny_dictEpoch hod hdd ?_);refine aa (qw hod hdd ?_);refine aa (ar6 hS (by lia) λh1 sb1 hS1=>?_);have bb4:h1.get? d=some od:=(sb1.2 d X8).trans hod;refine aa (qw bb4 hdd ?_);refine aa ?_;refine upto (λi _ z=>∃h' n',z={ s with heap:=h' }/\Di knd pk h' a (λk=>S k\/k∈(xs.take i).map (·.1)) n'/\n'<=n+i/\Heap.SameBut a s.heap h') (λi _ z lt inv=>?_) (λ_ z inv=>?_) ⟨h1,n,rfl,hS1.congr (λk=>by simp),x_,sb1⟩
 . obtain⟨h',n',rfl,V8,Pg,sb'⟩:=inv
   have afq:h'.get? d=some od:=(sb'.2 d X8).trans hod;refine aa (qw afq hdd ?_);have lx:i<xs.length:=b_ lt (f_ hlen)
   have he:esd[i]?=some (entryOfKey (tupleKind knd) xs[i]):=by rw[entry_at hed];simp[lx]
   rw[he];have hkk:IsTupleKey knd h' xs[i].1 xs[i].2.1:=al5 (hxd _ (qz lx)) hg0 hd0 sb';show wpAny _ _ (holding [.ref xs[i].2.1] (setAddHashed a (.ref xs[i].2.1) (tupleKeyHash knd xs[i].1)) >>= _) _ _ _;refine aa (jm (aag (s:={ s with heap:=h' }) hpk hu hkk (hpx _ (qz lx)) V8 (by lia) λh'' n'' b a4t al9 a4u=>?_));refine aa (wpAny_dictEpoch ((a4t.2 d X8).trans afq) hdd ?_);rw[yj];refine aj ⟨h'',n'',rfl,al9.congr (λk=>?_),by lia,sb'.trans a4t⟩;rw[List.take_add_one,qu,dj,show xs[i]?=some xs[i] by simp[lx]];simp[or_assoc]
 . obtain⟨h',n',rfl,V8,Pg,sb'⟩:=inv
   refine aj (h h' n' sb' (V8.congr λk=>?_));rw[ux (g_ hlen)]
end
section
variable{prog:Program}{w:World}{K:Type}[DecidableEq K]{knd:KeyKind prog w K}{pk:List K×Addr->Prop}{A:Around}{E:Y1}{s:Shared}
def ar8(post:R (.ref s.heap.objs.size) { s with heap:=s.heap.push (Av w) }) :
 codeAny (model prog w) A (.call (.builtin "set.__new__") ⟨[.type "set",v],[]⟩) (wants R E) s:=by
 refine codeAny_call_builtin F.plain_set_new F.entry_set_new (wpAny_of_eq (F.newCall_set_1 v) ?_);have sub:=sub_set_self;unfold Builtin.«set.__new__» Builtin.Frozenset.newClass
 wp_walk
 exact wpAny_askSetting (aj (aa (wpAny_alloc (aj (aj post)))))
set_option maxHeartbeats 3200000 in
def Nr{R:Shared->Prop}(hup:wpAny (model prog w) A.in1.in1 (Builtin.Frozenset.updateFrom "set.__init__" s.heap.objs.size x) (λ_ s'=>R s') E { s with heap:=s.heap.push (Av w) })(h:∀s',R s'->Q (.ref s.heap.objs.size) s') :
 wpAny (model prog w) A (call (.type "set") [x]) Q E s:=by
 obtain⟨c,tl,biv⟩:=ug.mro;have bgk:=ug.made;have aah:=ug.sub;refine wpAny_call (codeAny_of_tree ?_);show wpAny _ _ (callAny (.type "set") _) _ _ _;refine aj ⟨Code.quiet_builtin _ (by decide+kernel),m7 F.entry_type_call ?_⟩;rw[Around.under_plain (weight_type_call_type "set" [x] []) rfl];have h1:=ug.notType;have h2:=ug.canCreate;have hct:=F.typeCall_set_1 x
 repeat (any_goals (first|assumption|wp_step))
 refine vo (ar8 (v:=x) (E:=E) (R:=λobj s₁=>obj=.ref s.heap.objs.size/\s₁={ s with heap:=s.heap.push (Av w) }) ⟨rfl,rfl⟩) λr s₁ hr=>?_
 cases r with
 |error e=>exact hr
 |ok fl =>
  cases fl with
  |ret obj =>
   obtain⟨rfl,rfl⟩:=hr;have hS:(s.heap.push (Av w)).get? s.heap.objs.size=some (Av w):=bf _ rfl;have hT:Shared.TypeIs { s with heap:=s.heap.push (Av w) } (.ref s.heap.objs.size) "set" := ⟨_,hS,rfl⟩;have hli:=ug.init.lookup;have hbi:=ug.init.bind (.ref s.heap.objs.size)
   repeat (any_goals (first|assumption|wp_step))
   refine vo (codeAny_call_builtin (R:=wants (λr s₂=>r=.none/\R s₂) E) ug.init.plain F.entry_set_init (check_set_init_1 hT ?_)) λr₂ s₂ hr₂=>?_
   . unfold Builtin.«set.__init__» noKeywords
     generalize hUF:Builtin.Frozenset.updateFrom=UF at hup ⊢;unfold Av at hS hT hup ⊢
     wp_walk
     exact mj hup (λ_ s' hr=>aj ⟨rfl,hr⟩) (λe s' he=>he)
   . cases r₂ with
     |error e=>exact hr₂
     |ok fl₂ =>
      cases fl₂ with
      |ret r =>
       obtain⟨rfl,hq⟩:=hr₂
       repeat (any_goals (first|assumption|wp_step))
       exact h _ hq
      |_=>exact hr₂.elim
  |_=>exact hr.elim
end
open PyProof.Rows (F.entry_set_update_loop F.plain_set_update_loop)
section
variable{prog:Program}{w:World}{K:Type}[DecidableEq K]{knd:KeyKind prog w K}{pk:List K×Addr->Prop}{A:Around}{E:Y1}{s:Shared}
def Tj{wr:X9}(hk:IsTupleKey knd h ks p)(hp:p∉wr)(hm:∀b o,b∉wr->h.get? b=some o->h'.get? b=some o):IsTupleKey knd h' ks p :=
 let ⟨o,items,n,ho,r⟩:=hk;⟨o,items,n,hm p o hp ho,r⟩
def Di.moved{wr:X9}(hS:Di knd pk h a S n)(ha:a∉wr)(hw:∀(b:Addr) (ks:List K),b∈wr->¬IsTupleKey knd h ks b)(hm:∀b o,b∉wr->h.get? b=some o->h'.get? b=some o):Di knd pk h' a S n :=
 let ⟨xs,o,es,ep,t,X,r⟩:=hS
 ⟨xs,o,es,ep,t,⟨hm a o ha X.get,X.exa,X.dat,X.tab,X.ent,λx hx=>⟨Tj (X.keys x hx).1 (λhc=>hw _ _ hc (X.keys x hx).1) hm,(X.keys x hx).2⟩,X.nod,X.led,X.pla⟩,r⟩
def ar9(hpk:Th knd pk){I:Addr}{P:Nat->Value->Prop}(hu:A.in1.units<cLine)(W:WalksS prog w A.in1 I fp wr G n P St)(a:Addr)(haf:a∉fp)(ks:List (List K×Addr))(hkl:ks.length=n)(ax6:∀i v x,P i v->ks[i]?=some x->v=.ref x.2)(hpx:∀x∈ks,pk x)(hb:n<31)(hkw:∀x∈ks,x.2∉wr)(hnk:∀i (s:Shared),St i s->∀(b:Addr) (ks:List K),b∈wr->¬IsTupleKey knd s.heap ks b) :
 ∀(k i n':Nat)(s:Shared),n-i=k->i<=n->St i s->(∀x∈ks,IsTupleKey knd s.heap x.1 x.2) ->
  Di knd pk s.heap a (λk'=>k'∈(ks.take i).map (·.1)) n'->n'<=i ->
  (∀s' n'',Moved (a::wr) G s s'->Di knd pk s'.heap a (λk'=>k'∈ks.map (·.1)) n''->R (.ok (.ret .none)) s') ->
  codeAny (model prog w) A (.builtin "set.update.loop" ⟨[.ref a,.ref I],[]⟩) R s:=by
 have haw:a∉wr:=λh=>haf (W.sub _ h)
 have aah:∀b∈wr,b∈a::wr:=λb hb=>bh _ hb
 intro k
 induction k with
 |zero =>
  intro i n' s hk hi Vn V7 hS Pg hR;have Yg:i=n:=by lia
  subst Yg;refine m7 rz ?_;rw[j0 lq _];show wpAny _ A.in1 (pyNext (.ref I) >>= _) _ _ s;refine aa (W.done s _ _ Vn λs' hm=>?_);show wpAny _ A.in1 (ret Value.none) _ _ s';refine aj (hR s' n' (hm.mono aah) ((hS.moved haw (hnk _ s Vn) hm.heap).congr λk=>?_));rw[ux (f_ hkl)]
 |succ k ih =>
  intro i n' s hk hi Vn V7 hS Pg hR;have Km:i<n:=by lia
  refine m7 rz ?_;rw[j0 lq _];show wpAny _ A.in1 (pyNext (.ref I) >>= _) _ _ s;refine aa (W.item i s _ _ Km Vn λv s' hP ax7 hm=>?_);have lx:i<ks.length:=b_ Km (g_ hkl)
  have hgx:ks[i]?=some ks[i]:=by simp[lx]
  obtain rfl:=ax6 i v _ hP hgx;have hxm:=qz lx;have V8:=hS.moved haw (hnk _ s Vn) hm.heap;have afr:∀x∈ks,IsTupleKey knd s'.heap x.1 x.2:=λx hx=>Tj (V7 x hx) (hkw x hx) hm.heap
  show wpAny _ A.in1 (holding [Value.ref ks[i].2] (setAdd a (.ref ks[i].2)) >>= _) _ _ s';refine aa (jm ?_);unfold setAdd;refine jm ?_;refine aa (wpAny_pyHash_tuple hu (afr _ hxm) ?_);refine aag (s:={ s' with toks:=s'.toks+(ks[i].1.length+1) }) hpk hu (afr _ hxm) (hpx _ hxm) V8 (by lia) λh' n2 b hsb hS2 Yh=>?_
  obtain⟨oa,esa,epa,ta,hga,hca,hda,hfa⟩:=V8.get;refine aj ⟨plainId_quiet lq _,ih (i+1) n2 _ (by lia) Km (W.frame _ s' _ _ ax7 (w6 _ _) λb hb o e=>?_) (λx hx=>al5 (afr x hx) hga hda hsb) (hS2.congr λk=>?_) (a_ Yh (v_ Pg)) λs'' n3 ax9 al9=>?_⟩
  . rw[hsb.2 b (λh:b=a=>haf (by rw[<- h];exact hb))];exact e
  . rw[List.take_add_one,qu,dj,hgx];simp
  . refine hR s'' n3 (Moved.trans W.gtrans ((hm.mono aah).then_heap (w6 _ _) λb o hb e=>?_) ax9) al9
    rw[hsb.2 b (λh:b=a=>hb (by rw[h];exact dg))];exact e
def ama(hpk:Th knd pk){id:String}{ks:List (List K×Addr)}(hh:A.handled=none)(hu:A.in1.units+1<cLine)(hS:Di knd pk s.heap a (λ_=>False) 0)(hl:s.heap.IsList l items)(hit:items.toList=ks.map λx=>.ref x.2)(V7:∀x∈ks,IsTupleKey knd s.heap x.1 x.2)(hpx:∀x∈ks,pk x)(hlen:ks.length<31)(h:∀h' tk n',(∀b o,b≠a->s.heap.get? b=some o->h'.get? b=some o)->Di knd pk h' a (λk=>k∈ks.map (·.1)) n'->Q () { s with heap:=h',toks:=tk }) :
 wpAny (model prog w) A (Builtin.Frozenset.updateFrom id a (.ref l)) Q E s:=by
 have hT:s.TypeIs (.ref l) "list" := let ⟨o,ho,hc,_⟩:=hl;⟨o,ho,hc⟩;have hsz:items.size=ks.length:=by rw[<- t7,hit];simp
 obtain⟨oa,esa,epa,ta,hga,hca,hda,hfa⟩:=hS.get;unfold Builtin.Frozenset.updateFrom;refine aa (Hg hT F.sub_list_set F.sub_list_frozenset ?_);simp only[cz,jh];refine aa (qg hT ?_);rw[bx (by decide)];refine aa (wpAny_pyIter_list hl ?_);refine aa (wpAny_runValue ?_);have Km:l<s.heap.objs.size:=let ⟨o,ho,_⟩:=hl;az ho
 have hat:a<s.heap.objs.size:=az hga
 have hla:l≠a:=by rintro rfl;obtain⟨o,ho,_,n,hd⟩:=hl;rw[ho] at hga;cases hga;rw[hd] at hda;cases hda
 have aya:l≠s.heap.objs.size:=dw Km;have haf:a∉[s.heap.objs.size,l]:=by simp only[bw,rm,Ay,not_or];exact⟨dw hat,λe=>hla e.symm⟩
 have keep:∀b o,s.heap.get? b=some o->(s.heap.push { cls:=.type "list_iterator",data:=.fields #[.ref l,.int 0 0] }).get? b=some o:=λb o e=>ao _ e
 refine ar9 hpk (by lia) ((Walks.list (by simp[hh]) _ l aya items).toS) a haf ks hsz.symm (λi v x hv hx=>?_) hpx (c_ (f_ hsz) hlen) (λx hx hc=>?_) (λi s' st b kk hb hkb=>?_) items.size 0 0 _ rfl (my _)
  ⟨⟨_,bf _ rfl,rfl,rfl⟩,hl.push _⟩ (λx hx=>Tj (wr:=[]) (V7 x hx) (by simp) λb o _ e=>keep b o e) ?_ (bc _) ?_
 . have:items.toList[i]?=some v:=by simpa using hv
   rw[hit,jd,hx] at this;exact(jq this).symm
 . simp at hc
   obtain⟨o,_,_,ho,_⟩:=V7 x hx;have:=az ho;rw[hc] at this;exact mq _ this
 . simp at hb
   subst hb;obtain⟨o,_,_,ho,hc,_⟩:=hkb;obtain⟨⟨o',ho',hc',_⟩,_⟩:=st;rw[ho] at ho';cases ho';rw[hc] at hc';exact absurd hc' (by decide)
 . refine(hS.moved (wr:=[]) (by simp) (by simp) λb o _ e=>keep b o e).congr λk=>by simp
 . intro s' n'' hm V8
   obtain⟨h',g',d',tk',os'⟩:=s';have eg:g'=s.gens:=hm.gens;have ed:d'=s.drawn:=hm.drawn;have eo:os'=s.os:=hm.os;subst eg;subst ed;subst eo;show wpAny _ _ _ _ _ _;refine aj (h h' tk' n'' (λb o hb e=>?_) V8);refine hm.heap b o ?_ (keep b o e);simp only[bw,rm,Ay,not_or];exact⟨hb,dw (az e)⟩
end
theorem V9{α:Type}:∀{l:List α}{i:Nat}(h:i<l.length),(l[i]::l.eraseIdx i).Perm l
 |x::l,0,_=>yt _
 |x::l,i+1,h=>by
  have ih:=V9 (l:=l) (i:=i) (by simpa using h);simp only[List.getElem_cons_succ,List.eraseIdx_cons_succ];exact(List.Perm.swap x _ _).trans (ih.cons x)
theorem ahg{α:Type}(nx:Nat->Nat):∀(fuel k:Nat)(left:List α)(out:Array α),left.length=fuel->(pickOrder.go nx fuel k left out).toList.Perm (out.toList++left)
 |0,k,left,out,h=>by
  have:left=[]:=uq.mp h;subst this;unfold pickOrder.go;simp
 |fuel+1,k,left,out,h=>by
  unfold pickOrder.go;have hq:nx k%left.length<left.length:=Nat.mod_lt _ (by lia)
  rw[dh hq];dsimp only;refine(ahg nx fuel (k+1) _ _ (by rw[List.length_eraseIdx];split<;>lia)).trans ?_;rw[Array.toList_push,Aa];refine List.Perm.append_left _ ?_;exact V9 hq
def Y8(nx:Nat->Nat)(xs:Array α):(pickOrder nx xs).toList.Perm xs.toList:=by unfold pickOrder;simpa using ahg nx xs.size 0 xs.toList #[] (by simp)
theorem Wa{α:Type}[DecidableEq α]:∀{l1 l2:List α},l1.Nodup->l1 ⊆ l2->l2.length<=l1.length->∀x∈l2,x∈l1
 |[],l2,_,_,h,x,hx=>by
  have:l2=[]:=uq.mp (by simpa using h);subst this;simp at hx
 |a::l1,l2,hn,hs,h,x,hx=>by
  by_cases e:x=a
  . subst e;exact dg
  . refine bh _ ?_
    have ha:a∈l2:=hs dg;have Pg:=m9.mp hn;refine Wa (l2:=l2.erase a) Pg.2 (λy hy=>?_) ?_ x ((List.mem_erase_of_ne e).mpr hx)
    . exact(List.mem_erase_of_ne (λ(e:y=a)=>Pg.1 (by rw[<- e];exact hy))).mpr (hs (bh _ hy))
    . rw[List.length_erase_of_mem ha];simp at h;omega
def aai:entryFor table "set.__ne__" = some Builtin.«frozenset.__ne__» :=
 entryFor_alias (id' := "frozenset.__ne__") (by kernel_rfl) rfl (by decide+kernel) (by kernel_rfl)
def sub_set_frozenset:isSubtype (.type "set") (.type "frozenset")=pure false:=by rw[isSubtype_type];kernel_rfl
section
variable{prog:Program}{w:World}{K:Type}[DecidableEq K]{knd:KeyKind prog w K}{pk:List K×Addr->Prop}{A:Around}{E:Y1}{s:Shared}
set_option tactic.hygienic true in
def asd(X:Ti knd pk s.heap a xs o es ep t)(h:∀l,l.toList.Perm es.toList->Q l s):wpAny (model prog w) A (setWalk a) Q E s:=by
 unfold setWalk;refine aa (jo X.get X.dat X.tab.fits ?_);dsimp only;refine aa (Vo ?_);split
 . exact aa (wpAny_askSetting (aj (h _ (Y8 _ _))))
 . rename_i hb
   have hb:bt w=false:=by simpa using hb
   split
   . rename_i hd
     have hd:(!t.plain&&decide (es.size > 1))=true:=hd;rw[X.pla] at hd;cases hd
   . refine aa ?_
     have:wpAny (model prog w) A (if(!t.led&&decide (es.size > 1))=true then unsupported "set:maker-not-led" else pure ()) (λ_ s'=>wpAny (model prog w) A (pure es) Q E s') E s:=by rw[X.led,hb];simp only[yr,qp,Bool.false_and,cz,jh];exact aj (aj (h es (yt _)))
     exact this
def ajm(hk:IsTupleKey knd s.heap ks a)(h:Q false s):wpAny (model prog w) A (Builtin.Frozenset.quietEq (.ref a)) Q E s:=by
 unfold Builtin.Frozenset.quietEq;refine aa (wpAny_specialOf hk.typeIs F.slot_tuple_eq.lookup ?_);refine aj ?_;have:(some (Value.builtin "tuple.__eq__")==some (Value.builtin "object.__eq__"))=false:=by decide
 rw[this];exact h
def aaj(X:Ti knd pk h a xs o es ep t)(he:e∈es.toList):∃x∈xs,e=ent knd x:=by rw[X.ent] at he;obtain⟨x,hx,rfl⟩:=bu.mp he;exact⟨x,hx,rfl⟩
def ajn(X:Ti knd pk s.heap a xs o es ep t)(Y:Ti knd pk s.heap b ys o' es' ep' t')(h:∀l:List (Int×Value),l.Perm es.toList->Q l s):wpAny (model prog w) A (Builtin.Frozenset.walkUnseen a b) Q E s:=by
 unfold Builtin.Frozenset.walkUnseen;refine aa (km X.get X.dat X.tab.fits ?_);refine aa (km Y.get Y.dat Y.tab.fits ?_);refine aa ?_;refine uy _ (λrest r s'=>r.1=none/\s'=s/\∀e∈rest,∃ks p,e.2=.ref p/\IsTupleKey knd s.heap ks p) _ ?_ ?_ _ _ ⟨rfl,rfl,λe he=>?_⟩
 . rintro e rest r s' ⟨hr,rfl,Dy⟩
   obtain⟨ks,p,hep,hk⟩:=Dy e dg;obtain⟨h0,x0⟩:=e;subst hep;dsimp only;refine aa (ajm hk ?_);simp only[yr,ju];unfold Builtin.Frozenset.walk;refine aa (aa (asd X λl hl=>aj ?_));exact aj (aj (h _ hl))
 . rintro⟨r1,r2⟩ s' ⟨hr,rfl,_⟩
   simp only at hr;subst hr;exact aj (h _ (yt _))
 . rcases dj.mp he with he|he
   . obtain⟨x,hx,rfl⟩:=aaj X he
     exact⟨x.1,x.2,rfl,(X.keys x hx).1⟩
   . obtain⟨x,hx,rfl⟩:=aaj Y he
     exact⟨x.1,x.2,rfl,(Y.keys x hx).1⟩
def ayb{id:String}(hu:A.units<cLine)(hS:Di knd pk s.heap a S n)(hT:Di knd pk s.heap b T m)(h:∀c:Bool,(c=true↔n<=m/\∀k,S k->T k)->Q c s):wpAny (model prog w) A (Builtin.Frozenset.subsetOf id a b) Q E s:=by
 have hT':=hT;obtain⟨xs,o,es,ep,t,X,hm,hn,_⟩:=hS;obtain⟨ys,o',es',ep',t',Y,hm',Pg,_⟩:=hT;have h1:=X.size;have h2:=Y.size;unfold Builtin.Frozenset.subsetOf Builtin.Frozenset.sizeOf;refine aa (aa (km X.get X.dat X.tab.fits (aj ?_)));refine aa (aa (km Y.get Y.dat Y.tab.fits (aj ?_)));split
 . exact aj (h false (by simp;lia))
 . refine aa (wpAny_setEpoch_of X.get X.dat X.tab.fits ?_)
   refine aa (ajn X Y λl hl=>?_);refine aa ?_;refine uy _ (λrest r s'=>r.1=none/\s'=s/\(∀e∈rest,∃x∈xs,e=ent knd x)/\∀x∈xs,ent knd x∈rest\/T x.1) _ ?_ ?_ _ _ ⟨rfl,rfl,λe he=>aaj X (hl.mem_iff.mp he),λx hx=>.inl (hl.mem_iff.mpr (by rw[X.ent];exact bu.mpr ⟨x,hx,rfl⟩))⟩
   . rintro e rest r s' ⟨hr,rfl,Dy,amb⟩
     obtain⟨x,hx,rfl⟩:=Dy e dg;show wpAny _ _ (holding [.ref x.2] (setFind b (.ref x.2) (tupleKeyHash knd x.1)) >>= _) _ _ _;refine aa (jm (ar0 hu (X.keys x hx).1 hT' λr hr=>?_));cases r with
     |none =>
      simp only[Option.isNone_none,ju];refine aj (aj (h false ?_));simp only[cz,false_iff,not_and,Classical.not_forall];intro _;refine⟨x.1,(hm x.1).mpr (bu.mpr ⟨x,hx,rfl⟩),λhc=>?_⟩;have:=hr.mpr hc;cases this
     |some i =>
      simp only[Option.isNone_some,cz,jh];unfold Builtin.Frozenset.unchanged;refine aa (aa (wpAny_setEpoch_of X.get X.dat X.tab.fits ?_));rw[bx (by simp)];refine aj (aj ⟨rfl,rfl,λe he=>Dy e (bh _ he),λy hy=>?_⟩);rcases amb y hy with hc|hc
      . rcases bw.mp hc with hc|hc
        . right
          have hTx:T x.1:=hr.mp rfl;have e2:y.2=x.2:=by have:=qj Prod.snd hc;unfold ent at this;injection this
          have:y.1=x.1:=IsTupleKey.inj (X.keys y hy).1 (by rw[e2];exact(X.keys x hx).1);rw[this];exact hTx
        . exact .inl hc
      . exact .inr hc
   . rintro⟨r1,r2⟩ s' ⟨hr,rfl,_,amb⟩
     simp only at hr;subst hr;refine aj (h true ?_);simp only[true_iff];refine⟨by lia,λk hk=>?_⟩;obtain⟨x,hx,rfl⟩:=bu.mp ((hm k).mp hk);rcases amb x hx with hc|hc
     . simp at hc
     . exact hc
set_option tactic.hygienic true in
def a4x(hu:A.in1.units<cLine)(hu0:A.units<cLine)(hS:Di knd pk s.heap a S n)(hT:Di knd pk s.heap b T m)(h:∀c:Bool,(c=true↔¬∀k,S k↔T k)->Q (.bool c) s):wpAny (model prog w) A (compareOp .NotEq (.ref a) (.ref b)) Q E s:=by
 show wpAny _ _ (richCompare .NotEq (.ref a) (.ref b)) _ _ _;refine wpAny_richCompare_same_room (op:=.NotEq) hS.typeIs hT.typeIs F.slot_set_ne (jk F.slot_set_ne hS.typeIs aai ?_ (F.args_set_ne_2 _ _)) hu0;have fin:∀c:Bool,(c=true↔∀k,S k↔T k)->Q (.bool !c) s:=λc hc=>h _ (by cases c<;>simp_all)
 have V8:=hS;have hT':=hT;obtain⟨xs,o,es,ep,t,X,hm,hn,_⟩:=V8;obtain⟨ys,o',es',ep',t',Y,hm',Pg,_⟩:=hT';have h1:=X.size;have h2:=Y.size;have same:(∀k,S k↔T k)->n=m:=λe=>by
  have:(xs.map (·.1)).Perm (ys.map (·.1)):=(List.perm_ext_iff_of_nodup X.nod Y.nod).mpr λk=>by rw[<- hm k,<- hm' k];exact e k
  have:=this.length_eq;simp at this;exact u_ (a_ (g_ hn) (a_ (f_ this) (f_ Pg))) (a_ (g_ Pg) (a_ (g_ this) (f_ hn)))
 have back:n=m->(∀k,S k->T k)->∀k,S k↔T k:=λe hs k=>⟨hs k,λhk=>(hm k).mpr (Wa X.nod (λk hk=>(hm' k).mp (hs k ((hm k).mpr hk))) (by simp;exact a_ (f_ Pg) (a_ (g_ e) (g_ hn))) k ((hm' k).mp hk))⟩
 show wpAny _ _ (Builtin.Frozenset.slot1 "__ne__" ⟨[.ref a,.ref b],[]⟩ >>= _) _ _ _;unfold Builtin.Frozenset.slot1 slotArgs;simp only[List.isEmpty_nil,qp,cz,↓reduceIte,bind_assoc,gr,Be,yj];refine aa (aj ?_)
 try dsimp only
 refine aa (aj ?_)
 try dsimp only
 refine aa (bb0 hT.typeIs ?_);simp only[qp,cz,↓reduceIte];refine aa (m:=Builtin.Frozenset.addrOf (.ref a)) (aj ?_);refine aa (m:=Builtin.Frozenset.addrOf (.ref b)) (aj ?_);unfold Builtin.Frozenset.sizeOf;refine aa (aa (km X.get X.dat X.tab.fits (aj ?_)));refine aa (aa (km Y.get Y.dat Y.tab.fits (aj ?_)));refine aa ?_;split
 . rename_i X8
   refine aj ?_;refine aj ⟨_,rfl,(λe=>nomatch e),fin false ?_⟩;simp only[cz,false_iff];intro e;have:=same e;simp at X8;lia
 . rename_i X8
   have hnm:n=m:=by simp at X8;lia
   refine aa (aa (o8 hS.typeIs sub_set_frozenset ?_));refine aj ?_;simp only[cz,↓reduceIte];refine ayb hu hS hT λc hc=>?_
   exact aj ⟨_,rfl,(λe=>nomatch e),fin c (hc.trans ⟨λe=>back hnm e.2,λe=>⟨f_ hnm,λk=>(e k).mp⟩⟩)⟩
end
def ahh{prog:Program}{w:World}{A:Around}{α:Type}{Q:α->Shared->Prop}{E:Y1}{s:Shared}(hd:A.handled=none)(q:∀h' x,(∀b o,s.heap.get? b=some o->h'.get? b=some o)->(∃o,h'.get? x=some o/\o.cls=.type "StopIteration")->E (.ref x) { s with heap:=h' }):wpAny (model prog w) A (newExc (.type "StopIteration") [] >>= raiseNew) Q E s:=by simp only[newExc,newTuple];refine aa (aa (jw (aa (m:=firstArgMember _ _) (wpAny_of_eq (a:=Value.none) (by first|rfl|(simp only[firstArgMember];rfl)) (jw ?_ (by size_fits)))) (by size_fits)));simp only[raiseNew];refine aa (wpAny_handled ?_);rw[hd];exact aa (aj (wpAny_throw (q _ _ (λb o e=>ao _ (ao _ e)) ⟨_,bf _ rfl,rfl⟩)))
def ase(k:Y0 t es)(F:Fst t h N)(room:t.place.size+1<=t.mask) :
 layNew t es h x=(insertAt es (t.put (P t.mask h N).j).2 (h,x),(t.put (P t.mask h N).j).1,false,false):=by
 have e:t.freeSlot h=some ((P t.mask h N).j,false):=by
  unfold freeSlot probe;rw[aca];rcases alx k F (λ_=>h+1) (10*turns t.mask) 0 (my _) (by have:=F.lt;exact c_ C_ this) with⟨a,_⟩|⟨m,i,_,_,_,c,_⟩
  . rw[a];rfl
  . lia
 have f:=(k.put (x:=x) F room).fits;unfold layNew;rw[e];show(insertAt es (t.put (P t.mask h N).j).2 (h,x),(t.put (P t.mask h N).j).1.orStandIn (insertAt es (t.put (P t.mask h N).j).2 (h,x)).size,false,!(t.put (P t.mask h N).j).1.fits (insertAt es (t.put (P t.mask h N).j).2 (h,x)).size)=_;unfold orStandIn;rw[cg f,f];rfl
def ajo(hm:Msk (sizeAbove wanted-1))(hz:es.size<=sizeAbove wanted-1) :
 ∃es' t',relayAll t es wanted=(es',t',false)/\t'.mask=sizeAbove wanted-1/\Y0 t' es'/\es'.toList.Perm es.toList/\t'.led=t.led/\t'.plain=t.plain:=by
 obtain⟨t',order,e,e1,T',p,sz,hl,hp,_,hpm⟩:=ahd hm t.finger (t.movedTo (sizeAbove wanted-1)) t.led t.plain es hz;have er:t.relaid (es.map (·.1)) wanted=some (t',order):=e;refine⟨order.filterMap (es[·]?),t',?_,e1,T',p,hl,hp⟩;unfold relayAll;rw[er];dsimp only;rw[cg];rw[aq];exact⟨by unfold coversAll;exact List.isPerm_iff.mpr hpm,T'.fits⟩
noncomputable def enI(x:Int×Tok):Int×Value:=(hashInt x.1,.int x.1 x.2)
structure Lf(w:World)(h:Heap)(a:Addr)(xs:List (Int×Tok))(o:Obj)(es:Array (Int×Value))(ep:Nat)(t:SetTable):Prop where
 get:h.get? a=some o
 exa:o.ExactSet
 dat:o.data=.set es ep t
 tab:Y0 t es
 ent:es.toList=xs.map enI
 nod:(xs.map (·.1)).Nodup
 led:t.led=!bt w
 pla:t.plain=true
def Ez(w:World)(h:Heap)(a:Addr)(S:Int->Prop)(n:Nat):Prop:=∃xs o es ep t,Lf w h a xs o es ep t/\(∀k,S k↔k∈xs.map (·.1))/\xs.length=n/\t.place.size*5<t.mask*3
theorem Lf.size(X:Lf w h a xs o es ep t):es.size=xs.length:=by have:=qj List.length X.ent;simpa using this
def Lf.elems(X:Lf w h a xs o es ep t):ElemsOf (intKind prog w) es.toList:=λe he=>by rw[X.ent] at he;obtain⟨x,_,rfl⟩:=bu.mp he;exact⟨⟨x.1,by simp[enI,intKind,Value.isInt],rfl⟩,rfl⟩
def a4y(X:Lf w h a xs o es ep t)(T':Y0 t' es')(he:es'.toList=xs'.map enI)(hn:(xs'.map (·.1)).Nodup)(hl:t'.led=!bt w)(hp:t'.plain=true) :
 Lf w (h.update a (Obj.putSet es' t')) a xs' { o with data:=.set es' (ep+1) t' } es' (ep+1) t':=by
 have hg:(h.update a (Obj.putSet es' t')).get? a=some { o with data:=.set es' (ep+1) t' }:=by have:=mz (Obj.putSet es' t') X.get (by rw[putSet_of es' t' X.dat];rfl);rw[putSet_of es' t' X.dat] at this;exact this
 exact⟨hg,X.exa,rfl,T',he,hn,hl,hp⟩
theorem Ez.get(hS:Ez w h a S n):∃o es ep t,h.get? a=some o/\o.ExactSet/\o.data=.set es ep t/\t.fits es.size=true :=
 let ⟨_,o,es,ep,t,X,_⟩:=hS;⟨o,es,ep,t,X.get,X.exa,X.dat,X.tab.fits⟩
def Ez.congr(hS:Ez w h a S n)(e:∀k,S k↔S' k):Ez w h a S' n :=
 let ⟨xs,o,es,ep,t,X,hm,r⟩:=hS;⟨xs,o,es,ep,t,X,λk=>(e k).symm.trans (hm k),r⟩
def Ez.moved(hS:Ez w h a S n)(hm:∀o,h.get? a=some o->h'.get? a=some o):Ez w h' a S n :=
 let ⟨xs,o,es,ep,t,X,r⟩:=hS
 ⟨xs,o,es,ep,t,⟨hm o X.get,X.exa,X.dat,X.tab,X.ent,X.nod,X.led,X.pla⟩,r⟩
def amd(hg:h.get? a=some (Av w)):Ez w h a (λ_=>False) 0 :=
 ⟨[],Av w,#[],0,_,⟨hg,⟨rfl,rfl,rfl⟩,rfl,⟨.inl rfl,rfl,rfl,λi j a b e=>by simp[SetTable.fresh] at e,λi j e=>by simp[SetTable.fresh] at e,by simp[SetTable.fresh],λi j e a=>by simp[SetTable.fresh] at a⟩,
  rfl,xf,rfl,rfl⟩,λk=>by simp,rfl,by simp[SetTable.fresh]⟩
def asf(hS:Ez w s.heap a S n)(hn:n+1<32)(h:∀h' n' b,Heap.SameBut a s.heap h'->Ez w h' a (λk'=>S k'\/k'=k) n'->n'<=n+1->Q b { s with heap:=h' }) :
 wpAny (model prog w) A (setAddHashed a (.int k tk) (hashInt k)) Q E s:=by
 obtain⟨xs,o,es,ep,t,X,hm,hl,nf⟩:=hS;obtain⟨N,F⟩:=X.tab.fst (hashInt k);have hsz:=X.size;have hel:=X.elems (prog:=prog);have ayd:(intKind prog w).is k (.int k tk)=true:=by simp[intKind,Value.isInt]
 unfold setAddHashed setAddHashedIn;refine jm (aa (jo X.get X.dat X.tab.fits ?_));dsimp only;rw[byScan_of (knd:=intKind prog w) (x:=.int k tk) rfl (by unfold scanBound;lia) hel];simp only[↓reduceIte];unfold setAddByScan;refine aa ?_;refine aa (wpAny_rule ?_);refine aa (wpAny_setScan_of (knd:=intKind prog w) (k:=k) ayd X.get X.dat X.tab.fits hel ?_);cases hr:List.findIdx? (λe=>(intKind prog w).is k e.2) es.toList with
 |some j =>
  dsimp only;obtain⟨hj,hpj,_⟩:=um.mp hr;have hSk:S k:=by
   obtain⟨x,hx,ex⟩:∃x∈xs,enI x=es.toList[j]:=by have Ji:=qz hj;generalize es.toList[j]=e at Ji;rw[X.ent] at Ji;exact bu.mp Ji
   have hp2:(intKind prog w).is k (enI x).2=true:=by rw[ex];exact hpj
   refine(hm k).mpr (bu.mpr ⟨x,hx,?_⟩);have:(intKind prog w).is x.1 (enI x).2=true:=by simp[enI,intKind,Value.isInt]
   exact(intKind prog w).inj _ _ _ this hp2
  refine aj (aj ?_);have:=h s.heap n false (Heap.SameBut.refl a s.heap) ⟨xs,o,es,ep,t,X,λk'=>by
   rw[<- hm k'];exact⟨λh=>h.elim id (λe=>e▸hSk),.inl⟩,hl,nf⟩ x_
  exact this
 |none =>
  dsimp only;have Y7:∀x∈xs,x.1≠k:=λx hx e=>by have:=xu.mp hr (enI x) (by rw[X.ent];exact bu.mpr ⟨x,hx,rfl⟩);subst e;simp[enI,intKind,Value.isInt] at this
  have room:t.place.size+1<=t.mask:=by have:=X.tab.msk;rcases this with e|e|e|e|e<;>lia
  have T':=X.tab.put (x:=.int k tk) F room;rw[ase X.tab F room];have Jg:(t.put (P t.mask (hashInt k) N).j).1.plain=true:=X.pla;have hld:(t.put (P t.mask (hashInt k) N).j).1.led=!bt w:=X.led;obtain⟨xs',ex,px⟩:=Dz (f:=enI) (insertAt_perm es (t.put (P t.mask (hashInt k) N).j).2 (hashInt k,.int k tk)) (xs:=xs++[(k,tk)]) (by rw[Array.toList_push,X.ent,qu];rfl);have pm:=px.map (·.1);have hnd:(xs'.map (·.1)).Nodup:=pm.nodup_iff.mpr (by
   rw[qu,yh];refine⟨X.nod,by simp,λa ha b hb=>?_⟩;simp at hb;subst hb;rintro rfl;obtain⟨x,hx,e⟩:=bu.mp ha;exact Y7 x hx e)
  have hX:=a4y X T' ex hnd hld Jg;have Ji:∀k',(S k'\/k'=k)↔k'∈xs'.map (·.1):=λk'=>by rw[pm.mem_iff,qu,dj,hm k'];simp
  have hlen:xs'.length=n+1:=by rw[px.length_eq];simp[hl]
  have hes:(insertAt es (t.put (P t.mask (hashInt k) N).j).2 (hashInt k,Value.int k tk)).size=es.size+1:=Nq _ _ _;have al6:(t.put (P t.mask (hashInt k) N).j).1.place.size=es.size+1:=by rw[T'.Y4,hes]
  have hf:(t.put (P t.mask (hashInt k) N).j).1.fill=es.size+1:=by unfold fill;rw[al6,T'.dum];rfl
  generalize insertAt es (t.put (P t.mask (hashInt k) N).j).2 (hashInt k,Value.int k tk)=es1 at *;generalize(t.put (P t.mask (hashInt k) N).j).1=t1 at *;dsimp only;refine aa (aj ?_);rw[Jg];simp only[ju];refine aa ?_;rw[hashByValue_scannable 8 (x:=.int k tk) rfl];refine aj ?_;have ep1:plainKind (.int k tk)=true:=rfl;simp only[ep1,ju];refine aa (wpAny_storeSet_of X.get X.dat ?_ (Kp (by lia)))
  by_cases htf:t1.tooFull=true
  . rw[htf]
    simp only[yr,Bool.and_self,ju];obtain⟨g1,g2,g3,g4,g5⟩:=Y6 (es.size+1) (c_ (v_ (f_ hsz)) (c_ (v_ (f_ hl)) hn));obtain⟨es2,t2,e2,m2,T2,p2,l2,q2⟩:=ajo (t:=t1) (es:=es1) (wanted:=grown (es.size+1)) g1 (a_ (f_ hes) g2);rw[hes,e2];dsimp only;refine aa (aj ?_);obtain⟨xs2,ex2,px2⟩:=Dz p2 ex;have hX2:=a4y hX T2 ex2 ((px2.map _).nodup_iff.mpr hnd) (l2.trans hld) (q2.trans Jg);have hz2:es2.size=es.size+1:=by have:=p2.length_eq;simp at this;exact this.trans hes
    refine aa (wpAny_storeSet_of hX.get rfl ?_ (Kp (a_ (f_ hz2) (a_ g2 (a_ C_ g5)))));refine aj (aj (h _ (n+1) true ((jy s.heap a _).trans (jy _ a _)) ⟨xs2,_,es2,_,t2,hX2,λk'=>?_,by rw[px2.length_eq,hlen],?_⟩ (bc _)))
    . exact(Ji k').trans (px2.map (·.1)).mem_iff.symm
    . rw[T2.Y4,m2,hz2];exact t_ g4
  . rw[Bool.not_eq_true] at htf
    rw[htf];simp only[Bool.and_false,cz,jh];refine aj (aj (h _ (n+1) true (jy s.heap a _) ⟨xs',_,_,_,_,hX,Ji,hlen,?_⟩ (bc _)));unfold tooFull at htf;rw[hf] at htf;rw[al6];simp at htf;exact htf
def ame{I:Addr}{P:Nat->Value->Prop}(W:WalksS prog w A.in1 I fp wr G n P St)(a:Addr)(haf:a∉fp)(ks:Xs)(hkl:ks.length=n)(ax6:∀i v x,P i v->ks[i]?=some x->∃tk,v=.int x tk)(hb:n<31) :
 ∀(k i n':Nat)(s:Shared),n-i=k->i<=n->St i s ->
  Ez w s.heap a (λk'=>k'∈ks.take i) n'->n'<=i ->
  (∀s' n'',Moved (a::wr) G s s'->Ez w s'.heap a (λk'=>k'∈ks) n''->n''<=n->R (.ok (.ret .none)) s') ->
  codeAny (model prog w) A (.builtin "set.update.loop" ⟨[.ref a,.ref I],[]⟩) R s:=by
 have haw:a∉wr:=λh=>haf (W.sub _ h)
 have aah:∀b∈wr,b∈a::wr:=λb hb=>bh _ hb
 intro k
 induction k with
 |zero =>
  intro i n' s hk hi Vn hS Pg hR;have Yg:i=n:=by lia
  subst Yg;refine m7 rz ?_;rw[j0 lq _];show wpAny _ A.in1 (pyNext (.ref I) >>= _) _ _ s;refine aa (W.done s _ _ Vn λs' hm=>?_);show wpAny _ A.in1 (ret Value.none) _ _ s';refine aj (hR s' n' (hm.mono aah) ((hS.moved λo=>hm.heap a o haw).congr λk=>?_) Pg);rw[ux (f_ hkl)]
 |succ k ih =>
  intro i n' s hk hi Vn hS Pg hR;have Km:i<n:=by lia
  refine m7 rz ?_;rw[j0 lq _];show wpAny _ A.in1 (pyNext (.ref I) >>= _) _ _ s;refine aa (W.item i s _ _ Km Vn λv s' hP ax7 hm=>?_);have lx:i<ks.length:=b_ Km (g_ hkl)
  have hgx:ks[i]?=some ks[i]:=by simp[lx]
  obtain⟨tk,rfl⟩:=ax6 i v _ hP hgx;have V8:=hS.moved λo=>hm.heap a o haw
  show wpAny _ A.in1 (holding [Value.int ks[i] tk] (setAdd a (.int ks[i] tk)) >>= _) _ _ s';refine aa (jm ?_);unfold setAdd;refine jm ?_;refine aa (wpAny_pyHash_int ?_);refine asf (s:={ s' with toks:=s'.toks+1 }) V8 (by lia) λh' n2 b hsb hS2 Yh=>?_
  refine aj ⟨plainId_quiet lq _,ih (i+1) n2 _ (by lia) Km (W.frame _ s' _ _ ax7 (w6 _ _) λb hb o e=>?_) (hS2.congr λk=>?_) (a_ Yh (v_ Pg)) λs'' n3 ax9 al9 hn3=>?_⟩
  . rw[hsb.2 b (λh:b=a=>haf (by rw[<- h];exact hb))];exact e
  . rw[List.take_add_one,dj,hgx];simp
  . refine hR s'' n3 (Moved.trans W.gtrans ((hm.mono aah).then_heap (w6 _ _) λb o hb e=>?_) ax9) al9 hn3
    rw[hsb.2 b (λh:b=a=>hb (by rw[h];exact dg))];exact e
def ajp{id:String}(hh:A.handled=none)(hS:Ez w s.heap a (λ_=>False) 0)(hl:s.heap.IsList l items)(hit:PyProof.Rows.IntsAre items.toList ks)(hlen:ks.length<31)(h:∀h' tk n',(∀b o,b≠a->s.heap.get? b=some o->h'.get? b=some o)->Ez w h' a (λk=>k∈ks) n'->n'<=ks.length->Q () { s with heap:=h',toks:=tk }) :
 wpAny (model prog w) A (Builtin.Frozenset.updateFrom id a (.ref l)) Q E s:=by
 have hT:s.TypeIs (.ref l) "list" := let ⟨o,ho,hc,_⟩:=hl;⟨o,ho,hc⟩;have hsz:items.size=ks.length:=by rw[<- t7];exact PyProof.Rows.IntsAre.length hit
 obtain⟨oa,esa,epa,ta,hga,hca,hda,hfa⟩:=hS.get;unfold Builtin.Frozenset.updateFrom;refine aa (Hg hT F.sub_list_set F.sub_list_frozenset ?_);simp only[cz,jh];refine aa (qg hT ?_);rw[bx (by decide)];refine aa (wpAny_pyIter_list hl ?_);refine aa (wpAny_runValue ?_);have Km:l<s.heap.objs.size:=let ⟨o,ho,_⟩:=hl;az ho
 have hat:a<s.heap.objs.size:=az hga
 have hla:l≠a:=by rintro rfl;obtain⟨o,ho,_,n,hd⟩:=hl;rw[ho] at hga;cases hga;rw[hd] at hda;cases hda
 have aya:l≠s.heap.objs.size:=dw Km;have haf:a∉[s.heap.objs.size,l]:=by simp only[bw,rm,Ay,not_or];exact⟨dw hat,λe=>hla e.symm⟩
 have keep:∀b o,s.heap.get? b=some o->(s.heap.push { cls:=.type "list_iterator",data:=.fields #[.ref l,.int 0 0] }).get? b=some o:=λb o e=>ao _ e
 refine ame ((Walks.list (by simp[hh]) _ l aya items).toS) a haf ks hsz.symm (λi v x hv hx=>?_) (c_ (f_ hsz) hlen) items.size 0 0 _ rfl (my _)
  ⟨⟨_,bf _ rfl,rfl,rfl⟩,hl.push _⟩ ?_ (bc _) ?_
 . obtain⟨tk,e⟩:=PyProof.Rows.IntsAre.int_at hit i v (by rw[p7];exact hv)
   rw[bz,hx] at e;exact⟨tk,e⟩
 . refine(hS.moved λo e=>keep a o e).congr λk=>by simp
 . intro s' n'' hm V8 a4u
   obtain⟨h',g',d',tk',os'⟩:=s';have eg:g'=s.gens:=hm.gens;have ed:d'=s.drawn:=hm.drawn;have eo:os'=s.os:=hm.os;subst eg;subst ed;subst eo;show wpAny _ _ _ _ _ _;refine aj (h h' tk' n'' (λb o hb e=>?_) V8 (a_ a4u (f_ hsz)));refine hm.heap b o ?_ (keep b o e);simp only[bw,rm,Ay,not_or];exact⟨hb,dw (az e)⟩
def ajq(hh:A.handled=none)(hl:s.heap.IsList l items)(hit:PyProof.Rows.IntsAre items.toList ks)(hlen:ks.length<31)(h:∀h' tk n',(∀b o,s.heap.get? b=some o->h'.get? b=some o)->Ez w h' s.heap.objs.size (λk=>k∈ks) n'->n'<=ks.length->Q (.ref s.heap.objs.size) { s with heap:=h',toks:=tk }) :
 wpAny (model prog w) A (call (.type "set") [.ref l]) Q E s:=by
 refine Nr (R:=λs'=>∃h' tk n',s'={ s with heap:=h',toks:=tk }/\(∀b o,s.heap.get? b=some o->h'.get? b=some o)/\Ez w h' s.heap.objs.size (λk=>k∈ks) n'/\n'<=ks.length)
  (ajp (s:={ s with heap:=s.heap.push (Av w) }) (by simp[hh]) (amd (bf _ rfl)) (hl.push _) hit hlen λh' tk n' hk V8 Pg=>⟨h',tk,n',rfl,λb o e=>hk b o (dw (az e)) (ao _ e),V8,Pg⟩)
  λs' ⟨h',tk,n',e,hk,V8,Pg⟩=>by subst e;exact h h' tk n' hk V8 Pg
def Wb:entryFor table "set.__iter__" = some Builtin.«frozenset.__iter__» :=
 entryFor_alias (id' := "frozenset.__iter__") (by kernel_rfl) rfl (by decide+kernel) (by kernel_rfl)
def Bj:Slot "set_iterator" "__next__" "set_iterator.__next__" :=
 .of (owner := "set_iterator") (n := "__next__") (by rw[typeLookup_type,builtinLookup_eq_fast];kernel_rfl) (by decide+kernel) (by decide+kernel) (by decide+kernel)
  (by first|exact .inl (by decide+kernel)|exact .inr (by decide+kernel)) (by rw[isSubtype_type];kernel_rfl)
def Mt:Slot "set_iterator" "__iter__" "set_iterator.__iter__" :=
 .of (owner := "set_iterator") (n := "__iter__") (by rw[typeLookup_type,builtinLookup_eq_fast];kernel_rfl) (by decide+kernel) (by decide+kernel) (by decide+kernel)
  (by first|exact .inl (by decide+kernel)|exact .inr (by decide+kernel)) (by rw[isSubtype_type];kernel_rfl)
def Kq:entryFor table "set_iterator.__next__" = some Builtin.«set_iterator.__next__»:=entryFor_of_fast (by kernel_rfl)
def Tn:entryFor table "set_iterator.__iter__" = some Builtin.«dict_keyiterator.__iter__» :=
 entryFor_alias (id' := "dict_keyiterator.__iter__") (by kernel_rfl) rfl (by decide+kernel) (by kernel_rfl)
def Mu(a:Value):argsOk "set_iterator.__next__" ⟨[a],[]⟩:=by unfold argsOk;kernel_rfl
def Vc(a:Value):argsOk "set_iterator.__iter__" ⟨[a],[]⟩:=by unfold argsOk;kernel_rfl
def afs(hs:Srt xs):below xs 0=0:=by
 obtain⟨h1,h2,h3⟩:=Fi (j:=0) hs;rcases Nat.eq_zero_or_pos (below xs 0) with e|e
 . exact e
 . have l:0<xs.size:=b_ e h1
   have:=h2 0 xs[0] (by simp[l]) e
   lia
def aft(hs:Srt xs)(h:xs[i]?=some j):below xs (j+1)=i+1:=by
 obtain⟨h1,h2,h3⟩:=Fi (j:=j+1) hs;have a1:i<below xs (j+1):=by
  rcases Ak i (below xs (j+1)) with l|l
  . exact l
  . have:=h3 i j h l;lia
 have a2:¬i+1<below xs (j+1):=λl=>by
  have l2:i+1<xs.size:=b_ l h1
  have e2:xs[i+1]?=some xs[i+1]:=by simp[l2]
  have:=h2 (i+1) _ e2 l;have:=hs i (i+1) j _ h e2 B_
  lia
 exact u_ (s_ a2) a1
noncomputable def wkN(w:World)(a:Addr)(es:Array (Int×Value))(ep:Nat):Array (Int×Value):=if bt w then pickOrder (w.params.setOrder a ep) es else es
def acg:(wkN w a es ep).toList.Perm es.toList:=by
 unfold wkN;split
 . exact Y8 _ _
 . exact yt _
def Wc:(wkN w a es ep).size=es.size:=by have:=(acg (w:=w) (a:=a) (es:=es) (ep:=ep)).length_eq;simpa using this
noncomputable def itN(a:Addr)(slot i n ep:Nat):Obj:={ cls:=.type "set_iterator",data:=.fields #[.int slot 0,.int i 0,.ref a,.int n 0,.int ep 0] }
set_option tactic.hygienic true in
def awv(X:Lf w s.heap a xs o es ep t){slot:Nat}(hb:bt w=false->below t.place slot=i)(hs:∀e sl,(wkN w a es ep)[i]?=some e->(bt w=false->below t.place sl=i+1)->Q (some (e.2,sl)) s)(hn:(wkN w a es ep)[i]?=none->Q none s) :
 wpAny (model prog w) A (setNext a slot i ep) Q E s:=by
 unfold setNext;refine aa (jo X.get X.dat X.tab.fits ?_);dsimp only;refine aa (Vo ?_);cases hbt:bt w with
 |true =>
  simp only[ju,yj,cz,jh];refine aa ?_;unfold setWalk;refine aa (jo X.get X.dat X.tab.fits ?_);dsimp only;refine aa (Vo ?_);rw[hbt];simp only[ju];refine aa (wpAny_askSetting (aj (aj ?_)));have ew:wkN w a es ep=pickOrder (w.params.setOrder a ep) es:=by unfold wkN;rw[hbt];rfl
  show Q (((pickOrder (w.params.setOrder a ep) es)[i]?).map _) s;rw[<- ew];cases hg:(wkN w a es ep)[i]? with
  |none=>exact hn hg|some e=>exact hs e slot hg (λc=>by rw[hbt] at c;cases c)
 |false =>
  have ew:wkN w a es ep=es:=by unfold wkN;rw[hbt];rfl
  simp only[cz,jh];split
  . rename_i hd
    have hd:(!t.plain&&decide (es.size > 1))=true:=hd;rw[X.pla] at hd;cases hd
  . refine aa ?_
    have fin:Q (match es[below t.place slot]?,t.place[below t.place slot]? with|some (_,x),some j=>some (x,j+1)|_,_=>none) s:=by
     rw[hb hbt];cases hg:es[i]? with
     |none=>exact hn (by rw[ew];exact hg)
     |some e =>
      have li:i<t.place.size:=by rw[X.tab.Y4];exact(jf.mp hg).1
      have hp:t.place[i]?=some t.place[i]:=by simp[li]
      rw[hp];exact hs e _ (by rw[ew];exact hg) (λ_=>aft X.tab.srt hp)
    have:wpAny (model prog w) A (if(!t.led&&!es.isEmpty)=true then unsupported "set:maker-not-led" else pure ()) (λ_ s'=>wpAny (model prog w) A (pure (match es[below t.place slot]?,t.place[below t.place slot]? with|some (_,x),some j=>some (x,j+1)|_,_=>none)) Q E s') E s:=by rw[X.led,hbt];simp only[yr,qp,Bool.false_and,cz,jh];exact aj (aj fin)
    exact this
set_option tactic.hygienic true in
def amf{I:Addr}(X:Lf w s.heap a xs o es ep t){slot:Nat}(hI:s.heap.get? I=some (itN a slot i es.size ep))(hb:bt w=false->below t.place slot=i)(he:(wkN w a es ep)[i]?=some e)(hQ:∀h' sl,h'.get? I=some (itN a sl (i+1) es.size ep)->(bt w=false->below t.place sl=i+1)->Heap.SameBut I s.heap h'->Q (some e.2) { s with heap:=h' }) :
 wpAny (model prog w) A (pyNext (.ref I)) Q E s:=by
 have hT:s.TypeIs (.ref I) "set_iterator" := ⟨_,hI,rfl⟩;unfold pyNext;refine aa (wpAny_attempt (jt (name:=Str.ofString "__next__") hT Bj
  (jk Bj hT Kq ?_ (Mu _))))
 unfold Builtin.«set_iterator.__next__»;refine aa (m:=slotArgs "__next__" 0 _) (aj ?_);refine aa (wpAny_fieldsOf hI rfl ?_);show wpAny _ _ (setEntries a >>= _) _ _ s;refine aa (km X.get X.dat X.tab.fits ?_);rw[yj];simp only[cz,jh];show wpAny _ _ (setNext a slot i ep >>= _) _ _ s;refine aa (awv X hb (λe' sl he' hsl=>?_) (λhn=>by rw[hn] at he;cases he));rw[he'] at he;cases he;dsimp only;refine aa (jb hI (by simp) λh1 g1 sb1=>?_);refine aa (jb (s:={ s with heap:=h1 }) g1 (by simp) λh2 g2 sb2=>?_);exact aj ⟨_,rfl,aj (hQ h2 sl (by rw[g2];rfl) hsl (sb1.trans sb2))⟩
set_option tactic.hygienic true in
def ash{I:Addr}(hh:A.handled=none)(X:Lf w s.heap a xs o es ep t){slot:Nat}(hI:s.heap.get? I=some (itN a slot i es.size ep))(hb:bt w=false->below t.place slot=i)(he:(wkN w a es ep)[i]?=none)(hQ:∀h',Heap.ExtBut I s.heap h'->Q none { s with heap:=h' }) :
 wpAny (model prog w) A (pyNext (.ref I)) Q E s:=by
 have hT:s.TypeIs (.ref I) "set_iterator" := ⟨_,hI,rfl⟩;unfold pyNext;refine aa (wpAny_attempt (jt (name:=Str.ofString "__next__") hT Bj
  (jk Bj hT Kq ?_ (Mu _))))
 unfold Builtin.«set_iterator.__next__»;refine aa (m:=slotArgs "__next__" 0 _) (aj ?_);refine aa (wpAny_fieldsOf hI rfl ?_);show wpAny _ _ (setEntries a >>= _) _ _ s;refine aa (km X.get X.dat X.tab.fits ?_);rw[yj];simp only[cz,jh];show wpAny _ _ (setNext a slot i ep >>= _) _ _ s;refine aa (awv X hb (λe' sl he' hsl=>by rw[he'] at he;cases he) (λhn=>?_));dsimp only;refine aa (jb hI (by simp) λh1 g1 sb1=>?_);show wpAny _ _ (newExc (.type "StopIteration") [] >>= _) _ _ _;refine ahh (show A.in1.handled=none from hh) λh' x k ⟨o,e1,e2⟩=>?_
 exact aa (o8 (T := "StopIteration") (b:=true) ⟨o,e1,e2⟩ isSubtype_stop (aj (hQ _ λb o n z=>k b o (sb1.extBut b o n z))))
def ItS(w:World)(a I:Addr)(xs:List (Int×Tok))(o:Obj)(es:Array (Int×Value))(ep:Nat)(t:SetTable)(i:Nat)(h:Heap):Prop :=
 Lf w h a xs o es ep t/\∃slot,h.get? I=some (itN a slot i es.size ep)/\(bt w=false->below t.place slot=i)
def Lf.at(X:Lf w h a xs o es ep t)(e:h'.get? a=some o):Lf w h' a xs o es ep t:=⟨e,X.exa,X.dat,X.tab,X.ent,X.nod,X.led,X.pla⟩
theorem Walks.bb8{I:Addr}(hh:A.handled=none)(X8:a≠I)(xs:List (Int×Tok))(o:Obj)(es:Array (Int×Value))(ep:Nat)(t:SetTable) :
 Walks prog w A I [I,a] [I] es.size (λi v=>((wkN w a es ep)[i]?).map (·.2)=some v) (ItS w a I xs o es ep t) where
 sub:=λb hb=>by simp at hb;simp[hb]
 frame:=λ_ _ _ st hk=>⟨st.1.at (hk a (by simp) o st.1.get),let ⟨sl,e,r⟩:=st.2;⟨sl,hk I (by simp) _ e,r⟩⟩
 item:=λi s Q E hi st hQ=>by
  obtain⟨X,slot,hI,hb⟩:=st;have he:(wkN w a es ep)[i]?=some ((wkN w a es ep)[i]'(by rw[Wc];exact hi)):=by simp[Wc,hi]
  refine amf X hI hb he λh' sl g r sb=>hQ _ h' s.toks (by rw[he];rfl) ⟨X.at ((sb.2 a X8).trans X.get),sl,g,r⟩ λb o hb e=>(sb.2 b (λh=>hb (by simp[h]))).trans e
 done:=λs Q E st hQ=>by obtain⟨X,slot,hI,hb⟩:=st;exact ash hh X hI hb (by simp[Wc]) λh' he'=>hQ h' s.toks λb o hb e=>he' b o (λh=>hb (by simp[h])) e
 self:=λ_ s _ _ st hQ=>by obtain⟨X,slot,hI,hb⟩:=st;have hT:s.TypeIs (.ref I) "set_iterator" := ⟨_,hI,rfl⟩;refine wpAny_pyIter_slot hT Mt (jk Mt hT Tn ?_ (Vc _));show wpAny _ _ (ret (.ref I)) _ _ s;exact aj ⟨_,rfl, "set_iterator",_,hT,Bj.lookup,hQ⟩
def a5b(X:Lf w s.heap a xs o es ep t)(hQ:Q (.ref s.heap.objs.size) { s with heap:=s.heap.push (itN a 0 0 es.size ep) }):wpAny (model prog w) A (pyIter (.ref a)) Q E s:=by
 have hT:s.TypeIs (.ref a) "set" := ⟨o,X.get,X.exa.1⟩;refine wpAny_pyIter_slot hT F.slot_set_iter (jk F.slot_set_iter hT Wb ?_ (F.args_set_iter_1 _));unfold Builtin.«frozenset.__iter__» Builtin.Frozenset.slot0 slotArgs;simp only[List.isEmpty_nil,qp,cz,↓reduceIte,bind_assoc,Be,yj];unfold Builtin.Frozenset.addrOf Builtin.Frozenset.sizeOf;refine aa (aj ?_)
 try dsimp only
 refine aa (aj ?_);refine aa (aa (km X.get X.dat X.tab.fits (aj ?_)));refine aa ?_;unfold setDrawn;refine aa (jo X.get X.dat X.tab.fits ?_);dsimp only;refine aa (Vo (aj ?_));have hd:(!bt w&&(!t.plain&&decide (es.size > 1)))=false:=by rw[X.pla];simp
 show wpAny _ _ (if(!bt w&&(!t.plain&&decide (es.size > 1)))=true then _ else _) _ _ s;rw[hd];simp only[cz,jh];refine aa (aj (aa (wpAny_setEpoch_of X.get X.dat X.tab.fits ?_)));exact aa (jw (aj ⟨_,rfl, "set_iterator",_,⟨_,bf _ rfl,rfl⟩,Bj.lookup,hQ⟩))
def a5c(hT:s.TypeIs (.ref a) "set")(h:Q false s):wpAny (model prog w) A (Builtin.List.listLengthHint (.ref a)) Q E s:=by
 unfold Builtin.List.listLengthHint;refine aa (wpAny_specialOf hT F.slot_set_len.lookup ?_)
 (generalize hid:("set.__len__" : String)=id0;(fail_if_success (clear hid id0));wp_delta;rw[show splitId id0=some ("set", "__len__") from by subst hid;decide+kernel];subst hid)
 refine aa (o8 (b:=true) hT sub_set_self ?_);refine aa (qg hT ?_);exact aj h
def amg(hh:A.handled=none)(X:Lf w s.heap a xs o es ep t)(hz:es.size<=sizeLine)(h:∀h' tk acc,(∀b o,s.heap.get? b=some o->h'.get? b=some o)->s.heap.objs.size<=h'.objs.size->ItemsOf (λi v=>((wkN w a es ep)[i]?).map (·.2)=some v) acc es.size->Q acc.toList { s with heap:=h',toks:=tk }) :
 wpAny (model prog w) A (collect (.ref a)) Q E s:=by
 have Km:a<s.heap.objs.size:=az X.get
 have hSa:s.heap.objs.size≠a:=u0 Km;unfold collect;refine aa (wpAny_runValue (m7 F.entry_proto_collect ?_));rw[j0 F.plain_proto_collect _];show wpAny _ A.in1 (newList [] >>= λl=>again (.builtin "list.__iadd__" ⟨[l,.ref a],[]⟩)) _ _ s;refine aa (jw ?_);refine aj ⟨plainId_quiet F.plain_list_iadd _,m7 F.entry_list_iadd ?_⟩;rw[j0 F.plain_list_iadd _];have X1:Lf w (s.heap.push { cls:=.type "list",data:=.seq ([]:Zl).toArray }) a xs o es ep t:=X.at (ao _ X.get);have hT1:Shared.TypeIs { s with heap:=s.heap.push { cls:=.type "list",data:=.seq ([]:Zl).toArray } } (.ref a) "set" := ⟨o,X1.get,X1.exa.1⟩;have h1:Builtin.List.listSameRef (.ref s.heap.objs.size) (.ref a)=false:=by simp[Builtin.List.listSameRef,hSa]
 show wpAny _ A.in1 (Builtin.List.listExtendWith (.ref s.heap.objs.size) (.ref a) (.ref s.heap.objs.size)) _ _ _;unfold Builtin.List.listExtendWith;refine aa (qg hT1 ?_);rw[bx (by rw[h1];decide)];refine aa (a5b (s:={ s with heap:=s.heap.push { cls:=.type "list",data:=.seq ([]:Zl).toArray } }) X1 ?_);have sz1:(s.heap.push { cls:=.type "list",data:=.seq ([]:Zl).toArray }).objs.size=s.heap.objs.size+1:=gw ..;show wpAny _ A.in1 (holding [.ref (s.heap.push { cls:=.type "list",data:=.seq ([]:Zl).toArray }).objs.size] (Builtin.List.listLengthHint (.ref a)) >>= _) _ _ { s with heap:=(s.heap.push { cls:=.type "list",data:=.seq ([]:Zl).toArray }).push (itN a 0 0 es.size ep) };have gI:((s.heap.push { cls:=.type "list",data:=.seq ([]:Zl).toArray }).push (itN a 0 0 es.size ep)).get? (s.heap.push { cls:=.type "list",data:=.seq ([]:Zl).toArray }).objs.size=some (itN a 0 0 es.size ep):=bf _ rfl;have gS:((s.heap.push { cls:=.type "list",data:=.seq ([]:Zl).toArray }).push (itN a 0 0 es.size ep)).get? s.heap.objs.size=some { cls:=.type "list",data:=.seq ([]:Zl).toArray }:=ao _ (bf _ rfl);have aye:∀b o,s.heap.get? b=some o->((s.heap.push { cls:=.type "list",data:=.seq ([]:Zl).toArray }).push (itN a 0 0 es.size ep)).get? b=some o:=λb o e=>ao _ (ao _ e)
 have gsz:s.heap.objs.size<=((s.heap.push { cls:=.type "list",data:=.seq ([]:Zl).toArray }).push (itN a 0 0 es.size ep)).objs.size:=by rw[gw,sz1];exact a_ x_ x_
 generalize(s.heap.push { cls:=.type "list",data:=.seq ([]:Zl).toArray }).push (itN a 0 0 es.size ep)=hp at *;rw[sz1] at gI ⊢;have X2:Lf w hp a xs o es ep t:=X.at (aye a o X.get);refine aa (jm (a5c ⟨o,X2.get,X2.exa.1⟩ ?_));rw[cg (by decide+kernel)];refine aa (wpAny_rule ?_);refine aa ?_;show wpAny _ A.in1 (updateSeq s.heap.objs.size (·.push .none) >>= λ_=>updateSeq s.heap.objs.size (·.pop)) _ _ _;refine aa (wpAny_updateSeq gS rfl ?_);have hS₂:=mz (Obj.mapSeq (·.push Value.none)) gS rfl;refine wpAny_updateSeq (hz:=by seq_fits) hS₂ rfl ?_;have hS₃:=mz (Obj.mapSeq (·.pop)) hS₂ rfl;have oth:∀b o,b≠s.heap.objs.size->hp.get? b=some o->((hp.update s.heap.objs.size (Obj.mapSeq (·.push Value.none))).update s.heap.objs.size (Obj.mapSeq (·.pop))).get? b=some o :=
  λb o hb e=>(uf _ _ (jz hb)).trans ((uf _ _ (jz hb)).trans e)
 have sz3:((hp.update s.heap.objs.size (Obj.mapSeq (·.push Value.none))).update s.heap.objs.size (Obj.mapSeq (·.pop))).objs.size=hp.objs.size:=by rw[Heap.size_update,Heap.size_update]
 generalize(hp.update s.heap.objs.size (Obj.mapSeq (·.push Value.none))).update s.heap.objs.size (Obj.mapSeq (·.pop))=h3 at *;have W:=(Walks.bb8 (prog:=prog) (w:=w) (A:=A.in1) (I:=s.heap.objs.size+1) (a:=a) hh (dw (qe Km)) xs o es ep t).toS;refine aj ⟨plainId_quiet F.plain_extend_loop _,codeAny_extend_loopS W hz _ (by simp only[bw,rm,Ay,not_or];exact⟨dw (pq _),hSa⟩) _ es.size 0 _ _ _ rfl (my _)
  ⟨X.at (oth a o (jz hSa) (aye a o X.get)),0,oth _ _ (u0 (pq _)) gI,λ_=>afs X.tab.srt⟩ hS₃ (ItemsOf.nil _) λs' acc' c' hm V8 Fj=>?_⟩
 show wpAny _ A (load s.heap.objs.size >>= _) _ _ s';refine aa (wpAny_load V8 ?_);obtain⟨h',g',d',tk',os'⟩:=s';have eg:g'=s.gens:=hm.gens;have ed:d'=s.drawn:=hm.drawn;have eo:os'=s.os:=hm.os;subst eg;subst ed;subst eo;refine aj (h h' tk' acc' (λb o e=>?_) ?_ Fj)
 . have hb:=az e
   exact hm.heap b o (by simp only[bw,rm,Ay,not_or];exact⟨dw hb,dw (qe hb)⟩) (oth b o (dw hb) (aye b o e))
 . have:=az V8
   exact Aj this
def afu{s:Shared}(X:Lf w s.heap a xs o es ep t)(Fj:ItemsOf (λi v=>((wkN w a es ep)[i]?).map (·.2)=some v) acc es.size) :
 ∃ns:List Int,PyProof.Rows.IntsAre acc.toList ns/\ns.Perm (xs.map (·.1)):=by
 obtain⟨ys,ey,py⟩:=Dz (f:=enI) (acg (w:=w) (a:=a) (es:=es) (ep:=ep)) X.ent;have e1:acc.toList=ys.map λy=>Value.int y.1 y.2:=by
  apply Ab;intro i;have hz:acc.toList.length=es.size:=by simpa using Fj.1
  have hy:ys.length=es.size:=by rw[py.length_eq,<- X.size]
  by_cases li:i<es.size
  . have e2:acc.toList[i]?=some (acc.toList[i]'(b_ li (g_ hz))):=by simp[hz,li]
    have e3:=Fj.2 i _ (by rw[<- p7];exact e2);rw[e2,<- e3,<- p7,ey,jd,jd];cases ys[i]?<;>rfl
  . rw[p8 (a_ (f_ hz) (s_ li)),p8 (by simp;exact a_ (f_ hy) (s_ li))]
 refine⟨ys.map (·.1),?_,py.map _⟩;rw[e1];clear e1 py ey Fj
 induction ys with
 |nil=>exact .nil|cons y ys ih=>exact .cons _ _ ih
def ach(hh:A.handled=none)(hS:Ez w s.heap a S n)(hn:n<31)(h:∀(h':Heap) (tk:Nat) (p:Addr) (out:U1) (ns:Xs),(∀b o,s.heap.get? b=some o->h'.get? b=some o)->s.heap.objs.size<=p->PyProof.Rows.IntsAre out.toList ns->ns.Pairwise (·<=·)->ns.Nodup->(∀k,S k↔k∈ns) ->
 (∃c,h'.get? p=some (PyProof.Rows.seqObj "list" out c))->Q (.ref p) { s with heap:=h',toks:=tk }) :
 wpAny (model prog w) A (call (.builtin "sorted") [.ref a]) Q E s:=by
 obtain⟨xs,o,es,ep,t,X,hm,hl,nf⟩:=hS;have hsz:=X.size;refine Calls.call_function_entry PyProof.Rows.kind_sorted PyProof.Rows.plain_sorted PyProof.Rows.entry_sorted (PyProof.Rows.args_sorted1 _) ?_;unfold Builtin.«sorted»;refine aa (m:=checkCount "sorted" 1 1 _) (aj ?_);refine aa (amg (by simpa using hh) X (by rw[qm];exact e_ (c_ (f_ hsz) (c_ (f_ hl) (b_ hn (by decide))))) λh1 tk acc keep hz1 Fj=>?_);obtain⟨ns,hI,pn⟩:=afu X Fj;have hlen:acc.toList.length=n:=by have:=Fj.1;simp;exact u_ (a_ (f_ this) (a_ (f_ hsz) (f_ hl))) (a_ (g_ hl) (a_ (g_ hsz) (g_ this)))
 have eac:acc=acc.toList.toArray:=by simp
 refine aa (wpAny_newList ?_ (by rw[qm];exact e_ (c_ (f_ hlen) (b_ hn (by decide)))));have hoL:(h1.push (PyProof.Rows.seqObj "list" acc.toList.toArray 0)).get? h1.objs.size=some (PyProof.Rows.seqObj "list" acc.toList.toArray 0):=bf _ rfl;refine aa (jm (jk PyProof.Rows.slot_list_sort ⟨_,hoL,rfl⟩ PyProof.Rows.entry_list_sort (PyProof.Rows.list_sort_tree (s:={ s with heap:=h1.push (PyProof.Rows.seqObj "list" acc.toList.toArray 0),toks:=tk }) hoL hI (c_ (f_ hlen) (b_ hn (by decide))) λout ns' a1 a2 a3=>⟨_,rfl,?_⟩) (PyProof.Rows.args_list_sort _)));have p2:=a2.trans pn;refine aj ⟨_,rfl,h _ tk h1.objs.size out ns' (λb o e=>?_) hz1 a1 a3 (p2.nodup_iff.mpr X.nod) (λk=>(hm k).trans p2.mem_iff.symm) (PyProof.Rows.sortedHeap_at hoL)⟩;have hb1:=keep b o e;have Km:=az hb1;rw[PyProof.Rows.sortedHeap_old (dw Km) (by rw[gw];exact qe Km),Heap.get?_push_ne _ _ _ (dw Km)];exact hb1
end Yy
namespace MW
open PySem (Str)
set_option genInjectivity true in
inductive D where
 |non|bl (b:Bool)|int (i:Int)|str (s:Str)|tup (ds:List D)|vl (ds:List D)|fz (ds:List D)|ref (n:Nat)
noncomputable abbrev Kx:=Sum Int Str
set_option genInjectivity true in
inductive MO where
 |lst (ds:List D)|dT (iw:List (List Kx×D))|dK (iw:List (Kx×D))|ins (c:Nat) (fs:List (Nat×D))
noncomputable abbrev cj:=List MO
noncomputable abbrev Env:=List (Option D)
set_option genInjectivity true in
inductive Res(α:Type) where
 |ok (a:α) (M:cj)|err (c:Nat) (M:cj)|bad
namespace Res
noncomputable def bind{α β:Type}(r:Res α)(f:α->cj->Res β):Res β :=
 match r with|ok a M=>f a M|err c M=>err c M|bad=>bad
@[simp] def Bs(a:α)(M:cj)(f:α->cj->Res β):(ok a M).bind f=f a M:=rfl
@[simp] def a5f(c:Nat)(M:cj)(f:α->cj->Res β):(err c M:Res α).bind f=err c M:=rfl
@[simp] def a5g(f:α->cj->Res β):(bad:Res α).bind f=bad:=rfl
noncomputable def u9{α:Type}(o:Option α)(M:cj):Res α:=match o with|some a=>ok a M|none=>bad
@[simp] def Dq(a:α)(M:cj):u9 (some a) M=ok a M:=rfl
@[simp] def ayf(M:cj):u9 (none:Option α) M=bad:=rfl
end Res
inductive Op2 where|add|amh|sub|mul|fdiv|mod|pow
inductive Cp where|eq|ne|lt|le|gt|ge|is|ami|inn|Ra
inductive Blt where
 |len|tuple|list|max|min|dict|all|isBool|Gi
inductive Bm where|append|index|get
inductive Tg where
 |name (i:Nat)|names (is:Y3)
mutual
inductive Ex where
 |var (i:Nat)|cst (d:D)
 |bin (op:Op2) (a b:Ex)|neg (a:Ex)
 |cmp (op:Cp) (a b:Ex)|chain (o1 o2:Cp) (a b c:Ex)
 |and (a b:Ex)|or (a b:Ex)|not (a:Ex)|ite (c a b:Ex)
 |tup (es:Dl)|lst (es:Dl)|Hu (es:Dl)|ajs|aak
 |ix (a b:Ex)|cut (a:Ex) (lo hi:OEx)
 |call (f:Nat) (es:Dl)|make (c:Nat) (es:Dl)|meth (o:Ex) (m:Nat) (es:Dl)|fld (o:Ex) (f:Nat)
 |blt (b:Blt) (es:Dl)|bm (m:Bm) (o:Ex) (es:Dl)
 |comp (v:Bool) (k:Nat) (t:Tg) (it:P0) (e:Ex)|Dj (v:Bool) (k:Nat) (t:Tg) (it:P0) (c:Ex) (e:Ex)
 |Wd (a b:Ex)|afv (e:Ex)|afw (e:Ex)
inductive Dl where
 |nil|cons (e:Ex) (es:Dl)
inductive OEx where
 |none|some (e:Ex)
inductive P0 where
 |val (e:Ex)|Kh (e:Ex)|enm (e:Ex)|acj (a b c:Ex)
end
noncomputable abbrev Ex.v:=Ex.var
noncomputable abbrev Ex.i(n:Int):Ex:=.cst (.int n)
noncomputable abbrev Ex.l(e:Ex):Ex:=.blt .len (.cons e .nil)
noncomputable abbrev Dl.z:=Dl.nil
noncomputable abbrev Dl.c:=Dl.cons
noncomputable abbrev Dl.o(a:Ex):Dl:=.cons a .nil
noncomputable abbrev Dl.p(a b:Ex):Dl:=.cons a (.cons b .nil)
noncomputable abbrev Dl.q(a b c:Ex):Dl:=.cons a (.cons b (.cons c .nil))
inductive Lv where
 |tg (t:Tg)|sub (o i:Ex)|fld (o:Ex) (f:Nat)
mutual
inductive Br where
 |asg (l:Lv) (e:Ex)|expr (e:Ex)|iff (c:Ex) (a b:m8)|whl (c:Ex) (b:m8)|for_ (t:Tg) (it:P0) (b:m8)
 |ret (e:Ex)|asi|brk|cont|pass|raise (c:Nat) (es:Dl)
inductive m8 where
 |nil|cons (s:Br) (r:m8)
end
noncomputable abbrev Br.a(i:Nat)(e:Ex):Br:=.asg (.tg (.name i)) e
noncomputable abbrev Br.f(c:Ex)(b:m8):Br:=.iff c b .nil
noncomputable abbrev m8.z:=m8.nil
noncomputable abbrev m8.c:=m8.cons
noncomputable abbrev m8.o(a:Br):m8:=.cons a .nil
noncomputable abbrev m8.p(a b:Br):m8:=.cons a (.cons b .nil)
noncomputable abbrev m8.q(a b c:Br):m8:=.cons a (.cons b (.cons c .nil))
structure Fn where
 np:Nat
 ns:Nat
 body:m8
structure Cl where
 init:Nat
 meths:List (Nat×Nat)
noncomputable def fu(M:cj):D->Option (List D)
 |.vl ds=>some ds|.ref n=>match M[n]? with|some (.lst ds)=>some ds|_=>none
 |_=>none
noncomputable def Aw(M:cj):D->Option (List D)
 |.tup ds=>some ds|d=>fu M d
noncomputable def Tp:D->Option Kx
 |.int i=>some (.inl i)|.str s=>some (.inr s)|_=>none
noncomputable def aal:List D->Option (List Kx)
 |[]=>some []
 |d::ds=>match Tp d,aal ds with
  |some k,some ks=>some (k::ks)|_,_=>none
noncomputable def Vd:D->Option (List Kx)
 |.tup ds=>aal ds|_=>none
noncomputable def amj:Kx->D
 |.inl i=>.int i|.inr s=>.str s
noncomputable def amk(ks:List Kx):D:=.tup (ks.map amj)
noncomputable def Ea:List D->Option (List (List Kx))
 |[]=>some []
 |d::ds=>match Vd d,Ea ds with
  |some k,some ks=>some (k::ks)|_,_=>none
noncomputable def Q8(f:D->D->Option Bool):List D->List D->Option Bool
 |[],[]=>some true
 |a::as,b::bs=>match f a b,Q8 f as bs with
  |some x,some y=>some (x&&y)|_,_=>none
 |_,_=>some false
instance:DecidableEq Kx:=inferInstanceAs (DecidableEq (Sum Int Str))
noncomputable def vz{κ:Type}[DecidableEq κ](iw:List (κ×D))(k:κ):Option D:=(iw.find? λp=>decide (p.1=k)).map (·.2)
noncomputable def Kl(M:cj):Nat->D->D->Option Bool
 |0,_,_=>none
 |n+1,a,b=>match a,b with
  |.int i,.int j=>some (decide (i=j))|.bl i,.bl j=>some (i==j)|.str i,.str j=>some (decide (i=j))|.non,.non=>some true|.tup as,.tup bs=>Q8 (Kl M n) as bs
  |a,b=>match fu M a,fu M b with
   |some as,some bs=>if as.length=bs.length then Q8 (Kl M n) as bs else some false
   |_,_=>none
noncomputable def vd(M:cj)(a b:D):Option Bool:=Kl M 6 a b
noncomputable def Qo(M:cj)(x:D):List D->Option (List Bool)
 |[]=>some []
 |y::ys=>match vd M y x,Qo M x ys with
  |some a,some b=>some (a::b)|_,_=>none
noncomputable def memD(M:cj)(x:D)(ds:List D):Option Bool:=(Qo M x ds).map (·.any id)
noncomputable def Yi(M:cj)(x:D)(ds:List D):Option Nat:=(Qo M x ds).bind (·.findIdx? id)
noncomputable def Y9:List D->Option (List Int)
 |[]=>some []|.int i::r=>(Y9 r).map (i::·)|_::_=>none
noncomputable def Yj(n:Nat)(i:Int):Option Nat:=if 0<=i then(if i<n then some i.toNat else none) else if -(n:Int)<=i then some (i+n).toNat else none
noncomputable def clip(n:Nat)(d:Nat):Option Int->Nat
 |none=>d|some i=>if 0<=i then min i.toNat n else(i+n).toNat
noncomputable def We(ds:List D)(lo hi:Option Int):List D:=(ds.drop (clip ds.length 0 lo)).take (clip ds.length ds.length hi-clip ds.length 0 lo)
noncomputable def ayg:List Int->Option Int
 |[]=>none|a::r=>some (r.foldl (λm x=>if m<x then x else m) a)
noncomputable def a5h:List Int->Option Int
 |[]=>none|a::r=>some (r.foldl (λm x=>if x<m then x else m) a)
noncomputable def insI(x:Int):List Int->List Int
 |[]=>[x]|y::ys=>if x<y then x::y::ys else y::insI x ys
noncomputable def sortI(xs:Xs):List Int:=xs.foldr insI []
noncomputable def Al:List Int->List Int
 |[]=>[]|x::xs=>if x∈xs then Al xs else x::Al xs
noncomputable def keysOf(M:cj)(d:D):Option (List D) :=
 match d with
 |.ref n=>match M[n]? with
  |some (.dT iw)=>some (iw.map λp=>amk p.1)
  |_=>fu M d
 |_=>fu M d
noncomputable def Cq{κ:Type}[DecidableEq κ](iw:List (κ×D))(k:κ)(v:D):List (κ×D) :=
 if(iw.any λkv=>decide (kv.1=k))=true then iw.map (λkv=>if kv.1=k then(kv.1,v) else kv) else iw++[(k,v)]
noncomputable def Eb(xs:List (List Kx)):Bool:=decide (xs.length<=30)&&xs.all λk=>k.all λx=>match x with|.inl _=>true|.inr _=>false
noncomputable def Jk(xs ys:List (List Kx)):Bool:=xs.all (λx=>ys.any λy=>decide (y=x))&&ys.all (λy=>xs.any λx=>decide (x=y))
noncomputable def new(o:MO)(M:cj):Res D:=.ok (.ref M.length) (M++[o])
noncomputable def ack(a b:D)(M:cj):Res D :=
 match a,b with
 |.int i,.int j=>.ok (.int (i+j)) M|.tup xs,.tup ys=>if xs.length+ys.length<=100000 then .ok (.tup (xs++ys)) M else .bad
 |x,y=>match fu M x,fu M y with
  |some xs,some ys=>if xs.length+ys.length<=100000 then .ok (.vl (xs++ys)) M else .bad
  |_,_=>.bad
noncomputable def afx(x y:D)(M:cj):Res D :=
 match fu M x,fu M y with
 |some xs,some ys=>if xs.length+ys.length<=100000 then new (.lst (xs++ys)) M else .bad
 |_,_=>.bad
noncomputable def ii{α:Type}(x y:D)(f:Int->Int->α)(z:α):α:=match x with|.int i=>(match y with|.int j=>f i j|_=>z)|_=>z
def aam(h:ii x y f z=r)(hz:z≠r):∃i j,x=.int i/\y=.int j/\f i j=r:=by
 cases x with
 |int i=>cases y with
  |int j=>exact⟨i,j,rfl,rfl,h⟩|_=>exact absurd h hz
 |_=>exact absurd h hz
@[simp] def bca(i j:Int)(f:Int->Int->α)(z:α):ii (.int i) (.int j) f z=f i j:=rfl
noncomputable def a5i(a b:D)(M:cj):Res D:=ii a b (λi j=>.ok (.int (i-j)) M) .bad
noncomputable def acn(a b:D)(M:cj):Res D:=match a with
 |.tup [d]=>(match b with|.int n=>if 0<=n/\n<=100000 then .ok (.tup (List.replicate n.toNat d)) M else .bad|_=>.bad)
 |_=>ii a b (λi j=>if(-(2 ^ 64)<i/\i<2 ^ 64)\/(-(2 ^ 64)<j/\j<2 ^ 64) then .ok (.int (i*j)) M else .bad) .bad
noncomputable def ayh(a b:D)(M:cj):Res D:=ii a b (λi j=>if 0<j/\j<1073741824 then .ok (.int (i / j)) M else .bad) .bad
noncomputable def a5j(a b:D)(M:cj):Res D:=ii a b (λi j=>if 0<j then .ok (.int (i%j)) M else .bad) .bad
noncomputable def aww(a b:D)(M:cj):Res D:=ii a b (λi j=>if 0<=j/\j<=64/\i.natAbs<2 ^ 64 then .ok (.int (i ^ j.toNat)) M else .bad) .bad
noncomputable def Cm(op:Op2):D->D->cj->Res D :=
 match op with
 |.add=>ack|.amh=>afx|.sub=>a5i|.mul=>acn|.fdiv=>ayh|.mod=>a5j|.pow=>aww
noncomputable def Py(M:cj)(a b:D):Option Bool :=
 match b with
 |.ref n=>match M[n]? with
  |some (.dT iw)=>(Vd a).map λk=>(vz iw k).isSome
  |some (.dK iw)=>(Tp a).map λk=>(vz iw k).isSome
  |_=>(Aw M b).bind (memD M a)
 |_=>(Aw M b).bind (memD M a)
noncomputable def asj(a b:D):Option Bool:=match b with
 |.non=>(match a with|.non=>some true|.tup _=>some false|.vl _=>some false|_=>none)
 |_=>none
noncomputable def aco(f:Int->Int->Bool)(a b:D):Option Bool:=ii a b (λi j=>some (f i j)) none
noncomputable def Gw(op:Cp)(a b:D)(M:cj):Option Bool :=
 match op with
 |.lt=>aco (λi j=>decide (i<j)) a b
 |.le=>aco (λi j=>decide (i<=j)) a b
 |.gt=>aco (λi j=>decide (j<i)) a b
 |.ge=>aco (λi j=>decide (j<=i)) a b
 |.eq=>vd M a b|.ne=>(vd M a b).map not|.inn=>Py M a b|.Ra=>(Py M a b).map not|.is=>asj a b|.ami=>(asj a b).map not
noncomputable def Am(a b:D)(M:cj):Option D :=
 match a with
 |.ref n=>match M[n]? with
  |some (.dT iw)=>(Vd b).bind (vz iw)|some (.dK iw)=>(Tp b).bind (vz iw)
  |_=>match fu M a,b with
   |some ds,.int i=>(Yj ds.length i).bind λj=>ds[j]?
   |_,_=>none
 |.fz ds=>match b with
  |.int i=>(Yj ds.length i).bind λj=>ds[j]?
  |_=>none
 |_=>match Aw M a,b with
  |some ds,.int i=>(Yj ds.length i).bind λj=>ds[j]?
  |_,_=>none
noncomputable def Hh(a:D)(lo hi:Option Int)(M:cj):Option D :=
 match a with
 |.tup ds=>some (.tup (We ds lo hi))|_=>(fu M a).map λds=>.vl (We ds lo hi)
noncomputable def allB:List D->Option Bool
 |[]=>some true|.bl b::r=>(allB r).map (b&&·)|_::_=>none
noncomputable def afy(iw:List (List Kx×D)):Bool:=iw.all λp=>match p.1 with
 |[.inl i,.inl j]=>decide (-1<=i)&&decide (i<9)&&decide (-1<=j)&&decide (j<9)|_=>false
noncomputable def Lg(M:cj):D->Res D
 |.ref n=>match M[n]? with
  |some (.lst ds)=>.ok (.int ds.length) M|_=>.bad
 |.fz ds=>.ok (.int ds.length) M|.tup ds=>.ok (.int ds.length) M|.vl ds=>.ok (.int ds.length) M|_=>.bad
noncomputable def ahi(M:cj):D->Res D
 |.ref n=>match M[n]? with
  |some (.dT iw)=>if afy iw then new (.dT iw) M else .bad
  |some (.dK iw)=>new (.dK iw) M|_=>.bad
 |_=>.bad
noncomputable def isB:D->Option Bool
 |.bl _=>some true|_=>none
noncomputable def two(ds:List D)(f:Int->Int->Int)(g:D->Option Int)(M:cj):Res D :=
 match ds with
 |[a,b]=>(match a,b with|.int i,.int j=>.ok (.int (f i j)) M|_,_=>.bad)
 |[d]=>Res.u9 ((g d).map D.int) M|_=>.bad
noncomputable def Yk(ds:List D)(g:D->Res D):Res D :=
 match ds with
 |[d]=>g d|_=>.bad
noncomputable def uh(b:Blt)(ds:List D)(M:cj):Res D :=
 match b with
 |.len=>Yk ds (Lg M)|.tuple=>Yk ds λd=>Res.u9 ((Aw M d).map D.tup) M
 |.list=>Yk ds λd=>match Aw M d with
  |some ds=>new (.lst ds) M|none=>.bad
 |.max=>two ds (λi j=>if i<j then j else i) (λd=>((fu M d).bind Y9).bind ayg) M
 |.min=>two ds (λi j=>if j<i then j else i) (λd=>((fu M d).bind Y9).bind a5h) M
 |.Gi=>Yk ds λd=>Res.u9 (((fu M d).bind Y9).bind λis=>if is.length<31 then some (D.vl ((sortI (Al is)).map D.int)) else none) M
 |.dict=>Yk ds (ahi M)|.all=>Yk ds λd=>Res.u9 (((fu M d).bind allB).map D.bl) M
 |.isBool=>Yk ds λd=>Res.u9 ((isB d).map D.bl) M
noncomputable def Qp(m:Bm)(x:D)(M:cj):Bool :=
 match m,x with
 |.append,.ref n=>match M[n]? with|some (.lst _)=>true|_=>false
 |.index,x=>(fu M x).isSome|.get,.ref n=>match M[n]? with|some (.dK _)=>true|_=>false
 |_,_=>false
noncomputable def Kr(m:Bm)(o:D)(ds:List D)(M:cj):Res D :=
 match m,o,ds with
 |.append,.ref n,[d]=>match M[n]? with
  |some (.lst xs)=>if xs.length<100000 then .ok .non (M.set n (.lst (xs++[d]))) else .bad
  |_=>.bad
 |.index,o,[d]=>Res.u9 (((Aw M o).bind (Yi M d)).map λj=>D.int (j:Int)) M
 |.get,.ref n,[k,d]=>match M[n]? with
  |some (.dK iw)=>Res.u9 ((Tp k).map λq=>(vz iw q).getD d) M
  |_=>.bad
 |_,_,_=>.bad
noncomputable def setOp(o i v:D)(M:cj):Option cj :=
 match o with
 |.ref n=>match M[n]? with
  |some (.lst xs)=>match i with
   |.int j=>(Yj xs.length j).map λq=>M.set n (.lst (xs.set q v))
   |_=>none
  |some (.dT iw)=>(Vd i).bind λk=>if iw.length<100000 then some (M.set n (.dT (Cq iw k v))) else none
  |some (.dK iw)=>(Tp i).bind λk=>if iw.length<100000 then some (M.set n (.dK (Cq iw k v))) else none
  |_=>none
 |_=>none
noncomputable def Uk(f:Nat)(v:D):List (Nat×D)->List (Nat×D)
 |[]=>[(f,v)]|(g,x)::r=>if g=f then(g,v)::r else(g,x)::Uk f v r
noncomputable def Rb(o:D)(f:Nat)(M:cj):Option D :=
 match o with
 |.ref n=>match M[n]? with
  |some (.ins _ fs)=>fs.lookup f|_=>none
 |_=>none
noncomputable def Rc(o:D)(f:Nat)(v:D)(M:cj):Option cj :=
 match o with
 |.ref n=>match M[n]? with
  |some (.ins c fs)=>if fs.length<1000 then some (M.set n (.ins c (Uk f v fs))) else none
  |_=>none
 |_=>none
inductive Src where
 |con (ds:List D)|live (n:Nat) (len:Nat)
noncomputable def Src.len:Src->Nat
 |.con ds=>ds.length|.live _ k=>k
noncomputable def Src.item(s:Src)(i:Nat)(M:cj):Option D :=
 match s with
 |.con ds=>ds[i]?
 |.live n k=>match M[n]? with
  |some (.lst ds)=>if ds.length=k then ds[i]? else none
  |_=>none
noncomputable def Src.fin(s:Src)(M:cj):Bool :=
 match s with
 |.con _=>true
 |.live n k=>match M[n]? with
  |some (.lst ds)=>ds.length==k|_=>false
noncomputable def srcOf(M:cj)(d:D):Option Src :=
 match d with
 |.tup ds=>some (.con ds)|.vl ds=>some (.con ds)
 |.ref n=>match M[n]? with
  |some (.lst ds)=>some (.live n ds.length)|_=>none
 |_=>none
inductive Flow where
 |next|brk|cont|ret (d:D)
noncomputable def Qq:List Nat->List D->Env->Env
 |i::is,d::ds,ρ=>Qq is ds (ρ.set i (some d))|_,_,ρ=>ρ
noncomputable def Tg.put(t:Tg)(d:D)(ρ:Env):Option Env :=
 match t with
 |.name i=>some (ρ.set i (some d))
 |.names is=>match d with
  |.tup ds=>if ds.length=is.length then some (Qq is ds ρ) else none
  |_=>none
structure Jl where
 call:Nat->List D->cj->Res D
 cls:List Cl
noncomputable def Bw(fin:cj->Bool)(item:Nat->cj->Option D)(body:D->Env->cj->Res (Flow×Env)):Nat->Nat->Env->cj->Res (Flow×Env)
 |0,_,ρ,M=>if fin M then .ok (.next,ρ) M else .bad
 |k+1,i,ρ,M=>match item i M with
  |none=>.bad
  |some d=>(body d ρ M).bind λr M1=>match r.1 with
   |.next=>Bw fin item body k (i+1) r.2 M1|.cont=>Bw fin item body k (i+1) r.2 M1|.brk=>.ok (.next,r.2) M1|.ret v=>.ok (.ret v,r.2) M1
noncomputable def Dk(fin:cj->Bool)(item:Nat->cj->Option D)(body:D->cj->Res (Option D)):Nat->Nat->cj->Res (List D)
 |0,_,M=>if fin M then .ok [] M else .bad
 |k+1,i,M=>match item i M with
  |none=>.bad|some d=>(body d M).bind λo M1=>(Dk fin item body k (i+1) M1).bind λds M2=>.ok (match o with|some x=>x::ds|none=>ds) M2
noncomputable def Ax(s:Src)(body:D->cj->Res (Option D))(M:cj):Res (List D):=if s.len<=100000 then Dk s.fin s.item body s.len 0 M else .bad
noncomputable def Gj(c:Env->cj->Res D)(body:Env->cj->Res (Flow×Env)):Nat->Env->cj->Res (Flow×Env)
 |0,_,_=>.bad
 |k+1,ρ,M=>(c ρ M).bind λb M1=>match b with
  |.bl false=>.ok (.next,ρ) M1
  |.bl true=>(body ρ M1).bind λr M2=>match r.1 with
   |.next=>Gj c body k r.2 M2|.cont=>Gj c body k r.2 M2|.brk=>.ok (.next,r.2) M2|.ret v=>.ok (.ret v,r.2) M2
  |_=>.bad
noncomputable def afz:Nat:=1000000
noncomputable def Cr(ds:List D):Nat->List D:=λn=>(ds.zipIdx n).map λp=>D.tup [.int p.2,p.1]
mutual
noncomputable def Ex.den(W:Jl):Ex->Env->cj->Res D
 |.var i,ρ,M=>match ρ[i]? with
  |some (some d)=>.ok d M|_=>.bad
 |.cst d,_,M=>.ok d M|.bin op a b,ρ,M=>(a.den W ρ M).bind λx M1=>(b.den W ρ M1).bind λy M2=>Cm op x y M2
 |.neg a,ρ,M=>(a.den W ρ M).bind λx M1=>match x with|.int i=>.ok (.int (-i)) M1|_=>.bad
 |.cmp op a b,ρ,M=>(a.den W ρ M).bind λx M1=>(b.den W ρ M1).bind λy M2=>Res.u9 ((Gw op x y M2).map D.bl) M2
 |.chain o1 o2 a b c,ρ,M=>(a.den W ρ M).bind λx M1=>(b.den W ρ M1).bind λy M2=>(Res.u9 (Gw o1 x y M2) M2).bind λq M2=>if q then(c.den W ρ M2).bind λz M3=>Res.u9 ((Gw o2 y z M3).map D.bl) M3 else .ok (.bl false) M2
 |.and a b,ρ,M=>(a.den W ρ M).bind λx M1=>match x with|.bl true=>b.den W ρ M1|.bl false=>.ok (.bl false) M1|_=>.bad
 |.or a b,ρ,M=>(a.den W ρ M).bind λx M1=>match x with|.bl true=>.ok (.bl true) M1|.bl false=>b.den W ρ M1|_=>.bad
 |.not a,ρ,M=>(a.den W ρ M).bind λx M1=>match x with|.bl b=>.ok (.bl !b) M1|_=>.bad
 |.ite c a b,ρ,M=>(c.den W ρ M).bind λx M1=>match x with|.bl true=>a.den W ρ M1|.bl false=>b.den W ρ M1|_=>.bad
 |.tup es,ρ,M=>(es.den W ρ M).bind λds M1=>.ok (.tup ds) M1
 |.lst es,ρ,M=>(es.den W ρ M).bind λds M1=>new (.lst ds) M1
 |.Hu es,ρ,M=>(es.den W ρ M).bind λds M1=>.ok (.vl ds) M1
 |.ajs,_,M=>new (.dT []) M|.aak,_,M=>new (.dK []) M|.ix a b,ρ,M=>(a.den W ρ M).bind λx M1=>(b.den W ρ M1).bind λy M2=>Res.u9 (Am x y M2) M2
 |.cut a lo hi,ρ,M=>(a.den W ρ M).bind λx M1=>(lo.den W ρ M1).bind λl M2=>(hi.den W ρ M2).bind λh M3=>Res.u9 (Hh x l h M3) M3
 |.call f es,ρ,M=>(es.den W ρ M).bind λds M1=>W.call f ds M1
 |.make c es,ρ,M=>(es.den W ρ M).bind λds M1=>match W.cls[c]? with
  |some C=>(W.call C.init (.ref M1.length::ds) (M1++[.ins c []])).bind λr M2=>match r with|.non=>.ok (.ref M1.length) M2|_=>.bad
  |none=>.bad
 |.meth o m es,ρ,M=>(o.den W ρ M).bind λx M1=>(es.den W ρ M1).bind λds M2=>match x with
  |.ref n=>match M1[n]? with
   |some (.ins c _)=>match(W.cls[c]?).bind λC=>C.meths.lookup m with
    |some f=>W.call f (.ref n::ds) M2|none=>.bad
   |_=>.bad
  |_=>.bad
 |.fld o f,ρ,M=>(o.den W ρ M).bind λx M1=>Res.u9 (Rb x f M1) M1
 |.blt b es,ρ,M=>(es.den W ρ M).bind λds M1=>uh b ds M1
 |.bm m o es,ρ,M=>(o.den W ρ M).bind λx M1=>if Qp m x M1 then(es.den W ρ M1).bind λds M2=>Kr m x ds M2 else .bad
 |.comp v k t it e,ρ,M=>(it.den W ρ M).bind λs M1 =>
  (Ax s (λd M=>match t.put d (ρ++List.replicate k none) with
   |some ρ'=>(e.den W ρ' M).bind λx M'=>.ok (some x) M'
   | none=>.bad) M1).bind λds M2=>if v then .ok (.vl ds) M2 else new (.lst ds) M2
 |.Dj v k t it c e,ρ,M=>(it.den W ρ M).bind λs M1 =>
  (Ax s (λd M=>match t.put d (ρ++List.replicate k none) with
   |some ρ'=>(c.den W ρ' M).bind λb M'=>match b with
    |.bl true=>(e.den W ρ' M').bind λx M''=>.ok (some x) M''
    |.bl false=>.ok none M'|_=>.bad
   | none=>.bad) M1).bind λds M2=>if v then .ok (.vl ds) M2 else new (.lst ds) M2
 |.Wd a b,ρ,M=>(a.den W ρ M).bind λx M1 =>
  match(keysOf M1 x).bind Ea with
  |some xs=>if Eb xs then(b.den W ρ M1).bind λy M2 =>
   match(keysOf M2 y).bind Ea with
   |some ys=>if Eb ys then .ok (.bl !Jk xs ys) M2 else .bad
   |none=>.bad
   else .bad
  |none=>.bad
 |.afv e,ρ,M=>(e.den W ρ M).bind λx M1=>match x with
  |.int i=>if i.natAbs<=100000 then .ok (.tup ((List.range i.toNat).map λ(k:Nat)=>D.int (k:Int))) M1 else .bad
  |_=>.bad
 |.afw e,ρ,M=>(e.den W ρ M).bind λx M1=>match x with
  |.int i=>if i.natAbs<=100000 then new (.lst ((List.range i.toNat).map λ(k:Nat)=>D.int (k:Int))) M1 else .bad
  |_=>.bad
noncomputable def Dl.den(W:Jl):Dl->Env->cj->Res (List D)
 |.nil,_,M=>.ok [] M|.cons e es,ρ,M=>(e.den W ρ M).bind λx M1=>(es.den W ρ M1).bind λxs M2=>.ok (x::xs) M2
noncomputable def OEx.den(W:Jl):OEx->Env->cj->Res (Option Int)
 |.none,_,M=>.ok none M|.some e,ρ,M=>(e.den W ρ M).bind λx M1=>match x with|.int i=>.ok (some i) M1|_=>.bad
noncomputable def P0.den(W:Jl):P0->Env->cj->Res Src
 |.val e,ρ,M=>(e.den W ρ M).bind λx M1=>Res.u9 (srcOf M1 x) M1
 |.Kh e,ρ,M=>(e.den W ρ M).bind λx M1=>match x with
  |.int i=>if i.natAbs<=100000 then .ok (.con ((List.range i.toNat).map λ(k:Nat)=>D.int (k:Int))) M1 else .bad
  |_=>.bad
 |.enm e,ρ,M=>(e.den W ρ M).bind λx M1=>match x with
  |.tup ds=>.ok (.con (Cr ds 0)) M1|.vl ds=>.ok (.con (Cr ds 0)) M1|_=>.bad
 |.acj a b c,ρ,M=>(a.den W ρ M).bind λx M1=>(b.den W ρ M1).bind λy M2=>(c.den W ρ M2).bind λz M3=>match x,y,z with
  |.tup ds,.tup es,.tup fs=>if ds.length=es.length/\es.length=fs.length then .ok (.con ((ds.zip (es.zip fs)).map λp=>D.tup [p.1,p.2.1,p.2.2])) M3 else .bad
  |_,_,_=>.bad
end
noncomputable def Lv.put(W:Jl)(l:Lv)(d:D)(ρ:Env)(M:cj):Res Env :=
 match l with
 |.tg t=>Res.u9 (t.put d ρ) M|.sub o i=>(o.den W ρ M).bind λx M1=>(i.den W ρ M1).bind λy M2=>(Res.u9 (setOp x y d M2) M2).bind λM3 _=>.ok ρ M3
 |.fld o f=>(o.den W ρ M).bind λx M1=>(Res.u9 (Rc x f d M1) M1).bind λM2 _=>.ok ρ M2
mutual
noncomputable def Br.den(W:Jl):Br->Env->cj->Res (Flow×Env)
 |.asg l e,ρ,M=>(e.den W ρ M).bind λx M1=>(l.put W x ρ M1).bind fun ρ' M2=>.ok (.next,ρ') M2
 |.expr e,ρ,M=>(e.den W ρ M).bind λ_ M1=>.ok (.next,ρ) M1
 |.iff c a b,ρ,M=>(c.den W ρ M).bind λx M1=>match x with|.bl true=>a.den W ρ M1|.bl false=>b.den W ρ M1|_=>.bad
 |.whl c b,ρ,M=>Gj (c.den W) (b.den W) afz ρ M
 | .for_ t it b,ρ,M=>(it.den W ρ M).bind λs M1=>Bw s.fin s.item (λd ρ M=>match t.put d ρ with
  | some ρ'=>b.den W ρ' M|none=>.bad) s.len 0 ρ M1
 |.ret e,ρ,M=>(e.den W ρ M).bind λx M1=>.ok (.ret x,ρ) M1
 |.asi,ρ,M=>.ok (.ret .non,ρ) M|.brk,ρ,M=>.ok (.brk,ρ) M|.cont,ρ,M=>.ok (.cont,ρ) M|.pass,ρ,M=>.ok (.next,ρ) M|.raise c es,ρ,M=>(es.den W ρ M).bind λ_ M1=>.err c M1
noncomputable def m8.den(W:Jl):m8->Env->cj->Res (Flow×Env)
 |.nil,ρ,M=>.ok (.next,ρ) M
 |.cons s r,ρ,M=>(s.den W ρ M).bind λp M1=>match p.1 with
  |.next=>r.den W p.2 M1|.brk=>.ok (.brk,p.2) M1|.cont=>.ok (.cont,p.2) M1|.ret d=>.ok (.ret d,p.2) M1
end
structure Prog where
 fns:List Fn
 cls:List Cl
noncomputable def Fn.run(W:Jl)(f:Fn)(ds:List D)(M:cj):Res D :=
 if ds.length=f.np then
  (f.body.den W (ds.map some++List.replicate (f.ns-f.np) none) M).bind λp M1=>match p.1 with
   |.ret d=>.ok d M1|.next=>.ok .non M1|_=>.bad
 else .bad
noncomputable def Prog.call(P:Prog):Nat->Nat->List D->cj->Res D
 |0,_,_,_=>.bad
 |n+1,f,ds,M=>match P.fns[f]? with
  |some F=>F.run ⟨P.call n,P.cls⟩ ds M|none=>.bad
@[simp] def Rf(i:Nat):(Ex.var i).den W ρ M=match ρ[i]? with|some (some d)=>.ok d M|_=>.bad:=rfl
@[simp high] theorem bcb(d:D)(r:Env):(Ex.var 0).den W (some d::r) M=.ok d M:=rfl
@[simp high] theorem bcc(a0:Option D)(d:D)(r:Env):(Ex.var 1).den W (a0::some d::r) M=.ok d M:=rfl
@[simp high] theorem bcd(a0 a1:Option D)(d:D)(r:Env):(Ex.var 2).den W (a0::a1::some d::r) M=.ok d M:=rfl
@[simp high] theorem bcf(a0 a1 a2:Option D)(d:D)(r:Env):(Ex.var 3).den W (a0::a1::a2::some d::r) M=.ok d M:=rfl
@[simp high] theorem bcg(a0 a1 a2 a3:Option D)(d:D)(r:Env):(Ex.var 4).den W (a0::a1::a2::a3::some d::r) M=.ok d M:=rfl
@[simp high] theorem bch(a0 a1 a2 a3 a4:Option D)(d:D)(r:Env):(Ex.var 5).den W (a0::a1::a2::a3::a4::some d::r) M=.ok d M:=rfl
@[simp high] theorem bci(a0 a1 a2 a3 a4 a5:Option D)(d:D)(r:Env):(Ex.var 6).den W (a0::a1::a2::a3::a4::a5::some d::r) M=.ok d M:=rfl
@[simp high] theorem bck(a0 a1 a2 a3 a4 a5 a6:Option D)(d:D)(r:Env):(Ex.var 7).den W (a0::a1::a2::a3::a4::a5::a6::some d::r) M=.ok d M:=rfl
@[simp high] theorem bcl(a0 a1 a2 a3 a4 a5 a6 a7:Option D)(d:D)(r:Env):(Ex.var 8).den W (a0::a1::a2::a3::a4::a5::a6::a7::some d::r) M=.ok d M:=rfl
@[simp high] theorem bcm(a0 a1 a2 a3 a4 a5 a6 a7 a8:Option D)(d:D)(r:Env):(Ex.var 9).den W (a0::a1::a2::a3::a4::a5::a6::a7::a8::some d::r) M=.ok d M:=rfl
@[simp high] theorem a99(a0 a1 a2 a3 a4 a5 a6 a7 a8 a9:Option D)(d:D)(r:Env):(Ex.var 10).den W (a0::a1::a2::a3::a4::a5::a6::a7::a8::a9::some d::r) M=.ok d M:=rfl
@[simp high] theorem baa(a0 a1 a2 a3 a4 a5 a6 a7 a8 a9 a10:Option D)(d:D)(r:Env):(Ex.var 11).den W (a0::a1::a2::a3::a4::a5::a6::a7::a8::a9::a10::some d::r) M=.ok d M:=rfl
@[simp high] theorem bab(a0 a1 a2 a3 a4 a5 a6 a7 a8 a9 a10 a11:Option D)(d:D)(r:Env):(Ex.var 12).den W (a0::a1::a2::a3::a4::a5::a6::a7::a8::a9::a10::a11::some d::r) M=.ok d M:=rfl
@[simp] def Rg(d:D):(Ex.cst d).den W ρ M=.ok d M:=rfl
@[simp] def Rh(op:Op2)(a b:Ex):(Ex.bin op a b).den W ρ M=(a.den W ρ M).bind λx M1=>(b.den W ρ M1).bind λy M2=>Cm op x y M2:=rfl
@[simp] def asl(a:Ex):(Ex.neg a).den W ρ M=(a.den W ρ M).bind λx M1=>match x with|.int i=>.ok (.int (-i)) M1|_=>.bad:=rfl
@[simp] def asm(op:Cp)(a b:Ex):(Ex.cmp op a b).den W ρ M=(a.den W ρ M).bind λx M1=>(b.den W ρ M1).bind λy M2=>Res.u9 ((Gw op x y M2).map D.bl) M2:=rfl
@[simp] def aju(o1 o2:Cp)(a b c:Ex):(Ex.chain o1 o2 a b c).den W ρ M=(a.den W ρ M).bind λx M1=>(b.den W ρ M1).bind λy M2=>(Res.u9 (Gw o1 x y M2) M2).bind λq M2=>if q then(c.den W ρ M2).bind λz M3=>Res.u9 ((Gw o2 y z M3).map D.bl) M3 else .ok (.bl false) M2:=rfl
def ahj(a b:Ex):(Ex.and a b).den W ρ M=(a.den W ρ M).bind λx M1=>match x with|.bl true=>b.den W ρ M1|.bl false=>.ok (.bl false) M1|_=>.bad:=rfl
def aml(a b:Ex):(Ex.or a b).den W ρ M=(a.den W ρ M).bind λx M1=>match x with|.bl true=>.ok (.bl true) M1|.bl false=>b.den W ρ M1|_=>.bad:=rfl
@[simp] def ahk(a:Ex):(Ex.not a).den W ρ M=(a.den W ρ M).bind λx M1=>match x with|.bl b=>.ok (.bl !b) M1|_=>.bad:=rfl
def asn(c a b:Ex):(Ex.ite c a b).den W ρ M=(c.den W ρ M).bind λx M1=>match x with|.bl true=>a.den W ρ M1|.bl false=>b.den W ρ M1|_=>.bad:=rfl
@[simp] def aso(es:Dl):(Ex.tup es).den W ρ M=(es.den W ρ M).bind λds M1=>.ok (.tup ds) M1:=rfl
@[simp] def asp(es:Dl):(Ex.lst es).den W ρ M=(es.den W ρ M).bind λds M1=>new (.lst ds) M1:=rfl
@[simp] def amm(es:Dl):(Ex.Hu es).den W ρ M=(es.den W ρ M).bind λds M1=>.ok (.vl ds) M1:=rfl
@[simp] def amn:Ex.ajs.den W ρ M=new (.dT []) M:=rfl
@[simp] def amo:Ex.aak.den W ρ M=new (.dK []) M:=rfl
@[simp] def ayi(a b:Ex):(Ex.ix a b).den W ρ M=(a.den W ρ M).bind λx M1=>(b.den W ρ M1).bind λy M2=>Res.u9 (Am x y M2) M2:=rfl
@[simp] def asq(a:Ex)(lo hi:OEx):(Ex.cut a lo hi).den W ρ M=(a.den W ρ M).bind λx M1=>(lo.den W ρ M1).bind λl M2=>(hi.den W ρ M2).bind λh M3=>Res.u9 (Hh x l h M3) M3:=rfl
@[simp] def amq(f:Nat)(es:Dl):(Ex.call f es).den W ρ M=(es.den W ρ M).bind λds M1=>W.call f ds M1:=rfl
@[simp] theorem acp{W:Jl}{ρ:Env}{M:cj}(c:Nat)(es:Dl):(Ex.make c es).den W ρ M=(es.den W ρ M).bind λds M1=>match W.cls[c]? with
 |some C=>(W.call C.init (.ref M1.length::ds) (M1++[.ins c []])).bind λr M2=>match r with|.non=>.ok (.ref M1.length) M2|_=>.bad
 |none=>.bad:=rfl
@[simp] theorem Ri{W:Jl}{ρ:Env}{M:cj}(o:Ex)(m:Nat)(es:Dl):(Ex.meth o m es).den W ρ M=(o.den W ρ M).bind λx M1=>(es.den W ρ M1).bind λds M2=>match x with
 |.ref n=>match M1[n]? with
  |some (.ins c _)=>match(W.cls[c]?).bind λC=>C.meths.lookup m with
   |some f=>W.call f (.ref n::ds) M2|none=>.bad
  |_=>.bad
 |_=>.bad:=rfl
@[simp] def asr(o:Ex)(f:Nat):(Ex.fld o f).den W ρ M=(o.den W ρ M).bind λx M1=>Res.u9 (Rb x f M1) M1:=rfl
@[simp] def aan(b:Blt)(es:Dl):(Ex.blt b es).den W ρ M=(es.den W ρ M).bind λds M1=>uh b ds M1:=rfl
@[simp] def ayj(m:Bm)(o:Ex)(es:Dl):(Ex.bm m o es).den W ρ M=(o.den W ρ M).bind λx M1=>if Qp m x M1 then(es.den W ρ M1).bind λds M2=>Kr m x ds M2 else .bad:=rfl
@[simp] theorem amr{W:Jl}{ρ:Env}{M:cj}(e:Ex):(Ex.afv e).den W ρ M=(e.den W ρ M).bind λx M1=>match x with
 |.int i=>if i.natAbs<=100000 then .ok (.tup ((List.range i.toNat).map λ(k:Nat)=>D.int (k:Int))) M1 else .bad
 |_=>.bad:=rfl
@[simp] theorem ams{W:Jl}{ρ:Env}{M:cj}(e:Ex):(Ex.afw e).den W ρ M=(e.den W ρ M).bind λx M1=>match x with
 |.int i=>if i.natAbs<=100000 then new (.lst ((List.range i.toNat).map λ(k:Nat)=>D.int (k:Int))) M1 else .bad
 |_=>.bad:=rfl
def Nt(v:Bool)(k:Nat)(t:Tg)(it:P0)(e:Ex):(Ex.comp v k t it e).den W ρ M=(it.den W ρ M).bind λs M1 =>
 (Ax s (λd M=>match t.put d (ρ++List.replicate k none) with
  |some ρ'=>(e.den W ρ' M).bind λx M'=>.ok (some x) M'
  | none=>.bad) M1).bind λds M2=>if v then .ok (.vl ds) M2 else new (.lst ds) M2:=rfl
def Wf(v:Bool)(k:Nat)(t:Tg)(it:P0)(c e:Ex):(Ex.Dj v k t it c e).den W ρ M=(it.den W ρ M).bind λs M1 =>
 (Ax s (λd M=>match t.put d (ρ++List.replicate k none) with
  |some ρ'=>(c.den W ρ' M).bind λb M'=>match b with
   |.bl true=>(e.den W ρ' M').bind λx M''=>.ok (some x) M''
   |.bl false=>.ok none M'|_=>.bad
  | none=>.bad) M1).bind λds M2=>if v then .ok (.vl ds) M2 else new (.lst ds) M2:=rfl
@[simp] def Rj:Dl.nil.den W ρ M=.ok [] M:=rfl
@[simp] def Hq(e:Ex)(es:Dl):(Dl.cons e es).den W ρ M=(e.den W ρ M).bind λx M1=>(es.den W ρ M1).bind λxs M2=>.ok (x::xs) M2:=rfl
@[simp] def ajv:OEx.none.den W ρ M=.ok none M:=rfl
@[simp] def ajw(e:Ex):(OEx.some e).den W ρ M=(e.den W ρ M).bind λx M1=>match x with|.int i=>.ok (some i) M1|_=>.bad:=rfl
@[simp] def Lh(e:Ex):(P0.val e).den W ρ M=(e.den W ρ M).bind λx M1=>Res.u9 (srcOf M1 x) M1:=rfl
@[simp] theorem Ph{W:Jl}{ρ:Env}{M:cj}(e:Ex):(P0.Kh e).den W ρ M=(e.den W ρ M).bind λx M1=>match x with
 |.int i=>if i.natAbs<=100000 then .ok (.con ((List.range i.toNat).map λ(k:Nat)=>D.int (k:Int))) M1 else .bad
 |_=>.bad:=rfl
@[simp] theorem ahl{W:Jl}{ρ:Env}{M:cj}(e:Ex):(P0.enm e).den W ρ M=(e.den W ρ M).bind λx M1=>match x with
 |.tup ds=>.ok (.con (Cr ds 0)) M1|.vl ds=>.ok (.con (Cr ds 0)) M1|_=>.bad:=rfl
@[simp] theorem amt(a b c:Ex):(P0.acj a b c).den W ρ M=(a.den W ρ M).bind λx M1=>(b.den W ρ M1).bind λy M2=>(c.den W ρ M2).bind λz M3=>match x,y,z with
 |.tup ds,.tup es,.tup fs=>if ds.length=es.length/\es.length=fs.length then .ok (.con ((ds.zip (es.zip fs)).map λp=>D.tup [p.1,p.2.1,p.2.2])) M3 else .bad
 |_,_,_=>.bad:=rfl
@[simp] def aao(l:Lv)(e:Ex):(Br.asg l e).den W ρ M=(e.den W ρ M).bind λx M1=>(l.put W x ρ M1).bind fun ρ' M2=>.ok (.next,ρ') M2:=rfl
@[simp] def ass(e:Ex):(Br.expr e).den W ρ M=(e.den W ρ M).bind λ_ M1=>.ok (.next,ρ) M1:=rfl
def ayk(c:Ex)(a b:m8):(Br.iff c a b).den W ρ M=(c.den W ρ M).bind λx M1=>match x with|.bl true=>a.den W ρ M1|.bl false=>b.den W ρ M1|_=>.bad:=rfl
@[simp] def ayl(e:Ex):(Br.ret e).den W ρ M=(e.den W ρ M).bind λx M1=>.ok (.ret x,ρ) M1:=rfl
@[simp] def bac:Br.asi.den W ρ M=.ok (.ret .non,ρ) M:=rfl
@[simp] def aym:Br.brk.den W ρ M=.ok (.brk,ρ) M:=rfl
@[simp] def asu:Br.cont.den W ρ M=.ok (.cont,ρ) M:=rfl
@[simp] def asv:Br.pass.den W ρ M=.ok (.next,ρ) M:=rfl
@[simp] def amu(c:Nat)(es:Dl):(Br.raise c es).den W ρ M=(es.den W ρ M).bind λ_ M1=>.err c M1:=rfl
def aap(c:Ex)(b:m8):(Br.whl c b).den W ρ M=Gj (c.den W) (b.den W) afz ρ M:=rfl
def Tq(t:Tg)(it:P0)(b:m8):(Br.for_ t it b).den W ρ M=(it.den W ρ M).bind λs M1=>Bw s.fin s.item (λd ρ M=>match t.put d ρ with
 | some ρ'=>b.den W ρ' M|none=>.bad) s.len 0 ρ M1:=rfl
@[simp] def asw:m8.nil.den W ρ M=.ok (.next,ρ) M:=rfl
theorem amv{W:Jl}{ρ:Env}{M:cj}(s:Br)(r:m8):(m8.cons s r).den W ρ M=(s.den W ρ M).bind λp M1=>match p.1 with
 |.next=>r.den W p.2 M1|.brk=>.ok (.brk,p.2) M1|.cont=>.ok (.cont,p.2) M1|.ret d=>.ok (.ret d,p.2) M1:=rfl
noncomputable def ajx(W:Jl)(r:m8)(x:Res (Flow×Env)):Res (Flow×Env):=x.bind λp M1=>match p.1 with
 |.next=>r.den W p.2 M1|.brk=>.ok (.brk,p.2) M1|.cont=>.ok (.cont,p.2) M1|.ret d=>.ok (.ret d,p.2) M1
@[simp] def bae(s:Br)(r:m8):(m8.cons s r).den W ρ M=ajx W r (s.den W ρ M):=rfl
@[simp] def a5k(r:m8):ajx W r (.ok (.next,ρ) M)=r.den W ρ M:=rfl
@[simp] def baf(r:m8):ajx W r (.ok (.brk,ρ) M)=.ok (.brk,ρ) M:=rfl
@[simp] def a5l(r:m8):ajx W r (.ok (.cont,ρ) M)=.ok (.cont,ρ) M:=rfl
@[simp] def bag(r:m8)(d:D):ajx W r (.ok (.ret d,ρ) M)=.ok (.ret d,ρ) M:=rfl
@[simp] def bah(r:m8)(c:Nat):ajx W r (.err c M)=.err c M:=rfl
noncomputable def ifK{α:Type}(a b:cj->Res α)(x:Res D):Res α:=x.bind λx M1=>match x with|.bl true=>a M1|.bl false=>b M1|_=>.bad
@[simp] def a5m(c:Ex)(a b:m8):(Br.iff c a b).den W ρ M=ifK (a.den W ρ) (b.den W ρ) (c.den W ρ M):=rfl
@[simp] def bcn(c a b:Ex):(Ex.ite c a b).den W ρ M=ifK (a.den W ρ) (b.den W ρ) (c.den W ρ M):=rfl
@[simp] def bco(a b:Ex):(Ex.and a b).den W ρ M=ifK (b.den W ρ) (.ok (.bl false)) (a.den W ρ M):=rfl
@[simp] def bgu(a b:Ex):(Ex.or a b).den W ρ M=ifK (.ok (.bl true)) (b.den W ρ) (a.den W ρ M):=rfl
@[simp] def bgv(a b:cj->Res α):ifK a b (.ok (.bl true) M)=a M:=rfl
@[simp] def bgw(a b:cj->Res α):ifK a b (.ok (.bl false) M)=b M:=rfl
@[simp] def bcp(a b:cj->Res α)(c:Nat):ifK a b (.err c M)=.err c M:=rfl
theorem Za{W:Jl}{ρ:Env}{M:cj}(a b:Ex):(Ex.Wd a b).den W ρ M=(a.den W ρ M).bind λx M1 =>
 match(keysOf M1 x).bind Ea with
 |some xs=>if Eb xs then(b.den W ρ M1).bind λy M2 =>
  match(keysOf M2 y).bind Ea with
  |some ys=>if Eb ys then .ok (.bl !Jk xs ys) M2 else .bad
  |none=>.bad
  else .bad
 |none=>.bad:=rfl
@[simp] def amw(t:Tg)(d:D):(Lv.tg t).put W d ρ M=Res.u9 (t.put d ρ) M:=rfl
@[simp] def asx(o i:Ex)(d:D):(Lv.sub o i).put W d ρ M=(o.den W ρ M).bind λx M1=>(i.den W ρ M1).bind λy M2=>(Res.u9 (setOp x y d M2) M2).bind λM3 _=>.ok ρ M3:=rfl
@[simp] def asy(o:Ex)(f:Nat)(d:D):(Lv.fld o f).put W d ρ M=(o.den W ρ M).bind λx M1=>(Res.u9 (Rc x f d M1) M1).bind λM2 _=>.ok ρ M2:=rfl
@[simp] def ayo(i:Nat)(d:D):(Tg.name i).put d ρ=some (ρ.set i (some d)):=rfl
@[simp] def awx(is:Y3)(ds:List D)(h:ds.length=is.length):(Tg.names is).put (.tup ds) ρ=some (Qq is ds ρ):=by simp[Tg.put,h]
@[simp] def awy(i:Nat)(is:Y3)(d:D)(ds:List D):Qq (i::is) (d::ds) ρ=Qq is ds (ρ.set i (some d)):=rfl
@[simp] def ayp(ds:List D):Qq [] ds ρ=ρ:=by cases ds<;>rfl
@[simp] def a5n(i j:Int):Cm .add (.int i) (.int j) M=.ok (.int (i+j)) M:=rfl
@[simp] def a5o(i j:Int):Cm .sub (.int i) (.int j) M=.ok (.int (i-j)) M:=rfl
def Nu(i j:Int)(h:(-(2 ^ 64)<i/\i<2 ^ 64)\/(-(2 ^ 64)<j/\j<2 ^ 64)):Cm .mul (.int i) (.int j) M=.ok (.int (i*j)) M:=cg h
def Zb(i j:Int)(h:0<j)(h2:j<1073741824):Cm .fdiv (.int i) (.int j) M=.ok (.int (i / j)) M:=cg ⟨h,h2⟩
@[simp] def amx(i j:Int)(h:0<j):Cm .mod (.int i) (.int j) M=.ok (.int (i%j)) M:=cg h
@[simp] def ayq:Cm .pow (.int 10) (.int 18) M=.ok (.int (10 ^ 18)) M:=by simp[Cm,aww]
def ajy(xs ys:List D)(h:xs.length+ys.length<=100000):Cm .add (.tup xs) (.tup ys) M=.ok (.tup (xs++ys)) M:=cg h
def Zc(xs ys:List D)(h:xs.length+ys.length<=100000):Cm .add (.vl xs) (.vl ys) M=.ok (.vl (xs++ys)) M:=cg h
@[simp] def bcq(i j:Int):Gw .lt (.int i) (.int j) M=some (decide (i<j)):=rfl
@[simp] def bcr(i j:Int):Gw .le (.int i) (.int j) M=some (decide (i<=j)):=rfl
@[simp] def cmp_gt(i j:Int):Gw .gt (.int i) (.int j) M=some (decide (j<i)):=rfl
@[simp] def bcs(i j:Int):Gw .ge (.int i) (.int j) M=some (decide (j<=i)):=rfl
@[simp] def bct(a b:D):Gw .eq a b M=vd M a b:=rfl
@[simp] def bcu(a b:D):Gw .ne a b M=(vd M a b).map not:=rfl
@[simp] def bcv(a b:D):Gw .inn a b M=Py M a b:=rfl
@[simp] def a3f(a b:D):Gw .Ra a b M=(Py M a b).map not:=rfl
def ahm(n:Nat)(i j:Int):Kl M (n+1) (.int i) (.int j)=some (decide (i=j)):=rfl
def Ec(h1:f a b=some x)(h2:Q8 f as bs=some y):Q8 f (a::as) (b::bs)=some (x&&y):=by simp[Q8,h1,h2]
@[simp] def eq_int(i j:Int):vd M (.int i) (.int j)=some (decide (i=j)):=rfl
@[simp] def bgx(i j:Bool):vd M (.bl i) (.bl j)=some (i==j):=rfl
@[simp] def Tr(ds:List D):fu M (.vl ds)=some ds:=rfl
@[simp] def a5p(ds:List D):Aw M (.vl ds)=some ds:=rfl
@[simp] def a3g(ds:List D):Aw M (.tup ds)=some ds:=rfl
def o4(h:M[n]?=some (.lst ds)):fu M (.ref n)=some ds:=by simp[fu,h]
def Wg(h:fu M d=some ds):Aw M d=some ds:=by cases d<;>first|exact h|(simp[fu] at h)
set_option tactic.hygienic true in
def len_list(h:fu M d=some ds):uh .len [d] M=.ok (.int ds.length) M:=by
 show Lg M d=_;cases d with
 |vl xs=>simp[fu] at h;subst h;rfl
 |ref n =>
  simp only[fu] at h;split at h<;>simp at h;rename_i xs hx;subst h;simp[Lg,hx]
 |_=>simp[fu] at h
@[simp] def a5q(d:D)(g:D->Res D):Yk [d] g=g d:=rfl
@[simp] def a5r(g:D->Res D):Yk [] g=.bad:=rfl
@[simp] def a3h(a b:D)(l:List D)(g:D->Res D):Yk (a::b::l) g=.bad:=rfl
@[simp] def bcw(i j:Int)(f:Int->Int->Int)(g:D->Option Int):two [.int i,.int j] f g M=.ok (.int (f i j)) M:=rfl
@[simp] def asz(d:D)(f:Int->Int->Int)(g:D->Option Int):two [d] f g M=Res.u9 ((g d).map D.int) M:=rfl
@[simp] def ayr(ds:List D):Lg M (.tup ds)=.ok (.int ds.length) M:=rfl
@[simp] theorem awz{M:cj}(n:Nat):ahi M (.ref n)=match M[n]? with
 |some (.dT iw)=>if afy iw then new (.dT iw) M else .bad
 |some (.dK iw)=>new (.dK iw) M|_=>.bad:=rfl
def Ce(h:fu M d=some ds)(h0:0<=i)(hx:ds[i.toNat]?=some x):Am d (.int i) M=some x:=by
 obtain⟨hl,hxx⟩:=ak.mp hx;have hi:i<ds.length:=by lia
 cases d with
 |vl xs=>simp[fu] at h;subst h;simp[Am,Aw,Yj,h0,hi,hl,hxx]
 |ref n =>
  simp only[fu] at h;cases e:M[n]? with
  |none=>rw[e] at h;simp at h|some o=>rw[e] at h;cases o<;>simp at h<;>subst h<;>simp[Am,fu,e,Yj,h0,hi,hl,hxx]
 |_=>simp[fu] at h
def Hv(h0:0<=i)(hx:ds[i.toNat]?=some x):Am (.tup ds) (.int i) M=some x:=by
 obtain⟨hl,hxx⟩:=ak.mp hx;have hi:i<ds.length:=by lia
 simp[Am,Aw,Yj,h0,hi,hl,hxx]
def a5s(h0:0<=i)(hx:ds[i.toNat]?=some x):Am (.fz ds) (.int i) M=some x:=by
 obtain⟨hl,hxx⟩:=ak.mp hx;have hi:i<ds.length:=by lia
 simp[Am,Yj,h0,hi,hl,hxx]
def amy:uh .len [.fz ds] M=.ok (.int ds.length) M:=rfl
@[simp] def bai(x:D)(r:List D):Am (.tup (x::r)) (.int 0) M=some x:=Hv (by decide) rfl
@[simp] def baj(x y:D)(r:List D):Am (.tup (x::y::r)) (.int 1) M=some y:=Hv (by decide) rfl
@[simp] def bak(x y z:D)(r:List D):Am (.tup (x::y::z::r)) (.int 2) M=some z:=Hv (by decide) rfl
def acq(h:M[n]?=some (.dT iw))(hk:Vd b=some k):Am (.ref n) b M=vz iw k:=by simp[Am,h,hk]
def a5t(h:M[n]?=some (.dT iw))(hk:Vd b=some k):Py M b (.ref n)=some (vz iw k).isSome:=by simp[Py,h,hk]
def aw0(h:M[n]?=some (.dK iw))(hk:Tp b=some k):Am (.ref n) b M=vz iw k:=by simp[Am,h,hk]
@[simp] def Zd(i j:Int):Vd (.tup [.int i,.int j])=some [.inl i,.inl j]:=rfl
@[simp] def bgy(i:Int):Tp (.int i)=some (.inl i):=rfl
def J7(h:M[n]?=some (.lst xs)):Qp .append (.ref n) M=true:=by simp[Qp,h]
def Jm(h:M[n]?=some (.lst xs))(hl:xs.length<100000):Kr .append (.ref n) [d] M=.ok .non (M.set n (.lst (xs++[d]))):=by simp[Kr,h,hl]
def aaq(h:M[n]?=some (.lst xs))(h0:0<=i)(hi:i<xs.length):setOp (.ref n) (.int i) d M=some (M.set n (.lst (xs.set i.toNat d))):=by simp[setOp,h,Yj,h0,hi]
def ays(h:M[n]?=some (.dT iw))(hk:Vd b=some k)(hs:iw.length<100000):setOp (.ref n) b d M=some (M.set n (.dT (Cq iw k d))):=by simp[setOp,h,hk,hs]
def ye{M:cj}(h:M[a]?=some o):a<M.length:=(ak.mp h).1
def vq{M:cj}(h:M[a]?=some p):(M.set a o)[a]?=some o:=by rw[List.getElem?_set_self (ye h)]
def su{M:cj}(h:b≠a):(M.set b o)[a]?=M[a]?:=v5 h
def yp{M:cj}{a:Nat}(h:M[a]?=some o):(M++X)[a]?=some o:=by rw[du (ye h)];exact h
@[simp] def bal{M:cj}:(M++[o])[M.length]?=some o:=by simp
theorem aar{fin:cj->Bool}{item:Nat->cj->Option D}{body:D->Env->cj->Res (Flow×Env)}(I:Nat->Env->cj->Prop){n:Nat}
 (step:∀i ρ M,i<n->I i ρ M->∃d fl ρ' M',item i M=some d/\body d ρ M=.ok (fl,ρ') M'/\(fl=.next\/fl=.cont)/\I (i+1) ρ' M') (Qs:∀ρ M,I n ρ M->fin M=true) :
 ∀(k i:Nat)(ρ:Env)(M:cj),i+k=n->I i ρ M->∃ρ' M',Bw fin item body k i ρ M=.ok (.next,ρ') M'/\I n ρ' M'
 |0,i,ρ,M,e,h=>by
  have q:i=n:=by lia
  rw[q] at h;exact⟨ρ,M,by simp[Bw,Qs ρ M h],h⟩
 |k+1,i,ρ,M,e,h=>by
  obtain⟨d,fl,ρ1,M1,h1,h2,h3,h4⟩:=step i ρ M (by lia) h;obtain⟨ρ2,M2,g1,g2⟩:=aar I step Qs k (i+1) ρ1 M1 (by lia) h4;refine⟨ρ2,M2,?_,g2⟩;rcases h3 with rfl|rfl<;>simp[Bw,h1,h2,g1]
def Vp(I:Nat->Env->cj->Prop)(h0:I 0 ρ M)(step:∀i d ρ M,ds[i]?=some d->I i ρ M->∃fl ρ' M',body d ρ M=.ok (fl,ρ') M'/\(fl=.next\/fl=.cont)/\I (i+1) ρ' M') :
 ∃ρ' M',Bw (Src.con ds).fin (Src.con ds).item body (Src.con ds).len 0 ρ M=.ok (.next,ρ') M'/\I ds.length ρ' M':=by
 refine aar I (λi ρ M hi h=>?_) (λ_ _ _=>rfl) ds.length 0 ρ M (u5 _) h0;obtain⟨fl,ρ',M',a,b,c⟩:=step i ds[i] ρ M (by simp[hi]) h;exact⟨ds[i],fl,ρ',M',by simp[Src.item,hi],a,b,c⟩
def aas(I:Nat->Env->cj->Prop)(h0:I 0 ρ M)(step:∀i ρ M,i<n->I i ρ M->∃fl ρ' M',body (.int i) ρ M=.ok (fl,ρ') M'/\(fl=.next\/fl=.cont)/\I (i+1) ρ' M') :
 ∃ρ' M',Bw (Src.con ((List.range n).map λ(k:Nat)=>D.int (k:Int))).fin (Src.con ((List.range n).map λ(k:Nat)=>D.int (k:Int))).item body (Src.con ((List.range n).map λ(k:Nat)=>D.int (k:Int))).len 0 ρ M=.ok (.next,ρ') M'/\I n ρ' M':=by
 have:=Vp (ds:=(List.range n).map λ(k:Nat)=>D.int (k:Int)) (body:=body) I h0 (λi d ρ M hd h=>by
  have hi:i<n:=by have:=(ak.mp hd).1;simpa using this
  rw[jd,yu hi] at hd;have hd:D.int (i:Int)=d:=by simpa using hd
  subst hd;exact step i ρ M hi h)
 simpa using this
def amz(I:Nat->Env->cj->Prop)(h0:I 0 ρ M)(stay:∀i ρ M,I i ρ M->M[p]?=some (.lst ds))(step:∀i d ρ M,ds[i]?=some d->I i ρ M->∃fl ρ' M',body d ρ M=.ok (fl,ρ') M'/\(fl=.next\/fl=.cont)/\I (i+1) ρ' M') :
 ∃ρ' M',Bw (Src.live p ds.length).fin (Src.live p ds.length).item body (Src.live p ds.length).len 0 ρ M=.ok (.next,ρ') M'/\I ds.length ρ' M':=by
 refine aar I (λi ρ M hi h=>?_) (fun ρ M h=>by simp[Src.fin,stay _ ρ M h]) ds.length 0 ρ M (u5 _) h0;obtain⟨fl,ρ',M',a,b,c⟩:=step i ds[i] ρ M (by simp[hi]) h;exact⟨ds[i],fl,ρ',M',by simp[Src.item,stay i ρ M h,hi],a,b,c⟩
theorem Ks{fin:cj->Bool}{item:Nat->cj->Option D}{body:D->cj->Res (Option D)}(I:Nat->List D->cj->Prop){n:Nat}
 (step:∀i xs M,i<n->I i xs M->∃d o M',item i M=some d/\body d M=.ok o M'/\I (i+1) (xs++o.toList) M') (Qs:∀xs M,I n xs M->fin M=true) :
 ∀(k i:Nat)(xs:List D)(M:cj),i+k=n->I i xs M->∃ys M',Dk fin item body k i M=.ok ys M'/\I n (xs++ys) M'
 |0,i,xs,M,e,h=>by
  have q:i=n:=by lia
  rw[q] at h;exact⟨[],M,by simp[Dk,Qs xs M h],by simpa using h⟩
 |k+1,i,xs,M,e,h=>by
  obtain⟨d,o,M1,h1,h2,h3⟩:=step i xs M (by lia) h;obtain⟨ys,M2,g1,g2⟩:=Ks I step Qs k (i+1) (xs++o.toList) M1 (by lia) h3;refine⟨o.toList++ys,M2,?_,by rw[<- Aa];exact g2⟩;cases o<;>simp[Dk,h1,h2,g1]
def Tt{s:Src}{ds:List D}(Qs:s.fin M=true)(hl:s.len=ds.length)(hi:∀i,i<ds.length->s.item i M=ds[i]?)(h:∀d∈ds,body d M=.ok (g d) M) :
 Dk s.fin s.item body s.len 0 M=.ok (ds.filterMap g) M:=by
 obtain⟨ys,M',e,h1,h2⟩:=Ks (fin:=s.fin) (item:=s.item) (body:=body) (λi xs M'=>M'=M/\xs=(ds.take i).filterMap g) (n:=ds.length) (λi xs M' Km hI=>by
  obtain⟨rfl,rfl⟩:=hI;refine⟨ds[i],g ds[i],M',by rw[hi i Km];simp[Km],h _ (qz Km),rfl,?_⟩;rw[List.take_succ,List.filterMap_append];simp[Km];cases e:g ds[i]<;>simp[e]) (λxs M' h=>by rw[h.1];exact Qs) ds.length 0 [] M (u5 _) ⟨rfl,rfl⟩
 rw[hl,e,h1];simp at h2;rw[h2]
def am0(h:∀d∈ds,body d M=.ok (some (g d)) M) :
 Dk (Src.con ds).fin (Src.con ds).item body (Src.con ds).len 0 M=.ok (ds.map g) M:=by
 rw[Tt (s:=.con ds) (ds:=ds) (g:=λd=>some (g d)) rfl rfl (λi _=>rfl) h,List.filterMap_eq_map']
end MW
namespace MW
theorem Pj{c:Env->cj->Res D}{body:Env->cj->Res (Flow×Env)}(I:Nat->Env->cj->Prop)(Tu:Env->cj->Prop)
 (step:∀m ρ M,I m ρ M->(∃M1,c ρ M=.ok (.bl false) M1/\Tu ρ M1) \/
  ∃M1 fl ρ' M2 m',c ρ M=.ok (.bl true) M1/\body ρ M1=.ok (fl,ρ') M2/\(fl=.next\/fl=.cont)/\m'<m/\I m' ρ' M2) :
 ∀(k m:Nat)(ρ:Env)(M:cj),m<k->I m ρ M->∃ρ' M',Gj c body k ρ M=.ok (.next,ρ') M'/\Tu ρ' M'
 |0,m,_,_,h,_=>absurd h (yc _)
 |k+1,m,ρ,M,h,hI=>by
  rcases step m ρ M hI with⟨M1,h1,h2⟩|⟨M1,fl,ρ1,M2,m',h1,h2,h3,h4,h5⟩
  . exact⟨ρ,M1,by simp[Gj,h1],h2⟩
  . obtain⟨ρ3,M3,g1,g2⟩:=Pj I Tu step k m' ρ1 M2 (b_ h4 (z_ h)) h5
    refine⟨ρ3,M3,?_,g2⟩;rcases h3 with rfl|rfl<;>simp[Gj,h1,h2,g1]
end MW
namespace MW
noncomputable def zc(M M':cj):Prop:=∀(a:Nat)(o:MO),M[a]?=some o->M'[a]?=some o
def zc.refl(M:cj):zc M M:=λ_ _ h=>h
def zc.trans(a:zc M M1)(b:zc M1 M2):zc M M2:=λx o h=>b x o (a x o h)
def zc.app(M X:cj):zc M (M++X):=λ_ _ h=>yp h
def zc.len(k:zc M M'):M.length<=M'.length:=by
 rcases Nat.eq_zero_or_pos M.length with h|h
 . exact a_ (f_ h) (my _)
 . have:=ye (k (M.length-1) M[M.length-1] (by simp))
   lia
theorem zc.fu(k:zc M M')(h:fu M d=some ds):MW.fu M' d=some ds:=by
 cases d with
 |vl xs=>exact h
 |ref n =>
  simp only[MW.fu] at h ⊢;cases e:M[n]? with
  |none=>rw[e] at h;simp at h|some o=>rw[e] at h;rw[k n o e];exact h
 |_=>simp[MW.fu] at h
def Wh(I:Nat->Env->cj->Prop)(hd:fu M d=some ds)(h0:I 0 ρ M)(stay:∀i ρ M,I i ρ M->fu M d=some ds)(step:∀i x ρ M,ds[i]?=some x->I i ρ M->∃fl ρ' M',body x ρ M=.ok (fl,ρ') M'/\(fl=.next\/fl=.cont)/\I (i+1) ρ' M') :
 ∃s,srcOf M d=some s/\∃ρ' M',Bw s.fin s.item body s.len 0 ρ M=.ok (.next,ρ') M'/\I ds.length ρ' M':=by
 cases d with
 |vl xs=>simp[fu] at hd;subst hd;exact⟨_,rfl,Vp I h0 step⟩
 |ref n =>
  cases e:M[n]? with
  |none=>simp[fu,e] at hd
  |some o =>
   cases o with
   |lst xs =>
    simp[fu,e] at hd;subst hd;refine⟨.live n xs.length,by simp[srcOf,e],amz I h0 (λi ρ M h=>?_) step⟩;have:=stay i ρ M h;simp only[fu] at this;split at this<;>simp_all
   |_=>simp[fu,e] at hd
 |_=>simp[fu] at hd
def ahn(hl:ds.length<=100000)(h:∀d∈ds,body d M=.ok (some (g d)) M):Ax (.con ds) body M=.ok (ds.map g) M:=by rw[Ax,cg (show(Src.con ds).len<=100000 from hl)];exact am0 h
def Wi(hl:ds.length<=100000)(h:∀d∈ds,body d M=.ok (g d) M):Ax (.con ds) body M=.ok (ds.filterMap g) M:=by rw[Ax,cg (show(Src.con ds).len<=100000 from hl)];exact Tt (s:=.con ds) rfl rfl (λ_ _=>rfl) h
def acr(hd:fu M d=some ds)(hl:ds.length<=100000)(h:∀x∈ds,body x M=.ok (g x) M) :
 ∃s,srcOf M d=some s/\Ax s body M=.ok (ds.filterMap g) M:=by
 cases d with
 |vl xs=>simp[fu] at hd;subst hd;exact⟨_,rfl,Wi hl h⟩
 |ref n =>
  cases e:M[n]? with
  |none=>simp[fu,e] at hd
  |some o =>
   cases o with
   |lst xs =>
    simp[fu,e] at hd;subst hd;exact⟨.live n xs.length,by simp[srcOf,e],by rw[Ax,cg (show(Src.live n xs.length).len<=100000 from hl)];exact Tt (s:=.live n xs.length) (by simp[Src.fin,e]) rfl (λi _=>by simp[Src.item,e]) h⟩
   |_=>simp[fu,e] at hd
 |_=>simp[fu] at hd
def Pk(v:Bool)(k:Nat)(t:Tg)(it:P0)(e:Ex):(Ex.comp v k t it e).den W ρ M=(it.den W ρ M).bind λs M1 =>
 (Ax s (λd M=>(Res.u9 (t.put d (ρ++List.replicate k none)) M).bind fun ρ' M=>(e.den W ρ' M).bind λx M'=>.ok (some x) M') M1).bind λds M2=>if v then .ok (.vl ds) M2 else new (.lst ds) M2:=by
 rw[Nt]
 congr 1;funext s M1;congr 2;funext d M
 cases t.put d (ρ++List.replicate k none)<;>rfl
def Ul(v:Bool)(k:Nat)(t:Tg)(it:P0)(c e:Ex):(Ex.Dj v k t it c e).den W ρ M=(it.den W ρ M).bind λs M1 =>
 (Ax s (λd M=>(Res.u9 (t.put d (ρ++List.replicate k none)) M).bind fun ρ' M=>(c.den W ρ' M).bind λb M' =>
  match b with
   |.bl true=>(e.den W ρ' M').bind λx M''=>.ok (some x) M''
   | .bl false=>.ok none M'|_=>.bad) M1).bind λds M2=>if v then .ok (.vl ds) M2 else new (.lst ds) M2:=by
 rw[Wf]
 congr 1;funext s M1;congr 2;funext d M
 cases t.put d (ρ++List.replicate k none)<;>rfl
def Pn(t:Tg)(it:P0)(b:m8):(Br.for_ t it b).den W ρ M=(it.den W ρ M).bind λs M1=>Bw s.fin s.item (λd ρ M=>(Res.u9 (t.put d ρ) M).bind fun ρ' M=>b.den W ρ' M) s.len 0 ρ M1:=by
 rw[Tq]
 congr 1;funext s M1;congr 1;funext d ρ M
 cases t.put d ρ<;>rfl
def ym(hit:it.den W ρ M=.ok (.int (n:Int)) M1)(hn:n<=100000)(I:Nat->Env->cj->Prop)(h0:I 0 ρ M1)(step:∀i ρ M,i<n->I i ρ M->∃ρ1 fl ρ' M',t.put (.int i) ρ=some ρ1/\b.den W ρ1 M=.ok (fl,ρ') M'/\(fl=.next\/fl=.cont)/\I (i+1) ρ' M') :
 ∃ρ' M',(Br.for_ t (.Kh it) b).den W ρ M=.ok (.next,ρ') M'/\I n ρ' M':=by
 rw[Pn,Ph,hit];have Pg:((n:Int)).natAbs<=100000:=by lia
 simp only[Res.Bs,Pg,ju,uw];exact aas I h0 (λi ρ M hi h=>by
  obtain⟨ρ1,fl,ρ',M',a,b,c,d⟩:=step i ρ M hi h;exact⟨fl,ρ',M',by rw[a];exact b,c,d⟩)
def Li(hit:it.den W ρ M=.ok d M1)(hd:fu M1 d=some ds)(I:Nat->Env->cj->Prop)(h0:I 0 ρ M1)(stay:∀i ρ M,I i ρ M->fu M d=some ds)(step:∀i x ρ M,ds[i]?=some x->I i ρ M->∃ρ1 fl ρ' M',t.put x ρ=some ρ1/\b.den W ρ1 M=.ok (fl,ρ') M'/\(fl=.next\/fl=.cont)/\I (i+1) ρ' M') :
 ∃ρ' M',(Br.for_ t (.val it) b).den W ρ M=.ok (.next,ρ') M'/\I ds.length ρ' M':=by
 rw[Pn,Lh,hit];obtain⟨s,h1,h2⟩:=Wh (body:=λd ρ M=>(Res.u9 (t.put d ρ) M).bind fun ρ' M=>b.den W ρ' M) I hd h0 stay (λi x ρ M hx h=>by
  obtain⟨ρ1,fl,ρ',M',a,b,c,d⟩:=step i x ρ M hx h;exact⟨fl,ρ',M',by rw[a];exact b,c,d⟩)
 simp only[Res.Bs,h1,Res.Dq];exact h2
def acs(hit:it.den W ρ M=.ok (.tup ds) M1)(I:Nat->Env->cj->Prop)(h0:I 0 ρ M1)(step:∀i x ρ M,ds[i]?=some x->I i ρ M->∃ρ1 fl ρ' M',t.put x ρ=some ρ1/\b.den W ρ1 M=.ok (fl,ρ') M'/\(fl=.next\/fl=.cont)/\I (i+1) ρ' M') :
 ∃ρ' M',(Br.for_ t (.val it) b).den W ρ M=.ok (.next,ρ') M'/\I ds.length ρ' M':=by
 rw[Pn,Lh,hit];exact Vp I h0 (λi x ρ M hx h=>by
  obtain⟨ρ1,fl,ρ',M',a,b,c,d⟩:=step i x ρ M hx h;exact⟨fl,ρ',M',by rw[a];exact b,c,d⟩)
def Um(hit:it.den W ρ M=.ok (.tup ds) M1)(I:Nat->Env->cj->Prop)(h0:I 0 ρ M1)(step:∀i x ρ M,ds[i]?=some x->I i ρ M->∃ρ1 fl ρ' M',t.put (.tup [.int i,x]) ρ=some ρ1/\b.den W ρ1 M=.ok (fl,ρ') M'/\(fl=.next\/fl=.cont)/\I (i+1) ρ' M') :
 ∃ρ' M',(Br.for_ t (.enm it) b).den W ρ M=.ok (.next,ρ') M'/\I ds.length ρ' M':=by
 rw[Pn,ahl,hit];have:=Vp (ds:=Cr ds 0) (body:=λd ρ M=>(Res.u9 (t.put d ρ) M).bind fun ρ' M=>b.den W ρ' M) I h0 (λi x ρ M hx h=>by
  have hil:i<ds.length:=by have:=(ak.mp hx).1;simpa[Cr] using this
  have hx':x=.tup [.int i,ds[i]]:=by simp[Cr,hil] at hx;exact hx.symm
  subst hx';obtain⟨ρ1,fl,ρ',M',a,b,c,d⟩:=step i ds[i] ρ M (by simp[hil]) h;exact⟨fl,ρ',M',by rw[a];exact b,c,d⟩)
 have e:(Cr ds 0).length=ds.length:=by simp[Cr]
 rw[e] at this;exact this
def Az(hit:it.den W ρ M=.ok d M1)(hd:fu M1 d=some ds)(hl:ds.length<=100000)(h:∀x∈ds,∃ρ1,t.put x (ρ++List.replicate k none)=some ρ1/\e.den W ρ1 M1=.ok (g x) M1) :
 (Ex.comp v k t (.val it) e).den W ρ M=if v then .ok (.vl (ds.map g)) M1 else new (.lst (ds.map g)) M1:=by
 rw[Pk,Lh,hit];obtain⟨s,h1,h2⟩:=acr (g:=λx=>some (g x)) (body:=λd M=>(Res.u9 (t.put d (ρ++List.replicate k none)) M).bind fun ρ' M=>(e.den W ρ' M).bind λx M'=>.ok (some x) M') hd hl (λx hx=>by
  obtain⟨ρ1,a,b⟩:=h x hx;rw[a];simp[b])
 simp only[Res.Bs,h1,Res.Dq,h2,List.filterMap_eq_map']
def Hk(hit:it.den W ρ M=.ok (.tup ds) M1)(hl:ds.length<=100000)(h:∀x∈ds,∃ρ1,t.put x (ρ++List.replicate k none)=some ρ1/\e.den W ρ1 M1=.ok (g x) M1) :
 (Ex.comp v k t (.val it) e).den W ρ M=if v then .ok (.vl (ds.map g)) M1 else new (.lst (ds.map g)) M1:=by
 rw[Pk,Lh,hit];have h2:=ahn (g:=g) (M:=M1) (body:=λd M=>(Res.u9 (t.put d (ρ++List.replicate k none)) M).bind fun ρ' M=>(e.den W ρ' M).bind λx M'=>.ok (some x) M') hl (λx hx=>by
  obtain⟨ρ1,a,b⟩:=h x hx;rw[a];simp[b])
 show(Ax (.con ds) _ M1).bind _=_;rw[h2];rfl
def Wj(hit:it.den W ρ M=.ok (.int (n:Int)) M1)(hl:n<=100000)(h:∀i,i<n->∃ρ1,t.put (.int i) (ρ++List.replicate k none)=some ρ1/\c.den W ρ1 M1=.ok (.bl (q i)) M1/\(q i=true->e.den W ρ1 M1=.ok (g i) M1)) :
 (Ex.Dj v k t (.Kh it) c e).den W ρ M=if v then .ok (.vl (((List.range n).filter q).map g)) M1 else new (.lst (((List.range n).filter q).map g)) M1:=by
 rw[Ul,Ph,hit];have Pg:((n:Int)).natAbs<=100000:=by lia
 simp only[Res.Bs,Pg,ju,uw];rw[Wi (ds:=(List.range n).map λ(k:Nat)=>D.int (k:Int)) (g:=λd=>match d with|.int i=>if q i.toNat then some (g i.toNat) else none|_=>none) (by simpa using hl) (λx hx=>by
  obtain⟨i,hi,rfl⟩:=bu.mp hx;obtain⟨ρ1,a,b,c⟩:=h i (il.mp hi);rw[a,Res.Dq,Res.Bs,b,Res.Bs];cases e:q i with
  | true=>simp[e,c e]|false=>simp[e])]
 have:(((List.range n).map λ(k:Nat)=>D.int (k:Int)).filterMap λd=>match d with|.int i=>if q i.toNat then some (g i.toNat) else none|_=>none)=((List.range n).filter q).map g:=by
  rw[List.filterMap_map]
  induction List.range n with
  |nil=>rfl|cons a l ih=>by_cases e:q a=true<;>simp[e,ih]
 rw[this];rfl
theorem aho{fin:cj->Bool}{item:Nat->cj->Option D}{body:D->Env->cj->Res (Flow×Env)}(I:Nat->Env->cj->Prop)(Tu:Env->cj->Prop){n:Nat}
 (step:∀i ρ M,i<n->I i ρ M->∃d fl ρ' M',item i M=some d/\body d ρ M=.ok (fl,ρ') M'/\(((fl=.next\/fl=.cont)/\I (i+1) ρ' M')\/(fl=.brk/\Tu ρ' M'))) (Qs:∀ρ M,I n ρ M->fin M=true/\Tu ρ M) :
 ∀(k i:Nat)(ρ:Env)(M:cj),i+k=n->I i ρ M->∃ρ' M',Bw fin item body k i ρ M=.ok (.next,ρ') M'/\Tu ρ' M'
 |0,i,ρ,M,e,h=>by
  have q:i=n:=by lia
  rw[q] at h;exact⟨ρ,M,by simp[Bw,(Qs ρ M h).1],(Qs ρ M h).2⟩
 |k+1,i,ρ,M,e,h=>by
  obtain⟨d,fl,ρ1,M1,h1,h2,⟨h3,h4⟩|⟨rfl,h4⟩⟩:=step i ρ M (by lia) h
  . obtain⟨ρ2,M2,g1,g2⟩:=aho I Tu step Qs k (i+1) ρ1 M1 (by lia) h4
    refine⟨ρ2,M2,?_,g2⟩;rcases h3 with rfl|rfl<;>simp[Bw,h1,h2,g1]
  . exact⟨ρ1,M1,by simp[Bw,h1,h2],h4⟩
def acu(hit:it.den W ρ M=.ok (.int (n:Int)) M1)(hn:n<=100000)(I:Nat->Env->cj->Prop)(Tu:Env->cj->Prop)(h0:I 0 ρ M1)(hp:∀ρ M,I n ρ M->Tu ρ M)(step:∀i ρ M,i<n->I i ρ M->∃ρ1 fl ρ' M',t.put (.int i) ρ=some ρ1/\b.den W ρ1 M=.ok (fl,ρ') M'/\(((fl=.next\/fl=.cont)/\I (i+1) ρ' M')\/(fl=.brk/\Tu ρ' M'))) :
 ∃ρ' M',(Br.for_ t (.Kh it) b).den W ρ M=.ok (.next,ρ') M'/\Tu ρ' M':=by
 rw[Pn,Ph,hit];have Pg:((n:Int)).natAbs<=100000:=by lia
 simp only[Res.Bs,Pg,ju,uw];obtain⟨ρ',M',e,h⟩:=aho (fin:=(Src.con ((List.range n).map λ(k:Nat)=>D.int (k:Int))).fin) (item:=(Src.con ((List.range n).map λ(k:Nat)=>D.int (k:Int))).item) (body:=λd ρ M=>(Res.u9 (t.put d ρ) M).bind fun ρ' M=>b.den W ρ' M) I Tu (n:=n) (λi ρ M hi h=>by
  obtain⟨ρ1,fl,ρ',M',a,b,c⟩:=step i ρ M hi h;exact⟨.int i,fl,ρ',M',by simp[Src.item,hi],by rw[a];exact b,c⟩) (fun ρ M h=>⟨rfl,hp ρ M h⟩) n 0 ρ M1 (u5 _) h0
 have hl:(Src.con ((List.range n).map λ(k:Nat)=>D.int (k:Int))).len=n:=by simp[Src.len]
 rw[hl];exact⟨ρ',M',e,h⟩
def Hl(hit:it.den W ρ M=.ok (.int (n:Int)) M1)(hn:n<=100000)(I:Nat->List D->cj->Prop)(h0:I 0 [] M1)(step:∀i xs M,i<n->I i xs M->∃ρ1 x M',t.put (.int i) (ρ++List.replicate k none)=some ρ1/\e.den W ρ1 M=.ok x M'/\I (i+1) (xs++[x]) M') :
 ∃ys M',(Ex.comp v k t (.Kh it) e).den W ρ M=(if v then .ok (.vl ys) M' else new (.lst ys) M')/\I n ys M':=by
 rw[Pk,Ph,hit];have Pg:((n:Int)).natAbs<=100000:=by lia
 simp only[Res.Bs,Pg,ju,uw];obtain⟨ys,M',g,h⟩:=Ks (fin:=(Src.con ((List.range n).map λ(k:Nat)=>D.int (k:Int))).fin) (item:=(Src.con ((List.range n).map λ(k:Nat)=>D.int (k:Int))).item) (body:=λd M=>(Res.u9 (t.put d (ρ++List.replicate k none)) M).bind fun ρ' M=>(e.den W ρ' M).bind λx M'=>.ok (some x) M') I (n:=n) (λi xs M hi h=>by
  obtain⟨ρ1,x,M',a,b,c⟩:=step i xs M hi h;exact⟨.int i,some x,M',by simp[Src.item,hi],by rw[a];simp[b],by simpa using c⟩) (λ_ _ _=>rfl) n 0 [] M1 (u5 _) h0
 have hl:(Src.con ((List.range n).map λ(k:Nat)=>D.int (k:Int))).len=n:=by simp[Src.len]
 refine⟨ys,M',?_,by simpa using h⟩;rw[Ax,hl,cg hn,g];rfl
set_option tactic.hygienic true in
def Gk(hit:it.den W ρ M=.ok d M1)(hd:fu M1 d=some ds)(hn:ds.length<=100000)(I:Nat->List D->cj->Prop)(h0:I 0 [] M1)(stay:∀i xs M,I i xs M->fu M d=some ds)(step:∀i y xs M,ds[i]?=some y->I i xs M->∃ρ1 x M',t.put y (ρ++List.replicate k none)=some ρ1/\e.den W ρ1 M=.ok x M'/\I (i+1) (xs++[x]) M') :
 ∃ys M',(Ex.comp v k t (.val it) e).den W ρ M=(if v then .ok (.vl ys) M' else new (.lst ys) M')/\I ds.length ys M':=by
 rw[Pk,Lh,hit];obtain⟨s,hs,hl,hi,hf⟩:∃s,srcOf M1 d=some s/\s.len=ds.length/\(∀M i,fu M d=some ds->s.item i M=ds[i]?)/\∀M,fu M d=some ds->s.fin M=true:=by
  cases d with
  |vl zs=>cases hd;exact⟨.con ds,rfl,rfl,λ_ _ _=>rfl,λ_ _=>rfl⟩
  |ref p =>
   have get:∀{M:cj},fu M (.ref p)=some ds->M[p]?=some (.lst ds):=fun{M} h=>by
    simp only[fu] at h;split at h
    . rename_i z;cases h;exact z
    . cases h
   refine⟨.live p ds.length,by simp[srcOf,get hd],rfl,λM i h=>by simp[Src.item,get h],λM h=>by simp[Src.fin,get h]⟩
  |_=>cases hd
 simp only[Res.Bs,hs,Res.Dq];obtain⟨ys,M',g,h⟩:=Ks (fin:=s.fin) (item:=s.item) (body:=λd M=>(Res.u9 (t.put d (ρ++List.replicate k none)) M).bind fun ρ' M=>(e.den W ρ' M).bind λx M'=>.ok (some x) M') I (n:=ds.length) (λi xs M Km h=>by
  obtain⟨ρ1,x,M',a,b,c⟩:=step i ds[i] xs M (by simp[Km]) h;exact⟨ds[i],some x,M',by rw[hi M i (stay i xs M h)];simp[Km],by rw[a];simp[b],by simpa using c⟩) (λxs M h=>hf M (stay _ xs M h)) ds.length 0 [] M1 (u5 _) h0
 refine⟨ys,M',?_,by simpa using h⟩;rw[Ax,hl,cg hn,g];rfl
noncomputable abbrev Goes(I:Nat->Env->cj->Prop)(R:D->cj->Prop)(i:Nat)(r:Res (Flow×Env)):Prop:=∃fl ρ' M',r=.ok (fl,ρ') M'/\((fl=.next/\I i ρ' M')\/∃v,fl=.ret v/\R v M')
theorem ahp{fin:cj->Bool}{item:Nat->cj->Option D}{body:D->Env->cj->Res (Flow×Env)}(I:Nat->Env->cj->Prop)(R:D->cj->Prop){n:Nat}
 (step:∀i ρ M,i<n->I i ρ M->∃d,item i M=some d/\Goes I R (i+1) (body d ρ M)) (hf:∀ρ M,I n ρ M->fin M=true) :
 ∀k i ρ M,i+k=n->I i ρ M->Goes I R n (Bw fin item body k i ρ M)
 |0,i,ρ,M,e,h=>by
  obtain rfl:i=n:=by lia
  exact⟨_,ρ,M,by simp[Bw,hf ρ M h],.inl ⟨rfl,h⟩⟩
 |k+1,i,ρ,M,e,h=>by
  obtain⟨d,h1,fl,ρ',M',h2,⟨rfl,h4⟩|⟨v,rfl,h4⟩⟩:=step i ρ M (by lia) h
  . have:=ahp I R step hf k (i+1) ρ' M' (by lia) h4
    simpa[Bw,h1,h2] using this
  . exact⟨.ret v,ρ',M',by simp[Bw,h1,h2],.inr ⟨v,rfl,h4⟩⟩
section
variable{W:Jl}{ρ:Env}{M M1:cj}{t:Tg}{b:m8}
def Rk{it:P0}{s:Src}{n:Nat}(hit:it.den W ρ M=.ok s M1)(hn:s.len=n)(I:Nat->Env->cj->Prop)(R:D->cj->Prop)(h0:I 0 ρ M1)(hf:∀ρ M,I n ρ M->s.fin M=true)
 (step:∀i ρ M,i<n->I i ρ M->∃d ρ1,s.item i M=some d/\t.put d ρ=some ρ1/\Goes I R (i+1) (b.den W ρ1 M)):Goes I R n ((Br.for_ t it b).den W ρ M):=by
 rw[Pn,hit,Res.Bs,hn];exact ahp I R (λi ρ M hi h=>by
  obtain⟨d,ρ1,a,b,c⟩:=step i ρ M hi h;exact⟨d,a,by rw[b];exact c⟩) hf n 0 ρ M1 (u5 n) h0
def Nv{it:Ex}{n:Nat}(hit:it.den W ρ M=.ok (.int (n:Int)) M1)(hn:n<=100000)(I:Nat->Env->cj->Prop)(R:D->cj->Prop)(h0:I 0 ρ M1)
 (step:∀i ρ M,i<n->I i ρ M->∃ρ1,t.put (.int i) ρ=some ρ1/\Goes I R (i+1) (b.den W ρ1 M)):Goes I R n ((Br.for_ t (.Kh it) b).den W ρ M):=by
 exact Rk (s:=.con ((List.range n).map λ(k:Nat)=>D.int (k:Int))) (by rw[Ph,hit];simp[hn]) (by simp[Src.len]) I R h0 (λ_ _ _=>rfl) (λi ρ M hi h=>by
  obtain⟨ρ1,a⟩:=step i ρ M hi h;exact⟨.int i,ρ1,by simp[Src.item,hi],a⟩)
end
end MW
namespace K11
open MW
noncomputable def Ku:m8:=.c (.expr (.call 9 (.p (.v 1) (.v 2)))) (.c (.expr (.call 10 (.p (.v 2) (.v 3)))) (.c (.expr (.call 11 (.p (.v 2) (.v 3)))) (.q (.asg (.fld (.v 0) 2) (.v 1)) (.asg (.fld (.v 0) 1) (.v 2)) (.asg (.fld (.v 0) 0) (.blt .dict (.o (.v 3)))))))
noncomputable def Kv:Fn:=⟨4,4,Ku⟩
noncomputable def Ve:m8:=.o (.ret (.fld (.v 0) 2))
noncomputable def Vf:Fn:=⟨1,1,Ve⟩
noncomputable def Kw:m8:=.o (.ret (.fld (.v 0) 1))
noncomputable def Ky:Fn:=⟨1,1,Kw⟩
noncomputable def Tv:m8:=.o (.expr (.call 21 (.o (.i 0))))
noncomputable def Tw:Fn:=⟨3,3,Tv⟩
noncomputable def Tz:Ex:=.Dj true 2 (.names [2,3]) (.enm (.fld (.v 0) 1)) (.cmp .eq (.ix (.v 3) (.i 0)) (.v 1)) (.v 2)
noncomputable def Wk:m8:=.o (.ret (.bin .amh (.Hu (.o (.i (-1)))) Tz))
noncomputable def Wl:Fn:=⟨2,2,Wk⟩
noncomputable def Yl:m8:=.p (.f (.cmp .eq (.v 2) (.i (-1))) (.o (.ret (.v 1)))) (.ret (.ix (.ix (.fld (.v 0) 1) (.v 2)) (.i 1)))
noncomputable def Ym:Fn:=⟨3,3,Yl⟩
noncomputable def Jo:m8:=.q (.f (.cmp .eq (.v 1) (.i (-1))) (.o (.ret (.v 2)))) (.f (.cmp .eq (.v 2) (.i (-1))) (.o (.ret (.v 1)))) (.ret (.ix (.v 0) (.tup (.p (.v 1) (.v 2)))))
noncomputable def Jp:Fn:=⟨3,3,Jo⟩
noncomputable def Bk:m8:=.o (.f (.cmp .eq (.ix (.v 3) (.i 1)) (.ix (.v 5) (.i 0))) (.o (.expr (.bm .append (.v 1) (.o (.tup (.p (.v 2) (.v 4))))))))
noncomputable def Jq:Br:=.for_ (.names [4,5]) (.enm (.v 0)) Bk
noncomputable def Ed:m8:=.o Jq
noncomputable def Jr:Br:=.for_ (.names [2,3]) (.enm (.v 0)) Ed
noncomputable def Mv:m8:=.q (.a 1 (.lst .z)) Jr (.ret (.v 1))
noncomputable def Mw:Fn:=⟨1,6,Mv⟩
noncomputable def Fl:m8:=.p (.f (.cmp .eq (.v 1) (.i (-1))) (.o (.ret (.cmp .eq (.v 2) (.v 3))))) (.ret (.and (.chain .le .lt (.i 0) (.v 1) (.l (.v 0))) (.cmp .eq (.ix (.v 0) (.v 1)) (.tup (.p (.v 2) (.v 3))))))
noncomputable def Fo:Fn:=⟨4,4,Fl⟩
noncomputable def Fp:m8:=.o (.f (.not (.and (.chain .le .lt (.i 0) (.ix (.v 2) (.i 0)) (.v 0)) (.chain .le .lt (.i 0) (.ix (.v 2) (.i 1)) (.v 0)))) (.o (.raise 1 (.o (.cst (.str (PySem.Str.ofString "a doing is from a kind to a kind")))))))
noncomputable def Kz:Br:=.for_ (.name 2) (.val (.v 1)) Fp
noncomputable def Nx:m8:=.q (.f (.not (.chain .le .le (.i 1) (.v 0) (.i 3))) (.o (.raise 1 (.o (.cst (.str (PySem.Str.ofString "a pattern has one to three kinds"))))))) (.f (.cmp .gt (.l (.v 1)) (.i 5)) (.o (.raise 1 (.o (.cst (.str (PySem.Str.ofString "a pattern has at most five doings"))))))) Kz
noncomputable def Ny:Fn:=⟨2,3,Nx⟩
noncomputable def Gx:m8:=.o (.f (.not (.call 8 (.c (.v 0) (.q (.ix (.v 1) (.tup (.p (.v 3) (.v 4)))) (.ix (.ix (.v 0) (.v 3)) (.i 0)) (.ix (.ix (.v 0) (.v 4)) (.i 1)))))) (.o (.raise 1 (.o (.cst (.str (PySem.Str.ofString "two doings come to a way of their own ends")))))))
noncomputable def Mx:Br:=.for_ (.names [3,4]) (.val (.v 2)) Gx
noncomputable def Qa:m8:=.q (.a 2 (.call 7 (.o (.v 0)))) (.f (.Wd (.v 1) (.v 2)) (.o (.raise 1 (.o (.cst (.str (PySem.Str.ofString "a table tells of just the pairs of doings that meet"))))))) Mx
noncomputable def Qc:Fn:=⟨2,5,Qa⟩
noncomputable def Dd:m8:=.c (.f (.cmp .Ra (.tup (.p (.v 4) (.v 5))) (.v 1)) (.o .cont)) (.q (.a 6 (.call 6 (.q (.v 1) (.ix (.v 1) (.tup (.p (.v 3) (.v 4)))) (.v 5)))) (.a 7 (.call 6 (.q (.v 1) (.v 3) (.ix (.v 1) (.tup (.p (.v 4) (.v 5))))))) (.f (.cmp .ne (.v 6) (.v 7)) (.o (.raise 1 (.o (.cst (.str (PySem.Str.ofString "three doings come to one way, however they are taken together"))))))))
noncomputable def K1:Br:=.for_ (.name 5) (.Kh (.l (.v 0))) Dd
noncomputable def Fq:m8:=.o K1
noncomputable def K3:Br:=.for_ (.names [3,4]) (.val (.v 2)) Fq
noncomputable def Nz:m8:=.p (.a 2 (.call 7 (.o (.v 0)))) K3
noncomputable def N5:Fn:=⟨2,8,Nz⟩
noncomputable def Hw:m8:=.p (.f (.cmp .lt (.v 1) (.l (.v 0))) (.o (.ret (.ix (.v 0) (.v 1))))) (.ret (.i 0))
noncomputable def Hx:Fn:=⟨2,2,Hw⟩
noncomputable def Lj:m8:=.q (.a 2 (.call 12 (.p (.v 0) (.v 1)))) (.f (.cmp .ge (.v 2) (.bin .pow (.i 10) (.i 18))) (.o (.ret (.lst (.p (.bin .sub (.v 2) (.bin .pow (.i 10) (.i 18))) (.cst (.bl true))))))) (.ret (.lst (.p (.bin .mod (.v 2) (.i 2147483647)) (.cst (.bl false)))))
noncomputable def Ln:Fn:=⟨2,3,Lj⟩
noncomputable def N6:m8:=.c (.f (.ix (.v 0) (.i 1)) (.q (.a 2 (.bin .mod (.ix (.v 0) (.i 0)) (.v 1))) (.asg (.sub (.v 0) (.i 0)) (.bin .fdiv (.ix (.v 0) (.i 0)) (.v 1))) (.ret (.v 2)))) (.c (.asg (.sub (.v 0) (.i 0)) (.bin .mod (.bin .add (.bin .mul (.ix (.v 0) (.i 0)) (.i 48271)) (.i 29)) (.i 2147483647))) (.q (.a 3 (.bin .mod (.bin .add (.bin .add (.bin .mul (.ix (.v 0) (.i 0)) (.ix (.v 0) (.i 0))) (.bin .mul (.i 39373) (.ix (.v 0) (.i 0)))) (.i 7)) (.i 2147483629))) (.a 3 (.bin .mod (.bin .add (.bin .mul (.v 3) (.v 3)) (.bin .mul (.i 16807) (.v 3))) (.i 2147483587))) (.ret (.bin .mod (.bin .fdiv (.v 3) (.i 8)) (.v 1)))))
noncomputable def N7:Fn:=⟨2,4,N6⟩
noncomputable def Hy:Ex:=.comp true 1 (.name 12) (.Kh (.ix (.v 7) (.v 10))) (.call 14 (.p (.v 0) (.ix (.v 7) (.v 11))))
noncomputable def Ef:m8:=.q (.a 10 (.call 14 (.p (.v 0) (.v 6)))) (.a 11 (.call 14 (.p (.v 0) (.v 6)))) (.expr (.bm .append (.v 8) (.o (.tup (.q (.v 10) (.v 11) (.blt .tuple (.o Hy)))))))
noncomputable def Hz:Br:=.for_ (.name 9) (.Kh (.call 14 (.p (.v 0) (.i 4)))) Ef
noncomputable def Ia:Ex:=.comp true 1 (.name 12) (.Kh (.v 6)) (.bin .add (.i 1) (.call 14 (.p (.v 0) (.i 3))))
noncomputable def Lp:m8:=.c (.a 1 (.call 14 (.p (.v 0) (.i 12)))) (.c (.f (.cmp .lt (.v 1) (.i 7)) (.c (.a 2 (.Hu (.p (.tup (.q (.i 0) (.i 1) (.tup (.p (.i 0) (.i 1))))) (.tup (.q (.i 0) (.i 1) (.tup (.p (.i 1) (.i 0)))))))) (.c (.a 3 (.Hu (.q (.tup (.q (.i 0) (.i 1) (.tup (.c (.i 0) (.q (.i 0) (.i 1) (.i 1)))))) (.tup (.q (.i 0) (.i 1) (.tup (.c (.i 0) (.q (.i 1) (.i 0) (.i 1)))))) (.tup (.q (.i 1) (.i 0) (.tup (.p (.i 0) (.i 3)))))))) (.q (.a 4 (.Hu (.o (.tup (.q (.i 0) (.i 0) (.tup (.p (.i 1) (.i 0)))))))) (.a 5 (.Hu (.c (.v 2) (.c (.v 3) (.c (.v 4) (.c (.Hu (.o (.tup (.q (.i 0) (.i 0) (.tup (.q (.i 1) (.i 2) (.i 0))))))) (.q (.Hu (.o (.tup (.q (.i 0) (.i 0) (.tup (.p (.i 0) (.i 0))))))) (.Hu .z) (.Hu (.p (.tup (.q (.i 0) (.i 1) (.tup (.p (.i 0) (.i 1))))) (.tup (.q (.i 1) (.i 2) (.tup (.q (.i 0) (.i 0) (.i 1)))))))))))))) (.ret (.ix (.v 5) (.v 1))))))) (.c (.a 6 (.bin .add (.i 1) (.call 14 (.p (.v 0) (.i 3))))) (.c (.a 7 Ia) (.q (.a 8 (.lst .z)) Hz (.ret (.v 8))))))
noncomputable def De:Fn:=⟨1,12,Lp⟩
noncomputable def Gy:Ex:=.comp true 1 (.name 10) (.val (.ix (.v 7) (.i 2))) (.ix (.ix (.v 8) (.i 2)) (.v 10))
noncomputable def By:m8:=.c (.a 4 (.tup .z)) (.q (.f (.cmp .eq (.ix (.v 7) (.i 1)) (.ix (.v 8) (.i 0))) (.o (.a 4 (.blt .tuple (.o Gy))))) (.a 9 (.tup (.q (.ix (.v 7) (.i 0)) (.ix (.v 8) (.i 1)) (.v 4)))) (.f (.and (.cmp .ne (.v 4) (.tup .z)) (.and (.cmp .Ra (.v 9) (.v 1)) (.or (.cmp .ne (.ix (.v 9) (.i 0)) (.ix (.v 9) (.i 1))) (.cmp .ne (.v 4) (.afv (.l (.v 4))))))) (.o (.expr (.bm .append (.v 1) (.o (.v 9)))))))
noncomputable def Gz:Br:=.for_ (.names [7,8]) (.val (.Hu (.p (.tup (.p (.ix (.v 1) (.v 5)) (.ix (.v 1) (.v 6)))) (.tup (.p (.ix (.v 1) (.v 6)) (.ix (.v 1) (.v 5))))))) By
noncomputable def G3:m8:=.o Gz
noncomputable def G4:Br:=.for_ (.name 6) (.Kh (.l (.v 1))) G3
noncomputable def My:m8:=.p G4 (.a 5 (.bin .add (.v 5) (.i 1)))
noncomputable def G5:Br:=.whl (.and (.cmp .lt (.v 5) (.l (.v 1))) (.cmp .lt (.l (.v 1)) (.i 6))) My
noncomputable def zf:m8:=.o (.f (.and (.or (.cmp .ne (.v 2) (.v 3)) (.cmp .ne (.v 4) (.afv (.l (.v 4))))) (.cmp .Ra (.tup (.q (.v 2) (.v 3) (.v 4))) (.v 1))) (.o (.expr (.bm .append (.v 1) (.o (.tup (.q (.v 2) (.v 3) (.v 4))))))))
noncomputable def G6:Br:=.for_ (.names [2,3,4]) (.val (.v 0)) zf
noncomputable def Qd:m8:=.c (.a 1 (.lst .z)) (.c G6 (.q (.a 5 (.i 0)) G5 (.ret (.v 1))))
noncomputable def Qe:Fn:=⟨1,10,Qd⟩
noncomputable def Ft:Ex:=.comp true 3 (.names [8,9,10]) (.val (.v 2)) (.tup (.p (.v 8) (.v 9)))
noncomputable def Fv:Ex:=.comp true 1 (.name 8) (.val (.ix (.ix (.v 2) (.v 5)) (.i 2))) (.ix (.ix (.ix (.v 2) (.v 6)) (.i 2)) (.v 8))
noncomputable def Bb:m8:=.o (.f (.cmp .eq (.ix (.ix (.v 2) (.v 5)) (.i 1)) (.ix (.ix (.v 2) (.v 6)) (.i 0))) (.p (.a 7 (.tup (.q (.ix (.ix (.v 2) (.v 5)) (.i 0)) (.ix (.ix (.v 2) (.v 6)) (.i 1)) (.blt .tuple (.o Fv))))) (.asg (.sub (.v 4) (.tup (.p (.v 5) (.v 6)))) (.ite (.cmp .inn (.v 7) (.v 2)) (.bm .index (.v 2) (.o (.v 7))) (.neg (.i 1))))))
noncomputable def K4:Br:=.for_ (.name 6) (.Kh (.l (.v 2))) Bb
noncomputable def Fw:m8:=.o K4
noncomputable def Fy:Br:=.for_ (.name 5) (.Kh (.l (.v 2))) Fw
noncomputable def Fz:Ex:=.comp true 3 (.names [8,9,10]) (.val (.v 2)) (.blt .max (.p (.v 8) (.v 9)))
noncomputable def K5:m8:=.p (.a 1 (.cut (.v 1) .none (.some (.neg (.i 1))))) (.a 2 (.call 16 (.o (.v 1))))
noncomputable def Ga:Br:=.whl (.cmp .gt (.l (.v 2)) (.i 5)) K5
noncomputable def N8:m8:=.c (.a 1 (.call 15 (.o (.v 0)))) (.c (.a 2 (.call 16 (.o (.v 1)))) (.c Ga (.c (.a 3 (.bin .add (.i 1) (.blt .max (.o (.bin .add Fz (.Hu (.o (.i 0)))))))) (.c (.f (.cmp .eq (.v 2) (.Hu .z)) (.o (.a 3 (.bin .add (.i 1) (.call 14 (.p (.v 0) (.i 3))))))) (.q (.a 4 .ajs) Fy (.ret (.tup (.q (.v 3) (.blt .tuple (.o Ft)) (.v 4)))))))))
noncomputable def Oa:Fn:=⟨1,8,N8⟩
noncomputable def J8:Ex:=.Dj true 1 (.name 2) (.Kh (.l (.ix (.v 0) (.i 1)))) (.cmp .eq (.ix (.ix (.ix (.v 0) (.i 1)) (.v 2)) (.i 0)) (.v 1)) (.v 2)
noncomputable def Uo:m8:=.o (.ret (.bin .add (.Hu (.o (.neg (.i 1)))) J8))
noncomputable def Uq:Fn:=⟨2,2,Uo⟩
noncomputable def Qt:m8:=.o (.ret (.ite (.cmp .lt (.v 2) (.i 0)) (.v 1) (.ix (.ix (.ix (.v 0) (.i 1)) (.v 2)) (.i 1))))
noncomputable def Qu:Fn:=⟨3,3,Qt⟩
noncomputable def Gm:m8:=.p (.f (.or (.cmp .lt (.v 1) (.i 0)) (.cmp .lt (.v 2) (.i 0))) (.o (.ret (.bin .add (.bin .add (.v 1) (.v 2)) (.i 1))))) (.ret (.ix (.ix (.v 0) (.i 2)) (.tup (.p (.v 1) (.v 2)))))
noncomputable def Gn:Fn:=⟨3,3,Gm⟩
noncomputable def ajz:m8:=.o .pass
noncomputable def aj0:Br:=.whl (.cst (.bl true)) ajz
noncomputable def as5:m8:=.o aj0
noncomputable def as6:Fn:=⟨1,1,as5⟩
noncomputable def aw1:m8:=.p (.f (.cmp .eq (.v 2) (.i (-1))) (.o (.ret (.v 1)))) (.ret (.ix (.ix (.ix (.v 0) (.i 1)) (.v 2)) (.v 1)))
noncomputable def aw2:Fn:=⟨3,3,aw1⟩
noncomputable def Rm:m8:=.o (.ret (.and (.call 24 (.q (.v 1) (.v 2) (.v 3))) (.cmp .is (.call 25 (.c (.v 0) (.q (.v 1) (.v 2) (.v 3)))) (.cst .non))))
noncomputable def Rn:Fn:=⟨4,4,Rm⟩
noncomputable def Lq:Ex:=.comp true 1 (.name 6) (.val (.v 3)) (.chain .le .lt (.i 0) (.v 6) (.v 5))
noncomputable def Eg:m8:=.p (.f (.cmp .ne (.l (.v 3)) (.v 4)) (.o (.ret (.cst (.bl false))))) (.f (.not (.blt .all (.o Lq))) (.o (.ret (.cst (.bl false)))))
noncomputable def Lr:Br:=.for_ (.names [3,4,5]) (.acj (.v 2) (.ix (.v 0) (.i 0)) (.ix (.v 1) (.i 0))) Eg
noncomputable def Ls:m8:=.q (.f (.cmp .ne (.l (.v 2)) (.l (.ix (.v 0) (.i 0)))) (.o (.ret (.cst (.bl false))))) Lr (.ret (.cst (.bl true)))
noncomputable def Lw:Fn:=⟨3,6,Ls⟩
noncomputable def Eh:m8:=.o (.f (.cmp .ne (.call 22 (.q (.v 2) (.ix (.v 6) (.v 8)) (.v 4))) (.ix (.v 7) (.v 9))) (.o (.ret (.tup (.p (.v 4) (.v 8))))))
noncomputable def Ib:Br:=.for_ (.names [8,9]) (.enm (.ix (.ix (.v 1) (.i 1)) (.v 4))) Eh
noncomputable def Ei:m8:=.q (.a 6 (.ix (.v 3) (.ix (.v 5) (.i 0)))) (.a 7 (.ix (.v 3) (.ix (.v 5) (.i 1)))) Ib
noncomputable def Ie:Br:=.for_ (.names [4,5]) (.enm (.meth (.v 0) 1 .z)) Ei
noncomputable def Lx:m8:=.p Ie (.ret (.cst .non))
noncomputable def Ly:Fn:=⟨4,10,Lx⟩
noncomputable def Mz:Ex:=.comp true 1 (.name 13) (.val (.ix (.v 1) (.v 6))) (.ite (.cmp .eq (.v 13) (.v 12)) (.v 11) (.v 13))
noncomputable def Ca:m8:=.c (.a 9 (.ix (.ix (.v 1) (.v 5)) (.v 8))) (.q (.a 10 (.ix (.ix (.v 1) (.v 6)) (.ix (.ix (.v 2) (.v 4)) (.v 8)))) (.f (.cmp .ne (.bm .get (.v 7) (.p (.v 9) (.v 10))) (.v 10)) (.c (.a 11 (.blt .min (.p (.ix (.v 7) (.v 9)) (.v 10)))) (.c (.a 12 (.blt .max (.p (.ix (.v 7) (.v 9)) (.v 10)))) (.c (.asg (.sub (.v 1) (.v 6)) Mz) (.q (.a 3 (.cst (.bl true))) (.a 7 .aak) .brk))))) (.asg (.sub (.v 7) (.v 9)) (.v 10)))
noncomputable def Nb:Br:=.for_ (.name 8) (.Kh (.l (.ix (.v 1) (.v 5)))) Ca
noncomputable def Dn:m8:=.q (.asg (.tg (.names [5,6])) (.ix (.ix (.v 0) (.i 1)) (.v 4))) (.a 7 .aak) Nb
noncomputable def Nf:Br:=.for_ (.name 4) (.Kh (.l (.ix (.v 0) (.i 1)))) Dn
noncomputable def G7:m8:=.p (.a 3 (.cst (.bl false))) Nf
noncomputable def G8:Br:=.whl (.v 3) G7
noncomputable def Qf:m8:=.q (.a 3 (.cst (.bl true))) G8 (.ret (.v 1))
noncomputable def Qg:Fn:=⟨3,13,Qf⟩
noncomputable def Ig:Ex:=.comp true 1 (.name 19) (.val (.v 16)) (.l (.v 19))
noncomputable def Ih:Ex:=.comp true 1 (.name 19) (.val (.v 18)) (.bm .index (.ix (.v 16) (.v 12)) (.o (.v 19)))
noncomputable def Ii:Ex:=.comp true 1 (.name 19) (.val (.ix (.v 16) (.v 11))) (.ix (.ix (.v 13) (.v 12)) (.ix (.ix (.v 9) (.v 10)) (.v 19)))
noncomputable def Ej:m8:=.q (.asg (.tg (.names [11,12])) (.ix (.ix (.v 1) (.i 1)) (.v 10))) (.a 18 Ii) (.expr (.bm .append (.v 17) (.o (.blt .tuple (.o Ih)))))
noncomputable def Ob:Br:=.for_ (.name 10) (.Kh (.l (.ix (.v 1) (.i 1)))) Ej
noncomputable def Ij:Ex:=.comp true 1 (.name 19) (.val (.v 13)) (.blt .Gi (.o (.v 19)))
noncomputable def Oc:Ex:=.comp true 1 (.name 19) (.val (.ix (.v 13) (.v 5))) (.ite (.cmp .eq (.v 19) (.v 15)) (.v 14) (.v 19))
noncomputable def Cu:m8:=.c (.a 5 (.call 14 (.p (.v 0) (.ix (.v 1) (.i 0))))) (.q (.a 11 (.call 14 (.p (.v 0) (.i 7)))) (.a 12 (.call 14 (.p (.v 0) (.i 7)))) (.f (.cmp .lt (.blt .max (.p (.v 11) (.v 12))) (.l (.ix (.v 13) (.v 5)))) (.c (.a 14 (.blt .min (.p (.ix (.ix (.v 13) (.v 5)) (.v 11)) (.ix (.ix (.v 13) (.v 5)) (.v 12))))) (.q (.a 15 (.blt .max (.p (.ix (.ix (.v 13) (.v 5)) (.v 11)) (.ix (.ix (.v 13) (.v 5)) (.v 12))))) (.asg (.sub (.v 13) (.v 5)) Oc) (.a 13 (.call 26 (.q (.v 1) (.v 13) (.v 9))))))))
noncomputable def Od:Br:=.for_ (.name 10) (.Kh (.call 14 (.p (.v 0) (.i 4)))) Cu
noncomputable def Ik:Ex:=.comp false 1 (.name 19) (.val (.v 3)) (.afw (.l (.v 19)))
noncomputable def Il:Ex:=.comp true 3 (.names [19,20,21]) (.val (.ix (.v 3) (.v 11))) (.bm .index (.ix (.v 3) (.v 12)) (.o (.tup (.q (.v 19) (.v 20) (.call 20 (.q (.v 1) (.v 21) (.v 10)))))))
noncomputable def Im:m8:=.p (.asg (.tg (.names [11,12])) (.ix (.ix (.v 1) (.i 1)) (.v 10))) (.expr (.bm .append (.v 9) (.o Il)))
noncomputable def Oe:Br:=.for_ (.name 10) (.Kh (.l (.ix (.v 1) (.i 1)))) Im
noncomputable def Ip:Ex:=.comp true 1 (.name 19) (.val (.v 3)) (.l (.v 19))
noncomputable def Ek:m8:=.o (.expr (.bm .append (.ix (.v 3) (.v 7)) (.o (.tup (.q (.v 4) (.v 5) (.v 8))))))
noncomputable def Og:Br:=.for_ (.names [7,8]) (.val (.v 6)) Ek
noncomputable def Ir:Ex:=.comp true 1 (.name 19) (.val (.call 18 (.p (.v 1) (.v 5)))) (.tup (.p (.call 19 (.q (.v 1) (.v 5) (.v 19))) (.v 19)))
noncomputable def Cv:m8:=.q (.a 5 (.call 14 (.p (.v 0) (.ix (.v 1) (.i 0))))) (.a 6 Ir) (.f (.cmp .lt (.bin .add (.blt .max (.o Ip)) (.l (.v 6))) (.i 8)) (.o Og))
noncomputable def Oh:Br:=.for_ (.name 4) (.Kh (.call 14 (.p (.v 0) (.bin .add (.v 2) (.i 1))))) Cv
noncomputable def Ng:Ex:=.comp true 1 (.name 19) (.Kh (.ix (.v 1) (.i 0))) (.lst .z)
noncomputable def Ro:m8:=.c (.a 3 Ng) (.c Oh (.c (.a 9 (.lst .z)) (.c Oe (.c (.a 13 Ik) (.c Od (.c (.a 16 Ij) (.q (.a 17 (.lst .z)) Ob (.ret (.tup (.p (.blt .tuple (.o Ig)) (.blt .tuple (.o (.v 17)))))))))))))
noncomputable def Rp:Fn:=⟨3,19,Ro⟩
noncomputable def Qv:m8:=.o (.ret (.ite (.cmp .lt (.v 2) (.i 0)) (.v 1) (.ix (.ix (.ix (.v 0) (.i 1)) (.v 2)) (.v 1))))
noncomputable def Qw:Fn:=⟨3,3,Qv⟩
noncomputable def El:m8:=.c (.a 9 (.call 19 (.q (.v 0) (.v 4) (.v 8)))) (.c (.a 10 (.call 28 (.q (.v 1) (.v 5) (.v 8)))) (.q (.a 11 (.call 28 (.q (.v 2) (.v 6) (.v 8)))) (.f (.cmp .ne (.bm .get (.ix (.v 7) (.v 9)) (.p (.v 10) (.v 11))) (.v 11)) (.o (.ret (.cst .non)))) (.asg (.sub (.ix (.v 7) (.v 9)) (.v 10)) (.v 11))))
noncomputable def Iu:Br:=.for_ (.name 8) (.val (.call 18 (.p (.v 0) (.v 4)))) El
noncomputable def Iv:Ex:=.comp true 1 (.name 12) (.val (.v 3)) (.blt .dict (.o (.v 12)))
noncomputable def Lz:m8:=.q (.a 7 Iv) Iu (.ret (.v 7))
noncomputable def Ma:Fn:=⟨7,12,Lz⟩
noncomputable def Em:Ex:=.comp true 1 (.name 11) (.Kh (.ix (.ix (.v 2) (.i 0)) (.v 10))) (.ix (.ix (.v 4) (.v 10)) (.v 11))
noncomputable def Js:Ex:=.comp true 1 (.name 10) (.Kh (.ix (.v 1) (.i 0))) (.blt .tuple (.o Em))
noncomputable def Cg:m8:=.o (.f (.cmp .is (.v 7) (.cst .non)) (.o (.a 7 (.call 29 (.c (.v 1) (.c (.v 2) (.c (.v 3) (.c (.v 4) (.q (.v 5) (.v 6) (.bin .mod (.bin .add (.v 9) (.v 8)) (.ix (.ix (.v 3) (.i 0)) (.v 5))))))))))))
noncomputable def Jt:Br:=.for_ (.name 9) (.Kh (.ix (.ix (.v 3) (.i 0)) (.v 5))) Cg
noncomputable def Ah:m8:=.o (.f (.cmp .Ra (.v 6) (.ix (.v 4) (.v 5))) (.c (.a 7 (.cst .non)) (.c (.a 8 (.call 14 (.p (.v 0) (.blt .max (.p (.i 1) (.ix (.ix (.v 3) (.i 0)) (.v 5))))))) (.q Jt (.f (.cmp .is (.v 7) (.cst .non)) (.o (.ret (.cst .non)))) (.a 4 (.v 7))))))
noncomputable def Ju:Br:=.for_ (.name 6) (.Kh (.ix (.ix (.v 2) (.i 0)) (.v 5))) Ah
noncomputable def Ci:m8:=.o Ju
noncomputable def Jv:Br:=.for_ (.name 5) (.Kh (.ix (.v 1) (.i 0))) Ci
noncomputable def Eo:Ex:=.comp true 1 (.name 10) (.Kh (.ix (.v 1) (.i 0))) .aak
noncomputable def G9:m8:=.q (.a 4 Eo) Jv (.ret (.blt .tuple (.o Js)))
noncomputable def Ha:Fn:=⟨4,10,G9⟩
noncomputable def Hb:Ex:=.Dj true 1 (.name 3) (.val (.v 0)) (.not (.chain .le .lt (.i 0) (.v 3) (.v 2))) (.v 3)
noncomputable def J9:m8:=.o (.ret (.and (.cmp .eq (.l (.v 0)) (.v 1)) (.cmp .eq Hb (.Hu .z))))
noncomputable def Ka:Fn:=⟨3,3,J9⟩
noncomputable def Dp:m8:=.o (.f (.not (.call 31 (.q (.ix (.v 3) (.v 4)) (.ix (.ix (.v 1) (.i 0)) (.v 4)) (.ix (.ix (.v 2) (.i 0)) (.v 4))))) (.o (.ret (.cst (.bl false)))))
noncomputable def Nh:Br:=.for_ (.name 4) (.Kh (.ix (.v 0) (.i 0))) Dp
noncomputable def Gp:m8:=.q (.f (.cmp .ne (.l (.v 3)) (.ix (.v 0) (.i 0))) (.o (.ret (.cst (.bl false))))) Nh (.ret (.cmp .eq (.call 33 (.c (.v 0) (.q (.v 1) (.v 2) (.v 3)))) (.Hu .z)))
noncomputable def Gq:Fn:=⟨4,5,Gp⟩
noncomputable def Ep:m8:=.p (.a 9 (.ix (.ix (.ix (.v 2) (.i 1)) (.v 5)) (.ix (.ix (.v 3) (.v 6)) (.v 8)))) (.f (.cmp .ne (.ix (.ix (.v 3) (.v 7)) (.ix (.ix (.ix (.v 1) (.i 1)) (.v 5)) (.v 8))) (.v 9)) (.o (.expr (.bm .append (.v 4) (.o (.tup (.p (.v 5) (.v 8))))))))
noncomputable def Oi:Br:=.for_ (.name 8) (.Kh (.ix (.ix (.v 1) (.i 0)) (.v 6))) Ep
noncomputable def Iw:m8:=.p (.asg (.tg (.names [6,7])) (.ix (.ix (.v 0) (.i 1)) (.v 5))) Oi
noncomputable def Oj:Br:=.for_ (.name 5) (.Kh (.l (.ix (.v 0) (.i 1)))) Iw
noncomputable def Rq:m8:=.q (.a 4 (.lst .z)) Oj (.ret (.v 4))
noncomputable def Rr:Fn:=⟨4,10,Rq⟩
noncomputable def Gb:Br:=.iff (.cmp .eq (.v 4) (.i 4)) (.o (.a 5 (.bin .add (.cut (.v 5) (.some (.i 1)) .none) (.cut (.v 5) .none (.some (.i 1)))))) (.q (.a 7 (.ix (.bin .add (.ix (.v 2) (.i 0)) (.tup (.p (.i 0) (.i 0)))) (.v 3))) (.a 8 (.ix (.Hu (.q (.v 7) (.neg (.i 1)) (.call 14 (.p (.v 0) (.blt .max (.p (.i 1) (.v 7))))))) (.bin .sub (.v 4) (.i 5)))) (.a 5 (.bin .add (.bin .add (.cut (.v 5) .none (.some (.v 6))) (.tup (.o (.v 8)))) (.cut (.v 5) (.some (.bin .add (.v 6) (.i 1))) .none))))
noncomputable def Df:Br:=.iff (.cmp .eq (.v 4) (.i 3)) (.o (.a 5 (.cut (.v 5) (.some (.i 1)) .none))) (.o Gb)
noncomputable def zu:Br:=.iff (.or (.cmp .eq (.v 4) (.i 2)) (.cmp .eq (.v 5) (.tup .z))) (.o (.a 5 (.bin .add (.v 5) (.tup (.o (.i 0)))))) (.o Df)
noncomputable def Ge:Br:=.f (.cmp .eq (.v 4) (.i 1)) (.o (.ret (.bin .add (.cut (.v 1) .none (.some (.v 3))) (.cut (.v 1) (.some (.bin .add (.v 3) (.i 1))) .none))))
noncomputable def Bu:Br:=.f (.or (.cmp .eq (.v 1) (.tup .z)) (.cmp .eq (.v 4) (.i 0))) (.o (.ret (.bin .add (.v 1) (.tup (.o (.tup .z))))))
noncomputable def Cw:m8:=.c (.a 3 (.call 14 (.p (.v 0) (.blt .max (.p (.i 1) (.l (.v 1))))))) (.c (.a 4 (.call 14 (.p (.v 0) (.i 8)))) (.c Bu (.c (.a 5 (.ix (.v 1) (.v 3))) (.c (.a 6 (.call 14 (.p (.v 0) (.blt .max (.p (.i 1) (.l (.v 5))))))) (.q Ge zu (.ret (.bin .add (.bin .add (.cut (.v 1) .none (.some (.v 3))) (.tup (.o (.v 5)))) (.cut (.v 1) (.some (.bin .add (.v 3) (.i 1))) .none))))))))
noncomputable def Cy:Fn:=⟨3,9,Cw⟩
noncomputable def Yn:m8:=.o (.f (.not (.call 31 (.q (.ix (.v 3) (.v 4)) (.ix (.ix (.v 1) (.i 0)) (.v 4)) (.ix (.ix (.v 2) (.i 0)) (.v 4))))) (.o (.ret (.cst (.bl false)))))
noncomputable def Qh:Br:=.for_ (.name 4) (.Kh (.ix (.v 0) (.i 0))) Yn
noncomputable def Kc:Ex:=.comp true 1 (.name 5) (.val (.v 3)) (.l (.v 5))
noncomputable def Jw:m8:=.q (.f (.cmp .ne Kc (.blt .list (.o (.ix (.v 1) (.i 0))))) (.o (.ret (.cst (.bl false))))) Qh (.ret (.cst (.bl true)))
noncomputable def Jx:Fn:=⟨4,5,Jw⟩
noncomputable def Kd:m8:=.c (.a 5 (.call 23 (.c (.v 1) (.q (.v 2) (.v 3) (.v 4))))) (.q (.f (.or (.not (.blt .isBool (.o (.v 5)))) (.cmp .ne (.v 5) (.call 32 (.c (.v 0) (.q (.v 2) (.v 3) (.v 4)))))) (.o (.ret (.cst (.bl false))))) (.f (.not (.call 35 (.c (.v 0) (.q (.v 2) (.v 3) (.v 4))))) (.o (.ret (.cst (.bl true))))) (.ret (.cmp .eq (.call 25 (.c (.v 1) (.q (.v 2) (.v 3) (.v 4)))) (.ix (.bin .add (.call 33 (.c (.v 0) (.q (.v 2) (.v 3) (.v 4)))) (.Hu (.o (.cst .non)))) (.i 0)))))
noncomputable def Ke:Fn:=⟨5,6,Kd⟩
noncomputable def aat:m8:=.p (.a 7 (.call 34 (.q (.v 2) (.v 7) (.v 6)))) (.f (.not (.call 36 (.c (.v 3) (.c (.v 4) (.q (.v 5) (.v 6) (.v 7)))))) (.o (.ret (.cst (.bl false)))))
noncomputable def ahq:Br:=.for_ (.name 8) (.Kh (.call 14 (.p (.v 2) (.i 3)))) aat
noncomputable def Vq:Ex:=.comp true 1 (.name 9) (.val (.ix (.v 5) (.i 0))) (.bin .mul (.tup (.o (.i 0))) (.v 9))
noncomputable def aau:m8:=.c (.a 2 (.call 13 (.p (.v 0) (.v 1)))) (.c (.a 3 (.call 17 (.o (.v 2)))) (.c (.a 4 (.make 2 (.q (.ix (.v 3) (.i 0)) (.ix (.v 3) (.i 1)) (.ix (.v 3) (.i 2))))) (.c (.a 5 (.call 27 (.q (.v 2) (.v 3) (.i 3)))) (.c (.a 6 (.call 27 (.q (.v 2) (.v 3) (.i 3)))) (.c (.a 7 (.call 30 (.c (.v 2) (.q (.v 3) (.v 5) (.v 6))))) (.q (.f (.cmp .is (.v 7) (.cst .non)) (.o (.a 7 (.blt .tuple (.o Vq))))) (.f (.not (.call 36 (.c (.v 3) (.c (.v 4) (.q (.v 5) (.v 6) (.v 7)))))) (.o (.ret (.cst (.bl false))))) ahq))))))
noncomputable def ahr:Br:=.for_ (.name 1) (.Kh (.i 2)) aau
noncomputable def aw3:m8:=.p ahr (.ret (.cst (.bl true)))
noncomputable def am1:Fn:=⟨1,9,aw3⟩
noncomputable def prog:Prog:=⟨[Kv,Vf,Ky,Tw,Wl,Ym,Jp,Mw,Fo,Ny,Qc,N5,Hx,Ln,N7,De,Qe,Oa,Uq,Qu,Gn,as6,aw2,Rn,Lw,Ly,Qg,Rp,Qw,Ma,Ha,Ka,Gq,Rr,Cy,Jx,Ke,am1],[⟨0,[]⟩,⟨0,[]⟩,⟨0,[(0,1),(1,2),(2,3),(3,4),(4,5)]⟩]⟩
set_option genInjectivity true in
structure F where
 a:Nat
 b:Nat
 r:List Nat
 deriving DecidableEq
noncomputable def nD(x:Nat):D:=.int (x:Int)
noncomputable def Ew(r:Y3):D:=.tup (r.map nD)
noncomputable def F.toD(f:F):D:=.tup [.int f.a,.int f.b,Ew f.r]
def ahs(x y:Nat):decide ((x:Int)=(y:Int))=decide (x=y):=by
 by_cases h:x=y
 . simp[h]
 . have:¬((x:Int)=(y:Int)):=by lia
   simp[h,this]
def Mf(M:cj)(n x y:Nat):Kl M (n+1) (.int x) (.int y)=some (decide (x=y)):=by rw[ahm,ahs]
theorem Vr(M:cj)(n:Nat):∀r s:List Nat,Q8 (Kl M (n+1)) (r.map nD) (s.map nD)=some (decide (r=s))
 |[],[]=>by simp[Q8]|[],_::_=>by simp[Q8]|_::_,[]=>by simp[Q8]
 |x::r,y::s=>by
  rw[ig,ig,Ec (a:=nD x) (b:=nD y) (Mf M n x y) (Vr M n r s)]
  by_cases h:x=y<;>simp[h]
def af0(M:cj)(r s:Y3):vd M (Ew r) (Ew s)=some (decide (r=s)):=Vr M 4 r s
def bcx(M:cj)(f g:F):vd M f.toD g.toD=some (decide (f=g)):=by obtain⟨a,b,r⟩:=f;obtain⟨c,d,s⟩:=g;have e:Kl M 5 (Ew r) (Ew s)=some (decide (r=s)):=Vr M 3 r s;show Q8 (Kl M 5) [.int a,.int b,Ew r] [.int c,.int d,Ew s]=_;rw[Ec (Mf M 4 a c) (Ec (Mf M 4 b d) (Ec e (show Q8 (Kl M 5) [] []=some true from rfl)))];simp
theorem am2(M:cj)(g:F):∀fs:List F,Qo M g.toD (fs.map F.toD)=some (fs.map λf=>decide (f=g))
 |[]=>rfl|f::fs=>by simp only[ig,Qo,bcx,am2 M g fs]
def am3(M:cj)(g:F)(fs:List F):memD M g.toD (fs.map F.toD)=some (decide (g∈fs)):=by
 rw[memD,am2,v9]
 congr 1
 induction fs with
 |nil=>simp
 |cons f fs ih =>
  by_cases h:f=g
  . simp[h]
  . simp only[ig,List.any_cons,ih,bw,id]
    simp[h,jz h]
noncomputable def pos(g:F):List F->Nat
 |[]=>0|f::fs=>if f=g then 0 else pos g fs+1
def a5u(M:cj)(g:F)(fs:List F):Yi M g.toD (fs.map F.toD)=if g∈fs then some (pos g fs) else none:=by
 rw[Yi,am2,uo]
 induction fs with
 |nil=>simp
 |cons f fs ih =>
  rw[ig,List.findIdx?_cons,ih,pos]
  by_cases h:f=g
  . simp[h]
  . by_cases h2:g∈fs<;>simp[h,jz h,h2]
theorem aav(g:F):∀{fs:List F},g∈fs->fs[pos g fs]?=some g
 |f::fs,h=>by
  by_cases e:f=g
  . simp[pos,e]
  . have:g∈fs:=by
     rcases bw.mp h with q|q
     . exact absurd q.symm e
     . exact q
    simp[pos,e,aav g this]
def af1(nd:fs.Nodup)(h:fs[i]?=some f):pos f fs=i:=by have m:f∈fs:=au h;have g:=aav f m;obtain⟨l1,e1⟩:=ak.mp h;obtain⟨l2,e2⟩:=ak.mp g;exact(Aq nd).mp (e2.trans e1.symm)
noncomputable def F.comp(f g:F):F:=⟨f.a,g.b,f.r.map λx=>g.r.getD x 0⟩
noncomputable def F.Qx(f:F):Prop:=f.a=f.b/\f.r=List.range f.r.length
instance (f:F):Decidable f.Qx:=inferInstanceAs (Decidable (_/\_))
structure Yb(sz:Nat->Nat)(f:F):Prop where
 a:f.a<3
 b:f.b<3
 len:f.r.length=sz f.a
 ran:∀x∈f.r,x<sz f.b
noncomputable def Sz(sz:Nat->Nat):Prop:=∀k,1<=sz k/\sz k<=4
noncomputable def Good(sz:Nat->Nat)(fs:List F):Prop:=∀f∈fs,Yb sz f
def getD_mem{r:Y3}(h:x<r.length):r.getD x 0∈r:=by rw[bz,dh h];exact qz h
theorem Yb.comp(hf:Yb sz f)(hg:Yb sz g)(h:f.b=g.a):Yb sz (f.comp g):=by
 refine⟨hf.a,hg.b,by simp[F.comp,hf.len],λx hx=>?_⟩;obtain⟨y,hy,rfl⟩:=bu.mp hx;have:y<g.r.length:=by rw[hg.len,<- h];exact hf.ran y hy
 exact hg.ran _ (getD_mem this)
def acv(r:Y3):(List.range r.length).map (λx=>r.getD x 0)=r:=by
 apply Ab;intro i
 by_cases h:i<r.length
 . simp[h,yu h]
 . simp[Nat.le_of_not_lt h,p8]
def af2(hf:Yb sz f)(hg:Yb sz g)(e1:f.b=g.a):(f.comp g).comp h=f.comp (g.comp h):=by
 simp only[F.comp,tu,F.mk.injEq,true_and];apply qd;intro x hx;have:x<g.r.length:=by rw[hg.len,<- e1];exact hf.ran x hx
 simp[this]
noncomputable def idF(sz:Nat->Nat)(k:Nat):F:=⟨k,k,List.range (sz k)⟩
def aaw(hf:Yb sz f)(h:f.Qx):f=idF sz f.a:=by obtain⟨a,b,r⟩:=f;obtain⟨h1,h2⟩:=h;have:=hf.len;simp only[idF] at *;subst h1;rw[<- this,<- h2]
def id_comp(hf:Yb sz f):(idF sz f.a).comp f=f:=by obtain⟨a,b,r⟩:=f;have:=hf.len;simp only[idF,F.comp] at *;rw[<- this,acv]
def comp_id(hf:Yb sz f):f.comp (idF sz f.b)=f:=by
 obtain⟨a,b,r⟩:=f;have:=hf.ran;simp only[idF,F.comp,F.mk.injEq,true_and] at *
 conv=>rhs;rw[<- List.map_id r]
 apply qd;intro x hx;simp[yu (this x hx)]
noncomputable def Ol(fs:List F):Prop:=∀f∈fs,∀g∈fs,f.b=g.a->f.comp g∈fs\/(f.comp g).Qx
def call_of(hm:1<=m)(hf:prog.fns[f]?=some Fx):prog.call m f ds M=Fx.run ⟨prog.call (m-1),prog.cls⟩ ds M:=by obtain⟨n,rfl⟩:∃n,m=n+1:=⟨m-1,by lia⟩;simp[Prog.call,hf]
noncomputable def ayt(n:Int)(f:Bool):Prop:=0<=n/\(f=false->n<2147483647)
noncomputable def Ur(t:Nat)(f:Bool)(M:cj):Prop:=∃n,M[t]?=some (.lst [.int n,.bl f])/\ayt n f
structure St(t:Nat)(f:Bool)(M M':cj):Prop where
 len:M.length<=M'.length
 has:Ur t f M'
 keep:∀(a:Nat)(o:MO),a≠t->M[a]?=some o->M'[a]?=some o
def St.trans(a:St t f M M1)(b:St t f M1 M2):St t f M M2 :=
 ⟨gn a.len b.len,b.has,λx o n h=>b.keep x o n (a.keep x o n h)⟩
def St.of(h:Ur t f M)(k:zc M M'):St t f M M' :=
 ⟨k.len,let ⟨n,a,b⟩:=h;⟨n,k _ _ a,b⟩,λa o _ e=>k a o e⟩
def Ai(hm:1<=m)(hs:Ur t f M)(hp:0<many)(hq:many<1073741824) :
 ∃(v:Nat)(M':cj),prog.call m 14 [.ref t,.int many] M=.ok (.int v) M'/\(v:Int)<many/\St t f M M'/\M'.length=M.length:=by
 obtain⟨n,h,hn⟩:=hs;rw[call_of hm rfl];have hl:=o4 h;have g0:=Ce hl (i:=0) (by decide) rfl;have g1:=Ce hl (i:=1) (by decide) rfl;have fin:∀n':Int,ayt n' f->St t f M (M.set t (.lst [.int n',.bl f])):=λn' o=>⟨by simp,⟨n',vq h,o⟩,λa u e q=>by rw[su (jz e)];exact q⟩
 have hm0:many≠0:=by lia
 have c1:∀y:Int,∃v:Nat,y%many=(v:Int)/\(v:Int)<many:=λy=>by have a:=Bc y hm0;have b:=zj y hp;exact⟨(y%many).toNat,by lia,by lia⟩
 cases f with
 |true =>
  obtain⟨v,e,l⟩:=c1 n;refine⟨v,_,?_,l,fin (n / many) ⟨Int.ediv_nonneg hn.1 (by lia),by simp⟩,by simp⟩;simp[Fn.run,N7,N6,g0,g1,hp,Zb _ _ hp hq,aaq h,e]
 |false =>
  have h1:=hn.1;have h2:=hn.2 rfl;obtain⟨n',en⟩:∃n',(n*48271+29)%2147483647=n':=⟨_,rfl⟩;have e1:0<=n':=en▸Bc _ (by decide)
  have e2:n'<2147483647:=en▸zj _ (by decide)
  obtain⟨x,ex⟩:∃x,(n'*n'+39373*n'+7)%2147483629=x:=⟨_,rfl⟩;have x1:0<=x:=ex▸Bc _ (by decide)
  have x2:x<2147483629:=ex▸zj _ (by decide)
  obtain⟨y,ey⟩:∃y,(x*x+16807*x)%2147483587=y:=⟨_,rfl⟩;obtain⟨v,e,l⟩:=c1 (y / 8);refine⟨v,_,?_,l,fin n' ⟨e1,λ_=>e2⟩,by simp⟩;have k:=vq (o:=.lst [.int n',.bl false]) h;have k0:=Ce (o4 k) (i:=0) (by decide) rfl;simp[Fn.run,N7,N6,g0,g1,hp,aaq h,Nu n 48271 (.inr (by decide)),en,k0,Nu n' n' (.inl (by lia)),Nu 39373 n' (.inl (by decide)),ex,Nu x x (.inl (by lia)),Nu 16807 x (.inl (by decide)),ey,Zb _ 8 (by decide) (by decide),e]
def aht{k:Nat}{ns:Xs}(hm:1<=m):prog.call m 12 [.fz (ns.map D.int),.int k] M=.ok (.int (ns.getD k 0)) M:=by
 rw[call_of hm rfl]
 by_cases hk:k<ns.length
 . simp[Fn.run,Hx,Hw,amy,hk,a5s (ds:=ns.map D.int) (i:=k) (x:=.int (ns.getD k 0)) q_ (by simp[hk])]
 . simp[Fn.run,Hx,Hw,amy,hk]
def am4{k:Nat}{ns:Xs}(hm:2<=m):∃n f,prog.call m 13 [.fz (ns.map D.int),.int k] M=.ok (.ref M.length) (M++[.lst [.int n,.bl f]])/\ayt n f:=by
 rw[call_of (a_ (by decide) hm) rfl]
 by_cases h:(10:Int) ^ 18<=ns.getD k 0
 . refine⟨ns.getD k 0-10 ^ 18,true,?_,by lia,by simp⟩
   have h':(1000000000000000000:Int)<=ns[k]?.getD 0:=by simpa using h
   simp[Fn.run,Ln,Lj,aht (show 1<=m-1 by exact r_ hm),h',MW.new]
 . refine⟨ns.getD k 0%2147483647,false,?_,Bc _ (by decide),λ_=>zj _ (by decide)⟩
   have h':¬(1000000000000000000:Int)<=ns[k]?.getD 0:=by simpa using h
   simp[Fn.run,Ln,Lj,aht (show 1<=m-1 by exact r_ hm),h',MW.new]
def ahu(n:Nat)(i:Nat)(M:cj)(h:i<n):(Src.con ((List.range n).map λ(k:Nat)=>D.int (k:Int))).item i M=some (.int i):=by simp[Src.item,yu h]
def ahv(n:Nat):(Src.con ((List.range n).map λ(k:Nat)=>D.int (k:Int))).len=n:=by simp[Src.len]
def am5{K:Nat}(hm:1<=m)(hs:Ur t f M)(hK:K<=3) :
 ∃(Kf:Y3)(M':cj),Ia.den ⟨prog.call m,prog.cls⟩ [D.ref t,a1,a2,a3,a4,a5,D.int K,a7,a8,a9,a10,a11] M=.ok (.vl (Kf.map nD)) M'/\Kf.length=K/\(∀x∈Kf,1<=x/\x<=3)/\St t f M M'/\M'.length=M.length:=by
 unfold Ia;rw[Nt];have hK':K<=100000:=a_ hK (by decide)
 simp[hK'];have h:=Ks (fin:=λ_=>true) (item:=(Src.con ((List.range K).map λ(k:Nat)=>D.int (k:Int))).item)
  (body:=λd M=>((prog.call m 14 [D.ref t,D.int 3] M).bind λy M2=>Cm .add (.int 1) y M2).bind λx M'=>Res.ok (some x) M')
  (λi xs M'=>∃Kf:List Nat,xs=Kf.map nD/\Kf.length=i/\(∀x∈Kf,1<=x/\x<=3)/\St t f M M'/\M'.length=M.length) (n:=K)
  (λi xs M' hi hI=>by
   obtain⟨Kf,rfl,rfl,h1,h2,h3⟩:=hI;obtain⟨v,M2,e,l,s2,l2⟩:=Ai hm h2.has (many:=3) (by decide) (by decide);refine⟨.int Kf.length,some (.int (1+v)),M2,ahu K _ M' hi,by simp[e],Kf++[1+v],by simp[nD],by simp,λx hx=>?_,h2.trans s2,l2.trans h3⟩;rcases dj.mp hx with q|q
   . exact h1 x q
   . have:x=1+v:=by simpa using q
     lia) (λ_ _ _=>rfl) K 0 [] M (u5 _) ⟨[],rfl,rfl,by simp,St.of hs (zc.refl M),rfl⟩
 obtain⟨ys,M',e,Kf,h1,h2,h3,h4,h5⟩:=h;refine⟨Kf,M',?_,h2,h3,h4,h5⟩;rw[Ax,ahv,cg hK',show(Src.con ((List.range _).map λ(k:Nat)=>D.int (k:Int))).fin=λ_=>true from rfl,e];simp at h1;simp[h1]
def ayu{Kf:Y3}(hm:1<=m)(hs:Ur t f M)(h3:∀x∈Kf,1<=x/\x<=3)(hi:i<Kf.length)(hj:j<Kf.length) :
 ∃(r:Y3)(M':cj),Hy.den ⟨prog.call m,prog.cls⟩ [D.ref t,a1,a2,a3,a4,a5,a6,D.vl (Kf.map nD),a8,a9,D.int i,D.int j] M=.ok (.vl (r.map nD)) M' /\
  r.length=Kf.getD i 0/\(∀x∈r,x<Kf.getD j 0)/\St t f M M'/\M'.length=M.length:=by
 unfold Hy;rw[Nt];have gi:=Ce (M:=M) (d:=.vl (Kf.map nD)) (i:=i) (x:=.int ((Kf.getD i 0:Nat):Int)) rfl q_ (by simp[hi,nD]);have gj:∀M',Am (.vl (Kf.map nD)) (.int j) M'=some (.int ((Kf.getD j 0:Nat):Int)):=λM'=>Ce rfl q_ (by simp[hj,nD])
 have bi:=h3 _ (getD_mem hi);have bj:=h3 _ (getD_mem hj);generalize ea:Kf.getD i 0=a at *;generalize eb:Kf.getD j 0=b at *;have ha:a<=100000:=a_ bi.2 (by decide)
 simp[gi,gj,ha];have h:=Ks (fin:=λ_=>true) (item:=(Src.con ((List.range a).map λ(k:Nat)=>D.int (k:Int))).item)
  (body:=λd M=>(prog.call m 14 [D.ref t,D.int b] M).bind λx M'=>Res.ok (some x) M')
  (λi xs M'=>∃r:List Nat,xs=r.map nD/\r.length=i/\(∀x∈r,x<b)/\St t f M M'/\M'.length=M.length) (n:=a)
  (λi xs M' hi hI=>by
   obtain⟨r,rfl,rfl,h1,h2,h3⟩:=hI;obtain⟨v,M2,e,l,s2,l2⟩:=Ai hm h2.has (many:=b) (m_ bj.1) (m_ (c_ bj.2 (by decide)));refine⟨.int r.length,some (.int v),M2,ahu a _ M' hi,by simp[e],r++[v],by simp[nD],by simp,λx hx=>?_,h2.trans s2,l2.trans h3⟩;rcases dj.mp hx with q|q
   . exact h1 x q
   . have:x=v:=by simpa using q
     exact c_ (f_ this) (o_ l)) (λ_ _ _=>rfl) a 0 [] M (u5 _) ⟨[],rfl,rfl,by simp,St.of hs (zc.refl M),rfl⟩
 obtain⟨ys,M',e,r,h1,h2,h3,h4,h5⟩:=h;refine⟨r,M',?_,h2,h3,h4,h5⟩;rw[Ax,ahv,cg ha,show(Src.con ((List.range _).map λ(k:Nat)=>D.int (k:Int))).fin=λ_=>true from rfl,e];simp at h1;simp[h1]
def aax{v:Nat}{Kf:Y3}(hm:1<=m)(hs:Ur t f M)(hK:Kf.length=K)(hK1:1<=K)(hK3:K<=3)(h3:∀x∈Kf,1<=x/\x<=3)(hp:M[p]?=some (.lst []))(hpt:p≠t) :
 ∃(fs:List F)(ρ':Env)(M':cj),Hz.den ⟨prog.call m,prog.cls⟩ [D.ref t,D.int v,none,none,none,none,D.int K,D.vl (Kf.map nD),D.ref p,a9,a10,a11] M=.ok (.next,ρ') M' /\
  ρ'[8]?=some (some (.ref p))/\M'[p]?=some (.lst (fs.map F.toD))/\fs.length<=3/\Good (λk=>Kf.getD k 1) fs/\M.length<=M'.length/\Ur t f M'/\(∀(a:Nat)(o:MO),a≠t->a≠p->M[a]?=some o->M'[a]?=some o):=by
 refine hG λ_ _k=>?_
 obtain⟨w,M1,e1,l1,s1,ll1⟩:=Ai hm hs (many:=4) (by decide) (by decide);apply _k;unfold Hz;rw[Tq];have hw:w<=100000:=e_ (b_ (o_ l1) (by decide))
 simp[e1,hw];refine hG λ_ _k=>?_
 obtain⟨ρ',M',e,fs,b9,b10,Mg,rfl,h1,h2,h4,h5,h6,h7⟩:=aas (n:=w) (body:=λd ρ M=>Ef.den ⟨prog.call m,prog.cls⟩ (ρ.set 9 (some d)) M)
  (λi ρ M'=>∃(fs:List F)(b9 b10 Mg:Option D),ρ=[some (.ref t),some (.int v),none,none,none,none,some (.int K),some (.vl (Kf.map nD)),some (.ref p),b9,b10,Mg] /\
   M'[p]?=some (.lst (fs.map F.toD))/\fs.length=i/\Good (λk=>Kf.getD k 1) fs/\M.length<=M'.length/\Ur t f M'/\(∀(a:Nat)(o:MO),a≠t->a≠p->M[a]?=some o->M'[a]?=some o))
  (M:=M1) ⟨[],a9,a10,a11,rfl,by simpa using s1.keep p _ hpt hp,rfl,by intro f hf;simp at hf,s1.len,s1.has,λa o na _ h=>s1.keep a o na h⟩
  (λi ρ M2 hi hI=>by
   refine hG λ_ _k=>?_
   obtain⟨fs,b9,b10,Mg,rfl,g1,g2,g3,g4,g5,g6⟩:=hI;obtain⟨x,M3,ex,lx,sx,llx⟩:=Ai hm g5 (many:=K) (m_ hK1) (m_ (c_ hK3 (by decide)));obtain⟨y,M4,ey,ly,sy,lly⟩:=Ai hm sx.has (many:=K) (m_ hK1) (m_ (c_ hK3 (by decide)));obtain⟨r,M5,er,lr,rr,sr,llr⟩:=ayu (a1:=some (.int v)) (a2:=none) (a3:=none) (a4:=none) (a5:=none) (a6:=some (.int K)) (a8:=some (.ref p)) (a9:=some (.int i)) (i:=x) (j:=y) hm sy.has h3 (b_ (o_ lx) (g_ hK)) (b_ (o_ ly) (g_ hK));have gp:=sr.keep p _ hpt (sy.keep p _ hpt (sx.keep p _ hpt g1));apply _k;have hl:(fs.map F.toD).length<100000:=by rw[dz];exact c_ (f_ g2) (b_ hi hw)
   refine⟨.next,_,M5.set p (.lst (fs.map F.toD++[F.toD ⟨x,y,r⟩])),?_,.inl rfl,fs++[⟨x,y,r⟩],some (.int i),some (.int x),some (.int y),rfl,?_,by simp[g2],?_,?_,?_,?_⟩
   . simp[Ef,ex,ey,er,Jm gp hl,J7 (sy.keep p _ hpt (sx.keep p _ hpt g1)),uh,F.toD,Ew]
   . rw[vq gp];simp
   . intro f hf
     rcases dj.mp hf with q|q
     . exact g3 f q
     . have:f=⟨x,y,r⟩:=by simpa using q
       subst this;refine⟨by show x<3;exact b_ (o_ lx) hK3,by show y<3;exact b_ (o_ ly) hK3,?_,?_⟩
       . show r.length=Kf.getD x 1
         rw[lr];simp[bz,dh (show x<Kf.length by exact b_ (o_ lx) (g_ hK))]
       . intro z hz
         have:=rr z hz;show z<Kf.getD y 1
         simp[bz,dh (show y<Kf.length by exact b_ (o_ ly) (g_ hK))] at this ⊢;exact this
   . have:=sr.len;have:=sy.len;have:=sx.len;simp;exact a_ g4 (a_ (g_ llx) (a_ (g_ lly) (g_ llr)))
   . obtain⟨n',q1,q2⟩:=sr.has
     exact⟨n',by rw[su hpt];exact q1,q2⟩
   . intro a o na nb h
     rw[su (jz nb)];exact sr.keep a o na (sy.keep a o na (sx.keep a o na (g6 a o na nb h))))
 have e':Bw (Src.con ((List.range w).map λ(k:Nat)=>D.int (k:Int))).fin (Src.con ((List.range w).map λ(k:Nat)=>D.int (k:Int))).item (λd ρ M=>Ef.den ⟨prog.call m,prog.cls⟩ (ρ.set 9 (some d)) M) (Src.con ((List.range w).map λ(k:Nat)=>D.int (k:Int))).len 0 [some (.ref t),some (.int v),none,none,none,none,some (.int K),some (.vl (Kf.map nD)),some (.ref p),a9,a10,a11] M1=_:=e;apply _k;exact⟨fs,[some (.ref t),some (.int v),none,none,none,none,some (.int K),some (.vl (Kf.map nD)),some (.ref p),b9,b10,Mg],M',e',rfl,h1,by lia,h4,h5,h6,h7⟩
def am6(hm:2<=m)(hs:Ur t f M):∃(d:D)(M':cj)(fs:List F)(sz:Nat->Nat),prog.call m 15 [.ref t] M=.ok d M'/\fu M' d=some (fs.map F.toD)/\(∀n,d=.ref n->n≠t)/\Sz sz/\Good sz fs/\fs.length<=3/\St t f M M':=by
 have hm1:1<=m-1:=r_ hm
 obtain⟨v,M1,e1,l1,s1,ll1⟩:=Ai hm1 hs (many:=12) (by decide) (by decide);rw[call_of (a_ hm1 C_) rfl]
 by_cases hv:v<7
 . have hv':(v:Int)<7:=m_ hv
   have key:∀(fs:List F)(sz:Nat->Nat),De.run ⟨prog.call (m-1),prog.cls⟩ [.ref t] M=.ok (.vl (fs.map F.toD)) M1->Sz sz->Good sz fs->fs.length<=3 ->
    ∃(d:D)(M':cj)(fs:List F)(sz:Nat->Nat),De.run ⟨prog.call (m-1),prog.cls⟩ [.ref t] M=.ok d M'/\fu M' d=some (fs.map F.toD)/\(∀n,d=.ref n->n≠t)/\Sz sz/\Good sz fs/\fs.length<=3/\St t f M M' :=
    λfs sz a b c d=>⟨_,M1,fs,sz,a,rfl,λn h=>(by cases h),b,c,d,s1⟩
   have run:∀d,Am (.vl [.vl [.tup [.int 0,.int 1,.tup [.int 0,.int 1]],.tup [.int 0,.int 1,.tup [.int 1,.int 0]]],.vl [.tup [.int 0,.int 1,.tup [.int 0,.int 0,.int 1,.int 1]],.tup [.int 0,.int 1,.tup [.int 0,.int 1,.int 0,.int 1]],.tup [.int 1,.int 0,.tup [.int 0,.int 3]]],
    .vl [.tup [.int 0,.int 0,.tup [.int 1,.int 0]]],.vl [.tup [.int 0,.int 0,.tup [.int 1,.int 2,.int 0]]],.vl [.tup [.int 0,.int 0,.tup [.int 0,.int 0]]],.vl [],.vl [.tup [.int 0,.int 1,.tup [.int 0,.int 1]],.tup [.int 1,.int 2,.tup [.int 0,.int 0,.int 1]]]]) (.int v) M1=some d ->
    De.run ⟨prog.call (m-1),prog.cls⟩ [.ref t] M=.ok d M1:=λd hd=>by simp[Fn.run,De,Lp,e1,hv',hd]
   have cs:v=0\/v=1\/v=2\/v=3\/v=4\/v=5\/v=6:=by lia
   rcases cs with rfl|rfl|rfl|rfl|rfl|rfl|rfl
   . refine key [⟨0,1,[0,1]⟩,⟨0,1,[1,0]⟩] (λ_=>2) ?_ (λk=>by simp) (λf hf=>?_) (by decide)
     . exact run _ rfl
     . simp at hf;rcases hf with rfl|rfl<;>exact⟨by decide,by decide,by decide,by decide⟩
   . refine key [⟨0,1,[0,0,1,1]⟩,⟨0,1,[0,1,0,1]⟩,⟨1,0,[0,3]⟩] (λk=>if k=0 then 4 else 2) ?_ (λk=>by dsimp only;split<;>omega) (λf hf=>?_) (by decide)
     . exact run _ rfl
     . simp at hf;rcases hf with rfl|rfl|rfl<;>exact⟨by decide,by decide,by decide,by decide⟩
   . refine key [⟨0,0,[1,0]⟩] (λ_=>2) ?_ (λk=>by simp) (λf hf=>?_) (by decide)
     . exact run _ rfl
     . simp at hf;subst hf;exact⟨by decide,by decide,by decide,by decide⟩
   . refine key [⟨0,0,[1,2,0]⟩] (λ_=>3) ?_ (λk=>by simp) (λf hf=>?_) (by decide)
     . exact run _ rfl
     . simp at hf;subst hf;exact⟨by decide,by decide,by decide,by decide⟩
   . refine key [⟨0,0,[0,0]⟩] (λ_=>2) ?_ (λk=>by simp) (λf hf=>?_) (by decide)
     . exact run _ rfl
     . simp at hf;subst hf;exact⟨by decide,by decide,by decide,by decide⟩
   . refine key [] (λ_=>1) ?_ (λk=>by simp) (λf hf=>?_) (by decide)
     . exact run _ rfl
     . simp at hf
   . refine key [⟨0,1,[0,1]⟩,⟨1,2,[0,0,1]⟩] (λk=>if k=1 then 3 else 2) ?_ (λk=>by dsimp only;split<;>exact⟨by decide,by decide⟩) (λf hf=>?_) (by decide)
     . exact run _ rfl
     . simp at hf;rcases hf with rfl|rfl<;>exact⟨by decide,by decide,by decide,by decide⟩
 . have hv':¬(v:Int)<7:=by lia
   obtain⟨u,M2,e2,l2,s2,ll2⟩:=Ai hm1 s1.has (many:=3) (by decide) (by decide);obtain⟨K,eK,hKu⟩:∃K:Nat,(1:Int)+(u:Int)=(K:Int)/\K=1+u:=⟨1+u,by lia,rfl⟩;obtain⟨Kf,M3,e3,l3,r3,s3,ll3⟩:=am5 (a1:=some (.int v)) (a2:=none) (a3:=none) (a4:=none) (a5:=none) (a7:=none) (a8:=none) (a9:=none) (a10:=none) (a11:=none) (K:=K) hm1 s2.has (by lia);have htl:t<M3.length:=by obtain⟨n,h,_⟩:=s3.has;exact ye h
   have h4:Ur t f (M3++[.lst []]):=by obtain⟨n,h,o⟩:=s3.has;exact⟨n,yp h,o⟩
   obtain⟨fs,ρ',M5,e5,q8,q1,q2,q3,q4,q5,q6⟩:=aax (v:=v) (K:=K) (p:=M3.length) (a9:=none) (a10:=none) (a11:=none) hm1 h4 l3 (by lia) (by lia) r3 (by simp) (i_ htl);refine⟨.ref M3.length,M5,fs,λk=>Kf.getD k 1,?_,o4 q1,λn h=>by cases h;exact i_ htl,λk=>?_,q3,q2,?_⟩
   . simp[Fn.run,De,Lp,e1,hv',e2,eK,e3,MW.new,e5,q8]
   . show 1<=Kf.getD k 1/\Kf.getD k 1<=4
     by_cases h:k<Kf.length
     . have:=r3 _ (getD_mem h)
       simp[bz,h] at this ⊢;exact⟨this.1,a_ this.2 (by decide)⟩
     . simp[bz,h]
   . refine s1.trans (s2.trans (s3.trans ⟨?_,q5,λa o na h=>q6 a o na ?_ (yp h)⟩))
     . have:=q4;simp at this;lia
     . have:=ye h;exact h_ this
structure Up(p:Nat)(M M':cj):Prop where
 len:M'.length=M.length
 oth:∀a:Nat,a≠p->M'[a]?=M[a]?
def Up.refl(p:Nat)(M:cj):Up p M M:=⟨rfl,λ_ _=>rfl⟩
theorem Up.trans(a:Up p M M1)(b:Up p M1 M2):Up p M M2:=⟨b.len.trans a.len,λx h=>(b.oth x h).trans (a.oth x h)⟩
theorem Up.set(p:Nat)(M:cj)(o:MO):Up p M (M.set p o):=⟨by simp,λa h=>su (jz h)⟩
def Qy(h:M[p]?=some (.lst ds)):Py M x (.ref p)=memD M x ds:=by simp[Py,h,Aw,fu]
def Us(f:F)(M:cj):Am f.toD (.int 0) M=some (.int f.a):=rfl
def Ut(f:F)(M:cj):Am f.toD (.int 1) M=some (.int f.b):=rfl
def am7(f:F)(M:cj):Am f.toD (.int 2) M=some (Ew f.r):=rfl
def Om(M:cj)(r:Y3)(n:Nat):vd M (Ew r) (.tup ((List.range n).map λ(k:Nat)=>D.int (k:Int)))=some (decide (r=List.range n)):=af0 M r (List.range n)
def eq_nil(M:cj)(r:Y3):vd M (Ew r) (.tup [])=some (decide (r=[])):=af0 M r []
def Bl(M:cj)(a b:Nat):vd M (.int a) (.int b)=some (decide (a=b)):=by rw[eq_int,ahs]
def Jy(M:cj)(r:Y3):uh .len [Ew r] M=.ok (.int r.length) M:=by simp[uh,Aw,Ew]
def aay(M:cj)(ds:List D):uh .tuple [.vl ds] M=.ok (.tup ds) M:=by simp[uh,Aw]
def aaz(M:cj)(r:Y3):uh .tuple [.vl (r.map nD)] M=.ok (Ew r) M:=aay M _
def af3(hz:Sz sz)(h:Yb sz f):1<=f.r.length/\f.r.length<=4:=by rw[h.len];exact hz _
def as9(M:cj)(r:Y3):srcOf M (Ew r)=some (.con (r.map nD)):=rfl
def am8(M:cj)(r:Y3)(h:x<r.length):Am (Ew r) (.int x) M=some (.int (r.getD x 0)):=Hv q_ (by simp[h,nD])
def am9(hz:Sz sz)(hf:Yb sz f)(hg:Yb sz g)(h:f.b=g.a) :
 Gy.den W [a0,a1,a2,a3,a4,a5,a6,some f.toD,some g.toD,a9] M=.ok (.vl ((f.comp g).r.map nD)) M:=by
 have hsm:(f.r.map nD).length<=100000:=by rw[dz,hf.len];have:=hz f.a;exact a_ this.2 (by decide)
 unfold Gy;rw[Nt];simp[am7,as9];have:=ahn (M:=M) (ds:=f.r.map nD) (g:=λd=>match d with|.int i=>nD (g.r.getD i.toNat 0)|_=>.non)
  (body:=λd M=>((Res.u9 (Am (Ew g.r) d M) M).bind λx M'=>Res.ok (some x) M')) hsm (λd hd=>by
   obtain⟨x,hx,rfl⟩:=bu.mp hd;have hx':x<g.r.length:=by rw[hg.len,<- h];exact hf.ran x hx
   rw[show nD x=D.int (x:Int) from rfl,am8 M g.r hx'];simp[nD])
 rw[this];simp[F.comp,nD]
noncomputable def Mh(gs:List F)(f g:F):List F:=if f.b=g.a/\f.comp g∉gs/\¬(f.comp g).Qx then gs++[f.comp g] else gs
def af4(f g:F):D.tup [.int f.a,.int g.b,Ew (f.comp g).r]=(f.comp g).toD:=rfl
def Wm(hz:Sz sz)(hf:Yb sz f)(hg:Yb sz g)(hp:M[p]?=some (.lst (gs.map F.toD)))(hl:gs.length<100000) :
 ∃(b4 b9:Option D)(M':cj),By.den W [a0,D.ref p,a2,a3,a4,a5,a6,some f.toD,some g.toD,a9] M=.ok (.next,[a0,some (.ref p),a2,a3,b4,a5,a6,some f.toD,some g.toD,b9]) M' /\
  M'[p]?=some (.lst ((Mh gs f g).map F.toD))/\Up p M M':=by
 by_cases h:f.b=g.a
 . have hc:=am9 (W:=W) (M:=M) (a0:=a0) (a1:=some (.ref p)) (a2:=a2) (a3:=a3) (a4:=some (.tup [])) (a5:=a5) (a6:=a6) (a9:=a9) hz hf hg h
   have hr:(f.comp g).r≠[]:=λe=>by have:=(af3 hz (hf.comp hg h)).1;rw[e] at this;simp at this
   have hlen:(f.comp g).r.length<=100000:=by have:=(af3 hz (hf.comp hg h)).2;exact a_ this (by decide)
   have Ji:=am3 M (f.comp g) gs;have e0:(f.comp g).a=f.a:=rfl;have e1:(f.comp g).b=g.b:=rfl;have ap:=Jm (d:=(f.comp g).toD) hp (by rw[dz];exact hl);have key:∃T:Res (Flow×Env),By.den W [a0,D.ref p,a2,a3,a4,a5,a6,some f.toD,some g.toD,a9] M=T/\(f.comp g∈gs->T=.ok (.next,[a0,some (.ref p),a2,a3,some (Ew (f.comp g).r),a5,a6,some f.toD,some g.toD,some (f.comp g).toD]) M)/\(f.comp g∉gs->(f.comp g).Qx->T=.ok (.next,[a0,some (.ref p),a2,a3,some (Ew (f.comp g).r),a5,a6,some f.toD,some g.toD,some (f.comp g).toD]) M) /\
    (f.comp g∉gs->¬(f.comp g).Qx->T=.ok (.next,[a0,some (.ref p),a2,a3,some (Ew (f.comp g).r),a5,a6,some f.toD,some g.toD,some (f.comp g).toD]) (M.set p (.lst ((gs++[f.comp g]).map F.toD)))):=by
    refine⟨_,(by simp[-eq_int,By,Us,Ut,Bl,h,hc,aaz,af4,eq_nil,hr,Qy hp,Ji];exact rfl),?_,?_,?_⟩
    . intro m;simp[m]
    . intro m i;simp[-eq_int,m,Us,Ut,Bl,i.1,Jy,hlen,Om,yx i.2]
    . intro m i
      by_cases i1:(f.comp g).a=(f.comp g).b
      . have i2:¬(f.comp g).r=List.range (f.comp g).r.length:=λq=>i ⟨i1,q⟩
        simp[-eq_int,Us,Ut,Bl,m,i1,Jy,hlen,Om,i2,J7 hp,ap]
      . simp[-eq_int,Us,Ut,Bl,m,i1,Jy,hlen,Om,J7 hp,ap]
   obtain⟨T,e,k1,k2,k3⟩:=key
   by_cases m:f.comp g∈gs
   . exact⟨_,_,M,e.trans (k1 m),by rw[Mh,bx (λq=>q.2.1 m)];exact hp,Up.refl p M⟩
   . by_cases i:(f.comp g).Qx
     . exact⟨_,_,M,e.trans (k2 m i),by rw[Mh,bx (λq=>q.2.2 i)];exact hp,Up.refl p M⟩
     . exact⟨_,_,_,e.trans (k3 m i),by rw[Mh,cg ⟨h,m,i⟩,vq hp],Up.set _ _ _⟩
 . refine⟨some (.tup []),some (.tup [.int f.a,.int g.b,.tup []]),M,?_,by rw[Mh,bx (λq=>h q.1)];exact hp,Up.refl p M⟩
   have:=af0 M [] [];simp[Ew] at this;simp[-eq_int,By,Us,Ut,Bl,h,this]
structure Inv(sz:Nat->Nat)(gs:List F):Prop where
 good:Good sz gs
 nd:gs.Nodup
 nid:∀f∈gs,¬f.Qx
def Inv.snoc{sz:Nat->Nat}(h:Inv sz gs)(hf:Yb sz f)(hm:f∉gs)(hi:¬f.Qx):Inv sz (gs++[f]):=by
 refine⟨λx hx=>?_,?_,λx hx=>?_⟩
 . rcases dj.mp hx with q|q
   . exact h.good x q
   . have:x=f:=by simpa using q
     exact this▸hf
 . rw[yh]
   refine⟨h.nd,by simp,λa ha b hb=>?_⟩;have:b=f:=by simpa using hb
   exact λe=>hm (by rw[<- this,<- e];exact ha)
 . rcases dj.mp hx with q|q
   . exact h.nid x q
   . have:x=f:=by simpa using q
     exact this▸hi
noncomputable def Cl2(gs:List F)(f g:F):Prop:=f.b=g.a->f.comp g∈gs\/(f.comp g).Qx
def Cl2.mono(h:Cl2 gs f g)(s:gs <+: hs):Cl2 hs f g:=λe=>(h e).imp (λm=>s.subset m) id
def Oo(gs:List F)(f g:F):gs <+: Mh gs f g:=by
 unfold Mh;split
 . exact List.prefix_append _ _
 . exact List.prefix_rfl
def Wn(gs:List F)(f g:F):(Mh gs f g).length<=gs.length+1:=by unfold Mh;split<;>simp
set_option tactic.hygienic true in
def acw(h:Inv sz gs)(hf:Yb sz f)(hg:Yb sz g):Inv sz (Mh gs f g):=by
 unfold Mh;split
 . rename_i q;exact h.snoc (hf.comp hg q.1) q.2.1 q.2.2
 . exact h
def ahw(gs:List F)(f g:F):Cl2 (Mh gs f g) f g:=by
 intro e;unfold Mh
 by_cases m:f.comp g∈gs
 . left;split
   . exact yg _ m
   . exact m
 . by_cases i:(f.comp g).Qx
   . exact .inr i
   . left;rw[cg ⟨e,m,i⟩];simp
def Rt{gs:List F}{i:Nat}(s:gs <+: hs)(h:gs[i]?=some f):hs[i]?=some f:=by obtain⟨t,rfl⟩:=s;rw[du (ak.mp h).1];exact h
def Qi{gs:List F}{i:Nat}(hp:M[p]?=some (.lst (gs.map F.toD)))(h:gs[i]?=some f):Am (.ref p) (.int i) M=some f.toD:=Ce (o4 hp) q_ (by simp[h])
def Mi{gs:List F}(hp:M[p]?=some (.lst (gs.map F.toD))):uh .len [.ref p] M=.ok (.int gs.length) M:=by rw[len_list (o4 hp)];simp
def ayv{k j:Nat}(hz:Sz sz)(hi:Inv sz gs)(hp:M[p]?=some (.lst (gs.map F.toD)))(hl:gs.length<90000)(hk:gs[k]?=some f)(hj:gs[j]?=some g) :
 ∃(b4 b7 b8 b9:Option D)(M':cj),Gz.den W [a0,D.ref p,a2,a3,a4,D.int k,D.int j,a7,a8,a9] M=.ok (.next,[a0,some (.ref p),a2,a3,b4,some (.int k),some (.int j),b7,b8,b9]) M' /\
  M'[p]?=some (.lst ((Mh (Mh gs f g) g f).map F.toD))/\Up p M M':=by
 have hf:=hi.good f (au hk);have hg:=hi.good g (au hj);have l1:=Wn gs f g;obtain⟨b4,b9,M1,e1,p1,u1⟩:=Wm (W:=W) (M:=M) (a0:=a0) (a2:=a2) (a3:=a3) (a4:=a4) (a5:=some (.int k)) (a6:=some (.int j)) (a9:=a9) hz hf hg hp (b_ hl (by decide));obtain⟨c4,c9,M2,e2,p2,u2⟩:=Wm (W:=W) (M:=M1) (a0:=a0) (a2:=a2) (a3:=a3) (a4:=b4) (a5:=some (.int k)) (a6:=some (.int j)) (a9:=b9) hz hg hf p1 (by lia);refine⟨c4,some g.toD,some f.toD,c9,M2,?_,p2,u1.trans u2⟩;unfold Gz;rw[Tq];simp[Qi hp hk,Qi hp hj,srcOf,Src.len,Src.fin,Bw,Src.item,e1,e2]
def atb{k:Nat}(hz:Sz sz)(hi:Inv sz gs)(hp:M[p]?=some (.lst (gs.map F.toD)))(hl:gs.length<10000)(hk:gs[k]?=some f) :
 ∃(hs:List F)(b4 b6 b7 b8 b9:Option D)(M':cj),G4.den W [a0,D.ref p,a2,a3,a4,D.int k,a6,a7,a8,a9] M=.ok (.next,[a0,some (.ref p),a2,a3,b4,some (.int k),b6,b7,b8,b9]) M' /\
  M'[p]?=some (.lst (hs.map F.toD))/\Up p M M'/\gs <+: hs/\Inv sz hs/\hs.length<=3*gs.length/\∀(j:Nat)(g:F),gs[j]?=some g->Cl2 hs f g/\Cl2 hs g f:=by
 unfold G4;rw[Tq];have Yo:gs.length<=100000:=e_ (b_ hl (by decide))
 simp[Mi hp,Yo];refine hG λ_ _k=>?_
 obtain⟨ρ',M',e,hs,b4,b6,b7,b8,b9,rfl,h1,h2,h3,h4,h5,h6⟩:=aas (n:=gs.length) (body:=λd ρ M=>G3.den W (ρ.set 6 (some d)) M)
  (λi ρ M'=>∃(hs:List F)(b4 b6 b7 b8 b9:Option D),ρ=[a0,some (.ref p),a2,a3,b4,some (.int k),b6,b7,b8,b9]/\M'[p]?=some (.lst (hs.map F.toD))/\Up p M M'/\gs <+: hs/\Inv sz hs/\hs.length<=gs.length+2*i /\
   ∀(j:Nat)(g:F),j<i->gs[j]?=some g->Cl2 hs f g/\Cl2 hs g f) (ρ:=[a0,D.ref p,a2,a3,a4,D.int k,a6,a7,a8,a9]) (M:=M)
  ⟨gs,a4,a6,a7,a8,a9,rfl,hp,Up.refl p M,List.prefix_rfl,hi,x_,λj g h=>absurd h (yc _)⟩
  (λi ρ M2 Km hI=>by
   refine hG λ_ _k=>?_
   obtain⟨hs,b4,b6,b7,b8,b9,rfl,g1,g2,g3,g4,g5,g6⟩:=hI;have gi:gs[i]?=some gs[i]:=by simp[Km]
   obtain⟨c4,c7,c8,c9,M3,e3,p3,u3⟩:=ayv (W:=W) (M:=M2) (a0:=a0) (a2:=a2) (a3:=a3) (a4:=b4) (a7:=b7) (a8:=b8) (a9:=b9) hz g4 g1 (by lia) (Rt g3 hk) (Rt g3 gi);have hf:=g4.good f (au (Rt g3 hk));have hg:=g4.good gs[i] (au (Rt g3 gi));apply _k;refine⟨.next,_,M3,?_,.inl rfl,Mh (Mh hs f gs[i]) gs[i] f,c4,some (.int i),c7,c8,c9,rfl,p3,g2.trans u3,(g3.trans (Oo _ _ _)).trans (Oo _ _ _),acw (acw g4 hf hg) hg hf,?_,?_⟩
   . simp[G3,e3]
   . have:=Wn hs f gs[i]
     have:=Wn (Mh hs f gs[i]) gs[i] f
     lia
   . intro j g hj hg'
     have pr:=(Oo hs f gs[i]).trans (Oo (Mh hs f gs[i]) gs[i] f);rcases Nat.lt_succ_iff_lt_or_eq.mp hj with q|q
     . exact⟨(g6 j g q hg').1.mono pr,(g6 j g q hg').2.mono pr⟩
     . subst q
       have:g=gs[j]:=by rw[gi] at hg';exact(jq hg').symm
       subst this;exact⟨(ahw _ _ _).mono (Oo _ _ _),ahw _ _ _⟩)
 apply _k;refine⟨hs,b4,b6,b7,b8,b9,M',e,h1,h2,h3,h4,by lia,λj g hg=>h6 j g (ak.mp hg).1 hg⟩
def ana(f:F)(i j k:Nat)(ρ:Env):(Tg.names [i,j,k]).put f.toD ρ=some (((ρ.set i (some (.int f.a))).set j (some (.int f.b))).set k (some (Ew f.r))):=rfl
noncomputable def aa0(gs:List F)(f:F):List F:=if ¬f.Qx/\f∉gs then gs++[f] else gs
noncomputable def ClK(gs:List F)(k:Nat):Prop:=∀(i j:Nat)(f g:F),i<k->j<k->gs[i]?=some f->gs[j]?=some g->Cl2 gs f g
def aj1(hz:Sz sz)(hf:Yb sz f)(hp:M[p]?=some (.lst (gs.map F.toD)))(hl:gs.length<100000) :
 ∃M',zf.den W [a0,D.ref p,D.int f.a,D.int f.b,Ew f.r,a5,a6,a7,a8,a9] M=.ok (.next,[a0,some (.ref p),some (.int f.a),some (.int f.b),some (Ew f.r),a5,a6,a7,a8,a9]) M' /\
  M'[p]?=some (.lst ((aa0 gs f).map F.toD))/\Up p M M':=by
 have hlen:f.r.length<=100000:=by have:=(af3 hz hf).2;exact a_ this (by decide)
 have Ji:=am3 M f gs;have hD:D.tup [.int f.a,.int f.b,Ew f.r]=f.toD:=rfl;have ap:=Jm (d:=f.toD) hp (by rw[dz];exact hl)
 by_cases i:f.Qx
 . refine⟨M,?_,by rw[aa0,bx (λq=>q.1 i)];exact hp,Up.refl p M⟩
   simp[-eq_int,zf,Bl,i.1,Jy,hlen,Om,yx i.2]
 . by_cases m:f∈gs
   . refine⟨M,?_,by rw[aa0,bx (λq=>q.2 m)];exact hp,Up.refl p M⟩
     by_cases i1:f.a=f.b
     . have i2:¬f.r=List.range f.r.length:=λq=>i ⟨i1,q⟩
       simp[i1] at hD;simp[-eq_int,zf,Bl,i1,i2,Jy,hlen,Om,hD,Qy hp,Ji,m]
     . simp[-eq_int,zf,Bl,i1,Jy,hlen,Om,hD,Qy hp,Ji,m]
   . refine⟨M.set p (.lst ((gs++[f]).map F.toD)),?_,by rw[aa0,cg ⟨i,m⟩,vq hp],Up.set _ _ _⟩
     by_cases i1:f.a=f.b
     . have i2:¬f.r=List.range f.r.length:=λq=>i ⟨i1,q⟩
       simp[i1] at hD;simp[-eq_int,zf,Bl,i1,i2,Jy,hlen,Om,hD,Qy hp,Ji,m,J7 hp,ap]
     . simp[-eq_int,zf,Bl,i1,Jy,hlen,Om,hD,Qy hp,Ji,m,J7 hp,ap]
set_option tactic.hygienic true in
def anb(h:Inv sz gs)(hf:Yb sz f):Inv sz (aa0 gs f):=by
 unfold aa0;split
 . rename_i q;exact h.snoc hf q.2 q.1
 . exact h
def anc(gs:List F)(f:F):(aa0 gs f).length<=gs.length+1:=by unfold aa0;split<;>simp
def aj2(hz:Sz sz)(hi:Inv sz gs)(hp:M[p]?=some (.lst (gs.map F.toD)))(hl:gs.length<=3) :
 ∃(ρ':Env)(M':cj),G5.den W [a0,D.ref p,a2,a3,a4,D.int 0,a6,a7,a8,a9] M=.ok (.next,ρ') M'/\ρ'[1]?=some (some (.ref p))/\∃hs:List F,M'[p]?=some (.lst (hs.map F.toD))/\Up p M M'/\Inv sz hs/\hs.length<=15 /\
  (hs.length<6->Ol hs)/\(gs=[]->hs=[]):=by
 unfold G5;rw[aap];refine Pj (λm ρ M'=>∃(hs:List F)(k:Nat)(b4 b6 b7 b8 b9:Option D),ρ=[a0,some (.ref p),a2,a3,b4,some (.int k),b6,b7,b8,b9]/\M'[p]?=some (.lst (hs.map F.toD))/\Up p M M'/\Inv sz hs/\hs.length<=15/\ClK hs k/\k<=5/\m=10-k/\(gs=[]->hs=[]))
  (fun ρ' M'=>ρ'[1]?=some (some (.ref p))/\∃hs:List F,M'[p]?=some (.lst (hs.map F.toD))/\Up p M M'/\Inv sz hs/\hs.length<=15/\(hs.length<6->Ol hs)/\(gs=[]->hs=[])) ?_ afz 10 _ M (by decide)
  ⟨gs,0,a4,a6,a7,a8,a9,rfl,hp,Up.refl p M,hi,a_ hl (by decide),λi j f g h=>absurd h (yc _),my _,rfl,id⟩
 intro m ρ M1 hI;refine hG λ_ _k=>?_
 obtain⟨hs,k,b4,b6,b7,b8,b9,rfl,g1,g2,g3,g4,g5,g6,g7,g8⟩:=hI;apply _k
 by_cases c1:k<hs.length
 . have c1':(k:Int)<(hs.length:Int):=m_ c1
   by_cases c2:hs.length<6
   . have c2':(hs.length:Int)<6:=m_ c2
     right
     refine hG λ_ _k=>?_
     obtain⟨is,d4,d6,d7,d8,d9,M2,e,p2,u2,pr,inv2,l2,cl2⟩:=atb (W:=W) (M:=M1) (a0:=a0) (a2:=a2) (a3:=a3) (a4:=b4) (a6:=b6) (a7:=b7) (a8:=b8) (a9:=b9) (k:=k) hz g3 g1 (c_ g4 (by decide)) (show hs[k]?=some hs[k] by simp[c1]);apply _k;refine⟨M1,.next,_,M2,10-(k+1),?_,?_,.inl rfl,by lia,is,k+1,d4,d6,d7,d8,d9,rfl,p2,g2.trans u2,inv2,by lia,?_,by lia,rfl,?_⟩
     . simp[Mi g1,c1',c2']
     . simp[My,e]
     . intro i j f g hi' hj' hf hg
       have back:∀(i:Nat)(f:F),i<k+1->is[i]?=some f->hs[i]?=some f:=λi f hi hf=>by
        have Km:i<hs.length:=b_ hi c1
        have:=Rt pr (show hs[i]?=some hs[i] by simp[Km]);rw[hf] at this;rw[this];simp[Km]
       have hf':=back i f hi' hf;have hg':=back j g hj' hg
       by_cases ei:i=k
       . subst ei
         have:f=hs[i]:=by have:=hf';simp[c1] at this;exact this.symm
         subst this;exact(cl2 j g hg').1
       . by_cases ej:j=k
         . subst ej
           have:g=hs[j]:=by have:=hg';simp[c1] at this;exact this.symm
           subst this;exact(cl2 i f hf').2
         . exact(g5 i j f g (by lia) (by lia) hf' hg').mono pr
     . intro e0
       have:=g8 e0;subst this;simp at c1
   . left
     have c2':¬(hs.length:Int)<6:=by lia
     exact⟨M1,by simp[Mi g1,c1',c2'],rfl,hs,g1,g2,g3,g4,λq=>absurd q c2,g8⟩
 . left
   have c1':¬(k:Int)<(hs.length:Int):=by lia
   refine⟨M1,by simp[Mi g1,c1'],rfl,hs,g1,g2,g3,g4,λ_=>?_,g8⟩;intro f hf g hg;refine hG λ_ _k=>?_
   obtain⟨i,hi',ei⟩:=qb hf;obtain⟨j,hj',ej⟩:=qb hg;apply _k;exact g5 i j f g (b_ hi' (s_ c1)) (b_ hj' (s_ c1)) (by simp[hi',ei]) (by simp[hj',ej])
def Ze(hm:1<=m)(hz:Sz sz)(hg:Good sz fs)(hl:fs.length<=3)(hd:fu M d=some (fs.map F.toD)) :
 ∃(hs:List F)(M':cj),prog.call m 16 [d] M=.ok (.ref M.length) M'/\M'[M.length]?=some (.lst (hs.map F.toD))/\zc M M'/\M'.length=M.length+1/\Inv sz hs/\hs.length<=15/\(hs.length<6->Ol hs)/\(fs=[]->hs=[]):=by
 rw[call_of hm rfl];have hd1:fu (M++[.lst []]) d=some (fs.map F.toD):=(zc.app M _).fu hd;obtain⟨s,hs0,ρ1,M1,e1,gs,b2,b3,b4,rfl,h1,h2,h3,h4,h5⟩:=Wh (body:=λd ρ M=>match(Tg.names [2,3,4]).put d ρ with
  | some ρ'=>zf.den ⟨prog.call (m-1),prog.cls⟩ ρ' M|none=>.bad)
  (λi ρ M'=>∃(gs:List F)(b2 b3 b4:Option D),ρ=[some d,some (.ref M.length),b2,b3,b4,none,none,none,none,none]/\M'[M.length]?=some (.lst (gs.map F.toD))/\Up M.length (M++[.lst []]) M'/\Inv sz gs/\gs.length<=i/\(fs=[]->gs=[]))
  (ρ:=[some d,D.ref M.length,none,none,none,none,none,none,none,none]) (M:=M++[.lst []]) hd1
  ⟨[],none,none,none,rfl,by simp,Up.refl _ _,⟨λf hf=>by simp at hf,by simp,λf hf=>by simp at hf⟩,by simp,λ_=>rfl⟩
  (λi ρ M' hI=>by
   obtain⟨gs,b2,b3,b4,rfl,g1,g2,g3,g4,g5⟩:=hI;cases d with
   |vl xs=>exact hd
   |ref n =>
    have hn:n≠M.length:=by
     simp only[fu] at hd;cases e:M[n]? with
     |none=>rw[e] at hd;simp at hd|some o=>have:=ye e;exact h_ this
    simp only[fu] at hd1 ⊢;rw[g2.oth n hn];exact hd1
   | _=>simp[fu] at hd)
  (λi x ρ M' hx hI=>by
   obtain⟨gs,b2,b3,b4,rfl,g1,g2,g3,g4,g5⟩:=hI;obtain⟨f,hf,rfl⟩:∃f,fs[i]?=some f/\f.toD=x:=by simpa using hx
   have hfm:=au hf;have hil:=(ak.mp hf).1;obtain⟨M2,e2,p2,u2⟩:=aj1 (W:=⟨prog.call (m-1),prog.cls⟩) (M:=M') (a0:=some d) (a5:=none) (a6:=none) (a7:=none) (a8:=none) (a9:=none) hz (hg f hfm) g1 (c_ g4 (b_ hil (a_ hl (by decide))));refine⟨.next,_,M2,?_,.inl rfl,aa0 gs f,some (.int f.a),some (.int f.b),some (Ew f.r),rfl,p2,g2.trans u2,anb g3 (hg f hfm),?_,λe=>?_⟩
   . rw[ana];exact e2
   . have:=anc gs f;exact a_ this (v_ g4)
   . subst e;simp at hf)
 have hgl:gs.length<=3:=by simp at h4;exact a_ h4 hl
 obtain⟨ρ2,M2,e2,q1,hs,p2,u2,inv2,l2,c2,z2⟩:=aj2 (W:=⟨prog.call (m-1),prog.cls⟩) (M:=M1) (a0:=some d) (a2:=b2) (a3:=b3) (a4:=b4) (a6:=none) (a7:=none) (a8:=none) (a9:=none) hz h3 h1 hgl;have up:=h2.trans u2;refine⟨hs,M2,?_,p2,λa o h=>?_,?_,inv2,l2,c2,λe=>z2 (h5 e)⟩
 . have e1':G6.den ⟨prog.call (m-1),prog.cls⟩ [some d,D.ref M.length,none,none,none,none,none,none,none,none] (M++[.lst []])=.ok (.next,[some d,some (.ref M.length),b2,b3,b4,none,none,none,none,none]) M1:=by
    unfold G6;rw[Tq];simp[hs0];exact e1
   simp[Fn.run,Qe,Qd,MW.new,e1',e2,q1]
 . have:=ye h
   rw[up.oth a (h_ this)];exact yp h
 . rw[up.len];simp
noncomputable def eD(f:F):D:=.tup [.int f.a,.int f.b]
noncomputable def Jh(hs:List F):D:=.tup (hs.map eD)
noncomputable def ent(hs:List F)(f g:F):Int:=if f.comp g∈hs then(pos (f.comp g) hs:Int) else -1
noncomputable def ky(j k:Nat):List Kx:=[.inl (j:Int),.inl (k:Int)]
def af5(h:ky j k=ky j' k'):j=j'/\k=k':=by simp[ky] at h;exact⟨D_ h.1,D_ h.2⟩
noncomputable def Zf(j k j' k':Nat):Prop:=j'<j\/(j'=j/\k'<k)
structure Tb(hs:List F)(j k:Nat)(iw:List (List Kx×D)):Prop where
 keys:∀p∈iw,∃(j' k':Nat)(f g:F),p=(ky j' k',.int (ent hs f g))/\hs[j']?=some f/\hs[k']?=some g/\f.b=g.a/\Zf j k j' k'
 look:∀(j' k':Nat)(f g:F),hs[j']?=some f->hs[k']?=some g->f.b=g.a->Zf j k j' k'->vz iw (ky j' k')=some (.int (ent hs f g))
 len:iw.length<=j*hs.length+k
def aj3{iw:List (List Kx×D)}(h:∀p∈iw,p.1≠q):vz iw q=none:=by unfold vz;rw[List.find?_eq_none.mpr (λp hp=>by simpa using h p hp)];rfl
def aj4{iw:List (List Kx×D)}(h:∀p∈iw,p.1≠q):Cq iw q v=iw++[(q,v)]:=by unfold Cq;rw[bx];simp only[Ao,di,not_exists,not_and];exact h
def aa1{iw:List (List Kx×D)}(h:q≠q'):vz (iw++[(q,v)]) q'=vz iw q':=by
 unfold vz;rw[List.find?_append];cases e:iw.find? (λp=>decide (p.1=q')) with
 |some p=>rfl|none=>simp[h]
def aa2{iw:List (List Kx×D)}(h:∀p∈iw,p.1≠q):vz (iw++[(q,v)]) q=some v:=by unfold vz;rw[List.find?_append,List.find?_eq_none.mpr (λp hp=>by simpa using h p hp)];simp
def Tb.skip(h:Tb hs j k iw)(hf:hs[j]?=some f)(hg:hs[k]?=some g)(n:f.b≠g.a):Tb hs j (k+1) iw:=by
 refine⟨λp hp=>?_,λj' k' f' g' a b c d=>?_,by have:=h.len;exact a_ this (w_ x_)⟩
 . obtain⟨j',k',f',g',e,a,b,c,d⟩:=h.keys p hp
   exact⟨j',k',f',g',e,a,b,c,by unfold Zf at *;lia⟩
 . by_cases q:j'=j/\k'=k
   . obtain⟨rfl,rfl⟩:=q
     rw[hf] at a;rw[hg] at b;cases a;cases b;exact absurd c n
   . exact h.look j' k' f' g' a b c (by unfold Zf at *;lia)
def Tb.fresh(h:Tb hs j k iw):∀p∈iw,p.1≠ky j k:=by
 intro p hp e;obtain⟨j',k',f',g',rfl,a,b,c,d⟩:=h.keys p hp;have:=af5 e;unfold Zf at d
 lia
def Tb.put(h:Tb hs j k iw)(hf:hs[j]?=some f)(hg:hs[k]?=some g)(n:f.b=g.a):Tb hs j (k+1) (Cq iw (ky j k) (.int (ent hs f g))):=by
 rw[aj4 h.fresh];refine⟨λp hp=>?_,λj' k' f' g' a b c d=>?_,by have:=h.len;simp;lia⟩
 . rcases dj.mp hp with q|q
   . obtain⟨j',k',f',g',e,a,b,c,d⟩:=h.keys p q
     exact⟨j',k',f',g',e,a,b,c,by unfold Zf at *;lia⟩
   . have:p=(ky j k,.int (ent hs f g)):=by simpa using q
     exact⟨j,k,f,g,this,hf,hg,n,by unfold Zf;lia⟩
 . by_cases q:j'=j/\k'=k
   . obtain⟨rfl,rfl⟩:=q
     rw[hf] at a;rw[hg] at b;cases a;cases b;exact aa2 h.fresh
   . rw[aa1 (λe=>q (by have:=af5 e;exact⟨this.1.symm,this.2.symm⟩))]
     exact h.look j' k' f' g' a b c (by unfold Zf at *;lia)
def Tb.next(h:Tb hs j hs.length iw):Tb hs (j+1) 0 iw:=by
 refine⟨λp hp=>?_,λj' k' f' g' a b c d=>?_,by have:=h.len;have e:(j+1)*hs.length=j*hs.length+hs.length:=Nat.succ_mul _ _;exact a_ this (a_ (g_ e) x_)⟩
 . obtain⟨j',k',f',g',e,a,b,c,d⟩:=h.keys p hp
   exact⟨j',k',f',g',e,a,b,c,by unfold Zf at *;lia⟩
 . have:=(ak.mp b).1
   exact h.look j' k' f' g' a b c (by unfold Zf at *;lia)
def ane{hs:List F}{j k:Nat}(hz:Sz sz)(hf:Yb sz f)(hg:Yb sz g)(h:f.b=g.a)(hq:M[q]?=some (.lst (hs.map F.toD)))(hj:hs[j]?=some f)(hk:hs[k]?=some g) :
 Fv.den W [a0,a1,D.ref q,a3,a4,D.int j,D.int k,a7] M=.ok (.vl ((f.comp g).r.map nD)) M:=by
 have hsm:(f.r.map nD).length<=100000:=by rw[dz,hf.len];have:=hz f.a;exact a_ this.2 (by decide)
 unfold Fv;rw[Hk (ds:=f.r.map nD) (M1:=M) (g:=λd=>match d with|.int i=>nD (g.r.getD i.toNat 0)|_=>.non) (by simp[Qi hq hj,am7,Ew]) hsm (λx hx=>by
  obtain⟨y,hy,rfl⟩:=bu.mp hx;have hy':y<g.r.length:=by rw[hg.len,<- h];exact hf.ran y hy
  exact⟨_,rfl,by simp[Qi hq hk,am7,nD,am8 M g.r hy']⟩)]
 simp[F.comp,nD]
def af6(hz:Sz sz)(hi:Inv sz hs)(hl:hs.length<=5)(hq:M[q]?=some (.lst (hs.map F.toD)))(hr:M[r]?=some (.dT iw))(hj:hs[j]?=some f)(hk:hs[k]?=some g)(ht:Tb hs j k iw) :
 ∃(b7:Option D)(M':cj)(kvs':List (List Kx×D)),Bb.den W [a0,a1,D.ref q,a3,D.ref r,D.int j,D.int k,a7] M=.ok (.next,[a0,a1,some (.ref q),a3,some (.ref r),some (.int j),some (.int k),b7]) M' /\
  M'[r]?=some (.dT kvs')/\Tb hs j (k+1) kvs'/\Up r M M':=by
 have hjl:=(ak.mp hj).1;have hkl:=(ak.mp hk).1;have hf:=hi.good f (au hj);have hg:=hi.good g (au hk)
 by_cases h:f.b=g.a
 . have hc:=ane (W:=W) (M:=M) (a0:=a0) (a1:=a1) (a3:=a3) (a4:=some (.ref r)) (a7:=a7) hz hf hg h hq hj hk
   have Ji:=am3 M (f.comp g) hs;have hkv:iw.length<100000:=by
    have:=ht.len;have:j*hs.length<=5*5:=Nat.mul_le_mul (e_ (b_ hjl hl)) hl
    lia
   have st:=ays (d:=.int (ent hs f g)) (b:=.tup [.int j,.int k]) hr rfl hkv;refine⟨some (f.comp g).toD,_,Cq iw (ky j k) (.int (ent hs f g)),?_,vq (o:=.dT (Cq iw (ky j k) (.int (ent hs f g)))) hr,ht.put hj hk h,Up.set _ _ _⟩
   by_cases m:f.comp g∈hs
   . have hix:Kr .index (.ref q) [(f.comp g).toD] M=.ok (.int (pos (f.comp g) hs)) M:=by simp[Kr,Wg (o4 hq),a5u,m]
     have hty:Qp .index (.ref q) M=true:=by simp[Qp,o4 hq]
     have he:ent hs f g=(pos (f.comp g) hs:Int):=cg m;rw[he] at st;simp[-eq_int,Bb,Qi hq hj,Qi hq hk,Us,Ut,Bl,h,hc,aaz,af4,Qy hq,Ji,m,hty,hix,st,he,ky]
   . have he:ent hs f g=-1:=bx m
     rw[he] at st;simp[-eq_int,Bb,Qi hq hj,Qi hq hk,Us,Ut,Bl,h,hc,aaz,af4,Qy hq,Ji,m,st,he,ky]
 . refine⟨a7,M,iw,?_,hr,ht.skip hj hk h,Up.refl r M⟩
   simp[-eq_int,Bb,Qi hq hj,Qi hq hk,Us,Ut,Bl,h]
def ayw(hz:Sz sz)(hi:Inv sz hs)(hl:hs.length<=5)(hq:M[q]?=some (.lst (hs.map F.toD)))(hr:M[r]?=some (.dT []))(hqr:q≠r) :
 ∃(ρ':Env)(M':cj)(iw:List (List Kx×D)),Fy.den W [a0,a1,D.ref q,a3,D.ref r,a5,a6,a7] M=.ok (.next,ρ') M'/\ρ'[2]?=some (some (.ref q))/\ρ'[3]?=some a3/\ρ'[4]?=some (some (.ref r))/\ρ'.length=8 /\
  M'[r]?=some (.dT iw)/\Tb hs hs.length 0 iw/\Up r M M':=by
 unfold Fy;have hlen:∀(M':cj),Up r M M'->uh .len [.ref q] M'=.ok (.int hs.length) M':=λM' u=>Mi (by rw[u.oth q hqr];exact hq)
 obtain⟨ρ',M',e,b5,b6,b7,iw,rfl,h1,h2,h3⟩:=ym (W:=W) (t:=.name 5) (b:=Fw) (it:=.blt .len (.o (.v 2))) (n:=hs.length) (ρ:=[a0,a1,D.ref q,a3,D.ref r,a5,a6,a7]) (M:=M) (M1:=M) (by simp[Mi hq]) (a_ hl (by decide))
  (λj ρ M'=>∃(b5 b6 b7:Option D)(iw:List (List Kx×D)),ρ=[a0,a1,some (.ref q),a3,some (.ref r),b5,b6,b7]/\M'[r]?=some (.dT iw)/\Tb hs j 0 iw/\Up r M M')
  ⟨a5,a6,a7,[],rfl,hr,⟨λp hp=>by simp at hp,λj' k' f g a b c d=>by unfold Zf at d;lia,by simp⟩,Up.refl r M⟩
  (λj ρ M1 hj hI=>by
   obtain⟨b5,b6,b7,iw,rfl,g1,g2,g3⟩:=hI;have hq1:M1[q]?=some (.lst (hs.map F.toD)):=by rw[g3.oth q hqr];exact hq
   obtain⟨ρ2,M2,e2,c6,c7,bc0,rfl,k1,k2,k3⟩:=ym (W:=W) (t:=.name 6) (b:=Bb) (it:=.blt .len (.o (.v 2))) (n:=hs.length) (ρ:=[a0,a1,D.ref q,a3,D.ref r,D.int j,b6,b7]) (M:=M1) (M1:=M1) (by simp[Mi hq1]) (a_ hl (by decide))
    (λk ρ M'=>∃(b6 b7:Option D)(iw:List (List Kx×D)),ρ=[a0,a1,some (.ref q),a3,some (.ref r),some (.int j),b6,b7]/\M'[r]?=some (.dT iw)/\Tb hs j k iw/\Up r M1 M')
    ⟨b6,b7,iw,rfl,g1,g2,Up.refl r M1⟩
    (λk ρ M2 hk hI=>by
     obtain⟨b6,b7,iw,rfl,k1,k2,k3⟩:=hI;have hq2:M2[q]?=some (.lst (hs.map F.toD)):=by rw[k3.oth q hqr];exact hq1
     obtain⟨c7,M3,bc1,e3,p3,t3,u3⟩:=af6 (W:=W) (M:=M2) (a0:=a0) (a1:=a1) (a3:=a3) (a7:=b7) hz hi hl hq2 k1 (show hs[j]?=some hs[j] by simp[hj]) (show hs[k]?=some hs[k] by simp[hk]) k2;exact⟨_,.next,_,M3,rfl,e3,.inl rfl,_,c7,bc1,rfl,p3,t3,k3.trans u3⟩)
   exact⟨_,.next,_,M2,rfl,by simp[Fw,K4,e2],  .inl rfl,some (.int j),c6,c7,bc0,rfl,k1,k2.next,g3.trans k3⟩)
 exact⟨_,M',iw,e,rfl,rfl,rfl,rfl,h1,h2,h3⟩
structure Oq(sz:Nat->Nat)(K:Nat)(hs:List F)(iw:List (List Kx×D)):Prop where
 hz:Sz sz
 inv:Inv sz hs
 cl:Ol hs
 len:hs.length<=5
 k1:1<=K
 k3:K<=3
 acx:∀f∈hs,f.a<K
 acy:∀f∈hs,f.b<K
 tb:Tb hs hs.length 0 iw
theorem acz:∀(xs:Y3)(a:Nat),∃v:Nat,(xs.map λ(x:Nat)=>(x:Int)).foldl (λm x=>if m<x then x else m) (a:Int)=(v:Int)/\a<=v/\(∀x∈xs,x<=v)/\(v=a\/v∈xs)
 |[],a=>⟨a,rfl,bc _,by simp,.inl rfl⟩
 |x::xs,a=>by
  obtain⟨v,e,h1,h2,h3⟩:=acz xs (if a<x then x else a);refine⟨v,?_,?_,λy hy=>?_,?_⟩
  . rw[ig,Bd,<- e]
    congr 1
    by_cases q:a<x
    . have:(a:Int)<(x:Int):=m_ q
      simp[q]
    . have:¬(a:Int)<(x:Int):=by lia
      simp[q]
  . split at h1<;>omega
  . rcases bw.mp hy with q|q
    . subst q;split at h1<;>omega
    . exact h2 y q
  . rcases h3 with q|q
    . by_cases w:a<x
      . right;rw[cg w] at q;subst q;simp
      . left;rw[bx w] at q;exact q
    . right;exact bh _ q
theorem ac0:∀xs:List Nat,Y9 (xs.map nD)=some (xs.map λ(x:Nat)=>(x:Int))
 |[]=>rfl|x::xs=>by simp[nD,Y9,show Y9 (xs.map nD)=_ from ac0 xs]
def anf(h:xs≠[]):∃v:Nat,uh .max [.vl (xs.map nD)] M=.ok (.int v) M/\(∀x∈xs,x<=v)/\v∈xs:=by
 obtain⟨a,r,rfl⟩:∃a r,xs=a::r:=List.exists_cons_of_ne_nil h;obtain⟨v,e,h1,h2,h3⟩:=acz r a;refine⟨v,?_,λx hx=>?_,?_⟩
 . have:=ac0 (a::r)
   simp only[uh,asz,Tr,uo,this];simp only[ig,ayg,uo,v9,Res.Dq,e]
 . rcases bw.mp hx with q|q
   . subst q;exact h1
   . exact h2 x q
 . rcases h3 with q|q
   . rw[q];simp
   . exact bh _ q
def max2(a b:Nat):uh .max [.int a,.int b] M=.ok (nD (max a b)) M:=by
 by_cases h:a<b
 . have h':(a:Int)<b:=m_ h
   have e:max a b=b:=by lia
   simp[uh,h,nD,e]
 . have h':¬(a:Int)<b:=by lia
   have e:max a b=a:=by lia
   simp[uh,h,nD,e]
noncomputable def toF:D->F
 |.tup [.int a,.int b,.tup r]=>⟨a.toNat,b.toNat,r.map λd=>match d with|.int i=>i.toNat|_=>0⟩
 |_=>⟨0,0,[]⟩
def Vs(f:F):toF f.toD=f:=by
 obtain⟨a,b,r⟩:=f;show F.mk a b ((r.map nD).map λd=>match d with|.int i=>i.toNat|_=>0)=F.mk a b r;rw[tu]
 conv=>rhs;rw[<- List.map_id r]
 exact qj _ (qd λx _=>rfl)
def ang{hs:List F}(hl:hs.length<=100000)(hq:M[q]?=some (.lst (hs.map F.toD))) :
 Fz.den W [a0,a1,D.ref q,a3,a4,a5,a6,a7] M=.ok (.vl ((hs.map λf=>max f.a f.b).map nD)) M:=by
 unfold Fz;rw[Az (d:=.ref q) (ds:=hs.map F.toD) (M1:=M) (g:=λd=>nD (max (toF d).a (toF d).b)) (by simp) (o4 hq) (by simpa using hl) (λx hx=>by
  obtain⟨f,hf,rfl⟩:=bu.mp hx;exact⟨_,ana _ _ _ _ _,by simp[max2,Vs]⟩)]
 simp[Vs]
def aj5{hs:List F}(hρ:ρ[2]?=some (some (.ref q)))(hρl:ρ.length=8)(hl:hs.length<=100000)(hq:M[q]?=some (.lst (hs.map F.toD))) :
 Ft.den W ρ M=.ok (.vl (hs.map eD)) M:=by
 unfold Ft;rw[Az (d:=.ref q) (ds:=hs.map F.toD) (M1:=M) (g:=λd=>eD (toF d)) (by simp[hρ]) (o4 hq) (by simpa using hl) (λx hx=>by
  obtain⟨f,hf,rfl⟩:=bu.mp hx;refine⟨_,ana _ _ _ _ _,?_⟩;rw[Vs];simp[eD,List.getElem?_set,hρl])]
 simp[Vs]
def aj6(hm:1<=m)(hz:Sz sz)(hs0:Ur t f M)(hg:Good sz fs)(hl:fs.length<=3)(hd:fu M d=some (fs.map F.toD))(hq:M[q]?=some (.lst (hs.map F.toD)))(hqt:q≠t)(hi:Inv sz hs)(hhl:hs.length<=15)(hc:hs.length<6->Ol hs)(h0:fs=[]->hs=[]) :
 ∃(ρ':Env)(M':cj),Ga.den ⟨prog.call m,prog.cls⟩ [D.ref t,some d,D.ref q,a3,a4,a5,a6,a7] M=.ok (.next,ρ') M'/\∃(d':D)(q':Nat)(Pq:List F),ρ'=[some (.ref t),some d',some (.ref q'),a3,a4,a5,a6,a7] /\
  M'[q']?=some (.lst (Pq.map F.toD))/\q'≠t/\Inv sz Pq/\Pq.length<=5/\Ol Pq/\zc M M':=by
 unfold Ga;rw[aap];refine Pj (λn ρ M'=>∃(d:D)(fs hs:List F)(q:Nat),ρ=[some (.ref t),some d,some (.ref q),a3,a4,a5,a6,a7]/\fs.length=n/\Good sz fs/\fs.length<=3/\fu M' d=some (fs.map F.toD)/\M'[q]?=some (.lst (hs.map F.toD))/\q≠t /\
  Inv sz hs/\hs.length<=15/\(hs.length<6->Ol hs)/\(fs=[]->hs=[])/\zc M M')
  (fun ρ' M'=>∃(d':D)(q':Nat)(Pq:List F),ρ'=[some (.ref t),some d',some (.ref q'),a3,a4,a5,a6,a7]/\M'[q']?=some (.lst (Pq.map F.toD))/\q'≠t/\Inv sz Pq/\Pq.length<=5/\Ol Pq/\zc M M') ?_ afz fs.length _ M (by unfold afz;exact c_ hl (by decide))
  ⟨d,fs,hs,q,rfl,rfl,hg,hl,hd,hq,hqt,hi,hhl,hc,h0,zc.refl M⟩
 intro n ρ M1 hI;obtain⟨d,fs,hs,q,rfl,rfl,g1,g2,g3,g4,g5,g6,g7,g8,g9,g10⟩:=hI
 by_cases c:5<hs.length
 . right
   have c':(5:Int)<(hs.length:Int):=m_ c
   have X8:fs≠[]:=λe=>by rw[g9 e] at c;simp at c
   have bc2:1<=fs.length:=List.length_pos_iff.mpr X8
   have bc3:Hh d none (some (-1)) M1=some (.vl (fs.dropLast.map F.toD)):=by
    have hcl:We (fs.map F.toD) none (some (-1))=fs.dropLast.map F.toD:=by
     have e2:((-1:Int)+(fs.length:Int)).toNat=fs.length-1:=by lia
     simp[We,clip,e2,List.map_dropLast,List.dropLast_eq_take]
    cases d with
    |tup ds=>simp[fu] at g3|vl ds=>simp only[Hh,g3,v9,hcl]|ref n=>simp only[Hh,g3,v9,hcl]|_=>simp[fu] at g3
   have gd:Good sz fs.dropLast:=λf hf=>g1 f (List.dropLast_subset fs hf)
   obtain⟨Pq,M2,e,p2,k2,l2,i2,b2,c2,z2⟩:=Ze (M:=M1) (m:=m) (d:=.vl (fs.dropLast.map F.toD)) hm hz gd (by simp;exact a_ g2 (by decide)) rfl;have ht1:t<M1.length:=by obtain⟨n,h,_⟩:=hs0;exact ye (g10 t _ h)
   refine⟨M1,.next,_,M2,fs.length-1,?_,?_,.inl rfl,by lia,.vl (fs.dropLast.map F.toD),fs.dropLast,Pq,M1.length,rfl,by simp,gd,by simp;exact a_ g2 (by decide),rfl,p2,i_ ht1,i2,b2,c2,z2,g10.trans k2⟩
   . simp[Mi g4,c']
   . simp[-List.map_dropLast,K5,bc3,e]
 . left
   have c':¬(5:Int)<(hs.length:Int):=by lia
   exact⟨M1,by simp[Mi g4,c'],d,q,hs,rfl,g4,g5,g6,s_ c,g8 (c_ (s_ c) (by decide)),g10⟩
def af7(hm:3<=m)(hs0:Ur t f M):∃(K r:Nat)(sz:Nat->Nat)(hs:List F)(iw:List (List Kx×D))(M':cj),prog.call m 17 [.ref t] M=.ok (.tup [.int K,Jh hs,.ref r]) M'/\M'[r]?=some (.dT iw)/\M.length<=r/\Oq sz K hs iw/\St t f M M':=by
 rw[call_of (a_ (by decide) hm) rfl];have ht0:t<M.length:=by obtain⟨n,h,_⟩:=hs0;exact ye h
 refine hG λ_ _k=>?_
 obtain⟨d,M1,fs,sz,e1,d1,n1,hz,g1,l1,s1⟩:=am6 (m:=m-1) (r_ hm) hs0;obtain⟨hs,M2,e2,p2,k2,ll2,i2,b2,c2,z2⟩:=Ze (M:=M1) (m:=m-1) (d:=d) (r_ (a_ (by decide) hm)) hz g1 l1 d1;apply _k;have ht1:t<M1.length:=by obtain⟨n,h,_⟩:=s1.has;exact ye h
 refine hG λ_ _k=>?_
 have s2:St t f M1 M2:=St.of s1.has k2;obtain⟨ρ3,M3,e3,d',q,Pq,rfl,p3,q3,i3,l3,c3,k3⟩:=aj6 (M:=M2) (m:=m-1) (t:=t) (f:=f) (d:=d) (fs:=fs) (hs:=hs) (q:=M1.length) (a3:=none) (a4:=none) (a5:=none) (a6:=none) (a7:=none) (r_ (a_ (by decide) hm)) hz s2.has g1 l1 (k2.fu d1) p2 (i_ ht1) i2 b2 c2 z2;have s3:St t f M2 M3:=St.of s2.has k3;have s03:=s1.trans (s2.trans s3);apply _k;have aw4:=ang (W:=⟨prog.call (m-1),prog.cls⟩) (M:=M3) (a0:=some (.ref t)) (a1:=some d') (a3:=none) (a4:=none) (a5:=none) (a6:=none) (a7:=none) (by exact a_ l3 (by decide):Pq.length<=100000) p3;obtain⟨v,ev,hv1,hv2⟩:=anf (M:=M3) (xs:=(Pq.map λf:F=>max f.a f.b)++[0]) (by simp);have ayy:Cm .add (.vl ((Pq.map λf:F=>max f.a f.b).map nD)) (.vl [.int 0]) M3=.ok (.vl (((Pq.map λf:F=>max f.a f.b)++[0]).map nD)) M3:=by rw[Zc _ _ (by simp;exact a_ l3 (by decide))];simp[nD]
 generalize hX:(D.vl ((Pq.map λf:F=>max f.a f.b).map nD))=X at aw4 ayy;generalize hY:(D.vl (((Pq.map λf:F=>max f.a f.b)++[0]).map nD))=Y at ev ayy;have hv3:v<=2:=by
  rcases dj.mp hv2 with w|w
  . obtain⟨x,hx,rfl⟩:=bu.mp w
    have:=(i3.good x hx).a;have:=(i3.good x hx).b;lia
  . simp at w;exact a_ (f_ w) (my _)
 have heq:vd M3 (.ref q) (.vl [])=some (decide (Pq=[])):=by
  simp only[vd];cases Pq with
  |nil=>simp[Kl,fu,p3,Q8]|cons a l=>simp[Kl,fu,p3]
 refine hG λ_ _k=>?_
 obtain⟨K,M4,hK,k1,k3',ka,kb,p4,s4,l4⟩:∃(K:Nat)(M4:cj),
  (Br.iff (.cmp .eq (.v 2) (.Hu .nil)) (.o (.asg (.tg (.name 3)) (.bin .add (.i 1) (.call 14 (.p (.v 0) (.i 3)))))) .nil).den ⟨prog.call (m-1),prog.cls⟩ [D.ref t,some d',D.ref q,D.int (1+(v:Int)),none,none,none,none] M3
   = .ok (.next,[some (.ref t),some d',some (.ref q),some (.int K),none,none,none,none]) M4/\1<=K/\K<=3/\(∀f∈Pq,f.a<K)/\(∀f∈Pq,f.b<K)/\M4[q]?=some (.lst (Pq.map F.toD))/\St t f M3 M4/\M4.length=M3.length:=by
  by_cases he:Pq=[]
  . refine hG λ_ _k=>?_
    obtain⟨w,M4,ew,lw,sw,llw⟩:=Ai (m:=m-1) (r_ (a_ (by decide) hm)) s3.has (many:=3) (by decide) (by decide);apply _k;refine⟨1+w,M4,?_,x_,by lia,by simp[he],by simp[he],sw.keep q _ q3 p3,sw,llw⟩;simp[heq,he,ew]
  . refine⟨1+v,M3,?_,x_,by lia,λx hx=>?_,λx hx=>?_,p3,St.of s3.has (zc.refl _),rfl⟩
    . simp[heq,he]
    . have:=hv1 (max x.a x.b) (yg _ (bu.mpr ⟨x,hx,rfl⟩));lia
    . have:=hv1 (max x.a x.b) (yg _ (bu.mpr ⟨x,hx,rfl⟩));lia
 have p5:(M4++[.dT []])[q]?=some (.lst (Pq.map F.toD)):=yp p4;have hql:=ye p4;obtain⟨ρ6,M6,iw,e6,r2,r3,r4,r8,p6,t6,u6⟩:=ayw (W:=⟨prog.call (m-1),prog.cls⟩) (M:=M4++[.dT []]) (q:=q) (r:=M4.length) (a0:=some (.ref t)) (a1:=some d') (a3:=some (.int K)) (a5:=none) (a6:=none) (a7:=none) hz i3 l3 p5 (by simp) (h_ hql);apply _k;have p6q:M6[q]?=some (.lst (Pq.map F.toD)):=by rw[u6.oth q (h_ hql)];exact p5
 have hc1:=aj5 (W:=⟨prog.call (m-1),prog.cls⟩) (M:=M6) r2 r8 (by exact a_ l3 (by decide):Pq.length<=100000) p6q;have s04:=s03.trans s4;refine⟨K,M4.length,sz,Pq,iw,M6,?_,p6,s04.len,⟨hz,i3,c3,l3,k1,k3',ka,kb,t6⟩,?_⟩
 . simp only[Fn.run,Oa,N8]
   simp[-a5m,e1,e2,e3,aw4,ayy,ev,hK,MW.new,e6,r3,r4,hc1,aay,Jh]
 . refine s04.trans ⟨?_,?_,λa o na h=>?_⟩
   . rw[u6.len];simp
   . obtain⟨n,h,o⟩:=s4.has
     exact⟨n,by rw[u6.oth t (by have:=ye h;exact h_ this)];exact yp h,o⟩
   . rw[u6.oth a (by have:=ye h;exact h_ this)];exact yp h
noncomputable def pD(p:Nat×Nat):D:=.tup [.int p.1,.int p.2]
noncomputable def Meet(hs:List F)(j k:Nat):Prop:=∃f g,hs[j]?=some f/\hs[k]?=some g/\f.b=g.a
structure Ps(hs:List F)(j k:Nat)(ps:List (Nat×Nat)):Prop where
 all:∀p:Nat×Nat,p∈ps↔Meet hs p.1 p.2/\Zf j k p.1 p.2
 len:ps.length<=j*hs.length+k
def Ps.skip(h:Ps hs j k ps)(hf:hs[j]?=some f)(hg:hs[k]?=some g)(n:f.b≠g.a):Ps hs j (k+1) ps:=by
 refine⟨λp=>?_,by have:=h.len;exact a_ this (w_ x_)⟩;rw[h.all p];constructor
 . exact λq=>⟨q.1,by have:=q.2;unfold Zf at *;lia⟩
 . intro q
   refine⟨q.1,?_⟩;have hb:=q.2
   by_cases e:p.1=j/\p.2=k
   . obtain⟨f',g',a,b,c⟩:=q.1
     rw[e.1,hf] at a;rw[e.2,hg] at b;cases a;cases b;exact absurd c n
   . unfold Zf at *;lia
def Ps.put(h:Ps hs j k ps)(hf:hs[j]?=some f)(hg:hs[k]?=some g)(n:f.b=g.a):Ps hs j (k+1) (ps++[(j,k)]):=by
 refine⟨λp=>?_,by have:=h.len;simp;lia⟩;rw[dj,h.all p,xm];constructor
 . rintro(q|q)
   . exact⟨q.1,by have:=q.2;unfold Zf at *;lia⟩
   . subst q;exact⟨⟨f,g,hf,hg,n⟩,by unfold Zf;lia⟩
 . intro q
   by_cases e:p.1=j/\p.2=k
   . right;exact Prod.ext e.1 e.2
   . left;exact⟨q.1,by have:=q.2;unfold Zf at *;lia⟩
def Ps.next(h:Ps hs j hs.length ps):Ps hs (j+1) 0 ps:=by
 refine⟨λp=>?_,by have:=h.len;have e:(j+1)*hs.length=j*hs.length+hs.length:=Nat.succ_mul _ _;exact a_ this (a_ (g_ e) x_)⟩;rw[h.all p];constructor
 . exact λq=>⟨q.1,by have:=q.2;unfold Zf at *;lia⟩
 . intro q
   refine⟨q.1,?_⟩;obtain⟨f,g,a,b,c⟩:=q.1;have:=(ak.mp b).1;have:=q.2;unfold Zf at *;lia
def Wo(f:F)(M:cj):Am (eD f) (.int 0) M=some (.int f.a):=rfl
def Wq(f:F)(M:cj):Am (eD f) (.int 1) M=some (.int f.b):=rfl
def Ru{i:Nat}(h:hs[i]?=some f):Am (Jh hs) (.int i) M=some (eD f):=Hv q_ (by simp[h])
def Ot:uh .len [Jh hs] M=.ok (.int hs.length) M:=by simp[uh,Aw,Jh]
def Ou(x y:D)(i j:Nat)(ρ:Env):(Tg.names [i,j]).put (.tup [x,y]) ρ=some ((ρ.set i (some x)).set j (some y)):=rfl
def ac8(hl:hs.length<=5)(hq:M[q]?=some (.lst (ps.map pD)))(hj:hs[j]?=some f)(hk:hs[k]?=some g)(hp:Ps hs j k ps) :
 ∃(M':cj)(ps':List (Nat×Nat)),Bk.den W [a0,D.ref q,D.int j,eD f,D.int k,eD g] M=.ok (.next,[a0,some (.ref q),some (.int j),some (eD f),some (.int k),some (eD g)]) M' /\
  M'[q]?=some (.lst (ps'.map pD))/\Ps hs j (k+1) ps'/\Up q M M':=by
 have hjl:=(ak.mp hj).1;have hkl:=(ak.mp hk).1
 by_cases h:f.b=g.a
 . have Jg:(ps.map pD).length<100000:=by
    have:=hp.len;have:j*hs.length<=5*5:=Nat.mul_le_mul (e_ (b_ hjl hl)) hl
    rw[dz];lia
   have ap:=Jm (d:=.tup [.int j,.int k]) hq Jg;refine⟨M.set q (.lst ((ps++[(j,k)]).map pD)),ps++[(j,k)],?_,vq hq,hp.put hj hk h,Up.set _ _ _⟩;simp[-eq_int,Bk,Wo,Wq,Bl,h,J7 hq,ap,pD]
 . refine⟨M,ps,?_,hq,hp.skip hj hk h,Up.refl q M⟩
   simp[-eq_int,Bk,Wo,Wq,Bl,h]
def ac9(hm:1<=m)(hl:hs.length<=5) :
 ∃(M':cj)(ps:List (Nat×Nat)),prog.call m 7 [Jh hs] M=.ok (.ref M.length) M'/\M'[M.length]?=some (.lst (ps.map pD))/\Ps hs hs.length 0 ps/\Up M.length (M++[.lst []]) M':=by
 rw[call_of hm rfl];refine hG λ_ _k=>?_
 obtain⟨ρ',M',e,b2,b3,b4,b5,ps,rfl,h1,h2,h3⟩:=Um (W:=⟨prog.call (m-1),prog.cls⟩) (t:=.names [2,3]) (b:=Ed) (it:=.v 0) (ds:=hs.map eD) (ρ:=[Jh hs,D.ref M.length,none,none,none,none]) (M:=M++[.lst []]) (M1:=M++[.lst []]) (by simp[Jh])
  (λj ρ M'=>∃(b2 b3 b4 b5:Option D)(ps:List (Nat×Nat)),ρ=[some (Jh hs),some (.ref M.length),b2,b3,b4,b5]/\M'[M.length]?=some (.lst (ps.map pD))/\Ps hs j 0 ps/\Up M.length (M++[.lst []]) M')
  ⟨none,none,none,none,[],rfl,by simp,⟨λp=>by simp[Zf],by simp⟩,Up.refl _ _⟩
  (λj x ρ M1 hj hI=>by
   refine hG λ_ _k=>?_
   obtain⟨b2,b3,b4,b5,ps,rfl,g1,g2,g3⟩:=hI;obtain⟨f,hf,rfl⟩:∃f,hs[j]?=some f/\eD f=x:=by simpa using hj
   obtain⟨ρ2,M2,e2,c4,c5,ps2,rfl,k1,k2,k3⟩:=Um (W:=⟨prog.call (m-1),prog.cls⟩) (t:=.names [4,5]) (b:=Bk) (it:=.v 0) (ds:=hs.map eD) (ρ:=[Jh hs,D.ref M.length,D.int j,eD f,b4,b5]) (M:=M1) (M1:=M1) (by simp[Jh])
    (λk ρ M'=>∃(b4 b5:Option D)(ps:List (Nat×Nat)),ρ=[some (Jh hs),some (.ref M.length),some (.int j),some (eD f),b4,b5]/\M'[M.length]?=some (.lst (ps.map pD))/\Ps hs j k ps/\Up M.length M1 M')
    ⟨b4,b5,ps,rfl,g1,g2,Up.refl _ _⟩
    (λk y ρ M2 hk hI=>by
     refine hG λ_ _k=>?_
     obtain⟨b4,b5,ps,rfl,k1,k2,k3⟩:=hI;obtain⟨g,hg,rfl⟩:∃g,hs[k]?=some g/\eD g=y:=by simpa using hk
     obtain⟨M3,ps3,e3,p3,t3,u3⟩:=ac8 (W:=⟨prog.call (m-1),prog.cls⟩) (M:=M2) (a0:=some (Jh hs)) hl k1 hf hg k2;apply _k;exact⟨_,.next,_,M3,Ou _ _ _ _ _,e3,.inl rfl,some (.int k),some (eD g),ps3,rfl,p3,t3,k3.trans u3⟩)
   rw[dz] at k2;apply _k;exact⟨_,.next,_,M2,Ou _ _ _ _ _,by simp[Ed,Jq,e2],.inl rfl,some (.int j),some (eD f),c4,c5,ps2,rfl,k1,k2.next,g3.trans k3⟩)
 rw[dz] at h2;apply _k;refine⟨M',ps,?_,h1,h2,h3⟩;simp[Fn.run,Mw,Mv,MW.new,Jr,e]
noncomputable def bothW(hs:List F)(iw:List (List Kx×D))(x y:Int):Option D:=if x=-1 then some (.int y) else if y=-1 then some (.int x) else vz iw [.inl x,.inl y]
def ahx(hm:1<=m)(hr:M[r]?=some (.dT iw))(h:bothW hs iw x y=some v):prog.call m 6 [.ref r,.int x,.int y] M=.ok v M:=by
 rw[call_of hm rfl];unfold bothW at h
 by_cases hx:x=-1
 . rw[cg hx] at h;cases h
   simp[Fn.run,Jp,Jo,hx]
 . rw[bx hx] at h
   by_cases hy:y=-1
   . rw[cg hy] at h;cases h
     simp[Fn.run,Jp,Jo,hx,hy]
   . rw[bx hy] at h
     simp[Fn.run,Jp,Jo,hx,hy,acq hr (Zd x y),h]
noncomputable def aj7(hs:List F)(c:F):Int:=if c∈hs then(pos c hs:Int) else -1
def Qz(hs:List F)(f g:F):ent hs f g=aj7 hs (f.comp g):=rfl
def ahy(nd:hs.Nodup){i:Nat}(h:hs[i]?=some f):aj7 hs f=i:=by have m:f∈hs:=au h;rw[aj7,cg m,af1 nd h]
def T4:∀k:List Kx,Vd (amk k)=some k:=by
 intro k;show aal (k.map amj)=some k
 induction k with
 |nil=>rfl|cons a l ih=>cases a<;>simp[aal,amj,Tp,ih]
theorem ada:∀iw:List (List Kx×D),Ea (iw.map λp=>amk p.1)=some (iw.map (·.1))
 |[]=>rfl|p::l=>by simp[Ea,T4,ada l]
theorem adb:∀ps:List (Nat×Nat),Ea (ps.map pD)=some (ps.map λp=>ky p.1 p.2)
 |[]=>rfl|p::l=>by simp[Ea,pD,adb l,ky]
def anh{iw:List (List Kx×D)}(h:vz iw q=some v):∃p∈iw,p.1=q:=by
 unfold vz at h;cases e:iw.find? (λp=>decide (p.1=q)) with
 |none=>rw[e] at h;cases h|some p=>exact⟨p,List.mem_of_find?_eq_some e,by simpa using List.find?_some e⟩
section
variable{sz:Nat->Nat}{K:Nat}{hs:List F}{iw:List (List Kx×D)}(P:Oq sz K hs iw)
include P
theorem Oq.look(hj:hs[j]?=some f)(hk:hs[k]?=some g)(h:f.b=g.a):vz iw (ky j k)=some (.int (ent hs f g)) :=
 P.tb.look j k f g hj hk h (.inl (ak.mp hj).1)
theorem Oq.no(h:¬Meet hs j k):vz iw (ky j k)=none:=by apply aj3;intro p hp e;obtain⟨j',k',f,g,rfl,a,b,c,_⟩:=P.tb.keys p hp;obtain⟨rfl,rfl⟩:=af5 e;exact h ⟨f,g,a,b,c⟩
theorem Oq.kl:iw.length<=25:=by
 have:=P.tb.len;have:hs.length*hs.length<=5*5:=Nat.mul_le_mul P.len P.len
 lia
theorem Oq.plain:Eb (iw.map (·.1))=true:=by have:=P.kl;simp only[Eb,dz,aq,di];refine⟨a_ this (by decide),?_⟩;rw[gq];intro k hk;obtain⟨p,hp,rfl⟩:=bu.mp hk;obtain⟨j,k,f,g,rfl,_⟩:=P.tb.keys p hp;simp[ky]
theorem Oq.sm:afy iw=true:=by
 unfold afy;rw[gq];intro p hp;obtain⟨j,k,f,g,rfl,a,b,_⟩:=P.tb.keys p hp;have:=(ak.mp a).1;have:=(ak.mp b).1;have:=P.len;simp[ky]
 lia
theorem Oq.same(h:Ps hs hs.length 0 ps):Jk (iw.map (·.1)) (ps.map λp=>ky p.1 p.2)=true:=by
 unfold Jk;rw[aq,gq,gq];constructor
 . intro x hx
   obtain⟨p,hp,rfl⟩:=bu.mp hx;obtain⟨j,k,f,g,rfl,a,b,c,d⟩:=P.tb.keys p hp;rw[Ao];exact⟨ky j k,bu.mpr ⟨(j,k),(h.all (j,k)).mpr ⟨⟨f,g,a,b,c⟩,d⟩,rfl⟩,by simp⟩
 . intro y hy
   obtain⟨p,hp,rfl⟩:=bu.mp hy;obtain⟨⟨f,g,a,b,c⟩,d⟩:=(h.all p).mp hp;obtain⟨q,hq,e⟩:=anh (P.look a b c);rw[Ao];exact⟨q.1,bu.mpr ⟨q,hq,rfl⟩,by simp[e]⟩
theorem Oq.Iz(h:c∈hs\/c.Qx):(aj7 hs c=-1/\c.Qx)\/∃i:Nat,hs[i]?=some c/\aj7 hs c=i:=by
 by_cases m:c∈hs
 . exact .inr ⟨pos c hs,aav c m,cg m⟩
 . exact .inl ⟨bx m,h.resolve_left m⟩
theorem Oq.ayz{j k l:Nat}(hj:hs[j]?=some f)(hk:hs[k]?=some g)(hl:hs[l]?=some h)(e1:f.b=g.a)(e2:g.b=h.a) :
 ∃v:Int,bothW hs iw (ent hs f g) l=some (.int v)/\bothW hs iw j (ent hs g h)=some (.int v):=by
 have mf:=au hj;have mg:=au hk;have mh:=au hl;have of:=P.inv.good f mf;have og:=P.inv.good g mg;have oh:=P.inv.good h mh;have as:=af2 (h:=h) of og e1;rw[Qz,Qz];have nj:¬((j:Int)=-1):=by lia
 have nl:¬((l:Int)=-1):=by lia
 rcases P.Iz (P.cl f mf g mg e1) with⟨x1,i1⟩|⟨u,hu,x1⟩
 . have c1:=aaw (of.comp og e1) i1
   have ha:f.a=g.b:=i1.1;have left:(f.comp g).comp h=h:=by rw[c1];show(idF sz f.a).comp h=h;rw[ha,e2];exact id_comp oh
   rcases P.Iz (P.cl g mg h mh e2) with⟨x2,i2⟩|⟨w,hw,x2⟩
   . have c2:=aaw (og.comp oh e2) i2
     have right:f.comp (g.comp h)=f:=by rw[c2];show f.comp (idF sz g.a)=f;rw[<- e1];exact comp_id of
     have fh:f=h:=by rw[<- right,<- as,left]
     have jl:j=l:=by rw[<- af1 P.inv.nd hj,<- af1 P.inv.nd hl,fh]
     refine⟨l,by simp[bothW,x1],?_⟩;rw[x2,bothW,bx nj,cg rfl,jl]
   . have nw:¬((w:Int)=-1):=by lia
     refine⟨l,by simp[bothW,x1],?_⟩;rw[x2,bothW,bx nj,bx nw];have:=P.look hj hw (show f.b=(g.comp h).a from e1);rw[Qz,<- as,left,ahy P.inv.nd hl] at this;exact this
 . have nu:¬((u:Int)=-1):=by lia
   have lu:=P.look hu hl (show(f.comp g).b=h.a from e2);rcases P.Iz (P.cl g mg h mh e2) with⟨x2,i2⟩|⟨w,hw,x2⟩
   . have c2:=aaw (og.comp oh e2) i2
     have right:f.comp (g.comp h)=f:=by rw[c2];show f.comp (idF sz g.a)=f;rw[<- e1];exact comp_id of
     refine⟨j,?_,?_⟩
     . rw[x1,bothW,bx nu,bx nl]
       rw[Qz,as,right,ahy P.inv.nd hj] at lu;exact lu
     . rw[x2,bothW,bx nj,cg rfl]
   . have nw:¬((w:Int)=-1):=by lia
     refine⟨aj7 hs ((f.comp g).comp h),?_,?_⟩
     . rw[x1,bothW,bx nu,bx nl];exact lu
     . rw[x2,bothW,bx nj,bx nw]
       have:=P.look hj hw (show f.b=(g.comp h).a from e1);rw[Qz,<- as] at this;exact this
end
def atd(hm:1<=m)(P:Oq sz K hs iw):prog.call m 9 [.int K,Jh hs] M=.ok .non M:=by
 rw[call_of hm rfl];obtain⟨ρ',M',e,⟨b2,rfl⟩,rfl⟩:=acs (W:=⟨prog.call (m-1),prog.cls⟩) (t:=.name 2) (b:=Fp) (it:=.v 1) (ds:=hs.map eD) (ρ:=[D.int K,Jh hs,none]) (M:=M) (M1:=M) (by simp[Jh])
  (λj ρ M'=>(∃b2:Option D,ρ=[some (.int K),some (Jh hs),b2])/\M'=M) ⟨⟨none,rfl⟩,rfl⟩
  (λj x ρ M1 hj hI=>by
   obtain⟨⟨b2,rfl⟩,rfl⟩:=hI;obtain⟨f,hf,rfl⟩:∃f,hs[j]?=some f/\eD f=x:=by simpa using hj
   have mf:=au hf;have h1:=P.acx f mf;have h2:=P.acy f mf;refine⟨_,.next,_,M1,rfl,?_,.inl rfl,⟨some (eD f),rfl⟩,rfl⟩;have h1':(f.a:Int)<K:=m_ h1
   have h2':(f.b:Int)<K:=m_ h2
   have z1:(0:Int)<=(f.a:Int):=q_
   have z2:(0:Int)<=(f.b:Int):=q_
   simp[Fp,Wo,Wq,h1,h2,h1',h2',z1,z2])
 have k1:(1:Int)<=K:=by have:=P.k1;exact n_ this
 have k3:(K:Int)<=3:=by have:=P.k3;exact n_ this
 have l5:¬(5:Int)<(hs.length:Int):=by have:=P.len;lia
 simp[Fn.run,Ny,Nx,k1,k3,Ot,l5,Kz,e]
def ay0{j k:Nat}(hm:1<=m)(P:Oq sz K hs iw)(hj:hs[j]?=some f)(hk:hs[k]?=some g)(h:f.b=g.a):prog.call m 8 [Jh hs,.int (ent hs f g),.int f.a,.int g.b] M=.ok (.bl true) M:=by
 rw[call_of hm rfl,Qz];have mf:=au hj;have mg:=au hk;rcases P.Iz (P.cl f mf g mg h) with⟨x1,i1⟩|⟨u,hu,x1⟩
 . have ha:f.a=g.b:=i1.1
   simp[Fn.run,Fo,Fl,x1,ha]
 . have hul:=(ak.mp hu).1
   have nu:¬((u:Int)=-1):=by lia
   have z:(0:Int)<=(u:Int):=q_
   have bc4:(u:Int)<(hs.length:Int):=m_ hul
   have e:vd M (eD (f.comp g)) (.tup [.int f.a,.int g.b])=some true:=by show Q8 (Kl M 5) [.int f.a,.int g.b] [.int f.a,.int g.b]=some true;rw[Ec (Mf M 4 _ _) (Ec (Mf M 4 _ _) (show Q8 (Kl M 5) [] []=some true from rfl))];simp
   simp[Fn.run,Fo,Fl,x1,nu,z,hul,bc4,Ot,Ru hu,e]
def ate(hm:2<=m)(P:Oq sz K hs iw)(hr:M[r]?=some (.dT iw)):∃M',prog.call m 10 [Jh hs,.ref r] M=.ok .non M'/\zc M M'/\M'.length=M.length+1:=by
 rw[call_of (a_ (by decide) hm) rfl];obtain⟨M1,ps,e1,p1,t1,u1⟩:=ac9 (M:=M) (m:=m-1) (hs:=hs) (r_ hm) P.len;have k1:zc M M1:=λa o h=>by rw[u1.oth a (by have:=ye h;exact h_ this)];exact yp h
 have r1:=k1 r _ hr;have hks:(keysOf M1 (.ref r)).bind Ea=some (iw.map (·.1)):=by simp only[keysOf,r1,uo,ada]
 have hkp:(keysOf M1 (.ref M.length)).bind Ea=some (ps.map λp=>ky p.1 p.2):=by simp only[keysOf,p1,fu,uo,adb]
 have Jg:Eb (ps.map λp=>ky p.1 p.2)=true:=by
  have:=t1.len;have:hs.length*hs.length<=5*5:=Nat.mul_le_mul P.len P.len
  simp only[Eb,dz,aq,di];refine⟨by lia,?_⟩;rw[gq];intro k hk;obtain⟨p,hp,rfl⟩:=bu.mp hk;simp[ky]
 have bc5:(Ex.Wd (.v 1) (.v 2)).den ⟨prog.call (m-1),prog.cls⟩ [Jh hs,D.ref r,D.ref M.length,none,none] M1=.ok (.bl false) M1:=by rw[Za];simp only[Rf,List.getElem?_cons_succ,List.getElem?_cons_zero,Res.Bs,hks,P.plain,hkp,Jg,P.same t1,ju,qp]
 obtain⟨ρ',M',e,⟨b3,b4,rfl⟩,rfl⟩:=Li (W:=⟨prog.call (m-1),prog.cls⟩) (t:=.names [3,4]) (b:=Gx) (it:=.v 2) (d:=.ref M.length) (ds:=ps.map pD) (ρ:=[Jh hs,D.ref r,D.ref M.length,none,none]) (M:=M1) (M1:=M1) (by simp) (o4 p1)
  (λj ρ M'=>(∃b3 b4:Option D,ρ=[some (Jh hs),some (.ref r),some (.ref M.length),b3,b4])/\M'=M1) ⟨⟨none,none,rfl⟩,rfl⟩ (λi ρ M h=>by rw[h.2];exact o4 p1)
  (λi x ρ M2 hx hI=>by
   obtain⟨⟨b3,b4,rfl⟩,rfl⟩:=hI;obtain⟨p,hp,rfl⟩:∃p,ps[i]?=some p/\pD p=x:=by simpa using hx
   obtain⟨⟨f,g,a,b,c⟩,d⟩:=(t1.all p).mp (au hp);refine⟨_,.next,_,M2,Ou _ _ _ _ _,?_,.inl rfl,⟨some (.int p.1),some (.int p.2),rfl⟩,rfl⟩;have lk:=acq r1 (Zd p.1 p.2);rw[show([.inl (p.1:Int),.inl (p.2:Int)]:List Kx)=ky p.1 p.2 from rfl,P.look a b c] at lk;simp[Gx,lk,Ru a,Ru b,Wo,Wq,ay0 (show 1<=m-1 by exact r_ hm) P a b c])
 refine⟨M',?_,k1,by rw[u1.len];simp⟩;simp[Fn.run,Qc,Qa,e1,bc5,Mx,e]
def atf(hm:2<=m)(P:Oq sz K hs iw)(hr:M[r]?=some (.dT iw)):∃M',prog.call m 11 [Jh hs,.ref r] M=.ok .non M'/\zc M M'/\M'.length=M.length+1:=by
 rw[call_of (a_ (by decide) hm) rfl];obtain⟨M1,ps,e1,p1,t1,u1⟩:=ac9 (M:=M) (m:=m-1) (hs:=hs) (r_ hm) P.len;have k1:zc M M1:=λa o h=>by rw[u1.oth a (by have:=ye h;exact h_ this)];exact yp h
 have r1:=k1 r _ hr;have hl:=P.len;obtain⟨ρ',M',e,⟨b3,b4,b5,b6,b7,rfl⟩,rfl⟩:=Li (W:=⟨prog.call (m-1),prog.cls⟩) (t:=.names [3,4]) (b:=Fq) (it:=.v 2) (d:=.ref M.length) (ds:=ps.map pD) (ρ:=[Jh hs,D.ref r,D.ref M.length,none,none,none,none,none]) (M:=M1) (M1:=M1) (by simp) (o4 p1)
  (λj ρ M'=>(∃b3 b4 b5 b6 b7:Option D,ρ=[some (Jh hs),some (.ref r),some (.ref M.length),b3,b4,b5,b6,b7])/\M'=M1) ⟨⟨none,none,none,none,none,rfl⟩,rfl⟩ (λi ρ M h=>by rw[h.2];exact o4 p1)
  (λi x ρ M2 hx hI=>by
   obtain⟨⟨b3,b4,b5,b6,b7,rfl⟩,rfl⟩:=hI;obtain⟨p,hp,rfl⟩:∃p,ps[i]?=some p/\pD p=x:=by simpa using hx
   obtain⟨⟨f,g,a,b,c⟩,d⟩:=(t1.all p).mp (au hp);obtain⟨ρ3,M3,e3,⟨c5,c6,c7,rfl⟩,rfl⟩:=ym (W:=⟨prog.call (m-1),prog.cls⟩) (t:=.name 5) (b:=Dd) (it:=.blt .len (.o (.v 0))) (n:=hs.length) (ρ:=[Jh hs,D.ref r,D.ref M.length,D.int p.1,D.int p.2,b5,b6,b7]) (M:=M2) (M1:=M2) (by simp[Ot]) (a_ hl (by decide))
    (λj ρ M'=>(∃b5 b6 b7:Option D,ρ=[some (Jh hs),some (.ref r),some (.ref M.length),some (.int p.1),some (.int p.2),b5,b6,b7])/\M'=M2) ⟨⟨b5,b6,b7,rfl⟩,rfl⟩
    (λl ρ M4 hll hI=>by
     obtain⟨⟨b5,b6,b7,rfl⟩,rfl⟩:=hI;have Yo:hs[l]?=some hs[l]:=by simp[hll]
     have Yg:=a5t r1 (Zd p.2 l);rw[show([.inl (p.2:Int),.inl (l:Int)]:List Kx)=ky p.2 l from rfl] at Yg
     by_cases q:g.b=hs[l].a
     . rw[P.look b Yo q] at Yg
       obtain⟨v,v1,v2⟩:=P.ayz a b Yo c q;have lk1:=acq r1 (Zd p.1 p.2);rw[show([.inl (p.1:Int),.inl (p.2:Int)]:List Kx)=ky p.1 p.2 from rfl,P.look a b c] at lk1;have lk2:=acq r1 (Zd p.2 l);rw[show([.inl (p.2:Int),.inl (l:Int)]:List Kx)=ky p.2 l from rfl,P.look b Yo q] at lk2;refine⟨_,.next,_,M4,rfl,?_,.inl rfl,⟨some (.int l),some (.int v),some (.int v),rfl⟩,rfl⟩;simp[Dd,Yg,lk1,lk2,ahx (show 1<=m-1 by exact r_ hm) r1 v1,ahx (show 1<=m-1 by exact r_ hm) r1 v2]
     . rw[P.no (λ⟨g',h',x,y,z⟩=>by rw[b] at x;rw[Yo] at y;cases x;cases y;exact q z)] at Yg
       refine⟨_,.cont,_,M4,rfl,?_,.inr rfl,⟨some (.int l),b6,b7,rfl⟩,rfl⟩;simp[Dd,Yg])
   refine⟨_,.next,_,M3,Ou _ _ _ _ _,?_,.inl rfl,⟨some (.int p.1),some (.int p.2),c5,c6,c7,rfl⟩,rfl⟩;simp[Fq,K1,e3])
 refine⟨M',?_,k1,by rw[u1.len];simp⟩;simp[Fn.run,N5,Nz,e1,K3,e]
noncomputable def Made(n r K:Nat)(hs:List F)(iw:List (List Kx×D))(M:cj):Prop:=M[n]?=some (.ins 2 [(2,.int K),(1,Jh hs),(0,.ref r)])/\M[r]?=some (.dT iw)
def atg(hm:3<=m)(P:Oq sz K hs iw)(hr:M[r]?=some (.dT iw))(hn:M[n]?=some (.ins 2 [])) :
 ∃M' r',prog.call m 0 [.ref n,.int K,Jh hs,.ref r] M=.ok .non M'/\Made n r' K hs iw M'/\M.length<=r'/\r'<M'.length/\(∀(a:Nat)(o:MO),a≠n->M[a]?=some o->M'[a]?=some o):=by
 rw[call_of (a_ (by decide) hm) rfl];have d1:=atd (M:=M) (m:=m-1) (r_ (a_ (by decide) hm)) P;obtain⟨M1,e1,k1,l1⟩:=ate (M:=M) (m:=m-1) (r_ hm) P hr;obtain⟨M2,e2,k2,l2⟩:=atf (M:=M1) (m:=m-1) (r_ hm) P (k1 r _ hr);have k:=k1.trans k2;have n2:=k n _ hn;have r2:=k r _ hr;have hrn:r≠n:=λe=>by rw[e,hn] at hr;cases hr
 have s1:Rc (.ref n) 2 (.int K) M2=some (M2.set n (.ins 2 [(2,.int K)])):=by simp[Rc,n2,Uk]
 have n3:=vq (o:=.ins 2 [(2,.int K)]) n2;have s2:Rc (.ref n) 1 (Jh hs) (M2.set n (.ins 2 [(2,.int K)]))=some (M2.set n (.ins 2 [(2,.int K),(1,Jh hs)])):=by simp[Rc,n3,Uk]
 have n4:=vq (o:=.ins 2 [(2,.int K),(1,Jh hs)]) n2;have r4:(M2.set n (.ins 2 [(2,.int K),(1,Jh hs)]))[r]?=some (.dT iw):=by rw[su (jz hrn)];exact r2
 have dc:uh .dict [.ref r] (M2.set n (.ins 2 [(2,.int K),(1,Jh hs)]))=.ok (.ref M2.length) (M2.set n (.ins 2 [(2,.int K),(1,Jh hs)])++[.dT iw]):=by simp[uh,r4,P.sm,MW.new]
 have n5:(M2.set n (.ins 2 [(2,.int K),(1,Jh hs)])++[.dT iw])[n]?=some (.ins 2 [(2,.int K),(1,Jh hs)]):=yp n4;have s3:Rc (.ref n) 0 (.ref M2.length) (M2.set n (.ins 2 [(2,.int K),(1,Jh hs)])++[.dT iw])=some ((List.set M2 n (MO.ins 2 [(2,.int K),(1,Jh hs)])++[MO.dT iw]).set n (MO.ins 2 [(2,.int K),(1,Jh hs),(0,.ref M2.length)])):=by simp[Rc,n5,Uk]
 have hnl:=ye n2;refine⟨_,M2.length,?_,⟨vq (o:=.ins 2 [(2,.int K),(1,Jh hs),(0,.ref M2.length)]) n5,?_⟩,by lia,by simp,λa o na h=>?_⟩
 . simp[Fn.run,Kv,Ku,d1,e1,e2,s1,s2,dc,s3]
 . rw[su (h_ hnl)]
   rw[jg (by simp)];simp
 . rw[su (jz na)]
   exact yp (by rw[su (jz na)];exact k a o h)
end K11
namespace L2
open PySem PySem.Spec PyProof.Rows
abbrev Key:=Sum Int Str
noncomputable def Wr:Key->Value->Bool
 |.inl k,v=>Value.isInt k v|.inr x,v=>Value.isStrOf x v
noncomputable def bc6(w:World):Key->Int
 |.inl k=>hashInt k|.inr x=>hashStr w x
theorem Ba:∀{k:Key}{v:Value},Wr k v=true->(∃i t,k=Sum.inl i/\v=Value.int i t)\/(∃x t,k=Sum.inr x/\v=Value.str x t)
 |.inl i,v,h=>by
  obtain⟨t,e⟩:=Value.isInt_shape (k:=i) (v:=v) h;exact .inl ⟨i,t,rfl,e⟩
 |.inr x,v,h=>by
  obtain⟨t,e⟩:=Value.isStrOf_shape (x:=x) (v:=v) h;exact .inr ⟨x,t,rfl,e⟩
def aj8(i:Int)(t:Tok):Wr (.inl i) (.int i t)=true:=by simp[Wr,Value.isInt]
def aj9(x:Str)(t:Tok):Wr (.inr x) (.str x t)=true:=by simp[Wr,Value.isStrOf]
def ay1(a b:Int):decide ((Sum.inl a:Key)=Sum.inl b)=(a==b):=by
 by_cases e:a=b
 . subst e;simp
 . have h:¬(Sum.inl a:Key)=Sum.inl b:=λq=>e (Sum.inl.inj q)
   rw[jx h];exact(ql.mpr e).symm
def ay2(a b:Str):decide ((Sum.inr a:Key)=Sum.inr b)=decide (a=b):=by
 by_cases e:a=b
 . subst e;simp
 . have h:¬(Sum.inr a:Key)=Sum.inr b:=λq=>e (Sum.inr.inj q)
   rw[jx h,jx e]
def ay3(a:Int)(b:Str):decide ((Sum.inl a:Key)=Sum.inr b)=false:=jx (λq=>nomatch q)
def ay4(a:Str)(b:Int):decide ((Sum.inr a:Key)=Sum.inl b)=false:=jx (λq=>nomatch q)
noncomputable def nq(prog:Program)(w:World):PySem.KeyKind prog w Key where
 is:=Wr
 hash:=bc6 w
 inj:=λv a b ha hb=>by
  rcases Ba ha with⟨i,t,rfl,rfl⟩|⟨x,t,rfl,rfl⟩
  . rcases Ba hb with⟨j,u,rfl,e⟩|⟨y,u,rfl,e⟩
    . injection e with e1 _;rw[e1]
    . exact nomatch e
  . rcases Ba hb with⟨j,u,rfl,e⟩|⟨y,u,rfl,e⟩
    . exact nomatch e
    . injection e with e1 _;rw[e1]
 byValue:=λk v h=>by rcases Ba h with⟨i,t,rfl,rfl⟩|⟨x,t,rfl,rfl⟩<;>rfl
 pyHash:=λhv h=>by
  rcases Ba hv with⟨i,t,rfl,rfl⟩|⟨x,t,rfl,rfl⟩
  . exact wpAny_pyHash_int h
  . exact wpAny_pyHash_str h
 eqBool:=λhu hv h=>by
  rcases Ba hu with⟨i,t,rfl,rfl⟩|⟨x,t,rfl,rfl⟩
  . rcases Ba hv with⟨j,u,rfl,rfl⟩|⟨y,u,rfl,rfl⟩
    . rw[ay1] at h;exact wpAny_eqBool_int h
    . rw[ay3] at h;exact SeqAt.EqAt.int_str i t y u _ _ _ _ h
  . rcases Ba hv with⟨j,u,rfl,rfl⟩|⟨y,u,rfl,rfl⟩
    . rw[ay4] at h;exact SeqAt.EqAt.str_int x t j u _ _ _ _ h
    . rw[ay2] at h;exact wpAny_eqBool_str h
 «strs»:=λk x t v h=>by
  rcases Ba h with⟨i,u,rfl,e⟩|⟨y,u,rfl,e⟩
  . exact nomatch e
  . injection e with e1 _
    subst e1;cases v<;>rfl
def ade(prog:Program)(w:World)(i:Int)(t:Tok):(nq prog w).is (.inl i) (.int i t)=true:=aj8 i t
def adf(prog:Program)(w:World)(x:Str)(t:Tok):(nq prog w).is (.inr x) (.str x t)=true:=aj9 x t
end L2
namespace L2
open PySem PySem.Spec PyProof.Rows
set_option genInjectivity true in
inductive V where
 |non|bl (b:Bool)|int (i:Int)|str (x:Str)|byt (b:Array UInt8)|flt (b:UInt64)|ref (a:Addr)|ty (n:String)
 deriving DecidableEq
def RelV:V->Value->Prop
 |.non,u=>u=Value.none|.bl b,u=>u=Value.bool b|.int i,u=>∃t,u=Value.int i t|.str x,u=>∃t,u=Value.str x t|.byt b,u=>∃t,u=Value.bytes b t|.flt b,u=>∃t,u=Value.float b t|.ref a,u=>u=Value.ref a|.ty n,u=>u=Value.type n
abbrev Vals:List V->List Value->Prop:=Paired RelV
theorem Vals.length(r:Vals xs us):xs.length=us.length:=Paired.length r
theorem Vals.get:∀{xs:List V}{us:Zl}{i:Nat}{x:V},Vals xs us->xs[i]?=some x->∃u,us[i]?=some u/\RelV x u
 |_,_,_,_,.nil,e=>by simp at e|_,_,0,_,.cons r _,e=>by simp at e;subst e;exact⟨_,rfl,r⟩
 |_,_,i+1,x,.cons _ t,e=>by
  obtain⟨u,h1,h2⟩:=Vals.get (i:=i) (x:=x) t (by simpa using e);exact⟨u,by simpa using h1,h2⟩
theorem Vals.set{x:V}{u:Value}(r:RelV x u):∀{xs:List V}{us:Zl}(i:Nat),Vals xs us->Vals (xs.set i x) (us.set i u)
 |_,_,_,.nil=>.nil|_,_,0,.cons _ t=>.cons r t|_,_,i+1,.cons q t=>.cons q (Vals.set r i t)
theorem Vals.append:∀{xs ys:List V}{us ws:Zl},Vals xs us->Vals ys ws->Vals (xs++ys) (us++ws)
 |_,_,_,_,.nil,s=>s|_,_,_,_,.cons r t,s=>.cons r (Vals.append t s)
theorem Vals.take:∀{xs:List V}{us:Zl}(n:Nat),Vals xs us->Vals (xs.take n) (us.take n)
 |_,_,0,_=>.nil|_,_,_+1,.nil=>.nil|_,_,n+1,.cons r t=>.cons r (Vals.take n t)
theorem Vals.drop:∀{xs:List V}{us:Zl}(n:Nat),Vals xs us->Vals (xs.drop n) (us.drop n)
 |_,_,0,r=>r|_,_,_+1,.nil=>.nil|_,_,n+1,.cons _ t=>Vals.drop n t
def Nj:Option V->Option Value->Prop
 |some v,some u=>RelV v u|none,none=>True|_,_=>False
def KV{κ:Type}:List (κ×V)->List (κ×Value)->Prop:=Paired λ(p:κ×V) (q:κ×Value)=>p.1=q.1/\RelV p.2 q.2
noncomputable def kV:Key->V
 |.inl i=>.int i|.inr x=>.str x
inductive HO where
 |lst (xs:List V)
 |tup (xs:List V)
 |dK (iw:List (Key×V))|dT (iw:List (List Key×V))
 |set (S:Int->Bool) (n:Nat)
 |ins (C dx:Addr) (fs:List (Str×V))
 |own (x:Addr)
 |xd (fs:List (Str×V))
 |met (f x:Addr)
 |Kh (lo hi:Int)
 |Q0 (o:Obj) (u:HO)
 |tbl (ps:U1)
 |ext (φ:Heap->Prop)
abbrev Hp:=Addr->Option HO
noncomputable def upd(H:Hp)(a:Addr)(o:HO):Hp:=λb=>if b=a then some o else H b
def wj:upd H a o a=some o:=by unfold upd;rw[cg rfl]
def j8(h:b≠a):upd H a o b=H b:=by unfold upd;rw[bx h]
def ani{H:Hp}(h:H a=some o)(h':H b=some u)(d:o≠u):a≠b:=by intro e;subst e;rw[h] at h';exact d (jq h')
def kh{H:Hp}(h:H a=some o)(h':H b=none):a≠b:=by intro e;subst e;rw[h] at h';cases h'
section
variable(P:Program)(w:World)
def Vg(h:Heap)(a:Addr)(items:U1):Prop:=∃o,h.get? a=some o/\o.cls=.type "tuple"/\∃n,o.data=.seq items n/\o.dict=none
def Vg.is(x:Vg h a items):IsTup h a items:=let ⟨o,h1,h2,n,h3,_⟩:=x;⟨o,h1,h2,n,h3⟩
def Vg.new(h:Heap)(items:U1):Vg (h.push { cls:=.type "tuple",data:=.seq items }) h.objs.size items:=⟨_,bf _ rfl,rfl,_,rfl,rfl⟩
def Bv(H:Hp)(h:Heap)(a:Addr):HO->Prop
 |.lst xs=>xs.length<=sizeLine/\∃(xq:Zl)(n:Nat),Vals xs xq/\h.get? a=some { cls:=.type "list",data:=.seq xq.toArray n }|.tup xs=>xs.length<=sizeLine/\∃xq:List Value,Vals xs xq/\Vg h a xq.toArray|.dK iw=>iw.length<=sizeLine/\(a==sysModules)=false/\∃vs,KV iw vs/\h.DictOf (nq P w) a vs
 |.dT iw=>iw.length<=sizeLine/\(a==sysModules)=false/\∃xs:List (List Key×Addr×Value),
  Paired (λ(p:List Key×V) (q:List Key×Addr×Value)=>p.1=q.1/\H q.2.1=some (.tup (p.1.map kV))/\RelV p.2 q.2.2) iw xs /\
  ∃o es ep,h.get? a=some o/\o.ExactDict/\o.data=.dict es ep/\es.toList=xs.map (entryOfKey (tupleKind (nq P w)))/\(xs.map (·.1)).Nodup
 |.set S n=>h.SetOf (intKind P w) a S n
 |.ins C dx fs=>H dx=some (.own a)/\fs.length<=1000/\dx≠a/\h.get? a=some (PySem.W.instObj C dx) /\
  ∃mA,h.Ns1 dx mA/\(∀f,Nj (fs.lookup f) (mA f))/\PySem.Within mA (fs.map (·.1))
 |.own _=>∃o,h.get? a=some o|.xd fs=>∃mA,h.Ns1 a mA/\∀f,Nj (fs.lookup f) (mA f)|.Kh lo hi=>∃t u v,h.get? a=some { cls:=.type "range",data:=.fields #[.int lo t,.int hi u,.int 1 v] }|.Q0 o u=>h.get? a=some o/\Bv H h a u|.tbl ps=>h.get? a=some { cls:=.none,data:=.fields ps }|.met f x=>h.get? a=some (PySem.W.methodObj (.ref f) (.ref x))|.ext φ=>φ h/\(∃o,h.get? a=some o)/\∀h1 h2:Heap,φ h1->(∀o,h1.get? a=some o->h2.get? a=some o)->φ h2
def Qj(H:Hp)(h:Heap):Prop:=∀a o,H a=some o->Bv P w H h a o
end
theorem Bv.lt(x:Bv P w H h a o):a<h.objs.size:=by
 cases o with
 |lst xs=>obtain⟨_,_,_,_,e⟩:=x;exact az e
 |tup xs=>obtain⟨_,_,_,p⟩:=x;exact(Vg.is p).lt
 |dK iw=>obtain⟨_,_,_,_,o,_,_,e,_⟩:=x;exact az e
 |dT iw=>obtain⟨_,_,_,_,o,_,_,e,_⟩:=x;exact az e
 |set S n=>obtain⟨o,_,_,_,e,_⟩:=x;exact az e
 |ins C dx fs=>obtain⟨_,_,_,e,_⟩:=x;exact az e
 |own y=>obtain⟨_,e⟩:=x;exact az e
 |xd fs=>obtain⟨_,⟨_,_,_,e,_⟩,_⟩:=x;exact az e
 |Kh lo hi=>obtain⟨_,_,_,e⟩:=x;exact az e
 |Q0 ob u=>obtain⟨e,_⟩:=x;exact az e
 |tbl ps=>exact az (show h.get? a=some _ from x)
 |met f y=>exact az (show h.get? a=some _ from x)
 |ext φ=>obtain⟨_,⟨_,e⟩,_⟩:=x;exact az e
theorem Paired.ay6{α β:Type}{F G:α->β->Prop}:∀{l₁:List α}{l₂:List β},Paired F l₁ l₂->(∀a b,F a b->G a b)->Paired G l₁ l₂
 |_,_,.nil,_=>.nil|_,_,.cons r t,f=>.cons (f _ _ r) (Paired.ay6 t f)
def Bv.stay(x:Bv P w H h a o)(k:∀b u,(b=a\/H b=some (.own a))->h.get? b=some u->h'.get? b=some u)(ho:∀b,H b=some (.own a)->H' b=some (.own a))(ht:∀b xs,H b=some (.tup xs)->H' b=some (.tup xs)):Bv P w H' h' a o:=by
 induction o with
 |lst xs=>obtain⟨z,xq,n,r,e⟩:=x;exact⟨z,xq,n,r,k _ _ (.inl rfl) e⟩
 |tup xs=>obtain⟨z,xq,r,ob,e,c⟩:=x;exact⟨z,xq,r,ob,k _ _ (.inl rfl) e,c⟩
 |dK iw=>obtain⟨z,y,vs,r,ob,es,ep,e,c⟩:=x;exact⟨z,y,vs,r,ob,es,ep,k _ _ (.inl rfl) e,c⟩
 |dT iw =>
  obtain⟨z,y,xs,r,ob,es,ep,e,c⟩:=x;exact⟨z,y,xs,Paired.ay6 r λp q z=>⟨z.1,ht _ _ z.2.1,z.2.2⟩,ob,es,ep,k _ _ (.inl rfl) e,c⟩
 |set S n=>obtain⟨ob,es,ep,t,e,c⟩:=x;exact⟨ob,es,ep,t,k _ _ (.inl rfl) e,c⟩
 |ins C dx fs =>
  obtain⟨d,z,ne,e,mA,⟨od,es,ep,e2,c⟩,r⟩:=x;exact⟨ho _ d,z,ne,k _ _ (.inl rfl) e,mA,⟨od,es,ep,k _ _ (.inr d) e2,c⟩,r⟩
 |own y=>obtain⟨ob,e⟩:=x;exact⟨ob,k _ _ (.inl rfl) e⟩
 |xd fs=>obtain⟨mA,⟨od,es,ep,e,c⟩,r⟩:=x;exact⟨mA,⟨od,es,ep,k _ _ (.inl rfl) e,c⟩,r⟩
 |Kh lo hi=>obtain⟨t,u,v,e⟩:=x;exact⟨t,u,v,k _ _ (.inl rfl) e⟩
 |Q0 ob u ih=>obtain⟨e,q⟩:=x;exact⟨k _ _ (.inl rfl) e,ih q⟩
 |tbl ps =>
  have e:h.get? a=some { cls:=.none,data:=.fields ps }:=x;show h'.get? a=some { cls:=.none,data:=.fields ps };exact k a _ (.inl rfl) e
 |met f y =>
  have e:h.get? a=some (PySem.W.methodObj (.ref f) (.ref y)):=x;show h'.get? a=some (PySem.W.methodObj (.ref f) (.ref y));exact k a _ (.inl rfl) e
 |ext φ=>obtain⟨p,⟨o,e⟩,st⟩:=x;exact⟨st _ _ p λo q=>k _ _ (.inl rfl) q,⟨o,k _ _ (.inl rfl) e⟩,st⟩
theorem Qj.lt(x:Qj P w H h)(e:H a=some o):a<h.objs.size:=(x a o e).lt
def Qj.fresh(x:Qj P w H h)(e:h.objs.size<=a):H a=none:=by
 cases q:H a with
 |none=>rfl|some u=>exact absurd (gm (x.lt q) e) (mq _)
def Qj.kept(x:Qj P w H h)(k:∀b u,h.get? b=some u->h'.get? b=some u):Qj P w H h':=λa o e =>
 (x a o e).stay (λb u _ q=>k b u q) (λ_ q=>q) λ_ _ q=>q
def Qj.laid(x:Qj P w H h)(k:∀b u,h.get? b=some u->h'.get? b=some u)(hp:h.objs.size<=a)(new:Bv P w (upd H a o) h' a o):Qj P w (upd H a o) h':=λb u e=>by
 have hn:=x.fresh hp
 by_cases hb:b=a
 . subst hb;rw[wj] at e;cases e;exact new
 . rw[j8 hb] at e
   exact(x b u e).stay (λc v _ q=>k c v q) (λc q=>by rw[j8 (kh q hn)];exact q) λc xs q=>by rw[j8 (kh q hn)];exact q
def Rd(H:Hp)(a:Addr)(u:HO):Prop:=H a=some u\/∃o,H a=some (.Q0 o u)
def Rd.ok(r:Rd H a u)(x:Qj P w H h):Bv P w H h a u:=by
 rcases r with r|⟨o,r⟩
 . exact x a u r
 . obtain⟨_,q⟩:=x a _ r
   exact q
def Mut:Option HO->Prop
 |some (.lst _)=>True|some (.dK _)=>True|some (.dT _)=>True|some (.set _ _)=>True|some (.ins _ _ _)=>True|some (.ext _)=>True|_=>False
def Qj.write(ok:Qj P w H h)(mu:Mut (H x))(he:e=x\/H e=some (.own x))(k:∀b u,b≠e->h.get? b=some u->h'.get? b=some u)(heo:∃u,h'.get? e=some u)(new:Bv P w (upd H x o') h' x o'):Qj P w (upd H x o') h':=λb u q=>by
 have a5z:∀c y,H c=some (.own y)->c≠x:=λc y r z=>by subst z;rw[r] at mu;exact mu
 have bc7:∀c xs,H c=some (.tup xs)->c≠x:=λc xs r z=>by subst z;rw[r] at mu;exact mu
 by_cases hb:b=x
 . subst hb;rw[wj] at q;cases q;exact new
 . rw[j8 hb] at q
   by_cases hbe:b=e
   . have q':H b=some (.own x):=by
      rcases he with z|z
      . exact absurd (hbe.trans z) hb
      . rw[hbe];exact z
     rw[q] at q';cases q';obtain⟨v,hv⟩:=heo;exact⟨v,by rw[hbe];exact hv⟩
   . refine(ok b u q).stay (λc v hc r=>k c v ?_ r) (λc r=>by rw[j8 (a5z c b r)];exact r) λc xs r=>by rw[j8 (bc7 c xs r)];exact r
     rcases hc with rfl|hc
     . exact hbe
     . rintro rfl
       rcases he with z|z
       . exact a5z c b hc z
       . rw[hc] at z;cases z;exact hb rfl
structure Un(fs ex:X9)(H H':Hp)(h h':Heap):Prop where
 keep:∀b o,h.get? b=some o->H b=none->b∉fs->b∉ex->h'.get? b=some o
 slot:∀b o,h.get? b=some o->H b=none->b∈fs->b∉ex->∃sl,h'.get? b=some { o with slots:=sl }
 free:∀b o,h.get? b=some o->H b=none->b∉ex->H' b=none
 there:∀b o,h.get? b=some o->b∉ex->∃o',h'.get? b=some o'
 Ws:∀b xs,H b=some (.tup xs)->H' b=some (.tup xs)
 aa3:∀b o u,H b=some (.Q0 o u)->H' b=some (.Q0 o u)
 adg:∀b ps,H b=some (.tbl ps)->∃more,H' b=some (.tbl (ps++more))
def Un.any(u:Un fs ex H H1 h h1)(q:h.get? b=some ob)(n:H b=none)(hx:b∉ex):∃sl,h1.get? b=some { ob with slots:=sl }:=by
 by_cases hb:b∈fs
 . exact u.slot b ob q n hb hx
 . exact⟨ob.slots,u.keep b ob q n hb hx⟩
def Un.kept(k:∀b u,h.get? b=some u->h'.get? b=some u):Un fs ex H H h h' :=
 ⟨λb ob q _ _ _=>k b ob q,λb ob q _ _ _=>⟨ob.slots,k b ob q⟩,λ_ _ _ n _=>n,λb ob q _=>⟨ob,k b ob q⟩,λ_ _ q=>q,λ_ _ _ q=>q,λ_ ps q=>⟨#[],by rw[q];simp⟩⟩
def Un.refl:Un fs ex H H h h:=Un.kept λ_ _ q=>q
theorem Un.laid(k:∀b u,h.get? b=some u->h'.get? b=some u)(hp:h.objs.size<=a)(hn:H a=none):Un fs ex H (upd H a o) h h' where
 keep:=λb u q _ _ _=>k b u q
 slot:=λb u q _ _ _=>⟨u.slots,k b u q⟩
 free:=λb u q n _=>by rw[j8 (dw (gm (az q) hp))];exact n
 there:=λb u q _=>⟨u,k b u q⟩
 Ws:=λb xs q=>by rw[j8 (kh q hn)];exact q
 aa3:=λb u xs q=>by rw[j8 (kh q hn)];exact q
 adg:=λb ps q=>⟨#[],by rw[j8 (kh q hn),q];simp⟩
def Un.write(mu:Mut (H x))(he:e=x\/H e=some (.own x))(k:∀b u,b≠e->h.get? b=some u->h'.get? b=some u)(heo:∃u,h'.get? e=some u):Un fs ex H (upd H x o) h h':=by
 have hx:∀b,H b=none->b≠x:=λb n z=>by subst z;rw[n] at mu;exact mu
 have hb:∀b,H b=none->b≠e:=λb n z=>by
  subst z;rcases he with r|r
  . exact hx b n r
  . rw[n] at r;cases r
 have hm:∀b u,H b=some u->¬Mut (some u)->b≠x:=λb u q nm z=>by subst z;rw[q] at mu;exact nm mu
 refine⟨λb u q n _ _=>k b u (hb b n) q,λb u q n _ _=>⟨u.slots,k b u (hb b n) q⟩,λb u q n _=>by rw[j8 (hx b n)];exact n,λb u q _=>?_,
  λb xs q=>by rw[j8 (hm b _ q λz=>z)];exact q,λb u xs q=>by rw[j8 (hm b _ q λz=>z)];exact q,λb ps q=>⟨#[],by rw[j8 (hm b _ q λz=>z),q];simp⟩⟩
 by_cases hbe:b=e
 . subst hbe;exact heo
 . exact⟨u,k b u hbe q⟩
noncomputable def trk(h:Heap)(H:Hp):List Addr:=(List.range h.objs.size).filter λa=>(H a).isSome
noncomputable def aa4(h:Heap)(H:Hp):Heap:=PySem.W.hideAll h (trk h H)
def aka(h:Heap)(H:Hp):(aa4 h H).objs.size=h.objs.size:=PySem.W.hideAll_size _ _
def anj(e:h.get? b=some o)(n:H b=none):(aa4 h H).get? b=some o :=
 PySem.W.hideAll_get _ e λhm=>by have q:(H b).isSome=true:=(v7.mp hm).2;rw[n] at q;simp at q
def ath(e:(aa4 h H).get? b=some o):h.get? b=some o/\H b=none:=by
 have e':h.get? b=some o:=PySem.W.of_hideAll (trk h H) e;refine⟨e',?_⟩;cases q:H b with
 |none=>rfl
 |some x =>
  have hm:b∈trk h H:=v7.mpr ⟨il.mpr (az e'),by simp[q]⟩;have z:(aa4 h H).get? b=none:=PySem.W.hideAll_none (trk h H) hm;rw[z] at e;cases e
end L2
namespace L2
open PySem PySem.Spec PyProof.Rows
structure Mod(K:Fg)(mg:Zs)(base:Heap):Prop where
 kin:K.In base
 glob:base.Ns mainGlobals mg
 blt:∃mb,base.Ns builtinsNs mb/\∀x:Str,x≠"__name__" -> mb x=bootBuiltins x
 nolimit:base.NoLimit
structure Cx where
 prog:Program
 w:World
 K:Fg
 mg:Str->Option Value
 base:Heap
 A:Around
 N:List Str
 s₀:Shared
 H₀:Hp
 env:Env
 outer:List Env
 stack:List Env
 ex:List Addr
 fn:Str->Bool
 calm:Bool
 pn:List (Addr×Obj)
 xe:Value->Shared->Prop
noncomputable def frs(l:List Env):List Addr:=l.filterMap (·.frame)
noncomputable abbrev Cx.fs(X:Cx):List Addr:=frs X.outer
def Vis(sc:Scope)(x:Str):Prop:=sc.names.lookup x=some .local\/sc.names.lookup x=some .cell\/sc.names.lookup x=some .free
def Loc(sc:Scope)(x:Str):Prop:=sc.names.lookup x=some .local\/sc.names.lookup x=some .cell
def Look(env:Env)(h:Heap)(m:Zs)(x:Str)(u:Value):Prop :=
 (env.kindOf x=some .local/\m x=some u)\/((env.kindOf x=some .cell\/env.kindOf x=some .free)/\∃c,env.cells.lookup x=some c/\h.IsCell c (some u))
structure Cx.Ok(X:Cx):Prop where
 mod:Mod X.K X.mg X.base
 kind:X.env.scope.kind=.function
 glob:X.env.globals=mainGlobals
 blt:X.env.builtins=builtinsNs
 above:X.s₀.heap.objs.size<=X.env.locals
 inj:∀x y c,X.env.cells.lookup x=some c->X.env.cells.lookup y=some c->x=y
 has:∀x,(X.env.kindOf x=some .cell\/X.env.kindOf x=some .free)->∃c,X.env.cells.lookup x=some c
 cab:∀x c,X.fn x=true->X.env.cells.lookup x=some c->X.s₀.heap.objs.size<=c
 hd:X.calm=true->X.A.handled=none
 frames:X.A.frames=some X.stack
 stk:X.stack=X.outer\/(X.stack=X.env::X.outer/\X.env.frame=some X.env.locals)
 exf:∀b∈X.ex,b≠X.env.locals/\∀x c,X.env.cells.lookup x=some c->c≠b
 bs:∀b o,X.base.get? b=some o->X.s₀.heap.get? b=some o/\X.H₀ b=none
 bsz:X.base.objs.size<=X.s₀.heap.objs.size
 anl:∀b o,X.base.get? b=some o->b∉X.ex
 atj:∀b∈X.ex,b∉X.fs
 Vh:X.s₀.heap.FunFrames X.base X.outer
 frf:∀b∈X.fs,X.H₀ b=none
structure Inv(X:Cx)(pins:Zp)(σ:List (Option V))(H:Hp)(s:Shared):Prop where
 ok:X.Ok
 os:s.os=X.s₀.os
 bare:AllBare s.gens
 base:Un X.fs X.ex X.H₀ H X.s₀.heap s.heap
 loc:∃m,s.heap.Ns X.env.locals m/\∀(i:Nat)(x:Str)(v:V),X.N[i]?=some x->σ[i]?=some (some v)->Vis X.env.scope x->∃u,RelV v u/\Look X.env s.heap m x u
 cell:∀x c,X.env.cells.lookup x=some c->∃v,s.heap.IsCell c v
 free:H X.env.locals=none
 Ov:∀x c,X.env.cells.lookup x=some c->H c=none
 pin:∀p∈X.pn++pins,s.heap.get? p.1=some p.2/\H p.1=none/\p.1≠X.env.locals/\p.1∉X.fs/\∀v,p.2.data≠.cell v
 An:Qj X.prog X.w H s.heap
 len:σ.length=X.N.length
def Cx.Ok.bc8{X:Cx}(ok:X.Ok)(e:X.base.get? b=some o):b∉X.fs:=λhb=>by have:=(ok.Vh.mem hb).1;rw[e] at this;cases this
theorem Inv.bs(I:Inv X pins σ H s):∀b o,X.base.get? b=some o->s.heap.get? b=some o/\H b=none:=λb o e =>
 ⟨I.base.keep b o (I.ok.bs b o e).1 (I.ok.bs b o e).2 (I.ok.bc8 e) (I.ok.anl b o e),I.base.free b o (I.ok.bs b o e).1 (I.ok.bs b o e).2 (I.ok.anl b o e)⟩
def Inv.bk(I:Inv X pins σ H s):∀b o,X.base.get? b=some o->s.heap.get? b=some o:=λb o e=>(I.bs b o e).1
theorem Inv.mod(I:Inv X pins σ H s):Mod X.K X.mg X.base:=I.ok.mod
def Inv.kIn(I:Inv X pins σ H s):X.K.In s.heap:=I.ok.mod.kin.keeps I.bk
theorem Inv.lt(I:Inv X pins σ H s):X.env.locals<s.heap.objs.size:=let ⟨_,hn,_⟩:=I.loc;hn.lt
def Inv.sz(I:Inv X pins σ H s):X.s₀.heap.objs.size<=s.heap.objs.size:=gn I.ok.above (Aj I.lt)
def Inv.aza(I:Inv X pins σ H s)(h:s.heap.objs.size<=a):a∉X.fs:=λhb=>by obtain⟨_,o,ho,_⟩:=I.ok.Vh.mem hb;exact absurd (gm (az ho) (gn I.sz h)) (mq _)
def Inv.cne(I:Inv X pins σ H s):∀x c,X.env.cells.lookup x=some c->c≠X.env.locals:=λx c e z=>by obtain⟨v,o,ho,hd⟩:=I.cell x c e;obtain⟨m,⟨o',es,ep,ho',hd',_⟩,_⟩:=I.loc;rw[z,ho'] at ho;cases ho;rw[hd'] at hd;cases hd
theorem Inv.Vh(I:Inv X pins σ H s):s.heap.FunFrames X.base X.outer:=by
 have all:∀(l:List Env),(∀b∈frs l,b∈X.fs)->X.s₀.heap.FunFrames X.base l->s.heap.FunFrames X.base l:=by
  intro l
  induction l with
  |nil=>intro _ _;trivial
  |cons env r ih =>
   intro hs hl;obtain⟨hk,⟨L,o,hf,hn,ho,hd⟩,hr⟩:=hl;have hL:L∈X.fs:=hs L (by unfold frs;rw[List.filterMap_cons,hf];exact dg);obtain⟨sl,e⟩:=I.base.slot L o ho (I.ok.frf L hL) hL λz=>I.ok.atj L z hL
   exact⟨hk,⟨L,_,hf,hn,e,hd⟩,ih (λb hb=>hs b (by unfold frs;rw[List.filterMap_cons,hf];exact bh _ hb)) hr⟩
 exact all X.outer (λ_ hb=>hb) I.ok.Vh
theorem Inv.stack(I:Inv X pins σ H s):s.heap.FunFrames X.base X.stack:=by
 rcases I.ok.stk with e|⟨e,hf⟩
 . rw[e];exact I.Vh
 . rw[e]
   obtain⟨m,hn,_⟩:=I.loc;refine .cons (by rw[I.ok.kind];decide) hf hn ?_ I.Vh;exact Heap.get?_none_of_le (gn I.ok.bsz I.ok.above)
def Inv.aa5(I:Inv X pins σ H s):∀b∈frs X.stack,b∈X.env.locals::X.fs:=λb hb=>by
 rcases I.ok.stk with e|⟨e,hf⟩
 . rw[e] at hb;exact bh _ hb
 . rw[e] at hb
   unfold frs at hb;rw[List.filterMap_cons,hf] at hb;exact hb
def Inv.ahz(I:Inv X pins σ H s):∀b∈frs X.stack,H b=none:=λb hb=>by
 rcases bw.mp (I.aa5 b hb) with e|hb
 . rw[e];exact I.free
 . obtain⟨_,o,ho,_⟩:=I.ok.Vh.mem hb
   exact I.base.free b o ho (I.ok.frf b hb) λz=>I.ok.atj b z hb
def Inv.step{ch:X9}(I:Inv X pins σ H s)(hch:∀b∈ch,(b∈X.ex\/X.s₀.heap.objs.size<=b)/\b≠X.env.locals/\(∀x c,X.env.cells.lookup x=some c->c≠b)/\∀p∈X.pn++pins,p.1≠b)(keep:∀b o,b≠X.env.locals->b∉X.fs->b∉ch->s.heap.get? b=some o->H b=none->h'.get? b=some o)(slot:∀b o,b≠X.env.locals->b∈X.fs->b∉ch->s.heap.get? b=some o->H b=none->∃sl,h'.get? b=some { o with slots:=sl })(free:∀b o,b∉ch->s.heap.get? b=some o->H b=none->H' b=none)(there:∀b o,b∉ch->s.heap.get? b=some o->∃o',h'.get? b=some o')(Ws:∀b xs,H b=some (.tup xs)->H' b=some (.tup xs))(aa3:∀b o u,H b=some (.Q0 o u)->H' b=some (.Q0 o u))(adg:∀b ps,H b=some (.tbl ps)->∃more,H' b=some (.tbl (ps++more)))(ns:∀m,s.heap.Ns X.env.locals m->h'.Ns X.env.locals m)(An:Qj X.prog X.w H' h')(hg:AllBare g') :
 Inv X pins σ H' { s with heap:=h',gens:=g',drawn:=d',toks:=t' }:=by
 have neL:∀b o,X.s₀.heap.get? b=some o->b≠X.env.locals:=λb o e=>dw (gm (az e) I.ok.above)
 have neC:∀b o,X.s₀.heap.get? b=some o->b∉X.ex->b∉ch:=λb o e hx hb=>by
  rcases(hch b hb).1 with z|z
  . exact hx z
  . exact absurd (gm (az e) z) (mq _)
 have cellK:∀x c,X.env.cells.lookup x=some c->∀v,s.heap.IsCell c v->h'.IsCell c v:=λx c e v ⟨o,ho,hd⟩=>by
  have nch:c∉ch:=λz=>(hch c z).2.2.1 x c e rfl
  by_cases hc:c∈X.fs
  . obtain⟨sl,q⟩:=slot c o (I.cne x c e) hc nch ho (I.Ov x c e)
    exact⟨_,q,hd⟩
  . exact⟨o,keep c o (I.cne x c e) hc nch ho (I.Ov x c e),hd⟩
 refine⟨I.ok,I.os,hg,⟨λb o e n hb hx=>?_,λb o e n hb hx=>?_,λb o e n hx=>?_,λb o e hx=>?_,λb xs e=>Ws b xs (I.base.Ws b xs e),λb o xs e=>aa3 b o xs (I.base.aa3 b o xs e),λb ps e=>?_⟩,?_,λx c e=>?_,?_,λx c e=>?_,λp hp=>?_,An,I.len⟩
 . exact keep b o (neL b o e) hb (neC b o e hx) (I.base.keep b o e n hb hx) (I.base.free b o e n hx)
 . obtain⟨sl,e1⟩:=I.base.slot b o e n hb hx
   obtain⟨sl',e2⟩:=slot b _ (neL b o e) hb (neC b o e hx) e1 (I.base.free b o e n hx);exact⟨sl',e2⟩
 . obtain⟨o',e1⟩:=I.base.there b o e hx
   exact free b o' (neC b o e hx) e1 (I.base.free b o e n hx)
 . obtain⟨o',e1⟩:=I.base.there b o e hx
   exact there b o' (neC b o e hx) e1
 . obtain⟨m1,e1⟩:=I.base.adg b ps e
   obtain⟨m2,e2⟩:=adg b _ e1;exact⟨m1++m2,by rw[e2,Array.append_assoc]⟩
 . obtain⟨m,hn,hl⟩:=I.loc
   refine⟨m,ns m hn,λi x v e1 e2 e3=>?_⟩;obtain⟨u,r,l⟩:=hl i x v e1 e2 e3;refine⟨u,r,?_⟩;rcases l with l|⟨k,c,e,z⟩
   . exact .inl l
   . exact .inr ⟨k,c,e,cellK x c e _ z⟩
 . obtain⟨v,z⟩:=I.cell x c e
   exact⟨v,cellK x c e v z⟩
 . obtain⟨m,⟨o,_,_,ho,_⟩,_⟩:=I.loc
   exact free _ o (λz=>(hch _ z).2.1 rfl) ho I.free
 . obtain⟨v,o,ho,hd⟩:=I.cell x c e
   exact free c o (λz=>(hch c z).2.2.1 x c e rfl) ho (I.Ov x c e)
 . obtain⟨e,n,ne,nf,d⟩:=I.pin p hp
   have nch:p.1∉ch:=λz=>(hch p.1 z).2.2.2 p hp rfl
   exact⟨keep p.1 p.2 ne nf nch e n,free p.1 p.2 nch e n,ne,nf,d⟩
def Inv.un(I:Inv X pins σ H s)(u:Un X.fs [] H H' s.heap h')(An:Qj X.prog X.w H' h'):Inv X pins σ H' { s with heap:=h',toks:=t' }:=by
 obtain⟨m,⟨o,es,ep,ho,r⟩,_⟩:=id I.loc;obtain⟨sl,hL⟩:=u.any ho I.free (by simp);exact I.step (g':=s.gens) (d':=s.drawn) (ch:=[]) (λ_ z=>nomatch z) (λb o _ hb _ e n=>u.keep b o e n hb (by simp)) (λb o _ hb _ e n=>u.slot b o e n hb (by simp)) (λb o _ e n=>u.free b o e n (by simp)) (λb o _ e=>u.there b o e (by simp)) u.Ws u.aa3 u.adg (λm' hm=>by
  obtain⟨o',es',ep',ho',r'⟩:=hm;rw[ho] at ho';cases ho';exact⟨_,es',ep',hL,r'⟩) An I.bare
def Inv.call(I:Inv X pins σ H s)(u:Un (frs X.stack) ch H H' s.heap h')(An:Qj X.prog X.w H' h')(hg:AllBare g')(hch:∀b∈ch,(b∈X.ex\/X.s₀.heap.objs.size<=b)/\b≠X.env.locals/\(∀x c,X.env.cells.lookup x=some c->c≠b)/\∀p∈X.pn++pins,p.1≠b) :
 Inv X pins σ H' { s with heap:=h',gens:=g',drawn:=d',toks:=t' }:=by
 obtain⟨m,⟨o,es,ep,ho,r⟩,_⟩:=id I.loc;obtain⟨sl,hL⟩:=u.any ho I.free λz=>(hch _ z).2.1 rfl
 exact I.step (ch:=ch) hch (λb o hL hb hc e n=>u.keep b o e n (λz=>(bw.mp (I.aa5 b z)).elim hL hb) hc) (λb o _ _ hc e n=>u.any e n hc) (λb o hc e n=>u.free b o e n hc) (λb o hc e=>u.there b o e hc) u.Ws u.aa3 u.adg (λm' hm=>by
  obtain⟨o',es',ep',ho',r'⟩:=hm;rw[ho] at ho';cases ho';exact⟨_,es',ep',hL,r'⟩) An hg
def Inv.turned(I:Inv X pins σ H s)(k:∀b o,b≠it->s.heap.get? b=some o->h'.get? b=some o)(hn:H it=none)(hL:it≠X.env.locals)(h1:it∈X.ex\/X.s₀.heap.objs.size<=it)(h2:∀x c,X.env.cells.lookup x=some c->c≠it)(h3:∀p∈X.pn++pins,p.1≠it):Inv X pins σ H { s with heap:=h',toks:=t' }:=by
 have nit:∀b u,H b=some u->b≠it:=λb u e z=>by rw[z,hn] at e;cases e
 refine I.step (g':=s.gens) (d':=s.drawn) (ch:=[it]) (λb hb=>?_) (λb o _ _ hc e _=>k b o (λz=>hc (by simp[z])) e) (λb o _ _ hc e _=>⟨o.slots,k b o (λz=>hc (by simp[z])) e⟩) (λ_ _ _ _ n=>n)
  (λb o hc e=>⟨o,k b o (λz=>hc (by simp[z])) e⟩) (λ_ _ e=>e) (λ_ _ _ e=>e) (λb ps e=>⟨#[],by rw[e];simp⟩) (λm hm=>?_) (λb u e=>?_) I.bare
 . have e:b=it:=by simpa using hb
   subst e;exact⟨h1,hL,h2,h3⟩
 . obtain⟨o,es,ep,ho,r⟩:=hm
   exact⟨o,es,ep,k _ o (jz hL) ho,r⟩
 . refine(I.An b u e).stay (λc v hc q=>k c v ?_ q) (λ_ q=>q) λ_ _ q=>q
   rcases hc with z|z
   . rw[z];exact nit b u e
   . exact nit c _ z
def Inv.tok(I:Inv X pins σ H s)(t:Nat):Inv X pins σ H { s with toks:=t }:=I.un (h':=s.heap) (t':=t) Un.refl I.An
theorem Inv.kept(I:Inv X pins σ H s)(k:∀b u,s.heap.get? b=some u->h'.get? b=some u):Inv X pins σ H { s with heap:=h',toks:=t' }:=I.un (Un.kept k) (I.An.kept k)
theorem Inv.laid(I:Inv X pins σ H s)(k:∀b u,s.heap.get? b=some u->h'.get? b=some u)(hp:s.heap.objs.size<=a)(new:Bv X.prog X.w (upd H a o) h' a o) :
 Inv X pins σ (upd H a o) { s with heap:=h',toks:=t' }:=I.un (Un.laid k hp (I.An.fresh hp)) (I.An.laid k hp new)
theorem Inv.write(I:Inv X pins σ H s)(mu:Mut (H x))(he:e=x\/H e=some (.own x))(k:∀b u,b≠e->s.heap.get? b=some u->h'.get? b=some u)(heo:∃u,h'.get? e=some u)(new:Bv X.prog X.w (upd H x o) h' x o):Inv X pins σ (upd H x o) { s with heap:=h',toks:=t' }:=I.un (Un.write mu he k heo) (I.An.write mu he k heo new)
def Inv.weak(I:Inv X pins σ H s)(hl:σ'.length=σ.length)(w:∀(i:Nat) v,σ'[i]?=some (some v)->σ[i]?=some (some v)):Inv X pins σ' H s :=
 ⟨I.ok,I.os,I.bare,I.base,let ⟨m,hn,Yo⟩:=I.loc;⟨m,hn,λi x v e1 e2 e3=>Yo i x v e1 (w i v e2) e3⟩,I.cell,I.free,I.Ov,I.pin,I.An,hl.trans I.len⟩
def Inv.Rv(I:Inv X pins σ H s)(h:∀p∈ah0,s.heap.get? p.1=some p.2/\H p.1=none/\p.1≠X.env.locals/\p.1∉X.fs/\∀v,p.2.data≠.cell v):Inv X ah0 σ H s :=
 ⟨I.ok,I.os,I.bare,I.base,I.loc,I.cell,I.free,I.Ov,λp hp=>(dj.mp hp).elim (λz=>I.pin p (yg _ z)) (h p),I.An,I.len⟩
def adh{N:Yf}(hN:N.Nodup){i:Nat}(a:N[i]?=some x)(b:N[j]?=some x):i=j:=by obtain⟨h1,e1⟩:=ak.mp a;obtain⟨h2,e2⟩:=ak.mp b;exact(Aq hN).mp (e1.trans e2.symm)
def akb(I:Inv X pins σ H s)(hN:X.N.Nodup)(hi:X.N[i]?=some x)(hx:Loc X.env.scope x)(r:RelV v u)(h:∀s',Inv X pins (σ.set i (some v)) H s'->(∃a,Heap.SameBut a s.heap s'.heap/\(a=X.env.locals\/X.env.cells.lookup x=some a))->Q () s')(hf:X.fn x=true\/X.env.scope.names.lookup x=some .local:=by first|exact .inl rfl|exact .inr rfl|assumption):wpAny M A (storeName X.env x u) Q E s:=by
 obtain⟨m,hn,hl⟩:=id I.loc;have bc9:(X.env.scope.kind==.class||(X.env.scope.kind==.module&&X.env.locals != X.env.globals))=false:=by rw[I.ok.kind];rfl
 have hiσ:i < σ.length:=by rw[I.len];exact(ak.mp hi).1
 have cne:=I.cne;have tracked:∀{a:Addr}{h':Heap},(∃o,s.heap.get? a=some o/\H a=none)->Heap.SameBut a s.heap h'->Qj X.prog X.w H h':=fun{a h'} ha hs b ob e=>by
  obtain⟨_,_,Qk⟩:=ha;refine(I.An b ob e).stay (λc w' hc q=>(hs.2 c ?_).trans q) (λ_ q=>q) λ_ _ q=>q
  rintro rfl;rcases hc with rfl|hc
  . rw[Qk] at e;cases e
  . rw[Qk] at hc;cases hc
 rcases hx with hk|hk
 . refine wpAny_storeName_local hk hn (λh' Pg hs=>?_) bc9
   obtain⟨oL,_,_,hoL,_⟩:=id hn;refine h _ ⟨I.ok,I.os,I.bare,⟨λb o e n hb hx=>?_,λb o e n hb hx=>?_,I.base.free,λb o e hx=>?_,I.base.Ws,I.base.aa3,I.base.adg⟩,⟨_,Pg,λj y v' e1 e2 e3=>?_⟩,λy c e=>?_,I.free,I.Ov,λp hp=>?_,tracked ⟨oL,hoL,I.free⟩ hs,by simpa using I.len⟩ ⟨_,hs,.inl rfl⟩
   . exact(hs.2 b (dw (gm (az e) I.ok.above))).trans (I.base.keep b o e n hb hx)
   . obtain⟨sl,e1⟩:=I.base.slot b o e n hb hx
     exact⟨sl,(hs.2 b (dw (gm (az e) I.ok.above))).trans e1⟩
   . obtain⟨o',e1⟩:=I.base.there b o e hx
     exact⟨o',(hs.2 b (dw (gm (az e) I.ok.above))).trans e1⟩
   . by_cases hj:j=i
     . subst hj
       rw[hi] at e1;cases e1;rw[List.getElem?_set_self hiσ] at e2;cases e2;exact⟨u,r,.inl ⟨hk,by simp⟩⟩
     . rw[v5 (jz hj)] at e2
       obtain⟨u',r',q⟩:=hl j y v' e1 e2 e3;refine⟨u',r',?_⟩;rcases q with⟨k,e⟩|⟨k,c,e,z⟩
       . refine .inl ⟨k,?_⟩
         have:y≠x:=λe=>hj (adh hN e1 (e▸hi))
         simp[this,e]
       . exact .inr ⟨k,c,e,z.sameBut hs (cne y c e)⟩
   . obtain⟨w',z⟩:=I.cell y c e
     exact⟨w',z.sameBut hs (cne y c e)⟩
   . obtain⟨e,n,ne,nf,d⟩:=I.pin p hp
     exact⟨(hs.2 p.1 ne).trans e,n,ne,nf,d⟩
 . have hfn:X.fn x=true:=by
    rcases hf with z|z
    . exact z
    . rw[z] at hk;cases hk
   obtain⟨c,hc⟩:=I.ok.has x (.inl hk);obtain⟨w',z⟩:=I.cell x c hc;refine wpAny_storeName_cell I.ok.kind hk hc z (λh' hc' hs=>?_);obtain⟨oc,hoc,bdc⟩:=id z;refine h { s with heap:=h' } ⟨I.ok,I.os,I.bare,⟨λb o e n hb hx=>?_,λb o e n hb hx=>?_,I.base.free,λb o e hx=>?_,I.base.Ws,I.base.aa3,I.base.adg⟩,⟨m,hn.sameBut hs (jz (cne x c hc)),λj y v' e1 e2 e3=>?_⟩,λy c' e=>?_,I.free,I.Ov,λp hp=>?_,tracked ⟨oc,hoc,I.Ov x c hc⟩ hs,by simpa using I.len⟩ ⟨c,hs,.inr hc⟩
   . exact(hs.2 b (dw (gm (az e) (I.ok.cab x c hfn hc)))).trans (I.base.keep b o e n hb hx)
   . obtain⟨sl,e1⟩:=I.base.slot b o e n hb hx
     exact⟨sl,(hs.2 b (dw (gm (az e) (I.ok.cab x c hfn hc)))).trans e1⟩
   . obtain⟨o',e1⟩:=I.base.there b o e hx
     exact⟨o',(hs.2 b (dw (gm (az e) (I.ok.cab x c hfn hc)))).trans e1⟩
   . by_cases hj:j=i
     . subst hj
       rw[hi] at e1;cases e1;rw[List.getElem?_set_self hiσ] at e2;cases e2;exact⟨u,r,.inr ⟨.inl hk,c,hc,hc'⟩⟩
     . rw[v5 (jz hj)] at e2
       obtain⟨u',r',q⟩:=hl j y v' e1 e2 e3;refine⟨u',r',?_⟩;rcases q with q|⟨k,c',e,z'⟩
       . exact .inl q
       . refine .inr ⟨k,c',e,z'.sameBut hs ?_⟩
         rintro rfl;exact hj (adh hN e1 (I.ok.inj _ _ _ e hc▸hi))
   . by_cases hcc:c'=c
     . subst hcc;exact⟨_,hc'⟩
     . obtain⟨w2,z2⟩:=I.cell y c' e
       exact⟨w2,z2.sameBut hs hcc⟩
   . obtain⟨e,n,ne,nf,d⟩:=I.pin p hp
     refine⟨(hs.2 p.1 ?_).trans e,n,ne,nf,d⟩;intro q;rw[q,hoc] at e;have q':oc=p.2:=jq e;exact d w' (by rw[<- q'];exact bdc)
def ano(I:Inv X pins σ H s)(hN:X.N.Nodup)(hi:X.N[i]?=some x)(hx:Loc X.env.scope x)(r:RelV v u)(h:∀s',Inv X pins (σ.set i (some v)) H s'->Q () s')(hf:X.fn x=true\/X.env.scope.names.lookup x=some .local:=by first|exact .inl rfl|exact .inr rfl|assumption):wpAny M A (storeName X.env x u) Q E s :=
 akb I hN hi hx r (λs' I' _=>h s' I') hf
def Inv.call'(I:Inv X pins σ H s)(ho:s'.os=s.os)(u:Un (frs X.stack) ch H H' s.heap s'.heap)(An:Qj X.prog X.w H' s'.heap)(hg:AllBare s'.gens)(hch:∀b∈ch,(b∈X.ex\/X.s₀.heap.objs.size<=b)/\b≠X.env.locals/\(∀x c,X.env.cells.lookup x=some c->c≠b)/\∀p∈X.pn++pins,p.1≠b):Inv X pins σ H' s':=by obtain⟨h',g',d',t',o'⟩:=s';have e:o'=s.os:=ho;subst e;exact I.call (g':=g') (t':=t') (d':=d') u An hg hch
abbrev XK:=Value->Option Addr->Hp->Prop
abbrev St:=List (Option V)
abbrev VK:=V->Hp->Prop
abbrev TE:=St->Hp->VK->Prop
abbrev TT:=St->Hp->(Bool->Hp->Prop)->Prop
abbrev TA:=St->Hp->(List V->Hp->Prop)->Prop
structure Ends where
 nx:St->Hp->Prop
 rt:VK
 bk:St->Hp->Prop:=λ_ _=>False
 ct:St->Hp->Prop:=λ_ _=>False
abbrev TS:=Ends->St->Hp->Prop
def EP(X:Cx)(pins:Zp)(σ:St)(Q:VK)(u:Value)(s':Shared):Prop:=∃v H',Inv X pins σ H' s'/\RelV v u/\Q v H'
def TP(X:Cx)(pins:Zp)(σ:St)(Q:Bool->Hp->Prop)(b:Bool)(s':Shared):Prop:=∃H',Inv X pins σ H' s'/\Q b H'
def AP(X:Cx)(pins:Zp)(σ:St)(Q:List V->Hp->Prop)(us:Zl)(s':Shared):Prop:=∃vs H',Inv X pins σ H' s'/\Vals vs us/\Q vs H'
def SP(X:Cx)(pins:Zp)(D:Ends)(f:Flow)(s':Shared):Prop :=
 match f with
 |.next=>∃σ' H',Inv X pins σ' H' s'/\D.nx σ' H'|.brk=>∃σ' H',Inv X pins σ' H' s'/\D.bk σ' H'|.cont=>∃σ' H',Inv X pins σ' H' s'/\D.ct σ' H'|.ret u=>∃v σ' H',Inv X pins σ' H' s'/\RelV v u/\D.rt v H'
def PE(X:Cx)(e:Expr)(t:TE):Prop :=
 ∀(pins:Zp)(s:Shared)(σ:St)(H:Hp)(Q:VK),Inv X pins σ H s->t σ H Q->wpAny (model X.prog X.w) X.A (eval e X.env) (EP X pins σ Q) X.xe s
def PT(X:Cx)(e:Expr)(t:TT):Prop :=
 ∀(pins:Zp)(s:Shared)(σ:St)(H:Hp)(Q:Bool->Hp->Prop),Inv X pins σ H s->t σ H Q->wpAny (model X.prog X.w) X.A (isTrue e X.env (eval e X.env)) (TP X pins σ Q) X.xe s
def PW(X:Cx)(e:Expr)(t:TT):Prop :=
 ∀(whole:Sem Value)(pins:Zp)(s:Shared)(σ:St)(H:Hp)(Q:Bool->Hp->Prop),Inv X pins σ H s->t σ H Q->wpAny (model X.prog X.w) X.A (isTrue e X.env whole) (TP X pins σ Q) X.xe s
def PW.pt(h:PW X e t):PT X e t:=h _
def PA(X:Cx)(es:Ya)(t:TA):Prop :=
 ∀(pos:Pos)(pins:Zp)(s:Shared)(σ:St)(H:Hp)(Q:List V->Hp->Prop),Inv X pins σ H s->t σ H Q->wpAny (model X.prog X.w) X.A (spliced (backTo pos (starEach es X.env))) (AP X pins σ Q) X.xe s
def PS(X:Cx)(st:Stmt)(t:TS):Prop :=
 ∀(pins:Zp)(s:Shared)(σ:St)(H:Hp)(D:Ends),Inv X pins σ H s->t D σ H->wpAny (model X.prog X.w) X.A (exec st X.env) (SP X pins D) X.xe s
def Rx(X:Cx)(st:List Stmt)(t:TS):Prop :=
 ∀(pins:Zp)(s:Shared)(σ:St)(H:Hp)(D:Ends),Inv X pins σ H s->t D σ H->wpAny (model X.prog X.w) X.A (execs st X.env) (SP X pins D) X.xe s
def Bq(h:wpAny M A t Q E s)(hQ:∀a s,Q a s->Q' a s):wpAny M A t Q' E s:=mj h hQ λ_ _ x=>x
end L2
namespace L2
open PySem PySem.Spec PyProof.Rows
def bdd(i:Nat):TE:=fun σ H Q=>∃v,σ[i]?=some (some v)/\Q v H
def tC(v:V):TE:=λ_ H Q=>Q v H
def azc(hN:X.N[i]?=some x)(hv:Vis X.env.scope x)(hd:(x==("__debug__" : Str))=false:=by decide)(hcd:(x==("__classdict__" : Str))=false:=by decide):PE X (.Name x pos) (bdd i):=by
 intro pins s σ H Q I h;obtain⟨v,e,h⟩:=h;obtain⟨m,hn,hl⟩:=I.loc;obtain⟨u,r,l⟩:=hl i x v hN e hv;have fin:EP X pins σ Q u s:=⟨v,H,I,r,h⟩;rcases l with⟨hk,hm⟩|⟨hk,c,hc,aw6⟩
 . exact wpAny_Name (wpAny_loadName_local I.ok.kind hk hn hm fin) hd
 . rcases hk with hk|hk
   . exact wpAny_Name (wpAny_loadName_cell I.ok.kind hk hc aw6 fin) hd
   . exact wpAny_Name (wpAny_loadName_free I.ok.kind hk hc aw6 fin hcd) hd
def azd:PE X (.Constant (.int i) j pos) (tC (.int i)):=λ_ _ _ H _ I h=>wpAny_Constant_int ⟨.int i,H,I.tok _,⟨_,rfl⟩,h⟩
def a6b:PE X (.Constant (.bool b) j pos) (tC (.bl b)):=λ_ _ _ H _ I h=>Constant_bool ⟨.bl b,H,I,rfl,h⟩
def aze:PE X (.Constant .none j pos) (tC .non):=λ_ _ _ H _ I h=>Constant_none ⟨.non,H,I,rfl,h⟩
def azf:PE X (.Constant (.str x) j pos) (tC (.str x)):=λ_ _ _ H _ I h=>Calls.Constant_str ⟨.str x,H,I.tok _,⟨_,rfl⟩,h⟩
def Gl(X:Cx)(x:Str):Prop:=X.env.kindOf x=some .globalImplicit
def aa6(I:Inv X pins σ H s)(hg:Gl X x)(hm:X.mg x=some u)(h:Q u s)(hd:(x==("__debug__" : Str))=false:=by decide):wpAny (model X.prog X.w) X.A (eval (.Name x pos) X.env) Q E s :=
 Calls.Name_function_global I.ok.kind hg (Calls.loadGlobal_global (by rw[I.ok.glob];exact I.mod.glob.keeps I.bk) hm h) hd
def Dr(I:Inv X pins σ H s)(hg:Gl X x)(hm:X.mg x=none)(hv:bootBuiltins x=some u)(h:Q u s)(hn:x≠"__name__" := by decide)(hd:(x==("__debug__" : Str))=false:=by decide):wpAny (model X.prog X.w) X.A (eval (.Name x pos) X.env) Q E s:=by obtain⟨mb,h1,h2⟩:=I.mod.blt;exact Calls.Name_function_global I.ok.kind hg (Calls.loadGlobal_builtin (by rw[I.ok.glob];exact I.mod.glob.keeps I.bk) hm (by rw[I.ok.blt];exact h1.keeps I.bk) ((h2 x hn).trans hv) h) hd
def atk(hg:Gl X x)(hm:X.mg x=some u)(r:RelV v u)(hd:(x==("__debug__" : Str))=false:=by decide):PE X (.Name x pos) (tC v) :=
 λ_ _ _ H _ I h=>aa6 I hg hm ⟨v,H,I,r,h⟩ hd
def PC(X:Cx)(op:CmpOp)(a b:Expr)(t:TE):Prop :=
 ∀(pins:Zp)(s:Shared)(σ:St)(H:Hp)(Q:VK),Inv X pins σ H s->t σ H Q ->
  wpAny (model X.prog X.w) X.A (eval a X.env) (λv s₁=>wpAny (model X.prog X.w) X.A (eval b X.env) (λu s₂=>wpAny (model X.prog X.w) X.A (compareOp op v u) (EP X pins σ Q) X.xe s₂) X.xe s₁) X.xe s
def adi(b:Expr)(h:op≠.In)(h2:op≠.NotIn):behindInMarks op b=false:=by
 have e1:(op==CmpOp.In)=false:=by cases op<;>first|rfl|exact absurd rfl h
 have e2:(op==CmpOp.NotIn)=false:=by cases op<;>first|rfl|exact absurd rfl h2
 cases b<;>simp[behindInMarks,e1,e2]
def tB(t:TE):TT:=fun σ H Q=>t σ H λx H1=>∃c,x=.bl c/\Q c H1
def azg(h:PC X op a b t)(h1:behindInMarks op b=false:=by first|exact adi _ (by decide) (by decide)|rfl):PE X (.Compare a [op] [b] pos) t:=λpins s σ H Q I hw=>wpAny_Compare1 (h pins s σ H Q I hw) h1
def azh(h:PC X op a b t)(h1:behindInMarks op b=false:=by first|exact adi _ (by decide) (by decide)|rfl):PT X (.Compare a [op] [b] pos) (tB t):=by intro pins s σ H Q I hw;refine wpAny_isTrue_Compare1 (Bq (h pins s σ H _ I hw) λv s1 h1=>Bq h1 λu s2 h2=>Bq h2 λc s3 ⟨x,H1,I1,r1,q1⟩=>?_) h1;obtain⟨d,rfl,q⟩:=q1;cases r1;exact j9 ⟨H1,I1,q⟩
def azi(h:PE X e t)(he:∀whole,isTrue e X.env whole=(do let v <- whole;standAt e.pos;holding [v] (truthy v)):=by intro _;rfl):PT X e (tB t):=by intro pins s σ H Q I hw;refine isTrue_plain (Bq (h pins s σ H _ I hw) λv s1 ⟨x,H1,I1,r1,q1⟩=>?_) (he _);obtain⟨d,rfl,q⟩:=q1;cases r1;exact j9 ⟨H1,I1,q⟩
def bde(t u:TT):TT:=fun σ H Q=>t σ H λc H1=>if c=true then u σ H1 Q else Q false H1
def tOr(t u:TT):TT:=fun σ H Q=>t σ H λc H1=>if c=true then Q true H1 else u σ H1 Q
def bdf(t:TT):TT:=fun σ H Q=>t σ H λc H1=>Q (!c) H1
def atl(ha:PT X a tA):PW X (.BoolOp .And [a] pos) tA:=by
 intro wh pins s σ H Q I h;refine isTrue_and (Bq (ha pins s σ H Q I h) λc s1 e=>?_);cases c with
 |true=>exact isTrue_and_nil e|false=>exact e
def azj(ha:PT X a tA):PW X (.BoolOp .Or [a] pos) tA:=by
 intro wh pins s σ H Q I h;refine isTrue_or (Bq (ha pins s σ H Q I h) λc s1 e=>?_);cases c with
 |false=>exact isTrue_or_nil e|true=>exact e
def azk{rest:Ya}(ha:PT X a tA)(hb:PW X (.BoolOp .And (b::rest) pos) tB'):PW X (.BoolOp .And (a::b::rest) pos) (bde tA tB'):=by
 intro wh pins s σ H Q I h;refine isTrue_and (Bq (ha pins s σ H _ I h) λc s1 ⟨H1,I1,q1⟩=>?_);cases c with
 |true=>exact hb wh pins s1 σ H1 Q I1 q1|false=>exact⟨H1,I1,q1⟩
def a6c{rest:Ya}(ha:PT X a tA)(hb:PW X (.BoolOp .Or (b::rest) pos) tB'):PW X (.BoolOp .Or (a::b::rest) pos) (tOr tA tB'):=by
 intro wh pins s σ H Q I h;refine isTrue_or (Bq (ha pins s σ H _ I h) λc s1 ⟨H1,I1,q1⟩=>?_);cases c with
 |true=>exact⟨H1,I1,q1⟩|false=>exact hb wh pins s1 σ H1 Q I1 q1
def azl(ha:PT X a tA):PT X (.UnaryOp .Not a pos) (bdf tA):=by intro pins s σ H Q I h;exact isTrue_not (ha pins s σ H (λc H1=>Q (!c) H1) I h)
def a6d(ta tb:TE):TE:=fun σ H Q=>ta σ H λx H1=>∃c,x=.bl c/\if c=true then tb σ H1 Q else Q (.bl false) H1
def bdh(ta tb:TE):TE:=fun σ H Q=>ta σ H λx H1=>∃c,x=.bl c/\if c=true then Q (.bl true) H1 else tb σ H1 Q
def a6e(ta:TE):TE:=fun σ H Q=>ta σ H λx H1=>∃c,x=.bl c/\Q (.bl (!c)) H1
def azm{rest:Ya}(ha:PE X a ta)(hb:PE X (.BoolOp .And (b::rest) pos) tb):PE X (.BoolOp .And (a::b::rest) pos) (a6d ta tb):=by
 intro pins s σ H Q I h;refine BoolOp_and (Bq (ha pins s σ H _ I h) λv s1 ⟨x,H1,I1,r1,q1⟩=>?_);obtain⟨c,rfl,q1⟩:=q1;cases r1;refine j9 ?_;cases c with
 |true=>exact hb pins s1 σ H1 Q I1 q1|false=>exact⟨.bl false,H1,I1,rfl,q1⟩
def a6f{rest:Ya}(ha:PE X a ta)(hb:PE X (.BoolOp .Or (b::rest) pos) tb):PE X (.BoolOp .Or (a::b::rest) pos) (bdh ta tb):=by
 intro pins s σ H Q I h;refine BoolOp_or (Bq (ha pins s σ H _ I h) λv s1 ⟨x,H1,I1,r1,q1⟩=>?_);obtain⟨c,rfl,q1⟩:=q1;cases r1;refine j9 ?_;cases c with
 |false=>exact hb pins s1 σ H1 Q I1 q1|true=>exact⟨.bl true,H1,I1,rfl,q1⟩
def azn(ha:PE X a ta):PE X (.UnaryOp .Not a pos) (a6e ta):=by intro pins s σ H Q I h;refine UnaryOp_ (Bq (ha pins s σ H _ I h) λv s1 ⟨x,H1,I1,r1,q1⟩=>?_);obtain⟨c,rfl,q1⟩:=q1;cases r1;exact not_of (j9 ⟨.bl (!c),H1,I1,rfl,q1⟩)
def tIf(t:TT)(ta tb:TE):TE:=fun σ H Q=>t σ H λc H1=>if c=true then ta σ H1 Q else tb σ H1 Q
def anp(hc:PT X c tA)(ha:PE X a ta)(hb:PE X b tb):PE X (.IfExp c a b pos) (tIf tA ta tb):=by
 intro pins s σ H Q I h;refine wpAny_IfExp (Bq (hc pins s σ H _ I h) λd s1 ⟨H1,I1,q1⟩=>?_);cases d with
 |true=>exact ha pins s1 σ H1 Q I1 q1|false=>exact hb pins s1 σ H1 Q I1 q1
end L2
namespace L2
open PySem PySem.Spec PyProof.Rows
def Hm(K:Fg)(H:Hp)(a:Addr)(xs:List V):Prop :=
 Rd H a (.lst xs) \/
  ∃(o:Obj)(xq:U1)(n:Nat),K.lookup a=some o/\o.cls=.type "list"/\o.dict=none/\o.data=.seq xq n/\xq.size<=sizeLine/\Vals xs xq.toList
def Dw(K:Fg)(H:Hp)(a:Addr)(xs:List V):Prop :=
 Rd H a (.tup xs) \/
  ∃(o:Obj)(xq:U1)(n:Nat),K.lookup a=some o/\o.cls=.type "tuple"/\o.data=.seq xq n/\xq.size<=sizeLine/\Vals xs xq.toList
noncomputable def bdi:Value->Option V
 |.none=>some .non|.bool b=>some (.bl b)|.int i _=>some (.int i)|.str x _=>some (.str x)|.bytes b _=>some (.byt b)|.float b _=>some (.flt b)|.ref a=>some (.ref a)|.type n=>some (.ty n)|_=>none
def RelV.abs(r:RelV x u):bdi u=some x:=by
 cases x with
 |non=>cases r;rfl|bl _=>cases r;rfl|int _=>obtain⟨t,rfl⟩:=r;rfl
 |str _=>obtain⟨t,rfl⟩:=r;rfl
 |byt _=>obtain⟨t,rfl⟩:=r;rfl
 |flt _=>obtain⟨t,rfl⟩:=r;rfl
 |ref _=>cases r;rfl|ty _=>cases r;rfl
def RelV.inj(r:RelV x u)(q:RelV y u):x=y:=jq (r.abs.symm.trans q.abs)
theorem Vals.inj:∀{xs ys:List V}{us:Zl},Vals xs us->Vals ys us->xs=ys
 |_,_,_,.nil,.nil=>rfl|_,_,_,.cons r t,.cons r' t'=>by rw[r.inj r',Vals.inj t t']
def Hm.of{K:Fg}(h:H a=some (.lst xs)):Hm K H a xs:=.inl (.inl h)
def Dw.of{K:Fg}(h:H a=some (.tup xs)):Dw K H a xs:=.inl (.inl h)
def Inv.list(I:Inv X pins σ H s)(h:Hm X.K H a xs):∃xq:List Value,Vals xs xq/\PlainL s.heap a xq.toArray/\xs.length<=sizeLine:=by
 rcases h with h|⟨o,xq,n,hk,hc,hd,hs,hz,r⟩
 . obtain⟨z,xq,n,r,e⟩:=h.ok I.An
   exact⟨xq,r,⟨_,n,e,rfl,rfl,rfl⟩,z⟩
 . refine⟨xq.toList,r,⟨o,n,I.kIn a o hk,hc,hd,by simpa using hs⟩,?_⟩
   have e:=r.length;simp only[t7] at e;exact a_ (f_ e) hz
def Inv.tuple(I:Inv X pins σ H s)(h:Dw X.K H a xs):∃xq:List Value,Vals xs xq/\IsTup s.heap a xq.toArray/\xs.length<=sizeLine:=by
 rcases h with h|⟨o,xq,n,hk,hc,hs,hz,r⟩
 . obtain⟨z,xq,r,p⟩:=h.ok I.An
   exact⟨xq,r,p.is,z⟩
 . refine⟨xq.toList,r,⟨o,I.kIn a o hk,hc,n,by simpa using hs⟩,?_⟩
   have e:=r.length;simp only[t7] at e;exact a_ (f_ e) hz
def Inv.adk(I:Inv X pins σ H s)(h:Hm X.K H a xs)(h':Hm X.K H a ys):xs=ys:=by
 obtain⟨xq,r,⟨o,n,e,_,_,d⟩,_⟩:=I.list h;obtain⟨its',r',⟨o',n',e',_,_,d'⟩,_⟩:=I.list h';rw[e] at e';cases e';rw[d] at d';injection d' with d1 _
 have:xq=its':=by simpa using qj Array.toList d1
 subst this;exact r.inj r'
def Inv.K6(I:Inv X pins σ H s)(h:Dw X.K H a xs)(h':Dw X.K H a ys):xs=ys:=by
 obtain⟨xq,r,⟨o,e,_,n,d⟩,_⟩:=I.tuple h;obtain⟨its',r',⟨o',e',_,n',d'⟩,_⟩:=I.tuple h';rw[e] at e';cases e';rw[d] at d';injection d' with d1 _
 have:xq=its':=by simpa using qj Array.toList d1
 subst this;exact r.inj r'
noncomputable abbrev Cx.Yp(X:Cx)(E:Y1):Cx:={ X with xe:=E }
noncomputable abbrev Cx.nox(X:Cx):Cx:=X.Yp λ_ _=>False
theorem Cx.Ok.Yp{X:Cx}(ok:X.Ok)(E:Y1):(X.Yp E).Ok :=
 ⟨ok.mod,ok.kind,ok.glob,ok.blt,ok.above,ok.inj,ok.has,ok.cab,ok.hd,ok.frames,ok.stk,ok.exf,ok.bs,ok.bsz,ok.anl,ok.atj,ok.Vh,ok.frf⟩
def Cx.Ok.Ow{X:Cx}(ok:(X.Yp E).Ok):X.Ok :=
 ⟨ok.mod,ok.kind,ok.glob,ok.blt,ok.above,ok.inj,ok.has,ok.cab,ok.hd,ok.frames,ok.stk,ok.exf,ok.bs,ok.bsz,ok.anl,ok.atj,ok.Vh,ok.frf⟩
theorem Inv.Yp(I:Inv X pins σ H s)(E:Y1):Inv (X.Yp E) pins σ H s:=⟨I.ok.Yp E,I.os,I.bare,I.base,I.loc,I.cell,I.free,I.Ov,I.pin,I.An,I.len⟩
theorem Inv.Ow(I:Inv (X.Yp E) pins σ H s):Inv X pins σ H s:=⟨I.ok.Ow,I.os,I.bare,I.base,I.loc,I.cell,I.free,I.Ov,I.pin,I.An,I.len⟩
theorem SP.Ow(h:SP (X.Yp E) pins D f s'):SP X pins D f s':=by
 cases f with
 |next=>obtain⟨σ',H',I,q⟩:=h;exact⟨σ',H',I.Ow,q⟩
 |brk=>obtain⟨σ',H',I,q⟩:=h;exact⟨σ',H',I.Ow,q⟩
 |cont=>obtain⟨σ',H',I,q⟩:=h;exact⟨σ',H',I.Ow,q⟩
 |ret u=>obtain⟨v,σ',H',I,r,q⟩:=h;exact⟨v,σ',H',I.Ow,r,q⟩
theorem Rx.nox{st:List Stmt}(h:Rx X.nox st t):Rx X st t:=λpins s σ H D I hw =>
 mj (h pins s σ H D (I.Yp _) hw) (λ_ _ q=>q.Ow) λ_ _ z=>False.elim z
def aw7:TS:=λD σ H=>D.nx σ H
def bdj(t u:TS):TS:=λD σ H=>t { D with nx:=u D } σ H
def atm:Rx X [] aw7:=λ_ _ σ H _ I h=>wpAny_execs_nil ⟨σ,H,I,h⟩
def anq{st:Stmt}{rest:List Stmt}(h1:PS X st t)(h2:Rx X rest u):Rx X (st::rest) (bdj t u):=by
 intro pins s σ H D I h;refine wpAny_execs_cons (Bq (h1 pins s σ H { D with nx:=u D } I h) λf s1 q=>?_);cases f with
 |next =>
  obtain⟨σ',H',I',q⟩:=q;exact h2 pins s1 σ' H' D I' q
 |ret v=>exact q|brk=>exact q|cont=>exact q
def azo:TS:=λD σ H=>D.bk σ H
def a6h:TS:=λD σ H=>D.ct σ H
def atn:PS X (.Pass pos) aw7:=λ_ _ σ H _ I h=>wpAny_Pass ⟨σ,H,I,h⟩
def anr:PS X (.Break pos) azo:=λ_ _ σ H _ I h=>wpAny_Break ⟨σ,H,I,h⟩
def adl:PS X (.Continue pos) a6h:=λ_ _ σ H _ I h=>wpAny_Continue ⟨σ,H,I,h⟩
def Inv.quiet(I:Inv X pins σ H s):interactive X.env=false:=by simp[interactive,I.ok.kind]
def a6i(te:TE):TS:=λD σ H=>te σ H λ_ H1=>D.nx σ H1
def ato(he:PE X e te)(hs:swapsWith e none pos.line X.env=pure false:=by rfl):PS X (.Expr e pos) (a6i te):=by intro pins s σ H D I h;exact wpAny_Expr_any (Bq (he pins s σ H _ I h) λv s1 ⟨x,H1,I1,r1,q1⟩=>⟨σ,H1,I1,q1⟩) I.quiet hs
def bdk(te:TE):TS:=λD σ H=>te σ H D.rt
def azp(he:PE X e te):PS X (.Return (some e) pos) (bdk te):=by intro pins s σ H D I h;exact wpAny_Return_some (Bq (he pins s σ H _ I h) λv s1 ⟨x,H1,I1,r1,q1⟩=>⟨x,σ,H1,I1,r1,q1⟩)
def bdl(c:TT)(t u:TS):TS:=λD σ H=>c σ H λb H1=>if b=true then t D σ H1 else u D σ H1
def a6j(hc:PT X c tc)(ha:Rx X a t)(hb:Rx X b u):PS X (.If c a b pos) (bdl tc t u):=by
 intro pins s σ H D I h;refine wpAny_If (Bq (hc pins s σ H _ I h) λd s1 ⟨H1,I1,q1⟩=>?_);cases d with
 |true=>exact ha pins s1 σ H1 D I1 q1|false=>exact hb pins s1 σ H1 D I1 q1
abbrev TG:=V->St->Hp->(St->Hp->Prop)->Prop
abbrev TGs:=List V->St->Hp->(St->Hp->Prop)->Prop
def PG(X:Cx)(target:Expr)(t:TG):Prop :=
 ∀(pins:Zp)(s:Shared)(σ:St)(H:Hp)(v:V)(u:Value)(Q:St->Hp->Prop),Inv X pins σ H s->RelV v u->t v σ H Q ->
  wpAny (model X.prog X.w) X.A (assign target X.env u) (λ_ s'=>∃σ' H',Inv X pins σ' H' s'/\Q σ' H') X.xe s
def PGs(X:Cx)(ts:Ya)(t:TGs):Prop :=
 ∀(pins:Zp)(s:Shared)(σ:St)(H:Hp)(vs:List V)(us:Zl)(Q:St->Hp->Prop),Inv X pins σ H s->Vals vs us->t vs σ H Q ->
  wpAny (model X.prog X.w) X.A (assignInOrder ((assignEach ts X.env).map (·.2)) us) (λ_ s'=>∃σ' H',Inv X pins σ' H' s'/\Q σ' H') X.xe s
abbrev azq:=V->V->V->Hp->(Hp->Prop)->Prop
def azr(X:Cx)(t:azq):Prop :=
 ∀(pins:Zp)(s:Shared)(σ:St)(H:Hp)(o i v:V)(ov iv u:Value)(Q:Hp->Prop),Inv X pins σ H s->RelV o ov->RelV i iv->RelV v u->t o i v H Q ->
  wpAny (model X.prog X.w) X.A (setItem ov iv u) (λ_ s'=>∃H',Inv X pins σ H' s'/\Q H') X.xe s
def ah1(i:Nat):TG:=λv σ H Q=>Q (σ.set i (some v)) H
def aa7(hN:X.N.Nodup)(hi:X.N[i]?=some x)(hx:Loc X.env.scope x)(hf:X.fn x=true\/X.env.scope.names.lookup x=some .local:=by first|exact .inl rfl|exact .inr rfl|assumption):PG X (.Name x pos) (ah1 i):=by intro pins s σ H v u Q I r h;exact wpAny_assign_Name (ano I hN hi hx r (λs' I'=>⟨_,H,I',h⟩) hf)
def bdm:TGs:=λvs σ H Q=>vs=[]/\Q σ H
def a6m(t:TG)(u:TGs):TGs:=λvs σ H Q=>∃v r,vs=v::r/\t v σ H fun σ' H'=>u r σ' H' Q
def atp:PGs X [] bdm:=by intro pins s σ H vs us Q I r h;obtain⟨e,h⟩:=h;subst e;cases r;exact assignInOrder_nil ⟨σ,H,I,h⟩
def ant(h1:PG X e t)(h2:PGs X es u)(hs:(assignEach (e::es) X.env).map (·.2)=assign e X.env::(assignEach es X.env).map (·.2):=by rfl):PGs X (e::es) (a6m t u):=by
 intro pins s σ H vs us Q I r h;obtain⟨v,vr,e1,h⟩:=h;subst e1;cases r with
 |cons r rr =>
  rw[hs];refine assignInOrder_cons (Bq (h1 pins s σ H _ _ _ I r h) λ_ s1 ⟨σ1,H1,I1,q1⟩=>?_);exact h2 pins s1 σ1 H1 _ _ Q I1 rr q1
def bdn(K:Fg)(n:Nat)(t:TGs):TG:=λv σ H Q=>∃a xs,v=.ref a/\Dw K H a xs/\xs.length=n/\t xs σ H Q
def azs(hc:X.calm=true)(h:PGs X es t)(hn:(assignEach es X.env).length=n:=by rfl)(Vn:(assignEach es X.env).findIdx? (·.1)=none:=by rfl):PG X (.Tuple es k pos) (bdn X.K n t):=by
 intro pins s σ H v u Q I r hw;obtain⟨a,xs,e1,hq,hl,hw⟩:=hw;subst e1;cases r;obtain⟨xq,rv,ht,hz⟩:=I.tuple hq;refine assign_Tuple_tuple (I.ok.hd hc) ht (by simp[hn,<- hl,rv.length]) Vn λh' hx=>?_
 have I1:Inv X pins σ H { s with heap:=h' }:=I.kept (t':=s.toks) λb o e=>hx b o (dw (az e)) e
 exact h pins _ σ H xs _ Q I1 (by simpa using rv) hw
def bdo(to ti:TE)(t:azq):TG:=λv σ H Q=>to σ H λo H1=>ti σ H1 λi H2=>t o i v H2 λH3=>Q σ H3
def azt(ho:PE X o to)(hi:PE X i ti)(hs:azr X t)(ha:∀v,assign (.Subscript o i pos) X.env v=(do
 let ov <- holding [v] (eval o X.env)
 let iv <- holding [v,ov] (eval i X.env)
 standAt pos
 holding [v,ov,iv] (setItem ov iv v)
 release [v,ov,iv] []):=by intro _;rfl):PG X (.Subscript o i pos) (bdo to ti t):=by
 intro pins s σ H v u Q I r h;rw[ha];refine aa (jm (Bq (ho pins s σ H _ I h) λov s1 ⟨x,H1,I1,r1,q1⟩=>?_));refine aa (jm (Bq (hi pins s1 σ H1 _ I1 q1) λiv s2 ⟨y,H2,I2,r2,q2⟩=>?_));refine aa (wpAny_standAt (aa (jm (Bq (hs pins s2 σ H2 x y v ov iv u _ I2 r1 r2 r q2) λ_ s3 ⟨H3,I3,q3⟩=>?_))));exact wpAny_release ⟨σ,H3,I3,q3⟩
def azu(te:TE)(g:TG):TS:=λD σ H=>te σ H λx H1=>g x σ H1 D.nx
def anu(he:PE X e te)(hg:PG X tg g)(hs:swapsWithSole [tg] e pos.line X.env=pure false:=by rfl)(hw:swappedStores [tg] e X.env=pure none:=by rfl)(h1:(assignEach [tg] X.env).map (·.2)=[assign tg X.env]:=by rfl):PS X (.Assign [tg] e pos) (azu te g):=by intro pins s σ H D I h;refine wpAny_Assign_stores (Bq (he pins s σ H _ I h) λv s1 ⟨x,H1,I1,r1,q1⟩=>?_) hs hw;rw[h1];exact Bq (hg pins s1 σ H1 x v _ I1 r1 q1) λ_ s2 q=>q
def azv(c:TT)(tb:TS):TS:=λD σ H=>∃W:Nat->St->Hp->Prop,(∃m,W m σ H)/\∀m σ H,W m σ H ->
 c σ H λb H1=>if b=true then ∃N:St->Hp->Prop,(∀σ' H',N σ' H'->∃m',m'<m/\W m' σ' H')/\tb { D with nx:=N,ct:=N,bk:=D.nx } σ H1 else D.nx σ H1
def anv(hp:PassesOwn (model X.prog X.w) X.A X.env X.xe)(hc:PT X c tc)(hb:Rx X body tb):PS X (.While c body [] pos) (azv tc tb):=by
 intro pins s σ H D I h;obtain⟨W,⟨m0,w0⟩,turn⟩:=h;refine wpAny_While (codeAny_whileLoop (λn s'=>∃σ' H',Inv X pins σ' H' s'/\W n σ' H') ?_ m0 ⟨σ,H,I,w0⟩);rintro n s1 ⟨σ1,H1,I1,w1⟩;refine t8 hp (Bq (hc pins s1 σ1 H1 _ I1 (turn n σ1 H1 w1)) λb s2 ⟨H2,I2,q2⟩=>?_);cases b with
 |true =>
  obtain⟨N,hN,q2⟩:=q2;rw[cg rfl];refine t8 hp (Bq (hb pins s2 σ1 H2 _ I2 q2) λf s3 q3=>?_);cases f with
  |next =>
   obtain⟨σ3,H3,I3,n3⟩:=q3;obtain⟨m',hm,w3⟩:=hN σ3 H3 n3;exact⟨m',hm,σ3,H3,I3,w3⟩
  |cont =>
   obtain⟨σ3,H3,I3,n3⟩:=q3;obtain⟨m',hm,w3⟩:=hN σ3 H3 n3;exact⟨m',hm,σ3,H3,I3,w3⟩
  |brk=>exact q3|ret v=>exact q3
 |false =>
  rw[bx jc];exact wpAny_execs_nil ⟨σ1,H2,I2,q2⟩
structure It where
 go:Nat->Hp->Prop
 yld:Nat->Hp->V->Hp->Prop
 stop:Nat->Hp->Prop
def Vi(X:Cx)(pins:Zp)(H:Hp)(b:Addr):Prop :=
 H b=none/\b≠X.env.locals/\b∉X.fs/\(b∈X.ex\/X.s₀.heap.objs.size<=b)/\(∀x c,X.env.cells.lookup x=some c->c≠b)/\∀p∈X.pn++pins,p.1≠b
def Inv.anw(I:Inv X pins σ H s)(hb:s.heap.objs.size<=b)(hn:H' b=none):Vi X pins H' b:=by
 refine⟨hn,u0 (gm I.lt hb),I.aza hb,.inr (gn I.sz hb),λx c e z=>?_,λp hp z=>?_⟩
 . obtain⟨v,q⟩:=I.cell x c e
   exact absurd (gm q.lt (by rw[z];exact hb)) (mq _)
 . exact absurd (gm (az (I.pin p hp).1) (by rw[z];exact hb)) (mq _)
structure Turn(P:Program)(w:World)(K:Fg)(tg:Expr)(J:It)(fp:X9)(it:Addr)(tn:Nat->Heap->Prop):Prop where
 mem:it∈fp
 obj:∀i h,tn i h->∀b∈fp,∃o,h.get? b=some o/\∀v,o.data≠.cell v
 keep:∀i h h',tn i h->(∀b∈fp,∀o,h.get? b=some o->h'.get? b=some o)->tn i h'
 item:∀(X:Cx),X.prog=P->X.w=w->X.K=K->X.calm=true->∀(i:Nat)(pins:Zp)(s:Shared)(σ:St)(H:Hp)(E:Y1),Inv X pins σ H s->(∀b∈fp,Vi X pins H b)->tn i s.heap->J.go i H ->
  wpAny (model P w) X.A (pyNext (.ref it)) (λr s1=>∃u,r=some u /\
   wpAny (model P w) X.A (letOwnedTupleGo tg (.ref it) u) (λ_ s2=>∃x H',Inv X pins σ H' s2/\RelV x u/\J.yld i H x H'/\tn (i+1) s2.heap/\∀b∈fp,H' b=none) E s1) E s
 done:∀(X:Cx),X.prog=P->X.w=w->X.K=K->X.calm=true->∀(i:Nat)(pins:Zp)(s:Shared)(σ:St)(H:Hp)(E:Y1),Inv X pins σ H s->(∀b∈fp,Vi X pins H b)->tn i s.heap->J.stop i H ->
  wpAny (model P w) X.A (pyNext (.ref it)) (λr s1=>r=none/\Inv X pins σ H s1) E s
 self:∀(A:Around)(i:Nat)(s:Shared)(Q:Y1)(E:Y1),tn i s.heap->Q (.ref it) s->wpAny (model P w) A (pyIter (.ref it)) Q E s
abbrev TI:=St->Hp->(It->Hp->Prop)->Prop
def PIE(X:Cx)(pins:Zp)(σ:St)(tg:Expr)(R:It->Hp->Prop)(itv:Value)(s2:Shared):Prop :=
 ∃(it:Addr)(fp:X9)(tn:Nat->Heap->Prop)(J:It)(H':Hp),itv=.ref it/\Inv X pins σ H' s2/\Turn X.prog X.w X.K tg J fp it tn/\tn 0 s2.heap/\(∀b∈fp,Vi X pins H' b)/\R J H'
def PI(X:Cx)(tg iter:Expr)(wi:TI):Prop :=
 ∀(pins:Zp)(s:Shared)(σ:St)(H:Hp)(R:It->Hp->Prop),Inv X pins σ H s->wi σ H R ->
  wpAny (model X.prog X.w) X.A (eval iter X.env) (λv s1=>wpAny (model X.prog X.w) X.A (pyIter v) (PIE X pins σ tg R) X.xe s1) X.xe s
def anx(ho:s.heap.get? it=some o)(hc:o.cls=.type n)(hd:o.data=.fields vs)(hn:["enumerate", "zip", "dict_itemiterator", "dict_reverseitemiterator", "odict_iterator", "itertools.zip_longest", "itertools.pairwise"].contains n=false)(hQ:Q () s):wpAny M A (letOwnedTupleGo tg (.ref it) u) Q E s:=by
 unfold letOwnedTupleGo;cases tg<;>first
  |exact aj hQ
  | (cases u<;>first
   |exact aj hQ
   | (refine aa (wpAny_load ho ?_)
      rw[hc,hd];show wpAny M A (if(["enumerate", "zip", "dict_itemiterator", "dict_reverseitemiterator", "odict_iterator", "itertools.zip_longest", "itertools.pairwise"].contains n&&vs[0]?==some (rawInt _))=true then _ else _) Q E s;rw[bx (by intro h;rw[hn,Bool.false_and] at h;cases h)];exact aj hQ))
noncomputable def Itl(K:Fg)(a:Addr):It :=
 ⟨λi H=>∃xs x,Hm K H a xs/\xs[i]?=some x,λi H x H'=>H'=H/\∀xs,Hm K H a xs->xs[i]?=some x,λi H=>∃xs,Hm K H a xs/\xs.length<=i⟩
noncomputable def Itt(K:Fg)(a:Addr):It :=
 ⟨λi H=>∃xs x,Dw K H a xs/\xs[i]?=some x,λi H x H'=>H'=H/\∀xs,Dw K H a xs->xs[i]?=some x,λi H=>∃xs,Dw K H a xs/\xs.length<=i⟩
noncomputable def P0(lo:Int)(n:Nat):It:=⟨λi _=>i<n,λi H x H'=>H'=H/\x=.int (lo+i),λi _=>n<=i⟩
theorem akc{K:Fg}(a it:Addr):Turn P w K tg (Itl K a) [it] it (λi h=>h.IsListIter it a i) where
 mem:=by simp
 obj:=λi h st b hb=>by
  have e:b=it:=by simpa using hb
  subst e;obtain⟨o,e,c,d⟩:=st;exact⟨o,e,λv z=>by rw[d] at z;cases z⟩
 keep:=λi h h' st k=>st.at λo e=>k it (by simp) o e
 item:=by
  intro X hP hw hK hc i pins s σ H E I hf st hg;subst hP hw hK;obtain⟨xs,x,hq,hx⟩:=hg;obtain⟨xq,rv,p,hz⟩:=I.list hq;obtain⟨u,hu,ru⟩:=rv.get hx;obtain⟨f0,f1,f2,f3,f4,f5⟩:=hf it (by simp);refine wpAny_pyNext_list_item st p.isList (x:=u) (by simpa using hu) λh' st' sb=>?_
  have I1:Inv X pins σ H { s with heap:=h' }:=I.turned (t':=s.toks) (λb o hb e=>(sb.2 b hb).trans e) f0 f1 f3 f4 f5;obtain⟨o,e,c,d⟩:=id st';exact⟨u,rfl,anx (s:={ s with heap:=h' }) e c d (by decide) ⟨x,H,I1,ru,⟨rfl,λys hy=>by rw[I.adk hy hq];exact hx⟩,st',λb hb=>(hf b hb).1⟩⟩
 done:=by intro X hP hw hK hc i pins s σ H E I hf st hg;subst hP hw hK;obtain⟨xs,hq,hx⟩:=hg;obtain⟨xq,rv,p,hz⟩:=I.list hq;obtain⟨f0,f1,f2,f3,f4,f5⟩:=hf it (by simp);have hl:=rv.length;exact wpAny_pyNext_list_end (I.ok.hd hc) st p.isList (by simp;exact a_ (g_ hl) hx) λh' eb=>⟨rfl,I.turned (t':=s.toks) (λb o hb e=>eb b o hb e) f0 f1 f3 f4 f5⟩
 self:=λ_ _ _ _ _ st h=>wpAny_pyIter_listiter st h
theorem af9{K:Fg}(a it:Addr):Turn P w K tg (Itt K a) [it] it (λi h=>h.IsTupleIter it a i) where
 mem:=by simp
 obj:=λi h st b hb=>by
  have e:b=it:=by simpa using hb
  subst e;obtain⟨o,e,c,d⟩:=st;exact⟨o,e,λv z=>by rw[d] at z;cases z⟩
 keep:=λi h h' st k=>st.at λo e=>k it (by simp) o e
 item:=by
  intro X hP hw hK hc i pins s σ H E I hf st hg;subst hP hw hK;obtain⟨xs,x,hq,hx⟩:=hg;obtain⟨xq,rv,p,hz⟩:=I.tuple hq;obtain⟨u,hu,ru⟩:=rv.get hx;obtain⟨f0,f1,f2,f3,f4,f5⟩:=hf it (by simp);refine wpAny_pyNext_tuple_item st (show s.heap.IsTuple a xq.toArray from p) (x:=u) (by simpa using hu) λh' st' sb=>?_
  have I1:Inv X pins σ H { s with heap:=h' }:=I.turned (t':=s.toks) (λb o hb e=>(sb.2 b hb).trans e) f0 f1 f3 f4 f5;obtain⟨o,e,c,d⟩:=id st';exact⟨u,rfl,anx (s:={ s with heap:=h' }) e c d (by decide) ⟨x,H,I1,ru,⟨rfl,λys hy=>by rw[I.K6 hy hq];exact hx⟩,st',λb hb=>(hf b hb).1⟩⟩
 done:=by intro X hP hw hK hc i pins s σ H E I hf st hg;subst hP hw hK;obtain⟨xs,hq,hx⟩:=hg;obtain⟨xq,rv,p,hz⟩:=I.tuple hq;obtain⟨f0,f1,f2,f3,f4,f5⟩:=hf it (by simp);have hl:=rv.length;exact wpAny_pyNext_tuple_end (I.ok.hd hc) st (show s.heap.IsTuple a xq.toArray from p) (by simp;exact a_ (g_ hl) hx) λh' eb=>⟨rfl,I.turned (t':=s.toks) (λb o hb e=>eb b o hb e) f0 f1 f3 f4 f5⟩
 self:=λ_ _ _ _ _ st h=>wpAny_pyIter_tupleiter st h
theorem aga{K:Fg}(it:Addr)(lo:Int)(n:Nat):Turn P w K tg (P0 lo n) [it] it (λi h=>IsRangeIter h it (lo+(i:Nat)*1) ((n:Int)-(i:Nat)) 1) where
 mem:=by simp
 obj:=λi h st b hb=>by
  have e:b=it:=by simpa using hb
  subst e;exact⟨_,st,λv z=>by
   have z':Data.fields _=Data.cell v:=z;cases z'⟩
 keep:=λi h h' st k=>k it (by simp) _ st
 item:=by
  intro X hP hw hK hc i pins s σ H E I hf st hg;subst hP hw hK;obtain⟨f0,f1,f2,f3,f4,f5⟩:=hf it (by simp);have W:=Walks.range (prog:=X.prog) (w:=X.w) (I.ok.hd hc) it lo 1 n;refine W.item i s _ _ hg st λv h' tk hv st' kk=>?_
  obtain⟨t,rfl⟩:=hv;have I1:Inv X pins σ H { s with heap:=h',toks:=tk }:=I.turned (λb o hb e=>kk b o (by simpa using hb) e) f0 f1 f3 f4 f5;refine⟨_,rfl,anx (s:={ s with heap:=h',toks:=tk }) (n := "range_iterator") st' rfl rfl (by decide) ⟨.int (lo+i),H,I1,⟨t,?_⟩,⟨rfl,rfl⟩,st',λb hb=>(hf b hb).1⟩⟩;rw[Int.mul_one]
 done:=by intro X hP hw hK hc i pins s σ H E I hf st hg;subst hP hw hK;obtain⟨f0,f1,f2,f3,f4,f5⟩:=hf it (by simp);exact wpAny_pyNext_range_end (I.ok.hd hc) st (by have:n<=i:=hg;lia) λh' eb=>⟨rfl,I.turned (t':=s.toks) (λb o hb e=>eb b o hb e) f0 f1 f3 f4 f5⟩
 self:=λ_ _ _ _ _ st h=>wpAny_pyIter_rangeiter st h
end L2
namespace L2
open PySem PySem.Spec PyProof.Rows
def anz{lo:Int}(I:Inv X pins σ H s)(h1:-(2 ^ 62)<=lo)(h2:lo<2 ^ 62)(h3:-(2 ^ 62)<=hi)(h4:hi<2 ^ 62)(q:R (P0 lo (hi-lo).toNat) H):wpAny (model X.prog X.w) X.A (pyIter (.ref s.heap.objs.size)) (PIE X pins σ tg R) E { s with heap:=s.heap.push { cls:=.type "range",data:=.fields #[.int lo t,.int hi u,.int 1 v] },toks:=tk }:=by
 refine wpAny_pyIter_range (IsRange.new ..) (small_one h1 h2 h3 h4) ?_;have I1:Inv X pins σ H { s with heap:=s.heap.push { cls:=.type "range",data:=.fields #[.int lo t,.int hi u,.int 1 v] },toks:=tk }:=I.kept λb o e=>ao _ e
 refine⟨(s.heap.push { cls:=.type "range",data:=.fields #[.int lo t,.int hi u,.int 1 v] }).objs.size,[(s.heap.push { cls:=.type "range",data:=.fields #[.int lo t,.int hi u,.int 1 v] }).objs.size],_,_,H,rfl,
  I1.kept (t':=tk) λb o e=>ao _ e,aga _ lo (hi-lo).toNat,?_,λb hb=>?_,q⟩
 . have e1:lo+((0:Nat):Int)*1=lo:=by simp
   have e2:(((hi-lo).toNat:Nat):Int)-((0:Nat):Int)=Builtin.Range.rangeSize lo hi 1:=by rw[rangeSize_one];split<;>lia
   show IsRangeIter _ _ (lo+((0:Nat):Int)*1) ((((hi-lo).toNat:Nat):Int)-((0:Nat):Int)) 1;rw[e1,e2];exact bf _ rfl
 . have e:b=(s.heap.push { cls:=.type "range",data:=.fields #[.int lo t,.int hi u,.int 1 v] }).objs.size:=by simpa using hb
   subst e;exact I1.anw (bc _) (I1.An.fresh (bc _))
def a6o(ta:TA):TI:=fun σ H R=>ta σ H λvs H1=>∃j:Int,vs=[.int j]/\-(2 ^ 62)<=j/\j<2 ^ 62/\R (P0 0 j.toNat) H1
def akd{X:Cx}{tg:Expr}(hg:Gl X "range")(hm:X.mg "range" = none)(ha:PA X [a] ta)(hs:starEach [a] X.env=[(false,eval a X.env)]:=by rfl):PI X tg (.Call (.Name "range" p) [a] [] pos) (a6o ta):=by
 intro pins s σ H R I h;refine Call_ (Dr I hg hm boot_range (je (Bq (ha pos pins s σ H _ I h) λus s1 ⟨vs,H1,I1,r1,q1⟩=>?_) hs rfl));obtain⟨j,e,q1,q2,q⟩:=q1;subst e;cases r1 with
 |cons r rr =>
  cases rr;obtain⟨t,rfl⟩:=r;exact call_range_1 (anz I1 (by lia) (by lia) q1 q2 (by simpa using q))
def bdq(wi:TI)(g:TG)(tb:TS):TS:=λD σ H=>wi σ H λJ H1=>∃W:Nat->Nat->St->Hp->Prop,(∃m,W 0 m σ H1)/\∀i m σ H,W i m σ H ->
 (J.stop i H/\D.nx σ H)\/(J.go i H/\∃N:St->Hp->Prop,(∀σ' H',N σ' H'->∃m',m'<m/\W (i+1) m' σ' H')/\∀x H',J.yld i H x H'->g x σ H' fun σ2 H2=>tb { D with nx:=N,ct:=N,bk:=D.nx } σ2 H2)
noncomputable def T5(fp:X9)(h:Heap):List (Addr×Obj):=fp.filterMap λb=>(h.get? b).map λo=>(b,o)
def Mj(hb:b∈fp)(e:h.get? b=some o):(b,o)∈T5 fp h:=List.mem_filterMap.mpr ⟨b,hb,by rw[e];rfl⟩
def ake(hp:p∈T5 fp h):p.1∈fp/\h.get? p.1=some p.2:=by
 obtain⟨b,hb,e⟩:=List.mem_filterMap.mp hp;cases q:h.get? b with
 |none=>rw[q] at e;cases e
 |some o =>
  rw[q] at e;have e':(b,o)=p:=jq e;subst e';exact⟨hb,q⟩
def Inv.pinned{X:Cx}(I:Inv X pins σ H s)(hf:∀b∈fp,Vi X pins H b)(ho:∀b∈fp,∃o,s.heap.get? b=some o/\∀v,o.data≠.cell v):Inv X (pins++T5 fp s.heap) σ H s :=
 I.Rv λp hp=>(dj.mp hp).elim (λz=>I.pin p (iu _ z)) λz=>by obtain⟨hb,e⟩:=ake z;obtain⟨f0,f1,f2,_⟩:=hf p.1 hb;obtain⟨o,e',d⟩:=ho p.1 hb;rw[e] at e';cases e';exact⟨e,f0,f1,f2,d⟩
def Inv.Ox{X:Cx}(I:Inv X (pins++pl) σ H s):Inv X pins σ H s:=I.Rv λp hp=>I.pin p (iu _ (yg _ hp))
def azw{X:Cx}{tg:Expr}(hp:PassesOwn (model X.prog X.w) X.A X.env X.xe)(hc:X.calm=true)(hi:PI X tg iter wi)(hg:PG X tg g)(hb:Rx X body tb)(hs:∀x,foldedSetIterable iter X.env x=pure x:=by intro _;rfl):PS X (.For tg iter body [] pos) (bdq wi g tb):=by
 intro pins s σ H D I h;refine wpAny_For (Bq (hi pins s σ H _ I h) λv s1 h1=>Bq h1 λitv s2 h2=>?_) hs;obtain⟨it,fp,tn,J,H2,e,I2,T,st2,f2,W,⟨m0,w0⟩,turn⟩:=h2;subst e;have agb:∀{H':Hp},(∀b∈fp,H' b=none)->∀b∈fp,Vi X pins H' b:=λhn b hb=>⟨hn b hb,(f2 b hb).2⟩
 refine codeAny_forLoop_any (λn s'=>∃i σ' H',Inv X pins σ' H' s'/\tn i s'.heap/\(∀b∈fp,H' b=none)/\W i n σ' H') ?_ m0 ⟨0,σ,H2,I2,st2,λb hb=>(f2 b hb).1,w0⟩;rintro n s3 ⟨i,σ3,H3,I3,st3,fr3,w3⟩;rcases turn i n σ3 H3 w3 with⟨stop,qn⟩|⟨go,N,hN,step⟩
 . refine t8 hp (Bq (T.done X rfl rfl rfl hc i pins s3 σ3 H3 X.xe I3 (agb fr3) st3 stop) λr s4 ⟨hr,I4⟩=>?_)
   subst hr;exact wpAny_execs_nil ⟨σ3,H3,I4,qn⟩
 . refine t8 hp (Bq (T.item X rfl rfl rfl hc i pins s3 σ3 H3 X.xe I3 (agb fr3) st3 go) λr s4 ⟨u,hr,h4⟩=>?_)
   subst hr;refine t8 hp (Bq h4 λ_ s5 ⟨x,H5,I5,r5,y5,st5,fr5⟩=>?_);have I5':=I5.pinned (agb fr5) (T.obj _ _ st5);refine t8 hp (Bq (hg _ s5 σ3 H5 x u _ I5' r5 (step x H5 y5)) λ_ s6 ⟨σ6,H6,I6,q6⟩=>?_);refine t8 hp (Bq (hb _ s6 σ6 H6 _ I6 q6) λf s7 q7=>?_);have again:∀{σ7:St}{H7:Hp},Inv X (pins++T5 fp s5.heap) σ7 H7 s7->N σ7 H7->∃m,m<n/\∃i σ' H',Inv X pins σ' H' s7/\tn i s7.heap/\(∀b∈fp,H' b=none)/\W i m σ' H':=fun{σ7 H7} I7 n7=>by obtain⟨m',hm,w7⟩:=hN σ7 H7 n7;refine⟨m',hm,i+1,σ7,H7,I7.Ox,T.keep _ _ _ st5 λb hb o e=>(I7.pin (b,o) (iu _ (iu _ (Mj hb e)))).1,λb hb=>?_,w7⟩;obtain⟨o,e,d⟩:=T.obj _ _ st5 b hb;exact(I7.pin (b,o) (iu _ (iu _ (Mj hb e)))).2.1
   cases f with
   |next=>obtain⟨σ7,H7,I7,n7⟩:=q7;exact again I7 n7
   |cont=>obtain⟨σ7,H7,I7,n7⟩:=q7;exact again I7 n7
   |brk=>obtain⟨σ7,H7,I7,q7⟩:=q7;exact⟨σ7,H7,I7.Ox,q7⟩
   |ret v=>obtain⟨x7,σ7,H7,I7,r7,q7⟩:=q7;exact⟨x7,σ7,H7,I7.Ox,r7,q7⟩
end L2
namespace L2
open PySem PySem.Spec PyProof.Rows
abbrev R2:=V->V->Hp->VK->Prop
def Cz(X:Cx)(f:Value->Value->Sem Value)(r:R2):Prop :=
 ∀(pins:Zp)(s:Shared)(σ:St)(H:Hp)(x y:V)(v u:Value)(Q:VK),Inv X pins σ H s->RelV x v->RelV y u->r x y H Q ->
  wpAny (model X.prog X.w) X.A (f v u) (EP X pins σ Q) X.xe s
def UnR(X:Cx)(f:Value->Sem Value)(r:V->Hp->VK->Prop):Prop :=
 ∀(pins:Zp)(s:Shared)(σ:St)(H:Hp)(x:V)(v:Value)(Q:VK),Inv X pins σ H s->RelV x v->r x H Q ->
  wpAny (model X.prog X.w) X.A (f v) (EP X pins σ Q) X.xe s
def Bx(X:Cx)(f:Value)(r:List V->Hp->VK->Prop):Prop :=
 ∀(pins:Zp)(s:Shared)(σ:St)(H:Hp)(xs:List V)(us:Zl)(Q:VK),Inv X pins σ H s->Vals xs us->r xs H Q ->
  wpAny (model X.prog X.w) X.A (call f us) (EP X pins σ Q) X.xe s
def tOp(r:R2)(ta tb:TE):TE:=fun σ H Q=>ta σ H λx H1=>tb σ H1 λy H2=>r x y H2 Q
def tUn(r:V->Hp->VK->Prop)(ta:TE):TE:=fun σ H Q=>ta σ H λx H1=>r x H1 Q
def rI(C:Int->Int->Prop)(g:Int->Int->V):R2:=λx y H Q=>∃i j,x=.int i/\y=.int j/\C i j/\Q (g i j) H
def rI0(g:Int->Int->V):R2:=λx y H Q=>∃i j,x=.int i/\y=.int j/\Q (g i j) H
def rU(g:Int->V):V->Hp->VK->Prop:=λx H Q=>∃i,x=.int i/\Q (g i) H
def azy{X:Cx}{a b:Expr}{ta tb:TE}(ha:PE X a ta)(hb:PE X b tb){pins:Zp}{s:Shared}{σ:St}{H:Hp}{R:V->V->Hp->Prop}(I:Inv X pins σ H s)
 (h:ta σ H λx H1=>tb σ H1 λy H2=>R x y H2) {Q:Y1} {f:Value->Value->Sem Value}
 (hf:∀v u s2 x y H2,Inv X pins σ H2 s2->RelV x v->RelV y u->R x y H2->wpAny (model X.prog X.w) X.A (f v u) Q X.xe s2) :
 wpAny (model X.prog X.w) X.A (eval a X.env) (λv s₁=>wpAny (model X.prog X.w) X.A (eval b X.env) (λu s₂=>wpAny (model X.prog X.w) X.A (f v u) Q X.xe s₂) X.xe s₁) X.xe s:=by
 refine Bq (ha pins s σ H _ I h) λv s1 ⟨x,H1,I1,r1,q1⟩=>?_
 refine Bq (hb pins s1 σ H1 _ I1 q1) λu s2 ⟨y,H2,I2,r2,q2⟩=>?_
 exact hf v u s2 x y H2 I2 r1 r2 q2
def a6q{X:Cx}{a b:Expr}{ta tb:TE}{pos:Pos}{op:Operator}{r:R2}(ho:Cz X (binaryOp op) r)(ha:PE X a ta)(hb:PE X b tb):PE X (.BinOp a op b pos) (tOp r ta tb):=by intro pins s σ H Q I h;exact wpAny_BinOp (azy ha hb I h λv u s2 x y H2 I2 rx ry q=>ho pins s2 σ H2 x y v u Q I2 rx ry q)
def a6r{X:Cx}{a:Expr}{ta:TE}{pos:Pos}{op:UnaryOp}{r:V->Hp->VK->Prop}(ho:UnR X (unaryOp op) r)(ha:PE X a ta):PE X (.UnaryOp op a pos) (tUn r ta):=by intro pins s σ H Q I h;exact UnaryOp_ (Bq (ha pins s σ H _ I h) λv s1 ⟨x,H1,I1,r1,q1⟩=>ho pins s1 σ H1 x v Q I1 r1 q1)
def opI{X:Cx}{f:Value->Value->Sem Value}{C:Int->Int->Prop}{g:Int->Int->Int}
 (rule:∀(i j:Int)(t u:Tok)(s:Shared)(Q:Y1)(E:Y1),C i j->Q (.int (g i j) s.toks) { s with toks:=s.toks+1 }->wpAny (model X.prog X.w) X.A (f (.int i t) (.int j u)) Q E s) :
 Cz X f (rI C λi j=>.int (g i j)):=by
 intro pins s σ H x y v u Q I rx ry h;obtain⟨i,j,rfl,rfl,hc,q⟩:=h;obtain⟨t,rfl⟩:=rx;obtain⟨t',rfl⟩:=ry;exact rule i j t t' s _ _ hc ⟨.int (g i j),H,I.tok _,⟨_,rfl⟩,q⟩
def a6s{X:Cx}{f:Value->Value->Sem Value}{g:Int->Int->Int}
 (rule:∀(i j:Int)(t u:Tok)(s:Shared)(Q:Y1)(E:Y1),Q (.int (g i j) s.toks) { s with toks:=s.toks+1 }->wpAny (model X.prog X.w) X.A (f (.int i t) (.int j u)) Q E s) :
 Cz X f (rI0 λi j=>.int (g i j)):=by
 intro pins s σ H x y v u Q I rx ry h;obtain⟨i,j,rfl,rfl,q⟩:=h;obtain⟨t,rfl⟩:=rx;obtain⟨t',rfl⟩:=ry;exact rule i j t t' s _ _ ⟨.int (g i j),H,I.tok _,⟨_,rfl⟩,q⟩
def atr{X:Cx}{f:Value->Value->Sem Value}{g:Int->Int->Bool}
 (rule:∀(i j:Int)(t u:Tok)(s:Shared)(Q:Y1)(E:Y1),Q (.bool (g i j)) s->wpAny (model X.prog X.w) X.A (f (.int i t) (.int j u)) Q E s) :
 Cz X f (rI0 λi j=>.bl (g i j)):=by
 intro pins s σ H x y v u Q I rx ry h;obtain⟨i,j,rfl,rfl,q⟩:=h;obtain⟨t,rfl⟩:=rx;obtain⟨t',rfl⟩:=ry;exact rule i j t t' s _ _ ⟨.bl (g i j),H,I,rfl,q⟩
def bdu(i j:Int):Prop:=0<j/\j<1073741824
def bdv(i j:Int):Prop:=0<=j/\j<=1000000/\i.natAbs<2 ^ 64
def atu(i j:Int):Prop:=(-(2 ^ 64)<i/\i<2 ^ 64)\/(-(2 ^ 64)<j/\j<2 ^ 64)
def atu.ok{i j:Int}(h:atu i j):IntMulOk i j:=by
 rcases h with⟨h1,h2⟩|⟨h1,h2⟩
 . exact .of_left (intBits_le_64 h1 h2)
 . exact .of_right (intBits_le_64 h1 h2)
def azz{X:Cx}:Cz X (binaryOp .Add) (rI0 λi j=>.int (i+j)):=a6s λ_ _ _ _ _ _ _ q=>add_int q
def az0{X:Cx}:Cz X (binaryOp .Sub) (rI0 λi j=>.int (i-j)):=a6s λ_ _ _ _ _ _ _ q=>sub_int q
def az1{X:Cx}:Cz X (binaryOp .Mult) (rI atu λi j=>.int (i*j)):=opI λ_ _ _ _ _ _ _ hc q=>mul_int q hc.ok
def atv{X:Cx}:Cz X (binaryOp .FloorDiv) (rI bdu λi j=>.int (i / j)):=opI λi j _ _ _ _ _ hc q=>by
 have h1:(0:Int)<j:=hc.1
 have h2:j<1073741824:=hc.2
 exact floordiv_int (by lia) (by rw[Int.fdiv_eq_ediv_of_nonneg i (by lia)];exact q) (.inl (PyProof.noPylong_small (by omega)))
def az2{X:Cx}:Cz X (binaryOp .Mod) (rI (λ_ j=>0<j) λi j=>.int (i%j)):=opI λi j _ _ _ _ _ hc q=>by
 have h1:(0:Int)<j:=hc
 exact mod_int' (by lia) (by rw[Int.fmod_eq_emod_of_nonneg i (by lia)];exact q)
def az3{X:Cx}:Cz X (binaryOp .Pow) (rI bdv λi j=>.int (i ^ j.toNat)):=opI λ_ _ _ _ _ _ _ hc q=>pow_int_small hc.1 hc.2.1 hc.2.2 q
def unI{X:Cx}{f:Value->Sem Value}{g:Int->Int}
 (rule:∀(i:Int)(t:Tok)(s:Shared)(Q:Y1)(E:Y1),Q (.int (g i) s.toks) { s with toks:=s.toks+1 }->wpAny (model X.prog X.w) X.A (f (.int i t)) Q E s) :
 UnR X f (rU λi=>.int (g i)):=by
 intro pins s σ H x v Q I rx h;obtain⟨i,rfl,q⟩:=h;obtain⟨t,rfl⟩:=rx;exact rule i t s _ _ ⟨.int (g i),H,I.tok _,⟨_,rfl⟩,q⟩
def az4{X:Cx}:UnR X (unaryOp .USub) (rU λi=>.int (-i)):=unI λ_ _ _ _ _ q=>neg_int q
noncomputable def az5:V->V->Bool
 |.non,.non=>true|.non,.int _=>true|.int _,.non=>true|.non,.bl _=>true|.bl _,.non=>true|.non,.str _=>true|.str _,.non=>true
 |.int _,.int _=>true|.bl _,.bl _=>true|.str _,.str _=>true|.byt _,.byt _=>true
 |.int _,.str _=>true|.str _,.int _=>true|.bl _,.str _=>true|.str _,.bl _=>true
 |_,_=>false
def rEq:R2:=λx y H Q=>az5 x y=true/\Q (.bl (decide (x=y))) H
def rNe:R2:=λx y H Q=>az5 x y=true/\Q (.bl (!decide (x=y))) H
def ah2{i j:Int}:decide (V.int i=V.int j)=(i==j):=by rw[zq];simp
def aoa{i j:Bool}:decide (V.bl i=V.bl j)=(i==j):=by rw[zq];simp
def ah3{i j:Str}:decide (V.str i=V.str j)=(i==j):=by rw[zq];simp
def ah4{i j:Array UInt8}:decide (V.byt i=V.byt j)=(i.toList==j.toList):=by rw[zq];cases i;cases j;simp
def yf{X:Cx}{pins:Zp}{σ:St}{H:Hp}{s:Shared}{Q:VK}{k k':Bool}(I:Inv X pins σ H s)(q:Q (.bl k) H)(e:k=k'):EP X pins σ Q (.bool k') s:=by subst e;exact⟨.bl k,H,I,rfl,q⟩
def a6t{X:Cx}:Cz X (compareOp .Eq) rEq:=by
 intro pins s σ H x y v u Q I rx ry h;obtain⟨hs,q⟩:=h;cases x with
 |non =>
  cases rx;cases y with
  |non=>cases ry;exact PySem.EqNone.eq_none_none (yf I q (by simp))|bl j=>cases ry;exact PySem.EqNone.eq_none_bool (yf I q (by simp))|int j=>obtain⟨t',rfl⟩:=ry;exact PySem.EqNone.eq_none_int (yf I q (by simp))
  |str j=>obtain⟨t',rfl⟩:=ry;exact PySem.EqNone.eq_none_str (yf I q (by simp))
  |_=>exact absurd (show false=true from hs) jc
 |bl i =>
  cases rx;cases y with
  |non=>cases ry;exact PySem.EqNone.eq_bool_none (yf I q (by simp))|bl j=>cases ry;exact eq_bool (yf I q aoa)|str j=>obtain⟨t',rfl⟩:=ry;exact PySem.EqMixed.eq_bool_str (yf I q (by simp))
  |_=>exact absurd (show false=true from hs) jc
 |int i =>
  obtain⟨t,rfl⟩:=rx;cases y with
  |non=>cases ry;exact PySem.EqNone.eq_int_none (yf I q (by simp))|int j=>obtain⟨t',rfl⟩:=ry;exact eq_int (yf I q ah2)
  |str j=>obtain⟨t',rfl⟩:=ry;exact PySem.EqMixed.eq_int_str (yf I q (by simp))
  |_=>exact absurd (show false=true from hs) jc
 |str i =>
  obtain⟨t,rfl⟩:=rx;cases y with
  |non=>cases ry;exact PySem.EqNone.eq_str_none (yf I q (by simp))|bl j=>cases ry;exact PySem.EqMixed.eq_str_bool (yf I q (by simp))|int j=>obtain⟨t',rfl⟩:=ry;exact PySem.EqMixed.eq_str_int (yf I q (by simp))
  |str j=>obtain⟨t',rfl⟩:=ry;exact eq_str (yf I q ah3)
  |_=>exact absurd (show false=true from hs) jc
 |byt i =>
  obtain⟨t,rfl⟩:=rx;cases y with
  |byt j=>obtain⟨t',rfl⟩:=ry;exact PySem.W.eq_bytes (yf I q ah4)
  |_=>exact absurd (show false=true from hs) jc
 |_=>cases y<;>exact absurd (show false=true from hs) jc
def a6u{X:Cx}:Cz X (compareOp .NotEq) rNe:=by
 intro pins s σ H x y v u Q I rx ry h;obtain⟨hs,q⟩:=h;cases x with
 |non =>
  cases rx;cases y with
  |non=>cases ry;exact PySem.EqNone.ne_none_none (yf I q (by simp))|bl j=>cases ry;exact PySem.EqNone.ne_none_bool (yf I q (by simp))|int j=>obtain⟨t',rfl⟩:=ry;exact PySem.EqNone.ne_none_int (yf I q (by simp))
  |str j=>obtain⟨t',rfl⟩:=ry;exact PySem.EqNone.ne_none_str (yf I q (by simp))
  |_=>exact absurd (show false=true from hs) jc
 |bl i =>
  cases rx;cases y with
  |non=>cases ry;exact PySem.EqNone.ne_bool_none (yf I q (by simp))|bl j=>cases ry;exact ne_bool (yf I q (qj not aoa))|str j=>obtain⟨t',rfl⟩:=ry;exact PySem.EqMixed.ne_bool_str (yf I q (by simp))
  |_=>exact absurd (show false=true from hs) jc
 |int i =>
  obtain⟨t,rfl⟩:=rx;cases y with
  |non=>cases ry;exact PySem.EqNone.ne_int_none (yf I q (by simp))|int j=>obtain⟨t',rfl⟩:=ry;exact ne_int (yf I q (qj not ah2))
  |str j=>obtain⟨t',rfl⟩:=ry;exact PySem.EqMixed.ne_int_str (yf I q (by simp))
  |_=>exact absurd (show false=true from hs) jc
 |str i =>
  obtain⟨t,rfl⟩:=rx;cases y with
  |non=>cases ry;exact PySem.EqNone.ne_str_none (yf I q (by simp))|bl j=>cases ry;exact PySem.EqMixed.ne_str_bool (yf I q (by simp))|int j=>obtain⟨t',rfl⟩:=ry;exact PySem.EqMixed.ne_str_int (yf I q (by simp))
  |str j=>obtain⟨t',rfl⟩:=ry;exact ne_str (yf I q (qj not ah3))
  |_=>exact absurd (show false=true from hs) jc
 |byt i =>
  obtain⟨t,rfl⟩:=rx;cases y with
  |byt j=>obtain⟨t',rfl⟩:=ry;exact PySem.W.ne_bytes (yf I q (qj not ah4))
  |_=>exact absurd (show false=true from hs) jc
 |_=>cases y<;>exact absurd (show false=true from hs) jc
def a6v{X:Cx}:Cz X (compareOp .Lt) (rI0 λi j=>.bl (decide (i<j))):=atr λ_ _ _ _ _ _ _ q=>lt_int q
def a6w{X:Cx}:Cz X (compareOp .LtE) (rI0 λi j=>.bl (decide (i<=j))):=atr λ_ _ _ _ _ _ _ q=>le_int q
def a6x{X:Cx}:Cz X (compareOp .Gt) (rI0 λi j=>.bl (decide (j<i))):=atr λ_ _ _ _ _ _ _ q=>gt_int q
def a6y{X:Cx}:Cz X (compareOp .GtE) (rI0 λi j=>.bl (decide (j<=i))):=atr λ_ _ _ _ _ _ _ q=>ge_int q
def Cz.or{X:Cx}{f:Value->Value->Sem Value}{r r':R2}(h:Cz X f r)(h':Cz X f r'):Cz X f (λx y H Q=>r x y H Q\/r' x y H Q):=by
 intro pins s σ H x y v u Q I rx ry q;rcases q with q|q
 . exact h pins s σ H x y v u Q I rx ry q
 . exact h' pins s σ H x y v u Q I rx ry q
def atw{X:Cx}{a b:Expr}{ta tb:TE}{pos:Pos}{op:CmpOp}{r:R2}(ho:Cz X (compareOp op) r)(ha:PE X a ta)(hb:PE X b tb)(hm:behindInMarks op b=false):PE X (.Compare a [op] [b] pos) (tOp r ta tb):=by intro pins s σ H Q I h;exact wpAny_Compare1 (azy ha hb I h λv u s2 x y H2 I2 rx ry q=>ho pins s2 σ H2 x y v u Q I2 rx ry q) hm
def aw8(t:TE):TT:=fun σ H Q=>t σ H λx H'=>∃k,x=.bl k/\Q k H'
def atx{X:Cx}{a b:Expr}{ta tb:TE}{pos:Pos}{op:CmpOp}{r:R2}(ho:Cz X (compareOp op) r)(ha:PE X a ta)(hb:PE X b tb)(hm:behindInMarks op b=false):PT X (.Compare a [op] [b] pos) (aw8 (tOp r ta tb)):=by
 intro pins s σ H Q I h;refine wpAny_isTrue_Compare1 (Bq (ha pins s σ H _ I h) λv s1 ⟨x,H1,I1,r1,q1⟩=>Bq (hb pins s1 σ H1 _ I1 q1) λu s2 ⟨y,H2,I2,r2,q2⟩ =>
  Bq (ho pins s2 σ H2 x y v u _ I2 r1 r2 q2) λc s3 ⟨z,H3,I3,r3,k,e,q3⟩=>?_) hm
 subst e;cases r3;exact j9 ⟨H3,I3,q3⟩
def aa8(r r':R2)(ta tb tc:TE):TE:=fun σ H Q=>ta σ H λx H1=>tb σ H1 λy H2=>r x y H2 λz H3=>∃k,z=.bl k /\
 (if k=true then tc σ H3 λw' H4=>r' y w' H4 Q else Q (.bl false) H3)
def aob{X:Cx}{a b c:Expr}{ta tb tc:TE}{pos:Pos}{op op':CmpOp}{r r':R2}(ho:Cz X (compareOp op) r)(ho':Cz X (compareOp op') r')(ha:PE X a ta)(hb:PE X b tb)(hc:PE X c tc)
 (hm:lastMarks [op,op'] [b,c]=false:=by with_unfolding_all rfl):PE X (.Compare a [op,op'] [b,c] pos) (aa8 r r' ta tb tc):=by
 intro pins s σ H Q I h;refine Compare_chain (Bq (ha pins s σ H _ I h) λv s1 ⟨x,H1,I1,r1,q1⟩=>chain_link (Bq (hb pins s1 σ H1 _ I1 q1) λu s2 ⟨y,H2,I2,r2,q2⟩ =>
  Bq (ho pins s2 σ H2 x y v u _ I2 r1 r2 q2) λd s3 ⟨z,H3,I3,r3,k,e,q3⟩=>?_)) hm
 subst e;cases r3;refine j9 ?_;cases k with
 |false=>exact ite_ff ⟨.bl false,H3,I3,rfl,q3⟩|true=>exact ite_tt (chain_last (Bq (hc pins s3 σ H3 _ I3 q3) λw' s4 ⟨z',H4,I4,r4,q4⟩=>ho' pins s4 σ H4 y z' u w' Q I4 r2 r4 q4))
def aoc{X:Cx}{a b c:Expr}{ta tb tc:TE}{pos:Pos}{op op':CmpOp}{r r':R2}(ho:Cz X (compareOp op) r)(ho':Cz X (compareOp op') r')(ha:PE X a ta)(hb:PE X b tb)(hc:PE X c tc)
 (hm:lastMarks [op,op'] [b,c]=false:=by with_unfolding_all rfl):PT X (.Compare a [op,op'] [b,c] pos) (aw8 (aa8 r r' ta tb tc)):=by
 intro pins s σ H Q I h;refine isTrue_chain (Bq (ha pins s σ H _ I h) λv s1 ⟨x,H1,I1,r1,q1⟩=>test_link (Bq (hb pins s1 σ H1 _ I1 q1) λu s2 ⟨y,H2,I2,r2,q2⟩ =>
  Bq (ho pins s2 σ H2 x y v u _ I2 r1 r2 q2) λd s3 ⟨z,H3,I3,r3,k,e,q3⟩=>?_)) hm
 subst e;cases r3;refine j9 ?_;cases k with
 |false =>
  obtain⟨k',e',q'⟩:=q3;cases e';exact ite_ff ⟨H3,I3,q'⟩
 |true =>
  refine ite_tt (test_last (Bq (hc pins s3 σ H3 _ I3 q3) λw' s4 ⟨z',H4,I4,r4,q4⟩=>Bq (ho' pins s4 σ H4 y z' u w' _ I4 r2 r4 q4) λd' s5 ⟨z2,H5,I5,r5,k2,e2,q5⟩=>?_));subst e2;cases r5;exact j9 ⟨H5,I5,q5⟩
def aa9:(sizeLine:Nat)<2 ^ 63:=by rw[qm];decide
def vals1{x:V}{us:Zl}(r:Vals [x] us):∃u,us=[u]/\RelV x u:=by
 cases r with
 |cons r1 r2=>cases r2;exact⟨_,rfl,r1⟩
def vals2{x y:V}{us:Zl}(r:Vals [x,y] us):∃u w',us=[u,w']/\RelV x u/\RelV y w':=by
 cases r with
 |cons r1 r2 =>
  cases r2 with
  |cons r3 r4=>cases r4;exact⟨_,_,rfl,r1,r3⟩
def akf{X:Cx}(hc:X.calm=true):Bx X (.builtin "max") (λxs H Q=>∃i j,xs=[.int i,.int j]/\Q (.int (if j > i then j else i)) H):=by
 intro pins s σ H xs us Q I r h;obtain⟨i,j,rfl,q⟩:=h;obtain⟨u,w',rfl,⟨t,rfl⟩,⟨t',rfl⟩⟩:=vals2 r;refine max_two_ints (I.ok.hd hc) λh' tk k=>⟨_,H,I.kept k,?_,q⟩
 by_cases hj:j > i
 . rw[cg hj,cg hj];exact⟨_,rfl⟩
 . rw[bx hj,bx hj];exact⟨_,rfl⟩
def akg{X:Cx}(hc:X.calm=true):Bx X (.builtin "min") (λxs H Q=>∃i j,xs=[.int i,.int j]/\Q (.int (if j<i then j else i)) H):=by
 intro pins s σ H xs us Q I r h;obtain⟨i,j,rfl,q⟩:=h;obtain⟨u,w',rfl,⟨t,rfl⟩,⟨t',rfl⟩⟩:=vals2 r;refine min_two_ints (I.ok.hd hc) λh' tk k=>⟨_,H,I.kept k,?_,q⟩
 by_cases hj:j<i
 . rw[cg hj,cg hj];exact⟨_,rfl⟩
 . rw[bx hj,bx hj];exact⟨_,rfl⟩
end L2
namespace L2
open PySem PySem.Spec PyProof.Rows
structure agc(h:Heap)(x dx C:Addr)(mA:Zs):Prop where
 obj:h.get? x=some (PySem.W.instObj C dx)
 ns:h.Ns1 dx mA
 ne:dx≠x
set_option tactic.hygienic true in
def akh{h:Heap}{dx:Addr}{mA:Zs}(n:h.Ns1 dx mA):∃od,h.get? dx=some od/\∀name,PySem.W.lookIn name od=some (mA name):=by
 obtain⟨o,es,ep,ho,hd,hk,_,hm⟩:=n;refine⟨o,ho,λname=>?_⟩;have e:=hm name;unfold nsFind findBy at e;rw[<- Array.find?_toList] at e;unfold PySem.W.lookIn;rw[hd];dsimp only;split
 . rename_i y q
   rw[q] at e;exact qj some e
 . rename_i q
   rw[q] at e;have a:es.toList.any (·.refKey)=false:=by rw[List.any_eq_false];intro y hy;obtain⟨z,t,ayd⟩:=hk y (Array.mem_toList_iff.mp hy);simp[DictEntry.refKey,ayd]
   have a':¬es.toList.any (·.refKey)=true:=by rw[a];exact jc
   rw[bx a'];exact qj some e
def agc.look{h:Heap}{x dx C:Addr}{mA:Zs}(I:agc h x dx C mA):∃od,PySem.W.InstAt h x (PySem.W.instObj C dx) C (some od)/\∀name,PySem.W.lookIn name od=some (mA name) :=
 let ⟨od,ho,hl⟩:=akh I.ns
 ⟨od,⟨I.obj,rfl,rfl,ho⟩,hl⟩
def get_map{prog:Program}{w:World}{A:Around}{E:Y1}{s:Shared}{K:Fg}{x dx C:Addr}{mA:Zs}{name:Str}{v:Value}{expr:Bool}{Q:Y1}(X:K.In s.heap)(I:agc s.heap x dx C mA)(hg:PySem.W.plainGet K C name=true)(hh:PySem.W.hasDictIn K C=true)
 (ha:PySem.W.findIn K (.ref C) name=some none) (hv:mA name=some v) (hv':PySem.W.handedIn v=true) (h:Q v { s with toks:=s.toks+1 }) :
 wpAny (model prog w) A (getAttr (.ref x) name expr) Q E s:=by
 obtain⟨od,J,hl⟩:=I.look;exact PySem.W.get_value X J (PySem.W.plainGet_of hg).1 (PySem.W.findObj_own hh ha rfl (by rw[hl,hv])) hv' h
def aod{prog:Program}{w:World}{A:Around}{E:Y1}{s:Shared}{K:Fg}{x dx C f:Addr}{mA:Zs}{name:Str}{pl:Sem Bool}{Q:Value×List Value->Shared->Prop}(X:K.In s.heap)(I:agc s.heap x dx C mA)(hg:PySem.W.plainGet K C name=true)
 (hf:PySem.W.findIn K (.ref C) name=some (some (.ref f))) (ht:PySem.W.isFn K (.ref f)=true) (hv:mA name=none) (h:Q (.ref f,[.ref x]) s) :
 wpAny (model prog w) A (getMethod (.ref x) name pl) Q E s:=by
 obtain⟨od,J,hl⟩:=I.look;exact PySem.W.method_fn X J (PySem.W.plainGet_of hg).1 (PySem.W.plainGet_of hg).2 hf (beq_iff_eq.mp ht) (by show(PySem.W.lookIn name od).map (·.isSome)=some false;rw[hl,hv];rfl) h
def aty{prog:Program}{w:World}{A:Around}{E:Y1}{s:Shared}{K:Fg}{x dx C:Addr}{mA:Zs}{name:Str}{v:Value}{ns:Yf}{Q:Unit->Shared->Prop}(X:K.In s.heap)(I:agc s.heap x dx C mA)
 (hs:PySem.W.findIn K (.ref C) "__setattr__" = some (some (.builtin "object.__setattr__"))) (hp:PySem.W.plainOver K C=true) (ht:PySem.W.takerIn K C name=some none) (hh:PySem.W.hasDictIn K C=true)
 (hw:PySem.Within mA ns) (hsz:ns.length<=sizeLine)
 (h:∀h',agc h' x dx C (λy=>if y=name then some v else mA y)->Heap.SameBut dx s.heap h'->Q () { s with heap:=h',toks:=s.toks+2 }) :
 wpAny (model prog w) A (setAttr (.ref x) name v) Q E s:=by
 obtain⟨od,J,hl⟩:=I.look;refine PySem.W.set_plain X J hs (PySem.W.osa_open (s:={ s with toks:=s.toks+1 }) (r:=none) X J hp ht λb=>?_);obtain⟨cd,hc,hd'⟩:=PySem.W.any_some hh;have hx:s.heap.get? x=some ⟨.ref C,some dx,.plain,#[]⟩:=I.obj;refine aa (aj (aa (aa (wpAny_loadPart hx (aa (PySem.W.Looks.here (s:={ s with toks:=s.toks+1 }) (PySem.W.looks_clsIn X hc) ?_))))));rw[hd'];refine aj (a:=some dx) (aa (aj (aa ?_)));refine wpAny_nsSet1 (s:={ s with toks:=s.toks+1 }) I.ns λh' Yh hs2=>?_
 obtain⟨oD,esD,epD,hoD,hdD,hcD⟩:=Yh.count (PySem.Within.cons name v hw);refine aa (wpAny_lookBehind hoD (by rw[hdD];exact pastItsLine_dict (gn hcD (by rw[gr];exact v_ hsz))) ?_);exact aj (h _ ⟨(hs2.2 _ (jz I.ne)).trans I.obj,Yh,I.ne⟩ hs2)
def aoe{prog:Program}{w:World}{A:Around}{s:Shared}{K:Fg}{C f:Addr}{R:Result->Shared->Prop}{vs:Zl}{kw:List (Str×Value)}(X:K.In s.heap)(hm:PySem.W.makesIn K C=true)
 (hi:PySem.W.findIn K (.ref C) "__init__" = some (some (.ref f))) (hf:PySem.W.typeIn K (.ref f)=some (.type "function"))
 (h:codeAny (model prog w) (A.under (.builtin "type.__call__" ⟨.ref C::vs,kw⟩)) (.call (.ref f) ⟨.ref (s.heap.objs.size+1)::vs,kw⟩) (PySem.W.InitBack (s.heap.objs.size+1) R)
  { s with heap:=(s.heap.push PySem.W.emptyDict).push (PySem.W.instObj C s.heap.objs.size) }) :
 codeAny (model prog w) A (.call (.ref C) ⟨vs,kw⟩) R s:=by
 obtain⟨hh,g,d,t,os⟩:=s;exact PySem.W.make_core (PySem.W.makes_of X hm) (PySem.W.looks_findIn X hi) (λself=>PySem.W.bind_fn X self hf) (.inl rfl) h
noncomputable def Jj(f:Str)(v:V):List (Str×V)->List (Str×V)
 |[]=>[(f,v)]|(g,x)::r=>if g=f then(g,v)::r else(g,x)::Jj f v r
theorem Uu(f g:Str)(v:V):∀fs:List (Str×V),(Jj f v fs).lookup g=if g=f then some v else fs.lookup g
 |[]=>by
  show List.lookup g [(f,v)]=_
  by_cases h:g=f
  . have hb:(g==f)=true:=beq_iff_eq.mpr h
    simp only[List.lookup,hb,cg h]
  . have hb:(g==f)=false:=ql.mpr h
    simp only[List.lookup,hb,bx h]
 |(k,x)::r=>by
  have ih:=Uu f g v r;rw[show Jj f v ((k,x)::r)=(if k=f then(k,v)::r else(k,x)::Jj f v r) from rfl]
  by_cases hk:k=f
  . rw[cg hk]
    by_cases h:g=k
    . have hb:(g==k)=true:=beq_iff_eq.mpr h
      simp only[List.lookup,hb,cg (h.trans hk)]
    . have hb:(g==k)=false:=ql.mpr h
      simp only[List.lookup,hb,bx (λe:g=f=>h (e.trans hk.symm))]
  . rw[bx hk]
    by_cases h:g=k
    . have hb:(g==k)=true:=beq_iff_eq.mpr h
      simp only[List.lookup,hb,bx (λe:g=f=>hk (h.symm.trans e))]
    . have hb:(g==k)=false:=ql.mpr h
      simp only[List.lookup,hb];exact ih
theorem T6(f:Str)(v:V):∀fs:List (Str×V),f∈(Jj f v fs).map (·.1)/\∀g,g∈fs.map (·.1)->g∈(Jj f v fs).map (·.1)
 |[]=>⟨by simp[Jj],λg h=>by simp at h⟩
 |(k,x)::r=>by
  obtain⟨i1,i2⟩:=T6 f v r;rw[show Jj f v ((k,x)::r)=(if k=f then(k,v)::r else(k,x)::Jj f v r) from rfl]
  by_cases hk:k=f
  . rw[cg hk]
    subst hk;exact⟨by simp,λg h=>by simpa using h⟩
  . rw[bx hk]
    refine⟨?_,λg h=>?_⟩
    . rw[ig]
      exact bh _ i1
    . rw[ig] at h ⊢
      rcases bw.mp h with e|e
      . exact bw.mpr (.inl e)
      . exact bh _ (i2 g e)
theorem Uv(f:Str)(v:V):∀fs:List (Str×V),(Jj f v fs).length<=fs.length+1
 |[]=>by simp[Jj]
 |(k,x)::r=>by
  have ih:=Uv f v r;rw[show Jj f v ((k,x)::r)=(if k=f then(k,v)::r else(k,x)::Jj f v r) from rfl]
  by_cases hk:k=f
  . rw[cg hk,gr,gr];exact x_
  . rw[bx hk,gr,gr];exact v_ ih
def Nj.some_of{v:V}{o:Option Value}(r:Nj (some v) o):∃u,o=some u/\RelV v u:=by
 cases o with
 |none=>exact(show False from r).elim
 |some u=>exact⟨u,rfl,r⟩
def Nj.none_of{o:Option Value}(r:Nj none o):o=none:=by
 cases o with
 |none=>rfl|some u=>exact(show False from r).elim
def aki{v:V}{u:Value}(r:RelV v u):PySem.W.handedIn u=true:=by
 cases v with
 |non=>cases(show u=Value.none from r);rfl
 |bl b=>cases(show u=Value.bool b from r);rfl
 |int i=>obtain⟨t,e⟩:=(show ∃t,u=Value.int i t from r);cases e;rfl
 |str x=>obtain⟨t,e⟩:=(show ∃t,u=Value.str x t from r);cases e;rfl
 |byt b=>obtain⟨t,e⟩:=(show ∃t,u=Value.bytes b t from r);cases e;rfl
 |flt b=>obtain⟨t,e⟩:=(show ∃t,u=Value.float b t from r);cases e;rfl
 |ref a=>cases(show u=Value.ref a from r);rfl
 |ty n=>cases(show u=Value.type n from r);rfl
def Pa{P:Program}{w:World}{H:Hp}{h:Heap}{a C dx:Addr}{fs:List (Str×V)}(An:Qj P w H h)(e:H a=some (.ins C dx fs)):∃mA,agc h a dx C mA/\(∀f,Nj (fs.lookup f) (mA f))/\PySem.Within mA (fs.map (·.1))/\fs.length<=1000/\H dx=some (.own a):=by obtain⟨d,z,ne,ob,mA,n,r,q⟩:=(show Bv P w H h a (.ins C dx fs) from An a _ e);exact⟨mA,⟨ob,n,ne⟩,r,q,z,d⟩
structure Cls(K:Fg)(C:Addr):Prop where
 pg:PySem.W.plainGet K C Str.empty=true
 hd:PySem.W.hasDictIn K C=true
 po:PySem.W.plainOver K C=true
 sa:PySem.W.findIn K (.ref C) "__setattr__" = some (some (.builtin "object.__setattr__"))
def Cls.get{K:Fg}{C:Addr}(c:Cls K C)(f:Str):PySem.W.plainGet K C f=true:=c.pg
def Hc(K:Fg)(C:Addr)(f:Str):Prop:=PySem.W.findIn K (.ref C) f=some none
def Hc.taker{K:Fg}{C:Addr}{f:Str}(n:Hc K C f):PySem.W.takerIn K C f=some none:=by unfold PySem.W.takerIn;rw[show PySem.W.findIn K (.ref C) f=some none from n];rfl
structure Meth(K:Fg)(C:Addr)(m:Str)(f:Addr):Prop where
 at_:PySem.W.findIn K (.ref C) m=some (some (.ref f))
 fn:PySem.W.isFn K (.ref f)=true
 kp:PySem.W.keepIn K (.ref f)=true
def agd{X:Cx}{pins:Zp}{σ:St}{H:Hp}{s:Shared}{a C dx:Addr}{fs:List (Str×V)}{f:Str}{v:V}{A:Around}{E:Y1}{b:Bool}{Q:Y1}(I:Inv X pins σ H s)(e:H a=some (.ins C dx fs))(c:Cls X.K C)(n:Hc X.K C f)(l:fs.lookup f=some v)
 (h:∀u s',Inv X pins σ H s'->RelV v u->Q u s'):wpAny (model X.prog X.w) A (getAttr (.ref a) f b) Q E s:=by
 obtain⟨mA,O,r,_,_,_⟩:=Pa I.An e;obtain⟨u,hu,ru⟩:=Nj.some_of (v:=v) (o:=mA f) (by rw[<- l];exact r f);exact get_map I.kIn O (c.get f) c.hd n hu (aki ru) (h u _ (I.tok _) ru)
def Wt{X:Cx}{pins:Zp}{σ:St}{H:Hp}{s:Shared}{a C dx:Addr}{fs:List (Str×V)}{A:Around}{E:Y1}{m:Str}{g:Addr}{pl:Sem Bool}{Q:Value×List Value->Shared->Prop}(I:Inv X pins σ H s)(e:H a=some (.ins C dx fs))(c:Cls X.K C)(k:Meth X.K C m g)(l:fs.lookup m=none)
 (h:Q (.ref g,[.ref a]) s):wpAny (model X.prog X.w) A (getMethod (.ref a) m pl) Q E s:=by
 obtain⟨mA,O,r,_,_,_⟩:=Pa I.An e;have hn:mA m=none:=Nj.none_of (by rw[<- l];exact r m);exact aod I.kIn O (c.get m) k.at_ k.fn hn h
def age{X:Cx}{pins:Zp}{σ:St}{H:Hp}{s:Shared}{a C dx:Addr}{fs:List (Str×V)}{f:Str}{A:Around}{E:Y1}{y:V}{u:Value}{Q:Unit->Shared->Prop}(I:Inv X pins σ H s)(e:H a=some (.ins C dx fs))(c:Cls X.K C)(n:Hc X.K C f)(hl:fs.length<1000)(ry:RelV y u)
 (h:∀s',Inv X pins σ (upd H a (.ins C dx (Jj f y fs))) s'->Q () s'):wpAny (model X.prog X.w) A (setAttr (.ref a) f u) Q E s:=by
 obtain⟨mA,O,r,wi,_,ho⟩:=Pa I.An e;have hz:(fs.map (·.1)).length<=sizeLine:=by rw[dz,qm];exact e_ (b_ hl (by decide))
 refine aty I.kIn O c.sa c.po n.taker c.hd wi hz λh' O' sb=>h _ ?_
 have hd:∃o,h'.get? dx=some o:=let ⟨o,_,_,e',_⟩:=O'.ns;⟨o,e'⟩;refine I.write (x:=a) (e:=dx) (by rw[e];exact True.intro) (.inr ho) (λb q hb z=>(sb.2 b hb).trans z) hd ?_;refine⟨by rw[j8 O.ne];exact ho,?_,O.ne,O'.obj,_,O'.ns,λg=>?_,λg hg=>?_⟩
 . have:=Uv f y fs;exact a_ this hl
 . show Nj ((Jj f y fs).lookup g) (if g=f then some u else mA g)
   rw[Uu]
   by_cases q:g=f
   . rw[cg q,cg q];exact ry
   . rw[bx q,bx q];exact r g
 . by_cases q:g=f
   . rw[q];exact(T6 f y fs).1
   . refine(T6 f y fs).2 g (wi g λz=>hg ?_)
     show(if g=f then some u else mA g)=none;rw[bx q];exact z
def Inv.made{X:Cx}{pins:Zp}{σ:St}{H:Hp}{s:Shared}{C:Addr}(I:Inv X pins σ H s):Inv X pins σ (upd (upd H s.heap.objs.size (.own (s.heap.objs.size+1))) (s.heap.objs.size+1) (.ins C s.heap.objs.size []))
 { s with heap:=(s.heap.push PySem.W.emptyDict).push (PySem.W.instObj C s.heap.objs.size) }:=by
 have e1:(s.heap.push PySem.W.emptyDict).get? s.heap.objs.size=some PySem.W.emptyDict:=bf s.heap rfl;have e2:((s.heap.push PySem.W.emptyDict).push (PySem.W.instObj C s.heap.objs.size)).get? (s.heap.objs.size+1)=some (PySem.W.instObj C s.heap.objs.size):=by
  have:=bf (s.heap.push PySem.W.emptyDict) (o:=PySem.W.instObj C s.heap.objs.size) rfl
  rwa [gw] at this
 have e3:(s.heap.push PySem.W.emptyDict).Ns s.heap.objs.size (λ_=>none):=⟨PySem.W.emptyDict,#[],_,e1,rfl,(λe he=>absurd he (by simp)),λ_=>rfl⟩;have I1:=I.laid (a:=s.heap.objs.size) (o:=.own (s.heap.objs.size+1)) (h':=s.heap.push PySem.W.emptyDict) (t':=s.toks) (λb u q=>ao _ q) (bc _) ⟨_,e1⟩;refine I1.laid (a:=s.heap.objs.size+1) (o:=.ins C s.heap.objs.size []) (t':=s.toks) (λb u q=>ao _ q) (Nat.le_of_eq (gw _ _)) ?_;have ne:s.heap.objs.size≠s.heap.objs.size+1:=dw (pq _);refine⟨by rw[j8 ne,wj],my _,ne,e2,λ_=>none,(Heap.Ns1.of_empty e3).at λo q=>ao _ q,λ_=>True.intro,λy hy=>absurd rfl hy⟩
def atz{A:Around}{E:Y1}{prog:Program}{w:World}{env:Env}{e:Expr}{f:Str}{pos:Pos}{s:Shared}{Q:Y1}(hb:attributeBase e f env (eval e env)=eval e env)
 (h:wpAny (model prog w) A (eval e env) (λo s₁=>wpAny (model prog w) A (getAttr o f true) Q E s₁) E s):wpAny (model prog w) A (eval (.Attribute e f pos) env) Q E s :=
 Attribute_any_ h (by rw[arm_eval_Attribute,hb])
def bdw(K:Fg)(ta:TE)(f:Str):TE:=fun σ H Q=>ta σ H λx H1=>∃a C dx fs v,x=.ref a/\H1 a=some (.ins C dx fs)/\Cls K C/\Hc K C f/\fs.lookup f=some v/\Q v H1
def bdx(K:Fg)(ta tv:TE)(f:Str):TS:=λD σ H=>tv σ H λy H1=>ta σ H1 λx H2=>∃a C dx fs,x=.ref a/\H2 a=some (.ins C dx fs)/\Cls K C/\Hc K C f/\fs.length<1000 /\
 D.nx σ (upd H2 a (.ins C dx (Jj f y fs)))
def az6{X:Cx}{e:Expr}{f:Str}{pos:Pos}{ta:TE}(he:PE X e ta)(hb:attributeBase e f X.env (eval e X.env)=eval e X.env):PE X (.Attribute e f pos) (bdw X.K ta f):=by intro pins s σ H Q I h;refine atz hb (Bq (he pins s σ H _ I h) λu s1 ⟨x,H1,I1,rx,a,C,dx,fs,v,ex,ea,c,n,l,q⟩=>?_);subst ex;obtain rfl:u=Value.ref a:=rx;exact agd I1 ea c n l λu' s2 I2 ru=>⟨v,H1,I2,ru,q⟩
def az7{X:Cx}{o value:Expr}{f:Str}{pos pos':Pos}{ta tv:TE}(ha:PE X o ta)(hv:PE X value tv)(hs:swapsWith value (some (.Attribute o f pos')) pos.line X.env=pure false):PS X (.Assign [.Attribute o f pos'] value pos) (bdx X.K ta tv f):=by intro pins s σ H D I h;refine plainObj_wpAny_Assign_Attribute (Bq (hv pins s σ H _ I h) λu s1 ⟨y,H1,I1,ry,q⟩=>Bq (ha pins s1 σ H1 _ I1 q) λov s2 ⟨x,H2,I2,rx,a,C,dx,fs,ex,ea,c,n,l,q2⟩=>?_) hs;subst ex;obtain rfl:ov=Value.ref a:=rx;exact age I2 ea c n l ry λs3 I3=>⟨σ,_,I3,q2⟩
end L2
namespace L2
open PySem PySem.Spec PyProof.Rows
structure Af(k:Nat)(A:Around):Prop where
 hd:A.handled=none
 dp:A.depth+3*k+5<recursionLimit
 un:A.units+16*k+200<cLine
def Af.mono{j k:Nat}{A:Around}(r:Af k A)(h:j<=k):Af j A:=⟨r.hd,by have:=r.dp;lia,by have:=r.un;lia⟩
theorem Af.deeper{k:Nat}{A:Around}(r:Af (k+1) A)(env:Env):Af k (A.deeper env) :=
 ⟨r.hd,by have:=r.dp;show A.depth+1+3*k+5<_;lia,by have:=r.un;show A.units+3+16*k+200<_;lia⟩
theorem Af.in1{k:Nat}{A:Around}(r:Af (k+1) A):Af k A.in1 :=
 ⟨r.hd,by have:=r.dp;show A.depth+3*k+5<_;lia,by have:=r.un;show A.units+1+16*k+200<_;lia⟩
def agf{A:Around}{C:Addr}{us:Zl}{kw:List (Str×Value)}:(A.under (.builtin "type.__call__" ⟨.ref C::us,kw⟩)).depth=A.depth+1:=by first|rfl|simp[Around.under,Code.weight,Code.isCreation,Code.isGuard,Code.isCaller,Code.frames,Code.isFrame,guardIds]
def agg{A:Around}{C:Addr}{us:Zl}{kw:List (Str×Value)}:(A.under (.builtin "type.__call__" ⟨.ref C::us,kw⟩)).units=A.units+1:=by first|rfl|simp[Around.under,Code.cUnits,Code.frames,Code.isFrame]
def Af.make{k:Nat}{A:Around}(r:Af (k+1) A)(C:Addr)(us:Zl)(kw:List (Str×Value)):Af k (A.under (.builtin "type.__call__" ⟨.ref C::us,kw⟩)) :=
 ⟨r.hd,by have:=r.dp;rw[agf];lia,by have:=r.un;rw[agg];lia⟩
theorem Af.depth{k:Nat}{A:Around}(r:Af k A):A.depth<recursionLimit:=by have:=r.dp;lia
theorem Af.units{k:Nat}{A:Around}(r:Af k A):A.units+64<cLine:=by have:=r.un;lia
def Af.Wu{k:Nat}{A:Around}(r:Af k A):A.units<cLine:=by have:=r.un;lia
def a6z:TA:=λ_ H Q=>Q [] H
def a65(ta:TE)(tr:TA):TA:=fun σ H Q=>ta σ H λx H1=>tr σ H1 λxs H2=>Q (x::xs) H2
def az8{X:Cx}:PA X [] a6z:=λ_ _ _ _ H Q I h=>wg ⟨[],H,I,.nil,h⟩
def at3{X:Cx}{e:Expr}{es:Ya}{te:TE}{t:TA}(ha:PE X e te)(hr:PA X es t)(hs:starEach (e::es) X.env=(false,eval e X.env)::starEach es X.env:=by rfl):PA X (e::es) (a65 te t):=by intro pos pins s σ H Q I h;rw[hs];show wpAny _ _ (spliced ((false,eval e X.env)::backTo pos (starEach es X.env))) _ _ s;refine uc (Bq (ha pins s σ H _ I h) λu s1 ⟨x,H1,I1,r1,q1⟩=>?_);exact Bq (hr pos pins s1 σ H1 _ I1 q1) λus s2 ⟨xs,H2,I2,r2,q2⟩=>⟨x::xs,H2,I2,.cons r1 r2,q2⟩
def bdz(t:TA):TE:=fun σ H Q=>t σ H λxs H1=>xs.length<=sizeLine/\∀p,H1 p=none->Q (.ref p) (upd H1 p (.tup xs))
def bd1(t:TA):TE:=fun σ H Q=>t σ H λxs H1=>xs.length<=sizeLine/\∀p,H1 p=none->Q (.ref p) (upd H1 p (.lst xs))
def az9{X:Cx}{es:Ya}{t:TA}{pos:Pos}{x1}(h:PA X es t):PE X (.Tuple es x1 pos) (bdz t):=by intro pins s σ H Q I hq;refine wpAny_Tuple_spliced (Bq (h pos pins s σ H _ I hq) λus s1 ⟨xs,H1,I1,r,z,q⟩=>⟨by rw[<- r.length];exact z,?_⟩);have hf:H1 s1.heap.objs.size=none:=I1.An.fresh (bc _);refine⟨.ref s1.heap.objs.size,upd H1 s1.heap.objs.size (.tup xs),I1.laid (t':=s1.toks) (λb u e=>ao _ e) (bc _) ?_,rfl,q _ hf⟩;exact⟨z,us,r,Vg.new _ _⟩
def aof{X:Cx}{es:Ya}{t:TA}{pos:Pos}(h:PA X es t):PE X (.List es pos) (bd1 t):=by intro pins s σ H Q I hq;refine wpAny_List_spliced (Bq (h pos pins s σ H _ I hq) λus s1 ⟨xs,H1,I1,r,z,q⟩=>⟨by rw[<- r.length];exact z,?_⟩);have hf:H1 s1.heap.objs.size=none:=I1.An.fresh (bc _);refine⟨.ref s1.heap.objs.size,upd H1 s1.heap.objs.size (.lst xs),I1.laid (t':=s1.toks) (λb u e=>ao _ e) (bc _) ?_,rfl,q _ hf⟩;exact⟨z,us,0,r,bf _ rfl⟩
abbrev Sp:=List V->Hp->VK->XK->Prop
abbrev CXT:=List Env->Hp->Shared->XK->Value->Shared->Prop
structure agi(P:Program)(w:World)(K:Fg)(mg:Zs)(base:Heap)(A:Around)(outer:List Env)(s:Shared)(H:Hp):Prop where
 frames:A.frames=some outer
 mod:Mod K mg base
 bs:∀b o,base.get? b=some o->s.heap.get? b=some o/\H b=none
 bsz:base.objs.size<=s.heap.objs.size
 Vh:s.heap.FunFrames base outer
 frf:∀b∈frs outer,H b=none
 An:Qj P w H s.heap
 bare:AllBare s.gens
def CE(outer:List Env)(P:Program)(w:World)(H:Hp)(s:Shared)(Q:VK)(u:Value)(s':Shared):Prop :=
 ∃v H',s'.os=s.os/\AllBare s'.gens/\Un (frs outer) [] H H' s.heap s'.heap/\Qj P w H' s'.heap/\RelV v u/\Q v H'
def CR(CX:CXT)(outer:List Env)(P:Program)(w:World)(H:Hp)(s:Shared)(Q:VK)(E:XK)(r:Result)(s':Shared):Prop :=
 match r with
 |.ok (.ret u)=>CE outer P w H s Q u s'|.ok _=>False|.error e=>CX outer H s E e s'
structure Gf(P:Program)(w:World)(K:Fg)(mg:Zs)(base:Heap)(CX:CXT)(k:Nat)(f:Addr)(fd:FuncData)(ps:Yf)(sp:Sp):Prop where
 len:∀vs H Q E,sp vs H Q E->vs.length=ps.length
 run:∀(A:Around)(outer:List Env)(s:Shared)(H:Hp)(args:Args)(us:Zl)(vs:List V)(Q:VK)(E:XK),Af k A->agi P w K mg base A outer s H->BindsTo s fd args (ps.zip us)->Vals vs us->sp vs H Q E ->
  codeAny (model P w) A (.call (.ref f) args) (CR CX outer P w H s Q E) s
def Gf.imp{P:Program}{w:World}{K:Fg}{mg:Zs}{base:Heap}{CX:CXT}{k:Nat}{f:Addr}{fd:FuncData}{ps:Yf}{sp sp':Sp}(F:Gf P w K mg base CX k f fd ps sp)
 (h:∀vs H Q E,sp' vs H Q E->sp vs H Q E):Gf P w K mg base CX k f fd ps sp' :=
 ⟨λvs H Q E q=>F.len vs H Q E (h _ _ _ _ q),λA outer s H args us vs Q E hr he hb hv hs=>F.run A outer s H args us vs Q E hr he hb hv (h _ _ _ _ hs)⟩
def agi.make{P:Program}{w:World}{K:Fg}{mg:Zs}{base:Heap}{A:Around}{outer:List Env}{s:Shared}{H:Hp}(e:agi P w K mg base A outer s H)(C:Addr)(us:Zl)(kw:List (Str×Value)) :
 agi P w K mg base (A.under (.builtin "type.__call__" ⟨.ref C::us,kw⟩)) outer s H:=⟨by first|exact e.frames|(simpa[Around.under,Code.envs,Code.isFrame,pushEnvs] using e.frames),e.mod,e.bs,e.bsz,e.Vh,e.frf,e.An,e.bare⟩
def Inv.env0{X:Cx}{pins:Zp}{σ:St}{H:Hp}{s:Shared}(I:Inv X pins σ H s):agi X.prog X.w X.K X.mg X.base X.A X.stack s H :=
 ⟨I.ok.frames,I.ok.mod,I.bs,gn I.ok.bsz I.sz,I.stack,I.ahz,I.An,I.bare⟩
def Inv.after{X:Cx}{pins:Zp}{σ:St}{H:Hp}{s s':Shared}{Q:VK}{u:Value}(I:Inv X pins σ H s)(h:CE X.stack X.prog X.w H s Q u s'):EP X pins σ Q u s':=by obtain⟨v,H',os,bare,un,An,r,q⟩:=h;obtain⟨hh,g,d,t,os'⟩:=s';obtain rfl:os'=s.os:=os;exact⟨v,H',I.call (h':=hh) (g':=g) (d':=d) (t':=t) (ch:=[]) un An bare (λb z=>absurd z (by simp)),r,q⟩
def a66(sp:Sp)(Uw:List V)(E:XK)(t:TA):TE:=fun σ H Q=>t σ H λvs H1=>sp (vs++Uw) H1 Q E
def aw9(C:Addr)(m:Str)(sp:Sp)(Uw:List V)(E:XK)(ta:TE)(t:TA):TE:=fun σ H Q=>ta σ H λx H1=>∃a dx fs,x=.ref a/\H1 a=some (.ins C dx fs)/\fs.lookup m=none /\
 t σ H1 λvs H2=>sp (x::(vs++Uw)) H2 Q E
def a67(C:Addr)(sp:Sp)(Uw:List V)(E:XK)(t:TA):TE:=fun σ H Q=>t σ H λvs H1=>∀x dx,H1 x=none->H1 dx=none->dx≠x ->
 sp (.ref x::(vs++Uw)) (upd (upd H1 dx (.own x)) x (.ins C dx [])) (λv H2=>v=.non/\Q (.ref x) H2) E
def Binds(K:Fg)(fd:FuncData)(ps:Yf)(ds:Zl):Prop :=
 ∀(s:Shared)(us:Zl),K.In s.heap->(us++ds).length=ps.length->BindsTo s fd ⟨us,[]⟩ (ps.zip (us++ds))
def Binds.all{K:Fg}{fd:FuncData}{ps:Yf}(h:∀us:List Value,us.length=ps.length->bindArgs fd ⟨us,[]⟩=pure (ps.zip us)):Binds K fd ps []:=λs us _ hl=>by rw[zr] at hl ⊢;exact .of_eq (h us hl)
def Passes(CX:CXT)(X:Cx)(E:XK):Prop:=∀(pins:Zp)(σ:St)(H:Hp)(s:Shared)(e:Value)(s':Shared),Inv X pins σ H s->CX X.stack H s E e s'->X.xe e s'
def agj{X:Cx}{CX:CXT}{k:Nat}{f:Addr}{fd:FuncData}{ps:Yf}{sp:Sp}{Uw:List V}{ds:Zl}{E:XK}{pins:Zp}{σ:St}{H:Hp}{s:Shared}{Q:VK}{us:Zl}{vs:List V}(F:Gf X.prog X.w X.K X.mg X.base CX k f fd ps sp)(hr:Af k X.A)(hb:Binds X.K fd ps ds)(hd:Vals Uw ds)(hx:Passes CX X E)
 (I:Inv X pins σ H s) (r:Vals vs us) (h:sp (vs++Uw) H Q E):wpAny (model X.prog X.w) X.A (call (.ref f) us) (EP X pins σ Q) X.xe s:=by
 have r2:Vals (vs++Uw) (us++ds):=r.append hd;have hl:(us++ds).length=ps.length:=by rw[<- r2.length];exact F.len _ _ _ _ h
 refine wpAny_call (vo (F.run X.A X.stack s H ⟨us,[]⟩ (us++ds) (vs++Uw) Q E hr I.env0 (hb s us I.kIn hl) r2 h) λr s' hq=>?_);cases r with
 |error e=>exact hx pins σ H s e s' I hq
 |ok fl =>
  cases fl with
  |ret u=>exact I.after hq|next=>exact False.elim hq|brk=>exact False.elim hq|cont=>exact False.elim hq
def at4{X:Cx}{CX:CXT}{k:Nat}{f:Addr}{fd:FuncData}{ps:Yf}{sp:Sp}{Uw:List V}{ds:Zl}{E:XK}{x:Str}{p pos:Pos}{e:Expr}{es:Ya}{t:TA}(F:Gf X.prog X.w X.K X.mg X.base CX k f fd ps sp)(hr:Af k X.A)(hg:Gl X x)(hm:X.mg x=some (.ref f))(hk:PySem.W.keepIn X.K (.ref f)=true)(hb:Binds X.K fd ps ds)(hd:Vals Uw ds)(hx:Passes CX X E)
 (ha:PA X (e::es) t) (Ux:(x==("__debug__" : Str))=false:=by decide) (he:starEach (e::es) X.env=(false,eval e X.env)::starEach es X.env:=by rfl) (Jg:(backTo pos (starEach es X.env)).any (·.1)=false:=by rfl) :
 PE X (.Call (.Name x p) (e::es) [] pos) (a66 sp Uw E t):=by
 intro pins s σ H Q I h;refine iz (aa6 I hg hm ?_ Ux);refine PySem.W.callWith_K (h₀:=X.base) I.ok.mod.kin hk (Bq (ha pos pins s σ H _ I h) λus s1 ⟨vs,H1,I1,r,q⟩=>⟨I1.kIn,?_⟩) he Jg;exact agj F hr hb hd hx I1 r q
def at5{X:Cx}{CX:CXT}{k:Nat}{f C:Addr}{fd:FuncData}{ps:Yf}{sp:Sp}{Uw:List V}{ds:Zl}{E:XK}{m:Str}{pos apos:Pos}{e o:Expr}{es:Ya}{ta:TE}{t:TA}{pl:Sem Bool}(he:PE X o ta)(c:Cls X.K C)(hm:Meth X.K C m f)(F:Gf X.prog X.w X.K X.mg X.base CX k f fd ps sp)(hr:Af k X.A)(hb:Binds X.K fd ps ds)(hd:Vals Uw ds)(hx:Passes CX X E)(ha:PA X (e::es) t)
 (Vn:starEach (e::es) X.env=(false,eval e X.env)::starEach es X.env:=by rfl) (Jg:(backTo pos (starEach es X.env)).any (·.1)=false:=by rfl)
 (ht:eval (.Call (.Attribute o m apos) (e::es) [] pos) X.env=(do
  let ov <- eval o X.env
  standAt apos.atName
  let (f,first) <- holding [ov] (getMethod ov m pl)
  callWith pos f first (backTo pos (starEach (e::es) X.env)) (backToKw pos (keywordEach [] X.env))):=by rfl) :
 PE X (.Call (.Attribute o m apos) (e::es) [] pos) (aw9 C m sp Uw E ta t):=by
 intro pins s σ H Q I h;refine PySem.W.methodCall_KW (pl:=pl) (Bq (he pins s σ H _ I h) λu s1 ⟨x,H1,I1,rx,a,dx,fs,ex,ea,l,q⟩=>?_) ht;subst ex;obtain rfl:u=Value.ref a:=rx;refine Wt I1 ea c hm l ?_;refine PySem.W.callWith_K (first:=[.ref a]) (h₀:=X.base) I.ok.mod.kin hm.kp (Bq (ha pos pins s1 σ H1 _ I1 q) λus s2 ⟨vs,H2,I2,r,q2⟩=>⟨I2.kIn,?_⟩) Vn Jg;exact agj (us:=.ref a::us) (vs:=.ref a::vs) F hr hb hd hx I2 (.cons rfl r) q2
def aog{X:Cx}{CX:CXT}{k:Nat}{f C:Addr}{fd:FuncData}{ps:Yf}{sp:Sp}{Uw:List V}{ds:Zl}{E:XK}{m:Str}{pos apos:Pos}{o:Expr}{ta:TE}{pl:Sem Bool}(he:PE X o ta)(c:Cls X.K C)(hm:Meth X.K C m f)(F:Gf X.prog X.w X.K X.mg X.base CX k f fd ps sp)(hr:Af k X.A)(hb:Binds X.K fd ps ds)(hd:Vals Uw ds)(hx:Passes CX X E)
 (ht:eval (.Call (.Attribute o m apos) [] [] pos) X.env=(do
  let ov <- eval o X.env
  standAt apos.atName
  let (f,first) <- holding [ov] (getMethod ov m pl)
  callWith pos f first (backTo pos (starEach [] X.env)) (backToKw pos (keywordEach [] X.env))):=by rfl) :
 PE X (.Call (.Attribute o m apos) [] [] pos) (aw9 C m sp Uw E ta a6z):=by
 intro pins s σ H Q I h;refine PySem.W.methodCall_KW (pl:=pl) (Bq (he pins s σ H _ I h) λu s1 ⟨x,H1,I1,rx,a,dx,fs,ex,ea,l,q⟩=>?_) ht;subst ex;obtain rfl:u=Value.ref a:=rx;refine Wt I1 ea c hm l ?_;exact PySem.W.callWith_K0 (first:=[.ref a]) I1.kIn hm.kp (agj (us:=[.ref a]) (vs:=[.ref a]) F hr hb hd hx I1 (.cons rfl .nil) q)
structure Mk(K:Fg)(C f:Addr):Prop where
 makes:PySem.W.makesIn K C=true
 init:PySem.W.findIn K (.ref C) "__init__" = some (some (.ref f))
 fn:PySem.W.isFn K (.ref f)=true
 kp:PySem.W.keepIn K (.ref C)=true
def aoh{X:Cx}{CX:CXT}{k:Nat}{f C:Addr}{fd:FuncData}{ps:Yf}{sp:Sp}{Uw:List V}{ds:Zl}{E:XK}{pins:Zp}{σ:St}{H:Hp}{s:Shared}{Q:VK}{us:Zl}{vs:List V}(M:Mk X.K C f)(F:Gf X.prog X.w X.K X.mg X.base CX k f fd ps sp)(hr:Af (k+1) X.A)(hb:Binds X.K fd ps ds)(hd:Vals Uw ds)
 (hx:Passes CX X E) (I:Inv X pins σ H s) (r:Vals vs us)
 (h:∀x dx,H x=none->H dx=none->dx≠x->sp (.ref x::(vs++Uw)) (upd (upd H dx (.own x)) x (.ins C dx [])) (λv H2=>v=.non/\Q (.ref x) H2) E) :
 wpAny (model X.prog X.w) X.A (call (.ref C) us) (EP X pins σ Q) X.xe s:=by
 have hq:=h (s.heap.objs.size+1) s.heap.objs.size (I.An.fresh (uz _)) (I.An.fresh (bc _)) (dw (pq _));have I2:=Inv.made (C:=C) I;have r2:Vals (V.ref (s.heap.objs.size+1)::(vs++Uw)) (Value.ref (s.heap.objs.size+1)::(us++ds)):=.cons rfl (r.append hd);have hl:(Value.ref (s.heap.objs.size+1)::us++ds).length=ps.length:=by have e:=r2.length;rw[F.len _ _ _ _ hq] at e;exact e.symm
 refine wpAny_call (aoe (f:=f) I.kIn M.makes M.init (beq_iff_eq.mp M.fn) (vo (F.run _ X.stack _ _ ⟨Value.ref (s.heap.objs.size+1)::us,[]⟩ (Value.ref (s.heap.objs.size+1)::(us++ds)) _ _ E (hr.make C us [])
  (I2.env0.make C us []) (hb _ (Value.ref (s.heap.objs.size+1)::us) I2.kIn hl) r2 hq) λr s' hq'=>?_))
 cases r with
 |error e=>exact hx pins σ _ _ e s' I2 hq'
 |ok fl =>
  cases fl with
  |ret u =>
   obtain⟨v,H',I3,rv,ev,q3⟩:=I2.after hq';subst ev;exact⟨rv,⟨V.ref (s.heap.objs.size+1),H',I3,rfl,q3⟩⟩
  |next=>exact False.elim hq'|brk=>exact False.elim hq'|cont=>exact False.elim hq'
def at6{X:Cx}{CX:CXT}{k:Nat}{f C:Addr}{fd:FuncData}{ps:Yf}{sp:Sp}{Uw:List V}{ds:Zl}{E:XK}{x:Str}{p pos:Pos}{e:Expr}{es:Ya}{t:TA}(M:Mk X.K C f)(F:Gf X.prog X.w X.K X.mg X.base CX k f fd ps sp)(hr:Af (k+1) X.A)(hg:Gl X x)(hm:X.mg x=some (.ref C))(hb:Binds X.K fd ps ds)(hd:Vals Uw ds)(hx:Passes CX X E)
 (ha:PA X (e::es) t) (Ux:(x==("__debug__" : Str))=false:=by decide) (he:starEach (e::es) X.env=(false,eval e X.env)::starEach es X.env:=by rfl) (Jg:(backTo pos (starEach es X.env)).any (·.1)=false:=by rfl) :
 PE X (.Call (.Name x p) (e::es) [] pos) (a67 C sp Uw E t):=by
 intro pins s σ H Q I h;refine iz (aa6 I hg hm ?_ Ux);refine PySem.W.callWith_K (h₀:=X.base) I.ok.mod.kin M.kp (Bq (ha pos pins s σ H _ I h) λus s1 ⟨vs,H1,I1,r,q⟩=>⟨I1.kIn,?_⟩) he Jg;exact aoh M F hr hb hd hx I1 r q
structure Vt(N P:Yf)(sc:Scope):Prop where
 kind:sc.kind=.function
 co:sc.isCoroutine=false
 gen:sc.isGenerator=false
 nd:N.Nodup
 pre:N.take P.length=P
 par:∀x∈P,sc.names.lookup x=some .local\/sc.names.lookup x=some .cell
 a0a:∀y∈sc.names,y.2≠.free
theorem Zg{kindOf:Str->Option NameKind}{x:Str}:∀{binds:List (Str×Value)}{m:Zs},(∀v,(x,v)∉binds)->bindL kindOf binds m x=m x
 |[],_,_=>rfl
 |(n,v)::r,m,h=>by
  unfold bindL;rw[Zg λw hw=>h w (bh _ hw)];split
  . have:x≠n:=by rintro rfl;exact h v dg
    simp[this]
  . rfl
theorem Zh{kindOf:Str->Option NameKind}{x:Str}:∀{binds:List (Str×Value)}{m:Zs},(∀v,(x,v)∉binds)->bindC kindOf binds m x=m x
 |[],_,_=>rfl
 |(n,v)::r,m,h=>by
  unfold bindC;rw[Zh λw hw=>h w (bh _ hw)];split
  . rfl
  . have:x≠n:=by rintro rfl;exact h v dg
    simp[this]
theorem Zi{kindOf:Str->Option NameKind}{x:Str}{v:Value}:∀{P:Yf}{vs:Zl}{i:Nat}{m:Zs},P.Nodup->P[i]?=some x->vs[i]?=some v->kindOf x=some .local ->
 bindL kindOf (P.zip vs) m x=some v
 |[],_,_,_,_,h,_,_=>by simp at h|_::_,[],_,_,_,_,h,_=>by simp at h
 |p::P,w::vs,0,m,nd,h1,h2,hk=>by
  simp at h1 h2;subst h1;subst h2;show bindL kindOf ((p,w)::P.zip vs) m p=_;unfold bindL;rw[Zg λv hv=>(m9.mp nd).1 (List.of_mem_zip hv).1,cg hk];simp
 |p::P,w::vs,i+1,m,nd,h1,h2,hk=>by
  show bindL kindOf ((p,w)::P.zip vs) m x=_;unfold bindL;exact Zi (i:=i) (m9.mp nd).2 (by simpa using h1) (by simpa using h2) hk
theorem Zj{kindOf:Str->Option NameKind}{x:Str}{v:Value}:∀{P:Yf}{vs:Zl}{i:Nat}{m:Zs},P.Nodup->P[i]?=some x->vs[i]?=some v->kindOf x≠some .local ->
 bindC kindOf (P.zip vs) m x=some v
 |[],_,_,_,_,h,_,_=>by simp at h|_::_,[],_,_,_,_,h,_=>by simp at h
 |p::P,w::vs,0,m,nd,h1,h2,hk=>by
  simp at h1 h2;subst h1;subst h2;show bindC kindOf ((p,w)::P.zip vs) m p=_;unfold bindC;rw[Zh λv hv=>(m9.mp nd).1 (List.of_mem_zip hv).1,bx hk];simp
 |p::P,w::vs,i+1,m,nd,h1,h2,hk=>by
  show bindC kindOf ((p,w)::P.zip vs) m x=_;unfold bindC;exact Zj (i:=i) (m9.mp nd).2 (by simpa using h1) (by simpa using h2) hk
noncomputable def start(N:Yf)(vs:List V):St:=vs.map some++List.replicate (N.length-vs.length) none
noncomputable def agk(CX:CXT)(P:Program)(w:World)(K:Fg)(mg:Zs)(base:Heap)(N:Yf)(qual:Str)(scope:Scope)(f:Addr)(cd:Value)(A:Around)(outer:List Env)(s:Shared)(H:Hp)(E:XK):Cx where
 prog:=P
 w:=w
 K:=K
 mg:=mg
 base:=base
 A:=A.deeper (envOfC qual scope s.heap.objs.size f cd)
 N:=N
 s₀:=s
 H₀:=H
 env:=envOfC qual scope s.heap.objs.size f cd
 outer:=outer
 stack:=envOfC qual scope s.heap.objs.size f cd::outer
 ex:=[]
 calm:=true
 fn:=λ_=>true
 pn:=[]
 xe:=λe s'=>wpAny (model P w) (A.deeper (envOfC qual scope s.heap.objs.size f cd)) (leaving (envOfC qual scope s.heap.objs.size f cd) e) (λ_ s''=>CX outer H s E e s'') (λe' s''=>CX outer H s E e' s'') s'
def adn{sc:Scope}{n:Nat}{x:Str}(h:sc.names.lookup x=some .cell):∃c,(cellsFrom n sc.names []).lookup x=some c:=by have q:=PySem.W.cellsFrom_some sc.names n [] (.inl h);exact ph.mp q
def akj{CX:CXT}{P:Program}{w:World}{K:Fg}{mg:Zs}{base:Heap}{N ps:Yf}{qual:Str}{scope:Scope}{f:Addr}{cd:Value}{A:Around}{outer:List Env}{s s1:Shared}{H:Hp}{E:XK}{us:Zl}{vs:List V}
 (S:Vt N ps scope) (hd:A.handled=none) (e0:agi P w K mg base A outer s H) (hl:vs.length=ps.length) (r:Vals vs us)
 (x:InCallC s s.heap.objs.size (bindL (envOfC qual scope s.heap.objs.size f cd).kindOf (ps.zip us) λ_=>none) (cellsFrom (s.heap.objs.size+1) scope.names []) (bindC (envOfC qual scope s.heap.objs.size f cd).kindOf (ps.zip us) λ_=>none) s1) :
 Inv (agk CX P w K mg base N qual scope f cd A outer s H E) [] (start N vs) H s1:=by
 have Jg:ps.length<=N.length:=by have:=qj List.length S.pre;rw[w5] at this;lia
 obtain⟨h1,tk,rfl,hk⟩:=x.done;have noA:∀b:Addr,b∉(agk CX P w K mg base N qual scope f cd A outer s H E).ex:=λb z=>absurd (show b∈([]:X9) from z) (by simp)
 refine⟨⟨e0.mod,S.kind,rfl,rfl,bc _,λy z c h1 h2=>?_,λy hy=>?_,λy c _ h=>?_,λ_=>hd,Around.frames_deeper e0.frames,.inr ⟨rfl,rfl⟩,λb z=>absurd z (noA b),e0.bs,e0.bsz,λb _ _=>noA b,λb z=>absurd z (noA b),e0.Vh,e0.frf⟩,
  rfl,e0.bare,Un.kept hk,⟨_,x.toInCall.ns,λi y v h1 h2 h3=>?_⟩,λy c h=>⟨_,x.cell y c h⟩,e0.An.fresh (bc _),λy c h=>?_,λp hp=>absurd (show p∈([]:Zp) from hp) (by simp),e0.An.kept hk,?_⟩
 . exact name_of_addr x.apart (yw h1) (yw h2)
 . have hy:scope.names.lookup y=some .cell\/scope.names.lookup y=some .free:=hy
   rcases hy with hy|hy
   . exact adn hy
   . exact absurd rfl (S.a0a _ (yw hy))
 . exact Aj (x.above y c (yw h))
 . have hi:i<vs.length:=by
    unfold start at h2
    by_cases hi:i<vs.length
    . exact hi
    . rw[jg (by simpa using hi)] at h2
      rw[List.getElem?_replicate] at h2;split at h2<;>cases h2
   have ha:vs[i]?=some v:=by
    unfold start at h2;rw[du (by simpa using hi),jd] at h2;cases e:vs[i]? with
    |none=>rw[e] at h2;cases h2|some a=>rw[e] at h2;cases h2;rfl
   obtain⟨u,hu,rv⟩:=r.get ha;have hp:ps[i]?=some y:=by rw[<- S.pre,List.getElem?_take_of_lt (b_ hi (f_ hl))];exact h1
   have ndP:ps.Nodup:=by rw[<- S.pre];exact S.nd.sublist (List.take_sublist _ _)
   refine⟨u,rv,?_⟩;rcases S.par y (au hp) with k|k
   . exact .inl ⟨k,Zi ndP hp hu k⟩
   . obtain⟨c,e⟩:=adn (n:=s.heap.objs.size+1) k
     refine .inr ⟨.inl k,c,e,?_⟩;have q:=x.cell y c e;rw[Zj ndP hp hu (by show scope.names.lookup y≠_;rw[k];decide)] at q;exact q
 . exact e0.An.fresh (Aj (x.above y c (yw h)))
 . unfold start
   show _=N.length;rw[m6,dz,vg]
   lia
def a7a{CX:CXT}{P:Program}{w:World}{K:Fg}{mg:Zs}{base:Heap}{k:Nat}{f:Addr}{name qual:Str}{params:Arguments}{body:List Stmt}{scope:Scope}{dV kV doc pm cdv ct oc:Value}{an od:Option Addr}
 {osl:Array (Option Value)} {N ps:Yf} {sp:Sp} (lk:K.lookup f=some ⟨oc,od,.func (PySem.W.fnOf name qual params body scope dV kV doc pm an cdv ct),osl⟩) (hcd:PySem.W.codeIn K cdv qual=true) (S:Vt N ps scope)
 (len:∀vs H Q E,sp vs H Q E->vs.length=ps.length)
 (aoi:∀(A:Around)(outer:List Env)(s:Shared)(H:Hp)(vs:List V)(Q:VK)(E:XK),Af k (A.deeper (envOfC qual scope s.heap.objs.size f cdv))->sp vs H Q E ->
  ∃t,Rx (agk CX P w K mg base N qual scope f cdv A outer s H E) body t/\t { nx:=λ_ H'=>Q .non H',rt:=Q } (start N vs) H) :
 Gf P w K mg base CX (k+1) f (PySem.W.fnOf name qual params body scope dV kV doc pm an cdv ct) ps sp:=by
 refine⟨len,λA outer s H args us vs Q E hr e0 hb r hsp=>?_⟩;have hl:=len _ _ _ _ hsp;have KX:K.In s.heap:=e0.mod.kin.keeps λb o e=>(e0.bs b o e).1
 have lim:s.heap.NoLimit:=e0.mod.nolimit.keeps λb o e=>(e0.bs b o e).1
 have a7b:∀y∈ps.zip us,scope.names.lookup y.1=some .local\/(scope.names.lookup y.1=some .cell/\((cellsFrom (s.heap.objs.size+1) scope.names []).lookup y.1).isSome=true):=λ⟨n,v⟩ hy=>by
  rcases S.par n (List.of_mem_zip hy).1 with q|q
  . exact .inl q
  . exact .inr ⟨q,PySem.W.cellsFrom_some _ _ _ (.inl q)⟩
 refine codeAny_call_function hr.depth (KX _ _ lk) rfl S.co S.gen rfl (PySem.W.codeRec_of KX hcd) (hb _ _ _ _ ?_);refine wpAny_newFunctionEnv_cells S.kind a7b λenv he s1 x=>?_
 subst he;refine⟨lim.keeps x.toInCall.keep,codeAny_func ?_⟩;obtain⟨t,ht,hq⟩:=aoi A outer s H vs Q E (hr.deeper _) hsp;have I:Inv (agk CX P w K mg base N qual scope f cdv A outer s H E) [] (start N vs) H s1:=akj S hr.hd e0 hl r x;refine mj (ht [] s1 (start N vs) H _ I hq) (λfl s' hs=>?_) λe s' hs=>hs
 have fin:∀{σ':St}{H':Hp}{v:V}{u:Value},Inv (agk CX P w K mg base N qual scope f cdv A outer s H E) [] σ' H' s'->RelV v u->Q v H'->CE outer P w H s Q u s' :=
  fun{σ' H' v u} J rv q=>⟨v,H',J.os,J.bare,J.base,J.An,rv,q⟩
 cases fl with
 |ret u =>
  obtain⟨v,σ',H',J,rv,q⟩:=hs;exact fin J rv q
 |next =>
  obtain⟨σ',H',J,q⟩:=hs;exact fin (v:=V.non) (u:=Value.none) J rfl q
 |brk =>
  obtain⟨_,_,_,q⟩:=hs;exact False.elim q
 |cont =>
  obtain⟨_,_,_,q⟩:=hs;exact False.elim q
end L2
namespace L2
open PySem PySem.Spec PyProof.Rows
def tCB(r:List V->Hp->VK->Prop)(t:TA):TE:=fun σ H Q=>t σ H λvs H1=>r vs H1 Q
def aoj{X:Cx}{x:Str}{p pos:Pos}{e:Expr}{es:Ya}{t:TA}{id:String}{r:List V->Hp->VK->Prop}(hc:Bx X (.builtin id) r)(hg:Gl X x)(hm:X.mg x=none)(hv:bootBuiltins x=some (.builtin id))(ha:PA X (e::es) t)(hn:x≠"__name__" := by decide)(Ux:(x==("__debug__" : Str))=false:=by decide)
 (he:starEach (e::es) X.env=(false,eval e X.env)::starEach es X.env:=by rfl) (Jg:(backTo pos (starEach es X.env)).any (·.1)=false:=by rfl):PE X (.Call (.Name x p) (e::es) [] pos) (tCB r t):=by
 intro pins s σ H Q I h;refine iz (Dr I hg hm hv ?_ hn Ux);exact yq (Bq (ha pos pins s σ H _ I h) λus s1 ⟨vs,H1,I1,r1,q1⟩=>hc pins s1 σ H1 vs us Q I1 r1 q1) he Jg
def akk{X:Cx}{x:Str}{p pos:Pos}{e:Expr}{es:Ya}{t:TA}{T:String}{r:List V->Hp->VK->Prop}(hc:Bx X (.type T) r)(hg:Gl X x)(hm:X.mg x=none)(hv:bootBuiltins x=some (.type T))(ha:PA X (e::es) t)(hn:x≠"__name__" := by decide)(Ux:(x==("__debug__" : Str))=false:=by decide)
 (he:starEach (e::es) X.env=(false,eval e X.env)::starEach es X.env:=by rfl) (Jg:(backTo pos (starEach es X.env)).any (·.1)=false:=by rfl):PE X (.Call (.Name x p) (e::es) [] pos) (tCB r t):=by
 intro pins s σ H Q I h;refine iz (Dr I hg hm hv ?_ hn Ux);exact je (Bq (ha pos pins s σ H _ I h) λus s1 ⟨vs,H1,I1,r1,q1⟩=>hc pins s1 σ H1 vs us Q I1 r1 q1) he Jg
section
variable{κ:Type}[DecidableEq κ]
noncomputable def Ry(iw:List (κ×V))(k:κ):Option V:=(iw.find? λkv=>decide (kv.1=k)).map (·.2)
noncomputable def putK(iw:List (κ×V))(k:κ)(v:V):List (κ×V) :=
 if(iw.any λkv=>decide (kv.1=k))=true then iw.map (λkv=>if kv.1=k then(kv.1,v) else kv) else iw++[(k,v)]
def Rz{p:κ×V}(e:p.1=k):Ry (p::r) k=some p.2:=by simp[Ry,qt,e]
def R8{p:κ×V}(e:¬p.1=k):Ry (p::r) k=Ry r k:=by simp[Ry,qt,e]
theorem ado(k:κ):∀iw:List (κ×V),(iw.any λkv=>decide (kv.1=k))=(Ry iw k).isSome
 |[]=>rfl
 |p::r=>by
  rw[List.any_cons]
  by_cases e:p.1=k
  . simp only[Rz e,yx e,Bool.true_or,Option.isSome_some]
  . rw[R8 e,jx e,Bool.false_or];exact ado k r
def Uy(iw:List (κ×V))(k:κ)(v:V):(putK iw k v).length<=iw.length+1:=by
 unfold putK;split
 . rw[dz];exact x_
 . rw[m6,gr,Be];exact bc _
def Nj.K7(r:Nj o u):o.isSome=u.isSome:=by
 cases o with
 |none=>cases u with
  |none=>rfl|some _=>exact(show False from r).elim
 |some _=>cases u with
  |none=>exact(show False from r).elim
  |some _=>rfl
theorem Nj.getD(r:Nj o u)(rd:RelV d d'):RelV (o.getD d) (u.getD d'):=by
 cases o with
 |none=>cases u with
  |none=>exact rd|some _=>exact(show False from r).elim
 |some _=>cases u with
  |none=>exact(show False from r).elim
  |some _=>exact r
def KV.val(r:KV iw vs)(k:κ):Nj (Ry iw k) (valueAt vs k):=by
 unfold KV at r
 induction r with
 |nil=>exact True.intro
 |@cons p q ps qs h t ih =>
  obtain⟨h1,h2⟩:=h
  by_cases e:p.1=k
  . have e':q.1=k:=h1.symm.trans e
    have b:valueAt (q::qs) k=some q.2:=by simp[valueAt,qt,e']
    rw[Rz e,b];exact h2
  . have e':¬q.1=k:=λz=>e (h1.trans z)
    have b:valueAt (q::qs) k=valueAt qs k:=by simp[valueAt,qt,e']
    rw[R8 e,b];exact ih
theorem KV.any(r:KV iw vs)(k:κ):(iw.any λkv=>decide (kv.1=k))=vs.any λkv=>decide (kv.1=k):=by
 unfold KV at r
 induction r with
 |nil=>rfl|cons h t ih=>rw[List.any_cons,List.any_cons,ih,h.1]
def KV.Ja(r:KV iw vs)(k:κ)(ry:RelV y u) :
 KV (iw.map λkv=>if kv.1=k then(kv.1,y) else kv) (vs.map λkv=>if kv.1=k then(kv.1,u) else kv):=by
 unfold KV at r ⊢
 induction r with
 |nil=>exact .nil
 |@cons p q ps qs h t ih =>
  rw[ig,ig];refine .cons ?_ ih;obtain⟨h1,h2⟩:=h
  by_cases e:p.1=k
  . rw[cg e,cg (h1.symm.trans e)];exact⟨h1,ry⟩
  . rw[bx e,bx (λz=>e (h1.trans z))];exact⟨h1,h2⟩
def KV.put(r:KV iw vs)(k:κ)(ry:RelV y u):KV (putK iw k y) (stored vs k u):=by
 unfold putK stored;rw[r.any k]
 by_cases e:(vs.any λkv=>decide (kv.1=k))=true
 . rw[cg e,cg e];exact r.Ja k ry
 . rw[bx e,bx e];exact Paired.snoc r ⟨rfl,ry⟩
theorem KV.length{iw:List (κ×V)}{vs:List (κ×Value)}(r:KV iw vs):iw.length=vs.length:=Paired.length r
end
def Zk(r:RelV (kV k) u):(nq P w).is k u=true:=by
 cases k with
 |inl i=>obtain⟨t,e⟩:=(show ∃t,u=Value.int i t from r);subst e;exact ade P w i t
 |inr x=>obtain⟨t,e⟩:=(show ∃t,u=Value.str x t from r);subst e;exact adf P w x t
theorem Zm{P:Program}{w:World}:∀{ks:List Key}{us:Zl},Vals (ks.map kV) us->ItemsAre (nq P w) ks us
 |[],_,r=>by rw[List.map_nil] at r;cases r;exact .nil
 |k::ks,_,r=>by
  rw[ig] at r;cases r with
  |cons h t=>exact .cons (Zk h) (Zm t)
abbrev KT(H:Hp):List (List Key×V)->List (List Key×Addr×Value)->Prop:=Paired λp q=>p.1=q.1/\H q.2.1=some (.tup (p.1.map kV))/\RelV p.2 q.2.2
def KT.val(r:KT H iw xs)(k:List Key):Nj (Ry iw k) ((atKey xs k).map (·.2)):=by
 induction r with
 |nil=>exact True.intro
 |@cons p q ps qs h t ih =>
  obtain⟨h1,_,h2⟩:=h
  by_cases e:p.1=k
  . have e':q.1=k:=h1.symm.trans e
    have b:atKey (q::qs) k=some q.2:=by simp[atKey,qt,e']
    rw[Rz e,b];exact h2
  . have e':¬q.1=k:=λz=>e (h1.trans z)
    have b:atKey (q::qs) k=atKey qs k:=by simp[atKey,qt,e']
    rw[R8 e,b];exact ih
def KT.Ja(r:KT H iw xs)(k:List Key)(ry:RelV y u) :
 KT H (iw.map λkv=>if kv.1=k then(kv.1,y) else kv) (xs.map (putAt k u)):=by
 induction r with
 |nil=>exact .nil
 |@cons p q ps qs h t ih =>
  rw[ig,ig];refine .cons ?_ ih;obtain⟨h1,h2,h3⟩:=h;unfold putAt
  by_cases e:p.1=k
  . rw[cg e,cg (h1.symm.trans e)];exact⟨h1,h2,ry⟩
  . rw[bx e,bx (λz=>e (h1.trans z))];exact⟨h1,h2,h3⟩
def KT.put(r:KT H iw xs)(k:List Key)(hb:H b=some (.tup (k.map kV)))(ry:RelV y u) :
 KT H (putK iw k y) (storedH xs k b u):=by
 have e:(iw.any λkv=>decide (kv.1=k))=(atKey xs k).isSome:=by rw[ado,(r.val k).K7,Option.isSome_map]
 unfold putK storedH;rw[e]
 by_cases q:(atKey xs k).isSome=true
 . rw[cg q,cg q];exact r.Ja k ry
 . rw[bx q,bx q];exact Paired.snoc r ⟨rfl,hb,ry⟩
def KT.keeps(r:KT H iw xs)(ht:∀b ys,H b=some (.tup ys)->H' b=some (.tup ys)):KT H' iw xs :=
 Paired.ay6 r λ_ _ z=>⟨z.1,ht _ _ z.2.1,z.2.2⟩
def axb(ok:Qj P w H h)(e:Rd H a u):Bv P w H h a u:=e.ok ok
def Wv(ok:Qj P w H h)(e:Rd H a (.dK iw)):iw.length<=sizeLine/\(a==sysModules)=false/\∃vs,KV iw vs/\h.DictOf (nq P w) a vs :=
 show Bv P w H h a (.dK iw) from axb ok e
def a7c(ok:Qj P w H h)(e:H a=some (.dK iw)):iw.length<=sizeLine/\(a==sysModules)=false/\∃vs,KV iw vs/\h.DictOf (nq P w) a vs:=Wv ok (.inl e)
def Oz(ok:Qj P w H h)(e:H a=some (.tup (ks.map kV))):(tupleKind (nq P w)).is h ks a:=by obtain⟨_,xq,r,o,h1,h2,n,h3,_⟩:=(show Bv P w H h a (.tup (ks.map kV)) from ok a _ e);exact⟨o,xq.toArray,n,h1,h2,h3,by simpa using Zm r⟩
def Zn(ok:Qj P w H h)(e:Rd H a (.dT iw)):iw.length<=sizeLine/\(a==sysModules)=false /\
 ∃xs,KT H iw xs/\h.DictOfH (tupleKind (nq P w)) a xs:=by
 obtain⟨z,y,xs,r,o,es,ep,h1,h2,h3,h4,h5⟩:=(show Bv P w H h a (.dT iw) from axb ok e);refine⟨z,y,xs,r,o,es,ep,h1,h2,h3,h4,λx hx=>?_,h5⟩;have all:∀{l:List (List Key×V)}{m:List (List Key×Addr×Value)},KT H l m->∀x∈m,(tupleKind (nq P w)).is h x.1 x.2.1:=by
  intro l m q
  induction q with
  |nil=>intro x hx;exact nomatch hx
  |@cons p q ps qs hq t ih =>
   intro x hx;rcases bw.mp hx with e|hx
   . subst e
     exact Oz ok (by rw[<- hq.1];exact hq.2.1)
   . exact ih x hx
 exact all r x hx
def aok(ok:Qj P w H h)(e:H a=some (.dT iw)):iw.length<=sizeLine/\(a==sysModules)=false /\
 ∃xs,KT H iw xs/\h.DictOfH (tupleKind (nq P w)) a xs:=Zn ok (.inl e)
def O1(H:Hp)(a:Addr)(y:V)(r:Option V):Prop :=
 (∃iw k,Rd H a (.dK iw)/\y=kV k/\r=Ry iw k)\/∃iw k b,Rd H a (.dT iw)/\y=.ref b/\H b=some (.tup (k.map kV))/\r=Ry iw k
def agl(H:Hp)(a:Addr)(y v:V)(H':Hp):Prop :=
 (∃iw k,H a=some (.dK iw)/\y=kV k/\iw.length<sizeLine/\H'=upd H a (.dK (putK iw k v))) \/
 ∃iw k b,H a=some (.dT iw)/\y=.ref b/\H b=some (.tup (k.map kV))/\iw.length<sizeLine/\H'=upd H a (.dT (putK iw k v))
theorem O1.k{k:Key}(e:H a=some (.dK iw)):O1 H a (kV k) (Ry iw k):=.inl ⟨iw,k,.inl e,rfl,rfl⟩
def O1.t{k:List Key}(e:H a=some (.dT iw))(eb:H b=some (.tup (k.map kV))):O1 H a (.ref b) (Ry iw k):=.inr ⟨iw,k,b,.inl e,rfl,eb,rfl⟩
theorem agl.k{k:Key}(e:H a=some (.dK iw))(hl:iw.length<sizeLine):agl H a (kV k) v (upd H a (.dK (putK iw k v))):=.inl ⟨iw,k,e,rfl,hl,rfl⟩
def agl.t{k:List Key}(e:H a=some (.dT iw))(eb:H b=some (.tup (k.map kV)))(hl:iw.length<sizeLine) :
 agl H a (.ref b) v (upd H a (.dT (putK iw k v))):=.inr ⟨iw,k,b,e,rfl,eb,hl,rfl⟩
def Inv.big(I:Inv X pins σ H s):sysModules<s.heap.objs.size:=by
 have h:mainGlobals<s.heap.objs.size:=(I.mod.glob.keeps I.bk).lt
 exact Nat.lt_trans (by decide) h
def akl(hu:A.units+1<cLine)(I:Inv X pins σ H s)(g:O1 H a y (some v))(ry:RelV y u)(h:∀w' s',Inv X pins σ H s'->RelV v w'->Q w' s') :
 wpAny (model X.prog X.w) A (getItem (.ref a) u) Q E s:=by
 rcases g with⟨iw,k,e,ey,l⟩|⟨iw,k,b,e,ey,eb,l⟩
 . subst ey
   obtain⟨z,hd,vs,rel,dd⟩:=Wv I.An e;obtain⟨w',hw,rw'⟩:=Nj.some_of (v:=v) (o:=valueAt vs k) (by rw[l];exact rel.val k);exact wpAny_getItem_of (Zk ry) dd.mapOf hw (h w' _ (I.tok _) rw')
 . subst ey
   cases(show u=Value.ref b from ry);obtain⟨z,hd,xs,rel,dd⟩:=Zn I.An e;obtain⟨w',hw,rw'⟩:=Nj.some_of (v:=v) (o:=(atKey xs k).map (·.2)) (by rw[l];exact rel.val k);obtain⟨p,hp,hp2⟩:=cu.mp hw;refine wpAny_getItem_heap (vy hu) (Oz I.An eb) dd hp ?_;rw[hp2];exact h w' _ (I.tok _) rw'
def a7d(hu:A.units+1<cLine)(I:Inv X pins σ H s)(g:O1 H a y o)(ry:RelV y u)(h:∀s',Inv X pins σ H s'->Q (.bool o.isSome) s') :
 wpAny (model X.prog X.w) A (compareOp .In u (.ref a)) Q E s:=by
 rcases g with⟨iw,k,e,ey,l⟩|⟨iw,k,b,e,ey,eb,l⟩
 . subst ey
   obtain⟨z,hd,vs,rel,dd⟩:=Wv I.An e;refine wpAny_in_of (Zk ry) hd dd.mapOf ?_;rw[<- (rel.val k).K7,<- l];exact h _ (I.tok _)
 . subst ey
   cases(show u=Value.ref b from ry);obtain⟨z,hd,xs,rel,dd⟩:=Zn I.An e;refine wpAny_in_heap (vy hu) (Oz I.An eb) hd dd ?_;have q:=(rel.val k).K7;rw[Option.isSome_map] at q;rw[<- q,<- l];exact h _ (I.tok _)
def ah5(hu:A.units+1<cLine)(I:Inv X pins σ H s)(g:O1 H a y o)(ry:RelV y u)(h:∀s',Inv X pins σ H s'->Q (.bool (!o.isSome)) s') :
 wpAny (model X.prog X.w) A (compareOp .NotIn u (.ref a)) Q E s:=by
 rcases g with⟨iw,k,e,ey,l⟩|⟨iw,k,b,e,ey,eb,l⟩
 . subst ey
   obtain⟨z,hd,vs,rel,dd⟩:=Wv I.An e;refine wpAny_notIn_of (Zk ry) hd dd.mapOf ?_;rw[<- (rel.val k).K7,<- l];exact h _ (I.tok _)
 . subst ey
   cases(show u=Value.ref b from ry);obtain⟨z,hd,xs,rel,dd⟩:=Zn I.An e;refine wpAny_notIn_heap (vy hu) (Oz I.An eb) hd dd ?_;have q:=(rel.val k).K7;rw[Option.isSome_map] at q;rw[<- q,<- l];exact h _ (I.tok _)
def ah6(I:Inv X pins σ H s)(mu:Mut (H a))(hs:Heap.SameBut a s.heap h')(he:∃q,h'.get? a=some q)(new:Bv X.prog X.w (upd H a ob) h' a ob) :
 Inv X pins σ (upd H a ob) { s with heap:=h',toks:=t' } :=
 I.write (x:=a) (e:=a) mu (.inl rfl) (λb q hb z=>(hs.2 b hb).trans z) he new
def aol(z:iw.length<=sizeLine)(hd:(a==sysModules)=false)(rel:KV iw vs)(dd:h'.DictOf (nq P w) a vs) :
 Bv P w H' h' a (.dK iw):=⟨z,hd,vs,rel,dd⟩
def Zo(hu:A.units+1<cLine)(I:Inv X pins σ H s)(g:agl H a y v H')(ry:RelV y u)(rv:RelV v r)(h:∀s',Inv X pins σ H' s'->Q () s') :
 wpAny (model X.prog X.w) A (setItem (.ref a) u r) Q E s:=by
 rcases g with⟨iw,k,e,ey,l,eH⟩|⟨iw,k,b,e,ey,eb,l,eH⟩
 . subst ey eH
   obtain⟨z,hd,vs,rel,dd⟩:=a7c I.An e;have hz:vs.length<=sizeLine:=by rw[<- rel.length];exact z
   have hl:(putK iw k v).length<=sizeLine:=by have:=Uy iw k v;exact a_ this l
   refine wpAny_setItem_pairs (hsz:=hz) (Zk ry) dd λh' dd' hs=>h _ ?_
   have he:∃q,h'.get? a=some q:=let ⟨q,_,_,hq,_⟩:=dd';⟨q,hq⟩;exact ah6 I (by rw[e];exact True.intro) hs he (aol hl hd (rel.put k rv) dd')
 . subst ey eH
   cases(show u=Value.ref b from ry);obtain⟨z,hd,xs,rel,dd⟩:=aok I.An e;have hz:xs.length<=sizeLine:=by rw[<- Paired.length rel];exact z
   have hl:(putK iw k v).length<=sizeLine:=by have:=Uy iw k v;exact a_ this l
   refine wpAny_setItem_heap (hsz:=hz) (vy hu) (Oz I.An eb) dd λh' dd' hs=>h _ ?_
   obtain⟨q,es,ep,hq,h2,h3,h4,_,h5⟩:=dd';refine ah6 I (by rw[e];exact True.intro) hs ⟨q,hq⟩ ⟨hl,hd,_,(rel.put k eb rv).keeps λc ys ec=>?_,q,es,ep,hq,h2,h3,h4,h5⟩;rw[j8 (ani ec e (λz=>nomatch z))];exact ec
def adp(I:Inv X pins σ H s)(g:O1 H a y o):s.TypeIs (.ref a) "dict" := by
 rcases g with⟨iw,k,e,_,_⟩|⟨iw,k,b,e,_,_,_⟩
 . obtain⟨_,_,vs,_,dd⟩:=Wv I.An e
   exact dd.typeIs
 . obtain⟨_,_,xs,_,dd⟩:=Zn I.An e
   exact dd.typeIs
def aom(h:Heap)(hb:sysModules<h.objs.size):Bv P w H (h.push { cls:=.type "dict",data:=.dict #[] }) h.objs.size (.dK []) :=
 ⟨my _,ql.mpr (jz (dw hb)),[],.nil,Heap.DictOf.new h⟩
def aon(h:Heap)(hb:sysModules<h.objs.size):Bv P w H (h.push { cls:=.type "dict",data:=.dict #[] }) h.objs.size (.dT []) :=
 ⟨my _,ql.mpr (jz (dw hb)),[],.nil,_,#[],0,bf _ rfl,⟨rfl,rfl,rfl⟩,rfl,rfl,xf⟩
def a0b:TE:=λ_ H Q=>∀p,H p=none->Q (.ref p) (upd H p (.dK []))
def a0c:TE:=λ_ H Q=>∀p,H p=none->Q (.ref p) (upd H p (.dT []))
def aoo:PE X (.Dict [] [] pos) a0b:=λpins s σ H Q I h =>
 wpAny_Dict_empty ⟨.ref s.heap.objs.size,_,I.laid (a:=s.heap.objs.size) (o:=.dK []) (t':=s.toks) (λ_ _ q=>ao _ q) (bc _) (aom s.heap I.big),rfl,h _ (I.An.fresh (bc _))⟩
def aop:PE X (.Dict [] [] pos) a0c:=λpins s σ H Q I h =>
 wpAny_Dict_empty ⟨.ref s.heap.objs.size,_,I.laid (a:=s.heap.objs.size) (o:=.dT []) (t':=s.toks) (λ_ _ q=>ao _ q) (bc _) (aon s.heap I.big),rfl,h _ (I.An.fresh (bc _))⟩
def a0d(hu:A.units+1<cLine)(I:Inv X pins σ H s)(g:O1 H a y o)(ry:RelV y u)(rd:RelV d r)(h:∀w' s',Inv X pins σ H s'->RelV (o.getD d) w'->Q w' s') :
 wpAny (model X.prog X.w) A (call (.builtin "dict.get") [.ref a,u,r]) Q E s:=by
 rcases g with⟨iw,k,e,ey,l⟩|⟨iw,k,b,e,ey,eb,l⟩
 . subst ey
   obtain⟨z,hd,vs,rel,dd⟩:=Wv I.An e;refine call_meetsIn PySem.F.slot_dict_get dd.typeIs PySem.F.entry_dict_get (PySem.F.args_dict_get_3 _ _ _) (meets_dict_get_default (nq X.prog X.w) a (Zk ry) hd r) ⟨_,dd.mapOf,h _ _ (I.tok _) ?_⟩;rw[l];exact(rel.val k).getD rd
 . subst ey
   cases(show u=Value.ref b from ry);obtain⟨z,hd,xs,rel,dd⟩:=Zn I.An e;refine call_meetsIn PySem.F.slot_dict_get dd.typeIs PySem.F.entry_dict_get (PySem.F.args_dict_get_3 _ _ _) (meetsH_dict_get_default (tupleKind (nq X.prog X.w)) a b hd r) ⟨vy hu,k,xs,Oz I.An eb,dd,h _ _ (I.tok _) ?_⟩;rw[l];exact(rel.val k).getD rd
def aoq(I:Inv X pins σ H s)(e:Rd H a (.dK iw))(h:∀p s',H p=none->Inv X pins σ (upd H p (.dK iw)) s'->Q (.ref p) s'):wpAny (model X.prog X.w) A (call (.type "dict") [.ref a]) Q E s:=by
 obtain⟨z,hd,vs,rel,dd⟩:=Wv I.An e;refine kt_call_dict hd dd (by rw[<- rel.length];exact z) λh' dd' hs=>?_
 refine h _ _ (I.An.fresh (bc _)) (I.laid (a:=s.heap.objs.size) (o:=.dK iw) (t':=s.toks) (λb q hq=>?_) (bc _) (aol z (ql.mpr (jz (dw I.big))) rel dd'));exact(hs.2 b (dw (az hq))).trans (ao _ hq)
end L2
namespace HT
open PySem PyProof.Rows
def at8(ht:IsTup s.heap t vs.toArray)(hb:IsTup s.heap b ws.toArray)(h0:vs=[]->Q (.ref b) s)(h1:ws=[]->Q (.ref t) s)(h2:vs≠[]->ws≠[]->Q (.ref s.heap.objs.size) { s with heap:=s.heap.push { cls:=.type "tuple",data:=.seq (vs++ws).toArray } })(hsz:vs.length+ws.length<=sizeLine):wpAny (model prog w) A (binaryOp .Add (.ref t) (.ref b)) Q E s:=by
 obtain⟨⟨cls,dd,data,sl⟩,ho,hc,n,hd⟩:=id ht;obtain⟨⟨cls2,dd2,data2,sl2⟩,ho2,hc2,n2,hd2⟩:=id hb;simp only at hc hd hc2 hd2;subst hc hd hc2 hd2;have e:vs.toArray++ws.toArray=(vs++ws).toArray:=by simp
 by_cases hv:vs=[]
 . exact concat_meets ⟨_,ho,rfl⟩ ⟨_,ho2,rfl⟩ noFill_tuple_add seq_tuple_add PySem.F.slot_tuple_add PySem.F.entry_tuple_add (PySem.F.args_tuple_add_2 _ _)
    (tuple_addW0 t b vs.toArray ws.toArray n n2 dd dd2 sl sl2 (by simp[hv])) ⟨ho,ho2,h0 hv⟩
 by_cases hw:ws=[]
 . exact concat_meets ⟨_,ho,rfl⟩ ⟨_,ho2,rfl⟩ noFill_tuple_add seq_tuple_add PySem.F.slot_tuple_add PySem.F.entry_tuple_add (PySem.F.args_tuple_add_2 _ _)
    (tuple_addW1 t b vs.toArray ws.toArray n n2 dd dd2 sl sl2 (by simpa using hv) (by simp[hw])) ⟨ho,ho2,h1 hw⟩
 . refine concat_meets ⟨_,ho,rfl⟩ ⟨_,ho2,rfl⟩ noFill_tuple_add seq_tuple_add PySem.F.slot_tuple_add PySem.F.entry_tuple_add (PySem.F.args_tuple_add_2 _ _)
    (tuple_addW2 t b vs.toArray ws.toArray n n2 dd dd2 sl sl2 (by simpa using hv) (by simpa using hw) (by rw[gf,gf];exact hsz)) ⟨ho,ho2,?_⟩
   rw[e];exact h2 hv hw
noncomputable def Gv(n d:Nat):Option Int->Nat
 |none=>d|some v=>if v<0 then(v+(n:Int)).toNat else min v.toNat n
def a0e(n d:Nat)(hd:d<=n)(o:Option Int):Gv n d o<=n:=by
 cases o with
 |none=>exact hd
 |some v =>
  show(if v<0 then(v+(n:Int)).toNat else min v.toNat n)<=n
  by_cases hv:v<0
  . rw[cg hv];lia
  . rw[bx hv];exact Nat.min_le_right _ _
def ah7(v:Int)(n d:Nat):(if v<0 then max (v+(n:Int)) 0 else min v (n:Int))=((Gv n d (some v):Nat):Int):=by
 show(if v<0 then max (v+(n:Int)) 0 else min v (n:Int))=(((if v<0 then(v+(n:Int)).toNat else min v.toNat n):Nat):Int)
 by_cases hv:v<0
 . simp only[cg hv];lia
 . simp only[bx hv];lia
def agm(lo hi:Option Int)(n:Nat):Builtin.Slice.sliceAdjust lo hi 1 (n:Int)=(((Gv n 0 lo:Nat):Int),((Gv n n hi:Nat):Int)):=by
 have h1:¬((1:Int)<0):=by lia
 unfold Builtin.Slice.sliceAdjust;simp only[h1,jh];refine Prod.ext ?_ ?_
 . cases lo with
   |none=>rfl|some v=>exact ah7 v n 0
 . cases hi with
   |none=>rfl|some v=>exact ah7 v n n
def agn(i j:Nat):Builtin.Slice.slicePlaces (i:Int) (j:Int) 1=j-i:=by unfold Builtin.Slice.slicePlaces;have h1:(1:Int) > 0:=m_ (by decide);simp only[h1,ju,Int.ediv_one];split<;>lia
def Ww(p:IsPart v o)(h:Q o s):wpAny (model prog w) A (Builtin.Slice.slicePartIndex v) Q E s:=by
 cases p with
 |none=>exact slicePart_none h|int i t=>exact slicePart_int h
def T7{lo:Option Int}{n:Nat}(hs:s.heap.IsSliceOf sl vl vu .none)(pl:IsPart vl lo)(pu:IsPart vu hi)(h:Q (((Gv n 0 lo:Nat):Int),1,Gv n n hi-Gv n 0 lo) s):wpAny (model prog w) A (Builtin.Slice.sliceApplied (.ref sl) (pure (n:Int))) Q E s:=by obtain⟨os,hos,hcs,hds⟩:=id hs;unfold Builtin.Slice.sliceApplied Builtin.Slice.sliceFields;refine aa (aa (ie hos hds (x:=vl) rfl (aa (ie hos hds (x:=vu) rfl (aa (ie hos hds (x:=.none) rfl (aj ?_)))))));refine aa (slicePart_none ?_);show wpAny _ _ (if((1:Int)==0)=true then _ else _) _ _ s;rw[bx (by decide)];refine aa (Ww pl (aa (Ww pu (aa (aj ?_)))));show wpAny _ _ (match Builtin.Slice.sliceAdjust lo hi 1 (n:Int) with|(lo,hi)=>pure (lo,(1:Int),Builtin.Slice.slicePlaces lo hi 1)) _ _ s;rw[agm lo hi n];show wpAny _ _ (pure (((Gv n 0 lo:Nat):Int),(1:Int),Builtin.Slice.slicePlaces ((Gv n 0 lo:Nat):Int) ((Gv n n hi:Nat):Int) 1)) _ _ s;rw[agn];exact aj h
def aor(xs:U1)(i k:Nat):((List.range k).filterMap λ(m:Nat)=>xs[((i:Int)+(m:Int)*1).toNat]?).toArray=((xs.toList.drop i).take k).toArray:=by
 have e:(λ(m:Nat)=>xs[((i:Int)+(m:Int)*1).toNat]?)=λm=>xs[i+m]?:=by
  funext m
  have:((i:Int)+(m:Int)*1).toNat=i+m:=by lia
  rw[this]
 rw[e];have:=pick_run xs i k;rw[List.filterMap_map] at this;have e2:((λx=>xs[x]?) ∘ λx=>i+x)=λm=>xs[i+m]?:=rfl
 rw[e2] at this;rw[this]
def R9{lo:Option Int}(ht:IsTup s.heap t items)(hs:s.heap.IsSliceOf sl vl vu .none)(pl:IsPart vl lo)(pu:IsPart vu hi)(hw:Gv items.size 0 lo=0->Gv items.size items.size hi=items.size->Q (.ref t) s)(h:Q (.ref s.heap.objs.size) { s with heap:=s.heap.push { cls:=.type "tuple",data:=.seq ((items.toList.drop (Gv items.size 0 lo)).take (Gv items.size items.size hi-Gv items.size 0 lo)).toArray } })(hsz:items.size<=sizeLine):wpAny (model prog w) A (getItem (.ref t) (.ref sl)) Q E s:=by
 have ah8:sizeOk (.seq ((items.toList.drop (Gv items.size 0 lo)).take (Gv items.size items.size hi-Gv items.size 0 lo)).toArray):=by
  show((items.toList.drop (Gv items.size 0 lo)).take (Gv items.size items.size hi-Gv items.size 0 lo)).toArray.size<=sizeLine
  rw[gf,w5,wz,t7];omega
 have hj:Gv items.size items.size hi<=items.size:=a0e _ _ (bc _) hi
 obtain⟨os,hos,hcs,hds⟩:=id hs;have hTs:s.TypeIs (.ref sl) "slice" := ⟨os,hos,hcs⟩;unfold getItem
 try with_reducible refine jm ?_
 first|refine aa (aj ?_)|skip
 refine aa (wpAny_sequenceKey ht.typeIs (by decide) ?_);refine aa (jt (name:=Str.ofString "__getitem__") ht.typeIs yd
  (jk yd ht.typeIs entry_tuple_getitem ?_ (args_tuple_getitem _ _)))
 show wpAny _ _ (Builtin.Tuple.tupleItemsOf (.ref t) >>= _) _ _ s;refine aa (tupleItemsOf_ ht ?_);refine aa (qg hTs ?_);rw[cg (by decide)];refine aa (T7 hs pl pu ?_);show wpAny _ _ (if(((Gv items.size 0 lo:Nat):Int)==0&&(1:Int)==1&&(Gv items.size items.size hi-Gv items.size 0 lo)==items.size)=true then _ else _) _ _ s
 by_cases Y7:(((Gv items.size 0 lo:Nat):Int)==0&&(1:Int)==1&&(Gv items.size items.size hi-Gv items.size 0 lo)==items.size)=true
 . rw[cg Y7]
   rw[aq,aq] at Y7;have q1:((Gv items.size 0 lo:Nat):Int)=0:=eq_of_beq Y7.1.1;have q2:Gv items.size items.size hi-Gv items.size 0 lo=items.size:=eq_of_beq Y7.2;have q3:=hw (by lia) (by lia);refine aa (m:=Builtin.Tuple.tupleIsExact (.ref t)) (aa (qg ht.typeIs (aj ?_)));rw[cg (by decide)];exact aa (wpAny_rule (aj ⟨_,rfl,aj q3⟩))
 rw[bx Y7,aor]
 first
  |exact aa (m:=Builtin.Tuple.tupleExact _) (jw (aj ⟨_,rfl,aj h⟩) ah8)
  |exact aa (m:=Builtin.Tuple.tupleExact _) (jw (aa (aj (aj ⟨_,rfl,aj h⟩))) ah8)
  |exact aa (aa (m:=Builtin.Tuple.tupleExact _) (jw (aj (aj ⟨_,rfl,aj h⟩)) ah8))
  |exact aa (aa (m:=Builtin.Tuple.tupleExact _) (jw (aj ⟨_,rfl,aj h⟩) ah8))
end HT
namespace L2
open PySem PySem.Spec PyProof.Rows
abbrev TO:=St->Hp->(Option Int->Hp->Prop)->Prop
def PO(X:Cx)(e:Option Expr)(t:TO):Prop :=
 ∀(pins:Zp)(s:Shared)(σ:St)(H:Hp)(Q:Option Int->Hp->Prop),Inv X pins σ H s->t σ H Q ->
  wpAny (model X.prog X.w) X.A (evalPart e X.env) (λu s'=>∃o H',Inv X pins σ H' s'/\IsPart u o/\Q o H') X.xe s
def at9:TO:=λ_ H Q=>Q none H
def a7f(t:TE):TO:=fun σ H Q=>t σ H λx H1=>∃i,x=.int i/\Q (some i) H1
def aua:PO X none at9:=by intro pins s σ H Q I h;rw[evalPart_none];exact aj ⟨none,H,I,.none,h⟩
def aub(h:PE X e te):PO X (some e) (a7f te):=by
 intro pins s σ H Q I hw;rw[evalPart_some];refine Bq (h pins s σ H _ I hw) λu s1 ⟨x,H1,I1,r1,q1⟩=>?_
 obtain⟨i,rfl,q⟩:=q1;obtain⟨t,rfl⟩:=r1;exact⟨some i,H1,I1,.int i t,q⟩
def SlR(X:Cx)(r:V->Option Int->Option Int->Hp->VK->Prop):Prop :=
 ∀(pins:Zp)(s:Shared)(σ:St)(H:Hp)(x:V)(v vl vu:Value)(lo hi:Option Int)(sl:Addr)(Q:VK),Inv X pins σ H s->RelV x v->s.heap.IsSliceOf sl vl vu .none->IsPart vl lo->IsPart vu hi->r x lo hi H Q ->
  ∃T id,typeLookup (.type T) "__getitem__" = pure (some (.builtin id))/\s.TypeIs v T/\wpAny (model X.prog X.w) X.A (getItem v (.ref sl)) (EP X pins σ Q) X.xe s
def SlR.or(h:SlR X r)(h':SlR X r'):SlR X (λx lo hi H Q=>r x lo hi H Q\/r' x lo hi H Q):=by
 intro pins s σ H x v vl vu lo hi sl Q I rx hs pl pu q;rcases q with q|q
 . exact h pins s σ H x v vl vu lo hi sl Q I rx hs pl pu q
 . exact h' pins s σ H x v vl vu lo hi sl Q I rx hs pl pu q
def tSl(r:V->Option Int->Option Int->Hp->VK->Prop)(te:TE)(tl th:TO):TE:=fun σ H Q=>te σ H λx H1=>tl σ H1 λl H2=>th σ H2 λu H3=>r x l u H3 Q
def aos{lo:Option Expr}(hr:SlR X r)(he:PE X e te)(hl:PO X lo tl)(hu:PO X hi th):PE X (.Subscript e (.Slice lo hi none p2) pos) (tSl r te tl th):=by
 intro pins s σ H Q I h;refine Subscript_ (Bq (he pins s σ H _ I h) λv s1 ⟨x,H1,I1,r1,q1⟩=>?_);refine wpAny_Slice (Bq (hl pins s1 σ H1 _ I1 q1) λvl s2 ⟨l,H2,I2,pl,q2⟩=>Bq (hu pins s2 σ H2 _ I2 q2) λvu s3 ⟨u,H3,I3,pu,q3⟩=>?_);rw[evalPart_none];refine aj ?_;have I4:Inv X pins σ H3 { s3 with heap:=s3.heap.push { cls:=.type "slice",data:=.fields #[vl,vu,.none] } }:=I3.kept (t':=s3.toks) λb ob q=>ao _ q
 obtain⟨T,id,hT,ht,hg⟩:=hr pins { s3 with heap:=s3.heap.push { cls:=.type "slice",data:=.fields #[vl,vu,.none] } } σ H3 x v vl vu l u s3.heap.objs.size Q I4 r1 (Heap.IsSliceOf.new ..) pl pu q3;show wpAny (model X.prog X.w) X.A (subscriptTail e (.Slice lo hi none p2) v (.ref s3.heap.objs.size)) (EP X pins σ Q) X.xe { s3 with heap:=s3.heap.push { cls:=.type "slice",data:=.fields #[vl,vu,.none] } };exact tail_any (ops:=[.ref s3.heap.objs.size,v]) ht hT hg (by with_unfolding_all rfl)
noncomputable def Vj(xs:List V)(lo hi:Option Int):List V:=(xs.drop (HT.Gv xs.length 0 lo)).take (HT.Gv xs.length xs.length hi-HT.Gv xs.length 0 lo)
def Uz(xs:List V)(lo hi:Option Int):(Vj xs lo hi).length<=xs.length:=by
 unfold Vj;rw[w5,wz]
 lia
def bd3(K:Fg):V->Option Int->Option Int->Hp->VK->Prop:=λx lo hi H Q=>∃a xs,x=.ref a/\Dw K H a xs /\
 (HT.Gv xs.length 0 lo=0->HT.Gv xs.length xs.length hi=xs.length->Q (.ref a) H)/\∀p,H p=none->Q (.ref p) (upd H p (.tup (Vj xs lo hi)))
def a0f:SlR X (bd3 X.K):=by
 intro pins s σ H x v vl vu lo hi sl Q I rx hs pl pu h;obtain⟨a,xs,rfl,hx,hw,q⟩:=h;cases rx;obtain⟨xq,r,ht,hz⟩:=I.tuple hx;have hlen:xq.toArray.size=xs.length:=by rw[gf];exact r.length.symm
 refine⟨"tuple",_,yd.lookup,ht.typeIs,?_⟩;refine HT.R9 ht hs pl pu (by rw[hlen];exact λz1 z2=>⟨.ref a,H,I,rfl,hw z1 z2⟩) ?_ (by rw[hlen];exact hz);rw[hlen];refine⟨.ref s.heap.objs.size,_,I.laid (t':=s.toks) (o:=.tup (Vj xs lo hi)) (λb ob q=>ao _ q) (bc _) ?_,rfl,q _ (I.An.fresh (bc _))⟩;exact⟨gn (Uz xs lo hi) hz,_,(r.drop (HT.Gv xs.length 0 lo)).take (HT.Gv xs.length xs.length hi-HT.Gv xs.length 0 lo),Vg.new _ _⟩
def a7g(K:Fg):R2:=λx y H Q=>∃a b xs ys,x=.ref a/\y=.ref b/\Dw K H a xs/\Dw K H b ys/\xs.length+ys.length<=sizeLine /\
 (xs=[]->Q (.ref b) H)/\(ys=[]->Q (.ref a) H)/\(∀p,H p=none->Q (.ref p) (upd H p (.tup (xs++ys))))
def Vals.ah9(r:Vals xs us):us=[]↔xs=[]:=by
 cases r with
 |nil=>simp|cons _ _=>simp
def auc:Cz X (binaryOp .Add) (a7g X.K):=by intro pins s σ H x y v u Q I rx ry h;obtain⟨a,b,xs,ys,rfl,rfl,ha,hb,hz,q0,q1,q2⟩:=h;cases rx;cases ry;obtain⟨xq,r1,p1,_⟩:=I.tuple ha;obtain⟨a0g,r2,p2,_⟩:=I.tuple hb;refine HT.at8 p1 p2 (λz=>⟨.ref b,H,I,rfl,q0 (r1.ah9.mp z)⟩) (λz=>⟨.ref a,H,I,rfl,q1 (r2.ah9.mp z)⟩) (λ_ _=>?_) (by rw[<- r1.length,<- r2.length];exact hz);refine⟨.ref s.heap.objs.size,_,I.laid (t':=s.toks) (o:=.tup (xs++ys)) (λb ob q=>ao _ q) (bc _) ?_,rfl,q2 _ (I.An.fresh (bc _))⟩;exact⟨by rw[m6];exact hz,_,r1.append r2,Vg.new _ _⟩
end L2
namespace L2
open PySem PySem.Spec PyProof.Rows
noncomputable def ixN(n:Nat)(i:Int):Option Nat:=if 0<=i then(if i<n then some i.toNat else none) else if -(n:Int)<=i then some (i+n).toNat else none
noncomputable def atI{α:Type}(xs:List α)(i:Int):Option α:=(ixN xs.length i).bind λj=>xs[j]?
def aia(h:ixN n i=some j):seqIndex? i n=some j/\j<n/\-(n:Int)<=i/\i<n:=by
 unfold ixN at h
 by_cases h0:0<=i
 . rw[cg h0] at h
   by_cases h1:i<n
   . rw[cg h1] at h
     have e:i.toNat=j:=jq h;exact⟨by rw[seqIndex_of h0 h1,e],by lia,by lia,h1⟩
   . rw[bx h1] at h;cases h
 . rw[bx h0] at h
   by_cases h1:-(n:Int)<=i
   . rw[cg h1] at h
     have e:(i+n).toNat=j:=jq h;exact⟨by rw[seqIndex_neg (by lia) h1,e],by lia,h1,by lia⟩
   . rw[bx h1] at h;cases h
def aib(h:atI xs i=some v):∃j,seqIndex? i xs.length=some j/\xs[j]?=some v/\j<xs.length/\-(xs.length:Int)<=i/\i<xs.length:=by
 unfold atI at h;cases e:ixN xs.length i with
 |none=>rw[e] at h;cases h
 |some j =>
  rw[e] at h;obtain⟨h1,h2,h3,h4⟩:=aia e;exact⟨j,h1,h,h2,h3,h4⟩
def aba(b:Expr):Prop:=∀o i,subscripted b false o i=operate [o,i] (getItem o i)
def IxR(X:Cx)(r:R2):Prop :=
 ∀(value slice:Expr)(pins:Zp)(s:Shared)(σ:St)(H:Hp)(x y:V)(v u:Value)(Q:VK),Inv X pins σ H s->RelV x v->RelV y u->r x y H Q ->
  subscripted slice false v u=operate [v,u] (getItem v u)->wpAny (model X.prog X.w) X.A (subscriptTail value slice v u) (EP X pins σ Q) X.xe s
def MtR(X:Cx)(id:String)(r:V->List V->Hp->VK->Prop):Prop :=
 ∀(pins:Zp)(s:Shared)(σ:St)(H:Hp)(x:V)(xs:List V)(v:Value)(us:Zl)(Q:VK),Inv X pins σ H s->RelV x v->Vals xs us->r x xs H Q ->
  wpAny (model X.prog X.w) X.A (call (.builtin id) (v::us)) (EP X pins σ Q) X.xe s
def a7j(hr:IxR X r)(ha:PE X a ta)(hb:PE X b tb)(hs:aba b):PE X (.Subscript a b pos) (tOp r ta tb):=by intro pins s σ H Q I h;exact Subscript_ (azy ha hb I h λv u s2 x y H2 I2 rx ry q=>hr a b pins s2 σ H2 x y v u Q I2 rx ry q (hs _ _))
def bd4(K:Fg):R2:=λx y H Q=>∃p xs i v,x=.ref p/\y=.int i/\Hm K H p xs/\atI xs i=some v/\Q v H
def bd5(K:Fg):R2:=λx y H Q=>∃p xs i v,x=.ref p/\y=.int i/\Dw K H p xs/\atI xs i=some v/\Q v H
def Ce:IxR X (bd4 X.K):=by
 intro value slice pins s σ H x y v u Q I rx ry h hs;obtain⟨p,xs,i,z,rfl,rfl,hq,he,q⟩:=h;cases rx;obtain⟨t,rfl⟩:=ry;obtain⟨xq,r,pl,hz⟩:=I.list hq;obtain⟨j,h1,h2,h3,h4,h5⟩:=aib he;obtain⟨w,ew,rw'⟩:=r.get h2;have hl:=r.length;have hn:=aa9;have fin:EP X pins σ Q w s:=⟨z,H,I,rw',q⟩
 by_cases h0:0<=i
 . have hj:i.toNat=j:=by
    rw[seqIndex_of h0 h5] at h1;exact jq h1
   exact item_listR pl.isList h0 (by lia) (by rw[hj];simpa using ew) fin hs
 . have hj:(i+(xq.toArray.size:Int)).toNat=j:=by
    rw[seqIndex_neg (by lia) h4] at h1;rw[gf,<- hl];exact jq h1
   exact subscriptTail_builtinR (x:=w) pl.isList.typeIs slot_list_getitem.lookup
    (wpAny_getItem_list_neg (Q:=λr s'=>r=w/\EP X pins σ Q r s') pl.isList (by lia) (by rw[gf]<;>lia) (by lia) (by rw[hj];simpa using ew) ⟨rfl,fin⟩) hs
def Hv:IxR X (bd5 X.K):=by
 intro value slice pins s σ H x y v u Q I rx ry h hs;obtain⟨p,xs,i,z,rfl,rfl,hq,he,q⟩:=h;cases rx;obtain⟨t,rfl⟩:=ry;obtain⟨xq,r,pl,hz⟩:=I.tuple hq;obtain⟨j,h1,h2,h3,h4,h5⟩:=aib he;obtain⟨w,ew,rw'⟩:=r.get h2;have hl:=r.length;have hn:=aa9;have fin:EP X pins σ Q w s:=⟨z,H,I,rw',q⟩;exact subscriptTail_builtinR (x:=w) pl.typeIs slot_tuple_getitem.lookup
  (getItem_tuple (j:=j) (Q:=λr s'=>r=w/\EP X pins σ Q r s') pl (by lia) (by lia) (by rw[gf,<- hl];exact h1) (by simpa using ew) ⟨rfl,fin⟩) hs
def ago(xq:Zl)(n j:Nat)(u:Value):Obj.mapSeq (·.setIfInBounds j u) { cls:=.type "list",data:=.seq xq.toArray n }={ cls:=.type "list",data:=.seq (xq.set j u).toArray n }:=by simp[Obj.mapSeq]
theorem Inv.lst{X:Cx}{pins:Zp}{σ:St}{H:Hp}{s:Shared}{p:Addr}{xs:List V}(I:Inv X pins σ H s)(h:H p=some (.lst xs)) :
 ∃(xq:Zl)(n:Nat),Vals xs xq/\s.heap.get? p=some { cls:=.type "list",data:=.seq xq.toArray n }/\xs.length<=sizeLine:=by
 obtain⟨z,xq,n,r,e⟩:=I.An p _ h;exact⟨xq,n,r,e,z⟩
def Inv.a0h{xq:Zl}(I:Inv X pins σ H s)(h:H p=some (.lst xs))(ho:s.heap.get? p=some { cls:=.type "list",data:=.seq xq.toArray n })(hf:f { cls:=.type "list",data:=.seq xq.toArray n }={ cls:=.type "list",data:=.seq its'.toArray n' })(r:Vals ys its')(hz:ys.length<=sizeLine)(t:Nat) :
 Inv X pins σ (upd H p (.lst ys)) { s with heap:=s.heap.update p f,toks:=t }:=by
 have e:(s.heap.update p f).get? p=some { cls:=.type "list",data:=.seq its'.toArray n' }:=by rw[mz f ho (by rw[hf]<;>rfl),hf]
 refine I.write (x:=p) (e:=p) (by rw[h];trivial) (.inl rfl) (λb u hb q=>(uf _ _ (jz hb)).trans q) ⟨_,e⟩ ?_;exact⟨hz,its',n',r,e⟩
def a7k:V->V->V->Hp->(Hp->Prop)->Prop:=λo i v H Q=>∃p xs k j,o=.ref p/\i=.int k/\H p=some (.lst xs)/\ixN xs.length k=some j/\Q (upd H p (.lst (xs.set j v)))
def set_list:azr X a7k:=by
 intro pins s σ H o i v ov iv u Q I ro ri rv h;obtain⟨p,xs,k,j,rfl,rfl,hp,hj,q⟩:=h;cases ro;obtain⟨t,rfl⟩:=ri;obtain⟨xq,n,r,ho,hz⟩:=I.lst hp;obtain⟨h1,h2,h3,h4⟩:=aia hj;have hl:=r.length;have hn:=aa9;have I':Inv X pins σ (upd H p (.lst (xs.set j v))) { s with heap:=s.heap.update p (Obj.mapSeq (·.setIfInBounds j u)) } :=
  I.a0h hp ho (ago xq n j u) (r.set rv j) (by rw[List.length_set];exact hz) s.toks
 by_cases h0:0<=k
 . have hk:k.toNat=j:=by
    rw[seqIndex_of h0 h4] at h1;exact jq h1
   exact PySem.W.ki_setAt ho h0 (by lia) (by rw[gf,<- hl];exact h4) (by rw[hk];exact⟨_,I',q⟩)
 . have hk:(k+(xq.toArray.size:Int)).toNat=j:=by
    rw[seqIndex_neg (by lia) h3] at h1;rw[gf,<- hl];exact jq h1
   exact PySem.W.ki_setBack ho (by lia) (by rw[gf,<- hl];exact h3) (by lia) (by rw[hk];exact⟨_,I',q⟩)
def abb(lo hi:Option Int)(n:Nat):(sliceBounds lo hi none n).1=((HT.Gv n 0 lo:Nat):Int)/\(sliceBounds lo hi none n).2.1=((HT.Gv n n hi:Nat):Int)/\(sliceBounds lo hi none n).2.2=1:=by
 refine⟨?_,?_,rfl⟩
 . cases lo with
   |none=>simp[sliceBounds,HT.Gv]
   |some i =>
    simp only[sliceBounds,HT.Gv,Option.getD_none,show(1:Int) > 0 by decide,ju]
    by_cases h:i<0
    . simp only[h,ju]<;>lia
    . simp only[h,jh]<;>lia
 . cases hi with
   |none=>simp[sliceBounds,HT.Gv]
   |some i =>
    simp only[sliceBounds,HT.Gv,Option.getD_none,show(1:Int) > 0 by decide,ju]
    by_cases h:i<0
    . simp only[h,ju]<;>lia
    . simp only[h,jh]<;>lia
def Yq(xq:Zl)(lo hi:Option Int):slicePick xq.toArray lo hi none=((xq.drop (HT.Gv xq.length 0 lo)).take (HT.Gv xq.length xq.length hi-HT.Gv xq.length 0 lo)).toArray:=by obtain⟨h1,h2,h3⟩:=abb lo hi xq.toArray.size;unfold slicePick;rw[h1,h2,h3];simp only[sliceRange_one,pick_run,gf]<;>rfl
def a7l(K:Fg):V->Option Int->Option Int->Hp->VK->Prop:=λx lo hi H Q=>∃a xs,x=.ref a/\Hm K H a xs/\∀p,H p=none->Q (.ref p) (upd H p (.lst (Vj xs lo hi)))
def aud:SlR X (a7l X.K):=by intro pins s σ H x v vl vu lo hi sl Q I rx hs pl pu h;obtain⟨a,xs,rfl,hx,q⟩:=h;cases rx;obtain⟨xq,r,ht,hz⟩:=I.list hx;have hlen:=r.length;refine⟨"list",_,slot_list_getitem.lookup,ht.isList.typeIs,?_⟩;refine wpAny_getItem_list_slice ht.isList hs pl pu .none (by simp) ?_ (by rw[gf]<;>exact a_ (g_ hlen) hz);rw[Yq,<- hlen];refine⟨.ref s.heap.objs.size,_,I.laid (t':=s.toks) (o:=.lst (Vj xs lo hi)) (λb ob q=>ao _ q) (bc _) ?_,rfl,q _ (I.An.fresh (bc _))⟩;exact⟨gn (Uz xs lo hi) hz,_,0,(r.drop (HT.Gv xs.length 0 lo)).take (HT.Gv xs.length xs.length hi-HT.Gv xs.length 0 lo),bf _ rfl⟩
def abd:Bx X (.builtin "len") (λxs H Q=>∃p ys,xs=[.ref p]/\(Hm X.K H p ys\/Dw X.K H p ys)/\Q (.int ys.length) H):=by
 intro pins s σ H xs us Q I r h;obtain⟨p,ys,rfl,hq,q⟩:=h;obtain⟨u,rfl,rx⟩:=vals1 r;cases rx;have hn:=aa9;rcases hq with hq|hq
 . obtain⟨xq,r',pl,hz⟩:=I.list hq
   have hlen:=r'.length;exact Calls.call_len_list pl.isList (by simp only[gf]<;>lia) ⟨.int ys.length,H,I.tok _,⟨s.toks+1,by rw[gf,hlen]⟩,q⟩
 . obtain⟨xq,r',pl,hz⟩:=I.tuple hq
   have hlen:=r'.length;exact len_tuple pl (by simp only[gf]<;>lia) ⟨.int ys.length,H,I.tok _,⟨s.toks+1,by rw[gf,hlen]⟩,q⟩
def abe:Bx X (.type "list") (λxs H Q=>∃p ys,xs=[.ref p]/\(Hm X.K H p ys\/Dw X.K H p ys)/\∀l,H l=none->Q (.ref l) (upd H l (.lst ys))):=by
 intro pins s σ H xs us Q I r h;obtain⟨p,ys,rfl,hq,q⟩:=h;obtain⟨u,rfl,rx⟩:=vals1 r;cases rx;have fin:∀(xq:Zl),Vals ys xq->ys.length<=sizeLine->∀(h':Heap)(c':Nat),(∀b o',s.heap.get? b=some o'->h'.get? b=some o') ->
  h'.get? s.heap.objs.size=some { cls:=.type "list",dict:=none,data:=.seq xq.toArray c',slots:=#[] }->EP X pins σ Q (.ref s.heap.objs.size) { s with heap:=h' }:=λxq r' hz h' c' kp e =>
  ⟨.ref s.heap.objs.size,_,I.laid (t':=s.toks) kp (bc _) (show Bv X.prog X.w _ h' _ (.lst ys) from⟨hz,xq,c',r',e⟩),rfl,q _ (I.An.fresh (bc _))⟩
 rcases hq with hq|hq
 . obtain⟨xq,r',pl,hz⟩:=I.list hq
   have hlen:=r'.length;obtain⟨o,ho,hc,n,hd⟩:=pl.isList;exact call_list_seq p (.inl rfl) ho hc hd (λh' c' kp e=>fin xq r' hz h' c' kp e) (by simp only[gf]<;>exact a_ (g_ hlen) hz)
 . obtain⟨xq,r',pl,hz⟩:=I.tuple hq
   have hlen:=r'.length;obtain⟨o,ho,hc,n,hd⟩:=pl;exact call_list_seq p (.inr rfl) ho hc hd (λh' c' kp e=>fin xq r' hz h' c' kp e) (by simp only[gf]<;>exact a_ (g_ hlen) hz)
def Yr:Bx X (.type "tuple") (λxs H Q=>∃p ys,xs=[.ref p]/\((Hm X.K H p ys/\∀l,H l=none->Q (.ref l) (upd H l (.tup ys)))\/(Dw X.K H p ys/\Q (.ref p) H))):=by
 intro pins s σ H xs us Q I r h;obtain⟨p,ys,rfl,h⟩:=h;obtain⟨u,rfl,rx⟩:=vals1 r;cases rx;rcases h with⟨hq,q⟩|⟨hq,q⟩
 . obtain⟨xq,r',pl,hz⟩:=I.list hq
   have hlen:=r'.length;refine call_tuple_list pl.isList (λh' kp=>?_) (by simp only[gf]<;>exact a_ (g_ hlen) hz);have I1:Inv X pins σ H { s with heap:=h' }:=I.kept (t':=s.toks) kp;have I2:Inv X pins σ (upd H h'.objs.size (.tup ys)) { s with heap:=h'.push { cls:=.type "tuple",data:=.seq xq.toArray } } :=
    I1.laid (t':=s.toks) (λb o e=>ao _ e) (bc _) (show Bv X.prog X.w _ _ _ (.tup ys) from⟨hz,xq,r',Vg.new _ _⟩)
   exact⟨.ref h'.objs.size,_,I2,rfl,q _ (I1.An.fresh (bc _))⟩
 . obtain⟨xq,r',pl,hz⟩:=I.tuple hq
   exact call_tuple_same pl ⟨.ref p,H,I,rfl,q⟩
def tyV(K:Fg)(T:String)(x:V)(H:Hp):Prop:=match x with
 |.str _=>T = "str"|.int _=>T = "int"
 |.ref p=>(T = "list"/\∃xs,Hm K H p xs)\/(T = "tuple"/\∃o,K.lookup p=some o/\o.cls=.type "tuple"/\o.dict=none) \/
  (T = "dict"/\((∃iw,H p=some (.dK iw))\/∃iw,H p=some (.dT iw)))\/(T = "set"/\∃S n,H p=some (.set S n))
 |_=>False
def a0i(I:Inv X pins σ H s)(r:RelV x v)(ty:tyV X.K T x H) :
 s.TypeIs v T/\∀a,v=.ref a->∃ob,s.heap.get? a=some ob/\ob.dict=none:=by
 cases x with
 |str z =>
  obtain⟨t,rfl⟩:=r;cases(show T = "str" from ty);exact⟨typeIs_str s z t,λ_ e=>nomatch e⟩
 |int i =>
  obtain⟨t,rfl⟩:=r;cases(show T = "int" from ty);exact⟨typeIs_int s i t,λ_ e=>nomatch e⟩
 |ref p =>
  cases r;rcases ty with⟨rfl,xs,hq⟩|⟨rfl,o,hk,hc,hd⟩|⟨rfl,hk⟩|⟨rfl,S,n,hk⟩
  . obtain⟨xq,_,pl,_⟩:=I.list hq
    refine⟨pl.isList.typeIs,λa e=>?_⟩;cases e;obtain⟨o,n,e,c,hd,_⟩:=pl;exact⟨o,e,hd⟩
  . refine⟨⟨o,I.kIn p o hk,hc⟩,λa e=>?_⟩
    cases e;exact⟨o,I.kIn _ o hk,hd⟩
  . have z:∃o,s.heap.get? p=some o/\o.ExactDict:=by
     rcases hk with⟨iw,hk⟩|⟨iw,hk⟩
     . obtain⟨_,_,_,_,o,_,_,e,ex,_⟩:=I.An p _ hk
       exact⟨o,e,ex⟩
     . obtain⟨_,_,_,_,o,_,_,e,ex,_⟩:=I.An p _ hk
       exact⟨o,e,ex⟩
    obtain⟨o,e,ex⟩:=z;refine⟨⟨o,e,ex.1⟩,λa e2=>?_⟩;cases e2;exact⟨o,e,ex.2.1⟩
  . obtain⟨o,_,_,_,e,ex,_⟩:=I.An p _ hk
    refine⟨⟨o,e,ex.1⟩,λa e2=>?_⟩;cases e2;exact⟨o,e,ex.2.1⟩
 |_=>exact False.elim ty
def tBM(K:Fg)(T:String)(r:V->List V->Hp->VK->Prop)(to:TE)(t:TA):TE:=fun σ H Q=>to σ H λx H1=>tyV K T x H1/\t σ H1 λxs H2=>r x xs H2 Q
theorem a7m{id:String}(pa:PlainAttrs T)(slot:Slot T name id)(hty:typeOf (.builtin id)=pure (.type "method_descriptor"))(hm:MtR X id r)(ho:PE X o to)(ha:PA X (e::es) t)(aot:attributeBase o name X.env (eval o X.env)=eval o X.env:=by rfl)(a0j:((backTo Wx (starEach (e::es) X.env)).all (λx=>!x.1)&&(backToKw Wx (keywordEach [] X.env)).all (λx=>x.1.isSome)
&&decide ((e::es).length+([]:List Keyword).length+(if([]:List Keyword).isEmpty then 0 else 1)<30))=true:=by rfl)(aou:(apos.endLine==Wx.line)=true:=by rfl)(hs:starEach (e::es) X.env=(false,eval e X.env)::starEach es X.env:=by rfl)(agp:(backTo Wx (starEach es X.env)).any (·.1)=false:=by rfl) :
 PE X (.Call (.Attribute o name apos) (e::es) [] Wx) (tBM X.K T r to t):=by
 intro pins s σ H Q I h;refine wpAny_Call_method_late aot a0j aou rfl (Bq (ho pins s σ H _ I h) λv s1 ⟨x,H1,I1,r1,ty,q1⟩=>?_);obtain⟨h1,h2⟩:=a0i I1 r1 ty;refine⟨T,id,pa,slot,hty,h1,h2,?_⟩;have hA:=ha Wx pins s1 σ H1 _ I1 q1;rw[hs] at hA ⊢;refine Calls.callWith_builtin (by show(false||(backTo Wx (starEach es X.env)).any (·.1))=false;rw[agp]<;>rfl) (Calls.evalArgs_plain ?_);exact Bq hA λus s2 ⟨vs,H2,I2,r2,q2⟩=>hm pins s2 σ H2 x vs v us Q I2 r1 r2 q2
end L2
namespace L2
open PySem PySem.Spec PyProof.Rows
def MtM(X:Cx)(id:String)(r:V->List V->Hp->VK->Prop):Prop :=
 ∀(pins:Zp)(s:Shared)(σ:St)(H:Hp)(x:V)(xs:List V)(v:Value)(us:Zl)(Q:VK),Inv X pins σ H s->RelV x v->Vals xs us->r x xs H Q ->
  wpAny (model X.prog X.w) X.A (call (.builtin id) (v::us)) (EP X pins σ Q) X.xe s
theorem Vals.one:∀{x:V}{us:Zl},Vals [x] us->∃u,us=[u]/\RelV x u
 |_,_,.cons r .nil=>⟨_,rfl,r⟩
def Inv.bd6{xq:Zl}(I:Inv X pins σ H s)(hH:H l=some (.lst xs))(e:s.heap.get? l=some { cls:=.type "list",data:=.seq xq.toArray n })(hf:f xq.toArray=its'.toArray)(hv:Vals ys its')(hz:ys.length<=sizeLine) :
 Inv X pins σ (upd H l (.lst ys)) { s with heap:=s.heap.update l (Obj.mapSeq f),toks:=t' }:=by
 have q:=PySem.IsL.update e f;rw[hf] at q;refine I.write (x:=l) (e:=l) (by rw[hH];exact trivial) (.inl rfl) (λb' u hb hu=>(uf s.heap (Obj.mapSeq f) (jz hb)).trans hu) ⟨_,q⟩ ?_;exact⟨hz,its',_,hv,q⟩
def Inv.bd7(I:Inv X pins σ H s)(hv:Vals ys xq)(hz:ys.length<=sizeLine) :
 Inv X pins σ (upd H s.heap.objs.size (.lst ys)) { s with heap:=s.heap.push { cls:=.type "list",data:=.seq xq.toArray },toks:=t' } :=
 I.laid (λ_ _ q=>ao _ q) (bc _) ⟨hz,xq,0,hv,bf _ rfl⟩
theorem Inv.fresh(I:Inv X pins σ H s):H s.heap.objs.size=none:=I.An.fresh (bc _)
def Inv.aue(I:Inv X pins σ H s)(hH:H l=some (.lst xs)):xs.length<=sizeLine/\∃(xq:Zl)(n:Nat),Vals xs xq/\xs.length=xq.length/\s.heap.get? l=some { cls:=.type "list",data:=.seq xq.toArray n }:=by obtain⟨z,xq,n,r,e⟩:=I.An l _ hH;exact⟨z,xq,n,r,r.length,e⟩
def auf:V->List V->Hp->VK->Prop:=λx vs H Q=>∃l xs y,x=.ref l/\vs=[y]/\H l=some (.lst xs)/\xs.length<sizeLine/\Q .non (upd H l (.lst (xs++[y])))
def Zq:MtM X "list.append" auf:=by intro pins s σ H x vs v us Q I rx rv h;obtain⟨l,xs,y,rfl,rfl,hH,hz,q⟩:=h;cases rx;obtain⟨u,rfl,ru⟩:=rv.one;obtain⟨z,xq,n,r,hl,e⟩:=I.aue hH;refine call_meets F.slot_list_append ⟨_,e,rfl⟩ F.entry_list_append (F.args_list_append_2 _ _) (PySem.list_append l xq.toArray n u (by rw[gf];exact e_ (c_ (g_ hl) hz))) ⟨e,?_⟩;refine⟨.non,_,I.bd6 (its':=xq++[u]) hH e (by simp) (r.append (.cons ru .nil)) ?_,rfl,q⟩;rw[m6,List.length_singleton];exact hz
def a7n:R2:=λx y H Q=>∃l b xs zs,x=.ref l/\y=.ref b/\H l=some (.lst xs)/\H b=some (.lst zs)/\xs.length+zs.length<=sizeLine/\∀p,H p=none->Q (.ref p) (upd H p (.lst (xs++zs)))
def aov:Cz X (binaryOp .Add) a7n:=by
 intro pins s σ H x y v u Q I rx ry h;obtain⟨l,b,xs,zs,rfl,rfl,hH,hB,hz,q⟩:=h;cases rx;cases ry;obtain⟨z,xq,n,r,hl,e⟩:=I.aue hH;obtain⟨z2,a0g,n2,r2,hl2,e2⟩:=I.aue hB;refine PySem.P.add_list e e2 ?_ (by rw[gf,gf];lia);have ea:xq.toArray++a0g.toArray=(xq++a0g).toArray:=by simp
 rw[ea];exact⟨.ref _,_,I.bd7 (t':=s.toks) (r.append r2) (by rw[m6];exact hz),rfl,q _ I.fresh⟩
end L2
namespace Att
open PySem PySem.W PySem.Calls PyProof.Rows
def Vk:∀(ns:Xs)(vs:Zl),WellAll P h vs (ns.map WData.int)->IntsAre vs ns:=by
 intro ns
 induction ns with
 |nil =>
  intro vs w;rw[List.map_nil] at w;cases w;exact .nil
 |cons n ns ih =>
  intro vs w;rw[ig] at w;cases w with
  |cons a b =>
   cases a;exact .cons _ _ (ih _ b)
def akm{l:OpenLaw}(hn:l.most=some n)(auh:l.row.toRowW.claim.pre args=true)(hwl:WellAll P h vals args) :
 ∃a vs ns,vals=[Value.ref a]/\args=[WData.list (ns.map WData.int)]/\h.get? a=some { cls:=.type "list",data:=.seq vs.toArray }/\IntsAre vs ns/\ns.length<=n:=by
 have hsh:WShape.hasAll [] args [.list .int]=true:=(pre_splitW auh).1;have hc:l.pre.holds [] { args:=args }=true:=(pre_splitW auh).2;obtain⟨d,r,rfl,h1,h2⟩:=hasAllW_cons hsh;obtain rfl:=hasAllW_nil h2;obtain⟨xs,rfl,h3⟩:=hasW_list h1;obtain⟨ns,rfl⟩:=items_int h3;have hlen:ns.length<=n:=by
  unfold OpenLaw.pre at hc;have h4:(WTm.not (.lt (.lit (.int (n:Int))) (.len (.arg 0)))).holds [] { args:=[.list (ns.map .int)] }=true:=by have h4:=(holds_andW hc).1;rw[hn] at h4;exact h4
  have h5:=condW_of h4 (w_not (w_lt w_lit (w_len_list (w_arg rfl))));rw[dz] at h5;refine Nat.le_of_not_lt λq=>?_
  have q':(n:Int)<((ns.length:Nat):Int):=m_ q
  first
   |(rw[yx q'] at h5;exact absurd h5 (by decide))
   |(simp at h5;omega)
 cases hwl with
 |cons w1 w2 =>
  cases w2;cases w1 with
  |list ho Dy=>exact⟨_,_,ns,rfl,rfl,ho,Vk ns _ Dy,hlen⟩
def akn(l:OpenLaw)(args:List WData):l.row.toRowW.claim.post args (.bool true) args=true :=
 postW_of (r:=l.row.toRowW) (X:=(true==true))
  (show WShape.has [] (.bool true) .bool=true by first|rfl|decide|simp[WShape.has,WShape.arms,WShape.armsAll])
  (show(WTm.eq .res (.lit (.bool true))).value [] { args:=args,res:=some (.bool true),after:=args }=some (.bool (true==true)) from w_eq_bool (w_res rfl) w_lit) rfl
def adq{l:OpenLaw}(hn:l.most=some n)(hdf:d.params.defaults=[])(call:∀(w:World) (s₀ s₁:Shared) (mg mb:Zs) (fa:Addr) (o:Obj) (pm cd doc:Value) (a:Addr) (vs:Zl) (ns:Xs),
 Ground q loose [] XP w s₀ mg mb s₁.heap->YP w s₁.heap ->
 s₁.heap.get? fa=some o->o.data=.func (docDef d.name d.params d.body d.scope pm cd doc)->s₁.heap.CodeRec cd d.name->mg d.name=some (.ref fa) ->
 s₁.heap.get? a=some { cls:=.type "list",data:=.seq vs.toArray }->IntsAre vs ns->ns.length<=n->s₁.gens=#[] ->
 codeAny (model l.prog w) callerA (.call (.ref fa) ⟨[.ref a],[]⟩) (λr s'=>r=.ok (.ret (.bool true))/\OldK s₁.heap s'.heap/\s'.os=s₁.os/\AllBare s'.gens) s₁) :
 WalkO q loose XP YP l.row.toRowW d [] (λf vs=>PySem.call f vs):=by
 intro w s₀ s₁ mg mb G Y fa o pm cd doc dV kV ho hd hcd hD hmg hg args vals as auh bkd hrd hwl hlo;obtain rfl:dV=.none:=Dflts.none hD hdf;obtain rfl:kV=.none:=Dflts.noKw hD;obtain⟨a,vs,ns,rfl,rfl,a0k,hints,hlen⟩:=akm hn auh hwl;refine enter_call (vo (call w s₀ s₁ mg mb fa o pm cd doc a vs ns G Y ho (fd_plain hd) hcd hmg a0k hints hlen hg) λr s' hq=>?_);obtain⟨rfl,h2,h3,h4⟩:=hq;exact⟨.inl ⟨.bool true,.bool true,[],rfl,λ_=>rfl,.bool true,akn l _,λ_=>⟨List.Pairwise.nil,λ_ hm=>(nomatch hm)⟩⟩,h2,h3,h4⟩
end Att
namespace L2
open PySem PySem.Spec PyProof.Rows
theorem Zr:∀{vs:Zl}{ns:Xs},IntsAre vs ns->Vals (ns.map V.int) vs
 |_,_,.nil=>.nil|_,_,.cons n t h=>.cons ⟨t,rfl⟩ (Zr h)
def Only(H:Hp):Prop:=∀b,H b=none\/∃o xs,H b=some (.Q0 o (.lst xs))
def aow{K:Fg}(KX:K.In s₁.heap)(hns:s₁.heap.Ns mainGlobals mg)(hb:s₁.heap.Ns builtinsNs mb)(hbb:∀x:Str,x≠"__name__" -> mb x=bootBuiltins x)(bd9:s₁.heap.NoLimit)(hg:s₁.gens=#[])(ha:s₁.heap.get? a=some { cls:=.type "list",data:=.seq vs.toArray })(hi:IntsAre vs ns)(hl:ns.length<=sizeLine)(hr:Af k callerA)(F:∀base:Heap,K.In base->base.Ns mainGlobals mg->Gf P w K mg base CX k fa fd [x] sp)(a7r:∀(s:Shared) (u:Value),BindsTo s fd ⟨[u],[]⟩ [(x,u)])(hsp:∀H:Hp,Only H->Hm K H a (ns.map V.int)->sp [.ref a] H (λv _=>v=.bl true) λ_ _ _=>False)(hCX:∀H e s',CX [] H s₁ (λ_ _ _=>False) e s'->False) :
 codeAny (model P w) callerA (.call (.ref fa) ⟨[.ref a],[]⟩) (λr s'=>r=.ok (.ret (.bool true))/\OldK s₁.heap s'.heap/\s'.os=s₁.os/\AllBare s'.gens) s₁:=by
 have rv:=Zr hi;have lenV:=hi.length;have core:∀H:Hp,Only H->Hm K H a (ns.map V.int)->Qj P w H s₁.heap->(∀b,H b≠none->b=a)->(H a≠none->K.lookup a=none) ->
  codeAny (model P w) callerA (.call (.ref fa) ⟨[.ref a],[]⟩) (λr s'=>r=.ok (.ret (.bool true))/\OldK s₁.heap s'.heap/\s'.os=s₁.os/\AllBare s'.gens) s₁:=by
  intro H hO hS An hA hK;have Jz:∀{b:Addr}{o:Obj},s₁.heap.get? b=some o->H b=none->(aa4 s₁.heap H).get? b=some o:=λe n=>anj e n
  have noA:∀{b:Addr}{o:Obj}{es:Array DictEntry}{ep:Nat},s₁.heap.get? b=some o->o.data=.dict es ep->H b=none:=fun{b o es ep} e d=>by
   cases q:H b with
   |none=>rfl
   |some u =>
    have e':b=a:=hA b (by rw[q];simp);subst e';rw[ha] at e;cases e;have d':Data.seq vs.toArray _=Data.dict es ep:=d;cases d'
  have nsK:∀{b:Addr}{m:Zs},s₁.heap.Ns b m->(aa4 s₁.heap H).Ns b m:=fun{b m} ⟨o,es,ep,e,d,r⟩=>⟨o,es,ep,Jz e (noA e d),d,r⟩
  have hKb:K.In (aa4 s₁.heap H):=λb o e=>Jz (KX b o e) (by
   cases q:H b with
   |none=>rfl
   |some u =>
    have e':b=a:=hA b (by rw[q];simp);subst e';rw[hK (by rw[q];simp)] at e;cases e)
  have hM:Mod K mg (aa4 s₁.heap H):=⟨hKb,nsK hns,⟨mb,nsK hb,hbb⟩,let ⟨mc,h1,h2⟩:=bd9;⟨mc,nsK h1,h2⟩⟩;have e0:agi P w K mg (aa4 s₁.heap H) callerA [] s₁ H:=⟨rfl,hM,λb o e=>ath e,Nat.le_of_eq (aka _ _),trivial,λb hb=>absurd (show b∈([]:X9) from hb) (by simp),An,.of_eq hg⟩;refine vo ((F _ hKb (nsK hns)).run callerA [] s₁ H ⟨[.ref a],[]⟩ [.ref a] [.ref a] _ _ hr e0 (a7r s₁ (.ref a)) (.cons rfl .nil) (hsp H hO hS)) λr s' h=>?_
  cases r with
  |error e=>exact(hCX H e s' h).elim
  |ok fl =>
   cases fl with
   |next=>exact False.elim h|brk=>exact False.elim h|cont=>exact False.elim h
   |ret u =>
    obtain⟨v,H',os,bare,un,beb,r',q⟩:=h;have q':v=.bl true:=q;subst q';obtain rfl:u=Value.bool true:=r';refine⟨rfl,OldK.of_keep λb o e=>?_,os,bare⟩;cases q:H b with
    |none=>exact un.keep b o e q (by intro z;exact absurd (show b∈([]:X9) from z) (by simp)) (by simp)
    |some u =>
     rcases hO b with z|⟨ob,xs,z⟩
     . rw[q] at z;cases z
     . have z2:=un.aa3 b ob _ z
       obtain⟨e1,_⟩:=An b _ z;obtain⟨e2,_⟩:=beb b _ z2;rw[e] at e1;cases e1;exact e2
 cases hk:K.lookup a with
 |some o =>
  have e:=KX a o hk;rw[ha] at e;cases e;refine core (λ_=>none) (λ_=>.inl rfl) (.inr ⟨_,vs.toArray,_,hk,rfl,rfl,rfl,by rw[gf,lenV];exact hl,by simpa using rv⟩) (λb u z=>by have z':(none:Option HO)=some u:=z;cases z') (λb z=>absurd rfl z) λz=>absurd rfl z
 |none =>
  refine core (λb=>if b=a then some (.Q0 { cls:=.type "list",data:=.seq vs.toArray } (.lst (ns.map V.int))) else none) (λb=>?_) (.inl (.inr ⟨{ cls:=.type "list",data:=.seq vs.toArray },cg rfl⟩)) (λb u z=>?_) (λb z=>?_) λ_=>hk
  . by_cases hb:b=a
    . exact .inr ⟨_,_,cg hb⟩
    . exact .inl (bx hb)
  . by_cases hb:b=a
    . have z':=(cg hb).symm.trans z
      cases z';subst hb;exact⟨ha,by rw[dz];exact hl,vs,_,rv,ha⟩
    . have z':=(bx hb).symm.trans z
      cases z'
  . by_cases hb:b=a
    . exact hb
    . exact absurd (bx hb) z
end L2
namespace L2
open PySem PySem.Spec PyProof.Rows
def aui{l:PySem.W.OpenLaw}{K:Params->Fg}{CX:World->CXT}{sp:World->Sp}(hn:l.most=some n)(Yh:n<=sizeLine)(hdf:d.params.defaults=[])(hr:Af k callerA)(hY:∀(w:World) (h:Heap),YP w h->(K w.params).In h)(F:∀(w:World) (mg:Zs) (fa:Addr) (h:Heap),(K w.params).In h->h.Ns mainGlobals mg->mg d.name=some (.ref fa) ->
 ∃fd:FuncData,(∀(s:Shared) (u:Value),BindsTo s fd ⟨[u],[]⟩ [(x,u)]) /\
  ∀base:Heap,(K w.params).In base->base.Ns mainGlobals mg->Gf l.prog w (K w.params) mg base (CX w) k fa fd [x] (sp w))(hsp:∀(w:World) (H:Hp) (a:Addr) (ns:Xs),ns.length<=n->Only H->Hm (K w.params) H a (ns.map V.int)->sp w [.ref a] H (λv _=>v=.bl true) λ_ _ _=>False)(hCX:∀(w:World) (H:Hp) (s:Shared) (e:Value) (s':Shared),CX w [] H s (λ_ _ _=>False) e s'->False) :
 PySem.W.WalkO q loose XP YP l.row.toRowW d [] (λf vs=>PySem.call f vs):=by
 refine Att.adq hn hdf λw s₀ s₁ mg mb fa o pm cd doc a vs ns G Y ho hd hcd hmg a0k hints hlen hg=>?_
 have KX:=hY w _ Y;obtain⟨fd,hb,hF⟩:=F w mg fa _ KX G.T.g hmg;exact aow KX G.T.g G.T.b G.T.builtins G.T.nolimit hg a0k hints (gn hlen Yh) hr hF hb (λH hO hS=>hsp w H a ns hlen hO hS) λH e s'=>hCX w H s₁ e s'
end L2
namespace L2
open PySem PySem.Spec PyProof.Rows
noncomputable def inClass(s:Stmt)(j:Nat):Stmt:=match s with
 |.ClassDef _ _ _ body _ _ _ _ _ _ _=>body.getD j (.Pass ⟨0,0,0,0⟩)|_=>.Pass ⟨0,0,0,0⟩
noncomputable def J0(s:Stmt):Arguments:=match s with
 |.FunctionDef _ a _ _ _ _ _ _ _ _=>a|_=>{ posonlyargs:=[],args:=[],vararg:=none,kwonlyargs:=[],kw_defaults:=[],kwarg:=none,defaults:=[] }
noncomputable def Gr(s:Stmt):List Stmt:=match s with
 |.FunctionDef _ _ b _ _ _ _ _ _ _=>b|_=>[]
noncomputable def Bh(s:Stmt):Scope:=match s with
 |.FunctionDef _ _ _ _ _ _ sc _ _ _=>sc|_=>{ kind:=.function,names:=[],isGenerator:=false,isCoroutine:=false }
abbrev CX0:CXT:=λ_ _ _ _ _ _=>False
abbrev E0:XK:=λ_ _ _=>False
def aid:Passes CX0 X E0:=λ_ _ _ _ _ _ _ h=>h.elim
structure Fun(K:Fg)(x qual:Str)(st:Stmt)(f:Addr)(fd:FuncData):Prop where
 ex:∃(oc:Value)(od:Option Addr)(kV doc pm:Value)(an:Option Addr)(cdv ct:Value)(osl:Array (Option Value)),
  fd=PySem.W.fnOf x qual (J0 st) (Gr st) (Bh st) .none kV doc pm an cdv ct/\K.lookup f=some ⟨oc,od,.func fd,osl⟩/\PySem.W.codeIn K cdv qual=true
 kp:PySem.W.keepIn K (.ref f)=true
def Fun.ok{K:Fg}{st:Stmt}(F:Fun K x qual st f fd)(S:Vt N ps (Bh st))(len:∀vs H Q E,sp vs H Q E->vs.length=ps.length)(aoi:∀(cdv:Value) (A:Around) (outer:List Env) (s:Shared) (H:Hp) (vs:List V) (Q:VK) (E:XK),Af k (A.deeper (envOfC qual (Bh st) s.heap.objs.size f cdv))->sp vs H Q E ->
 ∃t,Rx (agk CX0 P w K mg base N qual (Bh st) f cdv A outer s H E).nox (Gr st) t/\t { nx:=λ_ H'=>Q .non H',rt:=Q } (start N vs) H):Gf P w K mg base CX0 (k+1) f fd ps sp:=by
 obtain⟨oc,od,kV,doc,pm,an,cdv,ct,osl,rfl,lk,hcd⟩:=F.ex;refine a7a lk hcd S len λA outer s H vs Q E hr hsp=>?_
 obtain⟨t,h,q⟩:=aoi cdv A outer s H vs Q E hr hsp;exact⟨t,h.nox,q⟩
def Fun.binds{K:Fg}{st:Stmt}(F:Fun K x qual st f fd)(h:∀(kV doc pm:Value) (an:Option Addr) (cdv ct:Value) (us:Zl),us.length=ps.length->bindArgs (PySem.W.fnOf x qual (J0 st) (Gr st) (Bh st) .none kV doc pm an cdv ct) ⟨us,[]⟩=pure (ps.zip us)):Binds K fd ps []:=by obtain⟨oc,od,kV,doc,pm,an,cdv,ct,osl,rfl,lk,hcd⟩:=F.ex;exact .all (h kV doc pm an cdv ct)
def aox{K:Fg}{st:Stmt}{f:Addr}{oc:Value}{od an:Option Addr}{osl:Array (Option Value)}{kV doc pm cdv ct:Value}(l:K.lookup f=some ⟨oc,od,.func (PySem.W.fnOf x qual (J0 st) (Gr st) (Bh st) .none kV doc pm an cdv ct),osl⟩)(c:PySem.W.codeIn K cdv qual=true)(k:PySem.W.keepIn K (.ref f)=true):Fun K x qual st f (PySem.W.fnOf x qual (J0 st) (Gr st) (Bh st) .none kV doc pm an cdv ct):=⟨⟨oc,od,kV,doc,pm,an,cdv,ct,osl,rfl,l,c⟩,k⟩
def adt{A:Around}{k:Nat}(hr:Af k A):A.units+1<cLine:=Nat.lt_of_le_of_lt (Nat.add_le_add_left (by decide:1<=64) _) hr.units
end L2
namespace L2
open PySem PySem.Spec PyProof.Rows
def adu:fillsNumberSlot (.type "tuple") "mul" = pure false :=
 PySem.fillsNumberSlot_seq (id := "tuple.__mul__") (r:=some (.builtin "tuple.__rmul__")) wy.lookup (by decide+kernel) F.slot_tuple_rmul.lookup (by decide+kernel)
def aoy:seqRepeat? (.type "tuple")=pure (some (.builtin "tuple.__mul__")):=by unfold seqRepeat?;rw[PySem.seqSlot_of (T := "tuple") (name := "__mul__") (id := "tuple.__mul__") wy.lookup (by decide+kernel),PySem.seqSlot_of (T := "tuple") (name := "__rmul__") (id := "tuple.__rmul__") F.slot_tuple_rmul.lookup (by decide+kernel)];rfl
def a0l(a:Int)(t:Tok)(l:Addr)(items:U1)(n:Nat)(dd:Option Addr)(sl:Array (Option Value)) :
 Meets (Builtin.«int.__rmul__» ⟨[.int a t,.ref l],[]⟩) (λ_ R s=>s.heap.get? l=some { cls:=.type "tuple",dict:=dd,data:=.seq items n,slots:=sl }/\R (.ok (.ret Value.notImplemented)) s) :=
 .of_wp λprog w A R s h=>by obtain⟨hp,g,d,tk,os⟩:=s;obtain⟨hl,h⟩:=h;wp_walk;exact⟨_,rfl,h⟩
def a7s(l:Addr)(items:U1)(n:Nat)(dd:Option Addr)(sl:Array (Option Value))(u:Tok) :
 Meets (Builtin.«tuple.__mul__» ⟨[.ref l,.int 1 u],[]⟩) (λ_ R s=>s.heap.get? l=some { cls:=.type "tuple",dict:=dd,data:=.seq items n,slots:=sl }/\R (.ok (.ret (.ref l))) s) :=
 .of_wp λprog w A R s h=>by obtain⟨hp,g,d,tk,os⟩:=s;obtain⟨hl,h⟩:=h;wp_walk;exact⟨_,rfl,h⟩
def a7t(l:Addr)(x:Value)(n:Nat)(dd:Option Addr)(sl:Array (Option Value))(u:Tok) :
 Meets (Builtin.«tuple.__mul__» ⟨[.ref l,.int 0 u],[]⟩) (λ_ R s=>s.heap.get? l=some { cls:=.type "tuple",dict:=dd,data:=.seq #[x] n,slots:=sl }/\R (.ok (.ret (.ref s.heap.objs.size))) { s with heap:=s.heap.push { cls:=.type "tuple",data:=.seq #[] } }) :=
 .of_wp λprog w A R s h=>by obtain⟨hp,g,d,tk,os⟩:=s;obtain⟨hl,h⟩:=h;wp_walk;exact⟨_,rfl,h⟩
theorem adw(x:Value):∀(k:Nat)(a:U1),List.foldl (λx1 x2=>x1++x2) a (List.replicate k #[x])=a++(List.replicate k x).toArray
 |0,a=>by simp|k+1,a=>by rw[List.replicate_succ,Bd,adw x k,Array.append_assoc,List.replicate_succ];congr 1;apply Array.ext';simp
theorem axf(r:RelV d v):∀k:Nat,Vals (List.replicate k d) (List.replicate k v)
 |0=>.nil|k+1=>.cons r (axf r k)
def a7u(l:Addr)(x:Value)(k n:Nat)(dd:Option Addr)(sl:Array (Option Value))(u:Tok)(h2:2<=k)(hk:k<=100000) :
 Meets (Builtin.«tuple.__mul__» ⟨[.ref l,.int k u],[]⟩) (λ_ R s=>s.heap.get? l=some { cls:=.type "tuple",dict:=dd,data:=.seq #[x] n,slots:=sl }/\R (.ok (.ret (.ref s.heap.objs.size))) { s with heap:=s.heap.push { cls:=.type "tuple",data:=.seq (List.replicate k x).toArray } }) :=
 .of_wp λprog w A R s h=>by
  obtain⟨hp,g,d,tk,os⟩:=s;obtain⟨hl,h⟩:=h;have e:=adw x k #[];rw[Array.empty_append] at e;rw[<- e] at h;have a1:¬(decide ((k:Int) < -2 ^ 63)||decide ((k:Int) >= 2 ^ 63))=true:=by simp;omega
  have a2:¬(Array.isEmpty #[x]||(k:Int)==1)=true:=by simp;omega
  have a3:¬(decide ((k:Int)<=0)||Array.isEmpty #[x])=true:=by simp;omega
  have a4:¬((Array.size #[x]:Nat):Int)*(k:Int) > (2 ^ 63-1) / 8:=by simp;omega
  have a5:¬Builtin.Tuple.tupleTooMany (((Array.size #[x]:Nat):Int)*(k:Int))=true:=by simp[Builtin.Tuple.tupleTooMany,sizeLine];omega
  wp_walk;refine vm (jx a1) ?_
  wp_walk;refine vm (jx a2) ?_
  wp_walk;refine vm (jx a3) ?_
  wp_walk;refine vm (jx a4) ?_
  wp_walk;refine vm (jx a5) ?_
  wp_walk;refine vm (jx (Nat.not_lt.mpr (by show Array.size (List.foldl _ _ (List.replicate k _))<=_;rw[e,gf,vg];exact gn hk (by decide)))) ?_
  wp_walk
  exact⟨_,rfl,h⟩
def auj:Cz X (binaryOp .Mult) (λx y H Q=>∃a v,∃k:Nat,x=.ref a/\y=.int k/\Dw X.K H a [v]/\k<=100000/\(k=1->Q (.ref a) H)/\∀p,H p=none->Q (.ref p) (upd H p (.tup (List.replicate k v)))):=by
 intro pins s σ H x y v u Q I rx ry h;obtain⟨a,d,k,rfl,rfl,ha,hk,q1,q2⟩:=h;cases rx;obtain⟨t,rfl⟩:=ry;obtain⟨xq,r1,p1,_⟩:=I.tuple ha;cases r1 with
 |cons r1 r2 =>
  cases r2;obtain⟨⟨cls,dd,data,sl⟩,ho,hc,n,hd⟩:=id p1;simp only at hc hd;subst hc hd;refine wpAny_binaryOp_repeat_ref (T := "tuple") (U := "int") (by decide) ⟨_,ho,rfl⟩ (λs'=>typeIs_int s' _ _) adu F.fills_int_mul F.slot_int_rmul aoy F.slot_int_index.lookup
   (call_meets F.slot_int_rmul (typeIs_int s _ _) F.entry_int_rmul (F.args_int_rmul_2 _ _) (a0l _ _ a _ n dd sl) ⟨ho,rfl,⟨_,ho,rfl⟩,?_⟩)
  have go:∀its':List Value,its'=List.replicate k _->Inv X pins σ (upd H s.heap.objs.size (.tup (List.replicate k d))) { s with heap:=s.heap.push { cls:=.type "tuple",data:=.seq its'.toArray } }:=λits' e=>I.laid (t':=s.toks) (o:=.tup (List.replicate k d)) (λb ob q=>ao _ q) (bc _) ⟨by rw[vg];exact gn hk (by decide),_,by rw[e];exact axf r1 k,Vg.new _ _⟩
  by_cases h1:k=1
  . subst h1
    exact call_meets wy ⟨_,ho,rfl⟩ F.entry_tuple_mul (F.args_tuple_mul_2 _ _) (a7s a _ n dd sl t) ⟨ho,.ref a,H,I,rfl,q1 rfl⟩
  by_cases h0:k=0
  . subst h0
    exact call_meets wy ⟨_,ho,rfl⟩ F.entry_tuple_mul (F.args_tuple_mul_2 _ _) (a7t a _ n dd sl t) ⟨ho,.ref s.heap.objs.size,_,go [] rfl,rfl,q2 _ (I.An.fresh (bc _))⟩
  . exact call_meets wy ⟨_,ho,rfl⟩ F.entry_tuple_mul (F.args_tuple_mul_2 _ _) (a7u a _ k n dd sl t (by omega) hk) ⟨ho,.ref s.heap.objs.size,_,go _ rfl,rfl,q2 _ (I.An.fresh (bc _))⟩
noncomputable def Dt(cells:Xt):List (Str×NameKind)->List (Str×Addr)->List (Str×Addr)
 |[],cs=>cs|(n,k)::r,cs=>Dt cells r (if k==.free then(n,(cells.lookup n).getD 0)::cs else cs)
theorem U0{α β:Type}{f:α->β->Sem (ForInStep β)}{g:α->β->β}:∀{l:List α}(c:β),(∀x∈l,∀c,f x c=pure (.yield (g x c)))->forIn l c f=pure (l.foldl (λc x=>g x c) c)
 |[],c,_=>rfl
 |x::l,c,h=>by
  rw[List.forIn_cons,h x dg,pure_bind];exact U0 (g x c) λy hy=>h y (bh _ hy)
theorem U3(cells:Xt):∀(l:X0)(cs:Xt),Dt cells l cs=l.foldl (λc x=>if x.2==.free then(x.1,(cells.lookup x.1).getD 0)::c else c) cs
 |[],_=>rfl|(n,k)::r,cs=>U3 cells r _
def Wy(h:∀y∈scope.names,y.2=.free->∃c,env.cells.lookup y.1=some c):closureFor scope env=pure (Dt env.cells scope.names []):=by
 simp only[closureFor];rw[U0 (g:=λx c=>if x.2==.free then(x.1,(env.cells.lookup x.1).getD 0)::c else c) [] (λx hx c=>by
  obtain⟨n,k⟩:=x
  by_cases hk:k=.free
  . subst hk
    obtain⟨c',hc⟩:=h (n,.free) hx rfl;have hc:env.cells.lookup n=some c':=hc;simp[cellOf,hc]
  . have hb:(k==NameKind.free)=false:=by simpa using hk
    simp[hb]),U3]
 rfl
theorem adx(cells:Xt):∀(l:X0)(cs:Xt)(x:Str)(c:Addr),(∀y∈l,y.2=.free->∃c,cells.lookup y.1=some c)->(Dt cells l cs).lookup x=some c ->
 cs.lookup x=some c\/cells.lookup x=some c
 |[],cs,x,c,_,h=>.inl h
 |(n,k)::r,cs,x,c,hy,h=>by
  rcases adx cells r _ x c (λz hz=>hy z (bh _ hz)) h with q|q
  . by_cases hk:k=.free
    . subst hk
      simp only[zb,ju,ou] at q;cases e:x==n with
      |true =>
       rw[e] at q;obtain⟨c',hc⟩:=hy (n,.free) dg rfl;have hc:cells.lookup n=some c':=hc;simp only[hc,Option.getD_some,Option.some.injEq] at q;subst q;rw[eq_of_beq e];exact .inr hc
      |false=>rw[e] at q;exact .inl q
    . have hb:(k==NameKind.free)=false:=by simpa using hk
      simp only[hb,cz,jh] at q;exact .inl q
  . exact .inr q
theorem Wz(cells:Xt):∀(l:X0)(cs:Xt)(x:Str),(∃c,cs.lookup x=some c)->∃c,(Dt cells l cs).lookup x=some c
 |[],cs,x,h=>h
 |(n,k)::r,cs,x,h=>by
  refine Wz cells r _ x ?_
  by_cases hk:(k==NameKind.free)=true
  . rw[cg hk,ou]
    cases e:x==n with
    |true=>exact⟨_,rfl⟩|false=>exact h
  . rw[bx hk];exact h
theorem T8(cells:Xt):∀(l:X0)(cs:Xt)(x:Str),(x,NameKind.free)∈l->∃c,(Dt cells l cs).lookup x=some c
 |(n,k)::r,cs,x,h=>by
  rcases bw.mp h with q|q
  . obtain⟨rfl,rfl⟩:=Prod.mk.inj q
    refine Wz cells r _ x ⟨(cells.lookup x).getD 0,?_⟩;rw[cg (by simp),ou,zb]
  . exact T8 cells r _ x q
theorem O2{env:Env}:∀{names:X0}{x:Str},
 (names.map λ(y:Str×NameKind)=>if(y.2==NameKind.free&&env.scope.kind==.function&&env.kindOf y.1==some .cell) then(y.1,NameKind.cell) else(y.1,y.2)).lookup x
  = (names.lookup x).map λk=>if(k==NameKind.free&&env.scope.kind==.function&&env.kindOf x==some .cell) then NameKind.cell else k
 |[],_=>rfl
 |(n,k)::r,x=>by
  have ih:=@O2 env r x;rw[ig];cases hx:x==n with
  |true =>
   have e:=eq_of_beq hx;subst e;clear hx
   by_cases hc:(k==NameKind.free&&env.scope.kind==.function&&env.kindOf x==some .cell)=true
   . simp only[hc,ju,ou,zb,v9]
   . have hb:(k==NameKind.free&&env.scope.kind==.function&&env.kindOf x==some .cell)=false:=by simpa using hc
     simp only[hb,cz,jh,ou,zb,v9]
  |false =>
   by_cases hc:(k==NameKind.free&&env.scope.kind==.function&&env.kindOf n==some .cell)=true
   . simp only[hc,ju,ou,hx];exact ih
   . simp only[hc,ou,hx];simpa[ou,hx] using ih
theorem mem_of_lookup{α β:Type}[BEq α][LawfulBEq α]:∀{l:List (α×β)}{x:α}{y:β},l.lookup x=some y->(x,y)∈l
 |(a,b)::r,x,y,h=>by
  rw[ou] at h;cases e:x==a with
  |true=>rw[e] at h;cases h;rw[eq_of_beq e];exact dg|false=>rw[e] at h;exact bh _ (mem_of_lookup h)
def Du{α:Type}{v:α}{r:List (Str×α)}:((k,v)::r).lookup x=if x=k then some v else r.lookup x:=by
 rw[ou]
 by_cases h:x=k
 . rw[cg h,show(x==k)=true from beq_iff_eq.mpr h]
 . rw[bx h,show(x==k)=false from ql.mpr h]
set_option tactic.hygienic true in
theorem aie:∀(l:X0)(n:Nat)(acc:Xt)(x:Str)(c:Addr),(cellsFrom n l acc).lookup x=some c->((x,NameKind.cell)∈l/\n<=c)\/acc.lookup x=some c
 |[],_,_,_,_,h=>.inr h
 |(k,kd)::r,n,acc,x,c,h=>by
  unfold cellsFrom at h;split at h
  . rename_i e
    rcases aie r _ _ x c h with⟨q,l⟩|q
    . exact .inl ⟨bh _ q,by omega⟩
    . rw[Du] at q
      split at q
      . rename_i z
        cases q;exact .inl ⟨by rw[z,eq_of_beq e];exact dg,bc _⟩
      . exact .inr q
  . rcases aie r _ _ x c h with⟨q,l⟩|q
    . exact .inl ⟨bh _ q,l⟩
    . exact .inr q
set_option tactic.hygienic true in
theorem abg:∀(l:X0)(n:Nat)(acc:Xt)(x:Str),((x,NameKind.cell)∈l\/∃c,acc.lookup x=some c)->∃c,(cellsFrom n l acc).lookup x=some c
 |[],_,_,_,h=>by rcases h with q|q;cases q;exact q
 |(k,kd)::r,n,acc,x,h=>by
  unfold cellsFrom;split
  . refine abg r _ _ x ?_
    by_cases z:x=k
    . exact .inr ⟨n,by rw[Du,cg z]⟩
    . rcases h with q|q
      . rcases bw.mp q with q|q
        . cases q;exact absurd rfl z
        . exact .inl q
      . exact .inr (by rw[Du,bx z];exact q)
  . rename_i e
    refine abg r _ _ x ?_;rcases h with q|q
    . rcases bw.mp q with q|q
      . cases q;exact absurd rfl e
      . exact .inl q
    . exact .inr q
set_option tactic.hygienic true in
theorem aoz:∀(l:X0)(n:Nat)(acc:Xt)(x:Str),(x,NameKind.cell)∉l->(cellsFrom n l acc).lookup x=acc.lookup x
 |[],_,_,_,_=>rfl
 |(k,kd)::r,n,acc,x,h=>by
  have h2:(x,NameKind.cell)∉r:=λq=>h (bh _ q)
  unfold cellsFrom;split
  . rename_i e
    rw[aoz r _ _ x h2,Du,bx];intro z;exact h (by rw[z,eq_of_beq e];exact dg)
  . exact aoz r _ _ x h2
set_option tactic.hygienic true in
theorem agq:∀(l:X0)(n:Nat)(acc:Xt),(∀x c,acc.lookup x=some c->c<n)->(∀x y c,acc.lookup x=some c->acc.lookup y=some c->x=y)->∀x y c,(cellsFrom n l acc).lookup x=some c->(cellsFrom n l acc).lookup y=some c->x=y
 |[],_,_,_,h=>h
 |(k,kd)::r,n,acc,lt,h=>by
  unfold cellsFrom;split
  . refine agq r _ _ (λx c q=>?_) (λx y c q1 q2=>?_)
    . rw[Du] at q
      split at q
      . cases q;exact pq n
      . exact qe (lt x c q)
    . rw[Du] at q1 q2
      split at q1<;>split at q2
      . rename_i a b;rw[a,b]
      . cases q1;exact absurd (lt y _ q2) (mq _)
      . cases q2;exact absurd (lt x _ q1) (mq _)
      . exact h x y c q1 q2
  . exact agq r _ _ lt h
set_option tactic.hygienic true in
theorem abh:∀(l:X0)(h:Heap)(acc:Xt),(∀x c,acc.lookup x=some c->∃v,h.IsCell c v)->∀x c,(cellsFrom h.objs.size l acc).lookup x=some c->∃v,(pushCells h l).IsCell c v
 |[],_,_,k,x,c,q=>k x c q
 |(n,kd)::r,h,acc,k,x,c,q=>by
  unfold cellsFrom at q;unfold pushCells;split at q
  . rename_i e
    rw[cg e];have sz:(h.push { cls:=.type "cell",data:=.cell none }).objs.size=h.objs.size+1:=gw _ _;rw[<- sz] at q;refine abh r _ _ (λx c q=>?_) x c q;rw[Du] at q;split at q
    . cases q;exact⟨none,_,bf _ rfl,rfl⟩
    . obtain⟨v,hv⟩:=k x c q
      exact⟨v,hv.keeps λb o e=>ao _ e⟩
  . rename_i e
    rw[bx e];exact abh r _ _ k x c q
set_option tactic.hygienic true in
theorem W0(cells:Xt):∀(l:X0)(cs:Xt)(x:Str)(c:Addr),(Dt cells l cs).lookup x=some c->(x,NameKind.free)∈l\/cs.lookup x=some c
 |[],_,_,_,h=>.inr h
 |(k,kd)::r,cs,x,c,h=>by
  unfold Dt at h;rcases W0 cells r _ x c h with q|q
  . exact .inl (bh _ q)
  . split at q
    . rename_i e
      rw[Du] at q;split at q
      . rename_i z
        exact .inl (by rw[z,eq_of_beq e];exact dg)
      . exact .inr q
    . exact .inr q
def ako(h:Q { scope:=scope,locals:=s.heap.objs.size,globals:=globals,cells:=cellsFrom (s.heap.objs.size+1) scope.names cl,qual:=qual,func:=none,code:=around.code,frame:=around.frame,builtins:=around.builtins } { s with heap:=pushCells (s.heap.push { cls:=.type "dict",data:=.dict #[] }) scope.names }) :
 wpAny M A (newFunctionEnv scope globals cl [] qual none .none (some around)) Q E s:=by
 simp only[newFunctionEnv,Option.isSome_some,ju];refine aa (wpAny_alloc ?_);refine aa (wpAny_layCells _ (λname kind cells=>by cases hkc:kind==NameKind.cell<;>simp[hkc]) _ _ _ _ ?_);rw[show({ s with heap:=s.heap.push { cls:=.type "dict",data:=.dict #[] } }:Shared).heap.objs.size=s.heap.objs.size+1 from gw ..];exact aa (aj (aj h))
noncomputable def Np(X:Cx)(N:Yf)(scope:Scope)(C:Addr)(fp:X9)(s:Shared)(H:Hp):Cx where
 prog:=X.prog
 w:=X.w
 K:=X.K
 mg:=X.mg
 base:=X.base
 A:=X.A
 N:=N
 s₀:=s
 H₀:=H
 env:=compEnvC scope (cellsFrom (C+1) scope.names (Dt X.env.cells scope.names [])) C X.env
 outer:=X.stack
 stack:=X.stack
 ex:=fp
 fn:=λx=>scope.names.lookup x==some .cell
 calm:=X.calm
 pn:=[]
 xe:=λ_ _=>False
structure Fb(X:Cx)(N:Yf)(scope:Scope):Prop where
 kind:scope.kind=.function
 locs:∀y∈scope.names,y.2=.local->scope.names.lookup y.1=some .local
 frees:∀y∈scope.names,y.2=.free->X.env.kindOf y.1=some .cell\/X.env.kindOf y.1=some .free
 uniq:∀x k,(x,k)∈scope.names->scope.names.lookup x=some k
 long:X.N.length<=N.length
 vis:∀i x,i<X.N.length->N[i]?=some x->Vis (relabel scope X.env) x->X.N[i]?=some x/\scope.names.lookup x=some .free
theorem Fb.cells(B:Fb X N scope)(ok:X.Ok):∀y∈scope.names,y.2=.free->∃c,X.env.cells.lookup y.1=some c:=λy hy hk=>ok.has y.1 (B.frees y hy hk)
def Fb.clos(B:Fb X N scope)(ok:X.Ok):closureFor scope X.env=pure (Dt X.env.cells scope.names []):=Wy (B.cells ok)
def Fb.inCells(B:Fb X N scope)(ok:X.Ok)(h:(Dt X.env.cells scope.names []).lookup x=some c):X.env.cells.lookup x=some c:=by
 rcases adx _ _ _ _ _ (B.cells ok) h with q|q
 . simp at q
 . exact q
def ady{X:Cx}(x:Str):(compEnvC scope cl C X.env).kindOf x=(scope.names.lookup x).map λk=>if(k==NameKind.free&&X.env.scope.kind==.function&&X.env.kindOf x==some .cell) then NameKind.cell else k:=by show(relabel scope X.env).names.lookup x=_;exact O2
def Fb.agr(B:Fb X N scope)(ok:X.Ok)(h:(cellsFrom (C+1) scope.names (Dt X.env.cells scope.names [])).lookup x=some c):(scope.names.lookup x=some .cell/\C+1<=c)\/X.env.cells.lookup x=some c:=by
 rcases aie _ _ _ _ _ h with⟨q,l⟩|q
 . exact .inl ⟨B.uniq _ _ q,l⟩
 . exact .inr (B.inCells ok q)
def akp(B:Fb X N scope)(I:Inv X pins σ H s)(hf:∀b∈fp,Vi X pins H b)(hfo:∀b∈fp,∃o,s.heap.get? b=some o)(hns:h₁.Ns (s.heap.objs.size+1) λ_=>none)(hk:∀b o,s.heap.get? b=some o->h₁.get? b=some o)(Fj:h₁.get? s.heap.objs.size=some { cls:=.type "list",data:=.seq ([]:Zl).toArray })(hcl:∀x c,(cellsFrom (s.heap.objs.size+1+1) scope.names (Dt X.env.cells scope.names [])).lookup x=some c->∃v,h₁.IsCell c v) :
 Inv (Np X N scope (s.heap.objs.size+1) fp s H) [] (σ++List.replicate (N.length-X.N.length) none) (upd H s.heap.objs.size (.lst [])) { s with heap:=h₁,toks:=t }:=by
 have ok:=I.ok;have hD:H s.heap.objs.size=none:=I.An.fresh (bc _);have hC:H (s.heap.objs.size+1)=none:=I.An.fresh (uz _);have hCD:s.heap.objs.size+1≠s.heap.objs.size:=Nat.succ_ne_self _;have lt:∀b∈fp,b<s.heap.objs.size:=λb hb=>by obtain⟨o,e⟩:=hfo b hb;exact az e
 have clt:∀x c,X.env.cells.lookup x=some c->c<s.heap.objs.size:=λx c e=>by obtain⟨v,o,ho,_⟩:=I.cell x c e;exact az ho
 refine⟨⟨ok.mod,B.kind,ok.glob,ok.blt,uz _,?_,?_,?_,ok.hd,ok.frames,.inl rfl,?_,λb o e=>I.bs b o e,gn ok.bsz I.sz,?_,?_,I.stack,I.ahz⟩,rfl,I.bare,?_,?_,?_,?_,?_,?_,?_,?_⟩
 . intro x y c hx hy
   refine agq scope.names (s.heap.objs.size+1+1) (Dt X.env.cells scope.names []) (λx c q=>?_) (λx y c q1 q2=>ok.inj x y c (B.inCells ok q1) (B.inCells ok q2)) x y c hx hy;exact qe (qe (clt x c (B.inCells ok q)))
 . intro x hx
   rw[show(Np X N scope (s.heap.objs.size+1) fp s H).env.kindOf x=_ from ady x] at hx;cases e:scope.names.lookup x with
   |none=>rw[e] at hx;rcases hx with q|q<;>simp at q
   |some k =>
    have Qk:k=.free\/k=.cell:=by
     rw[e] at hx;cases k with
     |free=>exact .inl rfl|cell=>exact .inr rfl|«local»=>rcases hx with q|q<;>simp at q
     |globalExplicit=>rcases hx with q|q<;>simp at q
     |globalImplicit=>rcases hx with q|q<;>simp at q
    rcases Qk with rfl|rfl
    . exact abg _ _ _ _ (.inr (T8 _ _ _ _ (mem_of_lookup e)))
    . exact abg _ _ _ _ (.inl (mem_of_lookup e))
 . intro x c h hc
   have h:scope.names.lookup x=some .cell:=eq_of_beq h;show s.heap.objs.size<=c
   rcases aie _ _ _ _ _ hc with⟨_,l⟩|q
   . exact gn (w6 _ 2) l
   . rcases W0 _ _ _ _ _ q with z|z
     . rw[B.uniq _ _ z] at h;cases h
     . cases z
 . intro b hb
   refine⟨λe=>?_,λx c hc e=>?_⟩
   . have q:=lt b hb
     have e:b=s.heap.objs.size+1:=e;rw[e] at q;exact absurd q (Nat.not_lt.mpr (uz _))
   . obtain⟨_,_,_,_,f4,_⟩:=hf b hb
     rcases B.agr ok hc with⟨_,l⟩|hc
     . have q:=lt b hb
       rw[<- e] at q;exact absurd (gm (qe (qe q)) l) (mq _)
     . exact f4 x c hc e
 . intro b o e hb
   obtain⟨_,_,_,f3,_⟩:=hf b hb;rcases f3 with q|q
   . exact ok.anl b o e q
   . exact mq _ (gm (az e) (gn ok.bsz q))
 . intro b hb q
   obtain⟨_,f1,f2,_⟩:=hf b hb;rcases bw.mp (I.aa5 b q) with z|z
   . exact f1 z
   . exact f2 z
 . exact Un.laid hk (bc _) hD
 . refine⟨_,hns,λi x v hN hσ hv=>?_⟩
   have hi:i<X.N.length:=by
    rcases Ak i σ.length with q|q
    . rw[I.len] at q;exact q
    . rw[jg q] at hσ
      rw[List.getElem?_replicate] at hσ;split at hσ<;>simp at hσ
   rw[du (by rw[I.len];exact hi)] at hσ;obtain⟨hx,Qk⟩:=B.vis i x hi hN hv;obtain⟨m,_,hl⟩:=I.loc;have hkx:=B.frees _ (mem_of_lookup Qk) rfl;have hvx:Vis X.env.scope x:=by
    rcases hkx with q|q
    . exact .inr (.inl q)
    . exact .inr (.inr q)
   obtain⟨u,ru,lu⟩:=hl i x v hx hσ hvx;refine⟨u,ru,.inr ⟨?_,?_⟩⟩
   . rw[show(Np X N scope (s.heap.objs.size+1) fp s H).env.kindOf x=_ from ady x,Qk]
     simp only[v9];split
     . exact .inl rfl
     . exact .inr rfl
   . rcases lu with⟨q,_⟩|⟨_,c,hc,ic⟩
     . rcases hkx with z|z<;>rw[q] at z<;>cases z
     . obtain⟨c',hc'⟩:=T8 X.env.cells scope.names [] x (mem_of_lookup Qk)
       have:=B.inCells ok hc';rw[hc] at this;cases this;refine⟨c,?_,ic.keeps hk⟩;show(cellsFrom (s.heap.objs.size+1+1) scope.names (Dt X.env.cells scope.names [])).lookup x=some c;rw[aoz _ _ _ _ λz=>by rw[B.uniq _ _ z] at Qk;cases Qk];exact hc'
 . exact hcl
 . show upd H s.heap.objs.size (.lst []) (s.heap.objs.size+1)=none
   rw[j8 hCD];exact hC
 . intro x c hc
   rcases B.agr ok hc with⟨_,l⟩|hc'
   . have l:s.heap.objs.size+1+1<=c:=l
     rw[j8 (u0 (gm (qe (pq _)) l))];exact I.An.fresh (gn (w6 _ 2) l)
   . rw[j8 (dw (clt x c hc'))]
     exact I.Ov x c hc'
 . intro p hp;simp[Np] at hp
 . exact Qj.laid I.An hk (bc _) ⟨my _,[],0,.nil,Fj⟩
 . show(σ++List.replicate (N.length-X.N.length) none).length=N.length
   rw[m6,vg,I.len];have:=B.long;omega
def O3(I:Nat->Shared->Prop)(turn:∀n s,I n s->wpAny (model prog w) A (pyNext it) (λr s₁=>match r with
 |none=>R (.ok .next) s₁
 | some v=>wpAny (model prog w) A (letOwnedTupleGo target it v) (λ_ s₁'=>wpAny (model prog w) A (assign target env v) (λ_ s₂ =>
  wpAny (model prog w) A (forIn ifs true λc r=>if r=true then do let ok <- isTrue c env (eval c env);pure (ForInStep.yield ok) else pure (ForInStep.yield r)) (λok s₃ =>
   if ok=true then wpAny (model prog w) A (eval elt env) (λx s₄ =>
    wpAny (model prog w) A (call (.builtin "list.append") [acc,x]) (λ_ s₅=>∃m,m<n/\I m s₅) (λ_ _=>False) s₄) (λ_ _=>False) s₃
   else ∃m,m<n/\I m s₃) (λ_ _=>False) s₂) (λ_ _=>False) s₁') (λ_ _=>False) s₁) (λ_ _=>False) s)(n:Nat)(h:I n s) :
 codeAny (model prog w) A (.compLoop (.ListComp elt [⟨target,iter,ifs,0⟩] scope pos) 0 it acc env) R s:=by
 have nv:∀{α:Type}{t:Sem α}{Q:α->Shared->Prop}{E:Y1}{s:Shared},wpAny (model prog w) A t Q (λ_ _=>False) s->wpAny (model prog w) A t Q E s:=λh=>mj h (λ_ _ q=>q) λ_ _ f=>f.elim
 refine codeAny_loop rfl I (λn s hI=>?_) n h;show wpAny _ A ((compTurn (.ListComp elt [⟨target,iter,ifs,0⟩] scope pos) 0 it acc env).onRaise (λx=>do noteFrame x env;theTreesLotGoes x)) _ _ s;refine wpAny_noted ?_;rw[compTurn_list];refine aa (wpAny_standAt (aa (mj (turn n s hI) (λr s₁ h₁=>?_) λ_ _ h'=>h'.elim)));cases r with
 |none=>exact aj h₁
 |some v =>
  refine aa (mj h₁ (λ_ s₁' h₁'=>?_) λ_ _ h'=>h'.elim);refine aa (mj h₁' (λ_ s₂ h₂=>aa (mj h₂ (λok s₃ h₃=>?_) λ_ _ h'=>h'.elim)) λ_ _ h'=>h'.elim);cases ok with
  |false=>exact aj ⟨rfl,h₃⟩
  |true =>
   exact aa (aa (mj h₃ (λx s₄ h₄=>aa (mj h₄ (λ_ s₅ h₅=>aj (aj ⟨rfl,h₅⟩)) λ_ _ h'=>h'.elim)) λ_ _ h'=>h'.elim))
def adz(k:Nat)(wi:TI)(g:TG)(tc:TT)(te:TE):TE:=fun σ H Q=>wi σ H λJ H1=>∀D,H1 D=none->∃W:Nat->Nat->Hp->Prop,(∃m,W 0 m (upd H1 D (.lst [])))/\∀i m H,W i m H ->
 (J.stop i H/\Q (.ref D) H)\/(J.go i H/\∀x H',J.yld i H x H'->g x (σ++List.replicate k none) H' fun σ2 H2=>σ2.length=(σ++List.replicate k none).length /\
  (∀(j:Nat) v,(σ++List.replicate k none)[j]?=some (some v)->σ2[j]?=some (some v))/\tc σ2 H2 λb H3 =>
   if b=true then te σ2 H3 λv H4=>∃xs m',H4 D=some (.lst xs)/\xs.length<sizeLine/\m'<m/\W (i+1) m' (upd H4 D (.lst (xs++[v]))) else ∃m',m'<m/\W (i+1) m' H3)
def PTs(X:Cx)(ifs:Ya)(tc:TT):Prop:=(ifs=[]/\tc=λ_ H Q=>Q true H)\/∃c,ifs=[c]/\PT X c tc
def Zt(I:Inv X pins σ H s)(hf:∀b∈fp,Vi X pins H b)(J:Inv (Np X N scope (s.heap.objs.size+1) fp s H) [] σ3 H3 s3):Inv X pins σ H3 s3/\∃m,s3.heap.Ns (s.heap.objs.size+1) m:=by
 refine⟨I.call' J.os J.base J.An J.bare λb hb=>?_,?_⟩
 . obtain⟨_,f1,_,f3,f4,f5⟩:=hf b hb
   exact⟨f3,f1,f4,f5⟩
 . obtain⟨m,hn,_⟩:=J.loc
   exact⟨m,hn⟩
def akq(I:Inv X pins σ H s)(I3:Inv X pins σ H3 s3)(hC:H3 (s.heap.objs.size+1)=none)(hs:Heap.SameBut (s.heap.objs.size+1) s3.heap h'):Inv X pins σ H3 { s3 with heap:=h' }:=by
 have big:∀b o,s.heap.get? b=some o->b≠s.heap.objs.size+1:=λb o e z=>by have:=az e;rw[z] at this;exact absurd this (Nat.not_lt.mpr (uz _))
 refine I3.turned (t':=s3.toks) (λb o hb e=>hs.extBut b o hb e) hC ?_ (.inr (gn I.sz (uz _))) ?_ ?_
 . intro e
   obtain⟨m,⟨o,_,_,ho,_⟩,_⟩:=I.loc;exact big _ o ho e.symm
 . intro x c hc
   obtain⟨v,o,ho,_⟩:=I.cell x c hc;exact big c o ho
 . intro p hp
   exact big p.1 p.2 (I.pin p hp).1
def W2{RR:Value->Addr->Result->Shared->Prop}(B:Fb X N scope)(J1:X.calm=true)(I:Inv X pins σ H s)(hf:∀b∈fp,Vi X pins H b)(T:Turn X.prog X.w X.K tg J fp it tn)(h0:tn 0 s.heap)(hg:∀C s H,PG (Np X N scope C fp s H) tg g)(hc:∀C s H,PTs (Np X N scope C fp s H) ifs tc)(he:∀C s H,PE (Np X N scope C fp s H) elt te){Q:VK}(W:Nat->Nat->Hp->Prop)(w0:W 0 m0 (upd H s.heap.objs.size (.lst [])))(turn:∀i m H,W i m H->(J.stop i H/\Q (.ref s.heap.objs.size) H)\/(J.go i H/\∀x H',J.yld i H x H'->g x (σ++List.replicate (N.length-X.N.length) none) H' fun σ2 H2=>σ2.length=(σ++List.replicate (N.length-X.N.length) none).length /\
 (∀(j:Nat) v,(σ++List.replicate (N.length-X.N.length) none)[j]?=some (some v)->σ2[j]?=some (some v))/\tc σ2 H2 λb H3 =>
  if b=true then te σ2 H3 λv H4=>∃xs m',H4 s.heap.objs.size=some (.lst xs)/\xs.length<sizeLine/\m'<m/\W (i+1) m' (upd H4 s.heap.objs.size (.lst (xs++[v]))) else ∃m',m'<m/\W (i+1) m' H3))(hRR:∀σ3 H3 s3,Inv (Np X N scope (s.heap.objs.size+1) fp s H) [] σ3 H3 s3->Q (.ref s.heap.objs.size) H3->RR (.ref s.heap.objs.size) (s.heap.objs.size+1) (.ok .next) s3) :
 wpAny (model X.prog X.w) X.A (newList []) (λacc s₃=>wpAny (model X.prog X.w) X.A (newFunctionEnv scope X.env.globals (Dt X.env.cells scope.names []) [] X.env.qual none .none (some X.env)) (λcenv s₄ =>
  codeAny (model X.prog X.w) X.A (.compStart (.ListComp elt [⟨tg,iter,ifs,0⟩] scope pos) 0 (.ref it) acc { cenv with scope:=relabel scope X.env }) (RR acc cenv.locals) s₄) E s₃) E s:=by
 refine jw (ako ?_);have hsz:(s.heap.push { cls:=.type "list",dict:=none,data:=.seq ([]:Zl).toArray }).objs.size=s.heap.objs.size+1:=gw _ _;obtain⟨h₁,eh⟩:∃h₁,h₁=pushCells ((s.heap.push { cls:=.type "list",dict:=none,data:=.seq ([]:Zl).toArray }).push { cls:=.type "dict",data:=.dict #[] }) scope.names:=⟨_,rfl⟩;have up:∀b o,(s.heap.push { cls:=.type "list",dict:=none,data:=.seq ([]:Zl).toArray }).get? b=some o->h₁.get? b=some o:=λb o e=>by rw[eh];exact pushCells_keeps _ _ b o (ao _ e)
 have old:∀b o,s.heap.get? b=some o->h₁.get? b=some o:=λb o e=>up b o (ao _ e)
 have Fj:h₁.get? s.heap.objs.size=some { cls:=.type "list",data:=.seq ([]:Zl).toArray }:=up _ _ (bf _ rfl);have hns₁:h₁.Ns (s.heap.objs.size+1) λ_=>none:=by rw[eh,<- hsz];exact(Heap.Ns.new _ (.type "dict")).keeps (pushCells_keeps _ _)
 have hcl:∀x c,(cellsFrom (s.heap.objs.size+1+1) scope.names (Dt X.env.cells scope.names [])).lookup x=some c->∃v,h₁.IsCell c v:=by
  have sz2:((s.heap.push { cls:=.type "list",dict:=none,data:=.seq ([]:Zl).toArray }).push { cls:=.type "dict",data:=.dict #[] }).objs.size=s.heap.objs.size+1+1:=by rw[gw,hsz]
  rw[eh,<- sz2];refine abh _ _ _ λx c q=>?_
  obtain⟨v,hv⟩:=I.cell x c (B.inCells I.ok q);exact⟨v,hv.keeps λb o e=>ao _ (ao _ e)⟩
 have hfo:∀b∈fp,∃o,s.heap.get? b=some o:=λb hb=>let ⟨o,e,_⟩:=T.obj 0 _ h0 b hb;⟨o,e⟩
 have I0:=akp (t:=s.toks) B I hf hfo hns₁ old Fj hcl;have agb:∀{H':Hp},(∀b∈fp,H' b=none)->∀b∈fp,Vi (Np X N scope (s.heap.objs.size+1) fp s H) [] H' b:=λhn b hb=>by
  obtain⟨f0,f1,f2,f3,f4,f5⟩:=hf b hb;refine⟨hn b hb,?_,?_,.inl hb,?_,λp hp=>(by simp[Np] at hp)⟩
  . intro z
    obtain⟨o,e⟩:=hfo b hb;have:=az e;rw[show b=s.heap.objs.size+1 from z] at this;exact absurd this (Nat.not_lt.mpr (uz _))
  . intro q
    rcases bw.mp (I.aa5 b q) with z|z
    . exact f1 z
    . exact f2 z
  . intro x c hc
    rcases B.agr I.ok hc with⟨_,l⟩|hc
    . intro z
      obtain⟨o,e⟩:=hfo b hb;have q:=az e;rw[<- z] at q;exact absurd (gm (qe (qe q)) l) (mq _)
    . exact f4 x c hc
 have fr0:∀b∈fp,upd H s.heap.objs.size (.lst []) b=none:=λb hb=>by obtain⟨o,e⟩:=hfo b hb;rw[j8 (dw (az e))];exact(hf b hb).1
 have loop:∀s':Shared,s'={ s with heap:=h₁ }->codeAny (model X.prog X.w) X.A (.compLoop (.ListComp elt [⟨tg,iter,ifs,0⟩] scope pos) 0 (.ref it) (.ref s.heap.objs.size) (compEnvC scope (cellsFrom (s.heap.objs.size+1+1) scope.names (Dt X.env.cells scope.names [])) (s.heap.objs.size+1) X.env))
  (RR (.ref s.heap.objs.size) (s.heap.objs.size+1)) s':=by
  rintro s' rfl;refine O3 (λn s'=>∃i σ' H',Inv (Np X N scope (s.heap.objs.size+1) fp s H) [] σ' H' s'/\(∀(j:Nat) v,(σ++List.replicate (N.length-X.N.length) none)[j]?=some (some v)->σ'[j]?=some (some v))/\tn i s'.heap/\(∀b∈fp,H' b=none)/\W i n H') ?_ m0
   ⟨0,_,_,I0,λ_ _ z=>z,T.keep 0 _ _ h0 (λb _ o e=>old b o e),fr0,w0⟩
  rintro n s3 ⟨i,σ3,H3,I3,k3,st3,fr3,w3⟩;have I3':=I3.weak (σ':=σ++List.replicate (N.length-X.N.length) none) (by rw[I3.len];exact I0.len) k3;rcases turn i n H3 w3 with⟨stop,qn⟩|⟨go,step⟩
  . refine Bq (T.done (Np X N scope (s.heap.objs.size+1) fp s H) rfl rfl rfl J1 i [] s3 _ H3 (λ_ _=>False) I3' (agb fr3) st3 stop) λr s4 ⟨hr,I4⟩=>?_
    subst hr;exact hRR _ _ _ I4 qn
  . refine Bq (T.item (Np X N scope (s.heap.objs.size+1) fp s H) rfl rfl rfl J1 i [] s3 _ H3 (λ_ _=>False) I3' (agb fr3) st3 go) λr s4 ⟨u,hr,h4⟩=>?_
    subst hr;refine Bq h4 λ_ s5 ⟨x,H5,I5,r5,y5,st5,fr5⟩=>?_
    have I5':=I5.pinned (agb fr5) (T.obj _ _ st5);refine Bq (hg _ _ _ _ s5 _ H5 x u _ I5' r5 (step x H5 y5)) λ_ s6 ⟨σ6,H6,I6,l6,k6,q6⟩=>?_
    have again:∀{ah0:Zp}{H7:Hp}{s7:Shared}{m:Nat},Inv (Np X N scope (s.heap.objs.size+1) fp s H) ([]++T5 fp s5.heap) σ6 H7 s7->m<n->W (i+1) m H7 ->
     ∃m,m<n/\∃i σ' H',Inv (Np X N scope (s.heap.objs.size+1) fp s H) [] σ' H' s7/\(∀(j:Nat) v,(σ++List.replicate (N.length-X.N.length) none)[j]?=some (some v)->σ'[j]?=some (some v))/\tn i s7.heap/\(∀b∈fp,H' b=none)/\W i m H':=fun{_ H7 s7 m} I7 hm w7=>by
     refine⟨m,hm,i+1,σ6,H7,I7.Ox,k6,T.keep _ _ _ st5 λb hb o e=>(I7.pin (b,o) (iu _ (iu _ (Mj hb e)))).1,λb hb=>?_,w7⟩;obtain⟨o,e,d⟩:=T.obj _ _ st5 b hb;exact(I7.pin (b,o) (iu _ (iu _ (Mj hb e)))).2.1
    have tests:wpAny (model X.prog X.w) X.A (forIn ifs true λc r=>if r=true then do let ok <- isTrue c (compEnvC scope (cellsFrom (s.heap.objs.size+1+1) scope.names (Dt X.env.cells scope.names [])) (s.heap.objs.size+1) X.env) (eval c (compEnvC scope (cellsFrom (s.heap.objs.size+1+1) scope.names (Dt X.env.cells scope.names [])) (s.heap.objs.size+1) X.env));pure (ForInStep.yield ok) else pure (ForInStep.yield r))
     (TP (Np X N scope (s.heap.objs.size+1) fp s H) ([]++T5 fp s5.heap) σ6 λb H3 =>
      if b=true then te σ6 H3 λv H4=>∃xs m',H4 s.heap.objs.size=some (.lst xs)/\xs.length<sizeLine/\m'<n/\W (i+1) m' (upd H4 s.heap.objs.size (.lst (xs++[v]))) else ∃m',m'<n/\W (i+1) m' H3) (λ_ _=>False) s6:=by
     rcases hc (s.heap.objs.size+1) s H with⟨rfl,rfl⟩|⟨c,rfl,hpt⟩
     . exact wpAny_tests_nil ⟨H6,I6,q6⟩
     . exact wpAny_tests_one (hpt _ s6 σ6 H6 _ I6 q6)
    refine Bq tests λok s7 ⟨H7,I7,q7⟩=>?_
    cases ok with
    |false =>
     obtain⟨m',hm,w7⟩:=(show ∃m',m'<n/\W (i+1) m' H7 from q7);exact again (ah0:=[]) I7 hm w7
    |true =>
     show wpAny _ _ _ _ _ _;refine Bq (he _ _ _ _ s7 σ6 H7 _ I7 q7) λx s8 ⟨v,H8,I8,r8,xs,m',hD,hl,hm,w8⟩=>?_
     refine Bq (Zq _ s8 σ6 H8 (.ref s.heap.objs.size) [v] (.ref s.heap.objs.size) [x] (λ_ H'=>W (i+1) m' H') I8 rfl (.cons r8 .nil) ⟨_,xs,v,rfl,rfl,hD,hl,w8⟩) λ_ s9 ⟨_,H9,I9,_,w9⟩=>?_
     exact again (ah0:=[]) I9 hm w9
 rw[<- eh,hsz];exact codeAny_compStart_list (loop _ rfl) (T.self _ 0 _ _ _ (T.keep 0 _ _ h0 (λb _ o e=>old b o e)) (loop _ rfl))
def aif(B:Fb X N scope)(J1:X.calm=true)(hi:PI X tg iter wi)(hg:∀C fp s H,PG (Np X N scope C fp s H) tg g)(hc:∀C fp s H,PTs (Np X N scope C fp s H) ifs tc)(he:∀C fp s H,PE (Np X N scope C fp s H) elt te)(hs:∀x,foldedSetIterable iter X.env x=pure x):PE X (.ListComp elt [⟨tg,iter,ifs,0⟩] scope pos) (adz (N.length-X.N.length) wi g tc te):=by intro pins s σ H Q I h;rw[eval_ListComp];refine wpAny_comprehension_free (use:=none) rfl hs (B.clos I.ok) B.kind B.locs (Bq (hi pins s σ H _ I h) λv s1 h1=>Bq h1 λitv s2 h2=>?_);obtain⟨it,fp,tn,J,H2,rfl,I2,T,st2,f2,q2⟩:=h2;obtain⟨W,⟨m0,w0⟩,turn⟩:=q2 s2.heap.objs.size (I2.An.fresh (bc _));refine W2 (RR:=λacc C=>compPost (model X.prog X.w) X.A X.xe none (EP X pins σ Q) acc C) B J1 I2 f2 T st2 (λC s H=>hg C fp s H) (λC s H=>hc C fp s H) (λC s H=>he C fp s H) W w0 turn ?_;intro σ3 H3 s3 I3 q3;obtain⟨J3,m,hn⟩:=Zt I2 f2 I3;exact⟨m,hn,λh' Pq=>⟨.ref s2.heap.objs.size,H3,akq I2 J3 I3.free Pq,rfl,q3⟩⟩
set_option tactic.hygienic true in
def aih(B:Fb X N scope)(J1:X.calm=true)(hi:PI X tg iter wi)(hg:∀C fp s H,PG (Np X N scope C fp s H) tg g)(hc:∀C fp s H,PTs (Np X N scope C fp s H) ifs tc)(he:∀C fp s H,PE (Np X N scope C fp s H) elt te)(hs:∀x,foldedSetIterable iter X.env x=pure x)(hN:X.N.Nodup)(hy:X.N[i]?=some y)(hl:X.env.scope.names.lookup y=some .local)(hsw:swapsWith (.ListComp elt [⟨tg,iter,ifs,0⟩] scope pos) (some (.Name y py)) ao0.line X.env=pure true) :
 PS X (.Assign [.Name y py] (.ListComp elt [⟨tg,iter,ifs,0⟩] scope pos) ao0) (azu (adz (N.length-X.N.length) wi g tc te) (ah1 i)):=by
 intro pins s σ H D I h;rw[exec_Assign_Name_used _ _ _ _ hsw];refine aa (wpAny_standAt (aa ?_));show wpAny _ _ (do let _ <- comprehension (.ListComp elt [⟨tg,iter,ifs,0⟩] scope pos) scope X.env _ (newList []) false (eval iter X.env) (some (assign (.Name y py) X.env))) _ _ s;refine aa (mj (wpAny_comprehension_free (use:=some (assign (.Name y py) X.env)) (Q:=λ_ s'=>SP X pins D .next s') rfl hs (B.clos I.ok) B.kind B.locs
  (Bq (hi pins s σ H _ I h) λv s1 h1=>Bq h1 λitv s2 h2=>?_)) (λ_ s' hq=>aj (aj hq)) λ_ _ e=>e)
 obtain⟨it,fp,tn,J,H2,rfl,I2,T,st2,f2,q2⟩:=h2;obtain⟨W,⟨m0,w0⟩,turn⟩:=q2 s2.heap.objs.size (I2.An.fresh (bc _));refine W2 (RR:=λacc C=>compPost (model X.prog X.w) X.A X.xe (some (assign (.Name y py) X.env)) (λ_ s'=>SP X pins D .next s') acc C) (Q:=λx H1=>ah1 i x σ H1 D.nx) B J1 I2 f2 T st2 (λC s H=>hg C fp s H) (λC s H=>hc C fp s H) (λC s H=>he C fp s H) W w0 turn ?_;intro σ3 H3 s3 I3 q3;obtain⟨J3,m,hn⟩:=Zt I2 f2 I3;have hC3:=I3.free;obtain⟨oC,_,_,hoC,hdC,_⟩:=id hn;have big:∀b o,s2.heap.get? b=some o->b≠s2.heap.objs.size+1:=λb o e z=>by have:=az e;rw[z] at this;exact absurd this (Nat.not_lt.mpr (uz _))
 have neL:s2.heap.objs.size+1≠X.env.locals:=λe=>by obtain⟨m,⟨o,_,_,ho,_⟩,_⟩:=I2.loc;exact big _ o ho e.symm
 have J4:Inv X (pins++[(s2.heap.objs.size+1,oC)]) σ H3 s3:=J3.Rv λp hp=>by
  rcases dj.mp hp with q|q
  . exact J3.pin p (iu _ q)
  . have e:p=(s2.heap.objs.size+1,oC):=by simpa using q
    subst e;refine⟨hoC,hC3,neL,λhb=>?_,λv z=>by rw[hdC] at z;cases z⟩;exact I2.aza (uz _) hb
 show wpAny (model X.prog X.w) X.A (assign (.Name y py) X.env (.ref s2.heap.objs.size)) _ _ s3;refine Bq (aa7 (pos:=py) hN hy (.inl hl) (.inr hl) (pins++[(s2.heap.objs.size+1,oC)]) s3 σ H3 (.ref s2.heap.objs.size) (.ref s2.heap.objs.size) D.nx J4 rfl q3) λ_ s4 ⟨σ4,H4,I4,q4⟩=>?_
 have pC:=I4.pin (s2.heap.objs.size+1,oC) (iu _ (iu _ (by simp)));refine⟨m,hn.at' λo e=>by rw[hoC] at e;cases e;exact pC.1,λh' Pq=>⟨σ4,H4,?_,q4⟩⟩;refine(I4.Ox).turned (t':=s4.toks) (λb o hb e=>Pq.extBut b o hb e) pC.2.1 neL (.inr (gn I2.sz (uz _))) ?_ ?_
 . intro x c hc
   obtain⟨v,o,ho,_⟩:=I2.cell x c hc;exact big c o ho
 . intro p hp
   exact big p.1 p.2 (I2.pin p hp).1
end L2
namespace Sm
open PySem L2
open MW (Ex Dl OEx P0 Br m8 Lv Tg Res cj MO Jl Cp Op2 Blt Bm Kx)
abbrev Dv:=MW.D
abbrev En:=MW.Env
structure Io where
 l:List Addr
 δ:List Addr
noncomputable def Io.add(ι:Io)(p:Addr):Io:=⟨ι.l++[p],ι.δ⟩
noncomputable def Io.hide(ι:Io)(p:Addr):Io:=⟨ι.l,p::ι.δ⟩
def Io.off(ι:Io)(a:Addr):Prop:=a∉ι.l/\a∉ι.δ
def ags(K:Fg)(H:Hp)(a:Addr)(vs:List V):Prop :=
 (∃o,H a=some (.Q0 o (.lst vs))) \/
  ∃(o:Obj)(xq:U1)(n:Nat),K.lookup a=some o/\o.cls=.type "list"/\o.dict=none/\o.data=.seq xq n/\xq.size<=sizeLine/\Vals vs xq.toList
def ags.sq(h:ags K H a vs):Hm K H a vs:=by
 rcases h with⟨o,h⟩|h
 . exact .inl (.inr ⟨o,h⟩)
 . exact .inr h
mutual
inductive Rep(K:Fg)(ι:Io)(H:Hp):Dv->V->Prop
 |non:Rep K ι H .non .non
 |bl (b:Bool):Rep K ι H (.bl b) (.bl b)
 |int (i:Int):Rep K ι H (.int i) (.int i)
 |str (s:Str):Rep K ι H (.str s) (.str s)
 |tup {a:Addr} {ds:List Dv} {vs:List V} (e:H a=some (.tup vs)) (r:lg K ι H ds vs):Rep K ι H (.tup ds) (.ref a)
 |vl {a:Addr} {ds:List Dv} {vs:List V} (e:H a=some (.lst vs)) (n:ι.off a) (r:lg K ι H ds vs):Rep K ι H (.vl ds) (.ref a)
 |fz {a:Addr} {ds:List Dv} {vs:List V} (e:ags K H a vs) (r:lg K ι H ds vs):Rep K ι H (.fz ds) (.ref a)
 |ref {n:Nat} {a:Addr} (e:ι.l[n]?=some a):Rep K ι H (.ref n) (.ref a)
inductive lg(K:Fg)(ι:Io)(H:Hp):List Dv->List V->Prop
 |nil:lg K ι H [] []
 |cons {d:Dv} {v:V} {ds:List Dv} {vs:List V} (h:Rep K ι H d v) (t:lg K ι H ds vs):lg K ι H (d::ds) (v::vs)
end
structure Le(ι:Io)(H:Hp)(ι':Io)(H':Hp):Prop where
 ext:∃Y,ι'.l=ι.l++Y/\∀a∈Y,H a=none
 del:ι'.δ=ι.δ
 tup:∀a vs,H a=some (.tup vs)->H' a=some (.tup vs)
 Q0:∀a o u,H a=some (.Q0 o u)->H' a=some (.Q0 o u)
 lst:∀a vs,a∉ι.l->H a=some (.lst vs)->H' a=some (.lst vs)
 dom:∀a,H' a=none->H a=none
def Le.refl(ι:Io)(H:Hp):Le ι H ι H:=⟨⟨[],by simp,by simp⟩,rfl,λ_ _ h=>h,λ_ _ _ h=>h,λ_ _ _ h=>h,λ_ h=>h⟩
def Hn{H H':Hp}(hk:∀a u,H a=some u->∃u',H' a=some u')(h:H' a=none):H a=none:=by
 cases e:H a with
 |none=>rfl|some u=>obtain⟨u',e'⟩:=hk a u e;rw[h] at e';cases e'
def Le.get(l:Le ι H ι' H'){n:Nat}(h:ι.l[n]?=some a):ι'.l[n]?=some a:=by obtain⟨Y,e,_⟩:=l.ext;rw[e,du (ak.mp h).1];exact h
def Le.a0m(l:Le ι H ι' H')(h:a∉ι.l)(ha:H a=some o):a∉ι'.l:=by
 obtain⟨Y,e,hy⟩:=l.ext;rw[e];intro m;rcases dj.mp m with q|q
 . exact h q
 . rw[hy a q] at ha;cases ha
def Le.out(l:Le ι H ι' H')(h:ι.off a)(ha:H a=some o):ι'.off a:=⟨l.a0m h.1 ha,by rw[l.del];exact h.2⟩
theorem Le.trans(a:Le ι H ι1 H1)(b:Le ι1 H1 ι2 H2):Le ι H ι2 H2:=by
 obtain⟨Y,e1,h1⟩:=a.ext;obtain⟨Z,e2,h2⟩:=b.ext;refine⟨⟨Y++Z,by rw[e2,e1,Aa],λx m=>?_⟩,b.del.trans a.del,λx vs h=>b.tup x vs (a.tup x vs h),λx o u h=>b.Q0 x o u (a.Q0 x o u h),λx vs n h=>b.lst x vs (a.a0m n h) (a.lst x vs n h),λx h=>a.dom x (b.dom x h)⟩;rcases dj.mp m with q|q
 . exact h1 x q
 . exact a.dom x (h2 x q)
structure LeX(ι:Io)(H:Hp)(ι':Io)(H':Hp):Prop where
 ext:∃Y,ι'.l=ι.l++Y/\∀a∈Y,H a=none
 del:∀a∈ι'.δ,a∈ι.δ\/H a=none
 tup:∀a vs,H a=some (.tup vs)->H' a=some (.tup vs)
 Q0:∀a o u,H a=some (.Q0 o u)->H' a=some (.Q0 o u)
 lst:∀a vs,a∉ι.l->H a=some (.lst vs)->H' a=some (.lst vs)
def Le.toX(l:Le ι H ι' H'):LeX ι H ι' H':=⟨l.ext,λa h=>.inl (by rw[<- l.del];exact h),l.tup,l.Q0,l.lst⟩
def LeX.get(l:LeX ι H ι' H'){n:Nat}(h:ι.l[n]?=some a):ι'.l[n]?=some a:=by obtain⟨Y,e,_⟩:=l.ext;rw[e,du (ak.mp h).1];exact h
def LeX.out(l:LeX ι H ι' H')(h:ι.off a)(ha:H a=some o):ι'.off a:=by
 obtain⟨Y,e,hy⟩:=l.ext;refine⟨λm=>?_,λm=>?_⟩
 . rw[e] at m
   rcases dj.mp m with q|q
   . exact h.1 q
   . rw[hy a q] at ha;cases ha
 . rcases l.del a m with q|q
   . exact h.2 q
   . rw[q] at ha;cases ha
mutual
theorem Rep.Er{K:Fg}{ι ι':Io}{H H':Hp}(l:LeX ι H ι' H'):∀{d:Dv}{v:V},Rep K ι H d v->Rep K ι' H' d v
 |_,_,.non=>.non|_,_,.bl b=>.bl b|_,_,.int i=>.int i|_,_,.str s=>.str s|_,_,.tup e r=>.tup (l.tup _ _ e) (lg.Er l r)|_,_,.vl e n r=>.vl (l.lst _ _ n.1 e) (l.out n e) (lg.Er l r)
 | _,_,.fz e r=>.fz (by
  rcases e with⟨o,e⟩|e
  . exact .inl ⟨o,l.Q0 _ _ _ e⟩
  . exact .inr e) (lg.Er l r)
 |_,_,.ref e=>.ref (l.get e)
theorem lg.Er{K:Fg}{ι ι':Io}{H H':Hp}(l:LeX ι H ι' H'):∀{ds:List Dv}{vs:List V},lg K ι H ds vs->lg K ι' H' ds vs
 |_,_,.nil=>.nil|_,_,.cons h t=>.cons (Rep.Er l h) (lg.Er l t)
end
def Rep.mono(l:Le ι H ι' H')(r:Rep K ι H d v):Rep K ι' H' d v:=r.Er l.toX
def lg.mono(l:Le ι H ι' H')(r:lg K ι H ds vs):lg K ι' H' ds vs:=r.Er l.toX
theorem lg.length{K:Fg}{ι:Io}{H:Hp}:∀{ds:List Dv}{vs:List V},lg K ι H ds vs->ds.length=vs.length
 |_,_,.nil=>rfl|_,_,.cons _ t=>by rw[gr,gr,lg.length t]
theorem lg.get{K:Fg}{ι:Io}{H:Hp}:∀{ds:List Dv}{vs:List V}{i:Nat}{d:Dv},lg K ι H ds vs->ds[i]?=some d->∃v,vs[i]?=some v/\Rep K ι H d v
 |_,_,_,_,.nil,e=>by simp at e|_,_,0,_,.cons h _,e=>by simp at e;subst e;exact⟨_,rfl,h⟩
 |_,_,i+1,d,.cons _ t,e=>by
  obtain⟨v,h1,h2⟩:=lg.get (i:=i) t (by simpa using e);exact⟨v,by simpa using h1,h2⟩
theorem lg.set{K:Fg}{ι:Io}{H:Hp}{d:Dv}{v:V}(r:Rep K ι H d v):∀{ds:List Dv}{vs:List V}(i:Nat),lg K ι H ds vs->lg K ι H (ds.set i d) (vs.set i v)
 |_,_,_,.nil=>.nil|_,_,0,.cons _ t=>.cons r t|_,_,i+1,.cons h t=>.cons h (lg.set r i t)
theorem lg.append{K:Fg}{ι:Io}{H:Hp}:∀{ds es:List Dv}{vs us:List V},lg K ι H ds vs->lg K ι H es us->lg K ι H (ds++es) (vs++us)
 |_,_,_,_,.nil,r=>r|_,_,_,_,.cons h t,r=>.cons h (lg.append t r)
theorem lg.drop{K:Fg}{ι:Io}{H:Hp}:∀{ds:List Dv}{vs:List V}(n:Nat),lg K ι H ds vs->lg K ι H (ds.drop n) (vs.drop n)
 |_,_,0,r=>r|_,_,_+1,.nil=>.nil|_,_,n+1,.cons _ t=>lg.drop n t
theorem lg.take{K:Fg}{ι:Io}{H:Hp}:∀{ds:List Dv}{vs:List V}(n:Nat),lg K ι H ds vs->lg K ι H (ds.take n) (vs.take n)
 |_,_,0,_=>.nil|_,_,_+1,.nil=>.nil|_,_,n+1,.cons h t=>.cons h (lg.take n t)
theorem lg.eraseIdx{K:Fg}{ι:Io}{H:Hp}:∀{ds:List Dv}{vs:List V}(n:Nat),lg K ι H ds vs->lg K ι H (ds.eraseIdx n) (vs.eraseIdx n)
 |_,_,_,.nil=>.nil|_,_,0,.cons _ t=>t|_,_,n+1,.cons h t=>.cons h (lg.eraseIdx n t)
theorem lg.ints{K:Fg}{ι:Io}{H:Hp}:∀(ns:Xs),lg K ι H (ns.map MW.D.int) (ns.map V.int)
 |[]=>.nil|n::r=>.cons (.int n) (lg.ints r)
structure Nm where
 cls:Nat->Option Addr
 fld:Nat->Str
 inj:∀i j,fld i=fld j->i=j
inductive qy{κ κ':Type}(K:Fg)(ι:Io)(H:Hp)(f:κ->κ'->Prop):List (κ×Dv)->List (κ'×V)->Prop
 |nil:qy K ι H f [] []
 |cons {k:κ} {k':κ'} {d:Dv} {v:V} {l:List (κ×Dv)} {l':List (κ'×V)} (hk:f k k') (h:Rep K ι H d v) (t:qy K ι H f l l'):qy K ι H f ((k,d)::l) ((k',v)::l')
theorem qy.mono{κ κ':Type}{K:Fg}{ι ι':Io}{H H':Hp}{f:κ->κ'->Prop}(le:Le ι H ι' H'):∀{l:List (κ×Dv)}{l':List (κ'×V)},qy K ι H f l l'->qy K ι' H' f l l'
 |_,_,.nil=>.nil|_,_,.cons k h t=>.cons k (h.mono le) (qy.mono le t)
def Hd(nm:Nm)(K:Fg)(ι:Io)(H:Hp)(o:MO)(a:Addr):Prop :=
 match o with
 |.lst ds=>∃vs,H a=some (.lst vs)/\lg K ι H ds vs|.dT iw=>∃l,H a=some (.dT l)/\qy K ι H (λk k'=>k=k') iw l
 |.dK iw=>∃l,H a=some (.dK l)/\qy K ι H (λk k'=>k=k') iw l
 |.ins c fs=>∃C dx l,nm.cls c=some C/\H a=some (.ins C dx l)/\qy K ι H (λk k'=>k'=nm.fld k) fs l
structure m5(nm:Nm)(K:Fg)(ι:Io)(H:Hp)(M:cj):Prop where
 len:ι.l.length=M.length
 nd:ι.l.Nodup
 del:∀a∈ι.δ,a∉ι.l/\∃vs,H a=some (.lst vs)
 obj:∀(n:Nat)(o:MO)(a:Addr),M[n]?=some o->ι.l[n]?=some a->Hd nm K ι H o a
theorem Hd.some(h:Hd nm K ι H o a):∃u,H a=some u/\Mut (H a):=by
 cases o with
 |lst ds=>obtain⟨vs,e,_⟩:=h;exact⟨_,e,by rw[e];trivial⟩
 |dT iw=>obtain⟨vs,e,_⟩:=h;exact⟨_,e,by rw[e];trivial⟩
 |dK iw=>obtain⟨vs,e,_⟩:=h;exact⟨_,e,by rw[e];trivial⟩
 |ins c fs=>obtain⟨C,dx,l,_,e,_⟩:=h;exact⟨_,e,by rw[e];trivial⟩
def m5.addr(S:m5 nm K ι H M){n:Nat}(h:M[n]?=some o):∃a,ι.l[n]?=some a/\Hd nm K ι H o a:=by
 have hl:n < ι.l.length:=by rw[S.len];exact MW.ye h
 exact⟨ι.l[n],by simp[hl],S.obj n o _ h (by simp[hl])⟩
def m5.mem(S:m5 nm K ι H M)(h:a∈ι.l):∃u,H a=some u/\Mut (H a):=by
 obtain⟨n,hn,rfl⟩:=qb h;have hm:n<M.length:=by rw[<- S.len];exact hn
 exact(S.obj n M[n] ι.l[n] (by simp[hm]) (by simp[hn])).some
def m5.fresh(S:m5 nm K ι H M)(h:H a=none):ι.off a:=by
 refine⟨λm=>?_,λm=>?_⟩
 . obtain⟨u,e,_⟩:=S.mem m
   rw[h] at e;cases e
 . obtain⟨_,vs,e⟩:=S.del a m
   rw[h] at e;cases e
def Hd.move(h:Hd nm K ι H o a)(le:Le ι H ι' H')(e:H' a=H a):Hd nm K ι' H' o a:=by
 cases o with
 |lst ds=>obtain⟨vs,q,r⟩:=h;exact⟨vs,e.trans q,r.mono le⟩
 |dT iw=>obtain⟨vs,q,r⟩:=h;exact⟨vs,e.trans q,r.mono le⟩
 |dK iw=>obtain⟨vs,q,r⟩:=h;exact⟨vs,e.trans q,r.mono le⟩
 |ins c fs=>obtain⟨C,dx,l,hc,q,r⟩:=h;exact⟨C,dx,l,hc,e.trans q,r.mono le⟩
def m5.laid(S:m5 nm K ι H M)(h:H p=none)(o:HO):m5 nm K ι (upd H p o) M/\Le ι H ι (upd H p o):=by
 have ne:∀a u,H a=some u->a≠p:=λa u e=>kh e h
 have le:Le ι H ι (upd H p o):=⟨⟨[],by simp,by simp⟩,rfl,λa vs e=>by rw[j8 (ne a _ e)];exact e,λa _ u e=>by rw[j8 (ne a _ e)];exact e,λa vs _ e=>by rw[j8 (ne a _ e)];exact e,
  λa h'=>Hn (λb u e=>⟨u,by rw[j8 (ne b _ e)];exact e⟩) h'⟩
 refine⟨⟨S.len,S.nd,λa ha=>?_,λn o' a hn ha=>?_⟩,le⟩
 . obtain⟨h1,vs,h2⟩:=S.del a ha
   exact⟨h1,vs,le.lst a vs h1 h2⟩
 . have q:=S.obj n o' a hn ha
   obtain⟨u,e,_⟩:=q.some;exact q.move le (by rw[j8 (ne a u e)])
def Cd{α:Type}{l:List α}{x y:α}(h:(l++[x])[n]?=some y):(l[n]?=some y)\/(n=l.length/\y=x):=by
 rcases Ak n l.length with q|q
 . rw[du q] at h;exact .inl h
 . rw[jg q] at h
   have:n-l.length=0:=by
    rcases Nat.eq_zero_or_pos (n-l.length) with z|z
    . exact z
    . rw[p8 (by simp;exact z)] at h;cases h
   rw[this] at h;simp at h;exact .inr ⟨by lia,h.symm⟩
def m5.new(S:m5 nm K ι H M)(h:H p=none)(hk:∀a u,H a=some u->H' a=some u)(ho:Le ι H (ι.add p) H'->Hd nm K (ι.add p) H' o p):m5 nm K (ι.add p) H' (M++[o])/\Le ι H (ι.add p) H':=by
 have le:Le ι H (ι.add p) H':=⟨⟨[p],rfl,by simpa using h⟩,rfl,λa vs e=>hk _ _ e,λa _ u e=>hk _ _ e,λa vs _ e=>hk _ _ e,λa h'=>Hn (H:=H) (H':=H') (λb u e=>⟨u,hk b u e⟩) h'⟩;refine⟨⟨by simp[Io.add,S.len],?_,λa ha=>?_,λn o' a hn ha=>?_⟩,le⟩
 . exact yh.mpr ⟨S.nd,by simp,by
    intro x hx y hy;have:y=p:=by simpa using hy
    subst this;intro e;subst e;exact(S.fresh h).1 hx⟩
 . obtain⟨h1,vs,h2⟩:=S.del a ha
   exact⟨le.a0m h1 h2,vs,hk _ _ h2⟩
 . rcases Cd hn with q|⟨q,rfl⟩
   . rcases Cd ha with r|⟨r,_⟩
     . have z:=S.obj n o' a q r
       obtain⟨u,e,_⟩:=z.some;exact z.move le ((hk a u e).trans e.symm)
     . exact absurd (MW.ye q) (by rw[r,S.len];exact mq _)
   . rcases Cd ha with r|⟨_,rfl⟩
     . exact absurd (ak.mp r).1 (by rw[q,S.len];exact mq _)
     . exact ho le
def m5.put(S:m5 nm K ι H M)(hn:M[n]?=some o₀)(ha:ι.l[n]?=some a)(ho:Le ι H ι (upd H a u)->Hd nm K ι (upd H a u) o a):m5 nm K ι (upd H a u) (M.set n o)/\Le ι H ι (upd H a u):=by
 obtain⟨u₀,e₀,m₀⟩:=(S.obj n o₀ a hn ha).some;have hm:a∈ι.l:=au ha;have le:Le ι H ι (upd H a u):=⟨⟨[],by simp,by simp⟩,rfl,λb vs e=>by rw[j8 (λz=>by subst z;rw[e] at m₀;exact m₀)];exact e,
  λb _ _ e=>by rw[j8 (λz=>by subst z;rw[e] at m₀;exact m₀)];exact e,λb vs nb e=>by rw[j8 (λz=>by subst z;exact nb hm)];exact e,λb h'=>Hn (λc w e=>by
   by_cases z:c=a
   . exact⟨u,by rw[z,wj]⟩
   . exact⟨w,by rw[j8 z];exact e⟩) h'⟩
 refine⟨⟨by rw[List.length_set];exact S.len,S.nd,λb hb=>?_,λm o' b hm' hb=>?_⟩,le⟩
 . obtain⟨h1,vs,h2⟩:=S.del b hb
   exact⟨h1,vs,le.lst b vs h1 h2⟩
 by_cases q:m=n
 . subst q
   rw[MW.vq hn] at hm';cases hm';rw[ha] at hb;cases hb;exact ho le
 . rw[MW.su (jz q)] at hm'
   have z:=S.obj m o' b hm' hb;have nb:b≠a:=λe=>by subst e;obtain⟨l1,e1⟩:=ak.mp hb;obtain⟨l2,e2⟩:=ak.mp ha;exact q ((Aq S.nd).mp (e1.trans e2.symm))
   exact z.move le (by rw[j8 nb])
mutual
theorem Rep.hide{K:Fg}{ι:Io}{H:Hp}{D:Addr}{o:HO}(hD:H D=none):∀{d:Dv}{v:V},Rep K ι H d v->Rep K (ι.hide D) (upd H D o) d v
 |_,_,.non=>.non|_,_,.bl b=>.bl b|_,_,.int i=>.int i|_,_,.str s=>.str s|_,_,.tup e r=>.tup (by rw[j8 (kh e hD)];exact e) (lg.hide hD r)
 | _,_,.vl e n r=>.vl (by rw[j8 (kh e hD)];exact e) ⟨n.1,λm=>by
  rcases bw.mp m with q|q
  . exact kh e hD q
  . exact n.2 q⟩ (lg.hide hD r)
 | _,_,.fz e r=>.fz (by
  rcases e with⟨q,e⟩|e
  . exact .inl ⟨q,by rw[j8 (kh e hD)];exact e⟩
  . exact .inr e) (lg.hide hD r)
 |_,_,.ref e=>.ref e
theorem lg.hide{K:Fg}{ι:Io}{H:Hp}{D:Addr}{o:HO}(hD:H D=none):∀{ds:List Dv}{vs:List V},lg K ι H ds vs->lg K (ι.hide D) (upd H D o) ds vs
 |_,_,.nil=>.nil|_,_,.cons h t=>.cons (Rep.hide hD h) (lg.hide hD t)
end
mutual
theorem Rep.grow{K:Fg}{ι:Io}{H:Hp}{D:Addr}{vs ws:List V}(hD:H D=some (.lst vs))(hm:D∈ι.δ):∀{d:Dv}{v:V},Rep K ι H d v->Rep K ι (upd H D (.lst ws)) d v
 |_,_,.non=>.non|_,_,.bl b=>.bl b|_,_,.int i=>.int i|_,_,.str s=>.str s|_,_,.tup e r=>.tup (by rw[j8 (ani e hD (by intro z;cases z))];exact e) (lg.grow hD hm r)|_,_,.vl e n r=>.vl (by rw[j8 (λz=>by subst z;exact n.2 hm)];exact e) n (lg.grow hD hm r)
 | _,_,.fz e r=>.fz (by
  rcases e with⟨q,e⟩|e
  . exact .inl ⟨q,by rw[j8 (ani e hD (by intro z;cases z))];exact e⟩
  . exact .inr e) (lg.grow hD hm r)
 |_,_,.ref e=>.ref e
theorem lg.grow{K:Fg}{ι:Io}{H:Hp}{D:Addr}{vs ws:List V}(hD:H D=some (.lst vs))(hm:D∈ι.δ):∀{ds:List Dv}{us:List V},lg K ι H ds us->lg K ι (upd H D (.lst ws)) ds us
 |_,_,.nil=>.nil|_,_,.cons h t=>.cons (Rep.grow hD hm h) (lg.grow hD hm t)
end
mutual
theorem Rep.show{K:Fg}{ι:Io}{H:Hp}{D:Addr}:∀{d:Dv}{v:V},Rep K (ι.hide D) H d v->Rep K ι H d v
 |_,_,.non=>.non|_,_,.bl b=>.bl b|_,_,.int i=>.int i|_,_,.str s=>.str s|_,_,.tup e r=>.tup e (lg.show r)
 |_,_,.vl e n r=>.vl e ⟨n.1,λm=>n.2 (bh _ m)⟩ (lg.show r)
 |_,_,.fz e r=>.fz e (lg.show r)
 |_,_,.ref e=>.ref e
theorem lg.show{K:Fg}{ι:Io}{H:Hp}{D:Addr}:∀{ds:List Dv}{vs:List V},lg K (ι.hide D) H ds vs->lg K ι H ds vs
 |_,_,.nil=>.nil|_,_,.cons h t=>.cons (Rep.show h) (lg.show t)
end
theorem qy.map{κ κ':Type}{K:Fg}{ι ι':Io}{H H':Hp}{f:κ->κ'->Prop}(g:∀d v,Rep K ι H d v->Rep K ι' H' d v):∀{l:List (κ×Dv)}{l':List (κ'×V)},qy K ι H f l l'->qy K ι' H' f l l'
 |_,_,.nil=>.nil|_,_,.cons k h t=>.cons k (g _ _ h) (qy.map g t)
theorem lg.map{K:Fg}{ι ι':Io}{H H':Hp}(g:∀d v,Rep K ι H d v->Rep K ι' H' d v):∀{l:List Dv}{l':List V},lg K ι H l l'->lg K ι' H' l l'
 |_,_,.nil=>.nil|_,_,.cons h t=>.cons (g _ _ h) (lg.map g t)
theorem Hd.map(g:∀d v,Rep K ι H d v->Rep K ι' H' d v)(h:Hd nm K ι H o a)(e:H' a=H a):Hd nm K ι' H' o a:=by
 cases o with
 |lst ds=>obtain⟨vs,q,r⟩:=h;exact⟨vs,e.trans q,r.map g⟩
 |dT iw=>obtain⟨vs,q,r⟩:=h;exact⟨vs,e.trans q,r.map g⟩
 |dK iw=>obtain⟨vs,q,r⟩:=h;exact⟨vs,e.trans q,r.map g⟩
 |ins c fs=>obtain⟨C,dx,l,hc,q,r⟩:=h;exact⟨C,dx,l,hc,e.trans q,r.map g⟩
theorem m5.hide(S:m5 nm K ι H M)(hD:H D=none):m5 nm K (ι.hide D) (upd H D (.lst [])) M:=by
 refine⟨S.len,S.nd,λa ha=>?_,λn o a hn ha=>?_⟩
 . rcases bw.mp ha with q|q
   . subst q;exact⟨(S.fresh hD).1,[],wj⟩
   . obtain⟨h1,vs,h2⟩:=S.del a q
     exact⟨h1,vs,by rw[j8 (kh h2 hD)];exact h2⟩
 . have z:=S.obj n o a hn ha
   obtain⟨u,e,_⟩:=z.some;exact z.map (λd v r=>r.hide hD) (by rw[j8 (kh e hD)])
theorem m5.grow(S:m5 nm K ι H M)(hD:H D=some (.lst vs))(hm:D∈ι.δ):m5 nm K ι (upd H D (.lst ws)) M:=by
 refine⟨S.len,S.nd,λa ha=>?_,λn o a hn ha=>?_⟩
 . obtain⟨h1,us,h2⟩:=S.del a ha
   by_cases z:a=D
   . subst z;exact⟨h1,ws,wj⟩
   . exact⟨h1,us,by rw[j8 z];exact h2⟩
 . have z:=S.obj n o a hn ha
   have ne:a≠D:=λe=>by subst e;exact(S.del a hm).1 (au ha)
   exact z.map (λd v r=>r.grow hD hm) (by rw[j8 ne])
theorem m5.show(S:m5 nm K (ι.hide D) H M):m5 nm K ι H M :=
 ⟨S.len,S.nd,λa ha=>S.del a (bh _ ha),λn o a hn ha=>(S.obj n o a hn ha).map (λd v r=>r.show) rfl⟩
structure LeD(D:Addr)(ι:Io)(H:Hp)(ι':Io)(H':Hp):Prop where
 ext:∃Y,ι'.l=ι.l++Y/\∀a∈Y,H a=none
 del:ι'.δ=D::ι.δ
 tup:∀a vs,H a=some (.tup vs)->H' a=some (.tup vs)
 Q0:∀a o u,H a=some (.Q0 o u)->H' a=some (.Q0 o u)
 lst:∀a vs,a∉ι.l->H a=some (.lst vs)->H' a=some (.lst vs)
 dom:∀a,H' a=none->H a=none
def LeD.toX(l:LeD D ι H ι' H')(hD:H D=none):LeX ι H ι' H':=⟨l.ext,λa h=>by
 rw[l.del] at h;rcases bw.mp h with q|q
 . exact .inr (by rw[q];exact hD)
 . exact .inl q,l.tup,l.Q0,l.lst⟩
def LeD.start(hD:H D=none)(o:HO):LeD D ι H (ι.hide D) (upd H D o) :=
 ⟨⟨[],by simp[Io.hide],by simp⟩,rfl,λa vs e=>by rw[j8 (kh e hD)];exact e,λa _ _ e=>by rw[j8 (kh e hD)];exact e,λa vs _ e=>by rw[j8 (kh e hD)];exact e,
  λa h'=>Hn (λb u e=>⟨u,by rw[j8 (kh e hD)];exact e⟩) h'⟩
def LeD.go(a:LeD D ι H ι1 H1)(b:Le ι1 H1 ι2 H2):LeD D ι H ι2 H2:=by
 obtain⟨Y,e1,h1⟩:=a.ext;obtain⟨Z,e2,h2⟩:=b.ext;have out:∀x o,x∉ι.l->H x=some o->x∉ι1.l:=λx o n h m=>by
  rw[e1] at m;rcases dj.mp m with q|q
  . exact n q
  . rw[h1 x q] at h;cases h
 refine⟨⟨Y++Z,by rw[e2,e1,Aa],λx m=>?_⟩,b.del.trans a.del,λx vs h=>b.tup x vs (a.tup x vs h),λx o u h=>b.Q0 x o u (a.Q0 x o u h),λx vs n h=>b.lst x vs (out x _ n h) (a.lst x vs n h),λx h=>a.dom x (b.dom x h)⟩;rcases dj.mp m with q|q
 . exact h1 x q
 . exact a.dom x (h2 x q)
def LeD.grow(a:LeD D ι H ι1 H1)(h0:H D=none)(hD:H1 D=some (.lst vs)):LeD D ι H ι1 (upd H1 D (.lst ws)) :=
 ⟨a.ext,a.del,λx us h=>by rw[j8 (kh h h0)];exact a.tup x us h,λx o u h=>by rw[j8 (kh h h0)];exact a.Q0 x o u h,λx us n h=>by rw[j8 (kh h h0)];exact a.lst x us n h,
  λx h=>a.dom x (by
   by_cases z:x=D
   . rw[z,wj] at h;cases h
   . rw[j8 z] at h;exact h)⟩
def LeD.done(a:LeD D ι H ⟨ι1.l,D::ι1.δ⟩ H1):Le ι H ι1 H1 :=
 ⟨a.ext,(List.cons.inj a.del).2,a.tup,a.Q0,a.lst,a.dom⟩
inductive uv(K:Fg)(ι:Io)(H:Hp):En->St->Prop
 |nil:uv K ι H [] []
 |skp {y:Option V} {ρ:En} {σ:St} (t:uv K ι H ρ σ):uv K ι H (none::ρ) (y::σ)
 |has {d:Dv} {v:V} {ρ:En} {σ:St} (h:Rep K ι H d v) (t:uv K ι H ρ σ):uv K ι H (some d::ρ) (some v::σ)
theorem uv.Er{K:Fg}{ι ι':Io}{H H':Hp}(le:LeX ι H ι' H'):∀{ρ:En}{σ:St},uv K ι H ρ σ->uv K ι' H' ρ σ
 |_,_,.nil=>.nil|_,_,.skp t=>.skp (uv.Er le t)|_,_,.has h t=>.has (h.Er le) (uv.Er le t)
theorem uv.mono{K:Fg}{ι ι':Io}{H H':Hp}(le:Le ι H ι' H'):∀{ρ:En}{σ:St},uv K ι H ρ σ->uv K ι' H' ρ σ
 |_,_,.nil=>.nil|_,_,.skp t=>.skp (uv.mono le t)|_,_,.has h t=>.has (h.mono le) (uv.mono le t)
theorem uv.get{K:Fg}{ι:Io}{H:Hp}:∀{ρ:En}{σ:St}{i:Nat}{d:Dv},uv K ι H ρ σ->ρ[i]?=some (some d)->∃v,σ[i]?=some (some v)/\Rep K ι H d v
 |_,_,_,_,.nil,e=>by simp at e|_,_,0,_,.skp _,e=>by simp at e|_,_,0,_,.has h _,e=>by simp at e;subst e;exact⟨_,rfl,h⟩
 |_,_,i+1,d,.skp t,e=>by
  obtain⟨v,h1,h2⟩:=uv.get (i:=i) t (by simpa using e);exact⟨v,by simpa using h1,h2⟩
 |_,_,i+1,d,.has _ t,e=>by
  obtain⟨v,h1,h2⟩:=uv.get (i:=i) t (by simpa using e);exact⟨v,by simpa using h1,h2⟩
theorem uv.set{K:Fg}{ι:Io}{H:Hp}{d:Dv}{v:V}(r:Rep K ι H d v):∀{ρ:En}{σ:St}(i:Nat),uv K ι H ρ σ->uv K ι H (ρ.set i (some d)) (σ.set i (some v))
 |_,_,_,.nil=>.nil|_,_,0,.skp t=>.has r t|_,_,0,.has _ t=>.has r t|_,_,i+1,.skp t=>.skp (uv.set r i t)|_,_,i+1,.has h t=>.has h (uv.set r i t)
theorem uv.length{K:Fg}{ι:Io}{H:Hp}:∀{ρ:En}{σ:St},uv K ι H ρ σ->ρ.length=σ.length
 |_,_,.nil=>rfl|_,_,.skp t=>by rw[gr,gr,uv.length t]|_,_,.has _ t=>by rw[gr,gr,uv.length t]
theorem uv.append{K:Fg}{ι:Io}{H:Hp}:∀{ρ ρ':En}{σ σ':St},uv K ι H ρ σ->uv K ι H ρ' σ'->uv K ι H (ρ++ρ') (σ++σ')
 |_,_,_,_,.nil,r=>r|_,_,_,_,.skp t,r=>.skp (uv.append t r)|_,_,_,_,.has h t,r=>.has h (uv.append t r)
theorem uv.ao1{K:Fg}{ι:Io}{H:Hp}:∀(k:Nat){σ:St},σ.length=k->uv K ι H (List.replicate k none) σ
 |0,[],_=>.nil|k+1,_::r,h=>.skp (uv.ao1 k (by simpa using h))
theorem uv.ao2{K:Fg}{ι:Io}{H:Hp}:∀{ds:List Dv}{vs:List V},lg K ι H ds vs->uv K ι H (ds.map some) (vs.map some)
 |_,_,.nil=>.nil|_,_,.cons h t=>.has h (uv.ao2 t)
def fc{r:Res α}(h:r.bind f=.ok b M):∃a M1,r=.ok a M1/\f a M1=.ok b M:=by
 cases r with
 |ok a M1=>exact⟨a,M1,rfl,h⟩|err c M1=>cases h|bad=>cases h
def yo(h:Res.u9 o M=.ok a M'):o=some a/\M'=M:=by
 cases o with
 |none=>cases h|some x=>cases h;exact⟨rfl,rfl⟩
def PE.weak(h:PE X e t)(w:∀σ H Q,t' σ H Q->t σ H Q):PE X e t':=λpins s σ H Q I q=>h pins s σ H Q I (w σ H Q q)
def PT.weak(h:PT X e t)(w:∀σ H Q,t' σ H Q->t σ H Q):PT X e t':=λpins s σ H Q I q=>h pins s σ H Q I (w σ H Q q)
def PA.weak(h:PA X es t)(w:∀σ H Q,t' σ H Q->t σ H Q):PA X es t':=λpos pins s σ H Q I q=>h pos pins s σ H Q I (w σ H Q q)
def PS.weak(h:PS X e t)(w:∀D σ H,t' D σ H->t D σ H):PS X e t':=λpins s σ H D I q=>h pins s σ H D I (w D σ H q)
def Rx.weak(h:Rx X e t)(w:∀D σ H,t' D σ H->t D σ H):Rx X e t':=λpins s σ H D I q=>h pins s σ H D I (w D σ H q)
def Cz.weak(h:Cz X f r)(w:∀x y H Q,r' x y H Q->r x y H Q):Cz X f r':=λpins s σ H x y v u Q I rx ry q=>h pins s σ H x y v u Q I rx ry (w x y H Q q)
section
variable(nm:Nm)(W:Jl)(K:Fg)
def tE(e:Ex):TE:=fun σ H Q=>∃ι ρ M d M',m5 nm K ι H M/\uv K ι H ρ σ/\e.den W ρ M=.ok d M'/\∀ι' H' v,Le ι H ι' H'->m5 nm K ι' H' M'->Rep K ι' H' d v->Q v H'
def tQ(e:Ex):TT:=fun σ H Q=>∃ι ρ M b M',m5 nm K ι H M/\uv K ι H ρ σ/\e.den W ρ M=.ok (.bl b) M'/\∀ι' H',Le ι H ι' H'->m5 nm K ι' H' M'->Q b H'
def Yc(es:Dl):TA:=fun σ H Q=>∃ι ρ M ds M',m5 nm K ι H M/\uv K ι H ρ σ/\es.den W ρ M=.ok ds M'/\∀ι' H' vs,Le ι H ι' H'->m5 nm K ι' H' M'->lg K ι' H' ds vs->Q vs H'
def W3(D:Ends)(ι:Io)(H:Hp)(fl:MW.Flow)(ρ:En)(M:cj):Prop :=
 ∀ι' H' σ',Le ι H ι' H'->m5 nm K ι' H' M->uv K ι' H' ρ σ' ->
  match fl with
  |.next=>D.nx σ' H'|.brk=>D.bk σ' H'|.cont=>D.ct σ' H'|.ret d=>∀v,Rep K ι' H' d v->D.rt v H'
def tS(st:Br):TS:=λD σ H=>∃ι ρ M fl ρ' M',m5 nm K ι H M/\uv K ι H ρ σ/\st.den W ρ M=.ok (fl,ρ') M'/\W3 nm K D ι H fl ρ' M'
def tSs(st:m8):TS:=λD σ H=>∃ι ρ M fl ρ' M',m5 nm K ι H M/\uv K ι H ρ σ/\st.den W ρ M=.ok (fl,ρ') M'/\W3 nm K D ι H fl ρ' M'
end
def PE.of(h:PE X a t)(w:∀σ H Q ι ρ M d M',m5 nm X.K ι H M->uv X.K ι H ρ σ->e'.den W ρ M=.ok d M'->(∀ι' H' v,Le ι H ι' H'->m5 nm X.K ι' H' M'->Rep X.K ι' H' d v->Q v H')->t σ H Q):PE X a (tE nm W X.K e'):=PE.weak h fun σ H Q ⟨ι,ρ,M,d,M',S,R,e,q⟩=>w σ H Q ι ρ M d M' S R e q
def PT.of(h:PT X a t)(w:∀σ H Q ι ρ M b M',m5 nm X.K ι H M->uv X.K ι H ρ σ->e'.den W ρ M=.ok (.bl b) M'->(∀ι' H',Le ι H ι' H'->m5 nm X.K ι' H' M'->Q b H')->t σ H Q):PT X a (tQ nm W X.K e'):=PT.weak h fun σ H Q ⟨ι,ρ,M,d,M',S,R,e,q⟩=>w σ H Q ι ρ M d M' S R e q
def PA.of(h:PA X es t)(w:∀σ H Q ι ρ M ds M',m5 nm X.K ι H M->uv X.K ι H ρ σ->es'.den W ρ M=.ok ds M'->(∀ι' H' vs,Le ι H ι' H'->m5 nm X.K ι' H' M'->lg X.K ι' H' ds vs->Q vs H')->t σ H Q):PA X es (Yc nm W X.K es'):=PA.weak h fun σ H Q ⟨ι,ρ,M,d,M',S,R,e,q⟩=>w σ H Q ι ρ M d M' S R e q
def PS.of(h:PS X st t)(w:∀D σ H ι ρ M fl ρ' M',m5 nm X.K ι H M->uv X.K ι H ρ σ->s'.den W ρ M=.ok (fl,ρ') M'->W3 nm X.K D ι H fl ρ' M'->t D σ H):PS X st (tS nm W X.K s'):=PS.weak h λD σ H ⟨ι,ρ,M,fl,ρ',M',S,R,e,q⟩=>w D σ H ι ρ M fl ρ' M' S R e q
def Rx.of(h:Rx X st t)(w:∀D σ H ι ρ M fl ρ' M',m5 nm X.K ι H M->uv X.K ι H ρ σ->s'.den W ρ M=.ok (fl,ρ') M'->W3 nm X.K D ι H fl ρ' M'->t D σ H):Rx X st (tSs nm W X.K s'):=Rx.weak h λD σ H ⟨ι,ρ,M,fl,ρ',M',S,R,e,q⟩=>w D σ H ι ρ M fl ρ' M' S R e q
def one{X:Cx}{M1:cj}(S:m5 nm X.K ι H M)(R:uv X.K ι H ρ σ)(ha:a'.den W ρ M=.ok x M1)(h:∀ι1 H1 v,Le ι H ι1 H1->m5 nm X.K ι1 H1 M1->uv X.K ι1 H1 ρ σ->Rep X.K ι1 H1 x v->G v H1):tE nm W X.K a' σ H G :=
 ⟨ι,ρ,M,x,M1,S,R,ha,fun ι' H' v le S' r=>h ι' H' v le S' (R.mono le) r⟩
theorem two{X:Cx}{M1 M2:cj}{G:V->V->Hp->Prop}(S:m5 nm X.K ι H M)(R:uv X.K ι H ρ σ)(ha:a'.den W ρ M=.ok x M1)(hb:b'.den W ρ M1=.ok y M2)(h:∀ι2 H2 v u,Le ι H ι2 H2->m5 nm X.K ι2 H2 M2->uv X.K ι2 H2 ρ σ->Rep X.K ι2 H2 x v->Rep X.K ι2 H2 y u->G v u H2) :
 tE nm W X.K a' σ H λv H1=>tE nm W X.K b' σ H1 λu H2=>G v u H2 :=
 one S R ha fun ι1 H1 v Vu S1 R1 r1=>one S1 R1 hb fun ι2 H2 u zy S2 R2 r2=>h ι2 H2 v u (Vu.trans zy) S2 R2 (r1.mono zy) r2
set_option tactic.hygienic true in
def a7w(hN:X.N[i]?=some n)(hv:Vis X.env.scope n)(hd:(n==("__debug__" : Str))=false)(hcd:(n==("__classdict__" : Str))=false):PE X (.Name n pos) (tE nm W X.K (.var i)) :=
 PE.of (azc hN hv hd hcd) fun σ H Q ι ρ M d M' S R e q=>by
  rw[MW.Rf] at e;split at e
  . rename_i d' hd
    cases e;obtain⟨v,h1,h2⟩:=R.get hd;exact⟨v,h1,q ι H v (Le.refl _ _) S h2⟩
  . cases e
def a7x:PE X (.Constant (.int i) j pos) (tE nm W X.K (.cst (.int i))) :=
 PE.of azd fun σ H Q ι ρ M d M' S R e q=>by rw[MW.Rg] at e;cases e;exact q ι H _ (Le.refl _ _) S (.int i)
def bed:PE X (.Constant (.bool i) j pos) (tE nm W X.K (.cst (.bl i))) :=
 PE.of a6b fun σ H Q ι ρ M d M' S R e q=>by rw[MW.Rg] at e;cases e;exact q ι H _ (Le.refl _ _) S (.bl i)
def a7y:PE X (.Constant .none j pos) (tE nm W X.K (.cst .non)) :=
 PE.of aze fun σ H Q ι ρ M d M' S R e q=>by rw[MW.Rg] at e;cases e;exact q ι H _ (Le.refl _ _) S .non
def a7z:PE X (.Constant (.str i) j pos) (tE nm W X.K (.cst (.str i))) :=
 PE.of azf fun σ H Q ι ρ M d M' S R e q=>by rw[MW.Rg] at e;cases e;exact q ι H _ (Le.refl _ _) S (.str i)
def a0n(hg:Gl X n)(hm:X.mg n=some (.int i t))(hd:(n==("__debug__" : Str))=false):PE X (.Name n pos) (tE nm W X.K (.cst (.int i))) :=
 PE.of (atk (v:=.int i) hg hm ⟨t,rfl⟩ hd) fun σ H Q ι ρ M d M' S R e q=>by rw[MW.Rg] at e;cases e;exact q ι H _ (Le.refl _ _) S (.int i)
def rOp(nm:Nm)(K:Fg)(f:Dv->Dv->cj->Res Dv):R2:=λv u H Q=>∃ι M x y d M',m5 nm K ι H M/\Rep K ι H x v/\Rep K ι H y u/\f x y M=.ok d M' /\
 ∀ι' H' w,Le ι H ι' H'->m5 nm K ι' H' M'->Rep K ι' H' d w->Q w H'
def Cz.of(h:Cz X f r)(w:∀v u H Q ι M x y d M',m5 nm X.K ι H M->Rep X.K ι H x v->Rep X.K ι H y u->g x y M=.ok d M'->(∀ι' H' w,Le ι H ι' H'->m5 nm X.K ι' H' M'->Rep X.K ι' H' d w->Q w H')->r v u H Q):Cz X f (rOp nm X.K g) :=
 Cz.weak h λv u H Q ⟨ι,M,x,y,d,M',S,rv,ru,e,q⟩=>w v u H Q ι M x y d M' S rv ru e q
def a70(ho:Cz X (binaryOp op) (rOp nm X.K (MW.Cm op')))(ha:PE X a (tE nm W X.K a'))(hb:PE X b (tE nm W X.K b')):PE X (.BinOp a op b pos) (tE nm W X.K (.bin op' a' b')) :=
 PE.of (a6q ho ha hb) fun σ H Q ι ρ M d M' S R e q=>by rw[MW.Rh] at e;obtain⟨x,M1,e1,e⟩:=fc e;obtain⟨y,M2,e2,e⟩:=fc e;exact two S R e1 e2 fun ι2 H2 v u le S2 _ rv ru=>⟨ι2,M2,x,y,d,M',S2,rv,ru,e,fun ι' H' w Yd S' r=>q ι' H' w (le.trans Yd) S' r⟩
def a71:Cz X (binaryOp .Sub) (rOp nm X.K (MW.Cm .sub)) :=
 Cz.of az0 λv u H Q ι M x y d M' S rv ru e q=>by obtain⟨i,j,rfl,rfl,e2⟩:=MW.aam e (by intro z;cases z);cases rv;cases ru;cases e2;exact⟨_,_,rfl,rfl,q ι H _ (Le.refl _ _) S (.int _)⟩
def a0o{g:Int->Int->Int}{P:Int->Int->Prop}[∀i j,Decidable (P i j)](h:Cz X (binaryOp op) r)(hb:∀x y M,MW.Cm op' x y M=MW.ii x y (λi j=>if P i j then .ok (.int (g i j)) M else .bad) .bad)(w:∀i j H Q,P i j->Q (.int (g i j)) H->r (.int i) (.int j) H Q):Cz X (binaryOp op) (rOp nm X.K (MW.Cm op')) :=
 Cz.of h λv u H Q ι M x y d M' S rv ru e q=>by
  rw[hb] at e;obtain⟨i,j,rfl,rfl,e2⟩:=MW.aam e (by intro z;cases z)
  by_cases hp:P i j
  . rw[cg hp] at e2
    cases rv;cases ru;cases e2;exact w i j H Q hp (q ι H _ (Le.refl _ _) S (.int _))
  . rw[bx hp] at e2;cases e2
def a72:Cz X (binaryOp .Mod) (rOp nm X.K (MW.Cm .mod)):=a0o az2 (λ_ _ _=>rfl) λi j H Q h q=>⟨_,_,rfl,rfl,h,q⟩
def a0p:Cz X (binaryOp .FloorDiv) (rOp nm X.K (MW.Cm .fdiv)):=a0o atv (λ_ _ _=>rfl) λi j H Q h q=>⟨_,_,rfl,rfl,h,q⟩
def a73:Cz X (binaryOp .Pow) (rOp nm X.K (MW.Cm .pow)):=a0o az3 (λ_ _ _=>rfl) λi j H Q h q=>⟨_,_,rfl,rfl,⟨h.1,by omega,h.2.2⟩,q⟩
set_option tactic.hygienic true in
def qx{X:Cx}(S:m5 nm X.K ι H M)(r:Rep X.K ι H d v)(h:MW.fu M d=some ds):∃p vs,v=.ref p/\H p=some (.lst vs)/\lg X.K ι H ds vs:=by
 cases r with
 |vl e n r=>simp[MW.fu] at h;subst h;exact⟨_,_,rfl,e,r⟩
 |ref e =>
  rename_i n p;simp only[MW.fu] at h;split at h<;>simp at h;rename_i ds' hn;subst h;obtain⟨vs,h1,h2⟩:=S.obj n _ p hn e;exact⟨p,vs,rfl,h1,h2⟩
 |_=>simp[MW.fu] at h
def Hr{X:Cx}(S:m5 nm X.K ι H M)(r:Rep X.K ι H d v)(h:MW.Aw M d=some ds):∃p vs,v=.ref p/\(H p=some (.lst vs)\/H p=some (.tup vs))/\lg X.K ι H ds vs:=by
 cases r with
 |tup e r=>simp[MW.Aw] at h;subst h;exact⟨_,_,rfl,.inr e,r⟩
 |vl e n r =>
  obtain⟨p,vs,h1,h2,h3⟩:=qx S (.vl e n r) (show MW.fu M _=_ from h);exact⟨p,vs,h1,.inl h2,h3⟩
 |ref e =>
  obtain⟨p,vs,h1,h2,h3⟩:=qx S (.ref e) (show MW.fu M _=_ from h);exact⟨p,vs,h1,.inl h2,h3⟩
 |_=>simp[MW.Aw,MW.fu] at h
def abi{X:Cx}(S:m5 nm X.K ι H M)(hp:H p=none)(r:lg X.K ι H ds vs):m5 nm X.K ι (upd H p (.lst vs)) M/\Le ι H ι (upd H p (.lst vs))/\Rep X.K ι (upd H p (.lst vs)) (.vl ds) (.ref p):=by obtain⟨S1,le⟩:=S.laid hp (.lst vs);exact⟨S1,le,.vl wj (S.fresh hp) (r.mono le)⟩
def J2{X:Cx}(S:m5 nm X.K ι H M)(hp:H p=none)(r:lg X.K ι H ds vs):m5 nm X.K ι (upd H p (.tup vs)) M/\Le ι H ι (upd H p (.tup vs))/\Rep X.K ι (upd H p (.tup vs)) (.tup ds) (.ref p):=by obtain⟨S1,le⟩:=S.laid hp (.tup vs);exact⟨S1,le,.tup wj (r.mono le)⟩
def Vv{X:Cx}(S:m5 nm X.K ι H M)(hp:H p=none)(r:lg X.K ι H ds vs):m5 nm X.K (ι.add p) (upd H p (.lst vs)) (M++[.lst ds])/\Le ι H (ι.add p) (upd H p (.lst vs))/\Rep X.K (ι.add p) (upd H p (.lst vs)) (.ref M.length) (.ref p):=by
 obtain⟨S1,le⟩:=S.new (H':=upd H p (.lst vs)) (o:=.lst ds) hp (λa u e=>by rw[j8 (kh e hp)];exact e) λle=>⟨vs,wj,r.mono le⟩
 exact⟨S1,le,.ref (by show(ι.l++[p])[M.length]?=some p;rw[<- S.len];simp)⟩
def Sd:(100000:Nat)<=sizeLine:=by decide
set_option tactic.hygienic true in
def aul(h:MW.Cm .add x y M=.ok d M'):(∃i j,x=.int i/\y=.int j/\d=.int (i+j)/\M'=M) \/
 (∃xs ys,x=.tup xs/\y=.tup ys/\xs.length+ys.length<=100000/\d=.tup (xs++ys)/\M'=M) \/
 ∃xs ys,MW.fu M x=some xs/\MW.fu M y=some ys/\xs.length+ys.length<=100000/\d=.vl (xs++ys)/\M'=M:=by
 have h:MW.ack x y M=.ok d M':=h;unfold MW.ack at h;split at h<;>try cases h
 . exact .inl ⟨_,_,rfl,rfl,rfl,rfl⟩
 . split at h<;>cases h
   rename_i hc;exact .inr (.inl ⟨_,_,rfl,rfl,hc,rfl,rfl⟩)
 . split at h
   . split at h<;>cases h
     rename_i h1 h2 hl;exact .inr (.inr ⟨_,_,h1,h2,hl,rfl,rfl⟩)
   . cases h
set_option tactic.hygienic true in
def aum(h:MW.acn x y M=.ok d M'):(∃i j,x=.int i/\y=.int j/\atu i j/\d=.int (i*j)/\M'=M)\/∃z,∃k:Nat,x=.tup [z]/\y=.int k/\k<=100000/\d=.tup (List.replicate k z)/\M'=M:=by
 unfold MW.acn at h;split at h
 . split at h
   . rename_i n
     split at h
     . rename_i hn
       cases h;exact .inr ⟨_,n.toNat,rfl,by rw[Int.toNat_of_nonneg hn.1],by omega,rfl,rfl⟩
     . cases h
   . cases h
 . obtain⟨i,j,rfl,rfl,h2⟩:=MW.aam h (by intro z;cases z)
   split at h2
   . rename_i hc
     cases h2;exact .inl ⟨i,j,rfl,rfl,hc,rfl,rfl⟩
   . cases h2
theorem ad0(r:Rep K ι H d v):∀k:Nat,lg K ι H (List.replicate k d) (List.replicate k v)
 |0=>.nil|k+1=>.cons r (ad0 r k)
def a74:Cz X (binaryOp .Mult) (rOp nm X.K (MW.Cm .mul)) :=
 Cz.of (az1.or auj) λv u H Q ι M x y d M' S rv ru e q=>by
  rcases aum e with⟨i,j,rfl,rfl,hc,rfl,rfl⟩|⟨z,k,rfl,rfl,hk,rfl,rfl⟩
  . cases rv;cases ru
    exact .inl ⟨_,_,rfl,rfl,hc,q ι H _ (Le.refl _ _) S (.int _)⟩
  . cases ru
    cases rv with
    |tup e1 r1 =>
     cases r1 with
     |cons r1 r2 =>
      cases r2;refine .inr ⟨_,_,k,rfl,rfl,Dw.of e1,hk,λh1=>?_,λp hp=>?_⟩
      . subst h1
        exact q ι H _ (Le.refl _ _) S (.tup e1 (.cons r1 .nil))
      . obtain⟨a,b,c⟩:=J2 S hp (ad0 r1 k)
        exact q ι _ _ b a c
def a75:Cz X (binaryOp .Add) (rOp nm X.K (MW.Cm .add)) :=
 Cz.of (azz.or (aov.or auc)) λv u H Q ι M x y d M' S rv ru e q=>by
  have lists:∀xs ys,MW.fu M x=some xs->MW.fu M y=some ys->xs.length+ys.length<=100000->d=.vl (xs++ys)->M'=M->a7n v u H Q:=λxs ys h1 h2 hl hd hm=>by
   subst hd hm;obtain⟨p,vs,rfl,e1,r1⟩:=qx S rv h1;obtain⟨p2,vs2,rfl,e2,r2⟩:=qx S ru h2;refine⟨p,p2,vs,vs2,rfl,rfl,e1,e2,?_,λp3 h3=>?_⟩
   . rw[<- r1.length,<- r2.length];exact gn hl Sd
   . obtain⟨a,b,c⟩:=abi S h3 (r1.append r2)
     exact q ι _ _ b a c
  rcases aul e with⟨i,j,rfl,rfl,rfl,rfl⟩|⟨xs,ys,rfl,rfl,hl,rfl,rfl⟩|⟨xs,ys,h1,h2,hl,h3,h4⟩
  . cases rv;cases ru
    exact .inl ⟨_,_,rfl,rfl,q ι H _ (Le.refl _ _) S (.int _)⟩
  . cases rv with
    |tup e1 r1 =>
     cases ru with
     |tup e2 r2 =>
      refine .inr (.inr ⟨_,_,_,_,rfl,rfl,Dw.of e1,Dw.of e2,?_,λhn=>?_,λhn=>?_,λp hp=>?_⟩)
      . rw[<- r1.length,<- r2.length];exact gn hl Sd
      . have:=r1.length
        rw[hn] at this;rw[uq.mp this,xx] at q;exact q ι H _ (Le.refl _ _) S (.tup e2 r2)
      . have:=r2.length
        rw[hn] at this;rw[uq.mp this,zr] at q;exact q ι H _ (Le.refl _ _) S (.tup e1 r1)
      . obtain⟨a,b,c⟩:=J2 S hp (r1.append r2)
        exact q ι _ _ b a c
  . exact .inr (.inl (lists _ _ h1 h2 hl h3 h4))
def aun{t:TE}(h:PT X a (fun σ H Q=>t σ H λx H1=>∃c,x=.bl c/\Q c H1))(w:∀σ H Q,tE nm W X.K a' σ H Q->t σ H Q):PT X a (tQ nm W X.K a') :=
 PT.of h fun σ H Q ι ρ M b M' S R e q=>w σ H _ ⟨ι,ρ,M,_,M',S,R,e,fun ι' H' v le S' r=>by cases r;exact⟨b,rfl,q ι' H' le S'⟩⟩
def a76(h:PE X a (tE nm W X.K a'))(he:∀whole,isTrue a X.env whole=(do let v <- whole;standAt a.pos;holding [v] (truthy v))):PT X a (tQ nm W X.K a') :=
 aun (azi h he) λ_ _ _ q=>q
def W4(nm:Nm)(K:Fg)(op:Cp):R2:=λv u H Q=>∃ι M x y b,m5 nm K ι H M/\Rep K ι H x v/\Rep K ι H y u/\MW.Gw op x y M=some b/\Q (.bl b) H
def ad1{X:Cx}:∀σ H Q,tE nm W X.K (.cmp op' a' b') σ H Q->tOp (W4 nm X.K op') (tE nm W X.K a') (tE nm W X.K b') σ H Q:=fun σ H Q hh=>by obtain⟨ι,ρ,M,d,M',S,R,e,q⟩:=hh;rw[MW.asm] at e;obtain⟨x,M1,e1,e⟩:=fc e;obtain⟨y,M2,e2,e⟩:=fc e;obtain⟨e,rfl⟩:=yo e;obtain⟨b,e3,rfl⟩:=cu.mp e;exact two S R e1 e2 fun ι2 H2 v u le S2 _ rv ru=>⟨ι2,M',x,y,b,S2,rv,ru,e3,q ι2 H2 _ le S2 (.bl b)⟩
def a77(ho:Cz X (compareOp op) (W4 nm X.K op'))(ha:PE X a (tE nm W X.K a'))(hb:PE X b (tE nm W X.K b'))(hm:behindInMarks op b=false):PE X (.Compare a [op] [b] pos) (tE nm W X.K (.cmp op' a' b')) :=
 PE.weak (atw ho ha hb hm) ad1
def a78(ho:Cz X (compareOp op) (W4 nm X.K op'))(ha:PE X a (tE nm W X.K a'))(hb:PE X b (tE nm W X.K b'))(hm:behindInMarks op b=false):PT X (.Compare a [op] [b] pos) (tQ nm W X.K (.cmp op' a' b')) :=
 aun (t:=tOp (W4 nm X.K op') (tE nm W X.K a') (tE nm W X.K b')) (atx ho ha hb hm) ad1
def W5{X:Cx}:∀σ H Q,tE nm W X.K (.chain op1 op2 a' b' c') σ H Q->aa8 (W4 nm X.K op1) (W4 nm X.K op2) (tE nm W X.K a') (tE nm W X.K b') (tE nm W X.K c') σ H Q:=fun σ H Q hh=>by
 obtain⟨ι,ρ,M,d,M',S,R,e,q⟩:=hh;rw[MW.aju] at e;obtain⟨x,M1,e1,e⟩:=fc e;obtain⟨y,M2,e2,e⟩:=fc e;obtain⟨k,M2',e3,e⟩:=fc e;obtain⟨e3,rfl⟩:=yo e3;refine two S R e1 e2 fun ι2 H2 v u le S2 R2 rv ru=>⟨ι2,M2',x,y,k,S2,rv,ru,e3,k,rfl,?_⟩
 cases k with
 |false =>
  have e:Res.ok (MW.D.bl false) M2'=.ok d M':=e;cases e;exact q ι2 H2 _ le S2 (.bl false)
 |true =>
  have e:((c'.den W ρ M2').bind λz M3=>Res.u9 ((MW.Gw op2 y z M3).map MW.D.bl) M3)=.ok d M':=e;obtain⟨z,M3,e4,e⟩:=fc e;obtain⟨e,rfl⟩:=yo e;obtain⟨b,e5,rfl⟩:=cu.mp e;show tE nm W X.K c' σ H2 _;exact one S2 R2 e4 fun ι3 H3 w Zu S3 _ rw=>⟨ι3,M',y,z,b,S3,ru.mono Zu,rw,e5,q ι3 H3 _ (le.trans Zu) S3 (.bl b)⟩
def auo(h1:Cz X (compareOp o1) (W4 nm X.K op1))(h2:Cz X (compareOp o2) (W4 nm X.K op2))(ha:PE X a (tE nm W X.K a'))(hb:PE X b (tE nm W X.K b'))(hc:PE X c (tE nm W X.K c'))(hm:lastMarks [o1,o2] [b,c]=false) :
 PE X (.Compare a [o1,o2] [b,c] pos) (tE nm W X.K (.chain op1 op2 a' b' c')):=PE.weak (aob h1 h2 ha hb hc hm) W5
def aup(h1:Cz X (compareOp o1) (W4 nm X.K op1))(h2:Cz X (compareOp o2) (W4 nm X.K op2))(ha:PE X a (tE nm W X.K a'))(hb:PE X b (tE nm W X.K b'))(hc:PE X c (tE nm W X.K c'))(hm:lastMarks [o1,o2] [b,c]=false) :
 PT X (.Compare a [o1,o2] [b,c] pos) (tQ nm W X.K (.chain op1 op2 a' b' c')):=aun (t:=aa8 (W4 nm X.K op1) (W4 nm X.K op2) (tE nm W X.K a') (tE nm W X.K b') (tE nm W X.K c')) (aoc h1 h2 ha hb hc hm) W5
def abj(h:Cz X (compareOp op) (rI0 λi j=>.bl (f i j)))(e:∀x y M,MW.Gw op' x y M=MW.aco f x y):Cz X (compareOp op) (W4 nm X.K op') :=
 Cz.weak h λv u H Q hh=>by obtain⟨ι,M,x,y,b,S,rv,ru,e',q⟩:=hh;rw[e] at e';obtain⟨i,j,rfl,rfl,e2⟩:=MW.aam e' (by intro z;cases z);cases rv;cases ru;cases e2;exact⟨_,_,rfl,rfl,q⟩
def bef:Cz X (compareOp .Lt) (W4 nm X.K .lt):=abj a6v λ_ _ _=>rfl
def beh:Cz X (compareOp .LtE) (W4 nm X.K .le):=abj a6w λ_ _ _=>rfl
def bei:Cz X (compareOp .Gt) (W4 nm X.K .gt):=abj a6x λ_ _ _=>rfl
def bej:Cz X (compareOp .GtE) (W4 nm X.K .ge):=abj a6y λ_ _ _=>rfl
set_option tactic.hygienic true in
def axg{rest:Ya}(ha:PE X a (tE nm W X.K a'))(hb:PE X (.BoolOp .And (b::rest) pos) (tE nm W X.K b')):PE X (.BoolOp .And (a::b::rest) pos) (tE nm W X.K (.and a' b')) :=
 PE.of (azm ha hb) fun σ H Q ι ρ M d M' S R e q=>by
  rw[MW.ahj] at e;obtain⟨x,M1,e1,e⟩:=fc e;refine one S R e1 fun ι1 H1 v le S1 R1 r=>?_
  cases r<;>try cases e
  rename_i k;refine⟨k,rfl,?_⟩;cases k with
  |false=>cases e;exact q ι1 H1 _ le S1 (.bl false)|true=>exact one S1 R1 e fun ι2 H2 w zy S2 _ r2=>q ι2 H2 w (le.trans zy) S2 r2
set_option tactic.hygienic true in
def a79{rest:Ya}(ha:PE X a (tE nm W X.K a'))(hb:PE X (.BoolOp .Or (b::rest) pos) (tE nm W X.K b')):PE X (.BoolOp .Or (a::b::rest) pos) (tE nm W X.K (.or a' b')) :=
 PE.of (a6f ha hb) fun σ H Q ι ρ M d M' S R e q=>by
  rw[MW.aml] at e;obtain⟨x,M1,e1,e⟩:=fc e;refine one S R e1 fun ι1 H1 v le S1 R1 r=>?_
  cases r<;>try cases e
  rename_i k;refine⟨k,rfl,?_⟩;cases k with
  |true=>cases e;exact q ι1 H1 _ le S1 (.bl true)|false=>exact one S1 R1 e fun ι2 H2 w zy S2 _ r2=>q ι2 H2 w (le.trans zy) S2 r2
def a8a(ha:PE X a (tE nm W X.K a')):PE X (.UnaryOp .Not a pos) (tE nm W X.K (.not a')) :=
 PE.of (azn ha) fun σ H Q ι ρ M d M' S R e q=>by
  rw[MW.ahk] at e;obtain⟨x,M1,e1,e⟩:=fc e;refine one S R e1 fun ι1 H1 v le S1 R1 r=>?_
  cases r<;>try cases e
  exact⟨_,rfl,q ι1 H1 _ le S1 (.bl _)⟩
def Ys{X:Cx}{M1:cj}(S:m5 nm X.K ι H M)(R:uv X.K ι H ρ σ)(ha:a'.den W ρ M=.ok (.bl k) M1)(h:∀ι1 H1,Le ι H ι1 H1->m5 nm X.K ι1 H1 M1->uv X.K ι1 H1 ρ σ->G k H1):tQ nm W X.K a' σ H G :=
 ⟨ι,ρ,M,k,M1,S,R,ha,fun ι' H' le S'=>h ι' H' le S' (R.mono le)⟩
set_option tactic.hygienic true in
def axh{rest:Ya}(ha:PT X a (tQ nm W X.K a'))(hb:PW X (.BoolOp .And (b::rest) pos) (tQ nm W X.K b')):PW X (.BoolOp .And (a::b::rest) pos) (tQ nm W X.K (.and a' b')) :=
 λwhole pins s σ H Q I ⟨ι,ρ,M,d,M',S,R,e,q⟩=>azk ha hb whole pins s σ H Q I (by
  rw[MW.ahj] at e;obtain⟨x,M1,e1,e⟩:=fc e;cases x<;>try cases e
  rename_i k;refine Ys S R e1 fun ι1 H1 le S1 R1=>?_
  cases k with
  | false=>cases e;exact q ι1 H1 le S1|true=>exact Ys S1 R1 e fun ι2 H2 zy S2 _=>q ι2 H2 (le.trans zy) S2)
set_option tactic.hygienic true in
def a8b{rest:Ya}(ha:PT X a (tQ nm W X.K a'))(hb:PW X (.BoolOp .Or (b::rest) pos) (tQ nm W X.K b')):PW X (.BoolOp .Or (a::b::rest) pos) (tQ nm W X.K (.or a' b')) :=
 λwhole pins s σ H Q I ⟨ι,ρ,M,d,M',S,R,e,q⟩=>a6c ha hb whole pins s σ H Q I (by
  rw[MW.aml] at e;obtain⟨x,M1,e1,e⟩:=fc e;cases x<;>try cases e
  rename_i k;refine Ys S R e1 fun ι1 H1 le S1 R1=>?_
  cases k with
  | true=>cases e;exact q ι1 H1 le S1|false=>exact Ys S1 R1 e fun ι2 H2 zy S2 _=>q ι2 H2 (le.trans zy) S2)
def a8c(ha:PT X a (tQ nm W X.K a')):PT X (.UnaryOp .Not a pos) (tQ nm W X.K (.not a')) :=
 PT.of (azl ha) fun σ H Q ι ρ M d M' S R e q=>by
  rw[MW.ahk] at e;obtain⟨x,M1,e1,e⟩:=fc e;cases x<;>try cases e
  exact Ys S R e1 fun ι1 H1 le S1 R1=>q ι1 H1 le S1
set_option tactic.hygienic true in
def a8d(hc:PT X c (tQ nm W X.K c'))(ha:PE X a (tE nm W X.K a'))(hb:PE X b (tE nm W X.K b')):PE X (.IfExp c a b pos) (tE nm W X.K (.ite c' a' b')) :=
 PE.of (anp hc ha hb) fun σ H Q ι ρ M d M' S R e q=>by
  rw[MW.asn] at e;obtain⟨x,M1,e1,e⟩:=fc e;cases x<;>try cases e
  rename_i k;refine Ys S R e1 fun ι1 H1 le S1 R1=>?_
  cases k with
  |true=>exact one S1 R1 e fun ι2 H2 w zy S2 _ r2=>q ι2 H2 w (le.trans zy) S2 r2
  |false=>exact one S1 R1 e fun ι2 H2 w zy S2 _ r2=>q ι2 H2 w (le.trans zy) S2 r2
def Sg:PA X [] (Yc nm W X.K .nil):=PA.of az8 fun σ H Q ι ρ M ds M' S R e q=>by rw[MW.Rj] at e;cases e;exact q ι H _ (Le.refl _ _) S .nil
def W6{X:Cx}{M1:cj}(S:m5 nm X.K ι H M)(R:uv X.K ι H ρ σ)(ha:es'.den W ρ M=.ok ds M1)(h:∀ι1 H1 vs,Le ι H ι1 H1->m5 nm X.K ι1 H1 M1->uv X.K ι1 H1 ρ σ->lg X.K ι1 H1 ds vs->G vs H1):Yc nm W X.K es' σ H G :=
 ⟨ι,ρ,M,ds,M1,S,R,ha,fun ι' H' v le S' r=>h ι' H' v le S' (R.mono le) r⟩
def Jb(ha:PE X a (tE nm W X.K a'))(hr:PA X es (Yc nm W X.K es'))(hs:starEach (a::es) X.env=(false,eval a X.env)::starEach es X.env):PA X (a::es) (Yc nm W X.K (.cons a' es')) :=
 PA.of (at3 ha hr hs) fun σ H Q ι ρ M ds M' S R e q=>by rw[MW.Hq] at e;obtain⟨x,M1,e1,e⟩:=fc e;obtain⟨xs,M2,e2,e⟩:=fc e;cases e;exact one S R e1 fun ι1 H1 v le S1 R1 r1=>W6 S1 R1 e2 fun ι2 H2 vs zy S2 R2 r2=>q ι2 H2 _ (le.trans zy) S2 (.cons (r1.mono zy) r2)
noncomputable def Dl.len:Dl->Nat
 |.nil=>0|.cons _ r=>Dl.len r+1
theorem Jc{W:Jl}:∀{es':Dl}{ρ:En}{M M1:cj}{ds:List Dv},es'.den W ρ M=.ok ds M1->ds.length=Dl.len es'
 |.nil,_,_,_,_,e=>by rw[MW.Rj] at e;cases e;rfl
 |.cons _ r,_,_,_,_,e=>by
  rw[MW.Hq] at e;obtain⟨x,M1,e1,e⟩:=fc e;obtain⟨xs,M2,e2,e⟩:=fc e;cases e;rw[gr,Jc e2];rfl
def a8e(h:PA X es (Yc nm W X.K es'))(hl:Dl.len es'<=1000):PE X (.Tuple es k pos) (tE nm W X.K (.tup es')) :=
 PE.of (az9 h) fun σ H Q ι ρ M d M' S R e q=>by
  rw[MW.aso] at e;obtain⟨ds,M1,e1,e⟩:=fc e;cases e;refine W6 S R e1 fun ι1 H1 vs le S1 R1 r=>⟨?_,λp hp=>?_⟩
  . rw[<- r.length,Jc e1];exact gn hl (by decide)
  . obtain⟨S2,zy,r2⟩:=J2 S1 hp r
    exact q ι1 _ _ (le.trans zy) S2 r2
def a0s(h:PA X es (Yc nm W X.K es'))(hl:Dl.len es'<=1000):PE X (.List es pos) (tE nm W X.K (.Hu es')) :=
 PE.of (aof h) fun σ H Q ι ρ M d M' S R e q=>by
  rw[MW.amm] at e;obtain⟨ds,M1,e1,e⟩:=fc e;cases e;refine W6 S R e1 fun ι1 H1 vs le S1 R1 r=>⟨?_,λp hp=>?_⟩
  . rw[<- r.length,Jc e1];exact gn hl (by decide)
  . obtain⟨S2,zy,r2⟩:=abi S1 hp r
    exact q ι1 _ _ (le.trans zy) S2 r2
def a8f(h:PA X es (Yc nm W X.K es'))(hl:Dl.len es'<=1000):PE X (.List es pos) (tE nm W X.K (.lst es')) :=
 PE.of (aof h) fun σ H Q ι ρ M d M' S R e q=>by
  rw[MW.asp] at e;obtain⟨ds,M1,e1,e⟩:=fc e;cases e;refine W6 S R e1 fun ι1 H1 vs le S1 R1 r=>⟨?_,λp hp=>?_⟩
  . rw[<- r.length,Jc e1];exact gn hl (by decide)
  . obtain⟨S2,zy,r2⟩:=Vv S1 hp r
    exact q _ _ _ (le.trans zy) S2 r2
def a8g(ha:PE X a (tE nm W X.K a')):PE X (.UnaryOp .USub a pos) (tE nm W X.K (.neg a')) :=
 PE.of (a6r az4 ha) fun σ H Q ι ρ M d M' S R e q=>by
  rw[MW.asl] at e;obtain⟨x,M1,e1,e⟩:=fc e;refine one S R e1 fun ι1 H1 v le S1 R1 r=>?_
  cases r<;>try cases e
  exact⟨_,rfl,q ι1 H1 _ le S1 (.int _)⟩
open PyProof.Rows (subscriptTail)
section
variable{κ:Type}[DecidableEq κ]{K:Fg}{ι:Io}{H:Hp}
theorem qy.length{κ κ':Type}{f:κ->κ'->Prop}:∀{l:List (κ×Dv)}{l':List (κ'×V)},qy K ι H f l l'->l.length=l'.length
 |_,_,.nil=>rfl|_,_,.cons _ _ t=>by rw[gr,gr,qy.length t]
theorem qy.look{k:κ}:∀{iw:List (κ×Dv)}{l:List (κ×V)},qy K ι H (λk k'=>k=k') iw l->(∀d,MW.vz iw k=some d->∃v,Ry l k=some v/\Rep K ι H d v)/\(MW.vz iw k=none->Ry l k=none)
 |_,_,.nil=>⟨λd h=>by simp[MW.vz] at h,λ_=>rfl⟩
 |_,_,.cons (k:=q) (k':=q') hk h t=>by
  subst hk;obtain⟨a,b⟩:=qy.look (k:=k) t
  by_cases e:q=k
  . refine⟨λd hd=>?_,λhd=>?_⟩
    . simp[MW.vz,qt,e] at hd
      subst hd;exact⟨_,Rz e,h⟩
    . simp[MW.vz,qt,e] at hd
  . have z:∀(d:Dv) r,MW.vz ((q,d)::r) k=MW.vz r k:=λd r=>by simp[MW.vz,qt,e]
    rw[z,R8 (by exact e)];exact⟨a,b⟩
theorem qy.any{k:κ}:∀{iw:List (κ×Dv)}{l:List (κ×V)},qy K ι H (λk k'=>k=k') iw l->(iw.any λkv=>decide (kv.1=k))=(l.any λkv=>decide (kv.1=k))
 |_,_,.nil=>rfl|_,_,.cons hk h t=>by subst hk;simp only[List.any_cons,qy.any t]
theorem qy.Ja{k:κ}{d:Dv}{v:V}(r:Rep K ι H d v):∀{iw:List (κ×Dv)}{l:List (κ×V)},qy K ι H (λk k'=>k=k') iw l ->
 qy K ι H (λk k'=>k=k') (iw.map λkv=>if kv.1=k then(kv.1,d) else kv) (l.map λkv=>if kv.1=k then(kv.1,v) else kv)
 |_,_,.nil=>.nil
 |_,_,.cons (k:=q) hk h t=>by
  subst hk;simp only[ig]
  by_cases e:q=k
  . simp only[e,ju];exact .cons rfl r (qy.Ja r t)
  . simp only[e,jh];exact .cons rfl h (qy.Ja r t)
theorem qy.snoc{κ κ':Type}{f:κ->κ'->Prop}{k:κ}{k':κ'}{d:Dv}{v:V}(hk:f k k')(r:Rep K ι H d v):∀{l:List (κ×Dv)}{l':List (κ'×V)},qy K ι H f l l'->qy K ι H f (l++[(k,d)]) (l'++[(k',v)])
 |_,_,.nil=>.cons hk r .nil|_,_,.cons q h t=>.cons q h (qy.snoc hk r t)
def qy.put{k:κ}(r:Rep K ι H d v)(t:qy K ι H (λk k'=>k=k') iw l):qy K ι H (λk k'=>k=k') (MW.Cq iw k d) (putK l k v):=by
 unfold MW.Cq putK;rw[t.any (k:=k)]
 by_cases e:(l.any λkv=>decide (kv.1=k))=true
 . rw[cg e,cg e];exact t.Ja r
 . rw[bx e,bx e];exact t.snoc rfl r
theorem qy.fld{nm:Nm}{f:Nat}:∀{fs:List (Nat×Dv)}{l:List (Str×V)},qy K ι H (λk k'=>k'=nm.fld k) fs l->(∀d,fs.lookup f=some d->∃v,l.lookup (nm.fld f)=some v/\Rep K ι H d v)/\(fs.lookup f=none->l.lookup (nm.fld f)=none)
 |_,_,.nil=>⟨λd h=>by simp at h,λ_=>rfl⟩
 |_,_,.cons (k:=q) (k':=q') hk h t=>by
  subst hk;obtain⟨a,b⟩:=qy.fld (nm:=nm) (f:=f) t;rw[ou,ou]
  by_cases e:f=q
  . subst e
    simp only[zb];exact⟨λd hd=>by cases hd;exact⟨_,rfl,h⟩,λhd=>by cases hd⟩
  . have e1:(f==q)=false:=by simpa using e
    have e2:(nm.fld f==nm.fld q)=false:=by
     cases z:nm.fld f==nm.fld q with
     |false=>rfl|true=>exact absurd (nm.inj _ _ (eq_of_beq z)) e
    rw[e1,e2];exact⟨a,b⟩
theorem qy.Jj{nm:Nm}{f:Nat}{d:Dv}{v:V}(r:Rep K ι H d v):∀{fs:List (Nat×Dv)}{l:List (Str×V)},qy K ι H (λk k'=>k'=nm.fld k) fs l->qy K ι H (λk k'=>k'=nm.fld k) (MW.Uk f d fs) (L2.Jj (nm.fld f) v l)
 |_,_,.nil=>.cons rfl r .nil
 |_,_,.cons (k:=q) (k':=q') hk h t=>by
  subst hk;unfold MW.Uk L2.Jj
  by_cases e:q=f
  . subst e
    simp only[ju];exact .cons rfl r t
  . have e2:¬nm.fld q=nm.fld f:=λz=>e (nm.inj _ _ z)
    rw[bx e,bx e2];exact .cons rfl h (qy.Jj r t)
def T9(r:Rep K ι H d v)(h:MW.Tp d=some k):v=kV k:=by cases r<;>simp[MW.Tp] at h<;>subst h<;>rfl
set_option tactic.hygienic true in
theorem ao4:∀{ds:List Dv}{vs:List V}{ks:List Kx},lg K ι H ds vs->MW.aal ds=some ks->vs=ks.map kV
 |_,_,_,.nil,h=>by simp[MW.aal] at h;subst h;rfl
 |_,_,_,.cons r t,h=>by
  simp only[MW.aal] at h;split at h
  . rename_i k ks' h1 h2
    cases h;rw[T9 r h1,ao4 t h2];rfl
  . cases h
def W7(r:Rep K ι H d v)(h:MW.Vd d=some ks):∃b,v=.ref b/\H b=some (.tup (ks.map kV)):=by
 cases r with
 |tup e r=>exact⟨_,rfl,by rw[<- ao4 r h];exact e⟩|_=>simp[MW.Vd] at h
end
def bek(nm:Nm)(K:Fg):R2:=λv u H Q=>∃ι M x y d,m5 nm K ι H M/\Rep K ι H x v/\Rep K ι H y u/\MW.Am x y M=some d/\∀w,Rep K ι H d w->Q w H
def ao5(hu:X.A.units+1<cLine):IxR X (λx y H Q=>∃a v,x=.ref a/\O1 H a y (some v)/\Q v H):=by intro value slice pins s σ H x y v u Q I rx ry h hs;obtain⟨p,z,rfl,g,q⟩:=h;cases rx;exact PyProof.Rows.tail_any (adp I g) PySem.F.slot_dict_getitem.lookup (akl hu I g ry λw' s' I' r=>⟨z,H,I',r,q⟩) hs
set_option tactic.hygienic true in
def a0t(hu:X.A.units+1<cLine):IxR X (bek nm X.K):=by
 intro value slice pins s σ H v u v' u' Q I rv ru ⟨ι,M,x,y,d,S,rx,ry,e,q⟩ hs;have seq:∀(p:Addr)(vs:List V)(ds:List Dv),v=.ref p->(Hm X.K H p vs\/Dw X.K H p vs)->lg X.K ι H ds vs->(match y with|.int i=>(MW.Yj ds.length i).bind λj=>ds[j]?|_=>none)=some d ->
  wpAny (model X.prog X.w) X.A (subscriptTail value slice v' u') (EP X pins σ Q) X.xe s:=λp vs ds hv hq r e=>by
  subst hv;obtain⟨i,hyi⟩:∃i,y=.int i:=by cases y<;>first|exact⟨_,rfl⟩|cases e
  subst hyi;cases ry;obtain⟨j,e1,e2⟩:=dm.mp e;obtain⟨z,h1,h2⟩:=r.get e2;have hat:atI vs i=some z:=by unfold atI;rw[show ixN vs.length i=some j from by rw[<- r.length];exact e1];exact h1
  rcases hq with hq|hq
  . exact L2.Ce value slice pins s σ H _ _ v' u' Q I rv ru ⟨p,vs,i,z,rfl,rfl,hq,hat,q z h2⟩ hs
  . exact L2.Hv value slice pins s σ H _ _ v' u' Q I rv ru ⟨p,vs,i,z,rfl,rfl,hq,hat,q z h2⟩ hs
 cases rx with
 |tup e1 r1=>exact seq _ _ _ rfl (.inr (Dw.of e1)) r1 (by cases ry<;>first|exact e|(simp[MW.Am,MW.Aw] at e))
 |vl e1 n1 r1=>exact seq _ _ _ rfl (.inl (Hm.of e1)) r1 (by cases ry<;>first|exact e|(simp[MW.Am,MW.Aw,MW.fu] at e))
 |fz e1 r1=>exact seq _ _ _ rfl (.inl e1.sq) r1 (by cases ry<;>first|exact e|(simp[MW.Am] at e))
 |ref e1 =>
  rename_i n p;simp only[MW.Am] at e;split at e
  . rename_i iw hn
    obtain⟨l,h1,h2⟩:=S.obj n _ p hn e1;obtain⟨k,e2,e3⟩:=dm.mp e;obtain⟨z,h3,h4⟩:=(h2.look (k:=k)).1 d e3;obtain⟨b,rfl,hb⟩:=W7 ry e2;exact ao5 hu value slice pins s σ H _ _ v' u' Q I rv ru ⟨p,z,rfl,by rw[<- h3];exact O1.t h1 hb,q z h4⟩ hs
  . rename_i iw hn
    obtain⟨l,h1,h2⟩:=S.obj n _ p hn e1;obtain⟨k,e2,e3⟩:=dm.mp e;obtain⟨z,h3,h4⟩:=(h2.look (k:=k)).1 d e3;have hy:=T9 ry e2;subst hy;exact ao5 hu value slice pins s σ H _ _ v' u' Q I rv ru ⟨p,z,rfl,by rw[<- h3];exact O1.k h1,q z h4⟩ hs
  . cases hl:MW.fu M (.ref n) with
    |none=>rw[hl] at e;cases e
    |some ds =>
     obtain⟨p',vs,hp,h1,h2⟩:=qx S (.ref e1) hl;cases hp;rw[hl] at e;exact seq _ _ _ rfl (.inl (Hm.of h1)) h2 (by cases ry<;>first|exact e|cases e)
 |_=>simp[MW.Am,MW.Aw,MW.fu] at e
def bel(hu:X.A.units+1<cLine)(ha:PE X a (tE nm W X.K a'))(hb:PE X b (tE nm W X.K b'))(hs:aba b):PE X (.Subscript a b pos) (tE nm W X.K (.ix a' b')) :=
 PE.of (a7j (a0t (nm:=nm) hu) ha hb hs) fun σ H Q ι ρ M d M' S R e q=>by rw[MW.ayi] at e;obtain⟨x,M1,e1,e⟩:=fc e;obtain⟨y,M2,e2,e⟩:=fc e;obtain⟨e,rfl⟩:=yo e;exact two S R e1 e2 fun ι2 H2 v u le S2 _ rv ru=>⟨ι2,M',x,y,d,S2,rv,ru,e,λw r=>q ι2 H2 w le S2 r⟩
set_option tactic.hygienic true in
def a8h(hn:n=nm.fld f)(hcl:∀c C,nm.cls c=some C->Cls X.K C/\Hc X.K C n)(ha:PE X a (tE nm W X.K a'))(hb:attributeBase a n X.env (eval a X.env)=eval a X.env):PE X (.Attribute a n pos) (tE nm W X.K (.fld a' f)) :=
 PE.of (az6 ha hb) fun σ H Q ι ρ M d M' S R e q=>by
  rw[MW.asr] at e;obtain⟨x,M1,e1,e⟩:=fc e;obtain⟨e,rfl⟩:=yo e;refine one S R e1 fun ι1 H1 v le S1 R1 r=>?_
  obtain⟨m,hxm⟩:∃m,x=.ref m:=by cases x<;>first|exact⟨_,rfl⟩|cases e
  subst hxm;obtain⟨p,rfl,hp⟩:∃p,v=.ref p/\ι1.l[m]?=some p:=by cases r with|ref z=>exact⟨_,rfl,z⟩
  simp only[MW.Rb] at e;split at e
  . rename_i c fs hm
    obtain⟨C,dx,l,h1,h2,h3⟩:=S1.obj m _ p hm hp;obtain⟨z,h4,h5⟩:=(h3.fld (nm:=nm) (f:=f)).1 d e;subst hn;obtain⟨g1,g2⟩:=hcl c C h1;exact⟨p,C,dx,l,z,rfl,h2,g1,g2,h4,q ι1 H1 z le S1 h5⟩
  . cases e
open MW (Ex Dl OEx P0 Br m8 Lv Tg Res cj MO Jl Cp Op2 Blt Bm Kx Src)
noncomputable def Ua:Expr->Bool
 |.ListComp ..=>false|.SetComp ..=>false|.DictComp ..=>false|_=>true
def O4(h:Ua e=true)(t:Option Expr)(l:Nat)(env:Env):swapsWith e t l env=pure false:=by cases e<;>first|rfl|(cases h)
noncomputable def Hg:Expr->Bool
 |.Set ..=>false|_=>true
def Es(h:Hg e=true)(env:Env)(x:Value):foldedSetIterable e env x=pure x:=by cases e<;>first|rfl|(cases h)
def U4(h:Hg e=true)(op:CmpOp):behindInMarks op e=false:=by cases e<;>first|rfl|(cases h)
noncomputable def axi:Expr->Bool
 |.Tuple ..=>false|_=>true
noncomputable def noStar:Expr->Bool
 |.Starred ..=>false|_=>true
def kj(h:noStar e=true)(es:Ya)(env:Env):starEach (e::es) env=(false,eval e env)::starEach es env:=by cases e<;>first|rfl|(cases h)
noncomputable def abk:Expr->Bool
 |.Slice ..=>false|_=>true
def ao6(h:abk e=true):aba e:=by intro o i;cases e<;>first|rfl|(cases h)
noncomputable def Bt:Tg->List Nat
 |.name i=>[i]|.names is=>is
def tGt(nm:Nm)(K:Fg)(t:Tg):TG:=λv σ H Q=>∃ι ρ M d ρ',m5 nm K ι H M/\uv K ι H ρ σ/\Rep K ι H d v/\t.put d ρ=some ρ'/\∀σ',uv K ι H ρ' σ'->σ'.length=σ.length->(∀j,j∉Bt t->σ'[j]?=σ[j]?)->Q σ' H
def PG.weak(h:PG X tg t)(w:∀v σ H Q,t' v σ H Q->t v σ H Q):PG X tg t':=λpins s σ H v u Q I r q=>h pins s σ H v u Q I r (w v σ H Q q)
def PG.of(h:PG X tg t)(w:∀v σ H Q ι ρ M d ρ',m5 nm X.K ι H M->uv X.K ι H ρ σ->Rep X.K ι H d v->tt.put d ρ=some ρ'->(∀σ',uv X.K ι H ρ' σ'->σ'.length=σ.length->(∀j,j∉Bt tt->σ'[j]?=σ[j]?)->Q σ' H)->t v σ H Q):PG X tg (tGt nm X.K tt) :=
 PG.weak h λv σ H Q ⟨ι,ρ,M,d,ρ',S,R,r,e,q⟩=>w v σ H Q ι ρ M d ρ' S R r e q
def a0u(hN:X.N.Nodup)(hi:X.N[i]?=some n)(hx:Loc X.env.scope n)(hf:X.fn n=true\/X.env.scope.names.lookup n=some .local):PG X (.Name n pos) (tGt nm X.K (.name i)) :=
 PG.of (aa7 hN hi hx hf) λv σ H Q ι ρ M d ρ' S R r e q=>by cases e;exact q _ (R.set r i) (by simp) λj hj=>v5 (λz=>hj (by simp[Bt,z]))
noncomputable def Ml:List Nat->List V->St->St
 |i::is,v::vs,σ=>Ml is vs (σ.set i (some v))|_,_,σ=>σ
theorem W8{ι:Io}{H:Hp}{K:Fg}:∀{is:Y3}{ds:List Dv}{vs:List V}{ρ:En}{σ:St},uv K ι H ρ σ->lg K ι H ds vs->uv K ι H (MW.Qq is ds ρ) (Ml is vs σ)
 |[],_,_,_,_,R,r=>by cases r<;>exact R|_::_,_,_,_,_,R,.nil=>R|i::is,_,_,_,_,R,.cons h t=>W8 (is:=is) (R.set h i) t
theorem Sh:∀{is:Y3}{vs:List V}{σ:St}{j:Nat},j∉is->(Ml is vs σ)[j]?=σ[j]?
 |[],vs,σ,j,_=>by cases vs<;>rfl|i::is,[],σ,j,_=>rfl
 |i::is,v::vs,σ,j,h=>by
  show(Ml is vs (σ.set i (some v)))[j]?=_;rw[Sh (λz=>h (bh _ z)),v5 (λz=>h (by rw[z];exact dg))]
theorem U5:∀{is:Y3}{vs:List V}{σ:St},(Ml is vs σ).length=σ.length
 |[],vs,σ=>by cases vs<;>rfl|_::_,[],σ=>rfl|i::is,v::vs,σ=>by show(Ml is vs (σ.set i (some v))).length=_;rw[U5,List.length_set]
inductive Mm(X:Cx):List Expr->List Nat->Prop
 |nil:Mm X [] []
 |cons {n:Str} {p:Pos} {i:Nat} {ts:Ya} {is:Y3} (hi:X.N[i]?=some n) (hx:Loc X.env.scope n) (hf:X.fn n=true\/X.env.scope.names.lookup n=some .local) (t:Mm X ts is):Mm X (.Name n p::ts) (i::is)
theorem ad2{X:Cx}(hN:X.N.Nodup):∀{ts:Ya}{is:Y3},Mm X ts is->PGs X ts (λvs σ H Q=>vs.length=is.length/\Q (Ml is vs σ) H)
 |_,_,.nil=>λpins s σ H vs us Q I r q=>by
  obtain⟨h1,h2⟩:=q;have hv:vs=[]:=uq.mp h1;subst hv;exact atp pins s σ H [] us Q I r ⟨rfl,h2⟩
 |_,_,.cons hi hx hf t=>λpins s σ H vs us Q I r q=>by
  obtain⟨h1,h2⟩:=q;cases vs with
  |nil=>simp at h1|cons v vs=>exact ant (aa7 hN hi hx hf) (ad2 hN t) (by rfl) pins s σ H (v::vs) us Q I r ⟨v,vs,rfl,by simpa using h1,h2⟩
theorem Gg{X:Cx}{env:Env}:∀{ts:Ya}{is:Y3},Mm X ts is->(assignEach ts env).length=is.length/\(assignEach ts env).findIdx? (·.1)=none
 |_,_,.nil=>⟨rfl,rfl⟩
 |_,_,.cons hi hx hf t=>by
  obtain⟨g1,g2⟩:=Gg (env:=env) t;refine⟨by simp[assignEach,g1],?_⟩;simp[assignEach,List.findIdx?_cons];simpa using g2
set_option tactic.hygienic true in
def auq(hc:X.calm=true)(hN:X.N.Nodup)(h:Mm X ts is):PG X (.Tuple ts k pos) (tGt nm X.K (.names is)) :=
 PG.of (azs hc (ad2 hN h) (Gg h).1 (Gg h).2) λv σ H Q ι ρ M d ρ' S R r e q=>by
  cases r with
  |tup e1 r1 =>
   simp only[Tg.put] at e;split at e<;>cases e;rename_i hl;exact⟨_,_,rfl,Dw.of e1,by rw[<- r1.length];exact hl,by rw[<- r1.length];exact hl,q _ (W8 R r1) U5 λj hj=>Sh hj⟩
  |_=>simp[Tg.put] at e
def ao7(he:PE X a (tE nm W X.K a'))(hg:PG X tg (tGt nm X.K t))(hs:swapsWithSole [tg] a pos.line X.env=pure false)(hw:swappedStores [tg] a X.env=pure none)(h1:(assignEach [tg] X.env).map (·.2)=[assign tg X.env]) :
 PS X (.Assign [tg] a pos) (tS nm W X.K (.asg (.tg t) a')) :=
 PS.of (anu he hg hs hw h1) λD σ H ι ρ M fl ρ' M' S R e q=>by rw[MW.aao] at e;obtain⟨x,M1,e1,e⟩:=fc e;obtain⟨ρ2,M2,e2,e⟩:=fc e;cases e;rw[MW.amw] at e2;obtain⟨e3,e4⟩:=yo e2;subst e4;exact one S R e1 fun ι1 H1 v le S1 R1 r=>⟨ι1,ρ,_,x,ρ',S1,R1,r,e3,fun σ' R' _ _=>q ι1 H1 σ' le S1 R'⟩
def a0v(he:PE X a (tE nm W X.K a'))(hs:swapsWith a none pos.line X.env=pure false):PS X (.Expr a pos) (tS nm W X.K (.expr a')) :=
 PS.of (ato he hs) λD σ H ι ρ M fl ρ' M' S R e q=>by rw[MW.ass] at e;obtain⟨x,M1,e1,e⟩:=fc e;cases e;exact one S R e1 fun ι1 H1 v le S1 R1 r=>q ι1 H1 σ le S1 R1
def a8i(he:PE X a (tE nm W X.K a')):PS X (.Return (some a) pos) (tS nm W X.K (.ret a')) :=
 PS.of (azp he) λD σ H ι ρ M fl ρ' M' S R e q=>by rw[MW.ayl] at e;obtain⟨x,M1,e1,e⟩:=fc e;cases e;exact one S R e1 fun ι1 H1 v le S1 R1 r=>q ι1 H1 σ le S1 R1 v r
def a0w:PS X (.Pass pos) (tS nm W X.K .pass) :=
 PS.of atn λD σ H ι ρ M fl ρ' M' S R e q=>by rw[MW.asv] at e;cases e;exact q ι H σ (Le.refl _ _) S R
def a8j:PS X (.Break pos) (tS nm W X.K .brk) :=
 PS.of anr λD σ H ι ρ M fl ρ' M' S R e q=>by rw[MW.aym] at e;cases e;exact q ι H σ (Le.refl _ _) S R
def a0x:PS X (.Continue pos) (tS nm W X.K .cont) :=
 PS.of adl λD σ H ι ρ M fl ρ' M' S R e q=>by rw[MW.asu] at e;cases e;exact q ι H σ (Le.refl _ _) S R
def W3.mono{X:Cx}(le:Le ι H ι' H')(q:W3 nm X.K D ι H fl ρ M):W3 nm X.K D ι' H' fl ρ M:=fun ι2 H2 σ2 zy S2 R2=>q ι2 H2 σ2 (le.trans zy) S2 R2
set_option tactic.hygienic true in
def a8k(hc:PT X c (tQ nm W X.K c'))(ht:Rx X ts (tSs nm W X.K ts'))(hf:Rx X fs (tSs nm W X.K fs')):PS X (.If c ts fs pos) (tS nm W X.K (.iff c' ts' fs')) :=
 PS.of (a6j hc ht hf) λD σ H ι ρ M fl ρ' M' S R e q=>by
  rw[MW.ayk] at e;obtain⟨x,M1,e1,e⟩:=fc e;cases x<;>try cases e
  rename_i k;refine Ys S R e1 fun ι1 H1 le S1 R1=>?_
  cases k with
  |true=>exact⟨ι1,ρ,M1,fl,ρ',M',S1,R1,e,q.mono le⟩|false=>exact⟨ι1,ρ,M1,fl,ρ',M',S1,R1,e,q.mono le⟩
def a0y:Rx X [] (tSs nm W X.K .nil):=Rx.of atm λD σ H ι ρ M fl ρ' M' S R e q=>by rw[MW.asw] at e;cases e;exact q ι H σ (Le.refl _ _) S R
def aur{rest:List Stmt}(h1:PS X st (tS nm W X.K st'))(h2:Rx X rest (tSs nm W X.K rest')):Rx X (st::rest) (tSs nm W X.K (.cons st' rest')) :=
 Rx.of (anq h1 h2) λD σ H ι ρ M fl ρ' M' S R e q=>by
  rw[MW.amv] at e;obtain⟨⟨fl1,ρ1⟩,M1,e1,e⟩:=fc e;refine⟨ι,ρ,M,fl1,ρ1,M1,S,R,e1,fun ι1 H1 σ1 le S1 R1=>?_⟩;cases fl1 with
  |next=>exact⟨ι1,ρ1,M1,fl,ρ',M',S1,R1,e,q.mono le⟩|brk=>cases e;exact q ι1 H1 σ1 le S1 R1|cont=>cases e;exact q ι1 H1 σ1 le S1 R1|ret d=>cases e;exact q ι1 H1 σ1 le S1 R1
set_option tactic.hygienic true in
def a8l(hp:PassesOwn (model X.prog X.w) X.A X.env X.xe)(hc:PT X c (tQ nm W X.K c'))(hb:Rx X body (tSs nm W X.K W9)):PS X (.While c body [] pos) (tS nm W X.K (.whl c' W9)) :=
 PS.of (anv hp hc hb) λD σ H ι ρ M fl ρ' M' S R e q=>by
  rw[MW.aap] at e;refine⟨λm σ1 H1=>∃ι1 ρ1 M1,Le ι H ι1 H1/\m5 nm X.K ι1 H1 M1/\uv X.K ι1 H1 ρ1 σ1/\MW.Gj (c'.den W) (W9.den W) m ρ1 M1=.ok (fl,ρ') M',⟨MW.afz,ι,ρ,M,Le.refl _ _,S,R,e⟩,?_⟩;rintro m σ1 H1 ⟨ι1,ρ1,M1,Vu,S1,R1,e1⟩;cases m with
  |zero=>cases e1
  |succ m =>
   simp only[MW.Gj] at e1;obtain⟨x,M2,e2,e1⟩:=fc e1;cases x<;>try cases e1
   rename_i k;refine Ys S1 R1 e2 fun ι2 H2 zy S2 R2=>?_
   cases k with
   |false=>cases e1;exact q ι2 H2 σ1 (Vu.trans zy) S2 R2
   |true =>
    obtain⟨⟨fl3,ρ3⟩,M3,e3,e1⟩:=fc e1;refine⟨fun σ4 H4=>∃ι4 ρ4 M4,Le ι H ι4 H4/\m5 nm X.K ι4 H4 M4/\uv X.K ι4 H4 ρ4 σ4/\MW.Gj (c'.den W) (W9.den W) m ρ4 M4=.ok (fl,ρ') M',fun σ4 H4 h4=>⟨m,pq _,h4⟩,ι2,ρ1,M2,fl3,ρ3,M3,S2,R2,e3,fun ι4 H4 σ4 le4 S4 R4=>?_⟩;cases fl3 with
    |next=>exact⟨ι4,ρ3,M3,(Vu.trans zy).trans le4,S4,R4,e1⟩|cont=>exact⟨ι4,ρ3,M3,(Vu.trans zy).trans le4,S4,R4,e1⟩|brk=>cases e1;exact q ι4 H4 σ4 ((Vu.trans zy).trans le4) S4 R4|ret d=>cases e1;exact q ι4 H4 σ4 ((Vu.trans zy).trans le4) S4 R4
def ao8(nm:Nm)(K:Fg)(ι:Io)(H:Hp)(s:Src)(J:It):Prop:=∀ι1 H1 M1,LeX ι H ι1 H1->m5 nm K ι1 H1 M1 ->
 (∀i d,i<s.len->s.item i M1=some d->J.go i H1/\∀v H2,J.yld i H1 v H2->Le ι1 H1 ι1 H2/\m5 nm K ι1 H2 M1/\Rep K ι1 H2 d v)/\(s.fin M1=true->J.stop s.len H1)
def tI(nm:Nm)(W:Jl)(K:Fg)(it:P0):TI:=fun σ H R=>∃ι ρ M s M',m5 nm K ι H M/\uv K ι H ρ σ/\it.den W ρ M=.ok s M'/\∀ι' H' J,Le ι H ι' H'->m5 nm K ι' H' M'->ao8 nm K ι' H' s J->R J H'
set_option tactic.hygienic true in
def a8n(hp:PassesOwn (model X.prog X.w) X.A X.env X.xe)(hc:X.calm=true)(hi:PI X tg iter (tI nm W X.K it))(hg:PG X tg (tGt nm X.K t))(hb:Rx X body (tSs nm W X.K W9))(hs:Hg iter=true):PS X (.For tg iter body [] pos) (tS nm W X.K (.for_ t it W9)) :=
 PS.of (azw hp hc hi hg hb (Es hs X.env)) λD σ H ι ρ M fl ρ' M' S R e q=>by
  rw[MW.Tq] at e;obtain⟨s,M1,e1,e⟩:=fc e;refine⟨ι,ρ,M,s,M1,S,R,e1,fun ι1 H1 J Vu S1 sj=>?_⟩;refine⟨λi m σ2 H2=>m=s.len-i/\i<=s.len/\∃ι2 ρ2 M2,Le ι1 H1 ι2 H2/\m5 nm X.K ι2 H2 M2/\uv X.K ι2 H2 ρ2 σ2/\MW.Bw s.fin s.item (λd ρ M=>match t.put d ρ with|some ρ'=>W9.den W ρ' M|none=>.bad) m i ρ2 M2=.ok (fl,ρ') M',
   ⟨s.len,rfl,my _,ι1,ρ,M1,Le.refl _ _,S1,R.mono Vu,e⟩,?_⟩
  rintro i m σ2 H2 ⟨hm,hil,ι2,ρ2,M2,zy,S2,R2,e2⟩;obtain⟨go,stop⟩:=sj ι2 H2 M2 zy.toX S2;cases m with
  |zero =>
   simp only[MW.Bw] at e2;split at e2<;>cases e2;rename_i Qs;have hi:i=s.len:=by lia
   subst hi;exact .inl ⟨stop Qs,q ι2 H2 σ2 (Vu.trans zy) S2 R2⟩
  |succ m =>
   simp only[MW.Bw] at e2;split at e2
   . cases e2
   . rename_i d hd
     obtain⟨⟨fl3,ρ3⟩,M3,e3,e2⟩:=fc e2;obtain⟨g1,g2⟩:=go i d (by omega) hd;refine .inr ⟨g1,fun σ4 H4=>∃ι4 ρ4 M4,Le ι1 H1 ι4 H4/\m5 nm X.K ι4 H4 M4/\uv X.K ι4 H4 ρ4 σ4/\MW.Bw s.fin s.item (λd ρ M=>match t.put d ρ with|some ρ'=>W9.den W ρ' M|none=>.bad) m (i+1) ρ4 M4=.ok (fl,ρ') M',
      fun σ4 H4 ⟨ι4,ρ4,M4,h4⟩=>⟨m,pq _,by omega,by omega,ι4,ρ4,M4,h4⟩,λv H3 yv=>?_⟩
     obtain⟨Zu,S3,r3⟩:=g2 v H3 yv;split at e3
     . rename_i ρ5 agt
       refine⟨ι2,ρ2,M2,d,ρ5,S3,R2.mono Zu,r3,agt,fun σ5 R5 _ _=>⟨ι2,ρ5,M2,fl3,ρ3,M3,S3,R5,e3,fun ι4 H4 σ4 le4 S4 R4=>?_⟩⟩;have leA:=(zy.trans Zu).trans le4;cases fl3 with
       |next=>exact⟨ι4,ρ3,M3,leA,S4,R4,e2⟩|cont=>exact⟨ι4,ρ3,M3,leA,S4,R4,e2⟩|brk=>cases e2;exact q ι4 H4 σ4 (Vu.trans leA) S4 R4|ret d=>cases e2;exact q ι4 H4 σ4 (Vu.trans leA) S4 R4
     . cases e3
section
variable{nm:Nm}{W:Jl}{X:Cx}{a b c:Expr}{a' b' c':Ex}{pos pos':Pos}{ι:Io}{H:Hp}{σ:St}{ρ:En}{M M1 M2:cj}{x y:Dv}{es:Ya}{es':Dl}{tg iter elt:Expr}
def PI.weak(h:PI X tg iter wi)(w:∀σ H R,wi' σ H R->wi σ H R):PI X tg iter wi':=λpins s σ H R I q=>h pins s σ H R I (w σ H R q)
def PI.of(h:PI X tg iter wi)(w:∀σ H R' ι ρ M s M',m5 nm X.K ι H M->uv X.K ι H ρ σ->it.den W ρ M=.ok s M'->(∀ι' H' J,Le ι H ι' H'->m5 nm X.K ι' H' M'->ao8 nm X.K ι' H' s J->R' J H')->wi σ H R'):PI X tg iter (tI nm W X.K it) :=
 PI.weak h fun σ H R' ⟨ι,ρ,M,s,M',S,R,e,q⟩=>w σ H R' ι ρ M s M' S R e q
def a0z(hl:PE X l tl):PI X tg l (fun σ H R=>tl σ H λx H1=>∃a,x=.ref a/\((∃xs,Hm X.K H1 a xs)/\R (Itl X.K a) H1\/(∃xs,Dw X.K H1 a xs)/\R (Itt X.K a) H1)):=by
 intro pins s σ H R I h;refine Bq (hl pins s σ H _ I h) λv s1 ⟨x,H1,I1,r1,q1⟩=>?_
 obtain⟨a,e,⟨⟨xs,hq⟩,q⟩|⟨⟨xs,hq⟩,q⟩⟩:=q1
 . subst e
   cases r1;obtain⟨xq,rv,p,hz⟩:=I1.list hq;refine wpAny_pyIter_list p.isList ?_;refine⟨s1.heap.objs.size,[s1.heap.objs.size],_,_,H1,rfl,I1.kept (t':=s1.toks) λb o e=>ao _ e,akc a _,⟨_,bf _ rfl,rfl,rfl⟩,λb hb=>?_,q⟩;have e:b=s1.heap.objs.size:=by simpa using hb
   subst e;exact I1.anw (bc _) (I1.An.fresh (bc _))
 . subst e
   cases r1;obtain⟨xq,rv,p,hz⟩:=I1.tuple hq;refine ud (show s1.heap.IsTuple a xq.toArray from p) ?_;refine⟨s1.heap.objs.size,[s1.heap.objs.size],_,_,H1,rfl,I1.kept (t':=s1.toks) λb o e=>ao _ e,af9 a _,⟨_,bf _ rfl,rfl,rfl⟩,λb hb=>?_,q⟩;have e:b=s1.heap.objs.size:=by simpa using hb
   subst e;exact I1.anw (bc _) (I1.An.fresh (bc _))
def Zv{p:Addr}{ds:List Dv}{s:Src}(hs:∀ι1 H1 M1,LeX ι H ι1 H1->m5 nm X.K ι1 H1 M1->(∀i d,s.item i M1=some d->∃vs v,H1 p=some (.lst vs)/\vs[i]?=some v/\Rep X.K ι1 H1 d v)/\(s.fin M1=true->∃vs,H1 p=some (.lst vs)/\vs.length<=s.len)) :
 ao8 nm X.K ι H s (Itl X.K p):=fun ι1 H1 M1 le S1=>by
 obtain⟨a,b⟩:=hs ι1 H1 M1 le S1;refine⟨λi d hi hd=>?_,λhf=>?_⟩
 . obtain⟨vs,v,h1,h2,h3⟩:=a i d hd
   refine⟨⟨vs,v,Hm.of h1,h2⟩,λu H2 ⟨e,y⟩=>?_⟩;subst e;have:=y vs (Hm.of h1);rw[h2] at this;cases this;exact⟨Le.refl _ _,S1,h3⟩
 . obtain⟨vs,h1,h2⟩:=b hf
   exact⟨vs,Hm.of h1,h2⟩
set_option tactic.hygienic true in
def a8o(ha:PE X a (tE nm W X.K a')):PI X tg a (tI nm W X.K (.val a')) :=
 PI.of (a0z ha) fun σ H R' ι ρ M s M' S R e q=>by
  rw[MW.Lh] at e;obtain⟨x,M1,e1,e⟩:=fc e;obtain⟨e,rfl⟩:=yo e;refine one S R e1 fun ι1 H1 v le S1 R1 r=>?_
  cases r with
  |@tup p ds vs h1 r1 =>
   simp only[MW.srcOf] at e;cases e;refine⟨p,rfl,.inr ⟨⟨vs,Dw.of h1⟩,q ι1 H1 _ le S1 fun ι2 H2 M2 zy S2=>⟨λi d hi hd=>?_,λ_=>⟨vs,Dw.of (zy.tup _ _ h1),by rw[<- r1.length];exact bc _⟩⟩⟩⟩;have hd:ds[i]?=some d:=hd;obtain⟨v,g1,g2⟩:=(r1.Er zy).get hd;refine⟨⟨vs,v,Dw.of (zy.tup _ _ h1),g1⟩,λu H3 ⟨ee,yy⟩=>?_⟩;subst ee;have:=yy vs (Dw.of (zy.tup _ _ h1));rw[g1] at this;cases this;exact⟨Le.refl _ _,S2,g2⟩
  |@vl p ds vs h1 n1 r1 =>
   simp only[MW.srcOf] at e;cases e;refine⟨p,rfl,.inl ⟨⟨vs,Hm.of h1⟩,q ι1 H1 _ le S1 (Zv (ds:=ds) fun ι2 H2 M2 zy S2=>⟨λi d hd=>?_,λ_=>⟨vs,zy.lst _ _ n1.1 h1,by rw[<- r1.length];exact bc _⟩⟩)⟩⟩;have hd:ds[i]?=some d:=hd;obtain⟨v,g1,g2⟩:=(r1.Er zy).get hd;exact⟨vs,v,zy.lst _ _ n1.1 h1,g1,g2⟩
  |@ref n p h1 =>
   simp only[MW.srcOf] at e;obtain⟨ds,hn,rfl⟩:∃ds,M'[n]?=some (.lst ds)/\s=.live n ds.length:=by
    split at e
    . rename_i ds hn;cases e;exact⟨ds,hn,rfl⟩
    . cases e
   obtain⟨vs,g1,g2⟩:=S1.obj n _ p hn h1;refine⟨p,rfl,.inl ⟨⟨vs,Hm.of g1⟩,q ι1 H1 _ le S1 (Zv (ds:=ds) fun ι2 H2 M2 zy S2=>⟨λi d hd=>?_,λhf=>?_⟩)⟩⟩
   . simp only[Src.item] at hd
     split at hd
     . rename_i ds2 Yh
       split at hd
       . obtain⟨vs2,k1,k2⟩:=S2.obj n _ p Yh (zy.get h1)
         obtain⟨v,k3,k4⟩:=k2.get hd;exact⟨vs2,v,k1,k3,k4⟩
       . cases hd
     . cases hd
   . simp only[Src.fin] at hf
     split at hf
     . rename_i ds2 Yh
       obtain⟨vs2,k1,k2⟩:=S2.obj n _ p Yh (zy.get h1);refine⟨vs2,k1,?_⟩;rw[<- k2.length];have:ds2.length=ds.length:=by simpa using hf
       rw[this];exact bc _
     . cases hf
  |_=>simp[MW.srcOf] at e
set_option tactic.hygienic true in
def a8p(hg:Gl X "range")(hm:X.mg "range" = none)(ha:PE X a (tE nm W X.K a'))(Vn:noStar a=true):PI X tg (.Call (.Name "range" pr) [a] [] pos) (tI nm W X.K (.Kh a')) :=
 PI.of (akd hg hm (Jb ha Sg (kj Vn _ _)) (kj Vn _ _)) fun σ H R' ι ρ M s M' S R e q=>by
  rw[MW.Ph] at e;obtain⟨x,M1,e1,e⟩:=fc e;refine W6 (es':=.cons a' .nil) (ds:=[x]) (M1:=M1) S R (by rw[MW.Hq,e1];simp) fun ι1 H1 vs le S1 R1 r=>?_
  obtain⟨i,hx⟩:∃i,x=.int i:=by cases x<;>first|exact⟨_,rfl⟩|cases e
  subst hx;have e:(if i.natAbs<=100000 then Res.ok (Src.con ((List.range i.toNat).map λ(k:Nat)=>MW.D.int (k:Int))) M1 else .bad)=.ok s M':=e;split at e<;>cases e;rename_i hi;cases r with
  |cons r1 r2 =>
   cases r1;cases r2;refine⟨i,rfl,by lia,by omega,q ι1 H1 _ le S1 fun ι2 H2 M2 zy S2=>⟨λj d hj hd=>?_,λ_=>?_⟩⟩
   . have hl:j<i.toNat:=by simpa[Src.len] using hj
     have hd:((List.range i.toNat).map λ(k:Nat)=>MW.D.int (k:Int))[j]?=some d:=hd;rw[jd,yu hl] at hd;have hd:MW.D.int (j:Int)=d:=by simpa using hd
     subst hd;refine⟨hl,λu H3 ⟨ee,yy⟩=>?_⟩;subst ee yy;exact⟨Le.refl _ _,S2,by rw[Int.zero_add];exact .int _⟩
   . show i.toNat<=_
     simp[Src.len]
def aks(R:uv K ι H ρ σ):uv K ι H (ρ++List.replicate k none) (σ++List.replicate k none):=R.append (uv.ao1 k (by simp))
def ao9{σ2:St}(hn:σ.length=n)(ho:∀i∈Bt t,n<=i)(h:∀j,j∉Bt t->σ2[j]?=(σ++List.replicate k none)[j]?):∀(j:Nat) v,(σ++List.replicate k none)[j]?=some (some v)->σ2[j]?=some (some v):=λj v e=>by
 by_cases hj:j∈Bt t
 . have:=ho j hj
   rw[jg (a_ (f_ hn) this),List.getElem?_replicate] at e;split at e<;>simp at e
 . rw[h j hj];exact e
noncomputable def axj(o:Option Dv):List Dv:=match o with|some x=>[x]|none=>[]
set_option tactic.hygienic true in
def ad3(h:MW.Dk fin item body (k+1) i M=.ok ds M') :
 ∃d o M1 rest,item i M=some d/\body d M=.ok o M1/\MW.Dk fin item body k (i+1) M1=.ok rest M'/\ds=axj o++rest:=by
 simp only[MW.Dk] at h;split at h
 . cases h
 . rename_i d hd
   obtain⟨o,M1,e1,h⟩:=fc h;obtain⟨rest,M2,e2,h⟩:=fc h;cases h;exact⟨d,o,M1,rest,hd,e1,e2,by cases o<;>rfl⟩
def lg.snoc(r:lg K ι H ds vs)(h:Rep K ι H d v):lg K ι H (ds++[d]) (vs++[v]):=r.append (.cons h .nil)
set_option tactic.hygienic true in
def Vw(e:MW.Ax s body M1=.ok ds M2):s.len<=100000/\MW.Dk s.fin s.item body s.len 0 M1=.ok ds M2:=by
 unfold MW.Ax at e;split at e
 . rename_i hl
   exact⟨hl,e⟩
 . cases e
noncomputable def keptAs(v:Bool)(ds:List Dv)(M:cj):Res Dv:=if v=true then .ok (.vl ds) M else MW.new (.lst ds) M
def akt(h:(Ex.comp v k t it e').den W ρ M=.ok d M'):∃s M1 ds M2,it.den W ρ M=.ok s M1/\s.len<=100000 /\
 MW.Dk s.fin s.item (λd M=>match t.put d (ρ++List.replicate k none) with|some ρ'=>(e'.den W ρ' M).bind λx M'=>.ok (some x) M'|none=>.bad) s.len 0 M1=.ok ds M2/\keptAs v ds M2=.ok d M':=by
 rw[MW.Nt] at h;obtain⟨s,M1,e1,h⟩:=fc h;obtain⟨ds,M2,e2,h⟩:=fc h;exact⟨s,M1,ds,M2,e1,(Vw e2).1,(Vw e2).2,h⟩
mutual
theorem Rep.adopt{K:Fg}{ι:Io}{H:Hp}{D:Addr}:∀{d:Dv}{v:V},Rep K (ι.hide D) H d v->Rep K (ι.add D) H d v
 |_,_,.non=>.non|_,_,.bl b=>.bl b|_,_,.int i=>.int i|_,_,.str s=>.str s|_,_,.tup e r=>.tup e (lg.adopt r)|_,_,.vl e n r=>.vl e ⟨λm=>(dj.mp m).elim n.1 λz=>n.2 (by rw[xm.mp z];exact dg),λm=>n.2 (bh _ m)⟩ (lg.adopt r)
 |_,_,.fz e r=>.fz e (lg.adopt r)
 | _,_,.ref e=>.ref (by
  have e:ι.l[_]?=some _:=e;show(ι.l++[D])[_]?=_;rw[du (ak.mp e).1];exact e)
theorem lg.adopt{K:Fg}{ι:Io}{H:Hp}{D:Addr}:∀{ds:List Dv}{vs:List V},lg K (ι.hide D) H ds vs->lg K (ι.add D) H ds vs
 |_,_,.nil=>.nil|_,_,.cons h t=>.cons (Rep.adopt h) (lg.adopt t)
end
theorem m5.adopt(S:m5 nm K (ι.hide D) H M)(hd:H D=some (.lst vs))(r:lg K (ι.hide D) H ds vs)(hδ:ι.off D):m5 nm K (ι.add D) H (M++[.lst ds]):=by
 refine⟨by have:=S.len;simp only[Io.hide] at this;simp[Io.add,this],?_,λa ha=>?_,λn o a hn ha=>?_⟩
 . exact yh.mpr ⟨S.nd,by simp,by
    intro x hx y hy;have:y=D:=by simpa using hy
    subst this;intro e;subst e;exact hδ.1 hx⟩
 . obtain⟨h1,vs,h2⟩:=S.del a (bh _ ha)
   exact⟨λm=>(dj.mp m).elim h1 λz=>hδ.2 (by rw[<- xm.mp z];exact ha),vs,h2⟩
 . rcases Cd hn with q|⟨q,rfl⟩
   . rcases Cd ha with z|⟨z,_⟩
     . exact(S.obj n o a q z).map (λd v r=>r.adopt) rfl
     . exact absurd (MW.ye q) (by rw[z,<- S.len];exact mq _)
   . rcases Cd ha with z|⟨_,rfl⟩
     . exact absurd (ak.mp z).1 (by rw[q,<- S.len];exact mq _)
     . exact⟨vs,hd,r.adopt⟩
def apa(S:m5 nm K (ι.hide D) H M)(hd:H D=some (.lst vs))(r:lg K (ι.hide D) H ds vs)(hδ:ι.off D)(le:Le ι0 H0 ι H)(h0:H0 D=none)(h:keptAs v ds M=.ok d M') :
 ∃ι',Le ι0 H0 ι' H/\m5 nm K ι' H M'/\Rep K ι' H d (.ref D):=by
 unfold keptAs at h;split at h
 . cases h
   exact⟨ι,le,S.show,.vl hd hδ r.show⟩
 . cases h
   refine⟨ι.add D,⟨?_,le.del,le.tup,le.Q0,le.lst,le.dom⟩,S.adopt hd r hδ,.ref ?_⟩
   . obtain⟨Y,e,hY⟩:=le.ext
     exact⟨Y++[D],by show ι.l++[D]=_;rw[e,Aa],λa ha=>(dj.mp ha).elim (hY a) λz=>by rw[xm.mp z];exact h0⟩
   . show(ι.l++[D])[M.length]?=some D
     rw[<- S.len];simp[Io.hide]
def BodyOk(nm:Nm)(K:Fg)(σ2:St)(tc:TT)(te:TE)(ρ2:En)(M:cj)(o:Option Dv)(M':cj):Prop:=∀ι H (G1:V->Hp->Prop) (G0:Hp->Prop),m5 nm K ι H M->uv K ι H ρ2 σ2 ->
 (∀ι' H' v,Le ι H ι' H'->m5 nm K ι' H' M'->(match o with|some x=>Rep K ι' H' x v->G1 v H'|none=>G0 H'))->tc σ2 H λb H3=>if b=true then te σ2 H3 λv H4=>G1 v H4 else G0 H3
set_option tactic.hygienic true in
def Zw{N:Yf}(hk:N.length-X.N.length=k)(ho:∀i∈Bt t,X.N.length<=i)(hσ:σ.length=X.N.length)(S:m5 nm X.K ι H M)(R:uv X.K ι H ρ σ)(e1:it.den W ρ M=.ok s M1)(hlen:s.len<=100000)(e2:MW.Dk s.fin s.item body s.len 0 M1=.ok ds M')(ek:keptAs v0 ds M'=.ok d0 M0)(q:∀ι' H' v,Le ι H ι' H'->m5 nm X.K ι' H' M0->Rep X.K ι' H' d0 v->Q v H')(hb:∀d M2 o M3,body d M2=.ok o M3->∃ρ5,t.put d (ρ++List.replicate k none)=some ρ5/\∀σ5,BodyOk nm X.K σ5 tc te ρ5 M2 o M3):adz (N.length-X.N.length) (tI nm W X.K it) (tGt nm X.K t) tc te σ H Q:=by
 refine⟨ι,ρ,M,s,M1,S,R,e1,fun ι1 H1 J Vu S1 sj D hD=>?_⟩;rw[hk];refine⟨λi m H2=>m=s.len-i/\i<=s.len/\∃ι2 M2 acc vs rest,LeD D ι1 H1 (Io.hide ι2 D) H2/\m5 nm X.K (Io.hide ι2 D) H2 M2/\H2 D=some (.lst vs)/\lg X.K (Io.hide ι2 D) H2 acc vs/\acc.length<=i /\
  MW.Dk s.fin s.item body m i M2=.ok rest M'/\ds=acc++rest,?_,?_⟩
 . exact⟨s.len,rfl,my _,ι1,M1,[],[],ds,LeD.start hD _,S1.hide hD,wj,.nil,bc _,e2,rfl⟩
 . rintro i m H2 ⟨hm,hil,ι2,M2,acc,vs,rest,zy,S2,hd2,a00,Fj,e3,hds⟩
   have leP:Le ι1 H1 ι2 H2:=LeD.done zy;have beo:ι2.δ=ι1.δ:=leP.del;have bep:ι2.off D:=⟨(S2.del D dg).1,λz=>by rw[beo] at z;exact(S1.fresh hD).2 z⟩;obtain⟨go,stop⟩:=sj (Io.hide ι2 D) H2 M2 (zy.toX hD) S2;cases m with
   |zero =>
    simp only[MW.Dk] at e3;split at e3<;>cases e3;rename_i Qs;refine hG λ_ _k=>?_
    have hi:i=s.len:=by lia
    subst hi;rw[zr] at hds;subst hds;obtain⟨ι9,le9,S9,r9⟩:=apa S2 hd2 a00 bep leP hD ek;apply _k;exact .inl ⟨stop Qs,q ι9 H2 _ (Vu.trans le9) S9 r9⟩
   |succ m =>
    refine hG λ_ _k=>?_
    obtain⟨d,o,M3,rest',h1,h2,h3,h4⟩:=ad3 e3;obtain⟨g1,g2⟩:=go i d (by lia) h1;apply _k;refine .inr ⟨g1,λv H3 yv=>?_⟩;refine hG λ_ _k=>?_
    obtain⟨Zu,S3,r3⟩:=g2 v H3 yv;obtain⟨ρ5,agt,bok⟩:=hb d M2 o M3 h2;have R3:uv X.K (Io.hide ι2 D) H3 ρ σ:=((R.mono Vu).Er (zy.toX hD)).mono Zu;apply _k;refine⟨Io.hide ι2 D,ρ++List.replicate k none,M2,d,ρ5,S3,aks R3,r3,agt,fun σ5 R5 l5 k5=>⟨l5,ao9 hσ ho k5,?_⟩⟩;have hd3:=Zu.lst D vs (S2.del D dg).1 hd2;refine bok σ5 (Io.hide ι2 D) H3 _ _ S3 R5 (fun ι6 H6 u le6 S6=>by
     have hd6:=le6.lst D vs (S2.del D dg).1 hd3;have a01:LeD D ι1 H1 ι6 H6:=(zy.go Zu).go le6;have ei:ι6=Io.hide ⟨ι6.l,ι2.δ⟩ D:=by have:=le6.del;obtain⟨l6,δ6⟩:=ι6;simp only[Io.hide] at this ⊢;rw[this]
     rw[ei] at a01 S6;have axk:lg X.K (Io.hide ⟨ι6.l,ι2.δ⟩ D) H6 acc vs:=by rw[<- ei];exact(a00.mono Zu).mono le6
     cases o with
     |none =>
      refine⟨m,pq _,by lia,by lia,⟨ι6.l,ι2.δ⟩,M3,acc,vs,rest',a01,S6,hd6,axk,a_ Fj x_,h3,?_⟩;rw[hds,h4];rfl
     |some x =>
      intro r6;rw[ei] at r6;have Ji:D∈(Io.hide ⟨ι6.l,ι2.δ⟩ D).δ:=dg;refine⟨vs,m,hd6,?_,pq _,by lia,by lia,⟨ι6.l,ι2.δ⟩,M3,acc++[x],vs++[u],rest',a01.grow hD hd6,S6.grow hd6 Ji,wj,(axk.snoc r6).grow hd6 Ji,by simp;exact Fj,h3,?_⟩
      . rw[<- a00.length]
        exact Nat.lt_of_le_of_lt (gn Fj (gn hil hlen)) (by decide)
      . rw[hds,h4];simp[axj])
set_option tactic.hygienic true in
def Zx{N:Yf}(hk:N.length-X.N.length=k)(ho:∀i∈Bt t,X.N.length<=i):∀σ H Q,σ.length=X.N.length->tE nm W X.K (.comp v0 k t it e') σ H Q ->
 adz (N.length-X.N.length) (tI nm W X.K it) (tGt nm X.K t) (λ_ H Q=>Q true H) (tE nm W X.K e') σ H Q:=fun σ H Q hσ hh=>by
 obtain⟨ι,ρ,M,d,M',S,R,e,q⟩:=hh;obtain⟨s,M1,ds,M2,e1,hlen,e2,ek⟩:=akt e;refine Zw hk ho hσ S R e1 hlen e2 ek q λd M2 o M3 hb=>?_
 split at hb
 . rename_i ρ5 agt
   obtain⟨x,M4,e5,hb⟩:=fc hb;cases hb;refine⟨ρ5,agt,fun σ5 ι5 H5 G1 G0 S5 R5 g=>?_⟩;show if true=true then _ else _
   rw[cg rfl];exact one (X:=X) S5 R5 e5 fun ι6 H6 u le6 S6 R6 r6=>g ι6 H6 u le6 S6 r6
 . cases hb
def ad4(h:(Ex.Dj v k t it c' e').den W ρ M=.ok d M'):∃s M1 ds M2,it.den W ρ M=.ok s M1/\s.len<=100000 /\
 MW.Dk s.fin s.item (λd M=>match t.put d (ρ++List.replicate k none) with|some ρ'=>(c'.den W ρ' M).bind λb M'=>(match b with|.bl true=>(e'.den W ρ' M').bind λx M''=>.ok (some x) M''|.bl false=>.ok none M'|_=>.bad)|none=>.bad) s.len 0 M1=.ok ds M2/\keptAs v ds M2=.ok d M':=by
 rw[MW.Wf] at h;obtain⟨s,M1,e1,h⟩:=fc h;obtain⟨ds,M2,e2,h⟩:=fc h;exact⟨s,M1,ds,M2,e1,(Vw e2).1,(Vw e2).2,h⟩
set_option tactic.hygienic true in
def U6{N:Yf}(hk:N.length-X.N.length=k)(ho:∀i∈Bt t,X.N.length<=i):∀σ H Q,σ.length=X.N.length->tE nm W X.K (.Dj v0 k t it c' e') σ H Q ->
 adz (N.length-X.N.length) (tI nm W X.K it) (tGt nm X.K t) (tQ nm W X.K c') (tE nm W X.K e') σ H Q:=fun σ H Q hσ hh=>by
 obtain⟨ι,ρ,M,d,M',S,R,e,q⟩:=hh;obtain⟨s,M1,ds,M2,e1,hlen,e2,ek⟩:=ad4 e;refine Zw hk ho hσ S R e1 hlen e2 ek q λd M2 o M3 hb=>?_
 split at hb
 . rename_i ρ5 agt
   obtain⟨x,M4,e5,hb⟩:=fc hb;refine⟨ρ5,agt,fun σ5 ι5 H5 G1 G0 S5 R5 g=>?_⟩;split at hb
   . obtain⟨y,M6,e6,hb⟩:=fc hb
     cases hb;refine Ys (X:=X) S5 R5 e5 fun ι6 H6 le6 S6 R6=>?_
     rw[cg rfl];exact one (X:=X) S6 R6 e6 fun ι7 H7 u le7 S7 R7 r7=>g ι7 H7 u (le6.trans le7) S7 r7
   . cases hb
     refine Ys (X:=X) S5 R5 e5 fun ι6 H6 le6 S6 R6=>?_
     rw[bx (by simp)];exact g ι6 H6 .non le6 S6
   . cases hb
 . cases hb
def PE.ad5(h:PE X e t)(w:∀σ H Q,σ.length=X.N.length->t' σ H Q->t σ H Q):PE X e t':=λpins s σ H Q I q=>h pins s σ H Q I (w σ H Q I.len q)
def PS.ad5(h:PS X st t)(w:∀D σ H,σ.length=X.N.length->t' D σ H->t D σ H):PS X st t':=λpins s σ H D I q=>h pins s σ H D I (w D σ H I.len q)
def a02(B:Fb X N scope)(J1:X.calm=true)(hi:PI X tg iter (tI nm W X.K it))(hg:∀C fp s H,PG (Np X N scope C fp s H) tg (tGt nm X.K t))(he:∀C fp s H,PE (Np X N scope C fp s H) elt (tE nm W X.K e'))(hs:Hg iter=true)(hk:N.length-X.N.length=k)(ho:∀i∈Bt t,X.N.length<=i):PE X (.ListComp elt [⟨tg,iter,[],0⟩] scope pos) (tE nm W X.K (.comp v0 k t it e')) :=
 PE.ad5 (aif B J1 hi hg (λ_ _ _ _=>.inl ⟨rfl,rfl⟩) he (Es hs X.env)) (Zx hk ho)
def apb(B:Fb X N scope)(J1:X.calm=true)(hi:PI X tg iter (tI nm W X.K it))(hg:∀C fp s H,PG (Np X N scope C fp s H) tg (tGt nm X.K t))(hc:∀C fp s H,PT (Np X N scope C fp s H) c (tQ nm W X.K c'))(he:∀C fp s H,PE (Np X N scope C fp s H) elt (tE nm W X.K e'))(hs:Hg iter=true)(hk:N.length-X.N.length=k)(ho:∀i∈Bt t,X.N.length<=i):PE X (.ListComp elt [⟨tg,iter,[c],0⟩] scope pos) (tE nm W X.K (.Dj v0 k t it c' e')) :=
 PE.ad5 (aif B J1 hi hg (λ_ _ _ _=>.inr ⟨c,rfl,hc _ _ _ _⟩) he (Es hs X.env)) (U6 hk ho)
def ad6(h:∀σ H Q,σ.length=X.N.length->tE nm W X.K e' σ H Q->tt σ H Q):∀D σ H,σ.length=X.N.length->tS nm W X.K (.asg (.tg (.name i)) e') D σ H->azu tt (ah1 i) D σ H:=λD σ H hσ hh=>by obtain⟨ι,ρ,M,fl,ρ',M',S,R,e,q⟩:=hh;rw[MW.aao] at e;obtain⟨x,M1,e1,e⟩:=fc e;obtain⟨ρ2,M2,e2,e⟩:=fc e;cases e;rw[MW.amw] at e2;obtain⟨e3,e4⟩:=yo e2;subst e4;cases e3;exact h σ H _ hσ (one S R e1 fun ι1 H1 v le S1 R1 r=>q ι1 H1 _ le S1 (R1.set r i))
def aku{y:Str}(B:Fb X N scope)(J1:X.calm=true)(hi:PI X tg iter (tI nm W X.K it))(hg:∀C fp s H,PG (Np X N scope C fp s H) tg (tGt nm X.K t))(he:∀C fp s H,PE (Np X N scope C fp s H) elt (tE nm W X.K e'))(hs:Hg iter=true)(hk:N.length-X.N.length=k)(ho:∀i∈Bt t,X.N.length<=i)(hN:X.N.Nodup)(hy:X.N[i]?=some y)(hl:X.env.scope.names.lookup y=some .local)(hsw:swapsWith (.ListComp elt [⟨tg,iter,[],0⟩] scope pos) (some (.Name y py)) ao0.line X.env=pure true):PS X (.Assign [.Name y py] (.ListComp elt [⟨tg,iter,[],0⟩] scope pos) ao0) (tS nm W X.K (.asg (.tg (.name i)) (.comp v0 k t it e'))) :=
 PS.ad5 (aih B J1 hi hg (λ_ _ _ _=>.inl ⟨rfl,rfl⟩) he (Es hs X.env) hN hy hl hsw) (ad6 (Zx hk ho))
def ad7{y:Str}(B:Fb X N scope)(J1:X.calm=true)(hi:PI X tg iter (tI nm W X.K it))(hg:∀C fp s H,PG (Np X N scope C fp s H) tg (tGt nm X.K t))(hc:∀C fp s H,PT (Np X N scope C fp s H) c (tQ nm W X.K c'))(he:∀C fp s H,PE (Np X N scope C fp s H) elt (tE nm W X.K e'))(hs:Hg iter=true)(hk:N.length-X.N.length=k)(ho:∀i∈Bt t,X.N.length<=i)(hN:X.N.Nodup)(hy:X.N[i]?=some y)(hl:X.env.scope.names.lookup y=some .local)(hsw:swapsWith (.ListComp elt [⟨tg,iter,[c],0⟩] scope pos) (some (.Name y py)) ao0.line X.env=pure true):PS X (.Assign [.Name y py] (.ListComp elt [⟨tg,iter,[c],0⟩] scope pos) ao0) (tS nm W X.K (.asg (.tg (.name i)) (.Dj v0 k t it c' e'))) :=
 PS.ad5 (aih B J1 hi hg (λ_ _ _ _=>.inr ⟨c,rfl,hc _ _ _ _⟩) he (Es hs X.env) hN hy hl hsw) (ad6 (U6 hk ho))
end
def spF(nm:Nm)(W:Jl)(K:Fg)(n f:Nat):Sp:=λvs H Q _=>∃ι M ds d M',m5 nm K ι H M/\lg K ι H ds vs/\ds.length=n/\W.call f ds M=.ok d M'/\∀ι' H' v,Le ι H ι' H'->m5 nm K ι' H' M'->Rep K ι' H' d v->Q v H'
def s_call(F:Gf X.prog X.w X.K X.mg X.base CX0 k fa fd ps (spF nm W X.K n f))(hr:Af k X.A)(hg:Gl X x)(hm:X.mg x=some (.ref fa))(hk:PySem.W.keepIn X.K (.ref fa)=true)(hb:Binds X.K fd ps [])(hlen:Dl.len es'=n)(ha:PA X (a::es) (Yc nm W X.K es'))(Ux:(x==("__debug__" : Str))=false)(he:starEach (a::es) X.env=(false,eval a X.env)::starEach es X.env)(Jg:(backTo pos (starEach es X.env)).any (·.1)=false) :
 PE X (.Call (.Name x p) (a::es) [] pos) (tE nm W X.K (.call f es')) :=
 PE.of (at4 (E:=E0) F hr hg hm hk hb .nil aid ha Ux he Jg) fun σ H Q ι ρ M d M' S R e q=>by
  rw[MW.amq] at e;obtain⟨ds,M1,e1,e⟩:=fc e;refine W6 S R e1 fun ι1 H1 vs le S1 R1 r=>?_
  rw[zr];exact⟨ι1,M1,ds,d,M',S1,r,(Jc e1).trans hlen,e,fun ι' H' v Yd S' r'=>q ι' H' v (le.trans Yd) S' r'⟩
def a03(Mk0:Mk X.K C fa)(F:Gf X.prog X.w X.K X.mg X.base CX0 k fa fd ps (spF nm W X.K (n+1) f))(hr:Af (k+1) X.A)(hg:Gl X x)(hm:X.mg x=some (.ref C))(hb:Binds X.K fd ps [])(hcl:W.cls[ci]?=some cl)(Yg:cl.init=f)(hnm:nm.cls ci=some C)(hlen:Dl.len es'=n)(ha:PA X (a::es) (Yc nm W X.K es'))(Ux:(x==("__debug__" : Str))=false)(he:starEach (a::es) X.env=(false,eval a X.env)::starEach es X.env)(Jg:(backTo pos (starEach es X.env)).any (·.1)=false) :
 PE X (.Call (.Name x p) (a::es) [] pos) (tE nm W X.K (.make ci es')) :=
 PE.of (at6 (E:=E0) Mk0 F hr hg hm hb .nil aid ha Ux he Jg) fun σ H Q ι ρ M d M' S R e q=>by
  rw[MW.acp] at e;obtain⟨ds,M1,e1,e⟩:=fc e;rw[hcl] at e;have e:((W.call cl.init (.ref M1.length::ds) (M1++[.ins ci []])).bind λr M2=>match r with|.non=>.ok (.ref M1.length) M2|_=>.bad)=.ok d M':=e;obtain⟨r0,M2,e2,e⟩:=fc e;refine W6 S R e1 fun ι1 H1 vs le S1 R1 r=>λp dx hp hdx X8=>?_
  rw[zr];have keep:∀a u,H1 a=some u->upd (upd H1 dx (.own p)) p (.ins C dx []) a=some u:=λa u e=>by rw[j8 (kh e hp),j8 (kh e hdx)];exact e
  obtain⟨S2,zy⟩:=S1.new (o:=.ins ci []) hp keep λ_=>⟨C,dx,[],hnm,wj,.nil⟩
  have rp:Rep X.K (ι1.add p) (upd (upd H1 dx (.own p)) p (.ins C dx [])) (.ref M1.length) (.ref p):=.ref (by show(ι1.l++[p])[M1.length]?=some p;rw[<- S1.len];simp);refine⟨ι1.add p,M1++[.ins ci []],.ref M1.length::ds,r0,M2,S2,.cons rp (r.mono zy),by rw[gr,Jc e1,hlen],by rw[<- Yg];exact e2,fun ι' H' v Yd S' r'=>?_⟩;cases r'<;>try cases e
  exact⟨rfl,q ι' H' _ (le.trans (zy.trans Yd)) S' (rp.mono Yd)⟩
theorem Xa{nm:Nm}{ι:Io}{H:Hp}{m:Str}{K:Fg}(Y7:∀i,nm.fld i≠m):∀{fs:List (Nat×Dv)}{l:List (Str×V)},qy K ι H (λk k'=>k'=nm.fld k) fs l->l.lookup m=none
 |_,_,.nil=>rfl
 |_,_,.cons (k:=kk) (k':=kk') hk h t=>by
  subst hk;rw[ou];have z:(m==nm.fld kk)=false:=by
   cases z:m==nm.fld kk with
   |false=>rfl|true=>exact absurd (eq_of_beq z).symm (Y7 kk)
  rw[z];exact Xa Y7 t
def a04{nm:Nm}{W:Jl}{X:Cx}{a o:Expr}{o':Ex}{pos apos:Pos}{es:Ya}{es':Dl}{k n f:Nat}{fa C:Addr}{fd:FuncData}{ps:Yf}{m:Str}{mi ci:Nat}{cl:MW.Cl}{pl:Sem Bool}(ho:PE X o (tE nm W X.K o'))(c0:Cls X.K C)(hme:Meth X.K C m fa)(F:Gf X.prog X.w X.K X.mg X.base CX0 k fa fd ps (spF nm W X.K (n+1) f))(hr:Af k X.A)(hb:Binds X.K fd ps [])
 (a05:∀c' cl',W.cls[c']?=some cl'->∀g,cl'.meths.lookup mi=some g->nm.cls c'=some C/\g=f) (Y7:∀i,nm.fld i≠m)
 (hlen:Dl.len es'=n) (ha:PA X (a::es) (Yc nm W X.K es')) (he:starEach (a::es) X.env=(false,eval a X.env)::starEach es X.env) (Jg:(backTo pos (starEach es X.env)).any (·.1)=false)
 (ht:eval (.Call (.Attribute o m apos) (a::es) [] pos) X.env=(do
  let ov <- eval o X.env
  standAt apos.atName
  let (f,first) <- holding [ov] (getMethod ov m pl)
  callWith pos f first (backTo pos (starEach (a::es) X.env)) (backToKw pos (keywordEach [] X.env)))) :
 PE X (.Call (.Attribute o m apos) (a::es) [] pos) (tE nm W X.K (.meth o' mi es')) :=
 PE.of (at5 (E:=E0) ho c0 hme F hr hb .nil aid ha he Jg ht) fun σ H Q ι ρ M d M' S R e q=>by
  rw[MW.Ri] at e;obtain⟨x,M1,e1,e⟩:=fc e;obtain⟨ds,M2,e2,e⟩:=fc e;refine one S R e1 fun ι1 H1 v le S1 R1 r=>?_
  obtain⟨j,hx⟩:∃j,x=.ref j:=by cases x<;>first|exact⟨_,rfl⟩|cases e
  subst hx;obtain⟨p,rfl,hp⟩:∃p,v=.ref p/\ι1.l[j]?=some p:=by cases r with|ref z=>exact⟨_,rfl,z⟩
  have e:(match M1[j]? with
   | some (.ins c _)=>(match(W.cls[c]?).bind λC=>C.meths.lookup mi with
    | some f=>W.call f (.ref j::ds) M2|none=>.bad)
   | _=>.bad)=Res.ok d M':=e
  cases hM:M1[j]? with
  |none=>rw[hM] at e;cases e
  |some ob =>
   rw[hM] at e;cases ob with
   |ins ci fs =>
    have e:(match(W.cls[ci]?).bind λC=>C.meths.lookup mi with|some f=>W.call f (.ref j::ds) M2|none=>.bad)=Res.ok d M':=e;cases hL:(W.cls[ci]?).bind λC=>C.meths.lookup mi with
    |none=>rw[hL] at e;cases e
    |some g =>
     rw[hL] at e;have e:W.call g (.ref j::ds) M2=.ok d M':=e;obtain⟨cl',h1,h2⟩:=dm.mp hL;obtain⟨h3,rfl⟩:=a05 ci cl' h1 g h2;obtain⟨C',dx,l,g1,g2,g3⟩:=S1.obj j _ p hM hp;rw[h3] at g1;cases g1;have a8r:l.lookup m=none:=Xa Y7 g3;refine⟨p,dx,l,rfl,g2,a8r,W6 S1 R1 e2 fun ι2 H2 vs zy S2 R2 r2=>?_⟩;rw[zr];exact⟨ι2,M2,.ref j::ds,d,M',S2,.cons (r.mono zy) r2,by rw[gr,Jc e2,hlen],e,fun ι' H' v Yd S' r'=>q ι' H' v ((le.trans zy).trans Yd) S' r'⟩
   |_=>cases e
def a06:PE X (.Dict [] [] pos) (tE nm W X.K .ajs):=PE.of aop fun σ H Q ι ρ M d M' S R e q=>by
 rw[MW.amn] at e;cases e;intro p hp;obtain⟨S2,zy⟩:=S.new (o:=.dT []) (H':=upd H p (.dT [])) hp (λa u e=>by rw[j8 (kh e hp)];exact e) λ_=>⟨[],wj,.nil⟩
 exact q _ _ _ zy S2 (.ref (by show(ι.l++[p])[M.length]?=some p;rw[<- S.len];simp))
def a07:PE X (.Dict [] [] pos) (tE nm W X.K .aak):=PE.of aoo fun σ H Q ι ρ M d M' S R e q=>by
 rw[MW.amo] at e;cases e;intro p hp;obtain⟨S2,zy⟩:=S.new (o:=.dK []) (H':=upd H p (.dK [])) hp (λa u e=>by rw[j8 (kh e hp)];exact e) λ_=>⟨[],wj,.nil⟩
 exact q _ _ _ zy S2 (.ref (by show(ι.l++[p])[M.length]?=some p;rw[<- S.len];simp))
def bes(nm:Nm)(K:Fg):azq:=λo i v H Q=>∃ι M x y d M',m5 nm K ι H M/\Rep K ι H x o/\Rep K ι H y i/\Rep K ι H d v/\MW.setOp x y d M=some M'/\∀H',Le ι H ι H'->m5 nm K ι H' M'->Q H'
def Xb(h:n<100000):n<sizeLine:=gm h Sd
set_option tactic.hygienic true in
def aus(hu:X.A.units+1<cLine):azr X (bes nm X.K):=by
 intro pins s σ H o i v ov iv u Q I ro ri rv hh;obtain⟨ι,M,x,y,d,M',S,rx,ry,rd,e,q⟩:=hh;obtain⟨j,hx⟩:∃j,x=.ref j:=by cases x<;>first|exact⟨_,rfl⟩|cases e
 subst hx;obtain⟨p,rfl,hp⟩:∃p,o=.ref p/\ι.l[j]?=some p:=by cases rx with|ref z=>exact⟨_,rfl,z⟩
 simp only[MW.setOp] at e;split at e
 . rename_i xs hM
   split at e
   . rename_i k
     obtain⟨qq,e1,e2⟩:=cu.mp e;subst e2;cases ry;obtain⟨vs,h1,h2⟩:=S.obj j _ p hM hp;refine set_list pins s σ H _ _ v ov iv u Q I ro ri rv ⟨p,vs,k,qq,rfl,rfl,h1,by rw[<- h2.length];exact e1,?_⟩;obtain⟨S2,zy⟩:=S.put (u:=.lst (vs.set qq v)) (o:=.lst (xs.set qq d)) hM hp λle=>⟨_,wj,(h2.mono le).set (rd.mono le) qq⟩
     exact q _ zy S2
   . cases e
 . rename_i iw hM
   obtain⟨k,e1,e⟩:=dm.mp e;split at e<;>cases e;rename_i hl;obtain⟨l,h1,h2⟩:=S.obj j _ p hM hp;obtain⟨b,rfl,hb⟩:=W7 ry e1;cases ro;refine Zo (H':=upd H p (.dT (putK l k v))) (y:=.ref b) (v:=v) hu I (agl.t h1 hb (by rw[<- h2.length];exact Xb hl)) ri rv λs' I'=>⟨_,I',?_⟩
   obtain⟨S2,zy⟩:=S.put (u:=.dT (putK l k v)) (o:=.dT (MW.Cq iw k d)) hM hp λle=>⟨_,wj,(h2.mono le).put (rd.mono le)⟩
   exact q _ zy S2
 . rename_i iw hM
   obtain⟨k,e1,e⟩:=dm.mp e;split at e<;>cases e;rename_i hl;obtain⟨l,h1,h2⟩:=S.obj j _ p hM hp;have hy:=T9 ry e1;subst hy;cases ro;refine Zo (H':=upd H p (.dK (putK l k v))) (y:=kV k) (v:=v) hu I (agl.k h1 (by rw[<- h2.length];exact Xb hl)) ri rv λs' I'=>⟨_,I',?_⟩
   obtain⟨S2,zy⟩:=S.put (u:=.dK (putK l k v)) (o:=.dK (MW.Cq iw k d)) hM hp λle=>⟨_,wj,(h2.mono le).put (rd.mono le)⟩
   exact q _ zy S2
 . cases e
def Xc(h:Ua e=true)(t:Expr)(l:Nat)(env:Env):swapsWithSole [t] e l env=pure false:=by unfold swapsWithSole;exact O4 h _ _ _
def apc(e o b:Expr)(p:Pos)(l:Nat)(env:Env):swapsWithSole [.Subscript o b p] e l env=pure false:=by cases e<;>rfl
def apd(hu:X.A.units+1<cLine)(he:PE X a (tE nm W X.K a'))(ho:PE X o (tE nm W X.K o'))(hi:PE X b (tE nm W X.K b'))(ha:∀v,assign (.Subscript o b pos') X.env v=(do
 let ov <- holding [v] (eval o X.env)
 let iv <- holding [v,ov] (eval b X.env)
 standAt pos'
 holding [v,ov,iv] (setItem ov iv v)
 release [v,ov,iv] [])):PS X (.Assign [.Subscript o b pos'] a pos) (tS nm W X.K (.asg (.sub o' b') a')) :=
 PS.of (anu he (azt ho hi (aus (nm:=nm) hu) ha) (apc _ _ _ _ _ _) (by rfl) (by rfl)) λD σ H ι ρ M fl ρ' M' S R e q=>by
  rw[MW.aao] at e;obtain⟨x,M1,e1,e⟩:=fc e;obtain⟨ρ2,M2,e2,e⟩:=fc e;cases e;rw[MW.asx] at e2;obtain⟨y,M3,e3,e2⟩:=fc e2;obtain⟨z,M4,e4,e2⟩:=fc e2;obtain⟨M5,M6,e5,e6⟩:=fc e2;obtain⟨e7,e8⟩:=yo e5;subst e8;cases e6;refine one S R e1 fun ι1 H1 v le S1 R1 r=>?_
  refine one S1 R1 e3 fun ι2 H2 v2 zy S2 R2 r2=>one S2 R2 e4 fun ι3 H3 v3 Zu S3 R3 r3=>?_
  exact⟨ι3,_,y,z,x,_,S3,r2.mono Zu,r3,(r.mono zy).mono Zu,e7,λH' Yd S'=>q ι3 H' σ (((le.trans zy).trans Zu).trans Yd) S' (R3.mono Yd)⟩
set_option tactic.hygienic true in
def ape(hn:n=nm.fld f)(hcl:∀c C,nm.cls c=some C->Cls X.K C/\Hc X.K C n)(he:PE X a (tE nm W X.K a'))(ho:PE X o (tE nm W X.K o'))(Jg:Ua a=true) :
 PS X (.Assign [.Attribute o n pos'] a pos) (tS nm W X.K (.asg (.fld o' f) a')) :=
 PS.of (az7 ho he (O4 Jg _ _ _)) λD σ H ι ρ M fl ρ' M' S R e q=>by
  rw[MW.aao] at e;obtain⟨x,M1,e1,e⟩:=fc e;obtain⟨ρ2,M2,e2,e⟩:=fc e;cases e;rw[MW.asy] at e2;obtain⟨y,M3,e3,e2⟩:=fc e2;obtain⟨M5,M6,e5,e6⟩:=fc e2;obtain⟨e7,e8⟩:=yo e5;subst e8;cases e6;refine one S R e1 fun ι1 H1 v le S1 R1 r=>one S1 R1 e3 fun ι2 H2 v2 zy S2 R2 r2=>?_
  obtain⟨j,hx⟩:∃j,y=.ref j:=by cases y<;>first|exact⟨_,rfl⟩|cases e7
  subst hx;obtain⟨p,rfl,hp⟩:∃p,v2=.ref p/\ι2.l[j]?=some p:=by cases r2 with|ref z=>exact⟨_,rfl,z⟩
  simp only[MW.Rc] at e7;split at e7
  . rename_i c fs hM
    have hl:fs.length<1000:=by
     by_cases z:fs.length<1000
     . exact z
     . rw[bx z] at e7;cases e7
    rw[cg hl] at e7;cases e7;obtain⟨C,dx,l,h1,h2,h3⟩:=S2.obj j _ p hM hp;subst hn;obtain⟨g1,g2⟩:=hcl c C h1;refine⟨p,C,dx,l,rfl,h2,g1,g2,by rw[<- h3.length];exact hl,?_⟩;obtain⟨S3,Zu⟩:=S2.put (u:=.ins C dx (Jj (nm.fld f) v l)) (o:=.ins c (MW.Uk f x fs)) hM hp λYd=>⟨C,dx,_,h1,wj,(h3.mono Yd).Jj ((r.mono zy).mono Yd)⟩
    exact q ι2 _ σ ((le.trans zy).trans Zu) S3 (R2.mono Zu)
  . cases e7
def Bx.weak(h:Bx X f r)(w:∀xs H Q,r' xs H Q->r xs H Q):Bx X f r':=λpins s σ H xs us Q I rs q=>h pins s σ H xs us Q I rs (w xs H Q q)
def rB(nm:Nm)(K:Fg)(b:Blt):List V->Hp->VK->Prop:=λvs H Q=>∃ι M ds d M',m5 nm K ι H M/\lg K ι H ds vs/\MW.uh b ds M=.ok d M'/\∀ι' H' v,Le ι H ι' H'->m5 nm K ι' H' M'->Rep K ι' H' d v->Q v H'
def Bx.of(h:Bx X f r)(w:∀vs H Q ι M ds d M',m5 nm X.K ι H M->lg X.K ι H ds vs->MW.uh bb ds M=.ok d M'->(∀ι' H' v,Le ι H ι' H'->m5 nm X.K ι' H' M'->Rep X.K ι' H' d v->Q v H')->r vs H Q):Bx X f (rB nm X.K bb) :=
 Bx.weak h λvs H Q ⟨ι,M,ds,d,M',S,r,e,q⟩=>w vs H Q ι M ds d M' S r e q
def ad9{X:Cx}:∀σ H Q,tE nm W X.K (.blt t es') σ H Q->tCB (rB nm X.K t) (Yc nm W X.K es') σ H Q:=fun σ H Q hh=>by obtain⟨ι,ρ,M,d,M',S,R,e,q⟩:=hh;rw[MW.aan] at e;obtain⟨ds,M1,e1,e⟩:=fc e;exact W6 S R e1 fun ι1 H1 vs le S1 R1 r=>⟨ι1,M1,ds,d,M',S1,r,e,fun ι' H' v Yd S' r'=>q ι' H' v (le.trans Yd) S' r'⟩
def aij{id:String}(hc:Bx X (.builtin id) (rB nm X.K t))(hg:Gl X x)(hm:X.mg x=none)(hv:bootBuiltins x=some (.builtin id))(ha:PA X (a::es) (Yc nm W X.K es'))(hn:x≠"__name__")(Ux:(x==("__debug__" : Str))=false)(he:starEach (a::es) X.env=(false,eval a X.env)::starEach es X.env)(Jg:(backTo pos (starEach es X.env)).any (·.1)=false):PE X (.Call (.Name x p) (a::es) [] pos) (tE nm W X.K (.blt t es')):=PE.weak (aoj hc hg hm hv ha hn Ux he Jg) ad9
def agu(hc:Bx X (.type T) (rB nm X.K t))(hg:Gl X x)(hm:X.mg x=none)(hv:bootBuiltins x=some (.type T))(ha:PA X (a::es) (Yc nm W X.K es'))(hn:x≠"__name__")(Ux:(x==("__debug__" : Str))=false)(he:starEach (a::es) X.env=(false,eval a X.env)::starEach es X.env)(Jg:(backTo pos (starEach es X.env)).any (·.1)=false):PE X (.Call (.Name x p) (a::es) [] pos) (tE nm W X.K (.blt t es')):=PE.weak (akk hc hg hm hv ha hn Ux he Jg) ad9
def J5(r:lg K ι H ds vs)(h:ds=[d]):∃v,vs=[v]/\Rep K ι H d v:=by subst h;cases r with|cons h t=>cases t;exact⟨_,rfl,h⟩
def aut:Bx X (.type "tuple") (rB nm X.K .tuple):=Bx.of Yr λvs H Q ι M ds d M' S r e q=>by
 cases r with
 |nil=>simp[MW.uh] at e
 |@cons x v _ _ h t =>
  cases t with
  |cons h2 t2=>simp[MW.uh] at e
  |nil =>
   have e:Res.u9 ((MW.Aw M x).map MW.D.tup) M=.ok d M':=e;obtain⟨e1,e2⟩:=yo e;subst e2;obtain⟨xs,e3,rfl⟩:=cu.mp e1;obtain⟨p,us,rfl,hp,ru⟩:=Hr S h e3;rcases hp with hp|hp
   . refine⟨p,us,rfl,.inl ⟨Hm.of hp,λl hl=>?_⟩⟩
     obtain⟨S2,zy,r2⟩:=J2 S hl ru;exact q ι _ _ zy S2 r2
   . exact⟨p,us,rfl,.inr ⟨Dw.of hp,q ι H _ (Le.refl _ _) S (.tup hp ru)⟩⟩
def a08:Bx X (.type "list") (rB nm X.K .list):=Bx.of abe λvs H Q ι M ds d M' S r e q=>by
 cases r with
 |nil=>simp[MW.uh] at e
 |@cons x v _ _ h t =>
  cases t with
  |cons h2 t2=>simp[MW.uh] at e
  |nil =>
   have e:(match MW.Aw M x with|some ds=>MW.new (.lst ds) M|none=>.bad)=Res.ok d M':=e;cases e3:MW.Aw M x with
   |none=>rw[e3] at e;cases e
   |some xs =>
    rw[e3] at e;cases e;obtain⟨p,us,rfl,hp,ru⟩:=Hr S h e3;refine⟨p,us,rfl,hp.imp Hm.of Dw.of,λl hl=>?_⟩;obtain⟨S2,zy,r2⟩:=Vv S hl ru;exact q _ _ _ zy S2 r2
set_option tactic.hygienic true in
def a8s:Bx X (.builtin "len") (rB nm X.K .len):=Bx.of abd λvs H Q ι M ds d M' S r e q=>by
 cases r with
 |nil=>simp[MW.uh] at e
 |@cons x v _ _ h t =>
  cases t with
  |cons h2 t2=>simp[MW.uh] at e
  |nil =>
   have fin:∀xs,(MW.Aw M x=some xs)->d=.int xs.length->M'=M->∃p ys,[v]=[V.ref p]/\(Hm X.K H p ys\/Dw X.K H p ys)/\Q (.int ys.length) H:=λxs e3 e1 e2=>by subst e1 e2;obtain⟨p,us,rfl,hp,ru⟩:=Hr S h e3;exact⟨p,us,rfl,hp.imp Hm.of Dw.of,by rw[<- ru.length];exact q ι H _ (Le.refl _ _) S (.int _)⟩
   cases h with
   |fz e1 r1 =>
    cases e;exact⟨_,_,rfl,.inl e1.sq,by rw[<- r1.length];exact q ι H _ (Le.refl _ _) S (.int _)⟩
   |@ref n p e1 =>
    have e:(match M[n]? with|some (.lst ds)=>Res.ok (MW.D.int ds.length) M|_=>.bad)=Res.ok d M':=e;split at e
    . rename_i ds hM
      cases e;exact fin ds (by simp[MW.Aw,MW.fu,hM]) rfl rfl
    . cases e
   |tup e1 r1=>cases e;exact fin _ rfl rfl rfl|vl e1 n1 r1=>cases e;exact fin _ rfl rfl rfl|_=>cases e
open MW
noncomputable def Hi(f:Dv->Dv->Option Bool)(as bs:List Dv)(j:Nat):Bool:=match as[j]?,bs[j]? with
 |some a,some b=>(f a b).getD false|_,_=>false
set_option tactic.hygienic true in
theorem Jd{f:Dv->Dv->Option Bool}:∀{as bs:List Dv}{r:Bool},MW.Q8 f as bs=some r->(∀(j:Nat) a b,as[j]?=some a->bs[j]?=some b->∃c,f a b=some c) /\
 r=((List.range (min as.length bs.length)).all (Hi f as bs)&&as.length==bs.length)
 |[],[],r,h=>by cases h;exact⟨λj a b e=>by simp at e,by simp⟩
 |[],b::bs,r,h=>by cases h;exact⟨λj a b e=>by simp at e,by simp⟩
 |a::as,[],r,h=>by cases h;exact⟨λj a b _ e=>by simp at e,by simp⟩
 |a::as,b::bs,r,h=>by
  simp only[MW.Q8] at h;split at h
  . rename_i x y h1 h2
    cases h;obtain⟨g1,g2⟩:=Jd h2;refine⟨λj a' b' e1 e2=>?_,?_⟩
    . cases j with
      |zero=>simp at e1 e2;subst e1 e2;exact⟨x,h1⟩|succ j=>exact g1 j a' b' (by simpa using e1) (by simpa using e2)
    . rw[gr,gr,Nat.succ_min_succ,List.range_succ_eq_map,List.all_cons,List.all_map]
      have z:Hi f (a::as) (b::bs) 0=x:=by simp[Hi,h1]
      have z2:(Hi f (a::as) (b::bs) ∘ Nat.succ)=Hi f as bs:=by funext j;simp[Hi]
      rw[z,z2,g2];have z3:(as.length+1==bs.length+1)=(as.length==bs.length):=by
       by_cases q:as.length=bs.length
       . simp[q]
       . have:¬(as.length+1=bs.length+1):=by lia
         simp[q,this]
      rw[z3,Bool.and_assoc]
  . cases h
set_option tactic.hygienic true in
theorem O5{ι:Io}{H:Hp}{K:Fg}{f:Dv->Dv->Option Bool}(hf:∀x y v r,Rep K ι H x v->Rep K ι H y v->f x y=some r->r=true):∀{as bs:List Dv}{vs:List V}{r:Bool},lg K ι H as vs->lg K ι H bs vs->MW.Q8 f as bs=some r->r=true
 |_,_,_,_,.nil,.nil,h=>by cases h;rfl
 |_,_,_,_,.cons h1 t1,.cons h2 t2,h=>by
  simp only[MW.Q8] at h;split at h
  . rename_i x y e1 e2
    cases h;rw[hf _ _ _ _ h1 h2 e1,O5 hf t1 t2 e2];rfl
  . cases h
inductive EqI(M:cj)(f:Dv->Dv->Option Bool):Dv->Dv->Bool->Prop
 |non:EqI M f .non .non true
 |bl (a b:Bool):EqI M f (.bl a) (.bl b) (a==b)
 |int (a b:Int):EqI M f (.int a) (.int b) (decide (a=b))
 |str (a b:Str):EqI M f (.str a) (.str b) (decide (a=b))
 |tup {as bs:List Dv} {r:Bool} (h:MW.Q8 f as bs=some r):EqI M f (.tup as) (.tup bs) r
 |lst {x y:Dv} {as bs:List Dv} {r:Bool} (h1:MW.fu M x=some as) (h2:MW.fu M y=some bs) (h:(if as.length=bs.length then MW.Q8 f as bs else some false)=some r):EqI M f x y r
set_option tactic.hygienic true in
def abl(h:MW.Kl M (k+1) x y=some r):EqI M (MW.Kl M k) x y r:=by
 unfold MW.Kl at h;split at h
 . cases h;exact .int _ _
 . cases h;exact .bl _ _
 . cases h;exact .str _ _
 . cases h;exact .non
 . exact .tup h
 . split at h
   . rename_i h1 h2;exact .lst h1 h2 h
   . cases h
def aea{X:Cx}(S:m5 nm X.K ι H M)(rx:Rep X.K ι H x v)(ry:Rep X.K ι H y v)(h1:MW.fu M x=some ds)(h2:MW.fu M y=some es):∃vs,lg X.K ι H ds vs/\lg X.K ι H es vs:=by obtain⟨p,vs,rfl,g1,g2⟩:=qx S rx h1;obtain⟨p',ws,hw,g3,g4⟩:=qx S ry h2;cases hw;rw[g1] at g3;cases g3;exact⟨vs,g2,g4⟩
theorem abm{nm:Nm}{ι:Io}{H:Hp}{M:cj}{X:Cx}(S:m5 nm X.K ι H M):∀(k:Nat)(x y:Dv)(v:V)(r:Bool),Rep X.K ι H x v->Rep X.K ι H y v->MW.Kl M k x y=some r->r=true
 |0,_,_,_,_,_,_,h=>by cases h
 |k+1,x,y,v,r,rx,ry,h=>by
  have ih:=abm S k;cases abl h with
  |non=>rfl|bl a b=>cases rx;cases ry;simp|int a b=>cases rx;cases ry;simp|str a b=>cases rx;cases ry;simp
  |tup h=>cases rx with
   |tup e1 r1=>cases ry with
    |tup e2 r2=>rw[e1] at e2;cases e2;exact O5 ih r1 r2 h
  |lst h1 h2 h3 =>
   obtain⟨vs,r1,r2⟩:=aea S rx ry h1 h2;rw[cg (r1.length.trans r2.length.symm)] at h3;exact O5 ih r1 r2 h3
def Vals.aeb{j:Nat}(r:Vals xs us)(h1:xs[j]?=some v)(h2:us[j]?=some u):RelV v u:=by obtain⟨u',e1,e2⟩:=L2.Vals.get r h1;rw[h2] at e1;cases e1;exact e2
theorem Q3{ι:Io}{H:Hp}{K:Fg}:∀{l:List (List Kx×Dv)}{l':List (List Key×V)},qy K ι H (λk k'=>k=k') l l'->l'.map (·.1)=l.map (·.1)
 |_,_,.nil=>rfl|_,_,.cons k h t=>by simp[Q3 t,k]
def aik(r:KT H l xs):xs.map (·.1)=l.map (·.1)/\∀x∈xs,H x.2.1=some (.tup (x.1.map kV)):=by
 induction r with
 |nil=>exact⟨rfl,by simp⟩
 |@cons p q ps qs hq t ih =>
  refine⟨by simp[ih.1,hq.1],λx hx=>?_⟩;rcases bw.mp hx with rfl|hx
  . rw[<- hq.1];exact hq.2.1
  . exact ih.2 x hx
set_option tactic.hygienic true in
theorem Xd{nm:Nm}{X:Cx}{ι:Io}{H:Hp}{σ:St}{M:cj}{pins:Zp}{s:Shared}(I:Inv X pins σ H s)(S:m5 nm X.K ι H M):∀(k:Nat)(A:Around)(x y:Dv)(v u:V)(v' u':Value)(r:Bool),Af k A->Rep X.K ι H x v->Rep X.K ι H y u->RelV v v'->RelV u u'->MW.Kl M k x y=some r->SeqAt.EqAt A s v' u' r
 |0,_,_,_,_,_,_,_,_,_,_,_,_,_,h=>by cases h
 |k+1,A,x,y,v,u,v',u',r,hr,rx,ry,rv,ru,h=>by
  have ih:=Xd I S k A.in1;have hr1:=hr.in1;have elems:∀(ds es:List Dv)(vs ws:List V)(is js:Zl)(rr:Bool),lg X.K ι H ds vs->lg X.K ι H es ws->Vals vs is->Vals ws js->MW.Q8 (MW.Kl M k) ds es=some rr ->
   ∀j (h1:j<is.toArray.size) (h2:j<js.toArray.size),SeqAt.EqAt A.in1 s is.toArray[j] js.toArray[j] (Hi (MW.Kl M k) ds es j):=λds es vs ws is js rr rd re Yt rws he j h1 h2=>by
   have l1:j<ds.length:=by rw[rd.length,Yt.length];simpa using h1
   have l2:j<es.length:=by rw[re.length,rws.length];simpa using h2
   have g1:ds[j]?=some ds[j]:=by simp[l1]
   have g2:es[j]?=some es[j]:=by simp[l2]
   obtain⟨c,hc⟩:=(Jd he).1 j _ _ g1 g2;obtain⟨va,a1,a2⟩:=rd.get g1;obtain⟨wa,b1,b2⟩:=re.get g2;have q1:is[j]?=some is.toArray[j]:=by simp
   have q2:js[j]?=some js.toArray[j]:=by simp
   have:=ih _ _ va wa _ _ c hr1 a2 b2 (Vals.aeb Yt a1 q1) (Vals.aeb rws b1 q2) hc;have z:Hi (MW.Kl M k) ds es j=c:=by simp[Hi,g1,g2,hc]
   rw[z];exact this
  have lists:∀(p p2:Addr)(ds es:List Dv),v=.ref p->u=.ref p2->MW.fu M x=some ds->MW.fu M y=some es->(if ds.length=es.length then MW.Q8 (MW.Kl M k) ds es else some false)=some r->SeqAt.EqAt A s v' u' r:=λp p2 ds es hv hu h1 h2 h3=>by
   subst hv hu;cases rv;cases ru;obtain⟨_,vs,hv,g1,g2⟩:=qx S rx h1;cases hv;obtain⟨_,ws,hw,g3,g4⟩:=qx S ry h2;cases hw
   by_cases hpp:p=p2
   . subst hpp
     have:r=true:=by rw[g1] at g3;cases g3;rw[cg (g2.length.trans g4.length.symm)] at h3;exact O5 (λx y v r a b c=>abm S k x y v r a b c) g2 g4 h3
     rw[this];exact SeqAt.EqAt.same _
   . refine SeqAt.EqAt.of_refs hpp ?_
     obtain⟨is,r1,pl1,_⟩:=I.list (Hm.of g1);obtain⟨js,r2,pl2,_⟩:=I.list (Hm.of g3)
     by_cases hl:ds.length=es.length
     . rw[cg hl] at h3
       have hsz:is.toArray.size=js.toArray.size:=by simp[<- r1.length,<- r2.length,<- g2.length,<- g4.length,hl]
       have:=SeqAt.RcAt.lists (e:=Hi (MW.Kl M k) ds es) pl1.isList pl2.isList hsz hr.Wu (elems ds es vs ws is js r g2 g4 r1 r2 h3);rw[(Jd h3).2];have e1:is.toArray.size=min ds.length es.length:=by simp[<- r1.length,<- g2.length,hl]
       rw[e1] at this;simpa[hl] using this
     . rw[bx hl] at h3
       cases h3;exact SeqAt.RcAt.lists_lengths pl1.isList pl2.isList (by simp[<- r1.length,<- r2.length,<- g2.length,<- g4.length,hl]) hr.Wu
  cases abl h with
  |non=>cases rx;cases ry;cases rv;cases ru;exact SeqAt.EqAt.same _|bl a b=>cases rx;cases ry;cases rv;cases ru;exact SeqAt.EqAt.bool_bool _ _
  |int a b =>
   cases rx;cases ry;obtain⟨t,rfl⟩:=rv;obtain⟨t2,rfl⟩:=ru;rw[<- Bool.beq_eq_decide_eq];exact SeqAt.EqAt.int_int _ _ _ _
  |str a b =>
   cases rx;cases ry;obtain⟨t,rfl⟩:=rv;obtain⟨t2,rfl⟩:=ru;rw[<- Bool.beq_eq_decide_eq];exact SeqAt.EqAt.str_str _ _ _ _
  |@tup ds es _ h=>cases rx with
   |@tup p _ vs e1 r1=>cases ry with
    |@tup p2 _ ws e2 r2 =>
     cases rv;cases ru
     by_cases hpp:p=p2
     . subst hpp
       have:r=true:=by rw[e1] at e2;cases e2;exact O5 (λx y v r a b c=>abm S k x y v r a b c) r1 r2 h
       rw[this];exact SeqAt.EqAt.same _
     . refine SeqAt.EqAt.of_refs hpp ?_
       obtain⟨is,g1,pl1,_⟩:=I.tuple (Dw.of e1);obtain⟨js,g2,pl2,_⟩:=I.tuple (Dw.of e2);have:=SeqAt.RcAt.tuples (e:=Hi (MW.Kl M k) ds es) (show s.heap.IsTuple p is.toArray from pl1) (show s.heap.IsTuple p2 js.toArray from pl2) hr.Wu (elems ds es vs ws is js r r1 r2 g1 g2 h);rw[(Jd h).2];have z1:is.toArray.size=ds.length:=by simp[<- g1.length,<- r1.length]
       have z2:js.toArray.size=es.length:=by simp[<- g2.length,<- r2.length]
       rw[z1,z2] at this;exact this
  |lst h1 h2 h3 =>
   obtain⟨p,_,e1,_⟩:=qx S rx h1;obtain⟨p2,_,e2,_⟩:=qx S ry h2;exact lists p p2 _ _ e1 e2 h1 h2 h3
inductive abn(A:Around)(s:Shared):Value->Value->Bool->Prop
 |Ws {p p2:Addr} {is js:U1} (e:Nat->Bool) (h1:s.heap.IsTuple p is) (h2:s.heap.IsTuple p2 js) (he:∀j (h1:j<is.size) (h2:j<js.size),SeqAt.EqAt A.in1 s is[j] js[j] (e j)):abn A s (.ref p) (.ref p2) ((List.range (min is.size js.size)).all e&&is.size==js.size)
 |a8u {p p2:Addr} {is js:U1} (e:Nat->Bool) (h1:s.heap.IsList p is) (h2:s.heap.IsList p2 js) (hz:is.size=js.size) (he:∀j (h1:j<is.size) (h2:j<js.size),SeqAt.EqAt A.in1 s is[j] js[j] (e j)):abn A s (.ref p) (.ref p2) ((List.range is.size).all e)
 |lens {p p2:Addr} {is js:U1} (h1:s.heap.IsList p is) (h2:s.heap.IsList p2 js) (hz:(is.size != js.size)=true):abn A s (.ref p) (.ref p2) false
def Zy{A:Around}(I:Inv X pins σ H s)(S:m5 nm X.K ι H M)(hr:Af k A.in1)(rd:lg X.K ι H ds vs)(re:lg X.K ι H es ws)(Yt:Vals vs is)(rws:Vals ws js)(he:MW.Q8 (MW.Kl M k) ds es=some rr) :
 ∀j (h1:j<is.toArray.size) (h2:j<js.toArray.size),SeqAt.EqAt A.in1 s is.toArray[j] js.toArray[j] (Hi (MW.Kl M k) ds es j):=λj h1 h2=>by
 have l1:j<ds.length:=by rw[rd.length,Yt.length];simpa using h1
 have l2:j<es.length:=by rw[re.length,rws.length];simpa using h2
 have g1:ds[j]?=some ds[j]:=by simp[l1]
 have g2:es[j]?=some es[j]:=by simp[l2]
 obtain⟨c,hc⟩:=(Jd he).1 j _ _ g1 g2;obtain⟨va,a1,a2⟩:=rd.get g1;obtain⟨wa,b1,b2⟩:=re.get g2;have q1:is[j]?=some is.toArray[j]:=by simp
 have q2:js[j]?=some js.toArray[j]:=by simp
 have:=Xd I S k A.in1 _ _ va wa _ _ c hr a2 b2 (Vals.aeb Yt a1 q1) (Vals.aeb rws b1 q2) hc;have z:Hi (MW.Kl M k) ds es j=c:=by simp[Hi,g1,g2,hc]
 rw[z];exact this
def agv(I:Inv X pins σ H s)(S:m5 nm X.K ι H M)(hr:Af k A.in1)(rx:Rep X.K ι H x v)(ry:Rep X.K ι H y u)(rv:RelV v v')(ru:RelV u u')(h1:MW.fu M x=some ds)(h2:MW.fu M y=some es)(h3:(if ds.length=es.length then MW.Q8 (MW.Kl M k) ds es else some false)=some r):abn A s v' u' r:=by
 obtain⟨p,vs,rfl,g1,g2⟩:=qx S rx h1;obtain⟨p2,ws,rfl,g3,g4⟩:=qx S ry h2;cases rv;cases ru;obtain⟨is,r1,pl1,_⟩:=I.list (Hm.of g1);obtain⟨js,r2,pl2,_⟩:=I.list (Hm.of g3)
 by_cases hl:ds.length=es.length
 . rw[cg hl] at h3
   have hsz:is.toArray.size=js.toArray.size:=by simp[<- r1.length,<- r2.length,<- g2.length,<- g4.length,hl]
   have z:=abn.a8u (A:=A) (Hi (MW.Kl M k) ds es) pl1.isList pl2.isList hsz (Zy I S hr g2 g4 r1 r2 h3);rw[(Jd h3).2];have e1:is.toArray.size=min ds.length es.length:=by simp[<- r1.length,<- g2.length,hl]
   rw[e1] at z;simpa[hl] using z
 . rw[bx hl] at h3
   cases h3;exact .lens pl1.isList pl2.isList (by simp[<- r1.length,<- r2.length,<- g2.length,<- g4.length,hl])
set_option tactic.hygienic true in
def aec(I:Inv X pins σ H s)(S:m5 nm X.K ι H M)(hr:Af k A.in1)(rx:Rep X.K ι H x v)(ry:Rep X.K ι H y u)(rv:RelV v v')(ru:RelV u u')(h:MW.Kl M (k+1) x y=some r) :
 abn A s v' u' r\/(az5 v u=true/\r=decide (v=u)):=by
 cases abl h with
 |non=>cases rx;cases ry;exact .inr ⟨rfl,by simp⟩|bl a b=>cases rx;cases ry;exact .inr ⟨rfl,by by_cases z:a=b<;>simp[z]⟩|int a b=>cases rx;cases ry;exact .inr ⟨rfl,by by_cases z:a=b<;>simp[z]⟩|str a b=>cases rx;cases ry;exact .inr ⟨rfl,by by_cases z:a=b<;>simp[z]⟩
 |@tup ds es _ h=>cases rx with
  |@tup p _ vs e1 r1=>cases ry with
   |@tup p2 _ ws e2 r2 =>
    cases rv;cases ru;obtain⟨is,g1,pl1,_⟩:=I.tuple (Dw.of e1);obtain⟨js,g2,pl2,_⟩:=I.tuple (Dw.of e2);have z:=abn.Ws (A:=A) (Hi (MW.Kl M k) ds es) (show s.heap.IsTuple p is.toArray from pl1) (show s.heap.IsTuple p2 js.toArray from pl2) (Zy I S hr r1 r2 g1 g2 h);rw[(Jd h).2];have z1:is.toArray.size=ds.length:=by simp[<- g1.length,<- r1.length]
    have z2:js.toArray.size=es.length:=by simp[<- g2.length,<- r2.length]
    rw[z1,z2] at z;exact .inl z
 |lst h1 h2 h3=>exact .inl (agv I S hr rx ry rv ru h1 h2 h3)
def abn.rc(h:abn A s v u r)(hu:A.units<cLine):SeqAt.RcAt A s v u r/\SeqAt.RcNeAt A s v u (!r):=by
 cases h with
 |Ws e h1 h2 he=>exact⟨SeqAt.RcAt.tuples h1 h2 hu he,SeqAt.RcNeAt.tuples h1 h2 hu he⟩|a8u e h1 h2 hz he=>exact⟨SeqAt.RcAt.lists h1 h2 hz hu he,SeqAt.RcNeAt.lists h1 h2 hz hu he⟩|lens h1 h2 hz=>exact⟨SeqAt.RcAt.lists_lengths h1 h2 hz hu,SeqAt.RcNeAt.lists_lengths h1 h2 hz hu⟩
def bet(hr:Af 6 X.A):Cz X (compareOp .Eq) (W4 nm X.K .eq):=λpins s σ H v u v' u' Q I rv ru hh=>by
 obtain⟨ι,M,x,y,b,S,rx,ry,e,q⟩:=hh;have e:MW.Kl M 6 x y=some b:=e;rcases aec (A:=X.A) I S hr.in1 rx ry rv ru e with h|⟨h1,h2⟩
 . exact(h.rc hr.Wu).1 X.prog X.w X.xe _ ⟨.bl b,H,I,rfl,q⟩
 . subst h2
   exact a6t pins s σ H v u v' u' Q I rv ru ⟨h1,q⟩
def beu(hr:Af 6 X.A):Cz X (compareOp .NotEq) (W4 nm X.K .ne):=λpins s σ H v u v' u' Q I rv ru hh=>by
 obtain⟨ι,M,x,y,b,S,rx,ry,e,q⟩:=hh;obtain⟨b',e1,e2⟩:=cu.mp (show(MW.vd M x y).map not=some b from e);subst e2;rcases aec (A:=X.A) I S hr.in1 rx ry rv ru (show MW.Kl M 6 x y=_ from e1) with h|⟨h1,h2⟩
 . exact(h.rc hr.Wu).2 X.prog X.w X.xe _ ⟨.bl !b',H,I,rfl,q⟩
 . subst h2
   exact a6u pins s σ H v u v' u' Q I rv ru ⟨h1,q⟩
section
variable{nm:Nm}{W:Jl}{X:Cx}{a b c o:Expr}{a' b' c' o':Ex}{pos pos' apos:Pos}{ι:Io}{H:Hp}{σ:St}{ρ:En}{M M1 M2:cj}{x y:Dv}{es:Ya}{es':Dl}
set_option tactic.hygienic true in
theorem Gh:∀{ds:List Dv}{bs:List Bool},MW.Qo M x ds=some bs->bs.length=ds.length/\∀(j:Nat) d,ds[j]?=some d->∃b,bs[j]?=some b/\MW.vd M d x=some b
 |[],bs,h=>by cases h;exact⟨rfl,λj d e=>by simp at e⟩
 |y::ys,bs,h=>by
  simp only[MW.Qo] at h;split at h
  . rename_i a b h1 h2
    cases h;obtain⟨g1,g2⟩:=Gh h2;refine⟨by simp[g1],λj d e=>?_⟩;cases j with
    |zero=>simp at e;subst e;exact⟨a,rfl,h1⟩|succ j=>simpa using g2 j d (by simpa using e)
  . cases h
def Ho(I:Inv X pins σ H s)(e:ags X.K H p vs):(∃o,H p=some (.Q0 o (.lst vs)))\/(H p=none/\∃(o:Obj)(xq:U1)(n:Nat),X.K.lookup p=some o/\o.data=.seq xq n/\Vals vs xq.toList):=by
 rcases e with h|⟨o,xq,n,h1,_,_,h2,_,h3⟩
 . exact .inl h
 . exact .inr ⟨(I.bs p o (I.mod.kin p o h1)).2,o,xq,n,h1,h2,h3⟩
def a1a(I:Inv X pins σ H s)(e:ags X.K H p vs)(e2:ags X.K H p ws):vs=ws:=by
 rcases Ho I e with⟨o,h⟩|⟨h,o,xq,n,h1,h2,h3⟩
 . rcases Ho I e2 with⟨o',h'⟩|⟨h',_⟩
   . rw[h] at h';cases h';rfl
   . rw[h] at h';cases h'
 . rcases Ho I e2 with⟨o',h'⟩|⟨_,o',its',n',h1',h2',h3'⟩
   . rw[h] at h';cases h'
   . rw[h1] at h1';cases h1'
     rw[h2] at h2';cases h2';exact Vals.inj h3 h3'
mutual
theorem ail{pins:Zp}{s:Shared}(I:Inv X pins σ H s)(S:m5 nm X.K ι H M):∀{d d':Dv}{v:V},Rep X.K ι H d v->Rep X.K ι H d' v->d=d'
 |_,_,_,.non,r=>by cases r;rfl|_,_,_,.bl b,r=>by cases r;rfl|_,_,_,.int i,r=>by cases r;rfl|_,_,_,.str z,r=>by cases r;rfl
 |_,_,_,.tup e1 r1,r=>by
  cases r with
  |tup e2 r2 =>
   rw[e1] at e2;cases e2;rw[Sq I S r1 r2]
  |vl e2 n2 r2=>rw[e1] at e2;cases e2
  |fz e2 r2 =>
   rcases Ho I e2 with⟨o,h⟩|⟨h,_⟩
   . rw[e1] at h;cases h
   . rw[e1] at h;cases h
  |ref e2 =>
   obtain⟨u,q,mu⟩:=S.mem (au e2);rw[e1] at mu;exact mu.elim
 |_,_,_,.vl e1 n1 r1,r=>by
  cases r with
  |tup e2 r2=>rw[e1] at e2;cases e2
  |vl e2 n2 r2 =>
   rw[e1] at e2;cases e2;rw[Sq I S r1 r2]
  |fz e2 r2 =>
   rcases Ho I e2 with⟨o,h⟩|⟨h,_⟩
   . rw[e1] at h;cases h
   . rw[e1] at h;cases h
  |ref e2=>exact absurd (au e2) n1.1
 |_,_,_,.fz e1 r1,r=>by
  cases r with
  |tup e2 r2 =>
   rcases Ho I e1 with⟨o,h⟩|⟨h,_⟩
   . rw[e2] at h;cases h
   . rw[e2] at h;cases h
  |vl e2 n2 r2 =>
   rcases Ho I e1 with⟨o,h⟩|⟨h,_⟩
   . rw[e2] at h;cases h
   . rw[e2] at h;cases h
  |fz e2 r2 =>
   have:=a1a I e1 e2;subst this;rw[Sq I S r1 r2]
  |ref e2 =>
   obtain⟨u,q,mu⟩:=S.mem (au e2);rcases Ho I e1 with⟨o,h⟩|⟨h,_⟩
   . rw[h] at mu;exact mu.elim
   . rw[h] at q;cases q
 |_,_,_,.ref e1,r=>by
  cases r with
  |tup e2 r2 =>
   obtain⟨u,q,mu⟩:=S.mem (au e1);rw[e2] at mu;exact mu.elim
  |vl e2 n2 r2=>exact absurd (au e1) n2.1
  |fz e2 r2 =>
   obtain⟨u,q,mu⟩:=S.mem (au e1);rcases Ho I e2 with⟨o,h⟩|⟨h,_⟩
   . rw[h] at mu;exact mu.elim
   . rw[h] at q;cases q
  |ref e2 =>
   obtain⟨l1,q1⟩:=ak.mp e1;obtain⟨l2,q2⟩:=ak.mp e2;rw[(Aq S.nd).mp (q1.trans q2.symm)]
theorem Sq{pins:Zp}{s:Shared}(I:Inv X pins σ H s)(S:m5 nm X.K ι H M):∀{ds ds':List Dv}{vs:List V},lg X.K ι H ds vs->lg X.K ι H ds' vs->ds=ds'
 |_,_,_,.nil,r=>by cases r;rfl
 |_,_,_,.cons h t,r=>by
  cases r with
  |cons h2 t2=>rw[ail I S h h2,Sq I S t t2]
end
def Ss(I:Inv X pins σ H s)(S:m5 nm X.K ι H M)(hr:Af 6 A)(rd:lg X.K ι H ds vs)(rv:Vals vs is)(rx:Rep X.K ι H x u)(ru:RelV u u')(h:MW.Qo M x ds=some bs):∃e:Value->Bool,(∀w,w∈is.toArray->SeqAt.EqAt A s w u' (e w))/\∀(j:Nat)(w:Value),is[j]?=some w->bs[j]?=some (e w):=by
 obtain⟨g1,g2⟩:=Gh h;have at':∀(j:Nat)(w:Value),is[j]?=some w->∃b,bs[j]?=some b/\SeqAt.EqAt A s w u' b:=λj w hw=>by
  have lj:j<ds.length:=by rw[rd.length,rv.length];exact(ak.mp hw).1
  have gd:ds[j]?=some ds[j]:=by simp[lj]
  obtain⟨b,e1,e2⟩:=g2 j _ gd;obtain⟨v,a1,a2⟩:=rd.get gd;exact⟨b,e1,Xd I S 6 A _ _ v u w u' b hr a2 rx (Vals.aeb rv a1 hw) ru e2⟩
 classical
 refine⟨λw=>if hw:∃j:Nat,is[j]?=some w then(bs[hw.choose]?).getD false else false,λw hw=>?_,λj w hw=>?_⟩
 . obtain⟨j,hj,e⟩:=qb (by simpa using hw:w∈is)
   have hex:∃j:Nat,is[j]?=some w:=⟨j,by simp[hj,e]⟩;obtain⟨b,e1,e2⟩:=at' hex.choose w hex.choose_spec;simp only[dif_pos hex,e1,Option.getD_some];exact e2
 . have hex:∃j:Nat,is[j]?=some w:=⟨j,hw⟩
   obtain⟨b,e1,e2⟩:=at' j w hw;obtain⟨b',e3,e4⟩:=at' hex.choose w hex.choose_spec;simp only[dif_pos hex,e3,Option.getD_some];rw[e1]
   congr 1
   have lj:j<ds.length:=by rw[rd.length,rv.length];exact(ak.mp hw).1
   have lk:hex.choose<ds.length:=by rw[rd.length,rv.length];exact(ak.mp hex.choose_spec).1
   have gd:ds[j]?=some ds[j]:=by simp[lj]
   have gk:ds[hex.choose]?=some ds[hex.choose]:=by simp[lk]
   obtain⟨c1,q1,q2⟩:=g2 j _ gd;obtain⟨c2,q3,q4⟩:=g2 hex.choose _ gk;obtain⟨v1,p1,p2⟩:=rd.get gd;obtain⟨v2,p3,p4⟩:=rd.get gk;have hv:v1=v2:=RelV.inj (Vals.aeb rv p1 hw) (Vals.aeb rv p3 hex.choose_spec);subst hv;rw[e1] at q1;rw[e3] at q3;cases q1;cases q3;have hd:=ail I S p2 p4;rw[hd,q4] at q2;exact(jq q2).symm
def Vx{is:Zl}{bs:List Bool}(hl:bs.length=is.length)(h:∀(j:Nat) (w:Value),is[j]?=some w->bs[j]?=some (e w)):bs=is.map e:=by
 apply Ab;intro j;rw[jd];cases q:is[j]? with
 |none=>rw[p8 (by rw[hl];exact List.getElem?_eq_none_iff.mp q)];rfl|some w=>rw[h j w q];rfl
set_option tactic.hygienic true in
def bev(hr:Af 8 X.A):Cz X (compareOp .In) (W4 nm X.K .inn):=λpins s σ H v u v' u' Q I rv ru hh=>by
 obtain⟨ι,M,x,y,b,S,rx,ry,e,q⟩:=hh;have e:MW.Py M x y=some b:=e;have hu:X.A.units+1<cLine:=adt hr
 have seq:∀ds,MW.Aw M y=some ds->MW.memD M x ds=some b->wpAny (model X.prog X.w) X.A (compareOp .In v' u') (EP X pins σ Q) X.xe s:=λds h1 h2=>by
  obtain⟨bs,e1,e2⟩:=cu.mp (show(MW.Qo M x ds).map (·.any id)=some b from h2);obtain⟨p,vs,rfl,hp,r⟩:=Hr S ry h1;cases ru;rcases hp with hp|hp
  . obtain⟨is,r1,pl,_⟩:=I.list (Hm.of hp)
    obtain⟨f,g1,g2⟩:=Ss (A:=X.A.in1) I S ((hr.mono (by decide:7<=8)).in1) r r1 rx rv e1;refine SeqAt.in_listAt f pl.isList g1 ?_;have:=Vx (by rw[(Gh e1).1,r.length,r1.length]) g2;rw[this] at e2;rw[show is.toArray.any f=b by rw[<- e2];simp[List.any_map]];exact⟨.bl b,H,I,rfl,q⟩
  . obtain⟨is,r1,pl,_⟩:=I.tuple (Dw.of hp)
    obtain⟨f,g1,g2⟩:=Ss (A:=X.A.in1) I S ((hr.mono (by decide:7<=8)).in1) r r1 rx rv e1;refine SeqAt.in_tupleAt f (show s.heap.IsTuple p is.toArray from pl) g1 ?_;have:=Vx (by rw[(Gh e1).1,r.length,r1.length]) g2;rw[this] at e2;rw[show is.toArray.any f=b by rw[<- e2];simp[List.any_map]];exact⟨.bl b,H,I,rfl,q⟩
 cases ry with
 |@ref n p e1 =>
  simp only[MW.Py] at e;split at e
  . rename_i iw hM
    obtain⟨k,e2,e3⟩:=cu.mp e;obtain⟨l,h1,h2⟩:=S.obj n _ p hM e1;obtain⟨bb,rfl,hb⟩:=W7 rx e2;cases ru;refine a7d hu I (O1.t h1 hb) rv λs' I'=>⟨.bl b,H,I',?_,q⟩
    rw[<- e3];cases hk:MW.vz iw k with
    |none=>rw[(h2.look (k:=k)).2 hk];rfl|some d=>obtain⟨z,h3,_⟩:=(h2.look (k:=k)).1 d hk;rw[h3];rfl
  . rename_i iw hM
    obtain⟨k,e2,e3⟩:=cu.mp e;obtain⟨l,h1,h2⟩:=S.obj n _ p hM e1;have hy:=T9 rx e2;subst hy;cases ru;refine a7d hu I (O1.k h1) rv λs' I'=>⟨.bl b,H,I',?_,q⟩
    rw[<- e3];cases hk:MW.vz iw k with
    |none=>rw[(h2.look (k:=k)).2 hk];rfl|some d=>obtain⟨z,h3,_⟩:=(h2.look (k:=k)).1 d hk;rw[h3];rfl
  . obtain⟨ds,h1,h2⟩:=dm.mp e
    exact seq ds h1 h2
 |_ =>
  simp only[MW.Py] at e;obtain⟨ds,h1,h2⟩:=dm.mp e;exact seq ds h1 h2
set_option tactic.hygienic true in
def auu(hr:Af 8 X.A):Cz X (compareOp .NotIn) (W4 nm X.K .Ra):=λpins s σ H v u v' u' Q I rv ru hh=>by
 obtain⟨ι,M,x,y,b0,S,rx,ry,e,q⟩:=hh;obtain⟨b,e',eb⟩:=cu.mp (show(MW.Py M x y).map not=some b0 from e);subst eb;have hu:X.A.units+1<cLine:=adt hr
 have seq:∀ds,MW.Aw M y=some ds->MW.memD M x ds=some b->wpAny (model X.prog X.w) X.A (compareOp .NotIn v' u') (EP X pins σ Q) X.xe s:=λds h1 h2=>by
  obtain⟨bs,e1,e2⟩:=cu.mp (show(MW.Qo M x ds).map (·.any id)=some b from h2);obtain⟨p,vs,rfl,hp,r⟩:=Hr S ry h1;cases ru;rcases hp with hp|hp
  . obtain⟨is,r1,pl,_⟩:=I.list (Hm.of hp)
    obtain⟨f,g1,g2⟩:=Ss (A:=X.A.in1) I S ((hr.mono (by decide:7<=8)).in1) r r1 rx rv e1;refine SeqAt.notIn_listAt f pl.isList g1 ?_;have:=Vx (by rw[(Gh e1).1,r.length,r1.length]) g2;rw[this] at e2;rw[show is.toArray.any f=b by rw[<- e2];simp[List.any_map]];exact⟨.bl !b,H,I,rfl,q⟩
  . obtain⟨is,r1,pl,_⟩:=I.tuple (Dw.of hp)
    obtain⟨f,g1,g2⟩:=Ss (A:=X.A.in1) I S ((hr.mono (by decide:7<=8)).in1) r r1 rx rv e1;refine SeqAt.notIn_tupleAt f (show s.heap.IsTuple p is.toArray from pl) g1 ?_;have:=Vx (by rw[(Gh e1).1,r.length,r1.length]) g2;rw[this] at e2;rw[show is.toArray.any f=b by rw[<- e2];simp[List.any_map]];exact⟨.bl !b,H,I,rfl,q⟩
 cases ry with
 |@ref n p e1 =>
  clear e;simp only[MW.Py] at e';split at e'
  . rename_i iw hM
    obtain⟨k,e2,e3⟩:=cu.mp e';obtain⟨l,h1,h2⟩:=S.obj n _ p hM e1;obtain⟨bb,rfl,hb⟩:=W7 rx e2;cases ru;refine ah5 hu I (O1.t h1 hb) rv λs' I'=>⟨.bl !b,H,I',?_,q⟩
    rw[<- e3];cases hk:MW.vz iw k with
    |none=>rw[(h2.look (k:=k)).2 hk];rfl|some d=>obtain⟨z,h3,_⟩:=(h2.look (k:=k)).1 d hk;rw[h3];rfl
  . rename_i iw hM
    obtain⟨k,e2,e3⟩:=cu.mp e';obtain⟨l,h1,h2⟩:=S.obj n _ p hM e1;have hy:=T9 rx e2;subst hy;cases ru;refine ah5 hu I (O1.k h1) rv λs' I'=>⟨.bl !b,H,I',?_,q⟩
    rw[<- e3];cases hk:MW.vz iw k with
    |none=>rw[(h2.look (k:=k)).2 hk];rfl|some d=>obtain⟨z,h3,_⟩:=(h2.look (k:=k)).1 d hk;rw[h3];rfl
  . obtain⟨ds,h1,h2⟩:=dm.mp e'
    exact seq ds h1 h2
 |_ =>
  simp only[MW.Py] at e';obtain⟨ds,h1,h2⟩:=dm.mp e';exact seq ds h1 h2
end
open Yy (Di Ti)
def KH(H:Hp)(x:List Key×Addr):Prop:=H x.2=some (.tup (x.1.map kV))/\∀k∈x.1,∃i,k=.inl i
def aed(P:Program)(w:World)(H:Hp):Yy.Th (nq P w) (KH H):=λx hx k hk v n hv=>by
 obtain⟨i,rfl⟩:=hx.2 k hk;rcases Ba (show Wr (Sum.inl i) v=true from hv) with⟨j,t,e,rfl⟩|⟨y,t,e,_⟩
 . unfold hashByValue;rfl
 . cases e
def T4:∀ks:List Kx,MW.Vd (MW.amk ks)=some ks:=λks=>by
 show MW.aal (ks.map MW.amj)=some ks
 induction ks with
 |nil=>rfl|cons k ks ih=>cases k<;>simp[MW.aal,MW.amj,MW.Tp,ih]
theorem Xe:∀{l:List (List Kx×Dv)},MW.Ea (l.map λp=>MW.amk p.1)=some (l.map (·.1))
 |[]=>rfl|p::l=>by simp[MW.Ea,T4,Xe]
set_option tactic.hygienic true in
theorem aim{ι:Io}{H:Hp}{K:Fg}:∀{ds:List Dv}{vs:List V}{ks:List (List Kx)},lg K ι H ds vs->MW.Ea ds=some ks->∃bs:List Addr,vs=bs.map V.ref/\bs.length=ks.length/\∀x∈ks.zip bs,H x.2=some (.tup (x.1.map kV))
 |_,_,_,.nil,h=>by simp[MW.Ea] at h;subst h;exact⟨[],rfl,rfl,by simp⟩
 |_,_,_,.cons r t,h=>by
  simp only[MW.Ea] at h;split at h
  . rename_i k ks' h1 h2
    cases h;obtain⟨b,rfl,e⟩:=W7 r h1;obtain⟨bs,rfl,hl,hz⟩:=aim t h2;refine⟨b::bs,rfl,by simp[hl],λx hx=>?_⟩;simp only[List.zip_cons_cons,bw] at hx;rcases hx with rfl|hx
    . exact e
    . exact hz x hx
  . cases h
def akx(h:MW.Eb ks=true):ks.length<=30/\∀k∈ks,∀x∈k,∃i,x=Sum.inl i:=by
 simp only[MW.Eb,aq,di,gq] at h;refine⟨h.1,λk hk x hx=>?_⟩;have:=h.2 k hk x hx;cases x with
 |inl i=>exact⟨i,rfl⟩|inr s=>cases this
set_option tactic.hygienic true in
def aph(hr:Af 8 X.A)(I:Inv X pins σ H s)(S:m5 nm X.K ι H M)(rx:Rep X.K ι H x v)(ru:RelV v u)(hk:MW.keysOf M x=some ds)(hd:MW.Ea ds=some ks)(pl:MW.Eb ks=true)(h:∀p o n s',Inv X ((p,o)::pins) σ H s'->Di (nq X.prog X.w) (KH H) s'.heap p (λk=>k∈ks) n->s'.heap.get? p=some o->Q (.ref p) s') :
 wpAny (model X.prog X.w) X.A (call (.type "set") [u]) Q X.xe s:=by
 obtain⟨hlen,hint⟩:=akx pl;have hu:X.A.in1.in1.in1.units+1<cLine:=by have:=hr.un;show X.A.units+1+1+1+1<cLine;lia
 have kept:∀b o,s.heap.get? b=some o->(s.heap.push (Yy.Av X.w)).get? b=some o:=λb o e=>ao _ e
 have I1:Inv X pins σ H { s with heap:=s.heap.push (Yy.Av X.w) }:=I.kept (t':=s.toks) kept;have fr:Di (nq X.prog X.w) (KH H) (s.heap.push (Yy.Av X.w)) s.heap.objs.size (λ_=>False) 0:=Yy.ar5 (bf _ rfl);have fin:∀(h':Heap)(tk n':Nat),(∀b o,b≠s.heap.objs.size->(s.heap.push (Yy.Av X.w)).get? b=some o->h'.get? b=some o)->Di (nq X.prog X.w) (KH H) h' s.heap.objs.size (λk=>k∈ks) n'->Q (.ref s.heap.objs.size) { s with heap:=h',toks:=tk }:=λh' tk n' hkp hS=>by
  have I2:Inv X pins σ H { s with heap:=h',toks:=tk }:=I.kept λb o e=>hkp b o (dw (az e)) (kept b o e)
  obtain⟨o,es,ep,t,hg,hc,hdt,_⟩:=hS.get;refine h _ o n' _ (I2.Rv λq hq=>?_) hS hg;rcases bw.mp hq with rfl|hq
  . refine⟨hg,I.An.fresh (bc _),u0 I.lt,I.aza (bc _),λv hv=>?_⟩
    rw[show o.data=_ from hdt] at hv;cases hv
  . exact I2.pin q (iu _ hq)
 have lst:∀p vs,v=.ref p->H p=some (.lst vs)->lg X.K ι H ds vs->wpAny (model X.prog X.w) X.A (call (.type "set") [u]) Q X.xe s:=λp vs ev hp r=>by
  subst ev;cases ru;obtain⟨is,rv,pll,_⟩:=I1.list (Hm.of hp);obtain⟨bs,rfl,hbl,hz⟩:=aim r hd;have his:is=(ks.zip bs).map λx=>Value.ref x.2:=by
   apply Ab;intro j;rw[jd]
   by_cases hj:j<bs.length
   . have e1:(bs.map V.ref)[j]?=some (.ref bs[j]):=by simp[hj]
     have hj2:j<is.length:=by have:=rv.length;simp at this;exact b_ hj (f_ this)
     have e2:is[j]?=some is[j]:=by simp[hj2]
     have:=Vals.aeb rv e1 e2;rw[e2,show is[j]=Value.ref bs[j] from this];have hj3:j<ks.length:=b_ hj (f_ hbl)
     have hz2:(ks.zip bs)[j]?=some (ks[j],bs[j]):=by rw[dh (by simp;lia)];simp
     rw[hz2];rfl
   . have hj2:¬j<is.length:=by have:=rv.length;simp at this;exact j_ (a_ (g_ this) (s_ hj))
     rw[p8 (s_ hj2),p8 (by simp;lia)];rfl
  refine Yy.Nr (R:=λs'=>Q (.ref s.heap.objs.size) s') ?_ λs' h=>h
  refine Yy.ama (aed _ _ H) (ks:=ks.zip bs) (items:=is.toArray) (by have:=hr.hd;exact this) hu fr pll.isList (by simpa using his) (λx hx=>Oz I1.An (hz x hx)) (λx hx=>⟨hz x hx,λk hk=>hint x.1 (List.of_mem_zip (a:=x.1) (b:=x.2) hx).1 k hk⟩) (by simp;lia) λh' tk n' hkp hS=>?_
  refine fin h' tk n' hkp (hS.congr λk=>?_);rw[List.map_fst_zip (g_ hbl)]
 unfold MW.keysOf at hk;split at hk
 . rename_i n
   split at hk
   . rename_i iw hM
     cases hk;rw[Xe] at hd;cases hd;cases rx with
     |@ref n p e1 =>
      obtain⟨l,h1,h2⟩:=S.obj n _ p hM e1;cases ru;obtain⟨_,hsm,xs,rel,dd⟩:=aok I1.An h1;obtain⟨k1,k2⟩:=aik rel;have k3:xs.map (·.1)=iw.map (·.1):=k1.trans (Q3 h2);have hl:xs.length=iw.length:=by have:=qj List.length k3;simpa using this
      refine Yy.Nr (R:=λs'=>Q (.ref s.heap.objs.size) s') ?_ λs' h=>h
      refine Yy.al7 (aed _ _ H) (by have:=hr.un;show X.A.units+1+1<cLine;lia) fr dd hsm (λx hx=>⟨k2 x hx,λk hk=>?_⟩) (by simp at hlen;lia) λh' n' sb hS=>?_
      . have:x.1∈iw.map (·.1):=by rw[<- k3];exact bu.mpr ⟨x,hx,rfl⟩
        exact hint x.1 this k hk
      . refine fin h' s.toks n' (λb o hb e=>(sb.2 b hb).trans e) (hS.congr λk=>?_)
        rw[k3];simp
   . obtain⟨p,vs,e1,e2,r⟩:=qx S rx hk
     exact lst p vs e1 e2 r
 . obtain⟨p,vs,e1,e2,r⟩:=qx S rx hk
   exact lst p vs e1 e2 r
def a8v(hS:Di (nq P w) (KH H) h p T n)(hg:h.get? p=some o)(hg':h'.get? p=some o)(le:∀a vs,H a=some (.tup vs)->H' a=some (.tup vs))(ok:Qj P w H' h'):Di (nq P w) (KH H') h' p T n:=by obtain⟨xs,o',es,ep,t,D,r⟩:=hS;have e:o'=o:=jq (D.get.symm.trans hg);subst e;refine⟨xs,o',es,ep,t,⟨hg',D.exa,D.dat,D.tab,D.ent,λx hx=>?_,D.nod,D.led,D.pla⟩,r⟩;obtain⟨_,k1,k2⟩:=D.keys x hx;exact⟨Oz ok (le _ _ k1),le _ _ k1,k2⟩
def aee:MW.Jk xs ys=true↔∀k,k∈xs↔k∈ys:=by
 simp only[MW.Jk,aq,gq,Ao,di];constructor
 . rintro⟨h1,h2⟩ k
   exact⟨λh=>by obtain⟨y,hy,e⟩:=h1 k h;rw[<- e];exact hy,λh=>by obtain⟨y,hy,e⟩:=h2 k h;rw[<- e];exact hy⟩
 . exact λh=>⟨λx hx=>⟨x,(h x).mp hx,rfl⟩,λy hy=>⟨y,(h y).mpr hy,rfl⟩⟩
set_option tactic.hygienic true in
def auv(hr:Af 8 X.A)(hg:Gl X xn)(hm:X.mg xn=none)(hv:bootBuiltins xn=some (.type "set"))(hn:xn≠"__name__")(Ux:(xn==("__debug__" : Str))=false)(ha:PA X [a] (Yc nm W X.K (.cons a' .nil)))(hb:PA X [b] (Yc nm W X.K (.cons b' .nil)))(he:starEach [a] X.env=(false,eval a X.env)::starEach [] X.env)(he2:starEach [b] X.env=(false,eval b X.env)::starEach [] X.env)(Jg:(backTo q1 (starEach [] X.env)).any (·.1)=false)(agw:(backTo q2 (starEach [] X.env)).any (·.1)=false) :
 PC X .NotEq (.Call (.Name xn p1) [a] [] q1) (.Call (.Name xn p2) [b] [] q2) (tE nm W X.K (.Wd a' b')):=by
 intro pins s σ H Q I hh;obtain⟨ι,ρ,M,d,M',S,R,e,q⟩:=hh;rw[MW.Za] at e;obtain⟨x,M1,e1,e⟩:=fc e;cases hk1:(MW.keysOf M1 x).bind MW.Ea with
 |none=>rw[hk1] at e;cases e
 |some ks =>
  rw[hk1] at e;simp only at e;split at e
  . rename_i pl1
    obtain⟨y,M2,e2,e⟩:=fc e;cases hk2:(MW.keysOf M2 y).bind MW.Ea with
    |none=>rw[hk2] at e;cases e
    |some ls =>
     rw[hk2] at e;simp only at e;split at e
     . rename_i pl2
       cases e;obtain⟨ds1,g1,g1'⟩:=dm.mp hk1;obtain⟨ds2,g2,g2'⟩:=dm.mp hk2;refine iz (Dr I hg hm hv ?_ hn Ux);refine je (Bq (ha q1 pins s σ H (λvs H1=>∃ι1 v,vs=[v]/\Le ι H ι1 H1/\m5 nm X.K ι1 H1 M1/\Rep X.K ι1 H1 x v) I ⟨ι,ρ,M,[x],M1,S,R,by simp[e1,Res.bind],fun ι1 H1 vs le S1 r=>?_⟩) λus s1 ⟨vs,H1,I1,r1,ι1,v,ev,Vu,S1,rx⟩=>?_) he Jg
       . obtain⟨v,ev,rv⟩:=J5 r rfl
         exact⟨ι1,v,ev,le,S1,rv⟩
       subst ev;cases r1 with
       |cons rv rn =>
        cases rn;refine aph hr I1 S1 rx rv g1 g1' pl1 λp o n s2 I2 hS hgp=>?_
        refine iz (Dr I2 hg hm hv ?_ hn Ux);refine je (Bq (hb q2 _ s2 σ H1 (λvs H2=>∃ι2 v,vs=[v]/\Le ι1 H1 ι2 H2/\m5 nm X.K ι2 H2 M'/\Rep X.K ι2 H2 y v) I2 ⟨ι1,ρ,M1,[y],M',S1,R.mono Vu,by simp[e2,Res.bind],fun ι2 H2 vs le S2 r=>?_⟩) λus s3 ⟨vs,H2,I3,r2,ι2,v2,ev2,zy,S2,ry⟩=>?_) he2 agw
        . obtain⟨v,ev,rv⟩:=J5 r rfl
          exact⟨ι2,v,ev,le,S2,rv⟩
        subst ev2;cases r2 with
        |cons rv2 rn2 =>
         cases rn2;refine aph hr I3 S2 ry rv2 g2 g2' pl2 λp' o' n' s4 I4 V8 bk4=>?_
         have hp:s4.heap.get? p=some o:=(I4.pin (p,o) (iu _ (bh _ dg))).1;have hS4:=a8v (H':=H2) hS hgp hp zy.tup I4.An;refine Yy.a4x (by have:=hr.un;show X.A.units+1<cLine;lia) (by have:=hr.un;lia) hS4 V8 λc hc=>?_
         have ec:c=!MW.Jk ks ls:=by have:=aee (xs:=ks) (ys:=ls);cases c<;>cases h:MW.Jk ks ls<;>simp_all
         refine⟨.bl c,H2,(I4.Rv λz hz=>I4.pin z (iu _ (bh _ (bh _ hz)))),rfl,?_⟩;rw[ec];exact q ι2 H2 _ (Vu.trans zy) S2 (.bl _)
     . cases e
  . cases e
def rM(nm:Nm)(K:Fg)(m:Bm):V->List V->Hp->VK->Prop:=λv vs H Q=>∃ι M x ds d M',m5 nm K ι H M/\Rep K ι H x v/\lg K ι H ds vs/\MW.Kr m x ds M=.ok d M'/\(∀ts,x=.tup ts->m≠.index) /\
 ∀ι' H' w,Le ι H ι' H'->m5 nm K ι' H' M'->Rep K ι' H' d w->Q w H'
set_option tactic.hygienic true in
theorem a1c{id:String}(hT:∀ι H M x v,m5 nm X.K ι H M->Rep X.K ι H x v->MW.Qp m x M=true->tyV X.K T v H)(pa:PlainAttrs T)(slot:Slot T name id)(hty:typeOf (.builtin id)=pure (.type "method_descriptor"))(hm:MtR X id (rM nm X.K m))(ho:PE X o (tE nm W X.K o'))(ha:PA X (e::es) (Yc nm W X.K es'))(aot:attributeBase o name X.env (eval o X.env)=eval o X.env)(a0j:((backTo Wx (starEach (e::es) X.env)).all (λx=>!x.1)&&(backToKw Wx (keywordEach [] X.env)).all (λx=>x.1.isSome)
&&decide ((e::es).length+([]:List Keyword).length+(if([]:List Keyword).isEmpty then 0 else 1)<30))=true)(aou:(apos.endLine==Wx.line)=true)(hs:starEach (e::es) X.env=(false,eval e X.env)::starEach es X.env)(agp:(backTo Wx (starEach es X.env)).any (·.1)=false) :
 PE X (.Call (.Attribute o name apos) (e::es) [] Wx) (tE nm W X.K (.bm m o' es')) :=
 PE.of (a7m pa slot hty hm ho ha aot a0j aou hs agp) fun σ H Q ι ρ M d M' S R e q=>by
  rw[MW.ayj] at e;obtain⟨x,M1,e1,e⟩:=fc e;split at e
  . rename_i ht
    obtain⟨ds,M2,e2,e⟩:=fc e;exact one S R e1 fun ι1 H1 v le S1 R1 r=>⟨hT ι1 H1 M1 x v S1 r ht,ι1,ρ,M1,ds,M2,S1,R1,e2,fun ι2 H2 vs zy S2 rs=>⟨ι2,M2,x,ds,d,M',S2,r.mono zy,rs,e,(λts hx hm=>by subst hx;subst hm;cases ht),fun ι' H' w Yd S' r'=>q ι' H' w ((le.trans zy).trans Yd) S' r'⟩⟩
  . cases e
set_option tactic.hygienic true in
def ty_list{X:Cx}(hm:m=.append\/m=.index)(S:m5 nm X.K ι H M)(r:Rep X.K ι H x v)(h:MW.Qp m x M=true):tyV X.K "list" v H:=by
 have go:∀ds,MW.fu M x=some ds->tyV X.K "list" v H:=λds hd=>by obtain⟨p,vs,rfl,e2,_⟩:=qx S r hd;exact .inl ⟨rfl,vs,Hm.of e2⟩
 rcases hm with rfl|rfl
 . cases x<;>simp only[MW.Qp] at h<;>try cases h
   split at h
   . rename_i n ds hM
     exact go ds (by simp only[MW.fu,hM])
   . cases h
 . have h:(MW.fu M x).isSome=true:=h
   obtain⟨ds,hd⟩:=ph.mp h;exact go ds hd
set_option tactic.hygienic true in
def auy(e:MW.Kr .append x ds M=.ok d M'):∃n d0 xs,x=.ref n/\ds=[d0]/\M[n]?=some (.lst xs)/\xs.length<100000/\d=.non/\M'=M.set n (.lst (xs++[d0])):=by
 unfold MW.Kr at e;split at e
 . rename_i n d0
   split at e
   . rename_i xs hM
     split at e
     . rename_i hl
       cases e;exact⟨_,_,_,rfl,rfl,hM,hl,rfl,rfl⟩
     . cases e
   . cases e
 . rename_i h;cases h
 . rename_i h;cases h
 . cases e
def auz(e:MW.Kr .index x ds M=.ok d M'):∃d0 xs j,ds=[d0]/\MW.Aw M x=some xs/\MW.Yi M d0 xs=some j/\d=.int ((j:Nat):Int)/\M'=M:=by
 match ds,e with
 |[d0],e =>
  have e:Res.u9 (((MW.Aw M x).bind (MW.Yi M d0)).map λj=>MW.D.int ((j:Nat):Int)) M=.ok d M':=by rw[<- e];cases x<;>simp only[MW.Kr]<;>first|rfl|(generalize(MW.Aw M _).bind (MW.Yi M d0)=z;cases z<;>rfl)
  obtain⟨e1,e2⟩:=yo e;obtain⟨j,e3,e4⟩:=cu.mp e1;obtain⟨xs,e6,e7⟩:=dm.mp e3;exact⟨d0,xs,j,rfl,e6,e7,e4.symm,e2⟩
 |[],e=>cases x<;>simp[MW.Kr] at e|_::_::_,e=>cases x<;>simp[MW.Kr] at e
def api:MtR X "list.append" (rM nm X.K .append):=λpins s σ H v vs u us Q I ru Yt hh=>by
 obtain⟨ι,M,x,ds,d,M',S,r,rs,e,_,q⟩:=hh;obtain⟨n,d0,xs,rfl,rfl,hM,hl,rfl,rfl⟩:=auy e;cases r with
 |ref ha =>
  obtain⟨ys,h3,h4⟩:=S.obj n _ _ hM ha;cases rs with
  |cons hd ht =>
   cases ht;refine Zq pins s σ H _ _ u us Q I ru Yt ⟨_,ys,_,rfl,rfl,h3,by rw[<- h4.length];exact Xb hl,?_⟩;obtain⟨S2,zy⟩:=S.put (u:=.lst (ys++[_])) (o:=.lst (xs++[_])) hM ha λle=>⟨_,wj,(h4.mono le).append (.cons (hd.mono le) .nil)⟩
   exact q _ _ _ zy S2 .non
def abo:∀{bs:List Bool}{j:Nat},bs.findIdx? id=some j->bs[j]?=some true/\∀m,m<j->bs[m]?=some false:=fun{bs j} h=>by obtain⟨h1,h2,h3⟩:=um.mp h;refine⟨by rw[dh h1];simpa using h2,λm hm=>?_⟩;have:=h3 m hm;rw[dh (d_ hm h1)];simpa using this
def au0(hr:Af 8 X.A):MtR X "list.index" (rM nm X.K .index):=λpins s σ H v vs u us Q I ru Yt hh=>by
 obtain⟨ι,M,x,ds,d,M',S,r,rs,e,nt,q⟩:=hh;obtain⟨d0,xs,j,rfl,e1,e2,rfl,rfl⟩:=auz e;cases rs with
 |cons hd ht =>
  cases ht;cases Yt with
  |cons hu ht2 =>
   cases ht2;obtain⟨bs,e3,e4⟩:=dm.mp (show(MW.Qo M' d0 xs).bind (·.findIdx? id)=some j from e2);obtain⟨p,ys,rfl,hp,rl⟩:=Hr S r e1;cases ru;rcases hp with hp|hp
   . obtain⟨z,is,n,rv,hl,hg⟩:=I.aue hp
     obtain⟨f,g1,g2⟩:=Ss (A:=X.A.in1) I S ((hr.mono (by decide:7<=8)).in1) rl rv hd hu e3;obtain⟨f1,f2⟩:=abo e4;have hb:=(Gh e3).1;have hlen:is.length=bs.length:=by rw[hb,rl.length,hl]
     have lj:j<is.length:=by rw[hlen];exact(ak.mp f1).1
     have fa:∀m (hm:m<is.length),bs[m]?=some (f is[m]):=λm hm=>g2 m _ (dh hm)
     have hT:s.TypeIs (.ref p) "list" := ⟨_,hg,rfl⟩;have hsz:is.length<=sizeLine:=by rw[<- hl];exact z
     rw[qm] at hsz;refine call_meetsIn F.slot_list_index hT F.entry_list_index (F.args_list_index_2 _ _) (λA R s h=>SeqAt.list_indexAt p is.toArray n none #[] _ f j (by simpa using lj) (by lia) ?_ ?_ _ _ A R s h) ⟨hg,g1,?_⟩
     . have:=fa j lj;rw[f1] at this;simpa using(jq this).symm
     . intro m hm hmj
       have hm:m<is.length:=by simpa using hm
       have:=fa m hm;rw[f2 m hmj] at this;simpa using(jq this).symm
     . exact⟨.int j,H,I.tok _,⟨_,rfl⟩,q ι H _ (Le.refl _ _) S (.int _)⟩
   . cases r with
     |tup e r=>exact absurd rfl (nt _ rfl)|vl e n r=>rw[hp] at e;cases e|fz e r=>simp[MW.Aw,MW.fu] at e1
     |ref e =>
      obtain⟨u',q',mu⟩:=S.mem (au e);rw[hp] at mu;exact mu.elim
end Sm
namespace Yy
open PySem L2
def SmK(k:List Key):Prop:=∃i j:Int,-1<=i/\i<9/\-1<=j/\j<9/\k=[.inl i,.inl j]
noncomputable def ain(i j:Int):Int:=reduceHash (Builtin.Tuple.tupleHashOf [hashInt i,hashInt j])
noncomputable def rgI:List Int:=[-1,0,1,2,3,4,5,6,7,8]
def apj:(rgI.all λi=>rgI.all λj=>rgI.all λi'=>rgI.all λj'=>(ain i j != ain i' j')||(i==i'&&j==j'))=true:=by decide+kernel
def abp(h1:-1<=i)(h2:i<9):i∈rgI:=by
 have:i=-1\/i=0\/i=1\/i=2\/i=3\/i=4\/i=5\/i=6\/i=7\/i=8:=by lia
 unfold rgI;simp only[bw,rm,Ay];exact this
def apk{P:Program}(h:SmK k)(h':SmK k')(e:tupleKeyHash (nq P w) k=tupleKeyHash (nq P w) k'):k=k':=by obtain⟨i,j,a1,a2,a3,a4,rfl⟩:=h;obtain⟨i',j',b1,b2,b3,b4,rfl⟩:=h';have e:ain i j=ain i' j':=e;have:=gq.mp (gq.mp (gq.mp (gq.mp apj i (abp a1 a2)) j (abp a3 a4)) i' (abp b1 b2)) j' (abp b3 b4);rw[e] at this;simp at this;rw[this.1,this.2]
def agx(hk:IsTupleKey (nq prog w) s.heap ks a)(h:Q false s):wpAny (model prog w) A (Builtin.Dict.quietEq (.ref a)) Q E s:=by
 unfold Builtin.Dict.quietEq;refine aa (wpAny_specialOf hk.typeIs F.slot_tuple_eq.lookup ?_);refine aj ?_;have:(some (Value.builtin "tuple.__eq__")==some (Value.builtin "object.__eq__"))=false:=by decide
 rw[this];exact h
def apl{xs:List (List Key×Addr×Value)}(hn:(xs.map (·.1)).Nodup)(hs:∀x∈xs,SmK x.1)(hx:x∈xs) :
 ((xs.map (entryOfKey (tupleKind (nq prog w)))).filter (·.hash==tupleKeyHash (nq prog w) x.1)).length<=1:=by
 induction xs with
 |nil=>simp
 |cons y ys ih =>
  rw[ig,m9] at hn;rw[ig]
  by_cases hy:tupleKeyHash (nq prog w) y.1=tupleKeyHash (nq prog w) x.1
  . have e:=apk (hs y dg) (hs x hx) hy
    have none:(ys.map (entryOfKey (tupleKind (nq prog w)))).filter (·.hash==tupleKeyHash (nq prog w) x.1)=[]:=by rw[zg];intro z hz hq;obtain⟨z',hz',rfl⟩:=bu.mp hz;have hq:tupleKeyHash (nq prog w) z'.1=tupleKeyHash (nq prog w) x.1:=eq_of_beq (show(tupleKeyHash (nq prog w) z'.1==tupleKeyHash (nq prog w) x.1)=true from hq);have:=apk (hs z' (bh _ hz')) (hs x hx) hq;exact hn.1 (bu.mpr ⟨z',hz',this.trans e.symm⟩)
    rw[List.filter_cons,none];split<;>simp
  . rw[List.filter_cons,bx (by show ¬((tupleKeyHash (nq prog w) y.1==tupleKeyHash (nq prog w) x.1)=true);simpa using hy)]
    rcases bw.mp hx with rfl|hx
    . exact absurd rfl hy
    . exact ih hn.2 (λz hz=>hs z (bh _ hz)) hx
def aef{id:String}{xs:List (List Key×Addr×Value)}(ho:s.heap.get? d=some o)(hd:o.data=.dict es ep)(he:es.toList=xs.map (entryOfKey (tupleKind (nq prog w))))(hk:∀x∈xs,IsTupleKey (nq prog w) s.heap x.1 x.2.1)(hn:(xs.map (·.1)).Nodup)(hs:∀x∈xs,SmK x.1)(h:Q es s) :
 wpAny (model prog w) A (Builtin.Dict.entriesForEmpty id d) Q E s:=by
 unfold Builtin.Dict.entriesForEmpty;refine aa (qw ho hd ?_);refine aa ?_;rw[<- Array.forIn_toList];refine uy _ (λrest _ s'=>s'=s/\∀e∈rest,∃x∈xs,e=entryOfKey (tupleKind (nq prog w)) x) _ ?_ ?_ _ _ ⟨rfl,λe hm=>?_⟩
 . rintro e rest r s' ⟨rfl,Dy⟩
   obtain⟨x,hx,rfl⟩:=Dy e dg;show wpAny _ _ (Builtin.Dict.quietEq (.ref x.2.1) >>= _) _ _ _;refine aa (agx (hk x hx) ?_);simp only[yr,ju];have h1:=apl (prog:=prog) (w:=w) hn hs hx;rw[bx (by
    intro hc;have:(es.filter (·.hash==(entryOfKey (tupleKind (nq prog w)) x).hash)).size=((xs.map (entryOfKey (tupleKind (nq prog w)))).filter (·.hash==tupleKeyHash (nq prog w) x.1)).length:=by rw[<- he,<- t7,Array.toList_filter];rfl
    exact l_ hc (a_ (f_ this) h1))]
   exact aj ⟨rfl,λe he=>Dy e (bh _ he)⟩
 . rintro b s' ⟨rfl,_⟩
   exact aj h
 . rw[he] at hm
   obtain⟨x,hx,rfl⟩:=bu.mp hm;exact⟨x,hx,rfl⟩
def a8x{prog:Program}{w:World}{h h':Heap}{ks:List Key}{p a:Addr}(x:IsTupleKey (nq prog w) h ks p)(hs:∀b o,h.get? b=some o->h'.get? b=some o):IsTupleKey (nq prog w) h' ks p :=
 let ⟨o,items,n,ho,r⟩:=x;⟨o,items,n,hs p o ho,r⟩
set_option tactic.hygienic true in
def a8y(hds:(d==sysModules)=false)(hd:s.heap.DictOfH (tupleKind (nq prog w)) d xs)(hs:∀x∈xs,SmK x.1)(hsz:xs.length<=sizeLine)(h:∀h',h'.DictOfH (tupleKind (nq prog w)) s.heap.objs.size xs->(∀b o,s.heap.get? b=some o->h'.get? b=some o)->Q (.ref s.heap.objs.size) { s with heap:=h' }) :
 wpAny (model prog w) A (call (.type "dict") [.ref d]) Q E s:=by
 refine callType_codes (Q₁:=λobj s₁=>obj=.ref s.heap.objs.size/\s₁={ s with heap:=s.heap.push { cls:=.type "dict",data:=.dict #[] } }) F.kt_called_dict (F.kt_typeCall_dict_1 _) F.entry_dict_init (kt_code_dict_new _ ⟨rfl,rfl⟩) ?_;rintro obj s₁ ⟨rfl,rfl⟩;have hdT:=hd.typeIs;obtain⟨od,esd,epd,hod,hcd,hdd,hed,hxd,hnd⟩:=hd;have keep:∀b o,s.heap.get? b=some o->(s.heap.push { cls:=.type "dict",data:=.dict #[] }).get? b=some o:=λb o e=>ao _ e
 have apm:(s.heap.push { cls:=.type "dict",data:=.dict #[] }).get? s.heap.objs.size=some { cls:=.type "dict",data:=.dict #[] }:=bf _ rfl;have hTn:Shared.TypeIs { s with heap:=s.heap.push { cls:=.type "dict",data:=.dict #[] } } (.ref s.heap.objs.size) "dict" := ⟨_,apm,rfl⟩;have hT':Shared.TypeIs { s with heap:=s.heap.push { cls:=.type "dict",data:=.dict #[] } } (.ref d) "dict" := ⟨od,keep _ _ hod,hcd.1⟩;have afq:=keep _ _ hod;have hdo:s.heap.objs.size≠d:=λe=>absurd (az hod) (by rw[e];exact mq _)
 have hlen:esd.size=xs.length:=size_of_entries hed;refine⟨hTn,F.args_dict_init_2 _ _,?_⟩;unfold Builtin.«dict.__init__»;refine aa ?_;unfold Builtin.Dict.selfAndRest;refine aa (wpAny_notOrdered_dict hTn ?_);show wpAny _ _ (pure (s.heap.objs.size,[Value.ref d])) _ _ _;refine aj ?_;show wpAny _ _ (Builtin.Dict.updateFrom "dict.__init__" s.heap.objs.size (.ref d) [] .none) _ _ _;unfold Builtin.Dict.updateFrom;refine aa (qg hT' ?_);rw[bx (by decide)];refine aa ?_;unfold Builtin.Dict.merge;refine aa ?_;unfold Builtin.Dict.readDirectly;refine aa (o8 hT' isSubtype_dict_dict ?_);simp only[qp,cz,jh];refine aa (wpAny_specialOf hT' F.slot_dict_iter.lookup (aj ?_));simp only[zb,ju];refine aa (aj ?_);unfold Builtin.Dict.mergeDict;rw[bx (by simpa using hdo)];unfold Builtin.Dict.showsAll;rw[bx (by rw[hds];exact jc)];refine aa (aj ?_);refine aa (qw afq hdd ?_);have kk:∀{h':Heap},(∀b o,s.heap.get? b=some o->h'.get? b=some o)->∀x∈xs,(tupleKind (nq prog w)).is h' x.1 x.2.1:=λhk x hx=>a8x (a:=d) (hxd x hx) hk
 have emp:esd=#[]->∀s',s'={ s with heap:=s.heap.push { cls:=.type "dict",data:=.dict #[] } }->wpAny (model prog w) A.in1.in1 (Builtin.Dict.addKeywords s.heap.objs.size [] >>= λ_=>ret Value.none) (λfin s'=>match fin with|.done f=>wants (λr s₂=>r=Value.none/\Q (.ref s.heap.objs.size) s₂) E (.ok f) s'|.again c'=>c'.quiet=true/\codeAny (model prog w) A.in1 c' (wants (λr s₂=>r=Value.none/\Q (.ref s.heap.objs.size) s₂) E) s') (λe s'=>wants (λr s₂=>r=Value.none/\Q (.ref s.heap.objs.size) s₂) E (.error e) s') s':=λhe s' Pq=>by have hx0:xs=[]:=uq.mp (by rw[<- hlen,he];rfl);subst Pq;refine aa (aj (aj ⟨rfl,h _ ⟨_,#[],0,apm,⟨rfl,rfl,rfl⟩,rfl,?_,kk keep,hnd⟩ keep⟩));rw[hx0];rfl
 dsimp only;split
 . refine aa (qw apm rfl ?_)
   rw[cg (show(#[]:Array DictEntry).isEmpty=true from rfl)];refine aa (aef afq hdd hed (kk keep) hnd hs ?_);split
   . refine aa (wpAny_updateDictKeysTo apm rfl (aj ?_) (by show esd.size<=_;exact a_ (f_ hlen) (a_ hsz x_)))
     have aio:∀b o,s.heap.get? b=some o->((s.heap.push { cls:=.type "dict",data:=.dict #[] }).update s.heap.objs.size (Obj.mapDictKeys λ_=>esd)).get? b=some o:=λb o e=>by rw[uf _ _ (jz (dw (az e)))];exact keep b o e
     refine aa (aj (aj ⟨rfl,h _ ⟨_,esd,0+1,mz _ apm (Obj.isFreed_of_dict (Obj.data_mapDictKeys rfl _)),⟨rfl,rfl,rfl⟩,Obj.data_mapDictKeys rfl _,hed,kk aio,hnd⟩ aio⟩))
   . rename_i X8
     exact aj (emp (Array.isEmpty_iff.mp (by simpa using X8)) _ rfl)
 . rename_i hf
   have he:esd=#[]:=by
    apply xr;intro X8;have hx:xs≠[]:=λe=>X8 (Array.eq_empty_of_size_eq_zero (by rw[hlen,e];rfl))
    obtain⟨x,ys,rfl⟩:=List.exists_cons_of_ne_nil hx;have Dy:(esd.all λe=>(keyPart e.key).isSome)=true:=by simp only[Bool.not_eq_true',Bool.not_eq_false,aq] at hf;exact hf.2
    rw[<- Array.all_toList,hed,ig,List.all_cons,aq] at Dy;exact Bool.noConfusion (Dy.1:(keyPart (.ref x.2.1)).isSome=true)
   refine aa (wpAny_dictEpoch afq hdd ?_);refine aa (qw afq hdd ?_);refine aa ?_;rw[he,Std.Legacy.Range.forIn_eq_forIn_range'];simp only[Std.Legacy.Range.size,gf,Be,Nat.sub_zero,u5,Nat.sub_self,Nat.div_one,List.range'_zero,List.forIn_nil];exact aj (aj (emp he _ rfl))
end Yy
namespace Sm
open PySem L2
open MW (Ex Dl OEx P0 Br m8 Lv Tg Res cj MO Jl Cp Op2 Blt Bm Kx Src)
set_option tactic.hygienic true in
def au1(h:MW.afy l=true):∀k∈l.map (·.1),Yy.SmK k:=λk hk=>by
 obtain⟨p,hp,rfl⟩:=bu.mp hk;simp only[MW.afy,gq] at h;have:=h p hp;split at this
 . rename_i i j e
   simp only[aq,di] at this;exact⟨i,j,this.1.1.1,this.1.1.2,this.1.2,this.2,e⟩
 . cases this
def a1d{X:Cx}(S:m5 nm X.K ι H M)(hp:H p=none)(r:qy X.K ι H (λk k'=>k=k') iw l) :
 m5 nm X.K (ι.add p) (upd H p (.dT l)) (M++[.dT iw])/\Le ι H (ι.add p) (upd H p (.dT l))/\Rep X.K (ι.add p) (upd H p (.dT l)) (.ref M.length) (.ref p):=by
 obtain⟨S1,le⟩:=S.new (H':=upd H p (.dT l)) (o:=.dT iw) hp (λa u e=>by rw[j8 (kh e hp)];exact e) λle=>⟨l,wj,r.mono le⟩
 exact⟨S1,le,.ref (by show(ι.l++[p])[M.length]?=some p;rw[<- S.len];simp)⟩
def a1e{X:Cx}(S:m5 nm X.K ι H M)(hp:H p=none)(r:qy X.K ι H (λk k'=>k=k') iw l) :
 m5 nm X.K (ι.add p) (upd H p (.dK l)) (M++[.dK iw])/\Le ι H (ι.add p) (upd H p (.dK l))/\Rep X.K (ι.add p) (upd H p (.dK l)) (.ref M.length) (.ref p):=by
 obtain⟨S1,le⟩:=S.new (H':=upd H p (.dK l)) (o:=.dK iw) hp (λa u e=>by rw[j8 (kh e hp)];exact e) λle=>⟨l,wj,r.mono le⟩
 exact⟨S1,le,.ref (by show(ι.l++[p])[M.length]?=some p;rw[<- S.len];simp)⟩
set_option tactic.hygienic true in
def a1f:Bx X (.type "dict") (rB nm X.K .dict):=λpins s σ H vs us Q I Yt hh=>by
 obtain⟨ι,M,ds,d,M',S,r,e,q⟩:=hh;cases r with
 |nil=>simp[MW.uh] at e
 |@cons x v _ _ h t =>
  cases t with
  |cons h2 t2=>cases x<;>simp[MW.uh] at e
  |nil =>
   cases Yt with
   |cons ru rn =>
    cases rn;cases h with
    |@ref n p hp =>
     cases ru;have e:(match M[n]? with|some (.dT iw)=>if MW.afy iw then MW.new (.dT iw) M else .bad|some (.dK iw)=>MW.new (.dK iw) M|_=>.bad)=.ok d M':=e;split at e
     . rename_i iw hM
       split at e
       . rename_i hs
         cases e;obtain⟨l,h1,h2⟩:=S.obj n _ p hM hp;obtain⟨z,hsm,xs,rel,dd⟩:=aok I.An h1;obtain⟨k1,k2⟩:=aik rel;have hl:xs.length=l.length:=by have:=qj List.length k1;simpa using this
         refine Yy.a8y hsm dd (λx hx=>?_) (by rw[hl];exact z) λh' dd' keep=>?_
         . refine au1 hs x.1 ?_
           rw[<- Q3 h2,<- k1];exact bu.mpr ⟨x,hx,rfl⟩
         . have hf:H s.heap.objs.size=none:=I.An.fresh (bc _)
           obtain⟨S2,zy,r2⟩:=a1d (X:=X) S hf h2;refine⟨.ref s.heap.objs.size,upd H s.heap.objs.size (.dT l),I.laid (a:=s.heap.objs.size) (o:=.dT l) (t':=s.toks) keep (bc _) ?_,rfl,q _ _ _ zy S2 r2⟩;obtain⟨o,es,ep,g1,g2,g3,g4,g5,g6⟩:=dd';exact⟨z,ql.mpr (jz (dw I.big)),xs,rel.keeps (λb ys e=>by rw[j8 (kh e hf)];exact e),o,es,ep,g1,g2,g3,g4,g6⟩
       . cases e
     . rename_i iw hM
       cases e;obtain⟨l,h1,h2⟩:=S.obj n _ p hM hp;refine aoq I (.inl h1) λp' s' hp' I'=>?_
       obtain⟨S2,zy,r2⟩:=a1e (X:=X) S hp' h2;exact⟨.ref p',_,I',rfl,q _ _ _ zy S2 r2⟩
     . cases e
    |_=>cases e
set_option tactic.hygienic true in
theorem ints_rep{ι:Io}{H:Hp}{K:Fg}:∀{ds:List Dv}{vs:List V}{is:Zl}{ns:Xs},lg K ι H ds vs->Vals vs is->MW.Y9 ds=some ns->∃xs:Array (Int×Tok),is.toArray=intItems xs/\xs.toList.map (·.1)=ns
 |_,_,_,_,.nil,.nil,h=>by cases h;exact⟨#[],by simp[intItems],rfl⟩
 |_,_,_,_,.cons r t,.cons rv tv,h=>by
  cases r<;>simp only[MW.Y9] at h<;>try cases h
  rename_i i;obtain⟨ns',e1,e2⟩:=cu.mp h;obtain⟨xs,g1,g2⟩:=ints_rep t tv e1;obtain⟨tk,rfl⟩:=rv;refine⟨#[(i,tk)]++xs,?_,by simp[g2,e2]⟩;have h3:=qj Array.toList g1;apply Array.toList_inj.mp;simp[intItems] at h3 ⊢;exact h3
theorem aeg:∀(l:Xs)(z m:Int),(m=z\/m∈l)->z<=m->(∀a∈l,a<=m)->l.foldl (λm x=>if m<x then x else m) z=m
 |[],z,m,h,_,_=>by rcases h with h|h;exact h.symm;cases h
 |a::l,z,m,h,hz,Dy=>by
  rw[Bd];have ha:=Dy a dg;refine aeg l _ m ?_ (by split<;>lia) (λb hb=>Dy b (bh _ hb));rcases h with h|h
  . subst h;left;split<;>lia
  . rcases bw.mp h with h|h
    . subst h
      by_cases hc:z<m
      . left;rw[cg hc]
      . left;rw[bx hc];lia
    . exact .inr h
theorem aeh:∀(l:Xs)(z m:Int),(m=z\/m∈l)->m<=z->(∀a∈l,m<=a)->l.foldl (λm x=>if x<m then x else m) z=m
 |[],z,m,h,_,_=>by rcases h with h|h;exact h.symm;cases h
 |a::l,z,m,h,hz,Dy=>by
  rw[Bd];have ha:=Dy a dg;refine aeh l _ m ?_ (by split<;>lia) (λb hb=>Dy b (bh _ hb));rcases h with h|h
  . subst h;left;split<;>lia
  . rcases bw.mp h with h|h
    . subst h
      by_cases hc:m<z
      . left;rw[cg hc]
      . left;rw[bx hc];lia
    . exact .inr h
def aip(e:MW.two ds f g M=.ok d M'):M'=M/\((∃i j,ds=[.int i,.int j]/\d=.int (f i j))\/∃x m,ds=[x]/\g x=some m/\d=.int m):=by
 cases ds with
 |nil=>cases e
 |cons x r=>cases r with
  |nil =>
   obtain⟨e1,e2⟩:=yo (show Res.u9 ((g x).map MW.D.int) M=.ok d M' from e);obtain⟨m,e3,e4⟩:=cu.mp e1;exact⟨e2,.inr ⟨x,m,rfl,e3,e4.symm⟩⟩
  |cons y r=>cases r with
   |nil =>
    cases x<;>try cases e
    cases y<;>cases e;exact⟨rfl,.inl ⟨_,_,rfl,rfl⟩⟩
   |cons _ _=>cases e
def Zz{h:List Int->Option Int}(e:((MW.fu M x).bind MW.Y9).bind h=some m):∃xs ns,MW.fu M x=some xs/\MW.Y9 xs=some ns/\h ns=some m:=by obtain⟨ns,e5,e6⟩:=dm.mp e;obtain⟨xs,e7,e8⟩:=dm.mp e5;exact⟨xs,ns,e7,e8,e6⟩
def au2(e:MW.uh .max ds M=.ok d M'):M'=M/\((∃i j,ds=[.int i,.int j]/\d=.int (if i<j then j else i))\/∃x xs ns m,ds=[x]/\MW.fu M x=some xs/\MW.Y9 xs=some ns/\MW.ayg ns=some m/\d=.int m):=by
 obtain⟨h,h2|⟨x,m,h3,h4,h5⟩⟩:=aip e
 . exact⟨h,.inl h2⟩
 . obtain⟨xs,ns,g1,g2,g3⟩:=Zz h4
   exact⟨h,.inr ⟨x,xs,ns,m,h3,g1,g2,g3,h5⟩⟩
def au3(e:MW.uh .min ds M=.ok d M'):M'=M/\((∃i j,ds=[.int i,.int j]/\d=.int (if j<i then j else i))\/∃x xs ns m,ds=[x]/\MW.fu M x=some xs/\MW.Y9 xs=some ns/\MW.a5h ns=some m/\d=.int m):=by
 obtain⟨h,h2|⟨x,m,h3,h4,h5⟩⟩:=aip e
 . exact⟨h,.inl h2⟩
 . obtain⟨xs,ns,g1,g2,g3⟩:=Zz h4
   exact⟨h,.inr ⟨x,xs,ns,m,h3,g1,g2,g3,h5⟩⟩
def Ub(h:Vals [v] us):∃u,us=[u]/\RelV v u:=L2.Vals.one h
def Pr(h:i<xs.size):(xs.toList.map (·.1))[i]?=some (numAt xs i):=by simp[numAt,h]
def a8z(hc:X.calm=true):Bx X (.builtin "max") (rB nm X.K .max):=λpins s σ H vs us Q I Yt hh=>by
 obtain⟨ι,M,ds,d,M',S,r,e,q⟩:=hh;obtain⟨rfl,⟨i,j,rfl,rfl⟩|⟨x,xs,ns,m,rfl,e1,e2,e3,rfl⟩⟩:=au2 e
 . cases r with
   |cons h1 t1 =>
    cases t1 with
    |cons h2 t2 =>
     cases t2;cases h1;cases h2;refine akf hc pins s σ H _ us Q I Yt ⟨i,j,rfl,?_⟩;have:=q ι H _ (Le.refl _ _) S (.int (if i<j then j else i));exact this
 . obtain⟨v,rfl,rv⟩:=J5 r rfl
   obtain⟨u,rfl,ru⟩:=Ub Yt;obtain⟨p,ws,rfl,hp,rl⟩:=qx S rv e1;cases ru;obtain⟨is,rvl,pl,_⟩:=I.list (Hm.of hp);obtain⟨xa,g1,g2⟩:=ints_rep rl rvl e2;have X8:0<xa.size:=by
    cases ns with
    |nil=>cases e3|cons n ns=>have:=qj List.length g2;simp at this;lia
   refine max_intList (I.ok.hd hc) (by rw[<- g1];exact pl.isList) X8 λw h' tk hw keep=>?_
   obtain⟨t,rfl⟩:=intItems_at hw;obtain⟨b1,b2⟩:=argBest_gt (numAt xa) (xa.size-1);have hm:m=numAt xa (argBest (λi j=>decide (numAt xa i > numAt xa j)) (xa.size-1)):=by
    cases hns:ns with
    |nil=>rw[hns] at e3;cases e3
    |cons n ns' =>
     rw[hns] at e3;cases e3;have mem:∀i,i<xa.size->numAt xa i∈n::ns':=λi hi=>by rw[<- hns,<- g2];exact au (Pr hi)
     have le:∀a∈n::ns',a<=numAt xa (argBest (λi j=>decide (numAt xa i > numAt xa j)) (xa.size-1)):=λa ha=>by
      rw[<- hns,<- g2] at ha;obtain⟨i,hi⟩:=vh.mp ha;have li:i<xa.size:=by have:=(ak.mp hi).1;simpa using this
      rw[Pr li] at hi;cases hi;exact b2 i (by lia)
     exact aeg ns' n _ (bw.mp (mem _ (by omega))) (le n dg) (λa ha=>le a (bh _ ha))
   subst hm;exact⟨.int _,H,I.kept keep,⟨t,rfl⟩,q ι H _ (Le.refl _ _) S (.int _)⟩
def Su(n d:Nat)(o:Option Int):HT.Gv n d o=MW.clip n d o:=by
 cases o with
 |none=>rfl
 |some i =>
  show(if i<0 then(i+(n:Int)).toNat else min i.toNat n)=(if 0<=i then min i.toNat n else(i+(n:Int)).toNat)
  by_cases h:i<0
  . rw[cg h,bx (by lia)]
  . rw[bx h,cg (by lia)]
def tO(nm:Nm)(W:Jl)(K:Fg)(o:OEx):TO:=fun σ H Q=>∃ι ρ M d M',m5 nm K ι H M/\uv K ι H ρ σ/\o.den W ρ M=.ok d M'/\∀ι' H',Le ι H ι' H'->m5 nm K ι' H' M'->Q d H'
def PO.weak(h:PO X e t)(w:∀σ H Q,t' σ H Q->t σ H Q):PO X e t':=λpins s σ H Q I q=>h pins s σ H Q I (w σ H Q q)
def PO.of(h:PO X e t)(w:∀σ H Q ι ρ M d M',m5 nm X.K ι H M->uv X.K ι H ρ σ->o'.den W ρ M=.ok d M'->(∀ι' H',Le ι H ι' H'->m5 nm X.K ι' H' M'->Q d H')->t σ H Q):PO X e (tO nm W X.K o'):=PO.weak h fun σ H Q ⟨ι,ρ,M,d,M',S,R,e,q⟩=>w σ H Q ι ρ M d M' S R e q
def au4:PO X none (tO nm W X.K .none):=PO.of aua fun σ H Q ι ρ M d M' S R e q=>by rw[MW.ajv] at e;cases e;exact q ι H (Le.refl _ _) S
set_option tactic.hygienic true in
def au5(ha:PE X a (tE nm W X.K a')):PO X (some a) (tO nm W X.K (.some a')):=PO.of (aub ha) fun σ H Q ι ρ M d M' S R e q=>by rw[MW.ajw] at e;obtain⟨x,M1,e1,e⟩:=fc e;split at e<;>cases e;rename_i i;exact one S R e1 fun ι1 H1 v le S1 R1 r=>by cases r;exact⟨i,rfl,q ι1 H1 le S1⟩
set_option tactic.hygienic true in
def a80(ha:PE X a (tE nm W X.K a'))(hl:PO X lo (tO nm W X.K lo'))(hh:PO X hi (tO nm W X.K hi')):PE X (.Subscript a (.Slice lo hi none p2) pos) (tE nm W X.K (.cut a' lo' hi')) :=
 PE.of (aos (SlR.or aud a0f) ha hl hh) fun σ H Q ι ρ M d M' S R e q=>by
  rw[MW.asq] at e;obtain⟨x,M1,e1,e⟩:=fc e;obtain⟨l,M2,e2,e⟩:=fc e;obtain⟨h,M3,e3,e⟩:=fc e;obtain⟨e4,e5⟩:=yo e;subst e5;refine one S R e1 fun ι1 H1 v le S1 R1 r=>⟨ι1,ρ,M1,l,M2,S1,R1,e2,fun ι2 H2 zy S2=>⟨ι2,ρ,M2,h,_,S2,R1.mono zy,e3,fun ι3 H3 Zu S3=>?_⟩⟩
  have r3:=(r.mono zy).mono Zu;have fin:=fun ι' H' w Yd S' r'=>q ι' H' w (((le.trans zy).trans Zu).trans Yd) S' r'
  have lst:∀ds,MW.fu M' x=some ds->d=.vl (MW.We ds l h)->a7l X.K v l h H3 Q:=λds hd ed=>by
   obtain⟨p,vs,rfl,hp,rl⟩:=qx S3 r3 hd;refine⟨p,vs,rfl,Hm.of hp,λp' hp'=>?_⟩;have:lg X.K ι3 H3 (MW.We ds l h) (Vj vs l h):=by unfold MW.We Vj;rw[Su,Su,<- rl.length];exact(rl.drop _).take _
   obtain⟨S4,le4,r4⟩:=abi (X:=X) S3 hp' this;subst ed;exact fin _ _ _ le4 S4 r4
  cases x with
  |tup ds =>
   right
   simp only[MW.Hh] at e4;cases e4;cases r3 with
   |@tup p _ vs hp rl =>
    have:lg X.K ι3 H3 (MW.We ds l h) (Vj vs l h):=by unfold MW.We Vj;rw[Su,Su,<- rl.length];exact(rl.drop _).take _
    refine⟨p,vs,rfl,Dw.of hp,λz1 z2=>?_,λp' hp'=>?_⟩
    . have e:Vj vs l h=vs:=by
       unfold Vj;rw[z1,z2];simp
      rw[e] at this;exact fin _ _ _ (Le.refl _ _) S3 (.tup hp this)
    . obtain⟨S4,le4,r4⟩:=J2 (X:=X) S3 hp' this
      exact fin _ _ _ le4 S4 r4
  |_ =>
   left
   simp only[MW.Hh] at e4;obtain⟨ds,hd,ed⟩:=cu.mp e4;exact lst ds hd ed.symm
def apn(K:Fg)(T:String):PySem.W.kitOne K (.type T) (.type T)=some true:=by unfold PySem.W.kitOne;rw[cg (by simp)]
def apo(hg:Gl X n)(hm:X.mg n=none)(hv:bootBuiltins n=some (.builtin "isinstance"))(hn:n≠"__name__")(Ux:(n==("__debug__" : Str))=false)(hg2:Gl X tn)(hm2:X.mg tn=none)(hv2:bootBuiltins tn=some (.type "bool"))(Yh:tn≠"__name__")(agy:(tn==("__debug__" : Str))=false)(ha:PE X a (tE nm W X.K a'))(he:starEach [a,.Name tn p'] X.env=(false,eval a X.env)::starEach [.Name tn p'] X.env)(he2:starEach [.Name tn p'] X.env=(false,eval (.Name tn p') X.env)::starEach [] X.env)(Jg:(backTo pos (starEach [.Name tn p'] X.env)).any (·.1)=false):PE X (.Call (.Name n p) [a,.Name tn p'] [] pos) (tE nm W X.K (.blt .isBool (.cons a' .nil))):=by
 intro pins s σ H Q I hh;obtain⟨ι,ρ,M,d,M',S,R,e,q⟩:=hh;rw[MW.aan] at e;obtain⟨ds,M1,e1,e⟩:=fc e;rw[MW.Hq] at e1;obtain⟨x,M2,e2,e1⟩:=fc e1;rw[MW.Rj] at e1;cases e1;refine iz (Dr I hg hm hv ?_ hn Ux);refine yq (Q:=EP X pins σ Q) ?_ he Jg;rw[he];show wpAny _ _ (spliced ((false,eval a X.env)::backTo pos (starEach [.Name tn p'] X.env))) _ _ s;refine uc (Bq (ha pins s σ H (λv H1=>∃ι1,Le ι H ι1 H1/\m5 nm X.K ι1 H1 M1/\Rep X.K ι1 H1 x v) I ⟨ι,ρ,M,x,M1,S,R,e2,fun ι1 H1 v le S1 r=>⟨ι1,le,S1,r⟩⟩) λu s1 ⟨v,H1,I1,r1,ι1,le,S1,r⟩=>?_);rw[he2];show wpAny _ _ (spliced ((false,eval (.Name tn p') X.env)::backTo pos (starEach [] X.env))) _ _ s1;refine uc (Dr I1 hg2 hm2 hv2 ?_ Yh agy);refine wg ?_;cases r with
 |bl b =>
  cases e;cases(show u=Value.bool b from r1);exact PySem.W.kia_one PySem.W.kitx_bool I1.kIn True.intro (apn _ _) (λz=>nomatch z) λtk=>⟨.bl true,H1,I1.tok _,rfl,q ι1 H1 _ le S1 (.bl true)⟩
 |_=>cases e
def a81(hc:X.calm=true):Bx X (.builtin "min") (rB nm X.K .min):=λpins s σ H vs us Q I Yt hh=>by
 obtain⟨ι,M,ds,d,M',S,r,e,q⟩:=hh;obtain⟨rfl,⟨i,j,rfl,rfl⟩|⟨x,xs,ns,m,rfl,e1,e2,e3,rfl⟩⟩:=au3 e
 . cases r with
   |cons h1 t1 =>
    cases t1 with
    |cons h2 t2 =>
     cases t2;cases h1;cases h2;refine akg hc pins s σ H _ us Q I Yt ⟨i,j,rfl,?_⟩;have:=q ι H _ (Le.refl _ _) S (.int (if j<i then j else i));exact this
 . obtain⟨v,rfl,rv⟩:=J5 r rfl
   obtain⟨u,rfl,ru⟩:=Ub Yt;obtain⟨p,ws,rfl,hp,rl⟩:=qx S rv e1;cases ru;obtain⟨is,rvl,pl,_⟩:=I.list (Hm.of hp);obtain⟨xa,g1,g2⟩:=ints_rep rl rvl e2;have X8:0<xa.size:=by
    cases ns with
    |nil=>cases e3|cons n ns=>have:=qj List.length g2;simp at this;lia
   refine min_intList (I.ok.hd hc) (by rw[<- g1];exact pl.isList) X8 λw h' tk hw keep=>?_
   obtain⟨t,rfl⟩:=intItems_at hw;obtain⟨b1,b2⟩:=argBest_lt (numAt xa) (xa.size-1);have hm:m=numAt xa (argBest (λi j=>decide (numAt xa i<numAt xa j)) (xa.size-1)):=by
    cases hns:ns with
    |nil=>rw[hns] at e3;cases e3
    |cons n ns' =>
     rw[hns] at e3;cases e3;have mem:∀i,i<xa.size->numAt xa i∈n::ns':=λi hi=>by rw[<- hns,<- g2];exact au (Pr hi)
     have le:∀a∈n::ns',numAt xa (argBest (λi j=>decide (numAt xa i<numAt xa j)) (xa.size-1))<=a:=λa ha=>by
      rw[<- hns,<- g2] at ha;obtain⟨i,hi⟩:=vh.mp ha;have li:i<xa.size:=by have:=(ak.mp hi).1;simpa using this
      rw[Pr li] at hi;cases hi;exact b2 i (by lia)
     exact aeh ns' n _ (bw.mp (mem _ (by omega))) (le n dg) (λa ha=>le a (bh _ ha))
   subst hm;exact⟨.int _,H,I.kept keep,⟨t,rfl⟩,q ι H _ (Le.refl _ _) S (.int _)⟩
def Yu{n:Nat}(hh:A.handled=none)(hr:IsRange s.heap r a b c t u v)(Xf:Builtin.Range.small a b c=true)(hn:Builtin.Range.rangeSize a b c=n)(hlen:n<=2 ^ 24)(hQ:∀(h':Heap) (tk:Nat) (acc:U1),(∀b o,s.heap.get? b=some o->h'.get? b=some o)->ItemsOf (λi v=>∃t,v=.int (a+i*c) t) acc n->Q acc.toList { s with heap:=h',toks:=tk }):wpAny (model prog w) A (collect (.ref r)) Q E s:=by
 unfold collect;refine aa (wpAny_runValue (m7 F.entry_proto_collect ?_));rw[j0 F.plain_proto_collect _];show wpAny _ A.in1 (newList [] >>= λl=>again (.builtin "list.__iadd__" ⟨[l,.ref r],[]⟩)) _ _ s;refine aa (jw ?_);refine aj ⟨plainId_quiet F.plain_list_iadd _,m7 F.entry_list_iadd ?_⟩;rw[j0 F.plain_list_iadd _];show wpAny _ A.in1 (Builtin.List.listExtendWith (.ref s.heap.objs.size) (.ref r) (.ref s.heap.objs.size)) _ _ _;have keep:∀b o,s.heap.get? b=some o->(s.heap.push { cls:=.type "list",data:=.seq ([]:Zl).toArray }).get? b=some o:=λb o e=>ao _ e
 have hS0:(s.heap.push { cls:=.type "list",data:=.seq ([]:Zl).toArray }).get? s.heap.objs.size=some { cls:=.type "list",data:=.seq #[] 0 }:=bf _ rfl;have ext:=wpAny_extend_range (prog:=prog) (w:=w) (A:=A) (R:=λr' s'=>∃(h':Heap)(tk:Nat)(acc:U1)(c':Nat),r'=.ok (.ret (.ref s.heap.objs.size))/\s'={ s with heap:=h',toks:=tk }/\(∀b o,s.heap.get? b=some o->h'.get? b=some o)
 /\h'.get? s.heap.objs.size=some { cls:=.type "list",dict:=none,data:=.seq acc c',slots:=#[] }/\ItemsOf (λi v=>∃t,v=.int (a+i*c) t) acc n)
  (s:={ s with heap:=s.heap.push { cls:=.type "list",data:=.seq ([]:Zl).toArray } }) hh (keep _ _ hr) Xf hn hlen s.heap.objs.size (.ref s.heap.objs.size) 0 hS0
  λh' tk acc c' hk hS Fj=>⟨h',tk,acc,c',rfl,rfl,λb o e=>hk b o (dw (az e)) (keep b o e),hS,Fj⟩
 have last:∀{r':Result}{s':Shared},(∃(h':Heap)(tk:Nat)(acc:U1)(c':Nat),r'=.ok (.ret (.ref s.heap.objs.size))/\s'={ s with heap:=h',toks:=tk }/\(∀b o,s.heap.get? b=some o->h'.get? b=some o)
 /\h'.get? s.heap.objs.size=some { cls:=.type "list",dict:=none,data:=.seq acc c',slots:=#[] }/\ItemsOf (λi v=>∃t,v=.int (a+i*c) t) acc n)->∃(h':Heap)(tk:Nat)(acc:U1)(c':Nat),r'=.ok (.ret (.ref s.heap.objs.size))/\s'={ s with heap:=h',toks:=tk }/\h'.get? s.heap.objs.size=some { cls:=.type "list",dict:=none,data:=.seq acc c',slots:=#[] }/\Q acc.toList s':=λ⟨h',tk,acc,c',e1,e2,e3,e4,e5⟩=>⟨h',tk,acc,c',e1,e2,e4,by rw[e2];exact hQ h' tk acc e3 e5⟩
 refine mj ext (λfin s' hf=>?_) (λe s' he=>?_)
 . cases fin with
   |done f =>
    obtain⟨h',tk,acc,c',e1,rfl,e4,e5⟩:=last hf;cases e1;exact aa (wpAny_load e4 (aj e5))
   |again c' =>
    refine⟨hf.1,vo hf.2 λr' s'' hr'=>?_⟩;obtain⟨h',tk,acc,c',e1,rfl,e4,e5⟩:=last hr';subst e1;exact aa (wpAny_load e4 (aj e5))
 . obtain⟨_,_,_,_,e1,_⟩:=last he
   cases e1
def Uc{n:Nat}(hh:A.handled=none)(hr:IsRange s.heap r a b c t u v)(Xf:Builtin.Range.small a b c=true)(hn:Builtin.Range.rangeSize a b c=n)(hlen:n<=2 ^ 24)(h:∀(h':Heap) (tk:Nat) (acc:U1),(∀b o,s.heap.get? b=some o->h'.get? b=some o)->ItemsOf (λi v=>∃t,v=.int (a+i*c) t) acc n->Q₁ (.ref h'.objs.size) { s with heap:=h'.push { cls:=.type "tuple",data:=.seq acc },toks:=tk }) :
 codeAny (model prog w) A (.call (.builtin "tuple.__new__") ⟨[.type "tuple",.ref r],[]⟩) (wants Q₁ E) s:=by
 refine codeAny_of_tree ?_;show wpAny _ A.in1 (do checkBuiltinCall "tuple.__new__" ⟨[.type "tuple",.ref r],[]⟩;again (.builtin "tuple.__new__" ⟨[.type "tuple",.ref r],[]⟩)) _ _ s;refine aa (wpAny_of_eq (F.newCall_tuple_1 _) (aj ⟨plainId_quiet F.plain_tuple_new _,m7 F.entry_tuple_new ?_⟩));rw[j0 F.plain_tuple_new _];have aah:=sub_tuple_self;have bhu:=init_tuple_lookup;have hmh:=madeHere_tuple;have hTI:s.TypeIs (.ref r) "range" := ⟨_,hr,rfl⟩
 wp_walk using qg hTI,Yu (A:=A.in1) hh hr Xf hn hlen
 intro h' tk acc hk Fj;show wpAny _ _ (Builtin.Tuple.tupleExact acc.toList.toArray >>= λv=>ret v) _ _ _;unfold Builtin.Tuple.tupleExact;refine aa (jw ?_ (by show acc.toList.toArray.size<=sizeLine;simp only[Array.toArray_toList];rw[Fj.1,qm];exact hlen));refine aj ?_;have e:acc.toList.toArray=acc:=by simp
 rw[e];exact h h' tk acc hk Fj
def Ud{n:Nat}(hh:A.handled=none)(hr:IsRange s.heap r a b c t u v)(Xf:Builtin.Range.small a b c=true)(hn:Builtin.Range.rangeSize a b c=n)(hlen:n<=2 ^ 24)(hQ:∀(h':Heap) (tk:Nat) (acc:U1),(∀b o,s.heap.get? b=some o->h'.get? b=some o)->ItemsOf (λi v=>∃t,v=.int (a+i*c) t) acc n->Q (.ref h'.objs.size) { s with heap:=h'.push { cls:=.type "tuple",data:=.seq acc },toks:=tk }) :
 wpAny (model prog w) A (call (.type "tuple") [.ref r]) Q E s:=by
 refine callType_codes (Q₁:=λobj s₁=>s₁.TypeIs obj "tuple"/\Q obj s₁) F.called_tuple (F.typeCall_tuple_1 _) F.entry_object_init
  (Uc (A:=A.in1) hh hr Xf hn hlen λh' tk acc hk Fj=>⟨⟨_,bf _ rfl,rfl⟩,hQ h' tk acc hk Fj⟩) λobj s₁ h₁=>?_
 exact⟨h₁.1,F.args_object_init_2 obj _,object_init_meets F.called_tuple.init.lookup F.called_tuple.made (by decide) prog w A.in1 _ s₁ ⟨h₁.1,rfl,h₁.2⟩⟩
def Xg(h:ItemsOf (λi v=>∃t,v=.int (0+(i:Int)*1) t) acc n):Vals ((List.range n).map λ(k:Nat)=>V.int (k:Int)) acc.toList:=by
 have go:∀(l:Zl)(k:Nat),(∀(j:Nat)(v:Value),l[j]?=some v->∃t,v=Value.int ((k+j:Nat):Int) t)->Vals ((List.range' k l.length).map λ(k:Nat)=>V.int (k:Int)) l:=by
  intro l
  induction l with
  |nil=>intro k _;exact .nil
  |cons v l ih =>
   intro k hk;rw[gr,List.range'_succ,ig];refine .cons ?_ (ih (k+1) λj v hj=>?_)
   . exact hk 0 v rfl
   . obtain⟨t,e⟩:=hk (j+1) v (by simpa using hj)
     exact⟨t,by rw[e];congr 1;lia⟩
 have:=go acc.toList 0 (λj v hj=>by
  obtain⟨t,e⟩:=h.2 j v (by simpa using hj);exact⟨t,by rw[e];congr 1;lia⟩)
 rw[t7,h.1,<- List.range_eq_range'] at this;exact this
def Xh(n:Nat):lg K ι H ((List.range n).map λ(k:Nat)=>MW.D.int (k:Int)) ((List.range n).map λ(k:Nat)=>V.int (k:Int)):=by
 generalize List.range n=l
 induction l with
 |nil=>exact .nil|cons k l ih=>exact .cons (.int _) ih
set_option tactic.hygienic true in
def a1j(hr:Af 8 X.A)(hg:Gl X n)(hm:X.mg n=none)(hv:bootBuiltins n=some (.type "tuple"))(hn:n≠"__name__")(Ux:(n==("__debug__" : Str))=false)(hg2:Gl X tn)(hm2:X.mg tn=none)(hv2:bootBuiltins tn=some (.type "range"))(Yh:tn≠"__name__")(agy:(tn==("__debug__" : Str))=false)(ha:PA X [a] (Yc nm W X.K (.cons a' .nil)))(he:starEach [.Call (.Name tn p') [a] [] q2] X.env=(false,eval (.Call (.Name tn p') [a] [] q2) X.env)::starEach [] X.env)(Jg:(backTo q1 (starEach [] X.env)).any (·.1)=false)(he2:starEach [a] X.env=(false,eval a X.env)::starEach [] X.env)(agw:(backTo q2 (starEach [] X.env)).any (·.1)=false) :
 PE X (.Call (.Name n p) [.Call (.Name tn p') [a] [] q2] [] q1) (tE nm W X.K (.afv a')):=by
 intro pins s σ H Q I hh;obtain⟨ι,ρ,M,d,M',S,R,e,q⟩:=hh;rw[MW.amr] at e;obtain⟨x,M1,e1,e⟩:=fc e;split at e<;>try cases e
 rename_i i;split at e<;>cases e;rename_i hi;refine iz (Dr I hg hm hv ?_ hn Ux);refine je (Q:=EP X pins σ Q) ?_ he Jg;rw[he];show wpAny _ _ (spliced ((false,eval (.Call (.Name tn p') [a] [] q2) X.env)::backTo q1 (starEach [] X.env))) _ _ s;refine uc ?_;refine iz (Dr I hg2 hm2 hv2 ?_ Yh agy);refine je (Bq (ha q2 pins s σ H (λvs H1=>∃ι1,vs=[.int i]/\Le ι H ι1 H1/\m5 nm X.K ι1 H1 M') I ⟨ι,ρ,M,[.int i],M',S,R,by simp[e1,Res.bind],fun ι1 H1 vs le S1 r=>?_⟩) λus s1 ⟨vs,H1,I1,r1,ι1,ev,Vu,S1⟩=>?_) he2 agw
 . obtain⟨v,ev,rv⟩:=J5 r rfl
   cases rv;exact⟨ι1,ev,le,S1⟩
 subst ev;obtain⟨u,rfl,ru⟩:=Ub r1;obtain⟨t,rfl⟩:=ru;refine call_range_1 ?_;show wpAny _ _ (spliced []) _ _ _;refine wg ?_;have keep:∀b o,s1.heap.get? b=some o->(s1.heap.push { cls:=.type "range",data:=.fields #[.int 0 s1.toks,.int i t,.int 1 (s1.toks+1)] }).get? b=some o:=λb o e=>ao _ e
 refine Ud (n:=i.toNat) hr.hd (bf _ rfl) (small_one (by lia) (by lia) (by lia) (by omega)) (by rw[rangeSize_one];split<;>lia) (by lia) λh' tk acc hk Fj=>?_
 have I2:Inv X pins σ H1 { s1 with heap:=h',toks:=tk }:=I1.kept λb o e=>hk b o (keep b o e)
 have hz:((List.range i.toNat).map λ(k:Nat)=>V.int (k:Int)).length<=sizeLine:=by simp[qm];omega
 have hf:H1 h'.objs.size=none:=I2.An.fresh (bc _);have I3:Inv X pins σ (upd H1 h'.objs.size (.tup ((List.range i.toNat).map λ(k:Nat)=>V.int (k:Int)))) { s1 with heap:=h'.push { cls:=.type "tuple",data:=.seq acc },toks:=tk } :=
  I2.laid (a:=h'.objs.size) (t':=tk) (λb o e=>ao _ e) (bc _) (show Bv X.prog X.w _ _ _ (.tup _) from⟨hz,acc.toList,Xg Fj,by simpa using L2.Vg.new _ _⟩)
 obtain⟨S2,zy,r2⟩:=J2 (X:=X) S1 hf (Xh i.toNat);exact⟨.ref h'.objs.size,_,I3,rfl,q ι1 _ _ (Vu.trans zy) S2 r2⟩
end Sm
namespace EnT
open PySem PySem.Spec
open AutoSeq1 (wpAny_loadPart')
set_option tactic.hygienic true in
def Sv(a:s.heap.IsTupleIter it t i)(b:s.heap.IsTuple t xs)(e:xs[i]?=some x)(q:∀h',h'.IsTupleIter it t (i+1)->Heap.SameBut it s.heap h'->Q x { s with heap:=h' }):wpAny (model prog w) A (Builtin.SmallTypes.nextOf (.ref it)) Q E s:=by obtain⟨o,o1,o2,o3⟩:=id a;obtain⟨ol,l1,l2,nl,l3⟩:=b;unfold Builtin.SmallTypes.nextOf;refine aa (jt (name:=Str.ofString "__next__") a.typeIs ur (jk ur a.typeIs F.entry_tuple_iterator_next ?_ (F.args_tuple_iterator_next_1 _)));show wpAny _ _ (field (.ref it) 0 >>= _) _ _ s;refine aa (ie o1 o3 (x:=.ref t) rfl ?_);show wpAny _ _ (if(Value.ref t==Value.none)=true then _ else field (.ref it) 1 >>= _) _ _ s;rw[bx (show ¬((Value.ref t==Value.none)=true) by exact jc)];refine aa (ie o1 o3 (x:=.int i 0) rfl (aa (o6 l1 l3 ?_)));simp only[uw,e];refine aa (wpAny_setField o1 o3 (by simp) (aj ⟨x,rfl,aj (q _ ⟨_,mz _ o1 (Obj.isFreed_of_fields (Obj.data_mapFields o3 _)),(Obj.cls_mapFields ..).trans o2,?_⟩ (jy ..))⟩));rw[Obj.data_mapFields o3];simp[rawInt]
set_option tactic.hygienic true in
def aiq(hd:A.handled=none)(a:s.heap.IsTupleIter it t i)(b:s.heap.IsTuple t xs)(e:xs[i]?=none)(q:∀h' x,Heap.ExtBut it s.heap h'->(∃o,h'.get? x=some o/\o.cls=.type "StopIteration")->E (.ref x) { s with heap:=h' }):wpAny (model prog w) A (Builtin.SmallTypes.nextOf (.ref it)) Q E s:=by obtain⟨o,o1,o2,o3⟩:=id a;obtain⟨ol,l1,l2,nl,l3⟩:=b;unfold Builtin.SmallTypes.nextOf;refine aa (jt (name:=Str.ofString "__next__") a.typeIs ur (jk ur a.typeIs F.entry_tuple_iterator_next ?_ (F.args_tuple_iterator_next_1 _)));show wpAny _ _ (field (.ref it) 0 >>= _) _ _ s;refine aa (ie o1 o3 (x:=.ref t) rfl ?_);show wpAny _ _ (if(Value.ref t==Value.none)=true then _ else field (.ref it) 1 >>= _) _ _ s;rw[bx (show ¬((Value.ref t==Value.none)=true) by exact jc)];refine aa (ie o1 o3 (x:=.int i 0) rfl (aa (o6 l1 l3 ?_)));simp only[uw,e];refine aa (wpAny_rule (aa (wpAny_setField o1 o3 (by simp) ?_)));show wpAny _ _ (newExc (.type "StopIteration") [] >>= raiseNew) _ _ _;exact Yy.ahh hd λh' x k e=>q h' x (λb o n z=>k b o ((jy ..).extBut b o n z)) e
def ItB(b:Bool)(h:Heap)(it a:Addr)(i:Nat):Prop:=cond b (h.IsTupleIter it a i) (h.IsListIter it a i)
def SqB(b:Bool)(h:Heap)(a:Addr)(xs:U1):Prop:=cond b (h.IsTuple a xs) (h.IsList a xs)
def ItB.at(x:ItB b h it a i)(k:∀o,h.get? it=some o->h'.get? it=some o):ItB b h' it a i:=by
 cases b with
 |true=>obtain⟨o,e,r⟩:=x;exact⟨o,k o e,r⟩
 |false=>obtain⟨o,e,r⟩:=x;exact⟨o,k o e,r⟩
def ItB.obj(x:ItB b h it a i):∃o,h.get? it=some o/\∀v,o.data≠.cell v:=by
 cases b with
 |true=>obtain⟨o,e,c,d⟩:=x;exact⟨o,e,λv z=>by rw[d] at z;cases z⟩
 |false=>obtain⟨o,e,c,d⟩:=x;exact⟨o,e,λv z=>by rw[d] at z;cases z⟩
def apq(a:ItB b s.heap it t i)(c:SqB b s.heap t xs)(e:xs[i]?=some x)(q:∀h',ItB b h' it t (i+1)->Heap.SameBut it s.heap h'->Q x { s with heap:=h' }):wpAny (model prog w) A (Builtin.SmallTypes.nextOf (.ref it)) Q E s:=by
 cases b with
 |true=>exact Sv a c e q|false=>exact wpAny_nextOf_list_item a c e q
def au6(hd:A.handled=none)(a:ItB b s.heap it t i)(c:SqB b s.heap t xs)(e:xs[i]?=none)(q:∀h' x,Heap.ExtBut it s.heap h'->(∃o,h'.get? x=some o/\o.cls=.type "StopIteration")->E (.ref x) { s with heap:=h' }):wpAny (model prog w) A (Builtin.SmallTypes.nextOf (.ref it)) Q E s:=by
 cases b with
 |true=>exact aiq hd a c e q|false=>exact wpAny_nextOf_list_end hd a c e q
def au7{i:Nat}{Q:Y1}(he:IsEnum s.heap e it i old)(a:ItB b s.heap it t i)(c:SqB b s.heap t xs)(ex:xs[i]?=some x)(ne:e≠it)(q:∀h',IsEnumOut h' e it ((i:Int)+1) x s.heap.objs.size->ItB b h' it t (i+1)->h'.get? s.heap.objs.size=some { cls:=.type "tuple",data:=.seq #[.int i s.toks,x] }->h'.objs.size=s.heap.objs.size+1 ->
 (∀y o,y≠e->y≠it->s.heap.get? y=some o->h'.get? y=some o)->Q (.ref s.heap.objs.size) { s with heap:=h',toks:=s.toks+1 }) :
 wpAny (model prog w) A (Builtin.«enumerate.__next__» ⟨[.ref e],[]⟩) (λfin s'=>∃v,fin=.done (.ret v)/\Q v s') E s:=by
 obtain⟨hp,g,d,tk,os⟩:=s;show wpAny _ _ (field (.ref e) 2 >>= _) _ _ _;refine aa (ie he rfl (x:=.ref it) rfl (aa (apq a c ex λh1 a1 s1=>?_)));have s1:Heap.SameBut it hp h1:=s1;have e1:IsEnum h1 e it i old:=(s1.2 e ne).trans he;refine aa (ie e1 rfl (x:=rawInt i) rfl (aa (ie e1 rfl (x:=.none) rfl (aa (wpAny_mkInt ?_)))));show wpAny _ _ (setField (.ref e) 3 (rawInt ((i:Int)+1)) >>= _) _ _ ⟨h1,g,d,tk+1,os⟩;refine aa (jb e1 (by simp) λh2 e2 s2=>?_);have s2:Heap.SameBut e h1 h2:=s2;have e2:IsEnum h2 e it ((i:Int)+1) old:=e2;refine aa (jb e2 (by simp) λh3 e3 s3=>?_);have s3:Heap.SameBut e h2 h3:=s3;have e3:IsEnum h3 e it ((i:Int)+1) old:=e3;refine aa (wpAny_newTuple ?_);have n3:h3.objs.size=hp.objs.size:=by rw[s3.1,s2.1,s1.1]
 obtain⟨h4,d4⟩:∃h4,h4=h3.push { cls:=.type "tuple",data:=.seq #[.int i tk,x] }:=⟨_,rfl⟩;have e4:IsEnum h4 e it ((i:Int)+1) old:=by rw[d4];exact ao _ e3
 have t4:h4.get? hp.objs.size=some { cls:=.type "tuple",data:=.seq #[.int i tk,x] }:=by rw[d4,<- n3];exact bf _ rfl
 have n4:h4.objs.size=hp.objs.size+1:=by rw[d4,gw,n3]
 have k3:∀y o,y≠e->h1.get? y=some o->h4.get? y=some o:=λy o hy z=>by rw[d4];exact ao _ (s3.extBut y o hy (s2.extBut y o hy z))
 have a4:ItB b h4 it t (i+1):=a1.at λo z=>k3 it o (jz ne) z
 have lt:e<hp.objs.size:=az he
 show wpAny _ _ (Builtin.SmallTypes.ownedTupleIsFree (.ref e) >>= _) _ _ ⟨h3.push _,g,d,tk+1,os⟩;rw[n3,<- d4];refine aa ?_;unfold Builtin.SmallTypes.ownedTupleIsFree;refine aa (ie e4 rfl (x:=.none) rfl (aj ?_));simp only[ju];refine aa (wpAny_rule (aa (ie e4 rfl (x:=old) rfl (aa (jb e4 (by simp) λh5 e5 s5=>?_)))));have s5:Heap.SameBut e h4 h5:=s5;have e5:IsEnum h5 e it ((i:Int)+1) x:=e5;refine aa ?_;unfold Builtin.SmallTypes.ownedTupleHandOut;refine aa (jb e5 (by simp) λh6 e6 s6=>?_);have s6:Heap.SameBut e h5 h6:=s6;have e6:IsEnumOut h6 e it ((i:Int)+1) x hp.objs.size:=e6;refine jb e6 (by simp) λh7 e7 s7=>?_
 have s7:Heap.SameBut e h6 h7:=s7;have k7:∀y o,y≠e->h4.get? y=some o->h7.get? y=some o:=λy o hy z=>s7.extBut y o hy (s6.extBut y o hy (s5.extBut y o hy z))
 exact aa (wpAny_letGo (aj ⟨_,rfl,q h7 e7 (a4.at λo z=>k7 it o (jz ne) z) (k7 _ _ (u0 lt) t4) (by rw[s7.1,s6.1,s5.1,n4]) λy o y1 y2 z=>k7 y o y1 (k3 y o y1 (s1.extBut y o y2 z))⟩))
set_option tactic.hygienic true in
def au8{i:Nat}(he:IsEnum s.heap e it i old)(a:ItB b s.heap it t i)(c:SqB b s.heap t xs)(ex:xs[i]?=some x)(ne:e≠it)(q:∀h',IsEnumOut h' e it ((i:Int)+1) x s.heap.objs.size->ItB b h' it t (i+1)->h'.get? s.heap.objs.size=some { cls:=.type "tuple",data:=.seq #[.int i s.toks,x] }->h'.objs.size=s.heap.objs.size+1 ->
 (∀y o,y≠e->y≠it->s.heap.get? y=some o->h'.get? y=some o)->Q (some (.ref s.heap.objs.size)) { s with heap:=h',toks:=s.toks+1 }):wpAny (model prog w) A (pyNext (.ref e)) Q E s:=by
 have ty:s.TypeIs (.ref e) "enumerate" := ⟨_,he,rfl⟩;unfold pyNext;refine aa (wpAny_attempt (jt (name:=Str.ofString "__next__") ty wu (jk wu ty F.entry_enumerate_next ?_ (F.args_enumerate_next_1 _))));exact au7 he a c ex ne λh' y1 y2 y3 y4 y5=>aj (q h' y1 y2 y3 y4 y5)
set_option tactic.hygienic true in
def au9{i:Nat}(hd:A.handled=none)(he:IsEnum s.heap e it i old)(a:ItB b s.heap it t i)(c:SqB b s.heap t xs)(ex:xs[i]?=none)(q:∀h',Heap.ExtBut it s.heap h'->Q none { s with heap:=h' }):wpAny (model prog w) A (pyNext (.ref e)) Q E s:=by have ty:s.TypeIs (.ref e) "enumerate" := ⟨_,he,rfl⟩;unfold pyNext;refine aa (wpAny_attempt (jt (name:=Str.ofString "__next__") ty wu (jk wu ty F.entry_enumerate_next ?_ (F.args_enumerate_next_1 _))));show wpAny _ _ (field (.ref e) 2 >>= _) _ _ _;refine aa (ie he rfl (x:=.ref it) rfl (aa (au6 hd a c ex λh' z k ⟨o,o1,o2⟩=>?_)));exact aa (o8 (T := "StopIteration") (b:=true) ⟨o,o1,o2⟩ isSubtype_stop (aj (q _ k)))
set_option tactic.hygienic true in
def ava(t:Addr)(xs:U1)(n:Nat)(dct:Option Addr)(sl:Array (Option Value)) :
 Meets (Builtin.«enumerate.__new__» ⟨[.type "enumerate",.ref t],[]⟩) (λ_ R s=>s.heap.get? t=some { cls:=.type "tuple",dict:=dct,data:=.seq xs n,slots:=sl } /\
  R (.ok (.ret (.ref (s.heap.push { cls:=.type "tuple_iterator",data:=.fields #[.ref t,.int 0 0] }).objs.size)))
   { s with heap:=(s.heap.push { cls:=.type "tuple_iterator",data:=.fields #[.ref t,.int 0 0] }).push { cls:=.type "enumerate",data:=.fields #[.none,.bool false,.ref s.heap.objs.size,rawInt 0,.none,.none] } }) :=
 .of_wp λprog w A R s h=>by
  obtain⟨hp,g,d,tk,os⟩:=s;obtain⟨hl,h⟩:=h;have aah:=sub_enumerate;have hT:Heap.IsTuple (Shared.heap ⟨hp,g,d,tk,os⟩) t xs:=⟨_,hl,rfl,n,rfl⟩
  wp_walk using wpAny_loadPart' hl
  refine wpAny_stack_any λst=>aj ?_
  split
  . rename_i c _ _ _ _ _
    cases(c==Value.type "enumerate")<;>(wp_walk using wpAny_loadPart' hl,ud hT)<;>exact⟨_,rfl,h⟩
  . wp_walk using wpAny_loadPart' hl,ud hT
    exact⟨_,rfl,h⟩
def apr(c:s.heap.IsTuple t xs)(q:∀h',IsEnum h' (s.heap.objs.size+1) s.heap.objs.size 0 .none->h'.IsTupleIter s.heap.objs.size t 0->h'.objs.size=s.heap.objs.size+2 ->
 (∀y o,s.heap.get? y=some o->h'.get? y=some o)->Q (.ref (s.heap.objs.size+1)) { s with heap:=h' }):wpAny (model prog w) A (call (.type "enumerate") [.ref t]) Q E s:=by
 obtain⟨⟨c0,dct,dt,sl⟩,hl,hc,n,hd⟩:=c;have hc:c0=.type "tuple" := hc;have hd:dt=.seq xs n:=hd;subst hc hd;have n1:(s.heap.push { cls:=.type "tuple_iterator",data:=.fields #[.ref t,.int 0 0] }).objs.size=s.heap.objs.size+1:=gw ..;refine callType_new F.called_enumerate (by decide) (F.typeCall_enumerate_1 _) (F.newCall_enumerate_1 _) (λobj=>F.args_object_init_2 obj _) F.entry_enumerate_new (ava t xs n dct sl) ⟨hl,?_⟩;show _/\_;rw[n1];have e1:IsEnum ((s.heap.push { cls:=.type "tuple_iterator",data:=.fields #[.ref t,.int 0 0] }).push { cls:=.type "enumerate",data:=.fields #[.none,.bool false,.ref s.heap.objs.size,rawInt 0,.none,.none] }) (s.heap.objs.size+1) s.heap.objs.size 0 .none:=by rw[<- n1];exact bf _ rfl
 exact⟨⟨_,e1,rfl⟩,q _ e1 ⟨_,ao _ (bf _ rfl),rfl,rfl⟩ (by rw[gw,n1]) λy o z=>ao _ (ao _ z)⟩
end EnT
namespace L2
open PySem PySem.Spec EnT
def Inv.Z0{ch:X9}(I:Inv X pins σ H s)(hf:∀b∈ch,Vi X pins H b)(k:∀b o,b∉ch->s.heap.get? b=some o->h'.get? b=some o)(hn:s.heap.objs.size<=n)(new:Bv X.prog X.w (upd H n (.tup vs)) h' n (.tup vs)):Inv X pins σ (upd H n (.tup vs)) { s with heap:=h',toks:=t' }:=by
 have fr:H n=none:=I.An.fresh hn;have nch:∀b u,H b=some u->b∉ch:=λb u e z=>by rw[(hf b z).1] at e;cases e
 have old:∀b o,s.heap.get? b=some o->b≠n:=λb o e=>dw (gm (az e) hn)
 refine I.step (g':=s.gens) (d':=s.drawn) (ch:=ch) (λb hb=>⟨(hf b hb).2.2.2.1,(hf b hb).2.1,(hf b hb).2.2.2.2.1,(hf b hb).2.2.2.2.2⟩) (λb o _ _ hc e _=>k b o hc e) (λb o _ _ hc e _=>⟨o.slots,k b o hc e⟩) (λb o _ e n0=>by rw[j8 (old b o e)];exact n0)
  (λb o hc e=>⟨o,k b o hc e⟩) (λb xs e=>by rw[j8 (kh e fr)];exact e) (λb o u e=>by rw[j8 (kh e fr)];exact e) (λb ps e=>⟨#[],by rw[j8 (kh e fr),e];simp⟩) (λm hm=>?_) (λb u e=>?_) I.bare
 . obtain⟨o,es,ep,ho,r⟩:=hm
   exact⟨o,es,ep,k _ o (λz=>(hf _ z).2.1 rfl) ho,r⟩
 . by_cases z:b=n
   . subst z;rw[wj] at e;cases e;exact new
   . rw[j8 z] at e
     refine(I.An b u e).stay (λc v hc q=>k c v ?_ q) (λc q=>by rw[j8 (kh q fr)];exact q) λc xs q=>by rw[j8 (kh q fr)];exact q
     rcases hc with y|y
     . rw[y];exact nch b u e
     . exact nch c _ y
def Inv.air{ch:X9}(I:Inv X pins σ H s)(hf:∀b∈ch,Vi X pins H b)(k:∀b o,b∉ch->s.heap.get? b=some o->h'.get? b=some o):Inv X pins σ H { s with heap:=h',toks:=t' }:=by
 have nch:∀b u,H b=some u->b∉ch:=λb u e z=>by rw[(hf b z).1] at e;cases e
 refine I.step (g':=s.gens) (d':=s.drawn) (ch:=ch) (λb hb=>⟨(hf b hb).2.2.2.1,(hf b hb).2.1,(hf b hb).2.2.2.2.1,(hf b hb).2.2.2.2.2⟩) (λb o _ _ hc e _=>k b o hc e) (λb o _ _ hc e _=>⟨o.slots,k b o hc e⟩) (λb o _ e n0=>n0)
  (λb o hc e=>⟨o,k b o hc e⟩) (λb xs e=>e) (λb o u e=>e) (λb ps e=>⟨#[],by rw[e];simp⟩) (λm hm=>?_) (λb u e=>?_) I.bare
 . obtain⟨o,es,ep,ho,r⟩:=hm
   exact⟨o,es,ep,k _ o (λz=>(hf _ z).2.1 rfl) ho,r⟩
 . refine(I.An b u e).stay (λc v hc q=>k c v ?_ q) (λ_ q=>q) λ_ _ q=>q
   rcases hc with y|y
   . rw[y];exact nch b u e
   . exact nch c _ y
def SqX(b:Bool)(K:Fg)(H:Hp)(a:Addr)(xs:List V):Prop:=cond b (Dw K H a xs) (Hm K H a xs)
def Inv.a1k(I:Inv X pins σ H s)(h:SqX b X.K H a xs):∃xq,Vals xs xq/\SqB b s.heap a xq.toArray:=by
 cases b with
 |true=>obtain⟨xq,rv,p,hz⟩:=I.tuple h;exact⟨xq,rv,show s.heap.IsTuple a xq.toArray from p⟩
 |false=>obtain⟨xq,rv,p,hz⟩:=I.list h;exact⟨xq,rv,p.isList⟩
def Inv.aps(I:Inv X pins σ H s)(h:SqX b X.K H a xs)(g:SqX b X.K H a ys):xs=ys:=by
 cases b with
 |true=>exact I.K6 h g|false=>exact I.adk h g
noncomputable def Ien(b:Bool)(K:Fg)(a:Addr):It :=
 ⟨λi H=>∃xs x,SqX b K H a xs/\xs[i]?=some x,λi H v H'=>∃p x,v=.ref p/\H p=none/\H'=upd H p (.tup [.int (i:Nat),x])/\∀xs,SqX b K H a xs->xs[i]?=some x,λi H=>∃xs,SqX b K H a xs/\xs.length<=i⟩
set_option tactic.hygienic true in
theorem avb(a e it:Addr)(ne:e≠it):Turn P w K (.Tuple ts k0 pt) (Ien b K a) [e,it] e (λi h=>(∃old,IsEnum h e it ((i:Nat):Int) old)/\ItB b h it a i) where
 mem:=by simp
 obj:=λi h st c hc=>by
  obtain⟨⟨old,e1⟩,e2⟩:=st;rcases bw.mp hc with z|z
  . subst z;exact⟨_,e1,λv z=>by cases z⟩
  . have z:c=it:=by simpa using z
    subst z;exact e2.obj
 keep:=λi h h' st k=>by obtain⟨⟨old,e1⟩,e2⟩:=st;exact⟨⟨old,k e (by simp) _ e1⟩,e2.at λo z=>k it (by simp) o z⟩
 item:=by
  intro X hP hw hK hc i pins s σ H E I hf st hg;subst hP hw hK;obtain⟨xs,x,hq,hx⟩:=hg;obtain⟨xq,rv,p⟩:=I.a1k hq;obtain⟨u,hu,ru⟩:=rv.get hx;obtain⟨⟨old,e1⟩,e2⟩:=st;have lt:e<s.heap.objs.size:=az e1
  refine au8 e1 e2 p (x:=u) (by simpa using hu) ne λh1 o1 a1 t1 n1 k1=>⟨_,rfl,?_⟩
  refine wpAny_letOwnedTupleGo_enum o1 λh2 o2 s2=>?_
  have s2:Heap.SameBut e h1 h2:=s2;have t2:h2.get? s.heap.objs.size=some { cls:=.type "tuple",data:=.seq #[.int i s.toks,u] }:=(s2.2 _ (u0 lt)).trans t1;refine⟨.ref s.heap.objs.size,upd H s.heap.objs.size (.tup [.int (i:Nat),x]),I.Z0 (t':=s.toks+1) hf (λc o hc z=>?_) (bc _) ⟨by show 2<=sizeLine;decide,[.int i s.toks,u],.cons ⟨s.toks,rfl⟩ (.cons ru .nil),⟨_,t2,rfl,_,rfl,rfl⟩⟩,rfl,
   ⟨_,x,rfl,I.An.fresh (bc _),rfl,λys hy=>by rw[I.aps hy hq];exact hx⟩,⟨⟨u,?_⟩,a1.at λo z=>s2.extBut it o (jz ne) z⟩,λc hc=>?_⟩
  . have c1:c≠e:=λz=>hc (by simp[z])
    have c2:c≠it:=λz=>hc (by simp[z])
    exact s2.extBut c o c1 (k1 c o c1 c2 z)
  . have q:((i+1:Nat):Int)=(i:Int)+1:=by push_cast;rfl
    rw[q];exact o2
  . have lt2:c<s.heap.objs.size:=by
     rcases bw.mp hc with z|z
     . rw[z];exact lt
     . have z:c=it:=by simpa using z
       obtain⟨o,z2,_⟩:=e2.obj;rw[z];exact az z2
    rw[j8 (dw lt2)];exact(hf c hc).1
 done:=by intro X hP hw hK hc i pins s σ H E I hf st hg;subst hP hw hK;obtain⟨xs,hq,hx⟩:=hg;obtain⟨xq,rv,p⟩:=I.a1k hq;obtain⟨⟨old,e1⟩,e2⟩:=st;have hl:=rv.length;refine au9 (I.ok.hd hc) e1 e2 p (by simp;exact a_ (g_ hl) hx) λh' eb=>⟨rfl,I.air (t':=s.toks) hf λc o hc z=>eb c o (λy=>hc (by simp[y])) z⟩
 self:=λ_ _ _ _ _ st h=>by obtain⟨⟨old,e1⟩,e2⟩:=st;exact wpAny_pyIter_enum e1 h
def a83(hg:Gl X "enumerate")(hm:X.mg "enumerate" = none)(ha:PA X [a] ta)(hs:starEach [a] X.env=[(false,eval a X.env)]) :
 PI X (.Tuple ts k0 pt) (.Call (.Name "enumerate" p) [a] [] pos) (fun σ H R=>ta σ H λvs H1=>∃b q,vs=[.ref q]/\(∃xs,SqX b X.K H1 q xs)/\R (Ien b X.K q) H1):=by
 intro pins s σ H R I h;refine PyProof.Rows.Call_ (Dr I hg hm (show bootBuiltins "enumerate" = some (.type "enumerate") by decide+kernel) (je (Bq (ha pos pins s σ H _ I h) λus s1 ⟨vs,H1,I1,r1,q1⟩=>?_) hs rfl));obtain⟨b,q,rfl,⟨xs,hq⟩,hR⟩:=q1;cases r1 with
 |cons r rr =>
  cases rr;cases r;obtain⟨xq,rv,p⟩:=I1.a1k hq;have fin:∀h',IsEnum h' (s1.heap.objs.size+1) s1.heap.objs.size 0 .none->ItB b h' s1.heap.objs.size q 0->(∀y o,s1.heap.get? y=some o->h'.get? y=some o) ->
   wpAny (model X.prog X.w) X.A (pyIter (.ref (s1.heap.objs.size+1))) (PIE X pins σ (.Tuple ts k0 pt) R) X.xe { s1 with heap:=h' }:=λh' e1 e2 kk=>by
   refine wpAny_pyIter_enum e1 ?_;refine⟨s1.heap.objs.size+1,[s1.heap.objs.size+1,s1.heap.objs.size],_,_,H1,rfl,I1.kept (t':=s1.toks) kk,avb (b:=b) q _ _ (Nat.succ_ne_self _),⟨⟨.none,e1⟩,e2⟩,λc hc=>?_,hR⟩;have hle:s1.heap.objs.size<=c:=by
    rcases bw.mp hc with z|z
    . rw[z];exact uz _
    . have z:c=s1.heap.objs.size:=by simpa using z
      rw[z];exact bc _
   exact I1.anw hle (I1.An.fresh hle)
  cases b with
  |true=>exact apr p λh' e1 e2 _ kk=>fin h' e1 e2 kk
  |false=>exact call_enumerate_list p λh' e1 e2 _ kk=>fin h' e1 e2 kk
end L2
namespace EnT
open PySem PySem.Spec
noncomputable def tp3(x y z:Value):Obj:={ cls:=.type "tuple",data:=.seq #[x,y,z] }
structure Z3(h0:Heap)(n l1 l2 l3:Nat)(f0:Value)(p q r:Value)(k1 k2 k3:Nat)(g:Heap):Prop where
 z:IsZip g (n+5) (n+3) (n+4) f0
 o:g.get? (n+4)=some (tp3 p q r)
 a:g.IsTupleIter n l1 k1
 b:g.IsTupleIter (n+1) l2 k2
 c:g.IsTupleIter (n+2) l3 k3
 k:∀c o,(c<n\/c=n+3\/n+5<c)->h0.get? c=some o->g.get? c=some o
def Fe{h h':Heap}{i l k:Nat}(x:h.IsTupleIter i l k)(e:∀o,h.get? i=some o->h'.get? i=some o):h'.IsTupleIter i l k:=let ⟨o,a,b⟩:=x;⟨o,e o a,b⟩
def Z4{h h':Heap}{a:Nat}{xs:U1}(x:h.IsTuple a xs)(e:∀o,h.get? a=some o->h'.get? a=some o):h'.IsTuple a xs:=let ⟨o,a,b⟩:=x;⟨o,e o a,b⟩
def Z3.sz(H:Z3 h0 n l1 l2 l3 f0 p q r k1 k2 k3 g)(e:Heap.ExtBut (n+5) g g')(z:IsZip g' (n+5) (n+3) (n+4) f1):Z3 h0 n l1 l2 l3 f1 p q r k1 k2 k3 g' :=
 ⟨z,e _ _ (by lia) H.o,Fe H.a λo=>e _ o (by lia),Fe H.b λo=>e _ o (by lia),Fe H.c λo=>e _ o (by lia),λc o hc z=>e _ _ (by lia) (H.k c o hc z)⟩
def Z3.so(H:Z3 h0 n l1 l2 l3 f0 p q r k1 k2 k3 g)(e:Heap.ExtBut (n+4) g g')(z:g'.get? (n+4)=some (tp3 p' q' r')):Z3 h0 n l1 l2 l3 f0 p' q' r' k1 k2 k3 g' :=
 ⟨e _ _ (by lia) H.z,z,Fe H.a λo=>e _ o (by lia),Fe H.b λo=>e _ o (by lia),Fe H.c λo=>e _ o (by lia),λc o hc z=>e _ _ (by lia) (H.k c o hc z)⟩
def Z3.sa(H:Z3 h0 n l1 l2 l3 f0 p q r k1 k2 k3 g)(e:Heap.ExtBut n g g')(z:g'.IsTupleIter n l1 j):Z3 h0 n l1 l2 l3 f0 p q r j k2 k3 g' :=
 ⟨e _ _ (by lia) H.z,e _ _ (by lia) H.o,z,Fe H.b λo=>e _ o (by lia),Fe H.c λo=>e _ o (by lia),λc o hc z=>e _ _ (by lia) (H.k c o hc z)⟩
def Z3.sb(H:Z3 h0 n l1 l2 l3 f0 p q r k1 k2 k3 g)(e:Heap.ExtBut (n+1) g g')(z:g'.IsTupleIter (n+1) l2 j):Z3 h0 n l1 l2 l3 f0 p q r k1 j k3 g' :=
 ⟨e _ _ (by lia) H.z,e _ _ (by lia) H.o,Fe H.a λo=>e _ o (by lia),z,Fe H.c λo=>e _ o (by lia),λc o hc z=>e _ _ (by lia) (H.k c o hc z)⟩
def Z3.sc(H:Z3 h0 n l1 l2 l3 f0 p q r k1 k2 k3 g)(e:Heap.ExtBut (n+2) g g')(z:g'.IsTupleIter (n+2) l3 j):Z3 h0 n l1 l2 l3 f0 p q r k1 k2 j g' :=
 ⟨e _ _ (by lia) H.z,e _ _ (by lia) H.o,Fe H.a λo=>e _ o (by lia),Fe H.b λo=>e _ o (by lia),z,λc o hc z=>e _ _ (by lia) (H.k c o hc z)⟩
def Z3.up(H:Z3 h0 n l1 l2 l3 f0 p q r k1 k2 k3 g)(e:∀c o,g.get? c=some o->g'.get? c=some o):Z3 h0 n l1 l2 l3 f0 p q r k1 k2 k3 g' :=
 ⟨e _ _ H.z,e _ _ H.o,Fe H.a (e _),Fe H.b (e _),Fe H.c (e _),λc o hc z=>e _ _ (H.k c o hc z)⟩
def abq{T:Addr}{Q:Unit->Shared->Prop}(hT:s.heap.get? T=some (tp3 a b c))(h:∀h',h'.get? T=some { cls:=.type "tuple",data:=.seq ((#[a,b,c]:U1).setIfInBounds k x) }->Heap.ExtBut T s.heap h'->h'.objs.size=s.heap.objs.size->Q () { s with heap:=h' }) :
 wpAny (model prog w) A (updateSeq T (·.setIfInBounds k x)) Q E s:=by
 have sb:Heap.SameBut T s.heap (s.heap.update T (Obj.mapSeq (·.setIfInBounds k x))):=jy ..;refine wpAny_updateSeq hT rfl (h _ ?_ sb.extBut sb.1);rw[mz _ hT rfl];simp[Obj.mapSeq,tp3]
def avc{n k:Nat}{Q:Y1}(H:Z3 s.heap n l1 l2 l3 .none p q r k k k s.heap)(hI:s.heap.get? (n+3)=some (tp3 (.ref n) (.ref (n+1)) (.ref (n+2))))(hl:l1<n/\l2<n/\l3<n)(c1:s.heap.IsTuple l1 xs)(c2:s.heap.IsTuple l2 ys)(c3:s.heap.IsTuple l3 us)(e1:xs[k]?=some x)(e2:ys[k]?=some y)(e3:us[k]?=some u)
 (hq:∀h',Z3 s.heap n l1 l2 l3 (rawInt s.heap.objs.size) x y u (k+1) (k+1) (k+1) h'->h'.get? s.heap.objs.size=some (tp3 x y u)->Q (.ref s.heap.objs.size) { s with heap:=h' }) :
 wpAny (model prog w) A (Builtin.«zip.__next__» ⟨[.ref (n+5)],[]⟩) (λfin s'=>∃v,fin=.done (.ret v)/\Q v s') E s:=by
 obtain⟨hl1,hl2,hl3⟩:=hl;have hz:=H.z;show wpAny _ _ (field (.ref (n+5)) 2 >>= _) _ _ _;refine aa (ie hz rfl (x:=.bool false) rfl (aa (ie hz rfl (x:=.ref (n+3)) rfl (aa (o6 hI rfl (aa ?_))))));unfold Builtin.SmallTypes.ownedTupleIsFree;refine aa (ie hz rfl (x:=.none) rfl (aj ?_));simp only[ju];refine aa (wpAny_rule (aa (ie hz rfl (x:=.ref (n+4)) rfl (aa (jb hz (by simp) λg1 z1 s1=>?_)))));have H1:=H.sz s1.extBut (f1:=.ellipsis) z1;refine aa ?_;simp only[List.zipIdx_cons,List.zipIdx_nil,List.forIn_cons,List.forIn_nil];refine aa (aa (wpAny_onRaise (aa (Sv (s:={ s with heap:=g1 }) H1.a (Z4 c1 λo=>H1.k _ o (by lia)) e1 λg2 i2 s2=>aj ?_))));have H2:=H1.sa s2.extBut i2;refine aa (o6 H2.o rfl (aa (abq H2.o λg3 o3 s3 n3=>?_)));have H3:=H2.so (p':=x) (q':=q) (r':=r) s3 o3;refine aa (wpAny_letGo (aj (aa (aa (wpAny_onRaise (aa (Sv (s:={ s with heap:=g3 }) H3.b (Z4 c2 λo=>H3.k _ o (by lia)) e2 λg4 i4 s4=>aj ?_)))))));have H4:=H3.sb s4.extBut i4;refine aa (o6 H4.o rfl (aa (abq H4.o λg5 o5 s5 n5=>?_)));have H5:=H4.so (p':=x) (q':=y) (r':=r) s5 o5;refine aa (wpAny_letGo (aj (aa (aa (wpAny_onRaise (aa (Sv (s:={ s with heap:=g5 }) H5.c (Z4 c3 λo=>H5.k _ o (by lia)) e3 λg6 i6 s6=>aj ?_)))))));have H6:=H5.sc s6.extBut i6;refine aa (o6 H6.o rfl (aa (abq H6.o λg7 o7 s7 n7=>?_)));have H7:=H6.so (p':=x) (q':=y) (r':=u) s7 o7;refine aa (wpAny_letGo (aj (aj (aa (o6 H7.o rfl (aa (wpAny_newTuple ?_)))))));have nn:g7.objs.size=s.heap.objs.size:=by rw[n7,show g6.objs.size=g5.objs.size from s6.1,n5,show g4.objs.size=g3.objs.size from s4.1,n3,show g2.objs.size=g1.objs.size from s2.1,s1.1]
 have H8:=H7.up (g':=g7.push (tp3 x y u)) λc o e=>ao _ e
 refine aa ?_;unfold Builtin.SmallTypes.ownedTupleHandOut;refine aa (jb H8.z (by simp) λg9 z9 s9=>?_);have H9:=H8.sz s9.extBut (f1:=rawInt g7.objs.size) z9;refine jb H9.z (by simp) λg10 z10 s10=>?_
 have H10:=H9.sz s10.extBut (f1:=rawInt g7.objs.size) z10;have zl:n+5<g7.objs.size:=az H7.z
 have t10:g10.get? g7.objs.size=some (tp3 x y u):=s10.extBut _ _ (u0 zl) (s9.extBut _ _ (u0 zl) (bf _ rfl));refine aj ⟨_,rfl,?_⟩;show Q (.ref g7.objs.size) _;rw[nn] at H10 t10 ⊢;exact hq g10 H10 t10
def a1l{n k:Nat}(hd:A.handled=none)(H:Z3 s.heap n l1 l2 l3 .none p q r k k k s.heap)(hI:s.heap.get? (n+3)=some (tp3 (.ref n) (.ref (n+1)) (.ref (n+2))))(hl:l1<n)(c1:s.heap.IsTuple l1 xs)(e1:xs[k]?=none)
 (hE:∀h' e,(∀c o,(c<n\/n+5<c)->s.heap.get? c=some o->h'.get? c=some o)->(∃o,h'.get? e=some o/\o.cls=.type "StopIteration")->E (.ref e) { s with heap:=h' }) :
 wpAny (model prog w) A (Builtin.«zip.__next__» ⟨[.ref (n+5)],[]⟩) Q E s:=by
 have hz:=H.z;show wpAny _ _ (field (.ref (n+5)) 2 >>= _) _ _ _;refine aa (ie hz rfl (x:=.bool false) rfl (aa (ie hz rfl (x:=.ref (n+3)) rfl (aa (o6 hI rfl (aa ?_))))));unfold Builtin.SmallTypes.ownedTupleIsFree;refine aa (ie hz rfl (x:=.none) rfl (aj ?_));simp only[ju];refine aa (wpAny_rule (aa (ie hz rfl (x:=.ref (n+4)) rfl (aa (jb hz (by simp) λg1 z1 s1=>?_)))));have H1:=H.sz s1.extBut (f1:=.ellipsis) z1;refine aa ?_;simp only[List.zipIdx_cons,List.zipIdx_nil,List.forIn_cons,List.forIn_nil];refine aa (aa (wpAny_onRaise (aa (aiq (s:={ s with heap:=g1 }) hd H1.a (Z4 c1 λo=>H1.k _ o (by lia)) e1 λg2 x s2 ⟨o,o1,o2⟩=>?_))));have z2:IsZip g2 (n+5) (n+3) (n+4) .ellipsis:=s2 _ _ (by lia) H1.z;have ne:x≠n+5:=λy=>by subst y;rw[z2] at o1;cases o1;simp at o2
 exact jb z2 (by simp) λg3 _ s3=>hE g3 x (λc o y1 e=>s3.extBut _ _ (by lia) (s2 _ _ (by lia) (s1.extBut _ _ (by lia) e))) ⟨o,s3.extBut _ _ ne o1,o2⟩
def Xi(a b c:Value):checkTypeCall "zip" ⟨[a,b,c],[]⟩=pure ():=by kernel_rfl
def Yv(a b c:Value):checkBuiltinCall "zip.__new__" ⟨[.type "zip",a,b,c],[]⟩=pure ():=by kernel_rfl
def aei(a b c d:Value):argsOk "object.__init__" ⟨[a,b,c,d],[]⟩:=by unfold argsOk;rw[signature?_of (id := "object.__init__") (n := "__tini__".toList) (o := "tcejbo".toList) (by kernel_rfl) F.owner_object];kernel_rfl
noncomputable def zI(a:Addr):Obj:={ cls:=.type "tuple_iterator",data:=.fields #[.ref a,.int 0 0] }
noncomputable def zA(h:Heap)(l1 l2 l3:Addr):Heap:=((h.push (zI l1)).push (zI l2)).push (zI l3)
noncomputable def zB(h:Heap)(l1 l2 l3:Addr):Heap:=(zA h l1 l2 l3).push (tp3 (.ref h.objs.size) (.ref (h.push (zI l1)).objs.size) (.ref ((h.push (zI l1)).push (zI l2)).objs.size))
noncomputable def zC(h:Heap)(l1 l2 l3:Addr):Heap:=(zB h l1 l2 l3).push (tp3 .none .none .none)
noncomputable def zD(h:Heap)(l1 l2 l3:Addr):Heap:=(zC h l1 l2 l3).push { cls:=.type "zip",data:=.fields #[.none,.bool false,.bool false,.ref (zA h l1 l2 l3).objs.size,.ref (zB h l1 l2 l3).objs.size] }
def apt(l1 l2 l3:Addr)(xs ys us:U1) :
 Meets (Builtin.«zip.__new__» ⟨[.type "zip",.ref l1,.ref l2,.ref l3],[]⟩) (λ_ R s=>s.heap.IsTuple l1 xs/\s.heap.IsTuple l2 ys/\s.heap.IsTuple l3 us /\
  R (.ok (.ret (.ref (zC s.heap l1 l2 l3).objs.size))) { s with heap:=zD s.heap l1 l2 l3 }) :=
 .of_wp λprog w A R s h=>by
  obtain⟨hp,g,d,tk,os⟩:=s;obtain⟨hl1,hl2,hl3,h⟩:=h;have aah:=sub_zip;have f1:∀{Q:Y1}{A E},Q (.ref hp.objs.size) ⟨hp.push (zI l1),g,d,tk,os⟩->wpAny (model prog w) A (pyIter (.ref l1)) Q E ⟨hp,g,d,tk,os⟩:=λq=>ud hl1 q
  have f2:∀{Q:Y1}{A E},Q (.ref (hp.push (zI l1)).objs.size) ⟨(hp.push (zI l1)).push (zI l2),g,d,tk,os⟩->wpAny (model prog w) A (pyIter (.ref l2)) Q E ⟨hp.push (zI l1),g,d,tk,os⟩:=λq=>ud (Z4 hl2 λo e=>ao _ e) q
  have f3:∀{Q:Y1}{A E},Q (.ref ((hp.push (zI l1)).push (zI l2)).objs.size) ⟨((hp.push (zI l1)).push (zI l2)).push (zI l3),g,d,tk,os⟩->wpAny (model prog w) A (pyIter (.ref l3)) Q E ⟨(hp.push (zI l1)).push (zI l2),g,d,tk,os⟩:=λq=>ud (Z4 hl3 λo e=>ao _ (ao _ e)) q
  wp_walk using f1,f2,f3
  exact⟨_,rfl,h⟩
def avd{n:Nat}(hn:s.heap.objs.size=n)(c1:s.heap.IsTuple l1 xs)(c2:s.heap.IsTuple l2 ys)(c3:s.heap.IsTuple l3 us)(h:∀h',Z3 h' n l1 l2 l3 .none .none .none .none 0 0 0 h'->h'.get? (n+3)=some (tp3 (.ref n) (.ref (n+1)) (.ref (n+2))) ->
 (∀c o,s.heap.get? c=some o->h'.get? c=some o)->Q (.ref (n+5)) { s with heap:=h' }):wpAny (model prog w) A (call (.type "zip") [.ref l1,.ref l2,.ref l3]) Q E s:=by
 refine callType_new F.called_zip (by decide) (Xi _ _ _) (Yv _ _ _) (λobj=>aei obj _ _ _) F.entry_zip_new (apt l1 l2 l3 xs ys us) ⟨c1,c2,c3,?_⟩;have z1:(s.heap.push (zI l1)).objs.size=n+1:=by rw[gw,hn]
 have z2:((s.heap.push (zI l1)).push (zI l2)).objs.size=n+2:=by rw[gw,z1]
 have z3:(zA s.heap l1 l2 l3).objs.size=n+3:=by unfold zA;rw[gw,z2]
 have z4:(zB s.heap l1 l2 l3).objs.size=n+4:=by unfold zB;rw[gw,z3]
 have z5:(zC s.heap l1 l2 l3).objs.size=n+5:=by unfold zC;rw[gw,z4]
 have up:∀{h:Heap}{o':Obj}{c:Addr}{o:Obj},h.get? c=some o->(h.push o').get? c=some o:=λe=>ao _ e
 have g6:(zD s.heap l1 l2 l3).get? (zC s.heap l1 l2 l3).objs.size=some _:=bf _ rfl;have g5:(zD s.heap l1 l2 l3).get? (zB s.heap l1 l2 l3).objs.size=some _:=up (bf _ rfl);have g4:(zD s.heap l1 l2 l3).get? (zA s.heap l1 l2 l3).objs.size=some _:=up (up (bf _ rfl));have g3:(zD s.heap l1 l2 l3).get? ((s.heap.push (zI l1)).push (zI l2)).objs.size=some _:=up (up (up (bf _ rfl)));have g2:(zD s.heap l1 l2 l3).get? (s.heap.push (zI l1)).objs.size=some _:=up (up (up (up (bf _ rfl))));have g1:(zD s.heap l1 l2 l3).get? s.heap.objs.size=some _:=up (up (up (up (up (bf _ rfl)))));show _/\_;rw[z3,z4,z5] at g6;rw[z4] at g5;rw[z1,z2,z3,hn] at g4;rw[z2] at g3;rw[z1] at g2;rw[hn] at g1;rw[z5];exact⟨⟨_,g6,rfl⟩,h _ ⟨g6,g5,⟨_,g1,rfl,rfl⟩,⟨_,g2,rfl,rfl⟩,⟨_,g3,rfl,rfl⟩,λ_ _ _ e=>e⟩ g4 λc o e=>up (up (up (up (up (up e)))))⟩
end EnT
namespace L2
open PySem PySem.Spec EnT
noncomputable def Iz3(K:Fg)(a b c:Addr):It :=
 ⟨λi H=>∃xs x ys y us u,Dw K H a xs/\xs[i]?=some x/\Dw K H b ys/\ys[i]?=some y/\Dw K H c us/\us[i]?=some u,λi H v H'=>∃p x y u,v=.ref p/\H p=none/\H'=upd H p (.tup [x,y,u])/\(∀xs,Dw K H a xs->xs[i]?=some x)/\(∀xs,Dw K H b xs->xs[i]?=some y)/\∀xs,Dw K H c xs->xs[i]?=some u,
  λi H=>∃xs,Dw K H a xs/\xs.length<=i⟩
def T3(n a b c:Nat)(i:Nat)(h:Heap):Prop:=(∃p q r,Z3 h n a b c .none p q r i i i h)/\h.get? (n+3)=some (tp3 (.ref n) (.ref (n+1)) (.ref (n+2)))
noncomputable def F3(n:Nat):List Addr:=[n,n+1,n+2,n+3,n+4,n+5]
def F3.mem{n c:Nat}(h:n<=c)(h2:c<=n+5):c∈F3 n:=by
 simp only[F3,bw,rm,Ay]
 lia
def T3.lt{h:Heap}(st:T3 n a b c i h):n+5<h.objs.size:=by obtain⟨⟨p,q,r,H⟩,_⟩:=st;exact az H.z
def F3.le{n c:Nat}(h:c∈F3 n):n<=c/\c<=n+5:=by
 simp only[F3,bw,rm,Ay] at h
 lia
theorem ave{n a b c:Nat}(hl:a<n/\b<n/\c<n):Turn P w K (.Tuple ts k0 pt) (Iz3 K a b c) (F3 n) (n+5) (T3 n a b c) where
 mem:=F3.mem (by lia) (by lia)
 obj:=λi h st e hc=>by
  refine hG λ_ _k=>?_
  obtain⟨⟨p,q,r,H⟩,hI⟩:=st;obtain⟨o1,e1,d1,f1⟩:=H.a;obtain⟨o2,e2,d2,f2⟩:=H.b;obtain⟨o3,e3,d3,f3⟩:=H.c;simp only[F3,bw,rm,Ay] at hc;apply _k;rcases hc with rfl|rfl|rfl|rfl|rfl|rfl
  . exact⟨_,e1,λv z=>by rw[f1] at z;cases z⟩
  . exact⟨_,e2,λv z=>by rw[f2] at z;cases z⟩
  . exact⟨_,e3,λv z=>by rw[f3] at z;cases z⟩
  . exact⟨_,hI,λv z=>by cases z⟩
  . exact⟨_,H.o,λv z=>by cases z⟩
  . exact⟨_,H.z,λv z=>by cases z⟩
 keep:=λi h h' st k=>by
  refine hG λ_ _k=>?_
  obtain⟨⟨p,q,r,H⟩,hI⟩:=st;have kk:∀d o,n<=d->d<=n+5->h.get? d=some o->h'.get? d=some o:=λd o h1 h2=>k d (F3.mem h1 h2) o
  apply _k;exact⟨⟨p,q,r,kk _ _ (by lia) (by lia) H.z,kk _ _ (by lia) (by lia) H.o,Fe H.a λo=>kk _ o (by lia) (by lia),Fe H.b λo=>kk _ o (by lia) (by lia),Fe H.c λo=>kk _ o (by lia) (by lia),λ_ _ _ e=>e⟩,kk _ _ (by lia) (by lia) hI⟩
 item:=by
  intro X hP hw hK hc i pins s σ H E I hf st hg;subst hP hw hK;refine hG λ_ _k=>?_
  have lt:=st.lt;obtain⟨⟨p,q,r,Z⟩,hI⟩:=st;obtain⟨xs,x,ys,y,us,u,q1,x1,q2,x2,q3,x3⟩:=hg;obtain⟨i1,r1,p1,_⟩:=I.tuple q1;obtain⟨i2,r2,p2,_⟩:=I.tuple q2;obtain⟨i3,r3,p3,_⟩:=I.tuple q3;obtain⟨v1,u1,w1⟩:=r1.get x1;obtain⟨v2,u2,w2⟩:=r2.get x2;obtain⟨v3,u3,w3⟩:=r3.get x3;have ty:s.TypeIs (.ref (n+5)) "zip" := ⟨_,Z.z,rfl⟩;apply _k;unfold pyNext;refine aa (wpAny_attempt (jt (name:=Str.ofString "__next__") ty F.slot_zip_next (jk F.slot_zip_next ty F.entry_zip_next ?_ (F.args_zip_next_1 _))));refine avc Z hI hl (xs:=i1.toArray) (ys:=i2.toArray) (us:=i3.toArray) p1 p2 p3 (by simpa using u1) (by simpa using u2) (by simpa using u3) λh1 Z1 t1=>aj ⟨_,rfl,?_⟩
  refine wpAny_letOwnedTupleGo_zip Z1.z λh2 z2 s2=>?_
  have s2:Heap.SameBut (n+5) h1 h2:=s2;have Z2:=Z1.sz s2.extBut (f1:=.none) z2;have t2:h2.get? s.heap.objs.size=some (tp3 v1 v2 v3):=s2.extBut _ _ (u0 lt) t1;refine⟨.ref s.heap.objs.size,upd H s.heap.objs.size (.tup [x,y,u]),I.Z0 (t':=s.toks) hf (λc o hc zz=>Z2.k c o ?_ zz) (bc _) ⟨by show 3<=sizeLine;decide,[v1,v2,v3],.cons w1 (.cons w2 (.cons w3 .nil)),⟨_,t2,rfl,_,rfl,rfl⟩⟩,rfl,
   ⟨_,x,y,u,rfl,I.An.fresh (bc _),rfl,λys hy=>by rw[I.K6 hy q1];exact x1,λys hy=>by rw[I.K6 hy q2];exact x2,λys hy=>by rw[I.K6 hy q3];exact x3⟩,
   ⟨⟨v1,v2,v3,Z2.z,Z2.o,Z2.a,Z2.b,Z2.c,λ_ _ _ e=>e⟩,Z2.k _ _ (by lia) hI⟩,λc hc=>?_⟩
  . rcases Ak c n with h|h
    . exact .inl h
    . rcases Ak (n+5) c with h'|h'
      . exact .inr (.inr h')
      . exact absurd (F3.mem h h') hc
  . have:=F3.le hc
    rw[j8 (by lia)];exact(hf c hc).1
 done:=by
  intro X hP hw hK hc i pins s σ H E I hf st hg;subst hP hw hK;refine hG λ_ _k=>?_
  obtain⟨⟨p,q,r,Z⟩,hI⟩:=st;obtain⟨xs,q1,x1⟩:=hg;obtain⟨i1,r1,p1,_⟩:=I.tuple q1;have hl1:=r1.length;have ty:s.TypeIs (.ref (n+5)) "zip" := ⟨_,Z.z,rfl⟩;apply _k;unfold pyNext;refine aa (wpAny_attempt (jt (name:=Str.ofString "__next__") ty F.slot_zip_next (jk F.slot_zip_next ty F.entry_zip_next ?_ (F.args_zip_next_1 _))));refine a1l (I.ok.hd hc) Z hI hl.1 (xs:=i1.toArray) p1 (by simp;lia) λh' e k ⟨o,o1,o2⟩=>?_
  refine aa (o8 (T := "StopIteration") (b:=true) ⟨o,o1,o2⟩ isSubtype_stop (aj ⟨rfl,I.air (t':=s.toks) hf λc o hc zz=>k c o ?_ zz⟩));rcases Ak c n with h|h
  . exact .inl h
  . rcases Ak (n+5) c with h'|h'
    . exact .inr h'
    . exact absurd (F3.mem h h') hc
 self:=λ_ _ _ _ _ st h=>by
  refine hG λ_ _k=>?_
  obtain⟨⟨p,q,r,Z⟩,_⟩:=st;apply _k;exact wpAny_pyIter_zip Z.z h
def a84(hg:Gl X "zip")(hm:X.mg "zip" = none)(ha:PA X [a,b,c] ta)(hs:starEach [a,b,c] X.env=(false,eval a X.env)::starEach [b,c] X.env)(Jg:(backTo pos (starEach [b,c] X.env)).any (·.1)=false) :
 PI X (.Tuple ts k0 pt) (.Call (.Name "zip" p) [a,b,c] [] pos) (fun σ H R=>ta σ H λvs H1=>∃q1 q2 q3,vs=[.ref q1,.ref q2,.ref q3]/\(∃xs,Dw X.K H1 q1 xs)/\(∃ys,Dw X.K H1 q2 ys)/\(∃us,Dw X.K H1 q3 us)/\R (Iz3 X.K q1 q2 q3) H1):=by
 intro pins s σ H R I h;refine PyProof.Rows.Call_ (Dr I hg hm (show bootBuiltins "zip" = some (.type "zip") by decide+kernel) (je (Bq (ha pos pins s σ H _ I h) λus s1 ⟨vs,H1,I1,r1,q1⟩=>?_) hs Jg));obtain⟨q1,q2,q3,rfl,⟨xs,h1⟩,⟨ys,h2⟩,⟨zs,h3⟩,hR⟩:=q1;cases r1 with
 |cons ra rr=>cases rr with
  |cons rb rr=>cases rr with
   |cons rc rr =>
    cases rr;cases ra;cases rb;cases rc;obtain⟨i1,_,p1,_⟩:=I1.tuple h1;obtain⟨i2,_,p2,_⟩:=I1.tuple h2;obtain⟨i3,_,p3,_⟩:=I1.tuple h3;refine avd rfl p1 p2 p3 λh' Z hI kk=>wpAny_pyIter_zip Z.z ?_
    refine⟨s1.heap.objs.size+5,_,_,_,H1,rfl,I1.kept (t':=s1.toks) kk,ave ⟨p1.lt,p2.lt,p3.lt⟩,⟨⟨_,_,_,Z⟩,hI⟩,λc hc=>?_,hR⟩;have hle:=(F3.le hc).1;exact I1.anw hle (I1.An.fresh hle)
end L2
namespace Sm
open PySem L2
open MW (Ex Dl OEx P0 Br m8 Lv Tg Res cj MO Jl Cp Op2 Blt Bm Kx Src)
def aky{i:Nat}(h:(MW.Cr ds 0)[i]?=some d):∃z,ds[i]?=some z/\d=.tup [.int (i:Nat),z]:=by
 unfold MW.Cr at h;rw[jd,Ag] at h;cases e:ds[i]? with
 |none=>rw[e] at h;simp at h|some z=>rw[e] at h;simp at h;exact⟨z,rfl,h.symm⟩
def ait{X:Cx}(r:lg X.K ι H ds vs)(hk:∀ι1 H1,LeX ι H ι1 H1->SqX bb X.K H1 q vs):ao8 nm X.K ι H (.con (MW.Cr ds 0)) (Ien bb X.K q):=fun ι1 H1 M1 le S1=>by
 refine⟨λi d hi hd=>?_,λ_=>⟨vs,hk ι1 H1 le,?_⟩⟩
 . obtain⟨z,e1,rfl⟩:=aky (show(MW.Cr ds 0)[i]?=some d from hd)
   obtain⟨v,g1,g2⟩:=(r.Er le).get e1;refine⟨⟨vs,v,hk ι1 H1 le,g1⟩,λu H2 ⟨p,x,e2,e3,e4,e5⟩=>?_⟩;have ex:x=v:=by have:=e5 vs (hk ι1 H1 le);rw[g1] at this;cases this;rfl
   subst ex e2 e4;obtain⟨S2,zy,r2⟩:=J2 (X:=X) S1 e3 (.cons (.int _) (.cons g2 .nil));exact⟨zy,S2,r2⟩
 . show vs.length<=(MW.Cr ds 0).length
   rw[<- r.length];simp[MW.Cr]
def a85(hg:Gl X "enumerate")(hm:X.mg "enumerate" = none)(ha:PE X a (tE nm W X.K a'))(Vn:noStar a=true):PI X (.Tuple ts k0 pt) (.Call (.Name "enumerate" pr) [a] [] pos) (tI nm W X.K (.enm a')):=by
 intro pins s0 σ H R' I hh;obtain⟨ι,ρ,M,s,M',S,R,e,q⟩:=hh;rw[MW.ahl] at e;obtain⟨x,M1,e1,e⟩:=fc e;refine PI.weak (a83 (ts:=ts) (k0:=k0) (pt:=pt) (p:=pr) (pos:=pos) hg hm (Jb ha Sg (kj Vn _ _)) (kj Vn _ _)) (wi':=fun σ0 H0 R0=>σ0=σ/\H0=H/\R0=R') (fun σ0 H0 R0 ⟨z1,z2,z3⟩=>?_) pins s0 σ H R' I ⟨rfl,rfl,rfl⟩;subst z1 z2 z3;refine W6 (es':=.cons a' .nil) (ds:=[x]) (M1:=M1) S R (by rw[MW.Hq,e1];simp) fun ι1 H1 vs le S1 R1 r=>?_
 cases r with
 |cons r1 r2 =>
  cases r2;cases r1 with
  |@tup p ds us h1 rr =>
   cases e;exact⟨true,p,rfl,⟨us,Dw.of h1⟩,q ι1 H1 _ le S1 (ait rr fun ι2 H2 zy=>Dw.of (zy.tup _ _ h1))⟩
  |@vl p ds us h1 n1 rr =>
   cases e;exact⟨false,p,rfl,⟨us,Hm.of h1⟩,q ι1 H1 _ le S1 (ait rr fun ι2 H2 zy=>Hm.of (zy.lst _ _ n1.1 h1))⟩
  |_=>cases e
set_option tactic.hygienic true in
def a1m:Cz X (binaryOp .Add) (rOp nm X.K (MW.Cm .amh)) :=
 Cz.of aov λv u H Q ι M x y d M' S rv ru e q=>by
  have e:MW.afx x y M=.ok d M':=e;unfold MW.afx at e;split at e<;>try cases e
  rename_i xs ys h1 h2
  by_cases hl:xs.length+ys.length<=100000
  case neg=>rw[bx hl] at e;cases e
  rw[cg hl] at e;obtain⟨p,vs,rfl,g1,r1⟩:=qx S rv h1;obtain⟨p2,vs2,rfl,g2,r2⟩:=qx S ru h2;refine⟨p,p2,vs,vs2,rfl,rfl,g1,g2,by rw[<- r1.length,<- r2.length];exact gn hl Sd,λp3 h3=>?_⟩;have e:Res.ok (MW.D.ref M.length) (M++[.lst (xs++ys)])=.ok d M':=e;cases e;obtain⟨z1,z2,z3⟩:=Vv S h3 (r1.append r2);exact q _ _ _ z2 z1 z3
def avf{nm:Nm}{W:Jl}{X:Cx}{o:Expr}{o':Ex}{pos apos:Pos}{k f:Nat}{fa C:Addr}{fd:FuncData}{ps:Yf}{m:Str}{mi ci:Nat}{cl:MW.Cl}{pl:Sem Bool}(ho:PE X o (tE nm W X.K o'))(c0:Cls X.K C)(hme:Meth X.K C m fa)(F:Gf X.prog X.w X.K X.mg X.base CX0 k fa fd ps (spF nm W X.K 1 f))(hr:Af k X.A)(hb:Binds X.K fd ps [])
 (a05:∀c' cl',W.cls[c']?=some cl'->∀g,cl'.meths.lookup mi=some g->nm.cls c'=some C/\g=f) (Y7:∀i,nm.fld i≠m)
 (ht:eval (.Call (.Attribute o m apos) [] [] pos) X.env=(do
  let ov <- eval o X.env
  standAt apos.atName
  let (f,first) <- holding [ov] (getMethod ov m pl)
  callWith pos f first (backTo pos (starEach [] X.env)) (backToKw pos (keywordEach [] X.env)))) :
 PE X (.Call (.Attribute o m apos) [] [] pos) (tE nm W X.K (.meth o' mi .nil)) :=
 PE.of (aog (E:=E0) ho c0 hme F hr hb .nil aid ht) fun σ H Q ι ρ M d M' S R e q=>by
  rw[MW.Ri] at e;obtain⟨x,M1,e1,e⟩:=fc e;rw[MW.Rj] at e;refine one S R e1 fun ι1 H1 v le S1 R1 r=>?_
  obtain⟨j,hx⟩:∃j,x=.ref j:=by cases x<;>first|exact⟨_,rfl⟩|cases e
  subst hx;obtain⟨p,rfl,hp⟩:∃p,v=.ref p/\ι1.l[j]?=some p:=by cases r with|ref z=>exact⟨_,rfl,z⟩
  have e:(match M1[j]? with
   | some (.ins c _)=>(match(W.cls[c]?).bind λC=>C.meths.lookup mi with
    | some f=>W.call f [.ref j] M1|none=>.bad)
   | _=>.bad)=Res.ok d M':=e
  cases hM:M1[j]? with
  |none=>rw[hM] at e;cases e
  |some ob =>
   rw[hM] at e;cases ob with
   |ins ci fs =>
    have e:(match(W.cls[ci]?).bind λC=>C.meths.lookup mi with|some f=>W.call f [.ref j] M1|none=>.bad)=Res.ok d M':=e;cases hL:(W.cls[ci]?).bind λC=>C.meths.lookup mi with
    |none=>rw[hL] at e;cases e
    |some g =>
     rw[hL] at e;have e:W.call g [.ref j] M1=.ok d M':=e;obtain⟨cl',h1,h2⟩:=dm.mp hL;obtain⟨h3,rfl⟩:=a05 ci cl' h1 g h2;obtain⟨C',dx,l,g1,g2,g3⟩:=S1.obj j _ p hM hp;rw[h3] at g1;cases g1;exact⟨p,dx,l,rfl,g2,Xa Y7 g3,ι1,M1,[.ref j],d,M',S1,.cons r .nil,rfl,e,fun ι' H' v Yd S' r'=>q ι' H' v (le.trans Yd) S' r'⟩
   |_=>cases e
def avh:PS X st (tS nm W X.K (.raise ci es')):=λpins s σ H D I hh=>by obtain⟨ι,ρ,M,fl,ρ',M',S,R,e,q⟩:=hh;rw[MW.amu] at e;obtain⟨x,M1,e1,e⟩:=fc e;cases e
def axo(h:PE X a t):PE X (.BoolOp op [a] pos) t:=λpins s σ H Q I q=>PyProof.Rows.BoolOp_one (h pins s σ H Q I q)
def apu{ds es fs:List Dv}{i:Nat}(h:((ds.zip (es.zip fs)).map λp=>MW.D.tup [p.1,p.2.1,p.2.2])[i]?=some d):∃x y z,ds[i]?=some x/\es[i]?=some y/\fs[i]?=some z/\d=.tup [x,y,z]:=by rw[jd] at h;obtain⟨p,hp,rfl⟩:=cu.mp h;obtain⟨h1,h2⟩:=List.getElem?_zip_eq_some.mp hp;obtain⟨h2,h3⟩:=List.getElem?_zip_eq_some.mp h2;exact⟨_,_,_,h1,h2,h3,rfl⟩
def avi{X:Cx}(r1:lg X.K ι H ds vs)(r2:lg X.K ι H es ws)(r3:lg X.K ι H fs us)(hk1:H q1=some (.tup vs))(hk2:H q2=some (.tup ws))(hk3:H q3=some (.tup us))(hl:ds.length=es.length/\es.length=fs.length) :
 ao8 nm X.K ι H (.con ((ds.zip (es.zip fs)).map λp=>MW.D.tup [p.1,p.2.1,p.2.2])) (Iz3 X.K q1 q2 q3):=fun ι1 H1 M1 le S1=>by
 have k1:Dw X.K H1 q1 vs:=Dw.of (le.tup _ _ hk1);have k2:Dw X.K H1 q2 ws:=Dw.of (le.tup _ _ hk2);have k3:Dw X.K H1 q3 us:=Dw.of (le.tup _ _ hk3);refine⟨λi d hi hd=>?_,λ_=>⟨vs,k1,?_⟩⟩
 . obtain⟨x,y,z,e1,e2,e3,rfl⟩:=apu hd
   obtain⟨v,g1,g2⟩:=(r1.Er le).get e1;obtain⟨w,g3,g4⟩:=(r2.Er le).get e2;obtain⟨u,g5,g6⟩:=(r3.Er le).get e3;refine⟨⟨vs,v,ws,w,us,u,k1,g1,k2,g3,k3,g5⟩,λu' H2 ⟨p,x',y',z',e5,e6,e7,e8,e9,e10⟩=>?_⟩;have ex:x'=v:=by have:=e8 vs k1;rw[g1] at this;cases this;rfl
   have ey:y'=w:=by have:=e9 ws k2;rw[g3] at this;cases this;rfl
   have ez:z'=u:=by have:=e10 us k3;rw[g5] at this;cases this;rfl
   subst ex ey ez e5 e7;obtain⟨S2,zy,r2⟩:=J2 (X:=X) S1 e6 (.cons g2 (.cons g4 (.cons g6 .nil)));exact⟨zy,S2,r2⟩
 . show vs.length<=((ds.zip (es.zip fs)).map λp=>MW.D.tup [p.1,p.2.1,p.2.2]).length
   rw[<- r1.length,dz,List.length_zip,List.length_zip]
   lia
def avj(e:(P0.acj a' b' c').den W ρ M=.ok s M'):∃ds es fs M1 M2,a'.den W ρ M=.ok (.tup ds) M1/\b'.den W ρ M1=.ok (.tup es) M2/\c'.den W ρ M2=.ok (.tup fs) M'/\(ds.length=es.length/\es.length=fs.length)/\s=.con ((ds.zip (es.zip fs)).map λp=>MW.D.tup [p.1,p.2.1,p.2.2]):=by
 rw[MW.amt] at e;obtain⟨x,N1,e1,e⟩:=fc e;obtain⟨y,N2,e2,e⟩:=fc e;obtain⟨z,N3,e3,e⟩:=fc e;split at e
 . split at e
   . injection e with e5 e6
     exact⟨_,_,_,N1,N2,e1,e2,by rw[e3,e6],‹_›,e5.symm⟩
   . cases e
 . cases e
def a1n(hg:Gl X "zip")(hm:X.mg "zip" = none)(ha:PE X a (tE nm W X.K a'))(Vn:noStar a=true)(hb:PE X b (tE nm W X.K b'))(be2:noStar b=true)(hd:PE X c (tE nm W X.K c'))(be3:noStar c=true)(Jg:(backTo pos (starEach [b,c] X.env)).any (·.1)=false) :
 PI X (.Tuple ts k0 pt) (.Call (.Name "zip" pr) [a,b,c] [] pos) (tI nm W X.K (.acj a' b' c')):=by
 intro pins s0 σ H R' I hh;obtain⟨ι,ρ,M,s,M',S,R,e,q⟩:=hh;obtain⟨ds,es,fs,N1,N2,e1,e2,e3,hl,rfl⟩:=avj e;refine PI.weak (a84 (ts:=ts) (k0:=k0) (pt:=pt) (p:=pr) (pos:=pos) hg hm (Jb ha (Jb hb (Jb hd Sg (kj be3 _ _)) (kj be2 _ _)) (kj Vn _ _)) (kj Vn _ _) Jg) (wi':=fun σ0 H0 R0=>σ0=σ/\H0=H/\R0=R') (fun σ0 H0 R0 ⟨z1,z2,z3⟩=>?_) pins s0 σ H R' I ⟨rfl,rfl,rfl⟩;subst z1 z2 z3;refine W6 (es':=.cons a' (.cons b' (.cons c' .nil))) (ds:=[.tup ds,.tup es,.tup fs]) (M1:=M') S R (by rw[MW.Hq,e1];simp[e2,e3]) fun ι1 H1 vs le S1 R1 r=>?_
 cases r with
 |cons r1 r2 =>
  cases r2 with
  |cons r2 r3 =>
   cases r3 with
   |cons r3 r4 =>
    cases r4;cases r1 with
    |tup h1 r1 =>
     cases r2 with
     |tup h2 r2 =>
      cases r3 with
      |tup h3 r3=>exact⟨_,_,_,rfl,⟨_,Dw.of h1⟩,⟨_,Dw.of h2⟩,⟨_,Dw.of h3⟩,q ι1 H1 _ le S1 (avi r1 r2 r3 h1 h2 h3 hl)⟩
theorem aej:∀{xs:List Dv}{b:Bool},MW.allB xs=some b->∃bs:List Bool,xs=bs.map MW.D.bl/\b=bs.all id
 |[],b,e=>by cases e;exact⟨[],rfl,rfl⟩
 |.bl k::r,b,e=>by
  obtain⟨c,e1,rfl⟩:=cu.mp (show(MW.allB r).map (k&&·)=some b from e);obtain⟨bs,rfl,rfl⟩:=aej e1;exact⟨k::bs,rfl,by simp⟩
theorem Z5{ι:Io}{H:Hp}{K:Fg}:∀{bs:List Bool}{vs:List V}{is:Zl},lg K ι H (bs.map MW.D.bl) vs->Vals vs is->is=bs.map Value.bool
 |[],_,_,r,h=>by cases r;cases h;rfl
 |k::bs,_,_,r,h=>by
  cases r with
  |cons r1 r2 =>
   cases h with
   |cons h1 h2 =>
    cases r1;cases h1;rw[Z5 r2 h2];rfl
def a86(hc:X.calm=true):Bx X (.builtin "all") (rB nm X.K .all):=λpins s σ H vs us Q I Yt hh=>by
 obtain⟨ι,M,ds,d,M',S,r,e,q⟩:=hh;obtain⟨x,rfl,e⟩:∃x,ds=[x]/\Res.u9 (((MW.fu M x).bind MW.allB).map MW.D.bl) M=.ok d M':=by
  cases ds with
  |nil=>cases e
  |cons x l=>cases l with
   |nil=>exact⟨x,rfl,e⟩|cons _ _=>cases e
 obtain⟨e1,rfl⟩:=yo e;obtain⟨b,e2,rfl⟩:=cu.mp e1;obtain⟨xs,e3,e4⟩:=dm.mp e2;obtain⟨bs,rfl,rfl⟩:=aej e4;obtain⟨v,rfl,rv⟩:=J5 r rfl;obtain⟨u,rfl,ru⟩:=Ub Yt;obtain⟨p,ws,rfl,hp,rl⟩:=qx S rv e3;cases ru;obtain⟨is,rvl,pl,_⟩:=I.list (Hm.of hp);have his:=Z5 rl rvl;have Km:p<s.heap.objs.size:=by obtain⟨_,e,_⟩:=pl.isList;exact az e
 refine call_all_walk (wpAny_pyIter_list pl.isList ?_);refine⟨_,_,_,_,_,_,λi=>bs.getD i true,rfl,Walks.list (A:=X.A.in1) (I.ok.hd hc) s.heap.objs.size p (dw Km) is.toArray,⟨⟨_,bf _ rfl,rfl,rfl⟩,pl.isList.push _⟩,λi v s Q E hP hQ=>?_,λh' tk hk=>?_⟩
 . have hv:is[i]?=some v:=by simpa using hP
   rw[his,jd] at hv;obtain⟨k,hk,rfl⟩:=cu.mp hv;refine j9 ?_;have hQ:Q (bs.getD i true) s:=hQ;rw[bz,hk] at hQ;exact hQ
 . have ha:(List.range is.toArray.size).all (λi=>bs.getD i true)=bs.all id:=by
    rw[his];simp only[gf,dz];rw[zq,gq,gq];constructor
    . intro h k hk
      obtain⟨i,hi,rfl⟩:=qb hk;have:=h i (il.mpr hi);simpa[bz,hi] using this
    . intro h i hi
      have hi':=il.mp hi;have:=h bs[i] (qz hi');simpa[bz,hi'] using this
   rw[ha];exact⟨.bl _,H,I.kept (t':=tk) (old_kept hk),rfl,q ι H _ (Le.refl _ _) S (.bl _)⟩
end Sm
namespace Sm
open PySem L2
open MW (Ex Dl OEx P0 Br m8 Lv Tg Res cj MO Jl Cp Op2 Blt Bm Kx Src)
set_option tactic.hygienic true in
def avk(e:MW.Kr .get x ds M=.ok d M'):∃n k d0,x=.ref n/\ds=[k,d0]/\M'=M/\∃iw q,M[n]?=some (.dK iw)/\MW.Tp k=some q/\d=(MW.vz iw q).getD d0:=by
 cases x with
 |ref n =>
  match ds,e with
  |[k,d0],e =>
   have e:(match M[n]? with
    |some (.dK iw)=>Res.u9 ((MW.Tp k).map λq=>(MW.vz iw q).getD d0) M
    | _=>.bad)=.ok d M':=e
   refine⟨n,k,d0,rfl,rfl,?_⟩;split at e
   . rename_i iw hM
     obtain⟨e1,e2⟩:=yo e;obtain⟨q,h1,h2⟩:=cu.mp e1;exact⟨e2,iw,q,hM,h1,h2.symm⟩
   . cases e
  |[],e=>cases e|[_],e=>cases e|_::_::_::_,e=>cases e
 |_=>cases e
set_option tactic.hygienic true in
def ty_dict{X:Cx}(S:m5 nm X.K ι H M)(r:Rep X.K ι H x v)(h:MW.Qp .get x M=true):tyV X.K "dict" v H:=by
 cases r with
 |@ref n p hp =>
  have h:(match M[n]? with|some (.dK _)=>true|_=>false)=true:=h;split at h
  . rename_i hM
    obtain⟨l,h1,_⟩:=S.obj n _ p hM hp;exact .inr (.inr (.inl ⟨rfl,.inl ⟨_,h1⟩⟩))
  . cases h
 |_=>cases h
def a87(hu:X.A.units+1<cLine):MtR X "dict.get" (rM nm X.K .get):=λpins s σ H v vs u us Q I ru Yt hh=>by
 obtain⟨ι,M,x,ds,d,M',S,r,rs,e,_,q⟩:=hh;obtain⟨n,k,d0,rfl,rfl,rfl,iw,k0,hM,hk,rfl⟩:=avk e;cases rs with
 |cons rk rt =>
  cases rt with
  |cons rd rt =>
   cases rt;cases Yt with
   |cons hk1 ht1 =>
    cases ht1 with
    |cons hd1 ht1 =>
     cases ht1;cases r with
     |ref ha =>
      cases ru;obtain⟨l,h1,h2⟩:=S.obj n _ _ hM ha;have hy:=T9 rk hk;subst hy;refine a0d hu I (O1.k h1) hk1 hd1 λw' s' I' rw'=>⟨_,H,I',rw',q ι H _ (Le.refl _ _) S ?_⟩
      cases hl:MW.vz iw k0 with
      |none=>rw[(h2.look (k:=k0)).2 hl];exact rd|some d=>obtain⟨z,h3,h4⟩:=(h2.look (k:=k0)).1 d hl;rw[h3];exact h4
set_option tactic.hygienic true in
def a1o(hr:Af 8 X.A)(hg:Gl X n)(hm:X.mg n=none)(hv:bootBuiltins n=some (.type "list"))(hn:n≠"__name__")(Ux:(n==("__debug__" : Str))=false)(hg2:Gl X tn)(hm2:X.mg tn=none)(hv2:bootBuiltins tn=some (.type "range"))(Yh:tn≠"__name__")(agy:(tn==("__debug__" : Str))=false)(ha:PA X [a] (Yc nm W X.K (.cons a' .nil)))(he:starEach [.Call (.Name tn p') [a] [] q2] X.env=(false,eval (.Call (.Name tn p') [a] [] q2) X.env)::starEach [] X.env)(Jg:(backTo q1 (starEach [] X.env)).any (·.1)=false)(he2:starEach [a] X.env=(false,eval a X.env)::starEach [] X.env)(agw:(backTo q2 (starEach [] X.env)).any (·.1)=false) :
 PE X (.Call (.Name n p) [.Call (.Name tn p') [a] [] q2] [] q1) (tE nm W X.K (.afw a')):=by
 intro pins s σ H Q I hh;obtain⟨ι,ρ,M,d,M',S,R,e,q⟩:=hh;rw[MW.ams] at e;obtain⟨x,M1,e1,e⟩:=fc e;split at e<;>try cases e
 rename_i i;split at e<;>cases e;rename_i hi;refine iz (Dr I hg hm hv ?_ hn Ux);refine je (Q:=EP X pins σ Q) ?_ he Jg;rw[he];show wpAny _ _ (spliced ((false,eval (.Call (.Name tn p') [a] [] q2) X.env)::backTo q1 (starEach [] X.env))) _ _ s;refine uc ?_;refine iz (Dr I hg2 hm2 hv2 ?_ Yh agy);refine je (Bq (ha q2 pins s σ H (λvs H1=>∃ι1,vs=[.int i]/\Le ι H ι1 H1/\m5 nm X.K ι1 H1 M1) I ⟨ι,ρ,M,[.int i],M1,S,R,by simp[e1,Res.bind],fun ι1 H1 vs le S1 r=>?_⟩) λus s1 ⟨vs,H1,I1,r1,ι1,ev,Vu,S1⟩=>?_) he2 agw
 . obtain⟨v,ev,rv⟩:=J5 r rfl
   cases rv;exact⟨ι1,ev,le,S1⟩
 subst ev;obtain⟨u,rfl,ru⟩:=Ub r1;obtain⟨t,rfl⟩:=ru;refine call_range_1 ?_;show wpAny _ _ (spliced []) _ _ _;refine wg ?_;have keep:∀b o,s1.heap.get? b=some o->(s1.heap.push { cls:=.type "range",data:=.fields #[.int 0 s1.toks,.int i t,.int 1 (s1.toks+1)] }).get? b=some o:=λb o e=>ao _ e
 refine call_list_range (n:=i.toNat) hr.hd (bf _ rfl) (small_one (by lia) (by lia) (by lia) (by omega)) (by rw[rangeSize_one];split<;>lia) (by lia) λh' tk acc c' hk hS Fj=>?_
 have hsz:(s1.heap.push { cls:=.type "range",data:=.fields #[.int 0 s1.toks,.int i t,.int 1 (s1.toks+1)] }).objs.size=s1.heap.objs.size+1:=gw ..;have hS:h'.get? (s1.heap.push { cls:=.type "range",data:=.fields #[.int 0 s1.toks,.int i t,.int 1 (s1.toks+1)] }).objs.size=some { cls:=.type "list",dict:=none,data:=.seq acc c',slots:=#[] }:=hS;show EP X pins σ Q (.ref (s1.heap.push { cls:=.type "range",data:=.fields #[.int 0 s1.toks,.int i t,.int 1 (s1.toks+1)] }).objs.size) _;rw[hsz] at hS ⊢;have hz:((List.range i.toNat).map λ(k:Nat)=>V.int (k:Int)).length<=sizeLine:=by simp[qm];omega
 have hle:s1.heap.objs.size<=s1.heap.objs.size+1:=uz _
 have hf:H1 (s1.heap.objs.size+1)=none:=I1.An.fresh hle;have I3:Inv X pins σ (upd H1 (s1.heap.objs.size+1) (.lst ((List.range i.toNat).map λ(k:Nat)=>V.int (k:Int)))) { s1 with heap:=h',toks:=tk } :=
  I1.laid (a:=s1.heap.objs.size+1) (t':=tk) (λb o e=>hk b o (keep b o e)) hle (show Bv X.prog X.w _ _ _ (.lst _) from⟨hz,acc.toList,c',Xg Fj,by simpa using hS⟩)
 obtain⟨S2,zy,r2⟩:=Vv (X:=X) S1 hf (Xh i.toNat);exact⟨.ref (s1.heap.objs.size+1),_,I3,rfl,q _ _ _ (Vu.trans zy) S2 r2⟩
end Sm
namespace Sm
open PySem L2
open MW (Ex Dl OEx P0 Br m8 Lv Tg Res cj MO Jl Cp Op2 Blt Bm Kx Src)
theorem Xj(x:Int):∀l,(MW.insI x l).Perm (x::l)
 |[]=>yt _
 |y::l=>by
  unfold MW.insI;split
  . exact yt _
  . exact((Xj x l).cons y).trans (List.Perm.swap x y l)
theorem Pu:∀l,(MW.sortI l).Perm l
 |[]=>yt _|x::l=>(Xj x _).trans ((Pu l).cons x)
theorem apv(x:Int):∀{l:Xs},l.Pairwise (·<=·)->(MW.insI x l).Pairwise (·<=·)
 |[],_=>List.pairwise_singleton _ _
 |y::l,h=>by
  obtain⟨h1,h2⟩:=zp.mp h;unfold MW.insI;split
  . refine zp.mpr ⟨λz hz=>?_,h⟩
    rcases bw.mp hz with rfl|hz
    . lia
    . have:=h1 z hz;lia
  . refine zp.mpr ⟨λz hz=>?_,apv x h2⟩
    rcases bw.mp ((Xj x l).mem_iff.mp hz) with rfl|hz
    . lia
    . exact h1 z hz
theorem aiu:∀l,(MW.sortI l).Pairwise (·<=·)
 |[]=>List.Pairwise.nil|x::l=>apv x (aiu l)
set_option tactic.hygienic true in
theorem abr(k:Int):∀l,k∈MW.Al l↔k∈l
 |[]=>Iff.rfl
 |x::l=>by
  unfold MW.Al;split
  . rename_i h
    rw[abr k l,bw];exact⟨.inr,λz=>z.elim (λe=>e▸h) id⟩
  . rw[bw,bw,abr k l]
set_option tactic.hygienic true in
theorem agz:∀l,(MW.Al l).Nodup
 |[]=>xf
 |x::l=>by
  unfold MW.Al;split
  . exact agz l
  . rename_i h
    exact m9.mpr ⟨λz=>h ((abr x l).mp z),agz l⟩
theorem apw:∀l,(MW.Al l).length<=l.length
 |[]=>bc _
 |x::l=>by
  have:=apw l;unfold MW.Al;split<;>simp<;>omega
theorem axp:∀{a b:Xs},a.Pairwise (·<=·)->b.Pairwise (·<=·)->a.Nodup->b.Nodup->(∀k,k∈a↔k∈b)->a=b
 |[],[],_,_,_,_,_=>rfl|[],y::b,_,_,_,_,h=>nomatch(h y).mpr dg|x::a,[],_,_,_,_,h=>nomatch(h x).mp dg
 |x::a,y::b,ha,hb,na,nb,h=>by
  obtain⟨a1,a2⟩:=zp.mp ha;obtain⟨b1,b2⟩:=zp.mp hb;obtain⟨c1,c2⟩:=m9.mp na;obtain⟨d1,d2⟩:=m9.mp nb;have e:x=y:=by
   rcases bw.mp ((h x).mp dg) with e|m
   . exact e
   . rcases bw.mp ((h y).mpr dg) with e|m'
     . exact e.symm
     . have:=b1 x m;have:=a1 y m';lia
  subst e
  congr 1
  refine axp a2 b2 c2 d2 λk=>⟨λm=>?_,λm=>?_⟩
  . rcases bw.mp ((h k).mp (bh _ m)) with rfl|m'
    . exact absurd m c1
    . exact m'
  . rcases bw.mp ((h k).mpr (bh _ m)) with rfl|m'
    . exact absurd m d1
    . exact m'
def avl(h1:ns.Pairwise (·<=·))(h2:ns.Nodup)(h3:∀k,k∈l↔k∈ns):ns=MW.sortI (MW.Al l) :=
 axp h1 (aiu _) h2 ((Pu _).nodup_iff.mpr (agz l)) λk=>by rw[(Pu _).mem_iff,abr,h3]
theorem aek{ι:Io}{H:Hp}{K:Fg}:∀{ds:List Dv}{vs:List V}{is:Zl}{ns:Xs},lg K ι H ds vs->Vals vs is->MW.Y9 ds=some ns->PyProof.Rows.IntsAre is ns
 |_,_,_,_,.nil,.nil,h=>by cases h;exact .nil
 |_,_,_,_,.cons r t,.cons rv tv,h=>by
  cases r<;>simp only[MW.Y9] at h<;>try cases h
  obtain⟨ns',e1,e2⟩:=cu.mp h;subst e2;obtain⟨tk,rfl⟩:=rv;exact .cons _ _ (aek t tv e1)
theorem ael:∀{is:Zl}{ns:Xs},PyProof.Rows.IntsAre is ns->Vals (ns.map V.int) is
 |_,_,.nil=>.nil|_,_,.cons n t h=>.cons ⟨t,rfl⟩ (ael h)
theorem Z6{ι:Io}{H:Hp}{K:Fg}:∀ns:List Int,lg K ι H (ns.map MW.D.int) (ns.map V.int)
 |[]=>.nil|n::ns=>.cons (.int n) (Z6 ns)
set_option tactic.hygienic true in
def aem(e:MW.uh .Gi ds M=.ok d M'):∃x xs ns,ds=[x]/\MW.fu M x=some xs/\MW.Y9 xs=some ns/\ns.length<31/\d=.vl ((MW.sortI (MW.Al ns)).map MW.D.int)/\M'=M:=by
 match ds,e with
 |[x],e =>
  have e:Res.u9 (((MW.fu M x).bind MW.Y9).bind λis=>if is.length<31 then some (MW.D.vl ((MW.sortI (MW.Al is)).map MW.D.int)) else none) M=.ok d M':=e;obtain⟨e1,e2⟩:=yo e;obtain⟨ns,e3,e4⟩:=dm.mp e1;obtain⟨xs,e5,e6⟩:=dm.mp e3;split at e4
  . rename_i hl
    exact⟨x,xs,ns,rfl,e5,e6,hl,(jq e4).symm,e2⟩
  . cases e4
 |[],e=>cases e|_::_::_,e=>cases e
def akz(hr:Af 8 X.A)(hg:Gl X n)(hm:X.mg n=none)(hv:bootBuiltins n=some (.builtin "sorted"))(hn:n≠"__name__")(Ux:(n==("__debug__" : Str))=false)(hg2:Gl X tn)(hm2:X.mg tn=none)(hv2:bootBuiltins tn=some (.type "set"))(Yh:tn≠"__name__")(agy:(tn==("__debug__" : Str))=false)(ha:PA X [a] (Yc nm W X.K (.cons a' .nil)))(he:starEach [.Call (.Name tn p') [a] [] q2] X.env=(false,eval (.Call (.Name tn p') [a] [] q2) X.env)::starEach [] X.env)(Jg:(backTo q1 (starEach [] X.env)).any (·.1)=false)(he2:starEach [a] X.env=(false,eval a X.env)::starEach [] X.env)(agw:(backTo q2 (starEach [] X.env)).any (·.1)=false) :
 PE X (.Call (.Name n p) [.Call (.Name tn p') [a] [] q2] [] q1) (tE nm W X.K (.blt .Gi (.cons a' .nil))):=by
 intro pins s σ H Q I hh;obtain⟨ι,ρ,M,d,M',S,R,e,q⟩:=hh;rw[MW.aan] at e;obtain⟨ds,M1,e1,e⟩:=fc e;obtain⟨x,xs,ns,rfl,e2,e3,hl,rfl,rfl⟩:=aem e;refine iz (Dr I hg hm hv ?_ hn Ux);refine yq (Q:=EP X pins σ Q) ?_ he Jg;rw[he];show wpAny _ _ (spliced ((false,eval (.Call (.Name tn p') [a] [] q2) X.env)::backTo q1 (starEach [] X.env))) _ _ s;refine uc ?_;refine iz (Dr I hg2 hm2 hv2 ?_ Yh agy);refine je (Bq (ha q2 pins s σ H (λvs H1=>∃ι1 v,vs=[v]/\Rep X.K ι1 H1 x v/\Le ι H ι1 H1/\m5 nm X.K ι1 H1 M') I ⟨ι,ρ,M,[x],M',S,R,e1,fun ι1 H1 vs le S1 r=>?_⟩) λus s1 ⟨vs,H1,I1,r1,ι1,v,ev,rx,Vu,S1⟩=>?_) he2 agw
 . obtain⟨v,ev,rv⟩:=J5 r rfl
   exact⟨ι1,v,ev,rv,le,S1⟩
 subst ev;obtain⟨u,rfl,ru⟩:=Ub r1;obtain⟨p,ws,rfl,hp,rl⟩:=qx S1 rx e2;cases ru;obtain⟨is,rvl,pl,_⟩:=I1.list (Hm.of hp);refine Yy.ajq hr.hd pl.isList (by simpa using aek rl rvl e3) hl λh' tk n' keep hS Pg=>?_
 show wpAny _ _ (spliced []) _ _ _;refine wg ?_;refine Yy.ach (s:={ s1 with heap:=h',toks:=tk }) hr.hd hS (c_ Pg hl) λh2 tk2 p2 out ms aio hp2 hI2 so nd mem ⟨c,g⟩=>?_
 obtain rfl:=avl so nd mem;obtain⟨o9,_,_,_,g9,_⟩:=hS.get;have hz1:s1.heap.objs.size<=p2:=gn (Aj (az g9)) hp2
 have hf:H1 p2=none:=I1.An.fresh hz1;have hzl:((MW.sortI (MW.Al ns)).map V.int).length<=sizeLine:=by rw[dz,(Pu _).length_eq,qm];have:=apw ns;exact e_ (c_ this (b_ hl (by decide)))
 have I3:Inv X pins σ (upd H1 p2 (.lst ((MW.sortI (MW.Al ns)).map V.int))) { s1 with heap:=h2,toks:=tk2 } :=
  I1.laid (a:=p2) (t':=tk2) (λb o e=>aio b o (keep b o e)) hz1 (show Bv X.prog X.w _ _ _ (.lst _) from⟨hzl,out.toList,c,ael hI2,by simpa using g⟩)
 obtain⟨S2,zy,r2⟩:=abi (X:=X) S1 hf (Z6 _);exact⟨.ref p2,_,I3,rfl,q _ _ _ (Vu.trans zy) S2 r2⟩
open MW (Ex Dl OEx P0 Br m8 Lv Tg Res cj MO Jl Cp Op2 Blt Bm Kx)
section
variable{nm:Nm}{X:Cx}
set_option tactic.hygienic true in
def apx(rx:Rep K ι H x v)(ry:Rep K ι H y u)(rv:RelV v v')(ru:RelV u u')(e:MW.asj x y=some k):plainIs v' u'=true/\(v'==u')=k:=by
 cases ry<;>try(cases e;done)
 cases ru;cases rx<;>first|(cases e;done)|(cases rv;cases e;exact⟨rfl,rfl⟩)
def be4:Cz X (compareOp .Is) (W4 nm X.K .is):=λpins s σ H v u v' u' Q I rv ru hh=>by obtain⟨ι,M,x,y,b,S,rx,ry,e,q⟩:=hh;have e:MW.asj x y=some b:=e;obtain⟨p,ev⟩:=apx rx ry rv ru e;exact wpAny_is_plain p (yf I q ev.symm)
end
end Sm
namespace Ck
open PySem L2 Sm
open MW (Ex Dl OEx P0 Br m8 Lv Tg Res cj MO Jl Cp Op2 Blt Bm Kx Src)
structure Tab where
 fns:List (Option (Str×Nat))
 cls:List (Option (Str×Nat))
 mts:List (Str×Nat)
 Q4:List Str
 avm:List (Str×Int)
noncomputable def O6:List Str:=["len", "tuple", "list", "dict", "max", "min", "isinstance", "range", "enumerate", "set", "zip", "all", "bool", "int", "sum", "sorted"]
structure apy(T:Tab)(nm:Nm)(W:Jl)(k:Nat)(P:Program)(w:World)(K:Fg)(mg:Zs)(base:Heap):Prop where
 fn:∀f x n,T.fns[f]?=some (some (x,n))->∃fa fd ps,Gf P w K mg base CX0 k fa fd ps (spF nm W K n f)/\mg x=some (.ref fa)/\PySem.W.keepIn K (.ref fa)=true/\Binds K fd ps []
 cl:∀c x n,T.cls[c]?=some (some (x,n))->∃C fa fd ps cl,Mk K C fa/\Gf P w K mg base CX0 k fa fd ps (spF nm W K (n+1) cl.init)/\mg x=some (.ref C)/\Binds K fd ps []/\W.cls[c]?=some cl/\nm.cls c=some C
 mt:∀m x n,T.mts[m]?=some (x,n)->∃C fa fd ps f,Cls K C/\Meth K C x fa/\Gf P w K mg base CX0 k fa fd ps (spF nm W K (n+1) f)/\Binds K fd ps [] /\
  (∀c' cl',W.cls[c']?=some cl'->∀g,cl'.meths.lookup m=some g->nm.cls c'=some C/\g=f)/\∀i,nm.fld i≠x
 fl:∀f x,T.Q4[f]?=some x->x=nm.fld f/\∀c C,nm.cls c=some C->Cls K C/\Hc K C x
 cs:∀x i,(x,i)∈T.avm->∃t,mg x=some (.int i t)
 bt:∀x∈O6,mg x=none
structure Ctx where
 N:List Str
 sc:List (Str×NameKind)
 fn:Bool
 own:List Str
structure Ey(T:Tab)(nm:Nm)(W:Jl)(k:Nat)(c:Ctx)(X:Cx):Prop where
 N:X.N=c.N
 nd:c.N.Nodup
 sc:X.env.scope.names=c.sc
 kd:X.env.scope.kind=.function
 calm:X.calm=true
 room:Af (k+16) X.A
 fnl:c.fn=true->(∀n,X.fn n=true)/\PassesOwn (model X.prog X.w) X.A X.env X.xe
 tab:apy T nm W k X.prog X.w X.K X.mg X.base
 ow:∀n,c.own.contains n=true->X.fn n=true
noncomputable def Xk(n:Str):Bool:=!(n==("__debug__" : Str))&&(!(n==("__classdict__" : Str))&&!(n==("__name__" : Str)))
noncomputable def ak0(c:Ctx)(n:Str):Bool:=match c.sc.lookup n with|some .local=>true|some .cell=>true|some .free=>true|_=>false
noncomputable def a1p(c:Ctx)(n:Str):Bool:=match c.sc.lookup n with|some .local=>true|some .cell=>c.fn||c.own.contains n|_=>false
noncomputable def Vy(c:Ctx)(n:Str):Bool:=Xk n&&(match c.sc.lookup n with|some .globalImplicit=>true|_=>false)
noncomputable def aiw(c:Ctx)(i:Nat)(n:Str):Bool:=match c.N[i]? with|some m=>m==n|none=>false
noncomputable def zx:List Expr->Bool
 |[]=>true|e::r=>noStar e&&zx r
noncomputable def Xl:Expr->Bool
 |.Name ..=>true|.Attribute ..=>true|.Subscript ..=>true|.Call (.Attribute ..) ..=>true|_=>false
def ue(h:Xk n=true):(n==("__debug__" : Str))=false/\(n==("__classdict__" : Str))=false/\n≠"__name__" := by simp only[Xk,aq,Bool.not_eq_true'] at h;exact⟨h.1,h.2.1,λz=>by have:=h.2.2;rw[z] at this;simp at this⟩
set_option tactic.hygienic true in
def a1q(h:Ey T nm W k c X)(hv:ak0 c n=true):Vis X.env.scope n:=by unfold Vis;rw[h.sc];unfold ak0 at hv;split at hv<;>rename_i e<;>first|exact .inl e|exact .inr (.inl e)|exact .inr (.inr e)|cases hv
set_option tactic.hygienic true in
def a1r(h:Ey T nm W k c X)(hv:a1p c n=true):L2.Loc X.env.scope n/\(X.fn n=true\/X.env.scope.names.lookup n=some .local):=by
 unfold L2.Loc;rw[h.sc];unfold a1p at hv;split at hv
 . rename_i e;exact⟨.inl e,.inr e⟩
 . rename_i e;rcases(Bool.or_eq_true _ _).mp hv with z|z
   . exact⟨.inr e,.inl ((h.fnl z).1 n)⟩
   . exact⟨.inr e,.inl (h.ow n z)⟩
 . cases hv
set_option tactic.hygienic true in
def Hj(h:Ey T nm W k c X)(hv:Vy c n=true):Gl X n/\Xk n=true:=by
 unfold Vy at hv;rw[aq] at hv;refine⟨?_,hv.1⟩;have hv:=hv.2;unfold Gl Env.kindOf;rw[h.sc];split at hv
 . rename_i e;exact e
 . cases hv
set_option tactic.hygienic true in
def slot_of(h:Ey T nm W k c X)(hv:aiw c i n=true):X.N[i]?=some n:=by
 rw[h.N];unfold aiw at hv;split at hv
 . rename_i m e;rw[e,eq_of_beq hv]
 . cases hv
theorem Xm{env:Env}:∀{es:Ya},zx es=true->starEach es env=es.map λe=>(false,eval e env)
 |[],_=>rfl
 |e::r,h=>by
  simp only[zx,aq] at h;rw[kj h.1,Xm h.2];rfl
def wk(h:zx es=true):(backTo pos (starEach es env)).any (·.1)=false:=by rw[Xm h];simp[backTo]
def Xn(h:zx es=true):(backTo pos (starEach es env)).all (λx=>!x.1)=true:=by rw[Xm h];simp[backTo]
set_option tactic.hygienic true in
def Jz(h:Xl o=true):attributeBase o n env (eval o env)=eval o env:=by
 cases o<;>try first|rfl|(cases h;done)
 rename_i f as kws p;cases f<;>first|rfl|(cases h)
def aix(h:Xl o=true)(hs:zx es=true)(hl:es.length<29)(hp:(apos.endLine==pos.line)=true) :
 eval (.Call (.Attribute o m apos) es [] pos) env=(do
  let ov <- eval o env
  standAt apos.atName
  let (f,first) <- holding [ov] (getMethod ov m (do return (<- importBound o env).getD true))
  callWith pos f first (backTo pos (starEach es env)) (backToKw pos (keywordEach [] env))):=by
 have hf:methodCallForm (es.length+0) (backTo pos (starEach es env)) (backToKw pos (keywordEach [] env))=true:=by unfold methodCallForm;rw[Xn hs];simp[keywordEach,backToKw];exact b_ hl (by decide)
 show(do
  let ov <- attributeBase o m env (eval o env)
  standAt apos.atName
  methodCall o m apos pos env ov (es.length+0) (backTo pos (starEach es env)) (backToKw pos (keywordEach [] env)))=_
 rw[Jz h];unfold methodCall;rw[hf];have hq:methodCallPos true o env apos pos=pure pos:=by unfold methodCallPos;rw[hp];rfl
 rw[hq];simp only[calleeOf,ju,pure_bind]
noncomputable def Dc{α:Type}(o:Option α)(f:α->Bool):Bool:=match o with|some x=>f x|none=>false
def jr(h:Dc o f=true):∃x,o=some x/\f x=true:=by
 cases o with
 |none=>cases h|some x=>exact⟨x,rfl,h⟩
noncomputable def Q5{α:Type}(l:List α):Option α:=match l with|[x]=>some x|_=>none
def Bo(h:Q5 l=some x):l=[x]:=by
 cases l with
 |nil=>cases h
 |cons y r=>cases r with
  |nil=>cases h;rfl|cons _ _=>cases h
def Ye{α:Type}{P:α->Prop}{o:Option {x // P x}}{q:α}(h:o.map Subtype.val=some q):P q:=by
 cases o with
 |none=>cases h|some x=>cases h;exact x.2
noncomputable def U7(a:Expr):Option Str:=Option.map Subtype.val (α:={q:Str // ∃p,a=.Name q p}) (match a with|.Name n p=>some ⟨n,p,rfl⟩|_=>none)
noncomputable def apz(a:Expr):Option Const:=Option.map Subtype.val (α:={q:Const // ∃k p,a=.Constant q k p}) (match a with|.Constant n k p=>some ⟨n,k,p,rfl⟩|_=>none)
noncomputable def a88(a:Expr):Option (Expr×Operator×Expr):=Option.map Subtype.val (α:={q:Expr×Operator×Expr // ∃p,a=.BinOp q.1 q.2.1 q.2.2 p}) (match a with|.BinOp l o r p=>some ⟨(l,o,r),p,rfl⟩|_=>none)
noncomputable def dUn(a:Expr):Option (UnaryOp×Expr):=Option.map Subtype.val (α:={q:UnaryOp×Expr // ∃p,a=.UnaryOp q.1 q.2 p}) (match a with|.UnaryOp o l p=>some ⟨(o,l),p,rfl⟩|_=>none)
noncomputable def avn(a:Expr):Option (Expr×List CmpOp×List Expr):=Option.map Subtype.val (α:={q:Expr×List CmpOp×List Expr // ∃p,a=.Compare q.1 q.2.1 q.2.2 p}) (match a with|.Compare l o r p=>some ⟨(l,o,r),p,rfl⟩|_=>none)
noncomputable def axq(a:Expr):Option (BoolOp×List Expr×Pos):=Option.map Subtype.val (α:={q:BoolOp×List Expr×Pos // a=.BoolOp q.1 q.2.1 q.2.2}) (match a with|.BoolOp o l p=>some ⟨(o,l,p),rfl⟩|_=>none)
noncomputable def a1s(a:Expr):Option (Expr×Expr×Expr):=Option.map Subtype.val (α:={q:Expr×Expr×Expr // ∃p,a=.IfExp q.1 q.2.1 q.2.2 p}) (match a with|.IfExp t l r p=>some ⟨(t,l,r),p,rfl⟩|_=>none)
noncomputable def aen(a:Expr):Option (List Expr):=Option.map Subtype.val (α:={q:List Expr // ∃k p,a=.Tuple q k p}) (match a with|.Tuple l k p=>some ⟨l,k,p,rfl⟩|_=>none)
noncomputable def a1t(a:Expr):Option (List Expr):=Option.map Subtype.val (α:={q:List Expr // ∃p,a=.List q p}) (match a with|.List l p=>some ⟨l,p,rfl⟩|_=>none)
noncomputable def a1u(a:Expr):Option (List (Option Expr)×List Expr):=Option.map Subtype.val (α:={q:List (Option Expr)×List Expr // ∃p,a=.Dict q.1 q.2 p}) (match a with|.Dict k v p=>some ⟨(k,v),p,rfl⟩|_=>none)
noncomputable def ap0(a:Expr):Option (Expr×Expr):=Option.map Subtype.val (α:={q:Expr×Expr // ∃p,a=.Subscript q.1 q.2 p}) (match a with|.Subscript l r p=>some ⟨(l,r),p,rfl⟩|_=>none)
noncomputable def dSl(a:Expr):Option (Option Expr×Option Expr×Option Expr):=Option.map Subtype.val (α:={q:Option Expr×Option Expr×Option Expr // ∃p,a=.Slice q.1 q.2.1 q.2.2 p}) (match a with|.Slice l r s p=>some ⟨(l,r,s),p,rfl⟩|_=>none)
noncomputable def ap1(a:Expr):Option (Expr×List Expr×List Keyword×Pos):=Option.map Subtype.val (α:={q:Expr×List Expr×List Keyword×Pos // a=.Call q.1 q.2.1 q.2.2.1 q.2.2.2}) (match a with|.Call f l k p=>some ⟨(f,l,k,p),rfl⟩|_=>none)
noncomputable def ap2(a:Expr):Option (Expr×Str×Pos):=Option.map Subtype.val (α:={q:Expr×Str×Pos // a=.Attribute q.1 q.2.1 q.2.2}) (match a with|.Attribute l n p=>some ⟨(l,n,p),rfl⟩|_=>none)
noncomputable def aeo(a:Expr):Option (Expr×List Comprehension×Scope):=Option.map Subtype.val (α:={q:Expr×List Comprehension×Scope // ∃p,a=.ListComp q.1 q.2.1 q.2.2 p}) (match a with|.ListComp e g s p=>some ⟨(e,g,s),p,rfl⟩|_=>none)
def K8(h:U7 a=some n):∃p,a=.Name n p:=(Ye h :)
def Vz(h:apz a=some n):∃k p,a=.Constant n k p:=(Ye h :)
def avo(h:a88 a=some (l,o,r)):∃p,a=.BinOp l o r p:=(Ye h :)
def ap3(h:dUn a=some (o,l)):∃p,a=.UnaryOp o l p:=(Ye h :)
def abt(h:avn a=some (l,o,r)):∃p,a=.Compare l o r p:=(Ye h :)
def ap4(h:axq a=some (o,r,p)):a=.BoolOp o r p:=(Ye h :)
def avp(h:a1s a=some (t,l,r)):∃p,a=.IfExp t l r p:=(Ye h :)
def Sw(h:aen a=some l):∃k p,a=.Tuple l k p:=(Ye h :)
def aiy(h:a1t a=some l):∃p,a=.List l p:=(Ye h :)
def aiz(h:a1u a=some (k,l)):∃p,a=.Dict k l p:=(Ye h :)
def abu(h:ap0 a=some (l,r)):∃p,a=.Subscript l r p:=(Ye h :)
def a1v(h:dSl a=some (l,r,s)):∃p,a=.Slice l r s p:=(Ye h :)
def aep(h:ap1 a=some (f,l,k,p)):a=.Call f l k p:=(Ye h :)
def abv(h:ap2 a=some (l,n,p)):a=.Attribute l n p:=(Ye h :)
def Xo(h:aeo a=some (e,g,s)):∃p,a=.ListComp e g s p:=(Ye h :)
noncomputable def dCN(a:Expr):Option (Str×List Expr):=(ap1 a).bind λq=>if q.2.2.1.isEmpty then(U7 q.1).map λn=>(n,q.2.1) else none
set_option tactic.hygienic true in
def Je(h:dCN a=some (n,l)):∃p p',a=.Call (.Name n p) l [] p':=by
 obtain⟨⟨f,l',k,p⟩,h1,h2⟩:=dm.mp h;split at h2
 . rename_i hk
   obtain⟨n',h3,h4⟩:=cu.mp h2;obtain⟨p',e⟩:=K8 h3;have e:f=_:=e;have hk:k=[]:=q9.mp hk;cases h4;exact⟨p',p,by rw[aep h1,e,hk]⟩
 . cases h2
noncomputable def dCA(a:Expr):Option (Expr×Str×Pos×List Expr×Pos):=(ap1 a).bind λq=>if q.2.2.1.isEmpty then(ap2 q.1).map λn=>(n.1,n.2.1,n.2.2,q.2.1,q.2.2.2) else none
set_option tactic.hygienic true in
def ap5(h:dCA a=some (o,n,ap,l,p)):a=.Call (.Attribute o n ap) l [] p:=by
 obtain⟨⟨f,l',k,p'⟩,h1,h2⟩:=dm.mp h;split at h2
 . rename_i hk
   obtain⟨⟨o',n',ap'⟩,h3,h4⟩:=cu.mp h2;have e:f=_:=abv h3;have hk:k=[]:=q9.mp hk;cases h4;rw[aep h1,e,hk]
 . cases h2
noncomputable def a89(l:Ya):List Str:=l.filterMap U7
noncomputable def Et(e:Expr):List Str:=match aen e with|some l=>a89 l|none=>a89 [e]
noncomputable def hid(i:Nat):Str:=⟨#[0,i]⟩
noncomputable def ak1(ts:Yf)(p:Str×Nat):Str:=if ts.contains p.1=true then hid p.2 else p.1
noncomputable def Vl(N ts:Yf):List Str:=N.zipIdx.map (ak1 ts)++ts
noncomputable def avq(c:Ctx)(names:X0):List (Str×NameKind):=names.map λy=>if(y.2==NameKind.free&&c.sc.lookup y.1==some .cell) then(y.1,NameKind.cell) else(y.1,y.2)
noncomputable def aeq(c:Ctx)(sc:Scope)(ts:Yf):Ctx:=⟨Vl c.N ts,avq c sc.names,false,(sc.names.filter λy=>y.2==NameKind.cell).map (·.1)⟩
noncomputable def a1w(c:Ctx)(sc:Scope)(ts:Yf):Bool :=
 decide (sc.kind=.function)&&(sc.names.all (λy=>sc.names.lookup y.1==some y.2) &&
 (sc.names.all (λy=>!(y.2==NameKind.free)||(c.sc.lookup y.1==some .cell||c.sc.lookup y.1==some .free))&&(decide ((Vl c.N ts).Nodup) &&
 c.N.zipIdx.all (λp=>!(ak0 (aeq c sc ts) (ak1 ts p))||(ak1 ts p==p.1&&sc.names.lookup (ak1 ts p)==some .free)))))
noncomputable def a9a:Op2->Operator
 |.add=>.Add|.amh=>.Add|.sub=>.Sub|.mul=>.Mult|.fdiv=>.FloorDiv|.mod=>.Mod|.pow=>.Pow
noncomputable def avr:Cp->Option CmpOp
 |.eq=>some .Eq|.ne=>some .NotEq|.lt=>some .Lt|.le=>some .LtE|.gt=>some .Gt|.ge=>some .GtE|.inn=>some .In|.Ra=>some .NotIn
 |.is=>some .Is|.ami=>none
noncomputable def a1x:Blt->Option Str
 |.len=>some "len"|.tuple=>some "tuple"|.list=>some "list"|.dict=>some "dict"|.max=>some "max"|.min=>some "min"
 |.all=>some "all"|_=>none
noncomputable def bmN:Bm->Option Str
 |.append=>some "append"|.index=>some "index"|.get=>some "get"
noncomputable def a1y(T:Tab)(c:Ctx)(d:MW.D)(a:Expr):Bool :=
 match d with
 |.int i=>Dc (apz a) (λk=>decide (k=.int i))||Dc (U7 a) λn=>Vy c n&&T.avm.contains (n,i)
 |.bl i=>Dc (apz a) λk=>decide (k=.bool i)
 |.non=>Dc (apz a) λk=>decide (k=.none)
 |.str s=>Dc (apz a) λk=>decide (k=.str s)
 |_=>false
noncomputable def tg1(c:Ctx)(lo i:Nat)(e:Expr):Bool:=Dc (U7 e) λn=>aiw c i n&&(a1p c n&&decide (lo<=i))
noncomputable def ak2(c:Ctx)(lo:Nat):List Nat->List Expr->Bool
 |[],[]=>true|i::is,e::ts=>tg1 c lo i e&&ak2 c lo is ts|_,_=>false
noncomputable def tgB(c:Ctx)(lo:Nat)(t:Tg)(e:Expr):Bool :=
 match t with
 |.name i=>tg1 c lo i e|.names is=>Dc (aen e) λts=>ak2 c lo is ts
noncomputable def Sx(e:Expr):Bool:=(a1s e).isNone
noncomputable def fnB(l:List (Option (Str×Nat)))(f:Nat)(n:Str)(k:Nat):Bool:=decide (l[f]?=some (some (n,k)))
noncomputable def mtB(l:List (Str×Nat))(f:Nat)(n:Str)(k:Nat):Bool:=decide (l[f]?=some (n,k))
noncomputable def flB(l:Yf)(f:Nat)(n:Str):Bool:=decide (l[f]?=some n)
noncomputable def ai1(c:Ctx)(k:Nat)(t:Tg)(g:Comprehension)(sc:Scope):Bool :=
 a1w c sc (Et g.target)&&((k==(Et g.target).length)&&(tgB (aeq c sc (Et g.target)) c.N.length t g.target&&(Hg g.iter&&decide (g.is_async=0))))
noncomputable def ap6(o:BoolOp)(a:Expr)(x y:Expr->Bool):Bool :=
 Dc (axq a) λq=>decide (q.1=o)&&(match q.2.1 with
  |l::r::rest=>(Sx l&&x l)&&(match rest with|[]=>Sx r&&y r|_::_=>y (.BoolOp o (r::rest) q.2.2))
  | _=>false)
noncomputable def a9b(c:Ctx)(ty:Str)(a:Expr)(f:Expr->Bool):Bool:=Dc (dCN a) λq=>match q.2 with
 |[l,t]=>Dc (U7 t) λtn=>(decide (q.1 = "isinstance")&&decide (tn=ty))&&((Vy c q.1&&Vy c tn)&&(noStar l&&f l))
 |_=>false
def avs(h:a9b c ty a f=true):∃l p p1 p2,a=.Call (.Name "isinstance" p) [l,.Name ty p1] [] p2/\Vy c "isinstance" = true/\Vy c ty=true/\noStar l=true/\f l=true:=by
 obtain⟨⟨n,ls⟩,h1,h0⟩:=jr h;clear h;obtain⟨p,p',rfl⟩:=Je h1
 match ls,h1,h0 with
 |[l,t],h1,h =>
  replace h:=jr (f:=λtn=>(decide (n = "isinstance")&&decide (tn=ty))&&((Vy c n&&Vy c tn)&&(noStar l&&f l))) h;obtain⟨tn,h2,h⟩:=h;obtain⟨p2,rfl⟩:=K8 h2;simp only[aq,di] at h;obtain⟨⟨rfl,rfl⟩,⟨h3,h4⟩,h5,h6⟩:=h;exact⟨l,p,p2,p',rfl,h3,h4,h5,h6⟩
 |[],_,h=>cases h|[_],_,h=>cases h|_::_::_::_,_,h=>cases h
noncomputable def ap7(c:Ctx)(ty tn:Str)(a:Expr)(f:Expr->Bool):Bool:=Dc (dCN a) λq=>Dc (Q5 q.2) λr=>Dc (dCN r) λu=>Dc (Q5 u.2) λl=>((decide (q.1=ty)&&decide (u.1=tn))&&(Vy c q.1&&Vy c u.1))&&(noStar l&&f l)
def abw(h:ap7 c ty tn a f=true):∃l p p1 p2 p3,a=.Call (.Name ty p) [.Call (.Name tn p1) [l] [] p2] [] p3/\Vy c ty=true/\Vy c tn=true/\noStar l=true/\f l=true:=by replace h:=jr h;obtain⟨⟨n,ls⟩,h1,h⟩:=h;obtain⟨p,p',rfl⟩:=Je h1;replace h:=jr h;obtain⟨r,h2,h⟩:=h;cases Bo h2;replace h:=jr h;obtain⟨⟨m,ms⟩,h3,h⟩:=h;obtain⟨p2,q2,rfl⟩:=Je h3;replace h:=jr h;obtain⟨l,h4,h⟩:=h;cases Bo h4;simp only[aq,di] at h;obtain⟨⟨⟨rfl,rfl⟩,h5,h6⟩,h7,h8⟩:=h;exact⟨l,p,p2,q2,p',rfl,h5,h6,h7,h8⟩
mutual
noncomputable def yz(T:Tab):Ex->Ctx->Expr->Bool
 |.var i,c,a=>Dc (U7 a) λn=>aiw c i n&&(ak0 c n&&Xk n)
 |.cst d,c,a=>a1y T c d a|.bin op x y,c,a=>Dc (a88 a) λq=>decide (q.2.1=a9a op)&&(yz T x c q.1&&yz T y c q.2.2)
 |.neg x,c,a=>Dc (dUn a) λq=>decide (q.1=.USub)&&yz T x c q.2
 |.cmp op x y,c,a=>Dc (avn a) λq=>Dc (Q5 q.2.1) λo=>Dc (Q5 q.2.2) λr=>decide (avr op=some o)&&(Hg r&&(yz T x c q.1&&yz T y c r))
 |.chain o1 o2 x y z,c,a=>Dc (avn a) λq=>match q.2.1,q.2.2 with
  |[p1,p2],[r,s]=>(decide (avr o1=some p1)&&decide (avr o2=some p2))&&(Hg s&&(yz T x c q.1&&(yz T y c r&&yz T z c s)))|_,_=>false
 |.and x y,c,a=>ap6 .And a (yz T x c) (yz T y c)|.or x y,c,a=>ap6 .Or a (yz T x c) (yz T y c)|.not x,c,a=>Dc (dUn a) λq=>decide (q.1=.Not)&&(Sx q.2&&yz T x c q.2)
 |.ite t x y,c,a=>Dc (a1s a) λq=>Sx q.1&&(yz T t c q.1&&(yz T x c q.2.1&&yz T y c q.2.2))
 |.tup es,c,a=>Dc (aen a) λl=>decide (Dl.len es<=1000)&&J6 T es c l
 |.lst es,c,a=>Dc (a1t a) λl=>decide (Dl.len es<=1000)&&J6 T es c l
 |.Hu es,c,a=>Dc (a1t a) λl=>decide (Dl.len es<=1000)&&J6 T es c l
 |.ajs,_,a=>Dc (a1u a) λq=>q.1.isEmpty&&q.2.isEmpty
 |.aak,_,a=>Dc (a1u a) λq=>q.1.isEmpty&&q.2.isEmpty
 |.ix x y,c,a=>Dc (ap0 a) λq=>abk q.2&&(yz T x c q.1&&yz T y c q.2)
 |.cut x lo hi,c,a=>Dc (ap0 a) λq=>Dc (dSl q.2) λs=>s.2.2.isNone&&(yz T x c q.1&&(a1z T lo c s.1&&a1z T hi c s.2.1))
 |.call f es,c,a=>Dc (dCN a) λq=>(fnB T.fns f q.1 (Dl.len es)&&(Vy c q.1&&!q.2.isEmpty))&&J6 T es c q.2
 |.make f es,c,a=>Dc (dCN a) λq=>(fnB T.cls f q.1 (Dl.len es)&&(Vy c q.1&&!q.2.isEmpty))&&J6 T es c q.2
 |.meth o m es,c,a=>Dc (dCA a) λq=>((mtB T.mts m q.2.1 (Dl.len es)&&Xl q.1)&&(decide (q.2.2.2.1.length<29)&&(q.2.2.1.endLine==q.2.2.2.2.line)))&&(yz T o c q.1&&J6 T es c q.2.2.2.1)
 |.fld o f,c,a=>Dc (ap2 a) λq=>(flB T.Q4 f q.2.1&&Xl q.1)&&yz T o c q.1
 |.blt .Gi (.cons x .nil),c,a=>ap7 c "sorted" "set" a (yz T x c)|.blt .isBool (.cons x .nil),c,a=>a9b c "bool" a (yz T x c)|.blt b es,c,a=>Dc (dCN a) λq=>(decide (a1x b=some q.1)&&(Vy c q.1&&!q.2.isEmpty))&&J6 T es c q.2
 |.bm m o es,c,a=>Dc (dCA a) λq=>((decide (bmN m=some q.2.1)&&Xl q.1)&&(decide (q.2.2.2.1.length<29)&&((q.2.2.1.endLine==q.2.2.2.2.line)&&!q.2.2.2.1.isEmpty)))&&(yz T o c q.1&&J6 T es c q.2.2.2.1)
 |.comp v k t it e,c,a=>Dc (aeo a) λq=>Dc (Q5 q.2.1) λg=>(ai1 c k t g q.2.2&&g.ifs.isEmpty)&&(avt T it c g.target g.iter&&yz T e (aeq c q.2.2 (Et g.target)) q.1)
 |.Dj v k t it i e,c,a=>Dc (aeo a) λq=>Dc (Q5 q.2.1) λg=>Dc (Q5 g.ifs) λd=>(ai1 c k t g q.2.2&&Sx d)&&(avt T it c g.target g.iter&&(yz T i (aeq c q.2.2 (Et g.target)) d&&yz T e (aeq c q.2.2 (Et g.target)) q.1))
 |.Wd x y,c,a=>Dc (avn a) λq=>Dc (Q5 q.2.1) λo=>Dc (Q5 q.2.2) λr=>Dc (dCN q.1) λu=>Dc (dCN r) λv=>Dc (Q5 u.2) λl=>Dc (Q5 v.2) λm =>
  ((decide (o=.NotEq)&&decide (u.1 = "set"))&&(decide (v.1 = "set")&&Vy c u.1))&&((noStar l&&noStar m)&&(yz T x c l&&yz T y c m))
 |.afv x,c,a=>ap7 c "tuple" "range" a (yz T x c)|.afw x,c,a=>ap7 c "list" "range" a (yz T x c)
noncomputable def J6(T:Tab):Dl->Ctx->List Expr->Bool
 |.nil,_,a=>a.isEmpty|.cons e es,c,a=>match a with|l::ls=>noStar l&&(yz T e c l&&J6 T es c ls)|_=>false
noncomputable def a1z(T:Tab):OEx->Ctx->Option Expr->Bool
 |.none,_,a=>a.isNone|.some e,c,a=>Dc a (yz T e c)
noncomputable def avt(T:Tab):P0->Ctx->Expr->Expr->Bool
 |.val e,c,_,a=>yz T e c a|.Kh e,c,_,a=>Dc (dCN a) λq=>Dc (Q5 q.2) λl=>(decide (q.1 = "range")&&Vy c q.1)&&(noStar l&&yz T e c l)
 |.enm e,c,tg,a=>Dc (dCN a) λq=>Dc (Q5 q.2) λl=>((aen tg).isSome&&(decide (q.1 = "enumerate")&&Vy c q.1))&&(noStar l&&yz T e c l)
 |.acj x y z,c,tg,a=>Dc (dCN a) λq=>match q.2 with
  |[l,r,s]=>((aen tg).isSome&&(decide (q.1 = "zip")&&Vy c q.1))&&((noStar l&&(noStar r&&noStar s))&&(yz T x c l&&(yz T y c r&&yz T z c s)))|_=>false
end
def Ql(h:Ey T nm W k c X)(sc:Scope):(relabel sc X.env).names=avq c sc.names:=by
 unfold relabel avq;refine qd λy _=>?_
 obtain⟨n,kd⟩:=y;show(if(kd==NameKind.free&&X.env.scope.kind==.function&&X.env.kindOf n==some .cell)=true then _ else _)=_;have e:(kd==NameKind.free&&X.env.scope.kind==.function&&X.env.kindOf n==some .cell)=(kd==NameKind.free&&c.sc.lookup n==some .cell):=by unfold Env.kindOf;rw[h.kd,h.sc];simp
 rw[e]
def a2a(h:Ey T nm W k c X)(hb:a1w c sc ts=true):Fb X (Vl c.N ts) sc/\∀C fp s H,Ey T nm W k (aeq c sc ts) (Np X (Vl c.N ts) sc C fp s H):=by
 simp only[a1w,aq,di,gq] at hb;obtain⟨h1,h3,h4,h5,h6⟩:=hb;have uniq:∀x kd,(x,kd)∈sc.names->sc.names.lookup x=some kd:=λx kd m=>by have:=h3 (x,kd) m;simpa using this
 refine⟨⟨h1,λy m e=>by rw[uniq y.1 y.2 m,e],λy m e=>?_,uniq,?_,λi x hi hx hv=>?_⟩,λC fp s H=>⟨rfl,h5,Ql h sc,h1,h.calm,h.room,(λz=>by cases z),h.tab,λn m=>?_⟩⟩
 . have:=h4 y m
   rw[e] at this;unfold Env.kindOf;rw[h.sc];simpa using this
 . rw[h.N];simp[Vl]
 . rw[h.N] at hi
   have hl:i<(c.N.zipIdx.map (ak1 ts)).length:=by simpa using hi
   unfold Vl at hx;rw[du hl,jd,Ag] at hx;obtain⟨n,hn⟩:∃n,c.N[i]?=some n:=⟨c.N[i],by simp[hi]⟩;rw[hn] at hx;have hx:ak1 ts (n,i)=x:=by simpa using hx
   have m:(n,i)∈c.N.zipIdx:=by rw[vh];exact⟨i,by rw[Ag,hn];simp⟩
   have q:=h6 (n,i) m;rw[hx] at q;have v:ak0 (aeq c sc ts) x=true:=by unfold Vis at hv;rw[Ql h] at hv;unfold ak0;show(match(avq c sc.names).lookup x with|some .local=>true|some .cell=>true|some .free=>true|_=>false)=true;rcases hv with e|e|e<;>rw[e]
   rw[v] at q;simp only[qp,Bool.false_or,aq] at q;rw[h.N,hn];have e1:x=n:=eq_of_beq q.1;exact⟨by rw[e1],by have:=q.2;simpa using this⟩
 . obtain⟨y,hy,rfl⟩:=bu.mp (List.contains_iff_mem.mp m)
   obtain⟨h7,h8⟩:=v7.mp hy;show(sc.names.lookup y.1==some .cell)=true;rw[uniq y.1 y.2 h7,eq_of_beq h8];rfl
def a9c(h:o=a9a op):Cz X (binaryOp o) (rOp nm X.K (MW.Cm op)):=by
 subst h;cases op with
 |add=>exact a75|amh=>exact a1m|sub=>exact a71|mul=>exact a74|fdiv=>exact a0p|mod=>exact a72|pow=>exact a73
def ap8(hr:Af 8 X.A)(h:avr op=some o):Cz X (compareOp o) (W4 nm X.K op):=by
 have h6:Af 6 X.A:=hr.mono (by decide);cases op with
 |eq=>cases h;exact bet h6|ne=>cases h;exact beu h6|lt=>cases h;exact bef|le=>cases h;exact beh|gt=>cases h;exact bei|ge=>cases h;exact bej|inn=>cases h;exact bev hr|Ra=>cases h;exact auu hr|is=>cases h;exact be4|ami=>cases h
def ag0(h:Ey T nm W k c X)(hb:tg1 c lo i e=true):∃n p,e=.Name n p/\X.N[i]?=some n/\L2.Loc X.env.scope n/\(X.fn n=true\/X.env.scope.names.lookup n=some .local)/\lo<=i:=by obtain⟨n,h1,h2⟩:=jr hb;obtain⟨p,rfl⟩:=K8 h1;simp only[aq,di] at h2;obtain⟨l1,l2⟩:=a1r h h2.2.1;exact⟨n,p,rfl,slot_of h h2.1,l1,l2,h2.2.2⟩
theorem ap9{T:Tab}{nm:Nm}{W:Jl}{k:Nat}{c:Ctx}{X:Cx}(h:Ey T nm W k c X){lo:Nat}:∀{is:Y3}{ts:Ya},ak2 c lo is ts=true->Mm X ts is/\∀i∈is,lo<=i
 |[],[],_=>⟨.nil,by simp⟩|[],_::_,e=>by cases e|_::_,[],e=>by cases e
 |i::is,a::ts,e=>by
  unfold ak2 at e;rw[aq] at e;obtain⟨n,p,rfl,e1,e2,e3,e4⟩:=ag0 h e.1;obtain⟨g1,g2⟩:=ap9 h e.2;refine⟨.cons e1 e2 e3 g1,λj hj=>?_⟩;rcases bw.mp hj with z|z
  . rw[z];exact e4
  . exact g2 j z
def ai2(h:Ey T nm W k c X)(hb:tgB c lo t e=true):PG X e (tGt nm X.K t)/\∀i∈Bt t,lo<=i:=by
 have nd:X.N.Nodup:=by rw[h.N];exact h.nd
 cases t with
 |name i =>
  obtain⟨n,p,rfl,e1,e2,e3,e4⟩:=ag0 h hb;exact⟨a0u nd e1 e2 e3,λi hi=>by rw[xm.mp hi];exact e4⟩
 |names is =>
  obtain⟨ts,h1,h2⟩:=jr hb;obtain⟨k0,p,rfl⟩:=Sw h1;obtain⟨g1,g2⟩:=ap9 h h2;exact⟨auq h.calm nd g1,g2⟩
structure Got(nm:Nm)(W:Jl)(X:Cx)(a:Expr)(e:Ex):Prop where
 v:PE X a (tE nm W X.K e)
 q:Sx a=true->PT X a (tQ nm W X.K e)
 w:∀op ls p,a=.BoolOp op ls p->PW X a (tQ nm W X.K e)
noncomputable def a9d:Expr->Bool
 |.BoolOp ..=>false|.UnaryOp .Not _ _=>false|.IfExp ..=>false|.Compare ..=>false|_=>true
set_option tactic.hygienic true in
def xg(h:PE X a (tE nm W X.K e))(hv:a9d a=true):Got nm W X a e:=by
 refine⟨h,λhq=>a76 h λwhole=>?_,λop ls p z=>by subst z;cases hv⟩;cases a<;>first|rfl|(cases hv)|skip
 rename_i op x p;cases op<;>first|rfl|cases hv
def a2b(h:Ey T nm W k c X)(hb:a1y T c d a=true):PE X a (tE nm W X.K (.cst d))/\a9d a=true:=by
 cases d with
 |int i =>
  simp only[a1y,Bool.or_eq_true] at hb;rcases hb with hb|hb
  . obtain⟨k,h1,h2⟩:=jr hb
    obtain⟨j,p,rfl⟩:=Vz h1;rw[j6 h2];exact⟨a7x,rfl⟩
  . obtain⟨n,h1,h2⟩:=jr hb
    obtain⟨p,rfl⟩:=K8 h1;rw[aq] at h2;obtain⟨g1,g2⟩:=Hj h h2.1;obtain⟨t,ht⟩:=h.tab.cs _ _ (List.contains_iff_mem.mp h2.2);exact⟨a0n g1 ht (ue g2).1,rfl⟩
 |bl i =>
  obtain⟨k,h1,h2⟩:=jr hb;obtain⟨j,p,rfl⟩:=Vz h1;rw[j6 h2];exact⟨bed,rfl⟩
 |non =>
  obtain⟨k,h1,h2⟩:=jr hb;obtain⟨j,p,rfl⟩:=Vz h1;rw[j6 h2];exact⟨a7y,rfl⟩
 |str s =>
  obtain⟨k,h1,h2⟩:=jr hb;obtain⟨j,p,rfl⟩:=Vz h1;rw[j6 h2];exact⟨a7z,rfl⟩
 |_=>cases hb
section
variable{T:Tab}{nm:Nm}{W:Jl}{k:Nat}
def Ey.r8(h:Ey T nm W k c X):Af 8 X.A:=h.room.mono (by lia)
theorem Ey.mg(h:Ey T nm W k c X)(m:n∈O6):X.mg n=none:=h.tab.bt n m
def ak3(h:J6 T es c []=true):es=.nil:=by
 cases es with
 |nil=>rfl|cons e es=>simp[J6] at h
theorem U8{c:Ctx}{lo:Nat}:∀{is:Y3}{ts:Ya},ak2 c lo is ts=true->∀i∈is,lo<=i
 |[],_,_=>by simp|_::_,[],e=>by cases e
 |i::is,a::ts,e=>by
  unfold ak2 at e;rw[aq] at e;intro j hj;rcases bw.mp hj with z|z
  . obtain⟨n,h1,h2⟩:=jr e.1
    simp only[aq,di] at h2;rw[z];exact h2.2.2
  . exact U8 e.2 j z
def ag1(h:tgB c lo t e=true):∀i∈Bt t,lo<=i:=by
 cases t with
 |name j =>
  obtain⟨n,h1,h2⟩:=jr h;simp only[aq,di] at h2;intro i hi;rw[xm.mp hi];exact h2.2.2
 |names is =>
  obtain⟨ts,h1,h2⟩:=jr h;exact U8 h2
def aqa:(Vl N ts).length-N.length=ts.length:=by simp[Vl]
def Sy(hc:Ey T nm W k c X)(h:ai1 c j t g sc=true) :
 Hg g.iter=true/\g.is_async=0/\Fb X (Vl c.N (Et g.target)) sc/\(∀C fp s H,Ey T nm W k (aeq c sc (Et g.target)) (Np X (Vl c.N (Et g.target)) sc C fp s H)) /\
 (∀C fp s H,PG (Np X (Vl c.N (Et g.target)) sc C fp s H) g.target (tGt nm X.K t))/\(Vl c.N (Et g.target)).length-X.N.length=j/\∀i∈Bt t,X.N.length<=i:=by
 simp only[ai1,aq,di] at h;obtain⟨h2,h3,h4,h5,h6⟩:=h;obtain⟨B,hB⟩:=a2a hc h2;exact⟨h5,h6,B,hB,λC fp s H=>(ai2 (hB C fp s H) h4).1,by rw[hc.N,aqa];exact(eq_of_beq h3).symm,λi hi=>by rw[hc.N];exact ag1 h4 i hi⟩
def ai3(h:ap6 o a x y=true):(∃l r p,a=.BoolOp o [l,r] p/\Sx l=true/\x l=true/\Sx r=true/\y r=true) \/
 ∃l r s rest p,a=.BoolOp o (l::r::s::rest) p/\Sx l=true/\x l=true/\y (.BoolOp o (r::s::rest) p)=true:=by
 obtain⟨⟨o',ls,p⟩,h1,h2⟩:=jr h;cases ap4 h1;rw[aq] at h2;obtain⟨h3,h2⟩:=h2;cases j6 h3;cases ls with
 |nil=>cases h2
 |cons l ls=>cases ls with
  |nil=>cases h2
  |cons r rest =>
   cases rest with
   |nil =>
    have h2:((Sx l&&x l)&&(Sx r&&y r))=true:=h2;simp only[aq] at h2;exact .inl ⟨l,r,p,rfl,h2.1.1,h2.1.2,h2.2.1,h2.2.2⟩
   |cons s rest =>
    have h2:((Sx l&&x l)&&y (.BoolOp o' (r::s::rest) p))=true:=h2;simp only[aq] at h2;exact .inr ⟨l,r,s,rest,p,rfl,h2.1.1,h2.1.2,h2.2⟩
def a2c(hc:Ey T nm W k c X)(hb:a1x b=some n)(hg:Vy c n=true)(e1:PA X (l::ls) (Yc nm W X.K es))(e2:zx (l::ls)=true):PE X (.Call (.Name n p) (l::ls) [] p') (tE nm W X.K (.blt b es)):=by
 obtain⟨g1,g2⟩:=Hj hc hg;obtain⟨d1,d2,d3⟩:=ue g2;simp only[zx,aq] at e2;have st:=kj e2.1 ls X.env;have an:=wk (env:=X.env) (pos:=p') e2.2;have mg:n∈O6->X.mg n=none:=hc.mg;cases b with
 |len=>cases hb;exact aij (id := "len") a8s g1 (mg (by decide+kernel)) (by decide+kernel) e1 d3 d1 st an|max=>cases hb;exact aij (id := "max") (a8z hc.calm) g1 (mg (by decide+kernel)) (by decide+kernel) e1 d3 d1 st an|all=>cases hb;exact aij (id := "all") (a86 hc.calm) g1 (mg (by decide+kernel)) (by decide+kernel) e1 d3 d1 st an|min=>cases hb;exact aij (id := "min") (a81 hc.calm) g1 (mg (by decide+kernel)) (by decide+kernel) e1 d3 d1 st an|tuple=>cases hb;exact agu (T := "tuple") aut g1 (mg (by decide+kernel)) (by decide+kernel) e1 d3 d1 st an|list=>cases hb;exact agu (T := "list") a08 g1 (mg (by decide+kernel)) (by decide+kernel) e1 d3 d1 st an|dict=>cases hb;exact agu (T := "dict") a1f g1 (mg (by decide+kernel)) (by decide+kernel) e1 d3 d1 st an|_=>cases hb
def abx{α:Type}{l:List α}(h:(!l.isEmpty)=true):∃x r,l=x::r:=by
 cases l with
 |nil=>cases h|cons x r=>exact⟨x,r,rfl⟩
set_option maxHeartbeats 2000000 in
set_option tactic.hygienic true in
mutual
theorem jn:∀(e:Ex){c:Ctx}{X:Cx}{a:Expr},Ey T nm W k c X->yz T e c a=true->Got nm W X a e
 |.var i,c,X,a,hc,h=>by
  replace h:=jr h;obtain⟨n,h1,h⟩:=h;obtain⟨p,rfl⟩:=K8 h1;simp only[aq] at h;exact xg (a7w (slot_of hc h.1) (a1q hc h.2.1) (ue h.2.2).1 (ue h.2.2).2.1) rfl
 |.cst d,c,X,a,hc,h=>by
  obtain⟨h1,h2⟩:=a2b hc h;exact xg h1 h2
 |.bin op x y,c,X,a,hc,h=>by
  replace h:=jr h;obtain⟨⟨l,o,r⟩,h1,h⟩:=h;obtain⟨p,rfl⟩:=avo h1;simp only[aq,di] at h;exact xg (a70 (a9c h.1) (jn x hc h.2.1).v (jn y hc h.2.2).v) rfl
 |.neg x,c,X,a,hc,h=>by
  replace h:=jr h;obtain⟨⟨o,l⟩,h1,h⟩:=h;obtain⟨p,rfl⟩:=ap3 h1;simp only[aq,di] at h;obtain⟨rfl,h⟩:=h;exact xg (a8g (jn x hc h).v) rfl
 |.cmp op x y,c,X,a,hc,h=>by
  replace h:=jr h;obtain⟨⟨l,o,r⟩,h1,h⟩:=h;obtain⟨p,rfl⟩:=abt h1;replace h:=jr h;obtain⟨o1,h2,h⟩:=h;replace h:=jr h;obtain⟨r1,h3,h⟩:=h;cases Bo h2;cases Bo h3;simp only[aq,di] at h;have g:=ap8 (nm:=nm) hc.r8 h.1;have m:=U4 h.2.1 o1;exact⟨a77 g (jn x hc h.2.2.1).v (jn y hc h.2.2.2).v m,λ_=>a78 g (jn x hc h.2.2.1).v (jn y hc h.2.2.2).v m,λ_ _ _ z=>by cases z⟩
 |.chain o1 o2 x y z,c,X,a,hc,h=>by
  replace h:=jr h;obtain⟨⟨l,o,r⟩,h1,h⟩:=h;obtain⟨p,rfl⟩:=abt h1;dsimp only at h;split at h
  . rename_i p1 p2 r s
    simp only[aq,di] at h;have g1:=ap8 (nm:=nm) hc.r8 h.1.1;have g2:=ap8 (nm:=nm) hc.r8 h.1.2;have m:lastMarks [p1,p2] [r,s]=false:=U4 h.2.1 p2;exact⟨auo g1 g2 (jn x hc h.2.2.1).v (jn y hc h.2.2.2.1).v (jn z hc h.2.2.2.2).v m,λ_=>aup g1 g2 (jn x hc h.2.2.1).v (jn y hc h.2.2.2.1).v (jn z hc h.2.2.2.2).v m,λ_ _ _ z=>by cases z⟩
  . cases h
 |.and x y,c,X,a,hc,h=>by
  rcases ai3 h with⟨l,r,p,rfl,h1,h2,h3,h4⟩|⟨l,r,s,rest,p,rfl,h1,h2,h3⟩
  . have g1:=jn x hc h2
    have g2:=jn y hc h4;have w:=axh (pos:=p) (rest:=[]) (g1.q h1) (atl (g2.q h3));exact⟨axg g1.v (axo g2.v),λ_=>w.pt,λ_ _ _ _=>w⟩
  . have g1:=jn x hc h2
    have g2:=jn y hc h3;have w:=axh (g1.q h1) (g2.w _ _ _ rfl);exact⟨axg g1.v g2.v,λ_=>w.pt,λ_ _ _ _=>w⟩
 |.or x y,c,X,a,hc,h=>by
  rcases ai3 h with⟨l,r,p,rfl,h1,h2,h3,h4⟩|⟨l,r,s,rest,p,rfl,h1,h2,h3⟩
  . have g1:=jn x hc h2
    have g2:=jn y hc h4;have w:=a8b (pos:=p) (rest:=[]) (g1.q h1) (azj (g2.q h3));exact⟨a79 g1.v (axo g2.v),λ_=>w.pt,λ_ _ _ _=>w⟩
  . have g1:=jn x hc h2
    have g2:=jn y hc h3;have w:=a8b (g1.q h1) (g2.w _ _ _ rfl);exact⟨a79 g1.v g2.v,λ_=>w.pt,λ_ _ _ _=>w⟩
 |.not x,c,X,a,hc,h=>by
  replace h:=jr h;obtain⟨⟨o,l⟩,h1,h⟩:=h;obtain⟨p,rfl⟩:=ap3 h1;simp only[aq,di] at h;obtain⟨rfl,h⟩:=h;have g:=jn x hc h.2;exact⟨a8a g.v,λ_=>a8c (g.q h.1),λ_ _ _ z=>by cases z⟩
 |.ite t x y,c,X,a,hc,h=>by
  replace h:=jr h;obtain⟨⟨t',l,r⟩,h1,h⟩:=h;obtain⟨p,rfl⟩:=avp h1;simp only[aq] at h;exact⟨a8d ((jn t hc h.2.1).q h.1) (jn x hc h.2.2.1).v (jn y hc h.2.2.2).v,(λz=>by cases z),λ_ _ _ z=>by cases z⟩
 |.tup es,c,X,a,hc,h=>by
  replace h:=jr h;obtain⟨l,h1,h⟩:=h;obtain⟨k0,p,rfl⟩:=Sw h1;simp only[aq,di] at h;exact xg (a8e (Eu es hc h.2).1 h.1) rfl
 |.lst es,c,X,a,hc,h=>by
  replace h:=jr h;obtain⟨l,h1,h⟩:=h;obtain⟨p,rfl⟩:=aiy h1;simp only[aq,di] at h;exact xg (a8f (Eu es hc h.2).1 h.1) rfl
 |.Hu es,c,X,a,hc,h=>by
  replace h:=jr h;obtain⟨l,h1,h⟩:=h;obtain⟨p,rfl⟩:=aiy h1;simp only[aq,di] at h;exact xg (a0s (Eu es hc h.2).1 h.1) rfl
 |.ajs,c,X,a,hc,h=>by
  replace h:=jr h;obtain⟨⟨q,l⟩,h1,h⟩:=h;obtain⟨p,rfl⟩:=aiz h1;simp only[aq,q9] at h;obtain⟨rfl,rfl⟩:=h;exact xg a06 rfl
 |.aak,c,X,a,hc,h=>by
  replace h:=jr h;obtain⟨⟨q,l⟩,h1,h⟩:=h;obtain⟨p,rfl⟩:=aiz h1;simp only[aq,q9] at h;obtain⟨rfl,rfl⟩:=h;exact xg a07 rfl
 |.ix x y,c,X,a,hc,h=>by
  replace h:=jr h;obtain⟨⟨l,r⟩,h1,h⟩:=h;obtain⟨p,rfl⟩:=abu h1;simp only[aq] at h;exact xg (bel (adt hc.room) (jn x hc h.2.1).v (jn y hc h.2.2).v (ao6 h.1)) rfl
 |.cut x lo hi,c,X,a,hc,h=>by
  replace h:=jr h;obtain⟨⟨l,r⟩,h1,h⟩:=h;obtain⟨p,rfl⟩:=abu h1;replace h:=jr h;obtain⟨⟨u,v,st⟩,h2,h⟩:=h;obtain⟨p2,e⟩:=a1v h2;have e:r=_:=e;subst e;simp only[aq,Option.isNone_iff_eq_none] at h;obtain⟨rfl,h⟩:=h;exact xg (a80 (jn x hc h.1).v (ai4 lo hc h.2.1) (ai4 hi hc h.2.2)) rfl
 |.call f es,c,X,a,hc,h=>by
  replace h:=jr h;obtain⟨⟨n,ls⟩,h1,h⟩:=h;obtain⟨p,p',rfl⟩:=Je h1;simp only[aq] at h;obtain⟨⟨h2,h3,h4⟩,h5⟩:=h;obtain⟨l,ls,rfl⟩:=abx h4;obtain⟨fa,fd,ps,F,m,kp,b⟩:=hc.tab.fn _ _ _ (j6 h2);obtain⟨g1,g2⟩:=Hj hc h3;obtain⟨e1,e2⟩:=Eu es hc h5;simp only[zx,aq] at e2;exact xg (s_call F (hc.room.mono x_) g1 m kp b rfl e1 (ue g2).1 (kj e2.1 _ _) (wk e2.2)) rfl
 |.make f es,c,X,a,hc,h=>by
  replace h:=jr h;obtain⟨⟨n,ls⟩,h1,h⟩:=h;obtain⟨p,p',rfl⟩:=Je h1;simp only[aq] at h;obtain⟨⟨h2,h3,h4⟩,h5⟩:=h;obtain⟨l,ls,rfl⟩:=abx h4;obtain⟨C,fa,fd,ps,cl,M0,F,m,b,d1,d2⟩:=hc.tab.cl _ _ _ (j6 h2);obtain⟨g1,g2⟩:=Hj hc h3;obtain⟨e1,e2⟩:=Eu es hc h5;simp only[zx,aq] at e2;exact xg (a03 M0 F (hc.room.mono (w_ (by decide))) g1 m b d1 rfl d2 rfl e1 (ue g2).1 (kj e2.1 _ _) (wk e2.2)) rfl
 |.meth o m es,c,X,a,hc,h=>by
  replace h:=jr h;obtain⟨⟨lo,n,ap,ls,p⟩,h0,h⟩:=h;cases ap5 h0;simp only[aq,di] at h;obtain⟨⟨⟨h1,h2⟩,h3,h4⟩,h5,h6⟩:=h;obtain⟨C,fa,fd,ps,f,C0,Me,F,b,u,nf⟩:=hc.tab.mt _ _ _ (j6 h1);obtain⟨e1,e2⟩:=Eu es hc h6;have g:=jn o hc h5;cases ls with
  |nil =>
   have z:=ak3 h6;subst z;exact xg (avf (ci:=0) (cl:=⟨0,[]⟩) g.v C0 Me F (hc.room.mono x_) b u nf (aix h2 rfl h3 h4)) rfl
  |cons l ls =>
   have e3:=e2;simp only[zx,aq] at e3;exact xg (a04 (ci:=0) (cl:=⟨0,[]⟩) g.v C0 Me F (hc.room.mono x_) b u nf rfl e1 (kj e3.1 _ _) (wk e3.2) (aix h2 e2 h3 h4)) rfl
 |.fld o f,c,X,a,hc,h=>by
  replace h:=jr h;obtain⟨⟨l,n,p⟩,h1,h⟩:=h;cases abv h1;simp only[aq] at h;obtain⟨t1,t2⟩:=hc.tab.fl _ _ (j6 h.1.1);exact xg (a8h t1 t2 (jn o hc h.2).v (Jz h.1.2)) rfl
 |.blt b es,c,X,a,hc,h=>by
  have gen:(Dc (dCN a) λq=>(decide (a1x b=some q.1)&&(Vy c q.1&&!q.2.isEmpty))&&J6 T es c q.2)=true->Got nm W X a (.blt b es):=λhh=>by clear h;replace hh:=jr hh;obtain⟨⟨n,ls⟩,h1,h⟩:=hh;obtain⟨p,p',rfl⟩:=Je h1;simp only[aq] at h;obtain⟨⟨h2,h3,h4⟩,h5⟩:=h;obtain⟨l,ls,rfl⟩:=abx h4;obtain⟨e1,e2⟩:=Eu es hc h5;exact xg (a2c hc (j6 h2) h3 e1 e2) rfl
  match b,es,h,gen with
  |.isBool,.cons x .nil,h,_ =>
   obtain⟨l,p,p1,p2,rfl,h3,h4,h5,h6⟩:=avs h;obtain⟨g1,g2⟩:=Hj hc h3;obtain⟨g3,g4⟩:=Hj hc h4;exact xg (apo g1 (hc.mg (by decide+kernel)) (by decide+kernel) (ue g2).2.2 (ue g2).1 g3 (hc.mg (by decide+kernel)) (by decide+kernel) (ue g4).2.2 (ue g4).1 (jn x hc h6).v (kj h5 _ _) (kj rfl _ _) (wk rfl)) rfl
  |.isBool,.nil,h,gen=>exact gen h|.isBool,.cons _ (.cons _ _),h,gen=>exact gen h|.len,_,h,gen=>exact gen h|.tuple,_,h,gen=>exact gen h|.list,_,h,gen=>exact gen h|.max,_,h,gen=>exact gen h|.min,_,h,gen=>exact gen h|.dict,_,h,gen=>exact gen h|.all,_,h,gen=>exact gen h|.Gi,.nil,h,gen=>exact gen h|.Gi,.cons _ (.cons _ _),h,gen=>exact gen h
  |.Gi,.cons x .nil,h,_ =>
   obtain⟨l,p,p1,p2,p3,rfl,h5,h6,h7,h8⟩:=abw (show ap7 c "sorted" "set" a (yz T x c)=true from h);obtain⟨g1,g2⟩:=Hj hc h5;obtain⟨g3,g4⟩:=Hj hc h6;exact xg (akz hc.r8 g1 (hc.mg (by decide+kernel)) (by decide+kernel) (ue g2).2.2 (ue g2).1 g3 (hc.mg (by decide+kernel)) (by decide+kernel) (ue g4).2.2 (ue g4).1
    (Jb (jn x hc h8).v Sg (kj h7 _ _)) (kj rfl _ _) (wk rfl) (kj h7 _ _) (wk rfl)) rfl
 |.bm m o es,c,X,a,hc,h=>by
  replace h:=jr h;obtain⟨⟨lo,n,ap,ls,p⟩,h0,h⟩:=h;cases ap5 h0;simp only[aq,di] at h;obtain⟨⟨⟨h1,h2⟩,h3,h4,h4'⟩,h5,h6⟩:=h;obtain⟨l,ls,rfl⟩:=abx h4';obtain⟨e1,e2⟩:=Eu es hc h6;have e3:=e2;simp only[zx,aq] at e3;have few:((backTo p (starEach (l::ls) X.env)).all (λx=>!x.1)&&(backToKw p (keywordEach [] X.env)).all (λx=>x.1.isSome)&&decide ((l::ls).length+([]:List Keyword).length+(if([]:List Keyword).isEmpty then 0 else 1)<30))=true:=by rw[Xn e2];simp[keywordEach,backToKw];simp at h3;exact b_ h3 (by decide)
  have g:=jn o hc h5;cases m with
  |append=>cases h1;exact xg (a1c (T := "list") (id := "list.append") (fun ι H M x v S r t=>ty_list (.inl rfl) S r t) PySem.F.plainAttrs_list PySem.F.slot_list_append PySem.F.type_list_append api g.v e1 (Jz h2) few h4 (kj e3.1 _ _) (wk e3.2)) rfl
  |index=>cases h1;exact xg (a1c (T := "list") (id := "list.index") (fun ι H M x v S r t=>ty_list (.inr rfl) S r t) PySem.F.plainAttrs_list PySem.F.slot_list_index PySem.F.type_list_index (au0 hc.r8) g.v e1 (Jz h2) few h4 (kj e3.1 _ _) (wk e3.2)) rfl
  |get=>cases h1;exact xg (a1c (T := "dict") (id := "dict.get") (fun ι H M x v S r t=>ty_dict S r t) PySem.F.plainAttrs_dict PySem.F.slot_dict_get PySem.F.type_dict_get (a87 (adt hc.room)) g.v e1 (Jz h2) few h4 (kj e3.1 _ _) (wk e3.2)) rfl
 |.comp v j t it e,c,X,a,hc,h=>by
  replace h:=jr h;obtain⟨⟨elt,gs,sc⟩,h1,h⟩:=h;obtain⟨p,rfl⟩:=Xo h1;replace h:=jr h;obtain⟨⟨tg,iter,ifs,as⟩,h2,h⟩:=h;cases Bo h2;simp only[aq,q9] at h;obtain⟨⟨h3,rfl⟩,h4,h5⟩:=h;obtain⟨q1,q2,B,hB,hg,q3,q4⟩:=Sy hc h3;cases q2;exact xg (a02 B hc.calm (S8 it hc h4) hg (λC fp s H=>(jn e (hB C fp s H) h5).v) q1 q3 q4) rfl
 |.Dj v j t it i e,c,X,a,hc,h=>by
  replace h:=jr h;obtain⟨⟨elt,gs,sc⟩,h1,h⟩:=h;obtain⟨p,rfl⟩:=Xo h1;replace h:=jr h;obtain⟨⟨tg,iter,ifs,as⟩,h2,h⟩:=h;cases Bo h2;replace h:=jr h;obtain⟨d,h6,h⟩:=h;cases Bo h6;simp only[aq] at h;obtain⟨⟨h3,h7⟩,h4,h8,h5⟩:=h;obtain⟨q1,q2,B,hB,hg,q3,q4⟩:=Sy hc h3;cases q2;exact xg (apb B hc.calm (S8 it hc h4) hg (λC fp s H=>(jn i (hB C fp s H) h8).q h7) (λC fp s H=>(jn e (hB C fp s H) h5).v) q1 q3 q4) rfl
 |.Wd x y,c,X,a,hc,h=>by
  replace h:=jr h;obtain⟨⟨l0,o,r0⟩,h1,h⟩:=h;obtain⟨p,rfl⟩:=abt h1;replace h:=jr h;obtain⟨o1,h2,h⟩:=h;replace h:=jr h;obtain⟨r1,h3,h⟩:=h;cases Bo h2;cases Bo h3;replace h:=jr h;obtain⟨⟨n,ls⟩,h4,h⟩:=h;replace h:=jr h;obtain⟨⟨m,ms⟩,h5,h⟩:=h;replace h:=jr h;obtain⟨l,h6,h⟩:=h;replace h:=jr h;obtain⟨r,h7,h⟩:=h;cases Bo h6;cases Bo h7;obtain⟨p1,q1,e1⟩:=Je h4;obtain⟨p2,q2,e2⟩:=Je h5;have e1:l0=_:=e1;subst e1 e2;simp only[aq,di] at h;obtain⟨⟨⟨rfl,rfl⟩,rfl,h8⟩,⟨h9,h10⟩,h11,h12⟩:=h;obtain⟨g1,g2⟩:=Hj hc h8;have z:=auv (nm:=nm) (W:=W) (p1:=p1) (p2:=p2) (q1:=q1) (q2:=q2) hc.r8 g1 (hc.mg (by decide+kernel)) (by decide+kernel) (ue g2).2.2 (ue g2).1 (Jb (jn x hc h11).v Sg (kj h9 _ _)) (Jb (jn y hc h12).v Sg (kj h10 _ _)) (kj h9 _ _) (kj h10 _ _) (wk rfl) (wk rfl);exact⟨azg z,λ_=>aun (azh z) λ_ _ _ q=>q,λ_ _ _ z=>by cases z⟩
 |.afv x,c,X,a,hc,h=>by
  obtain⟨l,p,p1,p2,p3,rfl,h5,h6,h7,h8⟩:=abw h;obtain⟨g1,g2⟩:=Hj hc h5;obtain⟨g3,g4⟩:=Hj hc h6;exact xg (a1j hc.r8 g1 (hc.mg (by decide+kernel)) (by decide+kernel) (ue g2).2.2 (ue g2).1 g3 (hc.mg (by decide+kernel)) (by decide+kernel) (ue g4).2.2 (ue g4).1
   (Jb (jn x hc h8).v Sg (kj h7 _ _)) (kj rfl _ _) (wk rfl) (kj h7 _ _) (wk rfl)) rfl
 |.afw x,c,X,a,hc,h=>by
  obtain⟨l,p,p1,p2,p3,rfl,h5,h6,h7,h8⟩:=abw h;obtain⟨g1,g2⟩:=Hj hc h5;obtain⟨g3,g4⟩:=Hj hc h6;exact xg (a1o hc.r8 g1 (hc.mg (by decide+kernel)) (by decide+kernel) (ue g2).2.2 (ue g2).1 g3 (hc.mg (by decide+kernel)) (by decide+kernel) (ue g4).2.2 (ue g4).1
   (Jb (jn x hc h8).v Sg (kj h7 _ _)) (kj rfl _ _) (wk rfl) (kj h7 _ _) (wk rfl)) rfl
theorem Eu:∀(es:Dl){c:Ctx}{X:Cx}{a:Ya},Ey T nm W k c X->J6 T es c a=true->PA X a (Yc nm W X.K es)/\zx a=true
 |.nil,c,X,a,hc,h=>by
  cases q9.mp h;exact⟨Sg,rfl⟩
 |.cons e es,c,X,a,hc,h=>by
  cases a with
  |nil=>cases h
  |cons l ls =>
   replace h:(noStar l&&(yz T e c l&&J6 T es c ls))=true:=h;simp only[aq] at h;obtain⟨g1,g2⟩:=Eu es hc h.2.2;exact⟨Jb (jn e hc h.2.1).v g1 (kj h.1 _ _),by simp only[zx,aq];exact⟨h.1,g2⟩⟩
theorem ai4:∀(e:OEx){c:Ctx}{X:Cx}{a:Option Expr},Ey T nm W k c X->a1z T e c a=true->PO X a (tO nm W X.K e)
 |.none,c,X,a,hc,h=>by
  cases Option.isNone_iff_eq_none.mp h;exact au4
 |.some e,c,X,a,hc,h=>by
  replace h:=jr h;obtain⟨l,rfl,h⟩:=h;exact au5 (jn e hc h).v
theorem S8:∀(it:P0){c:Ctx}{X:Cx}{tg a:Expr},Ey T nm W k c X->avt T it c tg a=true->PI X tg a (tI nm W X.K it)
 |.val e,c,X,tg,a,hc,h=>a8o (jn e hc h).v
 |.Kh e,c,X,tg,a,hc,h=>by
  replace h:=jr h;obtain⟨⟨n,ls⟩,h1,h⟩:=h;obtain⟨p,p',rfl⟩:=Je h1;replace h:=jr h;obtain⟨l,h2,h⟩:=h;cases Bo h2;simp only[aq,di] at h;obtain⟨⟨rfl,h3⟩,h4,h5⟩:=h;exact a8p (Hj hc h3).1 (hc.mg (by decide+kernel)) (jn e hc h5).v h4
 |.enm e,c,X,tg,a,hc,h=>by
  replace h:=jr h;obtain⟨⟨n,ls⟩,h1,h⟩:=h;obtain⟨p,p',rfl⟩:=Je h1;replace h:=jr h;obtain⟨l,h2,h⟩:=h;cases Bo h2;simp only[aq,di] at h;obtain⟨⟨h6,rfl,h3⟩,h4,h5⟩:=h;obtain⟨ts,h7⟩:=ph.mp h6;obtain⟨k0,pt,rfl⟩:=Sw h7;exact a85 (Hj hc h3).1 (hc.mg (by decide+kernel)) (jn e hc h5).v h4
 |.acj x y z,c,X,tg,a,hc,h=>by
  obtain⟨⟨n,ls⟩,h1,h0⟩:=jr (show(Dc (dCN a) λq=>match q.2 with
   | [l,r,s]=>((aen tg).isSome&&(decide (q.1 = "zip")&&Vy c q.1))&&((noStar l&&(noStar r&&noStar s))&&(yz T x c l&&(yz T y c r&&yz T z c s)))|_=>false)=true from h)
  obtain⟨p,p',rfl⟩:=Je h1
  match ls,h1,h0 with
  |[l,r,s],h1,h =>
   replace h:(((aen tg).isSome&&(decide (n = "zip")&&Vy c n))&&((noStar l&&(noStar r&&noStar s))&&(yz T x c l&&(yz T y c r&&yz T z c s))))=true:=h;simp only[aq,di] at h;obtain⟨⟨h6,rfl,h3⟩,⟨h4,h5,h10⟩,h7,h8,h11⟩:=h;obtain⟨ts,h9⟩:=ph.mp h6;obtain⟨k0,pt,rfl⟩:=Sw h9;exact a1n (Hj hc h3).1 (hc.mg (by decide+kernel)) (jn x hc h7).v h4 (jn y hc h8).v h5 (jn z hc h11).v h10 (wk (by simp[zx,h5,h10]))
  |[],_,h=>cases h|[_],_,h=>cases h|[_,_],_,h=>cases h|_::_::_::_::_,_,h=>cases h
end
end
noncomputable def a9f(e:Ex):Option {b:Bool // (∃v j t it x,e=.comp v j t it x)\/∃v j t it i x,e=.Dj v j t it i x}:=match e with|.comp ..=>some ⟨true,.inl ⟨_,_,_,_,_,rfl⟩⟩|.Dj ..=>some ⟨true,.inr ⟨_,_,_,_,_,_,rfl⟩⟩|_=>none
noncomputable def a2d(T:Tab)(c:Ctx)(l:Lv)(e:Ex)(tg v:Expr):Bool :=
 match l with
 |.tg t=>(tgB c 0 t tg&&((Ua v&&((U7 tg).isSome||axi v))||(match t with|.name _=>(aeo v).isSome&&(a9f e).isSome|_=>false)))&&yz T e c v
 |.sub o i=>Dc (ap0 tg) λq=>abk q.2&&(yz T e c v&&(yz T o c q.1&&yz T i c q.2))
 |.fld o f=>Dc (ap2 tg) λq=>(Ua v&&flB T.Q4 f q.2.1)&&(yz T e c v&&yz T o c q.1)
noncomputable def a9g(a:Stmt):Option (List Expr×Expr):=Option.map Subtype.val (α:={q:List Expr×Expr // ∃p,a=.Assign q.1 q.2 p}) (match a with|.Assign t v p=>some ⟨(t,v),p,rfl⟩|_=>none)
noncomputable def a9h(a:Stmt):Option Expr:=Option.map Subtype.val (α:={q:Expr // ∃p,a=.Expr q p}) (match a with|.Expr v p=>some ⟨v,p,rfl⟩|_=>none)
noncomputable def a9i(a:Stmt):Option (Expr×List Stmt×List Stmt):=Option.map Subtype.val (α:={q:Expr×List Stmt×List Stmt // ∃p,a=.If q.1 q.2.1 q.2.2 p}) (match a with|.If t l r p=>some ⟨(t,l,r),p,rfl⟩|_=>none)
noncomputable def a9j(a:Stmt):Option (Expr×List Stmt×List Stmt):=Option.map Subtype.val (α:={q:Expr×List Stmt×List Stmt // ∃p,a=.While q.1 q.2.1 q.2.2 p}) (match a with|.While t l r p=>some ⟨(t,l,r),p,rfl⟩|_=>none)
noncomputable def a9k(a:Stmt):Option (Expr×Expr×List Stmt×List Stmt):=Option.map Subtype.val (α:={q:Expr×Expr×List Stmt×List Stmt // ∃p,a=.For q.1 q.2.1 q.2.2.1 q.2.2.2 p}) (match a with|.For t i l r p=>some ⟨(t,i,l,r),p,rfl⟩|_=>none)
noncomputable def a9l(a:Stmt):Option (Option Expr):=Option.map Subtype.val (α:={q:Option Expr // ∃p,a=.Return q p}) (match a with|.Return v p=>some ⟨v,p,rfl⟩|_=>none)
noncomputable def avu(a:Stmt):Option Nat:=Option.map Subtype.val (α:={n:Nat // (n=0/\∃p,a=.Break p)\/(n=1/\∃p,a=.Continue p)\/(n=2/\∃p,a=.Pass p)}) (match a with|.Break p=>some ⟨0,.inl ⟨rfl,p,rfl⟩⟩|.Continue p=>some ⟨1,.inr (.inl ⟨rfl,p,rfl⟩)⟩|.Pass p=>some ⟨2,.inr (.inr ⟨rfl,p,rfl⟩)⟩|_=>none)
def avv(h:a9g a=some (t,v)):∃p,a=.Assign t v p:=(Ye h :)
def avw(h:a9h a=some v):∃p,a=.Expr v p:=(Ye h :)
def avx(h:a9i a=some (t,l,r)):∃p,a=.If t l r p:=(Ye h :)
def avy(h:a9j a=some (t,l,r)):∃p,a=.While t l r p:=(Ye h :)
def avz(h:a9k a=some (t,i,l,r)):∃p,a=.For t i l r p:=(Ye h :)
def av0(h:a9l a=some v):∃p,a=.Return v p:=(Ye h :)
def aby(h:avu a=some n):(n=0/\∃p,a=.Break p)\/(n=1/\∃p,a=.Continue p)\/(n=2/\∃p,a=.Pass p):=(Ye h :)
mutual
noncomputable def a2e(T:Tab):Br->Ctx->Stmt->Bool
 |.asg l e,c,a=>Dc (a9g a) λq=>Dc (Q5 q.1) λt=>a2d T c l e t q.2
 |.expr e,c,a=>Dc (a9h a) λv=>Ua v&&yz T e c v
 |.iff t x y,c,a=>Dc (a9i a) λq=>Sx q.1&&(yz T t c q.1&&(U9 T x c q.2.1&&U9 T y c q.2.2))
 |.whl t x,c,a=>Dc (a9j a) λq=>(Sx q.1&&q.2.2.isEmpty)&&(yz T t c q.1&&U9 T x c q.2.1)
 |.for_ t it x,c,a=>Dc (a9k a) λq=>(tgB c 0 t q.1&&(Hg q.2.1&&q.2.2.2.isEmpty))&&(avt T it c q.1 q.2.1&&U9 T x c q.2.2.1)
 |.ret e,c,a=>Dc (a9l a) λv=>Dc v (yz T e c)
 |.asi,_,_=>false|.brk,_,a=>decide (avu a=some 0)|.cont,_,a=>decide (avu a=some 1)|.pass,_,a=>decide (avu a=some 2)|.raise _ _,_,_=>true
noncomputable def U9(T:Tab):m8->Ctx->List Stmt->Bool
 |.nil,_,a=>a.isEmpty|.cons s r,c,a=>match a with|st::rest=>a2e T s c st&&U9 T r c rest|_=>false
end
noncomputable def swB(c:Ctx)(t:Str)(pt vp:Pos)(sc:Scope):Bool:=(c.sc.lookup t==some NameKind.local&&pt.line==vp.line)&&!(sc.names.any λy=>y.1==t&&(y.2==.local||y.2==.cell))
def ag2(hc:Ey T nm W k c X):swapsWith (.ListComp elt gs sc vp) (some (.Name t pt)) l X.env=pure (swB c t pt vp sc):=by
 have b:X.env.blockKind=.function:=by unfold Env.blockKind;rw[hc.kd];rfl
 show(pure (X.env.blockKind==.function&&X.env.kindOf t==some .local&&pt.line==vp.line&&!(sc.names.any λ(n,k)=>n==t&&(k==.local||k==.cell))):Sem Bool)=_;rw[b];unfold Env.kindOf;rw[hc.sc];simp[swB]
def aqb(hc:Ey T nm W k c X)(ht:tgB c 0 (.name i) tg=true)(hv:(aeo v).isSome=true)(hw:(a9f e).isSome=true)(h:yz T e c v=true):PS X (.Assign [tg] v p) (tS nm W X.K (.asg (.tg (.name i)) e)):=by
 have nd:X.N.Nodup:=by rw[hc.N];exact hc.nd
 obtain⟨⟨elt,gs,sc⟩,hq⟩:=ph.mp hv;obtain⟨y,py,rfl,hy,_⟩:=ag0 (nm:=nm) (W:=W) (k:=k) (T:=T) hc ht;obtain⟨⟨_,co⟩,_⟩:=ph.mp hw;obtain⟨vp,rfl⟩:=Xo hq;have sw:=λl=>ag2 (T:=T) (nm:=nm) (W:=W) (k:=k) hc (elt:=elt) (gs:=gs) (sc:=sc) (vp:=vp) (pt:=py) (t:=y) (l:=l)
 cases hs:swB c y py vp sc with
 |false =>
  rw[hs] at sw;exact ao7 (jn e hc h).v (ai2 hc ht).1 (sw p.line) rfl rfl
 |true =>
  rw[hs] at sw;simp only[swB,aq] at hs;have hl:X.env.scope.names.lookup y=some .local:=by rw[hc.sc];have:=hs.1.1;simpa using this
  rcases co with⟨v,j,t,it,x,rfl⟩|⟨v,j,t,it,i',x,rfl⟩
  . replace h:=jr h
    obtain⟨⟨bfa,gs',sc'⟩,h1,h⟩:=h;cases h1;replace h:=jr h;obtain⟨⟨tg,iter,ifs,as⟩,h2,h⟩:=h;cases Bo h2;simp only[aq,q9] at h;obtain⟨⟨h3,rfl⟩,h4,h5⟩:=h;obtain⟨q1,q2,B,hB,hg,q3,q4⟩:=Sy hc h3;cases q2;exact aku B hc.calm (S8 it hc h4) hg (λC fp s H=>(jn x (hB C fp s H) h5).v) q1 q3 q4 nd hy hl (sw p.line)
  . replace h:=jr h
    obtain⟨⟨bfa,gs',sc'⟩,h1,h⟩:=h;cases h1;replace h:=jr h;obtain⟨⟨tg,iter,ifs,as⟩,h2,h⟩:=h;cases Bo h2;replace h:=jr h;obtain⟨d,h6,h⟩:=h;cases Bo h6;simp only[aq] at h;obtain⟨⟨h3,h7⟩,h4,h8,h5⟩:=h;obtain⟨q1,q2,B,hB,hg,q3,q4⟩:=Sy hc h3;cases q2;exact ad7 B hc.calm (S8 it hc h4) hg (λC fp s H=>(jn i' (hB C fp s H) h8).q h7) (λC fp s H=>(jn x (hB C fp s H) h5).v) q1 q3 q4 nd hy hl (sw p.line)
section
variable{T:Tab}{nm:Nm}{W:Jl}{k:Nat}
def av1(hc:Ey T nm W k c X)(h:a2d T c l e tg v=true):PS X (.Assign [tg] v p) (tS nm W X.K (.asg l e)):=by
 cases l with
 |tg t =>
  simp only[a2d,aq,Bool.or_eq_true] at h;obtain⟨⟨h1,h2⟩,h3⟩:=h;rcases h2 with⟨h4,h5⟩|h4
  . have g:=ai2 (nm:=nm) hc h1
    have sh:(∃n q,tg=.Name n q)\/∃ts k0 q,tg=.Tuple ts k0 q:=by
     cases t with
     |name i =>
      obtain⟨n,z1,_⟩:=jr h1;exact .inl ⟨n,K8 z1⟩
     |names is =>
      obtain⟨ts,z1,_⟩:=jr h1;exact .inr ⟨ts,Sw z1⟩
    rcases sh with⟨n,q,rfl⟩|⟨ts,k0,q,rfl⟩
    . exact ao7 (jn e hc h3).v g.1 (Xc h4 _ _ _) rfl rfl
    . have w:axi v=true:=by
       rcases h5 with h5|h5
       . cases h5
       . exact h5
      have w2:swappedStores [.Tuple ts k0 q] v X.env=pure none:=by cases v<;>first|rfl|(cases w;done)
      exact ao7 (jn e hc h3).v g.1 (Xc h4 _ _ _) w2 rfl
  . cases t with
    |name i=>rw[aq] at h4;exact aqb hc h1 h4.1 h4.2 h3|names _=>cases h4
 |sub o i =>
  replace h:=jr (show Dc (ap0 tg) _=true from h);obtain⟨⟨lo,li⟩,h0,h⟩:=h;obtain⟨p',rfl⟩:=abu h0;simp only[aq] at h;obtain⟨h2,h3,h4,h5⟩:=h;refine apd (adt hc.room) (jn e hc h3).v (jn o hc h4).v (jn i hc h5).v λv=>?_
  cases li<;>first|rfl|(cases h2;done)
 |fld o f =>
  replace h:=jr (show Dc (ap2 tg) _=true from h);obtain⟨⟨lo,n,p'⟩,h0,h⟩:=h;cases abv h0;simp only[aq] at h;obtain⟨⟨h1,h2⟩,h3,h4⟩:=h;obtain⟨t1,t2⟩:=hc.tab.fl _ _ (j6 h2);exact ape t1 t2 (jn e hc h3).v (jn o hc h4).v h1
mutual
theorem av2:∀(s:Br){c:Ctx}{X:Cx}{a:Stmt},Ey T nm W k c X->c.fn=true->a2e T s c a=true->PS X a (tS nm W X.K s)
 |.asg l e,c,X,a,hc,hf,h=>by
  replace h:=jr h;obtain⟨⟨ts,v⟩,h1,h⟩:=h;obtain⟨p,rfl⟩:=avv h1;replace h:=jr h;obtain⟨t,h2,h⟩:=h;cases Bo h2;exact av1 hc h
 |.expr e,c,X,a,hc,hf,h=>by
  replace h:=jr h;obtain⟨v,h1,h⟩:=h;obtain⟨p,rfl⟩:=avw h1;simp only[aq] at h;exact a0v (jn e hc h.2).v (O4 h.1 _ _ _)
 |.iff t x y,c,X,a,hc,hf,h=>by
  replace h:=jr h;obtain⟨⟨q,l,r⟩,h1,h⟩:=h;obtain⟨p,rfl⟩:=avx h1;simp only[aq] at h;exact a8k ((jn t hc h.2.1).q h.1) (K9 x hc hf h.2.2.1) (K9 y hc hf h.2.2.2)
 |.whl t x,c,X,a,hc,hf,h=>by
  replace h:=jr h;obtain⟨⟨q,l,r⟩,h1,h⟩:=h;obtain⟨p,rfl⟩:=avy h1;simp only[aq,q9] at h;obtain⟨⟨h2,rfl⟩,h3,h4⟩:=h;exact a8l (hc.fnl hf).2 ((jn t hc h3).q h2) (K9 x hc hf h4)
 |.for_ t it x,c,X,a,hc,hf,h=>by
  replace h:=jr h;obtain⟨⟨tg,iter,l,r⟩,h1,h⟩:=h;obtain⟨p,rfl⟩:=avz h1;simp only[aq,q9] at h;obtain⟨⟨h2,h3,rfl⟩,h4,h5⟩:=h;exact a8n (hc.fnl hf).2 hc.calm (S8 it hc h4) (ai2 hc h2).1 (K9 x hc hf h5) h3
 |.ret e,c,X,a,hc,hf,h=>by
  replace h:=jr h;obtain⟨v,h1,h⟩:=h;obtain⟨p,rfl⟩:=av0 h1;replace h:=jr h;obtain⟨w,rfl,h⟩:=h;exact a8i (jn e hc h).v
 |.asi,c,X,a,hc,hf,h=>by cases h
 |.brk,c,X,a,hc,hf,h=>by
  rcases aby (j6 h) with⟨_,p,rfl⟩|⟨z,_⟩|⟨z,_⟩
  . exact a8j
  . cases z
  . cases z
 |.cont,c,X,a,hc,hf,h=>by
  rcases aby (j6 h) with⟨z,_⟩|⟨_,p,rfl⟩|⟨z,_⟩
  . cases z
  . exact a0x
  . cases z
 |.pass,c,X,a,hc,hf,h=>by
  rcases aby (j6 h) with⟨z,_⟩|⟨z,_⟩|⟨_,p,rfl⟩
  . cases z
  . cases z
  . exact a0w
 |.raise _ _,c,X,a,hc,hf,h=>avh
theorem K9:∀(s:m8){c:Ctx}{X:Cx}{a:List Stmt},Ey T nm W k c X->c.fn=true->U9 T s c a=true->Rx X a (tSs nm W X.K s)
 |.nil,c,X,a,hc,hf,h=>by
  cases q9.mp h;exact a0y
 |.cons s r,c,X,a,hc,hf,h=>by
  cases a with
  |nil=>cases h
  |cons st rest =>
   replace h:(a2e T s c st&&U9 T r c rest)=true:=h;simp only[aq] at h;exact aur (av2 s hc hf h.1) (K9 r hc hf h.2)
end
end
structure Def where
 x:Str
 qual:Str
 N:List Str
 ps:List Str
noncomputable def scB(N ps:Yf)(sc:Scope):Bool :=
 (decide (sc.kind=.function)&&(!sc.isCoroutine&&!sc.isGenerator))&&((decide N.Nodup&&decide (N.take ps.length=ps)) &&
 (ps.all (λx=>sc.names.lookup x==some .local||sc.names.lookup x==some .cell)&&sc.names.all (λy=>!(y.2==NameKind.free))))
def a2f(h:scB N ps sc=true):Vt N ps sc:=by simp only[scB,aq,di,Bool.not_eq_true',gq] at h;obtain⟨⟨h1,h2,h3⟩,⟨h4,h5⟩,h6,h7⟩:=h;exact⟨h1,h2,h3,h4,h5,λx m=>by have:=h6 x m;simpa using this,λy m=>by have:=h7 y m;simpa using this⟩
noncomputable def ak4(T:Tab)(d:Def)(F:MW.Fn)(st:Stmt):Bool :=
 (scB d.N d.ps (Bh st)&&(decide (F.np=d.ps.length)&&decide (F.ns=d.N.length)))&&U9 T F.body ⟨d.N,(Bh st).names,true,[]⟩ (Gr st)
set_option tactic.hygienic true in
def av3{F:MW.Fn}(h:F.run W ds M=.ok d M'):ds.length=F.np/\∃fl ρ',F.body.den W (ds.map some++List.replicate (F.ns-F.np) none) M=.ok (fl,ρ') M'/\(fl=.ret d\/(fl=.next/\d=.non)):=by
 unfold MW.Fn.run at h;split at h
 . rename_i hl
   obtain⟨⟨fl,ρ'⟩,M1,e1,e⟩:=fc h;refine⟨hl,fl,ρ',?_⟩;cases fl with
   |ret z=>cases e;exact⟨e1,.inl rfl⟩|next=>cases e;exact⟨e1,.inr ⟨rfl,rfl⟩⟩|brk=>cases e|cont=>cases e
 . cases h
def a2g{IR:MW.Prog}(U:Fun K d.x d.qual st f fd)(hF:IR.fns[i]?=some F)(h:ak4 T d F st=true)(hT:apy T nm ⟨IR.call n,IR.cls⟩ k P w K mg base):Gf P w K mg base CX0 (k+17) f fd d.ps (spF nm ⟨IR.call (n+1),IR.cls⟩ K F.np i):=by
 simp only[ak4,aq,di] at h;obtain⟨⟨h1,h2,h3⟩,h4⟩:=h;have S:=a2f h1;have go:∀ds M d' M',MW.Jl.call ⟨IR.call (n+1),IR.cls⟩ i ds M=.ok d' M'->F.run ⟨IR.call n,IR.cls⟩ ds M=.ok d' M':=λds M d' M' e=>by have e:IR.call (n+1) i ds M=.ok d' M':=e;unfold MW.Prog.call at e;rw[hF] at e;exact e
 refine U.ok (k:=k+16) S (λvs H Q E ⟨ι,M,ds,d',M',_,r,l,e,_⟩=>by rw[<- r.length,l,h2]) (λcdv A outer s H vs Q E hr ⟨ι,M,ds,d',M',SM,r,l,e,q⟩=>?_);have hc:Ey T nm ⟨IR.call n,IR.cls⟩ k ⟨d.N,(Bh st).names,true,[]⟩ (agk CX0 P w K mg base d.N d.qual (Bh st) f cdv A outer s H E).nox :=
  ⟨rfl,S.nd,rfl,S.kind,rfl,hr,λ_=>⟨λ_=>rfl,PassesOwn.never⟩,hT,λn h=>by cases h⟩
 refine⟨_,K9 F.body hc rfl h4,?_⟩;obtain⟨hl,fl,ρ',e1,e2⟩:=av3 (go _ _ _ _ e);refine⟨ι,_,M,fl,ρ',M',SM,?_,e1,fun ι' H' σ' le S' R'=>?_⟩
 . unfold L2.start
   exact(uv.ao2 r).append (uv.ao1 _ (by rw[vg,h3,<- r.length,l]))
 . rcases e2 with rfl|⟨rfl,rfl⟩
   . exact λv rv=>q ι' H' v le S' rv
   . exact q ι' H' _ le S' .non
theorem ai5{nm:Nm}{P:Program}{w:World}{K:Fg}{mg:Zs}{base:Heap}{IR:MW.Prog}{T:Tab}{D:Nat->Def}{st:Nat->Stmt}{fa:Nat->Addr}{fd:Nat->FuncData}
 (U:∀i,i<IR.fns.length->Fun K (D i).x (D i).qual (st i) (fa i) (fd i)) (h:∀i F,IR.fns[i]?=some F->ak4 T (D i) F (st i)=true)
 (mk:∀n,(∀i F,IR.fns[i]?=some F->Gf P w K mg base CX0 (17*n) (fa i) (fd i) (D i).ps (spF nm ⟨IR.call n,IR.cls⟩ K F.np i))->apy T nm ⟨IR.call n,IR.cls⟩ (17*n) P w K mg base) :
 ∀n i F,IR.fns[i]?=some F->Gf P w K mg base CX0 (17*n) (fa i) (fd i) (D i).ps (spF nm ⟨IR.call n,IR.cls⟩ K F.np i)
 |0,i,F,hF=>⟨(λvs H Q E ⟨ι,M,ds,d',M',_,r,l,e,_⟩=>by cases e),λA outer s H args us vs Q E hr he hb hv ⟨ι,M,ds,d',M',_,r,l,e,_⟩=>by cases e⟩
 |n+1,i,F,hF=>a2g (U i (ak.mp hF).1) hF (h i F hF) (mk n (ai5 U h mk n))
noncomputable def a2h(s:Str):Bool:=s.cps[0]?==some 0
noncomputable def aqc(Q4:Yf):Bool:=decide Q4.Nodup&&Q4.all λs=>!a2h s
noncomputable def aer(Q4:Yf)(i:Nat):Str:=match Q4[i]? with|some s=>s|none=>⟨#[0,0,i]⟩
def aqd(h:aqc Q4=true)(i j:Nat)(e:aer Q4 i=aer Q4 j):i=j:=by
 simp only[aqc,aq,di,gq] at h;have own:∀k,a2h ⟨#[0,0,k]⟩=true:=λk=>rfl
 unfold aer at e;cases hi:Q4[i]? with
 |some a =>
  rw[hi] at e;cases hj:Q4[j]? with
  |some b =>
   rw[hj] at e;have e:a=b:=e;subst e;obtain⟨l1,e1⟩:=ak.mp hi;obtain⟨l2,e2⟩:=ak.mp hj;exact(Aq h.1).mp (e1.trans e2.symm)
  |none =>
   rw[hj] at e;have e:a=⟨#[0,0,j]⟩:=e;have:=h.2 a (au hi);rw[e,own] at this;cases this
 |none =>
  rw[hi] at e;cases hj:Q4[j]? with
  |some b =>
   rw[hj] at e;have e:(⟨#[0,0,i]⟩:Str)=b:=e;have:=h.2 b (au hj);rw[<- e,own] at this;cases this
  |none =>
   rw[hj] at e;have e:(⟨#[0,0,i]⟩:Str)=⟨#[0,0,j]⟩:=e;simpa using e
noncomputable def a2i(cas:List (Option Addr))(Q4:Yf)(h:aqc Q4=true):Nm:=⟨λc=>(cas[c]?).join,aer Q4,aqd h⟩
noncomputable def aqe(Q4:Yf)(x:Str):Bool:=!(Q4.contains x)&&!a2h x
def aqf(h:aqe Q4 x=true)(i:Nat):aer Q4 i≠x:=λe=>by
 simp only[aqe,aq,Bool.not_eq_true'] at h;unfold aer at e;cases hi:Q4[i]? with
 |some a =>
  rw[hi] at e;have e:a=x:=e;rw[<- e] at h;have:=List.contains_iff_mem.mpr (au hi);rw[this] at h;cases h.1
 |none =>
  rw[hi] at e;have e:(⟨#[0,0,i]⟩:Str)=x:=e;rw[<- e] at h;cases h.2
section
variable(K:Fg)(mg:Zs)
noncomputable def abz:List Def->List Stmt->List Addr->List FuncData->Prop
 |d::ds,s::ss,a::as,f::fs=>(Fun K d.x d.qual s a f/\Binds K f d.ps [])/\abz ds ss as fs|[],[],[],[]=>True|_,_,_,_=>False
noncomputable def Ue:List (Option (Str×Nat))->List Addr->Prop
 |some p::r,a::as=>mg p.1=some (.ref a)/\Ue r as|none::r,_::as=>Ue r as|_,_=>True
noncomputable def aes(C:Addr)(mts:List (Str×Nat))(Nk:X9):List (Nat×Nat)->Prop
 |q::r=>(∃p a,mts[q.1]?=some p/\Nk[q.2]?=some a/\Meth K C p.1 a)/\aes C mts Nk r|[]=>True
noncomputable def ab0(C:Addr):List Str->Prop
 |x::r=>Hc K C x/\ab0 C r|[]=>True
structure ClF(T:Tab)(Nk:X9)(x:Str)(C:Addr)(cl:MW.Cl):Prop where
 mg:mg x=some (.ref C)
 cs:Cls K C
 ini:∃f,Nk[cl.init]?=some f/\Mk K C f
 me:aes K C T.mts Nk cl.meths
 na:ab0 K C T.Q4
noncomputable def O7(T:Tab)(Nk:X9):List (Option (Str×Nat))->List (Option Addr)->List MW.Cl->Prop
 |some p::r,some C::cs,cl::cls=>ClF K mg T Nk p.1 C cl/\O7 T Nk r cs cls|none::r,none::cs,_::cls=>O7 T Nk r cs cls|[],[],[]=>True|_,_,_=>False
noncomputable def ab1:List (Str×Int)->Prop
 |p::r=>(∃t,mg p.1=some (.int p.2 t))/\ab1 r|[]=>True
noncomputable def AllB:List Str->Prop
 |x::r=>mg x=none/\AllB r|[]=>True
end
theorem abz.get{K:Fg}:∀{ds:List Def}{ss:List Stmt}{as:X9}{fs:List FuncData}{i:Nat}{d:Def},abz K ds ss as fs->ds[i]?=some d->∃s a f,ss[i]?=some s/\as[i]?=some a/\fs[i]?=some f/\Fun K d.x d.qual s a f/\Binds K f d.ps []
 |d::ds,s::ss,a::as,f::fs,0,d',h,e=>by cases e;exact⟨s,a,f,rfl,rfl,rfl,h.1⟩
 |d::ds,s::ss,a::as,f::fs,i+1,d',h,e=>by
  obtain⟨s',a',f',h1,h2,h3,h4⟩:=abz.get (i:=i) h.2 (by simpa using e);exact⟨s',a',f',by simpa using h1,by simpa using h2,by simpa using h3,h4⟩
theorem Ue.get{mg:Zs}:∀{l:List (Option (Str×Nat))}{as:X9}{i:Nat}{p:Str×Nat}{a:Addr},Ue mg l as->l[i]?=some (some p)->as[i]?=some a->mg p.1=some (.ref a)
 |some q::l,b::as,0,p,a,h,e,e2=>by cases e;cases e2;exact h.1|none::l,b::as,0,p,a,h,e,e2=>by cases e|some q::l,b::as,i+1,p,a,h,e,e2=>Ue.get (i:=i) h.2 (by simpa using e) (by simpa using e2)|none::l,b::as,i+1,p,a,h,e,e2=>Ue.get (i:=i) (l:=l) (as:=as) h (by simpa using e) (by simpa using e2)
theorem aes.get{K:Fg}{C:Addr}{mts:List (Str×Nat)}{Nk:X9}:∀{l:List (Nat×Nat)}{q:Nat×Nat},aes K C mts Nk l->q∈l->∃p a,mts[q.1]?=some p/\Nk[q.2]?=some a/\Meth K C p.1 a
 |q'::l,q,h,m=>by
  rcases bw.mp m with z|z
  . rw[z];exact h.1
  . exact aes.get h.2 z
theorem ab0.get{K:Fg}{C:Addr}:∀{l:Yf}{x:Str},ab0 K C l->x∈l->Hc K C x
 |y::l,x,h,m=>by
  rcases bw.mp m with z|z
  . rw[z];exact h.1
  . exact ab0.get h.2 z
theorem O7.get{K:Fg}{mg:Zs}{T:Tab}{Nk:X9}:∀{l:List (Option (Str×Nat))}{cs:List (Option Addr)}{cls:List MW.Cl}{c:Nat}{p:Str×Nat},O7 K mg T Nk l cs cls->l[c]?=some (some p)->∃C cl,cs[c]?=some (some C)/\cls[c]?=some cl/\ClF K mg T Nk p.1 C cl
 |some q::l,some C::cs,cl::cls,0,p,h,e=>by cases e;exact⟨C,cl,rfl,rfl,h.1⟩
 |some q::l,some C::cs,cl::cls,c+1,p,h,e=>by
  obtain⟨C',cl',h1,h2,h3⟩:=O7.get (c:=c) h.2 (by simpa using e);exact⟨C',cl',by simpa using h1,by simpa using h2,h3⟩
 |none::l,none::cs,cl::cls,0,p,h,e=>by cases e
 |none::l,none::cs,cl::cls,c+1,p,h,e=>by
  obtain⟨C',cl',h1,h2,h3⟩:=O7.get (l:=l) (cs:=cs) (cls:=cls) (c:=c) h (by simpa using e);exact⟨C',cl',by simpa using h1,by simpa using h2,h3⟩
theorem O7.at{K:Fg}{mg:Zs}{T:Tab}{Nk:X9}:∀{l:List (Option (Str×Nat))}{cs:List (Option Addr)}{cls:List MW.Cl}{c:Nat}{C:Addr},O7 K mg T Nk l cs cls->cs[c]?=some (some C)->Cls K C/\ab0 K C T.Q4
 |some q::l,some C::cs,cl::cls,0,p,h,e=>by cases e;exact⟨h.1.cs,h.1.na⟩|some q::l,some C::cs,cl::cls,c+1,p,h,e=>O7.at (c:=c) h.2 (by simpa using e)|none::l,none::cs,cl::cls,0,p,h,e=>by cases e|[],[],_,_,_,_,e=>by simp at e|[],_::_,[],_,_,h,_=>h.elim|[],_::_,_::_,_,_,h,_=>h.elim|none::l,none::cs,cl::cls,c+1,p,h,e=>O7.at (l:=l) (cs:=cs) (cls:=cls) (c:=c) h (by simpa using e)
theorem ab1.get{mg:Zs}:∀{l:List (Str×Int)}{x:Str}{i:Int},ab1 mg l->(x,i)∈l->∃t,mg x=some (.int i t)
 |q::l,x,i,h,m=>by
  rcases bw.mp m with z|z
  . rw[<- z] at h;exact h.1
  . exact ab1.get h.2 z
theorem AllB.get{mg:Zs}:∀{l:Yf}{x:Str},AllB mg l->x∈l->mg x=none
 |q::l,x,h,m=>by
  rcases bw.mp m with z|z
  . rw[z];exact h.1
  . exact AllB.get h.2 z
noncomputable def av4(T:Tab):List MW.Fn->List Def->List Stmt->Bool
 |F::Fs,d::ds,s::ss=>ak4 T d F s&&av4 T Fs ds ss|[],[],[]=>true|_,_,_=>false
noncomputable def npB(fns:List MW.Fn)(f n:Nat):Bool:=match fns[f]? with|some F=>F.np==n|none=>false
noncomputable def tfB(fns:List MW.Fn)(l:List (Option (Str×Nat))):Bool:=l.zipIdx.all λq=>match q.1 with|some p=>npB fns q.2 p.2|none=>true
noncomputable def tcB(IR:MW.Prog)(l:List (Option (Str×Nat))):Bool:=l.zipIdx.all λq=>match q.1 with|some p=>(match IR.cls[q.2]? with|some cl=>npB IR.fns cl.init (p.2+1)|none=>false)|none=>true
noncomputable def bfd(cls:List MW.Cl)(m c f:Nat):Bool:=cls.zipIdx.all λq=>match q.1.meths.lookup m with|none=>true|some g=>q.2==c&&g==f
noncomputable def tmB(IR:MW.Prog)(T:Tab)(mcs:List (Nat×Nat)):Bool:=T.mts.zipIdx.all λq=>match mcs[q.2]? with
 |some cf=>(bfd IR.cls q.2 cf.1 cf.2&&(npB IR.fns cf.2 (q.1.2+1)&&aqe T.Q4 q.1.1))&&((match T.cls[cf.1]? with|some (some _)=>true|_=>false)&&(match IR.cls[cf.1]? with|some cl=>cl.meths.lookup q.2==some cf.2|none=>false))
 |none=>false
def Mp{α:Type}{l:List α}{g:α×Nat->Bool}(h:l.zipIdx.all g=true){x:α}(e:l[i]?=some x):g (x,i)=true:=by rw[gq] at h;exact h (x,i) (by rw[vh];exact⟨i,by rw[Ag,e];simp⟩)
set_option tactic.hygienic true in
def ag3(h:npB fns f n=true):∃F,fns[f]?=some F/\F.np=n:=by
 unfold npB at h;split at h
 . rename_i F e;exact⟨F,e,eq_of_beq h⟩
 . cases h
theorem Xp{T:Tab}:∀{Fs:List MW.Fn}{ds:List Def}{ss:List Stmt}{i:Nat}{F:MW.Fn},av4 T Fs ds ss=true->Fs[i]?=some F->∃d s,ds[i]?=some d/\ss[i]?=some s/\ak4 T d F s=true
 |F::Fs,d::ds,s::ss,0,F',h,e=>by
  replace h:=Bool.and_eq_true_iff.mp h;cases e;exact⟨d,s,rfl,rfl,h.1⟩
 |F::Fs,d::ds,s::ss,i+1,F',h,e=>by
  replace h:=Bool.and_eq_true_iff.mp h;obtain⟨d',s',h1,h2,h3⟩:=Xp (i:=i) h.2 (by simpa using e);exact⟨d',s',by simpa using h1,by simpa using h2,h3⟩
 |[],_,_,_,_,_,e=>by simp at e|_::_,[],_,_,_,h,_=>by cases h|_::_,_::_,[],_,_,h,_=>by cases h
set_option tactic.hygienic true in
def a2j(hfl:aqc T.Q4=true)(hP:av4 T IR.fns Ds ss=true)(h1:tfB IR.fns T.fns=true)(h2:tcB IR T.cls=true)(h3:tmB IR T mcs=true)(aF:abz K Ds ss Nk fds)(aG:Ue mg T.fns Nk)(aC:O7 K mg T Nk T.cls cas IR.cls)(aV:ab1 mg T.avm)(aB:AllB mg O6)(hF:IR.fns[i]?=some F) :
 ∃d a f,Ds[i]?=some d/\Nk[i]?=some a/\fds[i]?=some f/\Binds K f d.ps []/\Gf P w K mg base CX0 (17*n) a f d.ps (spF (a2i cas T.Q4 hfl) ⟨IR.call n,IR.cls⟩ K F.np i):=by
 let dd:Def:=⟨Str.empty,Str.empty,[],[]⟩
 let sd:Stmt:=.Pass ⟨0,0,0,0⟩
 obtain⟨d,s,g1,g2,g3⟩:=Xp hP hF;have all:∀(i:Nat)(F:MW.Fn),IR.fns[i]?=some F->∃d s a f,Ds[i]?=some d/\ss[i]?=some s/\Nk[i]?=some a/\fds[i]?=some f/\Fun K d.x d.qual s a f/\Binds K f d.ps []/\ak4 T d F s=true:=λi F e=>by
  refine hG λ_ _k=>?_
  obtain⟨d,s,g1,g2,g3⟩:=Xp hP e;obtain⟨s',a,f,k1,k2,k3,k4,k5⟩:=aF.get g1;rw[g2] at k1;cases k1;apply _k;exact⟨d,s,a,f,g1,g2,k2,k3,k4,k5,g3⟩
 have df:∀{j:Nat}{a:Addr}{f:FuncData}{d:Def},Nk[j]?=some a->fds[j]?=some f->Ds[j]?=some d->(Nk[j]?).getD 0=a/\Ds[j]?.getD dd=d:=λe1 e2 e3=>⟨by rw[e1];rfl,by rw[e3];rfl⟩
 obtain⟨fd0,blm⟩:∃fd0:FuncData,True:=by obtain⟨s',a,f,_⟩:=aF.get g1;exact⟨f,trivial⟩
 have main:=ai5 (nm:=a2i cas T.Q4 hfl) (P:=P) (w:=w) (K:=K) (mg:=mg) (base:=base) (IR:=IR) (T:=T) (D:=λi=>Ds[i]?.getD dd) (st:=λi=>ss[i]?.getD sd) (fa:=λi=>(Nk[i]?).getD 0) (fd:=λi=>(fds[i]?).getD fd0)
  (λi hi=>by
   refine hG λ_ _k=>?_
   obtain⟨d,s,a,f,k1,k2,k3,k4,k5,k6,k7⟩:=all i IR.fns[i] (by simp[hi]);apply _k;rw[k1,k2,k3,k4];exact k5)
  (λi F e=>by
   refine hG λ_ _k=>?_
   obtain⟨d,s,a,f,k1,k2,k3,k4,k5,k6,k7⟩:=all i F e;apply _k;rw[k1,k2];exact k7)
  (λn G=>?_) n i F hF
 . refine hG λ_ _k=>?_
   obtain⟨d',s',a,f,k1,k2,k3,k4,k5,k6,k7⟩:=all i F hF;apply _k;refine⟨d',a,f,k1,k3,k4,k6,?_⟩;have:=main;rw[k1,k3,k4] at this;exact this
 ·
  have at_:∀{j:Nat}{F:MW.Fn}{a:Addr},IR.fns[j]?=some F->Nk[j]?=some a->∃(f:FuncData)(d:Def),Binds K f d.ps []/\Gf P w K mg base CX0 (17*n) a f d.ps (spF (a2i cas T.Q4 hfl) ⟨IR.call n,IR.cls⟩ K F.np j)/\PySem.W.keepIn K (.ref a)=true:=fun{j F a} e1 e2=>by
   refine hG λ_ _k=>?_
   obtain⟨d,s,a',f,k1,k2,k3,k4,k5,k6,k7⟩:=all j F e1;rw[e2] at k3;cases k3;have g:=G j F e1;rw[k1,e2,k4] at g;apply _k;exact⟨f,d,k6,g,k5.kp⟩
  have addr:∀{j:Nat}{F:MW.Fn},IR.fns[j]?=some F->∃a,Nk[j]?=some a:=fun{j F} e=>by
   refine hG λ_ _k=>?_
   obtain⟨d,s,a',f,k1,k2,k3,_⟩:=all j F e;apply _k;exact⟨a',k3⟩
  refine⟨λf x m e=>?_,λc x m e=>?_,λm x j e=>?_,λf x e=>?_,λx i m=>aV.get m,λx m=>aB.get m⟩
  . refine hG λ_ _k=>?_
    obtain⟨F,e1,e2⟩:=ag3 (Mp h1 e);obtain⟨a,e3⟩:=addr e1;obtain⟨fd,d,b,g,kp⟩:=at_ e1 e3;rw[e2] at g;apply _k;exact⟨a,fd,d.ps,g,aG.get e e3,kp,b⟩
  . refine hG λ_ _k=>?_
    obtain⟨C,cl,q1,q2,q3⟩:=aC.get e;have z:=Mp h2 e;simp only[q2] at z;obtain⟨F,e1,e2⟩:=ag3 z;obtain⟨f,f1,f2⟩:=q3.ini;obtain⟨fd,d,b,g,kp⟩:=at_ e1 f1;rw[e2] at g;apply _k;exact⟨C,f,fd,d.ps,cl,f2,g,q3.mg,b,q2,by show(cas[c]?).join=some C;rw[q1];rfl⟩
  . have z:=Mp h3 e
    simp only at z;split at z
    . rename_i cf hcf
      simp only[aq] at z;refine hG λ_ _k=>?_
      obtain⟨⟨z1,z2,z3⟩,z4,z5⟩:=z;obtain⟨F,e1,e2⟩:=ag3 z2;apply _k;split at z4
      . rename_i p hp
        refine hG λ_ _k=>?_
        obtain⟨C,cl,q1,q2,q3⟩:=aC.get hp;rw[q2] at z5;simp only at z5;have mem:(m,cf.2)∈cl.meths:=mem_of_lookup (eq_of_beq z5);obtain⟨p',a,r1,r2,r3⟩:=q3.me.get mem;rw[e] at r1;cases r1;obtain⟨fd,d,b,g,kp⟩:=at_ e1 r2;rw[e2] at g;apply _k;refine⟨C,a,fd,d.ps,cf.2,q3.cs,r3,g,b,λc' cl' hc' g' hg'=>?_,aqf z3⟩;have y:=Mp z1 hc';simp only[hg',aq] at y;have y1:c'=cf.1:=eq_of_beq y.1;exact⟨by show(cas[c']?).join=some C;rw[y1,q1];rfl,eq_of_beq y.2⟩
      . cases z4
    . cases z
  . refine⟨by show x=aer T.Q4 f;unfold aer;rw[e],λc C hC=>?_⟩
    have hC:(cas[c]?).join=some C:=hC;have hC2:cas[c]?=some (some C):=by
     cases q:cas[c]? with
     |none=>rw[q] at hC;cases hC
     |some o=>rw[q] at hC;cases o with
      |none=>cases hC|some C'=>cases hC;rfl
    obtain⟨y1,y2⟩:=aC.at hC2;exact⟨y1,y2.get (au e)⟩
def fN:abz K [] [] [] []:=trivial
def gN:Ue mg [] as:=trivial
def gS(h:mg p.1=some (.ref a))(t:Ue mg r as):Ue mg (some p::r) (a::as):=⟨h,t⟩
def gO(t:Ue mg r as):Ue mg (none::r) (a::as):=t
def mN:aes K C mts Nk []:=trivial
def mC(h1:mts[q.1]?=some p)(h2:Nk[q.2]?=some a)(m:Meth K C p.1 a)(t:aes K C mts Nk r):aes K C mts Nk (q::r):=⟨⟨p,a,h1,h2,m⟩,t⟩
def nN:ab0 K C []:=trivial
def nC(h:Hc K C x)(t:ab0 K C r):ab0 K C (x::r):=⟨h,t⟩
def cN:O7 K mg T Nk [] [] []:=trivial
def cO(t:O7 K mg T Nk r cs cls):O7 K mg T Nk (none::r) (none::cs) (cl::cls):=t
def cS(h:ClF K mg T Nk p.1 C cl)(t:O7 K mg T Nk r cs cls):O7 K mg T Nk (some p::r) (some C::cs) (cl::cls):=⟨h,t⟩
def vN:ab1 mg []:=trivial
def vC(h:mg p.1=some (.int p.2 t))(q:ab1 mg r):ab1 mg (p::r):=⟨⟨t,h⟩,q⟩
def bN:AllB mg []:=trivial
def bC(h:mg x=none)(q:AllB mg r):AllB mg (x::r):=⟨h,q⟩
noncomputable abbrev Lk(K:Fg)(f:Addr)(x q:Str)(st:Stmt)(oc:Value)(od:Option Addr)(kV dc pm:Value)(an:Option Addr)(cd ct:Value)(sl:Array (Option Value)):Prop :=
 K.lookup f=some ⟨oc,od,.func (PySem.W.fnOf x q (J0 st) (Gr st) (Bh st) .none kV dc pm an cd ct),sl⟩/\PySem.W.codeIn K cd q=true/\PySem.W.keepIn K (.ref f)=true
def bff{α:Type}{us:List α}(h:us.length=1):∃a,us=[a]:=match us,h with|[a],_=>⟨a,rfl⟩
def bfg{α:Type}{us:List α}(h:us.length=2):∃a b,us=[a,b]:=match us,h with|[a,b],_=>⟨a,b,rfl⟩
def bfh{α:Type}{us:List α}(h:us.length=3):∃a b c,us=[a,b,c]:=match us,h with|[a,b,c],_=>⟨a,b,c,rfl⟩
def bfi{α:Type}{us:List α}(h:us.length=4):∃a b c d,us=[a,b,c,d]:=match us,h with|[a,b,c,d],_=>⟨a,b,c,d,rfl⟩
def bfj{α:Type}{us:List α}(h:us.length=5):∃a b c d e,us=[a,b,c,d,e]:=match us,h with|[a,b,c,d,e],_=>⟨a,b,c,d,e,rfl⟩
def bfk{α:Type}{us:List α}(h:us.length=6):∃a b c d e f,us=[a,b,c,d,e,f]:=match us,h with|[a,b,c,d,e,f],_=>⟨a,b,c,d,e,f,rfl⟩
def bfl{α:Type}{us:List α}(h:us.length=7):∃a b c d e f g,us=[a,b,c,d,e,f,g]:=match us,h with|[a,b,c,d,e,f,g],_=>⟨a,b,c,d,e,f,g,rfl⟩
def fE{kV:Value}(l:Lk K a d.x d.qual s oc od kV dc pm an cd ct sl)(r:abz K ds ss as fs)
 (b:∀(kV doc pm:Value)(an:Option Addr)(cdv ct:Value)(us:Zl),us.length=d.ps.length->bindArgs (PySem.W.fnOf d.x d.qual (J0 s) (Gr s) (Bh s) .none kV doc pm an cdv ct) ⟨us,[]⟩=pure (d.ps.zip us):=by intro _ _ _ _ _ _ us hl;first|(obtain⟨_,rfl⟩:=Ck.bff hl;rfl)|(obtain⟨_,_,rfl⟩:=Ck.bfg hl;rfl)|(obtain⟨_,_,_,rfl⟩:=Ck.bfh hl;rfl)|(obtain⟨_,_,_,_,rfl⟩:=Ck.bfi hl;rfl)|(obtain⟨_,_,_,_,_,rfl⟩:=Ck.bfj hl;rfl)|(obtain⟨_,_,_,_,_,_,rfl⟩:=Ck.bfk hl;rfl)|(obtain⟨_,_,_,_,_,_,_,rfl⟩:=Ck.bfl hl;rfl)) :
 abz K (d::ds) (s::ss) (a::as) (PySem.W.fnOf d.x d.qual (J0 s) (Gr s) (Bh s) .none kV dc pm an cd ct::fs):=⟨⟨aox l.1 l.2.1 l.2.2,(aox l.1 l.2.1 l.2.2).binds b⟩,r⟩
noncomputable def ai6(K:Fg):Sp:=λvs H Q _=>∃(a:Addr)(ns:Xs),vs=[.ref a]/\Only H/\Hm K H a (ns.map V.int)/\ns.length<=63/\∀H',Q (.bl true) H'
def av5(o:Only H)(h:Hm K H a vs):ags K H a vs:=by
 rcases h with(h|h)|h
 . rcases o a with z|⟨ob,xs,z⟩<;>rw[z] at h<;>cases h
 . exact .inl h
 . exact .inr h
def av6(run:∀(ns:Xs),ns.length<=63->∃M',W.call i [.fz (ns.map MW.D.int)] []=.ok (.bl true) M')(h:ai6 K vs H Q E):spF nm W K 1 i vs H Q E:=by obtain⟨a,ns,rfl,o,hS,hl,k⟩:=h;obtain⟨M',e⟩:=run ns hl;refine⟨⟨[],[]⟩,[],_,_,M',⟨rfl,xf,by simp,λn o a h=>by simp at h⟩,.cons (.fz (av5 o hS) (lg.ints ns)) .nil,rfl,e,fun ι' H' v le S' r=>?_⟩;cases r;exact k H'
def walk{l:PySem.W.OpenLaw}{K:Params->Fg}(hn:l.most=some 63)(hdf:d.params.defaults=[])(hY:∀(w:World) (h:Heap),YP w h->(K w.params).In h)(F:∀(w:World) (mg:Zs) (fa:Addr) (h:Heap),(K w.params).In h->h.Ns mainGlobals mg->mg d.name=some (.ref fa) ->
 ∃fd:FuncData,(∀(s:Shared) (u:Value),BindsTo s fd ⟨[u],[]⟩ [("script",u)])/\∀base:Heap,(K w.params).In base->base.Ns mainGlobals mg->Gf l.prog w (K w.params) mg base CX0 170 fa fd ["script"] (ai6 (K w.params))) :
 PySem.W.WalkO q loose XP YP l.row.toRowW d [] (λf vs=>PySem.call f vs) :=
 L2.aui (n:=63) (k:=170) (x := "script") (CX:=λ_=>CX0) (sp:=λw=>ai6 (K w.params)) hn (by decide) hdf ⟨rfl,by decide,by decide⟩ hY F (λ_ _ a ns hl ho hS=>⟨a,ns,rfl,ho,hS,hl,λ_=>rfl⟩) λ_ _ _ _ _ z=>z
end Ck
namespace K11
open PySem L2
noncomputable def top(i:Nat):Stmt:=PySem.Challenge.pw_mapwright_k11_maps_looked_at.main.body.getD i (.Pass ⟨0,0,0,0⟩)
noncomputable def sts:List Stmt:=[inClass (top 8) 0,inClass (top 8) 1,inClass (top 8) 2,inClass (top 8) 3,inClass (top 8) 4,inClass (top 8) 5,top 9,top 10,top 11,top 12,top 13,top 14,top 22,top 23,top 24,top 25,top 26,top 27,top 28,top 29,top 30,top 0,top 16,top 18,top 19,top 20,top 31,top 32,top 33,top 34,top 35,top 36,top 37,top 38,top 39,top 40,top 41,top 42]
noncomputable def Ds:List Ck.Def:=[⟨"__init__", "Pattern.__init__",["self", "kinds", "doings", "table"],["self", "kinds", "doings", "table"]⟩,⟨"kinds", "Pattern.kinds",["self"],["self"]⟩,⟨"doings", "Pattern.doings",["self"],["self"]⟩,⟨"behind", "Pattern.behind",["self", "one", "other"],["self", "one", "other"]⟩,⟨"ways", "Pattern.ways",["self", "kind"],["self", "kind"]⟩,⟨"end", "Pattern.end",["self", "kind", "way"],["self", "kind", "way"]⟩,⟨"both_ways", "both_ways",["table", "one", "other"],["table", "one", "other"]⟩,⟨"meeting_pairs", "meeting_pairs",["doings", "pairs", "one", "ends", "other", "more"],["doings"]⟩,⟨"is_way_between", "is_way_between",["doings", "way", "start", "goal"],["doings", "way", "start", "goal"]⟩,⟨"check_doings", "check_doings",["kinds", "doings", "ends"],["kinds", "doings"]⟩,⟨"check_table", "check_table",["doings", "table", "pairs", "one", "other"],["doings", "table"]⟩,⟨"check_threes", "check_threes",["doings", "table", "pairs", "one", "other", "last", "ahead", "after"],["doings", "table"]⟩,⟨"_law_cell_at", "_law_cell_at",["script", "k"],["script", "k"]⟩,⟨"_law_state", "_law_state",["script", "k", "cell"],["script", "k"]⟩,⟨"_law_take", "_law_take",["state", "many", "found", "mixed"],["state", "many"]⟩,⟨"_law_begun", "_law_begun",["state", "way", "graph", "loops", "swap", "known", "kinds", "sizes", "found", "k", "one", "other"],["state"]⟩,⟨"_law_closed", "_law_closed",["begun", "found", "one", "other", "row", "k", "j", "first", "second", "more"],["begun"]⟩,⟨"_law_pattern", "_law_pattern",["state", "begun", "closed", "kinds", "table", "j", "k", "more"],["state"]⟩,⟨"_law_ways", "_law_ways",["pat", "kind"],["pat", "kind"]⟩,⟨"_law_end", "_law_end",["pat", "kind", "way"],["pat", "kind", "way"]⟩,⟨"_law_behind", "_law_behind",["pat", "one", "other"],["pat", "one", "other"]⟩,⟨"_wall", "_wall",["k"],["k"]⟩,⟨"led", "led",["world", "thing", "way"],["world", "thing", "way"]⟩,⟨"is_map", "is_map",["pattern", "one", "other", "some"],["pattern", "one", "other", "some"]⟩,⟨"has_rows", "has_rows",["one", "other", "some", "row", "size", "goals"],["one", "other", "some"]⟩,⟨"first_lack", "first_lack",["pattern", "one", "other", "some", "doing", "ends", "here", "there", "thing", "goal"],["pattern", "one", "other", "some"]⟩,⟨"_law_merged", "_law_merged",["pat", "marks", "acts", "changed", "k", "one", "other", "first", "thing", "mark", "end", "low", "high"],["pat", "marks", "acts"]⟩,⟨"_law_world", "_law_world",["state", "pat", "most", "rows", "number", "kind", "some", "end", "way", "acts", "k", "one", "other", "marks", "low", "high", "heads", "told", "row"],["state", "pat", "most"]⟩,⟨"_law_led", "_law_led",["world", "thing", "way"],["world", "thing", "way"]⟩,⟨"_law_known", "_law_known",["pat", "one", "other", "known", "kind", "thing", "end", "more", "way", "far", "here", "there"],["pat", "one", "other", "known", "kind", "thing", "end"]⟩,⟨"_law_some_map", "_law_some_map",["state", "pat", "one", "other", "known", "kind", "thing", "more", "turn", "k"],["state", "pat", "one", "other"]⟩,⟨"_law_within", "_law_within",["row", "many", "most"],["row", "many", "most"]⟩,⟨"_law_is_map", "_law_is_map",["pat", "one", "other", "some", "kind"],["pat", "one", "other", "some"]⟩,⟨"_law_lacks", "_law_lacks",["pat", "one", "other", "some", "found", "k", "start", "end", "thing", "there"],["pat", "one", "other", "some"]⟩,⟨"_law_spoiled", "_law_spoiled",["state", "some", "other", "kind", "way", "row", "k", "most", "fresh"],["state", "some", "other"]⟩,⟨"_law_fits", "_law_fits",["pat", "one", "other", "some", "kind"],["pat", "one", "other", "some"]⟩,⟨"_law_looked", "_law_looked",["pat", "pattern", "one", "other", "some", "found"],["pat", "pattern", "one", "other", "some"]⟩,⟨"law", "law",["script", "k", "state", "pat", "pattern", "one", "other", "some", "j"],["script"]⟩]
noncomputable def tab:Ck.Tab:=⟨[none,none,none,none,none,none,(some ("both_ways",3):Y2),(some ("meeting_pairs",1):Y2),(some ("is_way_between",4):Y2),(some ("check_doings",2):Y2),(some ("check_table",2):Y2),(some ("check_threes",2):Y2),(some ("_law_cell_at",2):Y2),(some ("_law_state",2):Y2),(some ("_law_take",2):Y2),(some ("_law_begun",1):Y2),(some ("_law_closed",1):Y2),(some ("_law_pattern",1):Y2),(some ("_law_ways",2):Y2),(some ("_law_end",3):Y2),(some ("_law_behind",3):Y2),(some ("_wall",1):Y2),(some ("led",3):Y2),(some ("is_map",4):Y2),(some ("has_rows",3):Y2),(some ("first_lack",4):Y2),(some ("_law_merged",3):Y2),(some ("_law_world",3):Y2),(some ("_law_led",3):Y2),(some ("_law_known",7):Y2),(some ("_law_some_map",4):Y2),(some ("_law_within",3):Y2),(some ("_law_is_map",4):Y2),(some ("_law_lacks",4):Y2),(some ("_law_spoiled",3):Y2),(some ("_law_fits",4):Y2),(some ("_law_looked",5):Y2),(some ("law",1):Y2)],[none,none,some ("Pattern",3)],[("kinds",0),("doings",0),("behind",2),("ways",1),("end",2)],["together", "doing_ends", "kind_count"],[("STAYING",-1),("MOST_KINDS",3),("MOST_DOINGS",5)]⟩
noncomputable def mcs:List (Nat×Nat):=[(2,1),(2,2),(2,3),(2,4),(2,5)]
def chk:Ck.av4 tab prog.fns Ds sts=true:=by decide+kernel
def bfm:Ck.aqc tab.Q4=true:=by decide+kernel
def bfn:Ck.tfB prog.fns tab.fns=true:=by decide+kernel
def bfo:Ck.tcB prog tab.cls=true:=by decide+kernel
def bfp:Ck.tmB prog tab mcs=true:=by decide+kernel
open MW
noncomputable def Mq(hs:List F)(k i:Nat):Bool:=match hs[i]? with|some f=>decide (f.a=k)|none=>false
noncomputable def xj(hs:List F)(k:Nat):List D:=.int (-1)::((List.range hs.length).filter (Mq hs k)).map nD
def O8(h:d∈xj hs k):d=.int (-1)\/∃(i:Nat)(f:F),d=.int i/\hs[i]?=some f/\f.a=k:=by
 rcases bw.mp h with q|q
 . exact .inl q
 . obtain⟨i,hi,rfl⟩:=bu.mp q
   obtain⟨h1,h2⟩:=v7.mp hi;have hil:=il.mp h1;have e:hs[i]?=some hs[i]:=by simp[hil]
   rw[Mq,e] at h2;exact .inr ⟨i,hs[i],rfl,e,by simpa using h2⟩
def aet(h:d∈xj hs k):∃i:Int,d=.int i:=by rcases O8 h with rfl|⟨i,f,rfl,_⟩<;>exact⟨_,rfl⟩
def Xq(hl:hs.length<=5):(xj hs k).length<=6:=by have:=vf (Mq hs k) (List.range hs.length);simp at this;simp[xj];exact a_ this hl
noncomputable def qi(K r:Nat)(hs:List F):D:=.tup [.int K,Jh hs,.ref r]
def La(K r:Nat)(hs:List F)(M:cj):Am (qi K r hs) (.int 0) M=some (.int K):=rfl
def Ni(K r:Nat)(hs:List F)(M:cj):Am (qi K r hs) (.int 1) M=some (Jh hs):=rfl
def axr(K r:Nat)(hs:List F)(M:cj):Am (qi K r hs) (.int 2) M=some (.ref r):=rfl
def Made.keep(h:Made n r K hs iw M)(k:zc M M'):Made n r K hs iw M':=⟨k _ _ h.1,k _ _ h.2⟩
def Made.f2(h:Made n r K hs iw M):Rb (.ref n) 2 M=some (.int K):=by simp[Rb,h.1,List.lookup]
def Made.f1(h:Made n r K hs iw M):Rb (.ref n) 1 M=some (Jh hs):=by simp[Rb,h.1,List.lookup]
def Made.f0(h:Made n r K hs iw M):Rb (.ref n) 0 M=some (.ref r):=by simp[Rb,h.1,List.lookup]
def ak5(hm:1<=m)(h:Made n r K hs iw M):prog.call m 2 [.ref n] M=.ok (Jh hs) M:=by rw[call_of hm rfl];simp[Fn.run,Ky,Kw,h.f1]
def aeu(hm:1<=m)(hl:hs.length<=5){k:Nat}:prog.call m 18 [qi K r hs,.int k] M=.ok (.vl (xj hs k)) M:=by
 rw[call_of hm rfl];have hc:J8.den ⟨prog.call (m-1),prog.cls⟩ [some (qi K r hs),some (.int k)] M=.ok (.vl (((List.range hs.length).filter (Mq hs k)).map nD)) M:=by
  unfold J8;rw[Wj (n:=hs.length) (M1:=M) (q:=Mq hs k) (g:=nD) (by simp[Ni,Ot]) (a_ hl (by decide)) (λi hi=>by
   have e:hs[i]?=some hs[i]:=by simp[hi]
   refine⟨_,rfl,?_,λ_=>?_⟩
   . simp[-eq_int,Ni,Ru e,Wo,Bl,Mq,hi]
   . simp[nD])]
  simp
 have:=Zc (M:=M) [.int (-1)] (((List.range hs.length).filter (Mq hs k)).map nD) (by
  have:=vf (Mq hs k) (List.range hs.length);simp at this ⊢
  lia)
 simp[Fn.run,Uq,Uo,hc,this,xj]
def av7(hm:1<=m){k i:Nat}(hf:hs[i]?=some f):prog.call m 19 [qi K r hs,.int k,.int i] M=.ok (.int f.b) M:=by
 rw[call_of hm rfl];have ni:¬((i:Int)<0):=by lia
 simp[Fn.run,Qu,Qt,ni,Ni,Ru hf,Wq]
def ak6(hm:1<=m){k:Nat}:prog.call m 19 [qi K r hs,.int k,.int (-1)] M=.ok (.int k) M:=by rw[call_of hm rfl];simp[Fn.run,Qu,Qt]
def ag4(hm:1<=m)(hr:M[r']?=some (.dT iw))(hx:-1<=x)(hy:-1<=y)(hv:bothW hs iw x y=some v):prog.call m 20 [qi K r' hs,.int x,.int y] M=.ok v M:=by
 rw[call_of hm rfl];unfold bothW at hv
 by_cases ex:x=-1
 . rw[cg ex] at hv;cases hv
   subst ex;have:(-1:Int)+y+1=y:=by lia
   simp[Fn.run,Gn,Gm,this]
 . rw[bx ex] at hv
   have nx:¬x<0:=by lia
   by_cases ey:y=-1
   . rw[cg ey] at hv;cases hv
     subst ey;have:x+(-1:Int)+1=x:=by lia
     simp[Fn.run,Gn,Gm,nx,this]
   . rw[bx ey] at hv
     have ny:¬y<0:=by lia
     simp[Fn.run,Gn,Gm,nx,ny,axr,acq hr (Zd x y),hv]
def av8(ho:o.den W ρ M=.ok (.ref n) M)(he:es.den W ρ M=.ok ds M)(hn:M[n]?=some (.ins c fs))(hm:(W.cls[c]?).bind (λC=>C.meths.lookup mm)=some fi) :
 (Ex.meth o mm es).den W ρ M=W.call fi (.ref n::ds) M:=by
 rw[Ri,ho,Res.Bs,he,Res.Bs];simp only[hn,hm]
end K11
namespace MW
end MW
namespace K11
open MW
noncomputable def Dg(hs:List F)(k:Nat):D->Nat
 |.int i=>if i=-1 then k else match hs[i.toNat]? with|some f=>f.b|none=>0
 |_=>0
noncomputable def wT(hs:List F)(k g:Nat):List D:=(xj hs k).filter λd=>decide (Dg hs k d=g)
def aqg(h:d∈wT hs k g):d∈xj hs k/\Dg hs k d=g:=by have:=v7.mp h;exact⟨this.1,by simpa using this.2⟩
def V0{i:Nat}(h:hs[i]?=some f):Dg hs k (.int i)=f.b:=by
 have:¬((i:Int)=-1):=by lia
 simp[Dg,this,h]
def a2k{i:Nat}(h:hs[i]?=some f)(e:f.a=k):.int i∈xj hs k:=by refine bh _ (bu.mpr ⟨i,v7.mpr ⟨il.mpr (ak.mp h).1,?_⟩,rfl⟩);simp[Mq,h,e]
def axs{i:Nat}(h:hs[i]?=some f)(e:f.a=k):.int i∈wT hs k f.b :=
 v7.mpr ⟨a2k h e,by simp[V0 h]⟩
def a2l(h:d∈wT hs k g):∃i:Int,d=.int i:=aet (aqg h).1
noncomputable def bv(hs:List F)(iw:List (List Kx×D))(j:Nat):D->Int
 |.int x=>match bothW hs iw x j with|some (.int v)=>v|_=>0
 |_=>0
def av9(P:Oq sz K hs iw){j:Nat}(hj:hs[j]?=some f)(hd:d∈wT hs k f.a) :
 ∃x:Int,d=.int x/\-1<=x/\bothW hs iw x j=some (.int (bv hs iw j d))/\.int (bv hs iw j d)∈wT hs k f.b:=by
 obtain⟨h1,h2⟩:=aqg hd;have nj:¬((j:Int)=-1):=by lia
 rcases O8 h1 with rfl|⟨i,g,rfl,hg,e⟩
 . have e:k=f.a:=by simpa[Dg] using h2
   have:bothW hs iw (-1) j=some (.int j):=by simp[bothW]
   refine⟨-1,rfl,by lia,by simp[bv,this],?_⟩;simp only[bv,this];exact axs hj e.symm
 . rw[V0 hg] at h2
   have ni:¬((i:Int)=-1):=by lia
   have:bothW hs iw i j=some (.int (ent hs g f)):=by rw[bothW,bx ni,bx nj];exact P.look hg hj h2
   refine⟨i,rfl,by lia,by simp[bv,this],?_⟩;simp only[bv,this];have mg:=au hg;have mf:=au hj;rw[Qz];rcases P.Iz (P.cl g mg f mf h2) with⟨x1,i1⟩|⟨u,hu,x1⟩
   . rw[x1]
     refine v7.mpr ⟨by simp[xj],?_⟩;have:g.a=f.b:=i1.1;simp[Dg,<- e,this]
   . rw[x1]
     exact axs (f:=g.comp f) hu e
noncomputable def ixI(v:Int)(ds:List D):Nat:=(ds.findIdx? λd=>match d with|.int i=>decide (i=v)|_=>false).getD 0
theorem aev(M:cj)(v:Int):∀ds:List D,(∀d∈ds,∃i:Int,d=.int i)->Qo M (.int v) ds=some (ds.map λd=>match d with|.int i=>decide (i=v)|_=>false)
 |[],_=>rfl
 |d::l,h=>by
  obtain⟨i,rfl⟩:=h d (by simp);simp[Qo,aev M v l (λx hx=>h x (bh _ hx))]
theorem aew{α:Type}(f:α->Bool):∀l:List α,(l.map f).findIdx? id=l.findIdx? f
 |[]=>rfl|a::l=>by simp[List.findIdx?_cons,aew f l]
def aqh(hi:∀d∈ds,∃i:Int,d=.int i)(h:.int v∈ds):Kr .index (.vl ds) [.int v] M=.ok (.int (ixI v ds)) M:=by
 have e:Yi M (.int v) ds=some (ixI v ds):=by
  rw[Yi,aev M v ds hi,uo,aew];unfold ixI;cases q:ds.findIdx? (λd=>match d with|.int i=>decide (i=v)|_=>false) with
  |some j=>rfl
  |none =>
   rw[xu] at q;have:=q _ h;simp at this
 simp[Kr,e]
end K11
namespace K11
open MW
def aex(hm:1<=m)(hd:d∈xj hs k):prog.call m 19 [qi K r hs,.int k,d] M=.ok (.int (Dg hs k d)) M:=by
 rcases O8 hd with rfl|⟨i,f,rfl,hf,_⟩
 . rw[ak6 hm];simp[Dg]
 . rw[av7 hm hf,V0 hf]
noncomputable def RS(p K:Nat)(rs:Nat->List D)(M:cj):Prop:=∀i,i<K->M[p+i]?=some (.lst (rs i))
noncomputable def lz(p K:Nat):List D:=(List.range K).map λi=>.ref (p+i)
theorem RS.keep(h:RS p K rs M)(s:St t f M M')(ht:t<p):RS p K rs M':=λi hi=>s.keep _ _ (i_ (b_ ht x_)) (h i hi)
def Px(hi:i<K):Am (.vl (lz p K)) (.int i) M=some (.ref (p+i)):=Ce rfl q_ (by simp[lz,hi])
def aqi(hy:y=ρ.length)(he:e.den W ρ M=.ok (.int K) M)(hK:K<=100000) :
 (Ex.comp true 1 (.name y) (.Kh e) (.lst .nil)).den W ρ M=.ok (.vl (lz M.length K)) (M++List.replicate K (.lst [])):=by
 subst hy;obtain⟨ys,M',g,h1,h2⟩:=Hl (v:=true) (k:=1) (t:=.name ρ.length) (e:=.lst .nil) he hK (λi xs M'=>xs=lz M.length i/\M'=M++List.replicate i (.lst [])) ⟨rfl,by simp⟩
  (λi xs M' hi hI=>by
   obtain⟨rfl,rfl⟩:=hI;refine⟨_,.ref (M.length+i),M++List.replicate i (MO.lst [])++[MO.lst []],rfl,by simp[MW.new],?_,?_⟩
   . simp[lz,v8]
   . simp[List.replicate_succ'])
 rw[g,h1,h2];rfl
noncomputable def rowsOf(hs:List F)(ad:List (Nat×Nat))(e:Nat):List D:=ad.flatMap λp=>(wT hs p.2 e).map λw=>.tup [.int p.1,.int p.2,w]
def Xr(hs:List F)(ad:List (Nat×Nat))(p:Nat×Nat)(e:Nat):rowsOf hs (ad++[p]) e=rowsOf hs ad e++(wT hs p.2 e).map λw=>.tup [.int p.1,.int p.2,w]:=by simp[rowsOf]
def ai7(P:Oq sz K hs iw)(hk:k<K)(hd:d∈xj hs k):Dg hs k d<K:=by
 rcases O8 hd with rfl|⟨i,f,rfl,hf,_⟩
 . simpa[Dg] using hk
 . rw[V0 hf];exact P.acy f (au hf)
def awa(hm:1<=m)(hl:hs.length<=5)(h1:ρ[1]?=some (some (qi K r hs)))(h5:ρ[5]?=some (some (.int k)))(hy:ρ.length=19) :
 Ir.den ⟨prog.call m,prog.cls⟩ ρ M=.ok (.vl ((xj hs k).map λw=>.tup [.int (Dg hs k w),w])) M:=by
 unfold Ir;rw[Az (d:=.vl (xj hs k)) (ds:=xj hs k) (M1:=M) (g:=λw=>.tup [.int (Dg hs k w),w]) (by simp[h1,h5,aeu hm hl]) rfl (gn (Xq hl) (by decide)) (λx hx=>by
  refine⟨_,rfl,?_⟩;have e1:(ρ++List.replicate 1 none).set 19 (some x)=ρ++[some x]:=by rw[Bf];simp[hy]
  rw[e1];have g1:(ρ++[some x])[1]?=some (some (qi K r hs)):=by rw[du (b_ (by decide) (g_ hy))];exact h1
  have g5:(ρ++[some x])[5]?=some (some (.int k)):=by rw[du (b_ (by decide) (g_ hy))];exact h5
  have g9:(ρ++[some x])[19]?=some (some x):=by rw[<- hy];simp
  simp[g1,g5,g9,aex hm hx])]
 rfl
noncomputable def Z7(p:Nat)(M M':cj):Prop:=∀(a:Nat)(o:MO),a<p->M[a]?=some o->M'[a]?=some o
def Z7.refl(p:Nat)(M:cj):Z7 p M M:=λ_ _ _ h=>h
def Z7.trans(a:Z7 p M M1)(b:Z7 p M1 M2):Z7 p M M2:=λx o h e=>b x o h (a x o h e)
theorem Z7.set(h:p<=q):Z7 p M (M.set q o):=λa u ha e=>by rw[su (i_ (b_ ha h))];exact e
noncomputable def trD(n k:Nat)(w:D):D:=.tup [.int n,.int k,w]
def axt(n k:Nat)(w:D):D.tup [.int n,.int k,w]=trD n k w:=rfl
noncomputable def ab2(hs:List F)(rs:Nat->List D)(n k j:Nat)(e:Nat):List D:=rs e++(((xj hs k).take j).filter λw=>decide (Dg hs k w=e)).map (trD n k)
def aqj(hs:List F)(rs:Nat->List D)(n k e:Nat):ab2 hs rs n k (xj hs k).length e=rs e++(wT hs k e).map (trD n k):=by unfold ab2 wT;rw[List.take_length]
def aqk(hl:hs.length<=5)(h7:(rs e).length<=7):(ab2 hs rs n k j e).length<=13:=by
 have h1:=vf (λw=>decide (Dg hs k w=e)) ((xj hs k).take j);have h2:=Xq (k:=k) hl;have h3:((xj hs k).take j).length<=(xj hs k).length:=by simp;lia
 simp only[ab2,m6,dz]
 lia
def aag(P:Oq sz K hs iw)(hk:k<K)(h:RS p K rs M)(h7:∀e,e<K->(rs e).length<=7)(hr:rest.length=10) :
 ∃b7 b8 M',Og.den W ([a0,a1,a2,some (.vl (lz p K)),some (.int n),some (.int k),some (.vl ((xj hs k).map λw=>.tup [.int (Dg hs k w),w])),b7',b8']++rest) M
  = .ok (.next,[a0,a1,a2,some (.vl (lz p K)),some (.int n),some (.int k),some (.vl ((xj hs k).map λw=>.tup [.int (Dg hs k w),w])),b7,b8]++rest) M'/\RS p K (λe=>rs e++(wT hs k e).map (trD n k)) M'/\Z7 p M M'/\M'.length=M.length:=by
 have hl:=P.len;obtain⟨ρ',M',e,⟨c7,c8,rfl⟩,r1,r2,r3⟩:=Li (W:=W) (t:=.names [7,8]) (b:=Ek) (it:=.v 6) (d:=.vl ((xj hs k).map λw=>.tup [.int (Dg hs k w),w])) (ds:=(xj hs k).map λw=>.tup [.int (Dg hs k w),w])
  (ρ:=[a0,a1,a2,some (.vl (lz p K)),some (.int n),some (.int k),some (.vl ((xj hs k).map λw=>.tup [.int (Dg hs k w),w])),b7',b8']++rest) (M:=M) (M1:=M) (by simp) rfl
  (λj ρ M'=>(∃b7 b8:Option D,ρ=[a0,a1,a2,some (.vl (lz p K)),some (.int n),some (.int k),some (.vl ((xj hs k).map λw=>.tup [.int (Dg hs k w),w])),b7,b8]++rest)/\RS p K (ab2 hs rs n k j) M'/\Z7 p M M'/\M'.length=M.length)
  ⟨⟨b7',b8',rfl⟩,λi hi=>by rw[h i hi];simp[ab2],Z7.refl _ _,rfl⟩ (λ_ _ _ _=>rfl)
  (λj x ρ M1 hx hI=>by
   obtain⟨⟨c7,c8,rfl⟩,q1,q2,q3⟩:=hI;obtain⟨w,hw,rfl⟩:∃w,(xj hs k)[j]?=some w/\D.tup [.int (Dg hs k w),w]=x:=by simpa using hx
   have hwm:=au hw;have he:=ai7 P hk hwm;have g:=q1 _ he;have ap:=Jm (d:=trD n k w) g (by have:=aqk (n:=n) (k:=k) (j:=j) hl (h7 _ he);exact c_ this (by decide));refine⟨_,.next,_,M1.set (p+Dg hs k w) (.lst (ab2 hs rs n k j (Dg hs k w)++[trD n k w])),Ou _ _ _ _ _,?_,.inl rfl,⟨some (.int (Dg hs k w)),some w,rfl⟩,?_,q2.trans (Z7.set x_),by simp[q3]⟩
   . show Ek.den W (a0::a1::a2::some (.vl (lz p K))::some (.int n)::some (.int k)::some (.vl ((xj hs k).map λw=>.tup [.int (Dg hs k w),w]))::some (.int (Dg hs k w))::some w::rest) M1=_
     simp[Ek,Px he,J7 g,axt,ap]
   . intro i hi
     have e1:(xj hs k).take (j+1)=(xj hs k).take j++[w]:=by rw[List.take_succ,hw];rfl
     by_cases z:i=Dg hs k w
     . subst z
       rw[vq g];simp[ab2,e1,zm]
     . rw[su (by lia),q1 i hi]
       simp[ab2,e1,zm,jz z])
 refine⟨c7,c8,M',e,λi hi=>?_,r2,r3⟩;rw[r1 i hi];simp only[dz];rw[aqj]
structure Gs(t:Nat)(f:Bool)(p:Nat)(M M':cj):Prop where
 has:Ur t f M'
 low:∀(a:Nat)(o:MO),a<p->a≠t->M[a]?=some o->M'[a]?=some o
 len:M.length<=M'.length
def Gs.trans(a:Gs t f p M M1)(b:Gs t f p M1 M2):Gs t f p M M2:=⟨b.has,λx o h n e=>b.low x o h n (a.low x o h n e),gn a.len b.len⟩
def Gs.aey(s:St t f M M1):Gs t f p M M1:=⟨s.has,λa o _ n e=>s.keep a o n e,s.len⟩
def Z7.has(h:Ur t f M)(l:Z7 p M M1)(ht:t<p):Ur t f M1:=by obtain⟨n,e,o⟩:=h;exact⟨n,l _ _ ht e,o⟩
def Gs.aql(h:Ur t f M)(l:Z7 p M M1)(ht:t<p)(hl:M.length<=M1.length):Gs t f p M M1:=⟨l.has h ht,λa o x _ e=>l a o x e,hl⟩
def Gs.refl(h:Ur t f M):Gs t f p M M:=⟨h,λ_ _ _ _ e=>e,bc _⟩
def Gs.st(g:Gs t f M.length M M1):St t f M M1:=⟨g.len,g.has,λa o n e=>g.low a o (ye e) n e⟩
def Gs.app(h:Ur t f M)(hp:p<=M.length)(X:cj):Gs t f p M (M++X):=⟨by obtain⟨n,e,o⟩:=h;exact⟨n,yp e,o⟩,λa o _ _ e=>yp e,by simp⟩
def awb(hy:ρ.length=y)(h3:ρ[3]?=some (some (.vl (lz p K))))(h:RS p K rs M)(hK:K<=3) :
 (Ex.comp true 1 (.name y) (.val (.v 3)) (.blt .len (.o (.var y)))).den W ρ M=.ok (.vl (((List.range K).map λi=>(rs i).length).map nD)) M:=by
 subst hy;rw[Az (d:=.vl (lz p K)) (ds:=lz p K) (M1:=M) (g:=λd=>match uh .len [d] M with|.ok x _=>x|_=>.non) (by simp[h3]) rfl (by simp[lz];exact a_ hK (by decide)) (λd hd=>by
  obtain⟨i,hi,rfl⟩:=bu.mp hd;refine⟨_,rfl,?_⟩;simp[len_list (o4 (h i (il.mp hi)))])]
 simp only[ju,lz,tu]
 congr 2
 apply qd;intro i hi;simp[len_list (o4 (h i (il.mp hi))),nD]
structure Rw(hs:List F)(K p:Nat)(ad:List (Nat×Nat))(M:cj):Prop where
 rs:RS p K (rowsOf hs ad) M
 kd:∀q∈ad,q.2<K
 le:∀e,e<K->(rowsOf hs ad e).length<=7
 nd:(ad.map (·.1)).Nodup
def awc(hm:1<=m)(P:Oq sz K hs iw)(hh:Ur t f M)(ht:t<p)(h:Rw hs K p ad M)(hn:∀q∈ad,q.1<n)(hr:rest.length=10) :
 ∃c5 c6 c7 c8 ad' M',Cv.den ⟨prog.call m,prog.cls⟩ ([some (.ref t),some (qi K r hs),some (.int 3),some (.vl (lz p K)),some (.int n),b5,b6,b7,b8]++rest) M
  = .ok (.next,[some (.ref t),some (qi K r hs),some (.int 3),some (.vl (lz p K)),some (.int n),c5,c6,c7,c8]++rest) M'/\Rw hs K p ad' M'/\(∀q∈ad',q.1<n+1)/\Gs t f p M M'/\M'.length=M.length:=by
 have hl:=P.len;have h3:=P.k3;obtain⟨k,M1,e1,l1,s1,n1⟩:=Ai (many:=K) hm hh (by have:=P.k1;exact m_ this) (m_ (c_ h3 (by decide)));have hk:k<K:=o_ l1
 have r1:=h.rs.keep s1 ht;have c9:=awa (M:=M1) (r:=r) (K:=K) (hs:=hs) (ρ:=[some (.ref t),some (qi K r hs),some (.int 3),some (.vl (lz p K)),some (.int n),some (.int k),b6,b7,b8]++rest) (k:=k) hm hl rfl rfl (by simp[hr]);have c8:=awb (W:=⟨prog.call m,prog.cls⟩) (M:=M1) (ρ:=[some (.ref t),some (qi K r hs),some (.int 3),some (.vl (lz p K)),some (.int n),some (.int k),some (.vl ((xj hs k).map λw=>.tup [.int (Dg hs k w),w])),b7,b8]++rest) (y:=19) (by simp[hr]) rfl r1 h3;obtain⟨v,e3,v1,v2⟩:=anf (M:=M1) (xs:=(List.range K).map λi=>(rowsOf hs ad i).length) (by have:=P.k1;intro z;have:=qj List.length z;simp at this;exact l_ (o_ l1) (a_ (f_ this) (my _)));generalize hL:(D.vl (((List.range K).map λi=>(rowsOf hs ad i).length).map nD))=L at e3 c8;have hlen:uh .len [.vl ((xj hs k).map λw=>D.tup [.int (Dg hs k w),w])] M1=.ok (.int (xj hs k).length) M1:=by simp[uh,Lg]
 by_cases q:v+(xj hs k).length<8
 . have q':(v:Int)+((xj hs k).length:Int)<8:=by lia
   obtain⟨d7,d8,M2,e4,r2,lo,n2⟩:=aag (W:=⟨prog.call m,prog.cls⟩) (M:=M1) P (n:=n) hk r1 h.le (a0:=some (.ref t)) (a1:=some (qi K r hs)) (a2:=some (.int 3)) (b7':=b7) (b8':=b8) (rest:=rest) hr;refine⟨some (.int k),some (.vl ((xj hs k).map λw=>D.tup [.int (Dg hs k w),w])),d7,d8,ad++[(n,k)],M2,?_,⟨λi hi=>?_,λq hq=>?_,λe he=>?_,?_⟩,λq hq=>?_,(Gs.aey s1).trans (Gs.aql s1.has lo ht (g_ n2)),n2.trans n1⟩
   . simp only[za,xx] at c9 c8 e4 ⊢
     simp[Cv,La,e1,c9,Ip,c8,e3,hlen,q',e4]
   . rw[r2 i hi,Xr];rfl
   . rcases dj.mp hq with z|z
     . exact h.kd q z
     . have:q=(n,k):=by simpa using z
       rw[this];exact hk
   . rw[Xr,m6,dz]
     have a1:=v1 (rowsOf hs ad e).length (bu.mpr ⟨e,il.mpr he,rfl⟩);have a2:(wT hs k e).length<=(xj hs k).length:=vf _ _
     simp only
     lia
   . rw[qu]
     refine yh.mpr ⟨h.nd,by simp,λa ha b hb=>?_⟩;obtain⟨q,hq,rfl⟩:=bu.mp ha;have:b=n:=by simpa using hb
     have:=hn q hq
     lia
   . rcases dj.mp hq with z|z
     . have:=hn q z;exact A_ (e_ this)
     . have:q=(n,k):=by simpa using z
       rw[this];exact pq n
 . have q':¬(v:Int)+((xj hs k).length:Int)<8:=by lia
   refine⟨some (.int k),some (.vl ((xj hs k).map λw=>D.tup [.int (Dg hs k w),w])),b7,b8,ad,M1,?_,⟨r1,h.kd,h.le,h.nd⟩,λq hq=>by have:=hn q hq;exact A_ (e_ this),Gs.aey s1,n1⟩;simp only[za,xx] at c9 c8 ⊢;simp[Cv,La,e1,c9,Ip,c8,e3,hlen,q']
theorem ai8{M:cj}{x:D}:∀{ds:List D},(∀y∈ds,∃b,vd M y x=some b)->∃bs:List Bool,Qo M x ds=some bs/\bs.length=ds.length/\∀(i:Nat)(y:D),ds[i]?=some y->(bs[i]?).map some=some (vd M y x)
 |[],_=>⟨[],rfl,rfl,λi y h=>by simp at h⟩
 |y::l,h=>by
  obtain⟨b,hb⟩:=h y (by simp);obtain⟨bs,h1,h2,h3⟩:=ai8 (λz hz=>h z (bh _ hz));refine⟨b::bs,by simp[Qo,hb,h1],by simp[h2],λi z hz=>?_⟩;cases i with
  |zero=>simp at hz;subst hz;simp[hb]|succ i=>simpa using h3 i z (by simpa using hz)
def a2m(h:∀y∈ds,∃b,vd M y x=some b)(hx:x∈ds)(he:vd M x x=some true):∃j y,Yi M x ds=some j/\ds[j]?=some y/\vd M y x=some true:=by
 obtain⟨bs,h1,h2,h3⟩:=ai8 h;obtain⟨i,hi,ei⟩:=qb hx;have h4:=h3 i x (by simp[hi,ei]);rw[he] at h4;obtain⟨b,e1,e2⟩:=cu.mp h4;cases e2;rw[Yi,h1,uo];cases q:bs.findIdx? id with
 |some j =>
  obtain⟨g1,g2,_⟩:=um.mp q;have g3:ds[j]?=some (ds[j]'(b_ g1 (f_ h2))):=dh (b_ g1 (f_ h2));have g4:=h3 j _ g3;rw[dh g1] at g4;simp only[v9,Option.some.injEq] at g4;exact⟨j,_,rfl,g3,by rw[<- g4];simpa using g2⟩
 |none =>
  rw[xu] at q;have:=q true (au e1);simp at this
def awd(hp:M[p]?=some (.lst ds))(h:∀y∈ds,∃b,vd M y x=some b)(hx:x∈ds)(he:vd M x x=some true):∃(j:Nat)(y:D),Kr .index (.ref p) [x] M=.ok (.int j) M/\ds[j]?=some y/\vd M y x=some true:=by obtain⟨j,y,h1,h2,h3⟩:=a2m h hx he;exact⟨j,y,by simp[Kr,Wg (o4 hp),h1],h2,h3⟩
def awe(hp:M[p]?=some (.lst ds)):Qp .index (.ref p) M=true:=by simp[Qp,o4 hp]
def aqm(M:cj)(n k n' k':Nat)(a a':Int):vd M (trD n k (.int a)) (trD n' k' (.int a'))=some (decide (n=n')&&(decide (k=k')&&(decide (a=a')&&true))):=by show Q8 (Kl M 5) [.int n,.int k,.int a] [.int n',.int k',.int a']=_;rw[Ec (Mf M 4 n n') (Ec (Mf M 4 k k') (Ec (ahm 4 a a') (show Q8 (Kl M 5) [] []=some true from rfl)))]
def Mr(h:d∈rowsOf hs ad e):∃(n k:Nat)(x:Int),(n,k)∈ad/\.int x∈wT hs k e/\d=trD n k (.int x):=by obtain⟨q,hq,hd⟩:=List.mem_flatMap.mp h;obtain⟨w,hw,rfl⟩:=bu.mp hd;obtain⟨x,rfl⟩:=a2l hw;exact⟨q.1,q.2,x,hq,hw,rfl⟩
def ak7(h:(n,k)∈ad)(hw:w∈wT hs k e):trD n k w∈rowsOf hs ad e :=
 List.mem_flatMap.mpr ⟨(n,k),h,bu.mpr ⟨w,hw,rfl⟩⟩
structure Ae(hs:List F)(iw:List (List Kx×D))(ad:List (Nat×Nat))(j:Nat)(g:F)(js:Y3):Prop where
 len:js.length=(rowsOf hs ad g.a).length
 go:∀(i n k:Nat)(x:Int),(rowsOf hs ad g.a)[i]?=some (trD n k (.int x))->(rowsOf hs ad g.b)[js.getD i 0]?=some (trD n k (.int (bv hs iw j (.int x))))
def aqn(h:i<l.length):(l++[x]).getD i 0=l.getD i 0:=by rw[bz,du h,bz]
def Ae.lt(h:Ae hs iw ad j g js):∀x∈js,x<(rowsOf hs ad g.b).length:=λx hx=>by
 obtain⟨i,hi,rfl⟩:=qb hx;have hi2:i<(rowsOf hs ad g.a).length:=by rw[<- h.len];exact hi
 obtain⟨n,k,y,_,_,e⟩:=Mr (qz hi2);have:=h.go i n k y (by rw[dh hi2,e]);rw[bz,dh hi] at this;exact(ak.mp this).1
def a2n(hm:1<=m)(P:Oq sz K hs iw)(hr:M[r]?=some (.dT iw)){j:Nat}(h:Rw hs K p ad M)(hj:hs[j]?=some g)(a9o:rest.length=6) :
 ∃js:List Nat,Il.den ⟨prog.call m,prog.cls⟩ ([a0,some (qi K r hs),a2,some (.vl (lz p K)),a4,a5,a6,a7,a8,a9,some (.int j),some (.int g.a),some (.int g.b)]++rest) M=.ok (.vl (js.map nD)) M /\
  Ae hs iw ad j g js:=by
 have hg:=au hj;have ha:=P.acx g hg;have hb:=P.acy g hg;have ga:=h.rs _ ha;have gb:=h.rs _ hb;unfold Il;obtain⟨ys,M',e,hI⟩:=Gk (W:=⟨prog.call m,prog.cls⟩) (v:=true) (k:=3) (t:=.names [19,20,21]) (it:=.ix (.v 3) (.v 11)) (e:=.bm .index (.ix (.v 3) (.v 12)) (.o (.tup (.q (.v 19) (.v 20) (.call 20 (.q (.v 1) (.v 21) (.v 10)))))))
  (ρ:=[a0,some (qi K r hs),a2,some (.vl (lz p K)),a4,a5,a6,a7,a8,a9,some (.int j),some (.int g.a),some (.int g.b)]++rest) (M:=M) (M1:=M) (d:=.ref (p+g.a)) (ds:=rowsOf hs ad g.a) (by simp[Px ha]) (o4 ga) (by have:=h.le _ ha;exact a_ this (by decide))
  (λi xs M'=>M'=M/\∃js:List Nat,xs=js.map nD/\js.length=i/\∀(i' n k:Nat)(x:Int),i'<i->(rowsOf hs ad g.a)[i']?=some (trD n k (.int x))->(rowsOf hs ad g.b)[js.getD i' 0]?=some (trD n k (.int (bv hs iw j (.int x))))) ⟨rfl,[],rfl,rfl,by simp⟩ (λi xs M' h=>by rw[h.1];exact o4 ga)
  (λi y xs M' hy hI=>by
   obtain⟨rfl,js,rfl,q1,q2⟩:=hI;obtain⟨n,k,x,h1,h2,rfl⟩:=Mr (au hy);obtain⟨x',z,hx,hv,Yg⟩:=av9 P hj h2;cases z;obtain⟨jj,yy,e1,e2,e3⟩:=awd (x:=trD n k (.int (bv hs iw j (.int x)))) gb (λy hy=>by obtain⟨n',k',x'',_,_,rfl⟩:=Mr hy;exact⟨_,aqm _ _ _ _ _ _ _⟩) (ak7 h1 Yg) (by rw[aqm];simp);refine⟨_,.int jj,M',rfl,?_,rfl,js++[jj],by simp[nD],by simp[q1],λi' n' k' x' hi' hx'=>?_⟩
   . have hl:rest.length=6:=a9o
     match rest,hl with
     |[r0,r1,r2,r3,r4,r5],_ =>
      show(Ex.bm .index (.ix (.v 3) (.v 12)) (.o (.tup (.q (.v 19) (.v 20) (.call 20 (.q (.v 1) (.v 21) (.v 10))))))).den _ [a0,qi K r hs,a2,D.vl (lz p K),a4,a5,a6,a7,a8,a9,D.int j,D.int g.a,D.int g.b,r0,r1,r2,r3,r4,r5,D.int n,D.int k,D.int x] M'=_;simp[Px hb,awe gb,ag4 hm hr hx (show(-1:Int)<=j by lia) hv,axt,e1]
   . by_cases z:i'<i
     . rw[aqn (b_ z (g_ q1))];exact q2 i' n' k' x' z hx'
     . have z:i'=i:=u_ (z_ hi') (s_ z)
       subst z;rw[hy] at hx';simp only[trD,Option.some.injEq,D.tup.injEq,List.cons.injEq,D.int.injEq,Int.ofNat_inj,and_true] at hx';obtain⟨rfl,rfl,rfl⟩:=hx';have ej:(js++[jj]).getD i' 0=jj:=by rw[<- q1];simp[bz]
       rw[ej,e2];obtain⟨n3,k3,x3,_,_,rfl⟩:=Mr (au e2);rw[aqm] at e3;simp only[Option.some.injEq,aq,di,and_true] at e3;obtain⟨rfl,rfl,rfl⟩:=e3;rfl)
 obtain⟨rfl,js,rfl,q1,q2⟩:=hI;exact⟨js,by rw[e];rfl,q1,λi n k x h=>q2 i n k x (ak.mp h).1 h⟩
noncomputable def up(ms:Nat->List Nat)(i:Nat)(ns:Y3):Nat->List Nat:=λe=>if e=i then ns else ms e
noncomputable def Ja(lo hi:Nat)(l:Y3):List Nat:=l.map λo=>if o=hi then lo else o
theorem ai9{lo hi:Nat}(h:lo<hi):∀l:List Nat,(Ja lo hi l).sum<=l.sum
 |[]=>bc _
 |a::l=>by
  have:=ai9 h l;simp only[Ja,ig,List.sum_cons] at this ⊢;split<;>omega
theorem aja{lo hi:Nat}(h:lo<hi):∀{l:Y3},hi∈l->(Ja lo hi l).sum<l.sum
 |a::l,hm=>by
  have h1:=ai9 h l;simp only[Ja,ig,List.sum_cons] at h1 ⊢
  by_cases z:a=hi
  . rw[cg z];exact b_ (G_ h) (a_ (v_ (g_ z)) (w_ h1))
  . have:=aja h (show hi∈l from by simpa[jz z] using hm)
    simp only[Ja] at this;rw[bx z];exact H_ this
noncomputable def Yw(K:Nat)(ms:Nat->List Nat):Nat:=((List.range K).map λi=>(ms i).sum).sum
theorem aqo{ms:Nat->List Nat}{b:Nat}{ns:Y3}(h:ns.sum<(ms b).sum):∀K,Yw K (up ms b ns)<=Yw K ms/\(b<K->Yw K (up ms b ns)<Yw K ms)
 |0=>⟨bc _,λz=>absurd z (yc _)⟩
 |K+1=>by
  obtain⟨h1,h2⟩:=aqo h K;simp only[Yw,v8,qu,List.sum_append,ig,List.map_nil,List.sum_cons,List.sum_nil] at h1 h2 ⊢
  by_cases z:K=b
  . subst z
    have e:up ms K ns K=ns:=by simp[up]
    rw[e];constructor
    . exact e_ (c_ (v_ h1) (H_ (G_ h)))
    . intro _;exact c_ (v_ h1) (H_ (G_ h))
  . have e:up ms b ns K=ms K:=by simp[up,z]
    rw[e];constructor
    . exact v_ h1
    . intro q;have:=h2 (by lia);exact G_ this
structure Mk(t pm K:Nat)(L:Nat->Nat)(ms:Nat->List Nat)(M:cj):Prop where
 ex:∃mds:List D,M[pm]?=some (.lst mds)/\mds.length=K/\∀i,i<K->∃d,mds[i]?=some d/\fu M d=some ((ms i).map nD)/\∀a,d=.ref a->t<a/\a<pm
 len:∀i,i<K->(ms i).length=L i
 lt:∀i,i<K->∀x∈ms i,x<L i
 fx:∀i,i<K->∀x∈ms i,(ms i).getD x 0=x
def Xu(h:fu M d=some ds)(k:∀a o,d=.ref a->M[a]?=some o->M'[a]?=some o):fu M' d=some ds:=by
 cases d with
 |ref a =>
  simp only[fu] at h ⊢;cases e:M[a]? with
  |none=>rw[e] at h;cases h|some o=>rw[e] at h;rw[k a o rfl e];exact h
 |vl xs=>exact h|_=>cases h
def Mk.frame(h:Mk t pm K L ms M)(k:∀(a:Nat) (o:MO),t<a->a<=pm->M[a]?=some o->M'[a]?=some o)(ht:t<pm):Mk t pm K L ms M':=by obtain⟨mds,h1,h2,h3⟩:=h.ex;refine⟨⟨mds,k _ _ ht (bc _) h1,h2,λi hi=>?_⟩,h.len,h.lt,h.fx⟩;obtain⟨d,g1,g2,g3⟩:=h3 i hi;exact⟨d,g1,Xu g2 λa o e q=>k a o (g3 a e).1 (Aj (g3 a e).2) q,g3⟩
def Mk.row(h:Mk t pm K L ms M)(hi:i<K):∃d,Am (.ref pm) (.int i) M=some d/\fu M d=some ((ms i).map nD):=by obtain⟨mds,h1,h2,h3⟩:=h.ex;obtain⟨d,g1,g2,_⟩:=h3 i hi;exact⟨d,Ce (o4 h1) q_ (by simpa using g1),g2⟩
def Q6{l:Y3}(h:fu M d=some (l.map nD))(hx:x<l.length):Am d (.int x) M=some (.int (l.getD x 0)) :=
 Ce h q_ (by simp[hx,nD])
def getD_mem'{l:Y3}(hx:x<l.length):l.getD x 0∈l:=by rw[bz,dh hx];exact qz hx
set_option tactic.hygienic true in
theorem Mk.set(h:Mk t pm K L ms M)(hi:i<K)(h1:ns.length=L i)(h2:∀x∈ns,x<L i)(h4:∀x∈ns,ns.getD x 0=x)(ht:t<pm) :
 ∃o,setOp (.ref pm) (.int i) (.vl (ns.map nD)) M=some (M.set pm o)/\Mk t pm K L (up ms i ns) (M.set pm o):=by
 obtain⟨mds,g1,g2,g3⟩:=h.ex;refine⟨.lst (mds.set i (.vl (ns.map nD))),?_,⟨mds.set i (.vl (ns.map nD)),vq g1,by simp[g2],λe he=>?_⟩,λe he=>?_,λe he x hx=>?_,λe he x hx=>?_⟩
 . have:=aaq (d:=.vl (ns.map nD)) (i:=i) g1 q_ (m_ (b_ hi (g_ g2)))
   simpa using this
 . by_cases z:e=i
   . subst z
     exact⟨.vl (ns.map nD),by simp[g2,he],by simp[up],λa q=>by cases q⟩
   . obtain⟨d,k1,k2,k3⟩:=g3 e he
     refine⟨d,by rw[v5 (jz z)];exact k1,?_,k3⟩;have:up ms i ns e=ms e:=by simp[up,z]
     rw[this];exact Xu k2 λa o q w=>by rw[su (by have:=(k3 a q).2;exact i_ this)];exact w
 . unfold up;split
   . rename_i z;rw[z];exact h1
   . exact h.len e he
 . unfold up at hx;split at hx
   . rename_i z;rw[z];exact h2 x hx
   . exact h.lt e he x hx
 . unfold up at hx ⊢;split at hx
   . rename_i z;rw[cg z];exact h4 x hx
   . rename_i z;rw[bx z];exact h.fx e he x hx
def getD_map{α:Type}{l:Y3}{f:Nat->Nat}{x:Nat}(h:x<l.length):(l.map f).getD x 0=f (l.getD x 0):=by simp[bz,jd,dh h]
set_option tactic.hygienic true in
def ajb(fx:∀x∈l,l.getD x 0=x)(lt:∀x∈l,x<l.length)(hlo:lo∈l):∀x∈Ja lo hi l,(Ja lo hi l).getD x 0=x:=λx hx=>by
 obtain⟨o,ho,e⟩:=bu.mp hx;have h1:x∈l:=by
  split at e
  . rw[<- e];exact hlo
  . rw[<- e];exact ho
 unfold Ja;rw[getD_map (α:=Nat) (lt x h1),fx x h1]
 by_cases z:x=hi
 . rw[cg z]
   split at e
   . exact e
   . rename_i w;exact absurd (e.trans z) w
 . rw[bx z]
structure Ac(q:Nat)(hs:List F)(L:Nat->Nat)(as:List (List Nat))(M:cj):Prop where
 at_:M[q]?=some (.lst (as.map λjs=>.vl (js.map nD)))
 len:as.length=hs.length
 ok:∀(j:Nat)(g:F)(js:Y3),hs[j]?=some g->as[j]?=some js->js.length=L g.a/\∀x∈js,x<L g.b
def Ac.get(h:Ac q hs L as M){j:Nat}(hj:hs[j]?=some g):∃js,as[j]?=some js/\Am (.ref q) (.int j) M=some (.vl (js.map nD))/\js.length=L g.a/\∀x∈js,x<L g.b:=by
 have hl:=(ak.mp hj).1;have hl2:j<as.length:=by rw[h.len];exact hl
 have e:as[j]?=some as[j]:=dh hl2;exact⟨_,e,Ce (o4 h.at_) q_ (by simp[e]),h.ok j g _ hj e⟩
def aqq(h:M[n]?=some (.dK kv)):Kr .get (.ref n) [.int k,d] M=.ok ((vz kv (.inl k)).getD d) M:=by simp[Kr,h]
def axu(h:M[n]?=some (.dK kv)):Qp .get (.ref n) M=true:=by simp[Qp,h]
def aqr(h:M[n]?=some (.dK kv))(hl:kv.length<100000):setOp (.ref n) (.int k) d M=some (M.set n (.dK (Cq kv (.inl k) d))):=by simp[setOp,h,hl]
def aez[DecidableEq κ]{kv:List (κ×D)}(h:vz kv k=some v):∃p∈kv,p.2=v:=by unfold vz at h;obtain⟨p,h1,h2⟩:=cu.mp h;exact⟨p,List.mem_of_find?_eq_some h1,h2⟩
def V1[DecidableEq κ]{kv:List (κ×D)}(h:p∈Cq kv k v):p∈kv\/p.2=v:=by
 unfold Cq at h;split at h
 . obtain⟨q,h1,h2⟩:=bu.mp h
   split at h2
   . rw[<- h2];exact .inr rfl
   . rw[<- h2];exact .inl h1
 . rcases dj.mp h with z|z
   . exact .inl z
   . have:p=(k,v):=by simpa using z
     rw[this];exact .inr rfl
def Lb[DecidableEq κ](p:κ×D)(r:List (κ×D))(k:κ):vz (p::r) k=if p.1=k then some p.2 else vz r k:=by
 unfold vz
 by_cases h:p.1=k
 . simp[qt,h]
 . simp[qt,h]
theorem Xv{κ:Type}[DecidableEq κ]{k k':κ}{v:D}:∀{kv:List (κ×D)},(∃p∈kv,p.1=k)->vz (kv.map λp=>if p.1=k then(p.1,v) else p) k'=if k'=k then some v else vz kv k'
 |p::r,h=>by
  rw[ig,Lb,Lb]
  by_cases a:p.1=k
  . rw[cg a]
    by_cases b:k'=k
    . simp[a,b]
    . have c:¬p.1=k':=λz=>b (z.symm.trans a)
      rw[bx c,bx b,bx c]
      by_cases d:∃p∈r,p.1=k
      . rw[Xv d,bx b]
      . congr 1
        conv=>rhs;rw[<- List.map_id r]
        apply qd;intro q hq;rw[bx λz=>d ⟨q,hq,z⟩];rfl
  . rw[bx a]
    have d:∃p∈r,p.1=k:=by
     obtain⟨q,h1,h2⟩:=h;rcases bw.mp h1 with rfl|h1
     . exact absurd h2 a
     . exact⟨q,h1,h2⟩
    rw[Xv d]
    by_cases b:k'=k
    . have c:¬p.1=k':=λz=>a (z.trans b)
      rw[bx c];simp[b]
    . simp[b]
theorem ae0{κ:Type}[DecidableEq κ]{k k':κ}{v:D}:∀{kv:List (κ×D)},(∀p∈kv,p.1≠k)->vz (kv++[(k,v)]) k'=if k'=k then some v else vz kv k'
 |[],_=>by
  rw[xx,Lb]
  by_cases b:k'=k
  . simp[b]
  . simp[b,jz b]
 |p::r,h=>by
  rw[za,Lb,Lb,ae0 (λq hq=>h q (bh _ hq))];have a:=h p (by simp)
  by_cases b:k'=k
  . have c:¬p.1=k':=λz=>a (z.trans b)
    rw[bx c];simp[b]
  . simp[b]
def ae1[DecidableEq κ](kv:List (κ×D))(k k':κ)(v:D):vz (Cq kv k v) k'=if k'=k then some v else vz kv k':=by
 unfold Cq
 by_cases h:(kv.any λp=>decide (p.1=k))=true
 . rw[cg h]
   exact Xv (by simpa using h)
 . rw[bx h]
   exact ae0 (λp hp z=>h (Ao.mpr ⟨p,hp,by simpa using z⟩))
def Tc[DecidableEq κ](kv:List (κ×D))(k:κ)(v:D):(Cq kv k v).length<=kv.length+1:=by unfold Cq;split<;>simp
def ab3(M:cj)(a b:Nat):vd M (.int a) (.int b)=some (decide (a=b)):=Bl M a b
noncomputable def Fm(pm n:Nat)(M M':cj):Prop:=∀(a:Nat)(o:MO),a≠pm->a<n->M[a]?=some o->M'[a]?=some o
def ajc(M:cj)(a b:Nat):uh .min [.int a,.int b] M=.ok (.int (min a b:Nat)) M:=by
 show Res.ok (D.int (if(b:Int)<(a:Int) then(b:Int) else(a:Int))) M=_
 by_cases h:b<a
 . rw[cg (m_ h),Ar (e_ h)]
 . rw[bx (by lia),Bg (s_ h)]
def ab4(M:cj)(a b:Nat):uh .max [.int a,.int b] M=.ok (.int (max a b:Nat)) M:=by
 show Res.ok (D.int (if(a:Int)<(b:Int) then(b:Int) else(a:Int))) M=_
 by_cases h:a<b
 . rw[cg (m_ h),Nat.max_eq_right (e_ h)]
 . rw[bx (by lia),Nat.max_eq_left (s_ h)]
def ae2(hx:(Ex.ix (.var v) (.var x)).den W ρ M=.ok d M)(hd:fu M d=some (l.map nD))(hl:l.length<=100000)(hy:y=ρ.length)(h1:ρ[a]?=some (some (.int lo)))(h2:ρ[b]?=some (some (.int hi))) :
 (Ex.comp true 1 (.name y) (.val (.ix (.var v) (.var x))) (.ite (.cmp .eq (.var y) (.var b)) (.var a) (.var y))).den W ρ M=.ok (.vl ((Ja lo hi l).map nD)) M:=by
 subst hy;have ha:=(ak.mp h1).1;have hb:=(ak.mp h2).1;rw[Az (d:=d) (ds:=l.map nD) (M1:=M) (g:=λd=>match d with|.int o=>nD (if o.toNat=hi then lo else o.toNat)|_=>.non) hx hd (by simpa using hl) (λz hz=>by
  obtain⟨o,ho,rfl⟩:=bu.mp hz;refine⟨_,rfl,?_⟩;have e1:(ρ++List.replicate 1 none).set ρ.length (some (nD o))=ρ++[some (.int o)]:=by rw[Bf];simp[nD]
  have g1:(ρ++[some (D.int o)])[a]?=some (some (.int lo)):=by rw[du ha];exact h1
  have g2:(ρ++[some (D.int o)])[b]?=some (some (.int hi)):=by rw[du hb];exact h2
  have g3:(ρ++[some (D.int o)])[ρ.length]?=some (some (.int o)):=by simp
  rw[e1]
  by_cases z:o=hi
  . subst z;simp[-eq_int,g1,g2,g3,ab3,nD]
  . simp[-eq_int,g1,g2,g3,ab3,z,nD])]
 simp[Ja,nD]
def awf(hx:(Ex.ix (.v 1) (.var x)).den W ρ M=.ok d M)(hd:fu M d=some (l.map nD))(hl:l.length<=100000)(hy:y=ρ.length)(hy1:12<y)(h1:ρ[11]?=some (some (.int lo)))(h2:ρ[12]?=some (some (.int hi))) :
 (Ex.comp true 1 (.name y) (.val (.ix (.v 1) (.var x))) (.ite (.cmp .eq (.var y) (.v 12)) (.v 11) (.var y))).den W ρ M=.ok (.vl ((Ja lo hi l).map nD)) M:=ae2 hx hd hl hy h1 h2
structure Fd(dd:Nat)(b:Y3)(n:Nat)(M:cj):Prop where
 ex:∃kv:List (Kx×D),M[dd]?=some (.dK kv)/\kv.length<=n/\(∀p∈kv,∃e:Nat,p.2=.int e/\e∈b)
def aqs{j:Nat}(mk:Mk t pm K L ms M)(ac:Ac q hs L as M)(hj:hs[j]?=some g)(ga:g.a<K)(gb:g.b<K)(hd:M[dd]?=some (.dK []))(hpd:pm<dd)(hqd:q<dd)(hqp:q≠pm)(ht:t<pm)(hL:∀e,e<K->L e<=7) :
 ∃ρ' M',Nb.den W [qi K r hs,D.ref pm,D.ref q,b3,D.int j,D.int g.a,D.int g.b,D.ref dd,b8,b9,b10,Mg,Ug] M=.ok (.next,ρ') M' /\
  ∃c3 c7 c8 c9 c10 c11 c12,ρ'=[some (qi K r hs),some (.ref pm),some (.ref q),c3,some (.int j),some (.int g.a),some (.int g.b),c7,c8,c9,c10,c11,c12]/\Fm pm dd M M'/\M.length<=M'.length /\
   ((c3=b3/\Mk t pm K L ms M')\/(c3=some (.bl true)/\∃Pz,Mk t pm K L Pz M'/\Yw K Pz<Yw K ms)):=by
 refine hG λ_ _k=>?_
 obtain⟨js,ej,_,lj,rj⟩:=ac.get hj;obtain⟨da,fa,la⟩:=mk.row ga;have hla:=mk.len _ ga;have hLa:=hL _ ga;apply _k;refine acu (W:=W) (t:=.name 8) (b:=Ca) (it:=.blt .len (.o (.ix (.v 1) (.v 5)))) (n:=L g.a) (M1:=M) ?_ (a_ hLa (by decide))
  (λi ρ M'=>(∃b8 b9 b10,ρ=[some (qi K r hs),some (.ref pm),some (.ref q),b3,some (.int j),some (.int g.a),some (.int g.b),some (.ref dd),b8,b9,b10,Mg,Ug])/\Mk t pm K L ms M'/\Fd dd (ms g.b) i M'/\Z7 dd M M'/\M'.length=M.length)
  (fun ρ' M'=>∃c3 c7 c8 c9 c10 c11 c12,ρ'=[some (qi K r hs),some (.ref pm),some (.ref q),c3,some (.int j),some (.int g.a),some (.int g.b),c7,c8,c9,c10,c11,c12]/\Fm pm dd M M'/\M.length<=M'.length /\
   ((c3=b3/\Mk t pm K L ms M')\/(c3=some (.bl true)/\∃Pz,Mk t pm K L Pz M'/\Yw K Pz<Yw K ms)))
  ⟨⟨b8,b9,b10,rfl⟩,mk,⟨[],hd,bc _,by simp⟩,Z7.refl _ _,rfl⟩ (fun ρ M' h=>?_) (λi ρ M1 hi hI=>?_)
 . have e:=len_list la
   simp only[dz,hla] at e;simp[fa,e]
 . refine hG λ_ _k=>?_
   obtain⟨⟨c8,c9,c10,rfl⟩,h1,_,h3,h4⟩:=h;apply _k;exact⟨b3,_,c8,c9,c10,Mg,Ug,rfl,λa o _ x e=>h3 a o x e,g_ h4,.inl ⟨rfl,h1⟩⟩
 . refine hG λ_ _k=>?_
   obtain⟨⟨c8,c9,c10,rfl⟩,h1,⟨kv,k1,k2,k3⟩,h3,h4⟩:=hI;obtain⟨da,fa,la⟩:=h1.row ga;obtain⟨db,fb,lb⟩:=h1.row gb;have ac1:Ac q hs L as M1:=⟨h3 _ _ hqd ac.at_,ac.len,ac.ok⟩;obtain⟨js',ej',fj,_,_⟩:=ac1.get hj;rw[ej] at ej';cases ej';have fa2:=Q6 la (show i<(ms g.a).length by rw[hla];exact hi);have fj2:Am (.vl (js.map nD)) (.int i) M1=some (.int (js.getD i 0)):=Q6 rfl (b_ hi (g_ lj));apply _k;have hy:js.getD i 0<(ms g.b).length:=by rw[h1.len _ gb];exact rj _ (getD_mem' (b_ hi (g_ lj)))
   generalize hy0:js.getD i 0=y at fj2 hy;have fb2:=Q6 lb hy;have hz:=getD_mem' hy;generalize hx0:(ms g.a).getD i 0=x at fa2;generalize hz0:(ms g.b).getD y 0=z at fb2 hz;have gt:=aqq (k:=(x:Int)) (d:=.int z) k1;have ty:=axu k1;have goOn:((vz kv (.inl (x:Int))).getD (.int z)=.int z)->∃ρ1 fl ρ' M',(Tg.name 8).put (.int i) [some (qi K r hs),some (.ref pm),some (.ref q),b3,some (.int j),some (.int g.a),some (.int g.b),some (.ref dd),c8,c9,c10,Mg,Ug]=some ρ1/\Ca.den W ρ1 M1=.ok (fl,ρ') M' /\
    (((fl=.next\/fl=.cont)/\(∃b8 b9 b10,ρ'=[some (qi K r hs),some (.ref pm),some (.ref q),b3,some (.int j),some (.int g.a),some (.int g.b),some (.ref dd),b8,b9,b10,Mg,Ug])/\Mk t pm K L ms M'/\Fd dd (ms g.b) (i+1) M'/\Z7 dd M M'/\M'.length=M.length) \/
      (fl=.brk/\∃c3 c7 c8 c9 c10 c11 c12,ρ'=[some (qi K r hs),some (.ref pm),some (.ref q),c3,some (.int j),some (.int g.a),some (.int g.b),c7,c8,c9,c10,c11,c12]/\Fm pm dd M M'/\M.length<=M'.length /\
       ((c3=b3/\Mk t pm K L ms M')\/(c3=some (.bl true)/\∃Pz,Mk t pm K L Pz M'/\Yw K Pz<Yw K ms)))):=λhg=>by
    rw[hg] at gt;have st:=aqr (k:=(x:Int)) (d:=.int z) k1 (by have:=hL _ ga;exact c_ k2 (b_ hi (a_ hLa (by decide))));refine⟨_,.next,_,M1.set dd (.dK (Cq kv (.inl (x:Int)) (.int z))),rfl,?_,.inl ⟨.inl rfl,⟨some (.int i),some (.int x),some (.int z),rfl⟩,h1.frame (λa o _ ha e=>by rw[su (i_ (c_ ha hpd))];exact e) ht,⟨_,vq k1,?_,?_⟩,h3.trans (Z7.set (bc _)),by simp[h4]⟩⟩
    . simp[-eq_int,Ca,fa,fa2,fb,fj,fj2,fb2,ty,gt,ab3,st]
    . have:=Tc kv (.inl (x:Int)) (.int z);exact a_ this (v_ k2)
    . intro p hp
      rcases V1 hp with w|w
      . exact k3 p w
      . exact⟨z,w,hz⟩
   cases hlk:vz kv (.inl (x:Int)) with
   |none=>exact goOn (by rw[hlk];rfl)
   |some v =>
    refine hG λ_ _k=>?_
    obtain⟨p,hp,rfl⟩:=aez hlk;obtain⟨e,he,hem⟩:=k3 p hp;rw[he] at hlk;apply _k
    by_cases hez:e=z
    . exact goOn (by rw[hlk,hez];rfl)
    . rw[hlk] at gt
      have ix:=aw0 (b:=.int x) k1 rfl;rw[show(Sum.inl (x:Int):Kx)=.inl (x:Int) from rfl,hlk] at ix;have lh:min e z<max e z:=by lia
      have hm:max e z∈ms g.b:=by
       rcases Nat.le_total e z with w|w
       . rw[Nat.max_eq_right w];exact hz
       . rw[Nat.max_eq_left w];exact hem
      have hlo:min e z∈ms g.b:=by
       rcases Nat.le_total e z with w|w
       . rw[Bg w];exact hem
       . rw[Ar w];exact hz
      have rp:=awf (W:=W) (M:=M1) (ρ:=[qi K r hs,D.ref pm,D.ref q,b3,D.int j,D.int g.a,D.int g.b,D.ref dd,D.int i,D.int x,D.int z,D.int (min e z:Nat),D.int (max e z:Nat)]) (x:=6) (y:=13) (lo:=min e z) (hi:=max e z) (by simp[fb]) lb (by rw[h1.len _ gb];have:=hL _ gb;exact a_ this (by decide)) rfl (by decide) rfl rfl;obtain⟨o,so,mk2⟩:=h1.set gb (ns:=Ja (min e z) (max e z) (ms g.b)) (by simp[Ja,h1.len _ gb]) (λy hy=>by
       obtain⟨w,hw,rfl⟩:=bu.mp hy;split
       . exact h1.lt _ gb _ hlo
       . exact h1.lt _ gb _ hw) (ajb (h1.fx _ gb) (λx hx=>by rw[h1.len _ gb];exact h1.lt _ gb x hx) hlo) ht
      have ne:¬((e:Nat)=z):=hez;refine⟨_,.brk,_,M1.set pm o++[.dK []],rfl,?_,.inr ⟨rfl,some (.bl true),some (.ref (M1.set pm o).length),some (.int i),some (.int x),some (.int z),some (.int (min e z:Nat)),some (.int (max e z:Nat)),rfl,λa u na ha q=>?_,by simp;exact a_ (g_ h4) x_,.inr ⟨rfl,_,mk2.frame (λa u _ _ q=>yp q) ht,(aqo (aja lh hm) K).2 gb⟩⟩⟩
      . simp only[Option.getD_some] at gt
        simp[-eq_int,Ca,fa,fa2,fb,fj,fj2,fb2,ty,gt,ab3,ne,ix,ajc,ab4,Mz,rp,so,MW.new]
      . refine yp ?_
        rw[su (jz na)];exact h3 a u ha q
def Fm.trans(a:Fm pm n M M1)(b:Fm pm n M1 M2):Fm pm n M M2:=λx o h l e=>b x o h l (a x o h l e)
def Fm.le(a:Fm pm n M M1)(h:n'<=n):Fm pm n' M M1:=λx o q l e=>a x o q (b_ l h) e
theorem ag5:∀{l:Y3}{c:Nat},(∀x∈l,x<=c)->l.sum<=l.length*c
 |[],_,_=>by simp
 |a::l,c,h=>by
  have h1:=h a (by simp);have h2:=ag5 (λx hx=>h x (bh _ hx));simp only[List.sum_cons,gr,Nat.succ_mul]
  lia
def a2p(mk:Mk t pm K L ms M)(hL:∀e,e<K->L e<=7)(hK:K<=3):Yw K ms<=200:=by
 have:∀x∈(List.range K).map λi=>(ms i).sum,x<=49:=λx hx=>by
  obtain⟨i,hi,rfl⟩:=bu.mp hx;have hi:=il.mp hi;have h1:=ag5 (l:=ms i) (c:=7) (λx hx=>by have:=mk.lt i hi x hx;have:=hL i hi;lia);have h2:=mk.len i hi;have h3:=hL i hi;have h4:(ms i).length*7<=7*7:=Nat.mul_le_mul_right 7 (a_ (f_ h2) h3)
  lia
 have h:=ag5 this;simp only[dz,List.length_range] at h;have h5:K*49<=3*49:=Nat.mul_le_mul_right 49 hK
 unfold Yw
 lia
def aqu(P:Oq sz K hs iw)(mk:Mk t pm K L ms M)(ac:Ac q hs L as M)(hpd:pm<M.length)(hqd:q<M.length)(hqp:q≠pm)(ht:t<pm)(hL:∀e,e<K->L e<=7) :
 ∃ρ' M',Nf.den W [qi K r hs,D.ref pm,D.ref q,b3,b4,b5,b6,b7,b8,b9,b10,Mg,Ug] M=.ok (.next,ρ') M' /\
  ∃c3 c4 c5 c6 c7 c8 c9 c10 c11 c12 Pz,ρ'=[some (qi K r hs),some (.ref pm),some (.ref q),c3,c4,c5,c6,c7,c8,c9,c10,c11,c12]/\Fm pm M.length M M'/\M.length<=M'.length/\Mk t pm K L Pz M'/\((c3=b3/\Pz=ms)\/(c3=some (.bl true)/\Yw K Pz<Yw K ms)):=by
 have hl:=P.len;refine ym (W:=W) (t:=.name 4) (b:=Dn) (it:=.blt .len (.o (.ix (.v 0) (.i 1)))) (n:=hs.length) (M1:=M) (by simp[Ni,Ot]) (a_ hl (by decide))
  (λn ρ' M'=>∃c3 c4 c5 c6 c7 c8 c9 c10 c11 c12 Pz,ρ'=[some (qi K r hs),some (.ref pm),some (.ref q),c3,c4,c5,c6,c7,c8,c9,c10,c11,c12]/\Fm pm M.length M M'/\M.length<=M'.length/\Mk t pm K L Pz M'/\((c3=b3/\Pz=ms)\/(c3=some (.bl true)/\Yw K Pz<Yw K ms)))
  ⟨b3,b4,b5,b6,b7,b8,b9,b10,Mg,Ug,ms,rfl,λ_ _ _ _ e=>e,bc _,mk,.inl ⟨rfl,rfl⟩⟩ (λj ρ M1 hj hI=>?_)
 refine hG λ_ _k=>?_
 obtain⟨c3,c4,c5,c6,c7,c8,c9,c10,c11,c12,m1,rfl,f1,l1,k1,o1⟩:=hI;have hjg:hs[j]?=some hs[j]:=by simp[hj]
 have hg:=au hjg;have k2:Mk t pm K L m1 (M1++[.dK []]):=k1.frame (λa o _ _ e=>yp e) ht;have ac2:Ac q hs L as (M1++[.dK []]):=⟨yp (f1 _ _ hqp hqd ac.at_),ac.len,ac.ok⟩;obtain⟨ρ2,M2,e2,d3,d7,d8,d9,d10,d11,d12,rfl,f2,l2,o2⟩:=aqs (W:=W) (r:=r) (dd:=M1.length) (b3:=c3) (b8:=c8) (b9:=c9) (b10:=c10) (Mg:=c11) (Ug:=c12) k2 ac2 hjg (P.acx _ hg) (P.acy _ hg) (by simp) (b_ hpd l1) (b_ hqd l1) hqp ht hL;have f3:Fm pm M.length M M2:=λa o na ha e=>f2 a o na (b_ ha l1) (yp (f1 a o na ha e))
 apply _k;have l3:M.length<=M2.length:=by simp at l2;lia
 have pe:∀ρ,(Tg.names [5,6]).put (eD hs[j]) ρ=some ((ρ.set 5 (some (.int hs[j].a))).set 6 (some (.int hs[j].b))):=λ_=>rfl
 have run:Dn.den W [qi K r hs,D.ref pm,D.ref q,c3,D.int j,c5,c6,c7,c8,c9,c10,c11,c12] M1=.ok (.next,[some (qi K r hs),some (.ref pm),some (.ref q),d3,some (.int j),some (.int hs[j].a),some (.int hs[j].b),d7,d8,d9,d10,d11,d12]) M2:=by simp[Dn,Ni,Ru hjg,pe,MW.new,e2]
 refine⟨_,.next,_,M2,rfl,run,.inl rfl,?_⟩;rcases o2 with⟨rfl,k3⟩|⟨rfl,m2,k3,t3⟩
 . rcases o1 with⟨rfl,rfl⟩|⟨rfl,t1⟩
   . exact⟨_,_,_,_,_,_,_,_,_,_,m1,rfl,f3,l3,k3,.inl ⟨rfl,rfl⟩⟩
   . exact⟨_,_,_,_,_,_,_,_,_,_,m1,rfl,f3,l3,k3,.inr ⟨rfl,t1⟩⟩
 . refine⟨_,_,_,_,_,_,_,_,_,_,m2,rfl,f3,l3,k3,.inr ⟨rfl,?_⟩⟩
   rcases o1 with⟨_,rfl⟩|⟨_,t1⟩<;>omega
def ak8(hm:1<=m)(P:Oq sz K hs iw)(mk:Mk t pm K L ms M)(ac:Ac q hs L as M)(hpd:pm<M.length)(hqd:q<M.length)(hqp:q≠pm)(ht:t<pm)(hL:∀e,e<K->L e<=7) :
 ∃Pz M',prog.call m 26 [qi K r hs,.ref pm,.ref q] M=.ok (.ref pm) M'/\Mk t pm K L Pz M'/\Fm pm M.length M M'/\M.length<=M'.length:=by
 rw[call_of hm rfl];obtain⟨ρ',M',e,Pz,k1,f1,l1,c,hρ⟩:∃ρ' M',G8.den ⟨prog.call (m-1),prog.cls⟩ [qi K r hs,D.ref pm,D.ref q,D.bl true,none,none,none,none,none,none,none,none,none] M=.ok (.next,ρ') M' /\
  ∃Pz,Mk t pm K L Pz M'/\Fm pm M.length M M'/\M.length<=M'.length/\∃c:Env,ρ'=[some (qi K r hs),some (.ref pm)]++c:=by
  unfold G8;rw[aap];refine Pj (λm ρ M'=>∃(Pz:Nat->List Nat)(b:Bool)(c:Env),ρ=[some (qi K r hs),some (.ref pm),some (.ref q),some (.bl b)]++c/\c.length=9/\Mk t pm K L Pz M'/\Fm pm M.length M M'/\M.length<=M'.length/\m=(if b then Yw K Pz+1 else 0))
   (fun ρ' M'=>∃Pz,Mk t pm K L Pz M'/\Fm pm M.length M M'/\M.length<=M'.length/\∃c:Env,ρ'=[some (qi K r hs),some (.ref pm)]++c) (λn ρ M1 hI=>?_) afz (Yw K ms+1) _ M (by have:=a2p mk hL P.k3;show Yw K ms+1<1000000;lia)
   ⟨ms,true,[none,none,none,none,none,none,none,none,none],rfl,rfl,mk,λ_ _ _ _ e=>e,bc _,rfl⟩
  obtain⟨m1,b,c,rfl,hc,k1,f1,l1,rfl⟩:=hI
  match c,hc with
  |[c4,c5,c6,c7,c8,c9,c10,c11,c12],_ =>
  cases b with
  |false=>exact .inl ⟨M1,rfl,m1,k1,f1,l1,_,rfl⟩
  |true =>
   right
   obtain⟨ρ2,M2,e2,d3,d4,d5,d6,d7,d8,d9,d10,d11,d12,m2,rfl,f2,l2,k2,o2⟩:=aqu (W:=⟨prog.call (m-1),prog.cls⟩) (r:=r) (as:=as) P k1 (⟨f1 _ _ hqp hqd ac.at_,ac.len,ac.ok⟩:Ac q hs L as M1) (b_ hpd l1) (b_ hqd l1) hqp ht hL (b3:=some (.bl false)) (b4:=c4) (b5:=c5) (b6:=c6) (b7:=c7) (b8:=c8) (b9:=c9) (b10:=c10) (Mg:=c11) (Ug:=c12);have f3:Fm pm M.length M M2:=f1.trans (f2.le l1);have run:G7.den ⟨prog.call (m-1),prog.cls⟩ [qi K r hs,D.ref pm,D.ref q,D.bl true,c4,c5,c6,c7,c8,c9,c10,c11,c12] M1=.ok (.next,[some (qi K r hs),some (.ref pm),some (.ref q),d3,d4,d5,d6,d7,d8,d9,d10,d11,d12]) M2:=by simp[G7,e2]
   rcases o2 with⟨rfl,rfl⟩|⟨rfl,t3⟩
   . exact⟨M1,.next,_,M2,0,rfl,run,.inl rfl,by simp,m2,false,[d4,d5,d6,d7,d8,d9,d10,d11,d12],rfl,rfl,k2,f3,a_ l1 l2,rfl⟩
   . exact⟨M1,.next,_,M2,Yw K m2+1,rfl,run,.inl rfl,by simp;exact t3,m2,true,[d4,d5,d6,d7,d8,d9,d10,d11,d12],rfl,rfl,k2,f3,a_ l1 l2,rfl⟩
 subst hρ;refine⟨Pz,M',?_,k1,f1,l1⟩;simp only[za,xx] at e;simp[Fn.run,Qg,Qf,e]
theorem Xw{x y:Int}:∀{l:Xs},x∈insI y l↔x=y\/x∈l
 |[]=>by simp[insI]
 |a::l=>by
  unfold insI;split
  . simp
  . simp only[bw,Xw]
    constructor
    . rintro(h|h|h)
      . exact .inr (.inl h)
      . exact .inl h
      . exact .inr (.inr h)
    . rintro(h|h|h)
      . exact .inr (.inl h)
      . exact .inl h
      . exact .inr (.inr h)
theorem Hs{x:Int}:∀{l:Xs},x∈sortI l↔x∈l
 |[]=>by simp[sortI]
 |a::l=>by
  have h:=Hs (x:=x) (l:=l);show x∈insI a (sortI l)↔_;rw[Xw,h];simp
set_option tactic.hygienic true in
theorem Ht{x:Int}:∀{l:Xs},x∈Al l↔x∈l
 |[]=>by simp[Al]
 |a::l=>by
  have h:=Ht (x:=x) (l:=l);unfold Al;split
  . rename_i z
    rw[h];simp only[bw];exact⟨.inr,λq=>q.elim (λe=>e▸z) id⟩
  . simp only[bw,h]
theorem ae3(y:Int):∀l:List Int,(insI y l).length=l.length+1
 |[]=>rfl|a::l=>by unfold insI;split<;>simp[ae3 y l]
theorem Z8:∀l:List Int,(sortI l).length=l.length
 |[]=>rfl|a::l=>by show(insI a (sortI l)).length=_;rw[ae3,Z8 l];rfl
theorem Z9:∀l:List Int,(Al l).length<=l.length
 |[]=>bc _|a::l=>by have:=Z9 l;unfold Al;split<;>simp<;>omega
theorem ajd:∀l:List Nat,Y9 (l.map nD)=some (l.map λ(x:Nat)=>(x:Int))
 |[]=>rfl|a::l=>by show(Y9 (l.map nD)).map _=_;rw[ajd l];rfl
theorem aje{y:Int}:∀{l:Xs},l.Nodup->y∉l->(insI y l).Nodup
 |[],_,_=>by simp[insI]
 |a::l,h,hy=>by
  have h1:=m9.mp h;have h2:y≠a/\y∉l:=by simpa using hy
  unfold insI;split
  . exact m9.mpr ⟨hy,h⟩
  . refine m9.mpr ⟨λz=>?_,aje h1.2 h2.2⟩
    rcases Xw.mp z with z|z
    . exact h2.1 z.symm
    . exact h1.1 z
theorem ae4:∀{l:Xs},l.Nodup->(sortI l).Nodup
 |[],_=>xf
 |a::l,h=>by
  have h1:=m9.mp h;exact aje (ae4 h1.2) (λz=>h1.1 (Hs.mp z))
set_option tactic.hygienic true in
theorem Xx:∀l:List Int,(Al l).Nodup
 |[]=>xf
 |a::l=>by
  unfold Al;split
  . exact Xx l
  . rename_i h
    exact m9.mpr ⟨λz=>h (Ht.mp z),Xx l⟩
def ag6{l:Y3}(h:fu M d=some (l.map nD))(hz:l.length<31):∃hl:List Nat,uh .Gi [d] M=.ok (.vl (hl.map nD)) M/\hl.length<=l.length/\hl.Nodup/\∀x,x∈hl↔x∈l:=by
 refine⟨(sortI (Al (l.map λ(x:Nat)=>(x:Int)))).map Int.toNat,?_,?_,?_,λx=>?_⟩
 . show Res.u9 (((fu M d).bind Y9).bind λis=>if is.length<31 then some (D.vl ((sortI (Al is)).map D.int)) else none) M=_
   rw[h,uo,ajd,uo,cg (by simpa using hz)];have:((sortI (Al (l.map λ(x:Nat)=>(x:Int)))).map Int.toNat).map nD=(sortI (Al (l.map λ(x:Nat)=>(x:Int)))).map D.int:=by rw[tu];apply qd;intro y hy;rw[Hs,Ht] at hy;obtain⟨z,_,rfl⟩:=bu.mp hy;simp[nD]
   rw[this];rfl
 . rw[dz,Z8]
   have:=Z9 (l.map λ(x:Nat)=>(x:Int));simpa using this
 . have nd:=ae4 (Xx (l.map λ(x:Nat)=>(x:Int)))
   rw[Ad,List.pairwise_map];refine List.Pairwise.imp_of_mem (fun{a b} ha hb hab e=>hab ?_) (Ad.mp nd);rw[Hs,Ht] at ha hb;obtain⟨x,_,rfl⟩:=bu.mp ha;obtain⟨y,_,rfl⟩:=bu.mp hb;simp only[uw] at e;rw[e]
 . constructor
   . intro h
     obtain⟨y,hy,rfl⟩:=bu.mp h;rw[Hs,Ht] at hy;obtain⟨z,hz,rfl⟩:=bu.mp hy;simpa using hz
   . intro h
     refine bu.mpr ⟨(x:Int),?_,by simp⟩;rw[Hs,Ht];exact bu.mpr ⟨x,h,rfl⟩
def ak9(hρ:ρ.length=19)(h3:ρ[3]?=some (some (.vl (lz p K))))(h:RS p K rs M)(hK:K<=3)(h7:∀e,e<K->(rs e).length<=7)(ht:t<M.length) :
 ∃M',Ik.den W ρ M=.ok (.ref (M.length+K)) M'/\Mk t (M.length+K) K (λe=>(rs e).length) (λe=>List.range (rs e).length) M'/\zc M M'/\M'.length=M.length+K+1:=by
 unfold Ik;obtain⟨ys,M1,e,r1,r2,r3,r4⟩:=Gk (W:=W) (v:=false) (k:=1) (t:=.name 19) (it:=.v 3) (e:=.afw (.l (.v 19))) (ρ:=ρ) (M:=M) (M1:=M) (d:=.vl (lz p K)) (ds:=lz p K) (by simp[h3]) rfl (by simp[lz];exact a_ hK (by decide))
  (λi xs M'=>xs=lz M.length i/\(∀e,e<i->M'[M.length+e]?=some (.lst ((List.range (rs e).length).map nD)))/\zc M M'/\M'.length=M.length+i) ⟨rfl,λe he=>absurd he (yc _),zc.refl M,rfl⟩ (λ_ _ _ _=>rfl)
  (λi y xs M' hy hI=>by
   obtain⟨rfl,q1,q2,q3⟩:=hI;have hi:i<K:=by have:=(ak.mp hy).1;simpa[lz] using this
   obtain rfl:D.ref (p+i)=y:=by simpa[lz,hi] using hy
   have ln:=len_list (o4 (q2 _ _ (h i hi)));have e1:(ρ++List.replicate 1 none).set 19 (some (.ref (p+i)))=ρ++[some (.ref (p+i))]:=by rw[Bf];simp[hρ]
   have g9:(ρ++[some (D.ref (p+i))])[19]?=some (some (.ref (p+i))):=by rw[<- hρ];simp
   refine⟨_,.ref M'.length,M'++[.lst ((List.range (rs i).length).map nD)],rfl,?_,?_,λe he=>?_,q2.trans (zc.app _ _),by simp[q3];exact rfl⟩
   . have h8:=h7 i hi
     have h9:(rs i).length<=100000:=a_ h8 (by decide)
     rw[e1];simp[g9,ln,h9,MW.new,nD]
   . simp[lz,v8,q3]
   . by_cases z:e=i
     . subst z;rw[<- q3];simp
     . exact yp (q1 e (by lia)))
 have hlr:(lz p K).length=K:=by simp[lz]
 rw[hlr] at r1 r2 r4;refine⟨M1++[.lst ys],by rw[e];simp[MW.new,r4],⟨⟨ys,by rw[<- r4];simp,by rw[r1];simp[lz],λi hi=>?_⟩,λi hi=>by simp,λi hi x hx=>il.mp hx,λi hi x hx=>by simp[il.mp hx]⟩,r3.trans (zc.app _ _),by simp[r4]⟩;refine⟨.ref (M.length+i),by rw[r1];simp[lz,hi],o4 (yp (r2 i hi)),λa q=>?_⟩;cases q;exact⟨b_ ht x_,H_ hi⟩
def Mk.st(h:Mk t pm K L ms M)(s:St t f M M')(ht:t<pm):Mk t pm K L ms M':=h.frame (λa o ha _ e=>s.keep a o (i_ ha) e) ht
def Ac.of(h:Ac q hs L as M)(k:∀o,M[q]?=some o->M'[q]?=some o):Ac q hs L as M':=⟨k _ h.at_,h.len,h.ok⟩
def awj(hm:1<=m)(P:Oq sz K hs iw)(hh:Ur t f M)(mk:Mk t pm K L ms M)(ac:Ac q hs L as M)(htp:t<p)(hp:p<=pm)(hpd:pm<M.length)(hq:p<=q)(hqp:q≠pm)(hqd:q<M.length)(hL:∀e,e<K->L e<=7) :
 ∃c5 c11 c12 c14 c15 Pz M',Cu.den ⟨prog.call m,prog.cls⟩ [D.ref t,qi K r hs,a2,a3,b4,b5,b6,b7,b8,D.ref q,b10,Mg,Ug,D.ref pm,b14,b15,n16,n17,n18] M =
  .ok (.next,[some (.ref t),some (qi K r hs),a2,a3,b4,c5,b6,b7,b8,some (.ref q),b10,c11,c12,some (.ref pm),c14,c15,n16,n17,n18]) M'/\Mk t pm K L Pz M'/\Ac q hs L as M'/\Gs t f p M M':=by
 refine hG λ_ _k=>?_
 have h3:=P.k3;obtain⟨k,M1,e1,l1,s1,n1⟩:=Ai (many:=K) hm hh (by have:=P.k1;exact m_ this) (m_ (c_ h3 (by decide)));obtain⟨x,M2,e2,l2,s2,n2⟩:=Ai (many:=7) hm s1.has (by decide) (by decide);obtain⟨y,M3,e3,l3,s3,n3⟩:=Ai (many:=7) hm s2.has (by decide) (by decide);have hk:k<K:=o_ l1
 have s:=s1.trans (s2.trans s3);have mk3:=mk.st s (b_ htp hp);have ac3:Ac q hs L as M3:=ac.of λo e=>s.keep _ _ (i_ (b_ htp hq)) e
 obtain⟨dk,fk,lk⟩:=mk3.row hk;have hlk:=mk3.len _ hk;have ln:=len_list lk;simp only[dz,hlk] at ln;have mx:=ab4 M3 x y;apply _k
 by_cases c:max x y<L k
 . have c':((max x y:Nat):Int)<(L k:Int):=m_ c
   have hx:x<(ms k).length:=by lia
   have hy:y<(ms k).length:=by lia
   have ix:=Q6 lk hx;have iy:=Q6 lk hy;have hxm:=getD_mem' hx;have hym:=getD_mem' hy;generalize hx0:(ms k).getD x 0=u at ix hxm;generalize hy0:(ms k).getD y 0=w at iy hym;have hlo:min u w∈ms k:=by
    rcases Nat.le_total u w with z|z
    . rw[Bg z];exact hxm
    . rw[Ar z];exact hym
   have rp:=ae2 (W:=⟨prog.call m,prog.cls⟩) (M:=M3) (ρ:=[D.ref t,qi K r hs,a2,a3,b4,D.int k,b6,b7,b8,D.ref q,b10,D.int x,D.int y,D.ref pm,D.int (min u w:Nat),D.int (max u w:Nat),n16,n17,n18]) (v:=13) (x:=5) (y:=19) (a:=14) (b:=15) (lo:=min u w) (hi:=max u w) (by simp[fk]) lk (by have:=hL _ hk;exact a_ (f_ hlk) (a_ this (by decide))) rfl rfl rfl;obtain⟨o,so,mk4⟩:=mk3.set hk (ns:=Ja (min u w) (max u w) (ms k)) (by simp[Ja,hlk]) (λz hz=>by
    obtain⟨v,hv,rfl⟩:=bu.mp hz;split
    . exact mk3.lt _ hk _ hlo
    . exact mk3.lt _ hk _ hv) (ajb (mk3.fx _ hk) (λx hx=>by rw[hlk];exact mk3.lt _ hk x hx) hlo) (b_ htp hp)
   have ac4:Ac q hs L as (M3.set pm o):=ac3.of λo e=>by rw[su (jz hqp)];exact e
   refine hG λ_ _k=>?_
   have hl3:M3.length=M.length:=u_ (a_ (f_ n3) (a_ (f_ n2) (f_ n1))) (a_ (g_ n1) (a_ (g_ n2) (g_ n3)));obtain⟨Pz,M5,e5,mk5,f5,l5⟩:=ak8 (r:=r) (M:=M3.set pm o) hm P mk4 ac4 (by simp;exact b_ hpd (g_ hl3)) (by simp;exact b_ hqd (g_ hl3)) hqp (b_ htp hp) hL;have ac5:Ac q hs L as M5:=ac4.of λo e=>f5 _ _ hqp (by simp;exact b_ hqd (g_ hl3)) e
   apply _k;refine⟨some (.int k),some (.int x),some (.int y),some (.int (min u w:Nat)),some (.int (max u w:Nat)),Pz,M5,?_,mk5,ac5,⟨?_,λa v ha na e=>?_,by simp at l5;exact a_ (g_ hl3) l5⟩⟩
   . simp[Cu,La,e1,e2,e3,mx,fk,ln,c',ix,iy,ajc,ab4,Oc,rp,so,e5]
   . obtain⟨n,hn,ho⟩:=s.has
     exact⟨n,f5 _ _ (h_ (b_ htp hp)) (by have:=ye hn;simp;exact this) (by rw[su (i_ (b_ htp hp))];exact hn),ho⟩
   . refine f5 _ _ (h_ (b_ ha hp)) (by have:=ye e;simp;exact b_ this (g_ hl3)) ?_
     rw[su (i_ (b_ ha hp))];exact s.keep a v na e
 . have c':¬((max x y:Nat):Int)<(L k:Int):=by lia
   refine⟨some (.int k),some (.int x),some (.int y),b14,b15,ms,M3,?_,mk3,ac3,Gs.aey s⟩;simp[Cu,La,e1,e2,e3,mx,fk,ln,c']
noncomputable def gh(Ld:Y3)(Yx:List (List Nat)):D:=.tup [.tup (Ld.map nD),.tup (Yx.map λjs=>.tup (js.map nD))]
def a2q(h:.int v∈ds):ixI v ds<ds.length:=by
 unfold ixI;cases q:ds.findIdx? (λd=>match d with|.int i=>decide (i=v)|_=>false) with
 |some j=>exact(um.mp q).1
 |none =>
  rw[xu] at q;have:=q _ h;simp at this
noncomputable def ixo(l:Y3)(x:Nat):Nat:=ixI (x:Int) (l.map nD)
noncomputable def a9r(ms:Nat->List Nat)(g:F)(js la lb:Y3):List Nat:=la.map λth=>ixo lb ((ms g.b).getD (js.getD th 0) 0)
structure WOk(K:Nat)(hs:List F)(Ld:Y3)(Yx:List (List Nat)):Prop where
 ls:Ld.length=K
 la:Yx.length=hs.length
 sm:∀x∈Ld,x<=7
 ok:∀(j:Nat)(g:F)(js:Y3),hs[j]?=some g->Yx[j]?=some js->js.length=Ld.getD g.a 0/\∀x∈js,x<Ld.getD g.b 0
noncomputable def Uh(l:Y3):D:=.vl (l.map nD)
def aqv(hρ:ρ.length=19)(h13:ρ[13]?=some (some (.ref pm)))(mk:Mk t pm K L ms M)(hK:K<=3)(h7:∀i,i<K->L i<=7) :
 ∃hl:List (List Nat),Ij.den W ρ M=.ok (.vl (hl.map Uh)) M/\hl.length=K/\∀e l,hl[e]?=some l->l.length<=L e/\l.Nodup/\∀x,x∈l↔x∈ms e:=by
 obtain⟨mds,h1,h2,h3⟩:=mk.ex;unfold Ij;obtain⟨ys,M',e,rfl,hl,r1,r2,r3⟩:=Gk (W:=W) (v:=true) (k:=1) (t:=.name 19) (it:=.v 13) (e:=.blt .Gi (.o (.v 19))) (ρ:=ρ) (M:=M) (M1:=M) (d:=.ref pm) (ds:=mds) (by simp[h13]) (o4 h1) (a_ (f_ h2) (a_ hK (by decide)))
  (λi xs M'=>M'=M/\∃hl:List (List Nat),xs=hl.map Uh/\hl.length=i/\∀e l,hl[e]?=some l->l.length<=L e/\l.Nodup/\∀x,x∈l↔x∈ms e) ⟨rfl,[],rfl,rfl,by simp⟩ (λi xs M' h=>by rw[h.1];exact o4 h1)
  (λi y xs M' hy hI=>by
   obtain⟨rfl,hl,rfl,q1,q2⟩:=hI;have hi:i<K:=by have:=(ak.mp hy).1;exact b_ this (f_ h2)
   obtain⟨d,g1,g2,_⟩:=h3 i hi;rw[hy] at g1;cases g1;obtain⟨l,k1,k2,k4,k3⟩:=ag6 g2 (by have:=h7 i hi;have:=mk.len i hi;lia);have e1:(ρ++List.replicate 1 none).set 19 (some y)=ρ++[some y]:=by rw[Bf];simp[hρ]
   have g9:(ρ++[some y])[19]?=some (some y):=by rw[<- hρ];simp
   refine⟨_,Uh l,M',rfl,by rw[e1];simp[g9,k1,Uh],rfl,hl++[l],by simp,by simp[q1],λe l' he=>?_⟩
   by_cases z:e<hl.length
   . rw[du z] at he;exact q2 e l' he
   . have ze:e=i:=by have:=(ak.mp he).1;simp at this;lia
     subst ze;rw[jg (s_ z),q1] at he;simp at he;subst he;rw[<- mk.len e hi];exact⟨k2,k4,k3⟩)
 refine⟨hl,by rw[e,r1];rfl,r2.trans h2,r3⟩
def aqw{hl:List (List Nat)}{i:Nat}(h:hl[i]?=some l):Am (.vl (hl.map Uh)) (.int i) M=some (Uh l):=Ce rfl q_ (by simp[h])
def alc{hl:List (List Nat)}(mk:Mk t pm K L ms M)(ac:Ac q hs L as M){j:Nat}(hj:hs[j]?=some g)(ej:as[j]?=some js)(ga:g.a<K)(gb:g.b<K)(h1:hl[g.a]?=some la)(h2:hl[g.b]?=some lb)(hma:∀x,x∈la↔x∈ms g.a)(hmb:∀x,x∈lb↔x∈ms g.b)(h7:la.length<=7)(hw:M[w]?=some (.lst td))(htd:td.length<100000) :
 ∃(c18:Option D)(zs:Y3),Ej.den W [a0,qi K r hs,a2,a3,b4,b5,b6,b7,b8,D.ref q,D.int j,Mg,Ug,D.ref pm,b14,b15,D.vl (hl.map Uh),D.ref w,b18] M =
  .ok (.next,[a0,some (qi K r hs),a2,a3,b4,b5,b6,b7,b8,some (.ref q),some (.int j),some (.int g.a),some (.int g.b),some (.ref pm),b14,b15,some (.vl (hl.map Uh)),some (.ref w),c18]) (M.set w (.lst (td++[.tup (zs.map nD)])))/\zs=a9r ms g js la lb/\zs.length=la.length/\∀x∈zs,x<lb.length:=by
 obtain⟨js',ej',fj,lj,rj⟩:=ac.get hj;rw[ej] at ej';cases ej';obtain⟨db,fb,lbm⟩:=mk.row gb;have hz:∀th∈la,js.getD th 0<(ms g.b).length/\th<js.length:=λth h=>by
  have h3:=mk.lt _ ga th ((hma th).mp h);have h4:th<js.length:=b_ h3 (g_ lj)
  exact⟨by rw[mk.len _ gb];exact rj _ (getD_mem' h4),h4⟩
 have c3:Ii.den W [a0,qi K r hs,a2,a3,b4,b5,b6,b7,b8,D.ref q,D.int j,D.int g.a,D.int g.b,D.ref pm,b14,b15,D.vl (hl.map Uh),D.ref w,b18] M=.ok (Uh (la.map λth=>(ms g.b).getD (js.getD th 0) 0)) M:=by
  unfold Ii;rw[Az (d:=Uh la) (ds:=la.map nD) (M1:=M) (g:=λd=>match d with|.int o=>nD ((ms g.b).getD (js.getD o.toNat 0) 0)|_=>.non) (by simp[aqw h1]) rfl (by simp;exact a_ h7 (by decide)) (λz hz'=>by
   obtain⟨th,hth,rfl⟩:=bu.mp hz';obtain⟨k1,k2⟩:=hz th hth;refine⟨_,rfl,?_⟩;have i1:Am (.vl (js.map nD)) (.int th) M=some (.int (js.getD th 0)):=Q6 rfl k2;have i2:=Q6 lbm k1;show(Ex.ix (.ix (.v 13) (.v 12)) (.ix (.ix (.v 9) (.v 10)) (.v 19))).den W [a0,qi K r hs,a2,a3,b4,b5,b6,b7,b8,D.ref q,D.int j,D.int g.a,D.int g.b,D.ref pm,b14,b15,D.vl (hl.map Uh),D.ref w,b18,D.int th] M=.ok (nD ((ms g.b).getD (js.getD (th:Int).toNat 0) 0)) M;rw[uw];generalize js.getD th 0=yy at i1 i2;generalize(ms g.b).getD yy 0=zz at i2;simp[fb,fj,i1,i2,nD])]
  simp[Uh,nD]
 have Yg:∀z∈la.map (λth=>(ms g.b).getD (js.getD th 0) 0),.int (z:Int)∈lb.map nD:=λz h=>by obtain⟨th,hth,rfl⟩:=bu.mp h;exact bu.mpr ⟨_,(hmb _).mpr (getD_mem' (hz th hth).1),rfl⟩
 generalize ald:la.map (λth=>(ms g.b).getD (js.getD th 0) 0)=row at c3 Yg;have hrl:row.length=la.length:=by rw[<- ald];simp
 have c2:Ih.den W [a0,qi K r hs,a2,a3,b4,b5,b6,b7,b8,D.ref q,D.int j,D.int g.a,D.int g.b,D.ref pm,b14,b15,D.vl (hl.map Uh),D.ref w,Uh row] M=.ok (.vl ((row.map λ(z:Nat)=>ixI (z:Int) (lb.map nD)).map nD)) M:=by
  unfold Ih;rw[Az (d:=Uh row) (ds:=row.map nD) (M1:=M) (g:=λd=>match d with|.int o=>nD (ixI o (lb.map nD))|_=>.non) (by simp) rfl (by simp;exact a_ (f_ hrl) (a_ h7 (by decide))) (λz hz'=>by
   obtain⟨o,ho,rfl⟩:=bu.mp hz';refine⟨_,rfl,?_⟩;have i1:=aqh (M:=M) (ds:=lb.map nD) (v:=(o:Int)) (λd hd=>by obtain⟨x,_,rfl⟩:=bu.mp hd;exact⟨_,rfl⟩) (Yg o ho);show(Ex.bm .index (.ix (.v 16) (.v 12)) (.o (.v 19))).den W [a0,qi K r hs,a2,a3,b4,b5,b6,b7,b8,D.ref q,D.int j,D.int g.a,D.int g.b,D.ref pm,b14,b15,D.vl (hl.map Uh),D.ref w,Uh row,D.int o] M=_;simp[aqw h2,Uh,Qp,i1,nD])]
  simp[nD]
 refine⟨some (Uh row),row.map λ(z:Nat)=>ixI (z:Int) (lb.map nD),?_,by rw[<- ald,tu];rfl,by simp[hrl],λx hx=>?_⟩
 . have pe:∀ρ,(Tg.names [11,12]).put (eD g) ρ=some ((ρ.set 11 (some (.int g.a))).set 12 (some (.int g.b))):=λ_=>rfl
   have ap:=Jm (d:=.tup ((row.map λ(z:Nat)=>ixI (z:Int) (lb.map nD)).map nD)) hw htd;simp only[tu] at c2 ap ⊢;simp[-List.map_map,Ej,Ni,Ru hj,pe,c3,c2,J7 hw,aay,ap]
 . obtain⟨z,hz',rfl⟩:=bu.mp hx
   have:=a2q (Yg z hz');simpa using this
def ae5(hm:2<=m)(P:Oq sz K hs iw)(hh:Ur t f M)(hr:M[r]?=some (.dT iw))(hrt:r≠t) :
 ∃Ld Yx M',prog.call m 27 [.ref t,qi K r hs,.int 3] M=.ok (gh Ld Yx) M'/\WOk K hs Ld Yx/\St t f M M':=by
 rw[call_of (a_ (by decide) hm) rfl];have h3:=P.k3;have hl:=P.len;have ht:t<M.length:=by obtain⟨n,h,_⟩:=hh;exact ye h
 have hrl:=ye hr;have r0:=aqi (W:=⟨prog.call (m-1),prog.cls⟩) (M:=M) (K:=K) (y:=19) (e:=.ix (.v 1) (.i 0)) (ρ:=[D.ref t,qi K r hs,D.int 3,none,none,none,none,none,none,none,none,none,none,none,none,none,none,none,none]) rfl (by simp[La]) (a_ h3 (by decide));have g0:Gs t f M.length M (M++List.replicate K (.lst [])):=Gs.app hh (bc _) _;have w0:Rw hs K M.length [] (M++List.replicate K (.lst [])):=⟨λi hi=>by
  rw[jg x_];simp[rowsOf,hi],by simp,by simp[rowsOf],xf⟩
 refine hG λ_ _k=>?_
 obtain⟨v,M1,e1,l1,s1,n1⟩:=Ai (many:=4) (m:=m-1) (r_ hm) g0.has (by decide) (by decide);obtain⟨ρ2,M2,e2,⟨b4,b5,b6,b7,b8,rfl⟩,ad,w2,Yh,g2,n2⟩:=ym (W:=⟨prog.call (m-1),prog.cls⟩) (t:=.name 4) (b:=Cv) (it:=.call 14 (.p (.v 0) (.bin .add (.v 2) (.i 1)))) (n:=v)
  (ρ:=[some (.ref t),some (qi K r hs),some (.int 3),some (.vl (lz M.length K)),none,none,none,none,none]++[none,none,none,none,none,none,none,none,none,none]) (M:=M++List.replicate K (.lst [])) (M1:=M1) (by simp[e1]) (e_ (b_ (o_ l1) (by decide)))
  (λi ρ M'=>(∃b4 b5 b6 b7 b8:Option D,ρ=[some (.ref t),some (qi K r hs),some (.int 3),some (.vl (lz M.length K)),b4,b5,b6,b7,b8]++[none,none,none,none,none,none,none,none,none,none])/\∃ad,Rw hs K M.length ad M'/\(∀q∈ad,q.1<i)/\Gs t f M.length M M'/\M'.length=M.length+K)
  ⟨⟨none,none,none,none,none,rfl⟩,[],⟨w0.rs.keep s1 ht,w0.kd,w0.le,w0.nd⟩,by simp,g0.trans (Gs.aey s1),by simp at n1;exact n1⟩
  (λi ρ M2 hi hI=>by
   refine hG λ_ _k=>?_
   obtain⟨⟨b4,b5,b6,b7,b8,rfl⟩,ad,q1,hn,q2,q3⟩:=hI;obtain⟨c5,c6,c7,c8,ad',M3,e3,k1,Pg,k2,k3⟩:=awc (m:=m-1) (r:=r) (n:=i) (r_ hm) P q2.has ht q1 hn (b5:=b5) (b6:=b6) (b7:=b7) (b8:=b8) (rest:=[none,none,none,none,none,none,none,none,none,none]) rfl;apply _k;exact⟨_,.next,_,M3,rfl,e3,.inl rfl,⟨some (.int i),c5,c6,c7,c8,rfl⟩,ad',k1,Pg,q2.trans k2,k3.trans q3⟩)
 apply _k;refine hG λ_ _k=>?_
 have hM2:=n2;obtain⟨ρ3,M3,e3,⟨b10,Mg,Ug,rfl⟩,as,a3,a4,a5,w3,g3,n3⟩:=ym (W:=⟨prog.call (m-1),prog.cls⟩) (t:=.name 10) (b:=Im) (it:=.blt .len (.o (.ix (.v 1) (.i 1)))) (n:=hs.length)
  (ρ:=[D.ref t,qi K r hs,D.int 3,D.vl (lz M.length K),b4,b5,b6,b7,b8,D.ref M2.length,none,none,none,none,none,none,none,none,none]) (M:=M2++[.lst []]) (M1:=M2++[.lst []]) (by simp[Ni,Ot]) (a_ hl (by decide))
  (λj ρ M'=>(∃b10 Mg Ug:Option D,ρ=[some (.ref t),some (qi K r hs),some (.int 3),some (.vl (lz M.length K)),b4,b5,b6,b7,b8,some (.ref M2.length),b10,Mg,Ug,none,none,none,none,none,none]) /\
   ∃as:List (List Nat),M'[M2.length]?=some (.lst (as.map λjs=>.vl (js.map nD)))/\as.length=j/\(∀(j:Nat)(g:F)(js:Y3),hs[j]?=some g->as[j]?=some js->Ae hs iw ad j g js)/\Rw hs K M.length ad M'/\Gs t f M.length M M'/\M'.length=M2.length+1)
  ⟨⟨none,none,none,rfl⟩,[],by simp,rfl,by simp,⟨λi hi=>yp (w2.rs i hi),w2.kd,w2.le,w2.nd⟩,g2.trans (Gs.app g2.has (by lia) _),by simp⟩
  (λj ρ M3 hj hI=>by
   refine hG λ_ _k=>?_
   obtain⟨⟨b10,Mg,Ug,rfl⟩,as,q1,q2,q3,q4,q5,q6⟩:=hI;have hjg:hs[j]?=some hs[j]:=by simp[hj]
   obtain⟨js,c7,k1⟩:=a2n (m:=m-1) (M:=M3) (r:=r) (r_ hm) P (q5.low _ _ hrl hrt hr) q4 hjg (a0:=some (.ref t)) (a2:=some (.int 3)) (a4:=b4) (a5:=b5) (a6:=b6) (a7:=b7) (a8:=b8) (a9:=some (.ref M2.length)) (rest:=[none,none,none,none,none,none]) rfl;have ap:=Jm (d:=.vl (js.map nD)) q1 (by simp;exact c_ (f_ q2) (b_ hj (a_ hl (by decide))));have pe:∀ρ,(Tg.names [11,12]).put (eD hs[j]) ρ=some ((ρ.set 11 (some (.int hs[j].a))).set 12 (some (.int hs[j].b))):=λ_=>rfl
   simp only[za,xx] at c7;apply _k;refine⟨_,.next,_,M3.set M2.length (.lst ((as.map λjs=>.vl (js.map nD))++[.vl (js.map nD)])),rfl,by simp[Im,Ni,Ru hjg,pe,J7 q1,c7,ap],.inl rfl,⟨some (.int j),some (.int hs[j].a),some (.int hs[j].b),rfl⟩,as++[js],by rw[vq q1];simp,by simp[q2],λj' g js' hg hjs=>?_,⟨λi hi=>?_,q4.kd,q4.le,q4.nd⟩,q5.trans (Gs.aql q5.has (Z7.set (by lia)) ht (by simp)),by simp[q6]⟩
   . by_cases z:j'<as.length
     . rw[du z] at hjs;exact q3 j' g js' hg hjs
     . have ze:j'=j:=by have:=(ak.mp hjs).1;simp at this;lia
       subst ze;rw[jg (s_ z),q2] at hjs;simp at hjs;subst hjs;rw[hjg] at hg;cases hg;exact k1
   . rw[su (by lia)];exact q4.rs i hi)
 apply _k;refine hG λ_ _k=>?_
 obtain⟨M4,e4,mk4,kp4,n4⟩:=ak9 (W:=⟨prog.call (m-1),prog.cls⟩) (t:=t) (M:=M3) (ρ:=[D.ref t,qi K r hs,D.int 3,D.vl (lz M.length K),b4,b5,b6,b7,b8,D.ref M2.length,b10,Mg,Ug,none,none,none,none,none,none]) rfl rfl w3.rs h3 w3.le (by lia);have g4:Gs t f M.length M M4:=g3.trans ⟨by obtain⟨n,h,o⟩:=g3.has;exact⟨n,kp4 _ _ h,o⟩,λa o _ _ e=>kp4 a o e,by lia⟩;have ac4:Ac M2.length hs (λe=>(rowsOf hs ad e).length) as M4:=⟨kp4 _ _ a3,a4,λj g js h1 h2=>⟨(a5 j g js h1 h2).len,(a5 j g js h1 h2).lt⟩⟩;obtain⟨u,M5,e5,l5,s5,n5⟩:=Ai (many:=4) (m:=m-1) (r_ hm) g4.has (by decide) (by decide);obtain⟨ρ6,M6,e6,⟨d5,d10,d11,d12,d14,d15,rfl⟩,ms,mk6,ac6,g6,n6⟩:=ym (W:=⟨prog.call (m-1),prog.cls⟩) (t:=.name 10) (b:=Cu) (it:=.call 14 (.p (.v 0) (.i 4))) (n:=u)
  (ρ:=[D.ref t,qi K r hs,D.int 3,D.vl (lz M.length K),b4,b5,b6,b7,b8,D.ref M2.length,b10,Mg,Ug,D.ref (M3.length+K),none,none,none,none,none]) (M:=M4) (M1:=M5) (by simp[e5]) (e_ (b_ (o_ l5) (by decide)))
  (λ_ ρ M'=>(∃b5 b10 Mg Ug b14 b15:Option D,ρ=[some (.ref t),some (qi K r hs),some (.int 3),some (.vl (lz M.length K)),b4,b5,b6,b7,b8,some (.ref M2.length),b10,Mg,Ug,some (.ref (M3.length+K)),b14,b15,none,none,none]) /\
   ∃ms,Mk t (M3.length+K) K (λe=>(rowsOf hs ad e).length) ms M'/\Ac M2.length hs (λe=>(rowsOf hs ad e).length) as M'/\Gs t f M.length M M'/\M3.length+K<M'.length)
  ⟨⟨b5,b10,Mg,Ug,none,none,rfl⟩,_,mk4.st s5 (by lia),ac4.of λo e=>s5.keep _ _ (by lia) e,g4.trans (Gs.aey s5),by lia⟩
  (λi ρ M6 hi hI=>by
   refine hG λ_ _k=>?_
   obtain⟨⟨b5,b10,Mg,Ug,b14,b15,rfl⟩,ms,q1,q2,q3,q4⟩:=hI;obtain⟨c5,c11,c12,c14,c15,Pz,M7,e7,k1,k2,k3⟩:=awj (m:=m-1) (r:=r) (p:=M.length) (r_ hm) P q3.has q1 q2 ht (by lia) q4 (by lia) (by lia) (by lia) w3.le (a2:=some (.int 3)) (a3:=some (.vl (lz M.length K))) (b4:=b4) (b5:=b5) (b6:=b6) (b7:=b7) (b8:=b8) (b10:=some (.int i)) (Mg:=Mg) (Ug:=Ug) (b14:=b14) (b15:=b15) (n16:=none) (n17:=none) (n18:=none);apply _k;exact⟨_,.next,_,M7,rfl,e7,.inl rfl,⟨c5,some (.int i),c11,c12,c14,c15,rfl⟩,Pz,k1,k2,q3.trans k3,by have:=k3.len;exact b_ q4 this⟩)
 apply _k;obtain⟨hd,e7,hd1,hd2⟩:=aqv (W:=⟨prog.call (m-1),prog.cls⟩) (M:=M6) (ρ:=[D.ref t,qi K r hs,D.int 3,D.vl (lz M.length K),b4,d5,b6,b7,b8,D.ref M2.length,d10,d11,d12,D.ref (M3.length+K),d14,d15,none,none,none]) rfl rfl mk6 h3 w3.le;have hdl:∀e,e<K->∃l,hd[e]?=some l/\l.length<=7/\∀x,x∈l↔x∈ms e:=λe he=>by have z:hd[e]?=some hd[e]:=dh (b_ he (g_ hd1));obtain⟨y1,_,y2⟩:=hd2 e _ z;have:=w3.le e he;exact⟨_,z,a_ y1 this,y2⟩
 refine hG λ_ _k=>?_
 obtain⟨ρ8,M8,e8,⟨f10,f11,f12,f18,rfl⟩,td,t1,t2,t3,g8,n8⟩:=ym (W:=⟨prog.call (m-1),prog.cls⟩) (t:=.name 10) (b:=Ej) (it:=.blt .len (.o (.ix (.v 1) (.i 1)))) (n:=hs.length)
  (ρ:=[D.ref t,qi K r hs,D.int 3,D.vl (lz M.length K),b4,d5,b6,b7,b8,D.ref M2.length,d10,d11,d12,D.ref (M3.length+K),d14,d15,D.vl (hd.map Uh),D.ref M6.length,none]) (M:=M6++[.lst []]) (M1:=M6++[.lst []]) (by simp[Ni,Ot]) (a_ hl (by decide))
  (λj ρ M'=>(∃b10 Mg Ug b18:Option D,ρ=[some (.ref t),some (qi K r hs),some (.int 3),some (.vl (lz M.length K)),b4,d5,b6,b7,b8,some (.ref M2.length),b10,Mg,Ug,some (.ref (M3.length+K)),d14,d15,some (.vl (hd.map Uh)),some (.ref M6.length),b18]) /\
   ∃td:List (List Nat),M'[M6.length]?=some (.lst (td.map λjs=>.tup (js.map nD)))/\td.length=j/\(∀(j:Nat)(g:F)(js:Y3),hs[j]?=some g->td[j]?=some js->js.length=(hd.map List.length).getD g.a 0/\∀x∈js,x<(hd.map List.length).getD g.b 0)/\zc M6 M'/\M'.length=M6.length+1)
  ⟨⟨d10,d11,d12,none,rfl⟩,[],by simp,rfl,by simp,zc.app _ _,by simp⟩
  (λj ρ M7 hj hI=>by
   refine hG λ_ _k=>?_
   obtain⟨⟨b10,Mg,Ug,b18,rfl⟩,td,q1,q2,q3,q4,q5⟩:=hI;have hjg:hs[j]?=some hs[j]:=by simp[hj]
   obtain⟨sj,ej,_⟩:=ac6.get hjg;have hg:=au hjg;obtain⟨la,x1,x2,x3⟩:=hdl _ (P.acx _ hg);obtain⟨lb,y1,y2,y3⟩:=hdl _ (P.acy _ hg);have mk7:=mk6.frame (M':=M7) (λa o _ _ e=>q4 a o e) (by lia);have ac7:=ac6.of (M':=M7) λo e=>q4 _ _ e
   obtain⟨c18,zs,e9,kz,k1,k2⟩:=alc (W:=⟨prog.call (m-1),prog.cls⟩) (r:=r) mk7 ac7 (hl:=hd) hjg ej (P.acx _ hg) (P.acy _ hg) x1 y1 x3 y3 x2 q1 (by simp;exact c_ (f_ q2) (b_ hj (a_ hl (by decide)))) (a0:=some (.ref t)) (a2:=some (.int 3)) (a3:=some (.vl (lz M.length K))) (b4:=b4) (b5:=d5) (b6:=b6) (b7:=b7) (b8:=b8) (Mg:=Mg) (Ug:=Ug) (b14:=d14) (b15:=d15) (b18:=b18);apply _k;refine⟨_,.next,_,_,rfl,e9,.inl rfl,⟨some (.int j),some (.int hs[j].a),some (.int hs[j].b),c18,rfl⟩,td++[zs],by rw[vq q1];simp,by simp[q2],λj' g js' hg' hjs=>?_,λa o e=>?_,by simp[q5]⟩
   . by_cases z:j'<td.length
     . rw[du z] at hjs;exact q3 j' g js' hg' hjs
     . have ze:j'=j:=by have:=(ak.mp hjs).1;simp at this;lia
       subst ze;rw[jg (s_ z),q2] at hjs;simp at hjs;subst hjs;rw[hjg] at hg';cases hg';have u1:(hd.map List.length).getD hs[j'].a 0=la.length:=by simp[bz,x1]
       have u2:(hd.map List.length).getD hs[j'].b 0=lb.length:=by simp[bz,y1]
       rw[u1,u2];exact⟨k1,k2⟩
   . rw[su (by have:=ye e;exact i_ this)];exact q4 a o e)
 have c1:Ig.den ⟨prog.call (m-1),prog.cls⟩ [D.ref t,qi K r hs,D.int 3,D.vl (lz M.length K),b4,d5,b6,b7,b8,D.ref M2.length,f10,f11,f12,D.ref (M3.length+K),d14,d15,D.vl (hd.map Uh),D.ref M6.length,f18] M8=.ok (.vl ((hd.map List.length).map nD)) M8:=by
  unfold Ig;rw[Az (d:=.vl (hd.map Uh)) (ds:=hd.map Uh) (M1:=M8) (g:=λd=>match d with|.vl l=>.int l.length|_=>.non) (by simp) rfl (by simp;exact a_ (f_ hd1) (a_ h3 (by decide))) (λz hz=>by
   obtain⟨l,Yo,rfl⟩:=bu.mp hz;refine⟨_,rfl,?_⟩;simp[Uh,uh,Lg])]
  simp[Uh,nD]
 apply _k;refine⟨hd.map List.length,td,M8,?_,⟨by simp[hd1],t2,λx hx=>?_,t3⟩,?_⟩
 . simp only[za,xx] at e2
   have s3':Oh.den ⟨prog.call (m-1),prog.cls⟩ _ _=_:=e2;have s2':Oe.den ⟨prog.call (m-1),prog.cls⟩ _ _=_:=e3;have s1':Od.den ⟨prog.call (m-1),prog.cls⟩ _ _=_:=e6;have s0':Ob.den ⟨prog.call (m-1),prog.cls⟩ _ _=_:=e8;have r0':Ng.den ⟨prog.call (m-1),prog.cls⟩ _ _=_:=r0;simp[-List.map_map,Fn.run,Rp,Ro,r0',s3',MW.new,s2',e4,s1',e7,s0',c1,aay,uh,Wg (o4 t1),gh]
 . refine hG λ_ _k=>?_
   obtain⟨l,Yo,rfl⟩:=bu.mp hx;obtain⟨i,hi,rfl⟩:=qb Yo;obtain⟨l2,y1,y2,_⟩:=hdl i (b_ hi (f_ hd1));rw[dh hi] at y1;cases y1;apply _k;exact y2
 . have:Gs t f M.length M M8:=g6.trans ⟨by obtain⟨n,h,o⟩:=g6.has;exact⟨n,g8 _ _ h,o⟩,λa o _ _ e=>g8 a o e,by lia⟩
   exact this.st
noncomputable def Hf(l:Y3):D:=.tup (l.map nD)
def Ff(s:Y3)(a:List (List Nat))(M:cj):Am (gh s a) (.int 0) M=some (Hf s):=rfl
def ae6(s:Y3)(a:List (List Nat))(M:cj):Am (gh s a) (.int 1) M=some (.tup (a.map Hf)):=rfl
def Gu{l:Y3}(h:i<l.length):Am (Hf l) (.int i) M=some (.int (l.getD i 0)):=Hv q_ (by simp[h,nD])
def Xy{a:List (List Nat)}{j:Nat}(h:a[j]?=some js):Am (.tup (a.map Hf)) (.int j) M=some (Hf js):=Hv q_ (by simp[h])
end K11
namespace MW
section
variable{W:Jl}{ρ:Env}{M:cj}
def Xz(hit:it.den W ρ M=.ok (.tup ds) M1)(hl:ds.length<=100000)
 (h:∀x∈ds,∃ρ1,t.put x (ρ++List.replicate k none)=some ρ1/\c.den W ρ1 M1=.ok (.bl (q x)) M1/\(q x=true->e.den W ρ1 M1=.ok (g x) M1)) :
 (Ex.Dj v k t (.val it) c e).den W ρ M=if v then .ok (.vl ((ds.filter q).map g)) M1 else new (.lst ((ds.filter q).map g)) M1:=by
 rw[Ul,Lh,hit];simp only[Res.Bs,srcOf,Res.Dq];rw[Wi (ds:=ds) (g:=λx=>if q x then some (g x) else none) hl (λx hx=>by
  obtain⟨ρ1,a,b,c⟩:=h x hx;rw[a,Res.Dq,Res.Bs,b,Res.Bs];cases e:q x with
  | true=>simp[c e]|false=>simp)]
 have:ds.filterMap (λx=>if q x then some (g x) else none)=(ds.filter q).map g:=by
  clear h hl hit
  induction ds with
  |nil=>rfl|cons a l ih=>by_cases e:q a=true<;>simp[e,ih]
 rw[this];rfl
def eq_empty(M:cj)(l:List D):vd M (.vl l) (.vl [])=some (decide (l=[])):=by
 cases l with
 |nil=>rfl|cons a l=>simp[vd,Kl,fu]
end
end MW
namespace K11
open MW
noncomputable def tupI(l:Xs):D:=.tup (l.map D.int)
noncomputable def Bp(a:List (List Int)):D:=.tup (a.map tupI)
def axv{j:Nat}(h:j<a.length):Am (Bp a) (.int j) M=some (tupI (a.getD j [])):=Hv q_ (by simp[h])
def O9(M:cj)(l:Xs):uh .len [tupI l] M=.ok (.int l.length) M:=by simp[uh,Lg,tupI]
def ag8(M:cj)(l:Y3):uh .len [Hf l] M=.ok (.int l.length) M:=by simp[uh,Lg,Hf]
def Kg(M:cj)(l:List (List Int)):uh .len [Bp l] M=.ok (.int l.length) M:=by simp[uh,Lg,Bp]
theorem allB_of(f:Int->Bool):∀l:List Int,allB (l.map λi=>D.bl (f i))=some (l.all f)
 |[]=>rfl|a::l=>by simp[allB,allB_of f l]
def a2s(M:cj)(f:Int->Bool)(l:Xs):uh .all [.vl (l.map λi=>D.bl (f i))] M=.ok (.bl (l.all f)) M:=by show Res.u9 (((Aw M (.vl (l.map λi=>D.bl (f i)))).bind allB).map D.bl) M=_;simp[allB_of]
noncomputable def aaa(row:Xs)(many most:Int):Bool:=decide ((row.length:Int)=many)&&row.all λi=>decide (0<=i)&&decide (i<most)
def aqx(row:Xs)(f:Int->Bool):(row.filter λi=>!f i).map D.int=[]↔row.all f=true:=by rw[List.map_eq_nil_iff,zg,gq];simp
section
variable{m:Nat}{M:cj}{row:Xs}{many most:Int}
def ale(hm:1<=m)(hl:row.length<=100000):prog.call m 31 [tupI row,.int many,.int most] M=.ok (.bl (aaa row many most)) M:=by
 rw[call_of hm rfl];have c1:Hb.den ⟨prog.call (m-1),prog.cls⟩ [tupI row,D.int many,D.int most] M=.ok (.vl ((row.filter λi=>!(decide (0<=i)&&decide (i<most))).map D.int)) M:=by
  unfold Hb;rw[Xz (ds:=row.map D.int) (q:=λd=>match d with|.int i=>!(decide (0<=i)&&decide (i<most))|_=>false) (g:=id) (M1:=M) (by rw[Rf];rfl) (by simpa using hl) (λx hx=>by
   obtain⟨y,_,rfl⟩:=bu.mp hx;refine⟨_,rfl,?_,λ_=>?_⟩
   . show(Ex.not (.chain .le .lt (.i 0) (.v 3) (.v 2))).den _ [tupI row,D.int many,D.int most,D.int y] M=_
     by_cases q:0<=y<;>simp[q]
   . show(Ex.v 3).den _ [tupI row,D.int many,D.int most,D.int y] M=_
     simp)]
  rw[cg rfl,List.map_id,List.filter_map];rfl
 have eq:=eq_empty M ((row.filter λi=>!(decide (0<=i)&&decide (i<most))).map D.int);have hb:decide ((row.filter λi=>!(decide (0<=i)&&decide (i<most))).map D.int=[])=row.all λi=>decide (0<=i)&&decide (i<most):=by rw[zq,di];exact aqx row λi=>decide (0<=i)&&decide (i<most)
 rw[hb] at eq;generalize(row.filter λi=>!(decide (0<=i)&&decide (i<most))).map D.int=L at c1 eq
 by_cases c:(row.length:Int)=many
 . simp[Fn.run,Ka,J9,O9,c,c1,eq,aaa]
 . simp[Fn.run,Ka,J9,O9,c,aaa]
end
noncomputable def Ui(s1 s2:Y3)(some:List (List Int))(k:Nat):Bool:=aaa (some.getD k []) (s1.getD k 0) (s2.getD k 0)
noncomputable def Dm(s1 s2:Y3)(some:List (List Int)):Bool:=decide (some.length=s1.length)&&(List.range s1.length).all (Ui s1 s2 some)
noncomputable abbrev ER(one other:D)(so:List (List Int))(a b c:Option D):Env:=[some one,some other,some (Bp so),a,b,c]
section
variable{m:Nat}{M:cj}{s1 s2:Y3}{a1 a2:List (List Nat)}{so:List (List Int)}
def ae7(h:∀j,j<s1.length->Ui s1 s2 so j=true):(List.range s1.length).all (Ui s1 s2 so)=true:=by rw[gq];exact λx hx=>h x (il.mp hx)
def ae8(h:j<s1.length)(e:Ui s1 s2 so j=false):(List.range s1.length).all (Ui s1 s2 so)=false:=by rw[List.all_eq_false];exact⟨j,il.mpr h,by simp[e]⟩
def aqy(hm:1<=m)(h:s2.length=s1.length)(hj:∀js∈so,js.length<=100000):prog.call m 24 [gh s1 a1,gh s2 a2,Bp so] M=.ok (.bl (Dm s1 s2 so)) M:=by
 rw[call_of hm rfl]
 by_cases hl:so.length=s1.length
 . have Yo:((so.length:Int)=(s1.length:Int)):=E_ hl
   have loop:=Rk (W:=⟨prog.call (m-1),prog.cls⟩) (t:=.names [3,4,5]) (b:=Eg) (it:=.acj (.v 2) (.ix (.v 0) (.i 0)) (.ix (.v 1) (.i 0))) (ρ:=ER (gh s1 a1) (gh s2 a2) so none none none) (M:=M) (M1:=M)
    (s:=.con (((so.map tupI).zip ((s1.map nD).zip (s2.map nD))).map λp=>D.tup [p.1,p.2.1,p.2.2])) (n:=s1.length) (by simp[Ff,Bp,Hf,hl,h]) (by simp[Src.len,hl,h])
    (λi ρ M'=>(∃b3 b4 b5,ρ=ER (gh s1 a1) (gh s2 a2) so b3 b4 b5)/\M'=M/\∀j,j<i->Ui s1 s2 so j=true)
    (λv M'=>v=.bl false/\M'=M/\∃j,j<s1.length/\Ui s1 s2 so j=false) ⟨⟨none,none,none,rfl⟩,rfl,by simp⟩ (λ_ _ _=>rfl)
    (λi ρ M1 hi hI=>by
     obtain⟨⟨b3,b4,b5,rfl⟩,rfl,q⟩:=hI;have x1:so[i]?=some (so.getD i []):=by rw[bz,dh (b_ hi (g_ hl))];rfl
     have x2:s1[i]?=some (s1.getD i 0):=by rw[bz,dh hi];rfl
     have x3:s2[i]?=some (s2.getD i 0):=by rw[bz,dh (b_ hi (g_ h))];rfl
     have rb:Ui s1 s2 so i=(decide (((so.getD i []).length:Int)=(s1.getD i 0:Nat))&&(so.getD i []).all λy=>decide (0<=y)&&decide (y<(s2.getD i 0:Nat))):=rfl;have hjl:=hj _ (au x1);generalize so.getD i []=js at x1 rb hjl;generalize s1.getD i 0=A at x2 rb;generalize s2.getD i 0=B at x3 rb;refine⟨.tup [tupI js,.int A,.int B],ER (gh s1 a1) (gh s2 a2) so (some (tupI js)) (some (.int A)) (some (.int B)),by simp[Src.item,List.getElem?_zip_eq_some,x1,x2,x3,nD];exact⟨_,_,_,⟨rfl,rfl,rfl⟩,rfl,rfl,rfl⟩,rfl,?_⟩;have c1:Lq.den ⟨prog.call (m-1),prog.cls⟩ (ER (gh s1 a1) (gh s2 a2) so (some (tupI js)) (some (.int A)) (some (.int B))) M1=.ok (.vl (js.map λi=>D.bl (decide (0<=i)&&decide (i<(B:Int))))) M1:=by
      unfold Lq;rw[Hk (ds:=js.map D.int) (M1:=M1) (g:=λd=>match d with|.int i=>.bl (decide (0<=i)&&decide (i<(B:Int)))|_=>.non) (by rw[Rf];rfl) (by simpa using hjl) (λx hx=>by
       obtain⟨y,hy,rfl⟩:=bu.mp hx;refine⟨_,rfl,?_⟩;show(Ex.chain .le .lt (.i 0) (.v 6) (.v 5)).den _ [gh s1 a1,gh s2 a2,Bp so,tupI js,D.int A,D.int B,D.int y] M1=_
       by_cases q:0<=y<;>simp[q])]
      rw[cg rfl,tu];rfl
     have al:=a2s M1 (λi=>decide (0<=i)&&decide (i<(B:Int))) js
     by_cases c2:(js.length:Int)=(A:Int)
     . cases c3:js.all λi=>decide (0<=i)&&decide (i<(B:Int)) with
       |true =>
        rw[c3] at al;refine⟨.next,_,M1,by simp[Eg,O9,c2,c1,al],.inl ⟨rfl,⟨some (tupI js),some (.int A),some (.int B),rfl⟩,rfl,λj hji=>?_⟩⟩
        by_cases ze:j=i
        . rw[ze,rb,c3];simp[c2]
        . exact q j (by lia)
       |false =>
        rw[c3] at al;exact⟨.ret (.bl false),_,M1,by simp[Eg,O9,c2,c1,al];rfl,.inr ⟨_,rfl,rfl,rfl,i,hi,by rw[rb,c3];simp⟩⟩
     . exact⟨.ret (.bl false),_,M1,by simp[Eg,O9,c2];rfl,.inr ⟨_,rfl,rfl,rfl,i,hi,by rw[rb];simp[c2]⟩⟩)
   rcases loop with⟨_,_,_,e,⟨rfl,⟨b3,b4,b5,rfl⟩,rfl,q⟩|⟨_,rfl,rfl,rfl,j,q1,q2⟩⟩
   . have e:Lr.den ⟨prog.call (m-1),prog.cls⟩ _ _=_:=e
     have ok:Dm s1 s2 so=true:=by unfold Dm;rw[ae7 q];simp[hl]
     rw[ok];simp[Fn.run,Lw,Ls,Kg,ag8,Ff,Yo,e]
   . have e:Lr.den ⟨prog.call (m-1),prog.cls⟩ _ _=_:=e
     have no:Dm s1 s2 so=false:=by unfold Dm;rw[ae8 q1 q2];simp
     rw[no];simp[Fn.run,Lw,Ls,Kg,ag8,Ff,Yo,e]
 . have Yo:¬((so.length:Int)=(s1.length:Int)):=by lia
   have no:Dm s1 s2 so=false:=by simp[Dm,hl]
   rw[no];simp[Fn.run,Lw,Ls,Kg,ag8,Ff,Yo]
end
end K11
namespace K11
open MW
structure Jf(K:Nat)(hs:List F)(Ld:Y3)(Yx:List (List Nat)):Prop where
 ls:Ld.length=K
 la:Yx.length=hs.length
 ok:∀(j:Nat)(g:F)(js:Y3),hs[j]?=some g->Yx[j]?=some js->js.length=Ld.getD g.a 0/\∀x∈js,x<Ld.getD g.b 0
structure Fits(s1 s2:Y3)(r:List (List Nat)):Prop where
 len:r.length=s1.length
 ok:∀(k:Nat)(js:Y3),r[k]?=some js->js.length=s1.getD k 0/\∀x∈js,x<s2.getD k 0
noncomputable def rD(r:List (List Nat)):D:=.tup (r.map Hf)
def Va{j:Nat}(h:r[j]?=some js):Am (rD r) (.int j) M=some (Hf js):=Hv q_ (by simp[h])
def Ms{α:Type}{l:List α}{i:Nat}(h:i<l.length):∃x,l[i]?=some x:=⟨l[i],by simp[h]⟩
def Dh{α:Type}{l:List α}{i:Nat}{x d:α}(h:l[i]?=some x):l.getD i d=x:=by simp[bz,h]
noncomputable def bad(j1 j2 ra rb:Y3)(x:Nat):Bool:=decide (j2.getD (ra.getD x 0) 0≠rb.getD (j1.getD x 0) 0)
noncomputable def Vb(hs:List F)(a1 a2 r:List (List Nat))(k:Nat):List Nat :=
 match hs[k]? with
 |some g=>(List.range (a1.getD k []).length).filter (bad (a1.getD k []) (a2.getD k []) (r.getD g.a []) (r.getD g.b []))|none=>[]
noncomputable def Cj(hs:List F)(a1 a2 r:List (List Nat))(n:Nat):List (Nat×Nat):=(List.range n).flatMap λk=>(Vb hs a1 a2 r k).map λx=>(k,x)
def ajf{hs:List F}{a1 a2 r:List (List Nat)}{k:Nat}{g:F}{j1 j2 ra rb:Y3}(h:hs[k]?=some g)(h1:a1[k]?=some j1)(h2:a2[k]?=some j2)(h3:r[g.a]?=some ra)(h4:r[g.b]?=some rb) :
 Vb hs a1 a2 r k=(List.range j1.length).filter (bad j1 j2 ra rb):=by
 simp only[Vb,h,Dh h1,Dh h2,Dh h3,Dh h4]
def ag9(hx:x<n)(h:p x=true)(hb:∀y,y<x->p y=false):∃l,(List.range n).filter p=x::l:=by
 have e:List.range n=List.range x++(List.range (n-x)).map (x+·):=by rw[<- List.range_add];congr;lia
 have e0:(List.range x).filter p=[]:=by rw[zg];intro y hy;simp[hb y (il.mp hy)]
 have e1:List.range (n-x)=0::(List.range (n-x-1)).map (·+1):=by rw[<- List.range_succ_eq_map];congr;lia
 rw[e,zm,e0,e1];simp[h]
def alf(hb:∀y,y<n->p y=false):(List.range n).filter p=[]:=by rw[zg];intro y hy;simp[hb y (il.mp hy)]
def aha(hk:k<n)(h:f k=p::l)(hb:∀y,y<k->f y=[]):∃l,(List.range n).flatMap f=p::l:=by
 have e:List.range n=List.range k++(List.range (n-k)).map (k+·):=by rw[<- List.range_add];congr;lia
 have e0:(List.range k).flatMap f=[]:=by rw[List.flatMap_eq_nil_iff];exact λy hy=>hb y (il.mp hy)
 have e1:List.range (n-k)=0::(List.range (n-k-1)).map (·+1):=by rw[<- List.range_succ_eq_map];congr;lia
 rw[e,List.flatMap_append,e0,e1];simp[h]
noncomputable abbrev EF(n:Nat)(w1 w2 r:D)(b4 b5 b6 b7 b8 b9:Option D):Env:=[some (.ref n),some w1,some w2,some r,b4,b5,b6,b7,b8,b9]
noncomputable def headD(l:List (Nat×Nat)):D:=match l with|p::_=>pD p|[]=>.non
section
variable{m:Nat}{M:cj}{sz:Nat->Nat}{K n r:Nat}{hs:List F}{iw:List (List Kx×D)}{s1 s2:Y3}{a1 a2 rr:List (List Nat)}
def Jf.get(w:Jf K hs s1 a1){k:Nat}{g:F}(h:hs[k]?=some g):∃js,a1[k]?=some js/\js.length=s1.getD g.a 0/\∀x∈js,x<s1.getD g.b 0:=by obtain⟨js,e⟩:=Ms (l:=a1) (i:=k) (by rw[w.la];exact(ak.mp h).1);exact⟨js,e,w.ok k g js h e⟩
def Fits.get(f:Fits s1 s2 rr){k:Nat}(h:k<s1.length):∃js,rr[k]?=some js/\js.length=s1.getD k 0/\∀x∈js,x<s2.getD k 0:=by obtain⟨js,e⟩:=Ms (l:=rr) (i:=k) (by rw[f.len];exact h);exact⟨js,e,f.ok k js e⟩
def a2t(hm:1<=m){k th:Nat}(h:a2[k]?=some js)(hth:th<js.length):prog.call m 22 [gh s2 a2,.int th,.int k] M=.ok (.int (js.getD th 0)) M:=by
 rw[call_of hm rfl];have i1:=Gu (M:=M) (l:=js) (i:=th) hth;have ni:¬((k:Int)=-1):=by lia
 generalize js.getD th 0=y at i1;simp[Fn.run,aw2,aw1,ni,ae6,Xy h,i1]
def ae9(hm:2<=m)(P:Oq sz K hs iw)(h:Made n r K hs iw M)(w1:Jf K hs s1 a1)(w2:Jf K hs s2 a2)(f:Fits s1 s2 rr):prog.call m 25 [.ref n,gh s1 a1,gh s2 a2,rD rr] M=.ok (headD (Cj hs a1 a2 rr hs.length)) M:=by
 rw[call_of (a_ (by decide) hm) rfl];have m1:1<=m-1:=r_ hm
 have g1:=av8 (M:=M) (W:=⟨prog.call (m-1),prog.cls⟩) (n:=n) (ρ:=EF n (gh s1 a1) (gh s2 a2) (rD rr) none none none none none none) (o:=.v 0) (mm:=1) (es:=.z) (ds:=[]) (fi:=2) (by simp) (by simp) h.1 rfl;have loop:=Rk (W:=⟨prog.call (m-1),prog.cls⟩) (t:=.names [4,5]) (b:=Ei) (it:=.enm (.meth (.v 0) 1 .z)) (s:=.con (Cr (hs.map eD) 0)) (n:=hs.length) (ρ:=EF n (gh s1 a1) (gh s2 a2) (rD rr) none none none none none none) (M:=M) (M1:=M) (by simp[-Ri,g1,ak5 m1 h,Jh]) (by simp[Src.len,Cr])
  (λi ρ M'=>(∃b4 b5 b6 b7 b8 b9,ρ=EF n (gh s1 a1) (gh s2 a2) (rD rr) b4 b5 b6 b7 b8 b9)/\M'=M/\∀k,k<i->Vb hs a1 a2 rr k=[])
  (λv M'=>v=headD (Cj hs a1 a2 rr hs.length)/\M'=M) ⟨⟨none,none,none,none,none,none,rfl⟩,rfl,by simp⟩ (λ_ _ _=>rfl)
  (λk ρ M1 hk hI=>by
   obtain⟨⟨b4,b5,b6,b7,b8,b9,rfl⟩,rfl,q⟩:=hI;have hg:hs[k]?=some hs[k]:=by simp[hk]
   have it:(Src.con (Cr (hs.map eD) 0)).item k M1=some (.tup [.int k,eD hs[k]]):=by simp[Src.item,Cr,hk]
   generalize hs[k]=g at hg it;have hgm:=au hg;refine⟨_,EF n (gh s1 a1) (gh s2 a2) (rD rr) (some (.int k)) (some (eD g)) b6 b7 b8 b9,it,rfl,?_⟩;obtain⟨j1,x1,x2,x3⟩:=w1.get hg;obtain⟨j2,y1,y2,y3⟩:=w2.get hg;obtain⟨ra,u1,u2,u3⟩:=f.get (k:=g.a) (by rw[w1.ls];exact P.acx g hgm);obtain⟨rb,v1,v2,v3⟩:=f.get (k:=g.b) (by rw[w1.ls];exact P.acy g hgm);have lk:=ajf hg x1 y1 u1 v1;have inner:=Rk (W:=⟨prog.call (m-1),prog.cls⟩) (t:=.names [8,9]) (b:=Eh) (it:=.enm (.ix (.ix (.v 1) (.i 1)) (.v 4))) (s:=.con (Cr (j1.map nD) 0)) (n:=j1.length) (ρ:=EF n (gh s1 a1) (gh s2 a2) (rD rr) (some (.int k)) (some (eD g)) (some (Hf ra)) (some (Hf rb)) b8 b9) (M:=M1) (M1:=M1) (by simp[ae6,Xy x1,Hf]) (by simp[Src.len,Cr])
    (λi ρ M'=>(∃b8 b9,ρ=EF n (gh s1 a1) (gh s2 a2) (rD rr) (some (.int k)) (some (eD g)) (some (Hf ra)) (some (Hf rb)) b8 b9)/\M'=M1/\∀x,x<i->bad j1 j2 ra rb x=false)
    (λv M'=>M'=M1/\∃x,v=pD (k,x)/\x<j1.length/\bad j1 j2 ra rb x=true/\∀y,y<x->bad j1 j2 ra rb y=false) ⟨⟨b8,b9,rfl⟩,rfl,by simp⟩ (λ_ _ _=>rfl)
    (λx ρ M2 hx hI=>by
     obtain⟨⟨b8,b9,rfl⟩,rfl,qq⟩:=hI;obtain⟨z,hz⟩:=Ms hx;have it:(Src.con (Cr (j1.map nD) 0)).item x M2=some (.tup [.int x,.int z]):=by simp[Src.item,Cr,hz,nD]
     obtain⟨y,hy⟩:=Ms (l:=ra) (i:=x) (b_ hx (a_ (f_ x2) (g_ u2)));have zl:=x3 z (au hz);have yl:=u3 y (au hy);refine⟨_,EF n (gh s1 a1) (gh s2 a2) (rD rr) (some (.int k)) (some (eD g)) (some (Hf ra)) (some (Hf rb)) (some (.int x)) (some (.int z)),it,rfl,?_⟩;have i1:=Gu (M:=M2) (l:=ra) (i:=x) (b_ hx (a_ (f_ x2) (g_ u2)));rw[Dh hy] at i1;have l1:=a2t (M:=M2) (s2:=s2) m1 y1 (th:=y) (b_ yl (g_ y2));have i2:=Gu (M:=M2) (l:=rb) (i:=z) (b_ zl (g_ v2));have be:bad j1 j2 ra rb x=decide (j2.getD y 0≠rb.getD z 0):=by simp only[bad,Dh hy,Dh hz]
     generalize j2.getD y 0=p at l1 be;generalize rb.getD z 0=p' at i2 be
     by_cases c:p=p'
     . subst c
       refine⟨.next,_,M2,by simp[Eh,i1,l1,i2],.inl ⟨rfl,⟨some (.int x),some (.int z),rfl⟩,rfl,λx' hx'=>?_⟩⟩
       by_cases e:x'=x
       . rw[e,be];simp
       . exact qq x' (by lia)
     . have c':¬((p:Int)=(p':Int)):=by lia
       exact⟨.ret (pD (k,x)),_,M2,by simp[Eh,i1,l1,i2,c',pD];rfl,.inr ⟨_,rfl,rfl,x,rfl,hx,by rw[be];simp[c],qq⟩⟩)
   rcases inner with⟨_,ρ3,M3,e3,⟨rfl,⟨c8,c9,rfl⟩,rfl,qq⟩|⟨_,rfl,rfl,x,rfl,q1,q2,q3⟩⟩
   . have e3:Ib.den ⟨prog.call (m-1),prog.cls⟩ _ _=_:=e3
     refine⟨.next,_,M3,by simp[Ei,Wo,Wq,Va u1,Va v1,e3],.inl ⟨rfl,⟨some (.int k),some (eD g),some (Hf ra),some (Hf rb),c8,c9,rfl⟩,rfl,λk' hk'=>?_⟩⟩
     by_cases e:k'=k
     . rw[e,lk];exact alf qq
     . exact q k' (by lia)
   . have e3:Ib.den ⟨prog.call (m-1),prog.cls⟩ _ _=_:=e3
     refine⟨.ret (pD (k,x)),ρ3,M3,by simp[Ei,Wo,Wq,Va u1,Va v1,e3],.inr ⟨_,rfl,?_,rfl⟩⟩;obtain⟨l,el⟩:=ag9 q1 q2 q3;rw[<- lk] at el;obtain⟨l',el'⟩:=aha (f:=λk=>(Vb hs a1 a2 rr k).map λx=>(k,x)) hk (by rw[el];rfl) (λy hy=>by rw[q y hy];rfl);unfold Cj;rw[el'];rfl)
 rcases loop with⟨_,ρ',M',e,⟨rfl,⟨b4,b5,b6,b7,b8,b9,rfl⟩,rfl,q⟩|⟨_,rfl,rfl,rfl⟩⟩
 . have e:Ie.den ⟨prog.call (m-1),prog.cls⟩ _ _=_:=e
   have z:Cj hs a1 a2 rr hs.length=[]:=by unfold Cj;rw[List.flatMap_eq_nil_iff];intro y hy;rw[q y (il.mp hy)];rfl
   rw[z];simp[Fn.run,Ly,Lx,e,headD]
 . have e:Ie.den ⟨prog.call (m-1),prog.cls⟩ _ _=_:=e
   simp[Fn.run,Ly,Lx,e]
end
noncomputable abbrev EG(p w1 w2 r:D)(q:Nat)(b5 b6 b7 b8 b9:Option D):Env:=[some p,some w1,some w2,some r,some (.ref q),b5,b6,b7,b8,b9]
section
variable{m:Nat}{M:cj}{sz:Nat->Nat}{K n r:Nat}{hs:List F}{iw:List (List Kx×D)}{s1 s2:Y3}{a1 a2 rr:List (List Nat)}
def aab:Cj hs a1 a2 rr (k+1)=Cj hs a1 a2 rr k++(Vb hs a1 a2 rr k).map λx=>(k,x):=by simp[Cj,v8]
theorem X3(w1:Jf K hs s1 a1)(hs7:∀x∈s1,x<=7):∀k,k<=hs.length->(Cj hs a1 a2 rr k).length<=k*7
 |0,_=>by simp[Cj]
 |k+1,hk=>by
  have:=X3 w1 hs7 k (by lia);obtain⟨g,hg⟩:=Ms (l:=hs) (i:=k) (by lia);obtain⟨j1,x1,x2,_⟩:=w1.get hg;have hl:(Vb hs a1 a2 rr k).length<=7:=by
   simp only[Vb,hg];refine gn (vf _ _) ?_;rw[List.length_range,Dh x1,x2,bz];cases e:s1[g.a]? with
   |none=>simp|some y=>exact hs7 y (au e)
  rw[aab,m6,dz]
  lia
def afa(hm:1<=m)(P:Oq sz K hs iw)(w1:Jf K hs s1 a1)(w2:Jf K hs s2 a2)(hs7:∀x∈s1,x<=7)(f:Fits s1 s2 rr) :
 ∃M',prog.call m 33 [qi K r hs,gh s1 a1,gh s2 a2,rD rr] M=.ok (.ref M.length) M'/\M'[M.length]?=some (.lst ((Cj hs a1 a2 rr hs.length).map pD))/\zc M M':=by
 rw[call_of hm rfl];refine hG λ_ _k=>?_
 have hl5:=P.len;obtain⟨ρ',M',e,⟨b5,b6,b7,b8,b9,rfl⟩,q,k0⟩:=ym (W:=⟨prog.call (m-1),prog.cls⟩) (t:=.name 5) (b:=Iw) (it:=.l (.ix (.v 0) (.i 1))) (n:=hs.length) (ρ:=EG (qi K r hs) (gh s1 a1) (gh s2 a2) (rD rr) M.length none none none none none) (M:=M++[.lst []]) (M1:=M++[.lst []]) (by simp[Ni,Ot]) (a_ hl5 (by decide))
  (λk ρ M'=>(∃b5 b6 b7 b8 b9,ρ=EG (qi K r hs) (gh s1 a1) (gh s2 a2) (rD rr) M.length b5 b6 b7 b8 b9)/\M'[M.length]?=some (.lst ((Cj hs a1 a2 rr k).map pD))/\zc M M')
  ⟨⟨none,none,none,none,none,rfl⟩,by simp[Cj],zc.app _ _⟩
  (λk ρ M1 hk hI=>by
   refine hG λ_ _k=>?_
   obtain⟨⟨b5,b6,b7,b8,b9,rfl⟩,q,k0⟩:=hI;obtain⟨g,hg⟩:=Ms hk;have hgm:=au hg;obtain⟨j1,x1,x2,x3⟩:=w1.get hg;obtain⟨j2,y1,y2,y3⟩:=w2.get hg;obtain⟨ra,u1,u2,u3⟩:=f.get (k:=g.a) (by rw[w1.ls];exact P.acx g hgm);obtain⟨rb,v1,v2,v3⟩:=f.get (k:=g.b) (by rw[w1.ls];exact P.acy g hgm);have lk:=ajf hg x1 y1 u1 v1;have ia:=Gu (M:=M1) (l:=s1) (i:=g.a) (by rw[w1.ls];exact P.acx g hgm);rw[<- x2] at ia;have j7:j1.length<=7:=by
    rw[x2,bz];cases e:s1[g.a]? with
    |none=>simp|some y=>exact hs7 y (au e)
   have ll:=X3 (a2:=a2) (rr:=rr) w1 hs7 k (e_ hk);have pe:∀ρ,(Tg.names [6,7]).put (eD g) ρ=some ((ρ.set 6 (some (.int g.a))).set 7 (some (.int g.b))):=λ_=>rfl
   obtain⟨ρ3,M3,e3,⟨c8,c9,rfl⟩,q3,k3⟩:=ym (W:=⟨prog.call (m-1),prog.cls⟩) (t:=.name 8) (b:=Ep) (it:=.ix (.ix (.v 1) (.i 0)) (.v 6)) (n:=j1.length) (ρ:=EG (qi K r hs) (gh s1 a1) (gh s2 a2) (rD rr) M.length (some (.int k)) (some (.int g.a)) (some (.int g.b)) b8 b9) (M:=M1) (M1:=M1) (by simp[Ff,ia]) (a_ j7 (by decide))
    (λi ρ M'=>(∃b8 b9,ρ=EG (qi K r hs) (gh s1 a1) (gh s2 a2) (rD rr) M.length (some (.int k)) (some (.int g.a)) (some (.int g.b)) b8 b9)/\M'[M.length]?=some (.lst ((Cj hs a1 a2 rr k++((List.range i).filter (bad j1 j2 ra rb)).map λx=>(k,x)).map pD))/\zc M M')
    ⟨⟨b8,b9,rfl⟩,by simpa using q,k0⟩
    (λx ρ M2 hx hI=>by
     refine hG λ_ _k=>?_
     obtain⟨⟨b8,b9,rfl⟩,qq,k2⟩:=hI;obtain⟨z,hz⟩:=Ms hx;obtain⟨y,hy⟩:=Ms (l:=ra) (i:=x) (b_ hx (a_ (f_ x2) (g_ u2)));have zl:=x3 z (au hz);have yl:=u3 y (au hy);have i1:=Gu (M:=M2) (l:=ra) (i:=x) (b_ hx (a_ (f_ x2) (g_ u2)));have i2:=Gu (M:=M2) (l:=j1) (i:=x) hx;rw[Dh hy] at i1;rw[Dh hz] at i2;have i3:=Gu (M:=M2) (l:=j2) (i:=y) (b_ yl (g_ y2));have i4:=Gu (M:=M2) (l:=rb) (i:=z) (b_ zl (g_ v2));have be:bad j1 j2 ra rb x=decide (j2.getD y 0≠rb.getD z 0):=by simp only[bad,Dh hy,Dh hz]
     generalize j2.getD y 0=p at i3 be;generalize rb.getD z 0=p' at i4 be;apply _k
     by_cases c:p=p'
     . subst c
       refine⟨_,.next,_,M2,rfl,by simp[Ep,ae6,Xy x1,Xy y1,Va u1,Va v1,i1,i2,i3,i4],.inl rfl,⟨some (.int x),some (.int p),rfl⟩,?_,k2⟩;rw[v8,zm];simpa[be] using qq
     . have c':¬((p':Int)=(p:Int)):=by lia
       have hl:((Cj hs a1 a2 rr k++((List.range x).filter (bad j1 j2 ra rb)).map λx=>(k,x)).map pD).length<100000:=by have:=vf (bad j1 j2 ra rb) (List.range x);simp at this ⊢;lia
       have eL:Cj hs a1 a2 rr k++((List.range (x+1)).filter (bad j1 j2 ra rb)).map (λx=>(k,x))=(Cj hs a1 a2 rr k++((List.range x).filter (bad j1 j2 ra rb)).map λx=>(k,x))++[(k,x)]:=by rw[v8,zm];simp[be,c]
       rw[eL];generalize(Cj hs a1 a2 rr k++((List.range x).filter (bad j1 j2 ra rb)).map λx=>(k,x))=L at qq hl;have ap:=Jm (d:=pD (k,x)) qq hl;refine⟨_,.next,_,M2.set M.length (.lst (L.map pD++[pD (k,x)])),rfl,by simp[Ep,ae6,Xy x1,Xy y1,Va u1,Va v1,i1,i2,i3,i4,c',J7 qq,show D.tup [.int k,.int x]=pD (k,x) from rfl,ap],.inl rfl,⟨some (.int x),some (.int p),rfl⟩,?_,λa o h=>?_⟩
       . rw[vq qq];simp
       . rw[su (by have:=ye h;exact i_ this)];exact k2 a o h)
   have e3:Oi.den ⟨prog.call (m-1),prog.cls⟩ _ _=_:=e3;apply _k;refine⟨_,.next,_,M3,rfl,by simp[Iw,Ni,Ru hg,pe,e3],.inl rfl,⟨some (.int k),some (.int g.a),some (.int g.b),c8,c9,rfl⟩,?_,k3⟩;rw[aab,lk];exact q3)
 have e:Oj.den ⟨prog.call (m-1),prog.cls⟩ _ _=_:=e;apply _k;exact⟨M',by simp[Fn.run,Rr,Rq,MW.new,e],q,k0⟩
noncomputable def Td(so:List (List Int)):List (List Nat):=so.map λjs=>js.map Int.toNat
def awl(h:∀i∈l,0<=i):tupI l=Hf (l.map Int.toNat):=by
 unfold tupI Hf;rw[tu]
 congr 1
 refine qd λi hi=>?_
 have:=h i hi;simp only[Function.comp,nD,D.int.injEq]
 lia
def fits_of(h:Dm s1 s2 so=true):Bp so=rD (Td so)/\Fits s1 s2 (Td so):=by
 simp only[Dm,aq,di,gq] at h;obtain⟨h1,h2⟩:=h;have at_:∀(k:Nat)(js:Xs),so[k]?=some js->(js.length:Int)=(s1.getD k 0:Nat)/\∀i∈js,0<=i/\i<(s2.getD k 0:Nat):=λk js e=>by have:=h2 k (il.mpr (by have:=(ak.mp e).1;exact b_ this (f_ h1)));simp only[Ui,aaa,Dh e,aq,di,gq] at this;exact this
 refine⟨?_,by simp[Td,h1],λk js e=>?_⟩
 . unfold Bp rD Td
   rw[tu]
   congr 1
   refine qd λjs hjs=>?_
   obtain⟨k,hk,rfl⟩:=qb hjs;exact awl λi hi=>((at_ k _ (dh hk)).2 i hi).1
 . unfold Td at e
   rw[jd] at e;obtain⟨ks,e1,rfl⟩:=cu.mp e;obtain⟨c1,c2⟩:=at_ k ks e1;refine⟨by rw[dz];exact D_ c1,λx hx=>?_⟩;obtain⟨i,hi,rfl⟩:=bu.mp hx;have:=c2 i hi
   lia
end
noncomputable def ab7(hs:List F)(s1 s2:Y3)(a1 a2:List (List Nat))(so:List (List Int)):Bool:=Dm s1 s2 so&&decide (Cj hs a1 a2 (Td so) hs.length=[])
section
variable{m:Nat}{M:cj}{sz:Nat->Nat}{K n r:Nat}{hs:List F}{iw:List (List Kx×D)}{s1 s2:Y3}{a1 a2:List (List Nat)}{so:List (List Int)}
def aq0(hm:3<=m)(P:Oq sz K hs iw)(h:Made n r K hs iw M)(w1:Jf K hs s1 a1)(w2:Jf K hs s2 a2)(hj:∀js∈so,js.length<=100000):prog.call m 23 [.ref n,gh s1 a1,gh s2 a2,Bp so] M=.ok (.bl (ab7 hs s1 s2 a1 a2 so)) M:=by
 rw[call_of (a_ (by decide) hm) rfl];have e1:=aqy (m:=m-1) (M:=M) (a1:=a1) (a2:=a2) (r_ (a_ (by decide) hm)) (w2.ls.trans w1.ls.symm) hj;cases c:Dm s1 s2 so with
 |false =>
  rw[c] at e1;simp[Fn.run,Rn,Rm,e1,ab7,c]
 |true =>
  rw[c] at e1;obtain⟨ee,ft⟩:=fits_of c;have e2:=ae9 (m:=m-1) (r_ hm) P h w1 w2 ft;rw[<- ee] at e2;cases l:Cj hs a1 a2 (Td so) hs.length with
  |nil =>
   rw[l] at e2;have i1:Gw .is (headD []) .non M=some true:=rfl;simp[Fn.run,Rn,Rm,e1,e2,ab7,c,l,i1]
  |cons p q =>
   rw[l] at e2;have i1:Gw .is (headD (p::q)) .non M=some false:=rfl;simp[Fn.run,Rn,Rm,e1,e2,ab7,c,l,i1]
def X4(hm:1<=m)(P:Oq sz K hs iw)(h1:s1.length=K)(h2:s2.length=K)(h3:so.length=K)(hj:∀js∈so,js.length<=100000) :
 ∃fl ρ',Nh.den ⟨prog.call m,prog.cls⟩ [qi K r hs,gh s1 a1,gh s2 a2,Bp so,none] M=.ok (fl,ρ') M/\(fl=.next/\(∃b4,ρ'=[some (qi K r hs),some (gh s1 a1),some (gh s2 a2),some (Bp so),b4])/\Dm s1 s2 so=true\/fl=.ret (.bl false)/\Dm s1 s2 so=false):=by
 have loop:=Nv (W:=⟨prog.call m,prog.cls⟩) (t:=.name 4) (b:=Dp) (it:=.ix (.v 0) (.i 0)) (n:=s1.length) (ρ:=[qi K r hs,gh s1 a1,gh s2 a2,Bp so,none]) (M:=M) (M1:=M) (by simp[La,h1]) (by have:=P.k3;exact a_ (f_ h1) (a_ this (by decide)))
  (λi ρ M'=>(∃b4,ρ=[some (qi K r hs),some (gh s1 a1),some (gh s2 a2),some (Bp so),b4])/\M'=M/\∀j,j<i->Ui s1 s2 so j=true)
  (λv M'=>v=.bl false/\M'=M/\∃j,j<s1.length/\Ui s1 s2 so j=false) ⟨⟨none,rfl⟩,rfl,by simp⟩
  (λi ρ M1 hi hI=>by
   obtain⟨⟨b4,rfl⟩,rfl,q⟩:=hI;have j1:=axv (a:=so) (j:=i) (M:=M1) (b_ hi (a_ (f_ h1) (g_ h3)));have j2:=Gu (l:=s1) (i:=i) (M:=M1) hi;have j3:=Gu (l:=s2) (i:=i) (M:=M1) (b_ hi (a_ (f_ h1) (g_ h2)));have wi:=ale (m:=m) (M:=M1) (row:=so.getD i []) (many:=(s1.getD i 0:Nat)) (most:=(s2.getD i 0:Nat)) hm (by rw[bz,dh (b_ hi (a_ (f_ h1) (g_ h3)))];exact hj _ (qz _));have rb:Ui s1 s2 so i=aaa (so.getD i []) (s1.getD i 0:Nat) (s2.getD i 0:Nat):=rfl;rw[<- rb] at wi;generalize so.getD i []=js at j1 wi;generalize s1.getD i 0=A at j2 wi;generalize s2.getD i 0=B at j3 wi;refine⟨[some (qi K r hs),some (gh s1 a1),some (gh s2 a2),some (Bp so),some (.int i)],rfl,?_⟩;cases c:Ui s1 s2 so i with
   |true =>
    rw[c] at wi;refine⟨.next,_,M1,by simp[Dp,j1,Ff,j2,j3,wi],.inl ⟨rfl,⟨some (.int i),rfl⟩,rfl,λj hji=>?_⟩⟩
    by_cases ze:j=i
    . rw[ze];exact c
    . exact q j (by lia)
   |false =>
    rw[c] at wi;exact⟨.ret (.bl false),_,M1,by simp[Dp,j1,Ff,j2,j3,wi];rfl,.inr ⟨_,rfl,rfl,rfl,i,hi,c⟩⟩)
 rcases loop with⟨_,_,_,e,⟨rfl,q0,rfl,q⟩|⟨_,rfl,rfl,rfl,j,q1,q2⟩⟩
 . exact⟨_,_,e,.inl ⟨rfl,q0,by unfold Dm;rw[ae7 q];simp[h1,h3]⟩⟩
 . exact⟨_,_,e,.inr ⟨rfl,by unfold Dm;rw[ae8 q1 q2];simp⟩⟩
def a2u(h:M[q]?=some (.lst l)):vd M (.ref q) (.vl [])=some (decide (l=[])):=by
 simp only[vd];cases l with
 |nil=>simp[Kl,fu,h,Q8]|cons a l=>simp[Kl,fu,h]
def aq1(hm:2<=m)(P:Oq sz K hs iw)(w1:Jf K hs s1 a1)(w2:Jf K hs s2 a2)(hs7:∀x∈s1,x<=7)(hj:∀js∈so,js.length<=100000) :
 ∃M',prog.call m 32 [qi K r hs,gh s1 a1,gh s2 a2,Bp so] M=.ok (.bl (ab7 hs s1 s2 a1 a2 so)) M'/\zc M M':=by
 rw[call_of (a_ (by decide) hm) rfl]
 by_cases hl:so.length=K
 . have Yo:((so.length:Int)=(K:Int)):=E_ hl
   obtain⟨fl,ρ',e,h⟩:=X4 (m:=m-1) (M:=M) (r:=r) (a1:=a1) (a2:=a2) (r_ hm) P w1.ls w2.ls hl hj;rcases h with⟨rfl,⟨b4,rfl⟩,c⟩|⟨rfl,c⟩
   . obtain⟨ee,ft⟩:=fits_of c
     obtain⟨M2,e2,q2,k2⟩:=afa (m:=m-1) (M:=M) (r:=r) (r_ hm) P w1 w2 hs7 ft;rw[<- ee] at e2;have eq:=a2u q2;have hb:decide ((Cj hs a1 a2 (Td so) hs.length).map pD=[])=decide (Cj hs a1 a2 (Td so) hs.length=[]):=by simp
     rw[hb] at eq;exact⟨M2,by simp[Fn.run,Gq,Gp,Kg,La,Yo,e,e2,eq,ab7,c],k2⟩
   . exact⟨M,by simp[Fn.run,Gq,Gp,Kg,La,Yo,e,ab7,c],zc.refl M⟩
 . have Yo:¬((so.length:Int)=(K:Int)):=by lia
   have c:Dm s1 s2 so=false:=by simp[Dm,w1.ls,hl]
   exact⟨M,by simp[Fn.run,Gq,Gp,Kg,La,Yo,ab7,c],zc.refl M⟩
def aq2(hm:2<=m)(P:Oq sz K hs iw)(h1:s1.length=K)(h2:s2.length=K)(hn:so.length<=100000)(hj:∀js∈so,js.length<=100000) :
 ∃M',prog.call m 35 [qi K r hs,gh s1 a1,gh s2 a2,Bp so] M=.ok (.bl (Dm s1 s2 so)) M'/\zc M M':=by
 rw[call_of (a_ (by decide) hm) rfl];have c1:Kc.den ⟨prog.call (m-1),prog.cls⟩ [qi K r hs,gh s1 a1,gh s2 a2,Bp so,none] M=.ok (.vl ((so.map List.length).map nD)) M:=by
  unfold Kc;rw[Hk (ds:=so.map tupI) (M1:=M) (g:=λd=>match d with|.tup l=>.int l.length|_=>.non) (by rw[Rf];rfl) (by simpa using hn) (λx hx=>by
   obtain⟨y,hy,rfl⟩:=bu.mp hx;refine⟨_,rfl,?_⟩;show(Ex.l (.v 5)).den _ [qi K r hs,gh s1 a1,gh s2 a2,Bp so,none,tupI y] M=_;simp[O9];simp[tupI])]
  rw[cg rfl,tu,tu]
  congr 2
  exact qd λx _=>by simp[tupI,nD]
 have li:uh .list [Hf s1] M=.ok (.ref M.length) (M++[.lst (s1.map nD)]):=rfl;have eq:vd (M++[.lst (s1.map nD)]) (.vl ((so.map List.length).map nD)) (.ref M.length)=some (decide (so.map List.length=s1)):=by
  show Kl (M++[.lst (s1.map nD)]) 6 (.vl ((so.map List.length).map nD)) (.ref M.length)=_;have ha:fu (M++[.lst (s1.map nD)]) (.ref M.length)=some (s1.map nD):=o4 (by simp);unfold Kl;simp only[Tr,ha,dz]
  by_cases e:so.length=s1.length
  . rw[cg e,Vr]
  . rw[bx e,jx]
    intro z;exact e (by rw[<- z];simp)
 by_cases hl:so.map List.length=s1
 . have h3:so.length=K:=by rw[<- h1,<- hl];simp
   rw[yx hl] at eq;obtain⟨fl,ρ',e,h⟩:=X4 (m:=m-1) (M:=M++[.lst (s1.map nD)]) (r:=r) (a1:=a1) (a2:=a2) (r_ hm) P h1 h2 h3 hj;have e:Qh.den ⟨prog.call (m-1),prog.cls⟩ _ _=_:=e;refine⟨M++[.lst (s1.map nD)],?_,zc.app M _⟩;rcases h with⟨rfl,⟨b4,rfl⟩,c⟩|⟨rfl,c⟩
   . simp only[Fn.run,Jx,Jw]
     simp[-List.map_map,c1,Ff,li,eq,e,c]
   . simp only[Fn.run,Jx,Jw]
     simp[-List.map_map,c1,Ff,li,eq,e,c]
 . rw[jx hl] at eq
   have c:Dm s1 s2 so=false:=by
    cases c:Dm s1 s2 so with
    |false=>rfl
    |true =>
     refine absurd ?_ hl;obtain⟨_,ft⟩:=fits_of c;refine Ab λk=>?_
     have fl:so.length=s1.length:=by have:=ft.len;simpa[Td] using this
     by_cases hk:k<so.length
     . have:=(ft.ok k _ (by simp[Td,hk];rfl)).1
       rw[jd,dh hk,dh (b_ hk (f_ fl))];simp[bz,show k<s1.length by exact b_ hk (f_ fl)] at this;simp[this]
     . rw[p8 (by simp;exact s_ hk),p8 (a_ (g_ fl) (s_ hk))]
   refine⟨M++[.lst (s1.map nD)],?_,zc.app M _⟩;simp only[Fn.run,Jx,Jw];simp[-List.map_map,c1,Ff,li,eq,c]
end
def aq3(L:List (Nat×Nat))(h:M[q]?=some (.lst (L.map pD)))(hl:L.length<=1000):∃d,Cm .add (.ref q) (.vl [.non]) M=.ok d M/\Am d (.int 0) M=some (headD L):=by
 have ha:=o4 h;have e:Cm .add (.ref q) (.vl [.non]) M=.ok (.vl (L.map pD++[.non])) M:=by show ack (.ref q) (.vl [.non]) M=_;unfold ack;simp only[ha,Tr];rw[cg (by simp;exact a_ hl (by decide))]
 refine⟨_,e,?_⟩;cases L with
 |nil=>rfl|cons p l=>exact Ce (i:=0) rfl (by decide) rfl
def awm(M:cj)(L:List (Nat×Nat)):vd M (headD L) (headD L)=some true:=by
 cases L with
 |nil=>rfl|cons p l=>simp[headD,pD,vd,Kl,Q8]
section
variable{m:Nat}{M:cj}{sz:Nat->Nat}{K n r r':Nat}{hs:List F}{iw:List (List Kx×D)}{s1 s2:Y3}{a1 a2:List (List Nat)}{so:List (List Int)}
def aac(hm:4<=m)(P:Oq sz K hs iw)(h:Made n r K hs iw M)(w1:Jf K hs s1 a1)(w2:Jf K hs s2 a2)(hs7:∀x∈s1,x<=7)(hn:so.length<=100000)(hj:∀js∈so,js.length<=100000) :
 ∃M',prog.call m 36 [qi K r' hs,.ref n,gh s1 a1,gh s2 a2,Bp so] M=.ok (.bl true) M'/\zc M M':=by
 rw[call_of (a_ (by decide) hm) rfl];have e1:=aq0 (m:=m-1) (r_ hm) P h w1 w2 hj;obtain⟨M1,e2,k1⟩:=aq1 (m:=m-1) (M:=M) (r:=r') (r_ (a_ (by decide) hm)) P w1 w2 hs7 hj;obtain⟨M2,e3,k2⟩:=aq2 (m:=m-1) (M:=M1) (r:=r') (a1:=a1) (a2:=a2) (r_ (a_ (by decide) hm)) P w1.ls w2.ls hn hj;generalize ab7 hs s1 s2 a1 a2 so=b at e1 e2;have ib:uh .isBool [.bl b] M=.ok (.bl true) M:=rfl;cases c:Dm s1 s2 so with
 |false =>
  rw[c] at e3;exact⟨M2,by simp[Fn.run,Ke,Kd,e1,ib,e2,e3],k1.trans k2⟩
 |true =>
  rw[c] at e3;obtain⟨ee,ft⟩:=fits_of c;have e4:=ae9 (m:=m-1) (M:=M2) (r_ (a_ (by decide) hm)) P (h.keep (k1.trans k2)) w1 w2 ft;obtain⟨M3,e5,q5,k5⟩:=afa (m:=m-1) (M:=M2) (r:=r') (r_ (a_ (by decide) hm)) P w1 w2 hs7 ft;have ll:=X3 (a2:=a2) (rr:=Td so) w1 hs7 hs.length (bc _);have hl5:=P.len;obtain⟨d,e6,e7⟩:=aq3 _ q5 (by lia);have e8:=awm M3 (Cj hs a1 a2 (Td so) hs.length);rw[<- ee] at e4 e5;generalize headD (Cj hs a1 a2 (Td so) hs.length)=x at e4 e7 e8;exact⟨M3,by simp[Fn.run,Ke,Kd,e1,ib,e2,e3,e4,e5,e6,e7,e8],(k1.trans k2).trans k5⟩
end
noncomputable def DS(p K:Nat)(f:Nat->List (Kx×D))(M:cj):Prop:=∀i,i<K->M[p+i]?=some (.dK (f i))
noncomputable def upK(f:Nat->List (Kx×D))(i:Nat)(x:List (Kx×D))(j:Nat):List (Kx×D):=if j=i then x else f j
def X5(f:Nat->List (Kx×D))(i:Nat)(x:List (Kx×D)):upK f i x i=x:=cg rfl
def ab8(h:j≠i):upK f i x j=f j:=bx h
structure Gd(K c:Nat)(f:Nat->List (Kx×D)):Prop where
 len:∀i,i<K->(f i).length<=c
 val:∀i,i<K->∀e∈f i,∃y:Int,e.2=.int y
def Gd.look(h:Gd K c f)(hi:i<K)(e:vz (f i) q=some d):∃y:Int,d=.int y:=by obtain⟨p,h1,rfl⟩:=aez e;exact h.val i hi p h1
section
variable{m:Nat}{M:cj}{sz:Nat->Nat}{K n r p c:Nat}{hs:List F}{iw:List (List Kx×D)}{s1 s2:Y3}{a1 a2:List (List Nat)}{f:Nat->List (Kx×D)}
def afb(hm:1<=m)(w:Jf K hs s1 a1)(hx:.int x∈xj hs k)(hth:th<s1.getD k 0):∃y:Nat,prog.call m 28 [gh s1 a1,.int th,.int x] M=.ok (.int y) M/\(x=-1->y=th):=by
 rw[call_of hm rfl];rcases O8 hx with q|⟨i,g,q,hg,rfl⟩
 . cases q
   exact⟨th,by simp[Fn.run,Qw,Qv],λ_=>rfl⟩
 . cases q
   obtain⟨js,h1,h2,_⟩:=w.get hg;have i1:=Gu (M:=M) (l:=js) (i:=th) (b_ hth (g_ h2));have ni:¬((i:Int)<0):=by lia
   refine⟨js.getD th 0,?_,λh=>by lia⟩;generalize js.getD th 0=y at i1;simp[Fn.run,Qw,Qv,ni,ae6,Xy h1,i1]
def awn(hρ:ρ.length=12)(h3:ρ[3]?=some (some (.vl (lz p K))))(h:DS p K f M)(hK:K<=3) :
 ∃M',Iv.den W ρ M=.ok (.vl (lz M.length K)) M'/\DS M.length K f M'/\zc M M':=by
 unfold Iv;obtain⟨ys,M1,e,r1,r2,r3,r4⟩:=Gk (W:=W) (v:=true) (k:=1) (t:=.name 12) (it:=.v 3) (e:=.blt .dict (.o (.v 12))) (ρ:=ρ) (M:=M) (M1:=M) (d:=.vl (lz p K)) (ds:=lz p K) (by simp[h3]) rfl (by simp[lz];exact a_ hK (by decide))
  (λi xs M'=>xs=lz M.length i/\(∀e,e<i->M'[M.length+e]?=some (.dK (f e)))/\zc M M'/\M'.length=M.length+i) ⟨rfl,λe he=>absurd he (yc _),zc.refl M,rfl⟩ (λ_ _ _ _=>rfl)
  (λi y xs M' hy hI=>by
   obtain⟨rfl,q1,q2,q3⟩:=hI;have hi:i<K:=by have:=(ak.mp hy).1;simpa[lz] using this
   obtain rfl:D.ref (p+i)=y:=by simpa[lz,hi] using hy
   have hp:=q2 _ _ (h i hi);have e1:(ρ++List.replicate 1 none).set 12 (some (.ref (p+i)))=ρ++[some (.ref (p+i))]:=by rw[Bf];simp[hρ]
   have g9:(ρ++[some (D.ref (p+i))])[12]?=some (some (.ref (p+i))):=by rw[<- hρ];simp
   refine⟨_,.ref M'.length,M'++[.dK (f i)],rfl,?_,?_,λe he=>?_,q2.trans (zc.app _ _),by simp[q3];exact rfl⟩
   . rw[e1]
     simp[g9,uh,hp,MW.new]
   . simp[lz,v8,q3]
   . by_cases z:e=i
     . subst z;rw[<- q3];simp
     . exact yp (q1 e (by lia)))
 have hlr:(lz p K).length=K:=by simp[lz]
 rw[hlr] at r1 r2 r4;subst r1;exact⟨M1,e,λi hi=>r2 i hi,r3⟩
noncomputable abbrev EK(pt w1 w2 kn:D)(kd th e:Nat)(mo:D)(b8 b9 b10 Mg:Option D):Env:=[some pt,some w1,some w2,some kn,some (.int kd),some (.int th),some (.int e),some mo,b8,b9,b10,Mg]
def aq4(hm:2<=m)(P:Oq sz K hs iw)(w1:Jf K hs s1 a1)(w2:Jf K hs s2 a2)(hd:DS p K f M)(hg:Gd K c f)(hc:c<=1000)(hk:kd<K)(ht:th<s1.getD kd 0)(he:e<s2.getD kd 0) :
 ∃v M',prog.call m 29 [qi K r hs,gh s1 a1,gh s2 a2,.vl (lz p K),.int kd,.int th,.int e] M=.ok v M'/\zc M M' /\
  (v=.non\/∃f',v=.vl (lz M.length K)/\DS M.length K f' M'/\Gd K (c+6) f'/\(∀i q,i<K->(vz (f i) q).isSome=true->(vz (f' i) q).isSome=true)/\(vz (f' kd) (.inl (th:Int))).isSome=true):=by
 rw[call_of (a_ (by decide) hm) rfl];have hl5:=P.len;have h3:=P.k3;have m1:1<=m-1:=r_ hm
 obtain⟨M0,e0,d0,k0⟩:=awn (W:=⟨prog.call (m-1),prog.cls⟩) (ρ:=[qi K r hs,gh s1 a1,gh s2 a2,D.vl (lz p K),D.int kd,D.int th,D.int e,none,none,none,none,none]) rfl rfl hd h3;have wl:=Xq (hs:=hs) (k:=kd) hl5;have loop:=Rk (W:=⟨prog.call (m-1),prog.cls⟩) (t:=.name 8) (b:=El) (it:=.val (.call 18 (.p (.v 0) (.v 4)))) (s:=.con (xj hs kd)) (n:=(xj hs kd).length) (ρ:=EK (qi K r hs) (gh s1 a1) (gh s2 a2) (.vl (lz p K)) kd th e (.vl (lz M.length K)) none none none none) (M:=M0) (M1:=M0) (by simp[aeu m1 hl5,srcOf]) rfl
  (λi ρ M'=>(∃b8 b9 b10 Mg,ρ=EK (qi K r hs) (gh s1 a1) (gh s2 a2) (.vl (lz p K)) kd th e (.vl (lz M.length K)) b8 b9 b10 Mg)/\zc M M'/\∃f',DS M.length K f' M'/\Gd K (c+i) f'/\(∀j q,j<K->(vz (f j) q).isSome=true->(vz (f' j) q).isSome=true)/\(0<i->(vz (f' kd) (.inl (th:Int))).isSome=true))
  (λv M'=>v=.non/\zc M M') ⟨⟨none,none,none,none,rfl⟩,k0,f,d0,hg,λ_ _ _ h=>h,λh=>absurd h (mq _)⟩ (λ_ _ _=>rfl)
  (λi ρ M1 hi hI=>by
   obtain⟨⟨b8,b9,b10,Mg,rfl⟩,k1,f',d1,g1,mo,pr⟩:=hI;obtain⟨x,hx⟩:=Ms hi;have hxm:=au hx;obtain⟨xi,rfl⟩:=aet hxm;refine⟨_,EK (qi K r hs) (gh s1 a1) (gh s2 a2) (.vl (lz p K)) kd th e (.vl (lz M.length K)) (some (.int xi)) b9 b10 Mg,hx,rfl,?_⟩;have ee:=aex (K:=K) (r:=r) (M:=M1) m1 hxm;have fl:=ai7 P hk hxm;have fk:i=0->Dg hs kd (.int xi)=kd/\xi=-1:=λz=>by
    subst z;have:D.int (-1)=.int xi:=by simpa[xj] using hx
    cases this;exact⟨by simp[Dg],rfl⟩
   obtain⟨y1,l1,z1⟩:=afb (M:=M1) m1 w1 hxm ht;obtain⟨y2,l2,_⟩:=afb (M:=M1) m1 w2 hxm he;generalize Dg hs kd (.int xi)=far at ee fl fk;have ir:=Px (p:=M.length) (K:=K) (M:=M1) fl;have dk:=d1 far fl;have gt:=aqq (k:=(y1:Int)) (d:=.int (y2:Int)) dk;have ty:=axu dk;have st:=aqr (k:=(y1:Int)) (d:=.int (y2:Int)) dk (by have:=g1.len far fl;lia);obtain⟨u,hu⟩:∃u:Int,(vz (f' far) (.inl (y1:Int))).getD (.int (y2:Int))=.int u:=by
    cases el:vz (f' far) (.inl (y1:Int)) with
    |none=>exact⟨y2,rfl⟩|some d=>exact g1.look fl el
   rw[hu] at gt;have has:∀j q,(vz (f' j) q).isSome=true->(vz (upK f' far (Cq (f' far) (.inl (y1:Int)) (.int (y2:Int))) j) q).isSome=true:=λj q h=>by
    by_cases z:j=far
    . subst z
      rw[X5,ae1];split
      . rfl
      . exact h
    . rw[ab8 z];exact h
   by_cases cq:u=(y2:Int)
   . subst cq
     refine⟨.next,_,M1.set (M.length+far) (.dK (Cq (f' far) (.inl (y1:Int)) (.int (y2:Int)))),by simp[El,ee,l1,l2,ir,ty,gt,st],.inl ⟨rfl,⟨some (.int xi),some (.int far),some (.int y1),some (.int y2),rfl⟩,λa o h=>?_,upK f' far (Cq (f' far) (.inl (y1:Int)) (.int (y2:Int))),λj hj=>?_,⟨λj hj=>?_,λj hj v hv=>?_⟩,λj q hj hq=>?_,λ_=>?_⟩⟩
     . rw[su (by have:=ye h;exact i_ (b_ this x_))];exact k1 a o h
     . by_cases z:j=far
       . subst z
         rw[X5,vq dk]
       . rw[ab8 z,su (by lia)];exact d1 j hj
     . by_cases z:j=far
       . subst z
         rw[X5];have:=Tc (f' j) (.inl (y1:Int)) (.int (y2:Int));have:=g1.len j fl
         lia
       . rw[ab8 z]
         have:=g1.len j hj;exact a_ this (w_ x_)
     . by_cases z:j=far
       . subst z
         rw[X5] at hv;rcases V1 hv with q|q
         . exact g1.val j fl v q
         . exact⟨_,q⟩
       . rw[ab8 z] at hv
         exact g1.val j hj v hv
     . exact has j q (mo j q hj hq)
     . by_cases zi:i=0
       . obtain⟨a,b⟩:=fk zi
         have:=z1 b;subst this a;rw[X5,ae1,cg rfl];rfl
       . exact has kd _ (pr (by lia))
   . exact⟨.ret .non,_,M1,by simp[El,ee,l1,l2,ir,ty,gt,cq];rfl,.inr ⟨_,rfl,rfl,k1⟩⟩)
 rcases loop with⟨_,ρ',M',e2,⟨rfl,⟨b8,b9,b10,Mg,rfl⟩,kk,f',d1,g1,mo,pr⟩|⟨_,rfl,rfl,kk⟩⟩
 . have e2:Iu.den ⟨prog.call (m-1),prog.cls⟩ _ _=_:=e2
   exact⟨_,M',by simp[Fn.run,Ma,Lz,e0,e2],kk,.inr ⟨f',rfl,d1,⟨λi hi=>by have:=g1.len i hi;exact a_ this (w_ wl),g1.val⟩,mo,pr (by simp[xj])⟩⟩
 . have e2:Iu.den ⟨prog.call (m-1),prog.cls⟩ _ _=_:=e2
   exact⟨_,M',by simp[Fn.run,Ma,Lz,e0,e2],kk,.inl rfl⟩
end
noncomputable def aq5(n:Int):Int:=if 1<n then n else 1
def V2(h:n<1073741824):0<aq5 n/\aq5 n<1073741824:=by unfold aq5;split<;>omega
def max_1(M:cj)(n:Int):uh .max [.int 1,.int n] M=.ok (.int (aq5 n)) M:=rfl
noncomputable abbrev ET(t:Nat)(pt w1 w2 kn:D)(b5 b6 b7 b8 b9:Option D):Env:=[some (.ref t),some pt,some w1,some w2,some kn,b5,b6,b7,b8,b9]
section
variable{m t:Nat}{f0:Bool}{M:cj}{sz:Nat->Nat}{K r p c:Nat}{hs:List F}{iw:List (List Kx×D)}{s1 s2:Y3}{a1 a2:List (List Nat)}{f:Nat->List (Kx×D)}
def alg(hρ:ρ.length=10)(he:(Ex.ix (.v 1) (.i 0)).den W ρ M=.ok (.int K) M)(hK:K<=100000) :
 Eo.den W ρ M=.ok (.vl (lz M.length K)) (M++List.replicate K (.dK [])):=by
 obtain⟨ys,M',g,h1,h2⟩:=Hl (v:=true) (k:=1) (t:=.name 10) (e:=.aak) he hK (λi xs M'=>xs=lz M.length i/\M'=M++List.replicate i (.dK [])) ⟨rfl,by simp⟩
  (λi xs M' hi hI=>by
   obtain⟨rfl,rfl⟩:=hI;refine⟨_,.ref (M.length+i),M++List.replicate i (MO.dK [])++[MO.dK []],rfl,by simp[MW.new],?_,?_⟩
   . simp[lz,v8]
   . simp[List.replicate_succ'])
 have g:Eo.den W ρ M=_:=g;rw[g,h1,h2];rfl
structure Kn(t:Nat)(f0:Bool)(M:cj)(K p c:Nat)(f:Nat->List (Kx×D))(M':cj):Prop where
 st:St t f0 M M'
 tp:t<p
 ds:DS p K f M'
 gd:Gd K c f
def Kn.keep(h:Kn t f0 M K p c f M1)(k:zc M1 M2):Kn t f0 M K p c f M2:=⟨h.st.trans (St.of h.st.has k),h.tp,λi hi=>k _ _ (h.ds i hi),h.gd⟩
def Kn.go(h:Kn t f0 M K p c f M1)(k:St t f0 M1 M2):Kn t f0 M K p c f M2:=⟨h.st.trans k,h.tp,λi hi=>k.keep _ _ (by have:=h.tp;exact i_ (b_ this x_)) (h.ds i hi),h.gd⟩
def aq6(hm:3<=m)(P:Oq sz K hs iw)(w1:Jf K hs s1 a1)(w2:Jf K hs s2 a2)(h7:∀x∈s2,x<=7)(h:Kn t f0 M K p c f M1)(hc:c<=900)(hk:kd<K)(ht:th<s1.getD kd 0) :
 Goes (λ_ ρ M'=>∃c7 c8 c9 p' f',ρ=ET t (qi K r hs) (gh s1 a1) (gh s2 a2) (.vl (lz p' K)) (some (.int kd)) (some (.int th)) c7 c8 c9/\Kn t f0 M K p' (c+6) f' M'/\(∀i q,i<K->(vz (f i) q).isSome=true->(vz (f' i) q).isSome=true)/\(vz (f' kd) (.inl (th:Int))).isSome=true)
  (λv M'=>v=.non/\St t f0 M M') 0 (Ah.den ⟨prog.call m,prog.cls⟩ (ET t (qi K r hs) (gh s1 a1) (gh s2 a2) (.vl (lz p K)) (some (.int kd)) (some (.int th)) b7 b8 b9) M1):=by
 have ir:=Px (p:=p) (K:=K) (M:=M1) hk;have dk:=h.ds kd hk;have nin:Py M1 (.int th) (.ref (p+kd))=some (vz (f kd) (.inl (th:Int))).isSome:=by simp[Py,dk]
 cases c0:(vz (f kd) (.inl (th:Int))).isSome with
 |true =>
  rw[c0] at nin;exact⟨.next,_,M1,by simp[Ah,ir,nin],.inl ⟨rfl,b7,b8,b9,p,f,rfl,⟨h.st,h.tp,h.ds,λi hi=>by have:=h.gd.len i hi;exact a_ this x_,h.gd.val⟩,λ_ _ _ h=>h,c0⟩⟩
 |false =>
  rw[c0] at nin;have j3:=Gu (l:=s2) (i:=kd) (M:=M1) (by rw[w2.ls];exact hk);have b27:s2.getD kd 0<=7:=by
   rw[bz];cases e:s2[kd]? with
   |none=>simp|some y=>exact h7 y (au e)
  obtain⟨q1,q2⟩:=V2 (n:=(s2.getD kd 0:Nat)) (m_ (c_ b27 (by decide)));obtain⟨v,M2,e2,l2,s2',n2⟩:=Ai (m:=m) (a_ (by decide) hm) h.st.has q1 q2;have h2:=h.go s2';have j4:=Gu (l:=s2) (i:=kd) (M:=M2) (by rw[w2.ls];exact hk);generalize hB:s2.getD kd 0=B at *;obtain⟨ρ3,M3,e3,⟨c9,mo,rfl,h3,hmo⟩⟩:=ym (W:=⟨prog.call m,prog.cls⟩) (t:=.name 9) (b:=Cg) (it:=.ix (.ix (.v 3) (.i 0)) (.v 5)) (n:=B) (ρ:=ET t (qi K r hs) (gh s1 a1) (gh s2 a2) (.vl (lz p K)) (some (.int kd)) (some (.int th)) (some .non) (some (.int v)) b9) (M:=M2) (M1:=M2) (by simp[Ff,j4]) (a_ b27 (by decide))
   (λi ρ M'=>∃b9 mo,ρ=ET t (qi K r hs) (gh s1 a1) (gh s2 a2) (.vl (lz p K)) (some (.int kd)) (some (.int th)) (some mo) (some (.int v)) b9/\Kn t f0 M K p c f M'/\(mo=.non\/∃p' f',mo=.vl (lz p' K)/\Kn t f0 M K p' (c+6) f' M'/\(∀i q,i<K->(vz (f i) q).isSome=true->(vz (f' i) q).isSome=true)/\(vz (f' kd) (.inl (th:Int))).isSome=true))
   ⟨b9,.non,rfl,h2,.inl rfl⟩
   (λi ρ M3 hi hI=>by
    obtain⟨b9,mo,rfl,k3,hmo⟩:=hI;rcases hmo with rfl|⟨p',f',rfl,z1,z2,z3⟩
    . have j5:=Gu (l:=s2) (i:=kd) (M:=M3) (by rw[w2.ls];exact hk)
      rw[hB] at j5;have md:Cm .mod (.int ((i:Int)+(v:Int))) (.int (B:Int)) M3=.ok (.int (((i+v)%B:Nat):Int)) M3:=by rw[amx _ _ (by lia)];simp
      have lt:(i+v)%B<s2.getD kd 0:=by rw[hB];exact Nat.mod_lt _ (by lia)
      obtain⟨u,M4,e4,k4,h4⟩:=aq4 (m:=m) (M:=M3) (r:=r) (a_ (by decide) hm) P w1 w2 k3.ds k3.gd (a_ hc (by decide)) hk ht lt;generalize(i+v)%B=x at md e4;have is0:Gw .is .non .non M3=some true:=rfl;refine⟨_,.next,_,M4,rfl,by simp[Cg,is0,Ff,j5,md,e4],.inl rfl,some (.int i),u,rfl,k3.keep k4,?_⟩;rcases h4 with rfl|⟨f',rfl,d1,g1,mo,pr⟩
      . exact .inl rfl
      . exact .inr ⟨M3.length,f',rfl,⟨(k3.keep k4).st,by obtain⟨_,y,_⟩:=k3.st.has;exact ye y,d1,g1⟩,mo,pr⟩
    . have is0:Gw .is (.vl (lz p' K)) .non M3=some false:=rfl
      exact⟨_,.next,_,M3,rfl,by simp[Cg,is0],.inl rfl,some (.int i),_,rfl,k3,.inr ⟨p',f',rfl,z1,z2,z3⟩⟩)
  have e3:Jt.den ⟨prog.call m,prog.cls⟩ _ _=_:=e3;rcases hmo with rfl|⟨p',f',rfl,z1,z2,z3⟩
  . have is0:Gw .is .non .non M3=some true:=rfl
    exact⟨.ret .non,_,M3,by simp[Ah,ir,nin,Ff,j3,max_1,e2,e3,is0];rfl,.inr ⟨_,rfl,rfl,h3.st⟩⟩
  . have is0:Gw .is (.vl (lz p' K)) .non M3=some false:=rfl
    exact⟨.next,_,M3,by simp[Ah,ir,nin,Ff,j3,max_1,e2,e3,is0],.inl ⟨rfl,some (.vl (lz p' K)),some (.int v),c9,p',f',rfl,z1,z2,z3⟩⟩
def awo(P:Oq sz K hs iw)(w1:Jf K hs s1 a1)(h7:∀x∈s1,x<=7)(h:Kn t f0 M K p c f M1)(ha:∀k x,k<K->x<s1.getD k 0->(vz (f k) (.inl (x:Int))).isSome=true) :
 ∃so:List (List Int),Js.den W (ET t (qi K r hs) (gh s1 a1) w2 (.vl (lz p K)) b5 b6 b7 b8 b9) M1=.ok (.vl (so.map tupI)) M1/\so.length=K/\∀js∈so,js.length<=7:=by
 have h3:=P.k3;obtain⟨ys,M2,e,so,rfl,l1,l2,rfl⟩:=Hl (W:=W) (v:=true) (k:=1) (t:=.name 10) (it:=.ix (.v 1) (.i 0)) (e:=.blt .tuple (.o Em)) (ρ:=ET t (qi K r hs) (gh s1 a1) w2 (.vl (lz p K)) b5 b6 b7 b8 b9) (M:=M1) (M1:=M1) (n:=K) (by simp[La]) (a_ h3 (by decide))
  (λi xs M'=>∃so:List (List Int),xs=so.map tupI/\so.length=i/\(∀js∈so,js.length<=7)/\M'=M1) ⟨[],rfl,rfl,by simp,rfl⟩
  (λk xs M2 hk hI=>by
   obtain⟨so,rfl,l1,l2,rfl⟩:=hI;have j2:=Gu (l:=s1) (i:=k) (M:=M2) (by rw[w1.ls];exact hk);have b17:s1.getD k 0<=7:=by
    rw[bz];cases e:s1[k]? with
    |none=>simp|some y=>exact h7 y (au e)
   have hak:=ha k;generalize s1.getD k 0=A at j2 b17 hak;have ir:=Px (p:=p) (K:=K) (M:=M2) hk;have dk:=h.ds k hk;obtain⟨zs,M3,e,row,rfl,l3,rfl⟩:=Hl (W:=W) (v:=true) (k:=1) (t:=.name 11) (it:=.ix (.ix (.v 2) (.i 0)) (.v 10)) (e:=.ix (.ix (.v 4) (.v 10)) (.v 11)) (ρ:=[D.ref t,qi K r hs,gh s1 a1,some w2,D.vl (lz p K),b5,b6,b7,b8,b9,D.int k]) (M:=M2) (M1:=M2) (n:=A) (by simp[Ff,j2]) (a_ b17 (by decide))
    (λi xs M'=>∃row:List Int,xs=row.map D.int/\row.length=i/\M'=M2) ⟨[],rfl,rfl,rfl⟩
    (λx xs M3 hx hI=>by
     obtain⟨row,rfl,l3,rfl⟩:=hI;obtain⟨d,hd⟩:=ph.mp (hak x hk hx);obtain⟨y,rfl⟩:=h.gd.look hk hd;have ix:=(aw0 (b:=.int x) dk rfl).trans hd;exact⟨_,.int y,M3,rfl,by simp[ir,ix],row++[y],by simp,by simp[l3],rfl⟩)
   have e:Em.den W _ _=_:=e;exact⟨_,tupI row,M3,rfl,by simp[e,uh,tupI],so++[row],by simp,by simp[l1],λjs hj=>by
    rcases dj.mp hj with q|q
    . exact l2 js q
    . have:js=row:=by simpa using q
      rw[this];exact a_ (f_ l3) b17,rfl⟩)
 exact⟨so,e,l1,l2⟩
def awp(hm:4<=m)(P:Oq sz K hs iw)(hh:Ur t f0 M)(w1:Jf K hs s1 a1)(w2:Jf K hs s2 a2)(h17:∀x∈s1,x<=7)(h27:∀x∈s2,x<=7) :
 ∃v M',prog.call m 30 [.ref t,qi K r hs,gh s1 a1,gh s2 a2] M=.ok v M'/\St t f0 M M'/\(v=.non\/∃so:List (List Int),v=Bp so/\so.length=K/\∀js∈so,js.length<=7):=by
 rw[call_of (a_ (by decide) hm) rfl];have h3:=P.k3;have ht:t<M.length:=by obtain⟨_,h,_⟩:=hh;exact ye h
 have e0:=alg (W:=⟨prog.call (m-1),prog.cls⟩) (ρ:=[D.ref t,qi K r hs,gh s1 a1,gh s2 a2,none,none,none,none,none,none]) (M:=M) (K:=K) rfl (by simp[La]) (a_ h3 (by decide));have k0:Kn t f0 M K M.length 0 (λ_=>[]) (M++List.replicate K (.dK [])):=⟨St.of hh (zc.app _ _),ht,λi hi=>by rw[jg x_];simp[hi],λ_ _=>bc _,λ_ _ e he=>by cases he⟩;have loop:=Nv (W:=⟨prog.call (m-1),prog.cls⟩) (t:=.name 5) (b:=Ci) (it:=.ix (.v 1) (.i 0)) (n:=K) (ρ:=ET t (qi K r hs) (gh s1 a1) (gh s2 a2) (.vl (lz M.length K)) none none none none none) (M:=M++List.replicate K (.dK [])) (M1:=M++List.replicate K (.dK [])) (by simp[La]) (a_ h3 (by decide))
  (λkd ρ M'=>∃b5 b6 b7 b8 b9 p f,ρ=ET t (qi K r hs) (gh s1 a1) (gh s2 a2) (.vl (lz p K)) b5 b6 b7 b8 b9/\Kn t f0 M K p (42*kd) f M'/\∀k x,k<kd->x<s1.getD k 0->(vz (f k) (.inl (x:Int))).isSome=true)
  (λv M'=>v=.non/\St t f0 M M') ⟨none,none,none,none,none,M.length,_,rfl,k0,by simp⟩
  (λkd ρ M1 hk hI=>by
   obtain⟨b5,b6,b7,b8,b9,p,f,rfl,k1,al⟩:=hI;have j2:=Gu (l:=s1) (i:=kd) (M:=M1) (by rw[w1.ls];exact hk);have b17:s1.getD kd 0<=7:=by
    rw[bz];cases e:s1[kd]? with
    |none=>simp|some y=>exact h17 y (au e)
   refine⟨_,rfl,?_⟩;have inner:=Nv (W:=⟨prog.call (m-1),prog.cls⟩) (t:=.name 6) (b:=Ah) (it:=.ix (.ix (.v 2) (.i 0)) (.v 5)) (n:=s1.getD kd 0) (ρ:=ET t (qi K r hs) (gh s1 a1) (gh s2 a2) (.vl (lz p K)) (some (.int kd)) b6 b7 b8 b9) (M:=M1) (M1:=M1) (by simp[Ff,j2]) (a_ b17 (by decide))
    (λth ρ M'=>∃b6 b7 b8 b9 p f',ρ=ET t (qi K r hs) (gh s1 a1) (gh s2 a2) (.vl (lz p K)) (some (.int kd)) b6 b7 b8 b9/\Kn t f0 M K p (42*kd+6*th) f' M'/\(∀i q,i<K->(vz (f i) q).isSome=true->(vz (f' i) q).isSome=true)/\∀x,x<th->(vz (f' kd) (.inl (x:Int))).isSome=true)
    (λv M'=>v=.non/\St t f0 M M') ⟨b6,b7,b8,b9,p,f,rfl,k1,λ_ _ _ h=>h,by simp⟩
    (λth ρ M2 hth hI=>by
     obtain⟨b6,b7,b8,b9,p',f',rfl,k2,mo,pr⟩:=hI;refine⟨_,rfl,?_⟩;obtain⟨fl,ρ',M',e,q⟩:=aq6 (m:=m-1) (r:=r) (r_ hm) P w1 w2 h27 k2 (by lia) hk hth (b7:=b7) (b8:=b8) (b9:=b9);refine⟨fl,ρ',M',e,?_⟩;rcases q with⟨rfl,c7,c8,c9,p2,f2,rfl,k3,mo2,pr2⟩|q
     . refine .inl ⟨rfl,some (.int th),c7,c8,c9,p2,f2,rfl,k3,λi q hi hq=>mo2 i q hi (mo i q hi hq),λx hx=>?_⟩
       by_cases z:x=th
       . rw[z];exact pr2
       . exact mo2 kd _ hk (pr x (by lia))
     . exact .inr q)
   obtain⟨fl,ρ',M',e,q⟩:=inner;have e:Ju.den ⟨prog.call (m-1),prog.cls⟩ _ _=_:=e;rcases q with⟨rfl,c6,c7,c8,c9,p2,f2,rfl,k3,mo2,pr2⟩|⟨v,rfl,q⟩
   . refine⟨.next,_,M',by simp[Ci,e],.inl ⟨rfl,some (.int kd),c6,c7,c8,c9,p2,f2,rfl,⟨k3.st,k3.tp,k3.ds,λi hi=>by have:=k3.gd.len i hi;lia,k3.gd.val⟩,λk x hk' hx=>?_⟩⟩
     by_cases z:k=kd
     . subst z;exact pr2 x hx
     . exact mo2 k _ (b_ hk' hk) (al k x (by lia) hx)
   . exact⟨.ret v,ρ',M',by simp[Ci,e],.inr ⟨v,rfl,q⟩⟩)
 obtain⟨fl,ρ',M',e,q⟩:=loop;have e:Jv.den ⟨prog.call (m-1),prog.cls⟩ _ _=_:=e;rcases q with⟨rfl,b5,b6,b7,b8,b9,p,f,rfl,k1,al⟩|⟨v,rfl,rfl,q⟩
 . obtain⟨so,e2,l1,l2⟩:=awo (W:=⟨prog.call (m-1),prog.cls⟩) (r:=r) P w1 h17 k1 al (b5:=b5) (b6:=b6) (b7:=b7) (b8:=b8) (b9:=b9) (w2:=gh s2 a2)
   exact⟨Bp so,M',by simp[Fn.run,Ha,G9,e0,e,e2,uh,Bp],k1.st,.inr ⟨so,rfl,l1,l2⟩⟩
 . exact⟨.non,M',by simp[Fn.run,Ha,G9,e0,e],q,.inl rfl⟩
end
end K11
namespace MW
section
variable{W:Jl}{ρ:Env}{M:cj}{α:Type}{g:α->D}{l l2:List α}
def X6(k:Nat):Hh (.tup (l.map g)) none (some (k:Int)) M=some (.tup ((l.take k).map g)):=by
 have e:clip l.length l.length (some (k:Int))=min k l.length:=by simp[clip]
 simp only[Hh,We,dz,e];rw[show clip l.length 0 none=0 from rfl,List.drop_zero,Nat.sub_zero,List.map_take]
 congr 2
 by_cases h:k<=l.length
 . rw[Bg h]
 . rw[Ar (e_ (t_ h)),ux (by simp),ux (by simp;exact e_ (t_ h))]
def X7(k:Nat):Hh (.tup (l.map g)) (some (k:Int)) none M=some (.tup ((l.drop k).map g)):=by
 have e:clip l.length 0 (some (k:Int))=min k l.length:=by simp[clip]
 simp only[Hh,We,dz,e];rw[show clip l.length l.length none=l.length from rfl,List.map_drop,ux (by simp)]
 congr 2
 by_cases h:k<=l.length
 . rw[Bg h]
 . rw[Ar (e_ (t_ h)),List.drop_of_length_le (by simp),List.drop_of_length_le (by simp;exact e_ (t_ h))]
def Q7(h:l.length+l2.length<=100000):Cm .add (.tup (l.map g)) (.tup (l2.map g)) M=.ok (.tup ((l++l2).map g)) M:=by rw[ajy _ _ (by simpa using h),qu]
def aq8{kk:Nat}(ha:a.den W ρ M=.ok (.tup (l.map g)) M)(hk:k.den W ρ M=.ok (.int (kk:Int)) M)(hx:x.den W ρ M=.ok (g d) M)(hl:l.length<=10000) :
 (Ex.bin .add (.bin .add (.cut a .none (.some k)) (.tup (.o x))) (.cut a (.some (.bin .add k (.i 1))) .none)).den W ρ M=.ok (.tup ((l.take kk++[d]++l.drop (kk+1)).map g)) M:=by
 have e1:=X6 (M:=M) (g:=g) (l:=l) kk;have e2:=X7 (M:=M) (g:=g) (l:=l) (kk+1);have l1:=List.length_take_le kk l;have l2:(l.drop (kk+1)).length<=l.length:=by rw[wz];exact C_
 have l1':(l.take kk).length<=l.length:=by rw[w5];lia
 generalize l.take kk=u at *;generalize l.drop (kk+1)=v at *;have a1:=Q7 (M:=M) (g:=g) (l:=u) (l2:=[d]) (by simp;exact a_ l1' (a_ hl (by decide)));have a2:=Q7 (M:=M) (g:=g) (l:=u++[d]) (l2:=v) (by simp;lia);generalize u++[d]=w at a1 a2;have a1:Cm .add (.tup (u.map g)) (.tup [g d]) M=_:=a1;have e2:Hh (.tup (l.map g)) (some ((kk:Int)+1)) none M=_:=e2;simp[-List.map_append,ha,hk,hx,e1,e2,a1,a2]
def V1(h:y∈l.take kk++[d]++l.drop (kk+1)):y=d\/y∈l:=by
 rcases dj.mp h with q|q
 . rcases dj.mp q with q|q
   . exact .inr (List.mem_of_mem_take q)
   . exact .inl (by simpa using q)
 . exact .inr (List.mem_of_mem_drop q)
def Tc:(l.take kk++[d]++l.drop (kk+1)).length<=l.length+1:=by simp only[m6,w5,wz,gr,Be];omega
def ajg(M:cj)(l:List D):vd M (.tup l) (.tup [])=some (decide (l=[])):=by cases l<;>simp[vd,Kl,Q8]
end
end MW
namespace K11
open MW
def a9x(M:cj)(l:Xs):vd M (tupI l) (.tup [])=some (decide (l=[])):=by rw[tupI,ajg];simp
def a9y(M:cj)(l:List (List Int)):vd M (Bp l) (.tup [])=some (decide (l=[])):=by rw[Bp,ajg];simp
noncomputable abbrev EZ(t:Nat)(so:List (List Int))(w:D)(a b c d e f:Option D):Env:=[some (.ref t),some (Bp so),some w,a,b,c,d,e,f]
section
variable{m t K c w k kd:Nat}{f:Bool}{M:cj}{so:List (List Int)}{row:Xs}{s2:Y3}{a2:List (List Nat)}{z7 z8:Option D}
def a9z(hm:1<=m)(hh:Ur t f M)(hw:w<8)(w0:w≠0)(w1:w≠1)(hr:row.length<=1000)(h7:∀x∈s2,x<=7)(hk:kd<s2.length+2)(hl:s2.length<=1000):∃Vm c7 c8 M',Vm.length<=2*row.length+1/\St t f M M' /\
 zu.den ⟨prog.call m,prog.cls⟩ (EZ t so (gh s2 a2) (some (.int kd)) (some (.int w)) (some (tupI row)) (some (.int k)) z7 z8) M=.ok (.next,EZ t so (gh s2 a2) (some (.int kd)) (some (.int w)) (some (tupI Vm)) (some (.int k)) c7 c8) M':=by
 have et:=a9x M row
 by_cases q2:w=2\/row=[]
 . have a1:=Q7 (M:=M) (g:=D.int) (l:=row) (l2:=[0]) (by simp;exact a_ hr (by decide))
   have a1:Cm .add (tupI row) (.tup [.int 0]) M=.ok (tupI (row++[0])) M:=a1;refine⟨row++[0],z7,z8,M,by simp;lia,St.of hh (zc.refl _),?_⟩;generalize row++[0]=Vm at a1
   by_cases w2:(w:Int)=2
   . simp[zu,w2,a1]
   . rw[yx (q2.resolve_left (by lia))] at et
     simp[zu,w2,et,a1]
 . simp only[not_or] at q2
   obtain⟨q2,r0⟩:=q2;rw[jx r0] at et;have w2:¬((w:Int)=2):=by lia
   have c1:=X7 (M:=M) (g:=D.int) (l:=row) 1;have c1:Hh (tupI row) (some 1) none M=some (tupI (row.drop 1)):=c1
   by_cases q3:w=3
   . have w3:((w:Int)=3):=E_ q3
     refine⟨row.drop 1,z7,z8,M,by rw[wz];lia,St.of hh (zc.refl _),?_⟩;generalize row.drop 1=Vm at c1;simp[zu,Df,w2,w3,et,c1]
   . have w3:¬((w:Int)=3):=by lia
     by_cases q4:w=4
     . have w4:((w:Int)=4):=E_ q4
       have c2:=X6 (M:=M) (g:=D.int) (l:=row) 1;have c2:Hh (tupI row) none (some 1) M=some (tupI (row.take 1)):=c2;have l1:(row.drop 1).length<=row.length:=by rw[wz];exact C_
       have l2:(row.take 1).length<=1:=by rw[w5];lia
       have a1:=Q7 (M:=M) (g:=D.int) (l:=row.drop 1) (l2:=row.take 1) (by lia);have a1:Cm .add (tupI (row.drop 1)) (tupI (row.take 1)) M=.ok (tupI (row.drop 1++row.take 1)) M:=a1;refine⟨row.drop 1++row.take 1,z7,z8,M,by rw[m6];lia,St.of hh (zc.refl _),?_⟩;generalize row.drop 1++row.take 1=Vm at a1;generalize row.drop 1=u at a1 c1;generalize row.take 1=v at a1 c2;simp[zu,Df,Gb,w2,w3,w4,et,c1,c2,a1]
     . have w4:¬((w:Int)=4):=by lia
       have a0:=Q7 (M:=M) (g:=nD) (l:=s2) (l2:=[0,0]) (by simp;exact a_ hl (by decide));have a0:Cm .add (Hf s2) (.tup [.int 0,.int 0]) M=.ok (Hf (s2++[0,0])) M:=a0;have ik:=Gu (M:=M) (l:=s2++[0,0]) (i:=kd) (by simp;exact hk);have b7:(s2++[0,0]).getD kd 0<=7:=by
        rw[bz];cases e:(s2++[0,0])[kd]? with
        |none=>simp
        |some y =>
         rcases dj.mp (au e) with q|q
         . exact h7 y q
         . have:y=0:=by simpa using q
           simp[this]
       generalize(s2++[0,0]).getD kd 0=mo at ik b7;generalize s2++[0,0]=so2 at a0 ik;obtain⟨p3,p4⟩:=V2 (n:=(mo:Int)) (m_ (c_ b7 (by decide)));obtain⟨u,M3,e3,l3,s3,n3⟩:=Ai (m:=m) hm hh p3 p4;obtain⟨fr,ef⟩:∃fr:Int,Am (.vl [.int mo,.int (-1),.int u]) (.int ((w:Int)-5)) M3=some (.int fr):=by
        have:w=5\/w=6\/w=7:=by lia
        rcases this with rfl|rfl|rfl<;>exact⟨_,rfl⟩
       have e4:=aq8 (W:=⟨prog.call m,prog.cls⟩) (M:=M3) (ρ:=EZ t so (gh s2 a2) (some (.int kd)) (some (.int w)) (some (tupI row)) (some (.int k)) (some (.int mo)) (some (.int fr))) (a:=.v 5) (k:=.v 6) (x:=.v 8) (g:=D.int) (l:=row) (d:=fr) (kk:=k) rfl rfl rfl (a_ hr (by decide));have e4:(Ex.bin .add (.bin .add (.cut (.v 5) .none (.some (.v 6))) (.tup (.o (.v 8)))) (.cut (.v 5) (.some (.bin .add (.v 6) (.i 1))) .none)).den _ _ _=.ok (tupI (row.take k++[fr]++row.drop (k+1))) _:=e4;have pl:=MW.Tc (l:=row) (kk:=k) (d:=fr);refine⟨row.take k++[fr]++row.drop (k+1),some (.int mo),some (.int fr),M3,by lia,s3,?_⟩;generalize row.take k++[fr]++row.drop (k+1)=Vm at e4;simp[-Rh,zu,Df,Gb,w2,w3,w4,et,Rh .add (.ix _ _),Rh .sub,Ff,a0,ik,max_1,e3,ef,e4]
def a90(hm:2<=m)(hh:Ur t f M)(h7:∀x∈s2,x<=7)(hK:s2.length<=3)(hl:so.length<=s2.length+1)(hr:∀js∈so,js.length<=c)(hc:c<=400) :
 ∃so' M',prog.call m 34 [.ref t,Bp so,gh s2 a2] M=.ok (Bp so') M'/\so'.length<=so.length+1/\(∀js∈so',js.length<=2*c+1)/\St t f M M':=by
 rw[call_of (a_ (by decide) hm) rfl];obtain⟨p1,p2⟩:=V2 (n:=so.length) (by lia);obtain⟨kd,M1,e1,l1,s1,n1⟩:=Ai (m:=m-1) (r_ hm) hh p1 p2;obtain⟨w,M2,e2,l2,s2',n2⟩:=Ai (m:=m-1) (many:=8) (r_ hm) s1.has (by decide) (by decide);have st2:=s1.trans s2';have et:=a9y M2 so
 by_cases q4:so=[]\/w=0
 . have a1:=Q7 (M:=M2) (g:=tupI) (l:=so) (l2:=[[]]) (by simp;lia)
   have a1:Cm .add (Bp so) (.tup [.tup []]) M2=.ok (Bp (so++[[]])) M2:=a1;refine⟨so++[[]],M2,?_,by simp,λjs hj=>?_,st2⟩
   . generalize so++[[]]=so' at a1
     by_cases r0:so=[]
     . rw[yx r0] at et
       simp[Fn.run,Cy,Cw,Bu,Kg,max_1,e1,e2,et,a1]
     . rw[jx r0] at et
       have w0:=q4.resolve_left r0;simp[Fn.run,Cy,Cw,Bu,Kg,max_1,e1,e2,et,w0,a1]
   . rcases dj.mp hj with q|q
     . have:=hr js q;lia
     . have:js=[]:=by simpa using q
       rw[this];simp
 . simp only[not_or] at q4
   obtain⟨r0,w0⟩:=q4;rw[jx r0] at et;have bc2:=List.length_pos_iff.mpr r0;have hk:kd<so.length:=by unfold aq5 at l1;split at l1<;>omega
   have ia:=axv (a:=so) (j:=kd) (M:=M2) hk;have ald:=hr _ (au (show so[kd]?=some (so.getD kd []) by rw[bz,dh hk];rfl));generalize so.getD kd []=row at ia ald;obtain⟨p3,p4⟩:=V2 (n:=row.length) (m_ (c_ ald (c_ hc (by decide))));obtain⟨k,M3,e3,l3,s3,n3⟩:=Ai (m:=m-1) (r_ hm) s2'.has p3 p4;have st3:=st2.trans s3
   by_cases w1:w=1
   . have w1':((w:Int)=1):=E_ w1
     have c1:=X6 (M:=M3) (g:=tupI) (l:=so) kd;have c2:=X7 (M:=M3) (g:=tupI) (l:=so) (kd+1);have c1:Hh (Bp so) none (some (kd:Int)) M3=some (Bp (so.take kd)):=c1;have c2:Hh (Bp so) (some ((kd:Int)+1)) none M3=some (Bp (so.drop (kd+1))):=c2;have y1:(so.take kd).length+(so.drop (kd+1)).length<=so.length:=by rw[w5,wz];lia
     have a1:=Q7 (M:=M3) (g:=tupI) (l:=so.take kd) (l2:=so.drop (kd+1)) (by lia);have a1:Cm .add (Bp (so.take kd)) (Bp (so.drop (kd+1))) M3=.ok (Bp (so.take kd++so.drop (kd+1))) M3:=a1;refine⟨so.take kd++so.drop (kd+1),M3,?_,by rw[m6];exact a_ y1 x_,λjs hj=>?_,st3⟩
     . generalize so.take kd++so.drop (kd+1)=so' at a1
       generalize so.take kd=u at a1 c1;generalize so.drop (kd+1)=v at a1 c2;simp[Fn.run,Cy,Cw,Bu,Ge,Kg,O9,max_1,e1,e2,e3,et,w0,w1',ia,c1,c2,a1]
     . rcases dj.mp hj with q|q
       . have:=hr js (List.mem_of_mem_take q);lia
       . have:=hr js (List.mem_of_mem_drop q);lia
   . have w1':¬((w:Int)=1):=by lia
     obtain⟨Vm,c7,c8,M4,z1,s4,e4⟩:=a9z (m:=m-1) (M:=M3) (so:=so) (a2:=a2) (k:=k) (kd:=kd) (w:=w) (row:=row) (z7:=none) (z8:=none) (r_ hm) s3.has (o_ l2) w0 w1 (a_ ald (a_ hc (by decide))) h7 (b_ hk (a_ hl (w_ (by decide)))) (a_ hK (by decide));have e5:=aq8 (W:=⟨prog.call (m-1),prog.cls⟩) (M:=M4) (ρ:=EZ t so (gh s2 a2) (some (.int kd)) (some (.int w)) (some (tupI Vm)) (some (.int k)) c7 c8) (a:=.v 1) (k:=.v 3) (x:=.v 5) (g:=tupI) (l:=so) (d:=Vm) (kk:=kd) rfl rfl rfl (by lia);have e5:(Ex.bin .add (.bin .add (.cut (.v 1) .none (.some (.v 3))) (.tup (.o (.v 5)))) (.cut (.v 1) (.some (.bin .add (.v 3) (.i 1))) .none)).den _ _ _=.ok (Bp (so.take kd++[Vm]++so.drop (kd+1))) _:=e5;refine⟨so.take kd++[Vm]++so.drop (kd+1),M4,?_,MW.Tc,λjs hj=>?_,st3.trans s4⟩
     . generalize so.take kd++[Vm]++so.drop (kd+1)=so' at e5
       simp[-Rh,Fn.run,Cy,Cw,Bu,Ge,Kg,O9,max_1,e1,e2,e3,et,w0,w1',ia,e4,e5]
     . rcases MW.V1 hj with rfl|q
       . lia
       . have:=hr js q;lia
end
end K11
namespace K11
open MW
def mul_one(M:cj)(n:Nat)(h:n<=100000):Cm .mul (.tup [.int 0]) (.int n) M=.ok (tupI (List.replicate n 0)) M:=by show acn (.tup [.int 0]) (.int n) M=_;simp only[acn];rw[cg (⟨q_,n_ h⟩)];simp[tupI]
noncomputable def cc(i:Nat):Nat:=8*2 ^ i-1
def a2v{m:Nat}{ns:Xs}{M:cj}(hm:6<=m):∃M',prog.call m 37 [.fz (ns.map D.int)] M=.ok (.bl true) M':=by
 rw[call_of (a_ (by decide) hm) rfl];refine hG λ_ _k=>?_
 obtain⟨ρ',M',e,⟨b1,b2,b3,b4,b5,b6,b7,b8,rfl⟩⟩:=ym (W:=⟨prog.call (m-1),prog.cls⟩) (t:=.name 1) (b:=aau) (it:=.i 2) (n:=2) (ρ:=[D.fz (ns.map D.int),none,none,none,none,none,none,none,none]) (M:=M) (M1:=M) rfl (by decide)
  (λ_ ρ M'=>∃b1 b2 b3 b4 b5 b6 b7 b8:Option D,ρ=[some (.fz (ns.map D.int)),b1,b2,b3,b4,b5,b6,b7,b8]) ⟨none,none,none,none,none,none,none,none,rfl⟩
  (λk ρ M hk hI=>by
   refine hG λ_ _k=>?_
   obtain⟨b1,b2,b3,b4,b5,b6,b7,b8,rfl⟩:=hI;obtain⟨n0,f0,s0,o0⟩:=am4 (m:=m-1) (k:=k) (ns:=ns) (M:=M) (r_ (a_ (by decide) hm));have hh0:Ur M.length f0 (M++[.lst [.int n0,.bl f0]]):=⟨n0,by simp,o0⟩;obtain⟨K,r,sz,hs,iw,M1,e0,p0,lr,P,t0⟩:=af7 (m:=m-1) (r_ (a_ (by decide) hm)) hh0;have e0:prog.call (m-1) 17 [.ref M.length] (M++[.lst [.int n0,.bl f0]])=.ok (qi K r hs) M1:=e0;apply _k;have hrt:r≠M.length:=by have:=lr;simp at this;lia
   refine hG λ_ _k=>?_
   have nn:(M1++[.ins 2 []])[M1.length]?=some (.ins 2 []):=by simp
   obtain⟨M2,a0,i0,md,la,lb,k0⟩:=atg (M:=M1++[.ins 2 []]) (m:=m-1) (r:=r) (n:=M1.length) (r_ (a_ (by decide) hm)) P (yp p0) nn;have k0':zc M1 M2:=λa o h=>k0 a o (by have:=ye h;exact h_ this) (yp h)
   have mk:(Ex.make 2 (.q (.ix (.v 3) (.i 0)) (.ix (.v 3) (.i 1)) (.ix (.v 3) (.i 2)))).den ⟨prog.call (m-1),prog.cls⟩ [D.fz (ns.map D.int),D.int k,D.ref M.length,qi K r hs,b4,b5,b6,b7,b8] M1=.ok (.ref M1.length) M2:=by have cl:(prog.cls)[2]?=some ⟨0,[(0,1),(1,2),(2,3),(3,4),(4,5)]⟩:=rfl;simp[La,Ni,axr,cl,i0]
   apply _k;have hM1:M.length<M1.length:=by obtain⟨k,h,o⟩:=t0.has;exact ye h
   have hh2:Ur M.length f0 M2:=by obtain⟨k,h,o⟩:=t0.has;exact⟨k,k0' _ _ h,o⟩
   have ha0:a0≠M.length:=by have:=la;simp at this;lia
   refine hG λ_ _k=>?_
   have h3:=P.k3;have made:∀{A B:cj},Made M1.length a0 K hs iw A->St M.length f0 A B->Made M1.length a0 K hs iw B:=λh s=>⟨s.keep _ _ (i_ hM1) h.1,s.keep _ _ ha0 h.2⟩
   obtain⟨s1,a1,M4,e4,w1,s4⟩:=ae5 (m:=m-1) (r:=r) (r_ (a_ (by decide) hm)) P hh2 (k0' _ _ p0) hrt;obtain⟨s2,a2,M5,e5,w2,s5⟩:=ae5 (m:=m-1) (r:=r) (r_ (a_ (by decide) hm)) P s4.has (s4.keep _ _ hrt (k0' _ _ p0)) hrt;have v1:Jf K hs s1 a1:=⟨w1.ls,w1.la,w1.ok⟩;have v2:Jf K hs s2 a2:=⟨w2.ls,w2.la,w2.ok⟩;obtain⟨v,M6,e6,s6,hv⟩:=awp (m:=m-1) (M:=M5) (r:=r) (r_ (a_ (by decide) hm)) P s5.has v1 v2 w1.sm w2.sm;have st6:=(s4.trans s5).trans s6;obtain⟨so,ei,lso,rso⟩:∃so:List (List Int),(Br.f (.cmp .is (.v 7) (.cst .non)) (.o (.a 7 (.blt .tuple (.o Vq))))).den ⟨prog.call (m-1),prog.cls⟩ [D.fz (ns.map D.int),D.int k,D.ref M.length,qi K r hs,D.ref M1.length,gh s1 a1,gh s2 a2,some v,b8] M6 =
    .ok (.next,[some (.fz (ns.map D.int)),some (.int k),some (.ref M.length),some (qi K r hs),some (.ref M1.length),some (gh s1 a1),some (gh s2 a2),some (Bp so),b8]) M6/\so.length=K/\∀js∈so,js.length<=7:=by
    rcases hv with rfl|⟨so,rfl,l1,l2⟩
    . have is0:Gw .is .non .non M6=some true:=rfl
      have c1:Vq.den ⟨prog.call (m-1),prog.cls⟩ [D.fz (ns.map D.int),D.int k,D.ref M.length,qi K r hs,D.ref M1.length,gh s1 a1,gh s2 a2,some .non,b8] M6=.ok (.vl ((s1.map λn=>List.replicate n 0).map tupI)) M6:=by
       unfold Vq;rw[Hk (ds:=s1.map nD) (M1:=M6) (g:=λd=>match d with|.int i=>tupI (List.replicate i.toNat 0)|_=>.non) (by simp[Ff,Hf]) (by rw[dz,w1.ls];exact a_ h3 (by decide)) (λx hx=>by
        obtain⟨y,hy,rfl⟩:=bu.mp hx;refine⟨_,rfl,?_⟩;have:=mul_one M6 y (by have:=w1.sm y hy;exact a_ this (by decide));show(Ex.bin .mul (.tup (.o (.i 0))) (.v 9)).den _ [D.fz (ns.map D.int),D.int k,D.ref M.length,qi K r hs,D.ref M1.length,gh s1 a1,gh s2 a2,some .non,b8,D.int y] M6=_;simp[this,nD])]
       rw[cg rfl,tu,tu];rfl
      refine⟨s1.map λn=>List.replicate n 0,?_,by simp[w1.ls],λjs hj=>?_⟩
      . generalize(s1.map λn=>List.replicate n (0:Int))=so at c1
        simp[is0,c1,uh,Bp]
      . obtain⟨y,hy,rfl⟩:=bu.mp hj
        rw[vg];exact w1.sm y hy
    . have is0:Gw .is (Bp so) .non M6=some false:=rfl
      exact⟨so,by simp[is0],l1,l2⟩
   obtain⟨M7,e7,k7⟩:=aac (m:=m-1) (r':=r) (r_ (a_ (by decide) hm)) P (made md st6) v1 v2 w1.sm (so:=so) (a_ (f_ lso) (a_ h3 (by decide))) (λjs hj=>by have:=rso js hj;exact a_ this (by decide));have st7:=st6.trans (St.of st6.has k7);obtain⟨u,M8,e8,l8,s8,n8⟩:=Ai (m:=m-1) (many:=3) (r_ (a_ (by decide) hm)) st7.has (by decide) (by decide);obtain⟨ρ9,M9,e9,⟨c8,so',rfl,_⟩⟩:=ym (W:=⟨prog.call (m-1),prog.cls⟩) (t:=.name 8) (b:=aat) (it:=.call 14 (.p (.v 2) (.i 3))) (n:=u) (ρ:=[D.fz (ns.map D.int),D.int k,D.ref M.length,qi K r hs,D.ref M1.length,gh s1 a1,gh s2 a2,Bp so,b8]) (M:=M7) (M1:=M8) (by simp[e8]) (e_ (b_ (o_ l8) (by decide)))
    (λi ρ M'=>∃(b8:Option D)(so:List (List Int)),ρ=[some (.fz (ns.map D.int)),some (.int k),some (.ref M.length),some (qi K r hs),some (.ref M1.length),some (gh s1 a1),some (gh s2 a2),some (Bp so),b8]/\so.length<=K+i/\(∀js∈so,js.length<=cc i)/\St M.length f0 M2 M')
    ⟨b8,so,rfl,a_ (f_ lso) x_,rso,st7.trans s8⟩
    (λi ρ M9 hi hI=>by
     refine hG λ_ _k=>?_
     obtain⟨b8,so,rfl,q1,q2,q3⟩:=hI;have hi2:i=0\/i=1:=by lia
     apply _k;obtain⟨so',M10,e10,q4,q5,s10⟩:=a90 (m:=m-1) (M:=M9) (a2:=a2) (c:=cc i) (r_ (a_ (by decide) hm)) q3.has w2.sm (by rw[w2.ls];exact h3) (by rw[w2.ls];lia) q2 (by rcases hi2 with rfl|rfl<;>decide);have hc:2*cc i+1<=cc (i+1)/\cc (i+1)<=1000:=by rcases hi2 with rfl|rfl<;>decide
     have a2w:=q3.trans s10;obtain⟨M11,e11,k11⟩:=aac (m:=m-1) (r':=r) (r_ (a_ (by decide) hm)) P (made md a2w) v1 v2 w1.sm (so:=so') (by lia) (λjs hj=>by have:=q5 js hj;exact a_ this (a_ hc.1 (a_ hc.2 (by decide))));exact⟨_,.next,_,M11,rfl,by simp[aat,e10,e11],.inl rfl,some (.int i),so',rfl,by lia,λjs hj=>by have:=q5 js hj;exact a_ this hc.1,a2w.trans (St.of a2w.has k11)⟩)
   have e9:ahq.den ⟨prog.call (m-1),prog.cls⟩ _ _=_:=e9;apply _k;exact⟨_,.next,_,M9,rfl,by simp[-acp,aau,s0,e0,mk,e4,e5,e6,ei,e7,e9],.inl rfl,some (.int k),some (.ref M.length),some (qi K r hs),some (.ref M1.length),some (gh s1 a1),some (gh s2 a2),some (Bp so'),c8,rfl⟩)
 have e:ahr.den ⟨prog.call (m-1),prog.cls⟩ _ _=_:=e;apply _k;exact⟨M',by simp[Fn.run,am1,aw3,e]⟩
open PySem L2
open PySem.W
set_option maxHeartbeats 0 in
def all_mk{l:OpenLaw}{K:Frag}{h:Heap}(X:K.In h)(G:h.Ns mainGlobals mg)(hfa:mg "law" = some (.ref fa))
 (aC2:nsIn K mainGlobals "Pattern" = some (some (.ref C2)))
 (a0:findIn K (.ref C2) "__init__" = some (some (.ref f0)))
 (i0:isFn K (.ref f0)=true)
 (l0:Ck.Lk K f0 "__init__" "Pattern.__init__" (inClass (top 8) 0) oc0 od0 kV0 dc0 pm0 an0 cd0 ct0 sl0)
 (a1:findIn K (.ref C2) "kinds" = some (some (.ref f1)))
 (i1:isFn K (.ref f1)=true)
 (l1:Ck.Lk K f1 "kinds" "Pattern.kinds" (inClass (top 8) 1) oc1 od1 kV1 dc1 pm1 an1 cd1 ct1 sl1)
 (a2:findIn K (.ref C2) "doings" = some (some (.ref f2)))
 (i2:isFn K (.ref f2)=true)
 (l2:Ck.Lk K f2 "doings" "Pattern.doings" (inClass (top 8) 2) oc2 od2 kV2 dc2 pm2 an2 cd2 ct2 sl2)
 (a3:findIn K (.ref C2) "behind" = some (some (.ref f3)))
 (i3:isFn K (.ref f3)=true)
 (l3:Ck.Lk K f3 "behind" "Pattern.behind" (inClass (top 8) 3) oc3 od3 kV3 dc3 pm3 an3 cd3 ct3 sl3)
 (a4:findIn K (.ref C2) "ways" = some (some (.ref f4)))
 (i4:isFn K (.ref f4)=true)
 (l4:Ck.Lk K f4 "ways" "Pattern.ways" (inClass (top 8) 4) oc4 od4 kV4 dc4 pm4 an4 cd4 ct4 sl4)
 (a5:findIn K (.ref C2) "end" = some (some (.ref f5)))
 (i5:isFn K (.ref f5)=true)
 (l5:Ck.Lk K f5 "end" "Pattern.end" (inClass (top 8) 5) oc5 od5 kV5 dc5 pm5 an5 cd5 ct5 sl5)
 (a6:nsIn K mainGlobals "both_ways" = some (some (.ref f6)))
 (l6:Ck.Lk K f6 "both_ways" "both_ways" (top 9) oc6 od6 kV6 dc6 pm6 an6 cd6 ct6 sl6)
 (a7:nsIn K mainGlobals "meeting_pairs" = some (some (.ref f7)))
 (l7:Ck.Lk K f7 "meeting_pairs" "meeting_pairs" (top 10) oc7 od7 kV7 dc7 pm7 an7 cd7 ct7 sl7)
 (a8:nsIn K mainGlobals "is_way_between" = some (some (.ref f8)))
 (l8:Ck.Lk K f8 "is_way_between" "is_way_between" (top 11) oc8 od8 kV8 dc8 pm8 an8 cd8 ct8 sl8)
 (a9:nsIn K mainGlobals "check_doings" = some (some (.ref f9)))
 (l9:Ck.Lk K f9 "check_doings" "check_doings" (top 12) oc9 od9 kV9 dc9 pm9 an9 cd9 ct9 sl9)
 (a10:nsIn K mainGlobals "check_table" = some (some (.ref f10)))
 (l10:Ck.Lk K f10 "check_table" "check_table" (top 13) bml bmm bmn bmo bmp bmq bmr bms bmt)
 (a11:nsIn K mainGlobals "check_threes" = some (some (.ref f11)))
 (l11:Ck.Lk K f11 "check_threes" "check_threes" (top 14) bmv bmw bmx bmy bmz bm0 bm1 bm2 bm3)
 (a12:nsIn K mainGlobals "_law_cell_at" = some (some (.ref f12)))
 (l12:Ck.Lk K f12 "_law_cell_at" "_law_cell_at" (top 22) bm5 bm6 bm7 bm8 bm9 bna bnb bnc bnf)
 (a13:nsIn K mainGlobals "_law_state" = some (some (.ref f13)))
 (l13:Ck.Lk K f13 "_law_state" "_law_state" (top 23) bnh bni bnj bnk bnl bnm bnn bno bnp)
 (a14:nsIn K mainGlobals "_law_take" = some (some (.ref f14)))
 (l14:Ck.Lk K f14 "_law_take" "_law_take" (top 24) bnr bns bnt bnu bnv bnw bnx bny bnz)
 (a15:nsIn K mainGlobals "_law_begun" = some (some (.ref f15)))
 (l15:Ck.Lk K f15 "_law_begun" "_law_begun" (top 25) bn1 bn2 bn3 bn4 bn5 bn6 bn7 bn8 bn9)
 (a16:nsIn K mainGlobals "_law_closed" = some (some (.ref f16)))
 (l16:Ck.Lk K f16 "_law_closed" "_law_closed" (top 26) bob boc bod boe bof bog boh boi boj)
 (a17:nsIn K mainGlobals "_law_pattern" = some (some (.ref f17)))
 (l17:Ck.Lk K f17 "_law_pattern" "_law_pattern" (top 27) boo bop boq bos bou bov bow boy boz)
 (a18:nsIn K mainGlobals "_law_ways" = some (some (.ref f18)))
 (l18:Ck.Lk K f18 "_law_ways" "_law_ways" (top 28) bo1 bo2 bo3 bo4 bo5 bo6 bo7 bo8 bo9)
 (a19:nsIn K mainGlobals "_law_end" = some (some (.ref f19)))
 (l19:Ck.Lk K f19 "_law_end" "_law_end" (top 29) bpb bpc bpd bpe bpf bpg bph bpi bpj)
 (a20:nsIn K mainGlobals "_law_behind" = some (some (.ref f20)))
 (l20:Ck.Lk K f20 "_law_behind" "_law_behind" (top 30) bpl bpm bpn bpo bpp bpq bpr bps bpt)
 (a21:nsIn K mainGlobals "_wall" = some (some (.ref f21)))
 (l21:Ck.Lk K f21 "_wall" "_wall" (top 0) bpv bpw bpx bpy bpz bp0 bp1 bp2 bp3)
 (a22:nsIn K mainGlobals "led" = some (some (.ref f22)))
 (l22:Ck.Lk K f22 "led" "led" (top 16) bp5 bp6 bp7 bp8 bp9 bqa bqb bqc bqd)
 (a23:nsIn K mainGlobals "is_map" = some (some (.ref f23)))
 (l23:Ck.Lk K f23 "is_map" "is_map" (top 18) bqf bqg bqh bqi bqj bqk bql bqm bqn)
 (a24:nsIn K mainGlobals "has_rows" = some (some (.ref f24)))
 (l24:Ck.Lk K f24 "has_rows" "has_rows" (top 19) bqp bqq bqr bqs bqt bqu bqv bqw bqx)
 (a25:nsIn K mainGlobals "first_lack" = some (some (.ref f25)))
 (l25:Ck.Lk K f25 "first_lack" "first_lack" (top 20) bqz bq0 bq1 bq2 bq3 bq4 bq5 bq6 bq7)
 (a26:nsIn K mainGlobals "_law_merged" = some (some (.ref f26)))
 (l26:Ck.Lk K f26 "_law_merged" "_law_merged" (top 31) bq9 bra brb brc brd bre brf brg brh)
 (a27:nsIn K mainGlobals "_law_world" = some (some (.ref f27)))
 (l27:Ck.Lk K f27 "_law_world" "_law_world" (top 32) brj brl brm brn bro brp brq brr brs)
 (a28:nsIn K mainGlobals "_law_led" = some (some (.ref f28)))
 (l28:Ck.Lk K f28 "_law_led" "_law_led" (top 33) bru brv brw brx bry brz br0 br1 br2)
 (a29:nsIn K mainGlobals "_law_known" = some (some (.ref f29)))
 (l29:Ck.Lk K f29 "_law_known" "_law_known" (top 34) br4 br5 br6 br7 br8 br9 bsa bsb bsc)
 (a30:nsIn K mainGlobals "_law_some_map" = some (some (.ref f30)))
 (l30:Ck.Lk K f30 "_law_some_map" "_law_some_map" (top 35) bse bsf bsg bsh bsi bsj bsk bsl bsm)
 (a31:nsIn K mainGlobals "_law_within" = some (some (.ref f31)))
 (l31:Ck.Lk K f31 "_law_within" "_law_within" (top 36) bso bsp bsq bsr bss bst bsu bsv bsw)
 (a32:nsIn K mainGlobals "_law_is_map" = some (some (.ref f32)))
 (l32:Ck.Lk K f32 "_law_is_map" "_law_is_map" (top 37) bsy bs0 bs1 bs2 bs3 bs4 bs5 bs6 bs7)
 (a33:nsIn K mainGlobals "_law_lacks" = some (some (.ref f33)))
 (l33:Ck.Lk K f33 "_law_lacks" "_law_lacks" (top 38) bs9 bta btb btc btd bte btf btg bth)
 (a34:nsIn K mainGlobals "_law_spoiled" = some (some (.ref f34)))
 (l34:Ck.Lk K f34 "_law_spoiled" "_law_spoiled" (top 39) btj btk btl btm btn bto btp btq btr)
 (a35:nsIn K mainGlobals "_law_fits" = some (some (.ref f35)))
 (l35:Ck.Lk K f35 "_law_fits" "_law_fits" (top 40) btt btu btv btw btx bty btz bt0 bt1)
 (a36:nsIn K mainGlobals "_law_looked" = some (some (.ref f36)))
 (l36:Ck.Lk K f36 "_law_looked" "_law_looked" (top 41) bt3 bt4 bt5 bt6 bt7 bt8 bt9 bua bub)
 (a37:nsIn K mainGlobals "law" = some (some (.ref f37)))
 (l37:Ck.Lk K f37 "law" "law" (top 42) bue buh bf7 bf8 bf9 bga bgb bgc bui)
 (pg2:plainGet K C2 Str.empty=true)
 (hd2:hasDictIn K C2=true)
 (po2:plainOver K C2=true)
 (sa2:findIn K (.ref C2) "__setattr__" = some (some (.builtin "object.__setattr__")))
 (mk2:makesIn K C2=true)
 (kc2:keepIn K (.ref C2)=true)
 (bgd:findIn K (.ref C2) "together" = some none)
 (bge:findIn K (.ref C2) "doing_ends" = some none)
 (bgf:findIn K (.ref C2) "kind_count" = some none)
 (v0:nsIn K mainGlobals "STAYING" = some (some (.int (-1) tk0)))
 (v1:nsIn K mainGlobals "MOST_KINDS" = some (some (.int (3) tk1)))
 (v2:nsIn K mainGlobals "MOST_DOINGS" = some (some (.int (5) tk2)))
 (z0:nsIn K mainGlobals "len" = some none)
 (z1:nsIn K mainGlobals "tuple" = some none)
 (z2:nsIn K mainGlobals "list" = some none)
 (z3:nsIn K mainGlobals "dict" = some none)
 (z4:nsIn K mainGlobals "max" = some none)
 (z5:nsIn K mainGlobals "min" = some none)
 (z6:nsIn K mainGlobals "isinstance" = some none)
 (z7:nsIn K mainGlobals "range" = some none)
 (z8:nsIn K mainGlobals "enumerate" = some none)
 (z9:nsIn K mainGlobals "set" = some none)
 (z10:nsIn K mainGlobals "zip" = some none)
 (z11:nsIn K mainGlobals "all" = some none)
 (z12:nsIn K mainGlobals "bool" = some none)
 (z13:nsIn K mainGlobals "int" = some none)
 (z14:nsIn K mainGlobals "sum" = some none)
 (z15:nsIn K mainGlobals "sorted" = some none)
 : ∃fd:FuncData,(∀(s:Shared)(v:Value),BindsTo s fd ⟨[v],[]⟩ [("script",v)])/\∀base:Heap,K.In base->base.Ns mainGlobals mg->Gf l.prog w K mg base CX0 170 fa fd ["script"] (Ck.ai6 K):=by
 have e:=(dq X G a37).symm.trans hfa;cases e;have aF:Ck.abz K Ds sts [f0,f1,f2,f3,f4,f5,f6,f7,f8,f9,f10,f11,f12,f13,f14,f15,f16,f17,f18,f19,f20,f21,f22,f23,f24,f25,f26,f27,f28,f29,f30,f31,f32,f33,f34,f35,f36,fa] [_,_,_,_,_,_,_,_,_,_,_,_,_,_,_,_,_,_,_,_,_,_,_,_,_,_,_,_,_,_,_,_,_,_,_,_,_,_]:=(Ck.fE l0 (Ck.fE l1 (Ck.fE l2 (Ck.fE l3 (Ck.fE l4 (Ck.fE l5 (Ck.fE l6 (Ck.fE l7 (Ck.fE l8 (Ck.fE l9 (Ck.fE l10 (Ck.fE l11 (Ck.fE l12 (Ck.fE l13 (Ck.fE l14 (Ck.fE l15 (Ck.fE l16 (Ck.fE l17 (Ck.fE l18 (Ck.fE l19 (Ck.fE l20 (Ck.fE l21 (Ck.fE l22 (Ck.fE l23 (Ck.fE l24 (Ck.fE l25 (Ck.fE l26 (Ck.fE l27 (Ck.fE l28 (Ck.fE l29 (Ck.fE l30 (Ck.fE l31 (Ck.fE l32 (Ck.fE l33 (Ck.fE l34 (Ck.fE l35 (Ck.fE l36 (Ck.fE l37 Ck.fN))))))))))))))))))))))))))))))))))))));have aG:Ck.Ue mg tab.fns [f0,f1,f2,f3,f4,f5,f6,f7,f8,f9,f10,f11,f12,f13,f14,f15,f16,f17,f18,f19,f20,f21,f22,f23,f24,f25,f26,f27,f28,f29,f30,f31,f32,f33,f34,f35,f36,fa]:=(Ck.gO (Ck.gO (Ck.gO (Ck.gO (Ck.gO (Ck.gO (Ck.gS (dq X G a6) (Ck.gS (dq X G a7) (Ck.gS (dq X G a8) (Ck.gS (dq X G a9) (Ck.gS (dq X G a10) (Ck.gS (dq X G a11) (Ck.gS (dq X G a12) (Ck.gS (dq X G a13) (Ck.gS (dq X G a14) (Ck.gS (dq X G a15) (Ck.gS (dq X G a16) (Ck.gS (dq X G a17) (Ck.gS (dq X G a18) (Ck.gS (dq X G a19) (Ck.gS (dq X G a20) (Ck.gS (dq X G a21) (Ck.gS (dq X G a22) (Ck.gS (dq X G a23) (Ck.gS (dq X G a24) (Ck.gS (dq X G a25) (Ck.gS (dq X G a26) (Ck.gS (dq X G a27) (Ck.gS (dq X G a28) (Ck.gS (dq X G a29) (Ck.gS (dq X G a30) (Ck.gS (dq X G a31) (Ck.gS (dq X G a32) (Ck.gS (dq X G a33) (Ck.gS (dq X G a34) (Ck.gS (dq X G a35) (Ck.gS (dq X G a36) (Ck.gS (dq X G a37) Ck.gN))))))))))))))))))))))))))))))))))))));have aC:Ck.O7 K mg tab [f0,f1,f2,f3,f4,f5,f6,f7,f8,f9,f10,f11,f12,f13,f14,f15,f16,f17,f18,f19,f20,f21,f22,f23,f24,f25,f26,f27,f28,f29,f30,f31,f32,f33,f34,f35,f36,fa] tab.cls [none,none,some C2] prog.cls:=(Ck.cO (Ck.cO (Ck.cS ⟨dq X G aC2,⟨pg2,hd2,po2,sa2⟩,⟨_,rfl,⟨mk2,a0,i0,kc2⟩⟩,(Ck.mC rfl rfl ⟨a1,i1,l1.2.2⟩ (Ck.mC rfl rfl ⟨a2,i2,l2.2.2⟩ (Ck.mC rfl rfl ⟨a3,i3,l3.2.2⟩ (Ck.mC rfl rfl ⟨a4,i4,l4.2.2⟩ (Ck.mC rfl rfl ⟨a5,i5,l5.2.2⟩ Ck.mN))))),(Ck.nC bgd (Ck.nC bge (Ck.nC bgf Ck.nN)))⟩ Ck.cN)));have aV:Ck.ab1 mg tab.avm:=(Ck.vC (dq X G v0) (Ck.vC (dq X G v1) (Ck.vC (dq X G v2) Ck.vN)));have aB:Ck.AllB mg Ck.O6:=(Ck.bC (ji X G z0) (Ck.bC (ji X G z1) (Ck.bC (ji X G z2) (Ck.bC (ji X G z3) (Ck.bC (ji X G z4) (Ck.bC (ji X G z5) (Ck.bC (ji X G z6) (Ck.bC (ji X G z7) (Ck.bC (ji X G z8) (Ck.bC (ji X G z9) (Ck.bC (ji X G z10) (Ck.bC (ji X G z11) (Ck.bC (ji X G z12) (Ck.bC (ji X G z13) (Ck.bC (ji X G z14) (Ck.bC (ji X G z15) Ck.bN))))))))))))))));refine⟨fnOf "law" "law" (J0 (top 42)) (Gr (top 42)) (Bh (top 42)) .none bf7 bf8 bf9 bga bgb bgc,λs v=>.of_eq rfl,λbase _ _=>?_⟩;obtain⟨d,a,f,g1,g2,g3,g4,g5⟩:=Ck.a2j (P:=l.prog) (w:=w) (base:=base) (n:=10) (i:=37) (F:=am1) bfm chk bfn bfo bfp aF aG aC aV aB rfl;cases g1;cases g2;cases g3;exact g5.imp λvs H Q E hh=>Ck.av6 (λns hl=>a2v (by decide)) hh
end K11
open PySem PySem.W PyProof.Rows
namespace PySem.W.Fast
def tw14374775151375166095:=Nat
def tw11102204758630176520:=Nat
def tw4068585872602921290:=Nat
def tw12147192655391479909:=Nat
def tw4134531205725968100:=Nat
def tw5786149205809698939:=Nat
def tw16886725889359384984:=Nat
def tw10124046153781407290:=Nat
def tw11650003617867355983:=Nat
def tw7710275107044150132:=Nat
def tw18408030857363913392:=Nat
def tw5164108280512248664:=Nat
def tw9309547080275035787:=Nat
def tw11405631151312177248:=Nat
def tw14700586986714733429:=Nat
def tw14303033154442591396:=Nat
def tw1149193373761589277:=Nat
def tw10543511300704104666:=Nat
def tw17872349733832769795:=Nat
def tw1328253395750685419:=Nat
def tw11905780671111866366:=Nat
def tw15039345636810290858:=Nat
def tw17325279395558711272:=Nat
def tw11008937654356070480:=Nat
def tw5112781988457913007:=Nat
def tw6839076032633479667:=Nat
def tw12892099408828719823:=Nat
def tw14222678168176021387:=Nat
def tw2652404868245246857:=Nat
def tw4273991475673042867:=Nat
def tw541193283854873827:=Nat
def tw5310760094769888867:=Nat
def tw12672312838755836471:=Nat
def tw5545896566876787086:=Nat
def tw16666132783943898331:=Nat
def tw4669027325414336940:=Nat
def tw5401640968046932638:=Nat
def tw2602154441330548035:=Nat
def tw12344815088138109231:=Nat
def tw440470619767592666:=Nat
def tw6811805116416250488:=Nat
def tw602266807979647388:=Nat
def tw170909951423124243:=Nat
def tw10659895928786510066:=Nat
def tw3889153483265314478:=Nat
def tw357139075867698750:=Nat
def tw12839037570490746483:=Nat
def tw12273695599091451300:=Nat
def tw8361097432668717050:=Nat
def tw2501373566264722318:=Nat
def tw14050648817445836193:=Nat
def tw1497092673117036712:=Nat
def tw10867935128985868891:=Nat
def tw1990194586271514019:=Nat
def tw17042361055335024159:=Nat
def tw9181592560721179618:=Nat
def tw13806389260850293242:=Nat
def tw5744983997549445366:=Nat
def tw18394100598141770503:=Nat
def tw13686328152623743297:=Nat
def tw3337325057229398073:=Nat
def tw14112928646886387671:=Nat
def tw286506396798252149:=Nat
def tw380955933330440374:=Nat
def tw13614482421392443665:=Nat
def tw11062909340391773719:=Nat
def tw12771332598833905317:=Nat
def tw16582647384430960659:=Nat
def tw14097623986987806148:=Nat
def tw7931282048444327443:=Nat
def tw8884742695479229402:=Nat
def tw7135248308729898115:=Nat
def tw267587825550907495:=Nat
def tw7541259051172161570:=Nat
def tw18172227567522536715:=Nat
def tw15527229432400949978:=Nat
def tw10231899181276885568:=Nat
def tw2327366604939970965:=Nat
def tw17139525022785075833:=Nat
def tw12026121509498385471:=Nat
def tw8494341716762753595:=Nat
def tw16281547729482922885:=Nat
def tw3351868959306594484:=Nat
def tw16614419479076663578:=Nat
def tw15310920821213201074:=Nat
def tw12226619535035053578:=Nat
def tw10589359518672045520:=Nat
def tw11052424568455916705:=Nat
def tw15194248814700253884:=Nat
def tw18171683768494602969:=Nat
def tw3178722359392656038:=Nat
def tw4503021056824962123:=Nat
def tw7651776198635017684:=Nat
def tw8399288801737212965:=Nat
def tw1993652598481685101:=Nat
def tw12646798145691768795:=Nat
def tw7570584435500392218:=Nat
def tw12736736599853447246:=Nat
def tw6692169189176634719:=Nat
def tw5661947007168706474:=Nat
def tw2453085065272245502:=Nat
def tw17531366431383140452:=Nat
def tw17924528568742100129:=Nat
def tw13334884366074857924:=Nat
def tw11591056905418805183:=Nat
def tw3137090453768580297:=Nat
def tw15788627742322238179:=Nat
def tw14800080156080170573:=Nat
def tw2007112145358529347:=Nat
def tw8994153894200138638:=Nat
def tw17155211052199812962:=Nat
def tw1650310691878848274:=Nat
def tw17803561664713804851:=Nat
def tw11835262782802448987:=Nat
def tw8888995004738011200:=Nat
def tw2386185212270445486:=Nat
def tw14609661293885360538:=Nat
def tw121160408433065001:=Nat
def tw13538649890425891860:=Nat
def tw1256485044123713889:=Nat
def tw7902207603222638429:=Nat
def tw6965884989703295529:=Nat
def tw17302092117367532238:=Nat
def tw6063307918254665458:=Nat
def tw13176512812308435385:=Nat
def tw10206810765588224264:=Nat
def tw11349694787400103775:=Nat
def tw18370604053552775554:=Nat
def tw17032706983051890196:=Nat
def tw1512584737379455886:=Nat
def tw10883961888098815692:=Nat
def tw17715235061530244774:=Nat
def tw14001771402025331418:=Nat
def tw13140716112739886328:=Nat
def tw8160783622486390242:=Nat
def tw6897966432800513447:=Nat
def tw2691540366567444544:=Nat
def tw1874794569519432186:=Nat
def tw11521585357009396346:=Nat
def tw522194093310372089:=Nat
def tw5448509377899774959:=Nat
def tw5542120881999292837:=Nat
def tw16815456450681126355:=Nat
def tw3468238089097928797:=Nat
def tw7105768041777792666:=Nat
def tw12704897022055163568:=Nat
def tw6170919147196293010:=Nat
def tw2907034347539198844:=Nat
def tw15824528798890726835:=Nat
def tw5819617152118559071:=Nat
def tw11800220726782538361:=Nat
def tw457908398615730519:=Nat
def tw9495302927527921992:=Nat
def tw1924607039009824276:=Nat
def tw9640431925485626361:=Nat
def tw12350138477397619104:=Nat
def tw15162773931349689672:=Nat
def tw10977002369244074709:=Nat
def tw3667541108235039759:=Nat
def tw10704300328111908547:=Nat
def tw11593278051776465119:=Nat
def tw7310224055814868729:=Nat
def tw16820085552131570039:=Nat
def tw9975939006717805099:=Nat
def tw16170373009925864127:=Nat
def tw7313466177540041306:=Nat
def tw10984429328034363255:=Nat
def tw10132934043597080023:=Nat
def tw17842522071786903573:=Nat
def tw5323668436776629486:=Nat
def tw6442607839120617740:=Nat
def tw1936463822780575061:=Nat
def tw5517142752182719783:=Nat
def tw11282431644719756765:=Nat
def tw7491115507178099746:=Nat
def tw6520852580768899915:=Nat
def tw1514860268622275220:=Nat
def tw14014682043901361133:=Nat
def tw13407880437967408097:=Nat
def tw10058225816479236:=Nat
def tw6658824914625626270:=Nat
def tw6091004920360393871:=Nat
def tw3488500193289889989:=Nat
def tw3145062288010165341:=Nat
def tw11521206731167011801:=Nat
def tw13345657160878218595:=Nat
def tw7049276667043632212:=Nat
def tw14239350367791548417:=Nat
def tw12636577829469220706:=Nat
def tw1205756217319168276:=Nat
def tw786558100065887104:=Nat
def tw6330314258489942014:=Nat
def tw12923019175711239867:=Nat
def tw10892396840668379407:=Nat
def tw13696013648637634866:=Nat
def tw4708170580068790007:=Nat
def tw10791526857674119426:=Nat
def tw10238394519399673681:=Nat
def tw956291364278657796:=Nat
end PySem.W.Fast
set_option maxRecDepth 100000 in
set_option maxHeartbeats 0 in
theorem PySem.Challenge.cw_mapwright_k11_maps_looked_at_holds : PySem.Challenge.rw_mapwright_k11_maps_looked_at.Holds := by
 w_on;o_law;k_head;(case hw=>w_witness2)
 k_fill
 refine Ck.walk (l:=PySem.Challenge.rw_mapwright_k11_maps_looked_at) rfl rfl (λw h Y=>PySem.W.kIn_of Y) ?F
 case F =>
  intro w mg fa h KX G hmg;apply K11.all_mk KX G hmg<;>(try refine⟨?_,?_,?_⟩)<;>k_is
