import PyProof.Rows.All
import Wide.All
import OpenK.AllK
import Wide.FinOn
import Lean
import PyProof.EqAt
import PyProof.EqKinds
import PyProof.TupleCall
import PyProof.NeKinds
import PyProof.SetScanFacts
import PyProof.TupleKey
import PyProof.SetKind
import PyProof.IsRules
import PyProof.Rules
import PyProof.Rows.SetFrom
import PyProof.SetRoads
import KE.KDictOf
import PyProof.Rows.MinMaxN
import PyProof.ListRange
import PyProof.TupleOfGen
import PyProof.EnumMake
import PyProof.ZipIter
import PyProof.Rows.ZipGen
import PyProof.CollectWalk
import PyProof.ForAny
import PyProof.Rows.SortWalk
import PyProof.CollectIter
import PySem.Challenge.RW_mapwright_k03_worlds_looked_at
set_option Elab.async false
set_option linter.all false
set_option tactic.hygienic false
set_option genSizeOf false
set_option genInjectivity false
set_option maxRecDepth 100000
abbrev Zl:=List PySem.Value
abbrev Zp:=List (PySem.Addr×PySem.Obj)
abbrev Zs:=PySem.Str->Option PySem.Value
abbrev Y1:=PySem.Value->PySem.Shared->Prop
abbrev Y2:=Option (PySem.Str×Nat)
abbrev Y3:=List Nat
abbrev Ya:=List PySem.Expr
abbrev Yf:=List PySem.Str
abbrev X0:=List (PySem.Str×PySem.NameKind)
abbrev X9:=List PySem.Addr
abbrev Xs:=List Int
abbrev Xt:=List (PySem.Str×PySem.Addr)
abbrev U1:=Array PySem.Value
def jk:=@Array.getElem?_eq_some_iff
def ph:=@Array.getElem?_toList
def q9:=@Array.length_toList
def aq:=@Bool.and_eq_true
def vq:=@Bool.eq_iff_iff
def dg:=@Bool.false_eq_true
def jd:=@Bool.false_ne_true
def yw:=@Bool.not_eq_true
def ym:=@Bool.not_false
def ql:=@Bool.not_true
def xj:=@Classical.byContradiction
def zj:=@Int.emod_lt_of_pos
def Bc:=@Int.emod_nonneg
def Ba:=@Int.ofNat_inj
def pq:=@Int.toNat_natCast
def yo:=@List.Perm.refl
def gn:=@List.all_eq_true
def Ao:=@List.any_eq_true
def Af:=@List.append_assoc
def zp:=@List.append_nil
def zq:=@List.cons.injEq
def yx:=@List.cons_append
def qp:=@List.find?_cons
def uz:=@List.findIdx?_eq_none_iff
def qg:=@List.findIdx?_eq_some_iff_getElem
def cj:=@List.getD_eq_getElem?_getD
def du:=@List.getElem?_append_left
def jm:=@List.getElem?_append_right
def bc:=@List.getElem?_eq_getElem
def rz:=@List.getElem?_eq_none
def ao:=@List.getElem?_eq_some_iff
def ie:=@List.getElem?_map
def yp:=@List.getElem?_range
def vo:=@List.getElem?_set_ne
def Ai:=@List.getElem?_zipIdx
def qz:=@List.getElem?_zip_eq_some
def Aq:=@List.getElem_inj
def lq:=@List.getElem_mem
def jo:=@List.getElem_of_mem
def qu:=@List.isEmpty_iff
def ue:=@List.length_append
def iw:=@List.length_cons
def um:=@List.length_eq_zero_iff
def Ab:=@List.length_filter_le
def dw:=@List.length_map
def nq:=@List.lookup_cons
def qd:=@List.map_append
def j8:=@List.map_congr_left
def iu:=@List.map_cons
def Bd:=@List.map_id
def o7:=@List.map_map
def dm:=@List.mem_append
def xx:=@List.mem_append_left
def jb:=@List.mem_append_right
def bz:=@List.mem_cons
def bu:=@List.mem_cons_of_mem
def di:=@List.mem_cons_self
def ux:=@List.mem_filter
def vd:=@List.mem_iff_getElem?
def bf:=@List.mem_map
def au:=@List.mem_of_getElem?
def jz:=@List.mem_range
def uf:=@List.mem_singleton
def xm:=@List.nil_append
def yc:=@List.nodup_append
def kj:=@List.nodup_cons
def m6:=@List.nodup_iff_pairwise_ne
def xf:=@List.nodup_nil
def qw:=@List.not_mem_nil
def zm:=@List.pairwise_cons
def Ag:=@List.pairwise_map
def gw:=@List.size_toArray
def w6:=@Nat.le_add_right
def Aj:=@Nat.le_of_lt
def bw:=@Nat.le_refl
def u0:=@Nat.le_succ
def gm:=@Nat.le_trans
def ou:=@Nat.lt_irrefl
def gr:=@Nat.lt_of_lt_of_le
def p7:=@Nat.lt_succ_of_lt
def o8:=@Nat.lt_succ_self
def u5:=@Nat.ne_of_gt
def fc:=@Nat.ne_of_lt
def xq:=@Nat.not_lt_zero
def u9:=@Nat.zero_add
def mq:=@Nat.zero_le
def j0:=@Ne.symm
def dq:=@Option.bind_eq_some_iff
def uh:=@Option.bind_some
def yz:=@Option.getD_some
def qi:=@Option.isSome_iff_exists
def cu:=@Option.map_eq_some_iff
def vy:=@Option.map_some
def jq:=@Option.some.inj
def yd:=@Option.some.injEq
def qy:=@PyProof.Rows.F.entry_set_update_loop
def kh:=@PyProof.Rows.F.plain_set_update_loop
def yh:=@PyProof.Rows.callWith_builtin1
def jh:=@PyProof.Rows.callWith_type1
def xr:=@PyProof.Rows.slot_tuple_getitem
def j4:=@PySem.Around.under_plainId
def t7:=@PySem.Calls.spliced_cons
def vz:=@PySem.Calls.spliced_nil
def ug:=@PySem.F.called_set
def wu:=@PySem.F.slot_dict_keyiterator_next
def wy:=@PySem.F.slot_enumerate_next
def ur:=@PySem.F.slot_tuple_iterator_next
def jt:=@PySem.Heap.SameBut.update
def ak:=@PySem.Heap.get?_push_of_some
def bh:=@PySem.Heap.get?_push_size
def ud:=@PySem.Heap.get?_update_other
def my:=@PySem.Heap.get?_update_self
def az:=@PySem.Heap.lt_size
def ig:=@PySem.Heap.size_push
def jn:=@PySem.W.mg_none_of
def gh:=@PySem.W.mg_of
def m7:=@PySem.codeAny_builtin
def vf:=@PySem.codeAny_mono
def yq:=@PySem.mem_of_lookup
def qj:=@PySem.sizeLine_eq
def vg:=@PySem.tupleKind_room_in1
def je:=@PySem.wpAny_Call_Name_kw
def uy:=@PySem.wpAny_attempt
def aa:=@PySem.wpAny_bind
def ji:=@PySem.wpAny_callSpecial?_slot
def jc:=@PySem.wpAny_call_entry
def m8:=@PySem.wpAny_dictEntries
def il:=@PySem.wpAny_field
def uw:=@PySem.wpAny_forIn_list
def jg:=@PySem.wpAny_holding
def mj:=@PySem.wpAny_isInstance
def lz:=@PySem.wpAny_mono
def ju:=@PySem.wpAny_newObj_type
def su:=@PySem.wpAny_passesOwn
def aj:=@PySem.wpAny_pure
def v5:=@PySem.wpAny_pyIter_list
def o5:=@PySem.wpAny_seqItems
def j9:=@PySem.wpAny_setEntries_of
def iz:=@PySem.wpAny_setField_rec
def jw:=@PySem.wpAny_setState_of
def j7:=@PySem.wpAny_truthy_bool
def v7:=@PySem.wpAny_typeNameOfWhole_keyiter
def qb:=@PySem.wpAny_typeOf
def rm:=@beq_eq_false_iff_ne
def za:=@beq_self_eq_true
def ye:=@bne_self_eq_false
def o4:=@congrArg
def tu:=@decide_eq_false
def yr:=@decide_eq_true
def dj:=@decide_eq_true_eq
def jf:=@if_false
def bx:=@if_neg
def dh:=@if_pos
def jy:=@if_true
def mz:=@of_decide_eq_true
def Aw:=@or_false
abbrev Fg:=PySem.W.Frag
def a_{a b c:Nat}(h:a<=b)(k:b<=c):a<=c:=gm h k
def b_{a b c:Nat}(h:a<b)(k:b<=c):a<c:=gr h k
def c_{a b c:Nat}(h:a<=b)(k:b<c):a<c:=Nat.lt_of_le_of_lt h k
def d_{a b c:Nat}(h:a<b)(k:b<c):a<c:=Nat.lt_trans h k
def e_{a b:Nat}(h:a<b):a<=b:=Aj h
def f_{a b:Nat}(h:a=b):a<=b:=Nat.le_of_eq h
def g_{a b:Nat}(h:a=b):b<=a:=Nat.le_of_eq h.symm
def h_{a b:Nat}(h:a<b):a≠b:=fc h
def i_{a b:Nat}(h:b<a):a≠b:=u5 h
def j_{a b:Nat}(h:b<=a):¬a<b:=Nat.not_lt_of_le h
def l_{p:Prop}{a b:Nat}(h:a<b)(k:b<=a):p:=absurd h (Nat.not_lt_of_le k)
def m_{a b:Nat}(h:a<b):(a:Int)<(b:Int):=Int.ofNat_lt.mpr h
def n_{a b:Nat}(h:a<=b):(a:Int)<=(b:Int):=Int.ofNat_le.mpr h
def o_{a b:Nat}(h:(a:Int)<(b:Int)):a<b:=Int.ofNat_lt.mp h
def p_{a b:Nat}(h:(a:Int)<=(b:Int)):a<=b:=Int.ofNat_le.mp h
def q_{a:Nat}:(0:Int)<=(a:Int):=Int.natCast_nonneg a
def r_{a b c:Nat}(h:a+c<=b):a<=b-c:=Nat.le_sub_of_add_le h
def s_{a b:Nat}(h:¬a<b):b<=a:=Nat.le_of_not_lt h
def t_{a b:Nat}(h:¬a<=b):b<a:=Nat.lt_of_not_le h
def u_{a b:Nat}(h:a<=b)(k:b<=a):a=b:=Nat.le_antisymm h k
def v_{a b c:Nat}(h:a<=b):a+c<=b+c:=Nat.add_le_add_right h c
def w_{a b c:Nat}(h:a<=b):c+a<=c+b:=Nat.add_le_add_left h c
def x_{a b:Nat}:a<=a+b:=w6 a b
def z_{a b:Nat}(h:a<b+1):a<=b:=Nat.le_of_lt_succ h
def A_{a b:Nat}(h:a<=b):a<b+1:=Nat.lt_succ_of_le h
def B_{a:Nat}:a<a+1:=o8 a
def C_{a b:Nat}:a-b<=a:=Nat.sub_le a b
def D_{a b:Nat}(h:(a:Int)=(b:Int)):a=b:=Ba.mp h
def E_{a b:Nat}(h:a=b):(a:Int)=(b:Int):=o4 _ h
def G_{a b c:Nat}(h:a<b):a+c<b+c:=Nat.add_lt_add_right h c
def H_{a b c:Nat}(h:a<b):c+a<c+b:=Nat.add_lt_add_left h c
namespace Xk
open PySem SetTable
def Srt(xs:Array Nat):Prop:=∀(i j a b:Nat),xs[i]?=some a->xs[j]?=some b->i<j->a<b
def ara(hs:Srt xs):∀(fuel lo hi:Nat),lo<=hi->hi<=xs.size->hi-lo<=fuel ->
 (∀(i a:Nat),xs[i]?=some a->i<lo->a<j)->(∀(i a:Nat),xs[i]?=some a->hi<=i->j<=a) ->
 below.go xs j fuel lo hi<=xs.size/\(∀(i a:Nat),xs[i]?=some a->i<below.go xs j fuel lo hi->a<j)/\(∀(i a:Nat),xs[i]?=some a->below.go xs j fuel lo hi<=i->j<=a):=by
 intro fuel
 induction fuel with
 |zero =>
  intro lo hi h1 h2 h3 h4 h5;unfold below.go;have:lo=hi:=by lia
  subst this;exact⟨h2,h4,h5⟩
 |succ fuel ih =>
  intro lo hi h1 h2 h3 h4 h5;unfold below.go
  by_cases Iw:lo<hi
  . simp only[dh Iw]
    have hm:(lo+hi) / 2<xs.size:=by lia
    have hg:xs[(lo+hi) / 2]?=some xs[(lo+hi) / 2]:=by simp[hm]
    have hgd:xs.getD ((lo+hi) / 2) j=xs[(lo+hi) / 2]:=by simp[Array.getD,hm]
    rw[hgd]
    by_cases hc:xs[(lo+hi) / 2]<j
    . rw[dh hc]
      refine ih _ _ (by lia) h2 (by omega) (λi a e l=>?_) h5
      by_cases hi':i=(lo+hi) / 2
      . subst hi';rw[hg] at e;cases e;exact hc
      . exact Nat.lt_trans (hs _ _ _ _ e hg (by lia)) hc
    . rw[bx hc]
      refine ih _ _ (by lia) (e_ hm) (by omega) h4 (λi a e l=>?_)
      by_cases hi':i=(lo+hi) / 2
      . subst hi';rw[hg] at e;cases e;exact s_ hc
      . have:=hs _ _ _ _ hg e (by lia);exact e_ (c_ (s_ hc) this)
  . rw[bx Iw]
    have:lo=hi:=u_ h1 (s_ Iw);subst this;exact⟨h2,h4,h5⟩
def Fl(hs:Srt xs):below xs j<=xs.size/\(∀(i a:Nat),xs[i]?=some a->i<below xs j->a<j)/\(∀(i a:Nat),xs[i]?=some a->below xs j<=i->j<=a) :=
 ara hs _ _ _ (mq _) (bw _) C_ (λi a _ h=>absurd h (xq _)) (λi a e h=>by
  have:=(jk.mp e).1;lia)
def below_at(hs:Srt xs)(h:xs[i]?=some j):below xs j=i:=by
 obtain⟨h1,h2,h3⟩:=Fl (j:=j) hs;rcases Nat.lt_trichotomy (below xs j) i with l|l|l
 . have li:=(jk.mp h).1
   have hg:xs[below xs j]?=some xs[below xs j]:=by simp
   have a:=h3 _ _ hg (bw _);have b:=hs _ _ _ _ hg h l
   lia
 . exact l
 . have:=h2 _ _ h l;lia
def X6(j:Nat):has #[] j=false:=by simp[has]
set_option tactic.hygienic true in
def Sh{t:SetTable}(hs:Srt t.place):t.slot j=.live i↔t.place[i]?=some j:=by
 unfold slot;constructor
 . intro h
   dsimp only at h;split at h
   . rename_i e;cases h;simpa using e
   . split at h<;>cases h
 . intro h
   dsimp only;rw[below_at hs h,h];simp
def aen{t:SetTable}(hs:Srt t.place)(hd:t.dummies=#[]):t.slot j=.empty↔∀i:Nat,t.place[i]?≠some j:=by
 constructor
 . intro h i e
   rw[(Sh hs).mpr e] at h;cases h
 . intro h
   unfold slot;dsimp only;rw[hd,X6,bx (by simpa using h _)];rfl
def Oz(xs:Array α)(p:Nat)(x:α)(hp:p<=xs.size)(i:Nat):(insertAt xs p x)[i]?=if i<p then xs[i]? else if i=p then some x else xs[i-1]?:=by
 rw[<- ph,toList_insertAt];have hl:(xs.toList.take p).length=p:=by simp;lia
 by_cases h1:i<p
 . rw[dh h1,du (b_ h1 (g_ hl)),List.getElem?_take,dh h1,ph]
 . rw[bx h1,jm (a_ (f_ hl) (s_ h1)),hl]
   by_cases h2:i=p
   . subst h2;simp
   . rw[bx h2]
     obtain⟨q,hq⟩:∃q,i=p+q+1:=⟨i-p-1,by lia⟩;subst hq;rw[show p+q+1-p=q+1 by lia,List.getElem?_cons_succ,List.getElem?_drop,show p+q+1-1=p+q by lia,ph]
def Ng(xs:Array α)(p:Nat)(x:α):(insertAt xs p x).size=xs.size+1:=by have:=(insertAt_perm xs p x).length_eq;simpa using this
noncomputable def up(p i:Nat):Nat:=if i<p then i else i+1
def Qj(xs:Array α)(p:Nat)(x:α)(hp:p<=xs.size)(i:Nat):(insertAt xs p x)[up p i]?=xs[i]?:=by
 rw[Oz xs p x hp];unfold up
 by_cases h:i<p
 . simp[h]
 . rw[bx h,bx (j_ (a_ (s_ h) x_)),bx (i_ (A_ (s_ h)))];rfl
def Jw(xs:Array α)(p:Nat)(x:α)(hp:p<=xs.size):(insertAt xs p x)[p]?=some x:=by rw[Oz xs p x hp];simp
def O1(p i:Nat):i=p\/∃k,i=up p k:=by
 unfold up;rcases Nat.lt_trichotomy i p with h|h|h
 . exact .inr ⟨i,by simp[h]⟩
 . exact .inl h
 . exact .inr ⟨i-1,by rw[bx (by omega)];lia⟩
def arb(hs:Srt xs)(hn:∀i:Nat,xs[i]?≠some j):Srt (insertAt xs (below xs j) j):=by
 obtain⟨h1,h2,h3⟩:=Fl (j:=j) hs;intro a b x y ea eb l;rcases O1 (below xs j) a with rfl|⟨a',rfl⟩<;>rcases O1 (below xs j) b with hb|⟨b',rfl⟩
 . subst hb;lia
 . rw[Jw _ _ _ h1] at ea
   rw[Qj _ _ _ h1] at eb;cases ea;have:below xs j<=b':=by unfold up at l;split at l<;>omega
   have g:=h3 _ _ eb this;rcases Nat.lt_or_eq_of_le g with g|g
   . exact g
   . subst g;exact absurd eb (hn _)
 . subst hb
   rw[Jw _ _ _ h1] at eb;rw[Qj _ _ _ h1] at ea;cases eb;exact h2 _ _ ea (by unfold up at l;split at l<;>omega)
 . rw[Qj _ _ _ h1] at ea eb
   exact hs _ _ _ _ ea eb (by unfold up at l;split at l<;>split at l<;>omega)
noncomputable def adv(m:Nat)(p:Probe):Probe:=({ SetTable.fresh 0 0 true with mask:=m }:SetTable).advance p
def axb(t:SetTable)(p:Probe):t.advance p=adv t.mask p:=rfl
def Zo(h:p.more > 0):adv m p={ p with j:=p.j+1,more:=p.more-1 }:=dh h
def Vi(h:¬p.more > 0):adv m p={ p with j:=(leap m p.i p.perturb).1,more:=runEnd m (leap m p.i p.perturb).1-(leap m p.i p.perturb).1,i:=(leap m p.i p.perturb).1,perturb:=(leap m p.i p.perturb).2 }:=bx h
noncomputable def beg(m i pt:Nat):Probe:={ j:=i,more:=runEnd m i-i,i:=i,perturb:=pt,dummy:=none }
noncomputable def P(m:Nat)(h:Int):Nat->Probe
 |0=>beg m (bits h%(m+1)) (bits h)|n+1=>adv m (P m h n)
def abw(t:SetTable)(h:Int):t.probeStart h=P t.mask h 0:=rfl
theorem Zq(m:Nat)(h:Int):∀n,(P m h n).dummy=none
 |0=>rfl
 |n+1=>by
  show(adv m (P m h n)).dummy=none
  by_cases q:(P m h n).more > 0
  . rw[Zo q];exact Zq m h n
  . rw[Vi q];exact Zq m h n
noncomputable def I(m:Nat)(h:Int):Nat->Nat
 |0=>bits h%(m+1)|T+1=>(I m h T*5+1+bits h / 32 ^ (T+1))%(m+1)
def arc(m i:Nat):runEnd m i-i<=9:=by unfold runEnd;split<;>lia
theorem abx{m:Nat}{h:Int}{n i pt:Nat}(e:P m h n=beg m i pt):∀c,c<=runEnd m i-i->P m h (n+c)={ j:=i+c,more:=runEnd m i-i-c,i:=i,perturb:=pt,dummy:=none }
 |0,_=>by rw[Nat.add_zero,e];rfl
 |c+1,hc=>by
  have:=abx e c (by lia);show adv m (P m h (n+c))=_;rw[this,Zo (by show 0<runEnd m i-i-c;lia)];simp only
  congr 1
def ale(e:P m h n=beg m i pt):P m h (n+(runEnd m i-i)+1)=beg m ((i*5+1+pt / 32)%(m+1)) (pt / 32):=by show adv m (P m h (n+(runEnd m i-i)))=_;rw[abx e _ (bw _),Vi (by simp)];rfl
theorem alf(m:Nat)(h:Int):∀T,∃n,n<=10*T/\P m h n=beg m (I m h T) (bits h / 32 ^ T)
 |0=>⟨0,mq _,by simp[P,I]⟩
 |T+1=>by
  obtain⟨n,h1,h2⟩:=alf m h T;have:=arc m (I m h T);refine⟨_,?_,(ale h2).trans ?_⟩
  . lia
  . rw[Nat.div_div_eq_div_mul,<- Nat.pow_succ];rfl
noncomputable def f5(m x:Nat):Nat:=(x*5+1)%(m+1)
noncomputable def it(m:Nat):Nat->Nat->Nat
 |0,x=>x|k+1,x=>f5 m (it m k x)
theorem Vj(m a x:Nat):∀k,it m (a+k) x=it m k (it m a x)
 |0=>rfl|k+1=>by show f5 m (it m (a+k) x)=_;rw[Vj m a x k];rfl
def Cov(m:Nat):Prop:=∀i j,i<=m->j<=m->∃k,k<=m/\it m k i=j
def axc(h0:it m (m+1) 0=0)(h:∀j,j<=m->∃k,k<=m/\it m k 0=j):Cov m:=λi j hi hj=>by
 obtain⟨a,la,ea⟩:=h i hi;obtain⟨b,lb,eb⟩:=h j hj
 by_cases hab:a<=b
 . refine⟨b-a,a_ C_ lb,?_⟩
   rw[<- ea,<- Vj,show a+(b-a)=b by lia,eb]
 . refine⟨m+1+b-a,by omega,?_⟩
   rw[<- ea,<- Vj,show a+(m+1+b-a)=(m+1)+b by lia,Vj,h0,eb]
noncomputable def orb(m:Nat):Nat->Nat->List Nat
 |0,_=>[]|k+1,x=>x::orb m k (f5 m x)
theorem agm{m:Nat}:∀{k x j:Nat},j∈orb m k x->∃q,q<k/\it m q x=j
 |0,_,_,h=>by simp[orb] at h
 |k+1,x,j,h=>by
  simp only[orb,bz] at h;rcases h with rfl|h
  . exact⟨0,A_ (mq _),rfl⟩
  . obtain⟨q,l,e⟩:=agm h
    refine⟨1+q,by lia,?_⟩;rw[Vj];exact e
def Q0(h0:it m (m+1) 0=0)(h:((List.range (m+1)).all λj=>(orb m (m+1) 0).contains j)=true):Cov m :=
 axc h0 λj hj=>by have:=gn.mp h j (by simp;exact A_ hj);obtain⟨q,l,e⟩:=agm (by simpa using this);exact⟨q,z_ l,e⟩
def Msk(m:Nat):Prop:=m=7\/m=15\/m=31\/m=63\/m=127
def ba6:Cov 7:=Q0 (by decide+kernel) (by decide+kernel)
def a3j:Cov 15:=Q0 (by decide+kernel) (by decide+kernel)
def a3k:Cov 31:=Q0 (by decide+kernel) (by decide+kernel)
def a3l:Cov 63:=Q0 (by decide+kernel) (by decide+kernel)
def axd:Cov 127:=Q0 (by decide+kernel) (by decide+kernel)
def Msk.cov(h:Msk m):Cov m:=by
 rcases h with rfl|rfl|rfl|rfl|rfl
 . exact ba6
 . exact a3j
 . exact a3k
 . exact a3l
 . exact axd
def ard(h:Int):bits h<2 ^ 64:=by
 unfold bits;have h1:=Bc h (b:=2 ^ 64) (by decide);have h2:=zj h (b:=2 ^ 64) (by decide)
 lia
theorem a3m(m:Nat)(h:Int):∀T,I m h T<=m
 |0=>Nat.le_of_lt_succ (Nat.mod_lt (bits h) (Nat.succ_pos m))|T+1=>Nat.le_of_lt_succ (Nat.mod_lt (I m h T*5+1+bits h / 32 ^ (T+1)) (Nat.succ_pos m))
theorem alg(m:Nat)(h:Int):∀k,I m h (13+k)=it m k (I m h 13)
 |0=>rfl
 |k+1=>by
  show(I m h (13+k)*5+1+bits h / 32 ^ (13+k+1))%(m+1)=f5 m (it m k (I m h 13));have:bits h / 32 ^ (13+k+1)=0:=by
   apply Nat.div_eq_of_lt;refine gr (ard h) ?_
   calc 2 ^ 64<=32 ^ 13:=by decide
    _<=32 ^ (13+k+1):=Nat.pow_le_pow_right (by decide) (a_ x_ x_)
  rw[this,alg m h k];rfl
def cover(hm:Msk m)(h:Int)(j:Nat)(hj:j<=m):∃T,T<=13+m/\I m h T=j:=by obtain⟨k,lk,e⟩:=hm.cov (I m h 13) j (a3m m h 13) hj;exact⟨13+k,w_ lk,(alg m h k).trans e⟩
def arf(hm:Msk m)(h:Int)(j:Nat)(hj:j<=m):∃n,n<10*turns m/\(P m h n).j=j:=by obtain⟨T,lT,e⟩:=cover hm h j hj;obtain⟨n,ln,e2⟩:=alf m h T;exact⟨n,by unfold turns;lia,by rw[e2];exact e⟩
def mod_le(a m:Nat):a%(m+1)<=m:=Nat.le_of_lt_succ (Nat.mod_lt a (Nat.succ_pos m))
def Sq(h:i<=m):i<=runEnd m i/\runEnd m i<=m:=by unfold runEnd;split<;>omega
theorem a3n(m:Nat)(h:Int):∀n,(P m h n).j+(P m h n).more<=m
 |0=>by
  have:=Sq (mod_le (bits h) m);show bits h%(m+1)+(runEnd m (bits h%(m+1))-bits h%(m+1))<=m
  omega
 |n+1=>by
  have ih:=a3n m h n;show(adv m (P m h n)).j+(adv m (P m h n)).more<=m
  by_cases q:(P m h n).more > 0
  . rw[Zo q];simp only;lia
  . rw[Vi q]
    have:=Sq (mod_le ((P m h n).i*5+1+(P m h n).perturb / 32) m);show(leap m (P m h n).i (P m h n).perturb).1+(runEnd m (leap m (P m h n).i (P m h n).perturb).1-(leap m (P m h n).i (P m h n).perturb).1)<=m
    have e:(leap m (P m h n).i (P m h n).perturb).1=((P m h n).i*5+1+(P m h n).perturb / 32)%(m+1):=rfl;rw[e];omega
def ba7(m:Nat)(h:Int)(n:Nat):(P m h n).j<=m:=by have:=a3n m h n;lia
def Occ(t:SetTable)(j:Nat):Prop:=∃i:Nat,t.place[i]?=some j
structure X7(t:SetTable)(es:Array (Int×Value)):Prop where
 msk:Msk t.mask
 dum:t.dummies=#[]
 X8:t.place.size=es.size
 srt:Srt t.place
 bnd:∀(i j:Nat),t.place[i]?=some j->j<=t.mask
 ful:t.place.size<=t.mask
 rch:∀(i j:Nat) e,t.place[i]?=some j->es[i]?=some e->∃n,(P t.mask e.1 n).j=j/\∀m,m<n->Occ t (P t.mask e.1 m).j
theorem X7.fits(k:X7 t es):t.fits es.size=true:=by unfold SetTable.fits fill;rw[k.dum];simp[k.X8];have:=k.ful;have:=k.X8;lia
def Msk.odd(h:Msk m):m%2=1:=by rcases h with rfl|rfl|rfl|rfl|rfl<;>rfl
def X7.way(k:X7 t es):t.gaveWay=false:=by unfold gaveWay;rw[k.msk.odd];rfl
def alh(hs:Srt xs)(h:xs.size<=m):∃j,j<=m/\∀i:Nat,xs[i]?≠some j:=by
 apply xj;intro hn;have all:∀j,j<=m->∃i:Nat,xs[i]?=some j:=λj hj=>by apply xj;intro hc;exact hn ⟨j,hj,λi e=>hc ⟨i,e⟩⟩
 have:∀j,j<=m->∀i:Nat,xs[i]?=some j->j<=i:=by
  intro j
  induction j with
  |zero=>intro _ i _;exact mq _
  |succ j ih =>
   intro hj i e;obtain⟨i',e'⟩:=all j (by lia);have:=ih (by lia) i' e';rcases Nat.lt_trichotomy i i' with l|l|l
   . have:=hs _ _ _ _ e e' l;lia
   . subst l;rw[e] at e';injection e' with e';exact a_ (f_ e') this
   . exact a_ (v_ this) l
 obtain⟨i,e⟩:=all m (bw _);have h1:=this m (bw _) i e;have h2:=(jk.mp e).1;exact l_ h2 (a_ h h1)
structure Fst(t:SetTable)(h:Int)(N:Nat):Prop where
 lt:N<10*turns t.mask
 emp:¬Occ t (P t.mask h N).j
 occ:∀m,m<N->Occ t (P t.mask h m).j
def least{p:Nat->Prop}:∀{n:Nat},p n->∃k,k<=n/\p k/\∀m,m<k->¬p m:=by
 intro n
 induction n using Nat.strongRecOn with
 |ind n ih =>
  intro h
  by_cases hc:∃m,m<n/\p m
  . obtain⟨m,l,hm⟩:=hc
    obtain⟨k,l2,a,b⟩:=ih m l hm;exact⟨k,e_ (c_ l2 l),a,b⟩
  . exact⟨n,bw _,h,λm l hm=>hc ⟨m,l,hm⟩⟩
def X7.fst(k:X7 t es)(h:Int):∃N,Fst t h N:=by obtain⟨j,hj,e⟩:=alh k.srt k.ful;obtain⟨n,ln,en⟩:=arf k.msk h j hj;obtain⟨N,l,a,b⟩:=least (p:=λn=>¬Occ t (P t.mask h n).j) (n:=n) (λ⟨i,c⟩=>e i (by rw[en] at c;exact c));exact⟨N,c_ l ln,a,λm hm=>Classical.not_not.mp (b m hm)⟩
theorem ali(k:X7 t es)(F:Fst t h N)(ha:Nat->Int):∀(fuel n:Nat),n<=N->N-n<fuel ->
 (probe.go t ha h fuel (P t.mask h n)=some (.empty (P t.mask h N).j none)/\∀m,n<=m->m<N->∀i:Nat,t.place[i]?=some (P t.mask h m).j->ha i≠h)
\/∃m i:Nat,n<=m/\m<N/\t.place[i]?=some (P t.mask h m).j/\ha i=h/\(∀q,n<=q->q<m->∀i:Nat,t.place[i]?=some (P t.mask h q).j->ha i≠h)
 /\probe.go t ha h fuel (P t.mask h n)=some (.candidate (P t.mask h m).j i (P t.mask h (m+1))):=by
 intro fuel
 induction fuel with
 |zero=>intro n _ l;omega
 |succ fuel ih =>
  intro n hn l;unfold probe.go
  by_cases e:n=N
  . subst e
    left
    rw[(aen k.srt k.dum).mpr (λi c=>F.emp ⟨i,c⟩)];simp only;rw[Zq];exact⟨rfl,λm a b=>by lia⟩
  . obtain⟨i,hi⟩:=F.occ n (by lia)
    rw[(Sh k.srt).mpr hi];simp only[axb];have hnx:adv t.mask (P t.mask h n)=P t.mask h (n+1):=rfl;rw[hnx]
    by_cases hh:ha i=h
    . right
      refine⟨n,i,bw _,by lia,hi,hh,λq a b=>by lia,?_⟩;rw[dh (by simp[hh])]
    . rw[bx (by simp[hh])]
      have un:∀i':Nat,t.place[i']?=some (P t.mask h n).j->ha i'≠h:=λi' e'=>by have a:=below_at k.srt e';have b:=below_at k.srt hi;rw[<- a,b];exact hh
      rcases ih (n+1) (by lia) (by lia) with⟨a,b⟩|⟨m,i',a,b,c,d,e1,e2⟩
      . left
        refine⟨a,λm x y=>?_⟩
        by_cases q:m=n
        . subst q;exact un
        . exact b m (by lia) y
      . right
        refine⟨m,i',by lia,b,c,d,λq x y=>?_,e2⟩
        by_cases z:q=n
        . subst z;exact un
        . exact e1 q (by lia) y
def X7.ahead(k:X7 t es)(F:Fst t h N){i:Nat}(he:es[i]?=some e)(hh:e.1=h):∃m,m<N/\t.place[i]?=some (P t.mask h m).j:=by
 have li:i<t.place.size:=by rw[k.X8];exact(jk.mp he).1
 have hp:t.place[i]?=some t.place[i]:=by simp[li]
 obtain⟨n,a,b⟩:=k.rch i _ e hp he;subst hh;refine⟨n,?_,by rw[a];exact hp⟩;rcases Nat.lt_trichotomy n N with l|l|l
 . exact l
 . subst l;exact absurd ⟨i,by rw[a];exact hp⟩ F.emp
 . exact absurd (b N l) F.emp
def Zr(hs:Srt t.place)(q:Nat):Occ (t.put j).1 q↔q=j\/Occ t q:=by
 obtain⟨h1,h2,h3⟩:=Fl (j:=j) hs;constructor
 . rintro⟨i,e⟩
   have e:(insertAt t.place (below t.place j) j)[i]?=some q:=e;rcases O1 (below t.place j) i with rfl|⟨i',rfl⟩
   . rw[Jw _ _ _ h1] at e;cases e;exact .inl rfl
   . rw[Qj _ _ _ h1] at e;exact .inr ⟨i',e⟩
 . rintro(rfl|⟨i,e⟩)
   . exact⟨_,Jw _ _ _ h1⟩
   . exact⟨up (below t.place j) i,(Qj _ _ _ h1 i).trans e⟩
theorem X7.put(k:X7 t es)(F:Fst t h N)(room:t.place.size+1<=t.mask) :
 X7 (t.put (P t.mask h N).j).1 (insertAt es (t.put (P t.mask h N).j).2 (h,x)):=by
 obtain⟨h1,h2,h3⟩:=Fl (j:=(P t.mask h N).j) k.srt;have h1':below t.place (P t.mask h N).j<=es.size:=by rw[<- k.X8];exact h1
 refine⟨k.msk,?_,?_,?_,?_,?_,?_⟩
 . show(if has t.dummies _ then _ else t.dummies)=#[]
   rw[k.dum,X6];rfl
 . show(insertAt t.place _ _).size=(insertAt es _ _).size
   rw[Ng,Ng,k.X8]
 . exact arb k.srt (λi e=>F.emp ⟨i,e⟩)
 . intro i j e
   rcases(Zr k.srt j).mp ⟨i,e⟩ with rfl|⟨i',e'⟩
   . exact ba7 _ _ _
   . exact k.bnd i' j e'
 . show(insertAt t.place _ _).size<=t.mask
   rw[Ng];exact room
 . intro i j e hp he
   have hp:(insertAt t.place (below t.place (P t.mask h N).j) (P t.mask h N).j)[i]?=some j:=hp;have he:(insertAt es (below t.place (P t.mask h N).j) (h,x))[i]?=some e:=he;show ∃n,(P t.mask e.1 n).j=j/\∀m,m<n->Occ (t.put (P t.mask h N).j).1 (P t.mask e.1 m).j
   rcases O1 (below t.place (P t.mask h N).j) i with rfl|⟨i',rfl⟩
   . rw[Jw _ _ _ h1] at hp
     rw[Jw _ _ _ h1'] at he;cases hp;cases he;exact⟨N,rfl,λm l=>(Zr k.srt _).mpr (.inr (F.occ m l))⟩
   . rw[Qj _ _ _ h1] at hp
     rw[Qj _ _ _ h1'] at he;obtain⟨n,a,b⟩:=k.rch i' j e hp he;exact⟨n,a,λm l=>(Zr k.srt _).mpr (.inr (b m l))⟩
abbrev OcO(ow:Array (Option Nat))(j:Nat):Prop:=∃i,ow[j]?=some (some i)
structure Own(m:Nat)(ow:Array (Option Nat))(hs:Xs):Prop where
 X8:ow.size=m+1
 cnt:ow.toList.countP Option.isSome=hs.length
 lt:∀(j i:Nat),ow[j]?=some (some i)->i<hs.length
 inj:∀(j j' i:Nat),ow[j]?=some (some i)->ow[j']?=some (some i)->j=j'
 at':∀(i:Nat) h,hs[i]?=some h->∃j n,ow[j]?=some (some i)/\(P m h n).j=j/\∀q,q<n->OcO ow (P m h q).j
def getD_none{ow:Array (Option Nat)}(hz:ow.size=m+1)(h:(ow.getD j (some 0)).isNone=true):ow[j]?=some none:=by
 by_cases l:j<ow.size
 . simp[Array.getD,l] at h;simp[l,h]
 . simp[Array.getD,l] at h
def getD_some(hz:ow.size=m+1)(hj:j<=m)(h:¬(ow.getD j (some 0)).isNone=true):OcO ow j:=by
 have l:j<ow.size:=by lia
 simp[Array.getD,l] at h;unfold OcO;rw[show ow[j]?=some ow[j] by simp[l]];cases e:ow[j] with
 |none=>exact absurd e h|some i=>exact⟨i,rfl⟩
def aiz(hz:ow.size=m+1)(h:Int):∀(fuel T n:Nat),P m h n=beg m (I m h T) (bits h / 32 ^ T)->(∀q,q<n->OcO ow (P m h q).j) ->
 (∃k,k<fuel/\ow[I m h (T+k)]?=some none)->∃j n',layClean.free m ow fuel (I m h T) (bits h / 32 ^ T)=some j/\(P m h n').j=j/\ow[j]?=some none/\∀q,q<n'->OcO ow (P m h q).j:=by
 intro fuel
 induction fuel with
 |zero=>rintro T n _ _ ⟨k,l,_⟩;lia
 |succ fuel ih =>
  rintro T n e hq ⟨k,lk,ek⟩;have hI:=a3m m h T;obtain⟨r1,r2⟩:=Sq hI;unfold layClean.free;cases hf:(List.range (runEnd m (I m h T)+1-I m h T)).find? λk=>(ow.getD (I m h T+k) (some 0)).isNone with
  |some c =>
   obtain⟨a,b,d⟩:=List.find?_range_eq_some.mp hf;have b:=jz.mp b;refine⟨_,n+c,rfl,by rw[abx e c (by omega)],getD_none hz a,λq l=>?_⟩
   by_cases hn:q<n
   . exact hq q hn
   . obtain⟨c',rfl⟩:∃c',q=n+c':=⟨q-n,by lia⟩
     rw[abx e c' (by lia)];show OcO ow (I m h T+c');exact getD_some hz (by lia) (λhh=>by
      have:=d c' (by lia);simp only[hh] at this;cases this)
  |none =>
   have Ec:=List.find?_eq_none.mp hf;have occ:∀c,c<=runEnd m (I m h T)-I m h T->OcO ow (I m h T+c):=λc hc=>getD_some hz (by lia) (Ec c (jz.mpr (by lia)))
   cases k with
   |zero =>
    obtain⟨i,ei⟩:=occ 0 (mq _);rw[Nat.add_zero] at ek ei;rw[ek] at ei;cases ei
   |succ k =>
    have pe:bits h / 32 ^ T / 32=bits h / 32 ^ (T+1):=by rw[Nat.div_div_eq_div_mul,<- Nat.pow_succ]
    have:=ih (T+1) (n+(runEnd m (I m h T)-I m h T)+1) (by rw[ale e,pe];rfl) (λq l=>?_) ⟨k,by lia,by rw[show T+1+k=T+(k+1) by lia];exact ek⟩
    . obtain⟨j,n',e1,e2⟩:=this
      refine⟨j,n',?_,e2⟩;rw[<- e1];show layClean.free m ow fuel ((I m h T*5+1+bits h / 32 ^ T / 32)%(m+1)) (bits h / 32 ^ T / 32)=_;rw[pe];rfl
    . by_cases hn:q<n
      . exact hq q hn
      . obtain⟨c',rfl⟩:∃c',q=n+c':=⟨q-n,by lia⟩
        rw[abx e c' (by lia)];show OcO ow (I m h T+c');exact occ c' (by lia)
def Own.room(k:Own m ow hs)(h:hs.length<=m):∃j,j<=m/\ow[j]?=some none:=by
 apply xj;intro hn;have:ow.toList.countP Option.isSome=ow.toList.length:=List.countP_eq_length.mpr λa ha=>by
  obtain⟨j,hj,e⟩:=jo ha;cases a with
  |some i=>rfl
  |none =>
   have hj':j<ow.size:=by simpa using hj
   refine absurd ⟨j,by have:=k.X8;exact z_ (b_ hj' (f_ this)),?_⟩ hn;rw[<- ph,bc hj,e]
 rw[k.cnt] at this;have:=k.X8;simp at *
 lia
theorem Own.free(hm:Msk m)(k:Own m ow hs)(hl:hs.length<=m)(h:Int):∃j n',layClean.free m ow (turns m) (bits h%(m+1)) (bits h)=some j/\(P m h n').j=j/\ow[j]?=some none/\∀q,q<n'->OcO ow (P m h q).j:=by obtain⟨j,hj,e⟩:=k.room hl;obtain⟨T,lT,eT⟩:=cover hm h j hj;have:=aiz k.X8 h (turns m) 0 0 (by simp[P,I]) (λq l=>by lia) ⟨T,by unfold turns;lia,by rw[u9,eT];exact e⟩;simpa[I] using this
def Own.lay(k:Own m ow hs)(e1:(P m h n').j=j)(e2:ow[j]?=some none)(e3:∀q,q<n'->OcO ow (P m h q).j) :
 Own m (ow.setIfInBounds j (some hs.length)) (hs++[h]):=by
 have lj:j<ow.size:=(jk.mp e2).1
 have get:∀q:Nat,(ow.setIfInBounds j (some hs.length))[q]?=if j=q then some (some hs.length) else ow[q]?:=λq=>by rw[Array.getElem?_setIfInBounds];split<;>simp_all
 have occ:∀q,OcO ow q->OcO (ow.setIfInBounds j (some hs.length)) q:=λq ⟨i,e⟩=>by refine⟨i,?_⟩;rw[get,bx (λh=>by subst h;rw[e2] at e;cases e)];exact e
 refine⟨by simp[k.X8],?_,λq i e=>?_,λq q' i e e'=>?_,λi h' e=>?_⟩
 . rw[Array.toList_setIfInBounds,List.countP_set (by simpa using lj),k.cnt]
   have:ow.toList[j]'(by simpa using lj)=none:=by have:=(jk.mp e2).2;simpa using this
   rw[this];simp
 . rw[get] at e
   split at e
   . cases e;simp
   . have:=k.lt q i e;simp;exact A_ (e_ this)
 . rw[get] at e e'
   split at e<;>split at e'
   . lia
   . cases e;have:=k.lt _ _ e';lia
   . cases e';have:=k.lt _ _ e;lia
   . exact k.inj q q' i e e'
 . by_cases l:i<hs.length
   . rw[du l] at e
     obtain⟨j',n,a,b,c⟩:=k.at' i h' e;refine⟨j',n,?_,b,λq l=>occ _ (c q l)⟩;rw[get,bx (λh=>by subst h;rw[e2] at a;cases a)];exact a
   . have hi:i=hs.length:=by
      have:=(ao.mp e).1;simp at this;exact u_ (z_ this) (s_ l)
     subst hi;simp at e;subst e;exact⟨j,n',by rw[get,dh rfl],e1,λq l=>occ _ (e3 q l)⟩
theorem agn{m:Nat}(hm:Msk m):∀(rest hs:Xs)(ow:Array (Option Nat)),Own m ow hs->hs.length+rest.length<=m+1 ->
 ∃ow',rest.foldl (λacc h=>do
  let (owner,k) <- acc
  let j <- layClean.free m owner (turns m) (bits h%(m+1)) (bits h)
  pure (owner.setIfInBounds j (some k),k+1)) (some (ow,hs.length))=some (ow',hs.length+rest.length)/\Own m ow' (hs++rest)
 |[],hs,ow,k,_=>⟨ow,rfl,by simpa using k⟩
 |h::rest,hs,ow,k,l=>by
  obtain⟨j,n',e0,e1,e2,e3⟩:=k.free hm (by simp at l;lia) h;have k':=k.lay e1 e2 e3;obtain⟨ow',a,b⟩:=agn hm rest (hs++[h]) _ k' (by simp at l ⊢;lia);refine⟨ow',?_,by simpa using b⟩;rw[List.foldl_cons];have:(do
   let (owner,k) <- some (ow,hs.length)
   let j <- layClean.free m owner (turns m) (bits h%(m+1)) (bits h)
   pure (owner.setIfInBounds j (some k),k+1))=some (ow.setIfInBounds j (some hs.length),(hs++[h]).length):=by
   show(layClean.free m ow (turns m) (bits h%(m+1)) (bits h) >>= _)=_;rw[e0];simp
  rw[this,a]
  simp;lia
def alj(hm:Msk m)(hs:Array Int)(l:hs.size<=m+1):∃ow,layClean m hs=some ow/\Own m ow hs.toList:=by have k0:Own m (Array.replicate (m+1) none) []:=⟨by simp,by simp,λj i e=>by simp[Array.getElem?_replicate] at e,λj j' i e=>by simp[Array.getElem?_replicate] at e,λi h e=>by simp at e⟩;obtain⟨ow,a,b⟩:=agn hm hs.toList [] _ k0 (by simpa using l);refine⟨ow,?_,by simpa using b⟩;unfold layClean;rw[<- Array.foldl_toList];exact(o4 (Option.map (·.1)) a).trans rfl
noncomputable def lv(m:Nat)(ow:Array (Option Nat)):List (Nat×Nat):=(List.range (m+1)).filterMap λj=>(ow.getD j none).map (j,·)
def Qk(k:Own m ow hs):(j,i)∈lv m ow↔ow[j]?=some (some i):=by
 unfold lv;rw[List.mem_filterMap];constructor
 . rintro⟨q,a,b⟩
   obtain⟨i',e1,e2⟩:=cu.mp b;cases e2;have:j<ow.size:=by rw[k.X8];exact jz.mp a
   simp[Array.getD,this] at e1;simp[this,e1]
 . intro e
   have l:=(jk.mp e).1;refine⟨j,jz.mpr (by rw[<- k.X8];exact l),?_⟩;have:ow.getD j none=some i:=by simp[Array.getD,l,(jk.mp e).2]
   rw[this];rfl
def alk(m:Nat)(ow:Array (Option Nat)):(lv m ow).Pairwise λa b=>a.1<b.1:=by unfold lv;refine List.Pairwise.filterMap _ (λa a' Iw b hb b' hb'=>?_) List.pairwise_lt_range;obtain⟨_,_,rfl⟩:=cu.mp hb;obtain⟨_,_,rfl⟩:=cu.mp hb';exact Iw
def arh(k:Own m ow hs):((lv m ow).map (·.2)).Perm (List.range hs.length):=by
 refine(List.perm_ext_iff_of_nodup ?_ List.nodup_range).mpr λi=>?_
 . rw[m6,Ag]
   refine(alk m ow).imp_of_mem fun{a b} ha hb Iw e=>?_
   have:=k.inj a.1 b.1 a.2 ((Qk k).mp ha) (by rw[e];exact(Qk k).mp hb);exact l_ Iw (g_ this)
 . rw[bf,jz]
   constructor
   . rintro⟨a,ha,rfl⟩;exact k.lt _ _ ((Qk k).mp ha)
   . intro l
     obtain⟨j,n,a,_⟩:=k.at' i _ (bc l);exact⟨(j,i),(Qk k).mpr a,rfl⟩
theorem alm{α β:Type}{g:α->Option β}:∀{l:List α},(∀x∈l,(g x).isSome=true)->∀q:Nat,(l.filterMap g)[q]?=l[q]?.bind g
 |[],_,q=>by simp
 |x::l,h,q=>by
  have hx:=h x (di ..);obtain⟨y,e⟩:=qi.mp hx;rw[List.filterMap_cons_some e];cases q with
  |zero=>simp[e]|succ q=>simpa using alm (λx hx=>h x (bu _ hx)) q
def ago(hm:Msk m)(fg mv:Nat)(ld pl:Bool)(es:Array (Int×Value))(l:es.size<=m) :
 ∃t order,laid m fg mv ld pl (es.map (·.1))=some (t,order)/\t.mask=m/\X7 t (order.filterMap (es[·]?))/\(order.filterMap (es[·]?)).toList.Perm es.toList/\(order.filterMap (es[·]?)).size=es.size
 /\t.led=ld/\t.plain=pl/\t.finger=fg/\order.toList.Perm (List.range es.size):=by
 obtain⟨ow,e,k⟩:=alj hm (es.map (·.1)) (by simp;exact a_ l x_);have Yb:=arh k;simp at Yb;have hlen:(lv m ow).length=es.size:=by have:=Yb.length_eq;simpa using this
 have hsz:((((lv m ow).map (·.2)).toArray).filterMap (es[·]?)).size=es.size:=by have:=(Yb.filterMap (es[·]?)).length_eq;rw[filterMap_getElem?_range] at this;rw[<- q9,Array.toList_filterMap,this];simp
 refine⟨{ mask:=m,place:=((lv m ow).map (·.1)).toArray,dummies:=#[],finger:=fg,led:=ld,moves:=mv,plain:=pl },((lv m ow).map (·.2)).toArray,?_,rfl,?_,?_,?_,rfl,rfl,rfl,Yb⟩
 . unfold laid;rw[e];rfl
 . have a3p:∀x∈(lv m ow).map (·.2),(es[x]?).isSome=true:=λx hx=>by
    have:=jz.mp (Yb.mem_iff.mp hx)
    simp;exact this
   have get:∀q:Nat,((((lv m ow).map (·.2)).toArray).filterMap (es[·]?))[q]?=((lv m ow)[q]?).bind λa=>es[a.2]?:=λq=>by rw[<- ph,Array.toList_filterMap,alm a3p,ie];cases(lv m ow)[q]?<;>rfl
   have plc:∀q j:Nat,(((lv m ow).map (·.1)).toArray)[q]?=some j↔∃i,(lv m ow)[q]?=some (j,i):=λq j=>by
    simp only[List.getElem?_toArray,ie,cu];constructor
    . rintro⟨a,h,rfl⟩;exact⟨a.2,h⟩
    . rintro⟨i,h⟩;exact⟨_,h,rfl⟩
   refine⟨hm,rfl,?_,?_,?_,?_,?_⟩
   . show(((lv m ow).map (·.1)).toArray).size=_
     rw[hsz];simp[hlen]
   . intro i j a b ea eb lt
     obtain⟨i1,e1⟩:=(plc i a).mp ea;obtain⟨i2,e2⟩:=(plc j b).mp eb;obtain⟨l1,g1⟩:=ao.mp e1;obtain⟨l2,g2⟩:=ao.mp e2;have:=List.pairwise_iff_getElem.mp (alk m ow) i j l1 l2 lt;rw[g1,g2] at this;exact this
   . intro i j e
     obtain⟨i1,e1⟩:=(plc i j).mp e;have:=(Qk k).mp (au e1);have:=(jk.mp this).1;rw[k.X8] at this;show j<=m
     exact z_ this
   . show(((lv m ow).map (·.1)).toArray).size<=m
     simp[hlen];exact l
   . intro q j e' hp he
     obtain⟨i,e1⟩:=(plc q j).mp hp;rw[get,e1] at he;have he:es[i]?=some e':=he;obtain⟨j',n,a,b,c⟩:=k.at' i e'.1 (by simp[he]);have hj:=k.inj j j' i ((Qk k).mp (au e1)) a;subst hj;refine⟨n,b,λw lw=>?_⟩;obtain⟨i',ei'⟩:=c w lw;obtain⟨z,hz⟩:=vd.mp ((Qk k).mpr ei');exact⟨z,(plc z _).mpr ⟨i',hz⟩⟩
 . rw[Array.toList_filterMap]
   have:=Yb.filterMap (es[·]?);rw[filterMap_getElem?_range] at this;exact this
 . exact hsz
def Yc:∀n,n<32->Msk (sizeAbove (grown n)-1)/\n<=sizeAbove (grown n)-1/\n+1<=sizeAbove (grown n)-1/\¬(n*5 >= (sizeAbove (grown n)-1)*3)/\sizeAbove (grown n)<=128:=by unfold Msk;decide+kernel
def aln:∀n,n<64->Msk (sizeAbove (n*2)-1)/\n<=sizeAbove (n*2)-1/\¬(n*5 >= (sizeAbove (n*2)-1)*3)/\sizeAbove (n*2)<=128:=by unfold Msk;decide+kernel
section
variable{prog:Program}{w:World}{K:Type}[DecidableEq K]{knd:KeyKind prog w K}{A:Around}{E:Y1}{s:Shared}
def aep(n:Nat)(h:carriedByValue v=true):ofAClassStatement n v=pure false:=by cases v<;>first|(simp[carriedByValue] at h;done)|(unfold ofAClassStatement;rfl)
def Vk(hk:IsTupleKey knd s.heap ks a)(h:Q false s):wpAny (model prog w) A (ofAClassStatement 8 (.ref a)) Q E s:=by
 have hT:=hk.typeIs;obtain⟨o,items,n,ho,_,hd,hi⟩:=hk;unfold ofAClassStatement;refine aa (qb hT ?_);show wpAny _ _ (if("tuple"=="tuple")=true then _ else _) _ _ s;rw[dh (by decide)];refine aa (aj ?_);simp only[ql,dg,jf];refine aa (o5 ho hd ?_);refine aa ?_;show wpAny _ _ (forIn items _ _) _ _ s;rw[<- Array.forIn_toList];refine uw _ (λrest r s'=>r.1=none/\s'=s/\∀v∈rest,carriedByValue v=true) _ ?_ ?_ _ _ ⟨rfl,rfl,hi.byValue⟩
 . rintro v rest r s' ⟨hr,rfl,Ec⟩
   rw[aep _ (Ec v di)];refine aa (aj ?_);simp only[dg,jf];exact aj ⟨rfl,rfl,λu hu'=>Ec u (bu _ hu')⟩
 . rintro⟨r1,r2⟩ s' ⟨hr,rfl,_⟩
   simp only at hr;subst hr;exact aj h
def alo(hk:IsTupleKey knd s.heap ks a)(hs:∀v∈st,∃ks b,v=.ref b/\IsTupleKey knd s.heap ks b)(h:Q false s) :
 wpAny (model prog w) A (searchCouldBeSeen (.ref a) st) Q E s:=by
 unfold searchCouldBeSeen;refine aa ?_;refine uw _ (λrest r s'=>r.1=none/\s'=s/\∀v∈rest,∃ks b,v=.ref b/\IsTupleKey knd s.heap ks b) _ ?_ ?_ _ _ ⟨rfl,rfl,hs⟩
 . rintro v rest r s' ⟨hr,rfl,Ec⟩
   obtain⟨ks',b,rfl,hb⟩:=Ec v di;have awe:∀v∈rest,∃ks b,v=.ref b/\IsTupleKey knd s'.heap ks b:=λv hv=>Ec v (bu _ hv)
   dsimp only;split
   . exact aj ⟨rfl,rfl,awe⟩
   . refine aa (wpAny_eqIsQuiet_tuple hk ?_)
     simp only[ql,dg,jf];refine aa (wpAny_eqIsQuiet_tuple hb ?_);simp only[ql,dg,jf];refine aa (Vk hk ?_);simp only[dg,jf];refine aa (Vk hb ?_);simp only[dg,jf];exact aj ⟨rfl,rfl,awe⟩
 . rintro⟨r1,r2⟩ s' ⟨hr,rfl,_⟩
   simp only at hr;subst hr;exact aj h
noncomputable def ent(knd:KeyKind prog w K)(x:List K×Addr):Int×Value:=(tupleKeyHash knd x.1,.ref x.2)
def aeq{es:Array (Int×Value)}{xs:List (List K×Addr)}(he:es.toList=xs.map (ent knd))(j:Nat):es[j]?=(xs[j]?).map (ent knd):=by rw[<- ph,he,ie]
def ai0{xs:List (List K×Addr)}(hu:A.units<cLine)(hk:IsTupleKey knd s.heap k p)(ho:s.heap.get? a=some o)(hd:o.data=.set es ep t)(T:X7 t es)(he:es.toList=xs.map (ent knd))(hx:∀x∈xs,IsTupleKey knd s.heap x.1 x.2)(hn:(xs.map (·.1)).Nodup)(F:Fst t (tupleKeyHash knd k) N)(Xl:∀(i:Nat) x,xs[i]?=some x->x.1=k->Q (.there (if adding then none else some i)) s)(axh:(∀x∈xs,x.1≠k)->Q (.free (P t.mask (tupleKeyHash knd k) N).j false) s) :
 ∀(fuel n:Nat)(st:Option Probe),n<=N->N-n<fuel->st.getD (t.probeStart (tupleKeyHash knd k))=P t.mask (tupleKeyHash knd k) n ->
  (∀m,m<n->∀(i:Nat) x,t.place[i]?=some (P t.mask (tupleKeyHash knd k) m).j->xs[i]?=some x->x.1≠k) ->
  wpAny (model prog w) A (setSearchFrom a (.ref p) (tupleKeyHash knd k) adding fuel st) Q E s:=by
 intro fuel
 induction fuel with
 |zero=>intro n st _ l;omega
 |succ fuel ih =>
  intro n st hnN l U6 a3r;unfold setSearchFrom;refine aa (jw ho hd T.fits ?_);dsimp only;rw[T.way,U6];simp only[dg,jf];have key:=ali T F (λi=>(es[i]?.map (·.1)).getD 0) (10*turns t.mask) n hnN (by have:=F.lt;exact c_ C_ this);generalize hpr:t.probe _ (tupleKeyHash knd k) (P t.mask (tupleKeyHash knd k) n)=pr;have hpr:t.probe (λi=>(es[i]?.map (·.1)).getD 0) (tupleKeyHash knd k) (P t.mask (tupleKeyHash knd k) n)=pr:=hpr;have atI:∀(i j:Nat),t.place[i]?=some j->∃x,xs[i]?=some x/\es[i]?=some (ent knd x):=λi j e=>by
   have li:i<es.size:=by rw[<- T.X8];exact(jk.mp e).1
   have lx:i<xs.length:=by have:=o4 List.length he;simp at this;exact b_ li (f_ this)
   refine⟨xs[i],by simp[lx],?_⟩;rw[aeq he];simp[lx]
  rcases key with⟨e,Yd⟩|⟨m,i,h1,h2,h3,h4,h5,e⟩
  . have e:pr=_:=hpr.symm.trans e
    subst e;dsimp only;refine aj (axh λx hxm hxk=>?_);obtain⟨i,hi⟩:=vd.mp hxm;have hei:es[i]?=some (ent knd x):=by rw[aeq he,hi];rfl
    obtain⟨m,lm,hp⟩:=T.ahead F hei (by unfold ent;rw[hxk])
    by_cases hmn:m<n
    . exact a3r m hmn i x hp hi hxk
    . refine Yd m (s_ hmn) lm i hp ?_
      rw[hei];show tupleKeyHash knd x.1=_;rw[hxk]
  . have e:pr=_:=hpr.symm.trans e
    subst e;dsimp only;obtain⟨x,hxi,hei⟩:=atI i _ h3;have hkx:=hx x (au hxi);have seen:∀{R:Bool->Shared->Prop},R false s->wpAny (model prog w) A (searchCouldBeSeen (.ref p) ((es.filter (·.1==tupleKeyHash knd k)).toList.map (·.2))) R E s:=λhR=>alo hk (λv hv=>by
     obtain⟨y,hy,rfl⟩:=bf.mp hv;have hy':y∈es.toList:=by simp at hy;simpa using hy.1
     rw[he] at hy';obtain⟨z,hz,rfl⟩:=bf.mp hy';exact⟨z.1,z.2,rfl,hx z hz⟩) hR
    rcases Bool.eq_false_or_eq_true t.led with a3s|a3s
    all_goals
     simp only[a3s,ql,ym,dg,jf,jy]
     first
     |(rw[hei];show wpAny _ _ (holding [.ref x.2] (eqBool (.ref x.2) (.ref p)) >>= _) _ _ _)
     |(refine aa (seen ?_);simp only[dg,jf];rw[hei];show wpAny _ _ (holding [.ref x.2] (eqBool (.ref x.2) (.ref p)) >>= _) _ _ _)
     refine aa (jg (wpAny_eqBool_tuple hu hkx hk ?_));refine aa (jw ho hd T.fits ?_);dsimp only;have hsm:t.sameMemory t.moves t.mask=some true:=by unfold sameMemory;simp
     rw[hsm];dsimp only;rw[dh rfl,(Sh T.srt).mpr h3];dsimp only;rw[hei]
     by_cases hxk:x.1=k
     . have hd1:decide (x.1=k)=true:=by simp[hxk]
       rw[hd1];have hq:=Xl i x hxi hxk;cases adding
       . simp only[Bool.false_and,dg,jf]
         refine aa (wpAny_isSame_ref_self ?_);refine aa (aj ?_);simpa using aj hq
       . simp only[Bool.and_self,jy]
         exact aj hq
     . have hd1:decide (x.1=k)=false:=by simp[hxk]
       rw[hd1];simp only[Bool.and_false,dg,jf];refine aa (wpAny_isSame_ref_self ?_);refine aa (aj ?_);simp only[jy];refine ih (m+1) _ h2 (by lia) rfl λm' hm' i' x' hp' ari=>?_
       by_cases hc:m'<n
       . exact a3r m' hc i' x' hp' ari
       . by_cases hm:m'=m
         . subst hm
           have ei:i'=i:=by rw[<- below_at T.srt hp',<- below_at T.srt h3]
           subst ei;rw[hxi] at ari;cases ari;exact hxk
         . intro bba
           have bbb:es[i']?=some (ent knd x'):=by rw[aeq he,ari];rfl
           refine h5 m' (s_ hc) (by lia) i' hp' ?_;rw[bbb];show tupleKeyHash knd x'.1=_;rw[bba]
end
section
variable{prog:Program}{w:World}{K:Type}[DecidableEq K]{knd:KeyKind prog w K}{pk:List K×Addr->Prop}{A:Around}{E:Y1}{s:Shared}
noncomputable abbrev bt(w:World):Bool:=w.params.followText "set-order"
def U7(h:Q (bt w) s):wpAny (model prog w) A setsByText Q E s:=by unfold setsByText;exact aa (wpAny_askSetting (aj h))
def Ss(knd:KeyKind prog w K)(pk:List K×Addr->Prop):Prop:=∀x,pk x->∀k∈x.1,∀v n,knd.is k v=true->hashByValue n v=pure true
theorem T5:∀{ks:List K}{vs:Zl},ItemsAre knd ks vs->(∀k∈ks,∀v n,knd.is k v=true->hashByValue n v=pure true)->∀v∈vs,∀n,hashByValue n v=pure true
 |_,_,.nil,_,v,h=>by simp at h
 |_,_,.cons h t,hp,v,hv=>by
  rcases bz.mp hv with rfl|hv
  . exact λn=>hp _ di _ n h
  . exact T5 t (λk hk=>hp k (bu _ hk)) v hv
def aes(hpk:Ss knd pk)(hk:IsTupleKey knd s.heap ks a)(hp:pk (ks,a))(h:Q true s):wpAny (model prog w) A (hashByValue 8 (.ref a)) Q E s:=by
 have hT:=hk.typeIs;obtain⟨o,items,n,ho,_,hd,hi⟩:=hk;unfold hashByValue;refine aa (wpAny_specialOf hT F.slot_tuple_hash.lookup ?_);dsimp only;refine aa (o5 ho hd ?_);refine aa ?_;show wpAny _ _ (forIn items _ _) _ _ s;rw[<- Array.forIn_toList];refine uw _ (λrest r s'=>r.1=none/\s'=s/\∀v∈rest,∀n,hashByValue n v=pure true) _ ?_ ?_ _ _ ⟨rfl,rfl,T5 hi (hpk _ hp)⟩
 . rintro v rest r s' ⟨hr,rfl,Ec⟩
   rw[Ec v di];refine aa (aj ?_);simp only[ql,dg,jf];exact aj ⟨rfl,rfl,λu hu'=>Ec u (bu _ hu')⟩
 . rintro⟨r1,r2⟩ s' ⟨hr,rfl,_⟩
   simp only at hr;subst hr;exact aj h
structure Su(knd:KeyKind prog w K)(pk:List K×Addr->Prop)(h:Heap)(a:Addr)(xs:List (List K×Addr))(o:Obj)(es:Array (Int×Value))(ep:Nat)(t:SetTable):Prop where
 get:h.get? a=some o
 exa:o.ExactSet
 dat:o.data=.set es ep t
 tab:X7 t es
 ent:es.toList=xs.map (ent knd)
 keys:∀x∈xs,IsTupleKey knd h x.1 x.2/\pk x
 nod:(xs.map (·.1)).Nodup
 led:t.led=!bt w
 pla:t.plain=true
def Dj(knd:KeyKind prog w K)(pk:List K×Addr->Prop)(h:Heap)(a:Addr)(S:List K->Prop)(n:Nat):Prop:=∃xs o es ep t,Su knd pk h a xs o es ep t/\(∀k,S k↔k∈xs.map (·.1))/\xs.length=n/\t.place.size*5<t.mask*3
theorem Su.size(X:Su knd pk h a xs o es ep t):es.size=xs.length:=by have:=o4 List.length X.ent;simpa using this
def alp(p:Addr)(es:Array (Int×Value)):byScan (.ref p) es=false:=by unfold byScan;simp[Value.scannable]
def alq(h:Msk m):10*turns m<100000:=by rcases h with rfl|rfl|rfl|rfl|rfl<;>decide
def Vl(hu:A.units<cLine)(hk:IsTupleKey knd s.heap k p)(X:Su knd pk s.heap a xs o es ep t)(F:Fst t (tupleKeyHash knd k) N)(Xl:∀(i:Nat) x,xs[i]?=some x->x.1=k->Q (.there (if adding then none else some i)) s)(axh:(∀x∈xs,x.1≠k)->Q (.free (P t.mask (tupleKeyHash knd k) N).j false) s) :
 wpAny (model prog w) A (setSearch a (.ref p) (tupleKeyHash knd k) adding) Q E s:=by
 unfold setSearch;exact ai0 hu hk X.get X.dat X.tab X.ent (λx hx=>(X.keys x hx).1) X.nod F Xl axh 100000 0 none (mq _) (by have:=F.lt;have:=alq X.tab.msk;lia) (abw _ _) (λm l=>by lia)
def ark(hu:A.units<cLine)(hk:IsTupleKey knd s.heap k p)(hS:Dj knd pk s.heap a S n)(h:∀r:Option Nat,(r.isSome=true↔S k)->Q r s):wpAny (model prog w) A (setFind a (.ref p) (tupleKeyHash knd k)) Q E s:=by
 obtain⟨xs,o,es,ep,t,X,hm,_,_⟩:=hS;obtain⟨N,F⟩:=X.tab.fst (tupleKeyHash knd k);unfold setFind setFindIn;refine aa (jw X.get X.dat X.tab.fits ?_);dsimp only;rw[alp];simp only[dg,jf];refine aa (Vl hu hk X F (λi x hi hx=>?_) (λYd=>?_))
 . simp only[dg,jf]
   exact aj (h _ (by simp;exact(hm k).mpr (bf.mpr ⟨x,au hi,hx⟩)))
 . dsimp only
   refine aj (h _ ?_);simp only[Option.isSome_none,dg,false_iff];intro hs;obtain⟨x,hx,e⟩:=bf.mp ((hm k).mp hs);exact Yd x hx e
end
def Ed{α β:Type}{f:α->β}:∀{l l':List β},l.Perm l'->∀{xs:List α},l'=xs.map f->∃xs':List α,l=xs'.map f/\xs'.Perm xs:=by
 intro l l' p
 induction p with
 |nil=>intro xs e;cases xs with
  |nil=>exact⟨[],rfl,.nil⟩|cons _ _=>cases e
 |cons a p ih =>
  intro xs e;cases xs with
  |nil=>cases e
  |cons x xs =>
   simp only[iu,zq] at e;obtain⟨xs',e1,p1⟩:=ih e.2;exact⟨x::xs',by simp[e1,e.1],p1.cons x⟩
 |swap a b l =>
  intro xs e
  match xs,e with
  |x::y::xs,e =>
   simp only[iu,zq] at e;obtain⟨rfl,rfl,rfl⟩:=e;exact⟨y::x::xs,rfl,.swap x y xs⟩
 |trans p q ih1 ih2 =>
  intro xs e;obtain⟨ys,e1,p1⟩:=ih2 e;obtain⟨zs,e2,p2⟩:=ih1 e1;exact⟨zs,e2,p2.trans p1⟩
section
variable{prog:Program}{w:World}{K:Type}[DecidableEq K]{knd:KeyKind prog w K}{pk:List K×Addr->Prop}{A:Around}{E:Y1}{s:Shared}
def alr(x:IsTupleKey knd h ks p)(ho:h.get? a=some o)(hd:o.data=.set es ep t)(hs:Heap.SameBut a h h'):IsTupleKey knd h' ks p:=by
 obtain⟨o',items,n,ho',hc,hd',hi⟩:=x;have Xf:p≠a:=by rintro rfl;obtain rfl:o'=o:=jq (ho'.symm.trans ho);rw[hd] at hd';exact nomatch hd'
 exact⟨o',items,n,(hs.2 p Xf).trans ho',hc,hd',hi⟩
def newX(X:Su knd pk h a xs o es ep t)(T':X7 t' es')(he:es'.toList=xs'.map (ent knd))(hk:∀x∈xs',IsTupleKey knd h x.1 x.2/\pk x)(hn:(xs'.map (·.1)).Nodup)(hl:t'.led=!bt w)(hp:t'.plain=true) :
 Su knd pk (h.update a (Obj.putSet es' t')) a xs' { o with data:=.set es' (ep+1) t' } es' (ep+1) t':=by
 have hg:(h.update a (Obj.putSet es' t')).get? a=some { o with data:=.set es' (ep+1) t' }:=by have:=my (Obj.putSet es' t') X.get (by rw[putSet_of es' t' X.dat];rfl);rw[putSet_of es' t' X.dat] at this;exact this
 exact⟨hg,X.exa,rfl,T',he,λx hx=>⟨alr (hk x hx).1 X.get X.dat (jt h a _),(hk x hx).2⟩,hn,hl,hp⟩
def Jx(h:n<=128):n<=sizeLine:=by rw[qj];exact a_ h (by decide)
def abz(X:Su knd pk s.heap a xs o es ep t)(hm:Msk (sizeAbove wanted-1))(hz:es.size<=sizeAbove wanted-1)(hb:sizeAbove wanted<=128)(h:∀h' xs' o' es' ep' t',Heap.SameBut a s.heap h'->Su knd pk h' a xs' o' es' ep' t'->xs'.Perm xs->t'.mask=sizeAbove wanted-1->t'.place.size=es.size->Q () { s with heap:=h' }) :
 wpAny (model prog w) A (setRelay a wanted) Q E s:=by
 obtain⟨t',order,e,e1,T',p,sz,hl,hp,_⟩:=ago hm t.finger (t.movedTo (sizeAbove wanted-1)) t.led t.plain es hz;unfold setRelay;refine aa (jw X.get X.dat X.tab.fits ?_);dsimp only;rw[bx (by have:=Jx hb;exact j_ this)];have er:t.relaid (es.map (·.1)) wanted=some (t',order):=e;rw[er];refine aa ?_;have hif:wpAny (model prog w) A (if((order.filterMap (es[·]?)).size != es.size)=true then(do unsupported "internal:set-table-lost-an-element";pure (order.filterMap (es[·]?),t')) else pure (order.filterMap (es[·]?),t'))
  (λr s'=>wpAny (model prog w) A (storeSet a r.1 r.2) Q E s') E s:=by
  rw[bx (by simp[sz])];refine aj ?_;obtain⟨xs',ex,px⟩:=Ed p X.ent;have hX:=newX X T' ex (λx hx=>X.keys x (px.mem_iff.mp hx)) ((px.map _).nodup_iff.mpr X.nod) (hl.trans X.led) (hp.trans X.pla);refine wpAny_storeSet_of X.get X.dat (h _ _ _ _ _ _ (jt s.heap a _) hX px e1 (by rw[T'.X8,sz])) (Jx (by rw[sz];exact a_ hz (a_ C_ hb)))
 exact hif
def Zt(hpk:Ss knd pk)(hu:A.units<cLine)(hk:IsTupleKey knd s.heap k p)(hp:pk (k,p))(hS:Dj knd pk s.heap a S n)(hn:n+1<32)(h:∀h' n' b,Heap.SameBut a s.heap h'->Dj knd pk h' a (λk'=>S k'\/k'=k) n'->n'<=n+1->Q b { s with heap:=h' }) :
 wpAny (model prog w) A (setAddHashed a (.ref p) (tupleKeyHash knd k)) Q E s:=by
 obtain⟨xs,o,es,ep,t,X,hm,hl,nf⟩:=hS;obtain⟨N,F⟩:=X.tab.fst (tupleKeyHash knd k);have hsz:=X.size;unfold setAddHashed setAddHashedIn;refine jg (aa (jw X.get X.dat X.tab.fits ?_));dsimp only;rw[alp];simp only[dg,jf];refine aa (Vl hu hk X F (λi x hi hx=>?_) (λYd=>?_))
 . dsimp only
   refine aj ?_;have hSk:S k:=(hm k).mpr (bf.mpr ⟨x,au hi,hx⟩);have:=h s.heap n false (Heap.SameBut.refl a s.heap) ⟨xs,o,es,ep,t,X,λk'=>by
    rw[<- hm k'];exact⟨λh=>h.elim id (λe=>e▸hSk),.inl⟩,hl,nf⟩ x_
   exact this
 . dsimp only
   refine aa (jw X.get X.dat X.tab.fits ?_);dsimp only;have room:t.place.size+1<=t.mask:=by have:=X.tab.msk;rcases this with e|e|e|e|e<;>lia
   have T':=X.tab.put (x:=.ref p) F room;have Ip:(t.put (P t.mask (tupleKeyHash knd k) N).j).1.plain=true:=X.pla;rw[Ip];simp only[jy];refine aa (aes hpk hk hp ?_);simp only[jy];obtain⟨xs',ex,px⟩:=Ed (f:=ent knd) (insertAt_perm es (t.put (P t.mask (tupleKeyHash knd k) N).j).2 (tupleKeyHash knd k,.ref p)) (xs:=xs++[(k,p)]) (by rw[Array.toList_push,X.ent,qd];rfl);have pm:=px.map (·.1);have hnd:(xs'.map (·.1)).Nodup:=pm.nodup_iff.mpr (by
    rw[qd,yc];refine⟨X.nod,by simp,λa ha b hb=>?_⟩;simp at hb;subst hb;rintro rfl;obtain⟨x,hx,e⟩:=bf.mp ha;exact Yd x hx e)
   have Vm:∀x∈xs',IsTupleKey knd s.heap x.1 x.2/\pk x:=λx hx=>by
    rcases dm.mp (px.mem_iff.mp hx) with hx|hx
    . exact X.keys x hx
    . simp at hx;subst hx;exact⟨hk,hp⟩
   have hX:=newX X T' ex Vm hnd X.led X.pla;have Iu:∀k',(S k'\/k'=k)↔k'∈xs'.map (·.1):=λk'=>by rw[pm.mem_iff,qd,dm,hm k'];simp
   have hlen:xs'.length=n+1:=by rw[px.length_eq];simp[hl]
   have hes:(insertAt es (t.put (P t.mask (tupleKeyHash knd k) N).j).2 (tupleKeyHash knd k,.ref p)).size=es.size+1:=Ng _ _ _;refine aa (wpAny_storeSet_of X.get X.dat ?_ (Jx (by rw[hes];exact e_ (c_ (v_ (f_ hsz)) (c_ (v_ (f_ hl)) (b_ hn (by decide)))))));have als:(t.put (P t.mask (tupleKeyHash knd k) N).j).1.place.size=es.size+1:=by rw[T'.X8,hes]
   by_cases htf:(t.put (P t.mask (tupleKeyHash knd k) N).j).1.tooFull=true
   . rw[htf]
     simp only[ym,Bool.and_self,jy];obtain⟨g1,g2,g3,g4,g5⟩:=Yc (es.size+1) (c_ (v_ (f_ hsz)) (c_ (v_ (f_ hl)) hn));refine aa (abz hX g1 (by rw[hes];exact g2) g5 λh' xs2 o2 es2 ep2 t2 sb X2 p2 em ps=>?_);refine aj (h h' (n+1) true ((jt s.heap a _).trans sb) ⟨xs2,o2,es2,ep2,t2,X2,λk'=>?_,by rw[p2.length_eq,hlen],?_⟩ (bw _))
     . exact(Iu k').trans (p2.map (·.1)).mem_iff.symm
     . rw[ps,em,hes];exact t_ g4
   . rw[yw] at htf
     rw[htf];simp only[Bool.and_false,dg,jf];refine aj (h _ (n+1) true (jt s.heap a _) ⟨xs',_,_,_,_,hX,Iu,hlen,?_⟩ (bw _));unfold tooFull at htf;have hf:(t.put (P t.mask (tupleKeyHash knd k) N).j).1.fill=es.size+1:=by unfold fill;rw[als,T'.dum];rfl
     rw[hf] at htf;rw[als];simp at htf;exact htf
end
open PySem
def upto(J:Nat->β->Shared->Prop)(turn:∀i b z,i<n->J i b z->wpAny M A (f i b) (λr z'=>match r with|.yield b'=>J (i+1) b' z'|.done b'=>Q b' z') E z)(fin:∀b z,J n b z->Q b z)(start:J 0 b s) :
 wpAny M A (forIn [:n] b f) Q E s:=by
 have go:∀(k i:Nat)(b:β)(z:Shared),n=i+k->J i b z->wpAny M A (forIn (List.range' i k) b f) Q E z:=by
  intro k
  induction k with
  |zero=>intro i b z e hj;subst e;exact aj (fin b z hj)
  |succ k ih =>
   intro i b z e hj;show wpAny M A (forIn (i::List.range' (i+1) k) b f) Q E z;rw[List.forIn_cons];refine aa (lz (turn i b z (by lia) hj) (λr z' hr=>?_) λ_ _ x=>x)
   match r,hr with
   |.done b',hr=>exact aj hr|.yield b',hr=>exact ih (i+1) b' z' (by lia) hr
 have e:(forIn [:n] b f:Sem β)=forIn (List.range' 0 n) b f:=by rw[Std.Legacy.Range.forIn_eq_forIn_range'];simp[Std.Legacy.Range.size]
 rw[e];exact go n 0 b s (by lia) start
def sub_dict_set:isSubtype (.type "dict") (.type "set")=pure false:=by rw[isSubtype_type];kernel_rfl
def sub_dict_frozenset:isSubtype (.type "dict") (.type "frozenset")=pure false:=by rw[isSubtype_type];kernel_rfl
section
variable{prog:Program}{w:World}{K:Type}[DecidableEq K]{knd:KeyKind prog w K}{pk:List K×Addr->Prop}{A:Around}{E:Y1}{s:Shared}
def Ha(hT:s.TypeIs v T)(h1:isSubtype (.type T) (.type "set")=pure false)(h2:isSubtype (.type T) (.type "frozenset")=pure false)(h:Q false s) :
 wpAny (model prog w) A (Builtin.Frozenset.isAnySet v) Q E s:=by
 unfold Builtin.Frozenset.isAnySet;refine aa (mj hT h1 ?_);exact mj hT h2 h
def bbe(hT:s.TypeIs v "set")(h:Q true s):wpAny (model prog w) A (Builtin.Frozenset.isAnySet v) Q E s:=by unfold Builtin.Frozenset.isAnySet;refine aa (mj hT sub_set_self ?_);exact aj h
noncomputable def Ar(w:World):Obj:={ cls:=.type "set",dict:=none,data:=.set #[] 0 (.fresh 0 0 (!bt w)) }
def aro(hg:h.get? a=some (Ar w)):Dj knd pk h a (λ_=>False) 0 :=
 ⟨[],Ar w,#[],0,_,⟨hg,⟨rfl,rfl,rfl⟩,rfl,⟨.inl rfl,rfl,rfl,λi j a b e=>by simp[SetTable.fresh] at e,λi j e=>by simp[SetTable.fresh] at e,by simp[SetTable.fresh],λi j e a=>by simp[SetTable.fresh] at a⟩,
  rfl,λx hx=>by simp at hx,xf,rfl,rfl⟩,λk=>by simp,rfl,by simp[SetTable.fresh]⟩
set_option tactic.hygienic true in
def arp(hS:Dj knd pk s.heap a S n)(hl:n+m<64)(h:∀h',Heap.SameBut a s.heap h'->Dj knd pk h' a S n->Q () { s with heap:=h' }):wpAny (model prog w) A (setRoomFor a m) Q E s:=by
 obtain⟨xs,o,es,ep,t,X,hm,hn,nf⟩:=hS;have hsz:=X.size;unfold setRoomFor;refine aa (jw X.get X.dat X.tab.fits ?_);dsimp only;unfold roomFor;have hps:=X.tab.X8;split
 . rename_i wanted e
   split at e
   . cases e
     obtain⟨g1,g2,g3,g4⟩:=aln (t.place.size+m) (c_ (v_ (f_ hps)) (c_ (v_ (f_ hsz)) (c_ (v_ (f_ hn)) hl)));refine abz X g1 (by lia) g4 λh' xs2 o2 es2 ep2 t2 sb X2 p2 em ps=>h h' sb ⟨xs2,o2,es2,ep2,t2,X2,λk'=>?_,by rw[p2.length_eq,hn],?_⟩
     . exact(hm k').trans (p2.map (·.1)).mem_iff.symm
     . rw[ps,em];lia
   . cases e
 . exact aj (h s.heap (Heap.SameBut.refl _ _) ⟨xs,o,es,ep,t,X,hm,hn,nf⟩)
theorem Dj.get(hS:Dj knd pk h a S n):∃o es ep t,h.get? a=some o/\o.ExactSet/\o.data=.set es ep t/\t.fits es.size=true :=
 let ⟨_,o,es,ep,t,X,_⟩:=hS;⟨o,es,ep,t,X.get,X.exa,X.dat,X.tab.fits⟩
def Dj.typeIs(hS:Dj knd pk s.heap a S n):s.TypeIs (.ref a) "set" :=
 let ⟨o,_,_,_,ho,hc,_⟩:=hS.get;⟨o,ho,hc.1⟩
def Dj.congr(hS:Dj knd pk h a S n)(e:∀k,S k↔S' k):Dj knd pk h a S' n :=
 let ⟨xs,o,es,ep,t,X,hm,r⟩:=hS;⟨xs,o,es,ep,t,X,λk=>(e k).symm.trans (hm k),r⟩
def alu(hpk:Ss knd pk){id:String}(hu:A.units<cLine)(hS:Dj knd pk s.heap a S n)(hd:s.heap.DictOfH (tupleKind knd) d xs)(hds:(d==sysModules)=false)(hpx:∀x∈xs,pk (x.1,x.2.1))(hl:n+xs.length<31)(h:∀h' n',Heap.SameBut a s.heap h'->Dj knd pk h' a (λk=>S k\/k∈xs.map (·.1)) n'->Q () { s with heap:=h' }) :
 wpAny (model prog w) A (Builtin.Frozenset.updateFrom id a (.ref d)) Q E s:=by
 have hT:=hd.typeIs;obtain⟨od,esd,epd,hod,hcd,hdd,hed,hxd,hnd⟩:=hd;obtain⟨o0,es0,ep0,t0,hg0,hc0,hd0,hf0⟩:=hS.get;have Xf:d≠a:=by rintro rfl;rw[hod] at hg0;cases hg0;rw[hdd] at hd0;cases hd0
 have hlen:esd.size=xs.length:=size_of_entries hed;unfold Builtin.Frozenset.updateFrom;refine aa (Ha hT sub_dict_set sub_dict_frozenset ?_);simp only[dg,jf];refine aa (qb hT ?_);rw[dh (by decide)];refine aa (wpAny_rule ?_);refine aa (m:=Builtin.Frozenset.addrOf (.ref d)) (aj ?_);rw[bx (by rw[hds];decide)];refine aa (wpAny_dictEpoch hod hdd ?_);refine aa (m8 hod hdd ?_);refine aa (arp hS (by lia) λh1 sb1 hS1=>?_);have bbi:h1.get? d=some od:=(sb1.2 d Xf).trans hod;refine aa (m8 bbi hdd ?_);refine aa ?_;refine upto (λi _ z=>∃h' n',z={ s with heap:=h' }/\Dj knd pk h' a (λk=>S k\/k∈(xs.take i).map (·.1)) n'/\n'<=n+i/\Heap.SameBut a s.heap h') (λi _ z lt inv=>?_) (λ_ z inv=>?_) ⟨h1,n,rfl,hS1.congr (λk=>by simp),x_,sb1⟩
 . obtain⟨h',n',rfl,Vn,O6,sb'⟩:=inv
   have aeu:h'.get? d=some od:=(sb'.2 d Xf).trans hod;refine aa (m8 aeu hdd ?_);have lx:i<xs.length:=b_ lt (f_ hlen)
   have he:esd[i]?=some (entryOfKey (tupleKind knd) xs[i]):=by rw[entry_at hed];simp[lx]
   rw[he];have hkk:IsTupleKey knd h' xs[i].1 xs[i].2.1:=alr (hxd _ (lq lx)) hg0 hd0 sb';show wpAny _ _ (holding [.ref xs[i].2.1] (setAddHashed a (.ref xs[i].2.1) (tupleKeyHash knd xs[i].1)) >>= _) _ _ _;refine aa (jg (Zt (s:={ s with heap:=h' }) hpk hu hkk (hpx _ (lq lx)) Vn (by lia) λh'' n'' b a3w alw a3x=>?_));refine aa (wpAny_dictEpoch ((a3w.2 d Xf).trans aeu) hdd ?_);rw[ye];refine aj ⟨h'',n'',rfl,alw.congr (λk=>?_),by lia,sb'.trans a3w⟩;rw[List.take_add_one,qd,dm,show xs[i]?=some xs[i] by simp[lx]];simp[or_assoc]
 . obtain⟨h',n',rfl,Vn,O6,sb'⟩:=inv
   refine aj (h h' n' sb' (Vn.congr λk=>?_));rw[List.take_of_length_le (g_ hlen)]
end
section
variable{prog:Program}{w:World}{K:Type}[DecidableEq K]{knd:KeyKind prog w K}{pk:List K×Addr->Prop}{A:Around}{E:Y1}{s:Shared}
def ars(post:R (.ref s.heap.objs.size) { s with heap:=s.heap.push (Ar w) }) :
 codeAny (model prog w) A (.call (.builtin "set.__new__") ⟨[.type "set",v],[]⟩) (wants R E) s:=by
 refine codeAny_call_builtin F.plain_set_new F.entry_set_new (wpAny_of_eq (F.newCall_set_1 v) ?_);have sub:=sub_set_self;unfold Builtin.«set.__new__» Builtin.Frozenset.newClass
 wp_walk
 exact wpAny_askSetting (aj (aa (wpAny_alloc (aj (aj post)))))
set_option maxHeartbeats 3200000 in
def Nh{R:Shared->Prop}(hup:wpAny (model prog w) A.in1.in1 (Builtin.Frozenset.updateFrom "set.__init__" s.heap.objs.size x) (λ_ s'=>R s') E { s with heap:=s.heap.push (Ar w) })(h:∀s',R s'->Q (.ref s.heap.objs.size) s') :
 wpAny (model prog w) A (call (.type "set") [x]) Q E s:=by
 obtain⟨c,tl,bhy⟩:=ug.mro;have bft:=ug.made;have Zu:=ug.sub;refine wpAny_call (codeAny_of_tree ?_);show wpAny _ _ (callAny (.type "set") _) _ _ _;refine aj ⟨Code.quiet_builtin _ (by decide+kernel),m7 F.entry_type_call ?_⟩;rw[Around.under_plain (weight_type_call_type "set" [x] []) rfl];have h1:=ug.notType;have h2:=ug.canCreate;have hct:=F.typeCall_set_1 x
 repeat (any_goals (first|assumption|wp_step))
 refine vf (ars (v:=x) (E:=E) (R:=λobj s₁=>obj=.ref s.heap.objs.size/\s₁={ s with heap:=s.heap.push (Ar w) }) ⟨rfl,rfl⟩) λr s₁ hr=>?_
 cases r with
 |error e=>exact hr
 |ok fl =>
  cases fl with
  |ret obj =>
   obtain⟨rfl,rfl⟩:=hr;have hS:(s.heap.push (Ar w)).get? s.heap.objs.size=some (Ar w):=bh _ rfl;have hT:Shared.TypeIs { s with heap:=s.heap.push (Ar w) } (.ref s.heap.objs.size) "set" := ⟨_,hS,rfl⟩;have hli:=ug.init.lookup;have hbi:=ug.init.bind (.ref s.heap.objs.size)
   repeat (any_goals (first|assumption|wp_step))
   refine vf (codeAny_call_builtin (R:=wants (λr s₂=>r=.none/\R s₂) E) ug.init.plain F.entry_set_init (check_set_init_1 hT ?_)) λr₂ s₂ hr₂=>?_
   . unfold Builtin.«set.__init__» noKeywords
     generalize hUF:Builtin.Frozenset.updateFrom=UF at hup ⊢;unfold Ar at hS hT hup ⊢
     wp_walk
     exact lz hup (λ_ s' hr=>aj ⟨rfl,hr⟩) (λe s' he=>he)
   . cases r₂ with
     |error e=>exact hr₂
     |ok fl₂ =>
      cases fl₂ with
      |ret r =>
       obtain⟨rfl,hq⟩:=hr₂
       repeat (any_goals (first|assumption|wp_step))
       exact h _ hq
      |_=>exact hr₂.elim
  |_=>exact hr.elim
end
open PyProof.Rows (F.entry_set_update_loop F.plain_set_update_loop)
section
variable{prog:Program}{w:World}{K:Type}[DecidableEq K]{knd:KeyKind prog w K}{pk:List K×Addr->Prop}{A:Around}{E:Y1}{s:Shared}
def Sv{wr:X9}(hk:IsTupleKey knd h ks p)(hp:p∉wr)(hm:∀b o,b∉wr->h.get? b=some o->h'.get? b=some o):IsTupleKey knd h' ks p :=
 let ⟨o,items,n,ho,r⟩:=hk;⟨o,items,n,hm p o hp ho,r⟩
def Dj.moved{wr:X9}(hS:Dj knd pk h a S n)(ha:a∉wr)(hw:∀(b:Addr) (ks:List K),b∈wr->¬IsTupleKey knd h ks b)(hm:∀b o,b∉wr->h.get? b=some o->h'.get? b=some o):Dj knd pk h' a S n :=
 let ⟨xs,o,es,ep,t,X,r⟩:=hS
 ⟨xs,o,es,ep,t,⟨hm a o ha X.get,X.exa,X.dat,X.tab,X.ent,λx hx=>⟨Sv (X.keys x hx).1 (λhc=>hw _ _ hc (X.keys x hx).1) hm,(X.keys x hx).2⟩,X.nod,X.led,X.pla⟩,r⟩
def art(hpk:Ss knd pk){I:Addr}{P:Nat->Value->Prop}(hu:A.in1.units<cLine)(W:WalksS prog w A.in1 I fp wr G n P St)(a:Addr)(haf:a∉fp)(ks:List (List K×Addr))(hkl:ks.length=n)(axl:∀i v x,P i v->ks[i]?=some x->v=.ref x.2)(hpx:∀x∈ks,pk x)(hb:n<31)(hkw:∀x∈ks,x.2∉wr)(hnk:∀i (s:Shared),St i s->∀(b:Addr) (ks:List K),b∈wr->¬IsTupleKey knd s.heap ks b) :
 ∀(k i n':Nat)(s:Shared),n-i=k->i<=n->St i s->(∀x∈ks,IsTupleKey knd s.heap x.1 x.2) ->
  Dj knd pk s.heap a (λk'=>k'∈(ks.take i).map (·.1)) n'->n'<=i ->
  (∀s' n'',Moved (a::wr) G s s'->Dj knd pk s'.heap a (λk'=>k'∈ks.map (·.1)) n''->R (.ok (.ret .none)) s') ->
  codeAny (model prog w) A (.builtin "set.update.loop" ⟨[.ref a,.ref I],[]⟩) R s:=by
 have haw:a∉wr:=λh=>haf (W.sub _ h)
 have Zu:∀b∈wr,b∈a::wr:=λb hb=>bu _ hb
 intro k
 induction k with
 |zero =>
  intro i n' s hk hi U6 Vm hS O6 hR;have Xl:i=n:=by lia
  subst Xl;refine m7 qy ?_;rw[j4 kh _];show wpAny _ A.in1 (pyNext (.ref I) >>= _) _ _ s;refine aa (W.done s _ _ U6 λs' hm=>?_);show wpAny _ A.in1 (ret Value.none) _ _ s';refine aj (hR s' n' (hm.mono Zu) ((hS.moved haw (hnk _ s U6) hm.heap).congr λk=>?_));rw[List.take_of_length_le (f_ hkl)]
 |succ k ih =>
  intro i n' s hk hi U6 Vm hS O6 hR;have Iw:i<n:=by lia
  refine m7 qy ?_;rw[j4 kh _];show wpAny _ A.in1 (pyNext (.ref I) >>= _) _ _ s;refine aa (W.item i s _ _ Iw U6 λv s' hP axm hm=>?_);have lx:i<ks.length:=b_ Iw (g_ hkl)
  have hgx:ks[i]?=some ks[i]:=by simp[lx]
  obtain rfl:=axl i v _ hP hgx;have hxm:=lq lx;have Vn:=hS.moved haw (hnk _ s U6) hm.heap;have aev:∀x∈ks,IsTupleKey knd s'.heap x.1 x.2:=λx hx=>Sv (Vm x hx) (hkw x hx) hm.heap
  show wpAny _ A.in1 (holding [Value.ref ks[i].2] (setAdd a (.ref ks[i].2)) >>= _) _ _ s';refine aa (jg ?_);unfold setAdd;refine jg ?_;refine aa (wpAny_pyHash_tuple hu (aev _ hxm) ?_);refine Zt (s:={ s' with toks:=s'.toks+(ks[i].1.length+1) }) hpk hu (aev _ hxm) (hpx _ hxm) Vn (by lia) λh' n2 b hsb hS2 Xm=>?_
  obtain⟨oa,esa,epa,ta,hga,hca,hda,hfa⟩:=Vn.get;refine aj ⟨plainId_quiet kh _,ih (i+1) n2 _ (by lia) Iw (W.frame _ s' _ _ axm (w6 _ _) λb hb o e=>?_) (λx hx=>alr (aev x hx) hga hda hsb) (hS2.congr λk=>?_) (a_ Xm (v_ O6)) λs'' n3 axo alw=>?_⟩
  . rw[hsb.2 b (λh:b=a=>haf (by rw[<- h];exact hb))];exact e
  . rw[List.take_add_one,qd,dm,hgx];simp
  . refine hR s'' n3 (Moved.trans W.gtrans ((hm.mono Zu).then_heap (w6 _ _) λb o hb e=>?_) axo) alw
    rw[hsb.2 b (λh:b=a=>hb (by rw[h];exact di))];exact e
def alx(hpk:Ss knd pk){id:String}{ks:List (List K×Addr)}(hh:A.handled=none)(hu:A.in1.units+1<cLine)(hS:Dj knd pk s.heap a (λ_=>False) 0)(hl:s.heap.IsList l items)(hit:items.toList=ks.map λx=>.ref x.2)(Vm:∀x∈ks,IsTupleKey knd s.heap x.1 x.2)(hpx:∀x∈ks,pk x)(hlen:ks.length<31)(h:∀h' tk n',(∀b o,b≠a->s.heap.get? b=some o->h'.get? b=some o)->Dj knd pk h' a (λk=>k∈ks.map (·.1)) n'->Q () { s with heap:=h',toks:=tk }) :
 wpAny (model prog w) A (Builtin.Frozenset.updateFrom id a (.ref l)) Q E s:=by
 have hT:s.TypeIs (.ref l) "list" := let ⟨o,ho,hc,_⟩:=hl;⟨o,ho,hc⟩;have hsz:items.size=ks.length:=by rw[<- q9,hit];simp
 obtain⟨oa,esa,epa,ta,hga,hca,hda,hfa⟩:=hS.get;unfold Builtin.Frozenset.updateFrom;refine aa (Ha hT F.sub_list_set F.sub_list_frozenset ?_);simp only[dg,jf];refine aa (qb hT ?_);rw[bx (by decide)];refine aa (v5 hl ?_);refine aa (wpAny_runValue ?_);have Iw:l<s.heap.objs.size:=let ⟨o,ho,_⟩:=hl;az ho
 have hat:a<s.heap.objs.size:=az hga
 have hla:l≠a:=by rintro rfl;obtain⟨o,ho,_,n,hd⟩:=hl;rw[ho] at hga;cases hga;rw[hd] at hda;cases hda
 have axp:l≠s.heap.objs.size:=fc Iw;have haf:a∉[s.heap.objs.size,l]:=by simp only[bz,qw,Aw,not_or];exact⟨fc hat,λe=>hla e.symm⟩
 have keep:∀b o,s.heap.get? b=some o->(s.heap.push { cls:=.type "list_iterator",data:=.fields #[.ref l,.int 0 0] }).get? b=some o:=λb o e=>ak _ e
 refine art hpk (by lia) ((Walks.list (by simp[hh]) _ l axp items).toS) a haf ks hsz.symm (λi v x hv hx=>?_) hpx (c_ (f_ hsz) hlen) (λx hx hc=>?_) (λi s' st b kk hb hkb=>?_) items.size 0 0 _ rfl (mq _)
  ⟨⟨_,bh _ rfl,rfl,rfl⟩,hl.push _⟩ (λx hx=>Sv (wr:=[]) (Vm x hx) (by simp) λb o _ e=>keep b o e) ?_ (bw _) ?_
 . have:items.toList[i]?=some v:=by simpa using hv
   rw[hit,ie,hx] at this;exact(jq this).symm
 . simp at hc
   obtain⟨o,_,_,ho,_⟩:=Vm x hx;have:=az ho;rw[hc] at this;exact ou _ this
 . simp at hb
   subst hb;obtain⟨o,_,_,ho,hc,_⟩:=hkb;obtain⟨⟨o',ho',hc',_⟩,_⟩:=st;rw[ho] at ho';cases ho';rw[hc] at hc';exact absurd hc' (by decide)
 . refine(hS.moved (wr:=[]) (by simp) (by simp) λb o _ e=>keep b o e).congr λk=>by simp
 . intro s' n'' hm Vn
   obtain⟨h',g',d',tk',os'⟩:=s';have eg:g'=s.gens:=hm.gens;have ed:d'=s.drawn:=hm.drawn;have eo:os'=s.os:=hm.os;subst eg;subst ed;subst eo;show wpAny _ _ _ _ _ _;refine aj (h h' tk' n'' (λb o hb e=>?_) Vn);refine hm.heap b o ?_ (keep b o e);simp only[bz,qw,Aw,not_or];exact⟨hb,fc (az e)⟩
end
theorem Vo{α:Type}:∀{l:List α}{i:Nat}(h:i<l.length),(l[i]::l.eraseIdx i).Perm l
 |x::l,0,_=>yo _
 |x::l,i+1,h=>by
  have ih:=Vo (l:=l) (i:=i) (by simpa using h);simp only[List.getElem_cons_succ,List.eraseIdx_cons_succ];exact(List.Perm.swap x _ _).trans (ih.cons x)
theorem agr{α:Type}(nx:Nat->Nat):∀(fuel k:Nat)(left:List α)(out:Array α),left.length=fuel->(pickOrder.go nx fuel k left out).toList.Perm (out.toList++left)
 |0,k,left,out,h=>by
  have:left=[]:=um.mp h;subst this;unfold pickOrder.go;simp
 |fuel+1,k,left,out,h=>by
  unfold pickOrder.go;have hq:nx k%left.length<left.length:=Nat.mod_lt _ (by lia)
  rw[bc hq];dsimp only;refine(agr nx fuel (k+1) _ _ (by rw[List.length_eraseIdx];split<;>lia)).trans ?_;rw[Array.toList_push,Af];refine List.Perm.append_left _ ?_;exact Vo hq
def Ye(nx:Nat->Nat)(xs:Array α):(pickOrder nx xs).toList.Perm xs.toList:=by unfold pickOrder;simpa using agr nx xs.size 0 xs.toList #[] (by simp)
theorem Vp{α:Type}[DecidableEq α]:∀{l1 l2:List α},l1.Nodup->l1 ⊆ l2->l2.length<=l1.length->∀x∈l2,x∈l1
 |[],l2,_,_,h,x,hx=>by
  have:l2=[]:=um.mp (by simpa using h);subst this;simp at hx
 |a::l1,l2,hn,hs,h,x,hx=>by
  by_cases e:x=a
  . subst e;exact di
  . refine bu _ ?_
    have ha:a∈l2:=hs di;have O6:=kj.mp hn;refine Vp (l2:=l2.erase a) O6.2 (λy hy=>?_) ?_ x ((List.mem_erase_of_ne e).mpr hx)
    . exact(List.mem_erase_of_ne (λ(e:y=a)=>O6.1 (by rw[<- e];exact hy))).mpr (hs (bu _ hy))
    . rw[List.length_erase_of_mem ha];simp at h;omega
def Zv:entryFor table "set.__ne__" = some Builtin.«frozenset.__ne__» :=
 entryFor_alias (id' := "frozenset.__ne__") (by kernel_rfl) rfl (by decide+kernel) (by kernel_rfl)
def sub_set_frozenset:isSubtype (.type "set") (.type "frozenset")=pure false:=by rw[isSubtype_type];kernel_rfl
section
variable{prog:Program}{w:World}{K:Type}[DecidableEq K]{knd:KeyKind prog w K}{pk:List K×Addr->Prop}{A:Around}{E:Y1}{s:Shared}
set_option tactic.hygienic true in
def arx(X:Su knd pk s.heap a xs o es ep t)(h:∀l,l.toList.Perm es.toList->Q l s):wpAny (model prog w) A (setWalk a) Q E s:=by
 unfold setWalk;refine aa (jw X.get X.dat X.tab.fits ?_);dsimp only;refine aa (U7 ?_);split
 . exact aa (wpAny_askSetting (aj (h _ (Ye _ _))))
 . rename_i hb
   have hb:bt w=false:=by simpa using hb
   split
   . rename_i hd
     have hd:(!t.plain&&decide (es.size > 1))=true:=hd;rw[X.pla] at hd;cases hd
   . refine aa ?_
     have:wpAny (model prog w) A (if(!t.led&&decide (es.size > 1))=true then unsupported "set:maker-not-led" else pure ()) (λ_ s'=>wpAny (model prog w) A (pure es) Q E s') E s:=by rw[X.led,hb];simp only[ym,ql,Bool.false_and,dg,jf];exact aj (aj (h es (yo _)))
     exact this
def ai5(hk:IsTupleKey knd s.heap ks a)(h:Q false s):wpAny (model prog w) A (Builtin.Frozenset.quietEq (.ref a)) Q E s:=by
 unfold Builtin.Frozenset.quietEq;refine aa (wpAny_specialOf hk.typeIs F.slot_tuple_eq.lookup ?_);refine aj ?_;have:(some (Value.builtin "tuple.__eq__")==some (Value.builtin "object.__eq__"))=false:=by decide
 rw[this];exact h
def Zw(X:Su knd pk h a xs o es ep t)(he:e∈es.toList):∃x∈xs,e=ent knd x:=by rw[X.ent] at he;obtain⟨x,hx,rfl⟩:=bf.mp he;exact⟨x,hx,rfl⟩
def ai6(X:Su knd pk s.heap a xs o es ep t)(Y:Su knd pk s.heap b ys o' es' ep' t')(h:∀l:List (Int×Value),l.Perm es.toList->Q l s):wpAny (model prog w) A (Builtin.Frozenset.walkUnseen a b) Q E s:=by
 unfold Builtin.Frozenset.walkUnseen;refine aa (j9 X.get X.dat X.tab.fits ?_);refine aa (j9 Y.get Y.dat Y.tab.fits ?_);refine aa ?_;refine uw _ (λrest r s'=>r.1=none/\s'=s/\∀e∈rest,∃ks p,e.2=.ref p/\IsTupleKey knd s.heap ks p) _ ?_ ?_ _ _ ⟨rfl,rfl,λe he=>?_⟩
 . rintro e rest r s' ⟨hr,rfl,Ec⟩
   obtain⟨ks,p,hep,hk⟩:=Ec e di;obtain⟨h0,x0⟩:=e;subst hep;dsimp only;refine aa (ai5 hk ?_);simp only[ym,jy];unfold Builtin.Frozenset.walk;refine aa (aa (arx X λl hl=>aj ?_));exact aj (aj (h _ hl))
 . rintro⟨r1,r2⟩ s' ⟨hr,rfl,_⟩
   simp only at hr;subst hr;exact aj (h _ (yo _))
 . rcases dm.mp he with he|he
   . obtain⟨x,hx,rfl⟩:=Zw X he
     exact⟨x.1,x.2,rfl,(X.keys x hx).1⟩
   . obtain⟨x,hx,rfl⟩:=Zw Y he
     exact⟨x.1,x.2,rfl,(Y.keys x hx).1⟩
def axq{id:String}(hu:A.units<cLine)(hS:Dj knd pk s.heap a S n)(hT:Dj knd pk s.heap b T m)(h:∀c:Bool,(c=true↔n<=m/\∀k,S k->T k)->Q c s):wpAny (model prog w) A (Builtin.Frozenset.subsetOf id a b) Q E s:=by
 have hT':=hT;obtain⟨xs,o,es,ep,t,X,hm,hn,_⟩:=hS;obtain⟨ys,o',es',ep',t',Y,hm',O6,_⟩:=hT;have h1:=X.size;have h2:=Y.size;unfold Builtin.Frozenset.subsetOf Builtin.Frozenset.sizeOf;refine aa (aa (j9 X.get X.dat X.tab.fits (aj ?_)));refine aa (aa (j9 Y.get Y.dat Y.tab.fits (aj ?_)));split
 . exact aj (h false (by simp;lia))
 . refine aa (wpAny_setEpoch_of X.get X.dat X.tab.fits ?_)
   refine aa (ai6 X Y λl hl=>?_);refine aa ?_;refine uw _ (λrest r s'=>r.1=none/\s'=s/\(∀e∈rest,∃x∈xs,e=ent knd x)/\∀x∈xs,ent knd x∈rest\/T x.1) _ ?_ ?_ _ _ ⟨rfl,rfl,λe he=>Zw X (hl.mem_iff.mp he),λx hx=>.inl (hl.mem_iff.mpr (by rw[X.ent];exact bf.mpr ⟨x,hx,rfl⟩))⟩
   . rintro e rest r s' ⟨hr,rfl,Ec,aly⟩
     obtain⟨x,hx,rfl⟩:=Ec e di;show wpAny _ _ (holding [.ref x.2] (setFind b (.ref x.2) (tupleKeyHash knd x.1)) >>= _) _ _ _;refine aa (jg (ark hu (X.keys x hx).1 hT' λr hr=>?_));cases r with
     |none =>
      simp only[Option.isNone_none,jy];refine aj (aj (h false ?_));simp only[dg,false_iff,not_and,Classical.not_forall];intro _;refine⟨x.1,(hm x.1).mpr (bf.mpr ⟨x,hx,rfl⟩),λhc=>?_⟩;have:=hr.mpr hc;cases this
     |some i =>
      simp only[Option.isNone_some,dg,jf];unfold Builtin.Frozenset.unchanged;refine aa (aa (wpAny_setEpoch_of X.get X.dat X.tab.fits ?_));rw[bx (by simp)];refine aj (aj ⟨rfl,rfl,λe he=>Ec e (bu _ he),λy hy=>?_⟩);rcases aly y hy with hc|hc
      . rcases bz.mp hc with hc|hc
        . right
          have hTx:T x.1:=hr.mp rfl;have e2:y.2=x.2:=by have:=o4 Prod.snd hc;unfold ent at this;injection this
          have:y.1=x.1:=IsTupleKey.inj (X.keys y hy).1 (by rw[e2];exact(X.keys x hx).1);rw[this];exact hTx
        . exact .inl hc
      . exact .inr hc
   . rintro⟨r1,r2⟩ s' ⟨hr,rfl,_,aly⟩
     simp only at hr;subst hr;refine aj (h true ?_);simp only[true_iff];refine⟨by lia,λk hk=>?_⟩;obtain⟨x,hx,rfl⟩:=bf.mp ((hm k).mp hk);rcases aly x hx with hc|hc
     . simp at hc
     . exact hc
set_option tactic.hygienic true in
def a4a(hu:A.in1.units<cLine)(hu0:A.units<cLine)(hS:Dj knd pk s.heap a S n)(hT:Dj knd pk s.heap b T m)(h:∀c:Bool,(c=true↔¬∀k,S k↔T k)->Q (.bool c) s):wpAny (model prog w) A (compareOp .NotEq (.ref a) (.ref b)) Q E s:=by
 show wpAny _ _ (richCompare .NotEq (.ref a) (.ref b)) _ _ _;refine wpAny_richCompare_same_room (op:=.NotEq) hS.typeIs hT.typeIs F.slot_set_ne (jc F.slot_set_ne hS.typeIs Zv ?_ (F.args_set_ne_2 _ _)) hu0;have fin:∀c:Bool,(c=true↔∀k,S k↔T k)->Q (.bool !c) s:=λc hc=>h _ (by cases c<;>simp_all)
 have Vn:=hS;have hT':=hT;obtain⟨xs,o,es,ep,t,X,hm,hn,_⟩:=Vn;obtain⟨ys,o',es',ep',t',Y,hm',O6,_⟩:=hT';have h1:=X.size;have h2:=Y.size;have same:(∀k,S k↔T k)->n=m:=λe=>by
  have:(xs.map (·.1)).Perm (ys.map (·.1)):=(List.perm_ext_iff_of_nodup X.nod Y.nod).mpr λk=>by rw[<- hm k,<- hm' k];exact e k
  have:=this.length_eq;simp at this;exact u_ (a_ (g_ hn) (a_ (f_ this) (f_ O6))) (a_ (g_ O6) (a_ (g_ this) (f_ hn)))
 have back:n=m->(∀k,S k->T k)->∀k,S k↔T k:=λe hs k=>⟨hs k,λhk=>(hm k).mpr (Vp X.nod (λk hk=>(hm' k).mp (hs k ((hm k).mpr hk))) (by simp;exact a_ (f_ O6) (a_ (g_ e) (g_ hn))) k ((hm' k).mp hk))⟩
 show wpAny _ _ (Builtin.Frozenset.slot1 "__ne__" ⟨[.ref a,.ref b],[]⟩ >>= _) _ _ _;unfold Builtin.Frozenset.slot1 slotArgs;simp only[List.isEmpty_nil,ql,dg,↓reduceIte,bind_assoc,iw,List.length_nil,ye];refine aa (aj ?_)
 try dsimp only
 refine aa (aj ?_)
 try dsimp only
 refine aa (bbe hT.typeIs ?_);simp only[ql,dg,↓reduceIte];refine aa (m:=Builtin.Frozenset.addrOf (.ref a)) (aj ?_);refine aa (m:=Builtin.Frozenset.addrOf (.ref b)) (aj ?_);unfold Builtin.Frozenset.sizeOf;refine aa (aa (j9 X.get X.dat X.tab.fits (aj ?_)));refine aa (aa (j9 Y.get Y.dat Y.tab.fits (aj ?_)));refine aa ?_;split
 . rename_i Xf
   refine aj ?_;refine aj ⟨_,rfl,(λe=>nomatch e),fin false ?_⟩;simp only[dg,false_iff];intro e;have:=same e;simp at Xf;lia
 . rename_i Xf
   have hnm:n=m:=by simp at Xf;lia
   refine aa (aa (mj hS.typeIs sub_set_frozenset ?_));refine aj ?_;simp only[dg,↓reduceIte];refine axq hu hS hT λc hc=>?_
   exact aj ⟨_,rfl,(λe=>nomatch e),fin c (hc.trans ⟨λe=>back hnm e.2,λe=>⟨f_ hnm,λk=>(e k).mp⟩⟩)⟩
end
def Zx{prog:Program}{w:World}{A:Around}{α:Type}{Q:α->Shared->Prop}{E:Y1}{s:Shared}(hd:A.handled=none)(q:∀h' x,(∀b o,s.heap.get? b=some o->h'.get? b=some o)->(∃o,h'.get? x=some o/\o.cls=.type "StopIteration")->E (.ref x) { s with heap:=h' }):wpAny (model prog w) A (newExc (.type "StopIteration") [] >>= raiseNew) Q E s:=by simp only[newExc,newTuple];refine aa (aa (ju (aa (m:=firstArgMember _ _) (wpAny_of_eq (a:=Value.none) (by first|rfl|(simp only[firstArgMember];rfl)) (ju ?_ (by size_fits)))) (by size_fits)));simp only[raiseNew];refine aa (wpAny_handled ?_);rw[hd];exact aa (aj (wpAny_throw (q _ _ (λb o e=>ak _ (ak _ e)) ⟨_,bh _ rfl,rfl⟩)))
def arz(k:X7 t es)(F:Fst t h N)(room:t.place.size+1<=t.mask) :
 layNew t es h x=(insertAt es (t.put (P t.mask h N).j).2 (h,x),(t.put (P t.mask h N).j).1,false,false):=by
 have e:t.freeSlot h=some ((P t.mask h N).j,false):=by
  unfold freeSlot probe;rw[abw];rcases ali k F (λ_=>h+1) (10*turns t.mask) 0 (mq _) (by have:=F.lt;exact c_ C_ this) with⟨a,_⟩|⟨m,i,_,_,_,c,_⟩
  . rw[a];rfl
  . lia
 have f:=(k.put (x:=x) F room).fits;unfold layNew;rw[e];show(insertAt es (t.put (P t.mask h N).j).2 (h,x),(t.put (P t.mask h N).j).1.orStandIn (insertAt es (t.put (P t.mask h N).j).2 (h,x)).size,false,!(t.put (P t.mask h N).j).1.fits (insertAt es (t.put (P t.mask h N).j).2 (h,x)).size)=_;unfold orStandIn;rw[dh f,f];rfl
def ai7(hm:Msk (sizeAbove wanted-1))(hz:es.size<=sizeAbove wanted-1) :
 ∃es' t',relayAll t es wanted=(es',t',false)/\t'.mask=sizeAbove wanted-1/\X7 t' es'/\es'.toList.Perm es.toList/\t'.led=t.led/\t'.plain=t.plain:=by
 obtain⟨t',order,e,e1,T',p,sz,hl,hp,_,hpm⟩:=ago hm t.finger (t.movedTo (sizeAbove wanted-1)) t.led t.plain es hz;have er:t.relaid (es.map (·.1)) wanted=some (t',order):=e;refine⟨order.filterMap (es[·]?),t',?_,e1,T',p,hl,hp⟩;unfold relayAll;rw[er];dsimp only;rw[dh];rw[aq];exact⟨by unfold coversAll;exact List.isPerm_iff.mpr hpm,T'.fits⟩
noncomputable def enI(x:Int×Tok):Int×Value:=(hashInt x.1,.int x.1 x.2)
structure Kw(w:World)(h:Heap)(a:Addr)(xs:List (Int×Tok))(o:Obj)(es:Array (Int×Value))(ep:Nat)(t:SetTable):Prop where
 get:h.get? a=some o
 exa:o.ExactSet
 dat:o.data=.set es ep t
 tab:X7 t es
 ent:es.toList=xs.map enI
 nod:(xs.map (·.1)).Nodup
 led:t.led=!bt w
 pla:t.plain=true
def Ff(w:World)(h:Heap)(a:Addr)(S:Int->Prop)(n:Nat):Prop:=∃xs o es ep t,Kw w h a xs o es ep t/\(∀k,S k↔k∈xs.map (·.1))/\xs.length=n/\t.place.size*5<t.mask*3
theorem Kw.size(X:Kw w h a xs o es ep t):es.size=xs.length:=by have:=o4 List.length X.ent;simpa using this
def Kw.elems(X:Kw w h a xs o es ep t):ElemsOf (intKind prog w) es.toList:=λe he=>by rw[X.ent] at he;obtain⟨x,_,rfl⟩:=bf.mp he;exact⟨⟨x.1,by simp[enI,intKind,Value.isInt],rfl⟩,rfl⟩
def a4b(X:Kw w h a xs o es ep t)(T':X7 t' es')(he:es'.toList=xs'.map enI)(hn:(xs'.map (·.1)).Nodup)(hl:t'.led=!bt w)(hp:t'.plain=true) :
 Kw w (h.update a (Obj.putSet es' t')) a xs' { o with data:=.set es' (ep+1) t' } es' (ep+1) t':=by
 have hg:(h.update a (Obj.putSet es' t')).get? a=some { o with data:=.set es' (ep+1) t' }:=by have:=my (Obj.putSet es' t') X.get (by rw[putSet_of es' t' X.dat];rfl);rw[putSet_of es' t' X.dat] at this;exact this
 exact⟨hg,X.exa,rfl,T',he,hn,hl,hp⟩
theorem Ff.get(hS:Ff w h a S n):∃o es ep t,h.get? a=some o/\o.ExactSet/\o.data=.set es ep t/\t.fits es.size=true :=
 let ⟨_,o,es,ep,t,X,_⟩:=hS;⟨o,es,ep,t,X.get,X.exa,X.dat,X.tab.fits⟩
def Ff.congr(hS:Ff w h a S n)(e:∀k,S k↔S' k):Ff w h a S' n :=
 let ⟨xs,o,es,ep,t,X,hm,r⟩:=hS;⟨xs,o,es,ep,t,X,λk=>(e k).symm.trans (hm k),r⟩
def Ff.moved(hS:Ff w h a S n)(hm:∀o,h.get? a=some o->h'.get? a=some o):Ff w h' a S n :=
 let ⟨xs,o,es,ep,t,X,r⟩:=hS
 ⟨xs,o,es,ep,t,⟨hm o X.get,X.exa,X.dat,X.tab,X.ent,X.nod,X.led,X.pla⟩,r⟩
def al0(hg:h.get? a=some (Ar w)):Ff w h a (λ_=>False) 0 :=
 ⟨[],Ar w,#[],0,_,⟨hg,⟨rfl,rfl,rfl⟩,rfl,⟨.inl rfl,rfl,rfl,λi j a b e=>by simp[SetTable.fresh] at e,λi j e=>by simp[SetTable.fresh] at e,by simp[SetTable.fresh],λi j e a=>by simp[SetTable.fresh] at a⟩,
  rfl,xf,rfl,rfl⟩,λk=>by simp,rfl,by simp[SetTable.fresh]⟩
def ar0(hS:Ff w s.heap a S n)(hn:n+1<32)(h:∀h' n' b,Heap.SameBut a s.heap h'->Ff w h' a (λk'=>S k'\/k'=k) n'->n'<=n+1->Q b { s with heap:=h' }) :
 wpAny (model prog w) A (setAddHashed a (.int k tk) (hashInt k)) Q E s:=by
 obtain⟨xs,o,es,ep,t,X,hm,hl,nf⟩:=hS;obtain⟨N,F⟩:=X.tab.fst (hashInt k);have hsz:=X.size;have hel:=X.elems (prog:=prog);have axs:(intKind prog w).is k (.int k tk)=true:=by simp[intKind,Value.isInt]
 unfold setAddHashed setAddHashedIn;refine jg (aa (jw X.get X.dat X.tab.fits ?_));dsimp only;rw[byScan_of (knd:=intKind prog w) (x:=.int k tk) rfl (by unfold scanBound;lia) hel];simp only[↓reduceIte];unfold setAddByScan;refine aa ?_;refine aa (wpAny_rule ?_);refine aa (wpAny_setScan_of (knd:=intKind prog w) (k:=k) axs X.get X.dat X.tab.fits hel ?_);cases hr:List.findIdx? (λe=>(intKind prog w).is k e.2) es.toList with
 |some j =>
  dsimp only;obtain⟨hj,hpj,_⟩:=qg.mp hr;have hSk:S k:=by
   obtain⟨x,hx,ex⟩:∃x∈xs,enI x=es.toList[j]:=by have Iu:=lq hj;generalize es.toList[j]=e at Iu;rw[X.ent] at Iu;exact bf.mp Iu
   have hp2:(intKind prog w).is k (enI x).2=true:=by rw[ex];exact hpj
   refine(hm k).mpr (bf.mpr ⟨x,hx,?_⟩);have:(intKind prog w).is x.1 (enI x).2=true:=by simp[enI,intKind,Value.isInt]
   exact(intKind prog w).inj _ _ _ this hp2
  refine aj (aj ?_);have:=h s.heap n false (Heap.SameBut.refl a s.heap) ⟨xs,o,es,ep,t,X,λk'=>by
   rw[<- hm k'];exact⟨λh=>h.elim id (λe=>e▸hSk),.inl⟩,hl,nf⟩ x_
  exact this
 |none =>
  dsimp only;have Yd:∀x∈xs,x.1≠k:=λx hx e=>by have:=uz.mp hr (enI x) (by rw[X.ent];exact bf.mpr ⟨x,hx,rfl⟩);subst e;simp[enI,intKind,Value.isInt] at this
  have room:t.place.size+1<=t.mask:=by have:=X.tab.msk;rcases this with e|e|e|e|e<;>lia
  have T':=X.tab.put (x:=.int k tk) F room;rw[arz X.tab F room];have Ip:(t.put (P t.mask (hashInt k) N).j).1.plain=true:=X.pla;have hld:(t.put (P t.mask (hashInt k) N).j).1.led=!bt w:=X.led;obtain⟨xs',ex,px⟩:=Ed (f:=enI) (insertAt_perm es (t.put (P t.mask (hashInt k) N).j).2 (hashInt k,.int k tk)) (xs:=xs++[(k,tk)]) (by rw[Array.toList_push,X.ent,qd];rfl);have pm:=px.map (·.1);have hnd:(xs'.map (·.1)).Nodup:=pm.nodup_iff.mpr (by
   rw[qd,yc];refine⟨X.nod,by simp,λa ha b hb=>?_⟩;simp at hb;subst hb;rintro rfl;obtain⟨x,hx,e⟩:=bf.mp ha;exact Yd x hx e)
  have hX:=a4b X T' ex hnd hld Ip;have Iu:∀k',(S k'\/k'=k)↔k'∈xs'.map (·.1):=λk'=>by rw[pm.mem_iff,qd,dm,hm k'];simp
  have hlen:xs'.length=n+1:=by rw[px.length_eq];simp[hl]
  have hes:(insertAt es (t.put (P t.mask (hashInt k) N).j).2 (hashInt k,Value.int k tk)).size=es.size+1:=Ng _ _ _;have als:(t.put (P t.mask (hashInt k) N).j).1.place.size=es.size+1:=by rw[T'.X8,hes]
  have hf:(t.put (P t.mask (hashInt k) N).j).1.fill=es.size+1:=by unfold fill;rw[als,T'.dum];rfl
  generalize insertAt es (t.put (P t.mask (hashInt k) N).j).2 (hashInt k,Value.int k tk)=es1 at *;generalize(t.put (P t.mask (hashInt k) N).j).1=t1 at *;dsimp only;refine aa (aj ?_);rw[Ip];simp only[jy];refine aa ?_;rw[hashByValue_scannable 8 (x:=.int k tk) rfl];refine aj ?_;have ep1:plainKind (.int k tk)=true:=rfl;simp only[ep1,jy];refine aa (wpAny_storeSet_of X.get X.dat ?_ (Jx (by lia)))
  by_cases htf:t1.tooFull=true
  . rw[htf]
    simp only[ym,Bool.and_self,jy];obtain⟨g1,g2,g3,g4,g5⟩:=Yc (es.size+1) (c_ (v_ (f_ hsz)) (c_ (v_ (f_ hl)) hn));obtain⟨es2,t2,e2,m2,T2,p2,l2,q2⟩:=ai7 (t:=t1) (es:=es1) (wanted:=grown (es.size+1)) g1 (a_ (f_ hes) g2);rw[hes,e2];dsimp only;refine aa (aj ?_);obtain⟨xs2,ex2,px2⟩:=Ed p2 ex;have hX2:=a4b hX T2 ex2 ((px2.map _).nodup_iff.mpr hnd) (l2.trans hld) (q2.trans Ip);have hz2:es2.size=es.size+1:=by have:=p2.length_eq;simp at this;exact this.trans hes
    refine aa (wpAny_storeSet_of hX.get rfl ?_ (Jx (a_ (f_ hz2) (a_ g2 (a_ C_ g5)))));refine aj (aj (h _ (n+1) true ((jt s.heap a _).trans (jt _ a _)) ⟨xs2,_,es2,_,t2,hX2,λk'=>?_,by rw[px2.length_eq,hlen],?_⟩ (bw _)))
    . exact(Iu k').trans (px2.map (·.1)).mem_iff.symm
    . rw[T2.X8,m2,hz2];exact t_ g4
  . rw[yw] at htf
    rw[htf];simp only[Bool.and_false,dg,jf];refine aj (aj (h _ (n+1) true (jt s.heap a _) ⟨xs',_,_,_,_,hX,Iu,hlen,?_⟩ (bw _)));unfold tooFull at htf;rw[hf] at htf;rw[als];simp at htf;exact htf
def al1{I:Addr}{P:Nat->Value->Prop}(W:WalksS prog w A.in1 I fp wr G n P St)(a:Addr)(haf:a∉fp)(ks:Xs)(hkl:ks.length=n)(axl:∀i v x,P i v->ks[i]?=some x->∃tk,v=.int x tk)(hb:n<31) :
 ∀(k i n':Nat)(s:Shared),n-i=k->i<=n->St i s ->
  Ff w s.heap a (λk'=>k'∈ks.take i) n'->n'<=i ->
  (∀s' n'',Moved (a::wr) G s s'->Ff w s'.heap a (λk'=>k'∈ks) n''->n''<=n->R (.ok (.ret .none)) s') ->
  codeAny (model prog w) A (.builtin "set.update.loop" ⟨[.ref a,.ref I],[]⟩) R s:=by
 have haw:a∉wr:=λh=>haf (W.sub _ h)
 have Zu:∀b∈wr,b∈a::wr:=λb hb=>bu _ hb
 intro k
 induction k with
 |zero =>
  intro i n' s hk hi U6 hS O6 hR;have Xl:i=n:=by lia
  subst Xl;refine m7 qy ?_;rw[j4 kh _];show wpAny _ A.in1 (pyNext (.ref I) >>= _) _ _ s;refine aa (W.done s _ _ U6 λs' hm=>?_);show wpAny _ A.in1 (ret Value.none) _ _ s';refine aj (hR s' n' (hm.mono Zu) ((hS.moved λo=>hm.heap a o haw).congr λk=>?_) O6);rw[List.take_of_length_le (f_ hkl)]
 |succ k ih =>
  intro i n' s hk hi U6 hS O6 hR;have Iw:i<n:=by lia
  refine m7 qy ?_;rw[j4 kh _];show wpAny _ A.in1 (pyNext (.ref I) >>= _) _ _ s;refine aa (W.item i s _ _ Iw U6 λv s' hP axm hm=>?_);have lx:i<ks.length:=b_ Iw (g_ hkl)
  have hgx:ks[i]?=some ks[i]:=by simp[lx]
  obtain⟨tk,rfl⟩:=axl i v _ hP hgx;have Vn:=hS.moved λo=>hm.heap a o haw
  show wpAny _ A.in1 (holding [Value.int ks[i] tk] (setAdd a (.int ks[i] tk)) >>= _) _ _ s';refine aa (jg ?_);unfold setAdd;refine jg ?_;refine aa (wpAny_pyHash_int ?_);refine ar0 (s:={ s' with toks:=s'.toks+1 }) Vn (by lia) λh' n2 b hsb hS2 Xm=>?_
  refine aj ⟨plainId_quiet kh _,ih (i+1) n2 _ (by lia) Iw (W.frame _ s' _ _ axm (w6 _ _) λb hb o e=>?_) (hS2.congr λk=>?_) (a_ Xm (v_ O6)) λs'' n3 axo alw hn3=>?_⟩
  . rw[hsb.2 b (λh:b=a=>haf (by rw[<- h];exact hb))];exact e
  . rw[List.take_add_one,dm,hgx];simp
  . refine hR s'' n3 (Moved.trans W.gtrans ((hm.mono Zu).then_heap (w6 _ _) λb o hb e=>?_) axo) alw hn3
    rw[hsb.2 b (λh:b=a=>hb (by rw[h];exact di))];exact e
def ai8{id:String}(hh:A.handled=none)(hS:Ff w s.heap a (λ_=>False) 0)(hl:s.heap.IsList l items)(hit:PyProof.Rows.IntsAre items.toList ks)(hlen:ks.length<31)(h:∀h' tk n',(∀b o,b≠a->s.heap.get? b=some o->h'.get? b=some o)->Ff w h' a (λk=>k∈ks) n'->n'<=ks.length->Q () { s with heap:=h',toks:=tk }) :
 wpAny (model prog w) A (Builtin.Frozenset.updateFrom id a (.ref l)) Q E s:=by
 have hT:s.TypeIs (.ref l) "list" := let ⟨o,ho,hc,_⟩:=hl;⟨o,ho,hc⟩;have hsz:items.size=ks.length:=by rw[<- q9];exact PyProof.Rows.IntsAre.length hit
 obtain⟨oa,esa,epa,ta,hga,hca,hda,hfa⟩:=hS.get;unfold Builtin.Frozenset.updateFrom;refine aa (Ha hT F.sub_list_set F.sub_list_frozenset ?_);simp only[dg,jf];refine aa (qb hT ?_);rw[bx (by decide)];refine aa (v5 hl ?_);refine aa (wpAny_runValue ?_);have Iw:l<s.heap.objs.size:=let ⟨o,ho,_⟩:=hl;az ho
 have hat:a<s.heap.objs.size:=az hga
 have hla:l≠a:=by rintro rfl;obtain⟨o,ho,_,n,hd⟩:=hl;rw[ho] at hga;cases hga;rw[hd] at hda;cases hda
 have axp:l≠s.heap.objs.size:=fc Iw;have haf:a∉[s.heap.objs.size,l]:=by simp only[bz,qw,Aw,not_or];exact⟨fc hat,λe=>hla e.symm⟩
 have keep:∀b o,s.heap.get? b=some o->(s.heap.push { cls:=.type "list_iterator",data:=.fields #[.ref l,.int 0 0] }).get? b=some o:=λb o e=>ak _ e
 refine al1 ((Walks.list (by simp[hh]) _ l axp items).toS) a haf ks hsz.symm (λi v x hv hx=>?_) (c_ (f_ hsz) hlen) items.size 0 0 _ rfl (mq _)
  ⟨⟨_,bh _ rfl,rfl,rfl⟩,hl.push _⟩ ?_ (bw _) ?_
 . obtain⟨tk,e⟩:=PyProof.Rows.IntsAre.int_at hit i v (by rw[ph];exact hv)
   rw[cj,hx] at e;exact⟨tk,e⟩
 . refine(hS.moved λo e=>keep a o e).congr λk=>by simp
 . intro s' n'' hm Vn a3x
   obtain⟨h',g',d',tk',os'⟩:=s';have eg:g'=s.gens:=hm.gens;have ed:d'=s.drawn:=hm.drawn;have eo:os'=s.os:=hm.os;subst eg;subst ed;subst eo;show wpAny _ _ _ _ _ _;refine aj (h h' tk' n'' (λb o hb e=>?_) Vn (a_ a3x (f_ hsz)));refine hm.heap b o ?_ (keep b o e);simp only[bz,qw,Aw,not_or];exact⟨hb,fc (az e)⟩
def ai9(hh:A.handled=none)(hl:s.heap.IsList l items)(hit:PyProof.Rows.IntsAre items.toList ks)(hlen:ks.length<31)(h:∀h' tk n',(∀b o,s.heap.get? b=some o->h'.get? b=some o)->Ff w h' s.heap.objs.size (λk=>k∈ks) n'->n'<=ks.length->Q (.ref s.heap.objs.size) { s with heap:=h',toks:=tk }) :
 wpAny (model prog w) A (call (.type "set") [.ref l]) Q E s:=by
 refine Nh (R:=λs'=>∃h' tk n',s'={ s with heap:=h',toks:=tk }/\(∀b o,s.heap.get? b=some o->h'.get? b=some o)/\Ff w h' s.heap.objs.size (λk=>k∈ks) n'/\n'<=ks.length)
  (ai8 (s:={ s with heap:=s.heap.push (Ar w) }) (by simp[hh]) (al0 (bh _ rfl)) (hl.push _) hit hlen λh' tk n' hk Vn O6=>⟨h',tk,n',rfl,λb o e=>hk b o (fc (az e)) (ak _ e),Vn,O6⟩)
  λs' ⟨h',tk,n',e,hk,Vn,O6⟩=>by subst e;exact h h' tk n' hk Vn O6
def Vq:entryFor table "set.__iter__" = some Builtin.«frozenset.__iter__» :=
 entryFor_alias (id' := "frozenset.__iter__") (by kernel_rfl) rfl (by decide+kernel) (by kernel_rfl)
def Bl:Slot "set_iterator" "__next__" "set_iterator.__next__" :=
 .of (owner := "set_iterator") (n := "__next__") (by rw[typeLookup_type,builtinLookup_eq_fast];kernel_rfl) (by decide+kernel) (by decide+kernel) (by decide+kernel)
  (by first|exact .inl (by decide+kernel)|exact .inr (by decide+kernel)) (by rw[isSubtype_type];kernel_rfl)
def Lz:Slot "set_iterator" "__iter__" "set_iterator.__iter__" :=
 .of (owner := "set_iterator") (n := "__iter__") (by rw[typeLookup_type,builtinLookup_eq_fast];kernel_rfl) (by decide+kernel) (by decide+kernel) (by decide+kernel)
  (by first|exact .inl (by decide+kernel)|exact .inr (by decide+kernel)) (by rw[isSubtype_type];kernel_rfl)
def Jy:entryFor table "set_iterator.__next__" = some Builtin.«set_iterator.__next__»:=entryFor_of_fast (by kernel_rfl)
def Sw:entryFor table "set_iterator.__iter__" = some Builtin.«dict_keyiterator.__iter__» :=
 entryFor_alias (id' := "dict_keyiterator.__iter__") (by kernel_rfl) rfl (by decide+kernel) (by kernel_rfl)
def Ma(a:Value):argsOk "set_iterator.__next__" ⟨[a],[]⟩:=by unfold argsOk;kernel_rfl
def Uy(a:Value):argsOk "set_iterator.__iter__" ⟨[a],[]⟩:=by unfold argsOk;kernel_rfl
def aew(hs:Srt xs):below xs 0=0:=by
 obtain⟨h1,h2,h3⟩:=Fl (j:=0) hs;rcases Nat.eq_zero_or_pos (below xs 0) with e|e
 . exact e
 . have l:0<xs.size:=b_ e h1
   have:=h2 0 xs[0] (by simp[l]) e
   lia
def aex(hs:Srt xs)(h:xs[i]?=some j):below xs (j+1)=i+1:=by
 obtain⟨h1,h2,h3⟩:=Fl (j:=j+1) hs;have a1:i<below xs (j+1):=by
  rcases Nat.lt_or_ge i (below xs (j+1)) with l|l
  . exact l
  . have:=h3 i j h l;lia
 have a2:¬i+1<below xs (j+1):=λl=>by
  have l2:i+1<xs.size:=b_ l h1
  have e2:xs[i+1]?=some xs[i+1]:=by simp[l2]
  have:=h2 (i+1) _ e2 l;have:=hs i (i+1) j _ h e2 B_
  lia
 exact u_ (s_ a2) a1
noncomputable def wkN(w:World)(a:Addr)(es:Array (Int×Value))(ep:Nat):Array (Int×Value):=if bt w then pickOrder (w.params.setOrder a ep) es else es
def ab1:(wkN w a es ep).toList.Perm es.toList:=by
 unfold wkN;split
 . exact Ye _ _
 . exact yo _
def Vr:(wkN w a es ep).size=es.size:=by have:=(ab1 (w:=w) (a:=a) (es:=es) (ep:=ep)).length_eq;simpa using this
noncomputable def itN(a:Addr)(slot i n ep:Nat):Obj:={ cls:=.type "set_iterator",data:=.fields #[.int slot 0,.int i 0,.ref a,.int n 0,.int ep 0] }
set_option tactic.hygienic true in
def awh(X:Kw w s.heap a xs o es ep t){slot:Nat}(hb:bt w=false->below t.place slot=i)(hs:∀e sl,(wkN w a es ep)[i]?=some e->(bt w=false->below t.place sl=i+1)->Q (some (e.2,sl)) s)(hn:(wkN w a es ep)[i]?=none->Q none s) :
 wpAny (model prog w) A (setNext a slot i ep) Q E s:=by
 unfold setNext;refine aa (jw X.get X.dat X.tab.fits ?_);dsimp only;refine aa (U7 ?_);cases hbt:bt w with
 |true =>
  simp only[jy,ye,dg,jf];refine aa ?_;unfold setWalk;refine aa (jw X.get X.dat X.tab.fits ?_);dsimp only;refine aa (U7 ?_);rw[hbt];simp only[jy];refine aa (wpAny_askSetting (aj (aj ?_)));have ew:wkN w a es ep=pickOrder (w.params.setOrder a ep) es:=by unfold wkN;rw[hbt];rfl
  show Q (((pickOrder (w.params.setOrder a ep) es)[i]?).map _) s;rw[<- ew];cases hg:(wkN w a es ep)[i]? with
  |none=>exact hn hg|some e=>exact hs e slot hg (λc=>by rw[hbt] at c;cases c)
 |false =>
  have ew:wkN w a es ep=es:=by unfold wkN;rw[hbt];rfl
  simp only[dg,jf];split
  . rename_i hd
    have hd:(!t.plain&&decide (es.size > 1))=true:=hd;rw[X.pla] at hd;cases hd
  . refine aa ?_
    have fin:Q (match es[below t.place slot]?,t.place[below t.place slot]? with|some (_,x),some j=>some (x,j+1)|_,_=>none) s:=by
     rw[hb hbt];cases hg:es[i]? with
     |none=>exact hn (by rw[ew];exact hg)
     |some e =>
      have li:i<t.place.size:=by rw[X.tab.X8];exact(jk.mp hg).1
      have hp:t.place[i]?=some t.place[i]:=by simp[li]
      rw[hp];exact hs e _ (by rw[ew];exact hg) (λ_=>aex X.tab.srt hp)
    have:wpAny (model prog w) A (if(!t.led&&!es.isEmpty)=true then unsupported "set:maker-not-led" else pure ()) (λ_ s'=>wpAny (model prog w) A (pure (match es[below t.place slot]?,t.place[below t.place slot]? with|some (_,x),some j=>some (x,j+1)|_,_=>none)) Q E s') E s:=by rw[X.led,hbt];simp only[ym,ql,Bool.false_and,dg,jf];exact aj (aj fin)
    exact this
set_option tactic.hygienic true in
def al2{I:Addr}(X:Kw w s.heap a xs o es ep t){slot:Nat}(hI:s.heap.get? I=some (itN a slot i es.size ep))(hb:bt w=false->below t.place slot=i)(he:(wkN w a es ep)[i]?=some e)(hQ:∀h' sl,h'.get? I=some (itN a sl (i+1) es.size ep)->(bt w=false->below t.place sl=i+1)->Heap.SameBut I s.heap h'->Q (some e.2) { s with heap:=h' }) :
 wpAny (model prog w) A (pyNext (.ref I)) Q E s:=by
 have hT:s.TypeIs (.ref I) "set_iterator" := ⟨_,hI,rfl⟩;unfold pyNext;refine aa (uy (ji (name:=Str.ofString "__next__") hT Bl
  (jc Bl hT Jy ?_ (Ma _))))
 unfold Builtin.«set_iterator.__next__»;refine aa (m:=slotArgs "__next__" 0 _) (aj ?_);refine aa (wpAny_fieldsOf hI rfl ?_);show wpAny _ _ (setEntries a >>= _) _ _ s;refine aa (j9 X.get X.dat X.tab.fits ?_);rw[ye];simp only[dg,jf];show wpAny _ _ (setNext a slot i ep >>= _) _ _ s;refine aa (awh X hb (λe' sl he' hsl=>?_) (λhn=>by rw[hn] at he;cases he));rw[he'] at he;cases he;dsimp only;refine aa (iz hI (by simp) λh1 g1 sb1=>?_);refine aa (iz (s:={ s with heap:=h1 }) g1 (by simp) λh2 g2 sb2=>?_);exact aj ⟨_,rfl,aj (hQ h2 sl (by rw[g2];rfl) hsl (sb1.trans sb2))⟩
set_option tactic.hygienic true in
def ar3{I:Addr}(hh:A.handled=none)(X:Kw w s.heap a xs o es ep t){slot:Nat}(hI:s.heap.get? I=some (itN a slot i es.size ep))(hb:bt w=false->below t.place slot=i)(he:(wkN w a es ep)[i]?=none)(hQ:∀h',Heap.ExtBut I s.heap h'->Q none { s with heap:=h' }) :
 wpAny (model prog w) A (pyNext (.ref I)) Q E s:=by
 have hT:s.TypeIs (.ref I) "set_iterator" := ⟨_,hI,rfl⟩;unfold pyNext;refine aa (uy (ji (name:=Str.ofString "__next__") hT Bl
  (jc Bl hT Jy ?_ (Ma _))))
 unfold Builtin.«set_iterator.__next__»;refine aa (m:=slotArgs "__next__" 0 _) (aj ?_);refine aa (wpAny_fieldsOf hI rfl ?_);show wpAny _ _ (setEntries a >>= _) _ _ s;refine aa (j9 X.get X.dat X.tab.fits ?_);rw[ye];simp only[dg,jf];show wpAny _ _ (setNext a slot i ep >>= _) _ _ s;refine aa (awh X hb (λe' sl he' hsl=>by rw[he'] at he;cases he) (λhn=>?_));dsimp only;refine aa (iz hI (by simp) λh1 g1 sb1=>?_);show wpAny _ _ (newExc (.type "StopIteration") [] >>= _) _ _ _;refine Zx (show A.in1.handled=none from hh) λh' x k ⟨o,e1,e2⟩=>?_
 exact aa (mj (T := "StopIteration") (b:=true) ⟨o,e1,e2⟩ isSubtype_stop (aj (hQ _ λb o n z=>k b o (sb1.extBut b o n z))))
def ItS(w:World)(a I:Addr)(xs:List (Int×Tok))(o:Obj)(es:Array (Int×Value))(ep:Nat)(t:SetTable)(i:Nat)(h:Heap):Prop :=
 Kw w h a xs o es ep t/\∃slot,h.get? I=some (itN a slot i es.size ep)/\(bt w=false->below t.place slot=i)
def Kw.at(X:Kw w h a xs o es ep t)(e:h'.get? a=some o):Kw w h' a xs o es ep t:=⟨e,X.exa,X.dat,X.tab,X.ent,X.nod,X.led,X.pla⟩
theorem Walks.bbm{I:Addr}(hh:A.handled=none)(Xf:a≠I)(xs:List (Int×Tok))(o:Obj)(es:Array (Int×Value))(ep:Nat)(t:SetTable) :
 Walks prog w A I [I,a] [I] es.size (λi v=>((wkN w a es ep)[i]?).map (·.2)=some v) (ItS w a I xs o es ep t) where
 sub:=λb hb=>by simp at hb;simp[hb]
 frame:=λ_ _ _ st hk=>⟨st.1.at (hk a (by simp) o st.1.get),let ⟨sl,e,r⟩:=st.2;⟨sl,hk I (by simp) _ e,r⟩⟩
 item:=λi s Q E hi st hQ=>by
  obtain⟨X,slot,hI,hb⟩:=st;have he:(wkN w a es ep)[i]?=some ((wkN w a es ep)[i]'(by rw[Vr];exact hi)):=by simp[Vr,hi]
  refine al2 X hI hb he λh' sl g r sb=>hQ _ h' s.toks (by rw[he];rfl) ⟨X.at ((sb.2 a Xf).trans X.get),sl,g,r⟩ λb o hb e=>(sb.2 b (λh=>hb (by simp[h]))).trans e
 done:=λs Q E st hQ=>by obtain⟨X,slot,hI,hb⟩:=st;exact ar3 hh X hI hb (by simp[Vr]) λh' he'=>hQ h' s.toks λb o hb e=>he' b o (λh=>hb (by simp[h])) e
 self:=λ_ s _ _ st hQ=>by obtain⟨X,slot,hI,hb⟩:=st;have hT:s.TypeIs (.ref I) "set_iterator" := ⟨_,hI,rfl⟩;refine wpAny_pyIter_slot hT Lz (jc Lz hT Sw ?_ (Uy _));show wpAny _ _ (ret (.ref I)) _ _ s;exact aj ⟨_,rfl, "set_iterator",_,hT,Bl.lookup,hQ⟩
def a4e(X:Kw w s.heap a xs o es ep t)(hQ:Q (.ref s.heap.objs.size) { s with heap:=s.heap.push (itN a 0 0 es.size ep) }):wpAny (model prog w) A (pyIter (.ref a)) Q E s:=by
 have hT:s.TypeIs (.ref a) "set" := ⟨o,X.get,X.exa.1⟩;refine wpAny_pyIter_slot hT F.slot_set_iter (jc F.slot_set_iter hT Vq ?_ (F.args_set_iter_1 _));unfold Builtin.«frozenset.__iter__» Builtin.Frozenset.slot0 slotArgs;simp only[List.isEmpty_nil,ql,dg,↓reduceIte,bind_assoc,List.length_nil,ye];unfold Builtin.Frozenset.addrOf Builtin.Frozenset.sizeOf;refine aa (aj ?_)
 try dsimp only
 refine aa (aj ?_);refine aa (aa (j9 X.get X.dat X.tab.fits (aj ?_)));refine aa ?_;unfold setDrawn;refine aa (jw X.get X.dat X.tab.fits ?_);dsimp only;refine aa (U7 (aj ?_));have hd:(!bt w&&(!t.plain&&decide (es.size > 1)))=false:=by rw[X.pla];simp
 show wpAny _ _ (if(!bt w&&(!t.plain&&decide (es.size > 1)))=true then _ else _) _ _ s;rw[hd];simp only[dg,jf];refine aa (aj (aa (wpAny_setEpoch_of X.get X.dat X.tab.fits ?_)));exact aa (ju (aj ⟨_,rfl, "set_iterator",_,⟨_,bh _ rfl,rfl⟩,Bl.lookup,hQ⟩))
def a4f(hT:s.TypeIs (.ref a) "set")(h:Q false s):wpAny (model prog w) A (Builtin.List.listLengthHint (.ref a)) Q E s:=by
 unfold Builtin.List.listLengthHint;refine aa (wpAny_specialOf hT F.slot_set_len.lookup ?_)
 (generalize hid:("set.__len__" : String)=id0;(fail_if_success (clear hid id0));wp_delta;rw[show splitId id0=some ("set", "__len__") from by subst hid;decide+kernel];subst hid)
 refine aa (mj (b:=true) hT sub_set_self ?_);refine aa (qb hT ?_);exact aj h
def al3(hh:A.handled=none)(X:Kw w s.heap a xs o es ep t)(hz:es.size<=sizeLine)(h:∀h' tk acc,(∀b o,s.heap.get? b=some o->h'.get? b=some o)->s.heap.objs.size<=h'.objs.size->ItemsOf (λi v=>((wkN w a es ep)[i]?).map (·.2)=some v) acc es.size->Q acc.toList { s with heap:=h',toks:=tk }) :
 wpAny (model prog w) A (collect (.ref a)) Q E s:=by
 have Iw:a<s.heap.objs.size:=az X.get
 have hSa:s.heap.objs.size≠a:=u5 Iw;unfold collect;refine aa (wpAny_runValue (m7 F.entry_proto_collect ?_));rw[j4 F.plain_proto_collect _];show wpAny _ A.in1 (newList [] >>= λl=>again (.builtin "list.__iadd__" ⟨[l,.ref a],[]⟩)) _ _ s;refine aa (ju ?_);refine aj ⟨plainId_quiet F.plain_list_iadd _,m7 F.entry_list_iadd ?_⟩;rw[j4 F.plain_list_iadd _];have X1:Kw w (s.heap.push { cls:=.type "list",data:=.seq ([]:Zl).toArray }) a xs o es ep t:=X.at (ak _ X.get);have hT1:Shared.TypeIs { s with heap:=s.heap.push { cls:=.type "list",data:=.seq ([]:Zl).toArray } } (.ref a) "set" := ⟨o,X1.get,X1.exa.1⟩;have h1:Builtin.List.listSameRef (.ref s.heap.objs.size) (.ref a)=false:=by simp[Builtin.List.listSameRef,hSa]
 show wpAny _ A.in1 (Builtin.List.listExtendWith (.ref s.heap.objs.size) (.ref a) (.ref s.heap.objs.size)) _ _ _;unfold Builtin.List.listExtendWith;refine aa (qb hT1 ?_);rw[bx (by rw[h1];decide)];refine aa (a4e (s:={ s with heap:=s.heap.push { cls:=.type "list",data:=.seq ([]:Zl).toArray } }) X1 ?_);have sz1:(s.heap.push { cls:=.type "list",data:=.seq ([]:Zl).toArray }).objs.size=s.heap.objs.size+1:=ig ..;show wpAny _ A.in1 (holding [.ref (s.heap.push { cls:=.type "list",data:=.seq ([]:Zl).toArray }).objs.size] (Builtin.List.listLengthHint (.ref a)) >>= _) _ _ { s with heap:=(s.heap.push { cls:=.type "list",data:=.seq ([]:Zl).toArray }).push (itN a 0 0 es.size ep) };have gI:((s.heap.push { cls:=.type "list",data:=.seq ([]:Zl).toArray }).push (itN a 0 0 es.size ep)).get? (s.heap.push { cls:=.type "list",data:=.seq ([]:Zl).toArray }).objs.size=some (itN a 0 0 es.size ep):=bh _ rfl;have gS:((s.heap.push { cls:=.type "list",data:=.seq ([]:Zl).toArray }).push (itN a 0 0 es.size ep)).get? s.heap.objs.size=some { cls:=.type "list",data:=.seq ([]:Zl).toArray }:=ak _ (bh _ rfl);have axt:∀b o,s.heap.get? b=some o->((s.heap.push { cls:=.type "list",data:=.seq ([]:Zl).toArray }).push (itN a 0 0 es.size ep)).get? b=some o:=λb o e=>ak _ (ak _ e)
 have gsz:s.heap.objs.size<=((s.heap.push { cls:=.type "list",data:=.seq ([]:Zl).toArray }).push (itN a 0 0 es.size ep)).objs.size:=by rw[ig,sz1];exact a_ x_ x_
 generalize(s.heap.push { cls:=.type "list",data:=.seq ([]:Zl).toArray }).push (itN a 0 0 es.size ep)=hp at *;rw[sz1] at gI ⊢;have X2:Kw w hp a xs o es ep t:=X.at (axt a o X.get);refine aa (jg (a4f ⟨o,X2.get,X2.exa.1⟩ ?_));rw[dh (by decide+kernel)];refine aa (wpAny_rule ?_);refine aa ?_;show wpAny _ A.in1 (updateSeq s.heap.objs.size (·.push .none) >>= λ_=>updateSeq s.heap.objs.size (·.pop)) _ _ _;refine aa (wpAny_updateSeq gS rfl ?_);have hS₂:=my (Obj.mapSeq (·.push Value.none)) gS rfl;refine wpAny_updateSeq (hz:=by seq_fits) hS₂ rfl ?_;have hS₃:=my (Obj.mapSeq (·.pop)) hS₂ rfl;have oth:∀b o,b≠s.heap.objs.size->hp.get? b=some o->((hp.update s.heap.objs.size (Obj.mapSeq (·.push Value.none))).update s.heap.objs.size (Obj.mapSeq (·.pop))).get? b=some o :=
  λb o hb e=>(ud _ _ (j0 hb)).trans ((ud _ _ (j0 hb)).trans e)
 have sz3:((hp.update s.heap.objs.size (Obj.mapSeq (·.push Value.none))).update s.heap.objs.size (Obj.mapSeq (·.pop))).objs.size=hp.objs.size:=by rw[Heap.size_update,Heap.size_update]
 generalize(hp.update s.heap.objs.size (Obj.mapSeq (·.push Value.none))).update s.heap.objs.size (Obj.mapSeq (·.pop))=h3 at *;have W:=(Walks.bbm (prog:=prog) (w:=w) (A:=A.in1) (I:=s.heap.objs.size+1) (a:=a) hh (fc (p7 Iw)) xs o es ep t).toS;refine aj ⟨plainId_quiet F.plain_extend_loop _,codeAny_extend_loopS W hz _ (by simp only[bz,qw,Aw,not_or];exact⟨fc (o8 _),hSa⟩) _ es.size 0 _ _ _ rfl (mq _)
  ⟨X.at (oth a o (j0 hSa) (axt a o X.get)),0,oth _ _ (u5 (o8 _)) gI,λ_=>aew X.tab.srt⟩ hS₃ (ItemsOf.nil _) λs' acc' c' hm Vn Fo=>?_⟩
 show wpAny _ A (load s.heap.objs.size >>= _) _ _ s';refine aa (wpAny_load Vn ?_);obtain⟨h',g',d',tk',os'⟩:=s';have eg:g'=s.gens:=hm.gens;have ed:d'=s.drawn:=hm.drawn;have eo:os'=s.os:=hm.os;subst eg;subst ed;subst eo;refine aj (h h' tk' acc' (λb o e=>?_) ?_ Fo)
 . have hb:=az e
   exact hm.heap b o (by simp only[bz,qw,Aw,not_or];exact⟨fc hb,fc (p7 hb)⟩) (oth b o (fc hb) (axt b o e))
 . have:=az Vn
   exact Aj this
def aey{s:Shared}(X:Kw w s.heap a xs o es ep t)(Fo:ItemsOf (λi v=>((wkN w a es ep)[i]?).map (·.2)=some v) acc es.size) :
 ∃ns:List Int,PyProof.Rows.IntsAre acc.toList ns/\ns.Perm (xs.map (·.1)):=by
 obtain⟨ys,ey,py⟩:=Ed (f:=enI) (ab1 (w:=w) (a:=a) (es:=es) (ep:=ep)) X.ent;have e1:acc.toList=ys.map λy=>Value.int y.1 y.2:=by
  apply List.ext_getElem?;intro i;have hz:acc.toList.length=es.size:=by simpa using Fo.1
  have hy:ys.length=es.size:=by rw[py.length_eq,<- X.size]
  by_cases li:i<es.size
  . have e2:acc.toList[i]?=some (acc.toList[i]'(b_ li (g_ hz))):=by simp[hz,li]
    have e3:=Fo.2 i _ (by rw[<- ph];exact e2);rw[e2,<- e3,<- ph,ey,ie,ie];cases ys[i]?<;>rfl
  . rw[rz (a_ (f_ hz) (s_ li)),rz (by simp;exact a_ (f_ hy) (s_ li))]
 refine⟨ys.map (·.1),?_,py.map _⟩;rw[e1];clear e1 py ey Fo
 induction ys with
 |nil=>exact .nil|cons y ys ih=>exact .cons _ _ ih
def ab2(hh:A.handled=none)(hS:Ff w s.heap a S n)(hn:n<31)(h:∀(h':Heap) (tk:Nat) (p:Addr) (out:U1) (ns:Xs),(∀b o,s.heap.get? b=some o->h'.get? b=some o)->s.heap.objs.size<=p->PyProof.Rows.IntsAre out.toList ns->ns.Pairwise (·<=·)->ns.Nodup->(∀k,S k↔k∈ns) ->
 (∃c,h'.get? p=some (PyProof.Rows.seqObj "list" out c))->Q (.ref p) { s with heap:=h',toks:=tk }) :
 wpAny (model prog w) A (call (.builtin "sorted") [.ref a]) Q E s:=by
 obtain⟨xs,o,es,ep,t,X,hm,hl,nf⟩:=hS;have hsz:=X.size;refine Calls.call_function_entry PyProof.Rows.kind_sorted PyProof.Rows.plain_sorted PyProof.Rows.entry_sorted (PyProof.Rows.args_sorted1 _) ?_;unfold Builtin.«sorted»;refine aa (m:=checkCount "sorted" 1 1 _) (aj ?_);refine aa (al3 (by simpa using hh) X (by rw[qj];exact e_ (c_ (f_ hsz) (c_ (f_ hl) (b_ hn (by decide))))) λh1 tk acc keep hz1 Fo=>?_);obtain⟨ns,hI,pn⟩:=aey X Fo;have hlen:acc.toList.length=n:=by have:=Fo.1;simp;exact u_ (a_ (f_ this) (a_ (f_ hsz) (f_ hl))) (a_ (g_ hl) (a_ (g_ hsz) (g_ this)))
 have eac:acc=acc.toList.toArray:=by simp
 refine aa (wpAny_newList ?_ (by rw[qj];exact e_ (c_ (f_ hlen) (b_ hn (by decide)))));have hoL:(h1.push (PyProof.Rows.seqObj "list" acc.toList.toArray 0)).get? h1.objs.size=some (PyProof.Rows.seqObj "list" acc.toList.toArray 0):=bh _ rfl;refine aa (jg (jc PyProof.Rows.slot_list_sort ⟨_,hoL,rfl⟩ PyProof.Rows.entry_list_sort (PyProof.Rows.list_sort_tree (s:={ s with heap:=h1.push (PyProof.Rows.seqObj "list" acc.toList.toArray 0),toks:=tk }) hoL hI (c_ (f_ hlen) (b_ hn (by decide))) λout ns' a1 a2 a3=>⟨_,rfl,?_⟩) (PyProof.Rows.args_list_sort _)));have p2:=a2.trans pn;refine aj ⟨_,rfl,h _ tk h1.objs.size out ns' (λb o e=>?_) hz1 a1 a3 (p2.nodup_iff.mpr X.nod) (λk=>(hm k).trans p2.mem_iff.symm) (PyProof.Rows.sortedHeap_at hoL)⟩;have hb1:=keep b o e;have Iw:=az hb1;rw[PyProof.Rows.sortedHeap_old (fc Iw) (by rw[ig];exact p7 Iw),Heap.get?_push_ne _ _ _ (fc Iw)];exact hb1
end Xk
namespace MW
open PySem (Str)
set_option genInjectivity true in
inductive D where
 |non|bl (b:Bool)|int (i:Int)|str (s:Str)|tup (ds:List D)|vl (ds:List D)|fz (ds:List D)|ref (n:Nat)
noncomputable abbrev Kx:=Sum Int Str
set_option genInjectivity true in
inductive MO where
 |lst (ds:List D)|dT (gq:List (List Kx×D))|dF (gq:List (List Kx×D))|dK (gq:List (Kx×D))|ins (c:Nat) (fs:List (Nat×D))
noncomputable abbrev cz:=List MO
noncomputable abbrev Env:=List (Option D)
set_option genInjectivity true in
inductive Res(α:Type) where
 |ok (a:α) (M:cz)|err (c:Nat) (M:cz)|bad
namespace Res
noncomputable def bind{α β:Type}(r:Res α)(f:α->cz->Res β):Res β :=
 match r with|ok a M=>f a M|err c M=>err c M|bad=>bad
@[simp] def Bs(a:α)(M:cz)(f:α->cz->Res β):(ok a M).bind f=f a M:=rfl
@[simp] def a4i(c:Nat)(M:cz)(f:α->cz->Res β):(err c M:Res α).bind f=err c M:=rfl
@[simp] def a4j(f:α->cz->Res β):(bad:Res α).bind f=bad:=rfl
noncomputable def uo{α:Type}(o:Option α)(M:cz):Res α:=match o with|some a=>ok a M|none=>bad
@[simp] def Dr(a:α)(M:cz):uo (some a) M=ok a M:=rfl
@[simp] def axu(M:cz):uo (none:Option α) M=bad:=rfl
end Res
inductive Op2 where|add|al4|sub|mul|fdiv|mod|pow
inductive Cp where|eq|ne|lt|le|gt|ge|is|Yg|inn|T6
inductive Blt where
 |len|tuple|max|min|dict|all|isBool|Gh
inductive Bm where|append|index|get
inductive Tg where
 |name (i:Nat)|names (is:Y3)
mutual
inductive Ex where
 |var (i:Nat)|cst (d:D)
 |bin (op:Op2) (a b:Ex)|neg (a:Ex)
 |cmp (op:Cp) (a b:Ex)|chain (o1 o2:Cp) (a b c:Ex)
 |and (a b:Ex)|or (a b:Ex)|not (a:Ex)|ite (c a b:Ex)
 |tup (es:Dl)|lst (es:Dl)|Hd (es:Dl)|ajb|aez
 |ix (a b:Ex)|cut (a:Ex) (lo hi:OEx)
 |call (f:Nat) (es:Dl)|make (c:Nat) (es:Dl)|meth (o:Ex) (m:Nat) (es:Dl)|fld (o:Ex) (f:Nat)
 |blt (b:Blt) (es:Dl)|bm (m:Bm) (o:Ex) (es:Dl)
 |comp (v:Bool) (k:Nat) (t:Tg) (it:Pr) (e:Ex)|Cr (v:Bool) (k:Nat) (t:Tg) (it:Pr) (c:Ex) (e:Ex)
 |Vs (a b:Ex)|ae0 (e:Ex)|ae1 (e:Ex)
inductive Dl where
 |nil|cons (e:Ex) (es:Dl)
inductive OEx where
 |none|some (e:Ex)
inductive Pr where
 |val (e:Ex)|O7 (e:Ex)|enm (e:Ex)|zip (a b:Ex)|keys (e:Ex)
end
noncomputable abbrev Ex.v:=Ex.var
noncomputable abbrev Ex.i(n:Int):Ex:=.cst (.int n)
noncomputable abbrev Ex.l(e:Ex):Ex:=.blt .len (.cons e .nil)
noncomputable abbrev Dl.z:=Dl.nil
noncomputable abbrev Dl.c:=Dl.cons
noncomputable abbrev Dl.o(a:Ex):Dl:=.cons a .nil
noncomputable abbrev Dl.p(a b:Ex):Dl:=.cons a (.cons b .nil)
noncomputable abbrev Dl.q(a b c:Ex):Dl:=.cons a (.cons b (.cons c .nil))
inductive Lv where
 |tg (t:Tg)|sub (o i:Ex)|fld (o:Ex) (f:Nat)
mutual
inductive Bu where
 |asg (l:Lv) (e:Ex)|expr (e:Ex)|iff (c:Ex) (a b:o6)|whl (c:Ex) (b:o6)|for_ (t:Tg) (it:Pr) (b:o6)
 |ret (e:Ex)|ar4|brk|cont|pass|raise (c:Nat) (es:Dl)
inductive o6 where
 |nil|cons (s:Bu) (r:o6)
end
noncomputable abbrev Bu.a(i:Nat)(e:Ex):Bu:=.asg (.tg (.name i)) e
noncomputable abbrev Bu.f(c:Ex)(b:o6):Bu:=.iff c b .nil
noncomputable abbrev o6.z:=o6.nil
noncomputable abbrev o6.c:=o6.cons
noncomputable abbrev o6.o(a:Bu):o6:=.cons a .nil
noncomputable abbrev o6.p(a b:Bu):o6:=.cons a (.cons b .nil)
noncomputable abbrev o6.q(a b c:Bu):o6:=.cons a (.cons b (.cons c .nil))
structure Fn where
 np:Nat
 ns:Nat
 body:o6
structure Cl where
 init:Nat
 meths:List (Nat×Nat)
noncomputable def gf(M:cz):D->Option (List D)
 |.vl ds=>some ds|.ref n=>match M[n]? with|some (.lst ds)=>some ds|_=>none
 |_=>none
noncomputable def Bj(M:cz):D->Option (List D)
 |.tup ds=>some ds|d=>gf M d
noncomputable def Sx:D->Option Kx
 |.int i=>some (.inl i)|.str s=>some (.inr s)|_=>none
noncomputable def Zy:List D->Option (List Kx)
 |[]=>some []
 |d::ds=>match Sx d,Zy ds with
  |some k,some ks=>some (k::ks)|_,_=>none
noncomputable def Ql:D->Option (List Kx)
 |.tup ds=>Zy ds|_=>none
noncomputable def ajc:Kx->D
 |.inl i=>.int i|.inr s=>.str s
noncomputable def Sy(ks:List Kx):D:=.tup (ks.map ajc)
noncomputable def Ef:List D->Option (List (List Kx))
 |[]=>some []
 |d::ds=>match Ql d,Ef ds with
  |some k,some ks=>some (k::ks)|_,_=>none
noncomputable def Sg(f:D->D->Option Bool):List D->List D->Option Bool
 |[],[]=>some true
 |a::as,b::bs=>match f a b,Sg f as bs with
  |some x,some y=>some (x&&y)|_,_=>none
 |_,_=>some false
instance:DecidableEq Kx:=inferInstanceAs (DecidableEq (Sum Int Str))
noncomputable def Ad{κ:Type}[DecidableEq κ](gq:List (κ×D))(k:κ):Option D:=(gq.find? λp=>decide (p.1=k)).map (·.2)
noncomputable def Mw(M:cz):Nat->D->D->Option Bool
 |0,_,_=>none
 |n+1,a,b=>match a,b with
  |.int i,.int j=>some (decide (i=j))|.bl i,.bl j=>some (i==j)|.str i,.str j=>some (decide (i=j))|.non,.non=>some true|.tup as,.tup bs=>Sg (Mw M n) as bs
  |a,b=>match gf M a,gf M b with
   |some as,some bs=>if as.length=bs.length then Sg (Mw M n) as bs else some false
   |_,_=>none
noncomputable def wz(M:cz)(a b:D):Option Bool:=Mw M 6 a b
noncomputable def Qm(M:cz)(x:D):List D->Option (List Bool)
 |[]=>some []
 |y::ys=>match wz M y x,Qm M x ys with
  |some a,some b=>some (a::b)|_,_=>none
noncomputable def memD(M:cz)(x:D)(ds:List D):Option Bool:=(Qm M x ds).map (·.any id)
noncomputable def Xn(M:cz)(x:D)(ds:List D):Option Nat:=(Qm M x ds).bind (·.findIdx? id)
noncomputable def Yh:List D->Option (List Int)
 |[]=>some []|.int i::r=>(Yh r).map (i::·)|_::_=>none
noncomputable def Xo(n:Nat)(i:Int):Option Nat:=if 0<=i then(if i<n then some i.toNat else none) else if -(n:Int)<=i then some (i+n).toNat else none
noncomputable def clip(n:Nat)(d:Nat):Option Int->Nat
 |none=>d|some i=>if 0<=i then min i.toNat n else(i+n).toNat
noncomputable def Xp(ds:List D)(lo hi:Option Int):List D:=(ds.drop (clip ds.length 0 lo)).take (clip ds.length ds.length hi-clip ds.length 0 lo)
noncomputable def axv:List Int->Option Int
 |[]=>none|a::r=>some (r.foldl (λm x=>if m<x then x else m) a)
noncomputable def a4k:List Int->Option Int
 |[]=>none|a::r=>some (r.foldl (λm x=>if x<m then x else m) a)
noncomputable def insI(x:Int):List Int->List Int
 |[]=>[x]|y::ys=>if x<y then x::y::ys else y::insI x ys
noncomputable def sortI(xs:Xs):List Int:=xs.foldr insI []
noncomputable def Ak:List Int->List Int
 |[]=>[]|x::xs=>if x∈xs then Ak xs else x::Ak xs
noncomputable def keysOf(M:cz)(d:D):Option (List D) :=
 match d with
 |.ref n=>match M[n]? with
  |some (.dT gq)=>some (gq.map λp=>Sy p.1)
  |_=>gf M d
 |_=>gf M d
noncomputable def Dy{κ:Type}[DecidableEq κ](gq:List (κ×D))(k:κ)(v:D):List (κ×D) :=
 if(gq.any λkv=>decide (kv.1=k))=true then gq.map (λkv=>if kv.1=k then(kv.1,v) else kv) else gq++[(k,v)]
noncomputable def Eg(xs:List (List Kx)):Bool:=decide (xs.length<=30)&&xs.all λk=>k.all λx=>match x with|.inl _=>true|.inr _=>false
noncomputable def Iz(xs ys:List (List Kx)):Bool:=xs.all (λx=>ys.any λy=>decide (y=x))&&ys.all (λy=>xs.any λx=>decide (x=y))
noncomputable def new(o:MO)(M:cz):Res D:=.ok (.ref M.length) (M++[o])
noncomputable def al6(a b:D)(M:cz):Res D :=
 match a,b with
 |.int i,.int j=>.ok (.int (i+j)) M|.tup xs,.tup ys=>if xs.length+ys.length<=100000 then .ok (.tup (xs++ys)) M else .bad
 |x,y=>match gf M x,gf M y with
  |some xs,some ys=>if xs.length+ys.length<=100000 then .ok (.vl (xs++ys)) M else .bad
  |_,_=>.bad
noncomputable def ae2(x y:D)(M:cz):Res D :=
 match gf M x,gf M y with
 |some xs,some ys=>if xs.length+ys.length<=100000 then new (.lst (xs++ys)) M else .bad
 |_,_=>.bad
noncomputable def ii{α:Type}(x y:D)(f:Int->Int->α)(z:α):α:=match x with|.int i=>(match y with|.int j=>f i j|_=>z)|_=>z
def ae3(h:ii x y f z=r)(hz:z≠r):∃i j,x=.int i/\y=.int j/\f i j=r:=by
 cases x with
 |int i=>cases y with
  |int j=>exact⟨i,j,rfl,rfl,h⟩|_=>exact absurd h hz
 |_=>exact absurd h hz
@[simp] def bbo(i j:Int)(f:Int->Int->α)(z:α):ii (.int i) (.int j) f z=f i j:=rfl
noncomputable def a4l(a b:D)(M:cz):Res D:=ii a b (λi j=>.ok (.int (i-j)) M) .bad
noncomputable def a4m(a b:D)(M:cz):Res D:=ii a b (λi j=>if(-(2 ^ 64)<i/\i<2 ^ 64)\/(-(2 ^ 64)<j/\j<2 ^ 64) then .ok (.int (i*j)) M else .bad) .bad
noncomputable def axw(a b:D)(M:cz):Res D:=ii a b (λi j=>if 0<j/\j<1073741824 then .ok (.int (i / j)) M else .bad) .bad
noncomputable def a4n(a b:D)(M:cz):Res D:=ii a b (λi j=>if 0<j then .ok (.int (i%j)) M else .bad) .bad
noncomputable def awi(a b:D)(M:cz):Res D:=ii a b (λi j=>if 0<=j/\j<=64/\i.natAbs<2 ^ 64 then .ok (.int (i ^ j.toNat)) M else .bad) .bad
noncomputable def Dm(op:Op2):D->D->cz->Res D :=
 match op with
 |.add=>al6|.al4=>ae2|.sub=>a4l|.mul=>a4m|.fdiv=>axw|.mod=>a4n|.pow=>awi
noncomputable def Q3(M:cz)(a b:D):Option Bool :=
 match b with
 |.ref n=>match M[n]? with
  |some (.dT gq)=>(Ql a).map λk=>(Ad gq k).isSome
  |some (.dK gq)=>(Sx a).map λk=>(Ad gq k).isSome
  |_=>(Bj M b).bind (memD M a)
 |_=>(Bj M b).bind (memD M a)
noncomputable def ar5(a b:D):Option Bool:=match a with|.bl x=>(match b with|.bl y=>some (x==y)|_=>none)|_=>none
noncomputable def ab4(f:Int->Int->Bool)(a b:D):Option Bool:=ii a b (λi j=>some (f i j)) none
noncomputable def Mx(op:Cp)(a b:D)(M:cz):Option Bool :=
 match op with
 |.lt=>ab4 (λi j=>decide (i<j)) a b
 |.le=>ab4 (λi j=>decide (i<=j)) a b
 |.gt=>ab4 (λi j=>decide (j<i)) a b
 |.ge=>ab4 (λi j=>decide (j<=i)) a b
 |.eq=>wz M a b|.ne=>(wz M a b).map not|.inn=>Q3 M a b|.T6=>(Q3 M a b).map not|.is=>ar5 a b|.Yg=>(ar5 a b).map not
noncomputable def zb(a b:D)(M:cz):Option D :=
 match a with
 |.ref n=>match M[n]? with
  |some (.dT gq)=>(Ql b).bind (Ad gq)|some (.dF gq)=>(Ql b).bind (Ad gq)|some (.dK gq)=>(Sx b).bind (Ad gq)
  |_=>match gf M a,b with
   |some ds,.int i=>(Xo ds.length i).bind λj=>ds[j]?
   |_,_=>none
 |.fz ds=>match b with
  |.int i=>(Xo ds.length i).bind λj=>ds[j]?
  |_=>none
 |_=>match Bj M a,b with
  |some ds,.int i=>(Xo ds.length i).bind λj=>ds[j]?
  |_,_=>none
noncomputable def Hm(a:D)(lo hi:Option Int)(M:cz):Option D :=
 match a with
 |.tup ds=>some (.tup (Xp ds lo hi))|_=>(gf M a).map λds=>.vl (Xp ds lo hi)
noncomputable def allB:List D->Option Bool
 |[]=>some true|.bl b::r=>(allB r).map (b&&·)|_::_=>none
noncomputable def ae4(gq:List (List Kx×D)):Bool:=gq.all λp=>match p.1 with
 |[.inl i,.inl j]=>decide (-1<=i)&&decide (i<9)&&decide (-1<=j)&&decide (j<9)|_=>false
noncomputable def Dt(M:cz):D->Res D
 |.ref n=>match M[n]? with
  |some (.lst ds)=>.ok (.int ds.length) M|_=>.bad
 |.fz ds=>.ok (.int ds.length) M|.tup ds=>.ok (.int ds.length) M|.vl ds=>.ok (.int ds.length) M|_=>.bad
noncomputable def ags(M:cz):D->Res D
 |.ref n=>match M[n]? with
  |some (.dT gq)=>if ae4 gq then new (.dT gq) M else .bad
  |_=>.bad
 |_=>.bad
noncomputable def isB:D->Option Bool
 |.bl _=>some true|_=>none
noncomputable def ae5:D->Option (List D)
 |.tup ds=>some ds|.vl ds=>some ds|_=>none
noncomputable def two(ds:List D)(f:Int->Int->Int)(g:D->Option Int)(M:cz):Res D :=
 match ds with
 |[a,b]=>(match a,b with|.int i,.int j=>.ok (.int (f i j)) M|_,_=>.bad)
 |[d]=>Res.uo ((g d).map D.int) M|_=>.bad
noncomputable def Zz(ds:List D)(g:D->Res D):Res D :=
 match ds with
 |[d]=>g d|_=>.bad
noncomputable def qx(b:Blt)(ds:List D)(M:cz):Res D :=
 match b with
 |.len=>Zz ds (Dt M)|.tuple=>Zz ds λd=>Res.uo ((Bj M d).map D.tup) M
 |.max=>two ds (λi j=>if i<j then j else i) (λd=>((gf M d).bind Yh).bind axv) M
 |.min=>two ds (λi j=>if j<i then j else i) (λd=>((gf M d).bind Yh).bind a4k) M
 |.Gh=>Zz ds λd=>Res.uo (((gf M d).bind Yh).bind λis=>if is.length<31 then some (D.vl ((sortI (Ak is)).map D.int)) else none) M
 |.dict=>Zz ds (ags M)|.all=>Zz ds λd=>Res.uo (((gf M d).bind allB).map D.bl) M
 |.isBool=>Zz ds λd=>Res.uo ((isB d).map D.bl) M
noncomputable def Qn(m:Bm)(x:D)(M:cz):Bool :=
 match m,x with
 |.append,.ref n=>match M[n]? with|some (.lst _)=>true|_=>false
 |.index,x=>(gf M x).isSome|.get,.ref n=>match M[n]? with|some (.dK _)=>true|_=>false
 |_,_=>false
noncomputable def Jz(m:Bm)(o:D)(ds:List D)(M:cz):Res D :=
 match m,o,ds with
 |.append,.ref n,[d]=>match M[n]? with
  |some (.lst xs)=>if xs.length<100000 then .ok .non (M.set n (.lst (xs++[d]))) else .bad
  |_=>.bad
 |.index,o,[d]=>Res.uo (((Bj M o).bind (Xn M d)).map λj=>D.int (j:Int)) M
 |.get,.ref n,[k,d]=>match M[n]? with
  |some (.dK gq)=>Res.uo ((Sx k).map λq=>(Ad gq q).getD d) M
  |_=>.bad
 |_,_,_=>.bad
noncomputable def setOp(o i v:D)(M:cz):Option cz :=
 match o with
 |.ref n=>match M[n]? with
  |some (.lst xs)=>match i with
   |.int j=>(Xo xs.length j).map λq=>M.set n (.lst (xs.set q v))
   |_=>none
  |some (.dT gq)=>(Ql i).bind λk=>if gq.length<100000 then some (M.set n (.dT (Dy gq k v))) else none
  |some (.dK gq)=>(Sx i).bind λk=>if gq.length<100000 then some (M.set n (.dK (Dy gq k v))) else none
  |_=>none
 |_=>none
noncomputable def T7(f:Nat)(v:D):List (Nat×D)->List (Nat×D)
 |[]=>[(f,v)]|(g,x)::r=>if g=f then(g,v)::r else(g,x)::T7 f v r
noncomputable def Q4(o:D)(f:Nat)(M:cz):Option D :=
 match o with
 |.ref n=>match M[n]? with
  |some (.ins _ fs)=>fs.lookup f|_=>none
 |_=>none
noncomputable def Q5(o:D)(f:Nat)(v:D)(M:cz):Option cz :=
 match o with
 |.ref n=>match M[n]? with
  |some (.ins c fs)=>if fs.length<1000 then some (M.set n (.ins c (T7 f v fs))) else none
  |_=>none
 |_=>none
inductive Src where
 |con (ds:List D)|live (n:Nat) (len:Nat)
noncomputable def Src.len:Src->Nat
 |.con ds=>ds.length|.live _ k=>k
noncomputable def Src.item(s:Src)(i:Nat)(M:cz):Option D :=
 match s with
 |.con ds=>ds[i]?
 |.live n k=>match M[n]? with
  |some (.lst ds)=>if ds.length=k then ds[i]? else none
  |_=>none
noncomputable def Src.fin(s:Src)(M:cz):Bool :=
 match s with
 |.con _=>true
 |.live n k=>match M[n]? with
  |some (.lst ds)=>ds.length==k|_=>false
noncomputable def srcOf(M:cz)(d:D):Option Src :=
 match d with
 |.tup ds=>some (.con ds)|.vl ds=>some (.con ds)
 |.ref n=>match M[n]? with
  |some (.lst ds)=>some (.live n ds.length)|_=>none
 |_=>none
noncomputable def Vt(d:D)(M:cz):Res Src :=
 match d with
 |.ref n=>match M[n]? with
  |some (.dT gq)=>.ok (.con (gq.map λp=>Sy p.1)) (M.set n (.dF gq))
  |some (.dF gq)=>.ok (.con (gq.map λp=>Sy p.1)) M
  |_=>.bad
 |_=>.bad
inductive Flow where
 |next|brk|cont|ret (d:D)
noncomputable def Qo:List Nat->List D->Env->Env
 |i::is,d::ds,ρ=>Qo is ds (ρ.set i (some d))|_,_,ρ=>ρ
noncomputable def Tg.put(t:Tg)(d:D)(ρ:Env):Option Env :=
 match t with
 |.name i=>some (ρ.set i (some d))
 |.names is=>match d with
  |.tup ds=>if ds.length=is.length then some (Qo is ds ρ) else none
  |_=>none
structure Ir where
 call:Nat->List D->cz->Res D
 cls:List Cl
noncomputable def Bx(fin:cz->Bool)(item:Nat->cz->Option D)(body:D->Env->cz->Res (Flow×Env)):Nat->Nat->Env->cz->Res (Flow×Env)
 |0,_,ρ,M=>if fin M then .ok (.next,ρ) M else .bad
 |k+1,i,ρ,M=>match item i M with
  |none=>.bad
  |some d=>(body d ρ M).bind λr M1=>match r.1 with
   |.next=>Bx fin item body k (i+1) r.2 M1|.cont=>Bx fin item body k (i+1) r.2 M1|.brk=>.ok (.next,r.2) M1|.ret v=>.ok (.ret v,r.2) M1
noncomputable def Dk(fin:cz->Bool)(item:Nat->cz->Option D)(body:D->cz->Res (Option D)):Nat->Nat->cz->Res (List D)
 |0,_,M=>if fin M then .ok [] M else .bad
 |k+1,i,M=>match item i M with
  |none=>.bad|some d=>(body d M).bind λo M1=>(Dk fin item body k (i+1) M1).bind λds M2=>.ok (match o with|some x=>x::ds|none=>ds) M2
noncomputable def Av(s:Src)(body:D->cz->Res (Option D))(M:cz):Res (List D):=if s.len<=100000 then Dk s.fin s.item body s.len 0 M else .bad
noncomputable def Gi(c:Env->cz->Res D)(body:Env->cz->Res (Flow×Env)):Nat->Env->cz->Res (Flow×Env)
 |0,_,_=>.bad
 |k+1,ρ,M=>(c ρ M).bind λb M1=>match b with
  |.bl false=>.ok (.next,ρ) M1
  |.bl true=>(body ρ M1).bind λr M2=>match r.1 with
   |.next=>Gi c body k r.2 M2|.cont=>Gi c body k r.2 M2|.brk=>.ok (.next,r.2) M2|.ret v=>.ok (.ret v,r.2) M2
  |_=>.bad
noncomputable def ae6:Nat:=1000000
noncomputable def Eh(ds:List D):Nat->List D:=λn=>(ds.zipIdx n).map λp=>D.tup [.int p.2,p.1]
mutual
noncomputable def Ex.den(W:Ir):Ex->Env->cz->Res D
 |.var i,ρ,M=>match ρ[i]? with
  |some (some d)=>.ok d M|_=>.bad
 |.cst d,_,M=>.ok d M|.bin op a b,ρ,M=>(a.den W ρ M).bind λx M1=>(b.den W ρ M1).bind λy M2=>Dm op x y M2
 |.neg a,ρ,M=>(a.den W ρ M).bind λx M1=>match x with|.int i=>.ok (.int (-i)) M1|_=>.bad
 |.cmp op a b,ρ,M=>(a.den W ρ M).bind λx M1=>(b.den W ρ M1).bind λy M2=>Res.uo ((Mx op x y M2).map D.bl) M2
 |.chain o1 o2 a b c,ρ,M=>(a.den W ρ M).bind λx M1=>(b.den W ρ M1).bind λy M2=>(Res.uo (Mx o1 x y M2) M2).bind λq M2=>if q then(c.den W ρ M2).bind λz M3=>Res.uo ((Mx o2 y z M3).map D.bl) M3 else .ok (.bl false) M2
 |.and a b,ρ,M=>(a.den W ρ M).bind λx M1=>match x with|.bl true=>b.den W ρ M1|.bl false=>.ok (.bl false) M1|_=>.bad
 |.or a b,ρ,M=>(a.den W ρ M).bind λx M1=>match x with|.bl true=>.ok (.bl true) M1|.bl false=>b.den W ρ M1|_=>.bad
 |.not a,ρ,M=>(a.den W ρ M).bind λx M1=>match x with|.bl b=>.ok (.bl !b) M1|_=>.bad
 |.ite c a b,ρ,M=>(c.den W ρ M).bind λx M1=>match x with|.bl true=>a.den W ρ M1|.bl false=>b.den W ρ M1|_=>.bad
 |.tup es,ρ,M=>(es.den W ρ M).bind λds M1=>.ok (.tup ds) M1
 |.lst es,ρ,M=>(es.den W ρ M).bind λds M1=>new (.lst ds) M1
 |.Hd es,ρ,M=>(es.den W ρ M).bind λds M1=>.ok (.vl ds) M1
 |.ajb,_,M=>new (.dT []) M|.aez,_,M=>new (.dK []) M|.ix a b,ρ,M=>(a.den W ρ M).bind λx M1=>(b.den W ρ M1).bind λy M2=>Res.uo (zb x y M2) M2
 |.cut a lo hi,ρ,M=>(a.den W ρ M).bind λx M1=>(lo.den W ρ M1).bind λl M2=>(hi.den W ρ M2).bind λh M3=>Res.uo (Hm x l h M3) M3
 |.call f es,ρ,M=>(es.den W ρ M).bind λds M1=>W.call f ds M1
 |.make c es,ρ,M=>(es.den W ρ M).bind λds M1=>match W.cls[c]? with
  |some C=>(W.call C.init (.ref M1.length::ds) (M1++[.ins c []])).bind λr M2=>match r with|.non=>.ok (.ref M1.length) M2|_=>.bad
  |none=>.bad
 |.meth o m es,ρ,M=>(o.den W ρ M).bind λx M1=>(es.den W ρ M1).bind λds M2=>match x with
  |.ref n=>match M1[n]? with
   |some (.ins c _)=>match(W.cls[c]?).bind λC=>C.meths.lookup m with
    |some f=>W.call f (.ref n::ds) M2|none=>.bad
   |_=>.bad
  |_=>.bad
 |.fld o f,ρ,M=>(o.den W ρ M).bind λx M1=>Res.uo (Q4 x f M1) M1
 |.blt b es,ρ,M=>(es.den W ρ M).bind λds M1=>qx b ds M1
 |.bm m o es,ρ,M=>(o.den W ρ M).bind λx M1=>if Qn m x M1 then(es.den W ρ M1).bind λds M2=>Jz m x ds M2 else .bad
 |.comp v k t it e,ρ,M=>(it.den W ρ M).bind λs M1 =>
  (Av s (λd M=>match t.put d (ρ++List.replicate k none) with
   |some ρ'=>(e.den W ρ' M).bind λx M'=>.ok (some x) M'
   | none=>.bad) M1).bind λds M2=>if v then .ok (.vl ds) M2 else new (.lst ds) M2
 |.Cr v k t it c e,ρ,M=>(it.den W ρ M).bind λs M1 =>
  (Av s (λd M=>match t.put d (ρ++List.replicate k none) with
   |some ρ'=>(c.den W ρ' M).bind λb M'=>match b with
    |.bl true=>(e.den W ρ' M').bind λx M''=>.ok (some x) M''
    |.bl false=>.ok none M'|_=>.bad
   | none=>.bad) M1).bind λds M2=>if v then .ok (.vl ds) M2 else new (.lst ds) M2
 |.Vs a b,ρ,M=>(a.den W ρ M).bind λx M1 =>
  match(keysOf M1 x).bind Ef with
  |some xs=>if Eg xs then(b.den W ρ M1).bind λy M2 =>
   match(keysOf M2 y).bind Ef with
   |some ys=>if Eg ys then .ok (.bl !Iz xs ys) M2 else .bad
   |none=>.bad
   else .bad
  |none=>.bad
 |.ae0 e,ρ,M=>(e.den W ρ M).bind λx M1=>match x with
  |.int i=>if i.natAbs<=100000 then .ok (.tup ((List.range i.toNat).map λ(k:Nat)=>D.int (k:Int))) M1 else .bad
  |_=>.bad
 |.ae1 e,ρ,M=>(e.den W ρ M).bind λx M1=>match x with
  |.int i=>if i.natAbs<=100000 then new (.lst ((List.range i.toNat).map λ(k:Nat)=>D.int (k:Int))) M1 else .bad
  |_=>.bad
noncomputable def Dl.den(W:Ir):Dl->Env->cz->Res (List D)
 |.nil,_,M=>.ok [] M|.cons e es,ρ,M=>(e.den W ρ M).bind λx M1=>(es.den W ρ M1).bind λxs M2=>.ok (x::xs) M2
noncomputable def OEx.den(W:Ir):OEx->Env->cz->Res (Option Int)
 |.none,_,M=>.ok none M|.some e,ρ,M=>(e.den W ρ M).bind λx M1=>match x with|.int i=>.ok (some i) M1|_=>.bad
noncomputable def Pr.den(W:Ir):Pr->Env->cz->Res Src
 |.val e,ρ,M=>(e.den W ρ M).bind λx M1=>Res.uo (srcOf M1 x) M1
 |.O7 e,ρ,M=>(e.den W ρ M).bind λx M1=>match x with
  |.int i=>if i.natAbs<=100000 then .ok (.con ((List.range i.toNat).map λ(k:Nat)=>D.int (k:Int))) M1 else .bad
  |_=>.bad
 |.enm e,ρ,M=>(e.den W ρ M).bind λx M1=>match x with
  |.tup ds=>.ok (.con (Eh ds 0)) M1|.vl ds=>.ok (.con (Eh ds 0)) M1|_=>.bad
 |.keys e,ρ,M=>(e.den W ρ M).bind Vt|.zip a b,ρ,M=>(a.den W ρ M).bind λx M1=>(b.den W ρ M1).bind λy M2=>(Res.uo (ae5 x) M2).bind λds M2=>(Res.uo (ae5 y) M2).bind λes M2=>.ok (.con ((ds.zip es).map λp=>D.tup [p.1,p.2])) M2
end
noncomputable def Lv.put(W:Ir)(l:Lv)(d:D)(ρ:Env)(M:cz):Res Env :=
 match l with
 |.tg t=>Res.uo (t.put d ρ) M|.sub o i=>(o.den W ρ M).bind λx M1=>(i.den W ρ M1).bind λy M2=>(Res.uo (setOp x y d M2) M2).bind λM3 _=>.ok ρ M3
 |.fld o f=>(o.den W ρ M).bind λx M1=>(Res.uo (Q5 x f d M1) M1).bind λM2 _=>.ok ρ M2
mutual
noncomputable def Bu.den(W:Ir):Bu->Env->cz->Res (Flow×Env)
 |.asg l e,ρ,M=>(e.den W ρ M).bind λx M1=>(l.put W x ρ M1).bind fun ρ' M2=>.ok (.next,ρ') M2
 |.expr e,ρ,M=>(e.den W ρ M).bind λ_ M1=>.ok (.next,ρ) M1
 |.iff c a b,ρ,M=>(c.den W ρ M).bind λx M1=>match x with|.bl true=>a.den W ρ M1|.bl false=>b.den W ρ M1|_=>.bad
 |.whl c b,ρ,M=>Gi (c.den W) (b.den W) ae6 ρ M
 | .for_ t it b,ρ,M=>(it.den W ρ M).bind λs M1=>Bx s.fin s.item (λd ρ M=>match t.put d ρ with
  | some ρ'=>b.den W ρ' M|none=>.bad) s.len 0 ρ M1
 |.ret e,ρ,M=>(e.den W ρ M).bind λx M1=>.ok (.ret x,ρ) M1
 |.ar4,ρ,M=>.ok (.ret .non,ρ) M|.brk,ρ,M=>.ok (.brk,ρ) M|.cont,ρ,M=>.ok (.cont,ρ) M|.pass,ρ,M=>.ok (.next,ρ) M|.raise c es,ρ,M=>(es.den W ρ M).bind λ_ M1=>.err c M1
noncomputable def o6.den(W:Ir):o6->Env->cz->Res (Flow×Env)
 |.nil,ρ,M=>.ok (.next,ρ) M
 |.cons s r,ρ,M=>(s.den W ρ M).bind λp M1=>match p.1 with
  |.next=>r.den W p.2 M1|.brk=>.ok (.brk,p.2) M1|.cont=>.ok (.cont,p.2) M1|.ret d=>.ok (.ret d,p.2) M1
end
structure Prog where
 fns:List Fn
 cls:List Cl
noncomputable def Fn.run(W:Ir)(f:Fn)(ds:List D)(M:cz):Res D :=
 if ds.length=f.np then
  (f.body.den W (ds.map some++List.replicate (f.ns-f.np) none) M).bind λp M1=>match p.1 with
   |.ret d=>.ok d M1|.next=>.ok .non M1|_=>.bad
 else .bad
noncomputable def Prog.call(P:Prog):Nat->Nat->List D->cz->Res D
 |0,_,_,_=>.bad
 |n+1,f,ds,M=>match P.fns[f]? with
  |some F=>F.run ⟨P.call n,P.cls⟩ ds M|none=>.bad
@[simp] def O8(i:Nat):(Ex.var i).den W ρ M=match ρ[i]? with|some (some d)=>.ok d M|_=>.bad:=rfl
@[simp high] theorem bbp(d:D)(r:Env):(Ex.var 0).den W (some d::r) M=.ok d M:=rfl
@[simp high] theorem bbq(a0:Option D)(d:D)(r:Env):(Ex.var 1).den W (a0::some d::r) M=.ok d M:=rfl
@[simp high] theorem bbr(a0 a1:Option D)(d:D)(r:Env):(Ex.var 2).den W (a0::a1::some d::r) M=.ok d M:=rfl
@[simp high] theorem bbs(a0 a1 a2:Option D)(d:D)(r:Env):(Ex.var 3).den W (a0::a1::a2::some d::r) M=.ok d M:=rfl
@[simp high] theorem bbt(a0 a1 a2 a3:Option D)(d:D)(r:Env):(Ex.var 4).den W (a0::a1::a2::a3::some d::r) M=.ok d M:=rfl
@[simp high] theorem bbu(a0 a1 a2 a3 a4:Option D)(d:D)(r:Env):(Ex.var 5).den W (a0::a1::a2::a3::a4::some d::r) M=.ok d M:=rfl
@[simp high] theorem bbv(a0 a1 a2 a3 a4 a5:Option D)(d:D)(r:Env):(Ex.var 6).den W (a0::a1::a2::a3::a4::a5::some d::r) M=.ok d M:=rfl
@[simp high] theorem bbw(a0 a1 a2 a3 a4 a5 a6:Option D)(d:D)(r:Env):(Ex.var 7).den W (a0::a1::a2::a3::a4::a5::a6::some d::r) M=.ok d M:=rfl
@[simp high] theorem bbx(a0 a1 a2 a3 a4 a5 a6 a7:Option D)(d:D)(r:Env):(Ex.var 8).den W (a0::a1::a2::a3::a4::a5::a6::a7::some d::r) M=.ok d M:=rfl
@[simp high] theorem bby(a0 a1 a2 a3 a4 a5 a6 a7 a8:Option D)(d:D)(r:Env):(Ex.var 9).den W (a0::a1::a2::a3::a4::a5::a6::a7::a8::some d::r) M=.ok d M:=rfl
@[simp high] theorem a9t(a0 a1 a2 a3 a4 a5 a6 a7 a8 a9:Option D)(d:D)(r:Env):(Ex.var 10).den W (a0::a1::a2::a3::a4::a5::a6::a7::a8::a9::some d::r) M=.ok d M:=rfl
@[simp high] theorem a9u(a0 a1 a2 a3 a4 a5 a6 a7 a8 a9 a10:Option D)(d:D)(r:Env):(Ex.var 11).den W (a0::a1::a2::a3::a4::a5::a6::a7::a8::a9::a10::some d::r) M=.ok d M:=rfl
@[simp high] theorem a9v(a0 a1 a2 a3 a4 a5 a6 a7 a8 a9 a10 a11:Option D)(d:D)(r:Env):(Ex.var 12).den W (a0::a1::a2::a3::a4::a5::a6::a7::a8::a9::a10::a11::some d::r) M=.ok d M:=rfl
@[simp] def Q6(d:D):(Ex.cst d).den W ρ M=.ok d M:=rfl
@[simp] def Ky(op:Op2)(a b:Ex):(Ex.bin op a b).den W ρ M=(a.den W ρ M).bind λx M1=>(b.den W ρ M1).bind λy M2=>Dm op x y M2:=rfl
@[simp] def ar6(a:Ex):(Ex.neg a).den W ρ M=(a.den W ρ M).bind λx M1=>match x with|.int i=>.ok (.int (-i)) M1|_=>.bad:=rfl
@[simp] def ar7(op:Cp)(a b:Ex):(Ex.cmp op a b).den W ρ M=(a.den W ρ M).bind λx M1=>(b.den W ρ M1).bind λy M2=>Res.uo ((Mx op x y M2).map D.bl) M2:=rfl
@[simp] def ajd(o1 o2:Cp)(a b c:Ex):(Ex.chain o1 o2 a b c).den W ρ M=(a.den W ρ M).bind λx M1=>(b.den W ρ M1).bind λy M2=>(Res.uo (Mx o1 x y M2) M2).bind λq M2=>if q then(c.den W ρ M2).bind λz M3=>Res.uo ((Mx o2 y z M3).map D.bl) M3 else .ok (.bl false) M2:=rfl
def agt(a b:Ex):(Ex.and a b).den W ρ M=(a.den W ρ M).bind λx M1=>match x with|.bl true=>b.den W ρ M1|.bl false=>.ok (.bl false) M1|_=>.bad:=rfl
def al7(a b:Ex):(Ex.or a b).den W ρ M=(a.den W ρ M).bind λx M1=>match x with|.bl true=>.ok (.bl true) M1|.bl false=>b.den W ρ M1|_=>.bad:=rfl
@[simp] def agu(a:Ex):(Ex.not a).den W ρ M=(a.den W ρ M).bind λx M1=>match x with|.bl b=>.ok (.bl !b) M1|_=>.bad:=rfl
def ar8(c a b:Ex):(Ex.ite c a b).den W ρ M=(c.den W ρ M).bind λx M1=>match x with|.bl true=>a.den W ρ M1|.bl false=>b.den W ρ M1|_=>.bad:=rfl
@[simp] def ar9(es:Dl):(Ex.tup es).den W ρ M=(es.den W ρ M).bind λds M1=>.ok (.tup ds) M1:=rfl
@[simp] def asa(es:Dl):(Ex.lst es).den W ρ M=(es.den W ρ M).bind λds M1=>new (.lst ds) M1:=rfl
@[simp] def al8(es:Dl):(Ex.Hd es).den W ρ M=(es.den W ρ M).bind λds M1=>.ok (.vl ds) M1:=rfl
@[simp] def al9:Ex.ajb.den W ρ M=new (.dT []) M:=rfl
@[simp] def ama:Ex.aez.den W ρ M=new (.dK []) M:=rfl
@[simp] def axx(a b:Ex):(Ex.ix a b).den W ρ M=(a.den W ρ M).bind λx M1=>(b.den W ρ M1).bind λy M2=>Res.uo (zb x y M2) M2:=rfl
@[simp] def asb(a:Ex)(lo hi:OEx):(Ex.cut a lo hi).den W ρ M=(a.den W ρ M).bind λx M1=>(lo.den W ρ M1).bind λl M2=>(hi.den W ρ M2).bind λh M3=>Res.uo (Hm x l h M3) M3:=rfl
@[simp] def amb(f:Nat)(es:Dl):(Ex.call f es).den W ρ M=(es.den W ρ M).bind λds M1=>W.call f ds M1:=rfl
@[simp] theorem ab5{W:Ir}{ρ:Env}{M:cz}(c:Nat)(es:Dl):(Ex.make c es).den W ρ M=(es.den W ρ M).bind λds M1=>match W.cls[c]? with
 |some C=>(W.call C.init (.ref M1.length::ds) (M1++[.ins c []])).bind λr M2=>match r with|.non=>.ok (.ref M1.length) M2|_=>.bad
 |none=>.bad:=rfl
@[simp] theorem Cu{W:Ir}{ρ:Env}{M:cz}(o:Ex)(m:Nat)(es:Dl):(Ex.meth o m es).den W ρ M=(o.den W ρ M).bind λx M1=>(es.den W ρ M1).bind λds M2=>match x with
 |.ref n=>match M1[n]? with
  |some (.ins c _)=>match(W.cls[c]?).bind λC=>C.meths.lookup m with
   |some f=>W.call f (.ref n::ds) M2|none=>.bad
  |_=>.bad
 |_=>.bad:=rfl
@[simp] def asd(o:Ex)(f:Nat):(Ex.fld o f).den W ρ M=(o.den W ρ M).bind λx M1=>Res.uo (Q4 x f M1) M1:=rfl
@[simp] def Z0(b:Blt)(es:Dl):(Ex.blt b es).den W ρ M=(es.den W ρ M).bind λds M1=>qx b ds M1:=rfl
@[simp] def axy(m:Bm)(o:Ex)(es:Dl):(Ex.bm m o es).den W ρ M=(o.den W ρ M).bind λx M1=>if Qn m x M1 then(es.den W ρ M1).bind λds M2=>Jz m x ds M2 else .bad:=rfl
@[simp] theorem amc{W:Ir}{ρ:Env}{M:cz}(e:Ex):(Ex.ae0 e).den W ρ M=(e.den W ρ M).bind λx M1=>match x with
 |.int i=>if i.natAbs<=100000 then .ok (.tup ((List.range i.toNat).map λ(k:Nat)=>D.int (k:Int))) M1 else .bad
 |_=>.bad:=rfl
@[simp] theorem amd{W:Ir}{ρ:Env}{M:cz}(e:Ex):(Ex.ae1 e).den W ρ M=(e.den W ρ M).bind λx M1=>match x with
 |.int i=>if i.natAbs<=100000 then new (.lst ((List.range i.toNat).map λ(k:Nat)=>D.int (k:Int))) M1 else .bad
 |_=>.bad:=rfl
def Ni(v:Bool)(k:Nat)(t:Tg)(it:Pr)(e:Ex):(Ex.comp v k t it e).den W ρ M=(it.den W ρ M).bind λs M1 =>
 (Av s (λd M=>match t.put d (ρ++List.replicate k none) with
  |some ρ'=>(e.den W ρ' M).bind λx M'=>.ok (some x) M'
  | none=>.bad) M1).bind λds M2=>if v then .ok (.vl ds) M2 else new (.lst ds) M2:=rfl
def Vu(v:Bool)(k:Nat)(t:Tg)(it:Pr)(c e:Ex):(Ex.Cr v k t it c e).den W ρ M=(it.den W ρ M).bind λs M1 =>
 (Av s (λd M=>match t.put d (ρ++List.replicate k none) with
  |some ρ'=>(c.den W ρ' M).bind λb M'=>match b with
   |.bl true=>(e.den W ρ' M').bind λx M''=>.ok (some x) M''
   |.bl false=>.ok none M'|_=>.bad
  | none=>.bad) M1).bind λds M2=>if v then .ok (.vl ds) M2 else new (.lst ds) M2:=rfl
@[simp] def Q7:Dl.nil.den W ρ M=.ok [] M:=rfl
@[simp] def Hj(e:Ex)(es:Dl):(Dl.cons e es).den W ρ M=(e.den W ρ M).bind λx M1=>(es.den W ρ M1).bind λxs M2=>.ok (x::xs) M2:=rfl
@[simp] def aje:OEx.none.den W ρ M=.ok none M:=rfl
@[simp] def ajf(e:Ex):(OEx.some e).den W ρ M=(e.den W ρ M).bind λx M1=>match x with|.int i=>.ok (some i) M1|_=>.bad:=rfl
@[simp] def Kz(e:Ex):(Pr.val e).den W ρ M=(e.den W ρ M).bind λx M1=>Res.uo (srcOf M1 x) M1:=rfl
@[simp] theorem O9{W:Ir}{ρ:Env}{M:cz}(e:Ex):(Pr.O7 e).den W ρ M=(e.den W ρ M).bind λx M1=>match x with
 |.int i=>if i.natAbs<=100000 then .ok (.con ((List.range i.toNat).map λ(k:Nat)=>D.int (k:Int))) M1 else .bad
 |_=>.bad:=rfl
@[simp] theorem agv{W:Ir}{ρ:Env}{M:cz}(e:Ex):(Pr.enm e).den W ρ M=(e.den W ρ M).bind λx M1=>match x with
 |.tup ds=>.ok (.con (Eh ds 0)) M1|.vl ds=>.ok (.con (Eh ds 0)) M1|_=>.bad:=rfl
@[simp] def ame(e:Ex):(Pr.keys e).den W ρ M=(e.den W ρ M).bind Vt:=rfl
def ase(a b:Ex):(Pr.zip a b).den W ρ M=(a.den W ρ M).bind λx M1=>(b.den W ρ M1).bind λy M2=>(Res.uo (ae5 x) M2).bind λds M2=>(Res.uo (ae5 y) M2).bind λes M2=>.ok (.con ((ds.zip es).map λp=>D.tup [p.1,p.2])) M2:=rfl
@[simp] def Z1(l:Lv)(e:Ex):(Bu.asg l e).den W ρ M=(e.den W ρ M).bind λx M1=>(l.put W x ρ M1).bind fun ρ' M2=>.ok (.next,ρ') M2:=rfl
@[simp] def asf(e:Ex):(Bu.expr e).den W ρ M=(e.den W ρ M).bind λ_ M1=>.ok (.next,ρ) M1:=rfl
def axz(c:Ex)(a b:o6):(Bu.iff c a b).den W ρ M=(c.den W ρ M).bind λx M1=>match x with|.bl true=>a.den W ρ M1|.bl false=>b.den W ρ M1|_=>.bad:=rfl
@[simp] def ax0(e:Ex):(Bu.ret e).den W ρ M=(e.den W ρ M).bind λx M1=>.ok (.ret x,ρ) M1:=rfl
@[simp] def a9w:Bu.ar4.den W ρ M=.ok (.ret .non,ρ) M:=rfl
@[simp] def ax1:Bu.brk.den W ρ M=.ok (.brk,ρ) M:=rfl
@[simp] def ash:Bu.cont.den W ρ M=.ok (.cont,ρ) M:=rfl
@[simp] def a9x:Bu.pass.den W ρ M=.ok (.next,ρ) M:=rfl
@[simp] def amf(c:Nat)(es:Dl):(Bu.raise c es).den W ρ M=(es.den W ρ M).bind λ_ M1=>.err c M1:=rfl
def Z2(c:Ex)(b:o6):(Bu.whl c b).den W ρ M=Gi (c.den W) (b.den W) ae6 ρ M:=rfl
def S8(t:Tg)(it:Pr)(b:o6):(Bu.for_ t it b).den W ρ M=(it.den W ρ M).bind λs M1=>Bx s.fin s.item (λd ρ M=>match t.put d ρ with
 | some ρ'=>b.den W ρ' M|none=>.bad) s.len 0 ρ M1:=rfl
@[simp] def asi:o6.nil.den W ρ M=.ok (.next,ρ) M:=rfl
theorem amg{W:Ir}{ρ:Env}{M:cz}(s:Bu)(r:o6):(o6.cons s r).den W ρ M=(s.den W ρ M).bind λp M1=>match p.1 with
 |.next=>r.den W p.2 M1|.brk=>.ok (.brk,p.2) M1|.cont=>.ok (.cont,p.2) M1|.ret d=>.ok (.ret d,p.2) M1:=rfl
noncomputable def ajg(W:Ir)(r:o6)(x:Res (Flow×Env)):Res (Flow×Env):=x.bind λp M1=>match p.1 with
 |.next=>r.den W p.2 M1|.brk=>.ok (.brk,p.2) M1|.cont=>.ok (.cont,p.2) M1|.ret d=>.ok (.ret d,p.2) M1
@[simp] def Pa(s:Bu)(r:o6):(o6.cons s r).den W ρ M=ajg W r (s.den W ρ M):=rfl
@[simp] def J0(r:o6):ajg W r (.ok (.next,ρ) M)=r.den W ρ M:=rfl
@[simp] def a9y(r:o6):ajg W r (.ok (.brk,ρ) M)=.ok (.brk,ρ) M:=rfl
@[simp] def a4o(r:o6):ajg W r (.ok (.cont,ρ) M)=.ok (.cont,ρ) M:=rfl
@[simp] def a9z(r:o6)(d:D):ajg W r (.ok (.ret d,ρ) M)=.ok (.ret d,ρ) M:=rfl
@[simp] def a90(r:o6)(c:Nat):ajg W r (.err c M)=.err c M:=rfl
noncomputable def ifK{α:Type}(a b:cz->Res α)(x:Res D):Res α:=x.bind λx M1=>match x with|.bl true=>a M1|.bl false=>b M1|_=>.bad
@[simp] def a4p(c:Ex)(a b:o6):(Bu.iff c a b).den W ρ M=ifK (a.den W ρ) (b.den W ρ) (c.den W ρ M):=rfl
@[simp] def bbz(c a b:Ex):(Ex.ite c a b).den W ρ M=ifK (a.den W ρ) (b.den W ρ) (c.den W ρ M):=rfl
@[simp] def bb0(a b:Ex):(Ex.and a b).den W ρ M=ifK (b.den W ρ) (.ok (.bl false)) (a.den W ρ M):=rfl
@[simp] def bf3(a b:Ex):(Ex.or a b).den W ρ M=ifK (.ok (.bl true)) (b.den W ρ) (a.den W ρ M):=rfl
@[simp] def bf4(a b:cz->Res α):ifK a b (.ok (.bl true) M)=a M:=rfl
@[simp] def bf5(a b:cz->Res α):ifK a b (.ok (.bl false) M)=b M:=rfl
@[simp] def bb1(a b:cz->Res α)(c:Nat):ifK a b (.err c M)=.err c M:=rfl
theorem Yi{W:Ir}{ρ:Env}{M:cz}(a b:Ex):(Ex.Vs a b).den W ρ M=(a.den W ρ M).bind λx M1 =>
 match(keysOf M1 x).bind Ef with
 |some xs=>if Eg xs then(b.den W ρ M1).bind λy M2 =>
  match(keysOf M2 y).bind Ef with
  |some ys=>if Eg ys then .ok (.bl !Iz xs ys) M2 else .bad
  |none=>.bad
  else .bad
 |none=>.bad:=rfl
@[simp] def amh(t:Tg)(d:D):(Lv.tg t).put W d ρ M=Res.uo (t.put d ρ) M:=rfl
@[simp] def asj(o i:Ex)(d:D):(Lv.sub o i).put W d ρ M=(o.den W ρ M).bind λx M1=>(i.den W ρ M1).bind λy M2=>(Res.uo (setOp x y d M2) M2).bind λM3 _=>.ok ρ M3:=rfl
@[simp] def asl(o:Ex)(f:Nat)(d:D):(Lv.fld o f).put W d ρ M=(o.den W ρ M).bind λx M1=>(Res.uo (Q5 x f d M1) M1).bind λM2 _=>.ok ρ M2:=rfl
@[simp] def ax3(i:Nat)(d:D):(Tg.name i).put d ρ=some (ρ.set i (some d)):=rfl
@[simp] def awj(is:Y3)(ds:List D)(h:ds.length=is.length):(Tg.names is).put (.tup ds) ρ=some (Qo is ds ρ):=by simp[Tg.put,h]
@[simp] def awk(i:Nat)(is:Y3)(d:D)(ds:List D):Qo (i::is) (d::ds) ρ=Qo is ds (ρ.set i (some d)):=rfl
@[simp] def ax4(ds:List D):Qo [] ds ρ=ρ:=by cases ds<;>rfl
@[simp] def a4q(i j:Int):Dm .add (.int i) (.int j) M=.ok (.int (i+j)) M:=rfl
@[simp] def a4r(i j:Int):Dm .sub (.int i) (.int j) M=.ok (.int (i-j)) M:=rfl
def Nj(i j:Int)(h:(-(2 ^ 64)<i/\i<2 ^ 64)\/(-(2 ^ 64)<j/\j<2 ^ 64)):Dm .mul (.int i) (.int j) M=.ok (.int (i*j)) M:=dh h
def Yj(i j:Int)(h:0<j)(h2:j<1073741824):Dm .fdiv (.int i) (.int j) M=.ok (.int (i / j)) M:=dh ⟨h,h2⟩
@[simp] def a4s(i j:Int)(h:0<j):Dm .mod (.int i) (.int j) M=.ok (.int (i%j)) M:=dh h
@[simp] def ax5:Dm .pow (.int 10) (.int 18) M=.ok (.int (10 ^ 18)) M:=by simp[Dm,awi]
def ajh(xs ys:List D)(h:xs.length+ys.length<=100000):Dm .add (.tup xs) (.tup ys) M=.ok (.tup (xs++ys)) M:=dh h
def Yk(xs ys:List D)(h:xs.length+ys.length<=100000):Dm .add (.vl xs) (.vl ys) M=.ok (.vl (xs++ys)) M:=dh h
@[simp] def bb2(i j:Int):Mx .lt (.int i) (.int j) M=some (decide (i<j)):=rfl
@[simp] def bb3(i j:Int):Mx .le (.int i) (.int j) M=some (decide (i<=j)):=rfl
@[simp] def cmp_gt(i j:Int):Mx .gt (.int i) (.int j) M=some (decide (j<i)):=rfl
@[simp] def bb4(i j:Int):Mx .ge (.int i) (.int j) M=some (decide (j<=i)):=rfl
@[simp] def bb5(a b:D):Mx .eq a b M=wz M a b:=rfl
@[simp] def bb6(a b:D):Mx .ne a b M=(wz M a b).map not:=rfl
@[simp] def bb7(a b:D):Mx .inn a b M=Q3 M a b:=rfl
@[simp] def a2g(a b:D):Mx .T6 a b M=(Q3 M a b).map not:=rfl
def agw(n:Nat)(i j:Int):Mw M (n+1) (.int i) (.int j)=some (decide (i=j)):=rfl
def Ei(h1:f a b=some x)(h2:Sg f as bs=some y):Sg f (a::as) (b::bs)=some (x&&y):=by simp[Sg,h1,h2]
@[simp] def eq_int(i j:Int):wz M (.int i) (.int j)=some (decide (i=j)):=rfl
@[simp] def bf6(i j:Bool):wz M (.bl i) (.bl j)=some (i==j):=rfl
@[simp] def aji(ds:List D):gf M (.vl ds)=some ds:=rfl
@[simp] def a4t(ds:List D):Bj M (.vl ds)=some ds:=rfl
@[simp] def a2h(ds:List D):Bj M (.tup ds)=some ds:=rfl
def p8(h:M[n]?=some (.lst ds)):gf M (.ref n)=some ds:=by simp[gf,h]
def Vv(h:gf M d=some ds):Bj M d=some ds:=by cases d<;>first|exact h|(simp[gf] at h)
set_option tactic.hygienic true in
def len_list(h:gf M d=some ds):qx .len [d] M=.ok (.int ds.length) M:=by
 show Dt M d=_;cases d with
 |vl xs=>simp[gf] at h;subst h;rfl
 |ref n =>
  simp only[gf] at h;split at h<;>simp at h;rename_i xs hx;subst h;simp[Dt,hx]
 |_=>simp[gf] at h
@[simp] def a4u(d:D)(g:D->Res D):Zz [d] g=g d:=rfl
@[simp] def a4v(g:D->Res D):Zz [] g=.bad:=rfl
@[simp] def a2i(a b:D)(l:List D)(g:D->Res D):Zz (a::b::l) g=.bad:=rfl
@[simp] def bb8(i j:Int)(f:Int->Int->Int)(g:D->Option Int):two [.int i,.int j] f g M=.ok (.int (f i j)) M:=rfl
@[simp] def asm(d:D)(f:Int->Int->Int)(g:D->Option Int):two [d] f g M=Res.uo ((g d).map D.int) M:=rfl
@[simp] def ax6(ds:List D):Dt M (.tup ds)=.ok (.int ds.length) M:=rfl
@[simp] theorem awl{M:cz}(n:Nat):ags M (.ref n)=match M[n]? with
 |some (.dT gq)=>if ae4 gq then new (.dT gq) M else .bad
 |_=>.bad:=rfl
def De(h:gf M d=some ds)(h0:0<=i)(hx:ds[i.toNat]?=some x):zb d (.int i) M=some x:=by
 obtain⟨hl,hxx⟩:=ao.mp hx;have hi:i<ds.length:=by lia
 cases d with
 |vl xs=>simp[gf] at h;subst h;simp[zb,Bj,Xo,h0,hi,hl,hxx]
 |ref n =>
  simp only[gf] at h;cases e:M[n]? with
  |none=>rw[e] at h;simp at h|some o=>rw[e] at h;cases o<;>simp at h<;>subst h<;>simp[zb,gf,e,Xo,h0,hi,hl,hxx]
 |_=>simp[gf] at h
def Hn(h0:0<=i)(hx:ds[i.toNat]?=some x):zb (.tup ds) (.int i) M=some x:=by
 obtain⟨hl,hxx⟩:=ao.mp hx;have hi:i<ds.length:=by lia
 simp[zb,Bj,Xo,h0,hi,hl,hxx]
def a4w(h0:0<=i)(hx:ds[i.toNat]?=some x):zb (.fz ds) (.int i) M=some x:=by
 obtain⟨hl,hxx⟩:=ao.mp hx;have hi:i<ds.length:=by lia
 simp[zb,Xo,h0,hi,hl,hxx]
def ami:qx .len [.fz ds] M=.ok (.int ds.length) M:=rfl
@[simp] def a91(x:D)(r:List D):zb (.tup (x::r)) (.int 0) M=some x:=Hn (by decide) rfl
@[simp] def a92(x y:D)(r:List D):zb (.tup (x::y::r)) (.int 1) M=some y:=Hn (by decide) rfl
@[simp] def a93(x y z:D)(r:List D):zb (.tup (x::y::z::r)) (.int 2) M=some z:=Hn (by decide) rfl
def ab6(h:M[n]?=some (.dT gq))(hk:Ql b=some k):zb (.ref n) b M=Ad gq k:=by simp[zb,h,hk]
def a4x(h:M[n]?=some (.dT gq))(hk:Ql b=some k):Q3 M b (.ref n)=some (Ad gq k).isSome:=by simp[Q3,h,hk]
def a4y(h:M[n]?=some (.dK gq))(hk:Sx b=some k):zb (.ref n) b M=Ad gq k:=by simp[zb,h,hk]
@[simp] def Vw(i j:Int):Ql (.tup [.int i,.int j])=some [.inl i,.inl j]:=rfl
@[simp] def bf7(i:Int):Sx (.int i)=some (.inl i):=rfl
def K1(h:M[n]?=some (.lst xs)):Qn .append (.ref n) M=true:=by simp[Qn,h]
def K3(h:M[n]?=some (.lst xs))(hl:xs.length<100000):Jz .append (.ref n) [d] M=.ok .non (M.set n (.lst (xs++[d]))):=by simp[Jz,h,hl]
def Z3(h:M[n]?=some (.lst xs))(h0:0<=i)(hi:i<xs.length):setOp (.ref n) (.int i) d M=some (M.set n (.lst (xs.set i.toNat d))):=by simp[setOp,h,Xo,h0,hi]
def ax7(h:M[n]?=some (.dT gq))(hk:Ql b=some k)(hs:gq.length<100000):setOp (.ref n) b d M=some (M.set n (.dT (Dy gq k d))):=by simp[setOp,h,hk,hs]
def yj{M:cz}(h:M[a]?=some o):a<M.length:=(ao.mp h).1
def v8{M:cz}(h:M[a]?=some p):(M.set a o)[a]?=some o:=by rw[List.getElem?_set_self (yj h)]
def uq{M:cz}(h:b≠a):(M.set b o)[a]?=M[a]?:=vo h
def yg{M:cz}{a:Nat}(h:M[a]?=some o):(M++X)[a]?=some o:=by rw[du (yj h)];exact h
@[simp] def a94{M:cz}:(M++[o])[M.length]?=some o:=by simp
theorem Z4{fin:cz->Bool}{item:Nat->cz->Option D}{body:D->Env->cz->Res (Flow×Env)}(I:Nat->Env->cz->Prop){n:Nat}
 (step:∀i ρ M,i<n->I i ρ M->∃d fl ρ' M',item i M=some d/\body d ρ M=.ok (fl,ρ') M'/\(fl=.next\/fl=.cont)/\I (i+1) ρ' M') (Qp:∀ρ M,I n ρ M->fin M=true) :
 ∀(k i:Nat)(ρ:Env)(M:cz),i+k=n->I i ρ M->∃ρ' M',Bx fin item body k i ρ M=.ok (.next,ρ') M'/\I n ρ' M'
 |0,i,ρ,M,e,h=>by
  have q:i=n:=by lia
  rw[q] at h;exact⟨ρ,M,by simp[Bx,Qp ρ M h],h⟩
 |k+1,i,ρ,M,e,h=>by
  obtain⟨d,fl,ρ1,M1,h1,h2,h3,h4⟩:=step i ρ M (by lia) h;obtain⟨ρ2,M2,g1,g2⟩:=Z4 I step Qp k (i+1) ρ1 M1 (by lia) h4;refine⟨ρ2,M2,?_,g2⟩;rcases h3 with rfl|rfl<;>simp[Bx,h1,h2,g1]
def U8(I:Nat->Env->cz->Prop)(h0:I 0 ρ M)(step:∀i d ρ M,ds[i]?=some d->I i ρ M->∃fl ρ' M',body d ρ M=.ok (fl,ρ') M'/\(fl=.next\/fl=.cont)/\I (i+1) ρ' M') :
 ∃ρ' M',Bx (Src.con ds).fin (Src.con ds).item body (Src.con ds).len 0 ρ M=.ok (.next,ρ') M'/\I ds.length ρ' M':=by
 refine Z4 I (λi ρ M hi h=>?_) (λ_ _ _=>rfl) ds.length 0 ρ M (u9 _) h0;obtain⟨fl,ρ',M',a,b,c⟩:=step i ds[i] ρ M (by simp[hi]) h;exact⟨ds[i],fl,ρ',M',by simp[Src.item,hi],a,b,c⟩
def Z5(I:Nat->Env->cz->Prop)(h0:I 0 ρ M)(step:∀i ρ M,i<n->I i ρ M->∃fl ρ' M',body (.int i) ρ M=.ok (fl,ρ') M'/\(fl=.next\/fl=.cont)/\I (i+1) ρ' M') :
 ∃ρ' M',Bx (Src.con ((List.range n).map λ(k:Nat)=>D.int (k:Int))).fin (Src.con ((List.range n).map λ(k:Nat)=>D.int (k:Int))).item body (Src.con ((List.range n).map λ(k:Nat)=>D.int (k:Int))).len 0 ρ M=.ok (.next,ρ') M'/\I n ρ' M':=by
 have:=U8 (ds:=(List.range n).map λ(k:Nat)=>D.int (k:Int)) (body:=body) I h0 (λi d ρ M hd h=>by
  have hi:i<n:=by have:=(ao.mp hd).1;simpa using this
  rw[ie,yp hi] at hd;have hd:D.int (i:Int)=d:=by simpa using hd
  subst hd;exact step i ρ M hi h)
 simpa using this
def amj(I:Nat->Env->cz->Prop)(h0:I 0 ρ M)(stay:∀i ρ M,I i ρ M->M[p]?=some (.lst ds))(step:∀i d ρ M,ds[i]?=some d->I i ρ M->∃fl ρ' M',body d ρ M=.ok (fl,ρ') M'/\(fl=.next\/fl=.cont)/\I (i+1) ρ' M') :
 ∃ρ' M',Bx (Src.live p ds.length).fin (Src.live p ds.length).item body (Src.live p ds.length).len 0 ρ M=.ok (.next,ρ') M'/\I ds.length ρ' M':=by
 refine Z4 I (λi ρ M hi h=>?_) (fun ρ M h=>by simp[Src.fin,stay _ ρ M h]) ds.length 0 ρ M (u9 _) h0;obtain⟨fl,ρ',M',a,b,c⟩:=step i ds[i] ρ M (by simp[hi]) h;exact⟨ds[i],fl,ρ',M',by simp[Src.item,stay i ρ M h,hi],a,b,c⟩
theorem J1{fin:cz->Bool}{item:Nat->cz->Option D}{body:D->cz->Res (Option D)}(I:Nat->List D->cz->Prop){n:Nat}
 (step:∀i xs M,i<n->I i xs M->∃d o M',item i M=some d/\body d M=.ok o M'/\I (i+1) (xs++o.toList) M') (Qp:∀xs M,I n xs M->fin M=true) :
 ∀(k i:Nat)(xs:List D)(M:cz),i+k=n->I i xs M->∃ys M',Dk fin item body k i M=.ok ys M'/\I n (xs++ys) M'
 |0,i,xs,M,e,h=>by
  have q:i=n:=by lia
  rw[q] at h;exact⟨[],M,by simp[Dk,Qp xs M h],by simpa using h⟩
 |k+1,i,xs,M,e,h=>by
  obtain⟨d,o,M1,h1,h2,h3⟩:=step i xs M (by lia) h;obtain⟨ys,M2,g1,g2⟩:=J1 I step Qp k (i+1) (xs++o.toList) M1 (by lia) h3;refine⟨o.toList++ys,M2,?_,by rw[<- Af];exact g2⟩;cases o<;>simp[Dk,h1,h2,g1]
def Tc{s:Src}{ds:List D}(Qp:s.fin M=true)(hl:s.len=ds.length)(hi:∀i,i<ds.length->s.item i M=ds[i]?)(h:∀d∈ds,body d M=.ok (g d) M) :
 Dk s.fin s.item body s.len 0 M=.ok (ds.filterMap g) M:=by
 obtain⟨ys,M',e,h1,h2⟩:=J1 (fin:=s.fin) (item:=s.item) (body:=body) (λi xs M'=>M'=M/\xs=(ds.take i).filterMap g) (n:=ds.length) (λi xs M' Iw hI=>by
  obtain⟨rfl,rfl⟩:=hI;refine⟨ds[i],g ds[i],M',by rw[hi i Iw];simp[Iw],h _ (lq Iw),rfl,?_⟩;rw[List.take_succ,List.filterMap_append];simp[Iw];cases e:g ds[i]<;>simp[e]) (λxs M' h=>by rw[h.1];exact Qp) ds.length 0 [] M (u9 _) ⟨rfl,rfl⟩
 rw[hl,e,h1];simp at h2;rw[h2]
def amk(h:∀d∈ds,body d M=.ok (some (g d)) M) :
 Dk (Src.con ds).fin (Src.con ds).item body (Src.con ds).len 0 M=.ok (ds.map g) M:=by
 rw[Tc (s:=.con ds) (ds:=ds) (g:=λd=>some (g d)) rfl rfl (λi _=>rfl) h,List.filterMap_eq_map']
end MW
namespace MW
theorem Pb{c:Env->cz->Res D}{body:Env->cz->Res (Flow×Env)}(I:Nat->Env->cz->Prop)(Td:Env->cz->Prop)
 (step:∀m ρ M,I m ρ M->(∃M1,c ρ M=.ok (.bl false) M1/\Td ρ M1) \/
  ∃M1 fl ρ' M2 m',c ρ M=.ok (.bl true) M1/\body ρ M1=.ok (fl,ρ') M2/\(fl=.next\/fl=.cont)/\m'<m/\I m' ρ' M2) :
 ∀(k m:Nat)(ρ:Env)(M:cz),m<k->I m ρ M->∃ρ' M',Gi c body k ρ M=.ok (.next,ρ') M'/\Td ρ' M'
 |0,m,_,_,h,_=>absurd h (xq _)
 |k+1,m,ρ,M,h,hI=>by
  rcases step m ρ M hI with⟨M1,h1,h2⟩|⟨M1,fl,ρ1,M2,m',h1,h2,h3,h4,h5⟩
  . exact⟨ρ,M1,by simp[Gi,h1],h2⟩
  . obtain⟨ρ3,M3,g1,g2⟩:=Pb I Td step k m' ρ1 M2 (b_ h4 (z_ h)) h5
    refine⟨ρ3,M3,?_,g2⟩;rcases h3 with rfl|rfl<;>simp[Gi,h1,h2,g1]
end MW
namespace MW
noncomputable def Be(M M':cz):Prop:=∀(a:Nat)(o:MO),M[a]?=some o->M'[a]?=some o
def Be.refl(M:cz):Be M M:=λ_ _ h=>h
def Be.trans(a:Be M M1)(b:Be M1 M2):Be M M2:=λx o h=>b x o (a x o h)
def Be.app(M X:cz):Be M (M++X):=λ_ _ h=>yg h
def Be.len(k:Be M M'):M.length<=M'.length:=by
 rcases Nat.eq_zero_or_pos M.length with h|h
 . exact a_ (f_ h) (mq _)
 . have:=yj (k (M.length-1) M[M.length-1] (by simp))
   lia
theorem Be.gf(k:Be M M')(h:gf M d=some ds):MW.gf M' d=some ds:=by
 cases d with
 |vl xs=>exact h
 |ref n =>
  simp only[MW.gf] at h ⊢;cases e:M[n]? with
  |none=>rw[e] at h;simp at h|some o=>rw[e] at h;rw[k n o e];exact h
 |_=>simp[MW.gf] at h
def Vx(I:Nat->Env->cz->Prop)(hd:gf M d=some ds)(h0:I 0 ρ M)(stay:∀i ρ M,I i ρ M->gf M d=some ds)(step:∀i x ρ M,ds[i]?=some x->I i ρ M->∃fl ρ' M',body x ρ M=.ok (fl,ρ') M'/\(fl=.next\/fl=.cont)/\I (i+1) ρ' M') :
 ∃s,srcOf M d=some s/\∃ρ' M',Bx s.fin s.item body s.len 0 ρ M=.ok (.next,ρ') M'/\I ds.length ρ' M':=by
 cases d with
 |vl xs=>simp[gf] at hd;subst hd;exact⟨_,rfl,U8 I h0 step⟩
 |ref n =>
  cases e:M[n]? with
  |none=>simp[gf,e] at hd
  |some o =>
   cases o with
   |lst xs =>
    simp[gf,e] at hd;subst hd;refine⟨.live n xs.length,by simp[srcOf,e],amj I h0 (λi ρ M h=>?_) step⟩;have:=stay i ρ M h;simp only[gf] at this;split at this<;>simp_all
   |_=>simp[gf,e] at hd
 |_=>simp[gf] at hd
def agx(hl:ds.length<=100000)(h:∀d∈ds,body d M=.ok (some (g d)) M):Av (.con ds) body M=.ok (ds.map g) M:=by rw[Av,dh (show(Src.con ds).len<=100000 from hl)];exact amk h
def Vy(hl:ds.length<=100000)(h:∀d∈ds,body d M=.ok (g d) M):Av (.con ds) body M=.ok (ds.filterMap g) M:=by rw[Av,dh (show(Src.con ds).len<=100000 from hl)];exact Tc (s:=.con ds) rfl rfl (λ_ _=>rfl) h
def ab7(hd:gf M d=some ds)(hl:ds.length<=100000)(h:∀x∈ds,body x M=.ok (g x) M) :
 ∃s,srcOf M d=some s/\Av s body M=.ok (ds.filterMap g) M:=by
 cases d with
 |vl xs=>simp[gf] at hd;subst hd;exact⟨_,rfl,Vy hl h⟩
 |ref n =>
  cases e:M[n]? with
  |none=>simp[gf,e] at hd
  |some o =>
   cases o with
   |lst xs =>
    simp[gf,e] at hd;subst hd;exact⟨.live n xs.length,by simp[srcOf,e],by rw[Av,dh (show(Src.live n xs.length).len<=100000 from hl)];exact Tc (s:=.live n xs.length) (by simp[Src.fin,e]) rfl (λi _=>by simp[Src.item,e]) h⟩
   |_=>simp[gf,e] at hd
 |_=>simp[gf] at hd
def Pg(v:Bool)(k:Nat)(t:Tg)(it:Pr)(e:Ex):(Ex.comp v k t it e).den W ρ M=(it.den W ρ M).bind λs M1 =>
 (Av s (λd M=>(Res.uo (t.put d (ρ++List.replicate k none)) M).bind fun ρ' M=>(e.den W ρ' M).bind λx M'=>.ok (some x) M') M1).bind λds M2=>if v then .ok (.vl ds) M2 else new (.lst ds) M2:=by
 rw[Ni]
 congr 1;funext s M1;congr 2;funext d M
 cases t.put d (ρ++List.replicate k none)<;>rfl
def T8(v:Bool)(k:Nat)(t:Tg)(it:Pr)(c e:Ex):(Ex.Cr v k t it c e).den W ρ M=(it.den W ρ M).bind λs M1 =>
 (Av s (λd M=>(Res.uo (t.put d (ρ++List.replicate k none)) M).bind fun ρ' M=>(c.den W ρ' M).bind λb M' =>
  match b with
   |.bl true=>(e.den W ρ' M').bind λx M''=>.ok (some x) M''
   | .bl false=>.ok none M'|_=>.bad) M1).bind λds M2=>if v then .ok (.vl ds) M2 else new (.lst ds) M2:=by
 rw[Vu]
 congr 1;funext s M1;congr 2;funext d M
 cases t.put d (ρ++List.replicate k none)<;>rfl
def Ph(t:Tg)(it:Pr)(b:o6):(Bu.for_ t it b).den W ρ M=(it.den W ρ M).bind λs M1=>Bx s.fin s.item (λd ρ M=>(Res.uo (t.put d ρ) M).bind fun ρ' M=>b.den W ρ' M) s.len 0 ρ M1:=by
 rw[S8]
 congr 1;funext s M1;congr 1;funext d ρ M
 cases t.put d ρ<;>rfl
def Ax(hit:it.den W ρ M=.ok (.int (n:Int)) M1)(hn:n<=100000)(I:Nat->Env->cz->Prop)(h0:I 0 ρ M1)(step:∀i ρ M,i<n->I i ρ M->∃ρ1 fl ρ' M',t.put (.int i) ρ=some ρ1/\b.den W ρ1 M=.ok (fl,ρ') M'/\(fl=.next\/fl=.cont)/\I (i+1) ρ' M') :
 ∃ρ' M',(Bu.for_ t (.O7 it) b).den W ρ M=.ok (.next,ρ') M'/\I n ρ' M':=by
 rw[Ph,O9,hit];have O6:((n:Int)).natAbs<=100000:=by lia
 simp only[Res.Bs,O6,jy,pq];exact Z5 I h0 (λi ρ M hi h=>by
  obtain⟨ρ1,fl,ρ',M',a,b,c,d⟩:=step i ρ M hi h;exact⟨fl,ρ',M',by rw[a];exact b,c,d⟩)
def K4(hit:it.den W ρ M=.ok d M1)(hd:gf M1 d=some ds)(I:Nat->Env->cz->Prop)(h0:I 0 ρ M1)(stay:∀i ρ M,I i ρ M->gf M d=some ds)(step:∀i x ρ M,ds[i]?=some x->I i ρ M->∃ρ1 fl ρ' M',t.put x ρ=some ρ1/\b.den W ρ1 M=.ok (fl,ρ') M'/\(fl=.next\/fl=.cont)/\I (i+1) ρ' M') :
 ∃ρ' M',(Bu.for_ t (.val it) b).den W ρ M=.ok (.next,ρ') M'/\I ds.length ρ' M':=by
 rw[Ph,Kz,hit];obtain⟨s,h1,h2⟩:=Vx (body:=λd ρ M=>(Res.uo (t.put d ρ) M).bind fun ρ' M=>b.den W ρ' M) I hd h0 stay (λi x ρ M hx h=>by
  obtain⟨ρ1,fl,ρ',M',a,b,c,d⟩:=step i x ρ M hx h;exact⟨fl,ρ',M',by rw[a];exact b,c,d⟩)
 simp only[Res.Bs,h1,Res.Dr];exact h2
def ab8(hit:it.den W ρ M=.ok (.tup ds) M1)(I:Nat->Env->cz->Prop)(h0:I 0 ρ M1)(step:∀i x ρ M,ds[i]?=some x->I i ρ M->∃ρ1 fl ρ' M',t.put x ρ=some ρ1/\b.den W ρ1 M=.ok (fl,ρ') M'/\(fl=.next\/fl=.cont)/\I (i+1) ρ' M') :
 ∃ρ' M',(Bu.for_ t (.val it) b).den W ρ M=.ok (.next,ρ') M'/\I ds.length ρ' M':=by
 rw[Ph,Kz,hit];exact U8 I h0 (λi x ρ M hx h=>by
  obtain⟨ρ1,fl,ρ',M',a,b,c,d⟩:=step i x ρ M hx h;exact⟨fl,ρ',M',by rw[a];exact b,c,d⟩)
def T9(hit:it.den W ρ M=.ok (.tup ds) M1)(I:Nat->Env->cz->Prop)(h0:I 0 ρ M1)(step:∀i x ρ M,ds[i]?=some x->I i ρ M->∃ρ1 fl ρ' M',t.put (.tup [.int i,x]) ρ=some ρ1/\b.den W ρ1 M=.ok (fl,ρ') M'/\(fl=.next\/fl=.cont)/\I (i+1) ρ' M') :
 ∃ρ' M',(Bu.for_ t (.enm it) b).den W ρ M=.ok (.next,ρ') M'/\I ds.length ρ' M':=by
 rw[Ph,agv,hit];have:=U8 (ds:=Eh ds 0) (body:=λd ρ M=>(Res.uo (t.put d ρ) M).bind fun ρ' M=>b.den W ρ' M) I h0 (λi x ρ M hx h=>by
  have hil:i<ds.length:=by have:=(ao.mp hx).1;simpa[Eh] using this
  have hx':x=.tup [.int i,ds[i]]:=by simp[Eh,hil] at hx;exact hx.symm
  subst hx';obtain⟨ρ1,fl,ρ',M',a,b,c,d⟩:=step i ds[i] ρ M (by simp[hil]) h;exact⟨fl,ρ',M',by rw[a];exact b,c,d⟩)
 have e:(Eh ds 0).length=ds.length:=by simp[Eh]
 rw[e] at this;exact this
def Ay(hit:it.den W ρ M=.ok d M1)(hd:gf M1 d=some ds)(hl:ds.length<=100000)(h:∀x∈ds,∃ρ1,t.put x (ρ++List.replicate k none)=some ρ1/\e.den W ρ1 M1=.ok (g x) M1) :
 (Ex.comp v k t (.val it) e).den W ρ M=if v then .ok (.vl (ds.map g)) M1 else new (.lst (ds.map g)) M1:=by
 rw[Pg,Kz,hit];obtain⟨s,h1,h2⟩:=ab7 (g:=λx=>some (g x)) (body:=λd M=>(Res.uo (t.put d (ρ++List.replicate k none)) M).bind fun ρ' M=>(e.den W ρ' M).bind λx M'=>.ok (some x) M') hd hl (λx hx=>by
  obtain⟨ρ1,a,b⟩:=h x hx;rw[a];simp[b])
 simp only[Res.Bs,h1,Res.Dr,h2,List.filterMap_eq_map']
def K5(hit:it.den W ρ M=.ok (.tup ds) M1)(hl:ds.length<=100000)(h:∀x∈ds,∃ρ1,t.put x (ρ++List.replicate k none)=some ρ1/\e.den W ρ1 M1=.ok (g x) M1) :
 (Ex.comp v k t (.val it) e).den W ρ M=if v then .ok (.vl (ds.map g)) M1 else new (.lst (ds.map g)) M1:=by
 rw[Pg,Kz,hit];have h2:=agx (g:=g) (M:=M1) (body:=λd M=>(Res.uo (t.put d (ρ++List.replicate k none)) M).bind fun ρ' M=>(e.den W ρ' M).bind λx M'=>.ok (some x) M') hl (λx hx=>by
  obtain⟨ρ1,a,b⟩:=h x hx;rw[a];simp[b])
 show(Av (.con ds) _ M1).bind _=_;rw[h2];rfl
def Vz(hit:it.den W ρ M=.ok (.int (n:Int)) M1)(hl:n<=100000)(h:∀i,i<n->∃ρ1,t.put (.int i) (ρ++List.replicate k none)=some ρ1/\c.den W ρ1 M1=.ok (.bl (q i)) M1/\(q i=true->e.den W ρ1 M1=.ok (g i) M1)) :
 (Ex.Cr v k t (.O7 it) c e).den W ρ M=if v then .ok (.vl (((List.range n).filter q).map g)) M1 else new (.lst (((List.range n).filter q).map g)) M1:=by
 rw[T8,O9,hit];have O6:((n:Int)).natAbs<=100000:=by lia
 simp only[Res.Bs,O6,jy,pq];rw[Vy (ds:=(List.range n).map λ(k:Nat)=>D.int (k:Int)) (g:=λd=>match d with|.int i=>if q i.toNat then some (g i.toNat) else none|_=>none) (by simpa using hl) (λx hx=>by
  obtain⟨i,hi,rfl⟩:=bf.mp hx;obtain⟨ρ1,a,b,c⟩:=h i (jz.mp hi);rw[a,Res.Dr,Res.Bs,b,Res.Bs];cases e:q i with
  | true=>simp[e,c e]|false=>simp[e])]
 have:(((List.range n).map λ(k:Nat)=>D.int (k:Int)).filterMap λd=>match d with|.int i=>if q i.toNat then some (g i.toNat) else none|_=>none)=((List.range n).filter q).map g:=by
  rw[List.filterMap_map]
  induction List.range n with
  |nil=>rfl|cons a l ih=>by_cases e:q a=true<;>simp[e,ih]
 rw[this];rfl
theorem agy{fin:cz->Bool}{item:Nat->cz->Option D}{body:D->Env->cz->Res (Flow×Env)}(I:Nat->Env->cz->Prop)(Td:Env->cz->Prop){n:Nat}
 (step:∀i ρ M,i<n->I i ρ M->∃d fl ρ' M',item i M=some d/\body d ρ M=.ok (fl,ρ') M'/\(((fl=.next\/fl=.cont)/\I (i+1) ρ' M')\/(fl=.brk/\Td ρ' M'))) (Qp:∀ρ M,I n ρ M->fin M=true/\Td ρ M) :
 ∀(k i:Nat)(ρ:Env)(M:cz),i+k=n->I i ρ M->∃ρ' M',Bx fin item body k i ρ M=.ok (.next,ρ') M'/\Td ρ' M'
 |0,i,ρ,M,e,h=>by
  have q:i=n:=by lia
  rw[q] at h;exact⟨ρ,M,by simp[Bx,(Qp ρ M h).1],(Qp ρ M h).2⟩
 |k+1,i,ρ,M,e,h=>by
  obtain⟨d,fl,ρ1,M1,h1,h2,⟨h3,h4⟩|⟨rfl,h4⟩⟩:=step i ρ M (by lia) h
  . obtain⟨ρ2,M2,g1,g2⟩:=agy I Td step Qp k (i+1) ρ1 M1 (by lia) h4
    refine⟨ρ2,M2,?_,g2⟩;rcases h3 with rfl|rfl<;>simp[Bx,h1,h2,g1]
  . exact⟨ρ1,M1,by simp[Bx,h1,h2],h4⟩
def ab9(hit:it.den W ρ M=.ok (.int (n:Int)) M1)(hn:n<=100000)(I:Nat->Env->cz->Prop)(Td:Env->cz->Prop)(h0:I 0 ρ M1)(hp:∀ρ M,I n ρ M->Td ρ M)(step:∀i ρ M,i<n->I i ρ M->∃ρ1 fl ρ' M',t.put (.int i) ρ=some ρ1/\b.den W ρ1 M=.ok (fl,ρ') M'/\(((fl=.next\/fl=.cont)/\I (i+1) ρ' M')\/(fl=.brk/\Td ρ' M'))) :
 ∃ρ' M',(Bu.for_ t (.O7 it) b).den W ρ M=.ok (.next,ρ') M'/\Td ρ' M':=by
 rw[Ph,O9,hit];have O6:((n:Int)).natAbs<=100000:=by lia
 simp only[Res.Bs,O6,jy,pq];obtain⟨ρ',M',e,h⟩:=agy (fin:=(Src.con ((List.range n).map λ(k:Nat)=>D.int (k:Int))).fin) (item:=(Src.con ((List.range n).map λ(k:Nat)=>D.int (k:Int))).item) (body:=λd ρ M=>(Res.uo (t.put d ρ) M).bind fun ρ' M=>b.den W ρ' M) I Td (n:=n) (λi ρ M hi h=>by
  obtain⟨ρ1,fl,ρ',M',a,b,c⟩:=step i ρ M hi h;exact⟨.int i,fl,ρ',M',by simp[Src.item,hi],by rw[a];exact b,c⟩) (fun ρ M h=>⟨rfl,hp ρ M h⟩) n 0 ρ M1 (u9 _) h0
 have hl:(Src.con ((List.range n).map λ(k:Nat)=>D.int (k:Int))).len=n:=by simp[Src.len]
 rw[hl];exact⟨ρ',M',e,h⟩
def Z6(hit:it.den W ρ M=.ok (.int (n:Int)) M1)(hn:n<=100000)(I:Nat->List D->cz->Prop)(h0:I 0 [] M1)(step:∀i xs M,i<n->I i xs M->∃ρ1 x M',t.put (.int i) (ρ++List.replicate k none)=some ρ1/\e.den W ρ1 M=.ok x M'/\I (i+1) (xs++[x]) M') :
 ∃ys M',(Ex.comp v k t (.O7 it) e).den W ρ M=(if v then .ok (.vl ys) M' else new (.lst ys) M')/\I n ys M':=by
 rw[Pg,O9,hit];have O6:((n:Int)).natAbs<=100000:=by lia
 simp only[Res.Bs,O6,jy,pq];obtain⟨ys,M',g,h⟩:=J1 (fin:=(Src.con ((List.range n).map λ(k:Nat)=>D.int (k:Int))).fin) (item:=(Src.con ((List.range n).map λ(k:Nat)=>D.int (k:Int))).item) (body:=λd M=>(Res.uo (t.put d (ρ++List.replicate k none)) M).bind fun ρ' M=>(e.den W ρ' M).bind λx M'=>.ok (some x) M') I (n:=n) (λi xs M hi h=>by
  obtain⟨ρ1,x,M',a,b,c⟩:=step i xs M hi h;exact⟨.int i,some x,M',by simp[Src.item,hi],by rw[a];simp[b],by simpa using c⟩) (λ_ _ _=>rfl) n 0 [] M1 (u9 _) h0
 have hl:(Src.con ((List.range n).map λ(k:Nat)=>D.int (k:Int))).len=n:=by simp[Src.len]
 refine⟨ys,M',?_,by simpa using h⟩;rw[Av,hl,dh hn,g];rfl
set_option tactic.hygienic true in
def Jl(hit:it.den W ρ M=.ok d M1)(hd:gf M1 d=some ds)(hn:ds.length<=100000)(I:Nat->List D->cz->Prop)(h0:I 0 [] M1)(stay:∀i xs M,I i xs M->gf M d=some ds)(step:∀i y xs M,ds[i]?=some y->I i xs M->∃ρ1 x M',t.put y (ρ++List.replicate k none)=some ρ1/\e.den W ρ1 M=.ok x M'/\I (i+1) (xs++[x]) M') :
 ∃ys M',(Ex.comp v k t (.val it) e).den W ρ M=(if v then .ok (.vl ys) M' else new (.lst ys) M')/\I ds.length ys M':=by
 rw[Pg,Kz,hit];obtain⟨s,hs,hl,hi,hf⟩:∃s,srcOf M1 d=some s/\s.len=ds.length/\(∀M i,gf M d=some ds->s.item i M=ds[i]?)/\∀M,gf M d=some ds->s.fin M=true:=by
  cases d with
  |vl zs=>cases hd;exact⟨.con ds,rfl,rfl,λ_ _ _=>rfl,λ_ _=>rfl⟩
  |ref p =>
   have get:∀{M:cz},gf M (.ref p)=some ds->M[p]?=some (.lst ds):=fun{M} h=>by
    simp only[gf] at h;split at h
    . rename_i z;cases h;exact z
    . cases h
   refine⟨.live p ds.length,by simp[srcOf,get hd],rfl,λM i h=>by simp[Src.item,get h],λM h=>by simp[Src.fin,get h]⟩
  |_=>cases hd
 simp only[Res.Bs,hs,Res.Dr];obtain⟨ys,M',g,h⟩:=J1 (fin:=s.fin) (item:=s.item) (body:=λd M=>(Res.uo (t.put d (ρ++List.replicate k none)) M).bind fun ρ' M=>(e.den W ρ' M).bind λx M'=>.ok (some x) M') I (n:=ds.length) (λi xs M Iw h=>by
  obtain⟨ρ1,x,M',a,b,c⟩:=step i ds[i] xs M (by simp[Iw]) h;exact⟨ds[i],some x,M',by rw[hi M i (stay i xs M h)];simp[Iw],by rw[a];simp[b],by simpa using c⟩) (λxs M h=>hf M (stay _ xs M h)) ds.length 0 [] M1 (u9 _) h0
 refine⟨ys,M',?_,by simpa using h⟩;rw[Av,hl,dh hn,g];rfl
noncomputable abbrev Goes(I:Nat->Env->cz->Prop)(R:D->cz->Prop)(i:Nat)(r:Res (Flow×Env)):Prop:=∃fl ρ' M',r=.ok (fl,ρ') M'/\((fl=.next/\I i ρ' M')\/∃v,fl=.ret v/\R v M')
theorem agz{fin:cz->Bool}{item:Nat->cz->Option D}{body:D->Env->cz->Res (Flow×Env)}(I:Nat->Env->cz->Prop)(R:D->cz->Prop){n:Nat}
 (step:∀i ρ M,i<n->I i ρ M->∃d,item i M=some d/\Goes I R (i+1) (body d ρ M)) (hf:∀ρ M,I n ρ M->fin M=true) :
 ∀k i ρ M,i+k=n->I i ρ M->Goes I R n (Bx fin item body k i ρ M)
 |0,i,ρ,M,e,h=>by
  obtain rfl:i=n:=by lia
  exact⟨_,ρ,M,by simp[Bx,hf ρ M h],.inl ⟨rfl,h⟩⟩
 |k+1,i,ρ,M,e,h=>by
  obtain⟨d,h1,fl,ρ',M',h2,⟨rfl,h4⟩|⟨v,rfl,h4⟩⟩:=step i ρ M (by lia) h
  . have:=agz I R step hf k (i+1) ρ' M' (by lia) h4
    simpa[Bx,h1,h2] using this
  . exact⟨.ret v,ρ',M',by simp[Bx,h1,h2],.inr ⟨v,rfl,h4⟩⟩
section
variable{W:Ir}{ρ:Env}{M M1:cz}{t:Tg}{b:o6}
def Q8{it:Pr}{s:Src}{n:Nat}(hit:it.den W ρ M=.ok s M1)(hn:s.len=n)(I:Nat->Env->cz->Prop)(R:D->cz->Prop)(h0:I 0 ρ M1)(hf:∀ρ M,I n ρ M->s.fin M=true)
 (step:∀i ρ M,i<n->I i ρ M->∃d ρ1,s.item i M=some d/\t.put d ρ=some ρ1/\Goes I R (i+1) (b.den W ρ1 M)):Goes I R n ((Bu.for_ t it b).den W ρ M):=by
 rw[Ph,hit,Res.Bs,hn];exact agz I R (λi ρ M hi h=>by
  obtain⟨d,ρ1,a,b,c⟩:=step i ρ M hi h;exact⟨d,a,by rw[b];exact c⟩) hf n 0 ρ M1 (u9 n) h0
def Ua{it:Ex}{n:Nat}(hit:it.den W ρ M=.ok (.int (n:Int)) M1)(hn:n<=100000)(I:Nat->Env->cz->Prop)(R:D->cz->Prop)(h0:I 0 ρ M1)
 (step:∀i ρ M,i<n->I i ρ M->∃ρ1,t.put (.int i) ρ=some ρ1/\Goes I R (i+1) (b.den W ρ1 M)):Goes I R n ((Bu.for_ t (.O7 it) b).den W ρ M):=by
 exact Q8 (s:=.con ((List.range n).map λ(k:Nat)=>D.int (k:Int))) (by rw[O9,hit];simp[hn]) (by simp[Src.len]) I R h0 (λ_ _ _=>rfl) (λi ρ M hi h=>by
  obtain⟨ρ1,a⟩:=step i ρ M hi h;exact⟨.int i,ρ1,by simp[Src.item,hi],a⟩)
end
end MW
namespace K03
open MW
noncomputable def J2:o6:=.c (.expr (.call 9 (.p (.v 1) (.v 2)))) (.c (.expr (.call 10 (.p (.v 2) (.v 3)))) (.c (.expr (.call 11 (.p (.v 2) (.v 3)))) (.q (.asg (.fld (.v 0) 2) (.v 1)) (.asg (.fld (.v 0) 1) (.v 2)) (.asg (.fld (.v 0) 0) (.blt .dict (.o (.v 3)))))))
noncomputable def J5:Fn:=⟨4,4,J2⟩
noncomputable def Mf:o6:=.o (.ret (.fld (.v 0) 2))
noncomputable def Mg:Fn:=⟨1,1,Mf⟩
noncomputable def J6:o6:=.o (.ret (.fld (.v 0) 1))
noncomputable def J7:Fn:=⟨1,1,J6⟩
noncomputable def J8:o6:=.o (.ret (.call 6 (.q (.fld (.v 0) 0) (.v 1) (.v 2))))
noncomputable def J9:Fn:=⟨3,3,J8⟩
noncomputable def Te:Ex:=.Cr true 2 (.names [2,3]) (.enm (.fld (.v 0) 1)) (.cmp .eq (.ix (.v 3) (.i 0)) (.v 1)) (.v 2)
noncomputable def V0:o6:=.o (.ret (.bin .al4 (.Hd (.o (.i (-1)))) Te))
noncomputable def V1:Fn:=⟨2,2,V0⟩
noncomputable def Xq:o6:=.p (.f (.cmp .eq (.v 2) (.i (-1))) (.o (.ret (.v 1)))) (.ret (.ix (.ix (.fld (.v 0) 1) (.v 2)) (.i 1)))
noncomputable def Xr:Fn:=⟨3,3,Xq⟩
noncomputable def Ja:o6:=.q (.f (.cmp .eq (.v 1) (.i (-1))) (.o (.ret (.v 2)))) (.f (.cmp .eq (.v 2) (.i (-1))) (.o (.ret (.v 1)))) (.ret (.ix (.v 0) (.tup (.p (.v 1) (.v 2)))))
noncomputable def Jb:Fn:=⟨3,3,Ja⟩
noncomputable def Bo:o6:=.o (.f (.cmp .eq (.ix (.v 3) (.i 1)) (.ix (.v 5) (.i 0))) (.o (.expr (.bm .append (.v 1) (.o (.tup (.p (.v 2) (.v 4))))))))
noncomputable def Jc:Bu:=.for_ (.names [4,5]) (.enm (.v 0)) Bo
noncomputable def Ej:o6:=.o Jc
noncomputable def Jd:Bu:=.for_ (.names [2,3]) (.enm (.v 0)) Ej
noncomputable def Mh:o6:=.q (.a 1 (.lst .z)) Jd (.ret (.v 1))
noncomputable def Mi:Fn:=⟨1,6,Mh⟩
noncomputable def Fp:o6:=.p (.f (.cmp .eq (.v 1) (.i (-1))) (.o (.ret (.cmp .eq (.v 2) (.v 3))))) (.ret (.and (.chain .le .lt (.i 0) (.v 1) (.l (.v 0))) (.cmp .eq (.ix (.v 0) (.v 1)) (.tup (.p (.v 2) (.v 3))))))
noncomputable def Fq:Fn:=⟨4,4,Fp⟩
noncomputable def Ft:o6:=.o (.f (.not (.and (.chain .le .lt (.i 0) (.ix (.v 2) (.i 0)) (.v 0)) (.chain .le .lt (.i 0) (.ix (.v 2) (.i 1)) (.v 0)))) (.o (.raise 1 (.o (.cst (.str (PySem.Str.ofString "a doing is from a kind to a kind")))))))
noncomputable def Ka:Bu:=.for_ (.name 2) (.val (.v 1)) Ft
noncomputable def Nk:o6:=.q (.f (.not (.chain .le .le (.i 1) (.v 0) (.i 3))) (.o (.raise 1 (.o (.cst (.str (PySem.Str.ofString "a pattern has one to three kinds"))))))) (.f (.cmp .gt (.l (.v 1)) (.i 5)) (.o (.raise 1 (.o (.cst (.str (PySem.Str.ofString "a pattern has at most five doings"))))))) Ka
noncomputable def Np:Fn:=⟨2,3,Nk⟩
noncomputable def Gr:o6:=.o (.f (.not (.call 8 (.c (.v 0) (.q (.ix (.v 1) (.tup (.p (.v 3) (.v 4)))) (.ix (.ix (.v 0) (.v 3)) (.i 0)) (.ix (.ix (.v 0) (.v 4)) (.i 1)))))) (.o (.raise 1 (.o (.cst (.str (PySem.Str.ofString "two doings come to a way of their own ends")))))))
noncomputable def Mj:Bu:=.for_ (.names [3,4]) (.val (.v 2)) Gr
noncomputable def Py:o6:=.q (.a 2 (.call 7 (.o (.v 0)))) (.f (.Vs (.v 1) (.v 2)) (.o (.raise 1 (.o (.cst (.str (PySem.Str.ofString "a table tells of just the pairs of doings that meet"))))))) Mj
noncomputable def Pz:Fn:=⟨2,5,Py⟩
noncomputable def Df:o6:=.c (.f (.cmp .T6 (.tup (.p (.v 4) (.v 5))) (.v 1)) (.o .cont)) (.q (.a 6 (.call 6 (.q (.v 1) (.ix (.v 1) (.tup (.p (.v 3) (.v 4)))) (.v 5)))) (.a 7 (.call 6 (.q (.v 1) (.v 3) (.ix (.v 1) (.tup (.p (.v 4) (.v 5))))))) (.f (.cmp .ne (.v 6) (.v 7)) (.o (.raise 1 (.o (.cst (.str (PySem.Str.ofString "three doings come to one way, however they are taken together"))))))))
noncomputable def Kc:Bu:=.for_ (.name 5) (.O7 (.l (.v 0))) Df
noncomputable def Fv:o6:=.o Kc
noncomputable def Kd:Bu:=.for_ (.names [3,4]) (.val (.v 2)) Fv
noncomputable def Nq:o6:=.p (.a 2 (.call 7 (.o (.v 0)))) Kd
noncomputable def Nr:Fn:=⟨2,8,Nq⟩
noncomputable def Ho:o6:=.p (.f (.cmp .lt (.v 1) (.l (.v 0))) (.o (.ret (.ix (.v 0) (.v 1))))) (.ret (.i 0))
noncomputable def Hq:Fn:=⟨2,2,Ho⟩
noncomputable def K6:o6:=.q (.a 2 (.call 12 (.p (.v 0) (.v 1)))) (.f (.cmp .ge (.v 2) (.bin .pow (.i 10) (.i 18))) (.o (.ret (.lst (.p (.bin .sub (.v 2) (.bin .pow (.i 10) (.i 18))) (.cst (.bl true))))))) (.ret (.lst (.p (.bin .mod (.v 2) (.i 2147483647)) (.cst (.bl false)))))
noncomputable def K7:Fn:=⟨2,3,K6⟩
noncomputable def Nt:o6:=.c (.f (.ix (.v 0) (.i 1)) (.q (.a 2 (.bin .mod (.ix (.v 0) (.i 0)) (.v 1))) (.asg (.sub (.v 0) (.i 0)) (.bin .fdiv (.ix (.v 0) (.i 0)) (.v 1))) (.ret (.v 2)))) (.c (.asg (.sub (.v 0) (.i 0)) (.bin .mod (.bin .add (.bin .mul (.ix (.v 0) (.i 0)) (.i 48271)) (.i 29)) (.i 2147483647))) (.q (.a 3 (.bin .mod (.bin .add (.bin .add (.bin .mul (.ix (.v 0) (.i 0)) (.ix (.v 0) (.i 0))) (.bin .mul (.i 39373) (.ix (.v 0) (.i 0)))) (.i 7)) (.i 2147483629))) (.a 3 (.bin .mod (.bin .add (.bin .mul (.v 3) (.v 3)) (.bin .mul (.i 16807) (.v 3))) (.i 2147483587))) (.ret (.bin .mod (.bin .fdiv (.v 3) (.i 8)) (.v 1)))))
noncomputable def Nu:Fn:=⟨2,4,Nt⟩
noncomputable def Hr:Ex:=.comp true 1 (.name 12) (.O7 (.ix (.v 7) (.v 10))) (.call 14 (.p (.v 0) (.ix (.v 7) (.v 11))))
noncomputable def Ek:o6:=.q (.a 10 (.call 14 (.p (.v 0) (.v 6)))) (.a 11 (.call 14 (.p (.v 0) (.v 6)))) (.expr (.bm .append (.v 8) (.o (.tup (.q (.v 10) (.v 11) (.blt .tuple (.o Hr)))))))
noncomputable def Hs:Bu:=.for_ (.name 9) (.O7 (.call 14 (.p (.v 0) (.i 4)))) Ek
noncomputable def Ht:Ex:=.comp true 1 (.name 12) (.O7 (.v 6)) (.bin .add (.i 1) (.call 14 (.p (.v 0) (.i 3))))
noncomputable def K8:o6:=.c (.a 1 (.call 14 (.p (.v 0) (.i 12)))) (.c (.f (.cmp .lt (.v 1) (.i 7)) (.c (.a 2 (.Hd (.p (.tup (.q (.i 0) (.i 1) (.tup (.p (.i 0) (.i 1))))) (.tup (.q (.i 0) (.i 1) (.tup (.p (.i 1) (.i 0)))))))) (.c (.a 3 (.Hd (.q (.tup (.q (.i 0) (.i 1) (.tup (.c (.i 0) (.q (.i 0) (.i 1) (.i 1)))))) (.tup (.q (.i 0) (.i 1) (.tup (.c (.i 0) (.q (.i 1) (.i 0) (.i 1)))))) (.tup (.q (.i 1) (.i 0) (.tup (.p (.i 0) (.i 3)))))))) (.q (.a 4 (.Hd (.o (.tup (.q (.i 0) (.i 0) (.tup (.p (.i 1) (.i 0)))))))) (.a 5 (.Hd (.c (.v 2) (.c (.v 3) (.c (.v 4) (.c (.Hd (.o (.tup (.q (.i 0) (.i 0) (.tup (.q (.i 1) (.i 2) (.i 0))))))) (.q (.Hd (.o (.tup (.q (.i 0) (.i 0) (.tup (.p (.i 0) (.i 0))))))) (.Hd .z) (.Hd (.p (.tup (.q (.i 0) (.i 1) (.tup (.p (.i 0) (.i 1))))) (.tup (.q (.i 1) (.i 2) (.tup (.q (.i 0) (.i 0) (.i 1)))))))))))))) (.ret (.ix (.v 5) (.v 1))))))) (.c (.a 6 (.bin .add (.i 1) (.call 14 (.p (.v 0) (.i 3))))) (.c (.a 7 Ht) (.q (.a 8 (.lst .z)) Hs (.ret (.v 8))))))
noncomputable def Dg:Fn:=⟨1,12,K8⟩
noncomputable def Gu:Ex:=.comp true 1 (.name 10) (.val (.ix (.v 7) (.i 2))) (.ix (.ix (.v 8) (.i 2)) (.v 10))
noncomputable def Ca:o6:=.c (.a 4 (.tup .z)) (.q (.f (.cmp .eq (.ix (.v 7) (.i 1)) (.ix (.v 8) (.i 0))) (.o (.a 4 (.blt .tuple (.o Gu))))) (.a 9 (.tup (.q (.ix (.v 7) (.i 0)) (.ix (.v 8) (.i 1)) (.v 4)))) (.f (.and (.cmp .ne (.v 4) (.tup .z)) (.and (.cmp .T6 (.v 9) (.v 1)) (.or (.cmp .ne (.ix (.v 9) (.i 0)) (.ix (.v 9) (.i 1))) (.cmp .ne (.v 4) (.ae0 (.l (.v 4))))))) (.o (.expr (.bm .append (.v 1) (.o (.v 9)))))))
noncomputable def Gv:Bu:=.for_ (.names [7,8]) (.val (.Hd (.p (.tup (.p (.ix (.v 1) (.v 5)) (.ix (.v 1) (.v 6)))) (.tup (.p (.ix (.v 1) (.v 6)) (.ix (.v 1) (.v 5))))))) Ca
noncomputable def Gw:o6:=.o Gv
noncomputable def Gx:Bu:=.for_ (.name 6) (.O7 (.l (.v 1))) Gw
noncomputable def Ml:o6:=.p Gx (.a 5 (.bin .add (.v 5) (.i 1)))
noncomputable def Gy:Bu:=.whl (.and (.cmp .lt (.v 5) (.l (.v 1))) (.cmp .lt (.l (.v 1)) (.i 6))) Ml
noncomputable def zc:o6:=.o (.f (.and (.or (.cmp .ne (.v 2) (.v 3)) (.cmp .ne (.v 4) (.ae0 (.l (.v 4))))) (.cmp .T6 (.tup (.q (.v 2) (.v 3) (.v 4))) (.v 1))) (.o (.expr (.bm .append (.v 1) (.o (.tup (.q (.v 2) (.v 3) (.v 4))))))))
noncomputable def Gz:Bu:=.for_ (.names [2,3,4]) (.val (.v 0)) zc
noncomputable def P0:o6:=.c (.a 1 (.lst .z)) (.c Gz (.q (.a 5 (.i 0)) Gy (.ret (.v 1))))
noncomputable def Qa:Fn:=⟨1,10,P0⟩
noncomputable def Fw:Ex:=.comp true 3 (.names [8,9,10]) (.val (.v 2)) (.tup (.p (.v 8) (.v 9)))
noncomputable def Fy:Ex:=.comp true 1 (.name 8) (.val (.ix (.ix (.v 2) (.v 5)) (.i 2))) (.ix (.ix (.ix (.v 2) (.v 6)) (.i 2)) (.v 8))
noncomputable def Bb:o6:=.o (.f (.cmp .eq (.ix (.ix (.v 2) (.v 5)) (.i 1)) (.ix (.ix (.v 2) (.v 6)) (.i 0))) (.p (.a 7 (.tup (.q (.ix (.ix (.v 2) (.v 5)) (.i 0)) (.ix (.ix (.v 2) (.v 6)) (.i 1)) (.blt .tuple (.o Fy))))) (.asg (.sub (.v 4) (.tup (.p (.v 5) (.v 6)))) (.ite (.cmp .inn (.v 7) (.v 2)) (.bm .index (.v 2) (.o (.v 7))) (.neg (.i 1))))))
noncomputable def Ke:Bu:=.for_ (.name 6) (.O7 (.l (.v 2))) Bb
noncomputable def Fz:o6:=.o Ke
noncomputable def Ga:Bu:=.for_ (.name 5) (.O7 (.l (.v 2))) Fz
noncomputable def Gb:Ex:=.comp true 3 (.names [8,9,10]) (.val (.v 2)) (.blt .max (.p (.v 8) (.v 9)))
noncomputable def Kf:o6:=.p (.a 1 (.cut (.v 1) .none (.some (.neg (.i 1))))) (.a 2 (.call 16 (.o (.v 1))))
noncomputable def Gd:Bu:=.whl (.cmp .gt (.l (.v 2)) (.i 5)) Kf
noncomputable def Nv:o6:=.c (.a 1 (.call 15 (.o (.v 0)))) (.c (.a 2 (.call 16 (.o (.v 1)))) (.c Gd (.c (.a 3 (.bin .add (.i 1) (.blt .max (.o (.bin .add Gb (.Hd (.o (.i 0)))))))) (.c (.f (.cmp .eq (.v 2) (.Hd .z)) (.o (.a 3 (.bin .add (.i 1) (.call 14 (.p (.v 0) (.i 3))))))) (.q (.a 4 .ajb) Ga (.ret (.tup (.q (.v 3) (.blt .tuple (.o Fw)) (.v 4)))))))))
noncomputable def Nx:Fn:=⟨1,8,Nv⟩
noncomputable def Jm:Ex:=.Cr true 1 (.name 2) (.O7 (.l (.ix (.v 0) (.i 1)))) (.cmp .eq (.ix (.ix (.ix (.v 0) (.i 1)) (.v 2)) (.i 0)) (.v 1)) (.v 2)
noncomputable def Ub:o6:=.o (.ret (.bin .add (.Hd (.o (.neg (.i 1)))) Jm))
noncomputable def Uc:Fn:=⟨2,2,Ub⟩
noncomputable def Qq:o6:=.o (.ret (.ite (.cmp .lt (.v 2) (.i 0)) (.v 1) (.ix (.ix (.ix (.v 0) (.i 1)) (.v 2)) (.i 1))))
noncomputable def Qs:Fn:=⟨3,3,Qq⟩
noncomputable def Gj:o6:=.p (.f (.or (.cmp .lt (.v 1) (.i 0)) (.cmp .lt (.v 2) (.i 0))) (.o (.ret (.bin .add (.bin .add (.v 1) (.v 2)) (.i 1))))) (.ret (.ix (.ix (.v 0) (.i 2)) (.tup (.p (.v 1) (.v 2)))))
noncomputable def Gk:Fn:=⟨3,3,Gj⟩
noncomputable def K9:o6:=.o (.ret (.and (.call 22 (.p (.v 0) (.v 1))) (.and (.call 23 (.p (.v 0) (.v 1))) (.call 24 (.p (.v 0) (.v 1))))))
noncomputable def La:Fn:=⟨2,2,K9⟩
noncomputable def Jo:Ex:=.comp true 1 (.name 3) (.val (.v 2)) (.cmp .ge (.v 3) (.i 0))
noncomputable def Ny:o6:=.p (.a 2 (.ix (.v 1) (.i 0))) (.ret (.and (.cmp .eq (.l (.v 2)) (.meth (.v 0) 0 .z)) (.blt .all (.o Jo))))
noncomputable def Nz:Fn:=⟨2,3,Ny⟩
noncomputable def Lb:Ex:=.comp true 1 (.name 7) (.val (.v 5)) (.chain .le .lt (.i 0) (.v 7) (.ix (.v 2) (.ix (.v 6) (.i 1))))
noncomputable def El:o6:=.p (.f (.cmp .ne (.l (.v 5)) (.ix (.v 2) (.ix (.v 6) (.i 0)))) (.o (.ret (.cst (.bl false))))) (.f (.not (.blt .all (.o Lb))) (.o (.ret (.cst (.bl false)))))
noncomputable def Ld:Bu:=.for_ (.names [5,6]) (.zip (.v 3) (.v 4)) El
noncomputable def Lf:o6:=.c (.a 2 (.ix (.v 1) (.i 0))) (.c (.a 3 (.ix (.v 1) (.i 1))) (.c (.a 4 (.meth (.v 0) 1 .z)) (.q (.f (.cmp .ne (.l (.v 3)) (.l (.v 4))) (.o (.ret (.cst (.bl false))))) Ld (.ret (.cst (.bl true))))))
noncomputable def Lg:Fn:=⟨2,7,Lf⟩
noncomputable def Dn:o6:=.o (.f (.cmp .ne (.call 25 (.q (.v 1) (.v 6) (.v 3))) (.call 25 (.q (.v 1) (.v 5) (.v 4)))) (.o (.ret (.cst (.bl false)))))
noncomputable def G3:Bu:=.for_ (.names [5,6]) (.enm (.ix (.ix (.v 1) (.i 1)) (.v 2))) Dn
noncomputable def Dp:o6:=.p (.a 4 (.meth (.v 0) 2 (.p (.v 2) (.v 3)))) G3
noncomputable def G4:Bu:=.for_ (.names [2,3]) (.val (.call 7 (.o (.meth (.v 0) 1 .z)))) Dp
noncomputable def Jp:o6:=.p G4 (.ret (.cst (.bl true)))
noncomputable def Jq:Fn:=⟨2,7,Jp⟩
noncomputable def aml:o6:=.p (.f (.cmp .eq (.v 2) (.i (-1))) (.o (.ret (.v 1)))) (.ret (.ix (.ix (.ix (.v 0) (.i 1)) (.v 2)) (.v 1)))
noncomputable def amm:Fn:=⟨3,3,aml⟩
noncomputable def Mm:Ex:=.comp true 1 (.name 13) (.val (.ix (.v 1) (.v 6))) (.ite (.cmp .eq (.v 13) (.v 12)) (.v 11) (.v 13))
noncomputable def Cd:o6:=.c (.a 9 (.ix (.ix (.v 1) (.v 5)) (.v 8))) (.q (.a 10 (.ix (.ix (.v 1) (.v 6)) (.ix (.ix (.v 2) (.v 4)) (.v 8)))) (.f (.cmp .ne (.bm .get (.v 7) (.p (.v 9) (.v 10))) (.v 10)) (.c (.a 11 (.blt .min (.p (.ix (.v 7) (.v 9)) (.v 10)))) (.c (.a 12 (.blt .max (.p (.ix (.v 7) (.v 9)) (.v 10)))) (.c (.asg (.sub (.v 1) (.v 6)) Mm) (.q (.a 3 (.cst (.bl true))) (.a 7 .aez) .brk))))) (.asg (.sub (.v 7) (.v 9)) (.v 10)))
noncomputable def Mp:Bu:=.for_ (.name 8) (.O7 (.l (.ix (.v 1) (.v 5)))) Cd
noncomputable def Dq:o6:=.q (.asg (.tg (.names [5,6])) (.ix (.ix (.v 0) (.i 1)) (.v 4))) (.a 7 .aez) Mp
noncomputable def Mq:Bu:=.for_ (.name 4) (.O7 (.l (.ix (.v 0) (.i 1)))) Dq
noncomputable def G5:o6:=.p (.a 3 (.cst (.bl false))) Mq
noncomputable def G6:Bu:=.whl (.v 3) G5
noncomputable def Qc:o6:=.q (.a 3 (.cst (.bl true))) G6 (.ret (.v 1))
noncomputable def Qd:Fn:=⟨3,13,Qc⟩
noncomputable def Hu:Ex:=.comp true 1 (.name 19) (.val (.v 16)) (.l (.v 19))
noncomputable def Hv:Ex:=.comp true 1 (.name 19) (.val (.v 18)) (.bm .index (.ix (.v 16) (.v 12)) (.o (.v 19)))
noncomputable def Hw:Ex:=.comp true 1 (.name 19) (.val (.ix (.v 16) (.v 11))) (.ix (.ix (.v 13) (.v 12)) (.ix (.ix (.v 9) (.v 10)) (.v 19)))
noncomputable def Em:o6:=.q (.asg (.tg (.names [11,12])) (.ix (.ix (.v 1) (.i 1)) (.v 10))) (.a 18 Hw) (.expr (.bm .append (.v 17) (.o (.blt .tuple (.o Hv)))))
noncomputable def N5:Bu:=.for_ (.name 10) (.O7 (.l (.ix (.v 1) (.i 1)))) Em
noncomputable def Hx:Ex:=.comp true 1 (.name 19) (.val (.v 13)) (.blt .Gh (.o (.v 19)))
noncomputable def N6:Ex:=.comp true 1 (.name 19) (.val (.ix (.v 13) (.v 5))) (.ite (.cmp .eq (.v 19) (.v 15)) (.v 14) (.v 19))
noncomputable def Cv:o6:=.c (.a 5 (.call 14 (.p (.v 0) (.ix (.v 1) (.i 0))))) (.q (.a 11 (.call 14 (.p (.v 0) (.i 7)))) (.a 12 (.call 14 (.p (.v 0) (.i 7)))) (.f (.cmp .lt (.blt .max (.p (.v 11) (.v 12))) (.l (.ix (.v 13) (.v 5)))) (.c (.a 14 (.blt .min (.p (.ix (.ix (.v 13) (.v 5)) (.v 11)) (.ix (.ix (.v 13) (.v 5)) (.v 12))))) (.q (.a 15 (.blt .max (.p (.ix (.ix (.v 13) (.v 5)) (.v 11)) (.ix (.ix (.v 13) (.v 5)) (.v 12))))) (.asg (.sub (.v 13) (.v 5)) N6) (.a 13 (.call 26 (.q (.v 1) (.v 13) (.v 9))))))))
noncomputable def N7:Bu:=.for_ (.name 10) (.O7 (.call 14 (.p (.v 0) (.i 4)))) Cv
noncomputable def Hy:Ex:=.comp false 1 (.name 19) (.val (.v 3)) (.ae1 (.l (.v 19)))
noncomputable def Hz:Ex:=.comp true 3 (.names [19,20,21]) (.val (.ix (.v 3) (.v 11))) (.bm .index (.ix (.v 3) (.v 12)) (.o (.tup (.q (.v 19) (.v 20) (.call 20 (.q (.v 1) (.v 21) (.v 10)))))))
noncomputable def Ia:o6:=.p (.asg (.tg (.names [11,12])) (.ix (.ix (.v 1) (.i 1)) (.v 10))) (.expr (.bm .append (.v 9) (.o Hz)))
noncomputable def N8:Bu:=.for_ (.name 10) (.O7 (.l (.ix (.v 1) (.i 1)))) Ia
noncomputable def Ib:Ex:=.comp true 1 (.name 19) (.val (.v 3)) (.l (.v 19))
noncomputable def Eo:o6:=.o (.expr (.bm .append (.ix (.v 3) (.v 7)) (.o (.tup (.q (.v 4) (.v 5) (.v 8))))))
noncomputable def Oa:Bu:=.for_ (.names [7,8]) (.val (.v 6)) Eo
noncomputable def Ie:Ex:=.comp true 1 (.name 19) (.val (.call 18 (.p (.v 1) (.v 5)))) (.tup (.p (.call 19 (.q (.v 1) (.v 5) (.v 19))) (.v 19)))
noncomputable def Cw:o6:=.q (.a 5 (.call 14 (.p (.v 0) (.ix (.v 1) (.i 0))))) (.a 6 Ie) (.f (.cmp .lt (.bin .add (.blt .max (.o Ib)) (.l (.v 6))) (.i 8)) (.o Oa))
noncomputable def Ob:Bu:=.for_ (.name 4) (.O7 (.call 14 (.p (.v 0) (.bin .add (.v 2) (.i 1))))) Cw
noncomputable def Mr:Ex:=.comp true 1 (.name 19) (.O7 (.ix (.v 1) (.i 0))) (.lst .z)
noncomputable def Q9:o6:=.c (.a 3 Mr) (.c Ob (.c (.a 9 (.lst .z)) (.c N8 (.c (.a 13 Hy) (.c N7 (.c (.a 16 Hx) (.q (.a 17 (.lst .z)) N5 (.ret (.tup (.p (.blt .tuple (.o Hu)) (.blt .tuple (.o (.v 17)))))))))))))
noncomputable def Ra:Fn:=⟨3,19,Q9⟩
noncomputable def Qt:o6:=.o (.ret (.ite (.cmp .lt (.v 2) (.i 0)) (.v 1) (.ix (.ix (.ix (.v 0) (.i 1)) (.v 2)) (.v 1))))
noncomputable def Qu:Fn:=⟨3,3,Qt⟩
noncomputable def G7:Ex:=.Cr true 1 (.name 3) (.val (.v 0)) (.not (.chain .le .lt (.i 0) (.v 3) (.v 2))) (.v 3)
noncomputable def Jr:o6:=.o (.ret (.and (.cmp .eq (.l (.v 0)) (.v 1)) (.cmp .eq G7 (.Hd .z))))
noncomputable def Js:Fn:=⟨3,3,Jr⟩
noncomputable def Cj:o6:=.o (.f (.cmp .ne (.ix (.ix (.v 3) (.v 6)) (.ix (.ix (.v 3) (.v 5)) (.v 7))) (.call 28 (.q (.v 1) (.v 7) (.ix (.ix (.v 0) (.i 2)) (.tup (.p (.v 5) (.v 6))))))) (.o (.ret (.cst (.bl false)))))
noncomputable def Ep:Bu:=.for_ (.name 7) (.O7 (.ix (.v 2) (.ix (.ix (.ix (.v 0) (.i 1)) (.v 5)) (.i 0)))) Cj
noncomputable def Cm:o6:=.o Ep
noncomputable def Je:Bu:=.for_ (.names [5,6]) (.keys (.ix (.v 0) (.i 2))) Cm
noncomputable def Cq:o6:=.p (.asg (.tg (.names [5,6])) (.ix (.ix (.v 0) (.i 1)) (.v 4))) (.f (.not (.call 29 (.q (.ix (.v 3) (.v 4)) (.ix (.v 2) (.v 5)) (.ix (.v 2) (.v 6))))) (.o (.ret (.cst (.bl false)))))
noncomputable def Er:Bu:=.for_ (.name 4) (.O7 (.l (.ix (.v 0) (.i 1)))) Cq
noncomputable def Es:Ex:=.Cr true 1 (.name 8) (.val (.v 2)) (.cmp .lt (.v 8) (.i 0)) (.v 8)
noncomputable def Al:o6:=.c (.asg (.tg (.names [2,3])) (.v 1)) (.c (.f (.or (.cmp .ne (.l (.v 2)) (.ix (.v 0) (.i 0))) (.or (.cmp .ne (.l (.v 3)) (.l (.ix (.v 0) (.i 1)))) (.cmp .ne Es (.Hd .z)))) (.o (.ret (.cst (.bl false))))) (.q Er Je (.ret (.cst (.bl true)))))
noncomputable def Am:Fn:=⟨2,8,Al⟩
noncomputable def Bf:o6:=.c (.a 3 (.call 14 (.p (.v 0) (.blt .max (.p (.i 1) (.l (.v 1))))))) (.c (.a 4 (.call 14 (.p (.v 0) (.i 5)))) (.c (.f (.cmp .eq (.v 4) (.i 0)) (.o (.ret (.bin .add (.v 1) (.tup (.o (.i 0))))))) (.q (.f (.or (.cmp .eq (.v 1) (.tup .z)) (.cmp .eq (.v 4) (.i 1))) (.o (.ret (.cut (.v 1) (.some (.i 1)) .none)))) (.a 5 (.ix (.Hd (.q (.v 2) (.neg (.i 1)) (.call 14 (.p (.v 0) (.blt .max (.p (.i 1) (.v 2))))))) (.bin .sub (.v 4) (.i 2)))) (.ret (.bin .add (.bin .add (.cut (.v 1) .none (.some (.v 3))) (.tup (.o (.v 5)))) (.cut (.v 1) (.some (.bin .add (.v 3) (.i 1))) .none))))))
noncomputable def Bg:Fn:=⟨3,6,Bf⟩
noncomputable def zr:Bu:=.f (.and (.cmp .gt (.v 4) (.i 4)) (.and (.cmp .ne (.v 3) (.tup .z)) (.and (.cmp .le (.l (.v 3)) (.l (.ix (.v 1) (.i 1)))) (.cmp .lt (.ix (.ix (.ix (.v 1) (.i 1)) (.v 5)) (.i 1)) (.l (.v 2)))))) (.p (.a 7 (.call 31 (.q (.v 0) (.ix (.v 3) (.v 5)) (.ix (.v 2) (.ix (.ix (.ix (.v 1) (.i 1)) (.v 5)) (.i 1)))))) (.a 3 (.bin .add (.bin .add (.cut (.v 3) .none (.some (.v 5))) (.tup (.o (.v 7)))) (.cut (.v 3) (.some (.bin .add (.v 5) (.i 1))) .none))))
noncomputable def zu:Bu:=.f (.and (.cmp .eq (.v 4) (.i 4)) (.cmp .gt (.l (.v 3)) (.i 1))) (.o (.a 3 (.bin .add (.cut (.v 3) (.some (.i 1)) .none) (.cut (.v 3) .none (.some (.i 1))))))
noncomputable def zx:Bu:=.f (.cmp .eq (.v 4) (.i 3)) (.o (.a 3 (.bin .add (.v 3) (.tup (.o (.tup .z))))))
noncomputable def zy:Bu:=.f (.cmp .eq (.v 4) (.i 2)) (.o (.a 3 (.bin .add (.cut (.v 3) .none (.some (.v 5))) (.cut (.v 3) (.some (.bin .add (.v 5) (.i 1))) .none))))
noncomputable def Bv:Bu:=.f (.cmp .eq (.v 4) (.i 1)) (.o (.a 2 (.ix (.Hd (.p (.bin .add (.v 2) (.tup (.o (.i 1)))) (.cut (.v 2) (.some (.i 1)) .none))) (.call 14 (.p (.v 0) (.i 2))))))
noncomputable def Bw:Bu:=.f (.and (.cmp .eq (.v 4) (.i 0)) (.cmp .ne (.v 2) (.tup .z))) (.p (.a 6 (.ix (.Hd (.q (.bin .add (.ix (.v 2) (.v 5)) (.i 1)) (.bin .sub (.ix (.v 2) (.v 5)) (.i 1)) (.neg (.i 1)))) (.call 14 (.p (.v 0) (.i 3))))) (.a 2 (.bin .add (.bin .add (.cut (.v 2) .none (.some (.v 5))) (.tup (.o (.v 6)))) (.cut (.v 2) (.some (.bin .add (.v 5) (.i 1))) .none))))
noncomputable def Ig:o6:=.c (.a 4 (.call 14 (.p (.v 0) (.i 8)))) (.c (.a 5 (.call 14 (.p (.v 0) (.blt .max (.p (.i 1) (.l (.v 2))))))) (.c Bw (.c Bv (.c (.a 5 (.call 14 (.p (.v 0) (.blt .max (.p (.i 1) (.l (.v 3))))))) (.c zy (.c zx (.q zu zr (.ret (.tup (.p (.v 2) (.v 3)))))))))))
noncomputable def Oc:Fn:=⟨4,8,Ig⟩
noncomputable def Z7:o6:=.q (.a 5 (.call 32 (.c (.v 2) (.q (.v 3) (.ix (.v 5) (.i 0)) (.ix (.v 5) (.i 1)))))) (.a 7 (.call 21 (.p (.v 4) (.v 5)))) (.f (.or (.not (.blt .isBool (.o (.v 7)))) (.cmp .ne (.v 7) (.call 30 (.p (.v 3) (.v 5))))) (.o (.ret (.cst (.bl false)))))
noncomputable def ag0:Bu:=.for_ (.name 6) (.O7 (.call 14 (.p (.v 2) (.i 3)))) Z7
noncomputable def Z8:o6:=.c (.a 2 (.call 13 (.p (.v 0) (.v 1)))) (.c (.a 3 (.call 17 (.o (.v 2)))) (.c (.a 4 (.make 2 (.q (.ix (.v 3) (.i 0)) (.ix (.v 3) (.i 1)) (.ix (.v 3) (.i 2))))) (.q (.a 5 (.call 27 (.q (.v 2) (.v 3) (.i 3)))) (.f (.cmp .Yg (.call 21 (.p (.v 4) (.v 5))) (.cst (.bl true))) (.o (.ret (.cst (.bl false))))) ag0)))
noncomputable def ag1:Bu:=.for_ (.name 1) (.O7 (.i 2)) Z8
noncomputable def awm:o6:=.p ag1 (.ret (.cst (.bl true)))
noncomputable def amn:Fn:=⟨1,8,awm⟩
noncomputable def prog:Prog:=⟨[J5,Mg,J7,J9,V1,Xr,Jb,Mi,Fq,Np,Pz,Nr,Hq,K7,Nu,Dg,Qa,Nx,Uc,Qs,Gk,La,Nz,Lg,Jq,amm,Qd,Ra,Qu,Js,Am,Bg,Oc,amn],[⟨0,[]⟩,⟨0,[]⟩,⟨0,[(0,1),(1,2),(2,3),(3,4),(4,5)]⟩]⟩
set_option genInjectivity true in
structure F where
 a:Nat
 b:Nat
 r:List Nat
 deriving DecidableEq
noncomputable def nD(x:Nat):D:=.int (x:Int)
noncomputable def Ez(r:Y3):D:=.tup (r.map nD)
noncomputable def F.toD(f:F):D:=.tup [.int f.a,.int f.b,Ez f.r]
def ag2(x y:Nat):decide ((x:Int)=(y:Int))=decide (x=y):=by
 by_cases h:x=y
 . simp[h]
 . have:¬((x:Int)=(y:Int)):=by lia
   simp[h,this]
def Lh(M:cz)(n x y:Nat):Mw M (n+1) (.int x) (.int y)=some (decide (x=y)):=by rw[agw,ag2]
theorem Z9(M:cz)(n:Nat):∀r s:List Nat,Sg (Mw M (n+1)) (r.map nD) (s.map nD)=some (decide (r=s))
 |[],[]=>by simp[Sg]|[],_::_=>by simp[Sg]|_::_,[]=>by simp[Sg]
 |x::r,y::s=>by
  rw[iu,iu,Ei (a:=nD x) (b:=nD y) (Lh M n x y) (Z9 M n r s)]
  by_cases h:x=y<;>simp[h]
def ae9(M:cz)(r s:Y3):wz M (Ez r) (Ez s)=some (decide (r=s)):=Z9 M 4 r s
def bb9(M:cz)(f g:F):wz M f.toD g.toD=some (decide (f=g)):=by obtain⟨a,b,r⟩:=f;obtain⟨c,d,s⟩:=g;have e:Mw M 5 (Ez r) (Ez s)=some (decide (r=s)):=Z9 M 3 r s;show Sg (Mw M 5) [.int a,.int b,Ez r] [.int c,.int d,Ez s]=_;rw[Ei (Lh M 4 a c) (Ei (Lh M 4 b d) (Ei e (show Sg (Mw M 5) [] []=some true from rfl)))];simp
theorem amo(M:cz)(g:F):∀fs:List F,Qm M g.toD (fs.map F.toD)=some (fs.map λf=>decide (f=g))
 |[]=>rfl|f::fs=>by simp only[iu,Qm,bb9,amo M g fs]
def amq(M:cz)(g:F)(fs:List F):memD M g.toD (fs.map F.toD)=some (decide (g∈fs)):=by
 rw[memD,amo,vy]
 congr 1
 induction fs with
 |nil=>simp
 |cons f fs ih =>
  by_cases h:f=g
  . simp[h]
  . simp only[iu,List.any_cons,ih,bz,id]
    simp[h,j0 h]
noncomputable def pos(g:F):List F->Nat
 |[]=>0|f::fs=>if f=g then 0 else pos g fs+1
def a4z(M:cz)(g:F)(fs:List F):Xn M g.toD (fs.map F.toD)=if g∈fs then some (pos g fs) else none:=by
 rw[Xn,amo,uh]
 induction fs with
 |nil=>simp
 |cons f fs ih =>
  rw[iu,List.findIdx?_cons,ih,pos]
  by_cases h:f=g
  . simp[h]
  . by_cases h2:g∈fs<;>simp[h,j0 h,h2]
theorem aaa(g:F):∀{fs:List F},g∈fs->fs[pos g fs]?=some g
 |f::fs,h=>by
  by_cases e:f=g
  . simp[pos,e]
  . have:g∈fs:=by
     rcases bz.mp h with q|q
     . exact absurd q.symm e
     . exact q
    simp[pos,e,aaa g this]
def afa(nd:fs.Nodup)(h:fs[i]?=some f):pos f fs=i:=by have m:f∈fs:=au h;have g:=aaa f m;obtain⟨l1,e1⟩:=ao.mp h;obtain⟨l2,e2⟩:=ao.mp g;exact(Aq nd).mp (e2.trans e1.symm)
noncomputable def F.comp(f g:F):F:=⟨f.a,g.b,f.r.map λx=>g.r.getD x 0⟩
noncomputable def F.Pu(f:F):Prop:=f.a=f.b/\f.r=List.range f.r.length
instance (f:F):Decidable f.Pu:=inferInstanceAs (Decidable (_/\_))
structure Xg(sz:Nat->Nat)(f:F):Prop where
 a:f.a<3
 b:f.b<3
 len:f.r.length=sz f.a
 ran:∀x∈f.r,x<sz f.b
noncomputable def Sz(sz:Nat->Nat):Prop:=∀k,1<=sz k/\sz k<=4
noncomputable def Good(sz:Nat->Nat)(fs:List F):Prop:=∀f∈fs,Xg sz f
def getD_mem{r:Y3}(h:x<r.length):r.getD x 0∈r:=by rw[cj,bc h];exact lq h
theorem Xg.comp(hf:Xg sz f)(hg:Xg sz g)(h:f.b=g.a):Xg sz (f.comp g):=by
 refine⟨hf.a,hg.b,by simp[F.comp,hf.len],λx hx=>?_⟩;obtain⟨y,hy,rfl⟩:=bf.mp hx;have:y<g.r.length:=by rw[hg.len,<- h];exact hf.ran y hy
 exact hg.ran _ (getD_mem this)
def aca(r:Y3):(List.range r.length).map (λx=>r.getD x 0)=r:=by
 apply List.ext_getElem?;intro i
 by_cases h:i<r.length
 . simp[h,yp h]
 . simp[Nat.le_of_not_lt h,rz]
def afb(hf:Xg sz f)(hg:Xg sz g)(e1:f.b=g.a):(f.comp g).comp h=f.comp (g.comp h):=by
 simp only[F.comp,o7,F.mk.injEq,true_and];apply j8;intro x hx;have:x<g.r.length:=by rw[hg.len,<- e1];exact hf.ran x hx
 simp[this]
noncomputable def idF(sz:Nat->Nat)(k:Nat):F:=⟨k,k,List.range (sz k)⟩
def aab(hf:Xg sz f)(h:f.Pu):f=idF sz f.a:=by obtain⟨a,b,r⟩:=f;obtain⟨h1,h2⟩:=h;have:=hf.len;simp only[idF] at *;subst h1;rw[<- this,<- h2]
def id_comp(hf:Xg sz f):(idF sz f.a).comp f=f:=by obtain⟨a,b,r⟩:=f;have:=hf.len;simp only[idF,F.comp] at *;rw[<- this,aca]
def comp_id(hf:Xg sz f):f.comp (idF sz f.b)=f:=by
 obtain⟨a,b,r⟩:=f;have:=hf.ran;simp only[idF,F.comp,F.mk.injEq,true_and] at *
 conv=>rhs;rw[<- Bd r]
 apply j8;intro x hx;simp[yp (this x hx)]
noncomputable def Od(fs:List F):Prop:=∀f∈fs,∀g∈fs,f.b=g.a->f.comp g∈fs\/(f.comp g).Pu
def call_of(hm:1<=m)(hf:prog.fns[f]?=some Fx):prog.call m f ds M=Fx.run ⟨prog.call (m-1),prog.cls⟩ ds M:=by obtain⟨n,rfl⟩:∃n,m=n+1:=⟨m-1,by lia⟩;simp[Prog.call,hf]
noncomputable def ax8(n:Int)(f:Bool):Prop:=0<=n/\(f=false->n<2147483647)
noncomputable def Rb(t:Nat)(f:Bool)(M:cz):Prop:=∃n,M[t]?=some (.lst [.int n,.bl f])/\ax8 n f
structure St(t:Nat)(f:Bool)(M M':cz):Prop where
 len:M.length<=M'.length
 has:Rb t f M'
 keep:∀(a:Nat)(o:MO),a≠t->M[a]?=some o->M'[a]?=some o
def St.trans(a:St t f M M1)(b:St t f M1 M2):St t f M M2 :=
 ⟨gm a.len b.len,b.has,λx o n h=>b.keep x o n (a.keep x o n h)⟩
def St.of(h:Rb t f M)(k:Be M M'):St t f M M' :=
 ⟨k.len,let ⟨n,a,b⟩:=h;⟨n,k _ _ a,b⟩,λa o _ e=>k a o e⟩
def yt(hm:1<=m)(hs:Rb t f M)(hp:0<many)(hq:many<1073741824) :
 ∃(v:Nat)(M':cz),prog.call m 14 [.ref t,.int many] M=.ok (.int v) M'/\(v:Int)<many/\St t f M M'/\M'.length=M.length:=by
 obtain⟨n,h,hn⟩:=hs;rw[call_of hm rfl];have hl:=p8 h;have g0:=De hl (i:=0) (by decide) rfl;have g1:=De hl (i:=1) (by decide) rfl;have fin:∀n':Int,ax8 n' f->St t f M (M.set t (.lst [.int n',.bl f])):=λn' o=>⟨by simp,⟨n',v8 h,o⟩,λa u e q=>by rw[uq (j0 e)];exact q⟩
 have hm0:many≠0:=by lia
 have c1:∀y:Int,∃v:Nat,y%many=(v:Int)/\(v:Int)<many:=λy=>by have a:=Bc y hm0;have b:=zj y hp;exact⟨(y%many).toNat,by lia,by lia⟩
 cases f with
 |true =>
  obtain⟨v,e,l⟩:=c1 n;refine⟨v,_,?_,l,fin (n / many) ⟨Int.ediv_nonneg hn.1 (by lia),by simp⟩,by simp⟩;simp[Fn.run,Nu,Nt,g0,g1,hp,Yj _ _ hp hq,Z3 h,e]
 |false =>
  have h1:=hn.1;have h2:=hn.2 rfl;obtain⟨n',en⟩:∃n',(n*48271+29)%2147483647=n':=⟨_,rfl⟩;have e1:0<=n':=en▸Bc _ (by decide)
  have e2:n'<2147483647:=en▸zj _ (by decide)
  obtain⟨x,ex⟩:∃x,(n'*n'+39373*n'+7)%2147483629=x:=⟨_,rfl⟩;have x1:0<=x:=ex▸Bc _ (by decide)
  have x2:x<2147483629:=ex▸zj _ (by decide)
  obtain⟨y,ey⟩:∃y,(x*x+16807*x)%2147483587=y:=⟨_,rfl⟩;obtain⟨v,e,l⟩:=c1 (y / 8);refine⟨v,_,?_,l,fin n' ⟨e1,λ_=>e2⟩,by simp⟩;have k:=v8 (o:=.lst [.int n',.bl false]) h;have k0:=De (p8 k) (i:=0) (by decide) rfl;simp[Fn.run,Nu,Nt,g0,g1,hp,Z3 h,Nj n 48271 (.inr (by decide)),en,k0,Nj n' n' (.inl (by lia)),Nj 39373 n' (.inl (by decide)),ex,Nj x x (.inl (by lia)),Nj 16807 x (.inl (by decide)),ey,Yj _ 8 (by decide) (by decide),e]
def ag3{k:Nat}{ns:Xs}(hm:1<=m):prog.call m 12 [.fz (ns.map D.int),.int k] M=.ok (.int (ns.getD k 0)) M:=by
 rw[call_of hm rfl]
 by_cases hk:k<ns.length
 . simp[Fn.run,Hq,Ho,ami,hk,a4w (ds:=ns.map D.int) (i:=k) (x:=.int (ns.getD k 0)) q_ (by simp[hk])]
 . simp[Fn.run,Hq,Ho,ami,hk]
def amr{k:Nat}{ns:Xs}(hm:2<=m):∃n f,prog.call m 13 [.fz (ns.map D.int),.int k] M=.ok (.ref M.length) (M++[.lst [.int n,.bl f]])/\ax8 n f:=by
 rw[call_of (a_ (by decide) hm) rfl]
 by_cases h:(10:Int) ^ 18<=ns.getD k 0
 . refine⟨ns.getD k 0-10 ^ 18,true,?_,by lia,by simp⟩
   have h':(1000000000000000000:Int)<=ns[k]?.getD 0:=by simpa using h
   simp[Fn.run,K7,K6,ag3 (show 1<=m-1 by exact r_ hm),h',MW.new]
 . refine⟨ns.getD k 0%2147483647,false,?_,Bc _ (by decide),λ_=>zj _ (by decide)⟩
   have h':¬(1000000000000000000:Int)<=ns[k]?.getD 0:=by simpa using h
   simp[Fn.run,K7,K6,ag3 (show 1<=m-1 by exact r_ hm),h',MW.new]
def ag4(n:Nat)(i:Nat)(M:cz)(h:i<n):(Src.con ((List.range n).map λ(k:Nat)=>D.int (k:Int))).item i M=some (.int i):=by simp[Src.item,yp h]
def ag5(n:Nat):(Src.con ((List.range n).map λ(k:Nat)=>D.int (k:Int))).len=n:=by simp[Src.len]
def ams{K:Nat}(hm:1<=m)(hs:Rb t f M)(hK:K<=3) :
 ∃(Jt:Y3)(M':cz),Ht.den ⟨prog.call m,prog.cls⟩ [D.ref t,a1,a2,a3,a4,a5,D.int K,a7,a8,a9,a10,a11] M=.ok (.vl (Jt.map nD)) M'/\Jt.length=K/\(∀x∈Jt,1<=x/\x<=3)/\St t f M M'/\M'.length=M.length:=by
 unfold Ht;rw[Ni];have hK':K<=100000:=a_ hK (by decide)
 simp[hK'];have h:=J1 (fin:=λ_=>true) (item:=(Src.con ((List.range K).map λ(k:Nat)=>D.int (k:Int))).item)
  (body:=λd M=>((prog.call m 14 [D.ref t,D.int 3] M).bind λy M2=>Dm .add (.int 1) y M2).bind λx M'=>Res.ok (some x) M')
  (λi xs M'=>∃Jt:List Nat,xs=Jt.map nD/\Jt.length=i/\(∀x∈Jt,1<=x/\x<=3)/\St t f M M'/\M'.length=M.length) (n:=K)
  (λi xs M' hi hI=>by
   obtain⟨Jt,rfl,rfl,h1,h2,h3⟩:=hI;obtain⟨v,M2,e,l,s2,l2⟩:=yt hm h2.has (many:=3) (by decide) (by decide);refine⟨.int Jt.length,some (.int (1+v)),M2,ag4 K _ M' hi,by simp[e],Jt++[1+v],by simp[nD],by simp,λx hx=>?_,h2.trans s2,l2.trans h3⟩;rcases dm.mp hx with q|q
   . exact h1 x q
   . have:x=1+v:=by simpa using q
     lia) (λ_ _ _=>rfl) K 0 [] M (u9 _) ⟨[],rfl,rfl,by simp,St.of hs (Be.refl M),rfl⟩
 obtain⟨ys,M',e,Jt,h1,h2,h3,h4,h5⟩:=h;refine⟨Jt,M',?_,h2,h3,h4,h5⟩;rw[Av,ag5,dh hK',show(Src.con ((List.range _).map λ(k:Nat)=>D.int (k:Int))).fin=λ_=>true from rfl,e];simp at h1;simp[h1]
def ax9{Jt:Y3}(hm:1<=m)(hs:Rb t f M)(h3:∀x∈Jt,1<=x/\x<=3)(hi:i<Jt.length)(hj:j<Jt.length) :
 ∃(r:Y3)(M':cz),Hr.den ⟨prog.call m,prog.cls⟩ [D.ref t,a1,a2,a3,a4,a5,a6,D.vl (Jt.map nD),a8,a9,D.int i,D.int j] M=.ok (.vl (r.map nD)) M' /\
  r.length=Jt.getD i 0/\(∀x∈r,x<Jt.getD j 0)/\St t f M M'/\M'.length=M.length:=by
 unfold Hr;rw[Ni];have gi:=De (M:=M) (d:=.vl (Jt.map nD)) (i:=i) (x:=.int ((Jt.getD i 0:Nat):Int)) rfl q_ (by simp[hi,nD]);have gj:∀M',zb (.vl (Jt.map nD)) (.int j) M'=some (.int ((Jt.getD j 0:Nat):Int)):=λM'=>De rfl q_ (by simp[hj,nD])
 have bi:=h3 _ (getD_mem hi);have bj:=h3 _ (getD_mem hj);generalize ea:Jt.getD i 0=a at *;generalize eb:Jt.getD j 0=b at *;have ha:a<=100000:=a_ bi.2 (by decide)
 simp[gi,gj,ha];have h:=J1 (fin:=λ_=>true) (item:=(Src.con ((List.range a).map λ(k:Nat)=>D.int (k:Int))).item)
  (body:=λd M=>(prog.call m 14 [D.ref t,D.int b] M).bind λx M'=>Res.ok (some x) M')
  (λi xs M'=>∃r:List Nat,xs=r.map nD/\r.length=i/\(∀x∈r,x<b)/\St t f M M'/\M'.length=M.length) (n:=a)
  (λi xs M' hi hI=>by
   obtain⟨r,rfl,rfl,h1,h2,h3⟩:=hI;obtain⟨v,M2,e,l,s2,l2⟩:=yt hm h2.has (many:=b) (m_ bj.1) (m_ (c_ bj.2 (by decide)));refine⟨.int r.length,some (.int v),M2,ag4 a _ M' hi,by simp[e],r++[v],by simp[nD],by simp,λx hx=>?_,h2.trans s2,l2.trans h3⟩;rcases dm.mp hx with q|q
   . exact h1 x q
   . have:x=v:=by simpa using q
     exact c_ (f_ this) (o_ l)) (λ_ _ _=>rfl) a 0 [] M (u9 _) ⟨[],rfl,rfl,by simp,St.of hs (Be.refl M),rfl⟩
 obtain⟨ys,M',e,r,h1,h2,h3,h4,h5⟩:=h;refine⟨r,M',?_,h2,h3,h4,h5⟩;rw[Av,ag5,dh ha,show(Src.con ((List.range _).map λ(k:Nat)=>D.int (k:Int))).fin=λ_=>true from rfl,e];simp at h1;simp[h1]
def aac{v:Nat}{Jt:Y3}(hm:1<=m)(hs:Rb t f M)(hK:Jt.length=K)(hK1:1<=K)(hK3:K<=3)(h3:∀x∈Jt,1<=x/\x<=3)(hp:M[p]?=some (.lst []))(hpt:p≠t) :
 ∃(fs:List F)(ρ':Env)(M':cz),Hs.den ⟨prog.call m,prog.cls⟩ [D.ref t,D.int v,none,none,none,none,D.int K,D.vl (Jt.map nD),D.ref p,a9,a10,a11] M=.ok (.next,ρ') M' /\
  ρ'[8]?=some (some (.ref p))/\M'[p]?=some (.lst (fs.map F.toD))/\fs.length<=3/\Good (λk=>Jt.getD k 1) fs/\M.length<=M'.length/\Rb t f M'/\(∀(a:Nat)(o:MO),a≠t->a≠p->M[a]?=some o->M'[a]?=some o):=by
 obtain⟨w,M1,e1,l1,s1,ll1⟩:=yt hm hs (many:=4) (by decide) (by decide);unfold Hs;rw[S8];have hw:w<=100000:=e_ (b_ (o_ l1) (by decide))
 simp[e1,hw];obtain⟨ρ',M',e,fs,b9,b10,Qe,rfl,h1,h2,h4,h5,h6,h7⟩:=Z5 (n:=w) (body:=λd ρ M=>Ek.den ⟨prog.call m,prog.cls⟩ (ρ.set 9 (some d)) M)
  (λi ρ M'=>∃(fs:List F)(b9 b10 Qe:Option D),ρ=[some (.ref t),some (.int v),none,none,none,none,some (.int K),some (.vl (Jt.map nD)),some (.ref p),b9,b10,Qe] /\
   M'[p]?=some (.lst (fs.map F.toD))/\fs.length=i/\Good (λk=>Jt.getD k 1) fs/\M.length<=M'.length/\Rb t f M'/\(∀(a:Nat)(o:MO),a≠t->a≠p->M[a]?=some o->M'[a]?=some o))
  (M:=M1) ⟨[],a9,a10,a11,rfl,by simpa using s1.keep p _ hpt hp,rfl,by intro f hf;simp at hf,s1.len,s1.has,λa o na _ h=>s1.keep a o na h⟩
  (λi ρ M2 hi hI=>by
   obtain⟨fs,b9,b10,Qe,rfl,g1,g2,g3,g4,g5,g6⟩:=hI;obtain⟨x,M3,ex,lx,sx,llx⟩:=yt hm g5 (many:=K) (m_ hK1) (m_ (c_ hK3 (by decide)));obtain⟨y,M4,ey,ly,sy,lly⟩:=yt hm sx.has (many:=K) (m_ hK1) (m_ (c_ hK3 (by decide)));obtain⟨r,M5,er,lr,rr,sr,llr⟩:=ax9 (a1:=some (.int v)) (a2:=none) (a3:=none) (a4:=none) (a5:=none) (a6:=some (.int K)) (a8:=some (.ref p)) (a9:=some (.int i)) (i:=x) (j:=y) hm sy.has h3 (b_ (o_ lx) (g_ hK)) (b_ (o_ ly) (g_ hK));have gp:=sr.keep p _ hpt (sy.keep p _ hpt (sx.keep p _ hpt g1));have hl:(fs.map F.toD).length<100000:=by rw[dw];exact c_ (f_ g2) (b_ hi hw)
   refine⟨.next,_,M5.set p (.lst (fs.map F.toD++[F.toD ⟨x,y,r⟩])),?_,.inl rfl,fs++[⟨x,y,r⟩],some (.int i),some (.int x),some (.int y),rfl,?_,by simp[g2],?_,?_,?_,?_⟩
   . simp[Ek,ex,ey,er,K3 gp hl,K1 (sy.keep p _ hpt (sx.keep p _ hpt g1)),qx,F.toD,Ez]
   . rw[v8 gp];simp
   . intro f hf
     rcases dm.mp hf with q|q
     . exact g3 f q
     . have:f=⟨x,y,r⟩:=by simpa using q
       subst this;refine⟨by show x<3;exact b_ (o_ lx) hK3,by show y<3;exact b_ (o_ ly) hK3,?_,?_⟩
       . show r.length=Jt.getD x 1
         rw[lr];simp[cj,bc (show x<Jt.length by exact b_ (o_ lx) (g_ hK))]
       . intro z hz
         have:=rr z hz;show z<Jt.getD y 1
         simp[cj,bc (show y<Jt.length by exact b_ (o_ ly) (g_ hK))] at this ⊢;exact this
   . have:=sr.len;have:=sy.len;have:=sx.len;simp;exact a_ g4 (a_ (g_ llx) (a_ (g_ lly) (g_ llr)))
   . obtain⟨n',q1,q2⟩:=sr.has
     exact⟨n',by rw[uq hpt];exact q1,q2⟩
   . intro a o na nb h
     rw[uq (j0 nb)];exact sr.keep a o na (sy.keep a o na (sx.keep a o na (g6 a o na nb h))))
 have e':Bx (Src.con ((List.range w).map λ(k:Nat)=>D.int (k:Int))).fin (Src.con ((List.range w).map λ(k:Nat)=>D.int (k:Int))).item (λd ρ M=>Ek.den ⟨prog.call m,prog.cls⟩ (ρ.set 9 (some d)) M) (Src.con ((List.range w).map λ(k:Nat)=>D.int (k:Int))).len 0 [some (.ref t),some (.int v),none,none,none,none,some (.int K),some (.vl (Jt.map nD)),some (.ref p),a9,a10,a11] M1=_:=e;exact⟨fs,[some (.ref t),some (.int v),none,none,none,none,some (.int K),some (.vl (Jt.map nD)),some (.ref p),b9,b10,Qe],M',e',rfl,h1,by lia,h4,h5,h6,h7⟩
def amt(hm:2<=m)(hs:Rb t f M):∃(d:D)(M':cz)(fs:List F)(sz:Nat->Nat),prog.call m 15 [.ref t] M=.ok d M'/\gf M' d=some (fs.map F.toD)/\(∀n,d=.ref n->n≠t)/\Sz sz/\Good sz fs/\fs.length<=3/\St t f M M':=by
 have hm1:1<=m-1:=r_ hm
 obtain⟨v,M1,e1,l1,s1,ll1⟩:=yt hm1 hs (many:=12) (by decide) (by decide);rw[call_of (a_ hm1 C_) rfl]
 by_cases hv:v<7
 . have hv':(v:Int)<7:=m_ hv
   have key:∀(fs:List F)(sz:Nat->Nat),Dg.run ⟨prog.call (m-1),prog.cls⟩ [.ref t] M=.ok (.vl (fs.map F.toD)) M1->Sz sz->Good sz fs->fs.length<=3 ->
    ∃(d:D)(M':cz)(fs:List F)(sz:Nat->Nat),Dg.run ⟨prog.call (m-1),prog.cls⟩ [.ref t] M=.ok d M'/\gf M' d=some (fs.map F.toD)/\(∀n,d=.ref n->n≠t)/\Sz sz/\Good sz fs/\fs.length<=3/\St t f M M' :=
    λfs sz a b c d=>⟨_,M1,fs,sz,a,rfl,λn h=>(by cases h),b,c,d,s1⟩
   have run:∀d,zb (.vl [.vl [.tup [.int 0,.int 1,.tup [.int 0,.int 1]],.tup [.int 0,.int 1,.tup [.int 1,.int 0]]],.vl [.tup [.int 0,.int 1,.tup [.int 0,.int 0,.int 1,.int 1]],.tup [.int 0,.int 1,.tup [.int 0,.int 1,.int 0,.int 1]],.tup [.int 1,.int 0,.tup [.int 0,.int 3]]],
    .vl [.tup [.int 0,.int 0,.tup [.int 1,.int 0]]],.vl [.tup [.int 0,.int 0,.tup [.int 1,.int 2,.int 0]]],.vl [.tup [.int 0,.int 0,.tup [.int 0,.int 0]]],.vl [],.vl [.tup [.int 0,.int 1,.tup [.int 0,.int 1]],.tup [.int 1,.int 2,.tup [.int 0,.int 0,.int 1]]]]) (.int v) M1=some d ->
    Dg.run ⟨prog.call (m-1),prog.cls⟩ [.ref t] M=.ok d M1:=λd hd=>by simp[Fn.run,Dg,K8,e1,hv',hd]
   have cs:v=0\/v=1\/v=2\/v=3\/v=4\/v=5\/v=6:=by lia
   rcases cs with rfl|rfl|rfl|rfl|rfl|rfl|rfl
   . refine key [⟨0,1,[0,1]⟩,⟨0,1,[1,0]⟩] (λ_=>2) ?_ (λk=>by simp) (λf hf=>?_) (by decide)
     . exact run _ rfl
     . simp at hf;rcases hf with rfl|rfl<;>exact⟨by decide,by decide,by decide,by decide⟩
   . refine key [⟨0,1,[0,0,1,1]⟩,⟨0,1,[0,1,0,1]⟩,⟨1,0,[0,3]⟩] (λk=>if k=0 then 4 else 2) ?_ (λk=>by dsimp only;split<;>omega) (λf hf=>?_) (by decide)
     . exact run _ rfl
     . simp at hf;rcases hf with rfl|rfl|rfl<;>exact⟨by decide,by decide,by decide,by decide⟩
   . refine key [⟨0,0,[1,0]⟩] (λ_=>2) ?_ (λk=>by simp) (λf hf=>?_) (by decide)
     . exact run _ rfl
     . simp at hf;subst hf;exact⟨by decide,by decide,by decide,by decide⟩
   . refine key [⟨0,0,[1,2,0]⟩] (λ_=>3) ?_ (λk=>by simp) (λf hf=>?_) (by decide)
     . exact run _ rfl
     . simp at hf;subst hf;exact⟨by decide,by decide,by decide,by decide⟩
   . refine key [⟨0,0,[0,0]⟩] (λ_=>2) ?_ (λk=>by simp) (λf hf=>?_) (by decide)
     . exact run _ rfl
     . simp at hf;subst hf;exact⟨by decide,by decide,by decide,by decide⟩
   . refine key [] (λ_=>1) ?_ (λk=>by simp) (λf hf=>?_) (by decide)
     . exact run _ rfl
     . simp at hf
   . refine key [⟨0,1,[0,1]⟩,⟨1,2,[0,0,1]⟩] (λk=>if k=1 then 3 else 2) ?_ (λk=>by dsimp only;split<;>exact⟨by decide,by decide⟩) (λf hf=>?_) (by decide)
     . exact run _ rfl
     . simp at hf;rcases hf with rfl|rfl<;>exact⟨by decide,by decide,by decide,by decide⟩
 . have hv':¬(v:Int)<7:=by lia
   obtain⟨u,M2,e2,l2,s2,ll2⟩:=yt hm1 s1.has (many:=3) (by decide) (by decide);obtain⟨K,eK,hKu⟩:∃K:Nat,(1:Int)+(u:Int)=(K:Int)/\K=1+u:=⟨1+u,by lia,rfl⟩;obtain⟨Jt,M3,e3,l3,r3,s3,ll3⟩:=ams (a1:=some (.int v)) (a2:=none) (a3:=none) (a4:=none) (a5:=none) (a7:=none) (a8:=none) (a9:=none) (a10:=none) (a11:=none) (K:=K) hm1 s2.has (by lia);have htl:t<M3.length:=by obtain⟨n,h,_⟩:=s3.has;exact yj h
   have h4:Rb t f (M3++[.lst []]):=by obtain⟨n,h,o⟩:=s3.has;exact⟨n,yg h,o⟩
   obtain⟨fs,ρ',M5,e5,q8,q1,q2,q3,q4,q5,q6⟩:=aac (v:=v) (K:=K) (p:=M3.length) (a9:=none) (a10:=none) (a11:=none) hm1 h4 l3 (by lia) (by lia) r3 (by simp) (i_ htl);refine⟨.ref M3.length,M5,fs,λk=>Jt.getD k 1,?_,p8 q1,λn h=>by cases h;exact i_ htl,λk=>?_,q3,q2,?_⟩
   . simp[Fn.run,Dg,K8,e1,hv',e2,eK,e3,MW.new,e5,q8]
   . show 1<=Jt.getD k 1/\Jt.getD k 1<=4
     by_cases h:k<Jt.length
     . have:=r3 _ (getD_mem h)
       simp[cj,h] at this ⊢;exact⟨this.1,a_ this.2 (by decide)⟩
     . simp[cj,h]
   . refine s1.trans (s2.trans (s3.trans ⟨?_,q5,λa o na h=>q6 a o na ?_ (yg h)⟩))
     . have:=q4;simp at this;lia
     . have:=yj h;exact h_ this
structure Up(p:Nat)(M M':cz):Prop where
 len:M'.length=M.length
 oth:∀a:Nat,a≠p->M'[a]?=M[a]?
def Up.refl(p:Nat)(M:cz):Up p M M:=⟨rfl,λ_ _=>rfl⟩
theorem Up.trans(a:Up p M M1)(b:Up p M1 M2):Up p M M2:=⟨b.len.trans a.len,λx h=>(b.oth x h).trans (a.oth x h)⟩
theorem Up.set(p:Nat)(M:cz)(o:MO):Up p M (M.set p o):=⟨by simp,λa h=>uq (j0 h)⟩
def Qv(h:M[p]?=some (.lst ds)):Q3 M x (.ref p)=memD M x ds:=by simp[Q3,h,Bj,gf]
def Ud(f:F)(M:cz):zb f.toD (.int 0) M=some (.int f.a):=rfl
def Ue(f:F)(M:cz):zb f.toD (.int 1) M=some (.int f.b):=rfl
def amu(f:F)(M:cz):zb f.toD (.int 2) M=some (Ez f.r):=rfl
def Oe(M:cz)(r:Y3)(n:Nat):wz M (Ez r) (.tup ((List.range n).map λ(k:Nat)=>D.int (k:Int)))=some (decide (r=List.range n)):=ae9 M r (List.range n)
def eq_nil(M:cz)(r:Y3):wz M (Ez r) (.tup [])=some (decide (r=[])):=ae9 M r []
def Bp(M:cz)(a b:Nat):wz M (.int a) (.int b)=some (decide (a=b)):=by rw[eq_int,ag2]
def Jf(M:cz)(r:Y3):qx .len [Ez r] M=.ok (.int r.length) M:=by simp[qx,Bj,Ez]
def aad(M:cz)(ds:List D):qx .tuple [.vl ds] M=.ok (.tup ds) M:=by simp[qx,Bj]
def aae(M:cz)(r:Y3):qx .tuple [.vl (r.map nD)] M=.ok (Ez r) M:=aad M _
def afc(hz:Sz sz)(h:Xg sz f):1<=f.r.length/\f.r.length<=4:=by rw[h.len];exact hz _
def asp(M:cz)(r:Y3):srcOf M (Ez r)=some (.con (r.map nD)):=rfl
def amv(M:cz)(r:Y3)(h:x<r.length):zb (Ez r) (.int x) M=some (.int (r.getD x 0)):=Hn q_ (by simp[h,nD])
def amw(hz:Sz sz)(hf:Xg sz f)(hg:Xg sz g)(h:f.b=g.a) :
 Gu.den W [a0,a1,a2,a3,a4,a5,a6,some f.toD,some g.toD,a9] M=.ok (.vl ((f.comp g).r.map nD)) M:=by
 have hsm:(f.r.map nD).length<=100000:=by rw[dw,hf.len];have:=hz f.a;exact a_ this.2 (by decide)
 unfold Gu;rw[Ni];simp[amu,asp];have:=agx (M:=M) (ds:=f.r.map nD) (g:=λd=>match d with|.int i=>nD (g.r.getD i.toNat 0)|_=>.non)
  (body:=λd M=>((Res.uo (zb (Ez g.r) d M) M).bind λx M'=>Res.ok (some x) M')) hsm (λd hd=>by
   obtain⟨x,hx,rfl⟩:=bf.mp hd;have hx':x<g.r.length:=by rw[hg.len,<- h];exact hf.ran x hx
   rw[show nD x=D.int (x:Int) from rfl,amv M g.r hx'];simp[nD])
 rw[this];simp[F.comp,nD]
noncomputable def Li(gs:List F)(f g:F):List F:=if f.b=g.a/\f.comp g∉gs/\¬(f.comp g).Pu then gs++[f.comp g] else gs
def afd(f g:F):D.tup [.int f.a,.int g.b,Ez (f.comp g).r]=(f.comp g).toD:=rfl
def V2(hz:Sz sz)(hf:Xg sz f)(hg:Xg sz g)(hp:M[p]?=some (.lst (gs.map F.toD)))(hl:gs.length<100000) :
 ∃(b4 b9:Option D)(M':cz),Ca.den W [a0,D.ref p,a2,a3,a4,a5,a6,some f.toD,some g.toD,a9] M=.ok (.next,[a0,some (.ref p),a2,a3,b4,a5,a6,some f.toD,some g.toD,b9]) M' /\
  M'[p]?=some (.lst ((Li gs f g).map F.toD))/\Up p M M':=by
 by_cases h:f.b=g.a
 . have hc:=amw (W:=W) (M:=M) (a0:=a0) (a1:=some (.ref p)) (a2:=a2) (a3:=a3) (a4:=some (.tup [])) (a5:=a5) (a6:=a6) (a9:=a9) hz hf hg h
   have hr:(f.comp g).r≠[]:=λe=>by have:=(afc hz (hf.comp hg h)).1;rw[e] at this;simp at this
   have hlen:(f.comp g).r.length<=100000:=by have:=(afc hz (hf.comp hg h)).2;exact a_ this (by decide)
   have Iu:=amq M (f.comp g) gs;have e0:(f.comp g).a=f.a:=rfl;have e1:(f.comp g).b=g.b:=rfl;have ap:=K3 (d:=(f.comp g).toD) hp (by rw[dw];exact hl);have key:∃T:Res (Flow×Env),Ca.den W [a0,D.ref p,a2,a3,a4,a5,a6,some f.toD,some g.toD,a9] M=T/\(f.comp g∈gs->T=.ok (.next,[a0,some (.ref p),a2,a3,some (Ez (f.comp g).r),a5,a6,some f.toD,some g.toD,some (f.comp g).toD]) M)/\(f.comp g∉gs->(f.comp g).Pu->T=.ok (.next,[a0,some (.ref p),a2,a3,some (Ez (f.comp g).r),a5,a6,some f.toD,some g.toD,some (f.comp g).toD]) M) /\
    (f.comp g∉gs->¬(f.comp g).Pu->T=.ok (.next,[a0,some (.ref p),a2,a3,some (Ez (f.comp g).r),a5,a6,some f.toD,some g.toD,some (f.comp g).toD]) (M.set p (.lst ((gs++[f.comp g]).map F.toD)))):=by
    refine⟨_,(by simp[-eq_int,Ca,Ud,Ue,Bp,h,hc,aae,afd,eq_nil,hr,Qv hp,Iu];exact rfl),?_,?_,?_⟩
    . intro m;simp[m]
    . intro m i;simp[-eq_int,m,Ud,Ue,Bp,i.1,Jf,hlen,Oe,yr i.2]
    . intro m i
      by_cases i1:(f.comp g).a=(f.comp g).b
      . have i2:¬(f.comp g).r=List.range (f.comp g).r.length:=λq=>i ⟨i1,q⟩
        simp[-eq_int,Ud,Ue,Bp,m,i1,Jf,hlen,Oe,i2,K1 hp,ap]
      . simp[-eq_int,Ud,Ue,Bp,m,i1,Jf,hlen,Oe,K1 hp,ap]
   obtain⟨T,e,k1,k2,k3⟩:=key
   by_cases m:f.comp g∈gs
   . exact⟨_,_,M,e.trans (k1 m),by rw[Li,bx (λq=>q.2.1 m)];exact hp,Up.refl p M⟩
   . by_cases i:(f.comp g).Pu
     . exact⟨_,_,M,e.trans (k2 m i),by rw[Li,bx (λq=>q.2.2 i)];exact hp,Up.refl p M⟩
     . exact⟨_,_,_,e.trans (k3 m i),by rw[Li,dh ⟨h,m,i⟩,v8 hp],Up.set _ _ _⟩
 . refine⟨some (.tup []),some (.tup [.int f.a,.int g.b,.tup []]),M,?_,by rw[Li,bx (λq=>h q.1)];exact hp,Up.refl p M⟩
   have:=ae9 M [] [];simp[Ez] at this;simp[-eq_int,Ca,Ud,Ue,Bp,h,this]
structure Inv(sz:Nat->Nat)(gs:List F):Prop where
 good:Good sz gs
 nd:gs.Nodup
 nid:∀f∈gs,¬f.Pu
def Inv.snoc{sz:Nat->Nat}(h:Inv sz gs)(hf:Xg sz f)(hm:f∉gs)(hi:¬f.Pu):Inv sz (gs++[f]):=by
 refine⟨λx hx=>?_,?_,λx hx=>?_⟩
 . rcases dm.mp hx with q|q
   . exact h.good x q
   . have:x=f:=by simpa using q
     exact this▸hf
 . rw[yc]
   refine⟨h.nd,by simp,λa ha b hb=>?_⟩;have:b=f:=by simpa using hb
   exact λe=>hm (by rw[<- this,<- e];exact ha)
 . rcases dm.mp hx with q|q
   . exact h.nid x q
   . have:x=f:=by simpa using q
     exact this▸hi
noncomputable def Cl2(gs:List F)(f g:F):Prop:=f.b=g.a->f.comp g∈gs\/(f.comp g).Pu
def Cl2.mono(h:Cl2 gs f g)(s:gs <+: hs):Cl2 hs f g:=λe=>(h e).imp (λm=>s.subset m) id
def Og(gs:List F)(f g:F):gs <+: Li gs f g:=by
 unfold Li;split
 . exact List.prefix_append _ _
 . exact List.prefix_rfl
def V3(gs:List F)(f g:F):(Li gs f g).length<=gs.length+1:=by unfold Li;split<;>simp
set_option tactic.hygienic true in
def acb(h:Inv sz gs)(hf:Xg sz f)(hg:Xg sz g):Inv sz (Li gs f g):=by
 unfold Li;split
 . rename_i q;exact h.snoc (hf.comp hg q.1) q.2.1 q.2.2
 . exact h
def ag6(gs:List F)(f g:F):Cl2 (Li gs f g) f g:=by
 intro e;unfold Li
 by_cases m:f.comp g∈gs
 . left;split
   . exact xx _ m
   . exact m
 . by_cases i:(f.comp g).Pu
   . exact .inr i
   . left;rw[dh ⟨e,m,i⟩];simp
def Rc{gs:List F}{i:Nat}(s:gs <+: hs)(h:gs[i]?=some f):hs[i]?=some f:=by obtain⟨t,rfl⟩:=s;rw[du (ao.mp h).1];exact h
def Qf{gs:List F}{i:Nat}(hp:M[p]?=some (.lst (gs.map F.toD)))(h:gs[i]?=some f):zb (.ref p) (.int i) M=some f.toD:=De (p8 hp) q_ (by simp[h])
def Lj{gs:List F}(hp:M[p]?=some (.lst (gs.map F.toD))):qx .len [.ref p] M=.ok (.int gs.length) M:=by rw[len_list (p8 hp)];simp
def aya{k j:Nat}(hz:Sz sz)(hi:Inv sz gs)(hp:M[p]?=some (.lst (gs.map F.toD)))(hl:gs.length<90000)(hk:gs[k]?=some f)(hj:gs[j]?=some g) :
 ∃(b4 b7 b8 b9:Option D)(M':cz),Gv.den W [a0,D.ref p,a2,a3,a4,D.int k,D.int j,a7,a8,a9] M=.ok (.next,[a0,some (.ref p),a2,a3,b4,some (.int k),some (.int j),b7,b8,b9]) M' /\
  M'[p]?=some (.lst ((Li (Li gs f g) g f).map F.toD))/\Up p M M':=by
 have hf:=hi.good f (au hk);have hg:=hi.good g (au hj);have l1:=V3 gs f g;obtain⟨b4,b9,M1,e1,p1,u1⟩:=V2 (W:=W) (M:=M) (a0:=a0) (a2:=a2) (a3:=a3) (a4:=a4) (a5:=some (.int k)) (a6:=some (.int j)) (a9:=a9) hz hf hg hp (b_ hl (by decide));obtain⟨c4,c9,M2,e2,p2,u2⟩:=V2 (W:=W) (M:=M1) (a0:=a0) (a2:=a2) (a3:=a3) (a4:=b4) (a5:=some (.int k)) (a6:=some (.int j)) (a9:=b9) hz hg hf p1 (by lia);refine⟨c4,some g.toD,some f.toD,c9,M2,?_,p2,u1.trans u2⟩;unfold Gv;rw[S8];simp[Qf hp hk,Qf hp hj,srcOf,Src.len,Src.fin,Bx,Src.item,e1,e2]
def asr{k:Nat}(hz:Sz sz)(hi:Inv sz gs)(hp:M[p]?=some (.lst (gs.map F.toD)))(hl:gs.length<10000)(hk:gs[k]?=some f) :
 ∃(hs:List F)(b4 b6 b7 b8 b9:Option D)(M':cz),Gx.den W [a0,D.ref p,a2,a3,a4,D.int k,a6,a7,a8,a9] M=.ok (.next,[a0,some (.ref p),a2,a3,b4,some (.int k),b6,b7,b8,b9]) M' /\
  M'[p]?=some (.lst (hs.map F.toD))/\Up p M M'/\gs <+: hs/\Inv sz hs/\hs.length<=3*gs.length/\∀(j:Nat)(g:F),gs[j]?=some g->Cl2 hs f g/\Cl2 hs g f:=by
 unfold Gx;rw[S8];have Yl:gs.length<=100000:=e_ (b_ hl (by decide))
 simp[Lj hp,Yl];obtain⟨ρ',M',e,hs,b4,b6,b7,b8,b9,rfl,h1,h2,h3,h4,h5,h6⟩:=Z5 (n:=gs.length) (body:=λd ρ M=>Gw.den W (ρ.set 6 (some d)) M)
  (λi ρ M'=>∃(hs:List F)(b4 b6 b7 b8 b9:Option D),ρ=[a0,some (.ref p),a2,a3,b4,some (.int k),b6,b7,b8,b9]/\M'[p]?=some (.lst (hs.map F.toD))/\Up p M M'/\gs <+: hs/\Inv sz hs/\hs.length<=gs.length+2*i /\
   ∀(j:Nat)(g:F),j<i->gs[j]?=some g->Cl2 hs f g/\Cl2 hs g f) (ρ:=[a0,D.ref p,a2,a3,a4,D.int k,a6,a7,a8,a9]) (M:=M)
  ⟨gs,a4,a6,a7,a8,a9,rfl,hp,Up.refl p M,List.prefix_rfl,hi,x_,λj g h=>absurd h (xq _)⟩
  (λi ρ M2 Iw hI=>by
   obtain⟨hs,b4,b6,b7,b8,b9,rfl,g1,g2,g3,g4,g5,g6⟩:=hI;have gi:gs[i]?=some gs[i]:=by simp[Iw]
   obtain⟨c4,c7,c8,c9,M3,e3,p3,u3⟩:=aya (W:=W) (M:=M2) (a0:=a0) (a2:=a2) (a3:=a3) (a4:=b4) (a7:=b7) (a8:=b8) (a9:=b9) hz g4 g1 (by lia) (Rc g3 hk) (Rc g3 gi);have hf:=g4.good f (au (Rc g3 hk));have hg:=g4.good gs[i] (au (Rc g3 gi));refine⟨.next,_,M3,?_,.inl rfl,Li (Li hs f gs[i]) gs[i] f,c4,some (.int i),c7,c8,c9,rfl,p3,g2.trans u3,(g3.trans (Og _ _ _)).trans (Og _ _ _),acb (acb g4 hf hg) hg hf,?_,?_⟩
   . simp[Gw,e3]
   . have:=V3 hs f gs[i]
     have:=V3 (Li hs f gs[i]) gs[i] f
     lia
   . intro j g hj Ym
     have pr:=(Og hs f gs[i]).trans (Og (Li hs f gs[i]) gs[i] f);rcases Nat.lt_succ_iff_lt_or_eq.mp hj with q|q
     . exact⟨(g6 j g q Ym).1.mono pr,(g6 j g q Ym).2.mono pr⟩
     . subst q
       have:g=gs[j]:=by rw[gi] at Ym;exact(jq Ym).symm
       subst this;exact⟨(ag6 _ _ _).mono (Og _ _ _),ag6 _ _ _⟩)
 refine⟨hs,b4,b6,b7,b8,b9,M',e,h1,h2,h3,h4,by lia,λj g hg=>h6 j g (ao.mp hg).1 hg⟩
def amx(f:F)(i j k:Nat)(ρ:Env):(Tg.names [i,j,k]).put f.toD ρ=some (((ρ.set i (some (.int f.a))).set j (some (.int f.b))).set k (some (Ez f.r))):=rfl
noncomputable def aaf(gs:List F)(f:F):List F:=if ¬f.Pu/\f∉gs then gs++[f] else gs
noncomputable def ClK(gs:List F)(k:Nat):Prop:=∀(i j:Nat)(f g:F),i<k->j<k->gs[i]?=some f->gs[j]?=some g->Cl2 gs f g
def ajj(hz:Sz sz)(hf:Xg sz f)(hp:M[p]?=some (.lst (gs.map F.toD)))(hl:gs.length<100000) :
 ∃M',zc.den W [a0,D.ref p,D.int f.a,D.int f.b,Ez f.r,a5,a6,a7,a8,a9] M=.ok (.next,[a0,some (.ref p),some (.int f.a),some (.int f.b),some (Ez f.r),a5,a6,a7,a8,a9]) M' /\
  M'[p]?=some (.lst ((aaf gs f).map F.toD))/\Up p M M':=by
 have hlen:f.r.length<=100000:=by have:=(afc hz hf).2;exact a_ this (by decide)
 have Iu:=amq M f gs;have hD:D.tup [.int f.a,.int f.b,Ez f.r]=f.toD:=rfl;have ap:=K3 (d:=f.toD) hp (by rw[dw];exact hl)
 by_cases i:f.Pu
 . refine⟨M,?_,by rw[aaf,bx (λq=>q.1 i)];exact hp,Up.refl p M⟩
   simp[-eq_int,zc,Bp,i.1,Jf,hlen,Oe,yr i.2]
 . by_cases m:f∈gs
   . refine⟨M,?_,by rw[aaf,bx (λq=>q.2 m)];exact hp,Up.refl p M⟩
     by_cases i1:f.a=f.b
     . have i2:¬f.r=List.range f.r.length:=λq=>i ⟨i1,q⟩
       simp[i1] at hD;simp[-eq_int,zc,Bp,i1,i2,Jf,hlen,Oe,hD,Qv hp,Iu,m]
     . simp[-eq_int,zc,Bp,i1,Jf,hlen,Oe,hD,Qv hp,Iu,m]
   . refine⟨M.set p (.lst ((gs++[f]).map F.toD)),?_,by rw[aaf,dh ⟨i,m⟩,v8 hp],Up.set _ _ _⟩
     by_cases i1:f.a=f.b
     . have i2:¬f.r=List.range f.r.length:=λq=>i ⟨i1,q⟩
       simp[i1] at hD;simp[-eq_int,zc,Bp,i1,i2,Jf,hlen,Oe,hD,Qv hp,Iu,m,K1 hp,ap]
     . simp[-eq_int,zc,Bp,i1,Jf,hlen,Oe,hD,Qv hp,Iu,m,K1 hp,ap]
set_option tactic.hygienic true in
def amy(h:Inv sz gs)(hf:Xg sz f):Inv sz (aaf gs f):=by
 unfold aaf;split
 . rename_i q;exact h.snoc hf q.2 q.1
 . exact h
def amz(gs:List F)(f:F):(aaf gs f).length<=gs.length+1:=by unfold aaf;split<;>simp
def ajk(hz:Sz sz)(hi:Inv sz gs)(hp:M[p]?=some (.lst (gs.map F.toD)))(hl:gs.length<=3) :
 ∃(ρ':Env)(M':cz),Gy.den W [a0,D.ref p,a2,a3,a4,D.int 0,a6,a7,a8,a9] M=.ok (.next,ρ') M'/\ρ'[1]?=some (some (.ref p))/\∃hs:List F,M'[p]?=some (.lst (hs.map F.toD))/\Up p M M'/\Inv sz hs/\hs.length<=15 /\
  (hs.length<6->Od hs)/\(gs=[]->hs=[]):=by
 unfold Gy;rw[Z2];refine Pb (λm ρ M'=>∃(hs:List F)(k:Nat)(b4 b6 b7 b8 b9:Option D),ρ=[a0,some (.ref p),a2,a3,b4,some (.int k),b6,b7,b8,b9]/\M'[p]?=some (.lst (hs.map F.toD))/\Up p M M'/\Inv sz hs/\hs.length<=15/\ClK hs k/\k<=5/\m=10-k/\(gs=[]->hs=[]))
  (fun ρ' M'=>ρ'[1]?=some (some (.ref p))/\∃hs:List F,M'[p]?=some (.lst (hs.map F.toD))/\Up p M M'/\Inv sz hs/\hs.length<=15/\(hs.length<6->Od hs)/\(gs=[]->hs=[])) ?_ ae6 10 _ M (by decide)
  ⟨gs,0,a4,a6,a7,a8,a9,rfl,hp,Up.refl p M,hi,a_ hl (by decide),λi j f g h=>absurd h (xq _),mq _,rfl,id⟩
 intro m ρ M1 hI;obtain⟨hs,k,b4,b6,b7,b8,b9,rfl,g1,g2,g3,g4,g5,g6,g7,g8⟩:=hI
 by_cases c1:k<hs.length
 . have c1':(k:Int)<(hs.length:Int):=m_ c1
   by_cases c2:hs.length<6
   . have c2':(hs.length:Int)<6:=m_ c2
     right
     obtain⟨is,d4,d6,d7,d8,d9,M2,e,p2,u2,pr,inv2,l2,cl2⟩:=asr (W:=W) (M:=M1) (a0:=a0) (a2:=a2) (a3:=a3) (a4:=b4) (a6:=b6) (a7:=b7) (a8:=b8) (a9:=b9) (k:=k) hz g3 g1 (c_ g4 (by decide)) (show hs[k]?=some hs[k] by simp[c1]);refine⟨M1,.next,_,M2,10-(k+1),?_,?_,.inl rfl,by lia,is,k+1,d4,d6,d7,d8,d9,rfl,p2,g2.trans u2,inv2,by lia,?_,by lia,rfl,?_⟩
     . simp[Lj g1,c1',c2']
     . simp[Ml,e]
     . intro i j f g hi' hj' hf hg
       have back:∀(i:Nat)(f:F),i<k+1->is[i]?=some f->hs[i]?=some f:=λi f hi hf=>by
        have Iw:i<hs.length:=b_ hi c1
        have:=Rc pr (show hs[i]?=some hs[i] by simp[Iw]);rw[hf] at this;rw[this];simp[Iw]
       have hf':=back i f hi' hf;have Ym:=back j g hj' hg
       by_cases ei:i=k
       . subst ei
         have:f=hs[i]:=by have:=hf';simp[c1] at this;exact this.symm
         subst this;exact(cl2 j g Ym).1
       . by_cases ej:j=k
         . subst ej
           have:g=hs[j]:=by have:=Ym;simp[c1] at this;exact this.symm
           subst this;exact(cl2 i f hf').2
         . exact(g5 i j f g (by lia) (by lia) hf' Ym).mono pr
     . intro e0
       have:=g8 e0;subst this;simp at c1
   . left
     have c2':¬(hs.length:Int)<6:=by lia
     exact⟨M1,by simp[Lj g1,c1',c2'],rfl,hs,g1,g2,g3,g4,λq=>absurd q c2,g8⟩
 . left
   have c1':¬(k:Int)<(hs.length:Int):=by lia
   refine⟨M1,by simp[Lj g1,c1'],rfl,hs,g1,g2,g3,g4,λ_=>?_,g8⟩;intro f hf g hg;obtain⟨i,hi',ei⟩:=jo hf;obtain⟨j,hj',ej⟩:=jo hg;exact g5 i j f g (b_ hi' (s_ c1)) (b_ hj' (s_ c1)) (by simp[hi',ei]) (by simp[hj',ej])
def Yn(hm:1<=m)(hz:Sz sz)(hg:Good sz fs)(hl:fs.length<=3)(hd:gf M d=some (fs.map F.toD)) :
 ∃(hs:List F)(M':cz),prog.call m 16 [d] M=.ok (.ref M.length) M'/\M'[M.length]?=some (.lst (hs.map F.toD))/\Be M M'/\M'.length=M.length+1/\Inv sz hs/\hs.length<=15/\(hs.length<6->Od hs)/\(fs=[]->hs=[]):=by
 rw[call_of hm rfl];have hd1:gf (M++[.lst []]) d=some (fs.map F.toD):=(Be.app M _).gf hd;obtain⟨s,hs0,ρ1,M1,e1,gs,b2,b3,b4,rfl,h1,h2,h3,h4,h5⟩:=Vx (body:=λd ρ M=>match(Tg.names [2,3,4]).put d ρ with
  | some ρ'=>zc.den ⟨prog.call (m-1),prog.cls⟩ ρ' M|none=>.bad)
  (λi ρ M'=>∃(gs:List F)(b2 b3 b4:Option D),ρ=[some d,some (.ref M.length),b2,b3,b4,none,none,none,none,none]/\M'[M.length]?=some (.lst (gs.map F.toD))/\Up M.length (M++[.lst []]) M'/\Inv sz gs/\gs.length<=i/\(fs=[]->gs=[]))
  (ρ:=[some d,D.ref M.length,none,none,none,none,none,none,none,none]) (M:=M++[.lst []]) hd1
  ⟨[],none,none,none,rfl,by simp,Up.refl _ _,⟨λf hf=>by simp at hf,by simp,λf hf=>by simp at hf⟩,by simp,λ_=>rfl⟩
  (λi ρ M' hI=>by
   obtain⟨gs,b2,b3,b4,rfl,g1,g2,g3,g4,g5⟩:=hI;cases d with
   |vl xs=>exact hd
   |ref n =>
    have hn:n≠M.length:=by
     simp only[gf] at hd;cases e:M[n]? with
     |none=>rw[e] at hd;simp at hd|some o=>have:=yj e;exact h_ this
    simp only[gf] at hd1 ⊢;rw[g2.oth n hn];exact hd1
   | _=>simp[gf] at hd)
  (λi x ρ M' hx hI=>by
   obtain⟨gs,b2,b3,b4,rfl,g1,g2,g3,g4,g5⟩:=hI;obtain⟨f,hf,rfl⟩:∃f,fs[i]?=some f/\f.toD=x:=by simpa using hx
   have hfm:=au hf;have hil:=(ao.mp hf).1;obtain⟨M2,e2,p2,u2⟩:=ajj (W:=⟨prog.call (m-1),prog.cls⟩) (M:=M') (a0:=some d) (a5:=none) (a6:=none) (a7:=none) (a8:=none) (a9:=none) hz (hg f hfm) g1 (c_ g4 (b_ hil (a_ hl (by decide))));refine⟨.next,_,M2,?_,.inl rfl,aaf gs f,some (.int f.a),some (.int f.b),some (Ez f.r),rfl,p2,g2.trans u2,amy g3 (hg f hfm),?_,λe=>?_⟩
   . rw[amx];exact e2
   . have:=amz gs f;exact a_ this (v_ g4)
   . subst e;simp at hf)
 have hgl:gs.length<=3:=by simp at h4;exact a_ h4 hl
 obtain⟨ρ2,M2,e2,q1,hs,p2,u2,inv2,l2,c2,z2⟩:=ajk (W:=⟨prog.call (m-1),prog.cls⟩) (M:=M1) (a0:=some d) (a2:=b2) (a3:=b3) (a4:=b4) (a6:=none) (a7:=none) (a8:=none) (a9:=none) hz h3 h1 hgl;have up:=h2.trans u2;refine⟨hs,M2,?_,p2,λa o h=>?_,?_,inv2,l2,c2,λe=>z2 (h5 e)⟩
 . have e1':Gz.den ⟨prog.call (m-1),prog.cls⟩ [some d,D.ref M.length,none,none,none,none,none,none,none,none] (M++[.lst []])=.ok (.next,[some d,some (.ref M.length),b2,b3,b4,none,none,none,none,none]) M1:=by
    unfold Gz;rw[S8];simp[hs0];exact e1
   simp[Fn.run,Qa,P0,MW.new,e1',e2,q1]
 . have:=yj h
   rw[up.oth a (h_ this)];exact yg h
 . rw[up.len];simp
noncomputable def eD(f:F):D:=.tup [.int f.a,.int f.b]
noncomputable def Ih(hs:List F):D:=.tup (hs.map eD)
noncomputable def ent(hs:List F)(f g:F):Int:=if f.comp g∈hs then(pos (f.comp g) hs:Int) else -1
noncomputable def ky(j k:Nat):List Kx:=[.inl (j:Int),.inl (k:Int)]
def aag(h:ky j k=ky j' k'):j=j'/\k=k':=by simp[ky] at h;exact⟨D_ h.1,D_ h.2⟩
noncomputable def Yo(j k j' k':Nat):Prop:=j'<j\/(j'=j/\k'<k)
structure Tb(hs:List F)(j k:Nat)(gq:List (List Kx×D)):Prop where
 keys:∀p∈gq,∃(j' k':Nat)(f g:F),p=(ky j' k',.int (ent hs f g))/\hs[j']?=some f/\hs[k']?=some g/\f.b=g.a/\Yo j k j' k'
 look:∀(j' k':Nat)(f g:F),hs[j']?=some f->hs[k']?=some g->f.b=g.a->Yo j k j' k'->Ad gq (ky j' k')=some (.int (ent hs f g))
 len:gq.length<=j*hs.length+k
def ajl{gq:List (List Kx×D)}(h:∀p∈gq,p.1≠q):Ad gq q=none:=by unfold Ad;rw[List.find?_eq_none.mpr (λp hp=>by simpa using h p hp)];rfl
def ajm{gq:List (List Kx×D)}(h:∀p∈gq,p.1≠q):Dy gq q v=gq++[(q,v)]:=by unfold Dy;rw[bx];simp only[Ao,dj,not_exists,not_and];exact h
def aah{gq:List (List Kx×D)}(h:q≠q'):Ad (gq++[(q,v)]) q'=Ad gq q':=by
 unfold Ad;rw[List.find?_append];cases e:gq.find? (λp=>decide (p.1=q')) with
 |some p=>rfl|none=>simp[h]
def aai{gq:List (List Kx×D)}(h:∀p∈gq,p.1≠q):Ad (gq++[(q,v)]) q=some v:=by unfold Ad;rw[List.find?_append,List.find?_eq_none.mpr (λp hp=>by simpa using h p hp)];simp
def Tb.skip(h:Tb hs j k gq)(hf:hs[j]?=some f)(hg:hs[k]?=some g)(n:f.b≠g.a):Tb hs j (k+1) gq:=by
 refine⟨λp hp=>?_,λj' k' f' g' a b c d=>?_,by have:=h.len;exact a_ this (w_ x_)⟩
 . obtain⟨j',k',f',g',e,a,b,c,d⟩:=h.keys p hp
   exact⟨j',k',f',g',e,a,b,c,by unfold Yo at *;lia⟩
 . by_cases q:j'=j/\k'=k
   . obtain⟨rfl,rfl⟩:=q
     rw[hf] at a;rw[hg] at b;cases a;cases b;exact absurd c n
   . exact h.look j' k' f' g' a b c (by unfold Yo at *;lia)
def Tb.fresh(h:Tb hs j k gq):∀p∈gq,p.1≠ky j k:=by
 intro p hp e;obtain⟨j',k',f',g',rfl,a,b,c,d⟩:=h.keys p hp;have:=aag e;unfold Yo at d
 lia
def Tb.put(h:Tb hs j k gq)(hf:hs[j]?=some f)(hg:hs[k]?=some g)(n:f.b=g.a):Tb hs j (k+1) (Dy gq (ky j k) (.int (ent hs f g))):=by
 rw[ajm h.fresh];refine⟨λp hp=>?_,λj' k' f' g' a b c d=>?_,by have:=h.len;simp;lia⟩
 . rcases dm.mp hp with q|q
   . obtain⟨j',k',f',g',e,a,b,c,d⟩:=h.keys p q
     exact⟨j',k',f',g',e,a,b,c,by unfold Yo at *;lia⟩
   . have:p=(ky j k,.int (ent hs f g)):=by simpa using q
     exact⟨j,k,f,g,this,hf,hg,n,by unfold Yo;lia⟩
 . by_cases q:j'=j/\k'=k
   . obtain⟨rfl,rfl⟩:=q
     rw[hf] at a;rw[hg] at b;cases a;cases b;exact aai h.fresh
   . rw[aah (λe=>q (by have:=aag e;exact⟨this.1.symm,this.2.symm⟩))]
     exact h.look j' k' f' g' a b c (by unfold Yo at *;lia)
def Tb.next(h:Tb hs j hs.length gq):Tb hs (j+1) 0 gq:=by
 refine⟨λp hp=>?_,λj' k' f' g' a b c d=>?_,by have:=h.len;have e:(j+1)*hs.length=j*hs.length+hs.length:=Nat.succ_mul _ _;exact a_ this (a_ (g_ e) x_)⟩
 . obtain⟨j',k',f',g',e,a,b,c,d⟩:=h.keys p hp
   exact⟨j',k',f',g',e,a,b,c,by unfold Yo at *;lia⟩
 . have:=(ao.mp b).1
   exact h.look j' k' f' g' a b c (by unfold Yo at *;lia)
def am0{hs:List F}{j k:Nat}(hz:Sz sz)(hf:Xg sz f)(hg:Xg sz g)(h:f.b=g.a)(hq:M[q]?=some (.lst (hs.map F.toD)))(hj:hs[j]?=some f)(hk:hs[k]?=some g) :
 Fy.den W [a0,a1,D.ref q,a3,a4,D.int j,D.int k,a7] M=.ok (.vl ((f.comp g).r.map nD)) M:=by
 have hsm:(f.r.map nD).length<=100000:=by rw[dw,hf.len];have:=hz f.a;exact a_ this.2 (by decide)
 unfold Fy;rw[K5 (ds:=f.r.map nD) (M1:=M) (g:=λd=>match d with|.int i=>nD (g.r.getD i.toNat 0)|_=>.non) (by simp[Qf hq hj,amu,Ez]) hsm (λx hx=>by
  obtain⟨y,hy,rfl⟩:=bf.mp hx;have hy':y<g.r.length:=by rw[hg.len,<- h];exact hf.ran y hy
  exact⟨_,rfl,by simp[Qf hq hk,amu,nD,amv M g.r hy']⟩)]
 simp[F.comp,nD]
def afe(hz:Sz sz)(hi:Inv sz hs)(hl:hs.length<=5)(hq:M[q]?=some (.lst (hs.map F.toD)))(hr:M[r]?=some (.dT gq))(hj:hs[j]?=some f)(hk:hs[k]?=some g)(ht:Tb hs j k gq) :
 ∃(b7:Option D)(M':cz)(kvs':List (List Kx×D)),Bb.den W [a0,a1,D.ref q,a3,D.ref r,D.int j,D.int k,a7] M=.ok (.next,[a0,a1,some (.ref q),a3,some (.ref r),some (.int j),some (.int k),b7]) M' /\
  M'[r]?=some (.dT kvs')/\Tb hs j (k+1) kvs'/\Up r M M':=by
 have hjl:=(ao.mp hj).1;have hkl:=(ao.mp hk).1;have hf:=hi.good f (au hj);have hg:=hi.good g (au hk)
 by_cases h:f.b=g.a
 . have hc:=am0 (W:=W) (M:=M) (a0:=a0) (a1:=a1) (a3:=a3) (a4:=some (.ref r)) (a7:=a7) hz hf hg h hq hj hk
   have Iu:=amq M (f.comp g) hs;have hkv:gq.length<100000:=by
    have:=ht.len;have:j*hs.length<=5*5:=Nat.mul_le_mul (e_ (b_ hjl hl)) hl
    lia
   have st:=ax7 (d:=.int (ent hs f g)) (b:=.tup [.int j,.int k]) hr rfl hkv;refine⟨some (f.comp g).toD,_,Dy gq (ky j k) (.int (ent hs f g)),?_,v8 (o:=.dT (Dy gq (ky j k) (.int (ent hs f g)))) hr,ht.put hj hk h,Up.set _ _ _⟩
   by_cases m:f.comp g∈hs
   . have hix:Jz .index (.ref q) [(f.comp g).toD] M=.ok (.int (pos (f.comp g) hs)) M:=by simp[Jz,Vv (p8 hq),a4z,m]
     have hty:Qn .index (.ref q) M=true:=by simp[Qn,p8 hq]
     have he:ent hs f g=(pos (f.comp g) hs:Int):=dh m;rw[he] at st;simp[-eq_int,Bb,Qf hq hj,Qf hq hk,Ud,Ue,Bp,h,hc,aae,afd,Qv hq,Iu,m,hty,hix,st,he,ky]
   . have he:ent hs f g=-1:=bx m
     rw[he] at st;simp[-eq_int,Bb,Qf hq hj,Qf hq hk,Ud,Ue,Bp,h,hc,aae,afd,Qv hq,Iu,m,st,he,ky]
 . refine⟨a7,M,gq,?_,hr,ht.skip hj hk h,Up.refl r M⟩
   simp[-eq_int,Bb,Qf hq hj,Qf hq hk,Ud,Ue,Bp,h]
def ayb(hz:Sz sz)(hi:Inv sz hs)(hl:hs.length<=5)(hq:M[q]?=some (.lst (hs.map F.toD)))(hr:M[r]?=some (.dT []))(hqr:q≠r) :
 ∃(ρ':Env)(M':cz)(gq:List (List Kx×D)),Ga.den W [a0,a1,D.ref q,a3,D.ref r,a5,a6,a7] M=.ok (.next,ρ') M'/\ρ'[2]?=some (some (.ref q))/\ρ'[3]?=some a3/\ρ'[4]?=some (some (.ref r))/\ρ'.length=8 /\
  M'[r]?=some (.dT gq)/\Tb hs hs.length 0 gq/\Up r M M':=by
 unfold Ga;have hlen:∀(M':cz),Up r M M'->qx .len [.ref q] M'=.ok (.int hs.length) M':=λM' u=>Lj (by rw[u.oth q hqr];exact hq)
 obtain⟨ρ',M',e,b5,b6,b7,gq,rfl,h1,h2,h3⟩:=Ax (W:=W) (t:=.name 5) (b:=Fz) (it:=.blt .len (.o (.v 2))) (n:=hs.length) (ρ:=[a0,a1,D.ref q,a3,D.ref r,a5,a6,a7]) (M:=M) (M1:=M) (by simp[Lj hq]) (a_ hl (by decide))
  (λj ρ M'=>∃(b5 b6 b7:Option D)(gq:List (List Kx×D)),ρ=[a0,a1,some (.ref q),a3,some (.ref r),b5,b6,b7]/\M'[r]?=some (.dT gq)/\Tb hs j 0 gq/\Up r M M')
  ⟨a5,a6,a7,[],rfl,hr,⟨λp hp=>by simp at hp,λj' k' f g a b c d=>by unfold Yo at d;lia,by simp⟩,Up.refl r M⟩
  (λj ρ M1 hj hI=>by
   obtain⟨b5,b6,b7,gq,rfl,g1,g2,g3⟩:=hI;have hq1:M1[q]?=some (.lst (hs.map F.toD)):=by rw[g3.oth q hqr];exact hq
   obtain⟨ρ2,M2,e2,c6,c7,bcd,rfl,k1,k2,k3⟩:=Ax (W:=W) (t:=.name 6) (b:=Bb) (it:=.blt .len (.o (.v 2))) (n:=hs.length) (ρ:=[a0,a1,D.ref q,a3,D.ref r,D.int j,b6,b7]) (M:=M1) (M1:=M1) (by simp[Lj hq1]) (a_ hl (by decide))
    (λk ρ M'=>∃(b6 b7:Option D)(gq:List (List Kx×D)),ρ=[a0,a1,some (.ref q),a3,some (.ref r),some (.int j),b6,b7]/\M'[r]?=some (.dT gq)/\Tb hs j k gq/\Up r M1 M')
    ⟨b6,b7,gq,rfl,g1,g2,Up.refl r M1⟩
    (λk ρ M2 hk hI=>by
     obtain⟨b6,b7,gq,rfl,k1,k2,k3⟩:=hI;have hq2:M2[q]?=some (.lst (hs.map F.toD)):=by rw[k3.oth q hqr];exact hq1
     obtain⟨c7,M3,bcf,e3,p3,t3,u3⟩:=afe (W:=W) (M:=M2) (a0:=a0) (a1:=a1) (a3:=a3) (a7:=b7) hz hi hl hq2 k1 (show hs[j]?=some hs[j] by simp[hj]) (show hs[k]?=some hs[k] by simp[hk]) k2;exact⟨_,.next,_,M3,rfl,e3,.inl rfl,_,c7,bcf,rfl,p3,t3,k3.trans u3⟩)
   exact⟨_,.next,_,M2,rfl,by simp[Fz,Ke,e2],  .inl rfl,some (.int j),c6,c7,bcd,rfl,k1,k2.next,g3.trans k3⟩)
 exact⟨_,M',gq,e,rfl,rfl,rfl,rfl,h1,h2,h3⟩
structure Nb(sz:Nat->Nat)(K:Nat)(hs:List F)(gq:List (List Kx×D)):Prop where
 hz:Sz sz
 inv:Inv sz hs
 cl:Od hs
 len:hs.length<=5
 k1:1<=K
 k3:K<=3
 Xu:∀f∈hs,f.a<K
 V4:∀f∈hs,f.b<K
 tb:Tb hs hs.length 0 gq
theorem acd:∀(xs:Y3)(a:Nat),∃v:Nat,(xs.map λ(x:Nat)=>(x:Int)).foldl (λm x=>if m<x then x else m) (a:Int)=(v:Int)/\a<=v/\(∀x∈xs,x<=v)/\(v=a\/v∈xs)
 |[],a=>⟨a,rfl,bw _,by simp,.inl rfl⟩
 |x::xs,a=>by
  obtain⟨v,e,h1,h2,h3⟩:=acd xs (if a<x then x else a);refine⟨v,?_,?_,λy hy=>?_,?_⟩
  . rw[iu,List.foldl_cons,<- e]
    congr 1
    by_cases q:a<x
    . have:(a:Int)<(x:Int):=m_ q
      simp[q]
    . have:¬(a:Int)<(x:Int):=by lia
      simp[q]
  . split at h1<;>omega
  . rcases bz.mp hy with q|q
    . subst q;split at h1<;>omega
    . exact h2 y q
  . rcases h3 with q|q
    . by_cases w:a<x
      . right;rw[dh w] at q;subst q;simp
      . left;rw[bx w] at q;exact q
    . right;exact bu _ q
theorem ace:∀xs:List Nat,Yh (xs.map nD)=some (xs.map λ(x:Nat)=>(x:Int))
 |[]=>rfl|x::xs=>by simp[nD,Yh,show Yh (xs.map nD)=_ from ace xs]
def am1(h:xs≠[]):∃v:Nat,qx .max [.vl (xs.map nD)] M=.ok (.int v) M/\(∀x∈xs,x<=v)/\v∈xs:=by
 obtain⟨a,r,rfl⟩:∃a r,xs=a::r:=List.exists_cons_of_ne_nil h;obtain⟨v,e,h1,h2,h3⟩:=acd r a;refine⟨v,?_,λx hx=>?_,?_⟩
 . have:=ace (a::r)
   simp only[qx,asm,aji,uh,this];simp only[iu,axv,uh,vy,Res.Dr,e]
 . rcases bz.mp hx with q|q
   . subst q;exact h1
   . exact h2 x q
 . rcases h3 with q|q
   . rw[q];simp
   . exact bu _ q
def max2(a b:Nat):qx .max [.int a,.int b] M=.ok (nD (max a b)) M:=by
 by_cases h:a<b
 . have h':(a:Int)<b:=m_ h
   have e:max a b=b:=by lia
   simp[qx,h,nD,e]
 . have h':¬(a:Int)<b:=by lia
   have e:max a b=a:=by lia
   simp[qx,h,nD,e]
noncomputable def toF:D->F
 |.tup [.int a,.int b,.tup r]=>⟨a.toNat,b.toNat,r.map λd=>match d with|.int i=>i.toNat|_=>0⟩
 |_=>⟨0,0,[]⟩
def U9(f:F):toF f.toD=f:=by
 obtain⟨a,b,r⟩:=f;show F.mk a b ((r.map nD).map λd=>match d with|.int i=>i.toNat|_=>0)=F.mk a b r;rw[o7]
 conv=>rhs;rw[<- Bd r]
 exact o4 _ (j8 λx _=>rfl)
def am2{hs:List F}(hl:hs.length<=100000)(hq:M[q]?=some (.lst (hs.map F.toD))) :
 Gb.den W [a0,a1,D.ref q,a3,a4,a5,a6,a7] M=.ok (.vl ((hs.map λf=>max f.a f.b).map nD)) M:=by
 unfold Gb;rw[Ay (d:=.ref q) (ds:=hs.map F.toD) (M1:=M) (g:=λd=>nD (max (toF d).a (toF d).b)) (by simp) (p8 hq) (by simpa using hl) (λx hx=>by
  obtain⟨f,hf,rfl⟩:=bf.mp hx;exact⟨_,amx _ _ _ _ _,by simp[max2,U9]⟩)]
 simp[U9]
def ajn{hs:List F}(hρ:ρ[2]?=some (some (.ref q)))(hρl:ρ.length=8)(hl:hs.length<=100000)(hq:M[q]?=some (.lst (hs.map F.toD))) :
 Fw.den W ρ M=.ok (.vl (hs.map eD)) M:=by
 unfold Fw;rw[Ay (d:=.ref q) (ds:=hs.map F.toD) (M1:=M) (g:=λd=>eD (toF d)) (by simp[hρ]) (p8 hq) (by simpa using hl) (λx hx=>by
  obtain⟨f,hf,rfl⟩:=bf.mp hx;refine⟨_,amx _ _ _ _ _,?_⟩;rw[U9];simp[eD,List.getElem?_set,hρl])]
 simp[U9]
def ajo(hm:1<=m)(hz:Sz sz)(hs0:Rb t f M)(hg:Good sz fs)(hl:fs.length<=3)(hd:gf M d=some (fs.map F.toD))(hq:M[q]?=some (.lst (hs.map F.toD)))(hqt:q≠t)(hi:Inv sz hs)(hhl:hs.length<=15)(hc:hs.length<6->Od hs)(h0:fs=[]->hs=[]) :
 ∃(ρ':Env)(M':cz),Gd.den ⟨prog.call m,prog.cls⟩ [D.ref t,some d,D.ref q,a3,a4,a5,a6,a7] M=.ok (.next,ρ') M'/\∃(d':D)(q':Nat)(Pj:List F),ρ'=[some (.ref t),some d',some (.ref q'),a3,a4,a5,a6,a7] /\
  M'[q']?=some (.lst (Pj.map F.toD))/\q'≠t/\Inv sz Pj/\Pj.length<=5/\Od Pj/\Be M M':=by
 unfold Gd;rw[Z2];refine Pb (λn ρ M'=>∃(d:D)(fs hs:List F)(q:Nat),ρ=[some (.ref t),some d,some (.ref q),a3,a4,a5,a6,a7]/\fs.length=n/\Good sz fs/\fs.length<=3/\gf M' d=some (fs.map F.toD)/\M'[q]?=some (.lst (hs.map F.toD))/\q≠t /\
  Inv sz hs/\hs.length<=15/\(hs.length<6->Od hs)/\(fs=[]->hs=[])/\Be M M')
  (fun ρ' M'=>∃(d':D)(q':Nat)(Pj:List F),ρ'=[some (.ref t),some d',some (.ref q'),a3,a4,a5,a6,a7]/\M'[q']?=some (.lst (Pj.map F.toD))/\q'≠t/\Inv sz Pj/\Pj.length<=5/\Od Pj/\Be M M') ?_ ae6 fs.length _ M (by unfold ae6;exact c_ hl (by decide))
  ⟨d,fs,hs,q,rfl,rfl,hg,hl,hd,hq,hqt,hi,hhl,hc,h0,Be.refl M⟩
 intro n ρ M1 hI;obtain⟨d,fs,hs,q,rfl,rfl,g1,g2,g3,g4,g5,g6,g7,g8,g9,g10⟩:=hI
 by_cases c:5<hs.length
 . right
   have c':(5:Int)<(hs.length:Int):=m_ c
   have Xf:fs≠[]:=λe=>by rw[g9 e] at c;simp at c
   have a5d:1<=fs.length:=List.length_pos_iff.mpr Xf
   have bch:Hm d none (some (-1)) M1=some (.vl (fs.dropLast.map F.toD)):=by
    have hcl:Xp (fs.map F.toD) none (some (-1))=fs.dropLast.map F.toD:=by
     have e2:((-1:Int)+(fs.length:Int)).toNat=fs.length-1:=by lia
     simp[Xp,clip,e2,List.map_dropLast,List.dropLast_eq_take]
    cases d with
    |tup ds=>simp[gf] at g3|vl ds=>simp only[Hm,g3,vy,hcl]|ref n=>simp only[Hm,g3,vy,hcl]|_=>simp[gf] at g3
   have gd:Good sz fs.dropLast:=λf hf=>g1 f (List.dropLast_subset fs hf)
   obtain⟨Pj,M2,e,p2,k2,l2,i2,b2,c2,z2⟩:=Yn (M:=M1) (m:=m) (d:=.vl (fs.dropLast.map F.toD)) hm hz gd (by simp;exact a_ g2 (by decide)) rfl;have ht1:t<M1.length:=by obtain⟨n,h,_⟩:=hs0;exact yj (g10 t _ h)
   refine⟨M1,.next,_,M2,fs.length-1,?_,?_,.inl rfl,by lia,.vl (fs.dropLast.map F.toD),fs.dropLast,Pj,M1.length,rfl,by simp,gd,by simp;exact a_ g2 (by decide),rfl,p2,i_ ht1,i2,b2,c2,z2,g10.trans k2⟩
   . simp[Lj g4,c']
   . simp[-List.map_dropLast,Kf,bch,e]
 . left
   have c':¬(5:Int)<(hs.length:Int):=by lia
   exact⟨M1,by simp[Lj g4,c'],d,q,hs,rfl,g4,g5,g6,s_ c,g8 (c_ (s_ c) (by decide)),g10⟩
def afg(hm:3<=m)(hs0:Rb t f M):∃(K r:Nat)(sz:Nat->Nat)(hs:List F)(gq:List (List Kx×D))(M':cz),prog.call m 17 [.ref t] M=.ok (.tup [.int K,Ih hs,.ref r]) M'/\M'[r]?=some (.dT gq)/\M.length<=r/\Nb sz K hs gq/\St t f M M':=by
 rw[call_of (a_ (by decide) hm) rfl];have ht0:t<M.length:=by obtain⟨n,h,_⟩:=hs0;exact yj h
 obtain⟨d,M1,fs,sz,e1,d1,n1,hz,g1,l1,s1⟩:=amt (m:=m-1) (r_ hm) hs0;obtain⟨hs,M2,e2,p2,k2,ll2,i2,b2,c2,z2⟩:=Yn (M:=M1) (m:=m-1) (d:=d) (r_ (a_ (by decide) hm)) hz g1 l1 d1;have ht1:t<M1.length:=by obtain⟨n,h,_⟩:=s1.has;exact yj h
 have s2:St t f M1 M2:=St.of s1.has k2;obtain⟨ρ3,M3,e3,d',q,Pj,rfl,p3,q3,i3,l3,c3,k3⟩:=ajo (M:=M2) (m:=m-1) (t:=t) (f:=f) (d:=d) (fs:=fs) (hs:=hs) (q:=M1.length) (a3:=none) (a4:=none) (a5:=none) (a6:=none) (a7:=none) (r_ (a_ (by decide) hm)) hz s2.has g1 l1 (k2.gf d1) p2 (i_ ht1) i2 b2 c2 z2;have s3:St t f M2 M3:=St.of s2.has k3;have s03:=s1.trans (s2.trans s3);have awo:=am2 (W:=⟨prog.call (m-1),prog.cls⟩) (M:=M3) (a0:=some (.ref t)) (a1:=some d') (a3:=none) (a4:=none) (a5:=none) (a6:=none) (a7:=none) (by exact a_ l3 (by decide):Pj.length<=100000) p3;obtain⟨v,ev,hv1,hv2⟩:=am1 (M:=M3) (xs:=(Pj.map λf:F=>max f.a f.b)++[0]) (by simp);have ayd:Dm .add (.vl ((Pj.map λf:F=>max f.a f.b).map nD)) (.vl [.int 0]) M3=.ok (.vl (((Pj.map λf:F=>max f.a f.b)++[0]).map nD)) M3:=by rw[Yk _ _ (by simp;exact a_ l3 (by decide))];simp[nD]
 generalize hX:(D.vl ((Pj.map λf:F=>max f.a f.b).map nD))=X at awo ayd;generalize hY:(D.vl (((Pj.map λf:F=>max f.a f.b)++[0]).map nD))=Y at ev ayd;have hv3:v<=2:=by
  rcases dm.mp hv2 with w|w
  . obtain⟨x,hx,rfl⟩:=bf.mp w
    have:=(i3.good x hx).a;have:=(i3.good x hx).b;lia
  . simp at w;exact a_ (f_ w) (mq _)
 have heq:wz M3 (.ref q) (.vl [])=some (decide (Pj=[])):=by
  simp only[wz];cases Pj with
  |nil=>simp[Mw,gf,p3,Sg]|cons a l=>simp[Mw,gf,p3]
 obtain⟨K,M4,hK,k1,k3',ka,kb,p4,s4,l4⟩:∃(K:Nat)(M4:cz),
  (Bu.iff (.cmp .eq (.v 2) (.Hd .nil)) (.o (.asg (.tg (.name 3)) (.bin .add (.i 1) (.call 14 (.p (.v 0) (.i 3)))))) .nil).den ⟨prog.call (m-1),prog.cls⟩ [D.ref t,some d',D.ref q,D.int (1+(v:Int)),none,none,none,none] M3
   = .ok (.next,[some (.ref t),some d',some (.ref q),some (.int K),none,none,none,none]) M4/\1<=K/\K<=3/\(∀f∈Pj,f.a<K)/\(∀f∈Pj,f.b<K)/\M4[q]?=some (.lst (Pj.map F.toD))/\St t f M3 M4/\M4.length=M3.length:=by
  by_cases he:Pj=[]
  . obtain⟨w,M4,ew,lw,sw,llw⟩:=yt (m:=m-1) (r_ (a_ (by decide) hm)) s3.has (many:=3) (by decide) (by decide)
    refine⟨1+w,M4,?_,x_,by lia,by simp[he],by simp[he],sw.keep q _ q3 p3,sw,llw⟩;simp[heq,he,ew]
  . refine⟨1+v,M3,?_,x_,by lia,λx hx=>?_,λx hx=>?_,p3,St.of s3.has (Be.refl _),rfl⟩
    . simp[heq,he]
    . have:=hv1 (max x.a x.b) (xx _ (bf.mpr ⟨x,hx,rfl⟩));lia
    . have:=hv1 (max x.a x.b) (xx _ (bf.mpr ⟨x,hx,rfl⟩));lia
 have p5:(M4++[.dT []])[q]?=some (.lst (Pj.map F.toD)):=yg p4;have hql:=yj p4;obtain⟨ρ6,M6,gq,e6,r2,r3,r4,r8,p6,t6,u6⟩:=ayb (W:=⟨prog.call (m-1),prog.cls⟩) (M:=M4++[.dT []]) (q:=q) (r:=M4.length) (a0:=some (.ref t)) (a1:=some d') (a3:=some (.int K)) (a5:=none) (a6:=none) (a7:=none) hz i3 l3 p5 (by simp) (h_ hql);have p6q:M6[q]?=some (.lst (Pj.map F.toD)):=by rw[u6.oth q (h_ hql)];exact p5
 have hc1:=ajn (W:=⟨prog.call (m-1),prog.cls⟩) (M:=M6) r2 r8 (by exact a_ l3 (by decide):Pj.length<=100000) p6q;have s04:=s03.trans s4;refine⟨K,M4.length,sz,Pj,gq,M6,?_,p6,s04.len,⟨hz,i3,c3,l3,k1,k3',ka,kb,t6⟩,?_⟩
 . simp only[Fn.run,Nx,Nv]
   simp[-a4p,e1,e2,e3,awo,ayd,ev,hK,MW.new,e6,r3,r4,hc1,aad,Ih]
 . refine s04.trans ⟨?_,?_,λa o na h=>?_⟩
   . rw[u6.len];simp
   . obtain⟨n,h,o⟩:=s4.has
     exact⟨n,by rw[u6.oth t (by have:=yj h;exact h_ this)];exact yg h,o⟩
   . rw[u6.oth a (by have:=yj h;exact h_ this)];exact yg h
noncomputable def pD(p:Nat×Nat):D:=.tup [.int p.1,.int p.2]
noncomputable def Meet(hs:List F)(j k:Nat):Prop:=∃f g,hs[j]?=some f/\hs[k]?=some g/\f.b=g.a
structure Ps(hs:List F)(j k:Nat)(ps:List (Nat×Nat)):Prop where
 all:∀p:Nat×Nat,p∈ps↔Meet hs p.1 p.2/\Yo j k p.1 p.2
 len:ps.length<=j*hs.length+k
def Ps.skip(h:Ps hs j k ps)(hf:hs[j]?=some f)(hg:hs[k]?=some g)(n:f.b≠g.a):Ps hs j (k+1) ps:=by
 refine⟨λp=>?_,by have:=h.len;exact a_ this (w_ x_)⟩;rw[h.all p];constructor
 . exact λq=>⟨q.1,by have:=q.2;unfold Yo at *;lia⟩
 . intro q
   refine⟨q.1,?_⟩;have hb:=q.2
   by_cases e:p.1=j/\p.2=k
   . obtain⟨f',g',a,b,c⟩:=q.1
     rw[e.1,hf] at a;rw[e.2,hg] at b;cases a;cases b;exact absurd c n
   . unfold Yo at *;lia
def Ps.put(h:Ps hs j k ps)(hf:hs[j]?=some f)(hg:hs[k]?=some g)(n:f.b=g.a):Ps hs j (k+1) (ps++[(j,k)]):=by
 refine⟨λp=>?_,by have:=h.len;simp;lia⟩;rw[dm,h.all p,uf];constructor
 . rintro(q|q)
   . exact⟨q.1,by have:=q.2;unfold Yo at *;lia⟩
   . subst q;exact⟨⟨f,g,hf,hg,n⟩,by unfold Yo;lia⟩
 . intro q
   by_cases e:p.1=j/\p.2=k
   . right;exact Prod.ext e.1 e.2
   . left;exact⟨q.1,by have:=q.2;unfold Yo at *;lia⟩
def Ps.next(h:Ps hs j hs.length ps):Ps hs (j+1) 0 ps:=by
 refine⟨λp=>?_,by have:=h.len;have e:(j+1)*hs.length=j*hs.length+hs.length:=Nat.succ_mul _ _;exact a_ this (a_ (g_ e) x_)⟩;rw[h.all p];constructor
 . exact λq=>⟨q.1,by have:=q.2;unfold Yo at *;lia⟩
 . intro q
   refine⟨q.1,?_⟩;obtain⟨f,g,a,b,c⟩:=q.1;have:=(ao.mp b).1;have:=q.2;unfold Yo at *;lia
def Rf(f:F)(M:cz):zb (eD f) (.int 0) M=some (.int f.a):=rfl
def Ug(f:F)(M:cz):zb (eD f) (.int 1) M=some (.int f.b):=rfl
def Kg{i:Nat}(h:hs[i]?=some f):zb (Ih hs) (.int i) M=some (eD f):=Hn q_ (by simp[h])
def By:qx .len [Ih hs] M=.ok (.int hs.length) M:=by simp[qx,Bj,Ih]
def Gp(x y:D)(i j:Nat)(ρ:Env):(Tg.names [i,j]).put (.tup [x,y]) ρ=some ((ρ.set i (some x)).set j (some y)):=rfl
def acf(hl:hs.length<=5)(hq:M[q]?=some (.lst (ps.map pD)))(hj:hs[j]?=some f)(hk:hs[k]?=some g)(hp:Ps hs j k ps) :
 ∃(M':cz)(ps':List (Nat×Nat)),Bo.den W [a0,D.ref q,D.int j,eD f,D.int k,eD g] M=.ok (.next,[a0,some (.ref q),some (.int j),some (eD f),some (.int k),some (eD g)]) M' /\
  M'[q]?=some (.lst (ps'.map pD))/\Ps hs j (k+1) ps'/\Up q M M':=by
 have hjl:=(ao.mp hj).1;have hkl:=(ao.mp hk).1
 by_cases h:f.b=g.a
 . have Ip:(ps.map pD).length<100000:=by
    have:=hp.len;have:j*hs.length<=5*5:=Nat.mul_le_mul (e_ (b_ hjl hl)) hl
    rw[dw];lia
   have ap:=K3 (d:=.tup [.int j,.int k]) hq Ip;refine⟨M.set q (.lst ((ps++[(j,k)]).map pD)),ps++[(j,k)],?_,v8 hq,hp.put hj hk h,Up.set _ _ _⟩;simp[-eq_int,Bo,Rf,Ug,Bp,h,K1 hq,ap,pD]
 . refine⟨M,ps,?_,hq,hp.skip hj hk h,Up.refl q M⟩
   simp[-eq_int,Bo,Rf,Ug,Bp,h]
def V5(hm:1<=m)(hl:hs.length<=5) :
 ∃(M':cz)(ps:List (Nat×Nat)),prog.call m 7 [Ih hs] M=.ok (.ref M.length) M'/\M'[M.length]?=some (.lst (ps.map pD))/\Ps hs hs.length 0 ps/\Up M.length (M++[.lst []]) M':=by
 rw[call_of hm rfl];obtain⟨ρ',M',e,b2,b3,b4,b5,ps,rfl,h1,h2,h3⟩:=T9 (W:=⟨prog.call (m-1),prog.cls⟩) (t:=.names [2,3]) (b:=Ej) (it:=.v 0) (ds:=hs.map eD) (ρ:=[Ih hs,D.ref M.length,none,none,none,none]) (M:=M++[.lst []]) (M1:=M++[.lst []]) (by simp[Ih])
  (λj ρ M'=>∃(b2 b3 b4 b5:Option D)(ps:List (Nat×Nat)),ρ=[some (Ih hs),some (.ref M.length),b2,b3,b4,b5]/\M'[M.length]?=some (.lst (ps.map pD))/\Ps hs j 0 ps/\Up M.length (M++[.lst []]) M')
  ⟨none,none,none,none,[],rfl,by simp,⟨λp=>by simp[Yo],by simp⟩,Up.refl _ _⟩
  (λj x ρ M1 hj hI=>by
   obtain⟨b2,b3,b4,b5,ps,rfl,g1,g2,g3⟩:=hI;obtain⟨f,hf,rfl⟩:∃f,hs[j]?=some f/\eD f=x:=by simpa using hj
   obtain⟨ρ2,M2,e2,c4,c5,ps2,rfl,k1,k2,k3⟩:=T9 (W:=⟨prog.call (m-1),prog.cls⟩) (t:=.names [4,5]) (b:=Bo) (it:=.v 0) (ds:=hs.map eD) (ρ:=[Ih hs,D.ref M.length,D.int j,eD f,b4,b5]) (M:=M1) (M1:=M1) (by simp[Ih])
    (λk ρ M'=>∃(b4 b5:Option D)(ps:List (Nat×Nat)),ρ=[some (Ih hs),some (.ref M.length),some (.int j),some (eD f),b4,b5]/\M'[M.length]?=some (.lst (ps.map pD))/\Ps hs j k ps/\Up M.length M1 M')
    ⟨b4,b5,ps,rfl,g1,g2,Up.refl _ _⟩
    (λk y ρ M2 hk hI=>by
     obtain⟨b4,b5,ps,rfl,k1,k2,k3⟩:=hI;obtain⟨g,hg,rfl⟩:∃g,hs[k]?=some g/\eD g=y:=by simpa using hk
     obtain⟨M3,ps3,e3,p3,t3,u3⟩:=acf (W:=⟨prog.call (m-1),prog.cls⟩) (M:=M2) (a0:=some (Ih hs)) hl k1 hf hg k2;exact⟨_,.next,_,M3,Gp _ _ _ _ _,e3,.inl rfl,some (.int k),some (eD g),ps3,rfl,p3,t3,k3.trans u3⟩)
   rw[dw] at k2;exact⟨_,.next,_,M2,Gp _ _ _ _ _,by simp[Ej,Jc,e2],.inl rfl,some (.int j),some (eD f),c4,c5,ps2,rfl,k1,k2.next,g3.trans k3⟩)
 rw[dw] at h2;refine⟨M',ps,?_,h1,h2,h3⟩;simp[Fn.run,Mi,Mh,MW.new,Jd,e]
noncomputable def bothW(hs:List F)(gq:List (List Kx×D))(x y:Int):Option D:=if x=-1 then some (.int y) else if y=-1 then some (.int x) else Ad gq [.inl x,.inl y]
def aaj(hm:1<=m)(hr:M[r]?=some (.dT gq))(h:bothW hs gq x y=some v):prog.call m 6 [.ref r,.int x,.int y] M=.ok v M:=by
 rw[call_of hm rfl];unfold bothW at h
 by_cases hx:x=-1
 . rw[dh hx] at h;cases h
   simp[Fn.run,Jb,Ja,hx]
 . rw[bx hx] at h
   by_cases hy:y=-1
   . rw[dh hy] at h;cases h
     simp[Fn.run,Jb,Ja,hx,hy]
   . rw[bx hy] at h
     simp[Fn.run,Jb,Ja,hx,hy,ab6 hr (Vw x y),h]
noncomputable def ajp(hs:List F)(c:F):Int:=if c∈hs then(pos c hs:Int) else -1
def Ln(hs:List F)(f g:F):ent hs f g=ajp hs (f.comp g):=rfl
def ag7(nd:hs.Nodup){i:Nat}(h:hs[i]?=some f):ajp hs f=i:=by have m:f∈hs:=au h;rw[ajp,dh m,afa nd h]
def Tf:∀k:List Kx,Ql (Sy k)=some k:=by
 intro k;show Zy (k.map ajc)=some k
 induction k with
 |nil=>rfl|cons a l ih=>cases a<;>simp[Zy,ajc,Sx,ih]
theorem acg:∀gq:List (List Kx×D),Ef (gq.map λp=>Sy p.1)=some (gq.map (·.1))
 |[]=>rfl|p::l=>by simp[Ef,Tf,acg l]
theorem ach:∀ps:List (Nat×Nat),Ef (ps.map pD)=some (ps.map λp=>ky p.1 p.2)
 |[]=>rfl|p::l=>by simp[Ef,pD,ach l,ky]
def aci{gq:List (List Kx×D)}(h:Ad gq q=some v):∃p∈gq,p.1=q:=by
 unfold Ad at h;cases e:gq.find? (λp=>decide (p.1=q)) with
 |none=>rw[e] at h;cases h|some p=>exact⟨p,List.mem_of_find?_eq_some e,by simpa using List.find?_some e⟩
section
variable{sz:Nat->Nat}{K:Nat}{hs:List F}{gq:List (List Kx×D)}(P:Nb sz K hs gq)
include P
theorem Nb.look(hj:hs[j]?=some f)(hk:hs[k]?=some g)(h:f.b=g.a):Ad gq (ky j k)=some (.int (ent hs f g)) :=
 P.tb.look j k f g hj hk h (.inl (ao.mp hj).1)
theorem Nb.no(h:¬Meet hs j k):Ad gq (ky j k)=none:=by apply ajl;intro p hp e;obtain⟨j',k',f,g,rfl,a,b,c,_⟩:=P.tb.keys p hp;obtain⟨rfl,rfl⟩:=aag e;exact h ⟨f,g,a,b,c⟩
theorem Nb.kl:gq.length<=25:=by
 have:=P.tb.len;have:hs.length*hs.length<=5*5:=Nat.mul_le_mul P.len P.len
 lia
theorem Nb.plain:Eg (gq.map (·.1))=true:=by have:=P.kl;simp only[Eg,dw,aq,dj];refine⟨a_ this (by decide),?_⟩;rw[gn];intro k hk;obtain⟨p,hp,rfl⟩:=bf.mp hk;obtain⟨j,k,f,g,rfl,_⟩:=P.tb.keys p hp;simp[ky]
theorem Nb.sm:ae4 gq=true:=by
 unfold ae4;rw[gn];intro p hp;obtain⟨j,k,f,g,rfl,a,b,_⟩:=P.tb.keys p hp;have:=(ao.mp a).1;have:=(ao.mp b).1;have:=P.len;simp[ky]
 lia
theorem Nb.same(h:Ps hs hs.length 0 ps):Iz (gq.map (·.1)) (ps.map λp=>ky p.1 p.2)=true:=by
 unfold Iz;rw[aq,gn,gn];constructor
 . intro x hx
   obtain⟨p,hp,rfl⟩:=bf.mp hx;obtain⟨j,k,f,g,rfl,a,b,c,d⟩:=P.tb.keys p hp;rw[Ao];exact⟨ky j k,bf.mpr ⟨(j,k),(h.all (j,k)).mpr ⟨⟨f,g,a,b,c⟩,d⟩,rfl⟩,by simp⟩
 . intro y hy
   obtain⟨p,hp,rfl⟩:=bf.mp hy;obtain⟨⟨f,g,a,b,c⟩,d⟩:=(h.all p).mp hp;obtain⟨q,hq,e⟩:=aci (P.look a b c);rw[Ao];exact⟨q.1,bf.mpr ⟨q,hq,rfl⟩,by simp[e]⟩
theorem Nb.Du(h:c∈hs\/c.Pu):(ajp hs c=-1/\c.Pu)\/∃i:Nat,hs[i]?=some c/\ajp hs c=i:=by
 by_cases m:c∈hs
 . exact .inr ⟨pos c hs,aaa c m,dh m⟩
 . exact .inl ⟨bx m,h.resolve_left m⟩
theorem Nb.am3{j k l:Nat}(hj:hs[j]?=some f)(hk:hs[k]?=some g)(hl:hs[l]?=some h)(e1:f.b=g.a)(e2:g.b=h.a) :
 ∃v:Int,bothW hs gq (ent hs f g) l=some (.int v)/\bothW hs gq j (ent hs g h)=some (.int v):=by
 have mf:=au hj;have mg:=au hk;have mh:=au hl;have of:=P.inv.good f mf;have og:=P.inv.good g mg;have oh:=P.inv.good h mh;have as:=afb (h:=h) of og e1;rw[Ln,Ln];have nj:¬((j:Int)=-1):=by lia
 have nl:¬((l:Int)=-1):=by lia
 rcases P.Du (P.cl f mf g mg e1) with⟨x1,i1⟩|⟨u,hu,x1⟩
 . have c1:=aab (of.comp og e1) i1
   have ha:f.a=g.b:=i1.1;have left:(f.comp g).comp h=h:=by rw[c1];show(idF sz f.a).comp h=h;rw[ha,e2];exact id_comp oh
   rcases P.Du (P.cl g mg h mh e2) with⟨x2,i2⟩|⟨w,hw,x2⟩
   . have c2:=aab (og.comp oh e2) i2
     have right:f.comp (g.comp h)=f:=by rw[c2];show f.comp (idF sz g.a)=f;rw[<- e1];exact comp_id of
     have fh:f=h:=by rw[<- right,<- as,left]
     have jl:j=l:=by rw[<- afa P.inv.nd hj,<- afa P.inv.nd hl,fh]
     refine⟨l,by simp[bothW,x1],?_⟩;rw[x2,bothW,bx nj,dh rfl,jl]
   . have nw:¬((w:Int)=-1):=by lia
     refine⟨l,by simp[bothW,x1],?_⟩;rw[x2,bothW,bx nj,bx nw];have:=P.look hj hw (show f.b=(g.comp h).a from e1);rw[Ln,<- as,left,ag7 P.inv.nd hl] at this;exact this
 . have nu:¬((u:Int)=-1):=by lia
   have lu:=P.look hu hl (show(f.comp g).b=h.a from e2);rcases P.Du (P.cl g mg h mh e2) with⟨x2,i2⟩|⟨w,hw,x2⟩
   . have c2:=aab (og.comp oh e2) i2
     have right:f.comp (g.comp h)=f:=by rw[c2];show f.comp (idF sz g.a)=f;rw[<- e1];exact comp_id of
     refine⟨j,?_,?_⟩
     . rw[x1,bothW,bx nu,bx nl]
       rw[Ln,as,right,ag7 P.inv.nd hj] at lu;exact lu
     . rw[x2,bothW,bx nj,dh rfl]
   . have nw:¬((w:Int)=-1):=by lia
     refine⟨ajp hs ((f.comp g).comp h),?_,?_⟩
     . rw[x1,bothW,bx nu,bx nl];exact lu
     . rw[x2,bothW,bx nj,bx nw]
       have:=P.look hj hw (show f.b=(g.comp h).a from e1);rw[Ln,<- as] at this;exact this
end
def asu(hm:1<=m)(P:Nb sz K hs gq):prog.call m 9 [.int K,Ih hs] M=.ok .non M:=by
 rw[call_of hm rfl];obtain⟨ρ',M',e,⟨b2,rfl⟩,rfl⟩:=ab8 (W:=⟨prog.call (m-1),prog.cls⟩) (t:=.name 2) (b:=Ft) (it:=.v 1) (ds:=hs.map eD) (ρ:=[D.int K,Ih hs,none]) (M:=M) (M1:=M) (by simp[Ih])
  (λj ρ M'=>(∃b2:Option D,ρ=[some (.int K),some (Ih hs),b2])/\M'=M) ⟨⟨none,rfl⟩,rfl⟩
  (λj x ρ M1 hj hI=>by
   obtain⟨⟨b2,rfl⟩,rfl⟩:=hI;obtain⟨f,hf,rfl⟩:∃f,hs[j]?=some f/\eD f=x:=by simpa using hj
   have mf:=au hf;have h1:=P.Xu f mf;have h2:=P.V4 f mf;refine⟨_,.next,_,M1,rfl,?_,.inl rfl,⟨some (eD f),rfl⟩,rfl⟩;have h1':(f.a:Int)<K:=m_ h1
   have h2':(f.b:Int)<K:=m_ h2
   have z1:(0:Int)<=(f.a:Int):=q_
   have z2:(0:Int)<=(f.b:Int):=q_
   simp[Ft,Rf,Ug,h1,h2,h1',h2',z1,z2])
 have k1:(1:Int)<=K:=by have:=P.k1;exact n_ this
 have k3:(K:Int)<=3:=by have:=P.k3;exact n_ this
 have l5:¬(5:Int)<(hs.length:Int):=by have:=P.len;lia
 simp[Fn.run,Np,Nk,k1,k3,By,l5,Ka,e]
def aye{j k:Nat}(hm:1<=m)(P:Nb sz K hs gq)(hj:hs[j]?=some f)(hk:hs[k]?=some g)(h:f.b=g.a):prog.call m 8 [Ih hs,.int (ent hs f g),.int f.a,.int g.b] M=.ok (.bl true) M:=by
 rw[call_of hm rfl,Ln];have mf:=au hj;have mg:=au hk;rcases P.Du (P.cl f mf g mg h) with⟨x1,i1⟩|⟨u,hu,x1⟩
 . have ha:f.a=g.b:=i1.1
   simp[Fn.run,Fq,Fp,x1,ha]
 . have hul:=(ao.mp hu).1
   have nu:¬((u:Int)=-1):=by lia
   have z:(0:Int)<=(u:Int):=q_
   have bci:(u:Int)<(hs.length:Int):=m_ hul
   have e:wz M (eD (f.comp g)) (.tup [.int f.a,.int g.b])=some true:=by show Sg (Mw M 5) [.int f.a,.int g.b] [.int f.a,.int g.b]=some true;rw[Ei (Lh M 4 _ _) (Ei (Lh M 4 _ _) (show Sg (Mw M 5) [] []=some true from rfl))];simp
   simp[Fn.run,Fq,Fp,x1,nu,z,hul,bci,By,Kg hu,e]
def asv(hm:2<=m)(P:Nb sz K hs gq)(hr:M[r]?=some (.dT gq)):∃M',prog.call m 10 [Ih hs,.ref r] M=.ok .non M'/\Be M M'/\M'.length=M.length+1:=by
 rw[call_of (a_ (by decide) hm) rfl];obtain⟨M1,ps,e1,p1,t1,u1⟩:=V5 (M:=M) (m:=m-1) (hs:=hs) (r_ hm) P.len;have k1:Be M M1:=λa o h=>by rw[u1.oth a (by have:=yj h;exact h_ this)];exact yg h
 have r1:=k1 r _ hr;have hks:(keysOf M1 (.ref r)).bind Ef=some (gq.map (·.1)):=by simp only[keysOf,r1,uh,acg]
 have hkp:(keysOf M1 (.ref M.length)).bind Ef=some (ps.map λp=>ky p.1 p.2):=by simp only[keysOf,p1,gf,uh,ach]
 have Ip:Eg (ps.map λp=>ky p.1 p.2)=true:=by
  have:=t1.len;have:hs.length*hs.length<=5*5:=Nat.mul_le_mul P.len P.len
  simp only[Eg,dw,aq,dj];refine⟨by lia,?_⟩;rw[gn];intro k hk;obtain⟨p,hp,rfl⟩:=bf.mp hk;simp[ky]
 have bcl:(Ex.Vs (.v 1) (.v 2)).den ⟨prog.call (m-1),prog.cls⟩ [Ih hs,D.ref r,D.ref M.length,none,none] M1=.ok (.bl false) M1:=by rw[Yi];simp only[O8,List.getElem?_cons_succ,List.getElem?_cons_zero,Res.Bs,hks,P.plain,hkp,Ip,P.same t1,jy,ql]
 obtain⟨ρ',M',e,⟨b3,b4,rfl⟩,rfl⟩:=K4 (W:=⟨prog.call (m-1),prog.cls⟩) (t:=.names [3,4]) (b:=Gr) (it:=.v 2) (d:=.ref M.length) (ds:=ps.map pD) (ρ:=[Ih hs,D.ref r,D.ref M.length,none,none]) (M:=M1) (M1:=M1) (by simp) (p8 p1)
  (λj ρ M'=>(∃b3 b4:Option D,ρ=[some (Ih hs),some (.ref r),some (.ref M.length),b3,b4])/\M'=M1) ⟨⟨none,none,rfl⟩,rfl⟩ (λi ρ M h=>by rw[h.2];exact p8 p1)
  (λi x ρ M2 hx hI=>by
   obtain⟨⟨b3,b4,rfl⟩,rfl⟩:=hI;obtain⟨p,hp,rfl⟩:∃p,ps[i]?=some p/\pD p=x:=by simpa using hx
   obtain⟨⟨f,g,a,b,c⟩,d⟩:=(t1.all p).mp (au hp);refine⟨_,.next,_,M2,Gp _ _ _ _ _,?_,.inl rfl,⟨some (.int p.1),some (.int p.2),rfl⟩,rfl⟩;have lk:=ab6 r1 (Vw p.1 p.2);rw[show([.inl (p.1:Int),.inl (p.2:Int)]:List Kx)=ky p.1 p.2 from rfl,P.look a b c] at lk;simp[Gr,lk,Kg a,Kg b,Rf,Ug,aye (show 1<=m-1 by exact r_ hm) P a b c])
 refine⟨M',?_,k1,by rw[u1.len];simp⟩;simp[Fn.run,Pz,Py,e1,bcl,Mj,e]
def asw(hm:2<=m)(P:Nb sz K hs gq)(hr:M[r]?=some (.dT gq)):∃M',prog.call m 11 [Ih hs,.ref r] M=.ok .non M'/\Be M M'/\M'.length=M.length+1:=by
 rw[call_of (a_ (by decide) hm) rfl];obtain⟨M1,ps,e1,p1,t1,u1⟩:=V5 (M:=M) (m:=m-1) (hs:=hs) (r_ hm) P.len;have k1:Be M M1:=λa o h=>by rw[u1.oth a (by have:=yj h;exact h_ this)];exact yg h
 have r1:=k1 r _ hr;have hl:=P.len;obtain⟨ρ',M',e,⟨b3,b4,b5,b6,b7,rfl⟩,rfl⟩:=K4 (W:=⟨prog.call (m-1),prog.cls⟩) (t:=.names [3,4]) (b:=Fv) (it:=.v 2) (d:=.ref M.length) (ds:=ps.map pD) (ρ:=[Ih hs,D.ref r,D.ref M.length,none,none,none,none,none]) (M:=M1) (M1:=M1) (by simp) (p8 p1)
  (λj ρ M'=>(∃b3 b4 b5 b6 b7:Option D,ρ=[some (Ih hs),some (.ref r),some (.ref M.length),b3,b4,b5,b6,b7])/\M'=M1) ⟨⟨none,none,none,none,none,rfl⟩,rfl⟩ (λi ρ M h=>by rw[h.2];exact p8 p1)
  (λi x ρ M2 hx hI=>by
   obtain⟨⟨b3,b4,b5,b6,b7,rfl⟩,rfl⟩:=hI;obtain⟨p,hp,rfl⟩:∃p,ps[i]?=some p/\pD p=x:=by simpa using hx
   obtain⟨⟨f,g,a,b,c⟩,d⟩:=(t1.all p).mp (au hp);obtain⟨ρ3,M3,e3,⟨c5,c6,c7,rfl⟩,rfl⟩:=Ax (W:=⟨prog.call (m-1),prog.cls⟩) (t:=.name 5) (b:=Df) (it:=.blt .len (.o (.v 0))) (n:=hs.length) (ρ:=[Ih hs,D.ref r,D.ref M.length,D.int p.1,D.int p.2,b5,b6,b7]) (M:=M2) (M1:=M2) (by simp[By]) (a_ hl (by decide))
    (λj ρ M'=>(∃b5 b6 b7:Option D,ρ=[some (Ih hs),some (.ref r),some (.ref M.length),some (.int p.1),some (.int p.2),b5,b6,b7])/\M'=M2) ⟨⟨b5,b6,b7,rfl⟩,rfl⟩
    (λl ρ M4 hll hI=>by
     obtain⟨⟨b5,b6,b7,rfl⟩,rfl⟩:=hI;have Yl:hs[l]?=some hs[l]:=by simp[hll]
     have Xl:=a4x r1 (Vw p.2 l);rw[show([.inl (p.2:Int),.inl (l:Int)]:List Kx)=ky p.2 l from rfl] at Xl
     by_cases q:g.b=hs[l].a
     . rw[P.look b Yl q] at Xl
       obtain⟨v,v1,v2⟩:=P.am3 a b Yl c q;have lk1:=ab6 r1 (Vw p.1 p.2);rw[show([.inl (p.1:Int),.inl (p.2:Int)]:List Kx)=ky p.1 p.2 from rfl,P.look a b c] at lk1;have lk2:=ab6 r1 (Vw p.2 l);rw[show([.inl (p.2:Int),.inl (l:Int)]:List Kx)=ky p.2 l from rfl,P.look b Yl q] at lk2;refine⟨_,.next,_,M4,rfl,?_,.inl rfl,⟨some (.int l),some (.int v),some (.int v),rfl⟩,rfl⟩;simp[Df,Xl,lk1,lk2,aaj (show 1<=m-1 by exact r_ hm) r1 v1,aaj (show 1<=m-1 by exact r_ hm) r1 v2]
     . rw[P.no (λ⟨g',h',x,y,z⟩=>by rw[b] at x;rw[Yl] at y;cases x;cases y;exact q z)] at Xl
       refine⟨_,.cont,_,M4,rfl,?_,.inr rfl,⟨some (.int l),b6,b7,rfl⟩,rfl⟩;simp[Df,Xl])
   refine⟨_,.next,_,M3,Gp _ _ _ _ _,?_,.inl rfl,⟨some (.int p.1),some (.int p.2),c5,c6,c7,rfl⟩,rfl⟩;simp[Fv,Kc,e3])
 refine⟨M',?_,k1,by rw[u1.len];simp⟩;simp[Fn.run,Nr,Nq,e1,Kd,e]
noncomputable def Made(n r K:Nat)(hs:List F)(gq:List (List Kx×D))(M:cz):Prop:=M[n]?=some (.ins 2 [(2,.int K),(1,Ih hs),(0,.ref r)])/\M[r]?=some (.dT gq)
def asx(hm:3<=m)(P:Nb sz K hs gq)(hr:M[r]?=some (.dT gq))(hn:M[n]?=some (.ins 2 [])) :
 ∃M' r',prog.call m 0 [.ref n,.int K,Ih hs,.ref r] M=.ok .non M'/\Made n r' K hs gq M'/\M.length<=r'/\r'<M'.length/\(∀(a:Nat)(o:MO),a≠n->M[a]?=some o->M'[a]?=some o):=by
 rw[call_of (a_ (by decide) hm) rfl];have d1:=asu (M:=M) (m:=m-1) (r_ (a_ (by decide) hm)) P;obtain⟨M1,e1,k1,l1⟩:=asv (M:=M) (m:=m-1) (r_ hm) P hr;obtain⟨M2,e2,k2,l2⟩:=asw (M:=M1) (m:=m-1) (r_ hm) P (k1 r _ hr);have k:=k1.trans k2;have n2:=k n _ hn;have r2:=k r _ hr;have hrn:r≠n:=λe=>by rw[e,hn] at hr;cases hr
 have s1:Q5 (.ref n) 2 (.int K) M2=some (M2.set n (.ins 2 [(2,.int K)])):=by simp[Q5,n2,T7]
 have n3:=v8 (o:=.ins 2 [(2,.int K)]) n2;have s2:Q5 (.ref n) 1 (Ih hs) (M2.set n (.ins 2 [(2,.int K)]))=some (M2.set n (.ins 2 [(2,.int K),(1,Ih hs)])):=by simp[Q5,n3,T7]
 have n4:=v8 (o:=.ins 2 [(2,.int K),(1,Ih hs)]) n2;have r4:(M2.set n (.ins 2 [(2,.int K),(1,Ih hs)]))[r]?=some (.dT gq):=by rw[uq (j0 hrn)];exact r2
 have dc:qx .dict [.ref r] (M2.set n (.ins 2 [(2,.int K),(1,Ih hs)]))=.ok (.ref M2.length) (M2.set n (.ins 2 [(2,.int K),(1,Ih hs)])++[.dT gq]):=by simp[qx,r4,P.sm,MW.new]
 have n5:(M2.set n (.ins 2 [(2,.int K),(1,Ih hs)])++[.dT gq])[n]?=some (.ins 2 [(2,.int K),(1,Ih hs)]):=yg n4;have s3:Q5 (.ref n) 0 (.ref M2.length) (M2.set n (.ins 2 [(2,.int K),(1,Ih hs)])++[.dT gq])=some ((List.set M2 n (MO.ins 2 [(2,.int K),(1,Ih hs)])++[MO.dT gq]).set n (MO.ins 2 [(2,.int K),(1,Ih hs),(0,.ref M2.length)])):=by simp[Q5,n5,T7]
 have hnl:=yj n2;refine⟨_,M2.length,?_,⟨v8 (o:=.ins 2 [(2,.int K),(1,Ih hs),(0,.ref M2.length)]) n5,?_⟩,by lia,by simp,λa o na h=>?_⟩
 . simp[Fn.run,J5,J2,d1,e1,e2,s1,s2,dc,s3]
 . rw[uq (h_ hnl)]
   rw[jm (by simp)];simp
 . rw[uq (j0 na)]
   exact yg (by rw[uq (j0 na)];exact k a o h)
end K03
namespace L2
open PySem PySem.Spec PyProof.Rows
abbrev Key:=Sum Int Str
noncomputable def V6:Key->Value->Bool
 |.inl k,v=>Value.isInt k v|.inr x,v=>Value.isStrOf x v
noncomputable def bcm(w:World):Key->Int
 |.inl k=>hashInt k|.inr x=>hashStr w x
theorem Az:∀{k:Key}{v:Value},V6 k v=true->(∃i t,k=Sum.inl i/\v=Value.int i t)\/(∃x t,k=Sum.inr x/\v=Value.str x t)
 |.inl i,v,h=>by
  obtain⟨t,e⟩:=Value.isInt_shape (k:=i) (v:=v) h;exact .inl ⟨i,t,rfl,e⟩
 |.inr x,v,h=>by
  obtain⟨t,e⟩:=Value.isStrOf_shape (x:=x) (v:=v) h;exact .inr ⟨x,t,rfl,e⟩
def ajq(i:Int)(t:Tok):V6 (.inl i) (.int i t)=true:=by simp[V6,Value.isInt]
def ajr(x:Str)(t:Tok):V6 (.inr x) (.str x t)=true:=by simp[V6,Value.isStrOf]
def ayf(a b:Int):decide ((Sum.inl a:Key)=Sum.inl b)=(a==b):=by
 by_cases e:a=b
 . subst e;simp
 . have h:¬(Sum.inl a:Key)=Sum.inl b:=λq=>e (Sum.inl.inj q)
   rw[tu h];exact(rm.mpr e).symm
def ayg(a b:Str):decide ((Sum.inr a:Key)=Sum.inr b)=decide (a=b):=by
 by_cases e:a=b
 . subst e;simp
 . have h:¬(Sum.inr a:Key)=Sum.inr b:=λq=>e (Sum.inr.inj q)
   rw[tu h,tu e]
def ayh(a:Int)(b:Str):decide ((Sum.inl a:Key)=Sum.inr b)=false:=tu (λq=>nomatch q)
def ayi(a:Str)(b:Int):decide ((Sum.inr a:Key)=Sum.inl b)=false:=tu (λq=>nomatch q)
noncomputable def m9(prog:Program)(w:World):PySem.KeyKind prog w Key where
 is:=V6
 hash:=bcm w
 inj:=λv a b ha hb=>by
  rcases Az ha with⟨i,t,rfl,rfl⟩|⟨x,t,rfl,rfl⟩
  . rcases Az hb with⟨j,u,rfl,e⟩|⟨y,u,rfl,e⟩
    . injection e with e1 _;rw[e1]
    . exact nomatch e
  . rcases Az hb with⟨j,u,rfl,e⟩|⟨y,u,rfl,e⟩
    . exact nomatch e
    . injection e with e1 _;rw[e1]
 byValue:=λk v h=>by rcases Az h with⟨i,t,rfl,rfl⟩|⟨x,t,rfl,rfl⟩<;>rfl
 pyHash:=λhv h=>by
  rcases Az hv with⟨i,t,rfl,rfl⟩|⟨x,t,rfl,rfl⟩
  . exact wpAny_pyHash_int h
  . exact wpAny_pyHash_str h
 eqBool:=λhu hv h=>by
  rcases Az hu with⟨i,t,rfl,rfl⟩|⟨x,t,rfl,rfl⟩
  . rcases Az hv with⟨j,u,rfl,rfl⟩|⟨y,u,rfl,rfl⟩
    . rw[ayf] at h;exact wpAny_eqBool_int h
    . rw[ayh] at h;exact SeqAt.EqAt.int_str i t y u _ _ _ _ h
  . rcases Az hv with⟨j,u,rfl,rfl⟩|⟨y,u,rfl,rfl⟩
    . rw[ayi] at h;exact SeqAt.EqAt.str_int x t j u _ _ _ _ h
    . rw[ayg] at h;exact wpAny_eqBool_str h
 «strs»:=λk x t v h=>by
  rcases Az h with⟨i,u,rfl,e⟩|⟨y,u,rfl,e⟩
  . exact nomatch e
  . injection e with e1 _
    subst e1;cases v<;>rfl
def acj(prog:Program)(w:World)(i:Int)(t:Tok):(m9 prog w).is (.inl i) (.int i t)=true:=ajq i t
def ack(prog:Program)(w:World)(x:Str)(t:Tok):(m9 prog w).is (.inr x) (.str x t)=true:=ajr x t
end L2
namespace L2
open PySem PySem.Spec PyProof.Rows
set_option genInjectivity true in
inductive V where
 |non|bl (b:Bool)|int (i:Int)|str (x:Str)|byt (b:Array UInt8)|flt (b:UInt64)|ref (a:Addr)|ty (n:String)
 deriving DecidableEq
def RelV:V->Value->Prop
 |.non,u=>u=Value.none|.bl b,u=>u=Value.bool b|.int i,u=>∃t,u=Value.int i t|.str x,u=>∃t,u=Value.str x t|.byt b,u=>∃t,u=Value.bytes b t|.flt b,u=>∃t,u=Value.float b t|.ref a,u=>u=Value.ref a|.ty n,u=>u=Value.type n
abbrev Vals:List V->List Value->Prop:=Paired RelV
theorem Vals.length(r:Vals xs us):xs.length=us.length:=Paired.length r
theorem Vals.get:∀{xs:List V}{us:Zl}{i:Nat}{x:V},Vals xs us->xs[i]?=some x->∃u,us[i]?=some u/\RelV x u
 |_,_,_,_,.nil,e=>by simp at e|_,_,0,_,.cons r _,e=>by simp at e;subst e;exact⟨_,rfl,r⟩
 |_,_,i+1,x,.cons _ t,e=>by
  obtain⟨u,h1,h2⟩:=Vals.get (i:=i) (x:=x) t (by simpa using e);exact⟨u,by simpa using h1,h2⟩
theorem Vals.set{x:V}{u:Value}(r:RelV x u):∀{xs:List V}{us:Zl}(i:Nat),Vals xs us->Vals (xs.set i x) (us.set i u)
 |_,_,_,.nil=>.nil|_,_,0,.cons _ t=>.cons r t|_,_,i+1,.cons q t=>.cons q (Vals.set r i t)
theorem Vals.append:∀{xs ys:List V}{us ws:Zl},Vals xs us->Vals ys ws->Vals (xs++ys) (us++ws)
 |_,_,_,_,.nil,s=>s|_,_,_,_,.cons r t,s=>.cons r (Vals.append t s)
theorem Vals.take:∀{xs:List V}{us:Zl}(n:Nat),Vals xs us->Vals (xs.take n) (us.take n)
 |_,_,0,_=>.nil|_,_,_+1,.nil=>.nil|_,_,n+1,.cons r t=>.cons r (Vals.take n t)
theorem Vals.drop:∀{xs:List V}{us:Zl}(n:Nat),Vals xs us->Vals (xs.drop n) (us.drop n)
 |_,_,0,r=>r|_,_,_+1,.nil=>.nil|_,_,n+1,.cons _ t=>Vals.drop n t
def My:Option V->Option Value->Prop
 |some v,some u=>RelV v u|none,none=>True|_,_=>False
def KV{κ:Type}:List (κ×V)->List (κ×Value)->Prop:=Paired λ(p:κ×V) (q:κ×Value)=>p.1=q.1/\RelV p.2 q.2
noncomputable def kV:Key->V
 |.inl i=>.int i|.inr x=>.str x
inductive HO where
 |lst (xs:List V)
 |tup (xs:List V)
 |dK (gq:List (Key×V))|dT (gq:List (List Key×V))
 |set (S:Int->Bool) (n:Nat)
 |ins (C dx:Addr) (fs:List (Str×V))
 |own (x:Addr)
 |xd (fs:List (Str×V))
 |met (f x:Addr)
 |O7 (lo hi:Int)
 |Jv (o:Obj) (u:HO)
 |tbl (ps:U1)
 |ext (φ:Heap->Prop)
abbrev Hp:=Addr->Option HO
noncomputable def upd(H:Hp)(a:Addr)(o:HO):Hp:=λb=>if b=a then some o else H b
def vh:upd H a o a=some o:=by unfold upd;rw[dh rfl]
def j5(h:b≠a):upd H a o b=H b:=by unfold upd;rw[bx h]
def ag8{H:Hp}(h:H a=some o)(h':H b=some u)(d:o≠u):a≠b:=by intro e;subst e;rw[h] at h';exact d (jq h')
def km{H:Hp}(h:H a=some o)(h':H b=none):a≠b:=by intro e;subst e;rw[h] at h';cases h'
section
variable(P:Program)(w:World)
def V7(h:Heap)(a:Addr)(items:U1):Prop:=∃o,h.get? a=some o/\o.cls=.type "tuple"/\∃n,o.data=.seq items n/\o.dict=none
def V7.is(x:V7 h a items):IsTup h a items:=let ⟨o,h1,h2,n,h3,_⟩:=x;⟨o,h1,h2,n,h3⟩
def V7.new(h:Heap)(items:U1):V7 (h.push { cls:=.type "tuple",data:=.seq items }) h.objs.size items:=⟨_,bh _ rfl,rfl,_,rfl,rfl⟩
def Bk(H:Hp)(h:Heap)(a:Addr):HO->Prop
 |.lst xs=>xs.length<=sizeLine/\∃(yf:Zl)(n:Nat),Vals xs yf/\h.get? a=some { cls:=.type "list",data:=.seq yf.toArray n }|.tup xs=>xs.length<=sizeLine/\∃yf:List Value,Vals xs yf/\V7 h a yf.toArray|.dK gq=>gq.length<=sizeLine/\(a==sysModules)=false/\∃vs,KV gq vs/\h.DictOf (m9 P w) a vs
 |.dT gq=>gq.length<=sizeLine/\(a==sysModules)=false/\∃xs:List (List Key×Addr×Value),
  Paired (λ(p:List Key×V) (q:List Key×Addr×Value)=>p.1=q.1/\H q.2.1=some (.tup (p.1.map kV))/\RelV p.2 q.2.2) gq xs /\
  ∃o es ep,h.get? a=some o/\o.ExactDict/\o.data=.dict es ep/\es.toList=xs.map (entryOfKey (tupleKind (m9 P w)))/\(xs.map (·.1)).Nodup
 |.set S n=>h.SetOf (intKind P w) a S n
 |.ins C dx fs=>H dx=some (.own a)/\fs.length<=1000/\dx≠a/\h.get? a=some (PySem.W.instObj C dx) /\
  ∃mA,h.Ns1 dx mA/\(∀f,My (fs.lookup f) (mA f))/\PySem.Within mA (fs.map (·.1))
 |.own _=>∃o,h.get? a=some o|.xd fs=>∃mA,h.Ns1 a mA/\∀f,My (fs.lookup f) (mA f)|.O7 lo hi=>∃t u v,h.get? a=some { cls:=.type "range",data:=.fields #[.int lo t,.int hi u,.int 1 v] }|.Jv o u=>h.get? a=some o/\Bk H h a u|.tbl ps=>h.get? a=some { cls:=.none,data:=.fields ps }|.met f x=>h.get? a=some (PySem.W.methodObj (.ref f) (.ref x))|.ext φ=>φ h/\(∃o,h.get? a=some o)/\∀h1 h2:Heap,φ h1->(∀o,h1.get? a=some o->h2.get? a=some o)->φ h2
def Qg(H:Hp)(h:Heap):Prop:=∀a o,H a=some o->Bk P w H h a o
end
theorem Bk.lt(x:Bk P w H h a o):a<h.objs.size:=by
 cases o with
 |lst xs=>obtain⟨_,_,_,_,e⟩:=x;exact az e
 |tup xs=>obtain⟨_,_,_,p⟩:=x;exact(V7.is p).lt
 |dK gq=>obtain⟨_,_,_,_,o,_,_,e,_⟩:=x;exact az e
 |dT gq=>obtain⟨_,_,_,_,o,_,_,e,_⟩:=x;exact az e
 |set S n=>obtain⟨o,_,_,_,e,_⟩:=x;exact az e
 |ins C dx fs=>obtain⟨_,_,_,e,_⟩:=x;exact az e
 |own y=>obtain⟨_,e⟩:=x;exact az e
 |xd fs=>obtain⟨_,⟨_,_,_,e,_⟩,_⟩:=x;exact az e
 |O7 lo hi=>obtain⟨_,_,_,e⟩:=x;exact az e
 |Jv ob u=>obtain⟨e,_⟩:=x;exact az e
 |tbl ps=>exact az (show h.get? a=some _ from x)
 |met f y=>exact az (show h.get? a=some _ from x)
 |ext φ=>obtain⟨_,⟨_,e⟩,_⟩:=x;exact az e
theorem Paired.ayk{α β:Type}{F G:α->β->Prop}:∀{l₁:List α}{l₂:List β},Paired F l₁ l₂->(∀a b,F a b->G a b)->Paired G l₁ l₂
 |_,_,.nil,_=>.nil|_,_,.cons r t,f=>.cons (f _ _ r) (Paired.ayk t f)
def Bk.stay(x:Bk P w H h a o)(k:∀b u,(b=a\/H b=some (.own a))->h.get? b=some u->h'.get? b=some u)(ho:∀b,H b=some (.own a)->H' b=some (.own a))(ht:∀b xs,H b=some (.tup xs)->H' b=some (.tup xs)):Bk P w H' h' a o:=by
 induction o with
 |lst xs=>obtain⟨z,yf,n,r,e⟩:=x;exact⟨z,yf,n,r,k _ _ (.inl rfl) e⟩
 |tup xs=>obtain⟨z,yf,r,ob,e,c⟩:=x;exact⟨z,yf,r,ob,k _ _ (.inl rfl) e,c⟩
 |dK gq=>obtain⟨z,y,vs,r,ob,es,ep,e,c⟩:=x;exact⟨z,y,vs,r,ob,es,ep,k _ _ (.inl rfl) e,c⟩
 |dT gq =>
  obtain⟨z,y,xs,r,ob,es,ep,e,c⟩:=x;exact⟨z,y,xs,Paired.ayk r λp q z=>⟨z.1,ht _ _ z.2.1,z.2.2⟩,ob,es,ep,k _ _ (.inl rfl) e,c⟩
 |set S n=>obtain⟨ob,es,ep,t,e,c⟩:=x;exact⟨ob,es,ep,t,k _ _ (.inl rfl) e,c⟩
 |ins C dx fs =>
  obtain⟨d,z,ne,e,mA,⟨od,es,ep,e2,c⟩,r⟩:=x;exact⟨ho _ d,z,ne,k _ _ (.inl rfl) e,mA,⟨od,es,ep,k _ _ (.inr d) e2,c⟩,r⟩
 |own y=>obtain⟨ob,e⟩:=x;exact⟨ob,k _ _ (.inl rfl) e⟩
 |xd fs=>obtain⟨mA,⟨od,es,ep,e,c⟩,r⟩:=x;exact⟨mA,⟨od,es,ep,k _ _ (.inl rfl) e,c⟩,r⟩
 |O7 lo hi=>obtain⟨t,u,v,e⟩:=x;exact⟨t,u,v,k _ _ (.inl rfl) e⟩
 |Jv ob u ih=>obtain⟨e,q⟩:=x;exact⟨k _ _ (.inl rfl) e,ih q⟩
 |tbl ps =>
  have e:h.get? a=some { cls:=.none,data:=.fields ps }:=x;show h'.get? a=some { cls:=.none,data:=.fields ps };exact k a _ (.inl rfl) e
 |met f y =>
  have e:h.get? a=some (PySem.W.methodObj (.ref f) (.ref y)):=x;show h'.get? a=some (PySem.W.methodObj (.ref f) (.ref y));exact k a _ (.inl rfl) e
 |ext φ=>obtain⟨p,⟨o,e⟩,st⟩:=x;exact⟨st _ _ p λo q=>k _ _ (.inl rfl) q,⟨o,k _ _ (.inl rfl) e⟩,st⟩
theorem Qg.lt(x:Qg P w H h)(e:H a=some o):a<h.objs.size:=(x a o e).lt
def Qg.fresh(x:Qg P w H h)(e:h.objs.size<=a):H a=none:=by
 cases q:H a with
 |none=>rfl|some u=>exact absurd (gr (x.lt q) e) (ou _)
def Qg.kept(x:Qg P w H h)(k:∀b u,h.get? b=some u->h'.get? b=some u):Qg P w H h':=λa o e =>
 (x a o e).stay (λb u _ q=>k b u q) (λ_ q=>q) λ_ _ q=>q
def Qg.laid(x:Qg P w H h)(k:∀b u,h.get? b=some u->h'.get? b=some u)(hp:h.objs.size<=a)(new:Bk P w (upd H a o) h' a o):Qg P w (upd H a o) h':=λb u e=>by
 have hn:=x.fresh hp
 by_cases hb:b=a
 . subst hb;rw[vh] at e;cases e;exact new
 . rw[j5 hb] at e
   exact(x b u e).stay (λc v _ q=>k c v q) (λc q=>by rw[j5 (km q hn)];exact q) λc xs q=>by rw[j5 (km q hn)];exact q
def Rd(H:Hp)(a:Addr)(u:HO):Prop:=H a=some u\/∃o,H a=some (.Jv o u)
def Rd.ok(r:Rd H a u)(x:Qg P w H h):Bk P w H h a u:=by
 rcases r with r|⟨o,r⟩
 . exact x a u r
 . obtain⟨_,q⟩:=x a _ r
   exact q
def Mut:Option HO->Prop
 |some (.lst _)=>True|some (.dK _)=>True|some (.dT _)=>True|some (.set _ _)=>True|some (.ins _ _ _)=>True|some (.ext _)=>True|_=>False
def Qg.write(ok:Qg P w H h)(mu:Mut (H x))(he:e=x\/H e=some (.own x))(k:∀b u,b≠e->h.get? b=some u->h'.get? b=some u)(heo:∃u,h'.get? e=some u)(new:Bk P w (upd H x o') h' x o'):Qg P w (upd H x o') h':=λb u q=>by
 have a5f:∀c y,H c=some (.own y)->c≠x:=λc y r z=>by subst z;rw[r] at mu;exact mu
 have bcn:∀c xs,H c=some (.tup xs)->c≠x:=λc xs r z=>by subst z;rw[r] at mu;exact mu
 by_cases hb:b=x
 . subst hb;rw[vh] at q;cases q;exact new
 . rw[j5 hb] at q
   by_cases hbe:b=e
   . have q':H b=some (.own x):=by
      rcases he with z|z
      . exact absurd (hbe.trans z) hb
      . rw[hbe];exact z
     rw[q] at q';cases q';obtain⟨v,hv⟩:=heo;exact⟨v,by rw[hbe];exact hv⟩
   . refine(ok b u q).stay (λc v hc r=>k c v ?_ r) (λc r=>by rw[j5 (a5f c b r)];exact r) λc xs r=>by rw[j5 (bcn c xs r)];exact r
     rcases hc with rfl|hc
     . exact hbe
     . rintro rfl
       rcases he with z|z
       . exact a5f c b hc z
       . rw[hc] at z;cases z;exact hb rfl
structure Un(fs ex:X9)(H H':Hp)(h h':Heap):Prop where
 keep:∀b o,h.get? b=some o->H b=none->b∉fs->b∉ex->h'.get? b=some o
 slot:∀b o,h.get? b=some o->H b=none->b∈fs->b∉ex->∃sl,h'.get? b=some { o with slots:=sl }
 free:∀b o,h.get? b=some o->H b=none->b∉ex->H' b=none
 there:∀b o,h.get? b=some o->b∉ex->∃o',h'.get? b=some o'
 V8:∀b xs,H b=some (.tup xs)->H' b=some (.tup xs)
 aak:∀b o u,H b=some (.Jv o u)->H' b=some (.Jv o u)
 acn:∀b ps,H b=some (.tbl ps)->∃more,H' b=some (.tbl (ps++more))
def Un.any(u:Un fs ex H H1 h h1)(q:h.get? b=some ob)(n:H b=none)(hx:b∉ex):∃sl,h1.get? b=some { ob with slots:=sl }:=by
 by_cases hb:b∈fs
 . exact u.slot b ob q n hb hx
 . exact⟨ob.slots,u.keep b ob q n hb hx⟩
def Un.kept(k:∀b u,h.get? b=some u->h'.get? b=some u):Un fs ex H H h h' :=
 ⟨λb ob q _ _ _=>k b ob q,λb ob q _ _ _=>⟨ob.slots,k b ob q⟩,λ_ _ _ n _=>n,λb ob q _=>⟨ob,k b ob q⟩,λ_ _ q=>q,λ_ _ _ q=>q,λ_ ps q=>⟨#[],by rw[q];simp⟩⟩
def Un.refl:Un fs ex H H h h:=Un.kept λ_ _ q=>q
theorem Un.laid(k:∀b u,h.get? b=some u->h'.get? b=some u)(hp:h.objs.size<=a)(hn:H a=none):Un fs ex H (upd H a o) h h' where
 keep:=λb u q _ _ _=>k b u q
 slot:=λb u q _ _ _=>⟨u.slots,k b u q⟩
 free:=λb u q n _=>by rw[j5 (fc (gr (az q) hp))];exact n
 there:=λb u q _=>⟨u,k b u q⟩
 V8:=λb xs q=>by rw[j5 (km q hn)];exact q
 aak:=λb u xs q=>by rw[j5 (km q hn)];exact q
 acn:=λb ps q=>⟨#[],by rw[j5 (km q hn),q];simp⟩
def Un.write(mu:Mut (H x))(he:e=x\/H e=some (.own x))(k:∀b u,b≠e->h.get? b=some u->h'.get? b=some u)(heo:∃u,h'.get? e=some u):Un fs ex H (upd H x o) h h':=by
 have hx:∀b,H b=none->b≠x:=λb n z=>by subst z;rw[n] at mu;exact mu
 have hb:∀b,H b=none->b≠e:=λb n z=>by
  subst z;rcases he with r|r
  . exact hx b n r
  . rw[n] at r;cases r
 have hm:∀b u,H b=some u->¬Mut (some u)->b≠x:=λb u q nm z=>by subst z;rw[q] at mu;exact nm mu
 refine⟨λb u q n _ _=>k b u (hb b n) q,λb u q n _ _=>⟨u.slots,k b u (hb b n) q⟩,λb u q n _=>by rw[j5 (hx b n)];exact n,λb u q _=>?_,
  λb xs q=>by rw[j5 (hm b _ q λz=>z)];exact q,λb u xs q=>by rw[j5 (hm b _ q λz=>z)];exact q,λb ps q=>⟨#[],by rw[j5 (hm b _ q λz=>z),q];simp⟩⟩
 by_cases hbe:b=e
 . subst hbe;exact heo
 . exact⟨u,k b u hbe q⟩
noncomputable def trk(h:Heap)(H:Hp):List Addr:=(List.range h.objs.size).filter λa=>(H a).isSome
noncomputable def aal(h:Heap)(H:Hp):Heap:=PySem.W.hideAll h (trk h H)
def ajs(h:Heap)(H:Hp):(aal h H).objs.size=h.objs.size:=PySem.W.hideAll_size _ _
def am4(e:h.get? b=some o)(n:H b=none):(aal h H).get? b=some o :=
 PySem.W.hideAll_get _ e λhm=>by have q:(H b).isSome=true:=(ux.mp hm).2;rw[n] at q;simp at q
def asy(e:(aal h H).get? b=some o):h.get? b=some o/\H b=none:=by
 have e':h.get? b=some o:=PySem.W.of_hideAll (trk h H) e;refine⟨e',?_⟩;cases q:H b with
 |none=>rfl
 |some x =>
  have hm:b∈trk h H:=ux.mpr ⟨jz.mpr (az e'),by simp[q]⟩;have z:(aal h H).get? b=none:=PySem.W.hideAll_none (trk h H) hm;rw[z] at e;cases e
end L2
namespace L2
open PySem PySem.Spec PyProof.Rows
structure Mod(K:Fg)(mg:Zs)(base:Heap):Prop where
 kin:K.In base
 glob:base.Ns mainGlobals mg
 blt:∃mb,base.Ns builtinsNs mb/\∀x:Str,x≠"__name__" -> mb x=bootBuiltins x
 nolimit:base.NoLimit
structure Cx where
 prog:Program
 w:World
 K:Fg
 mg:Str->Option Value
 base:Heap
 A:Around
 N:List Str
 s₀:Shared
 H₀:Hp
 env:Env
 outer:List Env
 stack:List Env
 ex:List Addr
 fn:Str->Bool
 calm:Bool
 pn:List (Addr×Obj)
 xe:Value->Shared->Prop
noncomputable def frs(l:List Env):List Addr:=l.filterMap (·.frame)
noncomputable abbrev Cx.fs(X:Cx):List Addr:=frs X.outer
def Vis(sc:Scope)(x:Str):Prop:=sc.names.lookup x=some .local\/sc.names.lookup x=some .cell\/sc.names.lookup x=some .free
def Loc(sc:Scope)(x:Str):Prop:=sc.names.lookup x=some .local\/sc.names.lookup x=some .cell
def Look(env:Env)(h:Heap)(m:Zs)(x:Str)(u:Value):Prop :=
 (env.kindOf x=some .local/\m x=some u)\/((env.kindOf x=some .cell\/env.kindOf x=some .free)/\∃c,env.cells.lookup x=some c/\h.IsCell c (some u))
structure Cx.Ok(X:Cx):Prop where
 mod:Mod X.K X.mg X.base
 kind:X.env.scope.kind=.function
 glob:X.env.globals=mainGlobals
 blt:X.env.builtins=builtinsNs
 above:X.s₀.heap.objs.size<=X.env.locals
 inj:∀x y c,X.env.cells.lookup x=some c->X.env.cells.lookup y=some c->x=y
 has:∀x,(X.env.kindOf x=some .cell\/X.env.kindOf x=some .free)->∃c,X.env.cells.lookup x=some c
 cab:∀x c,X.fn x=true->X.env.cells.lookup x=some c->X.s₀.heap.objs.size<=c
 hd:X.calm=true->X.A.handled=none
 frames:X.A.frames=some X.stack
 stk:X.stack=X.outer\/(X.stack=X.env::X.outer/\X.env.frame=some X.env.locals)
 exf:∀b∈X.ex,b≠X.env.locals/\∀x c,X.env.cells.lookup x=some c->c≠b
 bs:∀b o,X.base.get? b=some o->X.s₀.heap.get? b=some o/\X.H₀ b=none
 bsz:X.base.objs.size<=X.s₀.heap.objs.size
 am6:∀b o,X.base.get? b=some o->b∉X.ex
 as3:∀b∈X.ex,b∉X.fs
 Uz:X.s₀.heap.FunFrames X.base X.outer
 frf:∀b∈X.fs,X.H₀ b=none
structure Inv(X:Cx)(pins:Zp)(σ:List (Option V))(H:Hp)(s:Shared):Prop where
 ok:X.Ok
 os:s.os=X.s₀.os
 bare:AllBare s.gens
 base:Un X.fs X.ex X.H₀ H X.s₀.heap s.heap
 loc:∃m,s.heap.Ns X.env.locals m/\∀(i:Nat)(x:Str)(v:V),X.N[i]?=some x->σ[i]?=some (some v)->Vis X.env.scope x->∃u,RelV v u/\Look X.env s.heap m x u
 cell:∀x c,X.env.cells.lookup x=some c->∃v,s.heap.IsCell c v
 free:H X.env.locals=none
 Oh:∀x c,X.env.cells.lookup x=some c->H c=none
 pin:∀p∈X.pn++pins,s.heap.get? p.1=some p.2/\H p.1=none/\p.1≠X.env.locals/\p.1∉X.fs/\∀v,p.2.data≠.cell v
 An:Qg X.prog X.w H s.heap
 len:σ.length=X.N.length
def Cx.Ok.bco{X:Cx}(ok:X.Ok)(e:X.base.get? b=some o):b∉X.fs:=λhb=>by have:=(ok.Uz.mem hb).1;rw[e] at this;cases this
theorem Inv.bs(I:Inv X pins σ H s):∀b o,X.base.get? b=some o->s.heap.get? b=some o/\H b=none:=λb o e =>
 ⟨I.base.keep b o (I.ok.bs b o e).1 (I.ok.bs b o e).2 (I.ok.bco e) (I.ok.am6 b o e),I.base.free b o (I.ok.bs b o e).1 (I.ok.bs b o e).2 (I.ok.am6 b o e)⟩
def Inv.bk(I:Inv X pins σ H s):∀b o,X.base.get? b=some o->s.heap.get? b=some o:=λb o e=>(I.bs b o e).1
theorem Inv.mod(I:Inv X pins σ H s):Mod X.K X.mg X.base:=I.ok.mod
def Inv.kIn(I:Inv X pins σ H s):X.K.In s.heap:=I.ok.mod.kin.keeps I.bk
theorem Inv.lt(I:Inv X pins σ H s):X.env.locals<s.heap.objs.size:=let ⟨_,hn,_⟩:=I.loc;hn.lt
def Inv.sz(I:Inv X pins σ H s):X.s₀.heap.objs.size<=s.heap.objs.size:=gm I.ok.above (Aj I.lt)
def Inv.ayo(I:Inv X pins σ H s)(h:s.heap.objs.size<=a):a∉X.fs:=λhb=>by obtain⟨_,o,ho,_⟩:=I.ok.Uz.mem hb;exact absurd (gr (az ho) (gm I.sz h)) (ou _)
def Inv.cne(I:Inv X pins σ H s):∀x c,X.env.cells.lookup x=some c->c≠X.env.locals:=λx c e z=>by obtain⟨v,o,ho,hd⟩:=I.cell x c e;obtain⟨m,⟨o',es,ep,ho',hd',_⟩,_⟩:=I.loc;rw[z,ho'] at ho;cases ho;rw[hd'] at hd;cases hd
theorem Inv.Uz(I:Inv X pins σ H s):s.heap.FunFrames X.base X.outer:=by
 have all:∀(l:List Env),(∀b∈frs l,b∈X.fs)->X.s₀.heap.FunFrames X.base l->s.heap.FunFrames X.base l:=by
  intro l
  induction l with
  |nil=>intro _ _;trivial
  |cons env r ih =>
   intro hs hl;obtain⟨hk,⟨L,o,hf,hn,ho,hd⟩,hr⟩:=hl;have hL:L∈X.fs:=hs L (by unfold frs;rw[List.filterMap_cons,hf];exact di);obtain⟨sl,e⟩:=I.base.slot L o ho (I.ok.frf L hL) hL λz=>I.ok.as3 L z hL
   exact⟨hk,⟨L,_,hf,hn,e,hd⟩,ih (λb hb=>hs b (by unfold frs;rw[List.filterMap_cons,hf];exact bu _ hb)) hr⟩
 exact all X.outer (λ_ hb=>hb) I.ok.Uz
theorem Inv.stack(I:Inv X pins σ H s):s.heap.FunFrames X.base X.stack:=by
 rcases I.ok.stk with e|⟨e,hf⟩
 . rw[e];exact I.Uz
 . rw[e]
   obtain⟨m,hn,_⟩:=I.loc;refine .cons (by rw[I.ok.kind];decide) hf hn ?_ I.Uz;exact Heap.get?_none_of_le (gm I.ok.bsz I.ok.above)
def Inv.aam(I:Inv X pins σ H s):∀b∈frs X.stack,b∈X.env.locals::X.fs:=λb hb=>by
 rcases I.ok.stk with e|⟨e,hf⟩
 . rw[e] at hb;exact bu _ hb
 . rw[e] at hb
   unfold frs at hb;rw[List.filterMap_cons,hf] at hb;exact hb
def Inv.ag9(I:Inv X pins σ H s):∀b∈frs X.stack,H b=none:=λb hb=>by
 rcases bz.mp (I.aam b hb) with e|hb
 . rw[e];exact I.free
 . obtain⟨_,o,ho,_⟩:=I.ok.Uz.mem hb
   exact I.base.free b o ho (I.ok.frf b hb) λz=>I.ok.as3 b z hb
def Inv.step{ch:X9}(I:Inv X pins σ H s)(hch:∀b∈ch,(b∈X.ex\/X.s₀.heap.objs.size<=b)/\b≠X.env.locals/\(∀x c,X.env.cells.lookup x=some c->c≠b)/\∀p∈X.pn++pins,p.1≠b)(keep:∀b o,b≠X.env.locals->b∉X.fs->b∉ch->s.heap.get? b=some o->H b=none->h'.get? b=some o)(slot:∀b o,b≠X.env.locals->b∈X.fs->b∉ch->s.heap.get? b=some o->H b=none->∃sl,h'.get? b=some { o with slots:=sl })(free:∀b o,b∉ch->s.heap.get? b=some o->H b=none->H' b=none)(there:∀b o,b∉ch->s.heap.get? b=some o->∃o',h'.get? b=some o')(V8:∀b xs,H b=some (.tup xs)->H' b=some (.tup xs))(aak:∀b o u,H b=some (.Jv o u)->H' b=some (.Jv o u))(acn:∀b ps,H b=some (.tbl ps)->∃more,H' b=some (.tbl (ps++more)))(ns:∀m,s.heap.Ns X.env.locals m->h'.Ns X.env.locals m)(An:Qg X.prog X.w H' h')(hg:AllBare g') :
 Inv X pins σ H' { s with heap:=h',gens:=g',drawn:=d',toks:=t' }:=by
 have neL:∀b o,X.s₀.heap.get? b=some o->b≠X.env.locals:=λb o e=>fc (gr (az e) I.ok.above)
 have neC:∀b o,X.s₀.heap.get? b=some o->b∉X.ex->b∉ch:=λb o e hx hb=>by
  rcases(hch b hb).1 with z|z
  . exact hx z
  . exact absurd (gr (az e) z) (ou _)
 have cellK:∀x c,X.env.cells.lookup x=some c->∀v,s.heap.IsCell c v->h'.IsCell c v:=λx c e v ⟨o,ho,hd⟩=>by
  have nch:c∉ch:=λz=>(hch c z).2.2.1 x c e rfl
  by_cases hc:c∈X.fs
  . obtain⟨sl,q⟩:=slot c o (I.cne x c e) hc nch ho (I.Oh x c e)
    exact⟨_,q,hd⟩
  . exact⟨o,keep c o (I.cne x c e) hc nch ho (I.Oh x c e),hd⟩
 refine⟨I.ok,I.os,hg,⟨λb o e n hb hx=>?_,λb o e n hb hx=>?_,λb o e n hx=>?_,λb o e hx=>?_,λb xs e=>V8 b xs (I.base.V8 b xs e),λb o xs e=>aak b o xs (I.base.aak b o xs e),λb ps e=>?_⟩,?_,λx c e=>?_,?_,λx c e=>?_,λp hp=>?_,An,I.len⟩
 . exact keep b o (neL b o e) hb (neC b o e hx) (I.base.keep b o e n hb hx) (I.base.free b o e n hx)
 . obtain⟨sl,e1⟩:=I.base.slot b o e n hb hx
   obtain⟨sl',e2⟩:=slot b _ (neL b o e) hb (neC b o e hx) e1 (I.base.free b o e n hx);exact⟨sl',e2⟩
 . obtain⟨o',e1⟩:=I.base.there b o e hx
   exact free b o' (neC b o e hx) e1 (I.base.free b o e n hx)
 . obtain⟨o',e1⟩:=I.base.there b o e hx
   exact there b o' (neC b o e hx) e1
 . obtain⟨m1,e1⟩:=I.base.acn b ps e
   obtain⟨m2,e2⟩:=acn b _ e1;exact⟨m1++m2,by rw[e2,Array.append_assoc]⟩
 . obtain⟨m,hn,hl⟩:=I.loc
   refine⟨m,ns m hn,λi x v e1 e2 e3=>?_⟩;obtain⟨u,r,l⟩:=hl i x v e1 e2 e3;refine⟨u,r,?_⟩;rcases l with l|⟨k,c,e,z⟩
   . exact .inl l
   . exact .inr ⟨k,c,e,cellK x c e _ z⟩
 . obtain⟨v,z⟩:=I.cell x c e
   exact⟨v,cellK x c e v z⟩
 . obtain⟨m,⟨o,_,_,ho,_⟩,_⟩:=I.loc
   exact free _ o (λz=>(hch _ z).2.1 rfl) ho I.free
 . obtain⟨v,o,ho,hd⟩:=I.cell x c e
   exact free c o (λz=>(hch c z).2.2.1 x c e rfl) ho (I.Oh x c e)
 . obtain⟨e,n,ne,nf,d⟩:=I.pin p hp
   have nch:p.1∉ch:=λz=>(hch p.1 z).2.2.2 p hp rfl
   exact⟨keep p.1 p.2 ne nf nch e n,free p.1 p.2 nch e n,ne,nf,d⟩
def Inv.un(I:Inv X pins σ H s)(u:Un X.fs [] H H' s.heap h')(An:Qg X.prog X.w H' h'):Inv X pins σ H' { s with heap:=h',toks:=t' }:=by
 obtain⟨m,⟨o,es,ep,ho,r⟩,_⟩:=id I.loc;obtain⟨sl,hL⟩:=u.any ho I.free (by simp);exact I.step (g':=s.gens) (d':=s.drawn) (ch:=[]) (λ_ z=>nomatch z) (λb o _ hb _ e n=>u.keep b o e n hb (by simp)) (λb o _ hb _ e n=>u.slot b o e n hb (by simp)) (λb o _ e n=>u.free b o e n (by simp)) (λb o _ e=>u.there b o e (by simp)) u.V8 u.aak u.acn (λm' hm=>by
  obtain⟨o',es',ep',ho',r'⟩:=hm;rw[ho] at ho';cases ho';exact⟨_,es',ep',hL,r'⟩) An I.bare
def Inv.call(I:Inv X pins σ H s)(u:Un (frs X.stack) ch H H' s.heap h')(An:Qg X.prog X.w H' h')(hg:AllBare g')(hch:∀b∈ch,(b∈X.ex\/X.s₀.heap.objs.size<=b)/\b≠X.env.locals/\(∀x c,X.env.cells.lookup x=some c->c≠b)/\∀p∈X.pn++pins,p.1≠b) :
 Inv X pins σ H' { s with heap:=h',gens:=g',drawn:=d',toks:=t' }:=by
 obtain⟨m,⟨o,es,ep,ho,r⟩,_⟩:=id I.loc;obtain⟨sl,hL⟩:=u.any ho I.free λz=>(hch _ z).2.1 rfl
 exact I.step (ch:=ch) hch (λb o hL hb hc e n=>u.keep b o e n (λz=>(bz.mp (I.aam b z)).elim hL hb) hc) (λb o _ _ hc e n=>u.any e n hc) (λb o hc e n=>u.free b o e n hc) (λb o hc e=>u.there b o e hc) u.V8 u.aak u.acn (λm' hm=>by
  obtain⟨o',es',ep',ho',r'⟩:=hm;rw[ho] at ho';cases ho';exact⟨_,es',ep',hL,r'⟩) An hg
def Inv.turned(I:Inv X pins σ H s)(k:∀b o,b≠it->s.heap.get? b=some o->h'.get? b=some o)(hn:H it=none)(hL:it≠X.env.locals)(h1:it∈X.ex\/X.s₀.heap.objs.size<=it)(h2:∀x c,X.env.cells.lookup x=some c->c≠it)(h3:∀p∈X.pn++pins,p.1≠it):Inv X pins σ H { s with heap:=h',toks:=t' }:=by
 have nit:∀b u,H b=some u->b≠it:=λb u e z=>by rw[z,hn] at e;cases e
 refine I.step (g':=s.gens) (d':=s.drawn) (ch:=[it]) (λb hb=>?_) (λb o _ _ hc e _=>k b o (λz=>hc (by simp[z])) e) (λb o _ _ hc e _=>⟨o.slots,k b o (λz=>hc (by simp[z])) e⟩) (λ_ _ _ _ n=>n)
  (λb o hc e=>⟨o,k b o (λz=>hc (by simp[z])) e⟩) (λ_ _ e=>e) (λ_ _ _ e=>e) (λb ps e=>⟨#[],by rw[e];simp⟩) (λm hm=>?_) (λb u e=>?_) I.bare
 . have e:b=it:=by simpa using hb
   subst e;exact⟨h1,hL,h2,h3⟩
 . obtain⟨o,es,ep,ho,r⟩:=hm
   exact⟨o,es,ep,k _ o (j0 hL) ho,r⟩
 . refine(I.An b u e).stay (λc v hc q=>k c v ?_ q) (λ_ q=>q) λ_ _ q=>q
   rcases hc with z|z
   . rw[z];exact nit b u e
   . exact nit c _ z
def Inv.tok(I:Inv X pins σ H s)(t:Nat):Inv X pins σ H { s with toks:=t }:=I.un (h':=s.heap) (t':=t) Un.refl I.An
theorem Inv.kept(I:Inv X pins σ H s)(k:∀b u,s.heap.get? b=some u->h'.get? b=some u):Inv X pins σ H { s with heap:=h',toks:=t' }:=I.un (Un.kept k) (I.An.kept k)
theorem Inv.laid(I:Inv X pins σ H s)(k:∀b u,s.heap.get? b=some u->h'.get? b=some u)(hp:s.heap.objs.size<=a)(new:Bk X.prog X.w (upd H a o) h' a o) :
 Inv X pins σ (upd H a o) { s with heap:=h',toks:=t' }:=I.un (Un.laid k hp (I.An.fresh hp)) (I.An.laid k hp new)
theorem Inv.write(I:Inv X pins σ H s)(mu:Mut (H x))(he:e=x\/H e=some (.own x))(k:∀b u,b≠e->s.heap.get? b=some u->h'.get? b=some u)(heo:∃u,h'.get? e=some u)(new:Bk X.prog X.w (upd H x o) h' x o):Inv X pins σ (upd H x o) { s with heap:=h',toks:=t' }:=I.un (Un.write mu he k heo) (I.An.write mu he k heo new)
def Inv.weak(I:Inv X pins σ H s)(hl:σ'.length=σ.length)(w:∀(i:Nat) v,σ'[i]?=some (some v)->σ[i]?=some (some v)):Inv X pins σ' H s :=
 ⟨I.ok,I.os,I.bare,I.base,let ⟨m,hn,Yl⟩:=I.loc;⟨m,hn,λi x v e1 e2 e3=>Yl i x v e1 (w i v e2) e3⟩,I.cell,I.free,I.Oh,I.pin,I.An,hl.trans I.len⟩
def Inv.Rg(I:Inv X pins σ H s)(h:∀p∈aha,s.heap.get? p.1=some p.2/\H p.1=none/\p.1≠X.env.locals/\p.1∉X.fs/\∀v,p.2.data≠.cell v):Inv X aha σ H s :=
 ⟨I.ok,I.os,I.bare,I.base,I.loc,I.cell,I.free,I.Oh,λp hp=>(dm.mp hp).elim (λz=>I.pin p (xx _ z)) (h p),I.An,I.len⟩
def Kh{N:Yf}(hN:N.Nodup){i:Nat}(a:N[i]?=some x)(b:N[j]?=some x):i=j:=by obtain⟨h1,e1⟩:=ao.mp a;obtain⟨h2,e2⟩:=ao.mp b;exact(Aq hN).mp (e1.trans e2.symm)
def ajt(I:Inv X pins σ H s)(hN:X.N.Nodup)(hi:X.N[i]?=some x)(hx:Loc X.env.scope x)(r:RelV v u)(h:∀s',Inv X pins (σ.set i (some v)) H s'->(∃a,Heap.SameBut a s.heap s'.heap/\(a=X.env.locals\/X.env.cells.lookup x=some a))->Q () s')(hf:X.fn x=true\/X.env.scope.names.lookup x=some .local:=by first|exact .inl rfl|exact .inr rfl|assumption):wpAny M A (storeName X.env x u) Q E s:=by
 obtain⟨m,hn,hl⟩:=id I.loc;have bcp:(X.env.scope.kind==.class||(X.env.scope.kind==.module&&X.env.locals != X.env.globals))=false:=by rw[I.ok.kind];rfl
 have hiσ:i < σ.length:=by rw[I.len];exact(ao.mp hi).1
 have cne:=I.cne;have tracked:∀{a:Addr}{h':Heap},(∃o,s.heap.get? a=some o/\H a=none)->Heap.SameBut a s.heap h'->Qg X.prog X.w H h':=fun{a h'} ha hs b ob e=>by
  obtain⟨_,_,Qh⟩:=ha;refine(I.An b ob e).stay (λc w' hc q=>(hs.2 c ?_).trans q) (λ_ q=>q) λ_ _ q=>q
  rintro rfl;rcases hc with rfl|hc
  . rw[Qh] at e;cases e
  . rw[Qh] at hc;cases hc
 rcases hx with hk|hk
 . refine wpAny_storeName_local hk hn (λh' O6 hs=>?_) bcp
   obtain⟨oL,_,_,hoL,_⟩:=id hn;refine h _ ⟨I.ok,I.os,I.bare,⟨λb o e n hb hx=>?_,λb o e n hb hx=>?_,I.base.free,λb o e hx=>?_,I.base.V8,I.base.aak,I.base.acn⟩,⟨_,O6,λj y v' e1 e2 e3=>?_⟩,λy c e=>?_,I.free,I.Oh,λp hp=>?_,tracked ⟨oL,hoL,I.free⟩ hs,by simpa using I.len⟩ ⟨_,hs,.inl rfl⟩
   . exact(hs.2 b (fc (gr (az e) I.ok.above))).trans (I.base.keep b o e n hb hx)
   . obtain⟨sl,e1⟩:=I.base.slot b o e n hb hx
     exact⟨sl,(hs.2 b (fc (gr (az e) I.ok.above))).trans e1⟩
   . obtain⟨o',e1⟩:=I.base.there b o e hx
     exact⟨o',(hs.2 b (fc (gr (az e) I.ok.above))).trans e1⟩
   . by_cases hj:j=i
     . subst hj
       rw[hi] at e1;cases e1;rw[List.getElem?_set_self hiσ] at e2;cases e2;exact⟨u,r,.inl ⟨hk,by simp⟩⟩
     . rw[vo (j0 hj)] at e2
       obtain⟨u',r',q⟩:=hl j y v' e1 e2 e3;refine⟨u',r',?_⟩;rcases q with⟨k,e⟩|⟨k,c,e,z⟩
       . refine .inl ⟨k,?_⟩
         have:y≠x:=λe=>hj (Kh hN e1 (e▸hi))
         simp[this,e]
       . exact .inr ⟨k,c,e,z.sameBut hs (cne y c e)⟩
   . obtain⟨w',z⟩:=I.cell y c e
     exact⟨w',z.sameBut hs (cne y c e)⟩
   . obtain⟨e,n,ne,nf,d⟩:=I.pin p hp
     exact⟨(hs.2 p.1 ne).trans e,n,ne,nf,d⟩
 . have hfn:X.fn x=true:=by
    rcases hf with z|z
    . exact z
    . rw[z] at hk;cases hk
   obtain⟨c,hc⟩:=I.ok.has x (.inl hk);obtain⟨w',z⟩:=I.cell x c hc;refine wpAny_storeName_cell I.ok.kind hk hc z (λh' hc' hs=>?_);obtain⟨oc,hoc,bcr⟩:=id z;refine h { s with heap:=h' } ⟨I.ok,I.os,I.bare,⟨λb o e n hb hx=>?_,λb o e n hb hx=>?_,I.base.free,λb o e hx=>?_,I.base.V8,I.base.aak,I.base.acn⟩,⟨m,hn.sameBut hs (j0 (cne x c hc)),λj y v' e1 e2 e3=>?_⟩,λy c' e=>?_,I.free,I.Oh,λp hp=>?_,tracked ⟨oc,hoc,I.Oh x c hc⟩ hs,by simpa using I.len⟩ ⟨c,hs,.inr hc⟩
   . exact(hs.2 b (fc (gr (az e) (I.ok.cab x c hfn hc)))).trans (I.base.keep b o e n hb hx)
   . obtain⟨sl,e1⟩:=I.base.slot b o e n hb hx
     exact⟨sl,(hs.2 b (fc (gr (az e) (I.ok.cab x c hfn hc)))).trans e1⟩
   . obtain⟨o',e1⟩:=I.base.there b o e hx
     exact⟨o',(hs.2 b (fc (gr (az e) (I.ok.cab x c hfn hc)))).trans e1⟩
   . by_cases hj:j=i
     . subst hj
       rw[hi] at e1;cases e1;rw[List.getElem?_set_self hiσ] at e2;cases e2;exact⟨u,r,.inr ⟨.inl hk,c,hc,hc'⟩⟩
     . rw[vo (j0 hj)] at e2
       obtain⟨u',r',q⟩:=hl j y v' e1 e2 e3;refine⟨u',r',?_⟩;rcases q with q|⟨k,c',e,z'⟩
       . exact .inl q
       . refine .inr ⟨k,c',e,z'.sameBut hs ?_⟩
         rintro rfl;exact hj (Kh hN e1 (I.ok.inj _ _ _ e hc▸hi))
   . by_cases hcc:c'=c
     . subst hcc;exact⟨_,hc'⟩
     . obtain⟨w2,z2⟩:=I.cell y c' e
       exact⟨w2,z2.sameBut hs hcc⟩
   . obtain⟨e,n,ne,nf,d⟩:=I.pin p hp
     refine⟨(hs.2 p.1 ?_).trans e,n,ne,nf,d⟩;intro q;rw[q,hoc] at e;have q':oc=p.2:=jq e;exact d w' (by rw[<- q'];exact bcr)
def am8(I:Inv X pins σ H s)(hN:X.N.Nodup)(hi:X.N[i]?=some x)(hx:Loc X.env.scope x)(r:RelV v u)(h:∀s',Inv X pins (σ.set i (some v)) H s'->Q () s')(hf:X.fn x=true\/X.env.scope.names.lookup x=some .local:=by first|exact .inl rfl|exact .inr rfl|assumption):wpAny M A (storeName X.env x u) Q E s :=
 ajt I hN hi hx r (λs' I' _=>h s' I') hf
def Inv.call'(I:Inv X pins σ H s)(ho:s'.os=s.os)(u:Un (frs X.stack) ch H H' s.heap s'.heap)(An:Qg X.prog X.w H' s'.heap)(hg:AllBare s'.gens)(hch:∀b∈ch,(b∈X.ex\/X.s₀.heap.objs.size<=b)/\b≠X.env.locals/\(∀x c,X.env.cells.lookup x=some c->c≠b)/\∀p∈X.pn++pins,p.1≠b):Inv X pins σ H' s':=by obtain⟨h',g',d',t',o'⟩:=s';have e:o'=s.os:=ho;subst e;exact I.call (g':=g') (t':=t') (d':=d') u An hg hch
abbrev XK:=Value->Option Addr->Hp->Prop
abbrev St:=List (Option V)
abbrev VK:=V->Hp->Prop
abbrev TE:=St->Hp->VK->Prop
abbrev TT:=St->Hp->(Bool->Hp->Prop)->Prop
abbrev TA:=St->Hp->(List V->Hp->Prop)->Prop
structure Ends where
 nx:St->Hp->Prop
 rt:VK
 bk:St->Hp->Prop:=λ_ _=>False
 ct:St->Hp->Prop:=λ_ _=>False
abbrev TS:=Ends->St->Hp->Prop
def EP(X:Cx)(pins:Zp)(σ:St)(Q:VK)(u:Value)(s':Shared):Prop:=∃v H',Inv X pins σ H' s'/\RelV v u/\Q v H'
def TP(X:Cx)(pins:Zp)(σ:St)(Q:Bool->Hp->Prop)(b:Bool)(s':Shared):Prop:=∃H',Inv X pins σ H' s'/\Q b H'
def AP(X:Cx)(pins:Zp)(σ:St)(Q:List V->Hp->Prop)(us:Zl)(s':Shared):Prop:=∃vs H',Inv X pins σ H' s'/\Vals vs us/\Q vs H'
def SP(X:Cx)(pins:Zp)(D:Ends)(f:Flow)(s':Shared):Prop :=
 match f with
 |.next=>∃σ' H',Inv X pins σ' H' s'/\D.nx σ' H'|.brk=>∃σ' H',Inv X pins σ' H' s'/\D.bk σ' H'|.cont=>∃σ' H',Inv X pins σ' H' s'/\D.ct σ' H'|.ret u=>∃v σ' H',Inv X pins σ' H' s'/\RelV v u/\D.rt v H'
def PE(X:Cx)(e:Expr)(t:TE):Prop :=
 ∀(pins:Zp)(s:Shared)(σ:St)(H:Hp)(Q:VK),Inv X pins σ H s->t σ H Q->wpAny (model X.prog X.w) X.A (eval e X.env) (EP X pins σ Q) X.xe s
def PT(X:Cx)(e:Expr)(t:TT):Prop :=
 ∀(pins:Zp)(s:Shared)(σ:St)(H:Hp)(Q:Bool->Hp->Prop),Inv X pins σ H s->t σ H Q->wpAny (model X.prog X.w) X.A (isTrue e X.env (eval e X.env)) (TP X pins σ Q) X.xe s
def PW(X:Cx)(e:Expr)(t:TT):Prop :=
 ∀(whole:Sem Value)(pins:Zp)(s:Shared)(σ:St)(H:Hp)(Q:Bool->Hp->Prop),Inv X pins σ H s->t σ H Q->wpAny (model X.prog X.w) X.A (isTrue e X.env whole) (TP X pins σ Q) X.xe s
def PW.pt(h:PW X e t):PT X e t:=h _
def PA(X:Cx)(es:Ya)(t:TA):Prop :=
 ∀(pos:Pos)(pins:Zp)(s:Shared)(σ:St)(H:Hp)(Q:List V->Hp->Prop),Inv X pins σ H s->t σ H Q->wpAny (model X.prog X.w) X.A (spliced (backTo pos (starEach es X.env))) (AP X pins σ Q) X.xe s
def PS(X:Cx)(st:Stmt)(t:TS):Prop :=
 ∀(pins:Zp)(s:Shared)(σ:St)(H:Hp)(D:Ends),Inv X pins σ H s->t D σ H->wpAny (model X.prog X.w) X.A (exec st X.env) (SP X pins D) X.xe s
def Rh(X:Cx)(st:List Stmt)(t:TS):Prop :=
 ∀(pins:Zp)(s:Shared)(σ:St)(H:Hp)(D:Ends),Inv X pins σ H s->t D σ H->wpAny (model X.prog X.w) X.A (execs st X.env) (SP X pins D) X.xe s
def Bq(h:wpAny M A t Q E s)(hQ:∀a s,Q a s->Q' a s):wpAny M A t Q' E s:=lz h hQ λ_ _ x=>x
end L2
namespace L2
open PySem PySem.Spec PyProof.Rows
def bcs(i:Nat):TE:=fun σ H Q=>∃v,σ[i]?=some (some v)/\Q v H
def tC(v:V):TE:=λ_ H Q=>Q v H
def ayq(hN:X.N[i]?=some x)(hv:Vis X.env.scope x)(hd:(x==("__debug__" : Str))=false:=by decide)(hcd:(x==("__classdict__" : Str))=false:=by decide):PE X (.Name x pos) (bcs i):=by
 intro pins s σ H Q I h;obtain⟨v,e,h⟩:=h;obtain⟨m,hn,hl⟩:=I.loc;obtain⟨u,r,l⟩:=hl i x v hN e hv;have fin:EP X pins σ Q u s:=⟨v,H,I,r,h⟩;rcases l with⟨hk,hm⟩|⟨hk,c,hc,awq⟩
 . exact wpAny_Name (wpAny_loadName_local I.ok.kind hk hn hm fin) hd
 . rcases hk with hk|hk
   . exact wpAny_Name (wpAny_loadName_cell I.ok.kind hk hc awq fin) hd
   . exact wpAny_Name (wpAny_loadName_free I.ok.kind hk hc awq fin hcd) hd
def ayr:PE X (.Constant (.int i) j pos) (tC (.int i)):=λ_ _ _ H _ I h=>wpAny_Constant_int ⟨.int i,H,I.tok _,⟨_,rfl⟩,h⟩
def a5h:PE X (.Constant (.bool b) j pos) (tC (.bl b)):=λ_ _ _ H _ I h=>Constant_bool ⟨.bl b,H,I,rfl,h⟩
def ays:PE X (.Constant .none j pos) (tC .non):=λ_ _ _ H _ I h=>Constant_none ⟨.non,H,I,rfl,h⟩
def ayt:PE X (.Constant (.str x) j pos) (tC (.str x)):=λ_ _ _ H _ I h=>Calls.Constant_str ⟨.str x,H,I.tok _,⟨_,rfl⟩,h⟩
def Gl(X:Cx)(x:Str):Prop:=X.env.kindOf x=some .globalImplicit
def aan(I:Inv X pins σ H s)(hg:Gl X x)(hm:X.mg x=some u)(h:Q u s)(hd:(x==("__debug__" : Str))=false:=by decide):wpAny (model X.prog X.w) X.A (eval (.Name x pos) X.env) Q E s :=
 Calls.Name_function_global I.ok.kind hg (Calls.loadGlobal_global (by rw[I.ok.glob];exact I.mod.glob.keeps I.bk) hm h) hd
def Dw(I:Inv X pins σ H s)(hg:Gl X x)(hm:X.mg x=none)(hv:bootBuiltins x=some u)(h:Q u s)(hn:x≠"__name__" := by decide)(hd:(x==("__debug__" : Str))=false:=by decide):wpAny (model X.prog X.w) X.A (eval (.Name x pos) X.env) Q E s:=by obtain⟨mb,h1,h2⟩:=I.mod.blt;exact Calls.Name_function_global I.ok.kind hg (Calls.loadGlobal_builtin (by rw[I.ok.glob];exact I.mod.glob.keeps I.bk) hm (by rw[I.ok.blt];exact h1.keeps I.bk) ((h2 x hn).trans hv) h) hd
def as4(hg:Gl X x)(hm:X.mg x=some u)(r:RelV v u)(hd:(x==("__debug__" : Str))=false:=by decide):PE X (.Name x pos) (tC v) :=
 λ_ _ _ H _ I h=>aan I hg hm ⟨v,H,I,r,h⟩ hd
def PC(X:Cx)(op:CmpOp)(a b:Expr)(t:TE):Prop :=
 ∀(pins:Zp)(s:Shared)(σ:St)(H:Hp)(Q:VK),Inv X pins σ H s->t σ H Q ->
  wpAny (model X.prog X.w) X.A (eval a X.env) (λv s₁=>wpAny (model X.prog X.w) X.A (eval b X.env) (λu s₂=>wpAny (model X.prog X.w) X.A (compareOp op v u) (EP X pins σ Q) X.xe s₂) X.xe s₁) X.xe s
def aco(b:Expr)(h:op≠.In)(h2:op≠.NotIn):behindInMarks op b=false:=by
 have e1:(op==CmpOp.In)=false:=by cases op<;>first|rfl|exact absurd rfl h
 have e2:(op==CmpOp.NotIn)=false:=by cases op<;>first|rfl|exact absurd rfl h2
 cases b<;>simp[behindInMarks,e1,e2]
def tB(t:TE):TT:=fun σ H Q=>t σ H λx H1=>∃c,x=.bl c/\Q c H1
def ayu(h:PC X op a b t)(h1:behindInMarks op b=false:=by first|exact aco _ (by decide) (by decide)|rfl):PE X (.Compare a [op] [b] pos) t:=λpins s σ H Q I hw=>wpAny_Compare1 (h pins s σ H Q I hw) h1
def ayv(h:PC X op a b t)(h1:behindInMarks op b=false:=by first|exact aco _ (by decide) (by decide)|rfl):PT X (.Compare a [op] [b] pos) (tB t):=by intro pins s σ H Q I hw;refine wpAny_isTrue_Compare1 (Bq (h pins s σ H _ I hw) λv s1 h1=>Bq h1 λu s2 h2=>Bq h2 λc s3 ⟨x,H1,I1,r1,q1⟩=>?_) h1;obtain⟨d,rfl,q⟩:=q1;cases r1;exact j7 ⟨H1,I1,q⟩
def ayw(h:PE X e t)(he:∀whole,isTrue e X.env whole=(do let v <- whole;standAt e.pos;holding [v] (truthy v)):=by intro _;rfl):PT X e (tB t):=by intro pins s σ H Q I hw;refine isTrue_plain (Bq (h pins s σ H _ I hw) λv s1 ⟨x,H1,I1,r1,q1⟩=>?_) (he _);obtain⟨d,rfl,q⟩:=q1;cases r1;exact j7 ⟨H1,I1,q⟩
def bct(t u:TT):TT:=fun σ H Q=>t σ H λc H1=>if c=true then u σ H1 Q else Q false H1
def tOr(t u:TT):TT:=fun σ H Q=>t σ H λc H1=>if c=true then Q true H1 else u σ H1 Q
def bcu(t:TT):TT:=fun σ H Q=>t σ H λc H1=>Q (!c) H1
def as5(ha:PT X a tA):PW X (.BoolOp .And [a] pos) tA:=by
 intro wh pins s σ H Q I h;refine isTrue_and (Bq (ha pins s σ H Q I h) λc s1 e=>?_);cases c with
 |true=>exact isTrue_and_nil e|false=>exact e
def ayx(ha:PT X a tA):PW X (.BoolOp .Or [a] pos) tA:=by
 intro wh pins s σ H Q I h;refine isTrue_or (Bq (ha pins s σ H Q I h) λc s1 e=>?_);cases c with
 |false=>exact isTrue_or_nil e|true=>exact e
def ayy{rest:Ya}(ha:PT X a tA)(hb:PW X (.BoolOp .And (b::rest) pos) tB'):PW X (.BoolOp .And (a::b::rest) pos) (bct tA tB'):=by
 intro wh pins s σ H Q I h;refine isTrue_and (Bq (ha pins s σ H _ I h) λc s1 ⟨H1,I1,q1⟩=>?_);cases c with
 |true=>exact hb wh pins s1 σ H1 Q I1 q1|false=>exact⟨H1,I1,q1⟩
def a5i{rest:Ya}(ha:PT X a tA)(hb:PW X (.BoolOp .Or (b::rest) pos) tB'):PW X (.BoolOp .Or (a::b::rest) pos) (tOr tA tB'):=by
 intro wh pins s σ H Q I h;refine isTrue_or (Bq (ha pins s σ H _ I h) λc s1 ⟨H1,I1,q1⟩=>?_);cases c with
 |true=>exact⟨H1,I1,q1⟩|false=>exact hb wh pins s1 σ H1 Q I1 q1
def ayz(ha:PT X a tA):PT X (.UnaryOp .Not a pos) (bcu tA):=by intro pins s σ H Q I h;exact isTrue_not (ha pins s σ H (λc H1=>Q (!c) H1) I h)
def a5j(ta tb:TE):TE:=fun σ H Q=>ta σ H λx H1=>∃c,x=.bl c/\if c=true then tb σ H1 Q else Q (.bl false) H1
def bcw(ta tb:TE):TE:=fun σ H Q=>ta σ H λx H1=>∃c,x=.bl c/\if c=true then Q (.bl true) H1 else tb σ H1 Q
def a5k(ta:TE):TE:=fun σ H Q=>ta σ H λx H1=>∃c,x=.bl c/\Q (.bl (!c)) H1
def ay0{rest:Ya}(ha:PE X a ta)(hb:PE X (.BoolOp .And (b::rest) pos) tb):PE X (.BoolOp .And (a::b::rest) pos) (a5j ta tb):=by
 intro pins s σ H Q I h;refine BoolOp_and (Bq (ha pins s σ H _ I h) λv s1 ⟨x,H1,I1,r1,q1⟩=>?_);obtain⟨c,rfl,q1⟩:=q1;cases r1;refine j7 ?_;cases c with
 |true=>exact hb pins s1 σ H1 Q I1 q1|false=>exact⟨.bl false,H1,I1,rfl,q1⟩
def a5l{rest:Ya}(ha:PE X a ta)(hb:PE X (.BoolOp .Or (b::rest) pos) tb):PE X (.BoolOp .Or (a::b::rest) pos) (bcw ta tb):=by
 intro pins s σ H Q I h;refine BoolOp_or (Bq (ha pins s σ H _ I h) λv s1 ⟨x,H1,I1,r1,q1⟩=>?_);obtain⟨c,rfl,q1⟩:=q1;cases r1;refine j7 ?_;cases c with
 |false=>exact hb pins s1 σ H1 Q I1 q1|true=>exact⟨.bl true,H1,I1,rfl,q1⟩
def ay1(ha:PE X a ta):PE X (.UnaryOp .Not a pos) (a5k ta):=by intro pins s σ H Q I h;refine UnaryOp_ (Bq (ha pins s σ H _ I h) λv s1 ⟨x,H1,I1,r1,q1⟩=>?_);obtain⟨c,rfl,q1⟩:=q1;cases r1;exact not_of (j7 ⟨.bl (!c),H1,I1,rfl,q1⟩)
def tIf(t:TT)(ta tb:TE):TE:=fun σ H Q=>t σ H λc H1=>if c=true then ta σ H1 Q else tb σ H1 Q
def am9(hc:PT X c tA)(ha:PE X a ta)(hb:PE X b tb):PE X (.IfExp c a b pos) (tIf tA ta tb):=by
 intro pins s σ H Q I h;refine wpAny_IfExp (Bq (hc pins s σ H _ I h) λd s1 ⟨H1,I1,q1⟩=>?_);cases d with
 |true=>exact ha pins s1 σ H1 Q I1 q1|false=>exact hb pins s1 σ H1 Q I1 q1
end L2
namespace L2
open PySem PySem.Spec PyProof.Rows
def Hf(K:Fg)(H:Hp)(a:Addr)(xs:List V):Prop :=
 Rd H a (.lst xs) \/
  ∃(o:Obj)(yf:U1)(n:Nat),K.lookup a=some o/\o.cls=.type "list"/\o.dict=none/\o.data=.seq yf n/\yf.size<=sizeLine/\Vals xs yf.toList
def Kv(K:Fg)(H:Hp)(a:Addr)(xs:List V):Prop :=
 Rd H a (.tup xs) \/
  ∃(o:Obj)(yf:U1)(n:Nat),K.lookup a=some o/\o.cls=.type "tuple"/\o.data=.seq yf n/\yf.size<=sizeLine/\Vals xs yf.toList
noncomputable def bcx:Value->Option V
 |.none=>some .non|.bool b=>some (.bl b)|.int i _=>some (.int i)|.str x _=>some (.str x)|.bytes b _=>some (.byt b)|.float b _=>some (.flt b)|.ref a=>some (.ref a)|.type n=>some (.ty n)|_=>none
def RelV.abs(r:RelV x u):bcx u=some x:=by
 cases x with
 |non=>cases r;rfl|bl _=>cases r;rfl|int _=>obtain⟨t,rfl⟩:=r;rfl
 |str _=>obtain⟨t,rfl⟩:=r;rfl
 |byt _=>obtain⟨t,rfl⟩:=r;rfl
 |flt _=>obtain⟨t,rfl⟩:=r;rfl
 |ref _=>cases r;rfl|ty _=>cases r;rfl
def RelV.inj(r:RelV x u)(q:RelV y u):x=y:=jq (r.abs.symm.trans q.abs)
theorem Vals.inj:∀{xs ys:List V}{us:Zl},Vals xs us->Vals ys us->xs=ys
 |_,_,_,.nil,.nil=>rfl|_,_,_,.cons r t,.cons r' t'=>by rw[r.inj r',Vals.inj t t']
def Hf.of{K:Fg}(h:H a=some (.lst xs)):Hf K H a xs:=.inl (.inl h)
def Kv.of{K:Fg}(h:H a=some (.tup xs)):Kv K H a xs:=.inl (.inl h)
def Inv.list(I:Inv X pins σ H s)(h:Hf X.K H a xs):∃yf:List Value,Vals xs yf/\PlainL s.heap a yf.toArray/\xs.length<=sizeLine:=by
 rcases h with h|⟨o,yf,n,hk,hc,hd,hs,hz,r⟩
 . obtain⟨z,yf,n,r,e⟩:=h.ok I.An
   exact⟨yf,r,⟨_,n,e,rfl,rfl,rfl⟩,z⟩
 . refine⟨yf.toList,r,⟨o,n,I.kIn a o hk,hc,hd,by simpa using hs⟩,?_⟩
   have e:=r.length;simp only[q9] at e;exact a_ (f_ e) hz
def Inv.tuple(I:Inv X pins σ H s)(h:Kv X.K H a xs):∃yf:List Value,Vals xs yf/\IsTup s.heap a yf.toArray/\xs.length<=sizeLine:=by
 rcases h with h|⟨o,yf,n,hk,hc,hs,hz,r⟩
 . obtain⟨z,yf,r,p⟩:=h.ok I.An
   exact⟨yf,r,p.is,z⟩
 . refine⟨yf.toList,r,⟨o,I.kIn a o hk,hc,n,by simpa using hs⟩,?_⟩
   have e:=r.length;simp only[q9] at e;exact a_ (f_ e) hz
def Inv.acp(I:Inv X pins σ H s)(h:Hf X.K H a xs)(h':Hf X.K H a ys):xs=ys:=by
 obtain⟨yf,r,⟨o,n,e,_,_,d⟩,_⟩:=I.list h;obtain⟨its',r',⟨o',n',e',_,_,d'⟩,_⟩:=I.list h';rw[e] at e';cases e';rw[d] at d';injection d' with d1 _
 have:yf=its':=by simpa using o4 Array.toList d1
 subst this;exact r.inj r'
def Inv.Yp(I:Inv X pins σ H s)(h:Kv X.K H a xs)(h':Kv X.K H a ys):xs=ys:=by
 obtain⟨yf,r,⟨o,e,_,n,d⟩,_⟩:=I.tuple h;obtain⟨its',r',⟨o',e',_,n',d'⟩,_⟩:=I.tuple h';rw[e] at e';cases e';rw[d] at d';injection d' with d1 _
 have:yf=its':=by simpa using o4 Array.toList d1
 subst this;exact r.inj r'
noncomputable abbrev Cx.Xv(X:Cx)(E:Y1):Cx:={ X with xe:=E }
noncomputable abbrev Cx.nox(X:Cx):Cx:=X.Xv λ_ _=>False
theorem Cx.Ok.Xv{X:Cx}(ok:X.Ok)(E:Y1):(X.Xv E).Ok :=
 ⟨ok.mod,ok.kind,ok.glob,ok.blt,ok.above,ok.inj,ok.has,ok.cab,ok.hd,ok.frames,ok.stk,ok.exf,ok.bs,ok.bsz,ok.am6,ok.as3,ok.Uz,ok.frf⟩
def Cx.Ok.Oi{X:Cx}(ok:(X.Xv E).Ok):X.Ok :=
 ⟨ok.mod,ok.kind,ok.glob,ok.blt,ok.above,ok.inj,ok.has,ok.cab,ok.hd,ok.frames,ok.stk,ok.exf,ok.bs,ok.bsz,ok.am6,ok.as3,ok.Uz,ok.frf⟩
theorem Inv.Xv(I:Inv X pins σ H s)(E:Y1):Inv (X.Xv E) pins σ H s:=⟨I.ok.Xv E,I.os,I.bare,I.base,I.loc,I.cell,I.free,I.Oh,I.pin,I.An,I.len⟩
theorem Inv.Oi(I:Inv (X.Xv E) pins σ H s):Inv X pins σ H s:=⟨I.ok.Oi,I.os,I.bare,I.base,I.loc,I.cell,I.free,I.Oh,I.pin,I.An,I.len⟩
theorem SP.Oi(h:SP (X.Xv E) pins D f s'):SP X pins D f s':=by
 cases f with
 |next=>obtain⟨σ',H',I,q⟩:=h;exact⟨σ',H',I.Oi,q⟩
 |brk=>obtain⟨σ',H',I,q⟩:=h;exact⟨σ',H',I.Oi,q⟩
 |cont=>obtain⟨σ',H',I,q⟩:=h;exact⟨σ',H',I.Oi,q⟩
 |ret u=>obtain⟨v,σ',H',I,r,q⟩:=h;exact⟨v,σ',H',I.Oi,r,q⟩
theorem Rh.nox{st:List Stmt}(h:Rh X.nox st t):Rh X st t:=λpins s σ H D I hw =>
 lz (h pins s σ H D (I.Xv _) hw) (λ_ _ q=>q.Oi) λ_ _ z=>False.elim z
def a5n:TS:=λD σ H=>D.nx σ H
def bcy(t u:TS):TS:=λD σ H=>t { D with nx:=u D } σ H
def as6:Rh X [] a5n:=λ_ _ σ H _ I h=>wpAny_execs_nil ⟨σ,H,I,h⟩
def ana{st:Stmt}{rest:List Stmt}(h1:PS X st t)(h2:Rh X rest u):Rh X (st::rest) (bcy t u):=by
 intro pins s σ H D I h;refine wpAny_execs_cons (Bq (h1 pins s σ H { D with nx:=u D } I h) λf s1 q=>?_);cases f with
 |next =>
  obtain⟨σ',H',I',q⟩:=q;exact h2 pins s1 σ' H' D I' q
 |ret v=>exact q|brk=>exact q|cont=>exact q
def ay2:TS:=λD σ H=>D.bk σ H
def a5o:TS:=λD σ H=>D.ct σ H
def anb:PS X (.Break pos) ay2:=λ_ _ σ H _ I h=>wpAny_Break ⟨σ,H,I,h⟩
def acq:PS X (.Continue pos) a5o:=λ_ _ σ H _ I h=>wpAny_Continue ⟨σ,H,I,h⟩
def Inv.quiet(I:Inv X pins σ H s):interactive X.env=false:=by simp[interactive,I.ok.kind]
def a5p(te:TE):TS:=λD σ H=>te σ H λ_ H1=>D.nx σ H1
def as7(he:PE X e te)(hs:swapsWith e none pos.line X.env=pure false:=by rfl):PS X (.Expr e pos) (a5p te):=by intro pins s σ H D I h;exact wpAny_Expr_any (Bq (he pins s σ H _ I h) λv s1 ⟨x,H1,I1,r1,q1⟩=>⟨σ,H1,I1,q1⟩) I.quiet hs
def bcz(te:TE):TS:=λD σ H=>te σ H D.rt
def ay3(he:PE X e te):PS X (.Return (some e) pos) (bcz te):=by intro pins s σ H D I h;exact wpAny_Return_some (Bq (he pins s σ H _ I h) λv s1 ⟨x,H1,I1,r1,q1⟩=>⟨x,σ,H1,I1,r1,q1⟩)
def bc0(c:TT)(t u:TS):TS:=λD σ H=>c σ H λb H1=>if b=true then t D σ H1 else u D σ H1
def a5q(hc:PT X c tc)(ha:Rh X a t)(hb:Rh X b u):PS X (.If c a b pos) (bc0 tc t u):=by
 intro pins s σ H D I h;refine wpAny_If (Bq (hc pins s σ H _ I h) λd s1 ⟨H1,I1,q1⟩=>?_);cases d with
 |true=>exact ha pins s1 σ H1 D I1 q1|false=>exact hb pins s1 σ H1 D I1 q1
abbrev TG:=V->St->Hp->(St->Hp->Prop)->Prop
abbrev TGs:=List V->St->Hp->(St->Hp->Prop)->Prop
def PG(X:Cx)(target:Expr)(t:TG):Prop :=
 ∀(pins:Zp)(s:Shared)(σ:St)(H:Hp)(v:V)(u:Value)(Q:St->Hp->Prop),Inv X pins σ H s->RelV v u->t v σ H Q ->
  wpAny (model X.prog X.w) X.A (assign target X.env u) (λ_ s'=>∃σ' H',Inv X pins σ' H' s'/\Q σ' H') X.xe s
def PGs(X:Cx)(ts:Ya)(t:TGs):Prop :=
 ∀(pins:Zp)(s:Shared)(σ:St)(H:Hp)(vs:List V)(us:Zl)(Q:St->Hp->Prop),Inv X pins σ H s->Vals vs us->t vs σ H Q ->
  wpAny (model X.prog X.w) X.A (assignInOrder ((assignEach ts X.env).map (·.2)) us) (λ_ s'=>∃σ' H',Inv X pins σ' H' s'/\Q σ' H') X.xe s
abbrev ay4:=V->V->V->Hp->(Hp->Prop)->Prop
def ay5(X:Cx)(t:ay4):Prop :=
 ∀(pins:Zp)(s:Shared)(σ:St)(H:Hp)(o i v:V)(ov iv u:Value)(Q:Hp->Prop),Inv X pins σ H s->RelV o ov->RelV i iv->RelV v u->t o i v H Q ->
  wpAny (model X.prog X.w) X.A (setItem ov iv u) (λ_ s'=>∃H',Inv X pins σ H' s'/\Q H') X.xe s
def ahb(i:Nat):TG:=λv σ H Q=>Q (σ.set i (some v)) H
def aao(hN:X.N.Nodup)(hi:X.N[i]?=some x)(hx:Loc X.env.scope x)(hf:X.fn x=true\/X.env.scope.names.lookup x=some .local:=by first|exact .inl rfl|exact .inr rfl|assumption):PG X (.Name x pos) (ahb i):=by intro pins s σ H v u Q I r h;exact wpAny_assign_Name (am8 I hN hi hx r (λs' I'=>⟨_,H,I',h⟩) hf)
def bc1:TGs:=λvs σ H Q=>vs=[]/\Q σ H
def a5t(t:TG)(u:TGs):TGs:=λvs σ H Q=>∃v r,vs=v::r/\t v σ H fun σ' H'=>u r σ' H' Q
def as8:PGs X [] bc1:=by intro pins s σ H vs us Q I r h;obtain⟨e,h⟩:=h;subst e;cases r;exact assignInOrder_nil ⟨σ,H,I,h⟩
def anc(h1:PG X e t)(h2:PGs X es u)(hs:(assignEach (e::es) X.env).map (·.2)=assign e X.env::(assignEach es X.env).map (·.2):=by rfl):PGs X (e::es) (a5t t u):=by
 intro pins s σ H vs us Q I r h;obtain⟨v,vr,e1,h⟩:=h;subst e1;cases r with
 |cons r rr =>
  rw[hs];refine assignInOrder_cons (Bq (h1 pins s σ H _ _ _ I r h) λ_ s1 ⟨σ1,H1,I1,q1⟩=>?_);exact h2 pins s1 σ1 H1 _ _ Q I1 rr q1
def bc2(K:Fg)(n:Nat)(t:TGs):TG:=λv σ H Q=>∃a xs,v=.ref a/\Kv K H a xs/\xs.length=n/\t xs σ H Q
def ay6(hc:X.calm=true)(h:PGs X es t)(hn:(assignEach es X.env).length=n:=by rfl)(U6:(assignEach es X.env).findIdx? (·.1)=none:=by rfl):PG X (.Tuple es k pos) (bc2 X.K n t):=by
 intro pins s σ H v u Q I r hw;obtain⟨a,xs,e1,hq,hl,hw⟩:=hw;subst e1;cases r;obtain⟨yf,rv,ht,hz⟩:=I.tuple hq;refine assign_Tuple_tuple (I.ok.hd hc) ht (by simp[hn,<- hl,rv.length]) U6 λh' hx=>?_
 have I1:Inv X pins σ H { s with heap:=h' }:=I.kept (t':=s.toks) λb o e=>hx b o (fc (az e)) e
 exact h pins _ σ H xs _ Q I1 (by simpa using rv) hw
def bc3(to ti:TE)(t:ay4):TG:=λv σ H Q=>to σ H λo H1=>ti σ H1 λi H2=>t o i v H2 λH3=>Q σ H3
def ay7(ho:PE X o to)(hi:PE X i ti)(hs:ay5 X t)(ha:∀v,assign (.Subscript o i pos) X.env v=(do
 let ov <- holding [v] (eval o X.env)
 let iv <- holding [v,ov] (eval i X.env)
 standAt pos
 holding [v,ov,iv] (setItem ov iv v)
 release [v,ov,iv] []):=by intro _;rfl):PG X (.Subscript o i pos) (bc3 to ti t):=by
 intro pins s σ H v u Q I r h;rw[ha];refine aa (jg (Bq (ho pins s σ H _ I h) λov s1 ⟨x,H1,I1,r1,q1⟩=>?_));refine aa (jg (Bq (hi pins s1 σ H1 _ I1 q1) λiv s2 ⟨y,H2,I2,r2,q2⟩=>?_));refine aa (wpAny_standAt (aa (jg (Bq (hs pins s2 σ H2 x y v ov iv u _ I2 r1 r2 r q2) λ_ s3 ⟨H3,I3,q3⟩=>?_))));exact wpAny_release ⟨σ,H3,I3,q3⟩
def ay8(te:TE)(g:TG):TS:=λD σ H=>te σ H λx H1=>g x σ H1 D.nx
def ane(he:PE X e te)(hg:PG X tg g)(hs:swapsWithSole [tg] e pos.line X.env=pure false:=by rfl)(hw:swappedStores [tg] e X.env=pure none:=by rfl)(h1:(assignEach [tg] X.env).map (·.2)=[assign tg X.env]:=by rfl):PS X (.Assign [tg] e pos) (ay8 te g):=by intro pins s σ H D I h;refine wpAny_Assign_stores (Bq (he pins s σ H _ I h) λv s1 ⟨x,H1,I1,r1,q1⟩=>?_) hs hw;rw[h1];exact Bq (hg pins s1 σ H1 x v _ I1 r1 q1) λ_ s2 q=>q
def ay9(c:TT)(tb:TS):TS:=λD σ H=>∃W:Nat->St->Hp->Prop,(∃m,W m σ H)/\∀m σ H,W m σ H ->
 c σ H λb H1=>if b=true then ∃N:St->Hp->Prop,(∀σ' H',N σ' H'->∃m',m'<m/\W m' σ' H')/\tb { D with nx:=N,ct:=N,bk:=D.nx } σ H1 else D.nx σ H1
def anf(hp:PassesOwn (model X.prog X.w) X.A X.env X.xe)(hc:PT X c tc)(hb:Rh X body tb):PS X (.While c body [] pos) (ay9 tc tb):=by
 intro pins s σ H D I h;obtain⟨W,⟨m0,w0⟩,turn⟩:=h;refine wpAny_While (codeAny_whileLoop (λn s'=>∃σ' H',Inv X pins σ' H' s'/\W n σ' H') ?_ m0 ⟨σ,H,I,w0⟩);rintro n s1 ⟨σ1,H1,I1,w1⟩;refine su hp (Bq (hc pins s1 σ1 H1 _ I1 (turn n σ1 H1 w1)) λb s2 ⟨H2,I2,q2⟩=>?_);cases b with
 |true =>
  obtain⟨N,hN,q2⟩:=q2;rw[dh rfl];refine su hp (Bq (hb pins s2 σ1 H2 _ I2 q2) λf s3 q3=>?_);cases f with
  |next =>
   obtain⟨σ3,H3,I3,n3⟩:=q3;obtain⟨m',hm,w3⟩:=hN σ3 H3 n3;exact⟨m',hm,σ3,H3,I3,w3⟩
  |cont =>
   obtain⟨σ3,H3,I3,n3⟩:=q3;obtain⟨m',hm,w3⟩:=hN σ3 H3 n3;exact⟨m',hm,σ3,H3,I3,w3⟩
  |brk=>exact q3|ret v=>exact q3
 |false =>
  rw[bx jd];exact wpAny_execs_nil ⟨σ1,H2,I2,q2⟩
structure It where
 go:Nat->Hp->Prop
 yld:Nat->Hp->V->Hp->Prop
 stop:Nat->Hp->Prop
def U0(X:Cx)(pins:Zp)(H:Hp)(b:Addr):Prop :=
 H b=none/\b≠X.env.locals/\b∉X.fs/\(b∈X.ex\/X.s₀.heap.objs.size<=b)/\(∀x c,X.env.cells.lookup x=some c->c≠b)/\∀p∈X.pn++pins,p.1≠b
def Inv.aju(I:Inv X pins σ H s)(hb:s.heap.objs.size<=b)(hn:H' b=none):U0 X pins H' b:=by
 refine⟨hn,u5 (gr I.lt hb),I.ayo hb,.inr (gm I.sz hb),λx c e z=>?_,λp hp z=>?_⟩
 . obtain⟨v,q⟩:=I.cell x c e
   exact absurd (gr q.lt (by rw[z];exact hb)) (ou _)
 . exact absurd (gr (az (I.pin p hp).1) (by rw[z];exact hb)) (ou _)
structure Turn(P:Program)(w:World)(K:Fg)(tg:Expr)(J:It)(fp:X9)(it:Addr)(tn:Nat->Heap->Prop):Prop where
 mem:it∈fp
 obj:∀i h,tn i h->∀b∈fp,∃o,h.get? b=some o/\∀v,o.data≠.cell v
 keep:∀i h h',tn i h->(∀b∈fp,∀o,h.get? b=some o->h'.get? b=some o)->tn i h'
 item:∀(X:Cx),X.prog=P->X.w=w->X.K=K->X.calm=true->∀(i:Nat)(pins:Zp)(s:Shared)(σ:St)(H:Hp)(E:Y1),Inv X pins σ H s->(∀b∈fp,U0 X pins H b)->tn i s.heap->J.go i H ->
  wpAny (model P w) X.A (pyNext (.ref it)) (λr s1=>∃u,r=some u /\
   wpAny (model P w) X.A (letOwnedTupleGo tg (.ref it) u) (λ_ s2=>∃x H',Inv X pins σ H' s2/\RelV x u/\J.yld i H x H'/\tn (i+1) s2.heap/\∀b∈fp,H' b=none) E s1) E s
 done:∀(X:Cx),X.prog=P->X.w=w->X.K=K->X.calm=true->∀(i:Nat)(pins:Zp)(s:Shared)(σ:St)(H:Hp)(E:Y1),Inv X pins σ H s->(∀b∈fp,U0 X pins H b)->tn i s.heap->J.stop i H ->
  wpAny (model P w) X.A (pyNext (.ref it)) (λr s1=>r=none/\Inv X pins σ H s1) E s
 self:∀(A:Around)(i:Nat)(s:Shared)(Q:Y1)(E:Y1),tn i s.heap->Q (.ref it) s->wpAny (model P w) A (pyIter (.ref it)) Q E s
abbrev TI:=St->Hp->(It->Hp->Prop)->Prop
def PIE(X:Cx)(pins:Zp)(σ:St)(tg:Expr)(R:It->Hp->Prop)(itv:Value)(s2:Shared):Prop :=
 ∃(it:Addr)(fp:X9)(tn:Nat->Heap->Prop)(J:It)(H':Hp),itv=.ref it/\Inv X pins σ H' s2/\Turn X.prog X.w X.K tg J fp it tn/\tn 0 s2.heap/\(∀b∈fp,U0 X pins H' b)/\R J H'
def PI(X:Cx)(tg iter:Expr)(wi:TI):Prop :=
 ∀(pins:Zp)(s:Shared)(σ:St)(H:Hp)(R:It->Hp->Prop),Inv X pins σ H s->wi σ H R ->
  wpAny (model X.prog X.w) X.A (eval iter X.env) (λv s1=>wpAny (model X.prog X.w) X.A (pyIter v) (PIE X pins σ tg R) X.xe s1) X.xe s
def ahc(ho:s.heap.get? it=some o)(hc:o.cls=.type n)(hd:o.data=.fields vs)(hn:["enumerate", "zip", "dict_itemiterator", "dict_reverseitemiterator", "odict_iterator", "itertools.zip_longest", "itertools.pairwise"].contains n=false)(hQ:Q () s):wpAny M A (letOwnedTupleGo tg (.ref it) u) Q E s:=by
 unfold letOwnedTupleGo;cases tg<;>first
  |exact aj hQ
  | (cases u<;>first
   |exact aj hQ
   | (refine aa (wpAny_load ho ?_)
      rw[hc,hd];show wpAny M A (if(["enumerate", "zip", "dict_itemiterator", "dict_reverseitemiterator", "odict_iterator", "itertools.zip_longest", "itertools.pairwise"].contains n&&vs[0]?==some (rawInt _))=true then _ else _) Q E s;rw[bx (by intro h;rw[hn,Bool.false_and] at h;cases h)];exact aj hQ))
noncomputable def Itl(K:Fg)(a:Addr):It :=
 ⟨λi H=>∃xs x,Hf K H a xs/\xs[i]?=some x,λi H x H'=>H'=H/\∀xs,Hf K H a xs->xs[i]?=some x,λi H=>∃xs,Hf K H a xs/\xs.length<=i⟩
noncomputable def Itt(K:Fg)(a:Addr):It :=
 ⟨λi H=>∃xs x,Kv K H a xs/\xs[i]?=some x,λi H x H'=>H'=H/\∀xs,Kv K H a xs->xs[i]?=some x,λi H=>∃xs,Kv K H a xs/\xs.length<=i⟩
noncomputable def Pr(lo:Int)(n:Nat):It:=⟨λi _=>i<n,λi H x H'=>H'=H/\x=.int (lo+i),λi _=>n<=i⟩
theorem ajv{K:Fg}(a it:Addr):Turn P w K tg (Itl K a) [it] it (λi h=>h.IsListIter it a i) where
 mem:=by simp
 obj:=λi h st b hb=>by
  have e:b=it:=by simpa using hb
  subst e;obtain⟨o,e,c,d⟩:=st;exact⟨o,e,λv z=>by rw[d] at z;cases z⟩
 keep:=λi h h' st k=>st.at λo e=>k it (by simp) o e
 item:=by
  intro X hP hw hK hc i pins s σ H E I hf st hg;subst hP hw hK;obtain⟨xs,x,hq,hx⟩:=hg;obtain⟨yf,rv,p,hz⟩:=I.list hq;obtain⟨u,hu,ru⟩:=rv.get hx;obtain⟨f0,f1,f2,f3,f4,f5⟩:=hf it (by simp);refine wpAny_pyNext_list_item st p.isList (x:=u) (by simpa using hu) λh' st' sb=>?_
  have I1:Inv X pins σ H { s with heap:=h' }:=I.turned (t':=s.toks) (λb o hb e=>(sb.2 b hb).trans e) f0 f1 f3 f4 f5;obtain⟨o,e,c,d⟩:=id st';exact⟨u,rfl,ahc (s:={ s with heap:=h' }) e c d (by decide) ⟨x,H,I1,ru,⟨rfl,λys hy=>by rw[I.acp hy hq];exact hx⟩,st',λb hb=>(hf b hb).1⟩⟩
 done:=by intro X hP hw hK hc i pins s σ H E I hf st hg;subst hP hw hK;obtain⟨xs,hq,hx⟩:=hg;obtain⟨yf,rv,p,hz⟩:=I.list hq;obtain⟨f0,f1,f2,f3,f4,f5⟩:=hf it (by simp);have hl:=rv.length;exact wpAny_pyNext_list_end (I.ok.hd hc) st p.isList (by simp;exact a_ (g_ hl) hx) λh' eb=>⟨rfl,I.turned (t':=s.toks) (λb o hb e=>eb b o hb e) f0 f1 f3 f4 f5⟩
 self:=λ_ _ _ _ _ st h=>wpAny_pyIter_listiter st h
theorem afi{K:Fg}(a it:Addr):Turn P w K tg (Itt K a) [it] it (λi h=>h.IsTupleIter it a i) where
 mem:=by simp
 obj:=λi h st b hb=>by
  have e:b=it:=by simpa using hb
  subst e;obtain⟨o,e,c,d⟩:=st;exact⟨o,e,λv z=>by rw[d] at z;cases z⟩
 keep:=λi h h' st k=>st.at λo e=>k it (by simp) o e
 item:=by
  intro X hP hw hK hc i pins s σ H E I hf st hg;subst hP hw hK;obtain⟨xs,x,hq,hx⟩:=hg;obtain⟨yf,rv,p,hz⟩:=I.tuple hq;obtain⟨u,hu,ru⟩:=rv.get hx;obtain⟨f0,f1,f2,f3,f4,f5⟩:=hf it (by simp);refine wpAny_pyNext_tuple_item st (show s.heap.IsTuple a yf.toArray from p) (x:=u) (by simpa using hu) λh' st' sb=>?_
  have I1:Inv X pins σ H { s with heap:=h' }:=I.turned (t':=s.toks) (λb o hb e=>(sb.2 b hb).trans e) f0 f1 f3 f4 f5;obtain⟨o,e,c,d⟩:=id st';exact⟨u,rfl,ahc (s:={ s with heap:=h' }) e c d (by decide) ⟨x,H,I1,ru,⟨rfl,λys hy=>by rw[I.Yp hy hq];exact hx⟩,st',λb hb=>(hf b hb).1⟩⟩
 done:=by intro X hP hw hK hc i pins s σ H E I hf st hg;subst hP hw hK;obtain⟨xs,hq,hx⟩:=hg;obtain⟨yf,rv,p,hz⟩:=I.tuple hq;obtain⟨f0,f1,f2,f3,f4,f5⟩:=hf it (by simp);have hl:=rv.length;exact wpAny_pyNext_tuple_end (I.ok.hd hc) st (show s.heap.IsTuple a yf.toArray from p) (by simp;exact a_ (g_ hl) hx) λh' eb=>⟨rfl,I.turned (t':=s.toks) (λb o hb e=>eb b o hb e) f0 f1 f3 f4 f5⟩
 self:=λ_ _ _ _ _ st h=>wpAny_pyIter_tupleiter st h
theorem afj{K:Fg}(it:Addr)(lo:Int)(n:Nat):Turn P w K tg (Pr lo n) [it] it (λi h=>IsRangeIter h it (lo+(i:Nat)*1) ((n:Int)-(i:Nat)) 1) where
 mem:=by simp
 obj:=λi h st b hb=>by
  have e:b=it:=by simpa using hb
  subst e;exact⟨_,st,λv z=>by
   have z':Data.fields _=Data.cell v:=z;cases z'⟩
 keep:=λi h h' st k=>k it (by simp) _ st
 item:=by
  intro X hP hw hK hc i pins s σ H E I hf st hg;subst hP hw hK;obtain⟨f0,f1,f2,f3,f4,f5⟩:=hf it (by simp);have W:=Walks.range (prog:=X.prog) (w:=X.w) (I.ok.hd hc) it lo 1 n;refine W.item i s _ _ hg st λv h' tk hv st' kk=>?_
  obtain⟨t,rfl⟩:=hv;have I1:Inv X pins σ H { s with heap:=h',toks:=tk }:=I.turned (λb o hb e=>kk b o (by simpa using hb) e) f0 f1 f3 f4 f5;refine⟨_,rfl,ahc (s:={ s with heap:=h',toks:=tk }) (n := "range_iterator") st' rfl rfl (by decide) ⟨.int (lo+i),H,I1,⟨t,?_⟩,⟨rfl,rfl⟩,st',λb hb=>(hf b hb).1⟩⟩;rw[Int.mul_one]
 done:=by intro X hP hw hK hc i pins s σ H E I hf st hg;subst hP hw hK;obtain⟨f0,f1,f2,f3,f4,f5⟩:=hf it (by simp);exact wpAny_pyNext_range_end (I.ok.hd hc) st (by have:n<=i:=hg;lia) λh' eb=>⟨rfl,I.turned (t':=s.toks) (λb o hb e=>eb b o hb e) f0 f1 f3 f4 f5⟩
 self:=λ_ _ _ _ _ st h=>wpAny_pyIter_rangeiter st h
end L2
namespace L2
open PySem PySem.Spec PyProof.Rows
def ang{lo:Int}(I:Inv X pins σ H s)(h1:-(2 ^ 62)<=lo)(h2:lo<2 ^ 62)(h3:-(2 ^ 62)<=hi)(h4:hi<2 ^ 62)(q:R (Pr lo (hi-lo).toNat) H):wpAny (model X.prog X.w) X.A (pyIter (.ref s.heap.objs.size)) (PIE X pins σ tg R) E { s with heap:=s.heap.push { cls:=.type "range",data:=.fields #[.int lo t,.int hi u,.int 1 v] },toks:=tk }:=by
 refine wpAny_pyIter_range (IsRange.new ..) (small_one h1 h2 h3 h4) ?_;have I1:Inv X pins σ H { s with heap:=s.heap.push { cls:=.type "range",data:=.fields #[.int lo t,.int hi u,.int 1 v] },toks:=tk }:=I.kept λb o e=>ak _ e
 refine⟨(s.heap.push { cls:=.type "range",data:=.fields #[.int lo t,.int hi u,.int 1 v] }).objs.size,[(s.heap.push { cls:=.type "range",data:=.fields #[.int lo t,.int hi u,.int 1 v] }).objs.size],_,_,H,rfl,
  I1.kept (t':=tk) λb o e=>ak _ e,afj _ lo (hi-lo).toNat,?_,λb hb=>?_,q⟩
 . have e1:lo+((0:Nat):Int)*1=lo:=by simp
   have e2:(((hi-lo).toNat:Nat):Int)-((0:Nat):Int)=Builtin.Range.rangeSize lo hi 1:=by rw[rangeSize_one];split<;>lia
   show IsRangeIter _ _ (lo+((0:Nat):Int)*1) ((((hi-lo).toNat:Nat):Int)-((0:Nat):Int)) 1;rw[e1,e2];exact bh _ rfl
 . have e:b=(s.heap.push { cls:=.type "range",data:=.fields #[.int lo t,.int hi u,.int 1 v] }).objs.size:=by simpa using hb
   subst e;exact I1.aju (bw _) (I1.An.fresh (bw _))
def a5v(ta:TA):TI:=fun σ H R=>ta σ H λvs H1=>∃j:Int,vs=[.int j]/\-(2 ^ 62)<=j/\j<2 ^ 62/\R (Pr 0 j.toNat) H1
def ajw{X:Cx}{tg:Expr}(hg:Gl X "range")(hm:X.mg "range" = none)(ha:PA X [a] ta)(hs:starEach [a] X.env=[(false,eval a X.env)]:=by rfl):PI X tg (.Call (.Name "range" p) [a] [] pos) (a5v ta):=by
 intro pins s σ H R I h;refine Call_ (Dw I hg hm boot_range (jh (Bq (ha pos pins s σ H _ I h) λus s1 ⟨vs,H1,I1,r1,q1⟩=>?_) hs rfl));obtain⟨j,e,q1,q2,q⟩:=q1;subst e;cases r1 with
 |cons r rr =>
  cases rr;obtain⟨t,rfl⟩:=r;exact call_range_1 (ang I1 (by lia) (by lia) q1 q2 (by simpa using q))
def bc5(wi:TI)(g:TG)(tb:TS):TS:=λD σ H=>wi σ H λJ H1=>∃W:Nat->Nat->St->Hp->Prop,(∃m,W 0 m σ H1)/\∀i m σ H,W i m σ H ->
 (J.stop i H/\D.nx σ H)\/(J.go i H/\∃N:St->Hp->Prop,(∀σ' H',N σ' H'->∃m',m'<m/\W (i+1) m' σ' H')/\∀x H',J.yld i H x H'->g x σ H' fun σ2 H2=>tb { D with nx:=N,ct:=N,bk:=D.nx } σ2 H2)
noncomputable def Th(fp:X9)(h:Heap):List (Addr×Obj):=fp.filterMap λb=>(h.get? b).map λo=>(b,o)
def Lp(hb:b∈fp)(e:h.get? b=some o):(b,o)∈Th fp h:=List.mem_filterMap.mpr ⟨b,hb,by rw[e];rfl⟩
def ajx(hp:p∈Th fp h):p.1∈fp/\h.get? p.1=some p.2:=by
 obtain⟨b,hb,e⟩:=List.mem_filterMap.mp hp;cases q:h.get? b with
 |none=>rw[q] at e;cases e
 |some o =>
  rw[q] at e;have e':(b,o)=p:=jq e;subst e';exact⟨hb,q⟩
def Inv.pinned{X:Cx}(I:Inv X pins σ H s)(hf:∀b∈fp,U0 X pins H b)(ho:∀b∈fp,∃o,s.heap.get? b=some o/\∀v,o.data≠.cell v):Inv X (pins++Th fp s.heap) σ H s :=
 I.Rg λp hp=>(dm.mp hp).elim (λz=>I.pin p (jb _ z)) λz=>by obtain⟨hb,e⟩:=ajx z;obtain⟨f0,f1,f2,_⟩:=hf p.1 hb;obtain⟨o,e',d⟩:=ho p.1 hb;rw[e] at e';cases e';exact⟨e,f0,f1,f2,d⟩
def Inv.Oj{X:Cx}(I:Inv X (pins++pl) σ H s):Inv X pins σ H s:=I.Rg λp hp=>I.pin p (jb _ (xx _ hp))
def aza{X:Cx}{tg:Expr}(hp:PassesOwn (model X.prog X.w) X.A X.env X.xe)(hc:X.calm=true)(hi:PI X tg iter wi)(hg:PG X tg g)(hb:Rh X body tb)(hs:∀x,foldedSetIterable iter X.env x=pure x:=by intro _;rfl):PS X (.For tg iter body [] pos) (bc5 wi g tb):=by
 intro pins s σ H D I h;refine wpAny_For (Bq (hi pins s σ H _ I h) λv s1 h1=>Bq h1 λitv s2 h2=>?_) hs;obtain⟨it,fp,tn,J,H2,e,I2,T,st2,f2,W,⟨m0,w0⟩,turn⟩:=h2;subst e;have afk:∀{H':Hp},(∀b∈fp,H' b=none)->∀b∈fp,U0 X pins H' b:=λhn b hb=>⟨hn b hb,(f2 b hb).2⟩
 refine codeAny_forLoop_any (λn s'=>∃i σ' H',Inv X pins σ' H' s'/\tn i s'.heap/\(∀b∈fp,H' b=none)/\W i n σ' H') ?_ m0 ⟨0,σ,H2,I2,st2,λb hb=>(f2 b hb).1,w0⟩;rintro n s3 ⟨i,σ3,H3,I3,st3,fr3,w3⟩;rcases turn i n σ3 H3 w3 with⟨stop,qn⟩|⟨go,N,hN,step⟩
 . refine su hp (Bq (T.done X rfl rfl rfl hc i pins s3 σ3 H3 X.xe I3 (afk fr3) st3 stop) λr s4 ⟨hr,I4⟩=>?_)
   subst hr;exact wpAny_execs_nil ⟨σ3,H3,I4,qn⟩
 . refine su hp (Bq (T.item X rfl rfl rfl hc i pins s3 σ3 H3 X.xe I3 (afk fr3) st3 go) λr s4 ⟨u,hr,h4⟩=>?_)
   subst hr;refine su hp (Bq h4 λ_ s5 ⟨x,H5,I5,r5,y5,st5,fr5⟩=>?_);have I5':=I5.pinned (afk fr5) (T.obj _ _ st5);refine su hp (Bq (hg _ s5 σ3 H5 x u _ I5' r5 (step x H5 y5)) λ_ s6 ⟨σ6,H6,I6,q6⟩=>?_);refine su hp (Bq (hb _ s6 σ6 H6 _ I6 q6) λf s7 q7=>?_);have again:∀{σ7:St}{H7:Hp},Inv X (pins++Th fp s5.heap) σ7 H7 s7->N σ7 H7->∃m,m<n/\∃i σ' H',Inv X pins σ' H' s7/\tn i s7.heap/\(∀b∈fp,H' b=none)/\W i m σ' H':=fun{σ7 H7} I7 n7=>by obtain⟨m',hm,w7⟩:=hN σ7 H7 n7;refine⟨m',hm,i+1,σ7,H7,I7.Oj,T.keep _ _ _ st5 λb hb o e=>(I7.pin (b,o) (jb _ (jb _ (Lp hb e)))).1,λb hb=>?_,w7⟩;obtain⟨o,e,d⟩:=T.obj _ _ st5 b hb;exact(I7.pin (b,o) (jb _ (jb _ (Lp hb e)))).2.1
   cases f with
   |next=>obtain⟨σ7,H7,I7,n7⟩:=q7;exact again I7 n7
   |cont=>obtain⟨σ7,H7,I7,n7⟩:=q7;exact again I7 n7
   |brk=>obtain⟨σ7,H7,I7,q7⟩:=q7;exact⟨σ7,H7,I7.Oj,q7⟩
   |ret v=>obtain⟨x7,σ7,H7,I7,r7,q7⟩:=q7;exact⟨x7,σ7,H7,I7.Oj,r7,q7⟩
end L2
namespace L2
open PySem PySem.Spec PyProof.Rows
abbrev R2:=V->V->Hp->VK->Prop
def Dh(X:Cx)(f:Value->Value->Sem Value)(r:R2):Prop :=
 ∀(pins:Zp)(s:Shared)(σ:St)(H:Hp)(x y:V)(v u:Value)(Q:VK),Inv X pins σ H s->RelV x v->RelV y u->r x y H Q ->
  wpAny (model X.prog X.w) X.A (f v u) (EP X pins σ Q) X.xe s
def UnR(X:Cx)(f:Value->Sem Value)(r:V->Hp->VK->Prop):Prop :=
 ∀(pins:Zp)(s:Shared)(σ:St)(H:Hp)(x:V)(v:Value)(Q:VK),Inv X pins σ H s->RelV x v->r x H Q ->
  wpAny (model X.prog X.w) X.A (f v) (EP X pins σ Q) X.xe s
def Cy(X:Cx)(f:Value)(r:List V->Hp->VK->Prop):Prop :=
 ∀(pins:Zp)(s:Shared)(σ:St)(H:Hp)(xs:List V)(us:Zl)(Q:VK),Inv X pins σ H s->Vals xs us->r xs H Q ->
  wpAny (model X.prog X.w) X.A (call f us) (EP X pins σ Q) X.xe s
def tOp(r:R2)(ta tb:TE):TE:=fun σ H Q=>ta σ H λx H1=>tb σ H1 λy H2=>r x y H2 Q
def tUn(r:V->Hp->VK->Prop)(ta:TE):TE:=fun σ H Q=>ta σ H λx H1=>r x H1 Q
def rI(C:Int->Int->Prop)(g:Int->Int->V):R2:=λx y H Q=>∃i j,x=.int i/\y=.int j/\C i j/\Q (g i j) H
def rI0(g:Int->Int->V):R2:=λx y H Q=>∃i j,x=.int i/\y=.int j/\Q (g i j) H
def rU(g:Int->V):V->Hp->VK->Prop:=λx H Q=>∃i,x=.int i/\Q (g i) H
def azc{X:Cx}{a b:Expr}{ta tb:TE}(ha:PE X a ta)(hb:PE X b tb){pins:Zp}{s:Shared}{σ:St}{H:Hp}{R:V->V->Hp->Prop}(I:Inv X pins σ H s)
 (h:ta σ H λx H1=>tb σ H1 λy H2=>R x y H2) {Q:Y1} {f:Value->Value->Sem Value}
 (hf:∀v u s2 x y H2,Inv X pins σ H2 s2->RelV x v->RelV y u->R x y H2->wpAny (model X.prog X.w) X.A (f v u) Q X.xe s2) :
 wpAny (model X.prog X.w) X.A (eval a X.env) (λv s₁=>wpAny (model X.prog X.w) X.A (eval b X.env) (λu s₂=>wpAny (model X.prog X.w) X.A (f v u) Q X.xe s₂) X.xe s₁) X.xe s:=by
 refine Bq (ha pins s σ H _ I h) λv s1 ⟨x,H1,I1,r1,q1⟩=>?_
 refine Bq (hb pins s1 σ H1 _ I1 q1) λu s2 ⟨y,H2,I2,r2,q2⟩=>?_
 exact hf v u s2 x y H2 I2 r1 r2 q2
def a5x{X:Cx}{a b:Expr}{ta tb:TE}{pos:Pos}{op:Operator}{r:R2}(ho:Dh X (binaryOp op) r)(ha:PE X a ta)(hb:PE X b tb):PE X (.BinOp a op b pos) (tOp r ta tb):=by intro pins s σ H Q I h;exact wpAny_BinOp (azc ha hb I h λv u s2 x y H2 I2 rx ry q=>ho pins s2 σ H2 x y v u Q I2 rx ry q)
def a5y{X:Cx}{a:Expr}{ta:TE}{pos:Pos}{op:UnaryOp}{r:V->Hp->VK->Prop}(ho:UnR X (unaryOp op) r)(ha:PE X a ta):PE X (.UnaryOp op a pos) (tUn r ta):=by intro pins s σ H Q I h;exact UnaryOp_ (Bq (ha pins s σ H _ I h) λv s1 ⟨x,H1,I1,r1,q1⟩=>ho pins s1 σ H1 x v Q I1 r1 q1)
def opI{X:Cx}{f:Value->Value->Sem Value}{C:Int->Int->Prop}{g:Int->Int->Int}
 (rule:∀(i j:Int)(t u:Tok)(s:Shared)(Q:Y1)(E:Y1),C i j->Q (.int (g i j) s.toks) { s with toks:=s.toks+1 }->wpAny (model X.prog X.w) X.A (f (.int i t) (.int j u)) Q E s) :
 Dh X f (rI C λi j=>.int (g i j)):=by
 intro pins s σ H x y v u Q I rx ry h;obtain⟨i,j,rfl,rfl,hc,q⟩:=h;obtain⟨t,rfl⟩:=rx;obtain⟨t',rfl⟩:=ry;exact rule i j t t' s _ _ hc ⟨.int (g i j),H,I.tok _,⟨_,rfl⟩,q⟩
def a5z{X:Cx}{f:Value->Value->Sem Value}{g:Int->Int->Int}
 (rule:∀(i j:Int)(t u:Tok)(s:Shared)(Q:Y1)(E:Y1),Q (.int (g i j) s.toks) { s with toks:=s.toks+1 }->wpAny (model X.prog X.w) X.A (f (.int i t) (.int j u)) Q E s) :
 Dh X f (rI0 λi j=>.int (g i j)):=by
 intro pins s σ H x y v u Q I rx ry h;obtain⟨i,j,rfl,rfl,q⟩:=h;obtain⟨t,rfl⟩:=rx;obtain⟨t',rfl⟩:=ry;exact rule i j t t' s _ _ ⟨.int (g i j),H,I.tok _,⟨_,rfl⟩,q⟩
def ata{X:Cx}{f:Value->Value->Sem Value}{g:Int->Int->Bool}
 (rule:∀(i j:Int)(t u:Tok)(s:Shared)(Q:Y1)(E:Y1),Q (.bool (g i j)) s->wpAny (model X.prog X.w) X.A (f (.int i t) (.int j u)) Q E s) :
 Dh X f (rI0 λi j=>.bl (g i j)):=by
 intro pins s σ H x y v u Q I rx ry h;obtain⟨i,j,rfl,rfl,q⟩:=h;obtain⟨t,rfl⟩:=rx;obtain⟨t',rfl⟩:=ry;exact rule i j t t' s _ _ ⟨.bl (g i j),H,I,rfl,q⟩
def bc9(i j:Int):Prop:=0<j/\j<1073741824
def bda(i j:Int):Prop:=0<=j/\j<=1000000/\i.natAbs<2 ^ 64
def azd(i j:Int):Prop:=(-(2 ^ 64)<i/\i<2 ^ 64)\/(-(2 ^ 64)<j/\j<2 ^ 64)
def azd.ok{i j:Int}(h:azd i j):IntMulOk i j:=by
 rcases h with⟨h1,h2⟩|⟨h1,h2⟩
 . exact .of_left (intBits_le_64 h1 h2)
 . exact .of_right (intBits_le_64 h1 h2)
def aze{X:Cx}:Dh X (binaryOp .Add) (rI0 λi j=>.int (i+j)):=a5z λ_ _ _ _ _ _ _ q=>add_int q
def azf{X:Cx}:Dh X (binaryOp .Sub) (rI0 λi j=>.int (i-j)):=a5z λ_ _ _ _ _ _ _ q=>sub_int q
def azg{X:Cx}:Dh X (binaryOp .Mult) (rI azd λi j=>.int (i*j)):=opI λ_ _ _ _ _ _ _ hc q=>mul_int q hc.ok
def atb{X:Cx}:Dh X (binaryOp .FloorDiv) (rI bc9 λi j=>.int (i / j)):=opI λi j _ _ _ _ _ hc q=>by
 have h1:(0:Int)<j:=hc.1
 have h2:j<1073741824:=hc.2
 exact floordiv_int (by lia) (by rw[Int.fdiv_eq_ediv_of_nonneg i (by lia)];exact q) (.inl (PyProof.noPylong_small (by omega)))
def azh{X:Cx}:Dh X (binaryOp .Mod) (rI (λ_ j=>0<j) λi j=>.int (i%j)):=opI λi j _ _ _ _ _ hc q=>by
 have h1:(0:Int)<j:=hc
 exact mod_int' (by lia) (by rw[Int.fmod_eq_emod_of_nonneg i (by lia)];exact q)
def azi{X:Cx}:Dh X (binaryOp .Pow) (rI bda λi j=>.int (i ^ j.toNat)):=opI λ_ _ _ _ _ _ _ hc q=>pow_int_small hc.1 hc.2.1 hc.2.2 q
def unI{X:Cx}{f:Value->Sem Value}{g:Int->Int}
 (rule:∀(i:Int)(t:Tok)(s:Shared)(Q:Y1)(E:Y1),Q (.int (g i) s.toks) { s with toks:=s.toks+1 }->wpAny (model X.prog X.w) X.A (f (.int i t)) Q E s) :
 UnR X f (rU λi=>.int (g i)):=by
 intro pins s σ H x v Q I rx h;obtain⟨i,rfl,q⟩:=h;obtain⟨t,rfl⟩:=rx;exact rule i t s _ _ ⟨.int (g i),H,I.tok _,⟨_,rfl⟩,q⟩
def azj{X:Cx}:UnR X (unaryOp .USub) (rU λi=>.int (-i)):=unI λ_ _ _ _ _ q=>neg_int q
noncomputable def azk:V->V->Bool
 |.non,.non=>true|.non,.int _=>true|.int _,.non=>true|.non,.bl _=>true|.bl _,.non=>true|.non,.str _=>true|.str _,.non=>true
 |.int _,.int _=>true|.bl _,.bl _=>true|.str _,.str _=>true|.byt _,.byt _=>true
 |.int _,.str _=>true|.str _,.int _=>true|.bl _,.str _=>true|.str _,.bl _=>true
 |_,_=>false
def rEq:R2:=λx y H Q=>azk x y=true/\Q (.bl (decide (x=y))) H
def rNe:R2:=λx y H Q=>azk x y=true/\Q (.bl (!decide (x=y))) H
def ahd{i j:Int}:decide (V.int i=V.int j)=(i==j):=by rw[vq];simp
def anh{i j:Bool}:decide (V.bl i=V.bl j)=(i==j):=by rw[vq];simp
def ahe{i j:Str}:decide (V.str i=V.str j)=(i==j):=by rw[vq];simp
def ahf{i j:Array UInt8}:decide (V.byt i=V.byt j)=(i.toList==j.toList):=by rw[vq];cases i;cases j;simp
def xu{X:Cx}{pins:Zp}{σ:St}{H:Hp}{s:Shared}{Q:VK}{k k':Bool}(I:Inv X pins σ H s)(q:Q (.bl k) H)(e:k=k'):EP X pins σ Q (.bool k') s:=by subst e;exact⟨.bl k,H,I,rfl,q⟩
def a6a{X:Cx}:Dh X (compareOp .Eq) rEq:=by
 intro pins s σ H x y v u Q I rx ry h;obtain⟨hs,q⟩:=h;cases x with
 |non =>
  cases rx;cases y with
  |non=>cases ry;exact PySem.EqNone.eq_none_none (xu I q (by simp))|bl j=>cases ry;exact PySem.EqNone.eq_none_bool (xu I q (by simp))|int j=>obtain⟨t',rfl⟩:=ry;exact PySem.EqNone.eq_none_int (xu I q (by simp))
  |str j=>obtain⟨t',rfl⟩:=ry;exact PySem.EqNone.eq_none_str (xu I q (by simp))
  |_=>exact absurd (show false=true from hs) jd
 |bl i =>
  cases rx;cases y with
  |non=>cases ry;exact PySem.EqNone.eq_bool_none (xu I q (by simp))|bl j=>cases ry;exact eq_bool (xu I q anh)|str j=>obtain⟨t',rfl⟩:=ry;exact PySem.EqMixed.eq_bool_str (xu I q (by simp))
  |_=>exact absurd (show false=true from hs) jd
 |int i =>
  obtain⟨t,rfl⟩:=rx;cases y with
  |non=>cases ry;exact PySem.EqNone.eq_int_none (xu I q (by simp))|int j=>obtain⟨t',rfl⟩:=ry;exact eq_int (xu I q ahd)
  |str j=>obtain⟨t',rfl⟩:=ry;exact PySem.EqMixed.eq_int_str (xu I q (by simp))
  |_=>exact absurd (show false=true from hs) jd
 |str i =>
  obtain⟨t,rfl⟩:=rx;cases y with
  |non=>cases ry;exact PySem.EqNone.eq_str_none (xu I q (by simp))|bl j=>cases ry;exact PySem.EqMixed.eq_str_bool (xu I q (by simp))|int j=>obtain⟨t',rfl⟩:=ry;exact PySem.EqMixed.eq_str_int (xu I q (by simp))
  |str j=>obtain⟨t',rfl⟩:=ry;exact eq_str (xu I q ahe)
  |_=>exact absurd (show false=true from hs) jd
 |byt i =>
  obtain⟨t,rfl⟩:=rx;cases y with
  |byt j=>obtain⟨t',rfl⟩:=ry;exact PySem.W.eq_bytes (xu I q ahf)
  |_=>exact absurd (show false=true from hs) jd
 |_=>cases y<;>exact absurd (show false=true from hs) jd
def a6b{X:Cx}:Dh X (compareOp .NotEq) rNe:=by
 intro pins s σ H x y v u Q I rx ry h;obtain⟨hs,q⟩:=h;cases x with
 |non =>
  cases rx;cases y with
  |non=>cases ry;exact PySem.EqNone.ne_none_none (xu I q (by simp))|bl j=>cases ry;exact PySem.EqNone.ne_none_bool (xu I q (by simp))|int j=>obtain⟨t',rfl⟩:=ry;exact PySem.EqNone.ne_none_int (xu I q (by simp))
  |str j=>obtain⟨t',rfl⟩:=ry;exact PySem.EqNone.ne_none_str (xu I q (by simp))
  |_=>exact absurd (show false=true from hs) jd
 |bl i =>
  cases rx;cases y with
  |non=>cases ry;exact PySem.EqNone.ne_bool_none (xu I q (by simp))|bl j=>cases ry;exact ne_bool (xu I q (o4 not anh))|str j=>obtain⟨t',rfl⟩:=ry;exact PySem.EqMixed.ne_bool_str (xu I q (by simp))
  |_=>exact absurd (show false=true from hs) jd
 |int i =>
  obtain⟨t,rfl⟩:=rx;cases y with
  |non=>cases ry;exact PySem.EqNone.ne_int_none (xu I q (by simp))|int j=>obtain⟨t',rfl⟩:=ry;exact ne_int (xu I q (o4 not ahd))
  |str j=>obtain⟨t',rfl⟩:=ry;exact PySem.EqMixed.ne_int_str (xu I q (by simp))
  |_=>exact absurd (show false=true from hs) jd
 |str i =>
  obtain⟨t,rfl⟩:=rx;cases y with
  |non=>cases ry;exact PySem.EqNone.ne_str_none (xu I q (by simp))|bl j=>cases ry;exact PySem.EqMixed.ne_str_bool (xu I q (by simp))|int j=>obtain⟨t',rfl⟩:=ry;exact PySem.EqMixed.ne_str_int (xu I q (by simp))
  |str j=>obtain⟨t',rfl⟩:=ry;exact ne_str (xu I q (o4 not ahe))
  |_=>exact absurd (show false=true from hs) jd
 |byt i =>
  obtain⟨t,rfl⟩:=rx;cases y with
  |byt j=>obtain⟨t',rfl⟩:=ry;exact PySem.W.ne_bytes (xu I q (o4 not ahf))
  |_=>exact absurd (show false=true from hs) jd
 |_=>cases y<;>exact absurd (show false=true from hs) jd
def a6c{X:Cx}:Dh X (compareOp .Lt) (rI0 λi j=>.bl (decide (i<j))):=ata λ_ _ _ _ _ _ _ q=>lt_int q
def a6d{X:Cx}:Dh X (compareOp .LtE) (rI0 λi j=>.bl (decide (i<=j))):=ata λ_ _ _ _ _ _ _ q=>le_int q
def a6e{X:Cx}:Dh X (compareOp .Gt) (rI0 λi j=>.bl (decide (j<i))):=ata λ_ _ _ _ _ _ _ q=>gt_int q
def a6f{X:Cx}:Dh X (compareOp .GtE) (rI0 λi j=>.bl (decide (j<=i))):=ata λ_ _ _ _ _ _ _ q=>ge_int q
def Dh.or{X:Cx}{f:Value->Value->Sem Value}{r r':R2}(h:Dh X f r)(h':Dh X f r'):Dh X f (λx y H Q=>r x y H Q\/r' x y H Q):=by
 intro pins s σ H x y v u Q I rx ry q;rcases q with q|q
 . exact h pins s σ H x y v u Q I rx ry q
 . exact h' pins s σ H x y v u Q I rx ry q
def atc{X:Cx}{a b:Expr}{ta tb:TE}{pos:Pos}{op:CmpOp}{r:R2}(ho:Dh X (compareOp op) r)(ha:PE X a ta)(hb:PE X b tb)(hm:behindInMarks op b=false):PE X (.Compare a [op] [b] pos) (tOp r ta tb):=by intro pins s σ H Q I h;exact wpAny_Compare1 (azc ha hb I h λv u s2 x y H2 I2 rx ry q=>ho pins s2 σ H2 x y v u Q I2 rx ry q) hm
def awr(t:TE):TT:=fun σ H Q=>t σ H λx H'=>∃k,x=.bl k/\Q k H'
def atd{X:Cx}{a b:Expr}{ta tb:TE}{pos:Pos}{op:CmpOp}{r:R2}(ho:Dh X (compareOp op) r)(ha:PE X a ta)(hb:PE X b tb)(hm:behindInMarks op b=false):PT X (.Compare a [op] [b] pos) (awr (tOp r ta tb)):=by
 intro pins s σ H Q I h;refine wpAny_isTrue_Compare1 (Bq (ha pins s σ H _ I h) λv s1 ⟨x,H1,I1,r1,q1⟩=>Bq (hb pins s1 σ H1 _ I1 q1) λu s2 ⟨y,H2,I2,r2,q2⟩ =>
  Bq (ho pins s2 σ H2 x y v u _ I2 r1 r2 q2) λc s3 ⟨z,H3,I3,r3,k,e,q3⟩=>?_) hm
 subst e;cases r3;exact j7 ⟨H3,I3,q3⟩
def aap(r r':R2)(ta tb tc:TE):TE:=fun σ H Q=>ta σ H λx H1=>tb σ H1 λy H2=>r x y H2 λz H3=>∃k,z=.bl k /\
 (if k=true then tc σ H3 λw' H4=>r' y w' H4 Q else Q (.bl false) H3)
def ani{X:Cx}{a b c:Expr}{ta tb tc:TE}{pos:Pos}{op op':CmpOp}{r r':R2}(ho:Dh X (compareOp op) r)(ho':Dh X (compareOp op') r')(ha:PE X a ta)(hb:PE X b tb)(hc:PE X c tc)
 (hm:lastMarks [op,op'] [b,c]=false:=by with_unfolding_all rfl):PE X (.Compare a [op,op'] [b,c] pos) (aap r r' ta tb tc):=by
 intro pins s σ H Q I h;refine Compare_chain (Bq (ha pins s σ H _ I h) λv s1 ⟨x,H1,I1,r1,q1⟩=>chain_link (Bq (hb pins s1 σ H1 _ I1 q1) λu s2 ⟨y,H2,I2,r2,q2⟩ =>
  Bq (ho pins s2 σ H2 x y v u _ I2 r1 r2 q2) λd s3 ⟨z,H3,I3,r3,k,e,q3⟩=>?_)) hm
 subst e;cases r3;refine j7 ?_;cases k with
 |false=>exact ite_ff ⟨.bl false,H3,I3,rfl,q3⟩|true=>exact ite_tt (chain_last (Bq (hc pins s3 σ H3 _ I3 q3) λw' s4 ⟨z',H4,I4,r4,q4⟩=>ho' pins s4 σ H4 y z' u w' Q I4 r2 r4 q4))
def anj{X:Cx}{a b c:Expr}{ta tb tc:TE}{pos:Pos}{op op':CmpOp}{r r':R2}(ho:Dh X (compareOp op) r)(ho':Dh X (compareOp op') r')(ha:PE X a ta)(hb:PE X b tb)(hc:PE X c tc)
 (hm:lastMarks [op,op'] [b,c]=false:=by with_unfolding_all rfl):PT X (.Compare a [op,op'] [b,c] pos) (awr (aap r r' ta tb tc)):=by
 intro pins s σ H Q I h;refine isTrue_chain (Bq (ha pins s σ H _ I h) λv s1 ⟨x,H1,I1,r1,q1⟩=>test_link (Bq (hb pins s1 σ H1 _ I1 q1) λu s2 ⟨y,H2,I2,r2,q2⟩ =>
  Bq (ho pins s2 σ H2 x y v u _ I2 r1 r2 q2) λd s3 ⟨z,H3,I3,r3,k,e,q3⟩=>?_)) hm
 subst e;cases r3;refine j7 ?_;cases k with
 |false =>
  obtain⟨k',e',q'⟩:=q3;cases e';exact ite_ff ⟨H3,I3,q'⟩
 |true =>
  refine ite_tt (test_last (Bq (hc pins s3 σ H3 _ I3 q3) λw' s4 ⟨z',H4,I4,r4,q4⟩=>Bq (ho' pins s4 σ H4 y z' u w' _ I4 r2 r4 q4) λd' s5 ⟨z2,H5,I5,r5,k2,e2,q5⟩=>?_));subst e2;cases r5;exact j7 ⟨H5,I5,q5⟩
def aaq:(sizeLine:Nat)<2 ^ 63:=by rw[qj];decide
def vals1{x:V}{us:Zl}(r:Vals [x] us):∃u,us=[u]/\RelV x u:=by
 cases r with
 |cons r1 r2=>cases r2;exact⟨_,rfl,r1⟩
def vals2{x y:V}{us:Zl}(r:Vals [x,y] us):∃u w',us=[u,w']/\RelV x u/\RelV y w':=by
 cases r with
 |cons r1 r2 =>
  cases r2 with
  |cons r3 r4=>cases r4;exact⟨_,_,rfl,r1,r3⟩
def ajy{X:Cx}(hc:X.calm=true):Cy X (.builtin "max") (λxs H Q=>∃i j,xs=[.int i,.int j]/\Q (.int (if j > i then j else i)) H):=by
 intro pins s σ H xs us Q I r h;obtain⟨i,j,rfl,q⟩:=h;obtain⟨u,w',rfl,⟨t,rfl⟩,⟨t',rfl⟩⟩:=vals2 r;refine max_two_ints (I.ok.hd hc) λh' tk k=>⟨_,H,I.kept k,?_,q⟩
 by_cases hj:j > i
 . rw[dh hj,dh hj];exact⟨_,rfl⟩
 . rw[bx hj,bx hj];exact⟨_,rfl⟩
def ajz{X:Cx}(hc:X.calm=true):Cy X (.builtin "min") (λxs H Q=>∃i j,xs=[.int i,.int j]/\Q (.int (if j<i then j else i)) H):=by
 intro pins s σ H xs us Q I r h;obtain⟨i,j,rfl,q⟩:=h;obtain⟨u,w',rfl,⟨t,rfl⟩,⟨t',rfl⟩⟩:=vals2 r;refine min_two_ints (I.ok.hd hc) λh' tk k=>⟨_,H,I.kept k,?_,q⟩
 by_cases hj:j<i
 . rw[dh hj,dh hj];exact⟨_,rfl⟩
 . rw[bx hj,bx hj];exact⟨_,rfl⟩
end L2
namespace L2
open PySem PySem.Spec PyProof.Rows
structure afl(h:Heap)(x dx C:Addr)(mA:Zs):Prop where
 obj:h.get? x=some (PySem.W.instObj C dx)
 ns:h.Ns1 dx mA
 ne:dx≠x
set_option tactic.hygienic true in
def aj0{h:Heap}{dx:Addr}{mA:Zs}(n:h.Ns1 dx mA):∃od,h.get? dx=some od/\∀name,PySem.W.lookIn name od=some (mA name):=by
 obtain⟨o,es,ep,ho,hd,hk,_,hm⟩:=n;refine⟨o,ho,λname=>?_⟩;have e:=hm name;unfold nsFind findBy at e;rw[<- Array.find?_toList] at e;unfold PySem.W.lookIn;rw[hd];dsimp only;split
 . rename_i y q
   rw[q] at e;exact o4 some e
 . rename_i q
   rw[q] at e;have a:es.toList.any (·.refKey)=false:=by rw[List.any_eq_false];intro y hy;obtain⟨z,t,axs⟩:=hk y (Array.mem_toList_iff.mp hy);simp[DictEntry.refKey,axs]
   have a':¬es.toList.any (·.refKey)=true:=by rw[a];exact jd
   rw[bx a'];exact o4 some e
def afl.look{h:Heap}{x dx C:Addr}{mA:Zs}(I:afl h x dx C mA):∃od,PySem.W.InstAt h x (PySem.W.instObj C dx) C (some od)/\∀name,PySem.W.lookIn name od=some (mA name) :=
 let ⟨od,ho,hl⟩:=aj0 I.ns
 ⟨od,⟨I.obj,rfl,rfl,ho⟩,hl⟩
def get_map{prog:Program}{w:World}{A:Around}{E:Y1}{s:Shared}{K:Fg}{x dx C:Addr}{mA:Zs}{name:Str}{v:Value}{expr:Bool}{Q:Y1}(X:K.In s.heap)(I:afl s.heap x dx C mA)(hg:PySem.W.plainGet K C name=true)(hh:PySem.W.hasDictIn K C=true)
 (ha:PySem.W.findIn K (.ref C) name=some none) (hv:mA name=some v) (hv':PySem.W.handedIn v=true) (h:Q v { s with toks:=s.toks+1 }) :
 wpAny (model prog w) A (getAttr (.ref x) name expr) Q E s:=by
 obtain⟨od,J,hl⟩:=I.look;exact PySem.W.get_value X J (PySem.W.plainGet_of hg).1 (PySem.W.findObj_own hh ha rfl (by rw[hl,hv])) hv' h
def ank{prog:Program}{w:World}{A:Around}{E:Y1}{s:Shared}{K:Fg}{x dx C f:Addr}{mA:Zs}{name:Str}{pl:Sem Bool}{Q:Value×List Value->Shared->Prop}(X:K.In s.heap)(I:afl s.heap x dx C mA)(hg:PySem.W.plainGet K C name=true)
 (hf:PySem.W.findIn K (.ref C) name=some (some (.ref f))) (ht:PySem.W.isFn K (.ref f)=true) (hv:mA name=none) (h:Q (.ref f,[.ref x]) s) :
 wpAny (model prog w) A (getMethod (.ref x) name pl) Q E s:=by
 obtain⟨od,J,hl⟩:=I.look;exact PySem.W.method_fn X J (PySem.W.plainGet_of hg).1 (PySem.W.plainGet_of hg).2 hf (beq_iff_eq.mp ht) (by show(PySem.W.lookIn name od).map (·.isSome)=some false;rw[hl,hv];rfl) h
def ate{prog:Program}{w:World}{A:Around}{E:Y1}{s:Shared}{K:Fg}{x dx C:Addr}{mA:Zs}{name:Str}{v:Value}{ns:Yf}{Q:Unit->Shared->Prop}(X:K.In s.heap)(I:afl s.heap x dx C mA)
 (hs:PySem.W.findIn K (.ref C) "__setattr__" = some (some (.builtin "object.__setattr__"))) (hp:PySem.W.plainOver K C=true) (ht:PySem.W.takerIn K C name=some none) (hh:PySem.W.hasDictIn K C=true)
 (hw:PySem.Within mA ns) (hsz:ns.length<=sizeLine)
 (h:∀h',afl h' x dx C (λy=>if y=name then some v else mA y)->Heap.SameBut dx s.heap h'->Q () { s with heap:=h',toks:=s.toks+2 }) :
 wpAny (model prog w) A (setAttr (.ref x) name v) Q E s:=by
 obtain⟨od,J,hl⟩:=I.look;refine PySem.W.set_plain X J hs (PySem.W.osa_open (s:={ s with toks:=s.toks+1 }) (r:=none) X J hp ht λb=>?_);obtain⟨cd,hc,hd'⟩:=PySem.W.any_some hh;have hx:s.heap.get? x=some ⟨.ref C,some dx,.plain,#[]⟩:=I.obj;refine aa (aj (aa (aa (wpAny_loadPart hx (aa (PySem.W.Looks.here (s:={ s with toks:=s.toks+1 }) (PySem.W.looks_clsIn X hc) ?_))))));rw[hd'];refine aj (a:=some dx) (aa (aj (aa ?_)));refine wpAny_nsSet1 (s:={ s with toks:=s.toks+1 }) I.ns λh' Xm hs2=>?_
 obtain⟨oD,esD,epD,hoD,hdD,hcD⟩:=Xm.count (PySem.Within.cons name v hw);refine aa (wpAny_lookBehind hoD (by rw[hdD];exact pastItsLine_dict (gm hcD (by rw[iw];exact v_ hsz))) ?_);exact aj (h _ ⟨(hs2.2 _ (j0 I.ne)).trans I.obj,Xm,I.ne⟩ hs2)
def anl{prog:Program}{w:World}{A:Around}{s:Shared}{K:Fg}{C f:Addr}{R:Result->Shared->Prop}{vs:Zl}{kw:List (Str×Value)}(X:K.In s.heap)(hm:PySem.W.makesIn K C=true)
 (hi:PySem.W.findIn K (.ref C) "__init__" = some (some (.ref f))) (hf:PySem.W.typeIn K (.ref f)=some (.type "function"))
 (h:codeAny (model prog w) (A.under (.builtin "type.__call__" ⟨.ref C::vs,kw⟩)) (.call (.ref f) ⟨.ref (s.heap.objs.size+1)::vs,kw⟩) (PySem.W.InitBack (s.heap.objs.size+1) R)
  { s with heap:=(s.heap.push PySem.W.emptyDict).push (PySem.W.instObj C s.heap.objs.size) }) :
 codeAny (model prog w) A (.call (.ref C) ⟨vs,kw⟩) R s:=by
 obtain⟨hh,g,d,t,os⟩:=s;exact PySem.W.make_core (PySem.W.makes_of X hm) (PySem.W.looks_findIn X hi) (λself=>PySem.W.bind_fn X self hf) (.inl rfl) h
noncomputable def Iv(f:Str)(v:V):List (Str×V)->List (Str×V)
 |[]=>[(f,v)]|(g,x)::r=>if g=f then(g,v)::r else(g,x)::Iv f v r
theorem Uh(f g:Str)(v:V):∀fs:List (Str×V),(Iv f v fs).lookup g=if g=f then some v else fs.lookup g
 |[]=>by
  show List.lookup g [(f,v)]=_
  by_cases h:g=f
  . have hb:(g==f)=true:=beq_iff_eq.mpr h
    simp only[List.lookup,hb,dh h]
  . have hb:(g==f)=false:=rm.mpr h
    simp only[List.lookup,hb,bx h]
 |(k,x)::r=>by
  have ih:=Uh f g v r;rw[show Iv f v ((k,x)::r)=(if k=f then(k,v)::r else(k,x)::Iv f v r) from rfl]
  by_cases hk:k=f
  . rw[dh hk]
    by_cases h:g=k
    . have hb:(g==k)=true:=beq_iff_eq.mpr h
      simp only[List.lookup,hb,dh (h.trans hk)]
    . have hb:(g==k)=false:=rm.mpr h
      simp only[List.lookup,hb,bx (λe:g=f=>h (e.trans hk.symm))]
  . rw[bx hk]
    by_cases h:g=k
    . have hb:(g==k)=true:=beq_iff_eq.mpr h
      simp only[List.lookup,hb,bx (λe:g=f=>hk (h.symm.trans e))]
    . have hb:(g==k)=false:=rm.mpr h
      simp only[List.lookup,hb];exact ih
theorem Ti(f:Str)(v:V):∀fs:List (Str×V),f∈(Iv f v fs).map (·.1)/\∀g,g∈fs.map (·.1)->g∈(Iv f v fs).map (·.1)
 |[]=>⟨by simp[Iv],λg h=>by simp at h⟩
 |(k,x)::r=>by
  obtain⟨i1,i2⟩:=Ti f v r;rw[show Iv f v ((k,x)::r)=(if k=f then(k,v)::r else(k,x)::Iv f v r) from rfl]
  by_cases hk:k=f
  . rw[dh hk]
    subst hk;exact⟨by simp,λg h=>by simpa using h⟩
  . rw[bx hk]
    refine⟨?_,λg h=>?_⟩
    . rw[iu]
      exact bu _ i1
    . rw[iu] at h ⊢
      rcases bz.mp h with e|e
      . exact bz.mpr (.inl e)
      . exact bu _ (i2 g e)
theorem Ui(f:Str)(v:V):∀fs:List (Str×V),(Iv f v fs).length<=fs.length+1
 |[]=>by simp[Iv]
 |(k,x)::r=>by
  have ih:=Ui f v r;rw[show Iv f v ((k,x)::r)=(if k=f then(k,v)::r else(k,x)::Iv f v r) from rfl]
  by_cases hk:k=f
  . rw[dh hk,iw,iw];exact x_
  . rw[bx hk,iw,iw];exact v_ ih
def My.some_of{v:V}{o:Option Value}(r:My (some v) o):∃u,o=some u/\RelV v u:=by
 cases o with
 |none=>exact(show False from r).elim
 |some u=>exact⟨u,rfl,r⟩
def My.none_of{o:Option Value}(r:My none o):o=none:=by
 cases o with
 |none=>rfl|some u=>exact(show False from r).elim
def aj1{v:V}{u:Value}(r:RelV v u):PySem.W.handedIn u=true:=by
 cases v with
 |non=>cases(show u=Value.none from r);rfl
 |bl b=>cases(show u=Value.bool b from r);rfl
 |int i=>obtain⟨t,e⟩:=(show ∃t,u=Value.int i t from r);cases e;rfl
 |str x=>obtain⟨t,e⟩:=(show ∃t,u=Value.str x t from r);cases e;rfl
 |byt b=>obtain⟨t,e⟩:=(show ∃t,u=Value.bytes b t from r);cases e;rfl
 |flt b=>obtain⟨t,e⟩:=(show ∃t,u=Value.float b t from r);cases e;rfl
 |ref a=>cases(show u=Value.ref a from r);rfl
 |ty n=>cases(show u=Value.type n from r);rfl
def Oz{P:Program}{w:World}{H:Hp}{h:Heap}{a C dx:Addr}{fs:List (Str×V)}(An:Qg P w H h)(e:H a=some (.ins C dx fs)):∃mA,afl h a dx C mA/\(∀f,My (fs.lookup f) (mA f))/\PySem.Within mA (fs.map (·.1))/\fs.length<=1000/\H dx=some (.own a):=by obtain⟨d,z,ne,ob,mA,n,r,q⟩:=(show Bk P w H h a (.ins C dx fs) from An a _ e);exact⟨mA,⟨ob,n,ne⟩,r,q,z,d⟩
structure Cls(K:Fg)(C:Addr):Prop where
 pg:PySem.W.plainGet K C Str.empty=true
 hd:PySem.W.hasDictIn K C=true
 po:PySem.W.plainOver K C=true
 sa:PySem.W.findIn K (.ref C) "__setattr__" = some (some (.builtin "object.__setattr__"))
def Cls.get{K:Fg}{C:Addr}(c:Cls K C)(f:Str):PySem.W.plainGet K C f=true:=c.pg
def G8(K:Fg)(C:Addr)(f:Str):Prop:=PySem.W.findIn K (.ref C) f=some none
def G8.taker{K:Fg}{C:Addr}{f:Str}(n:G8 K C f):PySem.W.takerIn K C f=some none:=by unfold PySem.W.takerIn;rw[show PySem.W.findIn K (.ref C) f=some none from n];rfl
structure Meth(K:Fg)(C:Addr)(m:Str)(f:Addr):Prop where
 at_:PySem.W.findIn K (.ref C) m=some (some (.ref f))
 fn:PySem.W.isFn K (.ref f)=true
 kp:PySem.W.keepIn K (.ref f)=true
def afm{X:Cx}{pins:Zp}{σ:St}{H:Hp}{s:Shared}{a C dx:Addr}{fs:List (Str×V)}{f:Str}{v:V}{A:Around}{E:Y1}{b:Bool}{Q:Y1}(I:Inv X pins σ H s)(e:H a=some (.ins C dx fs))(c:Cls X.K C)(n:G8 X.K C f)(l:fs.lookup f=some v)
 (h:∀u s',Inv X pins σ H s'->RelV v u->Q u s'):wpAny (model X.prog X.w) A (getAttr (.ref a) f b) Q E s:=by
 obtain⟨mA,O,r,_,_,_⟩:=Oz I.An e;obtain⟨u,hu,ru⟩:=My.some_of (v:=v) (o:=mA f) (by rw[<- l];exact r f);exact get_map I.kIn O (c.get f) c.hd n hu (aj1 ru) (h u _ (I.tok _) ru)
def V9{X:Cx}{pins:Zp}{σ:St}{H:Hp}{s:Shared}{a C dx:Addr}{fs:List (Str×V)}{A:Around}{E:Y1}{m:Str}{g:Addr}{pl:Sem Bool}{Q:Value×List Value->Shared->Prop}(I:Inv X pins σ H s)(e:H a=some (.ins C dx fs))(c:Cls X.K C)(k:Meth X.K C m g)(l:fs.lookup m=none)
 (h:Q (.ref g,[.ref a]) s):wpAny (model X.prog X.w) A (getMethod (.ref a) m pl) Q E s:=by
 obtain⟨mA,O,r,_,_,_⟩:=Oz I.An e;have hn:mA m=none:=My.none_of (by rw[<- l];exact r m);exact ank I.kIn O (c.get m) k.at_ k.fn hn h
def afn{X:Cx}{pins:Zp}{σ:St}{H:Hp}{s:Shared}{a C dx:Addr}{fs:List (Str×V)}{f:Str}{A:Around}{E:Y1}{y:V}{u:Value}{Q:Unit->Shared->Prop}(I:Inv X pins σ H s)(e:H a=some (.ins C dx fs))(c:Cls X.K C)(n:G8 X.K C f)(hl:fs.length<1000)(ry:RelV y u)
 (h:∀s',Inv X pins σ (upd H a (.ins C dx (Iv f y fs))) s'->Q () s'):wpAny (model X.prog X.w) A (setAttr (.ref a) f u) Q E s:=by
 obtain⟨mA,O,r,wi,_,ho⟩:=Oz I.An e;have hz:(fs.map (·.1)).length<=sizeLine:=by rw[dw,qj];exact e_ (b_ hl (by decide))
 refine ate I.kIn O c.sa c.po n.taker c.hd wi hz λh' O' sb=>h _ ?_
 have hd:∃o,h'.get? dx=some o:=let ⟨o,_,_,e',_⟩:=O'.ns;⟨o,e'⟩;refine I.write (x:=a) (e:=dx) (by rw[e];exact True.intro) (.inr ho) (λb q hb z=>(sb.2 b hb).trans z) hd ?_;refine⟨by rw[j5 O.ne];exact ho,?_,O.ne,O'.obj,_,O'.ns,λg=>?_,λg hg=>?_⟩
 . have:=Ui f y fs;exact a_ this hl
 . show My ((Iv f y fs).lookup g) (if g=f then some u else mA g)
   rw[Uh]
   by_cases q:g=f
   . rw[dh q,dh q];exact ry
   . rw[bx q,bx q];exact r g
 . by_cases q:g=f
   . rw[q];exact(Ti f y fs).1
   . refine(Ti f y fs).2 g (wi g λz=>hg ?_)
     show(if g=f then some u else mA g)=none;rw[bx q];exact z
def Inv.made{X:Cx}{pins:Zp}{σ:St}{H:Hp}{s:Shared}{C:Addr}(I:Inv X pins σ H s):Inv X pins σ (upd (upd H s.heap.objs.size (.own (s.heap.objs.size+1))) (s.heap.objs.size+1) (.ins C s.heap.objs.size []))
 { s with heap:=(s.heap.push PySem.W.emptyDict).push (PySem.W.instObj C s.heap.objs.size) }:=by
 have e1:(s.heap.push PySem.W.emptyDict).get? s.heap.objs.size=some PySem.W.emptyDict:=bh s.heap rfl;have e2:((s.heap.push PySem.W.emptyDict).push (PySem.W.instObj C s.heap.objs.size)).get? (s.heap.objs.size+1)=some (PySem.W.instObj C s.heap.objs.size):=by
  have:=bh (s.heap.push PySem.W.emptyDict) (o:=PySem.W.instObj C s.heap.objs.size) rfl
  rwa [ig] at this
 have e3:(s.heap.push PySem.W.emptyDict).Ns s.heap.objs.size (λ_=>none):=⟨PySem.W.emptyDict,#[],_,e1,rfl,(λe he=>absurd he (by simp)),λ_=>rfl⟩;have I1:=I.laid (a:=s.heap.objs.size) (o:=.own (s.heap.objs.size+1)) (h':=s.heap.push PySem.W.emptyDict) (t':=s.toks) (λb u q=>ak _ q) (bw _) ⟨_,e1⟩;refine I1.laid (a:=s.heap.objs.size+1) (o:=.ins C s.heap.objs.size []) (t':=s.toks) (λb u q=>ak _ q) (Nat.le_of_eq (ig _ _)) ?_;have ne:s.heap.objs.size≠s.heap.objs.size+1:=fc (o8 _);refine⟨by rw[j5 ne,vh],mq _,ne,e2,λ_=>none,(Heap.Ns1.of_empty e3).at λo q=>ak _ q,λ_=>True.intro,λy hy=>absurd rfl hy⟩
def atf{A:Around}{E:Y1}{prog:Program}{w:World}{env:Env}{e:Expr}{f:Str}{pos:Pos}{s:Shared}{Q:Y1}(hb:attributeBase e f env (eval e env)=eval e env)
 (h:wpAny (model prog w) A (eval e env) (λo s₁=>wpAny (model prog w) A (getAttr o f true) Q E s₁) E s):wpAny (model prog w) A (eval (.Attribute e f pos) env) Q E s :=
 Attribute_any_ h (by rw[arm_eval_Attribute,hb])
def bdc(K:Fg)(ta:TE)(f:Str):TE:=fun σ H Q=>ta σ H λx H1=>∃a C dx fs v,x=.ref a/\H1 a=some (.ins C dx fs)/\Cls K C/\G8 K C f/\fs.lookup f=some v/\Q v H1
def bdd(K:Fg)(ta tv:TE)(f:Str):TS:=λD σ H=>tv σ H λy H1=>ta σ H1 λx H2=>∃a C dx fs,x=.ref a/\H2 a=some (.ins C dx fs)/\Cls K C/\G8 K C f/\fs.length<1000 /\
 D.nx σ (upd H2 a (.ins C dx (Iv f y fs)))
def azl{X:Cx}{e:Expr}{f:Str}{pos:Pos}{ta:TE}(he:PE X e ta)(hb:attributeBase e f X.env (eval e X.env)=eval e X.env):PE X (.Attribute e f pos) (bdc X.K ta f):=by intro pins s σ H Q I h;refine atf hb (Bq (he pins s σ H _ I h) λu s1 ⟨x,H1,I1,rx,a,C,dx,fs,v,ex,ea,c,n,l,q⟩=>?_);subst ex;obtain rfl:u=Value.ref a:=rx;exact afm I1 ea c n l λu' s2 I2 ru=>⟨v,H1,I2,ru,q⟩
def azm{X:Cx}{o value:Expr}{f:Str}{pos pos':Pos}{ta tv:TE}(ha:PE X o ta)(hv:PE X value tv)(hs:swapsWith value (some (.Attribute o f pos')) pos.line X.env=pure false):PS X (.Assign [.Attribute o f pos'] value pos) (bdd X.K ta tv f):=by intro pins s σ H D I h;refine plainObj_wpAny_Assign_Attribute (Bq (hv pins s σ H _ I h) λu s1 ⟨y,H1,I1,ry,q⟩=>Bq (ha pins s1 σ H1 _ I1 q) λov s2 ⟨x,H2,I2,rx,a,C,dx,fs,ex,ea,c,n,l,q2⟩=>?_) hs;subst ex;obtain rfl:ov=Value.ref a:=rx;exact afn I2 ea c n l ry λs3 I3=>⟨σ,_,I3,q2⟩
end L2
namespace L2
open PySem PySem.Spec PyProof.Rows
structure Ah(k:Nat)(A:Around):Prop where
 hd:A.handled=none
 dp:A.depth+3*k+5<recursionLimit
 un:A.units+16*k+200<cLine
def Ah.mono{j k:Nat}{A:Around}(r:Ah k A)(h:j<=k):Ah j A:=⟨r.hd,by have:=r.dp;lia,by have:=r.un;lia⟩
theorem Ah.deeper{k:Nat}{A:Around}(r:Ah (k+1) A)(env:Env):Ah k (A.deeper env) :=
 ⟨r.hd,by have:=r.dp;show A.depth+1+3*k+5<_;lia,by have:=r.un;show A.units+3+16*k+200<_;lia⟩
theorem Ah.in1{k:Nat}{A:Around}(r:Ah (k+1) A):Ah k A.in1 :=
 ⟨r.hd,by have:=r.dp;show A.depth+3*k+5<_;lia,by have:=r.un;show A.units+1+16*k+200<_;lia⟩
def afo{A:Around}{C:Addr}{us:Zl}{kw:List (Str×Value)}:(A.under (.builtin "type.__call__" ⟨.ref C::us,kw⟩)).depth=A.depth+1:=by first|rfl|simp[Around.under,Code.weight,Code.isCreation,Code.isGuard,Code.isCaller,Code.frames,Code.isFrame,guardIds]
def afp{A:Around}{C:Addr}{us:Zl}{kw:List (Str×Value)}:(A.under (.builtin "type.__call__" ⟨.ref C::us,kw⟩)).units=A.units+1:=by first|rfl|simp[Around.under,Code.cUnits,Code.frames,Code.isFrame]
def Ah.make{k:Nat}{A:Around}(r:Ah (k+1) A)(C:Addr)(us:Zl)(kw:List (Str×Value)):Ah k (A.under (.builtin "type.__call__" ⟨.ref C::us,kw⟩)) :=
 ⟨r.hd,by have:=r.dp;rw[afo];lia,by have:=r.un;rw[afp];lia⟩
theorem Ah.depth{k:Nat}{A:Around}(r:Ah k A):A.depth<recursionLimit:=by have:=r.dp;lia
theorem Ah.units{k:Nat}{A:Around}(r:Ah k A):A.units+64<cLine:=by have:=r.un;lia
def Ah.Wa{k:Nat}{A:Around}(r:Ah k A):A.units<cLine:=by have:=r.un;lia
def a6g:TA:=λ_ H Q=>Q [] H
def a6h(ta:TE)(tr:TA):TA:=fun σ H Q=>ta σ H λx H1=>tr σ H1 λxs H2=>Q (x::xs) H2
def azn{X:Cx}:PA X [] a6g:=λ_ _ _ _ H Q I h=>vz ⟨[],H,I,.nil,h⟩
def atg{X:Cx}{e:Expr}{es:Ya}{te:TE}{t:TA}(ha:PE X e te)(hr:PA X es t)(hs:starEach (e::es) X.env=(false,eval e X.env)::starEach es X.env:=by rfl):PA X (e::es) (a6h te t):=by intro pos pins s σ H Q I h;rw[hs];show wpAny _ _ (spliced ((false,eval e X.env)::backTo pos (starEach es X.env))) _ _ s;refine t7 (Bq (ha pins s σ H _ I h) λu s1 ⟨x,H1,I1,r1,q1⟩=>?_);exact Bq (hr pos pins s1 σ H1 _ I1 q1) λus s2 ⟨xs,H2,I2,r2,q2⟩=>⟨x::xs,H2,I2,.cons r1 r2,q2⟩
def bde(t:TA):TE:=fun σ H Q=>t σ H λxs H1=>xs.length<=sizeLine/\∀p,H1 p=none->Q (.ref p) (upd H1 p (.tup xs))
def bdf(t:TA):TE:=fun σ H Q=>t σ H λxs H1=>xs.length<=sizeLine/\∀p,H1 p=none->Q (.ref p) (upd H1 p (.lst xs))
def azo{X:Cx}{es:Ya}{t:TA}{pos:Pos}{x1}(h:PA X es t):PE X (.Tuple es x1 pos) (bde t):=by intro pins s σ H Q I hq;refine wpAny_Tuple_spliced (Bq (h pos pins s σ H _ I hq) λus s1 ⟨xs,H1,I1,r,z,q⟩=>⟨by rw[<- r.length];exact z,?_⟩);have hf:H1 s1.heap.objs.size=none:=I1.An.fresh (bw _);refine⟨.ref s1.heap.objs.size,upd H1 s1.heap.objs.size (.tup xs),I1.laid (t':=s1.toks) (λb u e=>ak _ e) (bw _) ?_,rfl,q _ hf⟩;exact⟨z,us,r,V7.new _ _⟩
def anm{X:Cx}{es:Ya}{t:TA}{pos:Pos}(h:PA X es t):PE X (.List es pos) (bdf t):=by intro pins s σ H Q I hq;refine wpAny_List_spliced (Bq (h pos pins s σ H _ I hq) λus s1 ⟨xs,H1,I1,r,z,q⟩=>⟨by rw[<- r.length];exact z,?_⟩);have hf:H1 s1.heap.objs.size=none:=I1.An.fresh (bw _);refine⟨.ref s1.heap.objs.size,upd H1 s1.heap.objs.size (.lst xs),I1.laid (t':=s1.toks) (λb u e=>ak _ e) (bw _) ?_,rfl,q _ hf⟩;exact⟨z,us,0,r,bh _ rfl⟩
abbrev Sp:=List V->Hp->VK->XK->Prop
abbrev CXT:=List Env->Hp->Shared->XK->Value->Shared->Prop
structure afr(P:Program)(w:World)(K:Fg)(mg:Zs)(base:Heap)(A:Around)(outer:List Env)(s:Shared)(H:Hp):Prop where
 frames:A.frames=some outer
 mod:Mod K mg base
 bs:∀b o,base.get? b=some o->s.heap.get? b=some o/\H b=none
 bsz:base.objs.size<=s.heap.objs.size
 Uz:s.heap.FunFrames base outer
 frf:∀b∈frs outer,H b=none
 An:Qg P w H s.heap
 bare:AllBare s.gens
def CE(outer:List Env)(P:Program)(w:World)(H:Hp)(s:Shared)(Q:VK)(u:Value)(s':Shared):Prop :=
 ∃v H',s'.os=s.os/\AllBare s'.gens/\Un (frs outer) [] H H' s.heap s'.heap/\Qg P w H' s'.heap/\RelV v u/\Q v H'
def CR(CX:CXT)(outer:List Env)(P:Program)(w:World)(H:Hp)(s:Shared)(Q:VK)(E:XK)(r:Result)(s':Shared):Prop :=
 match r with
 |.ok (.ret u)=>CE outer P w H s Q u s'|.ok _=>False|.error e=>CX outer H s E e s'
structure Ge(P:Program)(w:World)(K:Fg)(mg:Zs)(base:Heap)(CX:CXT)(k:Nat)(f:Addr)(fd:FuncData)(ps:Yf)(sp:Sp):Prop where
 len:∀vs H Q E,sp vs H Q E->vs.length=ps.length
 run:∀(A:Around)(outer:List Env)(s:Shared)(H:Hp)(args:Args)(us:Zl)(vs:List V)(Q:VK)(E:XK),Ah k A->afr P w K mg base A outer s H->BindsTo s fd args (ps.zip us)->Vals vs us->sp vs H Q E ->
  codeAny (model P w) A (.call (.ref f) args) (CR CX outer P w H s Q E) s
def Ge.imp{P:Program}{w:World}{K:Fg}{mg:Zs}{base:Heap}{CX:CXT}{k:Nat}{f:Addr}{fd:FuncData}{ps:Yf}{sp sp':Sp}(F:Ge P w K mg base CX k f fd ps sp)
 (h:∀vs H Q E,sp' vs H Q E->sp vs H Q E):Ge P w K mg base CX k f fd ps sp' :=
 ⟨λvs H Q E q=>F.len vs H Q E (h _ _ _ _ q),λA outer s H args us vs Q E hr he hb hv hs=>F.run A outer s H args us vs Q E hr he hb hv (h _ _ _ _ hs)⟩
def afr.make{P:Program}{w:World}{K:Fg}{mg:Zs}{base:Heap}{A:Around}{outer:List Env}{s:Shared}{H:Hp}(e:afr P w K mg base A outer s H)(C:Addr)(us:Zl)(kw:List (Str×Value)) :
 afr P w K mg base (A.under (.builtin "type.__call__" ⟨.ref C::us,kw⟩)) outer s H:=⟨by first|exact e.frames|(simpa[Around.under,Code.envs,Code.isFrame,pushEnvs] using e.frames),e.mod,e.bs,e.bsz,e.Uz,e.frf,e.An,e.bare⟩
def Inv.env0{X:Cx}{pins:Zp}{σ:St}{H:Hp}{s:Shared}(I:Inv X pins σ H s):afr X.prog X.w X.K X.mg X.base X.A X.stack s H :=
 ⟨I.ok.frames,I.ok.mod,I.bs,gm I.ok.bsz I.sz,I.stack,I.ag9,I.An,I.bare⟩
def Inv.after{X:Cx}{pins:Zp}{σ:St}{H:Hp}{s s':Shared}{Q:VK}{u:Value}(I:Inv X pins σ H s)(h:CE X.stack X.prog X.w H s Q u s'):EP X pins σ Q u s':=by obtain⟨v,H',os,bare,un,An,r,q⟩:=h;obtain⟨hh,g,d,t,os'⟩:=s';obtain rfl:os'=s.os:=os;exact⟨v,H',I.call (h':=hh) (g':=g) (d':=d) (t':=t) (ch:=[]) un An bare (λb z=>absurd z (by simp)),r,q⟩
def a6i(sp:Sp)(Uj:List V)(E:XK)(t:TA):TE:=fun σ H Q=>t σ H λvs H1=>sp (vs++Uj) H1 Q E
def aws(C:Addr)(m:Str)(sp:Sp)(Uj:List V)(E:XK)(ta:TE)(t:TA):TE:=fun σ H Q=>ta σ H λx H1=>∃a dx fs,x=.ref a/\H1 a=some (.ins C dx fs)/\fs.lookup m=none /\
 t σ H1 λvs H2=>sp (x::(vs++Uj)) H2 Q E
def a6j(C:Addr)(sp:Sp)(Uj:List V)(E:XK)(t:TA):TE:=fun σ H Q=>t σ H λvs H1=>∀x dx,H1 x=none->H1 dx=none->dx≠x ->
 sp (.ref x::(vs++Uj)) (upd (upd H1 dx (.own x)) x (.ins C dx [])) (λv H2=>v=.non/\Q (.ref x) H2) E
def Binds(K:Fg)(fd:FuncData)(ps:Yf)(ds:Zl):Prop :=
 ∀(s:Shared)(us:Zl),K.In s.heap->(us++ds).length=ps.length->BindsTo s fd ⟨us,[]⟩ (ps.zip (us++ds))
def Binds.all{K:Fg}{fd:FuncData}{ps:Yf}(h:∀us:List Value,us.length=ps.length->bindArgs fd ⟨us,[]⟩=pure (ps.zip us)):Binds K fd ps []:=λs us _ hl=>by rw[zp] at hl ⊢;exact .of_eq (h us hl)
def Passes(CX:CXT)(X:Cx)(E:XK):Prop:=∀(pins:Zp)(σ:St)(H:Hp)(s:Shared)(e:Value)(s':Shared),Inv X pins σ H s->CX X.stack H s E e s'->X.xe e s'
def afs{X:Cx}{CX:CXT}{k:Nat}{f:Addr}{fd:FuncData}{ps:Yf}{sp:Sp}{Uj:List V}{ds:Zl}{E:XK}{pins:Zp}{σ:St}{H:Hp}{s:Shared}{Q:VK}{us:Zl}{vs:List V}(F:Ge X.prog X.w X.K X.mg X.base CX k f fd ps sp)(hr:Ah k X.A)(hb:Binds X.K fd ps ds)(hd:Vals Uj ds)(hx:Passes CX X E)
 (I:Inv X pins σ H s) (r:Vals vs us) (h:sp (vs++Uj) H Q E):wpAny (model X.prog X.w) X.A (call (.ref f) us) (EP X pins σ Q) X.xe s:=by
 have r2:Vals (vs++Uj) (us++ds):=r.append hd;have hl:(us++ds).length=ps.length:=by rw[<- r2.length];exact F.len _ _ _ _ h
 refine wpAny_call (vf (F.run X.A X.stack s H ⟨us,[]⟩ (us++ds) (vs++Uj) Q E hr I.env0 (hb s us I.kIn hl) r2 h) λr s' hq=>?_);cases r with
 |error e=>exact hx pins σ H s e s' I hq
 |ok fl =>
  cases fl with
  |ret u=>exact I.after hq|next=>exact False.elim hq|brk=>exact False.elim hq|cont=>exact False.elim hq
def ath{X:Cx}{CX:CXT}{k:Nat}{f:Addr}{fd:FuncData}{ps:Yf}{sp:Sp}{Uj:List V}{ds:Zl}{E:XK}{x:Str}{p pos:Pos}{e:Expr}{es:Ya}{t:TA}(F:Ge X.prog X.w X.K X.mg X.base CX k f fd ps sp)(hr:Ah k X.A)(hg:Gl X x)(hm:X.mg x=some (.ref f))(hk:PySem.W.keepIn X.K (.ref f)=true)(hb:Binds X.K fd ps ds)(hd:Vals Uj ds)(hx:Passes CX X E)
 (ha:PA X (e::es) t) (Uk:(x==("__debug__" : Str))=false:=by decide) (he:starEach (e::es) X.env=(false,eval e X.env)::starEach es X.env:=by rfl) (Ip:(backTo pos (starEach es X.env)).any (·.1)=false:=by rfl) :
 PE X (.Call (.Name x p) (e::es) [] pos) (a6i sp Uj E t):=by
 intro pins s σ H Q I h;refine je (aan I hg hm ?_ Uk);refine PySem.W.callWith_K (h₀:=X.base) I.ok.mod.kin hk (Bq (ha pos pins s σ H _ I h) λus s1 ⟨vs,H1,I1,r,q⟩=>⟨I1.kIn,?_⟩) he Ip;exact afs F hr hb hd hx I1 r q
def ati{X:Cx}{CX:CXT}{k:Nat}{f C:Addr}{fd:FuncData}{ps:Yf}{sp:Sp}{Uj:List V}{ds:Zl}{E:XK}{m:Str}{pos apos:Pos}{e o:Expr}{es:Ya}{ta:TE}{t:TA}{pl:Sem Bool}(he:PE X o ta)(c:Cls X.K C)(hm:Meth X.K C m f)(F:Ge X.prog X.w X.K X.mg X.base CX k f fd ps sp)(hr:Ah k X.A)(hb:Binds X.K fd ps ds)(hd:Vals Uj ds)(hx:Passes CX X E)(ha:PA X (e::es) t)
 (U6:starEach (e::es) X.env=(false,eval e X.env)::starEach es X.env:=by rfl) (Ip:(backTo pos (starEach es X.env)).any (·.1)=false:=by rfl)
 (ht:eval (.Call (.Attribute o m apos) (e::es) [] pos) X.env=(do
  let ov <- eval o X.env
  standAt apos.atName
  let (f,first) <- holding [ov] (getMethod ov m pl)
  callWith pos f first (backTo pos (starEach (e::es) X.env)) (backToKw pos (keywordEach [] X.env))):=by rfl) :
 PE X (.Call (.Attribute o m apos) (e::es) [] pos) (aws C m sp Uj E ta t):=by
 intro pins s σ H Q I h;refine PySem.W.methodCall_KW (pl:=pl) (Bq (he pins s σ H _ I h) λu s1 ⟨x,H1,I1,rx,a,dx,fs,ex,ea,l,q⟩=>?_) ht;subst ex;obtain rfl:u=Value.ref a:=rx;refine V9 I1 ea c hm l ?_;refine PySem.W.callWith_K (first:=[.ref a]) (h₀:=X.base) I.ok.mod.kin hm.kp (Bq (ha pos pins s1 σ H1 _ I1 q) λus s2 ⟨vs,H2,I2,r,q2⟩=>⟨I2.kIn,?_⟩) U6 Ip;exact afs (us:=.ref a::us) (vs:=.ref a::vs) F hr hb hd hx I2 (.cons rfl r) q2
def ano{X:Cx}{CX:CXT}{k:Nat}{f C:Addr}{fd:FuncData}{ps:Yf}{sp:Sp}{Uj:List V}{ds:Zl}{E:XK}{m:Str}{pos apos:Pos}{o:Expr}{ta:TE}{pl:Sem Bool}(he:PE X o ta)(c:Cls X.K C)(hm:Meth X.K C m f)(F:Ge X.prog X.w X.K X.mg X.base CX k f fd ps sp)(hr:Ah k X.A)(hb:Binds X.K fd ps ds)(hd:Vals Uj ds)(hx:Passes CX X E)
 (ht:eval (.Call (.Attribute o m apos) [] [] pos) X.env=(do
  let ov <- eval o X.env
  standAt apos.atName
  let (f,first) <- holding [ov] (getMethod ov m pl)
  callWith pos f first (backTo pos (starEach [] X.env)) (backToKw pos (keywordEach [] X.env))):=by rfl) :
 PE X (.Call (.Attribute o m apos) [] [] pos) (aws C m sp Uj E ta a6g):=by
 intro pins s σ H Q I h;refine PySem.W.methodCall_KW (pl:=pl) (Bq (he pins s σ H _ I h) λu s1 ⟨x,H1,I1,rx,a,dx,fs,ex,ea,l,q⟩=>?_) ht;subst ex;obtain rfl:u=Value.ref a:=rx;refine V9 I1 ea c hm l ?_;exact PySem.W.callWith_K0 (first:=[.ref a]) I1.kIn hm.kp (afs (us:=[.ref a]) (vs:=[.ref a]) F hr hb hd hx I1 (.cons rfl .nil) q)
structure Mk(K:Fg)(C f:Addr):Prop where
 makes:PySem.W.makesIn K C=true
 init:PySem.W.findIn K (.ref C) "__init__" = some (some (.ref f))
 fn:PySem.W.isFn K (.ref f)=true
 kp:PySem.W.keepIn K (.ref C)=true
def anp{X:Cx}{CX:CXT}{k:Nat}{f C:Addr}{fd:FuncData}{ps:Yf}{sp:Sp}{Uj:List V}{ds:Zl}{E:XK}{pins:Zp}{σ:St}{H:Hp}{s:Shared}{Q:VK}{us:Zl}{vs:List V}(M:Mk X.K C f)(F:Ge X.prog X.w X.K X.mg X.base CX k f fd ps sp)(hr:Ah (k+1) X.A)(hb:Binds X.K fd ps ds)(hd:Vals Uj ds)
 (hx:Passes CX X E) (I:Inv X pins σ H s) (r:Vals vs us)
 (h:∀x dx,H x=none->H dx=none->dx≠x->sp (.ref x::(vs++Uj)) (upd (upd H dx (.own x)) x (.ins C dx [])) (λv H2=>v=.non/\Q (.ref x) H2) E) :
 wpAny (model X.prog X.w) X.A (call (.ref C) us) (EP X pins σ Q) X.xe s:=by
 have hq:=h (s.heap.objs.size+1) s.heap.objs.size (I.An.fresh (u0 _)) (I.An.fresh (bw _)) (fc (o8 _));have I2:=Inv.made (C:=C) I;have r2:Vals (V.ref (s.heap.objs.size+1)::(vs++Uj)) (Value.ref (s.heap.objs.size+1)::(us++ds)):=.cons rfl (r.append hd);have hl:(Value.ref (s.heap.objs.size+1)::us++ds).length=ps.length:=by have e:=r2.length;rw[F.len _ _ _ _ hq] at e;exact e.symm
 refine wpAny_call (anl (f:=f) I.kIn M.makes M.init (beq_iff_eq.mp M.fn) (vf (F.run _ X.stack _ _ ⟨Value.ref (s.heap.objs.size+1)::us,[]⟩ (Value.ref (s.heap.objs.size+1)::(us++ds)) _ _ E (hr.make C us [])
  (I2.env0.make C us []) (hb _ (Value.ref (s.heap.objs.size+1)::us) I2.kIn hl) r2 hq) λr s' hq'=>?_))
 cases r with
 |error e=>exact hx pins σ _ _ e s' I2 hq'
 |ok fl =>
  cases fl with
  |ret u =>
   obtain⟨v,H',I3,rv,ev,q3⟩:=I2.after hq';subst ev;exact⟨rv,⟨V.ref (s.heap.objs.size+1),H',I3,rfl,q3⟩⟩
  |next=>exact False.elim hq'|brk=>exact False.elim hq'|cont=>exact False.elim hq'
def atj{X:Cx}{CX:CXT}{k:Nat}{f C:Addr}{fd:FuncData}{ps:Yf}{sp:Sp}{Uj:List V}{ds:Zl}{E:XK}{x:Str}{p pos:Pos}{e:Expr}{es:Ya}{t:TA}(M:Mk X.K C f)(F:Ge X.prog X.w X.K X.mg X.base CX k f fd ps sp)(hr:Ah (k+1) X.A)(hg:Gl X x)(hm:X.mg x=some (.ref C))(hb:Binds X.K fd ps ds)(hd:Vals Uj ds)(hx:Passes CX X E)
 (ha:PA X (e::es) t) (Uk:(x==("__debug__" : Str))=false:=by decide) (he:starEach (e::es) X.env=(false,eval e X.env)::starEach es X.env:=by rfl) (Ip:(backTo pos (starEach es X.env)).any (·.1)=false:=by rfl) :
 PE X (.Call (.Name x p) (e::es) [] pos) (a6j C sp Uj E t):=by
 intro pins s σ H Q I h;refine je (aan I hg hm ?_ Uk);refine PySem.W.callWith_K (h₀:=X.base) I.ok.mod.kin M.kp (Bq (ha pos pins s σ H _ I h) λus s1 ⟨vs,H1,I1,r,q⟩=>⟨I1.kIn,?_⟩) he Ip;exact anp M F hr hb hd hx I1 r q
structure Va(N P:Yf)(sc:Scope):Prop where
 kind:sc.kind=.function
 co:sc.isCoroutine=false
 gen:sc.isGenerator=false
 nd:N.Nodup
 pre:N.take P.length=P
 par:∀x∈P,sc.names.lookup x=some .local\/sc.names.lookup x=some .cell
 azp:∀y∈sc.names,y.2≠.free
theorem Yq{kindOf:Str->Option NameKind}{x:Str}:∀{binds:List (Str×Value)}{m:Zs},(∀v,(x,v)∉binds)->bindL kindOf binds m x=m x
 |[],_,_=>rfl
 |(n,v)::r,m,h=>by
  unfold bindL;rw[Yq λw hw=>h w (bu _ hw)];split
  . have:x≠n:=by rintro rfl;exact h v di
    simp[this]
  . rfl
theorem Yr{kindOf:Str->Option NameKind}{x:Str}:∀{binds:List (Str×Value)}{m:Zs},(∀v,(x,v)∉binds)->bindC kindOf binds m x=m x
 |[],_,_=>rfl
 |(n,v)::r,m,h=>by
  unfold bindC;rw[Yr λw hw=>h w (bu _ hw)];split
  . rfl
  . have:x≠n:=by rintro rfl;exact h v di
    simp[this]
theorem Ys{kindOf:Str->Option NameKind}{x:Str}{v:Value}:∀{P:Yf}{vs:Zl}{i:Nat}{m:Zs},P.Nodup->P[i]?=some x->vs[i]?=some v->kindOf x=some .local ->
 bindL kindOf (P.zip vs) m x=some v
 |[],_,_,_,_,h,_,_=>by simp at h|_::_,[],_,_,_,_,h,_=>by simp at h
 |p::P,w::vs,0,m,nd,h1,h2,hk=>by
  simp at h1 h2;subst h1;subst h2;show bindL kindOf ((p,w)::P.zip vs) m p=_;unfold bindL;rw[Yq λv hv=>(kj.mp nd).1 (List.of_mem_zip hv).1,dh hk];simp
 |p::P,w::vs,i+1,m,nd,h1,h2,hk=>by
  show bindL kindOf ((p,w)::P.zip vs) m x=_;unfold bindL;exact Ys (i:=i) (kj.mp nd).2 (by simpa using h1) (by simpa using h2) hk
theorem Yt{kindOf:Str->Option NameKind}{x:Str}{v:Value}:∀{P:Yf}{vs:Zl}{i:Nat}{m:Zs},P.Nodup->P[i]?=some x->vs[i]?=some v->kindOf x≠some .local ->
 bindC kindOf (P.zip vs) m x=some v
 |[],_,_,_,_,h,_,_=>by simp at h|_::_,[],_,_,_,_,h,_=>by simp at h
 |p::P,w::vs,0,m,nd,h1,h2,hk=>by
  simp at h1 h2;subst h1;subst h2;show bindC kindOf ((p,w)::P.zip vs) m p=_;unfold bindC;rw[Yr λv hv=>(kj.mp nd).1 (List.of_mem_zip hv).1,bx hk];simp
 |p::P,w::vs,i+1,m,nd,h1,h2,hk=>by
  show bindC kindOf ((p,w)::P.zip vs) m x=_;unfold bindC;exact Yt (i:=i) (kj.mp nd).2 (by simpa using h1) (by simpa using h2) hk
noncomputable def start(N:Yf)(vs:List V):St:=vs.map some++List.replicate (N.length-vs.length) none
noncomputable def aft(CX:CXT)(P:Program)(w:World)(K:Fg)(mg:Zs)(base:Heap)(N:Yf)(qual:Str)(scope:Scope)(f:Addr)(cd:Value)(A:Around)(outer:List Env)(s:Shared)(H:Hp)(E:XK):Cx where
 prog:=P
 w:=w
 K:=K
 mg:=mg
 base:=base
 A:=A.deeper (envOfC qual scope s.heap.objs.size f cd)
 N:=N
 s₀:=s
 H₀:=H
 env:=envOfC qual scope s.heap.objs.size f cd
 outer:=outer
 stack:=envOfC qual scope s.heap.objs.size f cd::outer
 ex:=[]
 calm:=true
 fn:=λ_=>true
 pn:=[]
 xe:=λe s'=>wpAny (model P w) (A.deeper (envOfC qual scope s.heap.objs.size f cd)) (leaving (envOfC qual scope s.heap.objs.size f cd) e) (λ_ s''=>CX outer H s E e s'') (λe' s''=>CX outer H s E e' s'') s'
def acs{sc:Scope}{n:Nat}{x:Str}(h:sc.names.lookup x=some .cell):∃c,(cellsFrom n sc.names []).lookup x=some c:=by have q:=PySem.W.cellsFrom_some sc.names n [] (.inl h);exact qi.mp q
def aj2{CX:CXT}{P:Program}{w:World}{K:Fg}{mg:Zs}{base:Heap}{N ps:Yf}{qual:Str}{scope:Scope}{f:Addr}{cd:Value}{A:Around}{outer:List Env}{s s1:Shared}{H:Hp}{E:XK}{us:Zl}{vs:List V}
 (S:Va N ps scope) (hd:A.handled=none) (e0:afr P w K mg base A outer s H) (hl:vs.length=ps.length) (r:Vals vs us)
 (x:InCallC s s.heap.objs.size (bindL (envOfC qual scope s.heap.objs.size f cd).kindOf (ps.zip us) λ_=>none) (cellsFrom (s.heap.objs.size+1) scope.names []) (bindC (envOfC qual scope s.heap.objs.size f cd).kindOf (ps.zip us) λ_=>none) s1) :
 Inv (aft CX P w K mg base N qual scope f cd A outer s H E) [] (start N vs) H s1:=by
 have Ip:ps.length<=N.length:=by have:=o4 List.length S.pre;rw[List.length_take] at this;lia
 obtain⟨h1,tk,rfl,hk⟩:=x.done;have noA:∀b:Addr,b∉(aft CX P w K mg base N qual scope f cd A outer s H E).ex:=λb z=>absurd (show b∈([]:X9) from z) (by simp)
 refine⟨⟨e0.mod,S.kind,rfl,rfl,bw _,λy z c h1 h2=>?_,λy hy=>?_,λy c _ h=>?_,λ_=>hd,Around.frames_deeper e0.frames,.inr ⟨rfl,rfl⟩,λb z=>absurd z (noA b),e0.bs,e0.bsz,λb _ _=>noA b,λb z=>absurd z (noA b),e0.Uz,e0.frf⟩,
  rfl,e0.bare,Un.kept hk,⟨_,x.toInCall.ns,λi y v h1 h2 h3=>?_⟩,λy c h=>⟨_,x.cell y c h⟩,e0.An.fresh (bw _),λy c h=>?_,λp hp=>absurd (show p∈([]:Zp) from hp) (by simp),e0.An.kept hk,?_⟩
 . exact name_of_addr x.apart (yq h1) (yq h2)
 . have hy:scope.names.lookup y=some .cell\/scope.names.lookup y=some .free:=hy
   rcases hy with hy|hy
   . exact acs hy
   . exact absurd rfl (S.azp _ (yq hy))
 . exact Aj (x.above y c (yq h))
 . have hi:i<vs.length:=by
    unfold start at h2
    by_cases hi:i<vs.length
    . exact hi
    . rw[jm (by simpa using hi)] at h2
      rw[List.getElem?_replicate] at h2;split at h2<;>cases h2
   have ha:vs[i]?=some v:=by
    unfold start at h2;rw[du (by simpa using hi),ie] at h2;cases e:vs[i]? with
    |none=>rw[e] at h2;cases h2|some a=>rw[e] at h2;cases h2;rfl
   obtain⟨u,hu,rv⟩:=r.get ha;have hp:ps[i]?=some y:=by rw[<- S.pre,List.getElem?_take_of_lt (b_ hi (f_ hl))];exact h1
   have ndP:ps.Nodup:=by rw[<- S.pre];exact S.nd.sublist (List.take_sublist _ _)
   refine⟨u,rv,?_⟩;rcases S.par y (au hp) with k|k
   . exact .inl ⟨k,Ys ndP hp hu k⟩
   . obtain⟨c,e⟩:=acs (n:=s.heap.objs.size+1) k
     refine .inr ⟨.inl k,c,e,?_⟩;have q:=x.cell y c e;rw[Yt ndP hp hu (by show scope.names.lookup y≠_;rw[k];decide)] at q;exact q
 . exact e0.An.fresh (Aj (x.above y c (yq h)))
 . unfold start
   show _=N.length;rw[ue,dw,List.length_replicate]
   lia
def a6m{CX:CXT}{P:Program}{w:World}{K:Fg}{mg:Zs}{base:Heap}{k:Nat}{f:Addr}{name qual:Str}{params:Arguments}{body:List Stmt}{scope:Scope}{dV kV doc pm cdv ct oc:Value}{an od:Option Addr}
 {osl:Array (Option Value)} {N ps:Yf} {sp:Sp} (lk:K.lookup f=some ⟨oc,od,.func (PySem.W.fnOf name qual params body scope dV kV doc pm an cdv ct),osl⟩) (hcd:PySem.W.codeIn K cdv qual=true) (S:Va N ps scope)
 (len:∀vs H Q E,sp vs H Q E->vs.length=ps.length)
 (anq:∀(A:Around)(outer:List Env)(s:Shared)(H:Hp)(vs:List V)(Q:VK)(E:XK),Ah k (A.deeper (envOfC qual scope s.heap.objs.size f cdv))->sp vs H Q E ->
  ∃t,Rh (aft CX P w K mg base N qual scope f cdv A outer s H E) body t/\t { nx:=λ_ H'=>Q .non H',rt:=Q } (start N vs) H) :
 Ge P w K mg base CX (k+1) f (PySem.W.fnOf name qual params body scope dV kV doc pm an cdv ct) ps sp:=by
 refine⟨len,λA outer s H args us vs Q E hr e0 hb r hsp=>?_⟩;have hl:=len _ _ _ _ hsp;have KX:K.In s.heap:=e0.mod.kin.keeps λb o e=>(e0.bs b o e).1
 have lim:s.heap.NoLimit:=e0.mod.nolimit.keeps λb o e=>(e0.bs b o e).1
 have a6n:∀y∈ps.zip us,scope.names.lookup y.1=some .local\/(scope.names.lookup y.1=some .cell/\((cellsFrom (s.heap.objs.size+1) scope.names []).lookup y.1).isSome=true):=λ⟨n,v⟩ hy=>by
  rcases S.par n (List.of_mem_zip hy).1 with q|q
  . exact .inl q
  . exact .inr ⟨q,PySem.W.cellsFrom_some _ _ _ (.inl q)⟩
 refine codeAny_call_function hr.depth (KX _ _ lk) rfl S.co S.gen rfl (PySem.W.codeRec_of KX hcd) (hb _ _ _ _ ?_);refine wpAny_newFunctionEnv_cells S.kind a6n λenv he s1 x=>?_
 subst he;refine⟨lim.keeps x.toInCall.keep,codeAny_func ?_⟩;obtain⟨t,ht,hq⟩:=anq A outer s H vs Q E (hr.deeper _) hsp;have I:Inv (aft CX P w K mg base N qual scope f cdv A outer s H E) [] (start N vs) H s1:=aj2 S hr.hd e0 hl r x;refine lz (ht [] s1 (start N vs) H _ I hq) (λfl s' hs=>?_) λe s' hs=>hs
 have fin:∀{σ':St}{H':Hp}{v:V}{u:Value},Inv (aft CX P w K mg base N qual scope f cdv A outer s H E) [] σ' H' s'->RelV v u->Q v H'->CE outer P w H s Q u s' :=
  fun{σ' H' v u} J rv q=>⟨v,H',J.os,J.bare,J.base,J.An,rv,q⟩
 cases fl with
 |ret u =>
  obtain⟨v,σ',H',J,rv,q⟩:=hs;exact fin J rv q
 |next =>
  obtain⟨σ',H',J,q⟩:=hs;exact fin (v:=V.non) (u:=Value.none) J rfl q
 |brk =>
  obtain⟨_,_,_,q⟩:=hs;exact False.elim q
 |cont =>
  obtain⟨_,_,_,q⟩:=hs;exact False.elim q
end L2
namespace L2
open PySem PySem.Spec PyProof.Rows
def tCB(r:List V->Hp->VK->Prop)(t:TA):TE:=fun σ H Q=>t σ H λvs H1=>r vs H1 Q
def anr{X:Cx}{x:Str}{p pos:Pos}{e:Expr}{es:Ya}{t:TA}{id:String}{r:List V->Hp->VK->Prop}(hc:Cy X (.builtin id) r)(hg:Gl X x)(hm:X.mg x=none)(hv:bootBuiltins x=some (.builtin id))(ha:PA X (e::es) t)(hn:x≠"__name__" := by decide)(Uk:(x==("__debug__" : Str))=false:=by decide)
 (he:starEach (e::es) X.env=(false,eval e X.env)::starEach es X.env:=by rfl) (Ip:(backTo pos (starEach es X.env)).any (·.1)=false:=by rfl):PE X (.Call (.Name x p) (e::es) [] pos) (tCB r t):=by
 intro pins s σ H Q I h;refine je (Dw I hg hm hv ?_ hn Uk);exact yh (Bq (ha pos pins s σ H _ I h) λus s1 ⟨vs,H1,I1,r1,q1⟩=>hc pins s1 σ H1 vs us Q I1 r1 q1) he Ip
def aj3{X:Cx}{x:Str}{p pos:Pos}{e:Expr}{es:Ya}{t:TA}{T:String}{r:List V->Hp->VK->Prop}(hc:Cy X (.type T) r)(hg:Gl X x)(hm:X.mg x=none)(hv:bootBuiltins x=some (.type T))(ha:PA X (e::es) t)(hn:x≠"__name__" := by decide)(Uk:(x==("__debug__" : Str))=false:=by decide)
 (he:starEach (e::es) X.env=(false,eval e X.env)::starEach es X.env:=by rfl) (Ip:(backTo pos (starEach es X.env)).any (·.1)=false:=by rfl):PE X (.Call (.Name x p) (e::es) [] pos) (tCB r t):=by
 intro pins s σ H Q I h;refine je (Dw I hg hm hv ?_ hn Uk);exact jh (Bq (ha pos pins s σ H _ I h) λus s1 ⟨vs,H1,I1,r1,q1⟩=>hc pins s1 σ H1 vs us Q I1 r1 q1) he Ip
section
variable{κ:Type}[DecidableEq κ]
noncomputable def Ri(gq:List (κ×V))(k:κ):Option V:=(gq.find? λkv=>decide (kv.1=k)).map (·.2)
noncomputable def putK(gq:List (κ×V))(k:κ)(v:V):List (κ×V) :=
 if(gq.any λkv=>decide (kv.1=k))=true then gq.map (λkv=>if kv.1=k then(kv.1,v) else kv) else gq++[(k,v)]
def Rj{p:κ×V}(e:p.1=k):Ri (p::r) k=some p.2:=by simp[Ri,qp,e]
def Rk{p:κ×V}(e:¬p.1=k):Ri (p::r) k=Ri r k:=by simp[Ri,qp,e]
theorem acu(k:κ):∀gq:List (κ×V),(gq.any λkv=>decide (kv.1=k))=(Ri gq k).isSome
 |[]=>rfl
 |p::r=>by
  rw[List.any_cons]
  by_cases e:p.1=k
  . simp only[Rj e,yr e,Bool.true_or,Option.isSome_some]
  . rw[Rk e,tu e,Bool.false_or];exact acu k r
def Ul(gq:List (κ×V))(k:κ)(v:V):(putK gq k v).length<=gq.length+1:=by
 unfold putK;split
 . rw[dw];exact x_
 . rw[ue,iw,List.length_nil];exact bw _
def My.Kl(r:My o u):o.isSome=u.isSome:=by
 cases o with
 |none=>cases u with
  |none=>rfl|some _=>exact(show False from r).elim
 |some _=>cases u with
  |none=>exact(show False from r).elim
  |some _=>rfl
theorem My.getD(r:My o u)(rd:RelV d d'):RelV (o.getD d) (u.getD d'):=by
 cases o with
 |none=>cases u with
  |none=>exact rd|some _=>exact(show False from r).elim
 |some _=>cases u with
  |none=>exact(show False from r).elim
  |some _=>exact r
def KV.val(r:KV gq vs)(k:κ):My (Ri gq k) (valueAt vs k):=by
 unfold KV at r
 induction r with
 |nil=>exact True.intro
 |@cons p q ps qs h t ih =>
  obtain⟨h1,h2⟩:=h
  by_cases e:p.1=k
  . have e':q.1=k:=h1.symm.trans e
    have b:valueAt (q::qs) k=some q.2:=by simp[valueAt,qp,e']
    rw[Rj e,b];exact h2
  . have e':¬q.1=k:=λz=>e (h1.trans z)
    have b:valueAt (q::qs) k=valueAt qs k:=by simp[valueAt,qp,e']
    rw[Rk e,b];exact ih
theorem KV.any(r:KV gq vs)(k:κ):(gq.any λkv=>decide (kv.1=k))=vs.any λkv=>decide (kv.1=k):=by
 unfold KV at r
 induction r with
 |nil=>rfl|cons h t ih=>rw[List.any_cons,List.any_cons,ih,h.1]
def KV.Ii(r:KV gq vs)(k:κ)(ry:RelV y u) :
 KV (gq.map λkv=>if kv.1=k then(kv.1,y) else kv) (vs.map λkv=>if kv.1=k then(kv.1,u) else kv):=by
 unfold KV at r ⊢
 induction r with
 |nil=>exact .nil
 |@cons p q ps qs h t ih =>
  rw[iu,iu];refine .cons ?_ ih;obtain⟨h1,h2⟩:=h
  by_cases e:p.1=k
  . rw[dh e,dh (h1.symm.trans e)];exact⟨h1,ry⟩
  . rw[bx e,bx (λz=>e (h1.trans z))];exact⟨h1,h2⟩
def KV.put(r:KV gq vs)(k:κ)(ry:RelV y u):KV (putK gq k y) (stored vs k u):=by
 unfold putK stored;rw[r.any k]
 by_cases e:(vs.any λkv=>decide (kv.1=k))=true
 . rw[dh e,dh e];exact r.Ii k ry
 . rw[bx e,bx e];exact Paired.snoc r ⟨rfl,ry⟩
theorem KV.length{gq:List (κ×V)}{vs:List (κ×Value)}(r:KV gq vs):gq.length=vs.length:=Paired.length r
end
def Yu(r:RelV (kV k) u):(m9 P w).is k u=true:=by
 cases k with
 |inl i=>obtain⟨t,e⟩:=(show ∃t,u=Value.int i t from r);subst e;exact acj P w i t
 |inr x=>obtain⟨t,e⟩:=(show ∃t,u=Value.str x t from r);subst e;exact ack P w x t
theorem Yv{P:Program}{w:World}:∀{ks:List Key}{us:Zl},Vals (ks.map kV) us->ItemsAre (m9 P w) ks us
 |[],_,r=>by rw[List.map_nil] at r;cases r;exact .nil
 |k::ks,_,r=>by
  rw[iu] at r;cases r with
  |cons h t=>exact .cons (Yu h) (Yv t)
abbrev KT(H:Hp):List (List Key×V)->List (List Key×Addr×Value)->Prop:=Paired λp q=>p.1=q.1/\H q.2.1=some (.tup (p.1.map kV))/\RelV p.2 q.2.2
def KT.val(r:KT H gq xs)(k:List Key):My (Ri gq k) ((atKey xs k).map (·.2)):=by
 induction r with
 |nil=>exact True.intro
 |@cons p q ps qs h t ih =>
  obtain⟨h1,_,h2⟩:=h
  by_cases e:p.1=k
  . have e':q.1=k:=h1.symm.trans e
    have b:atKey (q::qs) k=some q.2:=by simp[atKey,qp,e']
    rw[Rj e,b];exact h2
  . have e':¬q.1=k:=λz=>e (h1.trans z)
    have b:atKey (q::qs) k=atKey qs k:=by simp[atKey,qp,e']
    rw[Rk e,b];exact ih
def KT.Ii(r:KT H gq xs)(k:List Key)(ry:RelV y u) :
 KT H (gq.map λkv=>if kv.1=k then(kv.1,y) else kv) (xs.map (putAt k u)):=by
 induction r with
 |nil=>exact .nil
 |@cons p q ps qs h t ih =>
  rw[iu,iu];refine .cons ?_ ih;obtain⟨h1,h2,h3⟩:=h;unfold putAt
  by_cases e:p.1=k
  . rw[dh e,dh (h1.symm.trans e)];exact⟨h1,h2,ry⟩
  . rw[bx e,bx (λz=>e (h1.trans z))];exact⟨h1,h2,h3⟩
def KT.put(r:KT H gq xs)(k:List Key)(hb:H b=some (.tup (k.map kV)))(ry:RelV y u) :
 KT H (putK gq k y) (storedH xs k b u):=by
 have e:(gq.any λkv=>decide (kv.1=k))=(atKey xs k).isSome:=by rw[acu,(r.val k).Kl,Option.isSome_map]
 unfold putK storedH;rw[e]
 by_cases q:(atKey xs k).isSome=true
 . rw[dh q,dh q];exact r.Ii k ry
 . rw[bx q,bx q];exact Paired.snoc r ⟨rfl,hb,ry⟩
def KT.keeps(r:KT H gq xs)(ht:∀b ys,H b=some (.tup ys)->H' b=some (.tup ys)):KT H' gq xs :=
 Paired.ayk r λ_ _ z=>⟨z.1,ht _ _ z.2.1,z.2.2⟩
def awu(ok:Qg P w H h)(e:Rd H a u):Bk P w H h a u:=e.ok ok
def Yw(ok:Qg P w H h)(e:Rd H a (.dK gq)):gq.length<=sizeLine/\(a==sysModules)=false/\∃vs,KV gq vs/\h.DictOf (m9 P w) a vs :=
 show Bk P w H h a (.dK gq) from awu ok e
def a6o(ok:Qg P w H h)(e:H a=some (.dK gq)):gq.length<=sizeLine/\(a==sysModules)=false/\∃vs,KV gq vs/\h.DictOf (m9 P w) a vs:=Yw ok (.inl e)
def Ol(ok:Qg P w H h)(e:H a=some (.tup (ks.map kV))):(tupleKind (m9 P w)).is h ks a:=by obtain⟨_,yf,r,o,h1,h2,n,h3,_⟩:=(show Bk P w H h a (.tup (ks.map kV)) from ok a _ e);exact⟨o,yf.toArray,n,h1,h2,h3,by simpa using Yv r⟩
def Yx(ok:Qg P w H h)(e:Rd H a (.dT gq)):gq.length<=sizeLine/\(a==sysModules)=false /\
 ∃xs,KT H gq xs/\h.DictOfH (tupleKind (m9 P w)) a xs:=by
 obtain⟨z,y,xs,r,o,es,ep,h1,h2,h3,h4,h5⟩:=(show Bk P w H h a (.dT gq) from awu ok e);refine⟨z,y,xs,r,o,es,ep,h1,h2,h3,h4,λx hx=>?_,h5⟩;have all:∀{l:List (List Key×V)}{m:List (List Key×Addr×Value)},KT H l m->∀x∈m,(tupleKind (m9 P w)).is h x.1 x.2.1:=by
  intro l m q
  induction q with
  |nil=>intro x hx;exact nomatch hx
  |@cons p q ps qs hq t ih =>
   intro x hx;rcases bz.mp hx with e|hx
   . subst e
     exact Ol ok (by rw[<- hq.1];exact hq.2.1)
   . exact ih x hx
 exact all r x hx
def ant(ok:Qg P w H h)(e:H a=some (.dT gq)):gq.length<=sizeLine/\(a==sysModules)=false /\
 ∃xs,KT H gq xs/\h.DictOfH (tupleKind (m9 P w)) a xs:=Yx ok (.inl e)
def Px(H:Hp)(a:Addr)(y:V)(r:Option V):Prop :=
 (∃gq k,Rd H a (.dK gq)/\y=kV k/\r=Ri gq k)\/∃gq k b,Rd H a (.dT gq)/\y=.ref b/\H b=some (.tup (k.map kV))/\r=Ri gq k
def afu(H:Hp)(a:Addr)(y v:V)(H':Hp):Prop :=
 (∃gq k,H a=some (.dK gq)/\y=kV k/\gq.length<sizeLine/\H'=upd H a (.dK (putK gq k v))) \/
 ∃gq k b,H a=some (.dT gq)/\y=.ref b/\H b=some (.tup (k.map kV))/\gq.length<sizeLine/\H'=upd H a (.dT (putK gq k v))
theorem Px.k{k:Key}(e:H a=some (.dK gq)):Px H a (kV k) (Ri gq k):=.inl ⟨gq,k,.inl e,rfl,rfl⟩
def Px.t{k:List Key}(e:H a=some (.dT gq))(eb:H b=some (.tup (k.map kV))):Px H a (.ref b) (Ri gq k):=.inr ⟨gq,k,b,.inl e,rfl,eb,rfl⟩
theorem afu.k{k:Key}(e:H a=some (.dK gq))(hl:gq.length<sizeLine):afu H a (kV k) v (upd H a (.dK (putK gq k v))):=.inl ⟨gq,k,e,rfl,hl,rfl⟩
def afu.t{k:List Key}(e:H a=some (.dT gq))(eb:H b=some (.tup (k.map kV)))(hl:gq.length<sizeLine) :
 afu H a (.ref b) v (upd H a (.dT (putK gq k v))):=.inr ⟨gq,k,b,e,rfl,eb,hl,rfl⟩
def Inv.big(I:Inv X pins σ H s):sysModules<s.heap.objs.size:=by
 have h:mainGlobals<s.heap.objs.size:=(I.mod.glob.keeps I.bk).lt
 exact Nat.lt_trans (by decide) h
def aj4(hu:A.units+1<cLine)(I:Inv X pins σ H s)(g:Px H a y (some v))(ry:RelV y u)(h:∀w' s',Inv X pins σ H s'->RelV v w'->Q w' s') :
 wpAny (model X.prog X.w) A (getItem (.ref a) u) Q E s:=by
 rcases g with⟨gq,k,e,ey,l⟩|⟨gq,k,b,e,ey,eb,l⟩
 . subst ey
   obtain⟨z,hd,vs,rel,dd⟩:=Yw I.An e;obtain⟨w',hw,rw'⟩:=My.some_of (v:=v) (o:=valueAt vs k) (by rw[l];exact rel.val k);exact wpAny_getItem_of (Yu ry) dd.mapOf hw (h w' _ (I.tok _) rw')
 . subst ey
   cases(show u=Value.ref b from ry);obtain⟨z,hd,xs,rel,dd⟩:=Yx I.An e;obtain⟨w',hw,rw'⟩:=My.some_of (v:=v) (o:=(atKey xs k).map (·.2)) (by rw[l];exact rel.val k);obtain⟨p,hp,hp2⟩:=cu.mp hw;refine wpAny_getItem_heap (vg hu) (Ol I.An eb) dd hp ?_;rw[hp2];exact h w' _ (I.tok _) rw'
def a6p(hu:A.units+1<cLine)(I:Inv X pins σ H s)(g:Px H a y o)(ry:RelV y u)(h:∀s',Inv X pins σ H s'->Q (.bool o.isSome) s') :
 wpAny (model X.prog X.w) A (compareOp .In u (.ref a)) Q E s:=by
 rcases g with⟨gq,k,e,ey,l⟩|⟨gq,k,b,e,ey,eb,l⟩
 . subst ey
   obtain⟨z,hd,vs,rel,dd⟩:=Yw I.An e;refine wpAny_in_of (Yu ry) hd dd.mapOf ?_;rw[<- (rel.val k).Kl,<- l];exact h _ (I.tok _)
 . subst ey
   cases(show u=Value.ref b from ry);obtain⟨z,hd,xs,rel,dd⟩:=Yx I.An e;refine wpAny_in_heap (vg hu) (Ol I.An eb) hd dd ?_;have q:=(rel.val k).Kl;rw[Option.isSome_map] at q;rw[<- q,<- l];exact h _ (I.tok _)
def ahg(hu:A.units+1<cLine)(I:Inv X pins σ H s)(g:Px H a y o)(ry:RelV y u)(h:∀s',Inv X pins σ H s'->Q (.bool (!o.isSome)) s') :
 wpAny (model X.prog X.w) A (compareOp .NotIn u (.ref a)) Q E s:=by
 rcases g with⟨gq,k,e,ey,l⟩|⟨gq,k,b,e,ey,eb,l⟩
 . subst ey
   obtain⟨z,hd,vs,rel,dd⟩:=Yw I.An e;refine wpAny_notIn_of (Yu ry) hd dd.mapOf ?_;rw[<- (rel.val k).Kl,<- l];exact h _ (I.tok _)
 . subst ey
   cases(show u=Value.ref b from ry);obtain⟨z,hd,xs,rel,dd⟩:=Yx I.An e;refine wpAny_notIn_heap (vg hu) (Ol I.An eb) hd dd ?_;have q:=(rel.val k).Kl;rw[Option.isSome_map] at q;rw[<- q,<- l];exact h _ (I.tok _)
def ahh(I:Inv X pins σ H s)(mu:Mut (H a))(hs:Heap.SameBut a s.heap h')(he:∃q,h'.get? a=some q)(new:Bk X.prog X.w (upd H a ob) h' a ob) :
 Inv X pins σ (upd H a ob) { s with heap:=h',toks:=t' } :=
 I.write (x:=a) (e:=a) mu (.inl rfl) (λb q hb z=>(hs.2 b hb).trans z) he new
def azq(z:gq.length<=sizeLine)(hd:(a==sysModules)=false)(rel:KV gq vs)(dd:h'.DictOf (m9 P w) a vs) :
 Bk P w H' h' a (.dK gq):=⟨z,hd,vs,rel,dd⟩
def Yy(hu:A.units+1<cLine)(I:Inv X pins σ H s)(g:afu H a y v H')(ry:RelV y u)(rv:RelV v r)(h:∀s',Inv X pins σ H' s'->Q () s') :
 wpAny (model X.prog X.w) A (setItem (.ref a) u r) Q E s:=by
 rcases g with⟨gq,k,e,ey,l,eH⟩|⟨gq,k,b,e,ey,eb,l,eH⟩
 . subst ey eH
   obtain⟨z,hd,vs,rel,dd⟩:=a6o I.An e;have hz:vs.length<=sizeLine:=by rw[<- rel.length];exact z
   have hl:(putK gq k v).length<=sizeLine:=by have:=Ul gq k v;exact a_ this l
   refine wpAny_setItem_pairs (hsz:=hz) (Yu ry) dd λh' dd' hs=>h _ ?_
   have he:∃q,h'.get? a=some q:=let ⟨q,_,_,hq,_⟩:=dd';⟨q,hq⟩;exact ahh I (by rw[e];exact True.intro) hs he (azq hl hd (rel.put k rv) dd')
 . subst ey eH
   cases(show u=Value.ref b from ry);obtain⟨z,hd,xs,rel,dd⟩:=ant I.An e;have hz:xs.length<=sizeLine:=by rw[<- Paired.length rel];exact z
   have hl:(putK gq k v).length<=sizeLine:=by have:=Ul gq k v;exact a_ this l
   refine wpAny_setItem_heap (hsz:=hz) (vg hu) (Ol I.An eb) dd λh' dd' hs=>h _ ?_
   obtain⟨q,es,ep,hq,h2,h3,h4,_,h5⟩:=dd';refine ahh I (by rw[e];exact True.intro) hs ⟨q,hq⟩ ⟨hl,hd,_,(rel.put k eb rv).keeps λc ys ec=>?_,q,es,ep,hq,h2,h3,h4,h5⟩;rw[j5 (ag8 ec e (λz=>nomatch z))];exact ec
def acv(I:Inv X pins σ H s)(g:Px H a y o):s.TypeIs (.ref a) "dict" := by
 rcases g with⟨gq,k,e,_,_⟩|⟨gq,k,b,e,_,_,_⟩
 . obtain⟨_,_,vs,_,dd⟩:=Yw I.An e
   exact dd.typeIs
 . obtain⟨_,_,xs,_,dd⟩:=Yx I.An e
   exact dd.typeIs
def anu(h:Heap)(hb:sysModules<h.objs.size):Bk P w H (h.push { cls:=.type "dict",data:=.dict #[] }) h.objs.size (.dK []) :=
 ⟨mq _,rm.mpr (j0 (fc hb)),[],.nil,Heap.DictOf.new h⟩
def anv(h:Heap)(hb:sysModules<h.objs.size):Bk P w H (h.push { cls:=.type "dict",data:=.dict #[] }) h.objs.size (.dT []) :=
 ⟨mq _,rm.mpr (j0 (fc hb)),[],.nil,_,#[],0,bh _ rfl,⟨rfl,rfl,rfl⟩,rfl,rfl,xf⟩
def azr:TE:=λ_ H Q=>∀p,H p=none->Q (.ref p) (upd H p (.dK []))
def azs:TE:=λ_ H Q=>∀p,H p=none->Q (.ref p) (upd H p (.dT []))
def anw:PE X (.Dict [] [] pos) azr:=λpins s σ H Q I h =>
 wpAny_Dict_empty ⟨.ref s.heap.objs.size,_,I.laid (a:=s.heap.objs.size) (o:=.dK []) (t':=s.toks) (λ_ _ q=>ak _ q) (bw _) (anu s.heap I.big),rfl,h _ (I.An.fresh (bw _))⟩
def anx:PE X (.Dict [] [] pos) azs:=λpins s σ H Q I h =>
 wpAny_Dict_empty ⟨.ref s.heap.objs.size,_,I.laid (a:=s.heap.objs.size) (o:=.dT []) (t':=s.toks) (λ_ _ q=>ak _ q) (bw _) (anv s.heap I.big),rfl,h _ (I.An.fresh (bw _))⟩
def azt(hu:A.units+1<cLine)(I:Inv X pins σ H s)(g:Px H a y o)(ry:RelV y u)(rd:RelV d r)(h:∀w' s',Inv X pins σ H s'->RelV (o.getD d) w'->Q w' s') :
 wpAny (model X.prog X.w) A (call (.builtin "dict.get") [.ref a,u,r]) Q E s:=by
 rcases g with⟨gq,k,e,ey,l⟩|⟨gq,k,b,e,ey,eb,l⟩
 . subst ey
   obtain⟨z,hd,vs,rel,dd⟩:=Yw I.An e;refine call_meetsIn PySem.F.slot_dict_get dd.typeIs PySem.F.entry_dict_get (PySem.F.args_dict_get_3 _ _ _) (meets_dict_get_default (m9 X.prog X.w) a (Yu ry) hd r) ⟨_,dd.mapOf,h _ _ (I.tok _) ?_⟩;rw[l];exact(rel.val k).getD rd
 . subst ey
   cases(show u=Value.ref b from ry);obtain⟨z,hd,xs,rel,dd⟩:=Yx I.An e;refine call_meetsIn PySem.F.slot_dict_get dd.typeIs PySem.F.entry_dict_get (PySem.F.args_dict_get_3 _ _ _) (meetsH_dict_get_default (tupleKind (m9 X.prog X.w)) a b hd r) ⟨vg hu,k,xs,Ol I.An eb,dd,h _ _ (I.tok _) ?_⟩;rw[l];exact(rel.val k).getD rd
end L2
namespace HT
open PySem PyProof.Rows
def atl(ht:IsTup s.heap t vs.toArray)(hb:IsTup s.heap b ws.toArray)(h0:vs=[]->Q (.ref b) s)(h1:ws=[]->Q (.ref t) s)(h2:vs≠[]->ws≠[]->Q (.ref s.heap.objs.size) { s with heap:=s.heap.push { cls:=.type "tuple",data:=.seq (vs++ws).toArray } })(hsz:vs.length+ws.length<=sizeLine):wpAny (model prog w) A (binaryOp .Add (.ref t) (.ref b)) Q E s:=by
 obtain⟨⟨cls,dd,data,sl⟩,ho,hc,n,hd⟩:=id ht;obtain⟨⟨cls2,dd2,data2,sl2⟩,ho2,hc2,n2,hd2⟩:=id hb;simp only at hc hd hc2 hd2;subst hc hd hc2 hd2;have e:vs.toArray++ws.toArray=(vs++ws).toArray:=by simp
 by_cases hv:vs=[]
 . exact concat_meets ⟨_,ho,rfl⟩ ⟨_,ho2,rfl⟩ noFill_tuple_add seq_tuple_add PySem.F.slot_tuple_add PySem.F.entry_tuple_add (PySem.F.args_tuple_add_2 _ _)
    (tuple_addW0 t b vs.toArray ws.toArray n n2 dd dd2 sl sl2 (by simp[hv])) ⟨ho,ho2,h0 hv⟩
 by_cases hw:ws=[]
 . exact concat_meets ⟨_,ho,rfl⟩ ⟨_,ho2,rfl⟩ noFill_tuple_add seq_tuple_add PySem.F.slot_tuple_add PySem.F.entry_tuple_add (PySem.F.args_tuple_add_2 _ _)
    (tuple_addW1 t b vs.toArray ws.toArray n n2 dd dd2 sl sl2 (by simpa using hv) (by simp[hw])) ⟨ho,ho2,h1 hw⟩
 . refine concat_meets ⟨_,ho,rfl⟩ ⟨_,ho2,rfl⟩ noFill_tuple_add seq_tuple_add PySem.F.slot_tuple_add PySem.F.entry_tuple_add (PySem.F.args_tuple_add_2 _ _)
    (tuple_addW2 t b vs.toArray ws.toArray n n2 dd dd2 sl sl2 (by simpa using hv) (by simpa using hw) (by rw[gw,gw];exact hsz)) ⟨ho,ho2,?_⟩
   rw[e];exact h2 hv hw
noncomputable def Gq(n d:Nat):Option Int->Nat
 |none=>d|some v=>if v<0 then(v+(n:Int)).toNat else min v.toNat n
def azu(n d:Nat)(hd:d<=n)(o:Option Int):Gq n d o<=n:=by
 cases o with
 |none=>exact hd
 |some v =>
  show(if v<0 then(v+(n:Int)).toNat else min v.toNat n)<=n
  by_cases hv:v<0
  . rw[dh hv];lia
  . rw[bx hv];exact Nat.min_le_right _ _
def ahi(v:Int)(n d:Nat):(if v<0 then max (v+(n:Int)) 0 else min v (n:Int))=((Gq n d (some v):Nat):Int):=by
 show(if v<0 then max (v+(n:Int)) 0 else min v (n:Int))=(((if v<0 then(v+(n:Int)).toNat else min v.toNat n):Nat):Int)
 by_cases hv:v<0
 . simp only[dh hv];lia
 . simp only[bx hv];lia
def afv(lo hi:Option Int)(n:Nat):Builtin.Slice.sliceAdjust lo hi 1 (n:Int)=(((Gq n 0 lo:Nat):Int),((Gq n n hi:Nat):Int)):=by
 have h1:¬((1:Int)<0):=by lia
 unfold Builtin.Slice.sliceAdjust;simp only[h1,jf];refine Prod.ext ?_ ?_
 . cases lo with
   |none=>rfl|some v=>exact ahi v n 0
 . cases hi with
   |none=>rfl|some v=>exact ahi v n n
def afw(i j:Nat):Builtin.Slice.slicePlaces (i:Int) (j:Int) 1=j-i:=by unfold Builtin.Slice.slicePlaces;have h1:(1:Int) > 0:=m_ (by decide);simp only[h1,jy,Int.ediv_one];split<;>lia
def Wb(p:IsPart v o)(h:Q o s):wpAny (model prog w) A (Builtin.Slice.slicePartIndex v) Q E s:=by
 cases p with
 |none=>exact slicePart_none h|int i t=>exact slicePart_int h
def Tj{lo:Option Int}{n:Nat}(hs:s.heap.IsSliceOf sl vl vu .none)(pl:IsPart vl lo)(pu:IsPart vu hi)(h:Q (((Gq n 0 lo:Nat):Int),1,Gq n n hi-Gq n 0 lo) s):wpAny (model prog w) A (Builtin.Slice.sliceApplied (.ref sl) (pure (n:Int))) Q E s:=by obtain⟨os,hos,hcs,hds⟩:=id hs;unfold Builtin.Slice.sliceApplied Builtin.Slice.sliceFields;refine aa (aa (il hos hds (x:=vl) rfl (aa (il hos hds (x:=vu) rfl (aa (il hos hds (x:=.none) rfl (aj ?_)))))));refine aa (slicePart_none ?_);show wpAny _ _ (if((1:Int)==0)=true then _ else _) _ _ s;rw[bx (by decide)];refine aa (Wb pl (aa (Wb pu (aa (aj ?_)))));show wpAny _ _ (match Builtin.Slice.sliceAdjust lo hi 1 (n:Int) with|(lo,hi)=>pure (lo,(1:Int),Builtin.Slice.slicePlaces lo hi 1)) _ _ s;rw[afv lo hi n];show wpAny _ _ (pure (((Gq n 0 lo:Nat):Int),(1:Int),Builtin.Slice.slicePlaces ((Gq n 0 lo:Nat):Int) ((Gq n n hi:Nat):Int) 1)) _ _ s;rw[afw];exact aj h
def anz(xs:U1)(i k:Nat):((List.range k).filterMap λ(m:Nat)=>xs[((i:Int)+(m:Int)*1).toNat]?).toArray=((xs.toList.drop i).take k).toArray:=by
 have e:(λ(m:Nat)=>xs[((i:Int)+(m:Int)*1).toNat]?)=λm=>xs[i+m]?:=by
  funext m
  have:((i:Int)+(m:Int)*1).toNat=i+m:=by lia
  rw[this]
 rw[e];have:=pick_run xs i k;rw[List.filterMap_map] at this;have e2:((λx=>xs[x]?) ∘ λx=>i+x)=λm=>xs[i+m]?:=rfl
 rw[e2] at this;rw[this]
def Rm{lo:Option Int}(ht:IsTup s.heap t items)(hs:s.heap.IsSliceOf sl vl vu .none)(pl:IsPart vl lo)(pu:IsPart vu hi)(hw:Gq items.size 0 lo=0->Gq items.size items.size hi=items.size->Q (.ref t) s)(h:Q (.ref s.heap.objs.size) { s with heap:=s.heap.push { cls:=.type "tuple",data:=.seq ((items.toList.drop (Gq items.size 0 lo)).take (Gq items.size items.size hi-Gq items.size 0 lo)).toArray } })(hsz:items.size<=sizeLine):wpAny (model prog w) A (getItem (.ref t) (.ref sl)) Q E s:=by
 have ahj:sizeOk (.seq ((items.toList.drop (Gq items.size 0 lo)).take (Gq items.size items.size hi-Gq items.size 0 lo)).toArray):=by
  show((items.toList.drop (Gq items.size 0 lo)).take (Gq items.size items.size hi-Gq items.size 0 lo)).toArray.size<=sizeLine
  rw[gw,List.length_take,List.length_drop,q9];omega
 have hj:Gq items.size items.size hi<=items.size:=azu _ _ (bw _) hi
 obtain⟨os,hos,hcs,hds⟩:=id hs;have hTs:s.TypeIs (.ref sl) "slice" := ⟨os,hos,hcs⟩;unfold getItem
 try with_reducible refine jg ?_
 first|refine aa (aj ?_)|skip
 refine aa (wpAny_sequenceKey ht.typeIs (by decide) ?_);refine aa (ji (name:=Str.ofString "__getitem__") ht.typeIs xr
  (jc xr ht.typeIs entry_tuple_getitem ?_ (args_tuple_getitem _ _)))
 show wpAny _ _ (Builtin.Tuple.tupleItemsOf (.ref t) >>= _) _ _ s;refine aa (tupleItemsOf_ ht ?_);refine aa (qb hTs ?_);rw[dh (by decide)];refine aa (Tj hs pl pu ?_);show wpAny _ _ (if(((Gq items.size 0 lo:Nat):Int)==0&&(1:Int)==1&&(Gq items.size items.size hi-Gq items.size 0 lo)==items.size)=true then _ else _) _ _ s
 by_cases Yd:(((Gq items.size 0 lo:Nat):Int)==0&&(1:Int)==1&&(Gq items.size items.size hi-Gq items.size 0 lo)==items.size)=true
 . rw[dh Yd]
   rw[aq,aq] at Yd;have q1:((Gq items.size 0 lo:Nat):Int)=0:=eq_of_beq Yd.1.1;have q2:Gq items.size items.size hi-Gq items.size 0 lo=items.size:=eq_of_beq Yd.2;have q3:=hw (by lia) (by lia);refine aa (m:=Builtin.Tuple.tupleIsExact (.ref t)) (aa (qb ht.typeIs (aj ?_)));rw[dh (by decide)];exact aa (wpAny_rule (aj ⟨_,rfl,aj q3⟩))
 rw[bx Yd,anz]
 first
  |exact aa (m:=Builtin.Tuple.tupleExact _) (ju (aj ⟨_,rfl,aj h⟩) ahj)
  |exact aa (m:=Builtin.Tuple.tupleExact _) (ju (aa (aj (aj ⟨_,rfl,aj h⟩))) ahj)
  |exact aa (aa (m:=Builtin.Tuple.tupleExact _) (ju (aj (aj ⟨_,rfl,aj h⟩)) ahj))
  |exact aa (aa (m:=Builtin.Tuple.tupleExact _) (ju (aj ⟨_,rfl,aj h⟩) ahj))
end HT
namespace L2
open PySem PySem.Spec PyProof.Rows
abbrev TO:=St->Hp->(Option Int->Hp->Prop)->Prop
def PO(X:Cx)(e:Option Expr)(t:TO):Prop :=
 ∀(pins:Zp)(s:Shared)(σ:St)(H:Hp)(Q:Option Int->Hp->Prop),Inv X pins σ H s->t σ H Q ->
  wpAny (model X.prog X.w) X.A (evalPart e X.env) (λu s'=>∃o H',Inv X pins σ H' s'/\IsPart u o/\Q o H') X.xe s
def atm:TO:=λ_ H Q=>Q none H
def a6r(t:TE):TO:=fun σ H Q=>t σ H λx H1=>∃i,x=.int i/\Q (some i) H1
def atn:PO X none atm:=by intro pins s σ H Q I h;rw[evalPart_none];exact aj ⟨none,H,I,.none,h⟩
def ato(h:PE X e te):PO X (some e) (a6r te):=by
 intro pins s σ H Q I hw;rw[evalPart_some];refine Bq (h pins s σ H _ I hw) λu s1 ⟨x,H1,I1,r1,q1⟩=>?_
 obtain⟨i,rfl,q⟩:=q1;obtain⟨t,rfl⟩:=r1;exact⟨some i,H1,I1,.int i t,q⟩
def SlR(X:Cx)(r:V->Option Int->Option Int->Hp->VK->Prop):Prop :=
 ∀(pins:Zp)(s:Shared)(σ:St)(H:Hp)(x:V)(v vl vu:Value)(lo hi:Option Int)(sl:Addr)(Q:VK),Inv X pins σ H s->RelV x v->s.heap.IsSliceOf sl vl vu .none->IsPart vl lo->IsPart vu hi->r x lo hi H Q ->
  ∃T id,typeLookup (.type T) "__getitem__" = pure (some (.builtin id))/\s.TypeIs v T/\wpAny (model X.prog X.w) X.A (getItem v (.ref sl)) (EP X pins σ Q) X.xe s
def SlR.or(h:SlR X r)(h':SlR X r'):SlR X (λx lo hi H Q=>r x lo hi H Q\/r' x lo hi H Q):=by
 intro pins s σ H x v vl vu lo hi sl Q I rx hs pl pu q;rcases q with q|q
 . exact h pins s σ H x v vl vu lo hi sl Q I rx hs pl pu q
 . exact h' pins s σ H x v vl vu lo hi sl Q I rx hs pl pu q
def tSl(r:V->Option Int->Option Int->Hp->VK->Prop)(te:TE)(tl th:TO):TE:=fun σ H Q=>te σ H λx H1=>tl σ H1 λl H2=>th σ H2 λu H3=>r x l u H3 Q
def aoa{lo:Option Expr}(hr:SlR X r)(he:PE X e te)(hl:PO X lo tl)(hu:PO X hi th):PE X (.Subscript e (.Slice lo hi none p2) pos) (tSl r te tl th):=by
 intro pins s σ H Q I h;refine Subscript_ (Bq (he pins s σ H _ I h) λv s1 ⟨x,H1,I1,r1,q1⟩=>?_);refine wpAny_Slice (Bq (hl pins s1 σ H1 _ I1 q1) λvl s2 ⟨l,H2,I2,pl,q2⟩=>Bq (hu pins s2 σ H2 _ I2 q2) λvu s3 ⟨u,H3,I3,pu,q3⟩=>?_);rw[evalPart_none];refine aj ?_;have I4:Inv X pins σ H3 { s3 with heap:=s3.heap.push { cls:=.type "slice",data:=.fields #[vl,vu,.none] } }:=I3.kept (t':=s3.toks) λb ob q=>ak _ q
 obtain⟨T,id,hT,ht,hg⟩:=hr pins { s3 with heap:=s3.heap.push { cls:=.type "slice",data:=.fields #[vl,vu,.none] } } σ H3 x v vl vu l u s3.heap.objs.size Q I4 r1 (Heap.IsSliceOf.new ..) pl pu q3;show wpAny (model X.prog X.w) X.A (subscriptTail e (.Slice lo hi none p2) v (.ref s3.heap.objs.size)) (EP X pins σ Q) X.xe { s3 with heap:=s3.heap.push { cls:=.type "slice",data:=.fields #[vl,vu,.none] } };exact tail_any (ops:=[.ref s3.heap.objs.size,v]) ht hT hg (by with_unfolding_all rfl)
noncomputable def U3(xs:List V)(lo hi:Option Int):List V:=(xs.drop (HT.Gq xs.length 0 lo)).take (HT.Gq xs.length xs.length hi-HT.Gq xs.length 0 lo)
def Um(xs:List V)(lo hi:Option Int):(U3 xs lo hi).length<=xs.length:=by
 unfold U3;rw[List.length_take,List.length_drop]
 lia
def bdh(K:Fg):V->Option Int->Option Int->Hp->VK->Prop:=λx lo hi H Q=>∃a xs,x=.ref a/\Kv K H a xs /\
 (HT.Gq xs.length 0 lo=0->HT.Gq xs.length xs.length hi=xs.length->Q (.ref a) H)/\∀p,H p=none->Q (.ref p) (upd H p (.tup (U3 xs lo hi)))
def azv:SlR X (bdh X.K):=by
 intro pins s σ H x v vl vu lo hi sl Q I rx hs pl pu h;obtain⟨a,xs,rfl,hx,hw,q⟩:=h;cases rx;obtain⟨yf,r,ht,hz⟩:=I.tuple hx;have hlen:yf.toArray.size=xs.length:=by rw[gw];exact r.length.symm
 refine⟨"tuple",_,xr.lookup,ht.typeIs,?_⟩;refine HT.Rm ht hs pl pu (by rw[hlen];exact λz1 z2=>⟨.ref a,H,I,rfl,hw z1 z2⟩) ?_ (by rw[hlen];exact hz);rw[hlen];refine⟨.ref s.heap.objs.size,_,I.laid (t':=s.toks) (o:=.tup (U3 xs lo hi)) (λb ob q=>ak _ q) (bw _) ?_,rfl,q _ (I.An.fresh (bw _))⟩;exact⟨gm (Um xs lo hi) hz,_,(r.drop (HT.Gq xs.length 0 lo)).take (HT.Gq xs.length xs.length hi-HT.Gq xs.length 0 lo),V7.new _ _⟩
def a6s(K:Fg):R2:=λx y H Q=>∃a b xs ys,x=.ref a/\y=.ref b/\Kv K H a xs/\Kv K H b ys/\xs.length+ys.length<=sizeLine /\
 (xs=[]->Q (.ref b) H)/\(ys=[]->Q (.ref a) H)/\(∀p,H p=none->Q (.ref p) (upd H p (.tup (xs++ys))))
def Vals.ahk(r:Vals xs us):us=[]↔xs=[]:=by
 cases r with
 |nil=>simp|cons _ _=>simp
def atp:Dh X (binaryOp .Add) (a6s X.K):=by intro pins s σ H x y v u Q I rx ry h;obtain⟨a,b,xs,ys,rfl,rfl,ha,hb,hz,q0,q1,q2⟩:=h;cases rx;cases ry;obtain⟨yf,r1,p1,_⟩:=I.tuple ha;obtain⟨aj5,r2,p2,_⟩:=I.tuple hb;refine HT.atl p1 p2 (λz=>⟨.ref b,H,I,rfl,q0 (r1.ahk.mp z)⟩) (λz=>⟨.ref a,H,I,rfl,q1 (r2.ahk.mp z)⟩) (λ_ _=>?_) (by rw[<- r1.length,<- r2.length];exact hz);refine⟨.ref s.heap.objs.size,_,I.laid (t':=s.toks) (o:=.tup (xs++ys)) (λb ob q=>ak _ q) (bw _) ?_,rfl,q2 _ (I.An.fresh (bw _))⟩;exact⟨by rw[ue];exact hz,_,r1.append r2,V7.new _ _⟩
end L2
namespace L2
open PySem PySem.Spec PyProof.Rows
noncomputable def ixN(n:Nat)(i:Int):Option Nat:=if 0<=i then(if i<n then some i.toNat else none) else if -(n:Int)<=i then some (i+n).toNat else none
noncomputable def atI{α:Type}(xs:List α)(i:Int):Option α:=(ixN xs.length i).bind λj=>xs[j]?
def ahl(h:ixN n i=some j):seqIndex? i n=some j/\j<n/\-(n:Int)<=i/\i<n:=by
 unfold ixN at h
 by_cases h0:0<=i
 . rw[dh h0] at h
   by_cases h1:i<n
   . rw[dh h1] at h
     have e:i.toNat=j:=jq h;exact⟨by rw[seqIndex_of h0 h1,e],by lia,by lia,h1⟩
   . rw[bx h1] at h;cases h
 . rw[bx h0] at h
   by_cases h1:-(n:Int)<=i
   . rw[dh h1] at h
     have e:(i+n).toNat=j:=jq h;exact⟨by rw[seqIndex_neg (by lia) h1,e],by lia,h1,by lia⟩
   . rw[bx h1] at h;cases h
def ahm(h:atI xs i=some v):∃j,seqIndex? i xs.length=some j/\xs[j]?=some v/\j<xs.length/\-(xs.length:Int)<=i/\i<xs.length:=by
 unfold atI at h;cases e:ixN xs.length i with
 |none=>rw[e] at h;cases h
 |some j =>
  rw[e] at h;obtain⟨h1,h2,h3,h4⟩:=ahl e;exact⟨j,h1,h,h2,h3,h4⟩
def aar(b:Expr):Prop:=∀o i,subscripted b false o i=operate [o,i] (getItem o i)
def IxR(X:Cx)(r:R2):Prop :=
 ∀(value slice:Expr)(pins:Zp)(s:Shared)(σ:St)(H:Hp)(x y:V)(v u:Value)(Q:VK),Inv X pins σ H s->RelV x v->RelV y u->r x y H Q ->
  subscripted slice false v u=operate [v,u] (getItem v u)->wpAny (model X.prog X.w) X.A (subscriptTail value slice v u) (EP X pins σ Q) X.xe s
def MtR(X:Cx)(id:String)(r:V->List V->Hp->VK->Prop):Prop :=
 ∀(pins:Zp)(s:Shared)(σ:St)(H:Hp)(x:V)(xs:List V)(v:Value)(us:Zl)(Q:VK),Inv X pins σ H s->RelV x v->Vals xs us->r x xs H Q ->
  wpAny (model X.prog X.w) X.A (call (.builtin id) (v::us)) (EP X pins σ Q) X.xe s
def a6v(hr:IxR X r)(ha:PE X a ta)(hb:PE X b tb)(hs:aar b):PE X (.Subscript a b pos) (tOp r ta tb):=by intro pins s σ H Q I h;exact Subscript_ (azc ha hb I h λv u s2 x y H2 I2 rx ry q=>hr a b pins s2 σ H2 x y v u Q I2 rx ry q (hs _ _))
def bdi(K:Fg):R2:=λx y H Q=>∃p xs i v,x=.ref p/\y=.int i/\Hf K H p xs/\atI xs i=some v/\Q v H
def bdj(K:Fg):R2:=λx y H Q=>∃p xs i v,x=.ref p/\y=.int i/\Kv K H p xs/\atI xs i=some v/\Q v H
def De:IxR X (bdi X.K):=by
 intro value slice pins s σ H x y v u Q I rx ry h hs;obtain⟨p,xs,i,z,rfl,rfl,hq,he,q⟩:=h;cases rx;obtain⟨t,rfl⟩:=ry;obtain⟨yf,r,pl,hz⟩:=I.list hq;obtain⟨j,h1,h2,h3,h4,h5⟩:=ahm he;obtain⟨w,ew,rw'⟩:=r.get h2;have hl:=r.length;have hn:=aaq;have fin:EP X pins σ Q w s:=⟨z,H,I,rw',q⟩
 by_cases h0:0<=i
 . have hj:i.toNat=j:=by
    rw[seqIndex_of h0 h5] at h1;exact jq h1
   exact item_listR pl.isList h0 (by lia) (by rw[hj];simpa using ew) fin hs
 . have hj:(i+(yf.toArray.size:Int)).toNat=j:=by
    rw[seqIndex_neg (by lia) h4] at h1;rw[gw,<- hl];exact jq h1
   exact subscriptTail_builtinR (x:=w) pl.isList.typeIs slot_list_getitem.lookup
    (wpAny_getItem_list_neg (Q:=λr s'=>r=w/\EP X pins σ Q r s') pl.isList (by lia) (by rw[gw]<;>lia) (by lia) (by rw[hj];simpa using ew) ⟨rfl,fin⟩) hs
def Hn:IxR X (bdj X.K):=by
 intro value slice pins s σ H x y v u Q I rx ry h hs;obtain⟨p,xs,i,z,rfl,rfl,hq,he,q⟩:=h;cases rx;obtain⟨t,rfl⟩:=ry;obtain⟨yf,r,pl,hz⟩:=I.tuple hq;obtain⟨j,h1,h2,h3,h4,h5⟩:=ahm he;obtain⟨w,ew,rw'⟩:=r.get h2;have hl:=r.length;have hn:=aaq;have fin:EP X pins σ Q w s:=⟨z,H,I,rw',q⟩;exact subscriptTail_builtinR (x:=w) pl.typeIs slot_tuple_getitem.lookup
  (getItem_tuple (j:=j) (Q:=λr s'=>r=w/\EP X pins σ Q r s') pl (by lia) (by lia) (by rw[gw,<- hl];exact h1) (by simpa using ew) ⟨rfl,fin⟩) hs
def afx(yf:Zl)(n j:Nat)(u:Value):Obj.mapSeq (·.setIfInBounds j u) { cls:=.type "list",data:=.seq yf.toArray n }={ cls:=.type "list",data:=.seq (yf.set j u).toArray n }:=by simp[Obj.mapSeq]
theorem Inv.lst{X:Cx}{pins:Zp}{σ:St}{H:Hp}{s:Shared}{p:Addr}{xs:List V}(I:Inv X pins σ H s)(h:H p=some (.lst xs)) :
 ∃(yf:Zl)(n:Nat),Vals xs yf/\s.heap.get? p=some { cls:=.type "list",data:=.seq yf.toArray n }/\xs.length<=sizeLine:=by
 obtain⟨z,yf,n,r,e⟩:=I.An p _ h;exact⟨yf,n,r,e,z⟩
def Inv.azw{yf:Zl}(I:Inv X pins σ H s)(h:H p=some (.lst xs))(ho:s.heap.get? p=some { cls:=.type "list",data:=.seq yf.toArray n })(hf:f { cls:=.type "list",data:=.seq yf.toArray n }={ cls:=.type "list",data:=.seq its'.toArray n' })(r:Vals ys its')(hz:ys.length<=sizeLine)(t:Nat) :
 Inv X pins σ (upd H p (.lst ys)) { s with heap:=s.heap.update p f,toks:=t }:=by
 have e:(s.heap.update p f).get? p=some { cls:=.type "list",data:=.seq its'.toArray n' }:=by rw[my f ho (by rw[hf]<;>rfl),hf]
 refine I.write (x:=p) (e:=p) (by rw[h];trivial) (.inl rfl) (λb u hb q=>(ud _ _ (j0 hb)).trans q) ⟨_,e⟩ ?_;exact⟨hz,its',n',r,e⟩
def a6w:V->V->V->Hp->(Hp->Prop)->Prop:=λo i v H Q=>∃p xs k j,o=.ref p/\i=.int k/\H p=some (.lst xs)/\ixN xs.length k=some j/\Q (upd H p (.lst (xs.set j v)))
def set_list:ay5 X a6w:=by
 intro pins s σ H o i v ov iv u Q I ro ri rv h;obtain⟨p,xs,k,j,rfl,rfl,hp,hj,q⟩:=h;cases ro;obtain⟨t,rfl⟩:=ri;obtain⟨yf,n,r,ho,hz⟩:=I.lst hp;obtain⟨h1,h2,h3,h4⟩:=ahl hj;have hl:=r.length;have hn:=aaq;have I':Inv X pins σ (upd H p (.lst (xs.set j v))) { s with heap:=s.heap.update p (Obj.mapSeq (·.setIfInBounds j u)) } :=
  I.azw hp ho (afx yf n j u) (r.set rv j) (by rw[List.length_set];exact hz) s.toks
 by_cases h0:0<=k
 . have hk:k.toNat=j:=by
    rw[seqIndex_of h0 h4] at h1;exact jq h1
   exact PySem.W.ki_setAt ho h0 (by lia) (by rw[gw,<- hl];exact h4) (by rw[hk];exact⟨_,I',q⟩)
 . have hk:(k+(yf.toArray.size:Int)).toNat=j:=by
    rw[seqIndex_neg (by lia) h3] at h1;rw[gw,<- hl];exact jq h1
   exact PySem.W.ki_setBack ho (by lia) (by rw[gw,<- hl];exact h3) (by lia) (by rw[hk];exact⟨_,I',q⟩)
def aas(lo hi:Option Int)(n:Nat):(sliceBounds lo hi none n).1=((HT.Gq n 0 lo:Nat):Int)/\(sliceBounds lo hi none n).2.1=((HT.Gq n n hi:Nat):Int)/\(sliceBounds lo hi none n).2.2=1:=by
 refine⟨?_,?_,rfl⟩
 . cases lo with
   |none=>simp[sliceBounds,HT.Gq]
   |some i =>
    simp only[sliceBounds,HT.Gq,Option.getD_none,show(1:Int) > 0 by decide,jy]
    by_cases h:i<0
    . simp only[h,jy]<;>lia
    . simp only[h,jf]<;>lia
 . cases hi with
   |none=>simp[sliceBounds,HT.Gq]
   |some i =>
    simp only[sliceBounds,HT.Gq,Option.getD_none,show(1:Int) > 0 by decide,jy]
    by_cases h:i<0
    . simp only[h,jy]<;>lia
    . simp only[h,jf]<;>lia
def Xw(yf:Zl)(lo hi:Option Int):slicePick yf.toArray lo hi none=((yf.drop (HT.Gq yf.length 0 lo)).take (HT.Gq yf.length yf.length hi-HT.Gq yf.length 0 lo)).toArray:=by obtain⟨h1,h2,h3⟩:=aas lo hi yf.toArray.size;unfold slicePick;rw[h1,h2,h3];simp only[sliceRange_one,pick_run,gw]<;>rfl
def a6x(K:Fg):V->Option Int->Option Int->Hp->VK->Prop:=λx lo hi H Q=>∃a xs,x=.ref a/\Hf K H a xs/\∀p,H p=none->Q (.ref p) (upd H p (.lst (U3 xs lo hi)))
def atq:SlR X (a6x X.K):=by intro pins s σ H x v vl vu lo hi sl Q I rx hs pl pu h;obtain⟨a,xs,rfl,hx,q⟩:=h;cases rx;obtain⟨yf,r,ht,hz⟩:=I.list hx;have hlen:=r.length;refine⟨"list",_,slot_list_getitem.lookup,ht.isList.typeIs,?_⟩;refine wpAny_getItem_list_slice ht.isList hs pl pu .none (by simp) ?_ (by rw[gw]<;>exact a_ (g_ hlen) hz);rw[Xw,<- hlen];refine⟨.ref s.heap.objs.size,_,I.laid (t':=s.toks) (o:=.lst (U3 xs lo hi)) (λb ob q=>ak _ q) (bw _) ?_,rfl,q _ (I.An.fresh (bw _))⟩;exact⟨gm (Um xs lo hi) hz,_,0,(r.drop (HT.Gq xs.length 0 lo)).take (HT.Gq xs.length xs.length hi-HT.Gq xs.length 0 lo),bh _ rfl⟩
def aat:Cy X (.builtin "len") (λxs H Q=>∃p ys,xs=[.ref p]/\(Hf X.K H p ys\/Kv X.K H p ys)/\Q (.int ys.length) H):=by
 intro pins s σ H xs us Q I r h;obtain⟨p,ys,rfl,hq,q⟩:=h;obtain⟨u,rfl,rx⟩:=vals1 r;cases rx;have hn:=aaq;rcases hq with hq|hq
 . obtain⟨yf,r',pl,hz⟩:=I.list hq
   have hlen:=r'.length;exact Calls.call_len_list pl.isList (by simp only[gw]<;>lia) ⟨.int ys.length,H,I.tok _,⟨s.toks+1,by rw[gw,hlen]⟩,q⟩
 . obtain⟨yf,r',pl,hz⟩:=I.tuple hq
   have hlen:=r'.length;exact len_tuple pl (by simp only[gw]<;>lia) ⟨.int ys.length,H,I.tok _,⟨s.toks+1,by rw[gw,hlen]⟩,q⟩
def Xx:Cy X (.type "tuple") (λxs H Q=>∃p ys,xs=[.ref p]/\((Hf X.K H p ys/\∀l,H l=none->Q (.ref l) (upd H l (.tup ys)))\/(Kv X.K H p ys/\Q (.ref p) H))):=by
 intro pins s σ H xs us Q I r h;obtain⟨p,ys,rfl,h⟩:=h;obtain⟨u,rfl,rx⟩:=vals1 r;cases rx;rcases h with⟨hq,q⟩|⟨hq,q⟩
 . obtain⟨yf,r',pl,hz⟩:=I.list hq
   have hlen:=r'.length;refine call_tuple_list pl.isList (λh' kp=>?_) (by simp only[gw]<;>exact a_ (g_ hlen) hz);have I1:Inv X pins σ H { s with heap:=h' }:=I.kept (t':=s.toks) kp;have I2:Inv X pins σ (upd H h'.objs.size (.tup ys)) { s with heap:=h'.push { cls:=.type "tuple",data:=.seq yf.toArray } } :=
    I1.laid (t':=s.toks) (λb o e=>ak _ e) (bw _) (show Bk X.prog X.w _ _ _ (.tup ys) from⟨hz,yf,r',V7.new _ _⟩)
   exact⟨.ref h'.objs.size,_,I2,rfl,q _ (I1.An.fresh (bw _))⟩
 . obtain⟨yf,r',pl,hz⟩:=I.tuple hq
   exact call_tuple_same pl ⟨.ref p,H,I,rfl,q⟩
def tyV(K:Fg)(T:String)(x:V)(H:Hp):Prop:=match x with
 |.str _=>T = "str"|.int _=>T = "int"
 |.ref p=>(T = "list"/\∃xs,Hf K H p xs)\/(T = "tuple"/\∃o,K.lookup p=some o/\o.cls=.type "tuple"/\o.dict=none) \/
  (T = "dict"/\((∃gq,H p=some (.dK gq))\/∃gq,H p=some (.dT gq)))\/(T = "set"/\∃S n,H p=some (.set S n))
 |_=>False
def azx(I:Inv X pins σ H s)(r:RelV x v)(ty:tyV X.K T x H) :
 s.TypeIs v T/\∀a,v=.ref a->∃ob,s.heap.get? a=some ob/\ob.dict=none:=by
 cases x with
 |str z =>
  obtain⟨t,rfl⟩:=r;cases(show T = "str" from ty);exact⟨typeIs_str s z t,λ_ e=>nomatch e⟩
 |int i =>
  obtain⟨t,rfl⟩:=r;cases(show T = "int" from ty);exact⟨typeIs_int s i t,λ_ e=>nomatch e⟩
 |ref p =>
  cases r;rcases ty with⟨rfl,xs,hq⟩|⟨rfl,o,hk,hc,hd⟩|⟨rfl,hk⟩|⟨rfl,S,n,hk⟩
  . obtain⟨yf,_,pl,_⟩:=I.list hq
    refine⟨pl.isList.typeIs,λa e=>?_⟩;cases e;obtain⟨o,n,e,c,hd,_⟩:=pl;exact⟨o,e,hd⟩
  . refine⟨⟨o,I.kIn p o hk,hc⟩,λa e=>?_⟩
    cases e;exact⟨o,I.kIn _ o hk,hd⟩
  . have z:∃o,s.heap.get? p=some o/\o.ExactDict:=by
     rcases hk with⟨gq,hk⟩|⟨gq,hk⟩
     . obtain⟨_,_,_,_,o,_,_,e,ex,_⟩:=I.An p _ hk
       exact⟨o,e,ex⟩
     . obtain⟨_,_,_,_,o,_,_,e,ex,_⟩:=I.An p _ hk
       exact⟨o,e,ex⟩
    obtain⟨o,e,ex⟩:=z;refine⟨⟨o,e,ex.1⟩,λa e2=>?_⟩;cases e2;exact⟨o,e,ex.2.1⟩
  . obtain⟨o,_,_,_,e,ex,_⟩:=I.An p _ hk
    refine⟨⟨o,e,ex.1⟩,λa e2=>?_⟩;cases e2;exact⟨o,e,ex.2.1⟩
 |_=>exact False.elim ty
def tBM(K:Fg)(T:String)(r:V->List V->Hp->VK->Prop)(to:TE)(t:TA):TE:=fun σ H Q=>to σ H λx H1=>tyV K T x H1/\t σ H1 λxs H2=>r x xs H2 Q
theorem a6y{id:String}(pa:PlainAttrs T)(slot:Slot T name id)(hty:typeOf (.builtin id)=pure (.type "method_descriptor"))(hm:MtR X id r)(ho:PE X o to)(ha:PA X (e::es) t)(aob:attributeBase o name X.env (eval o X.env)=eval o X.env:=by rfl)(azy:((backTo Wc (starEach (e::es) X.env)).all (λx=>!x.1)&&(backToKw Wc (keywordEach [] X.env)).all (λx=>x.1.isSome)
&&decide ((e::es).length+([]:List Keyword).length+(if([]:List Keyword).isEmpty then 0 else 1)<30))=true:=by rfl)(aoc:(apos.endLine==Wc.line)=true:=by rfl)(hs:starEach (e::es) X.env=(false,eval e X.env)::starEach es X.env:=by rfl)(afy:(backTo Wc (starEach es X.env)).any (·.1)=false:=by rfl) :
 PE X (.Call (.Attribute o name apos) (e::es) [] Wc) (tBM X.K T r to t):=by
 intro pins s σ H Q I h;refine wpAny_Call_method_late aob azy aoc rfl (Bq (ho pins s σ H _ I h) λv s1 ⟨x,H1,I1,r1,ty,q1⟩=>?_);obtain⟨h1,h2⟩:=azx I1 r1 ty;refine⟨T,id,pa,slot,hty,h1,h2,?_⟩;have hA:=ha Wc pins s1 σ H1 _ I1 q1;rw[hs] at hA ⊢;refine Calls.callWith_builtin (by show(false||(backTo Wc (starEach es X.env)).any (·.1))=false;rw[afy]<;>rfl) (Calls.evalArgs_plain ?_);exact Bq hA λus s2 ⟨vs,H2,I2,r2,q2⟩=>hm pins s2 σ H2 x vs v us Q I2 r1 r2 q2
end L2
namespace L2
open PySem PySem.Spec PyProof.Rows
def MtM(X:Cx)(id:String)(r:V->List V->Hp->VK->Prop):Prop :=
 ∀(pins:Zp)(s:Shared)(σ:St)(H:Hp)(x:V)(xs:List V)(v:Value)(us:Zl)(Q:VK),Inv X pins σ H s->RelV x v->Vals xs us->r x xs H Q ->
  wpAny (model X.prog X.w) X.A (call (.builtin id) (v::us)) (EP X pins σ Q) X.xe s
theorem Vals.one:∀{x:V}{us:Zl},Vals [x] us->∃u,us=[u]/\RelV x u
 |_,_,.cons r .nil=>⟨_,rfl,r⟩
def Inv.bdk{yf:Zl}(I:Inv X pins σ H s)(hH:H l=some (.lst xs))(e:s.heap.get? l=some { cls:=.type "list",data:=.seq yf.toArray n })(hf:f yf.toArray=its'.toArray)(hv:Vals ys its')(hz:ys.length<=sizeLine) :
 Inv X pins σ (upd H l (.lst ys)) { s with heap:=s.heap.update l (Obj.mapSeq f),toks:=t' }:=by
 have q:=PySem.IsL.update e f;rw[hf] at q;refine I.write (x:=l) (e:=l) (by rw[hH];exact trivial) (.inl rfl) (λb' u hb hu=>(ud s.heap (Obj.mapSeq f) (j0 hb)).trans hu) ⟨_,q⟩ ?_;exact⟨hz,its',_,hv,q⟩
def Inv.bdl(I:Inv X pins σ H s)(hv:Vals ys yf)(hz:ys.length<=sizeLine) :
 Inv X pins σ (upd H s.heap.objs.size (.lst ys)) { s with heap:=s.heap.push { cls:=.type "list",data:=.seq yf.toArray },toks:=t' } :=
 I.laid (λ_ _ q=>ak _ q) (bw _) ⟨hz,yf,0,hv,bh _ rfl⟩
theorem Inv.fresh(I:Inv X pins σ H s):H s.heap.objs.size=none:=I.An.fresh (bw _)
def Inv.atr(I:Inv X pins σ H s)(hH:H l=some (.lst xs)):xs.length<=sizeLine/\∃(yf:Zl)(n:Nat),Vals xs yf/\xs.length=yf.length/\s.heap.get? l=some { cls:=.type "list",data:=.seq yf.toArray n }:=by obtain⟨z,yf,n,r,e⟩:=I.An l _ hH;exact⟨z,yf,n,r,r.length,e⟩
def atu:V->List V->Hp->VK->Prop:=λx vs H Q=>∃l xs y,x=.ref l/\vs=[y]/\H l=some (.lst xs)/\xs.length<sizeLine/\Q .non (upd H l (.lst (xs++[y])))
def Yz:MtM X "list.append" atu:=by intro pins s σ H x vs v us Q I rx rv h;obtain⟨l,xs,y,rfl,rfl,hH,hz,q⟩:=h;cases rx;obtain⟨u,rfl,ru⟩:=rv.one;obtain⟨z,yf,n,r,hl,e⟩:=I.atr hH;refine call_meets F.slot_list_append ⟨_,e,rfl⟩ F.entry_list_append (F.args_list_append_2 _ _) (PySem.list_append l yf.toArray n u (by rw[gw];exact e_ (c_ (g_ hl) hz))) ⟨e,?_⟩;refine⟨.non,_,I.bdk (its':=yf++[u]) hH e (by simp) (r.append (.cons ru .nil)) ?_,rfl,q⟩;rw[ue,List.length_singleton];exact hz
def a6z:R2:=λx y H Q=>∃l b xs zs,x=.ref l/\y=.ref b/\H l=some (.lst xs)/\H b=some (.lst zs)/\xs.length+zs.length<=sizeLine/\∀p,H p=none->Q (.ref p) (upd H p (.lst (xs++zs)))
def aod:Dh X (binaryOp .Add) a6z:=by
 intro pins s σ H x y v u Q I rx ry h;obtain⟨l,b,xs,zs,rfl,rfl,hH,hB,hz,q⟩:=h;cases rx;cases ry;obtain⟨z,yf,n,r,hl,e⟩:=I.atr hH;obtain⟨z2,aj5,n2,r2,hl2,e2⟩:=I.atr hB;refine PySem.P.add_list e e2 ?_ (by rw[gw,gw];lia);have ea:yf.toArray++aj5.toArray=(yf++aj5).toArray:=by simp
 rw[ea];exact⟨.ref _,_,I.bdl (t':=s.toks) (r.append r2) (by rw[ue];exact hz),rfl,q _ I.fresh⟩
end L2
namespace Att
open PySem PySem.W PySem.Calls PyProof.Rows
def U4:∀(ns:Xs)(vs:Zl),WellAll P h vs (ns.map WData.int)->IntsAre vs ns:=by
 intro ns
 induction ns with
 |nil =>
  intro vs w;rw[List.map_nil] at w;cases w;exact .nil
 |cons n ns ih =>
  intro vs w;rw[iu] at w;cases w with
  |cons a b =>
   cases a;exact .cons _ _ (ih _ b)
def aj6{l:OpenLaw}(hn:l.most=some n)(atv:l.row.toRowW.claim.pre args=true)(hwl:WellAll P h vals args) :
 ∃a vs ns,vals=[Value.ref a]/\args=[WData.list (ns.map WData.int)]/\h.get? a=some { cls:=.type "list",data:=.seq vs.toArray }/\IntsAre vs ns/\ns.length<=n:=by
 have hsh:WShape.hasAll [] args [.list .int]=true:=(pre_splitW atv).1;have hc:l.pre.holds [] { args:=args }=true:=(pre_splitW atv).2;obtain⟨d,r,rfl,h1,h2⟩:=hasAllW_cons hsh;obtain rfl:=hasAllW_nil h2;obtain⟨xs,rfl,h3⟩:=hasW_list h1;obtain⟨ns,rfl⟩:=items_int h3;have hlen:ns.length<=n:=by
  unfold OpenLaw.pre at hc;have h4:(WTm.not (.lt (.lit (.int (n:Int))) (.len (.arg 0)))).holds [] { args:=[.list (ns.map .int)] }=true:=by have h4:=(holds_andW hc).1;rw[hn] at h4;exact h4
  have h5:=condW_of h4 (w_not (w_lt w_lit (w_len_list (w_arg rfl))));rw[dw] at h5;refine Nat.le_of_not_lt λq=>?_
  have q':(n:Int)<((ns.length:Nat):Int):=m_ q
  first
   |(rw[yr q'] at h5;exact absurd h5 (by decide))
   |(simp at h5;omega)
 cases hwl with
 |cons w1 w2 =>
  cases w2;cases w1 with
  |list ho Ec=>exact⟨_,_,ns,rfl,rfl,ho,U4 ns _ Ec,hlen⟩
def aj7(l:OpenLaw)(args:List WData):l.row.toRowW.claim.post args (.bool true) args=true :=
 postW_of (r:=l.row.toRowW) (X:=(true==true))
  (show WShape.has [] (.bool true) .bool=true by first|rfl|decide|simp[WShape.has,WShape.arms,WShape.armsAll])
  (show(WTm.eq .res (.lit (.bool true))).value [] { args:=args,res:=some (.bool true),after:=args }=some (.bool (true==true)) from w_eq_bool (w_res rfl) w_lit) rfl
def acw{l:OpenLaw}(hn:l.most=some n)(hdf:d.params.defaults=[])(call:∀(w:World) (s₀ s₁:Shared) (mg mb:Zs) (fa:Addr) (o:Obj) (pm cd doc:Value) (a:Addr) (vs:Zl) (ns:Xs),
 Ground q loose [] XP w s₀ mg mb s₁.heap->YP w s₁.heap ->
 s₁.heap.get? fa=some o->o.data=.func (docDef d.name d.params d.body d.scope pm cd doc)->s₁.heap.CodeRec cd d.name->mg d.name=some (.ref fa) ->
 s₁.heap.get? a=some { cls:=.type "list",data:=.seq vs.toArray }->IntsAre vs ns->ns.length<=n->s₁.gens=#[] ->
 codeAny (model l.prog w) callerA (.call (.ref fa) ⟨[.ref a],[]⟩) (λr s'=>r=.ok (.ret (.bool true))/\OldK s₁.heap s'.heap/\s'.os=s₁.os/\AllBare s'.gens) s₁) :
 WalkO q loose XP YP l.row.toRowW d [] (λf vs=>PySem.call f vs):=by
 intro w s₀ s₁ mg mb G Y fa o pm cd doc dV kV ho hd hcd hD hmg hg args vals as atv bji hrd hwl hlo;obtain rfl:dV=.none:=Dflts.none hD hdf;obtain rfl:kV=.none:=Dflts.noKw hD;obtain⟨a,vs,ns,rfl,rfl,az0,hints,hlen⟩:=aj6 hn atv hwl;refine enter_call (vf (call w s₀ s₁ mg mb fa o pm cd doc a vs ns G Y ho (fd_plain hd) hcd hmg az0 hints hlen hg) λr s' hq=>?_);obtain⟨rfl,h2,h3,h4⟩:=hq;exact⟨.inl ⟨.bool true,.bool true,[],rfl,λ_=>rfl,.bool true,aj7 l _,λ_=>⟨List.Pairwise.nil,λ_ hm=>(nomatch hm)⟩⟩,h2,h3,h4⟩
end Att
namespace L2
open PySem PySem.Spec PyProof.Rows
theorem Y0:∀{vs:Zl}{ns:Xs},IntsAre vs ns->Vals (ns.map V.int) vs
 |_,_,.nil=>.nil|_,_,.cons n t h=>.cons ⟨t,rfl⟩ (Y0 h)
def Only(H:Hp):Prop:=∀b,H b=none\/∃o xs,H b=some (.Jv o (.lst xs))
def aoe{K:Fg}(KX:K.In s₁.heap)(hns:s₁.heap.Ns mainGlobals mg)(hb:s₁.heap.Ns builtinsNs mb)(hbb:∀x:Str,x≠"__name__" -> mb x=bootBuiltins x)(bdn:s₁.heap.NoLimit)(hg:s₁.gens=#[])(ha:s₁.heap.get? a=some { cls:=.type "list",data:=.seq vs.toArray })(hi:IntsAre vs ns)(hl:ns.length<=sizeLine)(hr:Ah k callerA)(F:∀base:Heap,K.In base->base.Ns mainGlobals mg->Ge P w K mg base CX k fa fd [x] sp)(a67:∀(s:Shared) (u:Value),BindsTo s fd ⟨[u],[]⟩ [(x,u)])(hsp:∀H:Hp,Only H->Hf K H a (ns.map V.int)->sp [.ref a] H (λv _=>v=.bl true) λ_ _ _=>False)(hCX:∀H e s',CX [] H s₁ (λ_ _ _=>False) e s'->False) :
 codeAny (model P w) callerA (.call (.ref fa) ⟨[.ref a],[]⟩) (λr s'=>r=.ok (.ret (.bool true))/\OldK s₁.heap s'.heap/\s'.os=s₁.os/\AllBare s'.gens) s₁:=by
 have rv:=Y0 hi;have lenV:=hi.length;have core:∀H:Hp,Only H->Hf K H a (ns.map V.int)->Qg P w H s₁.heap->(∀b,H b≠none->b=a)->(H a≠none->K.lookup a=none) ->
  codeAny (model P w) callerA (.call (.ref fa) ⟨[.ref a],[]⟩) (λr s'=>r=.ok (.ret (.bool true))/\OldK s₁.heap s'.heap/\s'.os=s₁.os/\AllBare s'.gens) s₁:=by
  intro H hO hS An hA hK;have Jg:∀{b:Addr}{o:Obj},s₁.heap.get? b=some o->H b=none->(aal s₁.heap H).get? b=some o:=λe n=>am4 e n
  have noA:∀{b:Addr}{o:Obj}{es:Array DictEntry}{ep:Nat},s₁.heap.get? b=some o->o.data=.dict es ep->H b=none:=fun{b o es ep} e d=>by
   cases q:H b with
   |none=>rfl
   |some u =>
    have e':b=a:=hA b (by rw[q];simp);subst e';rw[ha] at e;cases e;have d':Data.seq vs.toArray _=Data.dict es ep:=d;cases d'
  have nsK:∀{b:Addr}{m:Zs},s₁.heap.Ns b m->(aal s₁.heap H).Ns b m:=fun{b m} ⟨o,es,ep,e,d,r⟩=>⟨o,es,ep,Jg e (noA e d),d,r⟩
  have hKb:K.In (aal s₁.heap H):=λb o e=>Jg (KX b o e) (by
   cases q:H b with
   |none=>rfl
   |some u =>
    have e':b=a:=hA b (by rw[q];simp);subst e';rw[hK (by rw[q];simp)] at e;cases e)
  have hM:Mod K mg (aal s₁.heap H):=⟨hKb,nsK hns,⟨mb,nsK hb,hbb⟩,let ⟨mc,h1,h2⟩:=bdn;⟨mc,nsK h1,h2⟩⟩;have e0:afr P w K mg (aal s₁.heap H) callerA [] s₁ H:=⟨rfl,hM,λb o e=>asy e,Nat.le_of_eq (ajs _ _),trivial,λb hb=>absurd (show b∈([]:X9) from hb) (by simp),An,.of_eq hg⟩;refine vf ((F _ hKb (nsK hns)).run callerA [] s₁ H ⟨[.ref a],[]⟩ [.ref a] [.ref a] _ _ hr e0 (a67 s₁ (.ref a)) (.cons rfl .nil) (hsp H hO hS)) λr s' h=>?_
  cases r with
  |error e=>exact(hCX H e s' h).elim
  |ok fl =>
   cases fl with
   |next=>exact False.elim h|brk=>exact False.elim h|cont=>exact False.elim h
   |ret u =>
    obtain⟨v,H',os,bare,un,bdp,r',q⟩:=h;have q':v=.bl true:=q;subst q';obtain rfl:u=Value.bool true:=r';refine⟨rfl,OldK.of_keep λb o e=>?_,os,bare⟩;cases q:H b with
    |none=>exact un.keep b o e q (by intro z;exact absurd (show b∈([]:X9) from z) (by simp)) (by simp)
    |some u =>
     rcases hO b with z|⟨ob,xs,z⟩
     . rw[q] at z;cases z
     . have z2:=un.aak b ob _ z
       obtain⟨e1,_⟩:=An b _ z;obtain⟨e2,_⟩:=bdp b _ z2;rw[e] at e1;cases e1;exact e2
 cases hk:K.lookup a with
 |some o =>
  have e:=KX a o hk;rw[ha] at e;cases e;refine core (λ_=>none) (λ_=>.inl rfl) (.inr ⟨_,vs.toArray,_,hk,rfl,rfl,rfl,by rw[gw,lenV];exact hl,by simpa using rv⟩) (λb u z=>by have z':(none:Option HO)=some u:=z;cases z') (λb z=>absurd rfl z) λz=>absurd rfl z
 |none =>
  refine core (λb=>if b=a then some (.Jv { cls:=.type "list",data:=.seq vs.toArray } (.lst (ns.map V.int))) else none) (λb=>?_) (.inl (.inr ⟨{ cls:=.type "list",data:=.seq vs.toArray },dh rfl⟩)) (λb u z=>?_) (λb z=>?_) λ_=>hk
  . by_cases hb:b=a
    . exact .inr ⟨_,_,dh hb⟩
    . exact .inl (bx hb)
  . by_cases hb:b=a
    . have z':=(dh hb).symm.trans z
      cases z';subst hb;exact⟨ha,by rw[dw];exact hl,vs,_,rv,ha⟩
    . have z':=(bx hb).symm.trans z
      cases z'
  . by_cases hb:b=a
    . exact hb
    . exact absurd (bx hb) z
end L2
namespace L2
open PySem PySem.Spec PyProof.Rows
def atw{l:PySem.W.OpenLaw}{K:Params->Fg}{CX:World->CXT}{sp:World->Sp}(hn:l.most=some n)(Xm:n<=sizeLine)(hdf:d.params.defaults=[])(hr:Ah k callerA)(hY:∀(w:World) (h:Heap),YP w h->(K w.params).In h)(F:∀(w:World) (mg:Zs) (fa:Addr) (h:Heap),(K w.params).In h->h.Ns mainGlobals mg->mg d.name=some (.ref fa) ->
 ∃fd:FuncData,(∀(s:Shared) (u:Value),BindsTo s fd ⟨[u],[]⟩ [(x,u)]) /\
  ∀base:Heap,(K w.params).In base->base.Ns mainGlobals mg->Ge l.prog w (K w.params) mg base (CX w) k fa fd [x] (sp w))(hsp:∀(w:World) (H:Hp) (a:Addr) (ns:Xs),ns.length<=n->Only H->Hf (K w.params) H a (ns.map V.int)->sp w [.ref a] H (λv _=>v=.bl true) λ_ _ _=>False)(hCX:∀(w:World) (H:Hp) (s:Shared) (e:Value) (s':Shared),CX w [] H s (λ_ _ _=>False) e s'->False) :
 PySem.W.WalkO q loose XP YP l.row.toRowW d [] (λf vs=>PySem.call f vs):=by
 refine Att.acw hn hdf λw s₀ s₁ mg mb fa o pm cd doc a vs ns G Y ho hd hcd hmg az0 hints hlen hg=>?_
 have KX:=hY w _ Y;obtain⟨fd,hb,hF⟩:=F w mg fa _ KX G.T.g hmg;exact aoe KX G.T.g G.T.b G.T.builtins G.T.nolimit hg az0 hints (gm hlen Xm) hr hF hb (λH hO hS=>hsp w H a ns hlen hO hS) λH e s'=>hCX w H s₁ e s'
end L2
namespace L2
open PySem PySem.Spec PyProof.Rows
noncomputable def inClass(s:Stmt)(j:Nat):Stmt:=match s with
 |.ClassDef _ _ _ body _ _ _ _ _ _ _=>body.getD j (.Pass ⟨0,0,0,0⟩)|_=>.Pass ⟨0,0,0,0⟩
noncomputable def Jh(s:Stmt):Arguments:=match s with
 |.FunctionDef _ a _ _ _ _ _ _ _ _=>a|_=>{ posonlyargs:=[],args:=[],vararg:=none,kwonlyargs:=[],kw_defaults:=[],kwarg:=none,defaults:=[] }
noncomputable def Gm(s:Stmt):List Stmt:=match s with
 |.FunctionDef _ _ b _ _ _ _ _ _ _=>b|_=>[]
noncomputable def Bh(s:Stmt):Scope:=match s with
 |.FunctionDef _ _ _ _ _ _ sc _ _ _=>sc|_=>{ kind:=.function,names:=[],isGenerator:=false,isCoroutine:=false }
abbrev CX0:CXT:=λ_ _ _ _ _ _=>False
abbrev E0:XK:=λ_ _ _=>False
def aho:Passes CX0 X E0:=λ_ _ _ _ _ _ _ h=>h.elim
structure Fun(K:Fg)(x qual:Str)(st:Stmt)(f:Addr)(fd:FuncData):Prop where
 ex:∃(oc:Value)(od:Option Addr)(kV doc pm:Value)(an:Option Addr)(cdv ct:Value)(osl:Array (Option Value)),
  fd=PySem.W.fnOf x qual (Jh st) (Gm st) (Bh st) .none kV doc pm an cdv ct/\K.lookup f=some ⟨oc,od,.func fd,osl⟩/\PySem.W.codeIn K cdv qual=true
 kp:PySem.W.keepIn K (.ref f)=true
def Fun.ok{K:Fg}{st:Stmt}(F:Fun K x qual st f fd)(S:Va N ps (Bh st))(len:∀vs H Q E,sp vs H Q E->vs.length=ps.length)(anq:∀(cdv:Value) (A:Around) (outer:List Env) (s:Shared) (H:Hp) (vs:List V) (Q:VK) (E:XK),Ah k (A.deeper (envOfC qual (Bh st) s.heap.objs.size f cdv))->sp vs H Q E ->
 ∃t,Rh (aft CX0 P w K mg base N qual (Bh st) f cdv A outer s H E).nox (Gm st) t/\t { nx:=λ_ H'=>Q .non H',rt:=Q } (start N vs) H):Ge P w K mg base CX0 (k+1) f fd ps sp:=by
 obtain⟨oc,od,kV,doc,pm,an,cdv,ct,osl,rfl,lk,hcd⟩:=F.ex;refine a6m lk hcd S len λA outer s H vs Q E hr hsp=>?_
 obtain⟨t,h,q⟩:=anq cdv A outer s H vs Q E hr hsp;exact⟨t,h.nox,q⟩
def Fun.binds{K:Fg}{st:Stmt}(F:Fun K x qual st f fd)(h:∀(kV doc pm:Value) (an:Option Addr) (cdv ct:Value) (us:Zl),us.length=ps.length->bindArgs (PySem.W.fnOf x qual (Jh st) (Gm st) (Bh st) .none kV doc pm an cdv ct) ⟨us,[]⟩=pure (ps.zip us)):Binds K fd ps []:=by obtain⟨oc,od,kV,doc,pm,an,cdv,ct,osl,rfl,lk,hcd⟩:=F.ex;exact .all (h kV doc pm an cdv ct)
def aof{K:Fg}{st:Stmt}{f:Addr}{oc:Value}{od an:Option Addr}{osl:Array (Option Value)}{kV doc pm cdv ct:Value}(l:K.lookup f=some ⟨oc,od,.func (PySem.W.fnOf x qual (Jh st) (Gm st) (Bh st) .none kV doc pm an cdv ct),osl⟩)(c:PySem.W.codeIn K cdv qual=true)(k:PySem.W.keepIn K (.ref f)=true):Fun K x qual st f (PySem.W.fnOf x qual (Jh st) (Gm st) (Bh st) .none kV doc pm an cdv ct):=⟨⟨oc,od,kV,doc,pm,an,cdv,ct,osl,rfl,l,c⟩,k⟩
def acx{A:Around}{k:Nat}(hr:Ah k A):A.units+1<cLine:=Nat.lt_of_le_of_lt (Nat.add_le_add_left (by decide:1<=64) _) hr.units
end L2
namespace L2
open PySem PySem.Spec PyProof.Rows
noncomputable def Dz(cells:Xt):List (Str×NameKind)->List (Str×Addr)->List (Str×Addr)
 |[],cs=>cs|(n,k)::r,cs=>Dz cells r (if k==.free then(n,(cells.lookup n).getD 0)::cs else cs)
theorem Uo{α β:Type}{f:α->β->Sem (ForInStep β)}{g:α->β->β}:∀{l:List α}(c:β),(∀x∈l,∀c,f x c=pure (.yield (g x c)))->forIn l c f=pure (l.foldl (λc x=>g x c) c)
 |[],c,_=>rfl
 |x::l,c,h=>by
  rw[List.forIn_cons,h x di,pure_bind];exact Uo (g x c) λy hy=>h y (bu _ hy)
theorem Uq(cells:Xt):∀(l:X0)(cs:Xt),Dz cells l cs=l.foldl (λc x=>if x.2==.free then(x.1,(cells.lookup x.1).getD 0)::c else c) cs
 |[],_=>rfl|(n,k)::r,cs=>Uq cells r _
def Wd(h:∀y∈scope.names,y.2=.free->∃c,env.cells.lookup y.1=some c):closureFor scope env=pure (Dz env.cells scope.names []):=by
 simp only[closureFor];rw[Uo (g:=λx c=>if x.2==.free then(x.1,(env.cells.lookup x.1).getD 0)::c else c) [] (λx hx c=>by
  obtain⟨n,k⟩:=x
  by_cases hk:k=.free
  . subst hk
    obtain⟨c',hc⟩:=h (n,.free) hx rfl;have hc:env.cells.lookup n=some c':=hc;simp[cellOf,hc]
  . have hb:(k==NameKind.free)=false:=by simpa using hk
    simp[hb]),Uq]
 rfl
theorem acy(cells:Xt):∀(l:X0)(cs:Xt)(x:Str)(c:Addr),(∀y∈l,y.2=.free->∃c,cells.lookup y.1=some c)->(Dz cells l cs).lookup x=some c ->
 cs.lookup x=some c\/cells.lookup x=some c
 |[],cs,x,c,_,h=>.inl h
 |(n,k)::r,cs,x,c,hy,h=>by
  rcases acy cells r _ x c (λz hz=>hy z (bu _ hz)) h with q|q
  . by_cases hk:k=.free
    . subst hk
      simp only[za,jy,nq] at q;cases e:x==n with
      |true =>
       rw[e] at q;obtain⟨c',hc⟩:=hy (n,.free) di rfl;have hc:cells.lookup n=some c':=hc;simp only[hc,yz,yd] at q;subst q;rw[eq_of_beq e];exact .inr hc
      |false=>rw[e] at q;exact .inl q
    . have hb:(k==NameKind.free)=false:=by simpa using hk
      simp only[hb,dg,jf] at q;exact .inl q
  . exact .inr q
theorem We(cells:Xt):∀(l:X0)(cs:Xt)(x:Str),(∃c,cs.lookup x=some c)->∃c,(Dz cells l cs).lookup x=some c
 |[],cs,x,h=>h
 |(n,k)::r,cs,x,h=>by
  refine We cells r _ x ?_
  by_cases hk:(k==NameKind.free)=true
  . rw[dh hk,nq]
    cases e:x==n with
    |true=>exact⟨_,rfl⟩|false=>exact h
  . rw[bx hk];exact h
theorem Tn(cells:Xt):∀(l:X0)(cs:Xt)(x:Str),(x,NameKind.free)∈l->∃c,(Dz cells l cs).lookup x=some c
 |(n,k)::r,cs,x,h=>by
  rcases bz.mp h with q|q
  . obtain⟨rfl,rfl⟩:=Prod.mk.inj q
    refine We cells r _ x ⟨(cells.lookup x).getD 0,?_⟩;rw[dh (by simp),nq,za]
  . exact Tn cells r _ x q
theorem Om{env:Env}:∀{names:X0}{x:Str},
 (names.map λ(y:Str×NameKind)=>if(y.2==NameKind.free&&env.scope.kind==.function&&env.kindOf y.1==some .cell) then(y.1,NameKind.cell) else(y.1,y.2)).lookup x
  = (names.lookup x).map λk=>if(k==NameKind.free&&env.scope.kind==.function&&env.kindOf x==some .cell) then NameKind.cell else k
 |[],_=>rfl
 |(n,k)::r,x=>by
  have ih:=@Om env r x;rw[iu];cases hx:x==n with
  |true =>
   have e:=eq_of_beq hx;subst e;clear hx
   by_cases hc:(k==NameKind.free&&env.scope.kind==.function&&env.kindOf x==some .cell)=true
   . simp only[hc,jy,nq,za,vy]
   . have hb:(k==NameKind.free&&env.scope.kind==.function&&env.kindOf x==some .cell)=false:=by simpa using hc
     simp only[hb,dg,jf,nq,za,vy]
  |false =>
   by_cases hc:(k==NameKind.free&&env.scope.kind==.function&&env.kindOf n==some .cell)=true
   . simp only[hc,jy,nq,hx];exact ih
   . simp only[hc,nq,hx];simpa[nq,hx] using ih
theorem mem_of_lookup{α β:Type}[BEq α][LawfulBEq α]:∀{l:List (α×β)}{x:α}{y:β},l.lookup x=some y->(x,y)∈l
 |(a,b)::r,x,y,h=>by
  rw[nq] at h;cases e:x==a with
  |true=>rw[e] at h;cases h;rw[eq_of_beq e];exact di|false=>rw[e] at h;exact bu _ (mem_of_lookup h)
def Ea{α:Type}{v:α}{r:List (Str×α)}:((k,v)::r).lookup x=if x=k then some v else r.lookup x:=by
 rw[nq]
 by_cases h:x=k
 . rw[dh h,show(x==k)=true from beq_iff_eq.mpr h]
 . rw[bx h,show(x==k)=false from rm.mpr h]
set_option tactic.hygienic true in
theorem ahp:∀(l:X0)(n:Nat)(acc:Xt)(x:Str)(c:Addr),(cellsFrom n l acc).lookup x=some c->((x,NameKind.cell)∈l/\n<=c)\/acc.lookup x=some c
 |[],_,_,_,_,h=>.inr h
 |(k,kd)::r,n,acc,x,c,h=>by
  unfold cellsFrom at h;split at h
  . rename_i e
    rcases ahp r _ _ x c h with⟨q,l⟩|q
    . exact .inl ⟨bu _ q,by omega⟩
    . rw[Ea] at q
      split at q
      . rename_i z
        cases q;exact .inl ⟨by rw[z,eq_of_beq e];exact di,bw _⟩
      . exact .inr q
  . rcases ahp r _ _ x c h with⟨q,l⟩|q
    . exact .inl ⟨bu _ q,l⟩
    . exact .inr q
set_option tactic.hygienic true in
theorem aav:∀(l:X0)(n:Nat)(acc:Xt)(x:Str),((x,NameKind.cell)∈l\/∃c,acc.lookup x=some c)->∃c,(cellsFrom n l acc).lookup x=some c
 |[],_,_,_,h=>by rcases h with q|q;cases q;exact q
 |(k,kd)::r,n,acc,x,h=>by
  unfold cellsFrom;split
  . refine aav r _ _ x ?_
    by_cases z:x=k
    . exact .inr ⟨n,by rw[Ea,dh z]⟩
    . rcases h with q|q
      . rcases bz.mp q with q|q
        . cases q;exact absurd rfl z
        . exact .inl q
      . exact .inr (by rw[Ea,bx z];exact q)
  . rename_i e
    refine aav r _ _ x ?_;rcases h with q|q
    . rcases bz.mp q with q|q
      . cases q;exact absurd rfl e
      . exact .inl q
    . exact .inr q
set_option tactic.hygienic true in
theorem aog:∀(l:X0)(n:Nat)(acc:Xt)(x:Str),(x,NameKind.cell)∉l->(cellsFrom n l acc).lookup x=acc.lookup x
 |[],_,_,_,_=>rfl
 |(k,kd)::r,n,acc,x,h=>by
  have h2:(x,NameKind.cell)∉r:=λq=>h (bu _ q)
  unfold cellsFrom;split
  . rename_i e
    rw[aog r _ _ x h2,Ea,bx];intro z;exact h (by rw[z,eq_of_beq e];exact di)
  . exact aog r _ _ x h2
set_option tactic.hygienic true in
theorem afz:∀(l:X0)(n:Nat)(acc:Xt),(∀x c,acc.lookup x=some c->c<n)->(∀x y c,acc.lookup x=some c->acc.lookup y=some c->x=y)->∀x y c,(cellsFrom n l acc).lookup x=some c->(cellsFrom n l acc).lookup y=some c->x=y
 |[],_,_,_,h=>h
 |(k,kd)::r,n,acc,lt,h=>by
  unfold cellsFrom;split
  . refine afz r _ _ (λx c q=>?_) (λx y c q1 q2=>?_)
    . rw[Ea] at q
      split at q
      . cases q;exact o8 n
      . exact p7 (lt x c q)
    . rw[Ea] at q1 q2
      split at q1<;>split at q2
      . rename_i a b;rw[a,b]
      . cases q1;exact absurd (lt y _ q2) (ou _)
      . cases q2;exact absurd (lt x _ q1) (ou _)
      . exact h x y c q1 q2
  . exact afz r _ _ lt h
set_option tactic.hygienic true in
theorem aaw:∀(l:X0)(h:Heap)(acc:Xt),(∀x c,acc.lookup x=some c->∃v,h.IsCell c v)->∀x c,(cellsFrom h.objs.size l acc).lookup x=some c->∃v,(pushCells h l).IsCell c v
 |[],_,_,k,x,c,q=>k x c q
 |(n,kd)::r,h,acc,k,x,c,q=>by
  unfold cellsFrom at q;unfold pushCells;split at q
  . rename_i e
    rw[dh e];have sz:(h.push { cls:=.type "cell",data:=.cell none }).objs.size=h.objs.size+1:=ig _ _;rw[<- sz] at q;refine aaw r _ _ (λx c q=>?_) x c q;rw[Ea] at q;split at q
    . cases q;exact⟨none,_,bh _ rfl,rfl⟩
    . obtain⟨v,hv⟩:=k x c q
      exact⟨v,hv.keeps λb o e=>ak _ e⟩
  . rename_i e
    rw[bx e];exact aaw r _ _ k x c q
set_option tactic.hygienic true in
theorem Wf(cells:Xt):∀(l:X0)(cs:Xt)(x:Str)(c:Addr),(Dz cells l cs).lookup x=some c->(x,NameKind.free)∈l\/cs.lookup x=some c
 |[],_,_,_,h=>.inr h
 |(k,kd)::r,cs,x,c,h=>by
  unfold Dz at h;rcases Wf cells r _ x c h with q|q
  . exact .inl (bu _ q)
  . split at q
    . rename_i e
      rw[Ea] at q;split at q
      . rename_i z
        exact .inl (by rw[z,eq_of_beq e];exact di)
      . exact .inr q
    . exact .inr q
def aj8(h:Q { scope:=scope,locals:=s.heap.objs.size,globals:=globals,cells:=cellsFrom (s.heap.objs.size+1) scope.names cl,qual:=qual,func:=none,code:=around.code,frame:=around.frame,builtins:=around.builtins } { s with heap:=pushCells (s.heap.push { cls:=.type "dict",data:=.dict #[] }) scope.names }) :
 wpAny M A (newFunctionEnv scope globals cl [] qual none .none (some around)) Q E s:=by
 simp only[newFunctionEnv,Option.isSome_some,jy];refine aa (wpAny_alloc ?_);refine aa (wpAny_layCells _ (λname kind cells=>by cases hkc:kind==NameKind.cell<;>simp[hkc]) _ _ _ _ ?_);rw[show({ s with heap:=s.heap.push { cls:=.type "dict",data:=.dict #[] } }:Shared).heap.objs.size=s.heap.objs.size+1 from ig ..];exact aa (aj (aj h))
noncomputable def Nf(X:Cx)(N:Yf)(scope:Scope)(C:Addr)(fp:X9)(s:Shared)(H:Hp):Cx where
 prog:=X.prog
 w:=X.w
 K:=X.K
 mg:=X.mg
 base:=X.base
 A:=X.A
 N:=N
 s₀:=s
 H₀:=H
 env:=compEnvC scope (cellsFrom (C+1) scope.names (Dz X.env.cells scope.names [])) C X.env
 outer:=X.stack
 stack:=X.stack
 ex:=fp
 fn:=λx=>scope.names.lookup x==some .cell
 calm:=X.calm
 pn:=[]
 xe:=λ_ _=>False
structure Fi(X:Cx)(N:Yf)(scope:Scope):Prop where
 kind:scope.kind=.function
 locs:∀y∈scope.names,y.2=.local->scope.names.lookup y.1=some .local
 frees:∀y∈scope.names,y.2=.free->X.env.kindOf y.1=some .cell\/X.env.kindOf y.1=some .free
 uniq:∀x k,(x,k)∈scope.names->scope.names.lookup x=some k
 long:X.N.length<=N.length
 vis:∀i x,i<X.N.length->N[i]?=some x->Vis (relabel scope X.env) x->X.N[i]?=some x/\scope.names.lookup x=some .free
theorem Fi.cells(B:Fi X N scope)(ok:X.Ok):∀y∈scope.names,y.2=.free->∃c,X.env.cells.lookup y.1=some c:=λy hy hk=>ok.has y.1 (B.frees y hy hk)
def Fi.clos(B:Fi X N scope)(ok:X.Ok):closureFor scope X.env=pure (Dz X.env.cells scope.names []):=Wd (B.cells ok)
def Fi.inCells(B:Fi X N scope)(ok:X.Ok)(h:(Dz X.env.cells scope.names []).lookup x=some c):X.env.cells.lookup x=some c:=by
 rcases acy _ _ _ _ _ (B.cells ok) h with q|q
 . simp at q
 . exact q
def acz{X:Cx}(x:Str):(compEnvC scope cl C X.env).kindOf x=(scope.names.lookup x).map λk=>if(k==NameKind.free&&X.env.scope.kind==.function&&X.env.kindOf x==some .cell) then NameKind.cell else k:=by show(relabel scope X.env).names.lookup x=_;exact Om
def Fi.af0(B:Fi X N scope)(ok:X.Ok)(h:(cellsFrom (C+1) scope.names (Dz X.env.cells scope.names [])).lookup x=some c):(scope.names.lookup x=some .cell/\C+1<=c)\/X.env.cells.lookup x=some c:=by
 rcases ahp _ _ _ _ _ h with⟨q,l⟩|q
 . exact .inl ⟨B.uniq _ _ q,l⟩
 . exact .inr (B.inCells ok q)
def aj9(B:Fi X N scope)(I:Inv X pins σ H s)(hf:∀b∈fp,U0 X pins H b)(hfo:∀b∈fp,∃o,s.heap.get? b=some o)(hns:h₁.Ns (s.heap.objs.size+1) λ_=>none)(hk:∀b o,s.heap.get? b=some o->h₁.get? b=some o)(Fo:h₁.get? s.heap.objs.size=some { cls:=.type "list",data:=.seq ([]:Zl).toArray })(hcl:∀x c,(cellsFrom (s.heap.objs.size+1+1) scope.names (Dz X.env.cells scope.names [])).lookup x=some c->∃v,h₁.IsCell c v) :
 Inv (Nf X N scope (s.heap.objs.size+1) fp s H) [] (σ++List.replicate (N.length-X.N.length) none) (upd H s.heap.objs.size (.lst [])) { s with heap:=h₁,toks:=t }:=by
 have ok:=I.ok;have hD:H s.heap.objs.size=none:=I.An.fresh (bw _);have hC:H (s.heap.objs.size+1)=none:=I.An.fresh (u0 _);have hCD:s.heap.objs.size+1≠s.heap.objs.size:=Nat.succ_ne_self _;have lt:∀b∈fp,b<s.heap.objs.size:=λb hb=>by obtain⟨o,e⟩:=hfo b hb;exact az e
 have clt:∀x c,X.env.cells.lookup x=some c->c<s.heap.objs.size:=λx c e=>by obtain⟨v,o,ho,_⟩:=I.cell x c e;exact az ho
 refine⟨⟨ok.mod,B.kind,ok.glob,ok.blt,u0 _,?_,?_,?_,ok.hd,ok.frames,.inl rfl,?_,λb o e=>I.bs b o e,gm ok.bsz I.sz,?_,?_,I.stack,I.ag9⟩,rfl,I.bare,?_,?_,?_,?_,?_,?_,?_,?_⟩
 . intro x y c hx hy
   refine afz scope.names (s.heap.objs.size+1+1) (Dz X.env.cells scope.names []) (λx c q=>?_) (λx y c q1 q2=>ok.inj x y c (B.inCells ok q1) (B.inCells ok q2)) x y c hx hy;exact p7 (p7 (clt x c (B.inCells ok q)))
 . intro x hx
   rw[show(Nf X N scope (s.heap.objs.size+1) fp s H).env.kindOf x=_ from acz x] at hx;cases e:scope.names.lookup x with
   |none=>rw[e] at hx;rcases hx with q|q<;>simp at q
   |some k =>
    have Qh:k=.free\/k=.cell:=by
     rw[e] at hx;cases k with
     |free=>exact .inl rfl|cell=>exact .inr rfl|«local»=>rcases hx with q|q<;>simp at q
     |globalExplicit=>rcases hx with q|q<;>simp at q
     |globalImplicit=>rcases hx with q|q<;>simp at q
    rcases Qh with rfl|rfl
    . exact aav _ _ _ _ (.inr (Tn _ _ _ _ (mem_of_lookup e)))
    . exact aav _ _ _ _ (.inl (mem_of_lookup e))
 . intro x c h hc
   have h:scope.names.lookup x=some .cell:=eq_of_beq h;show s.heap.objs.size<=c
   rcases ahp _ _ _ _ _ hc with⟨_,l⟩|q
   . exact gm (w6 _ 2) l
   . rcases Wf _ _ _ _ _ q with z|z
     . rw[B.uniq _ _ z] at h;cases h
     . cases z
 . intro b hb
   refine⟨λe=>?_,λx c hc e=>?_⟩
   . have q:=lt b hb
     have e:b=s.heap.objs.size+1:=e;rw[e] at q;exact absurd q (Nat.not_lt.mpr (u0 _))
   . obtain⟨_,_,_,_,f4,_⟩:=hf b hb
     rcases B.af0 ok hc with⟨_,l⟩|hc
     . have q:=lt b hb
       rw[<- e] at q;exact absurd (gr (p7 (p7 q)) l) (ou _)
     . exact f4 x c hc e
 . intro b o e hb
   obtain⟨_,_,_,f3,_⟩:=hf b hb;rcases f3 with q|q
   . exact ok.am6 b o e q
   . exact ou _ (gr (az e) (gm ok.bsz q))
 . intro b hb q
   obtain⟨_,f1,f2,_⟩:=hf b hb;rcases bz.mp (I.aam b q) with z|z
   . exact f1 z
   . exact f2 z
 . exact Un.laid hk (bw _) hD
 . refine⟨_,hns,λi x v hN hσ hv=>?_⟩
   have hi:i<X.N.length:=by
    rcases Nat.lt_or_ge i σ.length with q|q
    . rw[I.len] at q;exact q
    . rw[jm q] at hσ
      rw[List.getElem?_replicate] at hσ;split at hσ<;>simp at hσ
   rw[du (by rw[I.len];exact hi)] at hσ;obtain⟨hx,Qh⟩:=B.vis i x hi hN hv;obtain⟨m,_,hl⟩:=I.loc;have hkx:=B.frees _ (mem_of_lookup Qh) rfl;have hvx:Vis X.env.scope x:=by
    rcases hkx with q|q
    . exact .inr (.inl q)
    . exact .inr (.inr q)
   obtain⟨u,ru,lu⟩:=hl i x v hx hσ hvx;refine⟨u,ru,.inr ⟨?_,?_⟩⟩
   . rw[show(Nf X N scope (s.heap.objs.size+1) fp s H).env.kindOf x=_ from acz x,Qh]
     simp only[vy];split
     . exact .inl rfl
     . exact .inr rfl
   . rcases lu with⟨q,_⟩|⟨_,c,hc,ic⟩
     . rcases hkx with z|z<;>rw[q] at z<;>cases z
     . obtain⟨c',hc'⟩:=Tn X.env.cells scope.names [] x (mem_of_lookup Qh)
       have:=B.inCells ok hc';rw[hc] at this;cases this;refine⟨c,?_,ic.keeps hk⟩;show(cellsFrom (s.heap.objs.size+1+1) scope.names (Dz X.env.cells scope.names [])).lookup x=some c;rw[aog _ _ _ _ λz=>by rw[B.uniq _ _ z] at Qh;cases Qh];exact hc'
 . exact hcl
 . show upd H s.heap.objs.size (.lst []) (s.heap.objs.size+1)=none
   rw[j5 hCD];exact hC
 . intro x c hc
   rcases B.af0 ok hc with⟨_,l⟩|hc'
   . have l:s.heap.objs.size+1+1<=c:=l
     rw[j5 (u5 (gr (p7 (o8 _)) l))];exact I.An.fresh (gm (w6 _ 2) l)
   . rw[j5 (fc (clt x c hc'))]
     exact I.Oh x c hc'
 . intro p hp;simp[Nf] at hp
 . exact Qg.laid I.An hk (bw _) ⟨mq _,[],0,.nil,Fo⟩
 . show(σ++List.replicate (N.length-X.N.length) none).length=N.length
   rw[ue,List.length_replicate,I.len];have:=B.long;omega
def Oo(I:Nat->Shared->Prop)(turn:∀n s,I n s->wpAny (model prog w) A (pyNext it) (λr s₁=>match r with
 |none=>R (.ok .next) s₁
 | some v=>wpAny (model prog w) A (letOwnedTupleGo target it v) (λ_ s₁'=>wpAny (model prog w) A (assign target env v) (λ_ s₂ =>
  wpAny (model prog w) A (forIn ifs true λc r=>if r=true then do let ok <- isTrue c env (eval c env);pure (ForInStep.yield ok) else pure (ForInStep.yield r)) (λok s₃ =>
   if ok=true then wpAny (model prog w) A (eval elt env) (λx s₄ =>
    wpAny (model prog w) A (call (.builtin "list.append") [acc,x]) (λ_ s₅=>∃m,m<n/\I m s₅) (λ_ _=>False) s₄) (λ_ _=>False) s₃
   else ∃m,m<n/\I m s₃) (λ_ _=>False) s₂) (λ_ _=>False) s₁') (λ_ _=>False) s₁) (λ_ _=>False) s)(n:Nat)(h:I n s) :
 codeAny (model prog w) A (.compLoop (.ListComp elt [⟨target,iter,ifs,0⟩] scope pos) 0 it acc env) R s:=by
 have nv:∀{α:Type}{t:Sem α}{Q:α->Shared->Prop}{E:Y1}{s:Shared},wpAny (model prog w) A t Q (λ_ _=>False) s->wpAny (model prog w) A t Q E s:=λh=>lz h (λ_ _ q=>q) λ_ _ f=>f.elim
 refine codeAny_loop rfl I (λn s hI=>?_) n h;show wpAny _ A ((compTurn (.ListComp elt [⟨target,iter,ifs,0⟩] scope pos) 0 it acc env).onRaise (λx=>do noteFrame x env;theTreesLotGoes x)) _ _ s;refine wpAny_noted ?_;rw[compTurn_list];refine aa (wpAny_standAt (aa (lz (turn n s hI) (λr s₁ h₁=>?_) λ_ _ h'=>h'.elim)));cases r with
 |none=>exact aj h₁
 |some v =>
  refine aa (lz h₁ (λ_ s₁' h₁'=>?_) λ_ _ h'=>h'.elim);refine aa (lz h₁' (λ_ s₂ h₂=>aa (lz h₂ (λok s₃ h₃=>?_) λ_ _ h'=>h'.elim)) λ_ _ h'=>h'.elim);cases ok with
  |false=>exact aj ⟨rfl,h₃⟩
  |true =>
   exact aa (aa (lz h₃ (λx s₄ h₄=>aa (lz h₄ (λ_ s₅ h₅=>aj (aj ⟨rfl,h₅⟩)) λ_ _ h'=>h'.elim)) λ_ _ h'=>h'.elim))
def ac0(k:Nat)(wi:TI)(g:TG)(tc:TT)(te:TE):TE:=fun σ H Q=>wi σ H λJ H1=>∀D,H1 D=none->∃W:Nat->Nat->Hp->Prop,(∃m,W 0 m (upd H1 D (.lst [])))/\∀i m H,W i m H ->
 (J.stop i H/\Q (.ref D) H)\/(J.go i H/\∀x H',J.yld i H x H'->g x (σ++List.replicate k none) H' fun σ2 H2=>σ2.length=(σ++List.replicate k none).length /\
  (∀(j:Nat) v,(σ++List.replicate k none)[j]?=some (some v)->σ2[j]?=some (some v))/\tc σ2 H2 λb H3 =>
   if b=true then te σ2 H3 λv H4=>∃xs m',H4 D=some (.lst xs)/\xs.length<sizeLine/\m'<m/\W (i+1) m' (upd H4 D (.lst (xs++[v]))) else ∃m',m'<m/\W (i+1) m' H3)
def PTs(X:Cx)(ifs:Ya)(tc:TT):Prop:=(ifs=[]/\tc=λ_ H Q=>Q true H)\/∃c,ifs=[c]/\PT X c tc
def Y4(I:Inv X pins σ H s)(hf:∀b∈fp,U0 X pins H b)(J:Inv (Nf X N scope (s.heap.objs.size+1) fp s H) [] σ3 H3 s3):Inv X pins σ H3 s3/\∃m,s3.heap.Ns (s.heap.objs.size+1) m:=by
 refine⟨I.call' J.os J.base J.An J.bare λb hb=>?_,?_⟩
 . obtain⟨_,f1,_,f3,f4,f5⟩:=hf b hb
   exact⟨f3,f1,f4,f5⟩
 . obtain⟨m,hn,_⟩:=J.loc
   exact⟨m,hn⟩
def aka(I:Inv X pins σ H s)(I3:Inv X pins σ H3 s3)(hC:H3 (s.heap.objs.size+1)=none)(hs:Heap.SameBut (s.heap.objs.size+1) s3.heap h'):Inv X pins σ H3 { s3 with heap:=h' }:=by
 have big:∀b o,s.heap.get? b=some o->b≠s.heap.objs.size+1:=λb o e z=>by have:=az e;rw[z] at this;exact absurd this (Nat.not_lt.mpr (u0 _))
 refine I3.turned (t':=s3.toks) (λb o hb e=>hs.extBut b o hb e) hC ?_ (.inr (gm I.sz (u0 _))) ?_ ?_
 . intro e
   obtain⟨m,⟨o,_,_,ho,_⟩,_⟩:=I.loc;exact big _ o ho e.symm
 . intro x c hc
   obtain⟨v,o,ho,_⟩:=I.cell x c hc;exact big c o ho
 . intro p hp
   exact big p.1 p.2 (I.pin p hp).1
def Wg{RR:Value->Addr->Result->Shared->Prop}(B:Fi X N scope)(Ji:X.calm=true)(I:Inv X pins σ H s)(hf:∀b∈fp,U0 X pins H b)(T:Turn X.prog X.w X.K tg J fp it tn)(h0:tn 0 s.heap)(hg:∀C s H,PG (Nf X N scope C fp s H) tg g)(hc:∀C s H,PTs (Nf X N scope C fp s H) ifs tc)(he:∀C s H,PE (Nf X N scope C fp s H) elt te){Q:VK}(W:Nat->Nat->Hp->Prop)(w0:W 0 m0 (upd H s.heap.objs.size (.lst [])))(turn:∀i m H,W i m H->(J.stop i H/\Q (.ref s.heap.objs.size) H)\/(J.go i H/\∀x H',J.yld i H x H'->g x (σ++List.replicate (N.length-X.N.length) none) H' fun σ2 H2=>σ2.length=(σ++List.replicate (N.length-X.N.length) none).length /\
 (∀(j:Nat) v,(σ++List.replicate (N.length-X.N.length) none)[j]?=some (some v)->σ2[j]?=some (some v))/\tc σ2 H2 λb H3 =>
  if b=true then te σ2 H3 λv H4=>∃xs m',H4 s.heap.objs.size=some (.lst xs)/\xs.length<sizeLine/\m'<m/\W (i+1) m' (upd H4 s.heap.objs.size (.lst (xs++[v]))) else ∃m',m'<m/\W (i+1) m' H3))(hRR:∀σ3 H3 s3,Inv (Nf X N scope (s.heap.objs.size+1) fp s H) [] σ3 H3 s3->Q (.ref s.heap.objs.size) H3->RR (.ref s.heap.objs.size) (s.heap.objs.size+1) (.ok .next) s3) :
 wpAny (model X.prog X.w) X.A (newList []) (λacc s₃=>wpAny (model X.prog X.w) X.A (newFunctionEnv scope X.env.globals (Dz X.env.cells scope.names []) [] X.env.qual none .none (some X.env)) (λcenv s₄ =>
  codeAny (model X.prog X.w) X.A (.compStart (.ListComp elt [⟨tg,iter,ifs,0⟩] scope pos) 0 (.ref it) acc { cenv with scope:=relabel scope X.env }) (RR acc cenv.locals) s₄) E s₃) E s:=by
 refine ju (aj8 ?_);have hsz:(s.heap.push { cls:=.type "list",dict:=none,data:=.seq ([]:Zl).toArray }).objs.size=s.heap.objs.size+1:=ig _ _;obtain⟨h₁,eh⟩:∃h₁,h₁=pushCells ((s.heap.push { cls:=.type "list",dict:=none,data:=.seq ([]:Zl).toArray }).push { cls:=.type "dict",data:=.dict #[] }) scope.names:=⟨_,rfl⟩;have up:∀b o,(s.heap.push { cls:=.type "list",dict:=none,data:=.seq ([]:Zl).toArray }).get? b=some o->h₁.get? b=some o:=λb o e=>by rw[eh];exact pushCells_keeps _ _ b o (ak _ e)
 have old:∀b o,s.heap.get? b=some o->h₁.get? b=some o:=λb o e=>up b o (ak _ e)
 have Fo:h₁.get? s.heap.objs.size=some { cls:=.type "list",data:=.seq ([]:Zl).toArray }:=up _ _ (bh _ rfl);have hns₁:h₁.Ns (s.heap.objs.size+1) λ_=>none:=by rw[eh,<- hsz];exact(Heap.Ns.new _ (.type "dict")).keeps (pushCells_keeps _ _)
 have hcl:∀x c,(cellsFrom (s.heap.objs.size+1+1) scope.names (Dz X.env.cells scope.names [])).lookup x=some c->∃v,h₁.IsCell c v:=by
  have sz2:((s.heap.push { cls:=.type "list",dict:=none,data:=.seq ([]:Zl).toArray }).push { cls:=.type "dict",data:=.dict #[] }).objs.size=s.heap.objs.size+1+1:=by rw[ig,hsz]
  rw[eh,<- sz2];refine aaw _ _ _ λx c q=>?_
  obtain⟨v,hv⟩:=I.cell x c (B.inCells I.ok q);exact⟨v,hv.keeps λb o e=>ak _ (ak _ e)⟩
 have hfo:∀b∈fp,∃o,s.heap.get? b=some o:=λb hb=>let ⟨o,e,_⟩:=T.obj 0 _ h0 b hb;⟨o,e⟩
 have I0:=aj9 (t:=s.toks) B I hf hfo hns₁ old Fo hcl;have afk:∀{H':Hp},(∀b∈fp,H' b=none)->∀b∈fp,U0 (Nf X N scope (s.heap.objs.size+1) fp s H) [] H' b:=λhn b hb=>by
  obtain⟨f0,f1,f2,f3,f4,f5⟩:=hf b hb;refine⟨hn b hb,?_,?_,.inl hb,?_,λp hp=>(by simp[Nf] at hp)⟩
  . intro z
    obtain⟨o,e⟩:=hfo b hb;have:=az e;rw[show b=s.heap.objs.size+1 from z] at this;exact absurd this (Nat.not_lt.mpr (u0 _))
  . intro q
    rcases bz.mp (I.aam b q) with z|z
    . exact f1 z
    . exact f2 z
  . intro x c hc
    rcases B.af0 I.ok hc with⟨_,l⟩|hc
    . intro z
      obtain⟨o,e⟩:=hfo b hb;have q:=az e;rw[<- z] at q;exact absurd (gr (p7 (p7 q)) l) (ou _)
    . exact f4 x c hc
 have fr0:∀b∈fp,upd H s.heap.objs.size (.lst []) b=none:=λb hb=>by obtain⟨o,e⟩:=hfo b hb;rw[j5 (fc (az e))];exact(hf b hb).1
 have loop:∀s':Shared,s'={ s with heap:=h₁ }->codeAny (model X.prog X.w) X.A (.compLoop (.ListComp elt [⟨tg,iter,ifs,0⟩] scope pos) 0 (.ref it) (.ref s.heap.objs.size) (compEnvC scope (cellsFrom (s.heap.objs.size+1+1) scope.names (Dz X.env.cells scope.names [])) (s.heap.objs.size+1) X.env))
  (RR (.ref s.heap.objs.size) (s.heap.objs.size+1)) s':=by
  rintro s' rfl;refine Oo (λn s'=>∃i σ' H',Inv (Nf X N scope (s.heap.objs.size+1) fp s H) [] σ' H' s'/\(∀(j:Nat) v,(σ++List.replicate (N.length-X.N.length) none)[j]?=some (some v)->σ'[j]?=some (some v))/\tn i s'.heap/\(∀b∈fp,H' b=none)/\W i n H') ?_ m0
   ⟨0,_,_,I0,λ_ _ z=>z,T.keep 0 _ _ h0 (λb _ o e=>old b o e),fr0,w0⟩
  rintro n s3 ⟨i,σ3,H3,I3,k3,st3,fr3,w3⟩;have I3':=I3.weak (σ':=σ++List.replicate (N.length-X.N.length) none) (by rw[I3.len];exact I0.len) k3;rcases turn i n H3 w3 with⟨stop,qn⟩|⟨go,step⟩
  . refine Bq (T.done (Nf X N scope (s.heap.objs.size+1) fp s H) rfl rfl rfl Ji i [] s3 _ H3 (λ_ _=>False) I3' (afk fr3) st3 stop) λr s4 ⟨hr,I4⟩=>?_
    subst hr;exact hRR _ _ _ I4 qn
  . refine Bq (T.item (Nf X N scope (s.heap.objs.size+1) fp s H) rfl rfl rfl Ji i [] s3 _ H3 (λ_ _=>False) I3' (afk fr3) st3 go) λr s4 ⟨u,hr,h4⟩=>?_
    subst hr;refine Bq h4 λ_ s5 ⟨x,H5,I5,r5,y5,st5,fr5⟩=>?_
    have I5':=I5.pinned (afk fr5) (T.obj _ _ st5);refine Bq (hg _ _ _ _ s5 _ H5 x u _ I5' r5 (step x H5 y5)) λ_ s6 ⟨σ6,H6,I6,l6,k6,q6⟩=>?_
    have again:∀{aha:Zp}{H7:Hp}{s7:Shared}{m:Nat},Inv (Nf X N scope (s.heap.objs.size+1) fp s H) ([]++Th fp s5.heap) σ6 H7 s7->m<n->W (i+1) m H7 ->
     ∃m,m<n/\∃i σ' H',Inv (Nf X N scope (s.heap.objs.size+1) fp s H) [] σ' H' s7/\(∀(j:Nat) v,(σ++List.replicate (N.length-X.N.length) none)[j]?=some (some v)->σ'[j]?=some (some v))/\tn i s7.heap/\(∀b∈fp,H' b=none)/\W i m H':=fun{_ H7 s7 m} I7 hm w7=>by
     refine⟨m,hm,i+1,σ6,H7,I7.Oj,k6,T.keep _ _ _ st5 λb hb o e=>(I7.pin (b,o) (jb _ (jb _ (Lp hb e)))).1,λb hb=>?_,w7⟩;obtain⟨o,e,d⟩:=T.obj _ _ st5 b hb;exact(I7.pin (b,o) (jb _ (jb _ (Lp hb e)))).2.1
    have tests:wpAny (model X.prog X.w) X.A (forIn ifs true λc r=>if r=true then do let ok <- isTrue c (compEnvC scope (cellsFrom (s.heap.objs.size+1+1) scope.names (Dz X.env.cells scope.names [])) (s.heap.objs.size+1) X.env) (eval c (compEnvC scope (cellsFrom (s.heap.objs.size+1+1) scope.names (Dz X.env.cells scope.names [])) (s.heap.objs.size+1) X.env));pure (ForInStep.yield ok) else pure (ForInStep.yield r))
     (TP (Nf X N scope (s.heap.objs.size+1) fp s H) ([]++Th fp s5.heap) σ6 λb H3 =>
      if b=true then te σ6 H3 λv H4=>∃xs m',H4 s.heap.objs.size=some (.lst xs)/\xs.length<sizeLine/\m'<n/\W (i+1) m' (upd H4 s.heap.objs.size (.lst (xs++[v]))) else ∃m',m'<n/\W (i+1) m' H3) (λ_ _=>False) s6:=by
     rcases hc (s.heap.objs.size+1) s H with⟨rfl,rfl⟩|⟨c,rfl,hpt⟩
     . exact wpAny_tests_nil ⟨H6,I6,q6⟩
     . exact wpAny_tests_one (hpt _ s6 σ6 H6 _ I6 q6)
    refine Bq tests λok s7 ⟨H7,I7,q7⟩=>?_
    cases ok with
    |false =>
     obtain⟨m',hm,w7⟩:=(show ∃m',m'<n/\W (i+1) m' H7 from q7);exact again (aha:=[]) I7 hm w7
    |true =>
     show wpAny _ _ _ _ _ _;refine Bq (he _ _ _ _ s7 σ6 H7 _ I7 q7) λx s8 ⟨v,H8,I8,r8,xs,m',hD,hl,hm,w8⟩=>?_
     refine Bq (Yz _ s8 σ6 H8 (.ref s.heap.objs.size) [v] (.ref s.heap.objs.size) [x] (λ_ H'=>W (i+1) m' H') I8 rfl (.cons r8 .nil) ⟨_,xs,v,rfl,rfl,hD,hl,w8⟩) λ_ s9 ⟨_,H9,I9,_,w9⟩=>?_
     exact again (aha:=[]) I9 hm w9
 rw[<- eh,hsz];exact codeAny_compStart_list (loop _ rfl) (T.self _ 0 _ _ _ (T.keep 0 _ _ h0 (λb _ o e=>old b o e)) (loop _ rfl))
def ahq(B:Fi X N scope)(Ji:X.calm=true)(hi:PI X tg iter wi)(hg:∀C fp s H,PG (Nf X N scope C fp s H) tg g)(hc:∀C fp s H,PTs (Nf X N scope C fp s H) ifs tc)(he:∀C fp s H,PE (Nf X N scope C fp s H) elt te)(hs:∀x,foldedSetIterable iter X.env x=pure x):PE X (.ListComp elt [⟨tg,iter,ifs,0⟩] scope pos) (ac0 (N.length-X.N.length) wi g tc te):=by intro pins s σ H Q I h;rw[eval_ListComp];refine wpAny_comprehension_free (use:=none) rfl hs (B.clos I.ok) B.kind B.locs (Bq (hi pins s σ H _ I h) λv s1 h1=>Bq h1 λitv s2 h2=>?_);obtain⟨it,fp,tn,J,H2,rfl,I2,T,st2,f2,q2⟩:=h2;obtain⟨W,⟨m0,w0⟩,turn⟩:=q2 s2.heap.objs.size (I2.An.fresh (bw _));refine Wg (RR:=λacc C=>compPost (model X.prog X.w) X.A X.xe none (EP X pins σ Q) acc C) B Ji I2 f2 T st2 (λC s H=>hg C fp s H) (λC s H=>hc C fp s H) (λC s H=>he C fp s H) W w0 turn ?_;intro σ3 H3 s3 I3 q3;obtain⟨J3,m,hn⟩:=Y4 I2 f2 I3;exact⟨m,hn,λh' Pj=>⟨.ref s2.heap.objs.size,H3,aka I2 J3 I3.free Pj,rfl,q3⟩⟩
set_option tactic.hygienic true in
def ahr(B:Fi X N scope)(Ji:X.calm=true)(hi:PI X tg iter wi)(hg:∀C fp s H,PG (Nf X N scope C fp s H) tg g)(hc:∀C fp s H,PTs (Nf X N scope C fp s H) ifs tc)(he:∀C fp s H,PE (Nf X N scope C fp s H) elt te)(hs:∀x,foldedSetIterable iter X.env x=pure x)(hN:X.N.Nodup)(hy:X.N[i]?=some y)(hl:X.env.scope.names.lookup y=some .local)(hsw:swapsWith (.ListComp elt [⟨tg,iter,ifs,0⟩] scope pos) (some (.Name y py)) aoh.line X.env=pure true) :
 PS X (.Assign [.Name y py] (.ListComp elt [⟨tg,iter,ifs,0⟩] scope pos) aoh) (ay8 (ac0 (N.length-X.N.length) wi g tc te) (ahb i)):=by
 intro pins s σ H D I h;rw[exec_Assign_Name_used _ _ _ _ hsw];refine aa (wpAny_standAt (aa ?_));show wpAny _ _ (do let _ <- comprehension (.ListComp elt [⟨tg,iter,ifs,0⟩] scope pos) scope X.env _ (newList []) false (eval iter X.env) (some (assign (.Name y py) X.env))) _ _ s;refine aa (lz (wpAny_comprehension_free (use:=some (assign (.Name y py) X.env)) (Q:=λ_ s'=>SP X pins D .next s') rfl hs (B.clos I.ok) B.kind B.locs
  (Bq (hi pins s σ H _ I h) λv s1 h1=>Bq h1 λitv s2 h2=>?_)) (λ_ s' hq=>aj (aj hq)) λ_ _ e=>e)
 obtain⟨it,fp,tn,J,H2,rfl,I2,T,st2,f2,q2⟩:=h2;obtain⟨W,⟨m0,w0⟩,turn⟩:=q2 s2.heap.objs.size (I2.An.fresh (bw _));refine Wg (RR:=λacc C=>compPost (model X.prog X.w) X.A X.xe (some (assign (.Name y py) X.env)) (λ_ s'=>SP X pins D .next s') acc C) (Q:=λx H1=>ahb i x σ H1 D.nx) B Ji I2 f2 T st2 (λC s H=>hg C fp s H) (λC s H=>hc C fp s H) (λC s H=>he C fp s H) W w0 turn ?_;intro σ3 H3 s3 I3 q3;obtain⟨J3,m,hn⟩:=Y4 I2 f2 I3;have hC3:=I3.free;obtain⟨oC,_,_,hoC,hdC,_⟩:=id hn;have big:∀b o,s2.heap.get? b=some o->b≠s2.heap.objs.size+1:=λb o e z=>by have:=az e;rw[z] at this;exact absurd this (Nat.not_lt.mpr (u0 _))
 have neL:s2.heap.objs.size+1≠X.env.locals:=λe=>by obtain⟨m,⟨o,_,_,ho,_⟩,_⟩:=I2.loc;exact big _ o ho e.symm
 have J4:Inv X (pins++[(s2.heap.objs.size+1,oC)]) σ H3 s3:=J3.Rg λp hp=>by
  rcases dm.mp hp with q|q
  . exact J3.pin p (jb _ q)
  . have e:p=(s2.heap.objs.size+1,oC):=by simpa using q
    subst e;refine⟨hoC,hC3,neL,λhb=>?_,λv z=>by rw[hdC] at z;cases z⟩;exact I2.ayo (u0 _) hb
 show wpAny (model X.prog X.w) X.A (assign (.Name y py) X.env (.ref s2.heap.objs.size)) _ _ s3;refine Bq (aao (pos:=py) hN hy (.inl hl) (.inr hl) (pins++[(s2.heap.objs.size+1,oC)]) s3 σ H3 (.ref s2.heap.objs.size) (.ref s2.heap.objs.size) D.nx J4 rfl q3) λ_ s4 ⟨σ4,H4,I4,q4⟩=>?_
 have pC:=I4.pin (s2.heap.objs.size+1,oC) (jb _ (jb _ (by simp)));refine⟨m,hn.at' λo e=>by rw[hoC] at e;cases e;exact pC.1,λh' Pj=>⟨σ4,H4,?_,q4⟩⟩;refine(I4.Oj).turned (t':=s4.toks) (λb o hb e=>Pj.extBut b o hb e) pC.2.1 neL (.inr (gm I2.sz (u0 _))) ?_ ?_
 . intro x c hc
   obtain⟨v,o,ho,_⟩:=I2.cell x c hc;exact big c o ho
 . intro p hp
   exact big p.1 p.2 (I2.pin p hp).1
end L2
namespace Sm
open PySem L2
open MW (Ex Dl OEx Pr Bu o6 Lv Tg Res cz MO Ir Cp Op2 Blt Bm Kx)
abbrev Dv:=MW.D
abbrev En:=MW.Env
structure Io where
 l:List Addr
 δ:List Addr
noncomputable def Io.add(ι:Io)(p:Addr):Io:=⟨ι.l++[p],ι.δ⟩
noncomputable def Io.hide(ι:Io)(p:Addr):Io:=⟨ι.l,p::ι.δ⟩
def Io.off(ι:Io)(a:Addr):Prop:=a∉ι.l/\a∉ι.δ
def af1(K:Fg)(H:Hp)(a:Addr)(vs:List V):Prop :=
 (∃o,H a=some (.Jv o (.lst vs))) \/
  ∃(o:Obj)(yf:U1)(n:Nat),K.lookup a=some o/\o.cls=.type "list"/\o.dict=none/\o.data=.seq yf n/\yf.size<=sizeLine/\Vals vs yf.toList
def af1.sq(h:af1 K H a vs):Hf K H a vs:=by
 rcases h with⟨o,h⟩|h
 . exact .inl (.inr ⟨o,h⟩)
 . exact .inr h
mutual
inductive Rep(K:Fg)(ι:Io)(H:Hp):Dv->V->Prop
 |non:Rep K ι H .non .non
 |bl (b:Bool):Rep K ι H (.bl b) (.bl b)
 |int (i:Int):Rep K ι H (.int i) (.int i)
 |str (s:Str):Rep K ι H (.str s) (.str s)
 |tup {a:Addr} {ds:List Dv} {vs:List V} (e:H a=some (.tup vs)) (r:j6 K ι H ds vs):Rep K ι H (.tup ds) (.ref a)
 |vl {a:Addr} {ds:List Dv} {vs:List V} (e:H a=some (.lst vs)) (n:ι.off a) (r:j6 K ι H ds vs):Rep K ι H (.vl ds) (.ref a)
 |fz {a:Addr} {ds:List Dv} {vs:List V} (e:af1 K H a vs) (r:j6 K ι H ds vs):Rep K ι H (.fz ds) (.ref a)
 |ref {n:Nat} {a:Addr} (e:ι.l[n]?=some a):Rep K ι H (.ref n) (.ref a)
inductive j6(K:Fg)(ι:Io)(H:Hp):List Dv->List V->Prop
 |nil:j6 K ι H [] []
 |cons {d:Dv} {v:V} {ds:List Dv} {vs:List V} (h:Rep K ι H d v) (t:j6 K ι H ds vs):j6 K ι H (d::ds) (v::vs)
end
structure Le(ι:Io)(H:Hp)(ι':Io)(H':Hp):Prop where
 ext:∃Y,ι'.l=ι.l++Y/\∀a∈Y,H a=none
 del:ι'.δ=ι.δ
 tup:∀a vs,H a=some (.tup vs)->H' a=some (.tup vs)
 Jv:∀a o u,H a=some (.Jv o u)->H' a=some (.Jv o u)
 lst:∀a vs,a∉ι.l->H a=some (.lst vs)->H' a=some (.lst vs)
 dom:∀a,H' a=none->H a=none
def Le.refl(ι:Io)(H:Hp):Le ι H ι H:=⟨⟨[],by simp,by simp⟩,rfl,λ_ _ h=>h,λ_ _ _ h=>h,λ_ _ _ h=>h,λ_ h=>h⟩
def Hg{H H':Hp}(hk:∀a u,H a=some u->∃u',H' a=some u')(h:H' a=none):H a=none:=by
 cases e:H a with
 |none=>rfl|some u=>obtain⟨u',e'⟩:=hk a u e;rw[h] at e';cases e'
def Le.get(l:Le ι H ι' H'){n:Nat}(h:ι.l[n]?=some a):ι'.l[n]?=some a:=by obtain⟨Y,e,_⟩:=l.ext;rw[e,du (ao.mp h).1];exact h
def Le.az1(l:Le ι H ι' H')(h:a∉ι.l)(ha:H a=some o):a∉ι'.l:=by
 obtain⟨Y,e,hy⟩:=l.ext;rw[e];intro m;rcases dm.mp m with q|q
 . exact h q
 . rw[hy a q] at ha;cases ha
def Le.out(l:Le ι H ι' H')(h:ι.off a)(ha:H a=some o):ι'.off a:=⟨l.az1 h.1 ha,by rw[l.del];exact h.2⟩
theorem Le.trans(a:Le ι H ι1 H1)(b:Le ι1 H1 ι2 H2):Le ι H ι2 H2:=by
 obtain⟨Y,e1,h1⟩:=a.ext;obtain⟨Z,e2,h2⟩:=b.ext;refine⟨⟨Y++Z,by rw[e2,e1,Af],λx m=>?_⟩,b.del.trans a.del,λx vs h=>b.tup x vs (a.tup x vs h),λx o u h=>b.Jv x o u (a.Jv x o u h),λx vs n h=>b.lst x vs (a.az1 n h) (a.lst x vs n h),λx h=>a.dom x (b.dom x h)⟩;rcases dm.mp m with q|q
 . exact h1 x q
 . exact a.dom x (h2 x q)
structure LeX(ι:Io)(H:Hp)(ι':Io)(H':Hp):Prop where
 ext:∃Y,ι'.l=ι.l++Y/\∀a∈Y,H a=none
 del:∀a∈ι'.δ,a∈ι.δ\/H a=none
 tup:∀a vs,H a=some (.tup vs)->H' a=some (.tup vs)
 Jv:∀a o u,H a=some (.Jv o u)->H' a=some (.Jv o u)
 lst:∀a vs,a∉ι.l->H a=some (.lst vs)->H' a=some (.lst vs)
def Le.toX(l:Le ι H ι' H'):LeX ι H ι' H':=⟨l.ext,λa h=>.inl (by rw[<- l.del];exact h),l.tup,l.Jv,l.lst⟩
def LeX.get(l:LeX ι H ι' H'){n:Nat}(h:ι.l[n]?=some a):ι'.l[n]?=some a:=by obtain⟨Y,e,_⟩:=l.ext;rw[e,du (ao.mp h).1];exact h
def LeX.out(l:LeX ι H ι' H')(h:ι.off a)(ha:H a=some o):ι'.off a:=by
 obtain⟨Y,e,hy⟩:=l.ext;refine⟨λm=>?_,λm=>?_⟩
 . rw[e] at m
   rcases dm.mp m with q|q
   . exact h.1 q
   . rw[hy a q] at ha;cases ha
 . rcases l.del a m with q|q
   . exact h.2 q
   . rw[q] at ha;cases ha
mutual
theorem Rep.Fj{K:Fg}{ι ι':Io}{H H':Hp}(l:LeX ι H ι' H'):∀{d:Dv}{v:V},Rep K ι H d v->Rep K ι' H' d v
 |_,_,.non=>.non|_,_,.bl b=>.bl b|_,_,.int i=>.int i|_,_,.str s=>.str s|_,_,.tup e r=>.tup (l.tup _ _ e) (j6.Fj l r)|_,_,.vl e n r=>.vl (l.lst _ _ n.1 e) (l.out n e) (j6.Fj l r)
 | _,_,.fz e r=>.fz (by
  rcases e with⟨o,e⟩|e
  . exact .inl ⟨o,l.Jv _ _ _ e⟩
  . exact .inr e) (j6.Fj l r)
 |_,_,.ref e=>.ref (l.get e)
theorem j6.Fj{K:Fg}{ι ι':Io}{H H':Hp}(l:LeX ι H ι' H'):∀{ds:List Dv}{vs:List V},j6 K ι H ds vs->j6 K ι' H' ds vs
 |_,_,.nil=>.nil|_,_,.cons h t=>.cons (Rep.Fj l h) (j6.Fj l t)
end
def Rep.mono(l:Le ι H ι' H')(r:Rep K ι H d v):Rep K ι' H' d v:=r.Fj l.toX
def j6.mono(l:Le ι H ι' H')(r:j6 K ι H ds vs):j6 K ι' H' ds vs:=r.Fj l.toX
theorem j6.length{K:Fg}{ι:Io}{H:Hp}:∀{ds:List Dv}{vs:List V},j6 K ι H ds vs->ds.length=vs.length
 |_,_,.nil=>rfl|_,_,.cons _ t=>by rw[iw,iw,j6.length t]
theorem j6.get{K:Fg}{ι:Io}{H:Hp}:∀{ds:List Dv}{vs:List V}{i:Nat}{d:Dv},j6 K ι H ds vs->ds[i]?=some d->∃v,vs[i]?=some v/\Rep K ι H d v
 |_,_,_,_,.nil,e=>by simp at e|_,_,0,_,.cons h _,e=>by simp at e;subst e;exact⟨_,rfl,h⟩
 |_,_,i+1,d,.cons _ t,e=>by
  obtain⟨v,h1,h2⟩:=j6.get (i:=i) t (by simpa using e);exact⟨v,by simpa using h1,h2⟩
theorem j6.set{K:Fg}{ι:Io}{H:Hp}{d:Dv}{v:V}(r:Rep K ι H d v):∀{ds:List Dv}{vs:List V}(i:Nat),j6 K ι H ds vs->j6 K ι H (ds.set i d) (vs.set i v)
 |_,_,_,.nil=>.nil|_,_,0,.cons _ t=>.cons r t|_,_,i+1,.cons h t=>.cons h (j6.set r i t)
theorem j6.append{K:Fg}{ι:Io}{H:Hp}:∀{ds es:List Dv}{vs us:List V},j6 K ι H ds vs->j6 K ι H es us->j6 K ι H (ds++es) (vs++us)
 |_,_,_,_,.nil,r=>r|_,_,_,_,.cons h t,r=>.cons h (j6.append t r)
theorem j6.drop{K:Fg}{ι:Io}{H:Hp}:∀{ds:List Dv}{vs:List V}(n:Nat),j6 K ι H ds vs->j6 K ι H (ds.drop n) (vs.drop n)
 |_,_,0,r=>r|_,_,_+1,.nil=>.nil|_,_,n+1,.cons _ t=>j6.drop n t
theorem j6.take{K:Fg}{ι:Io}{H:Hp}:∀{ds:List Dv}{vs:List V}(n:Nat),j6 K ι H ds vs->j6 K ι H (ds.take n) (vs.take n)
 |_,_,0,_=>.nil|_,_,_+1,.nil=>.nil|_,_,n+1,.cons h t=>.cons h (j6.take n t)
theorem j6.eraseIdx{K:Fg}{ι:Io}{H:Hp}:∀{ds:List Dv}{vs:List V}(n:Nat),j6 K ι H ds vs->j6 K ι H (ds.eraseIdx n) (vs.eraseIdx n)
 |_,_,_,.nil=>.nil|_,_,0,.cons _ t=>t|_,_,n+1,.cons h t=>.cons h (j6.eraseIdx n t)
theorem j6.ints{K:Fg}{ι:Io}{H:Hp}:∀(ns:Xs),j6 K ι H (ns.map MW.D.int) (ns.map V.int)
 |[]=>.nil|n::r=>.cons (.int n) (j6.ints r)
structure Nm where
 cls:Nat->Option Addr
 fld:Nat->Str
 inj:∀i j,fld i=fld j->i=j
inductive qm{κ κ':Type}(K:Fg)(ι:Io)(H:Hp)(f:κ->κ'->Prop):List (κ×Dv)->List (κ'×V)->Prop
 |nil:qm K ι H f [] []
 |cons {k:κ} {k':κ'} {d:Dv} {v:V} {l:List (κ×Dv)} {l':List (κ'×V)} (hk:f k k') (h:Rep K ι H d v) (t:qm K ι H f l l'):qm K ι H f ((k,d)::l) ((k',v)::l')
theorem qm.mono{κ κ':Type}{K:Fg}{ι ι':Io}{H H':Hp}{f:κ->κ'->Prop}(le:Le ι H ι' H'):∀{l:List (κ×Dv)}{l':List (κ'×V)},qm K ι H f l l'->qm K ι' H' f l l'
 |_,_,.nil=>.nil|_,_,.cons k h t=>.cons k (h.mono le) (qm.mono le t)
def G9(nm:Nm)(K:Fg)(ι:Io)(H:Hp)(o:MO)(a:Addr):Prop :=
 match o with
 |.lst ds=>∃vs,H a=some (.lst vs)/\j6 K ι H ds vs|.dT gq=>∃l,H a=some (.dT l)/\qm K ι H (λk k'=>k=k') gq l
 |.dF gq=>∃l o,H a=some (.Jv o (.dT l))/\qm K ι H (λk k'=>k=k') gq l
 |.dK gq=>∃l,H a=some (.dK l)/\qm K ι H (λk k'=>k=k') gq l
 |.ins c fs=>∃C dx l,nm.cls c=some C/\H a=some (.ins C dx l)/\qm K ι H (λk k'=>k'=nm.fld k) fs l
structure m5(nm:Nm)(K:Fg)(ι:Io)(H:Hp)(M:cz):Prop where
 len:ι.l.length=M.length
 nd:ι.l.Nodup
 del:∀a∈ι.δ,a∉ι.l/\∃vs,H a=some (.lst vs)
 obj:∀(n:Nat)(o:MO)(a:Addr),M[n]?=some o->ι.l[n]?=some a->G9 nm K ι H o a
def Mu:Option HO->Prop
 |some (.Jv _ (.dT _))=>True|u=>Mut u
theorem G9.some(h:G9 nm K ι H o a):∃u,H a=some u/\Mu (H a):=by
 cases o with
 |lst ds=>obtain⟨vs,e,_⟩:=h;exact⟨_,e,by rw[e];trivial⟩
 |dT gq=>obtain⟨vs,e,_⟩:=h;exact⟨_,e,by rw[e];trivial⟩
 |dF gq=>obtain⟨vs,ob,e,_⟩:=h;exact⟨_,e,by rw[e];trivial⟩
 |dK gq=>obtain⟨vs,e,_⟩:=h;exact⟨_,e,by rw[e];trivial⟩
 |ins c fs=>obtain⟨C,dx,l,_,e,_⟩:=h;exact⟨_,e,by rw[e];trivial⟩
def m5.addr(S:m5 nm K ι H M){n:Nat}(h:M[n]?=some o):∃a,ι.l[n]?=some a/\G9 nm K ι H o a:=by
 have hl:n < ι.l.length:=by rw[S.len];exact MW.yj h
 exact⟨ι.l[n],by simp[hl],S.obj n o _ h (by simp[hl])⟩
def m5.mem(S:m5 nm K ι H M)(h:a∈ι.l):∃u,H a=some u/\Mu (H a):=by
 obtain⟨n,hn,rfl⟩:=jo h;have hm:n<M.length:=by rw[<- S.len];exact hn
 exact(S.obj n M[n] ι.l[n] (by simp[hm]) (by simp[hn])).some
def m5.fresh(S:m5 nm K ι H M)(h:H a=none):ι.off a:=by
 refine⟨λm=>?_,λm=>?_⟩
 . obtain⟨u,e,_⟩:=S.mem m
   rw[h] at e;cases e
 . obtain⟨_,vs,e⟩:=S.del a m
   rw[h] at e;cases e
def G9.move(h:G9 nm K ι H o a)(le:Le ι H ι' H')(e:H' a=H a):G9 nm K ι' H' o a:=by
 cases o with
 |lst ds=>obtain⟨vs,q,r⟩:=h;exact⟨vs,e.trans q,r.mono le⟩
 |dT gq=>obtain⟨vs,q,r⟩:=h;exact⟨vs,e.trans q,r.mono le⟩
 |dF gq=>obtain⟨vs,ob,q,r⟩:=h;exact⟨vs,ob,e.trans q,r.mono le⟩
 |dK gq=>obtain⟨vs,q,r⟩:=h;exact⟨vs,e.trans q,r.mono le⟩
 |ins c fs=>obtain⟨C,dx,l,hc,q,r⟩:=h;exact⟨C,dx,l,hc,e.trans q,r.mono le⟩
def m5.laid(S:m5 nm K ι H M)(h:H p=none)(o:HO):m5 nm K ι (upd H p o) M/\Le ι H ι (upd H p o):=by
 have ne:∀a u,H a=some u->a≠p:=λa u e=>km e h
 have le:Le ι H ι (upd H p o):=⟨⟨[],by simp,by simp⟩,rfl,λa vs e=>by rw[j5 (ne a _ e)];exact e,λa _ u e=>by rw[j5 (ne a _ e)];exact e,λa vs _ e=>by rw[j5 (ne a _ e)];exact e,
  λa h'=>Hg (λb u e=>⟨u,by rw[j5 (ne b _ e)];exact e⟩) h'⟩
 refine⟨⟨S.len,S.nd,λa ha=>?_,λn o' a hn ha=>?_⟩,le⟩
 . obtain⟨h1,vs,h2⟩:=S.del a ha
   exact⟨h1,vs,le.lst a vs h1 h2⟩
 . have q:=S.obj n o' a hn ha
   obtain⟨u,e,_⟩:=q.some;exact q.move le (by rw[j5 (ne a u e)])
def Ce{α:Type}{l:List α}{x y:α}(h:(l++[x])[n]?=some y):(l[n]?=some y)\/(n=l.length/\y=x):=by
 rcases Nat.lt_or_ge n l.length with q|q
 . rw[du q] at h;exact .inl h
 . rw[jm q] at h
   have:n-l.length=0:=by
    rcases Nat.eq_zero_or_pos (n-l.length) with z|z
    . exact z
    . rw[rz (by simp;exact z)] at h;cases h
   rw[this] at h;simp at h;exact .inr ⟨by lia,h.symm⟩
def m5.new(S:m5 nm K ι H M)(h:H p=none)(hk:∀a u,H a=some u->H' a=some u)(ho:Le ι H (ι.add p) H'->G9 nm K (ι.add p) H' o p):m5 nm K (ι.add p) H' (M++[o])/\Le ι H (ι.add p) H':=by
 have le:Le ι H (ι.add p) H':=⟨⟨[p],rfl,by simpa using h⟩,rfl,λa vs e=>hk _ _ e,λa _ u e=>hk _ _ e,λa vs _ e=>hk _ _ e,λa h'=>Hg (H:=H) (H':=H') (λb u e=>⟨u,hk b u e⟩) h'⟩;refine⟨⟨by simp[Io.add,S.len],?_,λa ha=>?_,λn o' a hn ha=>?_⟩,le⟩
 . exact yc.mpr ⟨S.nd,by simp,by
    intro x hx y hy;have:y=p:=by simpa using hy
    subst this;intro e;subst e;exact(S.fresh h).1 hx⟩
 . obtain⟨h1,vs,h2⟩:=S.del a ha
   exact⟨le.az1 h1 h2,vs,hk _ _ h2⟩
 . rcases Ce hn with q|⟨q,rfl⟩
   . rcases Ce ha with r|⟨r,_⟩
     . have z:=S.obj n o' a q r
       obtain⟨u,e,_⟩:=z.some;exact z.move le ((hk a u e).trans e.symm)
     . exact absurd (MW.yj q) (by rw[r,S.len];exact ou _)
   . rcases Ce ha with r|⟨_,rfl⟩
     . exact absurd (ao.mp r).1 (by rw[q,S.len];exact ou _)
     . exact ho le
def m5.put(S:m5 nm K ι H M)(hn:M[n]?=some o₀)(ha:ι.l[n]?=some a)(m₀:Mut (H a))(ho:Le ι H ι (upd H a u)->G9 nm K ι (upd H a u) o a):m5 nm K ι (upd H a u) (M.set n o)/\Le ι H ι (upd H a u):=by
 have hm:a∈ι.l:=au ha;have le:Le ι H ι (upd H a u):=⟨⟨[],by simp,by simp⟩,rfl,λb vs e=>by rw[j5 (λz=>by subst z;rw[e] at m₀;exact m₀)];exact e,
  λb _ _ e=>by rw[j5 (λz=>by subst z;rw[e] at m₀;exact m₀)];exact e,λb vs nb e=>by rw[j5 (λz=>by subst z;exact nb hm)];exact e,λb h'=>Hg (λc w e=>by
   by_cases z:c=a
   . exact⟨u,by rw[z,vh]⟩
   . exact⟨w,by rw[j5 z];exact e⟩) h'⟩
 refine⟨⟨by rw[List.length_set];exact S.len,S.nd,λb hb=>?_,λm o' b hm' hb=>?_⟩,le⟩
 . obtain⟨h1,vs,h2⟩:=S.del b hb
   exact⟨h1,vs,le.lst b vs h1 h2⟩
 by_cases q:m=n
 . subst q
   rw[MW.v8 hn] at hm';cases hm';rw[ha] at hb;cases hb;exact ho le
 . rw[MW.uq (j0 q)] at hm'
   have z:=S.obj m o' b hm' hb;have nb:b≠a:=λe=>by subst e;obtain⟨l1,e1⟩:=ao.mp hb;obtain⟨l2,e2⟩:=ao.mp ha;exact q ((Aq S.nd).mp (e1.trans e2.symm))
   exact z.move le (by rw[j5 nb])
mutual
theorem Rep.hide{K:Fg}{ι:Io}{H:Hp}{D:Addr}{o:HO}(hD:H D=none):∀{d:Dv}{v:V},Rep K ι H d v->Rep K (ι.hide D) (upd H D o) d v
 |_,_,.non=>.non|_,_,.bl b=>.bl b|_,_,.int i=>.int i|_,_,.str s=>.str s|_,_,.tup e r=>.tup (by rw[j5 (km e hD)];exact e) (j6.hide hD r)
 | _,_,.vl e n r=>.vl (by rw[j5 (km e hD)];exact e) ⟨n.1,λm=>by
  rcases bz.mp m with q|q
  . exact km e hD q
  . exact n.2 q⟩ (j6.hide hD r)
 | _,_,.fz e r=>.fz (by
  rcases e with⟨q,e⟩|e
  . exact .inl ⟨q,by rw[j5 (km e hD)];exact e⟩
  . exact .inr e) (j6.hide hD r)
 |_,_,.ref e=>.ref e
theorem j6.hide{K:Fg}{ι:Io}{H:Hp}{D:Addr}{o:HO}(hD:H D=none):∀{ds:List Dv}{vs:List V},j6 K ι H ds vs->j6 K (ι.hide D) (upd H D o) ds vs
 |_,_,.nil=>.nil|_,_,.cons h t=>.cons (Rep.hide hD h) (j6.hide hD t)
end
mutual
theorem Rep.grow{K:Fg}{ι:Io}{H:Hp}{D:Addr}{vs ws:List V}(hD:H D=some (.lst vs))(hm:D∈ι.δ):∀{d:Dv}{v:V},Rep K ι H d v->Rep K ι (upd H D (.lst ws)) d v
 |_,_,.non=>.non|_,_,.bl b=>.bl b|_,_,.int i=>.int i|_,_,.str s=>.str s|_,_,.tup e r=>.tup (by rw[j5 (ag8 e hD (by intro z;cases z))];exact e) (j6.grow hD hm r)|_,_,.vl e n r=>.vl (by rw[j5 (λz=>by subst z;exact n.2 hm)];exact e) n (j6.grow hD hm r)
 | _,_,.fz e r=>.fz (by
  rcases e with⟨q,e⟩|e
  . exact .inl ⟨q,by rw[j5 (ag8 e hD (by intro z;cases z))];exact e⟩
  . exact .inr e) (j6.grow hD hm r)
 |_,_,.ref e=>.ref e
theorem j6.grow{K:Fg}{ι:Io}{H:Hp}{D:Addr}{vs ws:List V}(hD:H D=some (.lst vs))(hm:D∈ι.δ):∀{ds:List Dv}{us:List V},j6 K ι H ds us->j6 K ι (upd H D (.lst ws)) ds us
 |_,_,.nil=>.nil|_,_,.cons h t=>.cons (Rep.grow hD hm h) (j6.grow hD hm t)
end
mutual
theorem Rep.show{K:Fg}{ι:Io}{H:Hp}{D:Addr}:∀{d:Dv}{v:V},Rep K (ι.hide D) H d v->Rep K ι H d v
 |_,_,.non=>.non|_,_,.bl b=>.bl b|_,_,.int i=>.int i|_,_,.str s=>.str s|_,_,.tup e r=>.tup e (j6.show r)
 |_,_,.vl e n r=>.vl e ⟨n.1,λm=>n.2 (bu _ m)⟩ (j6.show r)
 |_,_,.fz e r=>.fz e (j6.show r)
 |_,_,.ref e=>.ref e
theorem j6.show{K:Fg}{ι:Io}{H:Hp}{D:Addr}:∀{ds:List Dv}{vs:List V},j6 K (ι.hide D) H ds vs->j6 K ι H ds vs
 |_,_,.nil=>.nil|_,_,.cons h t=>.cons (Rep.show h) (j6.show t)
end
theorem qm.map{κ κ':Type}{K:Fg}{ι ι':Io}{H H':Hp}{f:κ->κ'->Prop}(g:∀d v,Rep K ι H d v->Rep K ι' H' d v):∀{l:List (κ×Dv)}{l':List (κ'×V)},qm K ι H f l l'->qm K ι' H' f l l'
 |_,_,.nil=>.nil|_,_,.cons k h t=>.cons k (g _ _ h) (qm.map g t)
theorem j6.map{K:Fg}{ι ι':Io}{H H':Hp}(g:∀d v,Rep K ι H d v->Rep K ι' H' d v):∀{l:List Dv}{l':List V},j6 K ι H l l'->j6 K ι' H' l l'
 |_,_,.nil=>.nil|_,_,.cons h t=>.cons (g _ _ h) (j6.map g t)
theorem G9.map(g:∀d v,Rep K ι H d v->Rep K ι' H' d v)(h:G9 nm K ι H o a)(e:H' a=H a):G9 nm K ι' H' o a:=by
 cases o with
 |lst ds=>obtain⟨vs,q,r⟩:=h;exact⟨vs,e.trans q,r.map g⟩
 |dT gq=>obtain⟨vs,q,r⟩:=h;exact⟨vs,e.trans q,r.map g⟩
 |dF gq=>obtain⟨vs,ob,q,r⟩:=h;exact⟨vs,ob,e.trans q,r.map g⟩
 |dK gq=>obtain⟨vs,q,r⟩:=h;exact⟨vs,e.trans q,r.map g⟩
 |ins c fs=>obtain⟨C,dx,l,hc,q,r⟩:=h;exact⟨C,dx,l,hc,e.trans q,r.map g⟩
theorem m5.hide(S:m5 nm K ι H M)(hD:H D=none):m5 nm K (ι.hide D) (upd H D (.lst [])) M:=by
 refine⟨S.len,S.nd,λa ha=>?_,λn o a hn ha=>?_⟩
 . rcases bz.mp ha with q|q
   . subst q;exact⟨(S.fresh hD).1,[],vh⟩
   . obtain⟨h1,vs,h2⟩:=S.del a q
     exact⟨h1,vs,by rw[j5 (km h2 hD)];exact h2⟩
 . have z:=S.obj n o a hn ha
   obtain⟨u,e,_⟩:=z.some;exact z.map (λd v r=>r.hide hD) (by rw[j5 (km e hD)])
theorem m5.grow(S:m5 nm K ι H M)(hD:H D=some (.lst vs))(hm:D∈ι.δ):m5 nm K ι (upd H D (.lst ws)) M:=by
 refine⟨S.len,S.nd,λa ha=>?_,λn o a hn ha=>?_⟩
 . obtain⟨h1,us,h2⟩:=S.del a ha
   by_cases z:a=D
   . subst z;exact⟨h1,ws,vh⟩
   . exact⟨h1,us,by rw[j5 z];exact h2⟩
 . have z:=S.obj n o a hn ha
   have ne:a≠D:=λe=>by subst e;exact(S.del a hm).1 (au ha)
   exact z.map (λd v r=>r.grow hD hm) (by rw[j5 ne])
theorem m5.show(S:m5 nm K (ι.hide D) H M):m5 nm K ι H M :=
 ⟨S.len,S.nd,λa ha=>S.del a (bu _ ha),λn o a hn ha=>(S.obj n o a hn ha).map (λd v r=>r.show) rfl⟩
structure LeD(D:Addr)(ι:Io)(H:Hp)(ι':Io)(H':Hp):Prop where
 ext:∃Y,ι'.l=ι.l++Y/\∀a∈Y,H a=none
 del:ι'.δ=D::ι.δ
 tup:∀a vs,H a=some (.tup vs)->H' a=some (.tup vs)
 Jv:∀a o u,H a=some (.Jv o u)->H' a=some (.Jv o u)
 lst:∀a vs,a∉ι.l->H a=some (.lst vs)->H' a=some (.lst vs)
 dom:∀a,H' a=none->H a=none
def LeD.toX(l:LeD D ι H ι' H')(hD:H D=none):LeX ι H ι' H':=⟨l.ext,λa h=>by
 rw[l.del] at h;rcases bz.mp h with q|q
 . exact .inr (by rw[q];exact hD)
 . exact .inl q,l.tup,l.Jv,l.lst⟩
def LeD.start(hD:H D=none)(o:HO):LeD D ι H (ι.hide D) (upd H D o) :=
 ⟨⟨[],by simp[Io.hide],by simp⟩,rfl,λa vs e=>by rw[j5 (km e hD)];exact e,λa _ _ e=>by rw[j5 (km e hD)];exact e,λa vs _ e=>by rw[j5 (km e hD)];exact e,
  λa h'=>Hg (λb u e=>⟨u,by rw[j5 (km e hD)];exact e⟩) h'⟩
def LeD.go(a:LeD D ι H ι1 H1)(b:Le ι1 H1 ι2 H2):LeD D ι H ι2 H2:=by
 obtain⟨Y,e1,h1⟩:=a.ext;obtain⟨Z,e2,h2⟩:=b.ext;have out:∀x o,x∉ι.l->H x=some o->x∉ι1.l:=λx o n h m=>by
  rw[e1] at m;rcases dm.mp m with q|q
  . exact n q
  . rw[h1 x q] at h;cases h
 refine⟨⟨Y++Z,by rw[e2,e1,Af],λx m=>?_⟩,b.del.trans a.del,λx vs h=>b.tup x vs (a.tup x vs h),λx o u h=>b.Jv x o u (a.Jv x o u h),λx vs n h=>b.lst x vs (out x _ n h) (a.lst x vs n h),λx h=>a.dom x (b.dom x h)⟩;rcases dm.mp m with q|q
 . exact h1 x q
 . exact a.dom x (h2 x q)
def LeD.grow(a:LeD D ι H ι1 H1)(h0:H D=none)(hD:H1 D=some (.lst vs)):LeD D ι H ι1 (upd H1 D (.lst ws)) :=
 ⟨a.ext,a.del,λx us h=>by rw[j5 (km h h0)];exact a.tup x us h,λx o u h=>by rw[j5 (km h h0)];exact a.Jv x o u h,λx us n h=>by rw[j5 (km h h0)];exact a.lst x us n h,
  λx h=>a.dom x (by
   by_cases z:x=D
   . rw[z,vh] at h;cases h
   . rw[j5 z] at h;exact h)⟩
def LeD.done(a:LeD D ι H ⟨ι1.l,D::ι1.δ⟩ H1):Le ι H ι1 H1 :=
 ⟨a.ext,(List.cons.inj a.del).2,a.tup,a.Jv,a.lst,a.dom⟩
inductive uv(K:Fg)(ι:Io)(H:Hp):En->St->Prop
 |nil:uv K ι H [] []
 |skp {y:Option V} {ρ:En} {σ:St} (t:uv K ι H ρ σ):uv K ι H (none::ρ) (y::σ)
 |has {d:Dv} {v:V} {ρ:En} {σ:St} (h:Rep K ι H d v) (t:uv K ι H ρ σ):uv K ι H (some d::ρ) (some v::σ)
theorem uv.Fj{K:Fg}{ι ι':Io}{H H':Hp}(le:LeX ι H ι' H'):∀{ρ:En}{σ:St},uv K ι H ρ σ->uv K ι' H' ρ σ
 |_,_,.nil=>.nil|_,_,.skp t=>.skp (uv.Fj le t)|_,_,.has h t=>.has (h.Fj le) (uv.Fj le t)
theorem uv.mono{K:Fg}{ι ι':Io}{H H':Hp}(le:Le ι H ι' H'):∀{ρ:En}{σ:St},uv K ι H ρ σ->uv K ι' H' ρ σ
 |_,_,.nil=>.nil|_,_,.skp t=>.skp (uv.mono le t)|_,_,.has h t=>.has (h.mono le) (uv.mono le t)
theorem uv.get{K:Fg}{ι:Io}{H:Hp}:∀{ρ:En}{σ:St}{i:Nat}{d:Dv},uv K ι H ρ σ->ρ[i]?=some (some d)->∃v,σ[i]?=some (some v)/\Rep K ι H d v
 |_,_,_,_,.nil,e=>by simp at e|_,_,0,_,.skp _,e=>by simp at e|_,_,0,_,.has h _,e=>by simp at e;subst e;exact⟨_,rfl,h⟩
 |_,_,i+1,d,.skp t,e=>by
  obtain⟨v,h1,h2⟩:=uv.get (i:=i) t (by simpa using e);exact⟨v,by simpa using h1,h2⟩
 |_,_,i+1,d,.has _ t,e=>by
  obtain⟨v,h1,h2⟩:=uv.get (i:=i) t (by simpa using e);exact⟨v,by simpa using h1,h2⟩
theorem uv.set{K:Fg}{ι:Io}{H:Hp}{d:Dv}{v:V}(r:Rep K ι H d v):∀{ρ:En}{σ:St}(i:Nat),uv K ι H ρ σ->uv K ι H (ρ.set i (some d)) (σ.set i (some v))
 |_,_,_,.nil=>.nil|_,_,0,.skp t=>.has r t|_,_,0,.has _ t=>.has r t|_,_,i+1,.skp t=>.skp (uv.set r i t)|_,_,i+1,.has h t=>.has h (uv.set r i t)
theorem uv.length{K:Fg}{ι:Io}{H:Hp}:∀{ρ:En}{σ:St},uv K ι H ρ σ->ρ.length=σ.length
 |_,_,.nil=>rfl|_,_,.skp t=>by rw[iw,iw,uv.length t]|_,_,.has _ t=>by rw[iw,iw,uv.length t]
theorem uv.append{K:Fg}{ι:Io}{H:Hp}:∀{ρ ρ':En}{σ σ':St},uv K ι H ρ σ->uv K ι H ρ' σ'->uv K ι H (ρ++ρ') (σ++σ')
 |_,_,_,_,.nil,r=>r|_,_,_,_,.skp t,r=>.skp (uv.append t r)|_,_,_,_,.has h t,r=>.has h (uv.append t r)
theorem uv.aoi{K:Fg}{ι:Io}{H:Hp}:∀(k:Nat){σ:St},σ.length=k->uv K ι H (List.replicate k none) σ
 |0,[],_=>.nil|k+1,_::r,h=>.skp (uv.aoi k (by simpa using h))
theorem uv.aoj{K:Fg}{ι:Io}{H:Hp}:∀{ds:List Dv}{vs:List V},j6 K ι H ds vs->uv K ι H (ds.map some) (vs.map some)
 |_,_,.nil=>.nil|_,_,.cons h t=>.has h (uv.aoj t)
def dz{r:Res α}(h:r.bind f=.ok b M):∃a M1,r=.ok a M1/\f a M1=.ok b M:=by
 cases r with
 |ok a M1=>exact⟨a,M1,rfl,h⟩|err c M1=>cases h|bad=>cases h
def w5(h:Res.uo o M=.ok a M'):o=some a/\M'=M:=by
 cases o with
 |none=>cases h|some x=>cases h;exact⟨rfl,rfl⟩
def PE.weak(h:PE X e t)(w:∀σ H Q,t' σ H Q->t σ H Q):PE X e t':=λpins s σ H Q I q=>h pins s σ H Q I (w σ H Q q)
def PT.weak(h:PT X e t)(w:∀σ H Q,t' σ H Q->t σ H Q):PT X e t':=λpins s σ H Q I q=>h pins s σ H Q I (w σ H Q q)
def PA.weak(h:PA X es t)(w:∀σ H Q,t' σ H Q->t σ H Q):PA X es t':=λpos pins s σ H Q I q=>h pos pins s σ H Q I (w σ H Q q)
def PS.weak(h:PS X e t)(w:∀D σ H,t' D σ H->t D σ H):PS X e t':=λpins s σ H D I q=>h pins s σ H D I (w D σ H q)
def Rh.weak(h:Rh X e t)(w:∀D σ H,t' D σ H->t D σ H):Rh X e t':=λpins s σ H D I q=>h pins s σ H D I (w D σ H q)
def Dh.weak(h:Dh X f r)(w:∀x y H Q,r' x y H Q->r x y H Q):Dh X f r':=λpins s σ H x y v u Q I rx ry q=>h pins s σ H x y v u Q I rx ry (w x y H Q q)
section
variable(nm:Nm)(W:Ir)(K:Fg)
def tE(e:Ex):TE:=fun σ H Q=>∃ι ρ M d M',m5 nm K ι H M/\uv K ι H ρ σ/\e.den W ρ M=.ok d M'/\∀ι' H' v,Le ι H ι' H'->m5 nm K ι' H' M'->Rep K ι' H' d v->Q v H'
def tQ(e:Ex):TT:=fun σ H Q=>∃ι ρ M b M',m5 nm K ι H M/\uv K ι H ρ σ/\e.den W ρ M=.ok (.bl b) M'/\∀ι' H',Le ι H ι' H'->m5 nm K ι' H' M'->Q b H'
def Xh(es:Dl):TA:=fun σ H Q=>∃ι ρ M ds M',m5 nm K ι H M/\uv K ι H ρ σ/\es.den W ρ M=.ok ds M'/\∀ι' H' vs,Le ι H ι' H'->m5 nm K ι' H' M'->j6 K ι' H' ds vs->Q vs H'
def Wh(D:Ends)(ι:Io)(H:Hp)(fl:MW.Flow)(ρ:En)(M:cz):Prop :=
 ∀ι' H' σ',Le ι H ι' H'->m5 nm K ι' H' M->uv K ι' H' ρ σ' ->
  match fl with
  |.next=>D.nx σ' H'|.brk=>D.bk σ' H'|.cont=>D.ct σ' H'|.ret d=>∀v,Rep K ι' H' d v->D.rt v H'
def tS(st:Bu):TS:=λD σ H=>∃ι ρ M fl ρ' M',m5 nm K ι H M/\uv K ι H ρ σ/\st.den W ρ M=.ok (fl,ρ') M'/\Wh nm K D ι H fl ρ' M'
def tSs(st:o6):TS:=λD σ H=>∃ι ρ M fl ρ' M',m5 nm K ι H M/\uv K ι H ρ σ/\st.den W ρ M=.ok (fl,ρ') M'/\Wh nm K D ι H fl ρ' M'
end
def PE.of(h:PE X a t)(w:∀σ H Q ι ρ M d M',m5 nm X.K ι H M->uv X.K ι H ρ σ->e'.den W ρ M=.ok d M'->(∀ι' H' v,Le ι H ι' H'->m5 nm X.K ι' H' M'->Rep X.K ι' H' d v->Q v H')->t σ H Q):PE X a (tE nm W X.K e'):=PE.weak h fun σ H Q ⟨ι,ρ,M,d,M',S,R,e,q⟩=>w σ H Q ι ρ M d M' S R e q
def PT.of(h:PT X a t)(w:∀σ H Q ι ρ M b M',m5 nm X.K ι H M->uv X.K ι H ρ σ->e'.den W ρ M=.ok (.bl b) M'->(∀ι' H',Le ι H ι' H'->m5 nm X.K ι' H' M'->Q b H')->t σ H Q):PT X a (tQ nm W X.K e'):=PT.weak h fun σ H Q ⟨ι,ρ,M,d,M',S,R,e,q⟩=>w σ H Q ι ρ M d M' S R e q
def PA.of(h:PA X es t)(w:∀σ H Q ι ρ M ds M',m5 nm X.K ι H M->uv X.K ι H ρ σ->es'.den W ρ M=.ok ds M'->(∀ι' H' vs,Le ι H ι' H'->m5 nm X.K ι' H' M'->j6 X.K ι' H' ds vs->Q vs H')->t σ H Q):PA X es (Xh nm W X.K es'):=PA.weak h fun σ H Q ⟨ι,ρ,M,d,M',S,R,e,q⟩=>w σ H Q ι ρ M d M' S R e q
def PS.of(h:PS X st t)(w:∀D σ H ι ρ M fl ρ' M',m5 nm X.K ι H M->uv X.K ι H ρ σ->s'.den W ρ M=.ok (fl,ρ') M'->Wh nm X.K D ι H fl ρ' M'->t D σ H):PS X st (tS nm W X.K s'):=PS.weak h λD σ H ⟨ι,ρ,M,fl,ρ',M',S,R,e,q⟩=>w D σ H ι ρ M fl ρ' M' S R e q
def Rh.of(h:Rh X st t)(w:∀D σ H ι ρ M fl ρ' M',m5 nm X.K ι H M->uv X.K ι H ρ σ->s'.den W ρ M=.ok (fl,ρ') M'->Wh nm X.K D ι H fl ρ' M'->t D σ H):Rh X st (tSs nm W X.K s'):=Rh.weak h λD σ H ⟨ι,ρ,M,fl,ρ',M',S,R,e,q⟩=>w D σ H ι ρ M fl ρ' M' S R e q
def one{X:Cx}{M1:cz}(S:m5 nm X.K ι H M)(R:uv X.K ι H ρ σ)(ha:a'.den W ρ M=.ok x M1)(h:∀ι1 H1 v,Le ι H ι1 H1->m5 nm X.K ι1 H1 M1->uv X.K ι1 H1 ρ σ->Rep X.K ι1 H1 x v->G v H1):tE nm W X.K a' σ H G :=
 ⟨ι,ρ,M,x,M1,S,R,ha,fun ι' H' v le S' r=>h ι' H' v le S' (R.mono le) r⟩
theorem two{X:Cx}{M1 M2:cz}{G:V->V->Hp->Prop}(S:m5 nm X.K ι H M)(R:uv X.K ι H ρ σ)(ha:a'.den W ρ M=.ok x M1)(hb:b'.den W ρ M1=.ok y M2)(h:∀ι2 H2 v u,Le ι H ι2 H2->m5 nm X.K ι2 H2 M2->uv X.K ι2 H2 ρ σ->Rep X.K ι2 H2 x v->Rep X.K ι2 H2 y u->G v u H2) :
 tE nm W X.K a' σ H λv H1=>tE nm W X.K b' σ H1 λu H2=>G v u H2 :=
 one S R ha fun ι1 H1 v Vb S1 R1 r1=>one S1 R1 hb fun ι2 H2 u zg S2 R2 r2=>h ι2 H2 v u (Vb.trans zg) S2 R2 (r1.mono zg) r2
set_option tactic.hygienic true in
def a69(hN:X.N[i]?=some n)(hv:Vis X.env.scope n)(hd:(n==("__debug__" : Str))=false)(hcd:(n==("__classdict__" : Str))=false):PE X (.Name n pos) (tE nm W X.K (.var i)) :=
 PE.of (ayq hN hv hd hcd) fun σ H Q ι ρ M d M' S R e q=>by
  rw[MW.O8] at e;split at e
  . rename_i d' hd
    cases e;obtain⟨v,h1,h2⟩:=R.get hd;exact⟨v,h1,q ι H v (Le.refl _ _) S h2⟩
  . cases e
def a7a:PE X (.Constant (.int i) j pos) (tE nm W X.K (.cst (.int i))) :=
 PE.of ayr fun σ H Q ι ρ M d M' S R e q=>by rw[MW.Q6] at e;cases e;exact q ι H _ (Le.refl _ _) S (.int i)
def bdr:PE X (.Constant (.bool i) j pos) (tE nm W X.K (.cst (.bl i))) :=
 PE.of a5h fun σ H Q ι ρ M d M' S R e q=>by rw[MW.Q6] at e;cases e;exact q ι H _ (Le.refl _ _) S (.bl i)
def a7b:PE X (.Constant .none j pos) (tE nm W X.K (.cst .non)) :=
 PE.of ays fun σ H Q ι ρ M d M' S R e q=>by rw[MW.Q6] at e;cases e;exact q ι H _ (Le.refl _ _) S .non
def a7c:PE X (.Constant (.str i) j pos) (tE nm W X.K (.cst (.str i))) :=
 PE.of ayt fun σ H Q ι ρ M d M' S R e q=>by rw[MW.Q6] at e;cases e;exact q ι H _ (Le.refl _ _) S (.str i)
def az2(hg:Gl X n)(hm:X.mg n=some (.int i t))(hd:(n==("__debug__" : Str))=false):PE X (.Name n pos) (tE nm W X.K (.cst (.int i))) :=
 PE.of (as4 (v:=.int i) hg hm ⟨t,rfl⟩ hd) fun σ H Q ι ρ M d M' S R e q=>by rw[MW.Q6] at e;cases e;exact q ι H _ (Le.refl _ _) S (.int i)
def rOp(nm:Nm)(K:Fg)(f:Dv->Dv->cz->Res Dv):R2:=λv u H Q=>∃ι M x y d M',m5 nm K ι H M/\Rep K ι H x v/\Rep K ι H y u/\f x y M=.ok d M' /\
 ∀ι' H' w,Le ι H ι' H'->m5 nm K ι' H' M'->Rep K ι' H' d w->Q w H'
def Dh.of(h:Dh X f r)(w:∀v u H Q ι M x y d M',m5 nm X.K ι H M->Rep X.K ι H x v->Rep X.K ι H y u->g x y M=.ok d M'->(∀ι' H' w,Le ι H ι' H'->m5 nm X.K ι' H' M'->Rep X.K ι' H' d w->Q w H')->r v u H Q):Dh X f (rOp nm X.K g) :=
 Dh.weak h λv u H Q ⟨ι,M,x,y,d,M',S,rv,ru,e,q⟩=>w v u H Q ι M x y d M' S rv ru e q
def a7d(ho:Dh X (binaryOp op) (rOp nm X.K (MW.Dm op')))(ha:PE X a (tE nm W X.K a'))(hb:PE X b (tE nm W X.K b')):PE X (.BinOp a op b pos) (tE nm W X.K (.bin op' a' b')) :=
 PE.of (a5x ho ha hb) fun σ H Q ι ρ M d M' S R e q=>by rw[MW.Ky] at e;obtain⟨x,M1,e1,e⟩:=dz e;obtain⟨y,M2,e2,e⟩:=dz e;exact two S R e1 e2 fun ι2 H2 v u le S2 _ rv ru=>⟨ι2,M2,x,y,d,M',S2,rv,ru,e,fun ι' H' w Xi S' r=>q ι' H' w (le.trans Xi) S' r⟩
def a7e:Dh X (binaryOp .Sub) (rOp nm X.K (MW.Dm .sub)) :=
 Dh.of azf λv u H Q ι M x y d M' S rv ru e q=>by obtain⟨i,j,rfl,rfl,e2⟩:=MW.ae3 e (by intro z;cases z);cases rv;cases ru;cases e2;exact⟨_,_,rfl,rfl,q ι H _ (Le.refl _ _) S (.int _)⟩
def aty{g:Int->Int->Int}{P:Int->Int->Prop}[∀i j,Decidable (P i j)](h:Dh X (binaryOp op) r)(hb:∀x y M,MW.Dm op' x y M=MW.ii x y (λi j=>if P i j then .ok (.int (g i j)) M else .bad) .bad)(w:∀i j H Q,P i j->Q (.int (g i j)) H->r (.int i) (.int j) H Q):Dh X (binaryOp op) (rOp nm X.K (MW.Dm op')) :=
 Dh.of h λv u H Q ι M x y d M' S rv ru e q=>by
  rw[hb] at e;obtain⟨i,j,rfl,rfl,e2⟩:=MW.ae3 e (by intro z;cases z)
  by_cases hp:P i j
  . rw[dh hp] at e2
    cases rv;cases ru;cases e2;exact w i j H Q hp (q ι H _ (Le.refl _ _) S (.int _))
  . rw[bx hp] at e2;cases e2
def a7f:Dh X (binaryOp .Mult) (rOp nm X.K (MW.Dm .mul)):=aty azg (λ_ _ _=>rfl) λi j H Q h q=>⟨_,_,rfl,rfl,h,q⟩
def a7g:Dh X (binaryOp .Mod) (rOp nm X.K (MW.Dm .mod)):=aty azh (λ_ _ _=>rfl) λi j H Q h q=>⟨_,_,rfl,rfl,h,q⟩
def az3:Dh X (binaryOp .FloorDiv) (rOp nm X.K (MW.Dm .fdiv)):=aty atb (λ_ _ _=>rfl) λi j H Q h q=>⟨_,_,rfl,rfl,h,q⟩
def a7h:Dh X (binaryOp .Pow) (rOp nm X.K (MW.Dm .pow)):=aty azi (λ_ _ _=>rfl) λi j H Q h q=>⟨_,_,rfl,rfl,⟨h.1,by omega,h.2.2⟩,q⟩
set_option tactic.hygienic true in
def qt{X:Cx}(S:m5 nm X.K ι H M)(r:Rep X.K ι H d v)(h:MW.gf M d=some ds):∃p vs,v=.ref p/\H p=some (.lst vs)/\j6 X.K ι H ds vs:=by
 cases r with
 |vl e n r=>simp[MW.gf] at h;subst h;exact⟨_,_,rfl,e,r⟩
 |ref e =>
  rename_i n p;simp only[MW.gf] at h;split at h<;>simp at h;rename_i ds' hn;subst h;obtain⟨vs,h1,h2⟩:=S.obj n _ p hn e;exact⟨p,vs,rfl,h1,h2⟩
 |_=>simp[MW.gf] at h
def Km{X:Cx}(S:m5 nm X.K ι H M)(r:Rep X.K ι H d v)(h:MW.Bj M d=some ds):∃p vs,v=.ref p/\(H p=some (.lst vs)\/H p=some (.tup vs))/\j6 X.K ι H ds vs:=by
 cases r with
 |tup e r=>simp[MW.Bj] at h;subst h;exact⟨_,_,rfl,.inr e,r⟩
 |vl e n r =>
  obtain⟨p,vs,h1,h2,h3⟩:=qt S (.vl e n r) (show MW.gf M _=_ from h);exact⟨p,vs,h1,.inl h2,h3⟩
 |ref e =>
  obtain⟨p,vs,h1,h2,h3⟩:=qt S (.ref e) (show MW.gf M _=_ from h);exact⟨p,vs,h1,.inl h2,h3⟩
 |_=>simp[MW.Bj,MW.gf] at h
def aax{X:Cx}(S:m5 nm X.K ι H M)(hp:H p=none)(r:j6 X.K ι H ds vs):m5 nm X.K ι (upd H p (.lst vs)) M/\Le ι H ι (upd H p (.lst vs))/\Rep X.K ι (upd H p (.lst vs)) (.vl ds) (.ref p):=by obtain⟨S1,le⟩:=S.laid hp (.lst vs);exact⟨S1,le,.vl vh (S.fresh hp) (r.mono le)⟩
def Lq{X:Cx}(S:m5 nm X.K ι H M)(hp:H p=none)(r:j6 X.K ι H ds vs):m5 nm X.K ι (upd H p (.tup vs)) M/\Le ι H ι (upd H p (.tup vs))/\Rep X.K ι (upd H p (.tup vs)) (.tup ds) (.ref p):=by obtain⟨S1,le⟩:=S.laid hp (.tup vs);exact⟨S1,le,.tup vh (r.mono le)⟩
def aay{X:Cx}(S:m5 nm X.K ι H M)(hp:H p=none)(r:j6 X.K ι H ds vs):m5 nm X.K (ι.add p) (upd H p (.lst vs)) (M++[.lst ds])/\Le ι H (ι.add p) (upd H p (.lst vs))/\Rep X.K (ι.add p) (upd H p (.lst vs)) (.ref M.length) (.ref p):=by
 obtain⟨S1,le⟩:=S.new (H':=upd H p (.lst vs)) (o:=.lst ds) hp (λa u e=>by rw[j5 (km e hp)];exact e) λle=>⟨vs,vh,r.mono le⟩
 exact⟨S1,le,.ref (by show(ι.l++[p])[M.length]?=some p;rw[<- S.len];simp)⟩
def Rn:(100000:Nat)<=sizeLine:=by decide
set_option tactic.hygienic true in
def atz(h:MW.Dm .add x y M=.ok d M'):(∃i j,x=.int i/\y=.int j/\d=.int (i+j)/\M'=M) \/
 (∃xs ys,x=.tup xs/\y=.tup ys/\xs.length+ys.length<=100000/\d=.tup (xs++ys)/\M'=M) \/
 ∃xs ys,MW.gf M x=some xs/\MW.gf M y=some ys/\xs.length+ys.length<=100000/\d=.vl (xs++ys)/\M'=M:=by
 have h:MW.al6 x y M=.ok d M':=h;unfold MW.al6 at h;split at h<;>try cases h
 . exact .inl ⟨_,_,rfl,rfl,rfl,rfl⟩
 . split at h<;>cases h
   rename_i hc;exact .inr (.inl ⟨_,_,rfl,rfl,hc,rfl,rfl⟩)
 . split at h
   . split at h<;>cases h
     rename_i h1 h2 hl;exact .inr (.inr ⟨_,_,h1,h2,hl,rfl,rfl⟩)
   . cases h
def a7i:Dh X (binaryOp .Add) (rOp nm X.K (MW.Dm .add)) :=
 Dh.of (aze.or (aod.or atp)) λv u H Q ι M x y d M' S rv ru e q=>by
  have lists:∀xs ys,MW.gf M x=some xs->MW.gf M y=some ys->xs.length+ys.length<=100000->d=.vl (xs++ys)->M'=M->a6z v u H Q:=λxs ys h1 h2 hl hd hm=>by
   subst hd hm;obtain⟨p,vs,rfl,e1,r1⟩:=qt S rv h1;obtain⟨p2,vs2,rfl,e2,r2⟩:=qt S ru h2;refine⟨p,p2,vs,vs2,rfl,rfl,e1,e2,?_,λp3 h3=>?_⟩
   . rw[<- r1.length,<- r2.length];exact gm hl Rn
   . obtain⟨a,b,c⟩:=aax S h3 (r1.append r2)
     exact q ι _ _ b a c
  rcases atz e with⟨i,j,rfl,rfl,rfl,rfl⟩|⟨xs,ys,rfl,rfl,hl,rfl,rfl⟩|⟨xs,ys,h1,h2,hl,h3,h4⟩
  . cases rv;cases ru
    exact .inl ⟨_,_,rfl,rfl,q ι H _ (Le.refl _ _) S (.int _)⟩
  . cases rv with
    |tup e1 r1 =>
     cases ru with
     |tup e2 r2 =>
      refine .inr (.inr ⟨_,_,_,_,rfl,rfl,Kv.of e1,Kv.of e2,?_,λhn=>?_,λhn=>?_,λp hp=>?_⟩)
      . rw[<- r1.length,<- r2.length];exact gm hl Rn
      . have:=r1.length
        rw[hn] at this;rw[um.mp this,xm] at q;exact q ι H _ (Le.refl _ _) S (.tup e2 r2)
      . have:=r2.length
        rw[hn] at this;rw[um.mp this,zp] at q;exact q ι H _ (Le.refl _ _) S (.tup e1 r1)
      . obtain⟨a,b,c⟩:=Lq S hp (r1.append r2)
        exact q ι _ _ b a c
  . exact .inr (.inl (lists _ _ h1 h2 hl h3 h4))
def at3{t:TE}(h:PT X a (fun σ H Q=>t σ H λx H1=>∃c,x=.bl c/\Q c H1))(w:∀σ H Q,tE nm W X.K a' σ H Q->t σ H Q):PT X a (tQ nm W X.K a') :=
 PT.of h fun σ H Q ι ρ M b M' S R e q=>w σ H _ ⟨ι,ρ,M,_,M',S,R,e,fun ι' H' v le S' r=>by cases r;exact⟨b,rfl,q ι' H' le S'⟩⟩
def a7j(h:PE X a (tE nm W X.K a'))(he:∀whole,isTrue a X.env whole=(do let v <- whole;standAt a.pos;holding [v] (truthy v))):PT X a (tQ nm W X.K a') :=
 at3 (ayw h he) λ_ _ _ q=>q
def Wi(nm:Nm)(K:Fg)(op:Cp):R2:=λv u H Q=>∃ι M x y b,m5 nm K ι H M/\Rep K ι H x v/\Rep K ι H y u/\MW.Mx op x y M=some b/\Q (.bl b) H
def ac8{X:Cx}:∀σ H Q,tE nm W X.K (.cmp op' a' b') σ H Q->tOp (Wi nm X.K op') (tE nm W X.K a') (tE nm W X.K b') σ H Q:=fun σ H Q hh=>by obtain⟨ι,ρ,M,d,M',S,R,e,q⟩:=hh;rw[MW.ar7] at e;obtain⟨x,M1,e1,e⟩:=dz e;obtain⟨y,M2,e2,e⟩:=dz e;obtain⟨e,rfl⟩:=w5 e;obtain⟨b,e3,rfl⟩:=cu.mp e;exact two S R e1 e2 fun ι2 H2 v u le S2 _ rv ru=>⟨ι2,M',x,y,b,S2,rv,ru,e3,q ι2 H2 _ le S2 (.bl b)⟩
def a7k(ho:Dh X (compareOp op) (Wi nm X.K op'))(ha:PE X a (tE nm W X.K a'))(hb:PE X b (tE nm W X.K b'))(hm:behindInMarks op b=false):PE X (.Compare a [op] [b] pos) (tE nm W X.K (.cmp op' a' b')) :=
 PE.weak (atc ho ha hb hm) ac8
def a7l(ho:Dh X (compareOp op) (Wi nm X.K op'))(ha:PE X a (tE nm W X.K a'))(hb:PE X b (tE nm W X.K b'))(hm:behindInMarks op b=false):PT X (.Compare a [op] [b] pos) (tQ nm W X.K (.cmp op' a' b')) :=
 at3 (t:=tOp (Wi nm X.K op') (tE nm W X.K a') (tE nm W X.K b')) (atd ho ha hb hm) ac8
def Wj{X:Cx}:∀σ H Q,tE nm W X.K (.chain op1 op2 a' b' c') σ H Q->aap (Wi nm X.K op1) (Wi nm X.K op2) (tE nm W X.K a') (tE nm W X.K b') (tE nm W X.K c') σ H Q:=fun σ H Q hh=>by
 obtain⟨ι,ρ,M,d,M',S,R,e,q⟩:=hh;rw[MW.ajd] at e;obtain⟨x,M1,e1,e⟩:=dz e;obtain⟨y,M2,e2,e⟩:=dz e;obtain⟨k,M2',e3,e⟩:=dz e;obtain⟨e3,rfl⟩:=w5 e3;refine two S R e1 e2 fun ι2 H2 v u le S2 R2 rv ru=>⟨ι2,M2',x,y,k,S2,rv,ru,e3,k,rfl,?_⟩
 cases k with
 |false =>
  have e:Res.ok (MW.D.bl false) M2'=.ok d M':=e;cases e;exact q ι2 H2 _ le S2 (.bl false)
 |true =>
  have e:((c'.den W ρ M2').bind λz M3=>Res.uo ((MW.Mx op2 y z M3).map MW.D.bl) M3)=.ok d M':=e;obtain⟨z,M3,e4,e⟩:=dz e;obtain⟨e,rfl⟩:=w5 e;obtain⟨b,e5,rfl⟩:=cu.mp e;show tE nm W X.K c' σ H2 _;exact one S2 R2 e4 fun ι3 H3 w Wk S3 _ rw=>⟨ι3,M',y,z,b,S3,ru.mono Wk,rw,e5,q ι3 H3 _ (le.trans Wk) S3 (.bl b)⟩
def at4(h1:Dh X (compareOp o1) (Wi nm X.K op1))(h2:Dh X (compareOp o2) (Wi nm X.K op2))(ha:PE X a (tE nm W X.K a'))(hb:PE X b (tE nm W X.K b'))(hc:PE X c (tE nm W X.K c'))(hm:lastMarks [o1,o2] [b,c]=false) :
 PE X (.Compare a [o1,o2] [b,c] pos) (tE nm W X.K (.chain op1 op2 a' b' c')):=PE.weak (ani h1 h2 ha hb hc hm) Wj
def at5(h1:Dh X (compareOp o1) (Wi nm X.K op1))(h2:Dh X (compareOp o2) (Wi nm X.K op2))(ha:PE X a (tE nm W X.K a'))(hb:PE X b (tE nm W X.K b'))(hc:PE X c (tE nm W X.K c'))(hm:lastMarks [o1,o2] [b,c]=false) :
 PT X (.Compare a [o1,o2] [b,c] pos) (tQ nm W X.K (.chain op1 op2 a' b' c')):=at3 (t:=aap (Wi nm X.K op1) (Wi nm X.K op2) (tE nm W X.K a') (tE nm W X.K b') (tE nm W X.K c')) (anj h1 h2 ha hb hc hm) Wj
def aaz(h:Dh X (compareOp op) (rI0 λi j=>.bl (f i j)))(e:∀x y M,MW.Mx op' x y M=MW.ab4 f x y):Dh X (compareOp op) (Wi nm X.K op') :=
 Dh.weak h λv u H Q hh=>by obtain⟨ι,M,x,y,b,S,rv,ru,e',q⟩:=hh;rw[e] at e';obtain⟨i,j,rfl,rfl,e2⟩:=MW.ae3 e' (by intro z;cases z);cases rv;cases ru;cases e2;exact⟨_,_,rfl,rfl,q⟩
def bdt:Dh X (compareOp .Lt) (Wi nm X.K .lt):=aaz a6c λ_ _ _=>rfl
def bdu:Dh X (compareOp .LtE) (Wi nm X.K .le):=aaz a6d λ_ _ _=>rfl
def bdv:Dh X (compareOp .Gt) (Wi nm X.K .gt):=aaz a6e λ_ _ _=>rfl
def bdw:Dh X (compareOp .GtE) (Wi nm X.K .ge):=aaz a6f λ_ _ _=>rfl
set_option tactic.hygienic true in
def awx{rest:Ya}(ha:PE X a (tE nm W X.K a'))(hb:PE X (.BoolOp .And (b::rest) pos) (tE nm W X.K b')):PE X (.BoolOp .And (a::b::rest) pos) (tE nm W X.K (.and a' b')) :=
 PE.of (ay0 ha hb) fun σ H Q ι ρ M d M' S R e q=>by
  rw[MW.agt] at e;obtain⟨x,M1,e1,e⟩:=dz e;refine one S R e1 fun ι1 H1 v le S1 R1 r=>?_
  cases r<;>try cases e
  rename_i k;refine⟨k,rfl,?_⟩;cases k with
  |false=>cases e;exact q ι1 H1 _ le S1 (.bl false)|true=>exact one S1 R1 e fun ι2 H2 w zg S2 _ r2=>q ι2 H2 w (le.trans zg) S2 r2
set_option tactic.hygienic true in
def a7m{rest:Ya}(ha:PE X a (tE nm W X.K a'))(hb:PE X (.BoolOp .Or (b::rest) pos) (tE nm W X.K b')):PE X (.BoolOp .Or (a::b::rest) pos) (tE nm W X.K (.or a' b')) :=
 PE.of (a5l ha hb) fun σ H Q ι ρ M d M' S R e q=>by
  rw[MW.al7] at e;obtain⟨x,M1,e1,e⟩:=dz e;refine one S R e1 fun ι1 H1 v le S1 R1 r=>?_
  cases r<;>try cases e
  rename_i k;refine⟨k,rfl,?_⟩;cases k with
  |true=>cases e;exact q ι1 H1 _ le S1 (.bl true)|false=>exact one S1 R1 e fun ι2 H2 w zg S2 _ r2=>q ι2 H2 w (le.trans zg) S2 r2
def a7n(ha:PE X a (tE nm W X.K a')):PE X (.UnaryOp .Not a pos) (tE nm W X.K (.not a')) :=
 PE.of (ay1 ha) fun σ H Q ι ρ M d M' S R e q=>by
  rw[MW.agu] at e;obtain⟨x,M1,e1,e⟩:=dz e;refine one S R e1 fun ι1 H1 v le S1 R1 r=>?_
  cases r<;>try cases e
  exact⟨_,rfl,q ι1 H1 _ le S1 (.bl _)⟩
def Xy{X:Cx}{M1:cz}(S:m5 nm X.K ι H M)(R:uv X.K ι H ρ σ)(ha:a'.den W ρ M=.ok (.bl k) M1)(h:∀ι1 H1,Le ι H ι1 H1->m5 nm X.K ι1 H1 M1->uv X.K ι1 H1 ρ σ->G k H1):tQ nm W X.K a' σ H G :=
 ⟨ι,ρ,M,k,M1,S,R,ha,fun ι' H' le S'=>h ι' H' le S' (R.mono le)⟩
set_option tactic.hygienic true in
def awy{rest:Ya}(ha:PT X a (tQ nm W X.K a'))(hb:PW X (.BoolOp .And (b::rest) pos) (tQ nm W X.K b')):PW X (.BoolOp .And (a::b::rest) pos) (tQ nm W X.K (.and a' b')) :=
 λwhole pins s σ H Q I ⟨ι,ρ,M,d,M',S,R,e,q⟩=>ayy ha hb whole pins s σ H Q I (by
  rw[MW.agt] at e;obtain⟨x,M1,e1,e⟩:=dz e;cases x<;>try cases e
  rename_i k;refine Xy S R e1 fun ι1 H1 le S1 R1=>?_
  cases k with
  | false=>cases e;exact q ι1 H1 le S1|true=>exact Xy S1 R1 e fun ι2 H2 zg S2 _=>q ι2 H2 (le.trans zg) S2)
set_option tactic.hygienic true in
def a7o{rest:Ya}(ha:PT X a (tQ nm W X.K a'))(hb:PW X (.BoolOp .Or (b::rest) pos) (tQ nm W X.K b')):PW X (.BoolOp .Or (a::b::rest) pos) (tQ nm W X.K (.or a' b')) :=
 λwhole pins s σ H Q I ⟨ι,ρ,M,d,M',S,R,e,q⟩=>a5i ha hb whole pins s σ H Q I (by
  rw[MW.al7] at e;obtain⟨x,M1,e1,e⟩:=dz e;cases x<;>try cases e
  rename_i k;refine Xy S R e1 fun ι1 H1 le S1 R1=>?_
  cases k with
  | true=>cases e;exact q ι1 H1 le S1|false=>exact Xy S1 R1 e fun ι2 H2 zg S2 _=>q ι2 H2 (le.trans zg) S2)
def a7p(ha:PT X a (tQ nm W X.K a')):PT X (.UnaryOp .Not a pos) (tQ nm W X.K (.not a')) :=
 PT.of (ayz ha) fun σ H Q ι ρ M d M' S R e q=>by
  rw[MW.agu] at e;obtain⟨x,M1,e1,e⟩:=dz e;cases x<;>try cases e
  exact Xy S R e1 fun ι1 H1 le S1 R1=>q ι1 H1 le S1
set_option tactic.hygienic true in
def a7q(hc:PT X c (tQ nm W X.K c'))(ha:PE X a (tE nm W X.K a'))(hb:PE X b (tE nm W X.K b')):PE X (.IfExp c a b pos) (tE nm W X.K (.ite c' a' b')) :=
 PE.of (am9 hc ha hb) fun σ H Q ι ρ M d M' S R e q=>by
  rw[MW.ar8] at e;obtain⟨x,M1,e1,e⟩:=dz e;cases x<;>try cases e
  rename_i k;refine Xy S R e1 fun ι1 H1 le S1 R1=>?_
  cases k with
  |true=>exact one S1 R1 e fun ι2 H2 w zg S2 _ r2=>q ι2 H2 w (le.trans zg) S2 r2
  |false=>exact one S1 R1 e fun ι2 H2 w zg S2 _ r2=>q ι2 H2 w (le.trans zg) S2 r2
def Ro:PA X [] (Xh nm W X.K .nil):=PA.of azn fun σ H Q ι ρ M ds M' S R e q=>by rw[MW.Q7] at e;cases e;exact q ι H _ (Le.refl _ _) S .nil
def Wl{X:Cx}{M1:cz}(S:m5 nm X.K ι H M)(R:uv X.K ι H ρ σ)(ha:es'.den W ρ M=.ok ds M1)(h:∀ι1 H1 vs,Le ι H ι1 H1->m5 nm X.K ι1 H1 M1->uv X.K ι1 H1 ρ σ->j6 X.K ι1 H1 ds vs->G vs H1):Xh nm W X.K es' σ H G :=
 ⟨ι,ρ,M,ds,M1,S,R,ha,fun ι' H' v le S' r=>h ι' H' v le S' (R.mono le) r⟩
def Ju(ha:PE X a (tE nm W X.K a'))(hr:PA X es (Xh nm W X.K es'))(hs:starEach (a::es) X.env=(false,eval a X.env)::starEach es X.env):PA X (a::es) (Xh nm W X.K (.cons a' es')) :=
 PA.of (atg ha hr hs) fun σ H Q ι ρ M ds M' S R e q=>by rw[MW.Hj] at e;obtain⟨x,M1,e1,e⟩:=dz e;obtain⟨xs,M2,e2,e⟩:=dz e;cases e;exact one S R e1 fun ι1 H1 v le S1 R1 r1=>Wl S1 R1 e2 fun ι2 H2 vs zg S2 R2 r2=>q ι2 H2 _ (le.trans zg) S2 (.cons (r1.mono zg) r2)
noncomputable def Dl.len:Dl->Nat
 |.nil=>0|.cons _ r=>Dl.len r+1
theorem Ij{W:Ir}:∀{es':Dl}{ρ:En}{M M1:cz}{ds:List Dv},es'.den W ρ M=.ok ds M1->ds.length=Dl.len es'
 |.nil,_,_,_,_,e=>by rw[MW.Q7] at e;cases e;rfl
 |.cons _ r,_,_,_,_,e=>by
  rw[MW.Hj] at e;obtain⟨x,M1,e1,e⟩:=dz e;obtain⟨xs,M2,e2,e⟩:=dz e;cases e;rw[iw,Ij e2];rfl
def a7r(h:PA X es (Xh nm W X.K es'))(hl:Dl.len es'<=1000):PE X (.Tuple es k pos) (tE nm W X.K (.tup es')) :=
 PE.of (azo h) fun σ H Q ι ρ M d M' S R e q=>by
  rw[MW.ar9] at e;obtain⟨ds,M1,e1,e⟩:=dz e;cases e;refine Wl S R e1 fun ι1 H1 vs le S1 R1 r=>⟨?_,λp hp=>?_⟩
  . rw[<- r.length,Ij e1];exact gm hl (by decide)
  . obtain⟨S2,zg,r2⟩:=Lq S1 hp r
    exact q ι1 _ _ (le.trans zg) S2 r2
def az6(h:PA X es (Xh nm W X.K es'))(hl:Dl.len es'<=1000):PE X (.List es pos) (tE nm W X.K (.Hd es')) :=
 PE.of (anm h) fun σ H Q ι ρ M d M' S R e q=>by
  rw[MW.al8] at e;obtain⟨ds,M1,e1,e⟩:=dz e;cases e;refine Wl S R e1 fun ι1 H1 vs le S1 R1 r=>⟨?_,λp hp=>?_⟩
  . rw[<- r.length,Ij e1];exact gm hl (by decide)
  . obtain⟨S2,zg,r2⟩:=aax S1 hp r
    exact q ι1 _ _ (le.trans zg) S2 r2
def a7s(h:PA X es (Xh nm W X.K es'))(hl:Dl.len es'<=1000):PE X (.List es pos) (tE nm W X.K (.lst es')) :=
 PE.of (anm h) fun σ H Q ι ρ M d M' S R e q=>by
  rw[MW.asa] at e;obtain⟨ds,M1,e1,e⟩:=dz e;cases e;refine Wl S R e1 fun ι1 H1 vs le S1 R1 r=>⟨?_,λp hp=>?_⟩
  . rw[<- r.length,Ij e1];exact gm hl (by decide)
  . obtain⟨S2,zg,r2⟩:=aay S1 hp r
    exact q _ _ _ (le.trans zg) S2 r2
def a7t(ha:PE X a (tE nm W X.K a')):PE X (.UnaryOp .USub a pos) (tE nm W X.K (.neg a')) :=
 PE.of (a5y azj ha) fun σ H Q ι ρ M d M' S R e q=>by
  rw[MW.ar6] at e;obtain⟨x,M1,e1,e⟩:=dz e;refine one S R e1 fun ι1 H1 v le S1 R1 r=>?_
  cases r<;>try cases e
  exact⟨_,rfl,q ι1 H1 _ le S1 (.int _)⟩
open PyProof.Rows (subscriptTail)
section
variable{κ:Type}[DecidableEq κ]{K:Fg}{ι:Io}{H:Hp}
theorem qm.length{κ κ':Type}{f:κ->κ'->Prop}:∀{l:List (κ×Dv)}{l':List (κ'×V)},qm K ι H f l l'->l.length=l'.length
 |_,_,.nil=>rfl|_,_,.cons _ _ t=>by rw[iw,iw,qm.length t]
theorem qm.look{k:κ}:∀{gq:List (κ×Dv)}{l:List (κ×V)},qm K ι H (λk k'=>k=k') gq l->(∀d,MW.Ad gq k=some d->∃v,Ri l k=some v/\Rep K ι H d v)/\(MW.Ad gq k=none->Ri l k=none)
 |_,_,.nil=>⟨λd h=>by simp[MW.Ad] at h,λ_=>rfl⟩
 |_,_,.cons (k:=q) (k':=q') hk h t=>by
  subst hk;obtain⟨a,b⟩:=qm.look (k:=k) t
  by_cases e:q=k
  . refine⟨λd hd=>?_,λhd=>?_⟩
    . simp[MW.Ad,qp,e] at hd
      subst hd;exact⟨_,Rj e,h⟩
    . simp[MW.Ad,qp,e] at hd
  . have z:∀(d:Dv) r,MW.Ad ((q,d)::r) k=MW.Ad r k:=λd r=>by simp[MW.Ad,qp,e]
    rw[z,Rk (by exact e)];exact⟨a,b⟩
theorem qm.any{k:κ}:∀{gq:List (κ×Dv)}{l:List (κ×V)},qm K ι H (λk k'=>k=k') gq l->(gq.any λkv=>decide (kv.1=k))=(l.any λkv=>decide (kv.1=k))
 |_,_,.nil=>rfl|_,_,.cons hk h t=>by subst hk;simp only[List.any_cons,qm.any t]
theorem qm.Ii{k:κ}{d:Dv}{v:V}(r:Rep K ι H d v):∀{gq:List (κ×Dv)}{l:List (κ×V)},qm K ι H (λk k'=>k=k') gq l ->
 qm K ι H (λk k'=>k=k') (gq.map λkv=>if kv.1=k then(kv.1,d) else kv) (l.map λkv=>if kv.1=k then(kv.1,v) else kv)
 |_,_,.nil=>.nil
 |_,_,.cons (k:=q) hk h t=>by
  subst hk;simp only[iu]
  by_cases e:q=k
  . simp only[e,jy];exact .cons rfl r (qm.Ii r t)
  . simp only[e,jf];exact .cons rfl h (qm.Ii r t)
theorem qm.snoc{κ κ':Type}{f:κ->κ'->Prop}{k:κ}{k':κ'}{d:Dv}{v:V}(hk:f k k')(r:Rep K ι H d v):∀{l:List (κ×Dv)}{l':List (κ'×V)},qm K ι H f l l'->qm K ι H f (l++[(k,d)]) (l'++[(k',v)])
 |_,_,.nil=>.cons hk r .nil|_,_,.cons q h t=>.cons q h (qm.snoc hk r t)
def qm.put{k:κ}(r:Rep K ι H d v)(t:qm K ι H (λk k'=>k=k') gq l):qm K ι H (λk k'=>k=k') (MW.Dy gq k d) (putK l k v):=by
 unfold MW.Dy putK;rw[t.any (k:=k)]
 by_cases e:(l.any λkv=>decide (kv.1=k))=true
 . rw[dh e,dh e];exact t.Ii r
 . rw[bx e,bx e];exact t.snoc rfl r
theorem qm.fld{nm:Nm}{f:Nat}:∀{fs:List (Nat×Dv)}{l:List (Str×V)},qm K ι H (λk k'=>k'=nm.fld k) fs l->(∀d,fs.lookup f=some d->∃v,l.lookup (nm.fld f)=some v/\Rep K ι H d v)/\(fs.lookup f=none->l.lookup (nm.fld f)=none)
 |_,_,.nil=>⟨λd h=>by simp at h,λ_=>rfl⟩
 |_,_,.cons (k:=q) (k':=q') hk h t=>by
  subst hk;obtain⟨a,b⟩:=qm.fld (nm:=nm) (f:=f) t;rw[nq,nq]
  by_cases e:f=q
  . subst e
    simp only[za];exact⟨λd hd=>by cases hd;exact⟨_,rfl,h⟩,λhd=>by cases hd⟩
  . have e1:(f==q)=false:=by simpa using e
    have e2:(nm.fld f==nm.fld q)=false:=by
     cases z:nm.fld f==nm.fld q with
     |false=>rfl|true=>exact absurd (nm.inj _ _ (eq_of_beq z)) e
    rw[e1,e2];exact⟨a,b⟩
theorem qm.Iv{nm:Nm}{f:Nat}{d:Dv}{v:V}(r:Rep K ι H d v):∀{fs:List (Nat×Dv)}{l:List (Str×V)},qm K ι H (λk k'=>k'=nm.fld k) fs l->qm K ι H (λk k'=>k'=nm.fld k) (MW.T7 f d fs) (L2.Iv (nm.fld f) v l)
 |_,_,.nil=>.cons rfl r .nil
 |_,_,.cons (k:=q) (k':=q') hk h t=>by
  subst hk;unfold MW.T7 L2.Iv
  by_cases e:q=f
  . subst e
    simp only[jy];exact .cons rfl r t
  . have e2:¬nm.fld q=nm.fld f:=λz=>e (nm.inj _ _ z)
    rw[bx e,bx e2];exact .cons rfl h (qm.Iv r t)
def Tp(r:Rep K ι H d v)(h:MW.Sx d=some k):v=kV k:=by cases r<;>simp[MW.Sx] at h<;>subst h<;>rfl
set_option tactic.hygienic true in
theorem aol:∀{ds:List Dv}{vs:List V}{ks:List Kx},j6 K ι H ds vs->MW.Zy ds=some ks->vs=ks.map kV
 |_,_,_,.nil,h=>by simp[MW.Zy] at h;subst h;rfl
 |_,_,_,.cons r t,h=>by
  simp only[MW.Zy] at h;split at h
  . rename_i k ks' h1 h2
    cases h;rw[Tp r h1,aol t h2];rfl
  . cases h
def Wm(r:Rep K ι H d v)(h:MW.Ql d=some ks):∃b,v=.ref b/\H b=some (.tup (ks.map kV)):=by
 cases r with
 |tup e r=>exact⟨_,rfl,by rw[<- aol r h];exact e⟩|_=>simp[MW.Ql] at h
end
def bdx(nm:Nm)(K:Fg):R2:=λv u H Q=>∃ι M x y d,m5 nm K ι H M/\Rep K ι H x v/\Rep K ι H y u/\MW.zb x y M=some d/\∀w,Rep K ι H d w->Q w H
def aom(hu:X.A.units+1<cLine):IxR X (λx y H Q=>∃a v,x=.ref a/\Px H a y (some v)/\Q v H):=by intro value slice pins s σ H x y v u Q I rx ry h hs;obtain⟨p,z,rfl,g,q⟩:=h;cases rx;exact PyProof.Rows.tail_any (acv I g) PySem.F.slot_dict_getitem.lookup (aj4 hu I g ry λw' s' I' r=>⟨z,H,I',r,q⟩) hs
set_option tactic.hygienic true in
def az7(hu:X.A.units+1<cLine):IxR X (bdx nm X.K):=by
 intro value slice pins s σ H v u v' u' Q I rv ru ⟨ι,M,x,y,d,S,rx,ry,e,q⟩ hs;have seq:∀(p:Addr)(vs:List V)(ds:List Dv),v=.ref p->(Hf X.K H p vs\/Kv X.K H p vs)->j6 X.K ι H ds vs->(match y with|.int i=>(MW.Xo ds.length i).bind λj=>ds[j]?|_=>none)=some d ->
  wpAny (model X.prog X.w) X.A (subscriptTail value slice v' u') (EP X pins σ Q) X.xe s:=λp vs ds hv hq r e=>by
  subst hv;obtain⟨i,hyi⟩:∃i,y=.int i:=by cases y<;>first|exact⟨_,rfl⟩|cases e
  subst hyi;cases ry;obtain⟨j,e1,e2⟩:=dq.mp e;obtain⟨z,h1,h2⟩:=r.get e2;have hat:atI vs i=some z:=by unfold atI;rw[show ixN vs.length i=some j from by rw[<- r.length];exact e1];exact h1
  rcases hq with hq|hq
  . exact L2.De value slice pins s σ H _ _ v' u' Q I rv ru ⟨p,vs,i,z,rfl,rfl,hq,hat,q z h2⟩ hs
  . exact L2.Hn value slice pins s σ H _ _ v' u' Q I rv ru ⟨p,vs,i,z,rfl,rfl,hq,hat,q z h2⟩ hs
 cases rx with
 |tup e1 r1=>exact seq _ _ _ rfl (.inr (Kv.of e1)) r1 (by cases ry<;>first|exact e|(simp[MW.zb,MW.Bj] at e))
 |vl e1 n1 r1=>exact seq _ _ _ rfl (.inl (Hf.of e1)) r1 (by cases ry<;>first|exact e|(simp[MW.zb,MW.Bj,MW.gf] at e))
 |fz e1 r1=>exact seq _ _ _ rfl (.inl e1.sq) r1 (by cases ry<;>first|exact e|(simp[MW.zb] at e))
 |ref e1 =>
  rename_i n p;have dic:∀l gq,Rd H p (.dT l)->qm X.K ι H (λk k'=>k=k') gq l->(MW.Ql y).bind (MW.Ad gq)=some d->wpAny (model X.prog X.w) X.A (subscriptTail value slice v' u') (EP X pins σ Q) X.xe s:=λl gq h1 h2 e=>by obtain⟨k,e2,e3⟩:=dq.mp e;obtain⟨z,h3,h4⟩:=(h2.look (k:=k)).1 d e3;obtain⟨b,rfl,hb⟩:=Wm ry e2;exact aom hu value slice pins s σ H _ _ v' u' Q I rv ru ⟨p,z,rfl,.inr ⟨l,k,b,h1,rfl,hb,h3.symm⟩,q z h4⟩ hs
  simp only[MW.zb] at e;split at e
  . rename_i gq hn
    obtain⟨l,h1,h2⟩:=S.obj n _ p hn e1;exact dic l gq (.inl h1) h2 e
  . rename_i gq hn
    obtain⟨l,o,h1,h2⟩:=S.obj n _ p hn e1;exact dic l gq (.inr ⟨o,h1⟩) h2 e
  . rename_i gq hn
    obtain⟨l,h1,h2⟩:=S.obj n _ p hn e1;obtain⟨k,e2,e3⟩:=dq.mp e;obtain⟨z,h3,h4⟩:=(h2.look (k:=k)).1 d e3;have hy:=Tp ry e2;subst hy;exact aom hu value slice pins s σ H _ _ v' u' Q I rv ru ⟨p,z,rfl,by rw[<- h3];exact Px.k h1,q z h4⟩ hs
  . cases hl:MW.gf M (.ref n) with
    |none=>rw[hl] at e;cases e
    |some ds =>
     obtain⟨p',vs,hp,h1,h2⟩:=qt S (.ref e1) hl;cases hp;rw[hl] at e;exact seq _ _ _ rfl (.inl (Hf.of h1)) h2 (by cases ry<;>first|exact e|cases e)
 |_=>simp[MW.zb,MW.Bj,MW.gf] at e
def bdz(hu:X.A.units+1<cLine)(ha:PE X a (tE nm W X.K a'))(hb:PE X b (tE nm W X.K b'))(hs:aar b):PE X (.Subscript a b pos) (tE nm W X.K (.ix a' b')) :=
 PE.of (a6v (az7 (nm:=nm) hu) ha hb hs) fun σ H Q ι ρ M d M' S R e q=>by rw[MW.axx] at e;obtain⟨x,M1,e1,e⟩:=dz e;obtain⟨y,M2,e2,e⟩:=dz e;obtain⟨e,rfl⟩:=w5 e;exact two S R e1 e2 fun ι2 H2 v u le S2 _ rv ru=>⟨ι2,M',x,y,d,S2,rv,ru,e,λw r=>q ι2 H2 w le S2 r⟩
set_option tactic.hygienic true in
def a7u(hn:n=nm.fld f)(hcl:∀c C,nm.cls c=some C->Cls X.K C/\G8 X.K C n)(ha:PE X a (tE nm W X.K a'))(hb:attributeBase a n X.env (eval a X.env)=eval a X.env):PE X (.Attribute a n pos) (tE nm W X.K (.fld a' f)) :=
 PE.of (azl ha hb) fun σ H Q ι ρ M d M' S R e q=>by
  rw[MW.asd] at e;obtain⟨x,M1,e1,e⟩:=dz e;obtain⟨e,rfl⟩:=w5 e;refine one S R e1 fun ι1 H1 v le S1 R1 r=>?_
  obtain⟨m,hxm⟩:∃m,x=.ref m:=by cases x<;>first|exact⟨_,rfl⟩|cases e
  subst hxm;obtain⟨p,rfl,hp⟩:∃p,v=.ref p/\ι1.l[m]?=some p:=by cases r with|ref z=>exact⟨_,rfl,z⟩
  simp only[MW.Q4] at e;split at e
  . rename_i c fs hm
    obtain⟨C,dx,l,h1,h2,h3⟩:=S1.obj m _ p hm hp;obtain⟨z,h4,h5⟩:=(h3.fld (nm:=nm) (f:=f)).1 d e;subst hn;obtain⟨g1,g2⟩:=hcl c C h1;exact⟨p,C,dx,l,z,rfl,h2,g1,g2,h4,q ι1 H1 z le S1 h5⟩
  . cases e
open MW (Ex Dl OEx Pr Bu o6 Lv Tg Res cz MO Ir Cp Op2 Blt Bm Kx Src)
noncomputable def Tq:Expr->Bool
 |.ListComp ..=>false|.SetComp ..=>false|.DictComp ..=>false|_=>true
def Oq(h:Tq e=true)(t:Option Expr)(l:Nat)(env:Env):swapsWith e t l env=pure false:=by cases e<;>first|rfl|(cases h)
noncomputable def Ha:Expr->Bool
 |.Set ..=>false|_=>true
def Et(h:Ha e=true)(env:Env)(x:Value):foldedSetIterable e env x=pure x:=by cases e<;>first|rfl|(cases h)
def Ur(h:Ha e=true)(op:CmpOp):behindInMarks op e=false:=by cases e<;>first|rfl|(cases h)
noncomputable def awz:Expr->Bool
 |.Tuple ..=>false|_=>true
noncomputable def noStar:Expr->Bool
 |.Starred ..=>false|_=>true
def lg(h:noStar e=true)(es:Ya)(env:Env):starEach (e::es) env=(false,eval e env)::starEach es env:=by cases e<;>first|rfl|(cases h)
noncomputable def aa0:Expr->Bool
 |.Slice ..=>false|_=>true
def aon(h:aa0 e=true):aar e:=by intro o i;cases e<;>first|rfl|(cases h)
noncomputable def Bt:Tg->List Nat
 |.name i=>[i]|.names is=>is
def tGt(nm:Nm)(K:Fg)(t:Tg):TG:=λv σ H Q=>∃ι ρ M d ρ',m5 nm K ι H M/\uv K ι H ρ σ/\Rep K ι H d v/\t.put d ρ=some ρ'/\∀σ',uv K ι H ρ' σ'->σ'.length=σ.length->(∀j,j∉Bt t->σ'[j]?=σ[j]?)->Q σ' H
def PG.weak(h:PG X tg t)(w:∀v σ H Q,t' v σ H Q->t v σ H Q):PG X tg t':=λpins s σ H v u Q I r q=>h pins s σ H v u Q I r (w v σ H Q q)
def PG.of(h:PG X tg t)(w:∀v σ H Q ι ρ M d ρ',m5 nm X.K ι H M->uv X.K ι H ρ σ->Rep X.K ι H d v->tt.put d ρ=some ρ'->(∀σ',uv X.K ι H ρ' σ'->σ'.length=σ.length->(∀j,j∉Bt tt->σ'[j]?=σ[j]?)->Q σ' H)->t v σ H Q):PG X tg (tGt nm X.K tt) :=
 PG.weak h λv σ H Q ⟨ι,ρ,M,d,ρ',S,R,r,e,q⟩=>w v σ H Q ι ρ M d ρ' S R r e q
def az8(hN:X.N.Nodup)(hi:X.N[i]?=some n)(hx:Loc X.env.scope n)(hf:X.fn n=true\/X.env.scope.names.lookup n=some .local):PG X (.Name n pos) (tGt nm X.K (.name i)) :=
 PG.of (aao hN hi hx hf) λv σ H Q ι ρ M d ρ' S R r e q=>by cases e;exact q _ (R.set r i) (by simp) λj hj=>vo (λz=>hj (by simp[Bt,z]))
noncomputable def Lr:List Nat->List V->St->St
 |i::is,v::vs,σ=>Lr is vs (σ.set i (some v))|_,_,σ=>σ
theorem Wn{ι:Io}{H:Hp}{K:Fg}:∀{is:Y3}{ds:List Dv}{vs:List V}{ρ:En}{σ:St},uv K ι H ρ σ->j6 K ι H ds vs->uv K ι H (MW.Qo is ds ρ) (Lr is vs σ)
 |[],_,_,_,_,R,r=>by cases r<;>exact R|_::_,_,_,_,_,R,.nil=>R|i::is,_,_,_,_,R,.cons h t=>Wn (is:=is) (R.set h i) t
theorem Rp:∀{is:Y3}{vs:List V}{σ:St}{j:Nat},j∉is->(Lr is vs σ)[j]?=σ[j]?
 |[],vs,σ,j,_=>by cases vs<;>rfl|i::is,[],σ,j,_=>rfl
 |i::is,v::vs,σ,j,h=>by
  show(Lr is vs (σ.set i (some v)))[j]?=_;rw[Rp (λz=>h (bu _ z)),vo (λz=>h (by rw[z];exact di))]
theorem Us:∀{is:Y3}{vs:List V}{σ:St},(Lr is vs σ).length=σ.length
 |[],vs,σ=>by cases vs<;>rfl|_::_,[],σ=>rfl|i::is,v::vs,σ=>by show(Lr is vs (σ.set i (some v))).length=_;rw[Us,List.length_set]
inductive Ls(X:Cx):List Expr->List Nat->Prop
 |nil:Ls X [] []
 |cons {n:Str} {p:Pos} {i:Nat} {ts:Ya} {is:Y3} (hi:X.N[i]?=some n) (hx:Loc X.env.scope n) (hf:X.fn n=true\/X.env.scope.names.lookup n=some .local) (t:Ls X ts is):Ls X (.Name n p::ts) (i::is)
theorem ac9{X:Cx}(hN:X.N.Nodup):∀{ts:Ya}{is:Y3},Ls X ts is->PGs X ts (λvs σ H Q=>vs.length=is.length/\Q (Lr is vs σ) H)
 |_,_,.nil=>λpins s σ H vs us Q I r q=>by
  obtain⟨h1,h2⟩:=q;have hv:vs=[]:=um.mp h1;subst hv;exact as8 pins s σ H [] us Q I r ⟨rfl,h2⟩
 |_,_,.cons hi hx hf t=>λpins s σ H vs us Q I r q=>by
  obtain⟨h1,h2⟩:=q;cases vs with
  |nil=>simp at h1|cons v vs=>exact anc (aao hN hi hx hf) (ac9 hN t) (by rfl) pins s σ H (v::vs) us Q I r ⟨v,vs,rfl,by simpa using h1,h2⟩
theorem Gf{X:Cx}{env:Env}:∀{ts:Ya}{is:Y3},Ls X ts is->(assignEach ts env).length=is.length/\(assignEach ts env).findIdx? (·.1)=none
 |_,_,.nil=>⟨rfl,rfl⟩
 |_,_,.cons hi hx hf t=>by
  obtain⟨g1,g2⟩:=Gf (env:=env) t;refine⟨by simp[assignEach,g1],?_⟩;simp[assignEach,List.findIdx?_cons];simpa using g2
set_option tactic.hygienic true in
def at6(hc:X.calm=true)(hN:X.N.Nodup)(h:Ls X ts is):PG X (.Tuple ts k pos) (tGt nm X.K (.names is)) :=
 PG.of (ay6 hc (ac9 hN h) (Gf h).1 (Gf h).2) λv σ H Q ι ρ M d ρ' S R r e q=>by
  cases r with
  |tup e1 r1 =>
   simp only[Tg.put] at e;split at e<;>cases e;rename_i hl;exact⟨_,_,rfl,Kv.of e1,by rw[<- r1.length];exact hl,by rw[<- r1.length];exact hl,q _ (Wn R r1) Us λj hj=>Rp hj⟩
  |_=>simp[Tg.put] at e
def aoo(he:PE X a (tE nm W X.K a'))(hg:PG X tg (tGt nm X.K t))(hs:swapsWithSole [tg] a pos.line X.env=pure false)(hw:swappedStores [tg] a X.env=pure none)(h1:(assignEach [tg] X.env).map (·.2)=[assign tg X.env]) :
 PS X (.Assign [tg] a pos) (tS nm W X.K (.asg (.tg t) a')) :=
 PS.of (ane he hg hs hw h1) λD σ H ι ρ M fl ρ' M' S R e q=>by rw[MW.Z1] at e;obtain⟨x,M1,e1,e⟩:=dz e;obtain⟨ρ2,M2,e2,e⟩:=dz e;cases e;rw[MW.amh] at e2;obtain⟨e3,e4⟩:=w5 e2;subst e4;exact one S R e1 fun ι1 H1 v le S1 R1 r=>⟨ι1,ρ,_,x,ρ',S1,R1,r,e3,fun σ' R' _ _=>q ι1 H1 σ' le S1 R'⟩
def az9(he:PE X a (tE nm W X.K a'))(hs:swapsWith a none pos.line X.env=pure false):PS X (.Expr a pos) (tS nm W X.K (.expr a')) :=
 PS.of (as7 he hs) λD σ H ι ρ M fl ρ' M' S R e q=>by rw[MW.asf] at e;obtain⟨x,M1,e1,e⟩:=dz e;cases e;exact one S R e1 fun ι1 H1 v le S1 R1 r=>q ι1 H1 σ le S1 R1
def a7v(he:PE X a (tE nm W X.K a')):PS X (.Return (some a) pos) (tS nm W X.K (.ret a')) :=
 PS.of (ay3 he) λD σ H ι ρ M fl ρ' M' S R e q=>by rw[MW.ax0] at e;obtain⟨x,M1,e1,e⟩:=dz e;cases e;exact one S R e1 fun ι1 H1 v le S1 R1 r=>q ι1 H1 σ le S1 R1 v r
def a7w:PS X (.Break pos) (tS nm W X.K .brk) :=
 PS.of anb λD σ H ι ρ M fl ρ' M' S R e q=>by rw[MW.ax1] at e;cases e;exact q ι H σ (Le.refl _ _) S R
def a0a:PS X (.Continue pos) (tS nm W X.K .cont) :=
 PS.of acq λD σ H ι ρ M fl ρ' M' S R e q=>by rw[MW.ash] at e;cases e;exact q ι H σ (Le.refl _ _) S R
def Wh.mono{X:Cx}(le:Le ι H ι' H')(q:Wh nm X.K D ι H fl ρ M):Wh nm X.K D ι' H' fl ρ M:=fun ι2 H2 σ2 zg S2 R2=>q ι2 H2 σ2 (le.trans zg) S2 R2
set_option tactic.hygienic true in
def a7x(hc:PT X c (tQ nm W X.K c'))(ht:Rh X ts (tSs nm W X.K ts'))(hf:Rh X fs (tSs nm W X.K fs')):PS X (.If c ts fs pos) (tS nm W X.K (.iff c' ts' fs')) :=
 PS.of (a5q hc ht hf) λD σ H ι ρ M fl ρ' M' S R e q=>by
  rw[MW.axz] at e;obtain⟨x,M1,e1,e⟩:=dz e;cases x<;>try cases e
  rename_i k;refine Xy S R e1 fun ι1 H1 le S1 R1=>?_
  cases k with
  |true=>exact⟨ι1,ρ,M1,fl,ρ',M',S1,R1,e,q.mono le⟩|false=>exact⟨ι1,ρ,M1,fl,ρ',M',S1,R1,e,q.mono le⟩
def a0b:Rh X [] (tSs nm W X.K .nil):=Rh.of as6 λD σ H ι ρ M fl ρ' M' S R e q=>by rw[MW.asi] at e;cases e;exact q ι H σ (Le.refl _ _) S R
def at7{rest:List Stmt}(h1:PS X st (tS nm W X.K st'))(h2:Rh X rest (tSs nm W X.K rest')):Rh X (st::rest) (tSs nm W X.K (.cons st' rest')) :=
 Rh.of (ana h1 h2) λD σ H ι ρ M fl ρ' M' S R e q=>by
  rw[MW.amg] at e;obtain⟨⟨fl1,ρ1⟩,M1,e1,e⟩:=dz e;refine⟨ι,ρ,M,fl1,ρ1,M1,S,R,e1,fun ι1 H1 σ1 le S1 R1=>?_⟩;cases fl1 with
  |next=>exact⟨ι1,ρ1,M1,fl,ρ',M',S1,R1,e,q.mono le⟩|brk=>cases e;exact q ι1 H1 σ1 le S1 R1|cont=>cases e;exact q ι1 H1 σ1 le S1 R1|ret d=>cases e;exact q ι1 H1 σ1 le S1 R1
set_option tactic.hygienic true in
def a7y(hp:PassesOwn (model X.prog X.w) X.A X.env X.xe)(hc:PT X c (tQ nm W X.K c'))(hb:Rh X body (tSs nm W X.K Wo)):PS X (.While c body [] pos) (tS nm W X.K (.whl c' Wo)) :=
 PS.of (anf hp hc hb) λD σ H ι ρ M fl ρ' M' S R e q=>by
  rw[MW.Z2] at e;refine⟨λm σ1 H1=>∃ι1 ρ1 M1,Le ι H ι1 H1/\m5 nm X.K ι1 H1 M1/\uv X.K ι1 H1 ρ1 σ1/\MW.Gi (c'.den W) (Wo.den W) m ρ1 M1=.ok (fl,ρ') M',⟨MW.ae6,ι,ρ,M,Le.refl _ _,S,R,e⟩,?_⟩;rintro m σ1 H1 ⟨ι1,ρ1,M1,Vb,S1,R1,e1⟩;cases m with
  |zero=>cases e1
  |succ m =>
   simp only[MW.Gi] at e1;obtain⟨x,M2,e2,e1⟩:=dz e1;cases x<;>try cases e1
   rename_i k;refine Xy S1 R1 e2 fun ι2 H2 zg S2 R2=>?_
   cases k with
   |false=>cases e1;exact q ι2 H2 σ1 (Vb.trans zg) S2 R2
   |true =>
    obtain⟨⟨fl3,ρ3⟩,M3,e3,e1⟩:=dz e1;refine⟨fun σ4 H4=>∃ι4 ρ4 M4,Le ι H ι4 H4/\m5 nm X.K ι4 H4 M4/\uv X.K ι4 H4 ρ4 σ4/\MW.Gi (c'.den W) (Wo.den W) m ρ4 M4=.ok (fl,ρ') M',fun σ4 H4 h4=>⟨m,o8 _,h4⟩,ι2,ρ1,M2,fl3,ρ3,M3,S2,R2,e3,fun ι4 H4 σ4 le4 S4 R4=>?_⟩;cases fl3 with
    |next=>exact⟨ι4,ρ3,M3,(Vb.trans zg).trans le4,S4,R4,e1⟩|cont=>exact⟨ι4,ρ3,M3,(Vb.trans zg).trans le4,S4,R4,e1⟩|brk=>cases e1;exact q ι4 H4 σ4 ((Vb.trans zg).trans le4) S4 R4|ret d=>cases e1;exact q ι4 H4 σ4 ((Vb.trans zg).trans le4) S4 R4
def aop(nm:Nm)(K:Fg)(ι:Io)(H:Hp)(s:Src)(J:It):Prop:=∀ι1 H1 M1,LeX ι H ι1 H1->m5 nm K ι1 H1 M1 ->
 (∀i d,i<s.len->s.item i M1=some d->J.go i H1/\∀v H2,J.yld i H1 v H2->Le ι1 H1 ι1 H2/\m5 nm K ι1 H2 M1/\Rep K ι1 H2 d v)/\(s.fin M1=true->J.stop s.len H1)
def tI(nm:Nm)(W:Ir)(K:Fg)(it:Pr):TI:=fun σ H R=>∃ι ρ M s M',m5 nm K ι H M/\uv K ι H ρ σ/\it.den W ρ M=.ok s M'/\∀ι' H' J,Le ι H ι' H'->m5 nm K ι' H' M'->aop nm K ι' H' s J->R J H'
set_option tactic.hygienic true in
def a70(hp:PassesOwn (model X.prog X.w) X.A X.env X.xe)(hc:X.calm=true)(hi:PI X tg iter (tI nm W X.K it))(hg:PG X tg (tGt nm X.K t))(hb:Rh X body (tSs nm W X.K Wo))(hs:Ha iter=true):PS X (.For tg iter body [] pos) (tS nm W X.K (.for_ t it Wo)) :=
 PS.of (aza hp hc hi hg hb (Et hs X.env)) λD σ H ι ρ M fl ρ' M' S R e q=>by
  rw[MW.S8] at e;obtain⟨s,M1,e1,e⟩:=dz e;refine⟨ι,ρ,M,s,M1,S,R,e1,fun ι1 H1 J Vb S1 sj=>?_⟩;refine⟨λi m σ2 H2=>m=s.len-i/\i<=s.len/\∃ι2 ρ2 M2,Le ι1 H1 ι2 H2/\m5 nm X.K ι2 H2 M2/\uv X.K ι2 H2 ρ2 σ2/\MW.Bx s.fin s.item (λd ρ M=>match t.put d ρ with|some ρ'=>Wo.den W ρ' M|none=>.bad) m i ρ2 M2=.ok (fl,ρ') M',
   ⟨s.len,rfl,mq _,ι1,ρ,M1,Le.refl _ _,S1,R.mono Vb,e⟩,?_⟩
  rintro i m σ2 H2 ⟨hm,hil,ι2,ρ2,M2,zg,S2,R2,e2⟩;obtain⟨go,stop⟩:=sj ι2 H2 M2 zg.toX S2;cases m with
  |zero =>
   simp only[MW.Bx] at e2;split at e2<;>cases e2;rename_i Qp;have hi:i=s.len:=by lia
   subst hi;exact .inl ⟨stop Qp,q ι2 H2 σ2 (Vb.trans zg) S2 R2⟩
  |succ m =>
   simp only[MW.Bx] at e2;split at e2
   . cases e2
   . rename_i d hd
     obtain⟨⟨fl3,ρ3⟩,M3,e3,e2⟩:=dz e2;obtain⟨g1,g2⟩:=go i d (by omega) hd;refine .inr ⟨g1,fun σ4 H4=>∃ι4 ρ4 M4,Le ι1 H1 ι4 H4/\m5 nm X.K ι4 H4 M4/\uv X.K ι4 H4 ρ4 σ4/\MW.Bx s.fin s.item (λd ρ M=>match t.put d ρ with|some ρ'=>Wo.den W ρ' M|none=>.bad) m (i+1) ρ4 M4=.ok (fl,ρ') M',
      fun σ4 H4 ⟨ι4,ρ4,M4,h4⟩=>⟨m,o8 _,by omega,by omega,ι4,ρ4,M4,h4⟩,λv H3 yv=>?_⟩
     obtain⟨Wk,S3,r3⟩:=g2 v H3 yv;split at e3
     . rename_i ρ5 af3
       refine⟨ι2,ρ2,M2,d,ρ5,S3,R2.mono Wk,r3,af3,fun σ5 R5 _ _=>⟨ι2,ρ5,M2,fl3,ρ3,M3,S3,R5,e3,fun ι4 H4 σ4 le4 S4 R4=>?_⟩⟩;have leA:=(zg.trans Wk).trans le4;cases fl3 with
       |next=>exact⟨ι4,ρ3,M3,leA,S4,R4,e2⟩|cont=>exact⟨ι4,ρ3,M3,leA,S4,R4,e2⟩|brk=>cases e2;exact q ι4 H4 σ4 (Vb.trans leA) S4 R4|ret d=>cases e2;exact q ι4 H4 σ4 (Vb.trans leA) S4 R4
     . cases e3
section
variable{nm:Nm}{W:Ir}{X:Cx}{a b c:Expr}{a' b' c':Ex}{pos pos':Pos}{ι:Io}{H:Hp}{σ:St}{ρ:En}{M M1 M2:cz}{x y:Dv}{es:Ya}{es':Dl}{tg iter elt:Expr}
def PI.weak(h:PI X tg iter wi)(w:∀σ H R,wi' σ H R->wi σ H R):PI X tg iter wi':=λpins s σ H R I q=>h pins s σ H R I (w σ H R q)
def PI.of(h:PI X tg iter wi)(w:∀σ H R' ι ρ M s M',m5 nm X.K ι H M->uv X.K ι H ρ σ->it.den W ρ M=.ok s M'->(∀ι' H' J,Le ι H ι' H'->m5 nm X.K ι' H' M'->aop nm X.K ι' H' s J->R' J H')->wi σ H R'):PI X tg iter (tI nm W X.K it) :=
 PI.weak h fun σ H R' ⟨ι,ρ,M,s,M',S,R,e,q⟩=>w σ H R' ι ρ M s M' S R e q
def a0c(hl:PE X l tl):PI X tg l (fun σ H R=>tl σ H λx H1=>∃a,x=.ref a/\((∃xs,Hf X.K H1 a xs)/\R (Itl X.K a) H1\/(∃xs,Kv X.K H1 a xs)/\R (Itt X.K a) H1)):=by
 intro pins s σ H R I h;refine Bq (hl pins s σ H _ I h) λv s1 ⟨x,H1,I1,r1,q1⟩=>?_
 obtain⟨a,e,⟨⟨xs,hq⟩,q⟩|⟨⟨xs,hq⟩,q⟩⟩:=q1
 . subst e
   cases r1;obtain⟨yf,rv,p,hz⟩:=I1.list hq;refine v5 p.isList ?_;refine⟨s1.heap.objs.size,[s1.heap.objs.size],_,_,H1,rfl,I1.kept (t':=s1.toks) λb o e=>ak _ e,ajv a _,⟨_,bh _ rfl,rfl,rfl⟩,λb hb=>?_,q⟩;have e:b=s1.heap.objs.size:=by simpa using hb
   subst e;exact I1.aju (bw _) (I1.An.fresh (bw _))
 . subst e
   cases r1;obtain⟨yf,rv,p,hz⟩:=I1.tuple hq;refine wpAny_pyIter_tuple (show s1.heap.IsTuple a yf.toArray from p) ?_;refine⟨s1.heap.objs.size,[s1.heap.objs.size],_,_,H1,rfl,I1.kept (t':=s1.toks) λb o e=>ak _ e,afi a _,⟨_,bh _ rfl,rfl,rfl⟩,λb hb=>?_,q⟩;have e:b=s1.heap.objs.size:=by simpa using hb
   subst e;exact I1.aju (bw _) (I1.An.fresh (bw _))
def Y5{p:Addr}{ds:List Dv}{s:Src}(hs:∀ι1 H1 M1,LeX ι H ι1 H1->m5 nm X.K ι1 H1 M1->(∀i d,s.item i M1=some d->∃vs v,H1 p=some (.lst vs)/\vs[i]?=some v/\Rep X.K ι1 H1 d v)/\(s.fin M1=true->∃vs,H1 p=some (.lst vs)/\vs.length<=s.len)) :
 aop nm X.K ι H s (Itl X.K p):=fun ι1 H1 M1 le S1=>by
 obtain⟨a,b⟩:=hs ι1 H1 M1 le S1;refine⟨λi d hi hd=>?_,λhf=>?_⟩
 . obtain⟨vs,v,h1,h2,h3⟩:=a i d hd
   refine⟨⟨vs,v,Hf.of h1,h2⟩,λu H2 ⟨e,y⟩=>?_⟩;subst e;have:=y vs (Hf.of h1);rw[h2] at this;cases this;exact⟨Le.refl _ _,S1,h3⟩
 . obtain⟨vs,h1,h2⟩:=b hf
   exact⟨vs,Hf.of h1,h2⟩
set_option tactic.hygienic true in
def a71(ha:PE X a (tE nm W X.K a')):PI X tg a (tI nm W X.K (.val a')) :=
 PI.of (a0c ha) fun σ H R' ι ρ M s M' S R e q=>by
  rw[MW.Kz] at e;obtain⟨x,M1,e1,e⟩:=dz e;obtain⟨e,rfl⟩:=w5 e;refine one S R e1 fun ι1 H1 v le S1 R1 r=>?_
  cases r with
  |@tup p ds vs h1 r1 =>
   simp only[MW.srcOf] at e;cases e;refine⟨p,rfl,.inr ⟨⟨vs,Kv.of h1⟩,q ι1 H1 _ le S1 fun ι2 H2 M2 zg S2=>⟨λi d hi hd=>?_,λ_=>⟨vs,Kv.of (zg.tup _ _ h1),by rw[<- r1.length];exact bw _⟩⟩⟩⟩;have hd:ds[i]?=some d:=hd;obtain⟨v,g1,g2⟩:=(r1.Fj zg).get hd;refine⟨⟨vs,v,Kv.of (zg.tup _ _ h1),g1⟩,λu H3 ⟨ee,yy⟩=>?_⟩;subst ee;have:=yy vs (Kv.of (zg.tup _ _ h1));rw[g1] at this;cases this;exact⟨Le.refl _ _,S2,g2⟩
  |@vl p ds vs h1 n1 r1 =>
   simp only[MW.srcOf] at e;cases e;refine⟨p,rfl,.inl ⟨⟨vs,Hf.of h1⟩,q ι1 H1 _ le S1 (Y5 (ds:=ds) fun ι2 H2 M2 zg S2=>⟨λi d hd=>?_,λ_=>⟨vs,zg.lst _ _ n1.1 h1,by rw[<- r1.length];exact bw _⟩⟩)⟩⟩;have hd:ds[i]?=some d:=hd;obtain⟨v,g1,g2⟩:=(r1.Fj zg).get hd;exact⟨vs,v,zg.lst _ _ n1.1 h1,g1,g2⟩
  |@ref n p h1 =>
   simp only[MW.srcOf] at e;obtain⟨ds,hn,rfl⟩:∃ds,M'[n]?=some (.lst ds)/\s=.live n ds.length:=by
    split at e
    . rename_i ds hn;cases e;exact⟨ds,hn,rfl⟩
    . cases e
   obtain⟨vs,g1,g2⟩:=S1.obj n _ p hn h1;refine⟨p,rfl,.inl ⟨⟨vs,Hf.of g1⟩,q ι1 H1 _ le S1 (Y5 (ds:=ds) fun ι2 H2 M2 zg S2=>⟨λi d hd=>?_,λhf=>?_⟩)⟩⟩
   . simp only[Src.item] at hd
     split at hd
     . rename_i ds2 Xm
       split at hd
       . obtain⟨vs2,k1,k2⟩:=S2.obj n _ p Xm (zg.get h1)
         obtain⟨v,k3,k4⟩:=k2.get hd;exact⟨vs2,v,k1,k3,k4⟩
       . cases hd
     . cases hd
   . simp only[Src.fin] at hf
     split at hf
     . rename_i ds2 Xm
       obtain⟨vs2,k1,k2⟩:=S2.obj n _ p Xm (zg.get h1);refine⟨vs2,k1,?_⟩;rw[<- k2.length];have:ds2.length=ds.length:=by simpa using hf
       rw[this];exact bw _
     . cases hf
  |_=>simp[MW.srcOf] at e
set_option tactic.hygienic true in
def a72(hg:Gl X "range")(hm:X.mg "range" = none)(ha:PE X a (tE nm W X.K a'))(U6:noStar a=true):PI X tg (.Call (.Name "range" pr) [a] [] pos) (tI nm W X.K (.O7 a')) :=
 PI.of (ajw hg hm (Ju ha Ro (lg U6 _ _)) (lg U6 _ _)) fun σ H R' ι ρ M s M' S R e q=>by
  rw[MW.O9] at e;obtain⟨x,M1,e1,e⟩:=dz e;refine Wl (es':=.cons a' .nil) (ds:=[x]) (M1:=M1) S R (by rw[MW.Hj,e1];simp) fun ι1 H1 vs le S1 R1 r=>?_
  obtain⟨i,hx⟩:∃i,x=.int i:=by cases x<;>first|exact⟨_,rfl⟩|cases e
  subst hx;have e:(if i.natAbs<=100000 then Res.ok (Src.con ((List.range i.toNat).map λ(k:Nat)=>MW.D.int (k:Int))) M1 else .bad)=.ok s M':=e;split at e<;>cases e;rename_i hi;cases r with
  |cons r1 r2 =>
   cases r1;cases r2;refine⟨i,rfl,by lia,by omega,q ι1 H1 _ le S1 fun ι2 H2 M2 zg S2=>⟨λj d hj hd=>?_,λ_=>?_⟩⟩
   . have hl:j<i.toNat:=by simpa[Src.len] using hj
     have hd:((List.range i.toNat).map λ(k:Nat)=>MW.D.int (k:Int))[j]?=some d:=hd;rw[ie,yp hl] at hd;have hd:MW.D.int (j:Int)=d:=by simpa using hd
     subst hd;refine⟨hl,λu H3 ⟨ee,yy⟩=>?_⟩;subst ee yy;exact⟨Le.refl _ _,S2,by rw[Int.zero_add];exact .int _⟩
   . show i.toNat<=_
     simp[Src.len]
def akc(R:uv K ι H ρ σ):uv K ι H (ρ++List.replicate k none) (σ++List.replicate k none):=R.append (uv.aoi k (by simp))
def aoq{σ2:St}(hn:σ.length=n)(ho:∀i∈Bt t,n<=i)(h:∀j,j∉Bt t->σ2[j]?=(σ++List.replicate k none)[j]?):∀(j:Nat) v,(σ++List.replicate k none)[j]?=some (some v)->σ2[j]?=some (some v):=λj v e=>by
 by_cases hj:j∈Bt t
 . have:=ho j hj
   rw[jm (a_ (f_ hn) this),List.getElem?_replicate] at e;split at e<;>simp at e
 . rw[h j hj];exact e
noncomputable def aw0(o:Option Dv):List Dv:=match o with|some x=>[x]|none=>[]
set_option tactic.hygienic true in
def ada(h:MW.Dk fin item body (k+1) i M=.ok ds M') :
 ∃d o M1 rest,item i M=some d/\body d M=.ok o M1/\MW.Dk fin item body k (i+1) M1=.ok rest M'/\ds=aw0 o++rest:=by
 simp only[MW.Dk] at h;split at h
 . cases h
 . rename_i d hd
   obtain⟨o,M1,e1,h⟩:=dz h;obtain⟨rest,M2,e2,h⟩:=dz h;cases h;exact⟨d,o,M1,rest,hd,e1,e2,by cases o<;>rfl⟩
def j6.snoc(r:j6 K ι H ds vs)(h:Rep K ι H d v):j6 K ι H (ds++[d]) (vs++[v]):=r.append (.cons h .nil)
set_option tactic.hygienic true in
def Vc(e:MW.Av s body M1=.ok ds M2):s.len<=100000/\MW.Dk s.fin s.item body s.len 0 M1=.ok ds M2:=by
 unfold MW.Av at e;split at e
 . rename_i hl
   exact⟨hl,e⟩
 . cases e
noncomputable def keptAs(v:Bool)(ds:List Dv)(M:cz):Res Dv:=if v=true then .ok (.vl ds) M else MW.new (.lst ds) M
def akd(h:(Ex.comp v k t it e').den W ρ M=.ok d M'):∃s M1 ds M2,it.den W ρ M=.ok s M1/\s.len<=100000 /\
 MW.Dk s.fin s.item (λd M=>match t.put d (ρ++List.replicate k none) with|some ρ'=>(e'.den W ρ' M).bind λx M'=>.ok (some x) M'|none=>.bad) s.len 0 M1=.ok ds M2/\keptAs v ds M2=.ok d M':=by
 rw[MW.Ni] at h;obtain⟨s,M1,e1,h⟩:=dz h;obtain⟨ds,M2,e2,h⟩:=dz h;exact⟨s,M1,ds,M2,e1,(Vc e2).1,(Vc e2).2,h⟩
mutual
theorem Rep.adopt{K:Fg}{ι:Io}{H:Hp}{D:Addr}:∀{d:Dv}{v:V},Rep K (ι.hide D) H d v->Rep K (ι.add D) H d v
 |_,_,.non=>.non|_,_,.bl b=>.bl b|_,_,.int i=>.int i|_,_,.str s=>.str s|_,_,.tup e r=>.tup e (j6.adopt r)|_,_,.vl e n r=>.vl e ⟨λm=>(dm.mp m).elim n.1 λz=>n.2 (by rw[uf.mp z];exact di),λm=>n.2 (bu _ m)⟩ (j6.adopt r)
 |_,_,.fz e r=>.fz e (j6.adopt r)
 | _,_,.ref e=>.ref (by
  have e:ι.l[_]?=some _:=e;show(ι.l++[D])[_]?=_;rw[du (ao.mp e).1];exact e)
theorem j6.adopt{K:Fg}{ι:Io}{H:Hp}{D:Addr}:∀{ds:List Dv}{vs:List V},j6 K (ι.hide D) H ds vs->j6 K (ι.add D) H ds vs
 |_,_,.nil=>.nil|_,_,.cons h t=>.cons (Rep.adopt h) (j6.adopt t)
end
theorem m5.adopt(S:m5 nm K (ι.hide D) H M)(hd:H D=some (.lst vs))(r:j6 K (ι.hide D) H ds vs)(hδ:ι.off D):m5 nm K (ι.add D) H (M++[.lst ds]):=by
 refine⟨by have:=S.len;simp only[Io.hide] at this;simp[Io.add,this],?_,λa ha=>?_,λn o a hn ha=>?_⟩
 . exact yc.mpr ⟨S.nd,by simp,by
    intro x hx y hy;have:y=D:=by simpa using hy
    subst this;intro e;subst e;exact hδ.1 hx⟩
 . obtain⟨h1,vs,h2⟩:=S.del a (bu _ ha)
   exact⟨λm=>(dm.mp m).elim h1 λz=>hδ.2 (by rw[<- uf.mp z];exact ha),vs,h2⟩
 . rcases Ce hn with q|⟨q,rfl⟩
   . rcases Ce ha with z|⟨z,_⟩
     . exact(S.obj n o a q z).map (λd v r=>r.adopt) rfl
     . exact absurd (MW.yj q) (by rw[z,<- S.len];exact ou _)
   . rcases Ce ha with z|⟨_,rfl⟩
     . exact absurd (ao.mp z).1 (by rw[q,<- S.len];exact ou _)
     . exact⟨vs,hd,r.adopt⟩
def aor(S:m5 nm K (ι.hide D) H M)(hd:H D=some (.lst vs))(r:j6 K (ι.hide D) H ds vs)(hδ:ι.off D)(le:Le ι0 H0 ι H)(h0:H0 D=none)(h:keptAs v ds M=.ok d M') :
 ∃ι',Le ι0 H0 ι' H/\m5 nm K ι' H M'/\Rep K ι' H d (.ref D):=by
 unfold keptAs at h;split at h
 . cases h
   exact⟨ι,le,S.show,.vl hd hδ r.show⟩
 . cases h
   refine⟨ι.add D,⟨?_,le.del,le.tup,le.Jv,le.lst,le.dom⟩,S.adopt hd r hδ,.ref ?_⟩
   . obtain⟨Y,e,hY⟩:=le.ext
     exact⟨Y++[D],by show ι.l++[D]=_;rw[e,Af],λa ha=>(dm.mp ha).elim (hY a) λz=>by rw[uf.mp z];exact h0⟩
   . show(ι.l++[D])[M.length]?=some D
     rw[<- S.len];simp[Io.hide]
def BodyOk(nm:Nm)(K:Fg)(σ2:St)(tc:TT)(te:TE)(ρ2:En)(M:cz)(o:Option Dv)(M':cz):Prop:=∀ι H (G1:V->Hp->Prop) (G0:Hp->Prop),m5 nm K ι H M->uv K ι H ρ2 σ2 ->
 (∀ι' H' v,Le ι H ι' H'->m5 nm K ι' H' M'->(match o with|some x=>Rep K ι' H' x v->G1 v H'|none=>G0 H'))->tc σ2 H λb H3=>if b=true then te σ2 H3 λv H4=>G1 v H4 else G0 H3
set_option tactic.hygienic true in
def Y6{N:Yf}(hk:N.length-X.N.length=k)(ho:∀i∈Bt t,X.N.length<=i)(hσ:σ.length=X.N.length)(S:m5 nm X.K ι H M)(R:uv X.K ι H ρ σ)(e1:it.den W ρ M=.ok s M1)(hlen:s.len<=100000)(e2:MW.Dk s.fin s.item body s.len 0 M1=.ok ds M')(ek:keptAs v0 ds M'=.ok d0 M0)(q:∀ι' H' v,Le ι H ι' H'->m5 nm X.K ι' H' M0->Rep X.K ι' H' d0 v->Q v H')(hb:∀d M2 o M3,body d M2=.ok o M3->∃ρ5,t.put d (ρ++List.replicate k none)=some ρ5/\∀σ5,BodyOk nm X.K σ5 tc te ρ5 M2 o M3):ac0 (N.length-X.N.length) (tI nm W X.K it) (tGt nm X.K t) tc te σ H Q:=by
 refine⟨ι,ρ,M,s,M1,S,R,e1,fun ι1 H1 J Vb S1 sj D hD=>?_⟩;rw[hk];refine⟨λi m H2=>m=s.len-i/\i<=s.len/\∃ι2 M2 acc vs rest,LeD D ι1 H1 (Io.hide ι2 D) H2/\m5 nm X.K (Io.hide ι2 D) H2 M2/\H2 D=some (.lst vs)/\j6 X.K (Io.hide ι2 D) H2 acc vs/\acc.length<=i /\
  MW.Dk s.fin s.item body m i M2=.ok rest M'/\ds=acc++rest,?_,?_⟩
 . exact⟨s.len,rfl,mq _,ι1,M1,[],[],ds,LeD.start hD _,S1.hide hD,vh,.nil,bw _,e2,rfl⟩
 . rintro i m H2 ⟨hm,hil,ι2,M2,acc,vs,rest,zg,S2,hd2,a0d,Fo,e3,hds⟩
   have leP:Le ι1 H1 ι2 H2:=LeD.done zg;have bd3:ι2.δ=ι1.δ:=leP.del;have bd4:ι2.off D:=⟨(S2.del D di).1,λz=>by rw[bd3] at z;exact(S1.fresh hD).2 z⟩;obtain⟨go,stop⟩:=sj (Io.hide ι2 D) H2 M2 (zg.toX hD) S2;cases m with
   |zero =>
    simp only[MW.Dk] at e3;split at e3<;>cases e3;rename_i Qp;have hi:i=s.len:=by lia
    subst hi;rw[zp] at hds;subst hds;obtain⟨ι9,le9,S9,r9⟩:=aor S2 hd2 a0d bd4 leP hD ek;exact .inl ⟨stop Qp,q ι9 H2 _ (Vb.trans le9) S9 r9⟩
   |succ m =>
    obtain⟨d,o,M3,rest',h1,h2,h3,h4⟩:=ada e3;obtain⟨g1,g2⟩:=go i d (by lia) h1;refine .inr ⟨g1,λv H3 yv=>?_⟩;obtain⟨Wk,S3,r3⟩:=g2 v H3 yv;obtain⟨ρ5,af3,bok⟩:=hb d M2 o M3 h2;have R3:uv X.K (Io.hide ι2 D) H3 ρ σ:=((R.mono Vb).Fj (zg.toX hD)).mono Wk;refine⟨Io.hide ι2 D,ρ++List.replicate k none,M2,d,ρ5,S3,akc R3,r3,af3,fun σ5 R5 l5 k5=>⟨l5,aoq hσ ho k5,?_⟩⟩;have hd3:=Wk.lst D vs (S2.del D di).1 hd2;refine bok σ5 (Io.hide ι2 D) H3 _ _ S3 R5 (fun ι6 H6 u le6 S6=>by
     have hd6:=le6.lst D vs (S2.del D di).1 hd3;have a0e:LeD D ι1 H1 ι6 H6:=(zg.go Wk).go le6;have ei:ι6=Io.hide ⟨ι6.l,ι2.δ⟩ D:=by have:=le6.del;obtain⟨l6,δ6⟩:=ι6;simp only[Io.hide] at this ⊢;rw[this]
     rw[ei] at a0e S6;have aw1:j6 X.K (Io.hide ⟨ι6.l,ι2.δ⟩ D) H6 acc vs:=by rw[<- ei];exact(a0d.mono Wk).mono le6
     cases o with
     |none =>
      refine⟨m,o8 _,by lia,by lia,⟨ι6.l,ι2.δ⟩,M3,acc,vs,rest',a0e,S6,hd6,aw1,a_ Fo x_,h3,?_⟩;rw[hds,h4];rfl
     |some x =>
      intro r6;rw[ei] at r6;have Iu:D∈(Io.hide ⟨ι6.l,ι2.δ⟩ D).δ:=di;refine⟨vs,m,hd6,?_,o8 _,by lia,by lia,⟨ι6.l,ι2.δ⟩,M3,acc++[x],vs++[u],rest',a0e.grow hD hd6,S6.grow hd6 Iu,vh,(aw1.snoc r6).grow hd6 Iu,by simp;exact Fo,h3,?_⟩
      . rw[<- a0d.length]
        exact Nat.lt_of_le_of_lt (gm Fo (gm hil hlen)) (by decide)
      . rw[hds,h4];simp[aw0])
set_option tactic.hygienic true in
def Y7{N:Yf}(hk:N.length-X.N.length=k)(ho:∀i∈Bt t,X.N.length<=i):∀σ H Q,σ.length=X.N.length->tE nm W X.K (.comp v0 k t it e') σ H Q ->
 ac0 (N.length-X.N.length) (tI nm W X.K it) (tGt nm X.K t) (λ_ H Q=>Q true H) (tE nm W X.K e') σ H Q:=fun σ H Q hσ hh=>by
 obtain⟨ι,ρ,M,d,M',S,R,e,q⟩:=hh;obtain⟨s,M1,ds,M2,e1,hlen,e2,ek⟩:=akd e;refine Y6 hk ho hσ S R e1 hlen e2 ek q λd M2 o M3 hb=>?_
 split at hb
 . rename_i ρ5 af3
   obtain⟨x,M4,e5,hb⟩:=dz hb;cases hb;refine⟨ρ5,af3,fun σ5 ι5 H5 G1 G0 S5 R5 g=>?_⟩;show if true=true then _ else _
   rw[dh rfl];exact one (X:=X) S5 R5 e5 fun ι6 H6 u le6 S6 R6 r6=>g ι6 H6 u le6 S6 r6
 . cases hb
def adb(h:(Ex.Cr v k t it c' e').den W ρ M=.ok d M'):∃s M1 ds M2,it.den W ρ M=.ok s M1/\s.len<=100000 /\
 MW.Dk s.fin s.item (λd M=>match t.put d (ρ++List.replicate k none) with|some ρ'=>(c'.den W ρ' M).bind λb M'=>(match b with|.bl true=>(e'.den W ρ' M').bind λx M''=>.ok (some x) M''|.bl false=>.ok none M'|_=>.bad)|none=>.bad) s.len 0 M1=.ok ds M2/\keptAs v ds M2=.ok d M':=by
 rw[MW.Vu] at h;obtain⟨s,M1,e1,h⟩:=dz h;obtain⟨ds,M2,e2,h⟩:=dz h;exact⟨s,M1,ds,M2,e1,(Vc e2).1,(Vc e2).2,h⟩
set_option tactic.hygienic true in
def Ut{N:Yf}(hk:N.length-X.N.length=k)(ho:∀i∈Bt t,X.N.length<=i):∀σ H Q,σ.length=X.N.length->tE nm W X.K (.Cr v0 k t it c' e') σ H Q ->
 ac0 (N.length-X.N.length) (tI nm W X.K it) (tGt nm X.K t) (tQ nm W X.K c') (tE nm W X.K e') σ H Q:=fun σ H Q hσ hh=>by
 obtain⟨ι,ρ,M,d,M',S,R,e,q⟩:=hh;obtain⟨s,M1,ds,M2,e1,hlen,e2,ek⟩:=adb e;refine Y6 hk ho hσ S R e1 hlen e2 ek q λd M2 o M3 hb=>?_
 split at hb
 . rename_i ρ5 af3
   obtain⟨x,M4,e5,hb⟩:=dz hb;refine⟨ρ5,af3,fun σ5 ι5 H5 G1 G0 S5 R5 g=>?_⟩;split at hb
   . obtain⟨y,M6,e6,hb⟩:=dz hb
     cases hb;refine Xy (X:=X) S5 R5 e5 fun ι6 H6 le6 S6 R6=>?_
     rw[dh rfl];exact one (X:=X) S6 R6 e6 fun ι7 H7 u le7 S7 R7 r7=>g ι7 H7 u (le6.trans le7) S7 r7
   . cases hb
     refine Xy (X:=X) S5 R5 e5 fun ι6 H6 le6 S6 R6=>?_
     rw[bx (by simp)];exact g ι6 H6 .non le6 S6
   . cases hb
 . cases hb
def PE.ade(h:PE X e t)(w:∀σ H Q,σ.length=X.N.length->t' σ H Q->t σ H Q):PE X e t':=λpins s σ H Q I q=>h pins s σ H Q I (w σ H Q I.len q)
def PS.ade(h:PS X st t)(w:∀D σ H,σ.length=X.N.length->t' D σ H->t D σ H):PS X st t':=λpins s σ H D I q=>h pins s σ H D I (w D σ H I.len q)
def a0f(B:Fi X N scope)(Ji:X.calm=true)(hi:PI X tg iter (tI nm W X.K it))(hg:∀C fp s H,PG (Nf X N scope C fp s H) tg (tGt nm X.K t))(he:∀C fp s H,PE (Nf X N scope C fp s H) elt (tE nm W X.K e'))(hs:Ha iter=true)(hk:N.length-X.N.length=k)(ho:∀i∈Bt t,X.N.length<=i):PE X (.ListComp elt [⟨tg,iter,[],0⟩] scope pos) (tE nm W X.K (.comp v0 k t it e')) :=
 PE.ade (ahq B Ji hi hg (λ_ _ _ _=>.inl ⟨rfl,rfl⟩) he (Et hs X.env)) (Y7 hk ho)
def aos(B:Fi X N scope)(Ji:X.calm=true)(hi:PI X tg iter (tI nm W X.K it))(hg:∀C fp s H,PG (Nf X N scope C fp s H) tg (tGt nm X.K t))(hc:∀C fp s H,PT (Nf X N scope C fp s H) c (tQ nm W X.K c'))(he:∀C fp s H,PE (Nf X N scope C fp s H) elt (tE nm W X.K e'))(hs:Ha iter=true)(hk:N.length-X.N.length=k)(ho:∀i∈Bt t,X.N.length<=i):PE X (.ListComp elt [⟨tg,iter,[c],0⟩] scope pos) (tE nm W X.K (.Cr v0 k t it c' e')) :=
 PE.ade (ahq B Ji hi hg (λ_ _ _ _=>.inr ⟨c,rfl,hc _ _ _ _⟩) he (Et hs X.env)) (Ut hk ho)
def adf(h:∀σ H Q,σ.length=X.N.length->tE nm W X.K e' σ H Q->tt σ H Q):∀D σ H,σ.length=X.N.length->tS nm W X.K (.asg (.tg (.name i)) e') D σ H->ay8 tt (ahb i) D σ H:=λD σ H hσ hh=>by obtain⟨ι,ρ,M,fl,ρ',M',S,R,e,q⟩:=hh;rw[MW.Z1] at e;obtain⟨x,M1,e1,e⟩:=dz e;obtain⟨ρ2,M2,e2,e⟩:=dz e;cases e;rw[MW.amh] at e2;obtain⟨e3,e4⟩:=w5 e2;subst e4;cases e3;exact h σ H _ hσ (one S R e1 fun ι1 H1 v le S1 R1 r=>q ι1 H1 _ le S1 (R1.set r i))
def ake{y:Str}(B:Fi X N scope)(Ji:X.calm=true)(hi:PI X tg iter (tI nm W X.K it))(hg:∀C fp s H,PG (Nf X N scope C fp s H) tg (tGt nm X.K t))(he:∀C fp s H,PE (Nf X N scope C fp s H) elt (tE nm W X.K e'))(hs:Ha iter=true)(hk:N.length-X.N.length=k)(ho:∀i∈Bt t,X.N.length<=i)(hN:X.N.Nodup)(hy:X.N[i]?=some y)(hl:X.env.scope.names.lookup y=some .local)(hsw:swapsWith (.ListComp elt [⟨tg,iter,[],0⟩] scope pos) (some (.Name y py)) aoh.line X.env=pure true):PS X (.Assign [.Name y py] (.ListComp elt [⟨tg,iter,[],0⟩] scope pos) aoh) (tS nm W X.K (.asg (.tg (.name i)) (.comp v0 k t it e'))) :=
 PS.ade (ahr B Ji hi hg (λ_ _ _ _=>.inl ⟨rfl,rfl⟩) he (Et hs X.env) hN hy hl hsw) (adf (Y7 hk ho))
def adg{y:Str}(B:Fi X N scope)(Ji:X.calm=true)(hi:PI X tg iter (tI nm W X.K it))(hg:∀C fp s H,PG (Nf X N scope C fp s H) tg (tGt nm X.K t))(hc:∀C fp s H,PT (Nf X N scope C fp s H) c (tQ nm W X.K c'))(he:∀C fp s H,PE (Nf X N scope C fp s H) elt (tE nm W X.K e'))(hs:Ha iter=true)(hk:N.length-X.N.length=k)(ho:∀i∈Bt t,X.N.length<=i)(hN:X.N.Nodup)(hy:X.N[i]?=some y)(hl:X.env.scope.names.lookup y=some .local)(hsw:swapsWith (.ListComp elt [⟨tg,iter,[c],0⟩] scope pos) (some (.Name y py)) aoh.line X.env=pure true):PS X (.Assign [.Name y py] (.ListComp elt [⟨tg,iter,[c],0⟩] scope pos) aoh) (tS nm W X.K (.asg (.tg (.name i)) (.Cr v0 k t it c' e'))) :=
 PS.ade (ahr B Ji hi hg (λ_ _ _ _=>.inr ⟨c,rfl,hc _ _ _ _⟩) he (Et hs X.env) hN hy hl hsw) (adf (Ut hk ho))
end
def spF(nm:Nm)(W:Ir)(K:Fg)(n f:Nat):Sp:=λvs H Q _=>∃ι M ds d M',m5 nm K ι H M/\j6 K ι H ds vs/\ds.length=n/\W.call f ds M=.ok d M'/\∀ι' H' v,Le ι H ι' H'->m5 nm K ι' H' M'->Rep K ι' H' d v->Q v H'
def s_call(F:Ge X.prog X.w X.K X.mg X.base CX0 k fa fd ps (spF nm W X.K n f))(hr:Ah k X.A)(hg:Gl X x)(hm:X.mg x=some (.ref fa))(hk:PySem.W.keepIn X.K (.ref fa)=true)(hb:Binds X.K fd ps [])(hlen:Dl.len es'=n)(ha:PA X (a::es) (Xh nm W X.K es'))(Uk:(x==("__debug__" : Str))=false)(he:starEach (a::es) X.env=(false,eval a X.env)::starEach es X.env)(Ip:(backTo pos (starEach es X.env)).any (·.1)=false) :
 PE X (.Call (.Name x p) (a::es) [] pos) (tE nm W X.K (.call f es')) :=
 PE.of (ath (E:=E0) F hr hg hm hk hb .nil aho ha Uk he Ip) fun σ H Q ι ρ M d M' S R e q=>by
  rw[MW.amb] at e;obtain⟨ds,M1,e1,e⟩:=dz e;refine Wl S R e1 fun ι1 H1 vs le S1 R1 r=>?_
  rw[zp];exact⟨ι1,M1,ds,d,M',S1,r,(Ij e1).trans hlen,e,fun ι' H' v Xi S' r'=>q ι' H' v (le.trans Xi) S' r'⟩
def a0g(Mk0:Mk X.K C fa)(F:Ge X.prog X.w X.K X.mg X.base CX0 k fa fd ps (spF nm W X.K (n+1) f))(hr:Ah (k+1) X.A)(hg:Gl X x)(hm:X.mg x=some (.ref C))(hb:Binds X.K fd ps [])(hcl:W.cls[ci]?=some cl)(Xl:cl.init=f)(hnm:nm.cls ci=some C)(hlen:Dl.len es'=n)(ha:PA X (a::es) (Xh nm W X.K es'))(Uk:(x==("__debug__" : Str))=false)(he:starEach (a::es) X.env=(false,eval a X.env)::starEach es X.env)(Ip:(backTo pos (starEach es X.env)).any (·.1)=false) :
 PE X (.Call (.Name x p) (a::es) [] pos) (tE nm W X.K (.make ci es')) :=
 PE.of (atj (E:=E0) Mk0 F hr hg hm hb .nil aho ha Uk he Ip) fun σ H Q ι ρ M d M' S R e q=>by
  rw[MW.ab5] at e;obtain⟨ds,M1,e1,e⟩:=dz e;rw[hcl] at e;have e:((W.call cl.init (.ref M1.length::ds) (M1++[.ins ci []])).bind λr M2=>match r with|.non=>.ok (.ref M1.length) M2|_=>.bad)=.ok d M':=e;obtain⟨r0,M2,e2,e⟩:=dz e;refine Wl S R e1 fun ι1 H1 vs le S1 R1 r=>λp dx hp hdx Xf=>?_
  rw[zp];have keep:∀a u,H1 a=some u->upd (upd H1 dx (.own p)) p (.ins C dx []) a=some u:=λa u e=>by rw[j5 (km e hp),j5 (km e hdx)];exact e
  obtain⟨S2,zg⟩:=S1.new (o:=.ins ci []) hp keep λ_=>⟨C,dx,[],hnm,vh,.nil⟩
  have rp:Rep X.K (ι1.add p) (upd (upd H1 dx (.own p)) p (.ins C dx [])) (.ref M1.length) (.ref p):=.ref (by show(ι1.l++[p])[M1.length]?=some p;rw[<- S1.len];simp);refine⟨ι1.add p,M1++[.ins ci []],.ref M1.length::ds,r0,M2,S2,.cons rp (r.mono zg),by rw[iw,Ij e1,hlen],by rw[<- Xl];exact e2,fun ι' H' v Xi S' r'=>?_⟩;cases r'<;>try cases e
  exact⟨rfl,q ι' H' _ (le.trans (zg.trans Xi)) S' (rp.mono Xi)⟩
theorem Wq{nm:Nm}{ι:Io}{H:Hp}{m:Str}{K:Fg}(Yd:∀i,nm.fld i≠m):∀{fs:List (Nat×Dv)}{l:List (Str×V)},qm K ι H (λk k'=>k'=nm.fld k) fs l->l.lookup m=none
 |_,_,.nil=>rfl
 |_,_,.cons (k:=kk) (k':=kk') hk h t=>by
  subst hk;rw[nq];have z:(m==nm.fld kk)=false:=by
   cases z:m==nm.fld kk with
   |false=>rfl|true=>exact absurd (eq_of_beq z).symm (Yd kk)
  rw[z];exact Wq Yd t
def a0h{nm:Nm}{W:Ir}{X:Cx}{a o:Expr}{o':Ex}{pos apos:Pos}{es:Ya}{es':Dl}{k n f:Nat}{fa C:Addr}{fd:FuncData}{ps:Yf}{m:Str}{mi ci:Nat}{cl:MW.Cl}{pl:Sem Bool}(ho:PE X o (tE nm W X.K o'))(c0:Cls X.K C)(hme:Meth X.K C m fa)(F:Ge X.prog X.w X.K X.mg X.base CX0 k fa fd ps (spF nm W X.K (n+1) f))(hr:Ah k X.A)(hb:Binds X.K fd ps [])
 (a0i:∀c' cl',W.cls[c']?=some cl'->∀g,cl'.meths.lookup mi=some g->nm.cls c'=some C/\g=f) (Yd:∀i,nm.fld i≠m)
 (hlen:Dl.len es'=n) (ha:PA X (a::es) (Xh nm W X.K es')) (he:starEach (a::es) X.env=(false,eval a X.env)::starEach es X.env) (Ip:(backTo pos (starEach es X.env)).any (·.1)=false)
 (ht:eval (.Call (.Attribute o m apos) (a::es) [] pos) X.env=(do
  let ov <- eval o X.env
  standAt apos.atName
  let (f,first) <- holding [ov] (getMethod ov m pl)
  callWith pos f first (backTo pos (starEach (a::es) X.env)) (backToKw pos (keywordEach [] X.env)))) :
 PE X (.Call (.Attribute o m apos) (a::es) [] pos) (tE nm W X.K (.meth o' mi es')) :=
 PE.of (ati (E:=E0) ho c0 hme F hr hb .nil aho ha he Ip ht) fun σ H Q ι ρ M d M' S R e q=>by
  rw[MW.Cu] at e;obtain⟨x,M1,e1,e⟩:=dz e;obtain⟨ds,M2,e2,e⟩:=dz e;refine one S R e1 fun ι1 H1 v le S1 R1 r=>?_
  obtain⟨j,hx⟩:∃j,x=.ref j:=by cases x<;>first|exact⟨_,rfl⟩|cases e
  subst hx;obtain⟨p,rfl,hp⟩:∃p,v=.ref p/\ι1.l[j]?=some p:=by cases r with|ref z=>exact⟨_,rfl,z⟩
  have e:(match M1[j]? with
   | some (.ins c _)=>(match(W.cls[c]?).bind λC=>C.meths.lookup mi with
    | some f=>W.call f (.ref j::ds) M2|none=>.bad)
   | _=>.bad)=Res.ok d M':=e
  cases hM:M1[j]? with
  |none=>rw[hM] at e;cases e
  |some ob =>
   rw[hM] at e;cases ob with
   |ins ci fs =>
    have e:(match(W.cls[ci]?).bind λC=>C.meths.lookup mi with|some f=>W.call f (.ref j::ds) M2|none=>.bad)=Res.ok d M':=e;cases hL:(W.cls[ci]?).bind λC=>C.meths.lookup mi with
    |none=>rw[hL] at e;cases e
    |some g =>
     rw[hL] at e;have e:W.call g (.ref j::ds) M2=.ok d M':=e;obtain⟨cl',h1,h2⟩:=dq.mp hL;obtain⟨h3,rfl⟩:=a0i ci cl' h1 g h2;obtain⟨C',dx,l,g1,g2,g3⟩:=S1.obj j _ p hM hp;rw[h3] at g1;cases g1;have a74:l.lookup m=none:=Wq Yd g3;refine⟨p,dx,l,rfl,g2,a74,Wl S1 R1 e2 fun ι2 H2 vs zg S2 R2 r2=>?_⟩;rw[zp];exact⟨ι2,M2,.ref j::ds,d,M',S2,.cons (r.mono zg) r2,by rw[iw,Ij e2,hlen],e,fun ι' H' v Xi S' r'=>q ι' H' v ((le.trans zg).trans Xi) S' r'⟩
   |_=>cases e
def a0j:PE X (.Dict [] [] pos) (tE nm W X.K .ajb):=PE.of anx fun σ H Q ι ρ M d M' S R e q=>by
 rw[MW.al9] at e;cases e;intro p hp;obtain⟨S2,zg⟩:=S.new (o:=.dT []) (H':=upd H p (.dT [])) hp (λa u e=>by rw[j5 (km e hp)];exact e) λ_=>⟨[],vh,.nil⟩
 exact q _ _ _ zg S2 (.ref (by show(ι.l++[p])[M.length]?=some p;rw[<- S.len];simp))
def a0k:PE X (.Dict [] [] pos) (tE nm W X.K .aez):=PE.of anw fun σ H Q ι ρ M d M' S R e q=>by
 rw[MW.ama] at e;cases e;intro p hp;obtain⟨S2,zg⟩:=S.new (o:=.dK []) (H':=upd H p (.dK [])) hp (λa u e=>by rw[j5 (km e hp)];exact e) λ_=>⟨[],vh,.nil⟩
 exact q _ _ _ zg S2 (.ref (by show(ι.l++[p])[M.length]?=some p;rw[<- S.len];simp))
def bd6(nm:Nm)(K:Fg):ay4:=λo i v H Q=>∃ι M x y d M',m5 nm K ι H M/\Rep K ι H x o/\Rep K ι H y i/\Rep K ι H d v/\MW.setOp x y d M=some M'/\∀H',Le ι H ι H'->m5 nm K ι H' M'->Q H'
def Wr(h:n<100000):n<sizeLine:=gr h Rn
set_option tactic.hygienic true in
def at8(hu:X.A.units+1<cLine):ay5 X (bd6 nm X.K):=by
 intro pins s σ H o i v ov iv u Q I ro ri rv hh;obtain⟨ι,M,x,y,d,M',S,rx,ry,rd,e,q⟩:=hh;obtain⟨j,hx⟩:∃j,x=.ref j:=by cases x<;>first|exact⟨_,rfl⟩|cases e
 subst hx;obtain⟨p,rfl,hp⟩:∃p,o=.ref p/\ι.l[j]?=some p:=by cases rx with|ref z=>exact⟨_,rfl,z⟩
 simp only[MW.setOp] at e;split at e
 . rename_i xs hM
   split at e
   . rename_i k
     obtain⟨qq,e1,e2⟩:=cu.mp e;subst e2;cases ry;obtain⟨vs,h1,h2⟩:=S.obj j _ p hM hp;refine set_list pins s σ H _ _ v ov iv u Q I ro ri rv ⟨p,vs,k,qq,rfl,rfl,h1,by rw[<- h2.length];exact e1,?_⟩;obtain⟨S2,zg⟩:=S.put (u:=.lst (vs.set qq v)) (o:=.lst (xs.set qq d)) hM hp (by rw[h1];trivial) λle=>⟨_,vh,(h2.mono le).set (rd.mono le) qq⟩
     exact q _ zg S2
   . cases e
 . rename_i gq hM
   obtain⟨k,e1,e⟩:=dq.mp e;split at e<;>cases e;rename_i hl;obtain⟨l,h1,h2⟩:=S.obj j _ p hM hp;obtain⟨b,rfl,hb⟩:=Wm ry e1;cases ro;refine Yy (H':=upd H p (.dT (putK l k v))) (y:=.ref b) (v:=v) hu I (afu.t h1 hb (by rw[<- h2.length];exact Wr hl)) ri rv λs' I'=>⟨_,I',?_⟩
   obtain⟨S2,zg⟩:=S.put (u:=.dT (putK l k v)) (o:=.dT (MW.Dy gq k d)) hM hp (by rw[h1];trivial) λle=>⟨_,vh,(h2.mono le).put (rd.mono le)⟩
   exact q _ zg S2
 . rename_i gq hM
   obtain⟨k,e1,e⟩:=dq.mp e;split at e<;>cases e;rename_i hl;obtain⟨l,h1,h2⟩:=S.obj j _ p hM hp;have hy:=Tp ry e1;subst hy;cases ro;refine Yy (H':=upd H p (.dK (putK l k v))) (y:=kV k) (v:=v) hu I (afu.k h1 (by rw[<- h2.length];exact Wr hl)) ri rv λs' I'=>⟨_,I',?_⟩
   obtain⟨S2,zg⟩:=S.put (u:=.dK (putK l k v)) (o:=.dK (MW.Dy gq k d)) hM hp (by rw[h1];trivial) λle=>⟨_,vh,(h2.mono le).put (rd.mono le)⟩
   exact q _ zg S2
 . cases e
def Ws(h:Tq e=true)(t:Expr)(l:Nat)(env:Env):swapsWithSole [t] e l env=pure false:=by unfold swapsWithSole;exact Oq h _ _ _
def aot(e o b:Expr)(p:Pos)(l:Nat)(env:Env):swapsWithSole [.Subscript o b p] e l env=pure false:=by cases e<;>rfl
def aou(hu:X.A.units+1<cLine)(he:PE X a (tE nm W X.K a'))(ho:PE X o (tE nm W X.K o'))(hi:PE X b (tE nm W X.K b'))(ha:∀v,assign (.Subscript o b pos') X.env v=(do
 let ov <- holding [v] (eval o X.env)
 let iv <- holding [v,ov] (eval b X.env)
 standAt pos'
 holding [v,ov,iv] (setItem ov iv v)
 release [v,ov,iv] [])):PS X (.Assign [.Subscript o b pos'] a pos) (tS nm W X.K (.asg (.sub o' b') a')) :=
 PS.of (ane he (ay7 ho hi (at8 (nm:=nm) hu) ha) (aot _ _ _ _ _ _) (by rfl) (by rfl)) λD σ H ι ρ M fl ρ' M' S R e q=>by
  rw[MW.Z1] at e;obtain⟨x,M1,e1,e⟩:=dz e;obtain⟨ρ2,M2,e2,e⟩:=dz e;cases e;rw[MW.asj] at e2;obtain⟨y,M3,e3,e2⟩:=dz e2;obtain⟨z,M4,e4,e2⟩:=dz e2;obtain⟨M5,M6,e5,e6⟩:=dz e2;obtain⟨e7,e8⟩:=w5 e5;subst e8;cases e6;refine one S R e1 fun ι1 H1 v le S1 R1 r=>?_
  refine one S1 R1 e3 fun ι2 H2 v2 zg S2 R2 r2=>one S2 R2 e4 fun ι3 H3 v3 Wk S3 R3 r3=>?_
  exact⟨ι3,_,y,z,x,_,S3,r2.mono Wk,r3,(r.mono zg).mono Wk,e7,λH' Xi S'=>q ι3 H' σ (((le.trans zg).trans Wk).trans Xi) S' (R3.mono Xi)⟩
set_option tactic.hygienic true in
def aov(hn:n=nm.fld f)(hcl:∀c C,nm.cls c=some C->Cls X.K C/\G8 X.K C n)(he:PE X a (tE nm W X.K a'))(ho:PE X o (tE nm W X.K o'))(Ip:Tq a=true) :
 PS X (.Assign [.Attribute o n pos'] a pos) (tS nm W X.K (.asg (.fld o' f) a')) :=
 PS.of (azm ho he (Oq Ip _ _ _)) λD σ H ι ρ M fl ρ' M' S R e q=>by
  rw[MW.Z1] at e;obtain⟨x,M1,e1,e⟩:=dz e;obtain⟨ρ2,M2,e2,e⟩:=dz e;cases e;rw[MW.asl] at e2;obtain⟨y,M3,e3,e2⟩:=dz e2;obtain⟨M5,M6,e5,e6⟩:=dz e2;obtain⟨e7,e8⟩:=w5 e5;subst e8;cases e6;refine one S R e1 fun ι1 H1 v le S1 R1 r=>one S1 R1 e3 fun ι2 H2 v2 zg S2 R2 r2=>?_
  obtain⟨j,hx⟩:∃j,y=.ref j:=by cases y<;>first|exact⟨_,rfl⟩|cases e7
  subst hx;obtain⟨p,rfl,hp⟩:∃p,v2=.ref p/\ι2.l[j]?=some p:=by cases r2 with|ref z=>exact⟨_,rfl,z⟩
  simp only[MW.Q5] at e7;split at e7
  . rename_i c fs hM
    have hl:fs.length<1000:=by
     by_cases z:fs.length<1000
     . exact z
     . rw[bx z] at e7;cases e7
    rw[dh hl] at e7;cases e7;obtain⟨C,dx,l,h1,h2,h3⟩:=S2.obj j _ p hM hp;subst hn;obtain⟨g1,g2⟩:=hcl c C h1;refine⟨p,C,dx,l,rfl,h2,g1,g2,by rw[<- h3.length];exact hl,?_⟩;obtain⟨S3,Wk⟩:=S2.put (u:=.ins C dx (Iv (nm.fld f) v l)) (o:=.ins c (MW.T7 f x fs)) hM hp (by rw[h2];trivial) λXi=>⟨C,dx,_,h1,vh,(h3.mono Xi).Iv ((r.mono zg).mono Xi)⟩
    exact q ι2 _ σ ((le.trans zg).trans Wk) S3 (R2.mono Wk)
  . cases e7
def Cy.weak(h:Cy X f r)(w:∀xs H Q,r' xs H Q->r xs H Q):Cy X f r':=λpins s σ H xs us Q I rs q=>h pins s σ H xs us Q I rs (w xs H Q q)
def rB(nm:Nm)(K:Fg)(b:Blt):List V->Hp->VK->Prop:=λvs H Q=>∃ι M ds d M',m5 nm K ι H M/\j6 K ι H ds vs/\MW.qx b ds M=.ok d M'/\∀ι' H' v,Le ι H ι' H'->m5 nm K ι' H' M'->Rep K ι' H' d v->Q v H'
def Cy.of(h:Cy X f r)(w:∀vs H Q ι M ds d M',m5 nm X.K ι H M->j6 X.K ι H ds vs->MW.qx bb ds M=.ok d M'->(∀ι' H' v,Le ι H ι' H'->m5 nm X.K ι' H' M'->Rep X.K ι' H' d v->Q v H')->r vs H Q):Cy X f (rB nm X.K bb) :=
 Cy.weak h λvs H Q ⟨ι,M,ds,d,M',S,r,e,q⟩=>w vs H Q ι M ds d M' S r e q
def adi{X:Cx}:∀σ H Q,tE nm W X.K (.blt t es') σ H Q->tCB (rB nm X.K t) (Xh nm W X.K es') σ H Q:=fun σ H Q hh=>by obtain⟨ι,ρ,M,d,M',S,R,e,q⟩:=hh;rw[MW.Z0] at e;obtain⟨ds,M1,e1,e⟩:=dz e;exact Wl S R e1 fun ι1 H1 vs le S1 R1 r=>⟨ι1,M1,ds,d,M',S1,r,e,fun ι' H' v Xi S' r'=>q ι' H' v (le.trans Xi) S' r'⟩
def aht{id:String}(hc:Cy X (.builtin id) (rB nm X.K t))(hg:Gl X x)(hm:X.mg x=none)(hv:bootBuiltins x=some (.builtin id))(ha:PA X (a::es) (Xh nm W X.K es'))(hn:x≠"__name__")(Uk:(x==("__debug__" : Str))=false)(he:starEach (a::es) X.env=(false,eval a X.env)::starEach es X.env)(Ip:(backTo pos (starEach es X.env)).any (·.1)=false):PE X (.Call (.Name x p) (a::es) [] pos) (tE nm W X.K (.blt t es')):=PE.weak (anr hc hg hm hv ha hn Uk he Ip) adi
def aow(hc:Cy X (.type T) (rB nm X.K t))(hg:Gl X x)(hm:X.mg x=none)(hv:bootBuiltins x=some (.type T))(ha:PA X (a::es) (Xh nm W X.K es'))(hn:x≠"__name__")(Uk:(x==("__debug__" : Str))=false)(he:starEach (a::es) X.env=(false,eval a X.env)::starEach es X.env)(Ip:(backTo pos (starEach es X.env)).any (·.1)=false):PE X (.Call (.Name x p) (a::es) [] pos) (tE nm W X.K (.blt t es')):=PE.weak (aj3 hc hg hm hv ha hn Uk he Ip) adi
def Jj(r:j6 K ι H ds vs)(h:ds=[d]):∃v,vs=[v]/\Rep K ι H d v:=by subst h;cases r with|cons h t=>cases t;exact⟨_,rfl,h⟩
def at9:Cy X (.type "tuple") (rB nm X.K .tuple):=Cy.of Xx λvs H Q ι M ds d M' S r e q=>by
 cases r with
 |nil=>simp[MW.qx] at e
 |@cons x v _ _ h t =>
  cases t with
  |cons h2 t2=>simp[MW.qx] at e
  |nil =>
   have e:Res.uo ((MW.Bj M x).map MW.D.tup) M=.ok d M':=e;obtain⟨e1,e2⟩:=w5 e;subst e2;obtain⟨xs,e3,rfl⟩:=cu.mp e1;obtain⟨p,us,rfl,hp,ru⟩:=Km S h e3;rcases hp with hp|hp
   . refine⟨p,us,rfl,.inl ⟨Hf.of hp,λl hl=>?_⟩⟩
     obtain⟨S2,zg,r2⟩:=Lq S hl ru;exact q ι _ _ zg S2 r2
   . exact⟨p,us,rfl,.inr ⟨Kv.of hp,q ι H _ (Le.refl _ _) S (.tup hp ru)⟩⟩
set_option tactic.hygienic true in
def a75:Cy X (.builtin "len") (rB nm X.K .len):=Cy.of aat λvs H Q ι M ds d M' S r e q=>by
 cases r with
 |nil=>simp[MW.qx] at e
 |@cons x v _ _ h t =>
  cases t with
  |cons h2 t2=>simp[MW.qx] at e
  |nil =>
   have fin:∀xs,(MW.Bj M x=some xs)->d=.int xs.length->M'=M->∃p ys,[v]=[V.ref p]/\(Hf X.K H p ys\/Kv X.K H p ys)/\Q (.int ys.length) H:=λxs e3 e1 e2=>by subst e1 e2;obtain⟨p,us,rfl,hp,ru⟩:=Km S h e3;exact⟨p,us,rfl,hp.imp Hf.of Kv.of,by rw[<- ru.length];exact q ι H _ (Le.refl _ _) S (.int _)⟩
   cases h with
   |fz e1 r1 =>
    cases e;exact⟨_,_,rfl,.inl e1.sq,by rw[<- r1.length];exact q ι H _ (Le.refl _ _) S (.int _)⟩
   |@ref n p e1 =>
    have e:(match M[n]? with|some (.lst ds)=>Res.ok (MW.D.int ds.length) M|_=>.bad)=Res.ok d M':=e;split at e
    . rename_i ds hM
      cases e;exact fin ds (by simp[MW.Bj,MW.gf,hM]) rfl rfl
    . cases e
   |tup e1 r1=>cases e;exact fin _ rfl rfl rfl|vl e1 n1 r1=>cases e;exact fin _ rfl rfl rfl|_=>cases e
open MW
noncomputable def Hb(f:Dv->Dv->Option Bool)(as bs:List Dv)(j:Nat):Bool:=match as[j]?,bs[j]? with
 |some a,some b=>(f a b).getD false|_,_=>false
set_option tactic.hygienic true in
theorem Ik{f:Dv->Dv->Option Bool}:∀{as bs:List Dv}{r:Bool},MW.Sg f as bs=some r->(∀(j:Nat) a b,as[j]?=some a->bs[j]?=some b->∃c,f a b=some c) /\
 r=((List.range (min as.length bs.length)).all (Hb f as bs)&&as.length==bs.length)
 |[],[],r,h=>by cases h;exact⟨λj a b e=>by simp at e,by simp⟩
 |[],b::bs,r,h=>by cases h;exact⟨λj a b e=>by simp at e,by simp⟩
 |a::as,[],r,h=>by cases h;exact⟨λj a b _ e=>by simp at e,by simp⟩
 |a::as,b::bs,r,h=>by
  simp only[MW.Sg] at h;split at h
  . rename_i x y h1 h2
    cases h;obtain⟨g1,g2⟩:=Ik h2;refine⟨λj a' b' e1 e2=>?_,?_⟩
    . cases j with
      |zero=>simp at e1 e2;subst e1 e2;exact⟨x,h1⟩|succ j=>exact g1 j a' b' (by simpa using e1) (by simpa using e2)
    . rw[iw,iw,Nat.succ_min_succ,List.range_succ_eq_map,List.all_cons,List.all_map]
      have z:Hb f (a::as) (b::bs) 0=x:=by simp[Hb,h1]
      have z2:(Hb f (a::as) (b::bs) ∘ Nat.succ)=Hb f as bs:=by funext j;simp[Hb]
      rw[z,z2,g2];have z3:(as.length+1==bs.length+1)=(as.length==bs.length):=by
       by_cases q:as.length=bs.length
       . simp[q]
       . have:¬(as.length+1=bs.length+1):=by lia
         simp[q,this]
      rw[z3,Bool.and_assoc]
  . cases h
set_option tactic.hygienic true in
theorem Ot{ι:Io}{H:Hp}{K:Fg}{f:Dv->Dv->Option Bool}(hf:∀x y v r,Rep K ι H x v->Rep K ι H y v->f x y=some r->r=true):∀{as bs:List Dv}{vs:List V}{r:Bool},j6 K ι H as vs->j6 K ι H bs vs->MW.Sg f as bs=some r->r=true
 |_,_,_,_,.nil,.nil,h=>by cases h;rfl
 |_,_,_,_,.cons h1 t1,.cons h2 t2,h=>by
  simp only[MW.Sg] at h;split at h
  . rename_i x y e1 e2
    cases h;rw[hf _ _ _ _ h1 h2 e1,Ot hf t1 t2 e2];rfl
  . cases h
inductive EqI(M:cz)(f:Dv->Dv->Option Bool):Dv->Dv->Bool->Prop
 |non:EqI M f .non .non true
 |bl (a b:Bool):EqI M f (.bl a) (.bl b) (a==b)
 |int (a b:Int):EqI M f (.int a) (.int b) (decide (a=b))
 |str (a b:Str):EqI M f (.str a) (.str b) (decide (a=b))
 |tup {as bs:List Dv} {r:Bool} (h:MW.Sg f as bs=some r):EqI M f (.tup as) (.tup bs) r
 |lst {x y:Dv} {as bs:List Dv} {r:Bool} (h1:MW.gf M x=some as) (h2:MW.gf M y=some bs) (h:(if as.length=bs.length then MW.Sg f as bs else some false)=some r):EqI M f x y r
set_option tactic.hygienic true in
def aa1(h:MW.Mw M (k+1) x y=some r):EqI M (MW.Mw M k) x y r:=by
 unfold MW.Mw at h;split at h
 . cases h;exact .int _ _
 . cases h;exact .bl _ _
 . cases h;exact .str _ _
 . cases h;exact .non
 . exact .tup h
 . split at h
   . rename_i h1 h2;exact .lst h1 h2 h
   . cases h
def adk{X:Cx}(S:m5 nm X.K ι H M)(rx:Rep X.K ι H x v)(ry:Rep X.K ι H y v)(h1:MW.gf M x=some ds)(h2:MW.gf M y=some es):∃vs,j6 X.K ι H ds vs/\j6 X.K ι H es vs:=by obtain⟨p,vs,rfl,g1,g2⟩:=qt S rx h1;obtain⟨p',ws,hw,g3,g4⟩:=qt S ry h2;cases hw;rw[g1] at g3;cases g3;exact⟨vs,g2,g4⟩
theorem aa2{nm:Nm}{ι:Io}{H:Hp}{M:cz}{X:Cx}(S:m5 nm X.K ι H M):∀(k:Nat)(x y:Dv)(v:V)(r:Bool),Rep X.K ι H x v->Rep X.K ι H y v->MW.Mw M k x y=some r->r=true
 |0,_,_,_,_,_,_,h=>by cases h
 |k+1,x,y,v,r,rx,ry,h=>by
  have ih:=aa2 S k;cases aa1 h with
  |non=>rfl|bl a b=>cases rx;cases ry;simp|int a b=>cases rx;cases ry;simp|str a b=>cases rx;cases ry;simp
  |tup h=>cases rx with
   |tup e1 r1=>cases ry with
    |tup e2 r2=>rw[e1] at e2;cases e2;exact Ot ih r1 r2 h
  |lst h1 h2 h3 =>
   obtain⟨vs,r1,r2⟩:=adk S rx ry h1 h2;rw[dh (r1.length.trans r2.length.symm)] at h3;exact Ot ih r1 r2 h3
def Vals.adl{j:Nat}(r:Vals xs us)(h1:xs[j]?=some v)(h2:us[j]?=some u):RelV v u:=by obtain⟨u',e1,e2⟩:=L2.Vals.get r h1;rw[h2] at e1;cases e1;exact e2
theorem Lw{ι:Io}{H:Hp}{K:Fg}:∀{l:List (List Kx×Dv)}{l':List (List Key×V)},qm K ι H (λk k'=>k=k') l l'->l'.map (·.1)=l.map (·.1)
 |_,_,.nil=>rfl|_,_,.cons k h t=>by simp[Lw t,k]
def ahu(r:KT H l xs):xs.map (·.1)=l.map (·.1)/\∀x∈xs,H x.2.1=some (.tup (x.1.map kV)):=by
 induction r with
 |nil=>exact⟨rfl,by simp⟩
 |@cons p q ps qs hq t ih =>
  refine⟨by simp[ih.1,hq.1],λx hx=>?_⟩;rcases bz.mp hx with rfl|hx
  . rw[<- hq.1];exact hq.2.1
  . exact ih.2 x hx
set_option tactic.hygienic true in
theorem Wt{nm:Nm}{X:Cx}{ι:Io}{H:Hp}{σ:St}{M:cz}{pins:Zp}{s:Shared}(I:Inv X pins σ H s)(S:m5 nm X.K ι H M):∀(k:Nat)(A:Around)(x y:Dv)(v u:V)(v' u':Value)(r:Bool),Ah k A->Rep X.K ι H x v->Rep X.K ι H y u->RelV v v'->RelV u u'->MW.Mw M k x y=some r->SeqAt.EqAt A s v' u' r
 |0,_,_,_,_,_,_,_,_,_,_,_,_,_,h=>by cases h
 |k+1,A,x,y,v,u,v',u',r,hr,rx,ry,rv,ru,h=>by
  have ih:=Wt I S k A.in1;have hr1:=hr.in1;have elems:∀(ds es:List Dv)(vs ws:List V)(is js:Zl)(rr:Bool),j6 X.K ι H ds vs->j6 X.K ι H es ws->Vals vs is->Vals ws js->MW.Sg (MW.Mw M k) ds es=some rr ->
   ∀j (h1:j<is.toArray.size) (h2:j<js.toArray.size),SeqAt.EqAt A.in1 s is.toArray[j] js.toArray[j] (Hb (MW.Mw M k) ds es j):=λds es vs ws is js rr rd re Xz rws he j h1 h2=>by
   have l1:j<ds.length:=by rw[rd.length,Xz.length];simpa using h1
   have l2:j<es.length:=by rw[re.length,rws.length];simpa using h2
   have g1:ds[j]?=some ds[j]:=by simp[l1]
   have g2:es[j]?=some es[j]:=by simp[l2]
   obtain⟨c,hc⟩:=(Ik he).1 j _ _ g1 g2;obtain⟨va,a1,a2⟩:=rd.get g1;obtain⟨wa,b1,b2⟩:=re.get g2;have q1:is[j]?=some is.toArray[j]:=by simp
   have q2:js[j]?=some js.toArray[j]:=by simp
   have:=ih _ _ va wa _ _ c hr1 a2 b2 (Vals.adl Xz a1 q1) (Vals.adl rws b1 q2) hc;have z:Hb (MW.Mw M k) ds es j=c:=by simp[Hb,g1,g2,hc]
   rw[z];exact this
  have lists:∀(p p2:Addr)(ds es:List Dv),v=.ref p->u=.ref p2->MW.gf M x=some ds->MW.gf M y=some es->(if ds.length=es.length then MW.Sg (MW.Mw M k) ds es else some false)=some r->SeqAt.EqAt A s v' u' r:=λp p2 ds es hv hu h1 h2 h3=>by
   subst hv hu;cases rv;cases ru;obtain⟨_,vs,hv,g1,g2⟩:=qt S rx h1;cases hv;obtain⟨_,ws,hw,g3,g4⟩:=qt S ry h2;cases hw
   by_cases hpp:p=p2
   . subst hpp
     have:r=true:=by rw[g1] at g3;cases g3;rw[dh (g2.length.trans g4.length.symm)] at h3;exact Ot (λx y v r a b c=>aa2 S k x y v r a b c) g2 g4 h3
     rw[this];exact SeqAt.EqAt.same _
   . refine SeqAt.EqAt.of_refs hpp ?_
     obtain⟨is,r1,pl1,_⟩:=I.list (Hf.of g1);obtain⟨js,r2,pl2,_⟩:=I.list (Hf.of g3)
     by_cases hl:ds.length=es.length
     . rw[dh hl] at h3
       have hsz:is.toArray.size=js.toArray.size:=by simp[<- r1.length,<- r2.length,<- g2.length,<- g4.length,hl]
       have:=SeqAt.RcAt.lists (e:=Hb (MW.Mw M k) ds es) pl1.isList pl2.isList hsz hr.Wa (elems ds es vs ws is js r g2 g4 r1 r2 h3);rw[(Ik h3).2];have e1:is.toArray.size=min ds.length es.length:=by simp[<- r1.length,<- g2.length,hl]
       rw[e1] at this;simpa[hl] using this
     . rw[bx hl] at h3
       cases h3;exact SeqAt.RcAt.lists_lengths pl1.isList pl2.isList (by simp[<- r1.length,<- r2.length,<- g2.length,<- g4.length,hl]) hr.Wa
  cases aa1 h with
  |non=>cases rx;cases ry;cases rv;cases ru;exact SeqAt.EqAt.same _|bl a b=>cases rx;cases ry;cases rv;cases ru;exact SeqAt.EqAt.bool_bool _ _
  |int a b =>
   cases rx;cases ry;obtain⟨t,rfl⟩:=rv;obtain⟨t2,rfl⟩:=ru;rw[<- Bool.beq_eq_decide_eq];exact SeqAt.EqAt.int_int _ _ _ _
  |str a b =>
   cases rx;cases ry;obtain⟨t,rfl⟩:=rv;obtain⟨t2,rfl⟩:=ru;rw[<- Bool.beq_eq_decide_eq];exact SeqAt.EqAt.str_str _ _ _ _
  |@tup ds es _ h=>cases rx with
   |@tup p _ vs e1 r1=>cases ry with
    |@tup p2 _ ws e2 r2 =>
     cases rv;cases ru
     by_cases hpp:p=p2
     . subst hpp
       have:r=true:=by rw[e1] at e2;cases e2;exact Ot (λx y v r a b c=>aa2 S k x y v r a b c) r1 r2 h
       rw[this];exact SeqAt.EqAt.same _
     . refine SeqAt.EqAt.of_refs hpp ?_
       obtain⟨is,g1,pl1,_⟩:=I.tuple (Kv.of e1);obtain⟨js,g2,pl2,_⟩:=I.tuple (Kv.of e2);have:=SeqAt.RcAt.tuples (e:=Hb (MW.Mw M k) ds es) (show s.heap.IsTuple p is.toArray from pl1) (show s.heap.IsTuple p2 js.toArray from pl2) hr.Wa (elems ds es vs ws is js r r1 r2 g1 g2 h);rw[(Ik h).2];have z1:is.toArray.size=ds.length:=by simp[<- g1.length,<- r1.length]
       have z2:js.toArray.size=es.length:=by simp[<- g2.length,<- r2.length]
       rw[z1,z2] at this;exact this
  |lst h1 h2 h3 =>
   obtain⟨p,_,e1,_⟩:=qt S rx h1;obtain⟨p2,_,e2,_⟩:=qt S ry h2;exact lists p p2 _ _ e1 e2 h1 h2 h3
inductive aa3(A:Around)(s:Shared):Value->Value->Bool->Prop
 |V8 {p p2:Addr} {is js:U1} (e:Nat->Bool) (h1:s.heap.IsTuple p is) (h2:s.heap.IsTuple p2 js) (he:∀j (h1:j<is.size) (h2:j<js.size),SeqAt.EqAt A.in1 s is[j] js[j] (e j)):aa3 A s (.ref p) (.ref p2) ((List.range (min is.size js.size)).all e&&is.size==js.size)
 |a77 {p p2:Addr} {is js:U1} (e:Nat->Bool) (h1:s.heap.IsList p is) (h2:s.heap.IsList p2 js) (hz:is.size=js.size) (he:∀j (h1:j<is.size) (h2:j<js.size),SeqAt.EqAt A.in1 s is[j] js[j] (e j)):aa3 A s (.ref p) (.ref p2) ((List.range is.size).all e)
 |lens {p p2:Addr} {is js:U1} (h1:s.heap.IsList p is) (h2:s.heap.IsList p2 js) (hz:(is.size != js.size)=true):aa3 A s (.ref p) (.ref p2) false
def Y8{A:Around}(I:Inv X pins σ H s)(S:m5 nm X.K ι H M)(hr:Ah k A.in1)(rd:j6 X.K ι H ds vs)(re:j6 X.K ι H es ws)(Xz:Vals vs is)(rws:Vals ws js)(he:MW.Sg (MW.Mw M k) ds es=some rr) :
 ∀j (h1:j<is.toArray.size) (h2:j<js.toArray.size),SeqAt.EqAt A.in1 s is.toArray[j] js.toArray[j] (Hb (MW.Mw M k) ds es j):=λj h1 h2=>by
 have l1:j<ds.length:=by rw[rd.length,Xz.length];simpa using h1
 have l2:j<es.length:=by rw[re.length,rws.length];simpa using h2
 have g1:ds[j]?=some ds[j]:=by simp[l1]
 have g2:es[j]?=some es[j]:=by simp[l2]
 obtain⟨c,hc⟩:=(Ik he).1 j _ _ g1 g2;obtain⟨va,a1,a2⟩:=rd.get g1;obtain⟨wa,b1,b2⟩:=re.get g2;have q1:is[j]?=some is.toArray[j]:=by simp
 have q2:js[j]?=some js.toArray[j]:=by simp
 have:=Wt I S k A.in1 _ _ va wa _ _ c hr a2 b2 (Vals.adl Xz a1 q1) (Vals.adl rws b1 q2) hc;have z:Hb (MW.Mw M k) ds es j=c:=by simp[Hb,g1,g2,hc]
 rw[z];exact this
def af4(I:Inv X pins σ H s)(S:m5 nm X.K ι H M)(hr:Ah k A.in1)(rx:Rep X.K ι H x v)(ry:Rep X.K ι H y u)(rv:RelV v v')(ru:RelV u u')(h1:MW.gf M x=some ds)(h2:MW.gf M y=some es)(h3:(if ds.length=es.length then MW.Sg (MW.Mw M k) ds es else some false)=some r):aa3 A s v' u' r:=by
 obtain⟨p,vs,rfl,g1,g2⟩:=qt S rx h1;obtain⟨p2,ws,rfl,g3,g4⟩:=qt S ry h2;cases rv;cases ru;obtain⟨is,r1,pl1,_⟩:=I.list (Hf.of g1);obtain⟨js,r2,pl2,_⟩:=I.list (Hf.of g3)
 by_cases hl:ds.length=es.length
 . rw[dh hl] at h3
   have hsz:is.toArray.size=js.toArray.size:=by simp[<- r1.length,<- r2.length,<- g2.length,<- g4.length,hl]
   have z:=aa3.a77 (A:=A) (Hb (MW.Mw M k) ds es) pl1.isList pl2.isList hsz (Y8 I S hr g2 g4 r1 r2 h3);rw[(Ik h3).2];have e1:is.toArray.size=min ds.length es.length:=by simp[<- r1.length,<- g2.length,hl]
   rw[e1] at z;simpa[hl] using z
 . rw[bx hl] at h3
   cases h3;exact .lens pl1.isList pl2.isList (by simp[<- r1.length,<- r2.length,<- g2.length,<- g4.length,hl])
set_option tactic.hygienic true in
def adm(I:Inv X pins σ H s)(S:m5 nm X.K ι H M)(hr:Ah k A.in1)(rx:Rep X.K ι H x v)(ry:Rep X.K ι H y u)(rv:RelV v v')(ru:RelV u u')(h:MW.Mw M (k+1) x y=some r) :
 aa3 A s v' u' r\/(azk v u=true/\r=decide (v=u)):=by
 cases aa1 h with
 |non=>cases rx;cases ry;exact .inr ⟨rfl,by simp⟩|bl a b=>cases rx;cases ry;exact .inr ⟨rfl,by by_cases z:a=b<;>simp[z]⟩|int a b=>cases rx;cases ry;exact .inr ⟨rfl,by by_cases z:a=b<;>simp[z]⟩|str a b=>cases rx;cases ry;exact .inr ⟨rfl,by by_cases z:a=b<;>simp[z]⟩
 |@tup ds es _ h=>cases rx with
  |@tup p _ vs e1 r1=>cases ry with
   |@tup p2 _ ws e2 r2 =>
    cases rv;cases ru;obtain⟨is,g1,pl1,_⟩:=I.tuple (Kv.of e1);obtain⟨js,g2,pl2,_⟩:=I.tuple (Kv.of e2);have z:=aa3.V8 (A:=A) (Hb (MW.Mw M k) ds es) (show s.heap.IsTuple p is.toArray from pl1) (show s.heap.IsTuple p2 js.toArray from pl2) (Y8 I S hr r1 r2 g1 g2 h);rw[(Ik h).2];have z1:is.toArray.size=ds.length:=by simp[<- g1.length,<- r1.length]
    have z2:js.toArray.size=es.length:=by simp[<- g2.length,<- r2.length]
    rw[z1,z2] at z;exact .inl z
 |lst h1 h2 h3=>exact .inl (af4 I S hr rx ry rv ru h1 h2 h3)
def aa3.rc(h:aa3 A s v u r)(hu:A.units<cLine):SeqAt.RcAt A s v u r/\SeqAt.RcNeAt A s v u (!r):=by
 cases h with
 |V8 e h1 h2 he=>exact⟨SeqAt.RcAt.tuples h1 h2 hu he,SeqAt.RcNeAt.tuples h1 h2 hu he⟩|a77 e h1 h2 hz he=>exact⟨SeqAt.RcAt.lists h1 h2 hz hu he,SeqAt.RcNeAt.lists h1 h2 hz hu he⟩|lens h1 h2 hz=>exact⟨SeqAt.RcAt.lists_lengths h1 h2 hz hu,SeqAt.RcNeAt.lists_lengths h1 h2 hz hu⟩
def bd7(hr:Ah 6 X.A):Dh X (compareOp .Eq) (Wi nm X.K .eq):=λpins s σ H v u v' u' Q I rv ru hh=>by
 obtain⟨ι,M,x,y,b,S,rx,ry,e,q⟩:=hh;have e:MW.Mw M 6 x y=some b:=e;rcases adm (A:=X.A) I S hr.in1 rx ry rv ru e with h|⟨h1,h2⟩
 . exact(h.rc hr.Wa).1 X.prog X.w X.xe _ ⟨.bl b,H,I,rfl,q⟩
 . subst h2
   exact a6a pins s σ H v u v' u' Q I rv ru ⟨h1,q⟩
def bd8(hr:Ah 6 X.A):Dh X (compareOp .NotEq) (Wi nm X.K .ne):=λpins s σ H v u v' u' Q I rv ru hh=>by
 obtain⟨ι,M,x,y,b,S,rx,ry,e,q⟩:=hh;obtain⟨b',e1,e2⟩:=cu.mp (show(MW.wz M x y).map not=some b from e);subst e2;rcases adm (A:=X.A) I S hr.in1 rx ry rv ru (show MW.Mw M 6 x y=_ from e1) with h|⟨h1,h2⟩
 . exact(h.rc hr.Wa).2 X.prog X.w X.xe _ ⟨.bl !b',H,I,rfl,q⟩
 . subst h2
   exact a6b pins s σ H v u v' u' Q I rv ru ⟨h1,q⟩
section
variable{nm:Nm}{W:Ir}{X:Cx}{a b c o:Expr}{a' b' c' o':Ex}{pos pos' apos:Pos}{ι:Io}{H:Hp}{σ:St}{ρ:En}{M M1 M2:cz}{x y:Dv}{es:Ya}{es':Dl}
set_option tactic.hygienic true in
theorem Gg:∀{ds:List Dv}{bs:List Bool},MW.Qm M x ds=some bs->bs.length=ds.length/\∀(j:Nat) d,ds[j]?=some d->∃b,bs[j]?=some b/\MW.wz M d x=some b
 |[],bs,h=>by cases h;exact⟨rfl,λj d e=>by simp at e⟩
 |y::ys,bs,h=>by
  simp only[MW.Qm] at h;split at h
  . rename_i a b h1 h2
    cases h;obtain⟨g1,g2⟩:=Gg h2;refine⟨by simp[g1],λj d e=>?_⟩;cases j with
    |zero=>simp at e;subst e;exact⟨a,rfl,h1⟩|succ j=>simpa using g2 j d (by simpa using e)
  . cases h
def Hh(I:Inv X pins σ H s)(e:af1 X.K H p vs):(∃o,H p=some (.Jv o (.lst vs)))\/(H p=none/\∃(o:Obj)(yf:U1)(n:Nat),X.K.lookup p=some o/\o.data=.seq yf n/\Vals vs yf.toList):=by
 rcases e with h|⟨o,yf,n,h1,_,_,h2,_,h3⟩
 . exact .inl h
 . exact .inr ⟨(I.bs p o (I.mod.kin p o h1)).2,o,yf,n,h1,h2,h3⟩
def a0m(I:Inv X pins σ H s)(e:af1 X.K H p vs)(e2:af1 X.K H p ws):vs=ws:=by
 rcases Hh I e with⟨o,h⟩|⟨h,o,yf,n,h1,h2,h3⟩
 . rcases Hh I e2 with⟨o',h'⟩|⟨h',_⟩
   . rw[h] at h';cases h';rfl
   . rw[h] at h';cases h'
 . rcases Hh I e2 with⟨o',h'⟩|⟨_,o',its',n',h1',h2',h3'⟩
   . rw[h] at h';cases h'
   . rw[h1] at h1';cases h1'
     rw[h2] at h2';cases h2';exact Vals.inj h3 h3'
mutual
theorem ahv{pins:Zp}{s:Shared}(I:Inv X pins σ H s)(S:m5 nm X.K ι H M):∀{d d':Dv}{v:V},Rep X.K ι H d v->Rep X.K ι H d' v->d=d'
 |_,_,_,.non,r=>by cases r;rfl|_,_,_,.bl b,r=>by cases r;rfl|_,_,_,.int i,r=>by cases r;rfl|_,_,_,.str z,r=>by cases r;rfl
 |_,_,_,.tup e1 r1,r=>by
  cases r with
  |tup e2 r2 =>
   rw[e1] at e2;cases e2;rw[Rq I S r1 r2]
  |vl e2 n2 r2=>rw[e1] at e2;cases e2
  |fz e2 r2 =>
   rcases Hh I e2 with⟨o,h⟩|⟨h,_⟩
   . rw[e1] at h;cases h
   . rw[e1] at h;cases h
  |ref e2 =>
   obtain⟨u,q,mu⟩:=S.mem (au e2);rw[e1] at mu;exact mu.elim
 |_,_,_,.vl e1 n1 r1,r=>by
  cases r with
  |tup e2 r2=>rw[e1] at e2;cases e2
  |vl e2 n2 r2 =>
   rw[e1] at e2;cases e2;rw[Rq I S r1 r2]
  |fz e2 r2 =>
   rcases Hh I e2 with⟨o,h⟩|⟨h,_⟩
   . rw[e1] at h;cases h
   . rw[e1] at h;cases h
  |ref e2=>exact absurd (au e2) n1.1
 |_,_,_,.fz e1 r1,r=>by
  cases r with
  |tup e2 r2 =>
   rcases Hh I e1 with⟨o,h⟩|⟨h,_⟩
   . rw[e2] at h;cases h
   . rw[e2] at h;cases h
  |vl e2 n2 r2 =>
   rcases Hh I e1 with⟨o,h⟩|⟨h,_⟩
   . rw[e2] at h;cases h
   . rw[e2] at h;cases h
  |fz e2 r2 =>
   have:=a0m I e1 e2;subst this;rw[Rq I S r1 r2]
  |ref e2 =>
   obtain⟨u,q,mu⟩:=S.mem (au e2);rcases Hh I e1 with⟨o,h⟩|⟨h,_⟩
   . rw[h] at mu;exact mu.elim
   . rw[h] at q;cases q
 |_,_,_,.ref e1,r=>by
  cases r with
  |tup e2 r2 =>
   obtain⟨u,q,mu⟩:=S.mem (au e1);rw[e2] at mu;exact mu.elim
  |vl e2 n2 r2=>exact absurd (au e1) n2.1
  |fz e2 r2 =>
   obtain⟨u,q,mu⟩:=S.mem (au e1);rcases Hh I e2 with⟨o,h⟩|⟨h,_⟩
   . rw[h] at mu;exact mu.elim
   . rw[h] at q;cases q
  |ref e2 =>
   obtain⟨l1,q1⟩:=ao.mp e1;obtain⟨l2,q2⟩:=ao.mp e2;rw[(Aq S.nd).mp (q1.trans q2.symm)]
theorem Rq{pins:Zp}{s:Shared}(I:Inv X pins σ H s)(S:m5 nm X.K ι H M):∀{ds ds':List Dv}{vs:List V},j6 X.K ι H ds vs->j6 X.K ι H ds' vs->ds=ds'
 |_,_,_,.nil,r=>by cases r;rfl
 |_,_,_,.cons h t,r=>by
  cases r with
  |cons h2 t2=>rw[ahv I S h h2,Rq I S t t2]
end
def Rr(I:Inv X pins σ H s)(S:m5 nm X.K ι H M)(hr:Ah 6 A)(rd:j6 X.K ι H ds vs)(rv:Vals vs is)(rx:Rep X.K ι H x u)(ru:RelV u u')(h:MW.Qm M x ds=some bs):∃e:Value->Bool,(∀w,w∈is.toArray->SeqAt.EqAt A s w u' (e w))/\∀(j:Nat)(w:Value),is[j]?=some w->bs[j]?=some (e w):=by
 obtain⟨g1,g2⟩:=Gg h;have at':∀(j:Nat)(w:Value),is[j]?=some w->∃b,bs[j]?=some b/\SeqAt.EqAt A s w u' b:=λj w hw=>by
  have lj:j<ds.length:=by rw[rd.length,rv.length];exact(ao.mp hw).1
  have gd:ds[j]?=some ds[j]:=by simp[lj]
  obtain⟨b,e1,e2⟩:=g2 j _ gd;obtain⟨v,a1,a2⟩:=rd.get gd;exact⟨b,e1,Wt I S 6 A _ _ v u w u' b hr a2 rx (Vals.adl rv a1 hw) ru e2⟩
 classical
 refine⟨λw=>if hw:∃j:Nat,is[j]?=some w then(bs[hw.choose]?).getD false else false,λw hw=>?_,λj w hw=>?_⟩
 . obtain⟨j,hj,e⟩:=jo (by simpa using hw:w∈is)
   have hex:∃j:Nat,is[j]?=some w:=⟨j,by simp[hj,e]⟩;obtain⟨b,e1,e2⟩:=at' hex.choose w hex.choose_spec;simp only[dif_pos hex,e1,yz];exact e2
 . have hex:∃j:Nat,is[j]?=some w:=⟨j,hw⟩
   obtain⟨b,e1,e2⟩:=at' j w hw;obtain⟨b',e3,e4⟩:=at' hex.choose w hex.choose_spec;simp only[dif_pos hex,e3,yz];rw[e1]
   congr 1
   have lj:j<ds.length:=by rw[rd.length,rv.length];exact(ao.mp hw).1
   have lk:hex.choose<ds.length:=by rw[rd.length,rv.length];exact(ao.mp hex.choose_spec).1
   have gd:ds[j]?=some ds[j]:=by simp[lj]
   have gk:ds[hex.choose]?=some ds[hex.choose]:=by simp[lk]
   obtain⟨c1,q1,q2⟩:=g2 j _ gd;obtain⟨c2,q3,q4⟩:=g2 hex.choose _ gk;obtain⟨v1,p1,p2⟩:=rd.get gd;obtain⟨v2,p3,p4⟩:=rd.get gk;have hv:v1=v2:=RelV.inj (Vals.adl rv p1 hw) (Vals.adl rv p3 hex.choose_spec);subst hv;rw[e1] at q1;rw[e3] at q3;cases q1;cases q3;have hd:=ahv I S p2 p4;rw[hd,q4] at q2;exact(jq q2).symm
def Vd{is:Zl}{bs:List Bool}(hl:bs.length=is.length)(h:∀(j:Nat) (w:Value),is[j]?=some w->bs[j]?=some (e w)):bs=is.map e:=by
 apply List.ext_getElem?;intro j;rw[ie];cases q:is[j]? with
 |none=>rw[rz (by rw[hl];exact List.getElem?_eq_none_iff.mp q)];rfl|some w=>rw[h j w q];rfl
set_option tactic.hygienic true in
def bd9(hr:Ah 8 X.A):Dh X (compareOp .In) (Wi nm X.K .inn):=λpins s σ H v u v' u' Q I rv ru hh=>by
 obtain⟨ι,M,x,y,b,S,rx,ry,e,q⟩:=hh;have e:MW.Q3 M x y=some b:=e;have hu:X.A.units+1<cLine:=acx hr
 have seq:∀ds,MW.Bj M y=some ds->MW.memD M x ds=some b->wpAny (model X.prog X.w) X.A (compareOp .In v' u') (EP X pins σ Q) X.xe s:=λds h1 h2=>by
  obtain⟨bs,e1,e2⟩:=cu.mp (show(MW.Qm M x ds).map (·.any id)=some b from h2);obtain⟨p,vs,rfl,hp,r⟩:=Km S ry h1;cases ru;rcases hp with hp|hp
  . obtain⟨is,r1,pl,_⟩:=I.list (Hf.of hp)
    obtain⟨f,g1,g2⟩:=Rr (A:=X.A.in1) I S ((hr.mono (by decide:7<=8)).in1) r r1 rx rv e1;refine SeqAt.in_listAt f pl.isList g1 ?_;have:=Vd (by rw[(Gg e1).1,r.length,r1.length]) g2;rw[this] at e2;rw[show is.toArray.any f=b by rw[<- e2];simp[List.any_map]];exact⟨.bl b,H,I,rfl,q⟩
  . obtain⟨is,r1,pl,_⟩:=I.tuple (Kv.of hp)
    obtain⟨f,g1,g2⟩:=Rr (A:=X.A.in1) I S ((hr.mono (by decide:7<=8)).in1) r r1 rx rv e1;refine SeqAt.in_tupleAt f (show s.heap.IsTuple p is.toArray from pl) g1 ?_;have:=Vd (by rw[(Gg e1).1,r.length,r1.length]) g2;rw[this] at e2;rw[show is.toArray.any f=b by rw[<- e2];simp[List.any_map]];exact⟨.bl b,H,I,rfl,q⟩
 cases ry with
 |@ref n p e1 =>
  simp only[MW.Q3] at e;split at e
  . rename_i gq hM
    obtain⟨k,e2,e3⟩:=cu.mp e;obtain⟨l,h1,h2⟩:=S.obj n _ p hM e1;obtain⟨bb,rfl,hb⟩:=Wm rx e2;cases ru;refine a6p hu I (Px.t h1 hb) rv λs' I'=>⟨.bl b,H,I',?_,q⟩
    rw[<- e3];cases hk:MW.Ad gq k with
    |none=>rw[(h2.look (k:=k)).2 hk];rfl|some d=>obtain⟨z,h3,_⟩:=(h2.look (k:=k)).1 d hk;rw[h3];rfl
  . rename_i gq hM
    obtain⟨k,e2,e3⟩:=cu.mp e;obtain⟨l,h1,h2⟩:=S.obj n _ p hM e1;have hy:=Tp rx e2;subst hy;cases ru;refine a6p hu I (Px.k h1) rv λs' I'=>⟨.bl b,H,I',?_,q⟩
    rw[<- e3];cases hk:MW.Ad gq k with
    |none=>rw[(h2.look (k:=k)).2 hk];rfl|some d=>obtain⟨z,h3,_⟩:=(h2.look (k:=k)).1 d hk;rw[h3];rfl
  . obtain⟨ds,h1,h2⟩:=dq.mp e
    exact seq ds h1 h2
 |_ =>
  simp only[MW.Q3] at e;obtain⟨ds,h1,h2⟩:=dq.mp e;exact seq ds h1 h2
set_option tactic.hygienic true in
def aua(hr:Ah 8 X.A):Dh X (compareOp .NotIn) (Wi nm X.K .T6):=λpins s σ H v u v' u' Q I rv ru hh=>by
 obtain⟨ι,M,x,y,b0,S,rx,ry,e,q⟩:=hh;obtain⟨b,e',eb⟩:=cu.mp (show(MW.Q3 M x y).map not=some b0 from e);subst eb;have hu:X.A.units+1<cLine:=acx hr
 have seq:∀ds,MW.Bj M y=some ds->MW.memD M x ds=some b->wpAny (model X.prog X.w) X.A (compareOp .NotIn v' u') (EP X pins σ Q) X.xe s:=λds h1 h2=>by
  obtain⟨bs,e1,e2⟩:=cu.mp (show(MW.Qm M x ds).map (·.any id)=some b from h2);obtain⟨p,vs,rfl,hp,r⟩:=Km S ry h1;cases ru;rcases hp with hp|hp
  . obtain⟨is,r1,pl,_⟩:=I.list (Hf.of hp)
    obtain⟨f,g1,g2⟩:=Rr (A:=X.A.in1) I S ((hr.mono (by decide:7<=8)).in1) r r1 rx rv e1;refine SeqAt.notIn_listAt f pl.isList g1 ?_;have:=Vd (by rw[(Gg e1).1,r.length,r1.length]) g2;rw[this] at e2;rw[show is.toArray.any f=b by rw[<- e2];simp[List.any_map]];exact⟨.bl !b,H,I,rfl,q⟩
  . obtain⟨is,r1,pl,_⟩:=I.tuple (Kv.of hp)
    obtain⟨f,g1,g2⟩:=Rr (A:=X.A.in1) I S ((hr.mono (by decide:7<=8)).in1) r r1 rx rv e1;refine SeqAt.notIn_tupleAt f (show s.heap.IsTuple p is.toArray from pl) g1 ?_;have:=Vd (by rw[(Gg e1).1,r.length,r1.length]) g2;rw[this] at e2;rw[show is.toArray.any f=b by rw[<- e2];simp[List.any_map]];exact⟨.bl !b,H,I,rfl,q⟩
 cases ry with
 |@ref n p e1 =>
  clear e;simp only[MW.Q3] at e';split at e'
  . rename_i gq hM
    obtain⟨k,e2,e3⟩:=cu.mp e';obtain⟨l,h1,h2⟩:=S.obj n _ p hM e1;obtain⟨bb,rfl,hb⟩:=Wm rx e2;cases ru;refine ahg hu I (Px.t h1 hb) rv λs' I'=>⟨.bl !b,H,I',?_,q⟩
    rw[<- e3];cases hk:MW.Ad gq k with
    |none=>rw[(h2.look (k:=k)).2 hk];rfl|some d=>obtain⟨z,h3,_⟩:=(h2.look (k:=k)).1 d hk;rw[h3];rfl
  . rename_i gq hM
    obtain⟨k,e2,e3⟩:=cu.mp e';obtain⟨l,h1,h2⟩:=S.obj n _ p hM e1;have hy:=Tp rx e2;subst hy;cases ru;refine ahg hu I (Px.k h1) rv λs' I'=>⟨.bl !b,H,I',?_,q⟩
    rw[<- e3];cases hk:MW.Ad gq k with
    |none=>rw[(h2.look (k:=k)).2 hk];rfl|some d=>obtain⟨z,h3,_⟩:=(h2.look (k:=k)).1 d hk;rw[h3];rfl
  . obtain⟨ds,h1,h2⟩:=dq.mp e'
    exact seq ds h1 h2
 |_ =>
  simp only[MW.Q3] at e';obtain⟨ds,h1,h2⟩:=dq.mp e';exact seq ds h1 h2
end
open Xk (Dj Su)
def KH(H:Hp)(x:List Key×Addr):Prop:=H x.2=some (.tup (x.1.map kV))/\∀k∈x.1,∃i,k=.inl i
def adn(P:Program)(w:World)(H:Hp):Xk.Ss (m9 P w) (KH H):=λx hx k hk v n hv=>by
 obtain⟨i,rfl⟩:=hx.2 k hk;rcases Az (show V6 (Sum.inl i) v=true from hv) with⟨j,t,e,rfl⟩|⟨y,t,e,_⟩
 . unfold hashByValue;rfl
 . cases e
def Tf:∀ks:List Kx,MW.Ql (MW.Sy ks)=some ks:=λks=>by
 show MW.Zy (ks.map MW.ajc)=some ks
 induction ks with
 |nil=>rfl|cons k ks ih=>cases k<;>simp[MW.Zy,MW.ajc,MW.Sx,ih]
theorem Wu:∀{l:List (List Kx×Dv)},MW.Ef (l.map λp=>MW.Sy p.1)=some (l.map (·.1))
 |[]=>rfl|p::l=>by simp[MW.Ef,Tf,Wu]
set_option tactic.hygienic true in
theorem ahw{ι:Io}{H:Hp}{K:Fg}:∀{ds:List Dv}{vs:List V}{ks:List (List Kx)},j6 K ι H ds vs->MW.Ef ds=some ks->∃bs:List Addr,vs=bs.map V.ref/\bs.length=ks.length/\∀x∈ks.zip bs,H x.2=some (.tup (x.1.map kV))
 |_,_,_,.nil,h=>by simp[MW.Ef] at h;subst h;exact⟨[],rfl,rfl,by simp⟩
 |_,_,_,.cons r t,h=>by
  simp only[MW.Ef] at h;split at h
  . rename_i k ks' h1 h2
    cases h;obtain⟨b,rfl,e⟩:=Wm r h1;obtain⟨bs,rfl,hl,hz⟩:=ahw t h2;refine⟨b::bs,rfl,by simp[hl],λx hx=>?_⟩;simp only[List.zip_cons_cons,bz] at hx;rcases hx with rfl|hx
    . exact e
    . exact hz x hx
  . cases h
def akg(h:MW.Eg ks=true):ks.length<=30/\∀k∈ks,∀x∈k,∃i,x=Sum.inl i:=by
 simp only[MW.Eg,aq,dj,gn] at h;refine⟨h.1,λk hk x hx=>?_⟩;have:=h.2 k hk x hx;cases x with
 |inl i=>exact⟨i,rfl⟩|inr s=>cases this
set_option tactic.hygienic true in
def aoz(hr:Ah 8 X.A)(I:Inv X pins σ H s)(S:m5 nm X.K ι H M)(rx:Rep X.K ι H x v)(ru:RelV v u)(hk:MW.keysOf M x=some ds)(hd:MW.Ef ds=some ks)(pl:MW.Eg ks=true)(h:∀p o n s',Inv X ((p,o)::pins) σ H s'->Dj (m9 X.prog X.w) (KH H) s'.heap p (λk=>k∈ks) n->s'.heap.get? p=some o->Q (.ref p) s') :
 wpAny (model X.prog X.w) X.A (call (.type "set") [u]) Q X.xe s:=by
 obtain⟨hlen,hint⟩:=akg pl;have hu:X.A.in1.in1.in1.units+1<cLine:=by have:=hr.un;show X.A.units+1+1+1+1<cLine;lia
 have kept:∀b o,s.heap.get? b=some o->(s.heap.push (Xk.Ar X.w)).get? b=some o:=λb o e=>ak _ e
 have I1:Inv X pins σ H { s with heap:=s.heap.push (Xk.Ar X.w) }:=I.kept (t':=s.toks) kept;have fr:Dj (m9 X.prog X.w) (KH H) (s.heap.push (Xk.Ar X.w)) s.heap.objs.size (λ_=>False) 0:=Xk.aro (bh _ rfl);have fin:∀(h':Heap)(tk n':Nat),(∀b o,b≠s.heap.objs.size->(s.heap.push (Xk.Ar X.w)).get? b=some o->h'.get? b=some o)->Dj (m9 X.prog X.w) (KH H) h' s.heap.objs.size (λk=>k∈ks) n'->Q (.ref s.heap.objs.size) { s with heap:=h',toks:=tk }:=λh' tk n' hkp hS=>by
  have I2:Inv X pins σ H { s with heap:=h',toks:=tk }:=I.kept λb o e=>hkp b o (fc (az e)) (kept b o e)
  obtain⟨o,es,ep,t,hg,hc,hdt,_⟩:=hS.get;refine h _ o n' _ (I2.Rg λq hq=>?_) hS hg;rcases bz.mp hq with rfl|hq
  . refine⟨hg,I.An.fresh (bw _),u5 I.lt,I.ayo (bw _),λv hv=>?_⟩
    rw[show o.data=_ from hdt] at hv;cases hv
  . exact I2.pin q (jb _ hq)
 have lst:∀p vs,v=.ref p->H p=some (.lst vs)->j6 X.K ι H ds vs->wpAny (model X.prog X.w) X.A (call (.type "set") [u]) Q X.xe s:=λp vs ev hp r=>by
  subst ev;cases ru;obtain⟨is,rv,pll,_⟩:=I1.list (Hf.of hp);obtain⟨bs,rfl,hbl,hz⟩:=ahw r hd;have his:is=(ks.zip bs).map λx=>Value.ref x.2:=by
   apply List.ext_getElem?;intro j;rw[ie]
   by_cases hj:j<bs.length
   . have e1:(bs.map V.ref)[j]?=some (.ref bs[j]):=by simp[hj]
     have hj2:j<is.length:=by have:=rv.length;simp at this;exact b_ hj (f_ this)
     have e2:is[j]?=some is[j]:=by simp[hj2]
     have:=Vals.adl rv e1 e2;rw[e2,show is[j]=Value.ref bs[j] from this];have hj3:j<ks.length:=b_ hj (f_ hbl)
     have hz2:(ks.zip bs)[j]?=some (ks[j],bs[j]):=by rw[bc (by simp;lia)];simp
     rw[hz2];rfl
   . have hj2:¬j<is.length:=by have:=rv.length;simp at this;exact j_ (a_ (g_ this) (s_ hj))
     rw[rz (s_ hj2),rz (by simp;lia)];rfl
  refine Xk.Nh (R:=λs'=>Q (.ref s.heap.objs.size) s') ?_ λs' h=>h
  refine Xk.alx (adn _ _ H) (ks:=ks.zip bs) (items:=is.toArray) (by have:=hr.hd;exact this) hu fr pll.isList (by simpa using his) (λx hx=>Ol I1.An (hz x hx)) (λx hx=>⟨hz x hx,λk hk=>hint x.1 (List.of_mem_zip (a:=x.1) (b:=x.2) hx).1 k hk⟩) (by simp;lia) λh' tk n' hkp hS=>?_
  refine fin h' tk n' hkp (hS.congr λk=>?_);rw[List.map_fst_zip (g_ hbl)]
 unfold MW.keysOf at hk;split at hk
 . rename_i n
   split at hk
   . rename_i gq hM
     cases hk;rw[Wu] at hd;cases hd;cases rx with
     |@ref n p e1 =>
      obtain⟨l,h1,h2⟩:=S.obj n _ p hM e1;cases ru;obtain⟨_,hsm,xs,rel,dd⟩:=ant I1.An h1;obtain⟨k1,k2⟩:=ahu rel;have k3:xs.map (·.1)=gq.map (·.1):=k1.trans (Lw h2);have hl:xs.length=gq.length:=by have:=o4 List.length k3;simpa using this
      refine Xk.Nh (R:=λs'=>Q (.ref s.heap.objs.size) s') ?_ λs' h=>h
      refine Xk.alu (adn _ _ H) (by have:=hr.un;show X.A.units+1+1<cLine;lia) fr dd hsm (λx hx=>⟨k2 x hx,λk hk=>?_⟩) (by simp at hlen;lia) λh' n' sb hS=>?_
      . have:x.1∈gq.map (·.1):=by rw[<- k3];exact bf.mpr ⟨x,hx,rfl⟩
        exact hint x.1 this k hk
      . refine fin h' s.toks n' (λb o hb e=>(sb.2 b hb).trans e) (hS.congr λk=>?_)
        rw[k3];simp
   . obtain⟨p,vs,e1,e2,r⟩:=qt S rx hk
     exact lst p vs e1 e2 r
 . obtain⟨p,vs,e1,e2,r⟩:=qt S rx hk
   exact lst p vs e1 e2 r
def a78(hS:Dj (m9 P w) (KH H) h p T n)(hg:h.get? p=some o)(Ym:h'.get? p=some o)(le:∀a vs,H a=some (.tup vs)->H' a=some (.tup vs))(ok:Qg P w H' h'):Dj (m9 P w) (KH H') h' p T n:=by obtain⟨xs,o',es,ep,t,D,r⟩:=hS;have e:o'=o:=jq (D.get.symm.trans hg);subst e;refine⟨xs,o',es,ep,t,⟨Ym,D.exa,D.dat,D.tab,D.ent,λx hx=>?_,D.nod,D.led,D.pla⟩,r⟩;obtain⟨_,k1,k2⟩:=D.keys x hx;exact⟨Ol ok (le _ _ k1),le _ _ k1,k2⟩
def ado:MW.Iz xs ys=true↔∀k,k∈xs↔k∈ys:=by
 simp only[MW.Iz,aq,gn,Ao,dj];constructor
 . rintro⟨h1,h2⟩ k
   exact⟨λh=>by obtain⟨y,hy,e⟩:=h1 k h;rw[<- e];exact hy,λh=>by obtain⟨y,hy,e⟩:=h2 k h;rw[<- e];exact hy⟩
 . exact λh=>⟨λx hx=>⟨x,(h x).mp hx,rfl⟩,λy hy=>⟨y,(h y).mpr hy,rfl⟩⟩
set_option tactic.hygienic true in
def aub(hr:Ah 8 X.A)(hg:Gl X xn)(hm:X.mg xn=none)(hv:bootBuiltins xn=some (.type "set"))(hn:xn≠"__name__")(Uk:(xn==("__debug__" : Str))=false)(ha:PA X [a] (Xh nm W X.K (.cons a' .nil)))(hb:PA X [b] (Xh nm W X.K (.cons b' .nil)))(he:starEach [a] X.env=(false,eval a X.env)::starEach [] X.env)(he2:starEach [b] X.env=(false,eval b X.env)::starEach [] X.env)(Ip:(backTo q1 (starEach [] X.env)).any (·.1)=false)(af5:(backTo q2 (starEach [] X.env)).any (·.1)=false) :
 PC X .NotEq (.Call (.Name xn p1) [a] [] q1) (.Call (.Name xn p2) [b] [] q2) (tE nm W X.K (.Vs a' b')):=by
 intro pins s σ H Q I hh;obtain⟨ι,ρ,M,d,M',S,R,e,q⟩:=hh;rw[MW.Yi] at e;obtain⟨x,M1,e1,e⟩:=dz e;cases hk1:(MW.keysOf M1 x).bind MW.Ef with
 |none=>rw[hk1] at e;cases e
 |some ks =>
  rw[hk1] at e;simp only at e;split at e
  . rename_i pl1
    obtain⟨y,M2,e2,e⟩:=dz e;cases hk2:(MW.keysOf M2 y).bind MW.Ef with
    |none=>rw[hk2] at e;cases e
    |some ls =>
     rw[hk2] at e;simp only at e;split at e
     . rename_i pl2
       cases e;obtain⟨ds1,g1,g1'⟩:=dq.mp hk1;obtain⟨ds2,g2,g2'⟩:=dq.mp hk2;refine je (Dw I hg hm hv ?_ hn Uk);refine jh (Bq (ha q1 pins s σ H (λvs H1=>∃ι1 v,vs=[v]/\Le ι H ι1 H1/\m5 nm X.K ι1 H1 M1/\Rep X.K ι1 H1 x v) I ⟨ι,ρ,M,[x],M1,S,R,by simp[e1,Res.bind],fun ι1 H1 vs le S1 r=>?_⟩) λus s1 ⟨vs,H1,I1,r1,ι1,v,ev,Vb,S1,rx⟩=>?_) he Ip
       . obtain⟨v,ev,rv⟩:=Jj r rfl
         exact⟨ι1,v,ev,le,S1,rv⟩
       subst ev;cases r1 with
       |cons rv rn =>
        cases rn;refine aoz hr I1 S1 rx rv g1 g1' pl1 λp o n s2 I2 hS hgp=>?_
        refine je (Dw I2 hg hm hv ?_ hn Uk);refine jh (Bq (hb q2 _ s2 σ H1 (λvs H2=>∃ι2 v,vs=[v]/\Le ι1 H1 ι2 H2/\m5 nm X.K ι2 H2 M'/\Rep X.K ι2 H2 y v) I2 ⟨ι1,ρ,M1,[y],M',S1,R.mono Vb,by simp[e2,Res.bind],fun ι2 H2 vs le S2 r=>?_⟩) λus s3 ⟨vs,H2,I3,r2,ι2,v2,ev2,zg,S2,ry⟩=>?_) he2 af5
        . obtain⟨v,ev,rv⟩:=Jj r rfl
          exact⟨ι2,v,ev,le,S2,rv⟩
        subst ev2;cases r2 with
        |cons rv2 rn2 =>
         cases rn2;refine aoz hr I3 S2 ry rv2 g2 g2' pl2 λp' o' n' s4 I4 Vn bj6=>?_
         have hp:s4.heap.get? p=some o:=(I4.pin (p,o) (jb _ (bu _ di))).1;have hS4:=a78 (H':=H2) hS hgp hp zg.tup I4.An;refine Xk.a4a (by have:=hr.un;show X.A.units+1<cLine;lia) (by have:=hr.un;lia) hS4 Vn λc hc=>?_
         have ec:c=!MW.Iz ks ls:=by have:=ado (xs:=ks) (ys:=ls);cases c<;>cases h:MW.Iz ks ls<;>simp_all
         refine⟨.bl c,H2,(I4.Rg λz hz=>I4.pin z (jb _ (bu _ (bu _ hz)))),rfl,?_⟩;rw[ec];exact q ι2 H2 _ (Vb.trans zg) S2 (.bl _)
     . cases e
  . cases e
def rM(nm:Nm)(K:Fg)(m:Bm):V->List V->Hp->VK->Prop:=λv vs H Q=>∃ι M x ds d M',m5 nm K ι H M/\Rep K ι H x v/\j6 K ι H ds vs/\MW.Jz m x ds M=.ok d M'/\(∀ts,x=.tup ts->m≠.index) /\
 ∀ι' H' w,Le ι H ι' H'->m5 nm K ι' H' M'->Rep K ι' H' d w->Q w H'
set_option tactic.hygienic true in
theorem a0o{id:String}(hT:∀ι H M x v,m5 nm X.K ι H M->Rep X.K ι H x v->MW.Qn m x M=true->tyV X.K T v H)(pa:PlainAttrs T)(slot:Slot T name id)(hty:typeOf (.builtin id)=pure (.type "method_descriptor"))(hm:MtR X id (rM nm X.K m))(ho:PE X o (tE nm W X.K o'))(ha:PA X (e::es) (Xh nm W X.K es'))(aob:attributeBase o name X.env (eval o X.env)=eval o X.env)(azy:((backTo Wc (starEach (e::es) X.env)).all (λx=>!x.1)&&(backToKw Wc (keywordEach [] X.env)).all (λx=>x.1.isSome)
&&decide ((e::es).length+([]:List Keyword).length+(if([]:List Keyword).isEmpty then 0 else 1)<30))=true)(aoc:(apos.endLine==Wc.line)=true)(hs:starEach (e::es) X.env=(false,eval e X.env)::starEach es X.env)(afy:(backTo Wc (starEach es X.env)).any (·.1)=false) :
 PE X (.Call (.Attribute o name apos) (e::es) [] Wc) (tE nm W X.K (.bm m o' es')) :=
 PE.of (a6y pa slot hty hm ho ha aob azy aoc hs afy) fun σ H Q ι ρ M d M' S R e q=>by
  rw[MW.axy] at e;obtain⟨x,M1,e1,e⟩:=dz e;split at e
  . rename_i ht
    obtain⟨ds,M2,e2,e⟩:=dz e;exact one S R e1 fun ι1 H1 v le S1 R1 r=>⟨hT ι1 H1 M1 x v S1 r ht,ι1,ρ,M1,ds,M2,S1,R1,e2,fun ι2 H2 vs zg S2 rs=>⟨ι2,M2,x,ds,d,M',S2,r.mono zg,rs,e,(λts hx hm=>by subst hx;subst hm;cases ht),fun ι' H' w Xi S' r'=>q ι' H' w ((le.trans zg).trans Xi) S' r'⟩⟩
  . cases e
set_option tactic.hygienic true in
def ty_list{X:Cx}(hm:m=.append\/m=.index)(S:m5 nm X.K ι H M)(r:Rep X.K ι H x v)(h:MW.Qn m x M=true):tyV X.K "list" v H:=by
 have go:∀ds,MW.gf M x=some ds->tyV X.K "list" v H:=λds hd=>by obtain⟨p,vs,rfl,e2,_⟩:=qt S r hd;exact .inl ⟨rfl,vs,Hf.of e2⟩
 rcases hm with rfl|rfl
 . cases x<;>simp only[MW.Qn] at h<;>try cases h
   split at h
   . rename_i n ds hM
     exact go ds (by simp only[MW.gf,hM])
   . cases h
 . have h:(MW.gf M x).isSome=true:=h
   obtain⟨ds,hd⟩:=qi.mp h;exact go ds hd
set_option tactic.hygienic true in
def aue(e:MW.Jz .append x ds M=.ok d M'):∃n d0 xs,x=.ref n/\ds=[d0]/\M[n]?=some (.lst xs)/\xs.length<100000/\d=.non/\M'=M.set n (.lst (xs++[d0])):=by
 unfold MW.Jz at e;split at e
 . rename_i n d0
   split at e
   . rename_i xs hM
     split at e
     . rename_i hl
       cases e;exact⟨_,_,_,rfl,rfl,hM,hl,rfl,rfl⟩
     . cases e
   . cases e
 . rename_i h;cases h
 . rename_i h;cases h
 . cases e
def auf(e:MW.Jz .index x ds M=.ok d M'):∃d0 xs j,ds=[d0]/\MW.Bj M x=some xs/\MW.Xn M d0 xs=some j/\d=.int ((j:Nat):Int)/\M'=M:=by
 match ds,e with
 |[d0],e =>
  have e:Res.uo (((MW.Bj M x).bind (MW.Xn M d0)).map λj=>MW.D.int ((j:Nat):Int)) M=.ok d M':=by rw[<- e];cases x<;>simp only[MW.Jz]<;>first|rfl|(generalize(MW.Bj M _).bind (MW.Xn M d0)=z;cases z<;>rfl)
  obtain⟨e1,e2⟩:=w5 e;obtain⟨j,e3,e4⟩:=cu.mp e1;obtain⟨xs,e6,e7⟩:=dq.mp e3;exact⟨d0,xs,j,rfl,e6,e7,e4.symm,e2⟩
 |[],e=>cases x<;>simp[MW.Jz] at e|_::_::_,e=>cases x<;>simp[MW.Jz] at e
def ao0:MtR X "list.append" (rM nm X.K .append):=λpins s σ H v vs u us Q I ru Xz hh=>by
 obtain⟨ι,M,x,ds,d,M',S,r,rs,e,_,q⟩:=hh;obtain⟨n,d0,xs,rfl,rfl,hM,hl,rfl,rfl⟩:=aue e;cases r with
 |ref ha =>
  obtain⟨ys,h3,h4⟩:=S.obj n _ _ hM ha;cases rs with
  |cons hd ht =>
   cases ht;refine Yz pins s σ H _ _ u us Q I ru Xz ⟨_,ys,_,rfl,rfl,h3,by rw[<- h4.length];exact Wr hl,?_⟩;obtain⟨S2,zg⟩:=S.put (u:=.lst (ys++[_])) (o:=.lst (xs++[_])) hM ha (by rw[h3];trivial) λle=>⟨_,vh,(h4.mono le).append (.cons (hd.mono le) .nil)⟩
   exact q _ _ _ zg S2 .non
def aa4:∀{bs:List Bool}{j:Nat},bs.findIdx? id=some j->bs[j]?=some true/\∀m,m<j->bs[m]?=some false:=fun{bs j} h=>by obtain⟨h1,h2,h3⟩:=qg.mp h;refine⟨by rw[bc h1];simpa using h2,λm hm=>?_⟩;have:=h3 m hm;rw[bc (d_ hm h1)];simpa using this
def auh(hr:Ah 8 X.A):MtR X "list.index" (rM nm X.K .index):=λpins s σ H v vs u us Q I ru Xz hh=>by
 obtain⟨ι,M,x,ds,d,M',S,r,rs,e,nt,q⟩:=hh;obtain⟨d0,xs,j,rfl,e1,e2,rfl,rfl⟩:=auf e;cases rs with
 |cons hd ht =>
  cases ht;cases Xz with
  |cons hu ht2 =>
   cases ht2;obtain⟨bs,e3,e4⟩:=dq.mp (show(MW.Qm M' d0 xs).bind (·.findIdx? id)=some j from e2);obtain⟨p,ys,rfl,hp,rl⟩:=Km S r e1;cases ru;rcases hp with hp|hp
   . obtain⟨z,is,n,rv,hl,hg⟩:=I.atr hp
     obtain⟨f,g1,g2⟩:=Rr (A:=X.A.in1) I S ((hr.mono (by decide:7<=8)).in1) rl rv hd hu e3;obtain⟨f1,f2⟩:=aa4 e4;have hb:=(Gg e3).1;have hlen:is.length=bs.length:=by rw[hb,rl.length,hl]
     have lj:j<is.length:=by rw[hlen];exact(ao.mp f1).1
     have fa:∀m (hm:m<is.length),bs[m]?=some (f is[m]):=λm hm=>g2 m _ (bc hm)
     have hT:s.TypeIs (.ref p) "list" := ⟨_,hg,rfl⟩;have hsz:is.length<=sizeLine:=by rw[<- hl];exact z
     rw[qj] at hsz;refine call_meetsIn F.slot_list_index hT F.entry_list_index (F.args_list_index_2 _ _) (λA R s h=>SeqAt.list_indexAt p is.toArray n none #[] _ f j (by simpa using lj) (by lia) ?_ ?_ _ _ A R s h) ⟨hg,g1,?_⟩
     . have:=fa j lj;rw[f1] at this;simpa using(jq this).symm
     . intro m hm hmj
       have hm:m<is.length:=by simpa using hm
       have:=fa m hm;rw[f2 m hmj] at this;simpa using(jq this).symm
     . exact⟨.int j,H,I.tok _,⟨_,rfl⟩,q ι H _ (Le.refl _ _) S (.int _)⟩
   . cases r with
     |tup e r=>exact absurd rfl (nt _ rfl)|vl e n r=>rw[hp] at e;cases e|fz e r=>simp[MW.Bj,MW.gf] at e1
     |ref e =>
      obtain⟨u',q',mu⟩:=S.mem (au e);rw[hp] at mu;exact mu.elim
section
variable{prog:Program}{w:World}{A:Around}{E:Y1}{s:Shared}{it d:Addr}{i ep:Nat}{o:Obj}{es:Array DictEntry}{Q:Option Value->Shared->Prop}
def ao1{Q:Y1}(ho:s.heap.get? d=some o)(hx:o.ExactDict)(hd:o.data=.dict es ep)(hn:(d==sysModules)=false)
 (h:Q (.ref s.heap.objs.size) { s with heap:=s.heap.push { cls:=.type "dict_keyiterator",data:=.fields #[.ref d,.int 0 0,.int es.size 0,.int ep 0] } }):wpAny (model prog w) A (pyIter (.ref d)) Q E s:=by
 have T:s.TypeIs (.ref d) "dict" := ⟨o,ho,hx.1⟩;refine wpAny_pyIter_slot T PySem.F.slot_dict_iter (jc PySem.F.slot_dict_iter T PySem.F.entry_dict_iter ?_ (PySem.F.args_dict_iter_1 _));unfold Builtin.«dict.__iter__» Builtin.Dict.dictSlotNone;refine aa (aa (wpAny_notOrdered_dict T ?_));refine aj (?_:wpAny _ _ (Builtin.Dict.showsAll d >>= _) _ _ s);unfold Builtin.Dict.showsAll;rw[hn];refine aa (aj (aa (m8 ho hd (aa (wpAny_dictEpoch ho hd ?_)))));exact aa (ju (aj ⟨_,rfl, "dict_keyiterator",_,⟨_,bh _ rfl,rfl⟩,wu.lookup,h⟩))
def adp(hit:s.heap.IsKeyIter it d i es.size ep)(ho:s.heap.get? d=some o)(hd:o.data=.dict es ep)
 (h1:∀hl:i<es.size,∀h',h'.IsKeyIter it d (i+1) es.size ep->Heap.SameBut it s.heap h'->Q (some es[i].key) { s with heap:=h' })
 (hh:A.handled=none) (h2:es.size<=i->∀h',Heap.ExtBut it s.heap h'->Q none { s with heap:=h' }):wpAny (model prog w) A (pyNext (.ref it)) Q E s:=by
 have T:=hit.typeIs;obtain⟨oi,hi,hc,hf⟩:=id hit;unfold pyNext;refine aa (uy (ji (name:=Str.ofString "__next__") T wu (jc wu T PySem.F.entry_dict_keyiterator_next ?_ (PySem.F.args_dict_keyiterator_next_1 _))));refine aa (aj (aa (aa (aa (v7 T (aj (aa (wpAny_fieldsOf hi hf ?_))))))));rw[show Builtin.Dict_items.ownsTuple "dict_keyiterator" = false by decide];show wpAny _ _ (if(Value.ref d==Value.none)=true then _ else _) _ _ s;rw[bx (show ¬((Value.ref d==Value.none)=true) from jd)];refine aa (aj (aa (m8 ho hd ?_)));rw[bx (by simp)];refine aa (aj (aa (wpAny_dictEpoch ho hd ?_)));rw[bx (by simp)];refine aj ?_;rcases Nat.lt_or_ge i es.size with hl|hl
 . have a79:(s.heap.update it (Obj.mapFields (·.setIfInBounds 1 (rawInt ((i:Int)+1))))).IsKeyIter it d (i+1) es.size ep :=
    ⟨_,my _ hi (Obj.isFreed_of_fields (Obj.data_mapFields hf _)),(Obj.cls_mapFields ..).trans hc,by rw[Obj.data_mapFields hf];simp[rawInt]⟩
   simp only[show ¬((i:Int)<0) by lia,jf,pq,Array.getElem?_eq_getElem hl];refine aa (aa (v7 T (aj (aa (wpAny_isOneOf_keyiter T ?_)))));refine(?_:wpAny _ _ (setField (.ref it) 1 (rawInt ((i:Int)+1)) >>= _) _ _ s);refine aa (wpAny_setField hi hf (by simp) (aa (jg (aa (wpAny_isOneOf_keyiter (s:={ s with heap:=_ }) a79.typeIs ?_)))));exact aj (aj ⟨_,rfl,aj (h1 hl _ a79 (jt ..))⟩)
 . simp only[show ¬((i:Int)<0) by lia,jf,pq,Array.getElem?_eq_none hl]
   refine aa (aa (v7 T (aj ?_)));refine(?_:wpAny _ _ (setField (.ref it) 0 .none >>= _) _ _ s);refine aa (wpAny_setField hi hf (by simp) ?_);refine Xk.Zx (show A.in1.handled=none from hh) λh' x k ⟨o,e1,e2⟩=>?_
   exact aa (mj (T := "StopIteration") (b:=true) ⟨o,e1,e2⟩ isSubtype_stop (aj (h2 hl _ λb o n z=>k b o ((jt ..).extBut b o n z))))
end
theorem aw2{α β:Type}{F:α->β->Prop}{b:β}:∀{l₁:List α}{l₂:List β}{i:Nat},Paired F l₁ l₂->l₂[i]?=some b->∃a,l₁[i]?=some a/\F a b
 |_,_,0,.cons h _,e=>by cases e;exact⟨_,rfl,h⟩|_,_,i+1,.cons _ t,e=>aw2 (i:=i) t e
noncomputable def Itk(a:Addr)(o:Obj)(l:List (List Key×V)):It :=
 ⟨λi H=>H a=some (.Jv o (.dT l))/\i<l.length,λi H x H'=>H'=H/\∃p b,l[i]?=some p/\x=.ref b/\H b=some (.tup (p.1.map kV)),λi H=>H a=some (.Jv o (.dT l))/\l.length<=i⟩
theorem akh{P:Program}{w:World}{K:Fg}{tg:Expr}{o:Obj}{es:Array DictEntry}{ep:Nat}{l:List (List Key×V)}(a it:Addr)(hd:o.data=.dict es ep)(hz:es.size=l.length):Turn P w K tg (Itk a o l) [it] it (λi h=>h.IsKeyIter it a i es.size ep) where
 mem:=by simp
 obj:=λi h st b hb=>by cases uf.mp hb;obtain⟨o,e,c,d⟩:=st;exact⟨o,e,λv z=>by rw[d] at z;cases z⟩
 keep:=λi h h' st k=>st.at λo e=>k it (by simp) o e
 item:=by
  intro X hP hw hK hc i pins s σ H E I hf st hg;subst hP hw hK;obtain⟨e,hl⟩:=hg;obtain⟨ho,_,_,xs,rel,o',es',ep',g1,g2,g3,g4,g5⟩:=(show Bk X.prog X.w H s.heap a (.Jv o (.dT l)) from I.An a _ e);rw[ho] at g1;cases g1;rw[hd] at g3;cases g3;obtain⟨f0,f1,f2,f3,f4,f5⟩:=hf it (by simp);refine adp st ho hd (λYl h' st' sb=>?_) (I.ok.hd hc) (λz=>absurd hl (by lia));have I1:Inv X pins σ H { s with heap:=h' }:=I.turned (t':=s.toks) (λb o hb e=>(sb.2 b hb).trans e) f0 f1 f3 f4 f5;have hx:xs[i]?=some (xs[i]'(by rw[<- rel.length];exact hl)):=bc _;have hk:es[i].key=.ref (xs[i]'(by rw[<- rel.length];exact hl)).2.1:=by have:=entry_at g4 i;rw[hx,Array.getElem?_eq_getElem Yl] at this;exact o4 DictEntry.key (jq this)
  obtain⟨p,hp,q1,q2,q3⟩:=aw2 rel hx;obtain⟨oi,e1,e2,e3⟩:=id st';refine⟨_,rfl,ahc (s:={ s with heap:=h' }) e1 e2 e3 (by decide) ⟨.ref _,H,I1,hk,⟨rfl,p,_,hp,rfl,q2⟩,st',λb hb=>(hf b hb).1⟩⟩
 done:=by intro X hP hw hK hc i pins s σ H E I hf st hg;subst hP hw hK;obtain⟨e,hl⟩:=hg;obtain⟨ho,_⟩:=(show Bk X.prog X.w H s.heap a (.Jv o (.dT l)) from I.An a _ e);obtain⟨f0,f1,f2,f3,f4,f5⟩:=hf it (by simp);exact adp st ho hd (λz=>absurd hl (by lia)) (I.ok.hd hc) λ_ h' eb=>⟨rfl,I.turned (t':=s.toks) (λb o hb e=>eb b o hb e) f0 f1 f3 f4 f5⟩
 self:=λ_ _ _ _ _ st h=>wpAny_pyIter_keyiter st h
theorem j6.keys{K:Fg}{ι:Io}{H:Hp}:∀k:List Kx,j6 K ι H (k.map MW.ajc) (k.map kV)
 |[]=>.nil|.inl i::k=>.cons (.int i) (j6.keys k)|.inr x::k=>.cons (.str x) (j6.keys k)
def a0p{nm:Nm}{W:Ir}{X:Cx}{a tg:Expr}{a':Ex}(ha:PE X a (tE nm W X.K a')):PI X tg a (tI nm W X.K (.keys a')):=by
 intro pins s σ H R I ⟨ι,ρ,M,sc,M',S,Rv,e,q⟩;rw[MW.ame] at e;obtain⟨x,M1,e1,e⟩:=dz e;refine Bq (ha pins s σ H (λv H1=>∃ι1,Le ι H ι1 H1/\m5 nm X.K ι1 H1 M1/\Rep X.K ι1 H1 x v) I (one S Rv e1 fun ι1 H1 v le S1 R1 r=>⟨ι1,le,S1,r⟩)) λv s1 ⟨x',H1,I1,r1,ι1,le,S1,r⟩=>?_
 have fin:∀(p:Addr)(H2:Hp)(o:Obj)(l:List (List Key×V))(gq:List (List Kx×Dv)),v=.ref p->H2 p=some (.Jv o (.dT l))->Inv X pins σ H2 s1->Le ι1 H1 ι1 H2->m5 nm X.K ι1 H2 M'->qm X.K ι1 H2 (λk k'=>k=k') gq l->sc=.con (gq.map λp=>MW.Sy p.1) ->
  wpAny (model X.prog X.w) X.A (pyIter v) (PIE X pins σ tg R) X.xe s1:=λp H2 o l gq hv h2 I2 zg S2 hp hs=>by
  subst hv hs;obtain⟨ho,_,hsm,xs,rel,o',es,ep,g1,g2,g3,g4,g5⟩:=(show Bk X.prog X.w H2 s1.heap p (.Jv o (.dT l)) from I2.An p _ h2);rw[ho] at g1;cases g1;have hz:es.size=l.length:=(size_of_entries g4).trans rel.length.symm;refine ao1 ho g2 g3 hsm ⟨s1.heap.objs.size,[s1.heap.objs.size],_,Itk p o l,H2,rfl,I2.kept (t':=s1.toks) λb o e=>ak _ e,akh p _ g3 hz,⟨_,bh _ rfl,rfl,rfl⟩,λb hb=>?_,q ι1 H2 _ (le.trans zg) S2 fun ι3 H3 M3 Wk S3=>⟨λi d hi hd=>?_,λ_=>⟨Wk.Jv _ _ _ h2,?_⟩⟩⟩
  . cases uf.mp hb
    exact I2.aju (bw _) (I2.An.fresh (bw _))
  . have hd:(gq.map λp=>MW.Sy p.1)[i]?=some d:=hd
    have hk:=Lw hp;refine⟨⟨Wk.Jv _ _ _ h2,by rw[hp.length.symm];simpa[Src.len] using hi⟩,λv H4 ⟨hH,pp,b,g1,g2,g3⟩=>?_⟩;subst hH g2;have e1:(l.map (·.1))[i]?=some pp.1:=by rw[ie,g1];rfl
    rw[hk,ie] at e1;rw[ie] at hd;obtain⟨y,y1,y2⟩:=cu.mp e1;rw[y1] at hd;cases hd;rw[<- y2] at g3;exact⟨Le.refl _ _,S3,.tup g3 (j6.keys _)⟩
  . rw[<- hp.length];simp[Src.len]
 cases r with
 |@ref n p h1 =>
  have e:MW.Vt (.ref n) M1=.ok sc M':=e;simp only[MW.Vt] at e;cases hn:M1[n]? with
  |none=>rw[hn] at e;cases e
  |some ob =>
   rw[hn] at e;cases ob with
   |dT gq =>
    cases e;obtain⟨l,g1,g2⟩:=S1.obj n _ p hn h1;obtain⟨z,hsm,xs,rel,o,es,ep,k1,k2⟩:=(show Bk X.prog X.w H1 s1.heap p (.dT l) from I1.An p _ g1);obtain⟨S2,zg⟩:=S1.put (u:=.Jv o (.dT l)) (o:=.dF gq) hn h1 (by rw[g1];trivial) λle=>⟨l,o,vh,g2.mono le⟩
    refine fin p _ o l gq r1 vh ?_ zg S2 (g2.mono zg) rfl;exact I1.write (x:=p) (e:=p) (t':=s1.toks) (by rw[g1];trivial) (.inl rfl) (λ_ _ _ z=>z) ⟨o,k1⟩ ⟨k1,z,hsm,xs,KT.keeps rel λc ys ec=>by rw[j5 (ag8 ec g1 (λz=>nomatch z))];exact ec,o,es,ep,k1,k2⟩
   |dF gq =>
    cases e;obtain⟨l,o,g1,g2⟩:=S1.obj n _ p hn h1;exact fin p _ o l gq r1 g1 I1 (Le.refl _ _) S1 g2 rfl
   |_=>cases e
 |_=>cases e
end Sm
namespace Xk
open PySem L2
def SmK(k:List Key):Prop:=∃i j:Int,-1<=i/\i<9/\-1<=j/\j<9/\k=[.inl i,.inl j]
noncomputable def ahx(i j:Int):Int:=reduceHash (Builtin.Tuple.tupleHashOf [hashInt i,hashInt j])
noncomputable def rgI:List Int:=[-1,0,1,2,3,4,5,6,7,8]
def ao2:(rgI.all λi=>rgI.all λj=>rgI.all λi'=>rgI.all λj'=>(ahx i j != ahx i' j')||(i==i'&&j==j'))=true:=by decide+kernel
def aa5(h1:-1<=i)(h2:i<9):i∈rgI:=by
 have:i=-1\/i=0\/i=1\/i=2\/i=3\/i=4\/i=5\/i=6\/i=7\/i=8:=by lia
 unfold rgI;simp only[bz,qw,Aw];exact this
def ao3{P:Program}(h:SmK k)(h':SmK k')(e:tupleKeyHash (m9 P w) k=tupleKeyHash (m9 P w) k'):k=k':=by obtain⟨i,j,a1,a2,a3,a4,rfl⟩:=h;obtain⟨i',j',b1,b2,b3,b4,rfl⟩:=h';have e:ahx i j=ahx i' j':=e;have:=gn.mp (gn.mp (gn.mp (gn.mp ao2 i (aa5 a1 a2)) j (aa5 a3 a4)) i' (aa5 b1 b2)) j' (aa5 b3 b4);rw[e] at this;simp at this;rw[this.1,this.2]
def af6(hk:IsTupleKey (m9 prog w) s.heap ks a)(h:Q false s):wpAny (model prog w) A (Builtin.Dict.quietEq (.ref a)) Q E s:=by
 unfold Builtin.Dict.quietEq;refine aa (wpAny_specialOf hk.typeIs F.slot_tuple_eq.lookup ?_);refine aj ?_;have:(some (Value.builtin "tuple.__eq__")==some (Value.builtin "object.__eq__"))=false:=by decide
 rw[this];exact h
def ao4{xs:List (List Key×Addr×Value)}(hn:(xs.map (·.1)).Nodup)(hs:∀x∈xs,SmK x.1)(hx:x∈xs) :
 ((xs.map (entryOfKey (tupleKind (m9 prog w)))).filter (·.hash==tupleKeyHash (m9 prog w) x.1)).length<=1:=by
 induction xs with
 |nil=>simp
 |cons y ys ih =>
  rw[iu,kj] at hn;rw[iu]
  by_cases hy:tupleKeyHash (m9 prog w) y.1=tupleKeyHash (m9 prog w) x.1
  . have e:=ao3 (hs y di) (hs x hx) hy
    have none:(ys.map (entryOfKey (tupleKind (m9 prog w)))).filter (·.hash==tupleKeyHash (m9 prog w) x.1)=[]:=by rw[List.filter_eq_nil_iff];intro z hz hq;obtain⟨z',hz',rfl⟩:=bf.mp hz;have hq:tupleKeyHash (m9 prog w) z'.1=tupleKeyHash (m9 prog w) x.1:=eq_of_beq (show(tupleKeyHash (m9 prog w) z'.1==tupleKeyHash (m9 prog w) x.1)=true from hq);have:=ao3 (hs z' (bu _ hz')) (hs x hx) hq;exact hn.1 (bf.mpr ⟨z',hz',this.trans e.symm⟩)
    rw[List.filter_cons,none];split<;>simp
  . rw[List.filter_cons,bx (by show ¬((tupleKeyHash (m9 prog w) y.1==tupleKeyHash (m9 prog w) x.1)=true);simpa using hy)]
    rcases bz.mp hx with rfl|hx
    . exact absurd rfl hy
    . exact ih hn.2 (λz hz=>hs z (bu _ hz)) hx
def adq{id:String}{xs:List (List Key×Addr×Value)}(ho:s.heap.get? d=some o)(hd:o.data=.dict es ep)(he:es.toList=xs.map (entryOfKey (tupleKind (m9 prog w))))(hk:∀x∈xs,IsTupleKey (m9 prog w) s.heap x.1 x.2.1)(hn:(xs.map (·.1)).Nodup)(hs:∀x∈xs,SmK x.1)(h:Q es s) :
 wpAny (model prog w) A (Builtin.Dict.entriesForEmpty id d) Q E s:=by
 unfold Builtin.Dict.entriesForEmpty;refine aa (m8 ho hd ?_);refine aa ?_;rw[<- Array.forIn_toList];refine uw _ (λrest _ s'=>s'=s/\∀e∈rest,∃x∈xs,e=entryOfKey (tupleKind (m9 prog w)) x) _ ?_ ?_ _ _ ⟨rfl,λe hm=>?_⟩
 . rintro e rest r s' ⟨rfl,Ec⟩
   obtain⟨x,hx,rfl⟩:=Ec e di;show wpAny _ _ (Builtin.Dict.quietEq (.ref x.2.1) >>= _) _ _ _;refine aa (af6 (hk x hx) ?_);simp only[ym,jy];have h1:=ao4 (prog:=prog) (w:=w) hn hs hx;rw[bx (by
    intro hc;have:(es.filter (·.hash==(entryOfKey (tupleKind (m9 prog w)) x).hash)).size=((xs.map (entryOfKey (tupleKind (m9 prog w)))).filter (·.hash==tupleKeyHash (m9 prog w) x.1)).length:=by rw[<- he,<- q9,Array.toList_filter];rfl
    exact l_ hc (a_ (f_ this) h1))]
   exact aj ⟨rfl,λe he=>Ec e (bu _ he)⟩
 . rintro b s' ⟨rfl,_⟩
   exact aj h
 . rw[he] at hm
   obtain⟨x,hx,rfl⟩:=bf.mp hm;exact⟨x,hx,rfl⟩
def a8a{prog:Program}{w:World}{h h':Heap}{ks:List Key}{p a:Addr}(x:IsTupleKey (m9 prog w) h ks p)(hs:∀b o,h.get? b=some o->h'.get? b=some o):IsTupleKey (m9 prog w) h' ks p :=
 let ⟨o,items,n,ho,r⟩:=x;⟨o,items,n,hs p o ho,r⟩
set_option tactic.hygienic true in
def a8b(hds:(d==sysModules)=false)(hd:s.heap.DictOfH (tupleKind (m9 prog w)) d xs)(hs:∀x∈xs,SmK x.1)(hsz:xs.length<=sizeLine)(h:∀h',h'.DictOfH (tupleKind (m9 prog w)) s.heap.objs.size xs->(∀b o,s.heap.get? b=some o->h'.get? b=some o)->Q (.ref s.heap.objs.size) { s with heap:=h' }) :
 wpAny (model prog w) A (call (.type "dict") [.ref d]) Q E s:=by
 refine callType_codes (Q₁:=λobj s₁=>obj=.ref s.heap.objs.size/\s₁={ s with heap:=s.heap.push { cls:=.type "dict",data:=.dict #[] } }) F.kt_called_dict (F.kt_typeCall_dict_1 _) F.entry_dict_init (kt_code_dict_new _ ⟨rfl,rfl⟩) ?_;rintro obj s₁ ⟨rfl,rfl⟩;have hdT:=hd.typeIs;obtain⟨od,esd,epd,hod,hcd,hdd,hed,hxd,hnd⟩:=hd;have keep:∀b o,s.heap.get? b=some o->(s.heap.push { cls:=.type "dict",data:=.dict #[] }).get? b=some o:=λb o e=>ak _ e
 have ao5:(s.heap.push { cls:=.type "dict",data:=.dict #[] }).get? s.heap.objs.size=some { cls:=.type "dict",data:=.dict #[] }:=bh _ rfl;have hTn:Shared.TypeIs { s with heap:=s.heap.push { cls:=.type "dict",data:=.dict #[] } } (.ref s.heap.objs.size) "dict" := ⟨_,ao5,rfl⟩;have hT':Shared.TypeIs { s with heap:=s.heap.push { cls:=.type "dict",data:=.dict #[] } } (.ref d) "dict" := ⟨od,keep _ _ hod,hcd.1⟩;have aeu:=keep _ _ hod;have hdo:s.heap.objs.size≠d:=λe=>absurd (az hod) (by rw[e];exact ou _)
 have hlen:esd.size=xs.length:=size_of_entries hed;refine⟨hTn,F.args_dict_init_2 _ _,?_⟩;unfold Builtin.«dict.__init__»;refine aa ?_;unfold Builtin.Dict.selfAndRest;refine aa (wpAny_notOrdered_dict hTn ?_);show wpAny _ _ (pure (s.heap.objs.size,[Value.ref d])) _ _ _;refine aj ?_;show wpAny _ _ (Builtin.Dict.updateFrom "dict.__init__" s.heap.objs.size (.ref d) [] .none) _ _ _;unfold Builtin.Dict.updateFrom;refine aa (qb hT' ?_);rw[bx (by decide)];refine aa ?_;unfold Builtin.Dict.merge;refine aa ?_;unfold Builtin.Dict.readDirectly;refine aa (mj hT' isSubtype_dict_dict ?_);simp only[ql,dg,jf];refine aa (wpAny_specialOf hT' F.slot_dict_iter.lookup (aj ?_));simp only[za,jy];refine aa (aj ?_);unfold Builtin.Dict.mergeDict;rw[bx (by simpa using hdo)];unfold Builtin.Dict.showsAll;rw[bx (by rw[hds];exact jd)];refine aa (aj ?_);refine aa (m8 aeu hdd ?_);have kk:∀{h':Heap},(∀b o,s.heap.get? b=some o->h'.get? b=some o)->∀x∈xs,(tupleKind (m9 prog w)).is h' x.1 x.2.1:=λhk x hx=>a8a (a:=d) (hxd x hx) hk
 have emp:esd=#[]->∀s',s'={ s with heap:=s.heap.push { cls:=.type "dict",data:=.dict #[] } }->wpAny (model prog w) A.in1.in1 (Builtin.Dict.addKeywords s.heap.objs.size [] >>= λ_=>ret Value.none) (λfin s'=>match fin with|.done f=>wants (λr s₂=>r=Value.none/\Q (.ref s.heap.objs.size) s₂) E (.ok f) s'|.again c'=>c'.quiet=true/\codeAny (model prog w) A.in1 c' (wants (λr s₂=>r=Value.none/\Q (.ref s.heap.objs.size) s₂) E) s') (λe s'=>wants (λr s₂=>r=Value.none/\Q (.ref s.heap.objs.size) s₂) E (.error e) s') s':=λhe s' Pj=>by have hx0:xs=[]:=um.mp (by rw[<- hlen,he];rfl);subst Pj;refine aa (aj (aj ⟨rfl,h _ ⟨_,#[],0,ao5,⟨rfl,rfl,rfl⟩,rfl,?_,kk keep,hnd⟩ keep⟩));rw[hx0];rfl
 dsimp only;split
 . refine aa (m8 ao5 rfl ?_)
   rw[dh (show(#[]:Array DictEntry).isEmpty=true from rfl)];refine aa (adq aeu hdd hed (kk keep) hnd hs ?_);split
   . refine aa (wpAny_updateDictKeysTo ao5 rfl (aj ?_) (by show esd.size<=_;exact a_ (f_ hlen) (a_ hsz x_)))
     have ahy:∀b o,s.heap.get? b=some o->((s.heap.push { cls:=.type "dict",data:=.dict #[] }).update s.heap.objs.size (Obj.mapDictKeys λ_=>esd)).get? b=some o:=λb o e=>by rw[ud _ _ (j0 (fc (az e)))];exact keep b o e
     refine aa (aj (aj ⟨rfl,h _ ⟨_,esd,0+1,my _ ao5 (Obj.isFreed_of_dict (Obj.data_mapDictKeys rfl _)),⟨rfl,rfl,rfl⟩,Obj.data_mapDictKeys rfl _,hed,kk ahy,hnd⟩ ahy⟩))
   . rename_i Xf
     exact aj (emp (Array.isEmpty_iff.mp (by simpa using Xf)) _ rfl)
 . rename_i hf
   have he:esd=#[]:=by
    apply xj;intro Xf;have hx:xs≠[]:=λe=>Xf (Array.eq_empty_of_size_eq_zero (by rw[hlen,e];rfl))
    obtain⟨x,ys,rfl⟩:=List.exists_cons_of_ne_nil hx;have Ec:(esd.all λe=>(keyPart e.key).isSome)=true:=by simp only[Bool.not_eq_true',Bool.not_eq_false,aq] at hf;exact hf.2
    rw[<- Array.all_toList,hed,iu,List.all_cons,aq] at Ec;exact Bool.noConfusion (Ec.1:(keyPart (.ref x.2.1)).isSome=true)
   refine aa (wpAny_dictEpoch aeu hdd ?_);refine aa (m8 aeu hdd ?_);refine aa ?_;rw[he,Std.Legacy.Range.forIn_eq_forIn_range'];simp only[Std.Legacy.Range.size,gw,List.length_nil,Nat.sub_zero,u9,Nat.sub_self,Nat.div_one,List.range'_zero,List.forIn_nil];exact aj (aj (emp he _ rfl))
end Xk
namespace Sm
open PySem L2
open MW (Ex Dl OEx Pr Bu o6 Lv Tg Res cz MO Ir Cp Op2 Blt Bm Kx Src)
set_option tactic.hygienic true in
def aui(h:MW.ae4 l=true):∀k∈l.map (·.1),Xk.SmK k:=λk hk=>by
 obtain⟨p,hp,rfl⟩:=bf.mp hk;simp only[MW.ae4,gn] at h;have:=h p hp;split at this
 . rename_i i j e
   simp only[aq,dj] at this;exact⟨i,j,this.1.1.1,this.1.1.2,this.1.2,this.2,e⟩
 . cases this
def a0q{X:Cx}(S:m5 nm X.K ι H M)(hp:H p=none)(r:qm X.K ι H (λk k'=>k=k') gq l) :
 m5 nm X.K (ι.add p) (upd H p (.dT l)) (M++[.dT gq])/\Le ι H (ι.add p) (upd H p (.dT l))/\Rep X.K (ι.add p) (upd H p (.dT l)) (.ref M.length) (.ref p):=by
 obtain⟨S1,le⟩:=S.new (H':=upd H p (.dT l)) (o:=.dT gq) hp (λa u e=>by rw[j5 (km e hp)];exact e) λle=>⟨l,vh,r.mono le⟩
 exact⟨S1,le,.ref (by show(ι.l++[p])[M.length]?=some p;rw[<- S.len];simp)⟩
set_option tactic.hygienic true in
def a0r:Cy X (.type "dict") (rB nm X.K .dict):=λpins s σ H vs us Q I Xz hh=>by
 obtain⟨ι,M,ds,d,M',S,r,e,q⟩:=hh;cases r with
 |nil=>simp[MW.qx] at e
 |@cons x v _ _ h t =>
  cases t with
  |cons h2 t2=>cases x<;>simp[MW.qx] at e
  |nil =>
   cases Xz with
   |cons ru rn =>
    cases rn;cases h with
    |@ref n p hp =>
     cases ru;have e:(match M[n]? with|some (.dT gq)=>if MW.ae4 gq then MW.new (.dT gq) M else .bad|_=>.bad)=.ok d M':=e;split at e
     . rename_i gq hM
       split at e
       . rename_i hs
         cases e;obtain⟨l,h1,h2⟩:=S.obj n _ p hM hp;obtain⟨z,hsm,xs,rel,dd⟩:=ant I.An h1;obtain⟨k1,k2⟩:=ahu rel;have hl:xs.length=l.length:=by have:=o4 List.length k1;simpa using this
         refine Xk.a8b hsm dd (λx hx=>?_) (by rw[hl];exact z) λh' dd' keep=>?_
         . refine aui hs x.1 ?_
           rw[<- Lw h2,<- k1];exact bf.mpr ⟨x,hx,rfl⟩
         . have hf:H s.heap.objs.size=none:=I.An.fresh (bw _)
           obtain⟨S2,zg,r2⟩:=a0q (X:=X) S hf h2;refine⟨.ref s.heap.objs.size,upd H s.heap.objs.size (.dT l),I.laid (a:=s.heap.objs.size) (o:=.dT l) (t':=s.toks) keep (bw _) ?_,rfl,q _ _ _ zg S2 r2⟩;obtain⟨o,es,ep,g1,g2,g3,g4,g5,g6⟩:=dd';exact⟨z,rm.mpr (j0 (fc I.big)),xs,rel.keeps (λb ys e=>by rw[j5 (km e hf)];exact e),o,es,ep,g1,g2,g3,g4,g6⟩
       . cases e
     . cases e
    |_=>cases e
set_option tactic.hygienic true in
theorem ints_rep{ι:Io}{H:Hp}{K:Fg}:∀{ds:List Dv}{vs:List V}{is:Zl}{ns:Xs},j6 K ι H ds vs->Vals vs is->MW.Yh ds=some ns->∃xs:Array (Int×Tok),is.toArray=intItems xs/\xs.toList.map (·.1)=ns
 |_,_,_,_,.nil,.nil,h=>by cases h;exact⟨#[],by simp[intItems],rfl⟩
 |_,_,_,_,.cons r t,.cons rv tv,h=>by
  cases r<;>simp only[MW.Yh] at h<;>try cases h
  rename_i i;obtain⟨ns',e1,e2⟩:=cu.mp h;obtain⟨xs,g1,g2⟩:=ints_rep t tv e1;obtain⟨tk,rfl⟩:=rv;refine⟨#[(i,tk)]++xs,?_,by simp[g2,e2]⟩;have h3:=o4 Array.toList g1;apply Array.toList_inj.mp;simp[intItems] at h3 ⊢;exact h3
theorem adt:∀(l:Xs)(z m:Int),(m=z\/m∈l)->z<=m->(∀a∈l,a<=m)->l.foldl (λm x=>if m<x then x else m) z=m
 |[],z,m,h,_,_=>by rcases h with h|h;exact h.symm;cases h
 |a::l,z,m,h,hz,Ec=>by
  rw[List.foldl_cons];have ha:=Ec a di;refine adt l _ m ?_ (by split<;>lia) (λb hb=>Ec b (bu _ hb));rcases h with h|h
  . subst h;left;split<;>lia
  . rcases bz.mp h with h|h
    . subst h
      by_cases hc:z<m
      . left;rw[dh hc]
      . left;rw[bx hc];lia
    . exact .inr h
theorem adu:∀(l:Xs)(z m:Int),(m=z\/m∈l)->m<=z->(∀a∈l,m<=a)->l.foldl (λm x=>if x<m then x else m) z=m
 |[],z,m,h,_,_=>by rcases h with h|h;exact h.symm;cases h
 |a::l,z,m,h,hz,Ec=>by
  rw[List.foldl_cons];have ha:=Ec a di;refine adu l _ m ?_ (by split<;>lia) (λb hb=>Ec b (bu _ hb));rcases h with h|h
  . subst h;left;split<;>lia
  . rcases bz.mp h with h|h
    . subst h
      by_cases hc:m<z
      . left;rw[dh hc]
      . left;rw[bx hc];lia
    . exact .inr h
def ahz(e:MW.two ds f g M=.ok d M'):M'=M/\((∃i j,ds=[.int i,.int j]/\d=.int (f i j))\/∃x m,ds=[x]/\g x=some m/\d=.int m):=by
 cases ds with
 |nil=>cases e
 |cons x r=>cases r with
  |nil =>
   obtain⟨e1,e2⟩:=w5 (show Res.uo ((g x).map MW.D.int) M=.ok d M' from e);obtain⟨m,e3,e4⟩:=cu.mp e1;exact⟨e2,.inr ⟨x,m,rfl,e3,e4.symm⟩⟩
  |cons y r=>cases r with
   |nil =>
    cases x<;>try cases e
    cases y<;>cases e;exact⟨rfl,.inl ⟨_,_,rfl,rfl⟩⟩
   |cons _ _=>cases e
def Y9{h:List Int->Option Int}(e:((MW.gf M x).bind MW.Yh).bind h=some m):∃xs ns,MW.gf M x=some xs/\MW.Yh xs=some ns/\h ns=some m:=by obtain⟨ns,e5,e6⟩:=dq.mp e;obtain⟨xs,e7,e8⟩:=dq.mp e5;exact⟨xs,ns,e7,e8,e6⟩
def auj(e:MW.qx .max ds M=.ok d M'):M'=M/\((∃i j,ds=[.int i,.int j]/\d=.int (if i<j then j else i))\/∃x xs ns m,ds=[x]/\MW.gf M x=some xs/\MW.Yh xs=some ns/\MW.axv ns=some m/\d=.int m):=by
 obtain⟨h,h2|⟨x,m,h3,h4,h5⟩⟩:=ahz e
 . exact⟨h,.inl h2⟩
 . obtain⟨xs,ns,g1,g2,g3⟩:=Y9 h4
   exact⟨h,.inr ⟨x,xs,ns,m,h3,g1,g2,g3,h5⟩⟩
def auk(e:MW.qx .min ds M=.ok d M'):M'=M/\((∃i j,ds=[.int i,.int j]/\d=.int (if j<i then j else i))\/∃x xs ns m,ds=[x]/\MW.gf M x=some xs/\MW.Yh xs=some ns/\MW.a4k ns=some m/\d=.int m):=by
 obtain⟨h,h2|⟨x,m,h3,h4,h5⟩⟩:=ahz e
 . exact⟨h,.inl h2⟩
 . obtain⟨xs,ns,g1,g2,g3⟩:=Y9 h4
   exact⟨h,.inr ⟨x,xs,ns,m,h3,g1,g2,g3,h5⟩⟩
def Tr(h:Vals [v] us):∃u,us=[u]/\RelV v u:=L2.Vals.one h
def Pk(h:i<xs.size):(xs.toList.map (·.1))[i]?=some (numAt xs i):=by simp[numAt,h]
def a8c(hc:X.calm=true):Cy X (.builtin "max") (rB nm X.K .max):=λpins s σ H vs us Q I Xz hh=>by
 obtain⟨ι,M,ds,d,M',S,r,e,q⟩:=hh;obtain⟨rfl,⟨i,j,rfl,rfl⟩|⟨x,xs,ns,m,rfl,e1,e2,e3,rfl⟩⟩:=auj e
 . cases r with
   |cons h1 t1 =>
    cases t1 with
    |cons h2 t2 =>
     cases t2;cases h1;cases h2;refine ajy hc pins s σ H _ us Q I Xz ⟨i,j,rfl,?_⟩;have:=q ι H _ (Le.refl _ _) S (.int (if i<j then j else i));exact this
 . obtain⟨v,rfl,rv⟩:=Jj r rfl
   obtain⟨u,rfl,ru⟩:=Tr Xz;obtain⟨p,ws,rfl,hp,rl⟩:=qt S rv e1;cases ru;obtain⟨is,rvl,pl,_⟩:=I.list (Hf.of hp);obtain⟨xa,g1,g2⟩:=ints_rep rl rvl e2;have Xf:0<xa.size:=by
    cases ns with
    |nil=>cases e3|cons n ns=>have:=o4 List.length g2;simp at this;lia
   refine max_intList (I.ok.hd hc) (by rw[<- g1];exact pl.isList) Xf λw h' tk hw keep=>?_
   obtain⟨t,rfl⟩:=intItems_at hw;obtain⟨b1,b2⟩:=argBest_gt (numAt xa) (xa.size-1);have hm:m=numAt xa (argBest (λi j=>decide (numAt xa i > numAt xa j)) (xa.size-1)):=by
    cases hns:ns with
    |nil=>rw[hns] at e3;cases e3
    |cons n ns' =>
     rw[hns] at e3;cases e3;have mem:∀i,i<xa.size->numAt xa i∈n::ns':=λi hi=>by rw[<- hns,<- g2];exact au (Pk hi)
     have le:∀a∈n::ns',a<=numAt xa (argBest (λi j=>decide (numAt xa i > numAt xa j)) (xa.size-1)):=λa ha=>by
      rw[<- hns,<- g2] at ha;obtain⟨i,hi⟩:=vd.mp ha;have li:i<xa.size:=by have:=(ao.mp hi).1;simpa using this
      rw[Pk li] at hi;cases hi;exact b2 i (by lia)
     exact adt ns' n _ (bz.mp (mem _ (by omega))) (le n di) (λa ha=>le a (bu _ ha))
   subst hm;exact⟨.int _,H,I.kept keep,⟨t,rfl⟩,q ι H _ (Le.refl _ _) S (.int _)⟩
def Rt(n d:Nat)(o:Option Int):HT.Gq n d o=MW.clip n d o:=by
 cases o with
 |none=>rfl
 |some i =>
  show(if i<0 then(i+(n:Int)).toNat else min i.toNat n)=(if 0<=i then min i.toNat n else(i+(n:Int)).toNat)
  by_cases h:i<0
  . rw[dh h,bx (by lia)]
  . rw[bx h,dh (by lia)]
def tO(nm:Nm)(W:Ir)(K:Fg)(o:OEx):TO:=fun σ H Q=>∃ι ρ M d M',m5 nm K ι H M/\uv K ι H ρ σ/\o.den W ρ M=.ok d M'/\∀ι' H',Le ι H ι' H'->m5 nm K ι' H' M'->Q d H'
def PO.weak(h:PO X e t)(w:∀σ H Q,t' σ H Q->t σ H Q):PO X e t':=λpins s σ H Q I q=>h pins s σ H Q I (w σ H Q q)
def PO.of(h:PO X e t)(w:∀σ H Q ι ρ M d M',m5 nm X.K ι H M->uv X.K ι H ρ σ->o'.den W ρ M=.ok d M'->(∀ι' H',Le ι H ι' H'->m5 nm X.K ι' H' M'->Q d H')->t σ H Q):PO X e (tO nm W X.K o'):=PO.weak h fun σ H Q ⟨ι,ρ,M,d,M',S,R,e,q⟩=>w σ H Q ι ρ M d M' S R e q
def aul:PO X none (tO nm W X.K .none):=PO.of atn fun σ H Q ι ρ M d M' S R e q=>by rw[MW.aje] at e;cases e;exact q ι H (Le.refl _ _) S
set_option tactic.hygienic true in
def aum(ha:PE X a (tE nm W X.K a')):PO X (some a) (tO nm W X.K (.some a')):=PO.of (ato ha) fun σ H Q ι ρ M d M' S R e q=>by rw[MW.ajf] at e;obtain⟨x,M1,e1,e⟩:=dz e;split at e<;>cases e;rename_i i;exact one S R e1 fun ι1 H1 v le S1 R1 r=>by cases r;exact⟨i,rfl,q ι1 H1 le S1⟩
set_option tactic.hygienic true in
def a8d(ha:PE X a (tE nm W X.K a'))(hl:PO X lo (tO nm W X.K lo'))(hh:PO X hi (tO nm W X.K hi')):PE X (.Subscript a (.Slice lo hi none p2) pos) (tE nm W X.K (.cut a' lo' hi')) :=
 PE.of (aoa (SlR.or atq azv) ha hl hh) fun σ H Q ι ρ M d M' S R e q=>by
  rw[MW.asb] at e;obtain⟨x,M1,e1,e⟩:=dz e;obtain⟨l,M2,e2,e⟩:=dz e;obtain⟨h,M3,e3,e⟩:=dz e;obtain⟨e4,e5⟩:=w5 e;subst e5;refine one S R e1 fun ι1 H1 v le S1 R1 r=>⟨ι1,ρ,M1,l,M2,S1,R1,e2,fun ι2 H2 zg S2=>⟨ι2,ρ,M2,h,_,S2,R1.mono zg,e3,fun ι3 H3 Wk S3=>?_⟩⟩
  have r3:=(r.mono zg).mono Wk;have fin:=fun ι' H' w Xi S' r'=>q ι' H' w (((le.trans zg).trans Wk).trans Xi) S' r'
  have lst:∀ds,MW.gf M' x=some ds->d=.vl (MW.Xp ds l h)->a6x X.K v l h H3 Q:=λds hd ed=>by
   obtain⟨p,vs,rfl,hp,rl⟩:=qt S3 r3 hd;refine⟨p,vs,rfl,Hf.of hp,λp' hp'=>?_⟩;have:j6 X.K ι3 H3 (MW.Xp ds l h) (U3 vs l h):=by unfold MW.Xp U3;rw[Rt,Rt,<- rl.length];exact(rl.drop _).take _
   obtain⟨S4,le4,r4⟩:=aax (X:=X) S3 hp' this;subst ed;exact fin _ _ _ le4 S4 r4
  cases x with
  |tup ds =>
   right
   simp only[MW.Hm] at e4;cases e4;cases r3 with
   |@tup p _ vs hp rl =>
    have:j6 X.K ι3 H3 (MW.Xp ds l h) (U3 vs l h):=by unfold MW.Xp U3;rw[Rt,Rt,<- rl.length];exact(rl.drop _).take _
    refine⟨p,vs,rfl,Kv.of hp,λz1 z2=>?_,λp' hp'=>?_⟩
    . have e:U3 vs l h=vs:=by
       unfold U3;rw[z1,z2];simp
      rw[e] at this;exact fin _ _ _ (Le.refl _ _) S3 (.tup hp this)
    . obtain⟨S4,le4,r4⟩:=Lq (X:=X) S3 hp' this
      exact fin _ _ _ le4 S4 r4
  |_ =>
   left
   simp only[MW.Hm] at e4;obtain⟨ds,hd,ed⟩:=cu.mp e4;exact lst ds hd ed.symm
def ao6(K:Fg)(T:String):PySem.W.kitOne K (.type T) (.type T)=some true:=by unfold PySem.W.kitOne;rw[dh (by simp)]
def ao7(hg:Gl X n)(hm:X.mg n=none)(hv:bootBuiltins n=some (.builtin "isinstance"))(hn:n≠"__name__")(Uk:(n==("__debug__" : Str))=false)(hg2:Gl X tn)(hm2:X.mg tn=none)(hv2:bootBuiltins tn=some (.type "bool"))(Xm:tn≠"__name__")(af7:(tn==("__debug__" : Str))=false)(ha:PE X a (tE nm W X.K a'))(he:starEach [a,.Name tn p'] X.env=(false,eval a X.env)::starEach [.Name tn p'] X.env)(he2:starEach [.Name tn p'] X.env=(false,eval (.Name tn p') X.env)::starEach [] X.env)(Ip:(backTo pos (starEach [.Name tn p'] X.env)).any (·.1)=false):PE X (.Call (.Name n p) [a,.Name tn p'] [] pos) (tE nm W X.K (.blt .isBool (.cons a' .nil))):=by
 intro pins s σ H Q I hh;obtain⟨ι,ρ,M,d,M',S,R,e,q⟩:=hh;rw[MW.Z0] at e;obtain⟨ds,M1,e1,e⟩:=dz e;rw[MW.Hj] at e1;obtain⟨x,M2,e2,e1⟩:=dz e1;rw[MW.Q7] at e1;cases e1;refine je (Dw I hg hm hv ?_ hn Uk);refine yh (Q:=EP X pins σ Q) ?_ he Ip;rw[he];show wpAny _ _ (spliced ((false,eval a X.env)::backTo pos (starEach [.Name tn p'] X.env))) _ _ s;refine t7 (Bq (ha pins s σ H (λv H1=>∃ι1,Le ι H ι1 H1/\m5 nm X.K ι1 H1 M1/\Rep X.K ι1 H1 x v) I ⟨ι,ρ,M,x,M1,S,R,e2,fun ι1 H1 v le S1 r=>⟨ι1,le,S1,r⟩⟩) λu s1 ⟨v,H1,I1,r1,ι1,le,S1,r⟩=>?_);rw[he2];show wpAny _ _ (spliced ((false,eval (.Name tn p') X.env)::backTo pos (starEach [] X.env))) _ _ s1;refine t7 (Dw I1 hg2 hm2 hv2 ?_ Xm af7);refine vz ?_;cases r with
 |bl b =>
  cases e;cases(show u=Value.bool b from r1);exact PySem.W.kia_one PySem.W.kitx_bool I1.kIn True.intro (ao6 _ _) (λz=>nomatch z) λtk=>⟨.bl true,H1,I1.tok _,rfl,q ι1 H1 _ le S1 (.bl true)⟩
 |_=>cases e
def a8e(hc:X.calm=true):Cy X (.builtin "min") (rB nm X.K .min):=λpins s σ H vs us Q I Xz hh=>by
 obtain⟨ι,M,ds,d,M',S,r,e,q⟩:=hh;obtain⟨rfl,⟨i,j,rfl,rfl⟩|⟨x,xs,ns,m,rfl,e1,e2,e3,rfl⟩⟩:=auk e
 . cases r with
   |cons h1 t1 =>
    cases t1 with
    |cons h2 t2 =>
     cases t2;cases h1;cases h2;refine ajz hc pins s σ H _ us Q I Xz ⟨i,j,rfl,?_⟩;have:=q ι H _ (Le.refl _ _) S (.int (if j<i then j else i));exact this
 . obtain⟨v,rfl,rv⟩:=Jj r rfl
   obtain⟨u,rfl,ru⟩:=Tr Xz;obtain⟨p,ws,rfl,hp,rl⟩:=qt S rv e1;cases ru;obtain⟨is,rvl,pl,_⟩:=I.list (Hf.of hp);obtain⟨xa,g1,g2⟩:=ints_rep rl rvl e2;have Xf:0<xa.size:=by
    cases ns with
    |nil=>cases e3|cons n ns=>have:=o4 List.length g2;simp at this;lia
   refine min_intList (I.ok.hd hc) (by rw[<- g1];exact pl.isList) Xf λw h' tk hw keep=>?_
   obtain⟨t,rfl⟩:=intItems_at hw;obtain⟨b1,b2⟩:=argBest_lt (numAt xa) (xa.size-1);have hm:m=numAt xa (argBest (λi j=>decide (numAt xa i<numAt xa j)) (xa.size-1)):=by
    cases hns:ns with
    |nil=>rw[hns] at e3;cases e3
    |cons n ns' =>
     rw[hns] at e3;cases e3;have mem:∀i,i<xa.size->numAt xa i∈n::ns':=λi hi=>by rw[<- hns,<- g2];exact au (Pk hi)
     have le:∀a∈n::ns',numAt xa (argBest (λi j=>decide (numAt xa i<numAt xa j)) (xa.size-1))<=a:=λa ha=>by
      rw[<- hns,<- g2] at ha;obtain⟨i,hi⟩:=vd.mp ha;have li:i<xa.size:=by have:=(ao.mp hi).1;simpa using this
      rw[Pk li] at hi;cases hi;exact b2 i (by lia)
     exact adu ns' n _ (bz.mp (mem _ (by omega))) (le n di) (λa ha=>le a (bu _ ha))
   subst hm;exact⟨.int _,H,I.kept keep,⟨t,rfl⟩,q ι H _ (Le.refl _ _) S (.int _)⟩
def X3{n:Nat}(hh:A.handled=none)(hr:IsRange s.heap r a b c t u v)(Wv:Builtin.Range.small a b c=true)(hn:Builtin.Range.rangeSize a b c=n)(hlen:n<=2 ^ 24)(hQ:∀(h':Heap) (tk:Nat) (acc:U1),(∀b o,s.heap.get? b=some o->h'.get? b=some o)->ItemsOf (λi v=>∃t,v=.int (a+i*c) t) acc n->Q acc.toList { s with heap:=h',toks:=tk }):wpAny (model prog w) A (collect (.ref r)) Q E s:=by
 unfold collect;refine aa (wpAny_runValue (m7 F.entry_proto_collect ?_));rw[j4 F.plain_proto_collect _];show wpAny _ A.in1 (newList [] >>= λl=>again (.builtin "list.__iadd__" ⟨[l,.ref r],[]⟩)) _ _ s;refine aa (ju ?_);refine aj ⟨plainId_quiet F.plain_list_iadd _,m7 F.entry_list_iadd ?_⟩;rw[j4 F.plain_list_iadd _];show wpAny _ A.in1 (Builtin.List.listExtendWith (.ref s.heap.objs.size) (.ref r) (.ref s.heap.objs.size)) _ _ _;have keep:∀b o,s.heap.get? b=some o->(s.heap.push { cls:=.type "list",data:=.seq ([]:Zl).toArray }).get? b=some o:=λb o e=>ak _ e
 have hS0:(s.heap.push { cls:=.type "list",data:=.seq ([]:Zl).toArray }).get? s.heap.objs.size=some { cls:=.type "list",data:=.seq #[] 0 }:=bh _ rfl;have ext:=wpAny_extend_range (prog:=prog) (w:=w) (A:=A) (R:=λr' s'=>∃(h':Heap)(tk:Nat)(acc:U1)(c':Nat),r'=.ok (.ret (.ref s.heap.objs.size))/\s'={ s with heap:=h',toks:=tk }/\(∀b o,s.heap.get? b=some o->h'.get? b=some o)
 /\h'.get? s.heap.objs.size=some { cls:=.type "list",dict:=none,data:=.seq acc c',slots:=#[] }/\ItemsOf (λi v=>∃t,v=.int (a+i*c) t) acc n)
  (s:={ s with heap:=s.heap.push { cls:=.type "list",data:=.seq ([]:Zl).toArray } }) hh (keep _ _ hr) Wv hn hlen s.heap.objs.size (.ref s.heap.objs.size) 0 hS0
  λh' tk acc c' hk hS Fo=>⟨h',tk,acc,c',rfl,rfl,λb o e=>hk b o (fc (az e)) (keep b o e),hS,Fo⟩
 have last:∀{r':Result}{s':Shared},(∃(h':Heap)(tk:Nat)(acc:U1)(c':Nat),r'=.ok (.ret (.ref s.heap.objs.size))/\s'={ s with heap:=h',toks:=tk }/\(∀b o,s.heap.get? b=some o->h'.get? b=some o)
 /\h'.get? s.heap.objs.size=some { cls:=.type "list",dict:=none,data:=.seq acc c',slots:=#[] }/\ItemsOf (λi v=>∃t,v=.int (a+i*c) t) acc n)->∃(h':Heap)(tk:Nat)(acc:U1)(c':Nat),r'=.ok (.ret (.ref s.heap.objs.size))/\s'={ s with heap:=h',toks:=tk }/\h'.get? s.heap.objs.size=some { cls:=.type "list",dict:=none,data:=.seq acc c',slots:=#[] }/\Q acc.toList s':=λ⟨h',tk,acc,c',e1,e2,e3,e4,e5⟩=>⟨h',tk,acc,c',e1,e2,e4,by rw[e2];exact hQ h' tk acc e3 e5⟩
 refine lz ext (λfin s' hf=>?_) (λe s' he=>?_)
 . cases fin with
   |done f =>
    obtain⟨h',tk,acc,c',e1,rfl,e4,e5⟩:=last hf;cases e1;exact aa (wpAny_load e4 (aj e5))
   |again c' =>
    refine⟨hf.1,vf hf.2 λr' s'' hr'=>?_⟩;obtain⟨h',tk,acc,c',e1,rfl,e4,e5⟩:=last hr';subst e1;exact aa (wpAny_load e4 (aj e5))
 . obtain⟨_,_,_,_,e1,_⟩:=last he
   cases e1
def Tt{n:Nat}(hh:A.handled=none)(hr:IsRange s.heap r a b c t u v)(Wv:Builtin.Range.small a b c=true)(hn:Builtin.Range.rangeSize a b c=n)(hlen:n<=2 ^ 24)(h:∀(h':Heap) (tk:Nat) (acc:U1),(∀b o,s.heap.get? b=some o->h'.get? b=some o)->ItemsOf (λi v=>∃t,v=.int (a+i*c) t) acc n->Q₁ (.ref h'.objs.size) { s with heap:=h'.push { cls:=.type "tuple",data:=.seq acc },toks:=tk }) :
 codeAny (model prog w) A (.call (.builtin "tuple.__new__") ⟨[.type "tuple",.ref r],[]⟩) (wants Q₁ E) s:=by
 refine codeAny_of_tree ?_;show wpAny _ A.in1 (do checkBuiltinCall "tuple.__new__" ⟨[.type "tuple",.ref r],[]⟩;again (.builtin "tuple.__new__" ⟨[.type "tuple",.ref r],[]⟩)) _ _ s;refine aa (wpAny_of_eq (F.newCall_tuple_1 _) (aj ⟨plainId_quiet F.plain_tuple_new _,m7 F.entry_tuple_new ?_⟩));rw[j4 F.plain_tuple_new _];have Zu:=sub_tuple_self;have bg5:=init_tuple_lookup;have hmh:=madeHere_tuple;have hTI:s.TypeIs (.ref r) "range" := ⟨_,hr,rfl⟩
 wp_walk using qb hTI,X3 (A:=A.in1) hh hr Wv hn hlen
 intro h' tk acc hk Fo;show wpAny _ _ (Builtin.Tuple.tupleExact acc.toList.toArray >>= λv=>ret v) _ _ _;unfold Builtin.Tuple.tupleExact;refine aa (ju ?_ (by show acc.toList.toArray.size<=sizeLine;simp only[Array.toArray_toList];rw[Fo.1,qj];exact hlen));refine aj ?_;have e:acc.toList.toArray=acc:=by simp
 rw[e];exact h h' tk acc hk Fo
def Tu{n:Nat}(hh:A.handled=none)(hr:IsRange s.heap r a b c t u v)(Wv:Builtin.Range.small a b c=true)(hn:Builtin.Range.rangeSize a b c=n)(hlen:n<=2 ^ 24)(hQ:∀(h':Heap) (tk:Nat) (acc:U1),(∀b o,s.heap.get? b=some o->h'.get? b=some o)->ItemsOf (λi v=>∃t,v=.int (a+i*c) t) acc n->Q (.ref h'.objs.size) { s with heap:=h'.push { cls:=.type "tuple",data:=.seq acc },toks:=tk }) :
 wpAny (model prog w) A (call (.type "tuple") [.ref r]) Q E s:=by
 refine callType_codes (Q₁:=λobj s₁=>s₁.TypeIs obj "tuple"/\Q obj s₁) F.called_tuple (F.typeCall_tuple_1 _) F.entry_object_init
  (Tt (A:=A.in1) hh hr Wv hn hlen λh' tk acc hk Fo=>⟨⟨_,bh _ rfl,rfl⟩,hQ h' tk acc hk Fo⟩) λobj s₁ h₁=>?_
 exact⟨h₁.1,F.args_object_init_2 obj _,object_init_meets F.called_tuple.init.lookup F.called_tuple.made (by decide) prog w A.in1 _ s₁ ⟨h₁.1,rfl,h₁.2⟩⟩
def Ww(h:ItemsOf (λi v=>∃t,v=.int (0+(i:Int)*1) t) acc n):Vals ((List.range n).map λ(k:Nat)=>V.int (k:Int)) acc.toList:=by
 have go:∀(l:Zl)(k:Nat),(∀(j:Nat)(v:Value),l[j]?=some v->∃t,v=Value.int ((k+j:Nat):Int) t)->Vals ((List.range' k l.length).map λ(k:Nat)=>V.int (k:Int)) l:=by
  intro l
  induction l with
  |nil=>intro k _;exact .nil
  |cons v l ih =>
   intro k hk;rw[iw,List.range'_succ,iu];refine .cons ?_ (ih (k+1) λj v hj=>?_)
   . exact hk 0 v rfl
   . obtain⟨t,e⟩:=hk (j+1) v (by simpa using hj)
     exact⟨t,by rw[e];congr 1;lia⟩
 have:=go acc.toList 0 (λj v hj=>by
  obtain⟨t,e⟩:=h.2 j v (by simpa using hj);exact⟨t,by rw[e];congr 1;lia⟩)
 rw[q9,h.1,<- List.range_eq_range'] at this;exact this
def Wx(n:Nat):j6 K ι H ((List.range n).map λ(k:Nat)=>MW.D.int (k:Int)) ((List.range n).map λ(k:Nat)=>V.int (k:Int)):=by
 generalize List.range n=l
 induction l with
 |nil=>exact .nil|cons k l ih=>exact .cons (.int _) ih
set_option tactic.hygienic true in
def a0v(hr:Ah 8 X.A)(hg:Gl X n)(hm:X.mg n=none)(hv:bootBuiltins n=some (.type "tuple"))(hn:n≠"__name__")(Uk:(n==("__debug__" : Str))=false)(hg2:Gl X tn)(hm2:X.mg tn=none)(hv2:bootBuiltins tn=some (.type "range"))(Xm:tn≠"__name__")(af7:(tn==("__debug__" : Str))=false)(ha:PA X [a] (Xh nm W X.K (.cons a' .nil)))(he:starEach [.Call (.Name tn p') [a] [] q2] X.env=(false,eval (.Call (.Name tn p') [a] [] q2) X.env)::starEach [] X.env)(Ip:(backTo q1 (starEach [] X.env)).any (·.1)=false)(he2:starEach [a] X.env=(false,eval a X.env)::starEach [] X.env)(af5:(backTo q2 (starEach [] X.env)).any (·.1)=false) :
 PE X (.Call (.Name n p) [.Call (.Name tn p') [a] [] q2] [] q1) (tE nm W X.K (.ae0 a')):=by
 intro pins s σ H Q I hh;obtain⟨ι,ρ,M,d,M',S,R,e,q⟩:=hh;rw[MW.amc] at e;obtain⟨x,M1,e1,e⟩:=dz e;split at e<;>try cases e
 rename_i i;split at e<;>cases e;rename_i hi;refine je (Dw I hg hm hv ?_ hn Uk);refine jh (Q:=EP X pins σ Q) ?_ he Ip;rw[he];show wpAny _ _ (spliced ((false,eval (.Call (.Name tn p') [a] [] q2) X.env)::backTo q1 (starEach [] X.env))) _ _ s;refine t7 ?_;refine je (Dw I hg2 hm2 hv2 ?_ Xm af7);refine jh (Bq (ha q2 pins s σ H (λvs H1=>∃ι1,vs=[.int i]/\Le ι H ι1 H1/\m5 nm X.K ι1 H1 M') I ⟨ι,ρ,M,[.int i],M',S,R,by simp[e1,Res.bind],fun ι1 H1 vs le S1 r=>?_⟩) λus s1 ⟨vs,H1,I1,r1,ι1,ev,Vb,S1⟩=>?_) he2 af5
 . obtain⟨v,ev,rv⟩:=Jj r rfl
   cases rv;exact⟨ι1,ev,le,S1⟩
 subst ev;obtain⟨u,rfl,ru⟩:=Tr r1;obtain⟨t,rfl⟩:=ru;refine call_range_1 ?_;show wpAny _ _ (spliced []) _ _ _;refine vz ?_;have keep:∀b o,s1.heap.get? b=some o->(s1.heap.push { cls:=.type "range",data:=.fields #[.int 0 s1.toks,.int i t,.int 1 (s1.toks+1)] }).get? b=some o:=λb o e=>ak _ e
 refine Tu (n:=i.toNat) hr.hd (bh _ rfl) (small_one (by lia) (by lia) (by lia) (by omega)) (by rw[rangeSize_one];split<;>lia) (by lia) λh' tk acc hk Fo=>?_
 have I2:Inv X pins σ H1 { s1 with heap:=h',toks:=tk }:=I1.kept λb o e=>hk b o (keep b o e)
 have hz:((List.range i.toNat).map λ(k:Nat)=>V.int (k:Int)).length<=sizeLine:=by simp[qj];omega
 have hf:H1 h'.objs.size=none:=I2.An.fresh (bw _);have I3:Inv X pins σ (upd H1 h'.objs.size (.tup ((List.range i.toNat).map λ(k:Nat)=>V.int (k:Int)))) { s1 with heap:=h'.push { cls:=.type "tuple",data:=.seq acc },toks:=tk } :=
  I2.laid (a:=h'.objs.size) (t':=tk) (λb o e=>ak _ e) (bw _) (show Bk X.prog X.w _ _ _ (.tup _) from⟨hz,acc.toList,Ww Fo,by simpa using L2.V7.new _ _⟩)
 obtain⟨S2,zg,r2⟩:=Lq (X:=X) S1 hf (Wx i.toNat);exact⟨.ref h'.objs.size,_,I3,rfl,q ι1 _ _ (Vb.trans zg) S2 r2⟩
end Sm
namespace EnT
open PySem PySem.Spec
open AutoSeq1 (wpAny_loadPart')
set_option tactic.hygienic true in
def ao8(a:s.heap.IsTupleIter it t i)(b:s.heap.IsTuple t xs)(e:xs[i]?=some x)(q:∀h',h'.IsTupleIter it t (i+1)->Heap.SameBut it s.heap h'->Q x { s with heap:=h' }):wpAny (model prog w) A (Builtin.SmallTypes.nextOf (.ref it)) Q E s:=by obtain⟨o,o1,o2,o3⟩:=id a;obtain⟨ol,l1,l2,nl,l3⟩:=b;unfold Builtin.SmallTypes.nextOf;refine aa (ji (name:=Str.ofString "__next__") a.typeIs ur (jc ur a.typeIs F.entry_tuple_iterator_next ?_ (F.args_tuple_iterator_next_1 _)));show wpAny _ _ (field (.ref it) 0 >>= _) _ _ s;refine aa (il o1 o3 (x:=.ref t) rfl ?_);show wpAny _ _ (if(Value.ref t==Value.none)=true then _ else field (.ref it) 1 >>= _) _ _ s;rw[bx (show ¬((Value.ref t==Value.none)=true) by exact jd)];refine aa (il o1 o3 (x:=.int i 0) rfl (aa (o5 l1 l3 ?_)));simp only[pq,e];refine aa (wpAny_setField o1 o3 (by simp) (aj ⟨x,rfl,aj (q _ ⟨_,my _ o1 (Obj.isFreed_of_fields (Obj.data_mapFields o3 _)),(Obj.cls_mapFields ..).trans o2,?_⟩ (jt ..))⟩));rw[Obj.data_mapFields o3];simp[rawInt]
set_option tactic.hygienic true in
def aun(hd:A.handled=none)(a:s.heap.IsTupleIter it t i)(b:s.heap.IsTuple t xs)(e:xs[i]?=none)(q:∀h' x,Heap.ExtBut it s.heap h'->(∃o,h'.get? x=some o/\o.cls=.type "StopIteration")->E (.ref x) { s with heap:=h' }):wpAny (model prog w) A (Builtin.SmallTypes.nextOf (.ref it)) Q E s:=by obtain⟨o,o1,o2,o3⟩:=id a;obtain⟨ol,l1,l2,nl,l3⟩:=b;unfold Builtin.SmallTypes.nextOf;refine aa (ji (name:=Str.ofString "__next__") a.typeIs ur (jc ur a.typeIs F.entry_tuple_iterator_next ?_ (F.args_tuple_iterator_next_1 _)));show wpAny _ _ (field (.ref it) 0 >>= _) _ _ s;refine aa (il o1 o3 (x:=.ref t) rfl ?_);show wpAny _ _ (if(Value.ref t==Value.none)=true then _ else field (.ref it) 1 >>= _) _ _ s;rw[bx (show ¬((Value.ref t==Value.none)=true) by exact jd)];refine aa (il o1 o3 (x:=.int i 0) rfl (aa (o5 l1 l3 ?_)));simp only[pq,e];refine aa (wpAny_rule (aa (wpAny_setField o1 o3 (by simp) ?_)));show wpAny _ _ (newExc (.type "StopIteration") [] >>= raiseNew) _ _ _;exact Xk.Zx hd λh' x k e=>q h' x (λb o n z=>k b o ((jt ..).extBut b o n z)) e
def Ms(b:Bool)(h:Heap)(it a:Addr)(i:Nat):Prop:=cond b (h.IsTupleIter it a i) (h.IsListIter it a i)
def Tv(b:Bool)(h:Heap)(a:Addr)(xs:U1):Prop:=cond b (h.IsTuple a xs) (h.IsList a xs)
def Ms.at(x:Ms b h it a i)(k:∀o,h.get? it=some o->h'.get? it=some o):Ms b h' it a i:=by
 cases b with
 |true=>obtain⟨o,e,r⟩:=x;exact⟨o,k o e,r⟩
 |false=>obtain⟨o,e,r⟩:=x;exact⟨o,k o e,r⟩
def Ms.obj(x:Ms b h it a i):∃o,h.get? it=some o/\∀v,o.data≠.cell v:=by
 cases b with
 |true=>obtain⟨o,e,c,d⟩:=x;exact⟨o,e,λv z=>by rw[d] at z;cases z⟩
 |false=>obtain⟨o,e,c,d⟩:=x;exact⟨o,e,λv z=>by rw[d] at z;cases z⟩
def Ru(a:Ms b s.heap it t i)(c:Tv b s.heap t xs)(e:xs[i]?=some x)(q:∀h',Ms b h' it t (i+1)->Heap.SameBut it s.heap h'->Q x { s with heap:=h' }):wpAny (model prog w) A (Builtin.SmallTypes.nextOf (.ref it)) Q E s:=by
 cases b with
 |true=>exact ao8 a c e q|false=>exact wpAny_nextOf_list_item a c e q
def aa6(hd:A.handled=none)(a:Ms b s.heap it t i)(c:Tv b s.heap t xs)(e:xs[i]?=none)(q:∀h' x,Heap.ExtBut it s.heap h'->(∃o,h'.get? x=some o/\o.cls=.type "StopIteration")->E (.ref x) { s with heap:=h' }):wpAny (model prog w) A (Builtin.SmallTypes.nextOf (.ref it)) Q E s:=by
 cases b with
 |true=>exact aun hd a c e q|false=>exact wpAny_nextOf_list_end hd a c e q
def auo{i:Nat}{Q:Y1}(he:IsEnum s.heap e it i old)(a:Ms b s.heap it t i)(c:Tv b s.heap t xs)(ex:xs[i]?=some x)(ne:e≠it)(q:∀h',IsEnumOut h' e it ((i:Int)+1) x s.heap.objs.size->Ms b h' it t (i+1)->h'.get? s.heap.objs.size=some { cls:=.type "tuple",data:=.seq #[.int i s.toks,x] }->h'.objs.size=s.heap.objs.size+1 ->
 (∀y o,y≠e->y≠it->s.heap.get? y=some o->h'.get? y=some o)->Q (.ref s.heap.objs.size) { s with heap:=h',toks:=s.toks+1 }) :
 wpAny (model prog w) A (Builtin.«enumerate.__next__» ⟨[.ref e],[]⟩) (λfin s'=>∃v,fin=.done (.ret v)/\Q v s') E s:=by
 obtain⟨hp,g,d,tk,os⟩:=s;show wpAny _ _ (field (.ref e) 2 >>= _) _ _ _;refine aa (il he rfl (x:=.ref it) rfl (aa (Ru a c ex λh1 a1 s1=>?_)));have s1:Heap.SameBut it hp h1:=s1;have e1:IsEnum h1 e it i old:=(s1.2 e ne).trans he;refine aa (il e1 rfl (x:=rawInt i) rfl (aa (il e1 rfl (x:=.none) rfl (aa (wpAny_mkInt ?_)))));show wpAny _ _ (setField (.ref e) 3 (rawInt ((i:Int)+1)) >>= _) _ _ ⟨h1,g,d,tk+1,os⟩;refine aa (iz e1 (by simp) λh2 e2 s2=>?_);have s2:Heap.SameBut e h1 h2:=s2;have e2:IsEnum h2 e it ((i:Int)+1) old:=e2;refine aa (iz e2 (by simp) λh3 e3 s3=>?_);have s3:Heap.SameBut e h2 h3:=s3;have e3:IsEnum h3 e it ((i:Int)+1) old:=e3;refine aa (wpAny_newTuple ?_);have n3:h3.objs.size=hp.objs.size:=by rw[s3.1,s2.1,s1.1]
 obtain⟨h4,d4⟩:∃h4,h4=h3.push { cls:=.type "tuple",data:=.seq #[.int i tk,x] }:=⟨_,rfl⟩;have e4:IsEnum h4 e it ((i:Int)+1) old:=by rw[d4];exact ak _ e3
 have t4:h4.get? hp.objs.size=some { cls:=.type "tuple",data:=.seq #[.int i tk,x] }:=by rw[d4,<- n3];exact bh _ rfl
 have n4:h4.objs.size=hp.objs.size+1:=by rw[d4,ig,n3]
 have k3:∀y o,y≠e->h1.get? y=some o->h4.get? y=some o:=λy o hy z=>by rw[d4];exact ak _ (s3.extBut y o hy (s2.extBut y o hy z))
 have a4:Ms b h4 it t (i+1):=a1.at λo z=>k3 it o (j0 ne) z
 have lt:e<hp.objs.size:=az he
 show wpAny _ _ (Builtin.SmallTypes.ownedTupleIsFree (.ref e) >>= _) _ _ ⟨h3.push _,g,d,tk+1,os⟩;rw[n3,<- d4];refine aa ?_;unfold Builtin.SmallTypes.ownedTupleIsFree;refine aa (il e4 rfl (x:=.none) rfl (aj ?_));simp only[jy];refine aa (wpAny_rule (aa (il e4 rfl (x:=old) rfl (aa (iz e4 (by simp) λh5 e5 s5=>?_)))));have s5:Heap.SameBut e h4 h5:=s5;have e5:IsEnum h5 e it ((i:Int)+1) x:=e5;refine aa ?_;unfold Builtin.SmallTypes.ownedTupleHandOut;refine aa (iz e5 (by simp) λh6 e6 s6=>?_);have s6:Heap.SameBut e h5 h6:=s6;have e6:IsEnumOut h6 e it ((i:Int)+1) x hp.objs.size:=e6;refine iz e6 (by simp) λh7 e7 s7=>?_
 have s7:Heap.SameBut e h6 h7:=s7;have k7:∀y o,y≠e->h4.get? y=some o->h7.get? y=some o:=λy o hy z=>s7.extBut y o hy (s6.extBut y o hy (s5.extBut y o hy z))
 exact aa (wpAny_letGo (aj ⟨_,rfl,q h7 e7 (a4.at λo z=>k7 it o (j0 ne) z) (k7 _ _ (u5 lt) t4) (by rw[s7.1,s6.1,s5.1,n4]) λy o y1 y2 z=>k7 y o y1 (k3 y o y1 (s1.extBut y o y2 z))⟩))
set_option tactic.hygienic true in
def aup{i:Nat}(he:IsEnum s.heap e it i old)(a:Ms b s.heap it t i)(c:Tv b s.heap t xs)(ex:xs[i]?=some x)(ne:e≠it)(q:∀h',IsEnumOut h' e it ((i:Int)+1) x s.heap.objs.size->Ms b h' it t (i+1)->h'.get? s.heap.objs.size=some { cls:=.type "tuple",data:=.seq #[.int i s.toks,x] }->h'.objs.size=s.heap.objs.size+1 ->
 (∀y o,y≠e->y≠it->s.heap.get? y=some o->h'.get? y=some o)->Q (some (.ref s.heap.objs.size)) { s with heap:=h',toks:=s.toks+1 }):wpAny (model prog w) A (pyNext (.ref e)) Q E s:=by
 have ty:s.TypeIs (.ref e) "enumerate" := ⟨_,he,rfl⟩;unfold pyNext;refine aa (uy (ji (name:=Str.ofString "__next__") ty wy (jc wy ty F.entry_enumerate_next ?_ (F.args_enumerate_next_1 _))));exact auo he a c ex ne λh' y1 y2 y3 y4 y5=>aj (q h' y1 y2 y3 y4 y5)
set_option tactic.hygienic true in
def auq{i:Nat}(hd:A.handled=none)(he:IsEnum s.heap e it i old)(a:Ms b s.heap it t i)(c:Tv b s.heap t xs)(ex:xs[i]?=none)(q:∀h',Heap.ExtBut it s.heap h'->Q none { s with heap:=h' }):wpAny (model prog w) A (pyNext (.ref e)) Q E s:=by have ty:s.TypeIs (.ref e) "enumerate" := ⟨_,he,rfl⟩;unfold pyNext;refine aa (uy (ji (name:=Str.ofString "__next__") ty wy (jc wy ty F.entry_enumerate_next ?_ (F.args_enumerate_next_1 _))));show wpAny _ _ (field (.ref e) 2 >>= _) _ _ _;refine aa (il he rfl (x:=.ref it) rfl (aa (aa6 hd a c ex λh' z k ⟨o,o1,o2⟩=>?_)));exact aa (mj (T := "StopIteration") (b:=true) ⟨o,o1,o2⟩ isSubtype_stop (aj (q _ k)))
set_option tactic.hygienic true in
def aur(t:Addr)(xs:U1)(n:Nat)(dct:Option Addr)(sl:Array (Option Value)) :
 Meets (Builtin.«enumerate.__new__» ⟨[.type "enumerate",.ref t],[]⟩) (λ_ R s=>s.heap.get? t=some { cls:=.type "tuple",dict:=dct,data:=.seq xs n,slots:=sl } /\
  R (.ok (.ret (.ref (s.heap.push { cls:=.type "tuple_iterator",data:=.fields #[.ref t,.int 0 0] }).objs.size)))
   { s with heap:=(s.heap.push { cls:=.type "tuple_iterator",data:=.fields #[.ref t,.int 0 0] }).push { cls:=.type "enumerate",data:=.fields #[.none,.bool false,.ref s.heap.objs.size,rawInt 0,.none,.none] } }) :=
 .of_wp λprog w A R s h=>by
  obtain⟨hp,g,d,tk,os⟩:=s;obtain⟨hl,h⟩:=h;have Zu:=sub_enumerate;have hT:Heap.IsTuple (Shared.heap ⟨hp,g,d,tk,os⟩) t xs:=⟨_,hl,rfl,n,rfl⟩
  wp_walk using wpAny_loadPart' hl
  refine wpAny_stack_any λst=>aj ?_
  split
  . rename_i c _ _ _ _ _
    cases(c==Value.type "enumerate")<;>(wp_walk using wpAny_loadPart' hl,wpAny_pyIter_tuple hT)<;>exact⟨_,rfl,h⟩
  . wp_walk using wpAny_loadPart' hl,wpAny_pyIter_tuple hT
    exact⟨_,rfl,h⟩
def ao9(c:s.heap.IsTuple t xs)(q:∀h',IsEnum h' (s.heap.objs.size+1) s.heap.objs.size 0 .none->h'.IsTupleIter s.heap.objs.size t 0->h'.objs.size=s.heap.objs.size+2 ->
 (∀y o,s.heap.get? y=some o->h'.get? y=some o)->Q (.ref (s.heap.objs.size+1)) { s with heap:=h' }):wpAny (model prog w) A (call (.type "enumerate") [.ref t]) Q E s:=by
 obtain⟨⟨c0,dct,dt,sl⟩,hl,hc,n,hd⟩:=c;have hc:c0=.type "tuple" := hc;have hd:dt=.seq xs n:=hd;subst hc hd;have n1:(s.heap.push { cls:=.type "tuple_iterator",data:=.fields #[.ref t,.int 0 0] }).objs.size=s.heap.objs.size+1:=ig ..;refine callType_new F.called_enumerate (by decide) (F.typeCall_enumerate_1 _) (F.newCall_enumerate_1 _) (λobj=>F.args_object_init_2 obj _) F.entry_enumerate_new (aur t xs n dct sl) ⟨hl,?_⟩;show _/\_;rw[n1];have e1:IsEnum ((s.heap.push { cls:=.type "tuple_iterator",data:=.fields #[.ref t,.int 0 0] }).push { cls:=.type "enumerate",data:=.fields #[.none,.bool false,.ref s.heap.objs.size,rawInt 0,.none,.none] }) (s.heap.objs.size+1) s.heap.objs.size 0 .none:=by rw[<- n1];exact bh _ rfl
 exact⟨⟨_,e1,rfl⟩,q _ e1 ⟨_,ak _ (bh _ rfl),rfl,rfl⟩ (by rw[ig,n1]) λy o z=>ak _ (ak _ z)⟩
end EnT
namespace L2
open PySem PySem.Spec EnT
def Inv.Za{ch:X9}(I:Inv X pins σ H s)(hf:∀b∈ch,U0 X pins H b)(k:∀b o,b∉ch->s.heap.get? b=some o->h'.get? b=some o)(hn:s.heap.objs.size<=n)(new:Bk X.prog X.w (upd H n (.tup vs)) h' n (.tup vs)):Inv X pins σ (upd H n (.tup vs)) { s with heap:=h',toks:=t' }:=by
 have fr:H n=none:=I.An.fresh hn;have nch:∀b u,H b=some u->b∉ch:=λb u e z=>by rw[(hf b z).1] at e;cases e
 have old:∀b o,s.heap.get? b=some o->b≠n:=λb o e=>fc (gr (az e) hn)
 refine I.step (g':=s.gens) (d':=s.drawn) (ch:=ch) (λb hb=>⟨(hf b hb).2.2.2.1,(hf b hb).2.1,(hf b hb).2.2.2.2.1,(hf b hb).2.2.2.2.2⟩) (λb o _ _ hc e _=>k b o hc e) (λb o _ _ hc e _=>⟨o.slots,k b o hc e⟩) (λb o _ e n0=>by rw[j5 (old b o e)];exact n0)
  (λb o hc e=>⟨o,k b o hc e⟩) (λb xs e=>by rw[j5 (km e fr)];exact e) (λb o u e=>by rw[j5 (km e fr)];exact e) (λb ps e=>⟨#[],by rw[j5 (km e fr),e];simp⟩) (λm hm=>?_) (λb u e=>?_) I.bare
 . obtain⟨o,es,ep,ho,r⟩:=hm
   exact⟨o,es,ep,k _ o (λz=>(hf _ z).2.1 rfl) ho,r⟩
 . by_cases z:b=n
   . subst z;rw[vh] at e;cases e;exact new
   . rw[j5 z] at e
     refine(I.An b u e).stay (λc v hc q=>k c v ?_ q) (λc q=>by rw[j5 (km q fr)];exact q) λc xs q=>by rw[j5 (km q fr)];exact q
     rcases hc with y|y
     . rw[y];exact nch b u e
     . exact nch c _ y
def Inv.ah0{ch:X9}(I:Inv X pins σ H s)(hf:∀b∈ch,U0 X pins H b)(k:∀b o,b∉ch->s.heap.get? b=some o->h'.get? b=some o):Inv X pins σ H { s with heap:=h',toks:=t' }:=by
 have nch:∀b u,H b=some u->b∉ch:=λb u e z=>by rw[(hf b z).1] at e;cases e
 refine I.step (g':=s.gens) (d':=s.drawn) (ch:=ch) (λb hb=>⟨(hf b hb).2.2.2.1,(hf b hb).2.1,(hf b hb).2.2.2.2.1,(hf b hb).2.2.2.2.2⟩) (λb o _ _ hc e _=>k b o hc e) (λb o _ _ hc e _=>⟨o.slots,k b o hc e⟩) (λb o _ e n0=>n0)
  (λb o hc e=>⟨o,k b o hc e⟩) (λb xs e=>e) (λb o u e=>e) (λb ps e=>⟨#[],by rw[e];simp⟩) (λm hm=>?_) (λb u e=>?_) I.bare
 . obtain⟨o,es,ep,ho,r⟩:=hm
   exact⟨o,es,ep,k _ o (λz=>(hf _ z).2.1 rfl) ho,r⟩
 . refine(I.An b u e).stay (λc v hc q=>k c v ?_ q) (λ_ q=>q) λ_ _ q=>q
   rcases hc with y|y
   . rw[y];exact nch b u e
   . exact nch c _ y
def Zb(b:Bool)(K:Fg)(H:Hp)(a:Addr)(xs:List V):Prop:=cond b (Kv K H a xs) (Hf K H a xs)
def Inv.aa7(I:Inv X pins σ H s)(h:Zb b X.K H a xs):∃yf,Vals xs yf/\Tv b s.heap a yf.toArray:=by
 cases b with
 |true=>obtain⟨yf,rv,p,hz⟩:=I.tuple h;exact⟨yf,rv,show s.heap.IsTuple a yf.toArray from p⟩
 |false=>obtain⟨yf,rv,p,hz⟩:=I.list h;exact⟨yf,rv,p.isList⟩
def Inv.Wy(I:Inv X pins σ H s)(h:Zb b X.K H a xs)(g:Zb b X.K H a ys):xs=ys:=by
 cases b with
 |true=>exact I.Yp h g|false=>exact I.acp h g
noncomputable def Ien(b:Bool)(K:Fg)(a:Addr):It :=
 ⟨λi H=>∃xs x,Zb b K H a xs/\xs[i]?=some x,λi H v H'=>∃p x,v=.ref p/\H p=none/\H'=upd H p (.tup [.int (i:Nat),x])/\∀xs,Zb b K H a xs->xs[i]?=some x,λi H=>∃xs,Zb b K H a xs/\xs.length<=i⟩
set_option tactic.hygienic true in
theorem aus(a e it:Addr)(ne:e≠it):Turn P w K (.Tuple ts k0 pt) (Ien b K a) [e,it] e (λi h=>(∃old,IsEnum h e it ((i:Nat):Int) old)/\Ms b h it a i) where
 mem:=by simp
 obj:=λi h st c hc=>by
  obtain⟨⟨old,e1⟩,e2⟩:=st;rcases bz.mp hc with z|z
  . subst z;exact⟨_,e1,λv z=>by cases z⟩
  . have z:c=it:=by simpa using z
    subst z;exact e2.obj
 keep:=λi h h' st k=>by obtain⟨⟨old,e1⟩,e2⟩:=st;exact⟨⟨old,k e (by simp) _ e1⟩,e2.at λo z=>k it (by simp) o z⟩
 item:=by
  intro X hP hw hK hc i pins s σ H E I hf st hg;subst hP hw hK;obtain⟨xs,x,hq,hx⟩:=hg;obtain⟨yf,rv,p⟩:=I.aa7 hq;obtain⟨u,hu,ru⟩:=rv.get hx;obtain⟨⟨old,e1⟩,e2⟩:=st;have lt:e<s.heap.objs.size:=az e1
  refine aup e1 e2 p (x:=u) (by simpa using hu) ne λh1 o1 a1 t1 n1 k1=>⟨_,rfl,?_⟩
  refine wpAny_letOwnedTupleGo_enum o1 λh2 o2 s2=>?_
  have s2:Heap.SameBut e h1 h2:=s2;have t2:h2.get? s.heap.objs.size=some { cls:=.type "tuple",data:=.seq #[.int i s.toks,u] }:=(s2.2 _ (u5 lt)).trans t1;refine⟨.ref s.heap.objs.size,upd H s.heap.objs.size (.tup [.int (i:Nat),x]),I.Za (t':=s.toks+1) hf (λc o hc z=>?_) (bw _) ⟨by show 2<=sizeLine;decide,[.int i s.toks,u],.cons ⟨s.toks,rfl⟩ (.cons ru .nil),⟨_,t2,rfl,_,rfl,rfl⟩⟩,rfl,
   ⟨_,x,rfl,I.An.fresh (bw _),rfl,λys hy=>by rw[I.Wy hy hq];exact hx⟩,⟨⟨u,?_⟩,a1.at λo z=>s2.extBut it o (j0 ne) z⟩,λc hc=>?_⟩
  . have c1:c≠e:=λz=>hc (by simp[z])
    have c2:c≠it:=λz=>hc (by simp[z])
    exact s2.extBut c o c1 (k1 c o c1 c2 z)
  . have q:((i+1:Nat):Int)=(i:Int)+1:=by push_cast;rfl
    rw[q];exact o2
  . have lt2:c<s.heap.objs.size:=by
     rcases bz.mp hc with z|z
     . rw[z];exact lt
     . have z:c=it:=by simpa using z
       obtain⟨o,z2,_⟩:=e2.obj;rw[z];exact az z2
    rw[j5 (fc lt2)];exact(hf c hc).1
 done:=by intro X hP hw hK hc i pins s σ H E I hf st hg;subst hP hw hK;obtain⟨xs,hq,hx⟩:=hg;obtain⟨yf,rv,p⟩:=I.aa7 hq;obtain⟨⟨old,e1⟩,e2⟩:=st;have hl:=rv.length;refine auq (I.ok.hd hc) e1 e2 p (by simp;exact a_ (g_ hl) hx) λh' eb=>⟨rfl,I.ah0 (t':=s.toks) hf λc o hc z=>eb c o (λy=>hc (by simp[y])) z⟩
 self:=λ_ _ _ _ _ st h=>by obtain⟨⟨old,e1⟩,e2⟩:=st;exact wpAny_pyIter_enum e1 h
def a8g(hg:Gl X "enumerate")(hm:X.mg "enumerate" = none)(ha:PA X [a] ta)(hs:starEach [a] X.env=[(false,eval a X.env)]) :
 PI X (.Tuple ts k0 pt) (.Call (.Name "enumerate" p) [a] [] pos) (fun σ H R=>ta σ H λvs H1=>∃b q,vs=[.ref q]/\(∃xs,Zb b X.K H1 q xs)/\R (Ien b X.K q) H1):=by
 intro pins s σ H R I h;refine PyProof.Rows.Call_ (Dw I hg hm (show bootBuiltins "enumerate" = some (.type "enumerate") by decide+kernel) (jh (Bq (ha pos pins s σ H _ I h) λus s1 ⟨vs,H1,I1,r1,q1⟩=>?_) hs rfl));obtain⟨b,q,rfl,⟨xs,hq⟩,hR⟩:=q1;cases r1 with
 |cons r rr =>
  cases rr;cases r;obtain⟨yf,rv,p⟩:=I1.aa7 hq;have fin:∀h',IsEnum h' (s1.heap.objs.size+1) s1.heap.objs.size 0 .none->Ms b h' s1.heap.objs.size q 0->(∀y o,s1.heap.get? y=some o->h'.get? y=some o) ->
   wpAny (model X.prog X.w) X.A (pyIter (.ref (s1.heap.objs.size+1))) (PIE X pins σ (.Tuple ts k0 pt) R) X.xe { s1 with heap:=h' }:=λh' e1 e2 kk=>by
   refine wpAny_pyIter_enum e1 ?_;refine⟨s1.heap.objs.size+1,[s1.heap.objs.size+1,s1.heap.objs.size],_,_,H1,rfl,I1.kept (t':=s1.toks) kk,aus (b:=b) q _ _ (Nat.succ_ne_self _),⟨⟨.none,e1⟩,e2⟩,λc hc=>?_,hR⟩;have hle:s1.heap.objs.size<=c:=by
    rcases bz.mp hc with z|z
    . rw[z];exact u0 _
    . have z:c=s1.heap.objs.size:=by simpa using z
      rw[z];exact bw _
   exact I1.aju hle (I1.An.fresh hle)
  cases b with
  |true=>exact ao9 p λh' e1 e2 _ kk=>fin h' e1 e2 kk
  |false=>exact call_enumerate_list p λh' e1 e2 _ kk=>fin h' e1 e2 kk
end L2
namespace EnT
open PySem PySem.Spec
def Tv.at(x:Tv b h a xs)(k:∀o,h.get? a=some o->h'.get? a=some o):Tv b h' a xs:=by
 cases b with
 |true=>obtain⟨o,e,r⟩:=x;exact⟨o,k o e,r⟩
 |false=>obtain⟨o,e,r⟩:=x;exact⟨o,k o e,r⟩
def Tv.obj(x:Tv b h a xs):∃o,h.get? a=some o:=by
 cases b with
 |true=>obtain⟨o,e,_⟩:=x;exact⟨o,e⟩
 |false=>obtain⟨o,e,_⟩:=x;exact⟨o,e⟩
noncomputable def itO(b:Bool)(a:Addr):Obj:={ cls:=.type (cond b "tuple_iterator" "list_iterator"),data:=.fields #[.ref a,.int 0 0] }
def apa(c:Tv b s.heap a xs)(q:Q (.ref s.heap.objs.size) { s with heap:=s.heap.push (itO b a) }):wpAny (model prog w) A (pyIter (.ref a)) Q E s:=by
 cases b with
 |true=>exact wpAny_pyIter_tuple c q|false=>exact v5 c q
def aut{Q:Y1}(D:ZipApart z TI TO i1 i2 l1 l2)(hz:IsZip s.heap z TI TO .none)(hI:IsPair s.heap TI (.ref i1) (.ref i2))(hO:IsPair s.heap TO p q)(a1:Ms b1 s.heap i1 l1 k)(a2:Ms b2 s.heap i2 l2 k)(c1:Tv b1 s.heap l1 xs)(c2:Tv b2 s.heap l2 ys)(ex:xs[k]?=some x)(ey:ys[k]?=some y)(hq:∀h',IsZip h' z TI TO (rawInt s.heap.objs.size)->IsPair h' TO x y->Ms b1 h' i1 l1 (k+1)->Ms b2 h' i2 l2 (k+1)->IsPair h' s.heap.objs.size x y->h'.objs.size=s.heap.objs.size+1 ->
 (∀c o,c≠z->c≠TO->c≠i1->c≠i2->s.heap.get? c=some o->h'.get? c=some o)->Q (.ref s.heap.objs.size) { s with heap:=h' }) :
 wpAny (model prog w) A (Builtin.«zip.__next__» ⟨[.ref z],[]⟩) (λfin s'=>∃v,fin=.done (.ret v)/\Q v s') E s:=by
 show wpAny _ _ (field (.ref z) 2 >>= _) _ _ _;refine aa (il hz rfl (x:=.bool false) rfl (aa (il hz rfl (x:=.ref TI) rfl (aa (o5 hI rfl (aa ?_))))));unfold Builtin.SmallTypes.ownedTupleIsFree;refine aa (il hz rfl (x:=.none) rfl (aj ?_));simp only[jy];refine aa (wpAny_rule (aa (il hz rfl (x:=.ref TO) rfl (aa (iz hz (by simp) λg1 z1 s1=>?_)))));have z1:IsZip g1 z TI TO .ellipsis:=z1;refine aa ?_;simp only[List.zipIdx_cons,List.zipIdx_nil,List.forIn_cons,List.forIn_nil];refine aa (aa (wpAny_onRaise ?_));refine aa (Ru (s:={ s with heap:=g1 }) (a1.at λo e=>s1.extBut _ o D.i1z e) (c1.at λo e=>s1.extBut _ o D.l1z e) ex λg2 e2 s2=>aj ?_);have O2:IsPair g2 TO p q:=s2.extBut _ _ D.TOi1 (s1.extBut _ _ D.TOz hO);refine aa (o5 O2 rfl (aa (wpAny_updateSeq_pair O2 λg3 O3 s3=>?_)));have O3:IsPair g3 TO x q:=O3;have k3:∀c o,c≠z->c≠TO->c≠i1->s.heap.get? c=some o->g3.get? c=some o:=λc o y1 y2 y3 e=>s3.extBut _ _ y2 (s2.extBut _ _ y3 (s1.extBut _ _ y1 e))
 refine aa (wpAny_letGo (aj (aa (aa (wpAny_onRaise ?_)))));refine aa (Ru (s:={ s with heap:=g3 }) (a2.at λo e=>k3 _ o D.i2z D.TOi2.symm D.i12.symm e) (c2.at λo e=>k3 _ o D.l2z D.l2TO D.l2i1 e) ey λg4 e4 s4=>aj ?_);have O4:IsPair g4 TO x q:=s4.extBut _ _ D.TOi2 O3;refine aa (o5 O4 rfl (aa (wpAny_updateSeq_pair O4 λg5 O5 s5=>?_)));have O5:IsPair g5 TO x y:=O5;refine aa (wpAny_letGo (aj (aj (aa (o5 O5 rfl (aa (wpAny_newTuple ?_)))))));have n5:g5.objs.size=s.heap.objs.size:=by rw[s5.1,s4.1,s3.1,s2.1,s1.1]
 have k5:∀c o,c≠z->c≠TO->c≠i1->c≠i2->s.heap.get? c=some o->g5.get? c=some o:=λc o y1 y2 y3 y4 e=>s5.extBut _ _ y2 (s4.extBut _ _ y4 (k3 c o y1 y2 y3 e))
 have z5:IsZip g5 z TI TO .ellipsis:=s5.extBut _ _ D.TOz.symm (s4.extBut _ _ D.i2z.symm (s3.extBut _ _ D.TOz.symm (s2.extBut _ _ D.i1z.symm z1)));have f1:Ms b1 g5 i1 l1 (k+1):=e2.at λo e=>s5.extBut _ _ D.TOi1.symm (s4.extBut _ _ D.i12 (s3.extBut _ _ D.TOi1.symm e))
 have f2:Ms b2 g5 i2 l2 (k+1):=e4.at λo e=>s5.extBut _ _ D.TOi2.symm e
 have zl:z<g5.objs.size:=az z5
 have z6:IsZip (g5.push { cls:=.type "tuple",data:=.seq #[x,y] }) z TI TO .ellipsis:=ak _ z5;refine aa ?_;unfold Builtin.SmallTypes.ownedTupleHandOut;refine aa (iz z6 (by simp) λg7 z7 s7=>?_);have z7:IsZip g7 z TI TO (rawInt g5.objs.size):=z7;refine iz z7 (by simp) λg8 z8 s8=>?_
 have z8:IsZip g8 z TI TO (rawInt g5.objs.size):=z8;have up:∀c o,c≠z->g5.get? c=some o->g8.get? c=some o:=λc o y1 e=>s8.extBut _ _ y1 (s7.extBut _ _ y1 (ak _ e))
 have t8:IsPair g8 g5.objs.size x y:=s8.extBut _ _ (u5 zl) (s7.extBut _ _ (u5 zl) (bh _ rfl));have n8:g8.objs.size=g5.objs.size+1:=by rw[s8.1,s7.1,ig]
 rw[n5] at z8 t8 n8;refine aj ⟨_,rfl,?_⟩;show Q (.ref g5.objs.size) _;rw[n5];exact hq g8 z8 (up _ _ D.TOz O5) (f1.at λo e=>up _ o D.i1z e) (f2.at λo e=>up _ o D.i2z e) t8 n8 λc o y1 y2 y3 y4 e=>up c o y1 (k5 c o y1 y2 y3 y4 e)
def a0w(hd:A.handled=none)(D:ZipApart z TI TO i1 i2 l1 l2)(hz:IsZip s.heap z TI TO .none)(hI:IsPair s.heap TI (.ref i1) (.ref i2))(hO:IsPair s.heap TO p q)(a1:Ms b1 s.heap i1 l1 k)(a2:Ms b2 s.heap i2 l2 k)(c1:Tv b1 s.heap l1 xs)(c2:Tv b2 s.heap l2 ys)(he:xs[k]?=none\/ys[k]?=none)(hE:∀h' e,(∀c o,c≠z->c≠TO->c≠i1->c≠i2->s.heap.get? c=some o->h'.get? c=some o)->(∃o,h'.get? e=some o/\o.cls=.type "StopIteration")->E (.ref e) { s with heap:=h' }) :
 wpAny (model prog w) A (Builtin.«zip.__next__» ⟨[.ref z],[]⟩) Q E s:=by
 show wpAny _ _ (field (.ref z) 2 >>= _) _ _ _;refine aa (il hz rfl (x:=.bool false) rfl (aa (il hz rfl (x:=.ref TI) rfl (aa (o5 hI rfl (aa ?_))))));unfold Builtin.SmallTypes.ownedTupleIsFree;refine aa (il hz rfl (x:=.none) rfl (aj ?_));simp only[jy];refine aa (wpAny_rule (aa (il hz rfl (x:=.ref TO) rfl (aa (iz hz (by simp) λg1 z1 s1=>?_)))));have z1:IsZip g1 z TI TO .ellipsis:=z1;have stop:∀(g:Heap)(x:Addr)(o:Obj),IsZip g z TI TO .ellipsis->g.get? x=some o->o.cls=.type "StopIteration" -> x≠z:=λg x o e1 e2 e3 y=>by subst y;rw[e1] at e2;cases e2;simp at e3
 refine aa ?_;simp only[List.zipIdx_cons,List.zipIdx_nil,List.forIn_cons,List.forIn_nil];refine aa (aa (wpAny_onRaise ?_));have A1:=a1.at (h':=g1) λo e=>s1.extBut _ o D.i1z e
 have C1:=c1.at (h':=g1) λo e=>s1.extBut _ o D.l1z e
 cases hx:xs[k]? with
 |none =>
  refine aa (aa6 (s:={ s with heap:=g1 }) hd A1 C1 hx λg2 x s2 ⟨o,o1,o2⟩=>?_);have z2:IsZip g2 z TI TO .ellipsis:=s2 _ _ D.i1z.symm z1;exact iz z2 (by simp) λg3 _ s3=>hE g3 x (λc o y1 _ y3 _ e=>s3.extBut _ _ y1 (s2 _ _ y3 (s1.extBut _ _ y1 e))) ⟨o,s3.extBut _ _ (stop _ _ _ z2 o1 o2) o1,o2⟩
 |some x =>
  have ey:ys[k]?=none:=by rcases he with h|h;rw[hx] at h;cases h;exact h
  refine aa (Ru (s:={ s with heap:=g1 }) A1 C1 hx λg2 e2 s2=>aj ?_);have O2:IsPair g2 TO p q:=s2.extBut _ _ D.TOi1 (s1.extBut _ _ D.TOz hO);refine aa (o5 O2 rfl (aa (wpAny_updateSeq_pair O2 λg3 O3 s3=>?_)));have k3:∀c o,c≠z->c≠TO->c≠i1->s.heap.get? c=some o->g3.get? c=some o:=λc o y1 y2 y3 e=>s3.extBut _ _ y2 (s2.extBut _ _ y3 (s1.extBut _ _ y1 e))
  refine aa (wpAny_letGo (aj (aa (aa (wpAny_onRaise ?_)))));refine aa (aa6 (s:={ s with heap:=g3 }) hd (a2.at λo e=>k3 _ o D.i2z D.TOi2.symm D.i12.symm e) (c2.at λo e=>k3 _ o D.l2z D.l2TO D.l2i1 e) ey λg4 x s4 ⟨o,o1,o2⟩=>?_);have z4:IsZip g4 z TI TO .ellipsis:=s4 _ _ D.i2z.symm (s3.extBut _ _ D.TOz.symm (s2.extBut _ _ D.i1z.symm z1));exact iz z4 (by simp) λg5 _ s5=>hE g5 x (λc o y1 y2 y3 y4 e=>s5.extBut _ _ y1 (s4 _ _ y4 (k3 c o y1 y2 y3 e))) ⟨o,s5.extBut _ _ (stop _ _ _ z4 o1 o2) o1,o2⟩
set_option tactic.hygienic true in
def auu(D:ZipApart z TI TO i1 i2 l1 l2)(hz:IsZip s.heap z TI TO .none)(hI:IsPair s.heap TI (.ref i1) (.ref i2))(hO:IsPair s.heap TO p q)(a1:Ms b1 s.heap i1 l1 k)(a2:Ms b2 s.heap i2 l2 k)(c1:Tv b1 s.heap l1 xs)(c2:Tv b2 s.heap l2 ys)(ex:xs[k]?=some x)(ey:ys[k]?=some y)(hq:∀h',IsZip h' z TI TO (rawInt s.heap.objs.size)->IsPair h' TO x y->Ms b1 h' i1 l1 (k+1)->Ms b2 h' i2 l2 (k+1)->IsPair h' s.heap.objs.size x y->h'.objs.size=s.heap.objs.size+1 ->
 (∀c o,c≠z->c≠TO->c≠i1->c≠i2->s.heap.get? c=some o->h'.get? c=some o)->Q (some (.ref s.heap.objs.size)) { s with heap:=h' }):wpAny (model prog w) A (pyNext (.ref z)) Q E s:=by
 have ty:s.TypeIs (.ref z) "zip" := ⟨_,hz,rfl⟩;unfold pyNext;refine aa (uy (ji (name:=Str.ofString "__next__") ty F.slot_zip_next (jc F.slot_zip_next ty F.entry_zip_next ?_ (F.args_zip_next_1 _))));exact aut D hz hI hO a1 a2 c1 c2 ex ey λh' y1 y2 y3 y4 y5 y6 y7=>aj (hq h' y1 y2 y3 y4 y5 y6 y7)
set_option tactic.hygienic true in
def auv(hd:A.handled=none)(D:ZipApart z TI TO i1 i2 l1 l2)(hz:IsZip s.heap z TI TO .none)(hI:IsPair s.heap TI (.ref i1) (.ref i2))(hO:IsPair s.heap TO p q)(a1:Ms b1 s.heap i1 l1 k)(a2:Ms b2 s.heap i2 l2 k)(c1:Tv b1 s.heap l1 xs)(c2:Tv b2 s.heap l2 ys)(he:xs[k]?=none\/ys[k]?=none)(hq:∀h',(∀c o,c≠z->c≠TO->c≠i1->c≠i2->s.heap.get? c=some o->h'.get? c=some o)->Q none { s with heap:=h' }):wpAny (model prog w) A (pyNext (.ref z)) Q E s:=by
 have ty:s.TypeIs (.ref z) "zip" := ⟨_,hz,rfl⟩;unfold pyNext;refine aa (uy (ji (name:=Str.ofString "__next__") ty F.slot_zip_next (jc F.slot_zip_next ty F.entry_zip_next ?_ (F.args_zip_next_1 _))));refine a0w hd D hz hI hO a1 a2 c1 c2 he λh' e k ⟨o,o1,o2⟩=>?_
 exact aa (mj (T := "StopIteration") (b:=true) ⟨o,o1,o2⟩ isSubtype_stop (aj (hq _ k)))
noncomputable def zH2(b1 b2:Bool)(h:Heap)(l1 l2:Addr):Heap:=(h.push (itO b1 l1)).push (itO b2 l2)
noncomputable def zH3(b1 b2:Bool)(h:Heap)(l1 l2:Addr):Heap:=(zH2 b1 b2 h l1 l2).push { cls:=.type "tuple",data:=.seq #[.ref h.objs.size,.ref (h.push (itO b1 l1)).objs.size] }
noncomputable def zH4(b1 b2:Bool)(h:Heap)(l1 l2:Addr):Heap:=(zH3 b1 b2 h l1 l2).push { cls:=.type "tuple",data:=.seq #[.none,.none] }
noncomputable def zH5(b1 b2:Bool)(h:Heap)(l1 l2:Addr):Heap:=(zH4 b1 b2 h l1 l2).push { cls:=.type "zip",data:=.fields #[.none,.bool false,.bool false,.ref (zH2 b1 b2 h l1 l2).objs.size,.ref (zH3 b1 b2 h l1 l2).objs.size] }
def aa8(b1 b2:Bool)(l1 l2:Addr)(xs ys:U1) :
 Meets (Builtin.«zip.__new__» ⟨[.type "zip",.ref l1,.ref l2],[]⟩) (λ_ R s=>Tv b1 s.heap l1 xs/\Tv b2 s.heap l2 ys /\
  R (.ok (.ret (.ref (zH4 b1 b2 s.heap l1 l2).objs.size))) { s with heap:=zH5 b1 b2 s.heap l1 l2 }) :=
 .of_wp λprog w A R s h=>by
  obtain⟨hp,g,d,tk,os⟩:=s;obtain⟨hl1,hl2,h⟩:=h;have Zu:=sub_zip;have hL1:Tv b1 (Shared.heap ⟨hp,g,d,tk,os⟩) l1 xs:=hl1;have hL2:Tv b2 (Shared.heap ⟨hp.push (itO b1 l1),g,d,tk,os⟩) l2 ys:=Tv.at hl2 λo e=>ak _ e
  wp_walk using apa hL1,apa hL2
  exact⟨_,rfl,h⟩
def Ms.new(e:h.get? i=some (itO b a)):Ms b h i a 0:=by
 cases b with
 |true=>exact⟨_,e,rfl,rfl⟩|false=>exact⟨_,e,rfl,rfl⟩
def auw(hl1:Tv b1 s.heap l1 xs)(hl2:Tv b2 s.heap l2 ys)(h:∀h',IsZip h' (s.heap.objs.size+4) (s.heap.objs.size+2) (s.heap.objs.size+3) .none->IsPair h' (s.heap.objs.size+2) (.ref s.heap.objs.size) (.ref (s.heap.objs.size+1)) ->
 IsPair h' (s.heap.objs.size+3) .none .none->Ms b1 h' s.heap.objs.size l1 0->Ms b2 h' (s.heap.objs.size+1) l2 0 ->
 (∀c o,s.heap.get? c=some o->h'.get? c=some o)->Q (.ref (s.heap.objs.size+4)) { s with heap:=h' }) :
 wpAny (model prog w) A (call (.type "zip") [.ref l1,.ref l2]) Q E s:=by
 refine callType_new F.called_zip (by decide) (F.typeCall_zip_2 _ _) (F.newCall_zip_2 _ _) (λobj=>F.args_object_init_3 obj _ _) F.entry_zip_new
  (aa8 b1 b2 l1 l2 xs ys) ⟨hl1,hl2,?_⟩
 have z1:(s.heap.push (itO b1 l1)).objs.size=s.heap.objs.size+1:=ig ..;have z2:(zH2 b1 b2 s.heap l1 l2).objs.size=s.heap.objs.size+2:=by unfold zH2;rw[ig,z1]
 have z3:(zH3 b1 b2 s.heap l1 l2).objs.size=s.heap.objs.size+3:=by unfold zH3;rw[ig,z2]
 have z4:(zH4 b1 b2 s.heap l1 l2).objs.size=s.heap.objs.size+4:=by unfold zH4;rw[ig,z3]
 have g5:(zH5 b1 b2 s.heap l1 l2).get? (zH4 b1 b2 s.heap l1 l2).objs.size=some _:=bh _ rfl;have g4:(zH5 b1 b2 s.heap l1 l2).get? (zH3 b1 b2 s.heap l1 l2).objs.size=some _:=ak _ (bh _ rfl);have g3:(zH5 b1 b2 s.heap l1 l2).get? (zH2 b1 b2 s.heap l1 l2).objs.size=some _:=ak _ (ak _ (bh _ rfl));have g2:(zH5 b1 b2 s.heap l1 l2).get? (s.heap.push (itO b1 l1)).objs.size=some _:=ak _ (ak _ (ak _ (bh _ rfl)));have g1:(zH5 b1 b2 s.heap l1 l2).get? s.heap.objs.size=some _:=ak _ (ak _ (ak _ (ak _ (bh _ rfl))));show _/\_;rw[z2,z3,z4] at g5;rw[z1,z2] at g3;rw[z3] at g4;rw[z1] at g2;rw[z4];exact⟨⟨_,g5,rfl⟩,h _ g5 g3 g4 (Ms.new g1) (Ms.new g2) λc o x =>
  ak _ (ak _ (ak _ (ak _ (ak _ x))))⟩
end EnT
namespace L2
open PySem PySem.Spec EnT
noncomputable def Izp(b1 b2:Bool)(K:Fg)(a c:Addr):It :=
 ⟨λi H=>∃xs x ys y,Zb b1 K H a xs/\xs[i]?=some x/\Zb b2 K H c ys/\ys[i]?=some y,λi H v H'=>∃p x y,v=.ref p/\H p=none/\H'=upd H p (.tup [x,y])/\(∀xs,Zb b1 K H a xs->xs[i]?=some x)/\∀ys,Zb b2 K H c ys->ys[i]?=some y,
  λi H=>∃xs ys,Zb b1 K H a xs/\Zb b2 K H c ys/\(xs.length<=i\/ys.length<=i)⟩
theorem auy{TI TO:Addr}(D:ZipApart z TI TO i1 i2 a c):Turn P w K (.Tuple ts k0 pt) (Izp b1 b2 K a c) [z,TI,TO,i1,i2] z
 (λi h=>IsZip h z TI TO .none/\IsPair h TI (.ref i1) (.ref i2)/\(∃p q,IsPair h TO p q)/\Ms b1 h i1 a i/\Ms b2 h i2 c i) where
 mem:=by simp
 obj:=λi h st e hc=>by
  obtain⟨e1,e2,⟨p,q,e3⟩,e4,e5⟩:=st;simp only[bz,qw,Aw] at hc;rcases hc with rfl|rfl|rfl|rfl|rfl
  . exact⟨_,e1,λv z=>by cases z⟩
  . exact⟨_,e2,λv z=>by cases z⟩
  . exact⟨_,e3,λv z=>by cases z⟩
  . exact e4.obj
  . exact e5.obj
 keep:=λi h h' st k=>by obtain⟨e1,e2,⟨p,q,e3⟩,e4,e5⟩:=st;exact⟨k z (by simp) _ e1,k TI (by simp) _ e2,⟨p,q,k TO (by simp) _ e3⟩,e4.at λo x=>k i1 (by simp) o x,e5.at λo x=>k i2 (by simp) o x⟩
 item:=by
  intro X hP hw hK hc i pins s σ H E I hf st hg;subst hP hw hK;obtain⟨xs,x,ys,y,hq,hx,hq2,hy⟩:=hg;obtain⟨yf,rv,p⟩:=I.aa7 hq;obtain⟨aj5,rv2,p2⟩:=I.aa7 hq2;obtain⟨u,hu,ru⟩:=rv.get hx;obtain⟨u2,hu2,ru2⟩:=rv2.get hy;obtain⟨e1,e2,⟨o1,o2,e3⟩,e4,e5⟩:=st;have lt:∀b∈[z,TI,TO,i1,i2],b<s.heap.objs.size:=λb hb=>by
   simp only[bz,qw,Aw] at hb;rcases hb with rfl|rfl|rfl|rfl|rfl
   . exact az e1
   . exact az e2
   . exact az e3
   . obtain⟨o,z2,_⟩:=e4.obj;exact az z2
   . obtain⟨o,z2,_⟩:=e5.obj;exact az z2
  refine auu D e1 e2 e3 e4 e5 p p2 (x:=u) (y:=u2) (by simpa using hu) (by simpa using hu2) λh1 y1 y2 y3 y4 y5 y6 y7=>⟨_,rfl,?_⟩
  refine wpAny_letOwnedTupleGo_zip y1 λh2 w1 s2=>?_
  have s2:Heap.SameBut z h1 h2:=s2;have zl:=lt z (by simp);have t2:h2.get? s.heap.objs.size=some { cls:=.type "tuple",data:=.seq #[u,u2] }:=(s2.2 _ (u5 zl)).trans y5;refine⟨.ref s.heap.objs.size,upd H s.heap.objs.size (.tup [x,y]),I.Za (t':=s.toks) hf (λc o hc zz=>?_) (bw _) ⟨by show 2<=sizeLine;decide,[u,u2],.cons ru (.cons ru2 .nil),⟨_,t2,rfl,_,rfl,rfl⟩⟩,rfl,
   ⟨_,x,y,rfl,I.An.fresh (bw _),rfl,λys hy=>by rw[I.Wy hy hq];exact hx,λys hy'=>by rw[I.Wy hy' hq2];exact hy⟩,
   ⟨w1,s2.extBut _ _ D.TIz (y7 TI _ D.TIz D.TITO D.TIi1 D.TIi2 e2),⟨u,u2,s2.extBut _ _ D.TOz y2⟩,y3.at λo zz=>s2.extBut _ o D.i1z zz,y4.at λo zz=>s2.extBut _ o D.i2z zz⟩,λc hc=>?_⟩
  . have c1:c≠z:=λq=>hc (by simp[q])
    exact s2.extBut c o c1 (y7 c o c1 (λq=>hc (by simp[q])) (λq=>hc (by simp[q])) (λq=>hc (by simp[q])) zz)
  . rw[j5 (fc (lt c hc))]
    exact(hf c hc).1
 done:=by intro X hP hw hK hc i pins s σ H E I hf st hg;subst hP hw hK;obtain⟨xs,ys,hq,hq2,hx⟩:=hg;obtain⟨yf,rv,p⟩:=I.aa7 hq;obtain⟨aj5,rv2,p2⟩:=I.aa7 hq2;obtain⟨e1,e2,⟨o1,o2,e3⟩,e4,e5⟩:=st;have hl:=rv.length;have hl2:=rv2.length;refine auv (I.ok.hd hc) D e1 e2 e3 e4 e5 p p2 (by simp;lia) λh' eb=>⟨rfl,I.ah0 (t':=s.toks) hf λc o hc zz=>eb c o (λq=>hc (by simp[q])) (λq=>hc (by simp[q])) (λq=>hc (by simp[q])) (λq=>hc (by simp[q])) zz⟩
 self:=λ_ _ _ _ _ st h=>by obtain⟨e1,_⟩:=st;exact wpAny_pyIter_zip e1 h
def a8k(hg:Gl X "zip")(hm:X.mg "zip" = none)(ha:PA X [a,c] ta)(hs:starEach [a,c] X.env=(false,eval a X.env)::starEach [c] X.env)(Ip:(backTo pos (starEach [c] X.env)).any (·.1)=false) :
 PI X (.Tuple ts k0 pt) (.Call (.Name "zip" p) [a,c] [] pos) (fun σ H R=>ta σ H λvs H1=>∃b1 b2 q1 q2,vs=[.ref q1,.ref q2]/\(∃xs,Zb b1 X.K H1 q1 xs)/\(∃ys,Zb b2 X.K H1 q2 ys)/\R (Izp b1 b2 X.K q1 q2) H1):=by
 intro pins s σ H R I h;refine PyProof.Rows.Call_ (Dw I hg hm (show bootBuiltins "zip" = some (.type "zip") by decide+kernel) (jh (Bq (ha pos pins s σ H _ I h) λus s1 ⟨vs,H1,I1,r1,q1⟩=>?_) hs Ip));obtain⟨b1,b2,q1,q2,rfl,⟨xs,hq⟩,⟨ys,hq2⟩,hR⟩:=q1;cases r1 with
 |cons r rr =>
  cases rr with
  |cons r2 rr =>
   cases rr;cases r;cases r2;obtain⟨yf,rv,p⟩:=I1.aa7 hq;obtain⟨aj5,rv2,p2⟩:=I1.aa7 hq2;refine auw p p2 λh' e1 e2 e3 e4 e5 kk=>?_
   refine wpAny_pyIter_zip e1 ?_;have l1:q1<s1.heap.objs.size:=by obtain⟨o,e⟩:=p.obj;exact az e
   have l2:q2<s1.heap.objs.size:=by obtain⟨o,e⟩:=p2.obj;exact az e
   refine⟨s1.heap.objs.size+4,_,_,_,H1,rfl,I1.kept (t':=s1.toks) kk,auy (b1:=b1) (b2:=b2) (PyProof.Rows.zipApart_new l1 l2),⟨e1,e2,⟨_,_,e3⟩,e4,e5⟩,λc hc=>?_,hR⟩;have hle:s1.heap.objs.size<=c:=by simp only[bz,qw,Aw] at hc;rcases hc with rfl|rfl|rfl|rfl|rfl<;>omega
   exact I1.aju hle (I1.An.fresh hle)
end L2
namespace Sm
open PySem L2
open MW (Ex Dl OEx Pr Bu o6 Lv Tg Res cz MO Ir Cp Op2 Blt Bm Kx Src)
def aki{i:Nat}(h:(MW.Eh ds 0)[i]?=some d):∃z,ds[i]?=some z/\d=.tup [.int (i:Nat),z]:=by
 unfold MW.Eh at h;rw[ie,Ai] at h;cases e:ds[i]? with
 |none=>rw[e] at h;simp at h|some z=>rw[e] at h;simp at h;exact⟨z,rfl,h.symm⟩
def ah1{X:Cx}(r:j6 X.K ι H ds vs)(hk:∀ι1 H1,LeX ι H ι1 H1->Zb bb X.K H1 q vs):aop nm X.K ι H (.con (MW.Eh ds 0)) (Ien bb X.K q):=fun ι1 H1 M1 le S1=>by
 refine⟨λi d hi hd=>?_,λ_=>⟨vs,hk ι1 H1 le,?_⟩⟩
 . obtain⟨z,e1,rfl⟩:=aki (show(MW.Eh ds 0)[i]?=some d from hd)
   obtain⟨v,g1,g2⟩:=(r.Fj le).get e1;refine⟨⟨vs,v,hk ι1 H1 le,g1⟩,λu H2 ⟨p,x,e2,e3,e4,e5⟩=>?_⟩;have ex:x=v:=by have:=e5 vs (hk ι1 H1 le);rw[g1] at this;cases this;rfl
   subst ex e2 e4;obtain⟨S2,zg,r2⟩:=Lq (X:=X) S1 e3 (.cons (.int _) (.cons g2 .nil));exact⟨zg,S2,r2⟩
 . show vs.length<=(MW.Eh ds 0).length
   rw[<- r.length];simp[MW.Eh]
def a8l(hg:Gl X "enumerate")(hm:X.mg "enumerate" = none)(ha:PE X a (tE nm W X.K a'))(U6:noStar a=true):PI X (.Tuple ts k0 pt) (.Call (.Name "enumerate" pr) [a] [] pos) (tI nm W X.K (.enm a')):=by
 intro pins s0 σ H R' I hh;obtain⟨ι,ρ,M,s,M',S,R,e,q⟩:=hh;rw[MW.agv] at e;obtain⟨x,M1,e1,e⟩:=dz e;refine PI.weak (a8g (ts:=ts) (k0:=k0) (pt:=pt) (p:=pr) (pos:=pos) hg hm (Ju ha Ro (lg U6 _ _)) (lg U6 _ _)) (wi':=fun σ0 H0 R0=>σ0=σ/\H0=H/\R0=R') (fun σ0 H0 R0 ⟨z1,z2,z3⟩=>?_) pins s0 σ H R' I ⟨rfl,rfl,rfl⟩;subst z1 z2 z3;refine Wl (es':=.cons a' .nil) (ds:=[x]) (M1:=M1) S R (by rw[MW.Hj,e1];simp) fun ι1 H1 vs le S1 R1 r=>?_
 cases r with
 |cons r1 r2 =>
  cases r2;cases r1 with
  |@tup p ds us h1 rr =>
   cases e;exact⟨true,p,rfl,⟨us,Kv.of h1⟩,q ι1 H1 _ le S1 (ah1 rr fun ι2 H2 zg=>Kv.of (zg.tup _ _ h1))⟩
  |@vl p ds us h1 n1 rr =>
   cases e;exact⟨false,p,rfl,⟨us,Hf.of h1⟩,q ι1 H1 _ le S1 (ah1 rr fun ι2 H2 zg=>Hf.of (zg.lst _ _ n1.1 h1))⟩
  |_=>cases e
set_option tactic.hygienic true in
def a0x:Dh X (binaryOp .Add) (rOp nm X.K (MW.Dm .al4)) :=
 Dh.of aod λv u H Q ι M x y d M' S rv ru e q=>by
  have e:MW.ae2 x y M=.ok d M':=e;unfold MW.ae2 at e;split at e<;>try cases e
  rename_i xs ys h1 h2
  by_cases hl:xs.length+ys.length<=100000
  case neg=>rw[bx hl] at e;cases e
  rw[dh hl] at e;obtain⟨p,vs,rfl,g1,r1⟩:=qt S rv h1;obtain⟨p2,vs2,rfl,g2,r2⟩:=qt S ru h2;refine⟨p,p2,vs,vs2,rfl,rfl,g1,g2,by rw[<- r1.length,<- r2.length];exact gm hl Rn,λp3 h3=>?_⟩;have e:Res.ok (MW.D.ref M.length) (M++[.lst (xs++ys)])=.ok d M':=e;cases e;obtain⟨z1,z2,z3⟩:=aay S h3 (r1.append r2);exact q _ _ _ z2 z1 z3
def auz{nm:Nm}{W:Ir}{X:Cx}{o:Expr}{o':Ex}{pos apos:Pos}{k f:Nat}{fa C:Addr}{fd:FuncData}{ps:Yf}{m:Str}{mi ci:Nat}{cl:MW.Cl}{pl:Sem Bool}(ho:PE X o (tE nm W X.K o'))(c0:Cls X.K C)(hme:Meth X.K C m fa)(F:Ge X.prog X.w X.K X.mg X.base CX0 k fa fd ps (spF nm W X.K 1 f))(hr:Ah k X.A)(hb:Binds X.K fd ps [])
 (a0i:∀c' cl',W.cls[c']?=some cl'->∀g,cl'.meths.lookup mi=some g->nm.cls c'=some C/\g=f) (Yd:∀i,nm.fld i≠m)
 (ht:eval (.Call (.Attribute o m apos) [] [] pos) X.env=(do
  let ov <- eval o X.env
  standAt apos.atName
  let (f,first) <- holding [ov] (getMethod ov m pl)
  callWith pos f first (backTo pos (starEach [] X.env)) (backToKw pos (keywordEach [] X.env)))) :
 PE X (.Call (.Attribute o m apos) [] [] pos) (tE nm W X.K (.meth o' mi .nil)) :=
 PE.of (ano (E:=E0) ho c0 hme F hr hb .nil aho ht) fun σ H Q ι ρ M d M' S R e q=>by
  rw[MW.Cu] at e;obtain⟨x,M1,e1,e⟩:=dz e;rw[MW.Q7] at e;refine one S R e1 fun ι1 H1 v le S1 R1 r=>?_
  obtain⟨j,hx⟩:∃j,x=.ref j:=by cases x<;>first|exact⟨_,rfl⟩|cases e
  subst hx;obtain⟨p,rfl,hp⟩:∃p,v=.ref p/\ι1.l[j]?=some p:=by cases r with|ref z=>exact⟨_,rfl,z⟩
  have e:(match M1[j]? with
   | some (.ins c _)=>(match(W.cls[c]?).bind λC=>C.meths.lookup mi with
    | some f=>W.call f [.ref j] M1|none=>.bad)
   | _=>.bad)=Res.ok d M':=e
  cases hM:M1[j]? with
  |none=>rw[hM] at e;cases e
  |some ob =>
   rw[hM] at e;cases ob with
   |ins ci fs =>
    have e:(match(W.cls[ci]?).bind λC=>C.meths.lookup mi with|some f=>W.call f [.ref j] M1|none=>.bad)=Res.ok d M':=e;cases hL:(W.cls[ci]?).bind λC=>C.meths.lookup mi with
    |none=>rw[hL] at e;cases e
    |some g =>
     rw[hL] at e;have e:W.call g [.ref j] M1=.ok d M':=e;obtain⟨cl',h1,h2⟩:=dq.mp hL;obtain⟨h3,rfl⟩:=a0i ci cl' h1 g h2;obtain⟨C',dx,l,g1,g2,g3⟩:=S1.obj j _ p hM hp;rw[h3] at g1;cases g1;exact⟨p,dx,l,rfl,g2,Wq Yd g3,ι1,M1,[.ref j],d,M',S1,.cons r .nil,rfl,e,fun ι' H' v Xi S' r'=>q ι' H' v (le.trans Xi) S' r'⟩
   |_=>cases e
def au0:PS X st (tS nm W X.K (.raise ci es')):=λpins s σ H D I hh=>by obtain⟨ι,ρ,M,fl,ρ',M',S,R,e,q⟩:=hh;rw[MW.amf] at e;obtain⟨x,M1,e1,e⟩:=dz e;cases e
def aw5(h:PE X a t):PE X (.BoolOp op [a] pos) t:=λpins s σ H Q I q=>PyProof.Rows.BoolOp_one (h pins s σ H Q I q)
def apb{ds:List Dv}{i:Nat}(h:((ds.zip es).map λp=>MW.D.tup [p.1,p.2])[i]?=some d):∃x y,ds[i]?=some x/\es[i]?=some y/\d=.tup [x,y]:=by rw[ie] at h;obtain⟨p,hp,rfl⟩:=cu.mp h;obtain⟨h1,h2⟩:=qz.mp hp;exact⟨_,_,h1,h2,rfl⟩
def ah2{X:Cx}(r:Rep X.K ι H x v)(e:MW.ae5 x=some ds):∃b p us,v=.ref p/\j6 X.K ι H ds us/\Zb b X.K H p us/\∀ι2 H2,LeX ι H ι2 H2->Zb b X.K H2 p us:=by
 cases r with
 |@tup p ds us h1 rr=>cases e;exact⟨true,p,us,rfl,rr,Kv.of h1,fun ι2 H2 zg=>Kv.of (zg.tup _ _ h1)⟩
 |@vl p ds us h1 n1 rr=>cases e;exact⟨false,p,us,rfl,rr,Hf.of h1,fun ι2 H2 zg=>Hf.of (zg.lst _ _ n1.1 h1)⟩
 |_=>cases e
def au1{X:Cx}(r1:j6 X.K ι H ds vs)(r2:j6 X.K ι H es ws)(hk1:∀ι1 H1,LeX ι H ι1 H1->Zb b1 X.K H1 q1 vs)(hk2:∀ι1 H1,LeX ι H ι1 H1->Zb b2 X.K H1 q2 ws) :
 aop nm X.K ι H (.con ((ds.zip es).map λp=>MW.D.tup [p.1,p.2])) (Izp b1 b2 X.K q1 q2):=fun ι1 H1 M1 le S1=>by
 refine⟨λi d hi hd=>?_,λ_=>⟨vs,ws,hk1 ι1 H1 le,hk2 ι1 H1 le,?_⟩⟩
 . obtain⟨x,y,e1,e2,rfl⟩:=apb hd
   obtain⟨v,g1,g2⟩:=(r1.Fj le).get e1;obtain⟨w,g3,g4⟩:=(r2.Fj le).get e2;refine⟨⟨vs,v,ws,w,hk1 ι1 H1 le,g1,hk2 ι1 H1 le,g3⟩,λu H2 ⟨p,x',y',e5,e6,e7,e8,e9⟩=>?_⟩;have ex:x'=v:=by have:=e8 vs (hk1 ι1 H1 le);rw[g1] at this;cases this;rfl
   have ey:y'=w:=by have:=e9 ws (hk2 ι1 H1 le);rw[g3] at this;cases this;rfl
   subst ex ey e5 e7;obtain⟨S2,zg,r2⟩:=Lq (X:=X) S1 e6 (.cons g2 (.cons g4 .nil));exact⟨zg,S2,r2⟩
 . show vs.length<=((ds.zip es).map λp=>MW.D.tup [p.1,p.2]).length\/ws.length<=((ds.zip es).map λp=>MW.D.tup [p.1,p.2]).length
   rw[<- r1.length,<- r2.length,dw,List.length_zip]
   lia
def au2(e:(Pr.zip a' c').den W ρ M=.ok s M'):∃x y ds es M1,a'.den W ρ M=.ok x M1/\c'.den W ρ M1=.ok y M'/\MW.ae5 x=some ds/\MW.ae5 y=some es/\s=.con ((ds.zip es).map λp=>MW.D.tup [p.1,p.2]):=by
 rw[MW.ase] at e;obtain⟨x,N1,e1,e⟩:=dz e;obtain⟨y,N2,e2,e⟩:=dz e;obtain⟨ds,N3,e3,e⟩:=dz e;obtain⟨es,N4,e4,e⟩:=dz e;obtain⟨e3,h3⟩:=w5 e3;obtain⟨e4,h4⟩:=w5 e4;injection e with e5 e6
 exact⟨x,y,ds,es,N1,e1,by rw[e2,<- h3,<- h4,e6],e3,e4,e5.symm⟩
def a8m(hg:Gl X "zip")(hm:X.mg "zip" = none)(ha:PE X a (tE nm W X.K a'))(U6:noStar a=true)(hb:PE X c (tE nm W X.K c'))(bee:noStar c=true)(Ip:(backTo pos (starEach [c] X.env)).any (·.1)=false) :
 PI X (.Tuple ts k0 pt) (.Call (.Name "zip" pr) [a,c] [] pos) (tI nm W X.K (.zip a' c')):=by
 intro pins s0 σ H R' I hh;obtain⟨ι,ρ,M,s,M',S,R,e,q⟩:=hh;obtain⟨x,y,ds,es,N1,e1,e2,e3,e4,rfl⟩:=au2 e;refine PI.weak (a8k (ts:=ts) (k0:=k0) (pt:=pt) (p:=pr) (pos:=pos) hg hm (Ju ha (Ju hb Ro (lg bee _ _)) (lg U6 _ _)) (lg U6 _ _) Ip) (wi':=fun σ0 H0 R0=>σ0=σ/\H0=H/\R0=R') (fun σ0 H0 R0 ⟨z1,z2,z3⟩=>?_) pins s0 σ H R' I ⟨rfl,rfl,rfl⟩;subst z1 z2 z3;refine Wl (es':=.cons a' (.cons c' .nil)) (ds:=[x,y]) (M1:=M') S R (by rw[MW.Hj,e1];simp[e2]) fun ι1 H1 vs le S1 R1 r=>?_
 cases r with
 |cons r1 r2 =>
  cases r2 with
  |cons r2 r3 =>
   cases r3;obtain⟨b1,p1,us1,rfl,g1,g2,g3⟩:=ah2 r1 e3;obtain⟨b2,p2,us2,rfl,g4,g5,g6⟩:=ah2 r2 e4;exact⟨b1,b2,p1,p2,rfl,⟨_,g2⟩,⟨_,g5⟩,q ι1 H1 _ le S1 (au1 g1 g4 g3 g6)⟩
theorem adw:∀{xs:List Dv}{b:Bool},MW.allB xs=some b->∃bs:List Bool,xs=bs.map MW.D.bl/\b=bs.all id
 |[],b,e=>by cases e;exact⟨[],rfl,rfl⟩
 |.bl k::r,b,e=>by
  obtain⟨c,e1,rfl⟩:=cu.mp (show(MW.allB r).map (k&&·)=some b from e);obtain⟨bs,rfl,rfl⟩:=adw e1;exact⟨k::bs,rfl,by simp⟩
theorem Zc{ι:Io}{H:Hp}{K:Fg}:∀{bs:List Bool}{vs:List V}{is:Zl},j6 K ι H (bs.map MW.D.bl) vs->Vals vs is->is=bs.map Value.bool
 |[],_,_,r,h=>by cases r;cases h;rfl
 |k::bs,_,_,r,h=>by
  cases r with
  |cons r1 r2 =>
   cases h with
   |cons h1 h2 =>
    cases r1;cases h1;rw[Zc r2 h2];rfl
def a8n(hc:X.calm=true):Cy X (.builtin "all") (rB nm X.K .all):=λpins s σ H vs us Q I Xz hh=>by
 obtain⟨ι,M,ds,d,M',S,r,e,q⟩:=hh;obtain⟨x,rfl,e⟩:∃x,ds=[x]/\Res.uo (((MW.gf M x).bind MW.allB).map MW.D.bl) M=.ok d M':=by
  cases ds with
  |nil=>cases e
  |cons x l=>cases l with
   |nil=>exact⟨x,rfl,e⟩|cons _ _=>cases e
 obtain⟨e1,rfl⟩:=w5 e;obtain⟨b,e2,rfl⟩:=cu.mp e1;obtain⟨xs,e3,e4⟩:=dq.mp e2;obtain⟨bs,rfl,rfl⟩:=adw e4;obtain⟨v,rfl,rv⟩:=Jj r rfl;obtain⟨u,rfl,ru⟩:=Tr Xz;obtain⟨p,ws,rfl,hp,rl⟩:=qt S rv e3;cases ru;obtain⟨is,rvl,pl,_⟩:=I.list (Hf.of hp);have his:=Zc rl rvl;have Iw:p<s.heap.objs.size:=by obtain⟨_,e,_⟩:=pl.isList;exact az e
 refine call_all_walk (v5 pl.isList ?_);refine⟨_,_,_,_,_,_,λi=>bs.getD i true,rfl,Walks.list (A:=X.A.in1) (I.ok.hd hc) s.heap.objs.size p (fc Iw) is.toArray,⟨⟨_,bh _ rfl,rfl,rfl⟩,pl.isList.push _⟩,λi v s Q E hP hQ=>?_,λh' tk hk=>?_⟩
 . have hv:is[i]?=some v:=by simpa using hP
   rw[his,ie] at hv;obtain⟨k,hk,rfl⟩:=cu.mp hv;refine j7 ?_;have hQ:Q (bs.getD i true) s:=hQ;rw[cj,hk] at hQ;exact hQ
 . have ha:(List.range is.toArray.size).all (λi=>bs.getD i true)=bs.all id:=by
    rw[his];simp only[gw,dw];rw[vq,gn,gn];constructor
    . intro h k hk
      obtain⟨i,hi,rfl⟩:=jo hk;have:=h i (jz.mpr hi);simpa[cj,hi] using this
    . intro h i hi
      have hi':=jz.mp hi;have:=h bs[i] (lq hi');simpa[cj,hi'] using this
   rw[ha];exact⟨.bl _,H,I.kept (t':=tk) (old_kept hk),rfl,q ι H _ (Le.refl _ _) S (.bl _)⟩
end Sm
namespace Sm
open PySem L2
open MW (Ex Dl OEx Pr Bu o6 Lv Tg Res cz MO Ir Cp Op2 Blt Bm Kx Src)
set_option tactic.hygienic true in
def au3(e:MW.Jz .get x ds M=.ok d M'):∃n k d0,x=.ref n/\ds=[k,d0]/\M'=M/\∃gq q,M[n]?=some (.dK gq)/\MW.Sx k=some q/\d=(MW.Ad gq q).getD d0:=by
 cases x with
 |ref n =>
  match ds,e with
  |[k,d0],e =>
   have e:(match M[n]? with
    |some (.dK gq)=>Res.uo ((MW.Sx k).map λq=>(MW.Ad gq q).getD d0) M
    | _=>.bad)=.ok d M':=e
   refine⟨n,k,d0,rfl,rfl,?_⟩;split at e
   . rename_i gq hM
     obtain⟨e1,e2⟩:=w5 e;obtain⟨q,h1,h2⟩:=cu.mp e1;exact⟨e2,gq,q,hM,h1,h2.symm⟩
   . cases e
  |[],e=>cases e|[_],e=>cases e|_::_::_::_,e=>cases e
 |_=>cases e
set_option tactic.hygienic true in
def ty_dict{X:Cx}(S:m5 nm X.K ι H M)(r:Rep X.K ι H x v)(h:MW.Qn .get x M=true):tyV X.K "dict" v H:=by
 cases r with
 |@ref n p hp =>
  have h:(match M[n]? with|some (.dK _)=>true|_=>false)=true:=h;split at h
  . rename_i hM
    obtain⟨l,h1,_⟩:=S.obj n _ p hM hp;exact .inr (.inr (.inl ⟨rfl,.inl ⟨_,h1⟩⟩))
  . cases h
 |_=>cases h
def a8o(hu:X.A.units+1<cLine):MtR X "dict.get" (rM nm X.K .get):=λpins s σ H v vs u us Q I ru Xz hh=>by
 obtain⟨ι,M,x,ds,d,M',S,r,rs,e,_,q⟩:=hh;obtain⟨n,k,d0,rfl,rfl,rfl,gq,k0,hM,hk,rfl⟩:=au3 e;cases rs with
 |cons rk rt =>
  cases rt with
  |cons rd rt =>
   cases rt;cases Xz with
   |cons hk1 ht1 =>
    cases ht1 with
    |cons hd1 ht1 =>
     cases ht1;cases r with
     |ref ha =>
      cases ru;obtain⟨l,h1,h2⟩:=S.obj n _ _ hM ha;have hy:=Tp rk hk;subst hy;refine azt hu I (Px.k h1) hk1 hd1 λw' s' I' rw'=>⟨_,H,I',rw',q ι H _ (Le.refl _ _) S ?_⟩
      cases hl:MW.Ad gq k0 with
      |none=>rw[(h2.look (k:=k0)).2 hl];exact rd|some d=>obtain⟨z,h3,h4⟩:=(h2.look (k:=k0)).1 d hl;rw[h3];exact h4
set_option tactic.hygienic true in
def a0y(hr:Ah 8 X.A)(hg:Gl X n)(hm:X.mg n=none)(hv:bootBuiltins n=some (.type "list"))(hn:n≠"__name__")(Uk:(n==("__debug__" : Str))=false)(hg2:Gl X tn)(hm2:X.mg tn=none)(hv2:bootBuiltins tn=some (.type "range"))(Xm:tn≠"__name__")(af7:(tn==("__debug__" : Str))=false)(ha:PA X [a] (Xh nm W X.K (.cons a' .nil)))(he:starEach [.Call (.Name tn p') [a] [] q2] X.env=(false,eval (.Call (.Name tn p') [a] [] q2) X.env)::starEach [] X.env)(Ip:(backTo q1 (starEach [] X.env)).any (·.1)=false)(he2:starEach [a] X.env=(false,eval a X.env)::starEach [] X.env)(af5:(backTo q2 (starEach [] X.env)).any (·.1)=false) :
 PE X (.Call (.Name n p) [.Call (.Name tn p') [a] [] q2] [] q1) (tE nm W X.K (.ae1 a')):=by
 intro pins s σ H Q I hh;obtain⟨ι,ρ,M,d,M',S,R,e,q⟩:=hh;rw[MW.amd] at e;obtain⟨x,M1,e1,e⟩:=dz e;split at e<;>try cases e
 rename_i i;split at e<;>cases e;rename_i hi;refine je (Dw I hg hm hv ?_ hn Uk);refine jh (Q:=EP X pins σ Q) ?_ he Ip;rw[he];show wpAny _ _ (spliced ((false,eval (.Call (.Name tn p') [a] [] q2) X.env)::backTo q1 (starEach [] X.env))) _ _ s;refine t7 ?_;refine je (Dw I hg2 hm2 hv2 ?_ Xm af7);refine jh (Bq (ha q2 pins s σ H (λvs H1=>∃ι1,vs=[.int i]/\Le ι H ι1 H1/\m5 nm X.K ι1 H1 M1) I ⟨ι,ρ,M,[.int i],M1,S,R,by simp[e1,Res.bind],fun ι1 H1 vs le S1 r=>?_⟩) λus s1 ⟨vs,H1,I1,r1,ι1,ev,Vb,S1⟩=>?_) he2 af5
 . obtain⟨v,ev,rv⟩:=Jj r rfl
   cases rv;exact⟨ι1,ev,le,S1⟩
 subst ev;obtain⟨u,rfl,ru⟩:=Tr r1;obtain⟨t,rfl⟩:=ru;refine call_range_1 ?_;show wpAny _ _ (spliced []) _ _ _;refine vz ?_;have keep:∀b o,s1.heap.get? b=some o->(s1.heap.push { cls:=.type "range",data:=.fields #[.int 0 s1.toks,.int i t,.int 1 (s1.toks+1)] }).get? b=some o:=λb o e=>ak _ e
 refine call_list_range (n:=i.toNat) hr.hd (bh _ rfl) (small_one (by lia) (by lia) (by lia) (by omega)) (by rw[rangeSize_one];split<;>lia) (by lia) λh' tk acc c' hk hS Fo=>?_
 have hsz:(s1.heap.push { cls:=.type "range",data:=.fields #[.int 0 s1.toks,.int i t,.int 1 (s1.toks+1)] }).objs.size=s1.heap.objs.size+1:=ig ..;have hS:h'.get? (s1.heap.push { cls:=.type "range",data:=.fields #[.int 0 s1.toks,.int i t,.int 1 (s1.toks+1)] }).objs.size=some { cls:=.type "list",dict:=none,data:=.seq acc c',slots:=#[] }:=hS;show EP X pins σ Q (.ref (s1.heap.push { cls:=.type "range",data:=.fields #[.int 0 s1.toks,.int i t,.int 1 (s1.toks+1)] }).objs.size) _;rw[hsz] at hS ⊢;have hz:((List.range i.toNat).map λ(k:Nat)=>V.int (k:Int)).length<=sizeLine:=by simp[qj];omega
 have hle:s1.heap.objs.size<=s1.heap.objs.size+1:=u0 _
 have hf:H1 (s1.heap.objs.size+1)=none:=I1.An.fresh hle;have I3:Inv X pins σ (upd H1 (s1.heap.objs.size+1) (.lst ((List.range i.toNat).map λ(k:Nat)=>V.int (k:Int)))) { s1 with heap:=h',toks:=tk } :=
  I1.laid (a:=s1.heap.objs.size+1) (t':=tk) (λb o e=>hk b o (keep b o e)) hle (show Bk X.prog X.w _ _ _ (.lst _) from⟨hz,acc.toList,c',Ww Fo,by simpa using hS⟩)
 obtain⟨S2,zg,r2⟩:=aay (X:=X) S1 hf (Wx i.toNat);exact⟨.ref (s1.heap.objs.size+1),_,I3,rfl,q _ _ _ (Vb.trans zg) S2 r2⟩
end Sm
namespace Sm
open PySem L2
open MW (Ex Dl OEx Pr Bu o6 Lv Tg Res cz MO Ir Cp Op2 Blt Bm Kx Src)
theorem Wz(x:Int):∀l,(MW.insI x l).Perm (x::l)
 |[]=>yo _
 |y::l=>by
  unfold MW.insI;split
  . exact yo _
  . exact((Wz x l).cons y).trans (List.Perm.swap x y l)
theorem Pn:∀l,(MW.sortI l).Perm l
 |[]=>yo _|x::l=>(Wz x _).trans ((Pn l).cons x)
theorem apc(x:Int):∀{l:Xs},l.Pairwise (·<=·)->(MW.insI x l).Pairwise (·<=·)
 |[],_=>List.pairwise_singleton _ _
 |y::l,h=>by
  obtain⟨h1,h2⟩:=zm.mp h;unfold MW.insI;split
  . refine zm.mpr ⟨λz hz=>?_,h⟩
    rcases bz.mp hz with rfl|hz
    . lia
    . have:=h1 z hz;lia
  . refine zm.mpr ⟨λz hz=>?_,apc x h2⟩
    rcases bz.mp ((Wz x l).mem_iff.mp hz) with rfl|hz
    . lia
    . exact h1 z hz
theorem ah3:∀l,(MW.sortI l).Pairwise (·<=·)
 |[]=>List.Pairwise.nil|x::l=>apc x (ah3 l)
set_option tactic.hygienic true in
theorem aa9(k:Int):∀l,k∈MW.Ak l↔k∈l
 |[]=>Iff.rfl
 |x::l=>by
  unfold MW.Ak;split
  . rename_i h
    rw[aa9 k l,bz];exact⟨.inr,λz=>z.elim (λe=>e▸h) id⟩
  . rw[bz,bz,aa9 k l]
set_option tactic.hygienic true in
theorem af8:∀l,(MW.Ak l).Nodup
 |[]=>xf
 |x::l=>by
  unfold MW.Ak;split
  . exact af8 l
  . rename_i h
    exact kj.mpr ⟨λz=>h ((aa9 x l).mp z),af8 l⟩
theorem apd:∀l,(MW.Ak l).length<=l.length
 |[]=>bw _
 |x::l=>by
  have:=apd l;unfold MW.Ak;split<;>simp<;>omega
theorem aw6:∀{a b:Xs},a.Pairwise (·<=·)->b.Pairwise (·<=·)->a.Nodup->b.Nodup->(∀k,k∈a↔k∈b)->a=b
 |[],[],_,_,_,_,_=>rfl|[],y::b,_,_,_,_,h=>nomatch(h y).mpr di|x::a,[],_,_,_,_,h=>nomatch(h x).mp di
 |x::a,y::b,ha,hb,na,nb,h=>by
  obtain⟨a1,a2⟩:=zm.mp ha;obtain⟨b1,b2⟩:=zm.mp hb;obtain⟨c1,c2⟩:=kj.mp na;obtain⟨d1,d2⟩:=kj.mp nb;have e:x=y:=by
   rcases bz.mp ((h x).mp di) with e|m
   . exact e
   . rcases bz.mp ((h y).mpr di) with e|m'
     . exact e.symm
     . have:=b1 x m;have:=a1 y m';lia
  subst e
  congr 1
  refine aw6 a2 b2 c2 d2 λk=>⟨λm=>?_,λm=>?_⟩
  . rcases bz.mp ((h k).mp (bu _ m)) with rfl|m'
    . exact absurd m c1
    . exact m'
  . rcases bz.mp ((h k).mpr (bu _ m)) with rfl|m'
    . exact absurd m d1
    . exact m'
def au4(h1:ns.Pairwise (·<=·))(h2:ns.Nodup)(h3:∀k,k∈l↔k∈ns):ns=MW.sortI (MW.Ak l) :=
 aw6 h1 (ah3 _) h2 ((Pn _).nodup_iff.mpr (af8 l)) λk=>by rw[(Pn _).mem_iff,aa9,h3]
theorem adx{ι:Io}{H:Hp}{K:Fg}:∀{ds:List Dv}{vs:List V}{is:Zl}{ns:Xs},j6 K ι H ds vs->Vals vs is->MW.Yh ds=some ns->PyProof.Rows.IntsAre is ns
 |_,_,_,_,.nil,.nil,h=>by cases h;exact .nil
 |_,_,_,_,.cons r t,.cons rv tv,h=>by
  cases r<;>simp only[MW.Yh] at h<;>try cases h
  obtain⟨ns',e1,e2⟩:=cu.mp h;subst e2;obtain⟨tk,rfl⟩:=rv;exact .cons _ _ (adx t tv e1)
theorem ady:∀{is:Zl}{ns:Xs},PyProof.Rows.IntsAre is ns->Vals (ns.map V.int) is
 |_,_,.nil=>.nil|_,_,.cons n t h=>.cons ⟨t,rfl⟩ (ady h)
theorem Zd{ι:Io}{H:Hp}{K:Fg}:∀ns:List Int,j6 K ι H (ns.map MW.D.int) (ns.map V.int)
 |[]=>.nil|n::ns=>.cons (.int n) (Zd ns)
set_option tactic.hygienic true in
def adz(e:MW.qx .Gh ds M=.ok d M'):∃x xs ns,ds=[x]/\MW.gf M x=some xs/\MW.Yh xs=some ns/\ns.length<31/\d=.vl ((MW.sortI (MW.Ak ns)).map MW.D.int)/\M'=M:=by
 match ds,e with
 |[x],e =>
  have e:Res.uo (((MW.gf M x).bind MW.Yh).bind λis=>if is.length<31 then some (MW.D.vl ((MW.sortI (MW.Ak is)).map MW.D.int)) else none) M=.ok d M':=e;obtain⟨e1,e2⟩:=w5 e;obtain⟨ns,e3,e4⟩:=dq.mp e1;obtain⟨xs,e5,e6⟩:=dq.mp e3;split at e4
  . rename_i hl
    exact⟨x,xs,ns,rfl,e5,e6,hl,(jq e4).symm,e2⟩
  . cases e4
 |[],e=>cases e|_::_::_,e=>cases e
def akj(hr:Ah 8 X.A)(hg:Gl X n)(hm:X.mg n=none)(hv:bootBuiltins n=some (.builtin "sorted"))(hn:n≠"__name__")(Uk:(n==("__debug__" : Str))=false)(hg2:Gl X tn)(hm2:X.mg tn=none)(hv2:bootBuiltins tn=some (.type "set"))(Xm:tn≠"__name__")(af7:(tn==("__debug__" : Str))=false)(ha:PA X [a] (Xh nm W X.K (.cons a' .nil)))(he:starEach [.Call (.Name tn p') [a] [] q2] X.env=(false,eval (.Call (.Name tn p') [a] [] q2) X.env)::starEach [] X.env)(Ip:(backTo q1 (starEach [] X.env)).any (·.1)=false)(he2:starEach [a] X.env=(false,eval a X.env)::starEach [] X.env)(af5:(backTo q2 (starEach [] X.env)).any (·.1)=false) :
 PE X (.Call (.Name n p) [.Call (.Name tn p') [a] [] q2] [] q1) (tE nm W X.K (.blt .Gh (.cons a' .nil))):=by
 intro pins s σ H Q I hh;obtain⟨ι,ρ,M,d,M',S,R,e,q⟩:=hh;rw[MW.Z0] at e;obtain⟨ds,M1,e1,e⟩:=dz e;obtain⟨x,xs,ns,rfl,e2,e3,hl,rfl,rfl⟩:=adz e;refine je (Dw I hg hm hv ?_ hn Uk);refine yh (Q:=EP X pins σ Q) ?_ he Ip;rw[he];show wpAny _ _ (spliced ((false,eval (.Call (.Name tn p') [a] [] q2) X.env)::backTo q1 (starEach [] X.env))) _ _ s;refine t7 ?_;refine je (Dw I hg2 hm2 hv2 ?_ Xm af7);refine jh (Bq (ha q2 pins s σ H (λvs H1=>∃ι1 v,vs=[v]/\Rep X.K ι1 H1 x v/\Le ι H ι1 H1/\m5 nm X.K ι1 H1 M') I ⟨ι,ρ,M,[x],M',S,R,e1,fun ι1 H1 vs le S1 r=>?_⟩) λus s1 ⟨vs,H1,I1,r1,ι1,v,ev,rx,Vb,S1⟩=>?_) he2 af5
 . obtain⟨v,ev,rv⟩:=Jj r rfl
   exact⟨ι1,v,ev,rv,le,S1⟩
 subst ev;obtain⟨u,rfl,ru⟩:=Tr r1;obtain⟨p,ws,rfl,hp,rl⟩:=qt S1 rx e2;cases ru;obtain⟨is,rvl,pl,_⟩:=I1.list (Hf.of hp);refine Xk.ai9 hr.hd pl.isList (by simpa using adx rl rvl e3) hl λh' tk n' keep hS O6=>?_
 show wpAny _ _ (spliced []) _ _ _;refine vz ?_;refine Xk.ab2 (s:={ s1 with heap:=h',toks:=tk }) hr.hd hS (c_ O6 hl) λh2 tk2 p2 out ms ahy hp2 hI2 so nd mem ⟨c,g⟩=>?_
 obtain rfl:=au4 so nd mem;obtain⟨o9,_,_,_,g9,_⟩:=hS.get;have hz1:s1.heap.objs.size<=p2:=gm (Aj (az g9)) hp2
 have hf:H1 p2=none:=I1.An.fresh hz1;have hzl:((MW.sortI (MW.Ak ns)).map V.int).length<=sizeLine:=by rw[dw,(Pn _).length_eq,qj];have:=apd ns;exact e_ (c_ this (b_ hl (by decide)))
 have I3:Inv X pins σ (upd H1 p2 (.lst ((MW.sortI (MW.Ak ns)).map V.int))) { s1 with heap:=h2,toks:=tk2 } :=
  I1.laid (a:=p2) (t':=tk2) (λb o e=>ahy b o (keep b o e)) hz1 (show Bk X.prog X.w _ _ _ (.lst _) from⟨hzl,out.toList,c,ady hI2,by simpa using g⟩)
 obtain⟨S2,zg,r2⟩:=aax (X:=X) S1 hf (Zd _);exact⟨.ref p2,_,I3,rfl,q _ _ _ (Vb.trans zg) S2 r2⟩
open MW (Ex Dl OEx Pr Bu o6 Lv Tg Res cz MO Ir Cp Op2 Blt Bm Kx)
section
variable{nm:Nm}{X:Cx}
set_option tactic.hygienic true in
def ape(rx:Rep K ι H x v)(ry:Rep K ι H y u)(rv:RelV v v')(ru:RelV u u')(e:MW.ar5 x y=some k):plainIs v' u'=true/\(v'==u')=k:=by
 cases rx<;>try(cases e;done)
 cases ry<;>try(cases e;done)
 rename_i b c;cases rv;cases ru;cases e;cases b<;>cases c<;>exact⟨rfl,rfl⟩
def au5:Dh X (compareOp .IsNot) (Wi nm X.K .Yg):=λpins s σ H v u v' u' Q I rv ru hh=>by obtain⟨ι,M,x,y,b,S,rx,ry,e,q⟩:=hh;have e:(MW.ar5 x y).map not=some b:=e;obtain⟨c,e1,rfl⟩:=cu.mp e;obtain⟨p,ev⟩:=ape rx ry rv ru e1;exact wpAny_isNot_plain p (xu I q (by rw[ev]))
end
end Sm
namespace Ck
open PySem L2 Sm
open MW (Ex Dl OEx Pr Bu o6 Lv Tg Res cz MO Ir Cp Op2 Blt Bm Kx Src)
structure Tab where
 fns:List (Option (Str×Nat))
 cls:List (Option (Str×Nat))
 mts:List (Str×Nat)
 Qw:List Str
 au6:List (Str×Int)
noncomputable def Ou:List Str:=["len", "tuple", "list", "dict", "max", "min", "isinstance", "range", "enumerate", "set", "zip", "all", "bool", "int", "sum", "sorted"]
structure apf(T:Tab)(nm:Nm)(W:Ir)(k:Nat)(P:Program)(w:World)(K:Fg)(mg:Zs)(base:Heap):Prop where
 fn:∀f x n,T.fns[f]?=some (some (x,n))->∃fa fd ps,Ge P w K mg base CX0 k fa fd ps (spF nm W K n f)/\mg x=some (.ref fa)/\PySem.W.keepIn K (.ref fa)=true/\Binds K fd ps []
 cl:∀c x n,T.cls[c]?=some (some (x,n))->∃C fa fd ps cl,Mk K C fa/\Ge P w K mg base CX0 k fa fd ps (spF nm W K (n+1) cl.init)/\mg x=some (.ref C)/\Binds K fd ps []/\W.cls[c]?=some cl/\nm.cls c=some C
 mt:∀m x n,T.mts[m]?=some (x,n)->∃C fa fd ps f,Cls K C/\Meth K C x fa/\Ge P w K mg base CX0 k fa fd ps (spF nm W K (n+1) f)/\Binds K fd ps [] /\
  (∀c' cl',W.cls[c']?=some cl'->∀g,cl'.meths.lookup m=some g->nm.cls c'=some C/\g=f)/\∀i,nm.fld i≠x
 fl:∀f x,T.Qw[f]?=some x->x=nm.fld f/\∀c C,nm.cls c=some C->Cls K C/\G8 K C x
 cs:∀x i,(x,i)∈T.au6->∃t,mg x=some (.int i t)
 bt:∀x∈Ou,mg x=none
structure Ctx where
 N:List Str
 sc:List (Str×NameKind)
 fn:Bool
 own:List Str
structure Fb(T:Tab)(nm:Nm)(W:Ir)(k:Nat)(c:Ctx)(X:Cx):Prop where
 N:X.N=c.N
 nd:c.N.Nodup
 sc:X.env.scope.names=c.sc
 kd:X.env.scope.kind=.function
 calm:X.calm=true
 room:Ah (k+16) X.A
 fnl:c.fn=true->(∀n,X.fn n=true)/\PassesOwn (model X.prog X.w) X.A X.env X.xe
 tab:apf T nm W k X.prog X.w X.K X.mg X.base
 ow:∀n,c.own.contains n=true->X.fn n=true
noncomputable def W0(n:Str):Bool:=!(n==("__debug__" : Str))&&(!(n==("__classdict__" : Str))&&!(n==("__name__" : Str)))
noncomputable def akk(c:Ctx)(n:Str):Bool:=match c.sc.lookup n with|some .local=>true|some .cell=>true|some .free=>true|_=>false
noncomputable def a0z(c:Ctx)(n:Str):Bool:=match c.sc.lookup n with|some .local=>true|some .cell=>c.fn||c.own.contains n|_=>false
noncomputable def Ve(c:Ctx)(n:Str):Bool:=W0 n&&(match c.sc.lookup n with|some .globalImplicit=>true|_=>false)
noncomputable def ah5(c:Ctx)(i:Nat)(n:Str):Bool:=match c.N[i]? with|some m=>m==n|none=>false
noncomputable def Aa:List Expr->Bool
 |[]=>true|e::r=>noStar e&&Aa r
noncomputable def W2:Expr->Bool
 |.Name ..=>true|.Attribute ..=>true|.Subscript ..=>true|.Call (.Attribute ..) ..=>true|_=>false
def uc(h:W0 n=true):(n==("__debug__" : Str))=false/\(n==("__classdict__" : Str))=false/\n≠"__name__" := by simp only[W0,aq,Bool.not_eq_true'] at h;exact⟨h.1,h.2.1,λz=>by have:=h.2.2;rw[z] at this;simp at this⟩
set_option tactic.hygienic true in
def a00(h:Fb T nm W k c X)(hv:akk c n=true):Vis X.env.scope n:=by unfold Vis;rw[h.sc];unfold akk at hv;split at hv<;>rename_i e<;>first|exact .inl e|exact .inr (.inl e)|exact .inr (.inr e)|cases hv
set_option tactic.hygienic true in
def a01(h:Fb T nm W k c X)(hv:a0z c n=true):L2.Loc X.env.scope n/\(X.fn n=true\/X.env.scope.names.lookup n=some .local):=by
 unfold L2.Loc;rw[h.sc];unfold a0z at hv;split at hv
 . rename_i e;exact⟨.inl e,.inr e⟩
 . rename_i e;rcases(Bool.or_eq_true _ _).mp hv with z|z
   . exact⟨.inr e,.inl ((h.fnl z).1 n)⟩
   . exact⟨.inr e,.inl (h.ow n z)⟩
 . cases hv
set_option tactic.hygienic true in
def Hc(h:Fb T nm W k c X)(hv:Ve c n=true):Gl X n/\W0 n=true:=by
 unfold Ve at hv;rw[aq] at hv;refine⟨?_,hv.1⟩;have hv:=hv.2;unfold Gl Env.kindOf;rw[h.sc];split at hv
 . rename_i e;exact e
 . cases hv
set_option tactic.hygienic true in
def slot_of(h:Fb T nm W k c X)(hv:ah5 c i n=true):X.N[i]?=some n:=by
 rw[h.N];unfold ah5 at hv;split at hv
 . rename_i m e;rw[e,eq_of_beq hv]
 . cases hv
theorem W3{env:Env}:∀{es:Ya},Aa es=true->starEach es env=es.map λe=>(false,eval e env)
 |[],_=>rfl
 |e::r,h=>by
  simp only[Aa,aq] at h;rw[lg h.1,W3 h.2];rfl
def v9(h:Aa es=true):(backTo pos (starEach es env)).any (·.1)=false:=by rw[W3 h];simp[backTo]
def W4(h:Aa es=true):(backTo pos (starEach es env)).all (λx=>!x.1)=true:=by rw[W3 h];simp[backTo]
set_option tactic.hygienic true in
def Jg(h:W2 o=true):attributeBase o n env (eval o env)=eval o env:=by
 cases o<;>try first|rfl|(cases h;done)
 rename_i f as kws p;cases f<;>first|rfl|(cases h)
def ah6(h:W2 o=true)(hs:Aa es=true)(hl:es.length<29)(hp:(apos.endLine==pos.line)=true) :
 eval (.Call (.Attribute o m apos) es [] pos) env=(do
  let ov <- eval o env
  standAt apos.atName
  let (f,first) <- holding [ov] (getMethod ov m (do return (<- importBound o env).getD true))
  callWith pos f first (backTo pos (starEach es env)) (backToKw pos (keywordEach [] env))):=by
 have hf:methodCallForm (es.length+0) (backTo pos (starEach es env)) (backToKw pos (keywordEach [] env))=true:=by unfold methodCallForm;rw[W4 hs];simp[keywordEach,backToKw];exact b_ hl (by decide)
 show(do
  let ov <- attributeBase o m env (eval o env)
  standAt apos.atName
  methodCall o m apos pos env ov (es.length+0) (backTo pos (starEach es env)) (backToKw pos (keywordEach [] env)))=_
 rw[Jg h];unfold methodCall;rw[hf];have hq:methodCallPos true o env apos pos=pure pos:=by unfold methodCallPos;rw[hp];rfl
 rw[hq];simp only[calleeOf,jy,pure_bind]
noncomputable def Dd{α:Type}(o:Option α)(f:α->Bool):Bool:=match o with|some x=>f x|none=>false
def jx(h:Dd o f=true):∃x,o=some x/\f x=true:=by
 cases o with
 |none=>cases h|some x=>exact⟨x,rfl,h⟩
noncomputable def Qx{α:Type}(l:List α):Option α:=match l with|[x]=>some x|_=>none
def Br(h:Qx l=some x):l=[x]:=by
 cases l with
 |nil=>cases h
 |cons y r=>cases r with
  |nil=>cases h;rfl|cons _ _=>cases h
def Xj{α:Type}{P:α->Prop}{o:Option {x // P x}}{q:α}(h:o.map Subtype.val=some q):P q:=by
 cases o with
 |none=>cases h|some x=>cases h;exact x.2
noncomputable def Uu(a:Expr):Option Str:=Option.map Subtype.val (α:={q:Str // ∃p,a=.Name q p}) (match a with|.Name n p=>some ⟨n,p,rfl⟩|_=>none)
noncomputable def apg(a:Expr):Option Const:=Option.map Subtype.val (α:={q:Const // ∃k p,a=.Constant q k p}) (match a with|.Constant n k p=>some ⟨n,k,p,rfl⟩|_=>none)
noncomputable def a8p(a:Expr):Option (Expr×Operator×Expr):=Option.map Subtype.val (α:={q:Expr×Operator×Expr // ∃p,a=.BinOp q.1 q.2.1 q.2.2 p}) (match a with|.BinOp l o r p=>some ⟨(l,o,r),p,rfl⟩|_=>none)
noncomputable def dUn(a:Expr):Option (UnaryOp×Expr):=Option.map Subtype.val (α:={q:UnaryOp×Expr // ∃p,a=.UnaryOp q.1 q.2 p}) (match a with|.UnaryOp o l p=>some ⟨(o,l),p,rfl⟩|_=>none)
noncomputable def au7(a:Expr):Option (Expr×List CmpOp×List Expr):=Option.map Subtype.val (α:={q:Expr×List CmpOp×List Expr // ∃p,a=.Compare q.1 q.2.1 q.2.2 p}) (match a with|.Compare l o r p=>some ⟨(l,o,r),p,rfl⟩|_=>none)
noncomputable def aw7(a:Expr):Option (BoolOp×List Expr×Pos):=Option.map Subtype.val (α:={q:BoolOp×List Expr×Pos // a=.BoolOp q.1 q.2.1 q.2.2}) (match a with|.BoolOp o l p=>some ⟨(o,l,p),rfl⟩|_=>none)
noncomputable def a02(a:Expr):Option (Expr×Expr×Expr):=Option.map Subtype.val (α:={q:Expr×Expr×Expr // ∃p,a=.IfExp q.1 q.2.1 q.2.2 p}) (match a with|.IfExp t l r p=>some ⟨(t,l,r),p,rfl⟩|_=>none)
noncomputable def ad0(a:Expr):Option (List Expr):=Option.map Subtype.val (α:={q:List Expr // ∃k p,a=.Tuple q k p}) (match a with|.Tuple l k p=>some ⟨l,k,p,rfl⟩|_=>none)
noncomputable def a03(a:Expr):Option (List Expr):=Option.map Subtype.val (α:={q:List Expr // ∃p,a=.List q p}) (match a with|.List l p=>some ⟨l,p,rfl⟩|_=>none)
noncomputable def a04(a:Expr):Option (List (Option Expr)×List Expr):=Option.map Subtype.val (α:={q:List (Option Expr)×List Expr // ∃p,a=.Dict q.1 q.2 p}) (match a with|.Dict k v p=>some ⟨(k,v),p,rfl⟩|_=>none)
noncomputable def aph(a:Expr):Option (Expr×Expr):=Option.map Subtype.val (α:={q:Expr×Expr // ∃p,a=.Subscript q.1 q.2 p}) (match a with|.Subscript l r p=>some ⟨(l,r),p,rfl⟩|_=>none)
noncomputable def dSl(a:Expr):Option (Option Expr×Option Expr×Option Expr):=Option.map Subtype.val (α:={q:Option Expr×Option Expr×Option Expr // ∃p,a=.Slice q.1 q.2.1 q.2.2 p}) (match a with|.Slice l r s p=>some ⟨(l,r,s),p,rfl⟩|_=>none)
noncomputable def api(a:Expr):Option (Expr×List Expr×List Keyword×Pos):=Option.map Subtype.val (α:={q:Expr×List Expr×List Keyword×Pos // a=.Call q.1 q.2.1 q.2.2.1 q.2.2.2}) (match a with|.Call f l k p=>some ⟨(f,l,k,p),rfl⟩|_=>none)
noncomputable def apj(a:Expr):Option (Expr×Str×Pos):=Option.map Subtype.val (α:={q:Expr×Str×Pos // a=.Attribute q.1 q.2.1 q.2.2}) (match a with|.Attribute l n p=>some ⟨(l,n,p),rfl⟩|_=>none)
noncomputable def ad1(a:Expr):Option (Expr×List Comprehension×Scope):=Option.map Subtype.val (α:={q:Expr×List Comprehension×Scope // ∃p,a=.ListComp q.1 q.2.1 q.2.2 p}) (match a with|.ListComp e g s p=>some ⟨(e,g,s),p,rfl⟩|_=>none)
def Ko(h:Uu a=some n):∃p,a=.Name n p:=(Xj h :)
def Vf(h:apg a=some n):∃k p,a=.Constant n k p:=(Xj h :)
def au8(h:a8p a=some (l,o,r)):∃p,a=.BinOp l o r p:=(Xj h :)
def apk(h:dUn a=some (o,l)):∃p,a=.UnaryOp o l p:=(Xj h :)
def aba(h:au7 a=some (l,o,r)):∃p,a=.Compare l o r p:=(Xj h :)
def apl(h:aw7 a=some (o,r,p)):a=.BoolOp o r p:=(Xj h :)
def au9(h:a02 a=some (t,l,r)):∃p,a=.IfExp t l r p:=(Xj h :)
def Rx(h:ad0 a=some l):∃k p,a=.Tuple l k p:=(Xj h :)
def ah7(h:a03 a=some l):∃p,a=.List l p:=(Xj h :)
def ah8(h:a04 a=some (k,l)):∃p,a=.Dict k l p:=(Xj h :)
def abb(h:aph a=some (l,r)):∃p,a=.Subscript l r p:=(Xj h :)
def a05(h:dSl a=some (l,r,s)):∃p,a=.Slice l r s p:=(Xj h :)
def ad2(h:api a=some (f,l,k,p)):a=.Call f l k p:=(Xj h :)
def abd(h:apj a=some (l,n,p)):a=.Attribute l n p:=(Xj h :)
def W5(h:ad1 a=some (e,g,s)):∃p,a=.ListComp e g s p:=(Xj h :)
noncomputable def dCN(a:Expr):Option (Str×List Expr):=(api a).bind λq=>if q.2.2.1.isEmpty then(Uu q.1).map λn=>(n,q.2.1) else none
set_option tactic.hygienic true in
def Il(h:dCN a=some (n,l)):∃p p',a=.Call (.Name n p) l [] p':=by
 obtain⟨⟨f,l',k,p⟩,h1,h2⟩:=dq.mp h;split at h2
 . rename_i hk
   obtain⟨n',h3,h4⟩:=cu.mp h2;obtain⟨p',e⟩:=Ko h3;have e:f=_:=e;have hk:k=[]:=qu.mp hk;cases h4;exact⟨p',p,by rw[ad2 h1,e,hk]⟩
 . cases h2
noncomputable def dCA(a:Expr):Option (Expr×Str×Pos×List Expr×Pos):=(api a).bind λq=>if q.2.2.1.isEmpty then(apj q.1).map λn=>(n.1,n.2.1,n.2.2,q.2.1,q.2.2.2) else none
set_option tactic.hygienic true in
def apm(h:dCA a=some (o,n,ap,l,p)):a=.Call (.Attribute o n ap) l [] p:=by
 obtain⟨⟨f,l',k,p'⟩,h1,h2⟩:=dq.mp h;split at h2
 . rename_i hk
   obtain⟨⟨o',n',ap'⟩,h3,h4⟩:=cu.mp h2;have e:f=_:=abd h3;have hk:k=[]:=qu.mp hk;cases h4;rw[ad2 h1,e,hk]
 . cases h2
noncomputable def a8q(l:Ya):List Str:=l.filterMap Uu
noncomputable def Eu(e:Expr):List Str:=match ad0 e with|some l=>a8q l|none=>a8q [e]
noncomputable def hid(i:Nat):Str:=⟨#[0,i]⟩
noncomputable def akl(ts:Yf)(p:Str×Nat):Str:=if ts.contains p.1=true then hid p.2 else p.1
noncomputable def U5(N ts:Yf):List Str:=N.zipIdx.map (akl ts)++ts
noncomputable def ava(c:Ctx)(names:X0):List (Str×NameKind):=names.map λy=>if(y.2==NameKind.free&&c.sc.lookup y.1==some .cell) then(y.1,NameKind.cell) else(y.1,y.2)
noncomputable def ad3(c:Ctx)(sc:Scope)(ts:Yf):Ctx:=⟨U5 c.N ts,ava c sc.names,false,(sc.names.filter λy=>y.2==NameKind.cell).map (·.1)⟩
noncomputable def a06(c:Ctx)(sc:Scope)(ts:Yf):Bool :=
 decide (sc.kind=.function)&&(sc.names.all (λy=>sc.names.lookup y.1==some y.2) &&
 (sc.names.all (λy=>!(y.2==NameKind.free)||(c.sc.lookup y.1==some .cell||c.sc.lookup y.1==some .free))&&(decide ((U5 c.N ts).Nodup) &&
 c.N.zipIdx.all (λp=>!(akk (ad3 c sc ts) (akl ts p))||(akl ts p==p.1&&sc.names.lookup (akl ts p)==some .free)))))
noncomputable def a8r:Op2->Operator
 |.add=>.Add|.al4=>.Add|.sub=>.Sub|.mul=>.Mult|.fdiv=>.FloorDiv|.mod=>.Mod|.pow=>.Pow
noncomputable def avb:Cp->Option CmpOp
 |.eq=>some .Eq|.ne=>some .NotEq|.lt=>some .Lt|.le=>some .LtE|.gt=>some .Gt|.ge=>some .GtE|.inn=>some .In|.T6=>some .NotIn
 |.Yg=>some .IsNot|.is=>none
noncomputable def a07:Blt->Option Str
 |.len=>some "len"|.tuple=>some "tuple"|.dict=>some "dict"|.max=>some "max"|.min=>some "min"
 |.all=>some "all"|_=>none
noncomputable def bmN:Bm->Option Str
 |.append=>some "append"|.index=>some "index"|.get=>some "get"
noncomputable def a08(T:Tab)(c:Ctx)(d:MW.D)(a:Expr):Bool :=
 match d with
 |.int i=>Dd (apg a) (λk=>decide (k=.int i))||Dd (Uu a) λn=>Ve c n&&T.au6.contains (n,i)
 |.bl i=>Dd (apg a) λk=>decide (k=.bool i)
 |.non=>Dd (apg a) λk=>decide (k=.none)
 |.str s=>Dd (apg a) λk=>decide (k=.str s)
 |_=>false
noncomputable def tg1(c:Ctx)(lo i:Nat)(e:Expr):Bool:=Dd (Uu e) λn=>ah5 c i n&&(a0z c n&&decide (lo<=i))
noncomputable def akm(c:Ctx)(lo:Nat):List Nat->List Expr->Bool
 |[],[]=>true|i::is,e::ts=>tg1 c lo i e&&akm c lo is ts|_,_=>false
noncomputable def tgB(c:Ctx)(lo:Nat)(t:Tg)(e:Expr):Bool :=
 match t with
 |.name i=>tg1 c lo i e|.names is=>Dd (ad0 e) λts=>akm c lo is ts
noncomputable def Ry(e:Expr):Bool:=(a02 e).isNone
noncomputable def fnB(l:List (Option (Str×Nat)))(f:Nat)(n:Str)(k:Nat):Bool:=decide (l[f]?=some (some (n,k)))
noncomputable def mtB(l:List (Str×Nat))(f:Nat)(n:Str)(k:Nat):Bool:=decide (l[f]?=some (n,k))
noncomputable def flB(l:Yf)(f:Nat)(n:Str):Bool:=decide (l[f]?=some n)
noncomputable def aia(c:Ctx)(k:Nat)(t:Tg)(g:Comprehension)(sc:Scope):Bool :=
 a06 c sc (Eu g.target)&&((k==(Eu g.target).length)&&(tgB (ad3 c sc (Eu g.target)) c.N.length t g.target&&(Ha g.iter&&decide (g.is_async=0))))
noncomputable def apn(o:BoolOp)(a:Expr)(x y:Expr->Bool):Bool :=
 Dd (aw7 a) λq=>decide (q.1=o)&&(match q.2.1 with
  |l::r::rest=>(Ry l&&x l)&&(match rest with|[]=>Ry r&&y r|_::_=>y (.BoolOp o (r::rest) q.2.2))
  | _=>false)
noncomputable def a8s(c:Ctx)(ty:Str)(a:Expr)(f:Expr->Bool):Bool:=Dd (dCN a) λq=>match q.2 with
 |[l,t]=>Dd (Uu t) λtn=>(decide (q.1 = "isinstance")&&decide (tn=ty))&&((Ve c q.1&&Ve c tn)&&(noStar l&&f l))
 |_=>false
def avc(h:a8s c ty a f=true):∃l p p1 p2,a=.Call (.Name "isinstance" p) [l,.Name ty p1] [] p2/\Ve c "isinstance" = true/\Ve c ty=true/\noStar l=true/\f l=true:=by
 obtain⟨⟨n,ls⟩,h1,h0⟩:=jx h;clear h;obtain⟨p,p',rfl⟩:=Il h1
 match ls,h1,h0 with
 |[l,t],h1,h =>
  replace h:=jx (f:=λtn=>(decide (n = "isinstance")&&decide (tn=ty))&&((Ve c n&&Ve c tn)&&(noStar l&&f l))) h;obtain⟨tn,h2,h⟩:=h;obtain⟨p2,rfl⟩:=Ko h2;simp only[aq,dj] at h;obtain⟨⟨rfl,rfl⟩,⟨h3,h4⟩,h5,h6⟩:=h;exact⟨l,p,p2,p',rfl,h3,h4,h5,h6⟩
 |[],_,h=>cases h|[_],_,h=>cases h|_::_::_::_,_,h=>cases h
noncomputable def apo(c:Ctx)(ty tn:Str)(a:Expr)(f:Expr->Bool):Bool:=Dd (dCN a) λq=>Dd (Qx q.2) λr=>Dd (dCN r) λu=>Dd (Qx u.2) λl=>((decide (q.1=ty)&&decide (u.1=tn))&&(Ve c q.1&&Ve c u.1))&&(noStar l&&f l)
def abe(h:apo c ty tn a f=true):∃l p p1 p2 p3,a=.Call (.Name ty p) [.Call (.Name tn p1) [l] [] p2] [] p3/\Ve c ty=true/\Ve c tn=true/\noStar l=true/\f l=true:=by replace h:=jx h;obtain⟨⟨n,ls⟩,h1,h⟩:=h;obtain⟨p,p',rfl⟩:=Il h1;replace h:=jx h;obtain⟨r,h2,h⟩:=h;cases Br h2;replace h:=jx h;obtain⟨⟨m,ms⟩,h3,h⟩:=h;obtain⟨p2,q2,rfl⟩:=Il h3;replace h:=jx h;obtain⟨l,h4,h⟩:=h;cases Br h4;simp only[aq,dj] at h;obtain⟨⟨⟨rfl,rfl⟩,h5,h6⟩,h7,h8⟩:=h;exact⟨l,p,p2,q2,p',rfl,h5,h6,h7,h8⟩
mutual
noncomputable def zf(T:Tab):Ex->Ctx->Expr->Bool
 |.var i,c,a=>Dd (Uu a) λn=>ah5 c i n&&(akk c n&&W0 n)
 |.cst d,c,a=>a08 T c d a|.bin op x y,c,a=>Dd (a8p a) λq=>decide (q.2.1=a8r op)&&(zf T x c q.1&&zf T y c q.2.2)
 |.neg x,c,a=>Dd (dUn a) λq=>decide (q.1=.USub)&&zf T x c q.2
 |.cmp op x y,c,a=>Dd (au7 a) λq=>Dd (Qx q.2.1) λo=>Dd (Qx q.2.2) λr=>decide (avb op=some o)&&(Ha r&&(zf T x c q.1&&zf T y c r))
 |.chain o1 o2 x y z,c,a=>Dd (au7 a) λq=>match q.2.1,q.2.2 with
  |[p1,p2],[r,s]=>(decide (avb o1=some p1)&&decide (avb o2=some p2))&&(Ha s&&(zf T x c q.1&&(zf T y c r&&zf T z c s)))|_,_=>false
 |.and x y,c,a=>apn .And a (zf T x c) (zf T y c)|.or x y,c,a=>apn .Or a (zf T x c) (zf T y c)|.not x,c,a=>Dd (dUn a) λq=>decide (q.1=.Not)&&(Ry q.2&&zf T x c q.2)
 |.ite t x y,c,a=>Dd (a02 a) λq=>Ry q.1&&(zf T t c q.1&&(zf T x c q.2.1&&zf T y c q.2.2))
 |.tup es,c,a=>Dd (ad0 a) λl=>decide (Dl.len es<=1000)&&Jk T es c l
 |.lst es,c,a=>Dd (a03 a) λl=>decide (Dl.len es<=1000)&&Jk T es c l
 |.Hd es,c,a=>Dd (a03 a) λl=>decide (Dl.len es<=1000)&&Jk T es c l
 |.ajb,_,a=>Dd (a04 a) λq=>q.1.isEmpty&&q.2.isEmpty
 |.aez,_,a=>Dd (a04 a) λq=>q.1.isEmpty&&q.2.isEmpty
 |.ix x y,c,a=>Dd (aph a) λq=>aa0 q.2&&(zf T x c q.1&&zf T y c q.2)
 |.cut x lo hi,c,a=>Dd (aph a) λq=>Dd (dSl q.2) λs=>s.2.2.isNone&&(zf T x c q.1&&(a09 T lo c s.1&&a09 T hi c s.2.1))
 |.call f es,c,a=>Dd (dCN a) λq=>(fnB T.fns f q.1 (Dl.len es)&&(Ve c q.1&&!q.2.isEmpty))&&Jk T es c q.2
 |.make f es,c,a=>Dd (dCN a) λq=>(fnB T.cls f q.1 (Dl.len es)&&(Ve c q.1&&!q.2.isEmpty))&&Jk T es c q.2
 |.meth o m es,c,a=>Dd (dCA a) λq=>((mtB T.mts m q.2.1 (Dl.len es)&&W2 q.1)&&(decide (q.2.2.2.1.length<29)&&(q.2.2.1.endLine==q.2.2.2.2.line)))&&(zf T o c q.1&&Jk T es c q.2.2.2.1)
 |.fld o f,c,a=>Dd (apj a) λq=>(flB T.Qw f q.2.1&&W2 q.1)&&zf T o c q.1
 |.blt .Gh (.cons x .nil),c,a=>apo c "sorted" "set" a (zf T x c)|.blt .isBool (.cons x .nil),c,a=>a8s c "bool" a (zf T x c)|.blt b es,c,a=>Dd (dCN a) λq=>(decide (a07 b=some q.1)&&(Ve c q.1&&!q.2.isEmpty))&&Jk T es c q.2
 |.bm m o es,c,a=>Dd (dCA a) λq=>((decide (bmN m=some q.2.1)&&W2 q.1)&&(decide (q.2.2.2.1.length<29)&&((q.2.2.1.endLine==q.2.2.2.2.line)&&!q.2.2.2.1.isEmpty)))&&(zf T o c q.1&&Jk T es c q.2.2.2.1)
 |.comp v k t it e,c,a=>Dd (ad1 a) λq=>Dd (Qx q.2.1) λg=>(aia c k t g q.2.2&&g.ifs.isEmpty)&&(avd T it c g.target g.iter&&zf T e (ad3 c q.2.2 (Eu g.target)) q.1)
 |.Cr v k t it i e,c,a=>Dd (ad1 a) λq=>Dd (Qx q.2.1) λg=>Dd (Qx g.ifs) λd=>(aia c k t g q.2.2&&Ry d)&&(avd T it c g.target g.iter&&(zf T i (ad3 c q.2.2 (Eu g.target)) d&&zf T e (ad3 c q.2.2 (Eu g.target)) q.1))
 |.Vs x y,c,a=>Dd (au7 a) λq=>Dd (Qx q.2.1) λo=>Dd (Qx q.2.2) λr=>Dd (dCN q.1) λu=>Dd (dCN r) λv=>Dd (Qx u.2) λl=>Dd (Qx v.2) λm =>
  ((decide (o=.NotEq)&&decide (u.1 = "set"))&&(decide (v.1 = "set")&&Ve c u.1))&&((noStar l&&noStar m)&&(zf T x c l&&zf T y c m))
 |.ae0 x,c,a=>apo c "tuple" "range" a (zf T x c)|.ae1 x,c,a=>apo c "list" "range" a (zf T x c)
noncomputable def Jk(T:Tab):Dl->Ctx->List Expr->Bool
 |.nil,_,a=>a.isEmpty|.cons e es,c,a=>match a with|l::ls=>noStar l&&(zf T e c l&&Jk T es c ls)|_=>false
noncomputable def a09(T:Tab):OEx->Ctx->Option Expr->Bool
 |.none,_,a=>a.isNone|.some e,c,a=>Dd a (zf T e c)
noncomputable def avd(T:Tab):Pr->Ctx->Expr->Expr->Bool
 |.val e,c,_,a=>zf T e c a|.keys e,c,_,a=>zf T e c a|.O7 e,c,_,a=>Dd (dCN a) λq=>Dd (Qx q.2) λl=>(decide (q.1 = "range")&&Ve c q.1)&&(noStar l&&zf T e c l)
 |.enm e,c,tg,a=>Dd (dCN a) λq=>Dd (Qx q.2) λl=>((ad0 tg).isSome&&(decide (q.1 = "enumerate")&&Ve c q.1))&&(noStar l&&zf T e c l)
 |.zip x y,c,tg,a=>Dd (dCN a) λq=>match q.2 with
  |[l,r]=>((ad0 tg).isSome&&(decide (q.1 = "zip")&&Ve c q.1))&&((noStar l&&noStar r)&&(zf T x c l&&zf T y c r))|_=>false
end
def Qi(h:Fb T nm W k c X)(sc:Scope):(relabel sc X.env).names=ava c sc.names:=by
 unfold relabel ava;refine j8 λy _=>?_
 obtain⟨n,kd⟩:=y;show(if(kd==NameKind.free&&X.env.scope.kind==.function&&X.env.kindOf n==some .cell)=true then _ else _)=_;have e:(kd==NameKind.free&&X.env.scope.kind==.function&&X.env.kindOf n==some .cell)=(kd==NameKind.free&&c.sc.lookup n==some .cell):=by unfold Env.kindOf;rw[h.kd,h.sc];simp
 rw[e]
def a1a(h:Fb T nm W k c X)(hb:a06 c sc ts=true):Fi X (U5 c.N ts) sc/\∀C fp s H,Fb T nm W k (ad3 c sc ts) (Nf X (U5 c.N ts) sc C fp s H):=by
 simp only[a06,aq,dj,gn] at hb;obtain⟨h1,h3,h4,h5,h6⟩:=hb;have uniq:∀x kd,(x,kd)∈sc.names->sc.names.lookup x=some kd:=λx kd m=>by have:=h3 (x,kd) m;simpa using this
 refine⟨⟨h1,λy m e=>by rw[uniq y.1 y.2 m,e],λy m e=>?_,uniq,?_,λi x hi hx hv=>?_⟩,λC fp s H=>⟨rfl,h5,Qi h sc,h1,h.calm,h.room,(λz=>by cases z),h.tab,λn m=>?_⟩⟩
 . have:=h4 y m
   rw[e] at this;unfold Env.kindOf;rw[h.sc];simpa using this
 . rw[h.N];simp[U5]
 . rw[h.N] at hi
   have hl:i<(c.N.zipIdx.map (akl ts)).length:=by simpa using hi
   unfold U5 at hx;rw[du hl,ie,Ai] at hx;obtain⟨n,hn⟩:∃n,c.N[i]?=some n:=⟨c.N[i],by simp[hi]⟩;rw[hn] at hx;have hx:akl ts (n,i)=x:=by simpa using hx
   have m:(n,i)∈c.N.zipIdx:=by rw[vd];exact⟨i,by rw[Ai,hn];simp⟩
   have q:=h6 (n,i) m;rw[hx] at q;have v:akk (ad3 c sc ts) x=true:=by unfold Vis at hv;rw[Qi h] at hv;unfold akk;show(match(ava c sc.names).lookup x with|some .local=>true|some .cell=>true|some .free=>true|_=>false)=true;rcases hv with e|e|e<;>rw[e]
   rw[v] at q;simp only[ql,Bool.false_or,aq] at q;rw[h.N,hn];have e1:x=n:=eq_of_beq q.1;exact⟨by rw[e1],by have:=q.2;simpa using this⟩
 . obtain⟨y,hy,rfl⟩:=bf.mp (List.contains_iff_mem.mp m)
   obtain⟨h7,h8⟩:=ux.mp hy;show(sc.names.lookup y.1==some .cell)=true;rw[uniq y.1 y.2 h7,eq_of_beq h8];rfl
def a8t(h:o=a8r op):Dh X (binaryOp o) (rOp nm X.K (MW.Dm op)):=by
 subst h;cases op with
 |add=>exact a7i|al4=>exact a0x|sub=>exact a7e|mul=>exact a7f|fdiv=>exact az3|mod=>exact a7g|pow=>exact a7h
def apq(hr:Ah 8 X.A)(h:avb op=some o):Dh X (compareOp o) (Wi nm X.K op):=by
 have h6:Ah 6 X.A:=hr.mono (by decide);cases op with
 |eq=>cases h;exact bd7 h6|ne=>cases h;exact bd8 h6|lt=>cases h;exact bdt|le=>cases h;exact bdu|gt=>cases h;exact bdv|ge=>cases h;exact bdw|inn=>cases h;exact bd9 hr|T6=>cases h;exact aua hr|is=>cases h|Yg=>cases h;exact au5
def af9(h:Fb T nm W k c X)(hb:tg1 c lo i e=true):∃n p,e=.Name n p/\X.N[i]?=some n/\L2.Loc X.env.scope n/\(X.fn n=true\/X.env.scope.names.lookup n=some .local)/\lo<=i:=by obtain⟨n,h1,h2⟩:=jx hb;obtain⟨p,rfl⟩:=Ko h1;simp only[aq,dj] at h2;obtain⟨l1,l2⟩:=a01 h h2.2.1;exact⟨n,p,rfl,slot_of h h2.1,l1,l2,h2.2.2⟩
theorem apr{T:Tab}{nm:Nm}{W:Ir}{k:Nat}{c:Ctx}{X:Cx}(h:Fb T nm W k c X){lo:Nat}:∀{is:Y3}{ts:Ya},akm c lo is ts=true->Ls X ts is/\∀i∈is,lo<=i
 |[],[],_=>⟨.nil,by simp⟩|[],_::_,e=>by cases e|_::_,[],e=>by cases e
 |i::is,a::ts,e=>by
  unfold akm at e;rw[aq] at e;obtain⟨n,p,rfl,e1,e2,e3,e4⟩:=af9 h e.1;obtain⟨g1,g2⟩:=apr h e.2;refine⟨.cons e1 e2 e3 g1,λj hj=>?_⟩;rcases bz.mp hj with z|z
  . rw[z];exact e4
  . exact g2 j z
def aib(h:Fb T nm W k c X)(hb:tgB c lo t e=true):PG X e (tGt nm X.K t)/\∀i∈Bt t,lo<=i:=by
 have nd:X.N.Nodup:=by rw[h.N];exact h.nd
 cases t with
 |name i =>
  obtain⟨n,p,rfl,e1,e2,e3,e4⟩:=af9 h hb;exact⟨az8 nd e1 e2 e3,λi hi=>by rw[uf.mp hi];exact e4⟩
 |names is =>
  obtain⟨ts,h1,h2⟩:=jx hb;obtain⟨k0,p,rfl⟩:=Rx h1;obtain⟨g1,g2⟩:=apr h h2;exact⟨at6 h.calm nd g1,g2⟩
structure Got(nm:Nm)(W:Ir)(X:Cx)(a:Expr)(e:Ex):Prop where
 v:PE X a (tE nm W X.K e)
 q:Ry a=true->PT X a (tQ nm W X.K e)
 w:∀op ls p,a=.BoolOp op ls p->PW X a (tQ nm W X.K e)
noncomputable def a8u:Expr->Bool
 |.BoolOp ..=>false|.UnaryOp .Not _ _=>false|.IfExp ..=>false|.Compare ..=>false|_=>true
set_option tactic.hygienic true in
def xg(h:PE X a (tE nm W X.K e))(hv:a8u a=true):Got nm W X a e:=by
 refine⟨h,λhq=>a7j h λwhole=>?_,λop ls p z=>by subst z;cases hv⟩;cases a<;>first|rfl|(cases hv)|skip
 rename_i op x p;cases op<;>first|rfl|cases hv
def a1b(h:Fb T nm W k c X)(hb:a08 T c d a=true):PE X a (tE nm W X.K (.cst d))/\a8u a=true:=by
 cases d with
 |int i =>
  simp only[a08,Bool.or_eq_true] at hb;rcases hb with hb|hb
  . obtain⟨k,h1,h2⟩:=jx hb
    obtain⟨j,p,rfl⟩:=Vf h1;rw[mz h2];exact⟨a7a,rfl⟩
  . obtain⟨n,h1,h2⟩:=jx hb
    obtain⟨p,rfl⟩:=Ko h1;rw[aq] at h2;obtain⟨g1,g2⟩:=Hc h h2.1;obtain⟨t,ht⟩:=h.tab.cs _ _ (List.contains_iff_mem.mp h2.2);exact⟨az2 g1 ht (uc g2).1,rfl⟩
 |bl i =>
  obtain⟨k,h1,h2⟩:=jx hb;obtain⟨j,p,rfl⟩:=Vf h1;rw[mz h2];exact⟨bdr,rfl⟩
 |non =>
  obtain⟨k,h1,h2⟩:=jx hb;obtain⟨j,p,rfl⟩:=Vf h1;rw[mz h2];exact⟨a7b,rfl⟩
 |str s =>
  obtain⟨k,h1,h2⟩:=jx hb;obtain⟨j,p,rfl⟩:=Vf h1;rw[mz h2];exact⟨a7c,rfl⟩
 |_=>cases hb
section
variable{T:Tab}{nm:Nm}{W:Ir}{k:Nat}
def Fb.r8(h:Fb T nm W k c X):Ah 8 X.A:=h.room.mono (by lia)
theorem Fb.mg(h:Fb T nm W k c X)(m:n∈Ou):X.mg n=none:=h.tab.bt n m
def akn(h:Jk T es c []=true):es=.nil:=by
 cases es with
 |nil=>rfl|cons e es=>simp[Jk] at h
theorem Uv{c:Ctx}{lo:Nat}:∀{is:Y3}{ts:Ya},akm c lo is ts=true->∀i∈is,lo<=i
 |[],_,_=>by simp|_::_,[],e=>by cases e
 |i::is,a::ts,e=>by
  unfold akm at e;rw[aq] at e;intro j hj;rcases bz.mp hj with z|z
  . obtain⟨n,h1,h2⟩:=jx e.1
    simp only[aq,dj] at h2;rw[z];exact h2.2.2
  . exact Uv e.2 j z
def aga(h:tgB c lo t e=true):∀i∈Bt t,lo<=i:=by
 cases t with
 |name j =>
  obtain⟨n,h1,h2⟩:=jx h;simp only[aq,dj] at h2;intro i hi;rw[uf.mp hi];exact h2.2.2
 |names is =>
  obtain⟨ts,h1,h2⟩:=jx h;exact Uv h2
def aps:(U5 N ts).length-N.length=ts.length:=by simp[U5]
def Rz(hc:Fb T nm W k c X)(h:aia c j t g sc=true) :
 Ha g.iter=true/\g.is_async=0/\Fi X (U5 c.N (Eu g.target)) sc/\(∀C fp s H,Fb T nm W k (ad3 c sc (Eu g.target)) (Nf X (U5 c.N (Eu g.target)) sc C fp s H)) /\
 (∀C fp s H,PG (Nf X (U5 c.N (Eu g.target)) sc C fp s H) g.target (tGt nm X.K t))/\(U5 c.N (Eu g.target)).length-X.N.length=j/\∀i∈Bt t,X.N.length<=i:=by
 simp only[aia,aq,dj] at h;obtain⟨h2,h3,h4,h5,h6⟩:=h;obtain⟨B,hB⟩:=a1a hc h2;exact⟨h5,h6,B,hB,λC fp s H=>(aib (hB C fp s H) h4).1,by rw[hc.N,aps];exact(eq_of_beq h3).symm,λi hi=>by rw[hc.N];exact aga h4 i hi⟩
def aic(h:apn o a x y=true):(∃l r p,a=.BoolOp o [l,r] p/\Ry l=true/\x l=true/\Ry r=true/\y r=true) \/
 ∃l r s rest p,a=.BoolOp o (l::r::s::rest) p/\Ry l=true/\x l=true/\y (.BoolOp o (r::s::rest) p)=true:=by
 obtain⟨⟨o',ls,p⟩,h1,h2⟩:=jx h;cases apl h1;rw[aq] at h2;obtain⟨h3,h2⟩:=h2;cases mz h3;cases ls with
 |nil=>cases h2
 |cons l ls=>cases ls with
  |nil=>cases h2
  |cons r rest =>
   cases rest with
   |nil =>
    have h2:((Ry l&&x l)&&(Ry r&&y r))=true:=h2;simp only[aq] at h2;exact .inl ⟨l,r,p,rfl,h2.1.1,h2.1.2,h2.2.1,h2.2.2⟩
   |cons s rest =>
    have h2:((Ry l&&x l)&&y (.BoolOp o' (r::s::rest) p))=true:=h2;simp only[aq] at h2;exact .inr ⟨l,r,s,rest,p,rfl,h2.1.1,h2.1.2,h2.2⟩
def a1c(hc:Fb T nm W k c X)(hb:a07 b=some n)(hg:Ve c n=true)(e1:PA X (l::ls) (Xh nm W X.K es))(e2:Aa (l::ls)=true):PE X (.Call (.Name n p) (l::ls) [] p') (tE nm W X.K (.blt b es)):=by
 obtain⟨g1,g2⟩:=Hc hc hg;obtain⟨d1,d2,d3⟩:=uc g2;simp only[Aa,aq] at e2;have st:=lg e2.1 ls X.env;have an:=v9 (env:=X.env) (pos:=p') e2.2;have mg:n∈Ou->X.mg n=none:=hc.mg;cases b with
 |len=>cases hb;exact aht (id := "len") a75 g1 (mg (by decide+kernel)) (by decide+kernel) e1 d3 d1 st an|max=>cases hb;exact aht (id := "max") (a8c hc.calm) g1 (mg (by decide+kernel)) (by decide+kernel) e1 d3 d1 st an|all=>cases hb;exact aht (id := "all") (a8n hc.calm) g1 (mg (by decide+kernel)) (by decide+kernel) e1 d3 d1 st an|min=>cases hb;exact aht (id := "min") (a8e hc.calm) g1 (mg (by decide+kernel)) (by decide+kernel) e1 d3 d1 st an|tuple=>cases hb;exact aow (T := "tuple") at9 g1 (mg (by decide+kernel)) (by decide+kernel) e1 d3 d1 st an|dict=>cases hb;exact aow (T := "dict") a0r g1 (mg (by decide+kernel)) (by decide+kernel) e1 d3 d1 st an|_=>cases hb
def abf{α:Type}{l:List α}(h:(!l.isEmpty)=true):∃x r,l=x::r:=by
 cases l with
 |nil=>cases h|cons x r=>exact⟨x,r,rfl⟩
set_option maxHeartbeats 2000000 in
set_option tactic.hygienic true in
mutual
theorem jr:∀(e:Ex){c:Ctx}{X:Cx}{a:Expr},Fb T nm W k c X->zf T e c a=true->Got nm W X a e
 |.var i,c,X,a,hc,h=>by
  replace h:=jx h;obtain⟨n,h1,h⟩:=h;obtain⟨p,rfl⟩:=Ko h1;simp only[aq] at h;exact xg (a69 (slot_of hc h.1) (a00 hc h.2.1) (uc h.2.2).1 (uc h.2.2).2.1) rfl
 |.cst d,c,X,a,hc,h=>by
  obtain⟨h1,h2⟩:=a1b hc h;exact xg h1 h2
 |.bin op x y,c,X,a,hc,h=>by
  replace h:=jx h;obtain⟨⟨l,o,r⟩,h1,h⟩:=h;obtain⟨p,rfl⟩:=au8 h1;simp only[aq,dj] at h;exact xg (a7d (a8t h.1) (jr x hc h.2.1).v (jr y hc h.2.2).v) rfl
 |.neg x,c,X,a,hc,h=>by
  replace h:=jx h;obtain⟨⟨o,l⟩,h1,h⟩:=h;obtain⟨p,rfl⟩:=apk h1;simp only[aq,dj] at h;obtain⟨rfl,h⟩:=h;exact xg (a7t (jr x hc h).v) rfl
 |.cmp op x y,c,X,a,hc,h=>by
  replace h:=jx h;obtain⟨⟨l,o,r⟩,h1,h⟩:=h;obtain⟨p,rfl⟩:=aba h1;replace h:=jx h;obtain⟨o1,h2,h⟩:=h;replace h:=jx h;obtain⟨r1,h3,h⟩:=h;cases Br h2;cases Br h3;simp only[aq,dj] at h;have g:=apq (nm:=nm) hc.r8 h.1;have m:=Ur h.2.1 o1;exact⟨a7k g (jr x hc h.2.2.1).v (jr y hc h.2.2.2).v m,λ_=>a7l g (jr x hc h.2.2.1).v (jr y hc h.2.2.2).v m,λ_ _ _ z=>by cases z⟩
 |.chain o1 o2 x y z,c,X,a,hc,h=>by
  replace h:=jx h;obtain⟨⟨l,o,r⟩,h1,h⟩:=h;obtain⟨p,rfl⟩:=aba h1;dsimp only at h;split at h
  . rename_i p1 p2 r s
    simp only[aq,dj] at h;have g1:=apq (nm:=nm) hc.r8 h.1.1;have g2:=apq (nm:=nm) hc.r8 h.1.2;have m:lastMarks [p1,p2] [r,s]=false:=Ur h.2.1 p2;exact⟨at4 g1 g2 (jr x hc h.2.2.1).v (jr y hc h.2.2.2.1).v (jr z hc h.2.2.2.2).v m,λ_=>at5 g1 g2 (jr x hc h.2.2.1).v (jr y hc h.2.2.2.1).v (jr z hc h.2.2.2.2).v m,λ_ _ _ z=>by cases z⟩
  . cases h
 |.and x y,c,X,a,hc,h=>by
  rcases aic h with⟨l,r,p,rfl,h1,h2,h3,h4⟩|⟨l,r,s,rest,p,rfl,h1,h2,h3⟩
  . have g1:=jr x hc h2
    have g2:=jr y hc h4;have w:=awy (pos:=p) (rest:=[]) (g1.q h1) (as5 (g2.q h3));exact⟨awx g1.v (aw5 g2.v),λ_=>w.pt,λ_ _ _ _=>w⟩
  . have g1:=jr x hc h2
    have g2:=jr y hc h3;have w:=awy (g1.q h1) (g2.w _ _ _ rfl);exact⟨awx g1.v g2.v,λ_=>w.pt,λ_ _ _ _=>w⟩
 |.or x y,c,X,a,hc,h=>by
  rcases aic h with⟨l,r,p,rfl,h1,h2,h3,h4⟩|⟨l,r,s,rest,p,rfl,h1,h2,h3⟩
  . have g1:=jr x hc h2
    have g2:=jr y hc h4;have w:=a7o (pos:=p) (rest:=[]) (g1.q h1) (ayx (g2.q h3));exact⟨a7m g1.v (aw5 g2.v),λ_=>w.pt,λ_ _ _ _=>w⟩
  . have g1:=jr x hc h2
    have g2:=jr y hc h3;have w:=a7o (g1.q h1) (g2.w _ _ _ rfl);exact⟨a7m g1.v g2.v,λ_=>w.pt,λ_ _ _ _=>w⟩
 |.not x,c,X,a,hc,h=>by
  replace h:=jx h;obtain⟨⟨o,l⟩,h1,h⟩:=h;obtain⟨p,rfl⟩:=apk h1;simp only[aq,dj] at h;obtain⟨rfl,h⟩:=h;have g:=jr x hc h.2;exact⟨a7n g.v,λ_=>a7p (g.q h.1),λ_ _ _ z=>by cases z⟩
 |.ite t x y,c,X,a,hc,h=>by
  replace h:=jx h;obtain⟨⟨t',l,r⟩,h1,h⟩:=h;obtain⟨p,rfl⟩:=au9 h1;simp only[aq] at h;exact⟨a7q ((jr t hc h.2.1).q h.1) (jr x hc h.2.2.1).v (jr y hc h.2.2.2).v,(λz=>by cases z),λ_ _ _ z=>by cases z⟩
 |.tup es,c,X,a,hc,h=>by
  replace h:=jx h;obtain⟨l,h1,h⟩:=h;obtain⟨k0,p,rfl⟩:=Rx h1;simp only[aq,dj] at h;exact xg (a7r (Ew es hc h.2).1 h.1) rfl
 |.lst es,c,X,a,hc,h=>by
  replace h:=jx h;obtain⟨l,h1,h⟩:=h;obtain⟨p,rfl⟩:=ah7 h1;simp only[aq,dj] at h;exact xg (a7s (Ew es hc h.2).1 h.1) rfl
 |.Hd es,c,X,a,hc,h=>by
  replace h:=jx h;obtain⟨l,h1,h⟩:=h;obtain⟨p,rfl⟩:=ah7 h1;simp only[aq,dj] at h;exact xg (az6 (Ew es hc h.2).1 h.1) rfl
 |.ajb,c,X,a,hc,h=>by
  replace h:=jx h;obtain⟨⟨q,l⟩,h1,h⟩:=h;obtain⟨p,rfl⟩:=ah8 h1;simp only[aq,qu] at h;obtain⟨rfl,rfl⟩:=h;exact xg a0j rfl
 |.aez,c,X,a,hc,h=>by
  replace h:=jx h;obtain⟨⟨q,l⟩,h1,h⟩:=h;obtain⟨p,rfl⟩:=ah8 h1;simp only[aq,qu] at h;obtain⟨rfl,rfl⟩:=h;exact xg a0k rfl
 |.ix x y,c,X,a,hc,h=>by
  replace h:=jx h;obtain⟨⟨l,r⟩,h1,h⟩:=h;obtain⟨p,rfl⟩:=abb h1;simp only[aq] at h;exact xg (bdz (acx hc.room) (jr x hc h.2.1).v (jr y hc h.2.2).v (aon h.1)) rfl
 |.cut x lo hi,c,X,a,hc,h=>by
  replace h:=jx h;obtain⟨⟨l,r⟩,h1,h⟩:=h;obtain⟨p,rfl⟩:=abb h1;replace h:=jx h;obtain⟨⟨u,v,st⟩,h2,h⟩:=h;obtain⟨p2,e⟩:=a05 h2;have e:r=_:=e;subst e;simp only[aq,Option.isNone_iff_eq_none] at h;obtain⟨rfl,h⟩:=h;exact xg (a8d (jr x hc h.1).v (aid lo hc h.2.1) (aid hi hc h.2.2)) rfl
 |.call f es,c,X,a,hc,h=>by
  replace h:=jx h;obtain⟨⟨n,ls⟩,h1,h⟩:=h;obtain⟨p,p',rfl⟩:=Il h1;simp only[aq] at h;obtain⟨⟨h2,h3,h4⟩,h5⟩:=h;obtain⟨l,ls,rfl⟩:=abf h4;obtain⟨fa,fd,ps,F,m,kp,b⟩:=hc.tab.fn _ _ _ (mz h2);obtain⟨g1,g2⟩:=Hc hc h3;obtain⟨e1,e2⟩:=Ew es hc h5;simp only[Aa,aq] at e2;exact xg (s_call F (hc.room.mono x_) g1 m kp b rfl e1 (uc g2).1 (lg e2.1 _ _) (v9 e2.2)) rfl
 |.make f es,c,X,a,hc,h=>by
  replace h:=jx h;obtain⟨⟨n,ls⟩,h1,h⟩:=h;obtain⟨p,p',rfl⟩:=Il h1;simp only[aq] at h;obtain⟨⟨h2,h3,h4⟩,h5⟩:=h;obtain⟨l,ls,rfl⟩:=abf h4;obtain⟨C,fa,fd,ps,cl,M0,F,m,b,d1,d2⟩:=hc.tab.cl _ _ _ (mz h2);obtain⟨g1,g2⟩:=Hc hc h3;obtain⟨e1,e2⟩:=Ew es hc h5;simp only[Aa,aq] at e2;exact xg (a0g M0 F (hc.room.mono (w_ (by decide))) g1 m b d1 rfl d2 rfl e1 (uc g2).1 (lg e2.1 _ _) (v9 e2.2)) rfl
 |.meth o m es,c,X,a,hc,h=>by
  replace h:=jx h;obtain⟨⟨lo,n,ap,ls,p⟩,h0,h⟩:=h;cases apm h0;simp only[aq,dj] at h;obtain⟨⟨⟨h1,h2⟩,h3,h4⟩,h5,h6⟩:=h;obtain⟨C,fa,fd,ps,f,C0,Me,F,b,u,nf⟩:=hc.tab.mt _ _ _ (mz h1);obtain⟨e1,e2⟩:=Ew es hc h6;have g:=jr o hc h5;cases ls with
  |nil =>
   have z:=akn h6;subst z;exact xg (auz (ci:=0) (cl:=⟨0,[]⟩) g.v C0 Me F (hc.room.mono x_) b u nf (ah6 h2 rfl h3 h4)) rfl
  |cons l ls =>
   have e3:=e2;simp only[Aa,aq] at e3;exact xg (a0h (ci:=0) (cl:=⟨0,[]⟩) g.v C0 Me F (hc.room.mono x_) b u nf rfl e1 (lg e3.1 _ _) (v9 e3.2) (ah6 h2 e2 h3 h4)) rfl
 |.fld o f,c,X,a,hc,h=>by
  replace h:=jx h;obtain⟨⟨l,n,p⟩,h1,h⟩:=h;cases abd h1;simp only[aq] at h;obtain⟨t1,t2⟩:=hc.tab.fl _ _ (mz h.1.1);exact xg (a7u t1 t2 (jr o hc h.2).v (Jg h.1.2)) rfl
 |.blt b es,c,X,a,hc,h=>by
  have gen:(Dd (dCN a) λq=>(decide (a07 b=some q.1)&&(Ve c q.1&&!q.2.isEmpty))&&Jk T es c q.2)=true->Got nm W X a (.blt b es):=λhh=>by clear h;replace hh:=jx hh;obtain⟨⟨n,ls⟩,h1,h⟩:=hh;obtain⟨p,p',rfl⟩:=Il h1;simp only[aq] at h;obtain⟨⟨h2,h3,h4⟩,h5⟩:=h;obtain⟨l,ls,rfl⟩:=abf h4;obtain⟨e1,e2⟩:=Ew es hc h5;exact xg (a1c hc (mz h2) h3 e1 e2) rfl
  match b,es,h,gen with
  |.isBool,.cons x .nil,h,_ =>
   obtain⟨l,p,p1,p2,rfl,h3,h4,h5,h6⟩:=avc h;obtain⟨g1,g2⟩:=Hc hc h3;obtain⟨g3,g4⟩:=Hc hc h4;exact xg (ao7 g1 (hc.mg (by decide+kernel)) (by decide+kernel) (uc g2).2.2 (uc g2).1 g3 (hc.mg (by decide+kernel)) (by decide+kernel) (uc g4).2.2 (uc g4).1 (jr x hc h6).v (lg h5 _ _) (lg rfl _ _) (v9 rfl)) rfl
  |.isBool,.nil,h,gen=>exact gen h|.isBool,.cons _ (.cons _ _),h,gen=>exact gen h|.len,_,h,gen=>exact gen h|.tuple,_,h,gen=>exact gen h|.max,_,h,gen=>exact gen h|.min,_,h,gen=>exact gen h|.dict,_,h,gen=>exact gen h|.all,_,h,gen=>exact gen h|.Gh,.nil,h,gen=>exact gen h|.Gh,.cons _ (.cons _ _),h,gen=>exact gen h
  |.Gh,.cons x .nil,h,_ =>
   obtain⟨l,p,p1,p2,p3,rfl,h5,h6,h7,h8⟩:=abe (show apo c "sorted" "set" a (zf T x c)=true from h);obtain⟨g1,g2⟩:=Hc hc h5;obtain⟨g3,g4⟩:=Hc hc h6;exact xg (akj hc.r8 g1 (hc.mg (by decide+kernel)) (by decide+kernel) (uc g2).2.2 (uc g2).1 g3 (hc.mg (by decide+kernel)) (by decide+kernel) (uc g4).2.2 (uc g4).1
    (Ju (jr x hc h8).v Ro (lg h7 _ _)) (lg rfl _ _) (v9 rfl) (lg h7 _ _) (v9 rfl)) rfl
 |.bm m o es,c,X,a,hc,h=>by
  replace h:=jx h;obtain⟨⟨lo,n,ap,ls,p⟩,h0,h⟩:=h;cases apm h0;simp only[aq,dj] at h;obtain⟨⟨⟨h1,h2⟩,h3,h4,h4'⟩,h5,h6⟩:=h;obtain⟨l,ls,rfl⟩:=abf h4';obtain⟨e1,e2⟩:=Ew es hc h6;have e3:=e2;simp only[Aa,aq] at e3;have few:((backTo p (starEach (l::ls) X.env)).all (λx=>!x.1)&&(backToKw p (keywordEach [] X.env)).all (λx=>x.1.isSome)&&decide ((l::ls).length+([]:List Keyword).length+(if([]:List Keyword).isEmpty then 0 else 1)<30))=true:=by rw[W4 e2];simp[keywordEach,backToKw];simp at h3;exact b_ h3 (by decide)
  have g:=jr o hc h5;cases m with
  |append=>cases h1;exact xg (a0o (T := "list") (id := "list.append") (fun ι H M x v S r t=>ty_list (.inl rfl) S r t) PySem.F.plainAttrs_list PySem.F.slot_list_append PySem.F.type_list_append ao0 g.v e1 (Jg h2) few h4 (lg e3.1 _ _) (v9 e3.2)) rfl
  |index=>cases h1;exact xg (a0o (T := "list") (id := "list.index") (fun ι H M x v S r t=>ty_list (.inr rfl) S r t) PySem.F.plainAttrs_list PySem.F.slot_list_index PySem.F.type_list_index (auh hc.r8) g.v e1 (Jg h2) few h4 (lg e3.1 _ _) (v9 e3.2)) rfl
  |get=>cases h1;exact xg (a0o (T := "dict") (id := "dict.get") (fun ι H M x v S r t=>ty_dict S r t) PySem.F.plainAttrs_dict PySem.F.slot_dict_get PySem.F.type_dict_get (a8o (acx hc.room)) g.v e1 (Jg h2) few h4 (lg e3.1 _ _) (v9 e3.2)) rfl
 |.comp v j t it e,c,X,a,hc,h=>by
  replace h:=jx h;obtain⟨⟨elt,gs,sc⟩,h1,h⟩:=h;obtain⟨p,rfl⟩:=W5 h1;replace h:=jx h;obtain⟨⟨tg,iter,ifs,as⟩,h2,h⟩:=h;cases Br h2;simp only[aq,qu] at h;obtain⟨⟨h3,rfl⟩,h4,h5⟩:=h;obtain⟨q1,q2,B,hB,hg,q3,q4⟩:=Rz hc h3;cases q2;exact xg (a0f B hc.calm (R8 it hc h4) hg (λC fp s H=>(jr e (hB C fp s H) h5).v) q1 q3 q4) rfl
 |.Cr v j t it i e,c,X,a,hc,h=>by
  replace h:=jx h;obtain⟨⟨elt,gs,sc⟩,h1,h⟩:=h;obtain⟨p,rfl⟩:=W5 h1;replace h:=jx h;obtain⟨⟨tg,iter,ifs,as⟩,h2,h⟩:=h;cases Br h2;replace h:=jx h;obtain⟨d,h6,h⟩:=h;cases Br h6;simp only[aq] at h;obtain⟨⟨h3,h7⟩,h4,h8,h5⟩:=h;obtain⟨q1,q2,B,hB,hg,q3,q4⟩:=Rz hc h3;cases q2;exact xg (aos B hc.calm (R8 it hc h4) hg (λC fp s H=>(jr i (hB C fp s H) h8).q h7) (λC fp s H=>(jr e (hB C fp s H) h5).v) q1 q3 q4) rfl
 |.Vs x y,c,X,a,hc,h=>by
  replace h:=jx h;obtain⟨⟨l0,o,r0⟩,h1,h⟩:=h;obtain⟨p,rfl⟩:=aba h1;replace h:=jx h;obtain⟨o1,h2,h⟩:=h;replace h:=jx h;obtain⟨r1,h3,h⟩:=h;cases Br h2;cases Br h3;replace h:=jx h;obtain⟨⟨n,ls⟩,h4,h⟩:=h;replace h:=jx h;obtain⟨⟨m,ms⟩,h5,h⟩:=h;replace h:=jx h;obtain⟨l,h6,h⟩:=h;replace h:=jx h;obtain⟨r,h7,h⟩:=h;cases Br h6;cases Br h7;obtain⟨p1,q1,e1⟩:=Il h4;obtain⟨p2,q2,e2⟩:=Il h5;have e1:l0=_:=e1;subst e1 e2;simp only[aq,dj] at h;obtain⟨⟨⟨rfl,rfl⟩,rfl,h8⟩,⟨h9,h10⟩,h11,h12⟩:=h;obtain⟨g1,g2⟩:=Hc hc h8;have z:=aub (nm:=nm) (W:=W) (p1:=p1) (p2:=p2) (q1:=q1) (q2:=q2) hc.r8 g1 (hc.mg (by decide+kernel)) (by decide+kernel) (uc g2).2.2 (uc g2).1 (Ju (jr x hc h11).v Ro (lg h9 _ _)) (Ju (jr y hc h12).v Ro (lg h10 _ _)) (lg h9 _ _) (lg h10 _ _) (v9 rfl) (v9 rfl);exact⟨ayu z,λ_=>at3 (ayv z) λ_ _ _ q=>q,λ_ _ _ z=>by cases z⟩
 |.ae0 x,c,X,a,hc,h=>by
  obtain⟨l,p,p1,p2,p3,rfl,h5,h6,h7,h8⟩:=abe h;obtain⟨g1,g2⟩:=Hc hc h5;obtain⟨g3,g4⟩:=Hc hc h6;exact xg (a0v hc.r8 g1 (hc.mg (by decide+kernel)) (by decide+kernel) (uc g2).2.2 (uc g2).1 g3 (hc.mg (by decide+kernel)) (by decide+kernel) (uc g4).2.2 (uc g4).1
   (Ju (jr x hc h8).v Ro (lg h7 _ _)) (lg rfl _ _) (v9 rfl) (lg h7 _ _) (v9 rfl)) rfl
 |.ae1 x,c,X,a,hc,h=>by
  obtain⟨l,p,p1,p2,p3,rfl,h5,h6,h7,h8⟩:=abe h;obtain⟨g1,g2⟩:=Hc hc h5;obtain⟨g3,g4⟩:=Hc hc h6;exact xg (a0y hc.r8 g1 (hc.mg (by decide+kernel)) (by decide+kernel) (uc g2).2.2 (uc g2).1 g3 (hc.mg (by decide+kernel)) (by decide+kernel) (uc g4).2.2 (uc g4).1
   (Ju (jr x hc h8).v Ro (lg h7 _ _)) (lg rfl _ _) (v9 rfl) (lg h7 _ _) (v9 rfl)) rfl
theorem Ew:∀(es:Dl){c:Ctx}{X:Cx}{a:Ya},Fb T nm W k c X->Jk T es c a=true->PA X a (Xh nm W X.K es)/\Aa a=true
 |.nil,c,X,a,hc,h=>by
  cases qu.mp h;exact⟨Ro,rfl⟩
 |.cons e es,c,X,a,hc,h=>by
  cases a with
  |nil=>cases h
  |cons l ls =>
   replace h:(noStar l&&(zf T e c l&&Jk T es c ls))=true:=h;simp only[aq] at h;obtain⟨g1,g2⟩:=Ew es hc h.2.2;exact⟨Ju (jr e hc h.2.1).v g1 (lg h.1 _ _),by simp only[Aa,aq];exact⟨h.1,g2⟩⟩
theorem aid:∀(e:OEx){c:Ctx}{X:Cx}{a:Option Expr},Fb T nm W k c X->a09 T e c a=true->PO X a (tO nm W X.K e)
 |.none,c,X,a,hc,h=>by
  cases Option.isNone_iff_eq_none.mp h;exact aul
 |.some e,c,X,a,hc,h=>by
  replace h:=jx h;obtain⟨l,rfl,h⟩:=h;exact aum (jr e hc h).v
theorem R8:∀(it:Pr){c:Ctx}{X:Cx}{tg a:Expr},Fb T nm W k c X->avd T it c tg a=true->PI X tg a (tI nm W X.K it)
 |.val e,c,X,tg,a,hc,h=>a71 (jr e hc h).v|.keys e,c,X,tg,a,hc,h=>a0p (jr e hc h).v
 |.O7 e,c,X,tg,a,hc,h=>by
  replace h:=jx h;obtain⟨⟨n,ls⟩,h1,h⟩:=h;obtain⟨p,p',rfl⟩:=Il h1;replace h:=jx h;obtain⟨l,h2,h⟩:=h;cases Br h2;simp only[aq,dj] at h;obtain⟨⟨rfl,h3⟩,h4,h5⟩:=h;exact a72 (Hc hc h3).1 (hc.mg (by decide+kernel)) (jr e hc h5).v h4
 |.enm e,c,X,tg,a,hc,h=>by
  replace h:=jx h;obtain⟨⟨n,ls⟩,h1,h⟩:=h;obtain⟨p,p',rfl⟩:=Il h1;replace h:=jx h;obtain⟨l,h2,h⟩:=h;cases Br h2;simp only[aq,dj] at h;obtain⟨⟨h6,rfl,h3⟩,h4,h5⟩:=h;obtain⟨ts,h7⟩:=qi.mp h6;obtain⟨k0,pt,rfl⟩:=Rx h7;exact a8l (Hc hc h3).1 (hc.mg (by decide+kernel)) (jr e hc h5).v h4
 |.zip x y,c,X,tg,a,hc,h=>by
  obtain⟨⟨n,ls⟩,h1,h0⟩:=jx (show(Dd (dCN a) λq=>match q.2 with
   | [l,r]=>((ad0 tg).isSome&&(decide (q.1 = "zip")&&Ve c q.1))&&((noStar l&&noStar r)&&(zf T x c l&&zf T y c r))|_=>false)=true from h)
  obtain⟨p,p',rfl⟩:=Il h1
  match ls,h1,h0 with
  |[l,r],h1,h =>
   replace h:(((ad0 tg).isSome&&(decide (n = "zip")&&Ve c n))&&((noStar l&&noStar r)&&(zf T x c l&&zf T y c r)))=true:=h;simp only[aq,dj] at h;obtain⟨⟨h6,rfl,h3⟩,⟨h4,h5⟩,h7,h8⟩:=h;obtain⟨ts,h9⟩:=qi.mp h6;obtain⟨k0,pt,rfl⟩:=Rx h9;exact a8m (Hc hc h3).1 (hc.mg (by decide+kernel)) (jr x hc h7).v h4 (jr y hc h8).v h5 (v9 (by simp[Aa,h5]))
  |[],_,h=>cases h|[_],_,h=>cases h|_::_::_::_,_,h=>cases h
end
end
noncomputable def a8v(e:Ex):Option {b:Bool // (∃v j t it x,e=.comp v j t it x)\/∃v j t it i x,e=.Cr v j t it i x}:=match e with|.comp ..=>some ⟨true,.inl ⟨_,_,_,_,_,rfl⟩⟩|.Cr ..=>some ⟨true,.inr ⟨_,_,_,_,_,_,rfl⟩⟩|_=>none
noncomputable def a1d(T:Tab)(c:Ctx)(l:Lv)(e:Ex)(tg v:Expr):Bool :=
 match l with
 |.tg t=>(tgB c 0 t tg&&((Tq v&&((Uu tg).isSome||awz v))||(match t with|.name _=>(ad1 v).isSome&&(a8v e).isSome|_=>false)))&&zf T e c v
 |.sub o i=>Dd (aph tg) λq=>aa0 q.2&&(zf T e c v&&(zf T o c q.1&&zf T i c q.2))
 |.fld o f=>Dd (apj tg) λq=>(Tq v&&flB T.Qw f q.2.1)&&(zf T e c v&&zf T o c q.1)
noncomputable def a8w(a:Stmt):Option (List Expr×Expr):=Option.map Subtype.val (α:={q:List Expr×Expr // ∃p,a=.Assign q.1 q.2 p}) (match a with|.Assign t v p=>some ⟨(t,v),p,rfl⟩|_=>none)
noncomputable def a8x(a:Stmt):Option Expr:=Option.map Subtype.val (α:={q:Expr // ∃p,a=.Expr q p}) (match a with|.Expr v p=>some ⟨v,p,rfl⟩|_=>none)
noncomputable def a8y(a:Stmt):Option (Expr×List Stmt×List Stmt):=Option.map Subtype.val (α:={q:Expr×List Stmt×List Stmt // ∃p,a=.If q.1 q.2.1 q.2.2 p}) (match a with|.If t l r p=>some ⟨(t,l,r),p,rfl⟩|_=>none)
noncomputable def a8z(a:Stmt):Option (Expr×List Stmt×List Stmt):=Option.map Subtype.val (α:={q:Expr×List Stmt×List Stmt // ∃p,a=.While q.1 q.2.1 q.2.2 p}) (match a with|.While t l r p=>some ⟨(t,l,r),p,rfl⟩|_=>none)
noncomputable def a80(a:Stmt):Option (Expr×Expr×List Stmt×List Stmt):=Option.map Subtype.val (α:={q:Expr×Expr×List Stmt×List Stmt // ∃p,a=.For q.1 q.2.1 q.2.2.1 q.2.2.2 p}) (match a with|.For t i l r p=>some ⟨(t,i,l,r),p,rfl⟩|_=>none)
noncomputable def a81(a:Stmt):Option (Option Expr):=Option.map Subtype.val (α:={q:Option Expr // ∃p,a=.Return q p}) (match a with|.Return v p=>some ⟨v,p,rfl⟩|_=>none)
noncomputable def a1e(a:Stmt):Option Nat:=Option.map Subtype.val (α:={n:Nat // (n=0/\∃p,a=.Break p)\/(n=1/\∃p,a=.Continue p)\/(n=2/\∃p,a=.Pass p)}) (match a with|.Break p=>some ⟨0,.inl ⟨rfl,p,rfl⟩⟩|.Continue p=>some ⟨1,.inr (.inl ⟨rfl,p,rfl⟩)⟩|.Pass p=>some ⟨2,.inr (.inr ⟨rfl,p,rfl⟩)⟩|_=>none)
def ave(h:a8w a=some (t,v)):∃p,a=.Assign t v p:=(Xj h :)
def avf(h:a8x a=some v):∃p,a=.Expr v p:=(Xj h :)
def avh(h:a8y a=some (t,l,r)):∃p,a=.If t l r p:=(Xj h :)
def avi(h:a8z a=some (t,l,r)):∃p,a=.While t l r p:=(Xj h :)
def avj(h:a80 a=some (t,i,l,r)):∃p,a=.For t i l r p:=(Xj h :)
def avk(h:a81 a=some v):∃p,a=.Return v p:=(Xj h :)
def aie(h:a1e a=some n):(n=0/\∃p,a=.Break p)\/(n=1/\∃p,a=.Continue p)\/(n=2/\∃p,a=.Pass p):=(Xj h :)
mutual
noncomputable def a1f(T:Tab):Bu->Ctx->Stmt->Bool
 |.asg l e,c,a=>Dd (a8w a) λq=>Dd (Qx q.1) λt=>a1d T c l e t q.2
 |.expr e,c,a=>Dd (a8x a) λv=>Tq v&&zf T e c v
 |.iff t x y,c,a=>Dd (a8y a) λq=>Ry q.1&&(zf T t c q.1&&(Uw T x c q.2.1&&Uw T y c q.2.2))
 |.whl t x,c,a=>Dd (a8z a) λq=>(Ry q.1&&q.2.2.isEmpty)&&(zf T t c q.1&&Uw T x c q.2.1)
 |.for_ t it x,c,a=>Dd (a80 a) λq=>(tgB c 0 t q.1&&(Ha q.2.1&&q.2.2.2.isEmpty))&&(avd T it c q.1 q.2.1&&Uw T x c q.2.2.1)
 |.ret e,c,a=>Dd (a81 a) λv=>Dd v (zf T e c)
 |.ar4,_,_=>false|.brk,_,a=>decide (a1e a=some 0)|.cont,_,a=>decide (a1e a=some 1)|.pass,_,_=>false|.raise _ _,_,_=>true
noncomputable def Uw(T:Tab):o6->Ctx->List Stmt->Bool
 |.nil,_,a=>a.isEmpty|.cons s r,c,a=>match a with|st::rest=>a1f T s c st&&Uw T r c rest|_=>false
end
noncomputable def swB(c:Ctx)(t:Str)(pt vp:Pos)(sc:Scope):Bool:=(c.sc.lookup t==some NameKind.local&&pt.line==vp.line)&&!(sc.names.any λy=>y.1==t&&(y.2==.local||y.2==.cell))
def agb(hc:Fb T nm W k c X):swapsWith (.ListComp elt gs sc vp) (some (.Name t pt)) l X.env=pure (swB c t pt vp sc):=by
 have b:X.env.blockKind=.function:=by unfold Env.blockKind;rw[hc.kd];rfl
 show(pure (X.env.blockKind==.function&&X.env.kindOf t==some .local&&pt.line==vp.line&&!(sc.names.any λ(n,k)=>n==t&&(k==.local||k==.cell))):Sem Bool)=_;rw[b];unfold Env.kindOf;rw[hc.sc];simp[swB]
def apt(hc:Fb T nm W k c X)(ht:tgB c 0 (.name i) tg=true)(hv:(ad1 v).isSome=true)(hw:(a8v e).isSome=true)(h:zf T e c v=true):PS X (.Assign [tg] v p) (tS nm W X.K (.asg (.tg (.name i)) e)):=by
 have nd:X.N.Nodup:=by rw[hc.N];exact hc.nd
 obtain⟨⟨elt,gs,sc⟩,hq⟩:=qi.mp hv;obtain⟨y,py,rfl,hy,_⟩:=af9 (nm:=nm) (W:=W) (k:=k) (T:=T) hc ht;obtain⟨⟨_,co⟩,_⟩:=qi.mp hw;obtain⟨vp,rfl⟩:=W5 hq;have sw:=λl=>agb (T:=T) (nm:=nm) (W:=W) (k:=k) hc (elt:=elt) (gs:=gs) (sc:=sc) (vp:=vp) (pt:=py) (t:=y) (l:=l)
 cases hs:swB c y py vp sc with
 |false =>
  rw[hs] at sw;exact aoo (jr e hc h).v (aib hc ht).1 (sw p.line) rfl rfl
 |true =>
  rw[hs] at sw;simp only[swB,aq] at hs;have hl:X.env.scope.names.lookup y=some .local:=by rw[hc.sc];have:=hs.1.1;simpa using this
  rcases co with⟨v,j,t,it,x,rfl⟩|⟨v,j,t,it,i',x,rfl⟩
  . replace h:=jx h
    obtain⟨⟨bek,gs',sc'⟩,h1,h⟩:=h;cases h1;replace h:=jx h;obtain⟨⟨tg,iter,ifs,as⟩,h2,h⟩:=h;cases Br h2;simp only[aq,qu] at h;obtain⟨⟨h3,rfl⟩,h4,h5⟩:=h;obtain⟨q1,q2,B,hB,hg,q3,q4⟩:=Rz hc h3;cases q2;exact ake B hc.calm (R8 it hc h4) hg (λC fp s H=>(jr x (hB C fp s H) h5).v) q1 q3 q4 nd hy hl (sw p.line)
  . replace h:=jx h
    obtain⟨⟨bek,gs',sc'⟩,h1,h⟩:=h;cases h1;replace h:=jx h;obtain⟨⟨tg,iter,ifs,as⟩,h2,h⟩:=h;cases Br h2;replace h:=jx h;obtain⟨d,h6,h⟩:=h;cases Br h6;simp only[aq] at h;obtain⟨⟨h3,h7⟩,h4,h8,h5⟩:=h;obtain⟨q1,q2,B,hB,hg,q3,q4⟩:=Rz hc h3;cases q2;exact adg B hc.calm (R8 it hc h4) hg (λC fp s H=>(jr i' (hB C fp s H) h8).q h7) (λC fp s H=>(jr x (hB C fp s H) h5).v) q1 q3 q4 nd hy hl (sw p.line)
section
variable{T:Tab}{nm:Nm}{W:Ir}{k:Nat}
def avl(hc:Fb T nm W k c X)(h:a1d T c l e tg v=true):PS X (.Assign [tg] v p) (tS nm W X.K (.asg l e)):=by
 cases l with
 |tg t =>
  simp only[a1d,aq,Bool.or_eq_true] at h;obtain⟨⟨h1,h2⟩,h3⟩:=h;rcases h2 with⟨h4,h5⟩|h4
  . have g:=aib (nm:=nm) hc h1
    have sh:(∃n q,tg=.Name n q)\/∃ts k0 q,tg=.Tuple ts k0 q:=by
     cases t with
     |name i =>
      obtain⟨n,z1,_⟩:=jx h1;exact .inl ⟨n,Ko z1⟩
     |names is =>
      obtain⟨ts,z1,_⟩:=jx h1;exact .inr ⟨ts,Rx z1⟩
    rcases sh with⟨n,q,rfl⟩|⟨ts,k0,q,rfl⟩
    . exact aoo (jr e hc h3).v g.1 (Ws h4 _ _ _) rfl rfl
    . have w:awz v=true:=by
       rcases h5 with h5|h5
       . cases h5
       . exact h5
      have w2:swappedStores [.Tuple ts k0 q] v X.env=pure none:=by cases v<;>first|rfl|(cases w;done)
      exact aoo (jr e hc h3).v g.1 (Ws h4 _ _ _) w2 rfl
  . cases t with
    |name i=>rw[aq] at h4;exact apt hc h1 h4.1 h4.2 h3|names _=>cases h4
 |sub o i =>
  replace h:=jx (show Dd (aph tg) _=true from h);obtain⟨⟨lo,li⟩,h0,h⟩:=h;obtain⟨p',rfl⟩:=abb h0;simp only[aq] at h;obtain⟨h2,h3,h4,h5⟩:=h;refine aou (acx hc.room) (jr e hc h3).v (jr o hc h4).v (jr i hc h5).v λv=>?_
  cases li<;>first|rfl|(cases h2;done)
 |fld o f =>
  replace h:=jx (show Dd (apj tg) _=true from h);obtain⟨⟨lo,n,p'⟩,h0,h⟩:=h;cases abd h0;simp only[aq] at h;obtain⟨⟨h1,h2⟩,h3,h4⟩:=h;obtain⟨t1,t2⟩:=hc.tab.fl _ _ (mz h2);exact aov t1 t2 (jr e hc h3).v (jr o hc h4).v h1
mutual
theorem avm:∀(s:Bu){c:Ctx}{X:Cx}{a:Stmt},Fb T nm W k c X->c.fn=true->a1f T s c a=true->PS X a (tS nm W X.K s)
 |.asg l e,c,X,a,hc,hf,h=>by
  replace h:=jx h;obtain⟨⟨ts,v⟩,h1,h⟩:=h;obtain⟨p,rfl⟩:=ave h1;replace h:=jx h;obtain⟨t,h2,h⟩:=h;cases Br h2;exact avl hc h
 |.expr e,c,X,a,hc,hf,h=>by
  replace h:=jx h;obtain⟨v,h1,h⟩:=h;obtain⟨p,rfl⟩:=avf h1;simp only[aq] at h;exact az9 (jr e hc h.2).v (Oq h.1 _ _ _)
 |.iff t x y,c,X,a,hc,hf,h=>by
  replace h:=jx h;obtain⟨⟨q,l,r⟩,h1,h⟩:=h;obtain⟨p,rfl⟩:=avh h1;simp only[aq] at h;exact a7x ((jr t hc h.2.1).q h.1) (Kp x hc hf h.2.2.1) (Kp y hc hf h.2.2.2)
 |.whl t x,c,X,a,hc,hf,h=>by
  replace h:=jx h;obtain⟨⟨q,l,r⟩,h1,h⟩:=h;obtain⟨p,rfl⟩:=avi h1;simp only[aq,qu] at h;obtain⟨⟨h2,rfl⟩,h3,h4⟩:=h;exact a7y (hc.fnl hf).2 ((jr t hc h3).q h2) (Kp x hc hf h4)
 |.for_ t it x,c,X,a,hc,hf,h=>by
  replace h:=jx h;obtain⟨⟨tg,iter,l,r⟩,h1,h⟩:=h;obtain⟨p,rfl⟩:=avj h1;simp only[aq,qu] at h;obtain⟨⟨h2,h3,rfl⟩,h4,h5⟩:=h;exact a70 (hc.fnl hf).2 hc.calm (R8 it hc h4) (aib hc h2).1 (Kp x hc hf h5) h3
 |.ret e,c,X,a,hc,hf,h=>by
  replace h:=jx h;obtain⟨v,h1,h⟩:=h;obtain⟨p,rfl⟩:=avk h1;replace h:=jx h;obtain⟨w,rfl,h⟩:=h;exact a7v (jr e hc h).v
 |.ar4,c,X,a,hc,hf,h=>by cases h
 |.brk,c,X,a,hc,hf,h=>by
  rcases aie (mz h) with⟨_,p,rfl⟩|⟨z,_⟩|⟨z,_⟩
  . exact a7w
  . cases z
  . cases z
 |.cont,c,X,a,hc,hf,h=>by
  rcases aie (mz h) with⟨z,_⟩|⟨_,p,rfl⟩|⟨z,_⟩
  . cases z
  . exact a0a
  . cases z
 |.pass,c,X,a,hc,hf,h=>by cases h|.raise _ _,c,X,a,hc,hf,h=>au0
theorem Kp:∀(s:o6){c:Ctx}{X:Cx}{a:List Stmt},Fb T nm W k c X->c.fn=true->Uw T s c a=true->Rh X a (tSs nm W X.K s)
 |.nil,c,X,a,hc,hf,h=>by
  cases qu.mp h;exact a0b
 |.cons s r,c,X,a,hc,hf,h=>by
  cases a with
  |nil=>cases h
  |cons st rest =>
   replace h:(a1f T s c st&&Uw T r c rest)=true:=h;simp only[aq] at h;exact at7 (avm s hc hf h.1) (Kp r hc hf h.2)
end
end
structure Def where
 x:Str
 qual:Str
 N:List Str
 ps:List Str
noncomputable def scB(N ps:Yf)(sc:Scope):Bool :=
 (decide (sc.kind=.function)&&(!sc.isCoroutine&&!sc.isGenerator))&&((decide N.Nodup&&decide (N.take ps.length=ps)) &&
 (ps.all (λx=>sc.names.lookup x==some .local||sc.names.lookup x==some .cell)&&sc.names.all (λy=>!(y.2==NameKind.free))))
def a1g(h:scB N ps sc=true):Va N ps sc:=by simp only[scB,aq,dj,Bool.not_eq_true',gn] at h;obtain⟨⟨h1,h2,h3⟩,⟨h4,h5⟩,h6,h7⟩:=h;exact⟨h1,h2,h3,h4,h5,λx m=>by have:=h6 x m;simpa using this,λy m=>by have:=h7 y m;simpa using this⟩
noncomputable def ako(T:Tab)(d:Def)(F:MW.Fn)(st:Stmt):Bool :=
 (scB d.N d.ps (Bh st)&&(decide (F.np=d.ps.length)&&decide (F.ns=d.N.length)))&&Uw T F.body ⟨d.N,(Bh st).names,true,[]⟩ (Gm st)
set_option tactic.hygienic true in
def avn{F:MW.Fn}(h:F.run W ds M=.ok d M'):ds.length=F.np/\∃fl ρ',F.body.den W (ds.map some++List.replicate (F.ns-F.np) none) M=.ok (fl,ρ') M'/\(fl=.ret d\/(fl=.next/\d=.non)):=by
 unfold MW.Fn.run at h;split at h
 . rename_i hl
   obtain⟨⟨fl,ρ'⟩,M1,e1,e⟩:=dz h;refine⟨hl,fl,ρ',?_⟩;cases fl with
   |ret z=>cases e;exact⟨e1,.inl rfl⟩|next=>cases e;exact⟨e1,.inr ⟨rfl,rfl⟩⟩|brk=>cases e|cont=>cases e
 . cases h
def a1h{IR:MW.Prog}(U:Fun K d.x d.qual st f fd)(hF:IR.fns[i]?=some F)(h:ako T d F st=true)(hT:apf T nm ⟨IR.call n,IR.cls⟩ k P w K mg base):Ge P w K mg base CX0 (k+17) f fd d.ps (spF nm ⟨IR.call (n+1),IR.cls⟩ K F.np i):=by
 simp only[ako,aq,dj] at h;obtain⟨⟨h1,h2,h3⟩,h4⟩:=h;have S:=a1g h1;have go:∀ds M d' M',MW.Ir.call ⟨IR.call (n+1),IR.cls⟩ i ds M=.ok d' M'->F.run ⟨IR.call n,IR.cls⟩ ds M=.ok d' M':=λds M d' M' e=>by have e:IR.call (n+1) i ds M=.ok d' M':=e;unfold MW.Prog.call at e;rw[hF] at e;exact e
 refine U.ok (k:=k+16) S (λvs H Q E ⟨ι,M,ds,d',M',_,r,l,e,_⟩=>by rw[<- r.length,l,h2]) (λcdv A outer s H vs Q E hr ⟨ι,M,ds,d',M',SM,r,l,e,q⟩=>?_);have hc:Fb T nm ⟨IR.call n,IR.cls⟩ k ⟨d.N,(Bh st).names,true,[]⟩ (aft CX0 P w K mg base d.N d.qual (Bh st) f cdv A outer s H E).nox :=
  ⟨rfl,S.nd,rfl,S.kind,rfl,hr,λ_=>⟨λ_=>rfl,PassesOwn.never⟩,hT,λn h=>by cases h⟩
 refine⟨_,Kp F.body hc rfl h4,?_⟩;obtain⟨hl,fl,ρ',e1,e2⟩:=avn (go _ _ _ _ e);refine⟨ι,_,M,fl,ρ',M',SM,?_,e1,fun ι' H' σ' le S' R'=>?_⟩
 . unfold L2.start
   exact(uv.aoj r).append (uv.aoi _ (by rw[List.length_replicate,h3,<- r.length,l]))
 . rcases e2 with rfl|⟨rfl,rfl⟩
   . exact λv rv=>q ι' H' v le S' rv
   . exact q ι' H' _ le S' .non
theorem aif{nm:Nm}{P:Program}{w:World}{K:Fg}{mg:Zs}{base:Heap}{IR:MW.Prog}{T:Tab}{D:Nat->Def}{st:Nat->Stmt}{fa:Nat->Addr}{fd:Nat->FuncData}
 (U:∀i,i<IR.fns.length->Fun K (D i).x (D i).qual (st i) (fa i) (fd i)) (h:∀i F,IR.fns[i]?=some F->ako T (D i) F (st i)=true)
 (mk:∀n,(∀i F,IR.fns[i]?=some F->Ge P w K mg base CX0 (17*n) (fa i) (fd i) (D i).ps (spF nm ⟨IR.call n,IR.cls⟩ K F.np i))->apf T nm ⟨IR.call n,IR.cls⟩ (17*n) P w K mg base) :
 ∀n i F,IR.fns[i]?=some F->Ge P w K mg base CX0 (17*n) (fa i) (fd i) (D i).ps (spF nm ⟨IR.call n,IR.cls⟩ K F.np i)
 |0,i,F,hF=>⟨(λvs H Q E ⟨ι,M,ds,d',M',_,r,l,e,_⟩=>by cases e),λA outer s H args us vs Q E hr he hb hv ⟨ι,M,ds,d',M',_,r,l,e,_⟩=>by cases e⟩
 |n+1,i,F,hF=>a1h (U i (ao.mp hF).1) hF (h i F hF) (mk n (aif U h mk n))
noncomputable def a1i(s:Str):Bool:=s.cps[0]?==some 0
noncomputable def apu(Qw:Yf):Bool:=decide Qw.Nodup&&Qw.all λs=>!a1i s
noncomputable def ad4(Qw:Yf)(i:Nat):Str:=match Qw[i]? with|some s=>s|none=>⟨#[0,0,i]⟩
def apv(h:apu Qw=true)(i j:Nat)(e:ad4 Qw i=ad4 Qw j):i=j:=by
 simp only[apu,aq,dj,gn] at h;have own:∀k,a1i ⟨#[0,0,k]⟩=true:=λk=>rfl
 unfold ad4 at e;cases hi:Qw[i]? with
 |some a =>
  rw[hi] at e;cases hj:Qw[j]? with
  |some b =>
   rw[hj] at e;have e:a=b:=e;subst e;obtain⟨l1,e1⟩:=ao.mp hi;obtain⟨l2,e2⟩:=ao.mp hj;exact(Aq h.1).mp (e1.trans e2.symm)
  |none =>
   rw[hj] at e;have e:a=⟨#[0,0,j]⟩:=e;have:=h.2 a (au hi);rw[e,own] at this;cases this
 |none =>
  rw[hi] at e;cases hj:Qw[j]? with
  |some b =>
   rw[hj] at e;have e:(⟨#[0,0,i]⟩:Str)=b:=e;have:=h.2 b (au hj);rw[<- e,own] at this;cases this
  |none =>
   rw[hj] at e;have e:(⟨#[0,0,i]⟩:Str)=⟨#[0,0,j]⟩:=e;simpa using e
noncomputable def a1j(cas:List (Option Addr))(Qw:Yf)(h:apu Qw=true):Nm:=⟨λc=>(cas[c]?).join,ad4 Qw,apv h⟩
noncomputable def apw(Qw:Yf)(x:Str):Bool:=!(Qw.contains x)&&!a1i x
def apx(h:apw Qw x=true)(i:Nat):ad4 Qw i≠x:=λe=>by
 simp only[apw,aq,Bool.not_eq_true'] at h;unfold ad4 at e;cases hi:Qw[i]? with
 |some a =>
  rw[hi] at e;have e:a=x:=e;rw[<- e] at h;have:=List.contains_iff_mem.mpr (au hi);rw[this] at h;cases h.1
 |none =>
  rw[hi] at e;have e:(⟨#[0,0,i]⟩:Str)=x:=e;rw[<- e] at h;cases h.2
section
variable(K:Fg)(mg:Zs)
noncomputable def abg:List Def->List Stmt->List Addr->List FuncData->Prop
 |d::ds,s::ss,a::as,f::fs=>(Fun K d.x d.qual s a f/\Binds K f d.ps [])/\abg ds ss as fs|[],[],[],[]=>True|_,_,_,_=>False
noncomputable def Tw:List (Option (Str×Nat))->List Addr->Prop
 |some p::r,a::as=>mg p.1=some (.ref a)/\Tw r as|none::r,_::as=>Tw r as|_,_=>True
noncomputable def ad5(C:Addr)(mts:List (Str×Nat))(Mz:X9):List (Nat×Nat)->Prop
 |q::r=>(∃p a,mts[q.1]?=some p/\Mz[q.2]?=some a/\Meth K C p.1 a)/\ad5 C mts Mz r|[]=>True
noncomputable def abh(C:Addr):List Str->Prop
 |x::r=>G8 K C x/\abh C r|[]=>True
structure ClF(T:Tab)(Mz:X9)(x:Str)(C:Addr)(cl:MW.Cl):Prop where
 mg:mg x=some (.ref C)
 cs:Cls K C
 ini:∃f,Mz[cl.init]?=some f/\Mk K C f
 me:ad5 K C T.mts Mz cl.meths
 na:abh K C T.Qw
noncomputable def Ov(T:Tab)(Mz:X9):List (Option (Str×Nat))->List (Option Addr)->List MW.Cl->Prop
 |some p::r,some C::cs,cl::cls=>ClF K mg T Mz p.1 C cl/\Ov T Mz r cs cls|none::r,none::cs,_::cls=>Ov T Mz r cs cls|[],[],[]=>True|_,_,_=>False
noncomputable def abi:List (Str×Int)->Prop
 |p::r=>(∃t,mg p.1=some (.int p.2 t))/\abi r|[]=>True
noncomputable def AllB:List Str->Prop
 |x::r=>mg x=none/\AllB r|[]=>True
end
theorem abg.get{K:Fg}:∀{ds:List Def}{ss:List Stmt}{as:X9}{fs:List FuncData}{i:Nat}{d:Def},abg K ds ss as fs->ds[i]?=some d->∃s a f,ss[i]?=some s/\as[i]?=some a/\fs[i]?=some f/\Fun K d.x d.qual s a f/\Binds K f d.ps []
 |d::ds,s::ss,a::as,f::fs,0,d',h,e=>by cases e;exact⟨s,a,f,rfl,rfl,rfl,h.1⟩
 |d::ds,s::ss,a::as,f::fs,i+1,d',h,e=>by
  obtain⟨s',a',f',h1,h2,h3,h4⟩:=abg.get (i:=i) h.2 (by simpa using e);exact⟨s',a',f',by simpa using h1,by simpa using h2,by simpa using h3,h4⟩
theorem Tw.get{mg:Zs}:∀{l:List (Option (Str×Nat))}{as:X9}{i:Nat}{p:Str×Nat}{a:Addr},Tw mg l as->l[i]?=some (some p)->as[i]?=some a->mg p.1=some (.ref a)
 |some q::l,b::as,0,p,a,h,e,e2=>by cases e;cases e2;exact h.1|none::l,b::as,0,p,a,h,e,e2=>by cases e|some q::l,b::as,i+1,p,a,h,e,e2=>Tw.get (i:=i) h.2 (by simpa using e) (by simpa using e2)|none::l,b::as,i+1,p,a,h,e,e2=>Tw.get (i:=i) (l:=l) (as:=as) h (by simpa using e) (by simpa using e2)
theorem ad5.get{K:Fg}{C:Addr}{mts:List (Str×Nat)}{Mz:X9}:∀{l:List (Nat×Nat)}{q:Nat×Nat},ad5 K C mts Mz l->q∈l->∃p a,mts[q.1]?=some p/\Mz[q.2]?=some a/\Meth K C p.1 a
 |q'::l,q,h,m=>by
  rcases bz.mp m with z|z
  . rw[z];exact h.1
  . exact ad5.get h.2 z
theorem abh.get{K:Fg}{C:Addr}:∀{l:Yf}{x:Str},abh K C l->x∈l->G8 K C x
 |y::l,x,h,m=>by
  rcases bz.mp m with z|z
  . rw[z];exact h.1
  . exact abh.get h.2 z
theorem Ov.get{K:Fg}{mg:Zs}{T:Tab}{Mz:X9}:∀{l:List (Option (Str×Nat))}{cs:List (Option Addr)}{cls:List MW.Cl}{c:Nat}{p:Str×Nat},Ov K mg T Mz l cs cls->l[c]?=some (some p)->∃C cl,cs[c]?=some (some C)/\cls[c]?=some cl/\ClF K mg T Mz p.1 C cl
 |some q::l,some C::cs,cl::cls,0,p,h,e=>by cases e;exact⟨C,cl,rfl,rfl,h.1⟩
 |some q::l,some C::cs,cl::cls,c+1,p,h,e=>by
  obtain⟨C',cl',h1,h2,h3⟩:=Ov.get (c:=c) h.2 (by simpa using e);exact⟨C',cl',by simpa using h1,by simpa using h2,h3⟩
 |none::l,none::cs,cl::cls,0,p,h,e=>by cases e
 |none::l,none::cs,cl::cls,c+1,p,h,e=>by
  obtain⟨C',cl',h1,h2,h3⟩:=Ov.get (l:=l) (cs:=cs) (cls:=cls) (c:=c) h (by simpa using e);exact⟨C',cl',by simpa using h1,by simpa using h2,h3⟩
theorem Ov.at{K:Fg}{mg:Zs}{T:Tab}{Mz:X9}:∀{l:List (Option (Str×Nat))}{cs:List (Option Addr)}{cls:List MW.Cl}{c:Nat}{C:Addr},Ov K mg T Mz l cs cls->cs[c]?=some (some C)->Cls K C/\abh K C T.Qw
 |some q::l,some C::cs,cl::cls,0,p,h,e=>by cases e;exact⟨h.1.cs,h.1.na⟩|some q::l,some C::cs,cl::cls,c+1,p,h,e=>Ov.at (c:=c) h.2 (by simpa using e)|none::l,none::cs,cl::cls,0,p,h,e=>by cases e|[],[],_,_,_,_,e=>by simp at e|[],_::_,[],_,_,h,_=>h.elim|[],_::_,_::_,_,_,h,_=>h.elim|none::l,none::cs,cl::cls,c+1,p,h,e=>Ov.at (l:=l) (cs:=cs) (cls:=cls) (c:=c) h (by simpa using e)
theorem abi.get{mg:Zs}:∀{l:List (Str×Int)}{x:Str}{i:Int},abi mg l->(x,i)∈l->∃t,mg x=some (.int i t)
 |q::l,x,i,h,m=>by
  rcases bz.mp m with z|z
  . rw[<- z] at h;exact h.1
  . exact abi.get h.2 z
theorem AllB.get{mg:Zs}:∀{l:Yf}{x:Str},AllB mg l->x∈l->mg x=none
 |q::l,x,h,m=>by
  rcases bz.mp m with z|z
  . rw[z];exact h.1
  . exact AllB.get h.2 z
noncomputable def avo(T:Tab):List MW.Fn->List Def->List Stmt->Bool
 |F::Fs,d::ds,s::ss=>ako T d F s&&avo T Fs ds ss|[],[],[]=>true|_,_,_=>false
noncomputable def npB(fns:List MW.Fn)(f n:Nat):Bool:=match fns[f]? with|some F=>F.np==n|none=>false
noncomputable def tfB(fns:List MW.Fn)(l:List (Option (Str×Nat))):Bool:=l.zipIdx.all λq=>match q.1 with|some p=>npB fns q.2 p.2|none=>true
noncomputable def tcB(IR:MW.Prog)(l:List (Option (Str×Nat))):Bool:=l.zipIdx.all λq=>match q.1 with|some p=>(match IR.cls[q.2]? with|some cl=>npB IR.fns cl.init (p.2+1)|none=>false)|none=>true
noncomputable def ben(cls:List MW.Cl)(m c f:Nat):Bool:=cls.zipIdx.all λq=>match q.1.meths.lookup m with|none=>true|some g=>q.2==c&&g==f
noncomputable def tmB(IR:MW.Prog)(T:Tab)(mcs:List (Nat×Nat)):Bool:=T.mts.zipIdx.all λq=>match mcs[q.2]? with
 |some cf=>(ben IR.cls q.2 cf.1 cf.2&&(npB IR.fns cf.2 (q.1.2+1)&&apw T.Qw q.1.1))&&((match T.cls[cf.1]? with|some (some _)=>true|_=>false)&&(match IR.cls[cf.1]? with|some cl=>cl.meths.lookup q.2==some cf.2|none=>false))
 |none=>false
def Lx{α:Type}{l:List α}{g:α×Nat->Bool}(h:l.zipIdx.all g=true){x:α}(e:l[i]?=some x):g (x,i)=true:=by rw[gn] at h;exact h (x,i) (by rw[vd];exact⟨i,by rw[Ai,e];simp⟩)
set_option tactic.hygienic true in
def agc(h:npB fns f n=true):∃F,fns[f]?=some F/\F.np=n:=by
 unfold npB at h;split at h
 . rename_i F e;exact⟨F,e,eq_of_beq h⟩
 . cases h
theorem W6{T:Tab}:∀{Fs:List MW.Fn}{ds:List Def}{ss:List Stmt}{i:Nat}{F:MW.Fn},avo T Fs ds ss=true->Fs[i]?=some F->∃d s,ds[i]?=some d/\ss[i]?=some s/\ako T d F s=true
 |F::Fs,d::ds,s::ss,0,F',h,e=>by
  replace h:=Bool.and_eq_true_iff.mp h;cases e;exact⟨d,s,rfl,rfl,h.1⟩
 |F::Fs,d::ds,s::ss,i+1,F',h,e=>by
  replace h:=Bool.and_eq_true_iff.mp h;obtain⟨d',s',h1,h2,h3⟩:=W6 (i:=i) h.2 (by simpa using e);exact⟨d',s',by simpa using h1,by simpa using h2,h3⟩
 |[],_,_,_,_,_,e=>by simp at e|_::_,[],_,_,_,h,_=>by cases h|_::_,_::_,[],_,_,h,_=>by cases h
set_option tactic.hygienic true in
def a1k(hfl:apu T.Qw=true)(hP:avo T IR.fns Ds ss=true)(h1:tfB IR.fns T.fns=true)(h2:tcB IR T.cls=true)(h3:tmB IR T mcs=true)(aF:abg K Ds ss Mz fds)(aG:Tw mg T.fns Mz)(aC:Ov K mg T Mz T.cls cas IR.cls)(aV:abi mg T.au6)(aB:AllB mg Ou)(hF:IR.fns[i]?=some F) :
 ∃d a f,Ds[i]?=some d/\Mz[i]?=some a/\fds[i]?=some f/\Binds K f d.ps []/\Ge P w K mg base CX0 (17*n) a f d.ps (spF (a1j cas T.Qw hfl) ⟨IR.call n,IR.cls⟩ K F.np i):=by
 let dd:Def:=⟨Str.empty,Str.empty,[],[]⟩
 let sd:Stmt:=.Pass ⟨0,0,0,0⟩
 obtain⟨d,s,g1,g2,g3⟩:=W6 hP hF;have all:∀(i:Nat)(F:MW.Fn),IR.fns[i]?=some F->∃d s a f,Ds[i]?=some d/\ss[i]?=some s/\Mz[i]?=some a/\fds[i]?=some f/\Fun K d.x d.qual s a f/\Binds K f d.ps []/\ako T d F s=true:=λi F e=>by obtain⟨d,s,g1,g2,g3⟩:=W6 hP e;obtain⟨s',a,f,k1,k2,k3,k4,k5⟩:=aF.get g1;rw[g2] at k1;cases k1;exact⟨d,s,a,f,g1,g2,k2,k3,k4,k5,g3⟩
 have df:∀{j:Nat}{a:Addr}{f:FuncData}{d:Def},Mz[j]?=some a->fds[j]?=some f->Ds[j]?=some d->(Mz[j]?).getD 0=a/\Ds[j]?.getD dd=d:=λe1 e2 e3=>⟨by rw[e1];rfl,by rw[e3];rfl⟩
 obtain⟨fd0,bkq⟩:∃fd0:FuncData,True:=by obtain⟨s',a,f,_⟩:=aF.get g1;exact⟨f,trivial⟩
 have main:=aif (nm:=a1j cas T.Qw hfl) (P:=P) (w:=w) (K:=K) (mg:=mg) (base:=base) (IR:=IR) (T:=T) (D:=λi=>Ds[i]?.getD dd) (st:=λi=>ss[i]?.getD sd) (fa:=λi=>(Mz[i]?).getD 0) (fd:=λi=>(fds[i]?).getD fd0)
  (λi hi=>by
   obtain⟨d,s,a,f,k1,k2,k3,k4,k5,k6,k7⟩:=all i IR.fns[i] (by simp[hi]);rw[k1,k2,k3,k4];exact k5)
  (λi F e=>by
   obtain⟨d,s,a,f,k1,k2,k3,k4,k5,k6,k7⟩:=all i F e;rw[k1,k2];exact k7)
  (λn G=>?_) n i F hF
 . obtain⟨d',s',a,f,k1,k2,k3,k4,k5,k6,k7⟩:=all i F hF
   refine⟨d',a,f,k1,k3,k4,k6,?_⟩;have:=main;rw[k1,k3,k4] at this;exact this
 ·
  have at_:∀{j:Nat}{F:MW.Fn}{a:Addr},IR.fns[j]?=some F->Mz[j]?=some a->∃(f:FuncData)(d:Def),Binds K f d.ps []/\Ge P w K mg base CX0 (17*n) a f d.ps (spF (a1j cas T.Qw hfl) ⟨IR.call n,IR.cls⟩ K F.np j)/\PySem.W.keepIn K (.ref a)=true:=fun{j F a} e1 e2=>by obtain⟨d,s,a',f,k1,k2,k3,k4,k5,k6,k7⟩:=all j F e1;rw[e2] at k3;cases k3;have g:=G j F e1;rw[k1,e2,k4] at g;exact⟨f,d,k6,g,k5.kp⟩
  have addr:∀{j:Nat}{F:MW.Fn},IR.fns[j]?=some F->∃a,Mz[j]?=some a:=fun{j F} e=>by obtain⟨d,s,a',f,k1,k2,k3,_⟩:=all j F e;exact⟨a',k3⟩
  refine⟨λf x m e=>?_,λc x m e=>?_,λm x j e=>?_,λf x e=>?_,λx i m=>aV.get m,λx m=>aB.get m⟩
  . obtain⟨F,e1,e2⟩:=agc (Lx h1 e)
    obtain⟨a,e3⟩:=addr e1;obtain⟨fd,d,b,g,kp⟩:=at_ e1 e3;rw[e2] at g;exact⟨a,fd,d.ps,g,aG.get e e3,kp,b⟩
  . obtain⟨C,cl,q1,q2,q3⟩:=aC.get e
    have z:=Lx h2 e;simp only[q2] at z;obtain⟨F,e1,e2⟩:=agc z;obtain⟨f,f1,f2⟩:=q3.ini;obtain⟨fd,d,b,g,kp⟩:=at_ e1 f1;rw[e2] at g;exact⟨C,f,fd,d.ps,cl,f2,g,q3.mg,b,q2,by show(cas[c]?).join=some C;rw[q1];rfl⟩
  . have z:=Lx h3 e
    simp only at z;split at z
    . rename_i cf hcf
      simp only[aq] at z;obtain⟨⟨z1,z2,z3⟩,z4,z5⟩:=z;obtain⟨F,e1,e2⟩:=agc z2;split at z4
      . rename_i p hp
        obtain⟨C,cl,q1,q2,q3⟩:=aC.get hp;rw[q2] at z5;simp only at z5;have mem:(m,cf.2)∈cl.meths:=mem_of_lookup (eq_of_beq z5);obtain⟨p',a,r1,r2,r3⟩:=q3.me.get mem;rw[e] at r1;cases r1;obtain⟨fd,d,b,g,kp⟩:=at_ e1 r2;rw[e2] at g;refine⟨C,a,fd,d.ps,cf.2,q3.cs,r3,g,b,λc' cl' hc' g' Ym=>?_,apx z3⟩;have y:=Lx z1 hc';simp only[Ym,aq] at y;have y1:c'=cf.1:=eq_of_beq y.1;exact⟨by show(cas[c']?).join=some C;rw[y1,q1];rfl,eq_of_beq y.2⟩
      . cases z4
    . cases z
  . refine⟨by show x=ad4 T.Qw f;unfold ad4;rw[e],λc C hC=>?_⟩
    have hC:(cas[c]?).join=some C:=hC;have hC2:cas[c]?=some (some C):=by
     cases q:cas[c]? with
     |none=>rw[q] at hC;cases hC
     |some o=>rw[q] at hC;cases o with
      |none=>cases hC|some C'=>cases hC;rfl
    obtain⟨y1,y2⟩:=aC.at hC2;exact⟨y1,y2.get (au e)⟩
def fN:abg K [] [] [] []:=trivial
def gN:Tw mg [] as:=trivial
def gS(h:mg p.1=some (.ref a))(t:Tw mg r as):Tw mg (some p::r) (a::as):=⟨h,t⟩
def gO(t:Tw mg r as):Tw mg (none::r) (a::as):=t
def mN:ad5 K C mts Mz []:=trivial
def mC(h1:mts[q.1]?=some p)(h2:Mz[q.2]?=some a)(m:Meth K C p.1 a)(t:ad5 K C mts Mz r):ad5 K C mts Mz (q::r):=⟨⟨p,a,h1,h2,m⟩,t⟩
def nN:abh K C []:=trivial
def nC(h:G8 K C x)(t:abh K C r):abh K C (x::r):=⟨h,t⟩
def cN:Ov K mg T Mz [] [] []:=trivial
def cO(t:Ov K mg T Mz r cs cls):Ov K mg T Mz (none::r) (none::cs) (cl::cls):=t
def cS(h:ClF K mg T Mz p.1 C cl)(t:Ov K mg T Mz r cs cls):Ov K mg T Mz (some p::r) (some C::cs) (cl::cls):=⟨h,t⟩
def vN:abi mg []:=trivial
def vC(h:mg p.1=some (.int p.2 t))(q:abi mg r):abi mg (p::r):=⟨⟨t,h⟩,q⟩
def bN:AllB mg []:=trivial
def bC(h:mg x=none)(q:AllB mg r):AllB mg (x::r):=⟨h,q⟩
noncomputable abbrev Lk(K:Fg)(f:Addr)(x q:Str)(st:Stmt)(oc:Value)(od:Option Addr)(kV dc pm:Value)(an:Option Addr)(cd ct:Value)(sl:Array (Option Value)):Prop :=
 K.lookup f=some ⟨oc,od,.func (PySem.W.fnOf x q (Jh st) (Gm st) (Bh st) .none kV dc pm an cd ct),sl⟩/\PySem.W.codeIn K cd q=true/\PySem.W.keepIn K (.ref f)=true
def bep{α:Type}{us:List α}(h:us.length=1):∃a,us=[a]:=match us,h with|[a],_=>⟨a,rfl⟩
def ber{α:Type}{us:List α}(h:us.length=2):∃a b,us=[a,b]:=match us,h with|[a,b],_=>⟨a,b,rfl⟩
def bes{α:Type}{us:List α}(h:us.length=3):∃a b c,us=[a,b,c]:=match us,h with|[a,b,c],_=>⟨a,b,c,rfl⟩
def bet{α:Type}{us:List α}(h:us.length=4):∃a b c d,us=[a,b,c,d]:=match us,h with|[a,b,c,d],_=>⟨a,b,c,d,rfl⟩
def beu{α:Type}{us:List α}(h:us.length=5):∃a b c d e,us=[a,b,c,d,e]:=match us,h with|[a,b,c,d,e],_=>⟨a,b,c,d,e,rfl⟩
def bev{α:Type}{us:List α}(h:us.length=6):∃a b c d e f,us=[a,b,c,d,e,f]:=match us,h with|[a,b,c,d,e,f],_=>⟨a,b,c,d,e,f,rfl⟩
def fE{kV:Value}(l:Lk K a d.x d.qual s oc od kV dc pm an cd ct sl)(r:abg K ds ss as fs)
 (b:∀(kV doc pm:Value)(an:Option Addr)(cdv ct:Value)(us:Zl),us.length=d.ps.length->bindArgs (PySem.W.fnOf d.x d.qual (Jh s) (Gm s) (Bh s) .none kV doc pm an cdv ct) ⟨us,[]⟩=pure (d.ps.zip us):=by intro _ _ _ _ _ _ us hl;first|(obtain⟨_,rfl⟩:=Ck.bep hl;rfl)|(obtain⟨_,_,rfl⟩:=Ck.ber hl;rfl)|(obtain⟨_,_,_,rfl⟩:=Ck.bes hl;rfl)|(obtain⟨_,_,_,_,rfl⟩:=Ck.bet hl;rfl)|(obtain⟨_,_,_,_,_,rfl⟩:=Ck.beu hl;rfl)|(obtain⟨_,_,_,_,_,_,rfl⟩:=Ck.bev hl;rfl)) :
 abg K (d::ds) (s::ss) (a::as) (PySem.W.fnOf d.x d.qual (Jh s) (Gm s) (Bh s) .none kV dc pm an cd ct::fs):=⟨⟨aof l.1 l.2.1 l.2.2,(aof l.1 l.2.1 l.2.2).binds b⟩,r⟩
noncomputable def aih(K:Fg):Sp:=λvs H Q _=>∃(a:Addr)(ns:Xs),vs=[.ref a]/\Only H/\Hf K H a (ns.map V.int)/\ns.length<=63/\∀H',Q (.bl true) H'
def avp(o:Only H)(h:Hf K H a vs):af1 K H a vs:=by
 rcases h with(h|h)|h
 . rcases o a with z|⟨ob,xs,z⟩<;>rw[z] at h<;>cases h
 . exact .inl h
 . exact .inr h
def avq(run:∀(ns:Xs),ns.length<=63->∃M',W.call i [.fz (ns.map MW.D.int)] []=.ok (.bl true) M')(h:aih K vs H Q E):spF nm W K 1 i vs H Q E:=by obtain⟨a,ns,rfl,o,hS,hl,k⟩:=h;obtain⟨M',e⟩:=run ns hl;refine⟨⟨[],[]⟩,[],_,_,M',⟨rfl,xf,by simp,λn o a h=>by simp at h⟩,.cons (.fz (avp o hS) (j6.ints ns)) .nil,rfl,e,fun ι' H' v le S' r=>?_⟩;cases r;exact k H'
def walk{l:PySem.W.OpenLaw}{K:Params->Fg}(hn:l.most=some 63)(hdf:d.params.defaults=[])(hY:∀(w:World) (h:Heap),YP w h->(K w.params).In h)(F:∀(w:World) (mg:Zs) (fa:Addr) (h:Heap),(K w.params).In h->h.Ns mainGlobals mg->mg d.name=some (.ref fa) ->
 ∃fd:FuncData,(∀(s:Shared) (u:Value),BindsTo s fd ⟨[u],[]⟩ [("script",u)])/\∀base:Heap,(K w.params).In base->base.Ns mainGlobals mg->Ge l.prog w (K w.params) mg base CX0 170 fa fd ["script"] (aih (K w.params))) :
 PySem.W.WalkO q loose XP YP l.row.toRowW d [] (λf vs=>PySem.call f vs) :=
 L2.atw (n:=63) (k:=170) (x := "script") (CX:=λ_=>CX0) (sp:=λw=>aih (K w.params)) hn (by decide) hdf ⟨rfl,by decide,by decide⟩ hY F (λ_ _ a ns hl ho hS=>⟨a,ns,rfl,ho,hS,hl,λ_=>rfl⟩) λ_ _ _ _ _ z=>z
end Ck
namespace K03
open PySem L2
noncomputable def top(i:Nat):Stmt:=PySem.Challenge.pw_mapwright_k03_worlds_looked_at.main.body.getD i (.Pass ⟨0,0,0,0⟩)
noncomputable def sts:List Stmt:=[inClass (top 7) 0,inClass (top 7) 1,inClass (top 7) 2,inClass (top 7) 3,inClass (top 7) 4,inClass (top 7) 5,top 8,top 9,top 10,top 11,top 12,top 13,top 21,top 22,top 23,top 24,top 25,top 26,top 27,top 28,top 29,top 15,top 16,top 17,top 18,top 19,top 30,top 31,top 32,top 33,top 34,top 35,top 36,top 37]
noncomputable def Ds:List Ck.Def:=[⟨"__init__", "Pattern.__init__",["self", "kinds", "doings", "table"],["self", "kinds", "doings", "table"]⟩,⟨"kinds", "Pattern.kinds",["self"],["self"]⟩,⟨"doings", "Pattern.doings",["self"],["self"]⟩,⟨"behind", "Pattern.behind",["self", "one", "other"],["self", "one", "other"]⟩,⟨"ways", "Pattern.ways",["self", "kind"],["self", "kind"]⟩,⟨"end", "Pattern.end",["self", "kind", "way"],["self", "kind", "way"]⟩,⟨"both_ways", "both_ways",["table", "one", "other"],["table", "one", "other"]⟩,⟨"meeting_pairs", "meeting_pairs",["doings", "pairs", "one", "ends", "other", "more"],["doings"]⟩,⟨"is_way_between", "is_way_between",["doings", "way", "start", "goal"],["doings", "way", "start", "goal"]⟩,⟨"check_doings", "check_doings",["kinds", "doings", "ends"],["kinds", "doings"]⟩,⟨"check_table", "check_table",["doings", "table", "pairs", "one", "other"],["doings", "table"]⟩,⟨"check_threes", "check_threes",["doings", "table", "pairs", "one", "other", "last", "ahead", "after"],["doings", "table"]⟩,⟨"_law_cell_at", "_law_cell_at",["script", "k"],["script", "k"]⟩,⟨"_law_state", "_law_state",["script", "k", "cell"],["script", "k"]⟩,⟨"_law_take", "_law_take",["state", "many", "found", "mixed"],["state", "many"]⟩,⟨"_law_begun", "_law_begun",["state", "way", "graph", "loops", "swap", "known", "kinds", "sizes", "found", "k", "one", "other"],["state"]⟩,⟨"_law_closed", "_law_closed",["begun", "found", "one", "other", "row", "k", "j", "first", "second", "more"],["begun"]⟩,⟨"_law_pattern", "_law_pattern",["state", "begun", "closed", "kinds", "table", "j", "k", "more"],["state"]⟩,⟨"_law_ways", "_law_ways",["pat", "kind"],["pat", "kind"]⟩,⟨"_law_end", "_law_end",["pat", "kind", "way"],["pat", "kind", "way"]⟩,⟨"_law_behind", "_law_behind",["pat", "one", "other"],["pat", "one", "other"]⟩,⟨"is_world", "is_world",["pattern", "world"],["pattern", "world"]⟩,⟨"has_sizes", "has_sizes",["pattern", "world", "sizes"],["pattern", "world"]⟩,⟨"has_acts", "has_acts",["pattern", "world", "sizes", "acts", "doings", "act", "ends"],["pattern", "world"]⟩,⟨"keeps_table", "keeps_table",["pattern", "world", "one", "other", "both", "thing", "between"],["pattern", "world"]⟩,⟨"led", "led",["world", "thing", "way"],["world", "thing", "way"]⟩,⟨"_law_merged", "_law_merged",["pat", "marks", "acts", "changed", "k", "one", "other", "first", "thing", "mark", "end", "low", "high"],["pat", "marks", "acts"]⟩,⟨"_law_world", "_law_world",["state", "pat", "most", "rows", "number", "kind", "some", "end", "way", "acts", "k", "one", "other", "marks", "low", "high", "heads", "told", "row"],["state", "pat", "most"]⟩,⟨"_law_led", "_law_led",["world", "thing", "way"],["world", "thing", "way"]⟩,⟨"_law_within", "_law_within",["row", "many", "most"],["row", "many", "most"]⟩,⟨"_law_is_world", "_law_is_world",["pat", "world", "sizes", "acts", "k", "one", "other", "thing"],["pat", "world"]⟩,⟨"_law_row_spoiled", "_law_row_spoiled",["state", "row", "most", "k", "way", "fresh"],["state", "row", "most"]⟩,⟨"_law_spoiled", "_law_spoiled",["state", "pat", "sizes", "acts", "way", "k", "size", "row"],["state", "pat", "sizes", "acts"]⟩,⟨"law", "law",["script", "k", "state", "pat", "pattern", "world", "j", "found"],["script"]⟩]
noncomputable def tab:Ck.Tab:=⟨[none,none,none,none,none,none,(some ("both_ways",3):Y2),(some ("meeting_pairs",1):Y2),(some ("is_way_between",4):Y2),(some ("check_doings",2):Y2),(some ("check_table",2):Y2),(some ("check_threes",2):Y2),(some ("_law_cell_at",2):Y2),(some ("_law_state",2):Y2),(some ("_law_take",2):Y2),(some ("_law_begun",1):Y2),(some ("_law_closed",1):Y2),(some ("_law_pattern",1):Y2),(some ("_law_ways",2):Y2),(some ("_law_end",3):Y2),(some ("_law_behind",3):Y2),(some ("is_world",2):Y2),(some ("has_sizes",2):Y2),(some ("has_acts",2):Y2),(some ("keeps_table",2):Y2),(some ("led",3):Y2),(some ("_law_merged",3):Y2),(some ("_law_world",3):Y2),(some ("_law_led",3):Y2),(some ("_law_within",3):Y2),(some ("_law_is_world",2):Y2),(some ("_law_row_spoiled",3):Y2),(some ("_law_spoiled",4):Y2),(some ("law",1):Y2)],[none,none,some ("Pattern",3)],[("kinds",0),("doings",0),("behind",2),("ways",1),("end",2)],["together", "doing_ends", "kind_count"],[("STAYING",-1),("MOST_KINDS",3),("MOST_DOINGS",5)]⟩
noncomputable def mcs:List (Nat×Nat):=[(2,1),(2,2),(2,3),(2,4),(2,5)]
def chk:Ck.avo tab prog.fns Ds sts=true:=by decide+kernel
def bew:Ck.apu tab.Qw=true:=by decide+kernel
def bex:Ck.tfB prog.fns tab.fns=true:=by decide+kernel
def bey:Ck.tcB prog tab.cls=true:=by decide+kernel
def bez:Ck.tmB prog tab mcs=true:=by decide+kernel
open MW
noncomputable def Ly(hs:List F)(k i:Nat):Bool:=match hs[i]? with|some f=>decide (f.a=k)|none=>false
noncomputable def wj(hs:List F)(k:Nat):List D:=.int (-1)::((List.range hs.length).filter (Ly hs k)).map nD
def Ey(h:d∈wj hs k):d=.int (-1)\/∃(i:Nat)(f:F),d=.int i/\hs[i]?=some f/\f.a=k:=by
 rcases bz.mp h with q|q
 . exact .inl q
 . obtain⟨i,hi,rfl⟩:=bf.mp q
   obtain⟨h1,h2⟩:=ux.mp hi;have hil:=jz.mp h1;have e:hs[i]?=some hs[i]:=by simp[hil]
   rw[Ly,e] at h2;exact .inr ⟨i,hs[i],rfl,e,by simpa using h2⟩
def apy(h:d∈wj hs k):∃i:Int,d=.int i:=by rcases Ey h with rfl|⟨i,f,rfl,_⟩<;>exact⟨_,rfl⟩
def ad6(hl:hs.length<=5):(wj hs k).length<=6:=by have:=Ab (Ly hs k) (List.range hs.length);simp at this;simp[wj];exact a_ this hl
noncomputable def vm(K r:Nat)(hs:List F):D:=.tup [.int K,Ih hs,.ref r]
def Mt(K r:Nat)(hs:List F)(M:cz):zb (vm K r hs) (.int 0) M=some (.int K):=rfl
def Di(K r:Nat)(hs:List F)(M:cz):zb (vm K r hs) (.int 1) M=some (Ih hs):=rfl
def ad7(K r:Nat)(hs:List F)(M:cz):zb (vm K r hs) (.int 2) M=some (.ref r):=rfl
def Made.keep(h:Made n r K hs gq M)(k:Be M M'):Made n r K hs gq M':=⟨k _ _ h.1,k _ _ h.2⟩
def Made.f2(h:Made n r K hs gq M):Q4 (.ref n) 2 M=some (.int K):=by simp[Q4,h.1,List.lookup]
def Made.f1(h:Made n r K hs gq M):Q4 (.ref n) 1 M=some (Ih hs):=by simp[Q4,h.1,List.lookup]
def Made.f0(h:Made n r K hs gq M):Q4 (.ref n) 0 M=some (.ref r):=by simp[Q4,h.1,List.lookup]
def kinds_ok(hm:1<=m)(h:Made n r K hs gq M):prog.call m 1 [.ref n] M=.ok (.int K) M:=by rw[call_of hm rfl];simp[Fn.run,Mg,Mf,h.f2]
def Pq(hm:1<=m)(h:Made n r K hs gq M):prog.call m 2 [.ref n] M=.ok (Ih hs) M:=by rw[call_of hm rfl];simp[Fn.run,J7,J6,h.f1]
def Ze(hm:2<=m)(h:Made n r K hs gq M)(hv:bothW hs gq x y=some v):prog.call m 3 [.ref n,.int x,.int y] M=.ok v M:=by rw[call_of (by omega) rfl];simp[Fn.run,J9,J8,h.f0,aaj (show 1<=m-1 by omega) h.2 hv]
def apz(hm:1<=m)(hl:hs.length<=5){k:Nat}:prog.call m 18 [vm K r hs,.int k] M=.ok (.vl (wj hs k)) M:=by
 rw[call_of hm rfl];have hc:Jm.den ⟨prog.call (m-1),prog.cls⟩ [some (vm K r hs),some (.int k)] M=.ok (.vl (((List.range hs.length).filter (Ly hs k)).map nD)) M:=by
  unfold Jm;rw[Vz (n:=hs.length) (M1:=M) (q:=Ly hs k) (g:=nD) (by simp[Di,By]) (a_ hl (by decide)) (λi hi=>by
   have e:hs[i]?=some hs[i]:=by simp[hi]
   refine⟨_,rfl,?_,λ_=>?_⟩
   . simp[-eq_int,Di,Kg e,Rf,Bp,Ly,hi]
   . simp[nD])]
  simp
 have:=Yk (M:=M) [.int (-1)] (((List.range hs.length).filter (Ly hs k)).map nD) (by
  have:=Ab (Ly hs k) (List.range hs.length);simp at this ⊢
  lia)
 simp[Fn.run,Uc,Ub,hc,this,wj]
def avr(hm:1<=m){k i:Nat}(hf:hs[i]?=some f):prog.call m 19 [vm K r hs,.int k,.int i] M=.ok (.int f.b) M:=by
 rw[call_of hm rfl];have ni:¬((i:Int)<0):=by lia
 simp[Fn.run,Qs,Qq,ni,Di,Kg hf,Ug]
def akp(hm:1<=m){k:Nat}:prog.call m 19 [vm K r hs,.int k,.int (-1)] M=.ok (.int k) M:=by rw[call_of hm rfl];simp[Fn.run,Qs,Qq]
def agd(hm:1<=m)(hr:M[r']?=some (.dT gq))(hx:-1<=x)(hy:-1<=y)(hv:bothW hs gq x y=some v):prog.call m 20 [vm K r' hs,.int x,.int y] M=.ok v M:=by
 rw[call_of hm rfl];unfold bothW at hv
 by_cases ex:x=-1
 . rw[dh ex] at hv;cases hv
   subst ex;have:(-1:Int)+y+1=y:=by lia
   simp[Fn.run,Gk,Gj,this]
 . rw[bx ex] at hv
   have nx:¬x<0:=by lia
   by_cases ey:y=-1
   . rw[dh ey] at hv;cases hv
     subst ey;have:x+(-1:Int)+1=x:=by lia
     simp[Fn.run,Gk,Gj,nx,this]
   . rw[bx ey] at hv
     have ny:¬y<0:=by lia
     simp[Fn.run,Gk,Gj,nx,ny,ad7,ab6 hr (Vw x y),hv]
def Vg(ho:o.den W ρ M=.ok (.ref n) M)(he:es.den W ρ M=.ok ds M)(hn:M[n]?=some (.ins c fs))(hm:(W.cls[c]?).bind (λC=>C.meths.lookup mm)=some fi) :
 (Ex.meth o mm es).den W ρ M=W.call fi (.ref n::ds) M:=by
 rw[Cu,ho,Res.Bs,he,Res.Bs];simp only[hn,hm]
end K03
namespace MW
end MW
namespace K03
open MW
noncomputable def Ci(hs:List F)(k:Nat):D->Nat
 |.int i=>if i=-1 then k else match hs[i.toNat]? with|some f=>f.b|none=>0
 |_=>0
noncomputable def wT(hs:List F)(k g:Nat):List D:=(wj hs k).filter λd=>decide (Ci hs k d=g)
def abj(h:d∈wT hs k g):d∈wj hs k/\Ci hs k d=g:=by have:=ux.mp h;exact⟨this.1,by simpa using this.2⟩
def Gn{i:Nat}(h:hs[i]?=some f):Ci hs k (.int i)=f.b:=by
 have:¬((i:Int)=-1):=by lia
 simp[Ci,this,h]
def abk{i:Nat}(h:hs[i]?=some f)(e:f.a=k):.int i∈wj hs k:=by refine bu _ (bf.mpr ⟨i,ux.mpr ⟨jz.mpr (ao.mp h).1,?_⟩,rfl⟩);simp[Ly,h,e]
def aw8{i:Nat}(h:hs[i]?=some f)(e:f.a=k):.int i∈wT hs k f.b :=
 ux.mpr ⟨abk h e,by simp[Gn h]⟩
def a1l(h:d∈wT hs k g):∃i:Int,d=.int i:=apy (abj h).1
noncomputable def bv(hs:List F)(gq:List (List Kx×D))(j:Nat):D->Int
 |.int x=>match bothW hs gq x j with|some (.int v)=>v|_=>0
 |_=>0
def aii(P:Nb sz K hs gq){j:Nat}(hj:hs[j]?=some f)(hd:d∈wT hs k f.a) :
 ∃x:Int,d=.int x/\-1<=x/\bothW hs gq x j=some (.int (bv hs gq j d))/\.int (bv hs gq j d)∈wT hs k f.b:=by
 obtain⟨h1,h2⟩:=abj hd;have nj:¬((j:Int)=-1):=by lia
 rcases Ey h1 with rfl|⟨i,g,rfl,hg,e⟩
 . have e:k=f.a:=by simpa[Ci] using h2
   have:bothW hs gq (-1) j=some (.int j):=by simp[bothW]
   refine⟨-1,rfl,by lia,by simp[bv,this],?_⟩;simp only[bv,this];exact aw8 hj e.symm
 . rw[Gn hg] at h2
   have ni:¬((i:Int)=-1):=by lia
   have:bothW hs gq i j=some (.int (ent hs g f)):=by rw[bothW,bx ni,bx nj];exact P.look hg hj h2
   refine⟨i,rfl,by lia,by simp[bv,this],?_⟩;simp only[bv,this];have mg:=au hg;have mf:=au hj;rw[Ln];rcases P.Du (P.cl g mg f mf h2) with⟨x1,i1⟩|⟨u,hu,x1⟩
   . rw[x1]
     refine ux.mpr ⟨by simp[wj],?_⟩;have:g.a=f.b:=i1.1;simp[Ci,<- e,this]
   . rw[x1]
     exact aw8 (f:=g.comp f) hu e
noncomputable def ixI(v:Int)(ds:List D):Nat:=(ds.findIdx? λd=>match d with|.int i=>decide (i=v)|_=>false).getD 0
theorem ad8(M:cz)(v:Int):∀ds:List D,(∀d∈ds,∃i:Int,d=.int i)->Qm M (.int v) ds=some (ds.map λd=>match d with|.int i=>decide (i=v)|_=>false)
 |[],_=>rfl
 |d::l,h=>by
  obtain⟨i,rfl⟩:=h d (by simp);simp[Qm,ad8 M v l (λx hx=>h x (bu _ hx))]
theorem ad9{α:Type}(f:α->Bool):∀l:List α,(l.map f).findIdx? id=l.findIdx? f
 |[]=>rfl|a::l=>by simp[List.findIdx?_cons,ad9 f l]
def ap0(hi:∀d∈ds,∃i:Int,d=.int i)(h:.int v∈ds):Jz .index (.vl ds) [.int v] M=.ok (.int (ixI v ds)) M:=by
 have e:Xn M (.int v) ds=some (ixI v ds):=by
  rw[Xn,ad8 M v ds hi,uh,ad9];unfold ixI;cases q:ds.findIdx? (λd=>match d with|.int i=>decide (i=v)|_=>false) with
  |some j=>rfl
  |none =>
   rw[uz] at q;have:=q _ h;simp at this
 simp[Jz,e]
end K03
namespace K03
open MW
def ap1(hm:1<=m)(hd:d∈wj hs k):prog.call m 19 [vm K r hs,.int k,d] M=.ok (.int (Ci hs k d)) M:=by
 rcases Ey hd with rfl|⟨i,f,rfl,hf,_⟩
 . rw[akp hm];simp[Ci]
 . rw[avr hm hf,Gn hf]
noncomputable def RS(p K:Nat)(rs:Nat->List D)(M:cz):Prop:=∀i,i<K->M[p+i]?=some (.lst (rs i))
noncomputable def wk(p K:Nat):List D:=(List.range K).map λi=>.ref (p+i)
theorem RS.keep(h:RS p K rs M)(s:St t f M M')(ht:t<p):RS p K rs M':=λi hi=>s.keep _ _ (i_ (b_ ht x_)) (h i hi)
def abl(hi:i<K):zb (.vl (wk p K)) (.int i) M=some (.ref (p+i)):=De rfl q_ (by simp[wk,hi])
def ap2(hy:y=ρ.length)(he:e.den W ρ M=.ok (.int K) M)(hK:K<=100000) :
 (Ex.comp true 1 (.name y) (.O7 e) (.lst .nil)).den W ρ M=.ok (.vl (wk M.length K)) (M++List.replicate K (.lst [])):=by
 subst hy;obtain⟨ys,M',g,h1,h2⟩:=Z6 (v:=true) (k:=1) (t:=.name ρ.length) (e:=.lst .nil) he hK (λi xs M'=>xs=wk M.length i/\M'=M++List.replicate i (.lst [])) ⟨rfl,by simp⟩
  (λi xs M' hi hI=>by
   obtain⟨rfl,rfl⟩:=hI;refine⟨_,.ref (M.length+i),M++List.replicate i (MO.lst [])++[MO.lst []],rfl,by simp[MW.new],?_,?_⟩
   . simp[wk,List.range_succ]
   . simp[List.replicate_succ'])
 rw[g,h1,h2];rfl
noncomputable def rowsOf(hs:List F)(ad:List (Nat×Nat))(e:Nat):List D:=ad.flatMap λp=>(wT hs p.2 e).map λw=>.tup [.int p.1,.int p.2,w]
def W7(hs:List F)(ad:List (Nat×Nat))(p:Nat×Nat)(e:Nat):rowsOf hs (ad++[p]) e=rowsOf hs ad e++(wT hs p.2 e).map λw=>.tup [.int p.1,.int p.2,w]:=by simp[rowsOf]
def avs(P:Nb sz K hs gq)(hk:k<K)(hd:d∈wj hs k):Ci hs k d<K:=by
 rcases Ey hd with rfl|⟨i,f,rfl,hf,_⟩
 . simpa[Ci] using hk
 . rw[Gn hf];exact P.V4 f (au hf)
def avt(hm:1<=m)(hl:hs.length<=5)(h1:ρ[1]?=some (some (vm K r hs)))(h5:ρ[5]?=some (some (.int k)))(hy:ρ.length=19) :
 Ie.den ⟨prog.call m,prog.cls⟩ ρ M=.ok (.vl ((wj hs k).map λw=>.tup [.int (Ci hs k w),w])) M:=by
 unfold Ie;rw[Ay (d:=.vl (wj hs k)) (ds:=wj hs k) (M1:=M) (g:=λw=>.tup [.int (Ci hs k w),w]) (by simp[h1,h5,apz hm hl]) rfl (gm (ad6 hl) (by decide)) (λx hx=>by
  refine⟨_,rfl,?_⟩;have e1:(ρ++List.replicate 1 none).set 19 (some x)=ρ++[some x]:=by rw[List.set_append];simp[hy]
  rw[e1];have g1:(ρ++[some x])[1]?=some (some (vm K r hs)):=by rw[du (b_ (by decide) (g_ hy))];exact h1
  have g5:(ρ++[some x])[5]?=some (some (.int k)):=by rw[du (b_ (by decide) (g_ hy))];exact h5
  have g9:(ρ++[some x])[19]?=some (some x):=by rw[<- hy];simp
  simp[g1,g5,g9,ap1 hm hx])]
 rfl
noncomputable def Zf(p:Nat)(M M':cz):Prop:=∀(a:Nat)(o:MO),a<p->M[a]?=some o->M'[a]?=some o
def Zf.refl(p:Nat)(M:cz):Zf p M M:=λ_ _ _ h=>h
def Zf.trans(a:Zf p M M1)(b:Zf p M1 M2):Zf p M M2:=λx o h e=>b x o h (a x o h e)
theorem Zf.set(h:p<=q):Zf p M (M.set q o):=λa u ha e=>by rw[uq (i_ (b_ ha h))];exact e
noncomputable def Zg(n k:Nat)(w:D):D:=.tup [.int n,.int k,w]
def aw9(n k:Nat)(w:D):D.tup [.int n,.int k,w]=Zg n k w:=rfl
noncomputable def abm(hs:List F)(rs:Nat->List D)(n k j:Nat)(e:Nat):List D:=rs e++(((wj hs k).take j).filter λw=>decide (Ci hs k w=e)).map (Zg n k)
def ap3(hs:List F)(rs:Nat->List D)(n k e:Nat):abm hs rs n k (wj hs k).length e=rs e++(wT hs k e).map (Zg n k):=by unfold abm wT;rw[List.take_length]
def ap4(hl:hs.length<=5)(h7:(rs e).length<=7):(abm hs rs n k j e).length<=13:=by
 have h1:=Ab (λw=>decide (Ci hs k w=e)) ((wj hs k).take j);have h2:=ad6 (k:=k) hl;have h3:((wj hs k).take j).length<=(wj hs k).length:=by simp;lia
 simp only[abm,ue,dw]
 lia
def Zt(P:Nb sz K hs gq)(hk:k<K)(h:RS p K rs M)(h7:∀e,e<K->(rs e).length<=7)(hr:rest.length=10) :
 ∃b7 b8 M',Oa.den W ([a0,a1,a2,some (.vl (wk p K)),some (.int n),some (.int k),some (.vl ((wj hs k).map λw=>.tup [.int (Ci hs k w),w])),b7',b8']++rest) M
  = .ok (.next,[a0,a1,a2,some (.vl (wk p K)),some (.int n),some (.int k),some (.vl ((wj hs k).map λw=>.tup [.int (Ci hs k w),w])),b7,b8]++rest) M'/\RS p K (λe=>rs e++(wT hs k e).map (Zg n k)) M'/\Zf p M M'/\M'.length=M.length:=by
 have hl:=P.len;obtain⟨ρ',M',e,⟨c7,c8,rfl⟩,r1,r2,r3⟩:=K4 (W:=W) (t:=.names [7,8]) (b:=Eo) (it:=.v 6) (d:=.vl ((wj hs k).map λw=>.tup [.int (Ci hs k w),w])) (ds:=(wj hs k).map λw=>.tup [.int (Ci hs k w),w])
  (ρ:=[a0,a1,a2,some (.vl (wk p K)),some (.int n),some (.int k),some (.vl ((wj hs k).map λw=>.tup [.int (Ci hs k w),w])),b7',b8']++rest) (M:=M) (M1:=M) (by simp) rfl
  (λj ρ M'=>(∃b7 b8:Option D,ρ=[a0,a1,a2,some (.vl (wk p K)),some (.int n),some (.int k),some (.vl ((wj hs k).map λw=>.tup [.int (Ci hs k w),w])),b7,b8]++rest)/\RS p K (abm hs rs n k j) M'/\Zf p M M'/\M'.length=M.length)
  ⟨⟨b7',b8',rfl⟩,λi hi=>by rw[h i hi];simp[abm],Zf.refl _ _,rfl⟩ (λ_ _ _ _=>rfl)
  (λj x ρ M1 hx hI=>by
   obtain⟨⟨c7,c8,rfl⟩,q1,q2,q3⟩:=hI;obtain⟨w,hw,rfl⟩:∃w,(wj hs k)[j]?=some w/\D.tup [.int (Ci hs k w),w]=x:=by simpa using hx
   have hwm:=au hw;have he:=avs P hk hwm;have g:=q1 _ he;have ap:=K3 (d:=Zg n k w) g (by have:=ap4 (n:=n) (k:=k) (j:=j) hl (h7 _ he);exact c_ this (by decide));refine⟨_,.next,_,M1.set (p+Ci hs k w) (.lst (abm hs rs n k j (Ci hs k w)++[Zg n k w])),Gp _ _ _ _ _,?_,.inl rfl,⟨some (.int (Ci hs k w)),some w,rfl⟩,?_,q2.trans (Zf.set x_),by simp[q3]⟩
   . show Eo.den W (a0::a1::a2::some (.vl (wk p K))::some (.int n)::some (.int k)::some (.vl ((wj hs k).map λw=>.tup [.int (Ci hs k w),w]))::some (.int (Ci hs k w))::some w::rest) M1=_
     simp[Eo,abl he,K1 g,aw9,ap]
   . intro i hi
     have e1:(wj hs k).take (j+1)=(wj hs k).take j++[w]:=by rw[List.take_succ,hw];rfl
     by_cases z:i=Ci hs k w
     . subst z
       rw[v8 g];simp[abm,e1,List.filter_append]
     . rw[uq (by lia),q1 i hi]
       simp[abm,e1,List.filter_append,j0 z])
 refine⟨c7,c8,M',e,λi hi=>?_,r2,r3⟩;rw[r1 i hi];simp only[dw];rw[ap3]
structure Gs(t:Nat)(f:Bool)(p:Nat)(M M':cz):Prop where
 has:Rb t f M'
 low:∀(a:Nat)(o:MO),a<p->a≠t->M[a]?=some o->M'[a]?=some o
 len:M.length<=M'.length
def Gs.trans(a:Gs t f p M M1)(b:Gs t f p M1 M2):Gs t f p M M2:=⟨b.has,λx o h n e=>b.low x o h n (a.low x o h n e),gm a.len b.len⟩
def Gs.aea(s:St t f M M1):Gs t f p M M1:=⟨s.has,λa o _ n e=>s.keep a o n e,s.len⟩
def Zf.has(h:Rb t f M)(l:Zf p M M1)(ht:t<p):Rb t f M1:=by obtain⟨n,e,o⟩:=h;exact⟨n,l _ _ ht e,o⟩
def Gs.ap5(h:Rb t f M)(l:Zf p M M1)(ht:t<p)(hl:M.length<=M1.length):Gs t f p M M1:=⟨l.has h ht,λa o x _ e=>l a o x e,hl⟩
def Gs.refl(h:Rb t f M):Gs t f p M M:=⟨h,λ_ _ _ _ e=>e,bw _⟩
def Gs.st(g:Gs t f M.length M M1):St t f M M1:=⟨g.len,g.has,λa o n e=>g.low a o (yj e) n e⟩
def Gs.app(h:Rb t f M)(hp:p<=M.length)(X:cz):Gs t f p M (M++X):=⟨by obtain⟨n,e,o⟩:=h;exact⟨n,yg e,o⟩,λa o _ _ e=>yg e,by simp⟩
def avu(hy:ρ.length=y)(h3:ρ[3]?=some (some (.vl (wk p K))))(h:RS p K rs M)(hK:K<=3) :
 (Ex.comp true 1 (.name y) (.val (.v 3)) (.blt .len (.o (.var y)))).den W ρ M=.ok (.vl (((List.range K).map λi=>(rs i).length).map nD)) M:=by
 subst hy;rw[Ay (d:=.vl (wk p K)) (ds:=wk p K) (M1:=M) (g:=λd=>match qx .len [d] M with|.ok x _=>x|_=>.non) (by simp[h3]) rfl (by simp[wk];exact a_ hK (by decide)) (λd hd=>by
  obtain⟨i,hi,rfl⟩:=bf.mp hd;refine⟨_,rfl,?_⟩;simp[len_list (p8 (h i (jz.mp hi)))])]
 simp only[jy,wk,o7]
 congr 2
 apply j8;intro i hi;simp[len_list (p8 (h i (jz.mp hi))),nD]
structure Rw(hs:List F)(K p:Nat)(ad:List (Nat×Nat))(M:cz):Prop where
 rs:RS p K (rowsOf hs ad) M
 kd:∀q∈ad,q.2<K
 le:∀e,e<K->(rowsOf hs ad e).length<=7
 nd:(ad.map (·.1)).Nodup
def avv(hm:1<=m)(P:Nb sz K hs gq)(hh:Rb t f M)(ht:t<p)(h:Rw hs K p ad M)(hn:∀q∈ad,q.1<n)(hr:rest.length=10) :
 ∃c5 c6 c7 c8 ad' M',Cw.den ⟨prog.call m,prog.cls⟩ ([some (.ref t),some (vm K r hs),some (.int 3),some (.vl (wk p K)),some (.int n),b5,b6,b7,b8]++rest) M
  = .ok (.next,[some (.ref t),some (vm K r hs),some (.int 3),some (.vl (wk p K)),some (.int n),c5,c6,c7,c8]++rest) M'/\Rw hs K p ad' M'/\(∀q∈ad',q.1<n+1)/\Gs t f p M M'/\M'.length=M.length:=by
 have hl:=P.len;have h3:=P.k3;obtain⟨k,M1,e1,l1,s1,n1⟩:=yt (many:=K) hm hh (by have:=P.k1;exact m_ this) (m_ (c_ h3 (by decide)));have hk:k<K:=o_ l1
 have r1:=h.rs.keep s1 ht;have c9:=avt (M:=M1) (r:=r) (K:=K) (hs:=hs) (ρ:=[some (.ref t),some (vm K r hs),some (.int 3),some (.vl (wk p K)),some (.int n),some (.int k),b6,b7,b8]++rest) (k:=k) hm hl rfl rfl (by simp[hr]);have c8:=avu (W:=⟨prog.call m,prog.cls⟩) (M:=M1) (ρ:=[some (.ref t),some (vm K r hs),some (.int 3),some (.vl (wk p K)),some (.int n),some (.int k),some (.vl ((wj hs k).map λw=>.tup [.int (Ci hs k w),w])),b7,b8]++rest) (y:=19) (by simp[hr]) rfl r1 h3;obtain⟨v,e3,v1,v2⟩:=am1 (M:=M1) (xs:=(List.range K).map λi=>(rowsOf hs ad i).length) (by have:=P.k1;intro z;have:=o4 List.length z;simp at this;exact l_ (o_ l1) (a_ (f_ this) (mq _)));generalize hL:(D.vl (((List.range K).map λi=>(rowsOf hs ad i).length).map nD))=L at e3 c8;have hlen:qx .len [.vl ((wj hs k).map λw=>D.tup [.int (Ci hs k w),w])] M1=.ok (.int (wj hs k).length) M1:=by simp[qx,Dt]
 by_cases q:v+(wj hs k).length<8
 . have q':(v:Int)+((wj hs k).length:Int)<8:=by lia
   obtain⟨d7,d8,M2,e4,r2,lo,n2⟩:=Zt (W:=⟨prog.call m,prog.cls⟩) (M:=M1) P (n:=n) hk r1 h.le (a0:=some (.ref t)) (a1:=some (vm K r hs)) (a2:=some (.int 3)) (b7':=b7) (b8':=b8) (rest:=rest) hr;refine⟨some (.int k),some (.vl ((wj hs k).map λw=>D.tup [.int (Ci hs k w),w])),d7,d8,ad++[(n,k)],M2,?_,⟨λi hi=>?_,λq hq=>?_,λe he=>?_,?_⟩,λq hq=>?_,(Gs.aea s1).trans (Gs.ap5 s1.has lo ht (g_ n2)),n2.trans n1⟩
   . simp only[yx,xm] at c9 c8 e4 ⊢
     simp[Cw,Mt,e1,c9,Ib,c8,e3,hlen,q',e4]
   . rw[r2 i hi,W7];rfl
   . rcases dm.mp hq with z|z
     . exact h.kd q z
     . have:q=(n,k):=by simpa using z
       rw[this];exact hk
   . rw[W7,ue,dw]
     have a1:=v1 (rowsOf hs ad e).length (bf.mpr ⟨e,jz.mpr he,rfl⟩);have a2:(wT hs k e).length<=(wj hs k).length:=Ab _ _
     simp only
     lia
   . rw[qd]
     refine yc.mpr ⟨h.nd,by simp,λa ha b hb=>?_⟩;obtain⟨q,hq,rfl⟩:=bf.mp ha;have:b=n:=by simpa using hb
     have:=hn q hq
     lia
   . rcases dm.mp hq with z|z
     . have:=hn q z;exact A_ (e_ this)
     . have:q=(n,k):=by simpa using z
       rw[this];exact o8 n
 . have q':¬(v:Int)+((wj hs k).length:Int)<8:=by lia
   refine⟨some (.int k),some (.vl ((wj hs k).map λw=>D.tup [.int (Ci hs k w),w])),b7,b8,ad,M1,?_,⟨r1,h.kd,h.le,h.nd⟩,λq hq=>by have:=hn q hq;exact A_ (e_ this),Gs.aea s1,n1⟩;simp only[yx,xm] at c9 c8 ⊢;simp[Cw,Mt,e1,c9,Ib,c8,e3,hlen,q']
theorem aij{M:cz}{x:D}:∀{ds:List D},(∀y∈ds,∃b,wz M y x=some b)->∃bs:List Bool,Qm M x ds=some bs/\bs.length=ds.length/\∀(i:Nat)(y:D),ds[i]?=some y->(bs[i]?).map some=some (wz M y x)
 |[],_=>⟨[],rfl,rfl,λi y h=>by simp at h⟩
 |y::l,h=>by
  obtain⟨b,hb⟩:=h y (by simp);obtain⟨bs,h1,h2,h3⟩:=aij (λz hz=>h z (bu _ hz));refine⟨b::bs,by simp[Qm,hb,h1],by simp[h2],λi z hz=>?_⟩;cases i with
  |zero=>simp at hz;subst hz;simp[hb]|succ i=>simpa using h3 i z (by simpa using hz)
def a1m(h:∀y∈ds,∃b,wz M y x=some b)(hx:x∈ds)(he:wz M x x=some true):∃j y,Xn M x ds=some j/\ds[j]?=some y/\wz M y x=some true:=by
 obtain⟨bs,h1,h2,h3⟩:=aij h;obtain⟨i,hi,ei⟩:=jo hx;have h4:=h3 i x (by simp[hi,ei]);rw[he] at h4;obtain⟨b,e1,e2⟩:=cu.mp h4;cases e2;rw[Xn,h1,uh];cases q:bs.findIdx? id with
 |some j =>
  obtain⟨g1,g2,_⟩:=qg.mp q;have g3:ds[j]?=some (ds[j]'(b_ g1 (f_ h2))):=bc (b_ g1 (f_ h2));have g4:=h3 j _ g3;rw[bc g1] at g4;simp only[vy,yd] at g4;exact⟨j,_,rfl,g3,by rw[<- g4];simpa using g2⟩
 |none =>
  rw[uz] at q;have:=q true (au e1);simp at this
def avw(hp:M[p]?=some (.lst ds))(h:∀y∈ds,∃b,wz M y x=some b)(hx:x∈ds)(he:wz M x x=some true):∃(j:Nat)(y:D),Jz .index (.ref p) [x] M=.ok (.int j) M/\ds[j]?=some y/\wz M y x=some true:=by obtain⟨j,y,h1,h2,h3⟩:=a1m h hx he;exact⟨j,y,by simp[Jz,Vv (p8 hp),h1],h2,h3⟩
def avx(hp:M[p]?=some (.lst ds)):Qn .index (.ref p) M=true:=by simp[Qn,p8 hp]
def ap6(M:cz)(n k n' k':Nat)(a a':Int):wz M (Zg n k (.int a)) (Zg n' k' (.int a'))=some (decide (n=n')&&(decide (k=k')&&(decide (a=a')&&true))):=by show Sg (Mw M 5) [.int n,.int k,.int a] [.int n',.int k',.int a']=_;rw[Ei (Lh M 4 n n') (Ei (Lh M 4 k k') (Ei (agw 4 a a') (show Sg (Mw M 5) [] []=some true from rfl)))]
def Im(h:d∈rowsOf hs ad e):∃(n k:Nat)(x:Int),(n,k)∈ad/\.int x∈wT hs k e/\d=Zg n k (.int x):=by obtain⟨q,hq,hd⟩:=List.mem_flatMap.mp h;obtain⟨w,hw,rfl⟩:=bf.mp hd;obtain⟨x,rfl⟩:=a1l hw;exact⟨q.1,q.2,x,hq,hw,rfl⟩
def akq(h:(n,k)∈ad)(hw:w∈wT hs k e):Zg n k w∈rowsOf hs ad e :=
 List.mem_flatMap.mpr ⟨(n,k),h,bf.mpr ⟨w,hw,rfl⟩⟩
structure Ae(hs:List F)(gq:List (List Kx×D))(ad:List (Nat×Nat))(j:Nat)(g:F)(js:Y3):Prop where
 len:js.length=(rowsOf hs ad g.a).length
 go:∀(i n k:Nat)(x:Int),(rowsOf hs ad g.a)[i]?=some (Zg n k (.int x))->(rowsOf hs ad g.b)[js.getD i 0]?=some (Zg n k (.int (bv hs gq j (.int x))))
def ap7(h:i<l.length):(l++[x]).getD i 0=l.getD i 0:=by rw[cj,du h,cj]
def Ae.lt(h:Ae hs gq ad j g js):∀x∈js,x<(rowsOf hs ad g.b).length:=λx hx=>by
 obtain⟨i,hi,rfl⟩:=jo hx;have hi2:i<(rowsOf hs ad g.a).length:=by rw[<- h.len];exact hi
 obtain⟨n,k,y,_,_,e⟩:=Im (lq hi2);have:=h.go i n k y (by rw[bc hi2,e]);rw[cj,bc hi] at this;exact(ao.mp this).1
def a1n(hm:1<=m)(P:Nb sz K hs gq)(hr:M[r]?=some (.dT gq)){j:Nat}(h:Rw hs K p ad M)(hj:hs[j]?=some g)(a83:rest.length=6) :
 ∃js:List Nat,Hz.den ⟨prog.call m,prog.cls⟩ ([a0,some (vm K r hs),a2,some (.vl (wk p K)),a4,a5,a6,a7,a8,a9,some (.int j),some (.int g.a),some (.int g.b)]++rest) M=.ok (.vl (js.map nD)) M /\
  Ae hs gq ad j g js:=by
 have hg:=au hj;have ha:=P.Xu g hg;have hb:=P.V4 g hg;have ga:=h.rs _ ha;have gb:=h.rs _ hb;unfold Hz;obtain⟨ys,M',e,hI⟩:=Jl (W:=⟨prog.call m,prog.cls⟩) (v:=true) (k:=3) (t:=.names [19,20,21]) (it:=.ix (.v 3) (.v 11)) (e:=.bm .index (.ix (.v 3) (.v 12)) (.o (.tup (.q (.v 19) (.v 20) (.call 20 (.q (.v 1) (.v 21) (.v 10)))))))
  (ρ:=[a0,some (vm K r hs),a2,some (.vl (wk p K)),a4,a5,a6,a7,a8,a9,some (.int j),some (.int g.a),some (.int g.b)]++rest) (M:=M) (M1:=M) (d:=.ref (p+g.a)) (ds:=rowsOf hs ad g.a) (by simp[abl ha]) (p8 ga) (by have:=h.le _ ha;exact a_ this (by decide))
  (λi xs M'=>M'=M/\∃js:List Nat,xs=js.map nD/\js.length=i/\∀(i' n k:Nat)(x:Int),i'<i->(rowsOf hs ad g.a)[i']?=some (Zg n k (.int x))->(rowsOf hs ad g.b)[js.getD i' 0]?=some (Zg n k (.int (bv hs gq j (.int x))))) ⟨rfl,[],rfl,rfl,by simp⟩ (λi xs M' h=>by rw[h.1];exact p8 ga)
  (λi y xs M' hy hI=>by
   obtain⟨rfl,js,rfl,q1,q2⟩:=hI;obtain⟨n,k,x,h1,h2,rfl⟩:=Im (au hy);obtain⟨x',z,hx,hv,Xl⟩:=aii P hj h2;cases z;obtain⟨jj,yy,e1,e2,e3⟩:=avw (x:=Zg n k (.int (bv hs gq j (.int x)))) gb (λy hy=>by obtain⟨n',k',x'',_,_,rfl⟩:=Im hy;exact⟨_,ap6 _ _ _ _ _ _ _⟩) (akq h1 Xl) (by rw[ap6];simp);refine⟨_,.int jj,M',rfl,?_,rfl,js++[jj],by simp[nD],by simp[q1],λi' n' k' x' hi' hx'=>?_⟩
   . have hl:rest.length=6:=a83
     match rest,hl with
     |[r0,r1,r2,r3,r4,r5],_ =>
      show(Ex.bm .index (.ix (.v 3) (.v 12)) (.o (.tup (.q (.v 19) (.v 20) (.call 20 (.q (.v 1) (.v 21) (.v 10))))))).den _ [a0,vm K r hs,a2,D.vl (wk p K),a4,a5,a6,a7,a8,a9,D.int j,D.int g.a,D.int g.b,r0,r1,r2,r3,r4,r5,D.int n,D.int k,D.int x] M'=_;simp[abl hb,avx gb,agd hm hr hx (show(-1:Int)<=j by lia) hv,aw9,e1]
   . by_cases z:i'<i
     . rw[ap7 (b_ z (g_ q1))];exact q2 i' n' k' x' z hx'
     . have z:i'=i:=u_ (z_ hi') (s_ z)
       subst z;rw[hy] at hx';simp only[Zg,yd,D.tup.injEq,zq,D.int.injEq,Ba,and_true] at hx';obtain⟨rfl,rfl,rfl⟩:=hx';have ej:(js++[jj]).getD i' 0=jj:=by rw[<- q1];simp[cj]
       rw[ej,e2];obtain⟨n3,k3,x3,_,_,rfl⟩:=Im (au e2);rw[ap6] at e3;simp only[yd,aq,dj,and_true] at e3;obtain⟨rfl,rfl,rfl⟩:=e3;rfl)
 obtain⟨rfl,js,rfl,q1,q2⟩:=hI;exact⟨js,by rw[e];rfl,q1,λi n k x h=>q2 i n k x (ao.mp h).1 h⟩
noncomputable def up(ms:Nat->List Nat)(i:Nat)(ns:Y3):Nat->List Nat:=λe=>if e=i then ns else ms e
noncomputable def Ii(lo hi:Nat)(l:Y3):List Nat:=l.map λo=>if o=hi then lo else o
theorem aik{lo hi:Nat}(h:lo<hi):∀l:List Nat,(Ii lo hi l).sum<=l.sum
 |[]=>bw _
 |a::l=>by
  have:=aik h l;simp only[Ii,iu,List.sum_cons] at this ⊢;split<;>omega
theorem ail{lo hi:Nat}(h:lo<hi):∀{l:Y3},hi∈l->(Ii lo hi l).sum<l.sum
 |a::l,hm=>by
  have h1:=aik h l;simp only[Ii,iu,List.sum_cons] at h1 ⊢
  by_cases z:a=hi
  . rw[dh z];exact b_ (G_ h) (a_ (v_ (g_ z)) (w_ h1))
  . have:=ail h (show hi∈l from by simpa[j0 z] using hm)
    simp only[Ii] at this;rw[bx z];exact H_ this
noncomputable def X4(K:Nat)(ms:Nat->List Nat):Nat:=((List.range K).map λi=>(ms i).sum).sum
theorem ap8{ms:Nat->List Nat}{b:Nat}{ns:Y3}(h:ns.sum<(ms b).sum):∀K,X4 K (up ms b ns)<=X4 K ms/\(b<K->X4 K (up ms b ns)<X4 K ms)
 |0=>⟨bw _,λz=>absurd z (xq _)⟩
 |K+1=>by
  obtain⟨h1,h2⟩:=ap8 h K;simp only[X4,List.range_succ,qd,List.sum_append,iu,List.map_nil,List.sum_cons,List.sum_nil] at h1 h2 ⊢
  by_cases z:K=b
  . subst z
    have e:up ms K ns K=ns:=by simp[up]
    rw[e];constructor
    . exact e_ (c_ (v_ h1) (H_ (G_ h)))
    . intro _;exact c_ (v_ h1) (H_ (G_ h))
  . have e:up ms b ns K=ms K:=by simp[up,z]
    rw[e];constructor
    . exact v_ h1
    . intro q;have:=h2 (by lia);exact G_ this
structure Mk(t pm K:Nat)(L:Nat->Nat)(ms:Nat->List Nat)(M:cz):Prop where
 ex:∃mds:List D,M[pm]?=some (.lst mds)/\mds.length=K/\∀i,i<K->∃d,mds[i]?=some d/\gf M d=some ((ms i).map nD)/\∀a,d=.ref a->t<a/\a<pm
 len:∀i,i<K->(ms i).length=L i
 lt:∀i,i<K->∀x∈ms i,x<L i
 fx:∀i,i<K->∀x∈ms i,(ms i).getD x 0=x
def W8(h:gf M d=some ds)(k:∀a o,d=.ref a->M[a]?=some o->M'[a]?=some o):gf M' d=some ds:=by
 cases d with
 |ref a =>
  simp only[gf] at h ⊢;cases e:M[a]? with
  |none=>rw[e] at h;cases h|some o=>rw[e] at h;rw[k a o rfl e];exact h
 |vl xs=>exact h|_=>cases h
def Mk.frame(h:Mk t pm K L ms M)(k:∀(a:Nat) (o:MO),t<a->a<=pm->M[a]?=some o->M'[a]?=some o)(ht:t<pm):Mk t pm K L ms M':=by obtain⟨mds,h1,h2,h3⟩:=h.ex;refine⟨⟨mds,k _ _ ht (bw _) h1,h2,λi hi=>?_⟩,h.len,h.lt,h.fx⟩;obtain⟨d,g1,g2,g3⟩:=h3 i hi;exact⟨d,g1,W8 g2 λa o e q=>k a o (g3 a e).1 (Aj (g3 a e).2) q,g3⟩
def Mk.row(h:Mk t pm K L ms M)(hi:i<K):∃d,zb (.ref pm) (.int i) M=some d/\gf M d=some ((ms i).map nD):=by obtain⟨mds,h1,h2,h3⟩:=h.ex;obtain⟨d,g1,g2,_⟩:=h3 i hi;exact⟨d,De (p8 h1) q_ (by simpa using g1),g2⟩
def Qy{l:Y3}(h:gf M d=some (l.map nD))(hx:x<l.length):zb d (.int x) M=some (.int (l.getD x 0)) :=
 De h q_ (by simp[hx,nD])
def getD_mem'{l:Y3}(hx:x<l.length):l.getD x 0∈l:=by rw[cj,bc hx];exact lq hx
set_option tactic.hygienic true in
theorem Mk.set(h:Mk t pm K L ms M)(hi:i<K)(h1:ns.length=L i)(h2:∀x∈ns,x<L i)(h4:∀x∈ns,ns.getD x 0=x)(ht:t<pm) :
 ∃o,setOp (.ref pm) (.int i) (.vl (ns.map nD)) M=some (M.set pm o)/\Mk t pm K L (up ms i ns) (M.set pm o):=by
 obtain⟨mds,g1,g2,g3⟩:=h.ex;refine⟨.lst (mds.set i (.vl (ns.map nD))),?_,⟨mds.set i (.vl (ns.map nD)),v8 g1,by simp[g2],λe he=>?_⟩,λe he=>?_,λe he x hx=>?_,λe he x hx=>?_⟩
 . have:=Z3 (d:=.vl (ns.map nD)) (i:=i) g1 q_ (m_ (b_ hi (g_ g2)))
   simpa using this
 . by_cases z:e=i
   . subst z
     exact⟨.vl (ns.map nD),by simp[g2,he],by simp[up],λa q=>by cases q⟩
   . obtain⟨d,k1,k2,k3⟩:=g3 e he
     refine⟨d,by rw[vo (j0 z)];exact k1,?_,k3⟩;have:up ms i ns e=ms e:=by simp[up,z]
     rw[this];exact W8 k2 λa o q w=>by rw[uq (by have:=(k3 a q).2;exact i_ this)];exact w
 . unfold up;split
   . rename_i z;rw[z];exact h1
   . exact h.len e he
 . unfold up at hx;split at hx
   . rename_i z;rw[z];exact h2 x hx
   . exact h.lt e he x hx
 . unfold up at hx ⊢;split at hx
   . rename_i z;rw[dh z];exact h4 x hx
   . rename_i z;rw[bx z];exact h.fx e he x hx
def getD_map{α:Type}{l:Y3}{f:Nat->Nat}{x:Nat}(h:x<l.length):(l.map f).getD x 0=f (l.getD x 0):=by simp[cj,ie,bc h]
set_option tactic.hygienic true in
def aim(fx:∀x∈l,l.getD x 0=x)(lt:∀x∈l,x<l.length)(hlo:lo∈l):∀x∈Ii lo hi l,(Ii lo hi l).getD x 0=x:=λx hx=>by
 obtain⟨o,ho,e⟩:=bf.mp hx;have h1:x∈l:=by
  split at e
  . rw[<- e];exact hlo
  . rw[<- e];exact ho
 unfold Ii;rw[getD_map (α:=Nat) (lt x h1),fx x h1]
 by_cases z:x=hi
 . rw[dh z]
   split at e
   . exact e
   . rename_i w;exact absurd (e.trans z) w
 . rw[bx z]
def Cg(ms:Nat->List Nat)(g:F)(js:Y3):Prop:=∀x y,x<js.length->y<js.length->(ms g.a).getD x 0=(ms g.a).getD y 0->(ms g.b).getD (js.getD x 0) 0=(ms g.b).getD (js.getD y 0) 0
structure Ac(q:Nat)(hs:List F)(L:Nat->Nat)(as:List (List Nat))(M:cz):Prop where
 at_:M[q]?=some (.lst (as.map λjs=>.vl (js.map nD)))
 len:as.length=hs.length
 ok:∀(j:Nat)(g:F)(js:Y3),hs[j]?=some g->as[j]?=some js->js.length=L g.a/\∀x∈js,x<L g.b
def Ac.get(h:Ac q hs L as M){j:Nat}(hj:hs[j]?=some g):∃js,as[j]?=some js/\zb (.ref q) (.int j) M=some (.vl (js.map nD))/\js.length=L g.a/\∀x∈js,x<L g.b:=by
 have hl:=(ao.mp hj).1;have hl2:j<as.length:=by rw[h.len];exact hl
 have e:as[j]?=some as[j]:=bc hl2;exact⟨_,e,De (p8 h.at_) q_ (by simp[e]),h.ok j g _ hj e⟩
def a1o(h:M[n]?=some (.dK kv)):Jz .get (.ref n) [.int k,d] M=.ok ((Ad kv (.inl k)).getD d) M:=by simp[Jz,h]
def a84(h:M[n]?=some (.dK kv)):Qn .get (.ref n) M=true:=by simp[Qn,h]
def a1p(h:M[n]?=some (.dK kv))(hl:kv.length<100000):setOp (.ref n) (.int k) d M=some (M.set n (.dK (Dy kv (.inl k) d))):=by simp[setOp,h,hl]
def aqa[DecidableEq κ]{kv:List (κ×D)}(h:Ad kv k=some v):∃p∈kv,p.2=v:=by unfold Ad at h;obtain⟨p,h1,h2⟩:=cu.mp h;exact⟨p,List.mem_of_find?_eq_some h1,h2⟩
def avy[DecidableEq κ]{kv:List (κ×D)}(h:p∈Dy kv k v):p∈kv\/p.2=v:=by
 unfold Dy at h;split at h
 . obtain⟨q,h1,h2⟩:=bf.mp h
   split at h2
   . rw[<- h2];exact .inr rfl
   . rw[<- h2];exact .inl h1
 . rcases dm.mp h with z|z
   . exact .inl z
   . have:p=(k,v):=by simpa using z
     rw[this];exact .inr rfl
def Kq[DecidableEq κ](p:κ×D)(r:List (κ×D))(k:κ):Ad (p::r) k=if p.1=k then some p.2 else Ad r k:=by
 unfold Ad
 by_cases h:p.1=k
 . simp[qp,h]
 . simp[qp,h]
theorem W9{κ:Type}[DecidableEq κ]{k k':κ}{v:D}:∀{kv:List (κ×D)},(∃p∈kv,p.1=k)->Ad (kv.map λp=>if p.1=k then(p.1,v) else p) k'=if k'=k then some v else Ad kv k'
 |p::r,h=>by
  rw[iu,Kq,Kq]
  by_cases a:p.1=k
  . rw[dh a]
    by_cases b:k'=k
    . simp[a,b]
    . have c:¬p.1=k':=λz=>b (z.symm.trans a)
      rw[bx c,bx b,bx c]
      by_cases d:∃p∈r,p.1=k
      . rw[W9 d,bx b]
      . congr 1
        conv=>rhs;rw[<- Bd r]
        apply j8;intro q hq;rw[bx λz=>d ⟨q,hq,z⟩];rfl
  . rw[bx a]
    have d:∃p∈r,p.1=k:=by
     obtain⟨q,h1,h2⟩:=h;rcases bz.mp h1 with rfl|h1
     . exact absurd h2 a
     . exact⟨q,h1,h2⟩
    rw[W9 d]
    by_cases b:k'=k
    . have c:¬p.1=k':=λz=>a (z.trans b)
      rw[bx c];simp[b]
    . simp[b]
theorem aeb{κ:Type}[DecidableEq κ]{k k':κ}{v:D}:∀{kv:List (κ×D)},(∀p∈kv,p.1≠k)->Ad (kv++[(k,v)]) k'=if k'=k then some v else Ad kv k'
 |[],_=>by
  rw[xm,Kq]
  by_cases b:k'=k
  . simp[b]
  . simp[b,j0 b]
 |p::r,h=>by
  rw[yx,Kq,Kq,aeb (λq hq=>h q (bu _ hq))];have a:=h p (by simp)
  by_cases b:k'=k
  . have c:¬p.1=k':=λz=>a (z.trans b)
    rw[bx c];simp[b]
  . simp[b]
def aqb[DecidableEq κ](kv:List (κ×D))(k k':κ)(v:D):Ad (Dy kv k v) k'=if k'=k then some v else Ad kv k':=by
 unfold Dy
 by_cases h:(kv.any λp=>decide (p.1=k))=true
 . rw[dh h]
   exact W9 (by simpa using h)
 . rw[bx h]
   exact aeb (λp hp z=>h (Ao.mpr ⟨p,hp,by simpa using z⟩))
def avz[DecidableEq κ](kv:List (κ×D))(k:κ)(v:D):(Dy kv k v).length<=kv.length+1:=by unfold Dy;split<;>simp
def abn(M:cz)(a b:Nat):wz M (.int a) (.int b)=some (decide (a=b)):=Bp M a b
noncomputable def Fm(pm n:Nat)(M M':cz):Prop:=∀(a:Nat)(o:MO),a≠pm->a<n->M[a]?=some o->M'[a]?=some o
def ain(M:cz)(a b:Nat):qx .min [.int a,.int b] M=.ok (.int (min a b:Nat)) M:=by
 show Res.ok (D.int (if(b:Int)<(a:Int) then(b:Int) else(a:Int))) M=_
 by_cases h:b<a
 . rw[dh (m_ h),Nat.min_eq_right (e_ h)]
 . rw[bx (by lia),Nat.min_eq_left (s_ h)]
def abo(M:cz)(a b:Nat):qx .max [.int a,.int b] M=.ok (.int (max a b:Nat)) M:=by
 show Res.ok (D.int (if(a:Int)<(b:Int) then(b:Int) else(a:Int))) M=_
 by_cases h:a<b
 . rw[dh (m_ h),Nat.max_eq_right (e_ h)]
 . rw[bx (by lia),Nat.max_eq_left (s_ h)]
def aec(hx:(Ex.ix (.var v) (.var x)).den W ρ M=.ok d M)(hd:gf M d=some (l.map nD))(hl:l.length<=100000)(hy:y=ρ.length)(h1:ρ[a]?=some (some (.int lo)))(h2:ρ[b]?=some (some (.int hi))) :
 (Ex.comp true 1 (.name y) (.val (.ix (.var v) (.var x))) (.ite (.cmp .eq (.var y) (.var b)) (.var a) (.var y))).den W ρ M=.ok (.vl ((Ii lo hi l).map nD)) M:=by
 subst hy;have ha:=(ao.mp h1).1;have hb:=(ao.mp h2).1;rw[Ay (d:=d) (ds:=l.map nD) (M1:=M) (g:=λd=>match d with|.int o=>nD (if o.toNat=hi then lo else o.toNat)|_=>.non) hx hd (by simpa using hl) (λz hz=>by
  obtain⟨o,ho,rfl⟩:=bf.mp hz;refine⟨_,rfl,?_⟩;have e1:(ρ++List.replicate 1 none).set ρ.length (some (nD o))=ρ++[some (.int o)]:=by rw[List.set_append];simp[nD]
  have g1:(ρ++[some (D.int o)])[a]?=some (some (.int lo)):=by rw[du ha];exact h1
  have g2:(ρ++[some (D.int o)])[b]?=some (some (.int hi)):=by rw[du hb];exact h2
  have g3:(ρ++[some (D.int o)])[ρ.length]?=some (some (.int o)):=by simp
  rw[e1]
  by_cases z:o=hi
  . subst z;simp[-eq_int,g1,g2,g3,abn,nD]
  . simp[-eq_int,g1,g2,g3,abn,z,nD])]
 simp[Ii,nD]
def av0(hx:(Ex.ix (.v 1) (.var x)).den W ρ M=.ok d M)(hd:gf M d=some (l.map nD))(hl:l.length<=100000)(hy:y=ρ.length)(hy1:12<y)(h1:ρ[11]?=some (some (.int lo)))(h2:ρ[12]?=some (some (.int hi))) :
 (Ex.comp true 1 (.name y) (.val (.ix (.v 1) (.var x))) (.ite (.cmp .eq (.var y) (.v 12)) (.v 11) (.var y))).den W ρ M=.ok (.vl ((Ii lo hi l).map nD)) M:=aec hx hd hl hy h1 h2
structure Fd(dd:Nat)(a b js:Y3)(n:Nat)(M:cz):Prop where
 ex:∃kv:List (Kx×D),M[dd]?=some (.dK kv)/\kv.length<=n/\(∀p∈kv,∃e:Nat,p.2=.int e/\e∈b)/\∀i,i<n->Ad kv (.inl ((a.getD i 0:Nat):Int))=some (.int ((b.getD (js.getD i 0) 0:Nat):Int))
def aqc{j:Nat}(mk:Mk t pm K L ms M)(ac:Ac q hs L as M)(hj:hs[j]?=some g)(ga:g.a<K)(gb:g.b<K)(hd:M[dd]?=some (.dK []))(hpd:pm<dd)(hqd:q<dd)(hqp:q≠pm)(ht:t<pm)(hL:∀e,e<K->L e<=7) :
 ∃ρ' M',Mp.den W [vm K r hs,D.ref pm,D.ref q,b3,D.int j,D.int g.a,D.int g.b,D.ref dd,b8,b9,b10,Qe,R9] M=.ok (.next,ρ') M' /\
  ∃c3 c7 c8 c9 c10 c11 c12,ρ'=[some (vm K r hs),some (.ref pm),some (.ref q),c3,some (.int j),some (.int g.a),some (.int g.b),c7,c8,c9,c10,c11,c12]/\Fm pm dd M M'/\M.length<=M'.length /\
   ((c3=b3/\Mk t pm K L ms M'/\∀js,as[j]?=some js->Cg ms g js)\/(c3=some (.bl true)/\∃Mv,Mk t pm K L Mv M'/\X4 K Mv<X4 K ms)):=by
 obtain⟨js,ej,_,lj,rj⟩:=ac.get hj;obtain⟨da,fa,la⟩:=mk.row ga;have hla:=mk.len _ ga;have hLa:=hL _ ga;refine ab9 (W:=W) (t:=.name 8) (b:=Cd) (it:=.blt .len (.o (.ix (.v 1) (.v 5)))) (n:=L g.a) (M1:=M) ?_ (a_ hLa (by decide))
  (λi ρ M'=>(∃b8 b9 b10,ρ=[some (vm K r hs),some (.ref pm),some (.ref q),b3,some (.int j),some (.int g.a),some (.int g.b),some (.ref dd),b8,b9,b10,Qe,R9])/\Mk t pm K L ms M'/\Fd dd (ms g.a) (ms g.b) js i M'/\Zf dd M M'/\M'.length=M.length)
  (fun ρ' M'=>∃c3 c7 c8 c9 c10 c11 c12,ρ'=[some (vm K r hs),some (.ref pm),some (.ref q),c3,some (.int j),some (.int g.a),some (.int g.b),c7,c8,c9,c10,c11,c12]/\Fm pm dd M M'/\M.length<=M'.length /\
   ((c3=b3/\Mk t pm K L ms M'/\∀js,as[j]?=some js->Cg ms g js)\/(c3=some (.bl true)/\∃Mv,Mk t pm K L Mv M'/\X4 K Mv<X4 K ms)))
  ⟨⟨b8,b9,b10,rfl⟩,mk,⟨[],hd,bw _,by simp,by simp⟩,Zf.refl _ _,rfl⟩ (fun ρ M' h=>?_) (λi ρ M1 hi hI=>?_)
 . have e:=len_list la
   simp only[dw,hla] at e;simp[fa,e]
 . obtain⟨⟨c8,c9,c10,rfl⟩,h1,⟨kv,_,_,_,k4⟩,h3,h4⟩:=h
   refine⟨b3,_,c8,c9,c10,Qe,R9,rfl,λa o _ x e=>h3 a o x e,g_ h4,.inl ⟨rfl,h1,λjs' e' x y hx hy exy=>?_⟩⟩;rw[ej] at e';cases e';have g1:=k4 x (b_ hx (f_ lj));have g2:=k4 y (b_ hy (f_ lj));rw[exy,g2] at g1;simp only[yd,D.int.injEq] at g1;exact(Ba.mp g1).symm
 . obtain⟨⟨c8,c9,c10,rfl⟩,h1,⟨kv,k1,k2,k3,k4⟩,h3,h4⟩:=hI
   obtain⟨da,fa,la⟩:=h1.row ga;obtain⟨db,fb,lb⟩:=h1.row gb;have ac1:Ac q hs L as M1:=⟨h3 _ _ hqd ac.at_,ac.len,ac.ok⟩;obtain⟨js',ej',fj,_,_⟩:=ac1.get hj;rw[ej] at ej';cases ej';have fa2:=Qy la (show i<(ms g.a).length by rw[hla];exact hi);have fj2:zb (.vl (js.map nD)) (.int i) M1=some (.int (js.getD i 0)):=Qy rfl (b_ hi (g_ lj));have hy:js.getD i 0<(ms g.b).length:=by rw[h1.len _ gb];exact rj _ (getD_mem' (b_ hi (g_ lj)))
   generalize hy0:js.getD i 0=y at fj2 hy;have fb2:=Qy lb hy;have hz:=getD_mem' hy;generalize hx0:(ms g.a).getD i 0=x at fa2;generalize hz0:(ms g.b).getD y 0=z at fb2 hz;have gt:=a1o (k:=(x:Int)) (d:=.int z) k1;have ty:=a84 k1;have goOn:((Ad kv (.inl (x:Int))).getD (.int z)=.int z)->∃ρ1 fl ρ' M',(Tg.name 8).put (.int i) [some (vm K r hs),some (.ref pm),some (.ref q),b3,some (.int j),some (.int g.a),some (.int g.b),some (.ref dd),c8,c9,c10,Qe,R9]=some ρ1/\Cd.den W ρ1 M1=.ok (fl,ρ') M' /\
    (((fl=.next\/fl=.cont)/\(∃b8 b9 b10,ρ'=[some (vm K r hs),some (.ref pm),some (.ref q),b3,some (.int j),some (.int g.a),some (.int g.b),some (.ref dd),b8,b9,b10,Qe,R9])/\Mk t pm K L ms M'/\Fd dd (ms g.a) (ms g.b) js (i+1) M'/\Zf dd M M'/\M'.length=M.length) \/
      (fl=.brk/\∃c3 c7 c8 c9 c10 c11 c12,ρ'=[some (vm K r hs),some (.ref pm),some (.ref q),c3,some (.int j),some (.int g.a),some (.int g.b),c7,c8,c9,c10,c11,c12]/\Fm pm dd M M'/\M.length<=M'.length /\
       ((c3=b3/\Mk t pm K L ms M'/\∀js,as[j]?=some js->Cg ms g js)\/(c3=some (.bl true)/\∃Mv,Mk t pm K L Mv M'/\X4 K Mv<X4 K ms)))):=λhg=>by
    rw[hg] at gt;have st:=a1p (k:=(x:Int)) (d:=.int z) k1 (by have:=hL _ ga;exact c_ k2 (b_ hi (a_ hLa (by decide))));refine⟨_,.next,_,M1.set dd (.dK (Dy kv (.inl (x:Int)) (.int z))),rfl,?_,.inl ⟨.inl rfl,⟨some (.int i),some (.int x),some (.int z),rfl⟩,h1.frame (λa o _ ha e=>by rw[uq (i_ (c_ ha hpd))];exact e) ht,⟨_,v8 k1,?_,?_,λi' hi'=>?_⟩,h3.trans (Zf.set (bw _)),by simp[h4]⟩⟩
    . simp[-eq_int,Cd,fa,fa2,fb,fj,fj2,fb2,ty,gt,abn,st]
    . have:=avz kv (.inl (x:Int)) (.int z);exact a_ this (v_ k2)
    . intro p hp
      rcases avy hp with w|w
      . exact k3 p w
      . exact⟨z,w,hz⟩
    . rw[aqb]
      by_cases w:(ms g.a).getD i' 0=x
      . rw[w,dh rfl]
        by_cases w2:i'=i
        . subst w2;rw[hy0,hz0]
        . have g1:=k4 i' (by lia)
          rw[w] at g1;rw[g1] at hg;simp only[yz] at hg;rw[hg]
      . have w2:i'≠i:=λq=>w (by rw[q,hx0])
        have:¬((Sum.inl (((ms g.a).getD i' 0:Nat):Int):Kx)=.inl (x:Int)):=λq=>w (by injection q with q;exact Ba.mp q)
        rw[bx this];exact k4 i' (by lia)
   cases hlk:Ad kv (.inl (x:Int)) with
   |none=>exact goOn (by rw[hlk];rfl)
   |some v =>
    obtain⟨p,hp,rfl⟩:=aqa hlk;obtain⟨e,he,hem⟩:=k3 p hp;rw[he] at hlk
    by_cases hez:e=z
    . exact goOn (by rw[hlk,hez];rfl)
    . rw[hlk] at gt
      have ix:=a4y (b:=.int x) k1 rfl;rw[show(Sum.inl (x:Int):Kx)=.inl (x:Int) from rfl,hlk] at ix;have lh:min e z<max e z:=by lia
      have hm:max e z∈ms g.b:=by
       rcases Nat.le_total e z with w|w
       . rw[Nat.max_eq_right w];exact hz
       . rw[Nat.max_eq_left w];exact hem
      have hlo:min e z∈ms g.b:=by
       rcases Nat.le_total e z with w|w
       . rw[Nat.min_eq_left w];exact hem
       . rw[Nat.min_eq_right w];exact hz
      have rp:=av0 (W:=W) (M:=M1) (ρ:=[vm K r hs,D.ref pm,D.ref q,b3,D.int j,D.int g.a,D.int g.b,D.ref dd,D.int i,D.int x,D.int z,D.int (min e z:Nat),D.int (max e z:Nat)]) (x:=6) (y:=13) (lo:=min e z) (hi:=max e z) (by simp[fb]) lb (by rw[h1.len _ gb];have:=hL _ gb;exact a_ this (by decide)) rfl (by decide) rfl rfl;obtain⟨o,so,mk2⟩:=h1.set gb (ns:=Ii (min e z) (max e z) (ms g.b)) (by simp[Ii,h1.len _ gb]) (λy hy=>by
       obtain⟨w,hw,rfl⟩:=bf.mp hy;split
       . exact h1.lt _ gb _ hlo
       . exact h1.lt _ gb _ hw) (aim (h1.fx _ gb) (λx hx=>by rw[h1.len _ gb];exact h1.lt _ gb x hx) hlo) ht
      have ne:¬((e:Nat)=z):=hez;refine⟨_,.brk,_,M1.set pm o++[.dK []],rfl,?_,.inr ⟨rfl,some (.bl true),some (.ref (M1.set pm o).length),some (.int i),some (.int x),some (.int z),some (.int (min e z:Nat)),some (.int (max e z:Nat)),rfl,λa u na ha q=>?_,by simp;exact a_ (g_ h4) x_,.inr ⟨rfl,_,mk2.frame (λa u _ _ q=>yg q) ht,(ap8 (ail lh hm) K).2 gb⟩⟩⟩
      . simp only[yz] at gt
        simp[-eq_int,Cd,fa,fa2,fb,fj,fj2,fb2,ty,gt,abn,ne,ix,ain,abo,Mm,rp,so,MW.new]
      . refine yg ?_
        rw[uq (j0 na)];exact h3 a u ha q
def Fm.trans(a:Fm pm n M M1)(b:Fm pm n M1 M2):Fm pm n M M2:=λx o h l e=>b x o h l (a x o h l e)
def Fm.le(a:Fm pm n M M1)(h:n'<=n):Fm pm n' M M1:=λx o q l e=>a x o q (b_ l h) e
theorem age:∀{l:Y3}{c:Nat},(∀x∈l,x<=c)->l.sum<=l.length*c
 |[],_,_=>by simp
 |a::l,c,h=>by
  have h1:=h a (by simp);have h2:=age (λx hx=>h x (bu _ hx));simp only[List.sum_cons,iw,Nat.succ_mul]
  lia
def a1r(mk:Mk t pm K L ms M)(hL:∀e,e<K->L e<=7)(hK:K<=3):X4 K ms<=200:=by
 have:∀x∈(List.range K).map λi=>(ms i).sum,x<=49:=λx hx=>by
  obtain⟨i,hi,rfl⟩:=bf.mp hx;have hi:=jz.mp hi;have h1:=age (l:=ms i) (c:=7) (λx hx=>by have:=mk.lt i hi x hx;have:=hL i hi;lia);have h2:=mk.len i hi;have h3:=hL i hi;have h4:(ms i).length*7<=7*7:=Nat.mul_le_mul_right 7 (a_ (f_ h2) h3)
  lia
 have h:=age this;simp only[dw,List.length_range] at h;have h5:K*49<=3*49:=Nat.mul_le_mul_right 49 hK
 unfold X4
 lia
def Cgs(hs:List F)(as:List (List Nat))(n:Nat)(ms:Nat->List Nat):Prop:=∀(j:Nat)(g:F)(js:Y3),j<n->hs[j]?=some g->as[j]?=some js->Cg ms g js
def aqf(P:Nb sz K hs gq)(mk:Mk t pm K L ms M)(ac:Ac q hs L as M)(hpd:pm<M.length)(hqd:q<M.length)(hqp:q≠pm)(ht:t<pm)(hL:∀e,e<K->L e<=7) :
 ∃ρ' M',Mq.den W [vm K r hs,D.ref pm,D.ref q,b3,b4,b5,b6,b7,b8,b9,b10,Qe,R9] M=.ok (.next,ρ') M' /\
  ∃c3 c4 c5 c6 c7 c8 c9 c10 c11 c12 Mv,ρ'=[some (vm K r hs),some (.ref pm),some (.ref q),c3,c4,c5,c6,c7,c8,c9,c10,c11,c12]/\Fm pm M.length M M'/\M.length<=M'.length/\Mk t pm K L Mv M'/\((c3=b3/\Mv=ms/\Cgs hs as hs.length ms)\/(c3=some (.bl true)/\X4 K Mv<X4 K ms)):=by
 have hl:=P.len;refine Ax (W:=W) (t:=.name 4) (b:=Dq) (it:=.blt .len (.o (.ix (.v 0) (.i 1)))) (n:=hs.length) (M1:=M) (by simp[Di,By]) (a_ hl (by decide))
  (λn ρ' M'=>∃c3 c4 c5 c6 c7 c8 c9 c10 c11 c12 Mv,ρ'=[some (vm K r hs),some (.ref pm),some (.ref q),c3,c4,c5,c6,c7,c8,c9,c10,c11,c12]/\Fm pm M.length M M'/\M.length<=M'.length/\Mk t pm K L Mv M'/\((c3=b3/\Mv=ms/\Cgs hs as n ms)\/(c3=some (.bl true)/\X4 K Mv<X4 K ms)))
  ⟨b3,b4,b5,b6,b7,b8,b9,b10,Qe,R9,ms,rfl,λ_ _ _ _ e=>e,bw _,mk,.inl ⟨rfl,rfl,λj g js h=>absurd h (xq _)⟩⟩ (λj ρ M1 hj hI=>?_)
 obtain⟨c3,c4,c5,c6,c7,c8,c9,c10,c11,c12,m1,rfl,f1,l1,k1,o1⟩:=hI;have hjg:hs[j]?=some hs[j]:=by simp[hj]
 have hg:=au hjg;have k2:Mk t pm K L m1 (M1++[.dK []]):=k1.frame (λa o _ _ e=>yg e) ht;have ac2:Ac q hs L as (M1++[.dK []]):=⟨yg (f1 _ _ hqp hqd ac.at_),ac.len,ac.ok⟩;obtain⟨ρ2,M2,e2,d3,d7,d8,d9,d10,d11,d12,rfl,f2,l2,o2⟩:=aqc (W:=W) (r:=r) (dd:=M1.length) (b3:=c3) (b8:=c8) (b9:=c9) (b10:=c10) (Qe:=c11) (R9:=c12) k2 ac2 hjg (P.Xu _ hg) (P.V4 _ hg) (by simp) (b_ hpd l1) (b_ hqd l1) hqp ht hL;have f3:Fm pm M.length M M2:=λa o na ha e=>f2 a o na (b_ ha l1) (yg (f1 a o na ha e))
 have l3:M.length<=M2.length:=by simp at l2;lia
 have pe:∀ρ,(Tg.names [5,6]).put (eD hs[j]) ρ=some ((ρ.set 5 (some (.int hs[j].a))).set 6 (some (.int hs[j].b))):=λ_=>rfl
 have run:Dq.den W [vm K r hs,D.ref pm,D.ref q,c3,D.int j,c5,c6,c7,c8,c9,c10,c11,c12] M1=.ok (.next,[some (vm K r hs),some (.ref pm),some (.ref q),d3,some (.int j),some (.int hs[j].a),some (.int hs[j].b),d7,d8,d9,d10,d11,d12]) M2:=by simp[Dq,Di,Kg hjg,pe,MW.new,e2]
 refine⟨_,.next,_,M2,rfl,run,.inl rfl,?_⟩;rcases o2 with⟨rfl,k3,cg⟩|⟨rfl,m2,k3,t3⟩
 . rcases o1 with⟨rfl,rfl,cs⟩|⟨rfl,t1⟩
   . refine⟨_,_,_,_,_,_,_,_,_,_,m1,rfl,f3,l3,k3,.inl ⟨rfl,rfl,λj' g' js' h1 h2 h3=>?_⟩⟩
     by_cases z:j'=j
     . subst z
       rw[hjg] at h2;cases h2;exact cg _ h3
     . exact cs j' g' js' (by lia) h2 h3
   . exact⟨_,_,_,_,_,_,_,_,_,_,m1,rfl,f3,l3,k3,.inr ⟨rfl,t1⟩⟩
 . refine⟨_,_,_,_,_,_,_,_,_,_,m2,rfl,f3,l3,k3,.inr ⟨rfl,?_⟩⟩
   rcases o1 with⟨_,rfl,_⟩|⟨_,t1⟩<;>omega
def akr(hm:1<=m)(P:Nb sz K hs gq)(mk:Mk t pm K L ms M)(ac:Ac q hs L as M)(hpd:pm<M.length)(hqd:q<M.length)(hqp:q≠pm)(ht:t<pm)(hL:∀e,e<K->L e<=7) :
 ∃Mv M',prog.call m 26 [vm K r hs,.ref pm,.ref q] M=.ok (.ref pm) M'/\Mk t pm K L Mv M'/\Cgs hs as hs.length Mv/\Fm pm M.length M M'/\M.length<=M'.length:=by
 rw[call_of hm rfl];obtain⟨ρ',M',e,Mv,k1,cg,f1,l1,c,hρ⟩:∃ρ' M',G6.den ⟨prog.call (m-1),prog.cls⟩ [vm K r hs,D.ref pm,D.ref q,D.bl true,none,none,none,none,none,none,none,none,none] M=.ok (.next,ρ') M' /\
  ∃Mv,Mk t pm K L Mv M'/\Cgs hs as hs.length Mv/\Fm pm M.length M M'/\M.length<=M'.length/\∃c:Env,ρ'=[some (vm K r hs),some (.ref pm)]++c:=by
  unfold G6;rw[Z2];refine Pb (λm ρ M'=>∃(Mv:Nat->List Nat)(b:Bool)(c:Env),ρ=[some (vm K r hs),some (.ref pm),some (.ref q),some (.bl b)]++c/\c.length=9/\Mk t pm K L Mv M'/\(b=false->Cgs hs as hs.length Mv)/\Fm pm M.length M M'/\M.length<=M'.length/\m=(if b then X4 K Mv+1 else 0))
   (fun ρ' M'=>∃Mv,Mk t pm K L Mv M'/\Cgs hs as hs.length Mv/\Fm pm M.length M M'/\M.length<=M'.length/\∃c:Env,ρ'=[some (vm K r hs),some (.ref pm)]++c) (λn ρ M1 hI=>?_) ae6 (X4 K ms+1) _ M (by have:=a1r mk hL P.k3;show X4 K ms+1<1000000;lia)
   ⟨ms,true,[none,none,none,none,none,none,none,none,none],rfl,rfl,mk,by simp,λ_ _ _ _ e=>e,bw _,rfl⟩
  obtain⟨m1,b,c,rfl,hc,k1,cg,f1,l1,rfl⟩:=hI
  match c,hc with
  |[c4,c5,c6,c7,c8,c9,c10,c11,c12],_ =>
  cases b with
  |false=>exact .inl ⟨M1,rfl,m1,k1,cg rfl,f1,l1,_,rfl⟩
  |true =>
   right
   obtain⟨ρ2,M2,e2,d3,d4,d5,d6,d7,d8,d9,d10,d11,d12,m2,rfl,f2,l2,k2,o2⟩:=aqf (W:=⟨prog.call (m-1),prog.cls⟩) (r:=r) (as:=as) P k1 (⟨f1 _ _ hqp hqd ac.at_,ac.len,ac.ok⟩:Ac q hs L as M1) (b_ hpd l1) (b_ hqd l1) hqp ht hL (b3:=some (.bl false)) (b4:=c4) (b5:=c5) (b6:=c6) (b7:=c7) (b8:=c8) (b9:=c9) (b10:=c10) (Qe:=c11) (R9:=c12);have f3:Fm pm M.length M M2:=f1.trans (f2.le l1);have run:G5.den ⟨prog.call (m-1),prog.cls⟩ [vm K r hs,D.ref pm,D.ref q,D.bl true,c4,c5,c6,c7,c8,c9,c10,c11,c12] M1=.ok (.next,[some (vm K r hs),some (.ref pm),some (.ref q),d3,d4,d5,d6,d7,d8,d9,d10,d11,d12]) M2:=by simp[G5,e2]
   rcases o2 with⟨rfl,rfl,cs⟩|⟨rfl,t3⟩
   . exact⟨M1,.next,_,M2,0,rfl,run,.inl rfl,by simp,m2,false,[d4,d5,d6,d7,d8,d9,d10,d11,d12],rfl,rfl,k2,λ_=>cs,f3,a_ l1 l2,rfl⟩
   . exact⟨M1,.next,_,M2,X4 K m2+1,rfl,run,.inl rfl,by simp;exact t3,m2,true,[d4,d5,d6,d7,d8,d9,d10,d11,d12],rfl,rfl,k2,by simp,f3,a_ l1 l2,rfl⟩
 subst hρ;refine⟨Mv,M',?_,k1,cg,f1,l1⟩;simp only[yx,xm] at e;simp[Fn.run,Qd,Qc,e]
theorem Xa{x y:Int}:∀{l:Xs},x∈insI y l↔x=y\/x∈l
 |[]=>by simp[insI]
 |a::l=>by
  unfold insI;split
  . simp
  . simp only[bz,Xa]
    constructor
    . rintro(h|h|h)
      . exact .inr (.inl h)
      . exact .inl h
      . exact .inr (.inr h)
    . rintro(h|h|h)
      . exact .inr (.inl h)
      . exact .inl h
      . exact .inr (.inr h)
theorem Hk{x:Int}:∀{l:Xs},x∈sortI l↔x∈l
 |[]=>by simp[sortI]
 |a::l=>by
  have h:=Hk (x:=x) (l:=l);show x∈insI a (sortI l)↔_;rw[Xa,h];simp
set_option tactic.hygienic true in
theorem Hl{x:Int}:∀{l:Xs},x∈Ak l↔x∈l
 |[]=>by simp[Ak]
 |a::l=>by
  have h:=Hl (x:=x) (l:=l);unfold Ak;split
  . rename_i z
    rw[h];simp only[bz];exact⟨.inr,λq=>q.elim (λe=>e▸z) id⟩
  . simp only[bz,h]
theorem aed(y:Int):∀l:List Int,(insI y l).length=l.length+1
 |[]=>rfl|a::l=>by unfold insI;split<;>simp[aed y l]
theorem Zh:∀l:List Int,(sortI l).length=l.length
 |[]=>rfl|a::l=>by show(insI a (sortI l)).length=_;rw[aed,Zh l];rfl
theorem Zi:∀l:List Int,(Ak l).length<=l.length
 |[]=>bw _|a::l=>by have:=Zi l;unfold Ak;split<;>simp<;>omega
theorem aip:∀l:List Nat,Yh (l.map nD)=some (l.map λ(x:Nat)=>(x:Int))
 |[]=>rfl|a::l=>by show(Yh (l.map nD)).map _=_;rw[aip l];rfl
theorem aiq{y:Int}:∀{l:Xs},l.Nodup->y∉l->(insI y l).Nodup
 |[],_,_=>by simp[insI]
 |a::l,h,hy=>by
  have h1:=kj.mp h;have h2:y≠a/\y∉l:=by simpa using hy
  unfold insI;split
  . exact kj.mpr ⟨hy,h⟩
  . refine kj.mpr ⟨λz=>?_,aiq h1.2 h2.2⟩
    rcases Xa.mp z with z|z
    . exact h2.1 z.symm
    . exact h1.1 z
theorem aee:∀{l:Xs},l.Nodup->(sortI l).Nodup
 |[],_=>xf
 |a::l,h=>by
  have h1:=kj.mp h;exact aiq (aee h1.2) (λz=>h1.1 (Hk.mp z))
set_option tactic.hygienic true in
theorem Xb:∀l:List Int,(Ak l).Nodup
 |[]=>xf
 |a::l=>by
  unfold Ak;split
  . exact Xb l
  . rename_i h
    exact kj.mpr ⟨λz=>h (Hl.mp z),Xb l⟩
def agf{l:Y3}(h:gf M d=some (l.map nD))(hz:l.length<31):∃hl:List Nat,qx .Gh [d] M=.ok (.vl (hl.map nD)) M/\hl.length<=l.length/\hl.Nodup/\∀x,x∈hl↔x∈l:=by
 refine⟨(sortI (Ak (l.map λ(x:Nat)=>(x:Int)))).map Int.toNat,?_,?_,?_,λx=>?_⟩
 . show Res.uo (((gf M d).bind Yh).bind λis=>if is.length<31 then some (D.vl ((sortI (Ak is)).map D.int)) else none) M=_
   rw[h,uh,aip,uh,dh (by simpa using hz)];have:((sortI (Ak (l.map λ(x:Nat)=>(x:Int)))).map Int.toNat).map nD=(sortI (Ak (l.map λ(x:Nat)=>(x:Int)))).map D.int:=by rw[o7];apply j8;intro y hy;rw[Hk,Hl] at hy;obtain⟨z,_,rfl⟩:=bf.mp hy;simp[nD]
   rw[this];rfl
 . rw[dw,Zh]
   have:=Zi (l.map λ(x:Nat)=>(x:Int));simpa using this
 . have nd:=aee (Xb (l.map λ(x:Nat)=>(x:Int)))
   rw[m6,Ag];refine List.Pairwise.imp_of_mem (fun{a b} ha hb hab e=>hab ?_) (m6.mp nd);rw[Hk,Hl] at ha hb;obtain⟨x,_,rfl⟩:=bf.mp ha;obtain⟨y,_,rfl⟩:=bf.mp hb;simp only[pq] at e;rw[e]
 . constructor
   . intro h
     obtain⟨y,hy,rfl⟩:=bf.mp h;rw[Hk,Hl] at hy;obtain⟨z,hz,rfl⟩:=bf.mp hy;simpa using hz
   . intro h
     refine bf.mpr ⟨(x:Int),?_,by simp⟩;rw[Hk,Hl];exact bf.mpr ⟨x,h,rfl⟩
def aks(hρ:ρ.length=19)(h3:ρ[3]?=some (some (.vl (wk p K))))(h:RS p K rs M)(hK:K<=3)(h7:∀e,e<K->(rs e).length<=7)(ht:t<M.length) :
 ∃M',Hy.den W ρ M=.ok (.ref (M.length+K)) M'/\Mk t (M.length+K) K (λe=>(rs e).length) (λe=>List.range (rs e).length) M'/\Be M M'/\M'.length=M.length+K+1:=by
 unfold Hy;obtain⟨ys,M1,e,r1,r2,r3,r4⟩:=Jl (W:=W) (v:=false) (k:=1) (t:=.name 19) (it:=.v 3) (e:=.ae1 (.l (.v 19))) (ρ:=ρ) (M:=M) (M1:=M) (d:=.vl (wk p K)) (ds:=wk p K) (by simp[h3]) rfl (by simp[wk];exact a_ hK (by decide))
  (λi xs M'=>xs=wk M.length i/\(∀e,e<i->M'[M.length+e]?=some (.lst ((List.range (rs e).length).map nD)))/\Be M M'/\M'.length=M.length+i) ⟨rfl,λe he=>absurd he (xq _),Be.refl M,rfl⟩ (λ_ _ _ _=>rfl)
  (λi y xs M' hy hI=>by
   obtain⟨rfl,q1,q2,q3⟩:=hI;have hi:i<K:=by have:=(ao.mp hy).1;simpa[wk] using this
   obtain rfl:D.ref (p+i)=y:=by simpa[wk,hi] using hy
   have ln:=len_list (p8 (q2 _ _ (h i hi)));have e1:(ρ++List.replicate 1 none).set 19 (some (.ref (p+i)))=ρ++[some (.ref (p+i))]:=by rw[List.set_append];simp[hρ]
   have g9:(ρ++[some (D.ref (p+i))])[19]?=some (some (.ref (p+i))):=by rw[<- hρ];simp
   refine⟨_,.ref M'.length,M'++[.lst ((List.range (rs i).length).map nD)],rfl,?_,?_,λe he=>?_,q2.trans (Be.app _ _),by simp[q3];exact rfl⟩
   . have h8:=h7 i hi
     have h9:(rs i).length<=100000:=a_ h8 (by decide)
     rw[e1];simp[g9,ln,h9,MW.new,nD]
   . simp[wk,List.range_succ,q3]
   . by_cases z:e=i
     . subst z;rw[<- q3];simp
     . exact yg (q1 e (by lia)))
 have hlr:(wk p K).length=K:=by simp[wk]
 rw[hlr] at r1 r2 r4;refine⟨M1++[.lst ys],by rw[e];simp[MW.new,r4],⟨⟨ys,by rw[<- r4];simp,by rw[r1];simp[wk],λi hi=>?_⟩,λi hi=>by simp,λi hi x hx=>jz.mp hx,λi hi x hx=>by simp[jz.mp hx]⟩,r3.trans (Be.app _ _),by simp[r4]⟩;refine⟨.ref (M.length+i),by rw[r1];simp[wk,hi],p8 (yg (r2 i hi)),λa q=>?_⟩;cases q;exact⟨b_ ht x_,H_ hi⟩
def Mk.st(h:Mk t pm K L ms M)(s:St t f M M')(ht:t<pm):Mk t pm K L ms M':=h.frame (λa o ha _ e=>s.keep a o (i_ ha) e) ht
def Ac.of(h:Ac q hs L as M)(k:∀o,M[q]?=some o->M'[q]?=some o):Ac q hs L as M':=⟨k _ h.at_,h.len,h.ok⟩
def av3(hm:1<=m)(P:Nb sz K hs gq)(hh:Rb t f M)(mk:Mk t pm K L ms M)(ac:Ac q hs L as M)(htp:t<p)(hp:p<=pm)(hpd:pm<M.length)(hq:p<=q)(hqp:q≠pm)(hqd:q<M.length)(hL:∀e,e<K->L e<=7)(hc:Cgs hs as hs.length ms) :
 ∃c5 c11 c12 c14 c15 Mv M',Cv.den ⟨prog.call m,prog.cls⟩ [D.ref t,vm K r hs,a2,a3,b4,b5,b6,b7,b8,D.ref q,b10,Qe,R9,D.ref pm,b14,b15,n16,n17,n18] M =
  .ok (.next,[some (.ref t),some (vm K r hs),a2,a3,b4,c5,b6,b7,b8,some (.ref q),b10,c11,c12,some (.ref pm),c14,c15,n16,n17,n18]) M'/\Mk t pm K L Mv M'/\Cgs hs as hs.length Mv/\Ac q hs L as M'/\Gs t f p M M':=by
 have h3:=P.k3;obtain⟨k,M1,e1,l1,s1,n1⟩:=yt (many:=K) hm hh (by have:=P.k1;exact m_ this) (m_ (c_ h3 (by decide)));obtain⟨x,M2,e2,l2,s2,n2⟩:=yt (many:=7) hm s1.has (by decide) (by decide);obtain⟨y,M3,e3,l3,s3,n3⟩:=yt (many:=7) hm s2.has (by decide) (by decide);have hk:k<K:=o_ l1
 have s:=s1.trans (s2.trans s3);have mk3:=mk.st s (b_ htp hp);have ac3:Ac q hs L as M3:=ac.of λo e=>s.keep _ _ (i_ (b_ htp hq)) e
 obtain⟨dk,fk,lk⟩:=mk3.row hk;have hlk:=mk3.len _ hk;have ln:=len_list lk;simp only[dw,hlk] at ln;have mx:=abo M3 x y
 by_cases c:max x y<L k
 . have c':((max x y:Nat):Int)<(L k:Int):=m_ c
   have hx:x<(ms k).length:=by lia
   have hy:y<(ms k).length:=by lia
   have ix:=Qy lk hx;have iy:=Qy lk hy;have hxm:=getD_mem' hx;have hym:=getD_mem' hy;generalize hx0:(ms k).getD x 0=u at ix hxm;generalize hy0:(ms k).getD y 0=w at iy hym;have hlo:min u w∈ms k:=by
    rcases Nat.le_total u w with z|z
    . rw[Nat.min_eq_left z];exact hxm
    . rw[Nat.min_eq_right z];exact hym
   have rp:=aec (W:=⟨prog.call m,prog.cls⟩) (M:=M3) (ρ:=[D.ref t,vm K r hs,a2,a3,b4,D.int k,b6,b7,b8,D.ref q,b10,D.int x,D.int y,D.ref pm,D.int (min u w:Nat),D.int (max u w:Nat),n16,n17,n18]) (v:=13) (x:=5) (y:=19) (a:=14) (b:=15) (lo:=min u w) (hi:=max u w) (by simp[fk]) lk (by have:=hL _ hk;exact a_ (f_ hlk) (a_ this (by decide))) rfl rfl rfl;obtain⟨o,so,mk4⟩:=mk3.set hk (ns:=Ii (min u w) (max u w) (ms k)) (by simp[Ii,hlk]) (λz hz=>by
    obtain⟨v,hv,rfl⟩:=bf.mp hz;split
    . exact mk3.lt _ hk _ hlo
    . exact mk3.lt _ hk _ hv) (aim (mk3.fx _ hk) (λx hx=>by rw[hlk];exact mk3.lt _ hk x hx) hlo) (b_ htp hp)
   have ac4:Ac q hs L as (M3.set pm o):=ac3.of λo e=>by rw[uq (j0 hqp)];exact e
   have hl3:M3.length=M.length:=u_ (a_ (f_ n3) (a_ (f_ n2) (f_ n1))) (a_ (g_ n1) (a_ (g_ n2) (g_ n3)));obtain⟨Mv,M5,e5,mk5,cg5,f5,l5⟩:=akr (r:=r) (M:=M3.set pm o) hm P mk4 ac4 (by simp;exact b_ hpd (g_ hl3)) (by simp;exact b_ hqd (g_ hl3)) hqp (b_ htp hp) hL;have ac5:Ac q hs L as M5:=ac4.of λo e=>f5 _ _ hqp (by simp;exact b_ hqd (g_ hl3)) e
   refine⟨some (.int k),some (.int x),some (.int y),some (.int (min u w:Nat)),some (.int (max u w:Nat)),Mv,M5,?_,mk5,cg5,ac5,⟨?_,λa v ha na e=>?_,by simp at l5;exact a_ (g_ hl3) l5⟩⟩
   . simp[Cv,Mt,e1,e2,e3,mx,fk,ln,c',ix,iy,ain,abo,N6,rp,so,e5]
   . obtain⟨n,hn,ho⟩:=s.has
     exact⟨n,f5 _ _ (h_ (b_ htp hp)) (by have:=yj hn;simp;exact this) (by rw[uq (i_ (b_ htp hp))];exact hn),ho⟩
   . refine f5 _ _ (h_ (b_ ha hp)) (by have:=yj e;simp;exact b_ this (g_ hl3)) ?_
     rw[uq (i_ (b_ ha hp))];exact s.keep a v na e
 . have c':¬((max x y:Nat):Int)<(L k:Int):=by lia
   refine⟨some (.int k),some (.int x),some (.int y),b14,b15,ms,M3,?_,mk3,hc,ac3,Gs.aea s⟩;simp[Cv,Mt,e1,e2,e3,mx,fk,ln,c']
noncomputable def Cz(sizes:Y3)(acts:List (List Nat)):D:=.tup [.tup (sizes.map nD),.tup (acts.map λjs=>.tup (js.map nD))]
def aqh(h:.int v∈ds):ixI v ds<ds.length:=by
 unfold ixI;cases q:ds.findIdx? (λd=>match d with|.int i=>decide (i=v)|_=>false) with
 |some j=>exact(qg.mp q).1
 |none =>
  rw[uz] at q;have:=q _ h;simp at this
def av4:∀{ds:List D},(∀d∈ds,∃i:Int,d=.int i)->.int v∈ds->ds[ixI v ds]?=some (.int v):=fun{ds} hi h=>by
 unfold ixI;cases q:ds.findIdx? (λd=>match d with|.int i=>decide (i=v)|_=>false) with
 |some j =>
  obtain⟨h1,h2,_⟩:=qg.mp q;obtain⟨i,ei⟩:=hi ds[j] (lq h1);rw[ei] at h2;have:i=v:=by simpa using h2
  simp[h1,ei,this]
 |none =>
  rw[uz] at q;have:=q _ h;simp at this
def aqi(l:Y3):∀d∈l.map nD,∃i:Int,d=.int i:=λd hd=>by obtain⟨x,_,rfl⟩:=bf.mp hd;exact⟨_,rfl⟩
def aqj{l:Y3}(h:x∈l):.int (x:Int)∈l.map nD:=bf.mpr ⟨x,h,rfl⟩
noncomputable def ixo(l:Y3)(x:Nat):Nat:=ixI (x:Int) (l.map nD)
def agg(h:x∈l):ixo l x<l.length:=by have:=aqh (aqj h);simpa[ixo] using this
def air{l:Y3}(h:x∈l):l.getD (ixo l x) 0=x:=by have h1:=av4 (aqi l) (aqj h);have h2:=agg h;unfold ixo at h2 ⊢;rw[ie,bc h2] at h1;simp[nD] at h1;rw[cj,bc h2];simp only[yz];exact D_ h1
noncomputable def Sd(ms:Nat->List Nat)(g:F)(js la lb:Y3):List Nat:=la.map λth=>ixo lb ((ms g.b).getD (js.getD th 0) 0)
noncomputable def Kr(acts:List (List Nat))(x:Nat)(w:Int):Nat:=if w=-1 then x else(acts.getD w.toNat []).getD x 0
structure WOk(K:Nat)(hs:List F)(sizes:Y3)(acts:List (List Nat)):Prop where
 ls:sizes.length=K
 la:acts.length=hs.length
 sm:∀x∈sizes,x<=7
 ok:∀(j:Nat)(g:F)(js:Y3),hs[j]?=some g->acts[j]?=some js->js.length=sizes.getD g.a 0/\∀x∈js,x<sizes.getD g.b 0
 fu:∀(j1 j2:Nat)(g1 g2:F)(a1 a2:Y3),hs[j1]?=some g1->hs[j2]?=some g2->g1.b=g2.a->acts[j1]?=some a1->acts[j2]?=some a2->∀x,x<a1.length->a2.getD (a1.getD x 0) 0=Kr acts x (ent hs g1 g2)
noncomputable def Tz(l:Y3):D:=.vl (l.map nD)
def aqk(hρ:ρ.length=19)(h13:ρ[13]?=some (some (.ref pm)))(mk:Mk t pm K L ms M)(hK:K<=3)(h7:∀i,i<K->L i<=7) :
 ∃hl:List (List Nat),Hx.den W ρ M=.ok (.vl (hl.map Tz)) M/\hl.length=K/\∀e l,hl[e]?=some l->l.length<=L e/\l.Nodup/\∀x,x∈l↔x∈ms e:=by
 obtain⟨mds,h1,h2,h3⟩:=mk.ex;unfold Hx;obtain⟨ys,M',e,rfl,hl,r1,r2,r3⟩:=Jl (W:=W) (v:=true) (k:=1) (t:=.name 19) (it:=.v 13) (e:=.blt .Gh (.o (.v 19))) (ρ:=ρ) (M:=M) (M1:=M) (d:=.ref pm) (ds:=mds) (by simp[h13]) (p8 h1) (a_ (f_ h2) (a_ hK (by decide)))
  (λi xs M'=>M'=M/\∃hl:List (List Nat),xs=hl.map Tz/\hl.length=i/\∀e l,hl[e]?=some l->l.length<=L e/\l.Nodup/\∀x,x∈l↔x∈ms e) ⟨rfl,[],rfl,rfl,by simp⟩ (λi xs M' h=>by rw[h.1];exact p8 h1)
  (λi y xs M' hy hI=>by
   obtain⟨rfl,hl,rfl,q1,q2⟩:=hI;have hi:i<K:=by have:=(ao.mp hy).1;exact b_ this (f_ h2)
   obtain⟨d,g1,g2,_⟩:=h3 i hi;rw[hy] at g1;cases g1;obtain⟨l,k1,k2,k4,k3⟩:=agf g2 (by have:=h7 i hi;have:=mk.len i hi;lia);have e1:(ρ++List.replicate 1 none).set 19 (some y)=ρ++[some y]:=by rw[List.set_append];simp[hρ]
   have g9:(ρ++[some y])[19]?=some (some y):=by rw[<- hρ];simp
   refine⟨_,Tz l,M',rfl,by rw[e1];simp[g9,k1,Tz],rfl,hl++[l],by simp,by simp[q1],λe l' he=>?_⟩
   by_cases z:e<hl.length
   . rw[du z] at he;exact q2 e l' he
   . have ze:e=i:=by have:=(ao.mp he).1;simp at this;lia
     subst ze;rw[jm (s_ z),q1] at he;simp at he;subst he;rw[<- mk.len e hi];exact⟨k2,k4,k3⟩)
 refine⟨hl,by rw[e,r1];rfl,r2.trans h2,r3⟩
def aql{hl:List (List Nat)}{i:Nat}(h:hl[i]?=some l):zb (.vl (hl.map Tz)) (.int i) M=some (Tz l):=De rfl q_ (by simp[h])
def akv{hl:List (List Nat)}(mk:Mk t pm K L ms M)(ac:Ac q hs L as M){j:Nat}(hj:hs[j]?=some g)(ej:as[j]?=some js)(ga:g.a<K)(gb:g.b<K)(h1:hl[g.a]?=some la)(h2:hl[g.b]?=some lb)(hma:∀x,x∈la↔x∈ms g.a)(hmb:∀x,x∈lb↔x∈ms g.b)(h7:la.length<=7)(hw:M[w]?=some (.lst td))(htd:td.length<100000) :
 ∃(c18:Option D)(zs:Y3),Em.den W [a0,vm K r hs,a2,a3,b4,b5,b6,b7,b8,D.ref q,D.int j,Qe,R9,D.ref pm,b14,b15,D.vl (hl.map Tz),D.ref w,b18] M =
  .ok (.next,[a0,some (vm K r hs),a2,a3,b4,b5,b6,b7,b8,some (.ref q),some (.int j),some (.int g.a),some (.int g.b),some (.ref pm),b14,b15,some (.vl (hl.map Tz)),some (.ref w),c18]) (M.set w (.lst (td++[.tup (zs.map nD)])))/\zs=Sd ms g js la lb/\zs.length=la.length/\∀x∈zs,x<lb.length:=by
 obtain⟨js',ej',fj,lj,rj⟩:=ac.get hj;rw[ej] at ej';cases ej';obtain⟨db,fb,lbm⟩:=mk.row gb;have hz:∀th∈la,js.getD th 0<(ms g.b).length/\th<js.length:=λth h=>by
  have h3:=mk.lt _ ga th ((hma th).mp h);have h4:th<js.length:=b_ h3 (g_ lj)
  exact⟨by rw[mk.len _ gb];exact rj _ (getD_mem' h4),h4⟩
 have c3:Hw.den W [a0,vm K r hs,a2,a3,b4,b5,b6,b7,b8,D.ref q,D.int j,D.int g.a,D.int g.b,D.ref pm,b14,b15,D.vl (hl.map Tz),D.ref w,b18] M=.ok (Tz (la.map λth=>(ms g.b).getD (js.getD th 0) 0)) M:=by
  unfold Hw;rw[Ay (d:=Tz la) (ds:=la.map nD) (M1:=M) (g:=λd=>match d with|.int o=>nD ((ms g.b).getD (js.getD o.toNat 0) 0)|_=>.non) (by simp[aql h1]) rfl (by simp;exact a_ h7 (by decide)) (λz hz'=>by
   obtain⟨th,hth,rfl⟩:=bf.mp hz';obtain⟨k1,k2⟩:=hz th hth;refine⟨_,rfl,?_⟩;have i1:zb (.vl (js.map nD)) (.int th) M=some (.int (js.getD th 0)):=Qy rfl k2;have i2:=Qy lbm k1;show(Ex.ix (.ix (.v 13) (.v 12)) (.ix (.ix (.v 9) (.v 10)) (.v 19))).den W [a0,vm K r hs,a2,a3,b4,b5,b6,b7,b8,D.ref q,D.int j,D.int g.a,D.int g.b,D.ref pm,b14,b15,D.vl (hl.map Tz),D.ref w,b18,D.int th] M=.ok (nD ((ms g.b).getD (js.getD (th:Int).toNat 0) 0)) M;rw[pq];generalize js.getD th 0=yy at i1 i2;generalize(ms g.b).getD yy 0=zz at i2;simp[fb,fj,i1,i2,nD])]
  simp[Tz,nD]
 have Xl:∀z∈la.map (λth=>(ms g.b).getD (js.getD th 0) 0),.int (z:Int)∈lb.map nD:=λz h=>by obtain⟨th,hth,rfl⟩:=bf.mp h;exact bf.mpr ⟨_,(hmb _).mpr (getD_mem' (hz th hth).1),rfl⟩
 generalize a87:la.map (λth=>(ms g.b).getD (js.getD th 0) 0)=row at c3 Xl;have hrl:row.length=la.length:=by rw[<- a87];simp
 have c2:Hv.den W [a0,vm K r hs,a2,a3,b4,b5,b6,b7,b8,D.ref q,D.int j,D.int g.a,D.int g.b,D.ref pm,b14,b15,D.vl (hl.map Tz),D.ref w,Tz row] M=.ok (.vl ((row.map λ(z:Nat)=>ixI (z:Int) (lb.map nD)).map nD)) M:=by
  unfold Hv;rw[Ay (d:=Tz row) (ds:=row.map nD) (M1:=M) (g:=λd=>match d with|.int o=>nD (ixI o (lb.map nD))|_=>.non) (by simp) rfl (by simp;exact a_ (f_ hrl) (a_ h7 (by decide))) (λz hz'=>by
   obtain⟨o,ho,rfl⟩:=bf.mp hz';refine⟨_,rfl,?_⟩;have i1:=ap0 (M:=M) (ds:=lb.map nD) (v:=(o:Int)) (λd hd=>by obtain⟨x,_,rfl⟩:=bf.mp hd;exact⟨_,rfl⟩) (Xl o ho);show(Ex.bm .index (.ix (.v 16) (.v 12)) (.o (.v 19))).den W [a0,vm K r hs,a2,a3,b4,b5,b6,b7,b8,D.ref q,D.int j,D.int g.a,D.int g.b,D.ref pm,b14,b15,D.vl (hl.map Tz),D.ref w,Tz row,D.int o] M=_;simp[aql h2,Tz,Qn,i1,nD])]
  simp[nD]
 refine⟨some (Tz row),row.map λ(z:Nat)=>ixI (z:Int) (lb.map nD),?_,by rw[<- a87,o7];rfl,by simp[hrl],λx hx=>?_⟩
 . have pe:∀ρ,(Tg.names [11,12]).put (eD g) ρ=some ((ρ.set 11 (some (.int g.a))).set 12 (some (.int g.b))):=λ_=>rfl
   have ap:=K3 (d:=.tup ((row.map λ(z:Nat)=>ixI (z:Int) (lb.map nD)).map nD)) hw htd;simp only[o7] at c2 ap ⊢;simp[-o7,Em,Di,Kg hj,pe,c3,c2,K1 hw,aad,ap]
 . obtain⟨z,hz',rfl⟩:=bf.mp hx
   have:=aqh (Xl z hz');simpa using this
def a1v(h:nD a=nD b):a=b:=by simp only[nD,D.int.injEq,Ba] at h;exact h
def agh(hs:List F)(k:Nat):(wj hs k).Nodup:=by
 refine kj.mpr ⟨λh=>?_,?_⟩
 . obtain⟨x,_,e⟩:=bf.mp h
   simp[nD] at e
 . rw[m6,Ag]
   exact((m6.mp List.nodup_range).filter _).imp λh e=>h (a1v e)
def aqm(hs:List F)(k g:Nat):(wT hs k g).Nodup:=(agh hs k).filter _
def ais(h:Zg n k w=Zg n' k' w'):n=n'/\k=k'/\w=w':=by simp only[Zg,D.tup.injEq,zq,D.int.injEq,Ba,and_true] at h;exact h
def Xc(nd:(ad.map (·.1)).Nodup)(e:Nat):(rowsOf hs ad e).Nodup:=by
 rw[m6];unfold rowsOf;rw[List.pairwise_flatMap];refine⟨λp _=>?_,?_⟩
 . rw[Ag]
   exact(m6.mp (aqm hs p.2 e)).imp λh q=>h (ais q).2.2
 . rw[m6,Ag] at nd
   exact nd.imp λh x hx y hy q=>by obtain⟨u,_,rfl⟩:=bf.mp hx;obtain⟨v,_,rfl⟩:=bf.mp hy;exact h (ais q).1
def Kh{α:Type}{l:List α}(h:l.Nodup){i:Nat}{x:α}(h1:l[i]?=some x)(h2:l[j]?=some x):i=j:=by have hi:=(ao.mp h1).1;exact(List.getElem?_inj hi h).mp (h1.trans h2.symm)
def Zj{j:Nat}(h:bothW hs gq x j=some (.int v)):bv hs gq j (.int x)=v:=by simp[bv,h]
def av6(P:Nb sz K hs gq)(h1:hs[j1]?=some g1)(h2:hs[j2]?=some g2)(e:g1.b=g2.a)(hx:.int x∈wT hs k g1.a) :
 (ent hs g1 g2=-1/\(g1.comp g2).Pu/\bv hs gq j2 (.int (bv hs gq j1 (.int x)))=x)\/∃j3:Nat,ent hs g1 g2=j3/\hs[j3]?=some (g1.comp g2)/\bv hs gq j2 (.int (bv hs gq j1 (.int x)))=bv hs gq j3 (.int x):=by
 have n1:¬((j1:Int)=-1):=by lia
 have n2:¬((j2:Int)=-1):=by lia
 have m1:=au h1;have m2:=au h2;have R9:bothW hs gq j1 j2=some (.int (ent hs g1 g2)):=by rw[bothW,bx n1,bx n2];exact P.look h1 h2 e
 obtain⟨w1,w2⟩:=abj hx;rcases Ey w1 with q|⟨i,f,q,hf,ef⟩
 . cases q
   have c1:bothW hs gq (-1) j1=some (.int j1):=by simp[bothW]
   rw[Zj c1,Zj R9,Ln];rcases P.Du (P.cl g1 m1 g2 m2 e) with⟨x1,i1⟩|⟨u,hu,x1⟩
   . exact .inl ⟨x1,i1,x1⟩
   . refine .inr ⟨u,x1,hu,?_⟩
     rw[x1,Zj (v:=u) (by simp[bothW])]
 . cases q
   have ni:¬((i:Int)=-1):=by lia
   rw[Gn hf] at w2;have c1:bothW hs gq i j1=some (.int (ent hs f g1)):=by rw[bothW,bx ni,bx n1];exact P.look hf h1 w2
   obtain⟨v,v1,v2⟩:=P.am3 hf h1 h2 w2 e;rw[Zj c1,Zj v1];rw[Ln] at v2 ⊢;rcases P.Du (P.cl g1 m1 g2 m2 e) with⟨x1,i1⟩|⟨u,hu,x1⟩
   . rw[x1] at v2
     rw[bothW,bx ni,dh rfl] at v2;cases v2;exact .inl ⟨x1,i1,rfl⟩
   . rw[x1] at v2
     exact .inr ⟨u,x1,hu,(Zj v2).symm⟩
def akx(h:l.Nodup)(hx:x<l.length):ixo l (l.getD x 0)=x:=by
 have m:l.getD x 0∈l:=getD_mem' hx;have h1:=air m;have h2:=agg m;refine Kh h (x:=l.getD x 0) ?_ ?_
 . rw[bc h2]
   rw[cj,bc h2] at h1;simpa using h1
 . rw[bc hx,cj,bc hx];rfl
def Xd(hx:x<la.length):(Sd ms g js la lb).getD x 0=ixo lb ((ms g.b).getD (js.getD (la.getD x 0) 0) 0):=getD_map (α:=Nat) hx
def func(P:Nb sz K hs gq){hd:List (List Nat)}(nd:(ad.map (·.1)).Nodup)(ml:∀e,e<K->(ms e).length=(rowsOf hs ad e).length)(mlt:∀e,e<K->∀x∈ms e,x<(rowsOf hs ad e).length)(fx:∀e,e<K->∀x∈ms e,(ms e).getD x 0=x)(cg:Cgs hs as hs.length ms)(ae:∀(j:Nat) (g:F) (js:Y3),hs[j]?=some g->as[j]?=some js->Ae hs gq ad j g js)(hh:∀e l,hd[e]?=some l->l.Nodup/\∀x,x∈l↔x∈ms e){j1 j2:Nat}(h1:hs[j1]?=some g1)(h2:hs[j2]?=some g2)(e:g1.b=g2.a)(q1:as[j1]?=some s1)(q2:as[j2]?=some s2)(hla:hd[g1.a]?=some la)(hlb:hd[g1.b]?=some lb)(hlc:hd[g2.b]?=some lc)(hx:x<la.length) :
 (ent hs g1 g2=-1/\(Sd ms g2 s2 lb lc).getD ((Sd ms g1 s1 la lb).getD x 0) 0=x) \/
  ∃j3:Nat,ent hs g1 g2=j3/\hs[j3]?=some (g1.comp g2)/\∀s3,as[j3]?=some s3->(Sd ms g2 s2 lb lc).getD ((Sd ms g1 s1 la lb).getD x 0) 0=(Sd ms (g1.comp g2) s3 la lc).getD x 0:=by
 have m1:=au h1;have m2:=au h2;have ka:=P.Xu g1 m1;have kb:=P.V4 g1 m1;have kc:=P.V4 g2 m2;obtain⟨na,ma⟩:=hh _ _ hla;obtain⟨_,mb⟩:=hh _ _ hlb;have A1:=ae _ _ _ h1 q1;have A2:=ae _ _ _ h2 q2;have hm:=(ma _).mp (getD_mem' hx);generalize hh0:la.getD x 0=h at hm;have Iw:=mlt _ ka h hm;obtain⟨n,k,w,_,hw,er⟩:=Im (lq Iw);have r0:(rowsOf hs ad g1.a)[h]?=some (Zg n k (.int w)):=by rw[bc Iw,er]
 have r1:=A1.go _ _ _ _ r0;have r2:=A2.go _ _ _ _ (by rw[<- e];exact r1);have l1:s1.getD h 0<(ms g1.b).length:=by rw[ml _ kb];exact(ao.mp r1).1
 have v1:=getD_mem' l1;have yl:=agg ((mb _).mpr v1);rw[Xd hx,hh0,Xd yl,air ((mb _).mpr v1)];have c1:(ms g2.b).getD (s2.getD ((ms g1.b).getD (s1.getD h 0) 0) 0) 0=(ms g2.b).getD (s2.getD (s1.getD h 0) 0) 0:=by
  have j2l:=(ao.mp h2).1;refine cg j2 g2 s2 j2l h2 q2 _ _ ?_ ?_ ?_
  . rw[A2.len,<- e];exact mlt _ kb _ v1
  . rw[A2.len,<- e,<- ml _ kb];exact l1
  . rw[<- e];exact fx _ kb _ v1
 rw[c1];rcases av6 P h1 h2 e hw with⟨e1,i1,b1⟩|⟨j3,e1,h3,b1⟩
 . left
   refine⟨e1,?_⟩;have ab:g1.a=g2.b:=i1.1;rw[b1,<- ab] at r2;rw[<- ab] at hlc;rw[hla] at hlc;cases hlc;rw[Kh (Xc nd _) r2 r0,<- ab,fx _ ka h hm,<- hh0,akx na hx]
 . right
   refine⟨j3,e1,h3,λs3 q3=>?_⟩;have A3:=ae _ _ _ h3 q3;have r3:=A3.go h n k w r0;rw[Xd hx,hh0];rw[b1] at r2;have:s2.getD (s1.getD h 0) 0=s3.getD h 0:=Kh (Xc nd g2.b) r2 r3;rw[this];rfl
def aqn(hm:2<=m)(P:Nb sz K hs gq)(hh:Rb t f M)(hr:M[r]?=some (.dT gq))(hrt:r≠t) :
 ∃sizes acts M',prog.call m 27 [.ref t,vm K r hs,.int 3] M=.ok (Cz sizes acts) M'/\WOk K hs sizes acts/\St t f M M':=by
 rw[call_of (a_ (by decide) hm) rfl];have h3:=P.k3;have hl:=P.len;have ht:t<M.length:=by obtain⟨n,h,_⟩:=hh;exact yj h
 have hrl:=yj hr;have r0:=ap2 (W:=⟨prog.call (m-1),prog.cls⟩) (M:=M) (K:=K) (y:=19) (e:=.ix (.v 1) (.i 0)) (ρ:=[D.ref t,vm K r hs,D.int 3,none,none,none,none,none,none,none,none,none,none,none,none,none,none,none,none]) rfl (by simp[Mt]) (a_ h3 (by decide));have g0:Gs t f M.length M (M++List.replicate K (.lst [])):=Gs.app hh (bw _) _;have w0:Rw hs K M.length [] (M++List.replicate K (.lst [])):=⟨λi hi=>by
  rw[jm x_];simp[rowsOf,hi],by simp,by simp[rowsOf],xf⟩
 obtain⟨v,M1,e1,l1,s1,n1⟩:=yt (many:=4) (m:=m-1) (r_ hm) g0.has (by decide) (by decide);obtain⟨ρ2,M2,e2,⟨b4,b5,b6,b7,b8,rfl⟩,ad,w2,Xm,g2,n2⟩:=Ax (W:=⟨prog.call (m-1),prog.cls⟩) (t:=.name 4) (b:=Cw) (it:=.call 14 (.p (.v 0) (.bin .add (.v 2) (.i 1)))) (n:=v)
  (ρ:=[some (.ref t),some (vm K r hs),some (.int 3),some (.vl (wk M.length K)),none,none,none,none,none]++[none,none,none,none,none,none,none,none,none,none]) (M:=M++List.replicate K (.lst [])) (M1:=M1) (by simp[e1]) (e_ (b_ (o_ l1) (by decide)))
  (λi ρ M'=>(∃b4 b5 b6 b7 b8:Option D,ρ=[some (.ref t),some (vm K r hs),some (.int 3),some (.vl (wk M.length K)),b4,b5,b6,b7,b8]++[none,none,none,none,none,none,none,none,none,none])/\∃ad,Rw hs K M.length ad M'/\(∀q∈ad,q.1<i)/\Gs t f M.length M M'/\M'.length=M.length+K)
  ⟨⟨none,none,none,none,none,rfl⟩,[],⟨w0.rs.keep s1 ht,w0.kd,w0.le,w0.nd⟩,by simp,g0.trans (Gs.aea s1),by simp at n1;exact n1⟩
  (λi ρ M2 hi hI=>by
   obtain⟨⟨b4,b5,b6,b7,b8,rfl⟩,ad,q1,hn,q2,q3⟩:=hI;obtain⟨c5,c6,c7,c8,ad',M3,e3,k1,O6,k2,k3⟩:=avv (m:=m-1) (r:=r) (n:=i) (r_ hm) P q2.has ht q1 hn (b5:=b5) (b6:=b6) (b7:=b7) (b8:=b8) (rest:=[none,none,none,none,none,none,none,none,none,none]) rfl;exact⟨_,.next,_,M3,rfl,e3,.inl rfl,⟨some (.int i),c5,c6,c7,c8,rfl⟩,ad',k1,O6,q2.trans k2,k3.trans q3⟩)
 have hM2:=n2;obtain⟨ρ3,M3,e3,⟨b10,Qe,R9,rfl⟩,as,a3,a4,a5,w3,g3,n3⟩:=Ax (W:=⟨prog.call (m-1),prog.cls⟩) (t:=.name 10) (b:=Ia) (it:=.blt .len (.o (.ix (.v 1) (.i 1)))) (n:=hs.length)
  (ρ:=[D.ref t,vm K r hs,D.int 3,D.vl (wk M.length K),b4,b5,b6,b7,b8,D.ref M2.length,none,none,none,none,none,none,none,none,none]) (M:=M2++[.lst []]) (M1:=M2++[.lst []]) (by simp[Di,By]) (a_ hl (by decide))
  (λj ρ M'=>(∃b10 Qe R9:Option D,ρ=[some (.ref t),some (vm K r hs),some (.int 3),some (.vl (wk M.length K)),b4,b5,b6,b7,b8,some (.ref M2.length),b10,Qe,R9,none,none,none,none,none,none]) /\
   ∃as:List (List Nat),M'[M2.length]?=some (.lst (as.map λjs=>.vl (js.map nD)))/\as.length=j/\(∀(j:Nat)(g:F)(js:Y3),hs[j]?=some g->as[j]?=some js->Ae hs gq ad j g js)/\Rw hs K M.length ad M'/\Gs t f M.length M M'/\M'.length=M2.length+1)
  ⟨⟨none,none,none,rfl⟩,[],by simp,rfl,by simp,⟨λi hi=>yg (w2.rs i hi),w2.kd,w2.le,w2.nd⟩,g2.trans (Gs.app g2.has (by lia) _),by simp⟩
  (λj ρ M3 hj hI=>by
   obtain⟨⟨b10,Qe,R9,rfl⟩,as,q1,q2,q3,q4,q5,q6⟩:=hI;have hjg:hs[j]?=some hs[j]:=by simp[hj]
   obtain⟨js,c7,k1⟩:=a1n (m:=m-1) (M:=M3) (r:=r) (r_ hm) P (q5.low _ _ hrl hrt hr) q4 hjg (a0:=some (.ref t)) (a2:=some (.int 3)) (a4:=b4) (a5:=b5) (a6:=b6) (a7:=b7) (a8:=b8) (a9:=some (.ref M2.length)) (rest:=[none,none,none,none,none,none]) rfl;have ap:=K3 (d:=.vl (js.map nD)) q1 (by simp;exact c_ (f_ q2) (b_ hj (a_ hl (by decide))));have pe:∀ρ,(Tg.names [11,12]).put (eD hs[j]) ρ=some ((ρ.set 11 (some (.int hs[j].a))).set 12 (some (.int hs[j].b))):=λ_=>rfl
   simp only[yx,xm] at c7;refine⟨_,.next,_,M3.set M2.length (.lst ((as.map λjs=>.vl (js.map nD))++[.vl (js.map nD)])),rfl,by simp[Ia,Di,Kg hjg,pe,K1 q1,c7,ap],.inl rfl,⟨some (.int j),some (.int hs[j].a),some (.int hs[j].b),rfl⟩,as++[js],by rw[v8 q1];simp,by simp[q2],λj' g js' hg Ku=>?_,⟨λi hi=>?_,q4.kd,q4.le,q4.nd⟩,q5.trans (Gs.ap5 q5.has (Zf.set (by lia)) ht (by simp)),by simp[q6]⟩
   . by_cases z:j'<as.length
     . rw[du z] at Ku;exact q3 j' g js' hg Ku
     . have ze:j'=j:=by have:=(ao.mp Ku).1;simp at this;lia
       subst ze;rw[jm (s_ z),q2] at Ku;simp at Ku;subst Ku;rw[hjg] at hg;cases hg;exact k1
   . rw[uq (by lia)];exact q4.rs i hi)
 obtain⟨M4,e4,mk4,kp4,n4⟩:=aks (W:=⟨prog.call (m-1),prog.cls⟩) (t:=t) (M:=M3) (ρ:=[D.ref t,vm K r hs,D.int 3,D.vl (wk M.length K),b4,b5,b6,b7,b8,D.ref M2.length,b10,Qe,R9,none,none,none,none,none,none]) rfl rfl w3.rs h3 w3.le (by lia);have g4:Gs t f M.length M M4:=g3.trans ⟨by obtain⟨n,h,o⟩:=g3.has;exact⟨n,kp4 _ _ h,o⟩,λa o _ _ e=>kp4 a o e,by lia⟩;have ac4:Ac M2.length hs (λe=>(rowsOf hs ad e).length) as M4:=⟨kp4 _ _ a3,a4,λj g js h1 h2=>⟨(a5 j g js h1 h2).len,(a5 j g js h1 h2).lt⟩⟩;have cg4:Cgs hs as hs.length (λe=>List.range (rowsOf hs ad e).length):=λj g js _ h1 h2 x y hx hy e=>by
  have hl:=(a5 j g js h1 h2).len;have ex:(List.range (rowsOf hs ad g.a).length).getD x 0=x:=by simp[<- hl,hx]
  have ey:(List.range (rowsOf hs ad g.a).length).getD y 0=y:=by simp[<- hl,hy]
  simp only[ex,ey] at e;rw[e]
 obtain⟨u,M5,e5,l5,s5,n5⟩:=yt (many:=4) (m:=m-1) (r_ hm) g4.has (by decide) (by decide);obtain⟨ρ6,M6,e6,⟨d5,d10,d11,d12,d14,d15,rfl⟩,ms,mk6,cg6,ac6,g6,n6⟩:=Ax (W:=⟨prog.call (m-1),prog.cls⟩) (t:=.name 10) (b:=Cv) (it:=.call 14 (.p (.v 0) (.i 4))) (n:=u)
  (ρ:=[D.ref t,vm K r hs,D.int 3,D.vl (wk M.length K),b4,b5,b6,b7,b8,D.ref M2.length,b10,Qe,R9,D.ref (M3.length+K),none,none,none,none,none]) (M:=M4) (M1:=M5) (by simp[e5]) (e_ (b_ (o_ l5) (by decide)))
  (λ_ ρ M'=>(∃b5 b10 Qe R9 b14 b15:Option D,ρ=[some (.ref t),some (vm K r hs),some (.int 3),some (.vl (wk M.length K)),b4,b5,b6,b7,b8,some (.ref M2.length),b10,Qe,R9,some (.ref (M3.length+K)),b14,b15,none,none,none]) /\
   ∃ms,Mk t (M3.length+K) K (λe=>(rowsOf hs ad e).length) ms M'/\Cgs hs as hs.length ms/\Ac M2.length hs (λe=>(rowsOf hs ad e).length) as M'/\Gs t f M.length M M'/\M3.length+K<M'.length)
  ⟨⟨b5,b10,Qe,R9,none,none,rfl⟩,_,mk4.st s5 (by lia),cg4,ac4.of λo e=>s5.keep _ _ (by lia) e,g4.trans (Gs.aea s5),by lia⟩
  (λi ρ M6 hi hI=>by
   obtain⟨⟨b5,b10,Qe,R9,b14,b15,rfl⟩,ms,q1,qc,q2,q3,q4⟩:=hI;obtain⟨c5,c11,c12,c14,c15,Mv,M7,e7,k1,kc,k2,k3⟩:=av3 (m:=m-1) (r:=r) (p:=M.length) (r_ hm) P q3.has q1 q2 ht (by lia) q4 (by lia) (by lia) (by lia) w3.le qc (a2:=some (.int 3)) (a3:=some (.vl (wk M.length K))) (b4:=b4) (b5:=b5) (b6:=b6) (b7:=b7) (b8:=b8) (b10:=some (.int i)) (Qe:=Qe) (R9:=R9) (b14:=b14) (b15:=b15) (n16:=none) (n17:=none) (n18:=none);exact⟨_,.next,_,M7,rfl,e7,.inl rfl,⟨c5,some (.int i),c11,c12,c14,c15,rfl⟩,Mv,k1,kc,k2,q3.trans k3,by have:=k3.len;exact b_ q4 this⟩)
 obtain⟨hd,e7,hd1,hd2⟩:=aqk (W:=⟨prog.call (m-1),prog.cls⟩) (M:=M6) (ρ:=[D.ref t,vm K r hs,D.int 3,D.vl (wk M.length K),b4,d5,b6,b7,b8,D.ref M2.length,d10,d11,d12,D.ref (M3.length+K),d14,d15,none,none,none]) rfl rfl mk6 h3 w3.le;have hdl:∀e,e<K->∃l,hd[e]?=some l/\l.length<=7/\∀x,x∈l↔x∈ms e:=λe he=>by have z:hd[e]?=some hd[e]:=bc (b_ he (g_ hd1));obtain⟨y1,_,y2⟩:=hd2 e _ z;have:=w3.le e he;exact⟨_,z,a_ y1 this,y2⟩
 obtain⟨ρ8,M8,e8,⟨f10,f11,f12,f18,rfl⟩,td,t1,t2,t3,t4,g8,n8⟩:=Ax (W:=⟨prog.call (m-1),prog.cls⟩) (t:=.name 10) (b:=Em) (it:=.blt .len (.o (.ix (.v 1) (.i 1)))) (n:=hs.length)
  (ρ:=[D.ref t,vm K r hs,D.int 3,D.vl (wk M.length K),b4,d5,b6,b7,b8,D.ref M2.length,d10,d11,d12,D.ref (M3.length+K),d14,d15,D.vl (hd.map Tz),D.ref M6.length,none]) (M:=M6++[.lst []]) (M1:=M6++[.lst []]) (by simp[Di,By]) (a_ hl (by decide))
  (λj ρ M'=>(∃b10 Qe R9 b18:Option D,ρ=[some (.ref t),some (vm K r hs),some (.int 3),some (.vl (wk M.length K)),b4,d5,b6,b7,b8,some (.ref M2.length),b10,Qe,R9,some (.ref (M3.length+K)),d14,d15,some (.vl (hd.map Tz)),some (.ref M6.length),b18]) /\
   ∃td:List (List Nat),M'[M6.length]?=some (.lst (td.map λjs=>.tup (js.map nD)))/\td.length=j/\(∀(j:Nat)(g:F)(js:Y3),hs[j]?=some g->td[j]?=some js->js.length=(hd.map List.length).getD g.a 0/\∀x∈js,x<(hd.map List.length).getD g.b 0)/\(∀(j:Nat)(g:F)(js:Y3),hs[j]?=some g->td[j]?=some js->∃s la lb,as[j]?=some s/\hd[g.a]?=some la/\hd[g.b]?=some lb/\js=Sd ms g s la lb)/\Be M6 M'/\M'.length=M6.length+1)
  ⟨⟨d10,d11,d12,none,rfl⟩,[],by simp,rfl,by simp,by simp,Be.app _ _,by simp⟩
  (λj ρ M7 hj hI=>by
   obtain⟨⟨b10,Qe,R9,b18,rfl⟩,td,q1,q2,q3,qe,q4,q5⟩:=hI;have hjg:hs[j]?=some hs[j]:=by simp[hj]
   obtain⟨sj,ej,_⟩:=ac6.get hjg;have hg:=au hjg;obtain⟨la,x1,x2,x3⟩:=hdl _ (P.Xu _ hg);obtain⟨lb,y1,y2,y3⟩:=hdl _ (P.V4 _ hg);have mk7:=mk6.frame (M':=M7) (λa o _ _ e=>q4 a o e) (by lia);have ac7:=ac6.of (M':=M7) λo e=>q4 _ _ e
   obtain⟨c18,zs,e9,kz,k1,k2⟩:=akv (W:=⟨prog.call (m-1),prog.cls⟩) (r:=r) mk7 ac7 (hl:=hd) hjg ej (P.Xu _ hg) (P.V4 _ hg) x1 y1 x3 y3 x2 q1 (by simp;exact c_ (f_ q2) (b_ hj (a_ hl (by decide)))) (a0:=some (.ref t)) (a2:=some (.int 3)) (a3:=some (.vl (wk M.length K))) (b4:=b4) (b5:=d5) (b6:=b6) (b7:=b7) (b8:=b8) (Qe:=Qe) (R9:=R9) (b14:=d14) (b15:=d15) (b18:=b18);refine⟨_,.next,_,_,rfl,e9,.inl rfl,⟨some (.int j),some (.int hs[j].a),some (.int hs[j].b),c18,rfl⟩,td++[zs],by rw[v8 q1];simp,by simp[q2],λj' g js' Ym Ku=>?_,λj' g js' Ym Ku=>?_,λa o e=>?_,by simp[q5]⟩
   . by_cases z:j'<td.length
     . rw[du z] at Ku;exact q3 j' g js' Ym Ku
     . have ze:j'=j:=by have:=(ao.mp Ku).1;simp at this;lia
       subst ze;rw[jm (s_ z),q2] at Ku;simp at Ku;subst Ku;rw[hjg] at Ym;cases Ym;have u1:(hd.map List.length).getD hs[j'].a 0=la.length:=by simp[cj,x1]
       have u2:(hd.map List.length).getD hs[j'].b 0=lb.length:=by simp[cj,y1]
       rw[u1,u2];exact⟨k1,k2⟩
   . by_cases z:j'<td.length
     . rw[du z] at Ku;exact qe j' g js' Ym Ku
     . have ze:j'=j:=by have:=(ao.mp Ku).1;simp at this;lia
       subst ze;rw[jm (s_ z),q2] at Ku;simp at Ku;subst Ku;rw[hjg] at Ym;cases Ym;exact⟨sj,la,lb,ej,x1,y1,kz⟩
   . rw[uq (by have:=yj e;exact i_ this)];exact q4 a o e)
 have c1:Hu.den ⟨prog.call (m-1),prog.cls⟩ [D.ref t,vm K r hs,D.int 3,D.vl (wk M.length K),b4,d5,b6,b7,b8,D.ref M2.length,f10,f11,f12,D.ref (M3.length+K),d14,d15,D.vl (hd.map Tz),D.ref M6.length,f18] M8=.ok (.vl ((hd.map List.length).map nD)) M8:=by
  unfold Hu;rw[Ay (d:=.vl (hd.map Tz)) (ds:=hd.map Tz) (M1:=M8) (g:=λd=>match d with|.vl l=>.int l.length|_=>.non) (by simp) rfl (by simp;exact a_ (f_ hd1) (a_ h3 (by decide))) (λz hz=>by
   obtain⟨l,Yl,rfl⟩:=bf.mp hz;refine⟨_,rfl,?_⟩;simp[Tz,qx,Dt])]
  simp[Tz,nD]
 refine⟨hd.map List.length,td,M8,?_,⟨by simp[hd1],t2,λx hx=>?_,t3,λj1 j2 g1 g2 z1 z2 h1 h2 eg q1 q2 x hx=>?_⟩,?_⟩
 . simp only[yx,xm] at e2
   have s3':Ob.den ⟨prog.call (m-1),prog.cls⟩ _ _=_:=e2;have s2':N8.den ⟨prog.call (m-1),prog.cls⟩ _ _=_:=e3;have s1':N7.den ⟨prog.call (m-1),prog.cls⟩ _ _=_:=e6;have s0':N5.den ⟨prog.call (m-1),prog.cls⟩ _ _=_:=e8;have r0':Mr.den ⟨prog.call (m-1),prog.cls⟩ _ _=_:=r0;simp[-o7,Fn.run,Ra,Q9,r0',s3',MW.new,s2',e4,s1',e7,s0',c1,aad,qx,Vv (p8 t1),Cz]
 . obtain⟨l,Yl,rfl⟩:=bf.mp hx
   obtain⟨i,hi,rfl⟩:=jo Yl;obtain⟨l2,y1,y2,_⟩:=hdl i (b_ hi (f_ hd1));rw[bc hi] at y1;cases y1;exact y2
 . obtain⟨s1,la,lb,i1,i2,i3,rfl⟩:=t4 _ _ _ h1 q1
   obtain⟨s2,lb',lc,i4,i5,i6,rfl⟩:=t4 _ _ _ h2 q2;rw[<- eg,i3] at i5;cases i5;have hx':x<la.length:=by simpa[Sd] using hx
   rcases func P w3.nd mk6.len mk6.lt mk6.fx cg6 a5 (λe l he=>(hd2 e l he).2) h1 h2 eg i1 i4 i2 i3 i6 hx' with⟨e1,e2⟩|⟨j3,e1,e2,e3⟩
   . rw[e2,Kr,dh e1]
   . have l3:=(ao.mp e2).1
     have u3:td[j3]?=some td[j3]:=bc (b_ l3 (g_ t2));obtain⟨s3,la',lc',i7,i8,i9,i10⟩:=t4 _ _ _ e2 u3;have i8:hd[g1.a]?=some la':=i8;have i9:hd[g2.b]?=some lc':=i9;rw[i2] at i8;cases i8;rw[i6] at i9;cases i9;have nj:¬((j3:Int)=-1):=by lia
     rw[e3 _ i7,<- i10,Kr,e1,bx nj];simp[cj,u3]
 . have:Gs t f M.length M M8:=g6.trans ⟨by obtain⟨n,h,o⟩:=g6.has;exact⟨n,g8 _ _ h,o⟩,λa o _ _ e=>g8 a o e,by lia⟩
   exact this.st
noncomputable def Fe(l:Y3):D:=.tup (l.map nD)
def aqo(s:Y3)(a:List (List Nat))(M:cz):zb (Cz s a) (.int 1) M=some (.tup (a.map Fe)):=rfl
def aef{l:Y3}(h:i<l.length):zb (Fe l) (.int i) M=some (.int (l.getD i 0)):=Hn q_ (by simp[h,nD])
def Xe{a:List (List Nat)}{j:Nat}(h:a[j]?=some js):zb (.tup (a.map Fe)) (.int j) M=some (Fe js):=Hn q_ (by simp[h])
def aqp(hs:List F)(k:Nat):Ci hs k (.int (-1))=k:=by simp[Ci]
def aqq(P:Nb sz K hs gq)(hx:.int x∈wj hs k)(hy:.int y∈wj hs (Ci hs k (.int x))) :
 ∃v:Int,bothW hs gq x y=some (.int v)/\.int v∈wj hs k/\Ci hs k (.int v)=Ci hs (Ci hs k (.int x)) (.int y):=by
 rcases Ey hx with q|⟨i,f,q,hf,ef⟩
 . cases q
   rw[aqp] at hy ⊢;exact⟨y,by simp[bothW],hy,rfl⟩
 . cases q
   rw[Gn hf] at hy ⊢;have ni:¬((i:Int)=-1):=by lia
   rcases Ey hy with q|⟨j,g,q,hg,eg⟩
   . cases q
     exact⟨i,by simp[bothW,ni],hx,by rw[Gn hf,aqp]⟩
   . cases q
     have hw:.int (i:Int)∈wT hs k g.a:=ux.mpr ⟨hx,by simp[Gn hf,eg]⟩;obtain⟨x',z,_,h1,h2⟩:=aii P hg hw;cases z;obtain⟨h3,h4⟩:=abj h2;exact⟨_,h1,h3,by rw[h4,Gn hg]⟩
def WOk.act(w:WOk K hs sizes acts){i:Nat}(hg:hs[i]?=some g):∃js,acts[i]?=some js/\(∀th,Kr acts th i=js.getD th 0)/\js.length=sizes.getD g.a 0/\∀x∈js,x<sizes.getD g.b 0:=by
 have hil:=(ao.mp hg).1;have hj:acts[i]?=some (acts[i]'(by rw[w.la];exact hil)):=bc _;generalize acts[i]'(by rw[w.la];exact hil)=js at hj;have ni:¬((i:Int)=-1):=by lia
 exact⟨js,hj,λth=>by simp[Kr,ni,cj,hj],w.ok i g js hg hj⟩
def aqr(acts:List (List Nat))(th:Nat):Kr acts th (-1)=th:=by simp[Kr]
noncomputable def tupI(l:Xs):D:=.tup (l.map D.int)
noncomputable def yu(sizes:Xs)(acts:List (List Int)):D:=.tup [tupI sizes,.tup (acts.map tupI)]
def Zk(s:Xs)(a:List (List Int))(M:cz):zb (yu s a) (.int 0) M=some (tupI s):=rfl
def ait(s:Xs)(a:List (List Int))(M:cz):zb (yu s a) (.int 1) M=some (.tup (a.map tupI)):=rfl
def Zm{l:Xs}{i:Nat}{M:cz}(h:i<l.length):zb (tupI l) (.int i) M=some (.int (l.getD i 0)):=Hn q_ (by simp[h])
def aqs{a:List (List Int)}{j:Nat}{js:Xs}{M:cz}(h:a[j]?=some js):zb (.tup (a.map tupI)) (.int j) M=some (tupI js):=Hn q_ (by simp[h])
theorem allB_of(f:Int->Bool):∀l:List Int,allB (l.map λi=>D.bl (f i))=some (l.all f)
 |[]=>rfl|a::l=>by simp[allB,allB_of f l]
def aqt(M:cz)(f:Int->Bool)(l:Xs):qx .all [.vl (l.map λi=>D.bl (f i))] M=.ok (.bl (l.all f)) M:=by show Res.uo (((Bj M (.vl (l.map λi=>D.bl (f i)))).bind allB).map D.bl) M=_;simp[allB_of]
noncomputable def Dc(K:Nat)(sizes:Xs):Bool:=decide (sizes.length=K)&&sizes.all λi=>decide (0<=i)
section
variable{m:Nat}{M:cz}{sz:Nat->Nat}{K n r:Nat}{hs:List F}{gq:List (List Kx×D)}{sizes:Xs}{acts:List (List Int)}
def agi(hm:2<=m)(h:Made n r K hs gq M)(hl:sizes.length<=100000):prog.call m 22 [.ref n,yu sizes acts] M=.ok (.bl (Dc K sizes)) M:=by
 rw[call_of (a_ (by decide) hm) rfl];have m1:1<=m-1:=r_ hm
 have g1:=Vg (M:=M) (W:=⟨prog.call (m-1),prog.cls⟩) (n:=n) (ρ:=[D.ref n,yu sizes acts,tupI sizes]) (o:=.v 0) (mm:=0) (es:=.z) (ds:=[]) (fi:=1) (by simp) (by simp) h.1 rfl;have c1:Jo.den ⟨prog.call (m-1),prog.cls⟩ [D.ref n,yu sizes acts,tupI sizes] M=.ok (.vl (sizes.map λi=>D.bl (decide (0<=i)))) M:=by
  unfold Jo;rw[K5 (ds:=sizes.map D.int) (M1:=M) (g:=λd=>match d with|.int i=>.bl (decide (0<=i))|_=>.non) (by rw[O8];rfl) (by simpa using hl) (λx hx=>by
   obtain⟨y,_,rfl⟩:=bf.mp hx;refine⟨_,rfl,?_⟩;show(Ex.cmp .ge (.v 3) (.i 0)).den _ [D.ref n,yu sizes acts,tupI sizes,D.int y] M=_
   simp)]
  rw[dh rfl,o7];rfl
 have ln:qx .len [tupI sizes] M=.ok (.int sizes.length) M:=by simp[qx,Dt,tupI]
 by_cases e:sizes.length=K
 . have e':((sizes.length:Int)=(K:Int)):=E_ e
   simp[-Cu,Fn.run,Nz,Ny,Zk,ln,g1,kinds_ok m1 h,c1,aqt,Dc,e,e']
 . have e':¬((sizes.length:Int)=(K:Int)):=by lia
   simp[-Cu,Fn.run,Nz,Ny,Zk,ln,g1,kinds_ok m1 h,Dc,e,e']
end
noncomputable def X5(sizes:Xs)(g:F)(js:Xs):Bool:=decide ((js.length:Int)=sizes.getD g.a 0)&&js.all λi=>decide (0<=i)&&decide (i<sizes.getD g.b 0)
noncomputable def Eb(hs:List F)(sizes:Xs)(acts:List (List Int)):Bool:=decide (acts.length=hs.length)&&(acts.zip hs).all λp=>X5 sizes p.2 p.1
def aiu{α:Type}{l:List α}{f:α->Bool}(h:∀(i:Nat) (x:α),l[i]?=some x->f x=true):l.all f=true:=by rw[gn];intro x hx;obtain⟨i,hi,rfl⟩:=jo hx;exact h i _ (bc hi)
def aeg{α:Type}{l:List α}{f:α->Bool}{i:Nat}{x:α}(h:l[i]?=some x)(e:f x=false):l.all f=false:=by rw[List.all_eq_false];exact⟨x,au h,by simp[e]⟩
noncomputable abbrev EL(n:Nat)(sizes:Xs)(acts:List (List Int))(hs:List F)(a b:Option D):Env:=[some (.ref n),some (yu sizes acts),some (tupI sizes),some (.tup (acts.map tupI)),some (Ih hs),a,b]
section
variable{m:Nat}{M:cz}{sz:Nat->Nat}{K n r:Nat}{hs:List F}{gq:List (List Kx×D)}{sizes:Xs}{acts:List (List Int)}
def aky(hm:2<=m)(P:Nb sz K hs gq)(h:Made n r K hs gq M)(hK:sizes.length=K)(hj:∀js∈acts,js.length<=100000):prog.call m 23 [.ref n,yu sizes acts] M=.ok (.bl (Eb hs sizes acts)) M:=by
 rw[call_of (a_ (by decide) hm) rfl];have m1:1<=m-1:=r_ hm
 have g1:=Vg (M:=M) (W:=⟨prog.call (m-1),prog.cls⟩) (n:=n) (ρ:=[D.ref n,yu sizes acts,tupI sizes,D.tup (acts.map tupI),none,none,none]) (o:=.v 0) (mm:=1) (es:=.z) (ds:=[]) (fi:=2) (by simp) (by simp) h.1 rfl;have la:qx .len [.tup (acts.map tupI)] M=.ok (.int acts.length) M:=by simp[qx,Dt]
 by_cases hl:acts.length=hs.length
 . have Yl:((acts.length:Int)=(hs.length:Int)):=E_ hl
   have loop:=Q8 (W:=⟨prog.call (m-1),prog.cls⟩) (t:=.names [5,6]) (b:=El) (it:=.zip (.v 3) (.v 4)) (ρ:=EL n sizes acts hs none none) (M:=M) (M1:=M) (s:=.con (((acts.map tupI).zip (hs.map eD)).map λp=>D.tup [p.1,p.2])) (n:=hs.length) rfl (by simp[Src.len,hl])
    (λi ρ M'=>(∃b5 b6,ρ=EL n sizes acts hs b5 b6)/\M'=M/\∀(j:Nat)(p:List Int×F),j<i->(acts.zip hs)[j]?=some p->X5 sizes p.2 p.1=true)
    (λv M'=>v=.bl false/\M'=M/\∃(j:Nat)(p:List Int×F),(acts.zip hs)[j]?=some p/\X5 sizes p.2 p.1=false) ⟨⟨none,none,rfl⟩,rfl,by simp⟩ (λ_ _ _=>rfl)
    (λi ρ M1 hi hI=>by
     obtain⟨⟨b5,b6,rfl⟩,rfl,q⟩:=hI;have hg:hs[i]?=some hs[i]:=by simp[hi]
     have Ku:acts[i]?=some (acts[i]'(b_ hi (g_ hl))):=bc _;generalize hs[i]=g at hg;generalize acts[i]'(b_ hi (g_ hl))=js at Ku;have hgm:=au hg;have hzz:(acts.zip hs)[i]?=some (js,g):=qz.mpr ⟨Ku,hg⟩;have ia:=Zm (M:=M1) (l:=sizes) (i:=g.a) (by rw[hK];exact P.Xu g hgm);have ib:=Zm (M:=M1) (l:=sizes) (i:=g.b) (by rw[hK];exact P.V4 g hgm);have ln:qx .len [tupI js] M1=.ok (.int js.length) M1:=by simp[qx,Dt,tupI]
     have ab:X5 sizes g js=(decide ((js.length:Int)=sizes.getD g.a 0)&&js.all λi=>decide (0<=i)&&decide (i<sizes.getD g.b 0)):=rfl;generalize sizes.getD g.a 0=A at ia ab;generalize sizes.getD g.b 0=B at ib ab;have c1:Lb.den ⟨prog.call (m-1),prog.cls⟩ (EL n sizes acts hs (some (tupI js)) (some (eD g))) M1=.ok (.vl (js.map λi=>D.bl (decide (0<=i)&&decide (i<B)))) M1:=by
      unfold Lb;rw[K5 (ds:=js.map D.int) (M1:=M1) (g:=λd=>match d with|.int i=>.bl (decide (0<=i)&&decide (i<B))|_=>.non) (by rw[O8];rfl) (by have:=hj js (au Ku);simpa using this) (λx hx=>by
       obtain⟨y,hy,rfl⟩:=bf.mp hx;refine⟨_,rfl,?_⟩;show(Ex.chain .le .lt (.i 0) (.v 7) (.ix (.v 2) (.ix (.v 6) (.i 1)))).den _ [D.ref n,yu sizes acts,tupI sizes,D.tup (acts.map tupI),Ih hs,tupI js,eD g,D.int y] M1=_
       by_cases q:0<=y<;>simp[Ug,ib,q])]
      rw[dh rfl,o7];rfl
     have al:=aqt M1 (λi=>decide (0<=i)&&decide (i<B)) js;refine⟨.tup [tupI js,eD g],_,by simp[Src.item,qz,Ku,hg],Gp _ _ _ _ _,?_⟩
     by_cases c2:(js.length:Int)=A
     . by_cases c3:(js.all λi=>decide (0<=i)&&decide (i<B))=true
       . refine⟨.next,_,M1,?_,.inl ⟨rfl,⟨some (tupI js),some (eD g),rfl⟩,rfl,λj p hji hp'=>?_⟩⟩
         . rw[c3] at al
           simp[El,ln,Rf,ia,c2,c1,al]
         . by_cases ze:j=i
           . subst ze
             rw[hzz] at hp';cases hp';rw[ab,c3];simp[c2]
           . exact q j p (by lia) hp'
       . refine⟨.ret (.bl false),EL n sizes acts hs (some (tupI js)) (some (eD g)),M1,?_,.inr ⟨_,rfl,rfl,rfl,i,_,hzz,by rw[ab];simp[c3]⟩⟩
         rw[yw] at c3;rw[c3] at al;simp[El,ln,Rf,ia,c2,c1,al]
     . refine⟨.ret (.bl false),EL n sizes acts hs (some (tupI js)) (some (eD g)),M1,?_,.inr ⟨_,rfl,rfl,rfl,i,_,hzz,by rw[ab];simp[c2]⟩⟩
       simp[El,ln,Rf,ia,c2])
   rcases loop with⟨_,_,_,e,⟨rfl,⟨b5,b6,rfl⟩,rfl,q⟩|⟨_,rfl,rfl,rfl,j,p,q1,q2⟩⟩
   . have e':Ld.den ⟨prog.call (m-1),prog.cls⟩ _ _=_:=e
     have ok:Eb hs sizes acts=true:=by unfold Eb;rw[aiu (λj p hp=>q j p (by have:=(ao.mp hp).1;simp at this;lia) hp)];simp[hl]
     rw[ok];simp[-Cu,Fn.run,Lg,Lf,Zk,ait,g1,Pq m1 h,la,By,Yl,e']
   . have e':Ld.den ⟨prog.call (m-1),prog.cls⟩ _ _=_:=e
     have no:Eb hs sizes acts=false:=by unfold Eb;rw[aeg q1 q2];simp
     rw[no];simp[-Cu,Fn.run,Lg,Lf,Zk,ait,g1,Pq m1 h,la,By,Yl,e']
 . have Yl:¬((acts.length:Int)=(hs.length:Int)):=by lia
   have no:Eb hs sizes acts=false:=by simp[Eb,hl]
   rw[no];simp[-Cu,Fn.run,Lg,Lf,Zk,ait,g1,Pq m1 h,la,By,Yl]
end
structure agj(K:Nat)(hs:List F)(sizes:Y3)(acts:List (List Nat)):Prop where
 ls:sizes.length=K
 la:acts.length=hs.length
 ok:∀(j:Nat)(g:F)(js:Y3),hs[j]?=some g->acts[j]?=some js->js.length=sizes.getD g.a 0/\∀x∈js,x<sizes.getD g.b 0
def FuP(hs:List F)(acts:List (List Nat))(j1 j2:Nat):Prop:=∀(g1 g2:F)(a1 a2:Y3),hs[j1]?=some g1->hs[j2]?=some g2->g1.b=g2.a->acts[j1]?=some a1->acts[j2]?=some a2->∀x,x<a1.length->a2.getD (a1.getD x 0) 0=Kr acts x (ent hs g1 g2)
noncomputable abbrev EM(n:Nat)(sizes:Y3)(acts:List (List Nat))(a b c d e:Option D):Env:=[some (.ref n),some (Cz sizes acts),a,b,c,d,e]
section
variable{m:Nat}{M:cz}{sz:Nat->Nat}{K n r:Nat}{hs:List F}{gq:List (List Kx×D)}{sizes:Y3}{acts:List (List Nat)}
def agj.act(w:agj K hs sizes acts){i:Nat}{g:F}(hg:hs[i]?=some g):∃js,acts[i]?=some js/\(∀th,Kr acts th i=js.getD th 0)/\js.length=sizes.getD g.a 0/\∀x∈js,x<sizes.getD g.b 0:=by
 have hil:=(ao.mp hg).1;have hj:acts[i]?=some (acts[i]'(by rw[w.la];exact hil)):=bc _;generalize acts[i]'(by rw[w.la];exact hil)=js at hj;have ni:¬((i:Int)=-1):=by lia
 exact⟨js,hj,λth=>by simp[Kr,ni,cj,hj],w.ok i g js hg hj⟩
def aiv(hm:1<=m)(w:agj K hs sizes acts){k th:Nat}{x:Int}(hx:.int x∈wj hs k)(hth:th<sizes.getD k 0):prog.call m 25 [Cz sizes acts,.int th,.int x] M=.ok (.int (Kr acts th x)) M:=by
 rw[call_of hm rfl];rcases Ey hx with q|⟨i,g,q,hg,rfl⟩
 . cases q
   rw[aqr];simp[Fn.run,amm,aml]
 . cases q
   obtain⟨js,h1,h2,h3,_⟩:=w.act hg;rw[h2];have i1:=aef (M:=M) (l:=js) (i:=th) (b_ hth (g_ h3));have ni:¬((i:Int)=-1):=by lia
   generalize js.getD th 0=y at i1;simp[Fn.run,amm,aml,ni,aqo,Xe h1,i1]
def aeh(P:Nb sz K hs gq){j k:Nat}{f g:F}(a:hs[j]?=some f)(b:hs[k]?=some g)(c:f.b=g.a):bothW hs gq j k=some (.int (ent hs f g))/\.int (ent hs f g)∈wj hs f.a:=by
 obtain⟨v,v1,v2,v3⟩:=aqq P (abk a rfl) (y:=(k:Int)) (by rw[Gn a];exact abk b c.symm);have n1:¬((j:Int)=-1):=by lia
 have n2:¬((k:Int)=-1):=by lia
 have e:=v1;rw[bothW,bx n1,bx n2] at e;cases e.symm.trans (P.look a b c);exact⟨v1,v2⟩
def akz(hm:3<=m)(P:Nb sz K hs gq)(w:agj K hs sizes acts)(h:Made n r K hs gq M):∃b M',prog.call m 24 [.ref n,Cz sizes acts] M=.ok (.bl b) M'/\Be M M'/\(b=true↔∀j1 j2,FuP hs acts j1 j2):=by
 rw[call_of (a_ (by decide) hm) rfl];have m1:1<=m-1:=r_ (a_ (by decide) hm)
 have m2:2<=m-1:=r_ hm
 have g1:=Vg (M:=M) (W:=⟨prog.call (m-1),prog.cls⟩) (n:=n) (ρ:=(EM n sizes acts none none none none none)) (o:=.v 0) (mm:=1) (es:=.z) (ds:=[]) (fi:=2) (by simp) (by simp) h.1 rfl;obtain⟨M1,ps,e1,p1,t1,u1⟩:=V5 (M:=M) (m:=m-1) (hs:=hs) m1 P.len;have k1:Be M M1:=λa o h=>by rw[u1.oth a (by have:=yj h;exact h_ this)];exact yg h
 have h1:=h.keep k1;have loop:=Q8 (W:=⟨prog.call (m-1),prog.cls⟩) (t:=.names [2,3]) (b:=Dp) (it:=.val (.call 7 (.o (.meth (.v 0) 1 .z)))) (s:=.live M.length ps.length) (n:=ps.length) (ρ:=EM n sizes acts none none none none none) (M:=M) (M1:=M1) (by simp[-Cu,g1,Pq m1 h,e1,srcOf,p1]) rfl
  (λi ρ M'=>(∃b2 b3 b4 b5 b6:Option D,ρ=(EM n sizes acts b2 b3 b4 b5 b6))/\M'=M1/\∀(j:Nat)(p:Nat×Nat),j<i->ps[j]?=some p->FuP hs acts p.1 p.2)
  (λv M'=>v=.bl false/\M'=M1/\∃j1 j2,¬FuP hs acts j1 j2) ⟨⟨none,none,none,none,none,rfl⟩,rfl,by simp⟩ (fun ρ M h=>by rw[h.2.1];simp[Src.fin,p1])
  (λi ρ M2 hi hI=>by
   obtain⟨⟨b2,b3,b4,b5,b6,rfl⟩,rfl,q⟩:=hI;have hp:ps[i]?=some ps[i]:=by simp[hi]
   have it:(Src.live M.length ps.length).item i M2=some (.tup [.int ps[i].1,.int ps[i].2]):=by simp[Src.item,p1,hi,pD]
   generalize ps[i]=p at hp it;refine⟨_,_,it,Gp _ _ _ _ _,?_⟩;obtain⟨⟨f,g,a,b,c⟩,d⟩:=(t1.all p).mp (au hp);have wg:.int (p.2:Int)∈wj hs f.b:=abk b c.symm;obtain⟨v1,v2⟩:=aeh P a b c;generalize ve:ent hs f g=v at v1 v2;obtain⟨js,q1,q2,q3,q4⟩:=w.act a;obtain⟨js2,r1,r2,r3,r4⟩:=w.act b;have g2:=Vg (M:=M2) (W:=⟨prog.call (m-1),prog.cls⟩) (n:=n) (ρ:=(EM n sizes acts (some (.int p.1)) (some (.int p.2)) b4 b5 b6)) (o:=.v 0) (mm:=2) (es:=.p (.v 2) (.v 3)) (ds:=[.int p.1,.int p.2]) (fi:=3) (by simp) (by simp) h1.1 rfl;have inner:=Q8 (W:=⟨prog.call (m-1),prog.cls⟩) (t:=.names [5,6]) (b:=Dn) (it:=.enm (.ix (.ix (.v 1) (.i 1)) (.v 2))) (s:=.con (Eh (js.map nD) 0)) (n:=js.length) (ρ:=EM n sizes acts (some (.int p.1)) (some (.int p.2)) (some (.int v)) b5 b6) (M:=M2) (M1:=M2) (by simp[aqo,Xe q1,Fe]) (by simp[Src.len,Eh])
    (λi ρ M'=>(∃b5 b6:Option D,ρ=(EM n sizes acts (some (.int p.1)) (some (.int p.2)) (some (.int v)) b5 b6))/\M'=M2/\∀x,x<i->js2.getD (js.getD x 0) 0=Kr acts x v)
    (λu M'=>u=.bl false/\M'=M2/\¬FuP hs acts p.1 p.2) ⟨⟨b5,b6,rfl⟩,rfl,by simp⟩ (λ_ _ _=>rfl)
    (λth ρ M3 thl hI=>by
     obtain⟨⟨b5,b6,rfl⟩,rfl,qq⟩:=hI;have hz:js[th]?=some js[th]:=by simp[thl]
     have it:(Src.con (Eh (js.map nD) 0)).item th M3=some (.tup [.int th,.int js[th]]):=by simp[Src.item,Eh,thl,nD]
     generalize js[th]=z at hz it;refine⟨_,_,it,Gp _ _ _ _ _,?_⟩;have hth:th<sizes.getD f.a 0:=b_ thl (f_ q3)
     have ez:js.getD th 0=z:=by simp[cj,hz]
     have zl:z<sizes.getD f.b 0:=q4 z (au hz)
     have l1:=aiv (M:=M3) m1 w wg zl;rw[r2] at l1;have l2:=aiv (M:=M3) m1 w v2 hth
     by_cases cc:js2.getD z 0=Kr acts th v
     . refine⟨.next,_,M3,?_,.inl ⟨rfl,⟨some (.int th),some (.int z),rfl⟩,rfl,λx hx=>?_⟩⟩
       . rw[cc] at l1
         generalize Kr acts th v=u at l1 l2;simp[Dn,l1,l2]
       . by_cases e:x=th
         . rw[e,ez,cc]
         . exact qq x (by lia)
     . refine⟨.ret (.bl false),(EM n sizes acts (some (.int p.1)) (some (.int p.2)) (some (.int v)) (some (.int th)) (some (.int z))),M3,?_,.inr ⟨_,rfl,rfl,rfl,λfu=>cc ?_⟩⟩
       . generalize Kr acts th v=u at l2 cc
         generalize js2.getD z 0=u' at l1 cc;have c':¬((u':Int)=(u:Int)):=by lia
         simp[Dn,l1,l2,c']
       . have:=fu f g js js2 a b c q1 r1 th thl
         rw[ez,ve] at this;exact this)
   rcases inner with⟨_,ρ3,M3,e3,⟨rfl,⟨c5,c6,rfl⟩,rfl,qq⟩|⟨_,rfl,rfl,rfl,qq⟩⟩
   . have e3':G3.den ⟨prog.call (m-1),prog.cls⟩ _ _=_:=e3
     refine⟨.next,_,M3,?_,.inl ⟨rfl,⟨some (.int p.1),some (.int p.2),some (.int v),c5,c6,rfl⟩,rfl,λj p' hj hp'=>?_⟩⟩
     . simp[-Cu,Dp,g2,Ze m2 h1 v1,e3']
     . by_cases e:j=i
       . rw[e,hp] at hp';cases hp'
         intro g1' g2' a1' a2' y1 y2 y3 y4 y5 x hx;rw[a] at y1;cases y1;rw[b] at y2;cases y2;rw[q1] at y4;cases y4;rw[r1] at y5;cases y5;rw[ve];exact qq x hx
       . exact q j p' (by lia) hp'
   . have e3':G3.den ⟨prog.call (m-1),prog.cls⟩ _ _=_:=e3
     refine⟨.ret (.bl false),ρ3,M3,?_,.inr ⟨_,rfl,rfl,rfl,_,_,qq⟩⟩;simp[-Cu,Dp,g2,Ze m2 h1 v1,e3'])
 rcases loop with⟨_,ρ',M',e,⟨rfl,⟨b2,b3,b4,b5,b6,rfl⟩,rfl,q⟩|⟨_,rfl,rfl,rfl,j1,j2,q⟩⟩
 . have e':G4.den ⟨prog.call (m-1),prog.cls⟩ _ _=_:=e
   refine⟨true,M',by simp[Fn.run,Jq,Jp,e'],k1,by
    simp only[true_iff];intro j1 j2 g1' g2' a1' a2' y1 y2 y3 y4 y5 x hx;have mem:(j1,j2)∈ps:=(t1.all (j1,j2)).mpr ⟨⟨g1',g2',y1,y2,y3⟩,by have:=(ao.mp y1).1;exact .inl this⟩;obtain⟨i,hi,e⟩:=jo mem;exact q i (j1,j2) hi (by rw[bc hi,e]) g1' g2' a1' a2' y1 y2 y3 y4 y5 x hx⟩
 . have e':G4.den ⟨prog.call (m-1),prog.cls⟩ _ _=_:=e
   exact⟨false,M',by simp[Fn.run,Jq,Jp,e'],k1,by simp only[dg,false_iff];exact λz=>q (z j1 j2)⟩
end
noncomputable def T3(acts:List (List Int)):List (List Nat):=acts.map λjs=>js.map Int.toNat
def aiw{l:Xs}(h:∀i∈l,0<=i):tupI l=Fe (l.map Int.toNat):=by
 unfold tupI Fe;rw[o7]
 congr 1
 refine j8 λi hi=>?_
 have:=h i hi;simp only[Function.comp,nD,D.int.injEq]
 lia
def aei{l:Xs}{i:Nat}(h:∀x∈l,0<=x)(hi:i<l.length):(((l.map Int.toNat).getD i 0:Nat):Int)=l.getD i 0:=by
 have e:l[i]?=some l[i]:=bc hi;have:=h l[i] (lq hi);simp[cj,e]
 lia
section
variable{m:Nat}{M:cz}{sz:Nat->Nat}{K n r:Nat}{hs:List F}{gq:List (List Kx×D)}{sizes:Xs}{acts:List (List Int)}
def Zn(P:Nb sz K hs gq)(h1:Dc K sizes=true)(h2:Eb hs sizes acts=true):yu sizes acts=Cz (sizes.map Int.toNat) (T3 acts)/\agj K hs (sizes.map Int.toNat) (T3 acts):=by
 simp only[Dc,aq,dj,gn] at h1;simp only[Eb,aq,dj,gn] at h2;obtain⟨a1,a2⟩:=h1;obtain⟨b1,b2⟩:=h2;have at_:∀(j:Nat)(g:F)(js:Xs),hs[j]?=some g->acts[j]?=some js->(js.length:Int)=sizes.getD g.a 0/\∀i∈js,0<=i/\i<sizes.getD g.b 0:=λj g js hg hj=>by have:=b2 (js,g) (au (qz.mpr ⟨hj,hg⟩));simp only[X5,aq,dj,gn] at this;exact this
 have pos:∀js∈acts,∀i∈js,0<=i:=λjs Ku i hi=>by obtain⟨j,hj,rfl⟩:=jo Ku;have hg:hs[j]?=some (hs[j]'(b_ hj (f_ b1))):=bc _;exact((at_ j _ _ hg (bc hj)).2 i hi).1
 refine⟨?_,by simp[a1],by simp[T3,b1],λj g js hg hj=>?_⟩
 . have e1:acts.map tupI=(T3 acts).map Fe:=by
    unfold T3;rw[o7];exact j8 λjs Ku=>aiw (pos js Ku)
   show D.tup [tupI sizes,.tup (acts.map tupI)]=D.tup [Fe (sizes.map Int.toNat),.tup ((T3 acts).map Fe)];rw[aiw a2,e1]
 . unfold T3 at hj
   rw[ie] at hj;obtain⟨js',hj',rfl⟩:=cu.mp hj;obtain⟨c1,c2⟩:=at_ j g js' hg hj';have hgm:=au hg;have ga:=aei a2 (i:=g.a) (by rw[a1];exact P.Xu g hgm);have gb:=aei a2 (i:=g.b) (by rw[a1];exact P.V4 g hgm);refine⟨by rw[dw];lia,λx hx=>?_⟩;obtain⟨i,hi,rfl⟩:=bf.mp hx;have:=c2 i hi
   lia
def Ux(hm:4<=m)(P:Nb sz K hs gq)(h:Made n r K hs gq M)(hl:sizes.length<=100000)(hj:∀js∈acts,js.length<=100000) :
 ∃b M',prog.call m 21 [.ref n,yu sizes acts] M=.ok (.bl b) M'/\Be M M'/\(b=true↔Dc K sizes=true/\Eb hs sizes acts=true/\∀j1 j2,FuP hs (T3 acts) j1 j2):=by
 rw[call_of (a_ (by decide) hm) rfl];have s1:=agi (m:=m-1) (acts:=acts) (r_ (a_ (by decide) hm)) h hl
 by_cases c1:Dc K sizes=true
 . have hK:sizes.length=K:=by simp only[Dc,aq,dj] at c1;exact c1.1
   have s2:=aky (m:=m-1) (r_ (a_ (by decide) hm)) P h hK hj;rw[c1] at s1
   by_cases c2:Eb hs sizes acts=true
   . obtain⟨ew,w⟩:=Zn P c1 c2
     obtain⟨b,M',e,k,iff⟩:=akz (m:=m-1) (r_ hm) P w h;rw[c2] at s2;rw[<- ew] at e;exact⟨b,M',by simp[Fn.run,La,K9,s1,s2,e],k,by rw[iff];simp[c1,c2]⟩
   . rw[yw] at c2
     rw[c2] at s2;exact⟨false,M,by simp[Fn.run,La,K9,s1,s2],Be.refl M,by simp[c2]⟩
 . rw[yw] at c1
   rw[c1] at s1;exact⟨false,M,by simp[Fn.run,La,K9,s1],Be.refl M,by simp[c1]⟩
end
end K03
namespace MW
section
variable{W:Ir}{ρ:Env}{M:cz}
def Ow{v:Bool}{k:Nat}{t:Tg}{it c e:Ex}{ds:List D}{q:D->Bool}{g:D->D}{M1:cz}(hit:it.den W ρ M=.ok (.tup ds) M1)(hl:ds.length<=100000)
 (h:∀x∈ds,∃ρ1,t.put x (ρ++List.replicate k none)=some ρ1/\c.den W ρ1 M1=.ok (.bl (q x)) M1/\(q x=true->e.den W ρ1 M1=.ok (g x) M1)) :
 (Ex.Cr v k t (.val it) c e).den W ρ M=if v then .ok (.vl ((ds.filter q).map g)) M1 else new (.lst ((ds.filter q).map g)) M1:=by
 rw[T8,Kz,hit];simp only[Res.Bs,srcOf,Res.Dr];rw[Vy (ds:=ds) (g:=λx=>if q x then some (g x) else none) hl (λx hx=>by
  obtain⟨ρ1,a,b,c⟩:=h x hx;rw[a,Res.Dr,Res.Bs,b,Res.Bs];cases e:q x with
  | true=>simp[c e]|false=>simp)]
 have:ds.filterMap (λx=>if q x then some (g x) else none)=(ds.filter q).map g:=by
  clear h hl hit
  induction ds with
  |nil=>rfl|cons a l ih=>by_cases e:q a=true<;>simp[e,ih]
 rw[this];rfl
def eq_empty(M:cz)(l:List D):wz M (.vl l) (.vl [])=some (decide (l=[])):=by
 cases l with
 |nil=>rfl|cons a l=>simp[wz,Mw,gf]
end
end MW
namespace K03
open MW
noncomputable def aix(row:Xs)(many most:Int):Bool:=decide ((row.length:Int)=many)&&row.all λi=>decide (0<=i)&&decide (i<most)
def aej(row:Xs)(f:Int->Bool):(row.filter λi=>!f i).map D.int=[]↔row.all f=true:=by rw[List.map_eq_nil_iff,List.filter_eq_nil_iff,gn];simp
section
variable{m:Nat}{M:cz}{row:Xs}{many most:Int}
def ak0(hm:1<=m)(hl:row.length<=100000):prog.call m 29 [tupI row,.int many,.int most] M=.ok (.bl (aix row many most)) M:=by
 rw[call_of hm rfl];have ln:qx .len [tupI row] M=.ok (.int row.length) M:=by simp[qx,Dt,tupI]
 have c1:G7.den ⟨prog.call (m-1),prog.cls⟩ [tupI row,D.int many,D.int most] M=.ok (.vl ((row.filter λi=>!(decide (0<=i)&&decide (i<most))).map D.int)) M:=by
  unfold G7;rw[Ow (ds:=row.map D.int) (q:=λd=>match d with|.int i=>!(decide (0<=i)&&decide (i<most))|_=>false) (g:=id) (M1:=M) (by rw[O8];rfl) (by simpa using hl) (λx hx=>by
   obtain⟨y,_,rfl⟩:=bf.mp hx;refine⟨_,rfl,?_,λ_=>?_⟩
   . show(Ex.not (.chain .le .lt (.i 0) (.v 3) (.v 2))).den _ [tupI row,D.int many,D.int most,D.int y] M=_
     by_cases q:0<=y<;>simp[q]
   . show(Ex.v 3).den _ [tupI row,D.int many,D.int most,D.int y] M=_
     simp)]
  rw[dh rfl,Bd,List.filter_map];rfl
 have eq:=eq_empty M ((row.filter λi=>!(decide (0<=i)&&decide (i<most))).map D.int);have hb:decide ((row.filter λi=>!(decide (0<=i)&&decide (i<most))).map D.int=[])=row.all λi=>decide (0<=i)&&decide (i<most):=by rw[vq,dj];exact aej row λi=>decide (0<=i)&&decide (i<most)
 rw[hb] at eq;generalize(row.filter λi=>!(decide (0<=i)&&decide (i<most))).map D.int=L at c1 eq
 by_cases c:(row.length:Int)=many
 . simp[Fn.run,Js,Jr,ln,c,c1,eq,aix]
 . simp[Fn.run,Js,Jr,ln,c,aix]
end
end K03
namespace MW
section
variable{W:Ir}{ρ:Env}{M:cz}
noncomputable def Dic(M:cz)(r:Nat)(gq:List (List Kx×D)):Prop:=M[r]?=some (.dT gq)\/M[r]?=some (.dF gq)
def a9e{n:Nat}{gq:List (List Kx×D)}{b:D}{k:List Kx}(h:M[n]?=some (.dF gq))(hk:Ql b=some k):zb (.ref n) b M=Ad gq k:=by simp[zb,h,hk]
def av8{r:Nat}{gq:List (List Kx×D)}(h:Dic M r gq):∃M',Vt (.ref r) M=.ok (.con (gq.map λp=>Sy p.1)) M'/\M'[r]?=some (.dF gq)/\∀a o,a≠r->M[a]?=some o->M'[a]?=some o:=by
 rcases h with h|h
 . exact⟨M.set r (.dF gq),by simp[Vt,h],v8 h,λa o n e=>by rw[uq (j0 n)];exact e⟩
 . exact⟨M,by simp[Vt,h],h,λa o n e=>e⟩
end
end MW
namespace K03
open MW
noncomputable abbrev EP(K r:Nat)(hs:List F)(w s a:D)(b4 b5 b6 b7:Option D):Env:=[some (vm K r hs),some w,some s,some a,b4,b5,b6,b7]
section
variable{m:Nat}{M:cz}{sz:Nat->Nat}{K n r:Nat}{hs:List F}{gq:List (List Kx×D)}{sizes:Y3}{acts:List (List Nat)}
def aqu(hm:1<=m)(w:agj K hs sizes acts){k th:Nat}{x:Int}(hx:.int x∈wj hs k)(hth:th<sizes.getD k 0):prog.call m 28 [Cz sizes acts,.int th,.int x] M=.ok (.int (Kr acts th x)) M:=by
 rw[call_of hm rfl];rcases Ey hx with q|⟨i,g,q,hg,rfl⟩
 . cases q
   rw[aqr];simp[Fn.run,Qu,Qt]
 . cases q
   obtain⟨js,h1,h2,h3,_⟩:=w.act hg;rw[h2];have i1:=aef (M:=M) (l:=js) (i:=th) (b_ hth (g_ h3));have ni:¬((i:Int)<0):=by lia
   generalize js.getD th 0=y at i1;simp[Fn.run,Qu,Qt,ni,aqo,Xe h1,i1]
def av9(hm:1<=m)(P:Nb sz K hs gq)(w:agj K hs sizes acts)(hr:Dic M r gq)(hj:∀js∈acts,js.length<=100000){b4 b5 b6 b7:Option D} :
 ∃fl ρ' M',M'[r]?=some (.dF gq)/\(∀a o,a≠r->M[a]?=some o->M'[a]?=some o)/\Je.den ⟨prog.call m,prog.cls⟩ (EP K r hs (Cz sizes acts) (Fe sizes) (.tup (acts.map Fe)) b4 b5 b6 b7) M=.ok (fl,ρ') M' /\
  (fl=.next/\(∀j1 j2,FuP hs acts j1 j2)\/fl=.ret (.bl false)/\∃j1 j2,¬FuP hs acts j1 j2):=by
 obtain⟨M0,hk,hr0,k0⟩:=av8 hr;have loop:=Q8 (W:=⟨prog.call m,prog.cls⟩) (t:=.names [5,6]) (b:=Cm) (it:=.keys (.ix (.v 0) (.i 2))) (s:=.con (gq.map λp=>Sy p.1)) (n:=gq.length) (ρ:=EP K r hs (Cz sizes acts) (Fe sizes) (.tup (acts.map Fe)) b4 b5 b6 b7) (M:=M) (M1:=M0) (by simp[ad7,hk]) (by simp[Src.len])
  (λi ρ M'=>(∃b5 b6 b7:Option D,ρ=(EP K r hs (Cz sizes acts) (Fe sizes) (.tup (acts.map Fe)) b4 b5 b6 b7))/\M'=M0/\∀(j:Nat)(j1 j2:Nat)(v:D),j<i->gq[j]?=some (ky j1 j2,v)->FuP hs acts j1 j2)
  (λv M'=>v=.bl false/\M'=M0/\∃j1 j2,¬FuP hs acts j1 j2) ⟨⟨b5,b6,b7,rfl⟩,rfl,by simp⟩ (λ_ _ _=>rfl)
  (λi ρ M2 hi hI=>by
   obtain⟨⟨b5,b6,b7,rfl⟩,rfl,q⟩:=hI;have hx:gq[i]?=some gq[i]:=by simp[hi]
   have it:(Src.con (gq.map λp=>Sy p.1)).item i M2=some (Sy gq[i].1):=by simp[Src.item,hi]
   generalize gq[i]=x at hx it;obtain⟨j,k,f,g,rfl,a,b,c,_⟩:=P.tb.keys x (au hx);refine⟨_,_,it,(rfl:(Tg.names [5,6]).put (.tup [.int j,.int k]) _=_),?_⟩;obtain⟨js,q1,q2,q3,q4⟩:=w.act a;obtain⟨js2,r1,r2,r3,r4⟩:=w.act b;have v2:=(aeh P a b c).2;have ia:=aef (M:=M2) (l:=sizes) (i:=f.a) (by rw[w.ls];exact P.Xu f (au a));rw[<- q3] at ia;have lk:=P.look a b c;have ir:zb (.ref r) (.tup [.int j,.int k]) M2=some (.int (ent hs f g)):=by rw[a9e hr0 (Vw _ _)];exact lk
   generalize hv:ent hs f g=v at *;have inner:=Ua (W:=⟨prog.call m,prog.cls⟩) (t:=.name 7) (b:=Cj) (it:=.ix (.v 2) (.ix (.ix (.ix (.v 0) (.i 1)) (.v 5)) (.i 0))) (n:=js.length)
    (ρ:=(EP K r hs (Cz sizes acts) (Fe sizes) (.tup (acts.map Fe)) b4 (some (.int j)) (some (.int k)) b7)) (M:=M2) (M1:=M2) (by simp[Di,Kg a,Rf,ia]) (hj js (au q1))
    (λi ρ M'=>(∃b7:Option D,ρ=(EP K r hs (Cz sizes acts) (Fe sizes) (.tup (acts.map Fe)) b4 (some (.int j)) (some (.int k)) b7))/\M'=M2/\∀x,x<i->js2.getD (js.getD x 0) 0=Kr acts x v)
    (λu M'=>u=.bl false/\M'=M2/\¬FuP hs acts j k) ⟨⟨b7,rfl⟩,rfl,by simp⟩
    (λth ρ M3 thl hI=>by
     obtain⟨⟨b7,rfl⟩,rfl,qq⟩:=hI;have z:js[th]?=some (js.getD th 0):=by simp[cj,thl]
     have zl:=q4 _ (au z);have i1:=aef (M:=M3) (l:=js) (i:=th) thl;have i2:=aef (M:=M3) (l:=js2) (i:=js.getD th 0) (by rw[r3,<- c];exact zl);have l2:=aqu (M:=M3) hm w v2 (th:=th) (by rw[<- q3];exact thl)
     by_cases cc:js2.getD (js.getD th 0) 0=Kr acts th v
     . refine⟨_,rfl,.next,_,M3,?_,.inl ⟨rfl,⟨some (.int th),rfl⟩,rfl,λx hx=>?_⟩⟩
       . rw[cc] at i2
         generalize Kr acts th v=u at i2 l2;generalize js.getD th 0=u2 at i1 i2;simp[Cj,Xe q1,Xe r1,i1,i2,ad7,ir,l2]
       . by_cases e:x=th
         . rw[e,cc]
         . exact qq x (by lia)
     . refine⟨_,rfl,.ret (.bl false),(EP K r hs (Cz sizes acts) (Fe sizes) (.tup (acts.map Fe)) b4 (some (.int j)) (some (.int k)) (some (.int th))),M3,?_,.inr ⟨_,rfl,rfl,rfl,λfu=>cc ?_⟩⟩
       . generalize Kr acts th v=u at l2 cc
         generalize js2.getD (js.getD th 0) 0=u' at i2 cc;generalize js.getD th 0=u2 at i1 i2;have c':¬((u':Int)=(u:Int)):=by lia
         simp[Cj,Xe q1,Xe r1,i1,i2,ad7,ir,l2,c']
       . have:=fu f g js js2 a b c q1 r1 th thl
         rw[hv] at this;exact this)
   rcases inner with⟨_,ρ3,M3,e3,⟨rfl,⟨c7,rfl⟩,rfl,qq⟩|⟨_,rfl,rfl,rfl,qq⟩⟩
   . have e3':Ep.den ⟨prog.call m,prog.cls⟩ _ _=_:=e3
     refine⟨.next,_,M3,by simp[Cm,e3'],.inl ⟨rfl,⟨some (.int j),some (.int k),c7,rfl⟩,rfl,λi' j1 j2 v' hi hx'=>?_⟩⟩
     by_cases e:i'=i
     . rw[e,hx] at hx'
       simp only[yd,Prod.mk.injEq] at hx';obtain⟨rfl,rfl⟩:=aag hx'.1;intro g1' g2' a1' a2' y1 y2 y3 y4 y5 x hx;rw[a] at y1;cases y1;rw[b] at y2;cases y2;rw[q1] at y4;cases y4;rw[r1] at y5;cases y5;rw[hv];exact qq x hx
     . exact q i' j1 j2 v' (by lia) hx'
   . have e3':Ep.den ⟨prog.call m,prog.cls⟩ _ _=_:=e3
     exact⟨.ret (.bl false),ρ3,M3,by simp[Cm,e3'],.inr ⟨_,rfl,rfl,rfl,_,_,qq⟩⟩)
 rcases loop with⟨_,ρ',M',e,⟨rfl,⟨b5,b6,b7,rfl⟩,rfl,q⟩|⟨_,rfl,rfl,rfl,q⟩⟩
 . refine⟨_,_,_,hr0,k0,e,.inl ⟨rfl,λj1 j2 g1 g2 a1 a2 y1 y2 y3 y4 y5 x hx=>?_⟩⟩
   obtain⟨p,hp,e1⟩:=aci (P.look y1 y2 y3);obtain⟨i,hi,rfl⟩:=jo hp;exact q i j1 j2 gq[i].2 hi (by rw[bc hi,<- e1]) g1 g2 a1 a2 y1 y2 y3 y4 y5 x hx
 . exact⟨_,_,_,hr0,k0,e,.inr ⟨rfl,q⟩⟩
end
end K03
namespace K03
open MW
section
variable{m:Nat}{M:cz}{sz:Nat->Nat}{K n r:Nat}{hs:List F}{gq:List (List Kx×D)}{sizes:Xs}{acts:List (List Int)}
def a1w(hm:2<=m)(P:Nb sz K hs gq)(hr:Dic M r gq)(hl:sizes.length<=100000)(hj:∀js∈acts,js.length<=100000) :
 ∃b M',prog.call m 30 [vm K r hs,yu sizes acts] M=.ok (.bl b) M'/\Dic M' r gq/\(∀a o,a≠r->M[a]?=some o->M'[a]?=some o)/\(b=true↔Dc K sizes=true/\Eb hs sizes acts=true/\∀j1 j2,FuP hs (T3 acts) j1 j2):=by
 rw[call_of (a_ (by decide) hm) rfl];have hl5:=P.len;have ln:qx .len [tupI sizes] M=.ok (.int sizes.length) M:=by simp[qx,Dt,tupI]
 have la:qx .len [.tup (acts.map tupI)] M=.ok (.int acts.length) M:=by simp[qx,Dt]
 have c1:Es.den ⟨prog.call (m-1),prog.cls⟩ (EP K r hs (yu sizes acts) (tupI sizes) (.tup (acts.map tupI)) none none none none) M=.ok (.vl ((sizes.filter λi=>!decide (0<=i)).map D.int)) M:=by
  unfold Es;rw[Ow (ds:=sizes.map D.int) (q:=λd=>match d with|.int i=>!decide (0<=i)|_=>false) (g:=id) (M1:=M) (by rw[O8];rfl) (by simpa using hl) (λx hx=>by
   obtain⟨y,_,rfl⟩:=bf.mp hx;refine⟨_,rfl,?_,λ_=>?_⟩
   . show(Ex.cmp .lt (.v 8) (.i 0)).den _ [vm K r hs,yu sizes acts,tupI sizes,D.tup (acts.map tupI),none,none,none,none,D.int y] M=_
     have:decide (y<0)=!decide (0<=y):=by by_cases q:0<=y<;>simp[q]<;>lia
     simp[this]
   . show(Ex.v 8).den _ [vm K r hs,yu sizes acts,tupI sizes,D.tup (acts.map tupI),none,none,none,none,D.int y] M=_
     simp)]
  rw[dh rfl,Bd,List.filter_map];rfl
 have eq:=eq_empty M ((sizes.filter λi=>!decide (0<=i)).map D.int);have hb:decide ((sizes.filter λi=>!decide (0<=i)).map D.int=[])=sizes.all λi=>decide (0<=i):=by rw[vq,dj];exact aej sizes λi=>decide (0<=i)
 rw[hb] at eq;generalize(sizes.filter λi=>!decide (0<=i)).map D.int=L at c1 eq;have pw:∀ρ,(Tg.names [2,3]).put (yu sizes acts) ρ=some ((ρ.set 2 (some (tupI sizes))).set 3 (some (.tup (acts.map tupI)))):=λ_=>rfl
 by_cases k1:sizes.length=K
 . have k1':((sizes.length:Int)=(K:Int)):=E_ k1
   by_cases k2:acts.length=hs.length
   . have k2':((acts.length:Int)=(hs.length:Int)):=E_ k2
     by_cases k3:(sizes.all λi=>decide (0<=i))=true
     . rw[k3] at eq
       have sb:Dc K sizes=true:=by simp only[Dc,k1,k3];rfl
       have loop:=Ua (W:=⟨prog.call (m-1),prog.cls⟩) (t:=.name 4) (b:=Cq) (it:=.l (.ix (.v 0) (.i 1))) (n:=hs.length)
        (ρ:=(EP K r hs (yu sizes acts) (tupI sizes) (.tup (acts.map tupI)) none none none none)) (M:=M) (M1:=M) (by simp[Di,By]) (a_ hl5 (by decide))
        (λi ρ M'=>(∃b4 b5 b6:Option D,ρ=(EP K r hs (yu sizes acts) (tupI sizes) (.tup (acts.map tupI)) b4 b5 b6 none))/\M'=M/\∀(j:Nat)(p:List Int×F),j<i->(acts.zip hs)[j]?=some p->X5 sizes p.2 p.1=true)
        (λv M'=>v=.bl false/\M'=M/\∃(j:Nat)(p:List Int×F),(acts.zip hs)[j]?=some p/\X5 sizes p.2 p.1=false) ⟨⟨none,none,none,rfl⟩,rfl,by simp⟩
        (λi ρ M1 hi hI=>by
         obtain⟨⟨b4,b5,b6,rfl⟩,rfl,q⟩:=hI;have hg:hs[i]?=some hs[i]:=by simp[hi]
         have Ku:acts[i]?=some (acts[i]'(b_ hi (g_ k2))):=bc _;generalize hs[i]=g at hg;generalize acts[i]'(b_ hi (g_ k2))=js at Ku;have hzz:(acts.zip hs)[i]?=some (js,g):=qz.mpr ⟨Ku,hg⟩;have hgm:=au hg;have ia:=Zm (M:=M1) (l:=sizes) (i:=g.a) (by rw[k1];exact P.Xu g hgm);have ib:=Zm (M:=M1) (l:=sizes) (i:=g.b) (by rw[k1];exact P.V4 g hgm);have wi:=ak0 (m:=m-1) (M:=M1) (row:=js) (many:=sizes.getD g.a 0) (most:=sizes.getD g.b 0) (r_ hm) (hj js (au Ku));have wb:aix js (sizes.getD g.a 0) (sizes.getD g.b 0)=X5 sizes g js:=rfl;rw[wb] at wi;generalize sizes.getD g.a 0=A at ia wi;generalize sizes.getD g.b 0=B at ib wi;have pe:∀ρ,(Tg.names [5,6]).put (eD g) ρ=some ((ρ.set 5 (some (.int g.a))).set 6 (some (.int g.b))):=λ_=>rfl
         cases cb:X5 sizes g js with
         |true =>
          rw[cb] at wi;refine⟨_,rfl,.next,_,M1,by simp[Cq,Di,Kg hg,pe,aqs Ku,ia,ib,wi],.inl ⟨rfl,⟨some (.int i),some (.int g.a),some (.int g.b),rfl⟩,rfl,λj p hji hp=>?_⟩⟩
          by_cases ze:j=i
          . rw[ze,hzz] at hp;cases hp;exact cb
          . exact q j p (by lia) hp
         |false =>
          rw[cb] at wi;exact⟨_,rfl,.ret (.bl false),(EP K r hs (yu sizes acts) (tupI sizes) (.tup (acts.map tupI)) (some (.int i)) (some (.int g.a)) (some (.int g.b)) none),M1,by simp[Cq,Di,Kg hg,pe,aqs Ku,ia,ib,wi],.inr ⟨_,rfl,rfl,rfl,i,_,hzz,cb⟩⟩)
       rcases loop with⟨_,ρ',M',e,⟨rfl,⟨b4,b5,b6,rfl⟩,rfl,q⟩|⟨_,rfl,rfl,rfl,j,p,q1,q2⟩⟩
       . have e':Er.den ⟨prog.call (m-1),prog.cls⟩ _ _=_:=e
         have ok:Eb hs sizes acts=true:=by unfold Eb;rw[aiu (λj p hp=>q j p (by have:=(ao.mp hp).1;simp at this;lia) hp)];simp[k2]
         obtain⟨ew,w⟩:=Zn P sb ok;have ew1:tupI sizes=Fe (sizes.map Int.toNat):=by have:=ew;simp only[yu,Cz,D.tup.injEq,zq] at this;exact this.1
         have ew2:D.tup (acts.map tupI)=.tup ((T3 acts).map Fe):=by have:=ew;simp only[yu,Cz,D.tup.injEq,zq,and_true] at this;rw[this.2];rfl
         obtain⟨fl,ρ2,M2,d2,kk,e2,h2⟩:=av9 (m:=m-1) (r_ hm) P w hr (λjs Ku=>by
          obtain⟨x,hx,rfl⟩:=bf.mp Ku;simpa using hj x hx) (b4:=b4) (b5:=b5) (b6:=b6) (b7:=none)
         rw[<- ew,<- ew1,<- ew2] at e2;rcases h2 with⟨rfl,h2⟩|⟨rfl,h2⟩
         . exact⟨true,M2,by simp[Fn.run,Am,Al,pw,ln,la,By,Mt,Di,k1',k2',c1,eq,e',e2],.inr d2,kk,by simp[sb,ok];exact h2⟩
         . exact⟨false,M2,by simp[Fn.run,Am,Al,pw,ln,la,By,Mt,Di,k1',k2',c1,eq,e',e2],.inr d2,kk,by simp only[dg,false_iff];exact λz=>let ⟨a,b,c⟩:=h2;c (z.2.2 a b)⟩
       . have e':Er.den ⟨prog.call (m-1),prog.cls⟩ _ _=_:=e
         have no:Eb hs sizes acts=false:=by unfold Eb;rw[aeg q1 q2];simp
         exact⟨false,_,by simp[Fn.run,Am,Al,pw,ln,la,By,Mt,Di,k1',k2',c1,eq,e'],hr,λ_ _ _ e=>e,by simp[no]⟩
     . rw[yw] at k3
       rw[k3] at eq;have sb:Dc K sizes=false:=by simp only[Dc,k3,Bool.and_false]
       exact⟨false,_,by simp[Fn.run,Am,Al,pw,ln,la,By,Mt,Di,k1',k2',c1,eq],hr,λ_ _ _ e=>e,by simp[sb]⟩
   . have k2':¬((acts.length:Int)=(hs.length:Int)):=by lia
     have no:Eb hs sizes acts=false:=by simp[Eb,k2]
     exact⟨false,_,by simp[Fn.run,Am,Al,pw,ln,la,By,Mt,Di,k1',k2'],hr,λ_ _ _ e=>e,by simp[no]⟩
 . have k1':¬((sizes.length:Int)=(K:Int)):=by lia
   have sb:Dc K sizes=false:=by simp[Dc,k1]
   exact⟨false,_,by simp[Fn.run,Am,Al,pw,ln,Mt,k1'],hr,λ_ _ _ e=>e,by simp[sb]⟩
end
end K03
namespace MW
section
variable{W:Ir}{ρ:Env}{M:cz}{α:Type}{g:α->D}{l l2:List α}
def Ox(lo hi:Option Int):∃l':List α,Hm (.tup (l.map g)) lo hi M=some (.tup (l'.map g))/\l'.length<=l.length/\∀y∈l',y∈l:=by
 refine⟨(l.drop (clip l.length 0 lo)).take (clip l.length l.length hi-clip l.length 0 lo),?_,?_,λy hy=>List.mem_of_mem_drop (List.mem_of_mem_take hy)⟩
 . simp only[Hm,Xp,dw,List.map_take,List.map_drop]
 . rw[List.length_take,List.length_drop];lia
def Qz(h:l.length+l2.length<=100000):Dm .add (.tup (l.map g)) (.tup (l2.map g)) M=.ok (.tup ((l++l2).map g)) M:=by rw[ajh _ _ (by simpa using h),qd]
def agk{a k x:Ex}{kk:Int}{d:α}(ha:a.den W ρ M=.ok (.tup (l.map g)) M)(hk:k.den W ρ M=.ok (.int kk) M)(hx:x.den W ρ M=.ok (g d) M)(hl:l.length<=10000) :
 ∃l':List α,(Ex.bin .add (.bin .add (.cut a .none (.some k)) (.tup (.o x))) (.cut a (.some (.bin .add k (.i 1))) .none)).den W ρ M=.ok (.tup (l'.map g)) M/\l'.length<=2*l.length+1/\∀y∈l',y=d\/y∈l:=by
 obtain⟨l1,e1,n1,m1⟩:=Ox (M:=M) (g:=g) (l:=l) none (some kk);obtain⟨l2,e2,n2,m2⟩:=Ox (M:=M) (g:=g) (l:=l) (some (kk+1)) none;refine⟨(l1++[d])++l2,?_,by simp;lia,λy hy=>?_⟩
 . have a1:=Qz (M:=M) (g:=g) (l:=l1) (l2:=[d]) (by simp;exact a_ n1 (a_ hl (by decide)))
   have a2:=Qz (M:=M) (g:=g) (l:=l1++[d]) (l2:=l2) (by simp;lia);generalize l1++[d]=l3 at a1 a2;have a1:Dm .add (.tup (l1.map g)) (.tup [g d]) M=_:=a1;simp[-qd,ha,hk,hx,e1,e2,a1,a2]
 . rcases dm.mp hy with q|q
   . rcases dm.mp q with q|q
     . exact .inr (m1 y q)
     . exact .inl (by simpa using q)
   . exact .inr (m2 y q)
def abr(M:cz)(l:List D):wz M (.tup l) (.tup [])=some (decide (l=[])):=by cases l<;>simp[wz,Mw,Sg]
end
end MW
namespace K03
open MW
noncomputable def aek(n:Int):Int:=if 1<n then n else 1
def Vh{n:Int}(h:n<1073741824):0<aek n/\aek n<1073741824:=by unfold aek;split<;>omega
section
variable{m t:Nat}{f:Bool}{M:cz}{row:Xs}{most:Int}
def max_1(M:cz)(n:Int):qx .max [.int 1,.int n] M=.ok (.int (aek n)) M:=rfl
def a1x(hm:2<=m)(hh:Rb t f M)(hl:row.length<=1000)(hq:most<1000):∃abt M',prog.call m 31 [.ref t,tupI row,.int most] M=.ok (tupI abt) M'/\abt.length<=2*row.length+1/\St t f M M'/\M'.length=M.length:=by
 rw[call_of (a_ (by decide) hm) rfl];have ln:qx .len [tupI row] M=.ok (.int row.length) M:=by simp[qx,Dt,tupI]
 obtain⟨p1,p2⟩:=Vh (n:=row.length) (m_ (c_ hl (by decide)));obtain⟨k,M1,e1,l1,s1,n1⟩:=yt (m:=m-1) (r_ hm) hh p1 p2;obtain⟨v,M2,e2,l2,s2,n2⟩:=yt (m:=m-1) (many:=5) (r_ hm) s1.has (by decide) (by decide)
 by_cases v0:v=0
 . subst v0
   have a1:=Qz (M:=M2) (g:=D.int) (l:=row) (l2:=[0]) (by simp;exact a_ hl (by decide));refine⟨row++[0],M2,?_,by simp;lia,s1.trans s2,n2.trans n1⟩;have a1:Dm .add (tupI row) (.tup [.int 0]) M2=.ok (tupI (row++[0])) M2:=a1;generalize row++[0]=abt at a1;simp[Fn.run,Bg,Bf,ln,max_1,e1,e2,a1]
 . have et:wz M2 (tupI row) (.tup [])=some (decide (row=[])):=by rw[tupI,abr];simp
   by_cases v1:row=[]\/v=1
   . obtain⟨abt,e3,n3,_⟩:=Ox (M:=M2) (g:=D.int) (l:=row) (some 1) none
     have e3:Hm (tupI row) (some 1) none M2=some (tupI abt):=e3;refine⟨abt,M2,?_,by lia,s1.trans s2,n2.trans n1⟩
     by_cases r0:row=[]
     . rw[yr r0] at et
       simp[Fn.run,Bg,Bf,ln,max_1,e1,e2,v0,et,e3]
     . have v1:=v1.resolve_left r0
       subst v1;rw[tu r0] at et;simp[Fn.run,Bg,Bf,ln,max_1,e1,e2,et,e3]
   . simp only[not_or] at v1
     obtain⟨r0,v1⟩:=v1;have v1':¬((v:Int)=1):=by lia
     rw[tu r0] at et;obtain⟨p3,p4⟩:=Vh (n:=most) (by lia);obtain⟨u,M3,e3,l3,s3,n3⟩:=yt (m:=m-1) (r_ hm) s2.has p3 p4;obtain⟨fr,ef⟩:∃fr:Int,zb (.vl [.int most,.int (-1),.int u]) (.int ((v:Int)-2)) M3=some (.int fr):=by
      have:v=2\/v=3\/v=4:=by lia
      rcases this with rfl|rfl|rfl<;>exact⟨_,rfl⟩
     obtain⟨abt,e4,n4,_⟩:=agk (W:=⟨prog.call (m-1),prog.cls⟩) (M:=M3) (ρ:=[D.ref t,tupI row,D.int most,D.int k,D.int v,D.int fr]) (a:=.v 1) (k:=.v 3) (x:=.v 5) (g:=D.int) (l:=row) (d:=fr) (kk:=k) rfl rfl rfl (a_ hl (by decide));refine⟨abt,M3,?_,n4,(s1.trans s2).trans s3,u_ (a_ (f_ n3) (a_ (f_ n2) (f_ n1))) (a_ (g_ n1) (a_ (g_ n2) (g_ n3)))⟩;have e4:(Ex.bin .add (.bin .add (.cut (.v 1) .none (.some (.v 3))) (.tup (.o (.v 5)))) (.cut (.v 1) (.some (.bin .add (.v 3) (.i 1))) .none)).den _ _ _=.ok (tupI abt) _:=e4;simp[-Ky,Fn.run,Bg,Bf,ln,max_1,e1,e2,v0,v1',et,e3,Ky .sub,ef,e4]
end
end K03
namespace K03
open MW
noncomputable def Hi(a:List (List Int)):D:=.tup (a.map tupI)
noncomputable abbrev ES(t K r:Nat)(hs:List F)(s:Xs)(a:List (List Int))(b4 b5 b6 b7:Option D):Env:=[some (.ref t),some (vm K r hs),some (tupI s),some (Hi a),b4,b5,b6,b7]
def agl(M:cz)(l:Xs):qx .len [tupI l] M=.ok (.int l.length) M:=by simp[qx,Dt,tupI]
def T4(M:cz)(l:List (List Int)):qx .len [Hi l] M=.ok (.int l.length) M:=by simp[qx,Dt,Hi]
def a9f(M:cz)(l:Xs):wz M (tupI l) (.tup [])=some (decide (l=[])):=by rw[tupI,abr];simp
def a9g(M:cz)(l:List (List Int)):wz M (Hi l) (.tup [])=some (decide (l=[])):=by rw[Hi,abr];simp
structure SmS(c:Nat)(s:Xs):Prop where
 l:s.length<=c
 v:∀x∈s,x<=c
structure SmA(c:Nat)(a:List (List Int)):Prop where
 l:a.length<=c
 r:∀js∈a,js.length<=c
def SmS.up{c d:Nat}{s:Xs}(h:SmS c s)(e:c<=d):SmS d s:=⟨gm h.l e,λx hx=>by have:=h.v x hx;lia⟩
def SmA.up{c d:Nat}{s:List (List Int)}(h:SmA c s)(e:c<=d):SmA d s:=⟨gm h.l e,λx hx=>gm (h.r x hx) e⟩
section
variable{m t K r c w k:Nat}{f:Bool}{M:cz}{hs:List F}{s:Xs}{a:List (List Int)}{z6 z7:Option D}
def a9h(hm:1<=m)(hh:Rb t f M)(h:SmS c s)(hc:c<=400)(hk:(k:Int)<aek s.length):∃s' b6 M',SmS (2*c+1) s'/\(w≠0->s'=s)/\St t f M M'/\M'.length=M.length /\
 Bw.den ⟨prog.call m,prog.cls⟩ (ES t K r hs s a (some (.int w)) (some (.int k)) z6 z7) M=.ok (.next,(ES t K r hs s' a (some (.int w)) (some (.int k)) b6 z7)) M':=by
 have et:=a9f M s
 by_cases w0:w=0
 . subst w0
   by_cases q0:s=[]
   . rw[yr q0] at et
     exact⟨s,z6,M,h.up (by lia),λ_=>rfl,St.of hh (Be.refl _),rfl,by simp[Bw,et]⟩
   . rw[tu q0] at et
     have a5d:=List.length_pos_iff.mpr q0;have hk:k<s.length:=by unfold aek at hk;split at hk<;>omega
     have ik:=Zm (M:=M) (l:=s) (i:=k) hk;obtain⟨v,M3,e3,l3,s3,n3⟩:=yt (m:=m) (many:=3) hm hh (by decide) (by decide);have im:s.getD k 0∈s:=by rw[cj,bc hk];exact lq hk
     generalize s.getD k 0=y at ik im;have hy:=h.v y im;obtain⟨z,ez,hz⟩:∃z:Int,zb (.vl [.int (y+1),.int (y-1),.int (-1)]) (.int (v:Int)) M3=some (.int z)/\z<=2*c+1:=by
      have:v=0\/v=1\/v=2:=by lia
      rcases this with rfl|rfl|rfl
      . exact⟨y+1,rfl,by lia⟩
      . exact⟨y-1,rfl,by lia⟩
      . exact⟨-1,rfl,by lia⟩
     obtain⟨s',e4,n4,m4⟩:=agk (W:=⟨prog.call m,prog.cls⟩) (M:=M3) (ρ:=(ES t K r hs s a (some (.int 0)) (some (.int k)) (some (.int z)) z7)) (a:=.v 2) (k:=.v 5) (x:=.v 6) (g:=D.int) (l:=s) (d:=z) (kk:=k) rfl rfl rfl (by have:=h.l;exact a_ this (a_ hc (by decide)));have e4:(Ex.bin .add (.bin .add (.cut (.v 2) .none (.some (.v 5))) (.tup (.o (.v 6)))) (.cut (.v 2) (.some (.bin .add (.v 5) (.i 1))) .none)).den _ _ _=.ok (tupI s') _:=e4;refine⟨s',some (.int z),M3,⟨by have:=h.l;lia,λx hx=>?_⟩,λh=>absurd rfl h,s3,n3,?_⟩
     . rcases m4 x hx with rfl|q
       . lia
       . have:=h.v x q;lia
     . simp[-Ky,Bw,et,ik,e3,Ky .add (.ix _ _),Ky .sub,ez,e4]
 . exact⟨s,z6,M,h.up (by lia),λ_=>rfl,St.of hh (Be.refl _),rfl,by simp[Bw,w0]⟩
def a9i(hm:1<=m)(hh:Rb t f M)(h:SmS c s)(hc:c<=1000):∃s' M',SmS (2*c+1) s'/\(w≠1->s'=s)/\St t f M M'/\M'.length=M.length /\
 Bv.den ⟨prog.call m,prog.cls⟩ (ES t K r hs s a (some (.int w)) (some (.int k)) z6 z7) M=.ok (.next,(ES t K r hs s' a (some (.int w)) (some (.int k)) z6 z7)) M':=by
 by_cases w1:w=1
 . subst w1
   obtain⟨v,M3,e3,l3,s3,n3⟩:=yt (m:=m) (many:=2) hm hh (by decide) (by decide);have hl:=h.l;have a1:=Qz (M:=M) (g:=D.int) (l:=s) (l2:=[1]) (by simp;exact a_ hl (a_ hc (by decide)));obtain⟨sB,e4,n4,m4⟩:=Ox (M:=M) (g:=D.int) (l:=s) (some 1) none;have a1:Dm .add (tupI s) (.tup [.int 1]) M=.ok (tupI (s++[1])) M:=a1;have e4:Hm (tupI s) (some 1) none M=some (tupI sB):=e4;have:v=0\/v=1:=by lia
   rcases this with rfl|rfl
   . refine⟨s++[1],M3,⟨by simp;lia,λx hx=>?_⟩,λh=>absurd rfl h,s3,n3,?_⟩
     . rcases dm.mp hx with q|q
       . have:=h.v x q;lia
       . have:x=1:=by simpa using q
         lia
     . have ez:zb (.vl [tupI (s++[1]),tupI sB]) (.int ((0:Nat):Int)) M3=some (tupI (s++[1])):=rfl
       generalize s++[1]=u at a1 ez;simp only[Int.cast_ofNat_Int] at ez e3;simp[Bv,a1,e4,e3,ez]
   . refine⟨sB,M3,⟨by lia,λx hx=>by have:=h.v x (m4 x hx);lia⟩,λh=>absurd rfl h,s3,n3,?_⟩
     have ez:zb (.vl [tupI (s++[1]),tupI sB]) (.int ((1:Nat):Int)) M3=some (tupI sB):=rfl;generalize s++[1]=u at a1 ez;simp only[Int.cast_ofNat_Int] at ez e3;simp[Bv,a1,e4,e3,ez]
 . have w1':¬((w:Int)=1):=by lia
   exact⟨s,M,h.up (by lia),λ_=>rfl,St.of hh (Be.refl _),rfl,by simp[Bv,w1']⟩
def awa(h:SmA c a)(hc:c<=1000):∃a',SmA (2*c+1) a'/\(4<w->a'=a)/\∀rest,
 o6.den ⟨prog.call m,prog.cls⟩ (.c zy (.c zx (.c zu rest))) (ES t K r hs s a (some (.int w)) (some (.int k)) z6 z7) M=rest.den ⟨prog.call m,prog.cls⟩ (ES t K r hs s a' (some (.int w)) (some (.int k)) z6 z7) M:=by
 have hl:=h.l
 by_cases w2:w=2
 . subst w2
   obtain⟨l1,e1,n1,m1⟩:=Ox (M:=M) (g:=tupI) (l:=a) none (some k);obtain⟨l2,e2,n2,m2⟩:=Ox (M:=M) (g:=tupI) (l:=a) (some (k+1)) none;have a1:=Qz (M:=M) (g:=tupI) (l:=l1) (l2:=l2) (by lia);have e1:Hm (Hi a) none (some (k:Int)) M=some (Hi l1):=e1;have e2:Hm (Hi a) (some ((k:Int)+1)) none M=some (Hi l2):=e2;have a1:Dm .add (Hi l1) (Hi l2) M=.ok (Hi (l1++l2)) M:=a1;refine⟨l1++l2,⟨by simp;lia,λx hx=>?_⟩,λh=>absurd h (by decide),λrest=>?_⟩
   . rcases dm.mp hx with q|q
     . have:=h.r x (m1 x q);lia
     . have:=h.r x (m2 x q);lia
   . generalize l1++l2=l3 at a1
     simp[zy,zx,zu,e1,e2,a1]
 . have w2':¬((w:Int)=2):=by lia
   by_cases w3:w=3
   . subst w3
     have a1:=Qz (M:=M) (g:=tupI) (l:=a) (l2:=[[]]) (by simp;exact a_ hl (a_ hc (by decide)));have a1:Dm .add (Hi a) (.tup [.tup []]) M=.ok (Hi (a++[[]])) M:=a1;refine⟨a++[[]],⟨by simp;lia,λx hx=>?_⟩,λh=>absurd h (by decide),λrest=>?_⟩
     . rcases dm.mp hx with q|q
       . have:=h.r x q;lia
       . have:x=[]:=by simpa using q
         rw[this];simp
     . generalize a++[[]]=l3 at a1
       simp[zy,zx,zu,a1]
   . have w3':¬((w:Int)=3):=by lia
     by_cases w4:w=4/\1<a.length
     . obtain⟨rfl,g4⟩:=w4
       have g4:(1:Int)<a.length:=m_ g4
       obtain⟨l1,e1,n1,m1⟩:=Ox (M:=M) (g:=tupI) (l:=a) (some 1) none;obtain⟨l2,e2,n2,m2⟩:=Ox (M:=M) (g:=tupI) (l:=a) none (some 1);have a1:=Qz (M:=M) (g:=tupI) (l:=l1) (l2:=l2) (by lia);have e1:Hm (Hi a) (some 1) none M=some (Hi l1):=e1;have e2:Hm (Hi a) none (some 1) M=some (Hi l2):=e2;have a1:Dm .add (Hi l1) (Hi l2) M=.ok (Hi (l1++l2)) M:=a1;refine⟨l1++l2,⟨by simp;lia,λx hx=>?_⟩,λh=>absurd h (by decide),λrest=>?_⟩
       . rcases dm.mp hx with q|q
         . have:=h.r x (m1 x q);lia
         . have:=h.r x (m2 x q);lia
       . generalize l1++l2=l3 at a1
         simp[zy,zx,zu,T4,g4,e1,e2,a1]
     . refine⟨a,h.up (by lia),λ_=>rfl,λrest=>?_⟩
       by_cases w4':(w:Int)=4
       . have g4:¬((1:Int)<a.length):=by lia
         simp[zy,zx,zu,T4,w4',g4]
       . simp[zy,zx,zu,w2',w3',w4']
end
section
variable{m t K r c w k:Nat}{f:Bool}{M:cz}{hs:List F}{s:Xs}{a:List (List Int)}{z6 z7:Option D}{sz:Nat->Nat}{gq:List (List Kx×D)}
def a9j(hm:2<=m)(hh:Rb t f M)(h:SmA c a)(hz:SmS c s)(hc:c<=900)(hk:4<w->(k:Int)<aek a.length):∃a' b7 M',SmA (2*c+1) a'/\St t f M M'/\M'.length=M.length /\
 zr.den ⟨prog.call m,prog.cls⟩ (ES t K r hs s a (some (.int w)) (some (.int k)) z6 z7) M=.ok (.next,(ES t K r hs s a' (some (.int w)) (some (.int k)) z6 b7)) M':=by
 have et:=a9g M a;have hl:=h.l
 by_cases w4:(4:Int)<w
 . by_cases q0:a=[]
   . rw[yr q0] at et
     exact⟨a,z7,M,h.up (by lia),St.of hh (Be.refl _),rfl,by simp[zr,w4,et]⟩
   . rw[tu q0] at et
     by_cases q1:(a.length:Int)<=hs.length
     . have a5d:=List.length_pos_iff.mpr q0
       have hk:k<a.length:=by have:=hk (o_ w4);unfold aek at this;split at this<;>omega
       have hg:hs[k]?=some (hs[k]'(b_ hk (p_ q1))):=bc _;have ha:a[k]?=some a[k]:=bc _;generalize hs[k]'(b_ hk (p_ q1))=g at hg;generalize a[k]=js at ha
       by_cases q2:(g.b:Int)<s.length
       . have ib:=Zm (M:=M) (l:=s) (i:=g.b) (o_ q2)
         have im:s.getD g.b 0∈s:=by rw[cj,bc (o_ q2)];exact lq _
         generalize s.getD g.b 0=y at ib im;have hy:=hz.v y im;have ia:zb (Hi a) (.int k) M=some (tupI js):=aqs ha;have Ku:=h.r js (au ha);obtain⟨row,M1,e1,n1,s1,l1⟩:=a1x (m:=m) (most:=y) (row:=js) hm hh (a_ Ku (a_ hc (by decide))) (by lia);obtain⟨a',e2,n2,m2⟩:=agk (W:=⟨prog.call m,prog.cls⟩) (M:=M1) (ρ:=(ES t K r hs s a (some (.int w)) (some (.int k)) z6 (some (tupI row)))) (a:=.v 3) (k:=.v 5) (x:=.v 7) (g:=tupI) (l:=a) (d:=row) (kk:=k) rfl rfl rfl (a_ hl (a_ hc (by decide)));have e2:(Ex.bin .add (.bin .add (.cut (.v 3) .none (.some (.v 5))) (.tup (.o (.v 7)))) (.cut (.v 3) (.some (.bin .add (.v 5) (.i 1))) .none)).den _ _ _=.ok (Hi a') _:=e2;refine⟨a',some (tupI row),M1,⟨by lia,λx hx=>?_⟩,s1,l1,?_⟩
         . rcases m2 x hx with rfl|q
           . lia
           . have:=h.r x q;lia
         . simp[-Ky,zr,w4,et,T4,Di,By,q1,Kg hg,Ug,agl,q2,ia,ib,e1,e2]
       . exact⟨a,z7,M,h.up (by lia),St.of hh (Be.refl _),rfl,by simp[zr,w4,et,T4,Di,By,q1,Kg hg,Ug,agl,q2]⟩
     . exact⟨a,z7,M,h.up (by lia),St.of hh (Be.refl _),rfl,by simp[zr,w4,et,T4,Di,By,q1]⟩
 . exact⟨a,z7,M,h.up (by lia),St.of hh (Be.refl _),rfl,by simp[zr,w4]⟩
def a9k(hm:3<=m)(hh:Rb t f M)(h:SmS c s)(h':SmA c a)(hc:c<=200):∃s' a' M',prog.call m 32 [.ref t,vm K r hs,tupI s,Hi a] M=.ok (yu s' a') M'/\SmS (2*(2*c+1)+1) s'/\SmA (2*(2*(2*c+1)+1)+1) a'/\St t f M M'/\M'.length=M.length:=by
 rw[call_of (a_ (by decide) hm) rfl];have hl:=h.l;have Yl:=h'.l;obtain⟨w,M1,e1,l1,s1,n1⟩:=yt (m:=m-1) (many:=8) (r_ (a_ (by decide) hm)) hh (by decide) (by decide);obtain⟨p1,p2⟩:=Vh (n:=s.length) (m_ (c_ hl (c_ hc (by decide))));obtain⟨k,M2,e2,l2,s2,n2⟩:=yt (m:=m-1) (r_ (a_ (by decide) hm)) s1.has p1 p2;obtain⟨sA,b6,M3,z1,z2,s3,n3,e3⟩:=a9h (m:=m-1) (w:=w) (K:=K) (r:=r) (hs:=hs) (a:=a) (z6:=none) (z7:=none) (r_ (a_ (by decide) hm)) s2.has h (a_ hc (by decide)) l2;obtain⟨sB,M4,z3,z4,s4,n4,e4⟩:=a9i (m:=m-1) (w:=w) (k:=k) (K:=K) (r:=r) (hs:=hs) (a:=a) (z6:=b6) (z7:=none) (r_ (a_ (by decide) hm)) s3.has z1 (by lia);obtain⟨p3,p4⟩:=Vh (n:=a.length) (m_ (c_ Yl (c_ hc (by decide))));obtain⟨k2,M5,e5,l5,s5,n5⟩:=yt (m:=m-1) (r_ (a_ (by decide) hm)) s4.has p3 p4;obtain⟨aA,y1,y2,e6⟩:=awa (m:=m-1) (t:=t) (K:=K) (r:=r) (hs:=hs) (s:=sB) (w:=w) (k:=k2) (z6:=b6) (z7:=none) (M:=M5) h' (a_ hc (by decide));obtain⟨aB,b7,M6,y3,s6,n6,e7⟩:=a9j (m:=m-1) (w:=w) (k:=k2) (K:=K) (r:=r) (hs:=hs) (s:=sB) (z6:=b6) (z7:=none) (M:=M5) (r_ hm) s5.has (y1.up (d:=2*(2*c+1)+1) (by lia)) z3 (by lia) (λhw=>by rw[y2 hw];exact l5);refine⟨sB,aB,M6,?_,z3,y3,((((s1.trans s2).trans s3).trans s4).trans s5).trans s6,by lia⟩;have f1:(Bu.a 4 (.call 14 (.p (.v 0) (.i 8)))).den ⟨prog.call (m-1),prog.cls⟩ (ES t K r hs s a none none none none) M=.ok (.next,(ES t K r hs s a (some (.int w)) none none none)) M1:=by simp[e1]
 have f2:(Bu.a 5 (.call 14 (.p (.v 0) (.blt .max (.p (.i 1) (.l (.v 2))))))).den ⟨prog.call (m-1),prog.cls⟩ (ES t K r hs s a (some (.int w)) none none none) M1=.ok (.next,(ES t K r hs s a (some (.int w)) (some (.int k)) none none)) M2:=by simp[agl,max_1,e2]
 have f5:(Bu.a 5 (.call 14 (.p (.v 0) (.blt .max (.p (.i 1) (.l (.v 3))))))).den ⟨prog.call (m-1),prog.cls⟩ (ES t K r hs sB a (some (.int w)) (some (.int k)) b6 none) M4=.ok (.next,(ES t K r hs sB a (some (.int w)) (some (.int k2)) b6 none)) M5:=by simp[T4,max_1,e5]
 have bd:Ig.den ⟨prog.call (m-1),prog.cls⟩ (ES t K r hs s a none none none none) M=.ok (.ret (yu sB aB),(ES t K r hs sB aB (some (.int w)) (some (.int k2)) b6 b7)) M6:=by unfold Ig;rw[Pa,f1,J0,Pa,f2,J0,Pa,e3,J0,Pa,e4,J0,Pa,f5,J0,e6,Pa,e7,J0];rfl
 simp[Fn.run,Oc,bd]
end
def aiy(l:Y3):Fe l=tupI (l.map λ(x:Nat)=>(x:Int)):=by unfold Fe tupI;rw[o7];rfl
def ak1(s:Y3)(a:List (List Nat)):Cz s a=yu (s.map λ(x:Nat)=>(x:Int)) (a.map λjs=>js.map λ(x:Nat)=>(x:Int)):=by
 show D.tup [Fe s,.tup (a.map Fe)]=_;rw[aiy,yu,o7]
 congr 3
 exact o4 D.tup (j8 λjs _=>aiy js)
def aqw(l:Y3)(i:Nat):(l.map λ(x:Nat)=>(x:Int)).getD i 0=((l.getD i 0:Nat):Int):=by rw[cj,cj,ie];cases l[i]?<;>rfl
section
variable{m:Nat}{M:cz}{sz:Nat->Nat}{K n r:Nat}{hs:List F}{gq:List (List Kx×D)}{sizes:Y3}{acts:List (List Nat)}
def WOk.small(P:Nb sz K hs gq)(w:WOk K hs sizes acts):SmS 7 (sizes.map λ(x:Nat)=>(x:Int))/\SmA 7 (acts.map λjs=>js.map λ(x:Nat)=>(x:Int)):=by
 have:=P.k3;have:=P.len;refine⟨⟨by rw[dw,w.ls];lia,λx hx=>?_⟩,⟨by rw[dw,w.la];exact a_ this (by decide),λjs Ku=>?_⟩⟩
 . obtain⟨y,hy,rfl⟩:=bf.mp hx
   have:=w.sm y hy;exact n_ this
 . obtain⟨ks,hks,rfl⟩:=bf.mp Ku
   obtain⟨j,hj,rfl⟩:=jo hks;have hg:hs[j]?=some (hs[j]'(by have:=w.la;exact b_ hj (f_ this))):=bc _;have:=(w.ok j _ _ hg (bc hj)).1;rw[dw,this,cj];cases e:sizes[(hs[j]'(by have:=w.la;exact b_ hj (f_ this))).a]? with
   |none=>simp|some y=>exact w.sm y (au e)
def WOk.good(P:Nb sz K hs gq)(w:WOk K hs sizes acts):Dc K (sizes.map λ(x:Nat)=>(x:Int))=true/\Eb hs (sizes.map λ(x:Nat)=>(x:Int)) (acts.map λjs=>js.map λ(x:Nat)=>(x:Int))=true/\∀j1 j2,FuP hs (T3 (acts.map λjs=>js.map λ(x:Nat)=>(x:Int))) j1 j2:=by
 refine⟨by simp[Dc,w.ls],?_,?_⟩
 . simp only[Eb,aq,dj,dw,gn]
   refine⟨w.la,λp hp=>?_⟩;obtain⟨j,hj,e⟩:=jo hp;have e:=(bc hj).trans (o4 some e);obtain⟨e1,e2⟩:=qz.mp e;obtain⟨js,e1,e3⟩:∃js,acts[j]?=some js/\(js.map λ(x:Nat)=>(x:Int))=p.1:=by simpa using e1
   obtain⟨k1,k2⟩:=w.ok j p.2 js e2 e1;simp only[X5,aq,dj,gn,aqw,<- e3,dw];refine⟨E_ k1,λx hx=>?_⟩;obtain⟨y,hy,rfl⟩:=bf.mp hx;have:=k2 y hy;exact⟨q_,m_ this⟩
 . have:T3 (acts.map λjs=>js.map λ(x:Nat)=>(x:Int))=acts:=by
    unfold T3;rw[o7];refine(j8 λjs _=>?_).trans (Bd _);show(js.map λ(x:Nat)=>(x:Int)).map Int.toNat=js;rw[o7];exact(j8 λx _=>pq x).trans (Bd _)
   rw[this];exact λj1 j2 g1 g2 a1 a2 y1 y2 y3 y4 y5 x hx=>w.fu j1 j2 g1 g2 a1 a2 y1 y2 y3 y4 y5 x hx
end
noncomputable def Ks(t n a r:Nat)(f:Bool)(K:Nat)(hs:List F)(gq:List (List Kx×D))(M:cz):Prop:=Rb t f M/\Made n a K hs gq M/\Dic M r gq
def Ks.st{t n a r:Nat}{f:Bool}{K:Nat}{hs:List F}{gq:List (List Kx×D)}{M M':cz}(h:Ks t n a r f K hs gq M)(s:St t f M M')(h1:n≠t)(h2:a≠t)(h3:r≠t):Ks t n a r f K hs gq M' :=
 ⟨s.has,⟨s.keep _ _ h1 h.2.1.1,s.keep _ _ h2 h.2.1.2⟩,h.2.2.imp (s.keep _ _ h3) (s.keep _ _ h3)⟩
noncomputable def cc(i:Nat):Nat:=8*8 ^ i-1
def a9l{i:Nat}(h:i<2):cc i<=200/\2*(2*(2*cc i+1)+1)+1<=cc (i+1):=by
 have:i=0\/i=1:=by lia
 rcases this with rfl|rfl<;>decide
def a1y{m:Nat}{ns:Xs}{M:cz}(hm:6<=m):∃M',prog.call m 33 [.fz (ns.map D.int)] M=.ok (.bl true) M':=by
 rw[call_of (a_ (by decide) hm) rfl];obtain⟨ρ',M',e,⟨b1,b2,b3,b4,b5,b6,b7,rfl⟩⟩:=Ax (W:=⟨prog.call (m-1),prog.cls⟩) (t:=.name 1) (b:=Z8) (it:=.i 2) (n:=2) (ρ:=[D.fz (ns.map D.int),none,none,none,none,none,none,none]) (M:=M) (M1:=M) rfl (by decide)
  (λ_ ρ M'=>∃b1 b2 b3 b4 b5 b6 b7:Option D,ρ=[some (.fz (ns.map D.int)),b1,b2,b3,b4,b5,b6,b7]) ⟨none,none,none,none,none,none,none,rfl⟩
  (λk ρ M hk hI=>by
   obtain⟨b1,b2,b3,b4,b5,b6,b7,rfl⟩:=hI;obtain⟨n0,f0,s0,o0⟩:=amr (m:=m-1) (k:=k) (ns:=ns) (M:=M) (r_ (a_ (by decide) hm));have hh0:Rb M.length f0 (M++[.lst [.int n0,.bl f0]]):=⟨n0,by simp,o0⟩;obtain⟨K,r,sz,hs,gq,M1,e0,p0,lr,P,t0⟩:=afg (m:=m-1) (r_ (a_ (by decide) hm)) hh0;have e0:prog.call (m-1) 17 [.ref M.length] (M++[.lst [.int n0,.bl f0]])=.ok (vm K r hs) M1:=e0;have hrt:r≠M.length:=by have:=lr;simp at this;lia
   have nn:(M1++[.ins 2 []])[M1.length]?=some (.ins 2 []):=by simp
   obtain⟨M2,a0,i0,md,la,lb,k0⟩:=asx (M:=M1++[.ins 2 []]) (m:=m-1) (r:=r) (n:=M1.length) (r_ (a_ (by decide) hm)) P (yg p0) nn;have k0':Be M1 M2:=λa o h=>k0 a o (by have:=yj h;exact h_ this) (yg h)
   have mk:(Ex.make 2 (.q (.ix (.v 3) (.i 0)) (.ix (.v 3) (.i 1)) (.ix (.v 3) (.i 2)))).den ⟨prog.call (m-1),prog.cls⟩ [D.fz (ns.map D.int),D.int k,D.ref M.length,vm K r hs,b4,b5,b6,b7] M1=.ok (.ref M1.length) M2:=by have cl:(prog.cls)[2]?=some ⟨0,[(0,1),(1,2),(2,3),(3,4),(4,5)]⟩:=rfl;simp[Mt,Di,ad7,cl,i0]
   have hM1:M.length<M1.length:=by obtain⟨k,h,o⟩:=t0.has;exact yj h
   have hh2:Rb M.length f0 M2:=by obtain⟨k,h,o⟩:=t0.has;exact⟨k,k0' _ _ h,o⟩
   have ha0:a0≠M.length:=by have:=la;simp at this;lia
   have har:a0≠r:=by have:=la;have:=yj p0;simp at la;lia
   obtain⟨sizes,acts,M4,e4,w4,s4⟩:=aqn (m:=m-1) (r:=r) (r_ (a_ (by decide) hm)) P hh2 (k0' _ _ p0) hrt;obtain⟨sm,sa⟩:=w4.small P;have wg:=w4.good P;rw[ak1] at e4;generalize(sizes.map λ(x:Nat)=>(x:Int))=S at *;generalize(acts.map λjs=>js.map λ(x:Nat)=>(x:Int))=A at *;have hrl:=yj p0;have ks:∀{A B:cz},Ks M.length M1.length a0 r f0 K hs gq A->St M.length f0 A B->Ks M.length M1.length a0 r f0 K hs gq B:=λh s=>h.st s (i_ hM1) ha0 hrt
   have ks2:Ks M.length M1.length a0 r f0 K hs gq M4:=ks ⟨hh2,md,.inl (k0' _ _ p0)⟩ s4;obtain⟨b,M5,e5,k5,h5⟩:=Ux (m:=m-1) (r_ (a_ (by decide) hm)) P ks2.2.1 (sizes:=S) (acts:=A) (by have:=sm.l;exact a_ this (by decide)) (λjs hj=>by have:=sa.r js hj;exact a_ this (by decide));have h5:=h5.mpr wg;subst h5;have s5:=ks ks2 (St.of s4.has k5);obtain⟨v,M6,e6,l6,s6,n6⟩:=yt (m:=m-1) (many:=3) (r_ (a_ (by decide) hm)) s5.1 (by decide) (by decide);obtain⟨ρ7,M7,e7,⟨c6,c7,S',A',rfl,_⟩⟩:=Ax (W:=⟨prog.call (m-1),prog.cls⟩) (t:=.name 6) (b:=Z7) (it:=.call 14 (.p (.v 2) (.i 3))) (n:=v) (ρ:=[D.fz (ns.map D.int),D.int k,D.ref M.length,vm K r hs,D.ref M1.length,yu S A,b6,b7]) (M:=M5) (M1:=M6) (by simp[e6]) (e_ (b_ (o_ l6) (by decide)))
    (λi ρ M'=>∃(b6 b7:Option D)(S:Xs)(A:List (List Int)),ρ=[some (.fz (ns.map D.int)),some (.int k),some (.ref M.length),some (vm K r hs),some (.ref M1.length),some (yu S A),b6,b7]/\SmS (cc i) S/\SmA (cc i) A/\Ks M.length M1.length a0 r f0 K hs gq M')
    ⟨b6,b7,S,A,rfl,sm,sa,ks s5 s6⟩
    (λi ρ M7 hi hI=>by
     obtain⟨b6,b7,S,A,rfl,q1,q2,q3⟩:=hI;obtain⟨c1,c2⟩:=a9l (i:=i) (by lia);obtain⟨S',A',M8,e8,q4,q5,s8,n8⟩:=a9k (m:=m-1) (K:=K) (r:=r) (hs:=hs) (r_ (a_ (by decide) hm)) q3.1 q1 q2 c1;have s8:=ks q3 s8;have q4:=q4.up (d:=cc (i+1)) (by lia);have q5:=q5.up c2;have hc:cc (i+1)<=100000:=by
      have:i=0\/i=1:=by lia
      rcases this with rfl|rfl<;>decide
     obtain⟨b,M9,e9,k9,h9⟩:=Ux (m:=m-1) (r_ (a_ (by decide) hm)) P s8.2.1 (sizes:=S') (acts:=A') (gm q4.l hc) (λjs hj=>gm (q5.r js hj) hc);have s9:=ks s8 (St.of s8.1 k9);obtain⟨b',M10,e10,d10,k10,h10⟩:=a1w (m:=m-1) (M:=M9) (r_ (a_ (by decide) hm)) P s9.2.2 (sizes:=S') (acts:=A') (gm q4.l hc) (λjs hj=>gm (q5.r js hj) hc);obtain rfl:b=b':=vq.mpr (h9.trans h10.symm);have ib:qx .isBool [.bl b] M9=.ok (.bl true) M9:=rfl;have i0:=Zk S A M7;have i1:=ait S A M7;have e8:prog.call (m-1) 32 [.ref M.length,vm K r hs,tupI S,.tup (A.map tupI)] M7=_:=e8;have s10:Ks M.length M1.length a0 r f0 K hs gq M10:=⟨let ⟨x,y,z⟩:=s9.1;⟨x,k10 _ _ (j0 hrt) y,z⟩,⟨k10 _ _ (i_ hrl) s9.2.1.1,k10 _ _ har s9.2.1.2⟩,d10⟩;exact⟨_,.next,_,M10,rfl,by simp[Z7,i0,i1,e8,e9,ib,e10],.inl rfl,some (.int i),some (.bl b),S',A',rfl,q4,q5,s10⟩)
   have e7:ag0.den ⟨prog.call (m-1),prog.cls⟩ _ _=_:=e7;have isn:Mx .Yg (.bl true) (.bl true) M5=some false:=rfl;exact⟨_,.next,_,M7,rfl,by simp[-ab5,Z8,s0,e0,mk,e4,e5,isn,e7],.inl rfl,some (.int k),some (.ref M.length),some (vm K r hs),some (.ref M1.length),some (yu S' A'),c6,c7,rfl⟩)
 have e:ag1.den ⟨prog.call (m-1),prog.cls⟩ _ _=_:=e;exact⟨M',by simp[Fn.run,amn,awm,e]⟩
open PySem L2
open PySem.W
set_option maxHeartbeats 0 in
def all_mk{l:OpenLaw}{K:Frag}{h:Heap}(X:K.In h)(G:h.Ns mainGlobals mg)(hfa:mg "law" = some (.ref fa))
 (aC2:nsIn K mainGlobals "Pattern" = some (some (.ref C2)))
 (a0:findIn K (.ref C2) "__init__" = some (some (.ref f0)))
 (i0:isFn K (.ref f0)=true)
 (l0:Ck.Lk K f0 "__init__" "Pattern.__init__" (inClass (top 7) 0) oc0 od0 kV0 dc0 pm0 an0 cd0 ct0 sl0)
 (a1:findIn K (.ref C2) "kinds" = some (some (.ref f1)))
 (i1:isFn K (.ref f1)=true)
 (l1:Ck.Lk K f1 "kinds" "Pattern.kinds" (inClass (top 7) 1) oc1 od1 kV1 dc1 pm1 an1 cd1 ct1 sl1)
 (a2:findIn K (.ref C2) "doings" = some (some (.ref f2)))
 (i2:isFn K (.ref f2)=true)
 (l2:Ck.Lk K f2 "doings" "Pattern.doings" (inClass (top 7) 2) oc2 od2 kV2 dc2 pm2 an2 cd2 ct2 sl2)
 (a3:findIn K (.ref C2) "behind" = some (some (.ref f3)))
 (i3:isFn K (.ref f3)=true)
 (l3:Ck.Lk K f3 "behind" "Pattern.behind" (inClass (top 7) 3) oc3 od3 kV3 dc3 pm3 an3 cd3 ct3 sl3)
 (a4:findIn K (.ref C2) "ways" = some (some (.ref f4)))
 (i4:isFn K (.ref f4)=true)
 (l4:Ck.Lk K f4 "ways" "Pattern.ways" (inClass (top 7) 4) oc4 od4 kV4 dc4 pm4 an4 cd4 ct4 sl4)
 (a5:findIn K (.ref C2) "end" = some (some (.ref f5)))
 (i5:isFn K (.ref f5)=true)
 (l5:Ck.Lk K f5 "end" "Pattern.end" (inClass (top 7) 5) oc5 od5 kV5 dc5 pm5 an5 cd5 ct5 sl5)
 (a6:nsIn K mainGlobals "both_ways" = some (some (.ref f6)))
 (l6:Ck.Lk K f6 "both_ways" "both_ways" (top 8) oc6 od6 kV6 dc6 pm6 an6 cd6 ct6 sl6)
 (a7:nsIn K mainGlobals "meeting_pairs" = some (some (.ref f7)))
 (l7:Ck.Lk K f7 "meeting_pairs" "meeting_pairs" (top 9) oc7 od7 kV7 dc7 pm7 an7 cd7 ct7 sl7)
 (a8:nsIn K mainGlobals "is_way_between" = some (some (.ref f8)))
 (l8:Ck.Lk K f8 "is_way_between" "is_way_between" (top 10) oc8 od8 kV8 dc8 pm8 an8 cd8 ct8 sl8)
 (a9:nsIn K mainGlobals "check_doings" = some (some (.ref f9)))
 (l9:Ck.Lk K f9 "check_doings" "check_doings" (top 11) oc9 od9 kV9 dc9 pm9 an9 cd9 ct9 sl9)
 (a10:nsIn K mainGlobals "check_table" = some (some (.ref f10)))
 (l10:Ck.Lk K f10 "check_table" "check_table" (top 12) bl4 bl5 bl6 bl7 bl8 bl9 bma bmb bmc)
 (a11:nsIn K mainGlobals "check_threes" = some (some (.ref f11)))
 (l11:Ck.Lk K f11 "check_threes" "check_threes" (top 13) bme bmf bmg bmh bmi bmj bmk bml bmm)
 (a12:nsIn K mainGlobals "_law_cell_at" = some (some (.ref f12)))
 (l12:Ck.Lk K f12 "_law_cell_at" "_law_cell_at" (top 21) bmo bmp bmq bmr bms bmt bmu bmv bmw)
 (a13:nsIn K mainGlobals "_law_state" = some (some (.ref f13)))
 (l13:Ck.Lk K f13 "_law_state" "_law_state" (top 22) bmy bmz bm0 bm1 bm2 bm3 bm4 bm5 bm6)
 (a14:nsIn K mainGlobals "_law_take" = some (some (.ref f14)))
 (l14:Ck.Lk K f14 "_law_take" "_law_take" (top 23) bm8 bm9 bna bnb bnc bnf bng bnh bni)
 (a15:nsIn K mainGlobals "_law_begun" = some (some (.ref f15)))
 (l15:Ck.Lk K f15 "_law_begun" "_law_begun" (top 24) bnk bnl bnm bnn bno bnp bnq bnr bns)
 (a16:nsIn K mainGlobals "_law_closed" = some (some (.ref f16)))
 (l16:Ck.Lk K f16 "_law_closed" "_law_closed" (top 25) bnu bnv bnw bnx bny bnz bn0 bn1 bn2)
 (a17:nsIn K mainGlobals "_law_pattern" = some (some (.ref f17)))
 (l17:Ck.Lk K f17 "_law_pattern" "_law_pattern" (top 26) bn4 bn5 bn6 bn7 bn8 bn9 boa bob boc)
 (a18:nsIn K mainGlobals "_law_ways" = some (some (.ref f18)))
 (l18:Ck.Lk K f18 "_law_ways" "_law_ways" (top 27) boe bof bog boh boi boj bon boo bop)
 (a19:nsIn K mainGlobals "_law_end" = some (some (.ref f19)))
 (l19:Ck.Lk K f19 "_law_end" "_law_end" (top 28) bos bou bov bow boy boz bo0 bo1 bo2)
 (a20:nsIn K mainGlobals "_law_behind" = some (some (.ref f20)))
 (l20:Ck.Lk K f20 "_law_behind" "_law_behind" (top 29) bo4 bo5 bo6 bo7 bo8 bo9 bpa bpb bpc)
 (a21:nsIn K mainGlobals "is_world" = some (some (.ref f21)))
 (l21:Ck.Lk K f21 "is_world" "is_world" (top 15) bpe bpf bpg bph bpi bpj bpk bpl bpm)
 (a22:nsIn K mainGlobals "has_sizes" = some (some (.ref f22)))
 (l22:Ck.Lk K f22 "has_sizes" "has_sizes" (top 16) bpo bpp bpq bpr bps bpt bpu bpv bpw)
 (a23:nsIn K mainGlobals "has_acts" = some (some (.ref f23)))
 (l23:Ck.Lk K f23 "has_acts" "has_acts" (top 17) bpy bpz bp0 bp1 bp2 bp3 bp4 bp5 bp6)
 (a24:nsIn K mainGlobals "keeps_table" = some (some (.ref f24)))
 (l24:Ck.Lk K f24 "keeps_table" "keeps_table" (top 18) bp8 bp9 bqa bqb bqc bqd bqe bqf bqg)
 (a25:nsIn K mainGlobals "led" = some (some (.ref f25)))
 (l25:Ck.Lk K f25 "led" "led" (top 19) bqi bqj bqk bql bqm bqn bqo bqp bqq)
 (a26:nsIn K mainGlobals "_law_merged" = some (some (.ref f26)))
 (l26:Ck.Lk K f26 "_law_merged" "_law_merged" (top 30) bqs bqt bqu bqv bqw bqx bqy bqz bq0)
 (a27:nsIn K mainGlobals "_law_world" = some (some (.ref f27)))
 (l27:Ck.Lk K f27 "_law_world" "_law_world" (top 31) bq2 bq3 bq4 bq5 bq6 bq7 bq8 bq9 bra)
 (a28:nsIn K mainGlobals "_law_led" = some (some (.ref f28)))
 (l28:Ck.Lk K f28 "_law_led" "_law_led" (top 32) brc brd bre brf brg brh bri brj brl)
 (a29:nsIn K mainGlobals "_law_within" = some (some (.ref f29)))
 (l29:Ck.Lk K f29 "_law_within" "_law_within" (top 33) brn bro brp brq brr brs brt bru brv)
 (a30:nsIn K mainGlobals "_law_is_world" = some (some (.ref f30)))
 (l30:Ck.Lk K f30 "_law_is_world" "_law_is_world" (top 34) brx bry brz br0 br1 br2 br3 br4 br5)
 (a31:nsIn K mainGlobals "_law_row_spoiled" = some (some (.ref f31)))
 (l31:Ck.Lk K f31 "_law_row_spoiled" "_law_row_spoiled" (top 35) br7 br8 br9 bsa bsb bsc bsd bse bsf)
 (a32:nsIn K mainGlobals "_law_spoiled" = some (some (.ref f32)))
 (l32:Ck.Lk K f32 "_law_spoiled" "_law_spoiled" (top 36) bsh bsi bsj bsk bsl bsm bsn bso bsp)
 (a33:nsIn K mainGlobals "law" = some (some (.ref f33)))
 (l33:Ck.Lk K f33 "law" "law" (top 37) bss bst bfg bfh bfi bfj bfk bfl bsu)
 (pg2:plainGet K C2 Str.empty=true)
 (hd2:hasDictIn K C2=true)
 (po2:plainOver K C2=true)
 (sa2:findIn K (.ref C2) "__setattr__" = some (some (.builtin "object.__setattr__")))
 (mk2:makesIn K C2=true)
 (kc2:keepIn K (.ref C2)=true)
 (bfm:findIn K (.ref C2) "together" = some none)
 (bfn:findIn K (.ref C2) "doing_ends" = some none)
 (bfo:findIn K (.ref C2) "kind_count" = some none)
 (v0:nsIn K mainGlobals "STAYING" = some (some (.int (-1) tk0)))
 (v1:nsIn K mainGlobals "MOST_KINDS" = some (some (.int (3) tk1)))
 (v2:nsIn K mainGlobals "MOST_DOINGS" = some (some (.int (5) tk2)))
 (z0:nsIn K mainGlobals "len" = some none)
 (z1:nsIn K mainGlobals "tuple" = some none)
 (z2:nsIn K mainGlobals "list" = some none)
 (z3:nsIn K mainGlobals "dict" = some none)
 (z4:nsIn K mainGlobals "max" = some none)
 (z5:nsIn K mainGlobals "min" = some none)
 (z6:nsIn K mainGlobals "isinstance" = some none)
 (z7:nsIn K mainGlobals "range" = some none)
 (z8:nsIn K mainGlobals "enumerate" = some none)
 (z9:nsIn K mainGlobals "set" = some none)
 (z10:nsIn K mainGlobals "zip" = some none)
 (z11:nsIn K mainGlobals "all" = some none)
 (z12:nsIn K mainGlobals "bool" = some none)
 (z13:nsIn K mainGlobals "int" = some none)
 (z14:nsIn K mainGlobals "sum" = some none)
 (z15:nsIn K mainGlobals "sorted" = some none)
 : ∃fd:FuncData,(∀(s:Shared)(v:Value),BindsTo s fd ⟨[v],[]⟩ [("script",v)])/\∀base:Heap,K.In base->base.Ns mainGlobals mg->Ge l.prog w K mg base CX0 170 fa fd ["script"] (Ck.aih K):=by
 have e:=(gh X G a33).symm.trans hfa;cases e;have aF:Ck.abg K Ds sts [f0,f1,f2,f3,f4,f5,f6,f7,f8,f9,f10,f11,f12,f13,f14,f15,f16,f17,f18,f19,f20,f21,f22,f23,f24,f25,f26,f27,f28,f29,f30,f31,f32,fa] [_,_,_,_,_,_,_,_,_,_,_,_,_,_,_,_,_,_,_,_,_,_,_,_,_,_,_,_,_,_,_,_,_,_]:=(Ck.fE l0 (Ck.fE l1 (Ck.fE l2 (Ck.fE l3 (Ck.fE l4 (Ck.fE l5 (Ck.fE l6 (Ck.fE l7 (Ck.fE l8 (Ck.fE l9 (Ck.fE l10 (Ck.fE l11 (Ck.fE l12 (Ck.fE l13 (Ck.fE l14 (Ck.fE l15 (Ck.fE l16 (Ck.fE l17 (Ck.fE l18 (Ck.fE l19 (Ck.fE l20 (Ck.fE l21 (Ck.fE l22 (Ck.fE l23 (Ck.fE l24 (Ck.fE l25 (Ck.fE l26 (Ck.fE l27 (Ck.fE l28 (Ck.fE l29 (Ck.fE l30 (Ck.fE l31 (Ck.fE l32 (Ck.fE l33 Ck.fN))))))))))))))))))))))))))))))))));have aG:Ck.Tw mg tab.fns [f0,f1,f2,f3,f4,f5,f6,f7,f8,f9,f10,f11,f12,f13,f14,f15,f16,f17,f18,f19,f20,f21,f22,f23,f24,f25,f26,f27,f28,f29,f30,f31,f32,fa]:=(Ck.gO (Ck.gO (Ck.gO (Ck.gO (Ck.gO (Ck.gO (Ck.gS (gh X G a6) (Ck.gS (gh X G a7) (Ck.gS (gh X G a8) (Ck.gS (gh X G a9) (Ck.gS (gh X G a10) (Ck.gS (gh X G a11) (Ck.gS (gh X G a12) (Ck.gS (gh X G a13) (Ck.gS (gh X G a14) (Ck.gS (gh X G a15) (Ck.gS (gh X G a16) (Ck.gS (gh X G a17) (Ck.gS (gh X G a18) (Ck.gS (gh X G a19) (Ck.gS (gh X G a20) (Ck.gS (gh X G a21) (Ck.gS (gh X G a22) (Ck.gS (gh X G a23) (Ck.gS (gh X G a24) (Ck.gS (gh X G a25) (Ck.gS (gh X G a26) (Ck.gS (gh X G a27) (Ck.gS (gh X G a28) (Ck.gS (gh X G a29) (Ck.gS (gh X G a30) (Ck.gS (gh X G a31) (Ck.gS (gh X G a32) (Ck.gS (gh X G a33) Ck.gN))))))))))))))))))))))))))))))))));have aC:Ck.Ov K mg tab [f0,f1,f2,f3,f4,f5,f6,f7,f8,f9,f10,f11,f12,f13,f14,f15,f16,f17,f18,f19,f20,f21,f22,f23,f24,f25,f26,f27,f28,f29,f30,f31,f32,fa] tab.cls [none,none,some C2] prog.cls:=(Ck.cO (Ck.cO (Ck.cS ⟨gh X G aC2,⟨pg2,hd2,po2,sa2⟩,⟨_,rfl,⟨mk2,a0,i0,kc2⟩⟩,(Ck.mC rfl rfl ⟨a1,i1,l1.2.2⟩ (Ck.mC rfl rfl ⟨a2,i2,l2.2.2⟩ (Ck.mC rfl rfl ⟨a3,i3,l3.2.2⟩ (Ck.mC rfl rfl ⟨a4,i4,l4.2.2⟩ (Ck.mC rfl rfl ⟨a5,i5,l5.2.2⟩ Ck.mN))))),(Ck.nC bfm (Ck.nC bfn (Ck.nC bfo Ck.nN)))⟩ Ck.cN)));have aV:Ck.abi mg tab.au6:=(Ck.vC (gh X G v0) (Ck.vC (gh X G v1) (Ck.vC (gh X G v2) Ck.vN)));have aB:Ck.AllB mg Ck.Ou:=(Ck.bC (jn X G z0) (Ck.bC (jn X G z1) (Ck.bC (jn X G z2) (Ck.bC (jn X G z3) (Ck.bC (jn X G z4) (Ck.bC (jn X G z5) (Ck.bC (jn X G z6) (Ck.bC (jn X G z7) (Ck.bC (jn X G z8) (Ck.bC (jn X G z9) (Ck.bC (jn X G z10) (Ck.bC (jn X G z11) (Ck.bC (jn X G z12) (Ck.bC (jn X G z13) (Ck.bC (jn X G z14) (Ck.bC (jn X G z15) Ck.bN))))))))))))))));refine⟨fnOf "law" "law" (Jh (top 37)) (Gm (top 37)) (Bh (top 37)) .none bfg bfh bfi bfj bfk bfl,λs v=>.of_eq rfl,λbase _ _=>?_⟩;obtain⟨d,a,f,g1,g2,g3,g4,g5⟩:=Ck.a1k (P:=l.prog) (w:=w) (base:=base) (n:=10) (i:=33) (F:=amn) bew chk bex bey bez aF aG aC aV aB rfl;cases g1;cases g2;cases g3;exact g5.imp λvs H Q E hh=>Ck.avq (λns hl=>a1y (by decide)) hh
end K03
open PySem PySem.W PyProof.Rows
namespace PySem.W.Fast
def tw15004434723204429282:=Nat
def tw15124417871395345330:=Nat
def tw1288368514397209031:=Nat
def tw4383941829000910550:=Nat
def tw10001870811516015838:=Nat
def tw12423647354176784894:=Nat
def tw10476516080776369785:=Nat
def tw14449021793551657044:=Nat
def tw18000047607073067402:=Nat
def tw14864076055133326341:=Nat
def tw6480664179020842901:=Nat
def tw16065866180585762289:=Nat
def tw15210234602041108327:=Nat
def tw7884539621142154333:=Nat
def tw1693439529776203680:=Nat
def tw3701407722525407225:=Nat
def tw15836303273556454910:=Nat
def tw17430863975926217339:=Nat
def tw10776701175478844053:=Nat
def tw18250749171614569986:=Nat
def tw3421833808140561117:=Nat
def tw4366255292742951520:=Nat
def tw9826818958402315833:=Nat
def tw4700638267400548734:=Nat
def tw16639421651948243063:=Nat
def tw5285642577613221982:=Nat
def tw7947114324164733529:=Nat
def tw598957127459095950:=Nat
def tw18234571497893884947:=Nat
def tw10138253612635729623:=Nat
def tw4728642518242445874:=Nat
def tw4909427040199797449:=Nat
def tw15830291666203305501:=Nat
def tw16240433033151501371:=Nat
def tw11447953952290741945:=Nat
def tw8429436110282871841:=Nat
def tw5277345921172461227:=Nat
def tw7978362281548335944:=Nat
def tw582522057510631893:=Nat
def tw2733857092390591403:=Nat
def tw16122696082470633315:=Nat
def tw10342510169784296312:=Nat
def tw6860908157961297743:=Nat
def tw13208913829401372225:=Nat
def tw9548518702660468972:=Nat
def tw4694187259341280206:=Nat
def tw1530156115934180881:=Nat
def tw2048437957727517399:=Nat
def tw8179786151226258509:=Nat
def tw12172873468357811345:=Nat
def tw10501890654041286906:=Nat
def tw10329299843283567974:=Nat
def tw5163250752835960894:=Nat
def tw15416860422629362452:=Nat
def tw6270294488588345398:=Nat
def tw2389419236783285899:=Nat
def tw10330667664932386862:=Nat
def tw3783380192012495907:=Nat
def tw346339609666222260:=Nat
def tw10258947198278641317:=Nat
def tw17512322610979843250:=Nat
def tw939041378215661964:=Nat
def tw16710827666683650380:=Nat
def tw14155164081693660303:=Nat
def tw17740037165979756390:=Nat
def tw3779661427443223262:=Nat
def tw511053084954932952:=Nat
def tw9533270465170304477:=Nat
def tw9056484933984663452:=Nat
def tw8239193365008709810:=Nat
def tw14621906615277148708:=Nat
def tw13274513648424456806:=Nat
def tw4533092396641182474:=Nat
def tw11445618598840751387:=Nat
def tw2066424883559713789:=Nat
def tw3285595858889588305:=Nat
def tw371436283026347880:=Nat
def tw9221571823279960630:=Nat
def tw7613928086800951280:=Nat
def tw14209715940292561144:=Nat
def tw13662697967138331692:=Nat
def tw17242469787639487629:=Nat
def tw6842121958504251944:=Nat
def tw6635171471058015858:=Nat
def tw4369822226964350482:=Nat
def tw16616091002522381825:=Nat
def tw13481389120989896043:=Nat
def tw17467258037960159524:=Nat
def tw9365903206897275287:=Nat
def tw14018495780081714191:=Nat
def tw4958411715473214676:=Nat
def tw16003482146974737078:=Nat
def tw13425026969395380585:=Nat
def tw3768584976667105853:=Nat
def tw11413971519993381628:=Nat
def tw8392283386230547217:=Nat
def tw12058992141289343145:=Nat
def tw1512368089737088242:=Nat
def tw9621139465753961851:=Nat
def tw5371677974096474386:=Nat
def tw5313601046982653479:=Nat
def tw15681557377260762721:=Nat
def tw3530206063453087706:=Nat
def tw5431959514958806985:=Nat
def tw6480184815534202059:=Nat
def tw11385874172033939550:=Nat
def tw13695508414138180011:=Nat
def tw7610040447487333817:=Nat
def tw7461093436663376790:=Nat
def tw18039053769051405190:=Nat
def tw6107446872919407727:=Nat
def tw1820153647051231249:=Nat
def tw2877999044681821436:=Nat
def tw2870667193175110918:=Nat
def tw5312867733046347442:=Nat
def tw4513988235478459423:=Nat
def tw1749821901250144911:=Nat
def tw12048067809872165674:=Nat
def tw2525441201962286327:=Nat
def tw8891477707335361888:=Nat
def tw11229352267899655551:=Nat
def tw3503908466526367051:=Nat
def tw4620205266972398121:=Nat
def tw489100066172047638:=Nat
def tw10210501936645087040:=Nat
def tw15928860636727318110:=Nat
def tw729647034723183372:=Nat
def tw6012731348323483194:=Nat
def tw15055351819928772972:=Nat
def tw10422289003041888622:=Nat
def tw11714701050492690807:=Nat
def tw4295232005876229718:=Nat
def tw14769829967064782529:=Nat
def tw12663933116906952459:=Nat
def tw8802471419870500526:=Nat
def tw202370878462862094:=Nat
def tw4382700951852295371:=Nat
def tw5434632501210380894:=Nat
def tw15037285137453535253:=Nat
def tw4058799565706728834:=Nat
def tw7701209796143911951:=Nat
def tw2541430428835385477:=Nat
def tw13741173693481200595:=Nat
def tw3695471464363605465:=Nat
def tw1407501315391027829:=Nat
def tw11380854809627577973:=Nat
def tw4134198992553312886:=Nat
def tw17012460239507931760:=Nat
def tw14888548899828198999:=Nat
def tw18275021669834379116:=Nat
def tw10121821080896677809:=Nat
def tw16912895284485255425:=Nat
def tw7384033964422005548:=Nat
def tw13339644552180704112:=Nat
def tw8092532176540457608:=Nat
def tw11748303118989057047:=Nat
def tw7951127008374153588:=Nat
def tw13895961325855702874:=Nat
def tw959255439253160106:=Nat
def tw16162099304061585925:=Nat
def tw16307124265133846175:=Nat
def tw9876698550073594303:=Nat
def tw16438456633651499984:=Nat
def tw13247773377284672036:=Nat
def tw7252533673049454994:=Nat
def tw5539492563556103458:=Nat
def tw12508481190430114131:=Nat
def tw4204719111758163051:=Nat
def tw1007917483024772066:=Nat
def tw17969955983718615448:=Nat
def tw1616349996738498111:=Nat
def tw15996636421537437792:=Nat
def tw9440317259411119015:=Nat
def tw8682066311696158180:=Nat
def tw5440400577958896193:=Nat
def tw5345758512354829316:=Nat
def tw4226395886358889826:=Nat
def tw15875064684047803215:=Nat
def tw11909762644080150440:=Nat
def tw8915489542496105946:=Nat
def tw10274916766114880022:=Nat
def tw506858076827116400:=Nat
def tw13355432851587271836:=Nat
def tw13209910402534059364:=Nat
def tw9956312711951284142:=Nat
def tw9699779622237494727:=Nat
def tw9481195188521247136:=Nat
def tw9320402596369629704:=Nat
def tw9091967608066863665:=Nat
def tw8684055970120072215:=Nat
def tw8668916105844357730:=Nat
def tw8665783752931908730:=Nat
def tw7871128115557753897:=Nat
def tw7311840324480532433:=Nat
def tw6920165430470316279:=Nat
def tw6861897113126764581:=Nat
def tw6838087980132219452:=Nat
def tw6684238677021491595:=Nat
def tw6218512304228460849:=Nat
end PySem.W.Fast
set_option maxRecDepth 100000 in
set_option maxHeartbeats 0 in
theorem PySem.Challenge.cw_mapwright_k03_worlds_looked_at_holds : PySem.Challenge.rw_mapwright_k03_worlds_looked_at.Holds := by
 w_on;o_law;k_head;(case hw=>w_witness2)
 k_fill
 refine Ck.walk (l:=PySem.Challenge.rw_mapwright_k03_worlds_looked_at) rfl rfl (λw h Y=>PySem.W.kIn_of Y) ?F
 case F =>
  intro w mg fa h KX G hmg;apply K03.all_mk KX G hmg<;>(try refine⟨?_,?_,?_⟩)<;>k_is
