import PyProof.Rows.All
import Wide.All
import OpenK.AllK
import Wide.FinOn
import Lean
import PyProof.EqAt
import PyProof.EqKinds
import PyProof.TupleCall
import PyProof.Rows.ListMul
import PyProof.NeKinds
import PyProof.SetScanFacts
import PyProof.TupleKey
import PyProof.SetKind
import PyProof.IsRules
import PyProof.Rules
import PyProof.Rows.SetFrom
import PyProof.SetRoads
import KE.KDictOf
import PyProof.Rows.MinMaxN
import PyProof.ListRange
import PyProof.TupleOfGen
import PyProof.EnumMake
import PyProof.ZipIter
import PyProof.Rows.ZipGen
import PyProof.CollectWalk
import PyProof.ForAny
import PyProof.Rows.SortWalk
import PyProof.CollectIter
import PySem.Challenge.RW_mapwright_k12_maps_one_behind_another
set_option Elab.async false
set_option linter.all false
set_option tactic.hygienic false
set_option genSizeOf false
set_option genInjectivity false
set_option maxRecDepth 100000
abbrev Zl:=List PySem.Value
abbrev Zp:=List (PySem.Addr×PySem.Obj)
abbrev Zs:=PySem.Str->Option PySem.Value
abbrev Y1:=PySem.Value->PySem.Shared->Prop
abbrev Y2:=Option (PySem.Str×Nat)
abbrev Y3:=List Nat
abbrev Ya:=List PySem.Expr
abbrev Yf:=List PySem.Str
abbrev X0:=List (PySem.Str×PySem.NameKind)
abbrev X9:=List PySem.Addr
abbrev Xs:=List Int
abbrev Xt:=List (PySem.Str×PySem.Addr)
abbrev U1:=Array PySem.Value
def jk:=@Array.getElem?_eq_some_iff
def p8:=@Array.getElem?_toList
def vh:=@Array.length_toList
def aq:=@Bool.and_eq_true
def Bd:=@Bool.eq_iff_iff
def cu:=@Bool.false_eq_true
def jf:=@Bool.false_ne_true
def yx:=@Bool.not_false
def q9:=@Bool.not_true
def yg:=@Classical.byContradiction
def zx:=@Int.emod_lt_of_pos
def Be:=@Int.emod_nonneg
def Ba:=@Int.ofNat_inj
def u9:=@Int.toNat_natCast
def yz:=@List.Perm.refl
def iz:=@List.all_eq_true
def Aq:=@List.any_eq_true
def Ag:=@List.append_assoc
def Bf:=@List.append_nil
def zc:=@List.cons_append
def vd:=@List.ext_getElem?
def rm:=@List.find?_cons
def vy:=@List.findIdx?_eq_none_iff
def qm:=@List.findIdx?_eq_some_iff_getElem
def Bg:=@List.foldl_cons
def dg:=@List.getD_eq_getElem?_getD
def dj:=@List.getElem?_append_left
def jb:=@List.getElem?_append_right
def cj:=@List.getElem?_eq_getElem
def kj:=@List.getElem?_eq_none
def ak:=@List.getElem?_eq_some_iff
def gr:=@List.getElem?_map
def lq:=@List.getElem?_range
def uy:=@List.getElem?_set_ne
def zu:=@List.getElem?_set_self
def ym:=@List.getElem?_zipIdx
def Ar:=@List.getElem_inj
def pq:=@List.getElem_mem
def qp:=@List.getElem_of_mem
def ud:=@List.isEmpty_iff
def wj:=@List.length_append
def gw:=@List.length_cons
def za:=@List.length_eq_zero_iff
def Ad:=@List.length_filter_le
def du:=@List.length_map
def ye:=@List.length_replicate
def o6:=@List.lookup_cons
def uf:=@List.map_append
def qu:=@List.map_congr_left
def gq:=@List.map_cons
def zj:=@List.map_map
def dw:=@List.mem_append
def yo:=@List.mem_append_left
def iw:=@List.mem_append_right
def bz:=@List.mem_cons
def bc:=@List.mem_cons_of_mem
def di:=@List.mem_cons_self
def w5:=@List.mem_filter
def v9:=@List.mem_iff_getElem?
def bf:=@List.mem_map
def ao:=@List.mem_of_getElem?
def je:=@List.mem_range
def qj:=@List.mem_singleton
def Aa:=@List.nil_append
def yp:=@List.nodup_append
def mq:=@List.nodup_cons
def m9:=@List.nodup_iff_pairwise_ne
def yc:=@List.nodup_nil
def xr:=@List.not_mem_nil
def zy:=@List.pairwise_cons
def Ah:=@List.pairwise_map
def yj:=@List.range_succ
def Bh:=@List.set_append
def ig:=@List.size_toArray
def xu:=@Nat.le_add_right
def zp:=@Nat.le_of_lt
def bh:=@Nat.le_refl
def vz:=@Nat.le_succ
def gn:=@Nat.le_trans
def kh:=@Nat.lt_irrefl
def gm:=@Nat.lt_of_lt_of_le
def yh:=@Nat.lt_or_ge
def qd:=@Nat.lt_succ_of_lt
def p7:=@Nat.lt_succ_self
def v5:=@Nat.ne_of_gt
def dz:=@Nat.ne_of_lt
def ug:=@Nat.not_lt_zero
def ux:=@Nat.zero_add
def ju:=@Nat.zero_le
def j0:=@Ne.symm
def dq:=@Option.bind_eq_some_iff
def uw:=@Option.bind_some
def zf:=@Option.getD_some
def m7:=@Option.isSome_iff_exists
def bx:=@Option.map_eq_some_iff
def vm:=@Option.map_some
def jn:=@Option.some.inj
def Ai:=@Option.some.injEq
def ue:=@PyProof.Rows.F.entry_set_update_loop
def mj:=@PyProof.Rows.F.plain_set_update_loop
def yt:=@PyProof.Rows.callWith_builtin1
def jh:=@PyProof.Rows.callWith_type1
def j6:=@PySem.Around.under_plainId
def um:=@PySem.Calls.spliced_cons
def w6:=@PySem.Calls.spliced_nil
def ur:=@PySem.F.called_set
def xj:=@PySem.F.slot_enumerate_next
def uz:=@PySem.F.slot_tuple_iterator_next
def xq:=@PySem.F.slot_tuple_mul
def jy:=@PySem.Heap.SameBut.update
def au:=@PySem.Heap.get?_push_of_some
def bu:=@PySem.Heap.get?_push_size
def uq:=@PySem.Heap.get?_update_other
def m5:=@PySem.Heap.get?_update_self
def az:=@PySem.Heap.lt_size
def iu:=@PySem.Heap.size_push
def rz:=@PySem.W.kia_one
def jm:=@PySem.W.mg_none_of
def gf:=@PySem.W.mg_of
def nq:=@PySem.codeAny_builtin
def wu:=@PySem.codeAny_mono
def zb:=@PySem.mem_of_lookup
def qy:=@PySem.sizeLine_eq
def wy:=@PySem.tupleKind_room_in1
def jc:=@PySem.wpAny_Call_Name_kw
def aa:=@PySem.wpAny_bind
def j7:=@PySem.wpAny_callSpecial?_slot
def jw:=@PySem.wpAny_call_entry
def su:=@PySem.wpAny_dictEntries
def jg:=@PySem.wpAny_field
def ql:=@PySem.wpAny_forIn_list
def jo:=@PySem.wpAny_holding
def o8:=@PySem.wpAny_isInstance
def wg:=@PySem.wpAny_ite_false
def my:=@PySem.wpAny_mono
def tu:=@PySem.wpAny_newObj_type
def uh:=@PySem.wpAny_passesOwn
def aj:=@PySem.wpAny_pure
def t8:=@PySem.wpAny_seqItems
def lz:=@PySem.wpAny_setEntries_of
def jd:=@PySem.wpAny_setField_rec
def jq:=@PySem.wpAny_setState_of
def km:=@PySem.wpAny_truthy_bool
def uv:=@PySem.wpAny_typeOf
def qw:=@beq_eq_false_iff_ne
def zg:=@beq_self_eq_true
def yq:=@bne_self_eq_false
def qz:=@congrArg
def ph:=@decide_eq_false
def dm:=@decide_eq_true_eq
def ji:=@if_false
def bw:=@if_neg
def cz:=@if_pos
def jx:=@if_true
def j8:=@of_decide_eq_true
abbrev Fg:=PySem.W.Frag
def a_{a b c:Nat}(h:a<=b)(k:b<=c):a<=c:=gn h k
def b_{a b c:Nat}(h:a<b)(k:b<=c):a<c:=gm h k
def c_{a b c:Nat}(h:a<=b)(k:b<c):a<c:=Nat.lt_of_le_of_lt h k
def d_{a b c:Nat}(h:a<b)(k:b<c):a<c:=Nat.lt_trans h k
def e_{a b:Nat}(h:a<b):a<=b:=zp h
def f_{a b:Nat}(h:a=b):a<=b:=Nat.le_of_eq h
def g_{a b:Nat}(h:a=b):b<=a:=Nat.le_of_eq h.symm
def h_{a b:Nat}(h:a<b):a≠b:=dz h
def i_{a b:Nat}(h:b<a):a≠b:=v5 h
def j_{a b:Nat}(h:b<=a):¬a<b:=Nat.not_lt_of_le h
def l_{p:Prop}{a b:Nat}(h:a<b)(k:b<=a):p:=absurd h (Nat.not_lt_of_le k)
def m_{a b:Nat}(h:a<b):(a:Int)<(b:Int):=Int.ofNat_lt.mpr h
def n_{a b:Nat}(h:a<=b):(a:Int)<=(b:Int):=Int.ofNat_le.mpr h
def o_{a b:Nat}(h:(a:Int)<(b:Int)):a<b:=Int.ofNat_lt.mp h
def q_{a:Nat}:(0:Int)<=(a:Int):=Int.natCast_nonneg a
def r_{a b c:Nat}(h:a+c<=b):a<=b-c:=Nat.le_sub_of_add_le h
def s_{a b:Nat}(h:¬a<b):b<=a:=Nat.le_of_not_lt h
def t_{a b:Nat}(h:¬a<=b):b<a:=Nat.lt_of_not_le h
def u_{a b:Nat}(h:a<=b)(k:b<=a):a=b:=Nat.le_antisymm h k
def v_{a b c:Nat}(h:a<=b):a+c<=b+c:=Nat.add_le_add_right h c
def w_{a b c:Nat}(h:a<=b):c+a<=c+b:=Nat.add_le_add_left h c
def x_{a b:Nat}:a<=a+b:=xu a b
def z_{a b:Nat}(h:a<b+1):a<=b:=Nat.le_of_lt_succ h
def A_{a b:Nat}(h:a<=b):a<b+1:=Nat.lt_succ_of_le h
def B_{a:Nat}:a<a+1:=p7 a
def C_{a b:Nat}:a-b<=a:=Nat.sub_le a b
def D_{a b:Nat}(h:(a:Int)=(b:Int)):a=b:=Ba.mp h
def G_{a b c:Nat}(h:a<b):a+c<b+c:=Nat.add_lt_add_right h c
def H_{a b c:Nat}(h:a<b):c+a<c+b:=Nat.add_lt_add_left h c
def hG{P:Prop}(h:∀G:Prop,(P->G)->G):P:=h P id
namespace Yh
open PySem SetTable
def Srt(xs:Array Nat):Prop:=∀(i j a b:Nat),xs[i]?=some a->xs[j]?=some b->i<j->a<b
def asj(hs:Srt xs):∀(fuel lo hi:Nat),lo<=hi->hi<=xs.size->hi-lo<=fuel ->
 (∀(i a:Nat),xs[i]?=some a->i<lo->a<j)->(∀(i a:Nat),xs[i]?=some a->hi<=i->j<=a) ->
 below.go xs j fuel lo hi<=xs.size/\(∀(i a:Nat),xs[i]?=some a->i<below.go xs j fuel lo hi->a<j)/\(∀(i a:Nat),xs[i]?=some a->below.go xs j fuel lo hi<=i->j<=a):=by
 intro fuel
 induction fuel with
 |zero =>
  intro lo hi h1 h2 h3 h4 h5;unfold below.go;have:lo=hi:=by lia
  subst this;exact⟨h2,h4,h5⟩
 |succ fuel ih =>
  intro lo hi h1 h2 h3 h4 h5;unfold below.go
  by_cases Ir:lo<hi
  . simp only[cz Ir]
    have hm:(lo+hi) / 2<xs.size:=by lia
    have hg:xs[(lo+hi) / 2]?=some xs[(lo+hi) / 2]:=by simp[hm]
    have hgd:xs.getD ((lo+hi) / 2) j=xs[(lo+hi) / 2]:=by simp[Array.getD,hm]
    rw[hgd]
    by_cases hc:xs[(lo+hi) / 2]<j
    . rw[cz hc]
      refine ih _ _ (by lia) h2 (by omega) (λi a e l=>?_) h5
      by_cases Xm:i=(lo+hi) / 2
      . subst Xm;rw[hg] at e;cases e;exact hc
      . exact Nat.lt_trans (hs _ _ _ _ e hg (by lia)) hc
    . rw[bw hc]
      refine ih _ _ (by lia) (e_ hm) (by omega) h4 (λi a e l=>?_)
      by_cases Xm:i=(lo+hi) / 2
      . subst Xm;rw[hg] at e;cases e;exact s_ hc
      . have:=hs _ _ _ _ hg e (by lia);exact e_ (c_ (s_ hc) this)
  . rw[bw Ir]
    have:lo=hi:=u_ h1 (s_ Ir);subst this;exact⟨h2,h4,h5⟩
def Er(hs:Srt xs):below xs j<=xs.size/\(∀(i a:Nat),xs[i]?=some a->i<below xs j->a<j)/\(∀(i a:Nat),xs[i]?=some a->below xs j<=i->j<=a) :=
 asj hs _ _ _ (ju _) (bh _) C_ (λi a _ h=>absurd h (ug _)) (λi a e h=>by
  have:=(jk.mp e).1;lia)
def below_at(hs:Srt xs)(h:xs[i]?=some j):below xs j=i:=by
 obtain⟨h1,h2,h3⟩:=Er (j:=j) hs;rcases Nat.lt_trichotomy (below xs j) i with l|l|l
 . have li:=(jk.mp h).1
   have hg:xs[below xs j]?=some xs[below xs j]:=by simp
   have a:=h3 _ _ hg (bh _);have b:=hs _ _ _ _ hg h l
   lia
 . exact l
 . have:=h2 _ _ h l;lia
def Yi(j:Nat):has #[] j=false:=by simp[has]
set_option tactic.hygienic true in
def Rz{t:SetTable}(hs:Srt t.place):t.slot j=.live i↔t.place[i]?=some j:=by
 unfold slot;constructor
 . intro h
   dsimp only at h;split at h
   . rename_i e;cases h;simpa using e
   . split at h<;>cases h
 . intro h
   dsimp only;rw[below_at hs h,h];simp
def afg{t:SetTable}(hs:Srt t.place)(hd:t.dummies=#[]):t.slot j=.empty↔∀i:Nat,t.place[i]?≠some j:=by
 constructor
 . intro h i e
   rw[(Rz hs).mpr e] at h;cases h
 . intro h
   unfold slot;dsimp only;rw[hd,Yi,bw (by simpa using h _)];rfl
def Ks(xs:Array α)(p:Nat)(x:α)(hp:p<=xs.size)(i:Nat):(insertAt xs p x)[i]?=if i<p then xs[i]? else if i=p then some x else xs[i-1]?:=by
 rw[<- p8,toList_insertAt];have hl:(xs.toList.take p).length=p:=by simp;lia
 by_cases h1:i<p
 . rw[cz h1,dj (b_ h1 (g_ hl)),List.getElem?_take,cz h1,p8]
 . rw[bw h1,jb (a_ (f_ hl) (s_ h1)),hl]
   by_cases h2:i=p
   . subst h2;simp
   . rw[bw h2]
     obtain⟨q,hq⟩:∃q,i=p+q+1:=⟨i-p-1,by lia⟩;subst hq;rw[show p+q+1-p=q+1 by lia,List.getElem?_cons_succ,List.getElem?_drop,show p+q+1-1=p+q by lia,p8]
def Ms(xs:Array α)(p:Nat)(x:α):(insertAt xs p x).size=xs.size+1:=by have:=(insertAt_perm xs p x).length_eq;simpa using this
noncomputable def up(p i:Nat):Nat:=if i<p then i else i+1
def Qe(xs:Array α)(p:Nat)(x:α)(hp:p<=xs.size)(i:Nat):(insertAt xs p x)[up p i]?=xs[i]?:=by
 rw[Ks xs p x hp];unfold up
 by_cases h:i<p
 . simp[h]
 . rw[bw h,bw (j_ (a_ (s_ h) x_)),bw (i_ (A_ (s_ h)))];rfl
def Jv(xs:Array α)(p:Nat)(x:α)(hp:p<=xs.size):(insertAt xs p x)[p]?=some x:=by rw[Ks xs p x hp];simp
def Ou(p i:Nat):i=p\/∃k,i=up p k:=by
 unfold up;rcases Nat.lt_trichotomy i p with h|h|h
 . exact .inr ⟨i,by simp[h]⟩
 . exact .inl h
 . exact .inr ⟨i-1,by rw[bw (by omega)];lia⟩
def asl(hs:Srt xs)(hn:∀i:Nat,xs[i]?≠some j):Srt (insertAt xs (below xs j) j):=by
 obtain⟨h1,h2,h3⟩:=Er (j:=j) hs;intro a b x y ea eb l;rcases Ou (below xs j) a with rfl|⟨a',rfl⟩<;>rcases Ou (below xs j) b with hb|⟨b',rfl⟩
 . subst hb;lia
 . rw[Jv _ _ _ h1] at ea
   rw[Qe _ _ _ h1] at eb;cases ea;have:below xs j<=b':=by unfold up at l;split at l<;>omega
   have g:=h3 _ _ eb this;rcases Nat.lt_or_eq_of_le g with g|g
   . exact g
   . subst g;exact absurd eb (hn _)
 . subst hb
   rw[Jv _ _ _ h1] at eb;rw[Qe _ _ _ h1] at ea;cases eb;exact h2 _ _ ea (by unfold up at l;split at l<;>omega)
 . rw[Qe _ _ _ h1] at ea eb
   exact hs _ _ _ _ ea eb (by unfold up at l;split at l<;>split at l<;>omega)
noncomputable def adv(m:Nat)(p:Probe):Probe:=({ SetTable.fresh 0 0 true with mask:=m }:SetTable).advance p
def ayq(t:SetTable)(p:Probe):t.advance p=adv t.mask p:=rfl
def Zz(h:p.more > 0):adv m p={ p with j:=p.j+1,more:=p.more-1 }:=cz h
def Vl(h:¬p.more > 0):adv m p={ p with j:=(leap m p.i p.perturb).1,more:=runEnd m (leap m p.i p.perturb).1-(leap m p.i p.perturb).1,i:=(leap m p.i p.perturb).1,perturb:=(leap m p.i p.perturb).2 }:=bw h
noncomputable def beg(m i pt:Nat):Probe:={ j:=i,more:=runEnd m i-i,i:=i,perturb:=pt,dummy:=none }
noncomputable def P(m:Nat)(h:Int):Nat->Probe
 |0=>beg m (bits h%(m+1)) (bits h)|n+1=>adv m (P m h n)
def ab7(t:SetTable)(h:Int):t.probeStart h=P t.mask h 0:=rfl
theorem Z0(m:Nat)(h:Int):∀n,(P m h n).dummy=none
 |0=>rfl
 |n+1=>by
  show(adv m (P m h n)).dummy=none
  by_cases q:(P m h n).more > 0
  . rw[Zz q];exact Z0 m h n
  . rw[Vl q];exact Z0 m h n
noncomputable def I(m:Nat)(h:Int):Nat->Nat
 |0=>bits h%(m+1)|T+1=>(I m h T*5+1+bits h / 32 ^ (T+1))%(m+1)
def asm(m i:Nat):runEnd m i-i<=9:=by unfold runEnd;split<;>lia
theorem ab8{m:Nat}{h:Int}{n i pt:Nat}(e:P m h n=beg m i pt):∀c,c<=runEnd m i-i->P m h (n+c)={ j:=i+c,more:=runEnd m i-i-c,i:=i,perturb:=pt,dummy:=none }
 |0,_=>by rw[Nat.add_zero,e];rfl
 |c+1,hc=>by
  have:=ab8 e c (by lia);show adv m (P m h (n+c))=_;rw[this,Zz (by show 0<runEnd m i-i-c;lia)];simp only
  congr 1
def al4(e:P m h n=beg m i pt):P m h (n+(runEnd m i-i)+1)=beg m ((i*5+1+pt / 32)%(m+1)) (pt / 32):=by show adv m (P m h (n+(runEnd m i-i)))=_;rw[ab8 e _ (bh _),Vl (by simp)];rfl
theorem al5(m:Nat)(h:Int):∀T,∃n,n<=10*T/\P m h n=beg m (I m h T) (bits h / 32 ^ T)
 |0=>⟨0,ju _,by simp[P,I]⟩
 |T+1=>by
  obtain⟨n,h1,h2⟩:=al5 m h T;have:=asm m (I m h T);refine⟨_,?_,(al4 h2).trans ?_⟩
  . lia
  . rw[Nat.div_div_eq_div_mul,<- Nat.pow_succ];rfl
noncomputable def f5(m x:Nat):Nat:=(x*5+1)%(m+1)
noncomputable def it(m:Nat):Nat->Nat->Nat
 |0,x=>x|k+1,x=>f5 m (it m k x)
theorem Vm(m a x:Nat):∀k,it m (a+k) x=it m k (it m a x)
 |0=>rfl|k+1=>by show f5 m (it m (a+k) x)=_;rw[Vm m a x k];rfl
def Cov(m:Nat):Prop:=∀i j,i<=m->j<=m->∃k,k<=m/\it m k i=j
def ayr(h0:it m (m+1) 0=0)(h:∀j,j<=m->∃k,k<=m/\it m k 0=j):Cov m:=λi j hi hj=>by
 obtain⟨a,la,ea⟩:=h i hi;obtain⟨b,lb,eb⟩:=h j hj
 by_cases hab:a<=b
 . refine⟨b-a,a_ C_ lb,?_⟩
   rw[<- ea,<- Vm,show a+(b-a)=b by lia,eb]
 . refine⟨m+1+b-a,by omega,?_⟩
   rw[<- ea,<- Vm,show a+(m+1+b-a)=(m+1)+b by lia,Vm,h0,eb]
noncomputable def orb(m:Nat):Nat->Nat->List Nat
 |0,_=>[]|k+1,x=>x::orb m k (f5 m x)
theorem ag3{m:Nat}:∀{k x j:Nat},j∈orb m k x->∃q,q<k/\it m q x=j
 |0,_,_,h=>by simp[orb] at h
 |k+1,x,j,h=>by
  simp only[orb,bz] at h;rcases h with rfl|h
  . exact⟨0,A_ (ju _),rfl⟩
  . obtain⟨q,l,e⟩:=ag3 h
    refine⟨1+q,by lia,?_⟩;rw[Vm];exact e
def Qw(h0:it m (m+1) 0=0)(h:((List.range (m+1)).all λj=>(orb m (m+1) 0).contains j)=true):Cov m :=
 ayr h0 λj hj=>by have:=iz.mp h j (by simp;exact A_ hj);obtain⟨q,l,e⟩:=ag3 (by simpa using this);exact⟨q,z_ l,e⟩
def Msk(m:Nat):Prop:=m=7\/m=15\/m=31\/m=63\/m=127
def bcc:Cov 7:=Qw (by decide+kernel) (by decide+kernel)
def a5f:Cov 15:=Qw (by decide+kernel) (by decide+kernel)
def a5g:Cov 31:=Qw (by decide+kernel) (by decide+kernel)
def a5h:Cov 63:=Qw (by decide+kernel) (by decide+kernel)
def ays:Cov 127:=Qw (by decide+kernel) (by decide+kernel)
def Msk.cov(h:Msk m):Cov m:=by
 rcases h with rfl|rfl|rfl|rfl|rfl
 . exact bcc
 . exact a5f
 . exact a5g
 . exact a5h
 . exact ays
def asn(h:Int):bits h<2 ^ 64:=by
 unfold bits;have h1:=Be h (b:=2 ^ 64) (by decide);have h2:=zx h (b:=2 ^ 64) (by decide)
 lia
theorem a5i(m:Nat)(h:Int):∀T,I m h T<=m
 |0=>Nat.le_of_lt_succ (Nat.mod_lt (bits h) (Nat.succ_pos m))|T+1=>Nat.le_of_lt_succ (Nat.mod_lt (I m h T*5+1+bits h / 32 ^ (T+1)) (Nat.succ_pos m))
theorem al6(m:Nat)(h:Int):∀k,I m h (13+k)=it m k (I m h 13)
 |0=>rfl
 |k+1=>by
  show(I m h (13+k)*5+1+bits h / 32 ^ (13+k+1))%(m+1)=f5 m (it m k (I m h 13));have:bits h / 32 ^ (13+k+1)=0:=by
   apply Nat.div_eq_of_lt;refine gm (asn h) ?_
   calc 2 ^ 64<=32 ^ 13:=by decide
    _<=32 ^ (13+k+1):=Nat.pow_le_pow_right (by decide) (a_ x_ x_)
  rw[this,al6 m h k];rfl
def cover(hm:Msk m)(h:Int)(j:Nat)(hj:j<=m):∃T,T<=13+m/\I m h T=j:=by obtain⟨k,lk,e⟩:=hm.cov (I m h 13) j (a5i m h 13) hj;exact⟨13+k,w_ lk,(al6 m h k).trans e⟩
def aso(hm:Msk m)(h:Int)(j:Nat)(hj:j<=m):∃n,n<10*turns m/\(P m h n).j=j:=by obtain⟨T,lT,e⟩:=cover hm h j hj;obtain⟨n,ln,e2⟩:=al5 m h T;exact⟨n,by unfold turns;lia,by rw[e2];exact e⟩
def mod_le(a m:Nat):a%(m+1)<=m:=Nat.le_of_lt_succ (Nat.mod_lt a (Nat.succ_pos m))
def R8(h:i<=m):i<=runEnd m i/\runEnd m i<=m:=by unfold runEnd;split<;>omega
theorem a5j(m:Nat)(h:Int):∀n,(P m h n).j+(P m h n).more<=m
 |0=>by
  have:=R8 (mod_le (bits h) m);show bits h%(m+1)+(runEnd m (bits h%(m+1))-bits h%(m+1))<=m
  omega
 |n+1=>by
  have ih:=a5j m h n;show(adv m (P m h n)).j+(adv m (P m h n)).more<=m
  by_cases q:(P m h n).more > 0
  . rw[Zz q];simp only;lia
  . rw[Vl q]
    have:=R8 (mod_le ((P m h n).i*5+1+(P m h n).perturb / 32) m);show(leap m (P m h n).i (P m h n).perturb).1+(runEnd m (leap m (P m h n).i (P m h n).perturb).1-(leap m (P m h n).i (P m h n).perturb).1)<=m
    have e:(leap m (P m h n).i (P m h n).perturb).1=((P m h n).i*5+1+(P m h n).perturb / 32)%(m+1):=rfl;rw[e];omega
def bcd(m:Nat)(h:Int)(n:Nat):(P m h n).j<=m:=by have:=a5j m h n;lia
def Occ(t:SetTable)(j:Nat):Prop:=∃i:Nat,t.place[i]?=some j
structure Yj(t:SetTable)(es:Array (Int×Value)):Prop where
 msk:Msk t.mask
 dum:t.dummies=#[]
 Yk:t.place.size=es.size
 srt:Srt t.place
 bnd:∀(i j:Nat),t.place[i]?=some j->j<=t.mask
 ful:t.place.size<=t.mask
 rch:∀(i j:Nat) e,t.place[i]?=some j->es[i]?=some e->∃n,(P t.mask e.1 n).j=j/\∀m,m<n->Occ t (P t.mask e.1 m).j
theorem Yj.fits(k:Yj t es):t.fits es.size=true:=by unfold SetTable.fits fill;rw[k.dum];simp[k.Yk];have:=k.ful;have:=k.Yk;lia
def Msk.odd(h:Msk m):m%2=1:=by rcases h with rfl|rfl|rfl|rfl|rfl<;>rfl
def Yj.way(k:Yj t es):t.gaveWay=false:=by unfold gaveWay;rw[k.msk.odd];rfl
def al7(hs:Srt xs)(h:xs.size<=m):∃j,j<=m/\∀i:Nat,xs[i]?≠some j:=by
 apply yg;intro hn;have all:∀j,j<=m->∃i:Nat,xs[i]?=some j:=λj hj=>by apply yg;intro hc;exact hn ⟨j,hj,λi e=>hc ⟨i,e⟩⟩
 have:∀j,j<=m->∀i:Nat,xs[i]?=some j->j<=i:=by
  intro j
  induction j with
  |zero=>intro _ i _;exact ju _
  |succ j ih =>
   intro hj i e;obtain⟨i',e'⟩:=all j (by lia);have:=ih (by lia) i' e';rcases Nat.lt_trichotomy i i' with l|l|l
   . have:=hs _ _ _ _ e e' l;lia
   . subst l;rw[e] at e';injection e' with e';exact a_ (f_ e') this
   . exact a_ (v_ this) l
 obtain⟨i,e⟩:=all m (bh _);have h1:=this m (bh _) i e;have h2:=(jk.mp e).1;exact l_ h2 (a_ h h1)
structure Fst(t:SetTable)(h:Int)(N:Nat):Prop where
 lt:N<10*turns t.mask
 emp:¬Occ t (P t.mask h N).j
 occ:∀m,m<N->Occ t (P t.mask h m).j
def least{p:Nat->Prop}:∀{n:Nat},p n->∃k,k<=n/\p k/\∀m,m<k->¬p m:=by
 intro n
 induction n using Nat.strongRecOn with
 |ind n ih =>
  intro h
  by_cases hc:∃m,m<n/\p m
  . obtain⟨m,l,hm⟩:=hc
    obtain⟨k,l2,a,b⟩:=ih m l hm;exact⟨k,e_ (c_ l2 l),a,b⟩
  . exact⟨n,bh _,h,λm l hm=>hc ⟨m,l,hm⟩⟩
def Yj.fst(k:Yj t es)(h:Int):∃N,Fst t h N:=by obtain⟨j,hj,e⟩:=al7 k.srt k.ful;obtain⟨n,ln,en⟩:=aso k.msk h j hj;obtain⟨N,l,a,b⟩:=least (p:=λn=>¬Occ t (P t.mask h n).j) (n:=n) (λ⟨i,c⟩=>e i (by rw[en] at c;exact c));exact⟨N,c_ l ln,a,λm hm=>Classical.not_not.mp (b m hm)⟩
theorem al8(k:Yj t es)(F:Fst t h N)(ha:Nat->Int):∀(fuel n:Nat),n<=N->N-n<fuel ->
 (probe.go t ha h fuel (P t.mask h n)=some (.empty (P t.mask h N).j none)/\∀m,n<=m->m<N->∀i:Nat,t.place[i]?=some (P t.mask h m).j->ha i≠h)
\/∃m i:Nat,n<=m/\m<N/\t.place[i]?=some (P t.mask h m).j/\ha i=h/\(∀q,n<=q->q<m->∀i:Nat,t.place[i]?=some (P t.mask h q).j->ha i≠h)
 /\probe.go t ha h fuel (P t.mask h n)=some (.candidate (P t.mask h m).j i (P t.mask h (m+1))):=by
 intro fuel
 induction fuel with
 |zero=>intro n _ l;omega
 |succ fuel ih =>
  intro n hn l;unfold probe.go
  by_cases e:n=N
  . subst e
    left
    rw[(afg k.srt k.dum).mpr (λi c=>F.emp ⟨i,c⟩)];simp only;rw[Z0];exact⟨rfl,λm a b=>by lia⟩
  . obtain⟨i,hi⟩:=F.occ n (by lia)
    rw[(Rz k.srt).mpr hi];simp only[ayq];have hnx:adv t.mask (P t.mask h n)=P t.mask h (n+1):=rfl;rw[hnx]
    by_cases hh:ha i=h
    . right
      refine⟨n,i,bh _,by lia,hi,hh,λq a b=>by lia,?_⟩;rw[cz (by simp[hh])]
    . rw[bw (by simp[hh])]
      have un:∀i':Nat,t.place[i']?=some (P t.mask h n).j->ha i'≠h:=λi' e'=>by have a:=below_at k.srt e';have b:=below_at k.srt hi;rw[<- a,b];exact hh
      rcases ih (n+1) (by lia) (by lia) with⟨a,b⟩|⟨m,i',a,b,c,d,e1,e2⟩
      . left
        refine⟨a,λm x y=>?_⟩
        by_cases q:m=n
        . subst q;exact un
        . exact b m (by lia) y
      . right
        refine⟨m,i',by lia,b,c,d,λq x y=>?_,e2⟩
        by_cases z:q=n
        . subst z;exact un
        . exact e1 q (by lia) y
def Yj.ahead(k:Yj t es)(F:Fst t h N){i:Nat}(he:es[i]?=some e)(hh:e.1=h):∃m,m<N/\t.place[i]?=some (P t.mask h m).j:=by
 have li:i<t.place.size:=by rw[k.Yk];exact(jk.mp he).1
 have hp:t.place[i]?=some t.place[i]:=by simp[li]
 obtain⟨n,a,b⟩:=k.rch i _ e hp he;subst hh;refine⟨n,?_,by rw[a];exact hp⟩;rcases Nat.lt_trichotomy n N with l|l|l
 . exact l
 . subst l;exact absurd ⟨i,by rw[a];exact hp⟩ F.emp
 . exact absurd (b N l) F.emp
def Z3(hs:Srt t.place)(q:Nat):Occ (t.put j).1 q↔q=j\/Occ t q:=by
 obtain⟨h1,h2,h3⟩:=Er (j:=j) hs;constructor
 . rintro⟨i,e⟩
   have e:(insertAt t.place (below t.place j) j)[i]?=some q:=e;rcases Ou (below t.place j) i with rfl|⟨i',rfl⟩
   . rw[Jv _ _ _ h1] at e;cases e;exact .inl rfl
   . rw[Qe _ _ _ h1] at e;exact .inr ⟨i',e⟩
 . rintro(rfl|⟨i,e⟩)
   . exact⟨_,Jv _ _ _ h1⟩
   . exact⟨up (below t.place j) i,(Qe _ _ _ h1 i).trans e⟩
theorem Yj.put(k:Yj t es)(F:Fst t h N)(room:t.place.size+1<=t.mask) :
 Yj (t.put (P t.mask h N).j).1 (insertAt es (t.put (P t.mask h N).j).2 (h,x)):=by
 obtain⟨h1,h2,h3⟩:=Er (j:=(P t.mask h N).j) k.srt;have h1':below t.place (P t.mask h N).j<=es.size:=by rw[<- k.Yk];exact h1
 refine⟨k.msk,?_,?_,?_,?_,?_,?_⟩
 . show(if has t.dummies _ then _ else t.dummies)=#[]
   rw[k.dum,Yi];rfl
 . show(insertAt t.place _ _).size=(insertAt es _ _).size
   rw[Ms,Ms,k.Yk]
 . exact asl k.srt (λi e=>F.emp ⟨i,e⟩)
 . intro i j e
   rcases(Z3 k.srt j).mp ⟨i,e⟩ with rfl|⟨i',e'⟩
   . exact bcd _ _ _
   . exact k.bnd i' j e'
 . show(insertAt t.place _ _).size<=t.mask
   rw[Ms];exact room
 . intro i j e hp he
   have hp:(insertAt t.place (below t.place (P t.mask h N).j) (P t.mask h N).j)[i]?=some j:=hp;have he:(insertAt es (below t.place (P t.mask h N).j) (h,x))[i]?=some e:=he;show ∃n,(P t.mask e.1 n).j=j/\∀m,m<n->Occ (t.put (P t.mask h N).j).1 (P t.mask e.1 m).j
   rcases Ou (below t.place (P t.mask h N).j) i with rfl|⟨i',rfl⟩
   . rw[Jv _ _ _ h1] at hp
     rw[Jv _ _ _ h1'] at he;cases hp;cases he;exact⟨N,rfl,λm l=>(Z3 k.srt _).mpr (.inr (F.occ m l))⟩
   . rw[Qe _ _ _ h1] at hp
     rw[Qe _ _ _ h1'] at he;obtain⟨n,a,b⟩:=k.rch i' j e hp he;exact⟨n,a,λm l=>(Z3 k.srt _).mpr (.inr (b m l))⟩
abbrev OcO(ow:Array (Option Nat))(j:Nat):Prop:=∃i,ow[j]?=some (some i)
structure Own(m:Nat)(ow:Array (Option Nat))(hs:Xs):Prop where
 Yk:ow.size=m+1
 cnt:ow.toList.countP Option.isSome=hs.length
 lt:∀(j i:Nat),ow[j]?=some (some i)->i<hs.length
 inj:∀(j j' i:Nat),ow[j]?=some (some i)->ow[j']?=some (some i)->j=j'
 at':∀(i:Nat) h,hs[i]?=some h->∃j n,ow[j]?=some (some i)/\(P m h n).j=j/\∀q,q<n->OcO ow (P m h q).j
def getD_none{ow:Array (Option Nat)}(hz:ow.size=m+1)(h:(ow.getD j (some 0)).isNone=true):ow[j]?=some none:=by
 by_cases l:j<ow.size
 . simp[Array.getD,l] at h;simp[l,h]
 . simp[Array.getD,l] at h
def getD_some(hz:ow.size=m+1)(hj:j<=m)(h:¬(ow.getD j (some 0)).isNone=true):OcO ow j:=by
 have l:j<ow.size:=by lia
 simp[Array.getD,l] at h;unfold OcO;rw[show ow[j]?=some ow[j] by simp[l]];cases e:ow[j] with
 |none=>exact absurd e h|some i=>exact⟨i,rfl⟩
def ajn(hz:ow.size=m+1)(h:Int):∀(fuel T n:Nat),P m h n=beg m (I m h T) (bits h / 32 ^ T)->(∀q,q<n->OcO ow (P m h q).j) ->
 (∃k,k<fuel/\ow[I m h (T+k)]?=some none)->∃j n',layClean.free m ow fuel (I m h T) (bits h / 32 ^ T)=some j/\(P m h n').j=j/\ow[j]?=some none/\∀q,q<n'->OcO ow (P m h q).j:=by
 intro fuel
 induction fuel with
 |zero=>rintro T n _ _ ⟨k,l,_⟩;lia
 |succ fuel ih =>
  rintro T n e hq ⟨k,lk,ek⟩;have hI:=a5i m h T;obtain⟨r1,r2⟩:=R8 hI;unfold layClean.free;cases hf:(List.range (runEnd m (I m h T)+1-I m h T)).find? λk=>(ow.getD (I m h T+k) (some 0)).isNone with
  |some c =>
   obtain⟨a,b,d⟩:=List.find?_range_eq_some.mp hf;have b:=je.mp b;refine⟨_,n+c,rfl,by rw[ab8 e c (by omega)],getD_none hz a,λq l=>?_⟩
   by_cases hn:q<n
   . exact hq q hn
   . obtain⟨c',rfl⟩:∃c',q=n+c':=⟨q-n,by lia⟩
     rw[ab8 e c' (by lia)];show OcO ow (I m h T+c');exact getD_some hz (by lia) (λhh=>by
      have:=d c' (by lia);simp only[hh] at this;cases this)
  |none =>
   have Dr:=List.find?_eq_none.mp hf;have occ:∀c,c<=runEnd m (I m h T)-I m h T->OcO ow (I m h T+c):=λc hc=>getD_some hz (by lia) (Dr c (je.mpr (by lia)))
   cases k with
   |zero =>
    obtain⟨i,ei⟩:=occ 0 (ju _);rw[Nat.add_zero] at ek ei;rw[ek] at ei;cases ei
   |succ k =>
    have pe:bits h / 32 ^ T / 32=bits h / 32 ^ (T+1):=by rw[Nat.div_div_eq_div_mul,<- Nat.pow_succ]
    have:=ih (T+1) (n+(runEnd m (I m h T)-I m h T)+1) (by rw[al4 e,pe];rfl) (λq l=>?_) ⟨k,by lia,by rw[show T+1+k=T+(k+1) by lia];exact ek⟩
    . obtain⟨j,n',e1,e2⟩:=this
      refine⟨j,n',?_,e2⟩;rw[<- e1];show layClean.free m ow fuel ((I m h T*5+1+bits h / 32 ^ T / 32)%(m+1)) (bits h / 32 ^ T / 32)=_;rw[pe];rfl
    . by_cases hn:q<n
      . exact hq q hn
      . obtain⟨c',rfl⟩:∃c',q=n+c':=⟨q-n,by lia⟩
        rw[ab8 e c' (by lia)];show OcO ow (I m h T+c');exact occ c' (by lia)
def Own.room(k:Own m ow hs)(h:hs.length<=m):∃j,j<=m/\ow[j]?=some none:=by
 apply yg;intro hn;have:ow.toList.countP Option.isSome=ow.toList.length:=List.countP_eq_length.mpr λa ha=>by
  obtain⟨j,hj,e⟩:=qp ha;cases a with
  |some i=>rfl
  |none =>
   have hj':j<ow.size:=by simpa using hj
   refine absurd ⟨j,by have:=k.Yk;exact z_ (b_ hj' (f_ this)),?_⟩ hn;rw[<- p8,cj hj,e]
 rw[k.cnt] at this;have:=k.Yk;simp at *
 lia
theorem Own.free(hm:Msk m)(k:Own m ow hs)(hl:hs.length<=m)(h:Int):∃j n',layClean.free m ow (turns m) (bits h%(m+1)) (bits h)=some j/\(P m h n').j=j/\ow[j]?=some none/\∀q,q<n'->OcO ow (P m h q).j:=by obtain⟨j,hj,e⟩:=k.room hl;obtain⟨T,lT,eT⟩:=cover hm h j hj;have:=ajn k.Yk h (turns m) 0 0 (by simp[P,I]) (λq l=>by lia) ⟨T,by unfold turns;lia,by rw[ux,eT];exact e⟩;simpa[I] using this
def Own.lay(k:Own m ow hs)(e1:(P m h n').j=j)(e2:ow[j]?=some none)(e3:∀q,q<n'->OcO ow (P m h q).j) :
 Own m (ow.setIfInBounds j (some hs.length)) (hs++[h]):=by
 have lj:j<ow.size:=(jk.mp e2).1
 have get:∀q:Nat,(ow.setIfInBounds j (some hs.length))[q]?=if j=q then some (some hs.length) else ow[q]?:=λq=>by rw[Array.getElem?_setIfInBounds];split<;>simp_all
 have occ:∀q,OcO ow q->OcO (ow.setIfInBounds j (some hs.length)) q:=λq ⟨i,e⟩=>by refine⟨i,?_⟩;rw[get,bw (λh=>by subst h;rw[e2] at e;cases e)];exact e
 refine⟨by simp[k.Yk],?_,λq i e=>?_,λq q' i e e'=>?_,λi h' e=>?_⟩
 . rw[Array.toList_setIfInBounds,List.countP_set (by simpa using lj),k.cnt]
   have:ow.toList[j]'(by simpa using lj)=none:=by have:=(jk.mp e2).2;simpa using this
   rw[this];simp
 . rw[get] at e
   split at e
   . cases e;simp
   . have:=k.lt q i e;simp;exact A_ (e_ this)
 . rw[get] at e e'
   split at e<;>split at e'
   . lia
   . cases e;have:=k.lt _ _ e';lia
   . cases e';have:=k.lt _ _ e;lia
   . exact k.inj q q' i e e'
 . by_cases l:i<hs.length
   . rw[dj l] at e
     obtain⟨j',n,a,b,c⟩:=k.at' i h' e;refine⟨j',n,?_,b,λq l=>occ _ (c q l)⟩;rw[get,bw (λh=>by subst h;rw[e2] at a;cases a)];exact a
   . have hi:i=hs.length:=by
      have:=(ak.mp e).1;simp at this;exact u_ (z_ this) (s_ l)
     subst hi;simp at e;subst e;exact⟨j,n',by rw[get,cz rfl],e1,λq l=>occ _ (e3 q l)⟩
theorem ag4{m:Nat}(hm:Msk m):∀(rest hs:Xs)(ow:Array (Option Nat)),Own m ow hs->hs.length+rest.length<=m+1 ->
 ∃ow',rest.foldl (λacc h=>do
  let (owner,k) <- acc
  let j <- layClean.free m owner (turns m) (bits h%(m+1)) (bits h)
  pure (owner.setIfInBounds j (some k),k+1)) (some (ow,hs.length))=some (ow',hs.length+rest.length)/\Own m ow' (hs++rest)
 |[],hs,ow,k,_=>⟨ow,rfl,by simpa using k⟩
 |h::rest,hs,ow,k,l=>by
  obtain⟨j,n',e0,e1,e2,e3⟩:=k.free hm (by simp at l;lia) h;have k':=k.lay e1 e2 e3;obtain⟨ow',a,b⟩:=ag4 hm rest (hs++[h]) _ k' (by simp at l ⊢;lia);refine⟨ow',?_,by simpa using b⟩;rw[Bg];have:(do
   let (owner,k) <- some (ow,hs.length)
   let j <- layClean.free m owner (turns m) (bits h%(m+1)) (bits h)
   pure (owner.setIfInBounds j (some k),k+1))=some (ow.setIfInBounds j (some hs.length),(hs++[h]).length):=by
   show(layClean.free m ow (turns m) (bits h%(m+1)) (bits h) >>= _)=_;rw[e0];simp
  rw[this,a]
  simp;lia
def al9(hm:Msk m)(hs:Array Int)(l:hs.size<=m+1):∃ow,layClean m hs=some ow/\Own m ow hs.toList:=by have k0:Own m (Array.replicate (m+1) none) []:=⟨by simp,by simp,λj i e=>by simp[Array.getElem?_replicate] at e,λj j' i e=>by simp[Array.getElem?_replicate] at e,λi h e=>by simp at e⟩;obtain⟨ow,a,b⟩:=ag4 hm hs.toList [] _ k0 (by simpa using l);refine⟨ow,?_,by simpa using b⟩;unfold layClean;rw[<- Array.foldl_toList];exact(qz (Option.map (·.1)) a).trans rfl
noncomputable def lv(m:Nat)(ow:Array (Option Nat)):List (Nat×Nat):=(List.range (m+1)).filterMap λj=>(ow.getD j none).map (j,·)
def Qf(k:Own m ow hs):(j,i)∈lv m ow↔ow[j]?=some (some i):=by
 unfold lv;rw[List.mem_filterMap];constructor
 . rintro⟨q,a,b⟩
   obtain⟨i',e1,e2⟩:=bx.mp b;cases e2;have:j<ow.size:=by rw[k.Yk];exact je.mp a
   simp[Array.getD,this] at e1;simp[this,e1]
 . intro e
   have l:=(jk.mp e).1;refine⟨j,je.mpr (by rw[<- k.Yk];exact l),?_⟩;have:ow.getD j none=some i:=by simp[Array.getD,l,(jk.mp e).2]
   rw[this];rfl
def ama(m:Nat)(ow:Array (Option Nat)):(lv m ow).Pairwise λa b=>a.1<b.1:=by unfold lv;refine List.Pairwise.filterMap _ (λa a' Ir b hb b' hb'=>?_) List.pairwise_lt_range;obtain⟨_,_,rfl⟩:=bx.mp hb;obtain⟨_,_,rfl⟩:=bx.mp hb';exact Ir
def asp(k:Own m ow hs):((lv m ow).map (·.2)).Perm (List.range hs.length):=by
 refine(List.perm_ext_iff_of_nodup ?_ List.nodup_range).mpr λi=>?_
 . rw[m9,Ah]
   refine(ama m ow).imp_of_mem fun{a b} ha hb Ir e=>?_
   have:=k.inj a.1 b.1 a.2 ((Qf k).mp ha) (by rw[e];exact(Qf k).mp hb);exact l_ Ir (g_ this)
 . rw[bf,je]
   constructor
   . rintro⟨a,ha,rfl⟩;exact k.lt _ _ ((Qf k).mp ha)
   . intro l
     obtain⟨j,n,a,_⟩:=k.at' i _ (cj l);exact⟨(j,i),(Qf k).mpr a,rfl⟩
theorem amb{α β:Type}{g:α->Option β}:∀{l:List α},(∀x∈l,(g x).isSome=true)->∀q:Nat,(l.filterMap g)[q]?=l[q]?.bind g
 |[],_,q=>by simp
 |x::l,h,q=>by
  have hx:=h x (di ..);obtain⟨y,e⟩:=m7.mp hx;rw[List.filterMap_cons_some e];cases q with
  |zero=>simp[e]|succ q=>simpa using amb (λx hx=>h x (bc _ hx)) q
def ag5(hm:Msk m)(fg mv:Nat)(ld pl:Bool)(es:Array (Int×Value))(l:es.size<=m) :
 ∃t order,laid m fg mv ld pl (es.map (·.1))=some (t,order)/\t.mask=m/\Yj t (order.filterMap (es[·]?))/\(order.filterMap (es[·]?)).toList.Perm es.toList/\(order.filterMap (es[·]?)).size=es.size
 /\t.led=ld/\t.plain=pl/\t.finger=fg/\order.toList.Perm (List.range es.size):=by
 obtain⟨ow,e,k⟩:=al9 hm (es.map (·.1)) (by simp;exact a_ l x_);have Yl:=asp k;simp at Yl;have hlen:(lv m ow).length=es.size:=by have:=Yl.length_eq;simpa using this
 have hsz:((((lv m ow).map (·.2)).toArray).filterMap (es[·]?)).size=es.size:=by have:=(Yl.filterMap (es[·]?)).length_eq;rw[filterMap_getElem?_range] at this;rw[<- vh,Array.toList_filterMap,this];simp
 refine⟨{ mask:=m,place:=((lv m ow).map (·.1)).toArray,dummies:=#[],finger:=fg,led:=ld,moves:=mv,plain:=pl },((lv m ow).map (·.2)).toArray,?_,rfl,?_,?_,?_,rfl,rfl,rfl,Yl⟩
 . unfold laid;rw[e];rfl
 . have a5l:∀x∈(lv m ow).map (·.2),(es[x]?).isSome=true:=λx hx=>by
    have:=je.mp (Yl.mem_iff.mp hx)
    simp;exact this
   have get:∀q:Nat,((((lv m ow).map (·.2)).toArray).filterMap (es[·]?))[q]?=((lv m ow)[q]?).bind λa=>es[a.2]?:=λq=>by rw[<- p8,Array.toList_filterMap,amb a5l,gr];cases(lv m ow)[q]?<;>rfl
   have plc:∀q j:Nat,(((lv m ow).map (·.1)).toArray)[q]?=some j↔∃i,(lv m ow)[q]?=some (j,i):=λq j=>by
    simp only[List.getElem?_toArray,gr,bx];constructor
    . rintro⟨a,h,rfl⟩;exact⟨a.2,h⟩
    . rintro⟨i,h⟩;exact⟨_,h,rfl⟩
   refine⟨hm,rfl,?_,?_,?_,?_,?_⟩
   . show(((lv m ow).map (·.1)).toArray).size=_
     rw[hsz];simp[hlen]
   . intro i j a b ea eb lt
     obtain⟨i1,e1⟩:=(plc i a).mp ea;obtain⟨i2,e2⟩:=(plc j b).mp eb;obtain⟨l1,g1⟩:=ak.mp e1;obtain⟨l2,g2⟩:=ak.mp e2;have:=List.pairwise_iff_getElem.mp (ama m ow) i j l1 l2 lt;rw[g1,g2] at this;exact this
   . intro i j e
     obtain⟨i1,e1⟩:=(plc i j).mp e;have:=(Qf k).mp (ao e1);have:=(jk.mp this).1;rw[k.Yk] at this;show j<=m
     exact z_ this
   . show(((lv m ow).map (·.1)).toArray).size<=m
     simp[hlen];exact l
   . intro q j e' hp he
     obtain⟨i,e1⟩:=(plc q j).mp hp;rw[get,e1] at he;have he:es[i]?=some e':=he;obtain⟨j',n,a,b,c⟩:=k.at' i e'.1 (by simp[he]);have hj:=k.inj j j' i ((Qf k).mp (ao e1)) a;subst hj;refine⟨n,b,λw lw=>?_⟩;obtain⟨i',ei'⟩:=c w lw;obtain⟨z,hz⟩:=v9.mp ((Qf k).mpr ei');exact⟨z,(plc z _).mpr ⟨i',hz⟩⟩
 . rw[Array.toList_filterMap]
   have:=Yl.filterMap (es[·]?);rw[filterMap_getElem?_range] at this;exact this
 . exact hsz
def Ym:∀n,n<32->Msk (sizeAbove (grown n)-1)/\n<=sizeAbove (grown n)-1/\n+1<=sizeAbove (grown n)-1/\¬(n*5 >= (sizeAbove (grown n)-1)*3)/\sizeAbove (grown n)<=128:=by unfold Msk;decide+kernel
def amc:∀n,n<64->Msk (sizeAbove (n*2)-1)/\n<=sizeAbove (n*2)-1/\¬(n*5 >= (sizeAbove (n*2)-1)*3)/\sizeAbove (n*2)<=128:=by unfold Msk;decide+kernel
section
variable{prog:Program}{w:World}{K:Type}[DecidableEq K]{knd:KeyKind prog w K}{A:Around}{E:Y1}{s:Shared}
def afi(n:Nat)(h:carriedByValue v=true):ofAClassStatement n v=pure false:=by cases v<;>first|(simp[carriedByValue] at h;done)|(unfold ofAClassStatement;rfl)
def Vn(hk:IsTupleKey knd s.heap ks a)(h:Q false s):wpAny (model prog w) A (ofAClassStatement 8 (.ref a)) Q E s:=by
 have hT:=hk.typeIs;obtain⟨o,items,n,ho,_,hd,hi⟩:=hk;unfold ofAClassStatement;refine aa (uv hT ?_);show wpAny _ _ (if("tuple"=="tuple")=true then _ else _) _ _ s;rw[cz (by decide)];refine aa (aj ?_);simp only[q9,cu,ji];refine aa (t8 ho hd ?_);refine aa ?_;show wpAny _ _ (forIn items _ _) _ _ s;rw[<- Array.forIn_toList];refine ql _ (λrest r s'=>r.1=none/\s'=s/\∀v∈rest,carriedByValue v=true) _ ?_ ?_ _ _ ⟨rfl,rfl,hi.byValue⟩
 . rintro v rest r s' ⟨hr,rfl,Dr⟩
   rw[afi _ (Dr v di)];refine aa (aj ?_);simp only[cu,ji];exact aj ⟨rfl,rfl,λu hu'=>Dr u (bc _ hu')⟩
 . rintro⟨r1,r2⟩ s' ⟨hr,rfl,_⟩
   simp only at hr;subst hr;exact aj h
def amd(hk:IsTupleKey knd s.heap ks a)(hs:∀v∈st,∃ks b,v=.ref b/\IsTupleKey knd s.heap ks b)(h:Q false s) :
 wpAny (model prog w) A (searchCouldBeSeen (.ref a) st) Q E s:=by
 unfold searchCouldBeSeen;refine aa ?_;refine ql _ (λrest r s'=>r.1=none/\s'=s/\∀v∈rest,∃ks b,v=.ref b/\IsTupleKey knd s.heap ks b) _ ?_ ?_ _ _ ⟨rfl,rfl,hs⟩
 . rintro v rest r s' ⟨hr,rfl,Dr⟩
   obtain⟨ks',b,rfl,hb⟩:=Dr v di;have axl:∀v∈rest,∃ks b,v=.ref b/\IsTupleKey knd s'.heap ks b:=λv hv=>Dr v (bc _ hv)
   dsimp only;split
   . exact aj ⟨rfl,rfl,axl⟩
   . refine aa (wpAny_eqIsQuiet_tuple hk ?_)
     simp only[q9,cu,ji];refine aa (wpAny_eqIsQuiet_tuple hb ?_);simp only[q9,cu,ji];refine aa (Vn hk ?_);simp only[cu,ji];refine aa (Vn hb ?_);simp only[cu,ji];exact aj ⟨rfl,rfl,axl⟩
 . rintro⟨r1,r2⟩ s' ⟨hr,rfl,_⟩
   simp only at hr;subst hr;exact aj h
noncomputable def ent(knd:KeyKind prog w K)(x:List K×Addr):Int×Value:=(tupleKeyHash knd x.1,.ref x.2)
def afj{es:Array (Int×Value)}{xs:List (List K×Addr)}(he:es.toList=xs.map (ent knd))(j:Nat):es[j]?=(xs[j]?).map (ent knd):=by rw[<- p8,he,gr]
def ajo{xs:List (List K×Addr)}(hu:A.units<cLine)(hk:IsTupleKey knd s.heap k p)(ho:s.heap.get? a=some o)(hd:o.data=.set es ep t)(T:Yj t es)(he:es.toList=xs.map (ent knd))(hx:∀x∈xs,IsTupleKey knd s.heap x.1 x.2)(hn:(xs.map (·.1)).Nodup)(F:Fst t (tupleKeyHash knd k) N)(Xr:∀(i:Nat) x,xs[i]?=some x->x.1=k->Q (.there (if adding then none else some i)) s)(ayw:(∀x∈xs,x.1≠k)->Q (.free (P t.mask (tupleKeyHash knd k) N).j false) s) :
 ∀(fuel n:Nat)(st:Option Probe),n<=N->N-n<fuel->st.getD (t.probeStart (tupleKeyHash knd k))=P t.mask (tupleKeyHash knd k) n ->
  (∀m,m<n->∀(i:Nat) x,t.place[i]?=some (P t.mask (tupleKeyHash knd k) m).j->xs[i]?=some x->x.1≠k) ->
  wpAny (model prog w) A (setSearchFrom a (.ref p) (tupleKeyHash knd k) adding fuel st) Q E s:=by
 intro fuel
 induction fuel with
 |zero=>intro n st _ l;omega
 |succ fuel ih =>
  intro n st hnN l Xu a5n;unfold setSearchFrom;refine aa (jq ho hd T.fits ?_);dsimp only;rw[T.way,Xu];simp only[cu,ji];have key:=al8 T F (λi=>(es[i]?.map (·.1)).getD 0) (10*turns t.mask) n hnN (by have:=F.lt;exact c_ C_ this);generalize hpr:t.probe _ (tupleKeyHash knd k) (P t.mask (tupleKeyHash knd k) n)=pr;have hpr:t.probe (λi=>(es[i]?.map (·.1)).getD 0) (tupleKeyHash knd k) (P t.mask (tupleKeyHash knd k) n)=pr:=hpr;have atI:∀(i j:Nat),t.place[i]?=some j->∃x,xs[i]?=some x/\es[i]?=some (ent knd x):=λi j e=>by
   have li:i<es.size:=by rw[<- T.Yk];exact(jk.mp e).1
   have lx:i<xs.length:=by have:=qz List.length he;simp at this;exact b_ li (f_ this)
   refine⟨xs[i],by simp[lx],?_⟩;rw[afj he];simp[lx]
  rcases key with⟨e,hno⟩|⟨m,i,h1,h2,h3,h4,h5,e⟩
  . have e:pr=_:=hpr.symm.trans e
    subst e;dsimp only;refine aj (ayw λx hxm hxk=>?_);obtain⟨i,hi⟩:=v9.mp hxm;have hei:es[i]?=some (ent knd x):=by rw[afj he,hi];rfl
    obtain⟨m,lm,hp⟩:=T.ahead F hei (by unfold ent;rw[hxk])
    by_cases hmn:m<n
    . exact a5n m hmn i x hp hi hxk
    . refine hno m (s_ hmn) lm i hp ?_
      rw[hei];show tupleKeyHash knd x.1=_;rw[hxk]
  . have e:pr=_:=hpr.symm.trans e
    subst e;dsimp only;obtain⟨x,hxi,hei⟩:=atI i _ h3;have hkx:=hx x (ao hxi);have seen:∀{R:Bool->Shared->Prop},R false s->wpAny (model prog w) A (searchCouldBeSeen (.ref p) ((es.filter (·.1==tupleKeyHash knd k)).toList.map (·.2))) R E s:=λhR=>amd hk (λv hv=>by
     obtain⟨y,hy,rfl⟩:=bf.mp hv;have hy':y∈es.toList:=by simp at hy;simpa using hy.1
     rw[he] at hy';obtain⟨z,hz,rfl⟩:=bf.mp hy';exact⟨z.1,z.2,rfl,hx z hz⟩) hR
    rcases Bool.eq_false_or_eq_true t.led with a5o|a5o
    all_goals
     simp only[a5o,q9,yx,cu,ji,jx]
     first
     |(rw[hei];show wpAny _ _ (holding [.ref x.2] (eqBool (.ref x.2) (.ref p)) >>= _) _ _ _)
     |(refine aa (seen ?_);simp only[cu,ji];rw[hei];show wpAny _ _ (holding [.ref x.2] (eqBool (.ref x.2) (.ref p)) >>= _) _ _ _)
     refine aa (jo (wpAny_eqBool_tuple hu hkx hk ?_));refine aa (jq ho hd T.fits ?_);dsimp only;have hsm:t.sameMemory t.moves t.mask=some true:=by unfold sameMemory;simp
     rw[hsm];dsimp only;rw[cz rfl,(Rz T.srt).mpr h3];dsimp only;rw[hei]
     by_cases hxk:x.1=k
     . have hd1:decide (x.1=k)=true:=by simp[hxk]
       rw[hd1];have hq:=Xr i x hxi hxk;cases adding
       . simp only[Bool.false_and,cu,ji]
         refine aa (wpAny_isSame_ref_self ?_);refine aa (aj ?_);simpa using aj hq
       . simp only[Bool.and_self,jx]
         exact aj hq
     . have hd1:decide (x.1=k)=false:=by simp[hxk]
       rw[hd1];simp only[Bool.and_false,cu,ji];refine aa (wpAny_isSame_ref_self ?_);refine aa (aj ?_);simp only[jx];refine ih (m+1) _ h2 (by lia) rfl λm' hm' i' x' hp' asr=>?_
       by_cases hc:m'<n
       . exact a5n m' hc i' x' hp' asr
       . by_cases hm:m'=m
         . subst hm
           have ei:i'=i:=by rw[<- below_at T.srt hp',<- below_at T.srt h3]
           subst ei;rw[hxi] at asr;cases asr;exact hxk
         . intro bci
           have bck:es[i']?=some (ent knd x'):=by rw[afj he,asr];rfl
           refine h5 m' (s_ hc) (by lia) i' hp' ?_;rw[bck];show tupleKeyHash knd x'.1=_;rw[bci]
end
section
variable{prog:Program}{w:World}{K:Type}[DecidableEq K]{knd:KeyKind prog w K}{pk:List K×Addr->Prop}{A:Around}{E:Y1}{s:Shared}
noncomputable abbrev bt(w:World):Bool:=w.params.followText "set-order"
def Va(h:Q (bt w) s):wpAny (model prog w) A setsByText Q E s:=by unfold setsByText;exact aa (wpAny_askSetting (aj h))
def R9(knd:KeyKind prog w K)(pk:List K×Addr->Prop):Prop:=∀x,pk x->∀k∈x.1,∀v n,knd.is k v=true->hashByValue n v=pure true
theorem Tv:∀{ks:List K}{vs:Zl},ItemsAre knd ks vs->(∀k∈ks,∀v n,knd.is k v=true->hashByValue n v=pure true)->∀v∈vs,∀n,hashByValue n v=pure true
 |_,_,.nil,_,v,h=>by simp at h
 |_,_,.cons h t,hp,v,hv=>by
  rcases bz.mp hv with rfl|hv
  . exact λn=>hp _ di _ n h
  . exact Tv t (λk hk=>hp k (bc _ hk)) v hv
def afk(hpk:R9 knd pk)(hk:IsTupleKey knd s.heap ks a)(hp:pk (ks,a))(h:Q true s):wpAny (model prog w) A (hashByValue 8 (.ref a)) Q E s:=by
 have hT:=hk.typeIs;obtain⟨o,items,n,ho,_,hd,hi⟩:=hk;unfold hashByValue;refine aa (wpAny_specialOf hT F.slot_tuple_hash.lookup ?_);dsimp only;refine aa (t8 ho hd ?_);refine aa ?_;show wpAny _ _ (forIn items _ _) _ _ s;rw[<- Array.forIn_toList];refine ql _ (λrest r s'=>r.1=none/\s'=s/\∀v∈rest,∀n,hashByValue n v=pure true) _ ?_ ?_ _ _ ⟨rfl,rfl,Tv hi (hpk _ hp)⟩
 . rintro v rest r s' ⟨hr,rfl,Dr⟩
   rw[Dr v di];refine aa (aj ?_);simp only[q9,cu,ji];exact aj ⟨rfl,rfl,λu hu'=>Dr u (bc _ hu')⟩
 . rintro⟨r1,r2⟩ s' ⟨hr,rfl,_⟩
   simp only at hr;subst hr;exact aj h
structure Sd(knd:KeyKind prog w K)(pk:List K×Addr->Prop)(h:Heap)(a:Addr)(xs:List (List K×Addr))(o:Obj)(es:Array (Int×Value))(ep:Nat)(t:SetTable):Prop where
 get:h.get? a=some o
 exa:o.ExactSet
 dat:o.data=.set es ep t
 tab:Yj t es
 ent:es.toList=xs.map (ent knd)
 keys:∀x∈xs,IsTupleKey knd h x.1 x.2/\pk x
 nod:(xs.map (·.1)).Nodup
 led:t.led=!bt w
 pla:t.plain=true
def Dg(knd:KeyKind prog w K)(pk:List K×Addr->Prop)(h:Heap)(a:Addr)(S:List K->Prop)(n:Nat):Prop:=∃xs o es ep t,Sd knd pk h a xs o es ep t/\(∀k,S k↔k∈xs.map (·.1))/\xs.length=n/\t.place.size*5<t.mask*3
theorem Sd.size(X:Sd knd pk h a xs o es ep t):es.size=xs.length:=by have:=qz List.length X.ent;simpa using this
def ame(p:Addr)(es:Array (Int×Value)):byScan (.ref p) es=false:=by unfold byScan;simp[Value.scannable]
def amf(h:Msk m):10*turns m<100000:=by rcases h with rfl|rfl|rfl|rfl|rfl<;>decide
def Vo(hu:A.units<cLine)(hk:IsTupleKey knd s.heap k p)(X:Sd knd pk s.heap a xs o es ep t)(F:Fst t (tupleKeyHash knd k) N)(Xr:∀(i:Nat) x,xs[i]?=some x->x.1=k->Q (.there (if adding then none else some i)) s)(ayw:(∀x∈xs,x.1≠k)->Q (.free (P t.mask (tupleKeyHash knd k) N).j false) s) :
 wpAny (model prog w) A (setSearch a (.ref p) (tupleKeyHash knd k) adding) Q E s:=by
 unfold setSearch;exact ajo hu hk X.get X.dat X.tab X.ent (λx hx=>(X.keys x hx).1) X.nod F Xr ayw 100000 0 none (ju _) (by have:=F.lt;have:=amf X.tab.msk;lia) (ab7 _ _) (λm l=>by lia)
def asu(hu:A.units<cLine)(hk:IsTupleKey knd s.heap k p)(hS:Dg knd pk s.heap a S n)(h:∀r:Option Nat,(r.isSome=true↔S k)->Q r s):wpAny (model prog w) A (setFind a (.ref p) (tupleKeyHash knd k)) Q E s:=by
 obtain⟨xs,o,es,ep,t,X,hm,_,_⟩:=hS;obtain⟨N,F⟩:=X.tab.fst (tupleKeyHash knd k);unfold setFind setFindIn;refine aa (jq X.get X.dat X.tab.fits ?_);dsimp only;rw[ame];simp only[cu,ji];refine aa (Vo hu hk X F (λi x hi hx=>?_) (λhno=>?_))
 . simp only[cu,ji]
   exact aj (h _ (by simp;exact(hm k).mpr (bf.mpr ⟨x,ao hi,hx⟩)))
 . dsimp only
   refine aj (h _ ?_);simp only[Option.isSome_none,cu,false_iff];intro hs;obtain⟨x,hx,e⟩:=bf.mp ((hm k).mp hs);exact hno x hx e
end
def Dt{α β:Type}{f:α->β}:∀{l l':List β},l.Perm l'->∀{xs:List α},l'=xs.map f->∃xs':List α,l=xs'.map f/\xs'.Perm xs:=by
 intro l l' p
 induction p with
 |nil=>intro xs e;cases xs with
  |nil=>exact⟨[],rfl,.nil⟩|cons _ _=>cases e
 |cons a p ih =>
  intro xs e;cases xs with
  |nil=>cases e
  |cons x xs =>
   simp only[gq,List.cons.injEq] at e;obtain⟨xs',e1,p1⟩:=ih e.2;exact⟨x::xs',by simp[e1,e.1],p1.cons x⟩
 |swap a b l =>
  intro xs e
  match xs,e with
  |x::y::xs,e =>
   simp only[gq,List.cons.injEq] at e;obtain⟨rfl,rfl,rfl⟩:=e;exact⟨y::x::xs,rfl,.swap x y xs⟩
 |trans p q ih1 ih2 =>
  intro xs e;obtain⟨ys,e1,p1⟩:=ih2 e;obtain⟨zs,e2,p2⟩:=ih1 e1;exact⟨zs,e2,p2.trans p1⟩
section
variable{prog:Program}{w:World}{K:Type}[DecidableEq K]{knd:KeyKind prog w K}{pk:List K×Addr->Prop}{A:Around}{E:Y1}{s:Shared}
def amg(x:IsTupleKey knd h ks p)(ho:h.get? a=some o)(hd:o.data=.set es ep t)(hs:Heap.SameBut a h h'):IsTupleKey knd h' ks p:=by
 obtain⟨o',items,n,ho',hc,hd',hi⟩:=x;have Tw:p≠a:=by rintro rfl;obtain rfl:o'=o:=jn (ho'.symm.trans ho);rw[hd] at hd';exact nomatch hd'
 exact⟨o',items,n,(hs.2 p Tw).trans ho',hc,hd',hi⟩
def newX(X:Sd knd pk h a xs o es ep t)(T':Yj t' es')(he:es'.toList=xs'.map (ent knd))(hk:∀x∈xs',IsTupleKey knd h x.1 x.2/\pk x)(hn:(xs'.map (·.1)).Nodup)(hl:t'.led=!bt w)(hp:t'.plain=true) :
 Sd knd pk (h.update a (Obj.putSet es' t')) a xs' { o with data:=.set es' (ep+1) t' } es' (ep+1) t':=by
 have hg:(h.update a (Obj.putSet es' t')).get? a=some { o with data:=.set es' (ep+1) t' }:=by have:=m5 (Obj.putSet es' t') X.get (by rw[putSet_of es' t' X.dat];rfl);rw[putSet_of es' t' X.dat] at this;exact this
 exact⟨hg,X.exa,rfl,T',he,λx hx=>⟨amg (hk x hx).1 X.get X.dat (jy h a _),(hk x hx).2⟩,hn,hl,hp⟩
def Jw(h:n<=128):n<=sizeLine:=by rw[qy];exact a_ h (by decide)
def acb(X:Sd knd pk s.heap a xs o es ep t)(hm:Msk (sizeAbove wanted-1))(hz:es.size<=sizeAbove wanted-1)(hb:sizeAbove wanted<=128)(h:∀h' xs' o' es' ep' t',Heap.SameBut a s.heap h'->Sd knd pk h' a xs' o' es' ep' t'->xs'.Perm xs->t'.mask=sizeAbove wanted-1->t'.place.size=es.size->Q () { s with heap:=h' }) :
 wpAny (model prog w) A (setRelay a wanted) Q E s:=by
 obtain⟨t',order,e,e1,T',p,sz,hl,hp,_⟩:=ag5 hm t.finger (t.movedTo (sizeAbove wanted-1)) t.led t.plain es hz;unfold setRelay;refine aa (jq X.get X.dat X.tab.fits ?_);dsimp only;rw[bw (by have:=Jw hb;exact j_ this)];have er:t.relaid (es.map (·.1)) wanted=some (t',order):=e;rw[er];refine aa ?_;have hif:wpAny (model prog w) A (if((order.filterMap (es[·]?)).size != es.size)=true then(do unsupported "internal:set-table-lost-an-element";pure (order.filterMap (es[·]?),t')) else pure (order.filterMap (es[·]?),t'))
  (λr s'=>wpAny (model prog w) A (storeSet a r.1 r.2) Q E s') E s:=by
  rw[bw (by simp[sz])];refine aj ?_;obtain⟨xs',ex,px⟩:=Dt p X.ent;have hX:=newX X T' ex (λx hx=>X.keys x (px.mem_iff.mp hx)) ((px.map _).nodup_iff.mpr X.nod) (hl.trans X.led) (hp.trans X.pla);refine wpAny_storeSet_of X.get X.dat (h _ _ _ _ _ _ (jy s.heap a _) hX px e1 (by rw[T'.Yk,sz])) (Jw (by rw[sz];exact a_ hz (a_ C_ hb)))
 exact hif
def Z4(hpk:R9 knd pk)(hu:A.units<cLine)(hk:IsTupleKey knd s.heap k p)(hp:pk (k,p))(hS:Dg knd pk s.heap a S n)(hn:n+1<32)(h:∀h' n' b,Heap.SameBut a s.heap h'->Dg knd pk h' a (λk'=>S k'\/k'=k) n'->n'<=n+1->Q b { s with heap:=h' }) :
 wpAny (model prog w) A (setAddHashed a (.ref p) (tupleKeyHash knd k)) Q E s:=by
 obtain⟨xs,o,es,ep,t,X,hm,hl,nf⟩:=hS;obtain⟨N,F⟩:=X.tab.fst (tupleKeyHash knd k);have hsz:=X.size;unfold setAddHashed setAddHashedIn;refine jo (aa (jq X.get X.dat X.tab.fits ?_));dsimp only;rw[ame];simp only[cu,ji];refine aa (Vo hu hk X F (λi x hi hx=>?_) (λhno=>?_))
 . dsimp only
   refine aj ?_;have hSk:S k:=(hm k).mpr (bf.mpr ⟨x,ao hi,hx⟩);have:=h s.heap n false (Heap.SameBut.refl a s.heap) ⟨xs,o,es,ep,t,X,λk'=>by
    rw[<- hm k'];exact⟨λh=>h.elim id (λe=>e▸hSk),.inl⟩,hl,nf⟩ x_
   exact this
 . dsimp only
   refine aa (jq X.get X.dat X.tab.fits ?_);dsimp only;have room:t.place.size+1<=t.mask:=by have:=X.tab.msk;rcases this with e|e|e|e|e<;>lia
   have T':=X.tab.put (x:=.ref p) F room;have Ik:(t.put (P t.mask (tupleKeyHash knd k) N).j).1.plain=true:=X.pla;rw[Ik];simp only[jx];refine aa (afk hpk hk hp ?_);simp only[jx];obtain⟨xs',ex,px⟩:=Dt (f:=ent knd) (insertAt_perm es (t.put (P t.mask (tupleKeyHash knd k) N).j).2 (tupleKeyHash knd k,.ref p)) (xs:=xs++[(k,p)]) (by rw[Array.toList_push,X.ent,uf];rfl);have pm:=px.map (·.1);have hnd:(xs'.map (·.1)).Nodup:=pm.nodup_iff.mpr (by
    rw[uf,yp];refine⟨X.nod,by simp,λa ha b hb=>?_⟩;simp at hb;subst hb;rintro rfl;obtain⟨x,hx,e⟩:=bf.mp ha;exact hno x hx e)
   have Vp:∀x∈xs',IsTupleKey knd s.heap x.1 x.2/\pk x:=λx hx=>by
    rcases dw.mp (px.mem_iff.mp hx) with hx|hx
    . exact X.keys x hx
    . simp at hx;subst hx;exact⟨hk,hp⟩
   have hX:=newX X T' ex Vp hnd X.led X.pla;have Il:∀k',(S k'\/k'=k)↔k'∈xs'.map (·.1):=λk'=>by rw[pm.mem_iff,uf,dw,hm k'];simp
   have hlen:xs'.length=n+1:=by rw[px.length_eq];simp[hl]
   have hes:(insertAt es (t.put (P t.mask (tupleKeyHash knd k) N).j).2 (tupleKeyHash knd k,.ref p)).size=es.size+1:=Ms _ _ _;refine aa (wpAny_storeSet_of X.get X.dat ?_ (Jw (by rw[hes];exact e_ (c_ (v_ (f_ hsz)) (c_ (v_ (f_ hl)) (b_ hn (by decide)))))));have amh:(t.put (P t.mask (tupleKeyHash knd k) N).j).1.place.size=es.size+1:=by rw[T'.Yk,hes]
   by_cases htf:(t.put (P t.mask (tupleKeyHash knd k) N).j).1.tooFull=true
   . rw[htf]
     simp only[yx,Bool.and_self,jx];obtain⟨g1,g2,g3,g4,g5⟩:=Ym (es.size+1) (c_ (v_ (f_ hsz)) (c_ (v_ (f_ hl)) hn));refine aa (acb hX g1 (by rw[hes];exact g2) g5 λh' xs2 o2 es2 ep2 t2 sb X2 p2 em ps=>?_);refine aj (h h' (n+1) true ((jy s.heap a _).trans sb) ⟨xs2,o2,es2,ep2,t2,X2,λk'=>?_,by rw[p2.length_eq,hlen],?_⟩ (bh _))
     . exact(Il k').trans (p2.map (·.1)).mem_iff.symm
     . rw[ps,em,hes];exact t_ g4
   . rw[Bool.not_eq_true] at htf
     rw[htf];simp only[Bool.and_false,cu,ji];refine aj (h _ (n+1) true (jy s.heap a _) ⟨xs',_,_,_,_,hX,Il,hlen,?_⟩ (bh _));unfold tooFull at htf;have hf:(t.put (P t.mask (tupleKeyHash knd k) N).j).1.fill=es.size+1:=by unfold fill;rw[amh,T'.dum];rfl
     rw[hf] at htf;rw[amh];simp at htf;exact htf
end
open PySem
def upto(J:Nat->β->Shared->Prop)(turn:∀i b z,i<n->J i b z->wpAny M A (f i b) (λr z'=>match r with|.yield b'=>J (i+1) b' z'|.done b'=>Q b' z') E z)(fin:∀b z,J n b z->Q b z)(start:J 0 b s) :
 wpAny M A (forIn [:n] b f) Q E s:=by
 have go:∀(k i:Nat)(b:β)(z:Shared),n=i+k->J i b z->wpAny M A (forIn (List.range' i k) b f) Q E z:=by
  intro k
  induction k with
  |zero=>intro i b z e hj;subst e;exact aj (fin b z hj)
  |succ k ih =>
   intro i b z e hj;show wpAny M A (forIn (i::List.range' (i+1) k) b f) Q E z;rw[List.forIn_cons];refine aa (my (turn i b z (by lia) hj) (λr z' hr=>?_) λ_ _ x=>x)
   match r,hr with
   |.done b',hr=>exact aj hr|.yield b',hr=>exact ih (i+1) b' z' (by lia) hr
 have e:(forIn [:n] b f:Sem β)=forIn (List.range' 0 n) b f:=by rw[Std.Legacy.Range.forIn_eq_forIn_range'];simp[Std.Legacy.Range.size]
 rw[e];exact go n 0 b s (by lia) start
def sub_dict_set:isSubtype (.type "dict") (.type "set")=pure false:=by rw[isSubtype_type];kernel_rfl
def sub_dict_frozenset:isSubtype (.type "dict") (.type "frozenset")=pure false:=by rw[isSubtype_type];kernel_rfl
section
variable{prog:Program}{w:World}{K:Type}[DecidableEq K]{knd:KeyKind prog w K}{pk:List K×Addr->Prop}{A:Around}{E:Y1}{s:Shared}
def G3(hT:s.TypeIs v T)(h1:isSubtype (.type T) (.type "set")=pure false)(h2:isSubtype (.type T) (.type "frozenset")=pure false)(h:Q false s) :
 wpAny (model prog w) A (Builtin.Frozenset.isAnySet v) Q E s:=by
 unfold Builtin.Frozenset.isAnySet;refine aa (o8 hT h1 ?_);exact o8 hT h2 h
def bcn(hT:s.TypeIs v "set")(h:Q true s):wpAny (model prog w) A (Builtin.Frozenset.isAnySet v) Q E s:=by unfold Builtin.Frozenset.isAnySet;refine aa (o8 hT sub_set_self ?_);exact aj h
noncomputable def Av(w:World):Obj:={ cls:=.type "set",dict:=none,data:=.set #[] 0 (.fresh 0 0 (!bt w)) }
def asx(hg:h.get? a=some (Av w)):Dg knd pk h a (λ_=>False) 0 :=
 ⟨[],Av w,#[],0,_,⟨hg,⟨rfl,rfl,rfl⟩,rfl,⟨.inl rfl,rfl,rfl,λi j a b e=>by simp[SetTable.fresh] at e,λi j e=>by simp[SetTable.fresh] at e,by simp[SetTable.fresh],λi j e a=>by simp[SetTable.fresh] at a⟩,
  rfl,λx hx=>by simp at hx,yc,rfl,rfl⟩,λk=>by simp,rfl,by simp[SetTable.fresh]⟩
set_option tactic.hygienic true in
def asy(hS:Dg knd pk s.heap a S n)(hl:n+m<64)(h:∀h',Heap.SameBut a s.heap h'->Dg knd pk h' a S n->Q () { s with heap:=h' }):wpAny (model prog w) A (setRoomFor a m) Q E s:=by
 obtain⟨xs,o,es,ep,t,X,hm,hn,nf⟩:=hS;have hsz:=X.size;unfold setRoomFor;refine aa (jq X.get X.dat X.tab.fits ?_);dsimp only;unfold roomFor;have hps:=X.tab.Yk;split
 . rename_i wanted e
   split at e
   . cases e
     obtain⟨g1,g2,g3,g4⟩:=amc (t.place.size+m) (c_ (v_ (f_ hps)) (c_ (v_ (f_ hsz)) (c_ (v_ (f_ hn)) hl)));refine acb X g1 (by lia) g4 λh' xs2 o2 es2 ep2 t2 sb X2 p2 em ps=>h h' sb ⟨xs2,o2,es2,ep2,t2,X2,λk'=>?_,by rw[p2.length_eq,hn],?_⟩
     . exact(hm k').trans (p2.map (·.1)).mem_iff.symm
     . rw[ps,em];lia
   . cases e
 . exact aj (h s.heap (Heap.SameBut.refl _ _) ⟨xs,o,es,ep,t,X,hm,hn,nf⟩)
theorem Dg.get(hS:Dg knd pk h a S n):∃o es ep t,h.get? a=some o/\o.ExactSet/\o.data=.set es ep t/\t.fits es.size=true :=
 let ⟨_,o,es,ep,t,X,_⟩:=hS;⟨o,es,ep,t,X.get,X.exa,X.dat,X.tab.fits⟩
def Dg.typeIs(hS:Dg knd pk s.heap a S n):s.TypeIs (.ref a) "set" :=
 let ⟨o,_,_,_,ho,hc,_⟩:=hS.get;⟨o,ho,hc.1⟩
def Dg.congr(hS:Dg knd pk h a S n)(e:∀k,S k↔S' k):Dg knd pk h a S' n :=
 let ⟨xs,o,es,ep,t,X,hm,r⟩:=hS;⟨xs,o,es,ep,t,X,λk=>(e k).symm.trans (hm k),r⟩
def ami(hpk:R9 knd pk){id:String}(hu:A.units<cLine)(hS:Dg knd pk s.heap a S n)(hd:s.heap.DictOfH (tupleKind knd) d xs)(hds:(d==sysModules)=false)(hpx:∀x∈xs,pk (x.1,x.2.1))(hl:n+xs.length<31)(h:∀h' n',Heap.SameBut a s.heap h'->Dg knd pk h' a (λk=>S k\/k∈xs.map (·.1)) n'->Q () { s with heap:=h' }) :
 wpAny (model prog w) A (Builtin.Frozenset.updateFrom id a (.ref d)) Q E s:=by
 have hT:=hd.typeIs;obtain⟨od,esd,epd,hod,hcd,hdd,hed,hxd,hnd⟩:=hd;obtain⟨o0,es0,ep0,t0,hg0,hc0,hd0,hf0⟩:=hS.get;have Tw:d≠a:=by rintro rfl;rw[hod] at hg0;cases hg0;rw[hdd] at hd0;cases hd0
 have hlen:esd.size=xs.length:=size_of_entries hed;unfold Builtin.Frozenset.updateFrom;refine aa (G3 hT sub_dict_set sub_dict_frozenset ?_);simp only[cu,ji];refine aa (uv hT ?_);rw[cz (by decide)];refine aa (wpAny_rule ?_);refine aa (m:=Builtin.Frozenset.addrOf (.ref d)) (aj ?_);rw[bw (by rw[hds];decide)];refine aa (wpAny_dictEpoch hod hdd ?_);refine aa (su hod hdd ?_);refine aa (asy hS (by lia) λh1 sb1 hS1=>?_);have bcr:h1.get? d=some od:=(sb1.2 d Tw).trans hod;refine aa (su bcr hdd ?_);refine aa ?_;refine upto (λi _ z=>∃h' n',z={ s with heap:=h' }/\Dg knd pk h' a (λk=>S k\/k∈(xs.take i).map (·.1)) n'/\n'<=n+i/\Heap.SameBut a s.heap h') (λi _ z lt inv=>?_) (λ_ z inv=>?_) ⟨h1,n,rfl,hS1.congr (λk=>by simp),x_,sb1⟩
 . obtain⟨h',n',rfl,Vq,Ov,sb'⟩:=inv
   have afm:h'.get? d=some od:=(sb'.2 d Tw).trans hod;refine aa (su afm hdd ?_);have lx:i<xs.length:=b_ lt (f_ hlen)
   have he:esd[i]?=some (entryOfKey (tupleKind knd) xs[i]):=by rw[entry_at hed];simp[lx]
   rw[he];have hkk:IsTupleKey knd h' xs[i].1 xs[i].2.1:=amg (hxd _ (pq lx)) hg0 hd0 sb';show wpAny _ _ (holding [.ref xs[i].2.1] (setAddHashed a (.ref xs[i].2.1) (tupleKeyHash knd xs[i].1)) >>= _) _ _ _;refine aa (jo (Z4 (s:={ s with heap:=h' }) hpk hu hkk (hpx _ (pq lx)) Vq (by lia) λh'' n'' b a5s amk a5t=>?_));refine aa (wpAny_dictEpoch ((a5s.2 d Tw).trans afm) hdd ?_);rw[yq];refine aj ⟨h'',n'',rfl,amk.congr (λk=>?_),by lia,sb'.trans a5s⟩;rw[List.take_add_one,uf,dw,show xs[i]?=some xs[i] by simp[lx]];simp[or_assoc]
 . obtain⟨h',n',rfl,Vq,Ov,sb'⟩:=inv
   refine aj (h h' n' sb' (Vq.congr λk=>?_));rw[List.take_of_length_le (g_ hlen)]
end
section
variable{prog:Program}{w:World}{K:Type}[DecidableEq K]{knd:KeyKind prog w K}{pk:List K×Addr->Prop}{A:Around}{E:Y1}{s:Shared}
def as3(post:R (.ref s.heap.objs.size) { s with heap:=s.heap.push (Av w) }) :
 codeAny (model prog w) A (.call (.builtin "set.__new__") ⟨[.type "set",v],[]⟩) (wants R E) s:=by
 refine codeAny_call_builtin F.plain_set_new F.entry_set_new (wpAny_of_eq (F.newCall_set_1 v) ?_);have sub:=sub_set_self;unfold Builtin.«set.__new__» Builtin.Frozenset.newClass
 wp_walk
 exact wpAny_askSetting (aj (aa (wpAny_alloc (aj (aj post)))))
set_option maxHeartbeats 3200000 in
def Mt{R:Shared->Prop}(hup:wpAny (model prog w) A.in1.in1 (Builtin.Frozenset.updateFrom "set.__init__" s.heap.objs.size x) (λ_ s'=>R s') E { s with heap:=s.heap.push (Av w) })(h:∀s',R s'->Q (.ref s.heap.objs.size) s') :
 wpAny (model prog w) A (call (.type "set") [x]) Q E s:=by
 obtain⟨c,tl,bjk⟩:=ur.mro;have bg4:=ur.made;have Z5:=ur.sub;refine wpAny_call (codeAny_of_tree ?_);show wpAny _ _ (callAny (.type "set") _) _ _ _;refine aj ⟨Code.quiet_builtin _ (by decide+kernel),nq F.entry_type_call ?_⟩;rw[Around.under_plain (weight_type_call_type "set" [x] []) rfl];have h1:=ur.notType;have h2:=ur.canCreate;have hct:=F.typeCall_set_1 x
 repeat (any_goals (first|assumption|wp_step))
 refine wu (as3 (v:=x) (E:=E) (R:=λobj s₁=>obj=.ref s.heap.objs.size/\s₁={ s with heap:=s.heap.push (Av w) }) ⟨rfl,rfl⟩) λr s₁ hr=>?_
 cases r with
 |error e=>exact hr
 |ok fl =>
  cases fl with
  |ret obj =>
   obtain⟨rfl,rfl⟩:=hr;have hS:(s.heap.push (Av w)).get? s.heap.objs.size=some (Av w):=bu _ rfl;have hT:Shared.TypeIs { s with heap:=s.heap.push (Av w) } (.ref s.heap.objs.size) "set" := ⟨_,hS,rfl⟩;have hli:=ur.init.lookup;have hbi:=ur.init.bind (.ref s.heap.objs.size)
   repeat (any_goals (first|assumption|wp_step))
   refine wu (codeAny_call_builtin (R:=wants (λr s₂=>r=.none/\R s₂) E) ur.init.plain F.entry_set_init (check_set_init_1 hT ?_)) λr₂ s₂ hr₂=>?_
   . unfold Builtin.«set.__init__» noKeywords
     generalize hUF:Builtin.Frozenset.updateFrom=UF at hup ⊢;unfold Av at hS hT hup ⊢
     wp_walk
     exact my hup (λ_ s' hr=>aj ⟨rfl,hr⟩) (λe s' he=>he)
   . cases r₂ with
     |error e=>exact hr₂
     |ok fl₂ =>
      cases fl₂ with
      |ret r =>
       obtain⟨rfl,hq⟩:=hr₂
       repeat (any_goals (first|assumption|wp_step))
       exact h _ hq
      |_=>exact hr₂.elim
  |_=>exact hr.elim
end
open PyProof.Rows (F.entry_set_update_loop F.plain_set_update_loop)
section
variable{prog:Program}{w:World}{K:Type}[DecidableEq K]{knd:KeyKind prog w K}{pk:List K×Addr->Prop}{A:Around}{E:Y1}{s:Shared}
def Sg{wr:X9}(hk:IsTupleKey knd h ks p)(hp:p∉wr)(hm:∀b o,b∉wr->h.get? b=some o->h'.get? b=some o):IsTupleKey knd h' ks p :=
 let ⟨o,items,n,ho,r⟩:=hk;⟨o,items,n,hm p o hp ho,r⟩
def Dg.moved{wr:X9}(hS:Dg knd pk h a S n)(ha:a∉wr)(hw:∀(b:Addr) (ks:List K),b∈wr->¬IsTupleKey knd h ks b)(hm:∀b o,b∉wr->h.get? b=some o->h'.get? b=some o):Dg knd pk h' a S n :=
 let ⟨xs,o,es,ep,t,X,r⟩:=hS
 ⟨xs,o,es,ep,t,⟨hm a o ha X.get,X.exa,X.dat,X.tab,X.ent,λx hx=>⟨Sg (X.keys x hx).1 (λhc=>hw _ _ hc (X.keys x hx).1) hm,(X.keys x hx).2⟩,X.nod,X.led,X.pla⟩,r⟩
def as4(hpk:R9 knd pk){I:Addr}{P:Nat->Value->Prop}(hu:A.in1.units<cLine)(W:WalksS prog w A.in1 I fp wr G n P St)(a:Addr)(haf:a∉fp)(ks:List (List K×Addr))(hkl:ks.length=n)(ay1:∀i v x,P i v->ks[i]?=some x->v=.ref x.2)(hpx:∀x∈ks,pk x)(hb:n<31)(hkw:∀x∈ks,x.2∉wr)(hnk:∀i (s:Shared),St i s->∀(b:Addr) (ks:List K),b∈wr->¬IsTupleKey knd s.heap ks b) :
 ∀(k i n':Nat)(s:Shared),n-i=k->i<=n->St i s->(∀x∈ks,IsTupleKey knd s.heap x.1 x.2) ->
  Dg knd pk s.heap a (λk'=>k'∈(ks.take i).map (·.1)) n'->n'<=i ->
  (∀s' n'',Moved (a::wr) G s s'->Dg knd pk s'.heap a (λk'=>k'∈ks.map (·.1)) n''->R (.ok (.ret .none)) s') ->
  codeAny (model prog w) A (.builtin "set.update.loop" ⟨[.ref a,.ref I],[]⟩) R s:=by
 have haw:a∉wr:=λh=>haf (W.sub _ h)
 have Z5:∀b∈wr,b∈a::wr:=λb hb=>bc _ hb
 intro k
 induction k with
 |zero =>
  intro i n' s hk hi Xu Vp hS Ov hR;have Xr:i=n:=by lia
  subst Xr;refine nq ue ?_;rw[j6 mj _];show wpAny _ A.in1 (pyNext (.ref I) >>= _) _ _ s;refine aa (W.done s _ _ Xu λs' hm=>?_);show wpAny _ A.in1 (ret Value.none) _ _ s';refine aj (hR s' n' (hm.mono Z5) ((hS.moved haw (hnk _ s Xu) hm.heap).congr λk=>?_));rw[List.take_of_length_le (f_ hkl)]
 |succ k ih =>
  intro i n' s hk hi Xu Vp hS Ov hR;have Ir:i<n:=by lia
  refine nq ue ?_;rw[j6 mj _];show wpAny _ A.in1 (pyNext (.ref I) >>= _) _ _ s;refine aa (W.item i s _ _ Ir Xu λv s' hP ay2 hm=>?_);have lx:i<ks.length:=b_ Ir (g_ hkl)
  have hgx:ks[i]?=some ks[i]:=by simp[lx]
  obtain rfl:=ay1 i v _ hP hgx;have hxm:=pq lx;have Vq:=hS.moved haw (hnk _ s Xu) hm.heap;have afn:∀x∈ks,IsTupleKey knd s'.heap x.1 x.2:=λx hx=>Sg (Vp x hx) (hkw x hx) hm.heap
  show wpAny _ A.in1 (holding [Value.ref ks[i].2] (setAdd a (.ref ks[i].2)) >>= _) _ _ s';refine aa (jo ?_);unfold setAdd;refine jo ?_;refine aa (wpAny_pyHash_tuple hu (afn _ hxm) ?_);refine Z4 (s:={ s' with toks:=s'.toks+(ks[i].1.length+1) }) hpk hu (afn _ hxm) (hpx _ hxm) Vq (by lia) λh' n2 b hsb hS2 Xv=>?_
  obtain⟨oa,esa,epa,ta,hga,hca,hda,hfa⟩:=Vq.get;refine aj ⟨plainId_quiet mj _,ih (i+1) n2 _ (by lia) Ir (W.frame _ s' _ _ ay2 (xu _ _) λb hb o e=>?_) (λx hx=>amg (afn x hx) hga hda hsb) (hS2.congr λk=>?_) (a_ Xv (v_ Ov)) λs'' n3 ay4 amk=>?_⟩
  . rw[hsb.2 b (λh:b=a=>haf (by rw[<- h];exact hb))];exact e
  . rw[List.take_add_one,uf,dw,hgx];simp
  . refine hR s'' n3 (Moved.trans W.gtrans ((hm.mono Z5).then_heap (xu _ _) λb o hb e=>?_) ay4) amk
    rw[hsb.2 b (λh:b=a=>hb (by rw[h];exact di))];exact e
def aml(hpk:R9 knd pk){id:String}{ks:List (List K×Addr)}(hh:A.handled=none)(hu:A.in1.units+1<cLine)(hS:Dg knd pk s.heap a (λ_=>False) 0)(hl:s.heap.IsList l items)(hit:items.toList=ks.map λx=>.ref x.2)(Vp:∀x∈ks,IsTupleKey knd s.heap x.1 x.2)(hpx:∀x∈ks,pk x)(hlen:ks.length<31)(h:∀h' tk n',(∀b o,b≠a->s.heap.get? b=some o->h'.get? b=some o)->Dg knd pk h' a (λk=>k∈ks.map (·.1)) n'->Q () { s with heap:=h',toks:=tk }) :
 wpAny (model prog w) A (Builtin.Frozenset.updateFrom id a (.ref l)) Q E s:=by
 have hT:s.TypeIs (.ref l) "list" := let ⟨o,ho,hc,_⟩:=hl;⟨o,ho,hc⟩;have hsz:items.size=ks.length:=by rw[<- vh,hit];simp
 obtain⟨oa,esa,epa,ta,hga,hca,hda,hfa⟩:=hS.get;unfold Builtin.Frozenset.updateFrom;refine aa (G3 hT F.sub_list_set F.sub_list_frozenset ?_);simp only[cu,ji];refine aa (uv hT ?_);rw[bw (by decide)];refine aa (wpAny_pyIter_list hl ?_);refine aa (wpAny_runValue ?_);have Ir:l<s.heap.objs.size:=let ⟨o,ho,_⟩:=hl;az ho
 have hat:a<s.heap.objs.size:=az hga
 have hla:l≠a:=by rintro rfl;obtain⟨o,ho,_,n,hd⟩:=hl;rw[ho] at hga;cases hga;rw[hd] at hda;cases hda
 have ay5:l≠s.heap.objs.size:=dz Ir;have haf:a∉[s.heap.objs.size,l]:=by simp only[bz,xr,or_false,not_or];exact⟨dz hat,λe=>hla e.symm⟩
 have keep:∀b o,s.heap.get? b=some o->(s.heap.push { cls:=.type "list_iterator",data:=.fields #[.ref l,.int 0 0] }).get? b=some o:=λb o e=>au _ e
 refine as4 hpk (by lia) ((Walks.list (by simp[hh]) _ l ay5 items).toS) a haf ks hsz.symm (λi v x hv hx=>?_) hpx (c_ (f_ hsz) hlen) (λx hx hc=>?_) (λi s' st b kk hb hkb=>?_) items.size 0 0 _ rfl (ju _)
  ⟨⟨_,bu _ rfl,rfl,rfl⟩,hl.push _⟩ (λx hx=>Sg (wr:=[]) (Vp x hx) (by simp) λb o _ e=>keep b o e) ?_ (bh _) ?_
 . have:items.toList[i]?=some v:=by simpa using hv
   rw[hit,gr,hx] at this;exact(jn this).symm
 . simp at hc
   obtain⟨o,_,_,ho,_⟩:=Vp x hx;have:=az ho;rw[hc] at this;exact kh _ this
 . simp at hb
   subst hb;obtain⟨o,_,_,ho,hc,_⟩:=hkb;obtain⟨⟨o',ho',hc',_⟩,_⟩:=st;rw[ho] at ho';cases ho';rw[hc] at hc';exact absurd hc' (by decide)
 . refine(hS.moved (wr:=[]) (by simp) (by simp) λb o _ e=>keep b o e).congr λk=>by simp
 . intro s' n'' hm Vq
   obtain⟨h',g',d',tk',os'⟩:=s';have eg:g'=s.gens:=hm.gens;have ed:d'=s.drawn:=hm.drawn;have eo:os'=s.os:=hm.os;subst eg;subst ed;subst eo;show wpAny _ _ _ _ _ _;refine aj (h h' tk' n'' (λb o hb e=>?_) Vq);refine hm.heap b o ?_ (keep b o e);simp only[bz,xr,or_false,not_or];exact⟨hb,dz (az e)⟩
end
theorem Vr{α:Type}:∀{l:List α}{i:Nat}(h:i<l.length),(l[i]::l.eraseIdx i).Perm l
 |x::l,0,_=>yz _
 |x::l,i+1,h=>by
  have ih:=Vr (l:=l) (i:=i) (by simpa using h);simp only[List.getElem_cons_succ,List.eraseIdx_cons_succ];exact(List.Perm.swap x _ _).trans (ih.cons x)
theorem ag9{α:Type}(nx:Nat->Nat):∀(fuel k:Nat)(left:List α)(out:Array α),left.length=fuel->(pickOrder.go nx fuel k left out).toList.Perm (out.toList++left)
 |0,k,left,out,h=>by
  have:left=[]:=za.mp h;subst this;unfold pickOrder.go;simp
 |fuel+1,k,left,out,h=>by
  unfold pickOrder.go;have hq:nx k%left.length<left.length:=Nat.mod_lt _ (by lia)
  rw[cj hq];dsimp only;refine(ag9 nx fuel (k+1) _ _ (by rw[List.length_eraseIdx];split<;>lia)).trans ?_;rw[Array.toList_push,Ag];refine List.Perm.append_left _ ?_;exact Vr hq
def Yn(nx:Nat->Nat)(xs:Array α):(pickOrder nx xs).toList.Perm xs.toList:=by unfold pickOrder;simpa using ag9 nx xs.size 0 xs.toList #[] (by simp)
theorem Vs{α:Type}[DecidableEq α]:∀{l1 l2:List α},l1.Nodup->l1 ⊆ l2->l2.length<=l1.length->∀x∈l2,x∈l1
 |[],l2,_,_,h,x,hx=>by
  have:l2=[]:=za.mp (by simpa using h);subst this;simp at hx
 |a::l1,l2,hn,hs,h,x,hx=>by
  by_cases e:x=a
  . subst e;exact di
  . refine bc _ ?_
    have ha:a∈l2:=hs di;have Ov:=mq.mp hn;refine Vs (l2:=l2.erase a) Ov.2 (λy hy=>?_) ?_ x ((List.mem_erase_of_ne e).mpr hx)
    . exact(List.mem_erase_of_ne (λ(e:y=a)=>Ov.1 (by rw[<- e];exact hy))).mpr (hs (bc _ hy))
    . rw[List.length_erase_of_mem ha];simp at h;omega
def Z6:entryFor table "set.__ne__" = some Builtin.«frozenset.__ne__» :=
 entryFor_alias (id' := "frozenset.__ne__") (by kernel_rfl) rfl (by decide+kernel) (by kernel_rfl)
def sub_set_frozenset:isSubtype (.type "set") (.type "frozenset")=pure false:=by rw[isSubtype_type];kernel_rfl
section
variable{prog:Program}{w:World}{K:Type}[DecidableEq K]{knd:KeyKind prog w K}{pk:List K×Addr->Prop}{A:Around}{E:Y1}{s:Shared}
set_option tactic.hygienic true in
def as8(X:Sd knd pk s.heap a xs o es ep t)(h:∀l,l.toList.Perm es.toList->Q l s):wpAny (model prog w) A (setWalk a) Q E s:=by
 unfold setWalk;refine aa (jq X.get X.dat X.tab.fits ?_);dsimp only;refine aa (Va ?_);split
 . exact aa (wpAny_askSetting (aj (h _ (Yn _ _))))
 . rename_i hb
   have hb:bt w=false:=by simpa using hb
   split
   . rename_i hd
     have hd:(!t.plain&&decide (es.size > 1))=true:=hd;rw[X.pla] at hd;cases hd
   . refine aa ?_
     have:wpAny (model prog w) A (if(!t.led&&decide (es.size > 1))=true then unsupported "set:maker-not-led" else pure ()) (λ_ s'=>wpAny (model prog w) A (pure es) Q E s') E s:=by rw[X.led,hb];simp only[yx,q9,Bool.false_and,cu,ji];exact aj (aj (h es (yz _)))
     exact this
def ajr(hk:IsTupleKey knd s.heap ks a)(h:Q false s):wpAny (model prog w) A (Builtin.Frozenset.quietEq (.ref a)) Q E s:=by
 unfold Builtin.Frozenset.quietEq;refine aa (wpAny_specialOf hk.typeIs F.slot_tuple_eq.lookup ?_);refine aj ?_;have:(some (Value.builtin "tuple.__eq__")==some (Value.builtin "object.__eq__"))=false:=by decide
 rw[this];exact h
def Z7(X:Sd knd pk h a xs o es ep t)(he:e∈es.toList):∃x∈xs,e=ent knd x:=by rw[X.ent] at he;obtain⟨x,hx,rfl⟩:=bf.mp he;exact⟨x,hx,rfl⟩
def ajs(X:Sd knd pk s.heap a xs o es ep t)(Y:Sd knd pk s.heap b ys o' es' ep' t')(h:∀l:List (Int×Value),l.Perm es.toList->Q l s):wpAny (model prog w) A (Builtin.Frozenset.walkUnseen a b) Q E s:=by
 unfold Builtin.Frozenset.walkUnseen;refine aa (lz X.get X.dat X.tab.fits ?_);refine aa (lz Y.get Y.dat Y.tab.fits ?_);refine aa ?_;refine ql _ (λrest r s'=>r.1=none/\s'=s/\∀e∈rest,∃ks p,e.2=.ref p/\IsTupleKey knd s.heap ks p) _ ?_ ?_ _ _ ⟨rfl,rfl,λe he=>?_⟩
 . rintro e rest r s' ⟨hr,rfl,Dr⟩
   obtain⟨ks,p,hep,hk⟩:=Dr e di;obtain⟨h0,x0⟩:=e;subst hep;dsimp only;refine aa (ajr hk ?_);simp only[yx,jx];unfold Builtin.Frozenset.walk;refine aa (aa (as8 X λl hl=>aj ?_));exact aj (aj (h _ hl))
 . rintro⟨r1,r2⟩ s' ⟨hr,rfl,_⟩
   simp only at hr;subst hr;exact aj (h _ (yz _))
 . rcases dw.mp he with he|he
   . obtain⟨x,hx,rfl⟩:=Z7 X he
     exact⟨x.1,x.2,rfl,(X.keys x hx).1⟩
   . obtain⟨x,hx,rfl⟩:=Z7 Y he
     exact⟨x.1,x.2,rfl,(Y.keys x hx).1⟩
def ay6{id:String}(hu:A.units<cLine)(hS:Dg knd pk s.heap a S n)(hT:Dg knd pk s.heap b T m)(h:∀c:Bool,(c=true↔n<=m/\∀k,S k->T k)->Q c s):wpAny (model prog w) A (Builtin.Frozenset.subsetOf id a b) Q E s:=by
 have hT':=hT;obtain⟨xs,o,es,ep,t,X,hm,hn,_⟩:=hS;obtain⟨ys,o',es',ep',t',Y,hm',Ov,_⟩:=hT;have h1:=X.size;have h2:=Y.size;unfold Builtin.Frozenset.subsetOf Builtin.Frozenset.sizeOf;refine aa (aa (lz X.get X.dat X.tab.fits (aj ?_)));refine aa (aa (lz Y.get Y.dat Y.tab.fits (aj ?_)));split
 . exact aj (h false (by simp;lia))
 . refine aa (wpAny_setEpoch_of X.get X.dat X.tab.fits ?_)
   refine aa (ajs X Y λl hl=>?_);refine aa ?_;refine ql _ (λrest r s'=>r.1=none/\s'=s/\(∀e∈rest,∃x∈xs,e=ent knd x)/\∀x∈xs,ent knd x∈rest\/T x.1) _ ?_ ?_ _ _ ⟨rfl,rfl,λe he=>Z7 X (hl.mem_iff.mp he),λx hx=>.inl (hl.mem_iff.mpr (by rw[X.ent];exact bf.mpr ⟨x,hx,rfl⟩))⟩
   . rintro e rest r s' ⟨hr,rfl,Dr,amm⟩
     obtain⟨x,hx,rfl⟩:=Dr e di;show wpAny _ _ (holding [.ref x.2] (setFind b (.ref x.2) (tupleKeyHash knd x.1)) >>= _) _ _ _;refine aa (jo (asu hu (X.keys x hx).1 hT' λr hr=>?_));cases r with
     |none =>
      simp only[Option.isNone_none,jx];refine aj (aj (h false ?_));simp only[cu,false_iff,not_and,Classical.not_forall];intro _;refine⟨x.1,(hm x.1).mpr (bf.mpr ⟨x,hx,rfl⟩),λhc=>?_⟩;have:=hr.mpr hc;cases this
     |some i =>
      simp only[Option.isNone_some,cu,ji];unfold Builtin.Frozenset.unchanged;refine aa (aa (wpAny_setEpoch_of X.get X.dat X.tab.fits ?_));rw[bw (by simp)];refine aj (aj ⟨rfl,rfl,λe he=>Dr e (bc _ he),λy hy=>?_⟩);rcases amm y hy with hc|hc
      . rcases bz.mp hc with hc|hc
        . right
          have hTx:T x.1:=hr.mp rfl;have e2:y.2=x.2:=by have:=qz Prod.snd hc;unfold ent at this;injection this
          have:y.1=x.1:=IsTupleKey.inj (X.keys y hy).1 (by rw[e2];exact(X.keys x hx).1);rw[this];exact hTx
        . exact .inl hc
      . exact .inr hc
   . rintro⟨r1,r2⟩ s' ⟨hr,rfl,_,amm⟩
     simp only at hr;subst hr;refine aj (h true ?_);simp only[true_iff];refine⟨by lia,λk hk=>?_⟩;obtain⟨x,hx,rfl⟩:=bf.mp ((hm k).mp hk);rcases amm x hx with hc|hc
     . simp at hc
     . exact hc
set_option tactic.hygienic true in
def a5w(hu:A.in1.units<cLine)(hu0:A.units<cLine)(hS:Dg knd pk s.heap a S n)(hT:Dg knd pk s.heap b T m)(h:∀c:Bool,(c=true↔¬∀k,S k↔T k)->Q (.bool c) s):wpAny (model prog w) A (compareOp .NotEq (.ref a) (.ref b)) Q E s:=by
 show wpAny _ _ (richCompare .NotEq (.ref a) (.ref b)) _ _ _;refine wpAny_richCompare_same_room (op:=.NotEq) hS.typeIs hT.typeIs F.slot_set_ne (jw F.slot_set_ne hS.typeIs Z6 ?_ (F.args_set_ne_2 _ _)) hu0;have fin:∀c:Bool,(c=true↔∀k,S k↔T k)->Q (.bool !c) s:=λc hc=>h _ (by cases c<;>simp_all)
 have Vq:=hS;have hT':=hT;obtain⟨xs,o,es,ep,t,X,hm,hn,_⟩:=Vq;obtain⟨ys,o',es',ep',t',Y,hm',Ov,_⟩:=hT';have h1:=X.size;have h2:=Y.size;have same:(∀k,S k↔T k)->n=m:=λe=>by
  have:(xs.map (·.1)).Perm (ys.map (·.1)):=(List.perm_ext_iff_of_nodup X.nod Y.nod).mpr λk=>by rw[<- hm k,<- hm' k];exact e k
  have:=this.length_eq;simp at this;exact u_ (a_ (g_ hn) (a_ (f_ this) (f_ Ov))) (a_ (g_ Ov) (a_ (g_ this) (f_ hn)))
 have back:n=m->(∀k,S k->T k)->∀k,S k↔T k:=λe hs k=>⟨hs k,λhk=>(hm k).mpr (Vs X.nod (λk hk=>(hm' k).mp (hs k ((hm k).mpr hk))) (by simp;exact a_ (f_ Ov) (a_ (g_ e) (g_ hn))) k ((hm' k).mp hk))⟩
 show wpAny _ _ (Builtin.Frozenset.slot1 "__ne__" ⟨[.ref a,.ref b],[]⟩ >>= _) _ _ _;unfold Builtin.Frozenset.slot1 slotArgs;simp only[List.isEmpty_nil,q9,cu,↓reduceIte,bind_assoc,gw,List.length_nil,yq];refine aa (aj ?_)
 try dsimp only
 refine aa (aj ?_)
 try dsimp only
 refine aa (bcn hT.typeIs ?_);simp only[q9,cu,↓reduceIte];refine aa (m:=Builtin.Frozenset.addrOf (.ref a)) (aj ?_);refine aa (m:=Builtin.Frozenset.addrOf (.ref b)) (aj ?_);unfold Builtin.Frozenset.sizeOf;refine aa (aa (lz X.get X.dat X.tab.fits (aj ?_)));refine aa (aa (lz Y.get Y.dat Y.tab.fits (aj ?_)));refine aa ?_;split
 . rename_i Tw
   refine aj ?_;refine aj ⟨_,rfl,(λe=>nomatch e),fin false ?_⟩;simp only[cu,false_iff];intro e;have:=same e;simp at Tw;lia
 . rename_i Tw
   have hnm:n=m:=by simp at Tw;lia
   refine aa (aa (o8 hS.typeIs sub_set_frozenset ?_));refine aj ?_;simp only[cu,↓reduceIte];refine ay6 hu hS hT λc hc=>?_
   exact aj ⟨_,rfl,(λe=>nomatch e),fin c (hc.trans ⟨λe=>back hnm e.2,λe=>⟨f_ hnm,λk=>(e k).mp⟩⟩)⟩
end
def aha{prog:Program}{w:World}{A:Around}{α:Type}{Q:α->Shared->Prop}{E:Y1}{s:Shared}(hd:A.handled=none)(q:∀h' x,(∀b o,s.heap.get? b=some o->h'.get? b=some o)->(∃o,h'.get? x=some o/\o.cls=.type "StopIteration")->E (.ref x) { s with heap:=h' }):wpAny (model prog w) A (newExc (.type "StopIteration") [] >>= raiseNew) Q E s:=by simp only[newExc,newTuple];refine aa (aa (tu (aa (m:=firstArgMember _ _) (wpAny_of_eq (a:=Value.none) (by first|rfl|(simp only[firstArgMember];rfl)) (tu ?_ (by size_fits)))) (by size_fits)));simp only[raiseNew];refine aa (wpAny_handled ?_);rw[hd];exact aa (aj (wpAny_throw (q _ _ (λb o e=>au _ (au _ e)) ⟨_,bu _ rfl,rfl⟩)))
def as9(k:Yj t es)(F:Fst t h N)(room:t.place.size+1<=t.mask) :
 layNew t es h x=(insertAt es (t.put (P t.mask h N).j).2 (h,x),(t.put (P t.mask h N).j).1,false,false):=by
 have e:t.freeSlot h=some ((P t.mask h N).j,false):=by
  unfold freeSlot probe;rw[ab7];rcases al8 k F (λ_=>h+1) (10*turns t.mask) 0 (ju _) (by have:=F.lt;exact c_ C_ this) with⟨a,_⟩|⟨m,i,_,_,_,c,_⟩
  . rw[a];rfl
  . lia
 have f:=(k.put (x:=x) F room).fits;unfold layNew;rw[e];show(insertAt es (t.put (P t.mask h N).j).2 (h,x),(t.put (P t.mask h N).j).1.orStandIn (insertAt es (t.put (P t.mask h N).j).2 (h,x)).size,false,!(t.put (P t.mask h N).j).1.fits (insertAt es (t.put (P t.mask h N).j).2 (h,x)).size)=_;unfold orStandIn;rw[cz f,f];rfl
def ajt(hm:Msk (sizeAbove wanted-1))(hz:es.size<=sizeAbove wanted-1) :
 ∃es' t',relayAll t es wanted=(es',t',false)/\t'.mask=sizeAbove wanted-1/\Yj t' es'/\es'.toList.Perm es.toList/\t'.led=t.led/\t'.plain=t.plain:=by
 obtain⟨t',order,e,e1,T',p,sz,hl,hp,_,hpm⟩:=ag5 hm t.finger (t.movedTo (sizeAbove wanted-1)) t.led t.plain es hz;have er:t.relaid (es.map (·.1)) wanted=some (t',order):=e;refine⟨order.filterMap (es[·]?),t',?_,e1,T',p,hl,hp⟩;unfold relayAll;rw[er];dsimp only;rw[cz];rw[aq];exact⟨by unfold coversAll;exact List.isPerm_iff.mpr hpm,T'.fits⟩
noncomputable def enI(x:Int×Tok):Int×Value:=(hashInt x.1,.int x.1 x.2)
structure Ku(w:World)(h:Heap)(a:Addr)(xs:List (Int×Tok))(o:Obj)(es:Array (Int×Value))(ep:Nat)(t:SetTable):Prop where
 get:h.get? a=some o
 exa:o.ExactSet
 dat:o.data=.set es ep t
 tab:Yj t es
 ent:es.toList=xs.map enI
 nod:(xs.map (·.1)).Nodup
 led:t.led=!bt w
 pla:t.plain=true
def Eo(w:World)(h:Heap)(a:Addr)(S:Int->Prop)(n:Nat):Prop:=∃xs o es ep t,Ku w h a xs o es ep t/\(∀k,S k↔k∈xs.map (·.1))/\xs.length=n/\t.place.size*5<t.mask*3
theorem Ku.size(X:Ku w h a xs o es ep t):es.size=xs.length:=by have:=qz List.length X.ent;simpa using this
def Ku.elems(X:Ku w h a xs o es ep t):ElemsOf (intKind prog w) es.toList:=λe he=>by rw[X.ent] at he;obtain⟨x,_,rfl⟩:=bf.mp he;exact⟨⟨x.1,by simp[enI,intKind,Value.isInt],rfl⟩,rfl⟩
def a5x(X:Ku w h a xs o es ep t)(T':Yj t' es')(he:es'.toList=xs'.map enI)(hn:(xs'.map (·.1)).Nodup)(hl:t'.led=!bt w)(hp:t'.plain=true) :
 Ku w (h.update a (Obj.putSet es' t')) a xs' { o with data:=.set es' (ep+1) t' } es' (ep+1) t':=by
 have hg:(h.update a (Obj.putSet es' t')).get? a=some { o with data:=.set es' (ep+1) t' }:=by have:=m5 (Obj.putSet es' t') X.get (by rw[putSet_of es' t' X.dat];rfl);rw[putSet_of es' t' X.dat] at this;exact this
 exact⟨hg,X.exa,rfl,T',he,hn,hl,hp⟩
theorem Eo.get(hS:Eo w h a S n):∃o es ep t,h.get? a=some o/\o.ExactSet/\o.data=.set es ep t/\t.fits es.size=true :=
 let ⟨_,o,es,ep,t,X,_⟩:=hS;⟨o,es,ep,t,X.get,X.exa,X.dat,X.tab.fits⟩
def Eo.congr(hS:Eo w h a S n)(e:∀k,S k↔S' k):Eo w h a S' n :=
 let ⟨xs,o,es,ep,t,X,hm,r⟩:=hS;⟨xs,o,es,ep,t,X,λk=>(e k).symm.trans (hm k),r⟩
def Eo.moved(hS:Eo w h a S n)(hm:∀o,h.get? a=some o->h'.get? a=some o):Eo w h' a S n :=
 let ⟨xs,o,es,ep,t,X,r⟩:=hS
 ⟨xs,o,es,ep,t,⟨hm o X.get,X.exa,X.dat,X.tab,X.ent,X.nod,X.led,X.pla⟩,r⟩
def amo(hg:h.get? a=some (Av w)):Eo w h a (λ_=>False) 0 :=
 ⟨[],Av w,#[],0,_,⟨hg,⟨rfl,rfl,rfl⟩,rfl,⟨.inl rfl,rfl,rfl,λi j a b e=>by simp[SetTable.fresh] at e,λi j e=>by simp[SetTable.fresh] at e,by simp[SetTable.fresh],λi j e a=>by simp[SetTable.fresh] at a⟩,
  rfl,yc,rfl,rfl⟩,λk=>by simp,rfl,by simp[SetTable.fresh]⟩
def ata(hS:Eo w s.heap a S n)(hn:n+1<32)(h:∀h' n' b,Heap.SameBut a s.heap h'->Eo w h' a (λk'=>S k'\/k'=k) n'->n'<=n+1->Q b { s with heap:=h' }) :
 wpAny (model prog w) A (setAddHashed a (.int k tk) (hashInt k)) Q E s:=by
 obtain⟨xs,o,es,ep,t,X,hm,hl,nf⟩:=hS;obtain⟨N,F⟩:=X.tab.fst (hashInt k);have hsz:=X.size;have hel:=X.elems (prog:=prog);have ay8:(intKind prog w).is k (.int k tk)=true:=by simp[intKind,Value.isInt]
 unfold setAddHashed setAddHashedIn;refine jo (aa (jq X.get X.dat X.tab.fits ?_));dsimp only;rw[byScan_of (knd:=intKind prog w) (x:=.int k tk) rfl (by unfold scanBound;lia) hel];simp only[↓reduceIte];unfold setAddByScan;refine aa ?_;refine aa (wpAny_rule ?_);refine aa (wpAny_setScan_of (knd:=intKind prog w) (k:=k) ay8 X.get X.dat X.tab.fits hel ?_);cases hr:List.findIdx? (λe=>(intKind prog w).is k e.2) es.toList with
 |some j =>
  dsimp only;obtain⟨hj,hpj,_⟩:=qm.mp hr;have hSk:S k:=by
   obtain⟨x,hx,ex⟩:∃x∈xs,enI x=es.toList[j]:=by have Il:=pq hj;generalize es.toList[j]=e at Il;rw[X.ent] at Il;exact bf.mp Il
   have hp2:(intKind prog w).is k (enI x).2=true:=by rw[ex];exact hpj
   refine(hm k).mpr (bf.mpr ⟨x,hx,?_⟩);have:(intKind prog w).is x.1 (enI x).2=true:=by simp[enI,intKind,Value.isInt]
   exact(intKind prog w).inj _ _ _ this hp2
  refine aj (aj ?_);have:=h s.heap n false (Heap.SameBut.refl a s.heap) ⟨xs,o,es,ep,t,X,λk'=>by
   rw[<- hm k'];exact⟨λh=>h.elim id (λe=>e▸hSk),.inl⟩,hl,nf⟩ x_
  exact this
 |none =>
  dsimp only;have hno:∀x∈xs,x.1≠k:=λx hx e=>by have:=vy.mp hr (enI x) (by rw[X.ent];exact bf.mpr ⟨x,hx,rfl⟩);subst e;simp[enI,intKind,Value.isInt] at this
  have room:t.place.size+1<=t.mask:=by have:=X.tab.msk;rcases this with e|e|e|e|e<;>lia
  have T':=X.tab.put (x:=.int k tk) F room;rw[as9 X.tab F room];have Ik:(t.put (P t.mask (hashInt k) N).j).1.plain=true:=X.pla;have hld:(t.put (P t.mask (hashInt k) N).j).1.led=!bt w:=X.led;obtain⟨xs',ex,px⟩:=Dt (f:=enI) (insertAt_perm es (t.put (P t.mask (hashInt k) N).j).2 (hashInt k,.int k tk)) (xs:=xs++[(k,tk)]) (by rw[Array.toList_push,X.ent,uf];rfl);have pm:=px.map (·.1);have hnd:(xs'.map (·.1)).Nodup:=pm.nodup_iff.mpr (by
   rw[uf,yp];refine⟨X.nod,by simp,λa ha b hb=>?_⟩;simp at hb;subst hb;rintro rfl;obtain⟨x,hx,e⟩:=bf.mp ha;exact hno x hx e)
  have hX:=a5x X T' ex hnd hld Ik;have Il:∀k',(S k'\/k'=k)↔k'∈xs'.map (·.1):=λk'=>by rw[pm.mem_iff,uf,dw,hm k'];simp
  have hlen:xs'.length=n+1:=by rw[px.length_eq];simp[hl]
  have hes:(insertAt es (t.put (P t.mask (hashInt k) N).j).2 (hashInt k,Value.int k tk)).size=es.size+1:=Ms _ _ _;have amh:(t.put (P t.mask (hashInt k) N).j).1.place.size=es.size+1:=by rw[T'.Yk,hes]
  have hf:(t.put (P t.mask (hashInt k) N).j).1.fill=es.size+1:=by unfold fill;rw[amh,T'.dum];rfl
  generalize insertAt es (t.put (P t.mask (hashInt k) N).j).2 (hashInt k,Value.int k tk)=es1 at *;generalize(t.put (P t.mask (hashInt k) N).j).1=t1 at *;dsimp only;refine aa (aj ?_);rw[Ik];simp only[jx];refine aa ?_;rw[hashByValue_scannable 8 (x:=.int k tk) rfl];refine aj ?_;have ep1:plainKind (.int k tk)=true:=rfl;simp only[ep1,jx];refine aa (wpAny_storeSet_of X.get X.dat ?_ (Jw (by lia)))
  by_cases htf:t1.tooFull=true
  . rw[htf]
    simp only[yx,Bool.and_self,jx];obtain⟨g1,g2,g3,g4,g5⟩:=Ym (es.size+1) (c_ (v_ (f_ hsz)) (c_ (v_ (f_ hl)) hn));obtain⟨es2,t2,e2,m2,T2,p2,l2,q2⟩:=ajt (t:=t1) (es:=es1) (wanted:=grown (es.size+1)) g1 (a_ (f_ hes) g2);rw[hes,e2];dsimp only;refine aa (aj ?_);obtain⟨xs2,ex2,px2⟩:=Dt p2 ex;have hX2:=a5x hX T2 ex2 ((px2.map _).nodup_iff.mpr hnd) (l2.trans hld) (q2.trans Ik);have hz2:es2.size=es.size+1:=by have:=p2.length_eq;simp at this;exact this.trans hes
    refine aa (wpAny_storeSet_of hX.get rfl ?_ (Jw (a_ (f_ hz2) (a_ g2 (a_ C_ g5)))));refine aj (aj (h _ (n+1) true ((jy s.heap a _).trans (jy _ a _)) ⟨xs2,_,es2,_,t2,hX2,λk'=>?_,by rw[px2.length_eq,hlen],?_⟩ (bh _)))
    . exact(Il k').trans (px2.map (·.1)).mem_iff.symm
    . rw[T2.Yk,m2,hz2];exact t_ g4
  . rw[Bool.not_eq_true] at htf
    rw[htf];simp only[Bool.and_false,cu,ji];refine aj (aj (h _ (n+1) true (jy s.heap a _) ⟨xs',_,_,_,_,hX,Il,hlen,?_⟩ (bh _)));unfold tooFull at htf;rw[hf] at htf;rw[amh];simp at htf;exact htf
def amq{I:Addr}{P:Nat->Value->Prop}(W:WalksS prog w A.in1 I fp wr G n P St)(a:Addr)(haf:a∉fp)(ks:Xs)(hkl:ks.length=n)(ay1:∀i v x,P i v->ks[i]?=some x->∃tk,v=.int x tk)(hb:n<31) :
 ∀(k i n':Nat)(s:Shared),n-i=k->i<=n->St i s ->
  Eo w s.heap a (λk'=>k'∈ks.take i) n'->n'<=i ->
  (∀s' n'',Moved (a::wr) G s s'->Eo w s'.heap a (λk'=>k'∈ks) n''->n''<=n->R (.ok (.ret .none)) s') ->
  codeAny (model prog w) A (.builtin "set.update.loop" ⟨[.ref a,.ref I],[]⟩) R s:=by
 have haw:a∉wr:=λh=>haf (W.sub _ h)
 have Z5:∀b∈wr,b∈a::wr:=λb hb=>bc _ hb
 intro k
 induction k with
 |zero =>
  intro i n' s hk hi Xu hS Ov hR;have Xr:i=n:=by lia
  subst Xr;refine nq ue ?_;rw[j6 mj _];show wpAny _ A.in1 (pyNext (.ref I) >>= _) _ _ s;refine aa (W.done s _ _ Xu λs' hm=>?_);show wpAny _ A.in1 (ret Value.none) _ _ s';refine aj (hR s' n' (hm.mono Z5) ((hS.moved λo=>hm.heap a o haw).congr λk=>?_) Ov);rw[List.take_of_length_le (f_ hkl)]
 |succ k ih =>
  intro i n' s hk hi Xu hS Ov hR;have Ir:i<n:=by lia
  refine nq ue ?_;rw[j6 mj _];show wpAny _ A.in1 (pyNext (.ref I) >>= _) _ _ s;refine aa (W.item i s _ _ Ir Xu λv s' hP ay2 hm=>?_);have lx:i<ks.length:=b_ Ir (g_ hkl)
  have hgx:ks[i]?=some ks[i]:=by simp[lx]
  obtain⟨tk,rfl⟩:=ay1 i v _ hP hgx;have Vq:=hS.moved λo=>hm.heap a o haw
  show wpAny _ A.in1 (holding [Value.int ks[i] tk] (setAdd a (.int ks[i] tk)) >>= _) _ _ s';refine aa (jo ?_);unfold setAdd;refine jo ?_;refine aa (wpAny_pyHash_int ?_);refine ata (s:={ s' with toks:=s'.toks+1 }) Vq (by lia) λh' n2 b hsb hS2 Xv=>?_
  refine aj ⟨plainId_quiet mj _,ih (i+1) n2 _ (by lia) Ir (W.frame _ s' _ _ ay2 (xu _ _) λb hb o e=>?_) (hS2.congr λk=>?_) (a_ Xv (v_ Ov)) λs'' n3 ay4 amk hn3=>?_⟩
  . rw[hsb.2 b (λh:b=a=>haf (by rw[<- h];exact hb))];exact e
  . rw[List.take_add_one,dw,hgx];simp
  . refine hR s'' n3 (Moved.trans W.gtrans ((hm.mono Z5).then_heap (xu _ _) λb o hb e=>?_) ay4) amk hn3
    rw[hsb.2 b (λh:b=a=>hb (by rw[h];exact di))];exact e
def aju{id:String}(hh:A.handled=none)(hS:Eo w s.heap a (λ_=>False) 0)(hl:s.heap.IsList l items)(hit:PyProof.Rows.IntsAre items.toList ks)(hlen:ks.length<31)(h:∀h' tk n',(∀b o,b≠a->s.heap.get? b=some o->h'.get? b=some o)->Eo w h' a (λk=>k∈ks) n'->n'<=ks.length->Q () { s with heap:=h',toks:=tk }) :
 wpAny (model prog w) A (Builtin.Frozenset.updateFrom id a (.ref l)) Q E s:=by
 have hT:s.TypeIs (.ref l) "list" := let ⟨o,ho,hc,_⟩:=hl;⟨o,ho,hc⟩;have hsz:items.size=ks.length:=by rw[<- vh];exact PyProof.Rows.IntsAre.length hit
 obtain⟨oa,esa,epa,ta,hga,hca,hda,hfa⟩:=hS.get;unfold Builtin.Frozenset.updateFrom;refine aa (G3 hT F.sub_list_set F.sub_list_frozenset ?_);simp only[cu,ji];refine aa (uv hT ?_);rw[bw (by decide)];refine aa (wpAny_pyIter_list hl ?_);refine aa (wpAny_runValue ?_);have Ir:l<s.heap.objs.size:=let ⟨o,ho,_⟩:=hl;az ho
 have hat:a<s.heap.objs.size:=az hga
 have hla:l≠a:=by rintro rfl;obtain⟨o,ho,_,n,hd⟩:=hl;rw[ho] at hga;cases hga;rw[hd] at hda;cases hda
 have ay5:l≠s.heap.objs.size:=dz Ir;have haf:a∉[s.heap.objs.size,l]:=by simp only[bz,xr,or_false,not_or];exact⟨dz hat,λe=>hla e.symm⟩
 have keep:∀b o,s.heap.get? b=some o->(s.heap.push { cls:=.type "list_iterator",data:=.fields #[.ref l,.int 0 0] }).get? b=some o:=λb o e=>au _ e
 refine amq ((Walks.list (by simp[hh]) _ l ay5 items).toS) a haf ks hsz.symm (λi v x hv hx=>?_) (c_ (f_ hsz) hlen) items.size 0 0 _ rfl (ju _)
  ⟨⟨_,bu _ rfl,rfl,rfl⟩,hl.push _⟩ ?_ (bh _) ?_
 . obtain⟨tk,e⟩:=PyProof.Rows.IntsAre.int_at hit i v (by rw[p8];exact hv)
   rw[dg,hx] at e;exact⟨tk,e⟩
 . refine(hS.moved λo e=>keep a o e).congr λk=>by simp
 . intro s' n'' hm Vq a5t
   obtain⟨h',g',d',tk',os'⟩:=s';have eg:g'=s.gens:=hm.gens;have ed:d'=s.drawn:=hm.drawn;have eo:os'=s.os:=hm.os;subst eg;subst ed;subst eo;show wpAny _ _ _ _ _ _;refine aj (h h' tk' n'' (λb o hb e=>?_) Vq (a_ a5t (f_ hsz)));refine hm.heap b o ?_ (keep b o e);simp only[bz,xr,or_false,not_or];exact⟨hb,dz (az e)⟩
def ajv(hh:A.handled=none)(hl:s.heap.IsList l items)(hit:PyProof.Rows.IntsAre items.toList ks)(hlen:ks.length<31)(h:∀h' tk n',(∀b o,s.heap.get? b=some o->h'.get? b=some o)->Eo w h' s.heap.objs.size (λk=>k∈ks) n'->n'<=ks.length->Q (.ref s.heap.objs.size) { s with heap:=h',toks:=tk }) :
 wpAny (model prog w) A (call (.type "set") [.ref l]) Q E s:=by
 refine Mt (R:=λs'=>∃h' tk n',s'={ s with heap:=h',toks:=tk }/\(∀b o,s.heap.get? b=some o->h'.get? b=some o)/\Eo w h' s.heap.objs.size (λk=>k∈ks) n'/\n'<=ks.length)
  (aju (s:={ s with heap:=s.heap.push (Av w) }) (by simp[hh]) (amo (bu _ rfl)) (hl.push _) hit hlen λh' tk n' hk Vq Ov=>⟨h',tk,n',rfl,λb o e=>hk b o (dz (az e)) (au _ e),Vq,Ov⟩)
  λs' ⟨h',tk,n',e,hk,Vq,Ov⟩=>by subst e;exact h h' tk n' hk Vq Ov
def Vt:entryFor table "set.__iter__" = some Builtin.«frozenset.__iter__» :=
 entryFor_alias (id' := "frozenset.__iter__") (by kernel_rfl) rfl (by decide+kernel) (by kernel_rfl)
def Bp:Slot "set_iterator" "__next__" "set_iterator.__next__" :=
 .of (owner := "set_iterator") (n := "__next__") (by rw[typeLookup_type,builtinLookup_eq_fast];kernel_rfl) (by decide+kernel) (by decide+kernel) (by decide+kernel)
  (by first|exact .inl (by decide+kernel)|exact .inr (by decide+kernel)) (by rw[isSubtype_type];kernel_rfl)
def Lr:Slot "set_iterator" "__iter__" "set_iterator.__iter__" :=
 .of (owner := "set_iterator") (n := "__iter__") (by rw[typeLookup_type,builtinLookup_eq_fast];kernel_rfl) (by decide+kernel) (by decide+kernel) (by decide+kernel)
  (by first|exact .inl (by decide+kernel)|exact .inr (by decide+kernel)) (by rw[isSubtype_type];kernel_rfl)
def Jx:entryFor table "set_iterator.__next__" = some Builtin.«set_iterator.__next__»:=entryFor_of_fast (by kernel_rfl)
def Sh:entryFor table "set_iterator.__iter__" = some Builtin.«dict_keyiterator.__iter__» :=
 entryFor_alias (id' := "dict_keyiterator.__iter__") (by kernel_rfl) rfl (by decide+kernel) (by kernel_rfl)
def Ls(a:Value):argsOk "set_iterator.__next__" ⟨[a],[]⟩:=by unfold argsOk;kernel_rfl
def Uw(a:Value):argsOk "set_iterator.__iter__" ⟨[a],[]⟩:=by unfold argsOk;kernel_rfl
def afo(hs:Srt xs):below xs 0=0:=by
 obtain⟨h1,h2,h3⟩:=Er (j:=0) hs;rcases Nat.eq_zero_or_pos (below xs 0) with e|e
 . exact e
 . have l:0<xs.size:=b_ e h1
   have:=h2 0 xs[0] (by simp[l]) e
   lia
def afp(hs:Srt xs)(h:xs[i]?=some j):below xs (j+1)=i+1:=by
 obtain⟨h1,h2,h3⟩:=Er (j:=j+1) hs;have a1:i<below xs (j+1):=by
  rcases yh i (below xs (j+1)) with l|l
  . exact l
  . have:=h3 i j h l;lia
 have a2:¬i+1<below xs (j+1):=λl=>by
  have l2:i+1<xs.size:=b_ l h1
  have e2:xs[i+1]?=some xs[i+1]:=by simp[l2]
  have:=h2 (i+1) _ e2 l;have:=hs i (i+1) j _ h e2 B_
  lia
 exact u_ (s_ a2) a1
noncomputable def wkN(w:World)(a:Addr)(es:Array (Int×Value))(ep:Nat):Array (Int×Value):=if bt w then pickOrder (w.params.setOrder a ep) es else es
def ace:(wkN w a es ep).toList.Perm es.toList:=by
 unfold wkN;split
 . exact Yn _ _
 . exact yz _
def Vu:(wkN w a es ep).size=es.size:=by have:=(ace (w:=w) (a:=a) (es:=es) (ep:=ep)).length_eq;simpa using this
noncomputable def itN(a:Addr)(slot i n ep:Nat):Obj:={ cls:=.type "set_iterator",data:=.fields #[.int slot 0,.int i 0,.ref a,.int n 0,.int ep 0] }
set_option tactic.hygienic true in
def axp(X:Ku w s.heap a xs o es ep t){slot:Nat}(hb:bt w=false->below t.place slot=i)(hs:∀e sl,(wkN w a es ep)[i]?=some e->(bt w=false->below t.place sl=i+1)->Q (some (e.2,sl)) s)(hn:(wkN w a es ep)[i]?=none->Q none s) :
 wpAny (model prog w) A (setNext a slot i ep) Q E s:=by
 unfold setNext;refine aa (jq X.get X.dat X.tab.fits ?_);dsimp only;refine aa (Va ?_);cases hbt:bt w with
 |true =>
  simp only[jx,yq,cu,ji];refine aa ?_;unfold setWalk;refine aa (jq X.get X.dat X.tab.fits ?_);dsimp only;refine aa (Va ?_);rw[hbt];simp only[jx];refine aa (wpAny_askSetting (aj (aj ?_)));have ew:wkN w a es ep=pickOrder (w.params.setOrder a ep) es:=by unfold wkN;rw[hbt];rfl
  show Q (((pickOrder (w.params.setOrder a ep) es)[i]?).map _) s;rw[<- ew];cases hg:(wkN w a es ep)[i]? with
  |none=>exact hn hg|some e=>exact hs e slot hg (λc=>by rw[hbt] at c;cases c)
 |false =>
  have ew:wkN w a es ep=es:=by unfold wkN;rw[hbt];rfl
  simp only[cu,ji];split
  . rename_i hd
    have hd:(!t.plain&&decide (es.size > 1))=true:=hd;rw[X.pla] at hd;cases hd
  . refine aa ?_
    have fin:Q (match es[below t.place slot]?,t.place[below t.place slot]? with|some (_,x),some j=>some (x,j+1)|_,_=>none) s:=by
     rw[hb hbt];cases hg:es[i]? with
     |none=>exact hn (by rw[ew];exact hg)
     |some e =>
      have li:i<t.place.size:=by rw[X.tab.Yk];exact(jk.mp hg).1
      have hp:t.place[i]?=some t.place[i]:=by simp[li]
      rw[hp];exact hs e _ (by rw[ew];exact hg) (λ_=>afp X.tab.srt hp)
    have:wpAny (model prog w) A (if(!t.led&&!es.isEmpty)=true then unsupported "set:maker-not-led" else pure ()) (λ_ s'=>wpAny (model prog w) A (pure (match es[below t.place slot]?,t.place[below t.place slot]? with|some (_,x),some j=>some (x,j+1)|_,_=>none)) Q E s') E s:=by rw[X.led,hbt];simp only[yx,q9,Bool.false_and,cu,ji];exact aj (aj fin)
    exact this
set_option tactic.hygienic true in
def amr{I:Addr}(X:Ku w s.heap a xs o es ep t){slot:Nat}(hI:s.heap.get? I=some (itN a slot i es.size ep))(hb:bt w=false->below t.place slot=i)(he:(wkN w a es ep)[i]?=some e)(hQ:∀h' sl,h'.get? I=some (itN a sl (i+1) es.size ep)->(bt w=false->below t.place sl=i+1)->Heap.SameBut I s.heap h'->Q (some e.2) { s with heap:=h' }) :
 wpAny (model prog w) A (pyNext (.ref I)) Q E s:=by
 have hT:s.TypeIs (.ref I) "set_iterator" := ⟨_,hI,rfl⟩;unfold pyNext;refine aa (wpAny_attempt (j7 (name:=Str.ofString "__next__") hT Bp
  (jw Bp hT Jx ?_ (Ls _))))
 unfold Builtin.«set_iterator.__next__»;refine aa (m:=slotArgs "__next__" 0 _) (aj ?_);refine aa (wpAny_fieldsOf hI rfl ?_);show wpAny _ _ (setEntries a >>= _) _ _ s;refine aa (lz X.get X.dat X.tab.fits ?_);rw[yq];simp only[cu,ji];show wpAny _ _ (setNext a slot i ep >>= _) _ _ s;refine aa (axp X hb (λe' sl he' hsl=>?_) (λhn=>by rw[hn] at he;cases he));rw[he'] at he;cases he;dsimp only;refine aa (jd hI (by simp) λh1 g1 sb1=>?_);refine aa (jd (s:={ s with heap:=h1 }) g1 (by simp) λh2 g2 sb2=>?_);exact aj ⟨_,rfl,aj (hQ h2 sl (by rw[g2];rfl) hsl (sb1.trans sb2))⟩
set_option tactic.hygienic true in
def atb{I:Addr}(hh:A.handled=none)(X:Ku w s.heap a xs o es ep t){slot:Nat}(hI:s.heap.get? I=some (itN a slot i es.size ep))(hb:bt w=false->below t.place slot=i)(he:(wkN w a es ep)[i]?=none)(hQ:∀h',Heap.ExtBut I s.heap h'->Q none { s with heap:=h' }) :
 wpAny (model prog w) A (pyNext (.ref I)) Q E s:=by
 have hT:s.TypeIs (.ref I) "set_iterator" := ⟨_,hI,rfl⟩;unfold pyNext;refine aa (wpAny_attempt (j7 (name:=Str.ofString "__next__") hT Bp
  (jw Bp hT Jx ?_ (Ls _))))
 unfold Builtin.«set_iterator.__next__»;refine aa (m:=slotArgs "__next__" 0 _) (aj ?_);refine aa (wpAny_fieldsOf hI rfl ?_);show wpAny _ _ (setEntries a >>= _) _ _ s;refine aa (lz X.get X.dat X.tab.fits ?_);rw[yq];simp only[cu,ji];show wpAny _ _ (setNext a slot i ep >>= _) _ _ s;refine aa (axp X hb (λe' sl he' hsl=>by rw[he'] at he;cases he) (λhn=>?_));dsimp only;refine aa (jd hI (by simp) λh1 g1 sb1=>?_);show wpAny _ _ (newExc (.type "StopIteration") [] >>= _) _ _ _;refine aha (show A.in1.handled=none from hh) λh' x k z_=>?_
 obtain⟨o,e1,e2⟩:=z_;exact aa (o8 (T := "StopIteration") (b:=true) ⟨o,e1,e2⟩ isSubtype_stop (aj (hQ _ λb o n z=>k b o (sb1.extBut b o n z))))
def ItS(w:World)(a I:Addr)(xs:List (Int×Tok))(o:Obj)(es:Array (Int×Value))(ep:Nat)(t:SetTable)(i:Nat)(h:Heap):Prop :=
 Ku w h a xs o es ep t/\∃slot,h.get? I=some (itN a slot i es.size ep)/\(bt w=false->below t.place slot=i)
def Ku.at(X:Ku w h a xs o es ep t)(e:h'.get? a=some o):Ku w h' a xs o es ep t:=⟨e,X.exa,X.dat,X.tab,X.ent,X.nod,X.led,X.pla⟩
theorem Walks.bcv{I:Addr}(hh:A.handled=none)(Tw:a≠I)(xs:List (Int×Tok))(o:Obj)(es:Array (Int×Value))(ep:Nat)(t:SetTable) :
 Walks prog w A I [I,a] [I] es.size (λi v=>((wkN w a es ep)[i]?).map (·.2)=some v) (ItS w a I xs o es ep t) where
 sub:=λb hb=>by simp at hb;simp[hb]
 frame:=λ_ _ _ st hk=>⟨st.1.at (hk a (by simp) o st.1.get),let ⟨sl,e,r⟩:=st.2;⟨sl,hk I (by simp) _ e,r⟩⟩
 item:=λi s Q E hi st hQ=>by
  obtain⟨X,slot,hI,hb⟩:=st;have he:(wkN w a es ep)[i]?=some ((wkN w a es ep)[i]'(by rw[Vu];exact hi)):=by simp[Vu,hi]
  refine amr X hI hb he λh' sl g r sb=>hQ _ h' s.toks (by rw[he];rfl) ⟨X.at ((sb.2 a Tw).trans X.get),sl,g,r⟩ λb o hb e=>(sb.2 b (λh=>hb (by simp[h]))).trans e
 done:=λs Q E st hQ=>by obtain⟨X,slot,hI,hb⟩:=st;exact atb hh X hI hb (by simp[Vu]) λh' he'=>hQ h' s.toks λb o hb e=>he' b o (λh=>hb (by simp[h])) e
 self:=λ_ s _ _ st hQ=>by obtain⟨X,slot,hI,hb⟩:=st;have hT:s.TypeIs (.ref I) "set_iterator" := ⟨_,hI,rfl⟩;refine wpAny_pyIter_slot hT Lr (jw Lr hT Sh ?_ (Uw _));show wpAny _ _ (ret (.ref I)) _ _ s;exact aj ⟨_,rfl, "set_iterator",_,hT,Bp.lookup,hQ⟩
def a6a(X:Ku w s.heap a xs o es ep t)(hQ:Q (.ref s.heap.objs.size) { s with heap:=s.heap.push (itN a 0 0 es.size ep) }):wpAny (model prog w) A (pyIter (.ref a)) Q E s:=by
 have hT:s.TypeIs (.ref a) "set" := ⟨o,X.get,X.exa.1⟩;refine wpAny_pyIter_slot hT F.slot_set_iter (jw F.slot_set_iter hT Vt ?_ (F.args_set_iter_1 _));unfold Builtin.«frozenset.__iter__» Builtin.Frozenset.slot0 slotArgs;simp only[List.isEmpty_nil,q9,cu,↓reduceIte,bind_assoc,List.length_nil,yq];unfold Builtin.Frozenset.addrOf Builtin.Frozenset.sizeOf;refine aa (aj ?_)
 try dsimp only
 refine aa (aj ?_);refine aa (aa (lz X.get X.dat X.tab.fits (aj ?_)));refine aa ?_;unfold setDrawn;refine aa (jq X.get X.dat X.tab.fits ?_);dsimp only;refine aa (Va (aj ?_));have hd:(!bt w&&(!t.plain&&decide (es.size > 1)))=false:=by rw[X.pla];simp
 show wpAny _ _ (if(!bt w&&(!t.plain&&decide (es.size > 1)))=true then _ else _) _ _ s;rw[hd];simp only[cu,ji];refine aa (aj (aa (wpAny_setEpoch_of X.get X.dat X.tab.fits ?_)));exact aa (tu (aj ⟨_,rfl, "set_iterator",_,⟨_,bu _ rfl,rfl⟩,Bp.lookup,hQ⟩))
def a6b(hT:s.TypeIs (.ref a) "set")(h:Q false s):wpAny (model prog w) A (Builtin.List.listLengthHint (.ref a)) Q E s:=by
 unfold Builtin.List.listLengthHint;refine aa (wpAny_specialOf hT F.slot_set_len.lookup ?_)
 (generalize hid:("set.__len__" : String)=id0;(fail_if_success (clear hid id0));wp_delta;rw[show splitId id0=some ("set", "__len__") from by subst hid;decide+kernel];subst hid)
 refine aa (o8 (b:=true) hT sub_set_self ?_);refine aa (uv hT ?_);exact aj h
def ams(hh:A.handled=none)(X:Ku w s.heap a xs o es ep t)(hz:es.size<=sizeLine)(h:∀h' tk acc,(∀b o,s.heap.get? b=some o->h'.get? b=some o)->s.heap.objs.size<=h'.objs.size->ItemsOf (λi v=>((wkN w a es ep)[i]?).map (·.2)=some v) acc es.size->Q acc.toList { s with heap:=h',toks:=tk }) :
 wpAny (model prog w) A (collect (.ref a)) Q E s:=by
 have Ir:a<s.heap.objs.size:=az X.get
 have hSa:s.heap.objs.size≠a:=v5 Ir;unfold collect;refine aa (wpAny_runValue (nq F.entry_proto_collect ?_));rw[j6 F.plain_proto_collect _];show wpAny _ A.in1 (newList [] >>= λl=>again (.builtin "list.__iadd__" ⟨[l,.ref a],[]⟩)) _ _ s;refine aa (tu ?_);refine aj ⟨plainId_quiet F.plain_list_iadd _,nq F.entry_list_iadd ?_⟩;rw[j6 F.plain_list_iadd _];have X1:Ku w (s.heap.push { cls:=.type "list",data:=.seq ([]:Zl).toArray }) a xs o es ep t:=X.at (au _ X.get);have hT1:Shared.TypeIs { s with heap:=s.heap.push { cls:=.type "list",data:=.seq ([]:Zl).toArray } } (.ref a) "set" := ⟨o,X1.get,X1.exa.1⟩;have h1:Builtin.List.listSameRef (.ref s.heap.objs.size) (.ref a)=false:=by simp[Builtin.List.listSameRef,hSa]
 show wpAny _ A.in1 (Builtin.List.listExtendWith (.ref s.heap.objs.size) (.ref a) (.ref s.heap.objs.size)) _ _ _;unfold Builtin.List.listExtendWith;refine aa (uv hT1 ?_);rw[bw (by rw[h1];decide)];refine aa (a6a (s:={ s with heap:=s.heap.push { cls:=.type "list",data:=.seq ([]:Zl).toArray } }) X1 ?_);have sz1:(s.heap.push { cls:=.type "list",data:=.seq ([]:Zl).toArray }).objs.size=s.heap.objs.size+1:=iu ..;show wpAny _ A.in1 (holding [.ref (s.heap.push { cls:=.type "list",data:=.seq ([]:Zl).toArray }).objs.size] (Builtin.List.listLengthHint (.ref a)) >>= _) _ _ { s with heap:=(s.heap.push { cls:=.type "list",data:=.seq ([]:Zl).toArray }).push (itN a 0 0 es.size ep) };have gI:((s.heap.push { cls:=.type "list",data:=.seq ([]:Zl).toArray }).push (itN a 0 0 es.size ep)).get? (s.heap.push { cls:=.type "list",data:=.seq ([]:Zl).toArray }).objs.size=some (itN a 0 0 es.size ep):=bu _ rfl;have gS:((s.heap.push { cls:=.type "list",data:=.seq ([]:Zl).toArray }).push (itN a 0 0 es.size ep)).get? s.heap.objs.size=some { cls:=.type "list",data:=.seq ([]:Zl).toArray }:=au _ (bu _ rfl);have ay9:∀b o,s.heap.get? b=some o->((s.heap.push { cls:=.type "list",data:=.seq ([]:Zl).toArray }).push (itN a 0 0 es.size ep)).get? b=some o:=λb o e=>au _ (au _ e)
 have gsz:s.heap.objs.size<=((s.heap.push { cls:=.type "list",data:=.seq ([]:Zl).toArray }).push (itN a 0 0 es.size ep)).objs.size:=by rw[iu,sz1];exact a_ x_ x_
 generalize(s.heap.push { cls:=.type "list",data:=.seq ([]:Zl).toArray }).push (itN a 0 0 es.size ep)=hp at *;rw[sz1] at gI ⊢;have X2:Ku w hp a xs o es ep t:=X.at (ay9 a o X.get);refine aa (jo (a6b ⟨o,X2.get,X2.exa.1⟩ ?_));rw[cz (by decide+kernel)];refine aa (wpAny_rule ?_);refine aa ?_;show wpAny _ A.in1 (updateSeq s.heap.objs.size (·.push .none) >>= λ_=>updateSeq s.heap.objs.size (·.pop)) _ _ _;refine aa (wpAny_updateSeq gS rfl ?_);have hS₂:=m5 (Obj.mapSeq (·.push Value.none)) gS rfl;refine wpAny_updateSeq (hz:=by seq_fits) hS₂ rfl ?_;have hS₃:=m5 (Obj.mapSeq (·.pop)) hS₂ rfl;have oth:∀b o,b≠s.heap.objs.size->hp.get? b=some o->((hp.update s.heap.objs.size (Obj.mapSeq (·.push Value.none))).update s.heap.objs.size (Obj.mapSeq (·.pop))).get? b=some o :=
  λb o hb e=>(uq _ _ (j0 hb)).trans ((uq _ _ (j0 hb)).trans e)
 have sz3:((hp.update s.heap.objs.size (Obj.mapSeq (·.push Value.none))).update s.heap.objs.size (Obj.mapSeq (·.pop))).objs.size=hp.objs.size:=by rw[Heap.size_update,Heap.size_update]
 generalize(hp.update s.heap.objs.size (Obj.mapSeq (·.push Value.none))).update s.heap.objs.size (Obj.mapSeq (·.pop))=h3 at *;have W:=(Walks.bcv (prog:=prog) (w:=w) (A:=A.in1) (I:=s.heap.objs.size+1) (a:=a) hh (dz (qd Ir)) xs o es ep t).toS;refine aj ⟨plainId_quiet F.plain_extend_loop _,codeAny_extend_loopS W hz _ (by simp only[bz,xr,or_false,not_or];exact⟨dz (p7 _),hSa⟩) _ es.size 0 _ _ _ rfl (ju _)
  ⟨X.at (oth a o (j0 hSa) (ay9 a o X.get)),0,oth _ _ (v5 (p7 _)) gI,λ_=>afo X.tab.srt⟩ hS₃ (ItemsOf.nil _) λs' acc' c' hm Vq Es=>?_⟩
 show wpAny _ A (load s.heap.objs.size >>= _) _ _ s';refine aa (wpAny_load Vq ?_);obtain⟨h',g',d',tk',os'⟩:=s';have eg:g'=s.gens:=hm.gens;have ed:d'=s.drawn:=hm.drawn;have eo:os'=s.os:=hm.os;subst eg;subst ed;subst eo;refine aj (h h' tk' acc' (λb o e=>?_) ?_ Es)
 . have hb:=az e
   exact hm.heap b o (by simp only[bz,xr,or_false,not_or];exact⟨dz hb,dz (qd hb)⟩) (oth b o (dz hb) (ay9 b o e))
 . have:=az Vq
   exact zp this
def afq{s:Shared}(X:Ku w s.heap a xs o es ep t)(Es:ItemsOf (λi v=>((wkN w a es ep)[i]?).map (·.2)=some v) acc es.size) :
 ∃ns:List Int,PyProof.Rows.IntsAre acc.toList ns/\ns.Perm (xs.map (·.1)):=by
 obtain⟨ys,ey,py⟩:=Dt (f:=enI) (ace (w:=w) (a:=a) (es:=es) (ep:=ep)) X.ent;have e1:acc.toList=ys.map λy=>Value.int y.1 y.2:=by
  apply vd;intro i;have hz:acc.toList.length=es.size:=by simpa using Es.1
  have hy:ys.length=es.size:=by rw[py.length_eq,<- X.size]
  by_cases li:i<es.size
  . have e2:acc.toList[i]?=some (acc.toList[i]'(b_ li (g_ hz))):=by simp[hz,li]
    have e3:=Es.2 i _ (by rw[<- p8];exact e2);rw[e2,<- e3,<- p8,ey,gr,gr];cases ys[i]?<;>rfl
  . rw[kj (a_ (f_ hz) (s_ li)),kj (by simp;exact a_ (f_ hy) (s_ li))]
 refine⟨ys.map (·.1),?_,py.map _⟩;rw[e1];clear e1 py ey Es
 induction ys with
 |nil=>exact .nil|cons y ys ih=>exact .cons _ _ ih
def acf(hh:A.handled=none)(hS:Eo w s.heap a S n)(hn:n<31)(h:∀(h':Heap) (tk:Nat) (p:Addr) (out:U1) (ns:Xs),(∀b o,s.heap.get? b=some o->h'.get? b=some o)->s.heap.objs.size<=p->PyProof.Rows.IntsAre out.toList ns->ns.Pairwise (·<=·)->ns.Nodup->(∀k,S k↔k∈ns) ->
 (∃c,h'.get? p=some (PyProof.Rows.seqObj "list" out c))->Q (.ref p) { s with heap:=h',toks:=tk }) :
 wpAny (model prog w) A (call (.builtin "sorted") [.ref a]) Q E s:=by
 obtain⟨xs,o,es,ep,t,X,hm,hl,nf⟩:=hS;have hsz:=X.size;refine Calls.call_function_entry PyProof.Rows.kind_sorted PyProof.Rows.plain_sorted PyProof.Rows.entry_sorted (PyProof.Rows.args_sorted1 _) ?_;unfold Builtin.«sorted»;refine aa (m:=checkCount "sorted" 1 1 _) (aj ?_);refine aa (ams (by simpa using hh) X (by rw[qy];exact e_ (c_ (f_ hsz) (c_ (f_ hl) (b_ hn (by decide))))) λh1 tk acc keep hz1 Es=>?_);obtain⟨ns,hI,pn⟩:=afq X Es;have hlen:acc.toList.length=n:=by have:=Es.1;simp;exact u_ (a_ (f_ this) (a_ (f_ hsz) (f_ hl))) (a_ (g_ hl) (a_ (g_ hsz) (g_ this)))
 have eac:acc=acc.toList.toArray:=by simp
 refine aa (wpAny_newList ?_ (by rw[qy];exact e_ (c_ (f_ hlen) (b_ hn (by decide)))));have hoL:(h1.push (PyProof.Rows.seqObj "list" acc.toList.toArray 0)).get? h1.objs.size=some (PyProof.Rows.seqObj "list" acc.toList.toArray 0):=bu _ rfl;refine aa (jo (jw PyProof.Rows.slot_list_sort ⟨_,hoL,rfl⟩ PyProof.Rows.entry_list_sort (PyProof.Rows.list_sort_tree (s:={ s with heap:=h1.push (PyProof.Rows.seqObj "list" acc.toList.toArray 0),toks:=tk }) hoL hI (c_ (f_ hlen) (b_ hn (by decide))) λout ns' a1 a2 a3=>⟨_,rfl,?_⟩) (PyProof.Rows.args_list_sort _)));have p2:=a2.trans pn;refine aj ⟨_,rfl,h _ tk h1.objs.size out ns' (λb o e=>?_) hz1 a1 a3 (p2.nodup_iff.mpr X.nod) (λk=>(hm k).trans p2.mem_iff.symm) (PyProof.Rows.sortedHeap_at hoL)⟩;have hb1:=keep b o e;have Ir:=az hb1;rw[PyProof.Rows.sortedHeap_old (dz Ir) (by rw[iu];exact qd Ir),Heap.get?_push_ne _ _ _ (dz Ir)];exact hb1
end Yh
namespace MW
open PySem (Str)
set_option genInjectivity true in
inductive D where
 |non|bl (b:Bool)|int (i:Int)|str (s:Str)|tup (ds:List D)|vl (ds:List D)|fz (ds:List D)|ref (n:Nat)
noncomputable abbrev Kx:=Sum Int Str
set_option genInjectivity true in
inductive MO where
 |lst (ds:List D)|dT (ie:List (List Kx×D))|dK (ie:List (Kx×D))|ins (c:Nat) (fs:List (Nat×D))
noncomputable abbrev dh:=List MO
noncomputable abbrev Env:=List (Option D)
set_option genInjectivity true in
inductive Res(α:Type) where
 |ok (a:α) (M:dh)|err (c:Nat) (M:dh)|bad
namespace Res
noncomputable def bind{α β:Type}(r:Res α)(f:α->dh->Res β):Res β :=
 match r with|ok a M=>f a M|err c M=>err c M|bad=>bad
@[simp] def Bl(a:α)(M:dh)(f:α->dh->Res β):(ok a M).bind f=f a M:=rfl
@[simp] def a6e(c:Nat)(M:dh)(f:α->dh->Res β):(err c M:Res α).bind f=err c M:=rfl
@[simp] def a6f(f:α->dh->Res β):(bad:Res α).bind f=bad:=rfl
noncomputable def vg{α:Type}(o:Option α)(M:dh):Res α:=match o with|some a=>ok a M|none=>bad
@[simp] def Dl(a:α)(M:dh):vg (some a) M=ok a M:=rfl
@[simp] def aza(M:dh):vg (none:Option α) M=bad:=rfl
end Res
inductive Op2 where|add|amt|sub|mul|fdiv|mod|pow
inductive Cp where|eq|ne|lt|le|gt|ge|is|Lw|inn|Qx
inductive Blt where
 |len|tuple|max|min|dict|all|isTuple|Fw
inductive Bm where|append|index|get
inductive Tg where
 |name (i:Nat)|names (is:Y3)
mutual
inductive Ex where
 |var (i:Nat)|cst (d:D)
 |bin (op:Op2) (a b:Ex)|neg (a:Ex)
 |cmp (op:Cp) (a b:Ex)|chain (o1 o2:Cp) (a b c:Ex)
 |and (a b:Ex)|or (a b:Ex)|not (a:Ex)|ite (c a b:Ex)
 |tup (es:Cr)|lst (es:Cr)|Hb (es:Cr)|ajx|Z8
 |ix (a b:Ex)|cut (a:Ex) (lo hi:OEx)
 |call (f:Nat) (es:Cr)|make (c:Nat) (es:Cr)|meth (o:Ex) (m:Nat) (es:Cr)|fld (o:Ex) (f:Nat)
 |blt (b:Blt) (es:Cr)|bm (m:Bm) (o:Ex) (es:Cr)
 |comp (v:Bool) (k:Nat) (t:Tg) (it:Ow) (e:Ex)|Dh (v:Bool) (k:Nat) (t:Tg) (it:Ow) (c:Ex) (e:Ex)
 |Vv (a b:Ex)|Xw (e:Ex)|afr (e:Ex)
inductive Cr where
 |nil|cons (e:Ex) (es:Cr)
inductive OEx where
 |none|some (e:Ex)
inductive Ow where
 |val (e:Ex)|Im (e:Ex)|enm (e:Ex)|zip (es:Cr)
end
noncomputable abbrev Ex.v:=Ex.var
noncomputable abbrev Ex.i(n:Int):Ex:=.cst (.int n)
noncomputable abbrev Ex.l(e:Ex):Ex:=.blt .len (.cons e .nil)
noncomputable abbrev Cr.z:=Cr.nil
noncomputable abbrev Cr.c:=Cr.cons
noncomputable abbrev Cr.o(a:Ex):Cr:=.cons a .nil
noncomputable abbrev Cr.p(a b:Ex):Cr:=.cons a (.cons b .nil)
noncomputable abbrev Cr.q(a b c:Ex):Cr:=.cons a (.cons b (.cons c .nil))
inductive Lv where
 |tg (t:Tg)|sub (o i:Ex)|fld (o:Ex) (f:Nat)
mutual
inductive By where
 |asg (l:Lv) (e:Ex)|expr (e:Ex)|iff (c:Ex) (a b:o7)|whl (c:Ex) (b:o7)|for_ (t:Tg) (it:Ow) (b:o7)
 |ret (e:Ex)|atc|brk|cont|pass|raise (c:Nat) (es:Cr)
inductive o7 where
 |nil|cons (s:By) (r:o7)
end
noncomputable abbrev By.a(i:Nat)(e:Ex):By:=.asg (.tg (.name i)) e
noncomputable abbrev By.f(c:Ex)(b:o7):By:=.iff c b .nil
noncomputable abbrev o7.z:=o7.nil
noncomputable abbrev o7.c:=o7.cons
noncomputable abbrev o7.o(a:By):o7:=.cons a .nil
noncomputable abbrev o7.p(a b:By):o7:=.cons a (.cons b .nil)
noncomputable abbrev o7.q(a b c:By):o7:=.cons a (.cons b (.cons c .nil))
structure Fn where
 np:Nat
 ns:Nat
 body:o7
structure Cl where
 init:Nat
 meths:List (Nat×Nat)
noncomputable def fc(M:dh):D->Option (List D)
 |.vl ds=>some ds|.ref n=>match M[n]? with|some (.lst ds)=>some ds|_=>none
 |_=>none
noncomputable def Bq(M:dh):D->Option (List D)
 |.tup ds=>some ds|d=>fc M d
noncomputable def Sq:D->Option Kx
 |.int i=>some (.inl i)|.str s=>some (.inr s)|_=>none
noncomputable def Z9:List D->Option (List Kx)
 |[]=>some []
 |d::ds=>match Sq d,Z9 ds with
  |some k,some ks=>some (k::ks)|_,_=>none
noncomputable def Ux:D->Option (List Kx)
 |.tup ds=>Z9 ds|_=>none
noncomputable def amu:Kx->D
 |.inl i=>.int i|.inr s=>.str s
noncomputable def amv(ks:List Kx):D:=.tup (ks.map amu)
noncomputable def Du:List D->Option (List (List Kx))
 |[]=>some []
 |d::ds=>match Ux d,Du ds with
  |some k,some ks=>some (k::ks)|_,_=>none
noncomputable def Qv(f:D->D->Option Bool):List D->List D->Option Bool
 |[],[]=>some true
 |a::as,b::bs=>match f a b,Qv f as bs with
  |some x,some y=>some (x&&y)|_,_=>none
 |_,_=>some false
instance:DecidableEq Kx:=inferInstanceAs (DecidableEq (Sum Int Str))
noncomputable def vq{κ:Type}[DecidableEq κ](ie:List (κ×D))(k:κ):Option D:=(ie.find? λp=>decide (p.1=k)).map (·.2)
noncomputable def Jy(M:dh):Nat->D->D->Option Bool
 |0,_,_=>none
 |n+1,a,b=>match a,b with
  |.int i,.int j=>some (decide (i=j))|.bl i,.bl j=>some (i==j)|.str i,.str j=>some (decide (i=j))|.non,.non=>some true|.tup as,.tup bs=>Qv (Jy M n) as bs
  |a,b=>match fc M a,fc M b with
   |some as,some bs=>if as.length=bs.length then Qv (Jy M n) as bs else some false
   |_,_=>none
noncomputable def xx(M:dh)(a b:D):Option Bool:=Jy M 6 a b
noncomputable def Qg(M:dh)(x:D):List D->Option (List Bool)
 |[]=>some []
 |y::ys=>match xx M y x,Qg M x ys with
  |some a,some b=>some (a::b)|_,_=>none
noncomputable def memD(M:dh)(x:D)(ds:List D):Option Bool:=(Qg M x ds).map (·.any id)
noncomputable def Xx(M:dh)(x:D)(ds:List D):Option Nat:=(Qg M x ds).bind (·.findIdx? id)
noncomputable def Yo:List D->Option (List Int)
 |[]=>some []|.int i::r=>(Yo r).map (i::·)|_::_=>none
noncomputable def Uy(n:Nat)(i:Int):Option Nat:=if 0<=i then(if i<n then some i.toNat else none) else if -(n:Int)<=i then some (i+n).toNat else none
noncomputable def clip(n:Nat)(d:Nat):Option Int->Nat
 |none=>d|some i=>if 0<=i then min i.toNat n else(i+n).toNat
noncomputable def afs(ds:List D)(lo hi:Option Int):List D:=(ds.drop (clip ds.length 0 lo)).take (clip ds.length ds.length hi-clip ds.length 0 lo)
noncomputable def azb:List Int->Option Int
 |[]=>none|a::r=>some (r.foldl (λm x=>if m<x then x else m) a)
noncomputable def a6g:List Int->Option Int
 |[]=>none|a::r=>some (r.foldl (λm x=>if x<m then x else m) a)
noncomputable def insI(x:Int):List Int->List Int
 |[]=>[x]|y::ys=>if x<y then x::y::ys else y::insI x ys
noncomputable def sortI(xs:Xs):List Int:=xs.foldr insI []
noncomputable def Ao:List Int->List Int
 |[]=>[]|x::xs=>if x∈xs then Ao xs else x::Ao xs
noncomputable def keysOf(M:dh)(d:D):Option (List D) :=
 match d with
 |.ref n=>match M[n]? with
  |some (.dT ie)=>some (ie.map λp=>amv p.1)
  |_=>fc M d
 |_=>fc M d
noncomputable def Cu{κ:Type}[DecidableEq κ](ie:List (κ×D))(k:κ)(v:D):List (κ×D) :=
 if(ie.any λkv=>decide (kv.1=k))=true then ie.map (λkv=>if kv.1=k then(kv.1,v) else kv) else ie++[(k,v)]
noncomputable def Dw(xs:List (List Kx)):Bool:=decide (xs.length<=30)&&xs.all λk=>k.all λx=>match x with|.inl _=>true|.inr _=>false
noncomputable def Iu(xs ys:List (List Kx)):Bool:=xs.all (λx=>ys.any λy=>decide (y=x))&&ys.all (λy=>xs.any λx=>decide (x=y))
noncomputable def new(o:MO)(M:dh):Res D:=.ok (.ref M.length) (M++[o])
noncomputable def amw(a b:D)(M:dh):Res D :=
 match a,b with
 |.int i,.int j=>.ok (.int (i+j)) M
 |x,y=>match fc M x,fc M y with
  |some xs,some ys=>if xs.length+ys.length<=100000 then .ok (.vl (xs++ys)) M else .bad
  |_,_=>.bad
noncomputable def aft(x y:D)(M:dh):Res D :=
 match fc M x,fc M y with
 |some xs,some ys=>if xs.length+ys.length<=100000 then new (.lst (xs++ys)) M else .bad
 |_,_=>.bad
noncomputable def ii{α:Type}(x y:D)(f:Int->Int->α)(z:α):α:=match x with|.int i=>(match y with|.int j=>f i j|_=>z)|_=>z
def aaa(h:ii x y f z=r)(hz:z≠r):∃i j,x=.int i/\y=.int j/\f i j=r:=by
 cases x with
 |int i=>cases y with
  |int j=>exact⟨i,j,rfl,rfl,h⟩|_=>exact absurd h hz
 |_=>exact absurd h hz
@[simp] def bcx(i j:Int)(f:Int->Int->α)(z:α):ii (.int i) (.int j) f z=f i j:=rfl
noncomputable def a6h(a b:D)(M:dh):Res D:=ii a b (λi j=>.ok (.int (i-j)) M) .bad
noncomputable def ach(a b:D)(M:dh):Res D:=match a with
 |.tup [d]=>(match b with|.int n=>if 0<=n/\n<=100000 then .ok (.tup (List.replicate n.toNat d)) M else .bad|_=>.bad)
 |_=>ii a b (λi j=>if(-(2 ^ 64)<i/\i<2 ^ 64)\/(-(2 ^ 64)<j/\j<2 ^ 64) then .ok (.int (i*j)) M else .bad) .bad
noncomputable def azc(a b:D)(M:dh):Res D:=ii a b (λi j=>if 0<j/\j<1073741824 then .ok (.int (i / j)) M else .bad) .bad
noncomputable def a6i(a b:D)(M:dh):Res D:=ii a b (λi j=>if 0<j then .ok (.int (i%j)) M else .bad) .bad
noncomputable def axq(a b:D)(M:dh):Res D:=ii a b (λi j=>if 0<=j/\j<=64/\i.natAbs<2 ^ 64 then .ok (.int (i ^ j.toNat)) M else .bad) .bad
noncomputable def Gg(op:Op2):D->D->dh->Res D :=
 match op with
 |.add=>amw|.amt=>aft|.sub=>a6h|.mul=>ach|.fdiv=>azc|.mod=>a6i|.pow=>axq
noncomputable def O9(M:dh)(a b:D):Option Bool :=
 match b with
 |.ref n=>match M[n]? with
  |some (.dT ie)=>(Ux a).map λk=>(vq ie k).isSome
  |some (.dK ie)=>(Sq a).map λk=>(vq ie k).isSome
  |_=>(Bq M b).bind (memD M a)
 |_=>(Bq M b).bind (memD M a)
noncomputable def amx(a b:D):Option Bool:=match b with
 |.non=>(match a with|.non=>some true|.tup _=>some false|.vl _=>some false|_=>none)
 |.bl y=>(match a with|.bl x=>some (x==y)|_=>none)
 |_=>none
noncomputable def aci(f:Int->Int->Bool)(a b:D):Option Bool:=ii a b (λi j=>some (f i j)) none
noncomputable def Et(op:Cp)(a b:D)(M:dh):Option Bool :=
 match op with
 |.lt=>aci (λi j=>decide (i<j)) a b
 |.le=>aci (λi j=>decide (i<=j)) a b
 |.gt=>aci (λi j=>decide (j<i)) a b
 |.ge=>aci (λi j=>decide (j<=i)) a b
 |.eq=>xx M a b|.ne=>(xx M a b).map not|.inn=>O9 M a b|.Qx=>(O9 M a b).map not|.is=>amx a b|.Lw=>(amx a b).map not
noncomputable def yu(a b:D)(M:dh):Option D :=
 match a with
 |.ref n=>match M[n]? with
  |some (.dT ie)=>(Ux b).bind (vq ie)|some (.dK ie)=>(Sq b).bind (vq ie)
  |_=>match fc M a,b with
   |some ds,.int i=>(Uy ds.length i).bind λj=>ds[j]?
   |_,_=>none
 |.fz ds=>match b with
  |.int i=>(Uy ds.length i).bind λj=>ds[j]?
  |_=>none
 |_=>match Bq M a,b with
  |some ds,.int i=>(Uy ds.length i).bind λj=>ds[j]?
  |_,_=>none
noncomputable def acj(a:D)(lo hi:Option Int)(M:dh):Option D:=(fc M a).map λds=>.vl (afs ds lo hi)
noncomputable def allB:List D->Option Bool
 |[]=>some true|.bl b::r=>(allB r).map (b&&·)|_::_=>none
noncomputable def afu(ie:List (List Kx×D)):Bool:=ie.all λp=>match p.1 with
 |[.inl i,.inl j]=>decide (-1<=i)&&decide (i<9)&&decide (-1<=j)&&decide (j<9)|_=>false
noncomputable def Mu(M:dh):D->Res D
 |.ref n=>match M[n]? with
  |some (.lst ds)=>.ok (.int ds.length) M|_=>.bad
 |.fz ds=>.ok (.int ds.length) M|.tup ds=>.ok (.int ds.length) M|.vl ds=>.ok (.int ds.length) M|_=>.bad
noncomputable def ahb(M:dh):D->Res D
 |.ref n=>match M[n]? with
  |some (.dT ie)=>if afu ie then new (.dT ie) M else .bad
  |some (.dK ie)=>new (.dK ie) M|_=>.bad
 |_=>.bad
noncomputable def isT:D->Option Bool
 |.tup _=>some true|_=>none
noncomputable def two(ds:List D)(f:Int->Int->Int)(g:D->Option Int)(M:dh):Res D :=
 match ds with
 |[a,b]=>(match a,b with|.int i,.int j=>.ok (.int (f i j)) M|_,_=>.bad)
 |[d]=>Res.vg ((g d).map D.int) M|_=>.bad
noncomputable def Xy(ds:List D)(g:D->Res D):Res D :=
 match ds with
 |[d]=>g d|_=>.bad
noncomputable def v7(b:Blt)(ds:List D)(M:dh):Res D :=
 match b with
 |.len=>Xy ds (Mu M)|.tuple=>Xy ds λd=>Res.vg ((Bq M d).map D.tup) M
 |.max=>two ds (λi j=>if i<j then j else i) (λd=>((fc M d).bind Yo).bind azb) M
 |.min=>two ds (λi j=>if j<i then j else i) (λd=>((fc M d).bind Yo).bind a6g) M
 |.Fw=>Xy ds λd=>Res.vg (((fc M d).bind Yo).bind λis=>if is.length<31 then some (D.vl ((sortI (Ao is)).map D.int)) else none) M
 |.dict=>Xy ds (ahb M)|.all=>Xy ds λd=>Res.vg (((fc M d).bind allB).map D.bl) M
 |.isTuple=>Xy ds λd=>Res.vg ((isT d).map D.bl) M
noncomputable def Qh(m:Bm)(x:D)(M:dh):Bool :=
 match m,x with
 |.append,.ref n=>match M[n]? with|some (.lst _)=>true|_=>false
 |.index,x=>(fc M x).isSome|.get,.ref n=>match M[n]? with|some (.dK _)=>true|_=>false
 |_,_=>false
noncomputable def Jz(m:Bm)(o:D)(ds:List D)(M:dh):Res D :=
 match m,o,ds with
 |.append,.ref n,[d]=>match M[n]? with
  |some (.lst xs)=>if xs.length<100000 then .ok .non (M.set n (.lst (xs++[d]))) else .bad
  |_=>.bad
 |.index,o,[d]=>Res.vg (((Bq M o).bind (Xx M d)).map λj=>D.int (j:Int)) M
 |.get,.ref n,[k,d]=>match M[n]? with
  |some (.dK ie)=>Res.vg ((Sq k).map λq=>(vq ie q).getD d) M
  |_=>.bad
 |_,_,_=>.bad
noncomputable def setOp(o i v:D)(M:dh):Option dh :=
 match o with
 |.ref n=>match M[n]? with
  |some (.lst xs)=>match i with
   |.int j=>(Uy xs.length j).map λq=>M.set n (.lst (xs.set q v))
   |_=>none
  |some (.dT ie)=>(Ux i).bind λk=>if ie.length<100000 then some (M.set n (.dT (Cu ie k v))) else none
  |some (.dK ie)=>(Sq i).bind λk=>if ie.length<100000 then some (M.set n (.dK (Cu ie k v))) else none
  |_=>none
 |_=>none
noncomputable def Tz(f:Nat)(v:D):List (Nat×D)->List (Nat×D)
 |[]=>[(f,v)]|(g,x)::r=>if g=f then(g,v)::r else(g,x)::Tz f v r
noncomputable def Qy(o:D)(f:Nat)(M:dh):Option D :=
 match o with
 |.ref n=>match M[n]? with
  |some (.ins _ fs)=>fs.lookup f|_=>none
 |_=>none
noncomputable def Qz(o:D)(f:Nat)(v:D)(M:dh):Option dh :=
 match o with
 |.ref n=>match M[n]? with
  |some (.ins c fs)=>if fs.length<1000 then some (M.set n (.ins c (Tz f v fs))) else none
  |_=>none
 |_=>none
inductive Src where
 |con (ds:List D)|live (n:Nat) (len:Nat)
noncomputable def Src.len:Src->Nat
 |.con ds=>ds.length|.live _ k=>k
noncomputable def Src.item(s:Src)(i:Nat)(M:dh):Option D :=
 match s with
 |.con ds=>ds[i]?
 |.live n k=>match M[n]? with
  |some (.lst ds)=>if ds.length=k then ds[i]? else none
  |_=>none
noncomputable def Src.fin(s:Src)(M:dh):Bool :=
 match s with
 |.con _=>true
 |.live n k=>match M[n]? with
  |some (.lst ds)=>ds.length==k|_=>false
noncomputable def srcOf(M:dh)(d:D):Option Src :=
 match d with
 |.tup ds=>some (.con ds)|.vl ds=>some (.con ds)
 |.ref n=>match M[n]? with
  |some (.lst ds)=>some (.live n ds.length)|_=>none
 |_=>none
inductive Flow where
 |next|brk|cont|ret (d:D)
noncomputable def Jo:List Nat->List D->Env->Env
 |i::is,d::ds,ρ=>Jo is ds (ρ.set i (some d))|_,_,ρ=>ρ
noncomputable def Tg.put(t:Tg)(d:D)(ρ:Env):Option Env :=
 match t with
 |.name i=>some (ρ.set i (some d))
 |.names is=>match d with
  |.tup ds=>if ds.length=is.length then some (Jo is ds ρ) else none
  |_=>none
structure Jp where
 call:Nat->List D->dh->Res D
 cls:List Cl
noncomputable def Bw(fin:dh->Bool)(item:Nat->dh->Option D)(body:D->Env->dh->Res (Flow×Env)):Nat->Nat->Env->dh->Res (Flow×Env)
 |0,_,ρ,M=>if fin M then .ok (.next,ρ) M else .bad
 |k+1,i,ρ,M=>match item i M with
  |none=>.bad
  |some d=>(body d ρ M).bind λr M1=>match r.1 with
   |.next=>Bw fin item body k (i+1) r.2 M1|.cont=>Bw fin item body k (i+1) r.2 M1|.brk=>.ok (.next,r.2) M1|.ret v=>.ok (.ret v,r.2) M1
noncomputable def Di(fin:dh->Bool)(item:Nat->dh->Option D)(body:D->dh->Res (Option D)):Nat->Nat->dh->Res (List D)
 |0,_,M=>if fin M then .ok [] M else .bad
 |k+1,i,M=>match item i M with
  |none=>.bad|some d=>(body d M).bind λo M1=>(Di fin item body k (i+1) M1).bind λds M2=>.ok (match o with|some x=>x::ds|none=>ds) M2
noncomputable def Af(s:Src)(body:D->dh->Res (Option D))(M:dh):Res (List D):=if s.len<=100000 then Di s.fin s.item body s.len 0 M else .bad
noncomputable def Fy(c:Env->dh->Res D)(body:Env->dh->Res (Flow×Env)):Nat->Env->dh->Res (Flow×Env)
 |0,_,_=>.bad
 |k+1,ρ,M=>(c ρ M).bind λb M1=>match b with
  |.bl false=>.ok (.next,ρ) M1
  |.bl true=>(body ρ M1).bind λr M2=>match r.1 with
   |.next=>Fy c body k r.2 M2|.cont=>Fy c body k r.2 M2|.brk=>.ok (.next,r.2) M2|.ret v=>.ok (.ret v,r.2) M2
  |_=>.bad
noncomputable def afv:Nat:=1000000
noncomputable def Mv:List D->Option (List (List D))
 |[]=>some []|.tup l::r=>(Mv r).map (l::·)|_::_=>none
noncomputable def Mw(ls:List (List D))(n:Nat):List D:=(List.range n).map λi=>.tup (ls.map λl=>l.getD i .non)
noncomputable def Dy(ds:List D):Nat->List D:=λn=>(ds.zipIdx n).map λp=>D.tup [.int p.2,p.1]
mutual
noncomputable def Ex.den(W:Jp):Ex->Env->dh->Res D
 |.var i,ρ,M=>match ρ[i]? with
  |some (some d)=>.ok d M|_=>.bad
 |.cst d,_,M=>.ok d M|.bin op a b,ρ,M=>(a.den W ρ M).bind λx M1=>(b.den W ρ M1).bind λy M2=>Gg op x y M2
 |.neg a,ρ,M=>(a.den W ρ M).bind λx M1=>match x with|.int i=>.ok (.int (-i)) M1|_=>.bad
 |.cmp op a b,ρ,M=>(a.den W ρ M).bind λx M1=>(b.den W ρ M1).bind λy M2=>Res.vg ((Et op x y M2).map D.bl) M2
 |.chain o1 o2 a b c,ρ,M=>(a.den W ρ M).bind λx M1=>(b.den W ρ M1).bind λy M2=>(Res.vg (Et o1 x y M2) M2).bind λq M2=>if q then(c.den W ρ M2).bind λz M3=>Res.vg ((Et o2 y z M3).map D.bl) M3 else .ok (.bl false) M2
 |.and a b,ρ,M=>(a.den W ρ M).bind λx M1=>match x with|.bl true=>b.den W ρ M1|.bl false=>.ok (.bl false) M1|_=>.bad
 |.or a b,ρ,M=>(a.den W ρ M).bind λx M1=>match x with|.bl true=>.ok (.bl true) M1|.bl false=>b.den W ρ M1|_=>.bad
 |.not a,ρ,M=>(a.den W ρ M).bind λx M1=>match x with|.bl b=>.ok (.bl !b) M1|_=>.bad
 |.ite c a b,ρ,M=>(c.den W ρ M).bind λx M1=>match x with|.bl true=>a.den W ρ M1|.bl false=>b.den W ρ M1|_=>.bad
 |.tup es,ρ,M=>(es.den W ρ M).bind λds M1=>.ok (.tup ds) M1
 |.lst es,ρ,M=>(es.den W ρ M).bind λds M1=>new (.lst ds) M1
 |.Hb es,ρ,M=>(es.den W ρ M).bind λds M1=>.ok (.vl ds) M1
 |.ajx,_,M=>new (.dT []) M|.Z8,_,M=>new (.dK []) M|.ix a b,ρ,M=>(a.den W ρ M).bind λx M1=>(b.den W ρ M1).bind λy M2=>Res.vg (yu x y M2) M2
 |.cut a lo hi,ρ,M=>(a.den W ρ M).bind λx M1=>(lo.den W ρ M1).bind λl M2=>(hi.den W ρ M2).bind λh M3=>Res.vg (acj x l h M3) M3
 |.call f es,ρ,M=>(es.den W ρ M).bind λds M1=>W.call f ds M1
 |.make c es,ρ,M=>(es.den W ρ M).bind λds M1=>match W.cls[c]? with
  |some C=>(W.call C.init (.ref M1.length::ds) (M1++[.ins c []])).bind λr M2=>match r with|.non=>.ok (.ref M1.length) M2|_=>.bad
  |none=>.bad
 |.meth o m es,ρ,M=>(o.den W ρ M).bind λx M1=>(es.den W ρ M1).bind λds M2=>match x with
  |.ref n=>match M1[n]? with
   |some (.ins c _)=>match(W.cls[c]?).bind λC=>C.meths.lookup m with
    |some f=>W.call f (.ref n::ds) M2|none=>.bad
   |_=>.bad
  |_=>.bad
 |.fld o f,ρ,M=>(o.den W ρ M).bind λx M1=>Res.vg (Qy x f M1) M1
 |.blt b es,ρ,M=>(es.den W ρ M).bind λds M1=>v7 b ds M1
 |.bm m o es,ρ,M=>(o.den W ρ M).bind λx M1=>if Qh m x M1 then(es.den W ρ M1).bind λds M2=>Jz m x ds M2 else .bad
 |.comp v k t it e,ρ,M=>(it.den W ρ M).bind λs M1 =>
  (Af s (λd M=>match t.put d (ρ++List.replicate k none) with
   |some ρ'=>(e.den W ρ' M).bind λx M'=>.ok (some x) M'
   | none=>.bad) M1).bind λds M2=>if v then .ok (.vl ds) M2 else new (.lst ds) M2
 |.Dh v k t it c e,ρ,M=>(it.den W ρ M).bind λs M1 =>
  (Af s (λd M=>match t.put d (ρ++List.replicate k none) with
   |some ρ'=>(c.den W ρ' M).bind λb M'=>match b with
    |.bl true=>(e.den W ρ' M').bind λx M''=>.ok (some x) M''
    |.bl false=>.ok none M'|_=>.bad
   | none=>.bad) M1).bind λds M2=>if v then .ok (.vl ds) M2 else new (.lst ds) M2
 |.Vv a b,ρ,M=>(a.den W ρ M).bind λx M1 =>
  match(keysOf M1 x).bind Du with
  |some xs=>if Dw xs then(b.den W ρ M1).bind λy M2 =>
   match(keysOf M2 y).bind Du with
   |some ys=>if Dw ys then .ok (.bl !Iu xs ys) M2 else .bad
   |none=>.bad
   else .bad
  |none=>.bad
 |.Xw e,ρ,M=>(e.den W ρ M).bind λx M1=>match x with
  |.int i=>if i.natAbs<=100000 then .ok (.tup ((List.range i.toNat).map λ(k:Nat)=>D.int (k:Int))) M1 else .bad
  |_=>.bad
 |.afr e,ρ,M=>(e.den W ρ M).bind λx M1=>match x with
  |.int i=>if i.natAbs<=100000 then new (.lst ((List.range i.toNat).map λ(k:Nat)=>D.int (k:Int))) M1 else .bad
  |_=>.bad
noncomputable def Cr.den(W:Jp):Cr->Env->dh->Res (List D)
 |.nil,_,M=>.ok [] M|.cons e es,ρ,M=>(e.den W ρ M).bind λx M1=>(es.den W ρ M1).bind λxs M2=>.ok (x::xs) M2
noncomputable def OEx.den(W:Jp):OEx->Env->dh->Res (Option Int)
 |.none,_,M=>.ok none M|.some e,ρ,M=>(e.den W ρ M).bind λx M1=>match x with|.int i=>.ok (some i) M1|_=>.bad
noncomputable def Ow.den(W:Jp):Ow->Env->dh->Res Src
 |.val e,ρ,M=>(e.den W ρ M).bind λx M1=>Res.vg (srcOf M1 x) M1
 |.Im e,ρ,M=>(e.den W ρ M).bind λx M1=>match x with
  |.int i=>if i.natAbs<=100000 then .ok (.con ((List.range i.toNat).map λ(k:Nat)=>D.int (k:Int))) M1 else .bad
  |_=>.bad
 |.enm e,ρ,M=>(e.den W ρ M).bind λx M1=>match x with
  |.tup ds=>.ok (.con (Dy ds 0)) M1|.vl ds=>.ok (.con (Dy ds 0)) M1|_=>.bad
 |.zip es,ρ,M=>(es.den W ρ M).bind λds M1=>match Mv ds with
  |some (l::r)=>if(r.all λx=>x.length==l.length)=true then .ok (.con (Mw (l::r) l.length)) M1 else .bad
  |_=>.bad
end
noncomputable def Lv.put(W:Jp)(l:Lv)(d:D)(ρ:Env)(M:dh):Res Env :=
 match l with
 |.tg t=>Res.vg (t.put d ρ) M|.sub o i=>(o.den W ρ M).bind λx M1=>(i.den W ρ M1).bind λy M2=>(Res.vg (setOp x y d M2) M2).bind λM3 _=>.ok ρ M3
 |.fld o f=>(o.den W ρ M).bind λx M1=>(Res.vg (Qz x f d M1) M1).bind λM2 _=>.ok ρ M2
mutual
noncomputable def By.den(W:Jp):By->Env->dh->Res (Flow×Env)
 |.asg l e,ρ,M=>(e.den W ρ M).bind λx M1=>(l.put W x ρ M1).bind fun ρ' M2=>.ok (.next,ρ') M2
 |.expr e,ρ,M=>(e.den W ρ M).bind λ_ M1=>.ok (.next,ρ) M1
 |.iff c a b,ρ,M=>(c.den W ρ M).bind λx M1=>match x with|.bl true=>a.den W ρ M1|.bl false=>b.den W ρ M1|_=>.bad
 |.whl c b,ρ,M=>Fy (c.den W) (b.den W) afv ρ M
 | .for_ t it b,ρ,M=>(it.den W ρ M).bind λs M1=>Bw s.fin s.item (λd ρ M=>match t.put d ρ with
  | some ρ'=>b.den W ρ' M|none=>.bad) s.len 0 ρ M1
 |.ret e,ρ,M=>(e.den W ρ M).bind λx M1=>.ok (.ret x,ρ) M1
 |.atc,ρ,M=>.ok (.ret .non,ρ) M|.brk,ρ,M=>.ok (.brk,ρ) M|.cont,ρ,M=>.ok (.cont,ρ) M|.pass,ρ,M=>.ok (.next,ρ) M|.raise c es,ρ,M=>(es.den W ρ M).bind λ_ M1=>.err c M1
noncomputable def o7.den(W:Jp):o7->Env->dh->Res (Flow×Env)
 |.nil,ρ,M=>.ok (.next,ρ) M
 |.cons s r,ρ,M=>(s.den W ρ M).bind λp M1=>match p.1 with
  |.next=>r.den W p.2 M1|.brk=>.ok (.brk,p.2) M1|.cont=>.ok (.cont,p.2) M1|.ret d=>.ok (.ret d,p.2) M1
end
structure Prog where
 fns:List Fn
 cls:List Cl
noncomputable def Fn.run(W:Jp)(f:Fn)(ds:List D)(M:dh):Res D :=
 if ds.length=f.np then
  (f.body.den W (ds.map some++List.replicate (f.ns-f.np) none) M).bind λp M1=>match p.1 with
   |.ret d=>.ok d M1|.next=>.ok .non M1|_=>.bad
 else .bad
noncomputable def Prog.call(P:Prog):Nat->Nat->List D->dh->Res D
 |0,_,_,_=>.bad
 |n+1,f,ds,M=>match P.fns[f]? with
  |some F=>F.run ⟨P.call n,P.cls⟩ ds M|none=>.bad
@[simp] def ahc(i:Nat):(Ex.var i).den W ρ M=match ρ[i]? with|some (some d)=>.ok d M|_=>.bad:=rfl
@[simp high] theorem bcy(d:D)(r:Env):(Ex.var 0).den W (some d::r) M=.ok d M:=rfl
@[simp high] theorem bcz(a0:Option D)(d:D)(r:Env):(Ex.var 1).den W (a0::some d::r) M=.ok d M:=rfl
@[simp high] theorem bc0(a0 a1:Option D)(d:D)(r:Env):(Ex.var 2).den W (a0::a1::some d::r) M=.ok d M:=rfl
@[simp high] theorem bc1(a0 a1 a2:Option D)(d:D)(r:Env):(Ex.var 3).den W (a0::a1::a2::some d::r) M=.ok d M:=rfl
@[simp high] theorem bc2(a0 a1 a2 a3:Option D)(d:D)(r:Env):(Ex.var 4).den W (a0::a1::a2::a3::some d::r) M=.ok d M:=rfl
@[simp high] theorem bc3(a0 a1 a2 a3 a4:Option D)(d:D)(r:Env):(Ex.var 5).den W (a0::a1::a2::a3::a4::some d::r) M=.ok d M:=rfl
@[simp high] theorem bc4(a0 a1 a2 a3 a4 a5:Option D)(d:D)(r:Env):(Ex.var 6).den W (a0::a1::a2::a3::a4::a5::some d::r) M=.ok d M:=rfl
@[simp high] theorem bc5(a0 a1 a2 a3 a4 a5 a6:Option D)(d:D)(r:Env):(Ex.var 7).den W (a0::a1::a2::a3::a4::a5::a6::some d::r) M=.ok d M:=rfl
@[simp high] theorem bc6(a0 a1 a2 a3 a4 a5 a6 a7:Option D)(d:D)(r:Env):(Ex.var 8).den W (a0::a1::a2::a3::a4::a5::a6::a7::some d::r) M=.ok d M:=rfl
@[simp high] theorem bc7(a0 a1 a2 a3 a4 a5 a6 a7 a8:Option D)(d:D)(r:Env):(Ex.var 9).den W (a0::a1::a2::a3::a4::a5::a6::a7::a8::some d::r) M=.ok d M:=rfl
@[simp high] theorem bav(a0 a1 a2 a3 a4 a5 a6 a7 a8 a9:Option D)(d:D)(r:Env):(Ex.var 10).den W (a0::a1::a2::a3::a4::a5::a6::a7::a8::a9::some d::r) M=.ok d M:=rfl
@[simp high] theorem baw(a0 a1 a2 a3 a4 a5 a6 a7 a8 a9 a10:Option D)(d:D)(r:Env):(Ex.var 11).den W (a0::a1::a2::a3::a4::a5::a6::a7::a8::a9::a10::some d::r) M=.ok d M:=rfl
@[simp high] theorem bax(a0 a1 a2 a3 a4 a5 a6 a7 a8 a9 a10 a11:Option D)(d:D)(r:Env):(Ex.var 12).den W (a0::a1::a2::a3::a4::a5::a6::a7::a8::a9::a10::a11::some d::r) M=.ok d M:=rfl
@[simp] def Q0(d:D):(Ex.cst d).den W ρ M=.ok d M:=rfl
@[simp] def atd(op:Op2)(a b:Ex):(Ex.bin op a b).den W ρ M=(a.den W ρ M).bind λx M1=>(b.den W ρ M1).bind λy M2=>Gg op x y M2:=rfl
@[simp] def ate(a:Ex):(Ex.neg a).den W ρ M=(a.den W ρ M).bind λx M1=>match x with|.int i=>.ok (.int (-i)) M1|_=>.bad:=rfl
@[simp] def atf(op:Cp)(a b:Ex):(Ex.cmp op a b).den W ρ M=(a.den W ρ M).bind λx M1=>(b.den W ρ M1).bind λy M2=>Res.vg ((Et op x y M2).map D.bl) M2:=rfl
@[simp] def ajz(o1 o2:Cp)(a b c:Ex):(Ex.chain o1 o2 a b c).den W ρ M=(a.den W ρ M).bind λx M1=>(b.den W ρ M1).bind λy M2=>(Res.vg (Et o1 x y M2) M2).bind λq M2=>if q then(c.den W ρ M2).bind λz M3=>Res.vg ((Et o2 y z M3).map D.bl) M3 else .ok (.bl false) M2:=rfl
def ahd(a b:Ex):(Ex.and a b).den W ρ M=(a.den W ρ M).bind λx M1=>match x with|.bl true=>b.den W ρ M1|.bl false=>.ok (.bl false) M1|_=>.bad:=rfl
def amy(a b:Ex):(Ex.or a b).den W ρ M=(a.den W ρ M).bind λx M1=>match x with|.bl true=>.ok (.bl true) M1|.bl false=>b.den W ρ M1|_=>.bad:=rfl
@[simp] def ahe(a:Ex):(Ex.not a).den W ρ M=(a.den W ρ M).bind λx M1=>match x with|.bl b=>.ok (.bl !b) M1|_=>.bad:=rfl
def atg(c a b:Ex):(Ex.ite c a b).den W ρ M=(c.den W ρ M).bind λx M1=>match x with|.bl true=>a.den W ρ M1|.bl false=>b.den W ρ M1|_=>.bad:=rfl
@[simp] def ahf(es:Cr):(Ex.tup es).den W ρ M=(es.den W ρ M).bind λds M1=>.ok (.tup ds) M1:=rfl
@[simp] def ath(es:Cr):(Ex.lst es).den W ρ M=(es.den W ρ M).bind λds M1=>new (.lst ds) M1:=rfl
@[simp] def amz(es:Cr):(Ex.Hb es).den W ρ M=(es.den W ρ M).bind λds M1=>.ok (.vl ds) M1:=rfl
@[simp] def am0:Ex.ajx.den W ρ M=new (.dT []) M:=rfl
@[simp] def am1:Ex.Z8.den W ρ M=new (.dK []) M:=rfl
@[simp] def azd(a b:Ex):(Ex.ix a b).den W ρ M=(a.den W ρ M).bind λx M1=>(b.den W ρ M1).bind λy M2=>Res.vg (yu x y M2) M2:=rfl
@[simp] def ati(a:Ex)(lo hi:OEx):(Ex.cut a lo hi).den W ρ M=(a.den W ρ M).bind λx M1=>(lo.den W ρ M1).bind λl M2=>(hi.den W ρ M2).bind λh M3=>Res.vg (acj x l h M3) M3:=rfl
@[simp] def am2(f:Nat)(es:Cr):(Ex.call f es).den W ρ M=(es.den W ρ M).bind λds M1=>W.call f ds M1:=rfl
@[simp] theorem ack{W:Jp}{ρ:Env}{M:dh}(c:Nat)(es:Cr):(Ex.make c es).den W ρ M=(es.den W ρ M).bind λds M1=>match W.cls[c]? with
 |some C=>(W.call C.init (.ref M1.length::ds) (M1++[.ins c []])).bind λr M2=>match r with|.non=>.ok (.ref M1.length) M2|_=>.bad
 |none=>.bad:=rfl
@[simp] theorem Q3{W:Jp}{ρ:Env}{M:dh}(o:Ex)(m:Nat)(es:Cr):(Ex.meth o m es).den W ρ M=(o.den W ρ M).bind λx M1=>(es.den W ρ M1).bind λds M2=>match x with
 |.ref n=>match M1[n]? with
  |some (.ins c _)=>match(W.cls[c]?).bind λC=>C.meths.lookup m with
   |some f=>W.call f (.ref n::ds) M2|none=>.bad
  |_=>.bad
 |_=>.bad:=rfl
@[simp] def atj(o:Ex)(f:Nat):(Ex.fld o f).den W ρ M=(o.den W ρ M).bind λx M1=>Res.vg (Qy x f M1) M1:=rfl
@[simp] def aab(b:Blt)(es:Cr):(Ex.blt b es).den W ρ M=(es.den W ρ M).bind λds M1=>v7 b ds M1:=rfl
@[simp] def aze(m:Bm)(o:Ex)(es:Cr):(Ex.bm m o es).den W ρ M=(o.den W ρ M).bind λx M1=>if Qh m x M1 then(es.den W ρ M1).bind λds M2=>Jz m x ds M2 else .bad:=rfl
@[simp] theorem am3{W:Jp}{ρ:Env}{M:dh}(e:Ex):(Ex.Xw e).den W ρ M=(e.den W ρ M).bind λx M1=>match x with
 |.int i=>if i.natAbs<=100000 then .ok (.tup ((List.range i.toNat).map λ(k:Nat)=>D.int (k:Int))) M1 else .bad
 |_=>.bad:=rfl
@[simp] theorem am4{W:Jp}{ρ:Env}{M:dh}(e:Ex):(Ex.afr e).den W ρ M=(e.den W ρ M).bind λx M1=>match x with
 |.int i=>if i.natAbs<=100000 then new (.lst ((List.range i.toNat).map λ(k:Nat)=>D.int (k:Int))) M1 else .bad
 |_=>.bad:=rfl
def Mx(v:Bool)(k:Nat)(t:Tg)(it:Ow)(e:Ex):(Ex.comp v k t it e).den W ρ M=(it.den W ρ M).bind λs M1 =>
 (Af s (λd M=>match t.put d (ρ++List.replicate k none) with
  |some ρ'=>(e.den W ρ' M).bind λx M'=>.ok (some x) M'
  | none=>.bad) M1).bind λds M2=>if v then .ok (.vl ds) M2 else new (.lst ds) M2:=rfl
def Vw(v:Bool)(k:Nat)(t:Tg)(it:Ow)(c e:Ex):(Ex.Dh v k t it c e).den W ρ M=(it.den W ρ M).bind λs M1 =>
 (Af s (λd M=>match t.put d (ρ++List.replicate k none) with
  |some ρ'=>(c.den W ρ' M).bind λb M'=>match b with
   |.bl true=>(e.den W ρ' M').bind λx M''=>.ok (some x) M''
   |.bl false=>.ok none M'|_=>.bad
  | none=>.bad) M1).bind λds M2=>if v then .ok (.vl ds) M2 else new (.lst ds) M2:=rfl
@[simp] def Q4:Cr.nil.den W ρ M=.ok [] M:=rfl
@[simp] def J0(e:Ex)(es:Cr):(Cr.cons e es).den W ρ M=(e.den W ρ M).bind λx M1=>(es.den W ρ M1).bind λxs M2=>.ok (x::xs) M2:=rfl
@[simp] def aj0:OEx.none.den W ρ M=.ok none M:=rfl
@[simp] def aj1(e:Ex):(OEx.some e).den W ρ M=(e.den W ρ M).bind λx M1=>match x with|.int i=>.ok (some i) M1|_=>.bad:=rfl
@[simp] def Iv(e:Ex):(Ow.val e).den W ρ M=(e.den W ρ M).bind λx M1=>Res.vg (srcOf M1 x) M1:=rfl
@[simp] theorem Iw{W:Jp}{ρ:Env}{M:dh}(e:Ex):(Ow.Im e).den W ρ M=(e.den W ρ M).bind λx M1=>match x with
 |.int i=>if i.natAbs<=100000 then .ok (.con ((List.range i.toNat).map λ(k:Nat)=>D.int (k:Int))) M1 else .bad
 |_=>.bad:=rfl
@[simp] theorem ahg{W:Jp}{ρ:Env}{M:dh}(e:Ex):(Ow.enm e).den W ρ M=(e.den W ρ M).bind λx M1=>match x with
 |.tup ds=>.ok (.con (Dy ds 0)) M1|.vl ds=>.ok (.con (Dy ds 0)) M1|_=>.bad:=rfl
@[simp] theorem atk(es:Cr):(Ow.zip es).den W ρ M=(es.den W ρ M).bind λds M1=>match Mv ds with
 |some (l::r)=>if(r.all λx=>x.length==l.length)=true then .ok (.con (Mw (l::r) l.length)) M1 else .bad
 |_=>.bad:=rfl
@[simp] def aac(l:Lv)(e:Ex):(By.asg l e).den W ρ M=(e.den W ρ M).bind λx M1=>(l.put W x ρ M1).bind fun ρ' M2=>.ok (.next,ρ') M2:=rfl
@[simp] def atl(e:Ex):(By.expr e).den W ρ M=(e.den W ρ M).bind λ_ M1=>.ok (.next,ρ) M1:=rfl
def azf(c:Ex)(a b:o7):(By.iff c a b).den W ρ M=(c.den W ρ M).bind λx M1=>match x with|.bl true=>a.den W ρ M1|.bl false=>b.den W ρ M1|_=>.bad:=rfl
@[simp] def azg(e:Ex):(By.ret e).den W ρ M=(e.den W ρ M).bind λx M1=>.ok (.ret x,ρ) M1:=rfl
@[simp] def bay:By.atc.den W ρ M=.ok (.ret .non,ρ) M:=rfl
@[simp] def azh:By.brk.den W ρ M=.ok (.brk,ρ) M:=rfl
@[simp] def atm:By.cont.den W ρ M=.ok (.cont,ρ) M:=rfl
@[simp] def atn:By.pass.den W ρ M=.ok (.next,ρ) M:=rfl
@[simp] def am5(c:Nat)(es:Cr):(By.raise c es).den W ρ M=(es.den W ρ M).bind λ_ M1=>.err c M1:=rfl
def aad(c:Ex)(b:o7):(By.whl c b).den W ρ M=Fy (c.den W) (b.den W) afv ρ M:=rfl
def Ss(t:Tg)(it:Ow)(b:o7):(By.for_ t it b).den W ρ M=(it.den W ρ M).bind λs M1=>Bw s.fin s.item (λd ρ M=>match t.put d ρ with
 | some ρ'=>b.den W ρ' M|none=>.bad) s.len 0 ρ M1:=rfl
@[simp] def ato:o7.nil.den W ρ M=.ok (.next,ρ) M:=rfl
theorem am6{W:Jp}{ρ:Env}{M:dh}(s:By)(r:o7):(o7.cons s r).den W ρ M=(s.den W ρ M).bind λp M1=>match p.1 with
 |.next=>r.den W p.2 M1|.brk=>.ok (.brk,p.2) M1|.cont=>.ok (.cont,p.2) M1|.ret d=>.ok (.ret d,p.2) M1:=rfl
noncomputable def aj2(W:Jp)(r:o7)(x:Res (Flow×Env)):Res (Flow×Env):=x.bind λp M1=>match p.1 with
 |.next=>r.den W p.2 M1|.brk=>.ok (.brk,p.2) M1|.cont=>.ok (.cont,p.2) M1|.ret d=>.ok (.ret d,p.2) M1
@[simp] def baz(s:By)(r:o7):(o7.cons s r).den W ρ M=aj2 W r (s.den W ρ M):=rfl
@[simp] def a6j(r:o7):aj2 W r (.ok (.next,ρ) M)=r.den W ρ M:=rfl
@[simp] def ba0(r:o7):aj2 W r (.ok (.brk,ρ) M)=.ok (.brk,ρ) M:=rfl
@[simp] def a6k(r:o7):aj2 W r (.ok (.cont,ρ) M)=.ok (.cont,ρ) M:=rfl
@[simp] def ba1(r:o7)(d:D):aj2 W r (.ok (.ret d,ρ) M)=.ok (.ret d,ρ) M:=rfl
@[simp] def ba2(r:o7)(c:Nat):aj2 W r (.err c M)=.err c M:=rfl
noncomputable def ifK{α:Type}(a b:dh->Res α)(x:Res D):Res α:=x.bind λx M1=>match x with|.bl true=>a M1|.bl false=>b M1|_=>.bad
@[simp] def a6l(c:Ex)(a b:o7):(By.iff c a b).den W ρ M=ifK (a.den W ρ) (b.den W ρ) (c.den W ρ M):=rfl
@[simp] def bc8(c a b:Ex):(Ex.ite c a b).den W ρ M=ifK (a.den W ρ) (b.den W ρ) (c.den W ρ M):=rfl
@[simp] def bc9(a b:Ex):(Ex.and a b).den W ρ M=ifK (b.den W ρ) (.ok (.bl false)) (a.den W ρ M):=rfl
@[simp] def bhf(a b:Ex):(Ex.or a b).den W ρ M=ifK (.ok (.bl true)) (b.den W ρ) (a.den W ρ M):=rfl
@[simp] def bhg(a b:dh->Res α):ifK a b (.ok (.bl true) M)=a M:=rfl
@[simp] def bhh(a b:dh->Res α):ifK a b (.ok (.bl false) M)=b M:=rfl
@[simp] def bda(a b:dh->Res α)(c:Nat):ifK a b (.err c M)=.err c M:=rfl
theorem Yp{W:Jp}{ρ:Env}{M:dh}(a b:Ex):(Ex.Vv a b).den W ρ M=(a.den W ρ M).bind λx M1 =>
 match(keysOf M1 x).bind Du with
 |some xs=>if Dw xs then(b.den W ρ M1).bind λy M2 =>
  match(keysOf M2 y).bind Du with
  |some ys=>if Dw ys then .ok (.bl !Iu xs ys) M2 else .bad
  |none=>.bad
  else .bad
 |none=>.bad:=rfl
@[simp] def am7(t:Tg)(d:D):(Lv.tg t).put W d ρ M=Res.vg (t.put d ρ) M:=rfl
@[simp] def atp(o i:Ex)(d:D):(Lv.sub o i).put W d ρ M=(o.den W ρ M).bind λx M1=>(i.den W ρ M1).bind λy M2=>(Res.vg (setOp x y d M2) M2).bind λM3 _=>.ok ρ M3:=rfl
@[simp] def atq(o:Ex)(f:Nat)(d:D):(Lv.fld o f).put W d ρ M=(o.den W ρ M).bind λx M1=>(Res.vg (Qz x f d M1) M1).bind λM2 _=>.ok ρ M2:=rfl
@[simp] def azj(i:Nat)(d:D):(Tg.name i).put d ρ=some (ρ.set i (some d)):=rfl
@[simp] def axr(is:Y3)(ds:List D)(h:ds.length=is.length):(Tg.names is).put (.tup ds) ρ=some (Jo is ds ρ):=by simp[Tg.put,h]
@[simp] def axs(i:Nat)(is:Y3)(d:D)(ds:List D):Jo (i::is) (d::ds) ρ=Jo is ds (ρ.set i (some d)):=rfl
@[simp] def azk(ds:List D):Jo [] ds ρ=ρ:=by cases ds<;>rfl
@[simp] def a6m(i j:Int):Gg .add (.int i) (.int j) M=.ok (.int (i+j)) M:=rfl
@[simp] def a6n(i j:Int):Gg .sub (.int i) (.int j) M=.ok (.int (i-j)) M:=rfl
def My(i j:Int)(h:(-(2 ^ 64)<i/\i<2 ^ 64)\/(-(2 ^ 64)<j/\j<2 ^ 64)):Gg .mul (.int i) (.int j) M=.ok (.int (i*j)) M:=cz h
def Yq(i j:Int)(h:0<j)(h2:j<1073741824):Gg .fdiv (.int i) (.int j) M=.ok (.int (i / j)) M:=cz ⟨h,h2⟩
@[simp] def am8(i j:Int)(h:0<j):Gg .mod (.int i) (.int j) M=.ok (.int (i%j)) M:=cz h
@[simp] def azl:Gg .pow (.int 10) (.int 18) M=.ok (.int (10 ^ 18)) M:=by simp[Gg,axq]
def Yr(xs ys:List D)(h:xs.length+ys.length<=100000):Gg .add (.vl xs) (.vl ys) M=.ok (.vl (xs++ys)) M:=cz h
@[simp] def bdc(i j:Int):Et .lt (.int i) (.int j) M=some (decide (i<j)):=rfl
@[simp] def bdd(i j:Int):Et .le (.int i) (.int j) M=some (decide (i<=j)):=rfl
@[simp] def cmp_gt(i j:Int):Et .gt (.int i) (.int j) M=some (decide (j<i)):=rfl
@[simp] def bde(i j:Int):Et .ge (.int i) (.int j) M=some (decide (j<=i)):=rfl
@[simp] def bdf(a b:D):Et .eq a b M=xx M a b:=rfl
@[simp] def bdg(a b:D):Et .ne a b M=(xx M a b).map not:=rfl
@[simp] def bdh(a b:D):Et .inn a b M=O9 M a b:=rfl
@[simp] def a4e(a b:D):Et .Qx a b M=(O9 M a b).map not:=rfl
def ahh(n:Nat)(i j:Int):Jy M (n+1) (.int i) (.int j)=some (decide (i=j)):=rfl
def Dz(h1:f a b=some x)(h2:Qv f as bs=some y):Qv f (a::as) (b::bs)=some (x&&y):=by simp[Qv,h1,h2]
@[simp] def eq_int(i j:Int):xx M (.int i) (.int j)=some (decide (i=j)):=rfl
@[simp] def bhi(i j:Bool):xx M (.bl i) (.bl j)=some (i==j):=rfl
@[simp] def aj3(ds:List D):fc M (.vl ds)=some ds:=rfl
@[simp] def a6o(ds:List D):Bq M (.vl ds)=some ds:=rfl
@[simp] def a4f(ds:List D):Bq M (.tup ds)=some ds:=rfl
def qg(h:M[n]?=some (.lst ds)):fc M (.ref n)=some ds:=by simp[fc,h]
def Vx(h:fc M d=some ds):Bq M d=some ds:=by cases d<;>first|exact h|(simp[fc] at h)
set_option tactic.hygienic true in
def len_list(h:fc M d=some ds):v7 .len [d] M=.ok (.int ds.length) M:=by
 show Mu M d=_;cases d with
 |vl xs=>simp[fc] at h;subst h;rfl
 |ref n =>
  simp only[fc] at h;split at h<;>simp at h;rename_i xs hx;subst h;simp[Mu,hx]
 |_=>simp[fc] at h
@[simp] def a6p(d:D)(g:D->Res D):Xy [d] g=g d:=rfl
@[simp] def a6q(g:D->Res D):Xy [] g=.bad:=rfl
@[simp] def a4g(a b:D)(l:List D)(g:D->Res D):Xy (a::b::l) g=.bad:=rfl
@[simp] def bdi(i j:Int)(f:Int->Int->Int)(g:D->Option Int):two [.int i,.int j] f g M=.ok (.int (f i j)) M:=rfl
@[simp] def atr(d:D)(f:Int->Int->Int)(g:D->Option Int):two [d] f g M=Res.vg ((g d).map D.int) M:=rfl
@[simp] def azm(ds:List D):Mu M (.tup ds)=.ok (.int ds.length) M:=rfl
@[simp] theorem axt{M:dh}(n:Nat):ahb M (.ref n)=match M[n]? with
 |some (.dT ie)=>if afu ie then new (.dT ie) M else .bad
 |some (.dK ie)=>new (.dK ie) M|_=>.bad:=rfl
def Cj(h:fc M d=some ds)(h0:0<=i)(hx:ds[i.toNat]?=some x):yu d (.int i) M=some x:=by
 obtain⟨hl,hxx⟩:=ak.mp hx;have hi:i<ds.length:=by lia
 cases d with
 |vl xs=>simp[fc] at h;subst h;simp[yu,Bq,Uy,h0,hi,hl,hxx]
 |ref n =>
  simp only[fc] at h;cases e:M[n]? with
  |none=>rw[e] at h;simp at h|some o=>rw[e] at h;cases o<;>simp at h<;>subst h<;>simp[yu,fc,e,Uy,h0,hi,hl,hxx]
 |_=>simp[fc] at h
def Jq(h0:0<=i)(hx:ds[i.toNat]?=some x):yu (.tup ds) (.int i) M=some x:=by
 obtain⟨hl,hxx⟩:=ak.mp hx;have hi:i<ds.length:=by lia
 simp[yu,Bq,Uy,h0,hi,hl,hxx]
def a6r(h0:0<=i)(hx:ds[i.toNat]?=some x):yu (.fz ds) (.int i) M=some x:=by
 obtain⟨hl,hxx⟩:=ak.mp hx;have hi:i<ds.length:=by lia
 simp[yu,Uy,h0,hi,hl,hxx]
def am9:v7 .len [.fz ds] M=.ok (.int ds.length) M:=rfl
@[simp] def ba3(x:D)(r:List D):yu (.tup (x::r)) (.int 0) M=some x:=Jq (by decide) rfl
@[simp] def ba4(x y:D)(r:List D):yu (.tup (x::y::r)) (.int 1) M=some y:=Jq (by decide) rfl
@[simp] def ba5(x y z:D)(r:List D):yu (.tup (x::y::z::r)) (.int 2) M=some z:=Jq (by decide) rfl
def acn(h:M[n]?=some (.dT ie))(hk:Ux b=some k):yu (.ref n) b M=vq ie k:=by simp[yu,h,hk]
def a6s(h:M[n]?=some (.dT ie))(hk:Ux b=some k):O9 M b (.ref n)=some (vq ie k).isSome:=by simp[O9,h,hk]
def axu(h:M[n]?=some (.dK ie))(hk:Sq b=some k):yu (.ref n) b M=vq ie k:=by simp[yu,h,hk]
@[simp] def Ys(i j:Int):Ux (.tup [.int i,.int j])=some [.inl i,.inl j]:=rfl
@[simp] def bhj(i:Int):Sq (.int i)=some (.inl i):=rfl
def Hc(h:M[n]?=some (.lst xs)):Qh .append (.ref n) M=true:=by simp[Qh,h]
def G6(h:M[n]?=some (.lst xs))(hl:xs.length<100000):Jz .append (.ref n) [d] M=.ok .non (M.set n (.lst (xs++[d]))):=by simp[Jz,h,hl]
def aae(h:M[n]?=some (.lst xs))(h0:0<=i)(hi:i<xs.length):setOp (.ref n) (.int i) d M=some (M.set n (.lst (xs.set i.toNat d))):=by simp[setOp,h,Uy,h0,hi]
def azn(h:M[n]?=some (.dT ie))(hk:Ux b=some k)(hs:ie.length<100000):setOp (.ref n) b d M=some (M.set n (.dT (Cu ie k d))):=by simp[setOp,h,hk,hs]
def wz{M:dh}(h:M[a]?=some o):a<M.length:=(ak.mp h).1
def vo{M:dh}(h:M[a]?=some p):(M.set a o)[a]?=some o:=by rw[zu (wz h)]
def qx{M:dh}(h:b≠a):(M.set b o)[a]?=M[a]?:=uy h
def xm{M:dh}{a:Nat}(h:M[a]?=some o):(M++X)[a]?=some o:=by rw[dj (wz h)];exact h
@[simp] def ba6{M:dh}:(M++[o])[M.length]?=some o:=by simp
theorem aaf{fin:dh->Bool}{item:Nat->dh->Option D}{body:D->Env->dh->Res (Flow×Env)}(I:Nat->Env->dh->Prop){n:Nat}
 (step:∀i ρ M,i<n->I i ρ M->∃d fl ρ' M',item i M=some d/\body d ρ M=.ok (fl,ρ') M'/\(fl=.next\/fl=.cont)/\I (i+1) ρ' M') (Qi:∀ρ M,I n ρ M->fin M=true) :
 ∀(k i:Nat)(ρ:Env)(M:dh),i+k=n->I i ρ M->∃ρ' M',Bw fin item body k i ρ M=.ok (.next,ρ') M'/\I n ρ' M'
 |0,i,ρ,M,e,h=>by
  have q:i=n:=by lia
  rw[q] at h;exact⟨ρ,M,by simp[Bw,Qi ρ M h],h⟩
 |k+1,i,ρ,M,e,h=>by
  obtain⟨d,fl,ρ1,M1,h1,h2,h3,h4⟩:=step i ρ M (by lia) h;obtain⟨ρ2,M2,g1,g2⟩:=aaf I step Qi k (i+1) ρ1 M1 (by lia) h4;refine⟨ρ2,M2,?_,g2⟩;rcases h3 with rfl|rfl<;>simp[Bw,h1,h2,g1]
def Vb(I:Nat->Env->dh->Prop)(h0:I 0 ρ M)(step:∀i d ρ M,ds[i]?=some d->I i ρ M->∃fl ρ' M',body d ρ M=.ok (fl,ρ') M'/\(fl=.next\/fl=.cont)/\I (i+1) ρ' M') :
 ∃ρ' M',Bw (Src.con ds).fin (Src.con ds).item body (Src.con ds).len 0 ρ M=.ok (.next,ρ') M'/\I ds.length ρ' M':=by
 refine aaf I (λi ρ M hi h=>?_) (λ_ _ _=>rfl) ds.length 0 ρ M (ux _) h0;obtain⟨fl,ρ',M',a,b,c⟩:=step i ds[i] ρ M (by simp[hi]) h;exact⟨ds[i],fl,ρ',M',by simp[Src.item,hi],a,b,c⟩
def aag(I:Nat->Env->dh->Prop)(h0:I 0 ρ M)(step:∀i ρ M,i<n->I i ρ M->∃fl ρ' M',body (.int i) ρ M=.ok (fl,ρ') M'/\(fl=.next\/fl=.cont)/\I (i+1) ρ' M') :
 ∃ρ' M',Bw (Src.con ((List.range n).map λ(k:Nat)=>D.int (k:Int))).fin (Src.con ((List.range n).map λ(k:Nat)=>D.int (k:Int))).item body (Src.con ((List.range n).map λ(k:Nat)=>D.int (k:Int))).len 0 ρ M=.ok (.next,ρ') M'/\I n ρ' M':=by
 have:=Vb (ds:=(List.range n).map λ(k:Nat)=>D.int (k:Int)) (body:=body) I h0 (λi d ρ M hd h=>by
  have hi:i<n:=by have:=(ak.mp hd).1;simpa using this
  rw[gr,lq hi] at hd;have hd:D.int (i:Int)=d:=by simpa using hd
  subst hd;exact step i ρ M hi h)
 simpa using this
def ana(I:Nat->Env->dh->Prop)(h0:I 0 ρ M)(stay:∀i ρ M,I i ρ M->M[p]?=some (.lst ds))(step:∀i d ρ M,ds[i]?=some d->I i ρ M->∃fl ρ' M',body d ρ M=.ok (fl,ρ') M'/\(fl=.next\/fl=.cont)/\I (i+1) ρ' M') :
 ∃ρ' M',Bw (Src.live p ds.length).fin (Src.live p ds.length).item body (Src.live p ds.length).len 0 ρ M=.ok (.next,ρ') M'/\I ds.length ρ' M':=by
 refine aaf I (λi ρ M hi h=>?_) (fun ρ M h=>by simp[Src.fin,stay _ ρ M h]) ds.length 0 ρ M (ux _) h0;obtain⟨fl,ρ',M',a,b,c⟩:=step i ds[i] ρ M (by simp[hi]) h;exact⟨ds[i],fl,ρ',M',by simp[Src.item,stay i ρ M h,hi],a,b,c⟩
theorem Hd{fin:dh->Bool}{item:Nat->dh->Option D}{body:D->dh->Res (Option D)}(I:Nat->List D->dh->Prop){n:Nat}
 (step:∀i xs M,i<n->I i xs M->∃d o M',item i M=some d/\body d M=.ok o M'/\I (i+1) (xs++o.toList) M') (Qi:∀xs M,I n xs M->fin M=true) :
 ∀(k i:Nat)(xs:List D)(M:dh),i+k=n->I i xs M->∃ys M',Di fin item body k i M=.ok ys M'/\I n (xs++ys) M'
 |0,i,xs,M,e,h=>by
  have q:i=n:=by lia
  rw[q] at h;exact⟨[],M,by simp[Di,Qi xs M h],by simpa using h⟩
 |k+1,i,xs,M,e,h=>by
  obtain⟨d,o,M1,h1,h2,h3⟩:=step i xs M (by lia) h;obtain⟨ys,M2,g1,g2⟩:=Hd I step Qi k (i+1) (xs++o.toList) M1 (by lia) h3;refine⟨o.toList++ys,M2,?_,by rw[<- Ag];exact g2⟩;cases o<;>simp[Di,h1,h2,g1]
def Su{s:Src}{ds:List D}(Qi:s.fin M=true)(hl:s.len=ds.length)(hi:∀i,i<ds.length->s.item i M=ds[i]?)(h:∀d∈ds,body d M=.ok (g d) M) :
 Di s.fin s.item body s.len 0 M=.ok (ds.filterMap g) M:=by
 obtain⟨ys,M',e,h1,h2⟩:=Hd (fin:=s.fin) (item:=s.item) (body:=body) (λi xs M'=>M'=M/\xs=(ds.take i).filterMap g) (n:=ds.length) (λi xs M' Ir hI=>by
  obtain⟨rfl,rfl⟩:=hI;refine⟨ds[i],g ds[i],M',by rw[hi i Ir];simp[Ir],h _ (pq Ir),rfl,?_⟩;rw[List.take_succ,List.filterMap_append];simp[Ir];cases e:g ds[i]<;>simp[e]) (λxs M' h=>by rw[h.1];exact Qi) ds.length 0 [] M (ux _) ⟨rfl,rfl⟩
 rw[hl,e,h1];simp at h2;rw[h2]
def anb(h:∀d∈ds,body d M=.ok (some (g d)) M) :
 Di (Src.con ds).fin (Src.con ds).item body (Src.con ds).len 0 M=.ok (ds.map g) M:=by
 rw[Su (s:=.con ds) (ds:=ds) (g:=λd=>some (g d)) rfl rfl (λi _=>rfl) h,List.filterMap_eq_map']
end MW
namespace MW
theorem Ox{c:Env->dh->Res D}{body:Env->dh->Res (Flow×Env)}(I:Nat->Env->dh->Prop)(Sv:Env->dh->Prop)
 (step:∀m ρ M,I m ρ M->(∃M1,c ρ M=.ok (.bl false) M1/\Sv ρ M1) \/
  ∃M1 fl ρ' M2 m',c ρ M=.ok (.bl true) M1/\body ρ M1=.ok (fl,ρ') M2/\(fl=.next\/fl=.cont)/\m'<m/\I m' ρ' M2) :
 ∀(k m:Nat)(ρ:Env)(M:dh),m<k->I m ρ M->∃ρ' M',Fy c body k ρ M=.ok (.next,ρ') M'/\Sv ρ' M'
 |0,m,_,_,h,_=>absurd h (ug _)
 |k+1,m,ρ,M,h,hI=>by
  rcases step m ρ M hI with⟨M1,h1,h2⟩|⟨M1,fl,ρ1,M2,m',h1,h2,h3,h4,h5⟩
  . exact⟨ρ,M1,by simp[Fy,h1],h2⟩
  . obtain⟨ρ3,M3,g1,g2⟩:=Ox I Sv step k m' ρ1 M2 (b_ h4 (z_ h)) h5
    refine⟨ρ3,M3,?_,g2⟩;rcases h3 with rfl|rfl<;>simp[Fy,h1,h2,g1]
end MW
namespace MW
noncomputable def Bo(M M':dh):Prop:=∀(a:Nat)(o:MO),M[a]?=some o->M'[a]?=some o
def Bo.refl(M:dh):Bo M M:=λ_ _ h=>h
def Bo.trans(a:Bo M M1)(b:Bo M1 M2):Bo M M2:=λx o h=>b x o (a x o h)
def Bo.app(M X:dh):Bo M (M++X):=λ_ _ h=>xm h
def Bo.len(k:Bo M M'):M.length<=M'.length:=by
 rcases Nat.eq_zero_or_pos M.length with h|h
 . exact a_ (f_ h) (ju _)
 . have:=wz (k (M.length-1) M[M.length-1] (by simp))
   lia
theorem Bo.fc(k:Bo M M')(h:fc M d=some ds):MW.fc M' d=some ds:=by
 cases d with
 |vl xs=>exact h
 |ref n =>
  simp only[MW.fc] at h ⊢;cases e:M[n]? with
  |none=>rw[e] at h;simp at h|some o=>rw[e] at h;rw[k n o e];exact h
 |_=>simp[MW.fc] at h
def Vy(I:Nat->Env->dh->Prop)(hd:fc M d=some ds)(h0:I 0 ρ M)(stay:∀i ρ M,I i ρ M->fc M d=some ds)(step:∀i x ρ M,ds[i]?=some x->I i ρ M->∃fl ρ' M',body x ρ M=.ok (fl,ρ') M'/\(fl=.next\/fl=.cont)/\I (i+1) ρ' M') :
 ∃s,srcOf M d=some s/\∃ρ' M',Bw s.fin s.item body s.len 0 ρ M=.ok (.next,ρ') M'/\I ds.length ρ' M':=by
 cases d with
 |vl xs=>simp[fc] at hd;subst hd;exact⟨_,rfl,Vb I h0 step⟩
 |ref n =>
  cases e:M[n]? with
  |none=>simp[fc,e] at hd
  |some o =>
   cases o with
   |lst xs =>
    simp[fc,e] at hd;subst hd;refine⟨.live n xs.length,by simp[srcOf,e],ana I h0 (λi ρ M h=>?_) step⟩;have:=stay i ρ M h;simp only[fc] at this;split at this<;>simp_all
   |_=>simp[fc,e] at hd
 |_=>simp[fc] at hd
def ahi(hl:ds.length<=100000)(h:∀d∈ds,body d M=.ok (some (g d)) M):Af (.con ds) body M=.ok (ds.map g) M:=by rw[Af,cz (show(Src.con ds).len<=100000 from hl)];exact anb h
def Vz(hl:ds.length<=100000)(h:∀d∈ds,body d M=.ok (g d) M):Af (.con ds) body M=.ok (ds.filterMap g) M:=by rw[Af,cz (show(Src.con ds).len<=100000 from hl)];exact Su (s:=.con ds) rfl rfl (λ_ _=>rfl) h
def aco(hd:fc M d=some ds)(hl:ds.length<=100000)(h:∀x∈ds,body x M=.ok (g x) M) :
 ∃s,srcOf M d=some s/\Af s body M=.ok (ds.filterMap g) M:=by
 cases d with
 |vl xs=>simp[fc] at hd;subst hd;exact⟨_,rfl,Vz hl h⟩
 |ref n =>
  cases e:M[n]? with
  |none=>simp[fc,e] at hd
  |some o =>
   cases o with
   |lst xs =>
    simp[fc,e] at hd;subst hd;exact⟨.live n xs.length,by simp[srcOf,e],by rw[Af,cz (show(Src.live n xs.length).len<=100000 from hl)];exact Su (s:=.live n xs.length) (by simp[Src.fin,e]) rfl (λi _=>by simp[Src.item,e]) h⟩
   |_=>simp[fc,e] at hd
 |_=>simp[fc] at hd
def J1(v:Bool)(k:Nat)(t:Tg)(it:Ow)(e:Ex):(Ex.comp v k t it e).den W ρ M=(it.den W ρ M).bind λs M1 =>
 (Af s (λd M=>(Res.vg (t.put d (ρ++List.replicate k none)) M).bind fun ρ' M=>(e.den W ρ' M).bind λx M'=>.ok (some x) M') M1).bind λds M2=>if v then .ok (.vl ds) M2 else new (.lst ds) M2:=by
 rw[Mx]
 congr 1;funext s M1;congr 2;funext d M
 cases t.put d (ρ++List.replicate k none)<;>rfl
def T3(v:Bool)(k:Nat)(t:Tg)(it:Ow)(c e:Ex):(Ex.Dh v k t it c e).den W ρ M=(it.den W ρ M).bind λs M1 =>
 (Af s (λd M=>(Res.vg (t.put d (ρ++List.replicate k none)) M).bind fun ρ' M=>(c.den W ρ' M).bind λb M' =>
  match b with
   |.bl true=>(e.den W ρ' M').bind λx M''=>.ok (some x) M''
   | .bl false=>.ok none M'|_=>.bad) M1).bind λds M2=>if v then .ok (.vl ds) M2 else new (.lst ds) M2:=by
 rw[Vw]
 congr 1;funext s M1;congr 2;funext d M
 cases t.put d (ρ++List.replicate k none)<;>rfl
def Oz(t:Tg)(it:Ow)(b:o7):(By.for_ t it b).den W ρ M=(it.den W ρ M).bind λs M1=>Bw s.fin s.item (λd ρ M=>(Res.vg (t.put d ρ) M).bind fun ρ' M=>b.den W ρ' M) s.len 0 ρ M1:=by
 rw[Ss]
 congr 1;funext s M1;congr 1;funext d ρ M
 cases t.put d ρ<;>rfl
def Ax(hit:it.den W ρ M=.ok (.int (n:Int)) M1)(hn:n<=100000)(I:Nat->Env->dh->Prop)(h0:I 0 ρ M1)(step:∀i ρ M,i<n->I i ρ M->∃ρ1 fl ρ' M',t.put (.int i) ρ=some ρ1/\b.den W ρ1 M=.ok (fl,ρ') M'/\(fl=.next\/fl=.cont)/\I (i+1) ρ' M') :
 ∃ρ' M',(By.for_ t (.Im it) b).den W ρ M=.ok (.next,ρ') M'/\I n ρ' M':=by
 rw[Oz,Iw,hit];have Ov:((n:Int)).natAbs<=100000:=by lia
 simp only[Res.Bl,Ov,jx,u9];exact aag I h0 (λi ρ M hi h=>by
  obtain⟨ρ1,fl,ρ',M',a,b,c,d⟩:=step i ρ M hi h;exact⟨fl,ρ',M',by rw[a];exact b,c,d⟩)
def Kv(hit:it.den W ρ M=.ok d M1)(hd:fc M1 d=some ds)(I:Nat->Env->dh->Prop)(h0:I 0 ρ M1)(stay:∀i ρ M,I i ρ M->fc M d=some ds)(step:∀i x ρ M,ds[i]?=some x->I i ρ M->∃ρ1 fl ρ' M',t.put x ρ=some ρ1/\b.den W ρ1 M=.ok (fl,ρ') M'/\(fl=.next\/fl=.cont)/\I (i+1) ρ' M') :
 ∃ρ' M',(By.for_ t (.val it) b).den W ρ M=.ok (.next,ρ') M'/\I ds.length ρ' M':=by
 rw[Oz,Iv,hit];obtain⟨s,h1,h2⟩:=Vy (body:=λd ρ M=>(Res.vg (t.put d ρ) M).bind fun ρ' M=>b.den W ρ' M) I hd h0 stay (λi x ρ M hx h=>by
  obtain⟨ρ1,fl,ρ',M',a,b,c,d⟩:=step i x ρ M hx h;exact⟨fl,ρ',M',by rw[a];exact b,c,d⟩)
 simp only[Res.Bl,h1,Res.Dl];exact h2
def acp(hit:it.den W ρ M=.ok (.tup ds) M1)(I:Nat->Env->dh->Prop)(h0:I 0 ρ M1)(step:∀i x ρ M,ds[i]?=some x->I i ρ M->∃ρ1 fl ρ' M',t.put x ρ=some ρ1/\b.den W ρ1 M=.ok (fl,ρ') M'/\(fl=.next\/fl=.cont)/\I (i+1) ρ' M') :
 ∃ρ' M',(By.for_ t (.val it) b).den W ρ M=.ok (.next,ρ') M'/\I ds.length ρ' M':=by
 rw[Oz,Iv,hit];exact Vb I h0 (λi x ρ M hx h=>by
  obtain⟨ρ1,fl,ρ',M',a,b,c,d⟩:=step i x ρ M hx h;exact⟨fl,ρ',M',by rw[a];exact b,c,d⟩)
def T4(hit:it.den W ρ M=.ok (.tup ds) M1)(I:Nat->Env->dh->Prop)(h0:I 0 ρ M1)(step:∀i x ρ M,ds[i]?=some x->I i ρ M->∃ρ1 fl ρ' M',t.put (.tup [.int i,x]) ρ=some ρ1/\b.den W ρ1 M=.ok (fl,ρ') M'/\(fl=.next\/fl=.cont)/\I (i+1) ρ' M') :
 ∃ρ' M',(By.for_ t (.enm it) b).den W ρ M=.ok (.next,ρ') M'/\I ds.length ρ' M':=by
 rw[Oz,ahg,hit];have:=Vb (ds:=Dy ds 0) (body:=λd ρ M=>(Res.vg (t.put d ρ) M).bind fun ρ' M=>b.den W ρ' M) I h0 (λi x ρ M hx h=>by
  have hil:i<ds.length:=by have:=(ak.mp hx).1;simpa[Dy] using this
  have hx':x=.tup [.int i,ds[i]]:=by simp[Dy,hil] at hx;exact hx.symm
  subst hx';obtain⟨ρ1,fl,ρ',M',a,b,c,d⟩:=step i ds[i] ρ M (by simp[hil]) h;exact⟨fl,ρ',M',by rw[a];exact b,c,d⟩)
 have e:(Dy ds 0).length=ds.length:=by simp[Dy]
 rw[e] at this;exact this
def Ay(hit:it.den W ρ M=.ok d M1)(hd:fc M1 d=some ds)(hl:ds.length<=100000)(h:∀x∈ds,∃ρ1,t.put x (ρ++List.replicate k none)=some ρ1/\e.den W ρ1 M1=.ok (g x) M1) :
 (Ex.comp v k t (.val it) e).den W ρ M=if v then .ok (.vl (ds.map g)) M1 else new (.lst (ds.map g)) M1:=by
 rw[J1,Iv,hit];obtain⟨s,h1,h2⟩:=aco (g:=λx=>some (g x)) (body:=λd M=>(Res.vg (t.put d (ρ++List.replicate k none)) M).bind fun ρ' M=>(e.den W ρ' M).bind λx M'=>.ok (some x) M') hd hl (λx hx=>by
  obtain⟨ρ1,a,b⟩:=h x hx;rw[a];simp[b])
 simp only[Res.Bl,h1,Res.Dl,h2,List.filterMap_eq_map']
def aah(hit:it.den W ρ M=.ok (.tup ds) M1)(hl:ds.length<=100000)(h:∀x∈ds,∃ρ1,t.put x (ρ++List.replicate k none)=some ρ1/\e.den W ρ1 M1=.ok (g x) M1) :
 (Ex.comp v k t (.val it) e).den W ρ M=if v then .ok (.vl (ds.map g)) M1 else new (.lst (ds.map g)) M1:=by
 rw[J1,Iv,hit];have h2:=ahi (g:=g) (M:=M1) (body:=λd M=>(Res.vg (t.put d (ρ++List.replicate k none)) M).bind fun ρ' M=>(e.den W ρ' M).bind λx M'=>.ok (some x) M') hl (λx hx=>by
  obtain⟨ρ1,a,b⟩:=h x hx;rw[a];simp[b])
 show(Af (.con ds) _ M1).bind _=_;rw[h2];rfl
def V0(hit:it.den W ρ M=.ok (.int (n:Int)) M1)(hl:n<=100000)(h:∀i,i<n->∃ρ1,t.put (.int i) (ρ++List.replicate k none)=some ρ1/\c.den W ρ1 M1=.ok (.bl (q i)) M1/\(q i=true->e.den W ρ1 M1=.ok (g i) M1)) :
 (Ex.Dh v k t (.Im it) c e).den W ρ M=if v then .ok (.vl (((List.range n).filter q).map g)) M1 else new (.lst (((List.range n).filter q).map g)) M1:=by
 rw[T3,Iw,hit];have Ov:((n:Int)).natAbs<=100000:=by lia
 simp only[Res.Bl,Ov,jx,u9];rw[Vz (ds:=(List.range n).map λ(k:Nat)=>D.int (k:Int)) (g:=λd=>match d with|.int i=>if q i.toNat then some (g i.toNat) else none|_=>none) (by simpa using hl) (λx hx=>by
  obtain⟨i,hi,rfl⟩:=bf.mp hx;obtain⟨ρ1,a,b,c⟩:=h i (je.mp hi);rw[a,Res.Dl,Res.Bl,b,Res.Bl];cases e:q i with
  | true=>simp[e,c e]|false=>simp[e])]
 have:(((List.range n).map λ(k:Nat)=>D.int (k:Int)).filterMap λd=>match d with|.int i=>if q i.toNat then some (g i.toNat) else none|_=>none)=((List.range n).filter q).map g:=by
  rw[List.filterMap_map]
  induction List.range n with
  |nil=>rfl|cons a l ih=>by_cases e:q a=true<;>simp[e,ih]
 rw[this];rfl
theorem ahj{fin:dh->Bool}{item:Nat->dh->Option D}{body:D->Env->dh->Res (Flow×Env)}(I:Nat->Env->dh->Prop)(Sv:Env->dh->Prop){n:Nat}
 (step:∀i ρ M,i<n->I i ρ M->∃d fl ρ' M',item i M=some d/\body d ρ M=.ok (fl,ρ') M'/\(((fl=.next\/fl=.cont)/\I (i+1) ρ' M')\/(fl=.brk/\Sv ρ' M'))) (Qi:∀ρ M,I n ρ M->fin M=true/\Sv ρ M) :
 ∀(k i:Nat)(ρ:Env)(M:dh),i+k=n->I i ρ M->∃ρ' M',Bw fin item body k i ρ M=.ok (.next,ρ') M'/\Sv ρ' M'
 |0,i,ρ,M,e,h=>by
  have q:i=n:=by lia
  rw[q] at h;exact⟨ρ,M,by simp[Bw,(Qi ρ M h).1],(Qi ρ M h).2⟩
 |k+1,i,ρ,M,e,h=>by
  obtain⟨d,fl,ρ1,M1,h1,h2,⟨h3,h4⟩|⟨rfl,h4⟩⟩:=step i ρ M (by lia) h
  . obtain⟨ρ2,M2,g1,g2⟩:=ahj I Sv step Qi k (i+1) ρ1 M1 (by lia) h4
    refine⟨ρ2,M2,?_,g2⟩;rcases h3 with rfl|rfl<;>simp[Bw,h1,h2,g1]
  . exact⟨ρ1,M1,by simp[Bw,h1,h2],h4⟩
def acq(hit:it.den W ρ M=.ok (.int (n:Int)) M1)(hn:n<=100000)(I:Nat->Env->dh->Prop)(Sv:Env->dh->Prop)(h0:I 0 ρ M1)(hp:∀ρ M,I n ρ M->Sv ρ M)(step:∀i ρ M,i<n->I i ρ M->∃ρ1 fl ρ' M',t.put (.int i) ρ=some ρ1/\b.den W ρ1 M=.ok (fl,ρ') M'/\(((fl=.next\/fl=.cont)/\I (i+1) ρ' M')\/(fl=.brk/\Sv ρ' M'))) :
 ∃ρ' M',(By.for_ t (.Im it) b).den W ρ M=.ok (.next,ρ') M'/\Sv ρ' M':=by
 rw[Oz,Iw,hit];have Ov:((n:Int)).natAbs<=100000:=by lia
 simp only[Res.Bl,Ov,jx,u9];obtain⟨ρ',M',e,h⟩:=ahj (fin:=(Src.con ((List.range n).map λ(k:Nat)=>D.int (k:Int))).fin) (item:=(Src.con ((List.range n).map λ(k:Nat)=>D.int (k:Int))).item) (body:=λd ρ M=>(Res.vg (t.put d ρ) M).bind fun ρ' M=>b.den W ρ' M) I Sv (n:=n) (λi ρ M hi h=>by
  obtain⟨ρ1,fl,ρ',M',a,b,c⟩:=step i ρ M hi h;exact⟨.int i,fl,ρ',M',by simp[Src.item,hi],by rw[a];exact b,c⟩) (fun ρ M h=>⟨rfl,hp ρ M h⟩) n 0 ρ M1 (ux _) h0
 have hl:(Src.con ((List.range n).map λ(k:Nat)=>D.int (k:Int))).len=n:=by simp[Src.len]
 rw[hl];exact⟨ρ',M',e,h⟩
def Kw(hit:it.den W ρ M=.ok (.int (n:Int)) M1)(hn:n<=100000)(I:Nat->List D->dh->Prop)(h0:I 0 [] M1)(step:∀i xs M,i<n->I i xs M->∃ρ1 x M',t.put (.int i) (ρ++List.replicate k none)=some ρ1/\e.den W ρ1 M=.ok x M'/\I (i+1) (xs++[x]) M') :
 ∃ys M',(Ex.comp v k t (.Im it) e).den W ρ M=(if v then .ok (.vl ys) M' else new (.lst ys) M')/\I n ys M':=by
 rw[J1,Iw,hit];have Ov:((n:Int)).natAbs<=100000:=by lia
 simp only[Res.Bl,Ov,jx,u9];obtain⟨ys,M',g,h⟩:=Hd (fin:=(Src.con ((List.range n).map λ(k:Nat)=>D.int (k:Int))).fin) (item:=(Src.con ((List.range n).map λ(k:Nat)=>D.int (k:Int))).item) (body:=λd M=>(Res.vg (t.put d (ρ++List.replicate k none)) M).bind fun ρ' M=>(e.den W ρ' M).bind λx M'=>.ok (some x) M') I (n:=n) (λi xs M hi h=>by
  obtain⟨ρ1,x,M',a,b,c⟩:=step i xs M hi h;exact⟨.int i,some x,M',by simp[Src.item,hi],by rw[a];simp[b],by simpa using c⟩) (λ_ _ _=>rfl) n 0 [] M1 (ux _) h0
 have hl:(Src.con ((List.range n).map λ(k:Nat)=>D.int (k:Int))).len=n:=by simp[Src.len]
 refine⟨ys,M',?_,by simpa using h⟩;rw[Af,hl,cz hn,g];rfl
set_option tactic.hygienic true in
def Fz(hit:it.den W ρ M=.ok d M1)(hd:fc M1 d=some ds)(hn:ds.length<=100000)(I:Nat->List D->dh->Prop)(h0:I 0 [] M1)(stay:∀i xs M,I i xs M->fc M d=some ds)(step:∀i y xs M,ds[i]?=some y->I i xs M->∃ρ1 x M',t.put y (ρ++List.replicate k none)=some ρ1/\e.den W ρ1 M=.ok x M'/\I (i+1) (xs++[x]) M') :
 ∃ys M',(Ex.comp v k t (.val it) e).den W ρ M=(if v then .ok (.vl ys) M' else new (.lst ys) M')/\I ds.length ys M':=by
 rw[J1,Iv,hit];obtain⟨s,hs,hl,hi,hf⟩:∃s,srcOf M1 d=some s/\s.len=ds.length/\(∀M i,fc M d=some ds->s.item i M=ds[i]?)/\∀M,fc M d=some ds->s.fin M=true:=by
  cases d with
  |vl zs=>cases hd;exact⟨.con ds,rfl,rfl,λ_ _ _=>rfl,λ_ _=>rfl⟩
  |ref p =>
   have get:∀{M:dh},fc M (.ref p)=some ds->M[p]?=some (.lst ds):=fun{M} h=>by
    simp only[fc] at h;split at h
    . rename_i z;cases h;exact z
    . cases h
   refine⟨.live p ds.length,by simp[srcOf,get hd],rfl,λM i h=>by simp[Src.item,get h],λM h=>by simp[Src.fin,get h]⟩
  |_=>cases hd
 simp only[Res.Bl,hs,Res.Dl];obtain⟨ys,M',g,h⟩:=Hd (fin:=s.fin) (item:=s.item) (body:=λd M=>(Res.vg (t.put d (ρ++List.replicate k none)) M).bind fun ρ' M=>(e.den W ρ' M).bind λx M'=>.ok (some x) M') I (n:=ds.length) (λi xs M Ir h=>by
  obtain⟨ρ1,x,M',a,b,c⟩:=step i ds[i] xs M (by simp[Ir]) h;exact⟨ds[i],some x,M',by rw[hi M i (stay i xs M h)];simp[Ir],by rw[a];simp[b],by simpa using c⟩) (λxs M h=>hf M (stay _ xs M h)) ds.length 0 [] M1 (ux _) h0
 refine⟨ys,M',?_,by simpa using h⟩;rw[Af,hl,cz hn,g];rfl
noncomputable abbrev Goes(I:Nat->Env->dh->Prop)(R:D->dh->Prop)(i:Nat)(r:Res (Flow×Env)):Prop:=∃fl ρ' M',r=.ok (fl,ρ') M'/\((fl=.next/\I i ρ' M')\/∃v,fl=.ret v/\R v M')
theorem ahk{fin:dh->Bool}{item:Nat->dh->Option D}{body:D->Env->dh->Res (Flow×Env)}(I:Nat->Env->dh->Prop)(R:D->dh->Prop){n:Nat}
 (step:∀i ρ M,i<n->I i ρ M->∃d,item i M=some d/\Goes I R (i+1) (body d ρ M)) (hf:∀ρ M,I n ρ M->fin M=true) :
 ∀k i ρ M,i+k=n->I i ρ M->Goes I R n (Bw fin item body k i ρ M)
 |0,i,ρ,M,e,h=>by
  obtain rfl:i=n:=by lia
  exact⟨_,ρ,M,by simp[Bw,hf ρ M h],.inl ⟨rfl,h⟩⟩
 |k+1,i,ρ,M,e,h=>by
  obtain⟨d,h1,fl,ρ',M',h2,⟨rfl,h4⟩|⟨v,rfl,h4⟩⟩:=step i ρ M (by lia) h
  . have:=ahk I R step hf k (i+1) ρ' M' (by lia) h4
    simpa[Bw,h1,h2] using this
  . exact⟨.ret v,ρ',M',by simp[Bw,h1,h2],.inr ⟨v,rfl,h4⟩⟩
section
variable{W:Jp}{ρ:Env}{M M1:dh}{t:Tg}{b:o7}
def Vc{it:Ow}{s:Src}{n:Nat}(hit:it.den W ρ M=.ok s M1)(hn:s.len=n)(I:Nat->Env->dh->Prop)(R:D->dh->Prop)(h0:I 0 ρ M1)(hf:∀ρ M,I n ρ M->s.fin M=true)
 (step:∀i ρ M,i<n->I i ρ M->∃d ρ1,s.item i M=some d/\t.put d ρ=some ρ1/\Goes I R (i+1) (b.den W ρ1 M)):Goes I R n ((By.for_ t it b).den W ρ M):=by
 rw[Oz,hit,Res.Bl,hn];exact ahk I R (λi ρ M hi h=>by
  obtain⟨d,ρ1,a,b,c⟩:=step i ρ M hi h;exact⟨d,a,by rw[b];exact c⟩) hf n 0 ρ M1 (ux n) h0
def T5{it:Ex}{n:Nat}(hit:it.den W ρ M=.ok (.int (n:Int)) M1)(hn:n<=100000)(I:Nat->Env->dh->Prop)(R:D->dh->Prop)(h0:I 0 ρ M1)
 (step:∀i ρ M,i<n->I i ρ M->∃ρ1,t.put (.int i) ρ=some ρ1/\Goes I R (i+1) (b.den W ρ1 M)):Goes I R n ((By.for_ t (.Im it) b).den W ρ M):=by
 exact Vc (s:=.con ((List.range n).map λ(k:Nat)=>D.int (k:Int))) (by rw[Iw,hit];simp[hn]) (by simp[Src.len]) I R h0 (λ_ _ _=>rfl) (λi ρ M hi h=>by
  obtain⟨ρ1,a⟩:=step i ρ M hi h;exact⟨.int i,ρ1,by simp[Src.item,hi],a⟩)
end
end MW
namespace K12
open MW
noncomputable def J2:o7:=.c (.expr (.call 9 (.p (.v 1) (.v 2)))) (.c (.expr (.call 10 (.p (.v 2) (.v 3)))) (.c (.expr (.call 11 (.p (.v 2) (.v 3)))) (.q (.asg (.fld (.v 0) 2) (.v 1)) (.asg (.fld (.v 0) 1) (.v 2)) (.asg (.fld (.v 0) 0) (.blt .dict (.o (.v 3)))))))
noncomputable def J5:Fn:=⟨4,4,J2⟩
noncomputable def Uz:o7:=.o (.ret (.fld (.v 0) 2))
noncomputable def U0:Fn:=⟨1,1,Uz⟩
noncomputable def J6:o7:=.o (.ret (.fld (.v 0) 1))
noncomputable def J7:Fn:=⟨1,1,J6⟩
noncomputable def Sw:o7:=.o (.ret (.call 6 (.q (.fld (.v 0) 0) (.v 1) (.v 2))))
noncomputable def Sx:Fn:=⟨3,3,Sw⟩
noncomputable def Sy:Ex:=.Dh true 2 (.names [2,3]) (.enm (.fld (.v 0) 1)) (.cmp .eq (.ix (.v 3) (.i 0)) (.v 1)) (.v 2)
noncomputable def V1:o7:=.o (.ret (.bin .amt (.Hb (.o (.i (-1)))) Sy))
noncomputable def V2:Fn:=⟨2,2,V1⟩
noncomputable def Xz:o7:=.p (.f (.cmp .eq (.v 2) (.i (-1))) (.o (.ret (.v 1)))) (.ret (.ix (.ix (.fld (.v 0) 1) (.v 2)) (.i 1)))
noncomputable def X3:Fn:=⟨3,3,Xz⟩
noncomputable def Iz:o7:=.q (.f (.cmp .eq (.v 1) (.i (-1))) (.o (.ret (.v 2)))) (.f (.cmp .eq (.v 2) (.i (-1))) (.o (.ret (.v 1)))) (.ret (.ix (.v 0) (.tup (.p (.v 1) (.v 2)))))
noncomputable def Ja:Fn:=⟨3,3,Iz⟩
noncomputable def Br:o7:=.o (.f (.cmp .eq (.ix (.v 3) (.i 1)) (.ix (.v 5) (.i 0))) (.o (.expr (.bm .append (.v 1) (.o (.tup (.p (.v 2) (.v 4))))))))
noncomputable def Jb:By:=.for_ (.names [4,5]) (.enm (.v 0)) Br
noncomputable def Ea:o7:=.o Jb
noncomputable def Jc:By:=.for_ (.names [2,3]) (.enm (.v 0)) Ea
noncomputable def Lx:o7:=.q (.a 1 (.lst .z)) Jc (.ret (.v 1))
noncomputable def Ly:Fn:=⟨1,6,Lx⟩
noncomputable def Eu:o7:=.p (.f (.cmp .eq (.v 1) (.i (-1))) (.o (.ret (.cmp .eq (.v 2) (.v 3))))) (.ret (.and (.chain .le .lt (.i 0) (.v 1) (.l (.v 0))) (.cmp .eq (.ix (.v 0) (.v 1)) (.tup (.p (.v 2) (.v 3))))))
noncomputable def Ew:Fn:=⟨4,4,Eu⟩
noncomputable def Ey:o7:=.o (.f (.not (.and (.chain .le .lt (.i 0) (.ix (.v 2) (.i 0)) (.v 0)) (.chain .le .lt (.i 0) (.ix (.v 2) (.i 1)) (.v 0)))) (.o (.raise 1 (.o (.cst (.str (PySem.Str.ofString "a doing is from a kind to a kind")))))))
noncomputable def J8:By:=.for_ (.name 2) (.val (.v 1)) Ey
noncomputable def Mz:o7:=.q (.f (.not (.chain .le .le (.i 1) (.v 0) (.i 3))) (.o (.raise 1 (.o (.cst (.str (PySem.Str.ofString "a pattern has one to three kinds"))))))) (.f (.cmp .gt (.l (.v 1)) (.i 5)) (.o (.raise 1 (.o (.cst (.str (PySem.Str.ofString "a pattern has at most five doings"))))))) J8
noncomputable def M9:Fn:=⟨2,3,Mz⟩
noncomputable def Gi:o7:=.o (.f (.not (.call 8 (.c (.v 0) (.q (.ix (.v 1) (.tup (.p (.v 3) (.v 4)))) (.ix (.ix (.v 0) (.v 3)) (.i 0)) (.ix (.ix (.v 0) (.v 4)) (.i 1)))))) (.o (.raise 1 (.o (.cst (.str (PySem.Str.ofString "two doings come to a way of their own ends")))))))
noncomputable def Lz:By:=.for_ (.names [3,4]) (.val (.v 2)) Gi
noncomputable def Pb:o7:=.q (.a 2 (.call 7 (.o (.v 0)))) (.f (.Vv (.v 1) (.v 2)) (.o (.raise 1 (.o (.cst (.str (PySem.Str.ofString "a table tells of just the pairs of doings that meet"))))))) Lz
noncomputable def Pg:Fn:=⟨2,5,Pb⟩
noncomputable def Dd:o7:=.c (.f (.cmp .Qx (.tup (.p (.v 4) (.v 5))) (.v 1)) (.o .cont)) (.q (.a 6 (.call 6 (.q (.v 1) (.ix (.v 1) (.tup (.p (.v 3) (.v 4)))) (.v 5)))) (.a 7 (.call 6 (.q (.v 1) (.v 3) (.ix (.v 1) (.tup (.p (.v 4) (.v 5))))))) (.f (.cmp .ne (.v 6) (.v 7)) (.o (.raise 1 (.o (.cst (.str (PySem.Str.ofString "three doings come to one way, however they are taken together"))))))))
noncomputable def J9:By:=.for_ (.name 5) (.Im (.l (.v 0))) Dd
noncomputable def Ez:o7:=.o J9
noncomputable def Ka:By:=.for_ (.names [3,4]) (.val (.v 2)) Ez
noncomputable def Nb:o7:=.p (.a 2 (.call 7 (.o (.v 0)))) Ka
noncomputable def Nf:Fn:=⟨2,8,Nb⟩
noncomputable def Hf:o7:=.p (.f (.cmp .lt (.v 1) (.l (.v 0))) (.o (.ret (.ix (.v 0) (.v 1))))) (.ret (.i 0))
noncomputable def Hg:Fn:=⟨2,2,Hf⟩
noncomputable def Ky:o7:=.q (.a 2 (.call 12 (.p (.v 0) (.v 1)))) (.f (.cmp .ge (.v 2) (.bin .pow (.i 10) (.i 18))) (.o (.ret (.lst (.p (.bin .sub (.v 2) (.bin .pow (.i 10) (.i 18))) (.cst (.bl true))))))) (.ret (.lst (.p (.bin .mod (.v 2) (.i 2147483647)) (.cst (.bl false)))))
noncomputable def Kz:Fn:=⟨2,3,Ky⟩
noncomputable def Ng:o7:=.c (.f (.ix (.v 0) (.i 1)) (.q (.a 2 (.bin .mod (.ix (.v 0) (.i 0)) (.v 1))) (.asg (.sub (.v 0) (.i 0)) (.bin .fdiv (.ix (.v 0) (.i 0)) (.v 1))) (.ret (.v 2)))) (.c (.asg (.sub (.v 0) (.i 0)) (.bin .mod (.bin .add (.bin .mul (.ix (.v 0) (.i 0)) (.i 48271)) (.i 29)) (.i 2147483647))) (.q (.a 3 (.bin .mod (.bin .add (.bin .add (.bin .mul (.ix (.v 0) (.i 0)) (.ix (.v 0) (.i 0))) (.bin .mul (.i 39373) (.ix (.v 0) (.i 0)))) (.i 7)) (.i 2147483629))) (.a 3 (.bin .mod (.bin .add (.bin .mul (.v 3) (.v 3)) (.bin .mul (.i 16807) (.v 3))) (.i 2147483587))) (.ret (.bin .mod (.bin .fdiv (.v 3) (.i 8)) (.v 1)))))
noncomputable def Nh:Fn:=⟨2,4,Ng⟩
noncomputable def Hh:Ex:=.comp true 1 (.name 12) (.Im (.ix (.v 7) (.v 10))) (.call 14 (.p (.v 0) (.ix (.v 7) (.v 11))))
noncomputable def Eb:o7:=.q (.a 10 (.call 14 (.p (.v 0) (.v 6)))) (.a 11 (.call 14 (.p (.v 0) (.v 6)))) (.expr (.bm .append (.v 8) (.o (.tup (.q (.v 10) (.v 11) (.blt .tuple (.o Hh)))))))
noncomputable def Hi:By:=.for_ (.name 9) (.Im (.call 14 (.p (.v 0) (.i 4)))) Eb
noncomputable def Hj:Ex:=.comp true 1 (.name 12) (.Im (.v 6)) (.bin .add (.i 1) (.call 14 (.p (.v 0) (.i 3))))
noncomputable def K1:o7:=.c (.a 1 (.call 14 (.p (.v 0) (.i 12)))) (.c (.f (.cmp .lt (.v 1) (.i 7)) (.c (.a 2 (.Hb (.p (.tup (.q (.i 0) (.i 1) (.tup (.p (.i 0) (.i 1))))) (.tup (.q (.i 0) (.i 1) (.tup (.p (.i 1) (.i 0)))))))) (.c (.a 3 (.Hb (.q (.tup (.q (.i 0) (.i 1) (.tup (.c (.i 0) (.q (.i 0) (.i 1) (.i 1)))))) (.tup (.q (.i 0) (.i 1) (.tup (.c (.i 0) (.q (.i 1) (.i 0) (.i 1)))))) (.tup (.q (.i 1) (.i 0) (.tup (.p (.i 0) (.i 3)))))))) (.q (.a 4 (.Hb (.o (.tup (.q (.i 0) (.i 0) (.tup (.p (.i 1) (.i 0)))))))) (.a 5 (.Hb (.c (.v 2) (.c (.v 3) (.c (.v 4) (.c (.Hb (.o (.tup (.q (.i 0) (.i 0) (.tup (.q (.i 1) (.i 2) (.i 0))))))) (.q (.Hb (.o (.tup (.q (.i 0) (.i 0) (.tup (.p (.i 0) (.i 0))))))) (.Hb .z) (.Hb (.p (.tup (.q (.i 0) (.i 1) (.tup (.p (.i 0) (.i 1))))) (.tup (.q (.i 1) (.i 2) (.tup (.q (.i 0) (.i 0) (.i 1)))))))))))))) (.ret (.ix (.v 5) (.v 1))))))) (.c (.a 6 (.bin .add (.i 1) (.call 14 (.p (.v 0) (.i 3))))) (.c (.a 7 Hj) (.q (.a 8 (.lst .z)) Hi (.ret (.v 8))))))
noncomputable def De:Fn:=⟨1,12,K1⟩
noncomputable def Gj:Ex:=.comp true 1 (.name 10) (.val (.ix (.v 7) (.i 2))) (.ix (.ix (.v 8) (.i 2)) (.v 10))
noncomputable def Ca:o7:=.c (.a 4 (.tup .z)) (.q (.f (.cmp .eq (.ix (.v 7) (.i 1)) (.ix (.v 8) (.i 0))) (.o (.a 4 (.blt .tuple (.o Gj))))) (.a 9 (.tup (.q (.ix (.v 7) (.i 0)) (.ix (.v 8) (.i 1)) (.v 4)))) (.f (.and (.cmp .ne (.v 4) (.tup .z)) (.and (.cmp .Qx (.v 9) (.v 1)) (.or (.cmp .ne (.ix (.v 9) (.i 0)) (.ix (.v 9) (.i 1))) (.cmp .ne (.v 4) (.Xw (.l (.v 4))))))) (.o (.expr (.bm .append (.v 1) (.o (.v 9)))))))
noncomputable def Gk:By:=.for_ (.names [7,8]) (.val (.Hb (.p (.tup (.p (.ix (.v 1) (.v 5)) (.ix (.v 1) (.v 6)))) (.tup (.p (.ix (.v 1) (.v 6)) (.ix (.v 1) (.v 5))))))) Ca
noncomputable def Gm:o7:=.o Gk
noncomputable def Gn:By:=.for_ (.name 6) (.Im (.l (.v 1))) Gm
noncomputable def Ma:o7:=.p Gn (.a 5 (.bin .add (.v 5) (.i 1)))
noncomputable def Gp:By:=.whl (.and (.cmp .lt (.v 5) (.l (.v 1))) (.cmp .lt (.l (.v 1)) (.i 6))) Ma
noncomputable def zr:o7:=.o (.f (.and (.or (.cmp .ne (.v 2) (.v 3)) (.cmp .ne (.v 4) (.Xw (.l (.v 4))))) (.cmp .Qx (.tup (.q (.v 2) (.v 3) (.v 4))) (.v 1))) (.o (.expr (.bm .append (.v 1) (.o (.tup (.q (.v 2) (.v 3) (.v 4))))))))
noncomputable def Gq:By:=.for_ (.names [2,3,4]) (.val (.v 0)) zr
noncomputable def Ph:o7:=.c (.a 1 (.lst .z)) (.c Gq (.q (.a 5 (.i 0)) Gp (.ret (.v 1))))
noncomputable def Pj:Fn:=⟨1,10,Ph⟩
noncomputable def Fb:Ex:=.comp true 3 (.names [8,9,10]) (.val (.v 2)) (.tup (.p (.v 8) (.v 9)))
noncomputable def Fe:Ex:=.comp true 1 (.name 8) (.val (.ix (.ix (.v 2) (.v 5)) (.i 2))) (.ix (.ix (.ix (.v 2) (.v 6)) (.i 2)) (.v 8))
noncomputable def Bb:o7:=.o (.f (.cmp .eq (.ix (.ix (.v 2) (.v 5)) (.i 1)) (.ix (.ix (.v 2) (.v 6)) (.i 0))) (.p (.a 7 (.tup (.q (.ix (.ix (.v 2) (.v 5)) (.i 0)) (.ix (.ix (.v 2) (.v 6)) (.i 1)) (.blt .tuple (.o Fe))))) (.asg (.sub (.v 4) (.tup (.p (.v 5) (.v 6)))) (.ite (.cmp .inn (.v 7) (.v 2)) (.bm .index (.v 2) (.o (.v 7))) (.neg (.i 1))))))
noncomputable def Kc:By:=.for_ (.name 6) (.Im (.l (.v 2))) Bb
noncomputable def Ff:o7:=.o Kc
noncomputable def Fi:By:=.for_ (.name 5) (.Im (.l (.v 2))) Ff
noncomputable def Fj:Ex:=.comp true 3 (.names [8,9,10]) (.val (.v 2)) (.blt .max (.p (.v 8) (.v 9)))
noncomputable def Kd:o7:=.p (.a 1 (.cut (.v 1) .none (.some (.neg (.i 1))))) (.a 2 (.call 16 (.o (.v 1))))
noncomputable def Fl:By:=.whl (.cmp .gt (.l (.v 2)) (.i 5)) Kd
noncomputable def Ni:o7:=.c (.a 1 (.call 15 (.o (.v 0)))) (.c (.a 2 (.call 16 (.o (.v 1)))) (.c Fl (.c (.a 3 (.bin .add (.i 1) (.blt .max (.o (.bin .add Fj (.Hb (.o (.i 0)))))))) (.c (.f (.cmp .eq (.v 2) (.Hb .z)) (.o (.a 3 (.bin .add (.i 1) (.call 14 (.p (.v 0) (.i 3))))))) (.q (.a 4 .ajx) Fi (.ret (.tup (.q (.v 3) (.blt .tuple (.o Fb)) (.v 4)))))))))
noncomputable def Nj:Fn:=⟨1,8,Ni⟩
noncomputable def Jr:Ex:=.Dh true 1 (.name 2) (.Im (.l (.ix (.v 0) (.i 1)))) (.cmp .eq (.ix (.ix (.ix (.v 0) (.i 1)) (.v 2)) (.i 0)) (.v 1)) (.v 2)
noncomputable def T6:o7:=.o (.ret (.bin .add (.Hb (.o (.neg (.i 1)))) Jr))
noncomputable def T7:Fn:=⟨2,2,T6⟩
noncomputable def Qj:o7:=.o (.ret (.ite (.cmp .lt (.v 2) (.i 0)) (.v 1) (.ix (.ix (.ix (.v 0) (.i 1)) (.v 2)) (.i 1))))
noncomputable def Qk:Fn:=⟨3,3,Qj⟩
noncomputable def Ga:o7:=.p (.f (.or (.cmp .lt (.v 1) (.i 0)) (.cmp .lt (.v 2) (.i 0))) (.o (.ret (.bin .add (.bin .add (.v 1) (.v 2)) (.i 1))))) (.ret (.ix (.ix (.v 0) (.i 2)) (.tup (.p (.v 1) (.v 2)))))
noncomputable def Gb:Fn:=⟨3,3,Ga⟩
noncomputable def axw:o7:=.p (.f (.cmp .eq (.v 2) (.i (-1))) (.o (.ret (.v 1)))) (.ret (.ix (.ix (.ix (.v 0) (.i 1)) (.v 2)) (.v 1)))
noncomputable def axx:Fn:=⟨3,3,axw⟩
noncomputable def acr:o7:=.o (.ret (.and (.call 23 (.q (.v 1) (.v 2) (.v 3))) (.cmp .is (.call 24 (.c (.v 0) (.q (.v 1) (.v 2) (.v 3)))) (.cst .non))))
noncomputable def acs:Fn:=⟨4,4,acr⟩
noncomputable def K3:Ex:=.comp true 1 (.name 6) (.val (.v 3)) (.chain .le .lt (.i 0) (.v 6) (.v 5))
noncomputable def K4:o7:=.p (.f (.cmp .ne (.l (.v 3)) (.v 4)) (.o (.ret (.cst (.bl false))))) (.f (.not (.blt .all (.o K3))) (.o (.ret (.cst (.bl false)))))
noncomputable def Q5:By:=.for_ (.names [3,4,5]) (.zip (.q (.v 2) (.ix (.v 0) (.i 0)) (.ix (.v 1) (.i 0)))) K4
noncomputable def V3:o7:=.q (.f (.cmp .ne (.l (.v 2)) (.l (.ix (.v 0) (.i 0)))) (.o (.ret (.cst (.bl false))))) Q5 (.ret (.cst (.bl true)))
noncomputable def V4:Fn:=⟨3,6,V3⟩
noncomputable def Hk:o7:=.o (.f (.cmp .ne (.call 21 (.q (.v 2) (.ix (.v 6) (.v 8)) (.v 4))) (.ix (.v 7) (.v 9))) (.o (.ret (.tup (.p (.v 4) (.v 8))))))
noncomputable def Nk:By:=.for_ (.names [8,9]) (.enm (.ix (.ix (.v 1) (.i 1)) (.v 4))) Hk
noncomputable def Hl:o7:=.q (.a 6 (.ix (.v 3) (.ix (.v 5) (.i 0)))) (.a 7 (.ix (.v 3) (.ix (.v 5) (.i 1)))) Nk
noncomputable def Np:By:=.for_ (.names [4,5]) (.enm (.meth (.v 0) 1 .z)) Hl
noncomputable def Q6:o7:=.p Np (.ret (.cst .non))
noncomputable def Q7:Fn:=⟨4,10,Q6⟩
noncomputable def T8:Ex:=.comp true 1 (.name 1) (.val (.ix (.v 0) (.i 0))) (.Xw (.v 1))
noncomputable def Yt:o7:=.o (.ret (.blt .tuple (.o T8)))
noncomputable def Yu:Fn:=⟨1,1,Yt⟩
noncomputable def acu:Ex:=.comp true 1 (.name 4) (.val (.v 2)) (.ix (.v 3) (.v 4))
noncomputable def V5:Ex:=.comp true 2 (.names [2,3]) (.zip (.p (.v 0) (.v 1))) (.blt .tuple (.o acu))
noncomputable def anc:o7:=.o (.ret (.blt .tuple (.o V5)))
noncomputable def ane:Fn:=⟨2,2,anc⟩
noncomputable def Mf:Ex:=.comp true 1 (.name 13) (.val (.ix (.v 1) (.v 6))) (.ite (.cmp .eq (.v 13) (.v 12)) (.v 11) (.v 13))
noncomputable def Cd:o7:=.c (.a 9 (.ix (.ix (.v 1) (.v 5)) (.v 8))) (.q (.a 10 (.ix (.ix (.v 1) (.v 6)) (.ix (.ix (.v 2) (.v 4)) (.v 8)))) (.f (.cmp .ne (.bm .get (.v 7) (.p (.v 9) (.v 10))) (.v 10)) (.c (.a 11 (.blt .min (.p (.ix (.v 7) (.v 9)) (.v 10)))) (.c (.a 12 (.blt .max (.p (.ix (.v 7) (.v 9)) (.v 10)))) (.c (.asg (.sub (.v 1) (.v 6)) Mf) (.q (.a 3 (.cst (.bl true))) (.a 7 .Z8) .brk))))) (.asg (.sub (.v 7) (.v 9)) (.v 10)))
noncomputable def Mg:By:=.for_ (.name 8) (.Im (.l (.ix (.v 1) (.v 5)))) Cd
noncomputable def Dk:o7:=.q (.asg (.tg (.names [5,6])) (.ix (.ix (.v 0) (.i 1)) (.v 4))) (.a 7 .Z8) Mg
noncomputable def Mh:By:=.for_ (.name 4) (.Im (.l (.ix (.v 0) (.i 1)))) Dk
noncomputable def Gr:o7:=.p (.a 3 (.cst (.bl false))) Mh
noncomputable def Gu:By:=.whl (.v 3) Gr
noncomputable def Pk:o7:=.q (.a 3 (.cst (.bl true))) Gu (.ret (.v 1))
noncomputable def Pn:Fn:=⟨3,13,Pk⟩
noncomputable def Hm:Ex:=.comp true 1 (.name 19) (.val (.v 16)) (.l (.v 19))
noncomputable def Hn:Ex:=.comp true 1 (.name 19) (.val (.v 18)) (.bm .index (.ix (.v 16) (.v 12)) (.o (.v 19)))
noncomputable def Ho:Ex:=.comp true 1 (.name 19) (.val (.ix (.v 16) (.v 11))) (.ix (.ix (.v 13) (.v 12)) (.ix (.ix (.v 9) (.v 10)) (.v 19)))
noncomputable def Ec:o7:=.q (.asg (.tg (.names [11,12])) (.ix (.ix (.v 1) (.i 1)) (.v 10))) (.a 18 Ho) (.expr (.bm .append (.v 17) (.o (.blt .tuple (.o Hn)))))
noncomputable def Nq:By:=.for_ (.name 10) (.Im (.l (.ix (.v 1) (.i 1)))) Ec
noncomputable def Hq:Ex:=.comp true 1 (.name 19) (.val (.v 13)) (.blt .Fw (.o (.v 19)))
noncomputable def Nr:Ex:=.comp true 1 (.name 19) (.val (.ix (.v 13) (.v 5))) (.ite (.cmp .eq (.v 19) (.v 15)) (.v 14) (.v 19))
noncomputable def Cv:o7:=.c (.a 5 (.call 14 (.p (.v 0) (.ix (.v 1) (.i 0))))) (.q (.a 11 (.call 14 (.p (.v 0) (.i 7)))) (.a 12 (.call 14 (.p (.v 0) (.i 7)))) (.f (.cmp .lt (.blt .max (.p (.v 11) (.v 12))) (.l (.ix (.v 13) (.v 5)))) (.c (.a 14 (.blt .min (.p (.ix (.ix (.v 13) (.v 5)) (.v 11)) (.ix (.ix (.v 13) (.v 5)) (.v 12))))) (.q (.a 15 (.blt .max (.p (.ix (.ix (.v 13) (.v 5)) (.v 11)) (.ix (.ix (.v 13) (.v 5)) (.v 12))))) (.asg (.sub (.v 13) (.v 5)) Nr) (.a 13 (.call 27 (.q (.v 1) (.v 13) (.v 9))))))))
noncomputable def Nt:By:=.for_ (.name 10) (.Im (.call 14 (.p (.v 0) (.i 4)))) Cv
noncomputable def Hr:Ex:=.comp false 1 (.name 19) (.val (.v 3)) (.afr (.l (.v 19)))
noncomputable def Hs:Ex:=.comp true 3 (.names [19,20,21]) (.val (.ix (.v 3) (.v 11))) (.bm .index (.ix (.v 3) (.v 12)) (.o (.tup (.q (.v 19) (.v 20) (.call 20 (.q (.v 1) (.v 21) (.v 10)))))))
noncomputable def Ht:o7:=.p (.asg (.tg (.names [11,12])) (.ix (.ix (.v 1) (.i 1)) (.v 10))) (.expr (.bm .append (.v 9) (.o Hs)))
noncomputable def Nu:By:=.for_ (.name 10) (.Im (.l (.ix (.v 1) (.i 1)))) Ht
noncomputable def Hu:Ex:=.comp true 1 (.name 19) (.val (.v 3)) (.l (.v 19))
noncomputable def Ed:o7:=.o (.expr (.bm .append (.ix (.v 3) (.v 7)) (.o (.tup (.q (.v 4) (.v 5) (.v 8))))))
noncomputable def Nv:By:=.for_ (.names [7,8]) (.val (.v 6)) Ed
noncomputable def Hv:Ex:=.comp true 1 (.name 19) (.val (.call 18 (.p (.v 1) (.v 5)))) (.tup (.p (.call 19 (.q (.v 1) (.v 5) (.v 19))) (.v 19)))
noncomputable def Cw:o7:=.q (.a 5 (.call 14 (.p (.v 0) (.ix (.v 1) (.i 0))))) (.a 6 Hv) (.f (.cmp .lt (.bin .add (.blt .max (.o Hu)) (.l (.v 6))) (.i 8)) (.o Nv))
noncomputable def Nx:By:=.for_ (.name 4) (.Im (.call 14 (.p (.v 0) (.bin .add (.v 2) (.i 1))))) Cw
noncomputable def Mi:Ex:=.comp true 1 (.name 19) (.Im (.ix (.v 1) (.i 0))) (.lst .z)
noncomputable def Q8:o7:=.c (.a 3 Mi) (.c Nx (.c (.a 9 (.lst .z)) (.c Nu (.c (.a 13 Hr) (.c Nt (.c (.a 16 Hq) (.q (.a 17 (.lst .z)) Nq (.ret (.tup (.p (.blt .tuple (.o Hm)) (.blt .tuple (.o (.v 17)))))))))))))
noncomputable def Q9:Fn:=⟨3,19,Q8⟩
noncomputable def Ql:o7:=.o (.ret (.ite (.cmp .lt (.v 2) (.i 0)) (.v 1) (.ix (.ix (.ix (.v 0) (.i 1)) (.v 2)) (.v 1))))
noncomputable def Qm:Fn:=⟨3,3,Ql⟩
noncomputable def Ef:o7:=.c (.a 9 (.call 19 (.q (.v 0) (.v 4) (.v 8)))) (.c (.a 10 (.call 29 (.q (.v 1) (.v 5) (.v 8)))) (.q (.a 11 (.call 29 (.q (.v 2) (.v 6) (.v 8)))) (.f (.cmp .ne (.bm .get (.ix (.v 7) (.v 9)) (.p (.v 10) (.v 11))) (.v 11)) (.o (.ret (.cst .non)))) (.asg (.sub (.ix (.v 7) (.v 9)) (.v 10)) (.v 11))))
noncomputable def Hw:By:=.for_ (.name 8) (.val (.call 18 (.p (.v 0) (.v 4)))) Ef
noncomputable def Hx:Ex:=.comp true 1 (.name 12) (.val (.v 3)) (.blt .dict (.o (.v 12)))
noncomputable def K5:o7:=.q (.a 7 Hx) Hw (.ret (.v 7))
noncomputable def K6:Fn:=⟨7,12,K5⟩
noncomputable def Eg:Ex:=.comp true 1 (.name 11) (.Im (.ix (.ix (.v 2) (.i 0)) (.v 10))) (.ix (.ix (.v 4) (.v 10)) (.v 11))
noncomputable def Eh:Ex:=.comp true 1 (.name 10) (.Im (.ix (.v 1) (.i 0))) (.blt .tuple (.o Eg))
noncomputable def Cm:o7:=.o (.f (.cmp .is (.v 7) (.cst .non)) (.o (.a 7 (.call 30 (.c (.v 1) (.c (.v 2) (.c (.v 3) (.c (.v 4) (.q (.v 5) (.v 6) (.bin .mod (.bin .add (.v 9) (.v 8)) (.ix (.ix (.v 3) (.i 0)) (.v 5))))))))))))
noncomputable def Jd:By:=.for_ (.name 9) (.Im (.ix (.ix (.v 3) (.i 0)) (.v 5))) Cm
noncomputable def An:o7:=.o (.f (.cmp .Qx (.v 6) (.ix (.v 4) (.v 5))) (.c (.a 7 (.cst .non)) (.c (.a 8 (.call 14 (.p (.v 0) (.blt .max (.p (.i 1) (.ix (.ix (.v 3) (.i 0)) (.v 5))))))) (.q Jd (.f (.cmp .is (.v 7) (.cst .non)) (.o (.ret (.cst .non)))) (.a 4 (.v 7))))))
noncomputable def Je:By:=.for_ (.name 6) (.Im (.ix (.ix (.v 2) (.i 0)) (.v 5))) An
noncomputable def Cq:o7:=.o Je
noncomputable def Jf:By:=.for_ (.name 5) (.Im (.ix (.v 1) (.i 0))) Cq
noncomputable def Ei:Ex:=.comp true 1 (.name 10) (.Im (.ix (.v 1) (.i 0))) .Z8
noncomputable def Gv:o7:=.q (.a 4 Ei) Jf (.ret (.blt .tuple (.o Eh)))
noncomputable def Gw:Fn:=⟨4,10,Gv⟩
noncomputable def Gx:Ex:=.Dh true 1 (.name 1) (.val (.v 0)) (.not (.blt .isTuple (.o (.v 1)))) (.v 1)
noncomputable def Pq:o7:=.o (.ret (.and (.blt .isTuple (.o (.v 0))) (.cmp .eq Gx (.Hb .z))))
noncomputable def Pr:Fn:=⟨1,1,Pq⟩
noncomputable def Pu:Ex:=.comp true 1 (.name 3) (.val (.ix (.v 0) (.v 2))) (.ix (.ix (.v 1) (.v 2)) (.v 3))
noncomputable def Js:Ex:=.comp true 1 (.name 2) (.Im (.l (.v 0))) (.blt .tuple (.o Pu))
noncomputable def T9:o7:=.o (.ret (.blt .tuple (.o Js)))
noncomputable def Ua:Fn:=⟨2,2,T9⟩
noncomputable def Ra:o7:=.q (.a 5 (.call 26 (.p (.v 3) (.v 4)))) (.f (.or (.not (.call 32 (.o (.v 5)))) (.or (.cmp .ne (.v 5) (.call 33 (.p (.v 3) (.v 4)))) (.cmp .Lw (.call 22 (.c (.v 0) (.q (.v 1) (.v 2) (.v 5)))) (.cst (.bl true))))) (.o (.ret (.cst (.bl false))))) (.ret (.and (.cmp .eq (.call 26 (.p (.call 25 (.o (.v 1))) (.v 3))) (.v 3)) (.cmp .eq (.call 26 (.p (.v 4) (.call 25 (.o (.v 2))))) (.v 4))))
noncomputable def Rb:Fn:=⟨5,6,Ra⟩
noncomputable def aai:o7:=.p (.a 9 (.call 26 (.p (.call 26 (.p (.ix (.ix (.v 6) (.v 7)) (.i 2)) (.ix (.ix (.v 6) (.bin .add (.v 7) (.i 1))) (.i 2)))) (.ix (.ix (.v 6) (.bin .add (.v 7) (.i 2))) (.i 2))))) (.f (.cmp .ne (.v 9) (.call 26 (.p (.ix (.ix (.v 6) (.v 7)) (.i 2)) (.call 26 (.p (.ix (.ix (.v 6) (.bin .add (.v 7) (.i 1))) (.i 2)) (.ix (.ix (.v 6) (.bin .add (.v 7) (.i 2))) (.i 2))))))) (.o (.ret (.cst (.bl false)))))
noncomputable def ahl:By:=.for_ (.name 7) (.Im (.bin .sub (.l (.v 6)) (.i 2))) aai
noncomputable def aaj:o7:=.o (.f (.not (.call 34 (.c (.v 3) (.c (.ix (.v 4) (.ix (.ix (.v 6) (.v 7)) (.i 0))) (.q (.ix (.v 4) (.ix (.ix (.v 6) (.bin .add (.v 7) (.i 1))) (.i 1))) (.ix (.ix (.v 6) (.v 7)) (.i 2)) (.ix (.ix (.v 6) (.bin .add (.v 7) (.i 1))) (.i 2))))))) (.o (.ret (.cst (.bl false)))))
noncomputable def ahm:By:=.for_ (.name 7) (.Im (.bin .sub (.l (.v 6)) (.i 1))) aaj
noncomputable def K7:o7:=.q (.a 8 (.call 31 (.c (.v 1) (.q (.v 2) (.ix (.v 4) (.i 0)) (.ix (.v 4) (.bin .add (.v 7) (.i 1))))))) (.f (.cmp .ne (.v 6) (.Hb .z)) (.o (.a 8 (.call 31 (.c (.v 1) (.q (.v 2) (.ix (.v 4) (.ix (.ix (.v 6) (.neg (.i 1))) (.i 1))) (.ix (.v 4) (.bin .add (.v 7) (.i 1))))))))) (.iff (.and (.cmp .Lw (.v 8) (.cst .non)) (.cmp .eq (.v 6) (.Hb .z))) (.o (.a 6 (.lst (.o (.tup (.q (.i 0) (.bin .add (.v 7) (.i 1)) (.v 8))))))) (.o (.f (.cmp .Lw (.v 8) (.cst .non)) (.o (.expr (.bm .append (.v 6) (.o (.tup (.q (.ix (.ix (.v 6) (.neg (.i 1))) (.i 1)) (.bin .add (.v 7) (.i 1)) (.v 8))))))))))
noncomputable def ahn:By:=.for_ (.name 7) (.Im (.i 4)) K7
noncomputable def aak:Ex:=.comp true 1 (.name 10) (.val (.ix (.v 5) (.i 0))) (.Xw (.v 10))
noncomputable def aal:o7:=.o (.f (.or (.not (.call 32 (.o (.call 25 (.o (.v 5)))))) (.cmp .ne (.call 25 (.o (.v 5))) (.blt .tuple (.o aak)))) (.o (.ret (.cst (.bl false)))))
noncomputable def aho:By:=.for_ (.name 5) (.val (.v 4)) aal
noncomputable def Vd:Ex:=.comp true 1 (.name 10) (.val (.ix (.v 2) (.i 1))) (.tup (.o (.i 0)))
noncomputable def ahp:Ex:=.comp false 1 (.name 10) (.Im (.i 4)) (.call 28 (.q (.v 1) (.v 2) (.i 2)))
noncomputable def axy:o7:=.c (.a 1 (.call 13 (.p (.v 0) (.i 0)))) (.c (.a 2 (.call 17 (.o (.v 1)))) (.c (.a 3 (.make 2 (.q (.ix (.v 2) (.i 0)) (.ix (.v 2) (.i 1)) (.ix (.v 2) (.i 2))))) (.c (.a 4 ahp) (.c (.expr (.bm .append (.v 4) (.o (.tup (.p (.bin .mul (.tup (.o (.i 1))) (.ix (.v 2) (.i 0))) (.blt .tuple (.o Vd))))))) (.c aho (.c (.a 6 (.lst .z)) (.c ahn (.q ahm ahl (.ret (.cmp .ne (.v 6) (.Hb .z)))))))))))
noncomputable def anf:Fn:=⟨1,10,axy⟩
noncomputable def prog:Prog:=⟨[J5,U0,J7,Sx,V2,X3,Ja,Ly,Ew,M9,Pg,Nf,Hg,Kz,Nh,De,Pj,Nj,T7,Qk,Gb,axx,acs,V4,Q7,Yu,ane,Pn,Q9,Qm,K6,Gw,Pr,Ua,Rb,anf],[⟨0,[]⟩,⟨0,[]⟩,⟨0,[(0,1),(1,2),(2,3),(3,4),(4,5)]⟩]⟩
set_option genInjectivity true in
structure F where
 a:Nat
 b:Nat
 r:List Nat
 deriving DecidableEq
noncomputable def nD(x:Nat):D:=.int (x:Int)
noncomputable def El(r:Y3):D:=.tup (r.map nD)
noncomputable def F.toD(f:F):D:=.tup [.int f.a,.int f.b,El f.r]
def ahq(x y:Nat):decide ((x:Int)=(y:Int))=decide (x=y):=by
 by_cases h:x=y
 . simp[h]
 . have:¬((x:Int)=(y:Int)):=by lia
   simp[h,this]
def K8(M:dh)(n x y:Nat):Jy M (n+1) (.int x) (.int y)=some (decide (x=y)):=by rw[ahh,ahq]
theorem aam(M:dh)(n:Nat):∀r s:List Nat,Qv (Jy M (n+1)) (r.map nD) (s.map nD)=some (decide (r=s))
 |[],[]=>by simp[Qv]|[],_::_=>by simp[Qv]|_::_,[]=>by simp[Qv]
 |x::r,y::s=>by
  rw[gq,gq,Dz (a:=nD x) (b:=nD y) (K8 M n x y) (aam M n r s)]
  by_cases h:x=y<;>simp[h]
def afw(M:dh)(r s:Y3):xx M (El r) (El s)=some (decide (r=s)):=aam M 4 r s
def bdj(M:dh)(f g:F):xx M f.toD g.toD=some (decide (f=g)):=by obtain⟨a,b,r⟩:=f;obtain⟨c,d,s⟩:=g;have e:Jy M 5 (El r) (El s)=some (decide (r=s)):=aam M 3 r s;show Qv (Jy M 5) [.int a,.int b,El r] [.int c,.int d,El s]=_;rw[Dz (K8 M 4 a c) (Dz (K8 M 4 b d) (Dz e (show Qv (Jy M 5) [] []=some true from rfl)))];simp
theorem ang(M:dh)(g:F):∀fs:List F,Qg M g.toD (fs.map F.toD)=some (fs.map λf=>decide (f=g))
 |[]=>rfl|f::fs=>by simp only[gq,Qg,bdj,ang M g fs]
def anh(M:dh)(g:F)(fs:List F):memD M g.toD (fs.map F.toD)=some (decide (g∈fs)):=by
 rw[memD,ang,vm]
 congr 1
 induction fs with
 |nil=>simp
 |cons f fs ih =>
  by_cases h:f=g
  . simp[h]
  . simp only[gq,List.any_cons,ih,bz,id]
    simp[h,j0 h]
noncomputable def pos(g:F):List F->Nat
 |[]=>0|f::fs=>if f=g then 0 else pos g fs+1
def a6t(M:dh)(g:F)(fs:List F):Xx M g.toD (fs.map F.toD)=if g∈fs then some (pos g fs) else none:=by
 rw[Xx,ang,uw]
 induction fs with
 |nil=>simp
 |cons f fs ih =>
  rw[gq,List.findIdx?_cons,ih,pos]
  by_cases h:f=g
  . simp[h]
  . by_cases h2:g∈fs<;>simp[h,j0 h,h2]
theorem aan(g:F):∀{fs:List F},g∈fs->fs[pos g fs]?=some g
 |f::fs,h=>by
  by_cases e:f=g
  . simp[pos,e]
  . have:g∈fs:=by
     rcases bz.mp h with q|q
     . exact absurd q.symm e
     . exact q
    simp[pos,e,aan g this]
def afx(nd:fs.Nodup)(h:fs[i]?=some f):pos f fs=i:=by have m:f∈fs:=ao h;have g:=aan f m;obtain⟨l1,e1⟩:=ak.mp h;obtain⟨l2,e2⟩:=ak.mp g;exact(Ar nd).mp (e2.trans e1.symm)
noncomputable def F.comp(f g:F):F:=⟨f.a,g.b,f.r.map λx=>g.r.getD x 0⟩
noncomputable def F.Pa(f:F):Prop:=f.a=f.b/\f.r=List.range f.r.length
instance (f:F):Decidable f.Pa:=inferInstanceAs (Decidable (_/\_))
structure Xn(sz:Nat->Nat)(f:F):Prop where
 a:f.a<3
 b:f.b<3
 len:f.r.length=sz f.a
 ran:∀x∈f.r,x<sz f.b
noncomputable def Sz(sz:Nat->Nat):Prop:=∀k,1<=sz k/\sz k<=4
noncomputable def Good(sz:Nat->Nat)(fs:List F):Prop:=∀f∈fs,Xn sz f
def getD_mem{r:Y3}(h:x<r.length):r.getD x 0∈r:=by rw[dg,cj h];exact pq h
theorem Xn.comp(hf:Xn sz f)(hg:Xn sz g)(h:f.b=g.a):Xn sz (f.comp g):=by
 refine⟨hf.a,hg.b,by simp[F.comp,hf.len],λx hx=>?_⟩;obtain⟨y,hy,rfl⟩:=bf.mp hx;have:y<g.r.length:=by rw[hg.len,<- h];exact hf.ran y hy
 exact hg.ran _ (getD_mem this)
def acv(r:Y3):(List.range r.length).map (λx=>r.getD x 0)=r:=by
 apply vd;intro i
 by_cases h:i<r.length
 . simp[h,lq h]
 . simp[Nat.le_of_not_lt h,kj]
def afy(hf:Xn sz f)(hg:Xn sz g)(e1:f.b=g.a):(f.comp g).comp h=f.comp (g.comp h):=by
 simp only[F.comp,zj,F.mk.injEq,true_and];apply qu;intro x hx;have:x<g.r.length:=by rw[hg.len,<- e1];exact hf.ran x hx
 simp[this]
noncomputable def idF(sz:Nat->Nat)(k:Nat):F:=⟨k,k,List.range (sz k)⟩
def aao(hf:Xn sz f)(h:f.Pa):f=idF sz f.a:=by obtain⟨a,b,r⟩:=f;obtain⟨h1,h2⟩:=h;have:=hf.len;simp only[idF] at *;subst h1;rw[<- this,<- h2]
def id_comp(hf:Xn sz f):(idF sz f.a).comp f=f:=by obtain⟨a,b,r⟩:=f;have:=hf.len;simp only[idF,F.comp] at *;rw[<- this,acv]
def comp_id(hf:Xn sz f):f.comp (idF sz f.b)=f:=by
 obtain⟨a,b,r⟩:=f;have:=hf.ran;simp only[idF,F.comp,F.mk.injEq,true_and] at *
 conv=>rhs;rw[<- List.map_id r]
 apply qu;intro x hx;simp[lq (this x hx)]
noncomputable def Ny(fs:List F):Prop:=∀f∈fs,∀g∈fs,f.b=g.a->f.comp g∈fs\/(f.comp g).Pa
def call_of(hm:1<=m)(hf:prog.fns[f]?=some Fx):prog.call m f ds M=Fx.run ⟨prog.call (m-1),prog.cls⟩ ds M:=by obtain⟨n,rfl⟩:∃n,m=n+1:=⟨m-1,by lia⟩;simp[Prog.call,hf]
noncomputable def azo(n:Int)(f:Bool):Prop:=0<=n/\(f=false->n<2147483647)
noncomputable def S8(t:Nat)(f:Bool)(M:dh):Prop:=∃n,M[t]?=some (.lst [.int n,.bl f])/\azo n f
structure St(t:Nat)(f:Bool)(M M':dh):Prop where
 len:M.length<=M'.length
 has:S8 t f M'
 keep:∀(a:Nat)(o:MO),a≠t->M[a]?=some o->M'[a]?=some o
def St.trans(a:St t f M M1)(b:St t f M1 M2):St t f M M2 :=
 ⟨gn a.len b.len,b.has,λx o n h=>b.keep x o n (a.keep x o n h)⟩
def St.of(h:S8 t f M)(k:Bo M M'):St t f M M' :=
 ⟨k.len,let ⟨n,a,b⟩:=h;⟨n,k _ _ a,b⟩,λa o _ e=>k a o e⟩
def Bx(hm:1<=m)(hs:S8 t f M)(hp:0<many)(hq:many<1073741824) :
 ∃(v:Nat)(M':dh),prog.call m 14 [.ref t,.int many] M=.ok (.int v) M'/\(v:Int)<many/\St t f M M'/\M'.length=M.length:=by
 obtain⟨n,h,hn⟩:=hs;rw[call_of hm rfl];have hl:=qg h;have g0:=Cj hl (i:=0) (by decide) rfl;have g1:=Cj hl (i:=1) (by decide) rfl;have fin:∀n':Int,azo n' f->St t f M (M.set t (.lst [.int n',.bl f])):=λn' o=>⟨by simp,⟨n',vo h,o⟩,λa u e q=>by rw[qx (j0 e)];exact q⟩
 have hm0:many≠0:=by lia
 have c1:∀y:Int,∃v:Nat,y%many=(v:Int)/\(v:Int)<many:=λy=>by have a:=Be y hm0;have b:=zx y hp;exact⟨(y%many).toNat,by lia,by lia⟩
 cases f with
 |true =>
  obtain⟨v,e,l⟩:=c1 n;refine⟨v,_,?_,l,fin (n / many) ⟨Int.ediv_nonneg hn.1 (by lia),by simp⟩,by simp⟩;simp[Fn.run,Nh,Ng,g0,g1,hp,Yq _ _ hp hq,aae h,e]
 |false =>
  have h1:=hn.1;have h2:=hn.2 rfl;obtain⟨n',en⟩:∃n',(n*48271+29)%2147483647=n':=⟨_,rfl⟩;have e1:0<=n':=en▸Be _ (by decide)
  have e2:n'<2147483647:=en▸zx _ (by decide)
  obtain⟨x,ex⟩:∃x,(n'*n'+39373*n'+7)%2147483629=x:=⟨_,rfl⟩;have x1:0<=x:=ex▸Be _ (by decide)
  have x2:x<2147483629:=ex▸zx _ (by decide)
  obtain⟨y,ey⟩:∃y,(x*x+16807*x)%2147483587=y:=⟨_,rfl⟩;obtain⟨v,e,l⟩:=c1 (y / 8);refine⟨v,_,?_,l,fin n' ⟨e1,λ_=>e2⟩,by simp⟩;have k:=vo (o:=.lst [.int n',.bl false]) h;have k0:=Cj (qg k) (i:=0) (by decide) rfl;simp[Fn.run,Nh,Ng,g0,g1,hp,aae h,My n 48271 (.inr (by decide)),en,k0,My n' n' (.inl (by lia)),My 39373 n' (.inl (by decide)),ex,My x x (.inl (by lia)),My 16807 x (.inl (by decide)),ey,Yq _ 8 (by decide) (by decide),e]
def ahr{k:Nat}{ns:Xs}(hm:1<=m):prog.call m 12 [.fz (ns.map D.int),.int k] M=.ok (.int (ns.getD k 0)) M:=by
 rw[call_of hm rfl]
 by_cases hk:k<ns.length
 . simp[Fn.run,Hg,Hf,am9,hk,a6r (ds:=ns.map D.int) (i:=k) (x:=.int (ns.getD k 0)) q_ (by simp[hk])]
 . simp[Fn.run,Hg,Hf,am9,hk]
def ani{k:Nat}{ns:Xs}(hm:2<=m):∃n f,prog.call m 13 [.fz (ns.map D.int),.int k] M=.ok (.ref M.length) (M++[.lst [.int n,.bl f]])/\azo n f:=by
 rw[call_of (a_ (by decide) hm) rfl]
 by_cases h:(10:Int) ^ 18<=ns.getD k 0
 . refine⟨ns.getD k 0-10 ^ 18,true,?_,by lia,by simp⟩
   have h':(1000000000000000000:Int)<=ns[k]?.getD 0:=by simpa using h
   simp[Fn.run,Kz,Ky,ahr (show 1<=m-1 by exact r_ hm),h',MW.new]
 . refine⟨ns.getD k 0%2147483647,false,?_,Be _ (by decide),λ_=>zx _ (by decide)⟩
   have h':¬(1000000000000000000:Int)<=ns[k]?.getD 0:=by simpa using h
   simp[Fn.run,Kz,Ky,ahr (show 1<=m-1 by exact r_ hm),h',MW.new]
def ahs(n:Nat)(i:Nat)(M:dh)(h:i<n):(Src.con ((List.range n).map λ(k:Nat)=>D.int (k:Int))).item i M=some (.int i):=by simp[Src.item,lq h]
def aht(n:Nat):(Src.con ((List.range n).map λ(k:Nat)=>D.int (k:Int))).len=n:=by simp[Src.len]
def anj{K:Nat}(hm:1<=m)(hs:S8 t f M)(hK:K<=3) :
 ∃(Jt:Y3)(M':dh),Hj.den ⟨prog.call m,prog.cls⟩ [D.ref t,a1,a2,a3,a4,a5,D.int K,a7,a8,a9,a10,a11] M=.ok (.vl (Jt.map nD)) M'/\Jt.length=K/\(∀x∈Jt,1<=x/\x<=3)/\St t f M M'/\M'.length=M.length:=by
 unfold Hj;rw[Mx];have hK':K<=100000:=a_ hK (by decide)
 simp[hK'];have h:=Hd (fin:=λ_=>true) (item:=(Src.con ((List.range K).map λ(k:Nat)=>D.int (k:Int))).item)
  (body:=λd M=>((prog.call m 14 [D.ref t,D.int 3] M).bind λy M2=>Gg .add (.int 1) y M2).bind λx M'=>Res.ok (some x) M')
  (λi xs M'=>∃Jt:List Nat,xs=Jt.map nD/\Jt.length=i/\(∀x∈Jt,1<=x/\x<=3)/\St t f M M'/\M'.length=M.length) (n:=K)
  (λi xs M' hi hI=>by
   obtain⟨Jt,rfl,rfl,h1,h2,h3⟩:=hI;obtain⟨v,M2,e,l,s2,l2⟩:=Bx hm h2.has (many:=3) (by decide) (by decide);refine⟨.int Jt.length,some (.int (1+v)),M2,ahs K _ M' hi,by simp[e],Jt++[1+v],by simp[nD],by simp,λx hx=>?_,h2.trans s2,l2.trans h3⟩;rcases dw.mp hx with q|q
   . exact h1 x q
   . have:x=1+v:=by simpa using q
     lia) (λ_ _ _=>rfl) K 0 [] M (ux _) ⟨[],rfl,rfl,by simp,St.of hs (Bo.refl M),rfl⟩
 obtain⟨ys,M',e,Jt,h1,h2,h3,h4,h5⟩:=h;refine⟨Jt,M',?_,h2,h3,h4,h5⟩;rw[Af,aht,cz hK',show(Src.con ((List.range _).map λ(k:Nat)=>D.int (k:Int))).fin=λ_=>true from rfl,e];simp at h1;simp[h1]
def azp{Jt:Y3}(hm:1<=m)(hs:S8 t f M)(h3:∀x∈Jt,1<=x/\x<=3)(hi:i<Jt.length)(hj:j<Jt.length) :
 ∃(r:Y3)(M':dh),Hh.den ⟨prog.call m,prog.cls⟩ [D.ref t,a1,a2,a3,a4,a5,a6,D.vl (Jt.map nD),a8,a9,D.int i,D.int j] M=.ok (.vl (r.map nD)) M' /\
  r.length=Jt.getD i 0/\(∀x∈r,x<Jt.getD j 0)/\St t f M M'/\M'.length=M.length:=by
 unfold Hh;rw[Mx];have gi:=Cj (M:=M) (d:=.vl (Jt.map nD)) (i:=i) (x:=.int ((Jt.getD i 0:Nat):Int)) rfl q_ (by simp[hi,nD]);have gj:∀M',yu (.vl (Jt.map nD)) (.int j) M'=some (.int ((Jt.getD j 0:Nat):Int)):=λM'=>Cj rfl q_ (by simp[hj,nD])
 have bi:=h3 _ (getD_mem hi);have bj:=h3 _ (getD_mem hj);generalize ea:Jt.getD i 0=a at *;generalize eb:Jt.getD j 0=b at *;have ha:a<=100000:=a_ bi.2 (by decide)
 simp[gi,gj,ha];have h:=Hd (fin:=λ_=>true) (item:=(Src.con ((List.range a).map λ(k:Nat)=>D.int (k:Int))).item)
  (body:=λd M=>(prog.call m 14 [D.ref t,D.int b] M).bind λx M'=>Res.ok (some x) M')
  (λi xs M'=>∃r:List Nat,xs=r.map nD/\r.length=i/\(∀x∈r,x<b)/\St t f M M'/\M'.length=M.length) (n:=a)
  (λi xs M' hi hI=>by
   obtain⟨r,rfl,rfl,h1,h2,h3⟩:=hI;obtain⟨v,M2,e,l,s2,l2⟩:=Bx hm h2.has (many:=b) (m_ bj.1) (m_ (c_ bj.2 (by decide)));refine⟨.int r.length,some (.int v),M2,ahs a _ M' hi,by simp[e],r++[v],by simp[nD],by simp,λx hx=>?_,h2.trans s2,l2.trans h3⟩;rcases dw.mp hx with q|q
   . exact h1 x q
   . have:x=v:=by simpa using q
     exact c_ (f_ this) (o_ l)) (λ_ _ _=>rfl) a 0 [] M (ux _) ⟨[],rfl,rfl,by simp,St.of hs (Bo.refl M),rfl⟩
 obtain⟨ys,M',e,r,h1,h2,h3,h4,h5⟩:=h;refine⟨r,M',?_,h2,h3,h4,h5⟩;rw[Af,aht,cz ha,show(Src.con ((List.range _).map λ(k:Nat)=>D.int (k:Int))).fin=λ_=>true from rfl,e];simp at h1;simp[h1]
def aap{v:Nat}{Jt:Y3}(hm:1<=m)(hs:S8 t f M)(hK:Jt.length=K)(hK1:1<=K)(hK3:K<=3)(h3:∀x∈Jt,1<=x/\x<=3)(hp:M[p]?=some (.lst []))(hpt:p≠t) :
 ∃(fs:List F)(ρ':Env)(M':dh),Hi.den ⟨prog.call m,prog.cls⟩ [D.ref t,D.int v,none,none,none,none,D.int K,D.vl (Jt.map nD),D.ref p,a9,a10,a11] M=.ok (.next,ρ') M' /\
  ρ'[8]?=some (some (.ref p))/\M'[p]?=some (.lst (fs.map F.toD))/\fs.length<=3/\Good (λk=>Jt.getD k 1) fs/\M.length<=M'.length/\S8 t f M'/\(∀(a:Nat)(o:MO),a≠t->a≠p->M[a]?=some o->M'[a]?=some o):=by
 obtain⟨w,M1,e1,l1,s1,ll1⟩:=Bx hm hs (many:=4) (by decide) (by decide);unfold Hi;rw[Ss];have hw:w<=100000:=e_ (b_ (o_ l1) (by decide))
 simp[e1,hw];obtain⟨ρ',M',e,fs,b9,b10,K9,rfl,h1,h2,h4,h5,h6,h7⟩:=aag (n:=w) (body:=λd ρ M=>Eb.den ⟨prog.call m,prog.cls⟩ (ρ.set 9 (some d)) M)
  (λi ρ M'=>∃(fs:List F)(b9 b10 K9:Option D),ρ=[some (.ref t),some (.int v),none,none,none,none,some (.int K),some (.vl (Jt.map nD)),some (.ref p),b9,b10,K9] /\
   M'[p]?=some (.lst (fs.map F.toD))/\fs.length=i/\Good (λk=>Jt.getD k 1) fs/\M.length<=M'.length/\S8 t f M'/\(∀(a:Nat)(o:MO),a≠t->a≠p->M[a]?=some o->M'[a]?=some o))
  (M:=M1) ⟨[],a9,a10,a11,rfl,by simpa using s1.keep p _ hpt hp,rfl,by intro f hf;simp at hf,s1.len,s1.has,λa o na _ h=>s1.keep a o na h⟩
  (λi ρ M2 hi hI=>by
   obtain⟨fs,b9,b10,K9,rfl,g1,g2,g3,g4,g5,g6⟩:=hI;obtain⟨x,M3,ex,lx,sx,llx⟩:=Bx hm g5 (many:=K) (m_ hK1) (m_ (c_ hK3 (by decide)));obtain⟨y,M4,ey,ly,sy,lly⟩:=Bx hm sx.has (many:=K) (m_ hK1) (m_ (c_ hK3 (by decide)));obtain⟨r,M5,er,lr,rr,sr,llr⟩:=azp (a1:=some (.int v)) (a2:=none) (a3:=none) (a4:=none) (a5:=none) (a6:=some (.int K)) (a8:=some (.ref p)) (a9:=some (.int i)) (i:=x) (j:=y) hm sy.has h3 (b_ (o_ lx) (g_ hK)) (b_ (o_ ly) (g_ hK));have gp:=sr.keep p _ hpt (sy.keep p _ hpt (sx.keep p _ hpt g1));have hl:(fs.map F.toD).length<100000:=by rw[du];exact c_ (f_ g2) (b_ hi hw)
   refine⟨.next,_,M5.set p (.lst (fs.map F.toD++[F.toD ⟨x,y,r⟩])),?_,.inl rfl,fs++[⟨x,y,r⟩],some (.int i),some (.int x),some (.int y),rfl,?_,by simp[g2],?_,?_,?_,?_⟩
   . simp[Eb,ex,ey,er,G6 gp hl,Hc (sy.keep p _ hpt (sx.keep p _ hpt g1)),v7,F.toD,El]
   . rw[vo gp];simp
   . intro f hf
     rcases dw.mp hf with q|q
     . exact g3 f q
     . have:f=⟨x,y,r⟩:=by simpa using q
       subst this;refine⟨by show x<3;exact b_ (o_ lx) hK3,by show y<3;exact b_ (o_ ly) hK3,?_,?_⟩
       . show r.length=Jt.getD x 1
         rw[lr];simp[dg,cj (show x<Jt.length by exact b_ (o_ lx) (g_ hK))]
       . intro z hz
         have:=rr z hz;show z<Jt.getD y 1
         simp[dg,cj (show y<Jt.length by exact b_ (o_ ly) (g_ hK))] at this ⊢;exact this
   . have:=sr.len;have:=sy.len;have:=sx.len;simp;exact a_ g4 (a_ (g_ llx) (a_ (g_ lly) (g_ llr)))
   . obtain⟨n',q1,q2⟩:=sr.has
     exact⟨n',by rw[qx hpt];exact q1,q2⟩
   . intro a o na nb h
     rw[qx (j0 nb)];exact sr.keep a o na (sy.keep a o na (sx.keep a o na (g6 a o na nb h))))
 have e':Bw (Src.con ((List.range w).map λ(k:Nat)=>D.int (k:Int))).fin (Src.con ((List.range w).map λ(k:Nat)=>D.int (k:Int))).item (λd ρ M=>Eb.den ⟨prog.call m,prog.cls⟩ (ρ.set 9 (some d)) M) (Src.con ((List.range w).map λ(k:Nat)=>D.int (k:Int))).len 0 [some (.ref t),some (.int v),none,none,none,none,some (.int K),some (.vl (Jt.map nD)),some (.ref p),a9,a10,a11] M1=_:=e;exact⟨fs,[some (.ref t),some (.int v),none,none,none,none,some (.int K),some (.vl (Jt.map nD)),some (.ref p),b9,b10,K9],M',e',rfl,h1,by lia,h4,h5,h6,h7⟩
def ank(hm:2<=m)(hs:S8 t f M):∃(d:D)(M':dh)(fs:List F)(sz:Nat->Nat),prog.call m 15 [.ref t] M=.ok d M'/\fc M' d=some (fs.map F.toD)/\(∀n,d=.ref n->n≠t)/\Sz sz/\Good sz fs/\fs.length<=3/\St t f M M':=by
 have hm1:1<=m-1:=r_ hm
 obtain⟨v,M1,e1,l1,s1,ll1⟩:=Bx hm1 hs (many:=12) (by decide) (by decide);rw[call_of (a_ hm1 C_) rfl]
 by_cases hv:v<7
 . have hv':(v:Int)<7:=m_ hv
   have key:∀(fs:List F)(sz:Nat->Nat),De.run ⟨prog.call (m-1),prog.cls⟩ [.ref t] M=.ok (.vl (fs.map F.toD)) M1->Sz sz->Good sz fs->fs.length<=3 ->
    ∃(d:D)(M':dh)(fs:List F)(sz:Nat->Nat),De.run ⟨prog.call (m-1),prog.cls⟩ [.ref t] M=.ok d M'/\fc M' d=some (fs.map F.toD)/\(∀n,d=.ref n->n≠t)/\Sz sz/\Good sz fs/\fs.length<=3/\St t f M M' :=
    λfs sz a b c d=>⟨_,M1,fs,sz,a,rfl,λn h=>(by cases h),b,c,d,s1⟩
   have run:∀d,yu (.vl [.vl [.tup [.int 0,.int 1,.tup [.int 0,.int 1]],.tup [.int 0,.int 1,.tup [.int 1,.int 0]]],.vl [.tup [.int 0,.int 1,.tup [.int 0,.int 0,.int 1,.int 1]],.tup [.int 0,.int 1,.tup [.int 0,.int 1,.int 0,.int 1]],.tup [.int 1,.int 0,.tup [.int 0,.int 3]]],
    .vl [.tup [.int 0,.int 0,.tup [.int 1,.int 0]]],.vl [.tup [.int 0,.int 0,.tup [.int 1,.int 2,.int 0]]],.vl [.tup [.int 0,.int 0,.tup [.int 0,.int 0]]],.vl [],.vl [.tup [.int 0,.int 1,.tup [.int 0,.int 1]],.tup [.int 1,.int 2,.tup [.int 0,.int 0,.int 1]]]]) (.int v) M1=some d ->
    De.run ⟨prog.call (m-1),prog.cls⟩ [.ref t] M=.ok d M1:=λd hd=>by simp[Fn.run,De,K1,e1,hv',hd]
   have cs:v=0\/v=1\/v=2\/v=3\/v=4\/v=5\/v=6:=by lia
   rcases cs with rfl|rfl|rfl|rfl|rfl|rfl|rfl
   . refine key [⟨0,1,[0,1]⟩,⟨0,1,[1,0]⟩] (λ_=>2) ?_ (λk=>by simp) (λf hf=>?_) (by decide)
     . exact run _ rfl
     . simp at hf;rcases hf with rfl|rfl<;>exact⟨by decide,by decide,by decide,by decide⟩
   . refine key [⟨0,1,[0,0,1,1]⟩,⟨0,1,[0,1,0,1]⟩,⟨1,0,[0,3]⟩] (λk=>if k=0 then 4 else 2) ?_ (λk=>by dsimp only;split<;>omega) (λf hf=>?_) (by decide)
     . exact run _ rfl
     . simp at hf;rcases hf with rfl|rfl|rfl<;>exact⟨by decide,by decide,by decide,by decide⟩
   . refine key [⟨0,0,[1,0]⟩] (λ_=>2) ?_ (λk=>by simp) (λf hf=>?_) (by decide)
     . exact run _ rfl
     . simp at hf;subst hf;exact⟨by decide,by decide,by decide,by decide⟩
   . refine key [⟨0,0,[1,2,0]⟩] (λ_=>3) ?_ (λk=>by simp) (λf hf=>?_) (by decide)
     . exact run _ rfl
     . simp at hf;subst hf;exact⟨by decide,by decide,by decide,by decide⟩
   . refine key [⟨0,0,[0,0]⟩] (λ_=>2) ?_ (λk=>by simp) (λf hf=>?_) (by decide)
     . exact run _ rfl
     . simp at hf;subst hf;exact⟨by decide,by decide,by decide,by decide⟩
   . refine key [] (λ_=>1) ?_ (λk=>by simp) (λf hf=>?_) (by decide)
     . exact run _ rfl
     . simp at hf
   . refine key [⟨0,1,[0,1]⟩,⟨1,2,[0,0,1]⟩] (λk=>if k=1 then 3 else 2) ?_ (λk=>by dsimp only;split<;>exact⟨by decide,by decide⟩) (λf hf=>?_) (by decide)
     . exact run _ rfl
     . simp at hf;rcases hf with rfl|rfl<;>exact⟨by decide,by decide,by decide,by decide⟩
 . have hv':¬(v:Int)<7:=by lia
   obtain⟨u,M2,e2,l2,s2,ll2⟩:=Bx hm1 s1.has (many:=3) (by decide) (by decide);obtain⟨K,eK,hKu⟩:∃K:Nat,(1:Int)+(u:Int)=(K:Int)/\K=1+u:=⟨1+u,by lia,rfl⟩;obtain⟨Jt,M3,e3,l3,r3,s3,ll3⟩:=anj (a1:=some (.int v)) (a2:=none) (a3:=none) (a4:=none) (a5:=none) (a7:=none) (a8:=none) (a9:=none) (a10:=none) (a11:=none) (K:=K) hm1 s2.has (by lia);have htl:t<M3.length:=by obtain⟨n,h,_⟩:=s3.has;exact wz h
   have h4:S8 t f (M3++[.lst []]):=by obtain⟨n,h,o⟩:=s3.has;exact⟨n,xm h,o⟩
   obtain⟨fs,ρ',M5,e5,q8,q1,q2,q3,q4,q5,q6⟩:=aap (v:=v) (K:=K) (p:=M3.length) (a9:=none) (a10:=none) (a11:=none) hm1 h4 l3 (by lia) (by lia) r3 (by simp) (i_ htl);refine⟨.ref M3.length,M5,fs,λk=>Jt.getD k 1,?_,qg q1,λn h=>by cases h;exact i_ htl,λk=>?_,q3,q2,?_⟩
   . simp[Fn.run,De,K1,e1,hv',e2,eK,e3,MW.new,e5,q8]
   . show 1<=Jt.getD k 1/\Jt.getD k 1<=4
     by_cases h:k<Jt.length
     . have:=r3 _ (getD_mem h)
       simp[dg,h] at this ⊢;exact⟨this.1,a_ this.2 (by decide)⟩
     . simp[dg,h]
   . refine s1.trans (s2.trans (s3.trans ⟨?_,q5,λa o na h=>q6 a o na ?_ (xm h)⟩))
     . have:=q4;simp at this;lia
     . have:=wz h;exact h_ this
structure Up(p:Nat)(M M':dh):Prop where
 len:M'.length=M.length
 oth:∀a:Nat,a≠p->M'[a]?=M[a]?
def Up.refl(p:Nat)(M:dh):Up p M M:=⟨rfl,λ_ _=>rfl⟩
theorem Up.trans(a:Up p M M1)(b:Up p M1 M2):Up p M M2:=⟨b.len.trans a.len,λx h=>(b.oth x h).trans (a.oth x h)⟩
theorem Up.set(p:Nat)(M:dh)(o:MO):Up p M (M.set p o):=⟨by simp,λa h=>qx (j0 h)⟩
def Qn(h:M[p]?=some (.lst ds)):O9 M x (.ref p)=memD M x ds:=by simp[O9,h,Bq,fc]
def Ub(f:F)(M:dh):yu f.toD (.int 0) M=some (.int f.a):=rfl
def Uc(f:F)(M:dh):yu f.toD (.int 1) M=some (.int f.b):=rfl
def anl(f:F)(M:dh):yu f.toD (.int 2) M=some (El f.r):=rfl
def Nz(M:dh)(r:Y3)(n:Nat):xx M (El r) (.tup ((List.range n).map λ(k:Nat)=>D.int (k:Int)))=some (decide (r=List.range n)):=afw M r (List.range n)
def eq_nil(M:dh)(r:Y3):xx M (El r) (.tup [])=some (decide (r=[])):=afw M r []
def Bs(M:dh)(a b:Nat):xx M (.int a) (.int b)=some (decide (a=b)):=by rw[eq_int,ahq]
def Jg(M:dh)(r:Y3):v7 .len [El r] M=.ok (.int r.length) M:=by simp[v7,Bq,El]
def Hy(M:dh)(ds:List D):v7 .tuple [.vl ds] M=.ok (.tup ds) M:=by simp[v7,Bq]
def aaq(M:dh)(r:Y3):v7 .tuple [.vl (r.map nD)] M=.ok (El r) M:=Hy M _
def afz(hz:Sz sz)(h:Xn sz f):1<=f.r.length/\f.r.length<=4:=by rw[h.len];exact hz _
def atx(M:dh)(r:Y3):srcOf M (El r)=some (.con (r.map nD)):=rfl
def anm(M:dh)(r:Y3)(h:x<r.length):yu (El r) (.int x) M=some (.int (r.getD x 0)):=Jq q_ (by simp[h,nD])
def ano(hz:Sz sz)(hf:Xn sz f)(hg:Xn sz g)(h:f.b=g.a) :
 Gj.den W [a0,a1,a2,a3,a4,a5,a6,some f.toD,some g.toD,a9] M=.ok (.vl ((f.comp g).r.map nD)) M:=by
 have hsm:(f.r.map nD).length<=100000:=by rw[du,hf.len];have:=hz f.a;exact a_ this.2 (by decide)
 unfold Gj;rw[Mx];simp[anl,atx];have:=ahi (M:=M) (ds:=f.r.map nD) (g:=λd=>match d with|.int i=>nD (g.r.getD i.toNat 0)|_=>.non)
  (body:=λd M=>((Res.vg (yu (El g.r) d M) M).bind λx M'=>Res.ok (some x) M')) hsm (λd hd=>by
   obtain⟨x,hx,rfl⟩:=bf.mp hd;have hx':x<g.r.length:=by rw[hg.len,<- h];exact hf.ran x hx
   rw[show nD x=D.int (x:Int) from rfl,anm M g.r hx'];simp[nD])
 rw[this];simp[F.comp,nD]
noncomputable def La(gs:List F)(f g:F):List F:=if f.b=g.a/\f.comp g∉gs/\¬(f.comp g).Pa then gs++[f.comp g] else gs
def af0(f g:F):D.tup [.int f.a,.int g.b,El (f.comp g).r]=(f.comp g).toD:=rfl
def V6(hz:Sz sz)(hf:Xn sz f)(hg:Xn sz g)(hp:M[p]?=some (.lst (gs.map F.toD)))(hl:gs.length<100000) :
 ∃(b4 b9:Option D)(M':dh),Ca.den W [a0,D.ref p,a2,a3,a4,a5,a6,some f.toD,some g.toD,a9] M=.ok (.next,[a0,some (.ref p),a2,a3,b4,a5,a6,some f.toD,some g.toD,b9]) M' /\
  M'[p]?=some (.lst ((La gs f g).map F.toD))/\Up p M M':=by
 by_cases h:f.b=g.a
 . have hc:=ano (W:=W) (M:=M) (a0:=a0) (a1:=some (.ref p)) (a2:=a2) (a3:=a3) (a4:=some (.tup [])) (a5:=a5) (a6:=a6) (a9:=a9) hz hf hg h
   have hr:(f.comp g).r≠[]:=λe=>by have:=(afz hz (hf.comp hg h)).1;rw[e] at this;simp at this
   have hlen:(f.comp g).r.length<=100000:=by have:=(afz hz (hf.comp hg h)).2;exact a_ this (by decide)
   have Il:=anh M (f.comp g) gs;have e0:(f.comp g).a=f.a:=rfl;have e1:(f.comp g).b=g.b:=rfl;have ap:=G6 (d:=(f.comp g).toD) hp (by rw[du];exact hl);have key:∃T:Res (Flow×Env),Ca.den W [a0,D.ref p,a2,a3,a4,a5,a6,some f.toD,some g.toD,a9] M=T/\(f.comp g∈gs->T=.ok (.next,[a0,some (.ref p),a2,a3,some (El (f.comp g).r),a5,a6,some f.toD,some g.toD,some (f.comp g).toD]) M)/\(f.comp g∉gs->(f.comp g).Pa->T=.ok (.next,[a0,some (.ref p),a2,a3,some (El (f.comp g).r),a5,a6,some f.toD,some g.toD,some (f.comp g).toD]) M) /\
    (f.comp g∉gs->¬(f.comp g).Pa->T=.ok (.next,[a0,some (.ref p),a2,a3,some (El (f.comp g).r),a5,a6,some f.toD,some g.toD,some (f.comp g).toD]) (M.set p (.lst ((gs++[f.comp g]).map F.toD)))):=by
    refine⟨_,(by simp[-eq_int,Ca,Ub,Uc,Bs,h,hc,aaq,af0,eq_nil,hr,Qn hp,Il];exact rfl),?_,?_,?_⟩
    . intro m;simp[m]
    . intro m i;simp[-eq_int,m,Ub,Uc,Bs,i.1,Jg,hlen,Nz,decide_eq_true i.2]
    . intro m i
      by_cases i1:(f.comp g).a=(f.comp g).b
      . have i2:¬(f.comp g).r=List.range (f.comp g).r.length:=λq=>i ⟨i1,q⟩
        simp[-eq_int,Ub,Uc,Bs,m,i1,Jg,hlen,Nz,i2,Hc hp,ap]
      . simp[-eq_int,Ub,Uc,Bs,m,i1,Jg,hlen,Nz,Hc hp,ap]
   obtain⟨T,e,k1,k2,k3⟩:=key
   by_cases m:f.comp g∈gs
   . exact⟨_,_,M,e.trans (k1 m),by rw[La,bw (λq=>q.2.1 m)];exact hp,Up.refl p M⟩
   . by_cases i:(f.comp g).Pa
     . exact⟨_,_,M,e.trans (k2 m i),by rw[La,bw (λq=>q.2.2 i)];exact hp,Up.refl p M⟩
     . exact⟨_,_,_,e.trans (k3 m i),by rw[La,cz ⟨h,m,i⟩,vo hp],Up.set _ _ _⟩
 . refine⟨some (.tup []),some (.tup [.int f.a,.int g.b,.tup []]),M,?_,by rw[La,bw (λq=>h q.1)];exact hp,Up.refl p M⟩
   have:=afw M [] [];simp[El] at this;simp[-eq_int,Ca,Ub,Uc,Bs,h,this]
structure Inv(sz:Nat->Nat)(gs:List F):Prop where
 good:Good sz gs
 nd:gs.Nodup
 nid:∀f∈gs,¬f.Pa
def Inv.snoc{sz:Nat->Nat}(h:Inv sz gs)(hf:Xn sz f)(hm:f∉gs)(hi:¬f.Pa):Inv sz (gs++[f]):=by
 refine⟨λx hx=>?_,?_,λx hx=>?_⟩
 . rcases dw.mp hx with q|q
   . exact h.good x q
   . have:x=f:=by simpa using q
     exact this▸hf
 . rw[yp]
   refine⟨h.nd,by simp,λa ha b hb=>?_⟩;have:b=f:=by simpa using hb
   exact λe=>hm (by rw[<- this,<- e];exact ha)
 . rcases dw.mp hx with q|q
   . exact h.nid x q
   . have:x=f:=by simpa using q
     exact this▸hi
noncomputable def Cl2(gs:List F)(f g:F):Prop:=f.b=g.a->f.comp g∈gs\/(f.comp g).Pa
def Cl2.mono(h:Cl2 gs f g)(s:gs <+: hs):Cl2 hs f g:=λe=>(h e).imp (λm=>s.subset m) id
def N5(gs:List F)(f g:F):gs <+: La gs f g:=by
 unfold La;split
 . exact List.prefix_append _ _
 . exact List.prefix_rfl
def V7(gs:List F)(f g:F):(La gs f g).length<=gs.length+1:=by unfold La;split<;>simp
set_option tactic.hygienic true in
def acw(h:Inv sz gs)(hf:Xn sz f)(hg:Xn sz g):Inv sz (La gs f g):=by
 unfold La;split
 . rename_i q;exact h.snoc (hf.comp hg q.1) q.2.1 q.2.2
 . exact h
def ahu(gs:List F)(f g:F):Cl2 (La gs f g) f g:=by
 intro e;unfold La
 by_cases m:f.comp g∈gs
 . left;split
   . exact yo _ m
   . exact m
 . by_cases i:(f.comp g).Pa
   . exact .inr i
   . left;rw[cz ⟨e,m,i⟩];simp
def Rc{gs:List F}{i:Nat}(s:gs <+: hs)(h:gs[i]?=some f):hs[i]?=some f:=by obtain⟨t,rfl⟩:=s;rw[dj (ak.mp h).1];exact h
def Px{gs:List F}{i:Nat}(hp:M[p]?=some (.lst (gs.map F.toD)))(h:gs[i]?=some f):yu (.ref p) (.int i) M=some f.toD:=Cj (qg hp) q_ (by simp[h])
def Lb{gs:List F}(hp:M[p]?=some (.lst (gs.map F.toD))):v7 .len [.ref p] M=.ok (.int gs.length) M:=by rw[len_list (qg hp)];simp
def azr{k j:Nat}(hz:Sz sz)(hi:Inv sz gs)(hp:M[p]?=some (.lst (gs.map F.toD)))(hl:gs.length<90000)(hk:gs[k]?=some f)(hj:gs[j]?=some g) :
 ∃(b4 b7 b8 b9:Option D)(M':dh),Gk.den W [a0,D.ref p,a2,a3,a4,D.int k,D.int j,a7,a8,a9] M=.ok (.next,[a0,some (.ref p),a2,a3,b4,some (.int k),some (.int j),b7,b8,b9]) M' /\
  M'[p]?=some (.lst ((La (La gs f g) g f).map F.toD))/\Up p M M':=by
 have hf:=hi.good f (ao hk);have hg:=hi.good g (ao hj);have l1:=V7 gs f g;obtain⟨b4,b9,M1,e1,p1,u1⟩:=V6 (W:=W) (M:=M) (a0:=a0) (a2:=a2) (a3:=a3) (a4:=a4) (a5:=some (.int k)) (a6:=some (.int j)) (a9:=a9) hz hf hg hp (b_ hl (by decide));obtain⟨c4,c9,M2,e2,p2,u2⟩:=V6 (W:=W) (M:=M1) (a0:=a0) (a2:=a2) (a3:=a3) (a4:=b4) (a5:=some (.int k)) (a6:=some (.int j)) (a9:=b9) hz hg hf p1 (by lia);refine⟨c4,some g.toD,some f.toD,c9,M2,?_,p2,u1.trans u2⟩;unfold Gk;rw[Ss];simp[Px hp hk,Px hp hj,srcOf,Src.len,Src.fin,Bw,Src.item,e1,e2]
def atz{k:Nat}(hz:Sz sz)(hi:Inv sz gs)(hp:M[p]?=some (.lst (gs.map F.toD)))(hl:gs.length<10000)(hk:gs[k]?=some f) :
 ∃(hs:List F)(b4 b6 b7 b8 b9:Option D)(M':dh),Gn.den W [a0,D.ref p,a2,a3,a4,D.int k,a6,a7,a8,a9] M=.ok (.next,[a0,some (.ref p),a2,a3,b4,some (.int k),b6,b7,b8,b9]) M' /\
  M'[p]?=some (.lst (hs.map F.toD))/\Up p M M'/\gs <+: hs/\Inv sz hs/\hs.length<=3*gs.length/\∀(j:Nat)(g:F),gs[j]?=some g->Cl2 hs f g/\Cl2 hs g f:=by
 unfold Gn;rw[Ss];have hl':gs.length<=100000:=e_ (b_ hl (by decide))
 simp[Lb hp,hl'];obtain⟨ρ',M',e,hs,b4,b6,b7,b8,b9,rfl,h1,h2,h3,h4,h5,h6⟩:=aag (n:=gs.length) (body:=λd ρ M=>Gm.den W (ρ.set 6 (some d)) M)
  (λi ρ M'=>∃(hs:List F)(b4 b6 b7 b8 b9:Option D),ρ=[a0,some (.ref p),a2,a3,b4,some (.int k),b6,b7,b8,b9]/\M'[p]?=some (.lst (hs.map F.toD))/\Up p M M'/\gs <+: hs/\Inv sz hs/\hs.length<=gs.length+2*i /\
   ∀(j:Nat)(g:F),j<i->gs[j]?=some g->Cl2 hs f g/\Cl2 hs g f) (ρ:=[a0,D.ref p,a2,a3,a4,D.int k,a6,a7,a8,a9]) (M:=M)
  ⟨gs,a4,a6,a7,a8,a9,rfl,hp,Up.refl p M,List.prefix_rfl,hi,x_,λj g h=>absurd h (ug _)⟩
  (λi ρ M2 Ir hI=>by
   obtain⟨hs,b4,b6,b7,b8,b9,rfl,g1,g2,g3,g4,g5,g6⟩:=hI;have gi:gs[i]?=some gs[i]:=by simp[Ir]
   obtain⟨c4,c7,c8,c9,M3,e3,p3,u3⟩:=azr (W:=W) (M:=M2) (a0:=a0) (a2:=a2) (a3:=a3) (a4:=b4) (a7:=b7) (a8:=b8) (a9:=b9) hz g4 g1 (by lia) (Rc g3 hk) (Rc g3 gi);have hf:=g4.good f (ao (Rc g3 hk));have hg:=g4.good gs[i] (ao (Rc g3 gi));refine⟨.next,_,M3,?_,.inl rfl,La (La hs f gs[i]) gs[i] f,c4,some (.int i),c7,c8,c9,rfl,p3,g2.trans u3,(g3.trans (N5 _ _ _)).trans (N5 _ _ _),acw (acw g4 hf hg) hg hf,?_,?_⟩
   . simp[Gm,e3]
   . have:=V7 hs f gs[i]
     have:=V7 (La hs f gs[i]) gs[i] f
     lia
   . intro j g hj Yv
     have pr:=(N5 hs f gs[i]).trans (N5 (La hs f gs[i]) gs[i] f);rcases Nat.lt_succ_iff_lt_or_eq.mp hj with q|q
     . exact⟨(g6 j g q Yv).1.mono pr,(g6 j g q Yv).2.mono pr⟩
     . subst q
       have:g=gs[j]:=by rw[gi] at Yv;exact(jn Yv).symm
       subst this;exact⟨(ahu _ _ _).mono (N5 _ _ _),ahu _ _ _⟩)
 refine⟨hs,b4,b6,b7,b8,b9,M',e,h1,h2,h3,h4,by lia,λj g hg=>h6 j g (ak.mp hg).1 hg⟩
def anq(f:F)(i j k:Nat)(ρ:Env):(Tg.names [i,j,k]).put f.toD ρ=some (((ρ.set i (some (.int f.a))).set j (some (.int f.b))).set k (some (El f.r))):=rfl
noncomputable def aar(gs:List F)(f:F):List F:=if ¬f.Pa/\f∉gs then gs++[f] else gs
noncomputable def ClK(gs:List F)(k:Nat):Prop:=∀(i j:Nat)(f g:F),i<k->j<k->gs[i]?=some f->gs[j]?=some g->Cl2 gs f g
def aj4(hz:Sz sz)(hf:Xn sz f)(hp:M[p]?=some (.lst (gs.map F.toD)))(hl:gs.length<100000) :
 ∃M',zr.den W [a0,D.ref p,D.int f.a,D.int f.b,El f.r,a5,a6,a7,a8,a9] M=.ok (.next,[a0,some (.ref p),some (.int f.a),some (.int f.b),some (El f.r),a5,a6,a7,a8,a9]) M' /\
  M'[p]?=some (.lst ((aar gs f).map F.toD))/\Up p M M':=by
 have hlen:f.r.length<=100000:=by have:=(afz hz hf).2;exact a_ this (by decide)
 have Il:=anh M f gs;have hD:D.tup [.int f.a,.int f.b,El f.r]=f.toD:=rfl;have ap:=G6 (d:=f.toD) hp (by rw[du];exact hl)
 by_cases i:f.Pa
 . refine⟨M,?_,by rw[aar,bw (λq=>q.1 i)];exact hp,Up.refl p M⟩
   simp[-eq_int,zr,Bs,i.1,Jg,hlen,Nz,decide_eq_true i.2]
 . by_cases m:f∈gs
   . refine⟨M,?_,by rw[aar,bw (λq=>q.2 m)];exact hp,Up.refl p M⟩
     by_cases i1:f.a=f.b
     . have i2:¬f.r=List.range f.r.length:=λq=>i ⟨i1,q⟩
       simp[i1] at hD;simp[-eq_int,zr,Bs,i1,i2,Jg,hlen,Nz,hD,Qn hp,Il,m]
     . simp[-eq_int,zr,Bs,i1,Jg,hlen,Nz,hD,Qn hp,Il,m]
   . refine⟨M.set p (.lst ((gs++[f]).map F.toD)),?_,by rw[aar,cz ⟨i,m⟩,vo hp],Up.set _ _ _⟩
     by_cases i1:f.a=f.b
     . have i2:¬f.r=List.range f.r.length:=λq=>i ⟨i1,q⟩
       simp[i1] at hD;simp[-eq_int,zr,Bs,i1,i2,Jg,hlen,Nz,hD,Qn hp,Il,m,Hc hp,ap]
     . simp[-eq_int,zr,Bs,i1,Jg,hlen,Nz,hD,Qn hp,Il,m,Hc hp,ap]
set_option tactic.hygienic true in
def anr(h:Inv sz gs)(hf:Xn sz f):Inv sz (aar gs f):=by
 unfold aar;split
 . rename_i q;exact h.snoc hf q.2 q.1
 . exact h
def ant(gs:List F)(f:F):(aar gs f).length<=gs.length+1:=by unfold aar;split<;>simp
def aj5(hz:Sz sz)(hi:Inv sz gs)(hp:M[p]?=some (.lst (gs.map F.toD)))(hl:gs.length<=3) :
 ∃(ρ':Env)(M':dh),Gp.den W [a0,D.ref p,a2,a3,a4,D.int 0,a6,a7,a8,a9] M=.ok (.next,ρ') M'/\ρ'[1]?=some (some (.ref p))/\∃hs:List F,M'[p]?=some (.lst (hs.map F.toD))/\Up p M M'/\Inv sz hs/\hs.length<=15 /\
  (hs.length<6->Ny hs)/\(gs=[]->hs=[]):=by
 unfold Gp;rw[aad];refine Ox (λm ρ M'=>∃(hs:List F)(k:Nat)(b4 b6 b7 b8 b9:Option D),ρ=[a0,some (.ref p),a2,a3,b4,some (.int k),b6,b7,b8,b9]/\M'[p]?=some (.lst (hs.map F.toD))/\Up p M M'/\Inv sz hs/\hs.length<=15/\ClK hs k/\k<=5/\m=10-k/\(gs=[]->hs=[]))
  (fun ρ' M'=>ρ'[1]?=some (some (.ref p))/\∃hs:List F,M'[p]?=some (.lst (hs.map F.toD))/\Up p M M'/\Inv sz hs/\hs.length<=15/\(hs.length<6->Ny hs)/\(gs=[]->hs=[])) ?_ afv 10 _ M (by decide)
  ⟨gs,0,a4,a6,a7,a8,a9,rfl,hp,Up.refl p M,hi,a_ hl (by decide),λi j f g h=>absurd h (ug _),ju _,rfl,id⟩
 intro m ρ M1 hI;obtain⟨hs,k,b4,b6,b7,b8,b9,rfl,g1,g2,g3,g4,g5,g6,g7,g8⟩:=hI
 by_cases c1:k<hs.length
 . have c1':(k:Int)<(hs.length:Int):=m_ c1
   by_cases c2:hs.length<6
   . have c2':(hs.length:Int)<6:=m_ c2
     right
     obtain⟨is,d4,d6,d7,d8,d9,M2,e,p2,u2,pr,inv2,l2,cl2⟩:=atz (W:=W) (M:=M1) (a0:=a0) (a2:=a2) (a3:=a3) (a4:=b4) (a6:=b6) (a7:=b7) (a8:=b8) (a9:=b9) (k:=k) hz g3 g1 (c_ g4 (by decide)) (show hs[k]?=some hs[k] by simp[c1]);refine⟨M1,.next,_,M2,10-(k+1),?_,?_,.inl rfl,by lia,is,k+1,d4,d6,d7,d8,d9,rfl,p2,g2.trans u2,inv2,by lia,?_,by lia,rfl,?_⟩
     . simp[Lb g1,c1',c2']
     . simp[Ma,e]
     . intro i j f g Xm hj' hf hg
       have back:∀(i:Nat)(f:F),i<k+1->is[i]?=some f->hs[i]?=some f:=λi f hi hf=>by
        have Ir:i<hs.length:=b_ hi c1
        have:=Rc pr (show hs[i]?=some hs[i] by simp[Ir]);rw[hf] at this;rw[this];simp[Ir]
       have hf':=back i f Xm hf;have Yv:=back j g hj' hg
       by_cases ei:i=k
       . subst ei
         have:f=hs[i]:=by have:=hf';simp[c1] at this;exact this.symm
         subst this;exact(cl2 j g Yv).1
       . by_cases ej:j=k
         . subst ej
           have:g=hs[j]:=by have:=Yv;simp[c1] at this;exact this.symm
           subst this;exact(cl2 i f hf').2
         . exact(g5 i j f g (by lia) (by lia) hf' Yv).mono pr
     . intro e0
       have:=g8 e0;subst this;simp at c1
   . left
     have c2':¬(hs.length:Int)<6:=by lia
     exact⟨M1,by simp[Lb g1,c1',c2'],rfl,hs,g1,g2,g3,g4,λq=>absurd q c2,g8⟩
 . left
   have c1':¬(k:Int)<(hs.length:Int):=by lia
   refine⟨M1,by simp[Lb g1,c1'],rfl,hs,g1,g2,g3,g4,λ_=>?_,g8⟩;intro f hf g hg;obtain⟨i,Xm,ei⟩:=qp hf;obtain⟨j,hj',ej⟩:=qp hg;exact g5 i j f g (b_ Xm (s_ c1)) (b_ hj' (s_ c1)) (by simp[Xm,ei]) (by simp[hj',ej])
def Yw(hm:1<=m)(hz:Sz sz)(hg:Good sz fs)(hl:fs.length<=3)(hd:fc M d=some (fs.map F.toD)) :
 ∃(hs:List F)(M':dh),prog.call m 16 [d] M=.ok (.ref M.length) M'/\M'[M.length]?=some (.lst (hs.map F.toD))/\Bo M M'/\M'.length=M.length+1/\Inv sz hs/\hs.length<=15/\(hs.length<6->Ny hs)/\(fs=[]->hs=[]):=by
 rw[call_of hm rfl];have hd1:fc (M++[.lst []]) d=some (fs.map F.toD):=(Bo.app M _).fc hd;obtain⟨s,hs0,ρ1,M1,e1,gs,b2,b3,b4,rfl,h1,h2,h3,h4,h5⟩:=Vy (body:=λd ρ M=>match(Tg.names [2,3,4]).put d ρ with
  | some ρ'=>zr.den ⟨prog.call (m-1),prog.cls⟩ ρ' M|none=>.bad)
  (λi ρ M'=>∃(gs:List F)(b2 b3 b4:Option D),ρ=[some d,some (.ref M.length),b2,b3,b4,none,none,none,none,none]/\M'[M.length]?=some (.lst (gs.map F.toD))/\Up M.length (M++[.lst []]) M'/\Inv sz gs/\gs.length<=i/\(fs=[]->gs=[]))
  (ρ:=[some d,D.ref M.length,none,none,none,none,none,none,none,none]) (M:=M++[.lst []]) hd1
  ⟨[],none,none,none,rfl,by simp,Up.refl _ _,⟨λf hf=>by simp at hf,by simp,λf hf=>by simp at hf⟩,by simp,λ_=>rfl⟩
  (λi ρ M' hI=>by
   obtain⟨gs,b2,b3,b4,rfl,g1,g2,g3,g4,g5⟩:=hI;cases d with
   |vl xs=>exact hd
   |ref n =>
    have hn:n≠M.length:=by
     simp only[fc] at hd;cases e:M[n]? with
     |none=>rw[e] at hd;simp at hd|some o=>have:=wz e;exact h_ this
    simp only[fc] at hd1 ⊢;rw[g2.oth n hn];exact hd1
   | _=>simp[fc] at hd)
  (λi x ρ M' hx hI=>by
   obtain⟨gs,b2,b3,b4,rfl,g1,g2,g3,g4,g5⟩:=hI;obtain⟨f,hf,rfl⟩:∃f,fs[i]?=some f/\f.toD=x:=by simpa using hx
   have hfm:=ao hf;have hil:=(ak.mp hf).1;obtain⟨M2,e2,p2,u2⟩:=aj4 (W:=⟨prog.call (m-1),prog.cls⟩) (M:=M') (a0:=some d) (a5:=none) (a6:=none) (a7:=none) (a8:=none) (a9:=none) hz (hg f hfm) g1 (c_ g4 (b_ hil (a_ hl (by decide))));refine⟨.next,_,M2,?_,.inl rfl,aar gs f,some (.int f.a),some (.int f.b),some (El f.r),rfl,p2,g2.trans u2,anr g3 (hg f hfm),?_,λe=>?_⟩
   . rw[anq];exact e2
   . have:=ant gs f;exact a_ this (v_ g4)
   . subst e;simp at hf)
 have hgl:gs.length<=3:=by simp at h4;exact a_ h4 hl
 obtain⟨ρ2,M2,e2,q1,hs,p2,u2,inv2,l2,c2,z2⟩:=aj5 (W:=⟨prog.call (m-1),prog.cls⟩) (M:=M1) (a0:=some d) (a2:=b2) (a3:=b3) (a4:=b4) (a6:=none) (a7:=none) (a8:=none) (a9:=none) hz h3 h1 hgl;have up:=h2.trans u2;refine⟨hs,M2,?_,p2,λa o h=>?_,?_,inv2,l2,c2,λe=>z2 (h5 e)⟩
 . have e1':Gq.den ⟨prog.call (m-1),prog.cls⟩ [some d,D.ref M.length,none,none,none,none,none,none,none,none] (M++[.lst []])=.ok (.next,[some d,some (.ref M.length),b2,b3,b4,none,none,none,none,none]) M1:=by
    unfold Gq;rw[Ss];simp[hs0];exact e1
   simp[Fn.run,Pj,Ph,MW.new,e1',e2,q1]
 . have:=wz h
   rw[up.oth a (h_ this)];exact xm h
 . rw[up.len];simp
noncomputable def eD(f:F):D:=.tup [.int f.a,.int f.b]
noncomputable def Hz(hs:List F):D:=.tup (hs.map eD)
noncomputable def ent(hs:List F)(f g:F):Int:=if f.comp g∈hs then(pos (f.comp g) hs:Int) else -1
noncomputable def ky(j k:Nat):List Kx:=[.inl (j:Int),.inl (k:Int)]
def af1(h:ky j k=ky j' k'):j=j'/\k=k':=by simp[ky] at h;exact⟨D_ h.1,D_ h.2⟩
noncomputable def Yx(j k j' k':Nat):Prop:=j'<j\/(j'=j/\k'<k)
structure Tb(hs:List F)(j k:Nat)(ie:List (List Kx×D)):Prop where
 keys:∀p∈ie,∃(j' k':Nat)(f g:F),p=(ky j' k',.int (ent hs f g))/\hs[j']?=some f/\hs[k']?=some g/\f.b=g.a/\Yx j k j' k'
 look:∀(j' k':Nat)(f g:F),hs[j']?=some f->hs[k']?=some g->f.b=g.a->Yx j k j' k'->vq ie (ky j' k')=some (.int (ent hs f g))
 len:ie.length<=j*hs.length+k
def aj6{ie:List (List Kx×D)}(h:∀p∈ie,p.1≠q):vq ie q=none:=by unfold vq;rw[List.find?_eq_none.mpr (λp hp=>by simpa using h p hp)];rfl
def aj7{ie:List (List Kx×D)}(h:∀p∈ie,p.1≠q):Cu ie q v=ie++[(q,v)]:=by unfold Cu;rw[bw];simp only[Aq,dm,not_exists,not_and];exact h
def aas{ie:List (List Kx×D)}(h:q≠q'):vq (ie++[(q,v)]) q'=vq ie q':=by
 unfold vq;rw[List.find?_append];cases e:ie.find? (λp=>decide (p.1=q')) with
 |some p=>rfl|none=>simp[h]
def aat{ie:List (List Kx×D)}(h:∀p∈ie,p.1≠q):vq (ie++[(q,v)]) q=some v:=by unfold vq;rw[List.find?_append,List.find?_eq_none.mpr (λp hp=>by simpa using h p hp)];simp
def Tb.skip(h:Tb hs j k ie)(hf:hs[j]?=some f)(hg:hs[k]?=some g)(n:f.b≠g.a):Tb hs j (k+1) ie:=by
 refine⟨λp hp=>?_,λj' k' f' g' a b c d=>?_,by have:=h.len;exact a_ this (w_ x_)⟩
 . obtain⟨j',k',f',g',e,a,b,c,d⟩:=h.keys p hp
   exact⟨j',k',f',g',e,a,b,c,by unfold Yx at *;lia⟩
 . by_cases q:j'=j/\k'=k
   . obtain⟨rfl,rfl⟩:=q
     rw[hf] at a;rw[hg] at b;cases a;cases b;exact absurd c n
   . exact h.look j' k' f' g' a b c (by unfold Yx at *;lia)
def Tb.fresh(h:Tb hs j k ie):∀p∈ie,p.1≠ky j k:=by
 intro p hp e;obtain⟨j',k',f',g',rfl,a,b,c,d⟩:=h.keys p hp;have:=af1 e;unfold Yx at d
 lia
def Tb.put(h:Tb hs j k ie)(hf:hs[j]?=some f)(hg:hs[k]?=some g)(n:f.b=g.a):Tb hs j (k+1) (Cu ie (ky j k) (.int (ent hs f g))):=by
 rw[aj7 h.fresh];refine⟨λp hp=>?_,λj' k' f' g' a b c d=>?_,by have:=h.len;simp;lia⟩
 . rcases dw.mp hp with q|q
   . obtain⟨j',k',f',g',e,a,b,c,d⟩:=h.keys p q
     exact⟨j',k',f',g',e,a,b,c,by unfold Yx at *;lia⟩
   . have:p=(ky j k,.int (ent hs f g)):=by simpa using q
     exact⟨j,k,f,g,this,hf,hg,n,by unfold Yx;lia⟩
 . by_cases q:j'=j/\k'=k
   . obtain⟨rfl,rfl⟩:=q
     rw[hf] at a;rw[hg] at b;cases a;cases b;exact aat h.fresh
   . rw[aas (λe=>q (by have:=af1 e;exact⟨this.1.symm,this.2.symm⟩))]
     exact h.look j' k' f' g' a b c (by unfold Yx at *;lia)
def Tb.next(h:Tb hs j hs.length ie):Tb hs (j+1) 0 ie:=by
 refine⟨λp hp=>?_,λj' k' f' g' a b c d=>?_,by have:=h.len;have e:(j+1)*hs.length=j*hs.length+hs.length:=Nat.succ_mul _ _;exact a_ this (a_ (g_ e) x_)⟩
 . obtain⟨j',k',f',g',e,a,b,c,d⟩:=h.keys p hp
   exact⟨j',k',f',g',e,a,b,c,by unfold Yx at *;lia⟩
 . have:=(ak.mp b).1
   exact h.look j' k' f' g' a b c (by unfold Yx at *;lia)
def anu{hs:List F}{j k:Nat}(hz:Sz sz)(hf:Xn sz f)(hg:Xn sz g)(h:f.b=g.a)(hq:M[q]?=some (.lst (hs.map F.toD)))(hj:hs[j]?=some f)(hk:hs[k]?=some g) :
 Fe.den W [a0,a1,D.ref q,a3,a4,D.int j,D.int k,a7] M=.ok (.vl ((f.comp g).r.map nD)) M:=by
 have hsm:(f.r.map nD).length<=100000:=by rw[du,hf.len];have:=hz f.a;exact a_ this.2 (by decide)
 unfold Fe;rw[aah (ds:=f.r.map nD) (M1:=M) (g:=λd=>match d with|.int i=>nD (g.r.getD i.toNat 0)|_=>.non) (by simp[Px hq hj,anl,El]) hsm (λx hx=>by
  obtain⟨y,hy,rfl⟩:=bf.mp hx;have hy':y<g.r.length:=by rw[hg.len,<- h];exact hf.ran y hy
  exact⟨_,rfl,by simp[Px hq hk,anl,nD,anm M g.r hy']⟩)]
 simp[F.comp,nD]
def af2(hz:Sz sz)(hi:Inv sz hs)(hl:hs.length<=5)(hq:M[q]?=some (.lst (hs.map F.toD)))(hr:M[r]?=some (.dT ie))(hj:hs[j]?=some f)(hk:hs[k]?=some g)(ht:Tb hs j k ie) :
 ∃(b7:Option D)(M':dh)(kvs':List (List Kx×D)),Bb.den W [a0,a1,D.ref q,a3,D.ref r,D.int j,D.int k,a7] M=.ok (.next,[a0,a1,some (.ref q),a3,some (.ref r),some (.int j),some (.int k),b7]) M' /\
  M'[r]?=some (.dT kvs')/\Tb hs j (k+1) kvs'/\Up r M M':=by
 have hjl:=(ak.mp hj).1;have hkl:=(ak.mp hk).1;have hf:=hi.good f (ao hj);have hg:=hi.good g (ao hk)
 by_cases h:f.b=g.a
 . have hc:=anu (W:=W) (M:=M) (a0:=a0) (a1:=a1) (a3:=a3) (a4:=some (.ref r)) (a7:=a7) hz hf hg h hq hj hk
   have Il:=anh M (f.comp g) hs;have hkv:ie.length<100000:=by
    have:=ht.len;have:j*hs.length<=5*5:=Nat.mul_le_mul (e_ (b_ hjl hl)) hl
    lia
   have st:=azn (d:=.int (ent hs f g)) (b:=.tup [.int j,.int k]) hr rfl hkv;refine⟨some (f.comp g).toD,_,Cu ie (ky j k) (.int (ent hs f g)),?_,vo (o:=.dT (Cu ie (ky j k) (.int (ent hs f g)))) hr,ht.put hj hk h,Up.set _ _ _⟩
   by_cases m:f.comp g∈hs
   . have hix:Jz .index (.ref q) [(f.comp g).toD] M=.ok (.int (pos (f.comp g) hs)) M:=by simp[Jz,Vx (qg hq),a6t,m]
     have hty:Qh .index (.ref q) M=true:=by simp[Qh,qg hq]
     have he:ent hs f g=(pos (f.comp g) hs:Int):=cz m;rw[he] at st;simp[-eq_int,Bb,Px hq hj,Px hq hk,Ub,Uc,Bs,h,hc,aaq,af0,Qn hq,Il,m,hty,hix,st,he,ky]
   . have he:ent hs f g=-1:=bw m
     rw[he] at st;simp[-eq_int,Bb,Px hq hj,Px hq hk,Ub,Uc,Bs,h,hc,aaq,af0,Qn hq,Il,m,st,he,ky]
 . refine⟨a7,M,ie,?_,hr,ht.skip hj hk h,Up.refl r M⟩
   simp[-eq_int,Bb,Px hq hj,Px hq hk,Ub,Uc,Bs,h]
def azs(hz:Sz sz)(hi:Inv sz hs)(hl:hs.length<=5)(hq:M[q]?=some (.lst (hs.map F.toD)))(hr:M[r]?=some (.dT []))(hqr:q≠r) :
 ∃(ρ':Env)(M':dh)(ie:List (List Kx×D)),Fi.den W [a0,a1,D.ref q,a3,D.ref r,a5,a6,a7] M=.ok (.next,ρ') M'/\ρ'[2]?=some (some (.ref q))/\ρ'[3]?=some a3/\ρ'[4]?=some (some (.ref r))/\ρ'.length=8 /\
  M'[r]?=some (.dT ie)/\Tb hs hs.length 0 ie/\Up r M M':=by
 unfold Fi;have hlen:∀(M':dh),Up r M M'->v7 .len [.ref q] M'=.ok (.int hs.length) M':=λM' u=>Lb (by rw[u.oth q hqr];exact hq)
 obtain⟨ρ',M',e,b5,b6,b7,ie,rfl,h1,h2,h3⟩:=Ax (W:=W) (t:=.name 5) (b:=Ff) (it:=.blt .len (.o (.v 2))) (n:=hs.length) (ρ:=[a0,a1,D.ref q,a3,D.ref r,a5,a6,a7]) (M:=M) (M1:=M) (by simp[Lb hq]) (a_ hl (by decide))
  (λj ρ M'=>∃(b5 b6 b7:Option D)(ie:List (List Kx×D)),ρ=[a0,a1,some (.ref q),a3,some (.ref r),b5,b6,b7]/\M'[r]?=some (.dT ie)/\Tb hs j 0 ie/\Up r M M')
  ⟨a5,a6,a7,[],rfl,hr,⟨λp hp=>by simp at hp,λj' k' f g a b c d=>by unfold Yx at d;lia,by simp⟩,Up.refl r M⟩
  (λj ρ M1 hj hI=>by
   obtain⟨b5,b6,b7,ie,rfl,g1,g2,g3⟩:=hI;have hq1:M1[q]?=some (.lst (hs.map F.toD)):=by rw[g3.oth q hqr];exact hq
   obtain⟨ρ2,M2,e2,c6,c7,bdn,rfl,k1,k2,k3⟩:=Ax (W:=W) (t:=.name 6) (b:=Bb) (it:=.blt .len (.o (.v 2))) (n:=hs.length) (ρ:=[a0,a1,D.ref q,a3,D.ref r,D.int j,b6,b7]) (M:=M1) (M1:=M1) (by simp[Lb hq1]) (a_ hl (by decide))
    (λk ρ M'=>∃(b6 b7:Option D)(ie:List (List Kx×D)),ρ=[a0,a1,some (.ref q),a3,some (.ref r),some (.int j),b6,b7]/\M'[r]?=some (.dT ie)/\Tb hs j k ie/\Up r M1 M')
    ⟨b6,b7,ie,rfl,g1,g2,Up.refl r M1⟩
    (λk ρ M2 hk hI=>by
     obtain⟨b6,b7,ie,rfl,k1,k2,k3⟩:=hI;have hq2:M2[q]?=some (.lst (hs.map F.toD)):=by rw[k3.oth q hqr];exact hq1
     obtain⟨c7,M3,bdo,e3,p3,t3,u3⟩:=af2 (W:=W) (M:=M2) (a0:=a0) (a1:=a1) (a3:=a3) (a7:=b7) hz hi hl hq2 k1 (show hs[j]?=some hs[j] by simp[hj]) (show hs[k]?=some hs[k] by simp[hk]) k2;exact⟨_,.next,_,M3,rfl,e3,.inl rfl,_,c7,bdo,rfl,p3,t3,k3.trans u3⟩)
   exact⟨_,.next,_,M2,rfl,by simp[Ff,Kc,e2],  .inl rfl,some (.int j),c6,c7,bdn,rfl,k1,k2.next,g3.trans k3⟩)
 exact⟨_,M',ie,e,rfl,rfl,rfl,rfl,h1,h2,h3⟩
structure Kf(sz:Nat->Nat)(K:Nat)(hs:List F)(ie:List (List Kx×D)):Prop where
 hz:Sz sz
 inv:Inv sz hs
 cl:Ny hs
 len:hs.length<=5
 k1:1<=K
 k3:K<=3
 V8:∀f∈hs,f.a<K
 Rf:∀f∈hs,f.b<K
 tb:Tb hs hs.length 0 ie
theorem acx:∀(xs:Y3)(a:Nat),∃v:Nat,(xs.map λ(x:Nat)=>(x:Int)).foldl (λm x=>if m<x then x else m) (a:Int)=(v:Int)/\a<=v/\(∀x∈xs,x<=v)/\(v=a\/v∈xs)
 |[],a=>⟨a,rfl,bh _,by simp,.inl rfl⟩
 |x::xs,a=>by
  obtain⟨v,e,h1,h2,h3⟩:=acx xs (if a<x then x else a);refine⟨v,?_,?_,λy hy=>?_,?_⟩
  . rw[gq,Bg,<- e]
    congr 1
    by_cases q:a<x
    . have:(a:Int)<(x:Int):=m_ q
      simp[q]
    . have:¬(a:Int)<(x:Int):=by lia
      simp[q]
  . split at h1<;>omega
  . rcases bz.mp hy with q|q
    . subst q;split at h1<;>omega
    . exact h2 y q
  . rcases h3 with q|q
    . by_cases w:a<x
      . right;rw[cz w] at q;subst q;simp
      . left;rw[bw w] at q;exact q
    . right;exact bc _ q
theorem acy:∀xs:List Nat,Yo (xs.map nD)=some (xs.map λ(x:Nat)=>(x:Int))
 |[]=>rfl|x::xs=>by simp[nD,Yo,show Yo (xs.map nD)=_ from acy xs]
def anv(h:xs≠[]):∃v:Nat,v7 .max [.vl (xs.map nD)] M=.ok (.int v) M/\(∀x∈xs,x<=v)/\v∈xs:=by
 obtain⟨a,r,rfl⟩:∃a r,xs=a::r:=List.exists_cons_of_ne_nil h;obtain⟨v,e,h1,h2,h3⟩:=acx r a;refine⟨v,?_,λx hx=>?_,?_⟩
 . have:=acy (a::r)
   simp only[v7,atr,aj3,uw,this];simp only[gq,azb,uw,vm,Res.Dl,e]
 . rcases bz.mp hx with q|q
   . subst q;exact h1
   . exact h2 x q
 . rcases h3 with q|q
   . rw[q];simp
   . exact bc _ q
def max2(a b:Nat):v7 .max [.int a,.int b] M=.ok (nD (max a b)) M:=by
 by_cases h:a<b
 . have h':(a:Int)<b:=m_ h
   have e:max a b=b:=by lia
   simp[v7,h,nD,e]
 . have h':¬(a:Int)<b:=by lia
   have e:max a b=a:=by lia
   simp[v7,h,nD,e]
noncomputable def toF:D->F
 |.tup [.int a,.int b,.tup r]=>⟨a.toNat,b.toNat,r.map λd=>match d with|.int i=>i.toNat|_=>0⟩
 |_=>⟨0,0,[]⟩
def Ve(f:F):toF f.toD=f:=by
 obtain⟨a,b,r⟩:=f;show F.mk a b ((r.map nD).map λd=>match d with|.int i=>i.toNat|_=>0)=F.mk a b r;rw[zj]
 conv=>rhs;rw[<- List.map_id r]
 exact qz _ (qu λx _=>rfl)
def anw{hs:List F}(hl:hs.length<=100000)(hq:M[q]?=some (.lst (hs.map F.toD))) :
 Fj.den W [a0,a1,D.ref q,a3,a4,a5,a6,a7] M=.ok (.vl ((hs.map λf=>max f.a f.b).map nD)) M:=by
 unfold Fj;rw[Ay (d:=.ref q) (ds:=hs.map F.toD) (M1:=M) (g:=λd=>nD (max (toF d).a (toF d).b)) (by simp) (qg hq) (by simpa using hl) (λx hx=>by
  obtain⟨f,hf,rfl⟩:=bf.mp hx;exact⟨_,anq _ _ _ _ _,by simp[max2,Ve]⟩)]
 simp[Ve]
def aj8{hs:List F}(hρ:ρ[2]?=some (some (.ref q)))(hρl:ρ.length=8)(hl:hs.length<=100000)(hq:M[q]?=some (.lst (hs.map F.toD))) :
 Fb.den W ρ M=.ok (.vl (hs.map eD)) M:=by
 unfold Fb;rw[Ay (d:=.ref q) (ds:=hs.map F.toD) (M1:=M) (g:=λd=>eD (toF d)) (by simp[hρ]) (qg hq) (by simpa using hl) (λx hx=>by
  obtain⟨f,hf,rfl⟩:=bf.mp hx;refine⟨_,anq _ _ _ _ _,?_⟩;rw[Ve];simp[eD,List.getElem?_set,hρl])]
 simp[Ve]
def aj9(hm:1<=m)(hz:Sz sz)(hs0:S8 t f M)(hg:Good sz fs)(hl:fs.length<=3)(hd:fc M d=some (fs.map F.toD))(hq:M[q]?=some (.lst (hs.map F.toD)))(hqt:q≠t)(hi:Inv sz hs)(hhl:hs.length<=15)(hc:hs.length<6->Ny hs)(h0:fs=[]->hs=[]) :
 ∃(ρ':Env)(M':dh),Fl.den ⟨prog.call m,prog.cls⟩ [D.ref t,some d,D.ref q,a3,a4,a5,a6,a7] M=.ok (.next,ρ') M'/\∃(d':D)(q':Nat)(O1:List F),ρ'=[some (.ref t),some d',some (.ref q'),a3,a4,a5,a6,a7] /\
  M'[q']?=some (.lst (O1.map F.toD))/\q'≠t/\Inv sz O1/\O1.length<=5/\Ny O1/\Bo M M':=by
 unfold Fl;rw[aad];refine Ox (λn ρ M'=>∃(d:D)(fs hs:List F)(q:Nat),ρ=[some (.ref t),some d,some (.ref q),a3,a4,a5,a6,a7]/\fs.length=n/\Good sz fs/\fs.length<=3/\fc M' d=some (fs.map F.toD)/\M'[q]?=some (.lst (hs.map F.toD))/\q≠t /\
  Inv sz hs/\hs.length<=15/\(hs.length<6->Ny hs)/\(fs=[]->hs=[])/\Bo M M')
  (fun ρ' M'=>∃(d':D)(q':Nat)(O1:List F),ρ'=[some (.ref t),some d',some (.ref q'),a3,a4,a5,a6,a7]/\M'[q']?=some (.lst (O1.map F.toD))/\q'≠t/\Inv sz O1/\O1.length<=5/\Ny O1/\Bo M M') ?_ afv fs.length _ M (by unfold afv;exact c_ hl (by decide))
  ⟨d,fs,hs,q,rfl,rfl,hg,hl,hd,hq,hqt,hi,hhl,hc,h0,Bo.refl M⟩
 intro n ρ M1 hI;obtain⟨d,fs,hs,q,rfl,rfl,g1,g2,g3,g4,g5,g6,g7,g8,g9,g10⟩:=hI
 by_cases c:5<hs.length
 . right
   have c':(5:Int)<(hs.length:Int):=m_ c
   have Tw:fs≠[]:=λe=>by rw[g9 e] at c;simp at c
   have bkc:1<=fs.length:=List.length_pos_iff.mpr Tw
   have bdp:acj d none (some (-1)) M1=some (.vl (fs.dropLast.map F.toD)):=by
    have hcl:afs (fs.map F.toD) none (some (-1))=fs.dropLast.map F.toD:=by
     have e2:((-1:Int)+(fs.length:Int)).toNat=fs.length-1:=by lia
     simp[afs,clip,e2,List.map_dropLast,List.dropLast_eq_take]
    cases d with
    |tup ds=>simp[fc] at g3|vl ds=>simp only[acj,g3,vm,hcl]|ref n=>simp only[acj,g3,vm,hcl]|_=>simp[fc] at g3
   have gd:Good sz fs.dropLast:=λf hf=>g1 f (List.dropLast_subset fs hf)
   obtain⟨O1,M2,e,p2,k2,l2,i2,b2,c2,z2⟩:=Yw (M:=M1) (m:=m) (d:=.vl (fs.dropLast.map F.toD)) hm hz gd (by simp;exact a_ g2 (by decide)) rfl;have ht1:t<M1.length:=by obtain⟨n,h,_⟩:=hs0;exact wz (g10 t _ h)
   refine⟨M1,.next,_,M2,fs.length-1,?_,?_,.inl rfl,by lia,.vl (fs.dropLast.map F.toD),fs.dropLast,O1,M1.length,rfl,by simp,gd,by simp;exact a_ g2 (by decide),rfl,p2,i_ ht1,i2,b2,c2,z2,g10.trans k2⟩
   . simp[Lb g4,c']
   . simp[-List.map_dropLast,Kd,bdp,e]
 . left
   have c':¬(5:Int)<(hs.length:Int):=by lia
   exact⟨M1,by simp[Lb g4,c'],d,q,hs,rfl,g4,g5,g6,s_ c,g8 (c_ (s_ c) (by decide)),g10⟩
def af3(hm:3<=m)(hs0:S8 t f M):∃(K r:Nat)(sz:Nat->Nat)(hs:List F)(ie:List (List Kx×D))(M':dh),prog.call m 17 [.ref t] M=.ok (.tup [.int K,Hz hs,.ref r]) M'/\M'[r]?=some (.dT ie)/\M.length<=r/\Kf sz K hs ie/\St t f M M':=by
 rw[call_of (a_ (by decide) hm) rfl];have ht0:t<M.length:=by obtain⟨n,h,_⟩:=hs0;exact wz h
 obtain⟨d,M1,fs,sz,e1,d1,n1,hz,g1,l1,s1⟩:=ank (m:=m-1) (r_ hm) hs0;obtain⟨hs,M2,e2,p2,k2,ll2,i2,b2,c2,z2⟩:=Yw (M:=M1) (m:=m-1) (d:=d) (r_ (a_ (by decide) hm)) hz g1 l1 d1;have ht1:t<M1.length:=by obtain⟨n,h,_⟩:=s1.has;exact wz h
 have s2:St t f M1 M2:=St.of s1.has k2;obtain⟨ρ3,M3,e3,d',q,O1,rfl,p3,q3,i3,l3,c3,k3⟩:=aj9 (M:=M2) (m:=m-1) (t:=t) (f:=f) (d:=d) (fs:=fs) (hs:=hs) (q:=M1.length) (a3:=none) (a4:=none) (a5:=none) (a6:=none) (a7:=none) (r_ (a_ (by decide) hm)) hz s2.has g1 l1 (k2.fc d1) p2 (i_ ht1) i2 b2 c2 z2;have s3:St t f M2 M3:=St.of s2.has k3;have s03:=s1.trans (s2.trans s3);have axz:=anw (W:=⟨prog.call (m-1),prog.cls⟩) (M:=M3) (a0:=some (.ref t)) (a1:=some d') (a3:=none) (a4:=none) (a5:=none) (a6:=none) (a7:=none) (by exact a_ l3 (by decide):O1.length<=100000) p3;obtain⟨v,ev,hv1,hv2⟩:=anv (M:=M3) (xs:=(O1.map λf:F=>max f.a f.b)++[0]) (by simp);have azu:Gg .add (.vl ((O1.map λf:F=>max f.a f.b).map nD)) (.vl [.int 0]) M3=.ok (.vl (((O1.map λf:F=>max f.a f.b)++[0]).map nD)) M3:=by rw[Yr _ _ (by simp;exact a_ l3 (by decide))];simp[nD]
 generalize hX:(D.vl ((O1.map λf:F=>max f.a f.b).map nD))=X at axz azu;generalize hY:(D.vl (((O1.map λf:F=>max f.a f.b)++[0]).map nD))=Y at ev azu;have hv3:v<=2:=by
  rcases dw.mp hv2 with w|w
  . obtain⟨x,hx,rfl⟩:=bf.mp w
    have:=(i3.good x hx).a;have:=(i3.good x hx).b;lia
  . simp at w;exact a_ (f_ w) (ju _)
 have heq:xx M3 (.ref q) (.vl [])=some (decide (O1=[])):=by
  simp only[xx];cases O1 with
  |nil=>simp[Jy,fc,p3,Qv]|cons a l=>simp[Jy,fc,p3]
 obtain⟨K,M4,hK,k1,k3',ka,kb,p4,s4,l4⟩:∃(K:Nat)(M4:dh),
  (By.iff (.cmp .eq (.v 2) (.Hb .nil)) (.o (.asg (.tg (.name 3)) (.bin .add (.i 1) (.call 14 (.p (.v 0) (.i 3)))))) .nil).den ⟨prog.call (m-1),prog.cls⟩ [D.ref t,some d',D.ref q,D.int (1+(v:Int)),none,none,none,none] M3
   = .ok (.next,[some (.ref t),some d',some (.ref q),some (.int K),none,none,none,none]) M4/\1<=K/\K<=3/\(∀f∈O1,f.a<K)/\(∀f∈O1,f.b<K)/\M4[q]?=some (.lst (O1.map F.toD))/\St t f M3 M4/\M4.length=M3.length:=by
  by_cases he:O1=[]
  . obtain⟨w,M4,ew,lw,sw,llw⟩:=Bx (m:=m-1) (r_ (a_ (by decide) hm)) s3.has (many:=3) (by decide) (by decide)
    refine⟨1+w,M4,?_,x_,by lia,by simp[he],by simp[he],sw.keep q _ q3 p3,sw,llw⟩;simp[heq,he,ew]
  . refine⟨1+v,M3,?_,x_,by lia,λx hx=>?_,λx hx=>?_,p3,St.of s3.has (Bo.refl _),rfl⟩
    . simp[heq,he]
    . have:=hv1 (max x.a x.b) (yo _ (bf.mpr ⟨x,hx,rfl⟩));lia
    . have:=hv1 (max x.a x.b) (yo _ (bf.mpr ⟨x,hx,rfl⟩));lia
 have p5:(M4++[.dT []])[q]?=some (.lst (O1.map F.toD)):=xm p4;have hql:=wz p4;obtain⟨ρ6,M6,ie,e6,r2,r3,r4,r8,p6,t6,u6⟩:=azs (W:=⟨prog.call (m-1),prog.cls⟩) (M:=M4++[.dT []]) (q:=q) (r:=M4.length) (a0:=some (.ref t)) (a1:=some d') (a3:=some (.int K)) (a5:=none) (a6:=none) (a7:=none) hz i3 l3 p5 (by simp) (h_ hql);have p6q:M6[q]?=some (.lst (O1.map F.toD)):=by rw[u6.oth q (h_ hql)];exact p5
 have hc1:=aj8 (W:=⟨prog.call (m-1),prog.cls⟩) (M:=M6) r2 r8 (by exact a_ l3 (by decide):O1.length<=100000) p6q;have s04:=s03.trans s4;refine⟨K,M4.length,sz,O1,ie,M6,?_,p6,s04.len,⟨hz,i3,c3,l3,k1,k3',ka,kb,t6⟩,?_⟩
 . simp only[Fn.run,Nj,Ni]
   simp[-a6l,e1,e2,e3,axz,azu,ev,hK,MW.new,e6,r3,r4,hc1,Hy,Hz]
 . refine s04.trans ⟨?_,?_,λa o na h=>?_⟩
   . rw[u6.len];simp
   . obtain⟨n,h,o⟩:=s4.has
     exact⟨n,by rw[u6.oth t (by have:=wz h;exact h_ this)];exact xm h,o⟩
   . rw[u6.oth a (by have:=wz h;exact h_ this)];exact xm h
noncomputable def pD(p:Nat×Nat):D:=.tup [.int p.1,.int p.2]
noncomputable def Meet(hs:List F)(j k:Nat):Prop:=∃f g,hs[j]?=some f/\hs[k]?=some g/\f.b=g.a
structure Ps(hs:List F)(j k:Nat)(ps:List (Nat×Nat)):Prop where
 all:∀p:Nat×Nat,p∈ps↔Meet hs p.1 p.2/\Yx j k p.1 p.2
 len:ps.length<=j*hs.length+k
def Ps.skip(h:Ps hs j k ps)(hf:hs[j]?=some f)(hg:hs[k]?=some g)(n:f.b≠g.a):Ps hs j (k+1) ps:=by
 refine⟨λp=>?_,by have:=h.len;exact a_ this (w_ x_)⟩;rw[h.all p];constructor
 . exact λq=>⟨q.1,by have:=q.2;unfold Yx at *;lia⟩
 . intro q
   refine⟨q.1,?_⟩;have hb:=q.2
   by_cases e:p.1=j/\p.2=k
   . obtain⟨f',g',a,b,c⟩:=q.1
     rw[e.1,hf] at a;rw[e.2,hg] at b;cases a;cases b;exact absurd c n
   . unfold Yx at *;lia
def Ps.put(h:Ps hs j k ps)(hf:hs[j]?=some f)(hg:hs[k]?=some g)(n:f.b=g.a):Ps hs j (k+1) (ps++[(j,k)]):=by
 refine⟨λp=>?_,by have:=h.len;simp;lia⟩;rw[dw,h.all p,qj];constructor
 . rintro(q|q)
   . exact⟨q.1,by have:=q.2;unfold Yx at *;lia⟩
   . subst q;exact⟨⟨f,g,hf,hg,n⟩,by unfold Yx;lia⟩
 . intro q
   by_cases e:p.1=j/\p.2=k
   . right;exact Prod.ext e.1 e.2
   . left;exact⟨q.1,by have:=q.2;unfold Yx at *;lia⟩
def Ps.next(h:Ps hs j hs.length ps):Ps hs (j+1) 0 ps:=by
 refine⟨λp=>?_,by have:=h.len;have e:(j+1)*hs.length=j*hs.length+hs.length:=Nat.succ_mul _ _;exact a_ this (a_ (g_ e) x_)⟩;rw[h.all p];constructor
 . exact λq=>⟨q.1,by have:=q.2;unfold Yx at *;lia⟩
 . intro q
   refine⟨q.1,?_⟩;obtain⟨f,g,a,b,c⟩:=q.1;have:=(ak.mp b).1;have:=q.2;unfold Yx at *;lia
def Yy(f:F)(M:dh):yu (eD f) (.int 0) M=some (.int f.a):=rfl
def Yz(f:F)(M:dh):yu (eD f) (.int 1) M=some (.int f.b):=rfl
def Ud{i:Nat}(h:hs[i]?=some f):yu (Hz hs) (.int i) M=some (eD f):=Jq q_ (by simp[h])
def Qo:v7 .len [Hz hs] M=.ok (.int hs.length) M:=by simp[v7,Bq,Hz]
def N6(x y:D)(i j:Nat)(ρ:Env):(Tg.names [i,j]).put (.tup [x,y]) ρ=some ((ρ.set i (some x)).set j (some y)):=rfl
def acz(hl:hs.length<=5)(hq:M[q]?=some (.lst (ps.map pD)))(hj:hs[j]?=some f)(hk:hs[k]?=some g)(hp:Ps hs j k ps) :
 ∃(M':dh)(ps':List (Nat×Nat)),Br.den W [a0,D.ref q,D.int j,eD f,D.int k,eD g] M=.ok (.next,[a0,some (.ref q),some (.int j),some (eD f),some (.int k),some (eD g)]) M' /\
  M'[q]?=some (.lst (ps'.map pD))/\Ps hs j (k+1) ps'/\Up q M M':=by
 have hjl:=(ak.mp hj).1;have hkl:=(ak.mp hk).1
 by_cases h:f.b=g.a
 . have Ik:(ps.map pD).length<100000:=by
    have:=hp.len;have:j*hs.length<=5*5:=Nat.mul_le_mul (e_ (b_ hjl hl)) hl
    rw[du];lia
   have ap:=G6 (d:=.tup [.int j,.int k]) hq Ik;refine⟨M.set q (.lst ((ps++[(j,k)]).map pD)),ps++[(j,k)],?_,vo hq,hp.put hj hk h,Up.set _ _ _⟩;simp[-eq_int,Br,Yy,Yz,Bs,h,Hc hq,ap,pD]
 . refine⟨M,ps,?_,hq,hp.skip hj hk h,Up.refl q M⟩
   simp[-eq_int,Br,Yy,Yz,Bs,h]
def ac0(hm:1<=m)(hl:hs.length<=5) :
 ∃(M':dh)(ps:List (Nat×Nat)),prog.call m 7 [Hz hs] M=.ok (.ref M.length) M'/\M'[M.length]?=some (.lst (ps.map pD))/\Ps hs hs.length 0 ps/\Up M.length (M++[.lst []]) M':=by
 rw[call_of hm rfl];obtain⟨ρ',M',e,b2,b3,b4,b5,ps,rfl,h1,h2,h3⟩:=T4 (W:=⟨prog.call (m-1),prog.cls⟩) (t:=.names [2,3]) (b:=Ea) (it:=.v 0) (ds:=hs.map eD) (ρ:=[Hz hs,D.ref M.length,none,none,none,none]) (M:=M++[.lst []]) (M1:=M++[.lst []]) (by simp[Hz])
  (λj ρ M'=>∃(b2 b3 b4 b5:Option D)(ps:List (Nat×Nat)),ρ=[some (Hz hs),some (.ref M.length),b2,b3,b4,b5]/\M'[M.length]?=some (.lst (ps.map pD))/\Ps hs j 0 ps/\Up M.length (M++[.lst []]) M')
  ⟨none,none,none,none,[],rfl,by simp,⟨λp=>by simp[Yx],by simp⟩,Up.refl _ _⟩
  (λj x ρ M1 hj hI=>by
   obtain⟨b2,b3,b4,b5,ps,rfl,g1,g2,g3⟩:=hI;obtain⟨f,hf,rfl⟩:∃f,hs[j]?=some f/\eD f=x:=by simpa using hj
   obtain⟨ρ2,M2,e2,c4,c5,ps2,rfl,k1,k2,k3⟩:=T4 (W:=⟨prog.call (m-1),prog.cls⟩) (t:=.names [4,5]) (b:=Br) (it:=.v 0) (ds:=hs.map eD) (ρ:=[Hz hs,D.ref M.length,D.int j,eD f,b4,b5]) (M:=M1) (M1:=M1) (by simp[Hz])
    (λk ρ M'=>∃(b4 b5:Option D)(ps:List (Nat×Nat)),ρ=[some (Hz hs),some (.ref M.length),some (.int j),some (eD f),b4,b5]/\M'[M.length]?=some (.lst (ps.map pD))/\Ps hs j k ps/\Up M.length M1 M')
    ⟨b4,b5,ps,rfl,g1,g2,Up.refl _ _⟩
    (λk y ρ M2 hk hI=>by
     obtain⟨b4,b5,ps,rfl,k1,k2,k3⟩:=hI;obtain⟨g,hg,rfl⟩:∃g,hs[k]?=some g/\eD g=y:=by simpa using hk
     obtain⟨M3,ps3,e3,p3,t3,u3⟩:=acz (W:=⟨prog.call (m-1),prog.cls⟩) (M:=M2) (a0:=some (Hz hs)) hl k1 hf hg k2;exact⟨_,.next,_,M3,N6 _ _ _ _ _,e3,.inl rfl,some (.int k),some (eD g),ps3,rfl,p3,t3,k3.trans u3⟩)
   rw[du] at k2;exact⟨_,.next,_,M2,N6 _ _ _ _ _,by simp[Ea,Jb,e2],.inl rfl,some (.int j),some (eD f),c4,c5,ps2,rfl,k1,k2.next,g3.trans k3⟩)
 rw[du] at h2;refine⟨M',ps,?_,h1,h2,h3⟩;simp[Fn.run,Ly,Lx,MW.new,Jc,e]
noncomputable def bothW(hs:List F)(ie:List (List Kx×D))(x y:Int):Option D:=if x=-1 then some (.int y) else if y=-1 then some (.int x) else vq ie [.inl x,.inl y]
def ahv(hm:1<=m)(hr:M[r]?=some (.dT ie))(h:bothW hs ie x y=some v):prog.call m 6 [.ref r,.int x,.int y] M=.ok v M:=by
 rw[call_of hm rfl];unfold bothW at h
 by_cases hx:x=-1
 . rw[cz hx] at h;cases h
   simp[Fn.run,Ja,Iz,hx]
 . rw[bw hx] at h
   by_cases hy:y=-1
   . rw[cz hy] at h;cases h
     simp[Fn.run,Ja,Iz,hx,hy]
   . rw[bw hy] at h
     simp[Fn.run,Ja,Iz,hx,hy,acn hr (Ys x y),h]
noncomputable def aka(hs:List F)(c:F):Int:=if c∈hs then(pos c hs:Int) else -1
def Ju(hs:List F)(f g:F):ent hs f g=aka hs (f.comp g):=rfl
def ahw(nd:hs.Nodup){i:Nat}(h:hs[i]?=some f):aka hs f=i:=by have m:f∈hs:=ao h;rw[aka,cz m,afx nd h]
def Tc:∀k:List Kx,Ux (amv k)=some k:=by
 intro k;show Z9 (k.map amu)=some k
 induction k with
 |nil=>rfl|cons a l ih=>cases a<;>simp[Z9,amu,Sq,ih]
theorem ac8:∀ie:List (List Kx×D),Du (ie.map λp=>amv p.1)=some (ie.map (·.1))
 |[]=>rfl|p::l=>by simp[Du,Tc,ac8 l]
theorem ac9:∀ps:List (Nat×Nat),Du (ps.map pD)=some (ps.map λp=>ky p.1 p.2)
 |[]=>rfl|p::l=>by simp[Du,pD,ac9 l,ky]
def anx{ie:List (List Kx×D)}(h:vq ie q=some v):∃p∈ie,p.1=q:=by
 unfold vq at h;cases e:ie.find? (λp=>decide (p.1=q)) with
 |none=>rw[e] at h;cases h|some p=>exact⟨p,List.mem_of_find?_eq_some e,by simpa using List.find?_some e⟩
section
variable{sz:Nat->Nat}{K:Nat}{hs:List F}{ie:List (List Kx×D)}(P:Kf sz K hs ie)
include P
theorem Kf.look(hj:hs[j]?=some f)(hk:hs[k]?=some g)(h:f.b=g.a):vq ie (ky j k)=some (.int (ent hs f g)) :=
 P.tb.look j k f g hj hk h (.inl (ak.mp hj).1)
theorem Kf.no(h:¬Meet hs j k):vq ie (ky j k)=none:=by apply aj6;intro p hp e;obtain⟨j',k',f,g,rfl,a,b,c,_⟩:=P.tb.keys p hp;obtain⟨rfl,rfl⟩:=af1 e;exact h ⟨f,g,a,b,c⟩
theorem Kf.kl:ie.length<=25:=by
 have:=P.tb.len;have:hs.length*hs.length<=5*5:=Nat.mul_le_mul P.len P.len
 lia
theorem Kf.plain:Dw (ie.map (·.1))=true:=by have:=P.kl;simp only[Dw,du,aq,dm];refine⟨a_ this (by decide),?_⟩;rw[iz];intro k hk;obtain⟨p,hp,rfl⟩:=bf.mp hk;obtain⟨j,k,f,g,rfl,_⟩:=P.tb.keys p hp;simp[ky]
theorem Kf.sm:afu ie=true:=by
 unfold afu;rw[iz];intro p hp;obtain⟨j,k,f,g,rfl,a,b,_⟩:=P.tb.keys p hp;have:=(ak.mp a).1;have:=(ak.mp b).1;have:=P.len;simp[ky]
 lia
theorem Kf.same(h:Ps hs hs.length 0 ps):Iu (ie.map (·.1)) (ps.map λp=>ky p.1 p.2)=true:=by
 unfold Iu;rw[aq,iz,iz];constructor
 . intro x hx
   obtain⟨p,hp,rfl⟩:=bf.mp hx;obtain⟨j,k,f,g,rfl,a,b,c,d⟩:=P.tb.keys p hp;rw[Aq];exact⟨ky j k,bf.mpr ⟨(j,k),(h.all (j,k)).mpr ⟨⟨f,g,a,b,c⟩,d⟩,rfl⟩,by simp⟩
 . intro y hy
   obtain⟨p,hp,rfl⟩:=bf.mp hy;obtain⟨⟨f,g,a,b,c⟩,d⟩:=(h.all p).mp hp;obtain⟨q,hq,e⟩:=anx (P.look a b c);rw[Aq];exact⟨q.1,bf.mpr ⟨q,hq,rfl⟩,by simp[e]⟩
theorem Kf.Cy(h:c∈hs\/c.Pa):(aka hs c=-1/\c.Pa)\/∃i:Nat,hs[i]?=some c/\aka hs c=i:=by
 by_cases m:c∈hs
 . exact .inr ⟨pos c hs,aan c m,cz m⟩
 . exact .inl ⟨bw m,h.resolve_left m⟩
theorem Kf.anz{j k l:Nat}(hj:hs[j]?=some f)(hk:hs[k]?=some g)(hl:hs[l]?=some h)(e1:f.b=g.a)(e2:g.b=h.a) :
 ∃v:Int,bothW hs ie (ent hs f g) l=some (.int v)/\bothW hs ie j (ent hs g h)=some (.int v):=by
 have mf:=ao hj;have mg:=ao hk;have mh:=ao hl;have of:=P.inv.good f mf;have og:=P.inv.good g mg;have oh:=P.inv.good h mh;have as:=afy (h:=h) of og e1;rw[Ju,Ju];have nj:¬((j:Int)=-1):=by lia
 have nl:¬((l:Int)=-1):=by lia
 rcases P.Cy (P.cl f mf g mg e1) with⟨x1,i1⟩|⟨u,hu,x1⟩
 . have c1:=aao (of.comp og e1) i1
   have ha:f.a=g.b:=i1.1;have left:(f.comp g).comp h=h:=by rw[c1];show(idF sz f.a).comp h=h;rw[ha,e2];exact id_comp oh
   rcases P.Cy (P.cl g mg h mh e2) with⟨x2,i2⟩|⟨w,hw,x2⟩
   . have c2:=aao (og.comp oh e2) i2
     have right:f.comp (g.comp h)=f:=by rw[c2];show f.comp (idF sz g.a)=f;rw[<- e1];exact comp_id of
     have fh:f=h:=by rw[<- right,<- as,left]
     have jl:j=l:=by rw[<- afx P.inv.nd hj,<- afx P.inv.nd hl,fh]
     refine⟨l,by simp[bothW,x1],?_⟩;rw[x2,bothW,bw nj,cz rfl,jl]
   . have nw:¬((w:Int)=-1):=by lia
     refine⟨l,by simp[bothW,x1],?_⟩;rw[x2,bothW,bw nj,bw nw];have:=P.look hj hw (show f.b=(g.comp h).a from e1);rw[Ju,<- as,left,ahw P.inv.nd hl] at this;exact this
 . have nu:¬((u:Int)=-1):=by lia
   have lu:=P.look hu hl (show(f.comp g).b=h.a from e2);rcases P.Cy (P.cl g mg h mh e2) with⟨x2,i2⟩|⟨w,hw,x2⟩
   . have c2:=aao (og.comp oh e2) i2
     have right:f.comp (g.comp h)=f:=by rw[c2];show f.comp (idF sz g.a)=f;rw[<- e1];exact comp_id of
     refine⟨j,?_,?_⟩
     . rw[x1,bothW,bw nu,bw nl]
       rw[Ju,as,right,ahw P.inv.nd hj] at lu;exact lu
     . rw[x2,bothW,bw nj,cz rfl]
   . have nw:¬((w:Int)=-1):=by lia
     refine⟨aka hs ((f.comp g).comp h),?_,?_⟩
     . rw[x1,bothW,bw nu,bw nl];exact lu
     . rw[x2,bothW,bw nj,bw nw]
       have:=P.look hj hw (show f.b=(g.comp h).a from e1);rw[Ju,<- as] at this;exact this
end
def at4(hm:1<=m)(P:Kf sz K hs ie):prog.call m 9 [.int K,Hz hs] M=.ok .non M:=by
 rw[call_of hm rfl];obtain⟨ρ',M',e,⟨b2,rfl⟩,rfl⟩:=acp (W:=⟨prog.call (m-1),prog.cls⟩) (t:=.name 2) (b:=Ey) (it:=.v 1) (ds:=hs.map eD) (ρ:=[D.int K,Hz hs,none]) (M:=M) (M1:=M) (by simp[Hz])
  (λj ρ M'=>(∃b2:Option D,ρ=[some (.int K),some (Hz hs),b2])/\M'=M) ⟨⟨none,rfl⟩,rfl⟩
  (λj x ρ M1 hj hI=>by
   obtain⟨⟨b2,rfl⟩,rfl⟩:=hI;obtain⟨f,hf,rfl⟩:∃f,hs[j]?=some f/\eD f=x:=by simpa using hj
   have mf:=ao hf;have h1:=P.V8 f mf;have h2:=P.Rf f mf;refine⟨_,.next,_,M1,rfl,?_,.inl rfl,⟨some (eD f),rfl⟩,rfl⟩;have h1':(f.a:Int)<K:=m_ h1
   have h2':(f.b:Int)<K:=m_ h2
   have z1:(0:Int)<=(f.a:Int):=q_
   have z2:(0:Int)<=(f.b:Int):=q_
   simp[Ey,Yy,Yz,h1,h2,h1',h2',z1,z2])
 have k1:(1:Int)<=K:=by have:=P.k1;exact n_ this
 have k3:(K:Int)<=3:=by have:=P.k3;exact n_ this
 have l5:¬(5:Int)<(hs.length:Int):=by have:=P.len;lia
 simp[Fn.run,M9,Mz,k1,k3,Qo,l5,J8,e]
def azv{j k:Nat}(hm:1<=m)(P:Kf sz K hs ie)(hj:hs[j]?=some f)(hk:hs[k]?=some g)(h:f.b=g.a):prog.call m 8 [Hz hs,.int (ent hs f g),.int f.a,.int g.b] M=.ok (.bl true) M:=by
 rw[call_of hm rfl,Ju];have mf:=ao hj;have mg:=ao hk;rcases P.Cy (P.cl f mf g mg h) with⟨x1,i1⟩|⟨u,hu,x1⟩
 . have ha:f.a=g.b:=i1.1
   simp[Fn.run,Ew,Eu,x1,ha]
 . have hul:=(ak.mp hu).1
   have nu:¬((u:Int)=-1):=by lia
   have z:(0:Int)<=(u:Int):=q_
   have bdq:(u:Int)<(hs.length:Int):=m_ hul
   have e:xx M (eD (f.comp g)) (.tup [.int f.a,.int g.b])=some true:=by show Qv (Jy M 5) [.int f.a,.int g.b] [.int f.a,.int g.b]=some true;rw[Dz (K8 M 4 _ _) (Dz (K8 M 4 _ _) (show Qv (Jy M 5) [] []=some true from rfl))];simp
   simp[Fn.run,Ew,Eu,x1,nu,z,hul,bdq,Qo,Ud hu,e]
def at5(hm:2<=m)(P:Kf sz K hs ie)(hr:M[r]?=some (.dT ie)):∃M',prog.call m 10 [Hz hs,.ref r] M=.ok .non M'/\Bo M M'/\M'.length=M.length+1:=by
 rw[call_of (a_ (by decide) hm) rfl];obtain⟨M1,ps,e1,p1,t1,u1⟩:=ac0 (M:=M) (m:=m-1) (hs:=hs) (r_ hm) P.len;have k1:Bo M M1:=λa o h=>by rw[u1.oth a (by have:=wz h;exact h_ this)];exact xm h
 have r1:=k1 r _ hr;have hks:(keysOf M1 (.ref r)).bind Du=some (ie.map (·.1)):=by simp only[keysOf,r1,uw,ac8]
 have hkp:(keysOf M1 (.ref M.length)).bind Du=some (ps.map λp=>ky p.1 p.2):=by simp only[keysOf,p1,fc,uw,ac9]
 have Ik:Dw (ps.map λp=>ky p.1 p.2)=true:=by
  have:=t1.len;have:hs.length*hs.length<=5*5:=Nat.mul_le_mul P.len P.len
  simp only[Dw,du,aq,dm];refine⟨by lia,?_⟩;rw[iz];intro k hk;obtain⟨p,hp,rfl⟩:=bf.mp hk;simp[ky]
 have bdr:(Ex.Vv (.v 1) (.v 2)).den ⟨prog.call (m-1),prog.cls⟩ [Hz hs,D.ref r,D.ref M.length,none,none] M1=.ok (.bl false) M1:=by rw[Yp];simp only[ahc,List.getElem?_cons_succ,List.getElem?_cons_zero,Res.Bl,hks,P.plain,hkp,Ik,P.same t1,jx,q9]
 obtain⟨ρ',M',e,⟨b3,b4,rfl⟩,rfl⟩:=Kv (W:=⟨prog.call (m-1),prog.cls⟩) (t:=.names [3,4]) (b:=Gi) (it:=.v 2) (d:=.ref M.length) (ds:=ps.map pD) (ρ:=[Hz hs,D.ref r,D.ref M.length,none,none]) (M:=M1) (M1:=M1) (by simp) (qg p1)
  (λj ρ M'=>(∃b3 b4:Option D,ρ=[some (Hz hs),some (.ref r),some (.ref M.length),b3,b4])/\M'=M1) ⟨⟨none,none,rfl⟩,rfl⟩ (λi ρ M h=>by rw[h.2];exact qg p1)
  (λi x ρ M2 hx hI=>by
   obtain⟨⟨b3,b4,rfl⟩,rfl⟩:=hI;obtain⟨p,hp,rfl⟩:∃p,ps[i]?=some p/\pD p=x:=by simpa using hx
   obtain⟨⟨f,g,a,b,c⟩,d⟩:=(t1.all p).mp (ao hp);refine⟨_,.next,_,M2,N6 _ _ _ _ _,?_,.inl rfl,⟨some (.int p.1),some (.int p.2),rfl⟩,rfl⟩;have lk:=acn r1 (Ys p.1 p.2);rw[show([.inl (p.1:Int),.inl (p.2:Int)]:List Kx)=ky p.1 p.2 from rfl,P.look a b c] at lk;simp[Gi,lk,Ud a,Ud b,Yy,Yz,azv (show 1<=m-1 by exact r_ hm) P a b c])
 refine⟨M',?_,k1,by rw[u1.len];simp⟩;simp[Fn.run,Pg,Pb,e1,bdr,Lz,e]
def at6(hm:2<=m)(P:Kf sz K hs ie)(hr:M[r]?=some (.dT ie)):∃M',prog.call m 11 [Hz hs,.ref r] M=.ok .non M'/\Bo M M'/\M'.length=M.length+1:=by
 rw[call_of (a_ (by decide) hm) rfl];obtain⟨M1,ps,e1,p1,t1,u1⟩:=ac0 (M:=M) (m:=m-1) (hs:=hs) (r_ hm) P.len;have k1:Bo M M1:=λa o h=>by rw[u1.oth a (by have:=wz h;exact h_ this)];exact xm h
 have r1:=k1 r _ hr;have hl:=P.len;obtain⟨ρ',M',e,⟨b3,b4,b5,b6,b7,rfl⟩,rfl⟩:=Kv (W:=⟨prog.call (m-1),prog.cls⟩) (t:=.names [3,4]) (b:=Ez) (it:=.v 2) (d:=.ref M.length) (ds:=ps.map pD) (ρ:=[Hz hs,D.ref r,D.ref M.length,none,none,none,none,none]) (M:=M1) (M1:=M1) (by simp) (qg p1)
  (λj ρ M'=>(∃b3 b4 b5 b6 b7:Option D,ρ=[some (Hz hs),some (.ref r),some (.ref M.length),b3,b4,b5,b6,b7])/\M'=M1) ⟨⟨none,none,none,none,none,rfl⟩,rfl⟩ (λi ρ M h=>by rw[h.2];exact qg p1)
  (λi x ρ M2 hx hI=>by
   obtain⟨⟨b3,b4,b5,b6,b7,rfl⟩,rfl⟩:=hI;obtain⟨p,hp,rfl⟩:∃p,ps[i]?=some p/\pD p=x:=by simpa using hx
   obtain⟨⟨f,g,a,b,c⟩,d⟩:=(t1.all p).mp (ao hp);obtain⟨ρ3,M3,e3,⟨c5,c6,c7,rfl⟩,rfl⟩:=Ax (W:=⟨prog.call (m-1),prog.cls⟩) (t:=.name 5) (b:=Dd) (it:=.blt .len (.o (.v 0))) (n:=hs.length) (ρ:=[Hz hs,D.ref r,D.ref M.length,D.int p.1,D.int p.2,b5,b6,b7]) (M:=M2) (M1:=M2) (by simp[Qo]) (a_ hl (by decide))
    (λj ρ M'=>(∃b5 b6 b7:Option D,ρ=[some (Hz hs),some (.ref r),some (.ref M.length),some (.int p.1),some (.int p.2),b5,b6,b7])/\M'=M2) ⟨⟨b5,b6,b7,rfl⟩,rfl⟩
    (λl ρ M4 hll hI=>by
     obtain⟨⟨b5,b6,b7,rfl⟩,rfl⟩:=hI;have hl':hs[l]?=some hs[l]:=by simp[hll]
     have Xr:=a6s r1 (Ys p.2 l);rw[show([.inl (p.2:Int),.inl (l:Int)]:List Kx)=ky p.2 l from rfl] at Xr
     by_cases q:g.b=hs[l].a
     . rw[P.look b hl' q] at Xr
       obtain⟨v,v1,v2⟩:=P.anz a b hl' c q;have lk1:=acn r1 (Ys p.1 p.2);rw[show([.inl (p.1:Int),.inl (p.2:Int)]:List Kx)=ky p.1 p.2 from rfl,P.look a b c] at lk1;have lk2:=acn r1 (Ys p.2 l);rw[show([.inl (p.2:Int),.inl (l:Int)]:List Kx)=ky p.2 l from rfl,P.look b hl' q] at lk2;refine⟨_,.next,_,M4,rfl,?_,.inl rfl,⟨some (.int l),some (.int v),some (.int v),rfl⟩,rfl⟩;simp[Dd,Xr,lk1,lk2,ahv (show 1<=m-1 by exact r_ hm) r1 v1,ahv (show 1<=m-1 by exact r_ hm) r1 v2]
     . rw[P.no (λ⟨g',h',x,y,z⟩=>by rw[b] at x;rw[hl'] at y;cases x;cases y;exact q z)] at Xr
       refine⟨_,.cont,_,M4,rfl,?_,.inr rfl,⟨some (.int l),b6,b7,rfl⟩,rfl⟩;simp[Dd,Xr])
   refine⟨_,.next,_,M3,N6 _ _ _ _ _,?_,.inl rfl,⟨some (.int p.1),some (.int p.2),c5,c6,c7,rfl⟩,rfl⟩;simp[Ez,J9,e3])
 refine⟨M',?_,k1,by rw[u1.len];simp⟩;simp[Fn.run,Nf,Nb,e1,Ka,e]
noncomputable def Made(n r K:Nat)(hs:List F)(ie:List (List Kx×D))(M:dh):Prop:=M[n]?=some (.ins 2 [(2,.int K),(1,Hz hs),(0,.ref r)])/\M[r]?=some (.dT ie)
def at7(hm:3<=m)(P:Kf sz K hs ie)(hr:M[r]?=some (.dT ie))(hn:M[n]?=some (.ins 2 [])) :
 ∃M' r',prog.call m 0 [.ref n,.int K,Hz hs,.ref r] M=.ok .non M'/\Made n r' K hs ie M'/\M.length<=r'/\r'<M'.length/\(∀(a:Nat)(o:MO),a≠n->M[a]?=some o->M'[a]?=some o):=by
 rw[call_of (a_ (by decide) hm) rfl];have d1:=at4 (M:=M) (m:=m-1) (r_ (a_ (by decide) hm)) P;obtain⟨M1,e1,k1,l1⟩:=at5 (M:=M) (m:=m-1) (r_ hm) P hr;obtain⟨M2,e2,k2,l2⟩:=at6 (M:=M1) (m:=m-1) (r_ hm) P (k1 r _ hr);have k:=k1.trans k2;have n2:=k n _ hn;have r2:=k r _ hr;have hrn:r≠n:=λe=>by rw[e,hn] at hr;cases hr
 have s1:Qz (.ref n) 2 (.int K) M2=some (M2.set n (.ins 2 [(2,.int K)])):=by simp[Qz,n2,Tz]
 have n3:=vo (o:=.ins 2 [(2,.int K)]) n2;have s2:Qz (.ref n) 1 (Hz hs) (M2.set n (.ins 2 [(2,.int K)]))=some (M2.set n (.ins 2 [(2,.int K),(1,Hz hs)])):=by simp[Qz,n3,Tz]
 have n4:=vo (o:=.ins 2 [(2,.int K),(1,Hz hs)]) n2;have r4:(M2.set n (.ins 2 [(2,.int K),(1,Hz hs)]))[r]?=some (.dT ie):=by rw[qx (j0 hrn)];exact r2
 have dc:v7 .dict [.ref r] (M2.set n (.ins 2 [(2,.int K),(1,Hz hs)]))=.ok (.ref M2.length) (M2.set n (.ins 2 [(2,.int K),(1,Hz hs)])++[.dT ie]):=by simp[v7,r4,P.sm,MW.new]
 have n5:(M2.set n (.ins 2 [(2,.int K),(1,Hz hs)])++[.dT ie])[n]?=some (.ins 2 [(2,.int K),(1,Hz hs)]):=xm n4;have s3:Qz (.ref n) 0 (.ref M2.length) (M2.set n (.ins 2 [(2,.int K),(1,Hz hs)])++[.dT ie])=some ((List.set M2 n (MO.ins 2 [(2,.int K),(1,Hz hs)])++[MO.dT ie]).set n (MO.ins 2 [(2,.int K),(1,Hz hs),(0,.ref M2.length)])):=by simp[Qz,n5,Tz]
 have hnl:=wz n2;refine⟨_,M2.length,?_,⟨vo (o:=.ins 2 [(2,.int K),(1,Hz hs),(0,.ref M2.length)]) n5,?_⟩,by lia,by simp,λa o na h=>?_⟩
 . simp[Fn.run,J5,J2,d1,e1,e2,s1,s2,dc,s3]
 . rw[qx (h_ hnl)]
   rw[jb (by simp)];simp
 . rw[qx (j0 na)]
   exact xm (by rw[qx (j0 na)];exact k a o h)
end K12
namespace L2
open PySem PySem.Spec PyProof.Rows
abbrev Key:=Sum Int Str
noncomputable def V9:Key->Value->Bool
 |.inl k,v=>Value.isInt k v|.inr x,v=>Value.isStrOf x v
noncomputable def bds(w:World):Key->Int
 |.inl k=>hashInt k|.inr x=>hashStr w x
theorem Az:∀{k:Key}{v:Value},V9 k v=true->(∃i t,k=Sum.inl i/\v=Value.int i t)\/(∃x t,k=Sum.inr x/\v=Value.str x t)
 |.inl i,v,h=>by
  obtain⟨t,e⟩:=Value.isInt_shape (k:=i) (v:=v) h;exact .inl ⟨i,t,rfl,e⟩
 |.inr x,v,h=>by
  obtain⟨t,e⟩:=Value.isStrOf_shape (x:=x) (v:=v) h;exact .inr ⟨x,t,rfl,e⟩
def akb(i:Int)(t:Tok):V9 (.inl i) (.int i t)=true:=by simp[V9,Value.isInt]
def akc(x:Str)(t:Tok):V9 (.inr x) (.str x t)=true:=by simp[V9,Value.isStrOf]
def azw(a b:Int):decide ((Sum.inl a:Key)=Sum.inl b)=(a==b):=by
 by_cases e:a=b
 . subst e;simp
 . have h:¬(Sum.inl a:Key)=Sum.inl b:=λq=>e (Sum.inl.inj q)
   rw[ph h];exact(qw.mpr e).symm
def azx(a b:Str):decide ((Sum.inr a:Key)=Sum.inr b)=decide (a=b):=by
 by_cases e:a=b
 . subst e;simp
 . have h:¬(Sum.inr a:Key)=Sum.inr b:=λq=>e (Sum.inr.inj q)
   rw[ph h,ph e]
def azy(a:Int)(b:Str):decide ((Sum.inl a:Key)=Sum.inr b)=false:=ph (λq=>nomatch q)
def azz(a:Str)(b:Int):decide ((Sum.inr a:Key)=Sum.inl b)=false:=ph (λq=>nomatch q)
noncomputable def ou(prog:Program)(w:World):PySem.KeyKind prog w Key where
 is:=V9
 hash:=bds w
 inj:=λv a b ha hb=>by
  rcases Az ha with⟨i,t,rfl,rfl⟩|⟨x,t,rfl,rfl⟩
  . rcases Az hb with⟨j,u,rfl,e⟩|⟨y,u,rfl,e⟩
    . injection e with e1 _;rw[e1]
    . exact nomatch e
  . rcases Az hb with⟨j,u,rfl,e⟩|⟨y,u,rfl,e⟩
    . exact nomatch e
    . injection e with e1 _;rw[e1]
 byValue:=λk v h=>by rcases Az h with⟨i,t,rfl,rfl⟩|⟨x,t,rfl,rfl⟩<;>rfl
 pyHash:=λhv h=>by
  rcases Az hv with⟨i,t,rfl,rfl⟩|⟨x,t,rfl,rfl⟩
  . exact wpAny_pyHash_int h
  . exact wpAny_pyHash_str h
 eqBool:=λhu hv h=>by
  rcases Az hu with⟨i,t,rfl,rfl⟩|⟨x,t,rfl,rfl⟩
  . rcases Az hv with⟨j,u,rfl,rfl⟩|⟨y,u,rfl,rfl⟩
    . rw[azw] at h;exact wpAny_eqBool_int h
    . rw[azy] at h;exact SeqAt.EqAt.int_str i t y u _ _ _ _ h
  . rcases Az hv with⟨j,u,rfl,rfl⟩|⟨y,u,rfl,rfl⟩
    . rw[azz] at h;exact SeqAt.EqAt.str_int x t j u _ _ _ _ h
    . rw[azx] at h;exact wpAny_eqBool_str h
 «strs»:=λk x t v h=>by
  rcases Az h with⟨i,u,rfl,e⟩|⟨y,u,rfl,e⟩
  . exact nomatch e
  . injection e with e1 _
    subst e1;cases v<;>rfl
def ada(prog:Program)(w:World)(i:Int)(t:Tok):(ou prog w).is (.inl i) (.int i t)=true:=akb i t
def adb(prog:Program)(w:World)(x:Str)(t:Tok):(ou prog w).is (.inr x) (.str x t)=true:=akc x t
end L2
namespace L2
open PySem PySem.Spec PyProof.Rows
set_option genInjectivity true in
inductive V where
 |non|bl (b:Bool)|int (i:Int)|str (x:Str)|byt (b:Array UInt8)|flt (b:UInt64)|ref (a:Addr)|ty (n:String)
 deriving DecidableEq
def RelV:V->Value->Prop
 |.non,u=>u=Value.none|.bl b,u=>u=Value.bool b|.int i,u=>∃t,u=Value.int i t|.str x,u=>∃t,u=Value.str x t|.byt b,u=>∃t,u=Value.bytes b t|.flt b,u=>∃t,u=Value.float b t|.ref a,u=>u=Value.ref a|.ty n,u=>u=Value.type n
abbrev Vals:List V->List Value->Prop:=Paired RelV
theorem Vals.length(r:Vals xs us):xs.length=us.length:=Paired.length r
theorem Vals.get:∀{xs:List V}{us:Zl}{i:Nat}{x:V},Vals xs us->xs[i]?=some x->∃u,us[i]?=some u/\RelV x u
 |_,_,_,_,.nil,e=>by simp at e|_,_,0,_,.cons r _,e=>by simp at e;subst e;exact⟨_,rfl,r⟩
 |_,_,i+1,x,.cons _ t,e=>by
  obtain⟨u,h1,h2⟩:=Vals.get (i:=i) (x:=x) t (by simpa using e);exact⟨u,by simpa using h1,h2⟩
theorem Vals.set{x:V}{u:Value}(r:RelV x u):∀{xs:List V}{us:Zl}(i:Nat),Vals xs us->Vals (xs.set i x) (us.set i u)
 |_,_,_,.nil=>.nil|_,_,0,.cons _ t=>.cons r t|_,_,i+1,.cons q t=>.cons q (Vals.set r i t)
theorem Vals.append:∀{xs ys:List V}{us ws:Zl},Vals xs us->Vals ys ws->Vals (xs++ys) (us++ws)
 |_,_,_,_,.nil,s=>s|_,_,_,_,.cons r t,s=>.cons r (Vals.append t s)
theorem Vals.take:∀{xs:List V}{us:Zl}(n:Nat),Vals xs us->Vals (xs.take n) (us.take n)
 |_,_,0,_=>.nil|_,_,_+1,.nil=>.nil|_,_,n+1,.cons r t=>.cons r (Vals.take n t)
theorem Vals.drop:∀{xs:List V}{us:Zl}(n:Nat),Vals xs us->Vals (xs.drop n) (us.drop n)
 |_,_,0,r=>r|_,_,_+1,.nil=>.nil|_,_,n+1,.cons _ t=>Vals.drop n t
def Mp:Option V->Option Value->Prop
 |some v,some u=>RelV v u|none,none=>True|_,_=>False
def KV{κ:Type}:List (κ×V)->List (κ×Value)->Prop:=Paired λ(p:κ×V) (q:κ×Value)=>p.1=q.1/\RelV p.2 q.2
noncomputable def kV:Key->V
 |.inl i=>.int i|.inr x=>.str x
inductive HO where
 |lst (xs:List V)
 |tup (xs:List V)
 |dK (ie:List (Key×V))|dT (ie:List (List Key×V))
 |set (S:Int->Bool) (n:Nat)
 |ins (C dx:Addr) (fs:List (Str×V))
 |own (x:Addr)
 |xd (fs:List (Str×V))
 |met (f x:Addr)
 |Im (lo hi:Int)
 |N7 (o:Obj) (u:HO)
 |tbl (ps:U1)
 |ext (φ:Heap->Prop)
abbrev Hp:=Addr->Option HO
noncomputable def upd(H:Hp)(a:Addr)(o:HO):Hp:=λb=>if b=a then some o else H b
def xf:upd H a o a=some o:=by unfold upd;rw[cz rfl]
def j9(h:b≠a):upd H a o b=H b:=by unfold upd;rw[bw h]
def aoa{H:Hp}(h:H a=some o)(h':H b=some u)(d:o≠u):a≠b:=by intro e;subst e;rw[h] at h';exact d (jn h')
def lg{H:Hp}(h:H a=some o)(h':H b=none):a≠b:=by intro e;subst e;rw[h] at h';cases h'
section
variable(P:Program)(w:World)
def X4(h:Heap)(a:Addr)(items:U1):Prop:=∃o,h.get? a=some o/\o.cls=.type "tuple"/\∃n,o.data=.seq items n/\o.dict=none
def X4.is(x:X4 h a items):IsTup h a items:=let ⟨o,h1,h2,n,h3,_⟩:=x;⟨o,h1,h2,n,h3⟩
def X4.new(h:Heap)(items:U1):X4 (h.push { cls:=.type "tuple",data:=.seq items }) h.objs.size items:=⟨_,bu _ rfl,rfl,_,rfl,rfl⟩
def Bj(H:Hp)(h:Heap)(a:Addr):HO->Prop
 |.lst xs=>xs.length<=sizeLine/\∃(yw:Zl)(n:Nat),Vals xs yw/\h.get? a=some { cls:=.type "list",data:=.seq yw.toArray n }|.tup xs=>xs.length<=sizeLine/\∃yw:List Value,Vals xs yw/\X4 h a yw.toArray|.dK ie=>ie.length<=sizeLine/\(a==sysModules)=false/\∃vs,KV ie vs/\h.DictOf (ou P w) a vs
 |.dT ie=>ie.length<=sizeLine/\(a==sysModules)=false/\∃xs:List (List Key×Addr×Value),
  Paired (λ(p:List Key×V) (q:List Key×Addr×Value)=>p.1=q.1/\H q.2.1=some (.tup (p.1.map kV))/\RelV p.2 q.2.2) ie xs /\
  ∃o es ep,h.get? a=some o/\o.ExactDict/\o.data=.dict es ep/\es.toList=xs.map (entryOfKey (tupleKind (ou P w)))/\(xs.map (·.1)).Nodup
 |.set S n=>h.SetOf (intKind P w) a S n
 |.ins C dx fs=>H dx=some (.own a)/\fs.length<=1000/\dx≠a/\h.get? a=some (PySem.W.instObj C dx) /\
  ∃mA,h.Ns1 dx mA/\(∀f,Mp (fs.lookup f) (mA f))/\PySem.Within mA (fs.map (·.1))
 |.own _=>∃o,h.get? a=some o|.xd fs=>∃mA,h.Ns1 a mA/\∀f,Mp (fs.lookup f) (mA f)|.Im lo hi=>∃t u v,h.get? a=some { cls:=.type "range",data:=.fields #[.int lo t,.int hi u,.int 1 v] }|.N7 o u=>h.get? a=some o/\Bj H h a u|.tbl ps=>h.get? a=some { cls:=.none,data:=.fields ps }|.met f x=>h.get? a=some (PySem.W.methodObj (.ref f) (.ref x))|.ext φ=>φ h/\(∃o,h.get? a=some o)/\∀h1 h2:Heap,φ h1->(∀o,h1.get? a=some o->h2.get? a=some o)->φ h2
def Py(H:Hp)(h:Heap):Prop:=∀a o,H a=some o->Bj P w H h a o
end
theorem Bj.lt(x:Bj P w H h a o):a<h.objs.size:=by
 cases o with
 |lst xs=>obtain⟨_,_,_,_,e⟩:=x;exact az e
 |tup xs=>obtain⟨_,_,_,p⟩:=x;exact(X4.is p).lt
 |dK ie=>obtain⟨_,_,_,_,o,_,_,e,_⟩:=x;exact az e
 |dT ie=>obtain⟨_,_,_,_,o,_,_,e,_⟩:=x;exact az e
 |set S n=>obtain⟨o,_,_,_,e,_⟩:=x;exact az e
 |ins C dx fs=>obtain⟨_,_,_,e,_⟩:=x;exact az e
 |own y=>obtain⟨_,e⟩:=x;exact az e
 |xd fs=>obtain⟨_,⟨_,_,_,e,_⟩,_⟩:=x;exact az e
 |Im lo hi=>obtain⟨_,_,_,e⟩:=x;exact az e
 |N7 ob u=>obtain⟨e,_⟩:=x;exact az e
 |tbl ps=>exact az (show h.get? a=some _ from x)
 |met f y=>exact az (show h.get? a=some _ from x)
 |ext φ=>obtain⟨_,⟨_,e⟩,_⟩:=x;exact az e
theorem Paired.az1{α β:Type}{F G:α->β->Prop}:∀{l₁:List α}{l₂:List β},Paired F l₁ l₂->(∀a b,F a b->G a b)->Paired G l₁ l₂
 |_,_,.nil,_=>.nil|_,_,.cons r t,f=>.cons (f _ _ r) (Paired.az1 t f)
def Bj.stay(x:Bj P w H h a o)(k:∀b u,(b=a\/H b=some (.own a))->h.get? b=some u->h'.get? b=some u)(ho:∀b,H b=some (.own a)->H' b=some (.own a))(ht:∀b xs,H b=some (.tup xs)->H' b=some (.tup xs)):Bj P w H' h' a o:=by
 induction o with
 |lst xs=>obtain⟨z,yw,n,r,e⟩:=x;exact⟨z,yw,n,r,k _ _ (.inl rfl) e⟩
 |tup xs=>obtain⟨z,yw,r,ob,e,c⟩:=x;exact⟨z,yw,r,ob,k _ _ (.inl rfl) e,c⟩
 |dK ie=>obtain⟨z,y,vs,r,ob,es,ep,e,c⟩:=x;exact⟨z,y,vs,r,ob,es,ep,k _ _ (.inl rfl) e,c⟩
 |dT ie =>
  obtain⟨z,y,xs,r,ob,es,ep,e,c⟩:=x;exact⟨z,y,xs,Paired.az1 r λp q z=>⟨z.1,ht _ _ z.2.1,z.2.2⟩,ob,es,ep,k _ _ (.inl rfl) e,c⟩
 |set S n=>obtain⟨ob,es,ep,t,e,c⟩:=x;exact⟨ob,es,ep,t,k _ _ (.inl rfl) e,c⟩
 |ins C dx fs =>
  obtain⟨d,z,ne,e,mA,⟨od,es,ep,e2,c⟩,r⟩:=x;exact⟨ho _ d,z,ne,k _ _ (.inl rfl) e,mA,⟨od,es,ep,k _ _ (.inr d) e2,c⟩,r⟩
 |own y=>obtain⟨ob,e⟩:=x;exact⟨ob,k _ _ (.inl rfl) e⟩
 |xd fs=>obtain⟨mA,⟨od,es,ep,e,c⟩,r⟩:=x;exact⟨mA,⟨od,es,ep,k _ _ (.inl rfl) e,c⟩,r⟩
 |Im lo hi=>obtain⟨t,u,v,e⟩:=x;exact⟨t,u,v,k _ _ (.inl rfl) e⟩
 |N7 ob u ih=>obtain⟨e,q⟩:=x;exact⟨k _ _ (.inl rfl) e,ih q⟩
 |tbl ps =>
  have e:h.get? a=some { cls:=.none,data:=.fields ps }:=x;show h'.get? a=some { cls:=.none,data:=.fields ps };exact k a _ (.inl rfl) e
 |met f y =>
  have e:h.get? a=some (PySem.W.methodObj (.ref f) (.ref y)):=x;show h'.get? a=some (PySem.W.methodObj (.ref f) (.ref y));exact k a _ (.inl rfl) e
 |ext φ=>obtain⟨p,⟨o,e⟩,st⟩:=x;exact⟨st _ _ p λo q=>k _ _ (.inl rfl) q,⟨o,k _ _ (.inl rfl) e⟩,st⟩
theorem Py.lt(x:Py P w H h)(e:H a=some o):a<h.objs.size:=(x a o e).lt
def Py.fresh(x:Py P w H h)(e:h.objs.size<=a):H a=none:=by
 cases q:H a with
 |none=>rfl|some u=>exact absurd (gm (x.lt q) e) (kh _)
def Py.kept(x:Py P w H h)(k:∀b u,h.get? b=some u->h'.get? b=some u):Py P w H h':=λa o e =>
 (x a o e).stay (λb u _ q=>k b u q) (λ_ q=>q) λ_ _ q=>q
def Py.laid(x:Py P w H h)(k:∀b u,h.get? b=some u->h'.get? b=some u)(hp:h.objs.size<=a)(new:Bj P w (upd H a o) h' a o):Py P w (upd H a o) h':=λb u e=>by
 have hn:=x.fresh hp
 by_cases hb:b=a
 . subst hb;rw[xf] at e;cases e;exact new
 . rw[j9 hb] at e
   exact(x b u e).stay (λc v _ q=>k c v q) (λc q=>by rw[j9 (lg q hn)];exact q) λc xs q=>by rw[j9 (lg q hn)];exact q
def Rd(H:Hp)(a:Addr)(u:HO):Prop:=H a=some u\/∃o,H a=some (.N7 o u)
def Rd.ok(r:Rd H a u)(x:Py P w H h):Bj P w H h a u:=by
 rcases r with r|⟨o,r⟩
 . exact x a u r
 . obtain⟨_,q⟩:=x a _ r
   exact q
def Mut:Option HO->Prop
 |some (.lst _)=>True|some (.dK _)=>True|some (.dT _)=>True|some (.set _ _)=>True|some (.ins _ _ _)=>True|some (.ext _)=>True|_=>False
def Py.write(ok:Py P w H h)(mu:Mut (H x))(he:e=x\/H e=some (.own x))(k:∀b u,b≠e->h.get? b=some u->h'.get? b=some u)(heo:∃u,h'.get? e=some u)(new:Bj P w (upd H x o') h' x o'):Py P w (upd H x o') h':=λb u q=>by
 have a6x:∀c y,H c=some (.own y)->c≠x:=λc y r z=>by subst z;rw[r] at mu;exact mu
 have bdt:∀c xs,H c=some (.tup xs)->c≠x:=λc xs r z=>by subst z;rw[r] at mu;exact mu
 by_cases hb:b=x
 . subst hb;rw[xf] at q;cases q;exact new
 . rw[j9 hb] at q
   by_cases hbe:b=e
   . have q':H b=some (.own x):=by
      rcases he with z|z
      . exact absurd (hbe.trans z) hb
      . rw[hbe];exact z
     rw[q] at q';cases q';obtain⟨v,hv⟩:=heo;exact⟨v,by rw[hbe];exact hv⟩
   . refine(ok b u q).stay (λc v hc r=>k c v ?_ r) (λc r=>by rw[j9 (a6x c b r)];exact r) λc xs r=>by rw[j9 (bdt c xs r)];exact r
     rcases hc with rfl|hc
     . exact hbe
     . rintro rfl
       rcases he with z|z
       . exact a6x c b hc z
       . rw[hc] at z;cases z;exact hb rfl
structure Un(fs ex:X9)(H H':Hp)(h h':Heap):Prop where
 keep:∀b o,h.get? b=some o->H b=none->b∉fs->b∉ex->h'.get? b=some o
 slot:∀b o,h.get? b=some o->H b=none->b∈fs->b∉ex->∃sl,h'.get? b=some { o with slots:=sl }
 free:∀b o,h.get? b=some o->H b=none->b∉ex->H' b=none
 there:∀b o,h.get? b=some o->b∉ex->∃o',h'.get? b=some o'
 Wa:∀b xs,H b=some (.tup xs)->H' b=some (.tup xs)
 aau:∀b o u,H b=some (.N7 o u)->H' b=some (.N7 o u)
 ade:∀b ps,H b=some (.tbl ps)->∃more,H' b=some (.tbl (ps++more))
def Un.any(u:Un fs ex H H1 h h1)(q:h.get? b=some ob)(n:H b=none)(hx:b∉ex):∃sl,h1.get? b=some { ob with slots:=sl }:=by
 by_cases hb:b∈fs
 . exact u.slot b ob q n hb hx
 . exact⟨ob.slots,u.keep b ob q n hb hx⟩
def Un.kept(k:∀b u,h.get? b=some u->h'.get? b=some u):Un fs ex H H h h' :=
 ⟨λb ob q _ _ _=>k b ob q,λb ob q _ _ _=>⟨ob.slots,k b ob q⟩,λ_ _ _ n _=>n,λb ob q _=>⟨ob,k b ob q⟩,λ_ _ q=>q,λ_ _ _ q=>q,λ_ ps q=>⟨#[],by rw[q];simp⟩⟩
def Un.refl:Un fs ex H H h h:=Un.kept λ_ _ q=>q
theorem Un.laid(k:∀b u,h.get? b=some u->h'.get? b=some u)(hp:h.objs.size<=a)(hn:H a=none):Un fs ex H (upd H a o) h h' where
 keep:=λb u q _ _ _=>k b u q
 slot:=λb u q _ _ _=>⟨u.slots,k b u q⟩
 free:=λb u q n _=>by rw[j9 (dz (gm (az q) hp))];exact n
 there:=λb u q _=>⟨u,k b u q⟩
 Wa:=λb xs q=>by rw[j9 (lg q hn)];exact q
 aau:=λb u xs q=>by rw[j9 (lg q hn)];exact q
 ade:=λb ps q=>⟨#[],by rw[j9 (lg q hn),q];simp⟩
def Un.write(mu:Mut (H x))(he:e=x\/H e=some (.own x))(k:∀b u,b≠e->h.get? b=some u->h'.get? b=some u)(heo:∃u,h'.get? e=some u):Un fs ex H (upd H x o) h h':=by
 have hx:∀b,H b=none->b≠x:=λb n z=>by subst z;rw[n] at mu;exact mu
 have hb:∀b,H b=none->b≠e:=λb n z=>by
  subst z;rcases he with r|r
  . exact hx b n r
  . rw[n] at r;cases r
 have hm:∀b u,H b=some u->¬Mut (some u)->b≠x:=λb u q nm z=>by subst z;rw[q] at mu;exact nm mu
 refine⟨λb u q n _ _=>k b u (hb b n) q,λb u q n _ _=>⟨u.slots,k b u (hb b n) q⟩,λb u q n _=>by rw[j9 (hx b n)];exact n,λb u q _=>?_,
  λb xs q=>by rw[j9 (hm b _ q λz=>z)];exact q,λb u xs q=>by rw[j9 (hm b _ q λz=>z)];exact q,λb ps q=>⟨#[],by rw[j9 (hm b _ q λz=>z),q];simp⟩⟩
 by_cases hbe:b=e
 . subst hbe;exact heo
 . exact⟨u,k b u hbe q⟩
noncomputable def trk(h:Heap)(H:Hp):List Addr:=(List.range h.objs.size).filter λa=>(H a).isSome
noncomputable def aav(h:Heap)(H:Hp):Heap:=PySem.W.hideAll h (trk h H)
def akd(h:Heap)(H:Hp):(aav h H).objs.size=h.objs.size:=PySem.W.hideAll_size _ _
def aob(e:h.get? b=some o)(n:H b=none):(aav h H).get? b=some o :=
 PySem.W.hideAll_get _ e λhm=>by have q:(H b).isSome=true:=(w5.mp hm).2;rw[n] at q;simp at q
def at8(e:(aav h H).get? b=some o):h.get? b=some o/\H b=none:=by
 have e':h.get? b=some o:=PySem.W.of_hideAll (trk h H) e;refine⟨e',?_⟩;cases q:H b with
 |none=>rfl
 |some x =>
  have hm:b∈trk h H:=w5.mpr ⟨je.mpr (az e'),by simp[q]⟩;have z:(aav h H).get? b=none:=PySem.W.hideAll_none (trk h H) hm;rw[z] at e;cases e
end L2
namespace L2
open PySem PySem.Spec PyProof.Rows
structure Mod(K:Fg)(mg:Zs)(base:Heap):Prop where
 kin:K.In base
 glob:base.Ns mainGlobals mg
 blt:∃mb,base.Ns builtinsNs mb/\∀x:Str,x≠"__name__" -> mb x=bootBuiltins x
 nolimit:base.NoLimit
structure Cx where
 prog:Program
 w:World
 K:Fg
 mg:Str->Option Value
 base:Heap
 A:Around
 N:List Str
 s₀:Shared
 H₀:Hp
 env:Env
 outer:List Env
 stack:List Env
 ex:List Addr
 fn:Str->Bool
 calm:Bool
 pn:List (Addr×Obj)
 xe:Value->Shared->Prop
noncomputable def frs(l:List Env):List Addr:=l.filterMap (·.frame)
noncomputable abbrev Cx.fs(X:Cx):List Addr:=frs X.outer
def Vis(sc:Scope)(x:Str):Prop:=sc.names.lookup x=some .local\/sc.names.lookup x=some .cell\/sc.names.lookup x=some .free
def Loc(sc:Scope)(x:Str):Prop:=sc.names.lookup x=some .local\/sc.names.lookup x=some .cell
def Look(env:Env)(h:Heap)(m:Zs)(x:Str)(u:Value):Prop :=
 (env.kindOf x=some .local/\m x=some u)\/((env.kindOf x=some .cell\/env.kindOf x=some .free)/\∃c,env.cells.lookup x=some c/\h.IsCell c (some u))
structure Cx.Ok(X:Cx):Prop where
 mod:Mod X.K X.mg X.base
 kind:X.env.scope.kind=.function
 glob:X.env.globals=mainGlobals
 blt:X.env.builtins=builtinsNs
 above:X.s₀.heap.objs.size<=X.env.locals
 inj:∀x y c,X.env.cells.lookup x=some c->X.env.cells.lookup y=some c->x=y
 has:∀x,(X.env.kindOf x=some .cell\/X.env.kindOf x=some .free)->∃c,X.env.cells.lookup x=some c
 cab:∀x c,X.fn x=true->X.env.cells.lookup x=some c->X.s₀.heap.objs.size<=c
 hd:X.calm=true->X.A.handled=none
 frames:X.A.frames=some X.stack
 stk:X.stack=X.outer\/(X.stack=X.env::X.outer/\X.env.frame=some X.env.locals)
 exf:∀b∈X.ex,b≠X.env.locals/\∀x c,X.env.cells.lookup x=some c->c≠b
 bs:∀b o,X.base.get? b=some o->X.s₀.heap.get? b=some o/\X.H₀ b=none
 bsz:X.base.objs.size<=X.s₀.heap.objs.size
 aod:∀b o,X.base.get? b=some o->b∉X.ex
 aua:∀b∈X.ex,b∉X.fs
 U3:X.s₀.heap.FunFrames X.base X.outer
 frf:∀b∈X.fs,X.H₀ b=none
structure Inv(X:Cx)(pins:Zp)(σ:List (Option V))(H:Hp)(s:Shared):Prop where
 ok:X.Ok
 os:s.os=X.s₀.os
 bare:AllBare s.gens
 base:Un X.fs X.ex X.H₀ H X.s₀.heap s.heap
 loc:∃m,s.heap.Ns X.env.locals m/\∀(i:Nat)(x:Str)(v:V),X.N[i]?=some x->σ[i]?=some (some v)->Vis X.env.scope x->∃u,RelV v u/\Look X.env s.heap m x u
 cell:∀x c,X.env.cells.lookup x=some c->∃v,s.heap.IsCell c v
 free:H X.env.locals=none
 N8:∀x c,X.env.cells.lookup x=some c->H c=none
 pin:∀p∈X.pn++pins,s.heap.get? p.1=some p.2/\H p.1=none/\p.1≠X.env.locals/\p.1∉X.fs/\∀v,p.2.data≠.cell v
 Am:Py X.prog X.w H s.heap
 len:σ.length=X.N.length
def Cx.Ok.bdu{X:Cx}(ok:X.Ok)(e:X.base.get? b=some o):b∉X.fs:=λhb=>by have:=(ok.U3.mem hb).1;rw[e] at this;cases this
theorem Inv.bs(I:Inv X pins σ H s):∀b o,X.base.get? b=some o->s.heap.get? b=some o/\H b=none:=λb o e =>
 ⟨I.base.keep b o (I.ok.bs b o e).1 (I.ok.bs b o e).2 (I.ok.bdu e) (I.ok.aod b o e),I.base.free b o (I.ok.bs b o e).1 (I.ok.bs b o e).2 (I.ok.aod b o e)⟩
def Inv.bk(I:Inv X pins σ H s):∀b o,X.base.get? b=some o->s.heap.get? b=some o:=λb o e=>(I.bs b o e).1
theorem Inv.mod(I:Inv X pins σ H s):Mod X.K X.mg X.base:=I.ok.mod
def Inv.U4(I:Inv X pins σ H s):X.K.In s.heap:=I.ok.mod.kin.keeps I.bk
theorem Inv.lt(I:Inv X pins σ H s):X.env.locals<s.heap.objs.size:=let ⟨_,hn,_⟩:=I.loc;hn.lt
def Inv.sz(I:Inv X pins σ H s):X.s₀.heap.objs.size<=s.heap.objs.size:=gn I.ok.above (zp I.lt)
def Inv.az5(I:Inv X pins σ H s)(h:s.heap.objs.size<=a):a∉X.fs:=λhb=>by obtain⟨_,o,ho,_⟩:=I.ok.U3.mem hb;exact absurd (gm (az ho) (gn I.sz h)) (kh _)
def Inv.cne(I:Inv X pins σ H s):∀x c,X.env.cells.lookup x=some c->c≠X.env.locals:=λx c e z=>by obtain⟨v,o,ho,hd⟩:=I.cell x c e;obtain⟨m,⟨o',es,ep,ho',hd',_⟩,_⟩:=I.loc;rw[z,ho'] at ho;cases ho;rw[hd'] at hd;cases hd
theorem Inv.U3(I:Inv X pins σ H s):s.heap.FunFrames X.base X.outer:=by
 have all:∀(l:List Env),(∀b∈frs l,b∈X.fs)->X.s₀.heap.FunFrames X.base l->s.heap.FunFrames X.base l:=by
  intro l
  induction l with
  |nil=>intro _ _;trivial
  |cons env r ih =>
   intro hs hl;obtain⟨hk,⟨L,o,hf,hn,ho,hd⟩,hr⟩:=hl;have hL:L∈X.fs:=hs L (by unfold frs;rw[List.filterMap_cons,hf];exact di);obtain⟨sl,e⟩:=I.base.slot L o ho (I.ok.frf L hL) hL λz=>I.ok.aua L z hL
   exact⟨hk,⟨L,_,hf,hn,e,hd⟩,ih (λb hb=>hs b (by unfold frs;rw[List.filterMap_cons,hf];exact bc _ hb)) hr⟩
 exact all X.outer (λ_ hb=>hb) I.ok.U3
theorem Inv.stack(I:Inv X pins σ H s):s.heap.FunFrames X.base X.stack:=by
 rcases I.ok.stk with e|⟨e,hf⟩
 . rw[e];exact I.U3
 . rw[e]
   obtain⟨m,hn,_⟩:=I.loc;refine .cons (by rw[I.ok.kind];decide) hf hn ?_ I.U3;exact Heap.get?_none_of_le (gn I.ok.bsz I.ok.above)
def Inv.aaw(I:Inv X pins σ H s):∀b∈frs X.stack,b∈X.env.locals::X.fs:=λb hb=>by
 rcases I.ok.stk with e|⟨e,hf⟩
 . rw[e] at hb;exact bc _ hb
 . rw[e] at hb
   unfold frs at hb;rw[List.filterMap_cons,hf] at hb;exact hb
def Inv.ahx(I:Inv X pins σ H s):∀b∈frs X.stack,H b=none:=λb hb=>by
 rcases bz.mp (I.aaw b hb) with e|hb
 . rw[e];exact I.free
 . obtain⟨_,o,ho,_⟩:=I.ok.U3.mem hb
   exact I.base.free b o ho (I.ok.frf b hb) λz=>I.ok.aua b z hb
def Inv.step{ch:X9}(I:Inv X pins σ H s)(hch:∀b∈ch,(b∈X.ex\/X.s₀.heap.objs.size<=b)/\b≠X.env.locals/\(∀x c,X.env.cells.lookup x=some c->c≠b)/\∀p∈X.pn++pins,p.1≠b)(keep:∀b o,b≠X.env.locals->b∉X.fs->b∉ch->s.heap.get? b=some o->H b=none->h'.get? b=some o)(slot:∀b o,b≠X.env.locals->b∈X.fs->b∉ch->s.heap.get? b=some o->H b=none->∃sl,h'.get? b=some { o with slots:=sl })(free:∀b o,b∉ch->s.heap.get? b=some o->H b=none->H' b=none)(there:∀b o,b∉ch->s.heap.get? b=some o->∃o',h'.get? b=some o')(Wa:∀b xs,H b=some (.tup xs)->H' b=some (.tup xs))(aau:∀b o u,H b=some (.N7 o u)->H' b=some (.N7 o u))(ade:∀b ps,H b=some (.tbl ps)->∃more,H' b=some (.tbl (ps++more)))(ns:∀m,s.heap.Ns X.env.locals m->h'.Ns X.env.locals m)(Am:Py X.prog X.w H' h')(hg:AllBare g') :
 Inv X pins σ H' { s with heap:=h',gens:=g',drawn:=d',toks:=t' }:=by
 have neL:∀b o,X.s₀.heap.get? b=some o->b≠X.env.locals:=λb o e=>dz (gm (az e) I.ok.above)
 have neC:∀b o,X.s₀.heap.get? b=some o->b∉X.ex->b∉ch:=λb o e hx hb=>by
  rcases(hch b hb).1 with z|z
  . exact hx z
  . exact absurd (gm (az e) z) (kh _)
 have cellK:∀x c,X.env.cells.lookup x=some c->∀v,s.heap.IsCell c v->h'.IsCell c v:=λx c e v ⟨o,ho,hd⟩=>by
  have nch:c∉ch:=λz=>(hch c z).2.2.1 x c e rfl
  by_cases hc:c∈X.fs
  . obtain⟨sl,q⟩:=slot c o (I.cne x c e) hc nch ho (I.N8 x c e)
    exact⟨_,q,hd⟩
  . exact⟨o,keep c o (I.cne x c e) hc nch ho (I.N8 x c e),hd⟩
 refine⟨I.ok,I.os,hg,⟨λb o e n hb hx=>?_,λb o e n hb hx=>?_,λb o e n hx=>?_,λb o e hx=>?_,λb xs e=>Wa b xs (I.base.Wa b xs e),λb o xs e=>aau b o xs (I.base.aau b o xs e),λb ps e=>?_⟩,?_,λx c e=>?_,?_,λx c e=>?_,λp hp=>?_,Am,I.len⟩
 . exact keep b o (neL b o e) hb (neC b o e hx) (I.base.keep b o e n hb hx) (I.base.free b o e n hx)
 . obtain⟨sl,e1⟩:=I.base.slot b o e n hb hx
   obtain⟨sl',e2⟩:=slot b _ (neL b o e) hb (neC b o e hx) e1 (I.base.free b o e n hx);exact⟨sl',e2⟩
 . obtain⟨o',e1⟩:=I.base.there b o e hx
   exact free b o' (neC b o e hx) e1 (I.base.free b o e n hx)
 . obtain⟨o',e1⟩:=I.base.there b o e hx
   exact there b o' (neC b o e hx) e1
 . obtain⟨m1,e1⟩:=I.base.ade b ps e
   obtain⟨m2,e2⟩:=ade b _ e1;exact⟨m1++m2,by rw[e2,Array.append_assoc]⟩
 . obtain⟨m,hn,hl⟩:=I.loc
   refine⟨m,ns m hn,λi x v e1 e2 e3=>?_⟩;obtain⟨u,r,l⟩:=hl i x v e1 e2 e3;refine⟨u,r,?_⟩;rcases l with l|⟨k,c,e,z⟩
   . exact .inl l
   . exact .inr ⟨k,c,e,cellK x c e _ z⟩
 . obtain⟨v,z⟩:=I.cell x c e
   exact⟨v,cellK x c e v z⟩
 . obtain⟨m,⟨o,_,_,ho,_⟩,_⟩:=I.loc
   exact free _ o (λz=>(hch _ z).2.1 rfl) ho I.free
 . obtain⟨v,o,ho,hd⟩:=I.cell x c e
   exact free c o (λz=>(hch c z).2.2.1 x c e rfl) ho (I.N8 x c e)
 . obtain⟨e,n,ne,nf,d⟩:=I.pin p hp
   have nch:p.1∉ch:=λz=>(hch p.1 z).2.2.2 p hp rfl
   exact⟨keep p.1 p.2 ne nf nch e n,free p.1 p.2 nch e n,ne,nf,d⟩
def Inv.un(I:Inv X pins σ H s)(u:Un X.fs [] H H' s.heap h')(Am:Py X.prog X.w H' h'):Inv X pins σ H' { s with heap:=h',toks:=t' }:=by
 obtain⟨m,⟨o,es,ep,ho,r⟩,_⟩:=id I.loc;obtain⟨sl,hL⟩:=u.any ho I.free (by simp);exact I.step (g':=s.gens) (d':=s.drawn) (ch:=[]) (λ_ z=>nomatch z) (λb o _ hb _ e n=>u.keep b o e n hb (by simp)) (λb o _ hb _ e n=>u.slot b o e n hb (by simp)) (λb o _ e n=>u.free b o e n (by simp)) (λb o _ e=>u.there b o e (by simp)) u.Wa u.aau u.ade (λm' hm=>by
  obtain⟨o',es',ep',ho',r'⟩:=hm;rw[ho] at ho';cases ho';exact⟨_,es',ep',hL,r'⟩) Am I.bare
def Inv.call(I:Inv X pins σ H s)(u:Un (frs X.stack) ch H H' s.heap h')(Am:Py X.prog X.w H' h')(hg:AllBare g')(hch:∀b∈ch,(b∈X.ex\/X.s₀.heap.objs.size<=b)/\b≠X.env.locals/\(∀x c,X.env.cells.lookup x=some c->c≠b)/\∀p∈X.pn++pins,p.1≠b) :
 Inv X pins σ H' { s with heap:=h',gens:=g',drawn:=d',toks:=t' }:=by
 obtain⟨m,⟨o,es,ep,ho,r⟩,_⟩:=id I.loc;obtain⟨sl,hL⟩:=u.any ho I.free λz=>(hch _ z).2.1 rfl
 exact I.step (ch:=ch) hch (λb o hL hb hc e n=>u.keep b o e n (λz=>(bz.mp (I.aaw b z)).elim hL hb) hc) (λb o _ _ hc e n=>u.any e n hc) (λb o hc e n=>u.free b o e n hc) (λb o hc e=>u.there b o e hc) u.Wa u.aau u.ade (λm' hm=>by
  obtain⟨o',es',ep',ho',r'⟩:=hm;rw[ho] at ho';cases ho';exact⟨_,es',ep',hL,r'⟩) Am hg
def Inv.turned(I:Inv X pins σ H s)(k:∀b o,b≠it->s.heap.get? b=some o->h'.get? b=some o)(hn:H it=none)(hL:it≠X.env.locals)(h1:it∈X.ex\/X.s₀.heap.objs.size<=it)(h2:∀x c,X.env.cells.lookup x=some c->c≠it)(h3:∀p∈X.pn++pins,p.1≠it):Inv X pins σ H { s with heap:=h',toks:=t' }:=by
 have nit:∀b u,H b=some u->b≠it:=λb u e z=>by rw[z,hn] at e;cases e
 refine I.step (g':=s.gens) (d':=s.drawn) (ch:=[it]) (λb hb=>?_) (λb o _ _ hc e _=>k b o (λz=>hc (by simp[z])) e) (λb o _ _ hc e _=>⟨o.slots,k b o (λz=>hc (by simp[z])) e⟩) (λ_ _ _ _ n=>n)
  (λb o hc e=>⟨o,k b o (λz=>hc (by simp[z])) e⟩) (λ_ _ e=>e) (λ_ _ _ e=>e) (λb ps e=>⟨#[],by rw[e];simp⟩) (λm hm=>?_) (λb u e=>?_) I.bare
 . have e:b=it:=by simpa using hb
   subst e;exact⟨h1,hL,h2,h3⟩
 . obtain⟨o,es,ep,ho,r⟩:=hm
   exact⟨o,es,ep,k _ o (j0 hL) ho,r⟩
 . refine(I.Am b u e).stay (λc v hc q=>k c v ?_ q) (λ_ q=>q) λ_ _ q=>q
   rcases hc with z|z
   . rw[z];exact nit b u e
   . exact nit c _ z
def Inv.tok(I:Inv X pins σ H s)(t:Nat):Inv X pins σ H { s with toks:=t }:=I.un (h':=s.heap) (t':=t) Un.refl I.Am
theorem Inv.kept(I:Inv X pins σ H s)(k:∀b u,s.heap.get? b=some u->h'.get? b=some u):Inv X pins σ H { s with heap:=h',toks:=t' }:=I.un (Un.kept k) (I.Am.kept k)
theorem Inv.laid(I:Inv X pins σ H s)(k:∀b u,s.heap.get? b=some u->h'.get? b=some u)(hp:s.heap.objs.size<=a)(new:Bj X.prog X.w (upd H a o) h' a o) :
 Inv X pins σ (upd H a o) { s with heap:=h',toks:=t' }:=I.un (Un.laid k hp (I.Am.fresh hp)) (I.Am.laid k hp new)
theorem Inv.write(I:Inv X pins σ H s)(mu:Mut (H x))(he:e=x\/H e=some (.own x))(k:∀b u,b≠e->s.heap.get? b=some u->h'.get? b=some u)(heo:∃u,h'.get? e=some u)(new:Bj X.prog X.w (upd H x o) h' x o):Inv X pins σ (upd H x o) { s with heap:=h',toks:=t' }:=I.un (Un.write mu he k heo) (I.Am.write mu he k heo new)
def Inv.weak(I:Inv X pins σ H s)(hl:σ'.length=σ.length)(w:∀(i:Nat) v,σ'[i]?=some (some v)->σ[i]?=some (some v)):Inv X pins σ' H s :=
 ⟨I.ok,I.os,I.bare,I.base,let ⟨m,hn,hl'⟩:=I.loc;⟨m,hn,λi x v e1 e2 e3=>hl' i x v e1 (w i v e2) e3⟩,I.cell,I.free,I.N8,I.pin,I.Am,hl.trans I.len⟩
def Inv.Rg(I:Inv X pins σ H s)(h:∀p∈ahy,s.heap.get? p.1=some p.2/\H p.1=none/\p.1≠X.env.locals/\p.1∉X.fs/\∀v,p.2.data≠.cell v):Inv X ahy σ H s :=
 ⟨I.ok,I.os,I.bare,I.base,I.loc,I.cell,I.free,I.N8,λp hp=>(dw.mp hp).elim (λz=>I.pin p (yo _ z)) (h p),I.Am,I.len⟩
def Kg{N:Yf}(hN:N.Nodup){i:Nat}(a:N[i]?=some x)(b:N[j]?=some x):i=j:=by obtain⟨h1,e1⟩:=ak.mp a;obtain⟨h2,e2⟩:=ak.mp b;exact(Ar hN).mp (e1.trans e2.symm)
def ake(I:Inv X pins σ H s)(hN:X.N.Nodup)(hi:X.N[i]?=some x)(hx:Loc X.env.scope x)(r:RelV v u)(h:∀s',Inv X pins (σ.set i (some v)) H s'->(∃a,Heap.SameBut a s.heap s'.heap/\(a=X.env.locals\/X.env.cells.lookup x=some a))->Q () s')(hf:X.fn x=true\/X.env.scope.names.lookup x=some .local:=by first|exact .inl rfl|exact .inr rfl|assumption):wpAny M A (storeName X.env x u) Q E s:=by
 obtain⟨m,hn,hl⟩:=id I.loc;have bdv:(X.env.scope.kind==.class||(X.env.scope.kind==.module&&X.env.locals != X.env.globals))=false:=by rw[I.ok.kind];rfl
 have hiσ:i < σ.length:=by rw[I.len];exact(ak.mp hi).1
 have cne:=I.cne;have tracked:∀{a:Addr}{h':Heap},(∃o,s.heap.get? a=some o/\H a=none)->Heap.SameBut a s.heap h'->Py X.prog X.w H h':=fun{a h'} ha hs b ob e=>by
  obtain⟨_,_,Pz⟩:=ha;refine(I.Am b ob e).stay (λc w' hc q=>(hs.2 c ?_).trans q) (λ_ q=>q) λ_ _ q=>q
  rintro rfl;rcases hc with rfl|hc
  . rw[Pz] at e;cases e
  . rw[Pz] at hc;cases hc
 rcases hx with hk|hk
 . refine wpAny_storeName_local hk hn (λh' Ov hs=>?_) bdv
   obtain⟨oL,_,_,hoL,_⟩:=id hn;refine h _ ⟨I.ok,I.os,I.bare,⟨λb o e n hb hx=>?_,λb o e n hb hx=>?_,I.base.free,λb o e hx=>?_,I.base.Wa,I.base.aau,I.base.ade⟩,⟨_,Ov,λj y v' e1 e2 e3=>?_⟩,λy c e=>?_,I.free,I.N8,λp hp=>?_,tracked ⟨oL,hoL,I.free⟩ hs,by simpa using I.len⟩ ⟨_,hs,.inl rfl⟩
   . exact(hs.2 b (dz (gm (az e) I.ok.above))).trans (I.base.keep b o e n hb hx)
   . obtain⟨sl,e1⟩:=I.base.slot b o e n hb hx
     exact⟨sl,(hs.2 b (dz (gm (az e) I.ok.above))).trans e1⟩
   . obtain⟨o',e1⟩:=I.base.there b o e hx
     exact⟨o',(hs.2 b (dz (gm (az e) I.ok.above))).trans e1⟩
   . by_cases hj:j=i
     . subst hj
       rw[hi] at e1;cases e1;rw[zu hiσ] at e2;cases e2;exact⟨u,r,.inl ⟨hk,by simp⟩⟩
     . rw[uy (j0 hj)] at e2
       obtain⟨u',r',q⟩:=hl j y v' e1 e2 e3;refine⟨u',r',?_⟩;rcases q with⟨k,e⟩|⟨k,c,e,z⟩
       . refine .inl ⟨k,?_⟩
         have:y≠x:=λe=>hj (Kg hN e1 (e▸hi))
         simp[this,e]
       . exact .inr ⟨k,c,e,z.sameBut hs (cne y c e)⟩
   . obtain⟨w',z⟩:=I.cell y c e
     exact⟨w',z.sameBut hs (cne y c e)⟩
   . obtain⟨e,n,ne,nf,d⟩:=I.pin p hp
     exact⟨(hs.2 p.1 ne).trans e,n,ne,nf,d⟩
 . have hfn:X.fn x=true:=by
    rcases hf with z|z
    . exact z
    . rw[z] at hk;cases hk
   obtain⟨c,hc⟩:=I.ok.has x (.inl hk);obtain⟨w',z⟩:=I.cell x c hc;refine wpAny_storeName_cell I.ok.kind hk hc z (λh' hc' hs=>?_);obtain⟨oc,hoc,bdx⟩:=id z;refine h { s with heap:=h' } ⟨I.ok,I.os,I.bare,⟨λb o e n hb hx=>?_,λb o e n hb hx=>?_,I.base.free,λb o e hx=>?_,I.base.Wa,I.base.aau,I.base.ade⟩,⟨m,hn.sameBut hs (j0 (cne x c hc)),λj y v' e1 e2 e3=>?_⟩,λy c' e=>?_,I.free,I.N8,λp hp=>?_,tracked ⟨oc,hoc,I.N8 x c hc⟩ hs,by simpa using I.len⟩ ⟨c,hs,.inr hc⟩
   . exact(hs.2 b (dz (gm (az e) (I.ok.cab x c hfn hc)))).trans (I.base.keep b o e n hb hx)
   . obtain⟨sl,e1⟩:=I.base.slot b o e n hb hx
     exact⟨sl,(hs.2 b (dz (gm (az e) (I.ok.cab x c hfn hc)))).trans e1⟩
   . obtain⟨o',e1⟩:=I.base.there b o e hx
     exact⟨o',(hs.2 b (dz (gm (az e) (I.ok.cab x c hfn hc)))).trans e1⟩
   . by_cases hj:j=i
     . subst hj
       rw[hi] at e1;cases e1;rw[zu hiσ] at e2;cases e2;exact⟨u,r,.inr ⟨.inl hk,c,hc,hc'⟩⟩
     . rw[uy (j0 hj)] at e2
       obtain⟨u',r',q⟩:=hl j y v' e1 e2 e3;refine⟨u',r',?_⟩;rcases q with q|⟨k,c',e,z'⟩
       . exact .inl q
       . refine .inr ⟨k,c',e,z'.sameBut hs ?_⟩
         rintro rfl;exact hj (Kg hN e1 (I.ok.inj _ _ _ e hc▸hi))
   . by_cases hcc:c'=c
     . subst hcc;exact⟨_,hc'⟩
     . obtain⟨w2,z2⟩:=I.cell y c' e
       exact⟨w2,z2.sameBut hs hcc⟩
   . obtain⟨e,n,ne,nf,d⟩:=I.pin p hp
     refine⟨(hs.2 p.1 ?_).trans e,n,ne,nf,d⟩;intro q;rw[q,hoc] at e;have q':oc=p.2:=jn e;exact d w' (by rw[<- q'];exact bdx)
def aof(I:Inv X pins σ H s)(hN:X.N.Nodup)(hi:X.N[i]?=some x)(hx:Loc X.env.scope x)(r:RelV v u)(h:∀s',Inv X pins (σ.set i (some v)) H s'->Q () s')(hf:X.fn x=true\/X.env.scope.names.lookup x=some .local:=by first|exact .inl rfl|exact .inr rfl|assumption):wpAny M A (storeName X.env x u) Q E s :=
 ake I hN hi hx r (λs' I' _=>h s' I') hf
def Inv.call'(I:Inv X pins σ H s)(ho:s'.os=s.os)(u:Un (frs X.stack) ch H H' s.heap s'.heap)(Am:Py X.prog X.w H' s'.heap)(hg:AllBare s'.gens)(hch:∀b∈ch,(b∈X.ex\/X.s₀.heap.objs.size<=b)/\b≠X.env.locals/\(∀x c,X.env.cells.lookup x=some c->c≠b)/\∀p∈X.pn++pins,p.1≠b):Inv X pins σ H' s':=by obtain⟨h',g',d',t',o'⟩:=s';have e:o'=s.os:=ho;subst e;exact I.call (g':=g') (t':=t') (d':=d') u Am hg hch
abbrev XK:=Value->Option Addr->Hp->Prop
abbrev St:=List (Option V)
abbrev VK:=V->Hp->Prop
abbrev TE:=St->Hp->VK->Prop
abbrev TT:=St->Hp->(Bool->Hp->Prop)->Prop
abbrev TA:=St->Hp->(List V->Hp->Prop)->Prop
structure Ends where
 nx:St->Hp->Prop
 rt:VK
 bk:St->Hp->Prop:=λ_ _=>False
 ct:St->Hp->Prop:=λ_ _=>False
abbrev TS:=Ends->St->Hp->Prop
def EP(X:Cx)(pins:Zp)(σ:St)(Q:VK)(u:Value)(s':Shared):Prop:=∃v H',Inv X pins σ H' s'/\RelV v u/\Q v H'
def TP(X:Cx)(pins:Zp)(σ:St)(Q:Bool->Hp->Prop)(b:Bool)(s':Shared):Prop:=∃H',Inv X pins σ H' s'/\Q b H'
def AP(X:Cx)(pins:Zp)(σ:St)(Q:List V->Hp->Prop)(us:Zl)(s':Shared):Prop:=∃vs H',Inv X pins σ H' s'/\Vals vs us/\Q vs H'
def SP(X:Cx)(pins:Zp)(D:Ends)(f:Flow)(s':Shared):Prop :=
 match f with
 |.next=>∃σ' H',Inv X pins σ' H' s'/\D.nx σ' H'|.brk=>∃σ' H',Inv X pins σ' H' s'/\D.bk σ' H'|.cont=>∃σ' H',Inv X pins σ' H' s'/\D.ct σ' H'|.ret u=>∃v σ' H',Inv X pins σ' H' s'/\RelV v u/\D.rt v H'
def PE(X:Cx)(e:Expr)(t:TE):Prop :=
 ∀(pins:Zp)(s:Shared)(σ:St)(H:Hp)(Q:VK),Inv X pins σ H s->t σ H Q->wpAny (model X.prog X.w) X.A (eval e X.env) (EP X pins σ Q) X.xe s
def PT(X:Cx)(e:Expr)(t:TT):Prop :=
 ∀(pins:Zp)(s:Shared)(σ:St)(H:Hp)(Q:Bool->Hp->Prop),Inv X pins σ H s->t σ H Q->wpAny (model X.prog X.w) X.A (isTrue e X.env (eval e X.env)) (TP X pins σ Q) X.xe s
def PW(X:Cx)(e:Expr)(t:TT):Prop :=
 ∀(whole:Sem Value)(pins:Zp)(s:Shared)(σ:St)(H:Hp)(Q:Bool->Hp->Prop),Inv X pins σ H s->t σ H Q->wpAny (model X.prog X.w) X.A (isTrue e X.env whole) (TP X pins σ Q) X.xe s
def PW.pt(h:PW X e t):PT X e t:=h _
def PA(X:Cx)(es:Ya)(t:TA):Prop :=
 ∀(pos:Pos)(pins:Zp)(s:Shared)(σ:St)(H:Hp)(Q:List V->Hp->Prop),Inv X pins σ H s->t σ H Q->wpAny (model X.prog X.w) X.A (spliced (backTo pos (starEach es X.env))) (AP X pins σ Q) X.xe s
def PS(X:Cx)(st:Stmt)(t:TS):Prop :=
 ∀(pins:Zp)(s:Shared)(σ:St)(H:Hp)(D:Ends),Inv X pins σ H s->t D σ H->wpAny (model X.prog X.w) X.A (exec st X.env) (SP X pins D) X.xe s
def Rh(X:Cx)(st:List Stmt)(t:TS):Prop :=
 ∀(pins:Zp)(s:Shared)(σ:St)(H:Hp)(D:Ends),Inv X pins σ H s->t D σ H->wpAny (model X.prog X.w) X.A (execs st X.env) (SP X pins D) X.xe s
def Bu(h:wpAny M A t Q E s)(hQ:∀a s,Q a s->Q' a s):wpAny M A t Q' E s:=my h hQ λ_ _ x=>x
end L2
namespace L2
open PySem PySem.Spec PyProof.Rows
def bdz(i:Nat):TE:=fun σ H Q=>∃v,σ[i]?=some (some v)/\Q v H
def tC(v:V):TE:=λ_ H Q=>Q v H
def az7(hN:X.N[i]?=some x)(hv:Vis X.env.scope x)(hd:(x==("__debug__" : Str))=false:=by decide)(hcd:(x==("__classdict__" : Str))=false:=by decide):PE X (.Name x pos) (bdz i):=by
 intro pins s σ H Q I h;obtain⟨v,e,h⟩:=h;obtain⟨m,hn,hl⟩:=I.loc;obtain⟨u,r,l⟩:=hl i x v hN e hv;have fin:EP X pins σ Q u s:=⟨v,H,I,r,h⟩;rcases l with⟨hk,hm⟩|⟨hk,c,hc,ax1⟩
 . exact wpAny_Name (wpAny_loadName_local I.ok.kind hk hn hm fin) hd
 . rcases hk with hk|hk
   . exact wpAny_Name (wpAny_loadName_cell I.ok.kind hk hc ax1 fin) hd
   . exact wpAny_Name (wpAny_loadName_free I.ok.kind hk hc ax1 fin hcd) hd
def az8:PE X (.Constant (.int i) j pos) (tC (.int i)):=λ_ _ _ H _ I h=>wpAny_Constant_int ⟨.int i,H,I.tok _,⟨_,rfl⟩,h⟩
def a6z:PE X (.Constant (.bool b) j pos) (tC (.bl b)):=λ_ _ _ H _ I h=>Constant_bool ⟨.bl b,H,I,rfl,h⟩
def az9:PE X (.Constant .none j pos) (tC .non):=λ_ _ _ H _ I h=>Constant_none ⟨.non,H,I,rfl,h⟩
def a0a:PE X (.Constant (.str x) j pos) (tC (.str x)):=λ_ _ _ H _ I h=>Calls.Constant_str ⟨.str x,H,I.tok _,⟨_,rfl⟩,h⟩
def Gl(X:Cx)(x:Str):Prop:=X.env.kindOf x=some .globalImplicit
def aax(I:Inv X pins σ H s)(hg:Gl X x)(hm:X.mg x=some u)(h:Q u s)(hd:(x==("__debug__" : Str))=false:=by decide):wpAny (model X.prog X.w) X.A (eval (.Name x pos) X.env) Q E s :=
 Calls.Name_function_global I.ok.kind hg (Calls.loadGlobal_global (by rw[I.ok.glob];exact I.mod.glob.keeps I.bk) hm h) hd
def Dm(I:Inv X pins σ H s)(hg:Gl X x)(hm:X.mg x=none)(hv:bootBuiltins x=some u)(h:Q u s)(hn:x≠"__name__" := by decide)(hd:(x==("__debug__" : Str))=false:=by decide):wpAny (model X.prog X.w) X.A (eval (.Name x pos) X.env) Q E s:=by obtain⟨mb,h1,h2⟩:=I.mod.blt;exact Calls.Name_function_global I.ok.kind hg (Calls.loadGlobal_builtin (by rw[I.ok.glob];exact I.mod.glob.keeps I.bk) hm (by rw[I.ok.blt];exact h1.keeps I.bk) ((h2 x hn).trans hv) h) hd
def aub(hg:Gl X x)(hm:X.mg x=some u)(r:RelV v u)(hd:(x==("__debug__" : Str))=false:=by decide):PE X (.Name x pos) (tC v) :=
 λ_ _ _ H _ I h=>aax I hg hm ⟨v,H,I,r,h⟩ hd
def PC(X:Cx)(op:CmpOp)(a b:Expr)(t:TE):Prop :=
 ∀(pins:Zp)(s:Shared)(σ:St)(H:Hp)(Q:VK),Inv X pins σ H s->t σ H Q ->
  wpAny (model X.prog X.w) X.A (eval a X.env) (λv s₁=>wpAny (model X.prog X.w) X.A (eval b X.env) (λu s₂=>wpAny (model X.prog X.w) X.A (compareOp op v u) (EP X pins σ Q) X.xe s₂) X.xe s₁) X.xe s
def adf(b:Expr)(h:op≠.In)(h2:op≠.NotIn):behindInMarks op b=false:=by
 have e1:(op==CmpOp.In)=false:=by cases op<;>first|rfl|exact absurd rfl h
 have e2:(op==CmpOp.NotIn)=false:=by cases op<;>first|rfl|exact absurd rfl h2
 cases b<;>simp[behindInMarks,e1,e2]
def tB(t:TE):TT:=fun σ H Q=>t σ H λx H1=>∃c,x=.bl c/\Q c H1
def a0b(h:PC X op a b t)(h1:behindInMarks op b=false:=by first|exact adf _ (by decide) (by decide)|rfl):PE X (.Compare a [op] [b] pos) t:=λpins s σ H Q I hw=>wpAny_Compare1 (h pins s σ H Q I hw) h1
def a0c(h:PC X op a b t)(h1:behindInMarks op b=false:=by first|exact adf _ (by decide) (by decide)|rfl):PT X (.Compare a [op] [b] pos) (tB t):=by intro pins s σ H Q I hw;refine wpAny_isTrue_Compare1 (Bu (h pins s σ H _ I hw) λv s1 h1=>Bu h1 λu s2 h2=>Bu h2 λc s3 ⟨x,H1,I1,r1,q1⟩=>?_) h1;obtain⟨d,rfl,q⟩:=q1;cases r1;exact km ⟨H1,I1,q⟩
def a0d(h:PE X e t)(he:∀whole,isTrue e X.env whole=(do let v <- whole;standAt e.pos;holding [v] (truthy v)):=by intro _;rfl):PT X e (tB t):=by intro pins s σ H Q I hw;refine isTrue_plain (Bu (h pins s σ H _ I hw) λv s1 ⟨x,H1,I1,r1,q1⟩=>?_) (he _);obtain⟨d,rfl,q⟩:=q1;cases r1;exact km ⟨H1,I1,q⟩
def bd1(t u:TT):TT:=fun σ H Q=>t σ H λc H1=>if c=true then u σ H1 Q else Q false H1
def tOr(t u:TT):TT:=fun σ H Q=>t σ H λc H1=>if c=true then Q true H1 else u σ H1 Q
def bd2(t:TT):TT:=fun σ H Q=>t σ H λc H1=>Q (!c) H1
def auc(ha:PT X a tA):PW X (.BoolOp .And [a] pos) tA:=by
 intro wh pins s σ H Q I h;refine isTrue_and (Bu (ha pins s σ H Q I h) λc s1 e=>?_);cases c with
 |true=>exact isTrue_and_nil e|false=>exact e
def a0e(ha:PT X a tA):PW X (.BoolOp .Or [a] pos) tA:=by
 intro wh pins s σ H Q I h;refine isTrue_or (Bu (ha pins s σ H Q I h) λc s1 e=>?_);cases c with
 |false=>exact isTrue_or_nil e|true=>exact e
def a0f{rest:Ya}(ha:PT X a tA)(hb:PW X (.BoolOp .And (b::rest) pos) tB'):PW X (.BoolOp .And (a::b::rest) pos) (bd1 tA tB'):=by
 intro wh pins s σ H Q I h;refine isTrue_and (Bu (ha pins s σ H _ I h) λc s1 z_=>?_);obtain⟨H1,I1,q1⟩:=z_;cases c with
 |true=>exact hb wh pins s1 σ H1 Q I1 q1|false=>exact⟨H1,I1,q1⟩
def a65{rest:Ya}(ha:PT X a tA)(hb:PW X (.BoolOp .Or (b::rest) pos) tB'):PW X (.BoolOp .Or (a::b::rest) pos) (tOr tA tB'):=by
 intro wh pins s σ H Q I h;refine isTrue_or (Bu (ha pins s σ H _ I h) λc s1 z_=>?_);obtain⟨H1,I1,q1⟩:=z_;cases c with
 |true=>exact⟨H1,I1,q1⟩|false=>exact hb wh pins s1 σ H1 Q I1 q1
def a0g(ha:PT X a tA):PT X (.UnaryOp .Not a pos) (bd2 tA):=by intro pins s σ H Q I h;exact isTrue_not (ha pins s σ H (λc H1=>Q (!c) H1) I h)
def a66(ta tb:TE):TE:=fun σ H Q=>ta σ H λx H1=>∃c,x=.bl c/\if c=true then tb σ H1 Q else Q (.bl false) H1
def bd4(ta tb:TE):TE:=fun σ H Q=>ta σ H λx H1=>∃c,x=.bl c/\if c=true then Q (.bl true) H1 else tb σ H1 Q
def a67(ta:TE):TE:=fun σ H Q=>ta σ H λx H1=>∃c,x=.bl c/\Q (.bl (!c)) H1
def a0h{rest:Ya}(ha:PE X a ta)(hb:PE X (.BoolOp .And (b::rest) pos) tb):PE X (.BoolOp .And (a::b::rest) pos) (a66 ta tb):=by
 intro pins s σ H Q I h;refine BoolOp_and (Bu (ha pins s σ H _ I h) λv s1 z_=>?_);obtain⟨x,H1,I1,r1,q1⟩:=z_;obtain⟨c,rfl,q1⟩:=q1;cases r1;refine km ?_;cases c with
 |true=>exact hb pins s1 σ H1 Q I1 q1|false=>exact⟨.bl false,H1,I1,rfl,q1⟩
def a68{rest:Ya}(ha:PE X a ta)(hb:PE X (.BoolOp .Or (b::rest) pos) tb):PE X (.BoolOp .Or (a::b::rest) pos) (bd4 ta tb):=by
 intro pins s σ H Q I h;refine BoolOp_or (Bu (ha pins s σ H _ I h) λv s1 z_=>?_);obtain⟨x,H1,I1,r1,q1⟩:=z_;obtain⟨c,rfl,q1⟩:=q1;cases r1;refine km ?_;cases c with
 |false=>exact hb pins s1 σ H1 Q I1 q1|true=>exact⟨.bl true,H1,I1,rfl,q1⟩
def a0i(ha:PE X a ta):PE X (.UnaryOp .Not a pos) (a67 ta):=by intro pins s σ H Q I h;refine UnaryOp_ (Bu (ha pins s σ H _ I h) λv s1 z_=>?_);obtain⟨x,H1,I1,r1,q1⟩:=z_;obtain⟨c,rfl,q1⟩:=q1;cases r1;exact not_of (km ⟨.bl (!c),H1,I1,rfl,q1⟩)
def tIf(t:TT)(ta tb:TE):TE:=fun σ H Q=>t σ H λc H1=>if c=true then ta σ H1 Q else tb σ H1 Q
def aog(hc:PT X c tA)(ha:PE X a ta)(hb:PE X b tb):PE X (.IfExp c a b pos) (tIf tA ta tb):=by
 intro pins s σ H Q I h;refine wpAny_IfExp (Bu (hc pins s σ H _ I h) λd s1 z_=>?_);obtain⟨H1,I1,q1⟩:=z_;cases d with
 |true=>exact ha pins s1 σ H1 Q I1 q1|false=>exact hb pins s1 σ H1 Q I1 q1
end L2
namespace L2
open PySem PySem.Spec PyProof.Rows
def Ia(K:Fg)(H:Hp)(a:Addr)(xs:List V):Prop :=
 Rd H a (.lst xs) \/
  ∃(o:Obj)(yw:U1)(n:Nat),K.lookup a=some o/\o.cls=.type "list"/\o.dict=none/\o.data=.seq yw n/\yw.size<=sizeLine/\Vals xs yw.toList
def Jh(K:Fg)(H:Hp)(a:Addr)(xs:List V):Prop :=
 Rd H a (.tup xs) \/
  ∃(o:Obj)(yw:U1)(n:Nat),K.lookup a=some o/\o.cls=.type "tuple"/\o.data=.seq yw n/\yw.size<=sizeLine/\Vals xs yw.toList
noncomputable def bd5:Value->Option V
 |.none=>some .non|.bool b=>some (.bl b)|.int i _=>some (.int i)|.str x _=>some (.str x)|.bytes b _=>some (.byt b)|.float b _=>some (.flt b)|.ref a=>some (.ref a)|.type n=>some (.ty n)|_=>none
def RelV.abs(r:RelV x u):bd5 u=some x:=by
 cases x with
 |non=>cases r;rfl|bl _=>cases r;rfl|int _=>obtain⟨t,rfl⟩:=r;rfl
 |str _=>obtain⟨t,rfl⟩:=r;rfl
 |byt _=>obtain⟨t,rfl⟩:=r;rfl
 |flt _=>obtain⟨t,rfl⟩:=r;rfl
 |ref _=>cases r;rfl|ty _=>cases r;rfl
def RelV.inj(r:RelV x u)(q:RelV y u):x=y:=jn (r.abs.symm.trans q.abs)
theorem Vals.inj:∀{xs ys:List V}{us:Zl},Vals xs us->Vals ys us->xs=ys
 |_,_,_,.nil,.nil=>rfl|_,_,_,.cons r t,.cons r' t'=>by rw[r.inj r',Vals.inj t t']
def Ia.of{K:Fg}(h:H a=some (.lst xs)):Ia K H a xs:=.inl (.inl h)
def Jh.of{K:Fg}(h:H a=some (.tup xs)):Jh K H a xs:=.inl (.inl h)
def Inv.list(I:Inv X pins σ H s)(h:Ia X.K H a xs):∃yw:List Value,Vals xs yw/\PlainL s.heap a yw.toArray/\xs.length<=sizeLine:=by
 rcases h with h|⟨o,yw,n,hk,hc,hd,hs,hz,r⟩
 . obtain⟨z,yw,n,r,e⟩:=h.ok I.Am
   exact⟨yw,r,⟨_,n,e,rfl,rfl,rfl⟩,z⟩
 . refine⟨yw.toList,r,⟨o,n,I.U4 a o hk,hc,hd,by simpa using hs⟩,?_⟩
   have e:=r.length;simp only[vh] at e;exact a_ (f_ e) hz
def Inv.tuple(I:Inv X pins σ H s)(h:Jh X.K H a xs):∃yw:List Value,Vals xs yw/\IsTup s.heap a yw.toArray/\xs.length<=sizeLine:=by
 rcases h with h|⟨o,yw,n,hk,hc,hs,hz,r⟩
 . obtain⟨z,yw,r,p⟩:=h.ok I.Am
   exact⟨yw,r,p.is,z⟩
 . refine⟨yw.toList,r,⟨o,I.U4 a o hk,hc,n,by simpa using hs⟩,?_⟩
   have e:=r.length;simp only[vh] at e;exact a_ (f_ e) hz
def Inv.adg(I:Inv X pins σ H s)(h:Ia X.K H a xs)(h':Ia X.K H a ys):xs=ys:=by
 obtain⟨yw,r,⟨o,n,e,_,_,d⟩,_⟩:=I.list h;obtain⟨its',r',⟨o',n',e',_,_,d'⟩,_⟩:=I.list h';rw[e] at e';cases e';rw[d] at d';injection d' with d1 _
 have:yw=its':=by simpa using qz Array.toList d1
 subst this;exact r.inj r'
def Inv.Td(I:Inv X pins σ H s)(h:Jh X.K H a xs)(h':Jh X.K H a ys):xs=ys:=by
 obtain⟨yw,r,⟨o,e,_,n,d⟩,_⟩:=I.tuple h;obtain⟨its',r',⟨o',e',_,n',d'⟩,_⟩:=I.tuple h';rw[e] at e';cases e';rw[d] at d';injection d' with d1 _
 have:yw=its':=by simpa using qz Array.toList d1
 subst this;exact r.inj r'
noncomputable abbrev Cx.X5(X:Cx)(E:Y1):Cx:={ X with xe:=E }
noncomputable abbrev Cx.nox(X:Cx):Cx:=X.X5 λ_ _=>False
theorem Cx.Ok.X5{X:Cx}(ok:X.Ok)(E:Y1):(X.X5 E).Ok :=
 ⟨ok.mod,ok.kind,ok.glob,ok.blt,ok.above,ok.inj,ok.has,ok.cab,ok.hd,ok.frames,ok.stk,ok.exf,ok.bs,ok.bsz,ok.aod,ok.aua,ok.U3,ok.frf⟩
def Cx.Ok.Oa{X:Cx}(ok:(X.X5 E).Ok):X.Ok :=
 ⟨ok.mod,ok.kind,ok.glob,ok.blt,ok.above,ok.inj,ok.has,ok.cab,ok.hd,ok.frames,ok.stk,ok.exf,ok.bs,ok.bsz,ok.aod,ok.aua,ok.U3,ok.frf⟩
theorem Inv.X5(I:Inv X pins σ H s)(E:Y1):Inv (X.X5 E) pins σ H s:=⟨I.ok.X5 E,I.os,I.bare,I.base,I.loc,I.cell,I.free,I.N8,I.pin,I.Am,I.len⟩
theorem Inv.Oa(I:Inv (X.X5 E) pins σ H s):Inv X pins σ H s:=⟨I.ok.Oa,I.os,I.bare,I.base,I.loc,I.cell,I.free,I.N8,I.pin,I.Am,I.len⟩
theorem SP.Oa(h:SP (X.X5 E) pins D f s'):SP X pins D f s':=by
 cases f with
 |next=>obtain⟨σ',H',I,q⟩:=h;exact⟨σ',H',I.Oa,q⟩
 |brk=>obtain⟨σ',H',I,q⟩:=h;exact⟨σ',H',I.Oa,q⟩
 |cont=>obtain⟨σ',H',I,q⟩:=h;exact⟨σ',H',I.Oa,q⟩
 |ret u=>obtain⟨v,σ',H',I,r,q⟩:=h;exact⟨v,σ',H',I.Oa,r,q⟩
theorem Rh.nox{st:List Stmt}(h:Rh X.nox st t):Rh X st t:=λpins s σ H D I hw =>
 my (h pins s σ H D (I.X5 _) hw) (λ_ _ q=>q.Oa) λ_ _ z=>False.elim z
def ax2:TS:=λD σ H=>D.nx σ H
def bd6(t u:TS):TS:=λD σ H=>t { D with nx:=u D } σ H
def aud:Rh X [] ax2:=λ_ _ σ H _ I h=>wpAny_execs_nil ⟨σ,H,I,h⟩
def aoh{st:Stmt}{rest:List Stmt}(h1:PS X st t)(h2:Rh X rest u):Rh X (st::rest) (bd6 t u):=by
 intro pins s σ H D I h;refine wpAny_execs_cons (Bu (h1 pins s σ H { D with nx:=u D } I h) λf s1 q=>?_);cases f with
 |next =>
  obtain⟨σ',H',I',q⟩:=q;exact h2 pins s1 σ' H' D I' q
 |ret v=>exact q|brk=>exact q|cont=>exact q
def a0j:TS:=λD σ H=>D.bk σ H
def a7a:TS:=λD σ H=>D.ct σ H
def aue:PS X (.Pass pos) ax2:=λ_ _ σ H _ I h=>wpAny_Pass ⟨σ,H,I,h⟩
def aoi:PS X (.Break pos) a0j:=λ_ _ σ H _ I h=>wpAny_Break ⟨σ,H,I,h⟩
def adh:PS X (.Continue pos) a7a:=λ_ _ σ H _ I h=>wpAny_Continue ⟨σ,H,I,h⟩
def Inv.quiet(I:Inv X pins σ H s):interactive X.env=false:=by simp[interactive,I.ok.kind]
def a7b(te:TE):TS:=λD σ H=>te σ H λ_ H1=>D.nx σ H1
def auf(he:PE X e te)(hs:swapsWith e none pos.line X.env=pure false:=by rfl):PS X (.Expr e pos) (a7b te):=by intro pins s σ H D I h;exact wpAny_Expr_any (Bu (he pins s σ H _ I h) λv s1 ⟨x,H1,I1,r1,q1⟩=>⟨σ,H1,I1,q1⟩) I.quiet hs
def bd7(te:TE):TS:=λD σ H=>te σ H D.rt
def a0k(he:PE X e te):PS X (.Return (some e) pos) (bd7 te):=by intro pins s σ H D I h;exact wpAny_Return_some (Bu (he pins s σ H _ I h) λv s1 ⟨x,H1,I1,r1,q1⟩=>⟨x,σ,H1,I1,r1,q1⟩)
def bd8(c:TT)(t u:TS):TS:=λD σ H=>c σ H λb H1=>if b=true then t D σ H1 else u D σ H1
def a7c(hc:PT X c tc)(ha:Rh X a t)(hb:Rh X b u):PS X (.If c a b pos) (bd8 tc t u):=by
 intro pins s σ H D I h;refine wpAny_If (Bu (hc pins s σ H _ I h) λd s1 z_=>?_);obtain⟨H1,I1,q1⟩:=z_;cases d with
 |true=>exact ha pins s1 σ H1 D I1 q1|false=>exact hb pins s1 σ H1 D I1 q1
abbrev TG:=V->St->Hp->(St->Hp->Prop)->Prop
abbrev TGs:=List V->St->Hp->(St->Hp->Prop)->Prop
def PG(X:Cx)(target:Expr)(t:TG):Prop :=
 ∀(pins:Zp)(s:Shared)(σ:St)(H:Hp)(v:V)(u:Value)(Q:St->Hp->Prop),Inv X pins σ H s->RelV v u->t v σ H Q ->
  wpAny (model X.prog X.w) X.A (assign target X.env u) (λ_ s'=>∃σ' H',Inv X pins σ' H' s'/\Q σ' H') X.xe s
def PGs(X:Cx)(ts:Ya)(t:TGs):Prop :=
 ∀(pins:Zp)(s:Shared)(σ:St)(H:Hp)(vs:List V)(us:Zl)(Q:St->Hp->Prop),Inv X pins σ H s->Vals vs us->t vs σ H Q ->
  wpAny (model X.prog X.w) X.A (assignInOrder ((assignEach ts X.env).map (·.2)) us) (λ_ s'=>∃σ' H',Inv X pins σ' H' s'/\Q σ' H') X.xe s
abbrev a0l:=V->V->V->Hp->(Hp->Prop)->Prop
def a0m(X:Cx)(t:a0l):Prop :=
 ∀(pins:Zp)(s:Shared)(σ:St)(H:Hp)(o i v:V)(ov iv u:Value)(Q:Hp->Prop),Inv X pins σ H s->RelV o ov->RelV i iv->RelV v u->t o i v H Q ->
  wpAny (model X.prog X.w) X.A (setItem ov iv u) (λ_ s'=>∃H',Inv X pins σ H' s'/\Q H') X.xe s
def ahz(i:Nat):TG:=λv σ H Q=>Q (σ.set i (some v)) H
def aay(hN:X.N.Nodup)(hi:X.N[i]?=some x)(hx:Loc X.env.scope x)(hf:X.fn x=true\/X.env.scope.names.lookup x=some .local:=by first|exact .inl rfl|exact .inr rfl|assumption):PG X (.Name x pos) (ahz i):=by intro pins s σ H v u Q I r h;exact wpAny_assign_Name (aof I hN hi hx r (λs' I'=>⟨_,H,I',h⟩) hf)
def bd9:TGs:=λvs σ H Q=>vs=[]/\Q σ H
def a7f(t:TG)(u:TGs):TGs:=λvs σ H Q=>∃v r,vs=v::r/\t v σ H fun σ' H'=>u r σ' H' Q
def auh:PGs X [] bd9:=by intro pins s σ H vs us Q I r h;obtain⟨e,h⟩:=h;subst e;cases r;exact assignInOrder_nil ⟨σ,H,I,h⟩
def aoj(h1:PG X e t)(h2:PGs X es u)(hs:(assignEach (e::es) X.env).map (·.2)=assign e X.env::(assignEach es X.env).map (·.2):=by rfl):PGs X (e::es) (a7f t u):=by
 intro pins s σ H vs us Q I r h;obtain⟨v,vr,e1,h⟩:=h;subst e1;cases r with
 |cons r rr =>
  rw[hs];refine assignInOrder_cons (Bu (h1 pins s σ H _ _ _ I r h) λ_ s1 z_=>?_);obtain⟨σ1,H1,I1,q1⟩:=z_;exact h2 pins s1 σ1 H1 _ _ Q I1 rr q1
def bea(K:Fg)(n:Nat)(t:TGs):TG:=λv σ H Q=>∃a xs,v=.ref a/\Jh K H a xs/\xs.length=n/\t xs σ H Q
def a0n(hc:X.calm=true)(h:PGs X es t)(hn:(assignEach es X.env).length=n:=by rfl)(Xu:(assignEach es X.env).findIdx? (·.1)=none:=by rfl):PG X (.Tuple es k pos) (bea X.K n t):=by
 intro pins s σ H v u Q I r hw;obtain⟨a,xs,e1,hq,hl,hw⟩:=hw;subst e1;cases r;obtain⟨yw,rv,ht,hz⟩:=I.tuple hq;refine assign_Tuple_tuple (I.ok.hd hc) ht (by simp[hn,<- hl,rv.length]) Xu λh' hx=>?_
 have I1:Inv X pins σ H { s with heap:=h' }:=I.kept (t':=s.toks) λb o e=>hx b o (dz (az e)) e
 exact h pins _ σ H xs _ Q I1 (by simpa using rv) hw
def beb(to ti:TE)(t:a0l):TG:=λv σ H Q=>to σ H λo H1=>ti σ H1 λi H2=>t o i v H2 λH3=>Q σ H3
def a0o(ho:PE X o to)(hi:PE X i ti)(hs:a0m X t)(ha:∀v,assign (.Subscript o i pos) X.env v=(do
 let ov <- holding [v] (eval o X.env)
 let iv <- holding [v,ov] (eval i X.env)
 standAt pos
 holding [v,ov,iv] (setItem ov iv v)
 release [v,ov,iv] []):=by intro _;rfl):PG X (.Subscript o i pos) (beb to ti t):=by
 intro pins s σ H v u Q I r h;rw[ha];refine aa (jo (Bu (ho pins s σ H _ I h) λov s1 z_=>?_));obtain⟨x,H1,I1,r1,q1⟩:=z_;refine aa (jo (Bu (hi pins s1 σ H1 _ I1 q1) λiv s2 z_=>?_));obtain⟨y,H2,I2,r2,q2⟩:=z_;refine aa (wpAny_standAt (aa (jo (Bu (hs pins s2 σ H2 x y v ov iv u _ I2 r1 r2 r q2) λ_ s3 z_=>?_))));obtain⟨H3,I3,q3⟩:=z_;exact wpAny_release ⟨σ,H3,I3,q3⟩
def a0p(te:TE)(g:TG):TS:=λD σ H=>te σ H λx H1=>g x σ H1 D.nx
def aok(he:PE X e te)(hg:PG X tg g)(hs:swapsWithSole [tg] e pos.line X.env=pure false:=by rfl)(hw:swappedStores [tg] e X.env=pure none:=by rfl)(h1:(assignEach [tg] X.env).map (·.2)=[assign tg X.env]:=by rfl):PS X (.Assign [tg] e pos) (a0p te g):=by intro pins s σ H D I h;refine wpAny_Assign_stores (Bu (he pins s σ H _ I h) λv s1 ⟨x,H1,I1,r1,q1⟩=>?_) hs hw;rw[h1];exact Bu (hg pins s1 σ H1 x v _ I1 r1 q1) λ_ s2 q=>q
def a0q(c:TT)(tb:TS):TS:=λD σ H=>∃W:Nat->St->Hp->Prop,(∃m,W m σ H)/\∀m σ H,W m σ H ->
 c σ H λb H1=>if b=true then ∃N:St->Hp->Prop,(∀σ' H',N σ' H'->∃m',m'<m/\W m' σ' H')/\tb { D with nx:=N,ct:=N,bk:=D.nx } σ H1 else D.nx σ H1
def aol(hp:PassesOwn (model X.prog X.w) X.A X.env X.xe)(hc:PT X c tc)(hb:Rh X body tb):PS X (.While c body [] pos) (a0q tc tb):=by
 intro pins s σ H D I h;obtain⟨W,⟨m0,w0⟩,turn⟩:=h;refine wpAny_While (codeAny_whileLoop (λn s'=>∃σ' H',Inv X pins σ' H' s'/\W n σ' H') ?_ m0 ⟨σ,H,I,w0⟩);rintro n s1 ⟨σ1,H1,I1,w1⟩;refine uh hp (Bu (hc pins s1 σ1 H1 _ I1 (turn n σ1 H1 w1)) λb s2 z_=>?_);obtain⟨H2,I2,q2⟩:=z_;cases b with
 |true =>
  obtain⟨N,hN,q2⟩:=q2;rw[cz rfl];refine uh hp (Bu (hb pins s2 σ1 H2 _ I2 q2) λf s3 q3=>?_);cases f with
  |next =>
   obtain⟨σ3,H3,I3,n3⟩:=q3;obtain⟨m',hm,w3⟩:=hN σ3 H3 n3;exact⟨m',hm,σ3,H3,I3,w3⟩
  |cont =>
   obtain⟨σ3,H3,I3,n3⟩:=q3;obtain⟨m',hm,w3⟩:=hN σ3 H3 n3;exact⟨m',hm,σ3,H3,I3,w3⟩
  |brk=>exact q3|ret v=>exact q3
 |false =>
  rw[bw jf];exact wpAny_execs_nil ⟨σ1,H2,I2,q2⟩
structure It where
 go:Nat->Hp->Prop
 yld:Nat->Hp->V->Hp->Prop
 stop:Nat->Hp->Prop
def U5(X:Cx)(pins:Zp)(H:Hp)(b:Addr):Prop :=
 H b=none/\b≠X.env.locals/\b∉X.fs/\(b∈X.ex\/X.s₀.heap.objs.size<=b)/\(∀x c,X.env.cells.lookup x=some c->c≠b)/\∀p∈X.pn++pins,p.1≠b
def Inv.aom(I:Inv X pins σ H s)(hb:s.heap.objs.size<=b)(hn:H' b=none):U5 X pins H' b:=by
 refine⟨hn,v5 (gm I.lt hb),I.az5 hb,.inr (gn I.sz hb),λx c e z=>?_,λp hp z=>?_⟩
 . obtain⟨v,q⟩:=I.cell x c e
   exact absurd (gm q.lt (by rw[z];exact hb)) (kh _)
 . exact absurd (gm (az (I.pin p hp).1) (by rw[z];exact hb)) (kh _)
structure Turn(P:Program)(w:World)(K:Fg)(tg:Expr)(J:It)(fp:X9)(it:Addr)(tn:Nat->Heap->Prop):Prop where
 mem:it∈fp
 obj:∀i h,tn i h->∀b∈fp,∃o,h.get? b=some o/\∀v,o.data≠.cell v
 keep:∀i h h',tn i h->(∀b∈fp,∀o,h.get? b=some o->h'.get? b=some o)->tn i h'
 item:∀(X:Cx),X.prog=P->X.w=w->X.K=K->X.calm=true->∀(i:Nat)(pins:Zp)(s:Shared)(σ:St)(H:Hp)(E:Y1),Inv X pins σ H s->(∀b∈fp,U5 X pins H b)->tn i s.heap->J.go i H ->
  wpAny (model P w) X.A (pyNext (.ref it)) (λr s1=>∃u,r=some u /\
   wpAny (model P w) X.A (letOwnedTupleGo tg (.ref it) u) (λ_ s2=>∃x H',Inv X pins σ H' s2/\RelV x u/\J.yld i H x H'/\tn (i+1) s2.heap/\∀b∈fp,H' b=none) E s1) E s
 done:∀(X:Cx),X.prog=P->X.w=w->X.K=K->X.calm=true->∀(i:Nat)(pins:Zp)(s:Shared)(σ:St)(H:Hp)(E:Y1),Inv X pins σ H s->(∀b∈fp,U5 X pins H b)->tn i s.heap->J.stop i H ->
  wpAny (model P w) X.A (pyNext (.ref it)) (λr s1=>r=none/\Inv X pins σ H s1) E s
 self:∀(A:Around)(i:Nat)(s:Shared)(Q:Y1)(E:Y1),tn i s.heap->Q (.ref it) s->wpAny (model P w) A (pyIter (.ref it)) Q E s
abbrev TI:=St->Hp->(It->Hp->Prop)->Prop
def PIE(X:Cx)(pins:Zp)(σ:St)(tg:Expr)(R:It->Hp->Prop)(itv:Value)(s2:Shared):Prop :=
 ∃(it:Addr)(fp:X9)(tn:Nat->Heap->Prop)(J:It)(H':Hp),itv=.ref it/\Inv X pins σ H' s2/\Turn X.prog X.w X.K tg J fp it tn/\tn 0 s2.heap/\(∀b∈fp,U5 X pins H' b)/\R J H'
def PI(X:Cx)(tg iter:Expr)(wi:TI):Prop :=
 ∀(pins:Zp)(s:Shared)(σ:St)(H:Hp)(R:It->Hp->Prop),Inv X pins σ H s->wi σ H R ->
  wpAny (model X.prog X.w) X.A (eval iter X.env) (λv s1=>wpAny (model X.prog X.w) X.A (pyIter v) (PIE X pins σ tg R) X.xe s1) X.xe s
def aon(ho:s.heap.get? it=some o)(hc:o.cls=.type n)(hd:o.data=.fields vs)(hn:["enumerate", "zip", "dict_itemiterator", "dict_reverseitemiterator", "odict_iterator", "itertools.zip_longest", "itertools.pairwise"].contains n=false)(hQ:Q () s):wpAny M A (letOwnedTupleGo tg (.ref it) u) Q E s:=by
 unfold letOwnedTupleGo;cases tg<;>first
  |exact aj hQ
  | (cases u<;>first
   |exact aj hQ
   | (refine aa (wpAny_load ho ?_)
      rw[hc,hd];show wpAny M A (if(["enumerate", "zip", "dict_itemiterator", "dict_reverseitemiterator", "odict_iterator", "itertools.zip_longest", "itertools.pairwise"].contains n&&vs[0]?==some (rawInt _))=true then _ else _) Q E s;rw[bw (by intro h;rw[hn,Bool.false_and] at h;cases h)];exact aj hQ))
noncomputable def Itl(K:Fg)(a:Addr):It :=
 ⟨λi H=>∃xs x,Ia K H a xs/\xs[i]?=some x,λi H x H'=>H'=H/\∀xs,Ia K H a xs->xs[i]?=some x,λi H=>∃xs,Ia K H a xs/\xs.length<=i⟩
noncomputable def Itt(K:Fg)(a:Addr):It :=
 ⟨λi H=>∃xs x,Jh K H a xs/\xs[i]?=some x,λi H x H'=>H'=H/\∀xs,Jh K H a xs->xs[i]?=some x,λi H=>∃xs,Jh K H a xs/\xs.length<=i⟩
noncomputable def Ow(lo:Int)(n:Nat):It:=⟨λi _=>i<n,λi H x H'=>H'=H/\x=.int (lo+i),λi _=>n<=i⟩
theorem akf{K:Fg}(a it:Addr):Turn P w K tg (Itl K a) [it] it (λi h=>h.IsListIter it a i) where
 mem:=by simp
 obj:=λi h st b hb=>by
  have e:b=it:=by simpa using hb
  subst e;obtain⟨o,e,c,d⟩:=st;exact⟨o,e,λv z=>by rw[d] at z;cases z⟩
 keep:=λi h h' st k=>st.at λo e=>k it (by simp) o e
 item:=by
  intro X hP hw hK hc i pins s σ H E I hf st hg;subst hP hw hK;obtain⟨xs,x,hq,hx⟩:=hg;obtain⟨yw,rv,p,hz⟩:=I.list hq;obtain⟨u,hu,ru⟩:=rv.get hx;obtain⟨f0,f1,f2,f3,f4,f5⟩:=hf it (by simp);refine wpAny_pyNext_list_item st p.isList (x:=u) (by simpa using hu) λh' st' sb=>?_
  have I1:Inv X pins σ H { s with heap:=h' }:=I.turned (t':=s.toks) (λb o hb e=>(sb.2 b hb).trans e) f0 f1 f3 f4 f5;obtain⟨o,e,c,d⟩:=id st';exact⟨u,rfl,aon (s:={ s with heap:=h' }) e c d (by decide) ⟨x,H,I1,ru,⟨rfl,λys hy=>by rw[I.adg hy hq];exact hx⟩,st',λb hb=>(hf b hb).1⟩⟩
 done:=by intro X hP hw hK hc i pins s σ H E I hf st hg;subst hP hw hK;obtain⟨xs,hq,hx⟩:=hg;obtain⟨yw,rv,p,hz⟩:=I.list hq;obtain⟨f0,f1,f2,f3,f4,f5⟩:=hf it (by simp);have hl:=rv.length;exact wpAny_pyNext_list_end (I.ok.hd hc) st p.isList (by simp;exact a_ (g_ hl) hx) λh' eb=>⟨rfl,I.turned (t':=s.toks) (λb o hb e=>eb b o hb e) f0 f1 f3 f4 f5⟩
 self:=λ_ _ _ _ _ st h=>wpAny_pyIter_listiter st h
theorem af4{K:Fg}(a it:Addr):Turn P w K tg (Itt K a) [it] it (λi h=>h.IsTupleIter it a i) where
 mem:=by simp
 obj:=λi h st b hb=>by
  have e:b=it:=by simpa using hb
  subst e;obtain⟨o,e,c,d⟩:=st;exact⟨o,e,λv z=>by rw[d] at z;cases z⟩
 keep:=λi h h' st k=>st.at λo e=>k it (by simp) o e
 item:=by
  intro X hP hw hK hc i pins s σ H E I hf st hg;subst hP hw hK;obtain⟨xs,x,hq,hx⟩:=hg;obtain⟨yw,rv,p,hz⟩:=I.tuple hq;obtain⟨u,hu,ru⟩:=rv.get hx;obtain⟨f0,f1,f2,f3,f4,f5⟩:=hf it (by simp);refine wpAny_pyNext_tuple_item st (show s.heap.IsTuple a yw.toArray from p) (x:=u) (by simpa using hu) λh' st' sb=>?_
  have I1:Inv X pins σ H { s with heap:=h' }:=I.turned (t':=s.toks) (λb o hb e=>(sb.2 b hb).trans e) f0 f1 f3 f4 f5;obtain⟨o,e,c,d⟩:=id st';exact⟨u,rfl,aon (s:={ s with heap:=h' }) e c d (by decide) ⟨x,H,I1,ru,⟨rfl,λys hy=>by rw[I.Td hy hq];exact hx⟩,st',λb hb=>(hf b hb).1⟩⟩
 done:=by intro X hP hw hK hc i pins s σ H E I hf st hg;subst hP hw hK;obtain⟨xs,hq,hx⟩:=hg;obtain⟨yw,rv,p,hz⟩:=I.tuple hq;obtain⟨f0,f1,f2,f3,f4,f5⟩:=hf it (by simp);have hl:=rv.length;exact wpAny_pyNext_tuple_end (I.ok.hd hc) st (show s.heap.IsTuple a yw.toArray from p) (by simp;exact a_ (g_ hl) hx) λh' eb=>⟨rfl,I.turned (t':=s.toks) (λb o hb e=>eb b o hb e) f0 f1 f3 f4 f5⟩
 self:=λ_ _ _ _ _ st h=>wpAny_pyIter_tupleiter st h
theorem af5{K:Fg}(it:Addr)(lo:Int)(n:Nat):Turn P w K tg (Ow lo n) [it] it (λi h=>IsRangeIter h it (lo+(i:Nat)*1) ((n:Int)-(i:Nat)) 1) where
 mem:=by simp
 obj:=λi h st b hb=>by
  have e:b=it:=by simpa using hb
  subst e;exact⟨_,st,λv z=>by
   have z':Data.fields _=Data.cell v:=z;cases z'⟩
 keep:=λi h h' st k=>k it (by simp) _ st
 item:=by
  intro X hP hw hK hc i pins s σ H E I hf st hg;subst hP hw hK;obtain⟨f0,f1,f2,f3,f4,f5⟩:=hf it (by simp);have W:=Walks.range (prog:=X.prog) (w:=X.w) (I.ok.hd hc) it lo 1 n;refine W.item i s _ _ hg st λv h' tk hv st' kk=>?_
  obtain⟨t,rfl⟩:=hv;have I1:Inv X pins σ H { s with heap:=h',toks:=tk }:=I.turned (λb o hb e=>kk b o (by simpa using hb) e) f0 f1 f3 f4 f5;refine⟨_,rfl,aon (s:={ s with heap:=h',toks:=tk }) (n := "range_iterator") st' rfl rfl (by decide) ⟨.int (lo+i),H,I1,⟨t,?_⟩,⟨rfl,rfl⟩,st',λb hb=>(hf b hb).1⟩⟩;rw[Int.mul_one]
 done:=by intro X hP hw hK hc i pins s σ H E I hf st hg;subst hP hw hK;obtain⟨f0,f1,f2,f3,f4,f5⟩:=hf it (by simp);exact wpAny_pyNext_range_end (I.ok.hd hc) st (by have:n<=i:=hg;lia) λh' eb=>⟨rfl,I.turned (t':=s.toks) (λb o hb e=>eb b o hb e) f0 f1 f3 f4 f5⟩
 self:=λ_ _ _ _ _ st h=>wpAny_pyIter_rangeiter st h
end L2
namespace L2
open PySem PySem.Spec PyProof.Rows
def aoo{lo:Int}(I:Inv X pins σ H s)(h1:-(2 ^ 62)<=lo)(h2:lo<2 ^ 62)(h3:-(2 ^ 62)<=hi)(h4:hi<2 ^ 62)(q:R (Ow lo (hi-lo).toNat) H):wpAny (model X.prog X.w) X.A (pyIter (.ref s.heap.objs.size)) (PIE X pins σ tg R) E { s with heap:=s.heap.push { cls:=.type "range",data:=.fields #[.int lo t,.int hi u,.int 1 v] },toks:=tk }:=by
 refine wpAny_pyIter_range (IsRange.new ..) (small_one h1 h2 h3 h4) ?_;have I1:Inv X pins σ H { s with heap:=s.heap.push { cls:=.type "range",data:=.fields #[.int lo t,.int hi u,.int 1 v] },toks:=tk }:=I.kept λb o e=>au _ e
 refine⟨(s.heap.push { cls:=.type "range",data:=.fields #[.int lo t,.int hi u,.int 1 v] }).objs.size,[(s.heap.push { cls:=.type "range",data:=.fields #[.int lo t,.int hi u,.int 1 v] }).objs.size],_,_,H,rfl,
  I1.kept (t':=tk) λb o e=>au _ e,af5 _ lo (hi-lo).toNat,?_,λb hb=>?_,q⟩
 . have e1:lo+((0:Nat):Int)*1=lo:=by simp
   have e2:(((hi-lo).toNat:Nat):Int)-((0:Nat):Int)=Builtin.Range.rangeSize lo hi 1:=by rw[rangeSize_one];split<;>lia
   show IsRangeIter _ _ (lo+((0:Nat):Int)*1) ((((hi-lo).toNat:Nat):Int)-((0:Nat):Int)) 1;rw[e1,e2];exact bu _ rfl
 . have e:b=(s.heap.push { cls:=.type "range",data:=.fields #[.int lo t,.int hi u,.int 1 v] }).objs.size:=by simpa using hb
   subst e;exact I1.aom (bh _) (I1.Am.fresh (bh _))
def a7h(ta:TA):TI:=fun σ H R=>ta σ H λvs H1=>∃j:Int,vs=[.int j]/\-(2 ^ 62)<=j/\j<2 ^ 62/\R (Ow 0 j.toNat) H1
def akg{X:Cx}{tg:Expr}(hg:Gl X "range")(hm:X.mg "range" = none)(ha:PA X [a] ta)(hs:starEach [a] X.env=[(false,eval a X.env)]:=by rfl):PI X tg (.Call (.Name "range" p) [a] [] pos) (a7h ta):=by
 intro pins s σ H R I h;refine Call_ (Dm I hg hm boot_range (jh (Bu (ha pos pins s σ H _ I h) λus s1 ⟨vs,H1,I1,r1,q1⟩=>?_) hs rfl));obtain⟨j,e,q1,q2,q⟩:=q1;subst e;cases r1 with
 |cons r rr =>
  cases rr;obtain⟨t,rfl⟩:=r;exact call_range_1 (aoo I1 (by lia) (by lia) q1 q2 (by simpa using q))
def bed(wi:TI)(g:TG)(tb:TS):TS:=λD σ H=>wi σ H λJ H1=>∃W:Nat->Nat->St->Hp->Prop,(∃m,W 0 m σ H1)/\∀i m σ H,W i m σ H ->
 (J.stop i H/\D.nx σ H)\/(J.go i H/\∃N:St->Hp->Prop,(∀σ' H',N σ' H'->∃m',m'<m/\W (i+1) m' σ' H')/\∀x H',J.yld i H x H'->g x σ H' fun σ2 H2=>tb { D with nx:=N,ct:=N,bk:=D.nx } σ2 H2)
noncomputable def Te(fp:X9)(h:Heap):List (Addr×Obj):=fp.filterMap λb=>(h.get? b).map λo=>(b,o)
def Ld(hb:b∈fp)(e:h.get? b=some o):(b,o)∈Te fp h:=List.mem_filterMap.mpr ⟨b,hb,by rw[e];rfl⟩
def akh(hp:p∈Te fp h):p.1∈fp/\h.get? p.1=some p.2:=by
 obtain⟨b,hb,e⟩:=List.mem_filterMap.mp hp;cases q:h.get? b with
 |none=>rw[q] at e;cases e
 |some o =>
  rw[q] at e;have e':(b,o)=p:=jn e;subst e';exact⟨hb,q⟩
def Inv.pinned{X:Cx}(I:Inv X pins σ H s)(hf:∀b∈fp,U5 X pins H b)(ho:∀b∈fp,∃o,s.heap.get? b=some o/\∀v,o.data≠.cell v):Inv X (pins++Te fp s.heap) σ H s :=
 I.Rg λp hp=>(dw.mp hp).elim (λz=>I.pin p (iw _ z)) λz=>by obtain⟨hb,e⟩:=akh z;obtain⟨f0,f1,f2,_⟩:=hf p.1 hb;obtain⟨o,e',d⟩:=ho p.1 hb;rw[e] at e';cases e';exact⟨e,f0,f1,f2,d⟩
def Inv.Ob{X:Cx}(I:Inv X (pins++pl) σ H s):Inv X pins σ H s:=I.Rg λp hp=>I.pin p (iw _ (yo _ hp))
def a0r{X:Cx}{tg:Expr}(hp:PassesOwn (model X.prog X.w) X.A X.env X.xe)(hc:X.calm=true)(hi:PI X tg iter wi)(hg:PG X tg g)(hb:Rh X body tb)(hs:∀x,foldedSetIterable iter X.env x=pure x:=by intro _;rfl):PS X (.For tg iter body [] pos) (bed wi g tb):=by
 intro pins s σ H D I h;refine wpAny_For (Bu (hi pins s σ H _ I h) λv s1 h1=>Bu h1 λitv s2 h2=>?_) hs;obtain⟨it,fp,tn,J,H2,e,I2,T,st2,f2,W,⟨m0,w0⟩,turn⟩:=h2;subst e;have af6:∀{H':Hp},(∀b∈fp,H' b=none)->∀b∈fp,U5 X pins H' b:=λhn b hb=>⟨hn b hb,(f2 b hb).2⟩
 refine codeAny_forLoop_any (λn s'=>∃i σ' H',Inv X pins σ' H' s'/\tn i s'.heap/\(∀b∈fp,H' b=none)/\W i n σ' H') ?_ m0 ⟨0,σ,H2,I2,st2,λb hb=>(f2 b hb).1,w0⟩;rintro n s3 ⟨i,σ3,H3,I3,st3,fr3,w3⟩;rcases turn i n σ3 H3 w3 with⟨stop,qn⟩|⟨go,N,hN,step⟩
 . refine uh hp (Bu (T.done X rfl rfl rfl hc i pins s3 σ3 H3 X.xe I3 (af6 fr3) st3 stop) λr s4 z_=>?_)
   obtain⟨hr,I4⟩:=z_;subst hr;exact wpAny_execs_nil ⟨σ3,H3,I4,qn⟩
 . refine uh hp (Bu (T.item X rfl rfl rfl hc i pins s3 σ3 H3 X.xe I3 (af6 fr3) st3 go) λr s4 z_=>?_)
   obtain⟨u,hr,h4⟩:=z_;subst hr;refine uh hp (Bu h4 λ_ s5 z_=>?_);obtain⟨x,H5,I5,r5,y5,st5,fr5⟩:=z_;have I5':=I5.pinned (af6 fr5) (T.obj _ _ st5);refine uh hp (Bu (hg _ s5 σ3 H5 x u _ I5' r5 (step x H5 y5)) λ_ s6 z_=>?_);obtain⟨σ6,H6,I6,q6⟩:=z_;refine uh hp (Bu (hb _ s6 σ6 H6 _ I6 q6) λf s7 q7=>?_);have again:∀{σ7:St}{H7:Hp},Inv X (pins++Te fp s5.heap) σ7 H7 s7->N σ7 H7->∃m,m<n/\∃i σ' H',Inv X pins σ' H' s7/\tn i s7.heap/\(∀b∈fp,H' b=none)/\W i m σ' H':=fun{σ7 H7} I7 n7=>by obtain⟨m',hm,w7⟩:=hN σ7 H7 n7;refine⟨m',hm,i+1,σ7,H7,I7.Ob,T.keep _ _ _ st5 λb hb o e=>(I7.pin (b,o) (iw _ (iw _ (Ld hb e)))).1,λb hb=>?_,w7⟩;obtain⟨o,e,d⟩:=T.obj _ _ st5 b hb;exact(I7.pin (b,o) (iw _ (iw _ (Ld hb e)))).2.1
   cases f with
   |next=>obtain⟨σ7,H7,I7,n7⟩:=q7;exact again I7 n7
   |cont=>obtain⟨σ7,H7,I7,n7⟩:=q7;exact again I7 n7
   |brk=>obtain⟨σ7,H7,I7,q7⟩:=q7;exact⟨σ7,H7,I7.Ob,q7⟩
   |ret v=>obtain⟨x7,σ7,H7,I7,r7,q7⟩:=q7;exact⟨x7,σ7,H7,I7.Ob,r7,q7⟩
end L2
namespace L2
open PySem PySem.Spec PyProof.Rows
abbrev R2:=V->V->Hp->VK->Prop
def Cz(X:Cx)(f:Value->Value->Sem Value)(r:R2):Prop :=
 ∀(pins:Zp)(s:Shared)(σ:St)(H:Hp)(x y:V)(v u:Value)(Q:VK),Inv X pins σ H s->RelV x v->RelV y u->r x y H Q ->
  wpAny (model X.prog X.w) X.A (f v u) (EP X pins σ Q) X.xe s
def UnR(X:Cx)(f:Value->Sem Value)(r:V->Hp->VK->Prop):Prop :=
 ∀(pins:Zp)(s:Shared)(σ:St)(H:Hp)(x:V)(v:Value)(Q:VK),Inv X pins σ H s->RelV x v->r x H Q ->
  wpAny (model X.prog X.w) X.A (f v) (EP X pins σ Q) X.xe s
def Dc(X:Cx)(f:Value)(r:List V->Hp->VK->Prop):Prop :=
 ∀(pins:Zp)(s:Shared)(σ:St)(H:Hp)(xs:List V)(us:Zl)(Q:VK),Inv X pins σ H s->Vals xs us->r xs H Q ->
  wpAny (model X.prog X.w) X.A (call f us) (EP X pins σ Q) X.xe s
def tOp(r:R2)(ta tb:TE):TE:=fun σ H Q=>ta σ H λx H1=>tb σ H1 λy H2=>r x y H2 Q
def tUn(r:V->Hp->VK->Prop)(ta:TE):TE:=fun σ H Q=>ta σ H λx H1=>r x H1 Q
def rI(C:Int->Int->Prop)(g:Int->Int->V):R2:=λx y H Q=>∃i j,x=.int i/\y=.int j/\C i j/\Q (g i j) H
def rI0(g:Int->Int->V):R2:=λx y H Q=>∃i j,x=.int i/\y=.int j/\Q (g i j) H
def rU(g:Int->V):V->Hp->VK->Prop:=λx H Q=>∃i,x=.int i/\Q (g i) H
def a0t{X:Cx}{a b:Expr}{ta tb:TE}(ha:PE X a ta)(hb:PE X b tb){pins:Zp}{s:Shared}{σ:St}{H:Hp}{R:V->V->Hp->Prop}(I:Inv X pins σ H s)
 (h:ta σ H λx H1=>tb σ H1 λy H2=>R x y H2) {Q:Y1} {f:Value->Value->Sem Value}
 (hf:∀v u s2 x y H2,Inv X pins σ H2 s2->RelV x v->RelV y u->R x y H2->wpAny (model X.prog X.w) X.A (f v u) Q X.xe s2) :
 wpAny (model X.prog X.w) X.A (eval a X.env) (λv s₁=>wpAny (model X.prog X.w) X.A (eval b X.env) (λu s₂=>wpAny (model X.prog X.w) X.A (f v u) Q X.xe s₂) X.xe s₁) X.xe s:=by
 refine Bu (ha pins s σ H _ I h) λv s1 z_=>?_
 obtain⟨x,H1,I1,r1,q1⟩:=z_;refine Bu (hb pins s1 σ H1 _ I1 q1) λu s2 z_=>?_
 obtain⟨y,H2,I2,r2,q2⟩:=z_;exact hf v u s2 x y H2 I2 r1 r2 q2
def a7j{X:Cx}{a b:Expr}{ta tb:TE}{pos:Pos}{op:Operator}{r:R2}(ho:Cz X (binaryOp op) r)(ha:PE X a ta)(hb:PE X b tb):PE X (.BinOp a op b pos) (tOp r ta tb):=by intro pins s σ H Q I h;exact wpAny_BinOp (a0t ha hb I h λv u s2 x y H2 I2 rx ry q=>ho pins s2 σ H2 x y v u Q I2 rx ry q)
def a7k{X:Cx}{a:Expr}{ta:TE}{pos:Pos}{op:UnaryOp}{r:V->Hp->VK->Prop}(ho:UnR X (unaryOp op) r)(ha:PE X a ta):PE X (.UnaryOp op a pos) (tUn r ta):=by intro pins s σ H Q I h;exact UnaryOp_ (Bu (ha pins s σ H _ I h) λv s1 ⟨x,H1,I1,r1,q1⟩=>ho pins s1 σ H1 x v Q I1 r1 q1)
def opI{X:Cx}{f:Value->Value->Sem Value}{C:Int->Int->Prop}{g:Int->Int->Int}
 (rule:∀(i j:Int)(t u:Tok)(s:Shared)(Q:Y1)(E:Y1),C i j->Q (.int (g i j) s.toks) { s with toks:=s.toks+1 }->wpAny (model X.prog X.w) X.A (f (.int i t) (.int j u)) Q E s) :
 Cz X f (rI C λi j=>.int (g i j)):=by
 intro pins s σ H x y v u Q I rx ry h;obtain⟨i,j,rfl,rfl,hc,q⟩:=h;obtain⟨t,rfl⟩:=rx;obtain⟨t',rfl⟩:=ry;exact rule i j t t' s _ _ hc ⟨.int (g i j),H,I.tok _,⟨_,rfl⟩,q⟩
def a7l{X:Cx}{f:Value->Value->Sem Value}{g:Int->Int->Int}
 (rule:∀(i j:Int)(t u:Tok)(s:Shared)(Q:Y1)(E:Y1),Q (.int (g i j) s.toks) { s with toks:=s.toks+1 }->wpAny (model X.prog X.w) X.A (f (.int i t) (.int j u)) Q E s) :
 Cz X f (rI0 λi j=>.int (g i j)):=by
 intro pins s σ H x y v u Q I rx ry h;obtain⟨i,j,rfl,rfl,q⟩:=h;obtain⟨t,rfl⟩:=rx;obtain⟨t',rfl⟩:=ry;exact rule i j t t' s _ _ ⟨.int (g i j),H,I.tok _,⟨_,rfl⟩,q⟩
def auj{X:Cx}{f:Value->Value->Sem Value}{g:Int->Int->Bool}
 (rule:∀(i j:Int)(t u:Tok)(s:Shared)(Q:Y1)(E:Y1),Q (.bool (g i j)) s->wpAny (model X.prog X.w) X.A (f (.int i t) (.int j u)) Q E s) :
 Cz X f (rI0 λi j=>.bl (g i j)):=by
 intro pins s σ H x y v u Q I rx ry h;obtain⟨i,j,rfl,rfl,q⟩:=h;obtain⟨t,rfl⟩:=rx;obtain⟨t',rfl⟩:=ry;exact rule i j t t' s _ _ ⟨.bl (g i j),H,I,rfl,q⟩
def bei(i j:Int):Prop:=0<j/\j<1073741824
def bej(i j:Int):Prop:=0<=j/\j<=1000000/\i.natAbs<2 ^ 64
def auk(i j:Int):Prop:=(-(2 ^ 64)<i/\i<2 ^ 64)\/(-(2 ^ 64)<j/\j<2 ^ 64)
def auk.ok{i j:Int}(h:auk i j):IntMulOk i j:=by
 rcases h with⟨h1,h2⟩|⟨h1,h2⟩
 . exact .of_left (intBits_le_64 h1 h2)
 . exact .of_right (intBits_le_64 h1 h2)
def a0u{X:Cx}:Cz X (binaryOp .Add) (rI0 λi j=>.int (i+j)):=a7l λ_ _ _ _ _ _ _ q=>add_int q
def a0v{X:Cx}:Cz X (binaryOp .Sub) (rI0 λi j=>.int (i-j)):=a7l λ_ _ _ _ _ _ _ q=>sub_int q
def a0w{X:Cx}:Cz X (binaryOp .Mult) (rI auk λi j=>.int (i*j)):=opI λ_ _ _ _ _ _ _ hc q=>mul_int q hc.ok
def aul{X:Cx}:Cz X (binaryOp .FloorDiv) (rI bei λi j=>.int (i / j)):=opI λi j _ _ _ _ _ hc q=>by
 have h1:(0:Int)<j:=hc.1
 have h2:j<1073741824:=hc.2
 exact floordiv_int (by lia) (by rw[Int.fdiv_eq_ediv_of_nonneg i (by lia)];exact q) (.inl (PyProof.noPylong_small (by omega)))
def a0x{X:Cx}:Cz X (binaryOp .Mod) (rI (λ_ j=>0<j) λi j=>.int (i%j)):=opI λi j _ _ _ _ _ hc q=>by
 have h1:(0:Int)<j:=hc
 exact mod_int' (by lia) (by rw[Int.fmod_eq_emod_of_nonneg i (by lia)];exact q)
def a0y{X:Cx}:Cz X (binaryOp .Pow) (rI bej λi j=>.int (i ^ j.toNat)):=opI λ_ _ _ _ _ _ _ hc q=>pow_int_small hc.1 hc.2.1 hc.2.2 q
def unI{X:Cx}{f:Value->Sem Value}{g:Int->Int}
 (rule:∀(i:Int)(t:Tok)(s:Shared)(Q:Y1)(E:Y1),Q (.int (g i) s.toks) { s with toks:=s.toks+1 }->wpAny (model X.prog X.w) X.A (f (.int i t)) Q E s) :
 UnR X f (rU λi=>.int (g i)):=by
 intro pins s σ H x v Q I rx h;obtain⟨i,rfl,q⟩:=h;obtain⟨t,rfl⟩:=rx;exact rule i t s _ _ ⟨.int (g i),H,I.tok _,⟨_,rfl⟩,q⟩
def a0z{X:Cx}:UnR X (unaryOp .USub) (rU λi=>.int (-i)):=unI λ_ _ _ _ _ q=>neg_int q
noncomputable def a00:V->V->Bool
 |.non,.non=>true|.non,.int _=>true|.int _,.non=>true|.non,.bl _=>true|.bl _,.non=>true|.non,.str _=>true|.str _,.non=>true
 |.int _,.int _=>true|.bl _,.bl _=>true|.str _,.str _=>true|.byt _,.byt _=>true
 |.int _,.str _=>true|.str _,.int _=>true|.bl _,.str _=>true|.str _,.bl _=>true
 |_,_=>false
def rEq:R2:=λx y H Q=>a00 x y=true/\Q (.bl (decide (x=y))) H
def rNe:R2:=λx y H Q=>a00 x y=true/\Q (.bl (!decide (x=y))) H
def ah0{i j:Int}:decide (V.int i=V.int j)=(i==j):=by rw[Bd];simp
def aop{i j:Bool}:decide (V.bl i=V.bl j)=(i==j):=by rw[Bd];simp
def ah1{i j:Str}:decide (V.str i=V.str j)=(i==j):=by rw[Bd];simp
def ah2{i j:Array UInt8}:decide (V.byt i=V.byt j)=(i.toList==j.toList):=by rw[Bd];cases i;cases j;simp
def yf{X:Cx}{pins:Zp}{σ:St}{H:Hp}{s:Shared}{Q:VK}{k k':Bool}(I:Inv X pins σ H s)(q:Q (.bl k) H)(e:k=k'):EP X pins σ Q (.bool k') s:=by subst e;exact⟨.bl k,H,I,rfl,q⟩
def a7m{X:Cx}:Cz X (compareOp .Eq) rEq:=by
 intro pins s σ H x y v u Q I rx ry h;obtain⟨hs,q⟩:=h;cases x with
 |non =>
  cases rx;cases y with
  |non=>cases ry;exact PySem.EqNone.eq_none_none (yf I q (by simp))|bl j=>cases ry;exact PySem.EqNone.eq_none_bool (yf I q (by simp))|int j=>obtain⟨t',rfl⟩:=ry;exact PySem.EqNone.eq_none_int (yf I q (by simp))
  |str j=>obtain⟨t',rfl⟩:=ry;exact PySem.EqNone.eq_none_str (yf I q (by simp))
  |_=>exact absurd (show false=true from hs) jf
 |bl i =>
  cases rx;cases y with
  |non=>cases ry;exact PySem.EqNone.eq_bool_none (yf I q (by simp))|bl j=>cases ry;exact eq_bool (yf I q aop)|str j=>obtain⟨t',rfl⟩:=ry;exact PySem.EqMixed.eq_bool_str (yf I q (by simp))
  |_=>exact absurd (show false=true from hs) jf
 |int i =>
  obtain⟨t,rfl⟩:=rx;cases y with
  |non=>cases ry;exact PySem.EqNone.eq_int_none (yf I q (by simp))|int j=>obtain⟨t',rfl⟩:=ry;exact eq_int (yf I q ah0)
  |str j=>obtain⟨t',rfl⟩:=ry;exact PySem.EqMixed.eq_int_str (yf I q (by simp))
  |_=>exact absurd (show false=true from hs) jf
 |str i =>
  obtain⟨t,rfl⟩:=rx;cases y with
  |non=>cases ry;exact PySem.EqNone.eq_str_none (yf I q (by simp))|bl j=>cases ry;exact PySem.EqMixed.eq_str_bool (yf I q (by simp))|int j=>obtain⟨t',rfl⟩:=ry;exact PySem.EqMixed.eq_str_int (yf I q (by simp))
  |str j=>obtain⟨t',rfl⟩:=ry;exact eq_str (yf I q ah1)
  |_=>exact absurd (show false=true from hs) jf
 |byt i =>
  obtain⟨t,rfl⟩:=rx;cases y with
  |byt j=>obtain⟨t',rfl⟩:=ry;exact PySem.W.eq_bytes (yf I q ah2)
  |_=>exact absurd (show false=true from hs) jf
 |_=>cases y<;>exact absurd (show false=true from hs) jf
def a7n{X:Cx}:Cz X (compareOp .NotEq) rNe:=by
 intro pins s σ H x y v u Q I rx ry h;obtain⟨hs,q⟩:=h;cases x with
 |non =>
  cases rx;cases y with
  |non=>cases ry;exact PySem.EqNone.ne_none_none (yf I q (by simp))|bl j=>cases ry;exact PySem.EqNone.ne_none_bool (yf I q (by simp))|int j=>obtain⟨t',rfl⟩:=ry;exact PySem.EqNone.ne_none_int (yf I q (by simp))
  |str j=>obtain⟨t',rfl⟩:=ry;exact PySem.EqNone.ne_none_str (yf I q (by simp))
  |_=>exact absurd (show false=true from hs) jf
 |bl i =>
  cases rx;cases y with
  |non=>cases ry;exact PySem.EqNone.ne_bool_none (yf I q (by simp))|bl j=>cases ry;exact ne_bool (yf I q (qz not aop))|str j=>obtain⟨t',rfl⟩:=ry;exact PySem.EqMixed.ne_bool_str (yf I q (by simp))
  |_=>exact absurd (show false=true from hs) jf
 |int i =>
  obtain⟨t,rfl⟩:=rx;cases y with
  |non=>cases ry;exact PySem.EqNone.ne_int_none (yf I q (by simp))|int j=>obtain⟨t',rfl⟩:=ry;exact ne_int (yf I q (qz not ah0))
  |str j=>obtain⟨t',rfl⟩:=ry;exact PySem.EqMixed.ne_int_str (yf I q (by simp))
  |_=>exact absurd (show false=true from hs) jf
 |str i =>
  obtain⟨t,rfl⟩:=rx;cases y with
  |non=>cases ry;exact PySem.EqNone.ne_str_none (yf I q (by simp))|bl j=>cases ry;exact PySem.EqMixed.ne_str_bool (yf I q (by simp))|int j=>obtain⟨t',rfl⟩:=ry;exact PySem.EqMixed.ne_str_int (yf I q (by simp))
  |str j=>obtain⟨t',rfl⟩:=ry;exact ne_str (yf I q (qz not ah1))
  |_=>exact absurd (show false=true from hs) jf
 |byt i =>
  obtain⟨t,rfl⟩:=rx;cases y with
  |byt j=>obtain⟨t',rfl⟩:=ry;exact PySem.W.ne_bytes (yf I q (qz not ah2))
  |_=>exact absurd (show false=true from hs) jf
 |_=>cases y<;>exact absurd (show false=true from hs) jf
def a7o{X:Cx}:Cz X (compareOp .Lt) (rI0 λi j=>.bl (decide (i<j))):=auj λ_ _ _ _ _ _ _ q=>lt_int q
def a7p{X:Cx}:Cz X (compareOp .LtE) (rI0 λi j=>.bl (decide (i<=j))):=auj λ_ _ _ _ _ _ _ q=>le_int q
def a7q{X:Cx}:Cz X (compareOp .Gt) (rI0 λi j=>.bl (decide (j<i))):=auj λ_ _ _ _ _ _ _ q=>gt_int q
def a7r{X:Cx}:Cz X (compareOp .GtE) (rI0 λi j=>.bl (decide (j<=i))):=auj λ_ _ _ _ _ _ _ q=>ge_int q
def Cz.or{X:Cx}{f:Value->Value->Sem Value}{r r':R2}(h:Cz X f r)(h':Cz X f r'):Cz X f (λx y H Q=>r x y H Q\/r' x y H Q):=by
 intro pins s σ H x y v u Q I rx ry q;rcases q with q|q
 . exact h pins s σ H x y v u Q I rx ry q
 . exact h' pins s σ H x y v u Q I rx ry q
def aum{X:Cx}{a b:Expr}{ta tb:TE}{pos:Pos}{op:CmpOp}{r:R2}(ho:Cz X (compareOp op) r)(ha:PE X a ta)(hb:PE X b tb)(hm:behindInMarks op b=false):PE X (.Compare a [op] [b] pos) (tOp r ta tb):=by intro pins s σ H Q I h;exact wpAny_Compare1 (a0t ha hb I h λv u s2 x y H2 I2 rx ry q=>ho pins s2 σ H2 x y v u Q I2 rx ry q) hm
def ax3(t:TE):TT:=fun σ H Q=>t σ H λx H'=>∃k,x=.bl k/\Q k H'
def aun{X:Cx}{a b:Expr}{ta tb:TE}{pos:Pos}{op:CmpOp}{r:R2}(ho:Cz X (compareOp op) r)(ha:PE X a ta)(hb:PE X b tb)(hm:behindInMarks op b=false):PT X (.Compare a [op] [b] pos) (ax3 (tOp r ta tb)):=by
 intro pins s σ H Q I h;refine wpAny_isTrue_Compare1 (Bu (ha pins s σ H _ I h) λv s1 ⟨x,H1,I1,r1,q1⟩=>Bu (hb pins s1 σ H1 _ I1 q1) λu s2 ⟨y,H2,I2,r2,q2⟩ =>
  Bu (ho pins s2 σ H2 x y v u _ I2 r1 r2 q2) λc s3 ⟨z,H3,I3,r3,k,e,q3⟩=>?_) hm
 subst e;cases r3;exact km ⟨H3,I3,q3⟩
def aaz(r r':R2)(ta tb tc:TE):TE:=fun σ H Q=>ta σ H λx H1=>tb σ H1 λy H2=>r x y H2 λz H3=>∃k,z=.bl k /\
 (if k=true then tc σ H3 λw' H4=>r' y w' H4 Q else Q (.bl false) H3)
def aoq{X:Cx}{a b c:Expr}{ta tb tc:TE}{pos:Pos}{op op':CmpOp}{r r':R2}(ho:Cz X (compareOp op) r)(ho':Cz X (compareOp op') r')(ha:PE X a ta)(hb:PE X b tb)(hc:PE X c tc)
 (hm:lastMarks [op,op'] [b,c]=false:=by with_unfolding_all rfl):PE X (.Compare a [op,op'] [b,c] pos) (aaz r r' ta tb tc):=by
 intro pins s σ H Q I h;refine Compare_chain (Bu (ha pins s σ H _ I h) λv s1 ⟨x,H1,I1,r1,q1⟩=>chain_link (Bu (hb pins s1 σ H1 _ I1 q1) λu s2 ⟨y,H2,I2,r2,q2⟩ =>
  Bu (ho pins s2 σ H2 x y v u _ I2 r1 r2 q2) λd s3 ⟨z,H3,I3,r3,k,e,q3⟩=>?_)) hm
 subst e;cases r3;refine km ?_;cases k with
 |false=>exact ite_ff ⟨.bl false,H3,I3,rfl,q3⟩|true=>exact ite_tt (chain_last (Bu (hc pins s3 σ H3 _ I3 q3) λw' s4 ⟨z',H4,I4,r4,q4⟩=>ho' pins s4 σ H4 y z' u w' Q I4 r2 r4 q4))
def aor{X:Cx}{a b c:Expr}{ta tb tc:TE}{pos:Pos}{op op':CmpOp}{r r':R2}(ho:Cz X (compareOp op) r)(ho':Cz X (compareOp op') r')(ha:PE X a ta)(hb:PE X b tb)(hc:PE X c tc)
 (hm:lastMarks [op,op'] [b,c]=false:=by with_unfolding_all rfl):PT X (.Compare a [op,op'] [b,c] pos) (ax3 (aaz r r' ta tb tc)):=by
 intro pins s σ H Q I h;refine isTrue_chain (Bu (ha pins s σ H _ I h) λv s1 ⟨x,H1,I1,r1,q1⟩=>test_link (Bu (hb pins s1 σ H1 _ I1 q1) λu s2 ⟨y,H2,I2,r2,q2⟩ =>
  Bu (ho pins s2 σ H2 x y v u _ I2 r1 r2 q2) λd s3 ⟨z,H3,I3,r3,k,e,q3⟩=>?_)) hm
 subst e;cases r3;refine km ?_;cases k with
 |false =>
  obtain⟨k',e',q'⟩:=q3;cases e';exact ite_ff ⟨H3,I3,q'⟩
 |true =>
  refine ite_tt (test_last (Bu (hc pins s3 σ H3 _ I3 q3) λw' s4 ⟨z',H4,I4,r4,q4⟩=>Bu (ho' pins s4 σ H4 y z' u w' _ I4 r2 r4 q4) λd' s5 z_=>?_));obtain⟨z2,H5,I5,r5,k2,e2,q5⟩:=z_;subst e2;cases r5;exact km ⟨H5,I5,q5⟩
def aa0:(sizeLine:Nat)<2 ^ 63:=by rw[qy];decide
def vals1{x:V}{us:Zl}(r:Vals [x] us):∃u,us=[u]/\RelV x u:=by
 cases r with
 |cons r1 r2=>cases r2;exact⟨_,rfl,r1⟩
def vals2{x y:V}{us:Zl}(r:Vals [x,y] us):∃u w',us=[u,w']/\RelV x u/\RelV y w':=by
 cases r with
 |cons r1 r2 =>
  cases r2 with
  |cons r3 r4=>cases r4;exact⟨_,_,rfl,r1,r3⟩
def aki{X:Cx}(hc:X.calm=true):Dc X (.builtin "max") (λxs H Q=>∃i j,xs=[.int i,.int j]/\Q (.int (if j > i then j else i)) H):=by
 intro pins s σ H xs us Q I r h;obtain⟨i,j,rfl,q⟩:=h;obtain⟨u,w',rfl,⟨t,rfl⟩,⟨t',rfl⟩⟩:=vals2 r;refine max_two_ints (I.ok.hd hc) λh' tk k=>⟨_,H,I.kept k,?_,q⟩
 by_cases hj:j > i
 . rw[cz hj,cz hj];exact⟨_,rfl⟩
 . rw[bw hj,bw hj];exact⟨_,rfl⟩
def akj{X:Cx}(hc:X.calm=true):Dc X (.builtin "min") (λxs H Q=>∃i j,xs=[.int i,.int j]/\Q (.int (if j<i then j else i)) H):=by
 intro pins s σ H xs us Q I r h;obtain⟨i,j,rfl,q⟩:=h;obtain⟨u,w',rfl,⟨t,rfl⟩,⟨t',rfl⟩⟩:=vals2 r;refine min_two_ints (I.ok.hd hc) λh' tk k=>⟨_,H,I.kept k,?_,q⟩
 by_cases hj:j<i
 . rw[cz hj,cz hj];exact⟨_,rfl⟩
 . rw[bw hj,bw hj];exact⟨_,rfl⟩
end L2
namespace L2
open PySem PySem.Spec PyProof.Rows
structure af7(h:Heap)(x dx C:Addr)(mA:Zs):Prop where
 obj:h.get? x=some (PySem.W.instObj C dx)
 ns:h.Ns1 dx mA
 ne:dx≠x
set_option tactic.hygienic true in
def akk{h:Heap}{dx:Addr}{mA:Zs}(n:h.Ns1 dx mA):∃od,h.get? dx=some od/\∀name,PySem.W.lookIn name od=some (mA name):=by
 obtain⟨o,es,ep,ho,hd,hk,_,hm⟩:=n;refine⟨o,ho,λname=>?_⟩;have e:=hm name;unfold nsFind findBy at e;rw[<- Array.find?_toList] at e;unfold PySem.W.lookIn;rw[hd];dsimp only;split
 . rename_i y q
   rw[q] at e;exact qz some e
 . rename_i q
   rw[q] at e;have a:es.toList.any (·.refKey)=false:=by rw[List.any_eq_false];intro y hy;obtain⟨z,t,ay8⟩:=hk y (Array.mem_toList_iff.mp hy);simp[DictEntry.refKey,ay8]
   have a':¬es.toList.any (·.refKey)=true:=by rw[a];exact jf
   rw[bw a'];exact qz some e
def af7.look{h:Heap}{x dx C:Addr}{mA:Zs}(I:af7 h x dx C mA):∃od,PySem.W.InstAt h x (PySem.W.instObj C dx) C (some od)/\∀name,PySem.W.lookIn name od=some (mA name) :=
 let ⟨od,ho,hl⟩:=akk I.ns
 ⟨od,⟨I.obj,rfl,rfl,ho⟩,hl⟩
def get_map{prog:Program}{w:World}{A:Around}{E:Y1}{s:Shared}{K:Fg}{x dx C:Addr}{mA:Zs}{name:Str}{v:Value}{expr:Bool}{Q:Y1}(X:K.In s.heap)(I:af7 s.heap x dx C mA)(hg:PySem.W.plainGet K C name=true)(hh:PySem.W.hasDictIn K C=true)
 (ha:PySem.W.findIn K (.ref C) name=some none) (hv:mA name=some v) (hv':PySem.W.handedIn v=true) (h:Q v { s with toks:=s.toks+1 }) :
 wpAny (model prog w) A (getAttr (.ref x) name expr) Q E s:=by
 obtain⟨od,J,hl⟩:=I.look;exact PySem.W.get_value X J (PySem.W.plainGet_of hg).1 (PySem.W.findObj_own hh ha rfl (by rw[hl,hv])) hv' h
def aos{prog:Program}{w:World}{A:Around}{E:Y1}{s:Shared}{K:Fg}{x dx C f:Addr}{mA:Zs}{name:Str}{pl:Sem Bool}{Q:Value×List Value->Shared->Prop}(X:K.In s.heap)(I:af7 s.heap x dx C mA)(hg:PySem.W.plainGet K C name=true)
 (hf:PySem.W.findIn K (.ref C) name=some (some (.ref f))) (ht:PySem.W.isFn K (.ref f)=true) (hv:mA name=none) (h:Q (.ref f,[.ref x]) s) :
 wpAny (model prog w) A (getMethod (.ref x) name pl) Q E s:=by
 obtain⟨od,J,hl⟩:=I.look;exact PySem.W.method_fn X J (PySem.W.plainGet_of hg).1 (PySem.W.plainGet_of hg).2 hf (beq_iff_eq.mp ht) (by show(PySem.W.lookIn name od).map (·.isSome)=some false;rw[hl,hv];rfl) h
def auo{prog:Program}{w:World}{A:Around}{E:Y1}{s:Shared}{K:Fg}{x dx C:Addr}{mA:Zs}{name:Str}{v:Value}{ns:Yf}{Q:Unit->Shared->Prop}(X:K.In s.heap)(I:af7 s.heap x dx C mA)
 (hs:PySem.W.findIn K (.ref C) "__setattr__" = some (some (.builtin "object.__setattr__"))) (hp:PySem.W.plainOver K C=true) (ht:PySem.W.takerIn K C name=some none) (hh:PySem.W.hasDictIn K C=true)
 (hw:PySem.Within mA ns) (hsz:ns.length<=sizeLine)
 (h:∀h',af7 h' x dx C (λy=>if y=name then some v else mA y)->Heap.SameBut dx s.heap h'->Q () { s with heap:=h',toks:=s.toks+2 }) :
 wpAny (model prog w) A (setAttr (.ref x) name v) Q E s:=by
 obtain⟨od,J,hl⟩:=I.look;refine PySem.W.set_plain X J hs (PySem.W.osa_open (s:={ s with toks:=s.toks+1 }) (r:=none) X J hp ht λb=>?_);obtain⟨cd,hc,hd'⟩:=PySem.W.any_some hh;have hx:s.heap.get? x=some ⟨.ref C,some dx,.plain,#[]⟩:=I.obj;refine aa (aj (aa (aa (wpAny_loadPart hx (aa (PySem.W.Looks.here (s:={ s with toks:=s.toks+1 }) (PySem.W.looks_clsIn X hc) ?_))))));rw[hd'];refine aj (a:=some dx) (aa (aj (aa ?_)));refine wpAny_nsSet1 (s:={ s with toks:=s.toks+1 }) I.ns λh' Xv hs2=>?_
 obtain⟨oD,esD,epD,hoD,hdD,hcD⟩:=Xv.count (PySem.Within.cons name v hw);refine aa (wpAny_lookBehind hoD (by rw[hdD];exact pastItsLine_dict (gn hcD (by rw[gw];exact v_ hsz))) ?_);exact aj (h _ ⟨(hs2.2 _ (j0 I.ne)).trans I.obj,Xv,I.ne⟩ hs2)
def aot{prog:Program}{w:World}{A:Around}{s:Shared}{K:Fg}{C f:Addr}{R:Result->Shared->Prop}{vs:Zl}{kw:List (Str×Value)}(X:K.In s.heap)(hm:PySem.W.makesIn K C=true)
 (hi:PySem.W.findIn K (.ref C) "__init__" = some (some (.ref f))) (hf:PySem.W.typeIn K (.ref f)=some (.type "function"))
 (h:codeAny (model prog w) (A.under (.builtin "type.__call__" ⟨.ref C::vs,kw⟩)) (.call (.ref f) ⟨.ref (s.heap.objs.size+1)::vs,kw⟩) (PySem.W.InitBack (s.heap.objs.size+1) R)
  { s with heap:=(s.heap.push PySem.W.emptyDict).push (PySem.W.instObj C s.heap.objs.size) }) :
 codeAny (model prog w) A (.call (.ref C) ⟨vs,kw⟩) R s:=by
 obtain⟨hh,g,d,t,os⟩:=s;exact PySem.W.make_core (PySem.W.makes_of X hm) (PySem.W.looks_findIn X hi) (λself=>PySem.W.bind_fn X self hf) (.inl rfl) h
noncomputable def Ip(f:Str)(v:V):List (Str×V)->List (Str×V)
 |[]=>[(f,v)]|(g,x)::r=>if g=f then(g,v)::r else(g,x)::Ip f v r
theorem Ue(f g:Str)(v:V):∀fs:List (Str×V),(Ip f v fs).lookup g=if g=f then some v else fs.lookup g
 |[]=>by
  show List.lookup g [(f,v)]=_
  by_cases h:g=f
  . have hb:(g==f)=true:=beq_iff_eq.mpr h
    simp only[List.lookup,hb,cz h]
  . have hb:(g==f)=false:=qw.mpr h
    simp only[List.lookup,hb,bw h]
 |(k,x)::r=>by
  have ih:=Ue f g v r;rw[show Ip f v ((k,x)::r)=(if k=f then(k,v)::r else(k,x)::Ip f v r) from rfl]
  by_cases hk:k=f
  . rw[cz hk]
    by_cases h:g=k
    . have hb:(g==k)=true:=beq_iff_eq.mpr h
      simp only[List.lookup,hb,cz (h.trans hk)]
    . have hb:(g==k)=false:=qw.mpr h
      simp only[List.lookup,hb,bw (λe:g=f=>h (e.trans hk.symm))]
  . rw[bw hk]
    by_cases h:g=k
    . have hb:(g==k)=true:=beq_iff_eq.mpr h
      simp only[List.lookup,hb,bw (λe:g=f=>hk (h.symm.trans e))]
    . have hb:(g==k)=false:=qw.mpr h
      simp only[List.lookup,hb];exact ih
theorem Tf(f:Str)(v:V):∀fs:List (Str×V),f∈(Ip f v fs).map (·.1)/\∀g,g∈fs.map (·.1)->g∈(Ip f v fs).map (·.1)
 |[]=>⟨by simp[Ip],λg h=>by simp at h⟩
 |(k,x)::r=>by
  obtain⟨i1,i2⟩:=Tf f v r;rw[show Ip f v ((k,x)::r)=(if k=f then(k,v)::r else(k,x)::Ip f v r) from rfl]
  by_cases hk:k=f
  . rw[cz hk]
    subst hk;exact⟨by simp,λg h=>by simpa using h⟩
  . rw[bw hk]
    refine⟨?_,λg h=>?_⟩
    . rw[gq]
      exact bc _ i1
    . rw[gq] at h ⊢
      rcases bz.mp h with e|e
      . exact bz.mpr (.inl e)
      . exact bc _ (i2 g e)
theorem Ug(f:Str)(v:V):∀fs:List (Str×V),(Ip f v fs).length<=fs.length+1
 |[]=>by simp[Ip]
 |(k,x)::r=>by
  have ih:=Ug f v r;rw[show Ip f v ((k,x)::r)=(if k=f then(k,v)::r else(k,x)::Ip f v r) from rfl]
  by_cases hk:k=f
  . rw[cz hk,gw,gw];exact x_
  . rw[bw hk,gw,gw];exact v_ ih
def Mp.some_of{v:V}{o:Option Value}(r:Mp (some v) o):∃u,o=some u/\RelV v u:=by
 cases o with
 |none=>exact(show False from r).elim
 |some u=>exact⟨u,rfl,r⟩
def Mp.none_of{o:Option Value}(r:Mp none o):o=none:=by
 cases o with
 |none=>rfl|some u=>exact(show False from r).elim
def akl{v:V}{u:Value}(r:RelV v u):PySem.W.handedIn u=true:=by
 cases v with
 |non=>cases(show u=Value.none from r);rfl
 |bl b=>cases(show u=Value.bool b from r);rfl
 |int i=>obtain⟨t,e⟩:=(show ∃t,u=Value.int i t from r);cases e;rfl
 |str x=>obtain⟨t,e⟩:=(show ∃t,u=Value.str x t from r);cases e;rfl
 |byt b=>obtain⟨t,e⟩:=(show ∃t,u=Value.bytes b t from r);cases e;rfl
 |flt b=>obtain⟨t,e⟩:=(show ∃t,u=Value.float b t from r);cases e;rfl
 |ref a=>cases(show u=Value.ref a from r);rfl
 |ty n=>cases(show u=Value.type n from r);rfl
def Ks{P:Program}{w:World}{H:Hp}{h:Heap}{a C dx:Addr}{fs:List (Str×V)}(Am:Py P w H h)(e:H a=some (.ins C dx fs)):∃mA,af7 h a dx C mA/\(∀f,Mp (fs.lookup f) (mA f))/\PySem.Within mA (fs.map (·.1))/\fs.length<=1000/\H dx=some (.own a):=by obtain⟨d,z,ne,ob,mA,n,r,q⟩:=(show Bj P w H h a (.ins C dx fs) from Am a _ e);exact⟨mA,⟨ob,n,ne⟩,r,q,z,d⟩
structure Cls(K:Fg)(C:Addr):Prop where
 pg:PySem.W.plainGet K C Str.empty=true
 hd:PySem.W.hasDictIn K C=true
 po:PySem.W.plainOver K C=true
 sa:PySem.W.findIn K (.ref C) "__setattr__" = some (some (.builtin "object.__setattr__"))
def Cls.get{K:Fg}{C:Addr}(c:Cls K C)(f:Str):PySem.W.plainGet K C f=true:=c.pg
def Gy(K:Fg)(C:Addr)(f:Str):Prop:=PySem.W.findIn K (.ref C) f=some none
def Gy.taker{K:Fg}{C:Addr}{f:Str}(n:Gy K C f):PySem.W.takerIn K C f=some none:=by unfold PySem.W.takerIn;rw[show PySem.W.findIn K (.ref C) f=some none from n];rfl
structure Meth(K:Fg)(C:Addr)(m:Str)(f:Addr):Prop where
 at_:PySem.W.findIn K (.ref C) m=some (some (.ref f))
 fn:PySem.W.isFn K (.ref f)=true
 kp:PySem.W.keepIn K (.ref f)=true
def af8{X:Cx}{pins:Zp}{σ:St}{H:Hp}{s:Shared}{a C dx:Addr}{fs:List (Str×V)}{f:Str}{v:V}{A:Around}{E:Y1}{b:Bool}{Q:Y1}(I:Inv X pins σ H s)(e:H a=some (.ins C dx fs))(c:Cls X.K C)(n:Gy X.K C f)(l:fs.lookup f=some v)
 (h:∀u s',Inv X pins σ H s'->RelV v u->Q u s'):wpAny (model X.prog X.w) A (getAttr (.ref a) f b) Q E s:=by
 obtain⟨mA,O,r,_,_,_⟩:=Ks I.Am e;obtain⟨u,hu,ru⟩:=Mp.some_of (v:=v) (o:=mA f) (by rw[<- l];exact r f);exact get_map I.U4 O (c.get f) c.hd n hu (akl ru) (h u _ (I.tok _) ru)
def Wb{X:Cx}{pins:Zp}{σ:St}{H:Hp}{s:Shared}{a C dx:Addr}{fs:List (Str×V)}{A:Around}{E:Y1}{m:Str}{g:Addr}{pl:Sem Bool}{Q:Value×List Value->Shared->Prop}(I:Inv X pins σ H s)(e:H a=some (.ins C dx fs))(c:Cls X.K C)(k:Meth X.K C m g)(l:fs.lookup m=none)
 (h:Q (.ref g,[.ref a]) s):wpAny (model X.prog X.w) A (getMethod (.ref a) m pl) Q E s:=by
 obtain⟨mA,O,r,_,_,_⟩:=Ks I.Am e;have hn:mA m=none:=Mp.none_of (by rw[<- l];exact r m);exact aos I.U4 O (c.get m) k.at_ k.fn hn h
def af9{X:Cx}{pins:Zp}{σ:St}{H:Hp}{s:Shared}{a C dx:Addr}{fs:List (Str×V)}{f:Str}{A:Around}{E:Y1}{y:V}{u:Value}{Q:Unit->Shared->Prop}(I:Inv X pins σ H s)(e:H a=some (.ins C dx fs))(c:Cls X.K C)(n:Gy X.K C f)(hl:fs.length<1000)(ry:RelV y u)
 (h:∀s',Inv X pins σ (upd H a (.ins C dx (Ip f y fs))) s'->Q () s'):wpAny (model X.prog X.w) A (setAttr (.ref a) f u) Q E s:=by
 obtain⟨mA,O,r,wi,_,ho⟩:=Ks I.Am e;have hz:(fs.map (·.1)).length<=sizeLine:=by rw[du,qy];exact e_ (b_ hl (by decide))
 refine auo I.U4 O c.sa c.po n.taker c.hd wi hz λh' O' sb=>h _ ?_
 have hd:∃o,h'.get? dx=some o:=let ⟨o,_,_,e',_⟩:=O'.ns;⟨o,e'⟩;refine I.write (x:=a) (e:=dx) (by rw[e];exact True.intro) (.inr ho) (λb q hb z=>(sb.2 b hb).trans z) hd ?_;refine⟨by rw[j9 O.ne];exact ho,?_,O.ne,O'.obj,_,O'.ns,λg=>?_,λg hg=>?_⟩
 . have:=Ug f y fs;exact a_ this hl
 . show Mp ((Ip f y fs).lookup g) (if g=f then some u else mA g)
   rw[Ue]
   by_cases q:g=f
   . rw[cz q,cz q];exact ry
   . rw[bw q,bw q];exact r g
 . by_cases q:g=f
   . rw[q];exact(Tf f y fs).1
   . refine(Tf f y fs).2 g (wi g λz=>hg ?_)
     show(if g=f then some u else mA g)=none;rw[bw q];exact z
def Inv.made{X:Cx}{pins:Zp}{σ:St}{H:Hp}{s:Shared}{C:Addr}(I:Inv X pins σ H s):Inv X pins σ (upd (upd H s.heap.objs.size (.own (s.heap.objs.size+1))) (s.heap.objs.size+1) (.ins C s.heap.objs.size []))
 { s with heap:=(s.heap.push PySem.W.emptyDict).push (PySem.W.instObj C s.heap.objs.size) }:=by
 have e1:(s.heap.push PySem.W.emptyDict).get? s.heap.objs.size=some PySem.W.emptyDict:=bu s.heap rfl;have e2:((s.heap.push PySem.W.emptyDict).push (PySem.W.instObj C s.heap.objs.size)).get? (s.heap.objs.size+1)=some (PySem.W.instObj C s.heap.objs.size):=by
  have:=bu (s.heap.push PySem.W.emptyDict) (o:=PySem.W.instObj C s.heap.objs.size) rfl
  rwa [iu] at this
 have e3:(s.heap.push PySem.W.emptyDict).Ns s.heap.objs.size (λ_=>none):=⟨PySem.W.emptyDict,#[],_,e1,rfl,(λe he=>absurd he (by simp)),λ_=>rfl⟩;have I1:=I.laid (a:=s.heap.objs.size) (o:=.own (s.heap.objs.size+1)) (h':=s.heap.push PySem.W.emptyDict) (t':=s.toks) (λb u q=>au _ q) (bh _) ⟨_,e1⟩;refine I1.laid (a:=s.heap.objs.size+1) (o:=.ins C s.heap.objs.size []) (t':=s.toks) (λb u q=>au _ q) (Nat.le_of_eq (iu _ _)) ?_;have ne:s.heap.objs.size≠s.heap.objs.size+1:=dz (p7 _);refine⟨by rw[j9 ne,xf],ju _,ne,e2,λ_=>none,(Heap.Ns1.of_empty e3).at λo q=>au _ q,λ_=>True.intro,λy hy=>absurd rfl hy⟩
def aup{A:Around}{E:Y1}{prog:Program}{w:World}{env:Env}{e:Expr}{f:Str}{pos:Pos}{s:Shared}{Q:Y1}(hb:attributeBase e f env (eval e env)=eval e env)
 (h:wpAny (model prog w) A (eval e env) (λo s₁=>wpAny (model prog w) A (getAttr o f true) Q E s₁) E s):wpAny (model prog w) A (eval (.Attribute e f pos) env) Q E s :=
 Attribute_any_ h (by rw[arm_eval_Attribute,hb])
def bek(K:Fg)(ta:TE)(f:Str):TE:=fun σ H Q=>ta σ H λx H1=>∃a C dx fs v,x=.ref a/\H1 a=some (.ins C dx fs)/\Cls K C/\Gy K C f/\fs.lookup f=some v/\Q v H1
def bel(K:Fg)(ta tv:TE)(f:Str):TS:=λD σ H=>tv σ H λy H1=>ta σ H1 λx H2=>∃a C dx fs,x=.ref a/\H2 a=some (.ins C dx fs)/\Cls K C/\Gy K C f/\fs.length<1000 /\
 D.nx σ (upd H2 a (.ins C dx (Ip f y fs)))
def a01{X:Cx}{e:Expr}{f:Str}{pos:Pos}{ta:TE}(he:PE X e ta)(hb:attributeBase e f X.env (eval e X.env)=eval e X.env):PE X (.Attribute e f pos) (bek X.K ta f):=by intro pins s σ H Q I h;refine aup hb (Bu (he pins s σ H _ I h) λu s1 z_=>?_);obtain⟨x,H1,I1,rx,a,C,dx,fs,v,ex,ea,c,n,l,q⟩:=z_;subst ex;obtain rfl:u=Value.ref a:=rx;exact af8 I1 ea c n l λu' s2 I2 ru=>⟨v,H1,I2,ru,q⟩
def a02{X:Cx}{o value:Expr}{f:Str}{pos pos':Pos}{ta tv:TE}(ha:PE X o ta)(hv:PE X value tv)(hs:swapsWith value (some (.Attribute o f pos')) pos.line X.env=pure false):PS X (.Assign [.Attribute o f pos'] value pos) (bel X.K ta tv f):=by intro pins s σ H D I h;refine plainObj_wpAny_Assign_Attribute (Bu (hv pins s σ H _ I h) λu s1 ⟨y,H1,I1,ry,q⟩=>Bu (ha pins s1 σ H1 _ I1 q) λov s2 ⟨x,H2,I2,rx,a,C,dx,fs,ex,ea,c,n,l,q2⟩=>?_) hs;subst ex;obtain rfl:ov=Value.ref a:=rx;exact af9 I2 ea c n l ry λs3 I3=>⟨σ,_,I3,q2⟩
inductive U6(K:Fg)(H:Hp):V->Value->Prop where
 |non:U6 K H .non (.type "NoneType")
 |bl (x:Bool):U6 K H (.bl x) (.type "bool")
 |int (i:Int):U6 K H (.int i) (.type "int")
 |str (x:Str):U6 K H (.str x) (.type "str")
 |flt (x:UInt64):U6 K H (.flt x) (.type "float")
 |lst {a:Addr} {xs:List V} (e:H a=some (.lst xs)):U6 K H (.ref a) (.type "list")
 |N7 {a:Addr} {o:Obj} {xs:List V} (e:H a=some (.N7 o (.lst xs))):U6 K H (.ref a) (.type "list")
 |tup {a:Addr} {xs:List V} (e:H a=some (.tup xs)):U6 K H (.ref a) (.type "tuple")
 |dK {a:Addr} {ie:List (Key×V)} (e:H a=some (.dK ie)):U6 K H (.ref a) (.type "dict")
 |dT {a:Addr} {ie:List (List Key×V)} (e:H a=some (.dT ie)):U6 K H (.ref a) (.type "dict")
 |ins {a C dx:Addr} {fs:List (Str×V)} (e:H a=some (.ins C dx fs)) (cl:Cls K C) (ha:PySem.W.findIn K (.ref C) "__class__" = some (some (.builtin "object.__class__")))
  (hn:PySem.W.specialIn K (.builtin "object.__class__") "__get__" = some (some (.builtin "getset_descriptor.__get__"))) (htk:PySem.W.takesIn K (.builtin "object.__class__")=some true)
  (hm:PySem.W.mroIn K C (.type "object")=some true):U6 K H (.ref a) (.ref C)
def akm{X:Cx}{pins:Zp}{σ:St}{H:Hp}{s:Shared}{A:Around}{E Q:Y1}{c:Value}{b:Bool}{x:V}{u t:Value}(I:Inv X pins σ H s)(rx:RelV x u)(ty:U6 X.K H x t)(e:PySem.W.kitOne X.K t c=some b)(h:∀tk,Q (.bool b) { s with toks:=tk }) :
 wpAny (model X.prog X.w) A (call (.builtin "isinstance") [u,c]) Q E s:=by
 cases ty with
 |non=>cases(show u=Value.none from rx);exact rz PySem.W.kitx_none I.U4 True.intro e (λz=>nomatch z) h
 |bl y=>cases(show u=Value.bool y from rx);exact rz PySem.W.kitx_bool I.U4 True.intro e (λz=>nomatch z) h
 |int i=>obtain⟨t,q⟩:=(show ∃t,u=Value.int i t from rx);cases q;exact rz PySem.W.kitx_int I.U4 True.intro e (λz=>nomatch z) h
 |str y=>obtain⟨t,q⟩:=(show ∃t,u=Value.str y t from rx);cases q;exact rz PySem.W.kitx_str I.U4 True.intro e (λz=>nomatch z) h
 |flt y=>obtain⟨t,q⟩:=(show ∃t,u=Value.float y t from rx);cases q;exact rz PySem.W.kitx_float I.U4 True.intro e (λz=>nomatch z) h
 |@lst a xs ea =>
  cases(show u=Value.ref a from rx);obtain⟨_,_,n,_,h1⟩:=(show Bj X.prog X.w H s.heap a (.lst xs) from I.Am a _ ea);exact rz PySem.W.kitx_list I.U4 ⟨_,h1,rfl⟩ e (λz=>nomatch z) h
 |@N7 a ob xs ea =>
  cases(show u=Value.ref a from rx);obtain⟨_,_,_,n,_,h1⟩:=(show Bj X.prog X.w H s.heap a (.N7 ob (.lst xs)) from I.Am a _ ea);exact rz PySem.W.kitx_list I.U4 ⟨_,h1,rfl⟩ e (λz=>nomatch z) h
 |@tup a xs ea =>
  cases(show u=Value.ref a from rx);obtain⟨_,_,_,p⟩:=(show Bj X.prog X.w H s.heap a (.tup xs) from I.Am a _ ea);obtain⟨o,h1,h2,_⟩:=p;exact rz PySem.W.kitx_tuple I.U4 ⟨o,h1,h2⟩ e (λz=>nomatch z) h
 |@dK a ie ea =>
  cases(show u=Value.ref a from rx);obtain⟨_,_,vs,_,p⟩:=(show Bj X.prog X.w H s.heap a (.dK ie) from I.Am a _ ea);obtain⟨o,es,ep,h1,h2,_⟩:=p;exact rz PySem.W.kitx_dict I.U4 ⟨o,h1,h2.1⟩ e (λz=>nomatch z) h
 |@dT a ie ea =>
  cases(show u=Value.ref a from rx);obtain⟨_,_,xs,_,o,es,ep,h1,h2,_⟩:=(show Bj X.prog X.w H s.heap a (.dT ie) from I.Am a _ ea);exact rz PySem.W.kitx_dict I.U4 ⟨o,h1,h2.1⟩ e (λz=>nomatch z) h
 |@ins a C dx fs ea cl ha hn htk hm =>
  cases(show u=Value.ref a from rx);obtain⟨mA,O,_⟩:=Ks I.Am ea;obtain⟨od,J,_⟩:=O.look;exact rz (PySem.W.kitx_own (cl.get _) cl.hd ha hn htk hm) I.U4 J e (λz=>nomatch z) h
end L2
namespace L2
open PySem PySem.Spec PyProof.Rows
structure Aj(k:Nat)(A:Around):Prop where
 hd:A.handled=none
 dp:A.depth+3*k+5<recursionLimit
 un:A.units+16*k+200<cLine
def Aj.mono{j k:Nat}{A:Around}(r:Aj k A)(h:j<=k):Aj j A:=⟨r.hd,by have:=r.dp;lia,by have:=r.un;lia⟩
theorem Aj.deeper{k:Nat}{A:Around}(r:Aj (k+1) A)(env:Env):Aj k (A.deeper env) :=
 ⟨r.hd,by have:=r.dp;show A.depth+1+3*k+5<_;lia,by have:=r.un;show A.units+3+16*k+200<_;lia⟩
theorem Aj.in1{k:Nat}{A:Around}(r:Aj (k+1) A):Aj k A.in1 :=
 ⟨r.hd,by have:=r.dp;show A.depth+3*k+5<_;lia,by have:=r.un;show A.units+1+16*k+200<_;lia⟩
def aga{A:Around}{C:Addr}{us:Zl}{kw:List (Str×Value)}:(A.under (.builtin "type.__call__" ⟨.ref C::us,kw⟩)).depth=A.depth+1:=by first|rfl|simp[Around.under,Code.weight,Code.isCreation,Code.isGuard,Code.isCaller,Code.frames,Code.isFrame,guardIds]
def agb{A:Around}{C:Addr}{us:Zl}{kw:List (Str×Value)}:(A.under (.builtin "type.__call__" ⟨.ref C::us,kw⟩)).units=A.units+1:=by first|rfl|simp[Around.under,Code.cUnits,Code.frames,Code.isFrame]
def Aj.make{k:Nat}{A:Around}(r:Aj (k+1) A)(C:Addr)(us:Zl)(kw:List (Str×Value)):Aj k (A.under (.builtin "type.__call__" ⟨.ref C::us,kw⟩)) :=
 ⟨r.hd,by have:=r.dp;rw[aga];lia,by have:=r.un;rw[agb];lia⟩
theorem Aj.depth{k:Nat}{A:Around}(r:Aj k A):A.depth<recursionLimit:=by have:=r.dp;lia
theorem Aj.units{k:Nat}{A:Around}(r:Aj k A):A.units+64<cLine:=by have:=r.un;lia
def Aj.Wc{k:Nat}{A:Around}(r:Aj k A):A.units<cLine:=by have:=r.un;lia
def a7s:TA:=λ_ H Q=>Q [] H
def a7t(ta:TE)(tr:TA):TA:=fun σ H Q=>ta σ H λx H1=>tr σ H1 λxs H2=>Q (x::xs) H2
def a03{X:Cx}:PA X [] a7s:=λ_ _ _ _ H Q I h=>w6 ⟨[],H,I,.nil,h⟩
def auq{X:Cx}{e:Expr}{es:Ya}{te:TE}{t:TA}(ha:PE X e te)(hr:PA X es t)(hs:starEach (e::es) X.env=(false,eval e X.env)::starEach es X.env:=by rfl):PA X (e::es) (a7t te t):=by intro pos pins s σ H Q I h;rw[hs];show wpAny _ _ (spliced ((false,eval e X.env)::backTo pos (starEach es X.env))) _ _ s;refine um (Bu (ha pins s σ H _ I h) λu s1 z_=>?_);obtain⟨x,H1,I1,r1,q1⟩:=z_;exact Bu (hr pos pins s1 σ H1 _ I1 q1) λus s2 ⟨xs,H2,I2,r2,q2⟩=>⟨x::xs,H2,I2,.cons r1 r2,q2⟩
def bem(t:TA):TE:=fun σ H Q=>t σ H λxs H1=>xs.length<=sizeLine/\∀p,H1 p=none->Q (.ref p) (upd H1 p (.tup xs))
def ben(t:TA):TE:=fun σ H Q=>t σ H λxs H1=>xs.length<=sizeLine/\∀p,H1 p=none->Q (.ref p) (upd H1 p (.lst xs))
def a04{X:Cx}{es:Ya}{t:TA}{pos:Pos}{x1}(h:PA X es t):PE X (.Tuple es x1 pos) (bem t):=by intro pins s σ H Q I hq;refine wpAny_Tuple_spliced (Bu (h pos pins s σ H _ I hq) λus s1 ⟨xs,H1,I1,r,z,q⟩=>⟨by rw[<- r.length];exact z,?_⟩);have hf:H1 s1.heap.objs.size=none:=I1.Am.fresh (bh _);refine⟨.ref s1.heap.objs.size,upd H1 s1.heap.objs.size (.tup xs),I1.laid (t':=s1.toks) (λb u e=>au _ e) (bh _) ?_,rfl,q _ hf⟩;exact⟨z,us,r,X4.new _ _⟩
def aou{X:Cx}{es:Ya}{t:TA}{pos:Pos}(h:PA X es t):PE X (.List es pos) (ben t):=by intro pins s σ H Q I hq;refine wpAny_List_spliced (Bu (h pos pins s σ H _ I hq) λus s1 ⟨xs,H1,I1,r,z,q⟩=>⟨by rw[<- r.length];exact z,?_⟩);have hf:H1 s1.heap.objs.size=none:=I1.Am.fresh (bh _);refine⟨.ref s1.heap.objs.size,upd H1 s1.heap.objs.size (.lst xs),I1.laid (t':=s1.toks) (λb u e=>au _ e) (bh _) ?_,rfl,q _ hf⟩;exact⟨z,us,0,r,bu _ rfl⟩
abbrev Sp:=List V->Hp->VK->XK->Prop
abbrev CXT:=List Env->Hp->Shared->XK->Value->Shared->Prop
structure agd(P:Program)(w:World)(K:Fg)(mg:Zs)(base:Heap)(A:Around)(outer:List Env)(s:Shared)(H:Hp):Prop where
 frames:A.frames=some outer
 mod:Mod K mg base
 bs:∀b o,base.get? b=some o->s.heap.get? b=some o/\H b=none
 bsz:base.objs.size<=s.heap.objs.size
 U3:s.heap.FunFrames base outer
 frf:∀b∈frs outer,H b=none
 Am:Py P w H s.heap
 bare:AllBare s.gens
def CE(outer:List Env)(P:Program)(w:World)(H:Hp)(s:Shared)(Q:VK)(u:Value)(s':Shared):Prop :=
 ∃v H',s'.os=s.os/\AllBare s'.gens/\Un (frs outer) [] H H' s.heap s'.heap/\Py P w H' s'.heap/\RelV v u/\Q v H'
def CR(CX:CXT)(outer:List Env)(P:Program)(w:World)(H:Hp)(s:Shared)(Q:VK)(E:XK)(r:Result)(s':Shared):Prop :=
 match r with
 |.ok (.ret u)=>CE outer P w H s Q u s'|.ok _=>False|.error e=>CX outer H s E e s'
structure Fo(P:Program)(w:World)(K:Fg)(mg:Zs)(base:Heap)(CX:CXT)(k:Nat)(f:Addr)(fd:FuncData)(ps:Yf)(sp:Sp):Prop where
 len:∀vs H Q E,sp vs H Q E->vs.length=ps.length
 run:∀(A:Around)(outer:List Env)(s:Shared)(H:Hp)(args:Args)(us:Zl)(vs:List V)(Q:VK)(E:XK),Aj k A->agd P w K mg base A outer s H->BindsTo s fd args (ps.zip us)->Vals vs us->sp vs H Q E ->
  codeAny (model P w) A (.call (.ref f) args) (CR CX outer P w H s Q E) s
def Fo.imp{P:Program}{w:World}{K:Fg}{mg:Zs}{base:Heap}{CX:CXT}{k:Nat}{f:Addr}{fd:FuncData}{ps:Yf}{sp sp':Sp}(F:Fo P w K mg base CX k f fd ps sp)
 (h:∀vs H Q E,sp' vs H Q E->sp vs H Q E):Fo P w K mg base CX k f fd ps sp' :=
 ⟨λvs H Q E q=>F.len vs H Q E (h _ _ _ _ q),λA outer s H args us vs Q E hr he hb hv hs=>F.run A outer s H args us vs Q E hr he hb hv (h _ _ _ _ hs)⟩
def agd.make{P:Program}{w:World}{K:Fg}{mg:Zs}{base:Heap}{A:Around}{outer:List Env}{s:Shared}{H:Hp}(e:agd P w K mg base A outer s H)(C:Addr)(us:Zl)(kw:List (Str×Value)) :
 agd P w K mg base (A.under (.builtin "type.__call__" ⟨.ref C::us,kw⟩)) outer s H:=⟨by first|exact e.frames|(simpa[Around.under,Code.envs,Code.isFrame,pushEnvs] using e.frames),e.mod,e.bs,e.bsz,e.U3,e.frf,e.Am,e.bare⟩
def Inv.env0{X:Cx}{pins:Zp}{σ:St}{H:Hp}{s:Shared}(I:Inv X pins σ H s):agd X.prog X.w X.K X.mg X.base X.A X.stack s H :=
 ⟨I.ok.frames,I.ok.mod,I.bs,gn I.ok.bsz I.sz,I.stack,I.ahx,I.Am,I.bare⟩
def Inv.after{X:Cx}{pins:Zp}{σ:St}{H:Hp}{s s':Shared}{Q:VK}{u:Value}(I:Inv X pins σ H s)(h:CE X.stack X.prog X.w H s Q u s'):EP X pins σ Q u s':=by obtain⟨v,H',os,bare,un,Am,r,q⟩:=h;obtain⟨hh,g,d,t,os'⟩:=s';obtain rfl:os'=s.os:=os;exact⟨v,H',I.call (h':=hh) (g':=g) (d':=d) (t':=t) (ch:=[]) un Am bare (λb z=>absurd z (by simp)),r,q⟩
def a7u(sp:Sp)(Uh:List V)(E:XK)(t:TA):TE:=fun σ H Q=>t σ H λvs H1=>sp (vs++Uh) H1 Q E
def ax4(C:Addr)(m:Str)(sp:Sp)(Uh:List V)(E:XK)(ta:TE)(t:TA):TE:=fun σ H Q=>ta σ H λx H1=>∃a dx fs,x=.ref a/\H1 a=some (.ins C dx fs)/\fs.lookup m=none /\
 t σ H1 λvs H2=>sp (x::(vs++Uh)) H2 Q E
def a7v(C:Addr)(sp:Sp)(Uh:List V)(E:XK)(t:TA):TE:=fun σ H Q=>t σ H λvs H1=>∀x dx,H1 x=none->H1 dx=none->dx≠x ->
 sp (.ref x::(vs++Uh)) (upd (upd H1 dx (.own x)) x (.ins C dx [])) (λv H2=>v=.non/\Q (.ref x) H2) E
def Binds(K:Fg)(fd:FuncData)(ps:Yf)(ds:Zl):Prop :=
 ∀(s:Shared)(us:Zl),K.In s.heap->(us++ds).length=ps.length->BindsTo s fd ⟨us,[]⟩ (ps.zip (us++ds))
def Binds.all{K:Fg}{fd:FuncData}{ps:Yf}(h:∀us:List Value,us.length=ps.length->bindArgs fd ⟨us,[]⟩=pure (ps.zip us)):Binds K fd ps []:=λs us _ hl=>by rw[Bf] at hl ⊢;exact .of_eq (h us hl)
def Passes(CX:CXT)(X:Cx)(E:XK):Prop:=∀(pins:Zp)(σ:St)(H:Hp)(s:Shared)(e:Value)(s':Shared),Inv X pins σ H s->CX X.stack H s E e s'->X.xe e s'
def age{X:Cx}{CX:CXT}{k:Nat}{f:Addr}{fd:FuncData}{ps:Yf}{sp:Sp}{Uh:List V}{ds:Zl}{E:XK}{pins:Zp}{σ:St}{H:Hp}{s:Shared}{Q:VK}{us:Zl}{vs:List V}(F:Fo X.prog X.w X.K X.mg X.base CX k f fd ps sp)(hr:Aj k X.A)(hb:Binds X.K fd ps ds)(hd:Vals Uh ds)(hx:Passes CX X E)
 (I:Inv X pins σ H s) (r:Vals vs us) (h:sp (vs++Uh) H Q E):wpAny (model X.prog X.w) X.A (call (.ref f) us) (EP X pins σ Q) X.xe s:=by
 have r2:Vals (vs++Uh) (us++ds):=r.append hd;have hl:(us++ds).length=ps.length:=by rw[<- r2.length];exact F.len _ _ _ _ h
 refine wpAny_call (wu (F.run X.A X.stack s H ⟨us,[]⟩ (us++ds) (vs++Uh) Q E hr I.env0 (hb s us I.U4 hl) r2 h) λr s' hq=>?_);cases r with
 |error e=>exact hx pins σ H s e s' I hq
 |ok fl =>
  cases fl with
  |ret u=>exact I.after hq|next=>exact False.elim hq|brk=>exact False.elim hq|cont=>exact False.elim hq
def aur{X:Cx}{CX:CXT}{k:Nat}{f:Addr}{fd:FuncData}{ps:Yf}{sp:Sp}{Uh:List V}{ds:Zl}{E:XK}{x:Str}{p pos:Pos}{e:Expr}{es:Ya}{t:TA}(F:Fo X.prog X.w X.K X.mg X.base CX k f fd ps sp)(hr:Aj k X.A)(hg:Gl X x)(hm:X.mg x=some (.ref f))(hk:PySem.W.keepIn X.K (.ref f)=true)(hb:Binds X.K fd ps ds)(hd:Vals Uh ds)(hx:Passes CX X E)
 (ha:PA X (e::es) t) (Ui:(x==("__debug__" : Str))=false:=by decide) (he:starEach (e::es) X.env=(false,eval e X.env)::starEach es X.env:=by rfl) (Ik:(backTo pos (starEach es X.env)).any (·.1)=false:=by rfl) :
 PE X (.Call (.Name x p) (e::es) [] pos) (a7u sp Uh E t):=by
 intro pins s σ H Q I h;refine jc (aax I hg hm ?_ Ui);refine PySem.W.callWith_K (h₀:=X.base) I.ok.mod.kin hk (Bu (ha pos pins s σ H _ I h) λus s1 ⟨vs,H1,I1,r,q⟩=>⟨I1.U4,?_⟩) he Ik;exact age F hr hb hd hx I1 r q
def aus{X:Cx}{CX:CXT}{k:Nat}{f C:Addr}{fd:FuncData}{ps:Yf}{sp:Sp}{Uh:List V}{ds:Zl}{E:XK}{m:Str}{pos apos:Pos}{e o:Expr}{es:Ya}{ta:TE}{t:TA}{pl:Sem Bool}(he:PE X o ta)(c:Cls X.K C)(hm:Meth X.K C m f)(F:Fo X.prog X.w X.K X.mg X.base CX k f fd ps sp)(hr:Aj k X.A)(hb:Binds X.K fd ps ds)(hd:Vals Uh ds)(hx:Passes CX X E)(ha:PA X (e::es) t)
 (Xu:starEach (e::es) X.env=(false,eval e X.env)::starEach es X.env:=by rfl) (Ik:(backTo pos (starEach es X.env)).any (·.1)=false:=by rfl)
 (ht:eval (.Call (.Attribute o m apos) (e::es) [] pos) X.env=(do
  let ov <- eval o X.env
  standAt apos.atName
  let (f,first) <- holding [ov] (getMethod ov m pl)
  callWith pos f first (backTo pos (starEach (e::es) X.env)) (backToKw pos (keywordEach [] X.env))):=by rfl) :
 PE X (.Call (.Attribute o m apos) (e::es) [] pos) (ax4 C m sp Uh E ta t):=by
 intro pins s σ H Q I h;refine PySem.W.methodCall_KW (pl:=pl) (Bu (he pins s σ H _ I h) λu s1 ⟨x,H1,I1,rx,a,dx,fs,ex,ea,l,q⟩=>?_) ht;subst ex;obtain rfl:u=Value.ref a:=rx;refine Wb I1 ea c hm l ?_;refine PySem.W.callWith_K (first:=[.ref a]) (h₀:=X.base) I.ok.mod.kin hm.kp (Bu (ha pos pins s1 σ H1 _ I1 q) λus s2 ⟨vs,H2,I2,r,q2⟩=>⟨I2.U4,?_⟩) Xu Ik;exact age (us:=.ref a::us) (vs:=.ref a::vs) F hr hb hd hx I2 (.cons rfl r) q2
def aov{X:Cx}{CX:CXT}{k:Nat}{f C:Addr}{fd:FuncData}{ps:Yf}{sp:Sp}{Uh:List V}{ds:Zl}{E:XK}{m:Str}{pos apos:Pos}{o:Expr}{ta:TE}{pl:Sem Bool}(he:PE X o ta)(c:Cls X.K C)(hm:Meth X.K C m f)(F:Fo X.prog X.w X.K X.mg X.base CX k f fd ps sp)(hr:Aj k X.A)(hb:Binds X.K fd ps ds)(hd:Vals Uh ds)(hx:Passes CX X E)
 (ht:eval (.Call (.Attribute o m apos) [] [] pos) X.env=(do
  let ov <- eval o X.env
  standAt apos.atName
  let (f,first) <- holding [ov] (getMethod ov m pl)
  callWith pos f first (backTo pos (starEach [] X.env)) (backToKw pos (keywordEach [] X.env))):=by rfl) :
 PE X (.Call (.Attribute o m apos) [] [] pos) (ax4 C m sp Uh E ta a7s):=by
 intro pins s σ H Q I h;refine PySem.W.methodCall_KW (pl:=pl) (Bu (he pins s σ H _ I h) λu s1 ⟨x,H1,I1,rx,a,dx,fs,ex,ea,l,q⟩=>?_) ht;subst ex;obtain rfl:u=Value.ref a:=rx;refine Wb I1 ea c hm l ?_;exact PySem.W.callWith_K0 (first:=[.ref a]) I1.U4 hm.kp (age (us:=[.ref a]) (vs:=[.ref a]) F hr hb hd hx I1 (.cons rfl .nil) q)
structure Mk(K:Fg)(C f:Addr):Prop where
 makes:PySem.W.makesIn K C=true
 init:PySem.W.findIn K (.ref C) "__init__" = some (some (.ref f))
 fn:PySem.W.isFn K (.ref f)=true
 kp:PySem.W.keepIn K (.ref C)=true
def aow{X:Cx}{CX:CXT}{k:Nat}{f C:Addr}{fd:FuncData}{ps:Yf}{sp:Sp}{Uh:List V}{ds:Zl}{E:XK}{pins:Zp}{σ:St}{H:Hp}{s:Shared}{Q:VK}{us:Zl}{vs:List V}(M:Mk X.K C f)(F:Fo X.prog X.w X.K X.mg X.base CX k f fd ps sp)(hr:Aj (k+1) X.A)(hb:Binds X.K fd ps ds)(hd:Vals Uh ds)
 (hx:Passes CX X E) (I:Inv X pins σ H s) (r:Vals vs us)
 (h:∀x dx,H x=none->H dx=none->dx≠x->sp (.ref x::(vs++Uh)) (upd (upd H dx (.own x)) x (.ins C dx [])) (λv H2=>v=.non/\Q (.ref x) H2) E) :
 wpAny (model X.prog X.w) X.A (call (.ref C) us) (EP X pins σ Q) X.xe s:=by
 have hq:=h (s.heap.objs.size+1) s.heap.objs.size (I.Am.fresh (vz _)) (I.Am.fresh (bh _)) (dz (p7 _));have I2:=Inv.made (C:=C) I;have r2:Vals (V.ref (s.heap.objs.size+1)::(vs++Uh)) (Value.ref (s.heap.objs.size+1)::(us++ds)):=.cons rfl (r.append hd);have hl:(Value.ref (s.heap.objs.size+1)::us++ds).length=ps.length:=by have e:=r2.length;rw[F.len _ _ _ _ hq] at e;exact e.symm
 refine wpAny_call (aot (f:=f) I.U4 M.makes M.init (beq_iff_eq.mp M.fn) (wu (F.run _ X.stack _ _ ⟨Value.ref (s.heap.objs.size+1)::us,[]⟩ (Value.ref (s.heap.objs.size+1)::(us++ds)) _ _ E (hr.make C us [])
  (I2.env0.make C us []) (hb _ (Value.ref (s.heap.objs.size+1)::us) I2.U4 hl) r2 hq) λr s' hq'=>?_))
 cases r with
 |error e=>exact hx pins σ _ _ e s' I2 hq'
 |ok fl =>
  cases fl with
  |ret u =>
   obtain⟨v,H',I3,rv,ev,q3⟩:=I2.after hq';subst ev;exact⟨rv,⟨V.ref (s.heap.objs.size+1),H',I3,rfl,q3⟩⟩
  |next=>exact False.elim hq'|brk=>exact False.elim hq'|cont=>exact False.elim hq'
def aut{X:Cx}{CX:CXT}{k:Nat}{f C:Addr}{fd:FuncData}{ps:Yf}{sp:Sp}{Uh:List V}{ds:Zl}{E:XK}{x:Str}{p pos:Pos}{e:Expr}{es:Ya}{t:TA}(M:Mk X.K C f)(F:Fo X.prog X.w X.K X.mg X.base CX k f fd ps sp)(hr:Aj (k+1) X.A)(hg:Gl X x)(hm:X.mg x=some (.ref C))(hb:Binds X.K fd ps ds)(hd:Vals Uh ds)(hx:Passes CX X E)
 (ha:PA X (e::es) t) (Ui:(x==("__debug__" : Str))=false:=by decide) (he:starEach (e::es) X.env=(false,eval e X.env)::starEach es X.env:=by rfl) (Ik:(backTo pos (starEach es X.env)).any (·.1)=false:=by rfl) :
 PE X (.Call (.Name x p) (e::es) [] pos) (a7v C sp Uh E t):=by
 intro pins s σ H Q I h;refine jc (aax I hg hm ?_ Ui);refine PySem.W.callWith_K (h₀:=X.base) I.ok.mod.kin M.kp (Bu (ha pos pins s σ H _ I h) λus s1 ⟨vs,H1,I1,r,q⟩=>⟨I1.U4,?_⟩) he Ik;exact aow M F hr hb hd hx I1 r q
structure Vf(N P:Yf)(sc:Scope):Prop where
 kind:sc.kind=.function
 co:sc.isCoroutine=false
 gen:sc.isGenerator=false
 nd:N.Nodup
 pre:N.take P.length=P
 par:∀x∈P,sc.names.lookup x=some .local\/sc.names.lookup x=some .cell
 a05:∀y∈sc.names,y.2≠.free
theorem Y0{kindOf:Str->Option NameKind}{x:Str}:∀{binds:List (Str×Value)}{m:Zs},(∀v,(x,v)∉binds)->bindL kindOf binds m x=m x
 |[],_,_=>rfl
 |(n,v)::r,m,h=>by
  unfold bindL;rw[Y0 λw hw=>h w (bc _ hw)];split
  . have:x≠n:=by rintro rfl;exact h v di
    simp[this]
  . rfl
theorem Y4{kindOf:Str->Option NameKind}{x:Str}:∀{binds:List (Str×Value)}{m:Zs},(∀v,(x,v)∉binds)->bindC kindOf binds m x=m x
 |[],_,_=>rfl
 |(n,v)::r,m,h=>by
  unfold bindC;rw[Y4 λw hw=>h w (bc _ hw)];split
  . rfl
  . have:x≠n:=by rintro rfl;exact h v di
    simp[this]
theorem Y5{kindOf:Str->Option NameKind}{x:Str}{v:Value}:∀{P:Yf}{vs:Zl}{i:Nat}{m:Zs},P.Nodup->P[i]?=some x->vs[i]?=some v->kindOf x=some .local ->
 bindL kindOf (P.zip vs) m x=some v
 |[],_,_,_,_,h,_,_=>by simp at h|_::_,[],_,_,_,_,h,_=>by simp at h
 |p::P,w::vs,0,m,nd,h1,h2,hk=>by
  simp at h1 h2;subst h1;subst h2;show bindL kindOf ((p,w)::P.zip vs) m p=_;unfold bindL;rw[Y0 λv hv=>(mq.mp nd).1 (List.of_mem_zip hv).1,cz hk];simp
 |p::P,w::vs,i+1,m,nd,h1,h2,hk=>by
  show bindL kindOf ((p,w)::P.zip vs) m x=_;unfold bindL;exact Y5 (i:=i) (mq.mp nd).2 (by simpa using h1) (by simpa using h2) hk
theorem Y6{kindOf:Str->Option NameKind}{x:Str}{v:Value}:∀{P:Yf}{vs:Zl}{i:Nat}{m:Zs},P.Nodup->P[i]?=some x->vs[i]?=some v->kindOf x≠some .local ->
 bindC kindOf (P.zip vs) m x=some v
 |[],_,_,_,_,h,_,_=>by simp at h|_::_,[],_,_,_,_,h,_=>by simp at h
 |p::P,w::vs,0,m,nd,h1,h2,hk=>by
  simp at h1 h2;subst h1;subst h2;show bindC kindOf ((p,w)::P.zip vs) m p=_;unfold bindC;rw[Y4 λv hv=>(mq.mp nd).1 (List.of_mem_zip hv).1,bw hk];simp
 |p::P,w::vs,i+1,m,nd,h1,h2,hk=>by
  show bindC kindOf ((p,w)::P.zip vs) m x=_;unfold bindC;exact Y6 (i:=i) (mq.mp nd).2 (by simpa using h1) (by simpa using h2) hk
noncomputable def start(N:Yf)(vs:List V):St:=vs.map some++List.replicate (N.length-vs.length) none
noncomputable def agf(CX:CXT)(P:Program)(w:World)(K:Fg)(mg:Zs)(base:Heap)(N:Yf)(qual:Str)(scope:Scope)(f:Addr)(cd:Value)(A:Around)(outer:List Env)(s:Shared)(H:Hp)(E:XK):Cx where
 prog:=P
 w:=w
 K:=K
 mg:=mg
 base:=base
 A:=A.deeper (envOfC qual scope s.heap.objs.size f cd)
 N:=N
 s₀:=s
 H₀:=H
 env:=envOfC qual scope s.heap.objs.size f cd
 outer:=outer
 stack:=envOfC qual scope s.heap.objs.size f cd::outer
 ex:=[]
 calm:=true
 fn:=λ_=>true
 pn:=[]
 xe:=λe s'=>wpAny (model P w) (A.deeper (envOfC qual scope s.heap.objs.size f cd)) (leaving (envOfC qual scope s.heap.objs.size f cd) e) (λ_ s''=>CX outer H s E e s'') (λe' s''=>CX outer H s E e' s'') s'
def adi{sc:Scope}{n:Nat}{x:Str}(h:sc.names.lookup x=some .cell):∃c,(cellsFrom n sc.names []).lookup x=some c:=by have q:=PySem.W.cellsFrom_some sc.names n [] (.inl h);exact m7.mp q
def akn{CX:CXT}{P:Program}{w:World}{K:Fg}{mg:Zs}{base:Heap}{N ps:Yf}{qual:Str}{scope:Scope}{f:Addr}{cd:Value}{A:Around}{outer:List Env}{s s1:Shared}{H:Hp}{E:XK}{us:Zl}{vs:List V}
 (S:Vf N ps scope) (hd:A.handled=none) (e0:agd P w K mg base A outer s H) (hl:vs.length=ps.length) (r:Vals vs us)
 (x:InCallC s s.heap.objs.size (bindL (envOfC qual scope s.heap.objs.size f cd).kindOf (ps.zip us) λ_=>none) (cellsFrom (s.heap.objs.size+1) scope.names []) (bindC (envOfC qual scope s.heap.objs.size f cd).kindOf (ps.zip us) λ_=>none) s1) :
 Inv (agf CX P w K mg base N qual scope f cd A outer s H E) [] (start N vs) H s1:=by
 have Ik:ps.length<=N.length:=by have:=qz List.length S.pre;rw[List.length_take] at this;lia
 obtain⟨h1,tk,rfl,hk⟩:=x.done;have noA:∀b:Addr,b∉(agf CX P w K mg base N qual scope f cd A outer s H E).ex:=λb z=>absurd (show b∈([]:X9) from z) (by simp)
 refine⟨⟨e0.mod,S.kind,rfl,rfl,bh _,λy z c h1 h2=>?_,λy hy=>?_,λy c _ h=>?_,λ_=>hd,Around.frames_deeper e0.frames,.inr ⟨rfl,rfl⟩,λb z=>absurd z (noA b),e0.bs,e0.bsz,λb _ _=>noA b,λb z=>absurd z (noA b),e0.U3,e0.frf⟩,
  rfl,e0.bare,Un.kept hk,⟨_,x.toInCall.ns,λi y v h1 h2 h3=>?_⟩,λy c h=>⟨_,x.cell y c h⟩,e0.Am.fresh (bh _),λy c h=>?_,λp hp=>absurd (show p∈([]:Zp) from hp) (by simp),e0.Am.kept hk,?_⟩
 . exact name_of_addr x.apart (zb h1) (zb h2)
 . have hy:scope.names.lookup y=some .cell\/scope.names.lookup y=some .free:=hy
   rcases hy with hy|hy
   . exact adi hy
   . exact absurd rfl (S.a05 _ (zb hy))
 . exact zp (x.above y c (zb h))
 . have hi:i<vs.length:=by
    unfold start at h2
    by_cases hi:i<vs.length
    . exact hi
    . rw[jb (by simpa using hi)] at h2
      rw[List.getElem?_replicate] at h2;split at h2<;>cases h2
   have ha:vs[i]?=some v:=by
    unfold start at h2;rw[dj (by simpa using hi),gr] at h2;cases e:vs[i]? with
    |none=>rw[e] at h2;cases h2|some a=>rw[e] at h2;cases h2;rfl
   obtain⟨u,hu,rv⟩:=r.get ha;have hp:ps[i]?=some y:=by rw[<- S.pre,List.getElem?_take_of_lt (b_ hi (f_ hl))];exact h1
   have ndP:ps.Nodup:=by rw[<- S.pre];exact S.nd.sublist (List.take_sublist _ _)
   refine⟨u,rv,?_⟩;rcases S.par y (ao hp) with k|k
   . exact .inl ⟨k,Y5 ndP hp hu k⟩
   . obtain⟨c,e⟩:=adi (n:=s.heap.objs.size+1) k
     refine .inr ⟨.inl k,c,e,?_⟩;have q:=x.cell y c e;rw[Y6 ndP hp hu (by show scope.names.lookup y≠_;rw[k];decide)] at q;exact q
 . exact e0.Am.fresh (zp (x.above y c (zb h)))
 . unfold start
   show _=N.length;rw[wj,du,ye]
   lia
def a7y{CX:CXT}{P:Program}{w:World}{K:Fg}{mg:Zs}{base:Heap}{k:Nat}{f:Addr}{name qual:Str}{params:Arguments}{body:List Stmt}{scope:Scope}{dV kV doc pm cdv ct oc:Value}{an od:Option Addr}
 {osl:Array (Option Value)} {N ps:Yf} {sp:Sp} (lk:K.lookup f=some ⟨oc,od,.func (PySem.W.fnOf name qual params body scope dV kV doc pm an cdv ct),osl⟩) (hcd:PySem.W.codeIn K cdv qual=true) (S:Vf N ps scope)
 (len:∀vs H Q E,sp vs H Q E->vs.length=ps.length)
 (aox:∀(A:Around)(outer:List Env)(s:Shared)(H:Hp)(vs:List V)(Q:VK)(E:XK),Aj k (A.deeper (envOfC qual scope s.heap.objs.size f cdv))->sp vs H Q E ->
  ∃t,Rh (agf CX P w K mg base N qual scope f cdv A outer s H E) body t/\t { nx:=λ_ H'=>Q .non H',rt:=Q } (start N vs) H) :
 Fo P w K mg base CX (k+1) f (PySem.W.fnOf name qual params body scope dV kV doc pm an cdv ct) ps sp:=by
 refine⟨len,λA outer s H args us vs Q E hr e0 hb r hsp=>?_⟩;have hl:=len _ _ _ _ hsp;have KX:K.In s.heap:=e0.mod.kin.keeps λb o e=>(e0.bs b o e).1
 have lim:s.heap.NoLimit:=e0.mod.nolimit.keeps λb o e=>(e0.bs b o e).1
 have a7z:∀y∈ps.zip us,scope.names.lookup y.1=some .local\/(scope.names.lookup y.1=some .cell/\((cellsFrom (s.heap.objs.size+1) scope.names []).lookup y.1).isSome=true):=λ⟨n,v⟩ hy=>by
  rcases S.par n (List.of_mem_zip hy).1 with q|q
  . exact .inl q
  . exact .inr ⟨q,PySem.W.cellsFrom_some _ _ _ (.inl q)⟩
 refine codeAny_call_function hr.depth (KX _ _ lk) rfl S.co S.gen rfl (PySem.W.codeRec_of KX hcd) (hb _ _ _ _ ?_);refine wpAny_newFunctionEnv_cells S.kind a7z λenv he s1 x=>?_
 subst he;refine⟨lim.keeps x.toInCall.keep,codeAny_func ?_⟩;obtain⟨t,ht,hq⟩:=aox A outer s H vs Q E (hr.deeper _) hsp;have I:Inv (agf CX P w K mg base N qual scope f cdv A outer s H E) [] (start N vs) H s1:=akn S hr.hd e0 hl r x;refine my (ht [] s1 (start N vs) H _ I hq) (λfl s' hs=>?_) λe s' hs=>hs
 have fin:∀{σ':St}{H':Hp}{v:V}{u:Value},Inv (agf CX P w K mg base N qual scope f cdv A outer s H E) [] σ' H' s'->RelV v u->Q v H'->CE outer P w H s Q u s' :=
  fun{σ' H' v u} J rv q=>⟨v,H',J.os,J.bare,J.base,J.Am,rv,q⟩
 cases fl with
 |ret u =>
  obtain⟨v,σ',H',J,rv,q⟩:=hs;exact fin J rv q
 |next =>
  obtain⟨σ',H',J,q⟩:=hs;exact fin (v:=V.non) (u:=Value.none) J rfl q
 |brk =>
  obtain⟨_,_,_,q⟩:=hs;exact False.elim q
 |cont =>
  obtain⟨_,_,_,q⟩:=hs;exact False.elim q
end L2
namespace L2
open PySem PySem.Spec PyProof.Rows
def tCB(r:List V->Hp->VK->Prop)(t:TA):TE:=fun σ H Q=>t σ H λvs H1=>r vs H1 Q
def aoy{X:Cx}{x:Str}{p pos:Pos}{e:Expr}{es:Ya}{t:TA}{id:String}{r:List V->Hp->VK->Prop}(hc:Dc X (.builtin id) r)(hg:Gl X x)(hm:X.mg x=none)(hv:bootBuiltins x=some (.builtin id))(ha:PA X (e::es) t)(hn:x≠"__name__" := by decide)(Ui:(x==("__debug__" : Str))=false:=by decide)
 (he:starEach (e::es) X.env=(false,eval e X.env)::starEach es X.env:=by rfl) (Ik:(backTo pos (starEach es X.env)).any (·.1)=false:=by rfl):PE X (.Call (.Name x p) (e::es) [] pos) (tCB r t):=by
 intro pins s σ H Q I h;refine jc (Dm I hg hm hv ?_ hn Ui);exact yt (Bu (ha pos pins s σ H _ I h) λus s1 ⟨vs,H1,I1,r1,q1⟩=>hc pins s1 σ H1 vs us Q I1 r1 q1) he Ik
def ako{X:Cx}{x:Str}{p pos:Pos}{e:Expr}{es:Ya}{t:TA}{T:String}{r:List V->Hp->VK->Prop}(hc:Dc X (.type T) r)(hg:Gl X x)(hm:X.mg x=none)(hv:bootBuiltins x=some (.type T))(ha:PA X (e::es) t)(hn:x≠"__name__" := by decide)(Ui:(x==("__debug__" : Str))=false:=by decide)
 (he:starEach (e::es) X.env=(false,eval e X.env)::starEach es X.env:=by rfl) (Ik:(backTo pos (starEach es X.env)).any (·.1)=false:=by rfl):PE X (.Call (.Name x p) (e::es) [] pos) (tCB r t):=by
 intro pins s σ H Q I h;refine jc (Dm I hg hm hv ?_ hn Ui);exact jh (Bu (ha pos pins s σ H _ I h) λus s1 ⟨vs,H1,I1,r1,q1⟩=>hc pins s1 σ H1 vs us Q I1 r1 q1) he Ik
section
variable{κ:Type}[DecidableEq κ]
noncomputable def Ri(ie:List (κ×V))(k:κ):Option V:=(ie.find? λkv=>decide (kv.1=k)).map (·.2)
noncomputable def putK(ie:List (κ×V))(k:κ)(v:V):List (κ×V) :=
 if(ie.any λkv=>decide (kv.1=k))=true then ie.map (λkv=>if kv.1=k then(kv.1,v) else kv) else ie++[(k,v)]
def Rj{p:κ×V}(e:p.1=k):Ri (p::r) k=some p.2:=by simp[Ri,rm,e]
def Rk{p:κ×V}(e:¬p.1=k):Ri (p::r) k=Ri r k:=by simp[Ri,rm,e]
theorem adk(k:κ):∀ie:List (κ×V),(ie.any λkv=>decide (kv.1=k))=(Ri ie k).isSome
 |[]=>rfl
 |p::r=>by
  rw[List.any_cons]
  by_cases e:p.1=k
  . simp only[Rj e,decide_eq_true e,Bool.true_or,Option.isSome_some]
  . rw[Rk e,ph e,Bool.false_or];exact adk k r
def Uj(ie:List (κ×V))(k:κ)(v:V):(putK ie k v).length<=ie.length+1:=by
 unfold putK;split
 . rw[du];exact x_
 . rw[wj,gw,List.length_nil];exact bh _
def Mp.Kh(r:Mp o u):o.isSome=u.isSome:=by
 cases o with
 |none=>cases u with
  |none=>rfl|some _=>exact(show False from r).elim
 |some _=>cases u with
  |none=>exact(show False from r).elim
  |some _=>rfl
theorem Mp.getD(r:Mp o u)(rd:RelV d d'):RelV (o.getD d) (u.getD d'):=by
 cases o with
 |none=>cases u with
  |none=>exact rd|some _=>exact(show False from r).elim
 |some _=>cases u with
  |none=>exact(show False from r).elim
  |some _=>exact r
def KV.val(r:KV ie vs)(k:κ):Mp (Ri ie k) (valueAt vs k):=by
 unfold KV at r
 induction r with
 |nil=>exact True.intro
 |@cons p q ps qs h t ih =>
  obtain⟨h1,h2⟩:=h
  by_cases e:p.1=k
  . have e':q.1=k:=h1.symm.trans e
    have b:valueAt (q::qs) k=some q.2:=by simp[valueAt,rm,e']
    rw[Rj e,b];exact h2
  . have e':¬q.1=k:=λz=>e (h1.trans z)
    have b:valueAt (q::qs) k=valueAt qs k:=by simp[valueAt,rm,e']
    rw[Rk e,b];exact ih
theorem KV.any(r:KV ie vs)(k:κ):(ie.any λkv=>decide (kv.1=k))=vs.any λkv=>decide (kv.1=k):=by
 unfold KV at r
 induction r with
 |nil=>rfl|cons h t ih=>rw[List.any_cons,List.any_cons,ih,h.1]
def KV.Ib(r:KV ie vs)(k:κ)(ry:RelV y u) :
 KV (ie.map λkv=>if kv.1=k then(kv.1,y) else kv) (vs.map λkv=>if kv.1=k then(kv.1,u) else kv):=by
 unfold KV at r ⊢
 induction r with
 |nil=>exact .nil
 |@cons p q ps qs h t ih =>
  rw[gq,gq];refine .cons ?_ ih;obtain⟨h1,h2⟩:=h
  by_cases e:p.1=k
  . rw[cz e,cz (h1.symm.trans e)];exact⟨h1,ry⟩
  . rw[bw e,bw (λz=>e (h1.trans z))];exact⟨h1,h2⟩
def KV.put(r:KV ie vs)(k:κ)(ry:RelV y u):KV (putK ie k y) (stored vs k u):=by
 unfold putK stored;rw[r.any k]
 by_cases e:(vs.any λkv=>decide (kv.1=k))=true
 . rw[cz e,cz e];exact r.Ib k ry
 . rw[bw e,bw e];exact Paired.snoc r ⟨rfl,ry⟩
theorem KV.length{ie:List (κ×V)}{vs:List (κ×Value)}(r:KV ie vs):ie.length=vs.length:=Paired.length r
end
def Y7(r:RelV (kV k) u):(ou P w).is k u=true:=by
 cases k with
 |inl i=>obtain⟨t,e⟩:=(show ∃t,u=Value.int i t from r);subst e;exact ada P w i t
 |inr x=>obtain⟨t,e⟩:=(show ∃t,u=Value.str x t from r);subst e;exact adb P w x t
theorem Y8{P:Program}{w:World}:∀{ks:List Key}{us:Zl},Vals (ks.map kV) us->ItemsAre (ou P w) ks us
 |[],_,r=>by rw[List.map_nil] at r;cases r;exact .nil
 |k::ks,_,r=>by
  rw[gq] at r;cases r with
  |cons h t=>exact .cons (Y7 h) (Y8 t)
abbrev KT(H:Hp):List (List Key×V)->List (List Key×Addr×Value)->Prop:=Paired λp q=>p.1=q.1/\H q.2.1=some (.tup (p.1.map kV))/\RelV p.2 q.2.2
def KT.val(r:KT H ie xs)(k:List Key):Mp (Ri ie k) ((atKey xs k).map (·.2)):=by
 induction r with
 |nil=>exact True.intro
 |@cons p q ps qs h t ih =>
  obtain⟨h1,_,h2⟩:=h
  by_cases e:p.1=k
  . have e':q.1=k:=h1.symm.trans e
    have b:atKey (q::qs) k=some q.2:=by simp[atKey,rm,e']
    rw[Rj e,b];exact h2
  . have e':¬q.1=k:=λz=>e (h1.trans z)
    have b:atKey (q::qs) k=atKey qs k:=by simp[atKey,rm,e']
    rw[Rk e,b];exact ih
def KT.Ib(r:KT H ie xs)(k:List Key)(ry:RelV y u) :
 KT H (ie.map λkv=>if kv.1=k then(kv.1,y) else kv) (xs.map (putAt k u)):=by
 induction r with
 |nil=>exact .nil
 |@cons p q ps qs h t ih =>
  rw[gq,gq];refine .cons ?_ ih;obtain⟨h1,h2,h3⟩:=h;unfold putAt
  by_cases e:p.1=k
  . rw[cz e,cz (h1.symm.trans e)];exact⟨h1,h2,ry⟩
  . rw[bw e,bw (λz=>e (h1.trans z))];exact⟨h1,h2,h3⟩
def KT.put(r:KT H ie xs)(k:List Key)(hb:H b=some (.tup (k.map kV)))(ry:RelV y u) :
 KT H (putK ie k y) (storedH xs k b u):=by
 have e:(ie.any λkv=>decide (kv.1=k))=(atKey xs k).isSome:=by rw[adk,(r.val k).Kh,Option.isSome_map]
 unfold putK storedH;rw[e]
 by_cases q:(atKey xs k).isSome=true
 . rw[cz q,cz q];exact r.Ib k ry
 . rw[bw q,bw q];exact Paired.snoc r ⟨rfl,hb,ry⟩
def KT.keeps(r:KT H ie xs)(ht:∀b ys,H b=some (.tup ys)->H' b=some (.tup ys)):KT H' ie xs :=
 Paired.az1 r λ_ _ z=>⟨z.1,ht _ _ z.2.1,z.2.2⟩
def ax6(ok:Py P w H h)(e:Rd H a u):Bj P w H h a u:=e.ok ok
def Wd(ok:Py P w H h)(e:Rd H a (.dK ie)):ie.length<=sizeLine/\(a==sysModules)=false/\∃vs,KV ie vs/\h.DictOf (ou P w) a vs :=
 show Bj P w H h a (.dK ie) from ax6 ok e
def a70(ok:Py P w H h)(e:H a=some (.dK ie)):ie.length<=sizeLine/\(a==sysModules)=false/\∃vs,KV ie vs/\h.DictOf (ou P w) a vs:=Wd ok (.inl e)
def Oc(ok:Py P w H h)(e:H a=some (.tup (ks.map kV))):(tupleKind (ou P w)).is h ks a:=by obtain⟨_,yw,r,o,h1,h2,n,h3,_⟩:=(show Bj P w H h a (.tup (ks.map kV)) from ok a _ e);exact⟨o,yw.toArray,n,h1,h2,h3,by simpa using Y8 r⟩
def Y9(ok:Py P w H h)(e:Rd H a (.dT ie)):ie.length<=sizeLine/\(a==sysModules)=false /\
 ∃xs,KT H ie xs/\h.DictOfH (tupleKind (ou P w)) a xs:=by
 obtain⟨z,y,xs,r,o,es,ep,h1,h2,h3,h4,h5⟩:=(show Bj P w H h a (.dT ie) from ax6 ok e);refine⟨z,y,xs,r,o,es,ep,h1,h2,h3,h4,λx hx=>?_,h5⟩;have all:∀{l:List (List Key×V)}{m:List (List Key×Addr×Value)},KT H l m->∀x∈m,(tupleKind (ou P w)).is h x.1 x.2.1:=by
  intro l m q
  induction q with
  |nil=>intro x hx;exact nomatch hx
  |@cons p q ps qs hq t ih =>
   intro x hx;rcases bz.mp hx with e|hx
   . subst e
     exact Oc ok (by rw[<- hq.1];exact hq.2.1)
   . exact ih x hx
 exact all r x hx
def aoz(ok:Py P w H h)(e:H a=some (.dT ie)):ie.length<=sizeLine/\(a==sysModules)=false /\
 ∃xs,KT H ie xs/\h.DictOfH (tupleKind (ou P w)) a xs:=Y9 ok (.inl e)
def Od(H:Hp)(a:Addr)(y:V)(r:Option V):Prop :=
 (∃ie k,Rd H a (.dK ie)/\y=kV k/\r=Ri ie k)\/∃ie k b,Rd H a (.dT ie)/\y=.ref b/\H b=some (.tup (k.map kV))/\r=Ri ie k
def agg(H:Hp)(a:Addr)(y v:V)(H':Hp):Prop :=
 (∃ie k,H a=some (.dK ie)/\y=kV k/\ie.length<sizeLine/\H'=upd H a (.dK (putK ie k v))) \/
 ∃ie k b,H a=some (.dT ie)/\y=.ref b/\H b=some (.tup (k.map kV))/\ie.length<sizeLine/\H'=upd H a (.dT (putK ie k v))
theorem Od.k{k:Key}(e:H a=some (.dK ie)):Od H a (kV k) (Ri ie k):=.inl ⟨ie,k,.inl e,rfl,rfl⟩
def Od.t{k:List Key}(e:H a=some (.dT ie))(eb:H b=some (.tup (k.map kV))):Od H a (.ref b) (Ri ie k):=.inr ⟨ie,k,b,.inl e,rfl,eb,rfl⟩
theorem agg.k{k:Key}(e:H a=some (.dK ie))(hl:ie.length<sizeLine):agg H a (kV k) v (upd H a (.dK (putK ie k v))):=.inl ⟨ie,k,e,rfl,hl,rfl⟩
def agg.t{k:List Key}(e:H a=some (.dT ie))(eb:H b=some (.tup (k.map kV)))(hl:ie.length<sizeLine) :
 agg H a (.ref b) v (upd H a (.dT (putK ie k v))):=.inr ⟨ie,k,b,e,rfl,eb,hl,rfl⟩
def Inv.big(I:Inv X pins σ H s):sysModules<s.heap.objs.size:=by
 have h:mainGlobals<s.heap.objs.size:=(I.mod.glob.keeps I.bk).lt
 exact Nat.lt_trans (by decide) h
def akp(hu:A.units+1<cLine)(I:Inv X pins σ H s)(g:Od H a y (some v))(ry:RelV y u)(h:∀w' s',Inv X pins σ H s'->RelV v w'->Q w' s') :
 wpAny (model X.prog X.w) A (getItem (.ref a) u) Q E s:=by
 rcases g with⟨ie,k,e,ey,l⟩|⟨ie,k,b,e,ey,eb,l⟩
 . subst ey
   obtain⟨z,hd,vs,rel,dd⟩:=Wd I.Am e;obtain⟨w',hw,rw'⟩:=Mp.some_of (v:=v) (o:=valueAt vs k) (by rw[l];exact rel.val k);exact wpAny_getItem_of (Y7 ry) dd.mapOf hw (h w' _ (I.tok _) rw')
 . subst ey
   cases(show u=Value.ref b from ry);obtain⟨z,hd,xs,rel,dd⟩:=Y9 I.Am e;obtain⟨w',hw,rw'⟩:=Mp.some_of (v:=v) (o:=(atKey xs k).map (·.2)) (by rw[l];exact rel.val k);obtain⟨p,hp,hp2⟩:=bx.mp hw;refine wpAny_getItem_heap (wy hu) (Oc I.Am eb) dd hp ?_;rw[hp2];exact h w' _ (I.tok _) rw'
def a71(hu:A.units+1<cLine)(I:Inv X pins σ H s)(g:Od H a y o)(ry:RelV y u)(h:∀s',Inv X pins σ H s'->Q (.bool o.isSome) s') :
 wpAny (model X.prog X.w) A (compareOp .In u (.ref a)) Q E s:=by
 rcases g with⟨ie,k,e,ey,l⟩|⟨ie,k,b,e,ey,eb,l⟩
 . subst ey
   obtain⟨z,hd,vs,rel,dd⟩:=Wd I.Am e;refine wpAny_in_of (Y7 ry) hd dd.mapOf ?_;rw[<- (rel.val k).Kh,<- l];exact h _ (I.tok _)
 . subst ey
   cases(show u=Value.ref b from ry);obtain⟨z,hd,xs,rel,dd⟩:=Y9 I.Am e;refine wpAny_in_heap (wy hu) (Oc I.Am eb) hd dd ?_;have q:=(rel.val k).Kh;rw[Option.isSome_map] at q;rw[<- q,<- l];exact h _ (I.tok _)
def ah3(hu:A.units+1<cLine)(I:Inv X pins σ H s)(g:Od H a y o)(ry:RelV y u)(h:∀s',Inv X pins σ H s'->Q (.bool (!o.isSome)) s') :
 wpAny (model X.prog X.w) A (compareOp .NotIn u (.ref a)) Q E s:=by
 rcases g with⟨ie,k,e,ey,l⟩|⟨ie,k,b,e,ey,eb,l⟩
 . subst ey
   obtain⟨z,hd,vs,rel,dd⟩:=Wd I.Am e;refine wpAny_notIn_of (Y7 ry) hd dd.mapOf ?_;rw[<- (rel.val k).Kh,<- l];exact h _ (I.tok _)
 . subst ey
   cases(show u=Value.ref b from ry);obtain⟨z,hd,xs,rel,dd⟩:=Y9 I.Am e;refine wpAny_notIn_heap (wy hu) (Oc I.Am eb) hd dd ?_;have q:=(rel.val k).Kh;rw[Option.isSome_map] at q;rw[<- q,<- l];exact h _ (I.tok _)
def ah4(I:Inv X pins σ H s)(mu:Mut (H a))(hs:Heap.SameBut a s.heap h')(he:∃q,h'.get? a=some q)(new:Bj X.prog X.w (upd H a ob) h' a ob) :
 Inv X pins σ (upd H a ob) { s with heap:=h',toks:=t' } :=
 I.write (x:=a) (e:=a) mu (.inl rfl) (λb q hb z=>(hs.2 b hb).trans z) he new
def ao0(z:ie.length<=sizeLine)(hd:(a==sysModules)=false)(rel:KV ie vs)(dd:h'.DictOf (ou P w) a vs) :
 Bj P w H' h' a (.dK ie):=⟨z,hd,vs,rel,dd⟩
def Za(hu:A.units+1<cLine)(I:Inv X pins σ H s)(g:agg H a y v H')(ry:RelV y u)(rv:RelV v r)(h:∀s',Inv X pins σ H' s'->Q () s') :
 wpAny (model X.prog X.w) A (setItem (.ref a) u r) Q E s:=by
 rcases g with⟨ie,k,e,ey,l,eH⟩|⟨ie,k,b,e,ey,eb,l,eH⟩
 . subst ey eH
   obtain⟨z,hd,vs,rel,dd⟩:=a70 I.Am e;have hz:vs.length<=sizeLine:=by rw[<- rel.length];exact z
   have hl:(putK ie k v).length<=sizeLine:=by have:=Uj ie k v;exact a_ this l
   refine wpAny_setItem_pairs (hsz:=hz) (Y7 ry) dd λh' dd' hs=>h _ ?_
   have he:∃q,h'.get? a=some q:=let ⟨q,_,_,hq,_⟩:=dd';⟨q,hq⟩;exact ah4 I (by rw[e];exact True.intro) hs he (ao0 hl hd (rel.put k rv) dd')
 . subst ey eH
   cases(show u=Value.ref b from ry);obtain⟨z,hd,xs,rel,dd⟩:=aoz I.Am e;have hz:xs.length<=sizeLine:=by rw[<- Paired.length rel];exact z
   have hl:(putK ie k v).length<=sizeLine:=by have:=Uj ie k v;exact a_ this l
   refine wpAny_setItem_heap (hsz:=hz) (wy hu) (Oc I.Am eb) dd λh' dd' hs=>h _ ?_
   obtain⟨q,es,ep,hq,h2,h3,h4,_,h5⟩:=dd';refine ah4 I (by rw[e];exact True.intro) hs ⟨q,hq⟩ ⟨hl,hd,_,(rel.put k eb rv).keeps λc ys ec=>?_,q,es,ep,hq,h2,h3,h4,h5⟩;rw[j9 (aoa ec e (λz=>nomatch z))];exact ec
def adl(I:Inv X pins σ H s)(g:Od H a y o):s.TypeIs (.ref a) "dict" := by
 rcases g with⟨ie,k,e,_,_⟩|⟨ie,k,b,e,_,_,_⟩
 . obtain⟨_,_,vs,_,dd⟩:=Wd I.Am e
   exact dd.typeIs
 . obtain⟨_,_,xs,_,dd⟩:=Y9 I.Am e
   exact dd.typeIs
def ao1(h:Heap)(hb:sysModules<h.objs.size):Bj P w H (h.push { cls:=.type "dict",data:=.dict #[] }) h.objs.size (.dK []) :=
 ⟨ju _,qw.mpr (j0 (dz hb)),[],.nil,Heap.DictOf.new h⟩
def ao2(h:Heap)(hb:sysModules<h.objs.size):Bj P w H (h.push { cls:=.type "dict",data:=.dict #[] }) h.objs.size (.dT []) :=
 ⟨ju _,qw.mpr (j0 (dz hb)),[],.nil,_,#[],0,bu _ rfl,⟨rfl,rfl,rfl⟩,rfl,rfl,yc⟩
def a06:TE:=λ_ H Q=>∀p,H p=none->Q (.ref p) (upd H p (.dK []))
def a07:TE:=λ_ H Q=>∀p,H p=none->Q (.ref p) (upd H p (.dT []))
def ao3:PE X (.Dict [] [] pos) a06:=λpins s σ H Q I h =>
 wpAny_Dict_empty ⟨.ref s.heap.objs.size,_,I.laid (a:=s.heap.objs.size) (o:=.dK []) (t':=s.toks) (λ_ _ q=>au _ q) (bh _) (ao1 s.heap I.big),rfl,h _ (I.Am.fresh (bh _))⟩
def ao4:PE X (.Dict [] [] pos) a07:=λpins s σ H Q I h =>
 wpAny_Dict_empty ⟨.ref s.heap.objs.size,_,I.laid (a:=s.heap.objs.size) (o:=.dT []) (t':=s.toks) (λ_ _ q=>au _ q) (bh _) (ao2 s.heap I.big),rfl,h _ (I.Am.fresh (bh _))⟩
def a08(hu:A.units+1<cLine)(I:Inv X pins σ H s)(g:Od H a y o)(ry:RelV y u)(rd:RelV d r)(h:∀w' s',Inv X pins σ H s'->RelV (o.getD d) w'->Q w' s') :
 wpAny (model X.prog X.w) A (call (.builtin "dict.get") [.ref a,u,r]) Q E s:=by
 rcases g with⟨ie,k,e,ey,l⟩|⟨ie,k,b,e,ey,eb,l⟩
 . subst ey
   obtain⟨z,hd,vs,rel,dd⟩:=Wd I.Am e;refine call_meetsIn PySem.F.slot_dict_get dd.typeIs PySem.F.entry_dict_get (PySem.F.args_dict_get_3 _ _ _) (meets_dict_get_default (ou X.prog X.w) a (Y7 ry) hd r) ⟨_,dd.mapOf,h _ _ (I.tok _) ?_⟩;rw[l];exact(rel.val k).getD rd
 . subst ey
   cases(show u=Value.ref b from ry);obtain⟨z,hd,xs,rel,dd⟩:=Y9 I.Am e;refine call_meetsIn PySem.F.slot_dict_get dd.typeIs PySem.F.entry_dict_get (PySem.F.args_dict_get_3 _ _ _) (meetsH_dict_get_default (tupleKind (ou X.prog X.w)) a b hd r) ⟨wy hu,k,xs,Oc I.Am eb,dd,h _ _ (I.tok _) ?_⟩;rw[l];exact(rel.val k).getD rd
def ao5(I:Inv X pins σ H s)(e:Rd H a (.dK ie))(h:∀p s',H p=none->Inv X pins σ (upd H p (.dK ie)) s'->Q (.ref p) s'):wpAny (model X.prog X.w) A (call (.type "dict") [.ref a]) Q E s:=by
 obtain⟨z,hd,vs,rel,dd⟩:=Wd I.Am e;refine kt_call_dict hd dd (by rw[<- rel.length];exact z) λh' dd' hs=>?_
 refine h _ _ (I.Am.fresh (bh _)) (I.laid (a:=s.heap.objs.size) (o:=.dK ie) (t':=s.toks) (λb q hq=>?_) (bh _) (ao0 z (qw.mpr (j0 (dz I.big))) rel dd'));exact(hs.2 b (dz (az hq))).trans (au _ hq)
end L2
namespace HT
open PySem PyProof.Rows
noncomputable def sIx(n d:Nat):Option Int->Nat
 |none=>d|some v=>if v<0 then(v+(n:Int)).toNat else min v.toNat n
end HT
namespace L2
open PySem PySem.Spec PyProof.Rows
abbrev TO:=St->Hp->(Option Int->Hp->Prop)->Prop
def PO(X:Cx)(e:Option Expr)(t:TO):Prop :=
 ∀(pins:Zp)(s:Shared)(σ:St)(H:Hp)(Q:Option Int->Hp->Prop),Inv X pins σ H s->t σ H Q ->
  wpAny (model X.prog X.w) X.A (evalPart e X.env) (λu s'=>∃o H',Inv X pins σ H' s'/\IsPart u o/\Q o H') X.xe s
def auv:TO:=λ_ H Q=>Q none H
def a72(t:TE):TO:=fun σ H Q=>t σ H λx H1=>∃i,x=.int i/\Q (some i) H1
def auw:PO X none auv:=by intro pins s σ H Q I h;rw[evalPart_none];exact aj ⟨none,H,I,.none,h⟩
def auy(h:PE X e te):PO X (some e) (a72 te):=by
 intro pins s σ H Q I hw;rw[evalPart_some];refine Bu (h pins s σ H _ I hw) λu s1 z_=>?_
 obtain⟨x,H1,I1,r1,q1⟩:=z_;obtain⟨i,rfl,q⟩:=q1;obtain⟨t,rfl⟩:=r1;exact⟨some i,H1,I1,.int i t,q⟩
def SlR(X:Cx)(r:V->Option Int->Option Int->Hp->VK->Prop):Prop :=
 ∀(pins:Zp)(s:Shared)(σ:St)(H:Hp)(x:V)(v vl vu:Value)(lo hi:Option Int)(sl:Addr)(Q:VK),Inv X pins σ H s->RelV x v->s.heap.IsSliceOf sl vl vu .none->IsPart vl lo->IsPart vu hi->r x lo hi H Q ->
  ∃T id,typeLookup (.type T) "__getitem__" = pure (some (.builtin id))/\s.TypeIs v T/\wpAny (model X.prog X.w) X.A (getItem v (.ref sl)) (EP X pins σ Q) X.xe s
def tSl(r:V->Option Int->Option Int->Hp->VK->Prop)(te:TE)(tl th:TO):TE:=fun σ H Q=>te σ H λx H1=>tl σ H1 λl H2=>th σ H2 λu H3=>r x l u H3 Q
def ao6{lo:Option Expr}(hr:SlR X r)(he:PE X e te)(hl:PO X lo tl)(hu:PO X hi th):PE X (.Subscript e (.Slice lo hi none p2) pos) (tSl r te tl th):=by
 intro pins s σ H Q I h;refine Subscript_ (Bu (he pins s σ H _ I h) λv s1 z_=>?_);obtain⟨x,H1,I1,r1,q1⟩:=z_;refine wpAny_Slice (Bu (hl pins s1 σ H1 _ I1 q1) λvl s2 ⟨l,H2,I2,pl,q2⟩=>Bu (hu pins s2 σ H2 _ I2 q2) λvu s3 z_=>?_);obtain⟨u,H3,I3,pu,q3⟩:=z_;rw[evalPart_none];refine aj ?_;have I4:Inv X pins σ H3 { s3 with heap:=s3.heap.push { cls:=.type "slice",data:=.fields #[vl,vu,.none] } }:=I3.kept (t':=s3.toks) λb ob q=>au _ q
 obtain⟨T,id,hT,ht,hg⟩:=hr pins { s3 with heap:=s3.heap.push { cls:=.type "slice",data:=.fields #[vl,vu,.none] } } σ H3 x v vl vu l u s3.heap.objs.size Q I4 r1 (Heap.IsSliceOf.new ..) pl pu q3;show wpAny (model X.prog X.w) X.A (subscriptTail e (.Slice lo hi none p2) v (.ref s3.heap.objs.size)) (EP X pins σ Q) X.xe { s3 with heap:=s3.heap.push { cls:=.type "slice",data:=.fields #[vl,vu,.none] } };exact tail_any (ops:=[.ref s3.heap.objs.size,v]) ht hT hg (by with_unfolding_all rfl)
noncomputable def akq(xs:List V)(lo hi:Option Int):List V:=(xs.drop (HT.sIx xs.length 0 lo)).take (HT.sIx xs.length xs.length hi-HT.sIx xs.length 0 lo)
def adm(xs:List V)(lo hi:Option Int):(akq xs lo hi).length<=xs.length:=by
 unfold akq;rw[List.length_take,List.length_drop]
 lia
end L2
namespace L2
open PySem PySem.Spec PyProof.Rows
noncomputable def ixN(n:Nat)(i:Int):Option Nat:=if 0<=i then(if i<n then some i.toNat else none) else if -(n:Int)<=i then some (i+n).toNat else none
noncomputable def atI{α:Type}(xs:List α)(i:Int):Option α:=(ixN xs.length i).bind λj=>xs[j]?
def ah5(h:ixN n i=some j):seqIndex? i n=some j/\j<n/\-(n:Int)<=i/\i<n:=by
 unfold ixN at h
 by_cases h0:0<=i
 . rw[cz h0] at h
   by_cases h1:i<n
   . rw[cz h1] at h
     have e:i.toNat=j:=jn h;exact⟨by rw[seqIndex_of h0 h1,e],by lia,by lia,h1⟩
   . rw[bw h1] at h;cases h
 . rw[bw h0] at h
   by_cases h1:-(n:Int)<=i
   . rw[cz h1] at h
     have e:(i+n).toNat=j:=jn h;exact⟨by rw[seqIndex_neg (by lia) h1,e],by lia,h1,by lia⟩
   . rw[bw h1] at h;cases h
def ah6(h:atI xs i=some v):∃j,seqIndex? i xs.length=some j/\xs[j]?=some v/\j<xs.length/\-(xs.length:Int)<=i/\i<xs.length:=by
 unfold atI at h;cases e:ixN xs.length i with
 |none=>rw[e] at h;cases h
 |some j =>
  rw[e] at h;obtain⟨h1,h2,h3,h4⟩:=ah5 e;exact⟨j,h1,h,h2,h3,h4⟩
def aa1(b:Expr):Prop:=∀o i,subscripted b false o i=operate [o,i] (getItem o i)
def IxR(X:Cx)(r:R2):Prop :=
 ∀(value slice:Expr)(pins:Zp)(s:Shared)(σ:St)(H:Hp)(x y:V)(v u:Value)(Q:VK),Inv X pins σ H s->RelV x v->RelV y u->r x y H Q ->
  subscripted slice false v u=operate [v,u] (getItem v u)->wpAny (model X.prog X.w) X.A (subscriptTail value slice v u) (EP X pins σ Q) X.xe s
def MtR(X:Cx)(id:String)(r:V->List V->Hp->VK->Prop):Prop :=
 ∀(pins:Zp)(s:Shared)(σ:St)(H:Hp)(x:V)(xs:List V)(v:Value)(us:Zl)(Q:VK),Inv X pins σ H s->RelV x v->Vals xs us->r x xs H Q ->
  wpAny (model X.prog X.w) X.A (call (.builtin id) (v::us)) (EP X pins σ Q) X.xe s
def a75(hr:IxR X r)(ha:PE X a ta)(hb:PE X b tb)(hs:aa1 b):PE X (.Subscript a b pos) (tOp r ta tb):=by intro pins s σ H Q I h;exact Subscript_ (a0t ha hb I h λv u s2 x y H2 I2 rx ry q=>hr a b pins s2 σ H2 x y v u Q I2 rx ry q (hs _ _))
def bep(K:Fg):R2:=λx y H Q=>∃p xs i v,x=.ref p/\y=.int i/\Ia K H p xs/\atI xs i=some v/\Q v H
def ber(K:Fg):R2:=λx y H Q=>∃p xs i v,x=.ref p/\y=.int i/\Jh K H p xs/\atI xs i=some v/\Q v H
def Cj:IxR X (bep X.K):=by
 intro value slice pins s σ H x y v u Q I rx ry h hs;obtain⟨p,xs,i,z,rfl,rfl,hq,he,q⟩:=h;cases rx;obtain⟨t,rfl⟩:=ry;obtain⟨yw,r,pl,hz⟩:=I.list hq;obtain⟨j,h1,h2,h3,h4,h5⟩:=ah6 he;obtain⟨w,ew,rw'⟩:=r.get h2;have hl:=r.length;have hn:=aa0;have fin:EP X pins σ Q w s:=⟨z,H,I,rw',q⟩
 by_cases h0:0<=i
 . have hj:i.toNat=j:=by
    rw[seqIndex_of h0 h5] at h1;exact jn h1
   exact item_listR pl.isList h0 (by lia) (by rw[hj];simpa using ew) fin hs
 . have hj:(i+(yw.toArray.size:Int)).toNat=j:=by
    rw[seqIndex_neg (by lia) h4] at h1;rw[ig,<- hl];exact jn h1
   exact subscriptTail_builtinR (x:=w) pl.isList.typeIs slot_list_getitem.lookup
    (wpAny_getItem_list_neg (Q:=λr s'=>r=w/\EP X pins σ Q r s') pl.isList (by lia) (by rw[ig]<;>lia) (by lia) (by rw[hj];simpa using ew) ⟨rfl,fin⟩) hs
def Jq:IxR X (ber X.K):=by
 intro value slice pins s σ H x y v u Q I rx ry h hs;obtain⟨p,xs,i,z,rfl,rfl,hq,he,q⟩:=h;cases rx;obtain⟨t,rfl⟩:=ry;obtain⟨yw,r,pl,hz⟩:=I.tuple hq;obtain⟨j,h1,h2,h3,h4,h5⟩:=ah6 he;obtain⟨w,ew,rw'⟩:=r.get h2;have hl:=r.length;have hn:=aa0;have fin:EP X pins σ Q w s:=⟨z,H,I,rw',q⟩;exact subscriptTail_builtinR (x:=w) pl.typeIs slot_tuple_getitem.lookup
  (getItem_tuple (j:=j) (Q:=λr s'=>r=w/\EP X pins σ Q r s') pl (by lia) (by lia) (by rw[ig,<- hl];exact h1) (by simpa using ew) ⟨rfl,fin⟩) hs
def agh(yw:Zl)(n j:Nat)(u:Value):Obj.mapSeq (·.setIfInBounds j u) { cls:=.type "list",data:=.seq yw.toArray n }={ cls:=.type "list",data:=.seq (yw.set j u).toArray n }:=by simp[Obj.mapSeq]
theorem Inv.lst{X:Cx}{pins:Zp}{σ:St}{H:Hp}{s:Shared}{p:Addr}{xs:List V}(I:Inv X pins σ H s)(h:H p=some (.lst xs)) :
 ∃(yw:Zl)(n:Nat),Vals xs yw/\s.heap.get? p=some { cls:=.type "list",data:=.seq yw.toArray n }/\xs.length<=sizeLine:=by
 obtain⟨z,yw,n,r,e⟩:=I.Am p _ h;exact⟨yw,n,r,e,z⟩
def Inv.a09{yw:Zl}(I:Inv X pins σ H s)(h:H p=some (.lst xs))(ho:s.heap.get? p=some { cls:=.type "list",data:=.seq yw.toArray n })(hf:f { cls:=.type "list",data:=.seq yw.toArray n }={ cls:=.type "list",data:=.seq its'.toArray n' })(r:Vals ys its')(hz:ys.length<=sizeLine)(t:Nat) :
 Inv X pins σ (upd H p (.lst ys)) { s with heap:=s.heap.update p f,toks:=t }:=by
 have e:(s.heap.update p f).get? p=some { cls:=.type "list",data:=.seq its'.toArray n' }:=by rw[m5 f ho (by rw[hf]<;>rfl),hf]
 refine I.write (x:=p) (e:=p) (by rw[h];trivial) (.inl rfl) (λb u hb q=>(uq _ _ (j0 hb)).trans q) ⟨_,e⟩ ?_;exact⟨hz,its',n',r,e⟩
def a76:V->V->V->Hp->(Hp->Prop)->Prop:=λo i v H Q=>∃p xs k j,o=.ref p/\i=.int k/\H p=some (.lst xs)/\ixN xs.length k=some j/\Q (upd H p (.lst (xs.set j v)))
def set_list:a0m X a76:=by
 intro pins s σ H o i v ov iv u Q I ro ri rv h;obtain⟨p,xs,k,j,rfl,rfl,hp,hj,q⟩:=h;cases ro;obtain⟨t,rfl⟩:=ri;obtain⟨yw,n,r,ho,hz⟩:=I.lst hp;obtain⟨h1,h2,h3,h4⟩:=ah5 hj;have hl:=r.length;have hn:=aa0;have I':Inv X pins σ (upd H p (.lst (xs.set j v))) { s with heap:=s.heap.update p (Obj.mapSeq (·.setIfInBounds j u)) } :=
  I.a09 hp ho (agh yw n j u) (r.set rv j) (by rw[List.length_set];exact hz) s.toks
 by_cases h0:0<=k
 . have hk:k.toNat=j:=by
    rw[seqIndex_of h0 h4] at h1;exact jn h1
   exact PySem.W.ki_setAt ho h0 (by lia) (by rw[ig,<- hl];exact h4) (by rw[hk];exact⟨_,I',q⟩)
 . have hk:(k+(yw.toArray.size:Int)).toNat=j:=by
    rw[seqIndex_neg (by lia) h3] at h1;rw[ig,<- hl];exact jn h1
   exact PySem.W.ki_setBack ho (by lia) (by rw[ig,<- hl];exact h3) (by lia) (by rw[hk];exact⟨_,I',q⟩)
def aa2(lo hi:Option Int)(n:Nat):(sliceBounds lo hi none n).1=((HT.sIx n 0 lo:Nat):Int)/\(sliceBounds lo hi none n).2.1=((HT.sIx n n hi:Nat):Int)/\(sliceBounds lo hi none n).2.2=1:=by
 refine⟨?_,?_,rfl⟩
 . cases lo with
   |none=>simp[sliceBounds,HT.sIx]
   |some i =>
    simp only[sliceBounds,HT.sIx,Option.getD_none,show(1:Int) > 0 by decide,jx]
    by_cases h:i<0
    . simp only[h,jx]<;>lia
    . simp only[h,ji]<;>lia
 . cases hi with
   |none=>simp[sliceBounds,HT.sIx]
   |some i =>
    simp only[sliceBounds,HT.sIx,Option.getD_none,show(1:Int) > 0 by decide,jx]
    by_cases h:i<0
    . simp only[h,jx]<;>lia
    . simp only[h,ji]<;>lia
def X6(yw:Zl)(lo hi:Option Int):slicePick yw.toArray lo hi none=((yw.drop (HT.sIx yw.length 0 lo)).take (HT.sIx yw.length yw.length hi-HT.sIx yw.length 0 lo)).toArray:=by obtain⟨h1,h2,h3⟩:=aa2 lo hi yw.toArray.size;unfold slicePick;rw[h1,h2,h3];simp only[sliceRange_one,pick_run,ig]<;>rfl
def a77(K:Fg):V->Option Int->Option Int->Hp->VK->Prop:=λx lo hi H Q=>∃a xs,x=.ref a/\Ia K H a xs/\∀p,H p=none->Q (.ref p) (upd H p (.lst (akq xs lo hi)))
def auz:SlR X (a77 X.K):=by intro pins s σ H x v vl vu lo hi sl Q I rx hs pl pu h;obtain⟨a,xs,rfl,hx,q⟩:=h;cases rx;obtain⟨yw,r,ht,hz⟩:=I.list hx;have hlen:=r.length;refine⟨"list",_,slot_list_getitem.lookup,ht.isList.typeIs,?_⟩;refine wpAny_getItem_list_slice ht.isList hs pl pu .none (by simp) ?_ (by rw[ig]<;>exact a_ (g_ hlen) hz);rw[X6,<- hlen];refine⟨.ref s.heap.objs.size,_,I.laid (t':=s.toks) (o:=.lst (akq xs lo hi)) (λb ob q=>au _ q) (bh _) ?_,rfl,q _ (I.Am.fresh (bh _))⟩;exact⟨gn (adm xs lo hi) hz,_,0,(r.drop (HT.sIx xs.length 0 lo)).take (HT.sIx xs.length xs.length hi-HT.sIx xs.length 0 lo),bu _ rfl⟩
def aa3:Dc X (.builtin "len") (λxs H Q=>∃p ys,xs=[.ref p]/\(Ia X.K H p ys\/Jh X.K H p ys)/\Q (.int ys.length) H):=by
 intro pins s σ H xs us Q I r h;obtain⟨p,ys,rfl,hq,q⟩:=h;obtain⟨u,rfl,rx⟩:=vals1 r;cases rx;have hn:=aa0;rcases hq with hq|hq
 . obtain⟨yw,r',pl,hz⟩:=I.list hq
   have hlen:=r'.length;exact Calls.call_len_list pl.isList (by simp only[ig]<;>lia) ⟨.int ys.length,H,I.tok _,⟨s.toks+1,by rw[ig,hlen]⟩,q⟩
 . obtain⟨yw,r',pl,hz⟩:=I.tuple hq
   have hlen:=r'.length;exact len_tuple pl (by simp only[ig]<;>lia) ⟨.int ys.length,H,I.tok _,⟨s.toks+1,by rw[ig,hlen]⟩,q⟩
def X7:Dc X (.type "tuple") (λxs H Q=>∃p ys,xs=[.ref p]/\((Ia X.K H p ys/\∀l,H l=none->Q (.ref l) (upd H l (.tup ys)))\/(Jh X.K H p ys/\Q (.ref p) H))):=by
 intro pins s σ H xs us Q I r h;obtain⟨p,ys,rfl,h⟩:=h;obtain⟨u,rfl,rx⟩:=vals1 r;cases rx;rcases h with⟨hq,q⟩|⟨hq,q⟩
 . obtain⟨yw,r',pl,hz⟩:=I.list hq
   have hlen:=r'.length;refine call_tuple_list pl.isList (λh' kp=>?_) (by simp only[ig]<;>exact a_ (g_ hlen) hz);have I1:Inv X pins σ H { s with heap:=h' }:=I.kept (t':=s.toks) kp;have I2:Inv X pins σ (upd H h'.objs.size (.tup ys)) { s with heap:=h'.push { cls:=.type "tuple",data:=.seq yw.toArray } } :=
    I1.laid (t':=s.toks) (λb o e=>au _ e) (bh _) (show Bj X.prog X.w _ _ _ (.tup ys) from⟨hz,yw,r',X4.new _ _⟩)
   exact⟨.ref h'.objs.size,_,I2,rfl,q _ (I1.Am.fresh (bh _))⟩
 . obtain⟨yw,r',pl,hz⟩:=I.tuple hq
   exact call_tuple_same pl ⟨.ref p,H,I,rfl,q⟩
def tyV(K:Fg)(T:String)(x:V)(H:Hp):Prop:=match x with
 |.str _=>T = "str"|.int _=>T = "int"
 |.ref p=>(T = "list"/\∃xs,Ia K H p xs)\/(T = "tuple"/\∃o,K.lookup p=some o/\o.cls=.type "tuple"/\o.dict=none) \/
  (T = "dict"/\((∃ie,H p=some (.dK ie))\/∃ie,H p=some (.dT ie)))\/(T = "set"/\∃S n,H p=some (.set S n))
 |_=>False
def a1a(I:Inv X pins σ H s)(r:RelV x v)(ty:tyV X.K T x H) :
 s.TypeIs v T/\∀a,v=.ref a->∃ob,s.heap.get? a=some ob/\ob.dict=none:=by
 cases x with
 |str z =>
  obtain⟨t,rfl⟩:=r;cases(show T = "str" from ty);exact⟨typeIs_str s z t,λ_ e=>nomatch e⟩
 |int i =>
  obtain⟨t,rfl⟩:=r;cases(show T = "int" from ty);exact⟨typeIs_int s i t,λ_ e=>nomatch e⟩
 |ref p =>
  cases r;rcases ty with⟨rfl,xs,hq⟩|⟨rfl,o,hk,hc,hd⟩|⟨rfl,hk⟩|⟨rfl,S,n,hk⟩
  . obtain⟨yw,_,pl,_⟩:=I.list hq
    refine⟨pl.isList.typeIs,λa e=>?_⟩;cases e;obtain⟨o,n,e,c,hd,_⟩:=pl;exact⟨o,e,hd⟩
  . refine⟨⟨o,I.U4 p o hk,hc⟩,λa e=>?_⟩
    cases e;exact⟨o,I.U4 _ o hk,hd⟩
  . have z:∃o,s.heap.get? p=some o/\o.ExactDict:=by
     rcases hk with⟨ie,hk⟩|⟨ie,hk⟩
     . obtain⟨_,_,_,_,o,_,_,e,ex,_⟩:=I.Am p _ hk
       exact⟨o,e,ex⟩
     . obtain⟨_,_,_,_,o,_,_,e,ex,_⟩:=I.Am p _ hk
       exact⟨o,e,ex⟩
    obtain⟨o,e,ex⟩:=z;refine⟨⟨o,e,ex.1⟩,λa e2=>?_⟩;cases e2;exact⟨o,e,ex.2.1⟩
  . obtain⟨o,_,_,_,e,ex,_⟩:=I.Am p _ hk
    refine⟨⟨o,e,ex.1⟩,λa e2=>?_⟩;cases e2;exact⟨o,e,ex.2.1⟩
 |_=>exact False.elim ty
def tBM(K:Fg)(T:String)(r:V->List V->Hp->VK->Prop)(to:TE)(t:TA):TE:=fun σ H Q=>to σ H λx H1=>tyV K T x H1/\t σ H1 λxs H2=>r x xs H2 Q
theorem a78{id:String}(pa:PlainAttrs T)(slot:Slot T name id)(hty:typeOf (.builtin id)=pure (.type "method_descriptor"))(hm:MtR X id r)(ho:PE X o to)(ha:PA X (e::es) t)(ao7:attributeBase o name X.env (eval o X.env)=eval o X.env:=by rfl)(a1b:((backTo We (starEach (e::es) X.env)).all (λx=>!x.1)&&(backToKw We (keywordEach [] X.env)).all (λx=>x.1.isSome)
&&decide ((e::es).length+([]:List Keyword).length+(if([]:List Keyword).isEmpty then 0 else 1)<30))=true:=by rfl)(ao8:(apos.endLine==We.line)=true:=by rfl)(hs:starEach (e::es) X.env=(false,eval e X.env)::starEach es X.env:=by rfl)(agi:(backTo We (starEach es X.env)).any (·.1)=false:=by rfl) :
 PE X (.Call (.Attribute o name apos) (e::es) [] We) (tBM X.K T r to t):=by
 intro pins s σ H Q I h;refine wpAny_Call_method_late ao7 a1b ao8 rfl (Bu (ho pins s σ H _ I h) λv s1 z_=>?_);obtain⟨x,H1,I1,r1,ty,q1⟩:=z_;obtain⟨h1,h2⟩:=a1a I1 r1 ty;refine⟨T,id,pa,slot,hty,h1,h2,?_⟩;have hA:=ha We pins s1 σ H1 _ I1 q1;rw[hs] at hA ⊢;refine Calls.callWith_builtin (by show(false||(backTo We (starEach es X.env)).any (·.1))=false;rw[agi]<;>rfl) (Calls.evalArgs_plain ?_);exact Bu hA λus s2 ⟨vs,H2,I2,r2,q2⟩=>hm pins s2 σ H2 x vs v us Q I2 r1 r2 q2
end L2
namespace L2
open PySem PySem.Spec PyProof.Rows
def MtM(X:Cx)(id:String)(r:V->List V->Hp->VK->Prop):Prop :=
 ∀(pins:Zp)(s:Shared)(σ:St)(H:Hp)(x:V)(xs:List V)(v:Value)(us:Zl)(Q:VK),Inv X pins σ H s->RelV x v->Vals xs us->r x xs H Q ->
  wpAny (model X.prog X.w) X.A (call (.builtin id) (v::us)) (EP X pins σ Q) X.xe s
theorem Vals.one:∀{x:V}{us:Zl},Vals [x] us->∃u,us=[u]/\RelV x u
 |_,_,.cons r .nil=>⟨_,rfl,r⟩
def Inv.bes{yw:Zl}(I:Inv X pins σ H s)(hH:H l=some (.lst xs))(e:s.heap.get? l=some { cls:=.type "list",data:=.seq yw.toArray n })(hf:f yw.toArray=its'.toArray)(hv:Vals ys its')(hz:ys.length<=sizeLine) :
 Inv X pins σ (upd H l (.lst ys)) { s with heap:=s.heap.update l (Obj.mapSeq f),toks:=t' }:=by
 have q:=PySem.IsL.update e f;rw[hf] at q;refine I.write (x:=l) (e:=l) (by rw[hH];exact trivial) (.inl rfl) (λb' u hb hu=>(uq s.heap (Obj.mapSeq f) (j0 hb)).trans hu) ⟨_,q⟩ ?_;exact⟨hz,its',_,hv,q⟩
def Inv.bet(I:Inv X pins σ H s)(hv:Vals ys yw)(hz:ys.length<=sizeLine) :
 Inv X pins σ (upd H s.heap.objs.size (.lst ys)) { s with heap:=s.heap.push { cls:=.type "list",data:=.seq yw.toArray },toks:=t' } :=
 I.laid (λ_ _ q=>au _ q) (bh _) ⟨hz,yw,0,hv,bu _ rfl⟩
theorem Inv.fresh(I:Inv X pins σ H s):H s.heap.objs.size=none:=I.Am.fresh (bh _)
def Inv.au0(I:Inv X pins σ H s)(hH:H l=some (.lst xs)):xs.length<=sizeLine/\∃(yw:Zl)(n:Nat),Vals xs yw/\xs.length=yw.length/\s.heap.get? l=some { cls:=.type "list",data:=.seq yw.toArray n }:=by obtain⟨z,yw,n,r,e⟩:=I.Am l _ hH;exact⟨z,yw,n,r,r.length,e⟩
def au1:V->List V->Hp->VK->Prop:=λx vs H Q=>∃l xs y,x=.ref l/\vs=[y]/\H l=some (.lst xs)/\xs.length<sizeLine/\Q .non (upd H l (.lst (xs++[y])))
def Zb:MtM X "list.append" au1:=by intro pins s σ H x vs v us Q I rx rv h;obtain⟨l,xs,y,rfl,rfl,hH,hz,q⟩:=h;cases rx;obtain⟨u,rfl,ru⟩:=rv.one;obtain⟨z,yw,n,r,hl,e⟩:=I.au0 hH;refine call_meets F.slot_list_append ⟨_,e,rfl⟩ F.entry_list_append (F.args_list_append_2 _ _) (PySem.list_append l yw.toArray n u (by rw[ig];exact e_ (c_ (g_ hl) hz))) ⟨e,?_⟩;refine⟨.non,_,I.bes (its':=yw++[u]) hH e (by simp) (r.append (.cons ru .nil)) ?_,rfl,q⟩;rw[wj,List.length_singleton];exact hz
def a79:R2:=λx y H Q=>∃l b xs zs,x=.ref l/\y=.ref b/\H l=some (.lst xs)/\H b=some (.lst zs)/\xs.length+zs.length<=sizeLine/\∀p,H p=none->Q (.ref p) (upd H p (.lst (xs++zs)))
def ao9:Cz X (binaryOp .Add) a79:=by
 intro pins s σ H x y v u Q I rx ry h;obtain⟨l,b,xs,zs,rfl,rfl,hH,hB,hz,q⟩:=h;cases rx;cases ry;obtain⟨z,yw,n,r,hl,e⟩:=I.au0 hH;obtain⟨z2,a8a,n2,r2,hl2,e2⟩:=I.au0 hB;refine PySem.P.add_list e e2 ?_ (by rw[ig,ig];lia);have ea:yw.toArray++a8a.toArray=(yw++a8a).toArray:=by simp
 rw[ea];exact⟨.ref _,_,I.bet (t':=s.toks) (r.append r2) (by rw[wj];exact hz),rfl,q _ I.fresh⟩
end L2
namespace Att
open PySem PySem.W PySem.Calls PyProof.Rows
def U7:∀(ns:Xs)(vs:Zl),WellAll P h vs (ns.map WData.int)->IntsAre vs ns:=by
 intro ns
 induction ns with
 |nil =>
  intro vs w;rw[List.map_nil] at w;cases w;exact .nil
 |cons n ns ih =>
  intro vs w;rw[gq] at w;cases w with
  |cons a b =>
   cases a;exact .cons _ _ (ih _ b)
def akr{l:OpenLaw}(hn:l.most=some n)(au2:l.row.toRowW.claim.pre args=true)(hwl:WellAll P h vals args) :
 ∃a vs ns,vals=[Value.ref a]/\args=[WData.list (ns.map WData.int)]/\h.get? a=some { cls:=.type "list",data:=.seq vs.toArray }/\IntsAre vs ns/\ns.length<=n:=by
 have hsh:WShape.hasAll [] args [.list .int]=true:=(pre_splitW au2).1;have hc:l.pre.holds [] { args:=args }=true:=(pre_splitW au2).2;obtain⟨d,r,rfl,h1,h2⟩:=hasAllW_cons hsh;obtain rfl:=hasAllW_nil h2;obtain⟨xs,rfl,h3⟩:=hasW_list h1;obtain⟨ns,rfl⟩:=items_int h3;have hlen:ns.length<=n:=by
  unfold OpenLaw.pre at hc;have h4:(WTm.not (.lt (.lit (.int (n:Int))) (.len (.arg 0)))).holds [] { args:=[.list (ns.map .int)] }=true:=by have h4:=(holds_andW hc).1;rw[hn] at h4;exact h4
  have h5:=condW_of h4 (w_not (w_lt w_lit (w_len_list (w_arg rfl))));rw[du] at h5;refine Nat.le_of_not_lt λq=>?_
  have q':(n:Int)<((ns.length:Nat):Int):=m_ q
  first
   |(rw[decide_eq_true q'] at h5;exact absurd h5 (by decide))
   |(simp at h5;omega)
 cases hwl with
 |cons w1 w2 =>
  cases w2;cases w1 with
  |list ho Dr=>exact⟨_,_,ns,rfl,rfl,ho,U7 ns _ Dr,hlen⟩
def aks(l:OpenLaw)(args:List WData):l.row.toRowW.claim.post args (.bool true) args=true :=
 postW_of (r:=l.row.toRowW) (X:=(true==true))
  (show WShape.has [] (.bool true) .bool=true by first|rfl|decide|simp[WShape.has,WShape.arms,WShape.armsAll])
  (show(WTm.eq .res (.lit (.bool true))).value [] { args:=args,res:=some (.bool true),after:=args }=some (.bool (true==true)) from w_eq_bool (w_res rfl) w_lit) rfl
def adn{l:OpenLaw}(hn:l.most=some n)(hdf:d.params.defaults=[])(call:∀(w:World) (s₀ s₁:Shared) (mg mb:Zs) (fa:Addr) (o:Obj) (pm cd doc:Value) (a:Addr) (vs:Zl) (ns:Xs),
 Ground q loose [] XP w s₀ mg mb s₁.heap->YP w s₁.heap ->
 s₁.heap.get? fa=some o->o.data=.func (docDef d.name d.params d.body d.scope pm cd doc)->s₁.heap.CodeRec cd d.name->mg d.name=some (.ref fa) ->
 s₁.heap.get? a=some { cls:=.type "list",data:=.seq vs.toArray }->IntsAre vs ns->ns.length<=n->s₁.gens=#[] ->
 codeAny (model l.prog w) callerA (.call (.ref fa) ⟨[.ref a],[]⟩) (λr s'=>r=.ok (.ret (.bool true))/\OldK s₁.heap s'.heap/\s'.os=s₁.os/\AllBare s'.gens) s₁) :
 WalkO q loose XP YP l.row.toRowW d [] (λf vs=>PySem.call f vs):=by
 intro w s₀ s₁ mg mb G Y fa o pm cd doc dV kV ho hd hcd hD hmg hg args vals as au2 bk0 hrd hwl hlo;obtain rfl:dV=.none:=Dflts.none hD hdf;obtain rfl:kV=.none:=Dflts.noKw hD;obtain⟨a,vs,ns,rfl,rfl,a1c,hints,hlen⟩:=akr hn au2 hwl;refine enter_call (wu (call w s₀ s₁ mg mb fa o pm cd doc a vs ns G Y ho (fd_plain hd) hcd hmg a1c hints hlen hg) λr s' hq=>?_);obtain⟨rfl,h2,h3,h4⟩:=hq;exact⟨.inl ⟨.bool true,.bool true,[],rfl,λ_=>rfl,.bool true,aks l _,λ_=>⟨List.Pairwise.nil,λ_ hm=>(nomatch hm)⟩⟩,h2,h3,h4⟩
end Att
namespace L2
open PySem PySem.Spec PyProof.Rows
theorem Zc:∀{vs:Zl}{ns:Xs},IntsAre vs ns->Vals (ns.map V.int) vs
 |_,_,.nil=>.nil|_,_,.cons n t h=>.cons ⟨t,rfl⟩ (Zc h)
def Only(H:Hp):Prop:=∀b,H b=none\/∃o xs,H b=some (.N7 o (.lst xs))
def apa{K:Fg}(KX:K.In s₁.heap)(hns:s₁.heap.Ns mainGlobals mg)(hb:s₁.heap.Ns builtinsNs mb)(hbb:∀x:Str,x≠"__name__" -> mb x=bootBuiltins x)(bev:s₁.heap.NoLimit)(hg:s₁.gens=#[])(ha:s₁.heap.get? a=some { cls:=.type "list",data:=.seq vs.toArray })(hi:IntsAre vs ns)(hl:ns.length<=sizeLine)(hr:Aj k callerA)(F:∀base:Heap,K.In base->base.Ns mainGlobals mg->Fo P w K mg base CX k fa fd [x] sp)(a8d:∀(s:Shared) (u:Value),BindsTo s fd ⟨[u],[]⟩ [(x,u)])(hsp:∀H:Hp,Only H->Ia K H a (ns.map V.int)->sp [.ref a] H (λv _=>v=.bl true) λ_ _ _=>False)(hCX:∀H e s',CX [] H s₁ (λ_ _ _=>False) e s'->False) :
 codeAny (model P w) callerA (.call (.ref fa) ⟨[.ref a],[]⟩) (λr s'=>r=.ok (.ret (.bool true))/\OldK s₁.heap s'.heap/\s'.os=s₁.os/\AllBare s'.gens) s₁:=by
 have rv:=Zc hi;have lenV:=hi.length;have core:∀H:Hp,Only H->Ia K H a (ns.map V.int)->Py P w H s₁.heap->(∀b,H b≠none->b=a)->(H a≠none->K.lookup a=none) ->
  codeAny (model P w) callerA (.call (.ref fa) ⟨[.ref a],[]⟩) (λr s'=>r=.ok (.ret (.bool true))/\OldK s₁.heap s'.heap/\s'.os=s₁.os/\AllBare s'.gens) s₁:=by
  intro H hO hS Am hA hK;have Ji:∀{b:Addr}{o:Obj},s₁.heap.get? b=some o->H b=none->(aav s₁.heap H).get? b=some o:=λe n=>aob e n
  have noA:∀{b:Addr}{o:Obj}{es:Array DictEntry}{ep:Nat},s₁.heap.get? b=some o->o.data=.dict es ep->H b=none:=fun{b o es ep} e d=>by
   cases q:H b with
   |none=>rfl
   |some u =>
    have e':b=a:=hA b (by rw[q];simp);subst e';rw[ha] at e;cases e;have d':Data.seq vs.toArray _=Data.dict es ep:=d;cases d'
  have nsK:∀{b:Addr}{m:Zs},s₁.heap.Ns b m->(aav s₁.heap H).Ns b m:=fun{b m} ⟨o,es,ep,e,d,r⟩=>⟨o,es,ep,Ji e (noA e d),d,r⟩
  have hKb:K.In (aav s₁.heap H):=λb o e=>Ji (KX b o e) (by
   cases q:H b with
   |none=>rfl
   |some u =>
    have e':b=a:=hA b (by rw[q];simp);subst e';rw[hK (by rw[q];simp)] at e;cases e)
  have hM:Mod K mg (aav s₁.heap H):=⟨hKb,nsK hns,⟨mb,nsK hb,hbb⟩,let ⟨mc,h1,h2⟩:=bev;⟨mc,nsK h1,h2⟩⟩;have e0:agd P w K mg (aav s₁.heap H) callerA [] s₁ H:=⟨rfl,hM,λb o e=>at8 e,Nat.le_of_eq (akd _ _),trivial,λb hb=>absurd (show b∈([]:X9) from hb) (by simp),Am,.of_eq hg⟩;refine wu ((F _ hKb (nsK hns)).run callerA [] s₁ H ⟨[.ref a],[]⟩ [.ref a] [.ref a] _ _ hr e0 (a8d s₁ (.ref a)) (.cons rfl .nil) (hsp H hO hS)) λr s' h=>?_
  cases r with
  |error e=>exact(hCX H e s' h).elim
  |ok fl =>
   cases fl with
   |next=>exact False.elim h|brk=>exact False.elim h|cont=>exact False.elim h
   |ret u =>
    obtain⟨v,H',os,bare,un,bex,r',q⟩:=h;have q':v=.bl true:=q;subst q';obtain rfl:u=Value.bool true:=r';refine⟨rfl,OldK.of_keep λb o e=>?_,os,bare⟩;cases q:H b with
    |none=>exact un.keep b o e q (by intro z;exact absurd (show b∈([]:X9) from z) (by simp)) (by simp)
    |some u =>
     rcases hO b with z|⟨ob,xs,z⟩
     . rw[q] at z;cases z
     . have z2:=un.aau b ob _ z
       obtain⟨e1,_⟩:=Am b _ z;obtain⟨e2,_⟩:=bex b _ z2;rw[e] at e1;cases e1;exact e2
 cases hk:K.lookup a with
 |some o =>
  have e:=KX a o hk;rw[ha] at e;cases e;refine core (λ_=>none) (λ_=>.inl rfl) (.inr ⟨_,vs.toArray,_,hk,rfl,rfl,rfl,by rw[ig,lenV];exact hl,by simpa using rv⟩) (λb u z=>by have z':(none:Option HO)=some u:=z;cases z') (λb z=>absurd rfl z) λz=>absurd rfl z
 |none =>
  refine core (λb=>if b=a then some (.N7 { cls:=.type "list",data:=.seq vs.toArray } (.lst (ns.map V.int))) else none) (λb=>?_) (.inl (.inr ⟨{ cls:=.type "list",data:=.seq vs.toArray },cz rfl⟩)) (λb u z=>?_) (λb z=>?_) λ_=>hk
  . by_cases hb:b=a
    . exact .inr ⟨_,_,cz hb⟩
    . exact .inl (bw hb)
  . by_cases hb:b=a
    . have z':=(cz hb).symm.trans z
      cases z';subst hb;exact⟨ha,by rw[du];exact hl,vs,_,rv,ha⟩
    . have z':=(bw hb).symm.trans z
      cases z'
  . by_cases hb:b=a
    . exact hb
    . exact absurd (bw hb) z
end L2
namespace L2
open PySem PySem.Spec PyProof.Rows
def au3{l:PySem.W.OpenLaw}{K:Params->Fg}{CX:World->CXT}{sp:World->Sp}(hn:l.most=some n)(Xv:n<=sizeLine)(hdf:d.params.defaults=[])(hr:Aj k callerA)(hY:∀(w:World) (h:Heap),YP w h->(K w.params).In h)(F:∀(w:World) (mg:Zs) (fa:Addr) (h:Heap),(K w.params).In h->h.Ns mainGlobals mg->mg d.name=some (.ref fa) ->
 ∃fd:FuncData,(∀(s:Shared) (u:Value),BindsTo s fd ⟨[u],[]⟩ [(x,u)]) /\
  ∀base:Heap,(K w.params).In base->base.Ns mainGlobals mg->Fo l.prog w (K w.params) mg base (CX w) k fa fd [x] (sp w))(hsp:∀(w:World) (H:Hp) (a:Addr) (ns:Xs),ns.length<=n->Only H->Ia (K w.params) H a (ns.map V.int)->sp w [.ref a] H (λv _=>v=.bl true) λ_ _ _=>False)(hCX:∀(w:World) (H:Hp) (s:Shared) (e:Value) (s':Shared),CX w [] H s (λ_ _ _=>False) e s'->False) :
 PySem.W.WalkO q loose XP YP l.row.toRowW d [] (λf vs=>PySem.call f vs):=by
 refine Att.adn hn hdf λw s₀ s₁ mg mb fa o pm cd doc a vs ns G Y ho hd hcd hmg a1c hints hlen hg=>?_
 have KX:=hY w _ Y;obtain⟨fd,hb,hF⟩:=F w mg fa _ KX G.T.g hmg;exact apa KX G.T.g G.T.b G.T.builtins G.T.nolimit hg a1c hints (gn hlen Xv) hr hF hb (λH hO hS=>hsp w H a ns hlen hO hS) λH e s'=>hCX w H s₁ e s'
end L2
namespace L2
open PySem PySem.Spec PyProof.Rows
noncomputable def inClass(s:Stmt)(j:Nat):Stmt:=match s with
 |.ClassDef _ _ _ body _ _ _ _ _ _ _=>body.getD j (.Pass ⟨0,0,0,0⟩)|_=>.Pass ⟨0,0,0,0⟩
noncomputable def Jj(s:Stmt):Arguments:=match s with
 |.FunctionDef _ a _ _ _ _ _ _ _ _=>a|_=>{ posonlyargs:=[],args:=[],vararg:=none,kwonlyargs:=[],kw_defaults:=[],kwarg:=none,defaults:=[] }
noncomputable def Ge(s:Stmt):List Stmt:=match s with
 |.FunctionDef _ _ b _ _ _ _ _ _ _=>b|_=>[]
noncomputable def Bk(s:Stmt):Scope:=match s with
 |.FunctionDef _ _ _ _ _ _ sc _ _ _=>sc|_=>{ kind:=.function,names:=[],isGenerator:=false,isCoroutine:=false }
abbrev CX0:CXT:=λ_ _ _ _ _ _=>False
abbrev E0:XK:=λ_ _ _=>False
def ah8:Passes CX0 X E0:=λ_ _ _ _ _ _ _ h=>h.elim
structure Fun(K:Fg)(x qual:Str)(st:Stmt)(f:Addr)(fd:FuncData):Prop where
 ex:∃(oc:Value)(od:Option Addr)(kV doc pm:Value)(an:Option Addr)(cdv ct:Value)(osl:Array (Option Value)),
  fd=PySem.W.fnOf x qual (Jj st) (Ge st) (Bk st) .none kV doc pm an cdv ct/\K.lookup f=some ⟨oc,od,.func fd,osl⟩/\PySem.W.codeIn K cdv qual=true
 kp:PySem.W.keepIn K (.ref f)=true
def Fun.ok{K:Fg}{st:Stmt}(F:Fun K x qual st f fd)(S:Vf N ps (Bk st))(len:∀vs H Q E,sp vs H Q E->vs.length=ps.length)(aox:∀(cdv:Value) (A:Around) (outer:List Env) (s:Shared) (H:Hp) (vs:List V) (Q:VK) (E:XK),Aj k (A.deeper (envOfC qual (Bk st) s.heap.objs.size f cdv))->sp vs H Q E ->
 ∃t,Rh (agf CX0 P w K mg base N qual (Bk st) f cdv A outer s H E).nox (Ge st) t/\t { nx:=λ_ H'=>Q .non H',rt:=Q } (start N vs) H):Fo P w K mg base CX0 (k+1) f fd ps sp:=by
 obtain⟨oc,od,kV,doc,pm,an,cdv,ct,osl,rfl,lk,hcd⟩:=F.ex;refine a7y lk hcd S len λA outer s H vs Q E hr hsp=>?_
 obtain⟨t,h,q⟩:=aox cdv A outer s H vs Q E hr hsp;exact⟨t,h.nox,q⟩
def Fun.binds{K:Fg}{st:Stmt}(F:Fun K x qual st f fd)(h:∀(kV doc pm:Value) (an:Option Addr) (cdv ct:Value) (us:Zl),us.length=ps.length->bindArgs (PySem.W.fnOf x qual (Jj st) (Ge st) (Bk st) .none kV doc pm an cdv ct) ⟨us,[]⟩=pure (ps.zip us)):Binds K fd ps []:=by obtain⟨oc,od,kV,doc,pm,an,cdv,ct,osl,rfl,lk,hcd⟩:=F.ex;exact .all (h kV doc pm an cdv ct)
def apb{K:Fg}{st:Stmt}{f:Addr}{oc:Value}{od an:Option Addr}{osl:Array (Option Value)}{kV doc pm cdv ct:Value}(l:K.lookup f=some ⟨oc,od,.func (PySem.W.fnOf x qual (Jj st) (Ge st) (Bk st) .none kV doc pm an cdv ct),osl⟩)(c:PySem.W.codeIn K cdv qual=true)(k:PySem.W.keepIn K (.ref f)=true):Fun K x qual st f (PySem.W.fnOf x qual (Jj st) (Ge st) (Bk st) .none kV doc pm an cdv ct):=⟨⟨oc,od,kV,doc,pm,an,cdv,ct,osl,rfl,l,c⟩,k⟩
def ado{A:Around}{k:Nat}(hr:Aj k A):A.units+1<cLine:=Nat.lt_of_le_of_lt (Nat.add_le_add_left (by decide:1<=64) _) hr.units
end L2
namespace L2
open PySem PySem.Spec PyProof.Rows
def adp:fillsNumberSlot (.type "tuple") "mul" = pure false :=
 PySem.fillsNumberSlot_seq (id := "tuple.__mul__") (r:=some (.builtin "tuple.__rmul__")) xq.lookup (by decide+kernel) F.slot_tuple_rmul.lookup (by decide+kernel)
def apc:seqRepeat? (.type "tuple")=pure (some (.builtin "tuple.__mul__")):=by unfold seqRepeat?;rw[PySem.seqSlot_of (T := "tuple") (name := "__mul__") (id := "tuple.__mul__") xq.lookup (by decide+kernel),PySem.seqSlot_of (T := "tuple") (name := "__rmul__") (id := "tuple.__rmul__") F.slot_tuple_rmul.lookup (by decide+kernel)];rfl
def a1d(a:Int)(t:Tok)(l:Addr)(items:U1)(n:Nat)(dd:Option Addr)(sl:Array (Option Value)) :
 Meets (Builtin.«int.__rmul__» ⟨[.int a t,.ref l],[]⟩) (λ_ R s=>s.heap.get? l=some { cls:=.type "tuple",dict:=dd,data:=.seq items n,slots:=sl }/\R (.ok (.ret Value.notImplemented)) s) :=
 .of_wp λprog w A R s h=>by obtain⟨hp,g,d,tk,os⟩:=s;obtain⟨hl,h⟩:=h;wp_walk;exact⟨_,rfl,h⟩
def a8e(l:Addr)(items:U1)(n:Nat)(dd:Option Addr)(sl:Array (Option Value))(u:Tok) :
 Meets (Builtin.«tuple.__mul__» ⟨[.ref l,.int 1 u],[]⟩) (λ_ R s=>s.heap.get? l=some { cls:=.type "tuple",dict:=dd,data:=.seq items n,slots:=sl }/\R (.ok (.ret (.ref l))) s) :=
 .of_wp λprog w A R s h=>by obtain⟨hp,g,d,tk,os⟩:=s;obtain⟨hl,h⟩:=h;wp_walk;exact⟨_,rfl,h⟩
def a8f(l:Addr)(x:Value)(n:Nat)(dd:Option Addr)(sl:Array (Option Value))(u:Tok) :
 Meets (Builtin.«tuple.__mul__» ⟨[.ref l,.int 0 u],[]⟩) (λ_ R s=>s.heap.get? l=some { cls:=.type "tuple",dict:=dd,data:=.seq #[x] n,slots:=sl }/\R (.ok (.ret (.ref s.heap.objs.size))) { s with heap:=s.heap.push { cls:=.type "tuple",data:=.seq #[] } }) :=
 .of_wp λprog w A R s h=>by obtain⟨hp,g,d,tk,os⟩:=s;obtain⟨hl,h⟩:=h;wp_walk;exact⟨_,rfl,h⟩
theorem adq(x:Value):∀(k:Nat)(a:U1),List.foldl (λx1 x2=>x1++x2) a (List.replicate k #[x])=a++(List.replicate k x).toArray
 |0,a=>by simp|k+1,a=>by rw[List.replicate_succ,Bg,adq x k,Array.append_assoc,List.replicate_succ];congr 1;apply Array.ext';simp
theorem ax9(r:RelV d v):∀k:Nat,Vals (List.replicate k d) (List.replicate k v)
 |0=>.nil|k+1=>.cons r (ax9 r k)
def a8g(l:Addr)(x:Value)(k n:Nat)(dd:Option Addr)(sl:Array (Option Value))(u:Tok)(h2:2<=k)(hk:k<=100000) :
 Meets (Builtin.«tuple.__mul__» ⟨[.ref l,.int k u],[]⟩) (λ_ R s=>s.heap.get? l=some { cls:=.type "tuple",dict:=dd,data:=.seq #[x] n,slots:=sl }/\R (.ok (.ret (.ref s.heap.objs.size))) { s with heap:=s.heap.push { cls:=.type "tuple",data:=.seq (List.replicate k x).toArray } }) :=
 .of_wp λprog w A R s h=>by
  obtain⟨hp,g,d,tk,os⟩:=s;obtain⟨hl,h⟩:=h;have e:=adq x k #[];rw[Array.empty_append] at e;rw[<- e] at h;have a1:¬(decide ((k:Int) < -2 ^ 63)||decide ((k:Int) >= 2 ^ 63))=true:=by simp;omega
  have a2:¬(Array.isEmpty #[x]||(k:Int)==1)=true:=by simp;omega
  have a3:¬(decide ((k:Int)<=0)||Array.isEmpty #[x])=true:=by simp;omega
  have a4:¬((Array.size #[x]:Nat):Int)*(k:Int) > (2 ^ 63-1) / 8:=by simp;omega
  have a5:¬Builtin.Tuple.tupleTooMany (((Array.size #[x]:Nat):Int)*(k:Int))=true:=by simp[Builtin.Tuple.tupleTooMany,sizeLine];omega
  wp_walk;refine wg (ph a1) ?_
  wp_walk;refine wg (ph a2) ?_
  wp_walk;refine wg (ph a3) ?_
  wp_walk;refine wg (ph a4) ?_
  wp_walk;refine wg (ph a5) ?_
  wp_walk;refine wg (ph (Nat.not_lt.mpr (by show Array.size (List.foldl _ _ (List.replicate k _))<=_;rw[e,ig,ye];exact gn hk (by decide)))) ?_
  wp_walk
  exact⟨_,rfl,h⟩
def au4:Cz X (binaryOp .Mult) (λx y H Q=>∃a v,∃k:Nat,x=.ref a/\y=.int k/\Jh X.K H a [v]/\k<=100000/\(k=1->Q (.ref a) H)/\∀p,H p=none->Q (.ref p) (upd H p (.tup (List.replicate k v)))):=by
 intro pins s σ H x y v u Q I rx ry h;obtain⟨a,d,k,rfl,rfl,ha,hk,q1,q2⟩:=h;cases rx;obtain⟨t,rfl⟩:=ry;obtain⟨yw,r1,p1,_⟩:=I.tuple ha;cases r1 with
 |cons r1 r2 =>
  cases r2;obtain⟨⟨cls,dd,data,sl⟩,ho,hc,n,hd⟩:=id p1;simp only at hc hd;subst hc hd;refine wpAny_binaryOp_repeat_ref (T := "tuple") (U := "int") (by decide) ⟨_,ho,rfl⟩ (λs'=>typeIs_int s' _ _) adp F.fills_int_mul F.slot_int_rmul apc F.slot_int_index.lookup
   (call_meets F.slot_int_rmul (typeIs_int s _ _) F.entry_int_rmul (F.args_int_rmul_2 _ _) (a1d _ _ a _ n dd sl) ⟨ho,rfl,⟨_,ho,rfl⟩,?_⟩)
  have go:∀its':List Value,its'=List.replicate k _->Inv X pins σ (upd H s.heap.objs.size (.tup (List.replicate k d))) { s with heap:=s.heap.push { cls:=.type "tuple",data:=.seq its'.toArray } }:=λits' e=>I.laid (t':=s.toks) (o:=.tup (List.replicate k d)) (λb ob q=>au _ q) (bh _) ⟨by rw[ye];exact gn hk (by decide),_,by rw[e];exact ax9 r1 k,X4.new _ _⟩
  by_cases h1:k=1
  . subst h1
    exact call_meets xq ⟨_,ho,rfl⟩ F.entry_tuple_mul (F.args_tuple_mul_2 _ _) (a8e a _ n dd sl t) ⟨ho,.ref a,H,I,rfl,q1 rfl⟩
  by_cases h0:k=0
  . subst h0
    exact call_meets xq ⟨_,ho,rfl⟩ F.entry_tuple_mul (F.args_tuple_mul_2 _ _) (a8f a _ n dd sl t) ⟨ho,.ref s.heap.objs.size,_,go [] rfl,rfl,q2 _ (I.Am.fresh (bh _))⟩
  . exact call_meets xq ⟨_,ho,rfl⟩ F.entry_tuple_mul (F.args_tuple_mul_2 _ _) (a8g a _ k n dd sl t (by omega) hk) ⟨ho,.ref s.heap.objs.size,_,go _ rfl,rfl,q2 _ (I.Am.fresh (bh _))⟩
noncomputable def Dp(cells:Xt):List (Str×NameKind)->List (Str×Addr)->List (Str×Addr)
 |[],cs=>cs|(n,k)::r,cs=>Dp cells r (if k==.free then(n,(cells.lookup n).getD 0)::cs else cs)
theorem Uk{α β:Type}{f:α->β->Sem (ForInStep β)}{g:α->β->β}:∀{l:List α}(c:β),(∀x∈l,∀c,f x c=pure (.yield (g x c)))->forIn l c f=pure (l.foldl (λc x=>g x c) c)
 |[],c,_=>rfl
 |x::l,c,h=>by
  rw[List.forIn_cons,h x di,pure_bind];exact Uk (g x c) λy hy=>h y (bc _ hy)
theorem Ul(cells:Xt):∀(l:X0)(cs:Xt),Dp cells l cs=l.foldl (λc x=>if x.2==.free then(x.1,(cells.lookup x.1).getD 0)::c else c) cs
 |[],_=>rfl|(n,k)::r,cs=>Ul cells r _
def Wf(h:∀y∈scope.names,y.2=.free->∃c,env.cells.lookup y.1=some c):closureFor scope env=pure (Dp env.cells scope.names []):=by
 simp only[closureFor];rw[Uk (g:=λx c=>if x.2==.free then(x.1,(env.cells.lookup x.1).getD 0)::c else c) [] (λx hx c=>by
  obtain⟨n,k⟩:=x
  by_cases hk:k=.free
  . subst hk
    obtain⟨c',hc⟩:=h (n,.free) hx rfl;have hc:env.cells.lookup n=some c':=hc;simp[cellOf,hc]
  . have hb:(k==NameKind.free)=false:=by simpa using hk
    simp[hb]),Ul]
 rfl
theorem adt(cells:Xt):∀(l:X0)(cs:Xt)(x:Str)(c:Addr),(∀y∈l,y.2=.free->∃c,cells.lookup y.1=some c)->(Dp cells l cs).lookup x=some c ->
 cs.lookup x=some c\/cells.lookup x=some c
 |[],cs,x,c,_,h=>.inl h
 |(n,k)::r,cs,x,c,hy,h=>by
  rcases adt cells r _ x c (λz hz=>hy z (bc _ hz)) h with q|q
  . by_cases hk:k=.free
    . subst hk
      simp only[zg,jx,o6] at q;cases e:x==n with
      |true =>
       rw[e] at q;obtain⟨c',hc⟩:=hy (n,.free) di rfl;have hc:cells.lookup n=some c':=hc;simp only[hc,zf,Ai] at q;subst q;rw[eq_of_beq e];exact .inr hc
      |false=>rw[e] at q;exact .inl q
    . have hb:(k==NameKind.free)=false:=by simpa using hk
      simp only[hb,cu,ji] at q;exact .inl q
  . exact .inr q
theorem Wg(cells:Xt):∀(l:X0)(cs:Xt)(x:Str),(∃c,cs.lookup x=some c)->∃c,(Dp cells l cs).lookup x=some c
 |[],cs,x,h=>h
 |(n,k)::r,cs,x,h=>by
  refine Wg cells r _ x ?_
  by_cases hk:(k==NameKind.free)=true
  . rw[cz hk,o6]
    cases e:x==n with
    |true=>exact⟨_,rfl⟩|false=>exact h
  . rw[bw hk];exact h
theorem Th(cells:Xt):∀(l:X0)(cs:Xt)(x:Str),(x,NameKind.free)∈l->∃c,(Dp cells l cs).lookup x=some c
 |(n,k)::r,cs,x,h=>by
  rcases bz.mp h with q|q
  . obtain⟨rfl,rfl⟩:=Prod.mk.inj q
    refine Wg cells r _ x ⟨(cells.lookup x).getD 0,?_⟩;rw[cz (by simp),o6,zg]
  . exact Th cells r _ x q
theorem Oe{env:Env}:∀{names:X0}{x:Str},
 (names.map λ(y:Str×NameKind)=>if(y.2==NameKind.free&&env.scope.kind==.function&&env.kindOf y.1==some .cell) then(y.1,NameKind.cell) else(y.1,y.2)).lookup x
  = (names.lookup x).map λk=>if(k==NameKind.free&&env.scope.kind==.function&&env.kindOf x==some .cell) then NameKind.cell else k
 |[],_=>rfl
 |(n,k)::r,x=>by
  have ih:=@Oe env r x;rw[gq];cases hx:x==n with
  |true =>
   have e:=eq_of_beq hx;subst e;clear hx
   by_cases hc:(k==NameKind.free&&env.scope.kind==.function&&env.kindOf x==some .cell)=true
   . simp only[hc,jx,o6,zg,vm]
   . have hb:(k==NameKind.free&&env.scope.kind==.function&&env.kindOf x==some .cell)=false:=by simpa using hc
     simp only[hb,cu,ji,o6,zg,vm]
  |false =>
   by_cases hc:(k==NameKind.free&&env.scope.kind==.function&&env.kindOf n==some .cell)=true
   . simp only[hc,jx,o6,hx];exact ih
   . simp only[hc,o6,hx];simpa[o6,hx] using ih
theorem mem_of_lookup{α β:Type}[BEq α][LawfulBEq α]:∀{l:List (α×β)}{x:α}{y:β},l.lookup x=some y->(x,y)∈l
 |(a,b)::r,x,y,h=>by
  rw[o6] at h;cases e:x==a with
  |true=>rw[e] at h;cases h;rw[eq_of_beq e];exact di|false=>rw[e] at h;exact bc _ (mem_of_lookup h)
def Dq{α:Type}{v:α}{r:List (Str×α)}:((k,v)::r).lookup x=if x=k then some v else r.lookup x:=by
 rw[o6]
 by_cases h:x=k
 . rw[cz h,show(x==k)=true from beq_iff_eq.mpr h]
 . rw[bw h,show(x==k)=false from qw.mpr h]
set_option tactic.hygienic true in
theorem ah9:∀(l:X0)(n:Nat)(acc:Xt)(x:Str)(c:Addr),(cellsFrom n l acc).lookup x=some c->((x,NameKind.cell)∈l/\n<=c)\/acc.lookup x=some c
 |[],_,_,_,_,h=>.inr h
 |(k,kd)::r,n,acc,x,c,h=>by
  unfold cellsFrom at h;split at h
  . rename_i e
    rcases ah9 r _ _ x c h with⟨q,l⟩|q
    . exact .inl ⟨bc _ q,by omega⟩
    . rw[Dq] at q
      split at q
      . rename_i z
        cases q;exact .inl ⟨by rw[z,eq_of_beq e];exact di,bh _⟩
      . exact .inr q
  . rcases ah9 r _ _ x c h with⟨q,l⟩|q
    . exact .inl ⟨bc _ q,l⟩
    . exact .inr q
set_option tactic.hygienic true in
theorem aa5:∀(l:X0)(n:Nat)(acc:Xt)(x:Str),((x,NameKind.cell)∈l\/∃c,acc.lookup x=some c)->∃c,(cellsFrom n l acc).lookup x=some c
 |[],_,_,_,h=>by rcases h with q|q;cases q;exact q
 |(k,kd)::r,n,acc,x,h=>by
  unfold cellsFrom;split
  . refine aa5 r _ _ x ?_
    by_cases z:x=k
    . exact .inr ⟨n,by rw[Dq,cz z]⟩
    . rcases h with q|q
      . rcases bz.mp q with q|q
        . cases q;exact absurd rfl z
        . exact .inl q
      . exact .inr (by rw[Dq,bw z];exact q)
  . rename_i e
    refine aa5 r _ _ x ?_;rcases h with q|q
    . rcases bz.mp q with q|q
      . cases q;exact absurd rfl e
      . exact .inl q
    . exact .inr q
set_option tactic.hygienic true in
theorem apd:∀(l:X0)(n:Nat)(acc:Xt)(x:Str),(x,NameKind.cell)∉l->(cellsFrom n l acc).lookup x=acc.lookup x
 |[],_,_,_,_=>rfl
 |(k,kd)::r,n,acc,x,h=>by
  have h2:(x,NameKind.cell)∉r:=λq=>h (bc _ q)
  unfold cellsFrom;split
  . rename_i e
    rw[apd r _ _ x h2,Dq,bw];intro z;exact h (by rw[z,eq_of_beq e];exact di)
  . exact apd r _ _ x h2
set_option tactic.hygienic true in
theorem agj:∀(l:X0)(n:Nat)(acc:Xt),(∀x c,acc.lookup x=some c->c<n)->(∀x y c,acc.lookup x=some c->acc.lookup y=some c->x=y)->∀x y c,(cellsFrom n l acc).lookup x=some c->(cellsFrom n l acc).lookup y=some c->x=y
 |[],_,_,_,h=>h
 |(k,kd)::r,n,acc,lt,h=>by
  unfold cellsFrom;split
  . refine agj r _ _ (λx c q=>?_) (λx y c q1 q2=>?_)
    . rw[Dq] at q
      split at q
      . cases q;exact p7 n
      . exact qd (lt x c q)
    . rw[Dq] at q1 q2
      split at q1<;>split at q2
      . rename_i a b;rw[a,b]
      . cases q1;exact absurd (lt y _ q2) (kh _)
      . cases q2;exact absurd (lt x _ q1) (kh _)
      . exact h x y c q1 q2
  . exact agj r _ _ lt h
set_option tactic.hygienic true in
theorem aa6:∀(l:X0)(h:Heap)(acc:Xt),(∀x c,acc.lookup x=some c->∃v,h.IsCell c v)->∀x c,(cellsFrom h.objs.size l acc).lookup x=some c->∃v,(pushCells h l).IsCell c v
 |[],_,_,k,x,c,q=>k x c q
 |(n,kd)::r,h,acc,k,x,c,q=>by
  unfold cellsFrom at q;unfold pushCells;split at q
  . rename_i e
    rw[cz e];have sz:(h.push { cls:=.type "cell",data:=.cell none }).objs.size=h.objs.size+1:=iu _ _;rw[<- sz] at q;refine aa6 r _ _ (λx c q=>?_) x c q;rw[Dq] at q;split at q
    . cases q;exact⟨none,_,bu _ rfl,rfl⟩
    . obtain⟨v,hv⟩:=k x c q
      exact⟨v,hv.keeps λb o e=>au _ e⟩
  . rename_i e
    rw[bw e];exact aa6 r _ _ k x c q
set_option tactic.hygienic true in
theorem Wh(cells:Xt):∀(l:X0)(cs:Xt)(x:Str)(c:Addr),(Dp cells l cs).lookup x=some c->(x,NameKind.free)∈l\/cs.lookup x=some c
 |[],_,_,_,h=>.inr h
 |(k,kd)::r,cs,x,c,h=>by
  unfold Dp at h;rcases Wh cells r _ x c h with q|q
  . exact .inl (bc _ q)
  . split at q
    . rename_i e
      rw[Dq] at q;split at q
      . rename_i z
        exact .inl (by rw[z,eq_of_beq e];exact di)
      . exact .inr q
    . exact .inr q
def akt(h:Q { scope:=scope,locals:=s.heap.objs.size,globals:=globals,cells:=cellsFrom (s.heap.objs.size+1) scope.names cl,qual:=qual,func:=none,code:=around.code,frame:=around.frame,builtins:=around.builtins } { s with heap:=pushCells (s.heap.push { cls:=.type "dict",data:=.dict #[] }) scope.names }) :
 wpAny M A (newFunctionEnv scope globals cl [] qual none .none (some around)) Q E s:=by
 simp only[newFunctionEnv,Option.isSome_some,jx];refine aa (wpAny_alloc ?_);refine aa (wpAny_layCells _ (λname kind cells=>by cases hkc:kind==NameKind.cell<;>simp[hkc]) _ _ _ _ ?_);rw[show({ s with heap:=s.heap.push { cls:=.type "dict",data:=.dict #[] } }:Shared).heap.objs.size=s.heap.objs.size+1 from iu ..];exact aa (aj (aj h))
noncomputable def Mr(X:Cx)(N:Yf)(scope:Scope)(C:Addr)(fp:X9)(s:Shared)(H:Hp):Cx where
 prog:=X.prog
 w:=X.w
 K:=X.K
 mg:=X.mg
 base:=X.base
 A:=X.A
 N:=N
 s₀:=s
 H₀:=H
 env:=compEnvC scope (cellsFrom (C+1) scope.names (Dp X.env.cells scope.names [])) C X.env
 outer:=X.stack
 stack:=X.stack
 ex:=fp
 fn:=λx=>scope.names.lookup x==some .cell
 calm:=X.calm
 pn:=[]
 xe:=λ_ _=>False
structure Ep(X:Cx)(N:Yf)(scope:Scope):Prop where
 kind:scope.kind=.function
 locs:∀y∈scope.names,y.2=.local->scope.names.lookup y.1=some .local
 frees:∀y∈scope.names,y.2=.free->X.env.kindOf y.1=some .cell\/X.env.kindOf y.1=some .free
 uniq:∀x k,(x,k)∈scope.names->scope.names.lookup x=some k
 long:X.N.length<=N.length
 vis:∀i x,i<X.N.length->N[i]?=some x->Vis (relabel scope X.env) x->X.N[i]?=some x/\scope.names.lookup x=some .free
theorem Ep.cells(B:Ep X N scope)(ok:X.Ok):∀y∈scope.names,y.2=.free->∃c,X.env.cells.lookup y.1=some c:=λy hy hk=>ok.has y.1 (B.frees y hy hk)
def Ep.clos(B:Ep X N scope)(ok:X.Ok):closureFor scope X.env=pure (Dp X.env.cells scope.names []):=Wf (B.cells ok)
def Ep.inCells(B:Ep X N scope)(ok:X.Ok)(h:(Dp X.env.cells scope.names []).lookup x=some c):X.env.cells.lookup x=some c:=by
 rcases adt _ _ _ _ _ (B.cells ok) h with q|q
 . simp at q
 . exact q
def adu{X:Cx}(x:Str):(compEnvC scope cl C X.env).kindOf x=(scope.names.lookup x).map λk=>if(k==NameKind.free&&X.env.scope.kind==.function&&X.env.kindOf x==some .cell) then NameKind.cell else k:=by show(relabel scope X.env).names.lookup x=_;exact Oe
def Ep.agk(B:Ep X N scope)(ok:X.Ok)(h:(cellsFrom (C+1) scope.names (Dp X.env.cells scope.names [])).lookup x=some c):(scope.names.lookup x=some .cell/\C+1<=c)\/X.env.cells.lookup x=some c:=by
 rcases ah9 _ _ _ _ _ h with⟨q,l⟩|q
 . exact .inl ⟨B.uniq _ _ q,l⟩
 . exact .inr (B.inCells ok q)
def aku(B:Ep X N scope)(I:Inv X pins σ H s)(hf:∀b∈fp,U5 X pins H b)(hfo:∀b∈fp,∃o,s.heap.get? b=some o)(hns:h₁.Ns (s.heap.objs.size+1) λ_=>none)(hk:∀b o,s.heap.get? b=some o->h₁.get? b=some o)(Es:h₁.get? s.heap.objs.size=some { cls:=.type "list",data:=.seq ([]:Zl).toArray })(hcl:∀x c,(cellsFrom (s.heap.objs.size+1+1) scope.names (Dp X.env.cells scope.names [])).lookup x=some c->∃v,h₁.IsCell c v) :
 Inv (Mr X N scope (s.heap.objs.size+1) fp s H) [] (σ++List.replicate (N.length-X.N.length) none) (upd H s.heap.objs.size (.lst [])) { s with heap:=h₁,toks:=t }:=by
 have ok:=I.ok;have hD:H s.heap.objs.size=none:=I.Am.fresh (bh _);have hC:H (s.heap.objs.size+1)=none:=I.Am.fresh (vz _);have hCD:s.heap.objs.size+1≠s.heap.objs.size:=Nat.succ_ne_self _;have lt:∀b∈fp,b<s.heap.objs.size:=λb hb=>by obtain⟨o,e⟩:=hfo b hb;exact az e
 have clt:∀x c,X.env.cells.lookup x=some c->c<s.heap.objs.size:=λx c e=>by obtain⟨v,o,ho,_⟩:=I.cell x c e;exact az ho
 refine⟨⟨ok.mod,B.kind,ok.glob,ok.blt,vz _,?_,?_,?_,ok.hd,ok.frames,.inl rfl,?_,λb o e=>I.bs b o e,gn ok.bsz I.sz,?_,?_,I.stack,I.ahx⟩,rfl,I.bare,?_,?_,?_,?_,?_,?_,?_,?_⟩
 . intro x y c hx hy
   refine agj scope.names (s.heap.objs.size+1+1) (Dp X.env.cells scope.names []) (λx c q=>?_) (λx y c q1 q2=>ok.inj x y c (B.inCells ok q1) (B.inCells ok q2)) x y c hx hy;exact qd (qd (clt x c (B.inCells ok q)))
 . intro x hx
   rw[show(Mr X N scope (s.heap.objs.size+1) fp s H).env.kindOf x=_ from adu x] at hx;cases e:scope.names.lookup x with
   |none=>rw[e] at hx;rcases hx with q|q<;>simp at q
   |some k =>
    have Pz:k=.free\/k=.cell:=by
     rw[e] at hx;cases k with
     |free=>exact .inl rfl|cell=>exact .inr rfl|«local»=>rcases hx with q|q<;>simp at q
     |globalExplicit=>rcases hx with q|q<;>simp at q
     |globalImplicit=>rcases hx with q|q<;>simp at q
    rcases Pz with rfl|rfl
    . exact aa5 _ _ _ _ (.inr (Th _ _ _ _ (mem_of_lookup e)))
    . exact aa5 _ _ _ _ (.inl (mem_of_lookup e))
 . intro x c h hc
   have h:scope.names.lookup x=some .cell:=eq_of_beq h;show s.heap.objs.size<=c
   rcases ah9 _ _ _ _ _ hc with⟨_,l⟩|q
   . exact gn (xu _ 2) l
   . rcases Wh _ _ _ _ _ q with z|z
     . rw[B.uniq _ _ z] at h;cases h
     . cases z
 . intro b hb
   refine⟨λe=>?_,λx c hc e=>?_⟩
   . have q:=lt b hb
     have e:b=s.heap.objs.size+1:=e;rw[e] at q;exact absurd q (Nat.not_lt.mpr (vz _))
   . obtain⟨_,_,_,_,f4,_⟩:=hf b hb
     rcases B.agk ok hc with⟨_,l⟩|hc
     . have q:=lt b hb
       rw[<- e] at q;exact absurd (gm (qd (qd q)) l) (kh _)
     . exact f4 x c hc e
 . intro b o e hb
   obtain⟨_,_,_,f3,_⟩:=hf b hb;rcases f3 with q|q
   . exact ok.aod b o e q
   . exact kh _ (gm (az e) (gn ok.bsz q))
 . intro b hb q
   obtain⟨_,f1,f2,_⟩:=hf b hb;rcases bz.mp (I.aaw b q) with z|z
   . exact f1 z
   . exact f2 z
 . exact Un.laid hk (bh _) hD
 . refine⟨_,hns,λi x v hN hσ hv=>?_⟩
   have hi:i<X.N.length:=by
    rcases yh i σ.length with q|q
    . rw[I.len] at q;exact q
    . rw[jb q] at hσ
      rw[List.getElem?_replicate] at hσ;split at hσ<;>simp at hσ
   rw[dj (by rw[I.len];exact hi)] at hσ;obtain⟨hx,Pz⟩:=B.vis i x hi hN hv;obtain⟨m,_,hl⟩:=I.loc;have hkx:=B.frees _ (mem_of_lookup Pz) rfl;have hvx:Vis X.env.scope x:=by
    rcases hkx with q|q
    . exact .inr (.inl q)
    . exact .inr (.inr q)
   obtain⟨u,ru,lu⟩:=hl i x v hx hσ hvx;refine⟨u,ru,.inr ⟨?_,?_⟩⟩
   . rw[show(Mr X N scope (s.heap.objs.size+1) fp s H).env.kindOf x=_ from adu x,Pz]
     simp only[vm];split
     . exact .inl rfl
     . exact .inr rfl
   . rcases lu with⟨q,_⟩|⟨_,c,hc,ic⟩
     . rcases hkx with z|z<;>rw[q] at z<;>cases z
     . obtain⟨c',hc'⟩:=Th X.env.cells scope.names [] x (mem_of_lookup Pz)
       have:=B.inCells ok hc';rw[hc] at this;cases this;refine⟨c,?_,ic.keeps hk⟩;show(cellsFrom (s.heap.objs.size+1+1) scope.names (Dp X.env.cells scope.names [])).lookup x=some c;rw[apd _ _ _ _ λz=>by rw[B.uniq _ _ z] at Pz;cases Pz];exact hc'
 . exact hcl
 . show upd H s.heap.objs.size (.lst []) (s.heap.objs.size+1)=none
   rw[j9 hCD];exact hC
 . intro x c hc
   rcases B.agk ok hc with⟨_,l⟩|hc'
   . have l:s.heap.objs.size+1+1<=c:=l
     rw[j9 (v5 (gm (qd (p7 _)) l))];exact I.Am.fresh (gn (xu _ 2) l)
   . rw[j9 (dz (clt x c hc'))]
     exact I.N8 x c hc'
 . intro p hp;simp[Mr] at hp
 . exact Py.laid I.Am hk (bh _) ⟨ju _,[],0,.nil,Es⟩
 . show(σ++List.replicate (N.length-X.N.length) none).length=N.length
   rw[wj,ye,I.len];have:=B.long;omega
def Og(I:Nat->Shared->Prop)(turn:∀n s,I n s->wpAny (model prog w) A (pyNext it) (λr s₁=>match r with
 |none=>R (.ok .next) s₁
 | some v=>wpAny (model prog w) A (letOwnedTupleGo target it v) (λ_ s₁'=>wpAny (model prog w) A (assign target env v) (λ_ s₂ =>
  wpAny (model prog w) A (forIn ifs true λc r=>if r=true then do let ok <- isTrue c env (eval c env);pure (ForInStep.yield ok) else pure (ForInStep.yield r)) (λok s₃ =>
   if ok=true then wpAny (model prog w) A (eval elt env) (λx s₄ =>
    wpAny (model prog w) A (call (.builtin "list.append") [acc,x]) (λ_ s₅=>∃m,m<n/\I m s₅) (λ_ _=>False) s₄) (λ_ _=>False) s₃
   else ∃m,m<n/\I m s₃) (λ_ _=>False) s₂) (λ_ _=>False) s₁') (λ_ _=>False) s₁) (λ_ _=>False) s)(n:Nat)(h:I n s) :
 codeAny (model prog w) A (.compLoop (.ListComp elt [⟨target,iter,ifs,0⟩] scope pos) 0 it acc env) R s:=by
 have nv:∀{α:Type}{t:Sem α}{Q:α->Shared->Prop}{E:Y1}{s:Shared},wpAny (model prog w) A t Q (λ_ _=>False) s->wpAny (model prog w) A t Q E s:=λh=>my h (λ_ _ q=>q) λ_ _ f=>f.elim
 refine codeAny_loop rfl I (λn s hI=>?_) n h;show wpAny _ A ((compTurn (.ListComp elt [⟨target,iter,ifs,0⟩] scope pos) 0 it acc env).onRaise (λx=>do noteFrame x env;theTreesLotGoes x)) _ _ s;refine wpAny_noted ?_;rw[compTurn_list];refine aa (wpAny_standAt (aa (my (turn n s hI) (λr s₁ h₁=>?_) λ_ _ h'=>h'.elim)));cases r with
 |none=>exact aj h₁
 |some v =>
  refine aa (my h₁ (λ_ s₁' h₁'=>?_) λ_ _ h'=>h'.elim);refine aa (my h₁' (λ_ s₂ h₂=>aa (my h₂ (λok s₃ h₃=>?_) λ_ _ h'=>h'.elim)) λ_ _ h'=>h'.elim);cases ok with
  |false=>exact aj ⟨rfl,h₃⟩
  |true =>
   exact aa (aa (my h₃ (λx s₄ h₄=>aa (my h₄ (λ_ s₅ h₅=>aj (aj ⟨rfl,h₅⟩)) λ_ _ h'=>h'.elim)) λ_ _ h'=>h'.elim))
def adw(k:Nat)(wi:TI)(g:TG)(tc:TT)(te:TE):TE:=fun σ H Q=>wi σ H λJ H1=>∀D,H1 D=none->∃W:Nat->Nat->Hp->Prop,(∃m,W 0 m (upd H1 D (.lst [])))/\∀i m H,W i m H ->
 (J.stop i H/\Q (.ref D) H)\/(J.go i H/\∀x H',J.yld i H x H'->g x (σ++List.replicate k none) H' fun σ2 H2=>σ2.length=(σ++List.replicate k none).length /\
  (∀(j:Nat) v,(σ++List.replicate k none)[j]?=some (some v)->σ2[j]?=some (some v))/\tc σ2 H2 λb H3 =>
   if b=true then te σ2 H3 λv H4=>∃xs m',H4 D=some (.lst xs)/\xs.length<sizeLine/\m'<m/\W (i+1) m' (upd H4 D (.lst (xs++[v]))) else ∃m',m'<m/\W (i+1) m' H3)
def PTs(X:Cx)(ifs:Ya)(tc:TT):Prop:=(ifs=[]/\tc=λ_ H Q=>Q true H)\/∃c,ifs=[c]/\PT X c tc
def Zd(I:Inv X pins σ H s)(hf:∀b∈fp,U5 X pins H b)(J:Inv (Mr X N scope (s.heap.objs.size+1) fp s H) [] σ3 H3 s3):Inv X pins σ H3 s3/\∃m,s3.heap.Ns (s.heap.objs.size+1) m:=by
 refine⟨I.call' J.os J.base J.Am J.bare λb hb=>?_,?_⟩
 . obtain⟨_,f1,_,f3,f4,f5⟩:=hf b hb
   exact⟨f3,f1,f4,f5⟩
 . obtain⟨m,hn,_⟩:=J.loc
   exact⟨m,hn⟩
def akv(I:Inv X pins σ H s)(I3:Inv X pins σ H3 s3)(hC:H3 (s.heap.objs.size+1)=none)(hs:Heap.SameBut (s.heap.objs.size+1) s3.heap h'):Inv X pins σ H3 { s3 with heap:=h' }:=by
 have big:∀b o,s.heap.get? b=some o->b≠s.heap.objs.size+1:=λb o e z=>by have:=az e;rw[z] at this;exact absurd this (Nat.not_lt.mpr (vz _))
 refine I3.turned (t':=s3.toks) (λb o hb e=>hs.extBut b o hb e) hC ?_ (.inr (gn I.sz (vz _))) ?_ ?_
 . intro e
   obtain⟨m,⟨o,_,_,ho,_⟩,_⟩:=I.loc;exact big _ o ho e.symm
 . intro x c hc
   obtain⟨v,o,ho,_⟩:=I.cell x c hc;exact big c o ho
 . intro p hp
   exact big p.1 p.2 (I.pin p hp).1
def Wi{RR:Value->Addr->Result->Shared->Prop}(B:Ep X N scope)(Jk:X.calm=true)(I:Inv X pins σ H s)(hf:∀b∈fp,U5 X pins H b)(T:Turn X.prog X.w X.K tg J fp it tn)(h0:tn 0 s.heap)(hg:∀C s H,PG (Mr X N scope C fp s H) tg g)(hc:∀C s H,PTs (Mr X N scope C fp s H) ifs tc)(he:∀C s H,PE (Mr X N scope C fp s H) elt te){Q:VK}(W:Nat->Nat->Hp->Prop)(w0:W 0 m0 (upd H s.heap.objs.size (.lst [])))(turn:∀i m H,W i m H->(J.stop i H/\Q (.ref s.heap.objs.size) H)\/(J.go i H/\∀x H',J.yld i H x H'->g x (σ++List.replicate (N.length-X.N.length) none) H' fun σ2 H2=>σ2.length=(σ++List.replicate (N.length-X.N.length) none).length /\
 (∀(j:Nat) v,(σ++List.replicate (N.length-X.N.length) none)[j]?=some (some v)->σ2[j]?=some (some v))/\tc σ2 H2 λb H3 =>
  if b=true then te σ2 H3 λv H4=>∃xs m',H4 s.heap.objs.size=some (.lst xs)/\xs.length<sizeLine/\m'<m/\W (i+1) m' (upd H4 s.heap.objs.size (.lst (xs++[v]))) else ∃m',m'<m/\W (i+1) m' H3))(hRR:∀σ3 H3 s3,Inv (Mr X N scope (s.heap.objs.size+1) fp s H) [] σ3 H3 s3->Q (.ref s.heap.objs.size) H3->RR (.ref s.heap.objs.size) (s.heap.objs.size+1) (.ok .next) s3) :
 wpAny (model X.prog X.w) X.A (newList []) (λacc s₃=>wpAny (model X.prog X.w) X.A (newFunctionEnv scope X.env.globals (Dp X.env.cells scope.names []) [] X.env.qual none .none (some X.env)) (λcenv s₄ =>
  codeAny (model X.prog X.w) X.A (.compStart (.ListComp elt [⟨tg,iter,ifs,0⟩] scope pos) 0 (.ref it) acc { cenv with scope:=relabel scope X.env }) (RR acc cenv.locals) s₄) E s₃) E s:=by
 refine tu (akt ?_);have hsz:(s.heap.push { cls:=.type "list",dict:=none,data:=.seq ([]:Zl).toArray }).objs.size=s.heap.objs.size+1:=iu _ _;obtain⟨h₁,eh⟩:∃h₁,h₁=pushCells ((s.heap.push { cls:=.type "list",dict:=none,data:=.seq ([]:Zl).toArray }).push { cls:=.type "dict",data:=.dict #[] }) scope.names:=⟨_,rfl⟩;have up:∀b o,(s.heap.push { cls:=.type "list",dict:=none,data:=.seq ([]:Zl).toArray }).get? b=some o->h₁.get? b=some o:=λb o e=>by rw[eh];exact pushCells_keeps _ _ b o (au _ e)
 have old:∀b o,s.heap.get? b=some o->h₁.get? b=some o:=λb o e=>up b o (au _ e)
 have Es:h₁.get? s.heap.objs.size=some { cls:=.type "list",data:=.seq ([]:Zl).toArray }:=up _ _ (bu _ rfl);have hns₁:h₁.Ns (s.heap.objs.size+1) λ_=>none:=by rw[eh,<- hsz];exact(Heap.Ns.new _ (.type "dict")).keeps (pushCells_keeps _ _)
 have hcl:∀x c,(cellsFrom (s.heap.objs.size+1+1) scope.names (Dp X.env.cells scope.names [])).lookup x=some c->∃v,h₁.IsCell c v:=by
  have sz2:((s.heap.push { cls:=.type "list",dict:=none,data:=.seq ([]:Zl).toArray }).push { cls:=.type "dict",data:=.dict #[] }).objs.size=s.heap.objs.size+1+1:=by rw[iu,hsz]
  rw[eh,<- sz2];refine aa6 _ _ _ λx c q=>?_
  obtain⟨v,hv⟩:=I.cell x c (B.inCells I.ok q);exact⟨v,hv.keeps λb o e=>au _ (au _ e)⟩
 have hfo:∀b∈fp,∃o,s.heap.get? b=some o:=λb hb=>let ⟨o,e,_⟩:=T.obj 0 _ h0 b hb;⟨o,e⟩
 have I0:=aku (t:=s.toks) B I hf hfo hns₁ old Es hcl;have af6:∀{H':Hp},(∀b∈fp,H' b=none)->∀b∈fp,U5 (Mr X N scope (s.heap.objs.size+1) fp s H) [] H' b:=λhn b hb=>by
  obtain⟨f0,f1,f2,f3,f4,f5⟩:=hf b hb;refine⟨hn b hb,?_,?_,.inl hb,?_,λp hp=>(by simp[Mr] at hp)⟩
  . intro z
    obtain⟨o,e⟩:=hfo b hb;have:=az e;rw[show b=s.heap.objs.size+1 from z] at this;exact absurd this (Nat.not_lt.mpr (vz _))
  . intro q
    rcases bz.mp (I.aaw b q) with z|z
    . exact f1 z
    . exact f2 z
  . intro x c hc
    rcases B.agk I.ok hc with⟨_,l⟩|hc
    . intro z
      obtain⟨o,e⟩:=hfo b hb;have q:=az e;rw[<- z] at q;exact absurd (gm (qd (qd q)) l) (kh _)
    . exact f4 x c hc
 have fr0:∀b∈fp,upd H s.heap.objs.size (.lst []) b=none:=λb hb=>by obtain⟨o,e⟩:=hfo b hb;rw[j9 (dz (az e))];exact(hf b hb).1
 have loop:∀s':Shared,s'={ s with heap:=h₁ }->codeAny (model X.prog X.w) X.A (.compLoop (.ListComp elt [⟨tg,iter,ifs,0⟩] scope pos) 0 (.ref it) (.ref s.heap.objs.size) (compEnvC scope (cellsFrom (s.heap.objs.size+1+1) scope.names (Dp X.env.cells scope.names [])) (s.heap.objs.size+1) X.env))
  (RR (.ref s.heap.objs.size) (s.heap.objs.size+1)) s':=by
  rintro s' rfl;refine Og (λn s'=>∃i σ' H',Inv (Mr X N scope (s.heap.objs.size+1) fp s H) [] σ' H' s'/\(∀(j:Nat) v,(σ++List.replicate (N.length-X.N.length) none)[j]?=some (some v)->σ'[j]?=some (some v))/\tn i s'.heap/\(∀b∈fp,H' b=none)/\W i n H') ?_ m0
   ⟨0,_,_,I0,λ_ _ z=>z,T.keep 0 _ _ h0 (λb _ o e=>old b o e),fr0,w0⟩
  rintro n s3 ⟨i,σ3,H3,I3,k3,st3,fr3,w3⟩;have I3':=I3.weak (σ':=σ++List.replicate (N.length-X.N.length) none) (by rw[I3.len];exact I0.len) k3;rcases turn i n H3 w3 with⟨stop,qn⟩|⟨go,step⟩
  . refine Bu (T.done (Mr X N scope (s.heap.objs.size+1) fp s H) rfl rfl rfl Jk i [] s3 _ H3 (λ_ _=>False) I3' (af6 fr3) st3 stop) λr s4 z_=>?_
    obtain⟨hr,I4⟩:=z_;subst hr;exact hRR _ _ _ I4 qn
  . refine Bu (T.item (Mr X N scope (s.heap.objs.size+1) fp s H) rfl rfl rfl Jk i [] s3 _ H3 (λ_ _=>False) I3' (af6 fr3) st3 go) λr s4 z_=>?_
    obtain⟨u,hr,h4⟩:=z_;subst hr;refine Bu h4 λ_ s5 z_=>?_
    obtain⟨x,H5,I5,r5,y5,st5,fr5⟩:=z_;have I5':=I5.pinned (af6 fr5) (T.obj _ _ st5);refine Bu (hg _ _ _ _ s5 _ H5 x u _ I5' r5 (step x H5 y5)) λ_ s6 z_=>?_
    obtain⟨σ6,H6,I6,l6,k6,q6⟩:=z_;have again:∀{ahy:Zp}{H7:Hp}{s7:Shared}{m:Nat},Inv (Mr X N scope (s.heap.objs.size+1) fp s H) ([]++Te fp s5.heap) σ6 H7 s7->m<n->W (i+1) m H7 ->
     ∃m,m<n/\∃i σ' H',Inv (Mr X N scope (s.heap.objs.size+1) fp s H) [] σ' H' s7/\(∀(j:Nat) v,(σ++List.replicate (N.length-X.N.length) none)[j]?=some (some v)->σ'[j]?=some (some v))/\tn i s7.heap/\(∀b∈fp,H' b=none)/\W i m H':=fun{_ H7 s7 m} I7 hm w7=>by
     refine⟨m,hm,i+1,σ6,H7,I7.Ob,k6,T.keep _ _ _ st5 λb hb o e=>(I7.pin (b,o) (iw _ (iw _ (Ld hb e)))).1,λb hb=>?_,w7⟩;obtain⟨o,e,d⟩:=T.obj _ _ st5 b hb;exact(I7.pin (b,o) (iw _ (iw _ (Ld hb e)))).2.1
    have tests:wpAny (model X.prog X.w) X.A (forIn ifs true λc r=>if r=true then do let ok <- isTrue c (compEnvC scope (cellsFrom (s.heap.objs.size+1+1) scope.names (Dp X.env.cells scope.names [])) (s.heap.objs.size+1) X.env) (eval c (compEnvC scope (cellsFrom (s.heap.objs.size+1+1) scope.names (Dp X.env.cells scope.names [])) (s.heap.objs.size+1) X.env));pure (ForInStep.yield ok) else pure (ForInStep.yield r))
     (TP (Mr X N scope (s.heap.objs.size+1) fp s H) ([]++Te fp s5.heap) σ6 λb H3 =>
      if b=true then te σ6 H3 λv H4=>∃xs m',H4 s.heap.objs.size=some (.lst xs)/\xs.length<sizeLine/\m'<n/\W (i+1) m' (upd H4 s.heap.objs.size (.lst (xs++[v]))) else ∃m',m'<n/\W (i+1) m' H3) (λ_ _=>False) s6:=by
     rcases hc (s.heap.objs.size+1) s H with⟨rfl,rfl⟩|⟨c,rfl,hpt⟩
     . exact wpAny_tests_nil ⟨H6,I6,q6⟩
     . exact wpAny_tests_one (hpt _ s6 σ6 H6 _ I6 q6)
    refine Bu tests λok s7 z_=>?_
    obtain⟨H7,I7,q7⟩:=z_;cases ok with
    |false =>
     obtain⟨m',hm,w7⟩:=(show ∃m',m'<n/\W (i+1) m' H7 from q7);exact again (ahy:=[]) I7 hm w7
    |true =>
     show wpAny _ _ _ _ _ _;refine Bu (he _ _ _ _ s7 σ6 H7 _ I7 q7) λx s8 z_=>?_
     obtain⟨v,H8,I8,r8,xs,m',hD,hl,hm,w8⟩:=z_;refine Bu (Zb _ s8 σ6 H8 (.ref s.heap.objs.size) [v] (.ref s.heap.objs.size) [x] (λ_ H'=>W (i+1) m' H') I8 rfl (.cons r8 .nil) ⟨_,xs,v,rfl,rfl,hD,hl,w8⟩) λ_ s9 z_=>?_
     obtain⟨_,H9,I9,_,w9⟩:=z_;exact again (ahy:=[]) I9 hm w9
 rw[<- eh,hsz];exact codeAny_compStart_list (loop _ rfl) (T.self _ 0 _ _ _ (T.keep 0 _ _ h0 (λb _ o e=>old b o e)) (loop _ rfl))
def aia(B:Ep X N scope)(Jk:X.calm=true)(hi:PI X tg iter wi)(hg:∀C fp s H,PG (Mr X N scope C fp s H) tg g)(hc:∀C fp s H,PTs (Mr X N scope C fp s H) ifs tc)(he:∀C fp s H,PE (Mr X N scope C fp s H) elt te)(hs:∀x,foldedSetIterable iter X.env x=pure x):PE X (.ListComp elt [⟨tg,iter,ifs,0⟩] scope pos) (adw (N.length-X.N.length) wi g tc te):=by intro pins s σ H Q I h;rw[eval_ListComp];refine wpAny_comprehension_free (use:=none) rfl hs (B.clos I.ok) B.kind B.locs (Bu (hi pins s σ H _ I h) λv s1 h1=>Bu h1 λitv s2 h2=>?_);obtain⟨it,fp,tn,J,H2,rfl,I2,T,st2,f2,q2⟩:=h2;obtain⟨W,⟨m0,w0⟩,turn⟩:=q2 s2.heap.objs.size (I2.Am.fresh (bh _));refine Wi (RR:=λacc C=>compPost (model X.prog X.w) X.A X.xe none (EP X pins σ Q) acc C) B Jk I2 f2 T st2 (λC s H=>hg C fp s H) (λC s H=>hc C fp s H) (λC s H=>he C fp s H) W w0 turn ?_;intro σ3 H3 s3 I3 q3;obtain⟨J3,m,hn⟩:=Zd I2 f2 I3;exact⟨m,hn,λh' O1=>⟨.ref s2.heap.objs.size,H3,akv I2 J3 I3.free O1,rfl,q3⟩⟩
set_option tactic.hygienic true in
def aib(B:Ep X N scope)(Jk:X.calm=true)(hi:PI X tg iter wi)(hg:∀C fp s H,PG (Mr X N scope C fp s H) tg g)(hc:∀C fp s H,PTs (Mr X N scope C fp s H) ifs tc)(he:∀C fp s H,PE (Mr X N scope C fp s H) elt te)(hs:∀x,foldedSetIterable iter X.env x=pure x)(hN:X.N.Nodup)(hy:X.N[i]?=some y)(hl:X.env.scope.names.lookup y=some .local)(hsw:swapsWith (.ListComp elt [⟨tg,iter,ifs,0⟩] scope pos) (some (.Name y py)) ape.line X.env=pure true) :
 PS X (.Assign [.Name y py] (.ListComp elt [⟨tg,iter,ifs,0⟩] scope pos) ape) (a0p (adw (N.length-X.N.length) wi g tc te) (ahz i)):=by
 intro pins s σ H D I h;rw[exec_Assign_Name_used _ _ _ _ hsw];refine aa (wpAny_standAt (aa ?_));show wpAny _ _ (do let _ <- comprehension (.ListComp elt [⟨tg,iter,ifs,0⟩] scope pos) scope X.env _ (newList []) false (eval iter X.env) (some (assign (.Name y py) X.env))) _ _ s;refine aa (my (wpAny_comprehension_free (use:=some (assign (.Name y py) X.env)) (Q:=λ_ s'=>SP X pins D .next s') rfl hs (B.clos I.ok) B.kind B.locs
  (Bu (hi pins s σ H _ I h) λv s1 h1=>Bu h1 λitv s2 h2=>?_)) (λ_ s' hq=>aj (aj hq)) λ_ _ e=>e)
 obtain⟨it,fp,tn,J,H2,rfl,I2,T,st2,f2,q2⟩:=h2;obtain⟨W,⟨m0,w0⟩,turn⟩:=q2 s2.heap.objs.size (I2.Am.fresh (bh _));refine Wi (RR:=λacc C=>compPost (model X.prog X.w) X.A X.xe (some (assign (.Name y py) X.env)) (λ_ s'=>SP X pins D .next s') acc C) (Q:=λx H1=>ahz i x σ H1 D.nx) B Jk I2 f2 T st2 (λC s H=>hg C fp s H) (λC s H=>hc C fp s H) (λC s H=>he C fp s H) W w0 turn ?_;intro σ3 H3 s3 I3 q3;obtain⟨J3,m,hn⟩:=Zd I2 f2 I3;have hC3:=I3.free;obtain⟨oC,_,_,hoC,hdC,_⟩:=id hn;have big:∀b o,s2.heap.get? b=some o->b≠s2.heap.objs.size+1:=λb o e z=>by have:=az e;rw[z] at this;exact absurd this (Nat.not_lt.mpr (vz _))
 have neL:s2.heap.objs.size+1≠X.env.locals:=λe=>by obtain⟨m,⟨o,_,_,ho,_⟩,_⟩:=I2.loc;exact big _ o ho e.symm
 have J4:Inv X (pins++[(s2.heap.objs.size+1,oC)]) σ H3 s3:=J3.Rg λp hp=>by
  rcases dw.mp hp with q|q
  . exact J3.pin p (iw _ q)
  . have e:p=(s2.heap.objs.size+1,oC):=by simpa using q
    subst e;refine⟨hoC,hC3,neL,λhb=>?_,λv z=>by rw[hdC] at z;cases z⟩;exact I2.az5 (vz _) hb
 show wpAny (model X.prog X.w) X.A (assign (.Name y py) X.env (.ref s2.heap.objs.size)) _ _ s3;refine Bu (aay (pos:=py) hN hy (.inl hl) (.inr hl) (pins++[(s2.heap.objs.size+1,oC)]) s3 σ H3 (.ref s2.heap.objs.size) (.ref s2.heap.objs.size) D.nx J4 rfl q3) λ_ s4 z_=>?_
 obtain⟨σ4,H4,I4,q4⟩:=z_;have pC:=I4.pin (s2.heap.objs.size+1,oC) (iw _ (iw _ (by simp)));refine⟨m,hn.at' λo e=>by rw[hoC] at e;cases e;exact pC.1,λh' O1=>⟨σ4,H4,?_,q4⟩⟩;refine(I4.Ob).turned (t':=s4.toks) (λb o hb e=>O1.extBut b o hb e) pC.2.1 neL (.inr (gn I2.sz (vz _))) ?_ ?_
 . intro x c hc
   obtain⟨v,o,ho,_⟩:=I2.cell x c hc;exact big c o ho
 . intro p hp
   exact big p.1 p.2 (I2.pin p hp).1
end L2
namespace Sm
open PySem L2
open MW (Ex Cr OEx Ow By o7 Lv Tg Res dh MO Jp Cp Op2 Blt Bm Kx)
abbrev Dv:=MW.D
abbrev En:=MW.Env
structure Io where
 l:List Addr
 δ:List Addr
noncomputable def Io.add(ι:Io)(p:Addr):Io:=⟨ι.l++[p],ι.δ⟩
noncomputable def Io.hide(ι:Io)(p:Addr):Io:=⟨ι.l,p::ι.δ⟩
def Io.off(ι:Io)(a:Addr):Prop:=a∉ι.l/\a∉ι.δ
def aa7(K:Fg)(H:Hp)(a:Addr)(vs:List V):Prop :=
 (∃o,H a=some (.N7 o (.lst vs))) \/
  ∃(o:Obj)(yw:U1)(n:Nat),K.lookup a=some o/\o.cls=.type "list"/\o.dict=none/\o.data=.seq yw n/\yw.size<=sizeLine/\Vals vs yw.toList
def aa7.sq(h:aa7 K H a vs):Ia K H a vs:=by
 rcases h with⟨o,h⟩|h
 . exact .inl (.inr ⟨o,h⟩)
 . exact .inr h
mutual
inductive Rep(K:Fg)(ι:Io)(H:Hp):Dv->V->Prop
 |non:Rep K ι H .non .non
 |bl (b:Bool):Rep K ι H (.bl b) (.bl b)
 |int (i:Int):Rep K ι H (.int i) (.int i)
 |str (s:Str):Rep K ι H (.str s) (.str s)
 |tup {a:Addr} {ds:List Dv} {vs:List V} (e:H a=some (.tup vs)) (r:m6 K ι H ds vs):Rep K ι H (.tup ds) (.ref a)
 |vl {a:Addr} {ds:List Dv} {vs:List V} (e:H a=some (.lst vs)) (n:ι.off a) (r:m6 K ι H ds vs):Rep K ι H (.vl ds) (.ref a)
 |fz {a:Addr} {ds:List Dv} {vs:List V} (e:aa7 K H a vs) (r:m6 K ι H ds vs):Rep K ι H (.fz ds) (.ref a)
 |ref {n:Nat} {a:Addr} (e:ι.l[n]?=some a):Rep K ι H (.ref n) (.ref a)
inductive m6(K:Fg)(ι:Io)(H:Hp):List Dv->List V->Prop
 |nil:m6 K ι H [] []
 |cons {d:Dv} {v:V} {ds:List Dv} {vs:List V} (h:Rep K ι H d v) (t:m6 K ι H ds vs):m6 K ι H (d::ds) (v::vs)
end
structure Le(ι:Io)(H:Hp)(ι':Io)(H':Hp):Prop where
 ext:∃Y,ι'.l=ι.l++Y/\∀a∈Y,H a=none
 del:ι'.δ=ι.δ
 tup:∀a vs,H a=some (.tup vs)->H' a=some (.tup vs)
 N7:∀a o u,H a=some (.N7 o u)->H' a=some (.N7 o u)
 lst:∀a vs,a∉ι.l->H a=some (.lst vs)->H' a=some (.lst vs)
 dom:∀a,H' a=none->H a=none
def Le.refl(ι:Io)(H:Hp):Le ι H ι H:=⟨⟨[],by simp,by simp⟩,rfl,λ_ _ h=>h,λ_ _ _ h=>h,λ_ _ _ h=>h,λ_ h=>h⟩
def G7{H H':Hp}(hk:∀a u,H a=some u->∃u',H' a=some u')(h:H' a=none):H a=none:=by
 cases e:H a with
 |none=>rfl|some u=>obtain⟨u',e'⟩:=hk a u e;rw[h] at e';cases e'
def Le.get(l:Le ι H ι' H'){n:Nat}(h:ι.l[n]?=some a):ι'.l[n]?=some a:=by obtain⟨Y,e,_⟩:=l.ext;rw[e,dj (ak.mp h).1];exact h
def Le.a1e(l:Le ι H ι' H')(h:a∉ι.l)(ha:H a=some o):a∉ι'.l:=by
 obtain⟨Y,e,hy⟩:=l.ext;rw[e];intro m;rcases dw.mp m with q|q
 . exact h q
 . rw[hy a q] at ha;cases ha
def Le.out(l:Le ι H ι' H')(h:ι.off a)(ha:H a=some o):ι'.off a:=⟨l.a1e h.1 ha,by rw[l.del];exact h.2⟩
theorem Le.trans(a:Le ι H ι1 H1)(b:Le ι1 H1 ι2 H2):Le ι H ι2 H2:=by
 obtain⟨Y,e1,h1⟩:=a.ext;obtain⟨Z,e2,h2⟩:=b.ext;refine⟨⟨Y++Z,by rw[e2,e1,Ag],λx m=>?_⟩,b.del.trans a.del,λx vs h=>b.tup x vs (a.tup x vs h),λx o u h=>b.N7 x o u (a.N7 x o u h),λx vs n h=>b.lst x vs (a.a1e n h) (a.lst x vs n h),λx h=>a.dom x (b.dom x h)⟩;rcases dw.mp m with q|q
 . exact h1 x q
 . exact a.dom x (h2 x q)
structure LeX(ι:Io)(H:Hp)(ι':Io)(H':Hp):Prop where
 ext:∃Y,ι'.l=ι.l++Y/\∀a∈Y,H a=none
 del:∀a∈ι'.δ,a∈ι.δ\/H a=none
 tup:∀a vs,H a=some (.tup vs)->H' a=some (.tup vs)
 N7:∀a o u,H a=some (.N7 o u)->H' a=some (.N7 o u)
 lst:∀a vs,a∉ι.l->H a=some (.lst vs)->H' a=some (.lst vs)
def Le.toX(l:Le ι H ι' H'):LeX ι H ι' H':=⟨l.ext,λa h=>.inl (by rw[<- l.del];exact h),l.tup,l.N7,l.lst⟩
def LeX.get(l:LeX ι H ι' H'){n:Nat}(h:ι.l[n]?=some a):ι'.l[n]?=some a:=by obtain⟨Y,e,_⟩:=l.ext;rw[e,dj (ak.mp h).1];exact h
def LeX.out(l:LeX ι H ι' H')(h:ι.off a)(ha:H a=some o):ι'.off a:=by
 obtain⟨Y,e,hy⟩:=l.ext;refine⟨λm=>?_,λm=>?_⟩
 . rw[e] at m
   rcases dw.mp m with q|q
   . exact h.1 q
   . rw[hy a q] at ha;cases ha
 . rcases l.del a m with q|q
   . exact h.2 q
   . rw[q] at ha;cases ha
structure Tr(K:Fg)(ι:Io)(H:Hp)(ι':Io)(H':Hp):Prop where
 tup:∀a vs,H a=some (.tup vs)->H' a=some (.tup vs)
 vl:∀a vs,H a=some (.lst vs)->ι.off a->H' a=some (.lst vs)/\ι'.off a
 fz:∀a vs,aa7 K H a vs->aa7 K H' a vs
 rf:∀(n:Nat) a,ι.l[n]?=some a->ι'.l[n]?=some a
mutual
theorem Rep.tr{K:Fg}{ι ι':Io}{H H':Hp}(l:Tr K ι H ι' H'):∀{d:Dv}{v:V},Rep K ι H d v->Rep K ι' H' d v
 |_,_,.non=>.non|_,_,.bl b=>.bl b|_,_,.int i=>.int i|_,_,.str s=>.str s|_,_,.tup e r=>.tup (l.tup _ _ e) (m6.tr l r)|_,_,.vl e n r=>.vl (l.vl _ _ e n).1 (l.vl _ _ e n).2 (m6.tr l r)|_,_,.fz e r=>.fz (l.fz _ _ e) (m6.tr l r)|_,_,.ref e=>.ref (l.rf _ _ e)
theorem m6.tr{K:Fg}{ι ι':Io}{H H':Hp}(l:Tr K ι H ι' H'):∀{ds:List Dv}{vs:List V},m6 K ι H ds vs->m6 K ι' H' ds vs
 |_,_,.nil=>.nil|_,_,.cons h t=>.cons (Rep.tr l h) (m6.tr l t)
end
def LeX.tr(l:LeX ι H ι' H'):Tr K ι H ι' H':=⟨l.tup,λa vs e n=>⟨l.lst _ _ n.1 e,l.out n e⟩,λa vs e=>by
 rcases e with⟨o,e⟩|e
 . exact .inl ⟨o,l.N7 _ _ _ e⟩
 . exact .inr e,λ_ _ e=>l.get e⟩
def Rep.Mj(l:LeX ι H ι' H')(r:Rep K ι H d v):Rep K ι' H' d v:=r.tr l.tr
def m6.Mj(l:LeX ι H ι' H')(r:m6 K ι H ds vs):m6 K ι' H' ds vs:=r.tr l.tr
def Rep.mono(l:Le ι H ι' H')(r:Rep K ι H d v):Rep K ι' H' d v:=r.Mj l.toX
def m6.mono(l:Le ι H ι' H')(r:m6 K ι H ds vs):m6 K ι' H' ds vs:=r.Mj l.toX
theorem m6.length{K:Fg}{ι:Io}{H:Hp}:∀{ds:List Dv}{vs:List V},m6 K ι H ds vs->ds.length=vs.length
 |_,_,.nil=>rfl|_,_,.cons _ t=>by rw[gw,gw,m6.length t]
theorem m6.get{K:Fg}{ι:Io}{H:Hp}:∀{ds:List Dv}{vs:List V}{i:Nat}{d:Dv},m6 K ι H ds vs->ds[i]?=some d->∃v,vs[i]?=some v/\Rep K ι H d v
 |_,_,_,_,.nil,e=>by simp at e|_,_,0,_,.cons h _,e=>by simp at e;subst e;exact⟨_,rfl,h⟩
 |_,_,i+1,d,.cons _ t,e=>by
  obtain⟨v,h1,h2⟩:=m6.get (i:=i) t (by simpa using e);exact⟨v,by simpa using h1,h2⟩
theorem m6.set{K:Fg}{ι:Io}{H:Hp}{d:Dv}{v:V}(r:Rep K ι H d v):∀{ds:List Dv}{vs:List V}(i:Nat),m6 K ι H ds vs->m6 K ι H (ds.set i d) (vs.set i v)
 |_,_,_,.nil=>.nil|_,_,0,.cons _ t=>.cons r t|_,_,i+1,.cons h t=>.cons h (m6.set r i t)
theorem m6.append{K:Fg}{ι:Io}{H:Hp}:∀{ds es:List Dv}{vs us:List V},m6 K ι H ds vs->m6 K ι H es us->m6 K ι H (ds++es) (vs++us)
 |_,_,_,_,.nil,r=>r|_,_,_,_,.cons h t,r=>.cons h (m6.append t r)
theorem m6.drop{K:Fg}{ι:Io}{H:Hp}:∀{ds:List Dv}{vs:List V}(n:Nat),m6 K ι H ds vs->m6 K ι H (ds.drop n) (vs.drop n)
 |_,_,0,r=>r|_,_,_+1,.nil=>.nil|_,_,n+1,.cons _ t=>m6.drop n t
theorem m6.take{K:Fg}{ι:Io}{H:Hp}:∀{ds:List Dv}{vs:List V}(n:Nat),m6 K ι H ds vs->m6 K ι H (ds.take n) (vs.take n)
 |_,_,0,_=>.nil|_,_,_+1,.nil=>.nil|_,_,n+1,.cons h t=>.cons h (m6.take n t)
theorem m6.eraseIdx{K:Fg}{ι:Io}{H:Hp}:∀{ds:List Dv}{vs:List V}(n:Nat),m6 K ι H ds vs->m6 K ι H (ds.eraseIdx n) (vs.eraseIdx n)
 |_,_,_,.nil=>.nil|_,_,0,.cons _ t=>t|_,_,n+1,.cons h t=>.cons h (m6.eraseIdx n t)
theorem m6.ints{K:Fg}{ι:Io}{H:Hp}:∀(ns:Xs),m6 K ι H (ns.map MW.D.int) (ns.map V.int)
 |[]=>.nil|n::r=>.cons (.int n) (m6.ints r)
structure Nm where
 cls:Nat->Option Addr
 fld:Nat->Str
 inj:∀i j,fld i=fld j->i=j
inductive uc{κ κ':Type}(K:Fg)(ι:Io)(H:Hp)(f:κ->κ'->Prop):List (κ×Dv)->List (κ'×V)->Prop
 |nil:uc K ι H f [] []
 |cons {k:κ} {k':κ'} {d:Dv} {v:V} {l:List (κ×Dv)} {l':List (κ'×V)} (hk:f k k') (h:Rep K ι H d v) (t:uc K ι H f l l'):uc K ι H f ((k,d)::l) ((k',v)::l')
theorem uc.mono{κ κ':Type}{K:Fg}{ι ι':Io}{H H':Hp}{f:κ->κ'->Prop}(le:Le ι H ι' H'):∀{l:List (κ×Dv)}{l':List (κ'×V)},uc K ι H f l l'->uc K ι' H' f l l'
 |_,_,.nil=>.nil|_,_,.cons k h t=>.cons k (h.mono le) (uc.mono le t)
def Gz(nm:Nm)(K:Fg)(ι:Io)(H:Hp)(o:MO)(a:Addr):Prop :=
 match o with
 |.lst ds=>∃vs,H a=some (.lst vs)/\m6 K ι H ds vs|.dT ie=>∃l,H a=some (.dT l)/\uc K ι H (λk k'=>k=k') ie l
 |.dK ie=>∃l,H a=some (.dK l)/\uc K ι H (λk k'=>k=k') ie l
 |.ins c fs=>∃C dx l,nm.cls c=some C/\H a=some (.ins C dx l)/\uc K ι H (λk k'=>k'=nm.fld k) fs l
structure m8(nm:Nm)(K:Fg)(ι:Io)(H:Hp)(M:dh):Prop where
 len:ι.l.length=M.length
 nd:ι.l.Nodup
 del:∀a∈ι.δ,a∉ι.l/\∃vs,H a=some (.lst vs)
 obj:∀(n:Nat)(o:MO)(a:Addr),M[n]?=some o->ι.l[n]?=some a->Gz nm K ι H o a
theorem Gz.some(h:Gz nm K ι H o a):∃u,H a=some u/\Mut (H a):=by
 cases o with
 |lst ds=>obtain⟨vs,e,_⟩:=h;exact⟨_,e,by rw[e];trivial⟩
 |dT ie=>obtain⟨vs,e,_⟩:=h;exact⟨_,e,by rw[e];trivial⟩
 |dK ie=>obtain⟨vs,e,_⟩:=h;exact⟨_,e,by rw[e];trivial⟩
 |ins c fs=>obtain⟨C,dx,l,_,e,_⟩:=h;exact⟨_,e,by rw[e];trivial⟩
def m8.addr(S:m8 nm K ι H M){n:Nat}(h:M[n]?=some o):∃a,ι.l[n]?=some a/\Gz nm K ι H o a:=by
 have hl:n < ι.l.length:=by rw[S.len];exact MW.wz h
 exact⟨ι.l[n],by simp[hl],S.obj n o _ h (by simp[hl])⟩
def m8.mem(S:m8 nm K ι H M)(h:a∈ι.l):∃u,H a=some u/\Mut (H a):=by
 obtain⟨n,hn,rfl⟩:=qp h;have hm:n<M.length:=by rw[<- S.len];exact hn
 exact(S.obj n M[n] ι.l[n] (by simp[hm]) (by simp[hn])).some
def m8.fresh(S:m8 nm K ι H M)(h:H a=none):ι.off a:=by
 refine⟨λm=>?_,λm=>?_⟩
 . obtain⟨u,e,_⟩:=S.mem m
   rw[h] at e;cases e
 . obtain⟨_,vs,e⟩:=S.del a m
   rw[h] at e;cases e
def Gz.move(h:Gz nm K ι H o a)(le:Le ι H ι' H')(e:H' a=H a):Gz nm K ι' H' o a:=by
 cases o with
 |lst ds=>obtain⟨vs,q,r⟩:=h;exact⟨vs,e.trans q,r.mono le⟩
 |dT ie=>obtain⟨vs,q,r⟩:=h;exact⟨vs,e.trans q,r.mono le⟩
 |dK ie=>obtain⟨vs,q,r⟩:=h;exact⟨vs,e.trans q,r.mono le⟩
 |ins c fs=>obtain⟨C,dx,l,hc,q,r⟩:=h;exact⟨C,dx,l,hc,e.trans q,r.mono le⟩
def m8.laid(S:m8 nm K ι H M)(h:H p=none)(o:HO):m8 nm K ι (upd H p o) M/\Le ι H ι (upd H p o):=by
 have ne:∀a u,H a=some u->a≠p:=λa u e=>lg e h
 have le:Le ι H ι (upd H p o):=⟨⟨[],by simp,by simp⟩,rfl,λa vs e=>by rw[j9 (ne a _ e)];exact e,λa _ u e=>by rw[j9 (ne a _ e)];exact e,λa vs _ e=>by rw[j9 (ne a _ e)];exact e,
  λa h'=>G7 (λb u e=>⟨u,by rw[j9 (ne b _ e)];exact e⟩) h'⟩
 refine⟨⟨S.len,S.nd,λa ha=>?_,λn o' a hn ha=>?_⟩,le⟩
 . obtain⟨h1,vs,h2⟩:=S.del a ha
   exact⟨h1,vs,le.lst a vs h1 h2⟩
 . have q:=S.obj n o' a hn ha
   obtain⟨u,e,_⟩:=q.some;exact q.move le (by rw[j9 (ne a u e)])
def Ce{α:Type}{l:List α}{x y:α}(h:(l++[x])[n]?=some y):(l[n]?=some y)\/(n=l.length/\y=x):=by
 rcases yh n l.length with q|q
 . rw[dj q] at h;exact .inl h
 . rw[jb q] at h
   have:n-l.length=0:=by
    rcases Nat.eq_zero_or_pos (n-l.length) with z|z
    . exact z
    . rw[kj (by simp;exact z)] at h;cases h
   rw[this] at h;simp at h;exact .inr ⟨by lia,h.symm⟩
def m8.new(S:m8 nm K ι H M)(h:H p=none)(hk:∀a u,H a=some u->H' a=some u)(ho:Le ι H (ι.add p) H'->Gz nm K (ι.add p) H' o p):m8 nm K (ι.add p) H' (M++[o])/\Le ι H (ι.add p) H':=by
 have le:Le ι H (ι.add p) H':=⟨⟨[p],rfl,by simpa using h⟩,rfl,λa vs e=>hk _ _ e,λa _ u e=>hk _ _ e,λa vs _ e=>hk _ _ e,λa h'=>G7 (H:=H) (H':=H') (λb u e=>⟨u,hk b u e⟩) h'⟩;refine⟨⟨by simp[Io.add,S.len],?_,λa ha=>?_,λn o' a hn ha=>?_⟩,le⟩
 . exact yp.mpr ⟨S.nd,by simp,by
    intro x hx y hy;have:y=p:=by simpa using hy
    subst this;intro e;subst e;exact(S.fresh h).1 hx⟩
 . obtain⟨h1,vs,h2⟩:=S.del a ha
   exact⟨le.a1e h1 h2,vs,hk _ _ h2⟩
 . rcases Ce hn with q|⟨q,rfl⟩
   . rcases Ce ha with r|⟨r,_⟩
     . have z:=S.obj n o' a q r
       obtain⟨u,e,_⟩:=z.some;exact z.move le ((hk a u e).trans e.symm)
     . exact absurd (MW.wz q) (by rw[r,S.len];exact kh _)
   . rcases Ce ha with r|⟨_,rfl⟩
     . exact absurd (ak.mp r).1 (by rw[q,S.len];exact kh _)
     . exact ho le
def m8.put(S:m8 nm K ι H M)(hn:M[n]?=some o₀)(ha:ι.l[n]?=some a)(ho:Le ι H ι (upd H a u)->Gz nm K ι (upd H a u) o a):m8 nm K ι (upd H a u) (M.set n o)/\Le ι H ι (upd H a u):=by
 obtain⟨u₀,e₀,m₀⟩:=(S.obj n o₀ a hn ha).some;have hm:a∈ι.l:=ao ha;have le:Le ι H ι (upd H a u):=⟨⟨[],by simp,by simp⟩,rfl,λb vs e=>by rw[j9 (λz=>by subst z;rw[e] at m₀;exact m₀)];exact e,
  λb _ _ e=>by rw[j9 (λz=>by subst z;rw[e] at m₀;exact m₀)];exact e,λb vs nb e=>by rw[j9 (λz=>by subst z;exact nb hm)];exact e,λb h'=>G7 (λc w e=>by
   by_cases z:c=a
   . exact⟨u,by rw[z,xf]⟩
   . exact⟨w,by rw[j9 z];exact e⟩) h'⟩
 refine⟨⟨by rw[List.length_set];exact S.len,S.nd,λb hb=>?_,λm o' b hm' hb=>?_⟩,le⟩
 . obtain⟨h1,vs,h2⟩:=S.del b hb
   exact⟨h1,vs,le.lst b vs h1 h2⟩
 by_cases q:m=n
 . subst q
   rw[MW.vo hn] at hm';cases hm';rw[ha] at hb;cases hb;exact ho le
 . rw[MW.qx (j0 q)] at hm'
   have z:=S.obj m o' b hm' hb;have nb:b≠a:=λe=>by subst e;obtain⟨l1,e1⟩:=ak.mp hb;obtain⟨l2,e2⟩:=ak.mp ha;exact q ((Ar S.nd).mp (e1.trans e2.symm))
   exact z.move le (by rw[j9 nb])
mutual
theorem Rep.hide{K:Fg}{ι:Io}{H:Hp}{D:Addr}{o:HO}(hD:H D=none):∀{d:Dv}{v:V},Rep K ι H d v->Rep K (ι.hide D) (upd H D o) d v
 |_,_,.non=>.non|_,_,.bl b=>.bl b|_,_,.int i=>.int i|_,_,.str s=>.str s|_,_,.tup e r=>.tup (by rw[j9 (lg e hD)];exact e) (m6.hide hD r)
 | _,_,.vl e n r=>.vl (by rw[j9 (lg e hD)];exact e) ⟨n.1,λm=>by
  rcases bz.mp m with q|q
  . exact lg e hD q
  . exact n.2 q⟩ (m6.hide hD r)
 | _,_,.fz e r=>.fz (by
  rcases e with⟨q,e⟩|e
  . exact .inl ⟨q,by rw[j9 (lg e hD)];exact e⟩
  . exact .inr e) (m6.hide hD r)
 |_,_,.ref e=>.ref e
theorem m6.hide{K:Fg}{ι:Io}{H:Hp}{D:Addr}{o:HO}(hD:H D=none):∀{ds:List Dv}{vs:List V},m6 K ι H ds vs->m6 K (ι.hide D) (upd H D o) ds vs
 |_,_,.nil=>.nil|_,_,.cons h t=>.cons (Rep.hide hD h) (m6.hide hD t)
end
mutual
theorem Rep.grow{K:Fg}{ι:Io}{H:Hp}{D:Addr}{vs ws:List V}(hD:H D=some (.lst vs))(hm:D∈ι.δ):∀{d:Dv}{v:V},Rep K ι H d v->Rep K ι (upd H D (.lst ws)) d v
 |_,_,.non=>.non|_,_,.bl b=>.bl b|_,_,.int i=>.int i|_,_,.str s=>.str s|_,_,.tup e r=>.tup (by rw[j9 (aoa e hD (by intro z;cases z))];exact e) (m6.grow hD hm r)|_,_,.vl e n r=>.vl (by rw[j9 (λz=>by subst z;exact n.2 hm)];exact e) n (m6.grow hD hm r)
 | _,_,.fz e r=>.fz (by
  rcases e with⟨q,e⟩|e
  . exact .inl ⟨q,by rw[j9 (aoa e hD (by intro z;cases z))];exact e⟩
  . exact .inr e) (m6.grow hD hm r)
 |_,_,.ref e=>.ref e
theorem m6.grow{K:Fg}{ι:Io}{H:Hp}{D:Addr}{vs ws:List V}(hD:H D=some (.lst vs))(hm:D∈ι.δ):∀{ds:List Dv}{us:List V},m6 K ι H ds us->m6 K ι (upd H D (.lst ws)) ds us
 |_,_,.nil=>.nil|_,_,.cons h t=>.cons (Rep.grow hD hm h) (m6.grow hD hm t)
end
def Io.show(ι:Io)(H:Hp)(D:Addr):Tr K (ι.hide D) H ι H:=⟨λ_ _ e=>e,λ_ _ e n=>⟨e,n.1,λm=>n.2 (bc _ m)⟩,λ_ _ e=>e,λ_ _ e=>e⟩
theorem Rep.show(r:Rep K (ι.hide D) H d v):Rep K ι H d v:=r.tr (ι.show H D)
theorem m6.show(r:m6 K (ι.hide D) H d v):m6 K ι H d v:=r.tr (ι.show H D)
theorem uc.map{κ κ':Type}{K:Fg}{ι ι':Io}{H H':Hp}{f:κ->κ'->Prop}(g:∀d v,Rep K ι H d v->Rep K ι' H' d v):∀{l:List (κ×Dv)}{l':List (κ'×V)},uc K ι H f l l'->uc K ι' H' f l l'
 |_,_,.nil=>.nil|_,_,.cons k h t=>.cons k (g _ _ h) (uc.map g t)
theorem m6.map{K:Fg}{ι ι':Io}{H H':Hp}(g:∀d v,Rep K ι H d v->Rep K ι' H' d v):∀{l:List Dv}{l':List V},m6 K ι H l l'->m6 K ι' H' l l'
 |_,_,.nil=>.nil|_,_,.cons h t=>.cons (g _ _ h) (m6.map g t)
theorem Gz.map(g:∀d v,Rep K ι H d v->Rep K ι' H' d v)(h:Gz nm K ι H o a)(e:H' a=H a):Gz nm K ι' H' o a:=by
 cases o with
 |lst ds=>obtain⟨vs,q,r⟩:=h;exact⟨vs,e.trans q,r.map g⟩
 |dT ie=>obtain⟨vs,q,r⟩:=h;exact⟨vs,e.trans q,r.map g⟩
 |dK ie=>obtain⟨vs,q,r⟩:=h;exact⟨vs,e.trans q,r.map g⟩
 |ins c fs=>obtain⟨C,dx,l,hc,q,r⟩:=h;exact⟨C,dx,l,hc,e.trans q,r.map g⟩
theorem m8.hide(S:m8 nm K ι H M)(hD:H D=none):m8 nm K (ι.hide D) (upd H D (.lst [])) M:=by
 refine⟨S.len,S.nd,λa ha=>?_,λn o a hn ha=>?_⟩
 . rcases bz.mp ha with q|q
   . subst q;exact⟨(S.fresh hD).1,[],xf⟩
   . obtain⟨h1,vs,h2⟩:=S.del a q
     exact⟨h1,vs,by rw[j9 (lg h2 hD)];exact h2⟩
 . have z:=S.obj n o a hn ha
   obtain⟨u,e,_⟩:=z.some;exact z.map (λd v r=>r.hide hD) (by rw[j9 (lg e hD)])
theorem m8.grow(S:m8 nm K ι H M)(hD:H D=some (.lst vs))(hm:D∈ι.δ):m8 nm K ι (upd H D (.lst ws)) M:=by
 refine⟨S.len,S.nd,λa ha=>?_,λn o a hn ha=>?_⟩
 . obtain⟨h1,us,h2⟩:=S.del a ha
   by_cases z:a=D
   . subst z;exact⟨h1,ws,xf⟩
   . exact⟨h1,us,by rw[j9 z];exact h2⟩
 . have z:=S.obj n o a hn ha
   have ne:a≠D:=λe=>by subst e;exact(S.del a hm).1 (ao ha)
   exact z.map (λd v r=>r.grow hD hm) (by rw[j9 ne])
theorem m8.show(S:m8 nm K (ι.hide D) H M):m8 nm K ι H M :=
 ⟨S.len,S.nd,λa ha=>S.del a (bc _ ha),λn o a hn ha=>(S.obj n o a hn ha).map (λd v r=>r.show) rfl⟩
structure LeD(D:Addr)(ι:Io)(H:Hp)(ι':Io)(H':Hp):Prop where
 ext:∃Y,ι'.l=ι.l++Y/\∀a∈Y,H a=none
 del:ι'.δ=D::ι.δ
 tup:∀a vs,H a=some (.tup vs)->H' a=some (.tup vs)
 N7:∀a o u,H a=some (.N7 o u)->H' a=some (.N7 o u)
 lst:∀a vs,a∉ι.l->H a=some (.lst vs)->H' a=some (.lst vs)
 dom:∀a,H' a=none->H a=none
def LeD.toX(l:LeD D ι H ι' H')(hD:H D=none):LeX ι H ι' H':=⟨l.ext,λa h=>by
 rw[l.del] at h;rcases bz.mp h with q|q
 . exact .inr (by rw[q];exact hD)
 . exact .inl q,l.tup,l.N7,l.lst⟩
def LeD.start(hD:H D=none)(o:HO):LeD D ι H (ι.hide D) (upd H D o) :=
 ⟨⟨[],by simp[Io.hide],by simp⟩,rfl,λa vs e=>by rw[j9 (lg e hD)];exact e,λa _ _ e=>by rw[j9 (lg e hD)];exact e,λa vs _ e=>by rw[j9 (lg e hD)];exact e,
  λa h'=>G7 (λb u e=>⟨u,by rw[j9 (lg e hD)];exact e⟩) h'⟩
def LeD.go(a:LeD D ι H ι1 H1)(b:Le ι1 H1 ι2 H2):LeD D ι H ι2 H2:=by
 obtain⟨Y,e1,h1⟩:=a.ext;obtain⟨Z,e2,h2⟩:=b.ext;have out:∀x o,x∉ι.l->H x=some o->x∉ι1.l:=λx o n h m=>by
  rw[e1] at m;rcases dw.mp m with q|q
  . exact n q
  . rw[h1 x q] at h;cases h
 refine⟨⟨Y++Z,by rw[e2,e1,Ag],λx m=>?_⟩,b.del.trans a.del,λx vs h=>b.tup x vs (a.tup x vs h),λx o u h=>b.N7 x o u (a.N7 x o u h),λx vs n h=>b.lst x vs (out x _ n h) (a.lst x vs n h),λx h=>a.dom x (b.dom x h)⟩;rcases dw.mp m with q|q
 . exact h1 x q
 . exact a.dom x (h2 x q)
def LeD.grow(a:LeD D ι H ι1 H1)(h0:H D=none)(hD:H1 D=some (.lst vs)):LeD D ι H ι1 (upd H1 D (.lst ws)) :=
 ⟨a.ext,a.del,λx us h=>by rw[j9 (lg h h0)];exact a.tup x us h,λx o u h=>by rw[j9 (lg h h0)];exact a.N7 x o u h,λx us n h=>by rw[j9 (lg h h0)];exact a.lst x us n h,
  λx h=>a.dom x (by
   by_cases z:x=D
   . rw[z,xf] at h;cases h
   . rw[j9 z] at h;exact h)⟩
def LeD.done(a:LeD D ι H ⟨ι1.l,D::ι1.δ⟩ H1):Le ι H ι1 H1 :=
 ⟨a.ext,(List.cons.inj a.del).2,a.tup,a.N7,a.lst,a.dom⟩
inductive u5(K:Fg)(ι:Io)(H:Hp):En->St->Prop
 |nil:u5 K ι H [] []
 |skp {y:Option V} {ρ:En} {σ:St} (t:u5 K ι H ρ σ):u5 K ι H (none::ρ) (y::σ)
 |has {d:Dv} {v:V} {ρ:En} {σ:St} (h:Rep K ι H d v) (t:u5 K ι H ρ σ):u5 K ι H (some d::ρ) (some v::σ)
theorem u5.Mj{K:Fg}{ι ι':Io}{H H':Hp}(le:LeX ι H ι' H'):∀{ρ:En}{σ:St},u5 K ι H ρ σ->u5 K ι' H' ρ σ
 |_,_,.nil=>.nil|_,_,.skp t=>.skp (u5.Mj le t)|_,_,.has h t=>.has (h.Mj le) (u5.Mj le t)
theorem u5.mono{K:Fg}{ι ι':Io}{H H':Hp}(le:Le ι H ι' H'):∀{ρ:En}{σ:St},u5 K ι H ρ σ->u5 K ι' H' ρ σ
 |_,_,.nil=>.nil|_,_,.skp t=>.skp (u5.mono le t)|_,_,.has h t=>.has (h.mono le) (u5.mono le t)
theorem u5.get{K:Fg}{ι:Io}{H:Hp}:∀{ρ:En}{σ:St}{i:Nat}{d:Dv},u5 K ι H ρ σ->ρ[i]?=some (some d)->∃v,σ[i]?=some (some v)/\Rep K ι H d v
 |_,_,_,_,.nil,e=>by simp at e|_,_,0,_,.skp _,e=>by simp at e|_,_,0,_,.has h _,e=>by simp at e;subst e;exact⟨_,rfl,h⟩
 |_,_,i+1,d,.skp t,e=>by
  obtain⟨v,h1,h2⟩:=u5.get (i:=i) t (by simpa using e);exact⟨v,by simpa using h1,h2⟩
 |_,_,i+1,d,.has _ t,e=>by
  obtain⟨v,h1,h2⟩:=u5.get (i:=i) t (by simpa using e);exact⟨v,by simpa using h1,h2⟩
theorem u5.set{K:Fg}{ι:Io}{H:Hp}{d:Dv}{v:V}(r:Rep K ι H d v):∀{ρ:En}{σ:St}(i:Nat),u5 K ι H ρ σ->u5 K ι H (ρ.set i (some d)) (σ.set i (some v))
 |_,_,_,.nil=>.nil|_,_,0,.skp t=>.has r t|_,_,0,.has _ t=>.has r t|_,_,i+1,.skp t=>.skp (u5.set r i t)|_,_,i+1,.has h t=>.has h (u5.set r i t)
theorem u5.length{K:Fg}{ι:Io}{H:Hp}:∀{ρ:En}{σ:St},u5 K ι H ρ σ->ρ.length=σ.length
 |_,_,.nil=>rfl|_,_,.skp t=>by rw[gw,gw,u5.length t]|_,_,.has _ t=>by rw[gw,gw,u5.length t]
theorem u5.append{K:Fg}{ι:Io}{H:Hp}:∀{ρ ρ':En}{σ σ':St},u5 K ι H ρ σ->u5 K ι H ρ' σ'->u5 K ι H (ρ++ρ') (σ++σ')
 |_,_,_,_,.nil,r=>r|_,_,_,_,.skp t,r=>.skp (u5.append t r)|_,_,_,_,.has h t,r=>.has h (u5.append t r)
theorem u5.apf{K:Fg}{ι:Io}{H:Hp}:∀(k:Nat){σ:St},σ.length=k->u5 K ι H (List.replicate k none) σ
 |0,[],_=>.nil|k+1,_::r,h=>.skp (u5.apf k (by simpa using h))
theorem u5.apg{K:Fg}{ι:Io}{H:Hp}:∀{ds:List Dv}{vs:List V},m6 K ι H ds vs->u5 K ι H (ds.map some) (vs.map some)
 |_,_,.nil=>.nil|_,_,.cons h t=>.has h (u5.apg t)
def gh{r:Res α}(h:r.bind f=.ok b M):∃a M1,r=.ok a M1/\f a M1=.ok b M:=by
 cases r with
 |ok a M1=>exact⟨a,M1,rfl,h⟩|err c M1=>cases h|bad=>cases h
def yr(h:Res.vg o M=.ok a M'):o=some a/\M'=M:=by
 cases o with
 |none=>cases h|some x=>cases h;exact⟨rfl,rfl⟩
def PE.weak(h:PE X e t)(w:∀σ H Q,t' σ H Q->t σ H Q):PE X e t':=λpins s σ H Q I q=>h pins s σ H Q I (w σ H Q q)
def PT.weak(h:PT X e t)(w:∀σ H Q,t' σ H Q->t σ H Q):PT X e t':=λpins s σ H Q I q=>h pins s σ H Q I (w σ H Q q)
def PA.weak(h:PA X es t)(w:∀σ H Q,t' σ H Q->t σ H Q):PA X es t':=λpos pins s σ H Q I q=>h pos pins s σ H Q I (w σ H Q q)
def PS.weak(h:PS X e t)(w:∀D σ H,t' D σ H->t D σ H):PS X e t':=λpins s σ H D I q=>h pins s σ H D I (w D σ H q)
def Rh.weak(h:Rh X e t)(w:∀D σ H,t' D σ H->t D σ H):Rh X e t':=λpins s σ H D I q=>h pins s σ H D I (w D σ H q)
def Cz.weak(h:Cz X f r)(w:∀x y H Q,r' x y H Q->r x y H Q):Cz X f r':=λpins s σ H x y v u Q I rx ry q=>h pins s σ H x y v u Q I rx ry (w x y H Q q)
section
variable(nm:Nm)(W:Jp)(K:Fg)
def tE(e:Ex):TE:=fun σ H Q=>∃ι ρ M d M',m8 nm K ι H M/\u5 K ι H ρ σ/\e.den W ρ M=.ok d M'/\∀ι' H' v,Le ι H ι' H'->m8 nm K ι' H' M'->Rep K ι' H' d v->Q v H'
def tQ(e:Ex):TT:=fun σ H Q=>∃ι ρ M b M',m8 nm K ι H M/\u5 K ι H ρ σ/\e.den W ρ M=.ok (.bl b) M'/\∀ι' H',Le ι H ι' H'->m8 nm K ι' H' M'->Q b H'
def Wj(es:Cr):TA:=fun σ H Q=>∃ι ρ M ds M',m8 nm K ι H M/\u5 K ι H ρ σ/\es.den W ρ M=.ok ds M'/\∀ι' H' vs,Le ι H ι' H'->m8 nm K ι' H' M'->m6 K ι' H' ds vs->Q vs H'
def Wk(D:Ends)(ι:Io)(H:Hp)(fl:MW.Flow)(ρ:En)(M:dh):Prop :=
 ∀ι' H' σ',Le ι H ι' H'->m8 nm K ι' H' M->u5 K ι' H' ρ σ' ->
  match fl with
  |.next=>D.nx σ' H'|.brk=>D.bk σ' H'|.cont=>D.ct σ' H'|.ret d=>∀v,Rep K ι' H' d v->D.rt v H'
def tS(st:By):TS:=λD σ H=>∃ι ρ M fl ρ' M',m8 nm K ι H M/\u5 K ι H ρ σ/\st.den W ρ M=.ok (fl,ρ') M'/\Wk nm K D ι H fl ρ' M'
def tSs(st:o7):TS:=λD σ H=>∃ι ρ M fl ρ' M',m8 nm K ι H M/\u5 K ι H ρ σ/\st.den W ρ M=.ok (fl,ρ') M'/\Wk nm K D ι H fl ρ' M'
end
def PE.of(h:PE X a t)(w:∀σ H Q ι ρ M d M',m8 nm X.K ι H M->u5 X.K ι H ρ σ->e'.den W ρ M=.ok d M'->(∀ι' H' v,Le ι H ι' H'->m8 nm X.K ι' H' M'->Rep X.K ι' H' d v->Q v H')->t σ H Q):PE X a (tE nm W X.K e'):=PE.weak h fun σ H Q z_=>by obtain⟨ι,ρ,M,d,M',S,R,e,q⟩:=z_;exact w σ H Q ι ρ M d M' S R e q
def PT.of(h:PT X a t)(w:∀σ H Q ι ρ M b M',m8 nm X.K ι H M->u5 X.K ι H ρ σ->e'.den W ρ M=.ok (.bl b) M'->(∀ι' H',Le ι H ι' H'->m8 nm X.K ι' H' M'->Q b H')->t σ H Q):PT X a (tQ nm W X.K e'):=PT.weak h fun σ H Q z_=>by obtain⟨ι,ρ,M,d,M',S,R,e,q⟩:=z_;exact w σ H Q ι ρ M d M' S R e q
def PA.of(h:PA X es t)(w:∀σ H Q ι ρ M ds M',m8 nm X.K ι H M->u5 X.K ι H ρ σ->es'.den W ρ M=.ok ds M'->(∀ι' H' vs,Le ι H ι' H'->m8 nm X.K ι' H' M'->m6 X.K ι' H' ds vs->Q vs H')->t σ H Q):PA X es (Wj nm W X.K es'):=PA.weak h fun σ H Q z_=>by obtain⟨ι,ρ,M,d,M',S,R,e,q⟩:=z_;exact w σ H Q ι ρ M d M' S R e q
def PS.of(h:PS X st t)(w:∀D σ H ι ρ M fl ρ' M',m8 nm X.K ι H M->u5 X.K ι H ρ σ->s'.den W ρ M=.ok (fl,ρ') M'->Wk nm X.K D ι H fl ρ' M'->t D σ H):PS X st (tS nm W X.K s'):=PS.weak h λD σ H z_=>by obtain⟨ι,ρ,M,fl,ρ',M',S,R,e,q⟩:=z_;exact w D σ H ι ρ M fl ρ' M' S R e q
def Rh.of(h:Rh X st t)(w:∀D σ H ι ρ M fl ρ' M',m8 nm X.K ι H M->u5 X.K ι H ρ σ->s'.den W ρ M=.ok (fl,ρ') M'->Wk nm X.K D ι H fl ρ' M'->t D σ H):Rh X st (tSs nm W X.K s'):=Rh.weak h λD σ H z_=>by obtain⟨ι,ρ,M,fl,ρ',M',S,R,e,q⟩:=z_;exact w D σ H ι ρ M fl ρ' M' S R e q
def one{X:Cx}{M1:dh}(S:m8 nm X.K ι H M)(R:u5 X.K ι H ρ σ)(ha:a'.den W ρ M=.ok x M1)(h:∀ι1 H1 v,Le ι H ι1 H1->m8 nm X.K ι1 H1 M1->u5 X.K ι1 H1 ρ σ->Rep X.K ι1 H1 x v->G v H1):tE nm W X.K a' σ H G :=
 ⟨ι,ρ,M,x,M1,S,R,ha,fun ι' H' v le S' r=>h ι' H' v le S' (R.mono le) r⟩
theorem two{X:Cx}{M1 M2:dh}{G:V->V->Hp->Prop}(S:m8 nm X.K ι H M)(R:u5 X.K ι H ρ σ)(ha:a'.den W ρ M=.ok x M1)(hb:b'.den W ρ M1=.ok y M2)(h:∀ι2 H2 v u,Le ι H ι2 H2->m8 nm X.K ι2 H2 M2->u5 X.K ι2 H2 ρ σ->Rep X.K ι2 H2 x v->Rep X.K ι2 H2 y u->G v u H2) :
 tE nm W X.K a' σ H λv H1=>tE nm W X.K b' σ H1 λu H2=>G v u H2 :=
 one S R ha fun ι1 H1 v Vg S1 R1 r1=>one S1 R1 hb fun ι2 H2 u Ak S2 R2 r2=>h ι2 H2 v u (Vg.trans Ak) S2 R2 (r1.mono Ak) r2
set_option tactic.hygienic true in
def a8i(hN:X.N[i]?=some n)(hv:Vis X.env.scope n)(hd:(n==("__debug__" : Str))=false)(hcd:(n==("__classdict__" : Str))=false):PE X (.Name n pos) (tE nm W X.K (.var i)) :=
 PE.of (az7 hN hv hd hcd) fun σ H Q ι ρ M d M' S R e q=>by
  rw[MW.ahc] at e;split at e
  . rename_i d' hd
    cases e;obtain⟨v,h1,h2⟩:=R.get hd;exact⟨v,h1,q ι H v (Le.refl _ _) S h2⟩
  . cases e
def a8j:PE X (.Constant (.int i) j pos) (tE nm W X.K (.cst (.int i))) :=
 PE.of az8 fun σ H Q ι ρ M d M' S R e q=>by rw[MW.Q0] at e;cases e;exact q ι H _ (Le.refl _ _) S (.int i)
def bez:PE X (.Constant (.bool i) j pos) (tE nm W X.K (.cst (.bl i))) :=
 PE.of a6z fun σ H Q ι ρ M d M' S R e q=>by rw[MW.Q0] at e;cases e;exact q ι H _ (Le.refl _ _) S (.bl i)
def a8k:PE X (.Constant .none j pos) (tE nm W X.K (.cst .non)) :=
 PE.of az9 fun σ H Q ι ρ M d M' S R e q=>by rw[MW.Q0] at e;cases e;exact q ι H _ (Le.refl _ _) S .non
def a8l:PE X (.Constant (.str i) j pos) (tE nm W X.K (.cst (.str i))) :=
 PE.of a0a fun σ H Q ι ρ M d M' S R e q=>by rw[MW.Q0] at e;cases e;exact q ι H _ (Le.refl _ _) S (.str i)
def a1f(hg:Gl X n)(hm:X.mg n=some (.int i t))(hd:(n==("__debug__" : Str))=false):PE X (.Name n pos) (tE nm W X.K (.cst (.int i))) :=
 PE.of (aub (v:=.int i) hg hm ⟨t,rfl⟩ hd) fun σ H Q ι ρ M d M' S R e q=>by rw[MW.Q0] at e;cases e;exact q ι H _ (Le.refl _ _) S (.int i)
def rOp(nm:Nm)(K:Fg)(f:Dv->Dv->dh->Res Dv):R2:=λv u H Q=>∃ι M x y d M',m8 nm K ι H M/\Rep K ι H x v/\Rep K ι H y u/\f x y M=.ok d M' /\
 ∀ι' H' w,Le ι H ι' H'->m8 nm K ι' H' M'->Rep K ι' H' d w->Q w H'
def Cz.of(h:Cz X f r)(w:∀v u H Q ι M x y d M',m8 nm X.K ι H M->Rep X.K ι H x v->Rep X.K ι H y u->g x y M=.ok d M'->(∀ι' H' w,Le ι H ι' H'->m8 nm X.K ι' H' M'->Rep X.K ι' H' d w->Q w H')->r v u H Q):Cz X f (rOp nm X.K g) :=
 Cz.weak h λv u H Q z_=>by obtain⟨ι,M,x,y,d,M',S,rv,ru,e,q⟩:=z_;exact w v u H Q ι M x y d M' S rv ru e q
def a8m(ho:Cz X (binaryOp op) (rOp nm X.K (MW.Gg op')))(ha:PE X a (tE nm W X.K a'))(hb:PE X b (tE nm W X.K b')):PE X (.BinOp a op b pos) (tE nm W X.K (.bin op' a' b')) :=
 PE.of (a7j ho ha hb) fun σ H Q ι ρ M d M' S R e q=>by rw[MW.atd] at e;obtain⟨x,M1,e1,e⟩:=gh e;obtain⟨y,M2,e2,e⟩:=gh e;exact two S R e1 e2 fun ι2 H2 v u le S2 _ rv ru=>⟨ι2,M2,x,y,d,M',S2,rv,ru,e,fun ι' H' w Xo S' r=>q ι' H' w (le.trans Xo) S' r⟩
def a8n:Cz X (binaryOp .Sub) (rOp nm X.K (MW.Gg .sub)) :=
 Cz.of a0v λv u H Q ι M x y d M' S rv ru e q=>by obtain⟨i,j,rfl,rfl,e2⟩:=MW.aaa e (by intro z;cases z);cases rv;cases ru;cases e2;exact⟨_,_,rfl,rfl,q ι H _ (Le.refl _ _) S (.int _)⟩
def a1g{g:Int->Int->Int}{P:Int->Int->Prop}[∀i j,Decidable (P i j)](h:Cz X (binaryOp op) r)(hb:∀x y M,MW.Gg op' x y M=MW.ii x y (λi j=>if P i j then .ok (.int (g i j)) M else .bad) .bad)(w:∀i j H Q,P i j->Q (.int (g i j)) H->r (.int i) (.int j) H Q):Cz X (binaryOp op) (rOp nm X.K (MW.Gg op')) :=
 Cz.of h λv u H Q ι M x y d M' S rv ru e q=>by
  rw[hb] at e;obtain⟨i,j,rfl,rfl,e2⟩:=MW.aaa e (by intro z;cases z)
  by_cases hp:P i j
  . rw[cz hp] at e2
    cases rv;cases ru;cases e2;exact w i j H Q hp (q ι H _ (Le.refl _ _) S (.int _))
  . rw[bw hp] at e2;cases e2
def a8o:Cz X (binaryOp .Mod) (rOp nm X.K (MW.Gg .mod)):=a1g a0x (λ_ _ _=>rfl) λi j H Q h q=>⟨_,_,rfl,rfl,h,q⟩
def a1h:Cz X (binaryOp .FloorDiv) (rOp nm X.K (MW.Gg .fdiv)):=a1g aul (λ_ _ _=>rfl) λi j H Q h q=>⟨_,_,rfl,rfl,h,q⟩
def a8p:Cz X (binaryOp .Pow) (rOp nm X.K (MW.Gg .pow)):=a1g a0y (λ_ _ _=>rfl) λi j H Q h q=>⟨_,_,rfl,rfl,⟨h.1,by omega,h.2.2⟩,q⟩
set_option tactic.hygienic true in
def t7{X:Cx}(S:m8 nm X.K ι H M)(r:Rep X.K ι H d v)(h:MW.fc M d=some ds):∃p vs,v=.ref p/\H p=some (.lst vs)/\m6 X.K ι H ds vs:=by
 cases r with
 |vl e n r=>simp[MW.fc] at h;subst h;exact⟨_,_,rfl,e,r⟩
 |ref e =>
  rename_i n p;simp only[MW.fc] at h;split at h<;>simp at h;rename_i ds' hn;subst h;obtain⟨vs,h1,h2⟩:=S.obj n _ p hn e;exact⟨p,vs,rfl,h1,h2⟩
 |_=>simp[MW.fc] at h
def Km{X:Cx}(S:m8 nm X.K ι H M)(r:Rep X.K ι H d v)(h:MW.Bq M d=some ds):∃p vs,v=.ref p/\(H p=some (.lst vs)\/H p=some (.tup vs))/\m6 X.K ι H ds vs:=by
 cases r with
 |tup e r=>simp[MW.Bq] at h;subst h;exact⟨_,_,rfl,.inr e,r⟩
 |vl e n r =>
  obtain⟨p,vs,h1,h2,h3⟩:=t7 S (.vl e n r) (show MW.fc M _=_ from h);exact⟨p,vs,h1,.inl h2,h3⟩
 |ref e =>
  obtain⟨p,vs,h1,h2,h3⟩:=t7 S (.ref e) (show MW.fc M _=_ from h);exact⟨p,vs,h1,.inl h2,h3⟩
 |_=>simp[MW.Bq,MW.fc] at h
def aa8{X:Cx}(S:m8 nm X.K ι H M)(hp:H p=none)(r:m6 X.K ι H ds vs):m8 nm X.K ι (upd H p (.lst vs)) M/\Le ι H ι (upd H p (.lst vs))/\Rep X.K ι (upd H p (.lst vs)) (.vl ds) (.ref p):=by obtain⟨S1,le⟩:=S.laid hp (.lst vs);exact⟨S1,le,.vl xf (S.fresh hp) (r.mono le)⟩
def O2{X:Cx}(S:m8 nm X.K ι H M)(hp:H p=none)(r:m6 X.K ι H ds vs):m8 nm X.K ι (upd H p (.tup vs)) M/\Le ι H ι (upd H p (.tup vs))/\Rep X.K ι (upd H p (.tup vs)) (.tup ds) (.ref p):=by obtain⟨S1,le⟩:=S.laid hp (.tup vs);exact⟨S1,le,.tup xf (r.mono le)⟩
def aa9{X:Cx}(S:m8 nm X.K ι H M)(hp:H p=none)(r:m6 X.K ι H ds vs):m8 nm X.K (ι.add p) (upd H p (.lst vs)) (M++[.lst ds])/\Le ι H (ι.add p) (upd H p (.lst vs))/\Rep X.K (ι.add p) (upd H p (.lst vs)) (.ref M.length) (.ref p):=by
 obtain⟨S1,le⟩:=S.new (H':=upd H p (.lst vs)) (o:=.lst ds) hp (λa u e=>by rw[j9 (lg e hp)];exact e) λle=>⟨vs,xf,r.mono le⟩
 exact⟨S1,le,.ref (by show(ι.l++[p])[M.length]?=some p;rw[<- S.len];simp)⟩
def Wl:(100000:Nat)<=sizeLine:=by decide
set_option tactic.hygienic true in
def au6(h:MW.Gg .add x y M=.ok d M'):(∃i j,x=.int i/\y=.int j/\d=.int (i+j)/\M'=M) \/
 ∃xs ys,MW.fc M x=some xs/\MW.fc M y=some ys/\xs.length+ys.length<=100000/\d=.vl (xs++ys)/\M'=M:=by
 have h:MW.amw x y M=.ok d M':=h;unfold MW.amw at h;split at h<;>try cases h
 . exact .inl ⟨_,_,rfl,rfl,rfl,rfl⟩
 . split at h
   . split at h<;>cases h
     rename_i h1 h2 hl;exact .inr ⟨_,_,h1,h2,hl,rfl,rfl⟩
   . cases h
set_option tactic.hygienic true in
def au7(h:MW.ach x y M=.ok d M'):(∃i j,x=.int i/\y=.int j/\auk i j/\d=.int (i*j)/\M'=M)\/∃z,∃k:Nat,x=.tup [z]/\y=.int k/\k<=100000/\d=.tup (List.replicate k z)/\M'=M:=by
 unfold MW.ach at h;split at h
 . split at h
   . rename_i n
     split at h
     . rename_i hn
       cases h;exact .inr ⟨_,n.toNat,rfl,by rw[Int.toNat_of_nonneg hn.1],by omega,rfl,rfl⟩
     . cases h
   . cases h
 . obtain⟨i,j,rfl,rfl,h2⟩:=MW.aaa h (by intro z;cases z)
   split at h2
   . rename_i hc
     cases h2;exact .inl ⟨i,j,rfl,rfl,hc,rfl,rfl⟩
   . cases h2
theorem adx(r:Rep K ι H d v):∀k:Nat,m6 K ι H (List.replicate k d) (List.replicate k v)
 |0=>.nil|k+1=>.cons r (adx r k)
def a8q:Cz X (binaryOp .Mult) (rOp nm X.K (MW.Gg .mul)) :=
 Cz.of (a0w.or au4) λv u H Q ι M x y d M' S rv ru e q=>by
  rcases au7 e with⟨i,j,rfl,rfl,hc,rfl,rfl⟩|⟨z,k,rfl,rfl,hk,rfl,rfl⟩
  . cases rv;cases ru
    exact .inl ⟨_,_,rfl,rfl,hc,q ι H _ (Le.refl _ _) S (.int _)⟩
  . cases ru
    cases rv with
    |tup e1 r1 =>
     cases r1 with
     |cons r1 r2 =>
      cases r2;refine .inr ⟨_,_,k,rfl,rfl,Jh.of e1,hk,λh1=>?_,λp hp=>?_⟩
      . subst h1
        exact q ι H _ (Le.refl _ _) S (.tup e1 (.cons r1 .nil))
      . obtain⟨a,b,c⟩:=O2 S hp (adx r1 k)
        exact q ι _ _ b a c
def a8r:Cz X (binaryOp .Add) (rOp nm X.K (MW.Gg .add)) :=
 Cz.of (a0u.or ao9) λv u H Q ι M x y d M' S rv ru e q=>by
  have lists:∀xs ys,MW.fc M x=some xs->MW.fc M y=some ys->xs.length+ys.length<=100000->d=.vl (xs++ys)->M'=M->a79 v u H Q:=λxs ys h1 h2 hl hd hm=>by
   subst hd hm;obtain⟨p,vs,rfl,e1,r1⟩:=t7 S rv h1;obtain⟨p2,vs2,rfl,e2,r2⟩:=t7 S ru h2;refine⟨p,p2,vs,vs2,rfl,rfl,e1,e2,?_,λp3 h3=>?_⟩
   . rw[<- r1.length,<- r2.length];exact gn hl Wl
   . obtain⟨a,b,c⟩:=aa8 S h3 (r1.append r2)
     exact q ι _ _ b a c
  rcases au6 e with⟨i,j,rfl,rfl,rfl,rfl⟩|⟨xs,ys,h1,h2,hl,h3,h4⟩
  . cases rv;cases ru
    exact .inl ⟨_,_,rfl,rfl,q ι H _ (Le.refl _ _) S (.int _)⟩
  . exact .inr (lists _ _ h1 h2 hl h3 h4)
def au8{t:TE}(h:PT X a (fun σ H Q=>t σ H λx H1=>∃c,x=.bl c/\Q c H1))(w:∀σ H Q,tE nm W X.K a' σ H Q->t σ H Q):PT X a (tQ nm W X.K a') :=
 PT.of h fun σ H Q ι ρ M b M' S R e q=>w σ H _ ⟨ι,ρ,M,_,M',S,R,e,fun ι' H' v le S' r=>by cases r;exact⟨b,rfl,q ι' H' le S'⟩⟩
def a8s(h:PE X a (tE nm W X.K a'))(he:∀whole,isTrue a X.env whole=(do let v <- whole;standAt a.pos;holding [v] (truthy v))):PT X a (tQ nm W X.K a') :=
 au8 (a0d h he) λ_ _ _ q=>q
def Vh(nm:Nm)(K:Fg)(op:Cp):R2:=λv u H Q=>∃ι M x y b,m8 nm K ι H M/\Rep K ι H x v/\Rep K ι H y u/\MW.Et op x y M=some b/\Q (.bl b) H
def ady{X:Cx}:∀σ H Q,tE nm W X.K (.cmp op' a' b') σ H Q->tOp (Vh nm X.K op') (tE nm W X.K a') (tE nm W X.K b') σ H Q:=fun σ H Q hh=>by obtain⟨ι,ρ,M,d,M',S,R,e,q⟩:=hh;rw[MW.atf] at e;obtain⟨x,M1,e1,e⟩:=gh e;obtain⟨y,M2,e2,e⟩:=gh e;obtain⟨e,rfl⟩:=yr e;obtain⟨b,e3,rfl⟩:=bx.mp e;exact two S R e1 e2 fun ι2 H2 v u le S2 _ rv ru=>⟨ι2,M',x,y,b,S2,rv,ru,e3,q ι2 H2 _ le S2 (.bl b)⟩
def a8t(ho:Cz X (compareOp op) (Vh nm X.K op'))(ha:PE X a (tE nm W X.K a'))(hb:PE X b (tE nm W X.K b'))(hm:behindInMarks op b=false):PE X (.Compare a [op] [b] pos) (tE nm W X.K (.cmp op' a' b')) :=
 PE.weak (aum ho ha hb hm) ady
def a8u(ho:Cz X (compareOp op) (Vh nm X.K op'))(ha:PE X a (tE nm W X.K a'))(hb:PE X b (tE nm W X.K b'))(hm:behindInMarks op b=false):PT X (.Compare a [op] [b] pos) (tQ nm W X.K (.cmp op' a' b')) :=
 au8 (t:=tOp (Vh nm X.K op') (tE nm W X.K a') (tE nm W X.K b')) (aun ho ha hb hm) ady
def Wm{X:Cx}:∀σ H Q,tE nm W X.K (.chain op1 op2 a' b' c') σ H Q->aaz (Vh nm X.K op1) (Vh nm X.K op2) (tE nm W X.K a') (tE nm W X.K b') (tE nm W X.K c') σ H Q:=fun σ H Q hh=>by
 obtain⟨ι,ρ,M,d,M',S,R,e,q⟩:=hh;rw[MW.ajz] at e;obtain⟨x,M1,e1,e⟩:=gh e;obtain⟨y,M2,e2,e⟩:=gh e;obtain⟨k,M2',e3,e⟩:=gh e;obtain⟨e3,rfl⟩:=yr e3;refine two S R e1 e2 fun ι2 H2 v u le S2 R2 rv ru=>⟨ι2,M2',x,y,k,S2,rv,ru,e3,k,rfl,?_⟩
 cases k with
 |false =>
  have e:Res.ok (MW.D.bl false) M2'=.ok d M':=e;cases e;exact q ι2 H2 _ le S2 (.bl false)
 |true =>
  have e:((c'.den W ρ M2').bind λz M3=>Res.vg ((MW.Et op2 y z M3).map MW.D.bl) M3)=.ok d M':=e;obtain⟨z,M3,e4,e⟩:=gh e;obtain⟨e,rfl⟩:=yr e;obtain⟨b,e5,rfl⟩:=bx.mp e;show tE nm W X.K c' σ H2 _;exact one S2 R2 e4 fun ι3 H3 w Ze S3 _ rw=>⟨ι3,M',y,z,b,S3,ru.mono Ze,rw,e5,q ι3 H3 _ (le.trans Ze) S3 (.bl b)⟩
def au9(h1:Cz X (compareOp o1) (Vh nm X.K op1))(h2:Cz X (compareOp o2) (Vh nm X.K op2))(ha:PE X a (tE nm W X.K a'))(hb:PE X b (tE nm W X.K b'))(hc:PE X c (tE nm W X.K c'))(hm:lastMarks [o1,o2] [b,c]=false) :
 PE X (.Compare a [o1,o2] [b,c] pos) (tE nm W X.K (.chain op1 op2 a' b' c')):=PE.weak (aoq h1 h2 ha hb hc hm) Wm
def ava(h1:Cz X (compareOp o1) (Vh nm X.K op1))(h2:Cz X (compareOp o2) (Vh nm X.K op2))(ha:PE X a (tE nm W X.K a'))(hb:PE X b (tE nm W X.K b'))(hc:PE X c (tE nm W X.K c'))(hm:lastMarks [o1,o2] [b,c]=false) :
 PT X (.Compare a [o1,o2] [b,c] pos) (tQ nm W X.K (.chain op1 op2 a' b' c')):=au8 (t:=aaz (Vh nm X.K op1) (Vh nm X.K op2) (tE nm W X.K a') (tE nm W X.K b') (tE nm W X.K c')) (aor h1 h2 ha hb hc hm) Wm
def aba(h:Cz X (compareOp op) (rI0 λi j=>.bl (f i j)))(e:∀x y M,MW.Et op' x y M=MW.aci f x y):Cz X (compareOp op) (Vh nm X.K op') :=
 Cz.weak h λv u H Q hh=>by obtain⟨ι,M,x,y,b,S,rv,ru,e',q⟩:=hh;rw[e] at e';obtain⟨i,j,rfl,rfl,e2⟩:=MW.aaa e' (by intro z;cases z);cases rv;cases ru;cases e2;exact⟨_,_,rfl,rfl,q⟩
def be1:Cz X (compareOp .Lt) (Vh nm X.K .lt):=aba a7o λ_ _ _=>rfl
def be2:Cz X (compareOp .LtE) (Vh nm X.K .le):=aba a7p λ_ _ _=>rfl
def be3:Cz X (compareOp .Gt) (Vh nm X.K .gt):=aba a7q λ_ _ _=>rfl
def be4:Cz X (compareOp .GtE) (Vh nm X.K .ge):=aba a7r λ_ _ _=>rfl
set_option tactic.hygienic true in
def aya{rest:Ya}(ha:PE X a (tE nm W X.K a'))(hb:PE X (.BoolOp .And (b::rest) pos) (tE nm W X.K b')):PE X (.BoolOp .And (a::b::rest) pos) (tE nm W X.K (.and a' b')) :=
 PE.of (a0h ha hb) fun σ H Q ι ρ M d M' S R e q=>by
  rw[MW.ahd] at e;obtain⟨x,M1,e1,e⟩:=gh e;refine one S R e1 fun ι1 H1 v le S1 R1 r=>?_
  cases r<;>try cases e
  rename_i k;refine⟨k,rfl,?_⟩;cases k with
  |false=>cases e;exact q ι1 H1 _ le S1 (.bl false)|true=>exact one S1 R1 e fun ι2 H2 w Ak S2 _ r2=>q ι2 H2 w (le.trans Ak) S2 r2
set_option tactic.hygienic true in
def a8v{rest:Ya}(ha:PE X a (tE nm W X.K a'))(hb:PE X (.BoolOp .Or (b::rest) pos) (tE nm W X.K b')):PE X (.BoolOp .Or (a::b::rest) pos) (tE nm W X.K (.or a' b')) :=
 PE.of (a68 ha hb) fun σ H Q ι ρ M d M' S R e q=>by
  rw[MW.amy] at e;obtain⟨x,M1,e1,e⟩:=gh e;refine one S R e1 fun ι1 H1 v le S1 R1 r=>?_
  cases r<;>try cases e
  rename_i k;refine⟨k,rfl,?_⟩;cases k with
  |true=>cases e;exact q ι1 H1 _ le S1 (.bl true)|false=>exact one S1 R1 e fun ι2 H2 w Ak S2 _ r2=>q ι2 H2 w (le.trans Ak) S2 r2
def a8w(ha:PE X a (tE nm W X.K a')):PE X (.UnaryOp .Not a pos) (tE nm W X.K (.not a')) :=
 PE.of (a0i ha) fun σ H Q ι ρ M d M' S R e q=>by
  rw[MW.ahe] at e;obtain⟨x,M1,e1,e⟩:=gh e;refine one S R e1 fun ι1 H1 v le S1 R1 r=>?_
  cases r<;>try cases e
  exact⟨_,rfl,q ι1 H1 _ le S1 (.bl _)⟩
def X8{X:Cx}{M1:dh}(S:m8 nm X.K ι H M)(R:u5 X.K ι H ρ σ)(ha:a'.den W ρ M=.ok (.bl k) M1)(h:∀ι1 H1,Le ι H ι1 H1->m8 nm X.K ι1 H1 M1->u5 X.K ι1 H1 ρ σ->G k H1):tQ nm W X.K a' σ H G :=
 ⟨ι,ρ,M,k,M1,S,R,ha,fun ι' H' le S'=>h ι' H' le S' (R.mono le)⟩
set_option tactic.hygienic true in
def ayb{rest:Ya}(ha:PT X a (tQ nm W X.K a'))(hb:PW X (.BoolOp .And (b::rest) pos) (tQ nm W X.K b')):PW X (.BoolOp .And (a::b::rest) pos) (tQ nm W X.K (.and a' b')) :=
 λwhole pins s σ H Q I ⟨ι,ρ,M,d,M',S,R,e,q⟩=>a0f ha hb whole pins s σ H Q I (by
  rw[MW.ahd] at e;obtain⟨x,M1,e1,e⟩:=gh e;cases x<;>try cases e
  rename_i k;refine X8 S R e1 fun ι1 H1 le S1 R1=>?_
  cases k with
  | false=>cases e;exact q ι1 H1 le S1|true=>exact X8 S1 R1 e fun ι2 H2 Ak S2 _=>q ι2 H2 (le.trans Ak) S2)
set_option tactic.hygienic true in
def a8x{rest:Ya}(ha:PT X a (tQ nm W X.K a'))(hb:PW X (.BoolOp .Or (b::rest) pos) (tQ nm W X.K b')):PW X (.BoolOp .Or (a::b::rest) pos) (tQ nm W X.K (.or a' b')) :=
 λwhole pins s σ H Q I ⟨ι,ρ,M,d,M',S,R,e,q⟩=>a65 ha hb whole pins s σ H Q I (by
  rw[MW.amy] at e;obtain⟨x,M1,e1,e⟩:=gh e;cases x<;>try cases e
  rename_i k;refine X8 S R e1 fun ι1 H1 le S1 R1=>?_
  cases k with
  | true=>cases e;exact q ι1 H1 le S1|false=>exact X8 S1 R1 e fun ι2 H2 Ak S2 _=>q ι2 H2 (le.trans Ak) S2)
def a8y(ha:PT X a (tQ nm W X.K a')):PT X (.UnaryOp .Not a pos) (tQ nm W X.K (.not a')) :=
 PT.of (a0g ha) fun σ H Q ι ρ M d M' S R e q=>by
  rw[MW.ahe] at e;obtain⟨x,M1,e1,e⟩:=gh e;cases x<;>try cases e
  exact X8 S R e1 fun ι1 H1 le S1 R1=>q ι1 H1 le S1
set_option tactic.hygienic true in
def a8z(hc:PT X c (tQ nm W X.K c'))(ha:PE X a (tE nm W X.K a'))(hb:PE X b (tE nm W X.K b')):PE X (.IfExp c a b pos) (tE nm W X.K (.ite c' a' b')) :=
 PE.of (aog hc ha hb) fun σ H Q ι ρ M d M' S R e q=>by
  rw[MW.atg] at e;obtain⟨x,M1,e1,e⟩:=gh e;cases x<;>try cases e
  rename_i k;refine X8 S R e1 fun ι1 H1 le S1 R1=>?_
  cases k with
  |true=>exact one S1 R1 e fun ι2 H2 w Ak S2 _ r2=>q ι2 H2 w (le.trans Ak) S2 r2
  |false=>exact one S1 R1 e fun ι2 H2 w Ak S2 _ r2=>q ι2 H2 w (le.trans Ak) S2 r2
def Um:PA X [] (Wj nm W X.K .nil):=PA.of a03 fun σ H Q ι ρ M ds M' S R e q=>by rw[MW.Q4] at e;cases e;exact q ι H _ (Le.refl _ _) S .nil
def Wn{X:Cx}{M1:dh}(S:m8 nm X.K ι H M)(R:u5 X.K ι H ρ σ)(ha:es'.den W ρ M=.ok ds M1)(h:∀ι1 H1 vs,Le ι H ι1 H1->m8 nm X.K ι1 H1 M1->u5 X.K ι1 H1 ρ σ->m6 X.K ι1 H1 ds vs->G vs H1):Wj nm W X.K es' σ H G :=
 ⟨ι,ρ,M,ds,M1,S,R,ha,fun ι' H' v le S' r=>h ι' H' v le S' (R.mono le) r⟩
def Oh(ha:PE X a (tE nm W X.K a'))(hr:PA X es (Wj nm W X.K es'))(hs:starEach (a::es) X.env=(false,eval a X.env)::starEach es X.env):PA X (a::es) (Wj nm W X.K (.cons a' es')) :=
 PA.of (auq ha hr hs) fun σ H Q ι ρ M ds M' S R e q=>by rw[MW.J0] at e;obtain⟨x,M1,e1,e⟩:=gh e;obtain⟨xs,M2,e2,e⟩:=gh e;cases e;exact one S R e1 fun ι1 H1 v le S1 R1 r1=>Wn S1 R1 e2 fun ι2 H2 vs Ak S2 R2 r2=>q ι2 H2 _ (le.trans Ak) S2 (.cons (r1.mono Ak) r2)
noncomputable def Cr.len:Cr->Nat
 |.nil=>0|.cons _ r=>Cr.len r+1
theorem Gh{W:Jp}:∀{es':Cr}{ρ:En}{M M1:dh}{ds:List Dv},es'.den W ρ M=.ok ds M1->ds.length=Cr.len es'
 |.nil,_,_,_,_,e=>by rw[MW.Q4] at e;cases e;rfl
 |.cons _ r,_,_,_,_,e=>by
  rw[MW.J0] at e;obtain⟨x,M1,e1,e⟩:=gh e;obtain⟨xs,M2,e2,e⟩:=gh e;cases e;rw[gw,Gh e2];rfl
def a80(h:PA X es (Wj nm W X.K es'))(hl:Cr.len es'<=1000):PE X (.Tuple es k pos) (tE nm W X.K (.tup es')) :=
 PE.of (a04 h) fun σ H Q ι ρ M d M' S R e q=>by
  rw[MW.ahf] at e;obtain⟨ds,M1,e1,e⟩:=gh e;cases e;refine Wn S R e1 fun ι1 H1 vs le S1 R1 r=>⟨?_,λp hp=>?_⟩
  . rw[<- r.length,Gh e1];exact gn hl (by decide)
  . obtain⟨S2,Ak,r2⟩:=O2 S1 hp r
    exact q ι1 _ _ (le.trans Ak) S2 r2
def a1k(h:PA X es (Wj nm W X.K es'))(hl:Cr.len es'<=1000):PE X (.List es pos) (tE nm W X.K (.Hb es')) :=
 PE.of (aou h) fun σ H Q ι ρ M d M' S R e q=>by
  rw[MW.amz] at e;obtain⟨ds,M1,e1,e⟩:=gh e;cases e;refine Wn S R e1 fun ι1 H1 vs le S1 R1 r=>⟨?_,λp hp=>?_⟩
  . rw[<- r.length,Gh e1];exact gn hl (by decide)
  . obtain⟨S2,Ak,r2⟩:=aa8 S1 hp r
    exact q ι1 _ _ (le.trans Ak) S2 r2
def a81(h:PA X es (Wj nm W X.K es'))(hl:Cr.len es'<=1000):PE X (.List es pos) (tE nm W X.K (.lst es')) :=
 PE.of (aou h) fun σ H Q ι ρ M d M' S R e q=>by
  rw[MW.ath] at e;obtain⟨ds,M1,e1,e⟩:=gh e;cases e;refine Wn S R e1 fun ι1 H1 vs le S1 R1 r=>⟨?_,λp hp=>?_⟩
  . rw[<- r.length,Gh e1];exact gn hl (by decide)
  . obtain⟨S2,Ak,r2⟩:=aa9 S1 hp r
    exact q _ _ _ (le.trans Ak) S2 r2
def a82(ha:PE X a (tE nm W X.K a')):PE X (.UnaryOp .USub a pos) (tE nm W X.K (.neg a')) :=
 PE.of (a7k a0z ha) fun σ H Q ι ρ M d M' S R e q=>by
  rw[MW.ate] at e;obtain⟨x,M1,e1,e⟩:=gh e;refine one S R e1 fun ι1 H1 v le S1 R1 r=>?_
  cases r<;>try cases e
  exact⟨_,rfl,q ι1 H1 _ le S1 (.int _)⟩
open PyProof.Rows (subscriptTail)
section
variable{κ:Type}[DecidableEq κ]{K:Fg}{ι:Io}{H:Hp}
theorem uc.length{κ κ':Type}{f:κ->κ'->Prop}:∀{l:List (κ×Dv)}{l':List (κ'×V)},uc K ι H f l l'->l.length=l'.length
 |_,_,.nil=>rfl|_,_,.cons _ _ t=>by rw[gw,gw,uc.length t]
theorem uc.look{k:κ}:∀{ie:List (κ×Dv)}{l:List (κ×V)},uc K ι H (λk k'=>k=k') ie l->(∀d,MW.vq ie k=some d->∃v,Ri l k=some v/\Rep K ι H d v)/\(MW.vq ie k=none->Ri l k=none)
 |_,_,.nil=>⟨λd h=>by simp[MW.vq] at h,λ_=>rfl⟩
 |_,_,.cons (k:=q) (k':=q') hk h t=>by
  subst hk;obtain⟨a,b⟩:=uc.look (k:=k) t
  by_cases e:q=k
  . refine⟨λd hd=>?_,λhd=>?_⟩
    . simp[MW.vq,rm,e] at hd
      subst hd;exact⟨_,Rj e,h⟩
    . simp[MW.vq,rm,e] at hd
  . have z:∀(d:Dv) r,MW.vq ((q,d)::r) k=MW.vq r k:=λd r=>by simp[MW.vq,rm,e]
    rw[z,Rk (by exact e)];exact⟨a,b⟩
theorem uc.any{k:κ}:∀{ie:List (κ×Dv)}{l:List (κ×V)},uc K ι H (λk k'=>k=k') ie l->(ie.any λkv=>decide (kv.1=k))=(l.any λkv=>decide (kv.1=k))
 |_,_,.nil=>rfl|_,_,.cons hk h t=>by subst hk;simp only[List.any_cons,uc.any t]
theorem uc.Ib{k:κ}{d:Dv}{v:V}(r:Rep K ι H d v):∀{ie:List (κ×Dv)}{l:List (κ×V)},uc K ι H (λk k'=>k=k') ie l ->
 uc K ι H (λk k'=>k=k') (ie.map λkv=>if kv.1=k then(kv.1,d) else kv) (l.map λkv=>if kv.1=k then(kv.1,v) else kv)
 |_,_,.nil=>.nil
 |_,_,.cons (k:=q) hk h t=>by
  subst hk;simp only[gq]
  by_cases e:q=k
  . simp only[e,jx];exact .cons rfl r (uc.Ib r t)
  . simp only[e,ji];exact .cons rfl h (uc.Ib r t)
theorem uc.snoc{κ κ':Type}{f:κ->κ'->Prop}{k:κ}{k':κ'}{d:Dv}{v:V}(hk:f k k')(r:Rep K ι H d v):∀{l:List (κ×Dv)}{l':List (κ'×V)},uc K ι H f l l'->uc K ι H f (l++[(k,d)]) (l'++[(k',v)])
 |_,_,.nil=>.cons hk r .nil|_,_,.cons q h t=>.cons q h (uc.snoc hk r t)
def uc.put{k:κ}(r:Rep K ι H d v)(t:uc K ι H (λk k'=>k=k') ie l):uc K ι H (λk k'=>k=k') (MW.Cu ie k d) (putK l k v):=by
 unfold MW.Cu putK;rw[t.any (k:=k)]
 by_cases e:(l.any λkv=>decide (kv.1=k))=true
 . rw[cz e,cz e];exact t.Ib r
 . rw[bw e,bw e];exact t.snoc rfl r
theorem uc.fld{nm:Nm}{f:Nat}:∀{fs:List (Nat×Dv)}{l:List (Str×V)},uc K ι H (λk k'=>k'=nm.fld k) fs l->(∀d,fs.lookup f=some d->∃v,l.lookup (nm.fld f)=some v/\Rep K ι H d v)/\(fs.lookup f=none->l.lookup (nm.fld f)=none)
 |_,_,.nil=>⟨λd h=>by simp at h,λ_=>rfl⟩
 |_,_,.cons (k:=q) (k':=q') hk h t=>by
  subst hk;obtain⟨a,b⟩:=uc.fld (nm:=nm) (f:=f) t;rw[o6,o6]
  by_cases e:f=q
  . subst e
    simp only[zg];exact⟨λd hd=>by cases hd;exact⟨_,rfl,h⟩,λhd=>by cases hd⟩
  . have e1:(f==q)=false:=by simpa using e
    have e2:(nm.fld f==nm.fld q)=false:=by
     cases z:nm.fld f==nm.fld q with
     |false=>rfl|true=>exact absurd (nm.inj _ _ (eq_of_beq z)) e
    rw[e1,e2];exact⟨a,b⟩
theorem uc.Ip{nm:Nm}{f:Nat}{d:Dv}{v:V}(r:Rep K ι H d v):∀{fs:List (Nat×Dv)}{l:List (Str×V)},uc K ι H (λk k'=>k'=nm.fld k) fs l->uc K ι H (λk k'=>k'=nm.fld k) (MW.Tz f d fs) (L2.Ip (nm.fld f) v l)
 |_,_,.nil=>.cons rfl r .nil
 |_,_,.cons (k:=q) (k':=q') hk h t=>by
  subst hk;unfold MW.Tz L2.Ip
  by_cases e:q=f
  . subst e
    simp only[jx];exact .cons rfl r t
  . have e2:¬nm.fld q=nm.fld f:=λz=>e (nm.inj _ _ z)
    rw[bw e,bw e2];exact .cons rfl h (uc.Ip r t)
def Ti(r:Rep K ι H d v)(h:MW.Sq d=some k):v=kV k:=by cases r<;>simp[MW.Sq] at h<;>subst h<;>rfl
set_option tactic.hygienic true in
theorem api:∀{ds:List Dv}{vs:List V}{ks:List Kx},m6 K ι H ds vs->MW.Z9 ds=some ks->vs=ks.map kV
 |_,_,_,.nil,h=>by simp[MW.Z9] at h;subst h;rfl
 |_,_,_,.cons r t,h=>by
  simp only[MW.Z9] at h;split at h
  . rename_i k ks' h1 h2
    cases h;rw[Ti r h1,api t h2];rfl
  . cases h
def Wo(r:Rep K ι H d v)(h:MW.Ux d=some ks):∃b,v=.ref b/\H b=some (.tup (ks.map kV)):=by
 cases r with
 |tup e r=>exact⟨_,rfl,by rw[<- api r h];exact e⟩|_=>simp[MW.Ux] at h
end
def be5(nm:Nm)(K:Fg):R2:=λv u H Q=>∃ι M x y d,m8 nm K ι H M/\Rep K ι H x v/\Rep K ι H y u/\MW.yu x y M=some d/\∀w,Rep K ι H d w->Q w H
def apj(hu:X.A.units+1<cLine):IxR X (λx y H Q=>∃a v,x=.ref a/\Od H a y (some v)/\Q v H):=by intro value slice pins s σ H x y v u Q I rx ry h hs;obtain⟨p,z,rfl,g,q⟩:=h;cases rx;exact PyProof.Rows.tail_any (adl I g) PySem.F.slot_dict_getitem.lookup (akp hu I g ry λw' s' I' r=>⟨z,H,I',r,q⟩) hs
set_option tactic.hygienic true in
def a1l(hu:X.A.units+1<cLine):IxR X (be5 nm X.K):=by
 intro value slice pins s σ H v u v' u' Q I rv ru ⟨ι,M,x,y,d,S,rx,ry,e,q⟩ hs;have seq:∀(p:Addr)(vs:List V)(ds:List Dv),v=.ref p->(Ia X.K H p vs\/Jh X.K H p vs)->m6 X.K ι H ds vs->(match y with|.int i=>(MW.Uy ds.length i).bind λj=>ds[j]?|_=>none)=some d ->
  wpAny (model X.prog X.w) X.A (subscriptTail value slice v' u') (EP X pins σ Q) X.xe s:=λp vs ds hv hq r e=>by
  subst hv;obtain⟨i,hyi⟩:∃i,y=.int i:=by cases y<;>first|exact⟨_,rfl⟩|cases e
  subst hyi;cases ry;obtain⟨j,e1,e2⟩:=dq.mp e;obtain⟨z,h1,h2⟩:=r.get e2;have hat:atI vs i=some z:=by unfold atI;rw[show ixN vs.length i=some j from by rw[<- r.length];exact e1];exact h1
  rcases hq with hq|hq
  . exact L2.Cj value slice pins s σ H _ _ v' u' Q I rv ru ⟨p,vs,i,z,rfl,rfl,hq,hat,q z h2⟩ hs
  . exact L2.Jq value slice pins s σ H _ _ v' u' Q I rv ru ⟨p,vs,i,z,rfl,rfl,hq,hat,q z h2⟩ hs
 cases rx with
 |tup e1 r1=>exact seq _ _ _ rfl (.inr (Jh.of e1)) r1 (by cases ry<;>first|exact e|(simp[MW.yu,MW.Bq] at e))
 |vl e1 n1 r1=>exact seq _ _ _ rfl (.inl (Ia.of e1)) r1 (by cases ry<;>first|exact e|(simp[MW.yu,MW.Bq,MW.fc] at e))
 |fz e1 r1=>exact seq _ _ _ rfl (.inl e1.sq) r1 (by cases ry<;>first|exact e|(simp[MW.yu] at e))
 |ref e1 =>
  rename_i n p;simp only[MW.yu] at e;split at e
  . rename_i ie hn
    obtain⟨l,h1,h2⟩:=S.obj n _ p hn e1;obtain⟨k,e2,e3⟩:=dq.mp e;obtain⟨z,h3,h4⟩:=(h2.look (k:=k)).1 d e3;obtain⟨b,rfl,hb⟩:=Wo ry e2;exact apj hu value slice pins s σ H _ _ v' u' Q I rv ru ⟨p,z,rfl,by rw[<- h3];exact Od.t h1 hb,q z h4⟩ hs
  . rename_i ie hn
    obtain⟨l,h1,h2⟩:=S.obj n _ p hn e1;obtain⟨k,e2,e3⟩:=dq.mp e;obtain⟨z,h3,h4⟩:=(h2.look (k:=k)).1 d e3;have hy:=Ti ry e2;subst hy;exact apj hu value slice pins s σ H _ _ v' u' Q I rv ru ⟨p,z,rfl,by rw[<- h3];exact Od.k h1,q z h4⟩ hs
  . cases hl:MW.fc M (.ref n) with
    |none=>rw[hl] at e;cases e
    |some ds =>
     obtain⟨p',vs,hp,h1,h2⟩:=t7 S (.ref e1) hl;cases hp;rw[hl] at e;exact seq _ _ _ rfl (.inl (Ia.of h1)) h2 (by cases ry<;>first|exact e|cases e)
 |_=>simp[MW.yu,MW.Bq,MW.fc] at e
def be6(hu:X.A.units+1<cLine)(ha:PE X a (tE nm W X.K a'))(hb:PE X b (tE nm W X.K b'))(hs:aa1 b):PE X (.Subscript a b pos) (tE nm W X.K (.ix a' b')) :=
 PE.of (a75 (a1l (nm:=nm) hu) ha hb hs) fun σ H Q ι ρ M d M' S R e q=>by rw[MW.azd] at e;obtain⟨x,M1,e1,e⟩:=gh e;obtain⟨y,M2,e2,e⟩:=gh e;obtain⟨e,rfl⟩:=yr e;exact two S R e1 e2 fun ι2 H2 v u le S2 _ rv ru=>⟨ι2,M',x,y,d,S2,rv,ru,e,λw r=>q ι2 H2 w le S2 r⟩
set_option tactic.hygienic true in
def a83(hn:n=nm.fld f)(hcl:∀c C,nm.cls c=some C->Cls X.K C/\Gy X.K C n)(ha:PE X a (tE nm W X.K a'))(hb:attributeBase a n X.env (eval a X.env)=eval a X.env):PE X (.Attribute a n pos) (tE nm W X.K (.fld a' f)) :=
 PE.of (a01 ha hb) fun σ H Q ι ρ M d M' S R e q=>by
  rw[MW.atj] at e;obtain⟨x,M1,e1,e⟩:=gh e;obtain⟨e,rfl⟩:=yr e;refine one S R e1 fun ι1 H1 v le S1 R1 r=>?_
  obtain⟨m,hxm⟩:∃m,x=.ref m:=by cases x<;>first|exact⟨_,rfl⟩|cases e
  subst hxm;obtain⟨p,rfl,hp⟩:∃p,v=.ref p/\ι1.l[m]?=some p:=by cases r with|ref z=>exact⟨_,rfl,z⟩
  simp only[MW.Qy] at e;split at e
  . rename_i c fs hm
    obtain⟨C,dx,l,h1,h2,h3⟩:=S1.obj m _ p hm hp;obtain⟨z,h4,h5⟩:=(h3.fld (nm:=nm) (f:=f)).1 d e;subst hn;obtain⟨g1,g2⟩:=hcl c C h1;exact⟨p,C,dx,l,z,rfl,h2,g1,g2,h4,q ι1 H1 z le S1 h5⟩
  . cases e
open MW (Ex Cr OEx Ow By o7 Lv Tg Res dh MO Jp Cp Op2 Blt Bm Kx Src)
noncomputable def Tj:Expr->Bool
 |.ListComp ..=>false|.SetComp ..=>false|.DictComp ..=>false|_=>true
def Oi(h:Tj e=true)(t:Option Expr)(l:Nat)(env:Env):swapsWith e t l env=pure false:=by cases e<;>first|rfl|(cases h)
noncomputable def G3:Expr->Bool
 |.Set ..=>false|_=>true
def Ej(h:G3 e=true)(env:Env)(x:Value):foldedSetIterable e env x=pure x:=by cases e<;>first|rfl|(cases h)
def Uo(h:G3 e=true)(op:CmpOp):behindInMarks op e=false:=by cases e<;>first|rfl|(cases h)
noncomputable def ayc:Expr->Bool
 |.Tuple ..=>false|_=>true
noncomputable def noStar:Expr->Bool
 |.Starred ..=>false|_=>true
def o5(h:noStar e=true)(es:Ya)(env:Env):starEach (e::es) env=(false,eval e env)::starEach es env:=by cases e<;>first|rfl|(cases h)
noncomputable def abb:Expr->Bool
 |.Slice ..=>false|_=>true
def apk(h:abb e=true):aa1 e:=by intro o i;cases e<;>first|rfl|(cases h)
noncomputable def Bv:Tg->List Nat
 |.name i=>[i]|.names is=>is
def tGt(nm:Nm)(K:Fg)(t:Tg):TG:=λv σ H Q=>∃ι ρ M d ρ',m8 nm K ι H M/\u5 K ι H ρ σ/\Rep K ι H d v/\t.put d ρ=some ρ'/\∀σ',u5 K ι H ρ' σ'->σ'.length=σ.length->(∀j,j∉Bv t->σ'[j]?=σ[j]?)->Q σ' H
def PG.weak(h:PG X tg t)(w:∀v σ H Q,t' v σ H Q->t v σ H Q):PG X tg t':=λpins s σ H v u Q I r q=>h pins s σ H v u Q I r (w v σ H Q q)
def PG.of(h:PG X tg t)(w:∀v σ H Q ι ρ M d ρ',m8 nm X.K ι H M->u5 X.K ι H ρ σ->Rep X.K ι H d v->tt.put d ρ=some ρ'->(∀σ',u5 X.K ι H ρ' σ'->σ'.length=σ.length->(∀j,j∉Bv tt->σ'[j]?=σ[j]?)->Q σ' H)->t v σ H Q):PG X tg (tGt nm X.K tt) :=
 PG.weak h λv σ H Q z_=>by obtain⟨ι,ρ,M,d,ρ',S,R,r,e,q⟩:=z_;exact w v σ H Q ι ρ M d ρ' S R r e q
def a1m(hN:X.N.Nodup)(hi:X.N[i]?=some n)(hx:Loc X.env.scope n)(hf:X.fn n=true\/X.env.scope.names.lookup n=some .local):PG X (.Name n pos) (tGt nm X.K (.name i)) :=
 PG.of (aay hN hi hx hf) λv σ H Q ι ρ M d ρ' S R r e q=>by cases e;exact q _ (R.set r i) (by simp) λj hj=>uy (λz=>hj (by simp[Bv,z]))
noncomputable def Lf:List Nat->List V->St->St
 |i::is,v::vs,σ=>Lf is vs (σ.set i (some v))|_,_,σ=>σ
theorem Wq{ι:Io}{H:Hp}{K:Fg}:∀{is:Y3}{ds:List Dv}{vs:List V}{ρ:En}{σ:St},u5 K ι H ρ σ->m6 K ι H ds vs->u5 K ι H (MW.Jo is ds ρ) (Lf is vs σ)
 |[],_,_,_,_,R,r=>by cases r<;>exact R|_::_,_,_,_,_,R,.nil=>R|i::is,_,_,_,_,R,.cons h t=>Wq (is:=is) (R.set h i) t
theorem Rm:∀{is:Y3}{vs:List V}{σ:St}{j:Nat},j∉is->(Lf is vs σ)[j]?=σ[j]?
 |[],vs,σ,j,_=>by cases vs<;>rfl|i::is,[],σ,j,_=>rfl
 |i::is,v::vs,σ,j,h=>by
  show(Lf is vs (σ.set i (some v)))[j]?=_;rw[Rm (λz=>h (bc _ z)),uy (λz=>h (by rw[z];exact di))]
theorem Uq:∀{is:Y3}{vs:List V}{σ:St},(Lf is vs σ).length=σ.length
 |[],vs,σ=>by cases vs<;>rfl|_::_,[],σ=>rfl|i::is,v::vs,σ=>by show(Lf is vs (σ.set i (some v))).length=_;rw[Uq,List.length_set]
inductive Lg(X:Cx):List Expr->List Nat->Prop
 |nil:Lg X [] []
 |cons {n:Str} {p:Pos} {i:Nat} {ts:Ya} {is:Y3} (hi:X.N[i]?=some n) (hx:Loc X.env.scope n) (hf:X.fn n=true\/X.env.scope.names.lookup n=some .local) (t:Lg X ts is):Lg X (.Name n p::ts) (i::is)
theorem adz{X:Cx}(hN:X.N.Nodup):∀{ts:Ya}{is:Y3},Lg X ts is->PGs X ts (λvs σ H Q=>vs.length=is.length/\Q (Lf is vs σ) H)
 |_,_,.nil=>λpins s σ H vs us Q I r q=>by
  obtain⟨h1,h2⟩:=q;have hv:vs=[]:=za.mp h1;subst hv;exact auh pins s σ H [] us Q I r ⟨rfl,h2⟩
 |_,_,.cons hi hx hf t=>λpins s σ H vs us Q I r q=>by
  obtain⟨h1,h2⟩:=q;cases vs with
  |nil=>simp at h1|cons v vs=>exact aoj (aay hN hi hx hf) (adz hN t) (by rfl) pins s σ H (v::vs) us Q I r ⟨v,vs,rfl,by simpa using h1,h2⟩
theorem Fp{X:Cx}{env:Env}:∀{ts:Ya}{is:Y3},Lg X ts is->(assignEach ts env).length=is.length/\(assignEach ts env).findIdx? (·.1)=none
 |_,_,.nil=>⟨rfl,rfl⟩
 |_,_,.cons hi hx hf t=>by
  obtain⟨g1,g2⟩:=Fp (env:=env) t;refine⟨by simp[assignEach,g1],?_⟩;simp[assignEach,List.findIdx?_cons];simpa using g2
set_option tactic.hygienic true in
def avb(hc:X.calm=true)(hN:X.N.Nodup)(h:Lg X ts is):PG X (.Tuple ts k pos) (tGt nm X.K (.names is)) :=
 PG.of (a0n hc (adz hN h) (Fp h).1 (Fp h).2) λv σ H Q ι ρ M d ρ' S R r e q=>by
  cases r with
  |tup e1 r1 =>
   simp only[Tg.put] at e;split at e<;>cases e;rename_i hl;exact⟨_,_,rfl,Jh.of e1,by rw[<- r1.length];exact hl,by rw[<- r1.length];exact hl,q _ (Wq R r1) Uq λj hj=>Rm hj⟩
  |_=>simp[Tg.put] at e
def apl(he:PE X a (tE nm W X.K a'))(hg:PG X tg (tGt nm X.K t))(hs:swapsWithSole [tg] a pos.line X.env=pure false)(hw:swappedStores [tg] a X.env=pure none)(h1:(assignEach [tg] X.env).map (·.2)=[assign tg X.env]) :
 PS X (.Assign [tg] a pos) (tS nm W X.K (.asg (.tg t) a')) :=
 PS.of (aok he hg hs hw h1) λD σ H ι ρ M fl ρ' M' S R e q=>by rw[MW.aac] at e;obtain⟨x,M1,e1,e⟩:=gh e;obtain⟨ρ2,M2,e2,e⟩:=gh e;cases e;rw[MW.am7] at e2;obtain⟨e3,e4⟩:=yr e2;subst e4;exact one S R e1 fun ι1 H1 v le S1 R1 r=>⟨ι1,ρ,_,x,ρ',S1,R1,r,e3,fun σ' R' _ _=>q ι1 H1 σ' le S1 R'⟩
def a1n(he:PE X a (tE nm W X.K a'))(hs:swapsWith a none pos.line X.env=pure false):PS X (.Expr a pos) (tS nm W X.K (.expr a')) :=
 PS.of (auf he hs) λD σ H ι ρ M fl ρ' M' S R e q=>by rw[MW.atl] at e;obtain⟨x,M1,e1,e⟩:=gh e;cases e;exact one S R e1 fun ι1 H1 v le S1 R1 r=>q ι1 H1 σ le S1 R1
def a84(he:PE X a (tE nm W X.K a')):PS X (.Return (some a) pos) (tS nm W X.K (.ret a')) :=
 PS.of (a0k he) λD σ H ι ρ M fl ρ' M' S R e q=>by rw[MW.azg] at e;obtain⟨x,M1,e1,e⟩:=gh e;cases e;exact one S R e1 fun ι1 H1 v le S1 R1 r=>q ι1 H1 σ le S1 R1 v r
def a1o:PS X (.Pass pos) (tS nm W X.K .pass) :=
 PS.of aue λD σ H ι ρ M fl ρ' M' S R e q=>by rw[MW.atn] at e;cases e;exact q ι H σ (Le.refl _ _) S R
def a85:PS X (.Break pos) (tS nm W X.K .brk) :=
 PS.of aoi λD σ H ι ρ M fl ρ' M' S R e q=>by rw[MW.azh] at e;cases e;exact q ι H σ (Le.refl _ _) S R
def a1p:PS X (.Continue pos) (tS nm W X.K .cont) :=
 PS.of adh λD σ H ι ρ M fl ρ' M' S R e q=>by rw[MW.atm] at e;cases e;exact q ι H σ (Le.refl _ _) S R
def Wk.mono{X:Cx}(le:Le ι H ι' H')(q:Wk nm X.K D ι H fl ρ M):Wk nm X.K D ι' H' fl ρ M:=fun ι2 H2 σ2 Ak S2 R2=>q ι2 H2 σ2 (le.trans Ak) S2 R2
set_option tactic.hygienic true in
def a86(hc:PT X c (tQ nm W X.K c'))(ht:Rh X ts (tSs nm W X.K ts'))(hf:Rh X fs (tSs nm W X.K fs')):PS X (.If c ts fs pos) (tS nm W X.K (.iff c' ts' fs')) :=
 PS.of (a7c hc ht hf) λD σ H ι ρ M fl ρ' M' S R e q=>by
  rw[MW.azf] at e;obtain⟨x,M1,e1,e⟩:=gh e;cases x<;>try cases e
  rename_i k;refine X8 S R e1 fun ι1 H1 le S1 R1=>?_
  cases k with
  |true=>exact⟨ι1,ρ,M1,fl,ρ',M',S1,R1,e,q.mono le⟩|false=>exact⟨ι1,ρ,M1,fl,ρ',M',S1,R1,e,q.mono le⟩
def a1q:Rh X [] (tSs nm W X.K .nil):=Rh.of aud λD σ H ι ρ M fl ρ' M' S R e q=>by rw[MW.ato] at e;cases e;exact q ι H σ (Le.refl _ _) S R
def avc{rest:List Stmt}(h1:PS X st (tS nm W X.K st'))(h2:Rh X rest (tSs nm W X.K rest')):Rh X (st::rest) (tSs nm W X.K (.cons st' rest')) :=
 Rh.of (aoh h1 h2) λD σ H ι ρ M fl ρ' M' S R e q=>by
  rw[MW.am6] at e;obtain⟨⟨fl1,ρ1⟩,M1,e1,e⟩:=gh e;refine⟨ι,ρ,M,fl1,ρ1,M1,S,R,e1,fun ι1 H1 σ1 le S1 R1=>?_⟩;cases fl1 with
  |next=>exact⟨ι1,ρ1,M1,fl,ρ',M',S1,R1,e,q.mono le⟩|brk=>cases e;exact q ι1 H1 σ1 le S1 R1|cont=>cases e;exact q ι1 H1 σ1 le S1 R1|ret d=>cases e;exact q ι1 H1 σ1 le S1 R1
set_option tactic.hygienic true in
def a87(hp:PassesOwn (model X.prog X.w) X.A X.env X.xe)(hc:PT X c (tQ nm W X.K c'))(hb:Rh X body (tSs nm W X.K Wr)):PS X (.While c body [] pos) (tS nm W X.K (.whl c' Wr)) :=
 PS.of (aol hp hc hb) λD σ H ι ρ M fl ρ' M' S R e q=>by
  rw[MW.aad] at e;refine⟨λm σ1 H1=>∃ι1 ρ1 M1,Le ι H ι1 H1/\m8 nm X.K ι1 H1 M1/\u5 X.K ι1 H1 ρ1 σ1/\MW.Fy (c'.den W) (Wr.den W) m ρ1 M1=.ok (fl,ρ') M',⟨MW.afv,ι,ρ,M,Le.refl _ _,S,R,e⟩,?_⟩;rintro m σ1 H1 ⟨ι1,ρ1,M1,Vg,S1,R1,e1⟩;cases m with
  |zero=>cases e1
  |succ m =>
   simp only[MW.Fy] at e1;obtain⟨x,M2,e2,e1⟩:=gh e1;cases x<;>try cases e1
   rename_i k;refine X8 S1 R1 e2 fun ι2 H2 Ak S2 R2=>?_
   cases k with
   |false=>cases e1;exact q ι2 H2 σ1 (Vg.trans Ak) S2 R2
   |true =>
    obtain⟨⟨fl3,ρ3⟩,M3,e3,e1⟩:=gh e1;refine⟨fun σ4 H4=>∃ι4 ρ4 M4,Le ι H ι4 H4/\m8 nm X.K ι4 H4 M4/\u5 X.K ι4 H4 ρ4 σ4/\MW.Fy (c'.den W) (Wr.den W) m ρ4 M4=.ok (fl,ρ') M',fun σ4 H4 h4=>⟨m,p7 _,h4⟩,ι2,ρ1,M2,fl3,ρ3,M3,S2,R2,e3,fun ι4 H4 σ4 le4 S4 R4=>?_⟩;cases fl3 with
    |next=>exact⟨ι4,ρ3,M3,(Vg.trans Ak).trans le4,S4,R4,e1⟩|cont=>exact⟨ι4,ρ3,M3,(Vg.trans Ak).trans le4,S4,R4,e1⟩|brk=>cases e1;exact q ι4 H4 σ4 ((Vg.trans Ak).trans le4) S4 R4|ret d=>cases e1;exact q ι4 H4 σ4 ((Vg.trans Ak).trans le4) S4 R4
def apm(nm:Nm)(K:Fg)(ι:Io)(H:Hp)(s:Src)(J:It):Prop:=∀ι1 H1 M1,LeX ι H ι1 H1->m8 nm K ι1 H1 M1 ->
 (∀i d,i<s.len->s.item i M1=some d->J.go i H1/\∀v H2,J.yld i H1 v H2->Le ι1 H1 ι1 H2/\m8 nm K ι1 H2 M1/\Rep K ι1 H2 d v)/\(s.fin M1=true->J.stop s.len H1)
def tI(nm:Nm)(W:Jp)(K:Fg)(it:Ow):TI:=fun σ H R=>∃ι ρ M s M',m8 nm K ι H M/\u5 K ι H ρ σ/\it.den W ρ M=.ok s M'/\∀ι' H' J,Le ι H ι' H'->m8 nm K ι' H' M'->apm nm K ι' H' s J->R J H'
set_option tactic.hygienic true in
def a89(hp:PassesOwn (model X.prog X.w) X.A X.env X.xe)(hc:X.calm=true)(hi:PI X tg iter (tI nm W X.K it))(hg:PG X tg (tGt nm X.K t))(hb:Rh X body (tSs nm W X.K Wr))(hs:G3 iter=true):PS X (.For tg iter body [] pos) (tS nm W X.K (.for_ t it Wr)) :=
 PS.of (a0r hp hc hi hg hb (Ej hs X.env)) λD σ H ι ρ M fl ρ' M' S R e q=>by
  rw[MW.Ss] at e;obtain⟨s,M1,e1,e⟩:=gh e;refine⟨ι,ρ,M,s,M1,S,R,e1,fun ι1 H1 J Vg S1 sj=>?_⟩;refine⟨λi m σ2 H2=>m=s.len-i/\i<=s.len/\∃ι2 ρ2 M2,Le ι1 H1 ι2 H2/\m8 nm X.K ι2 H2 M2/\u5 X.K ι2 H2 ρ2 σ2/\MW.Bw s.fin s.item (λd ρ M=>match t.put d ρ with|some ρ'=>Wr.den W ρ' M|none=>.bad) m i ρ2 M2=.ok (fl,ρ') M',
   ⟨s.len,rfl,ju _,ι1,ρ,M1,Le.refl _ _,S1,R.mono Vg,e⟩,?_⟩
  rintro i m σ2 H2 ⟨hm,hil,ι2,ρ2,M2,Ak,S2,R2,e2⟩;obtain⟨go,stop⟩:=sj ι2 H2 M2 Ak.toX S2;cases m with
  |zero =>
   simp only[MW.Bw] at e2;split at e2<;>cases e2;rename_i Qi;have hi:i=s.len:=by lia
   subst hi;exact .inl ⟨stop Qi,q ι2 H2 σ2 (Vg.trans Ak) S2 R2⟩
  |succ m =>
   simp only[MW.Bw] at e2;split at e2
   . cases e2
   . rename_i d hd
     obtain⟨⟨fl3,ρ3⟩,M3,e3,e2⟩:=gh e2;obtain⟨g1,g2⟩:=go i d (by omega) hd;refine .inr ⟨g1,fun σ4 H4=>∃ι4 ρ4 M4,Le ι1 H1 ι4 H4/\m8 nm X.K ι4 H4 M4/\u5 X.K ι4 H4 ρ4 σ4/\MW.Bw s.fin s.item (λd ρ M=>match t.put d ρ with|some ρ'=>Wr.den W ρ' M|none=>.bad) m (i+1) ρ4 M4=.ok (fl,ρ') M',
      fun σ4 H4 ⟨ι4,ρ4,M4,h4⟩=>⟨m,p7 _,by omega,by omega,ι4,ρ4,M4,h4⟩,λv H3 yv=>?_⟩
     obtain⟨Ze,S3,r3⟩:=g2 v H3 yv;split at e3
     . rename_i ρ5 agl
       refine⟨ι2,ρ2,M2,d,ρ5,S3,R2.mono Ze,r3,agl,fun σ5 R5 _ _=>⟨ι2,ρ5,M2,fl3,ρ3,M3,S3,R5,e3,fun ι4 H4 σ4 le4 S4 R4=>?_⟩⟩;have leA:=(Ak.trans Ze).trans le4;cases fl3 with
       |next=>exact⟨ι4,ρ3,M3,leA,S4,R4,e2⟩|cont=>exact⟨ι4,ρ3,M3,leA,S4,R4,e2⟩|brk=>cases e2;exact q ι4 H4 σ4 (Vg.trans leA) S4 R4|ret d=>cases e2;exact q ι4 H4 σ4 (Vg.trans leA) S4 R4
     . cases e3
section
variable{nm:Nm}{W:Jp}{X:Cx}{a b c:Expr}{a' b' c':Ex}{pos pos':Pos}{ι:Io}{H:Hp}{σ:St}{ρ:En}{M M1 M2:dh}{x y:Dv}{es:Ya}{es':Cr}{tg iter elt:Expr}
def PI.weak(h:PI X tg iter wi)(w:∀σ H R,wi' σ H R->wi σ H R):PI X tg iter wi':=λpins s σ H R I q=>h pins s σ H R I (w σ H R q)
def PI.of(h:PI X tg iter wi)(w:∀σ H R' ι ρ M s M',m8 nm X.K ι H M->u5 X.K ι H ρ σ->it.den W ρ M=.ok s M'->(∀ι' H' J,Le ι H ι' H'->m8 nm X.K ι' H' M'->apm nm X.K ι' H' s J->R' J H')->wi σ H R'):PI X tg iter (tI nm W X.K it) :=
 PI.weak h fun σ H R' z_=>by obtain⟨ι,ρ,M,s,M',S,R,e,q⟩:=z_;exact w σ H R' ι ρ M s M' S R e q
def a1r(hl:PE X l tl):PI X tg l (fun σ H R=>tl σ H λx H1=>∃a,x=.ref a/\((∃xs,Ia X.K H1 a xs)/\R (Itl X.K a) H1\/(∃xs,Jh X.K H1 a xs)/\R (Itt X.K a) H1)):=by
 intro pins s σ H R I h;refine Bu (hl pins s σ H _ I h) λv s1 z_=>?_
 obtain⟨x,H1,I1,r1,q1⟩:=z_;obtain⟨a,e,⟨⟨xs,hq⟩,q⟩|⟨⟨xs,hq⟩,q⟩⟩:=q1
 . subst e
   cases r1;obtain⟨yw,rv,p,hz⟩:=I1.list hq;refine wpAny_pyIter_list p.isList ?_;refine⟨s1.heap.objs.size,[s1.heap.objs.size],_,_,H1,rfl,I1.kept (t':=s1.toks) λb o e=>au _ e,akf a _,⟨_,bu _ rfl,rfl,rfl⟩,λb hb=>?_,q⟩;have e:b=s1.heap.objs.size:=by simpa using hb
   subst e;exact I1.aom (bh _) (I1.Am.fresh (bh _))
 . subst e
   cases r1;obtain⟨yw,rv,p,hz⟩:=I1.tuple hq;refine wpAny_pyIter_tuple (show s1.heap.IsTuple a yw.toArray from p) ?_;refine⟨s1.heap.objs.size,[s1.heap.objs.size],_,_,H1,rfl,I1.kept (t':=s1.toks) λb o e=>au _ e,af4 a _,⟨_,bu _ rfl,rfl,rfl⟩,λb hb=>?_,q⟩;have e:b=s1.heap.objs.size:=by simpa using hb
   subst e;exact I1.aom (bh _) (I1.Am.fresh (bh _))
def Zf{p:Addr}{ds:List Dv}{s:Src}(hs:∀ι1 H1 M1,LeX ι H ι1 H1->m8 nm X.K ι1 H1 M1->(∀i d,s.item i M1=some d->∃vs v,H1 p=some (.lst vs)/\vs[i]?=some v/\Rep X.K ι1 H1 d v)/\(s.fin M1=true->∃vs,H1 p=some (.lst vs)/\vs.length<=s.len)) :
 apm nm X.K ι H s (Itl X.K p):=fun ι1 H1 M1 le S1=>by
 obtain⟨a,b⟩:=hs ι1 H1 M1 le S1;refine⟨λi d hi hd=>?_,λhf=>?_⟩
 . obtain⟨vs,v,h1,h2,h3⟩:=a i d hd
   refine⟨⟨vs,v,Ia.of h1,h2⟩,λu H2 ⟨e,y⟩=>?_⟩;subst e;have:=y vs (Ia.of h1);rw[h2] at this;cases this;exact⟨Le.refl _ _,S1,h3⟩
 . obtain⟨vs,h1,h2⟩:=b hf
   exact⟨vs,Ia.of h1,h2⟩
set_option tactic.hygienic true in
def a9a(ha:PE X a (tE nm W X.K a')):PI X tg a (tI nm W X.K (.val a')) :=
 PI.of (a1r ha) fun σ H R' ι ρ M s M' S R e q=>by
  rw[MW.Iv] at e;obtain⟨x,M1,e1,e⟩:=gh e;obtain⟨e,rfl⟩:=yr e;refine one S R e1 fun ι1 H1 v le S1 R1 r=>?_
  cases r with
  |@tup p ds vs h1 r1 =>
   simp only[MW.srcOf] at e;cases e;refine⟨p,rfl,.inr ⟨⟨vs,Jh.of h1⟩,q ι1 H1 _ le S1 fun ι2 H2 M2 Ak S2=>⟨λi d hi hd=>?_,λ_=>⟨vs,Jh.of (Ak.tup _ _ h1),by rw[<- r1.length];exact bh _⟩⟩⟩⟩;have hd:ds[i]?=some d:=hd;obtain⟨v,g1,g2⟩:=(r1.Mj Ak).get hd;refine⟨⟨vs,v,Jh.of (Ak.tup _ _ h1),g1⟩,λu H3 ⟨ee,yy⟩=>?_⟩;subst ee;have:=yy vs (Jh.of (Ak.tup _ _ h1));rw[g1] at this;cases this;exact⟨Le.refl _ _,S2,g2⟩
  |@vl p ds vs h1 n1 r1 =>
   simp only[MW.srcOf] at e;cases e;refine⟨p,rfl,.inl ⟨⟨vs,Ia.of h1⟩,q ι1 H1 _ le S1 (Zf (ds:=ds) fun ι2 H2 M2 Ak S2=>⟨λi d hd=>?_,λ_=>⟨vs,Ak.lst _ _ n1.1 h1,by rw[<- r1.length];exact bh _⟩⟩)⟩⟩;have hd:ds[i]?=some d:=hd;obtain⟨v,g1,g2⟩:=(r1.Mj Ak).get hd;exact⟨vs,v,Ak.lst _ _ n1.1 h1,g1,g2⟩
  |@ref n p h1 =>
   simp only[MW.srcOf] at e;obtain⟨ds,hn,rfl⟩:∃ds,M'[n]?=some (.lst ds)/\s=.live n ds.length:=by
    split at e
    . rename_i ds hn;cases e;exact⟨ds,hn,rfl⟩
    . cases e
   obtain⟨vs,g1,g2⟩:=S1.obj n _ p hn h1;refine⟨p,rfl,.inl ⟨⟨vs,Ia.of g1⟩,q ι1 H1 _ le S1 (Zf (ds:=ds) fun ι2 H2 M2 Ak S2=>⟨λi d hd=>?_,λhf=>?_⟩)⟩⟩
   . simp only[Src.item] at hd
     split at hd
     . rename_i ds2 Xv
       split at hd
       . obtain⟨vs2,k1,k2⟩:=S2.obj n _ p Xv (Ak.get h1)
         obtain⟨v,k3,k4⟩:=k2.get hd;exact⟨vs2,v,k1,k3,k4⟩
       . cases hd
     . cases hd
   . simp only[Src.fin] at hf
     split at hf
     . rename_i ds2 Xv
       obtain⟨vs2,k1,k2⟩:=S2.obj n _ p Xv (Ak.get h1);refine⟨vs2,k1,?_⟩;rw[<- k2.length];have:ds2.length=ds.length:=by simpa using hf
       rw[this];exact bh _
     . cases hf
  |_=>simp[MW.srcOf] at e
set_option tactic.hygienic true in
def a9b(hg:Gl X "range")(hm:X.mg "range" = none)(ha:PE X a (tE nm W X.K a'))(Xu:noStar a=true):PI X tg (.Call (.Name "range" pr) [a] [] pos) (tI nm W X.K (.Im a')) :=
 PI.of (akg hg hm (Oh ha Um (o5 Xu _ _)) (o5 Xu _ _)) fun σ H R' ι ρ M s M' S R e q=>by
  rw[MW.Iw] at e;obtain⟨x,M1,e1,e⟩:=gh e;refine Wn (es':=.cons a' .nil) (ds:=[x]) (M1:=M1) S R (by rw[MW.J0,e1];simp) fun ι1 H1 vs le S1 R1 r=>?_
  obtain⟨i,hx⟩:∃i,x=.int i:=by cases x<;>first|exact⟨_,rfl⟩|cases e
  subst hx;have e:(if i.natAbs<=100000 then Res.ok (Src.con ((List.range i.toNat).map λ(k:Nat)=>MW.D.int (k:Int))) M1 else .bad)=.ok s M':=e;split at e<;>cases e;rename_i hi;cases r with
  |cons r1 r2 =>
   cases r1;cases r2;refine⟨i,rfl,by lia,by omega,q ι1 H1 _ le S1 fun ι2 H2 M2 Ak S2=>⟨λj d hj hd=>?_,λ_=>?_⟩⟩
   . have hl:j<i.toNat:=by simpa[Src.len] using hj
     have hd:((List.range i.toNat).map λ(k:Nat)=>MW.D.int (k:Int))[j]?=some d:=hd;rw[gr,lq hl] at hd;have hd:MW.D.int (j:Int)=d:=by simpa using hd
     subst hd;refine⟨hl,λu H3 ⟨ee,yy⟩=>?_⟩;subst ee yy;exact⟨Le.refl _ _,S2,by rw[Int.zero_add];exact .int _⟩
   . show i.toNat<=_
     simp[Src.len]
def aky(R:u5 K ι H ρ σ):u5 K ι H (ρ++List.replicate k none) (σ++List.replicate k none):=R.append (u5.apf k (by simp))
def apn{σ2:St}(hn:σ.length=n)(ho:∀i∈Bv t,n<=i)(h:∀j,j∉Bv t->σ2[j]?=(σ++List.replicate k none)[j]?):∀(j:Nat) v,(σ++List.replicate k none)[j]?=some (some v)->σ2[j]?=some (some v):=λj v e=>by
 by_cases hj:j∈Bv t
 . have:=ho j hj
   rw[jb (a_ (f_ hn) this),List.getElem?_replicate] at e;split at e<;>simp at e
 . rw[h j hj];exact e
noncomputable def aye(o:Option Dv):List Dv:=match o with|some x=>[x]|none=>[]
set_option tactic.hygienic true in
def ad0(h:MW.Di fin item body (k+1) i M=.ok ds M') :
 ∃d o M1 rest,item i M=some d/\body d M=.ok o M1/\MW.Di fin item body k (i+1) M1=.ok rest M'/\ds=aye o++rest:=by
 simp only[MW.Di] at h;split at h
 . cases h
 . rename_i d hd
   obtain⟨o,M1,e1,h⟩:=gh h;obtain⟨rest,M2,e2,h⟩:=gh h;cases h;exact⟨d,o,M1,rest,hd,e1,e2,by cases o<;>rfl⟩
def m6.snoc(r:m6 K ι H ds vs)(h:Rep K ι H d v):m6 K ι H (ds++[d]) (vs++[v]):=r.append (.cons h .nil)
set_option tactic.hygienic true in
def Vi(e:MW.Af s body M1=.ok ds M2):s.len<=100000/\MW.Di s.fin s.item body s.len 0 M1=.ok ds M2:=by
 unfold MW.Af at e;split at e
 . rename_i hl
   exact⟨hl,e⟩
 . cases e
noncomputable def keptAs(v:Bool)(ds:List Dv)(M:dh):Res Dv:=if v=true then .ok (.vl ds) M else MW.new (.lst ds) M
def akz(h:(Ex.comp v k t it e').den W ρ M=.ok d M'):∃s M1 ds M2,it.den W ρ M=.ok s M1/\s.len<=100000 /\
 MW.Di s.fin s.item (λd M=>match t.put d (ρ++List.replicate k none) with|some ρ'=>(e'.den W ρ' M).bind λx M'=>.ok (some x) M'|none=>.bad) s.len 0 M1=.ok ds M2/\keptAs v ds M2=.ok d M':=by
 rw[MW.Mx] at h;obtain⟨s,M1,e1,h⟩:=gh h;obtain⟨ds,M2,e2,h⟩:=gh h;exact⟨s,M1,ds,M2,e1,(Vi e2).1,(Vi e2).2,h⟩
def Io.adopt(ι:Io)(H:Hp)(D:Addr):Tr K (ι.hide D) H (ι.add D) H:=⟨λ_ _ e=>e,λ_ _ e n=>⟨e,λm=>(dw.mp m).elim n.1 λz=>n.2 (by rw[qj.mp z];exact di),λm=>n.2 (bc _ m)⟩,λ_ _ e=>e,λn a e=>by
 have e:ι.l[n]?=some a:=e;show(ι.l++[D])[n]?=_;rw[dj (ak.mp e).1];exact e⟩
theorem Rep.adopt(r:Rep K (ι.hide D) H d v):Rep K (ι.add D) H d v:=r.tr (ι.adopt H D)
theorem m6.adopt(r:m6 K (ι.hide D) H d v):m6 K (ι.add D) H d v:=r.tr (ι.adopt H D)
theorem m8.adopt(S:m8 nm K (ι.hide D) H M)(hd:H D=some (.lst vs))(r:m6 K (ι.hide D) H ds vs)(hδ:ι.off D):m8 nm K (ι.add D) H (M++[.lst ds]):=by
 refine⟨by have:=S.len;simp only[Io.hide] at this;simp[Io.add,this],?_,λa ha=>?_,λn o a hn ha=>?_⟩
 . exact yp.mpr ⟨S.nd,by simp,by
    intro x hx y hy;have:y=D:=by simpa using hy
    subst this;intro e;subst e;exact hδ.1 hx⟩
 . obtain⟨h1,vs,h2⟩:=S.del a (bc _ ha)
   exact⟨λm=>(dw.mp m).elim h1 λz=>hδ.2 (by rw[<- qj.mp z];exact ha),vs,h2⟩
 . rcases Ce hn with q|⟨q,rfl⟩
   . rcases Ce ha with z|⟨z,_⟩
     . exact(S.obj n o a q z).map (λd v r=>r.adopt) rfl
     . exact absurd (MW.wz q) (by rw[z,<- S.len];exact kh _)
   . rcases Ce ha with z|⟨_,rfl⟩
     . exact absurd (ak.mp z).1 (by rw[q,<- S.len];exact kh _)
     . exact⟨vs,hd,r.adopt⟩
def apo(S:m8 nm K (ι.hide D) H M)(hd:H D=some (.lst vs))(r:m6 K (ι.hide D) H ds vs)(hδ:ι.off D)(le:Le ι0 H0 ι H)(h0:H0 D=none)(h:keptAs v ds M=.ok d M') :
 ∃ι',Le ι0 H0 ι' H/\m8 nm K ι' H M'/\Rep K ι' H d (.ref D):=by
 unfold keptAs at h;split at h
 . cases h
   exact⟨ι,le,S.show,.vl hd hδ r.show⟩
 . cases h
   refine⟨ι.add D,⟨?_,le.del,le.tup,le.N7,le.lst,le.dom⟩,S.adopt hd r hδ,.ref ?_⟩
   . obtain⟨Y,e,hY⟩:=le.ext
     exact⟨Y++[D],by show ι.l++[D]=_;rw[e,Ag],λa ha=>(dw.mp ha).elim (hY a) λz=>by rw[qj.mp z];exact h0⟩
   . show(ι.l++[D])[M.length]?=some D
     rw[<- S.len];simp[Io.hide]
def BodyOk(nm:Nm)(K:Fg)(σ2:St)(tc:TT)(te:TE)(ρ2:En)(M:dh)(o:Option Dv)(M':dh):Prop:=∀ι H (G1:V->Hp->Prop) (G0:Hp->Prop),m8 nm K ι H M->u5 K ι H ρ2 σ2 ->
 (∀ι' H' v,Le ι H ι' H'->m8 nm K ι' H' M'->(match o with|some x=>Rep K ι' H' x v->G1 v H'|none=>G0 H'))->tc σ2 H λb H3=>if b=true then te σ2 H3 λv H4=>G1 v H4 else G0 H3
set_option tactic.hygienic true in
def Zg{N:Yf}(hk:N.length-X.N.length=k)(ho:∀i∈Bv t,X.N.length<=i)(hσ:σ.length=X.N.length)(S:m8 nm X.K ι H M)(R:u5 X.K ι H ρ σ)(e1:it.den W ρ M=.ok s M1)(hlen:s.len<=100000)(e2:MW.Di s.fin s.item body s.len 0 M1=.ok ds M')(ek:keptAs v0 ds M'=.ok d0 M0)(q:∀ι' H' v,Le ι H ι' H'->m8 nm X.K ι' H' M0->Rep X.K ι' H' d0 v->Q v H')(hb:∀d M2 o M3,body d M2=.ok o M3->∃ρ5,t.put d (ρ++List.replicate k none)=some ρ5/\∀σ5,BodyOk nm X.K σ5 tc te ρ5 M2 o M3):adw (N.length-X.N.length) (tI nm W X.K it) (tGt nm X.K t) tc te σ H Q:=by
 refine⟨ι,ρ,M,s,M1,S,R,e1,fun ι1 H1 J Vg S1 sj D hD=>?_⟩;rw[hk];refine⟨λi m H2=>m=s.len-i/\i<=s.len/\∃ι2 M2 acc vs rest,LeD D ι1 H1 (Io.hide ι2 D) H2/\m8 nm X.K (Io.hide ι2 D) H2 M2/\H2 D=some (.lst vs)/\m6 X.K (Io.hide ι2 D) H2 acc vs/\acc.length<=i /\
  MW.Di s.fin s.item body m i M2=.ok rest M'/\ds=acc++rest,?_,?_⟩
 . exact⟨s.len,rfl,ju _,ι1,M1,[],[],ds,LeD.start hD _,S1.hide hD,xf,.nil,bh _,e2,rfl⟩
 . rintro i m H2 ⟨hm,hil,ι2,M2,acc,vs,rest,Ak,S2,hd2,a1s,Es,e3,hds⟩
   have leP:Le ι1 H1 ι2 H2:=LeD.done Ak;have be9:ι2.δ=ι1.δ:=leP.del;have bfa:ι2.off D:=⟨(S2.del D di).1,λz=>by rw[be9] at z;exact(S1.fresh hD).2 z⟩;obtain⟨go,stop⟩:=sj (Io.hide ι2 D) H2 M2 (Ak.toX hD) S2;cases m with
   |zero =>
    simp only[MW.Di] at e3;split at e3<;>cases e3;rename_i Qi;refine hG λ_ _k=>?_
    have hi:i=s.len:=by lia
    subst hi;rw[Bf] at hds;subst hds;obtain⟨ι9,le9,S9,r9⟩:=apo S2 hd2 a1s bfa leP hD ek;apply _k;exact .inl ⟨stop Qi,q ι9 H2 _ (Vg.trans le9) S9 r9⟩
   |succ m =>
    refine hG λ_ _k=>?_
    obtain⟨d,o,M3,rest',h1,h2,h3,h4⟩:=ad0 e3;obtain⟨g1,g2⟩:=go i d (by lia) h1;apply _k;refine .inr ⟨g1,λv H3 yv=>?_⟩;refine hG λ_ _k=>?_
    obtain⟨Ze,S3,r3⟩:=g2 v H3 yv;obtain⟨ρ5,agl,bok⟩:=hb d M2 o M3 h2;have R3:u5 X.K (Io.hide ι2 D) H3 ρ σ:=((R.mono Vg).Mj (Ak.toX hD)).mono Ze;apply _k;refine⟨Io.hide ι2 D,ρ++List.replicate k none,M2,d,ρ5,S3,aky R3,r3,agl,fun σ5 R5 l5 k5=>⟨l5,apn hσ ho k5,?_⟩⟩;have hd3:=Ze.lst D vs (S2.del D di).1 hd2;refine bok σ5 (Io.hide ι2 D) H3 _ _ S3 R5 (fun ι6 H6 u le6 S6=>by
     have hd6:=le6.lst D vs (S2.del D di).1 hd3;have a1t:LeD D ι1 H1 ι6 H6:=(Ak.go Ze).go le6;have ei:ι6=Io.hide ⟨ι6.l,ι2.δ⟩ D:=by have:=le6.del;obtain⟨l6,δ6⟩:=ι6;simp only[Io.hide] at this ⊢;rw[this]
     rw[ei] at a1t S6;have ayf:m6 X.K (Io.hide ⟨ι6.l,ι2.δ⟩ D) H6 acc vs:=by rw[<- ei];exact(a1s.mono Ze).mono le6
     cases o with
     |none =>
      refine⟨m,p7 _,by lia,by lia,⟨ι6.l,ι2.δ⟩,M3,acc,vs,rest',a1t,S6,hd6,ayf,a_ Es x_,h3,?_⟩;rw[hds,h4];rfl
     |some x =>
      intro r6;rw[ei] at r6;have Il:D∈(Io.hide ⟨ι6.l,ι2.δ⟩ D).δ:=di;refine⟨vs,m,hd6,?_,p7 _,by lia,by lia,⟨ι6.l,ι2.δ⟩,M3,acc++[x],vs++[u],rest',a1t.grow hD hd6,S6.grow hd6 Il,xf,(ayf.snoc r6).grow hd6 Il,by simp;exact Es,h3,?_⟩
      . rw[<- a1s.length]
        exact Nat.lt_of_le_of_lt (gn Es (gn hil hlen)) (by decide)
      . rw[hds,h4];simp[aye])
set_option tactic.hygienic true in
def Zh{N:Yf}(hk:N.length-X.N.length=k)(ho:∀i∈Bv t,X.N.length<=i):∀σ H Q,σ.length=X.N.length->tE nm W X.K (.comp v0 k t it e') σ H Q ->
 adw (N.length-X.N.length) (tI nm W X.K it) (tGt nm X.K t) (λ_ H Q=>Q true H) (tE nm W X.K e') σ H Q:=fun σ H Q hσ hh=>by
 obtain⟨ι,ρ,M,d,M',S,R,e,q⟩:=hh;obtain⟨s,M1,ds,M2,e1,hlen,e2,ek⟩:=akz e;refine Zg hk ho hσ S R e1 hlen e2 ek q λd M2 o M3 hb=>?_
 split at hb
 . rename_i ρ5 agl
   obtain⟨x,M4,e5,hb⟩:=gh hb;cases hb;refine⟨ρ5,agl,fun σ5 ι5 H5 G1 G0 S5 R5 g=>?_⟩;show if true=true then _ else _
   rw[cz rfl];exact one (X:=X) S5 R5 e5 fun ι6 H6 u le6 S6 R6 r6=>g ι6 H6 u le6 S6 r6
 . cases hb
def ad1(h:(Ex.Dh v k t it c' e').den W ρ M=.ok d M'):∃s M1 ds M2,it.den W ρ M=.ok s M1/\s.len<=100000 /\
 MW.Di s.fin s.item (λd M=>match t.put d (ρ++List.replicate k none) with|some ρ'=>(c'.den W ρ' M).bind λb M'=>(match b with|.bl true=>(e'.den W ρ' M').bind λx M''=>.ok (some x) M''|.bl false=>.ok none M'|_=>.bad)|none=>.bad) s.len 0 M1=.ok ds M2/\keptAs v ds M2=.ok d M':=by
 rw[MW.Vw] at h;obtain⟨s,M1,e1,h⟩:=gh h;obtain⟨ds,M2,e2,h⟩:=gh h;exact⟨s,M1,ds,M2,e1,(Vi e2).1,(Vi e2).2,h⟩
set_option tactic.hygienic true in
def Ur{N:Yf}(hk:N.length-X.N.length=k)(ho:∀i∈Bv t,X.N.length<=i):∀σ H Q,σ.length=X.N.length->tE nm W X.K (.Dh v0 k t it c' e') σ H Q ->
 adw (N.length-X.N.length) (tI nm W X.K it) (tGt nm X.K t) (tQ nm W X.K c') (tE nm W X.K e') σ H Q:=fun σ H Q hσ hh=>by
 obtain⟨ι,ρ,M,d,M',S,R,e,q⟩:=hh;obtain⟨s,M1,ds,M2,e1,hlen,e2,ek⟩:=ad1 e;refine Zg hk ho hσ S R e1 hlen e2 ek q λd M2 o M3 hb=>?_
 split at hb
 . rename_i ρ5 agl
   obtain⟨x,M4,e5,hb⟩:=gh hb;refine⟨ρ5,agl,fun σ5 ι5 H5 G1 G0 S5 R5 g=>?_⟩;split at hb
   . obtain⟨y,M6,e6,hb⟩:=gh hb
     cases hb;refine X8 (X:=X) S5 R5 e5 fun ι6 H6 le6 S6 R6=>?_
     rw[cz rfl];exact one (X:=X) S6 R6 e6 fun ι7 H7 u le7 S7 R7 r7=>g ι7 H7 u (le6.trans le7) S7 r7
   . cases hb
     refine X8 (X:=X) S5 R5 e5 fun ι6 H6 le6 S6 R6=>?_
     rw[bw (by simp)];exact g ι6 H6 .non le6 S6
   . cases hb
 . cases hb
def PE.ad2(h:PE X e t)(w:∀σ H Q,σ.length=X.N.length->t' σ H Q->t σ H Q):PE X e t':=λpins s σ H Q I q=>h pins s σ H Q I (w σ H Q I.len q)
def PS.ad2(h:PS X st t)(w:∀D σ H,σ.length=X.N.length->t' D σ H->t D σ H):PS X st t':=λpins s σ H D I q=>h pins s σ H D I (w D σ H I.len q)
def a1u(B:Ep X N scope)(Jk:X.calm=true)(hi:PI X tg iter (tI nm W X.K it))(hg:∀C fp s H,PG (Mr X N scope C fp s H) tg (tGt nm X.K t))(he:∀C fp s H,PE (Mr X N scope C fp s H) elt (tE nm W X.K e'))(hs:G3 iter=true)(hk:N.length-X.N.length=k)(ho:∀i∈Bv t,X.N.length<=i):PE X (.ListComp elt [⟨tg,iter,[],0⟩] scope pos) (tE nm W X.K (.comp v0 k t it e')) :=
 PE.ad2 (aia B Jk hi hg (λ_ _ _ _=>.inl ⟨rfl,rfl⟩) he (Ej hs X.env)) (Zh hk ho)
def apq(B:Ep X N scope)(Jk:X.calm=true)(hi:PI X tg iter (tI nm W X.K it))(hg:∀C fp s H,PG (Mr X N scope C fp s H) tg (tGt nm X.K t))(hc:∀C fp s H,PT (Mr X N scope C fp s H) c (tQ nm W X.K c'))(he:∀C fp s H,PE (Mr X N scope C fp s H) elt (tE nm W X.K e'))(hs:G3 iter=true)(hk:N.length-X.N.length=k)(ho:∀i∈Bv t,X.N.length<=i):PE X (.ListComp elt [⟨tg,iter,[c],0⟩] scope pos) (tE nm W X.K (.Dh v0 k t it c' e')) :=
 PE.ad2 (aia B Jk hi hg (λ_ _ _ _=>.inr ⟨c,rfl,hc _ _ _ _⟩) he (Ej hs X.env)) (Ur hk ho)
def ad3(h:∀σ H Q,σ.length=X.N.length->tE nm W X.K e' σ H Q->tt σ H Q):∀D σ H,σ.length=X.N.length->tS nm W X.K (.asg (.tg (.name i)) e') D σ H->a0p tt (ahz i) D σ H:=λD σ H hσ hh=>by obtain⟨ι,ρ,M,fl,ρ',M',S,R,e,q⟩:=hh;rw[MW.aac] at e;obtain⟨x,M1,e1,e⟩:=gh e;obtain⟨ρ2,M2,e2,e⟩:=gh e;cases e;rw[MW.am7] at e2;obtain⟨e3,e4⟩:=yr e2;subst e4;cases e3;exact h σ H _ hσ (one S R e1 fun ι1 H1 v le S1 R1 r=>q ι1 H1 _ le S1 (R1.set r i))
def ak0{y:Str}(B:Ep X N scope)(Jk:X.calm=true)(hi:PI X tg iter (tI nm W X.K it))(hg:∀C fp s H,PG (Mr X N scope C fp s H) tg (tGt nm X.K t))(he:∀C fp s H,PE (Mr X N scope C fp s H) elt (tE nm W X.K e'))(hs:G3 iter=true)(hk:N.length-X.N.length=k)(ho:∀i∈Bv t,X.N.length<=i)(hN:X.N.Nodup)(hy:X.N[i]?=some y)(hl:X.env.scope.names.lookup y=some .local)(hsw:swapsWith (.ListComp elt [⟨tg,iter,[],0⟩] scope pos) (some (.Name y py)) ape.line X.env=pure true):PS X (.Assign [.Name y py] (.ListComp elt [⟨tg,iter,[],0⟩] scope pos) ape) (tS nm W X.K (.asg (.tg (.name i)) (.comp v0 k t it e'))) :=
 PS.ad2 (aib B Jk hi hg (λ_ _ _ _=>.inl ⟨rfl,rfl⟩) he (Ej hs X.env) hN hy hl hsw) (ad3 (Zh hk ho))
def ad4{y:Str}(B:Ep X N scope)(Jk:X.calm=true)(hi:PI X tg iter (tI nm W X.K it))(hg:∀C fp s H,PG (Mr X N scope C fp s H) tg (tGt nm X.K t))(hc:∀C fp s H,PT (Mr X N scope C fp s H) c (tQ nm W X.K c'))(he:∀C fp s H,PE (Mr X N scope C fp s H) elt (tE nm W X.K e'))(hs:G3 iter=true)(hk:N.length-X.N.length=k)(ho:∀i∈Bv t,X.N.length<=i)(hN:X.N.Nodup)(hy:X.N[i]?=some y)(hl:X.env.scope.names.lookup y=some .local)(hsw:swapsWith (.ListComp elt [⟨tg,iter,[c],0⟩] scope pos) (some (.Name y py)) ape.line X.env=pure true):PS X (.Assign [.Name y py] (.ListComp elt [⟨tg,iter,[c],0⟩] scope pos) ape) (tS nm W X.K (.asg (.tg (.name i)) (.Dh v0 k t it c' e'))) :=
 PS.ad2 (aib B Jk hi hg (λ_ _ _ _=>.inr ⟨c,rfl,hc _ _ _ _⟩) he (Ej hs X.env) hN hy hl hsw) (ad3 (Ur hk ho))
end
def spF(nm:Nm)(W:Jp)(K:Fg)(n f:Nat):Sp:=λvs H Q _=>∃ι M ds d M',m8 nm K ι H M/\m6 K ι H ds vs/\ds.length=n/\W.call f ds M=.ok d M'/\∀ι' H' v,Le ι H ι' H'->m8 nm K ι' H' M'->Rep K ι' H' d v->Q v H'
def s_call(F:Fo X.prog X.w X.K X.mg X.base CX0 k fa fd ps (spF nm W X.K n f))(hr:Aj k X.A)(hg:Gl X x)(hm:X.mg x=some (.ref fa))(hk:PySem.W.keepIn X.K (.ref fa)=true)(hb:Binds X.K fd ps [])(hlen:Cr.len es'=n)(ha:PA X (a::es) (Wj nm W X.K es'))(Ui:(x==("__debug__" : Str))=false)(he:starEach (a::es) X.env=(false,eval a X.env)::starEach es X.env)(Ik:(backTo pos (starEach es X.env)).any (·.1)=false) :
 PE X (.Call (.Name x p) (a::es) [] pos) (tE nm W X.K (.call f es')) :=
 PE.of (aur (E:=E0) F hr hg hm hk hb .nil ah8 ha Ui he Ik) fun σ H Q ι ρ M d M' S R e q=>by
  rw[MW.am2] at e;obtain⟨ds,M1,e1,e⟩:=gh e;refine Wn S R e1 fun ι1 H1 vs le S1 R1 r=>?_
  rw[Bf];exact⟨ι1,M1,ds,d,M',S1,r,(Gh e1).trans hlen,e,fun ι' H' v Xo S' r'=>q ι' H' v (le.trans Xo) S' r'⟩
def a1v(Mk0:Mk X.K C fa)(F:Fo X.prog X.w X.K X.mg X.base CX0 k fa fd ps (spF nm W X.K (n+1) f))(hr:Aj (k+1) X.A)(hg:Gl X x)(hm:X.mg x=some (.ref C))(hb:Binds X.K fd ps [])(hcl:W.cls[ci]?=some cl)(Xr:cl.init=f)(hnm:nm.cls ci=some C)(hlen:Cr.len es'=n)(ha:PA X (a::es) (Wj nm W X.K es'))(Ui:(x==("__debug__" : Str))=false)(he:starEach (a::es) X.env=(false,eval a X.env)::starEach es X.env)(Ik:(backTo pos (starEach es X.env)).any (·.1)=false) :
 PE X (.Call (.Name x p) (a::es) [] pos) (tE nm W X.K (.make ci es')) :=
 PE.of (aut (E:=E0) Mk0 F hr hg hm hb .nil ah8 ha Ui he Ik) fun σ H Q ι ρ M d M' S R e q=>by
  rw[MW.ack] at e;obtain⟨ds,M1,e1,e⟩:=gh e;rw[hcl] at e;have e:((W.call cl.init (.ref M1.length::ds) (M1++[.ins ci []])).bind λr M2=>match r with|.non=>.ok (.ref M1.length) M2|_=>.bad)=.ok d M':=e;obtain⟨r0,M2,e2,e⟩:=gh e;refine Wn S R e1 fun ι1 H1 vs le S1 R1 r=>λp dx hp hdx Tw=>?_
  rw[Bf];have keep:∀a u,H1 a=some u->upd (upd H1 dx (.own p)) p (.ins C dx []) a=some u:=λa u e=>by rw[j9 (lg e hp),j9 (lg e hdx)];exact e
  obtain⟨S2,Ak⟩:=S1.new (o:=.ins ci []) hp keep λ_=>⟨C,dx,[],hnm,xf,.nil⟩
  have rp:Rep X.K (ι1.add p) (upd (upd H1 dx (.own p)) p (.ins C dx [])) (.ref M1.length) (.ref p):=.ref (by show(ι1.l++[p])[M1.length]?=some p;rw[<- S1.len];simp);refine⟨ι1.add p,M1++[.ins ci []],.ref M1.length::ds,r0,M2,S2,.cons rp (r.mono Ak),by rw[gw,Gh e1,hlen],by rw[<- Xr];exact e2,fun ι' H' v Xo S' r'=>?_⟩;cases r'<;>try cases e
  exact⟨rfl,q ι' H' _ (le.trans (Ak.trans Xo)) S' (rp.mono Xo)⟩
theorem Ws{nm:Nm}{ι:Io}{H:Hp}{m:Str}{K:Fg}(hno:∀i,nm.fld i≠m):∀{fs:List (Nat×Dv)}{l:List (Str×V)},uc K ι H (λk k'=>k'=nm.fld k) fs l->l.lookup m=none
 |_,_,.nil=>rfl
 |_,_,.cons (k:=kk) (k':=kk') hk h t=>by
  subst hk;rw[o6];have z:(m==nm.fld kk)=false:=by
   cases z:m==nm.fld kk with
   |false=>rfl|true=>exact absurd (eq_of_beq z).symm (hno kk)
  rw[z];exact Ws hno t
def a1w{nm:Nm}{W:Jp}{X:Cx}{a o:Expr}{o':Ex}{pos apos:Pos}{es:Ya}{es':Cr}{k n f:Nat}{fa C:Addr}{fd:FuncData}{ps:Yf}{m:Str}{mi ci:Nat}{cl:MW.Cl}{pl:Sem Bool}(ho:PE X o (tE nm W X.K o'))(c0:Cls X.K C)(hme:Meth X.K C m fa)(F:Fo X.prog X.w X.K X.mg X.base CX0 k fa fd ps (spF nm W X.K (n+1) f))(hr:Aj k X.A)(hb:Binds X.K fd ps [])
 (a1x:∀c' cl',W.cls[c']?=some cl'->∀g,cl'.meths.lookup mi=some g->nm.cls c'=some C/\g=f) (hno:∀i,nm.fld i≠m)
 (hlen:Cr.len es'=n) (ha:PA X (a::es) (Wj nm W X.K es')) (he:starEach (a::es) X.env=(false,eval a X.env)::starEach es X.env) (Ik:(backTo pos (starEach es X.env)).any (·.1)=false)
 (ht:eval (.Call (.Attribute o m apos) (a::es) [] pos) X.env=(do
  let ov <- eval o X.env
  standAt apos.atName
  let (f,first) <- holding [ov] (getMethod ov m pl)
  callWith pos f first (backTo pos (starEach (a::es) X.env)) (backToKw pos (keywordEach [] X.env)))) :
 PE X (.Call (.Attribute o m apos) (a::es) [] pos) (tE nm W X.K (.meth o' mi es')) :=
 PE.of (aus (E:=E0) ho c0 hme F hr hb .nil ah8 ha he Ik ht) fun σ H Q ι ρ M d M' S R e q=>by
  rw[MW.Q3] at e;obtain⟨x,M1,e1,e⟩:=gh e;obtain⟨ds,M2,e2,e⟩:=gh e;refine one S R e1 fun ι1 H1 v le S1 R1 r=>?_
  obtain⟨j,hx⟩:∃j,x=.ref j:=by cases x<;>first|exact⟨_,rfl⟩|cases e
  subst hx;obtain⟨p,rfl,hp⟩:∃p,v=.ref p/\ι1.l[j]?=some p:=by cases r with|ref z=>exact⟨_,rfl,z⟩
  have e:(match M1[j]? with
   | some (.ins c _)=>(match(W.cls[c]?).bind λC=>C.meths.lookup mi with
    | some f=>W.call f (.ref j::ds) M2|none=>.bad)
   | _=>.bad)=Res.ok d M':=e
  cases hM:M1[j]? with
  |none=>rw[hM] at e;cases e
  |some ob =>
   rw[hM] at e;cases ob with
   |ins ci fs =>
    have e:(match(W.cls[ci]?).bind λC=>C.meths.lookup mi with|some f=>W.call f (.ref j::ds) M2|none=>.bad)=Res.ok d M':=e;cases hL:(W.cls[ci]?).bind λC=>C.meths.lookup mi with
    |none=>rw[hL] at e;cases e
    |some g =>
     rw[hL] at e;have e:W.call g (.ref j::ds) M2=.ok d M':=e;obtain⟨cl',h1,h2⟩:=dq.mp hL;obtain⟨h3,rfl⟩:=a1x ci cl' h1 g h2;obtain⟨C',dx,l,g1,g2,g3⟩:=S1.obj j _ p hM hp;rw[h3] at g1;cases g1;have a9d:l.lookup m=none:=Ws hno g3;refine⟨p,dx,l,rfl,g2,a9d,Wn S1 R1 e2 fun ι2 H2 vs Ak S2 R2 r2=>?_⟩;rw[Bf];exact⟨ι2,M2,.ref j::ds,d,M',S2,.cons (r.mono Ak) r2,by rw[gw,Gh e2,hlen],e,fun ι' H' v Xo S' r'=>q ι' H' v ((le.trans Ak).trans Xo) S' r'⟩
   |_=>cases e
def a1y:PE X (.Dict [] [] pos) (tE nm W X.K .ajx):=PE.of ao4 fun σ H Q ι ρ M d M' S R e q=>by
 rw[MW.am0] at e;cases e;intro p hp;obtain⟨S2,Ak⟩:=S.new (o:=.dT []) (H':=upd H p (.dT [])) hp (λa u e=>by rw[j9 (lg e hp)];exact e) λ_=>⟨[],xf,.nil⟩
 exact q _ _ _ Ak S2 (.ref (by show(ι.l++[p])[M.length]?=some p;rw[<- S.len];simp))
def a1z:PE X (.Dict [] [] pos) (tE nm W X.K .Z8):=PE.of ao3 fun σ H Q ι ρ M d M' S R e q=>by
 rw[MW.am1] at e;cases e;intro p hp;obtain⟨S2,Ak⟩:=S.new (o:=.dK []) (H':=upd H p (.dK [])) hp (λa u e=>by rw[j9 (lg e hp)];exact e) λ_=>⟨[],xf,.nil⟩
 exact q _ _ _ Ak S2 (.ref (by show(ι.l++[p])[M.length]?=some p;rw[<- S.len];simp))
def bfc(nm:Nm)(K:Fg):a0l:=λo i v H Q=>∃ι M x y d M',m8 nm K ι H M/\Rep K ι H x o/\Rep K ι H y i/\Rep K ι H d v/\MW.setOp x y d M=some M'/\∀H',Le ι H ι H'->m8 nm K ι H' M'->Q H'
def Wt(h:n<100000):n<sizeLine:=gm h Wl
set_option tactic.hygienic true in
def avd(hu:X.A.units+1<cLine):a0m X (bfc nm X.K):=by
 intro pins s σ H o i v ov iv u Q I ro ri rv hh;obtain⟨ι,M,x,y,d,M',S,rx,ry,rd,e,q⟩:=hh;obtain⟨j,hx⟩:∃j,x=.ref j:=by cases x<;>first|exact⟨_,rfl⟩|cases e
 subst hx;obtain⟨p,rfl,hp⟩:∃p,o=.ref p/\ι.l[j]?=some p:=by cases rx with|ref z=>exact⟨_,rfl,z⟩
 simp only[MW.setOp] at e;split at e
 . rename_i xs hM
   split at e
   . rename_i k
     obtain⟨qq,e1,e2⟩:=bx.mp e;subst e2;cases ry;obtain⟨vs,h1,h2⟩:=S.obj j _ p hM hp;refine set_list pins s σ H _ _ v ov iv u Q I ro ri rv ⟨p,vs,k,qq,rfl,rfl,h1,by rw[<- h2.length];exact e1,?_⟩;obtain⟨S2,Ak⟩:=S.put (u:=.lst (vs.set qq v)) (o:=.lst (xs.set qq d)) hM hp λle=>⟨_,xf,(h2.mono le).set (rd.mono le) qq⟩
     exact q _ Ak S2
   . cases e
 . rename_i ie hM
   obtain⟨k,e1,e⟩:=dq.mp e;split at e<;>cases e;rename_i hl;obtain⟨l,h1,h2⟩:=S.obj j _ p hM hp;obtain⟨b,rfl,hb⟩:=Wo ry e1;cases ro;refine Za (H':=upd H p (.dT (putK l k v))) (y:=.ref b) (v:=v) hu I (agg.t h1 hb (by rw[<- h2.length];exact Wt hl)) ri rv λs' I'=>⟨_,I',?_⟩
   obtain⟨S2,Ak⟩:=S.put (u:=.dT (putK l k v)) (o:=.dT (MW.Cu ie k d)) hM hp λle=>⟨_,xf,(h2.mono le).put (rd.mono le)⟩
   exact q _ Ak S2
 . rename_i ie hM
   obtain⟨k,e1,e⟩:=dq.mp e;split at e<;>cases e;rename_i hl;obtain⟨l,h1,h2⟩:=S.obj j _ p hM hp;have hy:=Ti ry e1;subst hy;cases ro;refine Za (H':=upd H p (.dK (putK l k v))) (y:=kV k) (v:=v) hu I (agg.k h1 (by rw[<- h2.length];exact Wt hl)) ri rv λs' I'=>⟨_,I',?_⟩
   obtain⟨S2,Ak⟩:=S.put (u:=.dK (putK l k v)) (o:=.dK (MW.Cu ie k d)) hM hp λle=>⟨_,xf,(h2.mono le).put (rd.mono le)⟩
   exact q _ Ak S2
 . cases e
def Wu(h:Tj e=true)(t:Expr)(l:Nat)(env:Env):swapsWithSole [t] e l env=pure false:=by unfold swapsWithSole;exact Oi h _ _ _
def apr(e o b:Expr)(p:Pos)(l:Nat)(env:Env):swapsWithSole [.Subscript o b p] e l env=pure false:=by cases e<;>rfl
def aps(hu:X.A.units+1<cLine)(he:PE X a (tE nm W X.K a'))(ho:PE X o (tE nm W X.K o'))(hi:PE X b (tE nm W X.K b'))(ha:∀v,assign (.Subscript o b pos') X.env v=(do
 let ov <- holding [v] (eval o X.env)
 let iv <- holding [v,ov] (eval b X.env)
 standAt pos'
 holding [v,ov,iv] (setItem ov iv v)
 release [v,ov,iv] [])):PS X (.Assign [.Subscript o b pos'] a pos) (tS nm W X.K (.asg (.sub o' b') a')) :=
 PS.of (aok he (a0o ho hi (avd (nm:=nm) hu) ha) (apr _ _ _ _ _ _) (by rfl) (by rfl)) λD σ H ι ρ M fl ρ' M' S R e q=>by
  rw[MW.aac] at e;obtain⟨x,M1,e1,e⟩:=gh e;obtain⟨ρ2,M2,e2,e⟩:=gh e;cases e;rw[MW.atp] at e2;obtain⟨y,M3,e3,e2⟩:=gh e2;obtain⟨z,M4,e4,e2⟩:=gh e2;obtain⟨M5,M6,e5,e6⟩:=gh e2;obtain⟨e7,e8⟩:=yr e5;subst e8;cases e6;refine one S R e1 fun ι1 H1 v le S1 R1 r=>?_
  refine one S1 R1 e3 fun ι2 H2 v2 Ak S2 R2 r2=>one S2 R2 e4 fun ι3 H3 v3 Ze S3 R3 r3=>?_
  exact⟨ι3,_,y,z,x,_,S3,r2.mono Ze,r3,(r.mono Ak).mono Ze,e7,λH' Xo S'=>q ι3 H' σ (((le.trans Ak).trans Ze).trans Xo) S' (R3.mono Xo)⟩
set_option tactic.hygienic true in
def apt(hn:n=nm.fld f)(hcl:∀c C,nm.cls c=some C->Cls X.K C/\Gy X.K C n)(he:PE X a (tE nm W X.K a'))(ho:PE X o (tE nm W X.K o'))(Ik:Tj a=true) :
 PS X (.Assign [.Attribute o n pos'] a pos) (tS nm W X.K (.asg (.fld o' f) a')) :=
 PS.of (a02 ho he (Oi Ik _ _ _)) λD σ H ι ρ M fl ρ' M' S R e q=>by
  rw[MW.aac] at e;obtain⟨x,M1,e1,e⟩:=gh e;obtain⟨ρ2,M2,e2,e⟩:=gh e;cases e;rw[MW.atq] at e2;obtain⟨y,M3,e3,e2⟩:=gh e2;obtain⟨M5,M6,e5,e6⟩:=gh e2;obtain⟨e7,e8⟩:=yr e5;subst e8;cases e6;refine one S R e1 fun ι1 H1 v le S1 R1 r=>one S1 R1 e3 fun ι2 H2 v2 Ak S2 R2 r2=>?_
  obtain⟨j,hx⟩:∃j,y=.ref j:=by cases y<;>first|exact⟨_,rfl⟩|cases e7
  subst hx;obtain⟨p,rfl,hp⟩:∃p,v2=.ref p/\ι2.l[j]?=some p:=by cases r2 with|ref z=>exact⟨_,rfl,z⟩
  simp only[MW.Qz] at e7;split at e7
  . rename_i c fs hM
    have hl:fs.length<1000:=by
     by_cases z:fs.length<1000
     . exact z
     . rw[bw z] at e7;cases e7
    rw[cz hl] at e7;cases e7;obtain⟨C,dx,l,h1,h2,h3⟩:=S2.obj j _ p hM hp;subst hn;obtain⟨g1,g2⟩:=hcl c C h1;refine⟨p,C,dx,l,rfl,h2,g1,g2,by rw[<- h3.length];exact hl,?_⟩;obtain⟨S3,Ze⟩:=S2.put (u:=.ins C dx (Ip (nm.fld f) v l)) (o:=.ins c (MW.Tz f x fs)) hM hp λXo=>⟨C,dx,_,h1,xf,(h3.mono Xo).Ip ((r.mono Ak).mono Xo)⟩
    exact q ι2 _ σ ((le.trans Ak).trans Ze) S3 (R2.mono Ze)
  . cases e7
def Dc.weak(h:Dc X f r)(w:∀xs H Q,r' xs H Q->r xs H Q):Dc X f r':=λpins s σ H xs us Q I rs q=>h pins s σ H xs us Q I rs (w xs H Q q)
def rB(nm:Nm)(K:Fg)(b:Blt):List V->Hp->VK->Prop:=λvs H Q=>∃ι M ds d M',m8 nm K ι H M/\m6 K ι H ds vs/\MW.v7 b ds M=.ok d M'/\∀ι' H' v,Le ι H ι' H'->m8 nm K ι' H' M'->Rep K ι' H' d v->Q v H'
def Dc.of(h:Dc X f r)(w:∀vs H Q ι M ds d M',m8 nm X.K ι H M->m6 X.K ι H ds vs->MW.v7 bb ds M=.ok d M'->(∀ι' H' v,Le ι H ι' H'->m8 nm X.K ι' H' M'->Rep X.K ι' H' d v->Q v H')->r vs H Q):Dc X f (rB nm X.K bb) :=
 Dc.weak h λvs H Q z_=>by obtain⟨ι,M,ds,d,M',S,r,e,q⟩:=z_;exact w vs H Q ι M ds d M' S r e q
def ad6{X:Cx}:∀σ H Q,tE nm W X.K (.blt t es') σ H Q->tCB (rB nm X.K t) (Wj nm W X.K es') σ H Q:=fun σ H Q hh=>by obtain⟨ι,ρ,M,d,M',S,R,e,q⟩:=hh;rw[MW.aab] at e;obtain⟨ds,M1,e1,e⟩:=gh e;exact Wn S R e1 fun ι1 H1 vs le S1 R1 r=>⟨ι1,M1,ds,d,M',S1,r,e,fun ι' H' v Xo S' r'=>q ι' H' v (le.trans Xo) S' r'⟩
def aie{id:String}(hc:Dc X (.builtin id) (rB nm X.K t))(hg:Gl X x)(hm:X.mg x=none)(hv:bootBuiltins x=some (.builtin id))(ha:PA X (a::es) (Wj nm W X.K es'))(hn:x≠"__name__")(Ui:(x==("__debug__" : Str))=false)(he:starEach (a::es) X.env=(false,eval a X.env)::starEach es X.env)(Ik:(backTo pos (starEach es X.env)).any (·.1)=false):PE X (.Call (.Name x p) (a::es) [] pos) (tE nm W X.K (.blt t es')):=PE.weak (aoy hc hg hm hv ha hn Ui he Ik) ad6
def apu(hc:Dc X (.type T) (rB nm X.K t))(hg:Gl X x)(hm:X.mg x=none)(hv:bootBuiltins x=some (.type T))(ha:PA X (a::es) (Wj nm W X.K es'))(hn:x≠"__name__")(Ui:(x==("__debug__" : Str))=false)(he:starEach (a::es) X.env=(false,eval a X.env)::starEach es X.env)(Ik:(backTo pos (starEach es X.env)).any (·.1)=false):PE X (.Call (.Name x p) (a::es) [] pos) (tE nm W X.K (.blt t es')):=PE.weak (ako hc hg hm hv ha hn Ui he Ik) ad6
def Jl(r:m6 K ι H ds vs)(h:ds=[d]):∃v,vs=[v]/\Rep K ι H d v:=by subst h;cases r with|cons h t=>cases t;exact⟨_,rfl,h⟩
def ave:Dc X (.type "tuple") (rB nm X.K .tuple):=Dc.of X7 λvs H Q ι M ds d M' S r e q=>by
 cases r with
 |nil=>simp[MW.v7] at e
 |@cons x v _ _ h t =>
  cases t with
  |cons h2 t2=>simp[MW.v7] at e
  |nil =>
   have e:Res.vg ((MW.Bq M x).map MW.D.tup) M=.ok d M':=e;obtain⟨e1,e2⟩:=yr e;subst e2;obtain⟨xs,e3,rfl⟩:=bx.mp e1;obtain⟨p,us,rfl,hp,ru⟩:=Km S h e3;rcases hp with hp|hp
   . refine⟨p,us,rfl,.inl ⟨Ia.of hp,λl hl=>?_⟩⟩
     obtain⟨S2,Ak,r2⟩:=O2 S hl ru;exact q ι _ _ Ak S2 r2
   . exact⟨p,us,rfl,.inr ⟨Jh.of hp,q ι H _ (Le.refl _ _) S (.tup hp ru)⟩⟩
set_option tactic.hygienic true in
def a9e:Dc X (.builtin "len") (rB nm X.K .len):=Dc.of aa3 λvs H Q ι M ds d M' S r e q=>by
 cases r with
 |nil=>simp[MW.v7] at e
 |@cons x v _ _ h t =>
  cases t with
  |cons h2 t2=>simp[MW.v7] at e
  |nil =>
   have fin:∀xs,(MW.Bq M x=some xs)->d=.int xs.length->M'=M->∃p ys,[v]=[V.ref p]/\(Ia X.K H p ys\/Jh X.K H p ys)/\Q (.int ys.length) H:=λxs e3 e1 e2=>by subst e1 e2;obtain⟨p,us,rfl,hp,ru⟩:=Km S h e3;exact⟨p,us,rfl,hp.imp Ia.of Jh.of,by rw[<- ru.length];exact q ι H _ (Le.refl _ _) S (.int _)⟩
   cases h with
   |fz e1 r1 =>
    cases e;exact⟨_,_,rfl,.inl e1.sq,by rw[<- r1.length];exact q ι H _ (Le.refl _ _) S (.int _)⟩
   |@ref n p e1 =>
    have e:(match M[n]? with|some (.lst ds)=>Res.ok (MW.D.int ds.length) M|_=>.bad)=Res.ok d M':=e;split at e
    . rename_i ds hM
      cases e;exact fin ds (by simp[MW.Bq,MW.fc,hM]) rfl rfl
    . cases e
   |tup e1 r1=>cases e;exact fin _ rfl rfl rfl|vl e1 n1 r1=>cases e;exact fin _ rfl rfl rfl|_=>cases e
open MW
noncomputable def G4(f:Dv->Dv->Option Bool)(as bs:List Dv)(j:Nat):Bool:=match as[j]?,bs[j]? with
 |some a,some b=>(f a b).getD false|_,_=>false
set_option tactic.hygienic true in
theorem Ie{f:Dv->Dv->Option Bool}:∀{as bs:List Dv}{r:Bool},MW.Qv f as bs=some r->(∀(j:Nat) a b,as[j]?=some a->bs[j]?=some b->∃c,f a b=some c) /\
 r=((List.range (min as.length bs.length)).all (G4 f as bs)&&as.length==bs.length)
 |[],[],r,h=>by cases h;exact⟨λj a b e=>by simp at e,by simp⟩
 |[],b::bs,r,h=>by cases h;exact⟨λj a b e=>by simp at e,by simp⟩
 |a::as,[],r,h=>by cases h;exact⟨λj a b _ e=>by simp at e,by simp⟩
 |a::as,b::bs,r,h=>by
  simp only[MW.Qv] at h;split at h
  . rename_i x y h1 h2
    cases h;obtain⟨g1,g2⟩:=Ie h2;refine⟨λj a' b' e1 e2=>?_,?_⟩
    . cases j with
      |zero=>simp at e1 e2;subst e1 e2;exact⟨x,h1⟩|succ j=>exact g1 j a' b' (by simpa using e1) (by simpa using e2)
    . rw[gw,gw,Nat.succ_min_succ,List.range_succ_eq_map,List.all_cons,List.all_map]
      have z:G4 f (a::as) (b::bs) 0=x:=by simp[G4,h1]
      have z2:(G4 f (a::as) (b::bs) ∘ Nat.succ)=G4 f as bs:=by funext j;simp[G4]
      rw[z,z2,g2];have z3:(as.length+1==bs.length+1)=(as.length==bs.length):=by
       by_cases q:as.length=bs.length
       . simp[q]
       . have:¬(as.length+1=bs.length+1):=by lia
         simp[q,this]
      rw[z3,Bool.and_assoc]
  . cases h
set_option tactic.hygienic true in
theorem Oj{ι:Io}{H:Hp}{K:Fg}{f:Dv->Dv->Option Bool}(hf:∀x y v r,Rep K ι H x v->Rep K ι H y v->f x y=some r->r=true):∀{as bs:List Dv}{vs:List V}{r:Bool},m6 K ι H as vs->m6 K ι H bs vs->MW.Qv f as bs=some r->r=true
 |_,_,_,_,.nil,.nil,h=>by cases h;rfl
 |_,_,_,_,.cons h1 t1,.cons h2 t2,h=>by
  simp only[MW.Qv] at h;split at h
  . rename_i x y e1 e2
    cases h;rw[hf _ _ _ _ h1 h2 e1,Oj hf t1 t2 e2];rfl
  . cases h
inductive EqI(M:dh)(f:Dv->Dv->Option Bool):Dv->Dv->Bool->Prop
 |non:EqI M f .non .non true
 |bl (a b:Bool):EqI M f (.bl a) (.bl b) (a==b)
 |int (a b:Int):EqI M f (.int a) (.int b) (decide (a=b))
 |str (a b:Str):EqI M f (.str a) (.str b) (decide (a=b))
 |tup {as bs:List Dv} {r:Bool} (h:MW.Qv f as bs=some r):EqI M f (.tup as) (.tup bs) r
 |lst {x y:Dv} {as bs:List Dv} {r:Bool} (h1:MW.fc M x=some as) (h2:MW.fc M y=some bs) (h:(if as.length=bs.length then MW.Qv f as bs else some false)=some r):EqI M f x y r
set_option tactic.hygienic true in
def abd(h:MW.Jy M (k+1) x y=some r):EqI M (MW.Jy M k) x y r:=by
 unfold MW.Jy at h;split at h
 . cases h;exact .int _ _
 . cases h;exact .bl _ _
 . cases h;exact .str _ _
 . cases h;exact .non
 . exact .tup h
 . split at h
   . rename_i h1 h2;exact .lst h1 h2 h
   . cases h
def ad7{X:Cx}(S:m8 nm X.K ι H M)(rx:Rep X.K ι H x v)(ry:Rep X.K ι H y v)(h1:MW.fc M x=some ds)(h2:MW.fc M y=some es):∃vs,m6 X.K ι H ds vs/\m6 X.K ι H es vs:=by obtain⟨p,vs,rfl,g1,g2⟩:=t7 S rx h1;obtain⟨p',ws,hw,g3,g4⟩:=t7 S ry h2;cases hw;rw[g1] at g3;cases g3;exact⟨vs,g2,g4⟩
theorem abe{nm:Nm}{ι:Io}{H:Hp}{M:dh}{X:Cx}(S:m8 nm X.K ι H M):∀(k:Nat)(x y:Dv)(v:V)(r:Bool),Rep X.K ι H x v->Rep X.K ι H y v->MW.Jy M k x y=some r->r=true
 |0,_,_,_,_,_,_,h=>by cases h
 |k+1,x,y,v,r,rx,ry,h=>by
  have ih:=abe S k;cases abd h with
  |non=>rfl|bl a b=>cases rx;cases ry;simp|int a b=>cases rx;cases ry;simp|str a b=>cases rx;cases ry;simp
  |tup h=>cases rx with
   |tup e1 r1=>cases ry with
    |tup e2 r2=>rw[e1] at e2;cases e2;exact Oj ih r1 r2 h
  |lst h1 h2 h3 =>
   obtain⟨vs,r1,r2⟩:=ad7 S rx ry h1 h2;rw[cz (r1.length.trans r2.length.symm)] at h3;exact Oj ih r1 r2 h3
def Vals.ad8{j:Nat}(r:Vals xs us)(h1:xs[j]?=some v)(h2:us[j]?=some u):RelV v u:=by obtain⟨u',e1,e2⟩:=L2.Vals.get r h1;rw[h2] at e1;cases e1;exact e2
theorem Qp{ι:Io}{H:Hp}{K:Fg}:∀{l:List (List Kx×Dv)}{l':List (List Key×V)},uc K ι H (λk k'=>k=k') l l'->l'.map (·.1)=l.map (·.1)
 |_,_,.nil=>rfl|_,_,.cons k h t=>by simp[Qp t,k]
def aif(r:KT H l xs):xs.map (·.1)=l.map (·.1)/\∀x∈xs,H x.2.1=some (.tup (x.1.map kV)):=by
 induction r with
 |nil=>exact⟨rfl,by simp⟩
 |@cons p q ps qs hq t ih =>
  refine⟨by simp[ih.1,hq.1],λx hx=>?_⟩;rcases bz.mp hx with rfl|hx
  . rw[<- hq.1];exact hq.2.1
  . exact ih.2 x hx
set_option tactic.hygienic true in
theorem Wv{nm:Nm}{X:Cx}{ι:Io}{H:Hp}{σ:St}{M:dh}{pins:Zp}{s:Shared}(I:Inv X pins σ H s)(S:m8 nm X.K ι H M):∀(k:Nat)(A:Around)(x y:Dv)(v u:V)(v' u':Value)(r:Bool),Aj k A->Rep X.K ι H x v->Rep X.K ι H y u->RelV v v'->RelV u u'->MW.Jy M k x y=some r->SeqAt.EqAt A s v' u' r
 |0,_,_,_,_,_,_,_,_,_,_,_,_,_,h=>by cases h
 |k+1,A,x,y,v,u,v',u',r,hr,rx,ry,rv,ru,h=>by
  have ih:=Wv I S k A.in1;have hr1:=hr.in1;have elems:∀(ds es:List Dv)(vs ws:List V)(is js:Zl)(rr:Bool),m6 X.K ι H ds vs->m6 X.K ι H es ws->Vals vs is->Vals ws js->MW.Qv (MW.Jy M k) ds es=some rr ->
   ∀j (h1:j<is.toArray.size) (h2:j<js.toArray.size),SeqAt.EqAt A.in1 s is.toArray[j] js.toArray[j] (G4 (MW.Jy M k) ds es j):=λds es vs ws is js rr rd re Yb rws he j h1 h2=>by
   have l1:j<ds.length:=by rw[rd.length,Yb.length];simpa using h1
   have l2:j<es.length:=by rw[re.length,rws.length];simpa using h2
   have g1:ds[j]?=some ds[j]:=by simp[l1]
   have g2:es[j]?=some es[j]:=by simp[l2]
   obtain⟨c,hc⟩:=(Ie he).1 j _ _ g1 g2;obtain⟨va,a1,a2⟩:=rd.get g1;obtain⟨wa,b1,b2⟩:=re.get g2;have q1:is[j]?=some is.toArray[j]:=by simp
   have q2:js[j]?=some js.toArray[j]:=by simp
   have:=ih _ _ va wa _ _ c hr1 a2 b2 (Vals.ad8 Yb a1 q1) (Vals.ad8 rws b1 q2) hc;have z:G4 (MW.Jy M k) ds es j=c:=by simp[G4,g1,g2,hc]
   rw[z];exact this
  have lists:∀(p p2:Addr)(ds es:List Dv),v=.ref p->u=.ref p2->MW.fc M x=some ds->MW.fc M y=some es->(if ds.length=es.length then MW.Qv (MW.Jy M k) ds es else some false)=some r->SeqAt.EqAt A s v' u' r:=λp p2 ds es hv hu h1 h2 h3=>by
   subst hv hu;cases rv;cases ru;obtain⟨_,vs,hv,g1,g2⟩:=t7 S rx h1;cases hv;obtain⟨_,ws,hw,g3,g4⟩:=t7 S ry h2;cases hw
   by_cases hpp:p=p2
   . subst hpp
     have:r=true:=by rw[g1] at g3;cases g3;rw[cz (g2.length.trans g4.length.symm)] at h3;exact Oj (λx y v r a b c=>abe S k x y v r a b c) g2 g4 h3
     rw[this];exact SeqAt.EqAt.same _
   . refine SeqAt.EqAt.of_refs hpp ?_
     obtain⟨is,r1,pl1,_⟩:=I.list (Ia.of g1);obtain⟨js,r2,pl2,_⟩:=I.list (Ia.of g3)
     by_cases hl:ds.length=es.length
     . rw[cz hl] at h3
       have hsz:is.toArray.size=js.toArray.size:=by simp[<- r1.length,<- r2.length,<- g2.length,<- g4.length,hl]
       have:=SeqAt.RcAt.lists (e:=G4 (MW.Jy M k) ds es) pl1.isList pl2.isList hsz hr.Wc (elems ds es vs ws is js r g2 g4 r1 r2 h3);rw[(Ie h3).2];have e1:is.toArray.size=min ds.length es.length:=by simp[<- r1.length,<- g2.length,hl]
       rw[e1] at this;simpa[hl] using this
     . rw[bw hl] at h3
       cases h3;exact SeqAt.RcAt.lists_lengths pl1.isList pl2.isList (by simp[<- r1.length,<- r2.length,<- g2.length,<- g4.length,hl]) hr.Wc
  cases abd h with
  |non=>cases rx;cases ry;cases rv;cases ru;exact SeqAt.EqAt.same _|bl a b=>cases rx;cases ry;cases rv;cases ru;exact SeqAt.EqAt.bool_bool _ _
  |int a b =>
   cases rx;cases ry;obtain⟨t,rfl⟩:=rv;obtain⟨t2,rfl⟩:=ru;rw[<- Bool.beq_eq_decide_eq];exact SeqAt.EqAt.int_int _ _ _ _
  |str a b =>
   cases rx;cases ry;obtain⟨t,rfl⟩:=rv;obtain⟨t2,rfl⟩:=ru;rw[<- Bool.beq_eq_decide_eq];exact SeqAt.EqAt.str_str _ _ _ _
  |@tup ds es _ h=>cases rx with
   |@tup p _ vs e1 r1=>cases ry with
    |@tup p2 _ ws e2 r2 =>
     cases rv;cases ru
     by_cases hpp:p=p2
     . subst hpp
       have:r=true:=by rw[e1] at e2;cases e2;exact Oj (λx y v r a b c=>abe S k x y v r a b c) r1 r2 h
       rw[this];exact SeqAt.EqAt.same _
     . refine SeqAt.EqAt.of_refs hpp ?_
       obtain⟨is,g1,pl1,_⟩:=I.tuple (Jh.of e1);obtain⟨js,g2,pl2,_⟩:=I.tuple (Jh.of e2);have:=SeqAt.RcAt.tuples (e:=G4 (MW.Jy M k) ds es) (show s.heap.IsTuple p is.toArray from pl1) (show s.heap.IsTuple p2 js.toArray from pl2) hr.Wc (elems ds es vs ws is js r r1 r2 g1 g2 h);rw[(Ie h).2];have z1:is.toArray.size=ds.length:=by simp[<- g1.length,<- r1.length]
       have z2:js.toArray.size=es.length:=by simp[<- g2.length,<- r2.length]
       rw[z1,z2] at this;exact this
  |lst h1 h2 h3 =>
   obtain⟨p,_,e1,_⟩:=t7 S rx h1;obtain⟨p2,_,e2,_⟩:=t7 S ry h2;exact lists p p2 _ _ e1 e2 h1 h2 h3
inductive abf(A:Around)(s:Shared):Value->Value->Bool->Prop
 |Wa {p p2:Addr} {is js:U1} (e:Nat->Bool) (h1:s.heap.IsTuple p is) (h2:s.heap.IsTuple p2 js) (he:∀j (h1:j<is.size) (h2:j<js.size),SeqAt.EqAt A.in1 s is[j] js[j] (e j)):abf A s (.ref p) (.ref p2) ((List.range (min is.size js.size)).all e&&is.size==js.size)
 |a9g {p p2:Addr} {is js:U1} (e:Nat->Bool) (h1:s.heap.IsList p is) (h2:s.heap.IsList p2 js) (hz:is.size=js.size) (he:∀j (h1:j<is.size) (h2:j<js.size),SeqAt.EqAt A.in1 s is[j] js[j] (e j)):abf A s (.ref p) (.ref p2) ((List.range is.size).all e)
 |lens {p p2:Addr} {is js:U1} (h1:s.heap.IsList p is) (h2:s.heap.IsList p2 js) (hz:(is.size != js.size)=true):abf A s (.ref p) (.ref p2) false
def Zi{A:Around}(I:Inv X pins σ H s)(S:m8 nm X.K ι H M)(hr:Aj k A.in1)(rd:m6 X.K ι H ds vs)(re:m6 X.K ι H es ws)(Yb:Vals vs is)(rws:Vals ws js)(he:MW.Qv (MW.Jy M k) ds es=some rr) :
 ∀j (h1:j<is.toArray.size) (h2:j<js.toArray.size),SeqAt.EqAt A.in1 s is.toArray[j] js.toArray[j] (G4 (MW.Jy M k) ds es j):=λj h1 h2=>by
 have l1:j<ds.length:=by rw[rd.length,Yb.length];simpa using h1
 have l2:j<es.length:=by rw[re.length,rws.length];simpa using h2
 have g1:ds[j]?=some ds[j]:=by simp[l1]
 have g2:es[j]?=some es[j]:=by simp[l2]
 obtain⟨c,hc⟩:=(Ie he).1 j _ _ g1 g2;obtain⟨va,a1,a2⟩:=rd.get g1;obtain⟨wa,b1,b2⟩:=re.get g2;have q1:is[j]?=some is.toArray[j]:=by simp
 have q2:js[j]?=some js.toArray[j]:=by simp
 have:=Wv I S k A.in1 _ _ va wa _ _ c hr a2 b2 (Vals.ad8 Yb a1 q1) (Vals.ad8 rws b1 q2) hc;have z:G4 (MW.Jy M k) ds es j=c:=by simp[G4,g1,g2,hc]
 rw[z];exact this
def agm(I:Inv X pins σ H s)(S:m8 nm X.K ι H M)(hr:Aj k A.in1)(rx:Rep X.K ι H x v)(ry:Rep X.K ι H y u)(rv:RelV v v')(ru:RelV u u')(h1:MW.fc M x=some ds)(h2:MW.fc M y=some es)(h3:(if ds.length=es.length then MW.Qv (MW.Jy M k) ds es else some false)=some r):abf A s v' u' r:=by
 obtain⟨p,vs,rfl,g1,g2⟩:=t7 S rx h1;obtain⟨p2,ws,rfl,g3,g4⟩:=t7 S ry h2;cases rv;cases ru;obtain⟨is,r1,pl1,_⟩:=I.list (Ia.of g1);obtain⟨js,r2,pl2,_⟩:=I.list (Ia.of g3)
 by_cases hl:ds.length=es.length
 . rw[cz hl] at h3
   have hsz:is.toArray.size=js.toArray.size:=by simp[<- r1.length,<- r2.length,<- g2.length,<- g4.length,hl]
   have z:=abf.a9g (A:=A) (G4 (MW.Jy M k) ds es) pl1.isList pl2.isList hsz (Zi I S hr g2 g4 r1 r2 h3);rw[(Ie h3).2];have e1:is.toArray.size=min ds.length es.length:=by simp[<- r1.length,<- g2.length,hl]
   rw[e1] at z;simpa[hl] using z
 . rw[bw hl] at h3
   cases h3;exact .lens pl1.isList pl2.isList (by simp[<- r1.length,<- r2.length,<- g2.length,<- g4.length,hl])
set_option tactic.hygienic true in
def ad9(I:Inv X pins σ H s)(S:m8 nm X.K ι H M)(hr:Aj k A.in1)(rx:Rep X.K ι H x v)(ry:Rep X.K ι H y u)(rv:RelV v v')(ru:RelV u u')(h:MW.Jy M (k+1) x y=some r) :
 abf A s v' u' r\/(a00 v u=true/\r=decide (v=u)):=by
 cases abd h with
 |non=>cases rx;cases ry;exact .inr ⟨rfl,by simp⟩|bl a b=>cases rx;cases ry;exact .inr ⟨rfl,by by_cases z:a=b<;>simp[z]⟩|int a b=>cases rx;cases ry;exact .inr ⟨rfl,by by_cases z:a=b<;>simp[z]⟩|str a b=>cases rx;cases ry;exact .inr ⟨rfl,by by_cases z:a=b<;>simp[z]⟩
 |@tup ds es _ h=>cases rx with
  |@tup p _ vs e1 r1=>cases ry with
   |@tup p2 _ ws e2 r2 =>
    cases rv;cases ru;obtain⟨is,g1,pl1,_⟩:=I.tuple (Jh.of e1);obtain⟨js,g2,pl2,_⟩:=I.tuple (Jh.of e2);have z:=abf.Wa (A:=A) (G4 (MW.Jy M k) ds es) (show s.heap.IsTuple p is.toArray from pl1) (show s.heap.IsTuple p2 js.toArray from pl2) (Zi I S hr r1 r2 g1 g2 h);rw[(Ie h).2];have z1:is.toArray.size=ds.length:=by simp[<- g1.length,<- r1.length]
    have z2:js.toArray.size=es.length:=by simp[<- g2.length,<- r2.length]
    rw[z1,z2] at z;exact .inl z
 |lst h1 h2 h3=>exact .inl (agm I S hr rx ry rv ru h1 h2 h3)
def abf.rc(h:abf A s v u r)(hu:A.units<cLine):SeqAt.RcAt A s v u r/\SeqAt.RcNeAt A s v u (!r):=by
 cases h with
 |Wa e h1 h2 he=>exact⟨SeqAt.RcAt.tuples h1 h2 hu he,SeqAt.RcNeAt.tuples h1 h2 hu he⟩|a9g e h1 h2 hz he=>exact⟨SeqAt.RcAt.lists h1 h2 hz hu he,SeqAt.RcNeAt.lists h1 h2 hz hu he⟩|lens h1 h2 hz=>exact⟨SeqAt.RcAt.lists_lengths h1 h2 hz hu,SeqAt.RcNeAt.lists_lengths h1 h2 hz hu⟩
def bfd(hr:Aj 6 X.A):Cz X (compareOp .Eq) (Vh nm X.K .eq):=λpins s σ H v u v' u' Q I rv ru hh=>by
 obtain⟨ι,M,x,y,b,S,rx,ry,e,q⟩:=hh;have e:MW.Jy M 6 x y=some b:=e;rcases ad9 (A:=X.A) I S hr.in1 rx ry rv ru e with h|⟨h1,h2⟩
 . exact(h.rc hr.Wc).1 X.prog X.w X.xe _ ⟨.bl b,H,I,rfl,q⟩
 . subst h2
   exact a7m pins s σ H v u v' u' Q I rv ru ⟨h1,q⟩
def bfe(hr:Aj 6 X.A):Cz X (compareOp .NotEq) (Vh nm X.K .ne):=λpins s σ H v u v' u' Q I rv ru hh=>by
 obtain⟨ι,M,x,y,b,S,rx,ry,e,q⟩:=hh;obtain⟨b',e1,e2⟩:=bx.mp (show(MW.xx M x y).map not=some b from e);subst e2;rcases ad9 (A:=X.A) I S hr.in1 rx ry rv ru (show MW.Jy M 6 x y=_ from e1) with h|⟨h1,h2⟩
 . exact(h.rc hr.Wc).2 X.prog X.w X.xe _ ⟨.bl !b',H,I,rfl,q⟩
 . subst h2
   exact a7n pins s σ H v u v' u' Q I rv ru ⟨h1,q⟩
section
variable{nm:Nm}{W:Jp}{X:Cx}{a b c o:Expr}{a' b' c' o':Ex}{pos pos' apos:Pos}{ι:Io}{H:Hp}{σ:St}{ρ:En}{M M1 M2:dh}{x y:Dv}{es:Ya}{es':Cr}
set_option tactic.hygienic true in
theorem Fq:∀{ds:List Dv}{bs:List Bool},MW.Qg M x ds=some bs->bs.length=ds.length/\∀(j:Nat) d,ds[j]?=some d->∃b,bs[j]?=some b/\MW.xx M d x=some b
 |[],bs,h=>by cases h;exact⟨rfl,λj d e=>by simp at e⟩
 |y::ys,bs,h=>by
  simp only[MW.Qg] at h;split at h
  . rename_i a b h1 h2
    cases h;obtain⟨g1,g2⟩:=Fq h2;refine⟨by simp[g1],λj d e=>?_⟩;cases j with
    |zero=>simp at e;subst e;exact⟨a,rfl,h1⟩|succ j=>simpa using g2 j d (by simpa using e)
  . cases h
def G8(I:Inv X pins σ H s)(e:aa7 X.K H p vs):(∃o,H p=some (.N7 o (.lst vs)))\/(H p=none/\∃(o:Obj)(yw:U1)(n:Nat),X.K.lookup p=some o/\o.data=.seq yw n/\Vals vs yw.toList):=by
 rcases e with h|⟨o,yw,n,h1,_,_,h2,_,h3⟩
 . exact .inl h
 . exact .inr ⟨(I.bs p o (I.mod.kin p o h1)).2,o,yw,n,h1,h2,h3⟩
def a2b(I:Inv X pins σ H s)(e:aa7 X.K H p vs)(e2:aa7 X.K H p ws):vs=ws:=by
 rcases G8 I e with⟨o,h⟩|⟨h,o,yw,n,h1,h2,h3⟩
 . rcases G8 I e2 with⟨o',h'⟩|⟨h',_⟩
   . rw[h] at h';cases h';rfl
   . rw[h] at h';cases h'
 . rcases G8 I e2 with⟨o',h'⟩|⟨_,o',its',n',h1',h2',h3'⟩
   . rw[h] at h';cases h'
   . rw[h1] at h1';cases h1'
     rw[h2] at h2';cases h2';exact Vals.inj h3 h3'
mutual
theorem aih{pins:Zp}{s:Shared}(I:Inv X pins σ H s)(S:m8 nm X.K ι H M):∀{d d':Dv}{v:V},Rep X.K ι H d v->Rep X.K ι H d' v->d=d'
 |_,_,_,.non,r=>by cases r;rfl|_,_,_,.bl b,r=>by cases r;rfl|_,_,_,.int i,r=>by cases r;rfl|_,_,_,.str z,r=>by cases r;rfl
 |_,_,_,.tup e1 r1,r=>by
  cases r with
  |tup e2 r2 =>
   rw[e1] at e2;cases e2;rw[Rn I S r1 r2]
  |vl e2 n2 r2=>rw[e1] at e2;cases e2
  |fz e2 r2 =>
   rcases G8 I e2 with⟨o,h⟩|⟨h,_⟩
   . rw[e1] at h;cases h
   . rw[e1] at h;cases h
  |ref e2 =>
   obtain⟨u,q,mu⟩:=S.mem (ao e2);rw[e1] at mu;exact mu.elim
 |_,_,_,.vl e1 n1 r1,r=>by
  cases r with
  |tup e2 r2=>rw[e1] at e2;cases e2
  |vl e2 n2 r2 =>
   rw[e1] at e2;cases e2;rw[Rn I S r1 r2]
  |fz e2 r2 =>
   rcases G8 I e2 with⟨o,h⟩|⟨h,_⟩
   . rw[e1] at h;cases h
   . rw[e1] at h;cases h
  |ref e2=>exact absurd (ao e2) n1.1
 |_,_,_,.fz e1 r1,r=>by
  cases r with
  |tup e2 r2 =>
   rcases G8 I e1 with⟨o,h⟩|⟨h,_⟩
   . rw[e2] at h;cases h
   . rw[e2] at h;cases h
  |vl e2 n2 r2 =>
   rcases G8 I e1 with⟨o,h⟩|⟨h,_⟩
   . rw[e2] at h;cases h
   . rw[e2] at h;cases h
  |fz e2 r2 =>
   have:=a2b I e1 e2;subst this;rw[Rn I S r1 r2]
  |ref e2 =>
   obtain⟨u,q,mu⟩:=S.mem (ao e2);rcases G8 I e1 with⟨o,h⟩|⟨h,_⟩
   . rw[h] at mu;exact mu.elim
   . rw[h] at q;cases q
 |_,_,_,.ref e1,r=>by
  cases r with
  |tup e2 r2 =>
   obtain⟨u,q,mu⟩:=S.mem (ao e1);rw[e2] at mu;exact mu.elim
  |vl e2 n2 r2=>exact absurd (ao e1) n2.1
  |fz e2 r2 =>
   obtain⟨u,q,mu⟩:=S.mem (ao e1);rcases G8 I e2 with⟨o,h⟩|⟨h,_⟩
   . rw[h] at mu;exact mu.elim
   . rw[h] at q;cases q
  |ref e2 =>
   obtain⟨l1,q1⟩:=ak.mp e1;obtain⟨l2,q2⟩:=ak.mp e2;rw[(Ar S.nd).mp (q1.trans q2.symm)]
theorem Rn{pins:Zp}{s:Shared}(I:Inv X pins σ H s)(S:m8 nm X.K ι H M):∀{ds ds':List Dv}{vs:List V},m6 X.K ι H ds vs->m6 X.K ι H ds' vs->ds=ds'
 |_,_,_,.nil,r=>by cases r;rfl
 |_,_,_,.cons h t,r=>by
  cases r with
  |cons h2 t2=>rw[aih I S h h2,Rn I S t t2]
end
def Ro(I:Inv X pins σ H s)(S:m8 nm X.K ι H M)(hr:Aj 6 A)(rd:m6 X.K ι H ds vs)(rv:Vals vs is)(rx:Rep X.K ι H x u)(ru:RelV u u')(h:MW.Qg M x ds=some bs):∃e:Value->Bool,(∀w,w∈is.toArray->SeqAt.EqAt A s w u' (e w))/\∀(j:Nat)(w:Value),is[j]?=some w->bs[j]?=some (e w):=by
 obtain⟨g1,g2⟩:=Fq h;have at':∀(j:Nat)(w:Value),is[j]?=some w->∃b,bs[j]?=some b/\SeqAt.EqAt A s w u' b:=λj w hw=>by
  have lj:j<ds.length:=by rw[rd.length,rv.length];exact(ak.mp hw).1
  have gd:ds[j]?=some ds[j]:=by simp[lj]
  obtain⟨b,e1,e2⟩:=g2 j _ gd;obtain⟨v,a1,a2⟩:=rd.get gd;exact⟨b,e1,Wv I S 6 A _ _ v u w u' b hr a2 rx (Vals.ad8 rv a1 hw) ru e2⟩
 classical
 refine⟨λw=>if hw:∃j:Nat,is[j]?=some w then(bs[hw.choose]?).getD false else false,λw hw=>?_,λj w hw=>?_⟩
 . obtain⟨j,hj,e⟩:=qp (by simpa using hw:w∈is)
   have hex:∃j:Nat,is[j]?=some w:=⟨j,by simp[hj,e]⟩;obtain⟨b,e1,e2⟩:=at' hex.choose w hex.choose_spec;simp only[dif_pos hex,e1,zf];exact e2
 . have hex:∃j:Nat,is[j]?=some w:=⟨j,hw⟩
   obtain⟨b,e1,e2⟩:=at' j w hw;obtain⟨b',e3,e4⟩:=at' hex.choose w hex.choose_spec;simp only[dif_pos hex,e3,zf];rw[e1]
   congr 1
   have lj:j<ds.length:=by rw[rd.length,rv.length];exact(ak.mp hw).1
   have lk:hex.choose<ds.length:=by rw[rd.length,rv.length];exact(ak.mp hex.choose_spec).1
   have gd:ds[j]?=some ds[j]:=by simp[lj]
   have gk:ds[hex.choose]?=some ds[hex.choose]:=by simp[lk]
   obtain⟨c1,q1,q2⟩:=g2 j _ gd;obtain⟨c2,q3,q4⟩:=g2 hex.choose _ gk;obtain⟨v1,p1,p2⟩:=rd.get gd;obtain⟨v2,p3,p4⟩:=rd.get gk;have hv:v1=v2:=RelV.inj (Vals.ad8 rv p1 hw) (Vals.ad8 rv p3 hex.choose_spec);subst hv;rw[e1] at q1;rw[e3] at q3;cases q1;cases q3;have hd:=aih I S p2 p4;rw[hd,q4] at q2;exact(jn q2).symm
def Vj{is:Zl}{bs:List Bool}(hl:bs.length=is.length)(h:∀(j:Nat) (w:Value),is[j]?=some w->bs[j]?=some (e w)):bs=is.map e:=by
 apply vd;intro j;rw[gr];cases q:is[j]? with
 |none=>rw[kj (by rw[hl];exact List.getElem?_eq_none_iff.mp q)];rfl|some w=>rw[h j w q];rfl
set_option tactic.hygienic true in
def bff(hr:Aj 8 X.A):Cz X (compareOp .In) (Vh nm X.K .inn):=λpins s σ H v u v' u' Q I rv ru hh=>by
 obtain⟨ι,M,x,y,b,S,rx,ry,e,q⟩:=hh;have e:MW.O9 M x y=some b:=e;have hu:X.A.units+1<cLine:=ado hr
 have seq:∀ds,MW.Bq M y=some ds->MW.memD M x ds=some b->wpAny (model X.prog X.w) X.A (compareOp .In v' u') (EP X pins σ Q) X.xe s:=λds h1 h2=>by
  obtain⟨bs,e1,e2⟩:=bx.mp (show(MW.Qg M x ds).map (·.any id)=some b from h2);obtain⟨p,vs,rfl,hp,r⟩:=Km S ry h1;cases ru;rcases hp with hp|hp
  . obtain⟨is,r1,pl,_⟩:=I.list (Ia.of hp)
    obtain⟨f,g1,g2⟩:=Ro (A:=X.A.in1) I S ((hr.mono (by decide:7<=8)).in1) r r1 rx rv e1;refine SeqAt.in_listAt f pl.isList g1 ?_;have:=Vj (by rw[(Fq e1).1,r.length,r1.length]) g2;rw[this] at e2;rw[show is.toArray.any f=b by rw[<- e2];simp[List.any_map]];exact⟨.bl b,H,I,rfl,q⟩
  . obtain⟨is,r1,pl,_⟩:=I.tuple (Jh.of hp)
    obtain⟨f,g1,g2⟩:=Ro (A:=X.A.in1) I S ((hr.mono (by decide:7<=8)).in1) r r1 rx rv e1;refine SeqAt.in_tupleAt f (show s.heap.IsTuple p is.toArray from pl) g1 ?_;have:=Vj (by rw[(Fq e1).1,r.length,r1.length]) g2;rw[this] at e2;rw[show is.toArray.any f=b by rw[<- e2];simp[List.any_map]];exact⟨.bl b,H,I,rfl,q⟩
 cases ry with
 |@ref n p e1 =>
  simp only[MW.O9] at e;split at e
  . rename_i ie hM
    obtain⟨k,e2,e3⟩:=bx.mp e;obtain⟨l,h1,h2⟩:=S.obj n _ p hM e1;obtain⟨bb,rfl,hb⟩:=Wo rx e2;cases ru;refine a71 hu I (Od.t h1 hb) rv λs' I'=>⟨.bl b,H,I',?_,q⟩
    rw[<- e3];cases hk:MW.vq ie k with
    |none=>rw[(h2.look (k:=k)).2 hk];rfl|some d=>obtain⟨z,h3,_⟩:=(h2.look (k:=k)).1 d hk;rw[h3];rfl
  . rename_i ie hM
    obtain⟨k,e2,e3⟩:=bx.mp e;obtain⟨l,h1,h2⟩:=S.obj n _ p hM e1;have hy:=Ti rx e2;subst hy;cases ru;refine a71 hu I (Od.k h1) rv λs' I'=>⟨.bl b,H,I',?_,q⟩
    rw[<- e3];cases hk:MW.vq ie k with
    |none=>rw[(h2.look (k:=k)).2 hk];rfl|some d=>obtain⟨z,h3,_⟩:=(h2.look (k:=k)).1 d hk;rw[h3];rfl
  . obtain⟨ds,h1,h2⟩:=dq.mp e
    exact seq ds h1 h2
 |_ =>
  simp only[MW.O9] at e;obtain⟨ds,h1,h2⟩:=dq.mp e;exact seq ds h1 h2
set_option tactic.hygienic true in
def avf(hr:Aj 8 X.A):Cz X (compareOp .NotIn) (Vh nm X.K .Qx):=λpins s σ H v u v' u' Q I rv ru hh=>by
 obtain⟨ι,M,x,y,b0,S,rx,ry,e,q⟩:=hh;obtain⟨b,e',eb⟩:=bx.mp (show(MW.O9 M x y).map not=some b0 from e);subst eb;have hu:X.A.units+1<cLine:=ado hr
 have seq:∀ds,MW.Bq M y=some ds->MW.memD M x ds=some b->wpAny (model X.prog X.w) X.A (compareOp .NotIn v' u') (EP X pins σ Q) X.xe s:=λds h1 h2=>by
  obtain⟨bs,e1,e2⟩:=bx.mp (show(MW.Qg M x ds).map (·.any id)=some b from h2);obtain⟨p,vs,rfl,hp,r⟩:=Km S ry h1;cases ru;rcases hp with hp|hp
  . obtain⟨is,r1,pl,_⟩:=I.list (Ia.of hp)
    obtain⟨f,g1,g2⟩:=Ro (A:=X.A.in1) I S ((hr.mono (by decide:7<=8)).in1) r r1 rx rv e1;refine SeqAt.notIn_listAt f pl.isList g1 ?_;have:=Vj (by rw[(Fq e1).1,r.length,r1.length]) g2;rw[this] at e2;rw[show is.toArray.any f=b by rw[<- e2];simp[List.any_map]];exact⟨.bl !b,H,I,rfl,q⟩
  . obtain⟨is,r1,pl,_⟩:=I.tuple (Jh.of hp)
    obtain⟨f,g1,g2⟩:=Ro (A:=X.A.in1) I S ((hr.mono (by decide:7<=8)).in1) r r1 rx rv e1;refine SeqAt.notIn_tupleAt f (show s.heap.IsTuple p is.toArray from pl) g1 ?_;have:=Vj (by rw[(Fq e1).1,r.length,r1.length]) g2;rw[this] at e2;rw[show is.toArray.any f=b by rw[<- e2];simp[List.any_map]];exact⟨.bl !b,H,I,rfl,q⟩
 cases ry with
 |@ref n p e1 =>
  clear e;simp only[MW.O9] at e';split at e'
  . rename_i ie hM
    obtain⟨k,e2,e3⟩:=bx.mp e';obtain⟨l,h1,h2⟩:=S.obj n _ p hM e1;obtain⟨bb,rfl,hb⟩:=Wo rx e2;cases ru;refine ah3 hu I (Od.t h1 hb) rv λs' I'=>⟨.bl !b,H,I',?_,q⟩
    rw[<- e3];cases hk:MW.vq ie k with
    |none=>rw[(h2.look (k:=k)).2 hk];rfl|some d=>obtain⟨z,h3,_⟩:=(h2.look (k:=k)).1 d hk;rw[h3];rfl
  . rename_i ie hM
    obtain⟨k,e2,e3⟩:=bx.mp e';obtain⟨l,h1,h2⟩:=S.obj n _ p hM e1;have hy:=Ti rx e2;subst hy;cases ru;refine ah3 hu I (Od.k h1) rv λs' I'=>⟨.bl !b,H,I',?_,q⟩
    rw[<- e3];cases hk:MW.vq ie k with
    |none=>rw[(h2.look (k:=k)).2 hk];rfl|some d=>obtain⟨z,h3,_⟩:=(h2.look (k:=k)).1 d hk;rw[h3];rfl
  . obtain⟨ds,h1,h2⟩:=dq.mp e'
    exact seq ds h1 h2
 |_ =>
  simp only[MW.O9] at e';obtain⟨ds,h1,h2⟩:=dq.mp e';exact seq ds h1 h2
end
open Yh (Dg Sd)
def KH(H:Hp)(x:List Key×Addr):Prop:=H x.2=some (.tup (x.1.map kV))/\∀k∈x.1,∃i,k=.inl i
def aea(P:Program)(w:World)(H:Hp):Yh.R9 (ou P w) (KH H):=λx hx k hk v n hv=>by
 obtain⟨i,rfl⟩:=hx.2 k hk;rcases Az (show V9 (Sum.inl i) v=true from hv) with⟨j,t,e,rfl⟩|⟨y,t,e,_⟩
 . unfold hashByValue;rfl
 . cases e
def Tc:∀ks:List Kx,MW.Ux (MW.amv ks)=some ks:=λks=>by
 show MW.Z9 (ks.map MW.amu)=some ks
 induction ks with
 |nil=>rfl|cons k ks ih=>cases k<;>simp[MW.Z9,MW.amu,MW.Sq,ih]
theorem Ww:∀{l:List (List Kx×Dv)},MW.Du (l.map λp=>MW.amv p.1)=some (l.map (·.1))
 |[]=>rfl|p::l=>by simp[MW.Du,Tc,Ww]
set_option tactic.hygienic true in
theorem aii{ι:Io}{H:Hp}{K:Fg}:∀{ds:List Dv}{vs:List V}{ks:List (List Kx)},m6 K ι H ds vs->MW.Du ds=some ks->∃bs:List Addr,vs=bs.map V.ref/\bs.length=ks.length/\∀x∈ks.zip bs,H x.2=some (.tup (x.1.map kV))
 |_,_,_,.nil,h=>by simp[MW.Du] at h;subst h;exact⟨[],rfl,rfl,by simp⟩
 |_,_,_,.cons r t,h=>by
  simp only[MW.Du] at h;split at h
  . rename_i k ks' h1 h2
    cases h;obtain⟨b,rfl,e⟩:=Wo r h1;obtain⟨bs,rfl,hl,hz⟩:=aii t h2;refine⟨b::bs,rfl,by simp[hl],λx hx=>?_⟩;simp only[List.zip_cons_cons,bz] at hx;rcases hx with rfl|hx
    . exact e
    . exact hz x hx
  . cases h
def ak2(h:MW.Dw ks=true):ks.length<=30/\∀k∈ks,∀x∈k,∃i,x=Sum.inl i:=by
 simp only[MW.Dw,aq,dm,iz] at h;refine⟨h.1,λk hk x hx=>?_⟩;have:=h.2 k hk x hx;cases x with
 |inl i=>exact⟨i,rfl⟩|inr s=>cases this
set_option tactic.hygienic true in
def apx(hr:Aj 8 X.A)(I:Inv X pins σ H s)(S:m8 nm X.K ι H M)(rx:Rep X.K ι H x v)(ru:RelV v u)(hk:MW.keysOf M x=some ds)(hd:MW.Du ds=some ks)(pl:MW.Dw ks=true)(h:∀p o n s',Inv X ((p,o)::pins) σ H s'->Dg (ou X.prog X.w) (KH H) s'.heap p (λk=>k∈ks) n->s'.heap.get? p=some o->Q (.ref p) s') :
 wpAny (model X.prog X.w) X.A (call (.type "set") [u]) Q X.xe s:=by
 obtain⟨hlen,hint⟩:=ak2 pl;have hu:X.A.in1.in1.in1.units+1<cLine:=by have:=hr.un;show X.A.units+1+1+1+1<cLine;lia
 have kept:∀b o,s.heap.get? b=some o->(s.heap.push (Yh.Av X.w)).get? b=some o:=λb o e=>au _ e
 have I1:Inv X pins σ H { s with heap:=s.heap.push (Yh.Av X.w) }:=I.kept (t':=s.toks) kept;have fr:Dg (ou X.prog X.w) (KH H) (s.heap.push (Yh.Av X.w)) s.heap.objs.size (λ_=>False) 0:=Yh.asx (bu _ rfl);have fin:∀(h':Heap)(tk n':Nat),(∀b o,b≠s.heap.objs.size->(s.heap.push (Yh.Av X.w)).get? b=some o->h'.get? b=some o)->Dg (ou X.prog X.w) (KH H) h' s.heap.objs.size (λk=>k∈ks) n'->Q (.ref s.heap.objs.size) { s with heap:=h',toks:=tk }:=λh' tk n' hkp hS=>by
  have I2:Inv X pins σ H { s with heap:=h',toks:=tk }:=I.kept λb o e=>hkp b o (dz (az e)) (kept b o e)
  obtain⟨o,es,ep,t,hg,hc,hdt,_⟩:=hS.get;refine h _ o n' _ (I2.Rg λq hq=>?_) hS hg;rcases bz.mp hq with rfl|hq
  . refine⟨hg,I.Am.fresh (bh _),v5 I.lt,I.az5 (bh _),λv hv=>?_⟩
    rw[show o.data=_ from hdt] at hv;cases hv
  . exact I2.pin q (iw _ hq)
 have lst:∀p vs,v=.ref p->H p=some (.lst vs)->m6 X.K ι H ds vs->wpAny (model X.prog X.w) X.A (call (.type "set") [u]) Q X.xe s:=λp vs ev hp r=>by
  subst ev;cases ru;obtain⟨is,rv,pll,_⟩:=I1.list (Ia.of hp);obtain⟨bs,rfl,hbl,hz⟩:=aii r hd;have his:is=(ks.zip bs).map λx=>Value.ref x.2:=by
   apply vd;intro j;rw[gr]
   by_cases hj:j<bs.length
   . have e1:(bs.map V.ref)[j]?=some (.ref bs[j]):=by simp[hj]
     have hj2:j<is.length:=by have:=rv.length;simp at this;exact b_ hj (f_ this)
     have e2:is[j]?=some is[j]:=by simp[hj2]
     have:=Vals.ad8 rv e1 e2;rw[e2,show is[j]=Value.ref bs[j] from this];have hj3:j<ks.length:=b_ hj (f_ hbl)
     have hz2:(ks.zip bs)[j]?=some (ks[j],bs[j]):=by rw[cj (by simp;lia)];simp
     rw[hz2];rfl
   . have hj2:¬j<is.length:=by have:=rv.length;simp at this;exact j_ (a_ (g_ this) (s_ hj))
     rw[kj (s_ hj2),kj (by simp;lia)];rfl
  refine Yh.Mt (R:=λs'=>Q (.ref s.heap.objs.size) s') ?_ λs' h=>h
  refine Yh.aml (aea _ _ H) (ks:=ks.zip bs) (items:=is.toArray) (by have:=hr.hd;exact this) hu fr pll.isList (by simpa using his) (λx hx=>Oc I1.Am (hz x hx)) (λx hx=>⟨hz x hx,λk hk=>hint x.1 (List.of_mem_zip (a:=x.1) (b:=x.2) hx).1 k hk⟩) (by simp;lia) λh' tk n' hkp hS=>?_
  refine fin h' tk n' hkp (hS.congr λk=>?_);rw[List.map_fst_zip (g_ hbl)]
 unfold MW.keysOf at hk;split at hk
 . rename_i n
   split at hk
   . rename_i ie hM
     cases hk;rw[Ww] at hd;cases hd;cases rx with
     |@ref n p e1 =>
      obtain⟨l,h1,h2⟩:=S.obj n _ p hM e1;cases ru;obtain⟨_,hsm,xs,rel,dd⟩:=aoz I1.Am h1;obtain⟨k1,k2⟩:=aif rel;have k3:xs.map (·.1)=ie.map (·.1):=k1.trans (Qp h2);have hl:xs.length=ie.length:=by have:=qz List.length k3;simpa using this
      refine Yh.Mt (R:=λs'=>Q (.ref s.heap.objs.size) s') ?_ λs' h=>h
      refine Yh.ami (aea _ _ H) (by have:=hr.un;show X.A.units+1+1<cLine;lia) fr dd hsm (λx hx=>⟨k2 x hx,λk hk=>?_⟩) (by simp at hlen;lia) λh' n' sb hS=>?_
      . have:x.1∈ie.map (·.1):=by rw[<- k3];exact bf.mpr ⟨x,hx,rfl⟩
        exact hint x.1 this k hk
      . refine fin h' s.toks n' (λb o hb e=>(sb.2 b hb).trans e) (hS.congr λk=>?_)
        rw[k3];simp
   . obtain⟨p,vs,e1,e2,r⟩:=t7 S rx hk
     exact lst p vs e1 e2 r
 . obtain⟨p,vs,e1,e2,r⟩:=t7 S rx hk
   exact lst p vs e1 e2 r
def a9h(hS:Dg (ou P w) (KH H) h p T n)(hg:h.get? p=some o)(Yv:h'.get? p=some o)(le:∀a vs,H a=some (.tup vs)->H' a=some (.tup vs))(ok:Py P w H' h'):Dg (ou P w) (KH H') h' p T n:=by obtain⟨xs,o',es,ep,t,D,r⟩:=hS;have e:o'=o:=jn (D.get.symm.trans hg);subst e;refine⟨xs,o',es,ep,t,⟨Yv,D.exa,D.dat,D.tab,D.ent,λx hx=>?_,D.nod,D.led,D.pla⟩,r⟩;obtain⟨_,k1,k2⟩:=D.keys x hx;exact⟨Oc ok (le _ _ k1),le _ _ k1,k2⟩
def aeb:MW.Iu xs ys=true↔∀k,k∈xs↔k∈ys:=by
 simp only[MW.Iu,aq,iz,Aq,dm];constructor
 . rintro⟨h1,h2⟩ k
   exact⟨λh=>by obtain⟨y,hy,e⟩:=h1 k h;rw[<- e];exact hy,λh=>by obtain⟨y,hy,e⟩:=h2 k h;rw[<- e];exact hy⟩
 . exact λh=>⟨λx hx=>⟨x,(h x).mp hx,rfl⟩,λy hy=>⟨y,(h y).mpr hy,rfl⟩⟩
set_option tactic.hygienic true in
def avh(hr:Aj 8 X.A)(hg:Gl X xn)(hm:X.mg xn=none)(hv:bootBuiltins xn=some (.type "set"))(hn:xn≠"__name__")(Ui:(xn==("__debug__" : Str))=false)(ha:PA X [a] (Wj nm W X.K (.cons a' .nil)))(hb:PA X [b] (Wj nm W X.K (.cons b' .nil)))(he:starEach [a] X.env=(false,eval a X.env)::starEach [] X.env)(he2:starEach [b] X.env=(false,eval b X.env)::starEach [] X.env)(Ik:(backTo q1 (starEach [] X.env)).any (·.1)=false)(agn:(backTo q2 (starEach [] X.env)).any (·.1)=false) :
 PC X .NotEq (.Call (.Name xn p1) [a] [] q1) (.Call (.Name xn p2) [b] [] q2) (tE nm W X.K (.Vv a' b')):=by
 intro pins s σ H Q I hh;obtain⟨ι,ρ,M,d,M',S,R,e,q⟩:=hh;rw[MW.Yp] at e;obtain⟨x,M1,e1,e⟩:=gh e;cases hk1:(MW.keysOf M1 x).bind MW.Du with
 |none=>rw[hk1] at e;cases e
 |some ks =>
  rw[hk1] at e;simp only at e;split at e
  . rename_i pl1
    obtain⟨y,M2,e2,e⟩:=gh e;cases hk2:(MW.keysOf M2 y).bind MW.Du with
    |none=>rw[hk2] at e;cases e
    |some ls =>
     rw[hk2] at e;simp only at e;split at e
     . rename_i pl2
       cases e;obtain⟨ds1,g1,g1'⟩:=dq.mp hk1;obtain⟨ds2,g2,g2'⟩:=dq.mp hk2;refine jc (Dm I hg hm hv ?_ hn Ui);refine jh (Bu (ha q1 pins s σ H (λvs H1=>∃ι1 v,vs=[v]/\Le ι H ι1 H1/\m8 nm X.K ι1 H1 M1/\Rep X.K ι1 H1 x v) I ⟨ι,ρ,M,[x],M1,S,R,by simp[e1,Res.bind],fun ι1 H1 vs le S1 r=>?_⟩) λus s1 ⟨vs,H1,I1,r1,ι1,v,ev,Vg,S1,rx⟩=>?_) he Ik
       . obtain⟨v,ev,rv⟩:=Jl r rfl
         exact⟨ι1,v,ev,le,S1,rv⟩
       subst ev;cases r1 with
       |cons rv rn =>
        cases rn;refine apx hr I1 S1 rx rv g1 g1' pl1 λp o n s2 I2 hS hgp=>?_
        refine jc (Dm I2 hg hm hv ?_ hn Ui);refine jh (Bu (hb q2 _ s2 σ H1 (λvs H2=>∃ι2 v,vs=[v]/\Le ι1 H1 ι2 H2/\m8 nm X.K ι2 H2 M'/\Rep X.K ι2 H2 y v) I2 ⟨ι1,ρ,M1,[y],M',S1,R.mono Vg,by simp[e2,Res.bind],fun ι2 H2 vs le S2 r=>?_⟩) λus s3 ⟨vs,H2,I3,r2,ι2,v2,ev2,Ak,S2,ry⟩=>?_) he2 agn
        . obtain⟨v,ev,rv⟩:=Jl r rfl
          exact⟨ι2,v,ev,le,S2,rv⟩
        subst ev2;cases r2 with
        |cons rv2 rn2 =>
         cases rn2;refine apx hr I3 S2 ry rv2 g2 g2' pl2 λp' o' n' s4 I4 Vq blu=>?_
         have hp:s4.heap.get? p=some o:=(I4.pin (p,o) (iw _ (bc _ di))).1;have hS4:=a9h (H':=H2) hS hgp hp Ak.tup I4.Am;refine Yh.a5w (by have:=hr.un;show X.A.units+1<cLine;lia) (by have:=hr.un;lia) hS4 Vq λc hc=>?_
         have ec:c=!MW.Iu ks ls:=by have:=aeb (xs:=ks) (ys:=ls);cases c<;>cases h:MW.Iu ks ls<;>simp_all
         refine⟨.bl c,H2,(I4.Rg λz hz=>I4.pin z (iw _ (bc _ (bc _ hz)))),rfl,?_⟩;rw[ec];exact q ι2 H2 _ (Vg.trans Ak) S2 (.bl _)
     . cases e
  . cases e
def rM(nm:Nm)(K:Fg)(m:Bm):V->List V->Hp->VK->Prop:=λv vs H Q=>∃ι M x ds d M',m8 nm K ι H M/\Rep K ι H x v/\m6 K ι H ds vs/\MW.Jz m x ds M=.ok d M'/\(∀ts,x=.tup ts->m≠.index) /\
 ∀ι' H' w,Le ι H ι' H'->m8 nm K ι' H' M'->Rep K ι' H' d w->Q w H'
set_option tactic.hygienic true in
theorem a2d{id:String}(hT:∀ι H M x v,m8 nm X.K ι H M->Rep X.K ι H x v->MW.Qh m x M=true->tyV X.K T v H)(pa:PlainAttrs T)(slot:Slot T name id)(hty:typeOf (.builtin id)=pure (.type "method_descriptor"))(hm:MtR X id (rM nm X.K m))(ho:PE X o (tE nm W X.K o'))(ha:PA X (e::es) (Wj nm W X.K es'))(ao7:attributeBase o name X.env (eval o X.env)=eval o X.env)(a1b:((backTo We (starEach (e::es) X.env)).all (λx=>!x.1)&&(backToKw We (keywordEach [] X.env)).all (λx=>x.1.isSome)
&&decide ((e::es).length+([]:List Keyword).length+(if([]:List Keyword).isEmpty then 0 else 1)<30))=true)(ao8:(apos.endLine==We.line)=true)(hs:starEach (e::es) X.env=(false,eval e X.env)::starEach es X.env)(agi:(backTo We (starEach es X.env)).any (·.1)=false) :
 PE X (.Call (.Attribute o name apos) (e::es) [] We) (tE nm W X.K (.bm m o' es')) :=
 PE.of (a78 pa slot hty hm ho ha ao7 a1b ao8 hs agi) fun σ H Q ι ρ M d M' S R e q=>by
  rw[MW.aze] at e;obtain⟨x,M1,e1,e⟩:=gh e;split at e
  . rename_i ht
    obtain⟨ds,M2,e2,e⟩:=gh e;exact one S R e1 fun ι1 H1 v le S1 R1 r=>⟨hT ι1 H1 M1 x v S1 r ht,ι1,ρ,M1,ds,M2,S1,R1,e2,fun ι2 H2 vs Ak S2 rs=>⟨ι2,M2,x,ds,d,M',S2,r.mono Ak,rs,e,(λts hx hm=>by subst hx;subst hm;cases ht),fun ι' H' w Xo S' r'=>q ι' H' w ((le.trans Ak).trans Xo) S' r'⟩⟩
  . cases e
set_option tactic.hygienic true in
def ty_list{X:Cx}(hm:m=.append\/m=.index)(S:m8 nm X.K ι H M)(r:Rep X.K ι H x v)(h:MW.Qh m x M=true):tyV X.K "list" v H:=by
 have go:∀ds,MW.fc M x=some ds->tyV X.K "list" v H:=λds hd=>by obtain⟨p,vs,rfl,e2,_⟩:=t7 S r hd;exact .inl ⟨rfl,vs,Ia.of e2⟩
 rcases hm with rfl|rfl
 . cases x<;>simp only[MW.Qh] at h<;>try cases h
   split at h
   . rename_i n ds hM
     exact go ds (by simp only[MW.fc,hM])
   . cases h
 . have h:(MW.fc M x).isSome=true:=h
   obtain⟨ds,hd⟩:=m7.mp h;exact go ds hd
set_option tactic.hygienic true in
def avj(e:MW.Jz .append x ds M=.ok d M'):∃n d0 xs,x=.ref n/\ds=[d0]/\M[n]?=some (.lst xs)/\xs.length<100000/\d=.non/\M'=M.set n (.lst (xs++[d0])):=by
 unfold MW.Jz at e;split at e
 . rename_i n d0
   split at e
   . rename_i xs hM
     split at e
     . rename_i hl
       cases e;exact⟨_,_,_,rfl,rfl,hM,hl,rfl,rfl⟩
     . cases e
   . cases e
 . rename_i h;cases h
 . rename_i h;cases h
 . cases e
def avk(e:MW.Jz .index x ds M=.ok d M'):∃d0 xs j,ds=[d0]/\MW.Bq M x=some xs/\MW.Xx M d0 xs=some j/\d=.int ((j:Nat):Int)/\M'=M:=by
 match ds,e with
 |[d0],e =>
  have e:Res.vg (((MW.Bq M x).bind (MW.Xx M d0)).map λj=>MW.D.int ((j:Nat):Int)) M=.ok d M':=by rw[<- e];cases x<;>simp only[MW.Jz]<;>first|rfl|(generalize(MW.Bq M _).bind (MW.Xx M d0)=z;cases z<;>rfl)
  obtain⟨e1,e2⟩:=yr e;obtain⟨j,e3,e4⟩:=bx.mp e1;obtain⟨xs,e6,e7⟩:=dq.mp e3;exact⟨d0,xs,j,rfl,e6,e7,e4.symm,e2⟩
 |[],e=>cases x<;>simp[MW.Jz] at e|_::_::_,e=>cases x<;>simp[MW.Jz] at e
def apy:MtR X "list.append" (rM nm X.K .append):=λpins s σ H v vs u us Q I ru Yb hh=>by
 obtain⟨ι,M,x,ds,d,M',S,r,rs,e,_,q⟩:=hh;obtain⟨n,d0,xs,rfl,rfl,hM,hl,rfl,rfl⟩:=avj e;cases r with
 |ref ha =>
  obtain⟨ys,h3,h4⟩:=S.obj n _ _ hM ha;cases rs with
  |cons hd ht =>
   cases ht;refine Zb pins s σ H _ _ u us Q I ru Yb ⟨_,ys,_,rfl,rfl,h3,by rw[<- h4.length];exact Wt hl,?_⟩;obtain⟨S2,Ak⟩:=S.put (u:=.lst (ys++[_])) (o:=.lst (xs++[_])) hM ha λle=>⟨_,xf,(h4.mono le).append (.cons (hd.mono le) .nil)⟩
   exact q _ _ _ Ak S2 .non
def abg:∀{bs:List Bool}{j:Nat},bs.findIdx? id=some j->bs[j]?=some true/\∀m,m<j->bs[m]?=some false:=fun{bs j} h=>by obtain⟨h1,h2,h3⟩:=qm.mp h;refine⟨by rw[cj h1];simpa using h2,λm hm=>?_⟩;have:=h3 m hm;rw[cj (d_ hm h1)];simpa using this
def avl(hr:Aj 8 X.A):MtR X "list.index" (rM nm X.K .index):=λpins s σ H v vs u us Q I ru Yb hh=>by
 obtain⟨ι,M,x,ds,d,M',S,r,rs,e,nt,q⟩:=hh;obtain⟨d0,xs,j,rfl,e1,e2,rfl,rfl⟩:=avk e;cases rs with
 |cons hd ht =>
  cases ht;cases Yb with
  |cons hu ht2 =>
   cases ht2;obtain⟨bs,e3,e4⟩:=dq.mp (show(MW.Qg M' d0 xs).bind (·.findIdx? id)=some j from e2);obtain⟨p,ys,rfl,hp,rl⟩:=Km S r e1;cases ru;rcases hp with hp|hp
   . obtain⟨z,is,n,rv,hl,hg⟩:=I.au0 hp
     obtain⟨f,g1,g2⟩:=Ro (A:=X.A.in1) I S ((hr.mono (by decide:7<=8)).in1) rl rv hd hu e3;obtain⟨f1,f2⟩:=abg e4;have hb:=(Fq e3).1;have hlen:is.length=bs.length:=by rw[hb,rl.length,hl]
     have lj:j<is.length:=by rw[hlen];exact(ak.mp f1).1
     have fa:∀m (hm:m<is.length),bs[m]?=some (f is[m]):=λm hm=>g2 m _ (cj hm)
     have hT:s.TypeIs (.ref p) "list" := ⟨_,hg,rfl⟩;have hsz:is.length<=sizeLine:=by rw[<- hl];exact z
     rw[qy] at hsz;refine call_meetsIn F.slot_list_index hT F.entry_list_index (F.args_list_index_2 _ _) (λA R s h=>SeqAt.list_indexAt p is.toArray n none #[] _ f j (by simpa using lj) (by lia) ?_ ?_ _ _ A R s h) ⟨hg,g1,?_⟩
     . have:=fa j lj;rw[f1] at this;simpa using(jn this).symm
     . intro m hm hmj
       have hm:m<is.length:=by simpa using hm
       have:=fa m hm;rw[f2 m hmj] at this;simpa using(jn this).symm
     . exact⟨.int j,H,I.tok _,⟨_,rfl⟩,q ι H _ (Le.refl _ _) S (.int _)⟩
   . cases r with
     |tup e r=>exact absurd rfl (nt _ rfl)|vl e n r=>rw[hp] at e;cases e|fz e r=>simp[MW.Bq,MW.fc] at e1
     |ref e =>
      obtain⟨u',q',mu⟩:=S.mem (ao e);rw[hp] at mu;exact mu.elim
end Sm
namespace Yh
open PySem L2
def SmK(k:List Key):Prop:=∃i j:Int,-1<=i/\i<9/\-1<=j/\j<9/\k=[.inl i,.inl j]
noncomputable def aij(i j:Int):Int:=reduceHash (Builtin.Tuple.tupleHashOf [hashInt i,hashInt j])
noncomputable def rgI:List Int:=[-1,0,1,2,3,4,5,6,7,8]
def apz:(rgI.all λi=>rgI.all λj=>rgI.all λi'=>rgI.all λj'=>(aij i j != aij i' j')||(i==i'&&j==j'))=true:=by decide+kernel
def abh(h1:-1<=i)(h2:i<9):i∈rgI:=by
 have:i=-1\/i=0\/i=1\/i=2\/i=3\/i=4\/i=5\/i=6\/i=7\/i=8:=by lia
 unfold rgI;simp only[bz,xr,or_false];exact this
def ap0{P:Program}(h:SmK k)(h':SmK k')(e:tupleKeyHash (ou P w) k=tupleKeyHash (ou P w) k'):k=k':=by obtain⟨i,j,a1,a2,a3,a4,rfl⟩:=h;obtain⟨i',j',b1,b2,b3,b4,rfl⟩:=h';have e:aij i j=aij i' j':=e;have:=iz.mp (iz.mp (iz.mp (iz.mp apz i (abh a1 a2)) j (abh a3 a4)) i' (abh b1 b2)) j' (abh b3 b4);rw[e] at this;simp at this;rw[this.1,this.2]
def ago(hk:IsTupleKey (ou prog w) s.heap ks a)(h:Q false s):wpAny (model prog w) A (Builtin.Dict.quietEq (.ref a)) Q E s:=by
 unfold Builtin.Dict.quietEq;refine aa (wpAny_specialOf hk.typeIs F.slot_tuple_eq.lookup ?_);refine aj ?_;have:(some (Value.builtin "tuple.__eq__")==some (Value.builtin "object.__eq__"))=false:=by decide
 rw[this];exact h
def ap1{xs:List (List Key×Addr×Value)}(hn:(xs.map (·.1)).Nodup)(hs:∀x∈xs,SmK x.1)(hx:x∈xs) :
 ((xs.map (entryOfKey (tupleKind (ou prog w)))).filter (·.hash==tupleKeyHash (ou prog w) x.1)).length<=1:=by
 induction xs with
 |nil=>simp
 |cons y ys ih =>
  rw[gq,mq] at hn;rw[gq]
  by_cases hy:tupleKeyHash (ou prog w) y.1=tupleKeyHash (ou prog w) x.1
  . have e:=ap0 (hs y di) (hs x hx) hy
    have none:(ys.map (entryOfKey (tupleKind (ou prog w)))).filter (·.hash==tupleKeyHash (ou prog w) x.1)=[]:=by rw[List.filter_eq_nil_iff];intro z hz hq;obtain⟨z',hz',rfl⟩:=bf.mp hz;have hq:tupleKeyHash (ou prog w) z'.1=tupleKeyHash (ou prog w) x.1:=eq_of_beq (show(tupleKeyHash (ou prog w) z'.1==tupleKeyHash (ou prog w) x.1)=true from hq);have:=ap0 (hs z' (bc _ hz')) (hs x hx) hq;exact hn.1 (bf.mpr ⟨z',hz',this.trans e.symm⟩)
    rw[List.filter_cons,none];split<;>simp
  . rw[List.filter_cons,bw (by show ¬((tupleKeyHash (ou prog w) y.1==tupleKeyHash (ou prog w) x.1)=true);simpa using hy)]
    rcases bz.mp hx with rfl|hx
    . exact absurd rfl hy
    . exact ih hn.2 (λz hz=>hs z (bc _ hz)) hx
def aec{id:String}{xs:List (List Key×Addr×Value)}(ho:s.heap.get? d=some o)(hd:o.data=.dict es ep)(he:es.toList=xs.map (entryOfKey (tupleKind (ou prog w))))(hk:∀x∈xs,IsTupleKey (ou prog w) s.heap x.1 x.2.1)(hn:(xs.map (·.1)).Nodup)(hs:∀x∈xs,SmK x.1)(h:Q es s) :
 wpAny (model prog w) A (Builtin.Dict.entriesForEmpty id d) Q E s:=by
 unfold Builtin.Dict.entriesForEmpty;refine aa (su ho hd ?_);refine aa ?_;rw[<- Array.forIn_toList];refine ql _ (λrest _ s'=>s'=s/\∀e∈rest,∃x∈xs,e=entryOfKey (tupleKind (ou prog w)) x) _ ?_ ?_ _ _ ⟨rfl,λe hm=>?_⟩
 . rintro e rest r s' ⟨rfl,Dr⟩
   obtain⟨x,hx,rfl⟩:=Dr e di;show wpAny _ _ (Builtin.Dict.quietEq (.ref x.2.1) >>= _) _ _ _;refine aa (ago (hk x hx) ?_);simp only[yx,jx];have h1:=ap1 (prog:=prog) (w:=w) hn hs hx;rw[bw (by
    intro hc;have:(es.filter (·.hash==(entryOfKey (tupleKind (ou prog w)) x).hash)).size=((xs.map (entryOfKey (tupleKind (ou prog w)))).filter (·.hash==tupleKeyHash (ou prog w) x.1)).length:=by rw[<- he,<- vh,Array.toList_filter];rfl
    exact l_ hc (a_ (f_ this) h1))]
   exact aj ⟨rfl,λe he=>Dr e (bc _ he)⟩
 . rintro b s' ⟨rfl,_⟩
   exact aj h
 . rw[he] at hm
   obtain⟨x,hx,rfl⟩:=bf.mp hm;exact⟨x,hx,rfl⟩
def a9j{prog:Program}{w:World}{h h':Heap}{ks:List Key}{p a:Addr}(x:IsTupleKey (ou prog w) h ks p)(hs:∀b o,h.get? b=some o->h'.get? b=some o):IsTupleKey (ou prog w) h' ks p :=
 let ⟨o,items,n,ho,r⟩:=x;⟨o,items,n,hs p o ho,r⟩
set_option tactic.hygienic true in
def a9k(hds:(d==sysModules)=false)(hd:s.heap.DictOfH (tupleKind (ou prog w)) d xs)(hs:∀x∈xs,SmK x.1)(hsz:xs.length<=sizeLine)(h:∀h',h'.DictOfH (tupleKind (ou prog w)) s.heap.objs.size xs->(∀b o,s.heap.get? b=some o->h'.get? b=some o)->Q (.ref s.heap.objs.size) { s with heap:=h' }) :
 wpAny (model prog w) A (call (.type "dict") [.ref d]) Q E s:=by
 refine callType_codes (Q₁:=λobj s₁=>obj=.ref s.heap.objs.size/\s₁={ s with heap:=s.heap.push { cls:=.type "dict",data:=.dict #[] } }) F.kt_called_dict (F.kt_typeCall_dict_1 _) F.entry_dict_init (kt_code_dict_new _ ⟨rfl,rfl⟩) ?_;rintro obj s₁ ⟨rfl,rfl⟩;have hdT:=hd.typeIs;obtain⟨od,esd,epd,hod,hcd,hdd,hed,hxd,hnd⟩:=hd;have keep:∀b o,s.heap.get? b=some o->(s.heap.push { cls:=.type "dict",data:=.dict #[] }).get? b=some o:=λb o e=>au _ e
 have ap2:(s.heap.push { cls:=.type "dict",data:=.dict #[] }).get? s.heap.objs.size=some { cls:=.type "dict",data:=.dict #[] }:=bu _ rfl;have hTn:Shared.TypeIs { s with heap:=s.heap.push { cls:=.type "dict",data:=.dict #[] } } (.ref s.heap.objs.size) "dict" := ⟨_,ap2,rfl⟩;have hT':Shared.TypeIs { s with heap:=s.heap.push { cls:=.type "dict",data:=.dict #[] } } (.ref d) "dict" := ⟨od,keep _ _ hod,hcd.1⟩;have afm:=keep _ _ hod;have hdo:s.heap.objs.size≠d:=λe=>absurd (az hod) (by rw[e];exact kh _)
 have hlen:esd.size=xs.length:=size_of_entries hed;refine⟨hTn,F.args_dict_init_2 _ _,?_⟩;unfold Builtin.«dict.__init__»;refine aa ?_;unfold Builtin.Dict.selfAndRest;refine aa (wpAny_notOrdered_dict hTn ?_);show wpAny _ _ (pure (s.heap.objs.size,[Value.ref d])) _ _ _;refine aj ?_;show wpAny _ _ (Builtin.Dict.updateFrom "dict.__init__" s.heap.objs.size (.ref d) [] .none) _ _ _;unfold Builtin.Dict.updateFrom;refine aa (uv hT' ?_);rw[bw (by decide)];refine aa ?_;unfold Builtin.Dict.merge;refine aa ?_;unfold Builtin.Dict.readDirectly;refine aa (o8 hT' isSubtype_dict_dict ?_);simp only[q9,cu,ji];refine aa (wpAny_specialOf hT' F.slot_dict_iter.lookup (aj ?_));simp only[zg,jx];refine aa (aj ?_);unfold Builtin.Dict.mergeDict;rw[bw (by simpa using hdo)];unfold Builtin.Dict.showsAll;rw[bw (by rw[hds];exact jf)];refine aa (aj ?_);refine aa (su afm hdd ?_);have kk:∀{h':Heap},(∀b o,s.heap.get? b=some o->h'.get? b=some o)->∀x∈xs,(tupleKind (ou prog w)).is h' x.1 x.2.1:=λhk x hx=>a9j (a:=d) (hxd x hx) hk
 have emp:esd=#[]->∀s',s'={ s with heap:=s.heap.push { cls:=.type "dict",data:=.dict #[] } }->wpAny (model prog w) A.in1.in1 (Builtin.Dict.addKeywords s.heap.objs.size [] >>= λ_=>ret Value.none) (λfin s'=>match fin with|.done f=>wants (λr s₂=>r=Value.none/\Q (.ref s.heap.objs.size) s₂) E (.ok f) s'|.again c'=>c'.quiet=true/\codeAny (model prog w) A.in1 c' (wants (λr s₂=>r=Value.none/\Q (.ref s.heap.objs.size) s₂) E) s') (λe s'=>wants (λr s₂=>r=Value.none/\Q (.ref s.heap.objs.size) s₂) E (.error e) s') s':=λhe s' O1=>by have hx0:xs=[]:=za.mp (by rw[<- hlen,he];rfl);subst O1;refine aa (aj (aj ⟨rfl,h _ ⟨_,#[],0,ap2,⟨rfl,rfl,rfl⟩,rfl,?_,kk keep,hnd⟩ keep⟩));rw[hx0];rfl
 dsimp only;split
 . refine aa (su ap2 rfl ?_)
   rw[cz (show(#[]:Array DictEntry).isEmpty=true from rfl)];refine aa (aec afm hdd hed (kk keep) hnd hs ?_);split
   . refine aa (wpAny_updateDictKeysTo ap2 rfl (aj ?_) (by show esd.size<=_;exact a_ (f_ hlen) (a_ hsz x_)))
     have aik:∀b o,s.heap.get? b=some o->((s.heap.push { cls:=.type "dict",data:=.dict #[] }).update s.heap.objs.size (Obj.mapDictKeys λ_=>esd)).get? b=some o:=λb o e=>by rw[uq _ _ (j0 (dz (az e)))];exact keep b o e
     refine aa (aj (aj ⟨rfl,h _ ⟨_,esd,0+1,m5 _ ap2 (Obj.isFreed_of_dict (Obj.data_mapDictKeys rfl _)),⟨rfl,rfl,rfl⟩,Obj.data_mapDictKeys rfl _,hed,kk aik,hnd⟩ aik⟩))
   . rename_i Tw
     exact aj (emp (Array.isEmpty_iff.mp (by simpa using Tw)) _ rfl)
 . rename_i hf
   have he:esd=#[]:=by
    apply yg;intro Tw;have hx:xs≠[]:=λe=>Tw (Array.eq_empty_of_size_eq_zero (by rw[hlen,e];rfl))
    obtain⟨x,ys,rfl⟩:=List.exists_cons_of_ne_nil hx;have Dr:(esd.all λe=>(keyPart e.key).isSome)=true:=by simp only[Bool.not_eq_true',Bool.not_eq_false,aq] at hf;exact hf.2
    rw[<- Array.all_toList,hed,gq,List.all_cons,aq] at Dr;exact Bool.noConfusion (Dr.1:(keyPart (.ref x.2.1)).isSome=true)
   refine aa (wpAny_dictEpoch afm hdd ?_);refine aa (su afm hdd ?_);refine aa ?_;rw[he,Std.Legacy.Range.forIn_eq_forIn_range'];simp only[Std.Legacy.Range.size,ig,List.length_nil,Nat.sub_zero,ux,Nat.sub_self,Nat.div_one,List.range'_zero,List.forIn_nil];exact aj (aj (emp he _ rfl))
end Yh
namespace Sm
open PySem L2
open MW (Ex Cr OEx Ow By o7 Lv Tg Res dh MO Jp Cp Op2 Blt Bm Kx Src)
set_option tactic.hygienic true in
def avm(h:MW.afu l=true):∀k∈l.map (·.1),Yh.SmK k:=λk hk=>by
 obtain⟨p,hp,rfl⟩:=bf.mp hk;simp only[MW.afu,iz] at h;have:=h p hp;split at this
 . rename_i i j e
   simp only[aq,dm] at this;exact⟨i,j,this.1.1.1,this.1.1.2,this.1.2,this.2,e⟩
 . cases this
def a2e{X:Cx}(S:m8 nm X.K ι H M)(hp:H p=none)(r:uc X.K ι H (λk k'=>k=k') ie l) :
 m8 nm X.K (ι.add p) (upd H p (.dT l)) (M++[.dT ie])/\Le ι H (ι.add p) (upd H p (.dT l))/\Rep X.K (ι.add p) (upd H p (.dT l)) (.ref M.length) (.ref p):=by
 obtain⟨S1,le⟩:=S.new (H':=upd H p (.dT l)) (o:=.dT ie) hp (λa u e=>by rw[j9 (lg e hp)];exact e) λle=>⟨l,xf,r.mono le⟩
 exact⟨S1,le,.ref (by show(ι.l++[p])[M.length]?=some p;rw[<- S.len];simp)⟩
def a2f{X:Cx}(S:m8 nm X.K ι H M)(hp:H p=none)(r:uc X.K ι H (λk k'=>k=k') ie l) :
 m8 nm X.K (ι.add p) (upd H p (.dK l)) (M++[.dK ie])/\Le ι H (ι.add p) (upd H p (.dK l))/\Rep X.K (ι.add p) (upd H p (.dK l)) (.ref M.length) (.ref p):=by
 obtain⟨S1,le⟩:=S.new (H':=upd H p (.dK l)) (o:=.dK ie) hp (λa u e=>by rw[j9 (lg e hp)];exact e) λle=>⟨l,xf,r.mono le⟩
 exact⟨S1,le,.ref (by show(ι.l++[p])[M.length]?=some p;rw[<- S.len];simp)⟩
set_option tactic.hygienic true in
def a2g:Dc X (.type "dict") (rB nm X.K .dict):=λpins s σ H vs us Q I Yb hh=>by
 obtain⟨ι,M,ds,d,M',S,r,e,q⟩:=hh;cases r with
 |nil=>simp[MW.v7] at e
 |@cons x v _ _ h t =>
  cases t with
  |cons h2 t2=>cases x<;>simp[MW.v7] at e
  |nil =>
   cases Yb with
   |cons ru rn =>
    cases rn;cases h with
    |@ref n p hp =>
     cases ru;have e:(match M[n]? with|some (.dT ie)=>if MW.afu ie then MW.new (.dT ie) M else .bad|some (.dK ie)=>MW.new (.dK ie) M|_=>.bad)=.ok d M':=e;split at e
     . rename_i ie hM
       split at e
       . rename_i hs
         cases e;obtain⟨l,h1,h2⟩:=S.obj n _ p hM hp;obtain⟨z,hsm,xs,rel,dd⟩:=aoz I.Am h1;obtain⟨k1,k2⟩:=aif rel;have hl:xs.length=l.length:=by have:=qz List.length k1;simpa using this
         refine Yh.a9k hsm dd (λx hx=>?_) (by rw[hl];exact z) λh' dd' keep=>?_
         . refine avm hs x.1 ?_
           rw[<- Qp h2,<- k1];exact bf.mpr ⟨x,hx,rfl⟩
         . have hf:H s.heap.objs.size=none:=I.Am.fresh (bh _)
           obtain⟨S2,Ak,r2⟩:=a2e (X:=X) S hf h2;refine⟨.ref s.heap.objs.size,upd H s.heap.objs.size (.dT l),I.laid (a:=s.heap.objs.size) (o:=.dT l) (t':=s.toks) keep (bh _) ?_,rfl,q _ _ _ Ak S2 r2⟩;obtain⟨o,es,ep,g1,g2,g3,g4,g5,g6⟩:=dd';exact⟨z,qw.mpr (j0 (dz I.big)),xs,rel.keeps (λb ys e=>by rw[j9 (lg e hf)];exact e),o,es,ep,g1,g2,g3,g4,g6⟩
       . cases e
     . rename_i ie hM
       cases e;obtain⟨l,h1,h2⟩:=S.obj n _ p hM hp;refine ao5 I (.inl h1) λp' s' hp' I'=>?_
       obtain⟨S2,Ak,r2⟩:=a2f (X:=X) S hp' h2;exact⟨.ref p',_,I',rfl,q _ _ _ Ak S2 r2⟩
     . cases e
    |_=>cases e
set_option tactic.hygienic true in
theorem ints_rep{ι:Io}{H:Hp}{K:Fg}:∀{ds:List Dv}{vs:List V}{is:Zl}{ns:Xs},m6 K ι H ds vs->Vals vs is->MW.Yo ds=some ns->∃xs:Array (Int×Tok),is.toArray=intItems xs/\xs.toList.map (·.1)=ns
 |_,_,_,_,.nil,.nil,h=>by cases h;exact⟨#[],by simp[intItems],rfl⟩
 |_,_,_,_,.cons r t,.cons rv tv,h=>by
  cases r<;>simp only[MW.Yo] at h<;>try cases h
  rename_i i;obtain⟨ns',e1,e2⟩:=bx.mp h;obtain⟨xs,g1,g2⟩:=ints_rep t tv e1;obtain⟨tk,rfl⟩:=rv;refine⟨#[(i,tk)]++xs,?_,by simp[g2,e2]⟩;have h3:=qz Array.toList g1;apply Array.toList_inj.mp;simp[intItems] at h3 ⊢;exact h3
theorem aed:∀(l:Xs)(z m:Int),(m=z\/m∈l)->z<=m->(∀a∈l,a<=m)->l.foldl (λm x=>if m<x then x else m) z=m
 |[],z,m,h,_,_=>by rcases h with h|h;exact h.symm;cases h
 |a::l,z,m,h,hz,Dr=>by
  rw[Bg];have ha:=Dr a di;refine aed l _ m ?_ (by split<;>lia) (λb hb=>Dr b (bc _ hb));rcases h with h|h
  . subst h;left;split<;>lia
  . rcases bz.mp h with h|h
    . subst h
      by_cases hc:z<m
      . left;rw[cz hc]
      . left;rw[bw hc];lia
    . exact .inr h
theorem aee:∀(l:Xs)(z m:Int),(m=z\/m∈l)->m<=z->(∀a∈l,m<=a)->l.foldl (λm x=>if x<m then x else m) z=m
 |[],z,m,h,_,_=>by rcases h with h|h;exact h.symm;cases h
 |a::l,z,m,h,hz,Dr=>by
  rw[Bg];have ha:=Dr a di;refine aee l _ m ?_ (by split<;>lia) (λb hb=>Dr b (bc _ hb));rcases h with h|h
  . subst h;left;split<;>lia
  . rcases bz.mp h with h|h
    . subst h
      by_cases hc:m<z
      . left;rw[cz hc]
      . left;rw[bw hc];lia
    . exact .inr h
def ail(e:MW.two ds f g M=.ok d M'):M'=M/\((∃i j,ds=[.int i,.int j]/\d=.int (f i j))\/∃x m,ds=[x]/\g x=some m/\d=.int m):=by
 cases ds with
 |nil=>cases e
 |cons x r=>cases r with
  |nil =>
   obtain⟨e1,e2⟩:=yr (show Res.vg ((g x).map MW.D.int) M=.ok d M' from e);obtain⟨m,e3,e4⟩:=bx.mp e1;exact⟨e2,.inr ⟨x,m,rfl,e3,e4.symm⟩⟩
  |cons y r=>cases r with
   |nil =>
    cases x<;>try cases e
    cases y<;>cases e;exact⟨rfl,.inl ⟨_,_,rfl,rfl⟩⟩
   |cons _ _=>cases e
def Zj{h:List Int->Option Int}(e:((MW.fc M x).bind MW.Yo).bind h=some m):∃xs ns,MW.fc M x=some xs/\MW.Yo xs=some ns/\h ns=some m:=by obtain⟨ns,e5,e6⟩:=dq.mp e;obtain⟨xs,e7,e8⟩:=dq.mp e5;exact⟨xs,ns,e7,e8,e6⟩
def avn(e:MW.v7 .max ds M=.ok d M'):M'=M/\((∃i j,ds=[.int i,.int j]/\d=.int (if i<j then j else i))\/∃x xs ns m,ds=[x]/\MW.fc M x=some xs/\MW.Yo xs=some ns/\MW.azb ns=some m/\d=.int m):=by
 obtain⟨h,h2|⟨x,m,h3,h4,h5⟩⟩:=ail e
 . exact⟨h,.inl h2⟩
 . obtain⟨xs,ns,g1,g2,g3⟩:=Zj h4
   exact⟨h,.inr ⟨x,xs,ns,m,h3,g1,g2,g3,h5⟩⟩
def avo(e:MW.v7 .min ds M=.ok d M'):M'=M/\((∃i j,ds=[.int i,.int j]/\d=.int (if j<i then j else i))\/∃x xs ns m,ds=[x]/\MW.fc M x=some xs/\MW.Yo xs=some ns/\MW.a6g ns=some m/\d=.int m):=by
 obtain⟨h,h2|⟨x,m,h3,h4,h5⟩⟩:=ail e
 . exact⟨h,.inl h2⟩
 . obtain⟨xs,ns,g1,g2,g3⟩:=Zj h4
   exact⟨h,.inr ⟨x,xs,ns,m,h3,g1,g2,g3,h5⟩⟩
def Tn(h:Vals [v] us):∃u,us=[u]/\RelV v u:=L2.Vals.one h
def O3(h:i<xs.size):(xs.toList.map (·.1))[i]?=some (numAt xs i):=by simp[numAt,h]
def a9l(hc:X.calm=true):Dc X (.builtin "max") (rB nm X.K .max):=λpins s σ H vs us Q I Yb hh=>by
 obtain⟨ι,M,ds,d,M',S,r,e,q⟩:=hh;obtain⟨rfl,⟨i,j,rfl,rfl⟩|⟨x,xs,ns,m,rfl,e1,e2,e3,rfl⟩⟩:=avn e
 . cases r with
   |cons h1 t1 =>
    cases t1 with
    |cons h2 t2 =>
     cases t2;cases h1;cases h2;refine aki hc pins s σ H _ us Q I Yb ⟨i,j,rfl,?_⟩;have:=q ι H _ (Le.refl _ _) S (.int (if i<j then j else i));exact this
 . obtain⟨v,rfl,rv⟩:=Jl r rfl
   obtain⟨u,rfl,ru⟩:=Tn Yb;obtain⟨p,ws,rfl,hp,rl⟩:=t7 S rv e1;cases ru;obtain⟨is,rvl,pl,_⟩:=I.list (Ia.of hp);obtain⟨xa,g1,g2⟩:=ints_rep rl rvl e2;have Tw:0<xa.size:=by
    cases ns with
    |nil=>cases e3|cons n ns=>have:=qz List.length g2;simp at this;lia
   refine max_intList (I.ok.hd hc) (by rw[<- g1];exact pl.isList) Tw λw h' tk hw keep=>?_
   obtain⟨t,rfl⟩:=intItems_at hw;obtain⟨b1,b2⟩:=argBest_gt (numAt xa) (xa.size-1);have hm:m=numAt xa (argBest (λi j=>decide (numAt xa i > numAt xa j)) (xa.size-1)):=by
    cases hns:ns with
    |nil=>rw[hns] at e3;cases e3
    |cons n ns' =>
     rw[hns] at e3;cases e3;have mem:∀i,i<xa.size->numAt xa i∈n::ns':=λi hi=>by rw[<- hns,<- g2];exact ao (O3 hi)
     have le:∀a∈n::ns',a<=numAt xa (argBest (λi j=>decide (numAt xa i > numAt xa j)) (xa.size-1)):=λa ha=>by
      rw[<- hns,<- g2] at ha;obtain⟨i,hi⟩:=v9.mp ha;have li:i<xa.size:=by have:=(ak.mp hi).1;simpa using this
      rw[O3 li] at hi;cases hi;exact b2 i (by lia)
     exact aed ns' n _ (bz.mp (mem _ (by omega))) (le n di) (λa ha=>le a (bc _ ha))
   subst hm;exact⟨.int _,H,I.kept keep,⟨t,rfl⟩,q ι H _ (Le.refl _ _) S (.int _)⟩
def aef(n d:Nat)(o:Option Int):HT.sIx n d o=MW.clip n d o:=by
 cases o with
 |none=>rfl
 |some i =>
  show(if i<0 then(i+(n:Int)).toNat else min i.toNat n)=(if 0<=i then min i.toNat n else(i+(n:Int)).toNat)
  by_cases h:i<0
  . rw[cz h,bw (by lia)]
  . rw[bw h,cz (by lia)]
def tO(nm:Nm)(W:Jp)(K:Fg)(o:OEx):TO:=fun σ H Q=>∃ι ρ M d M',m8 nm K ι H M/\u5 K ι H ρ σ/\o.den W ρ M=.ok d M'/\∀ι' H',Le ι H ι' H'->m8 nm K ι' H' M'->Q d H'
def PO.weak(h:PO X e t)(w:∀σ H Q,t' σ H Q->t σ H Q):PO X e t':=λpins s σ H Q I q=>h pins s σ H Q I (w σ H Q q)
def PO.of(h:PO X e t)(w:∀σ H Q ι ρ M d M',m8 nm X.K ι H M->u5 X.K ι H ρ σ->o'.den W ρ M=.ok d M'->(∀ι' H',Le ι H ι' H'->m8 nm X.K ι' H' M'->Q d H')->t σ H Q):PO X e (tO nm W X.K o'):=PO.weak h fun σ H Q z_=>by obtain⟨ι,ρ,M,d,M',S,R,e,q⟩:=z_;exact w σ H Q ι ρ M d M' S R e q
def avp:PO X none (tO nm W X.K .none):=PO.of auw fun σ H Q ι ρ M d M' S R e q=>by rw[MW.aj0] at e;cases e;exact q ι H (Le.refl _ _) S
set_option tactic.hygienic true in
def avq(ha:PE X a (tE nm W X.K a')):PO X (some a) (tO nm W X.K (.some a')):=PO.of (auy ha) fun σ H Q ι ρ M d M' S R e q=>by rw[MW.aj1] at e;obtain⟨x,M1,e1,e⟩:=gh e;split at e<;>cases e;rename_i i;exact one S R e1 fun ι1 H1 v le S1 R1 r=>by cases r;exact⟨i,rfl,q ι1 H1 le S1⟩
set_option tactic.hygienic true in
def a9m(ha:PE X a (tE nm W X.K a'))(hl:PO X lo (tO nm W X.K lo'))(hh:PO X hi (tO nm W X.K Xm)):PE X (.Subscript a (.Slice lo hi none p2) pos) (tE nm W X.K (.cut a' lo' Xm)) :=
 PE.of (ao6 auz ha hl hh) fun σ H Q ι ρ M d M' S R e q=>by
  rw[MW.ati] at e;obtain⟨x,M1,e1,e⟩:=gh e;obtain⟨l,M2,e2,e⟩:=gh e;obtain⟨h,M3,e3,e⟩:=gh e;obtain⟨e4,e5⟩:=yr e;subst e5;refine one S R e1 fun ι1 H1 v le S1 R1 r=>⟨ι1,ρ,M1,l,M2,S1,R1,e2,fun ι2 H2 Ak S2=>⟨ι2,ρ,M2,h,_,S2,R1.mono Ak,e3,fun ι3 H3 Ze S3=>?_⟩⟩
  have r3:=(r.mono Ak).mono Ze;have fin:=fun ι' H' w Xo S' r'=>q ι' H' w (((le.trans Ak).trans Ze).trans Xo) S' r'
  have lst:∀ds,MW.fc M' x=some ds->d=.vl (MW.afs ds l h)->a77 X.K v l h H3 Q:=λds hd ed=>by
   obtain⟨p,vs,rfl,hp,rl⟩:=t7 S3 r3 hd;refine⟨p,vs,rfl,Ia.of hp,λp' hp'=>?_⟩;have:m6 X.K ι3 H3 (MW.afs ds l h) (akq vs l h):=by unfold MW.afs akq;rw[aef,aef,<- rl.length];exact(rl.drop _).take _
   obtain⟨S4,le4,r4⟩:=aa8 (X:=X) S3 hp' this;subst ed;exact fin _ _ _ le4 S4 r4
  obtain⟨ds,hd,ed⟩:=bx.mp (show(MW.fc M' x).map (λds=>MW.D.vl (MW.afs ds l h))=some d from e4);exact lst ds hd ed.symm
def ap3(K:Fg)(T:String):PySem.W.kitOne K (.type T) (.type T)=some true:=by unfold PySem.W.kitOne;rw[cz (by simp)]
def ak3(hg:Gl X n)(hm:X.mg n=none)(hv:bootBuiltins n=some (.builtin "isinstance"))(hn:n≠"__name__")(Ui:(n==("__debug__" : Str))=false)(hg2:Gl X tn)(hm2:X.mg tn=none)(hv2:bootBuiltins tn=some (.type "tuple"))(Xv:tn≠"__name__")(agp:(tn==("__debug__" : Str))=false)(ha:PE X a (tE nm W X.K a'))(he:starEach [a,.Name tn p'] X.env=(false,eval a X.env)::starEach [.Name tn p'] X.env)(he2:starEach [.Name tn p'] X.env=(false,eval (.Name tn p') X.env)::starEach [] X.env)(Ik:(backTo pos (starEach [.Name tn p'] X.env)).any (·.1)=false):PE X (.Call (.Name n p) [a,.Name tn p'] [] pos) (tE nm W X.K (.blt .isTuple (.cons a' .nil))):=by
 intro pins s σ H Q I hh;obtain⟨ι,ρ,M,d,M',S,R,e,q⟩:=hh;rw[MW.aab] at e;obtain⟨ds,M1,e1,e⟩:=gh e;rw[MW.J0] at e1;obtain⟨x,M2,e2,e1⟩:=gh e1;rw[MW.Q4] at e1;cases e1;refine jc (Dm I hg hm hv ?_ hn Ui);refine yt (Q:=EP X pins σ Q) ?_ he Ik;rw[he];show wpAny _ _ (spliced ((false,eval a X.env)::backTo pos (starEach [.Name tn p'] X.env))) _ _ s;refine um (Bu (ha pins s σ H (λv H1=>∃ι1,Le ι H ι1 H1/\m8 nm X.K ι1 H1 M1/\Rep X.K ι1 H1 x v) I ⟨ι,ρ,M,x,M1,S,R,e2,fun ι1 H1 v le S1 r=>⟨ι1,le,S1,r⟩⟩) λu s1 z_=>?_);obtain⟨v,H1,I1,r1,ι1,le,S1,r⟩:=z_;rw[he2];show wpAny _ _ (spliced ((false,eval (.Name tn p') X.env)::backTo pos (starEach [] X.env))) _ _ s1;refine um (Dm I1 hg2 hm2 hv2 ?_ Xv agp);refine w6 ?_;cases r with
 |tup h r =>
  cases e;exact akm I1 r1 (.tup h) (ap3 _ _) λtk=>⟨.bl true,H1,I1.tok _,rfl,q ι1 H1 _ le S1 (.bl true)⟩
 |_=>cases e
def a9n(hc:X.calm=true):Dc X (.builtin "min") (rB nm X.K .min):=λpins s σ H vs us Q I Yb hh=>by
 obtain⟨ι,M,ds,d,M',S,r,e,q⟩:=hh;obtain⟨rfl,⟨i,j,rfl,rfl⟩|⟨x,xs,ns,m,rfl,e1,e2,e3,rfl⟩⟩:=avo e
 . cases r with
   |cons h1 t1 =>
    cases t1 with
    |cons h2 t2 =>
     cases t2;cases h1;cases h2;refine akj hc pins s σ H _ us Q I Yb ⟨i,j,rfl,?_⟩;have:=q ι H _ (Le.refl _ _) S (.int (if j<i then j else i));exact this
 . obtain⟨v,rfl,rv⟩:=Jl r rfl
   obtain⟨u,rfl,ru⟩:=Tn Yb;obtain⟨p,ws,rfl,hp,rl⟩:=t7 S rv e1;cases ru;obtain⟨is,rvl,pl,_⟩:=I.list (Ia.of hp);obtain⟨xa,g1,g2⟩:=ints_rep rl rvl e2;have Tw:0<xa.size:=by
    cases ns with
    |nil=>cases e3|cons n ns=>have:=qz List.length g2;simp at this;lia
   refine min_intList (I.ok.hd hc) (by rw[<- g1];exact pl.isList) Tw λw h' tk hw keep=>?_
   obtain⟨t,rfl⟩:=intItems_at hw;obtain⟨b1,b2⟩:=argBest_lt (numAt xa) (xa.size-1);have hm:m=numAt xa (argBest (λi j=>decide (numAt xa i<numAt xa j)) (xa.size-1)):=by
    cases hns:ns with
    |nil=>rw[hns] at e3;cases e3
    |cons n ns' =>
     rw[hns] at e3;cases e3;have mem:∀i,i<xa.size->numAt xa i∈n::ns':=λi hi=>by rw[<- hns,<- g2];exact ao (O3 hi)
     have le:∀a∈n::ns',numAt xa (argBest (λi j=>decide (numAt xa i<numAt xa j)) (xa.size-1))<=a:=λa ha=>by
      rw[<- hns,<- g2] at ha;obtain⟨i,hi⟩:=v9.mp ha;have li:i<xa.size:=by have:=(ak.mp hi).1;simpa using this
      rw[O3 li] at hi;cases hi;exact b2 i (by lia)
     exact aee ns' n _ (bz.mp (mem _ (by omega))) (le n di) (λa ha=>le a (bc _ ha))
   subst hm;exact⟨.int _,H,I.kept keep,⟨t,rfl⟩,q ι H _ (Le.refl _ _) S (.int _)⟩
def Yc{n:Nat}(hh:A.handled=none)(hr:IsRange s.heap r a b c t u v)(Wx:Builtin.Range.small a b c=true)(hn:Builtin.Range.rangeSize a b c=n)(hlen:n<=2 ^ 24)(hQ:∀(h':Heap) (tk:Nat) (acc:U1),(∀b o,s.heap.get? b=some o->h'.get? b=some o)->ItemsOf (λi v=>∃t,v=.int (a+i*c) t) acc n->Q acc.toList { s with heap:=h',toks:=tk }):wpAny (model prog w) A (collect (.ref r)) Q E s:=by
 unfold collect;refine aa (wpAny_runValue (nq F.entry_proto_collect ?_));rw[j6 F.plain_proto_collect _];show wpAny _ A.in1 (newList [] >>= λl=>again (.builtin "list.__iadd__" ⟨[l,.ref r],[]⟩)) _ _ s;refine aa (tu ?_);refine aj ⟨plainId_quiet F.plain_list_iadd _,nq F.entry_list_iadd ?_⟩;rw[j6 F.plain_list_iadd _];show wpAny _ A.in1 (Builtin.List.listExtendWith (.ref s.heap.objs.size) (.ref r) (.ref s.heap.objs.size)) _ _ _;have keep:∀b o,s.heap.get? b=some o->(s.heap.push { cls:=.type "list",data:=.seq ([]:Zl).toArray }).get? b=some o:=λb o e=>au _ e
 have hS0:(s.heap.push { cls:=.type "list",data:=.seq ([]:Zl).toArray }).get? s.heap.objs.size=some { cls:=.type "list",data:=.seq #[] 0 }:=bu _ rfl;have ext:=wpAny_extend_range (prog:=prog) (w:=w) (A:=A) (R:=λr' s'=>∃(h':Heap)(tk:Nat)(acc:U1)(c':Nat),r'=.ok (.ret (.ref s.heap.objs.size))/\s'={ s with heap:=h',toks:=tk }/\(∀b o,s.heap.get? b=some o->h'.get? b=some o)
 /\h'.get? s.heap.objs.size=some { cls:=.type "list",dict:=none,data:=.seq acc c',slots:=#[] }/\ItemsOf (λi v=>∃t,v=.int (a+i*c) t) acc n)
  (s:={ s with heap:=s.heap.push { cls:=.type "list",data:=.seq ([]:Zl).toArray } }) hh (keep _ _ hr) Wx hn hlen s.heap.objs.size (.ref s.heap.objs.size) 0 hS0
  λh' tk acc c' hk hS Es=>⟨h',tk,acc,c',rfl,rfl,λb o e=>hk b o (dz (az e)) (keep b o e),hS,Es⟩
 have last:∀{r':Result}{s':Shared},(∃(h':Heap)(tk:Nat)(acc:U1)(c':Nat),r'=.ok (.ret (.ref s.heap.objs.size))/\s'={ s with heap:=h',toks:=tk }/\(∀b o,s.heap.get? b=some o->h'.get? b=some o)
 /\h'.get? s.heap.objs.size=some { cls:=.type "list",dict:=none,data:=.seq acc c',slots:=#[] }/\ItemsOf (λi v=>∃t,v=.int (a+i*c) t) acc n)->∃(h':Heap)(tk:Nat)(acc:U1)(c':Nat),r'=.ok (.ret (.ref s.heap.objs.size))/\s'={ s with heap:=h',toks:=tk }/\h'.get? s.heap.objs.size=some { cls:=.type "list",dict:=none,data:=.seq acc c',slots:=#[] }/\Q acc.toList s':=λ⟨h',tk,acc,c',e1,e2,e3,e4,e5⟩=>⟨h',tk,acc,c',e1,e2,e4,by rw[e2];exact hQ h' tk acc e3 e5⟩
 refine my ext (λfin s' hf=>?_) (λe s' he=>?_)
 . cases fin with
   |done f =>
    obtain⟨h',tk,acc,c',e1,rfl,e4,e5⟩:=last hf;cases e1;exact aa (wpAny_load e4 (aj e5))
   |again c' =>
    refine⟨hf.1,wu hf.2 λr' s'' hr'=>?_⟩;obtain⟨h',tk,acc,c',e1,rfl,e4,e5⟩:=last hr';subst e1;exact aa (wpAny_load e4 (aj e5))
 . obtain⟨_,_,_,_,e1,_⟩:=last he
   cases e1
def Tp{n:Nat}(hh:A.handled=none)(hr:IsRange s.heap r a b c t u v)(Wx:Builtin.Range.small a b c=true)(hn:Builtin.Range.rangeSize a b c=n)(hlen:n<=2 ^ 24)(h:∀(h':Heap) (tk:Nat) (acc:U1),(∀b o,s.heap.get? b=some o->h'.get? b=some o)->ItemsOf (λi v=>∃t,v=.int (a+i*c) t) acc n->Q₁ (.ref h'.objs.size) { s with heap:=h'.push { cls:=.type "tuple",data:=.seq acc },toks:=tk }) :
 codeAny (model prog w) A (.call (.builtin "tuple.__new__") ⟨[.type "tuple",.ref r],[]⟩) (wants Q₁ E) s:=by
 refine codeAny_of_tree ?_;show wpAny _ A.in1 (do checkBuiltinCall "tuple.__new__" ⟨[.type "tuple",.ref r],[]⟩;again (.builtin "tuple.__new__" ⟨[.type "tuple",.ref r],[]⟩)) _ _ s;refine aa (wpAny_of_eq (F.newCall_tuple_1 _) (aj ⟨plainId_quiet F.plain_tuple_new _,nq F.entry_tuple_new ?_⟩));rw[j6 F.plain_tuple_new _];have Z5:=sub_tuple_self;have bii:=init_tuple_lookup;have hmh:=madeHere_tuple;have hTI:s.TypeIs (.ref r) "range" := ⟨_,hr,rfl⟩
 wp_walk using uv hTI,Yc (A:=A.in1) hh hr Wx hn hlen
 intro h' tk acc hk Es;show wpAny _ _ (Builtin.Tuple.tupleExact acc.toList.toArray >>= λv=>ret v) _ _ _;unfold Builtin.Tuple.tupleExact;refine aa (tu ?_ (by show acc.toList.toArray.size<=sizeLine;simp only[Array.toArray_toList];rw[Es.1,qy];exact hlen));refine aj ?_;have e:acc.toList.toArray=acc:=by simp
 rw[e];exact h h' tk acc hk Es
def Tq{n:Nat}(hh:A.handled=none)(hr:IsRange s.heap r a b c t u v)(Wx:Builtin.Range.small a b c=true)(hn:Builtin.Range.rangeSize a b c=n)(hlen:n<=2 ^ 24)(hQ:∀(h':Heap) (tk:Nat) (acc:U1),(∀b o,s.heap.get? b=some o->h'.get? b=some o)->ItemsOf (λi v=>∃t,v=.int (a+i*c) t) acc n->Q (.ref h'.objs.size) { s with heap:=h'.push { cls:=.type "tuple",data:=.seq acc },toks:=tk }) :
 wpAny (model prog w) A (call (.type "tuple") [.ref r]) Q E s:=by
 refine callType_codes (Q₁:=λobj s₁=>s₁.TypeIs obj "tuple"/\Q obj s₁) F.called_tuple (F.typeCall_tuple_1 _) F.entry_object_init
  (Tp (A:=A.in1) hh hr Wx hn hlen λh' tk acc hk Es=>⟨⟨_,bu _ rfl,rfl⟩,hQ h' tk acc hk Es⟩) λobj s₁ h₁=>?_
 exact⟨h₁.1,F.args_object_init_2 obj _,object_init_meets F.called_tuple.init.lookup F.called_tuple.made (by decide) prog w A.in1 _ s₁ ⟨h₁.1,rfl,h₁.2⟩⟩
def Wy(h:ItemsOf (λi v=>∃t,v=.int (0+(i:Int)*1) t) acc n):Vals ((List.range n).map λ(k:Nat)=>V.int (k:Int)) acc.toList:=by
 have go:∀(l:Zl)(k:Nat),(∀(j:Nat)(v:Value),l[j]?=some v->∃t,v=Value.int ((k+j:Nat):Int) t)->Vals ((List.range' k l.length).map λ(k:Nat)=>V.int (k:Int)) l:=by
  intro l
  induction l with
  |nil=>intro k _;exact .nil
  |cons v l ih =>
   intro k hk;rw[gw,List.range'_succ,gq];refine .cons ?_ (ih (k+1) λj v hj=>?_)
   . exact hk 0 v rfl
   . obtain⟨t,e⟩:=hk (j+1) v (by simpa using hj)
     exact⟨t,by rw[e];congr 1;lia⟩
 have:=go acc.toList 0 (λj v hj=>by
  obtain⟨t,e⟩:=h.2 j v (by simpa using hj);exact⟨t,by rw[e];congr 1;lia⟩)
 rw[vh,h.1,<- List.range_eq_range'] at this;exact this
def Wz(n:Nat):m6 K ι H ((List.range n).map λ(k:Nat)=>MW.D.int (k:Int)) ((List.range n).map λ(k:Nat)=>V.int (k:Int)):=by
 generalize List.range n=l
 induction l with
 |nil=>exact .nil|cons k l ih=>exact .cons (.int _) ih
set_option tactic.hygienic true in
def a2k(hr:Aj 8 X.A)(hg:Gl X n)(hm:X.mg n=none)(hv:bootBuiltins n=some (.type "tuple"))(hn:n≠"__name__")(Ui:(n==("__debug__" : Str))=false)(hg2:Gl X tn)(hm2:X.mg tn=none)(hv2:bootBuiltins tn=some (.type "range"))(Xv:tn≠"__name__")(agp:(tn==("__debug__" : Str))=false)(ha:PA X [a] (Wj nm W X.K (.cons a' .nil)))(he:starEach [.Call (.Name tn p') [a] [] q2] X.env=(false,eval (.Call (.Name tn p') [a] [] q2) X.env)::starEach [] X.env)(Ik:(backTo q1 (starEach [] X.env)).any (·.1)=false)(he2:starEach [a] X.env=(false,eval a X.env)::starEach [] X.env)(agn:(backTo q2 (starEach [] X.env)).any (·.1)=false) :
 PE X (.Call (.Name n p) [.Call (.Name tn p') [a] [] q2] [] q1) (tE nm W X.K (.Xw a')):=by
 intro pins s σ H Q I hh;obtain⟨ι,ρ,M,d,M',S,R,e,q⟩:=hh;rw[MW.am3] at e;obtain⟨x,M1,e1,e⟩:=gh e;split at e<;>try cases e
 rename_i i;split at e<;>cases e;rename_i hi;refine jc (Dm I hg hm hv ?_ hn Ui);refine jh (Q:=EP X pins σ Q) ?_ he Ik;rw[he];show wpAny _ _ (spliced ((false,eval (.Call (.Name tn p') [a] [] q2) X.env)::backTo q1 (starEach [] X.env))) _ _ s;refine um ?_;refine jc (Dm I hg2 hm2 hv2 ?_ Xv agp);refine jh (Bu (ha q2 pins s σ H (λvs H1=>∃ι1,vs=[.int i]/\Le ι H ι1 H1/\m8 nm X.K ι1 H1 M') I ⟨ι,ρ,M,[.int i],M',S,R,by simp[e1,Res.bind],fun ι1 H1 vs le S1 r=>?_⟩) λus s1 ⟨vs,H1,I1,r1,ι1,ev,Vg,S1⟩=>?_) he2 agn
 . obtain⟨v,ev,rv⟩:=Jl r rfl
   cases rv;exact⟨ι1,ev,le,S1⟩
 subst ev;obtain⟨u,rfl,ru⟩:=Tn r1;obtain⟨t,rfl⟩:=ru;refine call_range_1 ?_;show wpAny _ _ (spliced []) _ _ _;refine w6 ?_;have keep:∀b o,s1.heap.get? b=some o->(s1.heap.push { cls:=.type "range",data:=.fields #[.int 0 s1.toks,.int i t,.int 1 (s1.toks+1)] }).get? b=some o:=λb o e=>au _ e
 refine Tq (n:=i.toNat) hr.hd (bu _ rfl) (small_one (by lia) (by lia) (by lia) (by omega)) (by rw[rangeSize_one];split<;>lia) (by lia) λh' tk acc hk Es=>?_
 have I2:Inv X pins σ H1 { s1 with heap:=h',toks:=tk }:=I1.kept λb o e=>hk b o (keep b o e)
 have hz:((List.range i.toNat).map λ(k:Nat)=>V.int (k:Int)).length<=sizeLine:=by simp[qy];omega
 have hf:H1 h'.objs.size=none:=I2.Am.fresh (bh _);have I3:Inv X pins σ (upd H1 h'.objs.size (.tup ((List.range i.toNat).map λ(k:Nat)=>V.int (k:Int)))) { s1 with heap:=h'.push { cls:=.type "tuple",data:=.seq acc },toks:=tk } :=
  I2.laid (a:=h'.objs.size) (t':=tk) (λb o e=>au _ e) (bh _) (show Bj X.prog X.w _ _ _ (.tup _) from⟨hz,acc.toList,Wy Es,by simpa using L2.X4.new _ _⟩)
 obtain⟨S2,Ak,r2⟩:=O2 (X:=X) S1 hf (Wz i.toNat);exact⟨.ref h'.objs.size,_,I3,rfl,q ι1 _ _ (Vg.trans Ak) S2 r2⟩
end Sm
namespace EnT
open PySem PySem.Spec
open AutoSeq1 (wpAny_loadPart')
set_option tactic.hygienic true in
def aeg(a:s.heap.IsTupleIter it t i)(b:s.heap.IsTuple t xs)(e:xs[i]?=some x)(q:∀h',h'.IsTupleIter it t (i+1)->Heap.SameBut it s.heap h'->Q x { s with heap:=h' }):wpAny (model prog w) A (Builtin.SmallTypes.nextOf (.ref it)) Q E s:=by obtain⟨o,o1,o2,o3⟩:=id a;obtain⟨ol,l1,l2,nl,l3⟩:=b;unfold Builtin.SmallTypes.nextOf;refine aa (j7 (name:=Str.ofString "__next__") a.typeIs uz (jw uz a.typeIs F.entry_tuple_iterator_next ?_ (F.args_tuple_iterator_next_1 _)));show wpAny _ _ (field (.ref it) 0 >>= _) _ _ s;refine aa (jg o1 o3 (x:=.ref t) rfl ?_);show wpAny _ _ (if(Value.ref t==Value.none)=true then _ else field (.ref it) 1 >>= _) _ _ s;rw[bw (show ¬((Value.ref t==Value.none)=true) by exact jf)];refine aa (jg o1 o3 (x:=.int i 0) rfl (aa (t8 l1 l3 ?_)));simp only[u9,e];refine aa (wpAny_setField o1 o3 (by simp) (aj ⟨x,rfl,aj (q _ ⟨_,m5 _ o1 (Obj.isFreed_of_fields (Obj.data_mapFields o3 _)),(Obj.cls_mapFields ..).trans o2,?_⟩ (jy ..))⟩));rw[Obj.data_mapFields o3];simp[rawInt]
set_option tactic.hygienic true in
def aim(hd:A.handled=none)(a:s.heap.IsTupleIter it t i)(b:s.heap.IsTuple t xs)(e:xs[i]?=none)(q:∀h' x,Heap.ExtBut it s.heap h'->(∃o,h'.get? x=some o/\o.cls=.type "StopIteration")->E (.ref x) { s with heap:=h' }):wpAny (model prog w) A (Builtin.SmallTypes.nextOf (.ref it)) Q E s:=by obtain⟨o,o1,o2,o3⟩:=id a;obtain⟨ol,l1,l2,nl,l3⟩:=b;unfold Builtin.SmallTypes.nextOf;refine aa (j7 (name:=Str.ofString "__next__") a.typeIs uz (jw uz a.typeIs F.entry_tuple_iterator_next ?_ (F.args_tuple_iterator_next_1 _)));show wpAny _ _ (field (.ref it) 0 >>= _) _ _ s;refine aa (jg o1 o3 (x:=.ref t) rfl ?_);show wpAny _ _ (if(Value.ref t==Value.none)=true then _ else field (.ref it) 1 >>= _) _ _ s;rw[bw (show ¬((Value.ref t==Value.none)=true) by exact jf)];refine aa (jg o1 o3 (x:=.int i 0) rfl (aa (t8 l1 l3 ?_)));simp only[u9,e];refine aa (wpAny_rule (aa (wpAny_setField o1 o3 (by simp) ?_)));show wpAny _ _ (newExc (.type "StopIteration") [] >>= raiseNew) _ _ _;exact Yh.aha hd λh' x k e=>q h' x (λb o n z=>k b o ((jy ..).extBut b o n z)) e
def ItB(b:Bool)(h:Heap)(it a:Addr)(i:Nat):Prop:=cond b (h.IsTupleIter it a i) (h.IsListIter it a i)
def SqB(b:Bool)(h:Heap)(a:Addr)(xs:U1):Prop:=cond b (h.IsTuple a xs) (h.IsList a xs)
def ItB.at(x:ItB b h it a i)(k:∀o,h.get? it=some o->h'.get? it=some o):ItB b h' it a i:=by
 cases b with
 |true=>obtain⟨o,e,r⟩:=x;exact⟨o,k o e,r⟩
 |false=>obtain⟨o,e,r⟩:=x;exact⟨o,k o e,r⟩
def ItB.obj(x:ItB b h it a i):∃o,h.get? it=some o/\∀v,o.data≠.cell v:=by
 cases b with
 |true=>obtain⟨o,e,c,d⟩:=x;exact⟨o,e,λv z=>by rw[d] at z;cases z⟩
 |false=>obtain⟨o,e,c,d⟩:=x;exact⟨o,e,λv z=>by rw[d] at z;cases z⟩
def ap4(a:ItB b s.heap it t i)(c:SqB b s.heap t xs)(e:xs[i]?=some x)(q:∀h',ItB b h' it t (i+1)->Heap.SameBut it s.heap h'->Q x { s with heap:=h' }):wpAny (model prog w) A (Builtin.SmallTypes.nextOf (.ref it)) Q E s:=by
 cases b with
 |true=>exact aeg a c e q|false=>exact wpAny_nextOf_list_item a c e q
def avr(hd:A.handled=none)(a:ItB b s.heap it t i)(c:SqB b s.heap t xs)(e:xs[i]?=none)(q:∀h' x,Heap.ExtBut it s.heap h'->(∃o,h'.get? x=some o/\o.cls=.type "StopIteration")->E (.ref x) { s with heap:=h' }):wpAny (model prog w) A (Builtin.SmallTypes.nextOf (.ref it)) Q E s:=by
 cases b with
 |true=>exact aim hd a c e q|false=>exact wpAny_nextOf_list_end hd a c e q
def avs{i:Nat}{Q:Y1}(he:IsEnum s.heap e it i old)(a:ItB b s.heap it t i)(c:SqB b s.heap t xs)(ex:xs[i]?=some x)(ne:e≠it)(q:∀h',IsEnumOut h' e it ((i:Int)+1) x s.heap.objs.size->ItB b h' it t (i+1)->h'.get? s.heap.objs.size=some { cls:=.type "tuple",data:=.seq #[.int i s.toks,x] }->h'.objs.size=s.heap.objs.size+1 ->
 (∀y o,y≠e->y≠it->s.heap.get? y=some o->h'.get? y=some o)->Q (.ref s.heap.objs.size) { s with heap:=h',toks:=s.toks+1 }) :
 wpAny (model prog w) A (Builtin.«enumerate.__next__» ⟨[.ref e],[]⟩) (λfin s'=>∃v,fin=.done (.ret v)/\Q v s') E s:=by
 obtain⟨hp,g,d,tk,os⟩:=s;show wpAny _ _ (field (.ref e) 2 >>= _) _ _ _;refine aa (jg he rfl (x:=.ref it) rfl (aa (ap4 a c ex λh1 a1 s1=>?_)));have s1:Heap.SameBut it hp h1:=s1;have e1:IsEnum h1 e it i old:=(s1.2 e ne).trans he;refine aa (jg e1 rfl (x:=rawInt i) rfl (aa (jg e1 rfl (x:=.none) rfl (aa (wpAny_mkInt ?_)))));show wpAny _ _ (setField (.ref e) 3 (rawInt ((i:Int)+1)) >>= _) _ _ ⟨h1,g,d,tk+1,os⟩;refine aa (jd e1 (by simp) λh2 e2 s2=>?_);have s2:Heap.SameBut e h1 h2:=s2;have e2:IsEnum h2 e it ((i:Int)+1) old:=e2;refine aa (jd e2 (by simp) λh3 e3 s3=>?_);have s3:Heap.SameBut e h2 h3:=s3;have e3:IsEnum h3 e it ((i:Int)+1) old:=e3;refine aa (wpAny_newTuple ?_);have n3:h3.objs.size=hp.objs.size:=by rw[s3.1,s2.1,s1.1]
 obtain⟨h4,d4⟩:∃h4,h4=h3.push { cls:=.type "tuple",data:=.seq #[.int i tk,x] }:=⟨_,rfl⟩;have e4:IsEnum h4 e it ((i:Int)+1) old:=by rw[d4];exact au _ e3
 have t4:h4.get? hp.objs.size=some { cls:=.type "tuple",data:=.seq #[.int i tk,x] }:=by rw[d4,<- n3];exact bu _ rfl
 have n4:h4.objs.size=hp.objs.size+1:=by rw[d4,iu,n3]
 have k3:∀y o,y≠e->h1.get? y=some o->h4.get? y=some o:=λy o hy z=>by rw[d4];exact au _ (s3.extBut y o hy (s2.extBut y o hy z))
 have a4:ItB b h4 it t (i+1):=a1.at λo z=>k3 it o (j0 ne) z
 have lt:e<hp.objs.size:=az he
 show wpAny _ _ (Builtin.SmallTypes.ownedTupleIsFree (.ref e) >>= _) _ _ ⟨h3.push _,g,d,tk+1,os⟩;rw[n3,<- d4];refine aa ?_;unfold Builtin.SmallTypes.ownedTupleIsFree;refine aa (jg e4 rfl (x:=.none) rfl (aj ?_));simp only[jx];refine aa (wpAny_rule (aa (jg e4 rfl (x:=old) rfl (aa (jd e4 (by simp) λh5 e5 s5=>?_)))));have s5:Heap.SameBut e h4 h5:=s5;have e5:IsEnum h5 e it ((i:Int)+1) x:=e5;refine aa ?_;unfold Builtin.SmallTypes.ownedTupleHandOut;refine aa (jd e5 (by simp) λh6 e6 s6=>?_);have s6:Heap.SameBut e h5 h6:=s6;have e6:IsEnumOut h6 e it ((i:Int)+1) x hp.objs.size:=e6;refine jd e6 (by simp) λh7 e7 s7=>?_
 have s7:Heap.SameBut e h6 h7:=s7;have k7:∀y o,y≠e->h4.get? y=some o->h7.get? y=some o:=λy o hy z=>s7.extBut y o hy (s6.extBut y o hy (s5.extBut y o hy z))
 exact aa (wpAny_letGo (aj ⟨_,rfl,q h7 e7 (a4.at λo z=>k7 it o (j0 ne) z) (k7 _ _ (v5 lt) t4) (by rw[s7.1,s6.1,s5.1,n4]) λy o y1 y2 z=>k7 y o y1 (k3 y o y1 (s1.extBut y o y2 z))⟩))
set_option tactic.hygienic true in
def avt{i:Nat}(he:IsEnum s.heap e it i old)(a:ItB b s.heap it t i)(c:SqB b s.heap t xs)(ex:xs[i]?=some x)(ne:e≠it)(q:∀h',IsEnumOut h' e it ((i:Int)+1) x s.heap.objs.size->ItB b h' it t (i+1)->h'.get? s.heap.objs.size=some { cls:=.type "tuple",data:=.seq #[.int i s.toks,x] }->h'.objs.size=s.heap.objs.size+1 ->
 (∀y o,y≠e->y≠it->s.heap.get? y=some o->h'.get? y=some o)->Q (some (.ref s.heap.objs.size)) { s with heap:=h',toks:=s.toks+1 }):wpAny (model prog w) A (pyNext (.ref e)) Q E s:=by
 have ty:s.TypeIs (.ref e) "enumerate" := ⟨_,he,rfl⟩;unfold pyNext;refine aa (wpAny_attempt (j7 (name:=Str.ofString "__next__") ty xj (jw xj ty F.entry_enumerate_next ?_ (F.args_enumerate_next_1 _))));exact avs he a c ex ne λh' y1 y2 y3 y4 y5=>aj (q h' y1 y2 y3 y4 y5)
set_option tactic.hygienic true in
def avu{i:Nat}(hd:A.handled=none)(he:IsEnum s.heap e it i old)(a:ItB b s.heap it t i)(c:SqB b s.heap t xs)(ex:xs[i]?=none)(q:∀h',Heap.ExtBut it s.heap h'->Q none { s with heap:=h' }):wpAny (model prog w) A (pyNext (.ref e)) Q E s:=by have ty:s.TypeIs (.ref e) "enumerate" := ⟨_,he,rfl⟩;unfold pyNext;refine aa (wpAny_attempt (j7 (name:=Str.ofString "__next__") ty xj (jw xj ty F.entry_enumerate_next ?_ (F.args_enumerate_next_1 _))));show wpAny _ _ (field (.ref e) 2 >>= _) _ _ _;refine aa (jg he rfl (x:=.ref it) rfl (aa (avr hd a c ex λh' z k z_=>?_)));obtain⟨o,o1,o2⟩:=z_;exact aa (o8 (T := "StopIteration") (b:=true) ⟨o,o1,o2⟩ isSubtype_stop (aj (q _ k)))
set_option tactic.hygienic true in
def avv(t:Addr)(xs:U1)(n:Nat)(dct:Option Addr)(sl:Array (Option Value)) :
 Meets (Builtin.«enumerate.__new__» ⟨[.type "enumerate",.ref t],[]⟩) (λ_ R s=>s.heap.get? t=some { cls:=.type "tuple",dict:=dct,data:=.seq xs n,slots:=sl } /\
  R (.ok (.ret (.ref (s.heap.push { cls:=.type "tuple_iterator",data:=.fields #[.ref t,.int 0 0] }).objs.size)))
   { s with heap:=(s.heap.push { cls:=.type "tuple_iterator",data:=.fields #[.ref t,.int 0 0] }).push { cls:=.type "enumerate",data:=.fields #[.none,.bool false,.ref s.heap.objs.size,rawInt 0,.none,.none] } }) :=
 .of_wp λprog w A R s h=>by
  obtain⟨hp,g,d,tk,os⟩:=s;obtain⟨hl,h⟩:=h;have Z5:=sub_enumerate;have hT:Heap.IsTuple (Shared.heap ⟨hp,g,d,tk,os⟩) t xs:=⟨_,hl,rfl,n,rfl⟩
  wp_walk using wpAny_loadPart' hl
  refine wpAny_stack_any λst=>aj ?_
  split
  . rename_i c _ _ _ _ _
    cases(c==Value.type "enumerate")<;>(wp_walk using wpAny_loadPart' hl,wpAny_pyIter_tuple hT)<;>exact⟨_,rfl,h⟩
  . wp_walk using wpAny_loadPart' hl,wpAny_pyIter_tuple hT
    exact⟨_,rfl,h⟩
def ap5(c:s.heap.IsTuple t xs)(q:∀h',IsEnum h' (s.heap.objs.size+1) s.heap.objs.size 0 .none->h'.IsTupleIter s.heap.objs.size t 0->h'.objs.size=s.heap.objs.size+2 ->
 (∀y o,s.heap.get? y=some o->h'.get? y=some o)->Q (.ref (s.heap.objs.size+1)) { s with heap:=h' }):wpAny (model prog w) A (call (.type "enumerate") [.ref t]) Q E s:=by
 obtain⟨⟨c0,dct,dt,sl⟩,hl,hc,n,hd⟩:=c;have hc:c0=.type "tuple" := hc;have hd:dt=.seq xs n:=hd;subst hc hd;have n1:(s.heap.push { cls:=.type "tuple_iterator",data:=.fields #[.ref t,.int 0 0] }).objs.size=s.heap.objs.size+1:=iu ..;refine callType_new F.called_enumerate (by decide) (F.typeCall_enumerate_1 _) (F.newCall_enumerate_1 _) (λobj=>F.args_object_init_2 obj _) F.entry_enumerate_new (avv t xs n dct sl) ⟨hl,?_⟩;show _/\_;rw[n1];have e1:IsEnum ((s.heap.push { cls:=.type "tuple_iterator",data:=.fields #[.ref t,.int 0 0] }).push { cls:=.type "enumerate",data:=.fields #[.none,.bool false,.ref s.heap.objs.size,rawInt 0,.none,.none] }) (s.heap.objs.size+1) s.heap.objs.size 0 .none:=by rw[<- n1];exact bu _ rfl
 exact⟨⟨_,e1,rfl⟩,q _ e1 ⟨_,au _ (bu _ rfl),rfl,rfl⟩ (by rw[iu,n1]) λy o z=>au _ (au _ z)⟩
end EnT
namespace L2
open PySem PySem.Spec EnT
def Inv.Zk{ch:X9}(I:Inv X pins σ H s)(hf:∀b∈ch,U5 X pins H b)(k:∀b o,b∉ch->s.heap.get? b=some o->h'.get? b=some o)(hn:s.heap.objs.size<=n)(new:Bj X.prog X.w (upd H n (.tup vs)) h' n (.tup vs)):Inv X pins σ (upd H n (.tup vs)) { s with heap:=h',toks:=t' }:=by
 have fr:H n=none:=I.Am.fresh hn;have nch:∀b u,H b=some u->b∉ch:=λb u e z=>by rw[(hf b z).1] at e;cases e
 have old:∀b o,s.heap.get? b=some o->b≠n:=λb o e=>dz (gm (az e) hn)
 refine I.step (g':=s.gens) (d':=s.drawn) (ch:=ch) (λb hb=>⟨(hf b hb).2.2.2.1,(hf b hb).2.1,(hf b hb).2.2.2.2.1,(hf b hb).2.2.2.2.2⟩) (λb o _ _ hc e _=>k b o hc e) (λb o _ _ hc e _=>⟨o.slots,k b o hc e⟩) (λb o _ e n0=>by rw[j9 (old b o e)];exact n0)
  (λb o hc e=>⟨o,k b o hc e⟩) (λb xs e=>by rw[j9 (lg e fr)];exact e) (λb o u e=>by rw[j9 (lg e fr)];exact e) (λb ps e=>⟨#[],by rw[j9 (lg e fr),e];simp⟩) (λm hm=>?_) (λb u e=>?_) I.bare
 . obtain⟨o,es,ep,ho,r⟩:=hm
   exact⟨o,es,ep,k _ o (λz=>(hf _ z).2.1 rfl) ho,r⟩
 . by_cases z:b=n
   . subst z;rw[xf] at e;cases e;exact new
   . rw[j9 z] at e
     refine(I.Am b u e).stay (λc v hc q=>k c v ?_ q) (λc q=>by rw[j9 (lg q fr)];exact q) λc xs q=>by rw[j9 (lg q fr)];exact q
     rcases hc with y|y
     . rw[y];exact nch b u e
     . exact nch c _ y
def Inv.ain{ch:X9}(I:Inv X pins σ H s)(hf:∀b∈ch,U5 X pins H b)(k:∀b o,b∉ch->s.heap.get? b=some o->h'.get? b=some o):Inv X pins σ H { s with heap:=h',toks:=t' }:=by
 have nch:∀b u,H b=some u->b∉ch:=λb u e z=>by rw[(hf b z).1] at e;cases e
 refine I.step (g':=s.gens) (d':=s.drawn) (ch:=ch) (λb hb=>⟨(hf b hb).2.2.2.1,(hf b hb).2.1,(hf b hb).2.2.2.2.1,(hf b hb).2.2.2.2.2⟩) (λb o _ _ hc e _=>k b o hc e) (λb o _ _ hc e _=>⟨o.slots,k b o hc e⟩) (λb o _ e n0=>n0)
  (λb o hc e=>⟨o,k b o hc e⟩) (λb xs e=>e) (λb o u e=>e) (λb ps e=>⟨#[],by rw[e];simp⟩) (λm hm=>?_) (λb u e=>?_) I.bare
 . obtain⟨o,es,ep,ho,r⟩:=hm
   exact⟨o,es,ep,k _ o (λz=>(hf _ z).2.1 rfl) ho,r⟩
 . refine(I.Am b u e).stay (λc v hc q=>k c v ?_ q) (λ_ q=>q) λ_ _ q=>q
   rcases hc with y|y
   . rw[y];exact nch b u e
   . exact nch c _ y
def SqX(b:Bool)(K:Fg)(H:Hp)(a:Addr)(xs:List V):Prop:=cond b (Jh K H a xs) (Ia K H a xs)
def Inv.a2l(I:Inv X pins σ H s)(h:SqX b X.K H a xs):∃yw,Vals xs yw/\SqB b s.heap a yw.toArray:=by
 cases b with
 |true=>obtain⟨yw,rv,p,hz⟩:=I.tuple h;exact⟨yw,rv,show s.heap.IsTuple a yw.toArray from p⟩
 |false=>obtain⟨yw,rv,p,hz⟩:=I.list h;exact⟨yw,rv,p.isList⟩
def Inv.ap6(I:Inv X pins σ H s)(h:SqX b X.K H a xs)(g:SqX b X.K H a ys):xs=ys:=by
 cases b with
 |true=>exact I.Td h g|false=>exact I.adg h g
noncomputable def Ien(b:Bool)(K:Fg)(a:Addr):It :=
 ⟨λi H=>∃xs x,SqX b K H a xs/\xs[i]?=some x,λi H v H'=>∃p x,v=.ref p/\H p=none/\H'=upd H p (.tup [.int (i:Nat),x])/\∀xs,SqX b K H a xs->xs[i]?=some x,λi H=>∃xs,SqX b K H a xs/\xs.length<=i⟩
set_option tactic.hygienic true in
theorem avw(a e it:Addr)(ne:e≠it):Turn P w K (.Tuple ts k0 pt) (Ien b K a) [e,it] e (λi h=>(∃old,IsEnum h e it ((i:Nat):Int) old)/\ItB b h it a i) where
 mem:=by simp
 obj:=λi h st c hc=>by
  obtain⟨⟨old,e1⟩,e2⟩:=st;rcases bz.mp hc with z|z
  . subst z;exact⟨_,e1,λv z=>by cases z⟩
  . have z:c=it:=by simpa using z
    subst z;exact e2.obj
 keep:=λi h h' st k=>by obtain⟨⟨old,e1⟩,e2⟩:=st;exact⟨⟨old,k e (by simp) _ e1⟩,e2.at λo z=>k it (by simp) o z⟩
 item:=by
  intro X hP hw hK hc i pins s σ H E I hf st hg;subst hP hw hK;obtain⟨xs,x,hq,hx⟩:=hg;obtain⟨yw,rv,p⟩:=I.a2l hq;obtain⟨u,hu,ru⟩:=rv.get hx;obtain⟨⟨old,e1⟩,e2⟩:=st;have lt:e<s.heap.objs.size:=az e1
  refine avt e1 e2 p (x:=u) (by simpa using hu) ne λh1 o1 a1 t1 n1 k1=>⟨_,rfl,?_⟩
  refine wpAny_letOwnedTupleGo_enum o1 λh2 o2 s2=>?_
  have s2:Heap.SameBut e h1 h2:=s2;have t2:h2.get? s.heap.objs.size=some { cls:=.type "tuple",data:=.seq #[.int i s.toks,u] }:=(s2.2 _ (v5 lt)).trans t1;refine⟨.ref s.heap.objs.size,upd H s.heap.objs.size (.tup [.int (i:Nat),x]),I.Zk (t':=s.toks+1) hf (λc o hc z=>?_) (bh _) ⟨by show 2<=sizeLine;decide,[.int i s.toks,u],.cons ⟨s.toks,rfl⟩ (.cons ru .nil),⟨_,t2,rfl,_,rfl,rfl⟩⟩,rfl,
   ⟨_,x,rfl,I.Am.fresh (bh _),rfl,λys hy=>by rw[I.ap6 hy hq];exact hx⟩,⟨⟨u,?_⟩,a1.at λo z=>s2.extBut it o (j0 ne) z⟩,λc hc=>?_⟩
  . have c1:c≠e:=λz=>hc (by simp[z])
    have c2:c≠it:=λz=>hc (by simp[z])
    exact s2.extBut c o c1 (k1 c o c1 c2 z)
  . have q:((i+1:Nat):Int)=(i:Int)+1:=by push_cast;rfl
    rw[q];exact o2
  . have lt2:c<s.heap.objs.size:=by
     rcases bz.mp hc with z|z
     . rw[z];exact lt
     . have z:c=it:=by simpa using z
       obtain⟨o,z2,_⟩:=e2.obj;rw[z];exact az z2
    rw[j9 (dz lt2)];exact(hf c hc).1
 done:=by intro X hP hw hK hc i pins s σ H E I hf st hg;subst hP hw hK;obtain⟨xs,hq,hx⟩:=hg;obtain⟨yw,rv,p⟩:=I.a2l hq;obtain⟨⟨old,e1⟩,e2⟩:=st;have hl:=rv.length;refine avu (I.ok.hd hc) e1 e2 p (by simp;exact a_ (g_ hl) hx) λh' eb=>⟨rfl,I.ain (t':=s.toks) hf λc o hc z=>eb c o (λy=>hc (by simp[y])) z⟩
 self:=λ_ _ _ _ _ st h=>by obtain⟨⟨old,e1⟩,e2⟩:=st;exact wpAny_pyIter_enum e1 h
def a9p(hg:Gl X "enumerate")(hm:X.mg "enumerate" = none)(ha:PA X [a] ta)(hs:starEach [a] X.env=[(false,eval a X.env)]) :
 PI X (.Tuple ts k0 pt) (.Call (.Name "enumerate" p) [a] [] pos) (fun σ H R=>ta σ H λvs H1=>∃b q,vs=[.ref q]/\(∃xs,SqX b X.K H1 q xs)/\R (Ien b X.K q) H1):=by
 intro pins s σ H R I h;refine PyProof.Rows.Call_ (Dm I hg hm (show bootBuiltins "enumerate" = some (.type "enumerate") by decide+kernel) (jh (Bu (ha pos pins s σ H _ I h) λus s1 ⟨vs,H1,I1,r1,q1⟩=>?_) hs rfl));obtain⟨b,q,rfl,⟨xs,hq⟩,hR⟩:=q1;cases r1 with
 |cons r rr =>
  cases rr;cases r;obtain⟨yw,rv,p⟩:=I1.a2l hq;have fin:∀h',IsEnum h' (s1.heap.objs.size+1) s1.heap.objs.size 0 .none->ItB b h' s1.heap.objs.size q 0->(∀y o,s1.heap.get? y=some o->h'.get? y=some o) ->
   wpAny (model X.prog X.w) X.A (pyIter (.ref (s1.heap.objs.size+1))) (PIE X pins σ (.Tuple ts k0 pt) R) X.xe { s1 with heap:=h' }:=λh' e1 e2 kk=>by
   refine wpAny_pyIter_enum e1 ?_;refine⟨s1.heap.objs.size+1,[s1.heap.objs.size+1,s1.heap.objs.size],_,_,H1,rfl,I1.kept (t':=s1.toks) kk,avw (b:=b) q _ _ (Nat.succ_ne_self _),⟨⟨.none,e1⟩,e2⟩,λc hc=>?_,hR⟩;have hle:s1.heap.objs.size<=c:=by
    rcases bz.mp hc with z|z
    . rw[z];exact vz _
    . have z:c=s1.heap.objs.size:=by simpa using z
      rw[z];exact bh _
   exact I1.aom hle (I1.Am.fresh hle)
  cases b with
  |true=>exact ap5 p λh' e1 e2 _ kk=>fin h' e1 e2 kk
  |false=>exact call_enumerate_list p λh' e1 e2 _ kk=>fin h' e1 e2 kk
end L2
namespace EnT
open PySem PySem.Spec
noncomputable def tpN(xs:Zl):Obj:={ cls:=.type "tuple",data:=.seq xs.toArray }
structure ZN(h0:Heap)(n:Nat)(ls:Y3)(f0:Value)(ov:Zl)(k d:Nat)(g:Heap):Prop where
 z:IsZip g (n+ls.length+2) (n+ls.length) (n+ls.length+1) f0
 o:g.get? (n+ls.length+1)=some (tpN ov)
 a:∀(j:Nat) l,ls[j]?=some l->g.IsTupleIter (n+j) l (if j<d then k+1 else k)
 low:∀c o,(c<n\/c=n+ls.length\/n+ls.length+2<c)->h0.get? c=some o->g.get? c=some o
def aei{h h':Heap}{i l k:Nat}(x:h.IsTupleIter i l k)(e:∀o,h.get? i=some o->h'.get? i=some o):h'.IsTupleIter i l k:=let ⟨o,a,b⟩:=x;⟨o,e o a,b⟩
def ap7{h h':Heap}{a:Nat}{xs:U1}(x:h.IsTuple a xs)(e:∀o,h.get? a=some o->h'.get? a=some o):h'.IsTuple a xs:=let ⟨o,a,b⟩:=x;⟨o,e o a,b⟩
def aej{ls:Y3}{j:Nat}(h:ls[j]?=some l):j<ls.length:=(ak.mp h).1
def ZN.sz(H:ZN h0 n ls f0 ov k d g)(e:Heap.ExtBut (n+ls.length+2) g g')(z:IsZip g' (n+ls.length+2) (n+ls.length) (n+ls.length+1) f1):ZN h0 n ls f1 ov k d g' :=
 ⟨z,e _ _ (by lia) H.o,λj l h=>aei (H.a j l h) λo=>e _ o (by have:=aej h;lia),λc o hc z=>e _ _ (by lia) (H.low c o hc z)⟩
def ZN.so(H:ZN h0 n ls f0 ov k d g)(e:Heap.ExtBut (n+ls.length+1) g g')(z:g'.get? (n+ls.length+1)=some (tpN ow)):ZN h0 n ls f0 ow k d g' :=
 ⟨e _ _ (by lia) H.z,z,λj l h=>aei (H.a j l h) λo=>e _ o (by have:=aej h;lia),λc o hc z=>e _ _ (by lia) (H.low c o hc z)⟩
def ZN.sa(H:ZN h0 n ls f0 ov k d g)(hd:d<ls.length)(e:Heap.ExtBut (n+d) g g')(z:∀l,ls[d]?=some l->g'.IsTupleIter (n+d) l (k+1)):ZN h0 n ls f0 ov k (d+1) g' :=
 ⟨e _ _ (by lia) H.z,e _ _ (by lia) H.o,λj l h=>by
  by_cases c:j=d
  . subst c;rw[cz (by lia)];exact z l h
  . have:=H.a j l h
    have i:(if j<d+1 then k+1 else k)=if j<d then k+1 else k:=by
     by_cases q:j<d
     . rw[cz q,cz (by lia)]
     . rw[bw q,bw (by lia)]
    rw[i];exact aei this λo=>e _ o (by lia),λc o hc z=>e _ _ (by lia) (H.low c o hc z)⟩
def ZN.up(H:ZN h0 n ls f0 ov k d g)(e:∀c o,g.get? c=some o->g'.get? c=some o):ZN h0 n ls f0 ov k d g' :=
 ⟨e _ _ H.z,e _ _ H.o,λj l h=>aei (H.a j l h) (e _),λc o hc z=>e _ _ (H.low c o hc z)⟩
def ZN.nx(H:ZN h0 n ls f0 ov k ls.length g):ZN h0 n ls f0 ov (k+1) 0 g :=
 ⟨H.z,H.o,λj l h=>by have:=H.a j l h;rw[cz (aej h)] at this;exact this,H.low⟩
def avx{T:Addr}{Q:Unit->Shared->Prop}(hz:ov.length<=3)(hT:s.heap.get? T=some (tpN ov))(h:∀h',h'.get? T=some (tpN (ov.set k x))->Heap.ExtBut T s.heap h'->h'.objs.size=s.heap.objs.size->Q () { s with heap:=h' }) :
 wpAny (model prog w) A (updateSeq T (·.setIfInBounds k x)) Q E s:=by
 have sb:Heap.SameBut T s.heap (s.heap.update T (Obj.mapSeq (·.setIfInBounds k x))):=jy ..;refine wpAny_updateSeq hT rfl (h _ ?_ sb.extBut sb.1) (hz:=gn (by simpa using hz) (show 3<=sizeLine by decide)) (_hz':=gn (by simpa using hz) (show 3<=sizeLine+1 by decide));rw[m5 _ hT rfl];simp[Obj.mapSeq,tpN]
noncomputable def Ft(n m:Nat):List Value:=(List.range m).map λj=>.ref (n+j)
def aio(n m:Nat):(Ft n m).zipIdx=(List.range' 0 m).map λj=>(Value.ref (n+j),j):=by
 apply vd;intro i;rw[ym]
 by_cases h:i<m
 . simp[Ft,h]
 . simp[Ft,h]
def At(h:Heap)(ls:Y3)(k:Nat)(vs:Zl):Prop:=vs.length=ls.length/\∀(j:Nat) l,ls[j]?=some l->∃xs x,h.IsTuple l xs/\xs[k]?=some x/\vs[j]?=some x
def avy{n k:Nat}{Q:Y1}(Tw:ls≠[])(h3:ls.length<=3)(H:ZN s.heap n ls .none ov k 0 s.heap)(ho:ov.length=ls.length)(hI:s.heap.get? (n+ls.length)=some (tpN (Ft n ls.length)))(hl:∀l∈ls,l<n)(ha:At s.heap ls k vs)
 (hq:∀h',ZN s.heap n ls (rawInt s.heap.objs.size) vs (k+1) 0 h'->h'.get? s.heap.objs.size=some (tpN vs)->Q (.ref s.heap.objs.size) { s with heap:=h' }) :
 wpAny (model prog w) A (Builtin.«zip.__next__» ⟨[.ref (n+ls.length+2)],[]⟩) (λfin s'=>∃v,fin=.done (.ret v)/\Q v s') E s:=by
 have hz:=H.z;have ne:(Ft n ls.length).toArray.isEmpty=false:=by cases ls with|nil=>exact absurd rfl Tw|cons a l=>simp[Ft]
 show wpAny _ _ (field (.ref (n+ls.length+2)) 2 >>= _) _ _ _;refine aa (jg hz rfl (x:=.bool false) rfl (aa (jg hz rfl (x:=.ref (n+ls.length)) rfl (aa (t8 hI rfl ?_)))));simp only[ne,cu,ji];unfold Builtin.SmallTypes.ownedTupleIsFree;refine aa (aa (jg hz rfl (x:=.none) rfl (aj ?_)));simp only[jx];refine aa (wpAny_rule (aa (jg hz rfl (x:=.ref (n+ls.length+1)) rfl (aa (jd hz (by simp) λg1 z1 s1=>?_)))));have H1:=H.sz s1.extBut (f1:=.ellipsis) z1;refine aa (ql _ (λrest b s'=>b=(none,())/\∃d ov g,rest=((List.range' d (ls.length-d)).map λj=>(Value.ref (n+j),j))/\d<=ls.length/\s'={ s with heap:=g }/\ZN s.heap n ls .ellipsis ov k d g/\ov.length=ls.length/\(∀i,i<d->ov[i]?=vs[i]?)/\g.objs.size=s.heap.objs.size) _ (λx rest b s' hI=>?_) (λb s' hI=>?_) _ _ ⟨rfl,0,ov,g1,?_,ju _,rfl,H1,ho,λi hi=>absurd hi (ug _),s1.1⟩)
 . obtain⟨rfl,d,ov,g,e,hd,rfl,H2,o2,v2,n2⟩:=hI
   have hd:d<ls.length:=by
    rcases yh d ls.length with h|h
    . exact h
    . rw[Nat.sub_eq_zero_of_le h] at e;cases e
   obtain⟨c,hc⟩:∃c,ls.length-d=c+1:=⟨ls.length-d-1,by lia⟩;rw[hc,List.range'_succ,gq] at e;injection e with e1 e2
   subst e1 e2;obtain⟨l,el⟩:∃l,ls[d]?=some l:=⟨ls[d],by simp[hd]⟩;obtain⟨xs,x,t1,t2,t3⟩:=ha.2 d l el;have i0:=H2.a d l el;rw[bw (kh _)] at i0;have ll:=hl l (ao el);refine aa (wpAny_onRaise (aa (aeg (s:={ s with heap:=g }) i0 (ap7 t1 λo=>H2.low _ o (by lia)) t2 λg2 i2 s2=>aj ?_)));have H3:=H2.sa hd s2.extBut λl' h=>by rw[el] at h;cases h;exact i2
   refine aa (t8 H3.o rfl (aa (avx (by rw[o2];exact h3) H3.o λg3 o3 s3 n3=>?_)));have H4:=H3.so s3 o3;refine aa (wpAny_letGo (aj ⟨rfl,d+1,ov.set d x,g3,by rw[show ls.length-(d+1)=c by lia],hd,rfl,H4,by rw[List.length_set,o2],λi hi=>?_,by rw[n3,show g2.objs.size=g.objs.size from s2.1,n2]⟩))
   by_cases z:i=d
   . subst z
     rw[zu (by lia),t3]
   . rw[uy (j0 z)];exact v2 i (by lia)
 . obtain⟨rfl,d,ov,g,e,hd,rfl,H2,o2,v2,n2⟩:=hI
   have hd:d=ls.length:=by
    rcases yh d ls.length with h|h
    . obtain⟨c,hc⟩:∃c,ls.length-d=c+1:=⟨ls.length-d-1,by lia⟩
      rw[hc,List.range'_succ] at e;cases e
    . exact Nat.le_antisymm hd h
   subst hd;obtain rfl:ov=vs:=by
    apply vd;intro i;rcases yh i ls.length with h|h
    . exact v2 i h
    . rw[kj (by lia),kj (by rw[ha.1];exact h)]
   refine aa (t8 H2.o rfl (aa (wpAny_newTuple ?_)));have H8:=H2.nx.up (g':=g.push (tpN ov)) λc o e=>au _ e
   refine aa ?_;unfold Builtin.SmallTypes.ownedTupleHandOut;refine aa (jd H8.z (by simp) λg9 z9 s9=>?_);have H9:=H8.sz s9.extBut (f1:=rawInt g.objs.size) z9;refine jd H9.z (by simp) λg10 z10 s10=>?_
   have H10:=H9.sz s10.extBut (f1:=rawInt g.objs.size) z10;have zl:n+ls.length+2<g.objs.size:=az H2.z
   have t10:g10.get? g.objs.size=some (tpN ov):=s10.extBut _ _ (v5 zl) (s9.extBut _ _ (v5 zl) (bu _ rfl));refine aj ⟨_,rfl,?_⟩;show Q (.ref g.objs.size) _;rw[n2] at H10 t10 ⊢;exact hq g10 H10 t10
 . show(Ft n ls.length).zipIdx=_
   rw[aio];rfl
def a2m{n k:Nat}{ls:Y3}(hd:A.handled=none)(h0:ls[0]?=some l)(H:ZN s.heap n ls .none ov k 0 s.heap)(hI:s.heap.get? (n+ls.length)=some (tpN (Ft n ls.length)))(hl:l<n)(c1:s.heap.IsTuple l xs)(e1:xs[k]?=none)
 (hE:∀h' e,(∀c o,(c<n\/n+ls.length+2<c)->s.heap.get? c=some o->h'.get? c=some o)->(∃o,h'.get? e=some o/\o.cls=.type "StopIteration")->E (.ref e) { s with heap:=h' }) :
 wpAny (model prog w) A (Builtin.«zip.__next__» ⟨[.ref (n+ls.length+2)],[]⟩) Q E s:=by
 have hz:=H.z;obtain⟨c,hc⟩:∃c,ls.length=c+1:=⟨ls.length-1,by have:=aej h0;lia⟩;have ne:(Ft n ls.length).toArray.isEmpty=false:=by rw[hc];simp[Ft]
 show wpAny _ _ (field (.ref (n+ls.length+2)) 2 >>= _) _ _ _;refine aa (jg hz rfl (x:=.bool false) rfl (aa (jg hz rfl (x:=.ref (n+ls.length)) rfl (aa (t8 hI rfl ?_)))));simp only[ne,cu,ji];unfold Builtin.SmallTypes.ownedTupleIsFree;refine aa (aa (jg hz rfl (x:=.none) rfl (aj ?_)));simp only[jx];refine aa (wpAny_rule (aa (jg hz rfl (x:=.ref (n+ls.length+1)) rfl (aa (jd hz (by simp) λg1 z1 s1=>?_)))));have H1:=H.sz s1.extBut (f1:=.ellipsis) z1;have i1:g1.IsTupleIter n l k:=H1.a 0 l h0;have er:(Ft n ls.length).zipIdx=(Value.ref n,0)::(List.range' 1 c).map λj=>(Value.ref (n+j),j):=by rw[aio,hc];rfl
 rw[er,List.forIn_cons];refine aa (aa (aa (wpAny_onRaise (aa (aim (s:={ s with heap:=g1 }) hd i1 (ap7 c1 λo=>H1.low _ o (by lia)) e1 λg2 x s2 z_=>?_)))));obtain⟨o,o1,o2⟩:=z_;have z2:IsZip g2 (n+ls.length+2) (n+ls.length) (n+ls.length+1) .ellipsis:=s2 _ _ (by lia) H1.z;have ne:x≠n+ls.length+2:=λy=>by subst y;rw[z2] at o1;cases o1;simp at o2
 exact jd z2 (by simp) λg3 _ s3=>hE g3 x (λc o y1 e=>s3.extBut _ _ (by lia) (s2 _ _ (by lia) (s1.extBut _ _ (by lia) e))) ⟨o,s3.extBut _ _ ne o1,o2⟩
noncomputable def zI(a:Addr):Obj:={ cls:=.type "tuple_iterator",data:=.fields #[.ref a,.int 0 0] }
noncomputable def pI(h:Heap)(ls:Y3):Heap:=ls.foldl (λh l=>h.push (zI l)) h
theorem abi:∀(ls:Y3)(h:Heap),(pI h ls).objs.size=h.objs.size+ls.length
 |[],h=>rfl
 |l::ls,h=>by
  have:=abi ls (h.push (zI l));rw[iu] at this;rw[gw,<- Nat.add_assoc,Nat.add_right_comm];exact this
theorem aip:∀{ls:Y3}{h:Heap},h.get? c=some o->(pI h ls).get? c=some o
 |[],_,e=>e|x::ls,h,e=>aip (ls:=ls) (h:=h.push (zI x)) (au _ e)
theorem ap8:∀{ls:Y3}{h:Heap}{j:Nat},ls[j]?=some l->(pI h ls).get? (h.objs.size+j)=some (zI l)
 |x::ls,h,0,e=>by cases e;exact aip (ls:=ls) (h:=h.push (zI l)) (bu _ rfl)
 |x::ls,h,j+1,e=>by
  have:=ap8 (h:=h.push (zI x)) (ls:=ls) (j:=j) e;rw[iu] at this;rw[<- Nat.add_assoc,Nat.add_right_comm];exact this
def avz{Q:List Value->Shared->Prop}(ht:∀l∈ls,∃xs,s.heap.IsTuple l xs)(q:Q (Ft s.heap.objs.size ls.length) { s with heap:=pI s.heap ls }):wpAny (model prog w) A (Builtin.SmallTypes.iterAll (ls.map .ref)) Q E s:=by
 unfold Builtin.SmallTypes.iterAll;refine aa (ql _ (λrest yw s'=>∃d,d<=ls.length/\rest=(ls.drop d).map .ref/\yw=(Ft s.heap.objs.size d).toArray/\s'={ s with heap:=pI s.heap (ls.take d) }) _ (λx rest b s' hI=>?_) (λb s' hI=>?_) _ _ ⟨0,ju _,rfl,rfl,rfl⟩)
 . obtain⟨d,hd,e,rfl,rfl⟩:=hI
   have hd:d<ls.length:=by
    rcases yh d ls.length with h|h
    . exact h
    . rw[List.drop_of_length_le h] at e;cases e
   rw[List.drop_eq_getElem_cons hd,gq] at e;injection e with e1 e2
   subst e1 e2;obtain⟨xs,hx⟩:=ht ls[d] (pq hd);refine aa (jo (wpAny_pyIter_tuple (ap7 hx λo e=>aip e) (aj ⟨d+1,hd,rfl,?_,?_⟩)))
   . rw[abi,List.length_take,Nat.min_eq_left (zp hd)]
     simp[Ft,yj]
   . have:pI s.heap (ls.take (d+1))=(pI s.heap (ls.take d)).push (zI ls[d]):=by
      rw[List.take_succ,cj hd,pI,List.foldl_append];rfl
     rw[this];rfl
 . obtain⟨d,hd,e,rfl,rfl⟩:=hI
   have hd:d=ls.length:=by
    rcases yh d ls.length with h|h
    . rw[List.drop_eq_getElem_cons h] at e;cases e
    . exact Nat.le_antisymm hd h
   subst hd;rw[List.take_length];exact aj (by simpa using q)
noncomputable def zB(h:Heap)(ls:Y3):Heap:=(pI h ls).push (tpN (Ft h.objs.size ls.length))
noncomputable def zC(h:Heap)(ls:Y3):Heap:=(zB h ls).push (tpN ((Ft h.objs.size ls.length).map λ_=>.none))
noncomputable def zD(h:Heap)(ls:Y3):Heap:=(zC h ls).push { cls:=.type "zip",data:=.fields #[.none,.bool false,.bool false,.ref (pI h ls).objs.size,.ref (zB h ls).objs.size] }
def ap9(h3:ls.length<=3) :
 Meets (Builtin.«zip.__new__» ⟨.type "zip"::ls.map .ref,[]⟩) (λ_ R s=>(∀l∈ls,∃xs,s.heap.IsTuple l xs)/\R (.ok (.ret (.ref (zC s.heap ls).objs.size))) { s with heap:=zD s.heap ls }) :=
 .of_wp λprog w A R s h=>by
  obtain⟨hp,g,d,tk,os⟩:=s;obtain⟨ht,h⟩:=h;have Z5:=sub_zip;have f1:∀{Q:List Value->Shared->Prop}{A E},Q (Ft hp.objs.size ls.length) ⟨pI hp ls,g,d,tk,os⟩->wpAny (model prog w) A (Builtin.SmallTypes.iterAll (ls.map .ref)) Q E ⟨hp,g,d,tk,os⟩:=λq=>avz ht q
  have sz:∀(xs:Zl),xs.length<=3->xs.toArray.size<=sizeLine:=λxs h=>gn (by simpa using h) (show 3<=sizeLine by decide)
  have f2:∀{Q:Y1}{A E}{h:Heap},Q (.ref h.objs.size) ⟨h.push (tpN (Ft hp.objs.size ls.length)),g,d,tk,os⟩->wpAny (model prog w) A (newTuple (Ft hp.objs.size ls.length)) Q E ⟨h,g,d,tk,os⟩:=λq=>wpAny_newTuple q (sz _ (by simpa[Ft] using h3))
  have f3:∀{Q:Y1}{A E}{h:Heap},Q (.ref h.objs.size) ⟨h.push (tpN ((Ft hp.objs.size ls.length).map λ_=>.none)),g,d,tk,os⟩->wpAny (model prog w) A (newTuple ((Ft hp.objs.size ls.length).map λ_=>.none)) Q E ⟨h,g,d,tk,os⟩:=λq=>wpAny_newTuple q (sz _ (by simpa[Ft] using h3))
  wp_walk using f1,f2,f3
  exact⟨_,rfl,h⟩
def av0{n:Nat}(h3:ls.length<=3)(hn:s.heap.objs.size=n)(ct:checkTypeCall "zip" ⟨ls.map .ref,[]⟩=pure ())(cb:checkBuiltinCall "zip.__new__" ⟨.type "zip"::ls.map .ref,[]⟩=pure ())(ca:∀obj,argsOk "object.__init__" ⟨obj::ls.map .ref,[]⟩)(ht:∀l∈ls,∃xs,s.heap.IsTuple l xs)
 (h:∀h',ZN h' n ls .none ((Ft n ls.length).map λ_=>.none) 0 0 h'->h'.get? (n+ls.length)=some (tpN (Ft n ls.length))->(∀c o,s.heap.get? c=some o->h'.get? c=some o)->Q (.ref (n+ls.length+2)) { s with heap:=h' }):wpAny (model prog w) A (call (.type "zip") (ls.map .ref)) Q E s:=by
 refine callType_new F.called_zip (by decide) ct cb ca F.entry_zip_new (ap9 h3) ⟨ht,?_⟩;have z3:(pI s.heap ls).objs.size=n+ls.length:=by rw[abi,hn]
 have z4:(zB s.heap ls).objs.size=n+ls.length+1:=by unfold zB;rw[iu,z3]
 have z5:(zC s.heap ls).objs.size=n+ls.length+2:=by unfold zC;rw[iu,z4]
 have up:∀{h:Heap}{o':Obj}{c:Addr}{o:Obj},h.get? c=some o->(h.push o').get? c=some o:=λe=>au _ e
 have g6:(zD s.heap ls).get? (zC s.heap ls).objs.size=some _:=bu _ rfl;have g5:(zD s.heap ls).get? (zB s.heap ls).objs.size=some _:=up (bu _ rfl);have g4:(zD s.heap ls).get? (pI s.heap ls).objs.size=some _:=up (up (bu _ rfl));rw[z3,z4,z5] at g6;rw[z4,hn] at g5;rw[z3,hn] at g4;show _/\_;rw[z5];exact⟨⟨_,g6,rfl⟩,h _ ⟨g6,g5,λj l e=>⟨_,up (up (up (by rw[<- hn];exact ap8 e))),rfl,rfl⟩,λ_ _ _ e=>e⟩ g4 λc o e=>up (up (up (aip e)))⟩
def W0(a b c:Value):checkTypeCall "zip" ⟨[a,b,c],[]⟩=pure ():=by kernel_rfl
def Yd(a b c:Value):checkBuiltinCall "zip.__new__" ⟨[.type "zip",a,b,c],[]⟩=pure ():=by kernel_rfl
def aek(a b c d:Value):argsOk "object.__init__" ⟨[a,b,c,d],[]⟩:=by unfold argsOk;rw[signature?_of (id := "object.__init__") (n := "__tini__".toList) (o := "tcejbo".toList) (by kernel_rfl) F.owner_object];kernel_rfl
theorem ak4:∀vs:List Value,vs.length=2\/vs.length=3->checkTypeCall "zip" ⟨vs,[]⟩=pure ()/\checkBuiltinCall "zip.__new__" ⟨.type "zip"::vs,[]⟩=pure ()/\∀obj,argsOk "object.__init__" ⟨obj::vs,[]⟩
 |[a,b],_=>⟨F.typeCall_zip_2 _ _,F.newCall_zip_2 _ _,λobj=>F.args_object_init_3 obj _ _⟩
 |[a,b,c],_=>⟨W0 _ _ _,Yd _ _ _,λobj=>aek obj _ _ _⟩
 |[],h=>by simp at h|[_],h=>by simp at h|_::_::_::_::_,h=>by simp at h
end EnT
namespace L2
open PySem PySem.Spec EnT
noncomputable def IzN(K:Fg)(as:X9):It :=
 ⟨λi H=>∃vs:List V,vs.length=as.length/\∀(j:Nat) a,as[j]?=some a->∃xs x,Jh K H a xs/\xs[i]?=some x/\vs[j]?=some x,
  λi H v H'=>∃p vs,v=.ref p/\H p=none/\H'=upd H p (.tup vs)/\vs.length=as.length/\∀(j:Nat) a xs,as[j]?=some a->Jh K H a xs->vs[j]?=xs[i]?,
  λi H=>∃a xs,as[0]?=some a/\Jh K H a xs/\xs.length<=i⟩
def TN(n:Nat)(as:X9)(i:Nat)(h:Heap):Prop:=(∃ov,ZN h n as .none ov i 0 h/\ov.length=as.length)/\h.get? (n+as.length)=some (tpN (Ft n as.length))
noncomputable def FN(n m:Nat):List Addr:=List.range' n (m+3)
def FN.mem{n m c:Nat}:c∈FN n m↔n<=c/\c<n+m+3:=List.mem_range'_1
theorem at_of(I:Inv X pins σ H s):∀{as:X9}{vs:List V},vs.length=as.length->(∀(j:Nat) a,as[j]?=some a->∃xs x,Jh X.K H a xs/\xs[i]?=some x/\vs[j]?=some x)->∃us,Vals vs us/\At s.heap as i us
 |[],[],_,_=>⟨[],.nil,rfl,λj l h=>by simp at h⟩
 |a::as,v::vs,l,h=>by
  obtain⟨us,r,e,q⟩:=at_of I (as:=as) (vs:=vs) (by simpa using l) (λj a e=>h (j+1) a e);obtain⟨xs,x,q1,x1,hv⟩:=h 0 a rfl;cases hv;obtain⟨i1,r1,p1,_⟩:=I.tuple q1;obtain⟨v1,u1,w1⟩:=r1.get x1;refine⟨v1::us,.cons w1 r,by simp[e],λj l hj=>?_⟩;cases j with
  |zero=>cases hj;exact⟨i1.toArray,v1,p1,by simpa using u1,rfl⟩|succ j=>exact q j l hj
theorem av1{n:Nat}(h3:as.length<=3)(Tw:as≠[])(hl:∀a∈as,a<n):Turn P w K (.Tuple ts k0 pt) (IzN K as) (FN n as.length) (n+as.length+2) (TN n as) where
 mem:=FN.mem.mpr (by lia)
 obj:=λi h st e hc=>by
  obtain⟨⟨ov,H,_⟩,hI⟩:=st;obtain⟨c1,c2⟩:=FN.mem.mp hc
  by_cases z:e<n+as.length
  . have q:e-n<as.length:=by lia
    obtain⟨o,e1,d1,f1⟩:=H.a (e-n) as[e-n] (by simp[q]);rw[show n+(e-n)=e by lia] at e1;exact⟨_,e1,λv z=>by rw[f1] at z;cases z⟩
  . rcases(show e=n+as.length\/e=n+as.length+1\/e=n+as.length+2 by lia) with rfl|rfl|rfl
    . exact⟨_,hI,λv z=>by cases z⟩
    . exact⟨_,H.o,λv z=>by cases z⟩
    . exact⟨_,H.z,λv z=>by cases z⟩
 keep:=λi h h' st k=>by
  obtain⟨⟨ov,H,l⟩,hI⟩:=st;have kk:∀d o,n<=d->d<n+as.length+3->h.get? d=some o->h'.get? d=some o:=λd o h1 h2=>k d (FN.mem.mpr ⟨h1,h2⟩) o
  exact⟨⟨ov,⟨kk _ _ (by lia) (by lia) H.z,kk _ _ (by lia) (by lia) H.o,λj l h=>aei (H.a j l h) λo=>kk _ o (by lia) (by have:=aej h;lia),λ_ _ _ e=>e⟩,l⟩,kk _ _ (by lia) (by lia) hI⟩
 item:=by
  intro X hP hw hK hc i pins s σ H E I hf st hg;subst hP hw hK;obtain⟨⟨ov,Z,lo⟩,hI⟩:=st;have lt:n+as.length+2<s.heap.objs.size:=az Z.z
  obtain⟨vs,lv,hg⟩:=hg;obtain⟨us,r,ha⟩:=at_of I lv hg;have ty:s.TypeIs (.ref (n+as.length+2)) "zip" := ⟨_,Z.z,rfl⟩;unfold pyNext;refine aa (wpAny_attempt (j7 (name:=Str.ofString "__next__") ty F.slot_zip_next (jw F.slot_zip_next ty F.entry_zip_next ?_ (F.args_zip_next_1 _))));refine avy Tw h3 Z lo hI hl ha λh1 Z1 t1=>aj ⟨_,rfl,?_⟩
  refine wpAny_letOwnedTupleGo_zip Z1.z λh2 z2 s2=>?_
  have s2:Heap.SameBut (n+as.length+2) h1 h2:=s2;have Z2:=Z1.sz s2.extBut (f1:=.none) z2;have t2:h2.get? s.heap.objs.size=some (tpN us):=s2.extBut _ _ (v5 lt) t1;refine⟨.ref s.heap.objs.size,upd H s.heap.objs.size (.tup vs),I.Zk (t':=s.toks) hf (λc o hc zz=>Z2.low c o (by rw[FN.mem] at hc;lia) zz) (bh _) ⟨by rw[lv];exact gn h3 (show 3<=sizeLine by decide),us,r,⟨_,t2,rfl,_,rfl,rfl⟩⟩,rfl,
   ⟨_,vs,rfl,I.Am.fresh (bh _),rfl,lv,λj a ys ja hy=>?_⟩,⟨⟨us,⟨Z2.z,Z2.o,Z2.a,λ_ _ _ e=>e⟩,ha.1⟩,Z2.low _ _ (by lia) hI⟩,λc hc=>?_⟩
  . obtain⟨xs,x,q1,q2,q3⟩:=hg j a ja
    rw[I.Td hy q1,q2,q3]
  . rw[FN.mem] at hc
    rw[j9 (by lia)];exact(hf c (FN.mem.mpr hc)).1
 done:=by
  intro X hP hw hK hc i pins s σ H E I hf st hg;subst hP hw hK;obtain⟨⟨ov,Z,lo⟩,hI⟩:=st;obtain⟨a,xs,a0,q1,x1⟩:=hg;obtain⟨i1,r1,p1,_⟩:=I.tuple q1;have hl1:=r1.length;have ty:s.TypeIs (.ref (n+as.length+2)) "zip" := ⟨_,Z.z,rfl⟩;unfold pyNext;refine aa (wpAny_attempt (j7 (name:=Str.ofString "__next__") ty F.slot_zip_next (jw F.slot_zip_next ty F.entry_zip_next ?_ (F.args_zip_next_1 _))));refine a2m (I.ok.hd hc) a0 Z hI (hl a (ao a0)) (xs:=i1.toArray) p1 (by simp;lia) λh' e k z_=>?_
  obtain⟨o,o1,o2⟩:=z_;exact aa (o8 (T := "StopIteration") (b:=true) ⟨o,o1,o2⟩ isSubtype_stop (aj ⟨rfl,I.ain (t':=s.toks) hf λc o hc zz=>k c o (by rw[FN.mem] at hc;lia) zz⟩))
 self:=λ_ _ _ _ _ st h=>by obtain⟨⟨ov,Z,_⟩,_⟩:=st;exact wpAny_pyIter_zip Z.z h
theorem Zm:∀{as:X9}{us:Zl},Vals (as.map V.ref) us->us=as.map Value.ref
 |[],_,h=>by cases h;rfl|_::_,_,h=>by cases h with|cons r t=>cases r;rw[Zm t];rfl
def a9q(hg:Gl X "zip")(hm:X.mg "zip" = none)(ha:PA X (a::es) ta)(hs:starEach (a::es) X.env=(false,eval a X.env)::starEach es X.env)(Ik:(backTo pos (starEach es X.env)).any (·.1)=false) :
 PI X (.Tuple ts k0 pt) (.Call (.Name "zip" p) (a::es) [] pos) (fun σ H R=>ta σ H λvs H1=>∃as:List Addr,vs=as.map V.ref/\(as.length=2\/as.length=3)/\(∀q∈as,∃xs,Jh X.K H1 q xs)/\R (IzN X.K as) H1):=by
 intro pins s σ H R I h;refine PyProof.Rows.Call_ (Dm I hg hm (show bootBuiltins "zip" = some (.type "zip") by decide+kernel) (jh (Bu (ha pos pins s σ H _ I h) λus s1 z=>?_) hs Ik));obtain⟨vs,H1,I1,r1,as,rfl,l,ht,hR⟩:=z;cases Zm r1;obtain⟨c1,c2,c3⟩:=ak4 (as.map Value.ref) (by simpa using l);have h3:as.length<=3:=by lia
 have tp:∀q∈as,∃xs,s1.heap.IsTuple q xs:=λq hq=>by obtain⟨xs,hx⟩:=ht q hq;obtain⟨i1,_,p1,_⟩:=I1.tuple hx;exact⟨_,p1⟩
 refine av0 h3 rfl c1 c2 c3 tp λh' Z hI kk=>wpAny_pyIter_zip Z.z ?_
 refine⟨s1.heap.objs.size+as.length+2,_,_,_,H1,rfl,I1.kept (t':=s1.toks) kk,av1 h3 (λz=>by subst z;simp at l) λq hq=>by obtain⟨xs,o,e,_⟩:=tp q hq;exact az e,⟨⟨_,Z,by simp[Ft]⟩,hI⟩,λc hc=>?_,hR⟩;have hle:=(FN.mem.mp hc).1;exact I1.aom hle (I1.Am.fresh hle)
end L2
namespace Sm
open PySem L2
open MW (Ex Cr OEx Ow By o7 Lv Tg Res dh MO Jp Cp Op2 Blt Bm Kx Src)
def ak5{i:Nat}(h:(MW.Dy ds 0)[i]?=some d):∃z,ds[i]?=some z/\d=.tup [.int (i:Nat),z]:=by
 unfold MW.Dy at h;rw[gr,ym] at h;cases e:ds[i]? with
 |none=>rw[e] at h;simp at h|some z=>rw[e] at h;simp at h;exact⟨z,rfl,h.symm⟩
def aiq{X:Cx}(r:m6 X.K ι H ds vs)(hk:∀ι1 H1,LeX ι H ι1 H1->SqX bb X.K H1 q vs):apm nm X.K ι H (.con (MW.Dy ds 0)) (Ien bb X.K q):=fun ι1 H1 M1 le S1=>by
 refine⟨λi d hi hd=>?_,λ_=>⟨vs,hk ι1 H1 le,?_⟩⟩
 . obtain⟨z,e1,rfl⟩:=ak5 (show(MW.Dy ds 0)[i]?=some d from hd)
   obtain⟨v,g1,g2⟩:=(r.Mj le).get e1;refine⟨⟨vs,v,hk ι1 H1 le,g1⟩,λu H2 ⟨p,x,e2,e3,e4,e5⟩=>?_⟩;have ex:x=v:=by have:=e5 vs (hk ι1 H1 le);rw[g1] at this;cases this;rfl
   subst ex e2 e4;obtain⟨S2,Ak,r2⟩:=O2 (X:=X) S1 e3 (.cons (.int _) (.cons g2 .nil));exact⟨Ak,S2,r2⟩
 . show vs.length<=(MW.Dy ds 0).length
   rw[<- r.length];simp[MW.Dy]
def a9r(hg:Gl X "enumerate")(hm:X.mg "enumerate" = none)(ha:PE X a (tE nm W X.K a'))(Xu:noStar a=true):PI X (.Tuple ts k0 pt) (.Call (.Name "enumerate" pr) [a] [] pos) (tI nm W X.K (.enm a')):=by
 intro pins s0 σ H R' I hh;obtain⟨ι,ρ,M,s,M',S,R,e,q⟩:=hh;rw[MW.ahg] at e;obtain⟨x,M1,e1,e⟩:=gh e;refine PI.weak (a9p (ts:=ts) (k0:=k0) (pt:=pt) (p:=pr) (pos:=pos) hg hm (Oh ha Um (o5 Xu _ _)) (o5 Xu _ _)) (wi':=fun σ0 H0 R0=>σ0=σ/\H0=H/\R0=R') (fun σ0 H0 R0 ⟨z1,z2,z3⟩=>?_) pins s0 σ H R' I ⟨rfl,rfl,rfl⟩;subst z1 z2 z3;refine Wn (es':=.cons a' .nil) (ds:=[x]) (M1:=M1) S R (by rw[MW.J0,e1];simp) fun ι1 H1 vs le S1 R1 r=>?_
 cases r with
 |cons r1 r2 =>
  cases r2;cases r1 with
  |@tup p ds us h1 rr =>
   cases e;exact⟨true,p,rfl,⟨us,Jh.of h1⟩,q ι1 H1 _ le S1 (aiq rr fun ι2 H2 Ak=>Jh.of (Ak.tup _ _ h1))⟩
  |@vl p ds us h1 n1 rr =>
   cases e;exact⟨false,p,rfl,⟨us,Ia.of h1⟩,q ι1 H1 _ le S1 (aiq rr fun ι2 H2 Ak=>Ia.of (Ak.lst _ _ n1.1 h1))⟩
  |_=>cases e
set_option tactic.hygienic true in
def a2n:Cz X (binaryOp .Add) (rOp nm X.K (MW.Gg .amt)) :=
 Cz.of ao9 λv u H Q ι M x y d M' S rv ru e q=>by
  have e:MW.aft x y M=.ok d M':=e;unfold MW.aft at e;split at e<;>try cases e
  rename_i xs ys h1 h2
  by_cases hl:xs.length+ys.length<=100000
  case neg=>rw[bw hl] at e;cases e
  rw[cz hl] at e;obtain⟨p,vs,rfl,g1,r1⟩:=t7 S rv h1;obtain⟨p2,vs2,rfl,g2,r2⟩:=t7 S ru h2;refine⟨p,p2,vs,vs2,rfl,rfl,g1,g2,by rw[<- r1.length,<- r2.length];exact gn hl Wl,λp3 h3=>?_⟩;have e:Res.ok (MW.D.ref M.length) (M++[.lst (xs++ys)])=.ok d M':=e;cases e;obtain⟨z1,z2,z3⟩:=aa9 S h3 (r1.append r2);exact q _ _ _ z2 z1 z3
def av2{nm:Nm}{W:Jp}{X:Cx}{o:Expr}{o':Ex}{pos apos:Pos}{k f:Nat}{fa C:Addr}{fd:FuncData}{ps:Yf}{m:Str}{mi ci:Nat}{cl:MW.Cl}{pl:Sem Bool}(ho:PE X o (tE nm W X.K o'))(c0:Cls X.K C)(hme:Meth X.K C m fa)(F:Fo X.prog X.w X.K X.mg X.base CX0 k fa fd ps (spF nm W X.K 1 f))(hr:Aj k X.A)(hb:Binds X.K fd ps [])
 (a1x:∀c' cl',W.cls[c']?=some cl'->∀g,cl'.meths.lookup mi=some g->nm.cls c'=some C/\g=f) (hno:∀i,nm.fld i≠m)
 (ht:eval (.Call (.Attribute o m apos) [] [] pos) X.env=(do
  let ov <- eval o X.env
  standAt apos.atName
  let (f,first) <- holding [ov] (getMethod ov m pl)
  callWith pos f first (backTo pos (starEach [] X.env)) (backToKw pos (keywordEach [] X.env)))) :
 PE X (.Call (.Attribute o m apos) [] [] pos) (tE nm W X.K (.meth o' mi .nil)) :=
 PE.of (aov (E:=E0) ho c0 hme F hr hb .nil ah8 ht) fun σ H Q ι ρ M d M' S R e q=>by
  rw[MW.Q3] at e;obtain⟨x,M1,e1,e⟩:=gh e;rw[MW.Q4] at e;refine one S R e1 fun ι1 H1 v le S1 R1 r=>?_
  obtain⟨j,hx⟩:∃j,x=.ref j:=by cases x<;>first|exact⟨_,rfl⟩|cases e
  subst hx;obtain⟨p,rfl,hp⟩:∃p,v=.ref p/\ι1.l[j]?=some p:=by cases r with|ref z=>exact⟨_,rfl,z⟩
  have e:(match M1[j]? with
   | some (.ins c _)=>(match(W.cls[c]?).bind λC=>C.meths.lookup mi with
    | some f=>W.call f [.ref j] M1|none=>.bad)
   | _=>.bad)=Res.ok d M':=e
  cases hM:M1[j]? with
  |none=>rw[hM] at e;cases e
  |some ob =>
   rw[hM] at e;cases ob with
   |ins ci fs =>
    have e:(match(W.cls[ci]?).bind λC=>C.meths.lookup mi with|some f=>W.call f [.ref j] M1|none=>.bad)=Res.ok d M':=e;cases hL:(W.cls[ci]?).bind λC=>C.meths.lookup mi with
    |none=>rw[hL] at e;cases e
    |some g =>
     rw[hL] at e;have e:W.call g [.ref j] M1=.ok d M':=e;obtain⟨cl',h1,h2⟩:=dq.mp hL;obtain⟨h3,rfl⟩:=a1x ci cl' h1 g h2;obtain⟨C',dx,l,g1,g2,g3⟩:=S1.obj j _ p hM hp;rw[h3] at g1;cases g1;exact⟨p,dx,l,rfl,g2,Ws hno g3,ι1,M1,[.ref j],d,M',S1,.cons r .nil,rfl,e,fun ι' H' v Xo S' r'=>q ι' H' v (le.trans Xo) S' r'⟩
   |_=>cases e
def av3:PS X st (tS nm W X.K (.raise ci es')):=λpins s σ H D I hh=>by obtain⟨ι,ρ,M,fl,ρ',M',S,R,e,q⟩:=hh;rw[MW.am5] at e;obtain⟨x,M1,e1,e⟩:=gh e;cases e
def ayi(h:PE X a t):PE X (.BoolOp op [a] pos) t:=λpins s σ H Q I q=>PyProof.Rows.BoolOp_one (h pins s σ H Q I q)
theorem ael{K:Fg}{ι:Io}{H:Hp}:∀{ds:List Dv}{vs:List V}{dss:List (List Dv)},MW.Mv ds=some dss->m6 K ι H ds vs->∃as:List Addr,vs=as.map V.ref/\as.length=dss.length/\∀(j:Nat) l,dss[j]?=some l->∃a us,as[j]?=some a/\H a=some (.tup us)/\m6 K ι H l us
 |[],_,_,e,r=>by cases e;cases r;exact⟨[],rfl,rfl,λj l h=>by simp at h⟩
 |d::ds,_,_,e,r=>by
  cases r with
  |cons r1 r2 =>
   cases d with
   |tup l =>
    obtain⟨dss,e1,rfl⟩:=bx.mp (show(MW.Mv ds).map (l::·)=_ from e);obtain⟨as,rfl,h1,h2⟩:=ael e1 r2;cases r1 with
    |@tup p _ us hp ru =>
     refine⟨p::as,rfl,by simp[h1],λj l h=>?_⟩;cases j with
     |zero=>cases h;exact⟨p,us,rfl,hp,ru⟩|succ j=>exact h2 j l h
   |_=>cases e
theorem aem{K:Fg}{ι:Io}{H:Hp}:∀{dss:List (List Dv)}{as:X9},as.length=dss.length->(∀(j:Nat) l,dss[j]?=some l->i<l.length/\∃a us,as[j]?=some a/\Jh K H a us/\m6 K ι H l us)->∃vs:List V,vs.length=as.length/\m6 K ι H (dss.map λl=>l.getD i .non) vs/\∀(j:Nat) a,as[j]?=some a->∃xs x,Jh K H a xs/\xs[i]?=some x/\vs[j]?=some x
 |[],as,l,_=>by cases as with
  |nil=>exact⟨[],rfl,.nil,λj a h=>by simp at h⟩
  |cons _ _=>cases l
 |l::dss,as,hl,h=>by cases as with
  |nil=>cases hl
  |cons a as =>
   obtain⟨vs,g1,g2,g3⟩:=aem (i:=i) (dss:=dss) (as:=as) (by simpa using hl) (λj l e=>h (j+1) l e);obtain⟨lt,_,us,e1,q,r⟩:=h 0 l rfl;cases e1;obtain⟨v,x1,x2⟩:=r.get (cj lt);refine⟨v::vs,by simp[g1],.cons (by show Rep K ι H (l.getD i .non) v;rw[dg,cj lt];exact x2) g2,λj b hb=>?_⟩;cases j with
   |zero=>cases hb;exact⟨us,v,q,x1,rfl⟩|succ j=>exact g3 j b hb
def av4{X:Cx}{n:Nat}{l:List Dv}{r:List (List Dv)}(hn:∀(j:Nat) k,(l::r)[j]?=some k->k.length=n)(hl:as.length=(l::r).length)(h:∀(j:Nat) k,(l::r)[j]?=some k->∃a us,as[j]?=some a/\H a=some (.tup us)/\m6 X.K ι H k us) :
 apm nm X.K ι H (.con (MW.Mw (l::r) n)) (IzN X.K as):=fun ι1 H1 M1 le S1=>by
 refine⟨λi d hi hd=>?_,λ_=>?_⟩
 . have hd:(MW.Mw (l::r) n)[i]?=some d:=hd
   have hi:i<n:=by simpa[MW.Mw] using(ak.mp hd).1
   have ed:d=.tup ((l::r).map λl=>l.getD i .non):=by rw[MW.Mw,gr,lq hi] at hd;cases hd;rfl
   subst ed;obtain⟨vs,g1,g2,g3⟩:=aem (i:=i) (K:=X.K) (ι:=ι1) (H:=H1) hl λj k e=>by obtain⟨a,us,a1,a2,a3⟩:=h j k e;exact⟨by rw[hn j k e];exact hi,a,us,a1,Jh.of (le.tup _ _ a2),a3.Mj le⟩
   refine⟨⟨vs,g1,g3⟩,λu' H2 z=>?_⟩;obtain⟨p,vs',e5,e6,e7,e8,e9⟩:=z;have:vs'=vs:=by
    apply vd;intro j;rcases yh j as.length with q|q
    . obtain⟨xs,x,x1,x2,x3⟩:=g3 j as[j] (by simp[q])
      rw[e9 j as[j] xs (by simp[q]) x1,x2,x3]
    . rw[kj (by rw[e8];exact q),kj (by rw[g1];exact q)]
   subst this e5 e7;obtain⟨S2,Ak,r2⟩:=O2 (X:=X) S1 e6 g2;exact⟨Ak,S2,r2⟩
 . obtain⟨a,us,a1,a2,a3⟩:=h 0 l rfl
   refine⟨a,us,a1,Jh.of (le.tup _ _ a2),?_⟩;show us.length<=(MW.Mw (l::r) n).length
   have:=a3.length;have:=hn 0 l rfl;simp[MW.Mw]
   lia
def a9s(hg:Gl X "zip")(hm:X.mg "zip" = none)(ha:PA X (a::es) (Wj nm W X.K es'))(hs:starEach (a::es) X.env=(false,eval a X.env)::starEach es X.env)(Ik:(backTo pos (starEach es X.env)).any (·.1)=false)(h2:Cr.len es'=2\/Cr.len es'=3) :
 PI X (.Tuple ts k0 pt) (.Call (.Name "zip" pr) (a::es) [] pos) (tI nm W X.K (.zip es')):=by
 intro pins s0 σ H R' I hh;obtain⟨ι,ρ,M,s,M',S,R,e,q⟩:=hh;rw[MW.atk] at e;obtain⟨ds,N1,e1,e⟩:=gh e;have hd:=Gh e1;cases et:MW.Mv ds with
 |none=>rw[et] at e;cases e
 |some dss=>cases dss with
  |nil=>rw[et] at e;cases e
  |cons l r =>
   rw[et] at e
   by_cases hc:(r.all λx=>x.length==l.length)=true
   . have e:(if(r.all λx=>x.length==l.length)=true then Res.ok (Src.con (MW.Mw (l::r) l.length)) N1 else .bad)=.ok s M':=e
     rw[cz hc] at e;cases e;refine PI.weak (a9q (ts:=ts) (k0:=k0) (pt:=pt) (p:=pr) (pos:=pos) hg hm ha hs Ik) (wi':=fun σ0 H0 R0=>σ0=σ/\H0=H/\R0=R') (fun σ0 H0 R0 z=>?_) pins s0 σ H R' I ⟨rfl,rfl,rfl⟩;obtain⟨rfl,rfl,rfl⟩:=z;refine Wn S R e1 fun ι1 H1 vs le S1 R1 rr=>?_
     obtain⟨as,rfl,g1,g2⟩:=ael et rr;have gl:=rr.length;rw[du] at gl;refine⟨as,rfl,by rw[<- gl,hd];exact h2,λa ha=>?_,q ι1 H1 _ le S1 (av4 (λj k hk=>?_) g1 g2)⟩
     . obtain⟨j,hj⟩:=List.getElem?_of_mem ha
       have lt:=(ak.mp hj).1;rw[g1] at lt;obtain⟨a',us,x1,x2,_⟩:=g2 j _ (cj lt);rw[hj] at x1;cases x1;exact⟨us,Jh.of x2⟩
     . cases j with
       |zero=>cases hk;rfl|succ j=>simpa using iz.mp hc k (ao hk)
   . have e:(if(r.all λx=>x.length==l.length)=true then Res.ok (Src.con (MW.Mw (l::r) l.length)) N1 else .bad)=.ok s M':=e
     rw[bw hc] at e;cases e
theorem aen:∀{xs:List Dv}{b:Bool},MW.allB xs=some b->∃bs:List Bool,xs=bs.map MW.D.bl/\b=bs.all id
 |[],b,e=>by cases e;exact⟨[],rfl,rfl⟩
 |.bl k::r,b,e=>by
  obtain⟨c,e1,rfl⟩:=bx.mp (show(MW.allB r).map (k&&·)=some b from e);obtain⟨bs,rfl,rfl⟩:=aen e1;exact⟨k::bs,rfl,by simp⟩
theorem Zn{ι:Io}{H:Hp}{K:Fg}:∀{bs:List Bool}{vs:List V}{is:Zl},m6 K ι H (bs.map MW.D.bl) vs->Vals vs is->is=bs.map Value.bool
 |[],_,_,r,h=>by cases r;cases h;rfl
 |k::bs,_,_,r,h=>by
  cases r with
  |cons r1 r2 =>
   cases h with
   |cons h1 h2 =>
    cases r1;cases h1;rw[Zn r2 h2];rfl
def a9t(hc:X.calm=true):Dc X (.builtin "all") (rB nm X.K .all):=λpins s σ H vs us Q I Yb hh=>by
 obtain⟨ι,M,ds,d,M',S,r,e,q⟩:=hh;obtain⟨x,rfl,e⟩:∃x,ds=[x]/\Res.vg (((MW.fc M x).bind MW.allB).map MW.D.bl) M=.ok d M':=by
  cases ds with
  |nil=>cases e
  |cons x l=>cases l with
   |nil=>exact⟨x,rfl,e⟩|cons _ _=>cases e
 obtain⟨e1,rfl⟩:=yr e;obtain⟨b,e2,rfl⟩:=bx.mp e1;obtain⟨xs,e3,e4⟩:=dq.mp e2;obtain⟨bs,rfl,rfl⟩:=aen e4;obtain⟨v,rfl,rv⟩:=Jl r rfl;obtain⟨u,rfl,ru⟩:=Tn Yb;obtain⟨p,ws,rfl,hp,rl⟩:=t7 S rv e3;cases ru;obtain⟨is,rvl,pl,_⟩:=I.list (Ia.of hp);have his:=Zn rl rvl;have Ir:p<s.heap.objs.size:=by obtain⟨_,e,_⟩:=pl.isList;exact az e
 refine call_all_walk (wpAny_pyIter_list pl.isList ?_);refine⟨_,_,_,_,_,_,λi=>bs.getD i true,rfl,Walks.list (A:=X.A.in1) (I.ok.hd hc) s.heap.objs.size p (dz Ir) is.toArray,⟨⟨_,bu _ rfl,rfl,rfl⟩,pl.isList.push _⟩,λi v s Q E hP hQ=>?_,λh' tk hk=>?_⟩
 . have hv:is[i]?=some v:=by simpa using hP
   rw[his,gr] at hv;obtain⟨k,hk,rfl⟩:=bx.mp hv;refine km ?_;have hQ:Q (bs.getD i true) s:=hQ;rw[dg,hk] at hQ;exact hQ
 . have ha:(List.range is.toArray.size).all (λi=>bs.getD i true)=bs.all id:=by
    rw[his];simp only[ig,du];rw[Bd,iz,iz];constructor
    . intro h k hk
      obtain⟨i,hi,rfl⟩:=qp hk;have:=h i (je.mpr hi);simpa[dg,hi] using this
    . intro h i hi
      have Xm:=je.mp hi;have:=h bs[i] (pq Xm);simpa[dg,Xm] using this
   rw[ha];exact⟨.bl _,H,I.kept (t':=tk) (old_kept hk),rfl,q ι H _ (Le.refl _ _) S (.bl _)⟩
end Sm
namespace Sm
open PySem L2
open MW (Ex Cr OEx Ow By o7 Lv Tg Res dh MO Jp Cp Op2 Blt Bm Kx Src)
set_option tactic.hygienic true in
def av5(e:MW.Jz .get x ds M=.ok d M'):∃n k d0,x=.ref n/\ds=[k,d0]/\M'=M/\∃ie q,M[n]?=some (.dK ie)/\MW.Sq k=some q/\d=(MW.vq ie q).getD d0:=by
 cases x with
 |ref n =>
  match ds,e with
  |[k,d0],e =>
   have e:(match M[n]? with
    |some (.dK ie)=>Res.vg ((MW.Sq k).map λq=>(MW.vq ie q).getD d0) M
    | _=>.bad)=.ok d M':=e
   refine⟨n,k,d0,rfl,rfl,?_⟩;split at e
   . rename_i ie hM
     obtain⟨e1,e2⟩:=yr e;obtain⟨q,h1,h2⟩:=bx.mp e1;exact⟨e2,ie,q,hM,h1,h2.symm⟩
   . cases e
  |[],e=>cases e|[_],e=>cases e|_::_::_::_,e=>cases e
 |_=>cases e
set_option tactic.hygienic true in
def ty_dict{X:Cx}(S:m8 nm X.K ι H M)(r:Rep X.K ι H x v)(h:MW.Qh .get x M=true):tyV X.K "dict" v H:=by
 cases r with
 |@ref n p hp =>
  have h:(match M[n]? with|some (.dK _)=>true|_=>false)=true:=h;split at h
  . rename_i hM
    obtain⟨l,h1,_⟩:=S.obj n _ p hM hp;exact .inr (.inr (.inl ⟨rfl,.inl ⟨_,h1⟩⟩))
  . cases h
 |_=>cases h
def a9u(hu:X.A.units+1<cLine):MtR X "dict.get" (rM nm X.K .get):=λpins s σ H v vs u us Q I ru Yb hh=>by
 obtain⟨ι,M,x,ds,d,M',S,r,rs,e,_,q⟩:=hh;obtain⟨n,k,d0,rfl,rfl,rfl,ie,k0,hM,hk,rfl⟩:=av5 e;cases rs with
 |cons rk rt =>
  cases rt with
  |cons rd rt =>
   cases rt;cases Yb with
   |cons hk1 ht1 =>
    cases ht1 with
    |cons hd1 ht1 =>
     cases ht1;cases r with
     |ref ha =>
      cases ru;obtain⟨l,h1,h2⟩:=S.obj n _ _ hM ha;have hy:=Ti rk hk;subst hy;refine a08 hu I (Od.k h1) hk1 hd1 λw' s' I' rw'=>⟨_,H,I',rw',q ι H _ (Le.refl _ _) S ?_⟩
      cases hl:MW.vq ie k0 with
      |none=>rw[(h2.look (k:=k0)).2 hl];exact rd|some d=>obtain⟨z,h3,h4⟩:=(h2.look (k:=k0)).1 d hl;rw[h3];exact h4
set_option tactic.hygienic true in
def a2o(hr:Aj 8 X.A)(hg:Gl X n)(hm:X.mg n=none)(hv:bootBuiltins n=some (.type "list"))(hn:n≠"__name__")(Ui:(n==("__debug__" : Str))=false)(hg2:Gl X tn)(hm2:X.mg tn=none)(hv2:bootBuiltins tn=some (.type "range"))(Xv:tn≠"__name__")(agp:(tn==("__debug__" : Str))=false)(ha:PA X [a] (Wj nm W X.K (.cons a' .nil)))(he:starEach [.Call (.Name tn p') [a] [] q2] X.env=(false,eval (.Call (.Name tn p') [a] [] q2) X.env)::starEach [] X.env)(Ik:(backTo q1 (starEach [] X.env)).any (·.1)=false)(he2:starEach [a] X.env=(false,eval a X.env)::starEach [] X.env)(agn:(backTo q2 (starEach [] X.env)).any (·.1)=false) :
 PE X (.Call (.Name n p) [.Call (.Name tn p') [a] [] q2] [] q1) (tE nm W X.K (.afr a')):=by
 intro pins s σ H Q I hh;obtain⟨ι,ρ,M,d,M',S,R,e,q⟩:=hh;rw[MW.am4] at e;obtain⟨x,M1,e1,e⟩:=gh e;split at e<;>try cases e
 rename_i i;split at e<;>cases e;rename_i hi;refine jc (Dm I hg hm hv ?_ hn Ui);refine jh (Q:=EP X pins σ Q) ?_ he Ik;rw[he];show wpAny _ _ (spliced ((false,eval (.Call (.Name tn p') [a] [] q2) X.env)::backTo q1 (starEach [] X.env))) _ _ s;refine um ?_;refine jc (Dm I hg2 hm2 hv2 ?_ Xv agp);refine jh (Bu (ha q2 pins s σ H (λvs H1=>∃ι1,vs=[.int i]/\Le ι H ι1 H1/\m8 nm X.K ι1 H1 M1) I ⟨ι,ρ,M,[.int i],M1,S,R,by simp[e1,Res.bind],fun ι1 H1 vs le S1 r=>?_⟩) λus s1 ⟨vs,H1,I1,r1,ι1,ev,Vg,S1⟩=>?_) he2 agn
 . obtain⟨v,ev,rv⟩:=Jl r rfl
   cases rv;exact⟨ι1,ev,le,S1⟩
 subst ev;obtain⟨u,rfl,ru⟩:=Tn r1;obtain⟨t,rfl⟩:=ru;refine call_range_1 ?_;show wpAny _ _ (spliced []) _ _ _;refine w6 ?_;have keep:∀b o,s1.heap.get? b=some o->(s1.heap.push { cls:=.type "range",data:=.fields #[.int 0 s1.toks,.int i t,.int 1 (s1.toks+1)] }).get? b=some o:=λb o e=>au _ e
 refine call_list_range (n:=i.toNat) hr.hd (bu _ rfl) (small_one (by lia) (by lia) (by lia) (by omega)) (by rw[rangeSize_one];split<;>lia) (by lia) λh' tk acc c' hk hS Es=>?_
 have hsz:(s1.heap.push { cls:=.type "range",data:=.fields #[.int 0 s1.toks,.int i t,.int 1 (s1.toks+1)] }).objs.size=s1.heap.objs.size+1:=iu ..;have hS:h'.get? (s1.heap.push { cls:=.type "range",data:=.fields #[.int 0 s1.toks,.int i t,.int 1 (s1.toks+1)] }).objs.size=some { cls:=.type "list",dict:=none,data:=.seq acc c',slots:=#[] }:=hS;show EP X pins σ Q (.ref (s1.heap.push { cls:=.type "range",data:=.fields #[.int 0 s1.toks,.int i t,.int 1 (s1.toks+1)] }).objs.size) _;rw[hsz] at hS ⊢;have hz:((List.range i.toNat).map λ(k:Nat)=>V.int (k:Int)).length<=sizeLine:=by simp[qy];omega
 have hle:s1.heap.objs.size<=s1.heap.objs.size+1:=vz _
 have hf:H1 (s1.heap.objs.size+1)=none:=I1.Am.fresh hle;have I3:Inv X pins σ (upd H1 (s1.heap.objs.size+1) (.lst ((List.range i.toNat).map λ(k:Nat)=>V.int (k:Int)))) { s1 with heap:=h',toks:=tk } :=
  I1.laid (a:=s1.heap.objs.size+1) (t':=tk) (λb o e=>hk b o (keep b o e)) hle (show Bj X.prog X.w _ _ _ (.lst _) from⟨hz,acc.toList,c',Wy Es,by simpa using hS⟩)
 obtain⟨S2,Ak,r2⟩:=aa9 (X:=X) S1 hf (Wz i.toNat);exact⟨.ref (s1.heap.objs.size+1),_,I3,rfl,q _ _ _ (Vg.trans Ak) S2 r2⟩
end Sm
namespace Sm
open PySem L2
open MW (Ex Cr OEx Ow By o7 Lv Tg Res dh MO Jp Cp Op2 Blt Bm Kx Src)
theorem W2(x:Int):∀l,(MW.insI x l).Perm (x::l)
 |[]=>yz _
 |y::l=>by
  unfold MW.insI;split
  . exact yz _
  . exact((W2 x l).cons y).trans (List.Perm.swap x y l)
theorem O4:∀l,(MW.sortI l).Perm l
 |[]=>yz _|x::l=>(W2 x _).trans ((O4 l).cons x)
theorem aqa(x:Int):∀{l:Xs},l.Pairwise (·<=·)->(MW.insI x l).Pairwise (·<=·)
 |[],_=>List.pairwise_singleton _ _
 |y::l,h=>by
  obtain⟨h1,h2⟩:=zy.mp h;unfold MW.insI;split
  . refine zy.mpr ⟨λz hz=>?_,h⟩
    rcases bz.mp hz with rfl|hz
    . lia
    . have:=h1 z hz;lia
  . refine zy.mpr ⟨λz hz=>?_,aqa x h2⟩
    rcases bz.mp ((W2 x l).mem_iff.mp hz) with rfl|hz
    . lia
    . exact h1 z hz
theorem air:∀l,(MW.sortI l).Pairwise (·<=·)
 |[]=>List.Pairwise.nil|x::l=>aqa x (air l)
set_option tactic.hygienic true in
theorem abj(k:Int):∀l,k∈MW.Ao l↔k∈l
 |[]=>Iff.rfl
 |x::l=>by
  unfold MW.Ao;split
  . rename_i h
    rw[abj k l,bz];exact⟨.inr,λz=>z.elim (λe=>e▸h) id⟩
  . rw[bz,bz,abj k l]
set_option tactic.hygienic true in
theorem agq:∀l,(MW.Ao l).Nodup
 |[]=>yc
 |x::l=>by
  unfold MW.Ao;split
  . exact agq l
  . rename_i h
    exact mq.mpr ⟨λz=>h ((abj x l).mp z),agq l⟩
theorem aqb:∀l,(MW.Ao l).length<=l.length
 |[]=>bh _
 |x::l=>by
  have:=aqb l;unfold MW.Ao;split<;>simp<;>omega
theorem ayj:∀{a b:Xs},a.Pairwise (·<=·)->b.Pairwise (·<=·)->a.Nodup->b.Nodup->(∀k,k∈a↔k∈b)->a=b
 |[],[],_,_,_,_,_=>rfl|[],y::b,_,_,_,_,h=>nomatch(h y).mpr di|x::a,[],_,_,_,_,h=>nomatch(h x).mp di
 |x::a,y::b,ha,hb,na,nb,h=>by
  obtain⟨a1,a2⟩:=zy.mp ha;obtain⟨b1,b2⟩:=zy.mp hb;obtain⟨c1,c2⟩:=mq.mp na;obtain⟨d1,d2⟩:=mq.mp nb;have e:x=y:=by
   rcases bz.mp ((h x).mp di) with e|m
   . exact e
   . rcases bz.mp ((h y).mpr di) with e|m'
     . exact e.symm
     . have:=b1 x m;have:=a1 y m';lia
  subst e
  congr 1
  refine ayj a2 b2 c2 d2 λk=>⟨λm=>?_,λm=>?_⟩
  . rcases bz.mp ((h k).mp (bc _ m)) with rfl|m'
    . exact absurd m c1
    . exact m'
  . rcases bz.mp ((h k).mpr (bc _ m)) with rfl|m'
    . exact absurd m d1
    . exact m'
def av6(h1:ns.Pairwise (·<=·))(h2:ns.Nodup)(h3:∀k,k∈l↔k∈ns):ns=MW.sortI (MW.Ao l) :=
 ayj h1 (air _) h2 ((O4 _).nodup_iff.mpr (agq l)) λk=>by rw[(O4 _).mem_iff,abj,h3]
theorem aeo{ι:Io}{H:Hp}{K:Fg}:∀{ds:List Dv}{vs:List V}{is:Zl}{ns:Xs},m6 K ι H ds vs->Vals vs is->MW.Yo ds=some ns->PyProof.Rows.IntsAre is ns
 |_,_,_,_,.nil,.nil,h=>by cases h;exact .nil
 |_,_,_,_,.cons r t,.cons rv tv,h=>by
  cases r<;>simp only[MW.Yo] at h<;>try cases h
  obtain⟨ns',e1,e2⟩:=bx.mp h;subst e2;obtain⟨tk,rfl⟩:=rv;exact .cons _ _ (aeo t tv e1)
theorem aep:∀{is:Zl}{ns:Xs},PyProof.Rows.IntsAre is ns->Vals (ns.map V.int) is
 |_,_,.nil=>.nil|_,_,.cons n t h=>.cons ⟨t,rfl⟩ (aep h)
theorem Zo{ι:Io}{H:Hp}{K:Fg}:∀ns:List Int,m6 K ι H (ns.map MW.D.int) (ns.map V.int)
 |[]=>.nil|n::ns=>.cons (.int n) (Zo ns)
set_option tactic.hygienic true in
def aeq(e:MW.v7 .Fw ds M=.ok d M'):∃x xs ns,ds=[x]/\MW.fc M x=some xs/\MW.Yo xs=some ns/\ns.length<31/\d=.vl ((MW.sortI (MW.Ao ns)).map MW.D.int)/\M'=M:=by
 match ds,e with
 |[x],e =>
  have e:Res.vg (((MW.fc M x).bind MW.Yo).bind λis=>if is.length<31 then some (MW.D.vl ((MW.sortI (MW.Ao is)).map MW.D.int)) else none) M=.ok d M':=e;obtain⟨e1,e2⟩:=yr e;obtain⟨ns,e3,e4⟩:=dq.mp e1;obtain⟨xs,e5,e6⟩:=dq.mp e3;split at e4
  . rename_i hl
    exact⟨x,xs,ns,rfl,e5,e6,hl,(jn e4).symm,e2⟩
  . cases e4
 |[],e=>cases e|_::_::_,e=>cases e
def ak7(hr:Aj 8 X.A)(hg:Gl X n)(hm:X.mg n=none)(hv:bootBuiltins n=some (.builtin "sorted"))(hn:n≠"__name__")(Ui:(n==("__debug__" : Str))=false)(hg2:Gl X tn)(hm2:X.mg tn=none)(hv2:bootBuiltins tn=some (.type "set"))(Xv:tn≠"__name__")(agp:(tn==("__debug__" : Str))=false)(ha:PA X [a] (Wj nm W X.K (.cons a' .nil)))(he:starEach [.Call (.Name tn p') [a] [] q2] X.env=(false,eval (.Call (.Name tn p') [a] [] q2) X.env)::starEach [] X.env)(Ik:(backTo q1 (starEach [] X.env)).any (·.1)=false)(he2:starEach [a] X.env=(false,eval a X.env)::starEach [] X.env)(agn:(backTo q2 (starEach [] X.env)).any (·.1)=false) :
 PE X (.Call (.Name n p) [.Call (.Name tn p') [a] [] q2] [] q1) (tE nm W X.K (.blt .Fw (.cons a' .nil))):=by
 intro pins s σ H Q I hh;obtain⟨ι,ρ,M,d,M',S,R,e,q⟩:=hh;rw[MW.aab] at e;obtain⟨ds,M1,e1,e⟩:=gh e;obtain⟨x,xs,ns,rfl,e2,e3,hl,rfl,rfl⟩:=aeq e;refine jc (Dm I hg hm hv ?_ hn Ui);refine yt (Q:=EP X pins σ Q) ?_ he Ik;rw[he];show wpAny _ _ (spliced ((false,eval (.Call (.Name tn p') [a] [] q2) X.env)::backTo q1 (starEach [] X.env))) _ _ s;refine um ?_;refine jc (Dm I hg2 hm2 hv2 ?_ Xv agp);refine jh (Bu (ha q2 pins s σ H (λvs H1=>∃ι1 v,vs=[v]/\Rep X.K ι1 H1 x v/\Le ι H ι1 H1/\m8 nm X.K ι1 H1 M') I ⟨ι,ρ,M,[x],M',S,R,e1,fun ι1 H1 vs le S1 r=>?_⟩) λus s1 ⟨vs,H1,I1,r1,ι1,v,ev,rx,Vg,S1⟩=>?_) he2 agn
 . obtain⟨v,ev,rv⟩:=Jl r rfl
   exact⟨ι1,v,ev,rv,le,S1⟩
 subst ev;obtain⟨u,rfl,ru⟩:=Tn r1;obtain⟨p,ws,rfl,hp,rl⟩:=t7 S1 rx e2;cases ru;obtain⟨is,rvl,pl,_⟩:=I1.list (Ia.of hp);refine Yh.ajv hr.hd pl.isList (by simpa using aeo rl rvl e3) hl λh' tk n' keep hS Ov=>?_
 show wpAny _ _ (spliced []) _ _ _;refine w6 ?_;refine Yh.acf (s:={ s1 with heap:=h',toks:=tk }) hr.hd hS (c_ Ov hl) λh2 tk2 p2 out ms aik hp2 hI2 so nd mem z_=>?_
 obtain⟨c,g⟩:=z_;obtain rfl:=av6 so nd mem;obtain⟨o9,_,_,_,g9,_⟩:=hS.get;have hz1:s1.heap.objs.size<=p2:=gn (zp (az g9)) hp2
 have hf:H1 p2=none:=I1.Am.fresh hz1;have hzl:((MW.sortI (MW.Ao ns)).map V.int).length<=sizeLine:=by rw[du,(O4 _).length_eq,qy];have:=aqb ns;exact e_ (c_ this (b_ hl (by decide)))
 have I3:Inv X pins σ (upd H1 p2 (.lst ((MW.sortI (MW.Ao ns)).map V.int))) { s1 with heap:=h2,toks:=tk2 } :=
  I1.laid (a:=p2) (t':=tk2) (λb o e=>aik b o (keep b o e)) hz1 (show Bj X.prog X.w _ _ _ (.lst _) from⟨hzl,out.toList,c,aep hI2,by simpa using g⟩)
 obtain⟨S2,Ak,r2⟩:=aa8 (X:=X) S1 hf (Zo _);exact⟨.ref p2,_,I3,rfl,q _ _ _ (Vg.trans Ak) S2 r2⟩
open MW (Ex Cr OEx Ow By o7 Lv Tg Res dh MO Jp Cp Op2 Blt Bm Kx)
section
variable{nm:Nm}{X:Cx}
set_option tactic.hygienic true in
def aer(rx:Rep K ι H x v)(ry:Rep K ι H y u)(rv:RelV v v')(ru:RelV u u')(e:MW.amx x y=some k):plainIs v' u'=true/\(v'==u')=k:=by
 cases ry<;>try(cases e;done)
 . cases ru
   cases rx<;>first|(cases e;done)|(cases rv;cases e;exact⟨rfl,rfl⟩)
 . cases ru
   cases rx<;>try(cases e;done)
   rename_i b c;cases rv;cases e;cases b<;>cases c<;>exact⟨rfl,rfl⟩
def bfl:Cz X (compareOp .Is) (Vh nm X.K .is):=λpins s σ H v u v' u' Q I rv ru hh=>by obtain⟨ι,M,x,y,b,S,rx,ry,e,q⟩:=hh;have e:MW.amx x y=some b:=e;obtain⟨p,ev⟩:=aer rx ry rv ru e;exact wpAny_is_plain p (yf I q ev.symm)
def av7:Cz X (compareOp .IsNot) (Vh nm X.K .Lw):=λpins s σ H v u v' u' Q I rv ru hh=>by obtain⟨ι,M,x,y,b,S,rx,ry,e,q⟩:=hh;have e:(MW.amx x y).map not=some b:=e;obtain⟨c,e1,rfl⟩:=bx.mp e;obtain⟨p,ev⟩:=aer rx ry rv ru e1;exact wpAny_isNot_plain p (yf I q (by rw[ev]))
end
end Sm
namespace Ck
open PySem L2 Sm
open MW (Ex Cr OEx Ow By o7 Lv Tg Res dh MO Jp Cp Op2 Blt Bm Kx Src)
structure Tab where
 fns:List (Option (Str×Nat))
 cls:List (Option (Str×Nat))
 mts:List (Str×Nat)
 Qq:List Str
 av8:List (Str×Int)
noncomputable def Ol:List Str:=["len", "tuple", "list", "dict", "max", "min", "isinstance", "range", "enumerate", "set", "zip", "all", "bool", "int", "sum", "sorted"]
structure aqc(T:Tab)(nm:Nm)(W:Jp)(k:Nat)(P:Program)(w:World)(K:Fg)(mg:Zs)(base:Heap):Prop where
 fn:∀f x n,T.fns[f]?=some (some (x,n))->∃fa fd ps,Fo P w K mg base CX0 k fa fd ps (spF nm W K n f)/\mg x=some (.ref fa)/\PySem.W.keepIn K (.ref fa)=true/\Binds K fd ps []
 cl:∀c x n,T.cls[c]?=some (some (x,n))->∃C fa fd ps cl,Mk K C fa/\Fo P w K mg base CX0 k fa fd ps (spF nm W K (n+1) cl.init)/\mg x=some (.ref C)/\Binds K fd ps []/\W.cls[c]?=some cl/\nm.cls c=some C
 mt:∀m x n,T.mts[m]?=some (x,n)->∃C fa fd ps f,Cls K C/\Meth K C x fa/\Fo P w K mg base CX0 k fa fd ps (spF nm W K (n+1) f)/\Binds K fd ps [] /\
  (∀c' cl',W.cls[c']?=some cl'->∀g,cl'.meths.lookup m=some g->nm.cls c'=some C/\g=f)/\∀i,nm.fld i≠x
 fl:∀f x,T.Qq[f]?=some x->x=nm.fld f/\∀c C,nm.cls c=some C->Cls K C/\Gy K C x
 cs:∀x i,(x,i)∈T.av8->∃t,mg x=some (.int i t)
 bt:∀x∈Ol,mg x=none
structure Ctx where
 N:List Str
 sc:List (Str×NameKind)
 fn:Bool
 own:List Str
structure Em(T:Tab)(nm:Nm)(W:Jp)(k:Nat)(c:Ctx)(X:Cx):Prop where
 N:X.N=c.N
 nd:c.N.Nodup
 sc:X.env.scope.names=c.sc
 kd:X.env.scope.kind=.function
 calm:X.calm=true
 room:Aj (k+16) X.A
 fnl:c.fn=true->(∀n,X.fn n=true)/\PassesOwn (model X.prog X.w) X.A X.env X.xe
 tab:aqc T nm W k X.prog X.w X.K X.mg X.base
 ow:∀n,c.own.contains n=true->X.fn n=true
noncomputable def W3(n:Str):Bool:=!(n==("__debug__" : Str))&&(!(n==("__classdict__" : Str))&&!(n==("__name__" : Str)))
noncomputable def ak8(c:Ctx)(n:Str):Bool:=match c.sc.lookup n with|some .local=>true|some .cell=>true|some .free=>true|_=>false
noncomputable def a2p(c:Ctx)(n:Str):Bool:=match c.sc.lookup n with|some .local=>true|some .cell=>c.fn||c.own.contains n|_=>false
noncomputable def Xp(c:Ctx)(n:Str):Bool:=W3 n&&(match c.sc.lookup n with|some .globalImplicit=>true|_=>false)
noncomputable def ait(c:Ctx)(i:Nat)(n:Str):Bool:=match c.N[i]? with|some m=>m==n|none=>false
noncomputable def Ab:List Expr->Bool
 |[]=>true|e::r=>noStar e&&Ab r
noncomputable def W4:Expr->Bool
 |.Name ..=>true|.Attribute ..=>true|.Subscript ..=>true|.Call (.Attribute ..) ..=>true|_=>false
def uo(h:W3 n=true):(n==("__debug__" : Str))=false/\(n==("__classdict__" : Str))=false/\n≠"__name__" := by simp only[W3,aq,Bool.not_eq_true'] at h;exact⟨h.1,h.2.1,λz=>by have:=h.2.2;rw[z] at this;simp at this⟩
set_option tactic.hygienic true in
def a2q(h:Em T nm W k c X)(hv:ak8 c n=true):Vis X.env.scope n:=by unfold Vis;rw[h.sc];unfold ak8 at hv;split at hv<;>rename_i e<;>first|exact .inl e|exact .inr (.inl e)|exact .inr (.inr e)|cases hv
set_option tactic.hygienic true in
def a2r(h:Em T nm W k c X)(hv:a2p c n=true):L2.Loc X.env.scope n/\(X.fn n=true\/X.env.scope.names.lookup n=some .local):=by
 unfold L2.Loc;rw[h.sc];unfold a2p at hv;split at hv
 . rename_i e;exact⟨.inl e,.inr e⟩
 . rename_i e;rcases(Bool.or_eq_true _ _).mp hv with z|z
   . exact⟨.inr e,.inl ((h.fnl z).1 n)⟩
   . exact⟨.inr e,.inl (h.ow n z)⟩
 . cases hv
set_option tactic.hygienic true in
def G5(h:Em T nm W k c X)(hv:Xp c n=true):Gl X n/\W3 n=true:=by
 unfold Xp at hv;rw[aq] at hv;refine⟨?_,hv.1⟩;have hv:=hv.2;unfold Gl Env.kindOf;rw[h.sc];split at hv
 . rename_i e;exact e
 . cases hv
set_option tactic.hygienic true in
def slot_of(h:Em T nm W k c X)(hv:ait c i n=true):X.N[i]?=some n:=by
 rw[h.N];unfold ait at hv;split at hv
 . rename_i m e;rw[e,eq_of_beq hv]
 . cases hv
theorem W5{env:Env}:∀{es:Ya},Ab es=true->starEach es env=es.map λe=>(false,eval e env)
 |[],_=>rfl
 |e::r,h=>by
  simp only[Ab,aq] at h;rw[o5 h.1,W5 h.2];rfl
def xg(h:Ab es=true):(backTo pos (starEach es env)).any (·.1)=false:=by rw[W5 h];simp[backTo]
def W6(h:Ab es=true):(backTo pos (starEach es env)).all (λx=>!x.1)=true:=by rw[W5 h];simp[backTo]
set_option tactic.hygienic true in
def Ji(h:W4 o=true):attributeBase o n env (eval o env)=eval o env:=by
 cases o<;>try first|rfl|(cases h;done)
 rename_i f as kws p;cases f<;>first|rfl|(cases h)
def aiu(h:W4 o=true)(hs:Ab es=true)(hl:es.length<29)(hp:(apos.endLine==pos.line)=true) :
 eval (.Call (.Attribute o m apos) es [] pos) env=(do
  let ov <- eval o env
  standAt apos.atName
  let (f,first) <- holding [ov] (getMethod ov m (do return (<- importBound o env).getD true))
  callWith pos f first (backTo pos (starEach es env)) (backToKw pos (keywordEach [] env))):=by
 have hf:methodCallForm (es.length+0) (backTo pos (starEach es env)) (backToKw pos (keywordEach [] env))=true:=by unfold methodCallForm;rw[W6 hs];simp[keywordEach,backToKw];exact b_ hl (by decide)
 show(do
  let ov <- attributeBase o m env (eval o env)
  standAt apos.atName
  methodCall o m apos pos env ov (es.length+0) (backTo pos (starEach es env)) (backToKw pos (keywordEach [] env)))=_
 rw[Ji h];unfold methodCall;rw[hf];have hq:methodCallPos true o env apos pos=pure pos:=by unfold methodCallPos;rw[hp];rfl
 rw[hq];simp only[calleeOf,jx,pure_bind]
noncomputable def Df{α:Type}(o:Option α)(f:α->Bool):Bool:=match o with|some x=>f x|none=>false
def jt(h:Df o f=true):∃x,o=some x/\f x=true:=by
 cases o with
 |none=>cases h|some x=>exact⟨x,rfl,h⟩
noncomputable def Qs{α:Type}(l:List α):Option α:=match l with|[x]=>some x|_=>none
def Bt(h:Qs l=some x):l=[x]:=by
 cases l with
 |nil=>cases h
 |cons y r=>cases r with
  |nil=>cases h;rfl|cons _ _=>cases h
def Xq{α:Type}{P:α->Prop}{o:Option {x // P x}}{q:α}(h:o.map Subtype.val=some q):P q:=by
 cases o with
 |none=>cases h|some x=>cases h;exact x.2
noncomputable def Us(a:Expr):Option Str:=Option.map Subtype.val (α:={q:Str // ∃p,a=.Name q p}) (match a with|.Name n p=>some ⟨n,p,rfl⟩|_=>none)
noncomputable def aqd(a:Expr):Option Const:=Option.map Subtype.val (α:={q:Const // ∃k p,a=.Constant q k p}) (match a with|.Constant n k p=>some ⟨n,k,p,rfl⟩|_=>none)
noncomputable def a9v(a:Expr):Option (Expr×Operator×Expr):=Option.map Subtype.val (α:={q:Expr×Operator×Expr // ∃p,a=.BinOp q.1 q.2.1 q.2.2 p}) (match a with|.BinOp l o r p=>some ⟨(l,o,r),p,rfl⟩|_=>none)
noncomputable def dUn(a:Expr):Option (UnaryOp×Expr):=Option.map Subtype.val (α:={q:UnaryOp×Expr // ∃p,a=.UnaryOp q.1 q.2 p}) (match a with|.UnaryOp o l p=>some ⟨(o,l),p,rfl⟩|_=>none)
noncomputable def av9(a:Expr):Option (Expr×List CmpOp×List Expr):=Option.map Subtype.val (α:={q:Expr×List CmpOp×List Expr // ∃p,a=.Compare q.1 q.2.1 q.2.2 p}) (match a with|.Compare l o r p=>some ⟨(l,o,r),p,rfl⟩|_=>none)
noncomputable def ayk(a:Expr):Option (BoolOp×List Expr×Pos):=Option.map Subtype.val (α:={q:BoolOp×List Expr×Pos // a=.BoolOp q.1 q.2.1 q.2.2}) (match a with|.BoolOp o l p=>some ⟨(o,l,p),rfl⟩|_=>none)
noncomputable def a2s(a:Expr):Option (Expr×Expr×Expr):=Option.map Subtype.val (α:={q:Expr×Expr×Expr // ∃p,a=.IfExp q.1 q.2.1 q.2.2 p}) (match a with|.IfExp t l r p=>some ⟨(t,l,r),p,rfl⟩|_=>none)
noncomputable def ak9(a:Expr):Option (List Expr):=Option.map Subtype.val (α:={q:List Expr // ∃k p,a=.Tuple q k p}) (match a with|.Tuple l k p=>some ⟨l,k,p,rfl⟩|_=>none)
noncomputable def a2t(a:Expr):Option (List Expr):=Option.map Subtype.val (α:={q:List Expr // ∃p,a=.List q p}) (match a with|.List l p=>some ⟨l,p,rfl⟩|_=>none)
noncomputable def a2u(a:Expr):Option (List (Option Expr)×List Expr):=Option.map Subtype.val (α:={q:List (Option Expr)×List Expr // ∃p,a=.Dict q.1 q.2 p}) (match a with|.Dict k v p=>some ⟨(k,v),p,rfl⟩|_=>none)
noncomputable def aqe(a:Expr):Option (Expr×Expr):=Option.map Subtype.val (α:={q:Expr×Expr // ∃p,a=.Subscript q.1 q.2 p}) (match a with|.Subscript l r p=>some ⟨(l,r),p,rfl⟩|_=>none)
noncomputable def dSl(a:Expr):Option (Option Expr×Option Expr×Option Expr):=Option.map Subtype.val (α:={q:Option Expr×Option Expr×Option Expr // ∃p,a=.Slice q.1 q.2.1 q.2.2 p}) (match a with|.Slice l r s p=>some ⟨(l,r,s),p,rfl⟩|_=>none)
noncomputable def aqf(a:Expr):Option (Expr×List Expr×List Keyword×Pos):=Option.map Subtype.val (α:={q:Expr×List Expr×List Keyword×Pos // a=.Call q.1 q.2.1 q.2.2.1 q.2.2.2}) (match a with|.Call f l k p=>some ⟨(f,l,k,p),rfl⟩|_=>none)
noncomputable def aqg(a:Expr):Option (Expr×Str×Pos):=Option.map Subtype.val (α:={q:Expr×Str×Pos // a=.Attribute q.1 q.2.1 q.2.2}) (match a with|.Attribute l n p=>some ⟨(l,n,p),rfl⟩|_=>none)
noncomputable def aes(a:Expr):Option (Expr×List Comprehension×Scope):=Option.map Subtype.val (α:={q:Expr×List Comprehension×Scope // ∃p,a=.ListComp q.1 q.2.1 q.2.2 p}) (match a with|.ListComp e g s p=>some ⟨(e,g,s),p,rfl⟩|_=>none)
def Ko(h:Us a=some n):∃p,a=.Name n p:=(Xq h :)
def Vk(h:aqd a=some n):∃k p,a=.Constant n k p:=(Xq h :)
def awa(h:a9v a=some (l,o,r)):∃p,a=.BinOp l o r p:=(Xq h :)
def aqh(h:dUn a=some (o,l)):∃p,a=.UnaryOp o l p:=(Xq h :)
def abk(h:av9 a=some (l,o,r)):∃p,a=.Compare l o r p:=(Xq h :)
def aqi(h:ayk a=some (o,r,p)):a=.BoolOp o r p:=(Xq h :)
def awb(h:a2s a=some (t,l,r)):∃p,a=.IfExp t l r p:=(Xq h :)
def Rp(h:ak9 a=some l):∃k p,a=.Tuple l k p:=(Xq h :)
def aiv(h:a2t a=some l):∃p,a=.List l p:=(Xq h :)
def aiw(h:a2u a=some (k,l)):∃p,a=.Dict k l p:=(Xq h :)
def abl(h:aqe a=some (l,r)):∃p,a=.Subscript l r p:=(Xq h :)
def a2v(h:dSl a=some (l,r,s)):∃p,a=.Slice l r s p:=(Xq h :)
def aet(h:aqf a=some (f,l,k,p)):a=.Call f l k p:=(Xq h :)
def abm(h:aqg a=some (l,n,p)):a=.Attribute l n p:=(Xq h :)
def W7(h:aes a=some (e,g,s)):∃p,a=.ListComp e g s p:=(Xq h :)
noncomputable def dCN(a:Expr):Option (Str×List Expr):=(aqf a).bind λq=>if q.2.2.1.isEmpty then(Us q.1).map λn=>(n,q.2.1) else none
set_option tactic.hygienic true in
def Ig(h:dCN a=some (n,l)):∃p p',a=.Call (.Name n p) l [] p':=by
 obtain⟨⟨f,l',k,p⟩,h1,h2⟩:=dq.mp h;split at h2
 . rename_i hk
   obtain⟨n',h3,h4⟩:=bx.mp h2;obtain⟨p',e⟩:=Ko h3;have e:f=_:=e;have hk:k=[]:=ud.mp hk;cases h4;exact⟨p',p,by rw[aet h1,e,hk]⟩
 . cases h2
noncomputable def dCA(a:Expr):Option (Expr×Str×Pos×List Expr×Pos):=(aqf a).bind λq=>if q.2.2.1.isEmpty then(aqg q.1).map λn=>(n.1,n.2.1,n.2.2,q.2.1,q.2.2.2) else none
set_option tactic.hygienic true in
def aqj(h:dCA a=some (o,n,ap,l,p)):a=.Call (.Attribute o n ap) l [] p:=by
 obtain⟨⟨f,l',k,p'⟩,h1,h2⟩:=dq.mp h;split at h2
 . rename_i hk
   obtain⟨⟨o',n',ap'⟩,h3,h4⟩:=bx.mp h2;have e:f=_:=abm h3;have hk:k=[]:=ud.mp hk;cases h4;rw[aet h1,e,hk]
 . cases h2
noncomputable def a9w(l:Ya):List Str:=l.filterMap Us
noncomputable def Ek(e:Expr):List Str:=match ak9 e with|some l=>a9w l|none=>a9w [e]
noncomputable def hid(i:Nat):Str:=⟨#[0,i]⟩
noncomputable def alb(ts:Yf)(p:Str×Nat):Str:=if ts.contains p.1=true then hid p.2 else p.1
noncomputable def U8(N ts:Yf):List Str:=N.zipIdx.map (alb ts)++ts
noncomputable def awc(c:Ctx)(names:X0):List (Str×NameKind):=names.map λy=>if(y.2==NameKind.free&&c.sc.lookup y.1==some .cell) then(y.1,NameKind.cell) else(y.1,y.2)
noncomputable def aeu(c:Ctx)(sc:Scope)(ts:Yf):Ctx:=⟨U8 c.N ts,awc c sc.names,false,(sc.names.filter λy=>y.2==NameKind.cell).map (·.1)⟩
noncomputable def a2w(c:Ctx)(sc:Scope)(ts:Yf):Bool :=
 decide (sc.kind=.function)&&(sc.names.all (λy=>sc.names.lookup y.1==some y.2) &&
 (sc.names.all (λy=>!(y.2==NameKind.free)||(c.sc.lookup y.1==some .cell||c.sc.lookup y.1==some .free))&&(decide ((U8 c.N ts).Nodup) &&
 c.N.zipIdx.all (λp=>!(ak8 (aeu c sc ts) (alb ts p))||(alb ts p==p.1&&sc.names.lookup (alb ts p)==some .free)))))
noncomputable def a9x:Op2->Operator
 |.add=>.Add|.amt=>.Add|.sub=>.Sub|.mul=>.Mult|.fdiv=>.FloorDiv|.mod=>.Mod|.pow=>.Pow
noncomputable def awd:Cp->Option CmpOp
 |.eq=>some .Eq|.ne=>some .NotEq|.lt=>some .Lt|.le=>some .LtE|.gt=>some .Gt|.ge=>some .GtE|.inn=>some .In|.Qx=>some .NotIn
 |.is=>some .Is|.Lw=>some .IsNot
noncomputable def a2x:Blt->Option Str
 |.len=>some "len"|.tuple=>some "tuple"|.dict=>some "dict"|.max=>some "max"|.min=>some "min"
 |.all=>some "all"|_=>none
noncomputable def bmN:Bm->Option Str
 |.append=>some "append"|.index=>some "index"|.get=>some "get"
noncomputable def a2y(T:Tab)(c:Ctx)(d:MW.D)(a:Expr):Bool :=
 match d with
 |.int i=>Df (aqd a) (λk=>decide (k=.int i))||Df (Us a) λn=>Xp c n&&T.av8.contains (n,i)
 |.bl i=>Df (aqd a) λk=>decide (k=.bool i)
 |.non=>Df (aqd a) λk=>decide (k=.none)
 |.str s=>Df (aqd a) λk=>decide (k=.str s)
 |_=>false
noncomputable def tg1(c:Ctx)(lo i:Nat)(e:Expr):Bool:=Df (Us e) λn=>ait c i n&&(a2p c n&&decide (lo<=i))
noncomputable def alc(c:Ctx)(lo:Nat):List Nat->List Expr->Bool
 |[],[]=>true|i::is,e::ts=>tg1 c lo i e&&alc c lo is ts|_,_=>false
noncomputable def tgB(c:Ctx)(lo:Nat)(t:Tg)(e:Expr):Bool :=
 match t with
 |.name i=>tg1 c lo i e|.names is=>Df (ak9 e) λts=>alc c lo is ts
noncomputable def Rq(e:Expr):Bool:=(a2s e).isNone
noncomputable def fnB(l:List (Option (Str×Nat)))(f:Nat)(n:Str)(k:Nat):Bool:=decide (l[f]?=some (some (n,k)))
noncomputable def mtB(l:List (Str×Nat))(f:Nat)(n:Str)(k:Nat):Bool:=decide (l[f]?=some (n,k))
noncomputable def flB(l:Yf)(f:Nat)(n:Str):Bool:=decide (l[f]?=some n)
noncomputable def aix(c:Ctx)(k:Nat)(t:Tg)(g:Comprehension)(sc:Scope):Bool :=
 a2w c sc (Ek g.target)&&((k==(Ek g.target).length)&&(tgB (aeu c sc (Ek g.target)) c.N.length t g.target&&(G3 g.iter&&decide (g.is_async=0))))
noncomputable def aqk(o:BoolOp)(a:Expr)(x y:Expr->Bool):Bool :=
 Df (ayk a) λq=>decide (q.1=o)&&(match q.2.1 with
  |l::r::rest=>(Rq l&&x l)&&(match rest with|[]=>Rq r&&y r|_::_=>y (.BoolOp o (r::rest) q.2.2))
  | _=>false)
noncomputable def a9y(c:Ctx)(ty:Str)(a:Expr)(f:Expr->Bool):Bool:=Df (dCN a) λq=>match q.2 with
 |[l,t]=>Df (Us t) λtn=>(decide (q.1 = "isinstance")&&decide (tn=ty))&&((Xp c q.1&&Xp c tn)&&(noStar l&&f l))
 |_=>false
def awe(h:a9y c ty a f=true):∃l p p1 p2,a=.Call (.Name "isinstance" p) [l,.Name ty p1] [] p2/\Xp c "isinstance" = true/\Xp c ty=true/\noStar l=true/\f l=true:=by
 obtain⟨⟨n,ls⟩,h1,h0⟩:=jt h;clear h;obtain⟨p,p',rfl⟩:=Ig h1
 match ls,h1,h0 with
 |[l,t],h1,h =>
  replace h:=jt (f:=λtn=>(decide (n = "isinstance")&&decide (tn=ty))&&((Xp c n&&Xp c tn)&&(noStar l&&f l))) h;obtain⟨tn,h2,h⟩:=h;obtain⟨p2,rfl⟩:=Ko h2;simp only[aq,dm] at h;obtain⟨⟨rfl,rfl⟩,⟨h3,h4⟩,h5,h6⟩:=h;exact⟨l,p,p2,p',rfl,h3,h4,h5,h6⟩
 |[],_,h=>cases h|[_],_,h=>cases h|_::_::_::_,_,h=>cases h
noncomputable def aql(c:Ctx)(ty tn:Str)(a:Expr)(f:Expr->Bool):Bool:=Df (dCN a) λq=>Df (Qs q.2) λr=>Df (dCN r) λu=>Df (Qs u.2) λl=>((decide (q.1=ty)&&decide (u.1=tn))&&(Xp c q.1&&Xp c u.1))&&(noStar l&&f l)
def abn(h:aql c ty tn a f=true):∃l p p1 p2 p3,a=.Call (.Name ty p) [.Call (.Name tn p1) [l] [] p2] [] p3/\Xp c ty=true/\Xp c tn=true/\noStar l=true/\f l=true:=by replace h:=jt h;obtain⟨⟨n,ls⟩,h1,h⟩:=h;obtain⟨p,p',rfl⟩:=Ig h1;replace h:=jt h;obtain⟨r,h2,h⟩:=h;cases Bt h2;replace h:=jt h;obtain⟨⟨m,ms⟩,h3,h⟩:=h;obtain⟨p2,q2,rfl⟩:=Ig h3;replace h:=jt h;obtain⟨l,h4,h⟩:=h;cases Bt h4;simp only[aq,dm] at h;obtain⟨⟨⟨rfl,rfl⟩,h5,h6⟩,h7,h8⟩:=h;exact⟨l,p,p2,q2,p',rfl,h5,h6,h7,h8⟩
mutual
noncomputable def Aw(T:Tab):Ex->Ctx->Expr->Bool
 |.var i,c,a=>Df (Us a) λn=>ait c i n&&(ak8 c n&&W3 n)
 |.cst d,c,a=>a2y T c d a|.bin op x y,c,a=>Df (a9v a) λq=>decide (q.2.1=a9x op)&&(Aw T x c q.1&&Aw T y c q.2.2)
 |.neg x,c,a=>Df (dUn a) λq=>decide (q.1=.USub)&&Aw T x c q.2
 |.cmp op x y,c,a=>Df (av9 a) λq=>Df (Qs q.2.1) λo=>Df (Qs q.2.2) λr=>decide (awd op=some o)&&(G3 r&&(Aw T x c q.1&&Aw T y c r))
 |.chain o1 o2 x y z,c,a=>Df (av9 a) λq=>match q.2.1,q.2.2 with
  |[p1,p2],[r,s]=>(decide (awd o1=some p1)&&decide (awd o2=some p2))&&(G3 s&&(Aw T x c q.1&&(Aw T y c r&&Aw T z c s)))|_,_=>false
 |.and x y,c,a=>aqk .And a (Aw T x c) (Aw T y c)|.or x y,c,a=>aqk .Or a (Aw T x c) (Aw T y c)|.not x,c,a=>Df (dUn a) λq=>decide (q.1=.Not)&&(Rq q.2&&Aw T x c q.2)
 |.ite t x y,c,a=>Df (a2s a) λq=>Rq q.1&&(Aw T t c q.1&&(Aw T x c q.2.1&&Aw T y c q.2.2))
 |.tup es,c,a=>Df (ak9 a) λl=>decide (Cr.len es<=1000)&&Ih T es c l
 |.lst es,c,a=>Df (a2t a) λl=>decide (Cr.len es<=1000)&&Ih T es c l
 |.Hb es,c,a=>Df (a2t a) λl=>decide (Cr.len es<=1000)&&Ih T es c l
 |.ajx,_,a=>Df (a2u a) λq=>q.1.isEmpty&&q.2.isEmpty
 |.Z8,_,a=>Df (a2u a) λq=>q.1.isEmpty&&q.2.isEmpty
 |.ix x y,c,a=>Df (aqe a) λq=>abb q.2&&(Aw T x c q.1&&Aw T y c q.2)
 |.cut x lo hi,c,a=>Df (aqe a) λq=>Df (dSl q.2) λs=>s.2.2.isNone&&(Aw T x c q.1&&(a2z T lo c s.1&&a2z T hi c s.2.1))
 |.call f es,c,a=>Df (dCN a) λq=>(fnB T.fns f q.1 (Cr.len es)&&(Xp c q.1&&!q.2.isEmpty))&&Ih T es c q.2
 |.make f es,c,a=>Df (dCN a) λq=>(fnB T.cls f q.1 (Cr.len es)&&(Xp c q.1&&!q.2.isEmpty))&&Ih T es c q.2
 |.meth o m es,c,a=>Df (dCA a) λq=>((mtB T.mts m q.2.1 (Cr.len es)&&W4 q.1)&&(decide (q.2.2.2.1.length<29)&&(q.2.2.1.endLine==q.2.2.2.2.line)))&&(Aw T o c q.1&&Ih T es c q.2.2.2.1)
 |.fld o f,c,a=>Df (aqg a) λq=>(flB T.Qq f q.2.1&&W4 q.1)&&Aw T o c q.1
 |.blt .Fw (.cons x .nil),c,a=>aql c "sorted" "set" a (Aw T x c)|.blt .isTuple (.cons x .nil),c,a=>a9y c "tuple" a (Aw T x c)|.blt b es,c,a=>Df (dCN a) λq=>(decide (a2x b=some q.1)&&(Xp c q.1&&!q.2.isEmpty))&&Ih T es c q.2
 |.bm m o es,c,a=>Df (dCA a) λq=>((decide (bmN m=some q.2.1)&&W4 q.1)&&(decide (q.2.2.2.1.length<29)&&((q.2.2.1.endLine==q.2.2.2.2.line)&&!q.2.2.2.1.isEmpty)))&&(Aw T o c q.1&&Ih T es c q.2.2.2.1)
 |.comp v k t it e,c,a=>Df (aes a) λq=>Df (Qs q.2.1) λg=>(aix c k t g q.2.2&&g.ifs.isEmpty)&&(awf T it c g.target g.iter&&Aw T e (aeu c q.2.2 (Ek g.target)) q.1)
 |.Dh v k t it i e,c,a=>Df (aes a) λq=>Df (Qs q.2.1) λg=>Df (Qs g.ifs) λd=>(aix c k t g q.2.2&&Rq d)&&(awf T it c g.target g.iter&&(Aw T i (aeu c q.2.2 (Ek g.target)) d&&Aw T e (aeu c q.2.2 (Ek g.target)) q.1))
 |.Vv x y,c,a=>Df (av9 a) λq=>Df (Qs q.2.1) λo=>Df (Qs q.2.2) λr=>Df (dCN q.1) λu=>Df (dCN r) λv=>Df (Qs u.2) λl=>Df (Qs v.2) λm =>
  ((decide (o=.NotEq)&&decide (u.1 = "set"))&&(decide (v.1 = "set")&&Xp c u.1))&&((noStar l&&noStar m)&&(Aw T x c l&&Aw T y c m))
 |.Xw x,c,a=>aql c "tuple" "range" a (Aw T x c)|.afr x,c,a=>aql c "list" "range" a (Aw T x c)
noncomputable def Ih(T:Tab):Cr->Ctx->List Expr->Bool
 |.nil,_,a=>a.isEmpty|.cons e es,c,a=>match a with|l::ls=>noStar l&&(Aw T e c l&&Ih T es c ls)|_=>false
noncomputable def a2z(T:Tab):OEx->Ctx->Option Expr->Bool
 |.none,_,a=>a.isNone|.some e,c,a=>Df a (Aw T e c)
noncomputable def awf(T:Tab):Ow->Ctx->Expr->Expr->Bool
 |.val e,c,_,a=>Aw T e c a|.Im e,c,_,a=>Df (dCN a) λq=>Df (Qs q.2) λl=>(decide (q.1 = "range")&&Xp c q.1)&&(noStar l&&Aw T e c l)
 |.enm e,c,tg,a=>Df (dCN a) λq=>Df (Qs q.2) λl=>((ak9 tg).isSome&&(decide (q.1 = "enumerate")&&Xp c q.1))&&(noStar l&&Aw T e c l)
 |.zip es,c,tg,a=>Df (dCN a) λq=>((ak9 tg).isSome&&(decide (q.1 = "zip")&&(Xp c q.1&&!q.2.isEmpty)))&&(decide (Cr.len es=2\/Cr.len es=3)&&Ih T es c q.2)
end
def P0(h:Em T nm W k c X)(sc:Scope):(relabel sc X.env).names=awc c sc.names:=by
 unfold relabel awc;refine qu λy _=>?_
 obtain⟨n,kd⟩:=y;show(if(kd==NameKind.free&&X.env.scope.kind==.function&&X.env.kindOf n==some .cell)=true then _ else _)=_;have e:(kd==NameKind.free&&X.env.scope.kind==.function&&X.env.kindOf n==some .cell)=(kd==NameKind.free&&c.sc.lookup n==some .cell):=by unfold Env.kindOf;rw[h.kd,h.sc];simp
 rw[e]
def a3a(h:Em T nm W k c X)(hb:a2w c sc ts=true):Ep X (U8 c.N ts) sc/\∀C fp s H,Em T nm W k (aeu c sc ts) (Mr X (U8 c.N ts) sc C fp s H):=by
 simp only[a2w,aq,dm,iz] at hb;obtain⟨h1,h3,h4,h5,h6⟩:=hb;have uniq:∀x kd,(x,kd)∈sc.names->sc.names.lookup x=some kd:=λx kd m=>by have:=h3 (x,kd) m;simpa using this
 refine⟨⟨h1,λy m e=>by rw[uniq y.1 y.2 m,e],λy m e=>?_,uniq,?_,λi x hi hx hv=>?_⟩,λC fp s H=>⟨rfl,h5,P0 h sc,h1,h.calm,h.room,(λz=>by cases z),h.tab,λn m=>?_⟩⟩
 . have:=h4 y m
   rw[e] at this;unfold Env.kindOf;rw[h.sc];simpa using this
 . rw[h.N];simp[U8]
 . rw[h.N] at hi
   have hl:i<(c.N.zipIdx.map (alb ts)).length:=by simpa using hi
   unfold U8 at hx;rw[dj hl,gr,ym] at hx;obtain⟨n,hn⟩:∃n,c.N[i]?=some n:=⟨c.N[i],by simp[hi]⟩;rw[hn] at hx;have hx:alb ts (n,i)=x:=by simpa using hx
   have m:(n,i)∈c.N.zipIdx:=by rw[v9];exact⟨i,by rw[ym,hn];simp⟩
   have q:=h6 (n,i) m;rw[hx] at q;have v:ak8 (aeu c sc ts) x=true:=by unfold Vis at hv;rw[P0 h] at hv;unfold ak8;show(match(awc c sc.names).lookup x with|some .local=>true|some .cell=>true|some .free=>true|_=>false)=true;rcases hv with e|e|e<;>rw[e]
   rw[v] at q;simp only[q9,Bool.false_or,aq] at q;rw[h.N,hn];have e1:x=n:=eq_of_beq q.1;exact⟨by rw[e1],by have:=q.2;simpa using this⟩
 . obtain⟨y,hy,rfl⟩:=bf.mp (List.contains_iff_mem.mp m)
   obtain⟨h7,h8⟩:=w5.mp hy;show(sc.names.lookup y.1==some .cell)=true;rw[uniq y.1 y.2 h7,eq_of_beq h8];rfl
def a9z(h:o=a9x op):Cz X (binaryOp o) (rOp nm X.K (MW.Gg op)):=by
 subst h;cases op with
 |add=>exact a8r|amt=>exact a2n|sub=>exact a8n|mul=>exact a8q|fdiv=>exact a1h|mod=>exact a8o|pow=>exact a8p
def aqm(hr:Aj 8 X.A)(h:awd op=some o):Cz X (compareOp o) (Vh nm X.K op):=by
 have h6:Aj 6 X.A:=hr.mono (by decide);cases op with
 |eq=>cases h;exact bfd h6|ne=>cases h;exact bfe h6|lt=>cases h;exact be1|le=>cases h;exact be2|gt=>cases h;exact be3|ge=>cases h;exact be4|inn=>cases h;exact bff hr|Qx=>cases h;exact avf hr|is=>cases h;exact bfl|Lw=>cases h;exact av7
def agr(h:Em T nm W k c X)(hb:tg1 c lo i e=true):∃n p,e=.Name n p/\X.N[i]?=some n/\L2.Loc X.env.scope n/\(X.fn n=true\/X.env.scope.names.lookup n=some .local)/\lo<=i:=by obtain⟨n,h1,h2⟩:=jt hb;obtain⟨p,rfl⟩:=Ko h1;simp only[aq,dm] at h2;obtain⟨l1,l2⟩:=a2r h h2.2.1;exact⟨n,p,rfl,slot_of h h2.1,l1,l2,h2.2.2⟩
theorem aqn{T:Tab}{nm:Nm}{W:Jp}{k:Nat}{c:Ctx}{X:Cx}(h:Em T nm W k c X){lo:Nat}:∀{is:Y3}{ts:Ya},alc c lo is ts=true->Lg X ts is/\∀i∈is,lo<=i
 |[],[],_=>⟨.nil,by simp⟩|[],_::_,e=>by cases e|_::_,[],e=>by cases e
 |i::is,a::ts,e=>by
  unfold alc at e;rw[aq] at e;obtain⟨n,p,rfl,e1,e2,e3,e4⟩:=agr h e.1;obtain⟨g1,g2⟩:=aqn h e.2;refine⟨.cons e1 e2 e3 g1,λj hj=>?_⟩;rcases bz.mp hj with z|z
  . rw[z];exact e4
  . exact g2 j z
def aiy(h:Em T nm W k c X)(hb:tgB c lo t e=true):PG X e (tGt nm X.K t)/\∀i∈Bv t,lo<=i:=by
 have nd:X.N.Nodup:=by rw[h.N];exact h.nd
 cases t with
 |name i =>
  obtain⟨n,p,rfl,e1,e2,e3,e4⟩:=agr h hb;exact⟨a1m nd e1 e2 e3,λi hi=>by rw[qj.mp hi];exact e4⟩
 |names is =>
  obtain⟨ts,h1,h2⟩:=jt hb;obtain⟨k0,p,rfl⟩:=Rp h1;obtain⟨g1,g2⟩:=aqn h h2;exact⟨avb h.calm nd g1,g2⟩
structure Got(nm:Nm)(W:Jp)(X:Cx)(a:Expr)(e:Ex):Prop where
 v:PE X a (tE nm W X.K e)
 q:Rq a=true->PT X a (tQ nm W X.K e)
 w:∀op ls p,a=.BoolOp op ls p->PW X a (tQ nm W X.K e)
noncomputable def a90:Expr->Bool
 |.BoolOp ..=>false|.UnaryOp .Not _ _=>false|.IfExp ..=>false|.Compare ..=>false|_=>true
set_option tactic.hygienic true in
def yd(h:PE X a (tE nm W X.K e))(hv:a90 a=true):Got nm W X a e:=by
 refine⟨h,λhq=>a8s h λwhole=>?_,λop ls p z=>by subst z;cases hv⟩;cases a<;>first|rfl|(cases hv)|skip
 rename_i op x p;cases op<;>first|rfl|cases hv
def a3b(h:Em T nm W k c X)(hb:a2y T c d a=true):PE X a (tE nm W X.K (.cst d))/\a90 a=true:=by
 cases d with
 |int i =>
  simp only[a2y,Bool.or_eq_true] at hb;rcases hb with hb|hb
  . obtain⟨k,h1,h2⟩:=jt hb
    obtain⟨j,p,rfl⟩:=Vk h1;rw[j8 h2];exact⟨a8j,rfl⟩
  . obtain⟨n,h1,h2⟩:=jt hb
    obtain⟨p,rfl⟩:=Ko h1;rw[aq] at h2;obtain⟨g1,g2⟩:=G5 h h2.1;obtain⟨t,ht⟩:=h.tab.cs _ _ (List.contains_iff_mem.mp h2.2);exact⟨a1f g1 ht (uo g2).1,rfl⟩
 |bl i =>
  obtain⟨k,h1,h2⟩:=jt hb;obtain⟨j,p,rfl⟩:=Vk h1;rw[j8 h2];exact⟨bez,rfl⟩
 |non =>
  obtain⟨k,h1,h2⟩:=jt hb;obtain⟨j,p,rfl⟩:=Vk h1;rw[j8 h2];exact⟨a8k,rfl⟩
 |str s =>
  obtain⟨k,h1,h2⟩:=jt hb;obtain⟨j,p,rfl⟩:=Vk h1;rw[j8 h2];exact⟨a8l,rfl⟩
 |_=>cases hb
section
variable{T:Tab}{nm:Nm}{W:Jp}{k:Nat}
def Em.r8(h:Em T nm W k c X):Aj 8 X.A:=h.room.mono (by lia)
theorem Em.mg(h:Em T nm W k c X)(m:n∈Ol):X.mg n=none:=h.tab.bt n m
def ald(h:Ih T es c []=true):es=.nil:=by
 cases es with
 |nil=>rfl|cons e es=>simp[Ih] at h
theorem Ut{c:Ctx}{lo:Nat}:∀{is:Y3}{ts:Ya},alc c lo is ts=true->∀i∈is,lo<=i
 |[],_,_=>by simp|_::_,[],e=>by cases e
 |i::is,a::ts,e=>by
  unfold alc at e;rw[aq] at e;intro j hj;rcases bz.mp hj with z|z
  . obtain⟨n,h1,h2⟩:=jt e.1
    simp only[aq,dm] at h2;rw[z];exact h2.2.2
  . exact Ut e.2 j z
def ags(h:tgB c lo t e=true):∀i∈Bv t,lo<=i:=by
 cases t with
 |name j =>
  obtain⟨n,h1,h2⟩:=jt h;simp only[aq,dm] at h2;intro i hi;rw[qj.mp hi];exact h2.2.2
 |names is =>
  obtain⟨ts,h1,h2⟩:=jt h;exact Ut h2
def aqo:(U8 N ts).length-N.length=ts.length:=by simp[U8]
def Rr(hc:Em T nm W k c X)(h:aix c j t g sc=true) :
 G3 g.iter=true/\g.is_async=0/\Ep X (U8 c.N (Ek g.target)) sc/\(∀C fp s H,Em T nm W k (aeu c sc (Ek g.target)) (Mr X (U8 c.N (Ek g.target)) sc C fp s H)) /\
 (∀C fp s H,PG (Mr X (U8 c.N (Ek g.target)) sc C fp s H) g.target (tGt nm X.K t))/\(U8 c.N (Ek g.target)).length-X.N.length=j/\∀i∈Bv t,X.N.length<=i:=by
 simp only[aix,aq,dm] at h;obtain⟨h2,h3,h4,h5,h6⟩:=h;obtain⟨B,hB⟩:=a3a hc h2;exact⟨h5,h6,B,hB,λC fp s H=>(aiy (hB C fp s H) h4).1,by rw[hc.N,aqo];exact(eq_of_beq h3).symm,λi hi=>by rw[hc.N];exact ags h4 i hi⟩
def aiz(h:aqk o a x y=true):(∃l r p,a=.BoolOp o [l,r] p/\Rq l=true/\x l=true/\Rq r=true/\y r=true) \/
 ∃l r s rest p,a=.BoolOp o (l::r::s::rest) p/\Rq l=true/\x l=true/\y (.BoolOp o (r::s::rest) p)=true:=by
 obtain⟨⟨o',ls,p⟩,h1,h2⟩:=jt h;cases aqi h1;rw[aq] at h2;obtain⟨h3,h2⟩:=h2;cases j8 h3;cases ls with
 |nil=>cases h2
 |cons l ls=>cases ls with
  |nil=>cases h2
  |cons r rest =>
   cases rest with
   |nil =>
    have h2:((Rq l&&x l)&&(Rq r&&y r))=true:=h2;simp only[aq] at h2;exact .inl ⟨l,r,p,rfl,h2.1.1,h2.1.2,h2.2.1,h2.2.2⟩
   |cons s rest =>
    have h2:((Rq l&&x l)&&y (.BoolOp o' (r::s::rest) p))=true:=h2;simp only[aq] at h2;exact .inr ⟨l,r,s,rest,p,rfl,h2.1.1,h2.1.2,h2.2⟩
def a3c(hc:Em T nm W k c X)(hb:a2x b=some n)(hg:Xp c n=true)(e1:PA X (l::ls) (Wj nm W X.K es))(e2:Ab (l::ls)=true):PE X (.Call (.Name n p) (l::ls) [] p') (tE nm W X.K (.blt b es)):=by
 obtain⟨g1,g2⟩:=G5 hc hg;obtain⟨d1,d2,d3⟩:=uo g2;simp only[Ab,aq] at e2;have st:=o5 e2.1 ls X.env;have an:=xg (env:=X.env) (pos:=p') e2.2;have mg:n∈Ol->X.mg n=none:=hc.mg;cases b with
 |len=>cases hb;exact aie (id := "len") a9e g1 (mg (by decide+kernel)) (by decide+kernel) e1 d3 d1 st an|max=>cases hb;exact aie (id := "max") (a9l hc.calm) g1 (mg (by decide+kernel)) (by decide+kernel) e1 d3 d1 st an|all=>cases hb;exact aie (id := "all") (a9t hc.calm) g1 (mg (by decide+kernel)) (by decide+kernel) e1 d3 d1 st an|min=>cases hb;exact aie (id := "min") (a9n hc.calm) g1 (mg (by decide+kernel)) (by decide+kernel) e1 d3 d1 st an|tuple=>cases hb;exact apu (T := "tuple") ave g1 (mg (by decide+kernel)) (by decide+kernel) e1 d3 d1 st an|dict=>cases hb;exact apu (T := "dict") a2g g1 (mg (by decide+kernel)) (by decide+kernel) e1 d3 d1 st an|_=>cases hb
def W8{α:Type}{l:List α}(h:(!l.isEmpty)=true):∃x r,l=x::r:=by
 cases l with
 |nil=>cases h|cons x r=>exact⟨x,r,rfl⟩
set_option maxHeartbeats 2000000 in
set_option tactic.hygienic true in
mutual
theorem jr:∀(e:Ex){c:Ctx}{X:Cx}{a:Expr},Em T nm W k c X->Aw T e c a=true->Got nm W X a e
 |.var i,c,X,a,hc,h=>by
  replace h:=jt h;obtain⟨n,h1,h⟩:=h;obtain⟨p,rfl⟩:=Ko h1;simp only[aq] at h;exact yd (a8i (slot_of hc h.1) (a2q hc h.2.1) (uo h.2.2).1 (uo h.2.2).2.1) rfl
 |.cst d,c,X,a,hc,h=>by
  obtain⟨h1,h2⟩:=a3b hc h;exact yd h1 h2
 |.bin op x y,c,X,a,hc,h=>by
  replace h:=jt h;obtain⟨⟨l,o,r⟩,h1,h⟩:=h;obtain⟨p,rfl⟩:=awa h1;simp only[aq,dm] at h;exact yd (a8m (a9z h.1) (jr x hc h.2.1).v (jr y hc h.2.2).v) rfl
 |.neg x,c,X,a,hc,h=>by
  replace h:=jt h;obtain⟨⟨o,l⟩,h1,h⟩:=h;obtain⟨p,rfl⟩:=aqh h1;simp only[aq,dm] at h;obtain⟨rfl,h⟩:=h;exact yd (a82 (jr x hc h).v) rfl
 |.cmp op x y,c,X,a,hc,h=>by
  replace h:=jt h;obtain⟨⟨l,o,r⟩,h1,h⟩:=h;obtain⟨p,rfl⟩:=abk h1;replace h:=jt h;obtain⟨o1,h2,h⟩:=h;replace h:=jt h;obtain⟨r1,h3,h⟩:=h;cases Bt h2;cases Bt h3;simp only[aq,dm] at h;have g:=aqm (nm:=nm) hc.r8 h.1;have m:=Uo h.2.1 o1;exact⟨a8t g (jr x hc h.2.2.1).v (jr y hc h.2.2.2).v m,λ_=>a8u g (jr x hc h.2.2.1).v (jr y hc h.2.2.2).v m,λ_ _ _ z=>by cases z⟩
 |.chain o1 o2 x y z,c,X,a,hc,h=>by
  replace h:=jt h;obtain⟨⟨l,o,r⟩,h1,h⟩:=h;obtain⟨p,rfl⟩:=abk h1;dsimp only at h;split at h
  . rename_i p1 p2 r s
    simp only[aq,dm] at h;have g1:=aqm (nm:=nm) hc.r8 h.1.1;have g2:=aqm (nm:=nm) hc.r8 h.1.2;have m:lastMarks [p1,p2] [r,s]=false:=Uo h.2.1 p2;exact⟨au9 g1 g2 (jr x hc h.2.2.1).v (jr y hc h.2.2.2.1).v (jr z hc h.2.2.2.2).v m,λ_=>ava g1 g2 (jr x hc h.2.2.1).v (jr y hc h.2.2.2.1).v (jr z hc h.2.2.2.2).v m,λ_ _ _ z=>by cases z⟩
  . cases h
 |.and x y,c,X,a,hc,h=>by
  rcases aiz h with⟨l,r,p,rfl,h1,h2,h3,h4⟩|⟨l,r,s,rest,p,rfl,h1,h2,h3⟩
  . have g1:=jr x hc h2
    have g2:=jr y hc h4;have w:=ayb (pos:=p) (rest:=[]) (g1.q h1) (auc (g2.q h3));exact⟨aya g1.v (ayi g2.v),λ_=>w.pt,λ_ _ _ _=>w⟩
  . have g1:=jr x hc h2
    have g2:=jr y hc h3;have w:=ayb (g1.q h1) (g2.w _ _ _ rfl);exact⟨aya g1.v g2.v,λ_=>w.pt,λ_ _ _ _=>w⟩
 |.or x y,c,X,a,hc,h=>by
  rcases aiz h with⟨l,r,p,rfl,h1,h2,h3,h4⟩|⟨l,r,s,rest,p,rfl,h1,h2,h3⟩
  . have g1:=jr x hc h2
    have g2:=jr y hc h4;have w:=a8x (pos:=p) (rest:=[]) (g1.q h1) (a0e (g2.q h3));exact⟨a8v g1.v (ayi g2.v),λ_=>w.pt,λ_ _ _ _=>w⟩
  . have g1:=jr x hc h2
    have g2:=jr y hc h3;have w:=a8x (g1.q h1) (g2.w _ _ _ rfl);exact⟨a8v g1.v g2.v,λ_=>w.pt,λ_ _ _ _=>w⟩
 |.not x,c,X,a,hc,h=>by
  replace h:=jt h;obtain⟨⟨o,l⟩,h1,h⟩:=h;obtain⟨p,rfl⟩:=aqh h1;simp only[aq,dm] at h;obtain⟨rfl,h⟩:=h;have g:=jr x hc h.2;exact⟨a8w g.v,λ_=>a8y (g.q h.1),λ_ _ _ z=>by cases z⟩
 |.ite t x y,c,X,a,hc,h=>by
  replace h:=jt h;obtain⟨⟨t',l,r⟩,h1,h⟩:=h;obtain⟨p,rfl⟩:=awb h1;simp only[aq] at h;exact⟨a8z ((jr t hc h.2.1).q h.1) (jr x hc h.2.2.1).v (jr y hc h.2.2.2).v,(λz=>by cases z),λ_ _ _ z=>by cases z⟩
 |.tup es,c,X,a,hc,h=>by
  replace h:=jt h;obtain⟨l,h1,h⟩:=h;obtain⟨k0,p,rfl⟩:=Rp h1;simp only[aq,dm] at h;exact yd (a80 (Dj es hc h.2).1 h.1) rfl
 |.lst es,c,X,a,hc,h=>by
  replace h:=jt h;obtain⟨l,h1,h⟩:=h;obtain⟨p,rfl⟩:=aiv h1;simp only[aq,dm] at h;exact yd (a81 (Dj es hc h.2).1 h.1) rfl
 |.Hb es,c,X,a,hc,h=>by
  replace h:=jt h;obtain⟨l,h1,h⟩:=h;obtain⟨p,rfl⟩:=aiv h1;simp only[aq,dm] at h;exact yd (a1k (Dj es hc h.2).1 h.1) rfl
 |.ajx,c,X,a,hc,h=>by
  replace h:=jt h;obtain⟨⟨q,l⟩,h1,h⟩:=h;obtain⟨p,rfl⟩:=aiw h1;simp only[aq,ud] at h;obtain⟨rfl,rfl⟩:=h;exact yd a1y rfl
 |.Z8,c,X,a,hc,h=>by
  replace h:=jt h;obtain⟨⟨q,l⟩,h1,h⟩:=h;obtain⟨p,rfl⟩:=aiw h1;simp only[aq,ud] at h;obtain⟨rfl,rfl⟩:=h;exact yd a1z rfl
 |.ix x y,c,X,a,hc,h=>by
  replace h:=jt h;obtain⟨⟨l,r⟩,h1,h⟩:=h;obtain⟨p,rfl⟩:=abl h1;simp only[aq] at h;exact yd (be6 (ado hc.room) (jr x hc h.2.1).v (jr y hc h.2.2).v (apk h.1)) rfl
 |.cut x lo hi,c,X,a,hc,h=>by
  replace h:=jt h;obtain⟨⟨l,r⟩,h1,h⟩:=h;obtain⟨p,rfl⟩:=abl h1;replace h:=jt h;obtain⟨⟨u,v,st⟩,h2,h⟩:=h;obtain⟨p2,e⟩:=a2v h2;have e:r=_:=e;subst e;simp only[aq,Option.isNone_iff_eq_none] at h;obtain⟨rfl,h⟩:=h;exact yd (a9m (jr x hc h.1).v (ai0 lo hc h.2.1) (ai0 hi hc h.2.2)) rfl
 |.call f es,c,X,a,hc,h=>by
  replace h:=jt h;obtain⟨⟨n,ls⟩,h1,h⟩:=h;obtain⟨p,p',rfl⟩:=Ig h1;simp only[aq] at h;obtain⟨⟨h2,h3,h4⟩,h5⟩:=h;obtain⟨l,ls,rfl⟩:=W8 h4;obtain⟨fa,fd,ps,F,m,kp,b⟩:=hc.tab.fn _ _ _ (j8 h2);obtain⟨g1,g2⟩:=G5 hc h3;obtain⟨e1,e2⟩:=Dj es hc h5;simp only[Ab,aq] at e2;exact yd (s_call F (hc.room.mono x_) g1 m kp b rfl e1 (uo g2).1 (o5 e2.1 _ _) (xg e2.2)) rfl
 |.make f es,c,X,a,hc,h=>by
  replace h:=jt h;obtain⟨⟨n,ls⟩,h1,h⟩:=h;obtain⟨p,p',rfl⟩:=Ig h1;simp only[aq] at h;obtain⟨⟨h2,h3,h4⟩,h5⟩:=h;obtain⟨l,ls,rfl⟩:=W8 h4;obtain⟨C,fa,fd,ps,cl,M0,F,m,b,d1,d2⟩:=hc.tab.cl _ _ _ (j8 h2);obtain⟨g1,g2⟩:=G5 hc h3;obtain⟨e1,e2⟩:=Dj es hc h5;simp only[Ab,aq] at e2;exact yd (a1v M0 F (hc.room.mono (w_ (by decide))) g1 m b d1 rfl d2 rfl e1 (uo g2).1 (o5 e2.1 _ _) (xg e2.2)) rfl
 |.meth o m es,c,X,a,hc,h=>by
  replace h:=jt h;obtain⟨⟨lo,n,ap,ls,p⟩,h0,h⟩:=h;cases aqj h0;simp only[aq,dm] at h;obtain⟨⟨⟨h1,h2⟩,h3,h4⟩,h5,h6⟩:=h;obtain⟨C,fa,fd,ps,f,C0,Me,F,b,u,nf⟩:=hc.tab.mt _ _ _ (j8 h1);obtain⟨e1,e2⟩:=Dj es hc h6;have g:=jr o hc h5;cases ls with
  |nil =>
   have z:=ald h6;subst z;exact yd (av2 (ci:=0) (cl:=⟨0,[]⟩) g.v C0 Me F (hc.room.mono x_) b u nf (aiu h2 rfl h3 h4)) rfl
  |cons l ls =>
   have e3:=e2;simp only[Ab,aq] at e3;exact yd (a1w (ci:=0) (cl:=⟨0,[]⟩) g.v C0 Me F (hc.room.mono x_) b u nf rfl e1 (o5 e3.1 _ _) (xg e3.2) (aiu h2 e2 h3 h4)) rfl
 |.fld o f,c,X,a,hc,h=>by
  replace h:=jt h;obtain⟨⟨l,n,p⟩,h1,h⟩:=h;cases abm h1;simp only[aq] at h;obtain⟨t1,t2⟩:=hc.tab.fl _ _ (j8 h.1.1);exact yd (a83 t1 t2 (jr o hc h.2).v (Ji h.1.2)) rfl
 |.blt b es,c,X,a,hc,h=>by
  have gen:(Df (dCN a) λq=>(decide (a2x b=some q.1)&&(Xp c q.1&&!q.2.isEmpty))&&Ih T es c q.2)=true->Got nm W X a (.blt b es):=λhh=>by clear h;replace hh:=jt hh;obtain⟨⟨n,ls⟩,h1,h⟩:=hh;obtain⟨p,p',rfl⟩:=Ig h1;simp only[aq] at h;obtain⟨⟨h2,h3,h4⟩,h5⟩:=h;obtain⟨l,ls,rfl⟩:=W8 h4;obtain⟨e1,e2⟩:=Dj es hc h5;exact yd (a3c hc (j8 h2) h3 e1 e2) rfl
  match b,es,h,gen with
  |.isTuple,.cons x .nil,h,_ =>
   obtain⟨l,p,p1,p2,rfl,h3,h4,h5,h6⟩:=awe h;obtain⟨g1,g2⟩:=G5 hc h3;obtain⟨g3,g4⟩:=G5 hc h4;exact yd (ak3 g1 (hc.mg (by decide+kernel)) (by decide+kernel) (uo g2).2.2 (uo g2).1 g3 (hc.mg (by decide+kernel)) (by decide+kernel) (uo g4).2.2 (uo g4).1 (jr x hc h6).v (o5 h5 _ _) (o5 rfl _ _) (xg rfl)) rfl
  |.isTuple,.nil,h,gen=>exact gen h|.isTuple,.cons _ (.cons _ _),h,gen=>exact gen h|.len,_,h,gen=>exact gen h|.tuple,_,h,gen=>exact gen h|.max,_,h,gen=>exact gen h|.min,_,h,gen=>exact gen h|.dict,_,h,gen=>exact gen h|.all,_,h,gen=>exact gen h|.Fw,.nil,h,gen=>exact gen h|.Fw,.cons _ (.cons _ _),h,gen=>exact gen h
  |.Fw,.cons x .nil,h,_ =>
   obtain⟨l,p,p1,p2,p3,rfl,h5,h6,h7,h8⟩:=abn (show aql c "sorted" "set" a (Aw T x c)=true from h);obtain⟨g1,g2⟩:=G5 hc h5;obtain⟨g3,g4⟩:=G5 hc h6;exact yd (ak7 hc.r8 g1 (hc.mg (by decide+kernel)) (by decide+kernel) (uo g2).2.2 (uo g2).1 g3 (hc.mg (by decide+kernel)) (by decide+kernel) (uo g4).2.2 (uo g4).1
    (Oh (jr x hc h8).v Um (o5 h7 _ _)) (o5 rfl _ _) (xg rfl) (o5 h7 _ _) (xg rfl)) rfl
 |.bm m o es,c,X,a,hc,h=>by
  replace h:=jt h;obtain⟨⟨lo,n,ap,ls,p⟩,h0,h⟩:=h;cases aqj h0;simp only[aq,dm] at h;obtain⟨⟨⟨h1,h2⟩,h3,h4,h4'⟩,h5,h6⟩:=h;obtain⟨l,ls,rfl⟩:=W8 h4';obtain⟨e1,e2⟩:=Dj es hc h6;have e3:=e2;simp only[Ab,aq] at e3;have few:((backTo p (starEach (l::ls) X.env)).all (λx=>!x.1)&&(backToKw p (keywordEach [] X.env)).all (λx=>x.1.isSome)&&decide ((l::ls).length+([]:List Keyword).length+(if([]:List Keyword).isEmpty then 0 else 1)<30))=true:=by rw[W6 e2];simp[keywordEach,backToKw];simp at h3;exact b_ h3 (by decide)
  have g:=jr o hc h5;cases m with
  |append=>cases h1;exact yd (a2d (T := "list") (id := "list.append") (fun ι H M x v S r t=>ty_list (.inl rfl) S r t) PySem.F.plainAttrs_list PySem.F.slot_list_append PySem.F.type_list_append apy g.v e1 (Ji h2) few h4 (o5 e3.1 _ _) (xg e3.2)) rfl
  |index=>cases h1;exact yd (a2d (T := "list") (id := "list.index") (fun ι H M x v S r t=>ty_list (.inr rfl) S r t) PySem.F.plainAttrs_list PySem.F.slot_list_index PySem.F.type_list_index (avl hc.r8) g.v e1 (Ji h2) few h4 (o5 e3.1 _ _) (xg e3.2)) rfl
  |get=>cases h1;exact yd (a2d (T := "dict") (id := "dict.get") (fun ι H M x v S r t=>ty_dict S r t) PySem.F.plainAttrs_dict PySem.F.slot_dict_get PySem.F.type_dict_get (a9u (ado hc.room)) g.v e1 (Ji h2) few h4 (o5 e3.1 _ _) (xg e3.2)) rfl
 |.comp v j t it e,c,X,a,hc,h=>by
  replace h:=jt h;obtain⟨⟨elt,gs,sc⟩,h1,h⟩:=h;obtain⟨p,rfl⟩:=W7 h1;replace h:=jt h;obtain⟨⟨tg,iter,ifs,as⟩,h2,h⟩:=h;cases Bt h2;simp only[aq,ud] at h;obtain⟨⟨h3,rfl⟩,h4,h5⟩:=h;obtain⟨q1,q2,B,hB,hg,q3,q4⟩:=Rr hc h3;cases q2;exact yd (a1u B hc.calm (Rt it hc h4) hg (λC fp s H=>(jr e (hB C fp s H) h5).v) q1 q3 q4) rfl
 |.Dh v j t it i e,c,X,a,hc,h=>by
  replace h:=jt h;obtain⟨⟨elt,gs,sc⟩,h1,h⟩:=h;obtain⟨p,rfl⟩:=W7 h1;replace h:=jt h;obtain⟨⟨tg,iter,ifs,as⟩,h2,h⟩:=h;cases Bt h2;replace h:=jt h;obtain⟨d,h6,h⟩:=h;cases Bt h6;simp only[aq] at h;obtain⟨⟨h3,h7⟩,h4,h8,h5⟩:=h;obtain⟨q1,q2,B,hB,hg,q3,q4⟩:=Rr hc h3;cases q2;exact yd (apq B hc.calm (Rt it hc h4) hg (λC fp s H=>(jr i (hB C fp s H) h8).q h7) (λC fp s H=>(jr e (hB C fp s H) h5).v) q1 q3 q4) rfl
 |.Vv x y,c,X,a,hc,h=>by
  replace h:=jt h;obtain⟨⟨l0,o,r0⟩,h1,h⟩:=h;obtain⟨p,rfl⟩:=abk h1;replace h:=jt h;obtain⟨o1,h2,h⟩:=h;replace h:=jt h;obtain⟨r1,h3,h⟩:=h;cases Bt h2;cases Bt h3;replace h:=jt h;obtain⟨⟨n,ls⟩,h4,h⟩:=h;replace h:=jt h;obtain⟨⟨m,ms⟩,h5,h⟩:=h;replace h:=jt h;obtain⟨l,h6,h⟩:=h;replace h:=jt h;obtain⟨r,h7,h⟩:=h;cases Bt h6;cases Bt h7;obtain⟨p1,q1,e1⟩:=Ig h4;obtain⟨p2,q2,e2⟩:=Ig h5;have e1:l0=_:=e1;subst e1 e2;simp only[aq,dm] at h;obtain⟨⟨⟨rfl,rfl⟩,rfl,h8⟩,⟨h9,h10⟩,h11,h12⟩:=h;obtain⟨g1,g2⟩:=G5 hc h8;have z:=avh (nm:=nm) (W:=W) (p1:=p1) (p2:=p2) (q1:=q1) (q2:=q2) hc.r8 g1 (hc.mg (by decide+kernel)) (by decide+kernel) (uo g2).2.2 (uo g2).1 (Oh (jr x hc h11).v Um (o5 h9 _ _)) (Oh (jr y hc h12).v Um (o5 h10 _ _)) (o5 h9 _ _) (o5 h10 _ _) (xg rfl) (xg rfl);exact⟨a0b z,λ_=>au8 (a0c z) λ_ _ _ q=>q,λ_ _ _ z=>by cases z⟩
 |.Xw x,c,X,a,hc,h=>by
  obtain⟨l,p,p1,p2,p3,rfl,h5,h6,h7,h8⟩:=abn h;obtain⟨g1,g2⟩:=G5 hc h5;obtain⟨g3,g4⟩:=G5 hc h6;exact yd (a2k hc.r8 g1 (hc.mg (by decide+kernel)) (by decide+kernel) (uo g2).2.2 (uo g2).1 g3 (hc.mg (by decide+kernel)) (by decide+kernel) (uo g4).2.2 (uo g4).1
   (Oh (jr x hc h8).v Um (o5 h7 _ _)) (o5 rfl _ _) (xg rfl) (o5 h7 _ _) (xg rfl)) rfl
 |.afr x,c,X,a,hc,h=>by
  obtain⟨l,p,p1,p2,p3,rfl,h5,h6,h7,h8⟩:=abn h;obtain⟨g1,g2⟩:=G5 hc h5;obtain⟨g3,g4⟩:=G5 hc h6;exact yd (a2o hc.r8 g1 (hc.mg (by decide+kernel)) (by decide+kernel) (uo g2).2.2 (uo g2).1 g3 (hc.mg (by decide+kernel)) (by decide+kernel) (uo g4).2.2 (uo g4).1
   (Oh (jr x hc h8).v Um (o5 h7 _ _)) (o5 rfl _ _) (xg rfl) (o5 h7 _ _) (xg rfl)) rfl
theorem Dj:∀(es:Cr){c:Ctx}{X:Cx}{a:Ya},Em T nm W k c X->Ih T es c a=true->PA X a (Wj nm W X.K es)/\Ab a=true
 |.nil,c,X,a,hc,h=>by
  cases ud.mp h;exact⟨Um,rfl⟩
 |.cons e es,c,X,a,hc,h=>by
  cases a with
  |nil=>cases h
  |cons l ls =>
   replace h:(noStar l&&(Aw T e c l&&Ih T es c ls))=true:=h;simp only[aq] at h;obtain⟨g1,g2⟩:=Dj es hc h.2.2;exact⟨Oh (jr e hc h.2.1).v g1 (o5 h.1 _ _),by simp only[Ab,aq];exact⟨h.1,g2⟩⟩
theorem ai0:∀(e:OEx){c:Ctx}{X:Cx}{a:Option Expr},Em T nm W k c X->a2z T e c a=true->PO X a (tO nm W X.K e)
 |.none,c,X,a,hc,h=>by
  cases Option.isNone_iff_eq_none.mp h;exact avp
 |.some e,c,X,a,hc,h=>by
  replace h:=jt h;obtain⟨l,rfl,h⟩:=h;exact avq (jr e hc h).v
theorem Rt:∀(it:Ow){c:Ctx}{X:Cx}{tg a:Expr},Em T nm W k c X->awf T it c tg a=true->PI X tg a (tI nm W X.K it)
 |.val e,c,X,tg,a,hc,h=>a9a (jr e hc h).v
 |.Im e,c,X,tg,a,hc,h=>by
  replace h:=jt h;obtain⟨⟨n,ls⟩,h1,h⟩:=h;obtain⟨p,p',rfl⟩:=Ig h1;replace h:=jt h;obtain⟨l,h2,h⟩:=h;cases Bt h2;simp only[aq,dm] at h;obtain⟨⟨rfl,h3⟩,h4,h5⟩:=h;exact a9b (G5 hc h3).1 (hc.mg (by decide+kernel)) (jr e hc h5).v h4
 |.enm e,c,X,tg,a,hc,h=>by
  replace h:=jt h;obtain⟨⟨n,ls⟩,h1,h⟩:=h;obtain⟨p,p',rfl⟩:=Ig h1;replace h:=jt h;obtain⟨l,h2,h⟩:=h;cases Bt h2;simp only[aq,dm] at h;obtain⟨⟨h6,rfl,h3⟩,h4,h5⟩:=h;obtain⟨ts,h7⟩:=m7.mp h6;obtain⟨k0,pt,rfl⟩:=Rp h7;exact a9r (G5 hc h3).1 (hc.mg (by decide+kernel)) (jr e hc h5).v h4
 |.zip es,c,X,tg,a,hc,h=>by
  replace h:=jt h;obtain⟨⟨n,ls⟩,h1,h⟩:=h;obtain⟨p,p',rfl⟩:=Ig h1;simp only[aq,dm] at h;obtain⟨⟨h6,rfl,h3,h4⟩,h5,h7⟩:=h;obtain⟨l,ls,rfl⟩:=W8 h4;obtain⟨e1,e2⟩:=Dj es hc h7;obtain⟨ts,h9⟩:=m7.mp h6;obtain⟨k0,pt,rfl⟩:=Rp h9;simp only[Ab,aq] at e2;obtain⟨f1,f2⟩:=e2;exact a9s (G5 hc h3).1 (hc.mg (by decide+kernel)) e1 (o5 f1 _ _) (xg f2) h5
end
end
noncomputable def a91(e:Ex):Option {b:Bool // (∃v j t it x,e=.comp v j t it x)\/∃v j t it i x,e=.Dh v j t it i x}:=match e with|.comp ..=>some ⟨true,.inl ⟨_,_,_,_,_,rfl⟩⟩|.Dh ..=>some ⟨true,.inr ⟨_,_,_,_,_,_,rfl⟩⟩|_=>none
noncomputable def a3d(T:Tab)(c:Ctx)(l:Lv)(e:Ex)(tg v:Expr):Bool :=
 match l with
 |.tg t=>(tgB c 0 t tg&&((Tj v&&((Us tg).isSome||ayc v))||(match t with|.name _=>(aes v).isSome&&(a91 e).isSome|_=>false)))&&Aw T e c v
 |.sub o i=>Df (aqe tg) λq=>abb q.2&&(Aw T e c v&&(Aw T o c q.1&&Aw T i c q.2))
 |.fld o f=>Df (aqg tg) λq=>(Tj v&&flB T.Qq f q.2.1)&&(Aw T e c v&&Aw T o c q.1)
noncomputable def a92(a:Stmt):Option (List Expr×Expr):=Option.map Subtype.val (α:={q:List Expr×Expr // ∃p,a=.Assign q.1 q.2 p}) (match a with|.Assign t v p=>some ⟨(t,v),p,rfl⟩|_=>none)
noncomputable def a93(a:Stmt):Option Expr:=Option.map Subtype.val (α:={q:Expr // ∃p,a=.Expr q p}) (match a with|.Expr v p=>some ⟨v,p,rfl⟩|_=>none)
noncomputable def a94(a:Stmt):Option (Expr×List Stmt×List Stmt):=Option.map Subtype.val (α:={q:Expr×List Stmt×List Stmt // ∃p,a=.If q.1 q.2.1 q.2.2 p}) (match a with|.If t l r p=>some ⟨(t,l,r),p,rfl⟩|_=>none)
noncomputable def a95(a:Stmt):Option (Expr×List Stmt×List Stmt):=Option.map Subtype.val (α:={q:Expr×List Stmt×List Stmt // ∃p,a=.While q.1 q.2.1 q.2.2 p}) (match a with|.While t l r p=>some ⟨(t,l,r),p,rfl⟩|_=>none)
noncomputable def a96(a:Stmt):Option (Expr×Expr×List Stmt×List Stmt):=Option.map Subtype.val (α:={q:Expr×Expr×List Stmt×List Stmt // ∃p,a=.For q.1 q.2.1 q.2.2.1 q.2.2.2 p}) (match a with|.For t i l r p=>some ⟨(t,i,l,r),p,rfl⟩|_=>none)
noncomputable def a97(a:Stmt):Option (Option Expr):=Option.map Subtype.val (α:={q:Option Expr // ∃p,a=.Return q p}) (match a with|.Return v p=>some ⟨v,p,rfl⟩|_=>none)
noncomputable def awg(a:Stmt):Option Nat:=Option.map Subtype.val (α:={n:Nat // (n=0/\∃p,a=.Break p)\/(n=1/\∃p,a=.Continue p)\/(n=2/\∃p,a=.Pass p)}) (match a with|.Break p=>some ⟨0,.inl ⟨rfl,p,rfl⟩⟩|.Continue p=>some ⟨1,.inr (.inl ⟨rfl,p,rfl⟩)⟩|.Pass p=>some ⟨2,.inr (.inr ⟨rfl,p,rfl⟩)⟩|_=>none)
def awh(h:a92 a=some (t,v)):∃p,a=.Assign t v p:=(Xq h :)
def awi(h:a93 a=some v):∃p,a=.Expr v p:=(Xq h :)
def awj(h:a94 a=some (t,l,r)):∃p,a=.If t l r p:=(Xq h :)
def awk(h:a95 a=some (t,l,r)):∃p,a=.While t l r p:=(Xq h :)
def awl(h:a96 a=some (t,i,l,r)):∃p,a=.For t i l r p:=(Xq h :)
def awm(h:a97 a=some v):∃p,a=.Return v p:=(Xq h :)
def abo(h:awg a=some n):(n=0/\∃p,a=.Break p)\/(n=1/\∃p,a=.Continue p)\/(n=2/\∃p,a=.Pass p):=(Xq h :)
mutual
noncomputable def a3e(T:Tab):By->Ctx->Stmt->Bool
 |.asg l e,c,a=>Df (a92 a) λq=>Df (Qs q.1) λt=>a3d T c l e t q.2
 |.expr e,c,a=>Df (a93 a) λv=>Tj v&&Aw T e c v
 |.iff t x y,c,a=>Df (a94 a) λq=>Rq q.1&&(Aw T t c q.1&&(Uu T x c q.2.1&&Uu T y c q.2.2))
 |.whl t x,c,a=>Df (a95 a) λq=>(Rq q.1&&q.2.2.isEmpty)&&(Aw T t c q.1&&Uu T x c q.2.1)
 |.for_ t it x,c,a=>Df (a96 a) λq=>(tgB c 0 t q.1&&(G3 q.2.1&&q.2.2.2.isEmpty))&&(awf T it c q.1 q.2.1&&Uu T x c q.2.2.1)
 |.ret e,c,a=>Df (a97 a) λv=>Df v (Aw T e c)
 |.atc,_,_=>false|.brk,_,a=>decide (awg a=some 0)|.cont,_,a=>decide (awg a=some 1)|.pass,_,a=>decide (awg a=some 2)|.raise _ _,_,_=>true
noncomputable def Uu(T:Tab):o7->Ctx->List Stmt->Bool
 |.nil,_,a=>a.isEmpty|.cons s r,c,a=>match a with|st::rest=>a3e T s c st&&Uu T r c rest|_=>false
end
noncomputable def swB(c:Ctx)(t:Str)(pt vp:Pos)(sc:Scope):Bool:=(c.sc.lookup t==some NameKind.local&&pt.line==vp.line)&&!(sc.names.any λy=>y.1==t&&(y.2==.local||y.2==.cell))
def agt(hc:Em T nm W k c X):swapsWith (.ListComp elt gs sc vp) (some (.Name t pt)) l X.env=pure (swB c t pt vp sc):=by
 have b:X.env.blockKind=.function:=by unfold Env.blockKind;rw[hc.kd];rfl
 show(pure (X.env.blockKind==.function&&X.env.kindOf t==some .local&&pt.line==vp.line&&!(sc.names.any λ(n,k)=>n==t&&(k==.local||k==.cell))):Sem Bool)=_;rw[b];unfold Env.kindOf;rw[hc.sc];simp[swB]
def aqp(hc:Em T nm W k c X)(ht:tgB c 0 (.name i) tg=true)(hv:(aes v).isSome=true)(hw:(a91 e).isSome=true)(h:Aw T e c v=true):PS X (.Assign [tg] v p) (tS nm W X.K (.asg (.tg (.name i)) e)):=by
 have nd:X.N.Nodup:=by rw[hc.N];exact hc.nd
 obtain⟨⟨elt,gs,sc⟩,hq⟩:=m7.mp hv;obtain⟨y,py,rfl,hy,_⟩:=agr (nm:=nm) (W:=W) (k:=k) (T:=T) hc ht;obtain⟨⟨_,co⟩,_⟩:=m7.mp hw;obtain⟨vp,rfl⟩:=W7 hq;have sw:=λl=>agt (T:=T) (nm:=nm) (W:=W) (k:=k) hc (elt:=elt) (gs:=gs) (sc:=sc) (vp:=vp) (pt:=py) (t:=y) (l:=l)
 cases hs:swB c y py vp sc with
 |false =>
  rw[hs] at sw;exact apl (jr e hc h).v (aiy hc ht).1 (sw p.line) rfl rfl
 |true =>
  rw[hs] at sw;simp only[swB,aq] at hs;have hl:X.env.scope.names.lookup y=some .local:=by rw[hc.sc];have:=hs.1.1;simpa using this
  rcases co with⟨v,j,t,it,x,rfl⟩|⟨v,j,t,it,i',x,rfl⟩
  . replace h:=jt h
    obtain⟨⟨bfq,gs',sc'⟩,h1,h⟩:=h;cases h1;replace h:=jt h;obtain⟨⟨tg,iter,ifs,as⟩,h2,h⟩:=h;cases Bt h2;simp only[aq,ud] at h;obtain⟨⟨h3,rfl⟩,h4,h5⟩:=h;obtain⟨q1,q2,B,hB,hg,q3,q4⟩:=Rr hc h3;cases q2;exact ak0 B hc.calm (Rt it hc h4) hg (λC fp s H=>(jr x (hB C fp s H) h5).v) q1 q3 q4 nd hy hl (sw p.line)
  . replace h:=jt h
    obtain⟨⟨bfq,gs',sc'⟩,h1,h⟩:=h;cases h1;replace h:=jt h;obtain⟨⟨tg,iter,ifs,as⟩,h2,h⟩:=h;cases Bt h2;replace h:=jt h;obtain⟨d,h6,h⟩:=h;cases Bt h6;simp only[aq] at h;obtain⟨⟨h3,h7⟩,h4,h8,h5⟩:=h;obtain⟨q1,q2,B,hB,hg,q3,q4⟩:=Rr hc h3;cases q2;exact ad4 B hc.calm (Rt it hc h4) hg (λC fp s H=>(jr i' (hB C fp s H) h8).q h7) (λC fp s H=>(jr x (hB C fp s H) h5).v) q1 q3 q4 nd hy hl (sw p.line)
section
variable{T:Tab}{nm:Nm}{W:Jp}{k:Nat}
def awn(hc:Em T nm W k c X)(h:a3d T c l e tg v=true):PS X (.Assign [tg] v p) (tS nm W X.K (.asg l e)):=by
 cases l with
 |tg t =>
  simp only[a3d,aq,Bool.or_eq_true] at h;obtain⟨⟨h1,h2⟩,h3⟩:=h;rcases h2 with⟨h4,h5⟩|h4
  . have g:=aiy (nm:=nm) hc h1
    have sh:(∃n q,tg=.Name n q)\/∃ts k0 q,tg=.Tuple ts k0 q:=by
     cases t with
     |name i =>
      obtain⟨n,z1,_⟩:=jt h1;exact .inl ⟨n,Ko z1⟩
     |names is =>
      obtain⟨ts,z1,_⟩:=jt h1;exact .inr ⟨ts,Rp z1⟩
    rcases sh with⟨n,q,rfl⟩|⟨ts,k0,q,rfl⟩
    . exact apl (jr e hc h3).v g.1 (Wu h4 _ _ _) rfl rfl
    . have w:ayc v=true:=by
       rcases h5 with h5|h5
       . cases h5
       . exact h5
      have w2:swappedStores [.Tuple ts k0 q] v X.env=pure none:=by cases v<;>first|rfl|(cases w;done)
      exact apl (jr e hc h3).v g.1 (Wu h4 _ _ _) w2 rfl
  . cases t with
    |name i=>rw[aq] at h4;exact aqp hc h1 h4.1 h4.2 h3|names _=>cases h4
 |sub o i =>
  replace h:=jt (show Df (aqe tg) _=true from h);obtain⟨⟨lo,li⟩,h0,h⟩:=h;obtain⟨p',rfl⟩:=abl h0;simp only[aq] at h;obtain⟨h2,h3,h4,h5⟩:=h;refine aps (ado hc.room) (jr e hc h3).v (jr o hc h4).v (jr i hc h5).v λv=>?_
  cases li<;>first|rfl|(cases h2;done)
 |fld o f =>
  replace h:=jt (show Df (aqg tg) _=true from h);obtain⟨⟨lo,n,p'⟩,h0,h⟩:=h;cases abm h0;simp only[aq] at h;obtain⟨⟨h1,h2⟩,h3,h4⟩:=h;obtain⟨t1,t2⟩:=hc.tab.fl _ _ (j8 h2);exact apt t1 t2 (jr e hc h3).v (jr o hc h4).v h1
mutual
theorem awo:∀(s:By){c:Ctx}{X:Cx}{a:Stmt},Em T nm W k c X->c.fn=true->a3e T s c a=true->PS X a (tS nm W X.K s)
 |.asg l e,c,X,a,hc,hf,h=>by
  replace h:=jt h;obtain⟨⟨ts,v⟩,h1,h⟩:=h;obtain⟨p,rfl⟩:=awh h1;replace h:=jt h;obtain⟨t,h2,h⟩:=h;cases Bt h2;exact awn hc h
 |.expr e,c,X,a,hc,hf,h=>by
  replace h:=jt h;obtain⟨v,h1,h⟩:=h;obtain⟨p,rfl⟩:=awi h1;simp only[aq] at h;exact a1n (jr e hc h.2).v (Oi h.1 _ _ _)
 |.iff t x y,c,X,a,hc,hf,h=>by
  replace h:=jt h;obtain⟨⟨q,l,r⟩,h1,h⟩:=h;obtain⟨p,rfl⟩:=awj h1;simp only[aq] at h;exact a86 ((jr t hc h.2.1).q h.1) (Kp x hc hf h.2.2.1) (Kp y hc hf h.2.2.2)
 |.whl t x,c,X,a,hc,hf,h=>by
  replace h:=jt h;obtain⟨⟨q,l,r⟩,h1,h⟩:=h;obtain⟨p,rfl⟩:=awk h1;simp only[aq,ud] at h;obtain⟨⟨h2,rfl⟩,h3,h4⟩:=h;exact a87 (hc.fnl hf).2 ((jr t hc h3).q h2) (Kp x hc hf h4)
 |.for_ t it x,c,X,a,hc,hf,h=>by
  replace h:=jt h;obtain⟨⟨tg,iter,l,r⟩,h1,h⟩:=h;obtain⟨p,rfl⟩:=awl h1;simp only[aq,ud] at h;obtain⟨⟨h2,h3,rfl⟩,h4,h5⟩:=h;exact a89 (hc.fnl hf).2 hc.calm (Rt it hc h4) (aiy hc h2).1 (Kp x hc hf h5) h3
 |.ret e,c,X,a,hc,hf,h=>by
  replace h:=jt h;obtain⟨v,h1,h⟩:=h;obtain⟨p,rfl⟩:=awm h1;replace h:=jt h;obtain⟨w,rfl,h⟩:=h;exact a84 (jr e hc h).v
 |.atc,c,X,a,hc,hf,h=>by cases h
 |.brk,c,X,a,hc,hf,h=>by
  rcases abo (j8 h) with⟨_,p,rfl⟩|⟨z,_⟩|⟨z,_⟩
  . exact a85
  . cases z
  . cases z
 |.cont,c,X,a,hc,hf,h=>by
  rcases abo (j8 h) with⟨z,_⟩|⟨_,p,rfl⟩|⟨z,_⟩
  . cases z
  . exact a1p
  . cases z
 |.pass,c,X,a,hc,hf,h=>by
  rcases abo (j8 h) with⟨z,_⟩|⟨z,_⟩|⟨_,p,rfl⟩
  . cases z
  . cases z
  . exact a1o
 |.raise _ _,c,X,a,hc,hf,h=>av3
theorem Kp:∀(s:o7){c:Ctx}{X:Cx}{a:List Stmt},Em T nm W k c X->c.fn=true->Uu T s c a=true->Rh X a (tSs nm W X.K s)
 |.nil,c,X,a,hc,hf,h=>by
  cases ud.mp h;exact a1q
 |.cons s r,c,X,a,hc,hf,h=>by
  cases a with
  |nil=>cases h
  |cons st rest =>
   replace h:(a3e T s c st&&Uu T r c rest)=true:=h;simp only[aq] at h;exact avc (awo s hc hf h.1) (Kp r hc hf h.2)
end
end
structure Def where
 x:Str
 qual:Str
 N:List Str
 ps:List Str
noncomputable def scB(N ps:Yf)(sc:Scope):Bool :=
 (decide (sc.kind=.function)&&(!sc.isCoroutine&&!sc.isGenerator))&&((decide N.Nodup&&decide (N.take ps.length=ps)) &&
 (ps.all (λx=>sc.names.lookup x==some .local||sc.names.lookup x==some .cell)&&sc.names.all (λy=>!(y.2==NameKind.free))))
def a3f(h:scB N ps sc=true):Vf N ps sc:=by simp only[scB,aq,dm,Bool.not_eq_true',iz] at h;obtain⟨⟨h1,h2,h3⟩,⟨h4,h5⟩,h6,h7⟩:=h;exact⟨h1,h2,h3,h4,h5,λx m=>by have:=h6 x m;simpa using this,λy m=>by have:=h7 y m;simpa using this⟩
noncomputable def ale(T:Tab)(d:Def)(F:MW.Fn)(st:Stmt):Bool :=
 (scB d.N d.ps (Bk st)&&(decide (F.np=d.ps.length)&&decide (F.ns=d.N.length)))&&Uu T F.body ⟨d.N,(Bk st).names,true,[]⟩ (Ge st)
set_option tactic.hygienic true in
def awp{F:MW.Fn}(h:F.run W ds M=.ok d M'):ds.length=F.np/\∃fl ρ',F.body.den W (ds.map some++List.replicate (F.ns-F.np) none) M=.ok (fl,ρ') M'/\(fl=.ret d\/(fl=.next/\d=.non)):=by
 unfold MW.Fn.run at h;split at h
 . rename_i hl
   obtain⟨⟨fl,ρ'⟩,M1,e1,e⟩:=gh h;refine⟨hl,fl,ρ',?_⟩;cases fl with
   |ret z=>cases e;exact⟨e1,.inl rfl⟩|next=>cases e;exact⟨e1,.inr ⟨rfl,rfl⟩⟩|brk=>cases e|cont=>cases e
 . cases h
def a3g{IR:MW.Prog}(U:Fun K d.x d.qual st f fd)(hF:IR.fns[i]?=some F)(h:ale T d F st=true)(hT:aqc T nm ⟨IR.call n,IR.cls⟩ k P w K mg base):Fo P w K mg base CX0 (k+17) f fd d.ps (spF nm ⟨IR.call (n+1),IR.cls⟩ K F.np i):=by
 simp only[ale,aq,dm] at h;obtain⟨⟨h1,h2,h3⟩,h4⟩:=h;have S:=a3f h1;have go:∀ds M d' M',MW.Jp.call ⟨IR.call (n+1),IR.cls⟩ i ds M=.ok d' M'->F.run ⟨IR.call n,IR.cls⟩ ds M=.ok d' M':=λds M d' M' e=>by have e:IR.call (n+1) i ds M=.ok d' M':=e;unfold MW.Prog.call at e;rw[hF] at e;exact e
 refine U.ok (k:=k+16) S (λvs H Q E ⟨ι,M,ds,d',M',_,r,l,e,_⟩=>by rw[<- r.length,l,h2]) (λcdv A outer s H vs Q E hr z_=>?_);obtain⟨ι,M,ds,d',M',SM,r,l,e,q⟩:=z_;have hc:Em T nm ⟨IR.call n,IR.cls⟩ k ⟨d.N,(Bk st).names,true,[]⟩ (agf CX0 P w K mg base d.N d.qual (Bk st) f cdv A outer s H E).nox :=
  ⟨rfl,S.nd,rfl,S.kind,rfl,hr,λ_=>⟨λ_=>rfl,PassesOwn.never⟩,hT,λn h=>by cases h⟩
 refine⟨_,Kp F.body hc rfl h4,?_⟩;obtain⟨hl,fl,ρ',e1,e2⟩:=awp (go _ _ _ _ e);refine⟨ι,_,M,fl,ρ',M',SM,?_,e1,fun ι' H' σ' le S' R'=>?_⟩
 . unfold L2.start
   exact(u5.apg r).append (u5.apf _ (by rw[ye,h3,<- r.length,l]))
 . rcases e2 with rfl|⟨rfl,rfl⟩
   . exact λv rv=>q ι' H' v le S' rv
   . exact q ι' H' _ le S' .non
theorem ai1{nm:Nm}{P:Program}{w:World}{K:Fg}{mg:Zs}{base:Heap}{IR:MW.Prog}{T:Tab}{D:Nat->Def}{st:Nat->Stmt}{fa:Nat->Addr}{fd:Nat->FuncData}
 (U:∀i,i<IR.fns.length->Fun K (D i).x (D i).qual (st i) (fa i) (fd i)) (h:∀i F,IR.fns[i]?=some F->ale T (D i) F (st i)=true)
 (mk:∀n,(∀i F,IR.fns[i]?=some F->Fo P w K mg base CX0 (17*n) (fa i) (fd i) (D i).ps (spF nm ⟨IR.call n,IR.cls⟩ K F.np i))->aqc T nm ⟨IR.call n,IR.cls⟩ (17*n) P w K mg base) :
 ∀n i F,IR.fns[i]?=some F->Fo P w K mg base CX0 (17*n) (fa i) (fd i) (D i).ps (spF nm ⟨IR.call n,IR.cls⟩ K F.np i)
 |0,i,F,hF=>⟨(λvs H Q E ⟨ι,M,ds,d',M',_,r,l,e,_⟩=>by cases e),λA outer s H args us vs Q E hr he hb hv ⟨ι,M,ds,d',M',_,r,l,e,_⟩=>by cases e⟩
 |n+1,i,F,hF=>a3g (U i (ak.mp hF).1) hF (h i F hF) (mk n (ai1 U h mk n))
noncomputable def a3h(s:Str):Bool:=s.cps[0]?==some 0
noncomputable def aqq(Qq:Yf):Bool:=decide Qq.Nodup&&Qq.all λs=>!a3h s
noncomputable def aev(Qq:Yf)(i:Nat):Str:=match Qq[i]? with|some s=>s|none=>⟨#[0,0,i]⟩
def aqr(h:aqq Qq=true)(i j:Nat)(e:aev Qq i=aev Qq j):i=j:=by
 simp only[aqq,aq,dm,iz] at h;have own:∀k,a3h ⟨#[0,0,k]⟩=true:=λk=>rfl
 unfold aev at e;cases hi:Qq[i]? with
 |some a =>
  rw[hi] at e;cases hj:Qq[j]? with
  |some b =>
   rw[hj] at e;have e:a=b:=e;subst e;obtain⟨l1,e1⟩:=ak.mp hi;obtain⟨l2,e2⟩:=ak.mp hj;exact(Ar h.1).mp (e1.trans e2.symm)
  |none =>
   rw[hj] at e;have e:a=⟨#[0,0,j]⟩:=e;have:=h.2 a (ao hi);rw[e,own] at this;cases this
 |none =>
  rw[hi] at e;cases hj:Qq[j]? with
  |some b =>
   rw[hj] at e;have e:(⟨#[0,0,i]⟩:Str)=b:=e;have:=h.2 b (ao hj);rw[<- e,own] at this;cases this
  |none =>
   rw[hj] at e;have e:(⟨#[0,0,i]⟩:Str)=⟨#[0,0,j]⟩:=e;simpa using e
noncomputable def a3i(cas:List (Option Addr))(Qq:Yf)(h:aqq Qq=true):Nm:=⟨λc=>(cas[c]?).join,aev Qq,aqr h⟩
noncomputable def aqs(Qq:Yf)(x:Str):Bool:=!(Qq.contains x)&&!a3h x
def aqt(h:aqs Qq x=true)(i:Nat):aev Qq i≠x:=λe=>by
 simp only[aqs,aq,Bool.not_eq_true'] at h;unfold aev at e;cases hi:Qq[i]? with
 |some a =>
  rw[hi] at e;have e:a=x:=e;rw[<- e] at h;have:=List.contains_iff_mem.mpr (ao hi);rw[this] at h;cases h.1
 |none =>
  rw[hi] at e;have e:(⟨#[0,0,i]⟩:Str)=x:=e;rw[<- e] at h;cases h.2
section
variable(K:Fg)(mg:Zs)
noncomputable def abp:List Def->List Stmt->List Addr->List FuncData->Prop
 |d::ds,s::ss,a::as,f::fs=>(Fun K d.x d.qual s a f/\Binds K f d.ps [])/\abp ds ss as fs|[],[],[],[]=>True|_,_,_,_=>False
noncomputable def Tt:List (Option (Str×Nat))->List Addr->Prop
 |some p::r,a::as=>mg p.1=some (.ref a)/\Tt r as|none::r,_::as=>Tt r as|_,_=>True
noncomputable def aew(C:Addr)(mts:List (Str×Nat))(Mq:X9):List (Nat×Nat)->Prop
 |q::r=>(∃p a,mts[q.1]?=some p/\Mq[q.2]?=some a/\Meth K C p.1 a)/\aew C mts Mq r|[]=>True
noncomputable def abq(C:Addr):List Str->Prop
 |x::r=>Gy K C x/\abq C r|[]=>True
structure ClF(T:Tab)(Mq:X9)(x:Str)(C:Addr)(cl:MW.Cl):Prop where
 mg:mg x=some (.ref C)
 cs:Cls K C
 ini:∃f,Mq[cl.init]?=some f/\Mk K C f
 me:aew K C T.mts Mq cl.meths
 na:abq K C T.Qq
noncomputable def Om(T:Tab)(Mq:X9):List (Option (Str×Nat))->List (Option Addr)->List MW.Cl->Prop
 |some p::r,some C::cs,cl::cls=>ClF K mg T Mq p.1 C cl/\Om T Mq r cs cls|none::r,none::cs,_::cls=>Om T Mq r cs cls|[],[],[]=>True|_,_,_=>False
noncomputable def abr:List (Str×Int)->Prop
 |p::r=>(∃t,mg p.1=some (.int p.2 t))/\abr r|[]=>True
noncomputable def AllB:List Str->Prop
 |x::r=>mg x=none/\AllB r|[]=>True
end
theorem abp.get{K:Fg}:∀{ds:List Def}{ss:List Stmt}{as:X9}{fs:List FuncData}{i:Nat}{d:Def},abp K ds ss as fs->ds[i]?=some d->∃s a f,ss[i]?=some s/\as[i]?=some a/\fs[i]?=some f/\Fun K d.x d.qual s a f/\Binds K f d.ps []
 |d::ds,s::ss,a::as,f::fs,0,d',h,e=>by cases e;exact⟨s,a,f,rfl,rfl,rfl,h.1⟩
 |d::ds,s::ss,a::as,f::fs,i+1,d',h,e=>by
  obtain⟨s',a',f',h1,h2,h3,h4⟩:=abp.get (i:=i) h.2 (by simpa using e);exact⟨s',a',f',by simpa using h1,by simpa using h2,by simpa using h3,h4⟩
theorem Tt.get{mg:Zs}:∀{l:List (Option (Str×Nat))}{as:X9}{i:Nat}{p:Str×Nat}{a:Addr},Tt mg l as->l[i]?=some (some p)->as[i]?=some a->mg p.1=some (.ref a)
 |some q::l,b::as,0,p,a,h,e,e2=>by cases e;cases e2;exact h.1|none::l,b::as,0,p,a,h,e,e2=>by cases e|some q::l,b::as,i+1,p,a,h,e,e2=>Tt.get (i:=i) h.2 (by simpa using e) (by simpa using e2)|none::l,b::as,i+1,p,a,h,e,e2=>Tt.get (i:=i) (l:=l) (as:=as) h (by simpa using e) (by simpa using e2)
theorem aew.get{K:Fg}{C:Addr}{mts:List (Str×Nat)}{Mq:X9}:∀{l:List (Nat×Nat)}{q:Nat×Nat},aew K C mts Mq l->q∈l->∃p a,mts[q.1]?=some p/\Mq[q.2]?=some a/\Meth K C p.1 a
 |q'::l,q,h,m=>by
  rcases bz.mp m with z|z
  . rw[z];exact h.1
  . exact aew.get h.2 z
theorem abq.get{K:Fg}{C:Addr}:∀{l:Yf}{x:Str},abq K C l->x∈l->Gy K C x
 |y::l,x,h,m=>by
  rcases bz.mp m with z|z
  . rw[z];exact h.1
  . exact abq.get h.2 z
theorem Om.get{K:Fg}{mg:Zs}{T:Tab}{Mq:X9}:∀{l:List (Option (Str×Nat))}{cs:List (Option Addr)}{cls:List MW.Cl}{c:Nat}{p:Str×Nat},Om K mg T Mq l cs cls->l[c]?=some (some p)->∃C cl,cs[c]?=some (some C)/\cls[c]?=some cl/\ClF K mg T Mq p.1 C cl
 |some q::l,some C::cs,cl::cls,0,p,h,e=>by cases e;exact⟨C,cl,rfl,rfl,h.1⟩
 |some q::l,some C::cs,cl::cls,c+1,p,h,e=>by
  obtain⟨C',cl',h1,h2,h3⟩:=Om.get (c:=c) h.2 (by simpa using e);exact⟨C',cl',by simpa using h1,by simpa using h2,h3⟩
 |none::l,none::cs,cl::cls,0,p,h,e=>by cases e
 |none::l,none::cs,cl::cls,c+1,p,h,e=>by
  obtain⟨C',cl',h1,h2,h3⟩:=Om.get (l:=l) (cs:=cs) (cls:=cls) (c:=c) h (by simpa using e);exact⟨C',cl',by simpa using h1,by simpa using h2,h3⟩
theorem Om.at{K:Fg}{mg:Zs}{T:Tab}{Mq:X9}:∀{l:List (Option (Str×Nat))}{cs:List (Option Addr)}{cls:List MW.Cl}{c:Nat}{C:Addr},Om K mg T Mq l cs cls->cs[c]?=some (some C)->Cls K C/\abq K C T.Qq
 |some q::l,some C::cs,cl::cls,0,p,h,e=>by cases e;exact⟨h.1.cs,h.1.na⟩|some q::l,some C::cs,cl::cls,c+1,p,h,e=>Om.at (c:=c) h.2 (by simpa using e)|none::l,none::cs,cl::cls,0,p,h,e=>by cases e|[],[],_,_,_,_,e=>by simp at e|[],_::_,[],_,_,h,_=>h.elim|[],_::_,_::_,_,_,h,_=>h.elim|none::l,none::cs,cl::cls,c+1,p,h,e=>Om.at (l:=l) (cs:=cs) (cls:=cls) (c:=c) h (by simpa using e)
theorem abr.get{mg:Zs}:∀{l:List (Str×Int)}{x:Str}{i:Int},abr mg l->(x,i)∈l->∃t,mg x=some (.int i t)
 |q::l,x,i,h,m=>by
  rcases bz.mp m with z|z
  . rw[<- z] at h;exact h.1
  . exact abr.get h.2 z
theorem AllB.get{mg:Zs}:∀{l:Yf}{x:Str},AllB mg l->x∈l->mg x=none
 |q::l,x,h,m=>by
  rcases bz.mp m with z|z
  . rw[z];exact h.1
  . exact AllB.get h.2 z
noncomputable def awq(T:Tab):List MW.Fn->List Def->List Stmt->Bool
 |F::Fs,d::ds,s::ss=>ale T d F s&&awq T Fs ds ss|[],[],[]=>true|_,_,_=>false
noncomputable def npB(fns:List MW.Fn)(f n:Nat):Bool:=match fns[f]? with|some F=>F.np==n|none=>false
noncomputable def tfB(fns:List MW.Fn)(l:List (Option (Str×Nat))):Bool:=l.zipIdx.all λq=>match q.1 with|some p=>npB fns q.2 p.2|none=>true
noncomputable def tcB(IR:MW.Prog)(l:List (Option (Str×Nat))):Bool:=l.zipIdx.all λq=>match q.1 with|some p=>(match IR.cls[q.2]? with|some cl=>npB IR.fns cl.init (p.2+1)|none=>false)|none=>true
noncomputable def bft(cls:List MW.Cl)(m c f:Nat):Bool:=cls.zipIdx.all λq=>match q.1.meths.lookup m with|none=>true|some g=>q.2==c&&g==f
noncomputable def tmB(IR:MW.Prog)(T:Tab)(mcs:List (Nat×Nat)):Bool:=T.mts.zipIdx.all λq=>match mcs[q.2]? with
 |some cf=>(bft IR.cls q.2 cf.1 cf.2&&(npB IR.fns cf.2 (q.1.2+1)&&aqs T.Qq q.1.1))&&((match T.cls[cf.1]? with|some (some _)=>true|_=>false)&&(match IR.cls[cf.1]? with|some cl=>cl.meths.lookup q.2==some cf.2|none=>false))
 |none=>false
def Lh{α:Type}{l:List α}{g:α×Nat->Bool}(h:l.zipIdx.all g=true){x:α}(e:l[i]?=some x):g (x,i)=true:=by rw[iz] at h;exact h (x,i) (by rw[v9];exact⟨i,by rw[ym,e];simp⟩)
set_option tactic.hygienic true in
def agu(h:npB fns f n=true):∃F,fns[f]?=some F/\F.np=n:=by
 unfold npB at h;split at h
 . rename_i F e;exact⟨F,e,eq_of_beq h⟩
 . cases h
theorem W9{T:Tab}:∀{Fs:List MW.Fn}{ds:List Def}{ss:List Stmt}{i:Nat}{F:MW.Fn},awq T Fs ds ss=true->Fs[i]?=some F->∃d s,ds[i]?=some d/\ss[i]?=some s/\ale T d F s=true
 |F::Fs,d::ds,s::ss,0,F',h,e=>by
  replace h:=Bool.and_eq_true_iff.mp h;cases e;exact⟨d,s,rfl,rfl,h.1⟩
 |F::Fs,d::ds,s::ss,i+1,F',h,e=>by
  replace h:=Bool.and_eq_true_iff.mp h;obtain⟨d',s',h1,h2,h3⟩:=W9 (i:=i) h.2 (by simpa using e);exact⟨d',s',by simpa using h1,by simpa using h2,h3⟩
 |[],_,_,_,_,_,e=>by simp at e|_::_,[],_,_,_,h,_=>by cases h|_::_,_::_,[],_,_,h,_=>by cases h
set_option tactic.hygienic true in
def a3j(hfl:aqq T.Qq=true)(hP:awq T IR.fns Ds ss=true)(h1:tfB IR.fns T.fns=true)(h2:tcB IR T.cls=true)(h3:tmB IR T mcs=true)(aF:abp K Ds ss Mq fds)(aG:Tt mg T.fns Mq)(aC:Om K mg T Mq T.cls cas IR.cls)(aV:abr mg T.av8)(aB:AllB mg Ol)(hF:IR.fns[i]?=some F) :
 ∃d a f,Ds[i]?=some d/\Mq[i]?=some a/\fds[i]?=some f/\Binds K f d.ps []/\Fo P w K mg base CX0 (17*n) a f d.ps (spF (a3i cas T.Qq hfl) ⟨IR.call n,IR.cls⟩ K F.np i):=by
 let dd:Def:=⟨Str.empty,Str.empty,[],[]⟩
 let sd:Stmt:=.Pass ⟨0,0,0,0⟩
 obtain⟨d,s,g1,g2,g3⟩:=W9 hP hF;have all:∀(i:Nat)(F:MW.Fn),IR.fns[i]?=some F->∃d s a f,Ds[i]?=some d/\ss[i]?=some s/\Mq[i]?=some a/\fds[i]?=some f/\Fun K d.x d.qual s a f/\Binds K f d.ps []/\ale T d F s=true:=λi F e=>by
  refine hG λ_ _k=>?_
  obtain⟨d,s,g1,g2,g3⟩:=W9 hP e;obtain⟨s',a,f,k1,k2,k3,k4,k5⟩:=aF.get g1;rw[g2] at k1;cases k1;apply _k;exact⟨d,s,a,f,g1,g2,k2,k3,k4,k5,g3⟩
 have df:∀{j:Nat}{a:Addr}{f:FuncData}{d:Def},Mq[j]?=some a->fds[j]?=some f->Ds[j]?=some d->(Mq[j]?).getD 0=a/\Ds[j]?.getD dd=d:=λe1 e2 e3=>⟨by rw[e1];rfl,by rw[e3];rfl⟩
 obtain⟨fd0,bma⟩:∃fd0:FuncData,True:=by obtain⟨s',a,f,_⟩:=aF.get g1;exact⟨f,trivial⟩
 have main:=ai1 (nm:=a3i cas T.Qq hfl) (P:=P) (w:=w) (K:=K) (mg:=mg) (base:=base) (IR:=IR) (T:=T) (D:=λi=>Ds[i]?.getD dd) (st:=λi=>ss[i]?.getD sd) (fa:=λi=>(Mq[i]?).getD 0) (fd:=λi=>(fds[i]?).getD fd0)
  (λi hi=>by
   refine hG λ_ _k=>?_
   obtain⟨d,s,a,f,k1,k2,k3,k4,k5,k6,k7⟩:=all i IR.fns[i] (by simp[hi]);apply _k;rw[k1,k2,k3,k4];exact k5)
  (λi F e=>by
   refine hG λ_ _k=>?_
   obtain⟨d,s,a,f,k1,k2,k3,k4,k5,k6,k7⟩:=all i F e;apply _k;rw[k1,k2];exact k7)
  (λn G=>?_) n i F hF
 . refine hG λ_ _k=>?_
   obtain⟨d',s',a,f,k1,k2,k3,k4,k5,k6,k7⟩:=all i F hF;apply _k;refine⟨d',a,f,k1,k3,k4,k6,?_⟩;have:=main;rw[k1,k3,k4] at this;exact this
 ·
  have at_:∀{j:Nat}{F:MW.Fn}{a:Addr},IR.fns[j]?=some F->Mq[j]?=some a->∃(f:FuncData)(d:Def),Binds K f d.ps []/\Fo P w K mg base CX0 (17*n) a f d.ps (spF (a3i cas T.Qq hfl) ⟨IR.call n,IR.cls⟩ K F.np j)/\PySem.W.keepIn K (.ref a)=true:=fun{j F a} e1 e2=>by
   refine hG λ_ _k=>?_
   obtain⟨d,s,a',f,k1,k2,k3,k4,k5,k6,k7⟩:=all j F e1;rw[e2] at k3;cases k3;have g:=G j F e1;rw[k1,e2,k4] at g;apply _k;exact⟨f,d,k6,g,k5.kp⟩
  have addr:∀{j:Nat}{F:MW.Fn},IR.fns[j]?=some F->∃a,Mq[j]?=some a:=fun{j F} e=>by
   refine hG λ_ _k=>?_
   obtain⟨d,s,a',f,k1,k2,k3,_⟩:=all j F e;apply _k;exact⟨a',k3⟩
  refine⟨λf x m e=>?_,λc x m e=>?_,λm x j e=>?_,λf x e=>?_,λx i m=>aV.get m,λx m=>aB.get m⟩
  . refine hG λ_ _k=>?_
    obtain⟨F,e1,e2⟩:=agu (Lh h1 e);obtain⟨a,e3⟩:=addr e1;obtain⟨fd,d,b,g,kp⟩:=at_ e1 e3;rw[e2] at g;apply _k;exact⟨a,fd,d.ps,g,aG.get e e3,kp,b⟩
  . refine hG λ_ _k=>?_
    obtain⟨C,cl,q1,q2,q3⟩:=aC.get e;have z:=Lh h2 e;simp only[q2] at z;obtain⟨F,e1,e2⟩:=agu z;obtain⟨f,f1,f2⟩:=q3.ini;obtain⟨fd,d,b,g,kp⟩:=at_ e1 f1;rw[e2] at g;apply _k;exact⟨C,f,fd,d.ps,cl,f2,g,q3.mg,b,q2,by show(cas[c]?).join=some C;rw[q1];rfl⟩
  . have z:=Lh h3 e
    simp only at z;split at z
    . rename_i cf hcf
      simp only[aq] at z;refine hG λ_ _k=>?_
      obtain⟨⟨z1,z2,z3⟩,z4,z5⟩:=z;obtain⟨F,e1,e2⟩:=agu z2;apply _k;split at z4
      . rename_i p hp
        refine hG λ_ _k=>?_
        obtain⟨C,cl,q1,q2,q3⟩:=aC.get hp;rw[q2] at z5;simp only at z5;have mem:(m,cf.2)∈cl.meths:=mem_of_lookup (eq_of_beq z5);obtain⟨p',a,r1,r2,r3⟩:=q3.me.get mem;rw[e] at r1;cases r1;obtain⟨fd,d,b,g,kp⟩:=at_ e1 r2;rw[e2] at g;apply _k;refine⟨C,a,fd,d.ps,cf.2,q3.cs,r3,g,b,λc' cl' hc' g' Yv=>?_,aqt z3⟩;have y:=Lh z1 hc';simp only[Yv,aq] at y;have y1:c'=cf.1:=eq_of_beq y.1;exact⟨by show(cas[c']?).join=some C;rw[y1,q1];rfl,eq_of_beq y.2⟩
      . cases z4
    . cases z
  . refine⟨by show x=aev T.Qq f;unfold aev;rw[e],λc C hC=>?_⟩
    have hC:(cas[c]?).join=some C:=hC;have hC2:cas[c]?=some (some C):=by
     cases q:cas[c]? with
     |none=>rw[q] at hC;cases hC
     |some o=>rw[q] at hC;cases o with
      |none=>cases hC|some C'=>cases hC;rfl
    obtain⟨y1,y2⟩:=aC.at hC2;exact⟨y1,y2.get (ao e)⟩
def fN:abp K [] [] [] []:=trivial
def gN:Tt mg [] as:=trivial
def gS(h:mg p.1=some (.ref a))(t:Tt mg r as):Tt mg (some p::r) (a::as):=⟨h,t⟩
def gO(t:Tt mg r as):Tt mg (none::r) (a::as):=t
def mN:aew K C mts Mq []:=trivial
def mC(h1:mts[q.1]?=some p)(h2:Mq[q.2]?=some a)(m:Meth K C p.1 a)(t:aew K C mts Mq r):aew K C mts Mq (q::r):=⟨⟨p,a,h1,h2,m⟩,t⟩
def nN:abq K C []:=trivial
def nC(h:Gy K C x)(t:abq K C r):abq K C (x::r):=⟨h,t⟩
def cN:Om K mg T Mq [] [] []:=trivial
def cO(t:Om K mg T Mq r cs cls):Om K mg T Mq (none::r) (none::cs) (cl::cls):=t
def cS(h:ClF K mg T Mq p.1 C cl)(t:Om K mg T Mq r cs cls):Om K mg T Mq (some p::r) (some C::cs) (cl::cls):=⟨h,t⟩
def vN:abr mg []:=trivial
def vC(h:mg p.1=some (.int p.2 t))(q:abr mg r):abr mg (p::r):=⟨⟨t,h⟩,q⟩
def bN:AllB mg []:=trivial
def bC(h:mg x=none)(q:AllB mg r):AllB mg (x::r):=⟨h,q⟩
noncomputable abbrev Lk(K:Fg)(f:Addr)(x q:Str)(st:Stmt)(oc:Value)(od:Option Addr)(kV dc pm:Value)(an:Option Addr)(cd ct:Value)(sl:Array (Option Value)):Prop :=
 K.lookup f=some ⟨oc,od,.func (PySem.W.fnOf x q (Jj st) (Ge st) (Bk st) .none kV dc pm an cd ct),sl⟩/\PySem.W.codeIn K cd q=true/\PySem.W.keepIn K (.ref f)=true
def bfv{α:Type}{us:List α}(h:us.length=1):∃a,us=[a]:=match us,h with|[a],_=>⟨a,rfl⟩
def bfw{α:Type}{us:List α}(h:us.length=2):∃a b,us=[a,b]:=match us,h with|[a,b],_=>⟨a,b,rfl⟩
def bfx{α:Type}{us:List α}(h:us.length=3):∃a b c,us=[a,b,c]:=match us,h with|[a,b,c],_=>⟨a,b,c,rfl⟩
def bfy{α:Type}{us:List α}(h:us.length=4):∃a b c d,us=[a,b,c,d]:=match us,h with|[a,b,c,d],_=>⟨a,b,c,d,rfl⟩
def bfz{α:Type}{us:List α}(h:us.length=5):∃a b c d e,us=[a,b,c,d,e]:=match us,h with|[a,b,c,d,e],_=>⟨a,b,c,d,e,rfl⟩
def bf0{α:Type}{us:List α}(h:us.length=6):∃a b c d e f,us=[a,b,c,d,e,f]:=match us,h with|[a,b,c,d,e,f],_=>⟨a,b,c,d,e,f,rfl⟩
def bf1{α:Type}{us:List α}(h:us.length=7):∃a b c d e f g,us=[a,b,c,d,e,f,g]:=match us,h with|[a,b,c,d,e,f,g],_=>⟨a,b,c,d,e,f,g,rfl⟩
def fE{kV:Value}(l:Lk K a d.x d.qual s oc od kV dc pm an cd ct sl)(r:abp K ds ss as fs)
 (b:∀(kV doc pm:Value)(an:Option Addr)(cdv ct:Value)(us:Zl),us.length=d.ps.length->bindArgs (PySem.W.fnOf d.x d.qual (Jj s) (Ge s) (Bk s) .none kV doc pm an cdv ct) ⟨us,[]⟩=pure (d.ps.zip us):=by intro _ _ _ _ _ _ us hl;first|(obtain⟨_,rfl⟩:=Ck.bfv hl;rfl)|(obtain⟨_,_,rfl⟩:=Ck.bfw hl;rfl)|(obtain⟨_,_,_,rfl⟩:=Ck.bfx hl;rfl)|(obtain⟨_,_,_,_,rfl⟩:=Ck.bfy hl;rfl)|(obtain⟨_,_,_,_,_,rfl⟩:=Ck.bfz hl;rfl)|(obtain⟨_,_,_,_,_,_,rfl⟩:=Ck.bf0 hl;rfl)|(obtain⟨_,_,_,_,_,_,_,rfl⟩:=Ck.bf1 hl;rfl)) :
 abp K (d::ds) (s::ss) (a::as) (PySem.W.fnOf d.x d.qual (Jj s) (Ge s) (Bk s) .none kV dc pm an cd ct::fs):=⟨⟨apb l.1 l.2.1 l.2.2,(apb l.1 l.2.1 l.2.2).binds b⟩,r⟩
noncomputable def ai2(K:Fg):Sp:=λvs H Q _=>∃(a:Addr)(ns:Xs),vs=[.ref a]/\Only H/\Ia K H a (ns.map V.int)/\ns.length<=63/\∀H',Q (.bl true) H'
def awr(o:Only H)(h:Ia K H a vs):aa7 K H a vs:=by
 rcases h with(h|h)|h
 . rcases o a with z|⟨ob,xs,z⟩<;>rw[z] at h<;>cases h
 . exact .inl h
 . exact .inr h
def aws(run:∀(ns:Xs),ns.length<=63->∃M',W.call i [.fz (ns.map MW.D.int)] []=.ok (.bl true) M')(h:ai2 K vs H Q E):spF nm W K 1 i vs H Q E:=by obtain⟨a,ns,rfl,o,hS,hl,k⟩:=h;obtain⟨M',e⟩:=run ns hl;refine⟨⟨[],[]⟩,[],_,_,M',⟨rfl,yc,by simp,λn o a h=>by simp at h⟩,.cons (.fz (awr o hS) (m6.ints ns)) .nil,rfl,e,fun ι' H' v le S' r=>?_⟩;cases r;exact k H'
def walk{l:PySem.W.OpenLaw}{K:Params->Fg}(hn:l.most=some 63)(hdf:d.params.defaults=[])(hY:∀(w:World) (h:Heap),YP w h->(K w.params).In h)(F:∀(w:World) (mg:Zs) (fa:Addr) (h:Heap),(K w.params).In h->h.Ns mainGlobals mg->mg d.name=some (.ref fa) ->
 ∃fd:FuncData,(∀(s:Shared) (u:Value),BindsTo s fd ⟨[u],[]⟩ [("script",u)])/\∀base:Heap,(K w.params).In base->base.Ns mainGlobals mg->Fo l.prog w (K w.params) mg base CX0 170 fa fd ["script"] (ai2 (K w.params))) :
 PySem.W.WalkO q loose XP YP l.row.toRowW d [] (λf vs=>PySem.call f vs) :=
 L2.au3 (n:=63) (k:=170) (x := "script") (CX:=λ_=>CX0) (sp:=λw=>ai2 (K w.params)) hn (by decide) hdf ⟨rfl,by decide,by decide⟩ hY F (λ_ _ a ns hl ho hS=>⟨a,ns,rfl,ho,hS,hl,λ_=>rfl⟩) λ_ _ _ _ _ z=>z
end Ck
namespace K12
open PySem L2
noncomputable def top(i:Nat):Stmt:=PySem.Challenge.pw_mapwright_k12_maps_one_behind_another.main.body.getD i (.Pass ⟨0,0,0,0⟩)
noncomputable def sts:List Stmt:=[inClass (top 7) 0,inClass (top 7) 1,inClass (top 7) 2,inClass (top 7) 3,inClass (top 7) 4,inClass (top 7) 5,top 8,top 9,top 10,top 11,top 12,top 13,top 23,top 24,top 25,top 26,top 27,top 28,top 29,top 30,top 31,top 15,top 17,top 18,top 19,top 20,top 21,top 32,top 33,top 34,top 35,top 36,top 37,top 38,top 39,top 40]
noncomputable def Ds:List Ck.Def:=[⟨"__init__", "Pattern.__init__",["self", "kinds", "doings", "table"],["self", "kinds", "doings", "table"]⟩,⟨"kinds", "Pattern.kinds",["self"],["self"]⟩,⟨"doings", "Pattern.doings",["self"],["self"]⟩,⟨"behind", "Pattern.behind",["self", "one", "other"],["self", "one", "other"]⟩,⟨"ways", "Pattern.ways",["self", "kind"],["self", "kind"]⟩,⟨"end", "Pattern.end",["self", "kind", "way"],["self", "kind", "way"]⟩,⟨"both_ways", "both_ways",["table", "one", "other"],["table", "one", "other"]⟩,⟨"meeting_pairs", "meeting_pairs",["doings", "pairs", "one", "ends", "other", "more"],["doings"]⟩,⟨"is_way_between", "is_way_between",["doings", "way", "start", "goal"],["doings", "way", "start", "goal"]⟩,⟨"check_doings", "check_doings",["kinds", "doings", "ends"],["kinds", "doings"]⟩,⟨"check_table", "check_table",["doings", "table", "pairs", "one", "other"],["doings", "table"]⟩,⟨"check_threes", "check_threes",["doings", "table", "pairs", "one", "other", "last", "ahead", "after"],["doings", "table"]⟩,⟨"_law_cell_at", "_law_cell_at",["script", "k"],["script", "k"]⟩,⟨"_law_state", "_law_state",["script", "k", "cell"],["script", "k"]⟩,⟨"_law_take", "_law_take",["state", "many", "found", "mixed"],["state", "many"]⟩,⟨"_law_begun", "_law_begun",["state", "way", "graph", "loops", "swap", "known", "kinds", "sizes", "found", "k", "one", "other"],["state"]⟩,⟨"_law_closed", "_law_closed",["begun", "found", "one", "other", "row", "k", "j", "first", "second", "more"],["begun"]⟩,⟨"_law_pattern", "_law_pattern",["state", "begun", "closed", "kinds", "table", "j", "k", "more"],["state"]⟩,⟨"_law_ways", "_law_ways",["pat", "kind"],["pat", "kind"]⟩,⟨"_law_end", "_law_end",["pat", "kind", "way"],["pat", "kind", "way"]⟩,⟨"_law_behind", "_law_behind",["pat", "one", "other"],["pat", "one", "other"]⟩,⟨"led", "led",["world", "thing", "way"],["world", "thing", "way"]⟩,⟨"is_map", "is_map",["pattern", "one", "other", "some"],["pattern", "one", "other", "some"]⟩,⟨"has_rows", "has_rows",["one", "other", "some", "row", "size", "goals"],["one", "other", "some"]⟩,⟨"first_lack", "first_lack",["pattern", "one", "other", "some", "doing", "ends", "here", "there", "thing", "goal"],["pattern", "one", "other", "some"]⟩,⟨"staying", "staying",["world"],["world"]⟩,⟨"then", "then",["some", "more"],["some", "more"]⟩,⟨"_law_merged", "_law_merged",["pat", "marks", "acts", "changed", "k", "one", "other", "first", "thing", "mark", "end", "low", "high"],["pat", "marks", "acts"]⟩,⟨"_law_world", "_law_world",["state", "pat", "most", "rows", "number", "kind", "some", "end", "way", "acts", "k", "one", "other", "marks", "low", "high", "heads", "told", "row"],["state", "pat", "most"]⟩,⟨"_law_led", "_law_led",["world", "thing", "way"],["world", "thing", "way"]⟩,⟨"_law_known", "_law_known",["pat", "one", "other", "known", "kind", "thing", "end", "more", "way", "far", "here", "there"],["pat", "one", "other", "known", "kind", "thing", "end"]⟩,⟨"_law_some_map", "_law_some_map",["state", "pat", "one", "other", "known", "kind", "thing", "more", "turn", "k"],["state", "pat", "one", "other"]⟩,⟨"_law_tuples", "_law_tuples",["found"],["found"]⟩,⟨"_law_both", "_law_both",["some", "more"],["some", "more"]⟩,⟨"_law_right", "_law_right",["pattern", "one", "other", "some", "more", "found"],["pattern", "one", "other", "some", "more"]⟩,⟨"law", "law",["script", "state", "pat", "pattern", "worlds", "world", "kept", "k", "some", "left"],["script"]⟩]
noncomputable def tab:Ck.Tab:=⟨[none,none,none,none,none,none,(some ("both_ways",3):Y2),(some ("meeting_pairs",1):Y2),(some ("is_way_between",4):Y2),(some ("check_doings",2):Y2),(some ("check_table",2):Y2),(some ("check_threes",2):Y2),(some ("_law_cell_at",2):Y2),(some ("_law_state",2):Y2),(some ("_law_take",2):Y2),(some ("_law_begun",1):Y2),(some ("_law_closed",1):Y2),(some ("_law_pattern",1):Y2),(some ("_law_ways",2):Y2),(some ("_law_end",3):Y2),(some ("_law_behind",3):Y2),(some ("led",3):Y2),(some ("is_map",4):Y2),(some ("has_rows",3):Y2),(some ("first_lack",4):Y2),(some ("staying",1):Y2),(some ("then",2):Y2),(some ("_law_merged",3):Y2),(some ("_law_world",3):Y2),(some ("_law_led",3):Y2),(some ("_law_known",7):Y2),(some ("_law_some_map",4):Y2),(some ("_law_tuples",1):Y2),(some ("_law_both",2):Y2),(some ("_law_right",5):Y2),(some ("law",1):Y2)],[none,none,some ("Pattern",3)],[("kinds",0),("doings",0),("behind",2),("ways",1),("end",2)],["together", "doing_ends", "kind_count"],[("STAYING",-1),("MOST_KINDS",3),("MOST_DOINGS",5)]⟩
noncomputable def mcs:List (Nat×Nat):=[(2,1),(2,2),(2,3),(2,4),(2,5)]
def chk:Ck.awq tab prog.fns Ds sts=true:=by decide+kernel
def bf2:Ck.aqq tab.Qq=true:=by decide+kernel
def bf3:Ck.tfB prog.fns tab.fns=true:=by decide+kernel
def bf4:Ck.tcB prog tab.cls=true:=by decide+kernel
def bf5:Ck.tmB prog tab mcs=true:=by decide+kernel
open MW
noncomputable def Li(hs:List F)(k i:Nat):Bool:=match hs[i]? with|some f=>decide (f.a=k)|none=>false
noncomputable def u0(hs:List F)(k:Nat):List D:=.int (-1)::((List.range hs.length).filter (Li hs k)).map nD
def Ii(h:d∈u0 hs k):d=.int (-1)\/∃(i:Nat)(f:F),d=.int i/\hs[i]?=some f/\f.a=k:=by
 rcases bz.mp h with q|q
 . exact .inl q
 . obtain⟨i,hi,rfl⟩:=bf.mp q
   obtain⟨h1,h2⟩:=w5.mp hi;have hil:=je.mp h1;have e:hs[i]?=some hs[i]:=by simp[hil]
   rw[Li,e] at h2;exact .inr ⟨i,hs[i],rfl,e,by simpa using h2⟩
def aex(h:d∈u0 hs k):∃i:Int,d=.int i:=by rcases Ii h with rfl|⟨i,f,rfl,_⟩<;>exact⟨_,rfl⟩
def Xa(hl:hs.length<=5):(u0 hs k).length<=6:=by have:=Ad (Li hs k) (List.range hs.length);simp at this;simp[u0];exact a_ this hl
noncomputable def qi(K r:Nat)(hs:List F):D:=.tup [.int K,Hz hs,.ref r]
def Qa(K r:Nat)(hs:List F)(M:dh):yu (qi K r hs) (.int 0) M=some (.int K):=rfl
def Oo(K r:Nat)(hs:List F)(M:dh):yu (qi K r hs) (.int 1) M=some (Hz hs):=rfl
def ayl(K r:Nat)(hs:List F)(M:dh):yu (qi K r hs) (.int 2) M=some (.ref r):=rfl
def Made.keep(h:Made n r K hs ie M)(k:Bo M M'):Made n r K hs ie M':=⟨k _ _ h.1,k _ _ h.2⟩
def Made.f2(h:Made n r K hs ie M):Qy (.ref n) 2 M=some (.int K):=by simp[Qy,h.1,List.lookup]
def Made.f1(h:Made n r K hs ie M):Qy (.ref n) 1 M=some (Hz hs):=by simp[Qy,h.1,List.lookup]
def Made.f0(h:Made n r K hs ie M):Qy (.ref n) 0 M=some (.ref r):=by simp[Qy,h.1,List.lookup]
def alf(hm:1<=m)(h:Made n r K hs ie M):prog.call m 2 [.ref n] M=.ok (Hz hs) M:=by rw[call_of hm rfl];simp[Fn.run,J7,J6,h.f1]
def aey(hm:1<=m)(hl:hs.length<=5){k:Nat}:prog.call m 18 [qi K r hs,.int k] M=.ok (.vl (u0 hs k)) M:=by
 rw[call_of hm rfl];have hc:Jr.den ⟨prog.call (m-1),prog.cls⟩ [some (qi K r hs),some (.int k)] M=.ok (.vl (((List.range hs.length).filter (Li hs k)).map nD)) M:=by
  unfold Jr;rw[V0 (n:=hs.length) (M1:=M) (q:=Li hs k) (g:=nD) (by simp[Oo,Qo]) (a_ hl (by decide)) (λi hi=>by
   have e:hs[i]?=some hs[i]:=by simp[hi]
   refine⟨_,rfl,?_,λ_=>?_⟩
   . simp[-eq_int,Oo,Ud e,Yy,Bs,Li,hi]
   . simp[nD])]
  simp
 have:=Yr (M:=M) [.int (-1)] (((List.range hs.length).filter (Li hs k)).map nD) (by
  have:=Ad (Li hs k) (List.range hs.length);simp at this ⊢
  lia)
 simp[Fn.run,T7,T6,hc,this,u0]
def awt(hm:1<=m){k i:Nat}(hf:hs[i]?=some f):prog.call m 19 [qi K r hs,.int k,.int i] M=.ok (.int f.b) M:=by
 rw[call_of hm rfl];have ni:¬((i:Int)<0):=by lia
 simp[Fn.run,Qk,Qj,ni,Oo,Ud hf,Yz]
def alg(hm:1<=m){k:Nat}:prog.call m 19 [qi K r hs,.int k,.int (-1)] M=.ok (.int k) M:=by rw[call_of hm rfl];simp[Fn.run,Qk,Qj]
def agv(hm:1<=m)(hr:M[r']?=some (.dT ie))(hx:-1<=x)(hy:-1<=y)(hv:bothW hs ie x y=some v):prog.call m 20 [qi K r' hs,.int x,.int y] M=.ok v M:=by
 rw[call_of hm rfl];unfold bothW at hv
 by_cases ex:x=-1
 . rw[cz ex] at hv;cases hv
   subst ex;have:(-1:Int)+y+1=y:=by lia
   simp[Fn.run,Gb,Ga,this]
 . rw[bw ex] at hv
   have nx:¬x<0:=by lia
   by_cases ey:y=-1
   . rw[cz ey] at hv;cases hv
     subst ey;have:x+(-1:Int)+1=x:=by lia
     simp[Fn.run,Gb,Ga,nx,this]
   . rw[bw ey] at hv
     have ny:¬y<0:=by lia
     simp[Fn.run,Gb,Ga,nx,ny,ayl,acn hr (Ys x y),hv]
def awu(ho:o.den W ρ M=.ok (.ref n) M)(he:es.den W ρ M=.ok ds M)(hn:M[n]?=some (.ins c fs))(hm:(W.cls[c]?).bind (λC=>C.meths.lookup mm)=some fi) :
 (Ex.meth o mm es).den W ρ M=W.call fi (.ref n::ds) M:=by
 rw[Q3,ho,Res.Bl,he,Res.Bl];simp only[hn,hm]
end K12
namespace MW
end MW
namespace K12
open MW
noncomputable def Bc(hs:List F)(k:Nat):D->Nat
 |.int i=>if i=-1 then k else match hs[i.toNat]? with|some f=>f.b|none=>0
 |_=>0
noncomputable def wT(hs:List F)(k g:Nat):List D:=(u0 hs k).filter λd=>decide (Bc hs k d=g)
def agw(h:d∈wT hs k g):d∈u0 hs k/\Bc hs k d=g:=by have:=w5.mp h;exact⟨this.1,by simpa using this.2⟩
def Gf{i:Nat}(h:hs[i]?=some f):Bc hs k (.int i)=f.b:=by
 have:¬((i:Int)=-1):=by lia
 simp[Bc,this,h]
def abt{i:Nat}(h:hs[i]?=some f)(e:f.a=k):.int i∈u0 hs k:=by refine bc _ (bf.mpr ⟨i,w5.mpr ⟨je.mpr (ak.mp h).1,?_⟩,rfl⟩);simp[Li,h,e]
def aym{i:Nat}(h:hs[i]?=some f)(e:f.a=k):.int i∈wT hs k f.b :=
 w5.mpr ⟨abt h e,by simp[Gf h]⟩
def a3k(h:d∈wT hs k g):∃i:Int,d=.int i:=aex (agw h).1
noncomputable def bv(hs:List F)(ie:List (List Kx×D))(j:Nat):D->Int
 |.int x=>match bothW hs ie x j with|some (.int v)=>v|_=>0
 |_=>0
def awv(P:Kf sz K hs ie){j:Nat}(hj:hs[j]?=some f)(hd:d∈wT hs k f.a) :
 ∃x:Int,d=.int x/\-1<=x/\bothW hs ie x j=some (.int (bv hs ie j d))/\.int (bv hs ie j d)∈wT hs k f.b:=by
 obtain⟨h1,h2⟩:=agw hd;have nj:¬((j:Int)=-1):=by lia
 rcases Ii h1 with rfl|⟨i,g,rfl,hg,e⟩
 . have e:k=f.a:=by simpa[Bc] using h2
   have:bothW hs ie (-1) j=some (.int j):=by simp[bothW]
   refine⟨-1,rfl,by lia,by simp[bv,this],?_⟩;simp only[bv,this];exact aym hj e.symm
 . rw[Gf hg] at h2
   have ni:¬((i:Int)=-1):=by lia
   have:bothW hs ie i j=some (.int (ent hs g f)):=by rw[bothW,bw ni,bw nj];exact P.look hg hj h2
   refine⟨i,rfl,by lia,by simp[bv,this],?_⟩;simp only[bv,this];have mg:=ao hg;have mf:=ao hj;rw[Ju];rcases P.Cy (P.cl g mg f mf h2) with⟨x1,i1⟩|⟨u,hu,x1⟩
   . rw[x1]
     refine w5.mpr ⟨by simp[u0],?_⟩;have:g.a=f.b:=i1.1;simp[Bc,<- e,this]
   . rw[x1]
     exact aym (f:=g.comp f) hu e
noncomputable def ixI(v:Int)(ds:List D):Nat:=(ds.findIdx? λd=>match d with|.int i=>decide (i=v)|_=>false).getD 0
theorem aez(M:dh)(v:Int):∀ds:List D,(∀d∈ds,∃i:Int,d=.int i)->Qg M (.int v) ds=some (ds.map λd=>match d with|.int i=>decide (i=v)|_=>false)
 |[],_=>rfl
 |d::l,h=>by
  obtain⟨i,rfl⟩:=h d (by simp);simp[Qg,aez M v l (λx hx=>h x (bc _ hx))]
theorem ae0{α:Type}(f:α->Bool):∀l:List α,(l.map f).findIdx? id=l.findIdx? f
 |[]=>rfl|a::l=>by simp[List.findIdx?_cons,ae0 f l]
def aqu(hi:∀d∈ds,∃i:Int,d=.int i)(h:.int v∈ds):Jz .index (.vl ds) [.int v] M=.ok (.int (ixI v ds)) M:=by
 have e:Xx M (.int v) ds=some (ixI v ds):=by
  rw[Xx,aez M v ds hi,uw,ae0];unfold ixI;cases q:ds.findIdx? (λd=>match d with|.int i=>decide (i=v)|_=>false) with
  |some j=>rfl
  |none =>
   rw[vy] at q;have:=q _ h;simp at this
 simp[Jz,e]
end K12
namespace K12
open MW
def ae1(hm:1<=m)(hd:d∈u0 hs k):prog.call m 19 [qi K r hs,.int k,d] M=.ok (.int (Bc hs k d)) M:=by
 rcases Ii hd with rfl|⟨i,f,rfl,hf,_⟩
 . rw[alg hm];simp[Bc]
 . rw[awt hm hf,Gf hf]
noncomputable def RS(p K:Nat)(rs:Nat->List D)(M:dh):Prop:=∀i,i<K->M[p+i]?=some (.lst (rs i))
noncomputable def mz(p K:Nat):List D:=(List.range K).map λi=>.ref (p+i)
theorem RS.keep(h:RS p K rs M)(s:St t f M M')(ht:t<p):RS p K rs M':=λi hi=>s.keep _ _ (i_ (b_ ht x_)) (h i hi)
def O5(hi:i<K):yu (.vl (mz p K)) (.int i) M=some (.ref (p+i)):=Cj rfl q_ (by simp[mz,hi])
def aqv(hy:y=ρ.length)(he:e.den W ρ M=.ok (.int K) M)(hK:K<=100000) :
 (Ex.comp true 1 (.name y) (.Im e) (.lst .nil)).den W ρ M=.ok (.vl (mz M.length K)) (M++List.replicate K (.lst [])):=by
 subst hy;obtain⟨ys,M',g,h1,h2⟩:=Kw (v:=true) (k:=1) (t:=.name ρ.length) (e:=.lst .nil) he hK (λi xs M'=>xs=mz M.length i/\M'=M++List.replicate i (.lst [])) ⟨rfl,by simp⟩
  (λi xs M' hi hI=>by
   obtain⟨rfl,rfl⟩:=hI;refine⟨_,.ref (M.length+i),M++List.replicate i (MO.lst [])++[MO.lst []],rfl,by simp[MW.new],?_,?_⟩
   . simp[mz,yj]
   . simp[List.replicate_succ'])
 rw[g,h1,h2];rfl
noncomputable def rowsOf(hs:List F)(ad:List (Nat×Nat))(e:Nat):List D:=ad.flatMap λp=>(wT hs p.2 e).map λw=>.tup [.int p.1,.int p.2,w]
def Xb(hs:List F)(ad:List (Nat×Nat))(p:Nat×Nat)(e:Nat):rowsOf hs (ad++[p]) e=rowsOf hs ad e++(wT hs p.2 e).map λw=>.tup [.int p.1,.int p.2,w]:=by simp[rowsOf]
def abu(P:Kf sz K hs ie)(hk:k<K)(hd:d∈u0 hs k):Bc hs k d<K:=by
 rcases Ii hd with rfl|⟨i,f,rfl,hf,_⟩
 . simpa[Bc] using hk
 . rw[Gf hf];exact P.Rf f (ao hf)
def aww(hm:1<=m)(hl:hs.length<=5)(h1:ρ[1]?=some (some (qi K r hs)))(h5:ρ[5]?=some (some (.int k)))(hy:ρ.length=19) :
 Hv.den ⟨prog.call m,prog.cls⟩ ρ M=.ok (.vl ((u0 hs k).map λw=>.tup [.int (Bc hs k w),w])) M:=by
 unfold Hv;rw[Ay (d:=.vl (u0 hs k)) (ds:=u0 hs k) (M1:=M) (g:=λw=>.tup [.int (Bc hs k w),w]) (by simp[h1,h5,aey hm hl]) rfl (gn (Xa hl) (by decide)) (λx hx=>by
  refine⟨_,rfl,?_⟩;have e1:(ρ++List.replicate 1 none).set 19 (some x)=ρ++[some x]:=by rw[Bh];simp[hy]
  rw[e1];have g1:(ρ++[some x])[1]?=some (some (qi K r hs)):=by rw[dj (b_ (by decide) (g_ hy))];exact h1
  have g5:(ρ++[some x])[5]?=some (some (.int k)):=by rw[dj (b_ (by decide) (g_ hy))];exact h5
  have g9:(ρ++[some x])[19]?=some (some x):=by rw[<- hy];simp
  simp[g1,g5,g9,ae1 hm hx])]
 rfl
noncomputable def Zq(p:Nat)(M M':dh):Prop:=∀(a:Nat)(o:MO),a<p->M[a]?=some o->M'[a]?=some o
def Zq.refl(p:Nat)(M:dh):Zq p M M:=λ_ _ _ h=>h
def Zq.trans(a:Zq p M M1)(b:Zq p M1 M2):Zq p M M2:=λx o h e=>b x o h (a x o h e)
theorem Zq.set(h:p<=q):Zq p M (M.set q o):=λa u ha e=>by rw[qx (i_ (b_ ha h))];exact e
noncomputable def Zr(n k:Nat)(w:D):D:=.tup [.int n,.int k,w]
def ayn(n k:Nat)(w:D):D.tup [.int n,.int k,w]=Zr n k w:=rfl
noncomputable def abv(hs:List F)(rs:Nat->List D)(n k j:Nat)(e:Nat):List D:=rs e++(((u0 hs k).take j).filter λw=>decide (Bc hs k w=e)).map (Zr n k)
def aqw(hs:List F)(rs:Nat->List D)(n k e:Nat):abv hs rs n k (u0 hs k).length e=rs e++(wT hs k e).map (Zr n k):=by unfold abv wT;rw[List.take_length]
def aqx(hl:hs.length<=5)(h7:(rs e).length<=7):(abv hs rs n k j e).length<=13:=by
 have h1:=Ad (λw=>decide (Bc hs k w=e)) ((u0 hs k).take j);have h2:=Xa (k:=k) hl;have h3:((u0 hs k).take j).length<=(u0 hs k).length:=by simp;lia
 simp only[abv,wj,du]
 lia
def Z4(P:Kf sz K hs ie)(hk:k<K)(h:RS p K rs M)(h7:∀e,e<K->(rs e).length<=7)(hr:rest.length=10) :
 ∃b7 b8 M',Nv.den W ([a0,a1,a2,some (.vl (mz p K)),some (.int n),some (.int k),some (.vl ((u0 hs k).map λw=>.tup [.int (Bc hs k w),w])),b7',b8']++rest) M
  = .ok (.next,[a0,a1,a2,some (.vl (mz p K)),some (.int n),some (.int k),some (.vl ((u0 hs k).map λw=>.tup [.int (Bc hs k w),w])),b7,b8]++rest) M'/\RS p K (λe=>rs e++(wT hs k e).map (Zr n k)) M'/\Zq p M M'/\M'.length=M.length:=by
 have hl:=P.len;obtain⟨ρ',M',e,⟨c7,c8,rfl⟩,r1,r2,r3⟩:=Kv (W:=W) (t:=.names [7,8]) (b:=Ed) (it:=.v 6) (d:=.vl ((u0 hs k).map λw=>.tup [.int (Bc hs k w),w])) (ds:=(u0 hs k).map λw=>.tup [.int (Bc hs k w),w])
  (ρ:=[a0,a1,a2,some (.vl (mz p K)),some (.int n),some (.int k),some (.vl ((u0 hs k).map λw=>.tup [.int (Bc hs k w),w])),b7',b8']++rest) (M:=M) (M1:=M) (by simp) rfl
  (λj ρ M'=>(∃b7 b8:Option D,ρ=[a0,a1,a2,some (.vl (mz p K)),some (.int n),some (.int k),some (.vl ((u0 hs k).map λw=>.tup [.int (Bc hs k w),w])),b7,b8]++rest)/\RS p K (abv hs rs n k j) M'/\Zq p M M'/\M'.length=M.length)
  ⟨⟨b7',b8',rfl⟩,λi hi=>by rw[h i hi];simp[abv],Zq.refl _ _,rfl⟩ (λ_ _ _ _=>rfl)
  (λj x ρ M1 hx hI=>by
   obtain⟨⟨c7,c8,rfl⟩,q1,q2,q3⟩:=hI;obtain⟨w,hw,rfl⟩:∃w,(u0 hs k)[j]?=some w/\D.tup [.int (Bc hs k w),w]=x:=by simpa using hx
   have hwm:=ao hw;have he:=abu P hk hwm;have g:=q1 _ he;have ap:=G6 (d:=Zr n k w) g (by have:=aqx (n:=n) (k:=k) (j:=j) hl (h7 _ he);exact c_ this (by decide));refine⟨_,.next,_,M1.set (p+Bc hs k w) (.lst (abv hs rs n k j (Bc hs k w)++[Zr n k w])),N6 _ _ _ _ _,?_,.inl rfl,⟨some (.int (Bc hs k w)),some w,rfl⟩,?_,q2.trans (Zq.set x_),by simp[q3]⟩
   . show Ed.den W (a0::a1::a2::some (.vl (mz p K))::some (.int n)::some (.int k)::some (.vl ((u0 hs k).map λw=>.tup [.int (Bc hs k w),w]))::some (.int (Bc hs k w))::some w::rest) M1=_
     simp[Ed,O5 he,Hc g,ayn,ap]
   . intro i hi
     have e1:(u0 hs k).take (j+1)=(u0 hs k).take j++[w]:=by rw[List.take_succ,hw];rfl
     by_cases z:i=Bc hs k w
     . subst z
       rw[vo g];simp[abv,e1,List.filter_append]
     . rw[qx (by lia),q1 i hi]
       simp[abv,e1,List.filter_append,j0 z])
 refine⟨c7,c8,M',e,λi hi=>?_,r2,r3⟩;rw[r1 i hi];simp only[du];rw[aqw]
structure Gs(t:Nat)(f:Bool)(p:Nat)(M M':dh):Prop where
 has:S8 t f M'
 low:∀(a:Nat)(o:MO),a<p->a≠t->M[a]?=some o->M'[a]?=some o
 len:M.length<=M'.length
def Gs.trans(a:Gs t f p M M1)(b:Gs t f p M1 M2):Gs t f p M M2:=⟨b.has,λx o h n e=>b.low x o h n (a.low x o h n e),gn a.len b.len⟩
def Gs.ae2(s:St t f M M1):Gs t f p M M1:=⟨s.has,λa o _ n e=>s.keep a o n e,s.len⟩
def Zq.has(h:S8 t f M)(l:Zq p M M1)(ht:t<p):S8 t f M1:=by obtain⟨n,e,o⟩:=h;exact⟨n,l _ _ ht e,o⟩
def Gs.aqy(h:S8 t f M)(l:Zq p M M1)(ht:t<p)(hl:M.length<=M1.length):Gs t f p M M1:=⟨l.has h ht,λa o x _ e=>l a o x e,hl⟩
def Gs.refl(h:S8 t f M):Gs t f p M M:=⟨h,λ_ _ _ _ e=>e,bh _⟩
def Gs.st(g:Gs t f M.length M M1):St t f M M1:=⟨g.len,g.has,λa o n e=>g.low a o (wz e) n e⟩
def Gs.app(h:S8 t f M)(hp:p<=M.length)(X:dh):Gs t f p M (M++X):=⟨by obtain⟨n,e,o⟩:=h;exact⟨n,xm e,o⟩,λa o _ _ e=>xm e,by simp⟩
def awx(hy:ρ.length=y)(h3:ρ[3]?=some (some (.vl (mz p K))))(h:RS p K rs M)(hK:K<=3) :
 (Ex.comp true 1 (.name y) (.val (.v 3)) (.blt .len (.o (.var y)))).den W ρ M=.ok (.vl (((List.range K).map λi=>(rs i).length).map nD)) M:=by
 subst hy;rw[Ay (d:=.vl (mz p K)) (ds:=mz p K) (M1:=M) (g:=λd=>match v7 .len [d] M with|.ok x _=>x|_=>.non) (by simp[h3]) rfl (by simp[mz];exact a_ hK (by decide)) (λd hd=>by
  obtain⟨i,hi,rfl⟩:=bf.mp hd;refine⟨_,rfl,?_⟩;simp[len_list (qg (h i (je.mp hi)))])]
 simp only[jx,mz,zj]
 congr 2
 apply qu;intro i hi;simp[len_list (qg (h i (je.mp hi))),nD]
structure Rw(hs:List F)(K p:Nat)(ad:List (Nat×Nat))(M:dh):Prop where
 rs:RS p K (rowsOf hs ad) M
 kd:∀q∈ad,q.2<K
 le:∀e,e<K->(rowsOf hs ad e).length<=7
 nd:(ad.map (·.1)).Nodup
def awy(hm:1<=m)(P:Kf sz K hs ie)(hh:S8 t f M)(ht:t<p)(h:Rw hs K p ad M)(hn:∀q∈ad,q.1<n)(hr:rest.length=10) :
 ∃c5 c6 c7 c8 ad' M',Cw.den ⟨prog.call m,prog.cls⟩ ([some (.ref t),some (qi K r hs),some (.int 2),some (.vl (mz p K)),some (.int n),b5,b6,b7,b8]++rest) M
  = .ok (.next,[some (.ref t),some (qi K r hs),some (.int 2),some (.vl (mz p K)),some (.int n),c5,c6,c7,c8]++rest) M'/\Rw hs K p ad' M'/\(∀q∈ad',q.1<n+1)/\Gs t f p M M'/\M'.length=M.length:=by
 have hl:=P.len;have h3:=P.k3;obtain⟨k,M1,e1,l1,s1,n1⟩:=Bx (many:=K) hm hh (by have:=P.k1;exact m_ this) (m_ (c_ h3 (by decide)));have hk:k<K:=o_ l1
 have r1:=h.rs.keep s1 ht;have c9:=aww (M:=M1) (r:=r) (K:=K) (hs:=hs) (ρ:=[some (.ref t),some (qi K r hs),some (.int 2),some (.vl (mz p K)),some (.int n),some (.int k),b6,b7,b8]++rest) (k:=k) hm hl rfl rfl (by simp[hr]);have c8:=awx (W:=⟨prog.call m,prog.cls⟩) (M:=M1) (ρ:=[some (.ref t),some (qi K r hs),some (.int 2),some (.vl (mz p K)),some (.int n),some (.int k),some (.vl ((u0 hs k).map λw=>.tup [.int (Bc hs k w),w])),b7,b8]++rest) (y:=19) (by simp[hr]) rfl r1 h3;obtain⟨v,e3,v1,v2⟩:=anv (M:=M1) (xs:=(List.range K).map λi=>(rowsOf hs ad i).length) (by have:=P.k1;intro z;have:=qz List.length z;simp at this;exact l_ (o_ l1) (a_ (f_ this) (ju _)));generalize hL:(D.vl (((List.range K).map λi=>(rowsOf hs ad i).length).map nD))=L at e3 c8;have hlen:v7 .len [.vl ((u0 hs k).map λw=>D.tup [.int (Bc hs k w),w])] M1=.ok (.int (u0 hs k).length) M1:=by simp[v7,Mu]
 by_cases q:v+(u0 hs k).length<8
 . have q':(v:Int)+((u0 hs k).length:Int)<8:=by lia
   obtain⟨d7,d8,M2,e4,r2,lo,n2⟩:=Z4 (W:=⟨prog.call m,prog.cls⟩) (M:=M1) P (n:=n) hk r1 h.le (a0:=some (.ref t)) (a1:=some (qi K r hs)) (a2:=some (.int 2)) (b7':=b7) (b8':=b8) (rest:=rest) hr;refine⟨some (.int k),some (.vl ((u0 hs k).map λw=>D.tup [.int (Bc hs k w),w])),d7,d8,ad++[(n,k)],M2,?_,⟨λi hi=>?_,λq hq=>?_,λe he=>?_,?_⟩,λq hq=>?_,(Gs.ae2 s1).trans (Gs.aqy s1.has lo ht (g_ n2)),n2.trans n1⟩
   . simp only[zc,Aa] at c9 c8 e4 ⊢
     simp[Cw,Qa,e1,c9,Hu,c8,e3,hlen,q',e4]
   . rw[r2 i hi,Xb];rfl
   . rcases dw.mp hq with z|z
     . exact h.kd q z
     . have:q=(n,k):=by simpa using z
       rw[this];exact hk
   . rw[Xb,wj,du]
     have a1:=v1 (rowsOf hs ad e).length (bf.mpr ⟨e,je.mpr he,rfl⟩);have a2:(wT hs k e).length<=(u0 hs k).length:=Ad _ _
     simp only
     lia
   . rw[uf]
     refine yp.mpr ⟨h.nd,by simp,λa ha b hb=>?_⟩;obtain⟨q,hq,rfl⟩:=bf.mp ha;have:b=n:=by simpa using hb
     have:=hn q hq
     lia
   . rcases dw.mp hq with z|z
     . have:=hn q z;exact A_ (e_ this)
     . have:q=(n,k):=by simpa using z
       rw[this];exact p7 n
 . have q':¬(v:Int)+((u0 hs k).length:Int)<8:=by lia
   refine⟨some (.int k),some (.vl ((u0 hs k).map λw=>D.tup [.int (Bc hs k w),w])),b7,b8,ad,M1,?_,⟨r1,h.kd,h.le,h.nd⟩,λq hq=>by have:=hn q hq;exact A_ (e_ this),Gs.ae2 s1,n1⟩;simp only[zc,Aa] at c9 c8 ⊢;simp[Cw,Qa,e1,c9,Hu,c8,e3,hlen,q']
theorem ai3{M:dh}{x:D}:∀{ds:List D},(∀y∈ds,∃b,xx M y x=some b)->∃bs:List Bool,Qg M x ds=some bs/\bs.length=ds.length/\∀(i:Nat)(y:D),ds[i]?=some y->(bs[i]?).map some=some (xx M y x)
 |[],_=>⟨[],rfl,rfl,λi y h=>by simp at h⟩
 |y::l,h=>by
  obtain⟨b,hb⟩:=h y (by simp);obtain⟨bs,h1,h2,h3⟩:=ai3 (λz hz=>h z (bc _ hz));refine⟨b::bs,by simp[Qg,hb,h1],by simp[h2],λi z hz=>?_⟩;cases i with
  |zero=>simp at hz;subst hz;simp[hb]|succ i=>simpa using h3 i z (by simpa using hz)
def a3l(h:∀y∈ds,∃b,xx M y x=some b)(hx:x∈ds)(he:xx M x x=some true):∃j y,Xx M x ds=some j/\ds[j]?=some y/\xx M y x=some true:=by
 obtain⟨bs,h1,h2,h3⟩:=ai3 h;obtain⟨i,hi,ei⟩:=qp hx;have h4:=h3 i x (by simp[hi,ei]);rw[he] at h4;obtain⟨b,e1,e2⟩:=bx.mp h4;cases e2;rw[Xx,h1,uw];cases q:bs.findIdx? id with
 |some j =>
  obtain⟨g1,g2,_⟩:=qm.mp q;have g3:ds[j]?=some (ds[j]'(b_ g1 (f_ h2))):=cj (b_ g1 (f_ h2));have g4:=h3 j _ g3;rw[cj g1] at g4;simp only[vm,Ai] at g4;exact⟨j,_,rfl,g3,by rw[<- g4];simpa using g2⟩
 |none =>
  rw[vy] at q;have:=q true (ao e1);simp at this
def awz(hp:M[p]?=some (.lst ds))(h:∀y∈ds,∃b,xx M y x=some b)(hx:x∈ds)(he:xx M x x=some true):∃(j:Nat)(y:D),Jz .index (.ref p) [x] M=.ok (.int j) M/\ds[j]?=some y/\xx M y x=some true:=by obtain⟨j,y,h1,h2,h3⟩:=a3l h hx he;exact⟨j,y,by simp[Jz,Vx (qg hp),h1],h2,h3⟩
def aw0(hp:M[p]?=some (.lst ds)):Qh .index (.ref p) M=true:=by simp[Qh,qg hp]
def aqz(M:dh)(n k n' k':Nat)(a a':Int):xx M (Zr n k (.int a)) (Zr n' k' (.int a'))=some (decide (n=n')&&(decide (k=k')&&(decide (a=a')&&true))):=by show Qv (Jy M 5) [.int n,.int k,.int a] [.int n',.int k',.int a']=_;rw[Dz (K8 M 4 n n') (Dz (K8 M 4 k k') (Dz (ahh 4 a a') (show Qv (Jy M 5) [] []=some true from rfl)))]
def Ij(h:d∈rowsOf hs ad e):∃(n k:Nat)(x:Int),(n,k)∈ad/\.int x∈wT hs k e/\d=Zr n k (.int x):=by obtain⟨q,hq,hd⟩:=List.mem_flatMap.mp h;obtain⟨w,hw,rfl⟩:=bf.mp hd;obtain⟨x,rfl⟩:=a3k hw;exact⟨q.1,q.2,x,hq,hw,rfl⟩
def alh(h:(n,k)∈ad)(hw:w∈wT hs k e):Zr n k w∈rowsOf hs ad e :=
 List.mem_flatMap.mpr ⟨(n,k),h,bf.mpr ⟨w,hw,rfl⟩⟩
structure Ae(hs:List F)(ie:List (List Kx×D))(ad:List (Nat×Nat))(j:Nat)(g:F)(js:Y3):Prop where
 len:js.length=(rowsOf hs ad g.a).length
 go:∀(i n k:Nat)(x:Int),(rowsOf hs ad g.a)[i]?=some (Zr n k (.int x))->(rowsOf hs ad g.b)[js.getD i 0]?=some (Zr n k (.int (bv hs ie j (.int x))))
def aq0(h:i<l.length):(l++[x]).getD i 0=l.getD i 0:=by rw[dg,dj h,dg]
def Ae.lt(h:Ae hs ie ad j g js):∀x∈js,x<(rowsOf hs ad g.b).length:=λx hx=>by
 obtain⟨i,hi,rfl⟩:=qp hx;have hi2:i<(rowsOf hs ad g.a).length:=by rw[<- h.len];exact hi
 obtain⟨n,k,y,_,_,e⟩:=Ij (pq hi2);have:=h.go i n k y (by rw[cj hi2,e]);rw[dg,cj hi] at this;exact(ak.mp this).1
def a3m(hm:1<=m)(P:Kf sz K hs ie)(hr:M[r]?=some (.dT ie)){j:Nat}(h:Rw hs K p ad M)(hj:hs[j]?=some g)(a99:rest.length=6) :
 ∃js:List Nat,Hs.den ⟨prog.call m,prog.cls⟩ ([a0,some (qi K r hs),a2,some (.vl (mz p K)),a4,a5,a6,a7,a8,a9,some (.int j),some (.int g.a),some (.int g.b)]++rest) M=.ok (.vl (js.map nD)) M /\
  Ae hs ie ad j g js:=by
 have hg:=ao hj;have ha:=P.V8 g hg;have hb:=P.Rf g hg;have ga:=h.rs _ ha;have gb:=h.rs _ hb;unfold Hs;obtain⟨ys,M',e,hI⟩:=Fz (W:=⟨prog.call m,prog.cls⟩) (v:=true) (k:=3) (t:=.names [19,20,21]) (it:=.ix (.v 3) (.v 11)) (e:=.bm .index (.ix (.v 3) (.v 12)) (.o (.tup (.q (.v 19) (.v 20) (.call 20 (.q (.v 1) (.v 21) (.v 10)))))))
  (ρ:=[a0,some (qi K r hs),a2,some (.vl (mz p K)),a4,a5,a6,a7,a8,a9,some (.int j),some (.int g.a),some (.int g.b)]++rest) (M:=M) (M1:=M) (d:=.ref (p+g.a)) (ds:=rowsOf hs ad g.a) (by simp[O5 ha]) (qg ga) (by have:=h.le _ ha;exact a_ this (by decide))
  (λi xs M'=>M'=M/\∃js:List Nat,xs=js.map nD/\js.length=i/\∀(i' n k:Nat)(x:Int),i'<i->(rowsOf hs ad g.a)[i']?=some (Zr n k (.int x))->(rowsOf hs ad g.b)[js.getD i' 0]?=some (Zr n k (.int (bv hs ie j (.int x))))) ⟨rfl,[],rfl,rfl,by simp⟩ (λi xs M' h=>by rw[h.1];exact qg ga)
  (λi y xs M' hy hI=>by
   obtain⟨rfl,js,rfl,q1,q2⟩:=hI;obtain⟨n,k,x,h1,h2,rfl⟩:=Ij (ao hy);obtain⟨x',z,hx,hv,Xr⟩:=awv P hj h2;cases z;obtain⟨jj,yy,e1,e2,e3⟩:=awz (x:=Zr n k (.int (bv hs ie j (.int x)))) gb (λy hy=>by obtain⟨n',k',x'',_,_,rfl⟩:=Ij hy;exact⟨_,aqz _ _ _ _ _ _ _⟩) (alh h1 Xr) (by rw[aqz];simp);refine⟨_,.int jj,M',rfl,?_,rfl,js++[jj],by simp[nD],by simp[q1],λi' n' k' x' Xm hx'=>?_⟩
   . have hl:rest.length=6:=a99
     match rest,hl with
     |[r0,r1,r2,r3,r4,r5],_ =>
      show(Ex.bm .index (.ix (.v 3) (.v 12)) (.o (.tup (.q (.v 19) (.v 20) (.call 20 (.q (.v 1) (.v 21) (.v 10))))))).den _ [a0,qi K r hs,a2,D.vl (mz p K),a4,a5,a6,a7,a8,a9,D.int j,D.int g.a,D.int g.b,r0,r1,r2,r3,r4,r5,D.int n,D.int k,D.int x] M'=_;simp[O5 hb,aw0 gb,agv hm hr hx (show(-1:Int)<=j by lia) hv,ayn,e1]
   . by_cases z:i'<i
     . rw[aq0 (b_ z (g_ q1))];exact q2 i' n' k' x' z hx'
     . have z:i'=i:=u_ (z_ Xm) (s_ z)
       subst z;rw[hy] at hx';simp only[Zr,Ai,D.tup.injEq,List.cons.injEq,D.int.injEq,Ba,and_true] at hx';obtain⟨rfl,rfl,rfl⟩:=hx';have ej:(js++[jj]).getD i' 0=jj:=by rw[<- q1];simp[dg]
       rw[ej,e2];obtain⟨n3,k3,x3,_,_,rfl⟩:=Ij (ao e2);rw[aqz] at e3;simp only[Ai,aq,dm,and_true] at e3;obtain⟨rfl,rfl,rfl⟩:=e3;rfl)
 obtain⟨rfl,js,rfl,q1,q2⟩:=hI;exact⟨js,by rw[e];rfl,q1,λi n k x h=>q2 i n k x (ak.mp h).1 h⟩
noncomputable def up(ms:Nat->List Nat)(i:Nat)(ns:Y3):Nat->List Nat:=λe=>if e=i then ns else ms e
noncomputable def Ib(lo hi:Nat)(l:Y3):List Nat:=l.map λo=>if o=hi then lo else o
theorem ai4{lo hi:Nat}(h:lo<hi):∀l:List Nat,(Ib lo hi l).sum<=l.sum
 |[]=>bh _
 |a::l=>by
  have:=ai4 h l;simp only[Ib,gq,List.sum_cons] at this ⊢;split<;>omega
theorem ai5{lo hi:Nat}(h:lo<hi):∀{l:Y3},hi∈l->(Ib lo hi l).sum<l.sum
 |a::l,hm=>by
  have h1:=ai4 h l;simp only[Ib,gq,List.sum_cons] at h1 ⊢
  by_cases z:a=hi
  . rw[cz z];exact b_ (G_ h) (a_ (v_ (g_ z)) (w_ h1))
  . have:=ai5 h (show hi∈l from by simpa[j0 z] using hm)
    simp only[Ib] at this;rw[bw z];exact H_ this
noncomputable def Ye(K:Nat)(ms:Nat->List Nat):Nat:=((List.range K).map λi=>(ms i).sum).sum
theorem aq1{ms:Nat->List Nat}{b:Nat}{ns:Y3}(h:ns.sum<(ms b).sum):∀K,Ye K (up ms b ns)<=Ye K ms/\(b<K->Ye K (up ms b ns)<Ye K ms)
 |0=>⟨bh _,λz=>absurd z (ug _)⟩
 |K+1=>by
  obtain⟨h1,h2⟩:=aq1 h K;simp only[Ye,yj,uf,List.sum_append,gq,List.map_nil,List.sum_cons,List.sum_nil] at h1 h2 ⊢
  by_cases z:K=b
  . subst z
    have e:up ms K ns K=ns:=by simp[up]
    rw[e];constructor
    . exact e_ (c_ (v_ h1) (H_ (G_ h)))
    . intro _;exact c_ (v_ h1) (H_ (G_ h))
  . have e:up ms b ns K=ms K:=by simp[up,z]
    rw[e];constructor
    . exact v_ h1
    . intro q;have:=h2 (by lia);exact G_ this
structure Mk(t pm K:Nat)(L:Nat->Nat)(ms:Nat->List Nat)(M:dh):Prop where
 ex:∃mds:List D,M[pm]?=some (.lst mds)/\mds.length=K/\∀i,i<K->∃d,mds[i]?=some d/\fc M d=some ((ms i).map nD)/\∀a,d=.ref a->t<a/\a<pm
 len:∀i,i<K->(ms i).length=L i
 lt:∀i,i<K->∀x∈ms i,x<L i
 fx:∀i,i<K->∀x∈ms i,(ms i).getD x 0=x
def Xc(h:fc M d=some ds)(k:∀a o,d=.ref a->M[a]?=some o->M'[a]?=some o):fc M' d=some ds:=by
 cases d with
 |ref a =>
  simp only[fc] at h ⊢;cases e:M[a]? with
  |none=>rw[e] at h;cases h|some o=>rw[e] at h;rw[k a o rfl e];exact h
 |vl xs=>exact h|_=>cases h
def Mk.frame(h:Mk t pm K L ms M)(k:∀(a:Nat) (o:MO),t<a->a<=pm->M[a]?=some o->M'[a]?=some o)(ht:t<pm):Mk t pm K L ms M':=by obtain⟨mds,h1,h2,h3⟩:=h.ex;refine⟨⟨mds,k _ _ ht (bh _) h1,h2,λi hi=>?_⟩,h.len,h.lt,h.fx⟩;obtain⟨d,g1,g2,g3⟩:=h3 i hi;exact⟨d,g1,Xc g2 λa o e q=>k a o (g3 a e).1 (zp (g3 a e).2) q,g3⟩
def Mk.row(h:Mk t pm K L ms M)(hi:i<K):∃d,yu (.ref pm) (.int i) M=some d/\fc M d=some ((ms i).map nD):=by obtain⟨mds,h1,h2,h3⟩:=h.ex;obtain⟨d,g1,g2,_⟩:=h3 i hi;exact⟨d,Cj (qg h1) q_ (by simpa using g1),g2⟩
def Qt{l:Y3}(h:fc M d=some (l.map nD))(hx:x<l.length):yu d (.int x) M=some (.int (l.getD x 0)) :=
 Cj h q_ (by simp[hx,nD])
def getD_mem'{l:Y3}(hx:x<l.length):l.getD x 0∈l:=by rw[dg,cj hx];exact pq hx
set_option tactic.hygienic true in
theorem Mk.set(h:Mk t pm K L ms M)(hi:i<K)(h1:ns.length=L i)(h2:∀x∈ns,x<L i)(h4:∀x∈ns,ns.getD x 0=x)(ht:t<pm) :
 ∃o,setOp (.ref pm) (.int i) (.vl (ns.map nD)) M=some (M.set pm o)/\Mk t pm K L (up ms i ns) (M.set pm o):=by
 obtain⟨mds,g1,g2,g3⟩:=h.ex;refine⟨.lst (mds.set i (.vl (ns.map nD))),?_,⟨mds.set i (.vl (ns.map nD)),vo g1,by simp[g2],λe he=>?_⟩,λe he=>?_,λe he x hx=>?_,λe he x hx=>?_⟩
 . have:=aae (d:=.vl (ns.map nD)) (i:=i) g1 q_ (m_ (b_ hi (g_ g2)))
   simpa using this
 . by_cases z:e=i
   . subst z
     exact⟨.vl (ns.map nD),by simp[g2,he],by simp[up],λa q=>by cases q⟩
   . obtain⟨d,k1,k2,k3⟩:=g3 e he
     refine⟨d,by rw[uy (j0 z)];exact k1,?_,k3⟩;have:up ms i ns e=ms e:=by simp[up,z]
     rw[this];exact Xc k2 λa o q w=>by rw[qx (by have:=(k3 a q).2;exact i_ this)];exact w
 . unfold up;split
   . rename_i z;rw[z];exact h1
   . exact h.len e he
 . unfold up at hx;split at hx
   . rename_i z;rw[z];exact h2 x hx
   . exact h.lt e he x hx
 . unfold up at hx ⊢;split at hx
   . rename_i z;rw[cz z];exact h4 x hx
   . rename_i z;rw[bw z];exact h.fx e he x hx
def getD_map{α:Type}{l:Y3}{f:Nat->Nat}{x:Nat}(h:x<l.length):(l.map f).getD x 0=f (l.getD x 0):=by simp[dg,gr,cj h]
set_option tactic.hygienic true in
def ai6(fx:∀x∈l,l.getD x 0=x)(lt:∀x∈l,x<l.length)(hlo:lo∈l):∀x∈Ib lo hi l,(Ib lo hi l).getD x 0=x:=λx hx=>by
 obtain⟨o,ho,e⟩:=bf.mp hx;have h1:x∈l:=by
  split at e
  . rw[<- e];exact hlo
  . rw[<- e];exact ho
 unfold Ib;rw[getD_map (α:=Nat) (lt x h1),fx x h1]
 by_cases z:x=hi
 . rw[cz z]
   split at e
   . exact e
   . rename_i w;exact absurd (e.trans z) w
 . rw[bw z]
def Cg(ms:Nat->List Nat)(g:F)(js:Y3):Prop:=∀x y,x<js.length->y<js.length->(ms g.a).getD x 0=(ms g.a).getD y 0->(ms g.b).getD (js.getD x 0) 0=(ms g.b).getD (js.getD y 0) 0
structure Ac(q:Nat)(hs:List F)(L:Nat->Nat)(as:List (List Nat))(M:dh):Prop where
 at_:M[q]?=some (.lst (as.map λjs=>.vl (js.map nD)))
 len:as.length=hs.length
 ok:∀(j:Nat)(g:F)(js:Y3),hs[j]?=some g->as[j]?=some js->js.length=L g.a/\∀x∈js,x<L g.b
def Ac.get(h:Ac q hs L as M){j:Nat}(hj:hs[j]?=some g):∃js,as[j]?=some js/\yu (.ref q) (.int j) M=some (.vl (js.map nD))/\js.length=L g.a/\∀x∈js,x<L g.b:=by
 have hl:=(ak.mp hj).1;have hl2:j<as.length:=by rw[h.len];exact hl
 have e:as[j]?=some as[j]:=cj hl2;exact⟨_,e,Cj (qg h.at_) q_ (by simp[e]),h.ok j g _ hj e⟩
def aq3(h:M[n]?=some (.dK kv)):Jz .get (.ref n) [.int k,d] M=.ok ((vq kv (.inl k)).getD d) M:=by simp[Jz,h]
def ayo(h:M[n]?=some (.dK kv)):Qh .get (.ref n) M=true:=by simp[Qh,h]
def aq4(h:M[n]?=some (.dK kv))(hl:kv.length<100000):setOp (.ref n) (.int k) d M=some (M.set n (.dK (Cu kv (.inl k) d))):=by simp[setOp,h,hl]
def aq5[DecidableEq κ]{kv:List (κ×D)}(h:vq kv k=some v):∃p∈kv,p.2=v:=by unfold vq at h;obtain⟨p,h1,h2⟩:=bx.mp h;exact⟨p,List.mem_of_find?_eq_some h1,h2⟩
def aw1[DecidableEq κ]{kv:List (κ×D)}(h:p∈Cu kv k v):p∈kv\/p.2=v:=by
 unfold Cu at h;split at h
 . obtain⟨q,h1,h2⟩:=bf.mp h
   split at h2
   . rw[<- h2];exact .inr rfl
   . rw[<- h2];exact .inl h1
 . rcases dw.mp h with z|z
   . exact .inl z
   . have:p=(k,v):=by simpa using z
     rw[this];exact .inr rfl
def Kq[DecidableEq κ](p:κ×D)(r:List (κ×D))(k:κ):vq (p::r) k=if p.1=k then some p.2 else vq r k:=by
 unfold vq
 by_cases h:p.1=k
 . simp[rm,h]
 . simp[rm,h]
theorem Xd{κ:Type}[DecidableEq κ]{k k':κ}{v:D}:∀{kv:List (κ×D)},(∃p∈kv,p.1=k)->vq (kv.map λp=>if p.1=k then(p.1,v) else p) k'=if k'=k then some v else vq kv k'
 |p::r,h=>by
  rw[gq,Kq,Kq]
  by_cases a:p.1=k
  . rw[cz a]
    by_cases b:k'=k
    . simp[a,b]
    . have c:¬p.1=k':=λz=>b (z.symm.trans a)
      rw[bw c,bw b,bw c]
      by_cases d:∃p∈r,p.1=k
      . rw[Xd d,bw b]
      . congr 1
        conv=>rhs;rw[<- List.map_id r]
        apply qu;intro q hq;rw[bw λz=>d ⟨q,hq,z⟩];rfl
  . rw[bw a]
    have d:∃p∈r,p.1=k:=by
     obtain⟨q,h1,h2⟩:=h;rcases bz.mp h1 with rfl|h1
     . exact absurd h2 a
     . exact⟨q,h1,h2⟩
    rw[Xd d]
    by_cases b:k'=k
    . have c:¬p.1=k':=λz=>a (z.trans b)
      rw[bw c];simp[b]
    . simp[b]
theorem ae3{κ:Type}[DecidableEq κ]{k k':κ}{v:D}:∀{kv:List (κ×D)},(∀p∈kv,p.1≠k)->vq (kv++[(k,v)]) k'=if k'=k then some v else vq kv k'
 |[],_=>by
  rw[Aa,Kq]
  by_cases b:k'=k
  . simp[b]
  . simp[b,j0 b]
 |p::r,h=>by
  rw[zc,Kq,Kq,ae3 (λq hq=>h q (bc _ hq))];have a:=h p (by simp)
  by_cases b:k'=k
  . have c:¬p.1=k':=λz=>a (z.trans b)
    rw[bw c];simp[b]
  . simp[b]
def Ru[DecidableEq κ](kv:List (κ×D))(k k':κ)(v:D):vq (Cu kv k v) k'=if k'=k then some v else vq kv k':=by
 unfold Cu
 by_cases h:(kv.any λp=>decide (p.1=k))=true
 . rw[cz h]
   exact Xd (by simpa using h)
 . rw[bw h]
   exact ae3 (λp hp z=>h (Aq.mpr ⟨p,hp,by simpa using z⟩))
def ai7[DecidableEq κ](kv:List (κ×D))(k:κ)(v:D):(Cu kv k v).length<=kv.length+1:=by unfold Cu;split<;>simp
def abw(M:dh)(a b:Nat):xx M (.int a) (.int b)=some (decide (a=b)):=Bs M a b
noncomputable def Fm(pm n:Nat)(M M':dh):Prop:=∀(a:Nat)(o:MO),a≠pm->a<n->M[a]?=some o->M'[a]?=some o
def ai8(M:dh)(a b:Nat):v7 .min [.int a,.int b] M=.ok (.int (min a b:Nat)) M:=by
 show Res.ok (D.int (if(b:Int)<(a:Int) then(b:Int) else(a:Int))) M=_
 by_cases h:b<a
 . rw[cz (m_ h),Nat.min_eq_right (e_ h)]
 . rw[bw (by lia),Nat.min_eq_left (s_ h)]
def abx(M:dh)(a b:Nat):v7 .max [.int a,.int b] M=.ok (.int (max a b:Nat)) M:=by
 show Res.ok (D.int (if(a:Int)<(b:Int) then(b:Int) else(a:Int))) M=_
 by_cases h:a<b
 . rw[cz (m_ h),Nat.max_eq_right (e_ h)]
 . rw[bw (by lia),Nat.max_eq_left (s_ h)]
def ae4(hx:(Ex.ix (.var v) (.var x)).den W ρ M=.ok d M)(hd:fc M d=some (l.map nD))(hl:l.length<=100000)(hy:y=ρ.length)(h1:ρ[a]?=some (some (.int lo)))(h2:ρ[b]?=some (some (.int hi))) :
 (Ex.comp true 1 (.name y) (.val (.ix (.var v) (.var x))) (.ite (.cmp .eq (.var y) (.var b)) (.var a) (.var y))).den W ρ M=.ok (.vl ((Ib lo hi l).map nD)) M:=by
 subst hy;have ha:=(ak.mp h1).1;have hb:=(ak.mp h2).1;rw[Ay (d:=d) (ds:=l.map nD) (M1:=M) (g:=λd=>match d with|.int o=>nD (if o.toNat=hi then lo else o.toNat)|_=>.non) hx hd (by simpa using hl) (λz hz=>by
  obtain⟨o,ho,rfl⟩:=bf.mp hz;refine⟨_,rfl,?_⟩;have e1:(ρ++List.replicate 1 none).set ρ.length (some (nD o))=ρ++[some (.int o)]:=by rw[Bh];simp[nD]
  have g1:(ρ++[some (D.int o)])[a]?=some (some (.int lo)):=by rw[dj ha];exact h1
  have g2:(ρ++[some (D.int o)])[b]?=some (some (.int hi)):=by rw[dj hb];exact h2
  have g3:(ρ++[some (D.int o)])[ρ.length]?=some (some (.int o)):=by simp
  rw[e1]
  by_cases z:o=hi
  . subst z;simp[-eq_int,g1,g2,g3,abw,nD]
  . simp[-eq_int,g1,g2,g3,abw,z,nD])]
 simp[Ib,nD]
def aw2(hx:(Ex.ix (.v 1) (.var x)).den W ρ M=.ok d M)(hd:fc M d=some (l.map nD))(hl:l.length<=100000)(hy:y=ρ.length)(hy1:12<y)(h1:ρ[11]?=some (some (.int lo)))(h2:ρ[12]?=some (some (.int hi))) :
 (Ex.comp true 1 (.name y) (.val (.ix (.v 1) (.var x))) (.ite (.cmp .eq (.var y) (.v 12)) (.v 11) (.var y))).den W ρ M=.ok (.vl ((Ib lo hi l).map nD)) M:=ae4 hx hd hl hy h1 h2
structure Fd(dd:Nat)(a b js:Y3)(n:Nat)(M:dh):Prop where
 ex:∃kv:List (Kx×D),M[dd]?=some (.dK kv)/\kv.length<=n/\(∀p∈kv,∃e:Nat,p.2=.int e/\e∈b)/\∀i,i<n->vq kv (.inl ((a.getD i 0:Nat):Int))=some (.int ((b.getD (js.getD i 0) 0:Nat):Int))
def aq6{j:Nat}(mk:Mk t pm K L ms M)(ac:Ac q hs L as M)(hj:hs[j]?=some g)(ga:g.a<K)(gb:g.b<K)(hd:M[dd]?=some (.dK []))(hpd:pm<dd)(hqd:q<dd)(hqp:q≠pm)(ht:t<pm)(hL:∀e,e<K->L e<=7) :
 ∃ρ' M',Mg.den W [qi K r hs,D.ref pm,D.ref q,b3,D.int j,D.int g.a,D.int g.b,D.ref dd,b8,b9,b10,K9,Rv] M=.ok (.next,ρ') M' /\
  ∃c3 c7 c8 c9 c10 c11 c12,ρ'=[some (qi K r hs),some (.ref pm),some (.ref q),c3,some (.int j),some (.int g.a),some (.int g.b),c7,c8,c9,c10,c11,c12]/\Fm pm dd M M'/\M.length<=M'.length /\
   ((c3=b3/\Mk t pm K L ms M'/\∀js,as[j]?=some js->Cg ms g js)\/(c3=some (.bl true)/\∃Ml,Mk t pm K L Ml M'/\Ye K Ml<Ye K ms)):=by
 obtain⟨js,ej,_,lj,rj⟩:=ac.get hj;obtain⟨da,fa,la⟩:=mk.row ga;have hla:=mk.len _ ga;have hLa:=hL _ ga;refine acq (W:=W) (t:=.name 8) (b:=Cd) (it:=.blt .len (.o (.ix (.v 1) (.v 5)))) (n:=L g.a) (M1:=M) ?_ (a_ hLa (by decide))
  (λi ρ M'=>(∃b8 b9 b10,ρ=[some (qi K r hs),some (.ref pm),some (.ref q),b3,some (.int j),some (.int g.a),some (.int g.b),some (.ref dd),b8,b9,b10,K9,Rv])/\Mk t pm K L ms M'/\Fd dd (ms g.a) (ms g.b) js i M'/\Zq dd M M'/\M'.length=M.length)
  (fun ρ' M'=>∃c3 c7 c8 c9 c10 c11 c12,ρ'=[some (qi K r hs),some (.ref pm),some (.ref q),c3,some (.int j),some (.int g.a),some (.int g.b),c7,c8,c9,c10,c11,c12]/\Fm pm dd M M'/\M.length<=M'.length /\
   ((c3=b3/\Mk t pm K L ms M'/\∀js,as[j]?=some js->Cg ms g js)\/(c3=some (.bl true)/\∃Ml,Mk t pm K L Ml M'/\Ye K Ml<Ye K ms)))
  ⟨⟨b8,b9,b10,rfl⟩,mk,⟨[],hd,bh _,by simp,by simp⟩,Zq.refl _ _,rfl⟩ (fun ρ M' h=>?_) (λi ρ M1 hi hI=>?_)
 . have e:=len_list la
   simp only[du,hla] at e;simp[fa,e]
 . obtain⟨⟨c8,c9,c10,rfl⟩,h1,⟨kv,_,_,_,k4⟩,h3,h4⟩:=h
   refine⟨b3,_,c8,c9,c10,K9,Rv,rfl,λa o _ x e=>h3 a o x e,g_ h4,.inl ⟨rfl,h1,λjs' e' x y hx hy exy=>?_⟩⟩;rw[ej] at e';cases e';have g1:=k4 x (b_ hx (f_ lj));have g2:=k4 y (b_ hy (f_ lj));rw[exy,g2] at g1;simp only[Ai,D.int.injEq] at g1;exact(Ba.mp g1).symm
 . obtain⟨⟨c8,c9,c10,rfl⟩,h1,⟨kv,k1,k2,k3,k4⟩,h3,h4⟩:=hI
   obtain⟨da,fa,la⟩:=h1.row ga;obtain⟨db,fb,lb⟩:=h1.row gb;have ac1:Ac q hs L as M1:=⟨h3 _ _ hqd ac.at_,ac.len,ac.ok⟩;obtain⟨js',ej',fj,_,_⟩:=ac1.get hj;rw[ej] at ej';cases ej';have fa2:=Qt la (show i<(ms g.a).length by rw[hla];exact hi);have fj2:yu (.vl (js.map nD)) (.int i) M1=some (.int (js.getD i 0)):=Qt rfl (b_ hi (g_ lj));have hy:js.getD i 0<(ms g.b).length:=by rw[h1.len _ gb];exact rj _ (getD_mem' (b_ hi (g_ lj)))
   generalize hy0:js.getD i 0=y at fj2 hy;have fb2:=Qt lb hy;have hz:=getD_mem' hy;generalize hx0:(ms g.a).getD i 0=x at fa2;generalize hz0:(ms g.b).getD y 0=z at fb2 hz;have gt:=aq3 (k:=(x:Int)) (d:=.int z) k1;have ty:=ayo k1;have goOn:((vq kv (.inl (x:Int))).getD (.int z)=.int z)->∃ρ1 fl ρ' M',(Tg.name 8).put (.int i) [some (qi K r hs),some (.ref pm),some (.ref q),b3,some (.int j),some (.int g.a),some (.int g.b),some (.ref dd),c8,c9,c10,K9,Rv]=some ρ1/\Cd.den W ρ1 M1=.ok (fl,ρ') M' /\
    (((fl=.next\/fl=.cont)/\(∃b8 b9 b10,ρ'=[some (qi K r hs),some (.ref pm),some (.ref q),b3,some (.int j),some (.int g.a),some (.int g.b),some (.ref dd),b8,b9,b10,K9,Rv])/\Mk t pm K L ms M'/\Fd dd (ms g.a) (ms g.b) js (i+1) M'/\Zq dd M M'/\M'.length=M.length) \/
      (fl=.brk/\∃c3 c7 c8 c9 c10 c11 c12,ρ'=[some (qi K r hs),some (.ref pm),some (.ref q),c3,some (.int j),some (.int g.a),some (.int g.b),c7,c8,c9,c10,c11,c12]/\Fm pm dd M M'/\M.length<=M'.length /\
       ((c3=b3/\Mk t pm K L ms M'/\∀js,as[j]?=some js->Cg ms g js)\/(c3=some (.bl true)/\∃Ml,Mk t pm K L Ml M'/\Ye K Ml<Ye K ms)))):=λhg=>by
    rw[hg] at gt;have st:=aq4 (k:=(x:Int)) (d:=.int z) k1 (by have:=hL _ ga;exact c_ k2 (b_ hi (a_ hLa (by decide))));refine⟨_,.next,_,M1.set dd (.dK (Cu kv (.inl (x:Int)) (.int z))),rfl,?_,.inl ⟨.inl rfl,⟨some (.int i),some (.int x),some (.int z),rfl⟩,h1.frame (λa o _ ha e=>by rw[qx (i_ (c_ ha hpd))];exact e) ht,⟨_,vo k1,?_,?_,λi' Xm=>?_⟩,h3.trans (Zq.set (bh _)),by simp[h4]⟩⟩
    . simp[-eq_int,Cd,fa,fa2,fb,fj,fj2,fb2,ty,gt,abw,st]
    . have:=ai7 kv (.inl (x:Int)) (.int z);exact a_ this (v_ k2)
    . intro p hp
      rcases aw1 hp with w|w
      . exact k3 p w
      . exact⟨z,w,hz⟩
    . rw[Ru]
      by_cases w:(ms g.a).getD i' 0=x
      . rw[w,cz rfl]
        by_cases w2:i'=i
        . subst w2;rw[hy0,hz0]
        . have g1:=k4 i' (by lia)
          rw[w] at g1;rw[g1] at hg;simp only[zf] at hg;rw[hg]
      . have w2:i'≠i:=λq=>w (by rw[q,hx0])
        have:¬((Sum.inl (((ms g.a).getD i' 0:Nat):Int):Kx)=.inl (x:Int)):=λq=>w (by injection q with q;exact Ba.mp q)
        rw[bw this];exact k4 i' (by lia)
   cases hlk:vq kv (.inl (x:Int)) with
   |none=>exact goOn (by rw[hlk];rfl)
   |some v =>
    obtain⟨p,hp,rfl⟩:=aq5 hlk;obtain⟨e,he,hem⟩:=k3 p hp;rw[he] at hlk
    by_cases hez:e=z
    . exact goOn (by rw[hlk,hez];rfl)
    . rw[hlk] at gt
      have ix:=axu (b:=.int x) k1 rfl;rw[show(Sum.inl (x:Int):Kx)=.inl (x:Int) from rfl,hlk] at ix;have lh:min e z<max e z:=by lia
      have hm:max e z∈ms g.b:=by
       rcases Nat.le_total e z with w|w
       . rw[Nat.max_eq_right w];exact hz
       . rw[Nat.max_eq_left w];exact hem
      have hlo:min e z∈ms g.b:=by
       rcases Nat.le_total e z with w|w
       . rw[Nat.min_eq_left w];exact hem
       . rw[Nat.min_eq_right w];exact hz
      have rp:=aw2 (W:=W) (M:=M1) (ρ:=[qi K r hs,D.ref pm,D.ref q,b3,D.int j,D.int g.a,D.int g.b,D.ref dd,D.int i,D.int x,D.int z,D.int (min e z:Nat),D.int (max e z:Nat)]) (x:=6) (y:=13) (lo:=min e z) (hi:=max e z) (by simp[fb]) lb (by rw[h1.len _ gb];have:=hL _ gb;exact a_ this (by decide)) rfl (by decide) rfl rfl;obtain⟨o,so,mk2⟩:=h1.set gb (ns:=Ib (min e z) (max e z) (ms g.b)) (by simp[Ib,h1.len _ gb]) (λy hy=>by
       obtain⟨w,hw,rfl⟩:=bf.mp hy;split
       . exact h1.lt _ gb _ hlo
       . exact h1.lt _ gb _ hw) (ai6 (h1.fx _ gb) (λx hx=>by rw[h1.len _ gb];exact h1.lt _ gb x hx) hlo) ht
      have ne:¬((e:Nat)=z):=hez;refine⟨_,.brk,_,M1.set pm o++[.dK []],rfl,?_,.inr ⟨rfl,some (.bl true),some (.ref (M1.set pm o).length),some (.int i),some (.int x),some (.int z),some (.int (min e z:Nat)),some (.int (max e z:Nat)),rfl,λa u na ha q=>?_,by simp;exact a_ (g_ h4) x_,.inr ⟨rfl,_,mk2.frame (λa u _ _ q=>xm q) ht,(aq1 (ai5 lh hm) K).2 gb⟩⟩⟩
      . simp only[zf] at gt
        simp[-eq_int,Cd,fa,fa2,fb,fj,fj2,fb2,ty,gt,abw,ne,ix,ai8,abx,Mf,rp,so,MW.new]
      . refine xm ?_
        rw[qx (j0 na)];exact h3 a u ha q
def Fm.trans(a:Fm pm n M M1)(b:Fm pm n M1 M2):Fm pm n M M2:=λx o h l e=>b x o h l (a x o h l e)
def Fm.le(a:Fm pm n M M1)(h:n'<=n):Fm pm n' M M1:=λx o q l e=>a x o q (b_ l h) e
theorem agx:∀{l:Y3}{c:Nat},(∀x∈l,x<=c)->l.sum<=l.length*c
 |[],_,_=>by simp
 |a::l,c,h=>by
  have h1:=h a (by simp);have h2:=agx (λx hx=>h x (bc _ hx));simp only[List.sum_cons,gw,Nat.succ_mul]
  lia
def a3o(mk:Mk t pm K L ms M)(hL:∀e,e<K->L e<=7)(hK:K<=3):Ye K ms<=200:=by
 have:∀x∈(List.range K).map λi=>(ms i).sum,x<=49:=λx hx=>by
  obtain⟨i,hi,rfl⟩:=bf.mp hx;have hi:=je.mp hi;have h1:=agx (l:=ms i) (c:=7) (λx hx=>by have:=mk.lt i hi x hx;have:=hL i hi;lia);have h2:=mk.len i hi;have h3:=hL i hi;have h4:(ms i).length*7<=7*7:=Nat.mul_le_mul_right 7 (a_ (f_ h2) h3)
  lia
 have h:=agx this;simp only[du,List.length_range] at h;have h5:K*49<=3*49:=Nat.mul_le_mul_right 49 hK
 unfold Ye
 lia
def Cgs(hs:List F)(as:List (List Nat))(n:Nat)(ms:Nat->List Nat):Prop:=∀(j:Nat)(g:F)(js:Y3),j<n->hs[j]?=some g->as[j]?=some js->Cg ms g js
def aq9(P:Kf sz K hs ie)(mk:Mk t pm K L ms M)(ac:Ac q hs L as M)(hpd:pm<M.length)(hqd:q<M.length)(hqp:q≠pm)(ht:t<pm)(hL:∀e,e<K->L e<=7) :
 ∃ρ' M',Mh.den W [qi K r hs,D.ref pm,D.ref q,b3,b4,b5,b6,b7,b8,b9,b10,K9,Rv] M=.ok (.next,ρ') M' /\
  ∃c3 c4 c5 c6 c7 c8 c9 c10 c11 c12 Ml,ρ'=[some (qi K r hs),some (.ref pm),some (.ref q),c3,c4,c5,c6,c7,c8,c9,c10,c11,c12]/\Fm pm M.length M M'/\M.length<=M'.length/\Mk t pm K L Ml M'/\((c3=b3/\Ml=ms/\Cgs hs as hs.length ms)\/(c3=some (.bl true)/\Ye K Ml<Ye K ms)):=by
 have hl:=P.len;refine Ax (W:=W) (t:=.name 4) (b:=Dk) (it:=.blt .len (.o (.ix (.v 0) (.i 1)))) (n:=hs.length) (M1:=M) (by simp[Oo,Qo]) (a_ hl (by decide))
  (λn ρ' M'=>∃c3 c4 c5 c6 c7 c8 c9 c10 c11 c12 Ml,ρ'=[some (qi K r hs),some (.ref pm),some (.ref q),c3,c4,c5,c6,c7,c8,c9,c10,c11,c12]/\Fm pm M.length M M'/\M.length<=M'.length/\Mk t pm K L Ml M'/\((c3=b3/\Ml=ms/\Cgs hs as n ms)\/(c3=some (.bl true)/\Ye K Ml<Ye K ms)))
  ⟨b3,b4,b5,b6,b7,b8,b9,b10,K9,Rv,ms,rfl,λ_ _ _ _ e=>e,bh _,mk,.inl ⟨rfl,rfl,λj g js h=>absurd h (ug _)⟩⟩ (λj ρ M1 hj hI=>?_)
 obtain⟨c3,c4,c5,c6,c7,c8,c9,c10,c11,c12,m1,rfl,f1,l1,k1,o1⟩:=hI;have hjg:hs[j]?=some hs[j]:=by simp[hj]
 have hg:=ao hjg;have k2:Mk t pm K L m1 (M1++[.dK []]):=k1.frame (λa o _ _ e=>xm e) ht;have ac2:Ac q hs L as (M1++[.dK []]):=⟨xm (f1 _ _ hqp hqd ac.at_),ac.len,ac.ok⟩;obtain⟨ρ2,M2,e2,d3,d7,d8,d9,d10,d11,d12,rfl,f2,l2,o2⟩:=aq6 (W:=W) (r:=r) (dd:=M1.length) (b3:=c3) (b8:=c8) (b9:=c9) (b10:=c10) (K9:=c11) (Rv:=c12) k2 ac2 hjg (P.V8 _ hg) (P.Rf _ hg) (by simp) (b_ hpd l1) (b_ hqd l1) hqp ht hL;have f3:Fm pm M.length M M2:=λa o na ha e=>f2 a o na (b_ ha l1) (xm (f1 a o na ha e))
 have l3:M.length<=M2.length:=by simp at l2;lia
 have pe:∀ρ,(Tg.names [5,6]).put (eD hs[j]) ρ=some ((ρ.set 5 (some (.int hs[j].a))).set 6 (some (.int hs[j].b))):=λ_=>rfl
 have run:Dk.den W [qi K r hs,D.ref pm,D.ref q,c3,D.int j,c5,c6,c7,c8,c9,c10,c11,c12] M1=.ok (.next,[some (qi K r hs),some (.ref pm),some (.ref q),d3,some (.int j),some (.int hs[j].a),some (.int hs[j].b),d7,d8,d9,d10,d11,d12]) M2:=by simp[Dk,Oo,Ud hjg,pe,MW.new,e2]
 refine⟨_,.next,_,M2,rfl,run,.inl rfl,?_⟩;rcases o2 with⟨rfl,k3,cg⟩|⟨rfl,m2,k3,t3⟩
 . rcases o1 with⟨rfl,rfl,cs⟩|⟨rfl,t1⟩
   . refine⟨_,_,_,_,_,_,_,_,_,_,m1,rfl,f3,l3,k3,.inl ⟨rfl,rfl,λj' g' js' h1 h2 h3=>?_⟩⟩
     by_cases z:j'=j
     . subst z
       rw[hjg] at h2;cases h2;exact cg _ h3
     . exact cs j' g' js' (by lia) h2 h3
   . exact⟨_,_,_,_,_,_,_,_,_,_,m1,rfl,f3,l3,k3,.inr ⟨rfl,t1⟩⟩
 . refine⟨_,_,_,_,_,_,_,_,_,_,m2,rfl,f3,l3,k3,.inr ⟨rfl,?_⟩⟩
   rcases o1 with⟨_,rfl,_⟩|⟨_,t1⟩<;>omega
def ali(hm:1<=m)(P:Kf sz K hs ie)(mk:Mk t pm K L ms M)(ac:Ac q hs L as M)(hpd:pm<M.length)(hqd:q<M.length)(hqp:q≠pm)(ht:t<pm)(hL:∀e,e<K->L e<=7) :
 ∃Ml M',prog.call m 27 [qi K r hs,.ref pm,.ref q] M=.ok (.ref pm) M'/\Mk t pm K L Ml M'/\Cgs hs as hs.length Ml/\Fm pm M.length M M'/\M.length<=M'.length:=by
 rw[call_of hm rfl];obtain⟨ρ',M',e,Ml,k1,cg,f1,l1,c,hρ⟩:∃ρ' M',Gu.den ⟨prog.call (m-1),prog.cls⟩ [qi K r hs,D.ref pm,D.ref q,D.bl true,none,none,none,none,none,none,none,none,none] M=.ok (.next,ρ') M' /\
  ∃Ml,Mk t pm K L Ml M'/\Cgs hs as hs.length Ml/\Fm pm M.length M M'/\M.length<=M'.length/\∃c:Env,ρ'=[some (qi K r hs),some (.ref pm)]++c:=by
  unfold Gu;rw[aad];refine Ox (λm ρ M'=>∃(Ml:Nat->List Nat)(b:Bool)(c:Env),ρ=[some (qi K r hs),some (.ref pm),some (.ref q),some (.bl b)]++c/\c.length=9/\Mk t pm K L Ml M'/\(b=false->Cgs hs as hs.length Ml)/\Fm pm M.length M M'/\M.length<=M'.length/\m=(if b then Ye K Ml+1 else 0))
   (fun ρ' M'=>∃Ml,Mk t pm K L Ml M'/\Cgs hs as hs.length Ml/\Fm pm M.length M M'/\M.length<=M'.length/\∃c:Env,ρ'=[some (qi K r hs),some (.ref pm)]++c) (λn ρ M1 hI=>?_) afv (Ye K ms+1) _ M (by have:=a3o mk hL P.k3;show Ye K ms+1<1000000;lia)
   ⟨ms,true,[none,none,none,none,none,none,none,none,none],rfl,rfl,mk,by simp,λ_ _ _ _ e=>e,bh _,rfl⟩
  obtain⟨m1,b,c,rfl,hc,k1,cg,f1,l1,rfl⟩:=hI
  match c,hc with
  |[c4,c5,c6,c7,c8,c9,c10,c11,c12],_ =>
  cases b with
  |false=>exact .inl ⟨M1,rfl,m1,k1,cg rfl,f1,l1,_,rfl⟩
  |true =>
   right
   obtain⟨ρ2,M2,e2,d3,d4,d5,d6,d7,d8,d9,d10,d11,d12,m2,rfl,f2,l2,k2,o2⟩:=aq9 (W:=⟨prog.call (m-1),prog.cls⟩) (r:=r) (as:=as) P k1 (⟨f1 _ _ hqp hqd ac.at_,ac.len,ac.ok⟩:Ac q hs L as M1) (b_ hpd l1) (b_ hqd l1) hqp ht hL (b3:=some (.bl false)) (b4:=c4) (b5:=c5) (b6:=c6) (b7:=c7) (b8:=c8) (b9:=c9) (b10:=c10) (K9:=c11) (Rv:=c12);have f3:Fm pm M.length M M2:=f1.trans (f2.le l1);have run:Gr.den ⟨prog.call (m-1),prog.cls⟩ [qi K r hs,D.ref pm,D.ref q,D.bl true,c4,c5,c6,c7,c8,c9,c10,c11,c12] M1=.ok (.next,[some (qi K r hs),some (.ref pm),some (.ref q),d3,d4,d5,d6,d7,d8,d9,d10,d11,d12]) M2:=by simp[Gr,e2]
   rcases o2 with⟨rfl,rfl,cs⟩|⟨rfl,t3⟩
   . exact⟨M1,.next,_,M2,0,rfl,run,.inl rfl,by simp,m2,false,[d4,d5,d6,d7,d8,d9,d10,d11,d12],rfl,rfl,k2,λ_=>cs,f3,a_ l1 l2,rfl⟩
   . exact⟨M1,.next,_,M2,Ye K m2+1,rfl,run,.inl rfl,by simp;exact t3,m2,true,[d4,d5,d6,d7,d8,d9,d10,d11,d12],rfl,rfl,k2,by simp,f3,a_ l1 l2,rfl⟩
 subst hρ;refine⟨Ml,M',?_,k1,cg,f1,l1⟩;simp only[zc,Aa] at e;simp[Fn.run,Pn,Pk,e]
theorem Xe{x y:Int}:∀{l:Xs},x∈insI y l↔x=y\/x∈l
 |[]=>by simp[insI]
 |a::l=>by
  unfold insI;split
  . simp
  . simp only[bz,Xe]
    constructor
    . rintro(h|h|h)
      . exact .inr (.inl h)
      . exact .inl h
      . exact .inr (.inr h)
    . rintro(h|h|h)
      . exact .inr (.inl h)
      . exact .inl h
      . exact .inr (.inr h)
theorem G9{x:Int}:∀{l:Xs},x∈sortI l↔x∈l
 |[]=>by simp[sortI]
 |a::l=>by
  have h:=G9 (x:=x) (l:=l);show x∈insI a (sortI l)↔_;rw[Xe,h];simp
set_option tactic.hygienic true in
theorem Ha{x:Int}:∀{l:Xs},x∈Ao l↔x∈l
 |[]=>by simp[Ao]
 |a::l=>by
  have h:=Ha (x:=x) (l:=l);unfold Ao;split
  . rename_i z
    rw[h];simp only[bz];exact⟨.inr,λq=>q.elim (λe=>e▸z) id⟩
  . simp only[bz,h]
theorem ae5(y:Int):∀l:List Int,(insI y l).length=l.length+1
 |[]=>rfl|a::l=>by unfold insI;split<;>simp[ae5 y l]
theorem Zt:∀l:List Int,(sortI l).length=l.length
 |[]=>rfl|a::l=>by show(insI a (sortI l)).length=_;rw[ae5,Zt l];rfl
theorem Zu:∀l:List Int,(Ao l).length<=l.length
 |[]=>bh _|a::l=>by have:=Zu l;unfold Ao;split<;>simp<;>omega
theorem aja:∀l:List Nat,Yo (l.map nD)=some (l.map λ(x:Nat)=>(x:Int))
 |[]=>rfl|a::l=>by show(Yo (l.map nD)).map _=_;rw[aja l];rfl
theorem ajb{y:Int}:∀{l:Xs},l.Nodup->y∉l->(insI y l).Nodup
 |[],_,_=>by simp[insI]
 |a::l,h,hy=>by
  have h1:=mq.mp h;have h2:y≠a/\y∉l:=by simpa using hy
  unfold insI;split
  . exact mq.mpr ⟨hy,h⟩
  . refine mq.mpr ⟨λz=>?_,ajb h1.2 h2.2⟩
    rcases Xe.mp z with z|z
    . exact h2.1 z.symm
    . exact h1.1 z
theorem ae6:∀{l:Xs},l.Nodup->(sortI l).Nodup
 |[],_=>yc
 |a::l,h=>by
  have h1:=mq.mp h;exact ajb (ae6 h1.2) (λz=>h1.1 (G9.mp z))
set_option tactic.hygienic true in
theorem Xf:∀l:List Int,(Ao l).Nodup
 |[]=>yc
 |a::l=>by
  unfold Ao;split
  . exact Xf l
  . rename_i h
    exact mq.mpr ⟨λz=>h (Ha.mp z),Xf l⟩
def agy{l:Y3}(h:fc M d=some (l.map nD))(hz:l.length<31):∃hl:List Nat,v7 .Fw [d] M=.ok (.vl (hl.map nD)) M/\hl.length<=l.length/\hl.Nodup/\∀x,x∈hl↔x∈l:=by
 refine⟨(sortI (Ao (l.map λ(x:Nat)=>(x:Int)))).map Int.toNat,?_,?_,?_,λx=>?_⟩
 . show Res.vg (((fc M d).bind Yo).bind λis=>if is.length<31 then some (D.vl ((sortI (Ao is)).map D.int)) else none) M=_
   rw[h,uw,aja,uw,cz (by simpa using hz)];have:((sortI (Ao (l.map λ(x:Nat)=>(x:Int)))).map Int.toNat).map nD=(sortI (Ao (l.map λ(x:Nat)=>(x:Int)))).map D.int:=by rw[zj];apply qu;intro y hy;rw[G9,Ha] at hy;obtain⟨z,_,rfl⟩:=bf.mp hy;simp[nD]
   rw[this];rfl
 . rw[du,Zt]
   have:=Zu (l.map λ(x:Nat)=>(x:Int));simpa using this
 . have nd:=ae6 (Xf (l.map λ(x:Nat)=>(x:Int)))
   rw[m9,Ah];refine List.Pairwise.imp_of_mem (fun{a b} ha hb hab e=>hab ?_) (m9.mp nd);rw[G9,Ha] at ha hb;obtain⟨x,_,rfl⟩:=bf.mp ha;obtain⟨y,_,rfl⟩:=bf.mp hb;simp only[u9] at e;rw[e]
 . constructor
   . intro h
     obtain⟨y,hy,rfl⟩:=bf.mp h;rw[G9,Ha] at hy;obtain⟨z,hz,rfl⟩:=bf.mp hy;simpa using hz
   . intro h
     refine bf.mpr ⟨(x:Int),?_,by simp⟩;rw[G9,Ha];exact bf.mpr ⟨x,h,rfl⟩
def alj(hρ:ρ.length=19)(h3:ρ[3]?=some (some (.vl (mz p K))))(h:RS p K rs M)(hK:K<=3)(h7:∀e,e<K->(rs e).length<=7)(ht:t<M.length) :
 ∃M',Hr.den W ρ M=.ok (.ref (M.length+K)) M'/\Mk t (M.length+K) K (λe=>(rs e).length) (λe=>List.range (rs e).length) M'/\Bo M M'/\M'.length=M.length+K+1:=by
 unfold Hr;obtain⟨ys,M1,e,r1,r2,r3,r4⟩:=Fz (W:=W) (v:=false) (k:=1) (t:=.name 19) (it:=.v 3) (e:=.afr (.l (.v 19))) (ρ:=ρ) (M:=M) (M1:=M) (d:=.vl (mz p K)) (ds:=mz p K) (by simp[h3]) rfl (by simp[mz];exact a_ hK (by decide))
  (λi xs M'=>xs=mz M.length i/\(∀e,e<i->M'[M.length+e]?=some (.lst ((List.range (rs e).length).map nD)))/\Bo M M'/\M'.length=M.length+i) ⟨rfl,λe he=>absurd he (ug _),Bo.refl M,rfl⟩ (λ_ _ _ _=>rfl)
  (λi y xs M' hy hI=>by
   obtain⟨rfl,q1,q2,q3⟩:=hI;have hi:i<K:=by have:=(ak.mp hy).1;simpa[mz] using this
   obtain rfl:D.ref (p+i)=y:=by simpa[mz,hi] using hy
   have ln:=len_list (qg (q2 _ _ (h i hi)));have e1:(ρ++List.replicate 1 none).set 19 (some (.ref (p+i)))=ρ++[some (.ref (p+i))]:=by rw[Bh];simp[hρ]
   have g9:(ρ++[some (D.ref (p+i))])[19]?=some (some (.ref (p+i))):=by rw[<- hρ];simp
   refine⟨_,.ref M'.length,M'++[.lst ((List.range (rs i).length).map nD)],rfl,?_,?_,λe he=>?_,q2.trans (Bo.app _ _),by simp[q3];exact rfl⟩
   . have h8:=h7 i hi
     have h9:(rs i).length<=100000:=a_ h8 (by decide)
     rw[e1];simp[g9,ln,h9,MW.new,nD]
   . simp[mz,yj,q3]
   . by_cases z:e=i
     . subst z;rw[<- q3];simp
     . exact xm (q1 e (by lia)))
 have hlr:(mz p K).length=K:=by simp[mz]
 rw[hlr] at r1 r2 r4;refine⟨M1++[.lst ys],by rw[e];simp[MW.new,r4],⟨⟨ys,by rw[<- r4];simp,by rw[r1];simp[mz],λi hi=>?_⟩,λi hi=>by simp,λi hi x hx=>je.mp hx,λi hi x hx=>by simp[je.mp hx]⟩,r3.trans (Bo.app _ _),by simp[r4]⟩;refine⟨.ref (M.length+i),by rw[r1];simp[mz,hi],qg (xm (r2 i hi)),λa q=>?_⟩;cases q;exact⟨b_ ht x_,H_ hi⟩
def Mk.st(h:Mk t pm K L ms M)(s:St t f M M')(ht:t<pm):Mk t pm K L ms M':=h.frame (λa o ha _ e=>s.keep a o (i_ ha) e) ht
def Ac.of(h:Ac q hs L as M)(k:∀o,M[q]?=some o->M'[q]?=some o):Ac q hs L as M':=⟨k _ h.at_,h.len,h.ok⟩
def aw6(hm:1<=m)(P:Kf sz K hs ie)(hh:S8 t f M)(mk:Mk t pm K L ms M)(ac:Ac q hs L as M)(htp:t<p)(hp:p<=pm)(hpd:pm<M.length)(hq:p<=q)(hqp:q≠pm)(hqd:q<M.length)(hL:∀e,e<K->L e<=7)(hc:Cgs hs as hs.length ms) :
 ∃c5 c11 c12 c14 c15 Ml M',Cv.den ⟨prog.call m,prog.cls⟩ [D.ref t,qi K r hs,a2,a3,b4,b5,b6,b7,b8,D.ref q,b10,K9,Rv,D.ref pm,b14,b15,n16,n17,n18] M =
  .ok (.next,[some (.ref t),some (qi K r hs),a2,a3,b4,c5,b6,b7,b8,some (.ref q),b10,c11,c12,some (.ref pm),c14,c15,n16,n17,n18]) M'/\Mk t pm K L Ml M'/\Cgs hs as hs.length Ml/\Ac q hs L as M'/\Gs t f p M M':=by
 have h3:=P.k3;obtain⟨k,M1,e1,l1,s1,n1⟩:=Bx (many:=K) hm hh (by have:=P.k1;exact m_ this) (m_ (c_ h3 (by decide)));obtain⟨x,M2,e2,l2,s2,n2⟩:=Bx (many:=7) hm s1.has (by decide) (by decide);obtain⟨y,M3,e3,l3,s3,n3⟩:=Bx (many:=7) hm s2.has (by decide) (by decide);have hk:k<K:=o_ l1
 have s:=s1.trans (s2.trans s3);have mk3:=mk.st s (b_ htp hp);have ac3:Ac q hs L as M3:=ac.of λo e=>s.keep _ _ (i_ (b_ htp hq)) e
 obtain⟨dk,fk,lk⟩:=mk3.row hk;have hlk:=mk3.len _ hk;have ln:=len_list lk;simp only[du,hlk] at ln;have mx:=abx M3 x y
 by_cases c:max x y<L k
 . have c':((max x y:Nat):Int)<(L k:Int):=m_ c
   have hx:x<(ms k).length:=by lia
   have hy:y<(ms k).length:=by lia
   have ix:=Qt lk hx;have iy:=Qt lk hy;have hxm:=getD_mem' hx;have hym:=getD_mem' hy;generalize hx0:(ms k).getD x 0=u at ix hxm;generalize hy0:(ms k).getD y 0=w at iy hym;have hlo:min u w∈ms k:=by
    rcases Nat.le_total u w with z|z
    . rw[Nat.min_eq_left z];exact hxm
    . rw[Nat.min_eq_right z];exact hym
   have rp:=ae4 (W:=⟨prog.call m,prog.cls⟩) (M:=M3) (ρ:=[D.ref t,qi K r hs,a2,a3,b4,D.int k,b6,b7,b8,D.ref q,b10,D.int x,D.int y,D.ref pm,D.int (min u w:Nat),D.int (max u w:Nat),n16,n17,n18]) (v:=13) (x:=5) (y:=19) (a:=14) (b:=15) (lo:=min u w) (hi:=max u w) (by simp[fk]) lk (by have:=hL _ hk;exact a_ (f_ hlk) (a_ this (by decide))) rfl rfl rfl;obtain⟨o,so,mk4⟩:=mk3.set hk (ns:=Ib (min u w) (max u w) (ms k)) (by simp[Ib,hlk]) (λz hz=>by
    obtain⟨v,hv,rfl⟩:=bf.mp hz;split
    . exact mk3.lt _ hk _ hlo
    . exact mk3.lt _ hk _ hv) (ai6 (mk3.fx _ hk) (λx hx=>by rw[hlk];exact mk3.lt _ hk x hx) hlo) (b_ htp hp)
   have ac4:Ac q hs L as (M3.set pm o):=ac3.of λo e=>by rw[qx (j0 hqp)];exact e
   have hl3:M3.length=M.length:=u_ (a_ (f_ n3) (a_ (f_ n2) (f_ n1))) (a_ (g_ n1) (a_ (g_ n2) (g_ n3)));obtain⟨Ml,M5,e5,mk5,cg5,f5,l5⟩:=ali (r:=r) (M:=M3.set pm o) hm P mk4 ac4 (by simp;exact b_ hpd (g_ hl3)) (by simp;exact b_ hqd (g_ hl3)) hqp (b_ htp hp) hL;have ac5:Ac q hs L as M5:=ac4.of λo e=>f5 _ _ hqp (by simp;exact b_ hqd (g_ hl3)) e
   refine⟨some (.int k),some (.int x),some (.int y),some (.int (min u w:Nat)),some (.int (max u w:Nat)),Ml,M5,?_,mk5,cg5,ac5,⟨?_,λa v ha na e=>?_,by simp at l5;exact a_ (g_ hl3) l5⟩⟩
   . simp[Cv,Qa,e1,e2,e3,mx,fk,ln,c',ix,iy,ai8,abx,Nr,rp,so,e5]
   . obtain⟨n,hn,ho⟩:=s.has
     exact⟨n,f5 _ _ (h_ (b_ htp hp)) (by have:=wz hn;simp;exact this) (by rw[qx (i_ (b_ htp hp))];exact hn),ho⟩
   . refine f5 _ _ (h_ (b_ ha hp)) (by have:=wz e;simp;exact b_ this (g_ hl3)) ?_
     rw[qx (i_ (b_ ha hp))];exact s.keep a v na e
 . have c':¬((max x y:Nat):Int)<(L k:Int):=by lia
   refine⟨some (.int k),some (.int x),some (.int y),b14,b15,ms,M3,?_,mk3,hc,ac3,Gs.ae2 s⟩;simp[Cv,Qa,e1,e2,e3,mx,fk,ln,c']
noncomputable def jz(Rx:Y3)(U9:List (List Nat)):D:=.tup [.tup (Rx.map nD),.tup (U9.map λjs=>.tup (js.map nD))]
def ara(h:.int v∈ds):ixI v ds<ds.length:=by
 unfold ixI;cases q:ds.findIdx? (λd=>match d with|.int i=>decide (i=v)|_=>false) with
 |some j=>exact(qm.mp q).1
 |none =>
  rw[vy] at q;have:=q _ h;simp at this
def aw7:∀{ds:List D},(∀d∈ds,∃i:Int,d=.int i)->.int v∈ds->ds[ixI v ds]?=some (.int v):=fun{ds} hi h=>by
 unfold ixI;cases q:ds.findIdx? (λd=>match d with|.int i=>decide (i=v)|_=>false) with
 |some j =>
  obtain⟨h1,h2,_⟩:=qm.mp q;obtain⟨i,ei⟩:=hi ds[j] (pq h1);rw[ei] at h2;have:i=v:=by simpa using h2
  simp[h1,ei,this]
 |none =>
  rw[vy] at q;have:=q _ h;simp at this
def arb(l:Y3):∀d∈l.map nD,∃i:Int,d=.int i:=λd hd=>by obtain⟨x,_,rfl⟩:=bf.mp hd;exact⟨_,rfl⟩
def arc{l:Y3}(h:x∈l):.int (x:Int)∈l.map nD:=bf.mpr ⟨x,h,rfl⟩
noncomputable def ixo(l:Y3)(x:Nat):Nat:=ixI (x:Int) (l.map nD)
def agz(h:x∈l):ixo l x<l.length:=by have:=ara (arc h);simpa[ixo] using this
def ajc{l:Y3}(h:x∈l):l.getD (ixo l x) 0=x:=by have h1:=aw7 (arb l) (arc h);have h2:=agz h;unfold ixo at h2 ⊢;rw[gr,cj h2] at h1;simp[nD] at h1;rw[dg,cj h2];simp only[zf];exact D_ h1
noncomputable def Ry(ms:Nat->List Nat)(g:F)(js la lb:Y3):List Nat:=la.map λth=>ixo lb ((ms g.b).getD (js.getD th 0) 0)
noncomputable def Ci(U9:List (List Nat))(x:Nat)(w:Int):Nat:=if w=-1 then x else(U9.getD w.toNat []).getD x 0
structure Lj(K:Nat)(hs:List F)(Rx:Y3)(U9:List (List Nat)):Prop where
 ls:Rx.length=K
 la:U9.length=hs.length
 sm:∀x∈Rx,x<=7
 ok:∀(j:Nat)(g:F)(js:Y3),hs[j]?=some g->U9[j]?=some js->js.length=Rx.getD g.a 0/\∀x∈js,x<Rx.getD g.b 0
 fu:∀(j1 j2:Nat)(g1 g2:F)(a1 a2:Y3),hs[j1]?=some g1->hs[j2]?=some g2->g1.b=g2.a->U9[j1]?=some a1->U9[j2]?=some a2->∀x,x<a1.length->a2.getD (a1.getD x 0) 0=Ci U9 x (ent hs g1 g2)
noncomputable def Tu(l:Y3):D:=.vl (l.map nD)
def ard(hρ:ρ.length=19)(h13:ρ[13]?=some (some (.ref pm)))(mk:Mk t pm K L ms M)(hK:K<=3)(h7:∀i,i<K->L i<=7) :
 ∃hl:List (List Nat),Hq.den W ρ M=.ok (.vl (hl.map Tu)) M/\hl.length=K/\∀e l,hl[e]?=some l->l.length<=L e/\l.Nodup/\∀x,x∈l↔x∈ms e:=by
 obtain⟨mds,h1,h2,h3⟩:=mk.ex;unfold Hq;obtain⟨ys,M',e,rfl,hl,r1,r2,r3⟩:=Fz (W:=W) (v:=true) (k:=1) (t:=.name 19) (it:=.v 13) (e:=.blt .Fw (.o (.v 19))) (ρ:=ρ) (M:=M) (M1:=M) (d:=.ref pm) (ds:=mds) (by simp[h13]) (qg h1) (a_ (f_ h2) (a_ hK (by decide)))
  (λi xs M'=>M'=M/\∃hl:List (List Nat),xs=hl.map Tu/\hl.length=i/\∀e l,hl[e]?=some l->l.length<=L e/\l.Nodup/\∀x,x∈l↔x∈ms e) ⟨rfl,[],rfl,rfl,by simp⟩ (λi xs M' h=>by rw[h.1];exact qg h1)
  (λi y xs M' hy hI=>by
   obtain⟨rfl,hl,rfl,q1,q2⟩:=hI;have hi:i<K:=by have:=(ak.mp hy).1;exact b_ this (f_ h2)
   obtain⟨d,g1,g2,_⟩:=h3 i hi;rw[hy] at g1;cases g1;obtain⟨l,k1,k2,k4,k3⟩:=agy g2 (by have:=h7 i hi;have:=mk.len i hi;lia);have e1:(ρ++List.replicate 1 none).set 19 (some y)=ρ++[some y]:=by rw[Bh];simp[hρ]
   have g9:(ρ++[some y])[19]?=some (some y):=by rw[<- hρ];simp
   refine⟨_,Tu l,M',rfl,by rw[e1];simp[g9,k1,Tu],rfl,hl++[l],by simp,by simp[q1],λe l' he=>?_⟩
   by_cases z:e<hl.length
   . rw[dj z] at he;exact q2 e l' he
   . have ze:e=i:=by have:=(ak.mp he).1;simp at this;lia
     subst ze;rw[jb (s_ z),q1] at he;simp at he;subst he;rw[<- mk.len e hi];exact⟨k2,k4,k3⟩)
 refine⟨hl,by rw[e,r1];rfl,r2.trans h2,r3⟩
def arf{hl:List (List Nat)}{i:Nat}(h:hl[i]?=some l):yu (.vl (hl.map Tu)) (.int i) M=some (Tu l):=Cj rfl q_ (by simp[h])
def aln{hl:List (List Nat)}(mk:Mk t pm K L ms M)(ac:Ac q hs L as M){j:Nat}(hj:hs[j]?=some g)(ej:as[j]?=some js)(ga:g.a<K)(gb:g.b<K)(h1:hl[g.a]?=some la)(h2:hl[g.b]?=some lb)(hma:∀x,x∈la↔x∈ms g.a)(hmb:∀x,x∈lb↔x∈ms g.b)(h7:la.length<=7)(hw:M[w]?=some (.lst td))(htd:td.length<100000) :
 ∃(c18:Option D)(zs:Y3),Ec.den W [a0,qi K r hs,a2,a3,b4,b5,b6,b7,b8,D.ref q,D.int j,K9,Rv,D.ref pm,b14,b15,D.vl (hl.map Tu),D.ref w,b18] M =
  .ok (.next,[a0,some (qi K r hs),a2,a3,b4,b5,b6,b7,b8,some (.ref q),some (.int j),some (.int g.a),some (.int g.b),some (.ref pm),b14,b15,some (.vl (hl.map Tu)),some (.ref w),c18]) (M.set w (.lst (td++[.tup (zs.map nD)])))/\zs=Ry ms g js la lb/\zs.length=la.length/\∀x∈zs,x<lb.length:=by
 obtain⟨js',ej',fj,lj,rj⟩:=ac.get hj;rw[ej] at ej';cases ej';obtain⟨db,fb,lbm⟩:=mk.row gb;have hz:∀th∈la,js.getD th 0<(ms g.b).length/\th<js.length:=λth h=>by
  have h3:=mk.lt _ ga th ((hma th).mp h);have h4:th<js.length:=b_ h3 (g_ lj)
  exact⟨by rw[mk.len _ gb];exact rj _ (getD_mem' h4),h4⟩
 have c3:Ho.den W [a0,qi K r hs,a2,a3,b4,b5,b6,b7,b8,D.ref q,D.int j,D.int g.a,D.int g.b,D.ref pm,b14,b15,D.vl (hl.map Tu),D.ref w,b18] M=.ok (Tu (la.map λth=>(ms g.b).getD (js.getD th 0) 0)) M:=by
  unfold Ho;rw[Ay (d:=Tu la) (ds:=la.map nD) (M1:=M) (g:=λd=>match d with|.int o=>nD ((ms g.b).getD (js.getD o.toNat 0) 0)|_=>.non) (by simp[arf h1]) rfl (by simp;exact a_ h7 (by decide)) (λz hz'=>by
   obtain⟨th,hth,rfl⟩:=bf.mp hz';obtain⟨k1,k2⟩:=hz th hth;refine⟨_,rfl,?_⟩;have i1:yu (.vl (js.map nD)) (.int th) M=some (.int (js.getD th 0)):=Qt rfl k2;have i2:=Qt lbm k1;show(Ex.ix (.ix (.v 13) (.v 12)) (.ix (.ix (.v 9) (.v 10)) (.v 19))).den W [a0,qi K r hs,a2,a3,b4,b5,b6,b7,b8,D.ref q,D.int j,D.int g.a,D.int g.b,D.ref pm,b14,b15,D.vl (hl.map Tu),D.ref w,b18,D.int th] M=.ok (nD ((ms g.b).getD (js.getD (th:Int).toNat 0) 0)) M;rw[u9];generalize js.getD th 0=yy at i1 i2;generalize(ms g.b).getD yy 0=zz at i2;simp[fb,fj,i1,i2,nD])]
  simp[Tu,nD]
 have Xr:∀z∈la.map (λth=>(ms g.b).getD (js.getD th 0) 0),.int (z:Int)∈lb.map nD:=λz h=>by obtain⟨th,hth,rfl⟩:=bf.mp h;exact bf.mpr ⟨_,(hmb _).mpr (getD_mem' (hz th hth).1),rfl⟩
 generalize bac:la.map (λth=>(ms g.b).getD (js.getD th 0) 0)=row at c3 Xr;have hrl:row.length=la.length:=by rw[<- bac];simp
 have c2:Hn.den W [a0,qi K r hs,a2,a3,b4,b5,b6,b7,b8,D.ref q,D.int j,D.int g.a,D.int g.b,D.ref pm,b14,b15,D.vl (hl.map Tu),D.ref w,Tu row] M=.ok (.vl ((row.map λ(z:Nat)=>ixI (z:Int) (lb.map nD)).map nD)) M:=by
  unfold Hn;rw[Ay (d:=Tu row) (ds:=row.map nD) (M1:=M) (g:=λd=>match d with|.int o=>nD (ixI o (lb.map nD))|_=>.non) (by simp) rfl (by simp;exact a_ (f_ hrl) (a_ h7 (by decide))) (λz hz'=>by
   obtain⟨o,ho,rfl⟩:=bf.mp hz';refine⟨_,rfl,?_⟩;have i1:=aqu (M:=M) (ds:=lb.map nD) (v:=(o:Int)) (λd hd=>by obtain⟨x,_,rfl⟩:=bf.mp hd;exact⟨_,rfl⟩) (Xr o ho);show(Ex.bm .index (.ix (.v 16) (.v 12)) (.o (.v 19))).den W [a0,qi K r hs,a2,a3,b4,b5,b6,b7,b8,D.ref q,D.int j,D.int g.a,D.int g.b,D.ref pm,b14,b15,D.vl (hl.map Tu),D.ref w,Tu row,D.int o] M=_;simp[arf h2,Tu,Qh,i1,nD])]
  simp[nD]
 refine⟨some (Tu row),row.map λ(z:Nat)=>ixI (z:Int) (lb.map nD),?_,by rw[<- bac,zj];rfl,by simp[hrl],λx hx=>?_⟩
 . have pe:∀ρ,(Tg.names [11,12]).put (eD g) ρ=some ((ρ.set 11 (some (.int g.a))).set 12 (some (.int g.b))):=λ_=>rfl
   have ap:=G6 (d:=.tup ((row.map λ(z:Nat)=>ixI (z:Int) (lb.map nD)).map nD)) hw htd;simp only[zj] at c2 ap ⊢;simp[-List.map_map,Ec,Oo,Ud hj,pe,c3,c2,Hc hw,Hy,ap]
 . obtain⟨z,hz',rfl⟩:=bf.mp hx
   have:=ara (Xr z hz');simpa using this
def a3r(h:nD a=nD b):a=b:=by simp only[nD,D.int.injEq,Ba] at h;exact h
def ag0(hs:List F)(k:Nat):(u0 hs k).Nodup:=by
 refine mq.mpr ⟨λh=>?_,?_⟩
 . obtain⟨x,_,e⟩:=bf.mp h
   simp[nD] at e
 . rw[m9,Ah]
   exact((m9.mp List.nodup_range).filter _).imp λh e=>h (a3r e)
def ari(hs:List F)(k g:Nat):(wT hs k g).Nodup:=(ag0 hs k).filter _
def ajd(h:Zr n k w=Zr n' k' w'):n=n'/\k=k'/\w=w':=by simp only[Zr,D.tup.injEq,List.cons.injEq,D.int.injEq,Ba,and_true] at h;exact h
def Xg(nd:(ad.map (·.1)).Nodup)(e:Nat):(rowsOf hs ad e).Nodup:=by
 rw[m9];unfold rowsOf;rw[List.pairwise_flatMap];refine⟨λp _=>?_,?_⟩
 . rw[Ah]
   exact(m9.mp (ari hs p.2 e)).imp λh q=>h (ajd q).2.2
 . rw[m9,Ah] at nd
   exact nd.imp λh x hx y hy q=>by obtain⟨u,_,rfl⟩:=bf.mp hx;obtain⟨v,_,rfl⟩:=bf.mp hy;exact h (ajd q).1
def Kg{α:Type}{l:List α}(h:l.Nodup){i:Nat}{x:α}(h1:l[i]?=some x)(h2:l[j]?=some x):i=j:=by have hi:=(ak.mp h1).1;exact(List.getElem?_inj hi h).mp (h1.trans h2.symm)
def Zv{j:Nat}(h:bothW hs ie x j=some (.int v)):bv hs ie j (.int x)=v:=by simp[bv,h]
def aw8(P:Kf sz K hs ie)(h1:hs[j1]?=some g1)(h2:hs[j2]?=some g2)(e:g1.b=g2.a)(hx:.int x∈wT hs k g1.a) :
 (ent hs g1 g2=-1/\(g1.comp g2).Pa/\bv hs ie j2 (.int (bv hs ie j1 (.int x)))=x)\/∃j3:Nat,ent hs g1 g2=j3/\hs[j3]?=some (g1.comp g2)/\bv hs ie j2 (.int (bv hs ie j1 (.int x)))=bv hs ie j3 (.int x):=by
 have n1:¬((j1:Int)=-1):=by lia
 have n2:¬((j2:Int)=-1):=by lia
 have m1:=ao h1;have m2:=ao h2;have Rv:bothW hs ie j1 j2=some (.int (ent hs g1 g2)):=by rw[bothW,bw n1,bw n2];exact P.look h1 h2 e
 obtain⟨w1,w2⟩:=agw hx;rcases Ii w1 with q|⟨i,f,q,hf,ef⟩
 . cases q
   have c1:bothW hs ie (-1) j1=some (.int j1):=by simp[bothW]
   rw[Zv c1,Zv Rv,Ju];rcases P.Cy (P.cl g1 m1 g2 m2 e) with⟨x1,i1⟩|⟨u,hu,x1⟩
   . exact .inl ⟨x1,i1,x1⟩
   . refine .inr ⟨u,x1,hu,?_⟩
     rw[x1,Zv (v:=u) (by simp[bothW])]
 . cases q
   have ni:¬((i:Int)=-1):=by lia
   rw[Gf hf] at w2;have c1:bothW hs ie i j1=some (.int (ent hs f g1)):=by rw[bothW,bw ni,bw n1];exact P.look hf h1 w2
   obtain⟨v,v1,v2⟩:=P.anz hf h1 h2 w2 e;rw[Zv c1,Zv v1];rw[Ju] at v2 ⊢;rcases P.Cy (P.cl g1 m1 g2 m2 e) with⟨x1,i1⟩|⟨u,hu,x1⟩
   . rw[x1] at v2
     rw[bothW,bw ni,cz rfl] at v2;cases v2;exact .inl ⟨x1,i1,rfl⟩
   . rw[x1] at v2
     exact .inr ⟨u,x1,hu,(Zv v2).symm⟩
def alo(h:l.Nodup)(hx:x<l.length):ixo l (l.getD x 0)=x:=by
 have m:l.getD x 0∈l:=getD_mem' hx;have h1:=ajc m;have h2:=agz m;refine Kg h (x:=l.getD x 0) ?_ ?_
 . rw[cj h2]
   rw[dg,cj h2] at h1;simpa using h1
 . rw[cj hx,dg,cj hx];rfl
def Xh(hx:x<la.length):(Ry ms g js la lb).getD x 0=ixo lb ((ms g.b).getD (js.getD (la.getD x 0) 0) 0):=getD_map (α:=Nat) hx
def func(P:Kf sz K hs ie){hd:List (List Nat)}(nd:(ad.map (·.1)).Nodup)(ml:∀e,e<K->(ms e).length=(rowsOf hs ad e).length)(mlt:∀e,e<K->∀x∈ms e,x<(rowsOf hs ad e).length)(fx:∀e,e<K->∀x∈ms e,(ms e).getD x 0=x)(cg:Cgs hs as hs.length ms)(ae:∀(j:Nat) (g:F) (js:Y3),hs[j]?=some g->as[j]?=some js->Ae hs ie ad j g js)(hh:∀e l,hd[e]?=some l->l.Nodup/\∀x,x∈l↔x∈ms e){j1 j2:Nat}(h1:hs[j1]?=some g1)(h2:hs[j2]?=some g2)(e:g1.b=g2.a)(q1:as[j1]?=some s1)(q2:as[j2]?=some s2)(hla:hd[g1.a]?=some la)(hlb:hd[g1.b]?=some lb)(hlc:hd[g2.b]?=some lc)(hx:x<la.length) :
 (ent hs g1 g2=-1/\(Ry ms g2 s2 lb lc).getD ((Ry ms g1 s1 la lb).getD x 0) 0=x) \/
  ∃j3:Nat,ent hs g1 g2=j3/\hs[j3]?=some (g1.comp g2)/\∀s3,as[j3]?=some s3->(Ry ms g2 s2 lb lc).getD ((Ry ms g1 s1 la lb).getD x 0) 0=(Ry ms (g1.comp g2) s3 la lc).getD x 0:=by
 have m1:=ao h1;have m2:=ao h2;have ka:=P.V8 g1 m1;have kb:=P.Rf g1 m1;have kc:=P.Rf g2 m2;obtain⟨na,ma⟩:=hh _ _ hla;obtain⟨_,mb⟩:=hh _ _ hlb;have A1:=ae _ _ _ h1 q1;have A2:=ae _ _ _ h2 q2;have hm:=(ma _).mp (getD_mem' hx);generalize hh0:la.getD x 0=h at hm;have Ir:=mlt _ ka h hm;obtain⟨n,k,w,_,hw,er⟩:=Ij (pq Ir);have r0:(rowsOf hs ad g1.a)[h]?=some (Zr n k (.int w)):=by rw[cj Ir,er]
 have r1:=A1.go _ _ _ _ r0;have r2:=A2.go _ _ _ _ (by rw[<- e];exact r1);have l1:s1.getD h 0<(ms g1.b).length:=by rw[ml _ kb];exact(ak.mp r1).1
 have v1:=getD_mem' l1;have yl:=agz ((mb _).mpr v1);rw[Xh hx,hh0,Xh yl,ajc ((mb _).mpr v1)];have c1:(ms g2.b).getD (s2.getD ((ms g1.b).getD (s1.getD h 0) 0) 0) 0=(ms g2.b).getD (s2.getD (s1.getD h 0) 0) 0:=by
  have j2l:=(ak.mp h2).1;refine cg j2 g2 s2 j2l h2 q2 _ _ ?_ ?_ ?_
  . rw[A2.len,<- e];exact mlt _ kb _ v1
  . rw[A2.len,<- e,<- ml _ kb];exact l1
  . rw[<- e];exact fx _ kb _ v1
 rw[c1];rcases aw8 P h1 h2 e hw with⟨e1,i1,b1⟩|⟨j3,e1,h3,b1⟩
 . left
   refine⟨e1,?_⟩;have ab:g1.a=g2.b:=i1.1;rw[b1,<- ab] at r2;rw[<- ab] at hlc;rw[hla] at hlc;cases hlc;rw[Kg (Xg nd _) r2 r0,<- ab,fx _ ka h hm,<- hh0,alo na hx]
 . right
   refine⟨j3,e1,h3,λs3 q3=>?_⟩;have A3:=ae _ _ _ h3 q3;have r3:=A3.go h n k w r0;rw[Xh hx,hh0];rw[b1] at r2;have:s2.getD (s1.getD h 0) 0=s3.getD h 0:=Kg (Xg nd g2.b) r2 r3;rw[this];rfl
def arj(hm:2<=m)(P:Kf sz K hs ie)(hh:S8 t f M)(hr:M[r]?=some (.dT ie))(hrt:r≠t) :
 ∃Rx U9 M',prog.call m 28 [.ref t,qi K r hs,.int 2] M=.ok (jz Rx U9) M'/\Lj K hs Rx U9/\St t f M M':=by
 rw[call_of (a_ (by decide) hm) rfl];have h3:=P.k3;have hl:=P.len;have ht:t<M.length:=by obtain⟨n,h,_⟩:=hh;exact wz h
 have hrl:=wz hr;have r0:=aqv (W:=⟨prog.call (m-1),prog.cls⟩) (M:=M) (K:=K) (y:=19) (e:=.ix (.v 1) (.i 0)) (ρ:=[D.ref t,qi K r hs,D.int 2,none,none,none,none,none,none,none,none,none,none,none,none,none,none,none,none]) rfl (by simp[Qa]) (a_ h3 (by decide));have g0:Gs t f M.length M (M++List.replicate K (.lst [])):=Gs.app hh (bh _) _;have w0:Rw hs K M.length [] (M++List.replicate K (.lst [])):=⟨λi hi=>by
  rw[jb x_];simp[rowsOf,hi],by simp,by simp[rowsOf],yc⟩
 obtain⟨v,M1,e1,l1,s1,n1⟩:=Bx (many:=3) (m:=m-1) (r_ hm) g0.has (by decide) (by decide);obtain⟨ρ2,M2,e2,⟨b4,b5,b6,b7,b8,rfl⟩,ad,w2,Xv,g2,n2⟩:=Ax (W:=⟨prog.call (m-1),prog.cls⟩) (t:=.name 4) (b:=Cw) (it:=.call 14 (.p (.v 0) (.bin .add (.v 2) (.i 1)))) (n:=v)
  (ρ:=[some (.ref t),some (qi K r hs),some (.int 2),some (.vl (mz M.length K)),none,none,none,none,none]++[none,none,none,none,none,none,none,none,none,none]) (M:=M++List.replicate K (.lst [])) (M1:=M1) (by simp[e1]) (e_ (b_ (o_ l1) (by decide)))
  (λi ρ M'=>(∃b4 b5 b6 b7 b8:Option D,ρ=[some (.ref t),some (qi K r hs),some (.int 2),some (.vl (mz M.length K)),b4,b5,b6,b7,b8]++[none,none,none,none,none,none,none,none,none,none])/\∃ad,Rw hs K M.length ad M'/\(∀q∈ad,q.1<i)/\Gs t f M.length M M'/\M'.length=M.length+K)
  ⟨⟨none,none,none,none,none,rfl⟩,[],⟨w0.rs.keep s1 ht,w0.kd,w0.le,w0.nd⟩,by simp,g0.trans (Gs.ae2 s1),by simp at n1;exact n1⟩
  (λi ρ M2 hi hI=>by
   obtain⟨⟨b4,b5,b6,b7,b8,rfl⟩,ad,q1,hn,q2,q3⟩:=hI;obtain⟨c5,c6,c7,c8,ad',M3,e3,k1,Ov,k2,k3⟩:=awy (m:=m-1) (r:=r) (n:=i) (r_ hm) P q2.has ht q1 hn (b5:=b5) (b6:=b6) (b7:=b7) (b8:=b8) (rest:=[none,none,none,none,none,none,none,none,none,none]) rfl;exact⟨_,.next,_,M3,rfl,e3,.inl rfl,⟨some (.int i),c5,c6,c7,c8,rfl⟩,ad',k1,Ov,q2.trans k2,k3.trans q3⟩)
 have hM2:=n2;obtain⟨ρ3,M3,e3,⟨b10,K9,Rv,rfl⟩,as,a3,a4,a5,w3,g3,n3⟩:=Ax (W:=⟨prog.call (m-1),prog.cls⟩) (t:=.name 10) (b:=Ht) (it:=.blt .len (.o (.ix (.v 1) (.i 1)))) (n:=hs.length)
  (ρ:=[D.ref t,qi K r hs,D.int 2,D.vl (mz M.length K),b4,b5,b6,b7,b8,D.ref M2.length,none,none,none,none,none,none,none,none,none]) (M:=M2++[.lst []]) (M1:=M2++[.lst []]) (by simp[Oo,Qo]) (a_ hl (by decide))
  (λj ρ M'=>(∃b10 K9 Rv:Option D,ρ=[some (.ref t),some (qi K r hs),some (.int 2),some (.vl (mz M.length K)),b4,b5,b6,b7,b8,some (.ref M2.length),b10,K9,Rv,none,none,none,none,none,none]) /\
   ∃as:List (List Nat),M'[M2.length]?=some (.lst (as.map λjs=>.vl (js.map nD)))/\as.length=j/\(∀(j:Nat)(g:F)(js:Y3),hs[j]?=some g->as[j]?=some js->Ae hs ie ad j g js)/\Rw hs K M.length ad M'/\Gs t f M.length M M'/\M'.length=M2.length+1)
  ⟨⟨none,none,none,rfl⟩,[],by simp,rfl,by simp,⟨λi hi=>xm (w2.rs i hi),w2.kd,w2.le,w2.nd⟩,g2.trans (Gs.app g2.has (by lia) _),by simp⟩
  (λj ρ M3 hj hI=>by
   obtain⟨⟨b10,K9,Rv,rfl⟩,as,q1,q2,q3,q4,q5,q6⟩:=hI;have hjg:hs[j]?=some hs[j]:=by simp[hj]
   obtain⟨js,c7,k1⟩:=a3m (m:=m-1) (M:=M3) (r:=r) (r_ hm) P (q5.low _ _ hrl hrt hr) q4 hjg (a0:=some (.ref t)) (a2:=some (.int 2)) (a4:=b4) (a5:=b5) (a6:=b6) (a7:=b7) (a8:=b8) (a9:=some (.ref M2.length)) (rest:=[none,none,none,none,none,none]) rfl;have ap:=G6 (d:=.vl (js.map nD)) q1 (by simp;exact c_ (f_ q2) (b_ hj (a_ hl (by decide))));have pe:∀ρ,(Tg.names [11,12]).put (eD hs[j]) ρ=some ((ρ.set 11 (some (.int hs[j].a))).set 12 (some (.int hs[j].b))):=λ_=>rfl
   simp only[zc,Aa] at c7;refine⟨_,.next,_,M3.set M2.length (.lst ((as.map λjs=>.vl (js.map nD))++[.vl (js.map nD)])),rfl,by simp[Ht,Oo,Ud hjg,pe,Hc q1,c7,ap],.inl rfl,⟨some (.int j),some (.int hs[j].a),some (.int hs[j].b),rfl⟩,as++[js],by rw[vo q1];simp,by simp[q2],λj' g js' hg Zw=>?_,⟨λi hi=>?_,q4.kd,q4.le,q4.nd⟩,q5.trans (Gs.aqy q5.has (Zq.set (by lia)) ht (by simp)),by simp[q6]⟩
   . by_cases z:j'<as.length
     . rw[dj z] at Zw;exact q3 j' g js' hg Zw
     . have ze:j'=j:=by have:=(ak.mp Zw).1;simp at this;lia
       subst ze;rw[jb (s_ z),q2] at Zw;simp at Zw;subst Zw;rw[hjg] at hg;cases hg;exact k1
   . rw[qx (by lia)];exact q4.rs i hi)
 obtain⟨M4,e4,mk4,kp4,n4⟩:=alj (W:=⟨prog.call (m-1),prog.cls⟩) (t:=t) (M:=M3) (ρ:=[D.ref t,qi K r hs,D.int 2,D.vl (mz M.length K),b4,b5,b6,b7,b8,D.ref M2.length,b10,K9,Rv,none,none,none,none,none,none]) rfl rfl w3.rs h3 w3.le (by lia);have g4:Gs t f M.length M M4:=g3.trans ⟨by obtain⟨n,h,o⟩:=g3.has;exact⟨n,kp4 _ _ h,o⟩,λa o _ _ e=>kp4 a o e,by lia⟩;have ac4:Ac M2.length hs (λe=>(rowsOf hs ad e).length) as M4:=⟨kp4 _ _ a3,a4,λj g js h1 h2=>⟨(a5 j g js h1 h2).len,(a5 j g js h1 h2).lt⟩⟩;have cg4:Cgs hs as hs.length (λe=>List.range (rowsOf hs ad e).length):=λj g js _ h1 h2 x y hx hy e=>by
  have hl:=(a5 j g js h1 h2).len;have ex:(List.range (rowsOf hs ad g.a).length).getD x 0=x:=by simp[<- hl,hx]
  have ey:(List.range (rowsOf hs ad g.a).length).getD y 0=y:=by simp[<- hl,hy]
  simp only[ex,ey] at e;rw[e]
 obtain⟨u,M5,e5,l5,s5,n5⟩:=Bx (many:=4) (m:=m-1) (r_ hm) g4.has (by decide) (by decide);obtain⟨ρ6,M6,e6,⟨d5,d10,d11,d12,d14,d15,rfl⟩,ms,mk6,cg6,ac6,g6,n6⟩:=Ax (W:=⟨prog.call (m-1),prog.cls⟩) (t:=.name 10) (b:=Cv) (it:=.call 14 (.p (.v 0) (.i 4))) (n:=u)
  (ρ:=[D.ref t,qi K r hs,D.int 2,D.vl (mz M.length K),b4,b5,b6,b7,b8,D.ref M2.length,b10,K9,Rv,D.ref (M3.length+K),none,none,none,none,none]) (M:=M4) (M1:=M5) (by simp[e5]) (e_ (b_ (o_ l5) (by decide)))
  (λ_ ρ M'=>(∃b5 b10 K9 Rv b14 b15:Option D,ρ=[some (.ref t),some (qi K r hs),some (.int 2),some (.vl (mz M.length K)),b4,b5,b6,b7,b8,some (.ref M2.length),b10,K9,Rv,some (.ref (M3.length+K)),b14,b15,none,none,none]) /\
   ∃ms,Mk t (M3.length+K) K (λe=>(rowsOf hs ad e).length) ms M'/\Cgs hs as hs.length ms/\Ac M2.length hs (λe=>(rowsOf hs ad e).length) as M'/\Gs t f M.length M M'/\M3.length+K<M'.length)
  ⟨⟨b5,b10,K9,Rv,none,none,rfl⟩,_,mk4.st s5 (by lia),cg4,ac4.of λo e=>s5.keep _ _ (by lia) e,g4.trans (Gs.ae2 s5),by lia⟩
  (λi ρ M6 hi hI=>by
   obtain⟨⟨b5,b10,K9,Rv,b14,b15,rfl⟩,ms,q1,qc,q2,q3,q4⟩:=hI;obtain⟨c5,c11,c12,c14,c15,Ml,M7,e7,k1,kc,k2,k3⟩:=aw6 (m:=m-1) (r:=r) (p:=M.length) (r_ hm) P q3.has q1 q2 ht (by lia) q4 (by lia) (by lia) (by lia) w3.le qc (a2:=some (.int 2)) (a3:=some (.vl (mz M.length K))) (b4:=b4) (b5:=b5) (b6:=b6) (b7:=b7) (b8:=b8) (b10:=some (.int i)) (K9:=K9) (Rv:=Rv) (b14:=b14) (b15:=b15) (n16:=none) (n17:=none) (n18:=none);exact⟨_,.next,_,M7,rfl,e7,.inl rfl,⟨c5,some (.int i),c11,c12,c14,c15,rfl⟩,Ml,k1,kc,k2,q3.trans k3,by have:=k3.len;exact b_ q4 this⟩)
 obtain⟨hd,e7,hd1,hd2⟩:=ard (W:=⟨prog.call (m-1),prog.cls⟩) (M:=M6) (ρ:=[D.ref t,qi K r hs,D.int 2,D.vl (mz M.length K),b4,d5,b6,b7,b8,D.ref M2.length,d10,d11,d12,D.ref (M3.length+K),d14,d15,none,none,none]) rfl rfl mk6 h3 w3.le;have hdl:∀e,e<K->∃l,hd[e]?=some l/\l.length<=7/\∀x,x∈l↔x∈ms e:=λe he=>by have z:hd[e]?=some hd[e]:=cj (b_ he (g_ hd1));obtain⟨y1,_,y2⟩:=hd2 e _ z;have:=w3.le e he;exact⟨_,z,a_ y1 this,y2⟩
 obtain⟨ρ8,M8,e8,⟨f10,f11,f12,f18,rfl⟩,td,t1,t2,t3,t4,g8,n8⟩:=Ax (W:=⟨prog.call (m-1),prog.cls⟩) (t:=.name 10) (b:=Ec) (it:=.blt .len (.o (.ix (.v 1) (.i 1)))) (n:=hs.length)
  (ρ:=[D.ref t,qi K r hs,D.int 2,D.vl (mz M.length K),b4,d5,b6,b7,b8,D.ref M2.length,d10,d11,d12,D.ref (M3.length+K),d14,d15,D.vl (hd.map Tu),D.ref M6.length,none]) (M:=M6++[.lst []]) (M1:=M6++[.lst []]) (by simp[Oo,Qo]) (a_ hl (by decide))
  (λj ρ M'=>(∃b10 K9 Rv b18:Option D,ρ=[some (.ref t),some (qi K r hs),some (.int 2),some (.vl (mz M.length K)),b4,d5,b6,b7,b8,some (.ref M2.length),b10,K9,Rv,some (.ref (M3.length+K)),d14,d15,some (.vl (hd.map Tu)),some (.ref M6.length),b18]) /\
   ∃td:List (List Nat),M'[M6.length]?=some (.lst (td.map λjs=>.tup (js.map nD)))/\td.length=j/\(∀(j:Nat)(g:F)(js:Y3),hs[j]?=some g->td[j]?=some js->js.length=(hd.map List.length).getD g.a 0/\∀x∈js,x<(hd.map List.length).getD g.b 0)/\(∀(j:Nat)(g:F)(js:Y3),hs[j]?=some g->td[j]?=some js->∃s la lb,as[j]?=some s/\hd[g.a]?=some la/\hd[g.b]?=some lb/\js=Ry ms g s la lb)/\Bo M6 M'/\M'.length=M6.length+1)
  ⟨⟨d10,d11,d12,none,rfl⟩,[],by simp,rfl,by simp,by simp,Bo.app _ _,by simp⟩
  (λj ρ M7 hj hI=>by
   obtain⟨⟨b10,K9,Rv,b18,rfl⟩,td,q1,q2,q3,qe,q4,q5⟩:=hI;have hjg:hs[j]?=some hs[j]:=by simp[hj]
   obtain⟨sj,ej,_⟩:=ac6.get hjg;have hg:=ao hjg;obtain⟨la,x1,x2,x3⟩:=hdl _ (P.V8 _ hg);obtain⟨lb,y1,y2,y3⟩:=hdl _ (P.Rf _ hg);have mk7:=mk6.frame (M':=M7) (λa o _ _ e=>q4 a o e) (by lia);have ac7:=ac6.of (M':=M7) λo e=>q4 _ _ e
   obtain⟨c18,zs,e9,kz,k1,k2⟩:=aln (W:=⟨prog.call (m-1),prog.cls⟩) (r:=r) mk7 ac7 (hl:=hd) hjg ej (P.V8 _ hg) (P.Rf _ hg) x1 y1 x3 y3 x2 q1 (by simp;exact c_ (f_ q2) (b_ hj (a_ hl (by decide)))) (a0:=some (.ref t)) (a2:=some (.int 2)) (a3:=some (.vl (mz M.length K))) (b4:=b4) (b5:=d5) (b6:=b6) (b7:=b7) (b8:=b8) (K9:=K9) (Rv:=Rv) (b14:=d14) (b15:=d15) (b18:=b18);refine⟨_,.next,_,_,rfl,e9,.inl rfl,⟨some (.int j),some (.int hs[j].a),some (.int hs[j].b),c18,rfl⟩,td++[zs],by rw[vo q1];simp,by simp[q2],λj' g js' Yv Zw=>?_,λj' g js' Yv Zw=>?_,λa o e=>?_,by simp[q5]⟩
   . by_cases z:j'<td.length
     . rw[dj z] at Zw;exact q3 j' g js' Yv Zw
     . have ze:j'=j:=by have:=(ak.mp Zw).1;simp at this;lia
       subst ze;rw[jb (s_ z),q2] at Zw;simp at Zw;subst Zw;rw[hjg] at Yv;cases Yv;have u1:(hd.map List.length).getD hs[j'].a 0=la.length:=by simp[dg,x1]
       have u2:(hd.map List.length).getD hs[j'].b 0=lb.length:=by simp[dg,y1]
       rw[u1,u2];exact⟨k1,k2⟩
   . by_cases z:j'<td.length
     . rw[dj z] at Zw;exact qe j' g js' Yv Zw
     . have ze:j'=j:=by have:=(ak.mp Zw).1;simp at this;lia
       subst ze;rw[jb (s_ z),q2] at Zw;simp at Zw;subst Zw;rw[hjg] at Yv;cases Yv;exact⟨sj,la,lb,ej,x1,y1,kz⟩
   . rw[qx (by have:=wz e;exact i_ this)];exact q4 a o e)
 have c1:Hm.den ⟨prog.call (m-1),prog.cls⟩ [D.ref t,qi K r hs,D.int 2,D.vl (mz M.length K),b4,d5,b6,b7,b8,D.ref M2.length,f10,f11,f12,D.ref (M3.length+K),d14,d15,D.vl (hd.map Tu),D.ref M6.length,f18] M8=.ok (.vl ((hd.map List.length).map nD)) M8:=by
  unfold Hm;rw[Ay (d:=.vl (hd.map Tu)) (ds:=hd.map Tu) (M1:=M8) (g:=λd=>match d with|.vl l=>.int l.length|_=>.non) (by simp) rfl (by simp;exact a_ (f_ hd1) (a_ h3 (by decide))) (λz hz=>by
   obtain⟨l,hl',rfl⟩:=bf.mp hz;refine⟨_,rfl,?_⟩;simp[Tu,v7,Mu])]
  simp[Tu,nD]
 refine⟨hd.map List.length,td,M8,?_,⟨by simp[hd1],t2,λx hx=>?_,t3,λj1 j2 g1 g2 z1 z2 h1 h2 eg q1 q2 x hx=>?_⟩,?_⟩
 . simp only[zc,Aa] at e2
   have s3':Nx.den ⟨prog.call (m-1),prog.cls⟩ _ _=_:=e2;have s2':Nu.den ⟨prog.call (m-1),prog.cls⟩ _ _=_:=e3;have s1':Nt.den ⟨prog.call (m-1),prog.cls⟩ _ _=_:=e6;have s0':Nq.den ⟨prog.call (m-1),prog.cls⟩ _ _=_:=e8;have r0':Mi.den ⟨prog.call (m-1),prog.cls⟩ _ _=_:=r0;simp[-List.map_map,Fn.run,Q9,Q8,r0',s3',MW.new,s2',e4,s1',e7,s0',c1,Hy,v7,Vx (qg t1),jz]
 . obtain⟨l,hl',rfl⟩:=bf.mp hx
   obtain⟨i,hi,rfl⟩:=qp hl';obtain⟨l2,y1,y2,_⟩:=hdl i (b_ hi (f_ hd1));rw[cj hi] at y1;cases y1;exact y2
 . obtain⟨s1,la,lb,i1,i2,i3,rfl⟩:=t4 _ _ _ h1 q1
   obtain⟨s2,lb',lc,i4,i5,i6,rfl⟩:=t4 _ _ _ h2 q2;rw[<- eg,i3] at i5;cases i5;have hx':x<la.length:=by simpa[Ry] using hx
   rcases func P w3.nd mk6.len mk6.lt mk6.fx cg6 a5 (λe l he=>(hd2 e l he).2) h1 h2 eg i1 i4 i2 i3 i6 hx' with⟨e1,e2⟩|⟨j3,e1,e2,e3⟩
   . rw[e2,Ci,cz e1]
   . have l3:=(ak.mp e2).1
     have u3:td[j3]?=some td[j3]:=cj (b_ l3 (g_ t2));obtain⟨s3,la',lc',i7,i8,i9,i10⟩:=t4 _ _ _ e2 u3;have i8:hd[g1.a]?=some la':=i8;have i9:hd[g2.b]?=some lc':=i9;rw[i2] at i8;cases i8;rw[i6] at i9;cases i9;have nj:¬((j3:Int)=-1):=by lia
     rw[e3 _ i7,<- i10,Ci,e1,bw nj];simp[dg,u3]
 . have:Gs t f M.length M M8:=g6.trans ⟨by obtain⟨n,h,o⟩:=g6.has;exact⟨n,g8 _ _ h,o⟩,λa o _ _ e=>g8 a o e,by lia⟩
   exact this.st
noncomputable def Al(l:Y3):D:=.tup (l.map nD)
def Qc(s:Y3)(a:List (List Nat))(M:dh):yu (jz s a) (.int 0) M=some (Al s):=rfl
def ark(s:Y3)(a:List (List Nat))(M:dh):yu (jz s a) (.int 1) M=some (.tup (a.map Al)):=rfl
def Qd{l:Y3}(h:i<l.length):yu (Al l) (.int i) M=some (.int (l.getD i 0)):=Jq q_ (by simp[h,nD])
def arl{a:List (List Nat)}{j:Nat}(h:a[j]?=some js):yu (.tup (a.map Al)) (.int j) M=some (Al js):=Jq q_ (by simp[h])
def Xi(hit:it.den W ρ M=.ok (.tup ds) M1)(hl:ds.length<=100000)
 (h:∀x∈ds,∃ρ1,t.put x (ρ++List.replicate k none)=some ρ1/\c.den W ρ1 M1=.ok (.bl (q x)) M1/\(q x=true->e.den W ρ1 M1=.ok (g x) M1)) :
 (Ex.Dh v k t (.val it) c e).den W ρ M=if v then .ok (.vl ((ds.filter q).map g)) M1 else new (.lst ((ds.filter q).map g)) M1:=by
 rw[T3,Iv,hit];simp only[Res.Bl,srcOf,Res.Dl];rw[Vz (ds:=ds) (g:=λx=>if q x then some (g x) else none) hl (λx hx=>by
  obtain⟨ρ1,a,b,c⟩:=h x hx;rw[a,Res.Dl,Res.Bl,b,Res.Bl];cases e:q x with
  | true=>simp[c e]|false=>simp)]
 have:ds.filterMap (λx=>if q x then some (g x) else none)=(ds.filter q).map g:=by
  clear h hl hit
  induction ds with
  |nil=>rfl|cons a l ih=>by_cases e:q a=true<;>simp[e,ih]
 rw[this];rfl
section
variable{W:Jp}{ρ:Env}{M:dh}{t:Tg}{it:Ow}{ds:List D}
def Jm{g:Nat->D}(hit:it.den W ρ M=.ok (.con ds) M)(hl:ds.length<=100000)(h:∀(i:Nat) d,ds[i]?=some d->∃ρ1,t.put d (ρ++List.replicate k none)=some ρ1/\e.den W ρ1 M=.ok (g i) M) :
 (Ex.comp true k t it e).den W ρ M=.ok (.vl ((List.range ds.length).map g)) M:=by
 rw[J1,hit];obtain⟨ys,M',e1,e2,rfl⟩:=Hd (fin:=(Src.con ds).fin) (item:=(Src.con ds).item) (body:=λd M=>(Res.vg (t.put d (ρ++List.replicate k none)) M).bind fun ρ' M=>(e.den W ρ' M).bind λx M'=>.ok (some x) M') (λi xs M'=>xs=(List.range i).map g/\M'=M) (n:=ds.length) (λi xs M' hi h1=>by
  obtain⟨rfl,rfl⟩:=h1;obtain⟨ρ1,a,b⟩:=h i ds[i] (by simp[hi]);exact⟨_,some (g i),M',by simp[Src.item,hi];rfl,by rw[a];simp[b],by simp[yj],rfl⟩) (λ_ _ _=>rfl) ds.length 0 [] M (ux _) ⟨rfl,rfl⟩
 show(Af (.con ds) _ M').bind _=_;rw[Af,show(Src.con ds).len=ds.length from rfl,cz hl,e1,<- e2];rfl
def ab0{e:Ex}{n:Nat}(h:e.den W ρ M=.ok (.int (n:Nat)) M)(hn:n<=100000):(Ow.Im e).den W ρ M=.ok (.con ((List.range n).map nD)) M:=by rw[Iw,h,Res.Bl];show(if(n:Int).natAbs<=100000 then _ else _)=_;rw[cz (by lia)];rfl
def Kr(hit:it.den W ρ M=.ok (.con ds) M)(E:Env->Prop)(h0:E ρ)(step:∀(i:Nat) d ρ,ds[i]?=some d->E ρ->∃ρ1 ρ',t.put d ρ=some ρ1/\b.den W ρ1 M=.ok (.next,ρ') M/\E ρ') :
 ∃ρ',(By.for_ t it b).den W ρ M=.ok (.next,ρ') M/\E ρ':=by
 obtain⟨fl,ρ',M',e,⟨rfl,h,rfl⟩|⟨v,rfl,h⟩⟩:=Vc (s:=.con ds) (n:=ds.length) (t:=t) (b:=b) hit rfl (λ_ ρ M'=>E ρ/\M'=M) (λ_ _=>False) ⟨h0,rfl⟩ (λ_ _ _=>rfl) (λi ρ M' hi hI=>by
  obtain⟨h,rfl⟩:=hI;obtain⟨ρ1,ρ',a,b,c⟩:=step i ds[i] ρ (by simp[hi]) h;exact⟨_,ρ1,by simp[Src.item,hi],a,.next,ρ',M',b,.inl ⟨rfl,c,rfl⟩⟩)
 . exact⟨ρ',e,h⟩
 . exact h.elim
end
structure Fits(s1 s2:Y3)(r:List (List Nat)):Prop where
 len:r.length=s1.length
 ok:∀(k:Nat)(js:Y3),r[k]?=some js->js.length=s1.getD k 0/\∀x∈js,x<s2.getD k 0
noncomputable def rD(r:List (List Nat)):D:=.tup (r.map Al)
def aje{j:Nat}(h:r[j]?=some js):yu (rD r) (.int j) M=some (Al js):=Jq q_ (by simp[h])
def Dn{α:Type}{l:List α}{i:Nat}(h:i<l.length):∃x,l[i]?=some x:=⟨l[i],by simp[h]⟩
def v8{α:Type}{l:List α}{i:Nat}{x d:α}(h:l[i]?=some x):l.getD i d=x:=by simp[dg,h]
def arn(M:dh)(l:Y3):v7 .len [Al l] M=.ok (.int l.length) M:=by simp[v7,Mu,Al]
def aro(M:dh)(r:List (List Nat)):v7 .len [rD r] M=.ok (.int r.length) M:=by simp[v7,Mu,rD]
theorem all_true:∀n,allB (List.replicate n (.bl true))=some true
 |0=>rfl|n+1=>by rw[List.replicate_succ,allB,all_true n];rfl
def aw9(M:dh)(n:Nat):v7 .all [.vl (List.replicate n (.bl true))] M=.ok (.bl true) M:=by show Res.vg ((allB _).map D.bl) M=_;rw[all_true];rfl
def zip_get{i:Nat}(h:(Mw ls n)[i]?=some d):i<n/\d=.tup (ls.map λl=>l.getD i .non):=by
 have hi:i<n:=by simpa[Mw] using(ak.mp h).1
 simp[Mw,hi] at h;exact⟨hi,h.symm⟩
def Oq{l:Y3}{i:Nat}(h:(l.map nD)[i]?=some d):∃y,l[i]?=some y/\d=.int y/\y∈l:=by rw[gr] at h;obtain⟨y,h1,rfl⟩:=bx.mp h;exact⟨y,h1,rfl,ao h1⟩
def Fits.get(f:Fits s1 s2 rr){k:Nat}(h:k<s1.length):∃js,rr[k]?=some js/\js.length=s1.getD k 0/\∀x∈js,x<s2.getD k 0:=by obtain⟨js,e⟩:=Dn (l:=rr) (i:=k) (by rw[f.len];exact h);exact⟨js,e,f.ok k js e⟩
def Lj.get(w:Lj K hs s1 a1){k:Nat}{g:F}(h:hs[k]?=some g):∃js,a1[k]?=some js/\js.length=s1.getD g.a 0/\∀x∈js,x<s1.getD g.b 0:=by obtain⟨js,e⟩:=Dn (l:=a1) (i:=k) (by rw[w.la];exact(ak.mp h).1);exact⟨js,e,w.ok k g js h e⟩
def Lj.s7(w:Lj K hs s1 a1)(k:Nat):s1.getD k 0<=7:=by
 rw[dg];cases e:s1[k]? with
 |none=>simp|some y=>exact w.sm y (ao e)
def arp(hm:1<=m)(w1:Lj K hs s1 a1)(w2:Lj K hs s2 a2)(f:Fits s1 s2 rr):prog.call m 23 [jz s1 a1,jz s2 a2,rD rr] M=.ok (.bl true) M:=by
 rw[call_of hm rfl];have h:s2.length=s1.length:=by rw[w2.ls,w1.ls]
 obtain⟨ρ',e,b3,b4,b5,rfl⟩:=Kr (W:=⟨prog.call (m-1),prog.cls⟩) (t:=.names [3,4,5]) (b:=K4) (it:=.zip (.q (.v 2) (.ix (.v 0) (.i 0)) (.ix (.v 1) (.i 0)))) (ρ:=[jz s1 a1,jz s2 a2,rD rr,none,none,none]) (M:=M)
  (ds:=Mw [rr.map Al,s1.map nD,s2.map nD] s1.length) (by simp[Qc,rD,Al,Mv,f.len,h]) (fun ρ=>∃b3 b4 b5:Option D,ρ=[some (jz s1 a1),some (jz s2 a2),some (rD rr),b3,b4,b5]) ⟨none,none,none,rfl⟩
  (λi d ρ hd hE=>by
   obtain⟨b3,b4,b5,rfl⟩:=hE;obtain⟨hi,rfl⟩:=zip_get hd;obtain⟨js,x1,x2,x3⟩:=f.get hi;have hl:=w1.s7 i;obtain⟨A,y1⟩:=Dn hi;obtain⟨B,y2⟩:=Dn (l:=s2) (b_ hi (g_ h));rw[v8 y1] at x2 hl;rw[v8 y2] at x3;refine⟨[some (jz s1 a1),some (jz s2 a2),some (rD rr),some (Al js),some (.int A),some (.int B)],_,by simp[Tg.put,Jo,x1,y1,y2,nD],?_,some (Al js),some (.int A),some (.int B),rfl⟩;have c1:K3.den ⟨prog.call (m-1),prog.cls⟩ [jz s1 a1,jz s2 a2,rD rr,Al js,D.int A,D.int B] M=.ok (.vl (List.replicate A (.bl true))) M:=by
    unfold K3;rw[Jm (g:=λ_=>.bl true) (ds:=js.map nD) rfl (by rw[du,x2];exact a_ hl (by decide)) (λi d hd=>by
     obtain⟨y,h1,rfl,h2⟩:=Oq hd;have:=x3 y h2;exact⟨_,rfl,by simp[this]⟩)]
    simp[List.map_const',x2]
   simp[K4,arn,x2,c1,aw9])
 have e:Q5.den ⟨prog.call (m-1),prog.cls⟩ _ _=_:=e;simp[Fn.run,V4,V3,aro,arn,Qc,f.len,e]
structure Mm(hs:List F)(s1 s2:Y3)(a1 a2 r:List (List Nat)):Prop where
 fit:Fits s1 s2 r
 go:∀(k:Nat)(g:F),hs[k]?=some g->∀x,x<s1.getD g.a 0->(r.getD g.b []).getD ((a1.getD k []).getD x 0) 0=(a2.getD k []).getD ((r.getD g.a []).getD x 0) 0
def a3s(hm:1<=m){k th:Nat}(h:a2[k]?=some js)(hth:th<js.length):prog.call m 21 [jz s2 a2,.int th,.int k] M=.ok (.int (js.getD th 0)) M:=by
 rw[call_of hm rfl];have i1:=Qd (M:=M) (l:=js) (i:=th) hth;have ni:¬((k:Int)=-1):=by lia
 generalize js.getD th 0=y at i1;simp[Fn.run,axx,axw,ni,ark,arl h,i1]
noncomputable abbrev EF(n:Nat)(w1 w2 r:D)(b4 b5 b6 b7 b8 b9:Option D):Env:=[some (.ref n),some w1,some w2,some r,b4,b5,b6,b7,b8,b9]
def arq{i:Nat}(h:(Dy l 0)[i]?=some d):∃x,l[i]?=some x/\d=.tup [.int i,x]:=by simp[Dy] at h;obtain⟨x,h1,rfl⟩:=h;exact⟨x,h1,rfl⟩
def ars(hm:2<=m)(P:Kf sz K hs ie)(h:Made n r K hs ie M)(w1:Lj K hs s1 a1)(w2:Lj K hs s2 a2)(f:Mm hs s1 s2 a1 a2 rr):prog.call m 24 [.ref n,jz s1 a1,jz s2 a2,rD rr] M=.ok .non M:=by
 rw[call_of (a_ (by decide) hm) rfl];have m1:1<=m-1:=r_ hm
 have g1:=awu (M:=M) (W:=⟨prog.call (m-1),prog.cls⟩) (n:=n) (ρ:=EF n (jz s1 a1) (jz s2 a2) (rD rr) none none none none none none) (o:=.v 0) (mm:=1) (es:=.z) (ds:=[]) (fi:=2) (by simp) (by simp) h.1 rfl;obtain⟨ρ',e,b4,b5,b6,b7,b8,b9,rfl⟩:=Kr (W:=⟨prog.call (m-1),prog.cls⟩) (t:=.names [4,5]) (b:=Hl) (it:=.enm (.meth (.v 0) 1 .z)) (ds:=Dy (hs.map eD) 0) (ρ:=EF n (jz s1 a1) (jz s2 a2) (rD rr) none none none none none none) (M:=M) (by simp[-Q3,g1,alf m1 h,Hz])
  (fun ρ=>∃b4 b5 b6 b7 b8 b9,ρ=EF n (jz s1 a1) (jz s2 a2) (rD rr) b4 b5 b6 b7 b8 b9) ⟨none,none,none,none,none,none,rfl⟩
  (λk d ρ hd hE=>by
   obtain⟨b4,b5,b6,b7,b8,b9,rfl⟩:=hE;obtain⟨x,hx,rfl⟩:=arq hd;rw[gr] at hx;obtain⟨g,hg,rfl⟩:=bx.mp hx;have hgm:=ao hg;obtain⟨j1,x1,x2,x3⟩:=w1.get hg;obtain⟨j2,y1,y2,y3⟩:=w2.get hg;obtain⟨ra,u1,u2,u3⟩:=f.fit.get (k:=g.a) (by rw[w1.ls];exact P.V8 g hgm);obtain⟨rb,v1,v2,v3⟩:=f.fit.get (k:=g.b) (by rw[w1.ls];exact P.Rf g hgm);obtain⟨ρ3,e3,c8,c9,rfl⟩:=Kr (W:=⟨prog.call (m-1),prog.cls⟩) (t:=.names [8,9]) (b:=Hk) (it:=.enm (.ix (.ix (.v 1) (.i 1)) (.v 4))) (ds:=Dy (j1.map nD) 0) (ρ:=EF n (jz s1 a1) (jz s2 a2) (rD rr) (some (.int k)) (some (eD g)) (some (Al ra)) (some (Al rb)) b8 b9) (M:=M) (by simp[ark,arl x1,Al])
    (fun ρ=>∃b8 b9,ρ=EF n (jz s1 a1) (jz s2 a2) (rD rr) (some (.int k)) (some (eD g)) (some (Al ra)) (some (Al rb)) b8 b9) ⟨b8,b9,rfl⟩
    (λx d ρ hd hE=>by
     obtain⟨b8,b9,rfl⟩:=hE;obtain⟨_,hx,rfl⟩:=arq hd;obtain⟨z,hz,rfl,zm⟩:=Oq hx;have hxl:x<s1.getD g.a 0:=by rw[<- x2];exact(ak.mp hz).1
     have zl:=x3 z zm;have gg:=f.go k g hg x hxl;rw[v8 v1,v8 x1,v8 y1,v8 u1,v8 hz] at gg;have i1:=Qd (M:=M) (l:=ra) (i:=x) (b_ hxl (g_ u2));have yl:=u3 _ (getD_mem' (b_ hxl (g_ u2)));have l1:=a3s (M:=M) (s2:=s2) m1 y1 (b_ yl (g_ y2));have i2:=Qd (M:=M) (l:=rb) (i:=z) (b_ zl (g_ v2));rw[gg] at i2;generalize ra.getD x 0=y at i1 l1 i2;generalize j2.getD y 0=p at l1 i2;exact⟨_,_,rfl,by simp[Hk,Jo,i1,l1,i2],some (.int x),some (.int z),rfl⟩)
   have e3:Nk.den ⟨prog.call (m-1),prog.cls⟩ _ _=_:=e3;exact⟨EF n (jz s1 a1) (jz s2 a2) (rD rr) (some (.int k)) (some (eD g)) b6 b7 b8 b9,_,rfl,by simp[Hl,Yy,Yz,aje u1,aje v1,e3],some (.int k),some (eD g),some (Al ra),some (Al rb),c8,c9,rfl⟩)
 have e:Np.den ⟨prog.call (m-1),prog.cls⟩ _ _=_:=e;simp[Fn.run,Q7,Q6,e]
def art(hm:3<=m)(P:Kf sz K hs ie)(h:Made n r K hs ie M)(w1:Lj K hs s1 a1)(w2:Lj K hs s2 a2)(f:Mm hs s1 s2 a1 a2 rr):prog.call m 22 [.ref n,jz s1 a1,jz s2 a2,rD rr] M=.ok (.bl true) M:=by rw[call_of (a_ (by decide) hm) rfl];have is0:Et .is .non .non M=some true:=rfl;have e1:=arp (m:=m-1) (M:=M) (r_ (a_ (by decide) hm)) w1 w2 f.fit;have e2:=ars (m:=m-1) (r_ hm) P h w1 w2 f;simp[Fn.run,acs,acr,e1,e2,is0]
noncomputable def stay(s:Y3):List (List Nat):=s.map List.range
def ae7{it:Ex}(w:Lj K hs s a)(hK:K<=3)(hit:it.den W ρ M=.ok (Al s) M)(h:∀y,y∈s->∃ρ1,t.put (.int y) (ρ++List.replicate k none)=some ρ1/\e.den W ρ1 M=.ok (.int (y:Nat)) M) :
 (Ex.comp true k t (.val it) (.Xw e)).den W ρ M=.ok (.vl ((stay s).map Al)) M:=by
 rw[Jm (g:=λi=>Al (List.range (s.getD i 0))) (ds:=s.map nD) (by rw[Iv,hit];rfl) (by rw[du,w.ls];exact a_ hK (by decide)) (λi d hd=>by
  obtain⟨y,h1,rfl,h2⟩:=Oq hd;have h7:=w.sm y h2;have:y<=100000:=a_ h7 (by decide)
  obtain⟨ρ1,p1,p2⟩:=h y h2;rw[v8 h1];exact⟨ρ1,p1,by simp[p2,this,Al];exact λ_ _=>rfl⟩)]
 congr 2
 apply vd;intro i;rw[du]
 by_cases hi:i<s.length
 . simp[stay,hi]
 . simp[stay,hi]
def Qu(hm:1<=m)(w:Lj K hs s a)(hK:K<=3):prog.call m 25 [jz s a] M=.ok (rD (stay s)) M:=by rw[call_of hm rfl];have c1:T8.den ⟨prog.call (m-1),prog.cls⟩ [some (jz s a)] M=.ok (.vl ((stay s).map Al)) M:=ae7 w hK (by simp[Qc]) (λy _=>⟨_,rfl,rfl⟩);simp[Fn.run,Yu,Yt,c1];rfl
def ajf{α β:Type}(l:List α)(d:α)(g:α->β):(List.range l.length).map (λi=>g (l.getD i d))=l.map g:=by
 apply List.ext_getElem (by simp);intro i h1 h2;have:i<l.length:=by simpa using h1
 simp[this]
theorem ag1{f:D->D->Option Bool}:∀{l:List D},(∀x∈l,f x x=some true)->Qv f l l=some true
 |[],_=>rfl|x::l,h=>by simp[Qv,h x (by simp),ag1 λy hy=>h y (bc _ hy)]
def ae8(M:dh)(r:List (List Nat)):xx M (rD r) (rD r)=some true :=
 ag1 (f:=Jy M 5) λx hx=>by obtain⟨l,_,rfl⟩:=bf.mp hx;exact ag1 (f:=Jy M 4) λx hx=>by obtain⟨i,_,rfl⟩:=bf.mp hx;simp[nD,Jy]
noncomputable def Fv(r q:List (List Nat)):List (List Nat):=(List.range r.length).map λi=>(r.getD i []).map λx=>(q.getD i []).getD x 0
def ajg{js bs:Y3}(hj:js.length<=100000)(hb:∀x∈js,x<bs.length){ρ:Env}(hit:it.den W ρ M=.ok (.con (js.map nD)) M)(he:∀x,x∈js->∃ρ1,t.put (.int x) (ρ++List.replicate k none)=some ρ1/\e.den W ρ1 M=(Res.vg (yu (Al bs) (.int x) M) M)) :
 (Ex.comp true k t it e).den W ρ M=.ok (.vl ((js.map λx=>bs.getD x 0).map nD)) M:=by
 rw[Jm (g:=λi=>nD (bs.getD (js.getD i 0) 0)) hit (by rw[du];exact hj) (λi d hd=>by
  obtain⟨y,h1,rfl,h2⟩:=Oq hd;obtain⟨ρ1,a,b⟩:=he y h2;rw[v8 h1];exact⟨ρ1,a,by rw[b,Qd (hb y h2)];rfl⟩),du,ajf js 0 λx=>nD (bs.getD x 0),zj]
 rfl
section
variable{s1 s2 s3 s4:Y3}{a1 a2 a3:List (List Nat)}{p q r:List (List Nat)}{hs:List F}
def axa{i:Nat}(h:r[i]?=some js):(Fv r q)[i]?=some (js.map λx=>(q.getD i []).getD x 0):=by have:=(ak.mp h).1;rw[Fv,gr,lq this,vm,v8 h]
def Ln(hm:1<=m)(hl:s1.length<=3)(h12:s2.length=s1.length)(h7:∀k,s1.getD k 0<=7)(f:Fits s1 s2 r)(g:Fits s2 s3 q):prog.call m 26 [rD r,rD q] M=.ok (rD (Fv r q)) M:=by
 rw[call_of hm rfl];have l1:q.length=r.length:=by rw[f.len,g.len,h12]
 have c2:V5.den ⟨prog.call (m-1),prog.cls⟩ [some (rD r),some (rD q)] M=.ok (.vl ((Fv r q).map Al)) M:=by
  unfold V5;rw[Jm (g:=λi=>Al ((r.getD i []).map λx=>(q.getD i []).getD x 0)) (ds:=Mw [r.map Al,q.map Al] r.length) (by simp[rD,Mv,l1]) (by simp[Mw,f.len];exact a_ hl (by decide)) (λi d hd=>by
   obtain⟨hi,rfl⟩:=zip_get hd;have Xm:i<s1.length:=b_ hi (f_ f.len)
   obtain⟨js,x1,x2,x3⟩:=f.get Xm;obtain⟨bs,y1,y2,y3⟩:=g.get (b_ Xm (g_ h12));have h7:=h7 i;have c1:acu.den ⟨prog.call (m-1),prog.cls⟩ [rD r,rD q,Al js,Al bs] M=_:=ajg (bs:=bs) (js:=js) (by rw[x2];exact a_ h7 (by decide)) (λx hx=>b_ (x3 x hx) (g_ y2)) rfl (λx _=>⟨_,rfl,by simp⟩);rw[v8 x1,v8 y1];refine⟨[some (rD r),some (rD q),some (Al js),some (Al bs)],by simp[Tg.put,Jo,x1,y1],?_⟩;simp[c1,Hy];simp[Al])]
  simp[Mw,Fv]
 simp[Fn.run,ane,anc,c2,Hy];rfl
def aru(hm:1<=m)(hl:s1.length<=3)(h12:s2.length=s1.length)(h7:∀k,s1.getD k 0<=7)(f:Fits s1 s2 r)(g:Fits s2 s3 q):prog.call m 33 [rD r,rD q] M=.ok (rD (Fv r q)) M:=by
 rw[call_of hm rfl];have c2:Js.den ⟨prog.call (m-1),prog.cls⟩ [some (rD r),some (rD q)] M=.ok (.vl ((Fv r q).map Al)) M:=by
  unfold Js;rw[Jm (g:=λi=>Al ((r.getD i []).map λx=>(q.getD i []).getD x 0)) (ds:=(List.range r.length).map nD) (ab0 (by simp[aro]) (by rw[f.len];exact a_ hl (by decide))) (by simp[f.len];exact a_ hl (by decide)) (λi d hd=>by
   obtain⟨y,h1,rfl,h2⟩:=Oq hd;have hi:i<r.length:=by simpa using(ak.mp h1).1
   rw[lq hi] at h1;cases h1;have Xm:i<s1.length:=b_ hi (f_ f.len)
   obtain⟨js,x1,x2,x3⟩:=f.get Xm;obtain⟨bs,y1,y2,y3⟩:=g.get (b_ Xm (g_ h12));have h7:=h7 i;have c1:Pu.den ⟨prog.call (m-1),prog.cls⟩ [rD r,rD q,D.int i] M=_:=ajg (bs:=bs) (js:=js) (by rw[x2];exact a_ h7 (by decide)) (λx hx=>b_ (x3 x hx) (g_ y2)) (by simp[aje x1,Al,srcOf]) (λx _=>⟨_,rfl,by simp[aje y1]⟩);rw[v8 x1,v8 y1];exact⟨_,rfl,by simp[c1,Hy];simp[Al]⟩)]
  simp[Fv]
 simp[Fn.run,Ua,T9,c2,Hy];rfl
def Zx(hm:1<=m)(hr:r.length<=100000):prog.call m 32 [rD r] M=.ok (.bl true) M:=by
 rw[call_of hm rfl];have c1:Gx.den ⟨prog.call (m-1),prog.cls⟩ [some (rD r)] M=.ok (.vl []) M:=by
  unfold Gx;rw[Xi (ds:=r.map Al) (M1:=M) (q:=λ_=>false) (g:=λ_=>.non) rfl (by simpa using hr) (λx hx=>by
   obtain⟨js,_,rfl⟩:=bf.mp hx;exact⟨_,rfl,by simp[v7,Xy,isT,Al],λh=>by cases h⟩)]
  simp
 have e0:v7 .isTuple [rD r] M=.ok (.bl true) M:=rfl;have e1:xx M (.vl []) (.vl [])=some true:=rfl;simp[Fn.run,Pr,Pq,c1,e0,e1]
end
def map_getD{l:Y3}(h:x<l.length)(g:Nat->Nat):(l.map g).getD x 0=g (l.getD x 0):=by simp[h]
def Xj{a b:List (List Nat)}(hl:a.length=b.length)(h:∀(i:Nat) x y,a[i]?=some x->b[i]?=some y->x=y):a=b:=by apply List.ext_getElem hl;intro i h1 h2;exact h i _ _ (by simp[h1]) (by simp[h2])
section
variable{s1 s2 s3 s4:Y3}{a1 a2 a3 p q r:List (List Nat)}{hs:List F}
def Lp(r q:List (List Nat)):(Fv r q).length=r.length:=by simp[Fv]
def ab2{i:Nat}(h:r[i]?=some js)(k:q[i]?=some bs):(Fv r q)[i]?=some (js.map λx=>bs.getD x 0):=by rw[axa h,v8 k]
def O6{i:Nat}(l:q.length=r.length)(h:(Fv r q)[i]?=some x):∃js bs,r[i]?=some js/\q[i]?=some bs/\x=js.map λx=>bs.getD x 0:=by
 have hi:i<r.length:=by simpa[Fv] using(ak.mp h).1
 obtain⟨js,e1⟩:=Dn hi;obtain⟨bs,e2⟩:=Dn (b_ hi (g_ l));rw[ab2 e1 e2] at h;cases h;exact⟨js,bs,e1,e2,rfl⟩
def Xk(h:s2.length=s1.length)(f:Fits s1 s2 r)(g:Fits s2 s3 q):Fits s1 s3 (Fv r q) :=
 ⟨by rw[Lp,f.len],λk x hx=>by
  obtain⟨js,bs,e1,e2,rfl⟩:=O6 (by rw[f.len,g.len,h]) hx;obtain⟨x1,x2⟩:=f.ok k js e1;obtain⟨y1,y2⟩:=g.ok k bs e2;refine⟨by rw[du,x1],λx hx=>?_⟩;obtain⟨z,hz,rfl⟩:=bf.mp hx;exact y2 _ (getD_mem' (b_ (x2 z hz) (g_ y1)))⟩
def axb(P:Kf sz K hs ie)(w1:Lj K hs s1 a1)(w2:Lj K hs s2 a2)(f:Mm hs s1 s2 a1 a2 r)(g:Mm hs s2 s3 a2 a3 q):Mm hs s1 s3 a1 a3 (Fv r q) :=
 ⟨Xk (by rw[w2.ls,w1.ls]) f.fit g.fit,λk o ho x hx=>by
  have om:=ao ho;obtain⟨ra,u1,u2,u3⟩:=f.fit.get (k:=o.a) (by rw[w1.ls];exact P.V8 o om);obtain⟨rb,v1,v2,v3⟩:=f.fit.get (k:=o.b) (by rw[w1.ls];exact P.Rf o om);obtain⟨qa,x1,x2,x3⟩:=g.fit.get (k:=o.a) (by rw[w2.ls];exact P.V8 o om);obtain⟨qb,y1,y2,y3⟩:=g.fit.get (k:=o.b) (by rw[w2.ls];exact P.Rf o om);obtain⟨j1,z1,z2,z3⟩:=w1.get ho;have f1:=f.go k o ho x hx;have r1:=u3 _ (getD_mem' (b_ hx (g_ u2)));have g1:=g.go k o ho _ r1;rw[v8 z1,v8 u1,v8 v1] at f1;rw[v8 x1,v8 y1,<- f1] at g1;rw[v8 (ab2 u1 x1),v8 (ab2 v1 y1),v8 z1,map_getD (b_ hx (g_ u2)),map_getD (b_ (z3 _ (getD_mem' (b_ hx (g_ z2)))) (g_ v2))];exact g1⟩
def alp(h:s2.length=s1.length)(h':s3.length=s1.length)(f:Fits s1 s2 p)(g:Fits s2 s3 q)(k:Fits s3 s4 r):Fv (Fv p q) r=Fv p (Fv q r):=by
 refine Xj (by simp[Lp]) λi x y hx hy=>?_
 obtain⟨js,bs,e1,e2,rfl⟩:=O6 (by rw[Lp,f.len,k.len,h']) hx;obtain⟨ks,cs,e3,e4,rfl⟩:=O6 (by rw[f.len,g.len,h]) e1;obtain⟨ls,ds,e5,e6,rfl⟩:=O6 (by rw[Lp,f.len,g.len,h]) hy;rw[e3] at e5;cases e5;rw[ab2 e4 e2] at e6;cases e6;rw[zj];refine qu λx hx=>?_
 have:=(f.ok i _ e3).2 x hx;have l:=(g.ok i _ e4).1;rw[map_getD (b_ this (g_ l))];rfl
def Zy(s:Y3):Fits s s (stay s):=⟨by simp[stay],λk js h=>by
 rw[stay,gr] at h;obtain⟨y,h1,rfl⟩:=bx.mp h;rw[v8 h1];exact⟨by simp,λx hx=>je.mp hx⟩⟩
def ae9{i:Nat}(h:(stay s)[i]?=some js):js=List.range (s.getD i 0):=by rw[stay,gr] at h;obtain⟨y,h1,rfl⟩:=bx.mp h;rw[v8 h1]
def a3t(f:Fits s1 s2 r):Fv (stay s1) r=r:=by
 refine Xj (by simp[Lp,stay,f.len]) λi x y hx hy=>?_
 obtain⟨js,bs,e1,e2,rfl⟩:=O6 (by simp[stay,f.len]) hx;rw[hy] at e2;cases e2;rw[ae9 e1,<- (f.ok i y hy).1];exact(ajf y 0 id).trans (List.map_id y)
def a3u(h:s2.length=s1.length)(f:Fits s1 s2 r):Fv r (stay s2)=r:=by
 refine Xj (by simp[Lp]) λi x y hx hy=>?_
 obtain⟨js,bs,e1,e2,rfl⟩:=O6 (by simp[stay,f.len,h]) hx;rw[hy] at e1;cases e1;rw[ae9 e2];exact(qu λx hx=>by rw[dg,lq ((f.ok i _ hy).2 x hx)];rfl).trans (List.map_id y)
def arv(hm:4<=m)(P:Kf sz K hs ie)(h:Made n ra K hs ie M)(w1:Lj K hs s1 a1)(w2:Lj K hs s2 a2)(w3:Lj K hs s3 a3)(f:Mm hs s1 s2 a1 a2 r)(g:Mm hs s2 s3 a2 a3 q) :
 prog.call m 34 [.ref n,jz s1 a1,jz s3 a3,rD r,rD q] M=.ok (.bl true) M:=by
 rw[call_of (a_ (by decide) hm) rfl];have k3:=P.k3;have m1:1<=m-1:=r_ (a_ (by decide) hm)
 have l1:s1.length<=3:=by rw[w1.ls];exact k3
 have l2:s2.length<=3:=by rw[w2.ls];exact k3
 have h12:s2.length=s1.length:=by rw[w2.ls,w1.ls]
 have h23:s3.length=s2.length:=by rw[w3.ls,w2.ls]
 have e1:=Ln (M:=M) m1 l1 h12 w1.s7 f.fit g.fit;have e2:=aru (M:=M) m1 l1 h12 w1.s7 f.fit g.fit;have e3:=Zx (M:=M) m1 (r:=Fv r q) (by rw[Lp,f.fit.len];exact a_ l1 (by decide));have e4:=art (m:=m-1) (r_ hm) P h w1 w3 (axb P w1 w2 f g);have e5:=Qu (M:=M) m1 w1 k3;have e6:=Ln (M:=M) m1 l1 rfl w1.s7 (Zy s1) f.fit;have e7:=Qu (M:=M) m1 w3 k3;have e8:=Ln (M:=M) m1 l2 h23 w2.s7 g.fit (Zy s3);rw[a3t f.fit] at e6;rw[a3u h23 g.fit] at e8;have q1:=ae8 M r;have q2:=ae8 M q;have q3:=ae8 M (Fv r q);have is0:Et .Lw (.bl true) (.bl true) M=some false:=rfl;simp[Fn.run,Rb,Ra,e1,e2,e3,e4,e5,e6,e7,e8,q1,q2,q3,is0]
end
noncomputable def DS(p K:Nat)(f:Nat->List (Kx×D))(M:dh):Prop:=∀i,i<K->M[p+i]?=some (.dK (f i))
noncomputable def upK(f:Nat->List (Kx×D))(i:Nat)(x:List (Kx×D))(j:Nat):List (Kx×D):=if j=i then x else f j
def Xl(f:Nat->List (Kx×D))(i:Nat)(x:List (Kx×D)):upK f i x i=x:=cz rfl
def ab3(h:j≠i):upK f i x j=f j:=bw h
structure Gd(K c:Nat)(hs:List F)(s1 s2:Y3)(a1 a2:List (List Nat))(f:Nat->List (Kx×D)):Prop where
 len:∀i,i<K->(f i).length<=c
 val:∀i q d,i<K->vq (f i) q=some d->∃x y:Nat,q=.inl (x:Int)/\d=.int y/\x<s1.getD i 0/\y<s2.getD i 0/\∀(j:Nat)(g:F),hs[j]?=some g->g.a=i->vq (f g.b) (.inl (Ci a1 x j:Nat))=some (.int (Ci a2 y j:Nat))
section
variable{m:Nat}{M:dh}{sz:Nat->Nat}{K n r p c:Nat}{hs:List F}{ie:List (List Kx×D)}{s1 s2:Y3}{a1 a2:List (List Nat)}{f:Nat->List (Kx×D)}
def O7(a:List (List Nat))(x i:Nat):Ci a x (i:Int)=(a.getD i []).getD x 0:=by
 have:¬((i:Int)=-1):=by lia
 simp[Ci,this]
def O8(hm:1<=m)(w:Lj K hs s1 a1)(hx:.int x∈u0 hs k)(hth:th<s1.getD k 0):prog.call m 29 [jz s1 a1,.int th,.int x] M=.ok (.int (Ci a1 th x:Nat)) M/\Ci a1 th x<s1.getD (Bc hs k (.int x)) 0:=by
 rw[call_of hm rfl];rcases Ii hx with q|⟨i,g,q,hg,rfl⟩
 . cases q
   exact⟨by simp[Fn.run,Qm,Ql,Ci],by simpa[Ci,Bc] using hth⟩
 . cases q
   obtain⟨js,h1,h2,h3⟩:=w.get hg;have i1:=Qd (M:=M) (l:=js) (i:=th) (b_ hth (g_ h2));have ni:¬((i:Int)<0):=by lia
   rw[O7,v8 h1,Gf hg];refine⟨?_,h3 _ (getD_mem' (b_ hth (g_ h2)))⟩;generalize js.getD th 0=y at i1;simp[Fn.run,Qm,Ql,ni,ark,arl h1,i1]
def axc(P:Kf sz K hs ie)(hx:.int w∈u0 hs k){j:Nat}(hj:hs[j]?=some g)(e:g.a=Bc hs k (.int w)) :
 ∃w':Int,.int w'∈u0 hs k/\Bc hs k (.int w')=g.b/\∀{s a},Lj K hs s a->∀x,x<s.getD k 0->Ci a (Ci a x w) j=Ci a x w':=by
 rcases Ii hx with q|⟨i,g1,q,hg,rfl⟩
 . cases q
   have e:g.a=k:=by simpa[Bc] using e
   exact⟨j,abt hj e,Gf hj,λ_ x _=>by simp[Ci]⟩
 . cases q
   rw[Gf hg] at e;have fu:∀{s a},Lj K hs s a->∀x,x<s.getD g1.a 0->Ci a (Ci a x i) j=Ci a x (ent hs g1 g):=fun{s a} W x hx=>by obtain⟨b1,h1,h2,_⟩:=W.get hg;obtain⟨b2,h3,_⟩:=W.get hj;rw[O7,O7,v8 h1,v8 h3];exact W.fu i j g1 g b1 b2 hg hj e.symm h1 h3 x (b_ hx (g_ h2))
   rw[Ju] at fu;rcases P.Cy (P.cl g1 (ao hg) g (ao hj) e.symm) with⟨x1,i1⟩|⟨u,hu,x1⟩
   . rw[x1] at fu
     have:g1.a=g.b:=i1.1;exact⟨-1,by simp[u0],by simpa[Bc] using this,fu⟩
   . rw[x1] at fu
     exact⟨u,abt hu rfl,(Gf hu:_=(g1.comp g).b),fu⟩
def axd(hρ:ρ.length=12)(h3:ρ[3]?=some (some (.vl (mz p K))))(h:DS p K f M)(hK:K<=3) :
 ∃M',Hx.den W ρ M=.ok (.vl (mz M.length K)) M'/\DS M.length K f M'/\Bo M M':=by
 unfold Hx;obtain⟨ys,M1,e,r1,r2,r3,r4⟩:=Fz (W:=W) (v:=true) (k:=1) (t:=.name 12) (it:=.v 3) (e:=.blt .dict (.o (.v 12))) (ρ:=ρ) (M:=M) (M1:=M) (d:=.vl (mz p K)) (ds:=mz p K) (by simp[h3]) rfl (by simp[mz];exact a_ hK (by decide))
  (λi xs M'=>xs=mz M.length i/\(∀e,e<i->M'[M.length+e]?=some (.dK (f e)))/\Bo M M'/\M'.length=M.length+i) ⟨rfl,λe he=>absurd he (ug _),Bo.refl M,rfl⟩ (λ_ _ _ _=>rfl)
  (λi y xs M' hy hI=>by
   obtain⟨rfl,q1,q2,q3⟩:=hI;have hi:i<K:=by have:=(ak.mp hy).1;simpa[mz] using this
   obtain rfl:D.ref (p+i)=y:=by simpa[mz,hi] using hy
   have hp:=q2 _ _ (h i hi);have e1:(ρ++List.replicate 1 none).set 12 (some (.ref (p+i)))=ρ++[some (.ref (p+i))]:=by rw[Bh];simp[hρ]
   have g9:(ρ++[some (D.ref (p+i))])[12]?=some (some (.ref (p+i))):=by rw[<- hρ];simp
   refine⟨_,.ref M'.length,M'++[.dK (f i)],rfl,?_,?_,λe he=>?_,q2.trans (Bo.app _ _),by simp[q3];exact rfl⟩
   . rw[e1]
     simp[g9,v7,hp,MW.new]
   . simp[mz,yj,q3]
   . by_cases z:e=i
     . subst z;rw[<- q3];simp
     . exact xm (q1 e (by lia)))
 have hlr:(mz p K).length=K:=by simp[mz]
 rw[hlr] at r1 r2 r4;subst r1;exact⟨M1,e,λi hi=>r2 i hi,r3⟩
noncomputable abbrev EK(pt w1 w2 kn:D)(kd th e:Nat)(mo:D)(b8 b9 b10 K9:Option D):Env:=[some pt,some w1,some w2,some kn,some (.int kd),some (.int th),some (.int e),some mo,b8,b9,b10,K9]
noncomputable def Yg(K:Nat)(f f':Nat->List (Kx×D)):Prop:=∀i q d,i<K->vq (f i) q=some d->vq (f' i) q=some d
noncomputable def bai(K:Nat)(hs:List F)(kd th e:Nat)(a1 a2:List (List Nat))(f f':Nat->List (Kx×D)):Prop:=∀i q d,i<K->vq (f' i) q=some d->vq (f i) q=some d\/∃w:Int,.int w∈u0 hs kd/\i=Bc hs kd (.int w)/\q=.inl (Ci a1 th w:Nat)/\d=.int (Ci a2 e w:Nat)
noncomputable def In1(hs:List F)(kd th e:Nat)(a1 a2:List (List Nat))(f':Nat->List (Kx×D))(n:Nat):Prop:=∀(j:Nat)(w:Int),j<n->(u0 hs kd)[j]?=some (.int w)->vq (f' (Bc hs kd (.int w))) (.inl (Ci a1 th w:Nat))=some (.int (Ci a2 e w:Nat))
def arw(P:Kf sz K hs ie)(w1:Lj K hs s1 a1)(w2:Lj K hs s2 a2)(g:Gd K c hs s1 s2 a1 a2 f)(hk:kd<K)(ht:th<s1.getD kd 0)(he:e<s2.getD kd 0)(hl:∀i,i<K->(f' i).length<=c')(mo:Yg K f f')(sr:bai K hs kd th e a1 a2 f f')(ii:In1 hs kd th e a1 a2 f' (u0 hs kd).length):Gd K c' hs s1 s2 a1 a2 f' :=
 ⟨hl,λi q d hi h=>by
  rcases sr i q d hi h with h|⟨w,h1,rfl,rfl,rfl⟩
  . obtain⟨x,y,rfl,rfl,x1,x2,x3⟩:=g.val i q d hi h
    exact⟨x,y,rfl,rfl,x1,x2,λj o ho ha=>mo _ _ _ (P.Rf o (ao ho)) (x3 j o ho ha)⟩
  . refine⟨_,_,rfl,rfl,(O8 (m:=1) (M:=[]) (bh _) w1 h1 ht).2,(O8 (m:=1) (M:=[]) (bh _) w2 h1 he).2,λj o ho ha=>?_⟩
    obtain⟨w',y1,y2,y3⟩:=axc P h1 ho ha;obtain⟨i,hi⟩:=List.getElem?_of_mem y1;rw[y3 w1 _ ht,y3 w2 _ he,<- y2];exact ii i w' (ak.mp hi).1 hi⟩
def arx(hm:2<=m)(P:Kf sz K hs ie)(w1:Lj K hs s1 a1)(w2:Lj K hs s2 a2)(hd:DS p K f M)(hg:Gd K c hs s1 s2 a1 a2 f)(hc:c<=1000)(hk:kd<K)(ht:th<s1.getD kd 0)(he:e<s2.getD kd 0) :
 ∃v M',prog.call m 30 [qi K r hs,jz s1 a1,jz s2 a2,.vl (mz p K),.int kd,.int th,.int e] M=.ok v M'/\Bo M M' /\
  ((v=.non/\¬∀i,i<K->s2.getD i 0=1)\/∃f',v=.vl (mz M.length K)/\DS M.length K f' M'/\Gd K (c+6) hs s1 s2 a1 a2 f'/\Yg K f f'/\(vq (f' kd) (.inl (th:Int))).isSome=true):=by
 rw[call_of (a_ (by decide) hm) rfl];have hl5:=P.len;have h3:=P.k3;have m1:1<=m-1:=r_ hm
 obtain⟨M0,e0,d0,k0⟩:=axd (W:=⟨prog.call (m-1),prog.cls⟩) (ρ:=[qi K r hs,jz s1 a1,jz s2 a2,D.vl (mz p K),D.int kd,D.int th,D.int e,none,none,none,none,none]) rfl rfl hd h3;have wl:=Xa (hs:=hs) (k:=kd) hl5;have loop:=Vc (W:=⟨prog.call (m-1),prog.cls⟩) (t:=.name 8) (b:=Ef) (it:=.val (.call 18 (.p (.v 0) (.v 4)))) (s:=.con (u0 hs kd)) (n:=(u0 hs kd).length) (ρ:=EK (qi K r hs) (jz s1 a1) (jz s2 a2) (.vl (mz p K)) kd th e (.vl (mz M.length K)) none none none none) (M:=M0) (M1:=M0) (by simp[aey m1 hl5,srcOf]) rfl
  (λi ρ M'=>(∃b8 b9 b10 K9,ρ=EK (qi K r hs) (jz s1 a1) (jz s2 a2) (.vl (mz p K)) kd th e (.vl (mz M.length K)) b8 b9 b10 K9)/\Bo M M'/\∃f',DS M.length K f' M'/\(∀j,j<K->(f' j).length<=c+i)/\Yg K f f'/\bai K hs kd th e a1 a2 f f'/\In1 hs kd th e a1 a2 f' i)
  (λv M'=>(v=.non/\¬∀i,i<K->s2.getD i 0=1)/\Bo M M') ⟨⟨none,none,none,none,rfl⟩,k0,f,d0,hg.len,λ_ _ _ _ h=>h,λ_ _ _ _ h=>.inl h,λ_ _ h=>absurd h (ug _)⟩ (λ_ _ _=>rfl)
  (λi ρ M1 hi hI=>by
   obtain⟨⟨b8,b9,b10,K9,rfl⟩,k1,f',d1,g1,mo,sr,ii⟩:=hI;obtain⟨x,hx⟩:=Dn hi;have hxm:=ao hx;obtain⟨xi,rfl⟩:=aex hxm;refine⟨_,EK (qi K r hs) (jz s1 a1) (jz s2 a2) (.vl (mz p K)) kd th e (.vl (mz M.length K)) (some (.int xi)) b9 b10 K9,hx,rfl,?_⟩;have ee:=ae1 (K:=K) (r:=r) (M:=M1) m1 hxm;have fl:=abu P hk hxm;obtain⟨l1,_⟩:=O8 (M:=M1) m1 w1 hxm ht;obtain⟨l2,lt2⟩:=O8 (M:=M1) m1 w2 hxm he;have nw:∀j w,j<i+1->(u0 hs kd)[j]?=some (.int w)->j<i\/w=xi:=λj w h1 h2=>by
    by_cases z:j<i
    . exact .inl z
    . have:j=i:=by lia
      subst this;rw[hx] at h2;cases h2;exact .inr rfl
   have so:∀(q:Kx)(d:D),q=.inl (Ci a1 th xi:Nat)->d=.int (Ci a2 e xi:Nat)->∃w:Int,.int w∈u0 hs kd/\Bc hs kd (.int xi)=Bc hs kd (.int w)/\q=.inl (Ci a1 th w:Nat)/\d=.int (Ci a2 e w:Nat):=λq d h1 h2=>⟨xi,hxm,rfl,h1,h2⟩
   have ir:=O5 (p:=M.length) (K:=K) (M:=M1) fl;have dk:=d1 _ fl;have vl:∀d,vq (f' (Bc hs kd (.int xi))) (.inl (Ci a1 th xi:Nat))=some d->∃u:Nat,d=.int u/\u<s2.getD (Bc hs kd (.int xi)) 0:=λd h=>by
    rcases sr _ _ d fl h with h|⟨w,z1,z2,_,rfl⟩
    . obtain⟨_,y,_,rfl,_,h2,_⟩:=hg.val _ _ d fl h
      exact⟨y,rfl,h2⟩
    . rw[z2];exact⟨_,rfl,(O8 (M:=M1) m1 w2 z1 he).2⟩
   have one:(∀i,i<K->s2.getD i 0=1)->s2.getD (Bc hs kd (.int xi)) 0=1:=λh=>h _ fl
   have pi:∀j w,j<i+1->(u0 hs kd)[j]?=some (.int w)->w=xi\/vq (f' (Bc hs kd (.int w))) (.inl (Ci a1 th w:Nat))=some (.int (Ci a2 e w:Nat)):=λj w h1 h2=>by
    rcases nw j w h1 h2 with z|z
    . exact .inr (ii j w z h2)
    . exact .inl z
   have pz:∀f'',vq (f'' (Bc hs kd (.int xi))) (.inl (Ci a1 th xi:Nat))=some (.int (Ci a2 e xi:Nat))->Yg K f' f''->In1 hs kd th e a1 a2 f'' (i+1):=λf'' h1 h2 j w h3 h4=>by
    rcases pi j w h3 h4 with rfl|z
    . exact h1
    . exact h2 _ _ _ (abu P hk (ao h4)) z
   generalize Bc hs kd (.int xi)=far at *;generalize Ci a1 th xi=y1 at *;generalize Ci a2 e xi=y2 at *;have gt:=aq3 (k:=(y1:Int)) (d:=.int (y2:Int)) dk;have ty:=ayo dk;have st:=aq4 (k:=(y1:Int)) (d:=.int (y2:Int)) dk (by have:=g1 far fl;lia);obtain⟨u,hu,hn,hv⟩:∃u:Nat,(vq (f' far) (.inl (y1:Int))).getD (.int (y2:Int))=.int u/\u<s2.getD far 0/\∀d,vq (f' far) (.inl (y1:Int))=some d->d=.int u:=by
    cases el:vq (f' far) (.inl (y1:Int)) with
    |none=>exact⟨y2,rfl,lt2,λd h=>by cases h⟩
    |some d =>
     obtain⟨u,rfl,h⟩:=vl d el;exact⟨u,rfl,h,λd h=>by cases h;rfl⟩
   rw[hu] at gt
   by_cases cq:u=y2
   . subst cq
     have m2:Yg K f' (upK f' far (Cu (f' far) (.inl (y1:Int)) (.int (u:Int)))):=λj q d hj h=>by
      by_cases z:j=far
      . subst z
        rw[Xl,Ru]
        by_cases zq:q=.inl (y1:Int)
        . subst zq;rw[cz rfl,hv d h]
        . rw[bw zq];exact h
      . rw[ab3 z];exact h
     refine⟨.next,_,M1.set (M.length+far) (.dK (Cu (f' far) (.inl (y1:Int)) (.int (u:Int)))),by simp[Ef,ee,l1,l2,ir,ty,gt,st],.inl ⟨rfl,⟨some (.int xi),some (.int far),some (.int y1),some (.int u),rfl⟩,λa o h=>?_,upK f' far (Cu (f' far) (.inl (y1:Int)) (.int (u:Int))),λj hj=>?_,λj hj=>?_,λj q d hj h=>m2 j q d hj (mo j q d hj h),λj q d hj h=>?_,pz _ (by rw[Xl,Ru,cz rfl]) m2⟩⟩
     . rw[qx (by have:=wz h;exact i_ (b_ this x_))];exact k1 a o h
     . by_cases z:j=far
       . subst z
         rw[Xl,vo dk]
       . rw[ab3 z,qx (by lia)];exact d1 j hj
     . by_cases z:j=far
       . subst z
         rw[Xl];have:=ai7 (f' j) (.inl (y1:Int)) (.int (u:Int));have:=g1 j fl
         lia
       . rw[ab3 z]
         have:=g1 j hj;exact a_ this (w_ x_)
     . by_cases z:j=far
       . subst z
         rw[Xl,Ru] at h
         by_cases zq:q=.inl (y1:Int)
         . rw[cz zq] at h;cases h
           exact .inr (so q _ zq rfl)
         . rw[bw zq] at h;exact sr j q d hj h
       . rw[ab3 z] at h;exact sr j q d hj h
   . have cq':¬((u:Int)=(y2:Int)):=by lia
     exact⟨.ret .non,_,M1,by simp[Ef,ee,l1,l2,ir,ty,gt,cq'];rfl,.inr ⟨_,rfl,⟨rfl,λh=>by have:=one h;lia⟩,k1⟩⟩)
 rcases loop with⟨_,ρ',M',e2,⟨rfl,⟨b8,b9,b10,K9,rfl⟩,kk,f',d1,g1,mo,sr,ii⟩|⟨_,rfl,⟨rfl,no⟩,kk⟩⟩
 . have e2:Hw.den ⟨prog.call (m-1),prog.cls⟩ _ _=_:=e2
   refine⟨_,M',by simp[Fn.run,K6,K5,e0,e2],kk,.inr ⟨f',rfl,d1,arw P w1 w2 hg hk ht he (λi hi=>by have:=g1 i hi;exact a_ this (w_ wl)) mo sr ii,mo,?_⟩⟩;have:=ii 0 (-1) (by simp[u0]) (by simp[u0]);simp[Bc,Ci] at this;rw[this];rfl
 . have e2:Hw.den ⟨prog.call (m-1),prog.cls⟩ _ _=_:=e2
   exact⟨_,M',by simp[Fn.run,K6,K5,e0,e2],kk,.inl ⟨rfl,no⟩⟩
end
noncomputable def axe(n:Int):Int:=if 1<n then n else 1
def axf(h:n<1073741824):0<axe n/\axe n<1073741824:=by unfold axe;split<;>omega
def max_1(M:dh)(n:Int):v7 .max [.int 1,.int n] M=.ok (.int (axe n)) M:=rfl
noncomputable abbrev ET(t:Nat)(pt w1 w2 kn:D)(b5 b6 b7 b8 b9:Option D):Env:=[some (.ref t),some pt,some w1,some w2,some kn,b5,b6,b7,b8,b9]
section
variable{m t:Nat}{f0:Bool}{M:dh}{sz:Nat->Nat}{K r p c:Nat}{hs:List F}{ie:List (List Kx×D)}{s1 s2:Y3}{a1 a2:List (List Nat)}{f:Nat->List (Kx×D)}
def alq(hρ:ρ.length=10)(he:(Ex.ix (.v 1) (.i 0)).den W ρ M=.ok (.int K) M)(hK:K<=100000) :
 Ei.den W ρ M=.ok (.vl (mz M.length K)) (M++List.replicate K (.dK [])):=by
 obtain⟨ys,M',g,h1,h2⟩:=Kw (v:=true) (k:=1) (t:=.name 10) (e:=.Z8) he hK (λi xs M'=>xs=mz M.length i/\M'=M++List.replicate i (.dK [])) ⟨rfl,by simp⟩
  (λi xs M' hi hI=>by
   obtain⟨rfl,rfl⟩:=hI;refine⟨_,.ref (M.length+i),M++List.replicate i (MO.dK [])++[MO.dK []],rfl,by simp[MW.new],?_,?_⟩
   . simp[mz,yj]
   . simp[List.replicate_succ'])
 have g:Ei.den W ρ M=_:=g;rw[g,h1,h2];rfl
structure Kn(t:Nat)(f0:Bool)(M:dh)(K p c:Nat)(hs:List F)(s1 s2:Y3)(a1 a2:List (List Nat))(f:Nat->List (Kx×D))(M':dh):Prop where
 st:St t f0 M M'
 tp:t<p
 ds:DS p K f M'
 gd:Gd K c hs s1 s2 a1 a2 f
def Kn.keep(h:Kn t f0 M K p c hs s1 s2 a1 a2 f M1)(k:Bo M1 M2):Kn t f0 M K p c hs s1 s2 a1 a2 f M2:=⟨h.st.trans (St.of h.st.has k),h.tp,λi hi=>k _ _ (h.ds i hi),h.gd⟩
def Kn.go(h:Kn t f0 M K p c hs s1 s2 a1 a2 f M1)(k:St t f0 M1 M2):Kn t f0 M K p c hs s1 s2 a1 a2 f M2:=⟨h.st.trans k,h.tp,λi hi=>k.keep _ _ (by have:=h.tp;exact i_ (b_ this x_)) (h.ds i hi),h.gd⟩
def Kn.up(h:Kn t f0 M K p c hs s1 s2 a1 a2 f M1)(l:c<=c'):Kn t f0 M K p c' hs s1 s2 a1 a2 f M1:=⟨h.st,h.tp,h.ds,λi hi=>a_ (h.gd.len i hi) l,h.gd.val⟩
def arz(hm:3<=m)(P:Kf sz K hs ie)(w1:Lj K hs s1 a1)(w2:Lj K hs s2 a2)(h:Kn t f0 M K p c hs s1 s2 a1 a2 f M1)(hc:c<=900)(hk:kd<K)(ht:th<s1.getD kd 0) :
 Goes (λ_ ρ M'=>∃c7 c8 c9 p' f',ρ=ET t (qi K r hs) (jz s1 a1) (jz s2 a2) (.vl (mz p' K)) (some (.int kd)) (some (.int th)) c7 c8 c9/\Kn t f0 M K p' (c+6) hs s1 s2 a1 a2 f' M'/\Yg K f f'/\(vq (f' kd) (.inl (th:Int))).isSome=true)
  (λv M'=>(v=.non/\¬∀i,i<K->s2.getD i 0=1)/\St t f0 M M') 0 (An.den ⟨prog.call m,prog.cls⟩ (ET t (qi K r hs) (jz s1 a1) (jz s2 a2) (.vl (mz p K)) (some (.int kd)) (some (.int th)) b7 b8 b9) M1):=by
 have ir:=O5 (p:=p) (K:=K) (M:=M1) hk;have dk:=h.ds kd hk;have nin:O9 M1 (.int th) (.ref (p+kd))=some (vq (f kd) (.inl (th:Int))).isSome:=by simp[O9,dk]
 cases c0:(vq (f kd) (.inl (th:Int))).isSome with
 |true =>
  rw[c0] at nin;exact⟨.next,_,M1,by simp[An,ir,nin],.inl ⟨rfl,b7,b8,b9,p,f,rfl,h.up x_,λ_ _ _ _ h=>h,c0⟩⟩
 |false =>
  rw[c0] at nin;have j3:=Qd (l:=s2) (i:=kd) (M:=M1) (by rw[w2.ls];exact hk);have b27:=w2.s7 kd;obtain⟨q1,q2⟩:=axf (n:=(s2.getD kd 0:Nat)) (m_ (c_ b27 (by decide)));obtain⟨v,M2,e2,l2,s2',n2⟩:=Bx (m:=m) (a_ (by decide) hm) h.st.has q1 q2;have h2:=h.go s2';have j4:=Qd (l:=s2) (i:=kd) (M:=M2) (by rw[w2.ls];exact hk);have one:(∀i,i<K->s2.getD i 0=1)->s2.getD kd 0=1:=λh=>h _ hk
  generalize hB:s2.getD kd 0=B at j3 b27 q1 q2 e2 j4 one l2;obtain⟨ρ3,M3,e3,⟨c9,mo,rfl,h3,hmo⟩⟩:=Ax (W:=⟨prog.call m,prog.cls⟩) (t:=.name 9) (b:=Cm) (it:=.ix (.ix (.v 3) (.i 0)) (.v 5)) (n:=B) (ρ:=ET t (qi K r hs) (jz s1 a1) (jz s2 a2) (.vl (mz p K)) (some (.int kd)) (some (.int th)) (some .non) (some (.int v)) b9) (M:=M2) (M1:=M2) (by simp[Qc,j4]) (a_ b27 (by decide))
   (λi ρ M'=>∃b9 mo,ρ=ET t (qi K r hs) (jz s1 a1) (jz s2 a2) (.vl (mz p K)) (some (.int kd)) (some (.int th)) (some mo) (some (.int v)) b9/\Kn t f0 M K p c hs s1 s2 a1 a2 f M'/\((mo=.non/\(0<i->¬∀i,i<K->s2.getD i 0=1))\/∃p' f',mo=.vl (mz p' K)/\Kn t f0 M K p' (c+6) hs s1 s2 a1 a2 f' M'/\Yg K f f'/\(vq (f' kd) (.inl (th:Int))).isSome=true))
   ⟨b9,.non,rfl,h2,.inl ⟨rfl,λh=>absurd h (kh _)⟩⟩
   (λi ρ M3 hi hI=>by
    obtain⟨b9,mo,rfl,k3,hmo⟩:=hI;rcases hmo with⟨rfl,_⟩|⟨p',f',rfl,z1,z2,z3⟩
    . have j5:=Qd (l:=s2) (i:=kd) (M:=M3) (by rw[w2.ls];exact hk)
      rw[hB] at j5;have md:Gg .mod (.int ((i:Int)+(v:Int))) (.int (B:Int)) M3=.ok (.int (((i+v)%B:Nat):Int)) M3:=by rw[am8 _ _ (by lia)];simp
      have lt:(i+v)%B<s2.getD kd 0:=by rw[hB];exact Nat.mod_lt _ (by lia)
      obtain⟨u,M4,e4,k4,h4⟩:=arx (m:=m) (M:=M3) (r:=r) (a_ (by decide) hm) P w1 w2 k3.ds k3.gd (a_ hc (by decide)) hk ht lt;generalize(i+v)%B=x at md e4;have is0:Et .is .non .non M3=some true:=rfl;refine⟨_,.next,_,M4,rfl,by simp[Cm,is0,Qc,j5,md,e4],.inl rfl,some (.int i),u,rfl,k3.keep k4,?_⟩;rcases h4 with⟨rfl,no⟩|⟨f',rfl,d1,g1,mo,pr⟩
      . exact .inl ⟨rfl,λ_=>no⟩
      . exact .inr ⟨M3.length,f',rfl,⟨(k3.keep k4).st,by obtain⟨_,y,_⟩:=k3.st.has;exact wz y,d1,g1⟩,mo,pr⟩
    . have is0:Et .is (.vl (mz p' K)) .non M3=some false:=rfl
      exact⟨_,.next,_,M3,rfl,by simp[Cm,is0],.inl rfl,some (.int i),_,rfl,k3,.inr ⟨p',f',rfl,z1,z2,z3⟩⟩)
  have e3:Jd.den ⟨prog.call m,prog.cls⟩ _ _=_:=e3;rcases hmo with⟨rfl,no⟩|⟨p',f',rfl,z1,z2,z3⟩
  . have is0:Et .is .non .non M3=some true:=rfl
    exact⟨.ret .non,_,M3,by simp[An,ir,nin,Qc,j3,max_1,e2,e3,is0];rfl,.inr ⟨_,rfl,⟨rfl,λh=>no (by rw[one h];decide) h⟩,h3.st⟩⟩
  . have is0:Et .is (.vl (mz p' K)) .non M3=some false:=rfl
    exact⟨.next,_,M3,by simp[An,ir,nin,Qc,j3,max_1,e2,e3,is0],.inl ⟨rfl,some (.vl (mz p' K)),some (.int v),c9,p',f',rfl,z1,z2,z3⟩⟩
def afa{x n:Nat}(h:x<n):(List.range n).getD x 0=x:=by simp[h]
noncomputable def vf(f:Nat->List (Kx×D))(k x:Nat):Nat:=match vq (f k) (.inl (x:Int)) with|some (.int y)=>y.toNat|_=>0
noncomputable def Uv(f:Nat->List (Kx×D))(s1:Y3)(K:Nat):List (List Nat):=(List.range K).map λk=>(List.range (s1.getD k 0)).map (vf f k)
def ab4(hk:k<K):(Uv f s1 K)[k]?=some ((List.range (s1.getD k 0)).map (vf f k)):=by simp[Uv,hk]
def ajh{x:Nat}(g:Gd K c hs s1 s2 a1 a2 f)(hk:k<K)(h:(vq (f k) (.inl (x:Int))).isSome=true):vq (f k) (.inl ((x:Nat):Int))=some (.int (vf f k x:Nat))/\vf f k x<s2.getD k 0:=by
 obtain⟨d,hd⟩:=m7.mp h;obtain⟨_,y,_,rfl,_,h2,_⟩:=g.val k _ d hk hd;have:vf f k x=y:=by simp[vf,hd]
 rw[this];exact⟨hd,h2⟩
def ar0(P:Kf sz K hs ie)(w1:Lj K hs s1 a1)(g:Gd K c hs s1 s2 a1 a2 f)(ha:∀k x,k<K->x<s1.getD k 0->(vq (f k) (.inl (x:Int))).isSome=true):Mm hs s1 s2 a1 a2 (Uv f s1 K) :=
 ⟨⟨by simp[Uv,w1.ls],λk js h=>by
  have hk:k<K:=by simpa[Uv] using(ak.mp h).1
  rw[ab4 hk] at h;cases h;refine⟨by simp,λx hx=>?_⟩;obtain⟨y,hy,rfl⟩:=bf.mp hx;exact(ajh g hk (ha k y hk (je.mp hy))).2⟩,λk o ho x hx=>by
  have om:=ao ho;have ka:=P.V8 o om;have kb:=P.Rf o om;have l:=(O8 (m:=1) (M:=[]) (bh _) w1 (abt ho rfl) hx).2;rw[Gf ho] at l;have h1:=(ajh g ka (ha _ x ka hx)).1;obtain⟨x',y',e1,e2,_,_,h2⟩:=g.val _ _ _ ka h1;have e1:(x:Int)=x':=Sum.inl.inj e1;have e1:x=x':=by lia
  have e2:((vf f o.a x:Nat):Int)=y':=D.int.inj e2;have e2:vf f o.a x=y':=by lia
  have h2:=h2 k o ho rfl;subst e1 e2;have h3:=(ajh g kb (ha _ _ kb l)).1;rw[h2] at h3;have h3:((Ci a2 (vf f o.a x) k:Nat):Int)=(vf f o.b (Ci a1 x k):Nat):=D.int.inj (jn h3);rw[O7] at l;rw[v8 (ab4 kb),v8 (ab4 ka),map_getD (by simpa using l),map_getD (by simpa using hx),afa l,afa hx];rw[O7,O7] at h3;exact(Int.ofNat.inj h3).symm⟩
def axg(P:Kf sz K hs ie)(w1:Lj K hs s1 a1)(h:Kn t f0 M K p c hs s1 s2 a1 a2 f M1)(ha:∀k x,k<K->x<s1.getD k 0->(vq (f k) (.inl (x:Int))).isSome=true) :
 Eh.den W (ET t (qi K r hs) (jz s1 a1) w2 (.vl (mz p K)) b5 b6 b7 b8 b9) M1=.ok (.vl ((Uv f s1 K).map Al)) M1:=by
 have h3:=P.k3;unfold Eh;rw[Jm (g:=λk=>Al ((List.range (s1.getD k 0)).map (vf f k))) (ds:=(List.range K).map nD) (ab0 (by simp[Qa]) (a_ h3 (by decide))) (by simp;exact a_ h3 (by decide)) (λk d hd=>by
  obtain⟨y,h1,rfl,hk⟩:=Oq hd;have hk:=je.mp hk;have:k=y:=by rw[lq (by simpa using(ak.mp h1).1)] at h1;cases h1;rfl
  subst this;have j2:=Qd (l:=s1) (i:=k) (M:=M1) (by rw[w1.ls];exact hk);have b17:=w1.s7 k;have hak:=ha k;generalize s1.getD k 0=A at j2 b17 hak;have ir:=O5 (p:=p) (K:=K) (M:=M1) hk;have dk:=h.ds k hk;have c1:Eg.den W [D.ref t,qi K r hs,jz s1 a1,some w2,D.vl (mz p K),b5,b6,b7,b8,b9,D.int k] M1=.ok (.vl (((List.range A).map (vf f k)).map nD)) M1:=by
   unfold Eg;rw[Jm (g:=λx=>nD (vf f k x)) (ds:=(List.range A).map nD) (ab0 (by simp[Qc,j2]) (a_ b17 (by decide))) (by simp;exact a_ b17 (by decide)) (λx d hd=>by
    obtain⟨y,h1,rfl,hx⟩:=Oq hd;have hx:=je.mp hx;have:x=y:=by rw[lq (by simpa using(ak.mp h1).1)] at h1;cases h1;rfl
    subst this;have ix:=(axu (b:=.int x) dk rfl).trans (ajh h.gd hk (hak x hk hx)).1;exact⟨_,rfl,by simp[ir,ix];rfl⟩)]
   simp
  exact⟨_,rfl,by simp[c1,Hy];simp[Al]⟩)]
 simp[Uv]
def Yg.some(h:Yg K f f')(hi:i<K)(k:(vq (f i) q).isSome=true):(vq (f' i) q).isSome=true:=by obtain⟨d,hd⟩:=m7.mp k;rw[h i q d hi hd];rfl
def aji(hm:4<=m)(P:Kf sz K hs ie)(hh:S8 t f0 M)(w1:Lj K hs s1 a1)(w2:Lj K hs s2 a2) :
 ∃v M',prog.call m 31 [.ref t,qi K r hs,jz s1 a1,jz s2 a2] M=.ok v M'/\St t f0 M M'/\((v=.non/\¬∀i,i<K->s2.getD i 0=1)\/∃rr,v=rD rr/\Mm hs s1 s2 a1 a2 rr):=by
 rw[call_of (a_ (by decide) hm) rfl];have h3:=P.k3;have ht:t<M.length:=by obtain⟨_,h,_⟩:=hh;exact wz h
 have e0:=alq (W:=⟨prog.call (m-1),prog.cls⟩) (ρ:=[D.ref t,qi K r hs,jz s1 a1,jz s2 a2,none,none,none,none,none,none]) (M:=M) (K:=K) rfl (by simp[Qa]) (a_ h3 (by decide));have k0:Kn t f0 M K M.length 0 hs s1 s2 a1 a2 (λ_=>[]) (M++List.replicate K (.dK [])):=⟨St.of hh (Bo.app _ _),ht,λi hi=>by rw[jb x_];simp[hi],λ_ _=>bh _,λ_ _ _ _ h=>by cases h⟩;have loop:=T5 (W:=⟨prog.call (m-1),prog.cls⟩) (t:=.name 5) (b:=Cq) (it:=.ix (.v 1) (.i 0)) (n:=K) (ρ:=ET t (qi K r hs) (jz s1 a1) (jz s2 a2) (.vl (mz M.length K)) none none none none none) (M:=M++List.replicate K (.dK [])) (M1:=M++List.replicate K (.dK [])) (by simp[Qa]) (a_ h3 (by decide))
  (λkd ρ M'=>∃b5 b6 b7 b8 b9 p f,ρ=ET t (qi K r hs) (jz s1 a1) (jz s2 a2) (.vl (mz p K)) b5 b6 b7 b8 b9/\Kn t f0 M K p (42*kd) hs s1 s2 a1 a2 f M'/\∀k x,k<kd->x<s1.getD k 0->(vq (f k) (.inl (x:Int))).isSome=true)
  (λv M'=>(v=.non/\¬∀i,i<K->s2.getD i 0=1)/\St t f0 M M') ⟨none,none,none,none,none,M.length,_,rfl,k0,by simp⟩
  (λkd ρ M1 hk hI=>by
   obtain⟨b5,b6,b7,b8,b9,p,f,rfl,k1,al⟩:=hI;have j2:=Qd (l:=s1) (i:=kd) (M:=M1) (by rw[w1.ls];exact hk);have b17:=w1.s7 kd;refine⟨_,rfl,?_⟩;have inner:=T5 (W:=⟨prog.call (m-1),prog.cls⟩) (t:=.name 6) (b:=An) (it:=.ix (.ix (.v 2) (.i 0)) (.v 5)) (n:=s1.getD kd 0) (ρ:=ET t (qi K r hs) (jz s1 a1) (jz s2 a2) (.vl (mz p K)) (some (.int kd)) b6 b7 b8 b9) (M:=M1) (M1:=M1) (by simp[Qc,j2]) (a_ b17 (by decide))
    (λth ρ M'=>∃b6 b7 b8 b9 p f',ρ=ET t (qi K r hs) (jz s1 a1) (jz s2 a2) (.vl (mz p K)) (some (.int kd)) b6 b7 b8 b9/\Kn t f0 M K p (42*kd+6*th) hs s1 s2 a1 a2 f' M'/\Yg K f f'/\∀x,x<th->(vq (f' kd) (.inl (x:Int))).isSome=true)
    (λv M'=>(v=.non/\¬∀i,i<K->s2.getD i 0=1)/\St t f0 M M') ⟨b6,b7,b8,b9,p,f,rfl,k1,λ_ _ _ _ h=>h,by simp⟩
    (λth ρ M2 hth hI=>by
     obtain⟨b6,b7,b8,b9,p',f',rfl,k2,mo,pr⟩:=hI;refine⟨_,rfl,?_⟩;obtain⟨fl,ρ',M',e,q⟩:=arz (m:=m-1) (r:=r) (r_ hm) P w1 w2 k2 (by lia) hk hth (b7:=b7) (b8:=b8) (b9:=b9);refine⟨fl,ρ',M',e,?_⟩;rcases q with⟨rfl,c7,c8,c9,p2,f2,rfl,k3,mo2,pr2⟩|q
     . refine .inl ⟨rfl,some (.int th),c7,c8,c9,p2,f2,rfl,k3,λi q d hi hq=>mo2 i q d hi (mo i q d hi hq),λx hx=>?_⟩
       by_cases z:x=th
       . rw[z];exact pr2
       . exact mo2.some hk (pr x (by lia))
     . exact .inr q)
   obtain⟨fl,ρ',M',e,q⟩:=inner;have e:Je.den ⟨prog.call (m-1),prog.cls⟩ _ _=_:=e;rcases q with⟨rfl,c6,c7,c8,c9,p2,f2,rfl,k3,mo2,pr2⟩|⟨v,rfl,q⟩
   . refine⟨.next,_,M',by simp[Cq,e],.inl ⟨rfl,some (.int kd),c6,c7,c8,c9,p2,f2,rfl,k3.up (by lia),λk x hk' hx=>?_⟩⟩
     by_cases z:k=kd
     . subst z;exact pr2 x hx
     . exact mo2.some (by lia) (al k x (by lia) hx)
   . exact⟨.ret v,ρ',M',by simp[Cq,e],.inr ⟨v,rfl,q⟩⟩)
 obtain⟨fl,ρ',M',e,q⟩:=loop;have e:Jf.den ⟨prog.call (m-1),prog.cls⟩ _ _=_:=e;rcases q with⟨rfl,b5,b6,b7,b8,b9,p,f,rfl,k1,al⟩|⟨v,rfl,⟨rfl,no⟩,q⟩
 . have e2:=axg (W:=⟨prog.call (m-1),prog.cls⟩) (r:=r) P w1 k1 al (b5:=b5) (b6:=b6) (b7:=b7) (b8:=b8) (b9:=b9) (w2:=jz s2 a2)
   exact⟨rD (Uv f s1 K),M',by simp[Fn.run,Gw,Gv,e0,e,e2,Hy];rfl,k1.st,.inr ⟨_,rfl,ar0 P w1 k1.gd al⟩⟩
 . exact⟨.non,M',by simp[Fn.run,Gw,Gv,e0,e],q,.inl ⟨rfl,no⟩⟩
end
noncomputable abbrev Wp:=List Nat×List (List Nat)
noncomputable def wD(w:Wp):D:=jz w.1 w.2
noncomputable abbrev Ke:=Nat×Nat×List (List Nat)
noncomputable def kD(e:Ke):D:=.tup [.int e.1,.int e.2.1,rD e.2.2]
def ag2(h:M[q]?=some (.lst l)):xx M (.ref q) (.vl [])=some (decide (l=[])):=by
 show Jy M 6 _ _=_;cases l with
 |nil=>simp[Jy,fc,h,Qv]|cons a l=>simp[Jy,fc,h]
def Ot{l:List α}{g:α->D}{i:Nat}(h:M[q]?=some (.lst (l.map g)))(e:l[i]?=some x):yu (.ref q) (.int i) M=some (g x):=Cj (ds:=l.map g) (by simp[fc,h]) q_ (by simp[e])
def ajj{l:List D}(h:M[q]?=some (.lst (l++[d]))):yu (.ref q) (.int (-1)) M=some d:=by
 have:Uy (l++[d]).length (-1)=some l.length:=by simp[Uy];lia
 simp only[yu,h,fc,this];simp
def bak(e:Ke)(M:dh):yu (kD e) (.int 0) M=some (.int e.1):=rfl
def ar3(e:Ke)(M:dh):yu (kD e) (.int 1) M=some (.int e.2.1):=rfl
def ayp(e:Ke)(M:dh):yu (kD e) (.int 2) M=some (rD e.2.2):=rfl
noncomputable def Lq(K n:Nat):Wp:=(List.replicate K 1,List.replicate n [0])
def axh(P:Kf sz K hs ie):Lj K hs (Lq K hs.length).1 (Lq K hs.length).2:=by
 have z:∀(j:Nat)(js:Y3),(List.replicate hs.length [0])[j]?=some js->js=[0]:=λj js h=>by have:=ao h;exact(List.mem_replicate.mp this).2
 refine⟨by simp[Lq],by simp[Lq],λx hx=>?_,λj g js h1 h2=>?_,λj1 j2 g1 g2 b1 b2 _ _ _ h1 h2 x hx=>?_⟩
 . rw[(List.mem_replicate.mp hx).2];decide
 . have m:=ao h1
   have e:∀i,i<K->(Lq K hs.length).1.getD i 0=1:=λi hi=>by simp[Lq,hi]
   rw[z j js h2,e _ (P.V8 g m),e _ (P.Rf g m)];simp
 . rw[z j1 b1 h1] at hx ⊢
   rw[z j2 b2 h2];have:x=0:=by simpa using hx
   subst this;simp only[Ci];split
   . rfl
   . generalize(ent hs g1 g2).toNat=u
     cases e:(List.replicate hs.length [0])[u]? with
     |none=>simp only[Lq,dg,e];rfl|some js=>simp only[Lq,dg,e,z _ js e];rfl
noncomputable abbrev EL(sc st pt:D)(n q:Nat)(b5 b6 b7 b8 b9:Option D):Env:=[some sc,some st,some pt,some (.ref n),some (.ref q),b5,b6,b7,b8,b9]
section
variable{m t n r q kq:Nat}{f0:Bool}{M M1:dh}{sz:Nat->Nat}{K:Nat}{hs:List F}{ie:List (List Kx×D)}{wl:List Wp}{kl:List Ke}{sc:D}
def one_den(hl:hs.length<=5)(hK:K<=3):(Ex.tup (.p (.bin .mul (.tup (.o (.i 1))) (.ix (.v 2) (.i 0))) (.blt .tuple (.o Vd)))).den W (EL sc st (qi K r hs) n q b5 b6 b7 b8 b9) M=.ok (wD (Lq K hs.length)) M:=by
 have c2:Vd.den W (EL sc st (qi K r hs) n q b5 b6 b7 b8 b9) M=.ok (.vl ((List.replicate hs.length [0]).map Al)) M:=by unfold Vd;rw[Jm (g:=λ_=>Al [0]) (ds:=hs.map eD) (by simp[Oo,Hz,srcOf]) (by simp;exact a_ hl (by decide)) (λi d hd=>⟨_,rfl,by simp[Al,nD]⟩)];simp[List.map_const']
 have mu:Gg .mul (.tup [.int 1]) (.int K) M=.ok (Al (List.replicate K 1)) M:=by show ach (.tup [.int 1]) (.int K) M=_;simp only[ach];rw[cz ⟨q_,n_ (a_ hK (by decide))⟩];simp[Al,nD]
 generalize hx:List.replicate K 1=x at mu;generalize hy:(List.replicate hs.length [0]).map Al=y at c2;simp[Qa,c2,mu,Hy];rw[<- hx,<- hy];rfl
structure Kl(wl:List Wp)(hs:List F)(kl:List Ke):Prop where
 ok:∀e∈kl,∃w1 w2,wl[e.1]?=some w1/\wl[e.2.1]?=some w2/\Mm hs w1.1 w2.1 w1.2 w2.2 e.2.2
 ch:∀(j:Nat) e e',kl[j]?=some e->kl[j+1]?=some e'->e'.1=e.2.1
def Kl.one(h:∃w1 w2,wl[(e:Ke).1]?=some w1/\wl[e.2.1]?=some w2/\Mm hs w1.1 w2.1 w1.2 w2.2 e.2.2):Kl wl hs [e]:=⟨λx hx=>by rw[qj.mp hx];exact h,λj _ _ _ h=>by simp at h⟩
def Kl.add(h:Kl wl hs (kl++[e]))(h':∃w1 w2,wl[(e':Ke).1]?=some w1/\wl[e'.2.1]?=some w2/\Mm hs w1.1 w2.1 w1.2 w2.2 e'.2.2)(c:e'.1=e.2.1):Kl wl hs (kl++[e]++[e']):=by
 refine⟨λx hx=>?_,λj a b ha hb=>?_⟩
 . rcases dw.mp hx with q|q
   . exact h.ok x q
   . rw[qj.mp q];exact h'
 . by_cases z:j+1<(kl++[e]).length
   . rw[dj (by lia)] at ha
     rw[dj z] at hb;exact h.ch j a b ha hb
   . have hb':=(ak.mp hb).1
     have ej:j=kl.length:=by simp at hb' z;lia
     subst ej;simp at ha hb;rw[<- ha,<- hb];exact c
def axi(hm:4<=m)(P:Kf sz K hs ie)(hw:∀w∈wl,Lj K hs w.1 w.2)(hl:wl.length=5)(h4:wl[4]?=some (Lq K hs.length)){i:Nat}(hi:i<4)(hh:S8 t f0 M1)(hq:M1[q]?=some (.lst (wl.map wD)))(hk:M1[kq]?=some (.lst (kl.map kD)))(kt:kq≠t)(qt:q≠t)(ko:Kl wl hs kl)(kl4:kl.length<=i) :
 ∃ρ' M' kq' kl' c8,K7.den ⟨prog.call m,prog.cls⟩ (EL sc (.ref t) (qi K r hs) n q b5 (some (.ref kq)) (some (.int i)) b8 b9) M1=.ok (.next,ρ') M'/\ρ'=EL sc (.ref t) (qi K r hs) n q b5 (some (.ref kq')) (some (.int i)) c8 b9/\S8 t f0 M'/\M'[kq']?=some (.lst (kl'.map kD))/\(kq'=kq\/M1.length<=kq')/\(∀a o,a≠t->a≠kq->M1[a]?=some o->M'[a]?=some o)/\M1.length<=M'.length/\Kl wl hs kl'/\kl'.length<=i+1/\(i=3->kl'≠[]):=by
 obtain⟨w0,e0⟩:=Dn (l:=wl) (i:=0) (by lia);obtain⟨wk,ek⟩:=Dn (l:=wl) (i:=i+1) (by lia);have k0:=hw _ (ao e0);have kk:=hw _ (ao ek);have i0:yu (.ref q) (.int 0) M1=some (wD w0):=Ot hq e0;have ik:yu (.ref q) (.int ((i:Int)+1)) M1=some (wD wk):=Ot hq ek;have one:i=3->∀j,j<K->wk.1.getD j 0=1:=λz j hj=>by subst z;rw[h4] at ek;cases ek;simp[Lq,hj]
 obtain⟨v,M2,c1,s1,hv⟩:=aji (m:=m) (M:=M1) (r:=r) hm P hh k0 kk;have c1:prog.call m 31 [.ref t,qi K r hs,wD w0,wD wk] M1=.ok v M2:=c1;have hk2:=s1.keep _ _ kt hk;have hq2:=s1.keep _ _ qt hq;have ik2:yu (.ref q) (.int ((i:Int)+1)) M2=some (wD wk):=Ot hq2 ek;have eq2:=ag2 hk2;rcases List.eq_nil_or_concat kl with rfl|⟨ka,e,rfl⟩
 . have eq2:xx M2 (.ref kq) (.vl [])=some true:=by rw[eq2];simp
   rcases hv with⟨rfl,no⟩|⟨rr,rfl,im⟩
   . have is0:Et .Lw .non .non M2=some false:=rfl
     exact⟨_,M2,kq,[],some .non,by simp[K7,i0,ik,c1,eq2,is0],rfl,s1.has,hk2,.inl rfl,λa o z _ h=>s1.keep a o z h,s1.len,ko,ju _,λz=>absurd (one z) no⟩
   . have is0:Et .Lw (rD rr) .non M2=some true:=rfl
     refine⟨_,M2++[.lst [kD (0,i+1,rr)]],M2.length,[(0,i+1,rr)],some (rD rr),by simp[K7,i0,ik,c1,eq2,is0,MW.new,kD],rfl,?_,by simp,.inr s1.len,λa o z _ h=>xm (s1.keep a o z h),by simp;exact a_ s1.len x_,Kl.one ⟨w0,wk,e0,ek,im⟩,by simp,λ_=>by simp⟩;obtain⟨x,y,o⟩:=s1.has;exact⟨x,xm y,o⟩
 . rw[List.concat_eq_append] at *
   have eq2:xx M2 (.ref kq) (.vl [])=some false:=by rw[eq2];simp
   have hk3:M2[kq]?=some (.lst (ka.map kD++[kD e])):=by rw[hk2];simp
   obtain⟨w1,w2,d1,d2,_⟩:=ko.ok e (by simp);have k2:=hw _ (ao d2);have il:=ajj hk3;have i2:=Ot hq2 d2;obtain⟨v',M3,c3,s3,hv'⟩:=aji (m:=m) (M:=M2) (r:=r) hm P s1.has k2 kk;have c3:prog.call m 31 [.ref t,qi K r hs,wD w2,wD wk] M2=.ok v' M3:=c3;have hk4:=s3.keep _ _ kt hk3;have eq3:xx M3 (.ref kq) (.vl [])=some false:=by rw[ag2 hk4];simp
   have il3:=ajj hk4;have s:=s1.trans s3;rcases hv' with⟨rfl,no⟩|⟨rr,rfl,im⟩
   . have is0:Et .Lw .non .non M3=some false:=rfl
     exact⟨_,M3,kq,ka++[e],some .non,by simp[K7,i0,ik,c1,eq2,il,ar3,i2,ik2,c3,is0],rfl,s.has,by rw[hk4];simp,.inl rfl,λa o z _ h=>s.keep a o z h,s.len,ko,a_ kl4 x_,λ_=>by simp⟩
   . have is0:Et .Lw (rD rr) .non M3=some true:=rfl
     have bt:=Hc hk4;have ap:=G6 (d:=kD (e.2.1,i+1,rr)) hk4 (by simp at kl4 ⊢;lia);refine⟨_,M3.set kq (.lst ((ka.map kD++[kD e])++[kD (e.2.1,i+1,rr)])),kq,ka++[e]++[(e.2.1,i+1,rr)],some (rD rr),?_,rfl,?_,by rw[vo hk4];simp,.inl rfl,λa o z zk h=>by rw[qx zk.symm];exact s.keep a o z h,by simp;exact s.len,ko.add ⟨w2,wk,d2,ek,im⟩ rfl,by simp at kl4 ⊢;lia,λ_=>by simp⟩
     . simp[kD] at ap
       simp[K7,i0,ik,c1,eq2,il,ar3,i2,ik2,c3,is0,eq3,bt,il3,ap,kD]
     . obtain⟨x,y,o⟩:=s.has
       exact⟨x,by rw[qx kt];exact y,o⟩
end
section
variable{m t n r q kq a0:Nat}{f0:Bool}{M:dh}{sz:Nat->Nat}{K:Nat}{hs:List F}{ie:List (List Kx×D)}{wl:List Wp}{kl:List Ke}{sc:D}
def alr(hm:2<=m)(P:Kf sz K hs ie)(hh:S8 t f0 M)(hr:M[r]?=some (.dT ie))(hrt:r≠t) :
 ∃wl:List Wp,∃M',ahp.den ⟨prog.call m,prog.cls⟩ [some sc,D.ref t,qi K r hs,b3,b4,b5,b6,b7,b8,b9] M=new (.lst (wl.map wD)) M'/\wl.length=4/\(∀w∈wl,Lj K hs w.1 w.2)/\St t f0 M M':=by
 obtain⟨ys,M',e,wl,rfl,l,w,s⟩:=Kw (W:=⟨prog.call m,prog.cls⟩) (v:=false) (k:=1) (t:=.name 10) (it:=.i 4) (e:=.call 28 (.q (.v 1) (.v 2) (.i 2))) (ρ:=[some sc,D.ref t,qi K r hs,b3,b4,b5,b6,b7,b8,b9]) (M:=M) (M1:=M) (n:=4) rfl (by decide)
  (λi xs M'=>∃wl:List Wp,xs=wl.map wD/\wl.length=i/\(∀w∈wl,Lj K hs w.1 w.2)/\St t f0 M M') ⟨[],rfl,rfl,by simp,St.of hh (Bo.refl _)⟩
  (λi xs M1 hi hI=>by
   obtain⟨wl,rfl,l,w,s⟩:=hI;obtain⟨ss,as,M2,e2,w2,s2⟩:=arj (m:=m) (r:=r) hm P s.has (s.keep _ _ hrt hr) hrt;exact⟨_,wD (ss,as),M2,rfl,by simp[e2];rfl,wl++[(ss,as)],by simp,by simp[l],λx hx=>by
    rcases dw.mp hx with q|q
    . exact w x q
    . rw[qj.mp q];exact w2,s.trans s2⟩)
 exact⟨wl,M',e,l,w,s⟩
def ar4(hm:1<=m)(hK:K<=3)(hw:∀w∈wl,Lj K hs w.1 w.2)(hq:M[q]?=some (.lst (wl.map wD))) :
 ∃c5,aho.den ⟨prog.call m,prog.cls⟩ (EL sc (.ref t) (qi K r hs) n q b5 b6 b7 b8 b9) M=.ok (.next,EL sc (.ref t) (qi K r hs) n q c5 b6 b7 b8 b9) M:=by
 obtain⟨fl,ρ',M',e,⟨rfl,⟨c5,rfl⟩,rfl⟩|⟨v,rfl,h⟩⟩:=Vc (W:=⟨prog.call m,prog.cls⟩) (s:=.live q wl.length) (n:=wl.length) (t:=.name 5) (b:=aal) (it:=.val (.v 4)) (ρ:=EL sc (.ref t) (qi K r hs) n q b5 b6 b7 b8 b9) (M:=M) (M1:=M) (by simp[srcOf,hq]) rfl
  (λ_ ρ M'=>(∃c5,ρ=EL sc (.ref t) (qi K r hs) n q c5 b6 b7 b8 b9)/\M'=M) (λ_ _=>False) ⟨⟨b5,rfl⟩,rfl⟩ (λ_ M' h=>by obtain⟨_,rfl⟩:=h;simp[Src.fin,hq]) (λi ρ M' hi hI=>by
   obtain⟨⟨c5,rfl⟩,rfl⟩:=hI;obtain⟨w,ew⟩:=Dn hi;have k:=hw w (ao ew);refine⟨wD w,EL sc (.ref t) (qi K r hs) n q (some (wD w)) b6 b7 b8 b9,by simp[Src.item,hq,ew],rfl,?_⟩;have e1:prog.call m 25 [wD w] M'=.ok (rD (stay w.1)) M':=Qu hm k hK;have e2:=Zx (M:=M') hm (r:=stay w.1) (by simp[stay,k.ls];exact a_ hK (by decide));have c1:aak.den ⟨prog.call m,prog.cls⟩ (EL sc (.ref t) (qi K r hs) n q (some (wD w)) b6 b7 b8 b9) M'=.ok (.vl ((stay w.1).map Al)) M':=by unfold aak;exact ae7 (it:=.ix (.v 5) (.i 0)) k hK (by simp[wD,Qc]) (λy _=>⟨_,rfl,rfl⟩)
   have q1:=ae8 M' (stay w.1);have tv:v7 .tuple [.vl ((stay w.1).map Al)] M'=.ok (rD (stay w.1)) M':=rfl;exact⟨.next,_,M',by simp[aal,e1,e2,c1,tv,q1],.inl ⟨rfl,⟨some (wD w),rfl⟩,rfl⟩⟩)
 . exact⟨c5,e⟩
 . exact h.elim
def ajk{e:Ex}{z:Int}(h:e.den W ρ M=.ok (.int z) M)(hz:z.natAbs<=100000):(Ow.Im e).den W ρ M=.ok (.con ((List.range z.toNat).map nD)) M:=by rw[Iw,h];simp only[Res.Bl,hz,jx];rfl
def ajl{i n:Nat}(h:((List.range n).map nD)[i]?=some d):i<n/\d=.int i:=by
 obtain⟨y,h1,rfl,h2⟩:=Oq h;have hi:i<n:=by simpa using(ak.mp h1).1
 rw[lq hi] at h1;cases h1;exact⟨hi,rfl⟩
def ajm{l:List D}(h:M[q]?=some (.lst l)):v7 .len [.ref q] M=.ok (.int l.length) M:=len_list (by simp[fc,h])
def als(hm:4<=m)(P:Kf sz K hs ie)(h:Made n a0 K hs ie M)(hw:∀w∈wl,Lj K hs w.1 w.2)(hq:M[q]?=some (.lst (wl.map wD)))(hk:M[kq]?=some (.lst (kl.map kD)))(ko:Kl wl hs kl)(k4:kl.length<=4) :
 ∃c7,ahm.den ⟨prog.call m,prog.cls⟩ (EL sc (.ref t) (qi K r hs) n q b5 (some (.ref kq)) b7 b8 b9) M=.ok (.next,EL sc (.ref t) (qi K r hs) n q b5 (some (.ref kq)) c7 b8 b9) M:=by
 have ln:=ajm hk;rw[du] at ln;obtain⟨ρ',e,c7,rfl⟩:=Kr (W:=⟨prog.call m,prog.cls⟩) (t:=.name 7) (b:=aaj) (it:=.Im (.bin .sub (.l (.v 6)) (.i 1))) (ρ:=EL sc (.ref t) (qi K r hs) n q b5 (some (.ref kq)) b7 b8 b9) (M:=M) (ajk (z:=(kl.length:Int)-1) (by simp[ln]) (by lia))
  (fun ρ=>∃c7,ρ=EL sc (.ref t) (qi K r hs) n q b5 (some (.ref kq)) c7 b8 b9) ⟨b7,rfl⟩ (λi d ρ hd hE=>by
   obtain⟨c7,rfl⟩:=hE;obtain⟨hi,rfl⟩:=ajl hd;obtain⟨x,ex⟩:=Dn (l:=kl) (i:=i) (by lia);obtain⟨y,ey⟩:=Dn (l:=kl) (i:=i+1) (by lia);have ch:=ko.ch i x y ex ey;obtain⟨w1,w2,d1,d2,m1⟩:=ko.ok x (ao ex);obtain⟨w2',w3,d3,d4,m2⟩:=ko.ok y (ao ey);rw[ch,d2] at d3;cases d3;have e1:prog.call m 34 [.ref n,wD w1,wD w3,rD x.2.2,rD y.2.2] M=.ok (.bl true) M:=arv hm P h (hw _ (ao d1)) (hw _ (ao d2)) (hw _ (ao d4)) m1 m2;have i1:=Ot hk ex;have i2:yu (.ref kq) (.int ((i:Int)+1)) M=some (kD y):=Ot hk ey;have i3:=Ot hq d1;have i4:=Ot hq d4;exact⟨_,_,rfl,by simp[aaj,i1,i2,bak,ar3,ayp,i3,i4,e1],some (.int i),rfl⟩)
 exact⟨c7,e⟩
def alu(hm:1<=m)(hK:K<=3)(hw:∀w∈wl,Lj K hs w.1 w.2)(hk:M[kq]?=some (.lst (kl.map kD)))(ko:Kl wl hs kl)(k4:kl.length<=4) :
 ∃c7 c9,ahl.den ⟨prog.call m,prog.cls⟩ (EL sc (.ref t) (qi K r hs) n q b5 (some (.ref kq)) b7 b8 b9) M=.ok (.next,EL sc (.ref t) (qi K r hs) n q b5 (some (.ref kq)) c7 b8 c9) M:=by
 have ln:=ajm hk;rw[du] at ln;obtain⟨ρ',e,c7,c9,rfl⟩:=Kr (W:=⟨prog.call m,prog.cls⟩) (t:=.name 7) (b:=aai) (it:=.Im (.bin .sub (.l (.v 6)) (.i 2))) (ρ:=EL sc (.ref t) (qi K r hs) n q b5 (some (.ref kq)) b7 b8 b9) (M:=M) (ajk (z:=(kl.length:Int)-2) (by simp[ln]) (by lia))
  (fun ρ=>∃c7 c9,ρ=EL sc (.ref t) (qi K r hs) n q b5 (some (.ref kq)) c7 b8 c9) ⟨b7,b9,rfl⟩ (λi d ρ hd hE=>by
   obtain⟨c7,c9,rfl⟩:=hE;obtain⟨hi,rfl⟩:=ajl hd;obtain⟨x,ex⟩:=Dn (l:=kl) (i:=i) (by lia);obtain⟨y,ey⟩:=Dn (l:=kl) (i:=i+1) (by lia);obtain⟨z,ez⟩:=Dn (l:=kl) (i:=i+2) (by lia);have ch:=ko.ch i x y ex ey;have ch2:=ko.ch (i+1) y z ey ez;obtain⟨w1,w2,d1,d2,m1⟩:=ko.ok x (ao ex);obtain⟨w2',w3,d3,d4,m2⟩:=ko.ok y (ao ey);obtain⟨w3',w4,d5,d6,m3⟩:=ko.ok z (ao ez);rw[ch,d2] at d3;cases d3;rw[ch2,d4] at d5;cases d5;have k1:=hw _ (ao d1);have k2:=hw _ (ao d2);have k3:=hw _ (ao d4);have h12:w2.1.length=w1.1.length:=by rw[k2.ls,k1.ls]
   have h23:w3.1.length=w2.1.length:=by rw[k3.ls,k2.ls]
   have l1:w1.1.length<=3:=by rw[k1.ls];exact hK
   have l2:w2.1.length<=3:=by rw[k2.ls];exact hK
   have e1:=Ln (M:=M) hm l1 h12 k1.s7 m1.fit m2.fit;have e2:=Ln (M:=M) hm l1 (h23.trans h12) k1.s7 (Xk h12 m1.fit m2.fit) m3.fit;have e3:=Ln (M:=M) hm l2 h23 k2.s7 m2.fit m3.fit;have e4:=Ln (M:=M) hm l1 h12 k1.s7 m1.fit (Xk h23 m2.fit m3.fit);rw[alp h12 (h23.trans h12) m1.fit m2.fit m3.fit] at e2;have i1:=Ot hk ex;have i2:yu (.ref kq) (.int ((i:Int)+1)) M=some (kD y):=Ot hk ey;have i3:yu (.ref kq) (.int ((i:Int)+2)) M=some (kD z):=Ot hk ez;have q1:=ae8 M (Fv x.2.2 (Fv y.2.2 z.2.2));exact⟨_,_,rfl,by simp[aai,i1,i2,i3,ayp,e1,e2,e3,e4,q1],some (.int i),some (rD (Fv x.2.2 (Fv y.2.2 z.2.2))),rfl⟩)
 exact⟨c7,c9,e⟩
end
def a3w{m:Nat}{ns:Xs}{M:dh}(hm:6<=m):∃M',prog.call m 35 [.fz (ns.map D.int)] M=.ok (.bl true) M':=by
 rw[call_of (a_ (by decide) hm) rfl];obtain⟨n0,f0,s0,o0⟩:=ani (m:=m-1) (k:=0) (ns:=ns) (M:=M) (r_ (a_ (by decide) hm));have s0:prog.call (m-1) 13 [.fz (ns.map D.int),.int 0] M=_:=s0;have hh0:S8 M.length f0 (M++[.lst [.int n0,.bl f0]]):=⟨n0,by simp,o0⟩;obtain⟨K,r,sz,hs,ie,M1,e0,p0,lr,P,t0⟩:=af3 (m:=m-1) (r_ (a_ (by decide) hm)) hh0;have e0:prog.call (m-1) 17 [.ref M.length] (M++[.lst [.int n0,.bl f0]])=.ok (qi K r hs) M1:=e0;have hrt:r≠M.length:=by have:=lr;simp at this;lia
 have nn:(M1++[.ins 2 []])[M1.length]?=some (.ins 2 []):=by simp
 obtain⟨M2,a0,i0,md,la,lb,k0⟩:=at7 (M:=M1++[.ins 2 []]) (m:=m-1) (r:=r) (n:=M1.length) (r_ (a_ (by decide) hm)) P (xm p0) nn;have k0':Bo M1 M2:=λa o h=>k0 a o (by have:=wz h;exact h_ this) (xm h)
 have mk:(Ex.make 2 (.q (.ix (.v 2) (.i 0)) (.ix (.v 2) (.i 1)) (.ix (.v 2) (.i 2)))).den ⟨prog.call (m-1),prog.cls⟩ [D.fz (ns.map D.int),D.ref M.length,qi K r hs,none,none,none,none,none,none,none] M1=.ok (.ref M1.length) M2:=by have cl:(prog.cls)[2]?=some ⟨0,[(0,1),(1,2),(2,3),(3,4),(4,5)]⟩:=rfl;simp[Qa,Oo,ayl,cl,i0]
 have hM1:M.length<M1.length:=by obtain⟨k,h,o⟩:=t0.has;exact wz h
 have hh2:S8 M.length f0 M2:=by obtain⟨k,h,o⟩:=t0.has;exact⟨k,k0' _ _ h,o⟩
 have ha0:a0≠M.length:=by have:=la;simp at this;lia
 have h3:=P.k3;obtain⟨wl,M3,e3,l3,w3,s3⟩:=alr (m:=m-1) (r:=r) (sc:=.fz (ns.map D.int)) (b3:=some (.ref M1.length)) (b4:=none) (b5:=none) (b6:=none) (b7:=none) (b8:=none) (b9:=none) (r_ (a_ (by decide) hm)) P hh2 (k0' _ _ p0) hrt;have t3:M.length<M3.length:=by obtain⟨k,h,o⟩:=s3.has;exact wz h
 have q3:(M3++[.lst (wl.map wD)])[M3.length]?=some (.lst (wl.map wD)):=by simp
 have bt:=Hc q3;have ap:=G6 (d:=wD (Lq K hs.length)) q3 (by simp[l3]);have od:=one_den (W:=⟨prog.call (m-1),prog.cls⟩) (sc:=.fz (ns.map D.int)) (st:=.ref M.length) (r:=r) (n:=M1.length) (q:=M3.length) (b5:=none) (b6:=none) (b7:=none) (b8:=none) (b9:=none) (M:=M3++[.lst (wl.map wD)]) P.len h3;obtain⟨M4,hM4⟩:∃M4:dh,(M3++[MO.lst (wl.map wD)]).set M3.length (.lst (wl.map wD++[wD (Lq K hs.length)]))=M4:=⟨_,rfl⟩;rw[hM4] at ap;have q4:M4[M3.length]?=some (.lst ((wl++[Lq K hs.length]).map wD)):=by rw[<- hM4,vo q3];simp
 have s4:St M.length f0 M3 M4:=St.of s3.has λa o h=>by rw[<- hM4,qx (by have:=wz h;exact i_ this)];exact xm h
 have w4:∀w∈wl++[Lq K hs.length],Lj K hs w.1 w.2:=λx hx=>by
  rcases dw.mp hx with q|q
  . exact w3 x q
  . rw[qj.mp q];exact axh P
 have l4:(wl++[Lq K hs.length]).length=5:=by simp[l3]
 have o4:(wl++[Lq K hs.length])[4]?=some (Lq K hs.length):=by rw[<- l3];simp
 generalize wl++[Lq K hs.length]=wl5 at q4 w4 l4 o4;have st:=s3.trans s4;have md4:Made M1.length a0 K hs ie M4:=⟨st.keep _ _ (i_ hM1) md.1,st.keep _ _ ha0 md.2⟩;obtain⟨c5,e5⟩:=ar4 (m:=m-1) (t:=M.length) (n:=M1.length) (r:=r) (sc:=.fz (ns.map D.int)) (b5:=none) (b6:=none) (b7:=none) (b8:=none) (b9:=none) (r_ (a_ (by decide) hm)) h3 w4 q4;obtain⟨ρ6,M6,e6,kq,kl,c7,c8,rfl,hk,kg,g6,ko,kc,kn⟩:=Ax (W:=⟨prog.call (m-1),prog.cls⟩) (t:=.name 7) (b:=K7) (it:=.i 4) (n:=4) (ρ:=EL (.fz (ns.map D.int)) (.ref M.length) (qi K r hs) M1.length M3.length c5 (some (.ref M4.length)) none none none) (M:=M4++[.lst []]) (M1:=M4++[.lst []]) rfl (by decide)
  (λi ρ M'=>∃kq kl c7 c8,ρ=EL (.fz (ns.map D.int)) (.ref M.length) (qi K r hs) M1.length M3.length c5 (some (.ref kq)) c7 c8 none/\M'[kq]?=some (.lst (kl.map kD))/\M4.length<=kq/\Gs M.length f0 M4.length M4 M'/\Kl wl5 hs kl/\kl.length<=i/\(i=4->kl≠[]))
  ⟨M4.length,[],none,none,rfl,by simp,bh _,Gs.app st.has (bh _) _,⟨by simp,by simp⟩,ju _,λh=>by cases h⟩
  (λi ρ M5 hi hI=>by
   obtain⟨kq,kl,c7,c8,rfl,hk,kg,g5,ko,kc,_⟩:=hI;have qn:M3.length<M4.length:=wz q4
   have q5:=g5.low _ _ qn (by lia) q4;obtain⟨ρ',M',kq',kl',c8',e,rfl,z1,z2,z3,z4,z5,z6,z7,z8⟩:=axi (m:=m-1) (M1:=M5) (r:=r) (n:=M1.length) (sc:=.fz (ns.map D.int)) (b5:=c5) (b8:=c8) (b9:=none) (r_ (a_ (by decide) hm)) P w4 l4 o4 hi g5.has q5 hk (by lia) (by lia) ko kc;exact⟨_,.next,_,M',rfl,e,.inl rfl,kq',kl',some (.int i),c8',rfl,z2,by have:=g5.len;lia,⟨z1,λa o h1 h2 h3=>z4 a o h2 (by lia) (g5.low a o h1 h2 h3),a_ g5.len z5⟩,z6,z7,λz=>z8 (by lia)⟩)
 have qn:M3.length<M4.length:=wz q4
 have q6:=g6.low _ _ qn (by lia) q4;have md6:Made M1.length a0 K hs ie M6:=⟨g6.low _ _ (wz md4.1) (i_ hM1) md4.1,g6.low _ _ (wz md4.2) ha0 md4.2⟩;obtain⟨d7,e7⟩:=als (m:=m-1) (t:=M.length) (r:=r) (sc:=.fz (ns.map D.int)) (b5:=c5) (b7:=c7) (b8:=c8) (b9:=none) (r_ (a_ (by decide) hm)) P md6 w4 q6 hk ko kc;obtain⟨d8,d9,e8⟩:=alu (m:=m-1) (t:=M.length) (r:=r) (n:=M1.length) (q:=M3.length) (sc:=.fz (ns.map D.int)) (b5:=c5) (b7:=d7) (b8:=c8) (b9:=none) (r_ (a_ (by decide) hm)) h3 w4 hk ko kc;have e6:ahn.den ⟨prog.call (m-1),prog.cls⟩ _ _=_:=e6;have eq:=ag2 hk;have:¬(kl.map kD=[]):=by simpa using kn rfl
 rw[ph this] at eq;exact⟨M6,by simp[-ack,-ahf,Fn.run,anf,axy,s0,e0,mk,e3,MW.new,bt,od,ap,e5,e6,e7,e8,eq]⟩
open PySem L2
open PySem.W
set_option maxHeartbeats 0 in
def all_mk{l:OpenLaw}{K:Frag}{h:Heap}(X:K.In h)(G:h.Ns mainGlobals mg)(hfa:mg "law" = some (.ref fa))
 (aC2:nsIn K mainGlobals "Pattern" = some (some (.ref C2)))
 (a0:findIn K (.ref C2) "__init__" = some (some (.ref f0)))
 (i0:isFn K (.ref f0)=true)
 (l0:Ck.Lk K f0 "__init__" "Pattern.__init__" (inClass (top 7) 0) oc0 od0 kV0 dc0 pm0 an0 cd0 ct0 sl0)
 (a1:findIn K (.ref C2) "kinds" = some (some (.ref f1)))
 (i1:isFn K (.ref f1)=true)
 (l1:Ck.Lk K f1 "kinds" "Pattern.kinds" (inClass (top 7) 1) oc1 od1 kV1 dc1 pm1 an1 cd1 ct1 sl1)
 (a2:findIn K (.ref C2) "doings" = some (some (.ref f2)))
 (i2:isFn K (.ref f2)=true)
 (l2:Ck.Lk K f2 "doings" "Pattern.doings" (inClass (top 7) 2) oc2 od2 kV2 dc2 pm2 an2 cd2 ct2 sl2)
 (a3:findIn K (.ref C2) "behind" = some (some (.ref f3)))
 (i3:isFn K (.ref f3)=true)
 (l3:Ck.Lk K f3 "behind" "Pattern.behind" (inClass (top 7) 3) oc3 od3 kV3 dc3 pm3 an3 cd3 ct3 sl3)
 (a4:findIn K (.ref C2) "ways" = some (some (.ref f4)))
 (i4:isFn K (.ref f4)=true)
 (l4:Ck.Lk K f4 "ways" "Pattern.ways" (inClass (top 7) 4) oc4 od4 kV4 dc4 pm4 an4 cd4 ct4 sl4)
 (a5:findIn K (.ref C2) "end" = some (some (.ref f5)))
 (i5:isFn K (.ref f5)=true)
 (l5:Ck.Lk K f5 "end" "Pattern.end" (inClass (top 7) 5) oc5 od5 kV5 dc5 pm5 an5 cd5 ct5 sl5)
 (a6:nsIn K mainGlobals "both_ways" = some (some (.ref f6)))
 (l6:Ck.Lk K f6 "both_ways" "both_ways" (top 8) oc6 od6 kV6 dc6 pm6 an6 cd6 ct6 sl6)
 (a7:nsIn K mainGlobals "meeting_pairs" = some (some (.ref f7)))
 (l7:Ck.Lk K f7 "meeting_pairs" "meeting_pairs" (top 9) oc7 od7 kV7 dc7 pm7 an7 cd7 ct7 sl7)
 (a8:nsIn K mainGlobals "is_way_between" = some (some (.ref f8)))
 (l8:Ck.Lk K f8 "is_way_between" "is_way_between" (top 10) oc8 od8 kV8 dc8 pm8 an8 cd8 ct8 sl8)
 (a9:nsIn K mainGlobals "check_doings" = some (some (.ref f9)))
 (l9:Ck.Lk K f9 "check_doings" "check_doings" (top 11) oc9 od9 kV9 dc9 pm9 an9 cd9 ct9 sl9)
 (a10:nsIn K mainGlobals "check_table" = some (some (.ref f10)))
 (l10:Ck.Lk K f10 "check_table" "check_table" (top 12) bnc bnf bng bnh bni bnj bnk bnl bnm)
 (a11:nsIn K mainGlobals "check_threes" = some (some (.ref f11)))
 (l11:Ck.Lk K f11 "check_threes" "check_threes" (top 13) bno bnp bnq bnr bns bnt bnu bnv bnw)
 (a12:nsIn K mainGlobals "_law_cell_at" = some (some (.ref f12)))
 (l12:Ck.Lk K f12 "_law_cell_at" "_law_cell_at" (top 23) bny bnz bn0 bn1 bn2 bn3 bn4 bn5 bn6)
 (a13:nsIn K mainGlobals "_law_state" = some (some (.ref f13)))
 (l13:Ck.Lk K f13 "_law_state" "_law_state" (top 24) bn8 bn9 boa bob boc bod boe bof bog)
 (a14:nsIn K mainGlobals "_law_take" = some (some (.ref f14)))
 (l14:Ck.Lk K f14 "_law_take" "_law_take" (top 25) boi boj bon boo bop boq bos bou bov)
 (a15:nsIn K mainGlobals "_law_begun" = some (some (.ref f15)))
 (l15:Ck.Lk K f15 "_law_begun" "_law_begun" (top 26) boy boz bo0 bo1 bo2 bo3 bo4 bo5 bo6)
 (a16:nsIn K mainGlobals "_law_closed" = some (some (.ref f16)))
 (l16:Ck.Lk K f16 "_law_closed" "_law_closed" (top 27) bo8 bo9 bpa bpb bpc bpd bpe bpf bpg)
 (a17:nsIn K mainGlobals "_law_pattern" = some (some (.ref f17)))
 (l17:Ck.Lk K f17 "_law_pattern" "_law_pattern" (top 28) bpi bpj bpk bpl bpm bpn bpo bpp bpq)
 (a18:nsIn K mainGlobals "_law_ways" = some (some (.ref f18)))
 (l18:Ck.Lk K f18 "_law_ways" "_law_ways" (top 29) bps bpt bpu bpv bpw bpx bpy bpz bp0)
 (a19:nsIn K mainGlobals "_law_end" = some (some (.ref f19)))
 (l19:Ck.Lk K f19 "_law_end" "_law_end" (top 30) bp2 bp3 bp4 bp5 bp6 bp7 bp8 bp9 bqa)
 (a20:nsIn K mainGlobals "_law_behind" = some (some (.ref f20)))
 (l20:Ck.Lk K f20 "_law_behind" "_law_behind" (top 31) bqc bqd bqe bqf bqg bqh bqi bqj bqk)
 (a21:nsIn K mainGlobals "led" = some (some (.ref f21)))
 (l21:Ck.Lk K f21 "led" "led" (top 15) bqm bqn bqo bqp bqq bqr bqs bqt bqu)
 (a22:nsIn K mainGlobals "is_map" = some (some (.ref f22)))
 (l22:Ck.Lk K f22 "is_map" "is_map" (top 17) bqw bqx bqy bqz bq0 bq1 bq2 bq3 bq4)
 (a23:nsIn K mainGlobals "has_rows" = some (some (.ref f23)))
 (l23:Ck.Lk K f23 "has_rows" "has_rows" (top 18) bq6 bq7 bq8 bq9 bra brb brc brd bre)
 (a24:nsIn K mainGlobals "first_lack" = some (some (.ref f24)))
 (l24:Ck.Lk K f24 "first_lack" "first_lack" (top 19) brg brh bri brj brl brm brn bro brp)
 (a25:nsIn K mainGlobals "staying" = some (some (.ref f25)))
 (l25:Ck.Lk K f25 "staying" "staying" (top 20) brr brs brt bru brv brw brx bry brz)
 (a26:nsIn K mainGlobals "then" = some (some (.ref f26)))
 (l26:Ck.Lk K f26 "then" "then" (top 21) br1 br2 br3 br4 br5 br6 br7 br8 br9)
 (a27:nsIn K mainGlobals "_law_merged" = some (some (.ref f27)))
 (l27:Ck.Lk K f27 "_law_merged" "_law_merged" (top 32) bsb bsc bsd bse bsf bsg bsh bsi bsj)
 (a28:nsIn K mainGlobals "_law_world" = some (some (.ref f28)))
 (l28:Ck.Lk K f28 "_law_world" "_law_world" (top 33) bsl bsm bsn bso bsp bsq bsr bss bst)
 (a29:nsIn K mainGlobals "_law_led" = some (some (.ref f29)))
 (l29:Ck.Lk K f29 "_law_led" "_law_led" (top 34) bsv bsw bsx bsy bs0 bs1 bs2 bs3 bs4)
 (a30:nsIn K mainGlobals "_law_known" = some (some (.ref f30)))
 (l30:Ck.Lk K f30 "_law_known" "_law_known" (top 35) bs6 bs7 bs8 bs9 bta btb btc btd bte)
 (a31:nsIn K mainGlobals "_law_some_map" = some (some (.ref f31)))
 (l31:Ck.Lk K f31 "_law_some_map" "_law_some_map" (top 36) btg bth bti btj btk btl btm btn bto)
 (a32:nsIn K mainGlobals "_law_tuples" = some (some (.ref f32)))
 (l32:Ck.Lk K f32 "_law_tuples" "_law_tuples" (top 37) btq btr bts btt btu btv btw btx bty)
 (a33:nsIn K mainGlobals "_law_both" = some (some (.ref f33)))
 (l33:Ck.Lk K f33 "_law_both" "_law_both" (top 38) bt0 bt1 bt2 bt3 bt4 bt5 bt6 bt7 bt8)
 (a34:nsIn K mainGlobals "_law_right" = some (some (.ref f34)))
 (l34:Ck.Lk K f34 "_law_right" "_law_right" (top 39) bua bub buc bud bue buh bui buj buk)
 (a35:nsIn K mainGlobals "law" = some (some (.ref f35)))
 (l35:Ck.Lk K f35 "law" "law" (top 40) bun buo bgr bgs bgt bgu bgv bgw bup)
 (pg2:plainGet K C2 Str.empty=true)
 (hd2:hasDictIn K C2=true)
 (po2:plainOver K C2=true)
 (sa2:findIn K (.ref C2) "__setattr__" = some (some (.builtin "object.__setattr__")))
 (mk2:makesIn K C2=true)
 (kc2:keepIn K (.ref C2)=true)
 (bgx:findIn K (.ref C2) "together" = some none)
 (bgy:findIn K (.ref C2) "doing_ends" = some none)
 (bgz:findIn K (.ref C2) "kind_count" = some none)
 (v0:nsIn K mainGlobals "STAYING" = some (some (.int (-1) tk0)))
 (v1:nsIn K mainGlobals "MOST_KINDS" = some (some (.int (3) tk1)))
 (v2:nsIn K mainGlobals "MOST_DOINGS" = some (some (.int (5) tk2)))
 (z0:nsIn K mainGlobals "len" = some none)
 (z1:nsIn K mainGlobals "tuple" = some none)
 (z2:nsIn K mainGlobals "list" = some none)
 (z3:nsIn K mainGlobals "dict" = some none)
 (z4:nsIn K mainGlobals "max" = some none)
 (z5:nsIn K mainGlobals "min" = some none)
 (z6:nsIn K mainGlobals "isinstance" = some none)
 (z7:nsIn K mainGlobals "range" = some none)
 (z8:nsIn K mainGlobals "enumerate" = some none)
 (z9:nsIn K mainGlobals "set" = some none)
 (z10:nsIn K mainGlobals "zip" = some none)
 (z11:nsIn K mainGlobals "all" = some none)
 (z12:nsIn K mainGlobals "bool" = some none)
 (z13:nsIn K mainGlobals "int" = some none)
 (z14:nsIn K mainGlobals "sum" = some none)
 (z15:nsIn K mainGlobals "sorted" = some none)
 : ∃fd:FuncData,(∀(s:Shared)(v:Value),BindsTo s fd ⟨[v],[]⟩ [("script",v)])/\∀base:Heap,K.In base->base.Ns mainGlobals mg->Fo l.prog w K mg base CX0 170 fa fd ["script"] (Ck.ai2 K):=by
 have e:=(gf X G a35).symm.trans hfa;cases e;have aF:Ck.abp K Ds sts [f0,f1,f2,f3,f4,f5,f6,f7,f8,f9,f10,f11,f12,f13,f14,f15,f16,f17,f18,f19,f20,f21,f22,f23,f24,f25,f26,f27,f28,f29,f30,f31,f32,f33,f34,fa] [_,_,_,_,_,_,_,_,_,_,_,_,_,_,_,_,_,_,_,_,_,_,_,_,_,_,_,_,_,_,_,_,_,_,_,_]:=(Ck.fE l0 (Ck.fE l1 (Ck.fE l2 (Ck.fE l3 (Ck.fE l4 (Ck.fE l5 (Ck.fE l6 (Ck.fE l7 (Ck.fE l8 (Ck.fE l9 (Ck.fE l10 (Ck.fE l11 (Ck.fE l12 (Ck.fE l13 (Ck.fE l14 (Ck.fE l15 (Ck.fE l16 (Ck.fE l17 (Ck.fE l18 (Ck.fE l19 (Ck.fE l20 (Ck.fE l21 (Ck.fE l22 (Ck.fE l23 (Ck.fE l24 (Ck.fE l25 (Ck.fE l26 (Ck.fE l27 (Ck.fE l28 (Ck.fE l29 (Ck.fE l30 (Ck.fE l31 (Ck.fE l32 (Ck.fE l33 (Ck.fE l34 (Ck.fE l35 Ck.fN))))))))))))))))))))))))))))))))))));have aG:Ck.Tt mg tab.fns [f0,f1,f2,f3,f4,f5,f6,f7,f8,f9,f10,f11,f12,f13,f14,f15,f16,f17,f18,f19,f20,f21,f22,f23,f24,f25,f26,f27,f28,f29,f30,f31,f32,f33,f34,fa]:=(Ck.gO (Ck.gO (Ck.gO (Ck.gO (Ck.gO (Ck.gO (Ck.gS (gf X G a6) (Ck.gS (gf X G a7) (Ck.gS (gf X G a8) (Ck.gS (gf X G a9) (Ck.gS (gf X G a10) (Ck.gS (gf X G a11) (Ck.gS (gf X G a12) (Ck.gS (gf X G a13) (Ck.gS (gf X G a14) (Ck.gS (gf X G a15) (Ck.gS (gf X G a16) (Ck.gS (gf X G a17) (Ck.gS (gf X G a18) (Ck.gS (gf X G a19) (Ck.gS (gf X G a20) (Ck.gS (gf X G a21) (Ck.gS (gf X G a22) (Ck.gS (gf X G a23) (Ck.gS (gf X G a24) (Ck.gS (gf X G a25) (Ck.gS (gf X G a26) (Ck.gS (gf X G a27) (Ck.gS (gf X G a28) (Ck.gS (gf X G a29) (Ck.gS (gf X G a30) (Ck.gS (gf X G a31) (Ck.gS (gf X G a32) (Ck.gS (gf X G a33) (Ck.gS (gf X G a34) (Ck.gS (gf X G a35) Ck.gN))))))))))))))))))))))))))))))))))));have aC:Ck.Om K mg tab [f0,f1,f2,f3,f4,f5,f6,f7,f8,f9,f10,f11,f12,f13,f14,f15,f16,f17,f18,f19,f20,f21,f22,f23,f24,f25,f26,f27,f28,f29,f30,f31,f32,f33,f34,fa] tab.cls [none,none,some C2] prog.cls:=(Ck.cO (Ck.cO (Ck.cS ⟨gf X G aC2,⟨pg2,hd2,po2,sa2⟩,⟨_,rfl,⟨mk2,a0,i0,kc2⟩⟩,(Ck.mC rfl rfl ⟨a1,i1,l1.2.2⟩ (Ck.mC rfl rfl ⟨a2,i2,l2.2.2⟩ (Ck.mC rfl rfl ⟨a3,i3,l3.2.2⟩ (Ck.mC rfl rfl ⟨a4,i4,l4.2.2⟩ (Ck.mC rfl rfl ⟨a5,i5,l5.2.2⟩ Ck.mN))))),(Ck.nC bgx (Ck.nC bgy (Ck.nC bgz Ck.nN)))⟩ Ck.cN)));have aV:Ck.abr mg tab.av8:=(Ck.vC (gf X G v0) (Ck.vC (gf X G v1) (Ck.vC (gf X G v2) Ck.vN)));have aB:Ck.AllB mg Ck.Ol:=(Ck.bC (jm X G z0) (Ck.bC (jm X G z1) (Ck.bC (jm X G z2) (Ck.bC (jm X G z3) (Ck.bC (jm X G z4) (Ck.bC (jm X G z5) (Ck.bC (jm X G z6) (Ck.bC (jm X G z7) (Ck.bC (jm X G z8) (Ck.bC (jm X G z9) (Ck.bC (jm X G z10) (Ck.bC (jm X G z11) (Ck.bC (jm X G z12) (Ck.bC (jm X G z13) (Ck.bC (jm X G z14) (Ck.bC (jm X G z15) Ck.bN))))))))))))))));refine⟨fnOf "law" "law" (Jj (top 40)) (Ge (top 40)) (Bk (top 40)) .none bgr bgs bgt bgu bgv bgw,λs v=>.of_eq rfl,λbase _ _=>?_⟩;obtain⟨d,a,f,g1,g2,g3,g4,g5⟩:=Ck.a3j (P:=l.prog) (w:=w) (base:=base) (n:=10) (i:=35) (F:=anf) bf2 chk bf3 bf4 bf5 aF aG aC aV aB rfl;cases g1;cases g2;cases g3;exact g5.imp λvs H Q E hh=>Ck.aws (λns hl=>a3w (by decide)) hh
end K12
open PySem PySem.W PyProof.Rows
namespace PySem.W.Fast
def tw15738168003352945042:=Nat
def tw12533685511150192116:=Nat
def tw10951844803534845463:=Nat
def tw10314803418695212795:=Nat
def tw18161314964923569392:=Nat
def tw16083141078648862768:=Nat
def tw4482563851164843978:=Nat
def tw2130195160300956577:=Nat
def tw3279672713739778522:=Nat
def tw6743992600287052058:=Nat
def tw16251754396995134562:=Nat
def tw1994713161647037441:=Nat
def tw1150096601726644321:=Nat
def tw2989362296789356294:=Nat
def tw9888317646222162871:=Nat
def tw15682695394401737351:=Nat
def tw1677575640845207908:=Nat
def tw7347821767982715792:=Nat
def tw9790371935330517252:=Nat
def tw1684883450523990245:=Nat
def tw3807258448117401072:=Nat
def tw18275192256759308725:=Nat
def tw1521210076877441712:=Nat
def tw7585551005839049294:=Nat
def tw13412674501204972440:=Nat
def tw11120057319408398825:=Nat
def tw5310667808695606245:=Nat
def tw9574853266926787368:=Nat
def tw11419232797189496126:=Nat
def tw5255320404861891171:=Nat
def tw15408645337456030338:=Nat
def tw12464140533653714201:=Nat
def tw2360428141537577099:=Nat
def tw11957589986533716821:=Nat
def tw4073738843854778834:=Nat
def tw15685960341712758970:=Nat
def tw1681248020506263505:=Nat
def tw14879525782928100955:=Nat
def tw14366104588037245475:=Nat
def tw18325902946220027501:=Nat
def tw13906197180573025317:=Nat
def tw11619106513513256723:=Nat
def tw7476535993709524223:=Nat
def tw12100998903632685041:=Nat
def tw6809230366303284519:=Nat
def tw12980170307548276145:=Nat
def tw13797417458160698012:=Nat
def tw16033373031455981438:=Nat
def tw1239833916977581119:=Nat
def tw17607337685769896033:=Nat
def tw13613867547502654087:=Nat
def tw1739371049385107363:=Nat
def tw1801742013387605217:=Nat
def tw5096678353134029482:=Nat
def tw14263508324926432459:=Nat
def tw5054177017278889755:=Nat
def tw11849846893758253710:=Nat
def tw17696332254809169467:=Nat
def tw11545233988776239571:=Nat
def tw16695531526560336716:=Nat
def tw10258306563034903495:=Nat
def tw14405856453968860924:=Nat
def tw17887364645759606573:=Nat
def tw5863135673626412860:=Nat
def tw10054031724069088508:=Nat
def tw18218320315718433974:=Nat
def tw16066787667405646907:=Nat
def tw8490368948489568253:=Nat
def tw11544347019992189503:=Nat
def tw10258359045100883894:=Nat
def tw6218417963683703554:=Nat
def tw9933275460448521261:=Nat
def tw6211654636663131116:=Nat
def tw7724239720252413698:=Nat
def tw14203144685501772252:=Nat
def tw3700683559335215538:=Nat
def tw4393127825175975214:=Nat
def tw2737436075624639322:=Nat
def tw14167594423059770342:=Nat
def tw7449503573796216909:=Nat
def tw4466437057605143672:=Nat
def tw5548089413172410469:=Nat
def tw4813552732190968294:=Nat
def tw7446498264663753144:=Nat
def tw6991166590920990571:=Nat
def tw5273624201925232701:=Nat
def tw7751231353196132814:=Nat
def tw580889205333545307:=Nat
def tw4939990807394311874:=Nat
def tw6177446371249577045:=Nat
def tw2081807605340131032:=Nat
def tw3742469834792531396:=Nat
def tw3038859591760275668:=Nat
def tw10118395486002243911:=Nat
def tw9314820136835515839:=Nat
def tw2875420362330600740:=Nat
def tw12751896152655561830:=Nat
def tw7391424963710132877:=Nat
def tw1469497111220095841:=Nat
def tw18059226889705198914:=Nat
def tw7267926320935713227:=Nat
def tw12969529638084360546:=Nat
def tw9913930591194756215:=Nat
def tw12970619228446849041:=Nat
def tw895237326833757817:=Nat
def tw8486744591959036810:=Nat
def tw17790490894166848123:=Nat
def tw17942115817165628078:=Nat
def tw16743117359217099611:=Nat
def tw1221049985621301097:=Nat
def tw3906568588254528326:=Nat
def tw9683540778708919766:=Nat
def tw16869637081326686751:=Nat
def tw6373439852554456673:=Nat
def tw7136229912279900492:=Nat
def tw9452644527134311023:=Nat
def tw17988838216366756098:=Nat
def tw7771317312282141562:=Nat
def tw12594282188539706886:=Nat
def tw10496405124923895728:=Nat
def tw51462217748152329:=Nat
def tw12496147595624650333:=Nat
def tw6374864791967034463:=Nat
def tw4686768796242132822:=Nat
def tw18288288518175913890:=Nat
def tw15368886972005404446:=Nat
def tw6943311628719768252:=Nat
def tw393949903452584110:=Nat
def tw13273281862916781230:=Nat
def tw10722883201761312746:=Nat
def tw10599305139747545992:=Nat
def tw10879148502683324537:=Nat
def tw6427068820619062366:=Nat
def tw12238097583374294068:=Nat
def tw4018100069313497639:=Nat
def tw16369807034656963195:=Nat
def tw7760061921826123710:=Nat
def tw18254301494535029489:=Nat
def tw4759995191177265276:=Nat
def tw11961805369143048894:=Nat
def tw3613250034451395213:=Nat
def tw11083407918812642433:=Nat
def tw10925337400928499135:=Nat
def tw15988239792233316233:=Nat
def tw7168151944842299445:=Nat
def tw5176467146236945659:=Nat
def tw11047415929736905973:=Nat
def tw1477351185555083230:=Nat
def tw17038976139897149637:=Nat
def tw16409049251721178309:=Nat
def tw6304188052264819238:=Nat
def tw10306735889687520614:=Nat
def tw7901106239936911392:=Nat
def tw13996051691282094599:=Nat
def tw7320634220072615892:=Nat
def tw17215997089772375286:=Nat
def tw4149073319356617393:=Nat
def tw17243262033942657756:=Nat
def tw15889253973825359648:=Nat
def tw6054839346649776955:=Nat
def tw10930178991648150908:=Nat
def tw5493265296949834245:=Nat
def tw1503182385141724938:=Nat
def tw741480468723436282:=Nat
def tw2444415779705433013:=Nat
def tw17221264844932489967:=Nat
def tw9808818356395780480:=Nat
def tw4558058256705343503:=Nat
def tw9198437267705211602:=Nat
def tw15866988975836302818:=Nat
def tw11926537873153881809:=Nat
def tw18424657718423325370:=Nat
def tw4500605317441258386:=Nat
def tw10068902086910317896:=Nat
def tw8853535942148000944:=Nat
def tw5225069542612056207:=Nat
def tw9399333495835335060:=Nat
def tw7418775188277393911:=Nat
def tw15995418132705633716:=Nat
def tw13369668314334381041:=Nat
def tw3515331170132777215:=Nat
def tw2463027733445980664:=Nat
def tw16918846496483753234:=Nat
def tw12720429354513034634:=Nat
def tw10460802421622656966:=Nat
def tw16698016487417777940:=Nat
def tw13607590690213482272:=Nat
def tw11900976448464549612:=Nat
def tw955690841680299745:=Nat
def tw9355714625060565551:=Nat
def tw9279929507122911779:=Nat
def tw9147997275390468958:=Nat
def tw9048283925559739363:=Nat
def tw859949073088132892:=Nat
def tw741862202937402277:=Nat
def tw6889814170868791678:=Nat
def tw686440502748857991:=Nat
def tw6819136850994978930:=Nat
def tw6800408268934529223:=Nat
end PySem.W.Fast
set_option maxRecDepth 100000 in
set_option maxHeartbeats 0 in
theorem PySem.Challenge.cw_mapwright_k12_maps_one_behind_another_holds : PySem.Challenge.rw_mapwright_k12_maps_one_behind_another.Holds := by
 w_on;o_law;k_head;(case hw=>w_witness2)
 k_fill
 refine Ck.walk (l:=PySem.Challenge.rw_mapwright_k12_maps_one_behind_another) rfl rfl (λw h Y=>PySem.W.kIn_of Y) ?F
 case F =>
  intro w mg fa h KX G hmg;apply K12.all_mk KX G hmg<;>(try refine⟨?_,?_,?_⟩)<;>k_is
