import PyProof.Rows.All
import Wide.All
import OpenK.AllK
import Wide.FinOn
import Lean
import PyProof.EqAt
import PyProof.EqKinds
import PyProof.TupleCall
import PyProof.Rows.ListMul
import PyProof.NeKinds
import PyProof.SetScanFacts
import PyProof.TupleKey
import PyProof.SetKind
import PyProof.IsRules
import PyProof.Rules
import PyProof.Rows.SetFrom
import PyProof.SetRoads
import KE.KDictOf
import PyProof.Rows.MinMaxN
import PyProof.ListRange
import PyProof.TupleOfGen
import PyProof.EnumMake
import PyProof.ZipIter
import PyProof.Rows.ZipGen
import PyProof.CollectWalk
import PyProof.ForAny
import PyProof.Rows.SortWalk
import PyProof.CollectIter
import PySem.Challenge.RW_mapwright_k14_pieces
set_option Elab.async false
set_option linter.all false
set_option tactic.hygienic false
set_option genSizeOf false
set_option genInjectivity false
set_option maxRecDepth 100000
abbrev Zl:=List PySem.Value
abbrev Zp:=List (PySem.Addr×PySem.Obj)
abbrev Zs:=PySem.Str->Option PySem.Value
abbrev Y1:=PySem.Value->PySem.Shared->Prop
abbrev Y2:=Option (PySem.Str×Nat)
abbrev Y3:=List Nat
abbrev Ya:=List PySem.Expr
abbrev Yf:=List PySem.Str
abbrev X0:=List (PySem.Str×PySem.NameKind)
abbrev X9:=List PySem.Addr
abbrev Xs:=List Int
abbrev Xt:=List (PySem.Str×PySem.Addr)
abbrev U1:=Array PySem.Value
def jo:=@Array.getElem?_eq_some_iff
def ou:=@Array.getElem?_toList
def u5:=@Array.length_toList
def aq:=@Bool.and_eq_true
def Ba:=@Bool.eq_iff_iff
def cu:=@Bool.false_eq_true
def iu:=@Bool.false_ne_true
def yu:=@Bool.not_false
def qw:=@Bool.not_true
def zx:=@Int.emod_lt_of_pos
def Bb:=@Int.emod_nonneg
def t8:=@Int.toNat_natCast
def yw:=@List.Perm.refl
def jb:=@List.all_eq_true
def Ax:=@List.any_cons
def j6:=@List.append_assoc
def Ab:=@List.append_nil
def An:=@List.cons_append
def wy:=@List.ext_getElem?
def qx:=@List.find?_cons
def Be:=@List.find?_eq_none
def yj:=@List.findIdx?_eq_none_iff
def uv:=@List.findIdx?_eq_some_iff_getElem
def Ad:=@List.foldl_cons
def fc:=@List.getD_eq_getElem?_getD
def dq:=@List.getElem?_append_left
def jq:=@List.getElem?_append_right
def dh:=@List.getElem?_eq_getElem
def lz:=@List.getElem?_eq_none
def ak:=@List.getElem?_eq_some_iff
def iw:=@List.getElem?_map
def xq:=@List.getElem?_range
def ux:=@List.getElem?_set_ne
def zr:=@List.getElem?_set_self
def yl:=@List.getElem?_zipIdx
def Ao:=@List.getElem_inj
def p8:=@List.getElem_mem
def uc:=@List.getElem_of_mem
def qb:=@List.isEmpty_iff
def ph:=@List.length_append
def gr:=@List.length_cons
def wz:=@List.length_eq_zero_iff
def vq:=@List.length_filter_le
def du:=@List.length_map
def yh:=@List.length_replicate
def zg:=@List.length_take
def o5:=@List.lookup_cons
def kj:=@List.map_append
def yx:=@List.map_congr_left
def gh:=@List.map_cons
def zp:=@List.map_map
def bx:=@List.mem_append
def ig:=@List.mem_append_left
def gm:=@List.mem_append_right
def bz:=@List.mem_cons
def bf:=@List.mem_cons_of_mem
def cz:=@List.mem_cons_self
def Al:=@List.mem_erase_of_ne
def qm:=@List.mem_filter
def mj:=@List.mem_iff_getElem?
def bh:=@List.mem_map
def au:=@List.mem_of_getElem?
def jx:=@List.mem_range
def fu:=@List.mem_singleton
def Bc:=@List.nil_append
def m9:=@List.nodup_append
def qp:=@List.nodup_cons
def Aj:=@List.nodup_iff_pairwise_ne
def v8:=@List.nodup_nil
def yd:=@List.not_mem_nil
def zy:=@List.pairwise_cons
def ud:=@List.pairwise_map
def qy:=@List.range_succ
def gq:=@List.size_toArray
def ye:=@List.take_length
def zu:=@List.take_of_length_le
def yf:=@Nat.le_add_right
def t7:=@Nat.le_of_lt
def bc:=@Nat.le_refl
def vh:=@Nat.le_succ
def gw:=@Nat.le_trans
def lq:=@Nat.lt_irrefl
def ie:=@Nat.lt_of_lt_of_le
def xj:=@Nat.lt_or_ge
def qg:=@Nat.lt_succ_of_lt
def qd:=@Nat.lt_succ_self
def vm:=@Nat.ne_of_gt
def gf:=@Nat.ne_of_lt
def u9:=@Nat.not_lt_zero
def uw:=@Nat.zero_add
def jr:=@Nat.zero_le
def ji:=@Ne.symm
def dw:=@Option.bind_eq_some_iff
def qe:=@Option.bind_some
def pq:=@Option.isSome_iff_exists
def dg:=@Option.map_eq_some_iff
def vd:=@Option.map_some
def ju:=@Option.some.inj
def su:=@PyProof.Rows.F.entry_set_update_loop
def m5:=@PyProof.Rows.F.plain_set_update_loop
def yp:=@PyProof.Rows.callWith_builtin1
def jk:=@PyProof.Rows.callWith_type1
def km:=@PySem.Around.under_plainId
def um:=@PySem.Calls.spliced_cons
def w5:=@PySem.Calls.spliced_nil
def uq:=@PySem.F.called_set
def yz:=@PySem.F.plainAttrs_list
def xr:=@PySem.F.slot_dict_keyiterator_next
def xu:=@PySem.F.slot_enumerate_next
def uy:=@PySem.F.slot_tuple_iterator_next
def yc:=@PySem.F.slot_tuple_mul
def w6:=@PySem.Heap.SameBut.refl
def ir:=@PySem.Heap.SameBut.update
def ao:=@PySem.Heap.get?_push_of_some
def bu:=@PySem.Heap.get?_push_size
def wu:=@PySem.Heap.get?_update_other
def jz:=@PySem.Heap.get?_update_self
def az:=@PySem.Heap.lt_size
def iz:=@PySem.Heap.size_push
def yg:=@PySem.Obj.data_mapDictKeys
def ue:=@PySem.Paired.length
def qz:=@PySem.W.kia_one
def jt:=@PySem.W.mg_none_of
def gn:=@PySem.W.mg_of
def o4:=@PySem.codeAny_builtin
def v7:=@PySem.codeAny_mono
def za:=@PySem.mem_of_lookup
def o8:=@PySem.sizeLine_eq
def v9:=@PySem.tupleKind_room_in1
def je:=@PySem.wpAny_Call_Name_kw
def vf:=@PySem.wpAny_attempt
def aa:=@PySem.wpAny_bind
def j4:=@PySem.wpAny_callSpecial?_slot
def jc:=@PySem.wpAny_call_entry
def j7:=@PySem.wpAny_dictEntries
def ug:=@PySem.wpAny_dictEpoch
def jg:=@PySem.wpAny_field
def qt:=@PySem.wpAny_forIn_list
def ik:=@PySem.wpAny_holding
def m8:=@PySem.wpAny_isInstance
def vy:=@PySem.wpAny_ite_false
def m7:=@PySem.wpAny_mono
def qi:=@PySem.wpAny_newObj_type
def uh:=@PySem.wpAny_passesOwn
def aj:=@PySem.wpAny_pure
def q9:=@PySem.wpAny_seqItems
def my:=@PySem.wpAny_setEntries_of
def jf:=@PySem.wpAny_setField_rec
def jy:=@PySem.wpAny_setState_of
def mq:=@PySem.wpAny_truthy_bool
def xf:=@PySem.wpAny_typeNameOfWhole_keyiter
def ur:=@PySem.wpAny_typeOf
def qu:=@beq_eq_false_iff_ne
def zj:=@beq_self_eq_true
def ym:=@bne_self_eq_false
def nq:=@congrArg
def j8:=@decide_eq_false
def zb:=@decide_eq_true
def di:=@decide_eq_true_eq
def jd:=@if_false
def bw:=@if_neg
def cj:=@if_pos
def j5:=@if_true
def j0:=@of_decide_eq_true
abbrev Fg:=PySem.W.Frag
def a_{a b c:Nat}(h:a<=b)(k:b<=c):a<=c:=gw h k
def b_{a b c:Nat}(h:a<b)(k:b<=c):a<c:=ie h k
def c_{a b c:Nat}(h:a<=b)(k:b<c):a<c:=Nat.lt_of_le_of_lt h k
def d_{a b c:Nat}(h:a<b)(k:b<c):a<c:=Nat.lt_trans h k
def e_{a b:Nat}(h:a<b):a<=b:=t7 h
def f_{a b:Nat}(h:a=b):a<=b:=Nat.le_of_eq h
def g_{a b:Nat}(h:a=b):b<=a:=Nat.le_of_eq h.symm
def h_{a b:Nat}(h:a<b):a≠b:=gf h
def i_{a b:Nat}(h:b<a):a≠b:=vm h
def j_{a b:Nat}(h:b<=a):¬a<b:=Nat.not_lt_of_le h
def l_{p:Prop}{a b:Nat}(h:a<b)(k:b<=a):p:=absurd h (Nat.not_lt_of_le k)
def m_{a b:Nat}(h:a<b):(a:Int)<(b:Int):=Int.ofNat_lt.mpr h
def n_{a b:Nat}(h:a<=b):(a:Int)<=(b:Int):=Int.ofNat_le.mpr h
def o_{a b:Nat}(h:(a:Int)<(b:Int)):a<b:=Int.ofNat_lt.mp h
def q_{a:Nat}:(0:Int)<=(a:Int):=Int.natCast_nonneg a
def r_{a b c:Nat}(h:a+c<=b):a<=b-c:=Nat.le_sub_of_add_le h
def s_{a b:Nat}(h:¬a<b):b<=a:=Nat.le_of_not_lt h
def t_{a b:Nat}(h:¬a<=b):b<a:=Nat.lt_of_not_le h
def u_{a b:Nat}(h:a<=b)(k:b<=a):a=b:=Nat.le_antisymm h k
def v_{a b c:Nat}(h:a<=b):a+c<=b+c:=Nat.add_le_add_right h c
def w_{a b c:Nat}(h:a<=b):c+a<=c+b:=Nat.add_le_add_left h c
def x_{a b:Nat}:a<=a+b:=yf a b
def y_{a b:Nat}:a<=b+a:=Nat.le_add_left a b
def z_{a b:Nat}(h:a<b+1):a<=b:=Nat.le_of_lt_succ h
def A_{a b:Nat}(h:a<=b):a<b+1:=Nat.lt_succ_of_le h
def B_{a:Nat}:a<a+1:=qd a
def C_{a b:Nat}:a-b<=a:=Nat.sub_le a b
def D_{a b:Nat}(h:(a:Int)=(b:Int)):a=b:=Int.ofNat_inj.mp h
def E_{a b:Nat}(h:a=b):(a:Int)=(b:Int):=nq _ h
def G_{a b c:Nat}(h:a<b):a+c<b+c:=Nat.add_lt_add_right h c
def H_{a b c:Nat}(h:a<b):c+a<c+b:=Nat.add_lt_add_left h c
def hG{P:Prop}(h:∀G:Prop,(P->G)->G):P:=h P id
namespace Ur
open PySem SetTable
def Srt(Z:Array Nat):Prop:=∀(i j a b:Nat),Z[i]?=some a->Z[j]?=some b->i<j->a<b
def asl(hs:Srt R):∀(Z U hi:Nat),U<=hi->hi<=R.size->hi-U<=Z ->
 (∀(i a:Nat),R[i]?=some a->i<U->a<j)->(∀(i a:Nat),R[i]?=some a->hi<=i->j<=a) ->
 below.go R j Z U hi<=R.size/\(∀(i a:Nat),R[i]?=some a->i<below.go R j Z U hi->a<j)/\(∀(i a:Nat),R[i]?=some a->below.go R j Z U hi<=i->j<=a):=by
 intro Z
 induction Z with
 |zero =>
  intro U hi h1 h2 h3 h4 h5;unfold below.go;have:U=hi:=by lia
  subst this;exact⟨h2,h4,h5⟩
 |succ Z ih =>
  intro U hi h1 h2 h3 h4 h5;unfold below.go
  by_cases J1:U<hi
  .simp only[cj J1]
   have hm:(U+hi) / 2<R.size:=by lia
   have hg:R[(U+hi) / 2]?=some R[(U+hi) / 2]:=by simp[hm]
   have qk:R.getD ((U+hi) / 2) j=R[(U+hi) / 2]:=by simp[Array.getD,hm]
   rw[qk]
   by_cases hc:R[(U+hi) / 2]<j
   .rw[cj hc]
    refine ih _ _ (by lia) h2 (by omega) (λi a e l=>?_) h5
    by_cases qq:i=(U+hi) / 2
    .subst qq;rw[hg] at e;cases e;exact hc
    .exact Nat.lt_trans (hs _ _ _ _ e hg (by lia)) hc
   .rw[bw hc]
    refine ih _ _ (by lia) (e_ hm) (by omega) h4 (λi a e l=>?_)
    by_cases qq:i=(U+hi) / 2
    .subst qq;rw[hg] at e;cases e;exact s_ hc
    .have:=hs _ _ _ _ hg e (by lia);exact e_ (c_ (s_ hc) this)
  .rw[bw J1]
   have:U=hi:=u_ h1 (s_ J1);subst this;exact⟨h2,h4,h5⟩
def Eo(U:Srt Z):below Z j<=Z.size/\(∀(i a:Nat),Z[i]?=some a->i<below Z j->a<j)/\(∀(i a:Nat),Z[i]?=some a->below Z j<=i->j<=a) :=
 asl U _ _ _ (jr _) (bc _) C_ (λi a _ h=>absurd h (u9 _)) (λi a e h=>by
  have:=(jo.mp e).1;lia)
def below_at(U:Srt Z)(h:Z[i]?=some j):below Z j=i:=by
 obtain⟨h1,h2,h3⟩:=Eo (j:=j) U;rcases Nat.lt_trichotomy (below Z j) i with l|l|l
 .have li:=(jo.mp h).1
  have R:Z[below Z j]?=some Z[below Z j]:=by simp
  have a:=h3 _ _ R (bc _);have b:=U _ _ _ _ R h l
  lia
 .exact l
 .have:=h2 _ _ h l;lia
def Yb(j:Nat):has #[] j=false:=by simp[has]
set_option tactic.hygienic true in
def Rn{t:SetTable}(Z:Srt t.place):t.slot j=.live i↔t.place[i]?=some j:=by
 unfold slot;constructor
 .intro h
  dsimp only at h;split at h
  .rename_i e;cases h;simpa using e
  .split at h<;>cases h
 .intro h
  dsimp only;rw[below_at Z h,h];simp
def aew{t:SetTable}(Z:Srt t.place)(U:t.dummies=#[]):t.slot j=.empty↔∀i:Nat,t.place[i]?≠some j:=by
 constructor
 .intro h i e
  rw[(Rn Z).mpr e] at h;cases h
 .intro h
  unfold slot;dsimp only;rw[U,Yb,bw (by simpa using h _)];rfl
def J2(U:Array α)(p:Nat)(x:α)(hp:p<=U.size)(i:Nat):(insertAt U p x)[i]?=if i<p then U[i]? else if i=p then some x else U[i-1]?:=by
 rw[<- ou,toList_insertAt];have R:(U.toList.take p).length=p:=by simp;lia
 by_cases Z:i<p
 .rw[cj Z,dq (b_ Z (g_ R)),List.getElem?_take,cj Z,ou]
 .rw[bw Z,jq (a_ (f_ R) (s_ Z)),R]
  by_cases h2:i=p
  .subst h2;simp
  .rw[bw h2]
   obtain⟨q,hq⟩:∃q,i=p+q+1:=⟨i-p-1,by lia⟩;subst hq;rw[show p+q+1-p=q+1 by lia,List.getElem?_cons_succ,List.getElem?_drop,show p+q+1-1=p+q by lia,ou]
def Lw(Z:Array α)(p:Nat)(x:α):(insertAt Z p x).size=Z.size+1:=by have:=(insertAt_perm Z p x).length_eq;simpa using this
noncomputable def up(p i:Nat):Nat:=if i<p then i else i+1
def Pk(Z:Array α)(p:Nat)(x:α)(U:p<=Z.size)(i:Nat):(insertAt Z p x)[up p i]?=Z[i]?:=by
 rw[J2 Z p x U];unfold up
 by_cases h:i<p
 .simp[h]
 .rw[bw h,bw (j_ (a_ (s_ h) x_)),bw (i_ (A_ (s_ h)))];rfl
def Jg(Z:Array α)(p:Nat)(x:α)(U:p<=Z.size):(insertAt Z p x)[p]?=some x:=by rw[J2 Z p x U];simp
def Oe(p i:Nat):i=p\/∃k,i=up p k:=by
 unfold up;rcases Nat.lt_trichotomy i p with h|h|h
 .exact .inr ⟨i,by simp[h]⟩
 .exact .inl h
 .exact .inr ⟨i-1,by rw[bw (by omega)];lia⟩
def asm(hs:Srt R)(hn:∀i:Nat,R[i]?≠some j):Srt (insertAt R (below R j) j):=by
 obtain⟨h1,h2,h3⟩:=Eo (j:=j) hs;intro a b x y U Z l;rcases Oe (below R j) a with rfl|⟨a',rfl⟩<;>rcases Oe (below R j) b with hb|⟨b',rfl⟩
 .subst hb;lia
 .rw[Jg _ _ _ h1] at U
  rw[Pk _ _ _ h1] at Z;cases U;have:below R j<=b':=by unfold up at l;split at l<;>omega
  have g:=h3 _ _ Z this;rcases Nat.lt_or_eq_of_le g with g|g
  .exact g
  .subst g;exact absurd Z (hn _)
 .subst hb
  rw[Jg _ _ _ h1] at Z;rw[Pk _ _ _ h1] at U;cases Z;exact h2 _ _ U (by unfold up at l;split at l<;>omega)
 .rw[Pk _ _ _ h1] at U Z
  exact hs _ _ _ _ U Z (by unfold up at l;split at l<;>split at l<;>omega)
noncomputable def adv(m:Nat)(p:Probe):Probe:=({ SetTable.fresh 0 0 true with mask:=m }:SetTable).advance p
def ayy(t:SetTable)(p:Probe):t.advance p=adv t.mask p:=rfl
def Zh(h:p.more > 0):adv m p={ p with j:=p.j+1,more:=p.more-1 }:=cj h
def Vk(h:¬p.more > 0):adv m p={ p with j:=(leap m p.i p.perturb).1,more:=runEnd m (leap m p.i p.perturb).1-(leap m p.i p.perturb).1,i:=(leap m p.i p.perturb).1,perturb:=(leap m p.i p.perturb).2 }:=bw h
noncomputable def beg(m i pt:Nat):Probe:={ j:=i,more:=runEnd m i-i,i:=i,perturb:=pt,dummy:=none }
noncomputable def P(m:Nat)(h:Int):Nat->Probe
 |0=>beg m (bits h%(m+1)) (bits h)|n+1=>adv m (P m h n)
def abn(t:SetTable)(h:Int):t.probeStart h=P t.mask h 0:=rfl
theorem Zi(m:Nat)(h:Int):∀n,(P m h n).dummy=none
 |0=>rfl
 |n+1=>by
  show(adv m (P m h n)).dummy=none
  by_cases q:(P m h n).more > 0
  .rw[Zh q];exact Zi m h n
  .rw[Vk q];exact Zi m h n
noncomputable def I(m:Nat)(h:Int):Nat->Nat
 |0=>bits h%(m+1)|T+1=>(I m h T*5+1+bits h / 32 ^ (T+1))%(m+1)
def asn(m i:Nat):runEnd m i-i<=9:=by unfold runEnd;split<;>lia
theorem abo{m:Nat}{h:Int}{n i pt:Nat}(e:P m h n=beg m i pt):∀c,c<=runEnd m i-i->P m h (n+c)={ j:=i+c,more:=runEnd m i-i-c,i:=i,perturb:=pt,dummy:=none }
 |0,_=>by rw[Nat.add_zero,e];rfl
 |c+1,hc=>by
  have:=abo e c (by lia);show adv m (P m h (n+c))=_;rw[this,Zh (by show 0<runEnd m i-i-c;lia)];simp only
  congr 1
def al1(e:P m h n=beg m i pt):P m h (n+(runEnd m i-i)+1)=beg m ((i*5+1+pt / 32)%(m+1)) (pt / 32):=by show adv m (P m h (n+(runEnd m i-i)))=_;rw[abo e _ (bc _),Vk (by simp)];rfl
theorem al2(m:Nat)(h:Int):∀T,∃n,n<=10*T/\P m h n=beg m (I m h T) (bits h / 32 ^ T)
 |0=>⟨0,jr _,by simp[P,I]⟩
 |T+1=>by
  obtain⟨n,U,Z⟩:=al2 m h T;have:=asn m (I m h T);refine⟨_,?_,(al1 Z).trans ?_⟩
  .lia
  .rw[Nat.div_div_eq_div_mul,<- Nat.pow_succ];rfl
noncomputable def f5(m x:Nat):Nat:=(x*5+1)%(m+1)
noncomputable def it(m:Nat):Nat->Nat->Nat
 |0,x=>x|k+1,x=>f5 m (it m k x)
theorem Vl(m a x:Nat):∀k,it m (a+k) x=it m k (it m a x)
 |0=>rfl|k+1=>by show f5 m (it m (a+k) x)=_;rw[Vl m a x k];rfl
def Cov(m:Nat):Prop:=∀i j,i<=m->j<=m->∃k,k<=m/\it m k i=j
def ayz(h0:it m (m+1) 0=0)(h:∀j,j<=m->∃k,k<=m/\it m k 0=j):Cov m:=λi j hi hj=>by
 obtain⟨a,la,Z⟩:=h i hi;obtain⟨b,R,U⟩:=h j hj
 by_cases qq:a<=b
 .refine⟨b-a,a_ C_ R,?_⟩
  rw[<- Z,<- Vl,show a+(b-a)=b by lia,U]
 .refine⟨m+1+b-a,by omega,?_⟩
  rw[<- Z,<- Vl,show a+(m+1+b-a)=(m+1)+b by lia,Vl,h0,U]
noncomputable def orb(m:Nat):Nat->Nat->List Nat
 |0,_=>[]|k+1,x=>x::orb m k (f5 m x)
theorem agt{m:Nat}:∀{k x j:Nat},j∈orb m k x->∃q,q<k/\it m q x=j
 |0,_,_,h=>by simp[orb] at h
 |k+1,x,j,h=>by
  simp only[orb,bz] at h;rcases h with rfl|h
  .exact⟨0,A_ (jr _),rfl⟩
  .obtain⟨q,l,e⟩:=agt h
   refine⟨1+q,by lia,?_⟩;rw[Vl];exact e
def Qk(U:it m (m+1) 0=0)(h:((List.range (m+1)).all λj=>(orb m (m+1) 0).contains j)=true):Cov m :=
 ayz U λj Z=>by have:=jb.mp h j (by simp;exact A_ Z);obtain⟨q,l,e⟩:=agt (by simpa using this);exact⟨q,z_ l,e⟩
def Msk(m:Nat):Prop:=m=7\/m=15\/m=31\/m=63\/m=127
def bc3:Cov 7:=Qk (by decide+kernel) (by decide+kernel)
def a5x:Cov 15:=Qk (by decide+kernel) (by decide+kernel)
def a5y:Cov 31:=Qk (by decide+kernel) (by decide+kernel)
def a5z:Cov 63:=Qk (by decide+kernel) (by decide+kernel)
def ay0:Cov 127:=Qk (by decide+kernel) (by decide+kernel)
def Msk.cov(h:Msk m):Cov m:=by
 rcases h with rfl|rfl|rfl|rfl|rfl
 .exact bc3
 .exact a5x
 .exact a5y
 .exact a5z
 .exact ay0
def aso(h:Int):bits h<2 ^ 64:=by
 unfold bits;have U:=Bb h (b:=2 ^ 64) (by decide);have Z:=zx h (b:=2 ^ 64) (by decide)
 lia
theorem a6a(m:Nat)(h:Int):∀T,I m h T<=m
 |0=>Nat.le_of_lt_succ (Nat.mod_lt (bits h) (Nat.succ_pos m))|T+1=>Nat.le_of_lt_succ (Nat.mod_lt (I m h T*5+1+bits h / 32 ^ (T+1)) (Nat.succ_pos m))
theorem al3(m:Nat)(h:Int):∀k,I m h (13+k)=it m k (I m h 13)
 |0=>rfl
 |k+1=>by
  show(I m h (13+k)*5+1+bits h / 32 ^ (13+k+1))%(m+1)=f5 m (it m k (I m h 13));have:bits h / 32 ^ (13+k+1)=0:=by
   apply Nat.div_eq_of_lt;refine ie (aso h) ?_
   calc 2 ^ 64<=32 ^ 13:=by decide
    _<=32 ^ (13+k+1):=Nat.pow_le_pow_right (by decide) (a_ x_ x_)
  rw[this,al3 m h k];rfl
def cover(Z:Msk m)(h:Int)(j:Nat)(U:j<=m):∃T,T<=13+m/\I m h T=j:=by obtain⟨k,lk,e⟩:=Z.cov (I m h 13) j (a6a m h 13) U;exact⟨13+k,w_ lk,(al3 m h k).trans e⟩
def asp(R:Msk m)(h:Int)(j:Nat)(Z:j<=m):∃n,n<10*turns m/\(P m h n).j=j:=by obtain⟨T,lT,e⟩:=cover R h j Z;obtain⟨n,ln,U⟩:=al2 m h T;exact⟨n,by unfold turns;lia,by rw[U];exact e⟩
def mod_le(a m:Nat):a%(m+1)<=m:=Nat.le_of_lt_succ (Nat.mod_lt a (Nat.succ_pos m))
def Ro(h:i<=m):i<=runEnd m i/\runEnd m i<=m:=by unfold runEnd;split<;>omega
theorem a6b(m:Nat)(h:Int):∀n,(P m h n).j+(P m h n).more<=m
 |0=>by
  have:=Ro (mod_le (bits h) m);show bits h%(m+1)+(runEnd m (bits h%(m+1))-bits h%(m+1))<=m
  omega
 |n+1=>by
  have Z:=a6b m h n;show(adv m (P m h n)).j+(adv m (P m h n)).more<=m
  by_cases q:(P m h n).more > 0
  .rw[Zh q];simp only;lia
  .rw[Vk q]
   have:=Ro (mod_le ((P m h n).i*5+1+(P m h n).perturb / 32) m);show(leap m (P m h n).i (P m h n).perturb).1+(runEnd m (leap m (P m h n).i (P m h n).perturb).1-(leap m (P m h n).i (P m h n).perturb).1)<=m
   have e:(leap m (P m h n).i (P m h n).perturb).1=((P m h n).i*5+1+(P m h n).perturb / 32)%(m+1):=rfl;rw[e];omega
def bc4(m:Nat)(h:Int)(n:Nat):(P m h n).j<=m:=by have:=a6b m h n;lia
def Occ(t:SetTable)(j:Nat):Prop:=∃i:Nat,t.place[i]?=some j
structure Yc(t:SetTable)(es:Array (Int×Value)):Prop where
 msk:Msk t.mask
 dum:t.dummies=#[]
 Yd:t.place.size=es.size
 srt:Srt t.place
 bnd:∀(i j:Nat),t.place[i]?=some j->j<=t.mask
 ful:t.place.size<=t.mask
 rch:∀(i j:Nat) e,t.place[i]?=some j->es[i]?=some e->∃n,(P t.mask e.1 n).j=j/\∀m,m<n->Occ t (P t.mask e.1 m).j
theorem Yc.fits(k:Yc t Z):t.fits Z.size=true:=by unfold SetTable.fits fill;rw[k.dum];simp[k.Yd];have:=k.ful;have:=k.Yd;lia
def Msk.odd(h:Msk m):m%2=1:=by rcases h with rfl|rfl|rfl|rfl|rfl<;>rfl
def Yc.way(k:Yc t Z):t.gaveWay=false:=by unfold gaveWay;rw[k.msk.odd];rfl
def al4(hs:Srt U)(h:U.size<=m):∃j,j<=m/\∀i:Nat,U[i]?≠some j:=by
 apply Classical.byContradiction;intro hn;have all:∀j,j<=m->∃i:Nat,U[i]?=some j:=λj R=>by apply Classical.byContradiction;intro hc;exact hn ⟨j,R,λi e=>hc ⟨i,e⟩⟩
 have:∀j,j<=m->∀i:Nat,U[i]?=some j->j<=i:=by
  intro j
  induction j with
  |zero=>intro _ i _;exact jr _
  |succ j ih =>
   intro R i e;obtain⟨i',Z⟩:=all j (by lia);have:=ih (by lia) i' Z;rcases Nat.lt_trichotomy i i' with l|l|l
   .have:=hs _ _ _ _ e Z l;lia
   .subst l;rw[e] at Z;injection Z with Z;exact a_ (f_ Z) this
   .exact a_ (v_ this) l
 obtain⟨i,e⟩:=all m (bc _);have h1:=this m (bc _) i e;have h2:=(jo.mp e).1;exact l_ h2 (a_ h h1)
structure Fst(t:SetTable)(h:Int)(N:Nat):Prop where
 lt:N<10*turns t.mask
 emp:¬Occ t (P t.mask h N).j
 occ:∀m,m<N->Occ t (P t.mask h m).j
def least{p:Nat->Prop}:∀{n:Nat},p n->∃k,k<=n/\p k/\∀m,m<k->¬p m:=by
 intro n
 induction n using Nat.strongRecOn with
 |ind n ih =>
  intro h
  by_cases U:∃m,m<n/\p m
  .obtain⟨m,l,Z⟩:=U
   obtain⟨k,R,a,b⟩:=ih m l Z;exact⟨k,e_ (c_ R l),a,b⟩
  .exact⟨n,bc _,h,λm l Z=>U ⟨m,l,Z⟩⟩
def Yc.fst(k:Yc t es)(h:Int):∃N,Fst t h N:=by obtain⟨j,Z,e⟩:=al4 k.srt k.ful;obtain⟨n,U,en⟩:=asp k.msk h j Z;obtain⟨N,l,a,b⟩:=least (p:=λn=>¬Occ t (P t.mask h n).j) (n:=n) (λ⟨i,c⟩=>e i (by rw[en] at c;exact c));exact⟨N,c_ l U,a,λm R=>Classical.not_not.mp (b m R)⟩
theorem al5(k:Yc t es)(F:Fst t h N)(U:Nat->Int):∀(Z n:Nat),n<=N->N-n<Z ->
 (probe.go t U h Z (P t.mask h n)=some (.empty (P t.mask h N).j none)/\∀m,n<=m->m<N->∀i:Nat,t.place[i]?=some (P t.mask h m).j->U i≠h)
\/∃m i:Nat,n<=m/\m<N/\t.place[i]?=some (P t.mask h m).j/\U i=h/\(∀q,n<=q->q<m->∀i:Nat,t.place[i]?=some (P t.mask h q).j->U i≠h)
 /\probe.go t U h Z (P t.mask h n)=some (.candidate (P t.mask h m).j i (P t.mask h (m+1))):=by
 intro Z
 induction Z with
 |zero=>intro n _ l;omega
 |succ Z ih =>
  intro n hn l;unfold probe.go
  by_cases e:n=N
  .subst e
   left
   rw[(aew k.srt k.dum).mpr (λi c=>F.emp ⟨i,c⟩)];simp only;rw[Zi];exact⟨rfl,λm a b=>by lia⟩
  .obtain⟨i,hi⟩:=F.occ n (by lia)
   rw[(Rn k.srt).mpr hi];simp only[ayy];have qq:adv t.mask (P t.mask h n)=P t.mask h (n+1):=rfl;rw[qq]
   by_cases hh:U i=h
   .right
    refine⟨n,i,bc _,by lia,hi,hh,λq a b=>by lia,?_⟩;rw[cj (by simp[hh])]
   .rw[bw (by simp[hh])]
    have un:∀R:Nat,t.place[R]?=some (P t.mask h n).j->U R≠h:=λR e'=>by have a:=below_at k.srt e';have b:=below_at k.srt hi;rw[<- a,b];exact hh
    rcases ih (n+1) (by lia) (by lia) with⟨a,b⟩|⟨m,R,a,b,c,d,e1,e2⟩
    .left
     refine⟨a,λm x y=>?_⟩
     by_cases q:m=n
     .subst q;exact un
     .exact b m (by lia) y
    .right
     refine⟨m,R,by lia,b,c,d,λq x y=>?_,e2⟩
     by_cases z:q=n
     .subst z;exact un
     .exact e1 q (by lia) y
def Yc.ahead(k:Yc t es)(F:Fst t h N){i:Nat}(U:es[i]?=some e)(hh:e.1=h):∃m,m<N/\t.place[i]?=some (P t.mask h m).j:=by
 have R:i<t.place.size:=by rw[k.Yd];exact(jo.mp U).1
 have Z:t.place[i]?=some t.place[i]:=by simp[R]
 obtain⟨n,a,b⟩:=k.rch i _ e Z U;subst hh;refine⟨n,?_,by rw[a];exact Z⟩;rcases Nat.lt_trichotomy n N with l|l|l
 .exact l
 .subst l;exact absurd ⟨i,by rw[a];exact Z⟩ F.emp
 .exact absurd (b N l) F.emp
def Zj(U:Srt t.place)(q:Nat):Occ (t.put j).1 q↔q=j\/Occ t q:=by
 obtain⟨Z,h2,R⟩:=Eo (j:=j) U;constructor
 .rintro⟨i,e⟩
  have e:(insertAt t.place (below t.place j) j)[i]?=some q:=e;rcases Oe (below t.place j) i with rfl|⟨i',rfl⟩
  .rw[Jg _ _ _ Z] at e;cases e;exact .inl rfl
  .rw[Pk _ _ _ Z] at e;exact .inr ⟨i',e⟩
 .rintro(rfl|⟨i,e⟩)
  .exact⟨_,Jg _ _ _ Z⟩
  .exact⟨up (below t.place j) i,(Pk _ _ _ Z i).trans e⟩
theorem Yc.put(k:Yc t es)(F:Fst t h N)(room:t.place.size+1<=t.mask) :
 Yc (t.put (P t.mask h N).j).1 (insertAt es (t.put (P t.mask h N).j).2 (h,x)):=by
 obtain⟨h1,h2,h3⟩:=Eo (j:=(P t.mask h N).j) k.srt;have R:below t.place (P t.mask h N).j<=es.size:=by rw[<- k.Yd];exact h1
 refine⟨k.msk,?_,?_,?_,?_,?_,?_⟩
 .show(if has t.dummies _ then _ else t.dummies)=#[]
  rw[k.dum,Yb];rfl
 .show(insertAt t.place _ _).size=(insertAt es _ _).size
  rw[Lw,Lw,k.Yd]
 .exact asm k.srt (λi e=>F.emp ⟨i,e⟩)
 .intro i j e
  rcases(Zj k.srt j).mp ⟨i,e⟩ with rfl|⟨i',e'⟩
  .exact bc4 _ _ _
  .exact k.bnd i' j e'
 .show(insertAt t.place _ _).size<=t.mask
  rw[Lw];exact room
 .intro i j e Z U
  have Z:(insertAt t.place (below t.place (P t.mask h N).j) (P t.mask h N).j)[i]?=some j:=Z;have U:(insertAt es (below t.place (P t.mask h N).j) (h,x))[i]?=some e:=U;show ∃n,(P t.mask e.1 n).j=j/\∀m,m<n->Occ (t.put (P t.mask h N).j).1 (P t.mask e.1 m).j
  rcases Oe (below t.place (P t.mask h N).j) i with rfl|⟨i',rfl⟩
  .rw[Jg _ _ _ h1] at Z
   rw[Jg _ _ _ R] at U;cases Z;cases U;exact⟨N,rfl,λm l=>(Zj k.srt _).mpr (.inr (F.occ m l))⟩
  .rw[Pk _ _ _ h1] at Z
   rw[Pk _ _ _ R] at U;obtain⟨n,a,b⟩:=k.rch i' j e Z U;exact⟨n,a,λm l=>(Zj k.srt _).mpr (.inr (b m l))⟩
abbrev OcO(ow:Array (Option Nat))(j:Nat):Prop:=∃i,ow[j]?=some (some i)
structure Own(m:Nat)(ow:Array (Option Nat))(hs:Xs):Prop where
 Yd:ow.size=m+1
 cnt:ow.toList.countP Option.isSome=hs.length
 lt:∀(j i:Nat),ow[j]?=some (some i)->i<hs.length
 inj:∀(j j' i:Nat),ow[j]?=some (some i)->ow[j']?=some (some i)->j=j'
 at':∀(i:Nat) h,hs[i]?=some h->∃j n,ow[j]?=some (some i)/\(P m h n).j=j/\∀q,q<n->OcO ow (P m h q).j
def getD_none{Z:Array (Option Nat)}(U:Z.size=m+1)(h:(Z.getD j (some 0)).isNone=true):Z[j]?=some none:=by
 by_cases l:j<Z.size
 .simp[Array.getD,l] at h;simp[l,h]
 .simp[Array.getD,l] at h
def getD_some(U:ow.size=m+1)(Z:j<=m)(h:¬(ow.getD j (some 0)).isNone=true):OcO ow j:=by
 have l:j<ow.size:=by lia
 simp[Array.getD,l] at h;unfold OcO;rw[show ow[j]?=some ow[j] by simp[l]];cases e:ow[j] with
 |none=>exact absurd e h|some i=>exact⟨i,rfl⟩
def ai9(hz:ow.size=m+1)(h:Int):∀(Z T n:Nat),P m h n=beg m (I m h T) (bits h / 32 ^ T)->(∀q,q<n->OcO ow (P m h q).j) ->
 (∃k,k<Z/\ow[I m h (T+k)]?=some none)->∃j R,layClean.free m ow Z (I m h T) (bits h / 32 ^ T)=some j/\(P m h R).j=j/\ow[j]?=some none/\∀q,q<R->OcO ow (P m h q).j:=by
 intro Z
 induction Z with
 |zero=>rintro T n _ _ ⟨k,l,_⟩;lia
 |succ Z ih =>
  rintro T n e hq ⟨k,lk,ek⟩;have hI:=a6a m h T;obtain⟨r1,r2⟩:=Ro hI;unfold layClean.free;cases hf:(List.range (runEnd m (I m h T)+1-I m h T)).find? λk=>(ow.getD (I m h T+k) (some 0)).isNone with
  |some c =>
   obtain⟨a,b,d⟩:=List.find?_range_eq_some.mp hf;have b:=jx.mp b;refine⟨_,n+c,rfl,by rw[abo e c (by omega)],getD_none hz a,λq l=>?_⟩
   by_cases hn:q<n
   .exact hq q hn
   .obtain⟨c',rfl⟩:∃c',q=n+c':=⟨q-n,by lia⟩
    rw[abo e c' (by lia)];show OcO ow (I m h T+c');exact getD_some hz (by lia) (λhh=>by
     have:=d c' (by lia);simp only[hh] at this;cases this)
  |none =>
   have Gb:=Be.mp hf;have U:∀c,c<=runEnd m (I m h T)-I m h T->OcO ow (I m h T+c):=λc hc=>getD_some hz (by lia) (Gb c (jx.mpr (by lia)))
   cases k with
   |zero =>
    obtain⟨i,ei⟩:=U 0 (jr _);rw[Nat.add_zero] at ek ei;rw[ek] at ei;cases ei
   |succ k =>
    have pe:bits h / 32 ^ T / 32=bits h / 32 ^ (T+1):=by rw[Nat.div_div_eq_div_mul,<- Nat.pow_succ]
    have:=ih (T+1) (n+(runEnd m (I m h T)-I m h T)+1) (by rw[al1 e,pe];rfl) (λq l=>?_) ⟨k,by lia,by rw[show T+1+k=T+(k+1) by lia];exact ek⟩
    .obtain⟨j,R,e1,e2⟩:=this
     refine⟨j,R,?_,e2⟩;rw[<- e1];show layClean.free m ow Z ((I m h T*5+1+bits h / 32 ^ T / 32)%(m+1)) (bits h / 32 ^ T / 32)=_;rw[pe];rfl
    .by_cases hn:q<n
     .exact hq q hn
     .obtain⟨c',rfl⟩:∃c',q=n+c':=⟨q-n,by lia⟩
      rw[abo e c' (by lia)];show OcO ow (I m h T+c');exact U c' (by lia)
def Own.room(k:Own m ow hs)(h:hs.length<=m):∃j,j<=m/\ow[j]?=some none:=by
 apply Classical.byContradiction;intro hn;have:ow.toList.countP Option.isSome=ow.toList.length:=List.countP_eq_length.mpr λa R=>by
  obtain⟨j,U,e⟩:=uc R;cases a with
  |some i=>rfl
  |none =>
   have Z:j<ow.size:=by simpa using U
   refine absurd ⟨j,by have:=k.Yd;exact z_ (b_ Z (f_ this)),?_⟩ hn;rw[<- ou,dh U,e]
 rw[k.cnt] at this;have:=k.Yd;simp at *
 lia
theorem Own.free(hm:Msk m)(k:Own m ow hs)(U:hs.length<=m)(h:Int):∃j Z,layClean.free m ow (turns m) (bits h%(m+1)) (bits h)=some j/\(P m h Z).j=j/\ow[j]?=some none/\∀q,q<Z->OcO ow (P m h q).j:=by obtain⟨j,hj,e⟩:=k.room U;obtain⟨T,lT,R⟩:=cover hm h j hj;have:=ai9 k.Yd h (turns m) 0 0 (by simp[P,I]) (λq l=>by lia) ⟨T,by unfold turns;lia,by rw[uw,R];exact e⟩;simpa[I] using this
def Own.lay(k:Own m ow Z)(e1:(P m h n').j=j)(e2:ow[j]?=some none)(e3:∀q,q<n'->OcO ow (P m h q).j) :
 Own m (ow.setIfInBounds j (some Z.length)) (Z++[h]):=by
 have lj:j<ow.size:=(jo.mp e2).1
 have get:∀q:Nat,(ow.setIfInBounds j (some Z.length))[q]?=if j=q then some (some Z.length) else ow[q]?:=λq=>by rw[Array.getElem?_setIfInBounds];split<;>simp_all
 have R:∀q,OcO ow q->OcO (ow.setIfInBounds j (some Z.length)) q:=λq ⟨i,e⟩=>by refine⟨i,?_⟩;rw[get,bw (λh=>by subst h;rw[e2] at e;cases e)];exact e
 refine⟨by simp[k.Yd],?_,λq i e=>?_,λq q' i e U=>?_,λi h' e=>?_⟩
 .rw[Array.toList_setIfInBounds,List.countP_set (by simpa using lj),k.cnt]
  have:ow.toList[j]'(by simpa using lj)=none:=by have:=(jo.mp e2).2;simpa using this
  rw[this];simp
 .rw[get] at e
  split at e
  .cases e;simp
  .have:=k.lt q i e;simp;exact A_ (e_ this)
 .rw[get] at e U
  split at e<;>split at U
  .lia
  .cases e;have:=k.lt _ _ U;lia
  .cases U;have:=k.lt _ _ e;lia
  .exact k.inj q q' i e U
 .by_cases l:i<Z.length
  .rw[dq l] at e
   obtain⟨j',n,a,b,c⟩:=k.at' i h' e;refine⟨j',n,?_,b,λq l=>R _ (c q l)⟩;rw[get,bw (λh=>by subst h;rw[e2] at a;cases a)];exact a
  .have hi:i=Z.length:=by
    have:=(ak.mp e).1;simp at this;exact u_ (z_ this) (s_ l)
   subst hi;simp at e;subst e;exact⟨j,n',by rw[get,cj rfl],e1,λq l=>R _ (e3 q l)⟩
theorem agu{m:Nat}(hm:Msk m):∀(Z U:Xs)(ow:Array (Option Nat)),Own m ow U->U.length+Z.length<=m+1 ->
 ∃R,Z.foldl (λqq h=>do
  let (owner,k) <- qq
  let j <- layClean.free m owner (turns m) (bits h%(m+1)) (bits h)
  pure (owner.setIfInBounds j (some k),k+1)) (some (ow,U.length))=some (R,U.length+Z.length)/\Own m R (U++Z)
 |[],U,ow,k,_=>⟨ow,rfl,by simpa using k⟩
 |h::Z,U,ow,k,l=>by
  obtain⟨j,n',e0,e1,e2,e3⟩:=k.free hm (by simp at l;lia) h;have k':=k.lay e1 e2 e3;obtain⟨R,a,b⟩:=agu hm Z (U++[h]) _ k' (by simp at l ⊢;lia);refine⟨R,?_,by simpa using b⟩;rw[Ad];have:(do
   let (owner,k) <- some (ow,U.length)
   let j <- layClean.free m owner (turns m) (bits h%(m+1)) (bits h)
   pure (owner.setIfInBounds j (some k),k+1))=some (ow.setIfInBounds j (some U.length),(U++[h]).length):=by
   show(layClean.free m ow (turns m) (bits h%(m+1)) (bits h) >>= _)=_;rw[e0];simp
  rw[this,a]
  simp;lia
def al6(hm:Msk m)(U:Array Int)(l:U.size<=m+1):∃Z,layClean m U=some Z/\Own m Z U.toList:=by have R:Own m (Array.replicate (m+1) none) []:=⟨by simp,by simp,λj i e=>by simp[Array.getElem?_replicate] at e,λj j' i e=>by simp[Array.getElem?_replicate] at e,λi h e=>by simp at e⟩;obtain⟨Z,a,b⟩:=agu hm U.toList [] _ R (by simpa using l);refine⟨Z,?_,by simpa using b⟩;unfold layClean;rw[<- Array.foldl_toList];exact(nq (Option.map (·.1)) a).trans rfl
noncomputable def lv(m:Nat)(Z:Array (Option Nat)):List (Nat×Nat):=(List.range (m+1)).filterMap λj=>(Z.getD j none).map (j,·)
def Pn(k:Own m ow hs):(j,i)∈lv m ow↔ow[j]?=some (some i):=by
 unfold lv;rw[List.mem_filterMap];constructor
 .rintro⟨q,a,b⟩
  obtain⟨R,Z,U⟩:=dg.mp b;cases U;have:j<ow.size:=by rw[k.Yd];exact jx.mp a
  simp[Array.getD,this] at Z;simp[this,Z]
 .intro e
  have l:=(jo.mp e).1;refine⟨j,jx.mpr (by rw[<- k.Yd];exact l),?_⟩;have:ow.getD j none=some i:=by simp[Array.getD,l,(jo.mp e).2]
  rw[this];rfl
def al7(m:Nat)(R:Array (Option Nat)):(lv m R).Pairwise λa b=>a.1<b.1:=by unfold lv;refine List.Pairwise.filterMap _ (λa a' J1 b U b' Z=>?_) List.pairwise_lt_range;obtain⟨_,_,rfl⟩:=dg.mp U;obtain⟨_,_,rfl⟩:=dg.mp Z;exact J1
def asq(k:Own m ow U):((lv m ow).map (·.2)).Perm (List.range U.length):=by
 refine(List.perm_ext_iff_of_nodup ?_ List.nodup_range).mpr λi=>?_
 .rw[Aj,ud]
  refine(al7 m ow).imp_of_mem fun{a b} Z hb J1 e=>?_
  have:=k.inj a.1 b.1 a.2 ((Pn k).mp Z) (by rw[e];exact(Pn k).mp hb);exact l_ J1 (g_ this)
 .rw[bh,jx]
  constructor
  .rintro⟨a,Z,rfl⟩;exact k.lt _ _ ((Pn k).mp Z)
  .intro l
   obtain⟨j,n,a,_⟩:=k.at' i _ (dh l);exact⟨(j,i),(Pn k).mpr a,rfl⟩
theorem al8{U R:Type}{g:U->Option R}:∀{l:List U},(∀x∈l,(g x).isSome=true)->∀q:Nat,(l.filterMap g)[q]?=l[q]?.bind g
 |[],_,q=>by simp
 |x::l,h,q=>by
  have Z:=h x (cz ..);obtain⟨y,e⟩:=pq.mp Z;rw[List.filterMap_cons_some e];cases q with
  |zero=>simp[e]|succ q=>simpa using al8 (λx Z=>h x (bf _ Z)) q
def agv(hm:Msk m)(fg mv:Nat)(ld pl:Bool)(U:Array (Int×Value))(l:U.size<=m) :
 ∃t Z,laid m fg mv ld pl (U.map (·.1))=some (t,Z)/\t.mask=m/\Yc t (Z.filterMap (U[·]?))/\(Z.filterMap (U[·]?)).toList.Perm U.toList/\(Z.filterMap (U[·]?)).size=U.size
 /\t.led=ld/\t.plain=pl/\t.finger=fg/\Z.toList.Perm (List.range U.size):=by
 obtain⟨R,e,k⟩:=al6 hm (U.map (·.1)) (by simp;exact a_ l x_);have Ye:=asq k;simp at Ye;have qk:(lv m R).length=U.size:=by have:=Ye.length_eq;simpa using this
 have qv:((((lv m R).map (·.2)).toArray).filterMap (U[·]?)).size=U.size:=by have:=(Ye.filterMap (U[·]?)).length_eq;rw[filterMap_getElem?_range] at this;rw[<- u5,Array.toList_filterMap,this];simp
 refine⟨{ mask:=m,place:=((lv m R).map (·.1)).toArray,dummies:=#[],finger:=fg,led:=ld,moves:=mv,plain:=pl },((lv m R).map (·.2)).toArray,?_,rfl,?_,?_,?_,rfl,rfl,rfl,Ye⟩
 .unfold laid;rw[e];rfl
 .have q1:∀x∈(lv m R).map (·.2),(U[x]?).isSome=true:=λx hx=>by
   have:=jx.mp (Ye.mem_iff.mp hx)
   simp;exact this
  have get:∀q:Nat,((((lv m R).map (·.2)).toArray).filterMap (U[·]?))[q]?=((lv m R)[q]?).bind λa=>U[a.2]?:=λq=>by rw[<- ou,Array.toList_filterMap,al8 q1,iw];cases(lv m R)[q]?<;>rfl
  have qq:∀q j:Nat,(((lv m R).map (·.1)).toArray)[q]?=some j↔∃i,(lv m R)[q]?=some (j,i):=λq j=>by
   simp only[List.getElem?_toArray,iw,dg];constructor
   .rintro⟨a,h,rfl⟩;exact⟨a.2,h⟩
   .rintro⟨i,h⟩;exact⟨_,h,rfl⟩
  refine⟨hm,rfl,?_,?_,?_,?_,?_⟩
  .show(((lv m R).map (·.1)).toArray).size=_
   rw[qv];simp[qk]
  .intro i j a b ea eb lt
   obtain⟨i1,e1⟩:=(qq i a).mp ea;obtain⟨i2,e2⟩:=(qq j b).mp eb;obtain⟨l1,g1⟩:=ak.mp e1;obtain⟨l2,g2⟩:=ak.mp e2;have:=List.pairwise_iff_getElem.mp (al7 m R) i j l1 l2 lt;rw[g1,g2] at this;exact this
  .intro i j e
   obtain⟨i1,e1⟩:=(qq i j).mp e;have:=(Pn k).mp (au e1);have:=(jo.mp this).1;rw[k.Yd] at this;show j<=m
   exact z_ this
  .show(((lv m R).map (·.1)).toArray).size<=m
   simp[qk];exact l
  .intro q j e' hp he
   obtain⟨i,e1⟩:=(qq q j).mp hp;rw[get,e1] at he;have he:U[i]?=some e':=he;obtain⟨j',n,a,b,c⟩:=k.at' i e'.1 (by simp[he]);have hj:=k.inj j j' i ((Pn k).mp (au e1)) a;subst hj;refine⟨n,b,λw lw=>?_⟩;obtain⟨i',q0⟩:=c w lw;obtain⟨z,hz⟩:=mj.mp ((Pn k).mpr q0);exact⟨z,(qq z _).mpr ⟨i',hz⟩⟩
 .rw[Array.toList_filterMap]
  have:=Ye.filterMap (U[·]?);rw[filterMap_getElem?_range] at this;exact this
 .exact qv
def Yg:∀n,n<32->Msk (sizeAbove (grown n)-1)/\n<=sizeAbove (grown n)-1/\n+1<=sizeAbove (grown n)-1/\¬(n*5 >= (sizeAbove (grown n)-1)*3)/\sizeAbove (grown n)<=128:=by unfold Msk;decide+kernel
def al9:∀n,n<64->Msk (sizeAbove (n*2)-1)/\n<=sizeAbove (n*2)-1/\¬(n*5 >= (sizeAbove (n*2)-1)*3)/\sizeAbove (n*2)<=128:=by unfold Msk;decide+kernel
section
variable{prog:Program}{w:World}{K:Type}[DecidableEq K]{knd:KeyKind prog w K}{A:Around}{E:Y1}{s:Shared}
def aex(n:Nat)(h:carriedByValue v=true):ofAClassStatement n v=pure false:=by cases v<;>first|(simp[carriedByValue] at h;done)|(unfold ofAClassStatement;rfl)
def Vm(hk:IsTupleKey knd s.heap ks a)(h:Q false s):wpAny (model prog w) A (ofAClassStatement 8 (.ref a)) Q E s:=by
 have hT:=hk.typeIs;obtain⟨o,U,n,ho,_,hd,hi⟩:=hk;unfold ofAClassStatement;refine aa (ur hT ?_);show wpAny _ _ (if("tuple"=="tuple")=true then _ else _) _ _ s;rw[cj (by decide)];refine aa (aj ?_);simp only[qw,cu,jd];refine aa (q9 ho hd ?_);refine aa ?_;show wpAny _ _ (forIn U _ _) _ _ s;rw[<- Array.forIn_toList];refine qt _ (λZ r R=>r.1=none/\R=s/\∀v∈Z,carriedByValue v=true) _ ?_ ?_ _ _ ⟨rfl,rfl,hi.byValue⟩
 .rintro v Z r R ⟨hr,rfl,Gb⟩
  rw[aex _ (Gb v cz)];refine aa (aj ?_);simp only[cu,jd];exact aj ⟨rfl,rfl,λu qq=>Gb u (bf _ qq)⟩
 .rintro⟨r1,r2⟩ R ⟨hr,rfl,_⟩
  simp only at hr;subst hr;exact aj h
def ama(hk:IsTupleKey knd s.heap U a)(hs:∀v∈st,∃U b,v=.ref b/\IsTupleKey knd s.heap U b)(h:Q false s) :
 wpAny (model prog w) A (searchCouldBeSeen (.ref a) st) Q E s:=by
 unfold searchCouldBeSeen;refine aa ?_;refine qt _ (λZ r s'=>r.1=none/\s'=s/\∀v∈Z,∃U b,v=.ref b/\IsTupleKey knd s.heap U b) _ ?_ ?_ _ _ ⟨rfl,rfl,hs⟩
 .rintro v Z r s' ⟨hr,rfl,Gb⟩
  obtain⟨qq,b,rfl,hb⟩:=Gb v cz;have R:∀v∈Z,∃U b,v=.ref b/\IsTupleKey knd s'.heap U b:=λv hv=>Gb v (bf _ hv)
  dsimp only;split
  .exact aj ⟨rfl,rfl,R⟩
  .refine aa (wpAny_eqIsQuiet_tuple hk ?_)
   simp only[qw,cu,jd];refine aa (wpAny_eqIsQuiet_tuple hb ?_);simp only[qw,cu,jd];refine aa (Vm hk ?_);simp only[cu,jd];refine aa (Vm hb ?_);simp only[cu,jd];exact aj ⟨rfl,rfl,R⟩
 .rintro⟨r1,r2⟩ s' ⟨hr,rfl,_⟩
  simp only at hr;subst hr;exact aj h
noncomputable def ent(knd:KeyKind prog w K)(x:List K×Addr):Int×Value:=(tupleKeyHash knd x.1,.ref x.2)
def aey{Z:Array (Int×Value)}{U:List (List K×Addr)}(R:Z.toList=U.map (ent knd))(j:Nat):Z[j]?=(U[j]?).map (ent knd):=by rw[<- ou,R,iw]
def aja{xs:List (List K×Addr)}(hu:A.units<cLine)(hk:IsTupleKey knd s.heap k p)(ho:s.heap.get? a=some o)(hd:o.data=.set es ep t)(T:Yc t es)(he:es.toList=xs.map (ent knd))(hx:∀x∈xs,IsTupleKey knd s.heap x.1 x.2)(hn:(xs.map (·.1)).Nodup)(F:Fst t (tupleKeyHash knd k) N)(Vn:∀(i:Nat) x,xs[i]?=some x->x.1=k->Q (.there (if adding then none else some i)) s)(z1:(∀x∈xs,x.1≠k)->Q (.free (P t.mask (tupleKeyHash knd k) N).j false) s) :
 ∀(Z n:Nat)(st:Option Probe),n<=N->N-n<Z->st.getD (t.probeStart (tupleKeyHash knd k))=P t.mask (tupleKeyHash knd k) n ->
  (∀m,m<n->∀(i:Nat) x,t.place[i]?=some (P t.mask (tupleKeyHash knd k) m).j->xs[i]?=some x->x.1≠k) ->
  wpAny (model prog w) A (setSearchFrom a (.ref p) (tupleKeyHash knd k) adding Z st) Q E s:=by
 intro Z
 induction Z with
 |zero=>intro n st _ l;omega
 |succ Z ih =>
  intro n st q8 l Us q4;unfold setSearchFrom;refine aa (jy ho hd T.fits ?_);dsimp only;rw[T.way,Us];simp only[cu,jd];have q7:=al5 T F (λi=>(es[i]?.map (·.1)).getD 0) (10*turns t.mask) n q8 (by have:=F.lt;exact c_ C_ this);generalize qk:t.probe _ (tupleKeyHash knd k) (P t.mask (tupleKeyHash knd k) n)=pr;have qk:t.probe (λi=>(es[i]?.map (·.1)).getD 0) (tupleKeyHash knd k) (P t.mask (tupleKeyHash knd k) n)=pr:=qk;have atI:∀(i j:Nat),t.place[i]?=some j->∃x,xs[i]?=some x/\es[i]?=some (ent knd x):=λi j e=>by
   have li:i<es.size:=by rw[<- T.Yd];exact(jo.mp e).1
   have lx:i<xs.length:=by have:=nq List.length he;simp at this;exact b_ li (f_ this)
   refine⟨xs[i],by simp[lx],?_⟩;rw[aey he];simp[lx]
  rcases q7 with⟨e,z0⟩|⟨m,i,h1,h2,h3,h4,h5,e⟩
  .have e:pr=_:=qk.symm.trans e
   subst e;dsimp only;refine aj (z1 λx zk U=>?_);obtain⟨i,hi⟩:=mj.mp zk;have qq:es[i]?=some (ent knd x):=by rw[aey he,hi];rfl
   obtain⟨m,lm,hp⟩:=T.ahead F qq (by unfold ent;rw[U])
   by_cases q3:m<n
   .exact q4 m q3 i x hp hi U
   .refine z0 m (s_ q3) lm i hp ?_
    rw[qq];show tupleKeyHash knd x.1=_;rw[U]
  .have e:pr=_:=qk.symm.trans e
   subst e;dsimp only;obtain⟨x,q0,qq⟩:=atI i _ h3;have zv:=hx x (au q0);have q5:∀{R:Bool->Shared->Prop},R false s->wpAny (model prog w) A (searchCouldBeSeen (.ref p) ((es.filter (·.1==tupleKeyHash knd k)).toList.map (·.2))) R E s:=λhR=>ama hk (λv hv=>by
    obtain⟨y,hy,rfl⟩:=bh.mp hv;have q6:y∈es.toList:=by simp at hy;simpa using hy.1
    rw[he] at q6;obtain⟨z,hz,rfl⟩:=bh.mp q6;exact⟨z.1,z.2,rfl,hx z hz⟩) hR
   rcases Bool.eq_false_or_eq_true t.led with a6g|a6g
   all_goals
    simp only[a6g,qw,yu,cu,jd,j5]
    first
    |(rw[qq];show wpAny _ _ (holding [.ref x.2] (eqBool (.ref x.2) (.ref p)) >>= _) _ _ _)
    |(refine aa (q5 ?_);simp only[cu,jd];rw[qq];show wpAny _ _ (holding [.ref x.2] (eqBool (.ref x.2) (.ref p)) >>= _) _ _ _)
    refine aa (ik (wpAny_eqBool_tuple hu zv hk ?_));refine aa (jy ho hd T.fits ?_);dsimp only;have z2:t.sameMemory t.moves t.mask=some true:=by unfold sameMemory;simp
    rw[z2];dsimp only;rw[cj rfl,(Rn T.srt).mpr h3];dsimp only;rw[qq]
    by_cases U:x.1=k
    .have q1:decide (x.1=k)=true:=by simp[U]
     rw[q1];have hq:=Vn i x q0 U;cases adding
     .simp only[Bool.false_and,cu,jd]
      refine aa (wpAny_isSame_ref_self ?_);refine aa (aj ?_);simpa using aj hq
     .simp only[Bool.and_self,j5]
      exact aj hq
    .have q1:decide (x.1=k)=false:=by simp[U]
     rw[q1];simp only[Bool.and_false,cu,jd];refine aa (wpAny_isSame_ref_self ?_);refine aa (aj ?_);simp only[j5];refine ih (m+1) _ h2 (by lia) rfl λm' z3 i' x' q2 qv=>?_
     by_cases hc:m'<n
     .exact q4 m' hc i' x' q2 qv
     .by_cases hm:m'=m
      .subst hm
       have ei:i'=i:=by rw[<- below_at T.srt q2,<- below_at T.srt h3]
       subst ei;rw[q0] at qv;cases qv;exact U
      .intro zz
       have zw:es[i']?=some (ent knd x'):=by rw[aey he,qv];rfl
       refine h5 m' (s_ hc) (by lia) i' q2 ?_;rw[zw];show tupleKeyHash knd x'.1=_;rw[zz]
end
section
variable{prog:Program}{w:World}{K:Type}[DecidableEq K]{knd:KeyKind prog w K}{pk:List K×Addr->Prop}{A:Around}{E:Y1}{s:Shared}
noncomputable abbrev bt(w:World):Bool:=w.params.followText "set-order"
def U5(h:Q (bt w) s):wpAny (model prog w) A setsByText Q E s:=by unfold setsByText;exact aa (wpAny_askSetting (aj h))
def Rp(knd:KeyKind prog w K)(pk:List K×Addr->Prop):Prop:=∀x,pk x->∀k∈x.1,∀v n,knd.is k v=true->hashByValue n v=pure true
theorem Tw:∀{U:List K}{Z:Zl},ItemsAre knd U Z->(∀k∈U,∀v n,knd.is k v=true->hashByValue n v=pure true)->∀v∈Z,∀n,hashByValue n v=pure true
 |_,_,.nil,_,v,h=>by simp at h
 |_,_,.cons h t,hp,v,hv=>by
  rcases bz.mp hv with rfl|hv
  .exact λn=>hp _ cz _ n h
  .exact Tw t (λk R=>hp k (bf _ R)) v hv
def aez(qq:Rp knd pk)(hk:IsTupleKey knd s.heap ks a)(hp:pk (ks,a))(h:Q true s):wpAny (model prog w) A (hashByValue 8 (.ref a)) Q E s:=by
 have hT:=hk.typeIs;obtain⟨o,U,n,ho,_,hd,hi⟩:=hk;unfold hashByValue;refine aa (wpAny_specialOf hT F.slot_tuple_hash.lookup ?_);dsimp only;refine aa (q9 ho hd ?_);refine aa ?_;show wpAny _ _ (forIn U _ _) _ _ s;rw[<- Array.forIn_toList];refine qt _ (λZ r R=>r.1=none/\R=s/\∀v∈Z,∀n,hashByValue n v=pure true) _ ?_ ?_ _ _ ⟨rfl,rfl,Tw hi (qq _ hp)⟩
 .rintro v Z r R ⟨hr,rfl,Gb⟩
  rw[Gb v cz];refine aa (aj ?_);simp only[qw,cu,jd];exact aj ⟨rfl,rfl,λu qk=>Gb u (bf _ qk)⟩
 .rintro⟨r1,r2⟩ R ⟨hr,rfl,_⟩
  simp only at hr;subst hr;exact aj h
structure Rq(knd:KeyKind prog w K)(pk:List K×Addr->Prop)(h:Heap)(a:Addr)(xs:List (List K×Addr))(o:Obj)(es:Array (Int×Value))(ep:Nat)(t:SetTable):Prop where
 get:h.get? a=some o
 exa:o.ExactSet
 dat:o.data=.set es ep t
 tab:Yc t es
 ent:es.toList=xs.map (ent knd)
 keys:∀x∈xs,IsTupleKey knd h x.1 x.2/\pk x
 nod:(xs.map (·.1)).Nodup
 led:t.led=!bt w
 pla:t.plain=true
def Df(knd:KeyKind prog w K)(pk:List K×Addr->Prop)(h:Heap)(a:Addr)(S:List K->Prop)(n:Nat):Prop:=∃Z o U R t,Rq knd pk h a Z o U R t/\(∀k,S k↔k∈Z.map (·.1))/\Z.length=n/\t.place.size*5<t.mask*3
theorem Rq.size(X:Rq knd pk h a U o Z R t):Z.size=U.length:=by have:=nq List.length X.ent;simpa using this
def amb(p:Addr)(Z:Array (Int×Value)):byScan (.ref p) Z=false:=by unfold byScan;simp[Value.scannable]
def amc(h:Msk m):10*turns m<100000:=by rcases h with rfl|rfl|rfl|rfl|rfl<;>decide
def Vo(R:A.units<cLine)(hk:IsTupleKey knd s.heap k p)(X:Rq knd pk s.heap a U o es ep t)(F:Fst t (tupleKeyHash knd k) N)(Vn:∀(i:Nat) x,U[i]?=some x->x.1=k->Q (.there (if adding then none else some i)) s)(Z:(∀x∈U,x.1≠k)->Q (.free (P t.mask (tupleKeyHash knd k) N).j false) s) :
 wpAny (model prog w) A (setSearch a (.ref p) (tupleKeyHash knd k) adding) Q E s:=by
 unfold setSearch;exact aja R hk X.get X.dat X.tab X.ent (λx hx=>(X.keys x hx).1) X.nod F Vn Z 100000 0 none (jr _) (by have:=F.lt;have:=amc X.tab.msk;lia) (abn _ _) (λm l=>by lia)
def asu(hu:A.units<cLine)(hk:IsTupleKey knd s.heap k p)(hS:Df knd pk s.heap a S n)(h:∀r:Option Nat,(r.isSome=true↔S k)->Q r s):wpAny (model prog w) A (setFind a (.ref p) (tupleKeyHash knd k)) Q E s:=by
 obtain⟨xs,o,es,ep,t,X,R,_,_⟩:=hS;obtain⟨N,F⟩:=X.tab.fst (tupleKeyHash knd k);unfold setFind setFindIn;refine aa (jy X.get X.dat X.tab.fits ?_);dsimp only;rw[amb];simp only[cu,jd];refine aa (Vo hu hk X F (λi x hi U=>?_) (λZ=>?_))
 .simp only[cu,jd]
  exact aj (h _ (by simp;exact(R k).mpr (bh.mpr ⟨x,au hi,U⟩)))
 .dsimp only
  refine aj (h _ ?_);simp only[Option.isSome_none,cu,false_iff];intro hs;obtain⟨x,U,e⟩:=bh.mp ((R k).mp hs);exact Z x U e
end
def Dq{U β:Type}{f:U->β}:∀{l l':List β},l.Perm l'->∀{xs:List U},l'=xs.map f->∃Z:List U,l=Z.map f/\Z.Perm xs:=by
 intro l l' p
 induction p with
 |nil=>intro xs e;cases xs with
  |nil=>exact⟨[],rfl,.nil⟩|cons _ _=>cases e
 |cons a p ih =>
  intro xs e;cases xs with
  |nil=>cases e
  |cons x xs =>
   simp only[gh,List.cons.injEq] at e;obtain⟨Z,R,p1⟩:=ih e.2;exact⟨x::Z,by simp[R,e.1],p1.cons x⟩
 |swap a b l =>
  intro xs e
  match xs,e with
  |x::y::xs,e =>
   simp only[gh,List.cons.injEq] at e;obtain⟨rfl,rfl,rfl⟩:=e;exact⟨y::x::xs,rfl,.swap x y xs⟩
 |trans p q qk qq =>
  intro xs e;obtain⟨ys,R,p1⟩:=qq e;obtain⟨zs,e2,p2⟩:=qk R;exact⟨zs,e2,p2.trans p1⟩
section
variable{prog:Program}{w:World}{K:Type}[DecidableEq K]{knd:KeyKind prog w K}{pk:List K×Addr->Prop}{A:Around}{E:Y1}{s:Shared}
def amd(x:IsTupleKey knd h ks p)(ho:h.get? a=some o)(hd:o.data=.set es ep t)(hs:Heap.SameBut a h h'):IsTupleKey knd h' ks p:=by
 obtain⟨o',U,n,R,hc,Z,hi⟩:=x;have Xn:p≠a:=by rintro rfl;obtain rfl:o'=o:=ju (R.symm.trans ho);rw[hd] at Z;exact nomatch Z
 exact⟨o',U,n,(hs.2 p Xn).trans R,hc,Z,hi⟩
def newX(X:Rq knd pk h a xs o es R t)(T':Yc t' Z)(he:Z.toList=U.map (ent knd))(hk:∀x∈U,IsTupleKey knd h x.1 x.2/\pk x)(hn:(U.map (·.1)).Nodup)(hl:t'.led=!bt w)(hp:t'.plain=true) :
 Rq knd pk (h.update a (Obj.putSet Z t')) a U { o with data:=.set Z (R+1) t' } Z (R+1) t':=by
 have hg:(h.update a (Obj.putSet Z t')).get? a=some { o with data:=.set Z (R+1) t' }:=by have:=jz (Obj.putSet Z t') X.get (by rw[putSet_of Z t' X.dat];rfl);rw[putSet_of Z t' X.dat] at this;exact this
 exact⟨hg,X.exa,rfl,T',he,λx hx=>⟨amd (hk x hx).1 X.get X.dat (ir h a _),(hk x hx).2⟩,hn,hl,hp⟩
def Jh(h:n<=128):n<=sizeLine:=by rw[o8];exact a_ h (by decide)
def abr(X:Rq knd pk s.heap a xs o U ep t)(hm:Msk (sizeAbove wanted-1))(hz:U.size<=sizeAbove wanted-1)(hb:sizeAbove wanted<=128)(h:∀h' R o' qq qk t',Heap.SameBut a s.heap h'->Rq knd pk h' a R o' qq qk t'->R.Perm xs->t'.mask=sizeAbove wanted-1->t'.place.size=U.size->Q () { s with heap:=h' }) :
 wpAny (model prog w) A (setRelay a wanted) Q E s:=by
 obtain⟨t',Z,e,e1,T',p,sz,hl,hp,_⟩:=agv hm t.finger (t.movedTo (sizeAbove wanted-1)) t.led t.plain U hz;unfold setRelay;refine aa (jy X.get X.dat X.tab.fits ?_);dsimp only;rw[bw (by have:=Jh hb;exact j_ this)];have er:t.relaid (U.map (·.1)) wanted=some (t',Z):=e;rw[er];refine aa ?_;have qv:wpAny (model prog w) A (if((Z.filterMap (U[·]?)).size != U.size)=true then(do unsupported "internal:set-table-lost-an-element";pure (Z.filterMap (U[·]?),t')) else pure (Z.filterMap (U[·]?),t'))
  (λr s'=>wpAny (model prog w) A (storeSet a r.1 r.2) Q E s') E s:=by
  rw[bw (by simp[sz])];refine aj ?_;obtain⟨R,ex,px⟩:=Dq p X.ent;have hX:=newX X T' ex (λx hx=>X.keys x (px.mem_iff.mp hx)) ((px.map _).nodup_iff.mpr X.nod) (hl.trans X.led) (hp.trans X.pla);refine wpAny_storeSet_of X.get X.dat (h _ _ _ _ _ _ (ir s.heap a _) hX px e1 (by rw[T'.Yd,sz])) (Jh (by rw[sz];exact a_ hz (a_ C_ hb)))
 exact qv
def Zk(q2:Rp knd pk)(hu:A.units<cLine)(hk:IsTupleKey knd s.heap k p)(hp:pk (k,p))(hS:Df knd pk s.heap a S n)(hn:n+1<32)(h:∀h' n' b,Heap.SameBut a s.heap h'->Df knd pk h' a (λU=>S U\/U=k) n'->n'<=n+1->Q b { s with heap:=h' }) :
 wpAny (model prog w) A (setAddHashed a (.ref p) (tupleKeyHash knd k)) Q E s:=by
 obtain⟨xs,o,es,ep,t,X,hm,hl,nf⟩:=hS;obtain⟨N,F⟩:=X.tab.fst (tupleKeyHash knd k);have qv:=X.size;unfold setAddHashed setAddHashedIn;refine ik (aa (jy X.get X.dat X.tab.fits ?_));dsimp only;rw[amb];simp only[cu,jd];refine aa (Vo hu hk X F (λi x hi hx=>?_) (λq4=>?_))
 .dsimp only
  refine aj ?_;have q7:S k:=(hm k).mpr (bh.mpr ⟨x,au hi,hx⟩);have:=h s.heap n false (w6 a s.heap) ⟨xs,o,es,ep,t,X,λU=>by
   rw[<- hm U];exact⟨λh=>h.elim id (λe=>e▸q7),.inl⟩,hl,nf⟩ x_
  exact this
 .dsimp only
  refine aa (jy X.get X.dat X.tab.fits ?_);dsimp only;have room:t.place.size+1<=t.mask:=by have:=X.tab.msk;rcases this with e|e|e|e|e<;>lia
  have T':=X.tab.put (x:=.ref p) F room;have Hy:(t.put (P t.mask (tupleKeyHash knd k) N).j).1.plain=true:=X.pla;rw[Hy];simp only[j5];refine aa (aez q2 hk hp ?_);simp only[j5];obtain⟨R,ex,px⟩:=Dq (f:=ent knd) (insertAt_perm es (t.put (P t.mask (tupleKeyHash knd k) N).j).2 (tupleKeyHash knd k,.ref p)) (xs:=xs++[(k,p)]) (by rw[Array.toList_push,X.ent,kj];rfl);have pm:=px.map (·.1);have q5:(R.map (·.1)).Nodup:=pm.nodup_iff.mpr (by
   rw[kj,m9];refine⟨X.nod,by simp,λa ha b hb=>?_⟩;simp at hb;subst hb;rintro rfl;obtain⟨x,hx,e⟩:=bh.mp ha;exact q4 x hx e)
  have Vp:∀x∈R,IsTupleKey knd s.heap x.1 x.2/\pk x:=λx hx=>by
   rcases bx.mp (px.mem_iff.mp hx) with hx|hx
   .exact X.keys x hx
   .simp at hx;subst hx;exact⟨hk,hp⟩
  have hX:=newX X T' ex Vp q5 X.led X.pla;have Ib:∀U,(S U\/U=k)↔U∈R.map (·.1):=λU=>by rw[pm.mem_iff,kj,bx,hm U];simp
  have qk:R.length=n+1:=by rw[px.length_eq];simp[hl]
  have qq:(insertAt es (t.put (P t.mask (tupleKeyHash knd k) N).j).2 (tupleKeyHash knd k,.ref p)).size=es.size+1:=Lw _ _ _;refine aa (wpAny_storeSet_of X.get X.dat ?_ (Jh (by rw[qq];exact e_ (c_ (v_ (f_ qv)) (c_ (v_ (f_ hl)) (b_ hn (by decide)))))));have q0:(t.put (P t.mask (tupleKeyHash knd k) N).j).1.place.size=es.size+1:=by rw[T'.Yd,qq]
  by_cases Z:(t.put (P t.mask (tupleKeyHash knd k) N).j).1.tooFull=true
  .rw[Z]
   simp only[yu,Bool.and_self,j5];obtain⟨g1,g2,g3,g4,g5⟩:=Yg (es.size+1) (c_ (v_ (f_ qv)) (c_ (v_ (f_ hl)) hn));refine aa (abr hX g1 (by rw[qq];exact g2) g5 λh' q1 o2 q3 q6 t2 sb X2 p2 em ps=>?_);refine aj (h h' (n+1) true ((ir s.heap a _).trans sb) ⟨q1,o2,q3,q6,t2,X2,λU=>?_,by rw[p2.length_eq,qk],?_⟩ (bc _))
   .exact(Ib U).trans (p2.map (·.1)).mem_iff.symm
   .rw[ps,em,qq];exact t_ g4
  .rw[Bool.not_eq_true] at Z
   rw[Z];simp only[Bool.and_false,cu,jd];refine aj (h _ (n+1) true (ir s.heap a _) ⟨R,_,_,_,_,hX,Ib,qk,?_⟩ (bc _));unfold tooFull at Z;have hf:(t.put (P t.mask (tupleKeyHash knd k) N).j).1.fill=es.size+1:=by unfold fill;rw[q0,T'.dum];rfl
   rw[hf] at Z;rw[q0];simp at Z;exact Z
end
open PySem
def upto(J:Nat->β->Shared->Prop)(U:∀i b z,i<n->J i b z->wpAny M A (f i b) (λr z'=>match r with|.yield Z=>J (i+1) Z z'|.done Z=>Q Z z') E z)(fin:∀b z,J n b z->Q b z)(start:J 0 b s) :
 wpAny M A (forIn [:n] b f) Q E s:=by
 have go:∀(k i:Nat)(b:β)(z:Shared),n=i+k->J i b z->wpAny M A (forIn (List.range' i k) b f) Q E z:=by
  intro k
  induction k with
  |zero=>intro i b z e hj;subst e;exact aj (fin b z hj)
  |succ k ih =>
   intro i b z e hj;show wpAny M A (forIn (i::List.range' (i+1) k) b f) Q E z;rw[List.forIn_cons];refine aa (m7 (U i b z (by lia) hj) (λr z' R=>?_) λ_ _ x=>x)
   match r,R with
   |.done Z,R=>exact aj R|.yield Z,R=>exact ih (i+1) Z z' (by lia) R
 have e:(forIn [:n] b f:Sem β)=forIn (List.range' 0 n) b f:=by rw[Std.Legacy.Range.forIn_eq_forIn_range'];simp[Std.Legacy.Range.size]
 rw[e];exact go n 0 b s (by lia) start
def sub_dict_set:isSubtype (.type "dict") (.type "set")=pure false:=by rw[isSubtype_type];kernel_rfl
def sub_dict_frozenset:isSubtype (.type "dict") (.type "frozenset")=pure false:=by rw[isSubtype_type];kernel_rfl
section
variable{prog:Program}{w:World}{K:Type}[DecidableEq K]{knd:KeyKind prog w K}{pk:List K×Addr->Prop}{A:Around}{E:Y1}{s:Shared}
def Gy(Z:s.TypeIs v T)(U:isSubtype (.type T) (.type "set")=pure false)(R:isSubtype (.type T) (.type "frozenset")=pure false)(h:Q false s) :
 wpAny (model prog w) A (Builtin.Frozenset.isAnySet v) Q E s:=by
 unfold Builtin.Frozenset.isAnySet;refine aa (m8 Z U ?_);exact m8 Z R h
def bdc(Z:s.TypeIs v "set")(h:Q true s):wpAny (model prog w) A (Builtin.Frozenset.isAnySet v) Q E s:=by unfold Builtin.Frozenset.isAnySet;refine aa (m8 Z sub_set_self ?_);exact aj h
noncomputable def Aq(w:World):Obj:={ cls:=.type "set",dict:=none,data:=.set #[] 0 (.fresh 0 0 (!bt w)) }
def asw(Z:h.get? a=some (Aq w)):Df knd pk h a (λ_=>False) 0 :=
 ⟨[],Aq w,#[],0,_,⟨Z,⟨rfl,rfl,rfl⟩,rfl,⟨.inl rfl,rfl,rfl,λi j a b e=>by simp[SetTable.fresh] at e,λi j e=>by simp[SetTable.fresh] at e,by simp[SetTable.fresh],λi j e a=>by simp[SetTable.fresh] at a⟩,
  rfl,λx U=>by simp at U,v8,rfl,rfl⟩,λk=>by simp,rfl,by simp[SetTable.fresh]⟩
set_option tactic.hygienic true in
def asx(hS:Df knd pk s.heap a S n)(hl:n+m<64)(h:∀Z,Heap.SameBut a s.heap Z->Df knd pk Z a S n->Q () { s with heap:=Z }):wpAny (model prog w) A (setRoomFor a m) Q E s:=by
 obtain⟨xs,o,es,ep,t,X,u,G,nf⟩:=hS;have C:=X.size;unfold setRoomFor;refine aa (jy X.get X.dat X.tab.fits ?_);dsimp only;unfold roomFor;have J:=X.tab.Yd;split
 .rename_i Y e
  split at e
  .cases e
   obtain⟨g1,g2,g3,g4⟩:=al9 (t.place.size+m) (c_ (v_ (f_ J)) (c_ (v_ (f_ C)) (c_ (v_ (f_ G)) hl)));refine abr X g1 (by lia) g4 λZ U o2 L R t2 sb X2 y em ps=>h Z sb ⟨U,o2,L,R,t2,X2,λk'=>?_,by rw[y.length_eq,G],?_⟩
   .exact(u k').trans (y.map (·.1)).mem_iff.symm
   .rw[ps,em];lia
  .cases e
 .exact aj (h s.heap (w6 _ _) ⟨xs,o,es,ep,t,X,u,G,nf⟩)
theorem Df.get(R:Df knd pk h a S n):∃o Z U t,h.get? a=some o/\o.ExactSet/\o.data=.set Z U t/\t.fits Z.size=true :=
 let ⟨_,o,Z,U,t,X,_⟩:=R;⟨o,Z,U,t,X.get,X.exa,X.dat,X.tab.fits⟩
def Df.typeIs(Z:Df knd pk s.heap a S n):s.TypeIs (.ref a) "set" :=
 let ⟨o,_,_,_,ho,hc,_⟩:=Z.get;⟨o,ho,hc.1⟩
def Df.congr(Z:Df knd pk h a S n)(e:∀k,S k↔U k):Df knd pk h a U n :=
 let ⟨xs,o,es,ep,t,X,hm,r⟩:=Z;⟨xs,o,es,ep,t,X,λk=>(e k).symm.trans (hm k),r⟩
def amf(zw:Rp knd pk){id:String}(hu:A.units<cLine)(hS:Df knd pk s.heap a S n)(hd:s.heap.DictOfH (tupleKind knd) d Z)(z4:(d==sysModules)=false)(zk:∀x∈Z,pk (x.1,x.2.1))(hl:n+Z.length<31)(h:∀U n',Heap.SameBut a s.heap U->Df knd pk U a (λk=>S k\/k∈Z.map (·.1)) n'->Q () { s with heap:=U }) :
 wpAny (model prog w) A (Builtin.Frozenset.updateFrom id a (.ref d)) Q E s:=by
 have hT:=hd.typeIs;obtain⟨od,q7,z7,qq,yk,R,q5,z1,yv⟩:=hd;obtain⟨o0,z5,yy,t0,q1,z6,q0,z8⟩:=hS.get;have Xn:d≠a:=by rintro rfl;rw[qq] at q1;cases q1;rw[R] at q0;cases q0
 have qv:q7.size=Z.length:=size_of_entries q5;unfold Builtin.Frozenset.updateFrom;refine aa (Gy hT sub_dict_set sub_dict_frozenset ?_);simp only[cu,jd];refine aa (ur hT ?_);rw[cj (by decide)];refine aa (wpAny_rule ?_);refine aa (m:=Builtin.Frozenset.addrOf (.ref d)) (aj ?_);rw[bw (by rw[z4];decide)];refine aa (ug qq R ?_);refine aa (j7 qq R ?_);refine aa (asx hS (by lia) λh1 q6 zz=>?_);have q8:h1.get? d=some od:=(q6.2 d Xn).trans qq;refine aa (j7 q8 R ?_);refine aa ?_;refine upto (λi _ z=>∃U n',z={ s with heap:=U }/\Df knd pk U a (λk=>S k\/k∈(Z.take i).map (·.1)) n'/\n'<=n+i/\Heap.SameBut a s.heap U) (λi _ z lt q2=>?_) (λ_ z q2=>?_) ⟨h1,n,rfl,zz.congr (λk=>by simp),x_,q6⟩
 .obtain⟨U,n',rfl,Vq,Oo,qk⟩:=q2
  have q3:U.get? d=some od:=(qk.2 d Xn).trans qq;refine aa (j7 q3 R ?_);have lx:i<Z.length:=b_ lt (f_ qv)
  have he:q7[i]?=some (entryOfKey (tupleKind knd) Z[i]):=by rw[entry_at q5];simp[lx]
  rw[he];have z3:IsTupleKey knd U Z[i].1 Z[i].2.1:=amd (z1 _ (p8 lx)) q1 q0 qk;show wpAny _ _ (holding [.ref Z[i].2.1] (setAddHashed a (.ref Z[i].2.1) (tupleKeyHash knd Z[i].1)) >>= _) _ _ _;refine aa (ik (Zk (s:={ s with heap:=U }) zw hu z3 (zk _ (p8 lx)) Vq (by lia) λzv z0 b q4 z2 z9=>?_));refine aa (ug ((q4.2 d Xn).trans q3) R ?_);rw[ym];refine aj ⟨zv,z0,rfl,z2.congr (λk=>?_),by lia,qk.trans q4⟩;rw[List.take_add_one,kj,bx,show Z[i]?=some Z[i] by simp[lx]];simp[or_assoc]
 .obtain⟨U,n',rfl,Vq,Oo,qk⟩:=q2
  refine aj (h U n' qk (Vq.congr λk=>?_));rw[zu (g_ qv)]
end
section
variable{prog:Program}{w:World}{K:Type}[DecidableEq K]{knd:KeyKind prog w K}{pk:List K×Addr->Prop}{A:Around}{E:Y1}{s:Shared}
def asy(Z:R (.ref s.heap.objs.size) { s with heap:=s.heap.push (Aq w) }) :
 codeAny (model prog w) A (.call (.builtin "set.__new__") ⟨[.type "set",v],[]⟩) (wants R E) s:=by
 refine codeAny_call_builtin F.plain_set_new F.entry_set_new (wpAny_of_eq (F.newCall_set_1 v) ?_);have U:=sub_set_self;unfold Builtin.«set.__new__» Builtin.Frozenset.newClass
 wp_walk
 exact wpAny_askSetting (aj (aa (wpAny_alloc (aj (aj Z)))))
set_option maxHeartbeats 3200000 in
def Lx{R:Shared->Prop}(qv:wpAny (model prog w) A.in1.in1 (Builtin.Frozenset.updateFrom "set.__init__" s.heap.objs.size x) (λ_ s'=>R s') E { s with heap:=s.heap.push (Aq w) })(h:∀s',R s'->Q (.ref s.heap.objs.size) s') :
 wpAny (model prog w) A (call (.type "set") [x]) Q E s:=by
 obtain⟨c,tl,q2⟩:=uq.mro;have q3:=uq.made;have Oq:=uq.sub;refine wpAny_call (codeAny_of_tree ?_);show wpAny _ _ (callAny (.type "set") _) _ _ _;refine aj ⟨Code.quiet_builtin _ (by decide+kernel),o4 F.entry_type_call ?_⟩;rw[Around.under_plain (weight_type_call_type "set" [x] []) rfl];have h1:=uq.notType;have h2:=uq.canCreate;have q5:=F.typeCall_set_1 x
 repeat (any_goals (first|assumption|wp_step))
 refine v7 (asy (v:=x) (E:=E) (R:=λobj U=>obj=.ref s.heap.objs.size/\U={ s with heap:=s.heap.push (Aq w) }) ⟨rfl,rfl⟩) λr U hr=>?_
 cases r with
 |error e=>exact hr
 |ok fl =>
  cases fl with
  |ret obj =>
   obtain⟨rfl,rfl⟩:=hr;have hS:(s.heap.push (Aq w)).get? s.heap.objs.size=some (Aq w):=bu _ rfl;have hT:Shared.TypeIs { s with heap:=s.heap.push (Aq w) } (.ref s.heap.objs.size) "set" := ⟨_,hS,rfl⟩;have q4:=uq.init.lookup;have q1:=uq.init.bind (.ref s.heap.objs.size)
   repeat (any_goals (first|assumption|wp_step))
   refine v7 (codeAny_call_builtin (R:=wants (λr qq=>r=.none/\R qq) E) uq.init.plain F.entry_set_init (check_set_init_1 hT ?_)) λq0 qq Z=>?_
   .unfold Builtin.«set.__init__» noKeywords
    generalize hUF:Builtin.Frozenset.updateFrom=UF at qv ⊢;unfold Aq at hS hT qv ⊢
    wp_walk
    exact m7 qv (λ_ s' hr=>aj ⟨rfl,hr⟩) (λe s' he=>he)
   .cases q0 with
    |error e=>exact Z
    |ok qk =>
     cases qk with
     |ret r =>
      obtain⟨rfl,hq⟩:=Z
      repeat (any_goals (first|assumption|wp_step))
      exact h _ hq
     |_=>exact Z.elim
  |_=>exact hr.elim
end
open PyProof.Rows (F.entry_set_update_loop F.plain_set_update_loop)
section
variable{prog:Program}{w:World}{K:Type}[DecidableEq K]{knd:KeyKind prog w K}{pk:List K×Addr->Prop}{A:Around}{E:Y1}{s:Shared}
def Rr{wr:X9}(R:IsTupleKey knd h Z p)(U:p∉wr)(hm:∀b o,b∉wr->h.get? b=some o->h'.get? b=some o):IsTupleKey knd h' Z p :=
 let ⟨o,items,n,ho,r⟩:=R;⟨o,items,n,hm p o U ho,r⟩
def Df.moved{wr:X9}(R:Df knd pk h a S n)(ha:a∉wr)(hw:∀(b:Addr) (ks:List K),b∈wr->¬IsTupleKey knd h ks b)(U:∀b o,b∉wr->h.get? b=some o->h'.get? b=some o):Df knd pk h' a S n :=
 let ⟨xs,o,es,ep,t,X,r⟩:=R
 ⟨xs,o,es,ep,t,⟨U a o ha X.get,X.exa,X.dat,X.tab,X.ent,λx Z=>⟨Rr (X.keys x Z).1 (λhc=>hw _ _ hc (X.keys x Z).1) U,(X.keys x Z).2⟩,X.nod,X.led,X.pla⟩,r⟩
def asz(zv:Rp knd pk){I:Addr}{P:Nat->Value->Prop}(hu:A.in1.units<cLine)(W:WalksS prog w A.in1 I fp wr G n P St)(a:Addr)(q3:a∉fp)(Z:List (List K×Addr))(q2:Z.length=n)(q6:∀i v x,P i v->Z[i]?=some x->v=.ref x.2)(zz:∀x∈Z,pk x)(hb:n<31)(z1:∀x∈Z,x.2∉wr)(q0:∀i (s:Shared),St i s->∀(b:Addr) (Z:List K),b∈wr->¬IsTupleKey knd s.heap Z b) :
 ∀(k i n':Nat)(s:Shared),n-i=k->i<=n->St i s->(∀x∈Z,IsTupleKey knd s.heap x.1 x.2) ->
  Df knd pk s.heap a (λk'=>k'∈(Z.take i).map (·.1)) n'->n'<=i ->
  (∀U z2,Moved (a::wr) G s U->Df knd pk U.heap a (λk'=>k'∈Z.map (·.1)) z2->R (.ok (.ret .none)) U) ->
  codeAny (model prog w) A (.builtin "set.update.loop" ⟨[.ref a,.ref I],[]⟩) R s:=by
 have q1:a∉wr:=λh=>q3 (W.sub _ h)
 have Oq:∀b∈wr,b∈a::wr:=λb hb=>bf _ hb
 intro k
 induction k with
 |zero =>
  intro i n' s hk hi Us Vp hS Oo hR;have Vn:i=n:=by lia
  subst Vn;refine o4 su ?_;rw[km m5 _];show wpAny _ A.in1 (pyNext (.ref I) >>= _) _ _ s;refine aa (W.done s _ _ Us λU hm=>?_);show wpAny _ A.in1 (ret Value.none) _ _ U;refine aj (hR U n' (hm.mono Oq) ((hS.moved q1 (q0 _ s Us) hm.heap).congr λk=>?_));rw[zu (f_ q2)]
 |succ k ih =>
  intro i n' s hk hi Us Vp hS Oo hR;have J1:i<n:=by lia
  refine o4 su ?_;rw[km m5 _];show wpAny _ A.in1 (pyNext (.ref I) >>= _) _ _ s;refine aa (W.item i s _ _ J1 Us λv U hP zw hm=>?_);have lx:i<Z.length:=b_ J1 (g_ q2)
  have q4:Z[i]?=some Z[i]:=by simp[lx]
  obtain rfl:=q6 i v _ hP q4;have qq:=p8 lx;have Vq:=hS.moved q1 (q0 _ s Us) hm.heap;have qk:∀x∈Z,IsTupleKey knd U.heap x.1 x.2:=λx hx=>Rr (Vp x hx) (z1 x hx) hm.heap
  show wpAny _ A.in1 (holding [Value.ref Z[i].2] (setAdd a (.ref Z[i].2)) >>= _) _ _ U;refine aa (ik ?_);unfold setAdd;refine ik ?_;refine aa (wpAny_pyHash_tuple hu (qk _ qq) ?_);refine Zk (s:={ U with toks:=U.toks+(Z[i].1.length+1) }) zv hu (qk _ qq) (zz _ qq) Vq (by lia) λh' n2 b qv q8 Yh=>?_
  obtain⟨oa,z6,z7,ta,q5,z4,z0,z5⟩:=Vq.get;refine aj ⟨plainId_quiet m5 _,ih (i+1) n2 _ (by lia) J1 (W.frame _ U _ _ zw (yf _ _) λb hb o e=>?_) (λx hx=>amd (qk x hx) q5 z0 qv) (q8.congr λk=>?_) (a_ Yh (v_ Oo)) λq7 n3 zk z3=>?_⟩
  .rw[qv.2 b (λh:b=a=>q3 (by rw[<- h];exact hb))];exact e
  .rw[List.take_add_one,kj,bx,q4];simp
  .refine hR q7 n3 (Moved.trans W.gtrans ((hm.mono Oq).then_heap (yf _ _) λb o hb e=>?_) zk) z3
   rw[qv.2 b (λh:b=a=>hb (by rw[h];exact cz))];exact e
def amh(q7:Rp knd pk){id:String}{ks:List (List K×Addr)}(hh:A.handled=none)(hu:A.in1.units+1<cLine)(hS:Df knd pk s.heap a (λ_=>False) 0)(hl:s.heap.IsList l items)(q1:items.toList=ks.map λx=>.ref x.2)(Vp:∀x∈ks,IsTupleKey knd s.heap x.1 x.2)(q5:∀x∈ks,pk x)(q2:ks.length<31)(h:∀h' tk n',(∀b o,b≠a->s.heap.get? b=some o->h'.get? b=some o)->Df knd pk h' a (λk=>k∈ks.map (·.1)) n'->Q () { s with heap:=h',toks:=tk }) :
 wpAny (model prog w) A (Builtin.Frozenset.updateFrom id a (.ref l)) Q E s:=by
 have hT:s.TypeIs (.ref l) "list" := let ⟨o,Z,R,_⟩:=hl;⟨o,Z,R⟩;have qv:items.size=ks.length:=by rw[<- u5,q1];simp
 obtain⟨oa,z2,z3,ta,U,z0,q0,z1⟩:=hS.get;unfold Builtin.Frozenset.updateFrom;refine aa (Gy hT F.sub_list_set F.sub_list_frozenset ?_);simp only[cu,jd];refine aa (ur hT ?_);rw[bw (by decide)];refine aa (wpAny_pyIter_list hl ?_);refine aa (wpAny_runValue ?_);have J1:l<s.heap.objs.size:=let ⟨o,Z,_⟩:=hl;az Z
 have q6:a<s.heap.objs.size:=az U
 have q3:l≠a:=by rintro rfl;obtain⟨o,Z,_,n,hd⟩:=hl;rw[Z] at U;cases U;rw[hd] at q0;cases q0
 have q4:l≠s.heap.objs.size:=gf J1;have q8:a∉[s.heap.objs.size,l]:=by simp only[bz,yd,or_false,not_or];exact⟨gf q6,λe=>q3 e.symm⟩
 have keep:∀b o,s.heap.get? b=some o->(s.heap.push { cls:=.type "list_iterator",data:=.fields #[.ref l,.int 0 0] }).get? b=some o:=λb o e=>ao _ e
 refine asz q7 (by lia) ((Walks.list (by simp[hh]) _ l q4 items).toS) a q8 ks qv.symm (λi v x hv hx=>?_) q5 (c_ (f_ qv) q2) (λx hx R=>?_) (λi s' st b kk hb zz=>?_) items.size 0 0 _ rfl (jr _)
  ⟨⟨_,bu _ rfl,rfl,rfl⟩,hl.push _⟩ (λx hx=>Rr (wr:=[]) (Vp x hx) (by simp) λb o _ e=>keep b o e) ?_ (bc _) ?_
 .have:items.toList[i]?=some v:=by simpa using hv
  rw[q1,iw,hx] at this;exact(ju this).symm
 .simp at R
  obtain⟨o,_,_,Z,_⟩:=Vp x hx;have:=az Z;rw[R] at this;exact lq _ this
 .simp at hb
  subst hb;obtain⟨o,_,_,Z,R,_⟩:=zz;obtain⟨⟨o',qk,qq,_⟩,_⟩:=st;rw[Z] at qk;cases qk;rw[R] at qq;exact absurd qq (by decide)
 .refine(hS.moved (wr:=[]) (by simp) (by simp) λb o _ e=>keep b o e).congr λk=>by simp
 .intro s' zk hm Vq
  obtain⟨h',g',d',zv,zw⟩:=s';have eg:g'=s.gens:=hm.gens;have ed:d'=s.drawn:=hm.drawn;have eo:zw=s.os:=hm.os;subst eg;subst ed;subst eo;show wpAny _ _ _ _ _ _;refine aj (h h' zv zk (λb o hb e=>?_) Vq);refine hm.heap b o ?_ (keep b o e);simp only[bz,yd,or_false,not_or];exact⟨hb,gf (az e)⟩
end
theorem Vr{Z:Type}:∀{l:List Z}{i:Nat}(h:i<l.length),(l[i]::l.eraseIdx i).Perm l
 |x::l,0,_=>yw _
 |x::l,i+1,h=>by
  have U:=Vr (l:=l) (i:=i) (by simpa using h);simp only[List.getElem_cons_succ,List.eraseIdx_cons_succ];exact(List.Perm.swap x _ _).trans (U.cons x)
theorem ag1{R:Type}(nx:Nat->Nat):∀(U k:Nat)(Z:List R)(out:Array R),Z.length=U->(pickOrder.go nx U k Z out).toList.Perm (out.toList++Z)
 |0,k,Z,out,h=>by
  have:Z=[]:=wz.mp h;subst this;unfold pickOrder.go;simp
 |U+1,k,Z,out,h=>by
  unfold pickOrder.go;have hq:nx k%Z.length<Z.length:=Nat.mod_lt _ (by lia)
  rw[dh hq];dsimp only;refine(ag1 nx U (k+1) _ _ (by rw[List.length_eraseIdx];split<;>lia)).trans ?_;rw[Array.toList_push,j6];refine List.Perm.append_left _ ?_;exact Vr hq
def Yi(nx:Nat->Nat)(Z:Array α):(pickOrder nx Z).toList.Perm Z.toList:=by unfold pickOrder;simpa using ag1 nx Z.size 0 Z.toList #[] (by simp)
theorem Vs{α:Type}[DecidableEq α]:∀{Z l2:List α},Z.Nodup->Z ⊆ l2->l2.length<=Z.length->∀x∈l2,x∈Z
 |[],l2,_,_,h,x,hx=>by
  have:l2=[]:=wz.mp (by simpa using h);subst this;simp at hx
 |a::Z,l2,hn,hs,h,x,hx=>by
  by_cases e:x=a
  .subst e;exact cz
  .refine bf _ ?_
   have ha:a∈l2:=hs cz;have R:=qp.mp hn;refine Vs (l2:=l2.erase a) R.2 (λy U=>?_) ?_ x ((Al e).mpr hx)
   .exact(Al (λ(e:y=a)=>R.1 (by rw[<- e];exact U))).mpr (hs (bf _ U))
   .rw[List.length_erase_of_mem ha];simp at h;omega
def Zm:entryFor table "set.__ne__" = some Builtin.«frozenset.__ne__» :=
 entryFor_alias (id' := "frozenset.__ne__") (by kernel_rfl) rfl (by decide+kernel) (by kernel_rfl)
def sub_set_frozenset:isSubtype (.type "set") (.type "frozenset")=pure false:=by rw[isSubtype_type];kernel_rfl
section
variable{prog:Program}{w:World}{K:Type}[DecidableEq K]{knd:KeyKind prog w K}{pk:List K×Addr->Prop}{A:Around}{E:Y1}{s:Shared}
set_option tactic.hygienic true in
def as5(X:Rq knd pk s.heap a U o Z C t)(h:∀l,l.toList.Perm Z.toList->Q l s):wpAny (model prog w) A (setWalk a) Q E s:=by
 unfold setWalk;refine aa (jy X.get X.dat X.tab.fits ?_);dsimp only;refine aa (U5 ?_);split
 .exact aa (wpAny_askSetting (aj (h _ (Yi _ _))))
 .rename_i G
  have G:bt w=false:=by simpa using G
  split
  .rename_i Y
   have Y:(!t.plain&&decide (Z.size > 1))=true:=Y;rw[X.pla] at Y;cases Y
  .refine aa ?_
   have:wpAny (model prog w) A (if(!t.led&&decide (Z.size > 1))=true then unsupported "set:maker-not-led" else pure ()) (λ_ J=>wpAny (model prog w) A (pure Z) Q E J) E s:=by rw[X.led,G];simp only[yu,qw,Bool.false_and,cu,jd];exact aj (aj (h Z (yw _)))
   exact this
def ajd(Z:IsTupleKey knd s.heap U a)(h:Q false s):wpAny (model prog w) A (Builtin.Frozenset.quietEq (.ref a)) Q E s:=by
 unfold Builtin.Frozenset.quietEq;refine aa (wpAny_specialOf Z.typeIs F.slot_tuple_eq.lookup ?_);refine aj ?_;have:(some (Value.builtin "tuple.__eq__")==some (Value.builtin "object.__eq__"))=false:=by decide
 rw[this];exact h
def Zn(X:Rq knd pk h a R o U ep t)(Z:e∈U.toList):∃x∈R,e=ent knd x:=by rw[X.ent] at Z;obtain⟨x,hx,rfl⟩:=bh.mp Z;exact⟨x,hx,rfl⟩
def aje(X:Rq knd pk s.heap a xs o es ep t)(Y:Rq knd pk s.heap b ys o' qk qv t')(h:∀l:List (Int×Value),l.Perm es.toList->Q l s):wpAny (model prog w) A (Builtin.Frozenset.walkUnseen a b) Q E s:=by
 unfold Builtin.Frozenset.walkUnseen;refine aa (my X.get X.dat X.tab.fits ?_);refine aa (my Y.get Y.dat Y.tab.fits ?_);refine aa ?_;refine qt _ (λZ r R=>r.1=none/\R=s/\∀e∈Z,∃ks p,e.2=.ref p/\IsTupleKey knd s.heap ks p) _ ?_ ?_ _ _ ⟨rfl,rfl,λe U=>?_⟩
 .rintro e Z r R ⟨hr,rfl,Gb⟩
  obtain⟨ks,p,qq,hk⟩:=Gb e cz;obtain⟨h0,x0⟩:=e;subst qq;dsimp only;refine aa (ajd hk ?_);simp only[yu,j5];unfold Builtin.Frozenset.walk;refine aa (aa (as5 X λl hl=>aj ?_));exact aj (aj (h _ hl))
 .rintro⟨r1,r2⟩ R ⟨hr,rfl,_⟩
  simp only at hr;subst hr;exact aj (h _ (yw _))
 .rcases bx.mp U with U|U
  .obtain⟨x,hx,rfl⟩:=Zn X U
   exact⟨x.1,x.2,rfl,(X.keys x hx).1⟩
  .obtain⟨x,hx,rfl⟩:=Zn Y U
   exact⟨x.1,x.2,rfl,(Y.keys x hx).1⟩
def azb{id:String}(hu:A.units<cLine)(hS:Df knd pk s.heap a S n)(hT:Df knd pk s.heap b T m)(h:∀c:Bool,(c=true↔n<=m/\∀k,S k->T k)->Q c s):wpAny (model prog w) A (Builtin.Frozenset.subsetOf id a b) Q E s:=by
 have qk:=hT;obtain⟨xs,o,es,ep,t,X,hm,hn,_⟩:=hS;obtain⟨ys,o',q0,q2,t',Y,q1,Oo,_⟩:=hT;have h1:=X.size;have h2:=Y.size;unfold Builtin.Frozenset.subsetOf Builtin.Frozenset.sizeOf;refine aa (aa (my X.get X.dat X.tab.fits (aj ?_)));refine aa (aa (my Y.get Y.dat Y.tab.fits (aj ?_)));split
 .exact aj (h false (by simp;lia))
 .refine aa (wpAny_setEpoch_of X.get X.dat X.tab.fits ?_)
  refine aa (aje X Y λl hl=>?_);refine aa ?_;refine qt _ (λU r s'=>r.1=none/\s'=s/\(∀e∈U,∃x∈xs,e=ent knd x)/\∀x∈xs,ent knd x∈U\/T x.1) _ ?_ ?_ _ _ ⟨rfl,rfl,λe he=>Zn X (hl.mem_iff.mp he),λx R=>.inl (hl.mem_iff.mpr (by rw[X.ent];exact bh.mpr ⟨x,R,rfl⟩))⟩
  .rintro e U r s' ⟨hr,rfl,Gb,qq⟩
   obtain⟨x,R,rfl⟩:=Gb e cz;show wpAny _ _ (holding [.ref x.2] (setFind b (.ref x.2) (tupleKeyHash knd x.1)) >>= _) _ _ _;refine aa (ik (asu hu (X.keys x R).1 qk λr hr=>?_));cases r with
   |none =>
    simp only[Option.isNone_none,j5];refine aj (aj (h false ?_));simp only[cu,false_iff,not_and,Classical.not_forall];intro _;refine⟨x.1,(hm x.1).mpr (bh.mpr ⟨x,R,rfl⟩),λZ=>?_⟩;have:=hr.mpr Z;cases this
   |some i =>
    simp only[Option.isNone_some,cu,jd];unfold Builtin.Frozenset.unchanged;refine aa (aa (wpAny_setEpoch_of X.get X.dat X.tab.fits ?_));rw[bw (by simp)];refine aj (aj ⟨rfl,rfl,λe he=>Gb e (bf _ he),λy hy=>?_⟩);rcases qq y hy with Z|Z
    .rcases bz.mp Z with Z|Z
     .right
      have qv:T x.1:=hr.mp rfl;have e2:y.2=x.2:=by have:=nq Prod.snd Z;unfold ent at this;injection this
      have:y.1=x.1:=IsTupleKey.inj (X.keys y hy).1 (by rw[e2];exact(X.keys x R).1);rw[this];exact qv
     .exact .inl Z
    .exact .inr Z
  .rintro⟨r1,r2⟩ s' ⟨hr,rfl,_,qq⟩
   simp only at hr;subst hr;refine aj (h true ?_);simp only[true_iff];refine⟨by lia,λk hk=>?_⟩;obtain⟨x,R,rfl⟩:=bh.mp ((hm k).mp hk);rcases qq x R with Z|Z
   .simp at Z
   .exact Z
set_option tactic.hygienic true in
def a6q(hu:A.in1.units<cLine)(R:A.units<cLine)(J:Df knd pk s.heap a S n)(C:Df knd pk s.heap b T m)(h:∀c:Bool,(c=true↔¬∀k,S k↔T k)->Q (.bool c) s):wpAny (model prog w) A (compareOp .NotEq (.ref a) (.ref b)) Q E s:=by
 show wpAny _ _ (richCompare .NotEq (.ref a) (.ref b)) _ _ _;refine wpAny_richCompare_same_room (op:=.NotEq) J.typeIs C.typeIs F.slot_set_ne (jc F.slot_set_ne J.typeIs Zm ?_ (F.args_set_ne_2 _ _)) R;have fin:∀c:Bool,(c=true↔∀k,S k↔T k)->Q (.bool !c) s:=λc hc=>h _ (by cases c<;>simp_all)
 have Vq:=J;have qq:=C;obtain⟨xs,o,es,ep,t,X,hm,L,_⟩:=Vq;obtain⟨ys,o',qk,qv,t',Y,Z,u,_⟩:=qq;have h1:=X.size;have h2:=Y.size;have same:(∀k,S k↔T k)->n=m:=λe=>by
  have:(xs.map (·.1)).Perm (ys.map (·.1)):=(List.perm_ext_iff_of_nodup X.nod Y.nod).mpr λk=>by rw[<- hm k,<- Z k];exact e k
  have:=this.length_eq;simp at this;exact u_ (a_ (g_ L) (a_ (f_ this) (f_ u))) (a_ (g_ u) (a_ (g_ this) (f_ L)))
 have U:n=m->(∀k,S k->T k)->∀k,S k↔T k:=λe hs k=>⟨hs k,λhk=>(hm k).mpr (Vs X.nod (λk hk=>(Z k).mp (hs k ((hm k).mpr hk))) (by simp;exact a_ (f_ u) (a_ (g_ e) (g_ L))) k ((Z k).mp hk))⟩
 show wpAny _ _ (Builtin.Frozenset.slot1 "__ne__" ⟨[.ref a,.ref b],[]⟩ >>= _) _ _ _;unfold Builtin.Frozenset.slot1 slotArgs;simp only[List.isEmpty_nil,qw,cu,↓reduceIte,bind_assoc,gr,List.length_nil,ym];refine aa (aj ?_)
 try dsimp only
 refine aa (aj ?_)
 try dsimp only
 refine aa (bdc C.typeIs ?_);simp only[qw,cu,↓reduceIte];refine aa (m:=Builtin.Frozenset.addrOf (.ref a)) (aj ?_);refine aa (m:=Builtin.Frozenset.addrOf (.ref b)) (aj ?_);unfold Builtin.Frozenset.sizeOf;refine aa (aa (my X.get X.dat X.tab.fits (aj ?_)));refine aa (aa (my Y.get Y.dat Y.tab.fits (aj ?_)));refine aa ?_;split
 .rename_i y
  refine aj ?_;refine aj ⟨_,rfl,(λe=>nomatch e),fin false ?_⟩;simp only[cu,false_iff];intro e;have:=same e;simp at y;lia
 .rename_i y
  have G:n=m:=by simp at y;lia
  refine aa (aa (m8 J.typeIs sub_set_frozenset ?_));refine aj ?_;simp only[cu,↓reduceIte];refine azb hu J C λc hc=>?_
  exact aj ⟨_,rfl,(λe=>nomatch e),fin c (hc.trans ⟨λe=>U G e.2,λe=>⟨f_ G,λk=>(e k).mp⟩⟩)⟩
end
def Zo{prog:Program}{w:World}{A:Around}{U:Type}{Q:U->Shared->Prop}{E:Y1}{s:Shared}(R:A.handled=none)(q:∀Z x,(∀b o,s.heap.get? b=some o->Z.get? b=some o)->(∃o,Z.get? x=some o/\o.cls=.type "StopIteration")->E (.ref x) { s with heap:=Z }):wpAny (model prog w) A (newExc (.type "StopIteration") [] >>= raiseNew) Q E s:=by simp only[newExc,newTuple];refine aa (aa (qi (aa (m:=firstArgMember _ _) (wpAny_of_eq (a:=Value.none) (by first|rfl|(simp only[firstArgMember];rfl)) (qi ?_ (by size_fits)))) (by size_fits)));simp only[raiseNew];refine aa (wpAny_handled ?_);rw[R];exact aa (aj (wpAny_throw (q _ _ (λb o e=>ao _ (ao _ e)) ⟨_,bu _ rfl,rfl⟩)))
def as6(k:Yc t Z)(F:Fst t h N)(room:t.place.size+1<=t.mask) :
 layNew t Z h x=(insertAt Z (t.put (P t.mask h N).j).2 (h,x),(t.put (P t.mask h N).j).1,false,false):=by
 have e:t.freeSlot h=some ((P t.mask h N).j,false):=by
  unfold freeSlot probe;rw[abn];rcases al5 k F (λ_=>h+1) (10*turns t.mask) 0 (jr _) (by have:=F.lt;exact c_ C_ this) with⟨a,_⟩|⟨m,i,_,_,_,c,_⟩
  .rw[a];rfl
  .lia
 have f:=(k.put (x:=x) F room).fits;unfold layNew;rw[e];show(insertAt Z (t.put (P t.mask h N).j).2 (h,x),(t.put (P t.mask h N).j).1.orStandIn (insertAt Z (t.put (P t.mask h N).j).2 (h,x)).size,false,!(t.put (P t.mask h N).j).1.fits (insertAt Z (t.put (P t.mask h N).j).2 (h,x)).size)=_;unfold orStandIn;rw[cj f,f];rfl
def ajf(hm:Msk (sizeAbove wanted-1))(hz:es.size<=sizeAbove wanted-1) :
 ∃U t',relayAll t es wanted=(U,t',false)/\t'.mask=sizeAbove wanted-1/\Yc t' U/\U.toList.Perm es.toList/\t'.led=t.led/\t'.plain=t.plain:=by
 obtain⟨t',Z,e,e1,T',p,sz,hl,hp,_,R⟩:=agv hm t.finger (t.movedTo (sizeAbove wanted-1)) t.led t.plain es hz;have er:t.relaid (es.map (·.1)) wanted=some (t',Z):=e;refine⟨Z.filterMap (es[·]?),t',?_,e1,T',p,hl,hp⟩;unfold relayAll;rw[er];dsimp only;rw[cj];rw[aq];exact⟨by unfold coversAll;exact List.isPerm_iff.mpr R,T'.fits⟩
noncomputable def enI(x:Int×Tok):Int×Value:=(hashInt x.1,.int x.1 x.2)
structure J5(w:World)(h:Heap)(a:Addr)(xs:List (Int×Tok))(o:Obj)(es:Array (Int×Value))(ep:Nat)(t:SetTable):Prop where
 get:h.get? a=some o
 exa:o.ExactSet
 dat:o.data=.set es ep t
 tab:Yc t es
 ent:es.toList=xs.map enI
 nod:(xs.map (·.1)).Nodup
 led:t.led=!bt w
 pla:t.plain=true
def Bx(w:World)(h:Heap)(a:Addr)(S:Int->Prop)(n:Nat):Prop:=∃Z o U R t,J5 w h a Z o U R t/\(∀k,S k↔k∈Z.map (·.1))/\Z.length=n/\t.place.size*5<t.mask*3
theorem J5.size(X:J5 w h a U o Z R t):Z.size=U.length:=by have:=nq List.length X.ent;simpa using this
def J5.elems(X:J5 w h a xs o U R t):ElemsOf (intKind prog w) U.toList:=λe Z=>by rw[X.ent] at Z;obtain⟨x,_,rfl⟩:=bh.mp Z;exact⟨⟨x.1,by simp[enI,intKind,Value.isInt],rfl⟩,rfl⟩
def a6r(X:J5 w h a xs o es R t)(T':Yc t' Z)(he:Z.toList=U.map enI)(hn:(U.map (·.1)).Nodup)(hl:t'.led=!bt w)(hp:t'.plain=true) :
 J5 w (h.update a (Obj.putSet Z t')) a U { o with data:=.set Z (R+1) t' } Z (R+1) t':=by
 have hg:(h.update a (Obj.putSet Z t')).get? a=some { o with data:=.set Z (R+1) t' }:=by have:=jz (Obj.putSet Z t') X.get (by rw[putSet_of Z t' X.dat];rfl);rw[putSet_of Z t' X.dat] at this;exact this
 exact⟨hg,X.exa,rfl,T',he,hn,hl,hp⟩
theorem Bx.get(R:Bx w h a S n):∃o Z U t,h.get? a=some o/\o.ExactSet/\o.data=.set Z U t/\t.fits Z.size=true :=
 let ⟨_,o,Z,U,t,X,_⟩:=R;⟨o,Z,U,t,X.get,X.exa,X.dat,X.tab.fits⟩
theorem ae3:∀{a b:Xs},a.Nodup->(∀x∈a,x∈b)->a.length<=b.length
 |[],_,_,_=>jr _
 |x::a,b,h,s=>by
  obtain⟨U,R⟩:=qp.mp h;have:=ae3 (b:=b.erase x) R λy Z=>(Al (λe:y=x=>U (e▸Z))).mpr (s y (.tail _ Z))
  rw[List.length_erase_of_mem (s x (.head _))] at this;have:=List.length_pos_of_mem (s x (.head _));rw[gr];lia
def Bx.le(Z:Bx w h a S n){B:Xs}(hB:∀k,S k->k∈B):n<=B.length:=by obtain⟨xs,o,es,ep,t,X,R,rfl,_⟩:=Z;rw[<- du (f:=(·.1))];exact ae3 X.nod λk U=>hB k ((R k).mpr U)
def Bx.congr(Z:Bx w h a S n)(e:∀k,S k↔U k):Bx w h a U n :=
 let ⟨xs,o,es,ep,t,X,hm,r⟩:=Z;⟨xs,o,es,ep,t,X,λk=>(e k).symm.trans (hm k),r⟩
def Bx.moved(R:Bx w h a S n)(U:∀o,h.get? a=some o->Z.get? a=some o):Bx w Z a S n :=
 let ⟨xs,o,es,ep,t,X,r⟩:=R
 ⟨xs,o,es,ep,t,⟨U o X.get,X.exa,X.dat,X.tab,X.ent,X.nod,X.led,X.pla⟩,r⟩
def amk(Z:h.get? a=some (Aq w)):Bx w h a (λ_=>False) 0 :=
 ⟨[],Aq w,#[],0,_,⟨Z,⟨rfl,rfl,rfl⟩,rfl,⟨.inl rfl,rfl,rfl,λi j a b e=>by simp[SetTable.fresh] at e,λi j e=>by simp[SetTable.fresh] at e,by simp[SetTable.fresh],λi j e a=>by simp[SetTable.fresh] at a⟩,
  rfl,v8,rfl,rfl⟩,λk=>by simp,rfl,by simp[SetTable.fresh]⟩
def as7(hS:Bx w s.heap a S n)(hn:n+1<32)(h:∀h' n' b,Heap.SameBut a s.heap h'->Bx w h' a (λR=>S R\/R=k) n'->n'<=n+1->Q b { s with heap:=h' }) :
 wpAny (model prog w) A (setAddHashed a (.int k tk) (hashInt k)) Q E s:=by
 obtain⟨xs,o,U,ep,t,X,hm,hl,nf⟩:=hS;obtain⟨N,F⟩:=X.tab.fst (hashInt k);have zw:=X.size;have q1:=X.elems (prog:=prog);have zz:(intKind prog w).is k (.int k tk)=true:=by simp[intKind,Value.isInt]
 unfold setAddHashed setAddHashedIn;refine ik (aa (jy X.get X.dat X.tab.fits ?_));dsimp only;rw[byScan_of (knd:=intKind prog w) (x:=.int k tk) rfl (by unfold scanBound;lia) q1];simp only[↓reduceIte];unfold setAddByScan;refine aa ?_;refine aa (wpAny_rule ?_);refine aa (wpAny_setScan_of (knd:=intKind prog w) (k:=k) zz X.get X.dat X.tab.fits q1 ?_);cases hr:List.findIdx? (λe=>(intKind prog w).is k e.2) U.toList with
 |some j =>
  dsimp only;obtain⟨hj,z1,_⟩:=uv.mp hr;have z4:S k:=by
   obtain⟨x,hx,ex⟩:∃x∈xs,enI x=U.toList[j]:=by have Ib:=p8 hj;generalize U.toList[j]=e at Ib;rw[X.ent] at Ib;exact bh.mp Ib
   have q8:(intKind prog w).is k (enI x).2=true:=by rw[ex];exact z1
   refine(hm k).mpr (bh.mpr ⟨x,hx,?_⟩);have:(intKind prog w).is x.1 (enI x).2=true:=by simp[enI,intKind,Value.isInt]
   exact(intKind prog w).inj _ _ _ this q8
  refine aj (aj ?_);have:=h s.heap n false (w6 a s.heap) ⟨xs,o,U,ep,t,X,λR=>by
   rw[<- hm R];exact⟨λh=>h.elim id (λe=>e▸z4),.inl⟩,hl,nf⟩ x_
  exact this
 |none =>
  dsimp only;have z0:∀x∈xs,x.1≠k:=λx hx e=>by have:=yj.mp hr (enI x) (by rw[X.ent];exact bh.mpr ⟨x,hx,rfl⟩);subst e;simp[enI,intKind,Value.isInt] at this
  have room:t.place.size+1<=t.mask:=by have:=X.tab.msk;rcases this with e|e|e|e|e<;>lia
  have T':=X.tab.put (x:=.int k tk) F room;rw[as6 X.tab F room];have Hy:(t.put (P t.mask (hashInt k) N).j).1.plain=true:=X.pla;have q7:(t.put (P t.mask (hashInt k) N).j).1.led=!bt w:=X.led;obtain⟨qk,ex,px⟩:=Dq (f:=enI) (insertAt_perm U (t.put (P t.mask (hashInt k) N).j).2 (hashInt k,.int k tk)) (xs:=xs++[(k,tk)]) (by rw[Array.toList_push,X.ent,kj];rfl);have pm:=px.map (·.1);have q6:(qk.map (·.1)).Nodup:=pm.nodup_iff.mpr (by
   rw[kj,m9];refine⟨X.nod,by simp,λa ha b hb=>?_⟩;simp at hb;subst hb;rintro rfl;obtain⟨x,hx,e⟩:=bh.mp ha;exact z0 x hx e)
  have hX:=a6r X T' ex q6 q7 Hy;have Ib:∀R,(S R\/R=k)↔R∈qk.map (·.1):=λR=>by rw[pm.mem_iff,kj,bx,hm R];simp
  have qv:qk.length=n+1:=by rw[px.length_eq];simp[hl]
  have qq:(insertAt U (t.put (P t.mask (hashInt k) N).j).2 (hashInt k,Value.int k tk)).size=U.size+1:=Lw _ _ _;have q5:(t.put (P t.mask (hashInt k) N).j).1.place.size=U.size+1:=by rw[T'.Yd,qq]
  have hf:(t.put (P t.mask (hashInt k) N).j).1.fill=U.size+1:=by unfold fill;rw[q5,T'.dum];rfl
  generalize insertAt U (t.put (P t.mask (hashInt k) N).j).2 (hashInt k,Value.int k tk)=es1 at *;generalize(t.put (P t.mask (hashInt k) N).j).1=t1 at *;dsimp only;refine aa (aj ?_);rw[Hy];simp only[j5];refine aa ?_;rw[hashByValue_scannable 8 (x:=.int k tk) rfl];refine aj ?_;have zk:plainKind (.int k tk)=true:=rfl;simp only[zk,j5];refine aa (wpAny_storeSet_of X.get X.dat ?_ (Jh (by lia)))
  by_cases Z:t1.tooFull=true
  .rw[Z]
   simp only[yu,Bool.and_self,j5];obtain⟨g1,g2,g3,g4,g5⟩:=Yg (U.size+1) (c_ (v_ (f_ zw)) (c_ (v_ (f_ hl)) hn));obtain⟨q3,t2,e2,m2,T2,p2,l2,q2⟩:=ajf (t:=t1) (es:=es1) (wanted:=grown (U.size+1)) g1 (a_ (f_ qq) g2);rw[qq,e2];dsimp only;refine aa (aj ?_);obtain⟨zv,z3,q0⟩:=Dq p2 ex;have z2:=a6r hX T2 z3 ((q0.map _).nodup_iff.mpr q6) (l2.trans q7) (q2.trans Hy);have q4:q3.size=U.size+1:=by have:=p2.length_eq;simp at this;exact this.trans qq
   refine aa (wpAny_storeSet_of hX.get rfl ?_ (Jh (a_ (f_ q4) (a_ g2 (a_ C_ g5)))));refine aj (aj (h _ (n+1) true ((ir s.heap a _).trans (ir _ a _)) ⟨zv,_,q3,_,t2,z2,λR=>?_,by rw[q0.length_eq,qv],?_⟩ (bc _)))
   .exact(Ib R).trans (q0.map (·.1)).mem_iff.symm
   .rw[T2.Yd,m2,q4];exact t_ g4
  .rw[Bool.not_eq_true] at Z
   rw[Z];simp only[Bool.and_false,cu,jd];refine aj (aj (h _ (n+1) true (ir s.heap a _) ⟨qk,_,_,_,_,hX,Ib,qv,?_⟩ (bc _)));unfold tooFull at Z;rw[hf] at Z;rw[q5];simp at Z;exact Z
def aml{I:Addr}{P:Nat->Value->Prop}(W:WalksS prog w A.in1 I fp wr G n P St)(a:Addr)(q0:a∉fp)(U:Xs)(qk:U.length=n)(q4:∀i v x,P i v->U[i]?=some x->∃tk,v=.int x tk){B:Xs}(hB:∀k∈U,k∈B)(hb:B.length<31) :
 ∀(k i n':Nat)(s:Shared),n-i=k->i<=n->St i s ->
  Bx w s.heap a (λk'=>k'∈U.take i) n'->n'<=B.length ->
  (∀Z q1,Moved (a::wr) G s Z->Bx w Z.heap a (λk'=>k'∈U) q1->q1<=B.length->R (.ok (.ret .none)) Z) ->
  codeAny (model prog w) A (.builtin "set.update.loop" ⟨[.ref a,.ref I],[]⟩) R s:=by
 have qq:a∉wr:=λh=>q0 (W.sub _ h)
 have Oq:∀b∈wr,b∈a::wr:=λb hb=>bf _ hb
 intro k
 induction k with
 |zero =>
  intro i n' s hk hi Us hS Oo hR;have Vn:i=n:=by lia
  subst Vn;refine o4 su ?_;rw[km m5 _];show wpAny _ A.in1 (pyNext (.ref I) >>= _) _ _ s;refine aa (W.done s _ _ Us λZ hm=>?_);show wpAny _ A.in1 (ret Value.none) _ _ Z;refine aj (hR Z n' (hm.mono Oq) ((hS.moved λo=>hm.heap a o qq).congr λk=>?_) Oo);rw[zu (f_ qk)]
 |succ k ih =>
  intro i n' s hk hi Us hS Oo hR;have J1:i<n:=by lia
  refine o4 su ?_;rw[km m5 _];show wpAny _ A.in1 (pyNext (.ref I) >>= _) _ _ s;refine aa (W.item i s _ _ J1 Us λv Z hP q8 hm=>?_);have lx:i<U.length:=b_ J1 (g_ qk)
  have q2:U[i]?=some U[i]:=by simp[lx]
  obtain⟨tk,rfl⟩:=q4 i v _ hP q2;have Vq:=hS.moved λo=>hm.heap a o qq
  show wpAny _ A.in1 (holding [Value.int U[i] tk] (setAdd a (.int U[i] tk)) >>= _) _ _ Z;refine aa (ik ?_);unfold setAdd;refine ik ?_;refine aa (wpAny_pyHash_int ?_);refine as7 (s:={ Z with toks:=Z.toks+1 }) Vq (by lia) λh' n2 b q3 q6 Yh=>?_
  have qv:Bx w h' a (λk=>k∈U.take (i+1)) n2:=q6.congr λk=>by rw[List.take_add_one,bx,q2];simp
  refine aj ⟨plainId_quiet m5 _,ih (i+1) n2 _ (by lia) J1 (W.frame _ Z _ _ q8 (yf _ _) λb hb o e=>?_) qv (qv.le λk hk=>hB k (List.mem_of_mem_take hk)) λq5 n3 q7 zz zk=>?_⟩
  .rw[q3.2 b (λh:b=a=>q0 (by rw[<- h];exact hb))];exact e
  .refine hR q5 n3 (Moved.trans W.gtrans ((hm.mono Oq).then_heap (yf _ _) λb o hb e=>?_) q7) zz zk
   rw[q3.2 b (λh:b=a=>hb (by rw[h];exact cz))];exact e
def as8{id T:String}{io lo:Obj}{Z:U1}{St:Nat->Heap->Prop}(hS:Bx w s.heap a (λ_=>False) 0)(R:s.heap.get? l=some lo)(hc:lo.cls=.type T)(q5:∀es ep t,lo.data≠.set es ep t)(n1:isSubtype (.type T) (.type "set")=pure false)(n2:isSubtype (.type T) (.type "frozenset")=pure false)(nd:(Value.type T==.type "dict")=false)
 (hi:∀{Q:Y1},Q (.ref s.heap.objs.size) { s with heap:=s.heap.push io }->wpAny (model prog w) A (pyIter (.ref l)) Q E s) (W:l≠s.heap.objs.size->Walks prog w A.in1 s.heap.objs.size [s.heap.objs.size,l] [s.heap.objs.size] Z.size (λi v=>Z[i]?=some v) St) (h0:St 0 (s.heap.push io))
 (qq:PyProof.Rows.IntsAre Z.toList ks) {B:Xs} (hB:∀k∈ks,k∈B) (qk:B.length<31) (h:∀h' tk n',(∀b o,b≠a->s.heap.get? b=some o->h'.get? b=some o)->Bx w h' a (λk=>k∈ks) n'->n'<=B.length->Q () { s with heap:=h',toks:=tk }) :
 wpAny (model prog w) A (Builtin.Frozenset.updateFrom id a (.ref l)) Q E s:=by
 have hT:s.TypeIs (.ref l) T:=⟨lo,R,hc⟩;have q1:Z.size=ks.length:=by rw[<- u5];exact PyProof.Rows.IntsAre.length qq
 obtain⟨oa,zv,zw,ta,U,zz,q2,zk⟩:=hS.get;unfold Builtin.Frozenset.updateFrom;refine aa (Gy hT n1 n2 ?_);simp only[cu,jd];refine aa (ur hT ?_);rw[bw (by rw[nd];simp)];refine aa (hi ?_);refine aa (wpAny_runValue ?_);have J1:l<s.heap.objs.size:=az R
 have q0:a<s.heap.objs.size:=az U
 have qv:l≠a:=by rintro rfl;rw[R] at U;cases U;exact q5 _ _ _ q2
 have q3:a∉[s.heap.objs.size,l]:=by simp only[bz,yd,or_false,not_or];exact⟨gf q0,λe=>qv e.symm⟩
 have keep:∀b o,s.heap.get? b=some o->(s.heap.push io).get? b=some o:=λb o e=>ao _ e
 refine aml ((W (gf J1)).toS) a q3 ks q1.symm (λi v x hv hx=>?_) hB qk Z.size 0 0 _ rfl (jr _)
  h0 ?_ (jr _) ?_
 .obtain⟨tk,e⟩:=PyProof.Rows.IntsAre.int_at qq i v (by rw[ou];exact hv)
  rw[fc,hx] at e;exact⟨tk,e⟩
 .refine(hS.moved λo e=>keep a o e).congr λk=>by simp
 .intro s' q4 hm Vq q6
  obtain⟨h',g',d',q7,q8⟩:=s';have eg:g'=s.gens:=hm.gens;have ed:d'=s.drawn:=hm.drawn;have eo:q8=s.os:=hm.os;subst eg;subst ed;subst eo;show wpAny _ _ _ _ _ _;refine aj (h h' q7 q4 (λb o hb e=>?_) Vq q6);refine hm.heap b o ?_ (keep b o e);simp only[bz,yd,or_false,not_or];exact⟨hb,gf (az e)⟩
def ajg{id:String}(hh:A.handled=none)(hS:Bx w s.heap a (λ_=>False) 0)(U:s.heap.IsList l items)(qq:PyProof.Rows.IntsAre items.toList ks){B:Xs}(hB:∀k∈ks,k∈B)(Z:B.length<31)(h:∀h' tk n',(∀b o,b≠a->s.heap.get? b=some o->h'.get? b=some o)->Bx w h' a (λk=>k∈ks) n'->n'<=B.length->Q () { s with heap:=h',toks:=tk }) :
 wpAny (model prog w) A (Builtin.Frozenset.updateFrom id a (.ref l)) Q E s:=by
 have R:=U;obtain⟨o,ho,hc,n,hd⟩:=R;exact as8 hS ho hc (λ_ _ _ z=>by rw[hd] at z;cases z) F.sub_list_set F.sub_list_frozenset (by decide) (wpAny_pyIter_list U) (λne=>Walks.list (by simp[hh]) _ l ne items) ⟨⟨_,bu _ rfl,rfl,rfl⟩,U.push _⟩ qq hB Z h
def ajh(hh:A.handled=none)(hl:s.heap.IsList l items)(qk:PyProof.Rows.IntsAre items.toList ks){B:Xs}(hB:∀k∈ks,k∈B)(qq:B.length<31)(h:∀Z tk U,(∀b o,s.heap.get? b=some o->Z.get? b=some o)->Bx w Z s.heap.objs.size (λk=>k∈ks) U->U<=B.length->Q (.ref s.heap.objs.size) { s with heap:=Z,toks:=tk }) :
 wpAny (model prog w) A (call (.type "set") [.ref l]) Q E s:=by
 refine Lx (R:=λs'=>∃Z tk U,s'={ s with heap:=Z,toks:=tk }/\(∀b o,s.heap.get? b=some o->Z.get? b=some o)/\Bx w Z s.heap.objs.size (λk=>k∈ks) U/\U<=B.length)
  (ajg (s:={ s with heap:=s.heap.push (Aq w) }) (by simp[hh]) (amk (bu _ rfl)) (hl.push _) qk hB qq λZ tk U hk Vq Oo=>⟨Z,tk,U,rfl,λb o e=>hk b o (gf (az e)) (ao _ e),Vq,Oo⟩)
  λs' ⟨Z,tk,U,e,hk,Vq,Oo⟩=>by subst e;exact h Z tk U hk Vq Oo
def Vt:entryFor table "set.__iter__" = some Builtin.«frozenset.__iter__» :=
 entryFor_alias (id' := "frozenset.__iter__") (by kernel_rfl) rfl (by decide+kernel) (by kernel_rfl)
def Bg:Slot "set_iterator" "__next__" "set_iterator.__next__" :=
 .of (owner := "set_iterator") (n := "__next__") (by rw[typeLookup_type,builtinLookup_eq_fast];kernel_rfl) (by decide+kernel) (by decide+kernel) (by decide+kernel)
  (by first|exact .inl (by decide+kernel)|exact .inr (by decide+kernel)) (by rw[isSubtype_type];kernel_rfl)
def Kz:Slot "set_iterator" "__iter__" "set_iterator.__iter__" :=
 .of (owner := "set_iterator") (n := "__iter__") (by rw[typeLookup_type,builtinLookup_eq_fast];kernel_rfl) (by decide+kernel) (by decide+kernel) (by decide+kernel)
  (by first|exact .inl (by decide+kernel)|exact .inr (by decide+kernel)) (by rw[isSubtype_type];kernel_rfl)
def Ji:entryFor table "set_iterator.__next__" = some Builtin.«set_iterator.__next__»:=entryFor_of_fast (by kernel_rfl)
def Rt:entryFor table "set_iterator.__iter__" = some Builtin.«dict_keyiterator.__iter__» :=
 entryFor_alias (id' := "dict_keyiterator.__iter__") (by kernel_rfl) rfl (by decide+kernel) (by kernel_rfl)
def K1(a:Value):argsOk "set_iterator.__next__" ⟨[a],[]⟩:=by unfold argsOk;kernel_rfl
def Ut(a:Value):argsOk "set_iterator.__iter__" ⟨[a],[]⟩:=by unfold argsOk;kernel_rfl
def ae4(hs:Srt Z):below Z 0=0:=by
 obtain⟨U,R,h3⟩:=Eo (j:=0) hs;rcases Nat.eq_zero_or_pos (below Z 0) with e|e
 .exact e
 .have l:0<Z.size:=b_ e U
  have:=R 0 Z[0] (by simp[l]) e
  lia
def ae5(R:Srt Z)(h:Z[i]?=some j):below Z (j+1)=i+1:=by
 obtain⟨h1,h2,h3⟩:=Eo (j:=j+1) R;have a1:i<below Z (j+1):=by
  rcases xj i (below Z (j+1)) with l|l
  .exact l
  .have:=h3 i j h l;lia
 have a2:¬i+1<below Z (j+1):=λl=>by
  have l2:i+1<Z.size:=b_ l h1
  have U:Z[i+1]?=some Z[i+1]:=by simp[l2]
  have:=h2 (i+1) _ U l;have:=R i (i+1) j _ h U B_
  lia
 exact u_ (s_ a2) a1
noncomputable def wkN(w:World)(a:Addr)(Z:Array (Int×Value))(U:Nat):Array (Int×Value):=if bt w then pickOrder (w.params.setOrder a U) Z else Z
def abu:(wkN w a es ep).toList.Perm es.toList:=by
 unfold wkN;split
 .exact Yi _ _
 .exact yw _
def Vu:(wkN w a Z U).size=Z.size:=by have:=(abu (w:=w) (a:=a) (es:=Z) (ep:=U)).length_eq;simpa using this
noncomputable def itN(a:Addr)(Z i n U:Nat):Obj:={ cls:=.type "set_iterator",data:=.fields #[.int Z 0,.int i 0,.ref a,.int n 0,.int U 0] }
set_option tactic.hygienic true in
def axx(X:J5 w s.heap a xs o es Y t){Z:Nat}(y:bt w=false->below t.place Z=i)(R:∀e C,(wkN w a es Y)[i]?=some e->(bt w=false->below t.place C=i+1)->Q (some (e.2,C)) s)(L:(wkN w a es Y)[i]?=none->Q none s) :
 wpAny (model prog w) A (setNext a Z i Y) Q E s:=by
 unfold setNext;refine aa (jy X.get X.dat X.tab.fits ?_);dsimp only;refine aa (U5 ?_);cases hbt:bt w with
 |true =>
  simp only[j5,ym,cu,jd];refine aa ?_;unfold setWalk;refine aa (jy X.get X.dat X.tab.fits ?_);dsimp only;refine aa (U5 ?_);rw[hbt];simp only[j5];refine aa (wpAny_askSetting (aj (aj ?_)));have G:wkN w a es Y=pickOrder (w.params.setOrder a Y) es:=by unfold wkN;rw[hbt];rfl
  show Q (((pickOrder (w.params.setOrder a Y) es)[i]?).map _) s;rw[<- G];cases hg:(wkN w a es Y)[i]? with
  |none=>exact L hg|some e=>exact R e Z hg (λc=>by rw[hbt] at c;cases c)
 |false =>
  have G:wkN w a es Y=es:=by unfold wkN;rw[hbt];rfl
  simp only[cu,jd];split
  .rename_i J
   have J:(!t.plain&&decide (es.size > 1))=true:=J;rw[X.pla] at J;cases J
  .refine aa ?_
   have fin:Q (match es[below t.place Z]?,t.place[below t.place Z]? with|some (_,x),some j=>some (x,j+1)|_,_=>none) s:=by
    rw[y hbt];cases hg:es[i]? with
    |none=>exact L (by rw[G];exact hg)
    |some e =>
     have S:i<t.place.size:=by rw[X.tab.Yd];exact(jo.mp hg).1
     have U:t.place[i]?=some t.place[i]:=by simp[S]
     rw[U];exact R e _ (by rw[G];exact hg) (λ_=>ae5 X.tab.srt U)
   have:wpAny (model prog w) A (if(!t.led&&!es.isEmpty)=true then unsupported "set:maker-not-led" else pure ()) (λ_ u=>wpAny (model prog w) A (pure (match es[below t.place Z]?,t.place[below t.place Z]? with|some (_,x),some j=>some (x,j+1)|_,_=>none)) Q E u) E s:=by rw[X.led,hbt];simp only[yu,qw,Bool.false_and,cu,jd];exact aj (aj fin)
   exact this
set_option tactic.hygienic true in
def amm{I:Addr}(X:J5 w s.heap a xs o R J t){Z:Nat}(u:s.heap.get? I=some (itN a Z i R.size J))(hb:bt w=false->below t.place Z=i)(G:(wkN w a R J)[i]?=some e)(hQ:∀U Y,U.get? I=some (itN a Y (i+1) R.size J)->(bt w=false->below t.place Y=i+1)->Heap.SameBut I s.heap U->Q (some e.2) { s with heap:=U }) :
 wpAny (model prog w) A (pyNext (.ref I)) Q E s:=by
 have hT:s.TypeIs (.ref I) "set_iterator" := ⟨_,u,rfl⟩;unfold pyNext;refine aa (vf (j4 (name:=Str.ofString "__next__") hT Bg
  (jc Bg hT Ji ?_ (K1 _))))
 unfold Builtin.«set_iterator.__next__»;refine aa (m:=slotArgs "__next__" 0 _) (aj ?_);refine aa (wpAny_fieldsOf u rfl ?_);show wpAny _ _ (setEntries a >>= _) _ _ s;refine aa (my X.get X.dat X.tab.fits ?_);rw[ym];simp only[cu,jd];show wpAny _ _ (setNext a Z i J >>= _) _ _ s;refine aa (axx X hb (λe' Y S C=>?_) (λhn=>by rw[hn] at G;cases G));rw[S] at G;cases G;dsimp only;refine aa (jf u (by simp) λh1 g1 L=>?_);refine aa (jf (s:={ s with heap:=h1 }) g1 (by simp) λh2 g2 y=>?_);exact aj ⟨_,rfl,aj (hQ h2 Y (by rw[g2];rfl) C (L.trans y))⟩
set_option tactic.hygienic true in
def as9{I:Addr}(hh:A.handled=none)(X:J5 w s.heap a xs o R G t){Z:Nat}(C:s.heap.get? I=some (itN a Z i R.size G))(hb:bt w=false->below t.place Z=i)(L:(wkN w a R G)[i]?=none)(hQ:∀Y,Heap.ExtBut I s.heap Y->Q none { s with heap:=Y }) :
 wpAny (model prog w) A (pyNext (.ref I)) Q E s:=by
 have S:s.TypeIs (.ref I) "set_iterator" := ⟨_,C,rfl⟩;unfold pyNext;refine aa (vf (j4 (name:=Str.ofString "__next__") S Bg
  (jc Bg S Ji ?_ (K1 _))))
 unfold Builtin.«set_iterator.__next__»;refine aa (m:=slotArgs "__next__" 0 _) (aj ?_);refine aa (wpAny_fieldsOf C rfl ?_);show wpAny _ _ (setEntries a >>= _) _ _ s;refine aa (my X.get X.dat X.tab.fits ?_);rw[ym];simp only[cu,jd];show wpAny _ _ (setNext a Z i G >>= _) _ _ s;refine aa (axx X hb (λe' sl U u=>by rw[U] at L;cases L) (λhn=>?_));dsimp only;refine aa (jf C (by simp) λh1 g1 J=>?_);show wpAny _ _ (newExc (.type "StopIteration") [] >>= _) _ _ _;refine Zo (show A.in1.handled=none from hh) λY x k z_=>?_
 obtain⟨o,e1,y⟩:=z_;exact aa (m8 (T := "StopIteration") (b:=true) ⟨o,e1,y⟩ isSubtype_stop (aj (hQ _ λb o n z=>k b o (J.extBut b o n z))))
def ItS(w:World)(a I:Addr)(xs:List (Int×Tok))(o:Obj)(U:Array (Int×Value))(R:Nat)(t:SetTable)(i:Nat)(h:Heap):Prop :=
 J5 w h a xs o U R t/\∃Z,h.get? I=some (itN a Z i U.size R)/\(bt w=false->below t.place Z=i)
def J5.at(X:J5 w h a xs o U R t)(e:Z.get? a=some o):J5 w Z a xs o U R t:=⟨e,X.exa,X.dat,X.tab,X.ent,X.nod,X.led,X.pla⟩
theorem Walks.bdl{I:Addr}(hh:A.handled=none)(Xn:a≠I)(xs:List (Int×Tok))(o:Obj)(R:Array (Int×Value))(ep:Nat)(t:SetTable) :
 Walks prog w A I [I,a] [I] R.size (λi v=>((wkN w a R ep)[i]?).map (·.2)=some v) (ItS w a I xs o R ep t) where
 sub:=λb Z=>by simp at Z;simp[Z]
 frame:=λ_ _ _ st hk=>⟨st.1.at (hk a (by simp) o st.1.get),let ⟨sl,e,r⟩:=st.2;⟨sl,hk I (by simp) _ e,r⟩⟩
 item:=λi s Q E hi st hQ=>by
  obtain⟨X,U,hI,Z⟩:=st;have he:(wkN w a R ep)[i]?=some ((wkN w a R ep)[i]'(by rw[Vu];exact hi)):=by simp[Vu,hi]
  refine amm X hI Z he λh' sl g r sb=>hQ _ h' s.toks (by rw[he];rfl) ⟨X.at ((sb.2 a Xn).trans X.get),sl,g,r⟩ λb o Z e=>(sb.2 b (λh=>Z (by simp[h]))).trans e
 done:=λs Q E st hQ=>by obtain⟨X,U,hI,Z⟩:=st;exact as9 hh X hI Z (by simp[Vu]) λh' qq=>hQ h' s.toks λb o Z e=>qq b o (λh=>Z (by simp[h])) e
 self:=λ_ s _ _ st hQ=>by obtain⟨X,U,hI,Z⟩:=st;have hT:s.TypeIs (.ref I) "set_iterator" := ⟨_,hI,rfl⟩;refine wpAny_pyIter_slot hT Kz (jc Kz hT Rt ?_ (Ut _));show wpAny _ _ (ret (.ref I)) _ _ s;exact aj ⟨_,rfl, "set_iterator",_,hT,Bg.lookup,hQ⟩
def a6u(X:J5 w s.heap a xs o Z ep t)(hQ:Q (.ref s.heap.objs.size) { s with heap:=s.heap.push (itN a 0 0 Z.size ep) }):wpAny (model prog w) A (pyIter (.ref a)) Q E s:=by
 have U:s.TypeIs (.ref a) "set" := ⟨o,X.get,X.exa.1⟩;refine wpAny_pyIter_slot U F.slot_set_iter (jc F.slot_set_iter U Vt ?_ (F.args_set_iter_1 _));unfold Builtin.«frozenset.__iter__» Builtin.Frozenset.slot0 slotArgs;simp only[List.isEmpty_nil,qw,cu,↓reduceIte,bind_assoc,List.length_nil,ym];unfold Builtin.Frozenset.addrOf Builtin.Frozenset.sizeOf;refine aa (aj ?_)
 try dsimp only
 refine aa (aj ?_);refine aa (aa (my X.get X.dat X.tab.fits (aj ?_)));refine aa ?_;unfold setDrawn;refine aa (jy X.get X.dat X.tab.fits ?_);dsimp only;refine aa (U5 (aj ?_));have R:(!bt w&&(!t.plain&&decide (Z.size > 1)))=false:=by rw[X.pla];simp
 show wpAny _ _ (if(!bt w&&(!t.plain&&decide (Z.size > 1)))=true then _ else _) _ _ s;rw[R];simp only[cu,jd];refine aa (aj (aa (wpAny_setEpoch_of X.get X.dat X.tab.fits ?_)));exact aa (qi (aj ⟨_,rfl, "set_iterator",_,⟨_,bu _ rfl,rfl⟩,Bg.lookup,hQ⟩))
def a6v(Z:s.TypeIs (.ref a) "set")(h:Q false s):wpAny (model prog w) A (Builtin.List.listLengthHint (.ref a)) Q E s:=by
 unfold Builtin.List.listLengthHint;refine aa (wpAny_specialOf Z F.slot_set_len.lookup ?_)
 (generalize hid:("set.__len__" : String)=id0;(fail_if_success (clear hid id0));wp_delta;rw[show splitId id0=some ("set", "__len__") from by subst hid;decide+kernel];subst hid)
 refine aa (m8 (b:=true) Z sub_set_self ?_);refine aa (ur Z ?_);exact aj h
def amn(hh:A.handled=none)(X:J5 w s.heap a xs o Z U t)(hz:Z.size<=sizeLine)(h:∀h' tk q2,(∀b o,s.heap.get? b=some o->h'.get? b=some o)->s.heap.objs.size<=h'.objs.size->ItemsOf (λi v=>((wkN w a Z U)[i]?).map (·.2)=some v) q2 Z.size->Q q2.toList { s with heap:=h',toks:=tk }) :
 wpAny (model prog w) A (collect (.ref a)) Q E s:=by
 have J1:a<s.heap.objs.size:=az X.get
 have qv:s.heap.objs.size≠a:=vm J1;unfold collect;refine aa (wpAny_runValue (o4 F.entry_proto_collect ?_));rw[km F.plain_proto_collect _];show wpAny _ A.in1 (newList [] >>= λl=>again (.builtin "list.__iadd__" ⟨[l,.ref a],[]⟩)) _ _ s;refine aa (qi ?_);refine aj ⟨plainId_quiet F.plain_list_iadd _,o4 F.entry_list_iadd ?_⟩;rw[km F.plain_list_iadd _];have X1:J5 w (s.heap.push { cls:=.type "list",data:=.seq ([]:Zl).toArray }) a xs o Z U t:=X.at (ao _ X.get);have q4:Shared.TypeIs { s with heap:=s.heap.push { cls:=.type "list",data:=.seq ([]:Zl).toArray } } (.ref a) "set" := ⟨o,X1.get,X1.exa.1⟩;have h1:Builtin.List.listSameRef (.ref s.heap.objs.size) (.ref a)=false:=by simp[Builtin.List.listSameRef,qv]
 show wpAny _ A.in1 (Builtin.List.listExtendWith (.ref s.heap.objs.size) (.ref a) (.ref s.heap.objs.size)) _ _ _;unfold Builtin.List.listExtendWith;refine aa (ur q4 ?_);rw[bw (by rw[h1];decide)];refine aa (a6u (s:={ s with heap:=s.heap.push { cls:=.type "list",data:=.seq ([]:Zl).toArray } }) X1 ?_);have q1:(s.heap.push { cls:=.type "list",data:=.seq ([]:Zl).toArray }).objs.size=s.heap.objs.size+1:=iz ..;show wpAny _ A.in1 (holding [.ref (s.heap.push { cls:=.type "list",data:=.seq ([]:Zl).toArray }).objs.size] (Builtin.List.listLengthHint (.ref a)) >>= _) _ _ { s with heap:=(s.heap.push { cls:=.type "list",data:=.seq ([]:Zl).toArray }).push (itN a 0 0 Z.size U) };have gI:((s.heap.push { cls:=.type "list",data:=.seq ([]:Zl).toArray }).push (itN a 0 0 Z.size U)).get? (s.heap.push { cls:=.type "list",data:=.seq ([]:Zl).toArray }).objs.size=some (itN a 0 0 Z.size U):=bu _ rfl;have gS:((s.heap.push { cls:=.type "list",data:=.seq ([]:Zl).toArray }).push (itN a 0 0 Z.size U)).get? s.heap.objs.size=some { cls:=.type "list",data:=.seq ([]:Zl).toArray }:=ao _ (bu _ rfl);have qq:∀b o,s.heap.get? b=some o->((s.heap.push { cls:=.type "list",data:=.seq ([]:Zl).toArray }).push (itN a 0 0 Z.size U)).get? b=some o:=λb o e=>ao _ (ao _ e)
 have q7:s.heap.objs.size<=((s.heap.push { cls:=.type "list",data:=.seq ([]:Zl).toArray }).push (itN a 0 0 Z.size U)).objs.size:=by rw[iz,q1];exact a_ x_ x_
 generalize(s.heap.push { cls:=.type "list",data:=.seq ([]:Zl).toArray }).push (itN a 0 0 Z.size U)=hp at *;rw[q1] at gI ⊢;have X2:J5 w hp a xs o Z U t:=X.at (qq a o X.get);refine aa (ik (a6v ⟨o,X2.get,X2.exa.1⟩ ?_));rw[cj (by decide+kernel)];refine aa (wpAny_rule ?_);refine aa ?_;show wpAny _ A.in1 (updateSeq s.heap.objs.size (·.push .none) >>= λ_=>updateSeq s.heap.objs.size (·.pop)) _ _ _;refine aa (wpAny_updateSeq gS rfl ?_);have R:=jz (Obj.mapSeq (·.push Value.none)) gS rfl;refine wpAny_updateSeq (hz:=by seq_fits) R rfl ?_;have q0:=jz (Obj.mapSeq (·.pop)) R rfl;have qk:∀b o,b≠s.heap.objs.size->hp.get? b=some o->((hp.update s.heap.objs.size (Obj.mapSeq (·.push Value.none))).update s.heap.objs.size (Obj.mapSeq (·.pop))).get? b=some o :=
  λb o hb e=>(wu _ _ (ji hb)).trans ((wu _ _ (ji hb)).trans e)
 have q8:((hp.update s.heap.objs.size (Obj.mapSeq (·.push Value.none))).update s.heap.objs.size (Obj.mapSeq (·.pop))).objs.size=hp.objs.size:=by rw[Heap.size_update,Heap.size_update]
 generalize(hp.update s.heap.objs.size (Obj.mapSeq (·.push Value.none))).update s.heap.objs.size (Obj.mapSeq (·.pop))=h3 at *;have W:=(Walks.bdl (prog:=prog) (w:=w) (A:=A.in1) (I:=s.heap.objs.size+1) (a:=a) hh (gf (qg J1)) xs o Z U t).toS;refine aj ⟨plainId_quiet F.plain_extend_loop _,codeAny_extend_loopS W hz _ (by simp only[bz,yd,or_false,not_or];exact⟨gf (qd _),qv⟩) _ Z.size 0 _ _ _ rfl (jr _)
  ⟨X.at (qk a o (ji qv) (qq a o X.get)),0,qk _ _ (vm (qd _)) gI,λ_=>ae4 X.tab.srt⟩ q0 (ItemsOf.nil _) λs' q3 c' hm Vq Ep=>?_⟩
 show wpAny _ A (load s.heap.objs.size >>= _) _ _ s';refine aa (wpAny_load Vq ?_);obtain⟨h',g',d',q5,q6⟩:=s';have eg:g'=s.gens:=hm.gens;have ed:d'=s.drawn:=hm.drawn;have eo:q6=s.os:=hm.os;subst eg;subst ed;subst eo;refine aj (h h' q5 q3 (λb o e=>?_) ?_ Ep)
 .have hb:=az e
  exact hm.heap b o (by simp only[bz,yd,or_false,not_or];exact⟨gf hb,gf (qg hb)⟩) (qk b o (gf hb) (qq b o e))
 .have:=az Vq
  exact t7 this
def ae6{s:Shared}(X:J5 w s.heap a xs o Z ep t)(Ep:ItemsOf (λi v=>((wkN w a Z ep)[i]?).map (·.2)=some v) acc Z.size) :
 ∃ns:List Int,PyProof.Rows.IntsAre acc.toList ns/\ns.Perm (xs.map (·.1)):=by
 obtain⟨U,ey,py⟩:=Dq (f:=enI) (abu (w:=w) (a:=a) (es:=Z) (ep:=ep)) X.ent;have e1:acc.toList=U.map λy=>Value.int y.1 y.2:=by
  apply wy;intro i;have hz:acc.toList.length=Z.size:=by simpa using Ep.1
  have hy:U.length=Z.size:=by rw[py.length_eq,<- X.size]
  by_cases R:i<Z.size
  .have e2:acc.toList[i]?=some (acc.toList[i]'(b_ R (g_ hz))):=by simp[hz,R]
   have e3:=Ep.2 i _ (by rw[<- ou];exact e2);rw[e2,<- e3,<- ou,ey,iw,iw];cases U[i]?<;>rfl
  .rw[lz (a_ (f_ hz) (s_ R)),lz (by simp;exact a_ (f_ hy) (s_ R))]
 refine⟨U.map (·.1),?_,py.map _⟩;rw[e1];clear e1 py ey Ep
 induction U with
 |nil=>exact .nil|cons y U ih=>exact .cons _ _ ih
def abv(hh:A.handled=none)(hS:Bx w s.heap a S n)(hn:n<31)(h:∀(h':Heap) (tk:Nat) (p:Addr) (out:U1) (ns:Xs),(∀b o,s.heap.get? b=some o->h'.get? b=some o)->s.heap.objs.size<=p->PyProof.Rows.IntsAre out.toList ns->ns.Pairwise (·<=·)->ns.Nodup->(∀k,S k↔k∈ns) ->
 (∃c,h'.get? p=some (PyProof.Rows.seqObj "list" out c))->Q (.ref p) { s with heap:=h',toks:=tk }) :
 wpAny (model prog w) A (call (.builtin "sorted") [.ref a]) Q E s:=by
 obtain⟨xs,o,es,ep,t,X,hm,hl,nf⟩:=hS;have R:=X.size;refine Calls.call_function_entry PyProof.Rows.kind_sorted PyProof.Rows.plain_sorted PyProof.Rows.entry_sorted (PyProof.Rows.args_sorted1 _) ?_;unfold Builtin.«sorted»;refine aa (m:=checkCount "sorted" 1 1 _) (aj ?_);refine aa (amn (by simpa using hh) X (by rw[o8];exact e_ (c_ (f_ R) (c_ (f_ hl) (b_ hn (by decide))))) λh1 tk Z keep q0 Ep=>?_);obtain⟨ns,hI,pn⟩:=ae6 X Ep;have U:Z.toList.length=n:=by have:=Ep.1;simp;exact u_ (a_ (f_ this) (a_ (f_ R) (f_ hl))) (a_ (g_ hl) (a_ (g_ R) (g_ this)))
 have q1:Z=Z.toList.toArray:=by simp
 refine aa (wpAny_newList ?_ (by rw[o8];exact e_ (c_ (f_ U) (b_ hn (by decide)))));have qq:(h1.push (PyProof.Rows.seqObj "list" Z.toList.toArray 0)).get? h1.objs.size=some (PyProof.Rows.seqObj "list" Z.toList.toArray 0):=bu _ rfl;refine aa (ik (jc PyProof.Rows.slot_list_sort ⟨_,qq,rfl⟩ PyProof.Rows.entry_list_sort (PyProof.Rows.list_sort_tree (s:={ s with heap:=h1.push (PyProof.Rows.seqObj "list" Z.toList.toArray 0),toks:=tk }) qq hI (c_ (f_ U) (b_ hn (by decide))) λout qv a1 a2 a3=>⟨_,rfl,?_⟩) (PyProof.Rows.args_list_sort _)));have p2:=a2.trans pn;refine aj ⟨_,rfl,h _ tk h1.objs.size out qv (λb o e=>?_) q0 a1 a3 (p2.nodup_iff.mpr X.nod) (λk=>(hm k).trans p2.mem_iff.symm) (PyProof.Rows.sortedHeap_at qq)⟩;have qk:=keep b o e;have J1:=az qk;rw[PyProof.Rows.sortedHeap_old (gf J1) (by rw[iz];exact qg J1),Heap.get?_push_ne _ _ _ (gf J1)];exact qk
end Ur
namespace MW
open PySem (Str)
set_option genInjectivity true in
inductive D where
 |non|bl (b:Bool)|int (i:Int)|str (s:Str)|tup (ds:List D)|vl (ds:List D)|fz (ds:List D)|ref (n:Nat)
noncomputable abbrev Kx:=Sum Int Str
set_option genInjectivity true in
inductive MO where
 |lst (ds:List D)|dT (kvs:List (List Kx×D))|dF (kvs:List (List Kx×D))|dK (kvs:List (Kx×D))|ins (c:Nat) (fs:List (Nat×D))
noncomputable abbrev cg:=List MO
noncomputable abbrev Env:=List (Option D)
set_option genInjectivity true in
inductive Res(α:Type) where
 |ok (a:α) (M:cg)|err (c:Nat) (M:cg)|bad
namespace Res
noncomputable def bind{Z β:Type}(r:Res Z)(f:Z->cg->Res β):Res β :=
 match r with|ok a M=>f a M|err c M=>err c M|bad=>bad
@[simp] def Am(a:α)(M:cg)(f:α->cg->Res β):(ok a M).bind f=f a M:=rfl
@[simp] def a6x(c:Nat)(M:cg)(f:α->cg->Res β):(err c M:Res α).bind f=err c M:=rfl
@[simp] def a6y(f:α->cg->Res β):(bad:Res α).bind f=bad:=rfl
noncomputable def uz{α:Type}(o:Option α)(M:cg):Res α:=match o with|some a=>ok a M|none=>bad
@[simp] def Bt(a:α)(M:cg):uz (some a) M=ok a M:=rfl
@[simp] def aze(M:cg):uz (none:Option α) M=bad:=rfl
end Res
inductive Op2 where|add|aji|sub|mul|fdiv|mod|pow
inductive Cp where|eq|ne|lt|le|gt|ge|inn|K3
inductive Blt where
 |len|tuple|max|min|dict|isList|Dr|sorted
inductive Bm where|append|index|get|extend|pop|update
inductive Tg where
 |name (i:Nat)|names (is:Y3)
mutual
inductive Ex where
 |var (i:Nat)|cst (d:D)
 |bin (op:Op2) (a b:Ex)|neg (a:Ex)
 |cmp (op:Cp) (a b:Ex)|chain (o1 o2:Cp) (a b c:Ex)
 |and (a b:Ex)|or (a b:Ex)|not (a:Ex)|ite (c a b:Ex)
 |tup (es:Cz)|lst (es:Cz)|Iw (es:Cz)|abw|ae7
 |ix (a b:Ex)|cut (a:Ex) (lo hi:OEx)
 |call (f:Nat) (es:Cz)|make (c:Nat) (es:Cz)|meth (o:Ex) (m:Nat) (es:Cz)|fld (o:Ex) (f:Nat)
 |blt (b:Blt) (es:Cz)|bm (m:Bm) (o:Ex) (es:Cz)
 |comp (v:Bool) (k:Nat) (t:Tg) (it:Lj) (e:Ex)|Ci (v:Bool) (k:Nat) (t:Tg) (it:Lj) (c:Ex) (e:Ex)
 |Vv (a b:Ex)|Zq (k v:Ex)|tru (e:Ex)|ae8 (e:Ex)|ae9 (e:Ex)
inductive Cz where
 |nil|cons (e:Ex) (es:Cz)
inductive OEx where
 |none|some (e:Ex)
inductive Lj where
 |val (e:Ex)|K4 (e:Ex)|enm (e:Ex)|zip (es:Cz)|keys (e:Ex)
end
noncomputable abbrev Ex.v:=Ex.var
noncomputable abbrev Ex.i(n:Int):Ex:=.cst (.int n)
noncomputable abbrev Ex.l(e:Ex):Ex:=.blt .len (.cons e .nil)
noncomputable abbrev Cz.z:=Cz.nil
noncomputable abbrev Cz.c:=Cz.cons
noncomputable abbrev Cz.o(a:Ex):Cz:=.cons a .nil
noncomputable abbrev Cz.p(a b:Ex):Cz:=.cons a (.cons b .nil)
noncomputable abbrev Cz.q(a b c:Ex):Cz:=.cons a (.cons b (.cons c .nil))
inductive Lv where
 |tg (t:Tg)|sub (o i:Ex)|fld (o:Ex) (f:Nat)
mutual
inductive Bp where
 |asg (l:Lv) (e:Ex)|expr (e:Ex)|iff (c:Ex) (a b:o6)|whl (c:Ex) (b:o6)|for_ (t:Tg) (it:Lj) (b:o6)
 |ret (e:Ex)|atb|brk|cont|pass|raise (c:Nat) (es:Cz)
inductive o6 where
 |nil|cons (s:Bp) (r:o6)
end
noncomputable abbrev Bp.a(i:Nat)(e:Ex):Bp:=.asg (.tg (.name i)) e
noncomputable abbrev Bp.f(c:Ex)(b:o6):Bp:=.iff c b .nil
noncomputable abbrev o6.z:=o6.nil
noncomputable abbrev o6.c:=o6.cons
noncomputable abbrev o6.o(a:Bp):o6:=.cons a .nil
noncomputable abbrev o6.p(a b:Bp):o6:=.cons a (.cons b .nil)
noncomputable abbrev o6.q(a b c:Bp):o6:=.cons a (.cons b (.cons c .nil))
structure Fn where
 np:Nat
 ns:Nat
 body:o6
structure Cl where
 init:Nat
 meths:List (Nat×Nat)
noncomputable def dm(M:cg):D->Option (List D)
 |.vl ds=>some ds|.ref n=>match M[n]? with|some (.lst ds)=>some ds|_=>none
 |_=>none
noncomputable def Bh(M:cg):D->Option (List D)
 |.tup ds=>some ds|d=>dm M d
noncomputable def Uu:D->Option Kx
 |.int i=>some (.inl i)|.str s=>some (.inr s)|_=>none
noncomputable def Zr:List D->Option (List Kx)
 |[]=>some []
 |d::ds=>match Uu d,Zr ds with
  |some k,some ks=>some (k::ks)|_,_=>none
noncomputable def J6:D->Option (List Kx)
 |.tup ds=>Zr ds|_=>none
noncomputable def ajj:Kx->D
 |.inl i=>.int i|.inr s=>.str s
noncomputable def Vw(Z:List Kx):D:=.tup (Z.map ajj)
noncomputable def Dt:List D->Option (List (List Kx))
 |[]=>some []
 |d::ds=>match J6 d,Dt ds with
  |some k,some ks=>some (k::ks)|_,_=>none
noncomputable def Ot(f:D->D->Option Bool):List D->List D->Option Bool
 |[],[]=>some true
 |a::as,b::bs=>match f a b,Ot f as bs with
  |some x,some y=>some (x&&y)|_,_=>none
 |_,_=>some false
instance:DecidableEq Kx:=inferInstanceAs (DecidableEq (Sum Int Str))
noncomputable def wg{U:Type}[DecidableEq U](Z:List (U×D))(k:U):Option D:=(Z.find? λp=>decide (p.1=k)).map (·.2)
noncomputable def Jf(M:cg):Nat->D->D->Option Bool
 |0,_,_=>none
 |n+1,a,b=>match a,b with
  |.int i,.int j=>some (decide (i=j))|.bl i,.bl j=>some (i==j)|.str i,.str j=>some (decide (i=j))|.non,.non=>some true|.tup as,.tup bs=>Ot (Jf M n) as bs
  |a,b=>match dm M a,dm M b with
   |some as,some bs=>if as.length=bs.length then Ot (Jf M n) as bs else some false
   |_,_=>none
noncomputable def yq(M:cg)(a b:D):Option Bool:=Jf M 6 a b
noncomputable def Ly(M:cg)(x:D):List D->Option (List Bool)
 |[]=>some []
 |y::ys=>match yq M y x,Ly M x ys with
  |some a,some b=>some (a::b)|_,_=>none
noncomputable def memD(M:cg)(x:D)(Z:List D):Option Bool:=(Ly M x Z).map (·.any id)
noncomputable def abx(M:cg)(x:D)(Z:List D):Option Nat:=(Ly M x Z).bind (·.findIdx? id)
noncomputable def Vx:List D->Option (List Int)
 |[]=>some []|.int i::r=>(Vx r).map (i::·)|_::_=>none
noncomputable def Xv(n:Nat)(i:Int):Option Nat:=if 0<=i then(if i<n then some i.toNat else none) else if -(n:Int)<=i then some (i+n).toNat else none
noncomputable def clip(n:Nat)(d:Nat):Option Int->Nat
 |none=>d|some i=>if 0<=i then min i.toNat n else(i+n).toNat
noncomputable def afb(Z:List D)(U R:Option Int):List D:=(Z.drop (clip Z.length 0 U)).take (clip Z.length Z.length R-clip Z.length 0 U)
noncomputable def azf:List Int->Option Int
 |[]=>none|a::r=>some (r.foldl (λm x=>if m<x then x else m) a)
noncomputable def a6z:List Int->Option Int
 |[]=>none|a::r=>some (r.foldl (λm x=>if x<m then x else m) a)
noncomputable def insI(x:Int):List Int->List Int
 |[]=>[x]|y::ys=>if x<y then x::y::ys else y::insI x ys
noncomputable def sortI(Z:Xs):List Int:=Z.foldr insI []
noncomputable def Ak:List Int->List Int
 |[]=>[]|x::xs=>if x∈xs then Ak xs else x::Ak xs
noncomputable def keysOf(M:cg)(d:D):Option (List D) :=
 match d with
 |.ref n=>match M[n]? with
  |some (.dT kvs)=>some (kvs.map λp=>Vw p.1)
  |_=>dm M d
 |_=>dm M d
noncomputable def Dw{R:Type}[DecidableEq R](Z:List (R×D))(k:R)(v:D):List (R×D) :=
 if(Z.any λU=>decide (U.1=k))=true then Z.map (λU=>if U.1=k then(U.1,v) else U) else Z++[(k,v)]
noncomputable def Dy(Z:List (List Kx)):Bool:=decide (Z.length<=30)&&Z.all λk=>k.all λx=>match x with|.inl _=>true|.inr _=>false
noncomputable def Ig(Z U:List (List Kx)):Bool:=Z.all (λx=>U.any λy=>decide (y=x))&&U.all (λy=>Z.any λx=>decide (x=y))
noncomputable def new(o:MO)(M:cg):Res D:=.ok (.ref M.length) (M++[o])
noncomputable def amq(a b:D)(M:cg):Res D :=
 match a,b with
 |.int i,.int j=>.ok (.int (i+j)) M
 |x,y=>match dm M x,dm M y with
  |some xs,some ys=>if xs.length+ys.length<=100000 then .ok (.vl (xs++ys)) M else .bad
  |_,_=>.bad
noncomputable def afc(x y:D)(M:cg):Res D :=
 match dm M x,dm M y with
 |some xs,some ys=>if xs.length+ys.length<=100000 then new (.lst (xs++ys)) M else .bad
 |_,_=>.bad
noncomputable def ii{α:Type}(x y:D)(f:Int->Int->α)(z:α):α:=match x with|.int i=>(match y with|.int j=>f i j|_=>z)|_=>z
def Zt(h:ii x y f z=r)(Z:z≠r):∃i j,x=.int i/\y=.int j/\f i j=r:=by
 cases x with
 |int i=>cases y with
  |int j=>exact⟨i,j,rfl,rfl,h⟩|_=>exact absurd h Z
 |_=>exact absurd h Z
@[simp] def bdn(i j:Int)(f:Int->Int->α)(z:α):ii (.int i) (.int j) f z=f i j:=rfl
noncomputable def a65(a b:D)(M:cg):Res D:=ii a b (λi j=>.ok (.int (i-j)) M) .bad
noncomputable def amr(a b:D)(M:cg):Res D:=match a with
 |.tup [d]=>(match b with|.int n=>if 0<=n/\n<=100000 then .ok (.tup (List.replicate n.toNat d)) M else .bad|_=>.bad)
 |_=>ii a b (λi j=>if(-(2 ^ 64)<i/\i<2 ^ 64)\/(-(2 ^ 64)<j/\j<2 ^ 64) then .ok (.int (i*j)) M else .bad) .bad
noncomputable def azg(a b:D)(M:cg):Res D:=ii a b (λi j=>if 0<j/\j<1073741824 then .ok (.int (i / j)) M else .bad) .bad
noncomputable def a66(a b:D)(M:cg):Res D:=ii a b (λi j=>if 0<j then .ok (.int (i%j)) M else .bad) .bad
noncomputable def axy(a b:D)(M:cg):Res D:=ii a b (λi j=>if 0<=j/\j<=64/\i.natAbs<2 ^ 64 then .ok (.int (i ^ j.toNat)) M else .bad) .bad
noncomputable def Er(Z:Op2):D->D->cg->Res D :=
 match Z with
 |.add=>amq|.aji=>afc|.sub=>a65|.mul=>amr|.fdiv=>azg|.mod=>a66|.pow=>axy
noncomputable def J7(M:cg)(a b:D):Option Bool :=
 match b with
 |.ref n=>match M[n]? with
  |some (.dT kvs)=>(J6 a).map λk=>(wg kvs k).isSome
  |some (.dK kvs)=>(Uu a).map λk=>(wg kvs k).isSome
  |_=>(Bh M b).bind (memD M a)
 |_=>(Bh M b).bind (memD M a)
noncomputable def aby(f:Int->Int->Bool)(a b:D):Option Bool:=ii a b (λi j=>some (f i j)) none
noncomputable def Lz(Z:Cp)(a b:D)(M:cg):Option Bool :=
 match Z with
 |.lt=>aby (λi j=>decide (i<j)) a b
 |.le=>aby (λi j=>decide (i<=j)) a b
 |.gt=>aby (λi j=>decide (j<i)) a b
 |.ge=>aby (λi j=>decide (j<=i)) a b
 |.eq=>yq M a b|.ne=>(yq M a b).map not|.inn=>J7 M a b|.K3=>(J7 M a b).map not
noncomputable def Aa(a b:D)(M:cg):Option D :=
 match a with
 |.ref n=>match M[n]? with
  |some (.dT kvs)=>(J6 b).bind (wg kvs)|some (.dF kvs)=>(J6 b).bind (wg kvs)|some (.dK kvs)=>(Uu b).bind (wg kvs)
  |_=>match dm M a,b with
   |some ds,.int i=>(Xv ds.length i).bind λj=>ds[j]?
   |_,_=>none
 |.fz ds=>match b with
  |.int i=>(Xv ds.length i).bind λj=>ds[j]?
  |_=>none
 |_=>match Bh M a,b with
  |some ds,.int i=>(Xv ds.length i).bind λj=>ds[j]?
  |_,_=>none
noncomputable def abz(a:D)(U Z:Option Int)(M:cg):Option D:=(dm M a).map λR=>.vl (afb R U Z)
noncomputable def Xw(Z:List (List Kx×D)):Bool:=Z.all λp=>match p.1 with
 |[.inl i,.inl j]=>decide (-1<=i)&&decide (i<9)&&decide (-1<=j)&&decide (j<9)|_=>false
noncomputable def Ru(M:cg):D->Res D
 |.ref n=>match M[n]? with
  |some (.lst ds)=>.ok (.int ds.length) M|_=>.bad
 |.fz ds=>.ok (.int ds.length) M|.tup ds=>.ok (.int ds.length) M|.vl ds=>.ok (.int ds.length) M|_=>.bad
noncomputable def ag2(M:cg):D->Res D
 |.ref n=>match M[n]? with
  |some (.dT kvs)=>if Xw kvs then new (.dT kvs) M else .bad
  |some (.dK kvs)=>new (.dK kvs) M|_=>.bad
 |_=>.bad
noncomputable def two(Z:List D)(f:Int->Int->Int)(g:D->Option Int)(M:cg):Res D :=
 match Z with
 |[a,b]=>(match a,b with|.int i,.int j=>.ok (.int (f i j)) M|_,_=>.bad)
 |[d]=>Res.uz ((g d).map D.int) M|_=>.bad
noncomputable def Ql(Z:List D)(g:D->Res D):Res D :=
 match Z with
 |[d]=>g d|_=>.bad
noncomputable def vz(b:Blt)(Z:List D)(M:cg):Res D :=
 match b with
 |.len=>Ql Z (Ru M)|.tuple=>Ql Z λd=>Res.uz ((Bh M d).map D.tup) M
 |.max=>two Z (λi j=>if i<j then j else i) (λd=>((dm M d).bind Vx).bind azf) M
 |.min=>two Z (λi j=>if j<i then j else i) (λd=>((dm M d).bind Vx).bind a6z) M
 |.Dr=>Ql Z λd=>Res.uz (((dm M d).bind Vx).bind λis=>if(Ak is).length<31 then some (D.vl ((sortI (Ak is)).map D.int)) else none) M
 |.dict=>Ql Z (ag2 M)|.isList=>Ql Z λd=>Res.uz ((dm M d).map λ_=>D.bl true) M
 |.sorted=>Ql Z λd=>Res.uz (((dm M d).bind Vx).bind λis=>if is.length<31/\is.Nodup then some (D.vl ((sortI is).map D.int)) else none) M
noncomputable def Jj(m:Bm)(x:D)(M:cg):Bool :=
 match m with
 |.get=>(match x with|.ref n=>(match M[n]? with|some (.dK _)=>true|_=>false)|_=>false)
 |.update=>(match x with|.ref n=>(match M[n]? with|some (.dT _)=>true|_=>false)|_=>false)
 |_=>(dm M x).isSome
noncomputable def azh(n:Nat):D->Bool
 |.ref k=>k != n|_=>true
noncomputable def onL(o:D)(M:cg)(f:Nat->List D->Res D):Res D:=match o with
 |.ref n=>match M[n]? with|some (.lst xs)=>f n xs|_=>.bad
 |_=>.bad
noncomputable def onT(o:D)(M:cg)(f:Nat->List (List Kx×D)->Res D):Res D:=match o with
 |.ref n=>match M[n]? with|some (.dT kvs)=>f n kvs|_=>.bad
 |_=>.bad
noncomputable def onK(o:D)(M:cg)(f:List (Kx×D)->Res D):Res D:=match o with
 |.ref n=>match M[n]? with|some (.dK kvs)=>f kvs|_=>.bad
 |_=>.bad
noncomputable def Gg(m:Bm)(o:D)(ds:List D)(M:cg):Res D :=
 match m with
 |.append=>onL o M λn R=>Ql ds λd=>if R.length<100000 then .ok .non (M.set n (.lst (R++[d]))) else .bad
 |.extend=>onL o M λn R=>Ql ds λy=>match dm M y with
  |some ys=>if azh n y=true/\R.length+ys.length<100000 then .ok .non (M.set n (.lst (R++ys))) else .bad
  |none=>.bad
 |.pop=>onL o M λn R=>match ds with
  |[]=>match R.getLast? with
   |some d=>.ok d (M.set n (.lst R.dropLast))|none=>.bad
  |_=>.bad
 |.update=>onT o M λn Z=>Ql ds λy=>onT y M λk U=>if k≠n/\Xw U=true/\Z.length+U.length<100000/\(U.all λp=>(wg Z p.1).isNone)=true then .ok .non (M.set n (.dT (Z++U))) else .bad
 |.index=>Ql ds λd=>Res.uz (((Bh M o).bind (abx M d)).map λ(j:Nat)=>D.int (j:Int)) M
 |.get=>onK o M λZ=>match ds with
  |[k,d]=>Res.uz ((Uu k).map λq=>(wg Z q).getD d) M
  |_=>.bad
noncomputable def setOp(o i v:D)(M:cg):Option cg :=
 match o with
 |.ref n=>match M[n]? with
  |some (.lst xs)=>match i with
   |.int j=>(Xv xs.length j).map λq=>M.set n (.lst (xs.set q v))
   |_=>none
  |some (.dT kvs)=>(J6 i).bind λk=>if kvs.length<100000 then some (M.set n (.dT (Dw kvs k v))) else none
  |some (.dK kvs)=>(Uu i).bind λk=>if kvs.length<100000 then some (M.set n (.dK (Dw kvs k v))) else none
  |_=>none
 |_=>none
noncomputable def Tz(f:Nat)(v:D):List (Nat×D)->List (Nat×D)
 |[]=>[(f,v)]|(g,x)::r=>if g=f then(g,v)::r else(g,x)::Tz f v r
noncomputable def Qm(o:D)(f:Nat)(M:cg):Option D :=
 match o with
 |.ref n=>match M[n]? with
  |some (.ins _ fs)=>fs.lookup f|_=>none
 |_=>none
noncomputable def Qn(o:D)(f:Nat)(v:D)(M:cg):Option cg :=
 match o with
 |.ref n=>match M[n]? with
  |some (.ins c fs)=>if fs.length<1000 then some (M.set n (.ins c (Tz f v fs))) else none
  |_=>none
 |_=>none
inductive Src where
 |con (ds:List D)|live (n:Nat) (len:Nat)
noncomputable def Src.len:Src->Nat
 |.con ds=>ds.length|.live _ k=>k
noncomputable def Src.item(s:Src)(i:Nat)(M:cg):Option D :=
 match s with
 |.con ds=>ds[i]?
 |.live n k=>match M[n]? with
  |some (.lst ds)=>if ds.length=k then ds[i]? else none
  |_=>none
noncomputable def Src.fin(s:Src)(M:cg):Bool :=
 match s with
 |.con _=>true
 |.live n k=>match M[n]? with
  |some (.lst ds)=>ds.length==k|_=>false
noncomputable def srcOf(M:cg)(d:D):Option Src :=
 match d with
 |.tup ds=>some (.con ds)|.vl ds=>some (.con ds)
 |.ref n=>match M[n]? with
  |some (.lst ds)=>some (.live n ds.length)|_=>none
 |_=>none
inductive Flow where
 |next|brk|cont|ret (d:D)
noncomputable def Pq:List Nat->List D->Env->Env
 |i::is,d::ds,ρ=>Pq is ds (ρ.set i (some d))|_,_,ρ=>ρ
noncomputable def Tg.put(t:Tg)(d:D)(Z:Env):Option Env :=
 match t with
 |.name i=>some (Z.set i (some d))
 |.names is=>match d with
  |.tup ds=>if ds.length=is.length then some (Pq is ds Z) else none
  |_=>none
structure Gh where
 call:Nat->List D->cg->Res D
 cls:List Cl
noncomputable def Br(fin:cg->Bool)(item:Nat->cg->Option D)(Z:D->Env->cg->Res (Flow×Env)):Nat->Nat->Env->cg->Res (Flow×Env)
 |0,_,ρ,M=>if fin M then .ok (.next,ρ) M else .bad
 |k+1,i,ρ,M=>match item i M with
  |none=>.bad
  |some d=>(Z d ρ M).bind λr U=>match r.1 with
   |.next=>Br fin item Z k (i+1) r.2 U|.cont=>Br fin item Z k (i+1) r.2 U|.brk=>.ok (.next,r.2) U|.ret v=>.ok (.ret v,r.2) U
noncomputable def Dg(fin:cg->Bool)(item:Nat->cg->Option D)(Z:D->cg->Res (Option D)):Nat->Nat->cg->Res (List D)
 |0,_,M=>if fin M then .ok [] M else .bad
 |k+1,i,M=>match item i M with
  |none=>.bad|some d=>(Z d M).bind λo R=>(Dg fin item Z k (i+1) R).bind λU M2=>.ok (match o with|some x=>x::U|none=>U) M2
noncomputable def Ai(s:Src)(Z:D->cg->Res (Option D))(M:cg):Res (List D):=if s.len<=100000 then Dg s.fin s.item Z s.len 0 M else .bad
noncomputable def Ft(c:Env->cg->Res D)(Z:Env->cg->Res (Flow×Env)):Nat->Env->cg->Res (Flow×Env)
 |0,_,_=>.bad
 |k+1,ρ,M=>(c ρ M).bind λb R=>match b with
  |.bl false=>.ok (.next,ρ) R
  |.bl true=>(Z ρ R).bind λr U=>match r.1 with
   |.next=>Ft c Z k r.2 U|.cont=>Ft c Z k r.2 U|.brk=>.ok (.next,r.2) U|.ret v=>.ok (.ret v,r.2) U
  |_=>.bad
noncomputable def Vy:Nat:=1000000
noncomputable def Pr:List D->Option (List (List D))
 |[]=>some []|.tup l::r=>(Pr r).map (l::·)|_::_=>none
noncomputable def Rx(Z:List (List D))(n:Nat):List D:=(List.range n).map λi=>.tup (Z.map λl=>l.getD i .non)
noncomputable def Cj(Z:List D):Nat->List D:=λn=>(Z.zipIdx n).map λp=>D.tup [.int p.2,p.1]
noncomputable def ab0(d:D)(M:cg):Res Src :=
 match d with
 |.ref n=>match M[n]? with
  |some (.dT kvs)=>.ok (.con (kvs.map λp=>Vw p.1)) (M.set n (.dF kvs))
  |some (.dF kvs)=>.ok (.con (kvs.map λp=>Vw p.1)) M
  |_=>.bad
 |_=>.bad
mutual
noncomputable def Ex.den(W:Gh):Ex->Env->cg->Res D
 |.var i,ρ,M=>match ρ[i]? with
  |some (some d)=>.ok d M|_=>.bad
 |.cst d,_,M=>.ok d M|.bin op a b,ρ,M=>(a.den W ρ M).bind λx Z=>(b.den W ρ Z).bind λy U=>Er op x y U
 |.neg a,ρ,M=>(a.den W ρ M).bind λx Z=>match x with|.int i=>.ok (.int (-i)) Z|_=>.bad
 |.cmp op a b,ρ,M=>(a.den W ρ M).bind λx Z=>(b.den W ρ Z).bind λy U=>Res.uz ((Lz op x y U).map D.bl) U
 |.chain o1 o2 a b c,ρ,M=>(a.den W ρ M).bind λx Z=>(b.den W ρ Z).bind λy U=>(Res.uz (Lz o1 x y U) U).bind λq U=>if q then(c.den W ρ U).bind λz M3=>Res.uz ((Lz o2 y z M3).map D.bl) M3 else .ok (.bl false) U
 |.and a b,ρ,M=>(a.den W ρ M).bind λx Z=>match x with|.bl true=>b.den W ρ Z|.bl false=>.ok (.bl false) Z|_=>.bad
 |.or a b,ρ,M=>(a.den W ρ M).bind λx Z=>match x with|.bl true=>.ok (.bl true) Z|.bl false=>b.den W ρ Z|_=>.bad
 |.not a,ρ,M=>(a.den W ρ M).bind λx Z=>match x with|.bl b=>.ok (.bl !b) Z|_=>.bad
 |.ite c a b,ρ,M=>(c.den W ρ M).bind λx Z=>match x with|.bl true=>a.den W ρ Z|.bl false=>b.den W ρ Z|_=>.bad
 |.tup es,ρ,M=>(es.den W ρ M).bind λR Z=>.ok (.tup R) Z
 |.lst es,ρ,M=>(es.den W ρ M).bind λR Z=>new (.lst R) Z
 |.Iw es,ρ,M=>(es.den W ρ M).bind λR Z=>.ok (.vl R) Z
 |.abw,_,M=>new (.dT []) M|.ae7,_,M=>new (.dK []) M|.ix a b,ρ,M=>(a.den W ρ M).bind λx Z=>(b.den W ρ Z).bind λy U=>Res.uz (Aa x y U) U
 |.cut a lo hi,ρ,M=>(a.den W ρ M).bind λx Z=>(lo.den W ρ Z).bind λl U=>(hi.den W ρ U).bind λh M3=>Res.uz (abz x l h M3) M3
 |.call f es,ρ,M=>(es.den W ρ M).bind λR Z=>W.call f R Z
 |.make c es,ρ,M=>(es.den W ρ M).bind λR Z=>match W.cls[c]? with
  |some C=>(W.call C.init (.ref Z.length::R) (Z++[.ins c []])).bind λr U=>match r with|.non=>.ok (.ref Z.length) U|_=>.bad
  |none=>.bad
 |.meth o m es,ρ,M=>(o.den W ρ M).bind λx Z=>(es.den W ρ Z).bind λR U=>match x with
  |.ref n=>match Z[n]? with
   |some (.ins c _)=>match(W.cls[c]?).bind λC=>C.meths.lookup m with
    |some f=>W.call f (.ref n::R) U|none=>.bad
   |_=>.bad
  |_=>.bad
 |.fld o f,ρ,M=>(o.den W ρ M).bind λx Z=>Res.uz (Qm x f Z) Z
 |.blt b es,ρ,M=>(es.den W ρ M).bind λR Z=>vz b R Z
 |.bm m o es,ρ,M=>(o.den W ρ M).bind λx Z=>if Jj m x Z then(es.den W ρ Z).bind λR U=>Gg m x R U else .bad
 |.comp v k t it e,ρ,M=>(it.den W ρ M).bind λs Z =>
  (Ai s (λd M=>match t.put d (ρ++List.replicate k none) with
   |some qq=>(e.den W qq M).bind λx M'=>.ok (some x) M'
   | none=>.bad) Z).bind λR U=>if v then .ok (.vl R) U else new (.lst R) U
 |.Ci v k t it c e,ρ,M=>(it.den W ρ M).bind λs Z =>
  (Ai s (λd M=>match t.put d (ρ++List.replicate k none) with
   |some qq=>(c.den W qq M).bind λb M'=>match b with
    |.bl true=>(e.den W qq M').bind λx qk=>.ok (some x) qk
    |.bl false=>.ok none M'|_=>.bad
   | none=>.bad) Z).bind λR U=>if v then .ok (.vl R) U else new (.lst R) U
 |.Vv a b,ρ,M=>(a.den W ρ M).bind λx Z =>
  match(keysOf Z x).bind Dt with
  |some xs=>if Dy xs then(b.den W ρ Z).bind λy U =>
   match(keysOf U y).bind Dt with
   |some ys=>if Dy ys then .ok (.bl !Ig xs ys) U else .bad
   |none=>.bad
   else .bad
  |none=>.bad
 |.Zq k v,ρ,M=>(k.den W ρ M).bind λx Z=>(v.den W ρ Z).bind λy U=>match J6 x with
  |some k=>new (.dT [(k,y)]) U|none=>.bad
 |.tru e,ρ,M=>(e.den W ρ M).bind λx Z=>Res.uz ((dm Z x).map λR=>D.bl !R.isEmpty) Z
 |.ae8 e,ρ,M=>(e.den W ρ M).bind λx Z=>match x with
  |.int i=>if i.natAbs<=100000 then .ok (.tup ((List.range i.toNat).map λ(k:Nat)=>D.int (k:Int))) Z else .bad
  |_=>.bad
 |.ae9 e,ρ,M=>(e.den W ρ M).bind λx Z=>match x with
  |.int i=>if i.natAbs<=100000 then new (.lst ((List.range i.toNat).map λ(k:Nat)=>D.int (k:Int))) Z else .bad
  |_=>.bad
noncomputable def Cz.den(W:Gh):Cz->Env->cg->Res (List D)
 |.nil,_,M=>.ok [] M|.cons e es,ρ,M=>(e.den W ρ M).bind λx Z=>(es.den W ρ Z).bind λU R=>.ok (x::U) R
noncomputable def OEx.den(W:Gh):OEx->Env->cg->Res (Option Int)
 |.none,_,M=>.ok none M|.some e,ρ,M=>(e.den W ρ M).bind λx Z=>match x with|.int i=>.ok (some i) Z|_=>.bad
noncomputable def Lj.den(W:Gh):Lj->Env->cg->Res Src
 |.val e,ρ,M=>(e.den W ρ M).bind λx Z=>Res.uz (srcOf Z x) Z
 |.K4 e,ρ,M=>(e.den W ρ M).bind λx Z=>match x with
  |.int i=>if i.natAbs<=100000 then .ok (.con ((List.range i.toNat).map λ(k:Nat)=>D.int (k:Int))) Z else .bad
  |_=>.bad
 |.enm e,ρ,M=>(e.den W ρ M).bind λx Z=>match x with
  |.tup U=>.ok (.con (Cj U 0)) Z|.vl U=>.ok (.con (Cj U 0)) Z|_=>.bad
 |.zip es,ρ,M=>(es.den W ρ M).bind λU Z=>match Pr U with
  |some (l::r)=>if(r.all λx=>x.length==l.length)=true then .ok (.con (Rx (l::r) l.length)) Z else .bad
  |_=>.bad
 |.keys e,ρ,M=>(e.den W ρ M).bind ab0
end
noncomputable def Lv.put(W:Gh)(l:Lv)(d:D)(Z:Env)(M:cg):Res Env :=
 match l with
 |.tg t=>Res.uz (t.put d Z) M|.sub o i=>(o.den W Z M).bind λx U=>(i.den W Z U).bind λy R=>(Res.uz (setOp x y d R) R).bind λM3 _=>.ok Z M3
 |.fld o f=>(o.den W Z M).bind λx U=>(Res.uz (Qn x f d U) U).bind λR _=>.ok Z R
mutual
noncomputable def Bp.den(W:Gh):Bp->Env->cg->Res (Flow×Env)
 |.asg l e,Z,M=>(e.den W Z M).bind λx U=>(l.put W x Z U).bind λR M2=>.ok (.next,R) M2
 |.expr e,Z,M=>(e.den W Z M).bind λ_ U=>.ok (.next,Z) U
 |.iff c a b,Z,M=>(c.den W Z M).bind λx U=>match x with|.bl true=>a.den W Z U|.bl false=>b.den W Z U|_=>.bad
 |.whl c b,Z,M=>Ft (c.den W) (b.den W) Vy Z M
 | .for_ t it b,Z,M=>(it.den W Z M).bind λs U=>Br s.fin s.item (λd Z M=>match t.put d Z with
  | some R=>b.den W R M|none=>.bad) s.len 0 Z U
 |.ret e,Z,M=>(e.den W Z M).bind λx U=>.ok (.ret x,Z) U
 |.atb,Z,M=>.ok (.ret .non,Z) M|.brk,Z,M=>.ok (.brk,Z) M|.cont,Z,M=>.ok (.cont,Z) M|.pass,Z,M=>.ok (.next,Z) M|.raise c es,Z,M=>(es.den W Z M).bind λ_ U=>.err c U
noncomputable def o6.den(W:Gh):o6->Env->cg->Res (Flow×Env)
 |.nil,ρ,M=>.ok (.next,ρ) M
 |.cons s r,ρ,M=>(s.den W ρ M).bind λp Z=>match p.1 with
  |.next=>r.den W p.2 Z|.brk=>.ok (.brk,p.2) Z|.cont=>.ok (.cont,p.2) Z|.ret d=>.ok (.ret d,p.2) Z
end
structure Prog where
 fns:List Fn
 cls:List Cl
noncomputable def Fn.run(W:Gh)(f:Fn)(Z:List D)(M:cg):Res D :=
 if Z.length=f.np then
  (f.body.den W (Z.map some++List.replicate (f.ns-f.np) none) M).bind λp U=>match p.1 with
   |.ret d=>.ok d U|.next=>.ok .non U|_=>.bad
 else .bad
noncomputable def Prog.call(P:Prog):Nat->Nat->List D->cg->Res D
 |0,_,_,_=>.bad
 |n+1,f,ds,M=>match P.fns[f]? with
  |some F=>F.run ⟨P.call n,P.cls⟩ ds M|none=>.bad
@[simp] def Zu(i:Nat):(Ex.var i).den W Z M=match Z[i]? with|some (some d)=>.ok d M|_=>.bad:=rfl
@[simp high] theorem bdo(d:D)(r:Env):(Ex.var 0).den W (some d::r) M=.ok d M:=rfl
@[simp high] theorem bdp(Z:Option D)(d:D)(r:Env):(Ex.var 1).den W (Z::some d::r) M=.ok d M:=rfl
@[simp high] theorem bdq(U Z:Option D)(d:D)(r:Env):(Ex.var 2).den W (U::Z::some d::r) M=.ok d M:=rfl
@[simp high] theorem bdr(U R Z:Option D)(d:D)(r:Env):(Ex.var 3).den W (U::R::Z::some d::r) M=.ok d M:=rfl
@[simp high] theorem bds(Z a1 R U:Option D)(d:D)(r:Env):(Ex.var 4).den W (Z::a1::R::U::some d::r) M=.ok d M:=rfl
@[simp high] theorem bdt(U a1 R a3 Z:Option D)(d:D)(r:Env):(Ex.var 5).den W (U::a1::R::a3::Z::some d::r) M=.ok d M:=rfl
@[simp high] theorem bdu(U a1 a2 a3 Z R:Option D)(d:D)(r:Env):(Ex.var 6).den W (U::a1::a2::a3::Z::R::some d::r) M=.ok d M:=rfl
@[simp high] theorem bdv(U a1 a2 a3 Z R a6:Option D)(d:D)(r:Env):(Ex.var 7).den W (U::a1::a2::a3::Z::R::a6::some d::r) M=.ok d M:=rfl
@[simp high] theorem bdw(Z a1 a2 a3 U R a6 a7:Option D)(d:D)(r:Env):(Ex.var 8).den W (Z::a1::a2::a3::U::R::a6::a7::some d::r) M=.ok d M:=rfl
@[simp high] theorem bdx(U a1 a2 a3 Z a5 a6 a7 R:Option D)(d:D)(r:Env):(Ex.var 9).den W (U::a1::a2::a3::Z::a5::a6::a7::R::some d::r) M=.ok d M:=rfl
@[simp high] theorem bbo(U a1 a2 a3 Z a5 a6 a7 a8 R:Option D)(d:D)(r:Env):(Ex.var 10).den W (U::a1::a2::a3::Z::a5::a6::a7::a8::R::some d::r) M=.ok d M:=rfl
@[simp high] theorem bbp(R a1 a2 a3 U a5 a6 a7 a8 a9 Z:Option D)(d:D)(r:Env):(Ex.var 11).den W (R::a1::a2::a3::U::a5::a6::a7::a8::a9::Z::some d::r) M=.ok d M:=rfl
@[simp high] theorem bbq(a0 a1 a2 a3 R a5 a6 a7 a8 a9 Z U:Option D)(d:D)(r:Env):(Ex.var 12).den W (a0::a1::a2::a3::R::a5::a6::a7::a8::a9::Z::U::some d::r) M=.ok d M:=rfl
@[simp] def Qo(d:D):(Ex.cst d).den W Z M=.ok d M:=rfl
@[simp] def atc(Z:Op2)(a b:Ex):(Ex.bin Z a b).den W U M=(a.den W U M).bind λx R=>(b.den W U R).bind λy M2=>Er Z x y M2:=rfl
@[simp] def atd(a:Ex):(Ex.neg a).den W U M=(a.den W U M).bind λx Z=>match x with|.int i=>.ok (.int (-i)) Z|_=>.bad:=rfl
@[simp] def ate(Z:Cp)(a b:Ex):(Ex.cmp Z a b).den W U M=(a.den W U M).bind λx R=>(b.den W U R).bind λy M2=>Res.uz ((Lz Z x y M2).map D.bl) M2:=rfl
@[simp] def ajm(o1 U:Cp)(a b c:Ex):(Ex.chain o1 U a b c).den W Z M=(a.den W Z M).bind λx M1=>(b.den W Z M1).bind λy M2=>(Res.uz (Lz o1 x y M2) M2).bind λq M2=>if q then(c.den W Z M2).bind λz R=>Res.uz ((Lz U y z R).map D.bl) R else .ok (.bl false) M2:=rfl
def ag3(a b:Ex):(Ex.and a b).den W U M=(a.den W U M).bind λx Z=>match x with|.bl true=>b.den W U Z|.bl false=>.ok (.bl false) Z|_=>.bad:=rfl
def amt(a b:Ex):(Ex.or a b).den W U M=(a.den W U M).bind λx Z=>match x with|.bl true=>.ok (.bl true) Z|.bl false=>b.den W U Z|_=>.bad:=rfl
@[simp] def ag4(a:Ex):(Ex.not a).den W U M=(a.den W U M).bind λx Z=>match x with|.bl b=>.ok (.bl !b) Z|_=>.bad:=rfl
def atf(c a b:Ex):(Ex.ite c a b).den W Z M=(c.den W Z M).bind λx U=>match x with|.bl true=>a.den W Z U|.bl false=>b.den W Z U|_=>.bad:=rfl
@[simp] def ag5(Z:Cz):(Ex.tup Z).den W R M=(Z.den W R M).bind λU M1=>.ok (.tup U) M1:=rfl
@[simp] def atg(Z:Cz):(Ex.lst Z).den W R M=(Z.den W R M).bind λU M1=>new (.lst U) M1:=rfl
@[simp] def amu(Z:Cz):(Ex.Iw Z).den W R M=(Z.den W R M).bind λU M1=>.ok (.vl U) M1:=rfl
@[simp] def amv:Ex.abw.den W Z M=new (.dT []) M:=rfl
@[simp] def amw:Ex.ae7.den W Z M=new (.dK []) M:=rfl
@[simp] def azi(a b:Ex):(Ex.ix a b).den W Z M=(a.den W Z M).bind λx U=>(b.den W Z U).bind λy M2=>Res.uz (Aa x y M2) M2:=rfl
@[simp] def ath(a:Ex)(R U:OEx):(Ex.cut a R U).den W Z M=(a.den W Z M).bind λx M1=>(R.den W Z M1).bind λl M2=>(U.den W Z M2).bind λh M3=>Res.uz (abz x l h M3) M3:=rfl
@[simp] def amx(f:Nat)(Z:Cz):(Ex.call f Z).den W R M=(Z.den W R M).bind λU M1=>W.call f U M1:=rfl
@[simp] theorem ab1{W:Gh}{R:Env}{M:cg}(c:Nat)(U:Cz):(Ex.make c U).den W R M=(U.den W R M).bind λds Z=>match W.cls[c]? with
 |some C=>(W.call C.init (.ref Z.length::ds) (Z++[.ins c []])).bind λr M2=>match r with|.non=>.ok (.ref Z.length) M2|_=>.bad
 |none=>.bad:=rfl
@[simp] theorem ab2{W:Gh}{Z:Env}{M:cg}(o:Ex)(m:Nat)(U:Cz):(Ex.meth o m U).den W Z M=(o.den W Z M).bind λx R=>(U.den W Z R).bind λds M2=>match x with
 |.ref n=>match R[n]? with
  |some (.ins c _)=>match(W.cls[c]?).bind λC=>C.meths.lookup m with
   |some f=>W.call f (.ref n::ds) M2|none=>.bad
  |_=>.bad
 |_=>.bad:=rfl
@[simp] def ati(o:Ex)(f:Nat):(Ex.fld o f).den W Z M=(o.den W Z M).bind λx M1=>Res.uz (Qm x f M1) M1:=rfl
@[simp] def U6(b:Blt)(Z:Cz):(Ex.blt b Z).den W R M=(Z.den W R M).bind λU M1=>vz b U M1:=rfl
@[simp] def amy(m:Bm)(o:Ex)(Z:Cz):(Ex.bm m o Z).den W R M=(o.den W R M).bind λx U=>if Jj m x U then(Z.den W R U).bind λds M2=>Gg m x ds M2 else .bad:=rfl
@[simp] theorem amz{W:Gh}{Z:Env}{M:cg}(e:Ex):(Ex.ae8 e).den W Z M=(e.den W Z M).bind λx U=>match x with
 |.int i=>if i.natAbs<=100000 then .ok (.tup ((List.range i.toNat).map λ(k:Nat)=>D.int (k:Int))) U else .bad
 |_=>.bad:=rfl
@[simp] theorem am0{W:Gh}{Z:Env}{M:cg}(e:Ex):(Ex.ae9 e).den W Z M=(e.den W Z M).bind λx U=>match x with
 |.int i=>if i.natAbs<=100000 then new (.lst ((List.range i.toNat).map λ(k:Nat)=>D.int (k:Int))) U else .bad
 |_=>.bad:=rfl
def Ma(v:Bool)(k:Nat)(t:Tg)(it:Lj)(e:Ex):(Ex.comp v k t it e).den W R M=(it.den W R M).bind λs M1 =>
 (Ai s (λd M=>match t.put d (R++List.replicate k none) with
  |some Z=>(e.den W Z M).bind λx M'=>.ok (some x) M'
  | none=>.bad) M1).bind λU M2=>if v then .ok (.vl U) M2 else new (.lst U) M2:=rfl
def Vz(v:Bool)(k:Nat)(t:Tg)(it:Lj)(c e:Ex):(Ex.Ci v k t it c e).den W ρ M=(it.den W ρ M).bind λs M1 =>
 (Ai s (λd M=>match t.put d (ρ++List.replicate k none) with
  |some Z=>(c.den W Z M).bind λb M'=>match b with
   |.bl true=>(e.den W Z M').bind λx U=>.ok (some x) U
   |.bl false=>.ok none M'|_=>.bad
  | none=>.bad) M1).bind λR M2=>if v then .ok (.vl R) M2 else new (.lst R) M2:=rfl
@[simp] def Jk:Cz.nil.den W Z M=.ok [] M:=rfl
@[simp] def Dm(e:Ex)(Z:Cz):(Cz.cons e Z).den W U M=(e.den W U M).bind λx R=>(Z.den W U R).bind λxs M2=>.ok (x::xs) M2:=rfl
@[simp] def ajn:OEx.none.den W Z M=.ok none M:=rfl
@[simp] def ajo(e:Ex):(OEx.some e).den W U M=(e.den W U M).bind λx Z=>match x with|.int i=>.ok (some i) Z|_=>.bad:=rfl
@[simp] def Ih(e:Ex):(Lj.val e).den W Z M=(e.den W Z M).bind λx M1=>Res.uz (srcOf M1 x) M1:=rfl
@[simp] theorem Og{W:Gh}{Z:Env}{M:cg}(e:Ex):(Lj.K4 e).den W Z M=(e.den W Z M).bind λx U=>match x with
 |.int i=>if i.natAbs<=100000 then .ok (.con ((List.range i.toNat).map λ(k:Nat)=>D.int (k:Int))) U else .bad
 |_=>.bad:=rfl
@[simp] theorem ag6{W:Gh}{U:Env}{M:cg}(e:Ex):(Lj.enm e).den W U M=(e.den W U M).bind λx Z=>match x with
 |.tup ds=>.ok (.con (Cj ds 0)) Z|.vl ds=>.ok (.con (Cj ds 0)) Z|_=>.bad:=rfl
@[simp] theorem ag7(Z:Cz):(Lj.zip Z).den W ρ M=(Z.den W ρ M).bind λU R=>match Pr U with
 |some (l::r)=>if(r.all λx=>x.length==l.length)=true then .ok (.con (Rx (l::r) l.length)) R else .bad
 |_=>.bad:=rfl
@[simp] def ab3(e:Ex):(Lj.keys e).den W Z M=(e.den W Z M).bind ab0:=rfl
@[simp] theorem am1{W:Gh}{Z:Env}{M:cg}(k v:Ex):(Ex.Zq k v).den W Z M=(k.den W Z M).bind λx U=>(v.den W Z U).bind λy R=>match J6 x with
 |some k=>new (.dT [(k,y)]) R|none=>.bad:=rfl
@[simp] def atj(e:Ex):(Ex.tru e).den W U M=(e.den W U M).bind λx M1=>Res.uz ((dm M1 x).map λZ=>D.bl !Z.isEmpty) M1:=rfl
@[simp] def Zv(l:Lv)(e:Ex):(Bp.asg l e).den W U M=(e.den W U M).bind λx R=>(l.put W x U R).bind λZ M2=>.ok (.next,Z) M2:=rfl
@[simp] def atk(e:Ex):(Bp.expr e).den W Z M=(e.den W Z M).bind λ_ M1=>.ok (.next,Z) M1:=rfl
def azj(c:Ex)(a b:o6):(Bp.iff c a b).den W Z M=(c.den W Z M).bind λx U=>match x with|.bl true=>a.den W Z U|.bl false=>b.den W Z U|_=>.bad:=rfl
@[simp] def azk(e:Ex):(Bp.ret e).den W Z M=(e.den W Z M).bind λx M1=>.ok (.ret x,Z) M1:=rfl
@[simp] def bbr:Bp.atb.den W Z M=.ok (.ret .non,Z) M:=rfl
@[simp] def azl:Bp.brk.den W Z M=.ok (.brk,Z) M:=rfl
@[simp] def atl:Bp.cont.den W Z M=.ok (.cont,Z) M:=rfl
@[simp] def atm:Bp.pass.den W Z M=.ok (.next,Z) M:=rfl
@[simp] def am2(c:Nat)(Z:Cz):(Bp.raise c Z).den W U M=(Z.den W U M).bind λ_ M1=>.err c M1:=rfl
def Zw(c:Ex)(b:o6):(Bp.whl c b).den W Z M=Ft (c.den W) (b.den W) Vy Z M:=rfl
def Ry(t:Tg)(it:Lj)(b:o6):(Bp.for_ t it b).den W Z M=(it.den W Z M).bind λs M1=>Br s.fin s.item (λd Z M=>match t.put d Z with
 | some U=>b.den W U M|none=>.bad) s.len 0 Z M1:=rfl
@[simp] def atn:o6.nil.den W Z M=.ok (.next,Z) M:=rfl
theorem am3{W:Gh}{Z:Env}{M:cg}(s:Bp)(r:o6):(o6.cons s r).den W Z M=(s.den W Z M).bind λp M1=>match p.1 with
 |.next=>r.den W p.2 M1|.brk=>.ok (.brk,p.2) M1|.cont=>.ok (.cont,p.2) M1|.ret d=>.ok (.ret d,p.2) M1:=rfl
noncomputable def ajp(W:Gh)(r:o6)(x:Res (Flow×Env)):Res (Flow×Env):=x.bind λp Z=>match p.1 with
 |.next=>r.den W p.2 Z|.brk=>.ok (.brk,p.2) Z|.cont=>.ok (.cont,p.2) Z|.ret d=>.ok (.ret d,p.2) Z
@[simp] def bbs(s:Bp)(r:o6):(o6.cons s r).den W Z M=ajp W r (s.den W Z M):=rfl
@[simp] def a67(r:o6):ajp W r (.ok (.next,Z) M)=r.den W Z M:=rfl
@[simp] def bbt(r:o6):ajp W r (.ok (.brk,Z) M)=.ok (.brk,Z) M:=rfl
@[simp] def a68(r:o6):ajp W r (.ok (.cont,Z) M)=.ok (.cont,Z) M:=rfl
@[simp] def bbu(r:o6)(d:D):ajp W r (.ok (.ret d,Z) M)=.ok (.ret d,Z) M:=rfl
@[simp] def bbv(r:o6)(c:Nat):ajp W r (.err c M)=.err c M:=rfl
noncomputable def ifK{α:Type}(a b:cg->Res α)(x:Res D):Res α:=x.bind λx Z=>match x with|.bl true=>a Z|.bl false=>b Z|_=>.bad
@[simp] def a69(c:Ex)(a b:o6):(Bp.iff c a b).den W Z M=ifK (a.den W Z) (b.den W Z) (c.den W Z M):=rfl
@[simp] def bdz(c a b:Ex):(Ex.ite c a b).den W Z M=ifK (a.den W Z) (b.den W Z) (c.den W Z M):=rfl
@[simp] def bd1(a b:Ex):(Ex.and a b).den W Z M=ifK (b.den W Z) (.ok (.bl false)) (a.den W Z M):=rfl
@[simp] def bh2(a b:Ex):(Ex.or a b).den W Z M=ifK (.ok (.bl true)) (b.den W Z) (a.den W Z M):=rfl
@[simp] def bh3(a b:cg->Res α):ifK a b (.ok (.bl true) M)=a M:=rfl
@[simp] def bh4(a b:cg->Res α):ifK a b (.ok (.bl false) M)=b M:=rfl
@[simp] def bd2(a b:cg->Res α)(c:Nat):ifK a b (.err c M)=.err c M:=rfl
theorem Yj{W:Gh}{Z:Env}{M:cg}(a b:Ex):(Ex.Vv a b).den W Z M=(a.den W Z M).bind λx M1 =>
 match(keysOf M1 x).bind Dt with
 |some xs=>if Dy xs then(b.den W Z M1).bind λy R =>
  match(keysOf R y).bind Dt with
  |some U=>if Dy U then .ok (.bl !Ig xs U) R else .bad
  |none=>.bad
  else .bad
 |none=>.bad:=rfl
@[simp] def am4(t:Tg)(d:D):(Lv.tg t).put W d Z M=Res.uz (t.put d Z) M:=rfl
@[simp] def ato(o i:Ex)(d:D):(Lv.sub o i).put W d Z M=(o.den W Z M).bind λx R=>(i.den W Z R).bind λy U=>(Res.uz (setOp x y d U) U).bind λM3 _=>.ok Z M3:=rfl
@[simp] def atp(o:Ex)(f:Nat)(d:D):(Lv.fld o f).put W d U M=(o.den W U M).bind λx Z=>(Res.uz (Qn x f d Z) Z).bind λM2 _=>.ok U M2:=rfl
@[simp] def azn(i:Nat)(d:D):(Tg.name i).put d Z=some (Z.set i (some d)):=rfl
@[simp] def axz(is:Y3)(Z:List D)(h:Z.length=is.length):(Tg.names is).put (.tup Z) U=some (Pq is Z U):=by simp[Tg.put,h]
@[simp] def ax0(i:Nat)(is:Y3)(d:D)(Z:List D):Pq (i::is) (d::Z) U=Pq is Z (U.set i (some d)):=rfl
@[simp] def azo(Z:List D):Pq [] Z ρ=ρ:=by cases Z<;>rfl
@[simp] def a7a(i j:Int):Er .add (.int i) (.int j) M=.ok (.int (i+j)) M:=rfl
@[simp] def a7b(i j:Int):Er .sub (.int i) (.int j) M=.ok (.int (i-j)) M:=rfl
def Mf(i j:Int)(h:(-(2 ^ 64)<i/\i<2 ^ 64)\/(-(2 ^ 64)<j/\j<2 ^ 64)):Er .mul (.int i) (.int j) M=.ok (.int (i*j)) M:=cj h
def Yk(i j:Int)(h:0<j)(Z:j<1073741824):Er .fdiv (.int i) (.int j) M=.ok (.int (i / j)) M:=cj ⟨h,Z⟩
@[simp] def a7c(i j:Int)(h:0<j):Er .mod (.int i) (.int j) M=.ok (.int (i%j)) M:=cj h
@[simp] def azp:Er .pow (.int 10) (.int 18) M=.ok (.int (10 ^ 18)) M:=by simp[Er,axy]
def Yl(xs ys:List D)(h:xs.length+ys.length<=100000):Er .add (.vl xs) (.vl ys) M=.ok (.vl (xs++ys)) M:=cj h
def a5b(Z U:List D)(h:Z.length+U.length<=100000):Er .aji (.vl Z) (.vl U) M=new (.lst (Z++U)) M:=cj h
@[simp] def bd3(i j:Int):Lz .lt (.int i) (.int j) M=some (decide (i<j)):=rfl
@[simp] def bd4(i j:Int):Lz .le (.int i) (.int j) M=some (decide (i<=j)):=rfl
@[simp] def cmp_gt(i j:Int):Lz .gt (.int i) (.int j) M=some (decide (j<i)):=rfl
@[simp] def bd5(i j:Int):Lz .ge (.int i) (.int j) M=some (decide (j<=i)):=rfl
@[simp] def bd6(a b:D):Lz .eq a b M=yq M a b:=rfl
@[simp] def bd7(a b:D):Lz .ne a b M=(yq M a b).map not:=rfl
@[simp] def bd8(a b:D):Lz .inn a b M=J7 M a b:=rfl
@[simp] def a5c(a b:D):Lz .K3 a b M=(J7 M a b).map not:=rfl
def U7(n:Nat)(i j:Int):Jf M (n+1) (.int i) (.int j)=some (decide (i=j)):=rfl
def bbw(n:Nat)(Z bs:List D):Jf M (n+1) (.tup Z) (.tup bs)=Ot (Jf M n) Z bs:=rfl
def By(Z:f a b=some x)(U:Ot f R bs=some y):Ot f (a::R) (b::bs)=some (x&&y):=by simp[Ot,Z,U]
@[simp] def eq_int(i j:Int):yq M (.int i) (.int j)=some (decide (i=j)):=rfl
@[simp] def bh5(i j:Bool):yq M (.bl i) (.bl j)=some (i==j):=rfl
@[simp] def Ym(ds:List D):dm M (.vl ds)=some ds:=rfl
@[simp] def am5(ds:List D):Bh M (.vl ds)=some ds:=rfl
@[simp] def a5d(ds:List D):Bh M (.tup ds)=some ds:=rfl
def qj(h:M[n]?=some (.lst ds)):dm M (.ref n)=some ds:=by simp[dm,h]
def V0(h:dm M d=some ds):Bh M d=some ds:=by cases d<;>first|exact h|(simp[dm] at h)
set_option tactic.hygienic true in
def len_list(h:dm M d=some ds):vz .len [d] M=.ok (.int ds.length) M:=by
 show Ru M d=_;cases d with
 |vl Y=>simp[dm] at h;subst h;rfl
 |ref n =>
  simp only[dm] at h;split at h<;>simp at h;rename_i Y Z;subst h;simp[Ru,Z]
 |_=>simp[dm] at h
@[simp] def am6(d:D)(g:D->Res D):Ql [d] g=g d:=rfl
@[simp] def a7d(g:D->Res D):Ql [] g=.bad:=rfl
@[simp] def a5e(a b:D)(l:List D)(g:D->Res D):Ql (a::b::l) g=.bad:=rfl
@[simp] def bd9(i j:Int)(f:Int->Int->Int)(g:D->Option Int):two [.int i,.int j] f g M=.ok (.int (f i j)) M:=rfl
@[simp] def atq(d:D)(f:Int->Int->Int)(g:D->Option Int):two [d] f g M=Res.uz ((g d).map D.int) M:=rfl
@[simp] def azq(Z:List D):Ru M (.tup Z)=.ok (.int Z.length) M:=rfl
@[simp] theorem ax1{M:cg}(n:Nat):ag2 M (.ref n)=match M[n]? with
 |some (.dT kvs)=>if Xw kvs then new (.dT kvs) M else .bad
 |some (.dK kvs)=>new (.dK kvs) M|_=>.bad:=rfl
def ag8:vz .len [.tup ds] M=.ok (.int ds.length) M:=rfl
def Cm(h:dm M d=some ds)(h0:0<=i)(hx:ds[i.toNat]?=some x):Aa d (.int i) M=some x:=by
 obtain⟨U,Z⟩:=ak.mp hx;have R:i<ds.length:=by lia
 cases d with
 |vl xs=>simp[dm] at h;subst h;simp[Aa,Bh,Xv,h0,R,U,Z]
 |ref n =>
  simp only[dm] at h;cases e:M[n]? with
  |none=>rw[e] at h;simp at h|some o=>rw[e] at h;cases o<;>simp at h<;>subst h<;>simp[Aa,dm,e,Xv,h0,R,U,Z]
 |_=>simp[dm] at h
def J8(h0:0<=i)(hx:ds[i.toNat]?=some x):Aa (.tup ds) (.int i) M=some x:=by
 obtain⟨U,Z⟩:=ak.mp hx;have R:i<ds.length:=by lia
 simp[Aa,Bh,Xv,h0,R,U,Z]
def a7e(h0:0<=i)(hx:ds[i.toNat]?=some x):Aa (.fz ds) (.int i) M=some x:=by
 obtain⟨U,Z⟩:=ak.mp hx;have R:i<ds.length:=by lia
 simp[Aa,Xv,h0,R,U,Z]
def am7:vz .len [.fz ds] M=.ok (.int ds.length) M:=rfl
@[simp] def bbx(x:D)(r:List D):Aa (.tup (x::r)) (.int 0) M=some x:=J8 (by decide) rfl
@[simp] def bby(x y:D)(r:List D):Aa (.tup (x::y::r)) (.int 1) M=some y:=J8 (by decide) rfl
@[simp] def bbz(x y z:D)(r:List D):Aa (.tup (x::y::z::r)) (.int 2) M=some z:=J8 (by decide) rfl
def V1(h:M[n]?=some (.dT kvs))(Z:J6 b=some k):Aa (.ref n) b M=wg kvs k:=by simp[Aa,h,Z]
def am8(h:M[n]?=some (.dT kvs))(Z:J6 b=some k):J7 M b (.ref n)=some (wg kvs k).isSome:=by simp[J7,h,Z]
def a7f(h:M[n]?=some (.dK kvs))(Z:Uu b=some k):Aa (.ref n) b M=wg kvs k:=by simp[Aa,h,Z]
@[simp] def Yn(i j:Int):J6 (.tup [.int i,.int j])=some [.inl i,.inl j]:=rfl
@[simp] def bh6(i:Int):Uu (.int i)=some (.inl i):=rfl
def Cu(h:M[n]?=some (.lst Z)):Jj .append (.ref n) M=true:=by simp[Jj,dm,h]
def Bu(h:M[n]?=some (.lst Z))(U:Z.length<100000):Gg .append (.ref n) [d] M=.ok .non (M.set n (.lst (Z++[d]))):=by simp[Gg,onL,onT,onK,h,U]
def Zx(h:M[n]?=some (.lst Z))(R:0<=i)(U:i<Z.length):setOp (.ref n) (.int i) d M=some (M.set n (.lst (Z.set i.toNat d))):=by simp[setOp,h,Xv,R,U]
def afd(h:M[n]?=some (.dT kvs))(Z:J6 b=some k)(U:kvs.length<100000):setOp (.ref n) b d M=some (M.set n (.dT (Dw kvs k d))):=by simp[setOp,h,Z,U]
def am9{Z:Type}[DecidableEq Z]{kvs:List (Z×D)}{k:Z}(h:∃p∈kvs,p.1=k):∃v,wg kvs k=some v:=by
 obtain⟨p,U,R⟩:=h;cases e:kvs.find? λp=>decide (p.1=k) with
 |none=>exact absurd R (by simpa using Be.mp e p U)|some q=>exact⟨q.2,by simp[wg,e]⟩
def rm{M:cg}(h:M[a]?=some o):a<M.length:=(ak.mp h).1
def p7{M:cg}(h:M[a]?=some p):(M.set a o)[a]?=some o:=by rw[zr (rm h)]
def jm{M:cg}(h:b≠a):(M.set b o)[a]?=M[a]?:=ux h
def uf{M:cg}{a:Nat}(h:M[a]?=some o):(M++X)[a]?=some o:=by rw[dq (rm h)];exact h
@[simp] def bb0{M:cg}:(M++[o])[M.length]?=some o:=by simp
theorem V2(x:Int):∀l,(insI x l).Perm (x::l)
 |[]=>yw _
 |y::l=>by
  unfold insI;split
  .exact yw _
  .exact((V2 x l).cons y).trans (List.Perm.swap x y l)
theorem Ce:∀l,(sortI l).Perm l
 |[]=>yw _|x::l=>(V2 x _).trans ((Ce l).cons x)
theorem ana(x:Int):∀{l:Xs},l.Pairwise (·<=·)->(insI x l).Pairwise (·<=·)
 |[],_=>List.pairwise_singleton _ _
 |y::l,h=>by
  obtain⟨U,R⟩:=zy.mp h;unfold insI;split
  .refine zy.mpr ⟨λz Z=>?_,h⟩
   rcases bz.mp Z with rfl|Z
   .lia
   .have:=U z Z;lia
  .refine zy.mpr ⟨λz Z=>?_,ana x R⟩
   rcases bz.mp ((V2 x l).mem_iff.mp Z) with rfl|Z
   .lia
   .exact U z Z
theorem U8:∀l,(sortI l).Pairwise (·<=·)
 |[]=>List.Pairwise.nil|x::l=>ana x (U8 l)
set_option tactic.hygienic true in
theorem Rz(k:Int):∀l,k∈Ak l↔k∈l
 |[]=>Iff.rfl
 |x::l=>by
  unfold Ak;split
  .rename_i h
   rw[Rz k l,bz];exact⟨.inr,λz=>z.elim (λe=>e▸h) id⟩
  .rw[bz,bz,Rz k l]
set_option tactic.hygienic true in
theorem Zy:∀l,(Ak l).Nodup
 |[]=>v8
 |x::l=>by
  unfold Ak;split
  .exact Zy l
  .rename_i h
   exact qp.mpr ⟨λz=>h ((Rz x l).mp z),Zy l⟩
theorem anb:∀l,(Ak l).length<=l.length
 |[]=>bc _
 |x::l=>by
  have:=anb l;unfold Ak;split<;>simp<;>omega
theorem ag9:∀{a b:Xs},a.Pairwise (·<=·)->b.Pairwise (·<=·)->a.Nodup->b.Nodup->(∀k,k∈a↔k∈b)->a=b
 |[],[],_,_,_,_,_=>rfl|[],y::b,_,_,_,_,h=>nomatch(h y).mpr cz|x::a,[],_,_,_,_,h=>nomatch(h x).mp cz
 |x::a,y::b,ha,hb,na,nb,h=>by
  obtain⟨a1,R⟩:=zy.mp ha;obtain⟨Z,U⟩:=zy.mp hb;obtain⟨c1,c2⟩:=qp.mp na;obtain⟨d1,d2⟩:=qp.mp nb;have e:x=y:=by
   rcases bz.mp ((h x).mp cz) with e|m
   .exact e
   .rcases bz.mp ((h y).mpr cz) with e|m'
    .exact e.symm
    .have:=Z x m;have:=a1 y m';lia
  subst e
  congr 1
  refine ag9 R U c2 d2 λk=>⟨λm=>?_,λm=>?_⟩
  .rcases bz.mp ((h k).mp (bf _ m)) with rfl|m'
   .exact absurd m c1
   .exact m'
  .rcases bz.mp ((h k).mpr (bf _ m)) with rfl|m'
   .exact absurd m d1
   .exact m'
def aha(U:ns.Pairwise (·<=·))(R:ns.Nodup)(Z:∀k,k∈l↔k∈ns):ns=sortI (Ak l) :=
 ag9 U (U8 _) R ((Ce _).nodup_iff.mpr (Zy l)) λk=>by rw[(Ce _).mem_iff,Rz,Z]
theorem Zz{fin:cg->Bool}{item:Nat->cg->Option D}{R:D->Env->cg->Res (Flow×Env)}(I:Nat->Env->cg->Prop){n:Nat}
 (step:∀i Z M,i<n->I i Z M->∃d fl U M',item i M=some d/\R d Z M=.ok (fl,U) M'/\(fl=.next\/fl=.cont)/\I (i+1) U M') (Pu:∀Z M,I n Z M->fin M=true) :
 ∀(k i:Nat)(Z:Env)(M:cg),i+k=n->I i Z M->∃U M',Br fin item R k i Z M=.ok (.next,U) M'/\I n U M'
 |0,i,Z,M,e,h=>by
  have q:i=n:=by lia
  rw[q] at h;exact⟨Z,M,by simp[Br,Pu Z M h],h⟩
 |k+1,i,Z,M,e,h=>by
  obtain⟨d,fl,qq,M1,h1,h2,h3,h4⟩:=step i Z M (by lia) h;obtain⟨qk,M2,g1,g2⟩:=Zz I step Pu k (i+1) qq M1 (by lia) h4;refine⟨qk,M2,?_,g2⟩;rcases h3 with rfl|rfl<;>simp[Br,h1,h2,g1]
def U9(I:Nat->Env->cg->Prop)(h0:I 0 U M)(step:∀i d U M,ds[i]?=some d->I i U M->∃R Z M',body d U M=.ok (R,Z) M'/\(R=.next\/R=.cont)/\I (i+1) Z M') :
 ∃Z M',Br (Src.con ds).fin (Src.con ds).item body (Src.con ds).len 0 U M=.ok (.next,Z) M'/\I ds.length Z M':=by
 refine Zz I (λi U M hi h=>?_) (λ_ _ _=>rfl) ds.length 0 U M (uw _) h0;obtain⟨R,Z,M',a,b,c⟩:=step i ds[i] U M (by simp[hi]) h;exact⟨ds[i],R,Z,M',by simp[Src.item,hi],a,b,c⟩
def Z0(I:Nat->Env->cg->Prop)(h0:I 0 ρ M)(step:∀i ρ M,i<n->I i ρ M->∃R Z M',body (.int i) ρ M=.ok (R,Z) M'/\(R=.next\/R=.cont)/\I (i+1) Z M') :
 ∃Z M',Br (Src.con ((List.range n).map λ(k:Nat)=>D.int (k:Int))).fin (Src.con ((List.range n).map λ(k:Nat)=>D.int (k:Int))).item body (Src.con ((List.range n).map λ(k:Nat)=>D.int (k:Int))).len 0 ρ M=.ok (.next,Z) M'/\I n Z M':=by
 have:=U9 (ds:=(List.range n).map λ(k:Nat)=>D.int (k:Int)) (body:=body) I h0 (λi d ρ M U h=>by
  have hi:i<n:=by have:=(ak.mp U).1;simpa using this
  rw[iw,xq hi] at U;have U:D.int (i:Int)=d:=by simpa using U
  subst U;exact step i ρ M hi h)
 simpa using this
def anc(I:Nat->Env->cg->Prop)(h0:I 0 U M)(stay:∀i U M,I i U M->M[p]?=some (.lst ds))(step:∀i d U M,ds[i]?=some d->I i U M->∃R Z M',body d U M=.ok (R,Z) M'/\(R=.next\/R=.cont)/\I (i+1) Z M') :
 ∃Z M',Br (Src.live p ds.length).fin (Src.live p ds.length).item body (Src.live p ds.length).len 0 U M=.ok (.next,Z) M'/\I ds.length Z M':=by
 refine Zz I (λi U M hi h=>?_) (λU M h=>by simp[Src.fin,stay _ U M h]) ds.length 0 U M (uw _) h0;obtain⟨R,Z,M',a,b,c⟩:=step i ds[i] U M (by simp[hi]) h;exact⟨ds[i],R,Z,M',by simp[Src.item,stay i U M h,hi],a,b,c⟩
theorem G9{fin:cg->Bool}{item:Nat->cg->Option D}{body:D->cg->Res (Option D)}(I:Nat->List D->cg->Prop){n:Nat}
 (step:∀i Z M,i<n->I i Z M->∃d o U,item i M=some d/\body d M=.ok o U/\I (i+1) (Z++o.toList) U) (Pu:∀Z M,I n Z M->fin M=true) :
 ∀(k i:Nat)(Z:List D)(M:cg),i+k=n->I i Z M->∃R U,Dg fin item body k i M=.ok R U/\I n (Z++R) U
 |0,i,Z,M,e,h=>by
  have q:i=n:=by lia
  rw[q] at h;exact⟨[],M,by simp[Dg,Pu Z M h],by simpa using h⟩
 |k+1,i,Z,M,e,h=>by
  obtain⟨d,o,M1,h1,h2,h3⟩:=step i Z M (by lia) h;obtain⟨R,M2,g1,g2⟩:=G9 I step Pu k (i+1) (Z++o.toList) M1 (by lia) h3;refine⟨o.toList++R,M2,?_,by rw[<- j6];exact g2⟩;cases o<;>simp[Dg,h1,h2,g1]
def R8{s:Src}{ds:List D}(Pu:s.fin M=true)(hl:s.len=ds.length)(hi:∀i,i<ds.length->s.item i M=ds[i]?)(h:∀d∈ds,body d M=.ok (g d) M) :
 Dg s.fin s.item body s.len 0 M=.ok (ds.filterMap g) M:=by
 obtain⟨ys,Z,e,h1,h2⟩:=G9 (fin:=s.fin) (item:=s.item) (body:=body) (λi R Z=>Z=M/\R=(ds.take i).filterMap g) (n:=ds.length) (λi R Z U hI=>by
  obtain⟨rfl,rfl⟩:=hI;refine⟨ds[i],g ds[i],Z,by rw[hi i U];simp[U],h _ (p8 U),rfl,?_⟩;rw[List.take_succ,List.filterMap_append];simp[U];cases e:g ds[i]<;>simp[e]) (λR Z h=>by rw[h.1];exact Pu) ds.length 0 [] M (uw _) ⟨rfl,rfl⟩
 rw[hl,e,h1];simp at h2;rw[h2]
def ane(h:∀d∈ds,body d M=.ok (some (g d)) M) :
 Dg (Src.con ds).fin (Src.con ds).item body (Src.con ds).len 0 M=.ok (ds.map g) M:=by
 rw[R8 (s:=.con ds) (ds:=ds) (g:=λd=>some (g d)) rfl rfl (λi _=>rfl) h,List.filterMap_eq_map']
end MW
namespace MW
theorem G8{c:Env->cg->Res D}{body:Env->cg->Res (Flow×Env)}(I:Nat->Env->cg->Prop)(R9:Env->cg->Prop)
 (step:∀m U M,I m U M->(∃R,c U M=.ok (.bl false) R/\R9 U R) \/
  ∃R fl Z M2 m',c U M=.ok (.bl true) R/\body U R=.ok (fl,Z) M2/\(fl=.next\/fl=.cont)/\m'<m/\I m' Z M2) :
 ∀(k m:Nat)(U:Env)(M:cg),m<k->I m U M->∃Z M',Ft c body k U M=.ok (.next,Z) M'/\R9 Z M'
 |0,m,_,_,h,_=>absurd h (u9 _)
 |k+1,m,U,M,h,hI=>by
  rcases step m U M hI with⟨R,h1,h2⟩|⟨R,fl,qq,M2,m',h1,h2,h3,h4,h5⟩
  .exact⟨U,R,by simp[Ft,h1],h2⟩
  .obtain⟨qk,M3,g1,g2⟩:=G8 I R9 step k m' qq M2 (b_ h4 (z_ h)) h5
   refine⟨qk,M3,?_,g2⟩;rcases h3 with rfl|rfl<;>simp[Ft,h1,h2,g1]
end MW
namespace MW
noncomputable def Ay(M Z:cg):Prop:=∀(a:Nat)(o:MO),M[a]?=some o->Z[a]?=some o
def Ay.refl(M:cg):Ay M M:=λ_ _ h=>h
def Ay.trans(a:Ay M Z)(b:Ay Z M2):Ay M M2:=λx o h=>b x o (a x o h)
def Ay.app(M X:cg):Ay M (M++X):=λ_ _ h=>uf h
def Ay.len(k:Ay M Z):M.length<=Z.length:=by
 rcases Nat.eq_zero_or_pos M.length with h|h
 .exact a_ (f_ h) (jr _)
 .have:=rm (k (M.length-1) M[M.length-1] (by simp))
  lia
theorem Ay.dm(k:Ay M Z)(h:dm M d=some ds):MW.dm Z d=some ds:=by
 cases d with
 |vl U=>exact h
 |ref n =>
  simp only[MW.dm] at h ⊢;cases e:M[n]? with
  |none=>rw[e] at h;simp at h|some o=>rw[e] at h;rw[k n o e];exact h
 |_=>simp[MW.dm] at h
def V3(I:Nat->Env->cg->Prop)(U:dm M d=some ds)(h0:I 0 ρ M)(stay:∀i ρ M,I i ρ M->dm M d=some ds)(step:∀i x ρ M,ds[i]?=some x->I i ρ M->∃R Z M',body x ρ M=.ok (R,Z) M'/\(R=.next\/R=.cont)/\I (i+1) Z M') :
 ∃s,srcOf M d=some s/\∃Z M',Br s.fin s.item body s.len 0 ρ M=.ok (.next,Z) M'/\I ds.length Z M':=by
 cases d with
 |vl xs=>simp[dm] at U;subst U;exact⟨_,rfl,U9 I h0 step⟩
 |ref n =>
  cases e:M[n]? with
  |none=>simp[dm,e] at U
  |some o =>
   cases o with
   |lst xs =>
    simp[dm,e] at U;subst U;refine⟨.live n xs.length,by simp[srcOf,e],anc I h0 (λi ρ M h=>?_) step⟩;have:=stay i ρ M h;simp only[dm] at this;split at this<;>simp_all
   |_=>simp[dm,e] at U
 |_=>simp[dm] at U
def ahb(Z:ds.length<=100000)(h:∀d∈ds,body d M=.ok (some (g d)) M):Ai (.con ds) body M=.ok (ds.map g) M:=by rw[Ai,cj (show(Src.con ds).len<=100000 from Z)];exact ane h
def ab4(Z:ds.length<=100000)(h:∀d∈ds,body d M=.ok (g d) M):Ai (.con ds) body M=.ok (ds.filterMap g) M:=by rw[Ai,cj (show(Src.con ds).len<=100000 from Z)];exact R8 (s:=.con ds) rfl rfl (λ_ _=>rfl) h
def Mg(Z:dm M d=some ds)(R:ds.length<=100000)(h:∀x∈ds,body x M=.ok (g x) M) :
 ∃s,srcOf M d=some s/\Ai s body M=.ok (ds.filterMap g) M:=by
 cases d with
 |vl U=>simp[dm] at Z;subst Z;exact⟨_,rfl,ab4 R h⟩
 |ref n =>
  cases e:M[n]? with
  |none=>simp[dm,e] at Z
  |some o =>
   cases o with
   |lst U =>
    simp[dm,e] at Z;subst Z;exact⟨.live n U.length,by simp[srcOf,e],by rw[Ai,cj (show(Src.live n U.length).len<=100000 from R)];exact R8 (s:=.live n U.length) (by simp[Src.fin,e]) rfl (λi _=>by simp[Src.item,e]) h⟩
   |_=>simp[dm,e] at Z
 |_=>simp[dm] at Z
def Jl(v:Bool)(k:Nat)(t:Tg)(it:Lj)(e:Ex):(Ex.comp v k t it e).den W U M=(it.den W U M).bind λs M1 =>
 (Ai s (λd M=>(Res.uz (t.put d (U++List.replicate k none)) M).bind λZ M=>(e.den W Z M).bind λx M'=>.ok (some x) M') M1).bind λR M2=>if v then .ok (.vl R) M2 else new (.lst R) M2:=by
 rw[Ma]
 congr 1;funext s M1;congr 2;funext d M
 cases t.put d (U++List.replicate k none)<;>rfl
def Mh(v:Bool)(k:Nat)(t:Tg)(it:Lj)(c e:Ex):(Ex.Ci v k t it c e).den W R M=(it.den W R M).bind λs M1 =>
 (Ai s (λd M=>(Res.uz (t.put d (R++List.replicate k none)) M).bind λZ M=>(c.den W Z M).bind λb M' =>
  match b with
   |.bl true=>(e.den W Z M').bind λx U=>.ok (some x) U
   | .bl false=>.ok none M'|_=>.bad) M1).bind λds M2=>if v then .ok (.vl ds) M2 else new (.lst ds) M2:=by
 rw[Vz]
 congr 1;funext s M1;congr 2;funext d M
 cases t.put d (R++List.replicate k none)<;>rfl
def Oh(t:Tg)(it:Lj)(b:o6):(Bp.for_ t it b).den W Z M=(it.den W Z M).bind λs M1=>Br s.fin s.item (λd Z M=>(Res.uz (t.put d Z) M).bind λU M=>b.den W U M) s.len 0 Z M1:=by
 rw[Ry]
 congr 1;funext s M1;congr 1;funext d Z M
 cases t.put d Z<;>rfl
def yo(qq:it.den W ρ M=.ok (.int (n:Int)) M1)(hn:n<=100000)(I:Nat->Env->cg->Prop)(h0:I 0 ρ M1)(step:∀i ρ M,i<n->I i ρ M->∃U R Z M',t.put (.int i) ρ=some U/\b.den W U M=.ok (R,Z) M'/\(R=.next\/R=.cont)/\I (i+1) Z M') :
 ∃Z M',(Bp.for_ t (.K4 it) b).den W ρ M=.ok (.next,Z) M'/\I n Z M':=by
 rw[Oh,Og,qq];have Oo:((n:Int)).natAbs<=100000:=by lia
 simp only[Res.Am,Oo,j5,t8];exact Z0 I h0 (λi ρ M hi h=>by
  obtain⟨U,R,Z,M',a,b,c,d⟩:=step i ρ M hi h;exact⟨R,Z,M',by rw[a];exact b,c,d⟩)
def J9(qq:it.den W ρ M=.ok d M1)(hd:dm M1 d=some ds)(I:Nat->Env->cg->Prop)(h0:I 0 ρ M1)(stay:∀i ρ M,I i ρ M->dm M d=some ds)(step:∀i x ρ M,ds[i]?=some x->I i ρ M->∃U R Z M',t.put x ρ=some U/\b.den W U M=.ok (R,Z) M'/\(R=.next\/R=.cont)/\I (i+1) Z M') :
 ∃Z M',(Bp.for_ t (.val it) b).den W ρ M=.ok (.next,Z) M'/\I ds.length Z M':=by
 rw[Oh,Ih,qq];obtain⟨s,h1,h2⟩:=V3 (body:=λd ρ M=>(Res.uz (t.put d ρ) M).bind λZ M=>b.den W Z M) I hd h0 stay (λi x ρ M hx h=>by
  obtain⟨U,R,Z,M',a,b,c,d⟩:=step i x ρ M hx h;exact⟨R,Z,M',by rw[a];exact b,c,d⟩)
 simp only[Res.Am,h1,Res.Bt];exact h2
def ab5(qq:it.den W ρ M=.ok (.tup ds) M1)(I:Nat->Env->cg->Prop)(h0:I 0 ρ M1)(step:∀i x ρ M,ds[i]?=some x->I i ρ M->∃U R Z M',t.put x ρ=some U/\b.den W U M=.ok (R,Z) M'/\(R=.next\/R=.cont)/\I (i+1) Z M') :
 ∃Z M',(Bp.for_ t (.val it) b).den W ρ M=.ok (.next,Z) M'/\I ds.length Z M':=by
 rw[Oh,Ih,qq];exact U9 I h0 (λi x ρ M hx h=>by
  obtain⟨U,R,Z,M',a,b,c,d⟩:=step i x ρ M hx h;exact⟨R,Z,M',by rw[a];exact b,c,d⟩)
def T3(qk:it.den W ρ M=.ok (.tup ds) M1)(I:Nat->Env->cg->Prop)(h0:I 0 ρ M1)(step:∀i x ρ M,ds[i]?=some x->I i ρ M->∃U fl Z M',t.put (.tup [.int i,x]) ρ=some U/\b.den W U M=.ok (fl,Z) M'/\(fl=.next\/fl=.cont)/\I (i+1) Z M') :
 ∃Z M',(Bp.for_ t (.enm it) b).den W ρ M=.ok (.next,Z) M'/\I ds.length Z M':=by
 rw[Oh,ag6,qk];have:=U9 (ds:=Cj ds 0) (body:=λd ρ M=>(Res.uz (t.put d ρ) M).bind λZ M=>b.den W Z M) I h0 (λi x ρ M hx h=>by
  have R:i<ds.length:=by have:=(ak.mp hx).1;simpa[Cj] using this
  have qq:x=.tup [.int i,ds[i]]:=by simp[Cj,R] at hx;exact hx.symm
  subst qq;obtain⟨U,fl,Z,M',a,b,c,d⟩:=step i ds[i] ρ M (by simp[R]) h;exact⟨fl,Z,M',by rw[a];exact b,c,d⟩)
 have e:(Cj ds 0).length=ds.length:=by simp[Cj]
 rw[e] at this;exact this
def Av(R:it.den W ρ M=.ok d M1)(hd:dm M1 d=some ds)(hl:ds.length<=100000)(h:∀x∈ds,∃Z,t.put x (ρ++List.replicate k none)=some Z/\e.den W Z M1=.ok (g x) M1) :
 (Ex.comp v k t (.val it) e).den W ρ M=if v then .ok (.vl (ds.map g)) M1 else new (.lst (ds.map g)) M1:=by
 rw[Jl,Ih,R];obtain⟨s,h1,h2⟩:=Mg (g:=λx=>some (g x)) (body:=λd M=>(Res.uz (t.put d (ρ++List.replicate k none)) M).bind λU M=>(e.den W U M).bind λx M'=>.ok (some x) M') hd hl (λx hx=>by
  obtain⟨Z,a,b⟩:=h x hx;rw[a];simp[b])
 simp only[Res.Am,h1,Res.Bt,h2,List.filterMap_eq_map']
def Z3(U:it.den W ρ M=.ok (.tup ds) M1)(hl:ds.length<=100000)(h:∀x∈ds,∃Z,t.put x (ρ++List.replicate k none)=some Z/\e.den W Z M1=.ok (g x) M1) :
 (Ex.comp v k t (.val it) e).den W ρ M=if v then .ok (.vl (ds.map g)) M1 else new (.lst (ds.map g)) M1:=by
 rw[Jl,Ih,U];have h2:=ahb (g:=g) (M:=M1) (body:=λd M=>(Res.uz (t.put d (ρ++List.replicate k none)) M).bind λR M=>(e.den W R M).bind λx M'=>.ok (some x) M') hl (λx hx=>by
  obtain⟨Z,a,b⟩:=h x hx;rw[a];simp[b])
 show(Ai (.con ds) _ M1).bind _=_;rw[h2];rfl
def Mi(U:it.den W R M=.ok (.int (n:Int)) M1)(hl:n<=100000)(h:∀i,i<n->∃Z,t.put (.int i) (R++List.replicate k none)=some Z/\c.den W Z M1=.ok (.bl (q i)) M1/\(q i=true->e.den W Z M1=.ok (g i) M1)) :
 (Ex.Ci v k t (.K4 it) c e).den W R M=if v then .ok (.vl (((List.range n).filter q).map g)) M1 else new (.lst (((List.range n).filter q).map g)) M1:=by
 rw[Mh,Og,U];have Oo:((n:Int)).natAbs<=100000:=by lia
 simp only[Res.Am,Oo,j5,t8];rw[ab4 (ds:=(List.range n).map λ(k:Nat)=>D.int (k:Int)) (g:=λd=>match d with|.int i=>if q i.toNat then some (g i.toNat) else none|_=>none) (by simpa using hl) (λx hx=>by
  obtain⟨i,hi,rfl⟩:=bh.mp hx;obtain⟨Z,a,b,c⟩:=h i (jx.mp hi);rw[a,Res.Bt,Res.Am,b,Res.Am];cases e:q i with
  | true=>simp[e,c e]|false=>simp[e])]
 have:(((List.range n).map λ(k:Nat)=>D.int (k:Int)).filterMap λd=>match d with|.int i=>if q i.toNat then some (g i.toNat) else none|_=>none)=((List.range n).filter q).map g:=by
  rw[List.filterMap_map]
  induction List.range n with
  |nil=>rfl|cons a l ih=>by_cases e:q a=true<;>simp[e,ih]
 rw[this];rfl
theorem ahc{fin:cg->Bool}{item:Nat->cg->Option D}{body:D->Env->cg->Res (Flow×Env)}(I:Nat->Env->cg->Prop)(R9:Env->cg->Prop){n:Nat}
 (step:∀i Z M,i<n->I i Z M->∃d fl U R,item i M=some d/\body d Z M=.ok (fl,U) R/\(((fl=.next\/fl=.cont)/\I (i+1) U R)\/(fl=.brk/\R9 U R))) (Pu:∀Z M,I n Z M->fin M=true/\R9 Z M) :
 ∀(k i:Nat)(Z:Env)(M:cg),i+k=n->I i Z M->∃U R,Br fin item body k i Z M=.ok (.next,U) R/\R9 U R
 |0,i,Z,M,e,h=>by
  have q:i=n:=by lia
  rw[q] at h;exact⟨Z,M,by simp[Br,(Pu Z M h).1],(Pu Z M h).2⟩
 |k+1,i,Z,M,e,h=>by
  obtain⟨d,fl,qq,M1,h1,h2,⟨h3,h4⟩|⟨rfl,h4⟩⟩:=step i Z M (by lia) h
  .obtain⟨qk,M2,g1,g2⟩:=ahc I R9 step Pu k (i+1) qq M1 (by lia) h4
   refine⟨qk,M2,?_,g2⟩;rcases h3 with rfl|rfl<;>simp[Br,h1,h2,g1]
  .exact⟨qq,M1,by simp[Br,h1,h2],h4⟩
def ab6(qq:it.den W U M=.ok (.int (n:Int)) M1)(hn:n<=100000)(I:Nat->Env->cg->Prop)(R9:Env->cg->Prop)(h0:I 0 U M1)(hp:∀U M,I n U M->R9 U M)(step:∀i U M,i<n->I i U M->∃R fl Z M',t.put (.int i) U=some R/\b.den W R M=.ok (fl,Z) M'/\(((fl=.next\/fl=.cont)/\I (i+1) Z M')\/(fl=.brk/\R9 Z M'))) :
 ∃Z M',(Bp.for_ t (.K4 it) b).den W U M=.ok (.next,Z) M'/\R9 Z M':=by
 rw[Oh,Og,qq];have Oo:((n:Int)).natAbs<=100000:=by lia
 simp only[Res.Am,Oo,j5,t8];obtain⟨Z,M',e,h⟩:=ahc (fin:=(Src.con ((List.range n).map λ(k:Nat)=>D.int (k:Int))).fin) (item:=(Src.con ((List.range n).map λ(k:Nat)=>D.int (k:Int))).item) (body:=λd U M=>(Res.uz (t.put d U) M).bind λZ M=>b.den W Z M) I R9 (n:=n) (λi U M hi h=>by
  obtain⟨R,fl,Z,M',a,b,c⟩:=step i U M hi h;exact⟨.int i,fl,Z,M',by simp[Src.item,hi],by rw[a];exact b,c⟩) (λU M h=>⟨rfl,hp U M h⟩) n 0 U M1 (uw _) h0
 have hl:(Src.con ((List.range n).map λ(k:Nat)=>D.int (k:Int))).len=n:=by simp[Src.len]
 rw[hl];exact⟨Z,M',e,h⟩
def Z4(qq:it.den W ρ M=.ok (.int (n:Int)) M1)(hn:n<=100000)(I:Nat->List D->cg->Prop)(h0:I 0 [] M1)(step:∀i R M,i<n->I i R M->∃Z x M',t.put (.int i) (ρ++List.replicate k none)=some Z/\e.den W Z M=.ok x M'/\I (i+1) (R++[x]) M') :
 ∃U M',(Ex.comp v k t (.K4 it) e).den W ρ M=(if v then .ok (.vl U) M' else new (.lst U) M')/\I n U M':=by
 rw[Jl,Og,qq];have Oo:((n:Int)).natAbs<=100000:=by lia
 simp only[Res.Am,Oo,j5,t8];obtain⟨U,M',g,h⟩:=G9 (fin:=(Src.con ((List.range n).map λ(k:Nat)=>D.int (k:Int))).fin) (item:=(Src.con ((List.range n).map λ(k:Nat)=>D.int (k:Int))).item) (body:=λd M=>(Res.uz (t.put d (ρ++List.replicate k none)) M).bind λqk M=>(e.den W qk M).bind λx M'=>.ok (some x) M') I (n:=n) (λi R M hi h=>by
  obtain⟨Z,x,M',a,b,c⟩:=step i R M hi h;exact⟨.int i,some x,M',by simp[Src.item,hi],by rw[a];simp[b],by simpa using c⟩) (λ_ _ _=>rfl) n 0 [] M1 (uw _) h0
 have hl:(Src.con ((List.range n).map λ(k:Nat)=>D.int (k:Int))).len=n:=by simp[Src.len]
 refine⟨U,M',?_,by simpa using h⟩;rw[Ai,hl,cj hn,g];rfl
set_option tactic.hygienic true in
def Fv(J:it.den W ρ M=.ok d M1)(U:dm M1 d=some ds)(u:ds.length<=100000)(I:Nat->List D->cg->Prop)(h0:I 0 [] M1)(stay:∀i Z M,I i Z M->dm M d=some ds)(step:∀i y Z M,ds[i]?=some y->I i Z M->∃Y x M',t.put y (ρ++List.replicate k none)=some Y/\e.den W Y M=.ok x M'/\I (i+1) (Z++[x]) M') :
 ∃G M',(Ex.comp v k t (.val it) e).den W ρ M=(if v then .ok (.vl G) M' else new (.lst G) M')/\I ds.length G M':=by
 rw[Jl,Ih,J];obtain⟨s,hs,R,S,hf⟩:∃s,srcOf M1 d=some s/\s.len=ds.length/\(∀M i,dm M d=some ds->s.item i M=ds[i]?)/\∀M,dm M d=some ds->s.fin M=true:=by
  cases d with
  |vl zs=>cases U;exact⟨.con ds,rfl,rfl,λ_ _ _=>rfl,λ_ _=>rfl⟩
  |ref p =>
   have get:∀{M:cg},dm M (.ref p)=some ds->M[p]?=some (.lst ds):=fun{M} h=>by
    simp only[dm] at h;split at h
    .rename_i z;cases h;exact z
    .cases h
   refine⟨.live p ds.length,by simp[srcOf,get U],rfl,λM i h=>by simp[Src.item,get h],λM h=>by simp[Src.fin,get h]⟩
  |_=>cases U
 simp only[Res.Am,hs,Res.Bt];obtain⟨G,M',g,h⟩:=G9 (fin:=s.fin) (item:=s.item) (body:=λd M=>(Res.uz (t.put d (ρ++List.replicate k none)) M).bind λC M=>(e.den W C M).bind λx M'=>.ok (some x) M') I (n:=ds.length) (λi Z M L h=>by
  obtain⟨Y,x,M',a,b,c⟩:=step i ds[i] Z M (by simp[L]) h;exact⟨ds[i],some x,M',by rw[S M i (stay i Z M h)];simp[L],by rw[a];simp[b],by simpa using c⟩) (λZ M h=>hf M (stay _ Z M h)) ds.length 0 [] M1 (uw _) h0
 refine⟨G,M',?_,by simpa using h⟩;rw[Ai,R,cj u,g];rfl
noncomputable abbrev Goes(I:Nat->Env->cg->Prop)(R:D->cg->Prop)(i:Nat)(r:Res (Flow×Env)):Prop:=∃fl ρ' M',r=.ok (fl,ρ') M'/\((fl=.next/\I i ρ' M')\/∃v,fl=.ret v/\R v M')
theorem ahd{fin:cg->Bool}{item:Nat->cg->Option D}{U:D->Env->cg->Res (Flow×Env)}(I:Nat->Env->cg->Prop)(R:D->cg->Prop){n:Nat}
 (step:∀i Z M,i<n->I i Z M->∃d,item i M=some d/\Goes I R (i+1) (U d Z M)) (hf:∀Z M,I n Z M->fin M=true) :
 ∀k i Z M,i+k=n->I i Z M->Goes I R n (Br fin item U k i Z M)
 |0,i,Z,M,e,h=>by
  obtain rfl:i=n:=by lia
  exact⟨_,Z,M,by simp[Br,hf Z M h],.inl ⟨rfl,h⟩⟩
 |k+1,i,Z,M,e,h=>by
  obtain⟨d,h1,fl,qq,M',h2,⟨rfl,h4⟩|⟨v,rfl,h4⟩⟩:=step i Z M (by lia) h
  .have:=ahd I R step hf k (i+1) qq M' (by lia) h4
   simpa[Br,h1,h2] using this
  .exact⟨.ret v,qq,M',by simp[Br,h1,h2],.inr ⟨v,rfl,h4⟩⟩
section
variable{W:Gh}{ρ:Env}{M M1:cg}{t:Tg}{b:o6}
def atu{it:Lj}{s:Src}{n:Nat}(U:it.den W ρ M=.ok s M1)(hn:s.len=n)(I:Nat->Env->cg->Prop)(R:D->cg->Prop)(h0:I 0 ρ M1)(hf:∀ρ M,I n ρ M->s.fin M=true)
 (step:∀i ρ M,i<n->I i ρ M->∃d Z,s.item i M=some d/\t.put d ρ=some Z/\Goes I R (i+1) (b.den W Z M)):Goes I R n ((Bp.for_ t it b).den W ρ M):=by
 rw[Oh,U,Res.Am,hn];exact ahd I R (λi ρ M hi h=>by
  obtain⟨d,Z,a,b,c⟩:=step i ρ M hi h;exact⟨d,a,by rw[b];exact c⟩) hf n 0 ρ M1 (uw n) h0
def Mj{it:Lj}{s:Src}{n:Nat}(R:it.den W ρ M=.ok s M1)(hn:s.len=n)(I:Nat->Env->cg->Prop)(h0:I 0 ρ M1)(hf:∀ρ M,I n ρ M->s.fin M=true)
 (step:∀i ρ M,i<n->I i ρ M->∃d U,s.item i M=some d/\t.put d ρ=some U/\∃Z M',b.den W U M=.ok (.next,Z) M'/\I (i+1) Z M'):∃Z M',(Bp.for_ t it b).den W ρ M=.ok (.next,Z) M'/\I n Z M':=by
 obtain⟨fl,Z,M',e,⟨rfl,h⟩|⟨v,rfl,h⟩⟩:=atu R hn I (λ_ _=>False) h0 hf λi ρ M hi h=>by obtain⟨d,U,a,b,Z,M',c,e⟩:=step i ρ M hi h;exact⟨d,U,a,b,.next,Z,M',c,.inl ⟨rfl,e⟩⟩
 .exact⟨Z,M',e,h⟩
 .exact h.elim
end
end MW
namespace K14
open MW
noncomputable section
def Jm:o6:=.c (.expr (.call 9 (.p (.v 1) (.v 2)))) (.c (.expr (.call 10 (.p (.v 2) (.v 3)))) (.c (.expr (.call 11 (.p (.v 2) (.v 3)))) (.q (.asg (.fld (.v 0) 2) (.v 1)) (.asg (.fld (.v 0) 1) (.v 2)) (.asg (.fld (.v 0) 0) (.blt .dict (.o (.v 3)))))))
def Jo:Fn:=⟨4,4,Jm⟩
def Uv:o6:=.o (.ret (.fld (.v 0) 2))
def Uw:Fn:=⟨1,1,Uv⟩
def Jp:o6:=.o (.ret (.fld (.v 0) 1))
def Jq:Fn:=⟨1,1,Jp⟩
def Sd:o6:=.o (.expr (.call 21 (.o (.i 0))))
def Sg:Fn:=⟨3,3,Sd⟩
def Sh:Ex:=.Ci true 2 (.names [2,3]) (.enm (.fld (.v 0) 1)) (.cmp .eq (.ix (.v 3) (.i 0)) (.v 1)) (.v 2)
def V4:o6:=.o (.ret (.bin .aji (.Iw (.o (.i (-1)))) Sh))
def V5:Fn:=⟨2,2,V4⟩
def Xx:o6:=.p (.f (.cmp .eq (.v 2) (.i (-1))) (.o (.ret (.v 1)))) (.ret (.ix (.ix (.fld (.v 0) 1) (.v 2)) (.i 1)))
def Xy:Fn:=⟨3,3,Xx⟩
def Ii:o6:=.q (.f (.cmp .eq (.v 1) (.i (-1))) (.o (.ret (.v 2)))) (.f (.cmp .eq (.v 2) (.i (-1))) (.o (.ret (.v 1)))) (.ret (.ix (.v 0) (.tup (.p (.v 1) (.v 2)))))
def Ij:Fn:=⟨3,3,Ii⟩
def Bj:o6:=.o (.f (.cmp .eq (.ix (.v 3) (.i 1)) (.ix (.v 5) (.i 0))) (.o (.expr (.bm .append (.v 1) (.o (.tup (.p (.v 2) (.v 4))))))))
def Ik:Bp:=.for_ (.names [4,5]) (.enm (.v 0)) Bj
def Dz:o6:=.o Ik
def Il:Bp:=.for_ (.names [2,3]) (.enm (.v 0)) Dz
def K5:o6:=.q (.a 1 (.lst .z)) Il (.ret (.v 1))
def K6:Fn:=⟨1,6,K5⟩
def Es:o6:=.p (.f (.cmp .eq (.v 1) (.i (-1))) (.o (.ret (.cmp .eq (.v 2) (.v 3))))) (.ret (.and (.chain .le .lt (.i 0) (.v 1) (.l (.v 0))) (.cmp .eq (.ix (.v 0) (.v 1)) (.tup (.p (.v 2) (.v 3))))))
def Et:Fn:=⟨4,4,Es⟩
def Eu:o6:=.o (.f (.not (.and (.chain .le .lt (.i 0) (.ix (.v 2) (.i 0)) (.v 0)) (.chain .le .lt (.i 0) (.ix (.v 2) (.i 1)) (.v 0)))) (.o (.raise 1 (.o (.cst (.str (PySem.Str.ofString "a doing is from a kind to a kind")))))))
def Jr:Bp:=.for_ (.name 2) (.val (.v 1)) Eu
def Ml:o6:=.q (.f (.not (.chain .le .le (.i 1) (.v 0) (.i 3))) (.o (.raise 1 (.o (.cst (.str (PySem.Str.ofString "a pattern has one to three kinds"))))))) (.f (.cmp .gt (.l (.v 1)) (.i 5)) (.o (.raise 1 (.o (.cst (.str (PySem.Str.ofString "a pattern has at most five doings"))))))) Jr
def Mm:Fn:=⟨2,3,Ml⟩
def Gi:o6:=.o (.f (.not (.call 8 (.c (.v 0) (.q (.ix (.v 1) (.tup (.p (.v 3) (.v 4)))) (.ix (.ix (.v 0) (.v 3)) (.i 0)) (.ix (.ix (.v 0) (.v 4)) (.i 1)))))) (.o (.raise 1 (.o (.cst (.str (PySem.Str.ofString "two doings come to a way of their own ends")))))))
def K7:Bp:=.for_ (.names [3,4]) (.val (.v 2)) Gi
def Ow:o6:=.q (.a 2 (.call 7 (.o (.v 0)))) (.f (.Vv (.v 1) (.v 2)) (.o (.raise 1 (.o (.cst (.str (PySem.Str.ofString "a table tells of just the pairs of doings that meet"))))))) K7
def Ox:Fn:=⟨2,5,Ow⟩
def Dc:o6:=.c (.f (.cmp .K3 (.tup (.p (.v 4) (.v 5))) (.v 1)) (.o .cont)) (.q (.a 6 (.call 6 (.q (.v 1) (.ix (.v 1) (.tup (.p (.v 3) (.v 4)))) (.v 5)))) (.a 7 (.call 6 (.q (.v 1) (.v 3) (.ix (.v 1) (.tup (.p (.v 4) (.v 5))))))) (.f (.cmp .ne (.v 6) (.v 7)) (.o (.raise 1 (.o (.cst (.str (PySem.Str.ofString "three doings come to one way, however they are taken together"))))))))
def Js:Bp:=.for_ (.name 5) (.K4 (.l (.v 0))) Dc
def Ew:o6:=.o Js
def Jt:Bp:=.for_ (.names [3,4]) (.val (.v 2)) Ew
def Mp:o6:=.p (.a 2 (.call 7 (.o (.v 0)))) Jt
def Mq:Fn:=⟨2,8,Mp⟩
def Ha:o6:=.p (.f (.cmp .lt (.v 1) (.l (.v 0))) (.o (.ret (.ix (.v 0) (.v 1))))) (.ret (.i 0))
def Hb:Fn:=⟨2,2,Ha⟩
def Ka:o6:=.q (.a 2 (.call 12 (.p (.v 0) (.v 1)))) (.f (.cmp .ge (.v 2) (.bin .pow (.i 10) (.i 18))) (.o (.ret (.lst (.p (.bin .sub (.v 2) (.bin .pow (.i 10) (.i 18))) (.cst (.bl true))))))) (.ret (.lst (.p (.bin .mod (.v 2) (.i 2147483647)) (.cst (.bl false)))))
def Kc:Fn:=⟨2,3,Ka⟩
def Mr:o6:=.c (.f (.ix (.v 0) (.i 1)) (.q (.a 2 (.bin .mod (.ix (.v 0) (.i 0)) (.v 1))) (.asg (.sub (.v 0) (.i 0)) (.bin .fdiv (.ix (.v 0) (.i 0)) (.v 1))) (.ret (.v 2)))) (.c (.asg (.sub (.v 0) (.i 0)) (.bin .mod (.bin .add (.bin .mul (.ix (.v 0) (.i 0)) (.i 48271)) (.i 29)) (.i 2147483647))) (.q (.a 3 (.bin .mod (.bin .add (.bin .add (.bin .mul (.ix (.v 0) (.i 0)) (.ix (.v 0) (.i 0))) (.bin .mul (.i 39373) (.ix (.v 0) (.i 0)))) (.i 7)) (.i 2147483629))) (.a 3 (.bin .mod (.bin .add (.bin .mul (.v 3) (.v 3)) (.bin .mul (.i 16807) (.v 3))) (.i 2147483587))) (.ret (.bin .mod (.bin .fdiv (.v 3) (.i 8)) (.v 1)))))
def Ms:Fn:=⟨2,4,Mr⟩
def Hc:Ex:=.comp true 1 (.name 12) (.K4 (.ix (.v 7) (.v 10))) (.call 14 (.p (.v 0) (.ix (.v 7) (.v 11))))
def Ea:o6:=.q (.a 10 (.call 14 (.p (.v 0) (.v 6)))) (.a 11 (.call 14 (.p (.v 0) (.v 6)))) (.expr (.bm .append (.v 8) (.o (.tup (.q (.v 10) (.v 11) (.blt .tuple (.o Hc)))))))
def Hd:Bp:=.for_ (.name 9) (.K4 (.call 14 (.p (.v 0) (.i 4)))) Ea
def Hf:Ex:=.comp true 1 (.name 12) (.K4 (.v 6)) (.bin .add (.i 1) (.call 14 (.p (.v 0) (.i 3))))
def Kd:o6:=.c (.a 1 (.call 14 (.p (.v 0) (.i 12)))) (.c (.f (.cmp .lt (.v 1) (.i 7)) (.c (.a 2 (.Iw (.p (.tup (.q (.i 0) (.i 1) (.tup (.p (.i 0) (.i 1))))) (.tup (.q (.i 0) (.i 1) (.tup (.p (.i 1) (.i 0)))))))) (.c (.a 3 (.Iw (.q (.tup (.q (.i 0) (.i 1) (.tup (.c (.i 0) (.q (.i 0) (.i 1) (.i 1)))))) (.tup (.q (.i 0) (.i 1) (.tup (.c (.i 0) (.q (.i 1) (.i 0) (.i 1)))))) (.tup (.q (.i 1) (.i 0) (.tup (.p (.i 0) (.i 3)))))))) (.q (.a 4 (.Iw (.o (.tup (.q (.i 0) (.i 0) (.tup (.p (.i 1) (.i 0)))))))) (.a 5 (.Iw (.c (.v 2) (.c (.v 3) (.c (.v 4) (.c (.Iw (.o (.tup (.q (.i 0) (.i 0) (.tup (.q (.i 1) (.i 2) (.i 0))))))) (.q (.Iw (.o (.tup (.q (.i 0) (.i 0) (.tup (.p (.i 0) (.i 0))))))) (.Iw .z) (.Iw (.p (.tup (.q (.i 0) (.i 1) (.tup (.p (.i 0) (.i 1))))) (.tup (.q (.i 1) (.i 2) (.tup (.q (.i 0) (.i 0) (.i 1)))))))))))))) (.ret (.ix (.v 5) (.v 1))))))) (.c (.a 6 (.bin .add (.i 1) (.call 14 (.p (.v 0) (.i 3))))) (.c (.a 7 Hf) (.q (.a 8 (.lst .z)) Hd (.ret (.v 8))))))
def Dd:Fn:=⟨1,12,Kd⟩
def Gj:Ex:=.comp true 1 (.name 10) (.val (.ix (.v 7) (.i 2))) (.ix (.ix (.v 8) (.i 2)) (.v 10))
def Ca:o6:=.c (.a 4 (.tup .z)) (.q (.f (.cmp .eq (.ix (.v 7) (.i 1)) (.ix (.v 8) (.i 0))) (.o (.a 4 (.blt .tuple (.o Gj))))) (.a 9 (.tup (.q (.ix (.v 7) (.i 0)) (.ix (.v 8) (.i 1)) (.v 4)))) (.f (.and (.cmp .ne (.v 4) (.tup .z)) (.and (.cmp .K3 (.v 9) (.v 1)) (.or (.cmp .ne (.ix (.v 9) (.i 0)) (.ix (.v 9) (.i 1))) (.cmp .ne (.v 4) (.ae8 (.l (.v 4))))))) (.o (.expr (.bm .append (.v 1) (.o (.v 9)))))))
def Gk:Bp:=.for_ (.names [7,8]) (.val (.Iw (.p (.tup (.p (.ix (.v 1) (.v 5)) (.ix (.v 1) (.v 6)))) (.tup (.p (.ix (.v 1) (.v 6)) (.ix (.v 1) (.v 5))))))) Ca
def Gm:o6:=.o Gk
def Gn:Bp:=.for_ (.name 6) (.K4 (.l (.v 1))) Gm
def K8:o6:=.p Gn (.a 5 (.bin .add (.v 5) (.i 1)))
def Gp:Bp:=.whl (.and (.cmp .lt (.v 5) (.l (.v 1))) (.cmp .lt (.l (.v 1)) (.i 6))) K8
def zq:o6:=.o (.f (.and (.or (.cmp .ne (.v 2) (.v 3)) (.cmp .ne (.v 4) (.ae8 (.l (.v 4))))) (.cmp .K3 (.tup (.q (.v 2) (.v 3) (.v 4))) (.v 1))) (.o (.expr (.bm .append (.v 1) (.o (.tup (.q (.v 2) (.v 3) (.v 4))))))))
def Gq:Bp:=.for_ (.names [2,3,4]) (.val (.v 0)) zq
def Oz:o6:=.c (.a 1 (.lst .z)) (.c Gq (.q (.a 5 (.i 0)) Gp (.ret (.v 1))))
def O1:Fn:=⟨1,10,Oz⟩
def Ey:Ex:=.comp true 3 (.names [8,9,10]) (.val (.v 2)) (.tup (.p (.v 8) (.v 9)))
def Ez:Ex:=.comp true 1 (.name 8) (.val (.ix (.ix (.v 2) (.v 5)) (.i 2))) (.ix (.ix (.ix (.v 2) (.v 6)) (.i 2)) (.v 8))
def Az:o6:=.o (.f (.cmp .eq (.ix (.ix (.v 2) (.v 5)) (.i 1)) (.ix (.ix (.v 2) (.v 6)) (.i 0))) (.p (.a 7 (.tup (.q (.ix (.ix (.v 2) (.v 5)) (.i 0)) (.ix (.ix (.v 2) (.v 6)) (.i 1)) (.blt .tuple (.o Ez))))) (.asg (.sub (.v 4) (.tup (.p (.v 5) (.v 6)))) (.ite (.cmp .inn (.v 7) (.v 2)) (.bm .index (.v 2) (.o (.v 7))) (.neg (.i 1))))))
def Ju:Bp:=.for_ (.name 6) (.K4 (.l (.v 2))) Az
def Fb:o6:=.o Ju
def Fe:Bp:=.for_ (.name 5) (.K4 (.l (.v 2))) Fb
def Ff:Ex:=.comp true 3 (.names [8,9,10]) (.val (.v 2)) (.blt .max (.p (.v 8) (.v 9)))
def Jv:o6:=.p (.a 1 (.cut (.v 1) .none (.some (.neg (.i 1))))) (.a 2 (.call 16 (.o (.v 1))))
def Fi:Bp:=.whl (.cmp .gt (.l (.v 2)) (.i 5)) Jv
def Mt:o6:=.c (.a 1 (.call 15 (.o (.v 0)))) (.c (.a 2 (.call 16 (.o (.v 1)))) (.c Fi (.c (.a 3 (.bin .add (.i 1) (.blt .max (.o (.bin .add Ff (.Iw (.o (.i 0)))))))) (.c (.f (.cmp .eq (.v 2) (.Iw .z)) (.o (.a 3 (.bin .add (.i 1) (.call 14 (.p (.v 0) (.i 3))))))) (.q (.a 4 .abw) Fe (.ret (.tup (.q (.v 3) (.blt .tuple (.o Ey)) (.v 4)))))))))
def Mv:Fn:=⟨1,8,Mt⟩
def Iz:Ex:=.Ci true 1 (.name 2) (.K4 (.l (.ix (.v 0) (.i 1)))) (.cmp .eq (.ix (.ix (.ix (.v 0) (.i 1)) (.v 2)) (.i 0)) (.v 1)) (.v 2)
def T4:o6:=.o (.ret (.bin .add (.Iw (.o (.neg (.i 1)))) Iz))
def T5:Fn:=⟨2,2,T4⟩
def Px:o6:=.o (.ret (.ite (.cmp .lt (.v 2) (.i 0)) (.v 1) (.ix (.ix (.ix (.v 0) (.i 1)) (.v 2)) (.i 1))))
def Py:Fn:=⟨3,3,Px⟩
def Fw:o6:=.p (.f (.or (.cmp .lt (.v 1) (.i 0)) (.cmp .lt (.v 2) (.i 0))) (.o (.ret (.bin .add (.bin .add (.v 1) (.v 2)) (.i 1))))) (.ret (.ix (.ix (.v 0) (.i 2)) (.tup (.p (.v 1) (.v 2)))))
def Fy:Fn:=⟨3,3,Fw⟩
def ajq:o6:=.o .pass
def ajr:Bp:=.whl (.cst (.bl true)) ajq
def atv:o6:=.o ajr
def atw:Fn:=⟨1,1,atv⟩
def Eb:o6:=.o (.f (.cmp .K3 (.v 3) (.v 1)) (.q (.a 4 (.call 23 (.p (.v 0) (.v 3)))) (.expr (.bm .update (.v 1) (.o (.v 4)))) (.expr (.bm .append (.v 2) (.o (.v 4))))))
def Mw:Bp:=.for_ (.name 3) (.keys (.v 0)) Eb
def Qp:o6:=.c (.a 1 .abw) (.q (.a 2 (.lst .z)) Mw (.ret (.v 2)))
def Qq:Fn:=⟨1,5,Qp⟩
def Ke:o6:=.o (.f (.cmp .K3 (.v 5) (.v 2)) (.p (.asg (.sub (.v 2) (.v 5)) (.cst (.bl true))) (.expr (.bm .append (.v 3) (.o (.v 5))))))
def V6:Bp:=.for_ (.name 5) (.val (.ix (.v 0) (.v 4))) Ke
def Pz:o6:=.p (.a 4 (.bm .pop (.v 3) .z)) V6
def V7:Bp:=.whl (.tru (.v 3)) Pz
def ab7:o6:=.c (.a 2 (.Zq (.v 1) (.cst (.bl true)))) (.q (.a 3 (.lst (.o (.v 1)))) V7 (.ret (.v 2)))
def ab8:Fn:=⟨2,6,ab7⟩
def Sq:Ex:=.comp true 1 (.name 4) (.K4 (.v 3)) (.tup (.p (.v 2) (.v 4)))
def Ss:o6:=.o (.expr (.bm .extend (.v 1) (.o Sq)))
def Yo:Bp:=.for_ (.names [2,3]) (.enm (.ix (.v 0) (.i 0))) Ss
def ahe:o6:=.q (.a 1 (.lst .z)) Yo (.ret (.v 1))
def ahf:Fn:=⟨1,4,ahe⟩
def Mx:Ex:=.Ci true 1 (.name 5) (.K4 (.v 4)) (.cmp .inn (.tup (.p (.v 3) (.v 5))) (.v 1)) (.v 5)
def My:o6:=.o (.expr (.bm .append (.v 2) (.o (.blt .tuple (.o Mx)))))
def T6:Bp:=.for_ (.names [3,4]) (.enm (.ix (.v 0) (.i 0))) My
def Yp:o6:=.q (.a 2 (.lst .z)) T6 (.ret (.blt .tuple (.o (.v 2))))
def Yq:Fn:=⟨2,5,Yp⟩
def V8:Ex:=.comp false 1 (.name 2) (.val (.call 22 (.o (.call 27 (.p (.v 0) (.v 1)))))) (.call 25 (.p (.v 1) (.v 2)))
def ab9:o6:=.o (.ret V8)
def aca:Fn:=⟨2,2,ab9⟩
def Fz:o6:=.p (.expr (.bm .append (.ix (.v 2) (.tup (.p (.ix (.v 5) (.i 0)) (.v 6)))) (.o (.tup (.p (.ix (.v 5) (.i 1)) (.v 7)))))) (.expr (.bm .append (.ix (.v 2) (.tup (.p (.ix (.v 5) (.i 1)) (.v 7)))) (.o (.tup (.p (.ix (.v 5) (.i 0)) (.v 6))))))
def O2:Bp:=.for_ (.names [6,7]) (.enm (.v 4)) Fz
def Ja:o6:=.o O2
def O3:Bp:=.for_ (.names [4,5]) (.zip (.p (.ix (.v 1) (.i 1)) (.meth (.v 0) 1 .z))) Ja
def Jb:o6:=.o (.asg (.sub (.v 2) (.v 3)) (.lst .z))
def Jc:Bp:=.for_ (.name 3) (.val (.call 24 (.o (.v 1)))) Jb
def T7:o6:=.c (.a 2 .abw) (.q Jc O3 (.ret (.v 2)))
def T8:Fn:=⟨2,8,T7⟩
def K9:Ex:=.comp true 1 (.name 13) (.val (.ix (.v 1) (.v 6))) (.ite (.cmp .eq (.v 13) (.v 12)) (.v 11) (.v 13))
def Cd:o6:=.c (.a 9 (.ix (.ix (.v 1) (.v 5)) (.v 8))) (.q (.a 10 (.ix (.ix (.v 1) (.v 6)) (.ix (.ix (.v 2) (.v 4)) (.v 8)))) (.f (.cmp .ne (.bm .get (.v 7) (.p (.v 9) (.v 10))) (.v 10)) (.c (.a 11 (.blt .min (.p (.ix (.v 7) (.v 9)) (.v 10)))) (.c (.a 12 (.blt .max (.p (.ix (.v 7) (.v 9)) (.v 10)))) (.c (.asg (.sub (.v 1) (.v 6)) K9) (.q (.a 3 (.cst (.bl true))) (.a 7 .ae7) .brk))))) (.asg (.sub (.v 7) (.v 9)) (.v 10)))
def La:Bp:=.for_ (.name 8) (.K4 (.l (.ix (.v 1) (.v 5)))) Cd
def Di:o6:=.q (.asg (.tg (.names [5,6])) (.ix (.ix (.v 0) (.i 1)) (.v 4))) (.a 7 .ae7) La
def Lb:Bp:=.for_ (.name 4) (.K4 (.l (.ix (.v 0) (.i 1)))) Di
def Gr:o6:=.p (.a 3 (.cst (.bl false))) Lb
def Gu:Bp:=.whl (.v 3) Gr
def O4:o6:=.q (.a 3 (.cst (.bl true))) Gu (.ret (.v 1))
def O5:Fn:=⟨3,13,O4⟩
def Hg:Ex:=.comp true 1 (.name 19) (.val (.v 16)) (.l (.v 19))
def Hh:Ex:=.comp true 1 (.name 19) (.val (.v 18)) (.bm .index (.ix (.v 16) (.v 12)) (.o (.v 19)))
def Hi:Ex:=.comp true 1 (.name 19) (.val (.ix (.v 16) (.v 11))) (.ix (.ix (.v 13) (.v 12)) (.ix (.ix (.v 9) (.v 10)) (.v 19)))
def Ec:o6:=.q (.asg (.tg (.names [11,12])) (.ix (.ix (.v 1) (.i 1)) (.v 10))) (.a 18 Hi) (.expr (.bm .append (.v 17) (.o (.blt .tuple (.o Hh)))))
def Mz:Bp:=.for_ (.name 10) (.K4 (.l (.ix (.v 1) (.i 1)))) Ec
def Hj:Ex:=.comp true 1 (.name 19) (.val (.v 13)) (.blt .Dr (.o (.v 19)))
def M9:Ex:=.comp true 1 (.name 19) (.val (.ix (.v 13) (.v 5))) (.ite (.cmp .eq (.v 19) (.v 15)) (.v 14) (.v 19))
def Cv:o6:=.c (.a 5 (.call 14 (.p (.v 0) (.ix (.v 1) (.i 0))))) (.q (.a 11 (.call 14 (.p (.v 0) (.i 7)))) (.a 12 (.call 14 (.p (.v 0) (.i 7)))) (.f (.cmp .lt (.blt .max (.p (.v 11) (.v 12))) (.l (.ix (.v 13) (.v 5)))) (.c (.a 14 (.blt .min (.p (.ix (.ix (.v 13) (.v 5)) (.v 11)) (.ix (.ix (.v 13) (.v 5)) (.v 12))))) (.q (.a 15 (.blt .max (.p (.ix (.ix (.v 13) (.v 5)) (.v 11)) (.ix (.ix (.v 13) (.v 5)) (.v 12))))) (.asg (.sub (.v 13) (.v 5)) M9) (.a 13 (.call 28 (.q (.v 1) (.v 13) (.v 9))))))))
def Nb:Bp:=.for_ (.name 10) (.K4 (.call 14 (.p (.v 0) (.i 4)))) Cv
def Hk:Ex:=.comp false 1 (.name 19) (.val (.v 3)) (.ae9 (.l (.v 19)))
def Hl:Ex:=.comp true 3 (.names [19,20,21]) (.val (.ix (.v 3) (.v 11))) (.bm .index (.ix (.v 3) (.v 12)) (.o (.tup (.q (.v 19) (.v 20) (.call 20 (.q (.v 1) (.v 21) (.v 10)))))))
def Hm:o6:=.p (.asg (.tg (.names [11,12])) (.ix (.ix (.v 1) (.i 1)) (.v 10))) (.expr (.bm .append (.v 9) (.o Hl)))
def Nf:Bp:=.for_ (.name 10) (.K4 (.l (.ix (.v 1) (.i 1)))) Hm
def Hn:Ex:=.comp true 1 (.name 19) (.val (.v 3)) (.l (.v 19))
def Ed:o6:=.o (.expr (.bm .append (.ix (.v 3) (.v 7)) (.o (.tup (.q (.v 4) (.v 5) (.v 8))))))
def Ng:Bp:=.for_ (.names [7,8]) (.val (.v 6)) Ed
def Ho:Ex:=.comp true 1 (.name 19) (.val (.call 18 (.p (.v 1) (.v 5)))) (.tup (.p (.call 19 (.q (.v 1) (.v 5) (.v 19))) (.v 19)))
def Cw:o6:=.q (.a 5 (.call 14 (.p (.v 0) (.ix (.v 1) (.i 0))))) (.a 6 Ho) (.f (.cmp .lt (.bin .add (.blt .max (.o Hn)) (.l (.v 6))) (.i 8)) (.o Ng))
def Nh:Bp:=.for_ (.name 4) (.K4 (.call 14 (.p (.v 0) (.bin .add (.v 2) (.i 1))))) Cw
def Ld:Ex:=.comp true 1 (.name 19) (.K4 (.ix (.v 1) (.i 0))) (.lst .z)
def Qs:o6:=.c (.a 3 Ld) (.c Nh (.c (.a 9 (.lst .z)) (.c Nf (.c (.a 13 Hk) (.c Nb (.c (.a 16 Hj) (.q (.a 17 (.lst .z)) Mz (.ret (.tup (.p (.blt .tuple (.o Hg)) (.blt .tuple (.o (.v 17)))))))))))))
def Qt:Fn:=⟨3,19,Qs⟩
def Dj:o6:=.p (.a 8 (.Iw (.p (.tup (.p (.v 5) (.v 7))) (.tup (.p (.v 6) (.ix (.ix (.ix (.v 1) (.i 1)) (.v 4)) (.v 7))))))) (.f (.cmp .inn (.v 2) (.v 8)) (.o (.expr (.bm .extend (.v 3) (.o (.v 8))))))
def Lf:Bp:=.for_ (.name 7) (.K4 (.ix (.ix (.v 1) (.i 0)) (.v 5))) Dj
def Gv:o6:=.p (.asg (.tg (.names [5,6])) (.ix (.ix (.v 0) (.i 1)) (.v 4))) Lf
def Lg:Bp:=.for_ (.name 4) (.K4 (.l (.ix (.v 0) (.i 1)))) Gv
def O6:o6:=.q (.a 3 (.lst .z)) Lg (.ret (.v 3))
def O7:Fn:=⟨3,9,O6⟩
def Ef:o6:=.o (.f (.cmp .K3 (.v 5) (.v 3)) (.o (.expr (.bm .append (.v 3) (.o (.v 5))))))
def Ni:Bp:=.for_ (.name 5) (.val (.call 30 (.q (.v 0) (.v 1) (.ix (.v 3) (.v 4))))) Ef
def Hq:o6:=.p Ni (.a 4 (.bin .add (.v 4) (.i 1)))
def Nj:Bp:=.whl (.cmp .lt (.v 4) (.l (.v 3))) Hq
def Qu:o6:=.c (.a 3 (.lst (.o (.v 2)))) (.q (.a 4 (.i 0)) Nj (.ret (.v 3)))
def Qv:Fn:=⟨3,6,Qu⟩
def Kf:Ex:=.Ci true 1 (.name 8) (.val (.v 6)) (.cmp .eq (.ix (.v 8) (.i 0)) (.v 7)) (.ix (.v 8) (.i 1))
def Kg:Ex:=.comp true 1 (.name 7) (.K4 (.ix (.v 0) (.i 0))) (.blt .tuple (.o (.blt .sorted (.o Kf))))
def Eg:o6:=.o (.f (.cmp .K3 (.tup (.p (.v 4) (.v 5))) (.v 3)) (.q (.a 6 (.call 31 (.q (.v 0) (.v 1) (.tup (.p (.v 4) (.v 5)))))) (.expr (.bm .extend (.v 3) (.o (.v 6)))) (.expr (.bm .append (.v 2) (.o (.blt .tuple (.o Kg)))))))
def Qw:Bp:=.for_ (.name 5) (.K4 (.ix (.ix (.v 1) (.i 0)) (.v 4))) Eg
def Kh:o6:=.o Qw
def Qx:Bp:=.for_ (.name 4) (.K4 (.ix (.v 0) (.i 0))) Kh
def V9:o6:=.c (.a 2 (.lst .z)) (.q (.a 3 (.lst .z)) Qx (.ret (.v 2)))
def Wa:Fn:=⟨2,7,V9⟩
def Va:o6:=.c (.a 2 (.call 13 (.p (.v 0) (.v 1)))) (.c (.a 3 (.call 17 (.o (.v 2)))) (.c (.a 4 (.make 2 (.q (.ix (.v 3) (.i 0)) (.ix (.v 3) (.i 1)) (.ix (.v 3) (.i 2))))) (.c (.a 5 (.call 29 (.q (.v 2) (.v 3) (.i 5)))) (.c (.a 6 (.call 32 (.p (.v 3) (.v 5)))) (.c (.a 7 (.call 26 (.p (.v 4) (.v 5)))) (.q (.f (.or (.not (.blt .isList (.o (.v 7)))) (.cmp .ne (.v 7) (.v 6))) (.o (.ret (.cst (.bl false))))) (.expr (.bm .append (.v 7) (.o (.tup (.o (.tup .z)))))) (.f (.or (.cmp .ne (.call 26 (.p (.v 4) (.v 5))) (.v 6)) (.cmp .ne (.call 26 (.p (.v 4) (.tup (.p (.bin .mul (.tup (.o (.i 0))) (.ix (.v 3) (.i 0))) (.bin .mul (.tup (.o (.tup .z))) (.l (.ix (.v 3) (.i 1)))))))) (.Iw .z))) (.o (.ret (.cst (.bl false)))))))))))
def ahg:Bp:=.for_ (.name 1) (.K4 (.i 2)) Va
def ax3:o6:=.p ahg (.ret (.cst (.bl true)))
def anf:Fn:=⟨1,8,ax3⟩
def prog:Prog:=⟨[Jo,Uw,Jq,Sg,V5,Xy,Ij,K6,Et,Mm,Ox,Mq,Hb,Kc,Ms,Dd,O1,Mv,T5,Py,Fy,atw,Qq,ab8,ahf,Yq,aca,T8,O5,Qt,O7,Qv,Wa,anf],[⟨0,[]⟩,⟨0,[]⟩,⟨0,[(0,1),(1,2),(2,3),(3,4),(4,5)]⟩]⟩
end
noncomputable abbrev PW(m:Nat):Gh:=⟨prog.call m,prog.cls⟩
set_option genInjectivity true in
structure F where
 a:Nat
 b:Nat
 r:List Nat
 deriving DecidableEq
noncomputable def nD(x:Nat):D:=.int (x:Int)
noncomputable def El(r:Y3):D:=.tup (r.map nD)
noncomputable def F.toD(f:F):D:=.tup [.int f.a,.int f.b,El f.r]
def ahh(x y:Nat):decide ((x:Int)=(y:Int))=decide (x=y):=by
 by_cases h:x=y
 .simp[h]
 .have:¬((x:Int)=(y:Int)):=by lia
  simp[h,this]
def Kl(M:cg)(n x y:Nat):Jf M (n+1) (.int x) (.int y)=some (decide (x=y)):=by rw[U7,ahh]
theorem Z5(M:cg)(n:Nat):∀r s:List Nat,Ot (Jf M (n+1)) (r.map nD) (s.map nD)=some (decide (r=s))
 |[],[]=>by simp[Ot]|[],_::_=>by simp[Ot]|_::_,[]=>by simp[Ot]
 |x::r,y::s=>by
  rw[gh,gh,By (a:=nD x) (b:=nD y) (Kl M n x y) (Z5 M n r s)]
  by_cases h:x=y<;>simp[h]
def afe(M:cg)(r s:Y3):yq M (El r) (El s)=some (decide (r=s)):=Z5 M 4 r s
def bea(M:cg)(f g:F):yq M f.toD g.toD=some (decide (f=g)):=by obtain⟨a,b,r⟩:=f;obtain⟨c,d,s⟩:=g;have e:Jf M 5 (El r) (El s)=some (decide (r=s)):=Z5 M 3 r s;show Ot (Jf M 5) [.int a,.int b,El r] [.int c,.int d,El s]=_;rw[By (Kl M 4 a c) (By (Kl M 4 b d) (By e (show Ot (Jf M 5) [] []=some true from rfl)))];simp
theorem ang(M:cg)(g:F):∀fs:List F,Ly M g.toD (fs.map F.toD)=some (fs.map λf=>decide (f=g))
 |[]=>rfl|f::fs=>by simp only[gh,Ly,bea,ang M g fs]
def anh(M:cg)(g:F)(fs:List F):memD M g.toD (fs.map F.toD)=some (decide (g∈fs)):=by
 rw[memD,ang,vd]
 congr 1
 induction fs with
 |nil=>simp
 |cons f fs Z =>
  by_cases h:f=g
  .simp[h]
  .simp only[gh,Ax,Z,bz,id]
   simp[h,ji h]
noncomputable def pos(g:F):List F->Nat
 |[]=>0|f::fs=>if f=g then 0 else pos g fs+1
def a7g(M:cg)(g:F)(fs:List F):abx M g.toD (fs.map F.toD)=if g∈fs then some (pos g fs) else none:=by
 rw[abx,ang,qe]
 induction fs with
 |nil=>simp
 |cons f fs U =>
  rw[gh,List.findIdx?_cons,U,pos]
  by_cases h:f=g
  .simp[h]
  .by_cases Z:g∈fs<;>simp[h,ji h,Z]
theorem Z6(g:F):∀{fs:List F},g∈fs->fs[pos g fs]?=some g
 |f::fs,h=>by
  by_cases e:f=g
  .simp[pos,e]
  .have:g∈fs:=by
    rcases bz.mp h with q|q
    .exact absurd q.symm e
    .exact q
   simp[pos,e,Z6 g this]
def afg(R:fs.Nodup)(h:fs[i]?=some f):pos f fs=i:=by have m:f∈fs:=au h;have g:=Z6 f m;obtain⟨l1,Z⟩:=ak.mp h;obtain⟨l2,U⟩:=ak.mp g;exact(Ao R).mp (U.trans Z.symm)
noncomputable def F.comp(f g:F):F:=⟨f.a,g.b,f.r.map λx=>g.r.getD x 0⟩
noncomputable def F.P0(f:F):Prop:=f.a=f.b/\f.r=List.range f.r.length
instance (f:F):Decidable f.P0:=inferInstanceAs (Decidable (_/\_))
structure Xo(sz:Nat->Nat)(f:F):Prop where
 a:f.a<3
 b:f.b<3
 len:f.r.length=sz f.a
 ran:∀x∈f.r,x<sz f.b
noncomputable def Sz(sz:Nat->Nat):Prop:=∀k,1<=sz k/\sz k<=4
noncomputable def Good(sz:Nat->Nat)(fs:List F):Prop:=∀f∈fs,Xo sz f
def getD_mem{r:Y3}(h:x<r.length):r.getD x 0∈r:=by rw[fc,dh h];exact p8 h
theorem Xo.comp(U:Xo sz f)(Z:Xo sz g)(h:f.b=g.a):Xo sz (f.comp g):=by
 refine⟨U.a,Z.b,by simp[F.comp,U.len],λx hx=>?_⟩;obtain⟨y,R,rfl⟩:=bh.mp hx;have:y<g.r.length:=by rw[Z.len,<- h];exact U.ran y R
 exact Z.ran _ (getD_mem this)
def acb(r:Y3):(List.range r.length).map (λx=>r.getD x 0)=r:=by
 apply wy;intro i
 by_cases h:i<r.length
 .simp[h,xq h]
 .simp[Nat.le_of_not_lt h,lz]
def afh(hf:Xo sz f)(U:Xo sz g)(Z:f.b=g.a):(f.comp g).comp h=f.comp (g.comp h):=by
 simp only[F.comp,zp,F.mk.injEq,true_and];apply yx;intro x R;have:x<g.r.length:=by rw[U.len,<- Z];exact hf.ran x R
 simp[this]
noncomputable def idF(sz:Nat->Nat)(k:Nat):F:=⟨k,k,List.range (sz k)⟩
def Z7(U:Xo sz f)(h:f.P0):f=idF sz f.a:=by obtain⟨a,b,r⟩:=f;obtain⟨Z,R⟩:=h;have:=U.len;simp only[idF] at *;subst Z;rw[<- this,<- R]
def id_comp(Z:Xo sz f):(idF sz f.a).comp f=f:=by obtain⟨a,b,r⟩:=f;have:=Z.len;simp only[idF,F.comp] at *;rw[<- this,acb]
def comp_id(U:Xo sz f):f.comp (idF sz f.b)=f:=by
 obtain⟨a,b,r⟩:=f;have:=U.ran;simp only[idF,F.comp,F.mk.injEq,true_and] at *
 conv=>rhs;rw[<- List.map_id r]
 apply yx;intro x Z;simp[xq (this x Z)]
noncomputable def Nk(fs:List F):Prop:=∀f∈fs,∀g∈fs,f.b=g.a->f.comp g∈fs\/(f.comp g).P0
def call_of(R:1<=m)(U:prog.fns[f]?=some Z):prog.call m f ds M=Z.run (PW (m-1)) ds M:=by obtain⟨n,rfl⟩:∃n,m=n+1:=⟨m-1,by lia⟩;simp[Prog.call,U]
noncomputable def azr(n:Int)(f:Bool):Prop:=0<=n/\(f=false->n<2147483647)
noncomputable def Wb(t:Nat)(f:Bool)(M:cg):Prop:=∃n,M[t]?=some (.lst [.int n,.bl f])/\azr n f
structure St(t:Nat)(f:Bool)(M M':cg):Prop where
 len:M.length<=M'.length
 has:Wb t f M'
 keep:∀(a:Nat)(o:MO),a≠t->M[a]?=some o->M'[a]?=some o
def St.trans(a:St t f M Z)(b:St t f Z M2):St t f M M2 :=
 ⟨gw a.len b.len,b.has,λx o n h=>b.keep x o n (a.keep x o n h)⟩
def St.of(h:Wb t f M)(k:Ay M M'):St t f M M' :=
 ⟨k.len,let ⟨n,a,b⟩:=h;⟨n,k _ _ a,b⟩,λa o _ e=>k a o e⟩
def Cq(hm:1<=m)(hs:Wb t f M)(Z:0<many)(hq:many<1073741824) :
 ∃(v:Nat)(M':cg),prog.call m 14 [.ref t,.int many] M=.ok (.int v) M'/\(v:Int)<many/\St t f M M'/\M'.length=M.length:=by
 obtain⟨n,h,U⟩:=hs;rw[call_of hm rfl];have hl:=qj h;have g0:=Cm hl (i:=0) (by decide) rfl;have g1:=Cm hl (i:=1) (by decide) rfl;have fin:∀n':Int,azr n' f->St t f M (M.set t (.lst [.int n',.bl f])):=λn' o=>⟨by simp,⟨n',p7 h,o⟩,λa u e q=>by rw[jm (ji e)];exact q⟩
 have qq:many≠0:=by lia
 have c1:∀y:Int,∃v:Nat,y%many=(v:Int)/\(v:Int)<many:=λy=>by have a:=Bb y qq;have b:=zx y Z;exact⟨(y%many).toNat,by lia,by lia⟩
 cases f with
 |true =>
  obtain⟨v,e,l⟩:=c1 n;refine⟨v,_,?_,l,fin (n / many) ⟨Int.ediv_nonneg U.1 (by lia),by simp⟩,by simp⟩;simp[Fn.run,Ms,Mr,g0,g1,Z,Yk _ _ Z hq,Zx h,e]
 |false =>
  have h1:=U.1;have h2:=U.2 rfl;obtain⟨n',R⟩:∃n',(n*48271+29)%2147483647=n':=⟨_,rfl⟩;have e1:0<=n':=R▸Bb _ (by decide)
  have e2:n'<2147483647:=R▸zx _ (by decide)
  obtain⟨x,ex⟩:∃x,(n'*n'+39373*n'+7)%2147483629=x:=⟨_,rfl⟩;have x1:0<=x:=ex▸Bb _ (by decide)
  have x2:x<2147483629:=ex▸zx _ (by decide)
  obtain⟨y,ey⟩:∃y,(x*x+16807*x)%2147483587=y:=⟨_,rfl⟩;obtain⟨v,e,l⟩:=c1 (y / 8);refine⟨v,_,?_,l,fin n' ⟨e1,λ_=>e2⟩,by simp⟩;have k:=p7 (o:=.lst [.int n',.bl false]) h;have k0:=Cm (qj k) (i:=0) (by decide) rfl;simp[Fn.run,Ms,Mr,g0,g1,Z,Zx h,Mf n 48271 (.inr (by decide)),R,k0,Mf n' n' (.inl (by lia)),Mf 39373 n' (.inl (by decide)),ex,Mf x x (.inl (by lia)),Mf 16807 x (.inl (by decide)),ey,Yk _ 8 (by decide) (by decide),e]
def ahi{k:Nat}{Z:Xs}(R:1<=m):prog.call m 12 [.fz (Z.map D.int),.int k] M=.ok (.int (Z.getD k 0)) M:=by
 rw[call_of R rfl]
 by_cases U:k<Z.length
 .simp[Fn.run,Hb,Ha,am7,U,a7e (ds:=Z.map D.int) (i:=k) (x:=.int (Z.getD k 0)) q_ (by simp[U])]
 .simp[Fn.run,Hb,Ha,am7,U]
def ani{k:Nat}{ns:Xs}(U:2<=m):∃n f,prog.call m 13 [.fz (ns.map D.int),.int k] M=.ok (.ref M.length) (M++[.lst [.int n,.bl f]])/\azr n f:=by
 rw[call_of (a_ (by decide) U) rfl]
 by_cases h:(10:Int) ^ 18<=ns.getD k 0
 .refine⟨ns.getD k 0-10 ^ 18,true,?_,by lia,by simp⟩
  have Z:(1000000000000000000:Int)<=ns[k]?.getD 0:=by simpa using h
  simp[Fn.run,Kc,Ka,ahi (show 1<=m-1 by exact r_ U),Z,MW.new]
 .refine⟨ns.getD k 0%2147483647,false,?_,Bb _ (by decide),λ_=>zx _ (by decide)⟩
  have Z:¬(1000000000000000000:Int)<=ns[k]?.getD 0:=by simpa using h
  simp[Fn.run,Kc,Ka,ahi (show 1<=m-1 by exact r_ U),Z,MW.new]
def ahj(n:Nat)(i:Nat)(M:cg)(h:i<n):(Src.con ((List.range n).map λ(k:Nat)=>D.int (k:Int))).item i M=some (.int i):=by simp[Src.item,xq h]
def ahk(n:Nat):(Src.con ((List.range n).map λ(k:Nat)=>D.int (k:Int))).len=n:=by simp[Src.len]
def anj{K:Nat}(hm:1<=m)(hs:Wb t f M)(hK:K<=3) :
 ∃(Z:Y3)(U:cg),Hf.den (PW m) [some (.ref t),a1,a2,a3,a4,a5,some (.int K),a7,a8,a9,a10,a11] M=.ok (.vl (Z.map nD)) U/\Z.length=K/\(∀x∈Z,1<=x/\x<=3)/\St t f M U/\U.length=M.length:=by
 unfold Hf;rw[Ma];have R:K<=100000:=a_ hK (by decide)
 simp[R];refine hG λ_ _k=>?_
 have h:=G9 (fin:=λ_=>true) (item:=(Src.con ((List.range K).map λ(k:Nat)=>D.int (k:Int))).item)
  (body:=λd M=>((prog.call m 14 [D.ref t,D.int 3] M).bind λy M2=>Er .add (.int 1) y M2).bind λx U=>Res.ok (some x) U)
  (λi xs U=>∃Z:List Nat,xs=Z.map nD/\Z.length=i/\(∀x∈Z,1<=x/\x<=3)/\St t f M U/\U.length=M.length) (n:=K)
  (λi xs U hi hI=>by
   refine hG λ_ _k=>?_
   obtain⟨Z,rfl,rfl,h1,h2,h3⟩:=hI;obtain⟨v,M2,e,l,s2,l2⟩:=Cq hm h2.has (many:=3) (by decide) (by decide);apply _k;refine⟨.int Z.length,some (.int (1+v)),M2,ahj K _ U hi,by simp[e],Z++[1+v],by simp[nD],by simp,λx hx=>?_,h2.trans s2,l2.trans h3⟩;rcases bx.mp hx with q|q
   .exact h1 x q
   .have:x=1+v:=by simpa using q
    lia) (λ_ _ _=>rfl) K 0 [] M (uw _) ⟨[],rfl,rfl,by simp,St.of hs (Ay.refl M),rfl⟩
 obtain⟨ys,U,e,Z,h1,h2,h3,h4,h5⟩:=h;apply _k;refine⟨Z,U,?_,h2,h3,h4,h5⟩;rw[Ai,ahk,cj R,show(Src.con ((List.range _).map λ(k:Nat)=>D.int (k:Int))).fin=λ_=>true from rfl,e];simp at h1;simp[h1]
def azs{U:Y3}(hm:1<=m)(hs:Wb t f M)(R:∀x∈U,1<=x/\x<=3)(hi:i<U.length)(hj:j<U.length) :
 ∃(r:Y3)(Z:cg),Hc.den (PW m) [some (.ref t),a1,a2,a3,a4,a5,a6,some (.vl (U.map nD)),a8,a9,some (.int i),some (.int j)] M=.ok (.vl (r.map nD)) Z /\
  r.length=U.getD i 0/\(∀x∈r,x<U.getD j 0)/\St t f M Z/\Z.length=M.length:=by
 unfold Hc;rw[Ma];have gi:=Cm (M:=M) (d:=.vl (U.map nD)) (i:=i) (x:=.int ((U.getD i 0:Nat):Int)) rfl q_ (by simp[hi,nD]);have gj:∀Z,Aa (.vl (U.map nD)) (.int j) Z=some (.int ((U.getD j 0:Nat):Int)):=λZ=>Cm rfl q_ (by simp[hj,nD])
 have bi:=R _ (getD_mem hi);have bj:=R _ (getD_mem hj);generalize ea:U.getD i 0=a at *;generalize eb:U.getD j 0=b at *;have ha:a<=100000:=a_ bi.2 (by decide)
 simp[gi,gj,ha];refine hG λ_ _k=>?_
 have h:=G9 (fin:=λ_=>true) (item:=(Src.con ((List.range a).map λ(k:Nat)=>D.int (k:Int))).item)
  (body:=λd M=>(prog.call m 14 [D.ref t,D.int b] M).bind λx Z=>Res.ok (some x) Z)
  (λi xs Z=>∃r:List Nat,xs=r.map nD/\r.length=i/\(∀x∈r,x<b)/\St t f M Z/\Z.length=M.length) (n:=a)
  (λi xs Z hi hI=>by
   refine hG λ_ _k=>?_
   obtain⟨r,rfl,rfl,h1,h2,R⟩:=hI;obtain⟨v,M2,e,l,s2,l2⟩:=Cq hm h2.has (many:=b) (m_ bj.1) (m_ (c_ bj.2 (by decide)));apply _k;refine⟨.int r.length,some (.int v),M2,ahj a _ Z hi,by simp[e],r++[v],by simp[nD],by simp,λx hx=>?_,h2.trans s2,l2.trans R⟩;rcases bx.mp hx with q|q
   .exact h1 x q
   .have:x=v:=by simpa using q
    exact c_ (f_ this) (o_ l)) (λ_ _ _=>rfl) a 0 [] M (uw _) ⟨[],rfl,rfl,by simp,St.of hs (Ay.refl M),rfl⟩
 obtain⟨ys,Z,e,r,h1,h2,R,h4,h5⟩:=h;apply _k;refine⟨r,Z,?_,h2,R,h4,h5⟩;rw[Ai,ahk,cj ha,show(Src.con ((List.range _).map λ(k:Nat)=>D.int (k:Int))).fin=λ_=>true from rfl,e];simp at h1;simp[h1]
def Z8{v:Nat}{U:Y3}(hm:1<=m)(hs:Wb t f M)(hK:U.length=K)(q0:1<=K)(qk:K<=3)(h3:∀x∈U,1<=x/\x<=3)(hp:M[p]?=some (.lst []))(Z:p≠t) :
 ∃(fs:List F)(qv:Env)(R:cg),Hd.den (PW m) [some (.ref t),some (.int v),none,none,none,none,some (.int K),some (.vl (U.map nD)),some (.ref p),a9,a10,a11] M=.ok (.next,qv) R /\
  qv[8]?=some (some (.ref p))/\R[p]?=some (.lst (fs.map F.toD))/\fs.length<=3/\Good (λk=>U.getD k 1) fs/\M.length<=R.length/\Wb t f R/\(∀(a:Nat)(o:MO),a≠t->a≠p->M[a]?=some o->R[a]?=some o):=by
 refine hG λ_ _k=>?_
 obtain⟨w,M1,e1,l1,s1,q6⟩:=Cq hm hs (many:=4) (by decide) (by decide);apply _k;unfold Hd;rw[Ry];have hw:w<=100000:=e_ (b_ (o_ l1) (by decide))
 simp[e1,hw];refine hG λ_ _k=>?_
 obtain⟨qv,R,e,fs,b9,qq,O8,rfl,h1,h2,h4,h5,h6,h7⟩:=Z0 (n:=w) (body:=λd ρ M=>Ea.den (PW m) (ρ.set 9 (some d)) M)
  (λi ρ R=>∃(fs:List F)(b9 qq O8:Option D),ρ=[some (.ref t),some (.int v),none,none,none,none,some (.int K),some (.vl (U.map nD)),some (.ref p),b9,qq,O8] /\
   R[p]?=some (.lst (fs.map F.toD))/\fs.length=i/\Good (λk=>U.getD k 1) fs/\M.length<=R.length/\Wb t f R/\(∀(a:Nat)(o:MO),a≠t->a≠p->M[a]?=some o->R[a]?=some o))
  (M:=M1) ⟨[],a9,a10,a11,rfl,by simpa using s1.keep p _ Z hp,rfl,by intro f hf;simp at hf,s1.len,s1.has,λa o na _ h=>s1.keep a o na h⟩
  (λi ρ M2 hi hI=>by
   refine hG λ_ _k=>?_
   obtain⟨fs,b9,qq,O8,rfl,g1,g2,g3,g4,g5,g6⟩:=hI;obtain⟨x,M3,ex,lx,sx,q3⟩:=Cq hm g5 (many:=K) (m_ q0) (m_ (c_ qk (by decide)));obtain⟨y,M4,ey,ly,sy,q5⟩:=Cq hm sx.has (many:=K) (m_ q0) (m_ (c_ qk (by decide)));obtain⟨r,M5,er,lr,rr,sr,q4⟩:=azs (a1:=some (.int v)) (a2:=none) (a3:=none) (a4:=none) (a5:=none) (a6:=some (.int K)) (a8:=some (.ref p)) (a9:=some (.int i)) (i:=x) (j:=y) hm sy.has h3 (b_ (o_ lx) (g_ hK)) (b_ (o_ ly) (g_ hK));have gp:=sr.keep p _ Z (sy.keep p _ Z (sx.keep p _ Z g1));apply _k;have hl:(fs.map F.toD).length<100000:=by rw[du];exact c_ (f_ g2) (b_ hi hw)
   refine⟨.next,_,M5.set p (.lst (fs.map F.toD++[F.toD ⟨x,y,r⟩])),?_,.inl rfl,fs++[⟨x,y,r⟩],some (.int i),some (.int x),some (.int y),rfl,?_,by simp[g2],?_,?_,?_,?_⟩
   .simp[Ea,ex,ey,er,Bu gp hl,Cu (sy.keep p _ Z (sx.keep p _ Z g1)),vz,F.toD,El]
   .rw[p7 gp];simp
   .intro f hf
    rcases bx.mp hf with q|q
    .exact g3 f q
    .have:f=⟨x,y,r⟩:=by simpa using q
     subst this;refine⟨by show x<3;exact b_ (o_ lx) qk,by show y<3;exact b_ (o_ ly) qk,?_,?_⟩
     .show r.length=U.getD x 1
      rw[lr];simp[fc,dh (show x<U.length by exact b_ (o_ lx) (g_ hK))]
     .intro z hz
      have:=rr z hz;show z<U.getD y 1
      simp[fc,dh (show y<U.length by exact b_ (o_ ly) (g_ hK))] at this ⊢;exact this
   .have:=sr.len;have:=sy.len;have:=sx.len;simp;exact a_ g4 (a_ (g_ q3) (a_ (g_ q5) (g_ q4)))
   .obtain⟨n',q1,q2⟩:=sr.has
    exact⟨n',by rw[jm Z];exact q1,q2⟩
   .intro a o na nb h
    rw[jm (ji nb)];exact sr.keep a o na (sy.keep a o na (sx.keep a o na (g6 a o na nb h))))
 have e':Br (Src.con ((List.range w).map λ(k:Nat)=>D.int (k:Int))).fin (Src.con ((List.range w).map λ(k:Nat)=>D.int (k:Int))).item (λd ρ M=>Ea.den (PW m) (ρ.set 9 (some d)) M) (Src.con ((List.range w).map λ(k:Nat)=>D.int (k:Int))).len 0 [some (.ref t),some (.int v),none,none,none,none,some (.int K),some (.vl (U.map nD)),some (.ref p),a9,a10,a11] M1=_:=e;apply _k;exact⟨fs,[some (.ref t),some (.int v),none,none,none,none,some (.int K),some (.vl (U.map nD)),some (.ref p),b9,qq,O8],R,e',rfl,h1,by lia,h4,h5,h6,h7⟩
def ank(hm:2<=m)(hs:Wb t f M):∃(d:D)(M':cg)(fs:List F)(sz:Nat->Nat),prog.call m 15 [.ref t] M=.ok d M'/\dm M' d=some (fs.map F.toD)/\(∀n,d=.ref n->n≠t)/\Sz sz/\Good sz fs/\fs.length<=3/\St t f M M':=by
 have R:1<=m-1:=r_ hm
 obtain⟨v,M1,e1,l1,s1,q7⟩:=Cq R hs (many:=12) (by decide) (by decide);rw[call_of (a_ R C_) rfl]
 by_cases hv:v<7
 .have qq:(v:Int)<7:=m_ hv
  have U:∀(fs:List F)(sz:Nat->Nat),Dd.run (PW (m-1)) [.ref t] M=.ok (.vl (fs.map F.toD)) M1->Sz sz->Good sz fs->fs.length<=3 ->
   ∃(d:D)(M':cg)(fs:List F)(sz:Nat->Nat),Dd.run (PW (m-1)) [.ref t] M=.ok d M'/\dm M' d=some (fs.map F.toD)/\(∀n,d=.ref n->n≠t)/\Sz sz/\Good sz fs/\fs.length<=3/\St t f M M' :=
   λfs sz a b c d=>⟨_,M1,fs,sz,a,rfl,λn h=>(by cases h),b,c,d,s1⟩
  have run:∀d,Aa (.vl [.vl [.tup [.int 0,.int 1,.tup [.int 0,.int 1]],.tup [.int 0,.int 1,.tup [.int 1,.int 0]]],.vl [.tup [.int 0,.int 1,.tup [.int 0,.int 0,.int 1,.int 1]],.tup [.int 0,.int 1,.tup [.int 0,.int 1,.int 0,.int 1]],.tup [.int 1,.int 0,.tup [.int 0,.int 3]]],
   .vl [.tup [.int 0,.int 0,.tup [.int 1,.int 0]]],.vl [.tup [.int 0,.int 0,.tup [.int 1,.int 2,.int 0]]],.vl [.tup [.int 0,.int 0,.tup [.int 0,.int 0]]],.vl [],.vl [.tup [.int 0,.int 1,.tup [.int 0,.int 1]],.tup [.int 1,.int 2,.tup [.int 0,.int 0,.int 1]]]]) (.int v) M1=some d ->
   Dd.run (PW (m-1)) [.ref t] M=.ok d M1:=λd hd=>by simp[Fn.run,Dd,Kd,e1,qq,hd]
  have cs:v=0\/v=1\/v=2\/v=3\/v=4\/v=5\/v=6:=by lia
  rcases cs with rfl|rfl|rfl|rfl|rfl|rfl|rfl
  .refine U [⟨0,1,[0,1]⟩,⟨0,1,[1,0]⟩] (λ_=>2) ?_ (λk=>by simp) (λf Z=>?_) (by decide)
   .exact run _ rfl
   .simp at Z;rcases Z with rfl|rfl<;>exact⟨by decide,by decide,by decide,by decide⟩
  .refine U [⟨0,1,[0,0,1,1]⟩,⟨0,1,[0,1,0,1]⟩,⟨1,0,[0,3]⟩] (λk=>if k=0 then 4 else 2) ?_ (λk=>by dsimp only;split<;>omega) (λf Z=>?_) (by decide)
   .exact run _ rfl
   .simp at Z;rcases Z with rfl|rfl|rfl<;>exact⟨by decide,by decide,by decide,by decide⟩
  .refine U [⟨0,0,[1,0]⟩] (λ_=>2) ?_ (λk=>by simp) (λf Z=>?_) (by decide)
   .exact run _ rfl
   .simp at Z;subst Z;exact⟨by decide,by decide,by decide,by decide⟩
  .refine U [⟨0,0,[1,2,0]⟩] (λ_=>3) ?_ (λk=>by simp) (λf Z=>?_) (by decide)
   .exact run _ rfl
   .simp at Z;subst Z;exact⟨by decide,by decide,by decide,by decide⟩
  .refine U [⟨0,0,[0,0]⟩] (λ_=>2) ?_ (λk=>by simp) (λf Z=>?_) (by decide)
   .exact run _ rfl
   .simp at Z;subst Z;exact⟨by decide,by decide,by decide,by decide⟩
  .refine U [] (λ_=>1) ?_ (λk=>by simp) (λf Z=>?_) (by decide)
   .exact run _ rfl
   .simp at Z
  .refine U [⟨0,1,[0,1]⟩,⟨1,2,[0,0,1]⟩] (λk=>if k=1 then 3 else 2) ?_ (λk=>by dsimp only;split<;>exact⟨by decide,by decide⟩) (λf Z=>?_) (by decide)
   .exact run _ rfl
   .simp at Z;rcases Z with rfl|rfl<;>exact⟨by decide,by decide,by decide,by decide⟩
 .have qq:¬(v:Int)<7:=by lia
  obtain⟨u,M2,e2,l2,s2,zk⟩:=Cq R s1.has (many:=3) (by decide) (by decide);obtain⟨K,eK,qv⟩:∃K:Nat,(1:Int)+(u:Int)=(K:Int)/\K=1+u:=⟨1+u,by lia,rfl⟩;obtain⟨Jd,M3,e3,l3,r3,s3,zz⟩:=anj (a1:=some (.int v)) (a2:=none) (a3:=none) (a4:=none) (a5:=none) (a7:=none) (a8:=none) (a9:=none) (a10:=none) (a11:=none) (K:=K) R s2.has (by lia);have qk:t<M3.length:=by obtain⟨n,h,_⟩:=s3.has;exact rm h
  have h4:Wb t f (M3++[.lst []]):=by obtain⟨n,h,o⟩:=s3.has;exact⟨n,uf h,o⟩
  obtain⟨fs,q0,M5,e5,q8,q1,q2,q3,q4,q5,q6⟩:=Z8 (v:=v) (K:=K) (p:=M3.length) (a9:=none) (a10:=none) (a11:=none) R h4 l3 (by lia) (by lia) r3 (by simp) (i_ qk);refine⟨.ref M3.length,M5,fs,λk=>Jd.getD k 1,?_,qj q1,λn h=>by cases h;exact i_ qk,λk=>?_,q3,q2,?_⟩
  .simp[Fn.run,Dd,Kd,e1,qq,e2,eK,e3,MW.new,e5,q8]
  .show 1<=Jd.getD k 1/\Jd.getD k 1<=4
   by_cases h:k<Jd.length
   .have:=r3 _ (getD_mem h)
    simp[fc,h] at this ⊢;exact⟨this.1,a_ this.2 (by decide)⟩
   .simp[fc,h]
  .refine s1.trans (s2.trans (s3.trans ⟨?_,q5,λa o na h=>q6 a o na ?_ (uf h)⟩))
   .have:=q4;simp at this;lia
   .have:=rm h;exact h_ this
structure Up(p:Nat)(M M':cg):Prop where
 len:M'.length=M.length
 oth:∀a:Nat,a≠p->M'[a]?=M[a]?
def Up.refl(p:Nat)(M:cg):Up p M M:=⟨rfl,λ_ _=>rfl⟩
theorem Up.trans(a:Up p M Z)(b:Up p Z M2):Up p M M2:=⟨b.len.trans a.len,λx h=>(b.oth x h).trans (a.oth x h)⟩
theorem Up.set(p:Nat)(M:cg)(o:MO):Up p M (M.set p o):=⟨by simp,λa h=>jm (ji h)⟩
def Np(h:M[p]?=some (.lst ds)):J7 M x (.ref p)=memD M x ds:=by simp[J7,h,Bh,dm]
def T9(f:F)(M:cg):Aa f.toD (.int 0) M=some (.int f.a):=rfl
def Ua(f:F)(M:cg):Aa f.toD (.int 1) M=some (.int f.b):=rfl
def anl(f:F)(M:cg):Aa f.toD (.int 2) M=some (El f.r):=rfl
def Nq(M:cg)(r:Y3)(n:Nat):yq M (El r) (.tup ((List.range n).map λ(k:Nat)=>D.int (k:Int)))=some (decide (r=List.range n)):=afe M r (List.range n)
def eq_nil(M:cg)(r:Y3):yq M (El r) (.tup [])=some (decide (r=[])):=afe M r []
def Bk(M:cg)(a b:Nat):yq M (.int a) (.int b)=some (decide (a=b)):=by rw[eq_int,ahh]
def Im(M:cg)(r:Y3):vz .len [El r] M=.ok (.int r.length) M:=by simp[vz,Bh,El]
def Qa(M:cg)(Z:List D):vz .tuple [.vl Z] M=.ok (.tup Z) M:=by simp[vz,Bh]
def Z9(M:cg)(r:Y3):vz .tuple [.vl (r.map nD)] M=.ok (El r) M:=Qa M _
def afi(Z:Sz sz)(h:Xo sz f):1<=f.r.length/\f.r.length<=4:=by rw[h.len];exact Z _
def atz(M:cg)(r:Y3):srcOf M (El r)=some (.con (r.map nD)):=rfl
def anm(M:cg)(r:Y3)(h:x<r.length):Aa (El r) (.int x) M=some (.int (r.getD x 0)):=J8 q_ (by simp[h,nD])
def ano(hz:Sz sz)(R:Xo sz f)(hg:Xo sz g)(h:f.b=g.a) :
 Gj.den W [a0,a1,a2,a3,a4,a5,a6,some f.toD,some g.toD,a9] M=.ok (.vl ((f.comp g).r.map nD)) M:=by
 have U:(f.r.map nD).length<=100000:=by rw[du,R.len];have:=hz f.a;exact a_ this.2 (by decide)
 unfold Gj;rw[Ma];simp[anl,atz];have:=ahb (M:=M) (ds:=f.r.map nD) (g:=λd=>match d with|.int i=>nD (g.r.getD i.toNat 0)|_=>.non)
  (body:=λd M=>((Res.uz (Aa (El g.r) d M) M).bind λx M'=>Res.ok (some x) M')) U (λd hd=>by
   obtain⟨x,hx,rfl⟩:=bh.mp hd;have Z:x<g.r.length:=by rw[hg.len,<- h];exact R.ran x hx
   rw[show nD x=D.int (x:Int) from rfl,anm M g.r Z];simp[nD])
 rw[this];simp[F.comp,nD]
noncomputable def Km(Z:List F)(f g:F):List F:=if f.b=g.a/\f.comp g∉Z/\¬(f.comp g).P0 then Z++[f.comp g] else Z
def afj(f g:F):D.tup [.int f.a,.int g.b,El (f.comp g).r]=(f.comp g).toD:=rfl
def Wc(hz:Sz sz)(hf:Xo sz f)(hg:Xo sz g)(U:M[p]?=some (.lst (R.map F.toD)))(hl:R.length<100000) :
 ∃(b4 b9:Option D)(M':cg),Ca.den W [a0,D.ref p,a2,a3,a4,a5,a6,some f.toD,some g.toD,a9] M=.ok (.next,[a0,some (.ref p),a2,a3,b4,a5,a6,some f.toD,some g.toD,b9]) M' /\
  M'[p]?=some (.lst ((Km R f g).map F.toD))/\Up p M M':=by
 by_cases h:f.b=g.a
 .have hc:=ano (W:=W) (M:=M) (a0:=a0) (a1:=some (.ref p)) (a2:=a2) (a3:=a3) (a4:=some (.tup [])) (a5:=a5) (a6:=a6) (a9:=a9) hz hf hg h
  have hr:(f.comp g).r≠[]:=λe=>by have:=(afi hz (hf.comp hg h)).1;rw[e] at this;simp at this
  have Z:(f.comp g).r.length<=100000:=by have:=(afi hz (hf.comp hg h)).2;exact a_ this (by decide)
  have Ib:=anh M (f.comp g) R;have e0:(f.comp g).a=f.a:=rfl;have e1:(f.comp g).b=g.b:=rfl;have ap:=Bu (d:=(f.comp g).toD) U (by rw[du];exact hl);have qq:∃T:Res (Flow×Env),Ca.den W [a0,D.ref p,a2,a3,a4,a5,a6,some f.toD,some g.toD,a9] M=T/\(f.comp g∈R->T=.ok (.next,[a0,some (.ref p),a2,a3,some (El (f.comp g).r),a5,a6,some f.toD,some g.toD,some (f.comp g).toD]) M)/\(f.comp g∉R->(f.comp g).P0->T=.ok (.next,[a0,some (.ref p),a2,a3,some (El (f.comp g).r),a5,a6,some f.toD,some g.toD,some (f.comp g).toD]) M) /\
   (f.comp g∉R->¬(f.comp g).P0->T=.ok (.next,[a0,some (.ref p),a2,a3,some (El (f.comp g).r),a5,a6,some f.toD,some g.toD,some (f.comp g).toD]) (M.set p (.lst ((R++[f.comp g]).map F.toD)))):=by
   refine⟨_,(by simp[-eq_int,Ca,T9,Ua,Bk,h,hc,Z9,afj,eq_nil,hr,Np U,Ib];exact rfl),?_,?_,?_⟩
   .intro m;simp[m]
   .intro m i;simp[-eq_int,m,T9,Ua,Bk,i.1,Im,Z,Nq,zb i.2]
   .intro m i
    by_cases i1:(f.comp g).a=(f.comp g).b
    .have i2:¬(f.comp g).r=List.range (f.comp g).r.length:=λq=>i ⟨i1,q⟩
     simp[-eq_int,T9,Ua,Bk,m,i1,Im,Z,Nq,i2,Cu U,ap]
    .simp[-eq_int,T9,Ua,Bk,m,i1,Im,Z,Nq,Cu U,ap]
  obtain⟨T,e,k1,k2,k3⟩:=qq
  by_cases m:f.comp g∈R
  .exact⟨_,_,M,e.trans (k1 m),by rw[Km,bw (λq=>q.2.1 m)];exact U,Up.refl p M⟩
  .by_cases i:(f.comp g).P0
   .exact⟨_,_,M,e.trans (k2 m i),by rw[Km,bw (λq=>q.2.2 i)];exact U,Up.refl p M⟩
   .exact⟨_,_,_,e.trans (k3 m i),by rw[Km,cj ⟨h,m,i⟩,p7 U],Up.set _ _ _⟩
 .refine⟨some (.tup []),some (.tup [.int f.a,.int g.b,.tup []]),M,?_,by rw[Km,bw (λq=>h q.1)];exact U,Up.refl p M⟩
  have:=afe M [] [];simp[El] at this;simp[-eq_int,Ca,T9,Ua,Bk,h,this]
structure Inv(sz:Nat->Nat)(gs:List F):Prop where
 good:Good sz gs
 nd:gs.Nodup
 nid:∀f∈gs,¬f.P0
def Inv.snoc{sz:Nat->Nat}(h:Inv sz U)(hf:Xo sz f)(hm:f∉U)(hi:¬f.P0):Inv sz (U++[f]):=by
 refine⟨λx Z=>?_,?_,λx Z=>?_⟩
 .rcases bx.mp Z with q|q
  .exact h.good x q
  .have:x=f:=by simpa using q
   exact this▸hf
 .rw[m9]
  refine⟨h.nd,by simp,λa ha b R=>?_⟩;have:b=f:=by simpa using R
  exact λe=>hm (by rw[<- this,<- e];exact ha)
 .rcases bx.mp Z with q|q
  .exact h.nid x q
  .have:x=f:=by simpa using q
   exact this▸hi
noncomputable def Cl2(Z:List F)(f g:F):Prop:=f.b=g.a->f.comp g∈Z\/(f.comp g).P0
def Cl2.mono(h:Cl2 U f g)(s:U <+: Z):Cl2 Z f g:=λe=>(h e).imp (λm=>s.subset m) id
def Nr(Z:List F)(f g:F):Z <+: Km Z f g:=by
 unfold Km;split
 .exact List.prefix_append _ _
 .exact List.prefix_rfl
def Wd(Z:List F)(f g:F):(Km Z f g).length<=Z.length+1:=by unfold Km;split<;>simp
set_option tactic.hygienic true in
def acd(h:Inv sz Z)(G:Xo sz f)(Y:Xo sz g):Inv sz (Km Z f g):=by
 unfold Km;split
 .rename_i q;exact h.snoc (G.comp Y q.1) q.2.1 q.2.2
 .exact h
def ahl(Z:List F)(f g:F):Cl2 (Km Z f g) f g:=by
 intro e;unfold Km
 by_cases m:f.comp g∈Z
 .left;split
  .exact ig _ m
  .exact m
 .by_cases i:(f.comp g).P0
  .exact .inr i
  .left;rw[cj ⟨e,m,i⟩];simp
def Qy{Z:List F}{i:Nat}(s:Z <+: U)(h:Z[i]?=some f):U[i]?=some f:=by obtain⟨t,rfl⟩:=s;rw[dq (ak.mp h).1];exact h
def O9{Z:List F}{i:Nat}(U:M[p]?=some (.lst (Z.map F.toD)))(h:Z[i]?=some f):Aa (.ref p) (.int i) M=some f.toD:=Cm (qj U) q_ (by simp[h])
def Ko{Z:List F}(U:M[p]?=some (.lst (Z.map F.toD))):vz .len [.ref p] M=.ok (.int Z.length) M:=by rw[len_list (qj U)];simp
def azt{k j:Nat}(hz:Sz sz)(hi:Inv sz Z)(R:M[p]?=some (.lst (Z.map F.toD)))(hl:Z.length<90000)(hk:Z[k]?=some f)(hj:Z[j]?=some g) :
 ∃(b4 b7 b8 U:Option D)(M':cg),Gk.den W [a0,D.ref p,a2,a3,a4,D.int k,D.int j,a7,a8,a9] M=.ok (.next,[a0,some (.ref p),a2,a3,b4,some (.int k),some (.int j),b7,b8,U]) M' /\
  M'[p]?=some (.lst ((Km (Km Z f g) g f).map F.toD))/\Up p M M':=by
 refine hG λ_ _k=>?_
 have hf:=hi.good f (au hk);have hg:=hi.good g (au hj);have l1:=Wd Z f g;obtain⟨b4,U,M1,e1,p1,u1⟩:=Wc (W:=W) (M:=M) (a0:=a0) (a2:=a2) (a3:=a3) (a4:=a4) (a5:=some (.int k)) (a6:=some (.int j)) (a9:=a9) hz hf hg R (b_ hl (by decide));obtain⟨c4,c9,M2,e2,p2,u2⟩:=Wc (W:=W) (M:=M1) (a0:=a0) (a2:=a2) (a3:=a3) (a4:=b4) (a5:=some (.int k)) (a6:=some (.int j)) (a9:=U) hz hg hf p1 (by lia);apply _k;refine⟨c4,some g.toD,some f.toD,c9,M2,?_,p2,u1.trans u2⟩;unfold Gk;rw[Ry];simp[O9 R hk,O9 R hj,srcOf,Src.len,Src.fin,Br,Src.item,e1,e2]
def at4{k:Nat}(hz:Sz sz)(hi:Inv sz Z)(hp:M[p]?=some (.lst (Z.map F.toD)))(hl:Z.length<10000)(hk:Z[k]?=some f) :
 ∃(U:List F)(b4 b6 b7 b8 b9:Option D)(M':cg),Gn.den W [a0,D.ref p,a2,a3,a4,D.int k,a6,a7,a8,a9] M=.ok (.next,[a0,some (.ref p),a2,a3,b4,some (.int k),b6,b7,b8,b9]) M' /\
  M'[p]?=some (.lst (U.map F.toD))/\Up p M M'/\Z <+: U/\Inv sz U/\U.length<=3*Z.length/\∀(j:Nat)(g:F),Z[j]?=some g->Cl2 U f g/\Cl2 U g f:=by
 unfold Gn;rw[Ry];have qq:Z.length<=100000:=e_ (b_ hl (by decide))
 simp[Ko hp,qq];refine hG λ_ _k=>?_
 obtain⟨qk,M',e,U,b4,b6,b7,b8,b9,rfl,h1,h2,h3,h4,h5,h6⟩:=Z0 (n:=Z.length) (body:=λd ρ M=>Gm.den W (ρ.set 6 (some d)) M)
  (λi ρ M'=>∃(U:List F)(b4 b6 b7 b8 b9:Option D),ρ=[a0,some (.ref p),a2,a3,b4,some (.int k),b6,b7,b8,b9]/\M'[p]?=some (.lst (U.map F.toD))/\Up p M M'/\Z <+: U/\Inv sz U/\U.length<=Z.length+2*i /\
   ∀(j:Nat)(g:F),j<i->Z[j]?=some g->Cl2 U f g/\Cl2 U g f) (ρ:=[a0,D.ref p,a2,a3,a4,D.int k,a6,a7,a8,a9]) (M:=M)
  ⟨Z,a4,a6,a7,a8,a9,rfl,hp,Up.refl p M,List.prefix_rfl,hi,x_,λj g h=>absurd h (u9 _)⟩
  (λi ρ M2 J1 hI=>by
   refine hG λ_ _k=>?_
   obtain⟨U,b4,b6,b7,b8,b9,rfl,g1,g2,g3,g4,g5,g6⟩:=hI;have gi:Z[i]?=some Z[i]:=by simp[J1]
   obtain⟨c4,c7,c8,c9,M3,e3,p3,u3⟩:=azt (W:=W) (M:=M2) (a0:=a0) (a2:=a2) (a3:=a3) (a4:=b4) (a7:=b7) (a8:=b8) (a9:=b9) hz g4 g1 (by lia) (Qy g3 hk) (Qy g3 gi);have hf:=g4.good f (au (Qy g3 hk));have hg:=g4.good Z[i] (au (Qy g3 gi));apply _k;refine⟨.next,_,M3,?_,.inl rfl,Km (Km U f Z[i]) Z[i] f,c4,some (.int i),c7,c8,c9,rfl,p3,g2.trans u3,(g3.trans (Nr _ _ _)).trans (Nr _ _ _),acd (acd g4 hf hg) hg hf,?_,?_⟩
   .simp[Gm,e3]
   .have:=Wd U f Z[i]
    have:=Wd (Km U f Z[i]) Z[i] f
    lia
   .intro j g hj R
    have pr:=(Nr U f Z[i]).trans (Nr (Km U f Z[i]) Z[i] f);rcases Nat.lt_succ_iff_lt_or_eq.mp hj with q|q
    .exact⟨(g6 j g q R).1.mono pr,(g6 j g q R).2.mono pr⟩
    .subst q
     have:g=Z[j]:=by rw[gi] at R;exact(ju R).symm
     subst this;exact⟨(ahl _ _ _).mono (Nr _ _ _),ahl _ _ _⟩)
 apply _k;refine⟨U,b4,b6,b7,b8,b9,M',e,h1,h2,h3,h4,by lia,λj g hg=>h6 j g (ak.mp hg).1 hg⟩
def anp(f:F)(i j k:Nat)(Z:Env):(Tg.names [i,j,k]).put f.toD Z=some (((Z.set i (some (.int f.a))).set j (some (.int f.b))).set k (some (El f.r))):=rfl
noncomputable def aaa(Z:List F)(f:F):List F:=if ¬f.P0/\f∉Z then Z++[f] else Z
noncomputable def ClK(Z:List F)(k:Nat):Prop:=∀(i j:Nat)(f g:F),i<k->j<k->Z[i]?=some f->Z[j]?=some g->Cl2 Z f g
def ajt(hz:Sz sz)(hf:Xo sz f)(U:M[p]?=some (.lst (gs.map F.toD)))(hl:gs.length<100000) :
 ∃M',zq.den W [a0,D.ref p,D.int f.a,D.int f.b,El f.r,a5,a6,a7,a8,a9] M=.ok (.next,[a0,some (.ref p),some (.int f.a),some (.int f.b),some (El f.r),a5,a6,a7,a8,a9]) M' /\
  M'[p]?=some (.lst ((aaa gs f).map F.toD))/\Up p M M':=by
 have Z:f.r.length<=100000:=by have:=(afi hz hf).2;exact a_ this (by decide)
 have Ib:=anh M f gs;have hD:D.tup [.int f.a,.int f.b,El f.r]=f.toD:=rfl;have ap:=Bu (d:=f.toD) U (by rw[du];exact hl)
 by_cases i:f.P0
 .refine⟨M,?_,by rw[aaa,bw (λq=>q.1 i)];exact U,Up.refl p M⟩
  simp[-eq_int,zq,Bk,i.1,Im,Z,Nq,zb i.2]
 .by_cases m:f∈gs
  .refine⟨M,?_,by rw[aaa,bw (λq=>q.2 m)];exact U,Up.refl p M⟩
   by_cases R:f.a=f.b
   .have i2:¬f.r=List.range f.r.length:=λq=>i ⟨R,q⟩
    simp[R] at hD;simp[-eq_int,zq,Bk,R,i2,Im,Z,Nq,hD,Np U,Ib,m]
   .simp[-eq_int,zq,Bk,R,Im,Z,Nq,hD,Np U,Ib,m]
  .refine⟨M.set p (.lst ((gs++[f]).map F.toD)),?_,by rw[aaa,cj ⟨i,m⟩,p7 U],Up.set _ _ _⟩
   by_cases R:f.a=f.b
   .have i2:¬f.r=List.range f.r.length:=λq=>i ⟨R,q⟩
    simp[R] at hD;simp[-eq_int,zq,Bk,R,i2,Im,Z,Nq,hD,Np U,Ib,m,Cu U,ap]
   .simp[-eq_int,zq,Bk,R,Im,Z,Nq,hD,Np U,Ib,m,Cu U,ap]
set_option tactic.hygienic true in
def anq(h:Inv sz Z)(Y:Xo sz f):Inv sz (aaa Z f):=by
 unfold aaa;split
 .rename_i q;exact h.snoc Y q.2 q.1
 .exact h
def anr(Z:List F)(f:F):(aaa Z f).length<=Z.length+1:=by unfold aaa;split<;>simp
def aju(hz:Sz sz)(hi:Inv sz gs)(hp:M[p]?=some (.lst (gs.map F.toD)))(hl:gs.length<=3) :
 ∃(qk:Env)(M':cg),Gp.den W [a0,D.ref p,a2,a3,a4,D.int 0,a6,a7,a8,a9] M=.ok (.next,qk) M'/\qk[1]?=some (some (.ref p))/\∃Z:List F,M'[p]?=some (.lst (Z.map F.toD))/\Up p M M'/\Inv sz Z/\Z.length<=15 /\
  (Z.length<6->Nk Z)/\(gs=[]->Z=[]):=by
 unfold Gp;rw[Zw];refine G8 (λm ρ M'=>∃(Z:List F)(k:Nat)(b4 b6 b7 b8 b9:Option D),ρ=[a0,some (.ref p),a2,a3,b4,some (.int k),b6,b7,b8,b9]/\M'[p]?=some (.lst (Z.map F.toD))/\Up p M M'/\Inv sz Z/\Z.length<=15/\ClK Z k/\k<=5/\m=10-k/\(gs=[]->Z=[]))
  (λqk M'=>qk[1]?=some (some (.ref p))/\∃Z:List F,M'[p]?=some (.lst (Z.map F.toD))/\Up p M M'/\Inv sz Z/\Z.length<=15/\(Z.length<6->Nk Z)/\(gs=[]->Z=[])) ?_ Vy 10 _ M (by decide)
  ⟨gs,0,a4,a6,a7,a8,a9,rfl,hp,Up.refl p M,hi,a_ hl (by decide),λi j f g h=>absurd h (u9 _),jr _,rfl,id⟩
 intro m ρ M1 hI;refine hG λ_ _k=>?_
 obtain⟨Z,k,b4,b6,b7,b8,b9,rfl,g1,g2,g3,g4,g5,g6,g7,g8⟩:=hI;apply _k
 by_cases c1:k<Z.length
 .have qq:(k:Int)<(Z.length:Int):=m_ c1
  by_cases c2:Z.length<6
  .have q2:(Z.length:Int)<6:=m_ c2
   right
   refine hG λ_ _k=>?_
   obtain⟨is,d4,d6,d7,d8,d9,M2,e,p2,u2,pr,q3,l2,q4⟩:=at4 (W:=W) (M:=M1) (a0:=a0) (a2:=a2) (a3:=a3) (a4:=b4) (a6:=b6) (a7:=b7) (a8:=b8) (a9:=b9) (k:=k) hz g3 g1 (c_ g4 (by decide)) (show Z[k]?=some Z[k] by simp[c1]);apply _k;refine⟨M1,.next,_,M2,10-(k+1),?_,?_,.inl rfl,by lia,is,k+1,d4,d6,d7,d8,d9,rfl,p2,g2.trans u2,q3,by lia,?_,by lia,rfl,?_⟩
   .simp[Ko g1,qq,q2]
   .simp[K8,e]
   .intro i j f g U R hf hg
    have qv:∀(i:Nat)(f:F),i<k+1->is[i]?=some f->Z[i]?=some f:=λi f hi hf=>by
     have J1:i<Z.length:=b_ hi c1
     have:=Qy pr (show Z[i]?=some Z[i] by simp[J1]);rw[hf] at this;rw[this];simp[J1]
    have q1:=qv i f U hf;have q0:=qv j g R hg
    by_cases ei:i=k
    .subst ei
     have:f=Z[i]:=by have:=q1;simp[c1] at this;exact this.symm
     subst this;exact(q4 j g q0).1
    .by_cases ej:j=k
     .subst ej
      have:g=Z[j]:=by have:=q0;simp[c1] at this;exact this.symm
      subst this;exact(q4 i f q1).2
     .exact(g5 i j f g (by lia) (by lia) q1 q0).mono pr
   .intro e0
    have:=g8 e0;subst this;simp at c1
  .left
   have q2:¬(Z.length:Int)<6:=by lia
   exact⟨M1,by simp[Ko g1,qq,q2],rfl,Z,g1,g2,g3,g4,λq=>absurd q c2,g8⟩
 .left
  have qq:¬(k:Int)<(Z.length:Int):=by lia
  refine⟨M1,by simp[Ko g1,qq],rfl,Z,g1,g2,g3,g4,λ_=>?_,g8⟩;intro f hf g hg;refine hG λ_ _k=>?_
  obtain⟨i,U,ei⟩:=uc hf;obtain⟨j,R,ej⟩:=uc hg;apply _k;exact g5 i j f g (b_ U (s_ c1)) (b_ R (s_ c1)) (by simp[U,ei]) (by simp[R,ej])
def Yr(hm:1<=m)(hz:Sz sz)(hg:Good sz fs)(hl:fs.length<=3)(hd:dm M d=some (fs.map F.toD)) :
 ∃(R:List F)(U:cg),prog.call m 16 [d] M=.ok (.ref M.length) U/\U[M.length]?=some (.lst (R.map F.toD))/\Ay M U/\U.length=M.length+1/\Inv sz R/\R.length<=15/\(R.length<6->Nk R)/\(fs=[]->R=[]):=by
 rw[call_of hm rfl];refine hG λ_ _k=>?_
 have qq:dm (M++[.lst []]) d=some (fs.map F.toD):=(Ay.app M _).dm hd;obtain⟨s,q0,q7,M1,e1,Z,b2,b3,b4,rfl,h1,h2,h3,h4,h5⟩:=V3 (body:=λd ρ M=>match(Tg.names [2,3,4]).put d ρ with
  | some q2=>zq.den (PW (m-1)) q2 M|none=>.bad)
  (λi ρ U=>∃(Z:List F)(b2 b3 b4:Option D),ρ=[some d,some (.ref M.length),b2,b3,b4,none,none,none,none,none]/\U[M.length]?=some (.lst (Z.map F.toD))/\Up M.length (M++[.lst []]) U/\Inv sz Z/\Z.length<=i/\(fs=[]->Z=[]))
  (ρ:=[some d,D.ref M.length,none,none,none,none,none,none,none,none]) (M:=M++[.lst []]) qq
  ⟨[],none,none,none,rfl,by simp,Up.refl _ _,⟨λf hf=>by simp at hf,by simp,λf hf=>by simp at hf⟩,by simp,λ_=>rfl⟩
  (λi ρ U hI=>by
   refine hG λ_ _k=>?_
   obtain⟨Z,b2,b3,b4,rfl,g1,g2,g3,g4,g5⟩:=hI;apply _k;cases d with
   |vl xs=>exact hd
   |ref n =>
    have hn:n≠M.length:=by
     simp only[dm] at hd;cases e:M[n]? with
     |none=>rw[e] at hd;simp at hd|some o=>have:=rm e;exact h_ this
    simp only[dm] at qq ⊢;rw[g2.oth n hn];exact qq
   | _=>simp[dm] at hd)
  (λi x ρ U hx hI=>by
   refine hG λ_ _k=>?_
   obtain⟨Z,b2,b3,b4,rfl,g1,g2,g3,g4,g5⟩:=hI;obtain⟨f,hf,rfl⟩:∃f,fs[i]?=some f/\f.toD=x:=by simpa using hx
   have qv:=au hf;have q5:=(ak.mp hf).1;obtain⟨M2,e2,p2,u2⟩:=ajt (W:=PW (m-1)) (M:=U) (a0:=some d) (a5:=none) (a6:=none) (a7:=none) (a8:=none) (a9:=none) hz (hg f qv) g1 (c_ g4 (b_ q5 (a_ hl (by decide))));apply _k;refine⟨.next,_,M2,?_,.inl rfl,aaa Z f,some (.int f.a),some (.int f.b),some (El f.r),rfl,p2,g2.trans u2,anq g3 (hg f qv),?_,λe=>?_⟩
   .rw[anp];exact e2
   .have:=anr Z f;exact a_ this (v_ g4)
   .subst e;simp at hf)
 apply _k;have q4:Z.length<=3:=by simp at h4;exact a_ h4 hl
 refine hG λ_ _k=>?_
 obtain⟨q6,M2,e2,q1,R,p2,u2,qk,l2,c2,z2⟩:=aju (W:=PW (m-1)) (M:=M1) (a0:=some d) (a2:=b2) (a3:=b3) (a4:=b4) (a6:=none) (a7:=none) (a8:=none) (a9:=none) hz h3 h1 q4;have up:=h2.trans u2;apply _k;refine⟨R,M2,?_,p2,λa o h=>?_,?_,qk,l2,c2,λe=>z2 (h5 e)⟩
 .have q3:Gq.den (PW (m-1)) [some d,some (.ref M.length),none,none,none,none,none,none,none,none] (M++[.lst []])=.ok (.next,[some d,some (.ref M.length),b2,b3,b4,none,none,none,none,none]) M1:=by
   unfold Gq;rw[Ry];simp[q0];exact e1
  simp[Fn.run,O1,Oz,MW.new,q3,e2,q1]
 .have:=rm h
  rw[up.oth a (h_ this)];exact uf h
 .rw[up.len];simp
noncomputable def eD(f:F):D:=.tup [.int f.a,.int f.b]
noncomputable def Gf(Z:List F):D:=.tup (Z.map eD)
noncomputable def ent(Z:List F)(f g:F):Int:=if f.comp g∈Z then(pos (f.comp g) Z:Int) else -1
noncomputable def ky(j k:Nat):List Kx:=[.inl (j:Int),.inl (k:Int)]
def afk(h:ky j k=ky Z k'):j=Z/\k=k':=by simp[ky] at h;exact⟨D_ h.1,D_ h.2⟩
noncomputable def Ys(j k Z U:Nat):Prop:=Z<j\/(Z=j/\U<k)
structure Tb(hs:List F)(j k:Nat)(kvs:List (List Kx×D)):Prop where
 keys:∀p∈kvs,∃(j' k':Nat)(f g:F),p=(ky j' k',.int (ent hs f g))/\hs[j']?=some f/\hs[k']?=some g/\f.b=g.a/\Ys j k j' k'
 look:∀(j' k':Nat)(f g:F),hs[j']?=some f->hs[k']?=some g->f.b=g.a->Ys j k j' k'->wg kvs (ky j' k')=some (.int (ent hs f g))
 len:kvs.length<=j*hs.length+k
def ajv{Z:List (List Kx×D)}(h:∀p∈Z,p.1≠q):wg Z q=none:=by unfold wg;rw[Be.mpr (λp U=>by simpa using h p U)];rfl
def Su{Z:List (List Kx×D)}(h:∀p∈Z,p.1≠q):Dw Z q v=Z++[(q,v)]:=by unfold Dw;rw[bw];simp only[List.any_eq_true,di,not_exists,not_and];exact h
def aab{Z:List (List Kx×D)}(h:q≠q'):wg (Z++[(q,v)]) q'=wg Z q':=by
 unfold wg;rw[List.find?_append];cases e:Z.find? (λp=>decide (p.1=q')) with
 |some p=>rfl|none=>simp[h]
def aac{Z:List (List Kx×D)}(h:∀p∈Z,p.1≠q):wg (Z++[(q,v)]) q=some v:=by unfold wg;rw[List.find?_append,Be.mpr (λp U=>by simpa using h p U)];simp
def Tb.skip(h:Tb hs j k kvs)(hf:hs[j]?=some f)(hg:hs[k]?=some g)(n:f.b≠g.a):Tb hs j (k+1) kvs:=by
 refine⟨λp hp=>?_,λU Z R g' a b c d=>?_,by have:=h.len;exact a_ this (w_ x_)⟩
 .obtain⟨U,Z,R,g',e,a,b,c,d⟩:=h.keys p hp
  exact⟨U,Z,R,g',e,a,b,c,by unfold Ys at *;lia⟩
 .by_cases q:U=j/\Z=k
  .obtain⟨rfl,rfl⟩:=q
   rw[hf] at a;rw[hg] at b;cases a;cases b;exact absurd c n
  .exact h.look U Z R g' a b c (by unfold Ys at *;lia)
def Tb.fresh(h:Tb hs j k kvs):∀p∈kvs,p.1≠ky j k:=by
 intro p Z e;obtain⟨R,U,f',g',rfl,a,b,c,d⟩:=h.keys p Z;have:=afk e;unfold Ys at d
 lia
def Tb.put(h:Tb Z j k kvs)(hf:Z[j]?=some f)(hg:Z[k]?=some g)(n:f.b=g.a):Tb Z j (k+1) (Dw kvs (ky j k) (.int (ent Z f g))):=by
 rw[Su h.fresh];refine⟨λp hp=>?_,λR U f' g' a b c d=>?_,by have:=h.len;simp;lia⟩
 .rcases bx.mp hp with q|q
  .obtain⟨R,U,f',g',e,a,b,c,d⟩:=h.keys p q
   exact⟨R,U,f',g',e,a,b,c,by unfold Ys at *;lia⟩
  .have:p=(ky j k,.int (ent Z f g)):=by simpa using q
   exact⟨j,k,f,g,this,hf,hg,n,by unfold Ys;lia⟩
 .by_cases q:R=j/\U=k
  .obtain⟨rfl,rfl⟩:=q
   rw[hf] at a;rw[hg] at b;cases a;cases b;exact aac h.fresh
  .rw[aab (λe=>q (by have:=afk e;exact⟨this.1.symm,this.2.symm⟩))]
   exact h.look R U f' g' a b c (by unfold Ys at *;lia)
def Tb.next(h:Tb Z j Z.length kvs):Tb Z (j+1) 0 kvs:=by
 refine⟨λp hp=>?_,λR U f' g' a b c d=>?_,by have:=h.len;have e:(j+1)*Z.length=j*Z.length+Z.length:=Nat.succ_mul _ _;exact a_ this (a_ (g_ e) x_)⟩
 .obtain⟨R,U,f',g',e,a,b,c,d⟩:=h.keys p hp
  exact⟨R,U,f',g',e,a,b,c,by unfold Ys at *;lia⟩
 .have:=(ak.mp b).1
  exact h.look R U f' g' a b c (by unfold Ys at *;lia)
def ant{U:List F}{j k:Nat}(hz:Sz sz)(hf:Xo sz f)(hg:Xo sz g)(h:f.b=g.a)(hq:M[q]?=some (.lst (U.map F.toD)))(hj:U[j]?=some f)(hk:U[k]?=some g) :
 Ez.den W [a0,a1,D.ref q,a3,a4,D.int j,D.int k,a7] M=.ok (.vl ((f.comp g).r.map nD)) M:=by
 have Z:(f.r.map nD).length<=100000:=by rw[du,hf.len];have:=hz f.a;exact a_ this.2 (by decide)
 unfold Ez;rw[Z3 (ds:=f.r.map nD) (M1:=M) (g:=λd=>match d with|.int i=>nD (g.r.getD i.toNat 0)|_=>.non) (by simp[O9 hq hj,anl,El]) Z (λx hx=>by
  obtain⟨y,hy,rfl⟩:=bh.mp hx;have R:y<g.r.length:=by rw[hg.len,<- h];exact hf.ran y hy
  exact⟨_,rfl,by simp[O9 hq hk,anl,nD,anm M g.r R]⟩)]
 simp[F.comp,nD]
def afl(hz:Sz sz)(hi:Inv sz Z)(hl:Z.length<=5)(U:M[q]?=some (.lst (Z.map F.toD)))(hr:M[r]?=some (.dT kvs))(R:Z[j]?=some f)(hk:Z[k]?=some g)(ht:Tb Z j k kvs) :
 ∃(b7:Option D)(M':cg)(qq:List (List Kx×D)),Az.den W [a0,a1,D.ref q,a3,D.ref r,D.int j,D.int k,a7] M=.ok (.next,[a0,a1,some (.ref q),a3,some (.ref r),some (.int j),some (.int k),b7]) M' /\
  M'[r]?=some (.dT qq)/\Tb Z j (k+1) qq/\Up r M M':=by
 have q0:=(ak.mp R).1;have q2:=(ak.mp hk).1;have hf:=hi.good f (au R);have hg:=hi.good g (au hk)
 by_cases h:f.b=g.a
 .have hc:=ant (W:=W) (M:=M) (a0:=a0) (a1:=a1) (a3:=a3) (a4:=some (.ref r)) (a7:=a7) hz hf hg h U R hk
  have Ib:=anh M (f.comp g) Z;have q1:kvs.length<100000:=by
   have:=ht.len;have:j*Z.length<=5*5:=Nat.mul_le_mul (e_ (b_ q0 hl)) hl
   lia
  have st:=afd (d:=.int (ent Z f g)) (b:=.tup [.int j,.int k]) hr rfl q1;refine⟨some (f.comp g).toD,_,Dw kvs (ky j k) (.int (ent Z f g)),?_,p7 (o:=.dT (Dw kvs (ky j k) (.int (ent Z f g)))) hr,ht.put R hk h,Up.set _ _ _⟩
  by_cases m:f.comp g∈Z
  .have qv:Gg .index (.ref q) [(f.comp g).toD] M=.ok (.int (pos (f.comp g) Z)) M:=by simp[Gg,onL,onT,onK,V0 (qj U),a7g,m]
   have qk:Jj .index (.ref q) M=true:=by simp[Jj,qj U]
   have he:ent Z f g=(pos (f.comp g) Z:Int):=cj m;rw[he] at st;simp[-eq_int,Az,O9 U R,O9 U hk,T9,Ua,Bk,h,hc,Z9,afj,Np U,Ib,m,qk,qv,st,he,ky]
  .have he:ent Z f g=-1:=bw m
   rw[he] at st;simp[-eq_int,Az,O9 U R,O9 U hk,T9,Ua,Bk,h,hc,Z9,afj,Np U,Ib,m,st,he,ky]
 .refine⟨a7,M,kvs,?_,hr,ht.skip R hk h,Up.refl r M⟩
  simp[-eq_int,Az,O9 U R,O9 U hk,T9,Ua,Bk,h]
def azv(hz:Sz sz)(hi:Inv sz U)(hl:U.length<=5)(hq:M[q]?=some (.lst (U.map F.toD)))(hr:M[r]?=some (.dT []))(qq:q≠r) :
 ∃(R:Env)(M':cg)(Z:List (List Kx×D)),Fe.den W [a0,a1,D.ref q,a3,D.ref r,a5,a6,a7] M=.ok (.next,R) M'/\R[2]?=some (some (.ref q))/\R[3]?=some a3/\R[4]?=some (some (.ref r))/\R.length=8 /\
  M'[r]?=some (.dT Z)/\Tb U U.length 0 Z/\Up r M M':=by
 unfold Fe;have q2:∀(M':cg),Up r M M'->vz .len [.ref q] M'=.ok (.int U.length) M':=λM' u=>Ko (by rw[u.oth q qq];exact hq)
 obtain⟨R,M',e,b5,b6,b7,Z,rfl,h1,h2,h3⟩:=yo (W:=W) (t:=.name 5) (b:=Fb) (it:=.blt .len (.o (.v 2))) (n:=U.length) (ρ:=[a0,a1,D.ref q,a3,D.ref r,a5,a6,a7]) (M:=M) (M1:=M) (by simp[Ko hq]) (a_ hl (by decide))
  (λj ρ M'=>∃(b5 b6 b7:Option D)(Z:List (List Kx×D)),ρ=[a0,a1,some (.ref q),a3,some (.ref r),b5,b6,b7]/\M'[r]?=some (.dT Z)/\Tb U j 0 Z/\Up r M M')
  ⟨a5,a6,a7,[],rfl,hr,⟨λp hp=>by simp at hp,λj' k' f g a b c d=>by unfold Ys at d;lia,by simp⟩,Up.refl r M⟩
  (λj ρ M1 hj hI=>by
   obtain⟨b5,b6,b7,Z,rfl,g1,g2,g3⟩:=hI;have qk:M1[q]?=some (.lst (U.map F.toD)):=by rw[g3.oth q qq];exact hq
   obtain⟨q3,M2,e2,c6,c7,q1,rfl,k1,k2,k3⟩:=yo (W:=W) (t:=.name 6) (b:=Az) (it:=.blt .len (.o (.v 2))) (n:=U.length) (ρ:=[a0,a1,D.ref q,a3,D.ref r,D.int j,b6,b7]) (M:=M1) (M1:=M1) (by simp[Ko qk]) (a_ hl (by decide))
    (λk ρ M'=>∃(b6 b7:Option D)(Z:List (List Kx×D)),ρ=[a0,a1,some (.ref q),a3,some (.ref r),some (.int j),b6,b7]/\M'[r]?=some (.dT Z)/\Tb U j k Z/\Up r M1 M')
    ⟨b6,b7,Z,rfl,g1,g2,Up.refl r M1⟩
    (λk ρ M2 hk hI=>by
     obtain⟨b6,b7,Z,rfl,k1,k2,k3⟩:=hI;have qv:M2[q]?=some (.lst (U.map F.toD)):=by rw[k3.oth q qq];exact qk
     obtain⟨c7,M3,q0,e3,p3,t3,u3⟩:=afl (W:=W) (M:=M2) (a0:=a0) (a1:=a1) (a3:=a3) (a7:=b7) hz hi hl qv k1 (show U[j]?=some U[j] by simp[hj]) (show U[k]?=some U[k] by simp[hk]) k2;exact⟨_,.next,_,M3,rfl,e3,.inl rfl,_,c7,q0,rfl,p3,t3,k3.trans u3⟩)
   exact⟨_,.next,_,M2,rfl,by simp[Fb,Ju,e2],  .inl rfl,some (.int j),c6,c7,q1,rfl,k1,k2.next,g3.trans k3⟩)
 exact⟨_,M',Z,e,rfl,rfl,rfl,rfl,h1,h2,h3⟩
structure Lr(sz:Nat->Nat)(K:Nat)(hs:List F)(kvs:List (List Kx×D)):Prop where
 hz:Sz sz
 inv:Inv sz hs
 cl:Nk hs
 len:hs.length<=5
 k1:1<=K
 k3:K<=3
 ace:∀f∈hs,f.a<K
 afm:∀f∈hs,f.b<K
 tb:Tb hs hs.length 0 kvs
theorem acf:∀(Z:Y3)(a:Nat),∃v:Nat,(Z.map λ(x:Nat)=>(x:Int)).foldl (λm x=>if m<x then x else m) (a:Int)=(v:Int)/\a<=v/\(∀x∈Z,x<=v)/\(v=a\/v∈Z)
 |[],a=>⟨a,rfl,bc _,by simp,.inl rfl⟩
 |x::Z,a=>by
  refine hG λ_ _k=>?_
  obtain⟨v,e,U,h2,h3⟩:=acf Z (if a<x then x else a);apply _k;refine⟨v,?_,?_,λy R=>?_,?_⟩
  .rw[gh,Ad,<- e]
   congr 1
   by_cases q:a<x
   .have:(a:Int)<(x:Int):=m_ q
    simp[q]
   .have:¬(a:Int)<(x:Int):=by lia
    simp[q]
  .split at U<;>omega
  .rcases bz.mp R with q|q
   .subst q;split at U<;>omega
   .exact h2 y q
  .rcases h3 with q|q
   .by_cases w:a<x
    .right;rw[cj w] at q;subst q;simp
    .left;rw[bw w] at q;exact q
   .right;exact bf _ q
theorem acg:∀Z:List Nat,Vx (Z.map nD)=some (Z.map λ(x:Nat)=>(x:Int))
 |[]=>rfl|x::Z=>by simp[nD,Vx,show Vx (Z.map nD)=_ from acg Z]
def anu(h:xs≠[]):∃v:Nat,vz .max [.vl (xs.map nD)] M=.ok (.int v) M/\(∀x∈xs,x<=v)/\v∈xs:=by
 refine hG λ_ _k=>?_
 obtain⟨a,r,rfl⟩:∃a r,xs=a::r:=List.exists_cons_of_ne_nil h;obtain⟨v,e,R,h2,U⟩:=acf r a;apply _k;refine⟨v,?_,λx Z=>?_,?_⟩
 .have:=acg (a::r)
  simp only[vz,atq,Ym,qe,this];simp only[gh,azf,qe,vd,Res.Bt,e]
 .rcases bz.mp Z with q|q
  .subst q;exact R
  .exact h2 x q
 .rcases U with q|q
  .rw[q];simp
  .exact bf _ q
def max2(a b:Nat):vz .max [.int a,.int b] M=.ok (nD (max a b)) M:=by
 by_cases h:a<b
 .have Z:(a:Int)<b:=m_ h
  have e:max a b=b:=by lia
  simp[vz,h,nD,e]
 .have Z:¬(a:Int)<b:=by lia
  have e:max a b=a:=by lia
  simp[vz,h,nD,e]
noncomputable def toF:D->F
 |.tup [.int a,.int b,.tup r]=>⟨a.toNat,b.toNat,r.map λd=>match d with|.int i=>i.toNat|_=>0⟩
 |_=>⟨0,0,[]⟩
def Vb(f:F):toF f.toD=f:=by
 obtain⟨a,b,r⟩:=f;show F.mk a b ((r.map nD).map λd=>match d with|.int i=>i.toNat|_=>0)=F.mk a b r;rw[zp]
 conv=>rhs;rw[<- List.map_id r]
 exact nq _ (yx λx _=>rfl)
def anv{Z:List F}(U:Z.length<=100000)(R:M[q]?=some (.lst (Z.map F.toD))) :
 Ff.den W [a0,a1,D.ref q,a3,a4,a5,a6,a7] M=.ok (.vl ((Z.map λf=>max f.a f.b).map nD)) M:=by
 unfold Ff;rw[Av (d:=.ref q) (ds:=Z.map F.toD) (M1:=M) (g:=λd=>nD (max (toF d).a (toF d).b)) (by simp) (qj R) (by simpa using U) (λx hx=>by
  refine hG λ_ _k=>?_
  obtain⟨f,hf,rfl⟩:=bh.mp hx;apply _k;exact⟨_,anp _ _ _ _ _,by simp[max2,Vb]⟩)]
 simp[Vb]
def ajw{U:List F}(R:ρ[2]?=some (some (.ref q)))(Z:ρ.length=8)(hl:U.length<=100000)(hq:M[q]?=some (.lst (U.map F.toD))) :
 Ey.den W ρ M=.ok (.vl (U.map eD)) M:=by
 unfold Ey;rw[Av (d:=.ref q) (ds:=U.map F.toD) (M1:=M) (g:=λd=>eD (toF d)) (by simp[R]) (qj hq) (by simpa using hl) (λx hx=>by
  refine hG λ_ _k=>?_
  obtain⟨f,hf,rfl⟩:=bh.mp hx;apply _k;refine⟨_,anp _ _ _ _ _,?_⟩;rw[Vb];simp[eD,List.getElem?_set,Z])]
 simp[Vb]
def ajx(hm:1<=m)(hz:Sz sz)(q1:Wb t f M)(hg:Good sz fs)(hl:fs.length<=3)(hd:dm M d=some (fs.map F.toD))(hq:M[q]?=some (.lst (hs.map F.toD)))(qv:q≠t)(hi:Inv sz hs)(q2:hs.length<=15)(hc:hs.length<6->Nk hs)(h0:fs=[]->hs=[]) :
 ∃(U:Env)(M':cg),Fi.den (PW m) [some (.ref t),some d,some (.ref q),a3,a4,a5,a6,a7] M=.ok (.next,U) M'/\∃(d':D)(R:Nat)(Z:List F),U=[some (.ref t),some d',some (.ref R),a3,a4,a5,a6,a7] /\
  M'[R]?=some (.lst (Z.map F.toD))/\R≠t/\Inv sz Z/\Z.length<=5/\Nk Z/\Ay M M':=by
 unfold Fi;rw[Zw];refine G8 (λn ρ M'=>∃(d:D)(fs hs:List F)(q:Nat),ρ=[some (.ref t),some d,some (.ref q),a3,a4,a5,a6,a7]/\fs.length=n/\Good sz fs/\fs.length<=3/\dm M' d=some (fs.map F.toD)/\M'[q]?=some (.lst (hs.map F.toD))/\q≠t /\
  Inv sz hs/\hs.length<=15/\(hs.length<6->Nk hs)/\(fs=[]->hs=[])/\Ay M M')
  (λU M'=>∃(d':D)(R:Nat)(Z:List F),U=[some (.ref t),some d',some (.ref R),a3,a4,a5,a6,a7]/\M'[R]?=some (.lst (Z.map F.toD))/\R≠t/\Inv sz Z/\Z.length<=5/\Nk Z/\Ay M M') ?_ Vy fs.length _ M (by unfold Vy;exact c_ hl (by decide))
  ⟨d,fs,hs,q,rfl,rfl,hg,hl,hd,hq,qv,hi,q2,hc,h0,Ay.refl M⟩
 intro n ρ M1 hI;refine hG λ_ _k=>?_
 obtain⟨d,fs,hs,q,rfl,rfl,g1,g2,g3,g4,g5,g6,g7,g8,g9,qq⟩:=hI;apply _k
 by_cases c:5<hs.length
 .right
  refine hG λ_ _k=>?_
  have c':(5:Int)<(hs.length:Int):=m_ c
  have Xn:fs≠[]:=λe=>by rw[g9 e] at c;simp at c
  have q4:1<=fs.length:=List.length_pos_iff.mpr Xn
  have q3:abz d none (some (-1)) M1=some (.vl (fs.dropLast.map F.toD)):=by
   have qk:afb (fs.map F.toD) none (some (-1))=fs.dropLast.map F.toD:=by
    have e2:((-1:Int)+(fs.length:Int)).toNat=fs.length-1:=by lia
    simp[afb,clip,e2,List.map_dropLast,List.dropLast_eq_take]
   cases d with
   |tup ds=>simp[dm] at g3|vl ds=>simp only[abz,g3,vd,qk]|ref n=>simp only[abz,g3,vd,qk]|_=>simp[dm] at g3
  have gd:Good sz fs.dropLast:=λf hf=>g1 f (List.dropLast_subset fs hf)
  obtain⟨Z,M2,e,p2,k2,l2,i2,b2,c2,z2⟩:=Yr (M:=M1) (m:=m) (d:=.vl (fs.dropLast.map F.toD)) hm hz gd (by simp;exact a_ g2 (by decide)) rfl;have q0:t<M1.length:=by obtain⟨n,h,_⟩:=q1;exact rm (qq t _ h)
  apply _k;refine⟨M1,.next,_,M2,fs.length-1,?_,?_,.inl rfl,by lia,.vl (fs.dropLast.map F.toD),fs.dropLast,Z,M1.length,rfl,by simp,gd,by simp;exact a_ g2 (by decide),rfl,p2,i_ q0,i2,b2,c2,z2,qq.trans k2⟩
  .simp[Ko g4,c']
  .simp[-List.map_dropLast,Jv,q3,e]
 .left
  have c':¬(5:Int)<(hs.length:Int):=by lia
  exact⟨M1,by simp[Ko g4,c'],d,q,hs,rfl,g4,g5,g6,s_ c,g8 (c_ (s_ c) (by decide)),qq⟩
def afn(hm:3<=m)(qv:Wb t f M):∃(K r:Nat)(sz:Nat->Nat)(hs:List F)(R:List (List Kx×D))(M':cg),prog.call m 17 [.ref t] M=.ok (.tup [.int K,Gf hs,.ref r]) M'/\M'[r]?=some (.dT R)/\M.length<=r/\Lr sz K hs R/\St t f M M':=by
 rw[call_of (a_ (by decide) hm) rfl];have z0:t<M.length:=by obtain⟨n,h,_⟩:=qv;exact rm h
 refine hG λ_ _k=>?_
 obtain⟨d,M1,fs,sz,e1,d1,n1,hz,g1,l1,s1⟩:=ank (m:=m-1) (r_ hm) qv;obtain⟨hs,M2,e2,p2,k2,z4,i2,b2,c2,z2⟩:=Yr (M:=M1) (m:=m-1) (d:=d) (r_ (a_ (by decide) hm)) hz g1 l1 d1;apply _k;have q7:t<M1.length:=by obtain⟨n,h,_⟩:=s1.has;exact rm h
 refine hG λ_ _k=>?_
 have s2:St t f M1 M2:=St.of s1.has k2;obtain⟨z3,M3,e3,d',q,Z,rfl,p3,q3,i3,l3,c3,k3⟩:=ajx (M:=M2) (m:=m-1) (t:=t) (f:=f) (d:=d) (fs:=fs) (hs:=hs) (q:=M1.length) (a3:=none) (a4:=none) (a5:=none) (a6:=none) (a7:=none) (r_ (a_ (by decide) hm)) hz s2.has g1 l1 (k2.dm d1) p2 (i_ q7) i2 b2 c2 z2;have s3:St t f M2 M3:=St.of s2.has k3;have zk:=s1.trans (s2.trans s3);apply _k;refine hG λ_ _k=>?_
 have qk:=anv (W:=PW (m-1)) (M:=M3) (a0:=some (.ref t)) (a1:=some d') (a3:=none) (a4:=none) (a5:=none) (a6:=none) (a7:=none) (by exact a_ l3 (by decide):Z.length<=100000) p3;obtain⟨v,ev,q1,q5⟩:=anu (M:=M3) (xs:=(Z.map λf:F=>max f.a f.b)++[0]) (by simp);have qq:Er .add (.vl ((Z.map λf:F=>max f.a f.b).map nD)) (.vl [.int 0]) M3=.ok (.vl (((Z.map λf:F=>max f.a f.b)++[0]).map nD)) M3:=by rw[Yl _ _ (by simp;exact a_ l3 (by decide))];simp[nD]
 generalize hX:(D.vl ((Z.map λf:F=>max f.a f.b).map nD))=X at qk qq;generalize hY:(D.vl (((Z.map λf:F=>max f.a f.b)++[0]).map nD))=Y at ev qq;have zw:v<=2:=by
  rcases bx.mp q5 with w|w
  .refine hG λ_ _k=>?_
   obtain⟨x,hx,rfl⟩:=bh.mp w;apply _k;have:=(i3.good x hx).a;have:=(i3.good x hx).b;lia
  .simp at w;exact a_ (f_ w) (jr _)
 have q4:yq M3 (.ref q) (.vl [])=some (decide (Z=[])):=by
  simp only[yq];cases Z with
  |nil=>simp[Jf,dm,p3,Ot]|cons a l=>simp[Jf,dm,p3]
 apply _k;refine hG λ_ _k=>?_
 obtain⟨K,U,hK,k1,zz,ka,kb,p4,s4,l4⟩:∃(K:Nat)(U:cg),
  (Bp.iff (.cmp .eq (.v 2) (.Iw .nil)) (.o (.asg (.tg (.name 3)) (.bin .add (.i 1) (.call 14 (.p (.v 0) (.i 3)))))) .nil).den (PW (m-1)) [some (.ref t),some d',some (.ref q),some (.int (1+(v:Int))),none,none,none,none] M3
   = .ok (.next,[some (.ref t),some d',some (.ref q),some (.int K),none,none,none,none]) U/\1<=K/\K<=3/\(∀f∈Z,f.a<K)/\(∀f∈Z,f.b<K)/\U[q]?=some (.lst (Z.map F.toD))/\St t f M3 U/\U.length=M3.length:=by
  by_cases he:Z=[]
  .refine hG λ_ _k=>?_
   obtain⟨w,U,ew,lw,sw,q6⟩:=Cq (m:=m-1) (r_ (a_ (by decide) hm)) s3.has (many:=3) (by decide) (by decide);apply _k;refine⟨1+w,U,?_,x_,by lia,by simp[he],by simp[he],sw.keep q _ q3 p3,sw,q6⟩;simp[q4,he,ew]
  .refine⟨1+v,M3,?_,x_,by lia,λx hx=>?_,λx hx=>?_,p3,St.of s3.has (Ay.refl _),rfl⟩
   .simp[q4,he]
   .have:=q1 (max x.a x.b) (ig _ (bh.mpr ⟨x,hx,rfl⟩));lia
   .have:=q1 (max x.a x.b) (ig _ (bh.mpr ⟨x,hx,rfl⟩));lia
 have p5:(U++[.dT []])[q]?=some (.lst (Z.map F.toD)):=uf p4;have q0:=rm p4;obtain⟨z1,M6,R,e6,r2,r3,r4,r8,p6,t6,u6⟩:=azv (W:=PW (m-1)) (M:=U++[.dT []]) (q:=q) (r:=U.length) (a0:=some (.ref t)) (a1:=some d') (a3:=some (.int K)) (a5:=none) (a6:=none) (a7:=none) hz i3 l3 p5 (by simp) (h_ q0);apply _k;have zv:M6[q]?=some (.lst (Z.map F.toD)):=by rw[u6.oth q (h_ q0)];exact p5
 have q8:=ajw (W:=PW (m-1)) (M:=M6) r2 r8 (by exact a_ l3 (by decide):Z.length<=100000) zv;have q2:=zk.trans s4;refine⟨K,U.length,sz,Z,R,M6,?_,p6,q2.len,⟨hz,i3,c3,l3,k1,zz,ka,kb,t6⟩,?_⟩
 .simp only[Fn.run,Mv,Mt]
  simp[-a69,e1,e2,e3,qk,qq,ev,hK,MW.new,e6,r3,r4,q8,Qa,Gf]
 .refine q2.trans ⟨?_,?_,λa o na h=>?_⟩
  .rw[u6.len];simp
  .obtain⟨n,h,o⟩:=s4.has
   exact⟨n,by rw[u6.oth t (by have:=rm h;exact h_ this)];exact uf h,o⟩
  .rw[u6.oth a (by have:=rm h;exact h_ this)];exact uf h
noncomputable def pD(p:Nat×Nat):D:=.tup [.int p.1,.int p.2]
noncomputable def Meet(Z:List F)(j k:Nat):Prop:=∃f g,Z[j]?=some f/\Z[k]?=some g/\f.b=g.a
structure Ps(hs:List F)(j k:Nat)(ps:List (Nat×Nat)):Prop where
 all:∀p:Nat×Nat,p∈ps↔Meet hs p.1 p.2/\Ys j k p.1 p.2
 len:ps.length<=j*hs.length+k
def Ps.skip(h:Ps Z j k ps)(R:Z[j]?=some f)(U:Z[k]?=some g)(n:f.b≠g.a):Ps Z j (k+1) ps:=by
 refine⟨λp=>?_,by have:=h.len;exact a_ this (w_ x_)⟩;rw[h.all p];constructor
 .exact λq=>⟨q.1,by have:=q.2;unfold Ys at *;lia⟩
 .intro q
  refine⟨q.1,?_⟩;have hb:=q.2
  by_cases e:p.1=j/\p.2=k
  .refine hG λ_ _k=>?_
   obtain⟨f',g',a,b,c⟩:=q.1;rw[e.1,R] at a;rw[e.2,U] at b;cases a;cases b;apply _k;exact absurd c n
  .unfold Ys at *;lia
def Ps.put(h:Ps Z j k ps)(R:Z[j]?=some f)(U:Z[k]?=some g)(n:f.b=g.a):Ps Z j (k+1) (ps++[(j,k)]):=by
 refine⟨λp=>?_,by have:=h.len;simp;lia⟩;rw[bx,h.all p,fu];constructor
 .rintro(q|q)
  .exact⟨q.1,by have:=q.2;unfold Ys at *;lia⟩
  .subst q;exact⟨⟨f,g,R,U,n⟩,by unfold Ys;lia⟩
 .intro q
  by_cases e:p.1=j/\p.2=k
  .right;exact Prod.ext e.1 e.2
  .left;exact⟨q.1,by have:=q.2;unfold Ys at *;lia⟩
def Ps.next(h:Ps Z j Z.length ps):Ps Z (j+1) 0 ps:=by
 refine⟨λp=>?_,by have:=h.len;have e:(j+1)*Z.length=j*Z.length+Z.length:=Nat.succ_mul _ _;exact a_ this (a_ (g_ e) x_)⟩;rw[h.all p];constructor
 .exact λq=>⟨q.1,by have:=q.2;unfold Ys at *;lia⟩
 .intro q
  refine⟨q.1,?_⟩;refine hG λ_ _k=>?_
  obtain⟨f,g,a,b,c⟩:=q.1;have:=(ak.mp b).1;have:=q.2;apply _k;unfold Ys at *;lia
def ach(f:F)(M:cg):Aa (eD f) (.int 0) M=some (.int f.a):=rfl
def aci(f:F)(M:cg):Aa (eD f) (.int 1) M=some (.int f.b):=rfl
def Qz{i:Nat}(h:Z[i]?=some f):Aa (Gf Z) (.int i) M=some (eD f):=J8 q_ (by simp[h])
def Qc:vz .len [Gf Z] M=.ok (.int Z.length) M:=by simp[vz,Bh,Gf]
def Nt(x y:D)(i j:Nat)(Z:Env):(Tg.names [i,j]).put (.tup [x,y]) Z=some ((Z.set i (some x)).set j (some y)):=rfl
def acj(hl:U.length<=5)(R:M[q]?=some (.lst (ps.map pD)))(hj:U[j]?=some f)(hk:U[k]?=some g)(hp:Ps U j k ps) :
 ∃(M':cg)(Z:List (Nat×Nat)),Bj.den W [a0,D.ref q,D.int j,eD f,D.int k,eD g] M=.ok (.next,[a0,some (.ref q),some (.int j),some (eD f),some (.int k),some (eD g)]) M' /\
  M'[q]?=some (.lst (Z.map pD))/\Ps U j (k+1) Z/\Up q M M':=by
 have qq:=(ak.mp hj).1;have qk:=(ak.mp hk).1
 by_cases h:f.b=g.a
 .have Hy:(ps.map pD).length<100000:=by
   have:=hp.len;have:j*U.length<=5*5:=Nat.mul_le_mul (e_ (b_ qq hl)) hl
   rw[du];lia
  have ap:=Bu (d:=.tup [.int j,.int k]) R Hy;refine⟨M.set q (.lst ((ps++[(j,k)]).map pD)),ps++[(j,k)],?_,p7 R,hp.put hj hk h,Up.set _ _ _⟩;simp[-eq_int,Bj,ach,aci,Bk,h,Cu R,ap,pD]
 .refine⟨M,ps,?_,R,hp.skip hj hk h,Up.refl q M⟩
  simp[-eq_int,Bj,ach,aci,Bk,h]
def ack(hm:1<=m)(hl:hs.length<=5) :
 ∃(M':cg)(Z:List (Nat×Nat)),prog.call m 7 [Gf hs] M=.ok (.ref M.length) M'/\M'[M.length]?=some (.lst (Z.map pD))/\Ps hs hs.length 0 Z/\Up M.length (M++[.lst []]) M':=by
 rw[call_of hm rfl];refine hG λ_ _k=>?_
 obtain⟨qv,M',e,b2,b3,R,U,Z,rfl,h1,h2,h3⟩:=T3 (W:=PW (m-1)) (t:=.names [2,3]) (b:=Dz) (it:=.v 0) (ds:=hs.map eD) (ρ:=[Gf hs,D.ref M.length,none,none,none,none]) (M:=M++[.lst []]) (M1:=M++[.lst []]) (by simp[Gf])
  (λj ρ M'=>∃(b2 b3 R U:Option D)(Z:List (Nat×Nat)),ρ=[some (Gf hs),some (.ref M.length),b2,b3,R,U]/\M'[M.length]?=some (.lst (Z.map pD))/\Ps hs j 0 Z/\Up M.length (M++[.lst []]) M')
  ⟨none,none,none,none,[],rfl,by simp,⟨λp=>by simp[Ys],by simp⟩,Up.refl _ _⟩
  (λj x ρ M1 hj hI=>by
   refine hG λ_ _k=>?_
   obtain⟨b2,b3,R,U,Z,rfl,g1,g2,g3⟩:=hI;obtain⟨f,hf,rfl⟩:∃f,hs[j]?=some f/\eD f=x:=by simpa using hj
   obtain⟨q0,M2,e2,c4,c5,qk,rfl,k1,k2,k3⟩:=T3 (W:=PW (m-1)) (t:=.names [4,5]) (b:=Bj) (it:=.v 0) (ds:=hs.map eD) (ρ:=[Gf hs,D.ref M.length,D.int j,eD f,R,U]) (M:=M1) (M1:=M1) (by simp[Gf])
    (λk ρ M'=>∃(R U:Option D)(Z:List (Nat×Nat)),ρ=[some (Gf hs),some (.ref M.length),some (.int j),some (eD f),R,U]/\M'[M.length]?=some (.lst (Z.map pD))/\Ps hs j k Z/\Up M.length M1 M')
    ⟨R,U,Z,rfl,g1,g2,Up.refl _ _⟩
    (λk y ρ M2 hk hI=>by
     refine hG λ_ _k=>?_
     obtain⟨R,U,Z,rfl,k1,k2,k3⟩:=hI;obtain⟨g,hg,rfl⟩:∃g,hs[k]?=some g/\eD g=y:=by simpa using hk
     obtain⟨M3,qq,e3,p3,t3,u3⟩:=acj (W:=PW (m-1)) (M:=M2) (a0:=some (Gf hs)) hl k1 hf hg k2;apply _k;exact⟨_,.next,_,M3,Nt _ _ _ _ _,e3,.inl rfl,some (.int k),some (eD g),qq,rfl,p3,t3,k3.trans u3⟩)
   rw[du] at k2;apply _k;exact⟨_,.next,_,M2,Nt _ _ _ _ _,by simp[Dz,Ik,e2],.inl rfl,some (.int j),some (eD f),c4,c5,qk,rfl,k1,k2.next,g3.trans k3⟩)
 rw[du] at h2;apply _k;refine⟨M',Z,?_,h1,h2,h3⟩;simp[Fn.run,K6,K5,MW.new,Il,e]
noncomputable def bothW(U:List F)(Z:List (List Kx×D))(x y:Int):Option D:=if x=-1 then some (.int y) else if y=-1 then some (.int x) else wg Z [.inl x,.inl y]
def ahm(hm:1<=m)(R:M[r]?=some (.dT kvs))(h:bothW hs kvs x y=some v):prog.call m 6 [.ref r,.int x,.int y] M=.ok v M:=by
 rw[call_of hm rfl];unfold bothW at h
 by_cases Z:x=-1
 .rw[cj Z] at h;cases h
  simp[Fn.run,Ij,Ii,Z]
 .rw[bw Z] at h
  by_cases U:y=-1
  .rw[cj U] at h;cases h
   simp[Fn.run,Ij,Ii,Z,U]
  .rw[bw U] at h
   simp[Fn.run,Ij,Ii,Z,U,V1 R (Yn x y),h]
noncomputable def ajy(Z:List F)(c:F):Int:=if c∈Z then(pos c Z:Int) else -1
def Qd(Z:List F)(f g:F):ent Z f g=ajy Z (f.comp g):=rfl
def ahn(Z:hs.Nodup){i:Nat}(h:hs[i]?=some f):ajy hs f=i:=by have m:f∈hs:=au h;rw[ajy,cj m,afg Z h]
def Sv:∀k:List Kx,J6 (Vw k)=some k:=by
 intro k;show Zr (k.map ajj)=some k
 induction k with
 |nil=>rfl|cons a l Z=>cases a<;>simp[Zr,ajj,Uu,Z]
theorem acn:∀Z:List (List Kx×D),Dt (Z.map λp=>Vw p.1)=some (Z.map (·.1))
 |[]=>rfl|p::l=>by simp[Dt,Sv,acn l]
theorem aco:∀Z:List (Nat×Nat),Dt (Z.map pD)=some (Z.map λp=>ky p.1 p.2)
 |[]=>rfl|p::l=>by simp[Dt,pD,aco l,ky]
def anw{Z:List (List Kx×D)}(h:wg Z q=some v):∃p∈Z,p.1=q:=by
 unfold wg at h;cases e:Z.find? (λp=>decide (p.1=q)) with
 |none=>rw[e] at h;cases h|some p=>exact⟨p,List.mem_of_find?_eq_some e,by simpa using List.find?_some e⟩
section
variable{sz:Nat->Nat}{K:Nat}{hs:List F}{kvs:List (List Kx×D)}(P:Lr sz K hs kvs)
include P
theorem Lr.look(Z:hs[j]?=some f)(U:hs[k]?=some g)(h:f.b=g.a):wg kvs (ky j k)=some (.int (ent hs f g)) :=
 P.tb.look j k f g Z U h (.inl (ak.mp Z).1)
theorem Lr.no(h:¬Meet hs j k):wg kvs (ky j k)=none:=by apply ajv;intro p Z e;obtain⟨R,U,f,g,rfl,a,b,c,_⟩:=P.tb.keys p Z;obtain⟨rfl,rfl⟩:=afk e;exact h ⟨f,g,a,b,c⟩
theorem Lr.kl:kvs.length<=25:=by
 have:=P.tb.len;have:hs.length*hs.length<=5*5:=Nat.mul_le_mul P.len P.len
 lia
theorem Lr.plain:Dy (kvs.map (·.1))=true:=by have:=P.kl;simp only[Dy,du,aq,di];refine⟨a_ this (by decide),?_⟩;rw[jb];intro k Z;obtain⟨p,U,rfl⟩:=bh.mp Z;obtain⟨j,k,f,g,rfl,_⟩:=P.tb.keys p U;simp[ky]
theorem Lr.sm:Xw kvs=true:=by
 unfold Xw;rw[jb];intro p Z;obtain⟨j,k,f,g,rfl,a,b,_⟩:=P.tb.keys p Z;have:=(ak.mp a).1;have:=(ak.mp b).1;have:=P.len;simp[ky]
 lia
theorem Lr.same(h:Ps hs hs.length 0 ps):Ig (kvs.map (·.1)) (ps.map λp=>ky p.1 p.2)=true:=by
 unfold Ig;rw[aq,jb,jb];constructor
 .intro x U
  obtain⟨p,Z,rfl⟩:=bh.mp U;obtain⟨j,k,f,g,rfl,a,b,c,d⟩:=P.tb.keys p Z;rw[List.any_eq_true];exact⟨ky j k,bh.mpr ⟨(j,k),(h.all (j,k)).mpr ⟨⟨f,g,a,b,c⟩,d⟩,rfl⟩,by simp⟩
 .intro y R
  obtain⟨p,Z,rfl⟩:=bh.mp R;obtain⟨⟨f,g,a,b,c⟩,d⟩:=(h.all p).mp Z;obtain⟨q,hq,e⟩:=anw (P.look a b c);rw[List.any_eq_true];exact⟨q.1,bh.mpr ⟨q,hq,rfl⟩,by simp[e]⟩
theorem Lr.Hr(h:c∈hs\/c.P0):(ajy hs c=-1/\c.P0)\/∃i:Nat,hs[i]?=some c/\ajy hs c=i:=by
 by_cases m:c∈hs
 .exact .inr ⟨pos c hs,Z6 c m,cj m⟩
 .exact .inl ⟨bw m,h.resolve_left m⟩
theorem Lr.azy{j k l:Nat}(hj:hs[j]?=some f)(hk:hs[k]?=some g)(hl:hs[l]?=some h)(R:f.b=g.a)(e2:g.b=h.a) :
 ∃v:Int,bothW hs kvs (ent hs f g) l=some (.int v)/\bothW hs kvs j (ent hs g h)=some (.int v):=by
 have mf:=au hj;have mg:=au hk;have mh:=au hl;have of:=P.inv.good f mf;have og:=P.inv.good g mg;have oh:=P.inv.good h mh;have as:=afh (h:=h) of og R;rw[Qd,Qd];have nj:¬((j:Int)=-1):=by lia
 have nl:¬((l:Int)=-1):=by lia
 rcases P.Hr (P.cl f mf g mg R) with⟨x1,i1⟩|⟨u,hu,x1⟩
 .have c1:=Z7 (of.comp og R) i1
  have ha:f.a=g.b:=i1.1;have U:(f.comp g).comp h=h:=by rw[c1];show(idF sz f.a).comp h=h;rw[ha,e2];exact id_comp oh
  rcases P.Hr (P.cl g mg h mh e2) with⟨x2,i2⟩|⟨w,hw,x2⟩
  .have c2:=Z7 (og.comp oh e2) i2
   have Z:f.comp (g.comp h)=f:=by rw[c2];show f.comp (idF sz g.a)=f;rw[<- R];exact comp_id of
   have fh:f=h:=by rw[<- Z,<- as,U]
   have jl:j=l:=by rw[<- afg P.inv.nd hj,<- afg P.inv.nd hl,fh]
   refine⟨l,by simp[bothW,x1],?_⟩;rw[x2,bothW,bw nj,cj rfl,jl]
  .have nw:¬((w:Int)=-1):=by lia
   refine⟨l,by simp[bothW,x1],?_⟩;rw[x2,bothW,bw nj,bw nw];have:=P.look hj hw (show f.b=(g.comp h).a from R);rw[Qd,<- as,U,ahn P.inv.nd hl] at this;exact this
 .have nu:¬((u:Int)=-1):=by lia
  have lu:=P.look hu hl (show(f.comp g).b=h.a from e2);rcases P.Hr (P.cl g mg h mh e2) with⟨x2,i2⟩|⟨w,hw,x2⟩
  .have c2:=Z7 (og.comp oh e2) i2
   have Z:f.comp (g.comp h)=f:=by rw[c2];show f.comp (idF sz g.a)=f;rw[<- R];exact comp_id of
   refine⟨j,?_,?_⟩
   .rw[x1,bothW,bw nu,bw nl]
    rw[Qd,as,Z,ahn P.inv.nd hj] at lu;exact lu
   .rw[x2,bothW,bw nj,cj rfl]
  .have nw:¬((w:Int)=-1):=by lia
   refine⟨ajy hs ((f.comp g).comp h),?_,?_⟩
   .rw[x1,bothW,bw nu,bw nl];exact lu
   .rw[x2,bothW,bw nj,bw nw]
    have:=P.look hj hw (show f.b=(g.comp h).a from R);rw[Qd,<- as] at this;exact this
end
def at6(hm:1<=m)(P:Lr sz K Z kvs):prog.call m 9 [.int K,Gf Z] M=.ok .non M:=by
 rw[call_of hm rfl];obtain⟨qk,M',e,⟨b2,rfl⟩,rfl⟩:=ab5 (W:=PW (m-1)) (t:=.name 2) (b:=Eu) (it:=.v 1) (ds:=Z.map eD) (ρ:=[D.int K,Gf Z,none]) (M:=M) (M1:=M) (by simp[Gf])
  (λj R M'=>(∃b2:Option D,R=[some (.int K),some (Gf Z),b2])/\M'=M) ⟨⟨none,rfl⟩,rfl⟩
  (λj x R M1 hj hI=>by
   obtain⟨⟨b2,rfl⟩,rfl⟩:=hI;obtain⟨f,hf,rfl⟩:∃f,Z[j]?=some f/\eD f=x:=by simpa using hj
   have mf:=au hf;have h1:=P.ace f mf;have h2:=P.afm f mf;refine⟨_,.next,_,M1,rfl,?_,.inl rfl,⟨some (eD f),rfl⟩,rfl⟩;have U:(f.a:Int)<K:=m_ h1
   have qq:(f.b:Int)<K:=m_ h2
   have z1:(0:Int)<=(f.a:Int):=q_
   have z2:(0:Int)<=(f.b:Int):=q_
   simp[Eu,ach,aci,h1,h2,U,qq,z1,z2])
 have k1:(1:Int)<=K:=by have:=P.k1;exact n_ this
 have k3:(K:Int)<=3:=by have:=P.k3;exact n_ this
 have l5:¬(5:Int)<(Z.length:Int):=by have:=P.len;lia
 simp[Fn.run,Mm,Ml,k1,k3,Qc,l5,Jr,e]
def azz{j k:Nat}(hm:1<=m)(P:Lr sz K U kvs)(hj:U[j]?=some f)(hk:U[k]?=some g)(h:f.b=g.a):prog.call m 8 [Gf U,.int (ent U f g),.int f.a,.int g.b] M=.ok (.bl true) M:=by
 rw[call_of hm rfl,Qd];have mf:=au hj;have mg:=au hk;rcases P.Hr (P.cl f mf g mg h) with⟨x1,i1⟩|⟨u,hu,x1⟩
 .have ha:f.a=g.b:=i1.1
  simp[Fn.run,Et,Es,x1,ha]
 .have Z:=(ak.mp hu).1
  have nu:¬((u:Int)=-1):=by lia
  have z:(0:Int)<=(u:Int):=q_
  have R:(u:Int)<(U.length:Int):=m_ Z
  have e:yq M (eD (f.comp g)) (.tup [.int f.a,.int g.b])=some true:=by show Ot (Jf M 5) [.int f.a,.int g.b] [.int f.a,.int g.b]=some true;rw[By (Kl M 4 _ _) (By (Kl M 4 _ _) (show Ot (Jf M 5) [] []=some true from rfl))];simp
  simp[Fn.run,Et,Es,x1,nu,z,Z,R,Qc,Qz hu,e]
def at7(hm:2<=m)(P:Lr sz K Z kvs)(hr:M[r]?=some (.dT kvs)):∃U,prog.call m 10 [Gf Z,.ref r] M=.ok .non U/\Ay M U/\U.length=M.length+1:=by
 rw[call_of (a_ (by decide) hm) rfl];obtain⟨M1,ps,e1,p1,t1,u1⟩:=ack (M:=M) (m:=m-1) (hs:=Z) (r_ hm) P.len;have k1:Ay M M1:=λa o h=>by rw[u1.oth a (by have:=rm h;exact h_ this)];exact uf h
 have r1:=k1 r _ hr;have qq:(keysOf M1 (.ref r)).bind Dt=some (kvs.map (·.1)):=by simp only[keysOf,r1,qe,acn]
 have qk:(keysOf M1 (.ref M.length)).bind Dt=some (ps.map λp=>ky p.1 p.2):=by simp only[keysOf,p1,dm,qe,aco]
 have Hy:Dy (ps.map λp=>ky p.1 p.2)=true:=by
  have:=t1.len;have:Z.length*Z.length<=5*5:=Nat.mul_le_mul P.len P.len
  simp only[Dy,du,aq,di];refine⟨by lia,?_⟩;rw[jb];intro k hk;obtain⟨p,hp,rfl⟩:=bh.mp hk;simp[ky]
 have qv:(Ex.Vv (.v 1) (.v 2)).den (PW (m-1)) [some (Gf Z),some (.ref r),some (.ref M.length),none,none] M1=.ok (.bl false) M1:=by rw[Yj];simp only[Zu,List.getElem?_cons_succ,List.getElem?_cons_zero,Res.Am,qq,P.plain,qk,Hy,P.same t1,j5,qw]
 obtain⟨q0,U,e,⟨b3,b4,rfl⟩,rfl⟩:=J9 (W:=PW (m-1)) (t:=.names [3,4]) (b:=Gi) (it:=.v 2) (d:=.ref M.length) (ds:=ps.map pD) (ρ:=[Gf Z,D.ref r,D.ref M.length,none,none]) (M:=M1) (M1:=M1) (by simp) (qj p1)
  (λj R U=>(∃b3 b4:Option D,R=[some (Gf Z),some (.ref r),some (.ref M.length),b3,b4])/\U=M1) ⟨⟨none,none,rfl⟩,rfl⟩ (λi R M h=>by rw[h.2];exact qj p1)
  (λi x R M2 hx hI=>by
   obtain⟨⟨b3,b4,rfl⟩,rfl⟩:=hI;obtain⟨p,hp,rfl⟩:∃p,ps[i]?=some p/\pD p=x:=by simpa using hx
   obtain⟨⟨f,g,a,b,c⟩,d⟩:=(t1.all p).mp (au hp);refine⟨_,.next,_,M2,Nt _ _ _ _ _,?_,.inl rfl,⟨some (.int p.1),some (.int p.2),rfl⟩,rfl⟩;have lk:=V1 r1 (Yn p.1 p.2);rw[show([.inl (p.1:Int),.inl (p.2:Int)]:List Kx)=ky p.1 p.2 from rfl,P.look a b c] at lk;simp[Gi,lk,Qz a,Qz b,ach,aci,azz (show 1<=m-1 by exact r_ hm) P a b c])
 refine⟨U,?_,k1,by rw[u1.len];simp⟩;simp[Fn.run,Ox,Ow,e1,qv,K7,e]
def at8(hm:2<=m)(P:Lr sz K Z kvs)(hr:M[r]?=some (.dT kvs)):∃M',prog.call m 11 [Gf Z,.ref r] M=.ok .non M'/\Ay M M'/\M'.length=M.length+1:=by
 rw[call_of (a_ (by decide) hm) rfl];obtain⟨M1,ps,e1,p1,t1,u1⟩:=ack (M:=M) (m:=m-1) (hs:=Z) (r_ hm) P.len;have k1:Ay M M1:=λa o h=>by rw[u1.oth a (by have:=rm h;exact h_ this)];exact uf h
 have r1:=k1 r _ hr;have hl:=P.len;obtain⟨q0,M',e,⟨b3,b4,b5,b6,U,rfl⟩,rfl⟩:=J9 (W:=PW (m-1)) (t:=.names [3,4]) (b:=Ew) (it:=.v 2) (d:=.ref M.length) (ds:=ps.map pD) (ρ:=[Gf Z,D.ref r,D.ref M.length,none,none,none,none,none]) (M:=M1) (M1:=M1) (by simp) (qj p1)
  (λj ρ M'=>(∃b3 b4 b5 b6 U:Option D,ρ=[some (Gf Z),some (.ref r),some (.ref M.length),b3,b4,b5,b6,U])/\M'=M1) ⟨⟨none,none,none,none,none,rfl⟩,rfl⟩ (λi ρ M h=>by rw[h.2];exact qj p1)
  (λi x ρ M2 hx hI=>by
   obtain⟨⟨b3,b4,b5,b6,U,rfl⟩,rfl⟩:=hI;obtain⟨p,hp,rfl⟩:∃p,ps[i]?=some p/\pD p=x:=by simpa using hx
   obtain⟨⟨f,g,a,b,c⟩,d⟩:=(t1.all p).mp (au hp);obtain⟨q1,M3,e3,⟨c5,c6,c7,rfl⟩,rfl⟩:=yo (W:=PW (m-1)) (t:=.name 5) (b:=Dc) (it:=.blt .len (.o (.v 0))) (n:=Z.length) (ρ:=[Gf Z,D.ref r,D.ref M.length,D.int p.1,D.int p.2,b5,b6,U]) (M:=M2) (M1:=M2) (by simp[Qc]) (a_ hl (by decide))
    (λj ρ M'=>(∃b5 b6 U:Option D,ρ=[some (Gf Z),some (.ref r),some (.ref M.length),some (.int p.1),some (.int p.2),b5,b6,U])/\M'=M2) ⟨⟨b5,b6,U,rfl⟩,rfl⟩
    (λl ρ M4 qv hI=>by
     obtain⟨⟨b5,b6,U,rfl⟩,rfl⟩:=hI;have R:Z[l]?=some Z[l]:=by simp[qv]
     have Vn:=am8 r1 (Yn p.2 l);rw[show([.inl (p.2:Int),.inl (l:Int)]:List Kx)=ky p.2 l from rfl] at Vn
     by_cases q:g.b=Z[l].a
     .rw[P.look b R q] at Vn
      obtain⟨v,v1,v2⟩:=P.azy a b R c q;have qq:=V1 r1 (Yn p.1 p.2);rw[show([.inl (p.1:Int),.inl (p.2:Int)]:List Kx)=ky p.1 p.2 from rfl,P.look a b c] at qq;have qk:=V1 r1 (Yn p.2 l);rw[show([.inl (p.2:Int),.inl (l:Int)]:List Kx)=ky p.2 l from rfl,P.look b R q] at qk;refine⟨_,.next,_,M4,rfl,?_,.inl rfl,⟨some (.int l),some (.int v),some (.int v),rfl⟩,rfl⟩;simp[Dc,Vn,qq,qk,ahm (show 1<=m-1 by exact r_ hm) r1 v1,ahm (show 1<=m-1 by exact r_ hm) r1 v2]
     .rw[P.no (λ⟨g',h',x,y,z⟩=>by rw[b] at x;rw[R] at y;cases x;cases y;exact q z)] at Vn
      refine⟨_,.cont,_,M4,rfl,?_,.inr rfl,⟨some (.int l),b6,U,rfl⟩,rfl⟩;simp[Dc,Vn])
   refine⟨_,.next,_,M3,Nt _ _ _ _ _,?_,.inl rfl,⟨some (.int p.1),some (.int p.2),c5,c6,c7,rfl⟩,rfl⟩;simp[Ew,Js,e3])
 refine⟨M',?_,k1,by rw[u1.len];simp⟩;simp[Fn.run,Mq,Mp,e1,Jt,e]
noncomputable def Made(n r K:Nat)(U:List F)(Z:List (List Kx×D))(M:cg):Prop:=M[n]?=some (.ins 2 [(2,.int K),(1,Gf U),(0,.ref r)])/\M[r]?=some (.dT Z)
def at9(hm:3<=m)(P:Lr sz K U kvs)(R:M[r]?=some (.dT kvs))(hn:M[n]?=some (.ins 2 [])) :
 ∃M' r',prog.call m 0 [.ref n,.int K,Gf U,.ref r] M=.ok .non M'/\Made n r' K U kvs M'/\M.length<=r'/\r'<M'.length/\(∀(a:Nat)(o:MO),a≠n->M[a]?=some o->M'[a]?=some o):=by
 rw[call_of (a_ (by decide) hm) rfl];have d1:=at6 (M:=M) (m:=m-1) (r_ (a_ (by decide) hm)) P;obtain⟨M1,e1,k1,l1⟩:=at7 (M:=M) (m:=m-1) (r_ hm) P R;obtain⟨Z,e2,k2,l2⟩:=at8 (M:=M1) (m:=m-1) (r_ hm) P (k1 r _ R);have k:=k1.trans k2;have n2:=k n _ hn;have r2:=k r _ R;have qk:r≠n:=λe=>by rw[e,hn] at R;cases R
 have s1:Qn (.ref n) 2 (.int K) Z=some (Z.set n (.ins 2 [(2,.int K)])):=by simp[Qn,n2,Tz]
 have n3:=p7 (o:=.ins 2 [(2,.int K)]) n2;have s2:Qn (.ref n) 1 (Gf U) (Z.set n (.ins 2 [(2,.int K)]))=some (Z.set n (.ins 2 [(2,.int K),(1,Gf U)])):=by simp[Qn,n3,Tz]
 have n4:=p7 (o:=.ins 2 [(2,.int K),(1,Gf U)]) n2;have r4:(Z.set n (.ins 2 [(2,.int K),(1,Gf U)]))[r]?=some (.dT kvs):=by rw[jm (ji qk)];exact r2
 have dc:vz .dict [.ref r] (Z.set n (.ins 2 [(2,.int K),(1,Gf U)]))=.ok (.ref Z.length) (Z.set n (.ins 2 [(2,.int K),(1,Gf U)])++[.dT kvs]):=by simp[vz,r4,P.sm,MW.new]
 have n5:(Z.set n (.ins 2 [(2,.int K),(1,Gf U)])++[.dT kvs])[n]?=some (.ins 2 [(2,.int K),(1,Gf U)]):=uf n4;have s3:Qn (.ref n) 0 (.ref Z.length) (Z.set n (.ins 2 [(2,.int K),(1,Gf U)])++[.dT kvs])=some ((List.set Z n (MO.ins 2 [(2,.int K),(1,Gf U)])++[MO.dT kvs]).set n (MO.ins 2 [(2,.int K),(1,Gf U),(0,.ref Z.length)])):=by simp[Qn,n5,Tz]
 have qq:=rm n2;refine⟨_,Z.length,?_,⟨p7 (o:=.ins 2 [(2,.int K),(1,Gf U),(0,.ref Z.length)]) n5,?_⟩,by lia,by simp,λa o na h=>?_⟩
 .simp[Fn.run,Jo,Jm,d1,e1,e2,s1,s2,dc,s3]
 .rw[jm (h_ qq)]
  rw[jq (by simp)];simp
 .rw[jm (ji na)]
  exact uf (by rw[jm (ji na)];exact k a o h)
end K14
namespace L2
open PySem PySem.Spec PyProof.Rows
abbrev Key:=Sum Int Str
noncomputable def We:Key->Value->Bool
 |.inl k,v=>Value.isInt k v|.inr x,v=>Value.isStrOf x v
noncomputable def bek(w:World):Key->Int
 |.inl k=>hashInt k|.inr x=>hashStr w x
theorem Aw:∀{k:Key}{v:Value},We k v=true->(∃i t,k=Sum.inl i/\v=Value.int i t)\/(∃x t,k=Sum.inr x/\v=Value.str x t)
 |.inl i,v,h=>by
  obtain⟨t,e⟩:=Value.isInt_shape (k:=i) (v:=v) h;exact .inl ⟨i,t,rfl,e⟩
 |.inr x,v,h=>by
  obtain⟨t,e⟩:=Value.isStrOf_shape (x:=x) (v:=v) h;exact .inr ⟨x,t,rfl,e⟩
def ajz(i:Int)(t:Tok):We (.inl i) (.int i t)=true:=by simp[We,Value.isInt]
def aj0(x:Str)(t:Tok):We (.inr x) (.str x t)=true:=by simp[We,Value.isStrOf]
def az0(a b:Int):decide ((Sum.inl a:Key)=Sum.inl b)=(a==b):=by
 by_cases e:a=b
 .subst e;simp
 .have h:¬(Sum.inl a:Key)=Sum.inl b:=λq=>e (Sum.inl.inj q)
  rw[j8 h];exact(qu.mpr e).symm
def az1(a b:Str):decide ((Sum.inr a:Key)=Sum.inr b)=decide (a=b):=by
 by_cases e:a=b
 .subst e;simp
 .have h:¬(Sum.inr a:Key)=Sum.inr b:=λq=>e (Sum.inr.inj q)
  rw[j8 h,j8 e]
def az2(a:Int)(b:Str):decide ((Sum.inl a:Key)=Sum.inr b)=false:=j8 (λq=>nomatch q)
def az3(a:Str)(b:Int):decide ((Sum.inr a:Key)=Sum.inl b)=false:=j8 (λq=>nomatch q)
noncomputable def jh(prog:Program)(w:World):PySem.KeyKind prog w Key where
 is:=We
 hash:=bek w
 inj:=λv a b ha U=>by
  rcases Aw ha with⟨i,t,rfl,rfl⟩|⟨x,t,rfl,rfl⟩
  .rcases Aw U with⟨j,u,rfl,e⟩|⟨y,u,rfl,e⟩
   .injection e with e1 _;rw[e1]
   .exact nomatch e
  .rcases Aw U with⟨j,u,rfl,e⟩|⟨y,u,rfl,e⟩
   .exact nomatch e
   .injection e with e1 _;rw[e1]
 byValue:=λk v h=>by rcases Aw h with⟨i,t,rfl,rfl⟩|⟨x,t,rfl,rfl⟩<;>rfl
 pyHash:=λZ h=>by
  rcases Aw Z with⟨i,t,rfl,rfl⟩|⟨x,t,rfl,rfl⟩
  .exact wpAny_pyHash_int h
  .exact wpAny_pyHash_str h
 eqBool:=λR Z h=>by
  rcases Aw R with⟨i,t,rfl,rfl⟩|⟨x,t,rfl,rfl⟩
  .rcases Aw Z with⟨j,u,rfl,rfl⟩|⟨y,u,rfl,rfl⟩
   .rw[az0] at h;exact wpAny_eqBool_int h
   .rw[az2] at h;exact SeqAt.EqAt.int_str i t y u _ _ _ _ h
  .rcases Aw Z with⟨j,u,rfl,rfl⟩|⟨y,u,rfl,rfl⟩
   .rw[az3] at h;exact SeqAt.EqAt.str_int x t j u _ _ _ _ h
   .rw[az1] at h;exact wpAny_eqBool_str h
 «strs»:=λk x t v h=>by
  rcases Aw h with⟨i,u,rfl,e⟩|⟨y,u,rfl,e⟩
  .exact nomatch e
  .injection e with e1 _
   subst e1;cases v<;>rfl
def acp(prog:Program)(w:World)(i:Int)(t:Tok):(jh prog w).is (.inl i) (.int i t)=true:=ajz i t
def acq(prog:Program)(w:World)(x:Str)(t:Tok):(jh prog w).is (.inr x) (.str x t)=true:=aj0 x t
end L2
namespace L2
open PySem PySem.Spec PyProof.Rows
set_option genInjectivity true in
inductive V where
 |non|bl (b:Bool)|int (i:Int)|str (x:Str)|byt (b:Array UInt8)|flt (b:UInt64)|ref (a:Addr)|ty (n:String)
 deriving DecidableEq
def RelV:V->Value->Prop
 |.non,u=>u=Value.none|.bl b,u=>u=Value.bool b|.int i,u=>∃t,u=Value.int i t|.str x,u=>∃t,u=Value.str x t|.byt b,u=>∃t,u=Value.bytes b t|.flt b,u=>∃t,u=Value.float b t|.ref a,u=>u=Value.ref a|.ty n,u=>u=Value.type n
abbrev Vals:List V->List Value->Prop:=Paired RelV
theorem Vals.length(r:Vals Z U):Z.length=U.length:=ue r
theorem Vals.get:∀{Z:List V}{U:Zl}{i:Nat}{x:V},Vals Z U->Z[i]?=some x->∃u,U[i]?=some u/\RelV x u
 |_,_,_,_,.nil,e=>by simp at e|_,_,0,_,.cons r _,e=>by simp at e;subst e;exact⟨_,rfl,r⟩
 |_,_,i+1,x,.cons _ t,e=>by
  obtain⟨u,R,h2⟩:=Vals.get (i:=i) (x:=x) t (by simpa using e);exact⟨u,by simpa using R,h2⟩
theorem Vals.set{x:V}{u:Value}(r:RelV x u):∀{Z:List V}{U:Zl}(i:Nat),Vals Z U->Vals (Z.set i x) (U.set i u)
 |_,_,_,.nil=>.nil|_,_,0,.cons _ t=>.cons r t|_,_,i+1,.cons q t=>.cons q (Vals.set r i t)
theorem Vals.append:∀{U R:List V}{us Z:Zl},Vals U us->Vals R Z->Vals (U++R) (us++Z):=by intro _ _ _ _ h r;induction h with|nil=>exact r|cons q t ih=>exact .cons q ih
theorem Vals.take:∀{Z:List V}{U:Zl}(n:Nat),Vals Z U->Vals (Z.take n) (U.take n)
 |_,_,0,_=>.nil|_,_,_+1,.nil=>.nil|_,_,n+1,.cons r t=>.cons r (Vals.take n t)
theorem Vals.drop:∀{Z:List V}{U:Zl}(n:Nat),Vals Z U->Vals (Z.drop n) (U.drop n)
 |_,_,0,r=>r|_,_,_+1,.nil=>.nil|_,_,n+1,.cons _ t=>Vals.drop n t
def Lp:Option V->Option Value->Prop
 |some v,some u=>RelV v u|none,none=>True|_,_=>False
def KV{Z:Type}:List (Z×V)->List (Z×Value)->Prop:=Paired λ(p:Z×V) (q:Z×Value)=>p.1=q.1/\RelV p.2 q.2
noncomputable def kV:Key->V
 |.inl i=>.int i|.inr x=>.str x
inductive HO where
 |lst (xs:List V)
 |tup (xs:List V)
 |dK (kvs:List (Key×V))|dT (kvs:List (List Key×V))
 |set (S:Int->Bool) (n:Nat)
 |ins (C dx:Addr) (fs:List (Str×V))
 |own (x:Addr)
 |xd (fs:List (Str×V))
 |met (f x:Addr)
 |K4 (lo hi:Int)
 |Hz (o:Obj) (u:HO)
 |tbl (ps:U1)
 |ext (φ:Heap->Prop)
abbrev Hp:=Addr->Option HO
noncomputable def upd(H:Hp)(a:Addr)(o:HO):Hp:=λb=>if b=a then some o else H b
def rz:upd H a o a=some o:=by unfold upd;rw[cj rfl]
def j9(h:b≠a):upd H a o b=H b:=by unfold upd;rw[bw h]
def aua:upd (upd H a o) a u=upd H a u:=by funext b;unfold upd;split<;>rfl
def Yt{H:Hp}(h:H a=some o)(Z:H b=some u)(d:o≠u):a≠b:=by intro e;subst e;rw[h] at Z;exact d (ju Z)
def kh{H:Hp}(h:H a=some o)(Z:H b=none):a≠b:=by intro e;subst e;rw[h] at Z;cases Z
section
variable(P:Program)(w:World)
def Xz(h:Heap)(a:Addr)(Z:U1):Prop:=∃o,h.get? a=some o/\o.cls=.type "tuple"/\∃n,o.data=.seq Z n/\o.dict=none
def Xz.is(x:Xz h a items):IsTup h a items:=let ⟨o,h1,h2,n,h3,_⟩:=x;⟨o,h1,h2,n,h3⟩
def Xz.new(h:Heap)(items:U1):Xz (h.push { cls:=.type "tuple",data:=.seq items }) h.objs.size items:=⟨_,bu _ rfl,rfl,_,rfl,rfl⟩
def Ah(H:Hp)(h:Heap)(a:Addr):HO->Prop
 |.lst Z=>Z.length<=sizeLine/\∃(R:Zl)(n:Nat),Vals Z R/\h.get? a=some { cls:=.type "list",data:=.seq R.toArray n }|.tup Z=>Z.length<=sizeLine/\∃R:List Value,Vals Z R/\Xz h a R.toArray|.dK kvs=>kvs.length<=sizeLine/\(a==sysModules)=false/\∃vs,KV kvs vs/\h.DictOf (jh P w) a vs
 |.dT kvs=>kvs.length<=sizeLine/\(a==sysModules)=false/\∃Z:List (List Key×Addr×Value),
  Paired (λ(p:List Key×V) (q:List Key×Addr×Value)=>p.1=q.1/\H q.2.1=some (.tup (p.1.map kV))/\RelV p.2 q.2.2) kvs Z /\
  ∃o es ep,h.get? a=some o/\o.ExactDict/\o.data=.dict es ep/\es.toList=Z.map (entryOfKey (tupleKind (jh P w)))/\(Z.map (·.1)).Nodup
 |.set S n=>h.SetOf (intKind P w) a S n
 |.ins C dx fs=>H dx=some (.own a)/\fs.length<=1000/\dx≠a/\h.get? a=some (PySem.W.instObj C dx) /\
  ∃U,h.Ns1 dx U/\(∀f,Lp (fs.lookup f) (U f))/\PySem.Within U (fs.map (·.1))
 |.own _=>∃o,h.get? a=some o|.xd fs=>∃U,h.Ns1 a U/\∀f,Lp (fs.lookup f) (U f)|.K4 lo hi=>∃t u v,h.get? a=some { cls:=.type "range",data:=.fields #[.int lo t,.int hi u,.int 1 v] }|.Hz o u=>h.get? a=some o/\Ah H h a u|.tbl ps=>h.get? a=some { cls:=.none,data:=.fields ps }|.met f x=>h.get? a=some (PySem.W.methodObj (.ref f) (.ref x))|.ext φ=>φ h/\(∃o,h.get? a=some o)/\∀h1 h2:Heap,φ h1->(∀o,h1.get? a=some o->h2.get? a=some o)->φ h2
def Pa(H:Hp)(h:Heap):Prop:=∀a o,H a=some o->Ah P w H h a o
end
theorem Ah.lt(x:Ah P w H h a o):a<h.objs.size:=by
 cases o with
 |lst U=>obtain⟨_,_,_,_,e⟩:=x;exact az e
 |tup U=>obtain⟨_,_,_,p⟩:=x;exact(Xz.is p).lt
 |dK Z=>obtain⟨_,_,_,_,o,_,_,e,_⟩:=x;exact az e
 |dT Z=>obtain⟨_,_,_,_,o,_,_,e,_⟩:=x;exact az e
 |set S n=>obtain⟨o,_,_,_,e,_⟩:=x;exact az e
 |ins C dx fs=>obtain⟨_,_,_,e,_⟩:=x;exact az e
 |own y=>obtain⟨_,e⟩:=x;exact az e
 |xd fs=>obtain⟨_,⟨_,_,_,e,_⟩,_⟩:=x;exact az e
 |K4 lo hi=>obtain⟨_,_,_,e⟩:=x;exact az e
 |Hz ob u=>obtain⟨e,_⟩:=x;exact az e
 |tbl R=>exact az (show h.get? a=some _ from x)
 |met f y=>exact az (show h.get? a=some _ from x)
 |ext φ=>obtain⟨_,⟨_,e⟩,_⟩:=x;exact az e
theorem Paired.az5{α R:Type}{F G:α->R->Prop}:∀{U:List α}{Z:List R},Paired F U Z->(∀a b,F a b->G a b)->Paired G U Z:=by intro _ _ h f;induction h with|nil=>exact .nil|cons r t ih=>exact .cons (f _ _ r) ih
def Ah.stay(x:Ah P w H h a o)(k:∀b u,(b=a\/H b=some (.own a))->h.get? b=some u->h'.get? b=some u)(ho:∀b,H b=some (.own a)->H' b=some (.own a))(ht:∀b xs,H b=some (.tup xs)->H' b=some (.tup xs)):Ah P w H' h' a o:=by
 induction o with
 |lst xs=>obtain⟨z,wj,n,r,e⟩:=x;exact⟨z,wj,n,r,k _ _ (.inl rfl) e⟩
 |tup xs=>obtain⟨z,wj,r,Z,e,c⟩:=x;exact⟨z,wj,r,Z,k _ _ (.inl rfl) e,c⟩
 |dK qq=>obtain⟨z,y,vs,r,Z,R,U,e,c⟩:=x;exact⟨z,y,vs,r,Z,R,U,k _ _ (.inl rfl) e,c⟩
 |dT qq =>
  obtain⟨z,y,xs,r,Z,R,U,e,c⟩:=x;exact⟨z,y,xs,Paired.az5 r λp q z=>⟨z.1,ht _ _ z.2.1,z.2.2⟩,Z,R,U,k _ _ (.inl rfl) e,c⟩
 |set S n=>obtain⟨Z,R,U,t,e,c⟩:=x;exact⟨Z,R,U,t,k _ _ (.inl rfl) e,c⟩
 |ins C dx fs =>
  obtain⟨d,z,ne,e,mA,⟨od,R,U,e2,c⟩,r⟩:=x;exact⟨ho _ d,z,ne,k _ _ (.inl rfl) e,mA,⟨od,R,U,k _ _ (.inr d) e2,c⟩,r⟩
 |own y=>obtain⟨Z,e⟩:=x;exact⟨Z,k _ _ (.inl rfl) e⟩
 |xd fs=>obtain⟨mA,⟨od,R,U,e,c⟩,r⟩:=x;exact⟨mA,⟨od,R,U,k _ _ (.inl rfl) e,c⟩,r⟩
 |K4 lo hi=>obtain⟨t,u,v,e⟩:=x;exact⟨t,u,v,k _ _ (.inl rfl) e⟩
 |Hz Z u ih=>obtain⟨e,q⟩:=x;exact⟨k _ _ (.inl rfl) e,ih q⟩
 |tbl ps =>
  have e:h.get? a=some { cls:=.none,data:=.fields ps }:=x;show h'.get? a=some { cls:=.none,data:=.fields ps };exact k a _ (.inl rfl) e
 |met f y =>
  have e:h.get? a=some (PySem.W.methodObj (.ref f) (.ref y)):=x;show h'.get? a=some (PySem.W.methodObj (.ref f) (.ref y));exact k a _ (.inl rfl) e
 |ext φ=>obtain⟨p,⟨o,e⟩,st⟩:=x;exact⟨st _ _ p λo q=>k _ _ (.inl rfl) q,⟨o,k _ _ (.inl rfl) e⟩,st⟩
theorem Pa.lt(x:Pa P w H h)(e:H a=some o):a<h.objs.size:=(x a o e).lt
def Pa.fresh(x:Pa P w H h)(e:h.objs.size<=a):H a=none:=by
 cases q:H a with
 |none=>rfl|some u=>exact absurd (ie (x.lt q) e) (lq _)
def Pa.kept(x:Pa P w H h)(k:∀b u,h.get? b=some u->h'.get? b=some u):Pa P w H h':=λa o e =>
 (x a o e).stay (λb u _ q=>k b u q) (λ_ q=>q) λ_ _ q=>q
def Pa.laid(x:Pa P w H h)(k:∀b u,h.get? b=some u->h'.get? b=some u)(R:h.objs.size<=a)(new:Ah P w (upd H a o) h' a o):Pa P w (upd H a o) h':=λb u e=>by
 have Z:=x.fresh R
 by_cases U:b=a
 .subst U;rw[rz] at e;cases e;exact new
 .rw[j9 U] at e
  exact(x b u e).stay (λc v _ q=>k c v q) (λc q=>by rw[j9 (kh q Z)];exact q) λc xs q=>by rw[j9 (kh q Z)];exact q
def Rd(H:Hp)(a:Addr)(u:HO):Prop:=H a=some u\/∃o,H a=some (.Hz o u)
def Rd.ok(r:Rd H a u)(x:Pa P w H h):Ah P w H h a u:=by
 rcases r with r|⟨o,r⟩
 .exact x a u r
 .obtain⟨_,q⟩:=x a _ r
  exact q
def Mut:Option HO->Prop
 |some (.lst _)=>True|some (.dK _)=>True|some (.dT _)=>True|some (.set _ _)=>True|some (.ins _ _ _)=>True|some (.ext _)=>True|_=>False
def Pa.write(ok:Pa P w H h)(mu:Mut (H x))(he:e=x\/H e=some (.own x))(k:∀b u,b≠e->h.get? b=some u->h'.get? b=some u)(qk:∃u,h'.get? e=some u)(new:Ah P w (upd H x o') h' x o'):Pa P w (upd H x o') h':=λb u q=>by
 have U:∀c y,H c=some (.own y)->c≠x:=λc y r z=>by subst z;rw[r] at mu;exact mu
 have qq:∀c xs,H c=some (.tup xs)->c≠x:=λc xs r z=>by subst z;rw[r] at mu;exact mu
 by_cases R:b=x
 .subst R;rw[rz] at q;cases q;exact new
 .rw[j9 R] at q
  by_cases Z:b=e
  .have q':H b=some (.own x):=by
    rcases he with z|z
    .exact absurd (Z.trans z) R
    .rw[Z];exact z
   rw[q] at q';cases q';obtain⟨v,hv⟩:=qk;exact⟨v,by rw[Z];exact hv⟩
  .refine(ok b u q).stay (λc v hc r=>k c v ?_ r) (λc r=>by rw[j9 (U c b r)];exact r) λc xs r=>by rw[j9 (qq c xs r)];exact r
   rcases hc with rfl|hc
   .exact Z
   .rintro rfl
    rcases he with z|z
    .exact U c b hc z
    .rw[hc] at z;cases z;exact R rfl
structure Un(fs ex:X9)(H H':Hp)(h h':Heap):Prop where
 keep:∀b o,h.get? b=some o->H b=none->b∉fs->b∉ex->h'.get? b=some o
 slot:∀b o,h.get? b=some o->H b=none->b∈fs->b∉ex->∃sl,h'.get? b=some { o with slots:=sl }
 free:∀b o,h.get? b=some o->H b=none->b∉ex->H' b=none
 there:∀b o,h.get? b=some o->b∉ex->∃o',h'.get? b=some o'
 Wf:∀b xs,H b=some (.tup xs)->H' b=some (.tup xs)
 aad:∀b o u,H b=some (.Hz o u)->H' b=some (.Hz o u)
 acr:∀b ps,H b=some (.tbl ps)->∃more,H' b=some (.tbl (ps++more))
def Un.any(u:Un fs ex H H1 h h1)(q:h.get? b=some Z)(n:H b=none)(R:b∉ex):∃sl,h1.get? b=some { Z with slots:=sl }:=by
 by_cases U:b∈fs
 .exact u.slot b Z q n U R
 .exact⟨Z.slots,u.keep b Z q n U R⟩
def Un.kept(k:∀b u,h.get? b=some u->h'.get? b=some u):Un fs ex H H h h' :=
 ⟨λb Z q _ _ _=>k b Z q,λb Z q _ _ _=>⟨Z.slots,k b Z q⟩,λ_ _ _ n _=>n,λb Z q _=>⟨Z,k b Z q⟩,λ_ _ q=>q,λ_ _ _ q=>q,λ_ U q=>⟨#[],by rw[q];simp⟩⟩
def Un.refl:Un fs ex H H h h:=Un.kept λ_ _ q=>q
theorem Un.laid(k:∀b u,h.get? b=some u->h'.get? b=some u)(U:h.objs.size<=a)(Z:H a=none):Un fs ex H (upd H a o) h h' where
 keep:=λb u q _ _ _=>k b u q
 slot:=λb u q _ _ _=>⟨u.slots,k b u q⟩
 free:=λb u q n _=>by rw[j9 (gf (ie (az q) U))];exact n
 there:=λb u q _=>⟨u,k b u q⟩
 Wf:=λb R q=>by rw[j9 (kh q Z)];exact q
 aad:=λb u R q=>by rw[j9 (kh q Z)];exact q
 acr:=λb ps q=>⟨#[],by rw[j9 (kh q Z),q];simp⟩
def Un.write(U:Mut (H x))(he:e=x\/H e=some (.own x))(k:∀b u,b≠e->h.get? b=some u->h'.get? b=some u)(qq:∃u,h'.get? e=some u):Un fs ex H (upd H x o) h h':=by
 have hx:∀b,H b=none->b≠x:=λb n z=>by subst z;rw[n] at U;exact U
 have hb:∀b,H b=none->b≠e:=λb n z=>by
  subst z;rcases he with r|r
  .exact hx b n r
  .rw[n] at r;cases r
 have R:∀b u,H b=some u->¬Mut (some u)->b≠x:=λb u q nm z=>by subst z;rw[q] at U;exact nm U
 refine⟨λb u q n _ _=>k b u (hb b n) q,λb u q n _ _=>⟨u.slots,k b u (hb b n) q⟩,λb u q n _=>by rw[j9 (hx b n)];exact n,λb u q _=>?_,
  λb xs q=>by rw[j9 (R b _ q λz=>z)];exact q,λb u xs q=>by rw[j9 (R b _ q λz=>z)];exact q,λb ps q=>⟨#[],by rw[j9 (R b _ q λz=>z),q];simp⟩⟩
 by_cases Z:b=e
 .subst Z;exact qq
 .exact⟨u,k b u Z q⟩
noncomputable def trk(h:Heap)(H:Hp):List Addr:=(List.range h.objs.size).filter λa=>(H a).isSome
noncomputable def aae(h:Heap)(H:Hp):Heap:=PySem.W.hideAll h (trk h H)
def aj1(h:Heap)(H:Hp):(aae h H).objs.size=h.objs.size:=PySem.W.hideAll_size _ _
def anx(e:h.get? b=some o)(n:H b=none):(aae h H).get? b=some o :=
 PySem.W.hideAll_get _ e λZ=>by have q:(H b).isSome=true:=(qm.mp Z).2;rw[n] at q;simp at q
def aub(e:(aae h H).get? b=some o):h.get? b=some o/\H b=none:=by
 have Z:h.get? b=some o:=PySem.W.of_hideAll (trk h H) e;refine⟨Z,?_⟩;cases q:H b with
 |none=>rfl
 |some x =>
  have U:b∈trk h H:=qm.mpr ⟨jx.mpr (az Z),by simp[q]⟩;have z:(aae h H).get? b=none:=PySem.W.hideAll_none (trk h H) U;rw[z] at e;cases e
end L2
namespace L2
open PySem PySem.Spec PyProof.Rows
structure Mod(K:Fg)(mg:Zs)(base:Heap):Prop where
 kin:K.In base
 glob:base.Ns mainGlobals mg
 blt:∃mb,base.Ns builtinsNs mb/\∀x:Str,x≠"__name__" -> mb x=bootBuiltins x
 nolimit:base.NoLimit
structure Cx where
 prog:Program
 w:World
 K:Fg
 mg:Str->Option Value
 base:Heap
 A:Around
 N:List Str
 s₀:Shared
 H₀:Hp
 env:Env
 outer:List Env
 stack:List Env
 ex:List Addr
 fn:Str->Bool
 calm:Bool
 pn:List (Addr×Obj)
 xe:Value->Shared->Prop
noncomputable def frs(l:List Env):List Addr:=l.filterMap (·.frame)
noncomputable abbrev Cx.fs(X:Cx):List Addr:=frs X.outer
def Vis(Z:Scope)(x:Str):Prop:=Z.names.lookup x=some .local\/Z.names.lookup x=some .cell\/Z.names.lookup x=some .free
def Loc(Z:Scope)(x:Str):Prop:=Z.names.lookup x=some .local\/Z.names.lookup x=some .cell
def Look(Z:Env)(h:Heap)(m:Zs)(x:Str)(u:Value):Prop :=
 (Z.kindOf x=some .local/\m x=some u)\/((Z.kindOf x=some .cell\/Z.kindOf x=some .free)/\∃c,Z.cells.lookup x=some c/\h.IsCell c (some u))
structure Cx.Ok(X:Cx):Prop where
 mod:Mod X.K X.mg X.base
 kind:X.env.scope.kind=.function
 glob:X.env.globals=mainGlobals
 blt:X.env.builtins=builtinsNs
 above:X.s₀.heap.objs.size<=X.env.locals
 inj:∀x y c,X.env.cells.lookup x=some c->X.env.cells.lookup y=some c->x=y
 has:∀x,(X.env.kindOf x=some .cell\/X.env.kindOf x=some .free)->∃c,X.env.cells.lookup x=some c
 cab:∀x c,X.fn x=true->X.env.cells.lookup x=some c->X.s₀.heap.objs.size<=c
 hd:X.calm=true->X.A.handled=none
 frames:X.A.frames=some X.stack
 stk:X.stack=X.outer\/(X.stack=X.env::X.outer/\X.env.frame=some X.env.locals)
 exf:∀b∈X.ex,b≠X.env.locals/\∀x c,X.env.cells.lookup x=some c->c≠b
 bs:∀b o,X.base.get? b=some o->X.s₀.heap.get? b=some o/\X.H₀ b=none
 bsz:X.base.objs.size<=X.s₀.heap.objs.size
 aoa:∀b o,X.base.get? b=some o->b∉X.ex
 aue:∀b∈X.ex,b∉X.fs
 Ux:X.s₀.heap.FunFrames X.base X.outer
 frf:∀b∈X.fs,X.H₀ b=none
structure Inv(X:Cx)(pins:Zp)(σ:List (Option V))(H:Hp)(s:Shared):Prop where
 ok:X.Ok
 os:s.os=X.s₀.os
 bare:AllBare s.gens
 base:Un X.fs X.ex X.H₀ H X.s₀.heap s.heap
 loc:∃m,s.heap.Ns X.env.locals m/\∀(i:Nat)(x:Str)(v:V),X.N[i]?=some x->σ[i]?=some (some v)->Vis X.env.scope x->∃u,RelV v u/\Look X.env s.heap m x u
 cell:∀x c,X.env.cells.lookup x=some c->∃v,s.heap.IsCell c v
 free:H X.env.locals=none
 Nu:∀x c,X.env.cells.lookup x=some c->H c=none
 pin:∀p∈X.pn++pins,s.heap.get? p.1=some p.2/\H p.1=none/\p.1≠X.env.locals/\p.1∉X.fs/\∀v,p.2.data≠.cell v
 zm:Pa X.prog X.w H s.heap
 len:σ.length=X.N.length
def Cx.Ok.bem{X:Cx}(ok:X.Ok)(e:X.base.get? b=some o):b∉X.fs:=λZ=>by have:=(ok.Ux.mem Z).1;rw[e] at this;cases this
theorem Inv.bs(I:Inv X pins σ H s):∀b o,X.base.get? b=some o->s.heap.get? b=some o/\H b=none:=λb o e =>
 ⟨I.base.keep b o (I.ok.bs b o e).1 (I.ok.bs b o e).2 (I.ok.bem e) (I.ok.aoa b o e),I.base.free b o (I.ok.bs b o e).1 (I.ok.bs b o e).2 (I.ok.aoa b o e)⟩
def Inv.bk(I:Inv X pins σ H s):∀b o,X.base.get? b=some o->s.heap.get? b=some o:=λb o e=>(I.bs b o e).1
theorem Inv.mod(I:Inv X pins σ H s):Mod X.K X.mg X.base:=I.ok.mod
def Inv.Uy(I:Inv X pins σ H s):X.K.In s.heap:=I.ok.mod.kin.keeps I.bk
theorem Inv.lt(I:Inv X pins σ H s):X.env.locals<s.heap.objs.size:=let ⟨_,hn,_⟩:=I.loc;hn.lt
def Inv.sz(I:Inv X pins σ H s):X.s₀.heap.objs.size<=s.heap.objs.size:=gw I.ok.above (t7 I.lt)
def Inv.az9(I:Inv X pins σ H s)(h:s.heap.objs.size<=a):a∉X.fs:=λU=>by obtain⟨_,o,Z,_⟩:=I.ok.Ux.mem U;exact absurd (ie (az Z) (gw I.sz h)) (lq _)
def Inv.cne(I:Inv X pins σ H s):∀x c,X.env.cells.lookup x=some c->c≠X.env.locals:=λx c e z=>by obtain⟨v,o,R,hd⟩:=I.cell x c e;obtain⟨m,⟨o',es,ep,U,Z,_⟩,_⟩:=I.loc;rw[z,U] at R;cases R;rw[Z] at hd;cases hd
theorem Inv.Ux(I:Inv X pins σ H s):s.heap.FunFrames X.base X.outer:=by
 have all:∀(l:List Env),(∀b∈frs l,b∈X.fs)->X.s₀.heap.FunFrames X.base l->s.heap.FunFrames X.base l:=by
  intro l
  induction l with
  |nil=>intro _ _;trivial
  |cons qq r ih =>
   intro hs hl;obtain⟨hk,⟨L,o,R,hn,ho,hd⟩,hr⟩:=hl;have U:L∈X.fs:=hs L (by unfold frs;rw[List.filterMap_cons,R];exact cz);obtain⟨sl,e⟩:=I.base.slot L o ho (I.ok.frf L U) U λz=>I.ok.aue L z U
   exact⟨hk,⟨L,_,R,hn,e,hd⟩,ih (λb Z=>hs b (by unfold frs;rw[List.filterMap_cons,R];exact bf _ Z)) hr⟩
 exact all X.outer (λ_ Z=>Z) I.ok.Ux
theorem Inv.stack(I:Inv X pins σ H s):s.heap.FunFrames X.base X.stack:=by
 rcases I.ok.stk with e|⟨e,hf⟩
 .rw[e];exact I.Ux
 .rw[e]
  obtain⟨m,Z,_⟩:=I.loc;refine .cons (by rw[I.ok.kind];decide) hf Z ?_ I.Ux;exact Heap.get?_none_of_le (gw I.ok.bsz I.ok.above)
def Inv.aaf(I:Inv X pins σ H s):∀b∈frs X.stack,b∈X.env.locals::X.fs:=λb Z=>by
 rcases I.ok.stk with e|⟨e,hf⟩
 .rw[e] at Z;exact bf _ Z
 .rw[e] at Z
  unfold frs at Z;rw[List.filterMap_cons,hf] at Z;exact Z
def Inv.ahp(I:Inv X pins σ H s):∀b∈frs X.stack,H b=none:=λb Z=>by
 rcases bz.mp (I.aaf b Z) with e|Z
 .rw[e];exact I.free
 .obtain⟨_,o,U,_⟩:=I.ok.Ux.mem Z
  exact I.base.free b o U (I.ok.frf b Z) λz=>I.ok.aue b z Z
def Inv.step{ch:X9}(I:Inv X pins σ H s)(R:∀b∈ch,(b∈X.ex\/X.s₀.heap.objs.size<=b)/\b≠X.env.locals/\(∀x c,X.env.cells.lookup x=some c->c≠b)/\∀p∈X.pn++pins,p.1≠b)(keep:∀b o,b≠X.env.locals->b∉X.fs->b∉ch->s.heap.get? b=some o->H b=none->h'.get? b=some o)(qv:∀b o,b≠X.env.locals->b∈X.fs->b∉ch->s.heap.get? b=some o->H b=none->∃sl,h'.get? b=some { o with slots:=sl })(free:∀b o,b∉ch->s.heap.get? b=some o->H b=none->H' b=none)(q0:∀b o,b∉ch->s.heap.get? b=some o->∃o',h'.get? b=some o')(Wf:∀b xs,H b=some (.tup xs)->H' b=some (.tup xs))(q3:∀b o u,H b=some (.Hz o u)->H' b=some (.Hz o u))(q5:∀b ps,H b=some (.tbl ps)->∃q2,H' b=some (.tbl (ps++q2)))(ns:∀m,s.heap.Ns X.env.locals m->h'.Ns X.env.locals m)(zm:Pa X.prog X.w H' h')(hg:AllBare g') :
 Inv X pins σ H' { s with heap:=h',gens:=g',drawn:=d',toks:=t' }:=by
 have q1:∀b o,X.s₀.heap.get? b=some o->b≠X.env.locals:=λb o e=>gf (ie (az e) I.ok.above)
 have qk:∀b o,X.s₀.heap.get? b=some o->b∉X.ex->b∉ch:=λb o e Z hb=>by
  rcases(R b hb).1 with z|z
  .exact Z z
  .exact absurd (ie (az e) z) (lq _)
 have U:∀x c,X.env.cells.lookup x=some c->∀v,s.heap.IsCell c v->h'.IsCell c v:=λx c e v ⟨o,ho,hd⟩=>by
  have qq:c∉ch:=λz=>(R c z).2.2.1 x c e rfl
  by_cases hc:c∈X.fs
  .obtain⟨sl,q⟩:=qv c o (I.cne x c e) hc qq ho (I.Nu x c e)
   exact⟨_,q,hd⟩
  .exact⟨o,keep c o (I.cne x c e) hc qq ho (I.Nu x c e),hd⟩
 refine⟨I.ok,I.os,hg,⟨λb o e n hb Z=>?_,λb o e n hb Z=>?_,λb o e n Z=>?_,λb o e Z=>?_,λb xs e=>Wf b xs (I.base.Wf b xs e),λb o xs e=>q3 b o xs (I.base.aad b o xs e),λb ps e=>?_⟩,?_,λx c e=>?_,?_,λx c e=>?_,λp hp=>?_,zm,I.len⟩
 .exact keep b o (q1 b o e) hb (qk b o e Z) (I.base.keep b o e n hb Z) (I.base.free b o e n Z)
 .obtain⟨sl,e1⟩:=I.base.slot b o e n hb Z
  obtain⟨q4,e2⟩:=qv b _ (q1 b o e) hb (qk b o e Z) e1 (I.base.free b o e n Z);exact⟨q4,e2⟩
 .obtain⟨o',e1⟩:=I.base.there b o e Z
  exact free b o' (qk b o e Z) e1 (I.base.free b o e n Z)
 .obtain⟨o',e1⟩:=I.base.there b o e Z
  exact q0 b o' (qk b o e Z) e1
 .obtain⟨m1,e1⟩:=I.base.acr b ps e
  obtain⟨m2,e2⟩:=q5 b _ e1;exact⟨m1++m2,by rw[e2,Array.append_assoc]⟩
 .obtain⟨m,hn,hl⟩:=I.loc
  refine⟨m,ns m hn,λi x v e1 e2 e3=>?_⟩;obtain⟨u,r,l⟩:=hl i x v e1 e2 e3;refine⟨u,r,?_⟩;rcases l with l|⟨k,c,e,z⟩
  .exact .inl l
  .exact .inr ⟨k,c,e,U x c e _ z⟩
 .obtain⟨v,z⟩:=I.cell x c e
  exact⟨v,U x c e v z⟩
 .obtain⟨m,⟨o,_,_,ho,_⟩,_⟩:=I.loc
  exact free _ o (λz=>(R _ z).2.1 rfl) ho I.free
 .obtain⟨v,o,ho,hd⟩:=I.cell x c e
  exact free c o (λz=>(R c z).2.2.1 x c e rfl) ho (I.Nu x c e)
 .obtain⟨e,n,ne,nf,d⟩:=I.pin p hp
  have qq:p.1∉ch:=λz=>(R p.1 z).2.2.2 p hp rfl
  exact⟨keep p.1 p.2 ne nf qq e n,free p.1 p.2 qq e n,ne,nf,d⟩
def Inv.un(I:Inv X pins σ H s)(u:Un X.fs [] H H' s.heap h')(zm:Pa X.prog X.w H' h'):Inv X pins σ H' { s with heap:=h',toks:=t' }:=by
 obtain⟨m,⟨o,es,ep,ho,r⟩,_⟩:=id I.loc;obtain⟨sl,hL⟩:=u.any ho I.free (by simp);exact I.step (g':=s.gens) (d':=s.drawn) (ch:=[]) (λ_ z=>nomatch z) (λb o _ R _ e n=>u.keep b o e n R (by simp)) (λb o _ R _ e n=>u.slot b o e n R (by simp)) (λb o _ e n=>u.free b o e n (by simp)) (λb o _ e=>u.there b o e (by simp)) u.Wf u.aad u.acr (λm' hm=>by
  obtain⟨o',qq,U,Z,r'⟩:=hm;rw[ho] at Z;cases Z;exact⟨_,qq,U,hL,r'⟩) zm I.bare
def Inv.call(I:Inv X pins σ H s)(u:Un (frs X.stack) ch H H' s.heap h')(zm:Pa X.prog X.w H' h')(hg:AllBare g')(U:∀b∈ch,(b∈X.ex\/X.s₀.heap.objs.size<=b)/\b≠X.env.locals/\(∀x c,X.env.cells.lookup x=some c->c≠b)/\∀p∈X.pn++pins,p.1≠b) :
 Inv X pins σ H' { s with heap:=h',gens:=g',drawn:=d',toks:=t' }:=by
 obtain⟨m,⟨o,es,ep,ho,r⟩,_⟩:=id I.loc;obtain⟨sl,hL⟩:=u.any ho I.free λz=>(U _ z).2.1 rfl
 exact I.step (ch:=ch) U (λb o hL hb Z e n=>u.keep b o e n (λz=>(bz.mp (I.aaf b z)).elim hL hb) Z) (λb o _ _ Z e n=>u.any e n Z) (λb o Z e n=>u.free b o e n Z) (λb o Z e=>u.there b o e Z) u.Wf u.aad u.acr (λm' hm=>by
  obtain⟨o',qk,qq,R,r'⟩:=hm;rw[ho] at R;cases R;exact⟨_,qk,qq,hL,r'⟩) zm hg
def Inv.turned(I:Inv X pins σ H s)(k:∀b o,b≠it->s.heap.get? b=some o->h'.get? b=some o)(hn:H it=none)(R:it≠X.env.locals)(h1:it∈X.ex\/X.s₀.heap.objs.size<=it)(h2:∀x c,X.env.cells.lookup x=some c->c≠it)(h3:∀p∈X.pn++pins,p.1≠it):Inv X pins σ H { s with heap:=h',toks:=t' }:=by
 have U:∀b u,H b=some u->b≠it:=λb u e z=>by rw[z,hn] at e;cases e
 refine I.step (g':=s.gens) (d':=s.drawn) (ch:=[it]) (λb hb=>?_) (λb o _ _ Z e _=>k b o (λz=>Z (by simp[z])) e) (λb o _ _ Z e _=>⟨o.slots,k b o (λz=>Z (by simp[z])) e⟩) (λ_ _ _ _ n=>n)
  (λb o Z e=>⟨o,k b o (λz=>Z (by simp[z])) e⟩) (λ_ _ e=>e) (λ_ _ _ e=>e) (λb ps e=>⟨#[],by rw[e];simp⟩) (λm hm=>?_) (λb u e=>?_) I.bare
 .have e:b=it:=by simpa using hb
  subst e;exact⟨h1,R,h2,h3⟩
 .obtain⟨o,es,ep,ho,r⟩:=hm
  exact⟨o,es,ep,k _ o (ji R) ho,r⟩
 .refine(I.zm b u e).stay (λc v Z q=>k c v ?_ q) (λ_ q=>q) λ_ _ q=>q
  rcases Z with z|z
  .rw[z];exact U b u e
  .exact U c _ z
def Inv.tok(I:Inv X pins σ H s)(t:Nat):Inv X pins σ H { s with toks:=t }:=I.un (h':=s.heap) (t':=t) Un.refl I.zm
theorem Inv.kept(I:Inv X pins σ H s)(k:∀b u,s.heap.get? b=some u->Z.get? b=some u):Inv X pins σ H { s with heap:=Z,toks:=t' }:=I.un (Un.kept k) (I.zm.kept k)
theorem Inv.laid(I:Inv X pins σ H s)(k:∀b u,s.heap.get? b=some u->h'.get? b=some u)(Z:s.heap.objs.size<=a)(new:Ah X.prog X.w (upd H a o) h' a o) :
 Inv X pins σ (upd H a o) { s with heap:=h',toks:=t' }:=I.un (Un.laid k Z (I.zm.fresh Z)) (I.zm.laid k Z new)
theorem Inv.write(I:Inv X pins σ H s)(mu:Mut (H x))(R:e=x\/H e=some (.own x))(k:∀b u,b≠e->s.heap.get? b=some u->U.get? b=some u)(Z:∃u,U.get? e=some u)(new:Ah X.prog X.w (upd H x o) U x o):Inv X pins σ (upd H x o) { s with heap:=U,toks:=t' }:=I.un (Un.write mu R k Z) (I.zm.write mu R k Z new)
def Inv.weak(I:Inv X pins σ H s)(Z:σ'.length=σ.length)(w:∀(i:Nat) v,σ'[i]?=some (some v)->σ[i]?=some (some v)):Inv X pins σ' H s :=
 ⟨I.ok,I.os,I.bare,I.base,let ⟨m,hn,hl'⟩:=I.loc;⟨m,hn,λi x v R U e3=>hl' i x v R (w i v U) e3⟩,I.cell,I.free,I.Nu,I.pin,I.zm,Z.trans I.len⟩
def Inv.Q0(I:Inv X pins σ H s)(h:∀p∈ahq,s.heap.get? p.1=some p.2/\H p.1=none/\p.1≠X.env.locals/\p.1∉X.fs/\∀v,p.2.data≠.cell v):Inv X ahq σ H s :=
 ⟨I.ok,I.os,I.bare,I.base,I.loc,I.cell,I.free,I.Nu,λp Z=>(bx.mp Z).elim (λz=>I.pin p (ig _ z)) (h p),I.zm,I.len⟩
def Nv{N:Yf}(Z:N.Nodup){i:Nat}(a:N[i]?=some x)(b:N[j]?=some x):i=j:=by obtain⟨h1,U⟩:=ak.mp a;obtain⟨h2,R⟩:=ak.mp b;exact(Ao Z).mp (U.trans R.symm)
def aj2(I:Inv X pins σ H s)(hN:X.N.Nodup)(hi:X.N[i]?=some x)(hx:Loc X.env.scope x)(r:RelV v u)(h:∀s',Inv X pins (σ.set i (some v)) H s'->(∃a,Heap.SameBut a s.heap s'.heap/\(a=X.env.locals\/X.env.cells.lookup x=some a))->Q () s')(hf:X.fn x=true\/X.env.scope.names.lookup x=some .local:=by first|exact .inl rfl|exact .inr rfl|assumption):wpAny M A (storeName X.env x u) Q E s:=by
 obtain⟨m,hn,hl⟩:=id I.loc;have q4:(X.env.scope.kind==.class||(X.env.scope.kind==.module&&X.env.locals != X.env.globals))=false:=by rw[I.ok.kind];rfl
 have qq:i < σ.length:=by rw[I.len];exact(ak.mp hi).1
 have cne:=I.cne;have U:∀{a:Addr}{h':Heap},(∃o,s.heap.get? a=some o/\H a=none)->Heap.SameBut a s.heap h'->Pa X.prog X.w H h':=fun{a h'} ha Z b ob e=>by
  obtain⟨_,_,Pb⟩:=ha;refine(I.zm b ob e).stay (λc w' hc q=>(Z.2 c ?_).trans q) (λ_ q=>q) λ_ _ q=>q
  rintro rfl;rcases hc with rfl|hc
  .rw[Pb] at e;cases e
  .rw[Pb] at hc;cases hc
 rcases hx with hk|hk
 .refine wpAny_storeName_local hk hn (λh' Oo Z=>?_) q4
  obtain⟨oL,_,_,q2,_⟩:=id hn;refine h _ ⟨I.ok,I.os,I.bare,⟨λb o e n hb hx=>?_,λb o e n hb hx=>?_,I.base.free,λb o e hx=>?_,I.base.Wf,I.base.aad,I.base.acr⟩,⟨_,Oo,λj y v' R e2 e3=>?_⟩,λy c e=>?_,I.free,I.Nu,λp hp=>?_,U ⟨oL,q2,I.free⟩ Z,by simpa using I.len⟩ ⟨_,Z,.inl rfl⟩
  .exact(Z.2 b (gf (ie (az e) I.ok.above))).trans (I.base.keep b o e n hb hx)
  .obtain⟨sl,R⟩:=I.base.slot b o e n hb hx
   exact⟨sl,(Z.2 b (gf (ie (az e) I.ok.above))).trans R⟩
  .obtain⟨o',R⟩:=I.base.there b o e hx
   exact⟨o',(Z.2 b (gf (ie (az e) I.ok.above))).trans R⟩
  .by_cases hj:j=i
   .subst hj
    rw[hi] at R;cases R;rw[zr qq] at e2;cases e2;exact⟨u,r,.inl ⟨hk,by simp⟩⟩
   .rw[ux (ji hj)] at e2
    obtain⟨u',r',q⟩:=hl j y v' R e2 e3;refine⟨u',r',?_⟩;rcases q with⟨k,e⟩|⟨k,c,e,z⟩
    .refine .inl ⟨k,?_⟩
     have:y≠x:=λe=>hj (Nv hN R (e▸hi))
     simp[this,e]
    .exact .inr ⟨k,c,e,z.sameBut Z (cne y c e)⟩
  .obtain⟨w',z⟩:=I.cell y c e
   exact⟨w',z.sameBut Z (cne y c e)⟩
  .obtain⟨e,n,ne,nf,d⟩:=I.pin p hp
   exact⟨(Z.2 p.1 ne).trans e,n,ne,nf,d⟩
 .have qk:X.fn x=true:=by
   rcases hf with z|z
   .exact z
   .rw[z] at hk;cases hk
  obtain⟨c,hc⟩:=I.ok.has x (.inl hk);obtain⟨w',z⟩:=I.cell x c hc;refine wpAny_storeName_cell I.ok.kind hk hc z (λh' qv Z=>?_);obtain⟨oc,q0,q3⟩:=id z;refine h { s with heap:=h' } ⟨I.ok,I.os,I.bare,⟨λb o e n hb hx=>?_,λb o e n hb hx=>?_,I.base.free,λb o e hx=>?_,I.base.Wf,I.base.aad,I.base.acr⟩,⟨m,hn.sameBut Z (ji (cne x c hc)),λj y v' R e2 e3=>?_⟩,λy c' e=>?_,I.free,I.Nu,λp hp=>?_,U ⟨oc,q0,I.Nu x c hc⟩ Z,by simpa using I.len⟩ ⟨c,Z,.inr hc⟩
  .exact(Z.2 b (gf (ie (az e) (I.ok.cab x c qk hc)))).trans (I.base.keep b o e n hb hx)
  .obtain⟨sl,R⟩:=I.base.slot b o e n hb hx
   exact⟨sl,(Z.2 b (gf (ie (az e) (I.ok.cab x c qk hc)))).trans R⟩
  .obtain⟨o',R⟩:=I.base.there b o e hx
   exact⟨o',(Z.2 b (gf (ie (az e) (I.ok.cab x c qk hc)))).trans R⟩
  .by_cases hj:j=i
   .subst hj
    rw[hi] at R;cases R;rw[zr qq] at e2;cases e2;exact⟨u,r,.inr ⟨.inl hk,c,hc,qv⟩⟩
   .rw[ux (ji hj)] at e2
    obtain⟨u',r',q⟩:=hl j y v' R e2 e3;refine⟨u',r',?_⟩;rcases q with q|⟨k,c',e,z'⟩
    .exact .inl q
    .refine .inr ⟨k,c',e,z'.sameBut Z ?_⟩
     rintro rfl;exact hj (Nv hN R (I.ok.inj _ _ _ e hc▸hi))
  .by_cases q1:c'=c
   .subst q1;exact⟨_,qv⟩
   .obtain⟨w2,z2⟩:=I.cell y c' e
    exact⟨w2,z2.sameBut Z q1⟩
  .obtain⟨e,n,ne,nf,d⟩:=I.pin p hp
   refine⟨(Z.2 p.1 ?_).trans e,n,ne,nf,d⟩;intro q;rw[q,q0] at e;have q':oc=p.2:=ju e;exact d w' (by rw[<- q'];exact q3)
def aoc(I:Inv X pins σ H s)(U:X.N.Nodup)(R:X.N[i]?=some x)(hx:Loc X.env.scope x)(r:RelV v u)(h:∀Z,Inv X pins (σ.set i (some v)) H Z->Q () Z)(hf:X.fn x=true\/X.env.scope.names.lookup x=some .local:=by first|exact .inl rfl|exact .inr rfl|assumption):wpAny M A (storeName X.env x u) Q E s :=
 aj2 I U R hx r (λZ I' _=>h Z I') hf
def Inv.call'(I:Inv X pins σ H s)(ho:s'.os=s.os)(u:Un (frs X.stack) ch H H' s.heap s'.heap)(zm:Pa X.prog X.w H' s'.heap)(hg:AllBare s'.gens)(Z:∀b∈ch,(b∈X.ex\/X.s₀.heap.objs.size<=b)/\b≠X.env.locals/\(∀x c,X.env.cells.lookup x=some c->c≠b)/\∀p∈X.pn++pins,p.1≠b):Inv X pins σ H' s':=by obtain⟨h',g',R,U,o'⟩:=s';have e:o'=s.os:=ho;subst e;exact I.call (g':=g') (t':=U) (d':=R) u zm hg Z
abbrev XK:=Value->Option Addr->Hp->Prop
abbrev St:=List (Option V)
abbrev VK:=V->Hp->Prop
abbrev TE:=St->Hp->VK->Prop
abbrev TT:=St->Hp->(Bool->Hp->Prop)->Prop
abbrev TA:=St->Hp->(List V->Hp->Prop)->Prop
structure Ends where
 nx:St->Hp->Prop
 rt:VK
 bk:St->Hp->Prop:=λ_ _=>False
 ct:St->Hp->Prop:=λ_ _=>False
abbrev TS:=Ends->St->Hp->Prop
def EP(X:Cx)(Z:Zp)(σ:St)(Q:VK)(u:Value)(R:Shared):Prop:=∃v U,Inv X Z σ U R/\RelV v u/\Q v U
def TP(X:Cx)(Z:Zp)(σ:St)(Q:Bool->Hp->Prop)(b:Bool)(R:Shared):Prop:=∃U,Inv X Z σ U R/\Q b U
def AP(X:Cx)(Z:Zp)(σ:St)(Q:List V->Hp->Prop)(us:Zl)(s':Shared):Prop:=∃R U,Inv X Z σ U s'/\Vals R us/\Q R U
def SP(X:Cx)(U:Zp)(D:Ends)(f:Flow)(s':Shared):Prop :=
 match f with
 |.next=>∃Z R,Inv X U Z R s'/\D.nx Z R|.brk=>∃Z R,Inv X U Z R s'/\D.bk Z R|.cont=>∃Z R,Inv X U Z R s'/\D.ct Z R|.ret u=>∃v Z R,Inv X U Z R s'/\RelV v u/\D.rt v R
def PE(X:Cx)(e:Expr)(t:TE):Prop :=
 ∀(Z:Zp)(s:Shared)(U:St)(H:Hp)(Q:VK),Inv X Z U H s->t U H Q->wpAny (model X.prog X.w) X.A (eval e X.env) (EP X Z U Q) X.xe s
def PT(X:Cx)(e:Expr)(t:TT):Prop :=
 ∀(Z:Zp)(s:Shared)(U:St)(H:Hp)(Q:Bool->Hp->Prop),Inv X Z U H s->t U H Q->wpAny (model X.prog X.w) X.A (isTrue e X.env (eval e X.env)) (TP X Z U Q) X.xe s
def PW(X:Cx)(e:Expr)(t:TT):Prop :=
 ∀(U:Sem Value)(Z:Zp)(s:Shared)(R:St)(H:Hp)(Q:Bool->Hp->Prop),Inv X Z R H s->t R H Q->wpAny (model X.prog X.w) X.A (isTrue e X.env U) (TP X Z R Q) X.xe s
def PW.pt(h:PW X e t):PT X e t:=h _
def PA(X:Cx)(R:Ya)(t:TA):Prop :=
 ∀(pos:Pos)(Z:Zp)(s:Shared)(U:St)(H:Hp)(Q:List V->Hp->Prop),Inv X Z U H s->t U H Q->wpAny (model X.prog X.w) X.A (spliced (backTo pos (starEach R X.env))) (AP X Z U Q) X.xe s
def PS(X:Cx)(st:Stmt)(t:TS):Prop :=
 ∀(Z:Zp)(s:Shared)(U:St)(H:Hp)(D:Ends),Inv X Z U H s->t D U H->wpAny (model X.prog X.w) X.A (exec st X.env) (SP X Z D) X.xe s
def Q3(X:Cx)(st:List Stmt)(t:TS):Prop :=
 ∀(Z:Zp)(s:Shared)(U:St)(H:Hp)(D:Ends),Inv X Z U H s->t D U H->wpAny (model X.prog X.w) X.A (execs st X.env) (SP X Z D) X.xe s
def Bf(h:wpAny M A t Q E s)(Z:∀a s,Q a s->U a s):wpAny M A t U E s:=m7 h Z λ_ _ x=>x
end L2
namespace L2
open PySem PySem.Spec PyProof.Rows
def a0b(i:Nat):TE:=λZ H Q=>∃v,Z[i]?=some (some v)/\Q v H
def tC(v:V):TE:=λ_ H Q=>Q v H
def aod(hN:X.N[i]?=some x)(hv:Vis X.env.scope x)(hd:(x==("__debug__" : Str))=false:=by decide)(qq:(x==("__classdict__" : Str))=false:=by decide):PE X (.Name x pos) (a0b i):=by
 intro R s σ H Q I h;obtain⟨v,e,h⟩:=h;obtain⟨m,hn,hl⟩:=I.loc;obtain⟨u,r,l⟩:=hl i x v hN e hv;have fin:EP X R σ Q u s:=⟨v,H,I,r,h⟩;rcases l with⟨Z,hm⟩|⟨Z,c,hc,U⟩
 .exact wpAny_Name (wpAny_loadName_local I.ok.kind Z hn hm fin) hd
 .rcases Z with Z|Z
  .exact wpAny_Name (wpAny_loadName_cell I.ok.kind Z hc U fin) hd
  .exact wpAny_Name (wpAny_loadName_free I.ok.kind Z hc U fin qq) hd
def a0c:PE X (.Constant (.int i) j pos) (tC (.int i)):=λ_ _ _ H _ I h=>wpAny_Constant_int ⟨.int i,H,I.tok _,⟨_,rfl⟩,h⟩
def ax6:PE X (.Constant (.bool b) j pos) (tC (.bl b)):=λ_ _ _ H _ I h=>Constant_bool ⟨.bl b,H,I,rfl,h⟩
def a0d:PE X (.Constant .none j pos) (tC .non):=λ_ _ _ H _ I h=>Constant_none ⟨.non,H,I,rfl,h⟩
def a0e:PE X (.Constant (.str x) j pos) (tC (.str x)):=λ_ _ _ H _ I h=>Calls.Constant_str ⟨.str x,H,I.tok _,⟨_,rfl⟩,h⟩
def Gl(X:Cx)(x:Str):Prop:=X.env.kindOf x=some .globalImplicit
def aag(I:Inv X pins σ H s)(U:Gl X x)(Z:X.mg x=some u)(h:Q u s)(R:(x==("__debug__" : Str))=false:=by decide):wpAny (model X.prog X.w) X.A (eval (.Name x pos) X.env) Q E s :=
 Calls.Name_function_global I.ok.kind U (Calls.loadGlobal_global (by rw[I.ok.glob];exact I.mod.glob.keeps I.bk) Z h) R
def Dk(I:Inv X pins σ H s)(hg:Gl X x)(hm:X.mg x=none)(U:bootBuiltins x=some u)(h:Q u s)(R:x≠"__name__" := by decide)(hd:(x==("__debug__" : Str))=false:=by decide):wpAny (model X.prog X.w) X.A (eval (.Name x pos) X.env) Q E s:=by obtain⟨mb,Z,h2⟩:=I.mod.blt;exact Calls.Name_function_global I.ok.kind hg (Calls.loadGlobal_builtin (by rw[I.ok.glob];exact I.mod.glob.keeps I.bk) hm (by rw[I.ok.blt];exact Z.keeps I.bk) ((h2 x R).trans U) h) hd
def auf(U:Gl X x)(Z:X.mg x=some u)(r:RelV v u)(R:(x==("__debug__" : Str))=false:=by decide):PE X (.Name x pos) (tC v) :=
 λ_ _ _ H _ I h=>aag I U Z ⟨v,H,I,r,h⟩ R
def PC(X:Cx)(op:CmpOp)(a b:Expr)(t:TE):Prop :=
 ∀(Z:Zp)(s:Shared)(σ:St)(H:Hp)(Q:VK),Inv X Z σ H s->t σ H Q ->
  wpAny (model X.prog X.w) X.A (eval a X.env) (λv U=>wpAny (model X.prog X.w) X.A (eval b X.env) (λu R=>wpAny (model X.prog X.w) X.A (compareOp op v u) (EP X Z σ Q) X.xe R) X.xe U) X.xe s
def acs(b:Expr)(h:op≠.In)(R:op≠.NotIn):behindInMarks op b=false:=by
 have Z:(op==CmpOp.In)=false:=by cases op<;>first|rfl|exact absurd rfl h
 have U:(op==CmpOp.NotIn)=false:=by cases op<;>first|rfl|exact absurd rfl R
 cases b<;>simp[behindInMarks,Z,U]
def tB(t:TE):TT:=λU H Q=>t U H λx Z=>∃c,x=.bl c/\Q c Z
def a0f(h:PC X op a b t)(R:behindInMarks op b=false:=by first|exact acs _ (by decide) (by decide)|rfl):PE X (.Compare a [op] [b] pos) t:=λZ s σ H Q I U=>wpAny_Compare1 (h Z s σ H Q I U) R
def a0g(h:PC X op a b t)(U:behindInMarks op b=false:=by first|exact acs _ (by decide) (by decide)|rfl):PT X (.Compare a [op] [b] pos) (tB t):=by intro Z s σ H Q I hw;refine wpAny_isTrue_Compare1 (Bf (h Z s σ H _ I hw) λv s1 U=>Bf U λu s2 R=>Bf R λc s3 ⟨x,H1,I1,r1,q1⟩=>?_) U;obtain⟨d,rfl,q⟩:=q1;cases r1;exact mq ⟨H1,I1,q⟩
def a0h(h:PE X e t)(R:∀Z,isTrue e X.env Z=(do let v <- Z;standAt e.pos;holding [v] (truthy v)):=by intro _;rfl):PT X e (tB t):=by intro U s σ H Q I hw;refine isTrue_plain (Bf (h U s σ H _ I hw) λv s1 ⟨x,H1,I1,r1,q1⟩=>?_) (R _);obtain⟨d,rfl,q⟩:=q1;cases r1;exact mq ⟨H1,I1,q⟩
def ber(t u:TT):TT:=λU H Q=>t U H λc Z=>if c=true then u U Z Q else Q false Z
def tOr(t u:TT):TT:=λU H Q=>t U H λc Z=>if c=true then Q true Z else u U Z Q
def bes(t:TT):TT:=λU H Q=>t U H λc Z=>Q (!c) Z
def auh(U:PT X a tA):PW X (.BoolOp .And [a] pos) tA:=by
 intro wh Z s R H Q I h;refine isTrue_and (Bf (U Z s R H Q I h) λc s1 e=>?_);cases c with
 |true=>exact isTrue_and_nil e|false=>exact e
def a0i(U:PT X a tA):PW X (.BoolOp .Or [a] pos) tA:=by
 intro wh Z s R H Q I h;refine isTrue_or (Bf (U Z s R H Q I h) λc s1 e=>?_);cases c with
 |false=>exact isTrue_or_nil e|true=>exact e
def a0j{Z:Ya}(ha:PT X a tA)(hb:PW X (.BoolOp .And (b::Z) pos) tB'):PW X (.BoolOp .And (a::b::Z) pos) (ber tA tB'):=by
 intro wh U s σ H Q I h;refine isTrue_and (Bf (ha U s σ H _ I h) λc s1 z_=>?_);obtain⟨R,I1,q1⟩:=z_;cases c with
 |true=>exact hb wh U s1 σ R Q I1 q1|false=>exact⟨R,I1,q1⟩
def a7n{Z:Ya}(ha:PT X a tA)(hb:PW X (.BoolOp .Or (b::Z) pos) tB'):PW X (.BoolOp .Or (a::b::Z) pos) (tOr tA tB'):=by
 intro wh U s σ H Q I h;refine isTrue_or (Bf (ha U s σ H _ I h) λc s1 z_=>?_);obtain⟨R,I1,q1⟩:=z_;cases c with
 |true=>exact⟨R,I1,q1⟩|false=>exact hb wh U s1 σ R Q I1 q1
def a0k(ha:PT X a tA):PT X (.UnaryOp .Not a pos) (bes tA):=by intro Z s R H Q I h;exact isTrue_not (ha Z s R H (λc U=>Q (!c) U) I h)
def a7o(ta R:TE):TE:=λU H Q=>ta U H λx Z=>∃c,x=.bl c/\if c=true then R U Z Q else Q (.bl false) Z
def beu(ta R:TE):TE:=λU H Q=>ta U H λx Z=>∃c,x=.bl c/\if c=true then Q (.bl true) Z else R U Z Q
def a7p(R:TE):TE:=λU H Q=>R U H λx Z=>∃c,x=.bl c/\Q (.bl (!c)) Z
def a0l{Z:Ya}(ha:PE X a ta)(hb:PE X (.BoolOp .And (b::Z) pos) tb):PE X (.BoolOp .And (a::b::Z) pos) (a7o ta tb):=by
 intro U s σ H Q I h;refine BoolOp_and (Bf (ha U s σ H _ I h) λv s1 z_=>?_);obtain⟨x,H1,I1,r1,R⟩:=z_;obtain⟨c,rfl,R⟩:=R;cases r1;refine mq ?_;cases c with
 |true=>exact hb U s1 σ H1 Q I1 R|false=>exact⟨.bl false,H1,I1,rfl,R⟩
def a7q{Z:Ya}(ha:PE X a ta)(hb:PE X (.BoolOp .Or (b::Z) pos) tb):PE X (.BoolOp .Or (a::b::Z) pos) (beu ta tb):=by
 intro U s σ H Q I h;refine BoolOp_or (Bf (ha U s σ H _ I h) λv s1 z_=>?_);obtain⟨x,H1,I1,r1,R⟩:=z_;obtain⟨c,rfl,R⟩:=R;cases r1;refine mq ?_;cases c with
 |false=>exact hb U s1 σ H1 Q I1 R|true=>exact⟨.bl true,H1,I1,rfl,R⟩
def a0m(ha:PE X a ta):PE X (.UnaryOp .Not a pos) (a7p ta):=by intro Z s σ H Q I h;refine UnaryOp_ (Bf (ha Z s σ H _ I h) λv s1 z_=>?_);obtain⟨x,H1,I1,R,U⟩:=z_;obtain⟨c,rfl,U⟩:=U;cases R;exact not_of (mq ⟨.bl (!c),H1,I1,rfl,U⟩)
def tIf(t:TT)(ta R:TE):TE:=λZ H Q=>t Z H λc U=>if c=true then ta Z U Q else R Z U Q
def aoe(hc:PT X c tA)(ha:PE X a ta)(hb:PE X b tb):PE X (.IfExp c a b pos) (tIf tA ta tb):=by
 intro Z s U H Q I h;refine wpAny_IfExp (Bf (hc Z s U H _ I h) λd s1 z_=>?_);obtain⟨R,I1,q1⟩:=z_;cases d with
 |true=>exact ha Z s1 U R Q I1 q1|false=>exact hb Z s1 U R Q I1 q1
end L2
namespace L2
open PySem PySem.Spec PyProof.Rows
def Gz(K:Fg)(H:Hp)(a:Addr)(U:List V):Prop :=
 Rd H a (.lst U) \/
  ∃(o:Obj)(Z:U1)(n:Nat),K.lookup a=some o/\o.cls=.type "list"/\o.dict=none/\o.data=.seq Z n/\Z.size<=sizeLine/\Vals U Z.toList
def Ia(K:Fg)(H:Hp)(a:Addr)(U:List V):Prop :=
 Rd H a (.tup U) \/
  ∃(o:Obj)(Z:U1)(n:Nat),K.lookup a=some o/\o.cls=.type "tuple"/\o.data=.seq Z n/\Z.size<=sizeLine/\Vals U Z.toList
noncomputable def bev:Value->Option V
 |.none=>some .non|.bool b=>some (.bl b)|.int i _=>some (.int i)|.str x _=>some (.str x)|.bytes b _=>some (.byt b)|.float b _=>some (.flt b)|.ref a=>some (.ref a)|.type n=>some (.ty n)|_=>none
def RelV.abs(r:RelV x u):bev u=some x:=by
 cases x with
 |non=>cases r;rfl|bl _=>cases r;rfl|int _=>obtain⟨t,rfl⟩:=r;rfl
 |str _=>obtain⟨t,rfl⟩:=r;rfl
 |byt _=>obtain⟨t,rfl⟩:=r;rfl
 |flt _=>obtain⟨t,rfl⟩:=r;rfl
 |ref _=>cases r;rfl|ty _=>cases r;rfl
def RelV.inj(r:RelV x u)(q:RelV y u):x=y:=ju (r.abs.symm.trans q.abs)
theorem Vals.inj:∀{Z U:List V}{R:Zl},Vals Z R->Vals U R->Z=U
 |_,_,_,.nil,.nil=>rfl|_,_,_,.cons r t,.cons r' t'=>by rw[r.inj r',Vals.inj t t']
def Gz.of{K:Fg}(h:H a=some (.lst xs)):Gz K H a xs:=.inl (.inl h)
def Ia.of{K:Fg}(h:H a=some (.tup xs)):Ia K H a xs:=.inl (.inl h)
def Inv.list(I:Inv X pins σ H s)(h:Gz X.K H a U):∃Z:List Value,Vals U Z/\PlainL s.heap a Z.toArray/\U.length<=sizeLine:=by
 rcases h with h|⟨o,Z,n,hk,hc,hd,hs,hz,r⟩
 .obtain⟨z,Z,n,r,e⟩:=h.ok I.zm
  exact⟨Z,r,⟨_,n,e,rfl,rfl,rfl⟩,z⟩
 .refine⟨Z.toList,r,⟨o,n,I.Uy a o hk,hc,hd,by simpa using hs⟩,?_⟩
  have e:=r.length;simp only[u5] at e;exact a_ (f_ e) hz
def Inv.tuple(I:Inv X pins σ H s)(h:Ia X.K H a U):∃Z:List Value,Vals U Z/\IsTup s.heap a Z.toArray/\U.length<=sizeLine:=by
 rcases h with h|⟨o,Z,n,hk,hc,hs,hz,r⟩
 .obtain⟨z,Z,r,p⟩:=h.ok I.zm
  exact⟨Z,r,p.is,z⟩
 .refine⟨Z.toList,r,⟨o,I.Uy a o hk,hc,n,by simpa using hs⟩,?_⟩
  have e:=r.length;simp only[u5] at e;exact a_ (f_ e) hz
def Inv.acu(I:Inv X pins σ H s)(h:Gz X.K H a xs)(h':Gz X.K H a ys):xs=ys:=by
 obtain⟨R,r,⟨o,n,e,_,_,d⟩,_⟩:=I.list h;obtain⟨its',r',⟨o',n',Z,_,_,U⟩,_⟩:=I.list h';rw[e] at Z;cases Z;rw[d] at U;injection U with d1 _
 have:R=its':=by simpa using nq Array.toList d1
 subst this;exact r.inj r'
def Inv.Sw(I:Inv X pins σ H s)(h:Ia X.K H a xs)(h':Ia X.K H a ys):xs=ys:=by
 obtain⟨R,r,⟨o,e,_,n,d⟩,_⟩:=I.tuple h;obtain⟨its',r',⟨o',Z,_,n',U⟩,_⟩:=I.tuple h';rw[e] at Z;cases Z;rw[d] at U;injection U with d1 _
 have:R=its':=by simpa using nq Array.toList d1
 subst this;exact r.inj r'
noncomputable abbrev Cx.X3(X:Cx)(E:Y1):Cx:={ X with xe:=E }
noncomputable abbrev Cx.nox(X:Cx):Cx:=X.X3 λ_ _=>False
theorem Cx.Ok.X3{X:Cx}(ok:X.Ok)(E:Y1):(X.X3 E).Ok :=
 ⟨ok.mod,ok.kind,ok.glob,ok.blt,ok.above,ok.inj,ok.has,ok.cab,ok.hd,ok.frames,ok.stk,ok.exf,ok.bs,ok.bsz,ok.aoa,ok.aue,ok.Ux,ok.frf⟩
def Cx.Ok.Nx{X:Cx}(ok:(X.X3 E).Ok):X.Ok :=
 ⟨ok.mod,ok.kind,ok.glob,ok.blt,ok.above,ok.inj,ok.has,ok.cab,ok.hd,ok.frames,ok.stk,ok.exf,ok.bs,ok.bsz,ok.aoa,ok.aue,ok.Ux,ok.frf⟩
theorem Inv.X3(I:Inv X pins σ H s)(E:Y1):Inv (X.X3 E) pins σ H s:=⟨I.ok.X3 E,I.os,I.bare,I.base,I.loc,I.cell,I.free,I.Nu,I.pin,I.zm,I.len⟩
theorem Inv.Nx(I:Inv (X.X3 E) pins σ H s):Inv X pins σ H s:=⟨I.ok.Nx,I.os,I.bare,I.base,I.loc,I.cell,I.free,I.Nu,I.pin,I.zm,I.len⟩
theorem SP.Nx(h:SP (X.X3 E) pins D f s'):SP X pins D f s':=by
 cases f with
 |next=>obtain⟨Z,U,I,q⟩:=h;exact⟨Z,U,I.Nx,q⟩
 |brk=>obtain⟨Z,U,I,q⟩:=h;exact⟨Z,U,I.Nx,q⟩
 |cont=>obtain⟨Z,U,I,q⟩:=h;exact⟨Z,U,I.Nx,q⟩
 |ret u=>obtain⟨v,Z,U,I,r,q⟩:=h;exact⟨v,Z,U,I.Nx,r,q⟩
theorem Q3.nox{st:List Stmt}(h:Q3 X.nox st t):Q3 X st t:=λZ s R H D I U =>
 m7 (h Z s R H D (I.X3 _) U) (λ_ _ q=>q.Nx) λ_ _ z=>False.elim z
def ax7:TS:=λD Z H=>D.nx Z H
def bew(t u:TS):TS:=λD Z H=>t { D with nx:=u D } Z H
def aui:Q3 X [] ax7:=λ_ _ Z H _ I h=>wpAny_execs_nil ⟨Z,H,I,h⟩
def aof{st:Stmt}{Z:List Stmt}(h1:PS X st t)(h2:Q3 X Z u):Q3 X (st::Z) (bew t u):=by
 intro U s σ H D I h;refine wpAny_execs_cons (Bf (h1 U s σ H { D with nx:=u D } I h) λf s1 q=>?_);cases f with
 |next =>
  obtain⟨R,H',I',q⟩:=q;exact h2 U s1 R H' D I' q
 |ret v=>exact q|brk=>exact q|cont=>exact q
def a0n:TS:=λD Z H=>D.bk Z H
def a7s:TS:=λD Z H=>D.ct Z H
def auj:PS X (.Pass pos) ax7:=λ_ _ Z H _ I h=>wpAny_Pass ⟨Z,H,I,h⟩
def aog:PS X (.Break pos) a0n:=λ_ _ Z H _ I h=>wpAny_Break ⟨Z,H,I,h⟩
def acv:PS X (.Continue pos) a7s:=λ_ _ Z H _ I h=>wpAny_Continue ⟨Z,H,I,h⟩
def Inv.quiet(I:Inv X pins σ H s):interactive X.env=false:=by simp[interactive,I.ok.kind]
def a7t(R:TE):TS:=λD Z H=>R Z H λ_ U=>D.nx Z U
def auk(he:PE X e R)(hs:swapsWith e none pos.line X.env=pure false:=by rfl):PS X (.Expr e pos) (a7t R):=by intro Z s U H D I h;exact wpAny_Expr_any (Bf (he Z s U H _ I h) λv s1 ⟨x,H1,I1,r1,q1⟩=>⟨U,H1,I1,q1⟩) I.quiet hs
def bex(U:TE):TS:=λD Z H=>U Z H D.rt
def a0o(he:PE X e R):PS X (.Return (some e) pos) (bex R):=by intro Z s U H D I h;exact wpAny_Return_some (Bf (he Z s U H _ I h) λv s1 ⟨x,H1,I1,r1,q1⟩=>⟨x,U,H1,I1,r1,q1⟩)
def bey(c:TT)(t u:TS):TS:=λD Z H=>c Z H λb U=>if b=true then t D Z U else u D Z U
def a7u(hc:PT X c tc)(ha:Q3 X a t)(hb:Q3 X b u):PS X (.If c a b pos) (bey tc t u):=by
 intro Z s U H D I h;refine wpAny_If (Bf (hc Z s U H _ I h) λd s1 z_=>?_);obtain⟨R,I1,q1⟩:=z_;cases d with
 |true=>exact ha Z s1 U R D I1 q1|false=>exact hb Z s1 U R D I1 q1
abbrev TG:=V->St->Hp->(St->Hp->Prop)->Prop
abbrev TGs:=List V->St->Hp->(St->Hp->Prop)->Prop
def PG(X:Cx)(Z:Expr)(t:TG):Prop :=
 ∀(U:Zp)(s:Shared)(σ:St)(H:Hp)(v:V)(u:Value)(Q:St->Hp->Prop),Inv X U σ H s->RelV v u->t v σ H Q ->
  wpAny (model X.prog X.w) X.A (assign Z X.env u) (λ_ s'=>∃R H',Inv X U R H' s'/\Q R H') X.xe s
def PGs(X:Cx)(ts:Ya)(t:TGs):Prop :=
 ∀(Z:Zp)(s:Shared)(σ:St)(H:Hp)(vs:List V)(R:Zl)(Q:St->Hp->Prop),Inv X Z σ H s->Vals vs R->t vs σ H Q ->
  wpAny (model X.prog X.w) X.A (assignInOrder ((assignEach ts X.env).map (·.2)) R) (λ_ s'=>∃U H',Inv X Z U H' s'/\Q U H') X.xe s
abbrev a0p:=V->V->V->Hp->(Hp->Prop)->Prop
def a0q(X:Cx)(t:a0p):Prop :=
 ∀(Z:Zp)(s:Shared)(σ:St)(H:Hp)(o i v:V)(R U u:Value)(Q:Hp->Prop),Inv X Z σ H s->RelV o R->RelV i U->RelV v u->t o i v H Q ->
  wpAny (model X.prog X.w) X.A (setItem R U u) (λ_ s'=>∃H',Inv X Z σ H' s'/\Q H') X.xe s
def ahr(i:Nat):TG:=λv Z H Q=>Q (Z.set i (some v)) H
def aah(U:X.N.Nodup)(R:X.N[i]?=some x)(hx:Loc X.env.scope x)(hf:X.fn x=true\/X.env.scope.names.lookup x=some .local:=by first|exact .inl rfl|exact .inr rfl|assumption):PG X (.Name x pos) (ahr i):=by intro Z s σ H v u Q I r h;exact wpAny_assign_Name (aoc I U R hx r (λs' I'=>⟨_,H,I',h⟩) hf)
def bez:TGs:=λZ U H Q=>Z=[]/\Q U H
def a7x(t:TG)(u:TGs):TGs:=λU σ H Q=>∃v r,U=v::r/\t v σ H λZ R=>u r Z R Q
def aul:PGs X [] bez:=by intro Z s U H R us Q I r h;obtain⟨e,h⟩:=h;subst e;cases r;exact assignInOrder_nil ⟨U,H,I,h⟩
def aoh(h1:PG X e t)(h2:PGs X U u)(hs:(assignEach (e::U) X.env).map (·.2)=assign e X.env::(assignEach U X.env).map (·.2):=by rfl):PGs X (e::U) (a7x t u):=by
 intro Z s σ H vs us Q I r h;obtain⟨v,vr,e1,h⟩:=h;subst e1;cases r with
 |cons r rr =>
  rw[hs];refine assignInOrder_cons (Bf (h1 Z s σ H _ _ _ I r h) λ_ s1 z_=>?_);obtain⟨R,H1,I1,q1⟩:=z_;exact h2 Z s1 R H1 _ _ Q I1 rr q1
def be0(K:Fg)(n:Nat)(t:TGs):TG:=λv U H Q=>∃a Z,v=.ref a/\Ia K H a Z/\Z.length=n/\t Z U H Q
def a0r(hc:X.calm=true)(h:PGs X U t)(hn:(assignEach U X.env).length=n:=by rfl)(Us:(assignEach U X.env).findIdx? (·.1)=none:=by rfl):PG X (.Tuple U k pos) (be0 X.K n t):=by
 intro Z s σ H v u Q I r R;obtain⟨a,xs,e1,hq,hl,R⟩:=R;subst e1;cases r;obtain⟨wj,rv,ht,hz⟩:=I.tuple hq;refine assign_Tuple_tuple (I.ok.hd hc) ht (by simp[hn,<- hl,rv.length]) Us λh' hx=>?_
 have I1:Inv X Z σ H { s with heap:=h' }:=I.kept (t':=s.toks) λb o e=>hx b o (gf (az e)) e
 exact h Z _ σ H xs _ Q I1 (by simpa using rv) R
def be1(U ti:TE)(t:a0p):TG:=λv Z H Q=>U Z H λo R=>ti Z R λi H2=>t o i v H2 λH3=>Q Z H3
def a0s(ho:PE X o to)(hi:PE X i ti)(hs:a0q X t)(ha:∀v,assign (.Subscript o i pos) X.env v=(do
 let U <- holding [v] (eval o X.env)
 let R <- holding [v,U] (eval i X.env)
 standAt pos
 holding [v,U,R] (setItem U R v)
 release [v,U,R] []):=by intro _;rfl):PG X (.Subscript o i pos) (be1 to ti t):=by
 intro Z s σ H v u Q I r h;rw[ha];refine aa (ik (Bf (ho Z s σ H _ I h) λU s1 z_=>?_));obtain⟨x,H1,I1,r1,q1⟩:=z_;refine aa (ik (Bf (hi Z s1 σ H1 _ I1 q1) λR s2 z_=>?_));obtain⟨y,H2,I2,r2,q2⟩:=z_;refine aa (wpAny_standAt (aa (ik (Bf (hs Z s2 σ H2 x y v U R u _ I2 r1 r2 r q2) λ_ s3 z_=>?_))));obtain⟨H3,I3,q3⟩:=z_;exact wpAny_release ⟨σ,H3,I3,q3⟩
def a0t(R:TE)(g:TG):TS:=λD Z H=>R Z H λx U=>g x Z U D.nx
def aoi(he:PE X e te)(hg:PG X tg g)(hs:swapsWithSole [tg] e pos.line X.env=pure false:=by rfl)(hw:swappedStores [tg] e X.env=pure none:=by rfl)(R:(assignEach [tg] X.env).map (·.2)=[assign tg X.env]:=by rfl):PS X (.Assign [tg] e pos) (a0t te g):=by intro Z s U H D I h;refine wpAny_Assign_stores (Bf (he Z s U H _ I h) λv s1 ⟨x,H1,I1,r1,q1⟩=>?_) hs hw;rw[R];exact Bf (hg Z s1 U H1 x v _ I1 r1 q1) λ_ s2 q=>q
def a0u(c:TT)(tb:TS):TS:=λD Z H=>∃W:Nat->St->Hp->Prop,(∃m,W m Z H)/\∀m Z H,W m Z H ->
 c Z H λb R=>if b=true then ∃N:St->Hp->Prop,(∀U H',N U H'->∃m',m'<m/\W m' U H')/\tb { D with nx:=N,ct:=N,bk:=D.nx } Z R else D.nx Z R
def aoj(hp:PassesOwn (model X.prog X.w) X.A X.env X.xe)(hc:PT X c tc)(hb:Q3 X body tb):PS X (.While c body [] pos) (a0u tc tb):=by
 intro Z s σ H D I h;obtain⟨W,⟨m0,w0⟩,qk⟩:=h;refine wpAny_While (codeAny_whileLoop (λn s'=>∃qq H',Inv X Z qq H' s'/\W n qq H') ?_ m0 ⟨σ,H,I,w0⟩);rintro n s1 ⟨R,H1,I1,w1⟩;refine uh hp (Bf (hc Z s1 R H1 _ I1 (qk n R H1 w1)) λb s2 z_=>?_);obtain⟨H2,I2,q2⟩:=z_;cases b with
 |true =>
  obtain⟨N,hN,q2⟩:=q2;rw[cj rfl];refine uh hp (Bf (hb Z s2 R H2 _ I2 q2) λf s3 q3=>?_);cases f with
  |next =>
   obtain⟨U,H3,I3,n3⟩:=q3;obtain⟨m',hm,w3⟩:=hN U H3 n3;exact⟨m',hm,U,H3,I3,w3⟩
  |cont =>
   obtain⟨U,H3,I3,n3⟩:=q3;obtain⟨m',hm,w3⟩:=hN U H3 n3;exact⟨m',hm,U,H3,I3,w3⟩
  |brk=>exact q3|ret v=>exact q3
 |false =>
  rw[bw iu];exact wpAny_execs_nil ⟨R,H2,I2,q2⟩
structure It where
 go:Nat->Hp->Prop
 yld:Nat->Hp->V->Hp->Prop
 stop:Nat->Hp->Prop
def Uz(X:Cx)(Z:Zp)(H:Hp)(b:Addr):Prop :=
 H b=none/\b≠X.env.locals/\b∉X.fs/\(b∈X.ex\/X.s₀.heap.objs.size<=b)/\(∀x c,X.env.cells.lookup x=some c->c≠b)/\∀p∈X.pn++Z,p.1≠b
def Inv.aj3(I:Inv X pins σ H s)(Z:s.heap.objs.size<=b)(U:H' b=none):Uz X pins H' b:=by
 refine⟨U,vm (ie I.lt Z),I.az9 Z,.inr (gw I.sz Z),λx c e z=>?_,λp R z=>?_⟩
 .obtain⟨v,q⟩:=I.cell x c e
  exact absurd (ie q.lt (by rw[z];exact Z)) (lq _)
 .exact absurd (ie (az (I.pin p R).1) (by rw[z];exact Z)) (lq _)
structure Turn(P:Program)(w:World)(K:Fg)(tg:Expr)(J:It)(fp:X9)(it:Addr)(tn:Nat->Heap->Prop):Prop where
 mem:it∈fp
 obj:∀i h,tn i h->∀b∈fp,∃o,h.get? b=some o/\∀v,o.data≠.cell v
 keep:∀i h h',tn i h->(∀b∈fp,∀o,h.get? b=some o->h'.get? b=some o)->tn i h'
 item:∀(X:Cx),X.prog=P->X.w=w->X.K=K->X.calm=true->∀(i:Nat)(pins:Zp)(s:Shared)(σ:St)(H:Hp)(E:Y1),Inv X pins σ H s->(∀b∈fp,Uz X pins H b)->tn i s.heap->J.go i H ->
  wpAny (model P w) X.A (pyNext (.ref it)) (λr s1=>∃u,r=some u /\
   wpAny (model P w) X.A (letOwnedTupleGo tg (.ref it) u) (λ_ s2=>∃x H',Inv X pins σ H' s2/\RelV x u/\J.yld i H x H'/\tn (i+1) s2.heap/\∀b∈fp,H' b=none) E s1) E s
 done:∀(X:Cx),X.prog=P->X.w=w->X.K=K->X.calm=true->∀(i:Nat)(pins:Zp)(s:Shared)(σ:St)(H:Hp)(E:Y1),Inv X pins σ H s->(∀b∈fp,Uz X pins H b)->tn i s.heap->J.stop i H ->
  wpAny (model P w) X.A (pyNext (.ref it)) (λr s1=>r=none/\Inv X pins σ H s1) E s
 self:∀(A:Around)(i:Nat)(s:Shared)(Q:Y1)(E:Y1),tn i s.heap->Q (.ref it) s->wpAny (model P w) A (pyIter (.ref it)) Q E s
abbrev TI:=St->Hp->(It->Hp->Prop)->Prop
def PIE(X:Cx)(Z:Zp)(σ:St)(tg:Expr)(R:It->Hp->Prop)(qq:Value)(s2:Shared):Prop :=
 ∃(it:Addr)(fp:X9)(tn:Nat->Heap->Prop)(J:It)(U:Hp),qq=.ref it/\Inv X Z σ U s2/\Turn X.prog X.w X.K tg J fp it tn/\tn 0 s2.heap/\(∀b∈fp,Uz X Z U b)/\R J U
def PI(X:Cx)(tg U:Expr)(wi:TI):Prop :=
 ∀(Z:Zp)(s:Shared)(σ:St)(H:Hp)(R:It->Hp->Prop),Inv X Z σ H s->wi σ H R ->
  wpAny (model X.prog X.w) X.A (eval U X.env) (λv s1=>wpAny (model X.prog X.w) X.A (pyIter v) (PIE X Z σ tg R) X.xe s1) X.xe s
def ahs(U:s.heap.get? it=some o)(hc:o.cls=.type n)(hd:o.data=.fields vs)(R:["enumerate", "zip", "dict_itemiterator", "dict_reverseitemiterator", "odict_iterator", "itertools.zip_longest", "itertools.pairwise"].contains n=false)(Z:Q () s):wpAny M A (letOwnedTupleGo tg (.ref it) u) Q E s:=by
 unfold letOwnedTupleGo;cases tg<;>first
  |exact aj Z
  | (cases u<;>first
   |exact aj Z
   | (refine aa (wpAny_load U ?_)
      rw[hc,hd];show wpAny M A (if(["enumerate", "zip", "dict_itemiterator", "dict_reverseitemiterator", "odict_iterator", "itertools.zip_longest", "itertools.pairwise"].contains n&&vs[0]?==some (rawInt _))=true then _ else _) Q E s;rw[bw (by intro h;rw[R,Bool.false_and] at h;cases h)];exact aj Z))
noncomputable def Itl(K:Fg)(a:Addr):It :=
 ⟨λi H=>∃Z x,Gz K H a Z/\Z[i]?=some x,λi H x U=>U=H/\∀Z,Gz K H a Z->Z[i]?=some x,λi H=>∃Z,Gz K H a Z/\Z.length<=i⟩
noncomputable def Itt(K:Fg)(a:Addr):It :=
 ⟨λi H=>∃Z x,Ia K H a Z/\Z[i]?=some x,λi H x U=>U=H/\∀Z,Ia K H a Z->Z[i]?=some x,λi H=>∃Z,Ia K H a Z/\Z.length<=i⟩
noncomputable def Lj(Z:Int)(n:Nat):It:=⟨λi _=>i<n,λi H x U=>U=H/\x=.int (Z+i),λi _=>n<=i⟩
theorem aj4{K:Fg}(a it:Addr):Turn P w K tg (Itl K a) [it] it (λi h=>h.IsListIter it a i) where
 mem:=by simp
 obj:=λi h st b U=>by
  have e:b=it:=by simpa using U
  subst e;obtain⟨o,e,c,d⟩:=st;exact⟨o,e,λv z=>by rw[d] at z;cases z⟩
 keep:=λi h h' st k=>st.at λo e=>k it (by simp) o e
 item:=by
  intro X hP hw hK hc i Z s σ H E I hf st hg;subst hP hw hK;obtain⟨xs,x,hq,hx⟩:=hg;obtain⟨wj,rv,p,hz⟩:=I.list hq;obtain⟨u,hu,ru⟩:=rv.get hx;obtain⟨f0,f1,f2,f3,f4,f5⟩:=hf it (by simp);refine wpAny_pyNext_list_item st p.isList (x:=u) (by simpa using hu) λh' R sb=>?_
  have I1:Inv X Z σ H { s with heap:=h' }:=I.turned (t':=s.toks) (λb o U e=>(sb.2 b U).trans e) f0 f1 f3 f4 f5;obtain⟨o,e,c,d⟩:=id R;exact⟨u,rfl,ahs (s:={ s with heap:=h' }) e c d (by decide) ⟨x,H,I1,ru,⟨rfl,λys hy=>by rw[I.acu hy hq];exact hx⟩,R,λb U=>(hf b U).1⟩⟩
 done:=by intro X hP hw hK hc i Z s σ H E I hf st hg;subst hP hw hK;obtain⟨xs,hq,hx⟩:=hg;obtain⟨wj,rv,p,hz⟩:=I.list hq;obtain⟨f0,f1,f2,f3,f4,f5⟩:=hf it (by simp);have hl:=rv.length;exact wpAny_pyNext_list_end (I.ok.hd hc) st p.isList (by simp;exact a_ (g_ hl) hx) λh' eb=>⟨rfl,I.turned (t':=s.toks) (λb o U e=>eb b o U e) f0 f1 f3 f4 f5⟩
 self:=λ_ _ _ _ _ st h=>wpAny_pyIter_listiter st h
theorem afo{K:Fg}(a it:Addr):Turn P w K tg (Itt K a) [it] it (λi h=>h.IsTupleIter it a i) where
 mem:=by simp
 obj:=λi h st b U=>by
  have e:b=it:=by simpa using U
  subst e;obtain⟨o,e,c,d⟩:=st;exact⟨o,e,λv z=>by rw[d] at z;cases z⟩
 keep:=λi h h' st k=>st.at λo e=>k it (by simp) o e
 item:=by
  intro X hP hw hK hc i Z s σ H E I hf st hg;subst hP hw hK;obtain⟨xs,x,hq,hx⟩:=hg;obtain⟨wj,rv,p,hz⟩:=I.tuple hq;obtain⟨u,hu,ru⟩:=rv.get hx;obtain⟨f0,f1,f2,f3,f4,f5⟩:=hf it (by simp);refine wpAny_pyNext_tuple_item st (show s.heap.IsTuple a wj.toArray from p) (x:=u) (by simpa using hu) λh' R sb=>?_
  have I1:Inv X Z σ H { s with heap:=h' }:=I.turned (t':=s.toks) (λb o U e=>(sb.2 b U).trans e) f0 f1 f3 f4 f5;obtain⟨o,e,c,d⟩:=id R;exact⟨u,rfl,ahs (s:={ s with heap:=h' }) e c d (by decide) ⟨x,H,I1,ru,⟨rfl,λys hy=>by rw[I.Sw hy hq];exact hx⟩,R,λb U=>(hf b U).1⟩⟩
 done:=by intro X hP hw hK hc i Z s σ H E I hf st hg;subst hP hw hK;obtain⟨xs,hq,hx⟩:=hg;obtain⟨wj,rv,p,hz⟩:=I.tuple hq;obtain⟨f0,f1,f2,f3,f4,f5⟩:=hf it (by simp);have hl:=rv.length;exact wpAny_pyNext_tuple_end (I.ok.hd hc) st (show s.heap.IsTuple a wj.toArray from p) (by simp;exact a_ (g_ hl) hx) λh' eb=>⟨rfl,I.turned (t':=s.toks) (λb o U e=>eb b o U e) f0 f1 f3 f4 f5⟩
 self:=λ_ _ _ _ _ st h=>wpAny_pyIter_tupleiter st h
theorem afp{K:Fg}(it:Addr)(lo:Int)(n:Nat):Turn P w K tg (Lj lo n) [it] it (λi h=>IsRangeIter h it (lo+(i:Nat)*1) ((n:Int)-(i:Nat)) 1) where
 mem:=by simp
 obj:=λi h st b U=>by
  have e:b=it:=by simpa using U
  subst e;exact⟨_,st,λv z=>by
   have z':Data.fields _=Data.cell v:=z;cases z'⟩
 keep:=λi h h' st k=>k it (by simp) _ st
 item:=by
  intro X hP hw hK hc i Z s σ H E I hf st hg;subst hP hw hK;obtain⟨f0,f1,f2,f3,f4,f5⟩:=hf it (by simp);have W:=Walks.range (prog:=X.prog) (w:=X.w) (I.ok.hd hc) it lo 1 n;refine W.item i s _ _ hg st λv h' tk hv R kk=>?_
  obtain⟨t,rfl⟩:=hv;have I1:Inv X Z σ H { s with heap:=h',toks:=tk }:=I.turned (λb o U e=>kk b o (by simpa using U) e) f0 f1 f3 f4 f5;refine⟨_,rfl,ahs (s:={ s with heap:=h',toks:=tk }) (n := "range_iterator") R rfl rfl (by decide) ⟨.int (lo+i),H,I1,⟨t,?_⟩,⟨rfl,rfl⟩,R,λb U=>(hf b U).1⟩⟩;rw[Int.mul_one]
 done:=by intro X hP hw hK hc i Z s σ H E I hf st hg;subst hP hw hK;obtain⟨f0,f1,f2,f3,f4,f5⟩:=hf it (by simp);exact wpAny_pyNext_range_end (I.ok.hd hc) st (by have:n<=i:=hg;lia) λh' eb=>⟨rfl,I.turned (t':=s.toks) (λb o U e=>eb b o U e) f0 f1 f3 f4 f5⟩
 self:=λ_ _ _ _ _ st h=>wpAny_pyIter_rangeiter st h
end L2
namespace L2
open PySem PySem.Spec PyProof.Rows
def aok{lo:Int}(I:Inv X pins σ H s)(h1:-(2 ^ 62)<=lo)(h2:lo<2 ^ 62)(h3:-(2 ^ 62)<=Z)(h4:Z<2 ^ 62)(q:R (Lj lo (Z-lo).toNat) H):wpAny (model X.prog X.w) X.A (pyIter (.ref s.heap.objs.size)) (PIE X pins σ tg R) E { s with heap:=s.heap.push { cls:=.type "range",data:=.fields #[.int lo t,.int Z u,.int 1 v] },toks:=tk }:=by
 refine wpAny_pyIter_range (IsRange.new ..) (small_one h1 h2 h3 h4) ?_;have U:Inv X pins σ H { s with heap:=s.heap.push { cls:=.type "range",data:=.fields #[.int lo t,.int Z u,.int 1 v] },toks:=tk }:=I.kept λb o e=>ao _ e
 refine⟨(s.heap.push { cls:=.type "range",data:=.fields #[.int lo t,.int Z u,.int 1 v] }).objs.size,[(s.heap.push { cls:=.type "range",data:=.fields #[.int lo t,.int Z u,.int 1 v] }).objs.size],_,_,H,rfl,
  U.kept (t':=tk) λb o e=>ao _ e,afp _ lo (Z-lo).toNat,?_,λb hb=>?_,q⟩
 .have e1:lo+((0:Nat):Int)*1=lo:=by simp
  have e2:(((Z-lo).toNat:Nat):Int)-((0:Nat):Int)=Builtin.Range.rangeSize lo Z 1:=by rw[rangeSize_one];split<;>lia
  show IsRangeIter _ _ (lo+((0:Nat):Int)*1) ((((Z-lo).toNat:Nat):Int)-((0:Nat):Int)) 1;rw[e1,e2];exact bu _ rfl
 .have e:b=(s.heap.push { cls:=.type "range",data:=.fields #[.int lo t,.int Z u,.int 1 v] }).objs.size:=by simpa using hb
  subst e;exact U.aj3 (bc _) (U.zm.fresh (bc _))
def a7z(ta:TA):TI:=fun σ H R=>ta σ H λZ U=>∃j:Int,Z=[.int j]/\-(2 ^ 62)<=j/\j<2 ^ 62/\R (Lj 0 j.toNat) U
def aj5{X:Cx}{tg:Expr}(hg:Gl X "range")(hm:X.mg "range" = none)(ha:PA X [a] ta)(hs:starEach [a] X.env=[(false,eval a X.env)]:=by rfl):PI X tg (.Call (.Name "range" p) [a] [] pos) (a7z ta):=by
 intro Z s σ H R I h;refine Call_ (Dk I hg hm boot_range (jk (Bf (ha pos Z s σ H _ I h) λus s1 ⟨vs,H1,I1,r1,U⟩=>?_) hs rfl));obtain⟨j,e,U,q2,q⟩:=U;subst e;cases r1 with
 |cons r rr =>
  cases rr;obtain⟨t,rfl⟩:=r;exact call_range_1 (aok I1 (by lia) (by lia) U q2 (by simpa using q))
def be3(wi:TI)(g:TG)(tb:TS):TS:=λD Z H=>wi Z H λJ H1=>∃W:Nat->Nat->St->Hp->Prop,(∃m,W 0 m Z H1)/\∀i m Z H,W i m Z H ->
 (J.stop i H/\D.nx Z H)\/(J.go i H/\∃N:St->Hp->Prop,(∀U R,N U R->∃m',m'<m/\W (i+1) m' U R)/\∀x R,J.yld i H x R->g x Z R λqq H2=>tb { D with nx:=N,ct:=N,bk:=D.nx } qq H2)
noncomputable def Sx(Z:X9)(h:Heap):List (Addr×Obj):=Z.filterMap λb=>(h.get? b).map λo=>(b,o)
def Kp(Z:b∈U)(e:h.get? b=some o):(b,o)∈Sx U h:=List.mem_filterMap.mpr ⟨b,Z,by rw[e];rfl⟩
def aj6(Z:p∈Sx R h):p.1∈R/\h.get? p.1=some p.2:=by
 obtain⟨b,U,e⟩:=List.mem_filterMap.mp Z;cases q:h.get? b with
 |none=>rw[q] at e;cases e
 |some o =>
  rw[q] at e;have e':(b,o)=p:=ju e;subst e';exact⟨U,q⟩
def Inv.pinned{X:Cx}(I:Inv X pins σ H s)(hf:∀b∈R,Uz X pins H b)(ho:∀b∈R,∃o,s.heap.get? b=some o/\∀v,o.data≠.cell v):Inv X (pins++Sx R s.heap) σ H s :=
 I.Q0 λp hp=>(bx.mp hp).elim (λz=>I.pin p (gm _ z)) λz=>by obtain⟨Z,e⟩:=aj6 z;obtain⟨f0,f1,f2,_⟩:=hf p.1 Z;obtain⟨o,U,d⟩:=ho p.1 Z;rw[e] at U;cases U;exact⟨e,f0,f1,f2,d⟩
def Inv.Ny{X:Cx}(I:Inv X (pins++U) σ H s):Inv X pins σ H s:=I.Q0 λp Z=>I.pin p (gm _ (ig _ Z))
def a0v{X:Cx}{tg:Expr}(hp:PassesOwn (model X.prog X.w) X.A X.env X.xe)(hc:X.calm=true)(hi:PI X tg iter wi)(hg:PG X tg g)(hb:Q3 X body tb)(hs:∀x,foldedSetIterable iter X.env x=pure x:=by intro _;rfl):PS X (.For tg iter body [] pos) (be3 wi g tb):=by
 intro U s σ H D I h;refine wpAny_For (Bf (hi U s σ H _ I h) λv s1 h1=>Bf h1 λzv s2 h2=>?_) hs;obtain⟨it,fp,tn,J,H2,e,I2,T,q5,f2,W,⟨m0,w0⟩,q1⟩:=h2;subst e;have qv:∀{H':Hp},(∀b∈fp,H' b=none)->∀b∈fp,Uz X U H' b:=λhn b hb=>⟨hn b hb,(f2 b hb).2⟩
 refine codeAny_forLoop_any (λn s'=>∃i R H',Inv X U R H' s'/\tn i s'.heap/\(∀b∈fp,H' b=none)/\W i n R H') ?_ m0 ⟨0,σ,H2,I2,q5,λb hb=>(f2 b hb).1,w0⟩;rintro n s3 ⟨i,qk,H3,I3,q2,q4,w3⟩;rcases q1 i n qk H3 w3 with⟨q3,qn⟩|⟨go,N,hN,step⟩
 .refine uh hp (Bf (T.done X rfl rfl rfl hc i U s3 qk H3 X.xe I3 (qv q4) q2 q3) λr s4 z_=>?_)
  obtain⟨hr,I4⟩:=z_;subst hr;exact wpAny_execs_nil ⟨qk,H3,I4,qn⟩
 .refine uh hp (Bf (T.item X rfl rfl rfl hc i U s3 qk H3 X.xe I3 (qv q4) q2 go) λr s4 z_=>?_)
  obtain⟨u,hr,h4⟩:=z_;subst hr;refine uh hp (Bf h4 λ_ s5 z_=>?_);obtain⟨x,H5,I5,r5,y5,q0,zk⟩:=z_;have zz:=I5.pinned (qv zk) (T.obj _ _ q0);refine uh hp (Bf (hg _ s5 qk H5 x u _ zz r5 (step x H5 y5)) λ_ s6 z_=>?_);obtain⟨q8,H6,I6,q6⟩:=z_;refine uh hp (Bf (hb _ s6 q8 H6 _ I6 q6) λf s7 q7=>?_);have qq:∀{Z:St}{H7:Hp},Inv X (U++Sx fp s5.heap) Z H7 s7->N Z H7->∃m,m<n/\∃i R H',Inv X U R H' s7/\tn i s7.heap/\(∀b∈fp,H' b=none)/\W i m R H':=fun{Z H7} I7 n7=>by obtain⟨m',hm,w7⟩:=hN Z H7 n7;refine⟨m',hm,i+1,Z,H7,I7.Ny,T.keep _ _ _ q0 λb hb o e=>(I7.pin (b,o) (gm _ (gm _ (Kp hb e)))).1,λb hb=>?_,w7⟩;obtain⟨o,e,d⟩:=T.obj _ _ q0 b hb;exact(I7.pin (b,o) (gm _ (gm _ (Kp hb e)))).2.1
  cases f with
  |next=>obtain⟨Z,H7,I7,n7⟩:=q7;exact qq I7 n7
  |cont=>obtain⟨Z,H7,I7,n7⟩:=q7;exact qq I7 n7
  |brk=>obtain⟨Z,H7,I7,q7⟩:=q7;exact⟨Z,H7,I7.Ny,q7⟩
  |ret v=>obtain⟨x7,Z,H7,I7,r7,q7⟩:=q7;exact⟨x7,Z,H7,I7.Ny,r7,q7⟩
end L2
namespace L2
open PySem PySem.Spec PyProof.Rows
abbrev R2:=V->V->Hp->VK->Prop
def De(X:Cx)(f:Value->Value->Sem Value)(r:R2):Prop :=
 ∀(Z:Zp)(s:Shared)(U:St)(H:Hp)(x y:V)(v u:Value)(Q:VK),Inv X Z U H s->RelV x v->RelV y u->r x y H Q ->
  wpAny (model X.prog X.w) X.A (f v u) (EP X Z U Q) X.xe s
def UnR(X:Cx)(f:Value->Sem Value)(r:V->Hp->VK->Prop):Prop :=
 ∀(Z:Zp)(s:Shared)(U:St)(H:Hp)(x:V)(v:Value)(Q:VK),Inv X Z U H s->RelV x v->r x H Q ->
  wpAny (model X.prog X.w) X.A (f v) (EP X Z U Q) X.xe s
def Cy(X:Cx)(f:Value)(r:List V->Hp->VK->Prop):Prop :=
 ∀(Z:Zp)(s:Shared)(R:St)(H:Hp)(U:List V)(us:Zl)(Q:VK),Inv X Z R H s->Vals U us->r U H Q ->
  wpAny (model X.prog X.w) X.A (call f us) (EP X Z R Q) X.xe s
def be7(X:Cx)(r:V->Hp->(Bool->Hp->Prop)->Prop):Prop :=
 ∀(Z:Zp)(s:Shared)(U:St)(H:Hp)(x:V)(v:Value)(Q:Bool->Hp->Prop),Inv X Z U H s->RelV x v->r x H Q ->
  wpAny (model X.prog X.w) X.A (truthy v) (TP X Z U Q) X.xe s
def tOp(r:R2)(ta U:TE):TE:=λZ H Q=>ta Z H λx R=>U Z R λy H2=>r x y H2 Q
def tUn(r:V->Hp->VK->Prop)(R:TE):TE:=λU H Q=>R U H λx Z=>r x Z Q
def rI(C:Int->Int->Prop)(g:Int->Int->V):R2:=λx y H Q=>∃i j,x=.int i/\y=.int j/\C i j/\Q (g i j) H
def rI0(g:Int->Int->V):R2:=λx y H Q=>∃i j,x=.int i/\y=.int j/\Q (g i j) H
def rU(g:Int->V):V->Hp->VK->Prop:=λx H Q=>∃i,x=.int i/\Q (g i) H
def a0x{X:Cx}{a b:Expr}{ta tb:TE}(ha:PE X a ta)(hb:PE X b tb){Z:Zp}{s:Shared}{U:St}{H:Hp}{R:V->V->Hp->Prop}(I:Inv X Z U H s)
 (h:ta U H λx H1=>tb U H1 λy H2=>R x y H2) {Q:Y1} {f:Value->Value->Sem Value}
 (hf:∀v u s2 x y H2,Inv X Z U H2 s2->RelV x v->RelV y u->R x y H2->wpAny (model X.prog X.w) X.A (f v u) Q X.xe s2) :
 wpAny (model X.prog X.w) X.A (eval a X.env) (λv qq=>wpAny (model X.prog X.w) X.A (eval b X.env) (λu qk=>wpAny (model X.prog X.w) X.A (f v u) Q X.xe qk) X.xe qq) X.xe s:=by
 refine Bf (ha Z s U H _ I h) λv s1 z_=>?_
 obtain⟨x,H1,I1,r1,q1⟩:=z_;refine Bf (hb Z s1 U H1 _ I1 q1) λu s2 z_=>?_
 obtain⟨y,H2,I2,r2,q2⟩:=z_;exact hf v u s2 x y H2 I2 r1 r2 q2
def a71{X:Cx}{a b:Expr}{R U:TE}{pos:Pos}{op:Operator}{r:R2}(ho:De X (binaryOp op) r)(ha:PE X a R)(hb:PE X b U):PE X (.BinOp a op b pos) (tOp r R U):=by intro Z s σ H Q I h;exact wpAny_BinOp (a0x ha hb I h λv u s2 x y H2 I2 rx ry q=>ho Z s2 σ H2 x y v u Q I2 rx ry q)
def a72{X:Cx}{a:Expr}{R:TE}{pos:Pos}{op:UnaryOp}{r:V->Hp->VK->Prop}(ho:UnR X (unaryOp op) r)(ha:PE X a R):PE X (.UnaryOp op a pos) (tUn r R):=by intro Z s U H Q I h;exact UnaryOp_ (Bf (ha Z s U H _ I h) λv s1 ⟨x,H1,I1,r1,q1⟩=>ho Z s1 U H1 x v Q I1 r1 q1)
def opI{X:Cx}{f:Value->Value->Sem Value}{C:Int->Int->Prop}{g:Int->Int->Int}
 (Z:∀(i j:Int)(t u:Tok)(s:Shared)(Q:Y1)(E:Y1),C i j->Q (.int (g i j) s.toks) { s with toks:=s.toks+1 }->wpAny (model X.prog X.w) X.A (f (.int i t) (.int j u)) Q E s) :
 De X f (rI C λi j=>.int (g i j)):=by
 intro U s σ H x y v u Q I rx R h;obtain⟨i,j,rfl,rfl,hc,q⟩:=h;obtain⟨t,rfl⟩:=rx;obtain⟨t',rfl⟩:=R;exact Z i j t t' s _ _ hc ⟨.int (g i j),H,I.tok _,⟨_,rfl⟩,q⟩
def a73{X:Cx}{f:Value->Value->Sem Value}{g:Int->Int->Int}
 (Z:∀(i j:Int)(t u:Tok)(s:Shared)(Q:Y1)(E:Y1),Q (.int (g i j) s.toks) { s with toks:=s.toks+1 }->wpAny (model X.prog X.w) X.A (f (.int i t) (.int j u)) Q E s) :
 De X f (rI0 λi j=>.int (g i j)):=by
 intro U s σ H x y v u Q I rx R h;obtain⟨i,j,rfl,rfl,q⟩:=h;obtain⟨t,rfl⟩:=rx;obtain⟨t',rfl⟩:=R;exact Z i j t t' s _ _ ⟨.int (g i j),H,I.tok _,⟨_,rfl⟩,q⟩
def aun{X:Cx}{f:Value->Value->Sem Value}{g:Int->Int->Bool}
 (Z:∀(i j:Int)(t u:Tok)(s:Shared)(Q:Y1)(E:Y1),Q (.bool (g i j)) s->wpAny (model X.prog X.w) X.A (f (.int i t) (.int j u)) Q E s) :
 De X f (rI0 λi j=>.bl (g i j)):=by
 intro U s σ H x y v u Q I rx R h;obtain⟨i,j,rfl,rfl,q⟩:=h;obtain⟨t,rfl⟩:=rx;obtain⟨t',rfl⟩:=R;exact Z i j t t' s _ _ ⟨.bl (g i j),H,I,rfl,q⟩
def be8(i j:Int):Prop:=0<j/\j<1073741824
def be9(i j:Int):Prop:=0<=j/\j<=1000000/\i.natAbs<2 ^ 64
def auo(i j:Int):Prop:=(-(2 ^ 64)<i/\i<2 ^ 64)\/(-(2 ^ 64)<j/\j<2 ^ 64)
def auo.ok{i j:Int}(h:auo i j):IntMulOk i j:=by
 rcases h with⟨Z,U⟩|⟨Z,U⟩
 .exact .of_left (intBits_le_64 Z U)
 .exact .of_right (intBits_le_64 Z U)
def a0y{X:Cx}:De X (binaryOp .Add) (rI0 λi j=>.int (i+j)):=a73 λ_ _ _ _ _ _ _ q=>add_int q
def a0z{X:Cx}:De X (binaryOp .Sub) (rI0 λi j=>.int (i-j)):=a73 λ_ _ _ _ _ _ _ q=>sub_int q
def a00{X:Cx}:De X (binaryOp .Mult) (rI auo λi j=>.int (i*j)):=opI λ_ _ _ _ _ _ _ Z q=>mul_int q Z.ok
def aup{X:Cx}:De X (binaryOp .FloorDiv) (rI be8 λi j=>.int (i / j)):=opI λi j _ _ _ _ _ Z q=>by
 have U:(0:Int)<j:=Z.1
 have R:j<1073741824:=Z.2
 exact floordiv_int (by lia) (by rw[Int.fdiv_eq_ediv_of_nonneg i (by lia)];exact q) (.inl (PyProof.noPylong_small (by omega)))
def a01{X:Cx}:De X (binaryOp .Mod) (rI (λ_ j=>0<j) λi j=>.int (i%j)):=opI λi j _ _ _ _ _ Z q=>by
 have U:(0:Int)<j:=Z
 exact mod_int' (by lia) (by rw[Int.fmod_eq_emod_of_nonneg i (by lia)];exact q)
def a02{X:Cx}:De X (binaryOp .Pow) (rI be9 λi j=>.int (i ^ j.toNat)):=opI λ_ _ _ _ _ _ _ Z q=>pow_int_small Z.1 Z.2.1 Z.2.2 q
def unI{X:Cx}{f:Value->Sem Value}{g:Int->Int}
 (Z:∀(i:Int)(t:Tok)(s:Shared)(Q:Y1)(E:Y1),Q (.int (g i) s.toks) { s with toks:=s.toks+1 }->wpAny (model X.prog X.w) X.A (f (.int i t)) Q E s) :
 UnR X f (rU λi=>.int (g i)):=by
 intro U s σ H x v Q I R h;obtain⟨i,rfl,q⟩:=h;obtain⟨t,rfl⟩:=R;exact Z i t s _ _ ⟨.int (g i),H,I.tok _,⟨_,rfl⟩,q⟩
def a03{X:Cx}:UnR X (unaryOp .USub) (rU λi=>.int (-i)):=unI λ_ _ _ _ _ q=>neg_int q
noncomputable def a04:V->V->Bool
 |.non,.non=>true|.non,.int _=>true|.int _,.non=>true|.non,.bl _=>true|.bl _,.non=>true|.non,.str _=>true|.str _,.non=>true
 |.int _,.int _=>true|.bl _,.bl _=>true|.str _,.str _=>true|.byt _,.byt _=>true
 |.int _,.str _=>true|.str _,.int _=>true|.bl _,.str _=>true|.str _,.bl _=>true
 |_,_=>false
def rEq:R2:=λx y H Q=>a04 x y=true/\Q (.bl (decide (x=y))) H
def rNe:R2:=λx y H Q=>a04 x y=true/\Q (.bl (!decide (x=y))) H
def aht{i j:Int}:decide (V.int i=V.int j)=(i==j):=by rw[Ba];simp
def aol{i j:Bool}:decide (V.bl i=V.bl j)=(i==j):=by rw[Ba];simp
def ahu{i j:Str}:decide (V.str i=V.str j)=(i==j):=by rw[Ba];simp
def ahv{i j:Array UInt8}:decide (V.byt i=V.byt j)=(i.toList==j.toList):=by rw[Ba];cases i;cases j;simp
def yr{X:Cx}{Z:Zp}{R:St}{H:Hp}{s:Shared}{Q:VK}{k U:Bool}(I:Inv X Z R H s)(q:Q (.bl k) H)(e:k=U):EP X Z R Q (.bool U) s:=by subst e;exact⟨.bl k,H,I,rfl,q⟩
def a74{X:Cx}:De X (compareOp .Eq) rEq:=by
 intro qq s σ H x y v u Q I rx Z h;obtain⟨R,q⟩:=h;cases x with
 |non =>
  cases rx;cases y with
  |non=>cases Z;exact PySem.EqNone.eq_none_none (yr I q (by simp))|bl j=>cases Z;exact PySem.EqNone.eq_none_bool (yr I q (by simp))|int j=>obtain⟨U,rfl⟩:=Z;exact PySem.EqNone.eq_none_int (yr I q (by simp))
  |str j=>obtain⟨U,rfl⟩:=Z;exact PySem.EqNone.eq_none_str (yr I q (by simp))
  |_=>exact absurd (show false=true from R) iu
 |bl i =>
  cases rx;cases y with
  |non=>cases Z;exact PySem.EqNone.eq_bool_none (yr I q (by simp))|bl j=>cases Z;exact eq_bool (yr I q aol)|str j=>obtain⟨U,rfl⟩:=Z;exact PySem.EqMixed.eq_bool_str (yr I q (by simp))
  |_=>exact absurd (show false=true from R) iu
 |int i =>
  obtain⟨t,rfl⟩:=rx;cases y with
  |non=>cases Z;exact PySem.EqNone.eq_int_none (yr I q (by simp))|int j=>obtain⟨U,rfl⟩:=Z;exact eq_int (yr I q aht)
  |str j=>obtain⟨U,rfl⟩:=Z;exact PySem.EqMixed.eq_int_str (yr I q (by simp))
  |_=>exact absurd (show false=true from R) iu
 |str i =>
  obtain⟨t,rfl⟩:=rx;cases y with
  |non=>cases Z;exact PySem.EqNone.eq_str_none (yr I q (by simp))|bl j=>cases Z;exact PySem.EqMixed.eq_str_bool (yr I q (by simp))|int j=>obtain⟨U,rfl⟩:=Z;exact PySem.EqMixed.eq_str_int (yr I q (by simp))
  |str j=>obtain⟨U,rfl⟩:=Z;exact eq_str (yr I q ahu)
  |_=>exact absurd (show false=true from R) iu
 |byt i =>
  obtain⟨t,rfl⟩:=rx;cases y with
  |byt j=>obtain⟨U,rfl⟩:=Z;exact PySem.W.eq_bytes (yr I q ahv)
  |_=>exact absurd (show false=true from R) iu
 |_=>cases y<;>exact absurd (show false=true from R) iu
def a75{X:Cx}:De X (compareOp .NotEq) rNe:=by
 intro qq s σ H x y v u Q I rx Z h;obtain⟨R,q⟩:=h;cases x with
 |non =>
  cases rx;cases y with
  |non=>cases Z;exact PySem.EqNone.ne_none_none (yr I q (by simp))|bl j=>cases Z;exact PySem.EqNone.ne_none_bool (yr I q (by simp))|int j=>obtain⟨U,rfl⟩:=Z;exact PySem.EqNone.ne_none_int (yr I q (by simp))
  |str j=>obtain⟨U,rfl⟩:=Z;exact PySem.EqNone.ne_none_str (yr I q (by simp))
  |_=>exact absurd (show false=true from R) iu
 |bl i =>
  cases rx;cases y with
  |non=>cases Z;exact PySem.EqNone.ne_bool_none (yr I q (by simp))|bl j=>cases Z;exact ne_bool (yr I q (nq not aol))|str j=>obtain⟨U,rfl⟩:=Z;exact PySem.EqMixed.ne_bool_str (yr I q (by simp))
  |_=>exact absurd (show false=true from R) iu
 |int i =>
  obtain⟨t,rfl⟩:=rx;cases y with
  |non=>cases Z;exact PySem.EqNone.ne_int_none (yr I q (by simp))|int j=>obtain⟨U,rfl⟩:=Z;exact ne_int (yr I q (nq not aht))
  |str j=>obtain⟨U,rfl⟩:=Z;exact PySem.EqMixed.ne_int_str (yr I q (by simp))
  |_=>exact absurd (show false=true from R) iu
 |str i =>
  obtain⟨t,rfl⟩:=rx;cases y with
  |non=>cases Z;exact PySem.EqNone.ne_str_none (yr I q (by simp))|bl j=>cases Z;exact PySem.EqMixed.ne_str_bool (yr I q (by simp))|int j=>obtain⟨U,rfl⟩:=Z;exact PySem.EqMixed.ne_str_int (yr I q (by simp))
  |str j=>obtain⟨U,rfl⟩:=Z;exact ne_str (yr I q (nq not ahu))
  |_=>exact absurd (show false=true from R) iu
 |byt i =>
  obtain⟨t,rfl⟩:=rx;cases y with
  |byt j=>obtain⟨U,rfl⟩:=Z;exact PySem.W.ne_bytes (yr I q (nq not ahv))
  |_=>exact absurd (show false=true from R) iu
 |_=>cases y<;>exact absurd (show false=true from R) iu
def a76{X:Cx}:De X (compareOp .Lt) (rI0 λi j=>.bl (decide (i<j))):=aun λ_ _ _ _ _ _ _ q=>lt_int q
def a77{X:Cx}:De X (compareOp .LtE) (rI0 λi j=>.bl (decide (i<=j))):=aun λ_ _ _ _ _ _ _ q=>le_int q
def a78{X:Cx}:De X (compareOp .Gt) (rI0 λi j=>.bl (decide (j<i))):=aun λ_ _ _ _ _ _ _ q=>gt_int q
def a79{X:Cx}:De X (compareOp .GtE) (rI0 λi j=>.bl (decide (j<=i))):=aun λ_ _ _ _ _ _ _ q=>ge_int q
def De.or{X:Cx}{f:Value->Value->Sem Value}{r r':R2}(h:De X f r)(h':De X f r'):De X f (λx y H Q=>r x y H Q\/r' x y H Q):=by
 intro Z s σ H x y v u Q I R U q;rcases q with q|q
 .exact h Z s σ H x y v u Q I R U q
 .exact h' Z s σ H x y v u Q I R U q
def auq{X:Cx}{a b:Expr}{ta R:TE}{pos:Pos}{U:CmpOp}{r:R2}(ho:De X (compareOp U) r)(ha:PE X a ta)(hb:PE X b R)(hm:behindInMarks U b=false):PE X (.Compare a [U] [b] pos) (tOp r ta R):=by intro Z s σ H Q I h;exact wpAny_Compare1 (a0x ha hb I h λv u s2 x y H2 I2 rx ry q=>ho Z s2 σ H2 x y v u Q I2 rx ry q) hm
def ax8(t:TE):TT:=λU H Q=>t U H λx Z=>∃k,x=.bl k/\Q k Z
def aur{X:Cx}{a b:Expr}{ta tb:TE}{pos:Pos}{R:CmpOp}{r:R2}(ho:De X (compareOp R) r)(ha:PE X a ta)(hb:PE X b tb)(hm:behindInMarks R b=false):PT X (.Compare a [R] [b] pos) (ax8 (tOp r ta tb)):=by
 intro Z s U H Q I h;refine wpAny_isTrue_Compare1 (Bf (ha Z s U H _ I h) λv s1 ⟨x,H1,I1,r1,q1⟩=>Bf (hb Z s1 U H1 _ I1 q1) λu s2 ⟨y,H2,I2,r2,q2⟩ =>
  Bf (ho Z s2 U H2 x y v u _ I2 r1 r2 q2) λc s3 ⟨z,H3,I3,r3,k,e,q3⟩=>?_) hm
 subst e;cases r3;exact mq ⟨H3,I3,q3⟩
def aai(r r':R2)(ta tb R:TE):TE:=λZ H Q=>ta Z H λx H1=>tb Z H1 λy H2=>r x y H2 λz U=>∃k,z=.bl k /\
 (if k=true then R Z U λw' H4=>r' y w' H4 Q else Q (.bl false) U)
def aom{X:Cx}{a b c:Expr}{ta tb tc:TE}{pos:Pos}{op U:CmpOp}{r r':R2}(ho:De X (compareOp op) r)(qq:De X (compareOp U) r')(ha:PE X a ta)(hb:PE X b tb)(hc:PE X c tc)
 (hm:lastMarks [op,U] [b,c]=false:=by with_unfolding_all rfl):PE X (.Compare a [op,U] [b,c] pos) (aai r r' ta tb tc):=by
 intro Z s R H Q I h;refine Compare_chain (Bf (ha Z s R H _ I h) λv s1 ⟨x,H1,I1,r1,q1⟩=>chain_link (Bf (hb Z s1 R H1 _ I1 q1) λu s2 ⟨y,H2,I2,r2,q2⟩ =>
  Bf (ho Z s2 R H2 x y v u _ I2 r1 r2 q2) λd s3 ⟨z,H3,I3,r3,k,e,q3⟩=>?_)) hm
 subst e;cases r3;refine mq ?_;cases k with
 |false=>exact ite_ff ⟨.bl false,H3,I3,rfl,q3⟩|true=>exact ite_tt (chain_last (Bf (hc Z s3 R H3 _ I3 q3) λw' s4 ⟨z',H4,I4,r4,q4⟩=>qq Z s4 R H4 y z' u w' Q I4 r2 r4 q4))
def aon{X:Cx}{a b c:Expr}{ta tb tc:TE}{pos:Pos}{op U:CmpOp}{r r':R2}(ho:De X (compareOp op) r)(qq:De X (compareOp U) r')(ha:PE X a ta)(hb:PE X b tb)(hc:PE X c tc)
 (hm:lastMarks [op,U] [b,c]=false:=by with_unfolding_all rfl):PT X (.Compare a [op,U] [b,c] pos) (ax8 (aai r r' ta tb tc)):=by
 intro Z s R H Q I h;refine isTrue_chain (Bf (ha Z s R H _ I h) λv s1 ⟨x,H1,I1,r1,q1⟩=>test_link (Bf (hb Z s1 R H1 _ I1 q1) λu s2 ⟨y,H2,I2,r2,q2⟩ =>
  Bf (ho Z s2 R H2 x y v u _ I2 r1 r2 q2) λd s3 ⟨z,H3,I3,r3,k,e,q3⟩=>?_)) hm
 subst e;cases r3;refine mq ?_;cases k with
 |false =>
  obtain⟨k',e',q'⟩:=q3;cases e';exact ite_ff ⟨H3,I3,q'⟩
 |true =>
  refine ite_tt (test_last (Bf (hc Z s3 R H3 _ I3 q3) λw' s4 ⟨z',H4,I4,r4,q4⟩=>Bf (qq Z s4 R H4 y z' u w' _ I4 r2 r4 q4) λd' s5 z_=>?_));obtain⟨z2,H5,I5,r5,k2,e2,q5⟩:=z_;subst e2;cases r5;exact mq ⟨H5,I5,q5⟩
def a8a(K:Fg)(x:V)(H:Hp)(k:Bool):Prop :=
 match x with
 |.non=>k=false|.bl b=>k=b|.int i=>k=(i != 0)|.str y=>y.length<=sizeLine/\k=((y.length:Int) != 0)|.byt y=>y.size<=sizeLine/\k=((y.size:Int) != 0)|.ref p=>(∃U,Gz K H p U/\k=!U.isEmpty)\/(∃U,Ia K H p U/\k=!U.isEmpty)\/∃Z,H p=some (.dK Z)/\k=!Z.isEmpty|_=>False
def afr{R:Type}{Z:List (R×V)}{U:List (R×Value)}(r:KV Z U):(!U.isEmpty)=!Z.isEmpty:=by cases r<;>rfl
def Wg{U:List V}{Z:Zl}(r:Vals U Z):(!Z.toArray.isEmpty)=!U.isEmpty:=by cases r<;>simp
def Wh:(sizeLine:Nat)<2 ^ 63:=by rw[o8];decide
def a05{X:Cx}:be7 X (λx H Q=>∃k,a8a X.K x H k/\Q k H):=by
 intro qq s σ H x v Q I rx h;obtain⟨k,e,q⟩:=h;have hl:=Wh;have hs:sizeLine=16777216:=o8;cases x with
 |non =>
  cases rx;have Z:k=false:=e;subst Z;exact truthy_none ⟨H,I,q⟩
 |bl b =>
  cases rx;have Z:k=b:=e;subst Z;exact mq ⟨H,I,q⟩
 |int i =>
  obtain⟨t,rfl⟩:=rx;have Z:k=(i != 0):=e;subst Z;exact PySem.P.truthy_int ⟨H,I,q⟩
 |str y =>
  obtain⟨t,rfl⟩:=rx;obtain⟨hy,Z⟩:y.length<=sizeLine/\k=((y.length:Int) != 0):=e
  subst Z;exact PySem.P.truthy_str (by lia) ⟨H,I.tok _,q⟩
 |byt y =>
  obtain⟨t,rfl⟩:=rx;obtain⟨hy,Z⟩:y.size<=sizeLine/\k=((y.size:Int) != 0):=e
  subst Z;exact PySem.W.truthy_bytes (a_ hy (a_ (f_ hs) (by decide))) ⟨H,I.tok _,q⟩
 |ref p =>
  cases rx;have Z:(∃xs,Gz X.K H p xs/\k=!xs.isEmpty)\/(∃xs,Ia X.K H p xs/\k=!xs.isEmpty)\/∃U,H p=some (.dK U)/\k=!U.isEmpty:=e;rcases Z with⟨xs,hx,Z⟩|⟨xs,hx,Z⟩|⟨U,hx,Z⟩
  .subst Z
   obtain⟨wj,r,pl,hz⟩:=I.list hx;have R:=r.length;exact wpAny_truthy_list pl.isList (by simp only[gq];lia) ⟨H,I.tok _,by rw[Wg r];exact q⟩
  .subst Z
   obtain⟨wj,r,pl,hz⟩:=I.tuple hx;have R:=r.length;exact truthy_tuple pl (by simp only[gq];lia) ⟨H,I.tok _,by rw[Wg r];exact q⟩
  .subst Z
   obtain⟨hz,hS,vs,r,m⟩:U.length<=sizeLine/\(p==sysModules)=false/\∃vs,KV U vs/\s.heap.DictOf (jh X.prog X.w) p vs:=I.zm p _ hx
   have R:U.length=vs.length:=ue r;exact wpAny_truthy_dict hS m (by lia) ⟨H,I.tok _,by rw[afr r];exact q⟩
 |_=>exact(show False from e).elim
def aoo{X:Cx}{a:Expr}{ta:TE}(ha:PE X a ta)(he:∀Z,isTrue a X.env Z=(do let v <- Z;standAt a.pos;holding [v] (truthy v))) :
 PT X a (λR H Q=>ta R H λx H'=>∃k,a8a X.K x H' k/\Q k H'):=by
 intro U s R H Q I h;exact isTrue_plain (Bf (ha U s R H _ I h) λv s1 ⟨x,H1,I1,r1,q1⟩=>a05 U s1 R H1 x v Q I1 r1 q1) (he _)
def vals1{x:V}{Z:Zl}(r:Vals [x] Z):∃u,Z=[u]/\RelV x u:=by
 cases r with
 |cons R U=>cases U;exact⟨_,rfl,R⟩
def vals2{x y:V}{Z:Zl}(r:Vals [x,y] Z):∃u w',Z=[u,w']/\RelV x u/\RelV y w':=by
 cases r with
 |cons R r2 =>
  cases r2 with
  |cons r3 U=>cases U;exact⟨_,_,rfl,R,r3⟩
def aj7{X:Cx}(hc:X.calm=true):Cy X (.builtin "max") (λU H Q=>∃i j,U=[.int i,.int j]/\Q (.int (if j > i then j else i)) H):=by
 intro R s σ H U us Q I r h;obtain⟨i,j,rfl,q⟩:=h;obtain⟨u,w',rfl,⟨t,rfl⟩,⟨t',rfl⟩⟩:=vals2 r;refine max_two_ints (I.ok.hd hc) λh' tk k=>⟨_,H,I.kept k,?_,q⟩
 by_cases Z:j > i
 .rw[cj Z,cj Z];exact⟨_,rfl⟩
 .rw[bw Z,bw Z];exact⟨_,rfl⟩
def aj8{X:Cx}(hc:X.calm=true):Cy X (.builtin "min") (λU H Q=>∃i j,U=[.int i,.int j]/\Q (.int (if j<i then j else i)) H):=by
 intro R s σ H U us Q I r h;obtain⟨i,j,rfl,q⟩:=h;obtain⟨u,w',rfl,⟨t,rfl⟩,⟨t',rfl⟩⟩:=vals2 r;refine min_two_ints (I.ok.hd hc) λh' tk k=>⟨_,H,I.kept k,?_,q⟩
 by_cases Z:j<i
 .rw[cj Z,cj Z];exact⟨_,rfl⟩
 .rw[bw Z,bw Z];exact⟨_,rfl⟩
end L2
namespace L2
open PySem PySem.Spec PyProof.Rows
structure afs(h:Heap)(x dx C:Addr)(mA:Zs):Prop where
 obj:h.get? x=some (PySem.W.instObj C dx)
 ns:h.Ns1 dx mA
 ne:dx≠x
set_option tactic.hygienic true in
def aj9{h:Heap}{C:Addr}{J:Zs}(n:h.Ns1 C J):∃U,h.get? C=some U/\∀Z,PySem.W.lookIn Z U=some (J Z):=by
 obtain⟨o,G,ep,L,hd,S,_,u⟩:=n;refine⟨o,L,λZ=>?_⟩;have e:=u Z;unfold nsFind findBy at e;rw[<- Array.find?_toList] at e;unfold PySem.W.lookIn;rw[hd];dsimp only;split
 .rename_i y q
  rw[q] at e;exact nq some e
 .rename_i q
  rw[q] at e;have a:G.toList.any (·.refKey)=false:=by rw[List.any_eq_false];intro y R;obtain⟨z,t,Y⟩:=S y (Array.mem_toList_iff.mp R);simp[DictEntry.refKey,Y]
  have a':¬G.toList.any (·.refKey)=true:=by rw[a];exact iu
  rw[bw a'];exact nq some e
def afs.look{h:Heap}{x R C:Addr}{mA:Zs}(I:afs h x R C mA):∃U,PySem.W.InstAt h x (PySem.W.instObj C R) C (some U)/\∀Z,PySem.W.lookIn Z U=some (mA Z) :=
 let ⟨U,ho,hl⟩:=aj9 I.ns
 ⟨U,⟨I.obj,rfl,rfl,ho⟩,hl⟩
def get_map{prog:Program}{w:World}{A:Around}{E:Y1}{s:Shared}{K:Fg}{x dx C:Addr}{mA:Zs}{Z:Str}{v:Value}{U:Bool}{Q:Y1}(X:K.In s.heap)(I:afs s.heap x dx C mA)(hg:PySem.W.plainGet K C Z=true)(hh:PySem.W.hasDictIn K C=true)
 (ha:PySem.W.findIn K (.ref C) Z=some none) (hv:mA Z=some v) (R:PySem.W.handedIn v=true) (h:Q v { s with toks:=s.toks+1 }) :
 wpAny (model prog w) A (getAttr (.ref x) Z U) Q E s:=by
 obtain⟨od,J,hl⟩:=I.look;exact PySem.W.get_value X J (PySem.W.plainGet_of hg).1 (PySem.W.findObj_own hh ha rfl (by rw[hl,hv])) R h
def aop{prog:Program}{w:World}{A:Around}{E:Y1}{s:Shared}{K:Fg}{x dx C f:Addr}{U:Zs}{Z:Str}{pl:Sem Bool}{Q:Value×List Value->Shared->Prop}(X:K.In s.heap)(I:afs s.heap x dx C U)(R:PySem.W.plainGet K C Z=true)
 (hf:PySem.W.findIn K (.ref C) Z=some (some (.ref f))) (ht:PySem.W.isFn K (.ref f)=true) (hv:U Z=none) (h:Q (.ref f,[.ref x]) s) :
 wpAny (model prog w) A (getMethod (.ref x) Z pl) Q E s:=by
 obtain⟨od,J,hl⟩:=I.look;exact PySem.W.method_fn X J (PySem.W.plainGet_of R).1 (PySem.W.plainGet_of R).2 hf (beq_iff_eq.mp ht) (by show(PySem.W.lookIn Z od).map (·.isSome)=some false;rw[hl,hv];rfl) h
def aus{prog:Program}{w:World}{A:Around}{E:Y1}{s:Shared}{K:Fg}{x U C:Addr}{mA:Zs}{Z:Str}{v:Value}{ns:Yf}{Q:Unit->Shared->Prop}(X:K.In s.heap)(I:afs s.heap x U C mA)
 (hs:PySem.W.findIn K (.ref C) "__setattr__" = some (some (.builtin "object.__setattr__"))) (hp:PySem.W.plainOver K C=true) (ht:PySem.W.takerIn K C Z=some none) (hh:PySem.W.hasDictIn K C=true)
 (hw:PySem.Within mA ns) (qv:ns.length<=sizeLine)
 (h:∀h',afs h' x U C (λy=>if y=Z then some v else mA y)->Heap.SameBut U s.heap h'->Q () { s with heap:=h',toks:=s.toks+2 }) :
 wpAny (model prog w) A (setAttr (.ref x) Z v) Q E s:=by
 obtain⟨od,J,hl⟩:=I.look;refine PySem.W.set_plain X J hs (PySem.W.osa_open (s:={ s with toks:=s.toks+1 }) (r:=none) X J hp ht λb=>?_);obtain⟨cd,hc,q0⟩:=PySem.W.any_some hh;have hx:s.heap.get? x=some ⟨.ref C,some U,.plain,#[]⟩:=I.obj;refine aa (aj (aa (aa (wpAny_loadPart hx (aa (PySem.W.Looks.here (s:={ s with toks:=s.toks+1 }) (PySem.W.looks_clsIn X hc) ?_))))));rw[q0];refine aj (a:=some U) (aa (aj (aa ?_)));refine wpAny_nsSet1 (s:={ s with toks:=s.toks+1 }) I.ns λh' Yh R=>?_
 obtain⟨oD,q3,q2,qq,q1,qk⟩:=Yh.count (PySem.Within.cons Z v hw);refine aa (wpAny_lookBehind qq (by rw[q1];exact pastItsLine_dict (gw qk (by rw[gr];exact v_ qv))) ?_);exact aj (h _ ⟨(R.2 _ (ji I.ne)).trans I.obj,Yh,I.ne⟩ R)
def aoq{prog:Program}{w:World}{A:Around}{s:Shared}{K:Fg}{C f:Addr}{R:Result->Shared->Prop}{U:Zl}{kw:List (Str×Value)}(X:K.In s.heap)(hm:PySem.W.makesIn K C=true)
 (hi:PySem.W.findIn K (.ref C) "__init__" = some (some (.ref f))) (hf:PySem.W.typeIn K (.ref f)=some (.type "function"))
 (h:codeAny (model prog w) (A.under (.builtin "type.__call__" ⟨.ref C::U,kw⟩)) (.call (.ref f) ⟨.ref (s.heap.objs.size+1)::U,kw⟩) (PySem.W.InitBack (s.heap.objs.size+1) R)
  { s with heap:=(s.heap.push PySem.W.emptyDict).push (PySem.W.instObj C s.heap.objs.size) }) :
 codeAny (model prog w) A (.call (.ref C) ⟨U,kw⟩) R s:=by
 obtain⟨hh,g,d,t,os⟩:=s;exact PySem.W.make_core (PySem.W.makes_of X hm) (PySem.W.looks_findIn X hi) (λZ=>PySem.W.bind_fn X Z hf) (.inl rfl) h
noncomputable def Ie(f:Str)(v:V):List (Str×V)->List (Str×V)
 |[]=>[(f,v)]|(g,x)::r=>if g=f then(g,v)::r else(g,x)::Ie f v r
theorem Ub(f g:Str)(v:V):∀fs:List (Str×V),(Ie f v fs).lookup g=if g=f then some v else fs.lookup g
 |[]=>by
  show List.lookup g [(f,v)]=_
  by_cases h:g=f
  .have Z:(g==f)=true:=beq_iff_eq.mpr h
   simp only[List.lookup,Z,cj h]
  .have Z:(g==f)=false:=qu.mpr h
   simp only[List.lookup,Z,bw h]
 |(k,x)::r=>by
  have R:=Ub f g v r;rw[show Ie f v ((k,x)::r)=(if k=f then(k,v)::r else(k,x)::Ie f v r) from rfl]
  by_cases U:k=f
  .rw[cj U]
   by_cases h:g=k
   .have Z:(g==k)=true:=beq_iff_eq.mpr h
    simp only[List.lookup,Z,cj (h.trans U)]
   .have Z:(g==k)=false:=qu.mpr h
    simp only[List.lookup,Z,bw (λe:g=f=>h (e.trans U.symm))]
  .rw[bw U]
   by_cases h:g=k
   .have Z:(g==k)=true:=beq_iff_eq.mpr h
    simp only[List.lookup,Z,bw (λe:g=f=>U (h.symm.trans e))]
   .have Z:(g==k)=false:=qu.mpr h
    simp only[List.lookup,Z];exact R
theorem Sy(f:Str)(v:V):∀fs:List (Str×V),f∈(Ie f v fs).map (·.1)/\∀g,g∈fs.map (·.1)->g∈(Ie f v fs).map (·.1)
 |[]=>⟨by simp[Ie],λg h=>by simp at h⟩
 |(k,x)::r=>by
  obtain⟨R,U⟩:=Sy f v r;rw[show Ie f v ((k,x)::r)=(if k=f then(k,v)::r else(k,x)::Ie f v r) from rfl]
  by_cases Z:k=f
  .rw[cj Z]
   subst Z;exact⟨by simp,λg h=>by simpa using h⟩
  .rw[bw Z]
   refine⟨?_,λg h=>?_⟩
   .rw[gh]
    exact bf _ R
   .rw[gh] at h ⊢
    rcases bz.mp h with e|e
    .exact bz.mpr (.inl e)
    .exact bf _ (U g e)
theorem Uc(f:Str)(v:V):∀fs:List (Str×V),(Ie f v fs).length<=fs.length+1
 |[]=>by simp[Ie]
 |(k,x)::r=>by
  have U:=Uc f v r;rw[show Ie f v ((k,x)::r)=(if k=f then(k,v)::r else(k,x)::Ie f v r) from rfl]
  by_cases Z:k=f
  .rw[cj Z,gr,gr];exact x_
  .rw[bw Z,gr,gr];exact v_ U
def Lp.some_of{v:V}{o:Option Value}(r:Lp (some v) o):∃u,o=some u/\RelV v u:=by
 cases o with
 |none=>exact(show False from r).elim
 |some u=>exact⟨u,rfl,r⟩
def Lp.none_of{o:Option Value}(r:Lp none o):o=none:=by
 cases o with
 |none=>rfl|some u=>exact(show False from r).elim
def aka{v:V}{u:Value}(r:RelV v u):PySem.W.handedIn u=true:=by
 cases v with
 |non=>cases(show u=Value.none from r);rfl
 |bl b=>cases(show u=Value.bool b from r);rfl
 |int i=>obtain⟨t,e⟩:=(show ∃t,u=Value.int i t from r);cases e;rfl
 |str x=>obtain⟨t,e⟩:=(show ∃t,u=Value.str x t from r);cases e;rfl
 |byt b=>obtain⟨t,e⟩:=(show ∃t,u=Value.bytes b t from r);cases e;rfl
 |flt b=>obtain⟨t,e⟩:=(show ∃t,u=Value.float b t from r);cases e;rfl
 |ref a=>cases(show u=Value.ref a from r);rfl
 |ty n=>cases(show u=Value.type n from r);rfl
def J2{P:Program}{w:World}{H:Hp}{h:Heap}{a C U:Addr}{fs:List (Str×V)}(zm:Pa P w H h)(e:H a=some (.ins C U fs)):∃Z,afs h a U C Z/\(∀f,Lp (fs.lookup f) (Z f))/\PySem.Within Z (fs.map (·.1))/\fs.length<=1000/\H U=some (.own a):=by obtain⟨d,z,ne,R,Z,n,r,q⟩:=(show Ah P w H h a (.ins C U fs) from zm a _ e);exact⟨Z,⟨R,n,ne⟩,r,q,z,d⟩
structure Cls(K:Fg)(C:Addr):Prop where
 pg:PySem.W.plainGet K C Str.empty=true
 hd:PySem.W.hasDictIn K C=true
 po:PySem.W.plainOver K C=true
 sa:PySem.W.findIn K (.ref C) "__setattr__" = some (some (.builtin "object.__setattr__"))
def Cls.get{K:Fg}{C:Addr}(c:Cls K C)(f:Str):PySem.W.plainGet K C f=true:=c.pg
def Gw(K:Fg)(C:Addr)(f:Str):Prop:=PySem.W.findIn K (.ref C) f=some none
def Gw.taker{K:Fg}{C:Addr}{f:Str}(n:Gw K C f):PySem.W.takerIn K C f=some none:=by unfold PySem.W.takerIn;rw[show PySem.W.findIn K (.ref C) f=some none from n];rfl
structure Meth(K:Fg)(C:Addr)(m:Str)(f:Addr):Prop where
 at_:PySem.W.findIn K (.ref C) m=some (some (.ref f))
 fn:PySem.W.isFn K (.ref f)=true
 kp:PySem.W.keepIn K (.ref f)=true
def aft{X:Cx}{Z:Zp}{R:St}{H:Hp}{s:Shared}{a C dx:Addr}{fs:List (Str×V)}{f:Str}{v:V}{A:Around}{E:Y1}{b:Bool}{Q:Y1}(I:Inv X Z R H s)(e:H a=some (.ins C dx fs))(c:Cls X.K C)(n:Gw X.K C f)(l:fs.lookup f=some v)
 (h:∀u U,Inv X Z R H U->RelV v u->Q u U):wpAny (model X.prog X.w) A (getAttr (.ref a) f b) Q E s:=by
 obtain⟨mA,O,r,_,_,_⟩:=J2 I.zm e;obtain⟨u,hu,ru⟩:=Lp.some_of (v:=v) (o:=mA f) (by rw[<- l];exact r f);exact get_map I.Uy O (c.get f) c.hd n hu (aka ru) (h u _ (I.tok _) ru)
def Wi{X:Cx}{Z:Zp}{σ:St}{H:Hp}{s:Shared}{a C dx:Addr}{fs:List (Str×V)}{A:Around}{E:Y1}{m:Str}{g:Addr}{pl:Sem Bool}{Q:Value×List Value->Shared->Prop}(I:Inv X Z σ H s)(e:H a=some (.ins C dx fs))(c:Cls X.K C)(k:Meth X.K C m g)(l:fs.lookup m=none)
 (h:Q (.ref g,[.ref a]) s):wpAny (model X.prog X.w) A (getMethod (.ref a) m pl) Q E s:=by
 obtain⟨U,O,r,_,_,_⟩:=J2 I.zm e;have R:U m=none:=Lp.none_of (by rw[<- l];exact r m);exact aop I.Uy O (c.get m) k.at_ k.fn R h
def afu{X:Cx}{Z:Zp}{σ:St}{H:Hp}{s:Shared}{a C U:Addr}{fs:List (Str×V)}{f:Str}{A:Around}{E:Y1}{y:V}{u:Value}{Q:Unit->Shared->Prop}(I:Inv X Z σ H s)(e:H a=some (.ins C U fs))(c:Cls X.K C)(n:Gw X.K C f)(hl:fs.length<1000)(ry:RelV y u)
 (h:∀s',Inv X Z σ (upd H a (.ins C U (Ie f y fs))) s'->Q () s'):wpAny (model X.prog X.w) A (setAttr (.ref a) f u) Q E s:=by
 obtain⟨mA,O,r,wi,_,ho⟩:=J2 I.zm e;have hz:(fs.map (·.1)).length<=sizeLine:=by rw[du,o8];exact e_ (b_ hl (by decide))
 refine aus I.Uy O c.sa c.po n.taker c.hd wi hz λh' R sb=>h _ ?_
 have hd:∃o,h'.get? U=some o:=let ⟨o,_,_,e',_⟩:=R.ns;⟨o,e'⟩;refine I.write (x:=a) (e:=U) (by rw[e];exact True.intro) (.inr ho) (λb q hb z=>(sb.2 b hb).trans z) hd ?_;refine⟨by rw[j9 O.ne];exact ho,?_,O.ne,R.obj,_,R.ns,λg=>?_,λg hg=>?_⟩
 .have:=Uc f y fs;exact a_ this hl
 .show Lp ((Ie f y fs).lookup g) (if g=f then some u else mA g)
  rw[Ub]
  by_cases q:g=f
  .rw[cj q,cj q];exact ry
  .rw[bw q,bw q];exact r g
 .by_cases q:g=f
  .rw[q];exact(Sy f y fs).1
  .refine(Sy f y fs).2 g (wi g λz=>hg ?_)
   show(if g=f then some u else mA g)=none;rw[bw q];exact z
def Inv.made{X:Cx}{Z:Zp}{R:St}{H:Hp}{s:Shared}{C:Addr}(I:Inv X Z R H s):Inv X Z R (upd (upd H s.heap.objs.size (.own (s.heap.objs.size+1))) (s.heap.objs.size+1) (.ins C s.heap.objs.size []))
 { s with heap:=(s.heap.push PySem.W.emptyDict).push (PySem.W.instObj C s.heap.objs.size) }:=by
 have U:(s.heap.push PySem.W.emptyDict).get? s.heap.objs.size=some PySem.W.emptyDict:=bu s.heap rfl;have e2:((s.heap.push PySem.W.emptyDict).push (PySem.W.instObj C s.heap.objs.size)).get? (s.heap.objs.size+1)=some (PySem.W.instObj C s.heap.objs.size):=by
  have:=bu (s.heap.push PySem.W.emptyDict) (o:=PySem.W.instObj C s.heap.objs.size) rfl
  rwa [iz] at this
 have e3:(s.heap.push PySem.W.emptyDict).Ns s.heap.objs.size (λ_=>none):=⟨PySem.W.emptyDict,#[],_,U,rfl,(λe he=>absurd he (by simp)),λ_=>rfl⟩;have I1:=I.laid (a:=s.heap.objs.size) (o:=.own (s.heap.objs.size+1)) (h':=s.heap.push PySem.W.emptyDict) (t':=s.toks) (λb u q=>ao _ q) (bc _) ⟨_,U⟩;refine I1.laid (a:=s.heap.objs.size+1) (o:=.ins C s.heap.objs.size []) (t':=s.toks) (λb u q=>ao _ q) (Nat.le_of_eq (iz _ _)) ?_;have ne:s.heap.objs.size≠s.heap.objs.size+1:=gf (qd _);refine⟨by rw[j9 ne,rz],jr _,ne,e2,λ_=>none,(Heap.Ns1.of_empty e3).at λo q=>ao _ q,λ_=>True.intro,λy hy=>absurd rfl hy⟩
def aut{A:Around}{E:Y1}{prog:Program}{w:World}{Z:Env}{e:Expr}{f:Str}{pos:Pos}{s:Shared}{Q:Y1}(R:attributeBase e f Z (eval e Z)=eval e Z)
 (h:wpAny (model prog w) A (eval e Z) (λo U=>wpAny (model prog w) A (getAttr o f true) Q E U) E s):wpAny (model prog w) A (eval (.Attribute e f pos) Z) Q E s :=
 Attribute_any_ h (by rw[arm_eval_Attribute,R])
def bfa(K:Fg)(ta:TE)(f:Str):TE:=λR H Q=>ta R H λx Z=>∃a C U fs v,x=.ref a/\Z a=some (.ins C U fs)/\Cls K C/\Gw K C f/\fs.lookup f=some v/\Q v Z
def bfb(K:Fg)(ta tv:TE)(f:Str):TS:=λD Z H=>tv Z H λy H1=>ta Z H1 λx R=>∃a C U fs,x=.ref a/\R a=some (.ins C U fs)/\Cls K C/\Gw K C f/\fs.length<1000 /\
 D.nx Z (upd R a (.ins C U (Ie f y fs)))
def a06{X:Cx}{e:Expr}{f:Str}{pos:Pos}{U:TE}(he:PE X e U)(hb:attributeBase e f X.env (eval e X.env)=eval e X.env):PE X (.Attribute e f pos) (bfa X.K U f):=by intro Z s σ H Q I h;refine aut hb (Bf (he Z s σ H _ I h) λu s1 z_=>?_);obtain⟨x,H1,I1,rx,a,C,dx,fs,v,ex,R,c,n,l,q⟩:=z_;subst ex;obtain rfl:u=Value.ref a:=rx;exact aft I1 R c n l λu' s2 I2 ru=>⟨v,H1,I2,ru,q⟩
def a07{X:Cx}{o Z:Expr}{f:Str}{pos U:Pos}{ta tv:TE}(ha:PE X o ta)(hv:PE X Z tv)(hs:swapsWith Z (some (.Attribute o f U)) pos.line X.env=pure false):PS X (.Assign [.Attribute o f U] Z pos) (bfb X.K ta tv f):=by intro R s σ H D I h;refine plainObj_wpAny_Assign_Attribute (Bf (hv R s σ H _ I h) λu s1 ⟨y,H1,I1,ry,q⟩=>Bf (ha R s1 σ H1 _ I1 q) λov s2 ⟨x,H2,I2,rx,a,C,dx,fs,ex,ea,c,n,l,q2⟩=>?_) hs;subst ex;obtain rfl:ov=Value.ref a:=rx;exact afu I2 ea c n l ry λs3 I3=>⟨σ,_,I3,q2⟩
inductive U0(K:Fg)(H:Hp):V->Value->Prop where
 |non:U0 K H .non (.type "NoneType")
 |bl (x:Bool):U0 K H (.bl x) (.type "bool")
 |int (i:Int):U0 K H (.int i) (.type "int")
 |str (x:Str):U0 K H (.str x) (.type "str")
 |flt (x:UInt64):U0 K H (.flt x) (.type "float")
 |lst {a:Addr} {xs:List V} (e:H a=some (.lst xs)):U0 K H (.ref a) (.type "list")
 |Hz {a:Addr} {o:Obj} {xs:List V} (e:H a=some (.Hz o (.lst xs))):U0 K H (.ref a) (.type "list")
 |tup {a:Addr} {xs:List V} (e:H a=some (.tup xs)):U0 K H (.ref a) (.type "tuple")
 |dK {a:Addr} {kvs:List (Key×V)} (e:H a=some (.dK kvs)):U0 K H (.ref a) (.type "dict")
 |dT {a:Addr} {kvs:List (List Key×V)} (e:H a=some (.dT kvs)):U0 K H (.ref a) (.type "dict")
 |ins {a C dx:Addr} {fs:List (Str×V)} (e:H a=some (.ins C dx fs)) (cl:Cls K C) (ha:PySem.W.findIn K (.ref C) "__class__" = some (some (.builtin "object.__class__")))
  (hn:PySem.W.specialIn K (.builtin "object.__class__") "__get__" = some (some (.builtin "getset_descriptor.__get__"))) (htk:PySem.W.takesIn K (.builtin "object.__class__")=some true)
  (hm:PySem.W.mroIn K C (.type "object")=some true):U0 K H (.ref a) (.ref C)
def akb{X:Cx}{qq:Zp}{σ:St}{H:Hp}{s:Shared}{A:Around}{E Q:Y1}{c:Value}{b:Bool}{x:V}{u t:Value}(I:Inv X qq σ H s)(Z:RelV x u)(ty:U0 X.K H x t)(e:PySem.W.kitOne X.K t c=some b)(h:∀tk,Q (.bool b) { s with toks:=tk }) :
 wpAny (model X.prog X.w) A (call (.builtin "isinstance") [u,c]) Q E s:=by
 cases ty with
 |non=>cases(show u=Value.none from Z);exact qz PySem.W.kitx_none I.Uy True.intro e (λz=>nomatch z) h
 |bl y=>cases(show u=Value.bool y from Z);exact qz PySem.W.kitx_bool I.Uy True.intro e (λz=>nomatch z) h
 |int i=>obtain⟨t,q⟩:=(show ∃t,u=Value.int i t from Z);cases q;exact qz PySem.W.kitx_int I.Uy True.intro e (λz=>nomatch z) h
 |str y=>obtain⟨t,q⟩:=(show ∃t,u=Value.str y t from Z);cases q;exact qz PySem.W.kitx_str I.Uy True.intro e (λz=>nomatch z) h
 |flt y=>obtain⟨t,q⟩:=(show ∃t,u=Value.float y t from Z);cases q;exact qz PySem.W.kitx_float I.Uy True.intro e (λz=>nomatch z) h
 |@lst a R ea =>
  cases(show u=Value.ref a from Z);obtain⟨_,_,n,_,U⟩:=(show Ah X.prog X.w H s.heap a (.lst R) from I.zm a _ ea);exact qz PySem.W.kitx_list I.Uy ⟨_,U,rfl⟩ e (λz=>nomatch z) h
 |@Hz a ob R ea =>
  cases(show u=Value.ref a from Z);obtain⟨_,_,_,n,_,U⟩:=(show Ah X.prog X.w H s.heap a (.Hz ob (.lst R)) from I.zm a _ ea);exact qz PySem.W.kitx_list I.Uy ⟨_,U,rfl⟩ e (λz=>nomatch z) h
 |@tup a R ea =>
  cases(show u=Value.ref a from Z);obtain⟨_,_,_,p⟩:=(show Ah X.prog X.w H s.heap a (.tup R) from I.zm a _ ea);obtain⟨o,U,h2,_⟩:=p;exact qz PySem.W.kitx_tuple I.Uy ⟨o,U,h2⟩ e (λz=>nomatch z) h
 |@dK a kvs ea =>
  cases(show u=Value.ref a from Z);obtain⟨_,_,vs,_,p⟩:=(show Ah X.prog X.w H s.heap a (.dK kvs) from I.zm a _ ea);obtain⟨o,es,ep,U,h2,_⟩:=p;exact qz PySem.W.kitx_dict I.Uy ⟨o,U,h2.1⟩ e (λz=>nomatch z) h
 |@dT a kvs ea =>
  cases(show u=Value.ref a from Z);obtain⟨_,_,R,_,o,es,ep,U,h2,_⟩:=(show Ah X.prog X.w H s.heap a (.dT kvs) from I.zm a _ ea);exact qz PySem.W.kitx_dict I.Uy ⟨o,U,h2.1⟩ e (λz=>nomatch z) h
 |@ins a C dx fs ea cl ha hn htk hm =>
  cases(show u=Value.ref a from Z);obtain⟨mA,O,_⟩:=J2 I.zm ea;obtain⟨od,J,_⟩:=O.look;exact qz (PySem.W.kitx_own (cl.get _) cl.hd ha hn htk hm) I.Uy J e (λz=>nomatch z) h
end L2
namespace L2
open PySem PySem.Spec PyProof.Rows
structure Af(k:Nat)(A:Around):Prop where
 hd:A.handled=none
 dp:A.depth+3*k+5<recursionLimit
 un:A.units+16*k+200<cLine
def Af.mono{j k:Nat}{A:Around}(r:Af k A)(h:j<=k):Af j A:=⟨r.hd,by have:=r.dp;lia,by have:=r.un;lia⟩
theorem Af.deeper{k:Nat}{A:Around}(r:Af (k+1) A)(Z:Env):Af k (A.deeper Z) :=
 ⟨r.hd,by have:=r.dp;show A.depth+1+3*k+5<_;lia,by have:=r.un;show A.units+3+16*k+200<_;lia⟩
theorem Af.in1{k:Nat}{A:Around}(r:Af (k+1) A):Af k A.in1 :=
 ⟨r.hd,by have:=r.dp;show A.depth+3*k+5<_;lia,by have:=r.un;show A.units+1+16*k+200<_;lia⟩
def afv{A:Around}{C:Addr}{U:Zl}{Z:List (Str×Value)}:(A.under (.builtin "type.__call__" ⟨.ref C::U,Z⟩)).depth=A.depth+1:=by first|rfl|simp[Around.under,Code.weight,Code.isCreation,Code.isGuard,Code.isCaller,Code.frames,Code.isFrame,guardIds]
def afw{A:Around}{C:Addr}{U:Zl}{Z:List (Str×Value)}:(A.under (.builtin "type.__call__" ⟨.ref C::U,Z⟩)).units=A.units+1:=by first|rfl|simp[Around.under,Code.cUnits,Code.frames,Code.isFrame]
def Af.make{k:Nat}{A:Around}(r:Af (k+1) A)(C:Addr)(U:Zl)(Z:List (Str×Value)):Af k (A.under (.builtin "type.__call__" ⟨.ref C::U,Z⟩)) :=
 ⟨r.hd,by have:=r.dp;rw[afv];lia,by have:=r.un;rw[afw];lia⟩
theorem Af.depth{k:Nat}{A:Around}(r:Af k A):A.depth<recursionLimit:=by have:=r.dp;lia
theorem Af.units{k:Nat}{A:Around}(r:Af k A):A.units+64<cLine:=by have:=r.un;lia
def Af.Wj{k:Nat}{A:Around}(r:Af k A):A.units<cLine:=by have:=r.un;lia
def a8b:TA:=λ_ H Q=>Q [] H
def a8c(ta:TE)(tr:TA):TA:=λZ H Q=>ta Z H λx U=>tr Z U λR H2=>Q (x::R) H2
def a08{X:Cx}:PA X [] a8b:=λ_ _ _ _ H Q I h=>w5 ⟨[],H,I,.nil,h⟩
def auu{X:Cx}{e:Expr}{U:Ya}{R:TE}{t:TA}(ha:PE X e R)(hr:PA X U t)(hs:starEach (e::U) X.env=(false,eval e X.env)::starEach U X.env:=by rfl):PA X (e::U) (a8c R t):=by intro pos Z s σ H Q I h;rw[hs];show wpAny _ _ (spliced ((false,eval e X.env)::backTo pos (starEach U X.env))) _ _ s;refine um (Bf (ha Z s σ H _ I h) λu s1 z_=>?_);obtain⟨x,H1,I1,r1,q1⟩:=z_;exact Bf (hr pos Z s1 σ H1 _ I1 q1) λus s2 ⟨xs,H2,I2,r2,q2⟩=>⟨x::xs,H2,I2,.cons r1 r2,q2⟩
def bfc(t:TA):TE:=λR H Q=>t R H λU Z=>U.length<=sizeLine/\∀p,Z p=none->Q (.ref p) (upd Z p (.tup U))
def bfd(t:TA):TE:=λR H Q=>t R H λU Z=>U.length<=sizeLine/\∀p,Z p=none->Q (.ref p) (upd Z p (.lst U))
def a09{X:Cx}{R:Ya}{t:TA}{pos:Pos}{x1}(h:PA X R t):PE X (.Tuple R x1 pos) (bfc t):=by intro Z s σ H Q I hq;refine wpAny_Tuple_spliced (Bf (h pos Z s σ H _ I hq) λus U ⟨xs,H1,I1,r,z,q⟩=>⟨by rw[<- r.length];exact z,?_⟩);have hf:H1 U.heap.objs.size=none:=I1.zm.fresh (bc _);refine⟨.ref U.heap.objs.size,upd H1 U.heap.objs.size (.tup xs),I1.laid (t':=U.toks) (λb u e=>ao _ e) (bc _) ?_,rfl,q _ hf⟩;exact⟨z,us,r,Xz.new _ _⟩
def aor{X:Cx}{R:Ya}{t:TA}{pos:Pos}(h:PA X R t):PE X (.List R pos) (bfd t):=by intro Z s σ H Q I hq;refine wpAny_List_spliced (Bf (h pos Z s σ H _ I hq) λus U ⟨xs,H1,I1,r,z,q⟩=>⟨by rw[<- r.length];exact z,?_⟩);have hf:H1 U.heap.objs.size=none:=I1.zm.fresh (bc _);refine⟨.ref U.heap.objs.size,upd H1 U.heap.objs.size (.lst xs),I1.laid (t':=U.toks) (λb u e=>ao _ e) (bc _) ?_,rfl,q _ hf⟩;exact⟨z,us,0,r,bu _ rfl⟩
abbrev Sp:=List V->Hp->VK->XK->Prop
abbrev CXT:=List Env->Hp->Shared->XK->Value->Shared->Prop
structure afy(P:Program)(w:World)(K:Fg)(mg:Zs)(base:Heap)(A:Around)(outer:List Env)(s:Shared)(H:Hp):Prop where
 frames:A.frames=some outer
 mod:Mod K mg base
 bs:∀b o,base.get? b=some o->s.heap.get? b=some o/\H b=none
 bsz:base.objs.size<=s.heap.objs.size
 Ux:s.heap.FunFrames base outer
 frf:∀b∈frs outer,H b=none
 zm:Pa P w H s.heap
 bare:AllBare s.gens
def CE(Z:List Env)(P:Program)(w:World)(H:Hp)(s:Shared)(Q:VK)(u:Value)(U:Shared):Prop :=
 ∃v R,U.os=s.os/\AllBare U.gens/\Un (frs Z) [] H R s.heap U.heap/\Pa P w R U.heap/\RelV v u/\Q v R
def CR(R:CXT)(Z:List Env)(P:Program)(w:World)(H:Hp)(s:Shared)(Q:VK)(E:XK)(r:Result)(U:Shared):Prop :=
 match r with
 |.ok (.ret u)=>CE Z P w H s Q u U|.ok _=>False|.error e=>R Z H s E e U
structure Fj(P:Program)(w:World)(K:Fg)(mg:Zs)(base:Heap)(CX:CXT)(k:Nat)(f:Addr)(fd:FuncData)(ps:Yf)(sp:Sp):Prop where
 len:∀vs H Q E,sp vs H Q E->vs.length=ps.length
 run:∀(A:Around)(outer:List Env)(s:Shared)(H:Hp)(args:Args)(us:Zl)(vs:List V)(Q:VK)(E:XK),Af k A->afy P w K mg base A outer s H->BindsTo s fd args (ps.zip us)->Vals vs us->sp vs H Q E ->
  codeAny (model P w) A (.call (.ref f) args) (CR CX outer P w H s Q E) s
def Fj.imp{P:Program}{w:World}{K:Fg}{mg:Zs}{Z:Heap}{CX:CXT}{k:Nat}{f:Addr}{fd:FuncData}{ps:Yf}{sp sp':Sp}(F:Fj P w K mg Z CX k f fd ps sp)
 (h:∀R H Q E,sp' R H Q E->sp R H Q E):Fj P w K mg Z CX k f fd ps sp' :=
 ⟨λR H Q E q=>F.len R H Q E (h _ _ _ _ q),λA U s H qq us R Q E hr he hb hv hs=>F.run A U s H qq us R Q E hr he hb hv (h _ _ _ _ hs)⟩
def afy.make{P:Program}{w:World}{K:Fg}{mg:Zs}{U:Heap}{A:Around}{Z:List Env}{s:Shared}{H:Hp}(e:afy P w K mg U A Z s H)(C:Addr)(us:Zl)(R:List (Str×Value)) :
 afy P w K mg U (A.under (.builtin "type.__call__" ⟨.ref C::us,R⟩)) Z s H:=⟨by first|exact e.frames|(simpa[Around.under,Code.envs,Code.isFrame,pushEnvs] using e.frames),e.mod,e.bs,e.bsz,e.Ux,e.frf,e.zm,e.bare⟩
def Inv.env0{X:Cx}{Z:Zp}{U:St}{H:Hp}{s:Shared}(I:Inv X Z U H s):afy X.prog X.w X.K X.mg X.base X.A X.stack s H :=
 ⟨I.ok.frames,I.ok.mod,I.bs,gw I.ok.bsz I.sz,I.stack,I.ahp,I.zm,I.bare⟩
def Inv.after{X:Cx}{Z:Zp}{σ:St}{H:Hp}{s s':Shared}{Q:VK}{u:Value}(I:Inv X Z σ H s)(h:CE X.stack X.prog X.w H s Q u s'):EP X Z σ Q u s':=by obtain⟨v,H',os,U,un,zm,r,q⟩:=h;obtain⟨hh,g,d,t,R⟩:=s';obtain rfl:R=s.os:=os;exact⟨v,H',I.call (h':=hh) (g':=g) (d':=d) (t':=t) (ch:=[]) un zm U (λb z=>absurd z (by simp)),r,q⟩
def a8d(R:Sp)(Z:List V)(E:XK)(t:TA):TE:=fun σ H Q=>t σ H λvs U=>R (vs++Z) U Q E
def ax9(C:Addr)(m:Str)(sp:Sp)(R:List V)(E:XK)(ta:TE)(t:TA):TE:=λU H Q=>ta U H λx Z=>∃a dx fs,x=.ref a/\Z a=some (.ins C dx fs)/\fs.lookup m=none /\
 t U Z λvs H2=>sp (x::(vs++R)) H2 Q E
def a8e(C:Addr)(sp:Sp)(R:List V)(E:XK)(t:TA):TE:=fun σ H Q=>t σ H λvs U=>∀x Z,U x=none->U Z=none->Z≠x ->
 sp (.ref x::(vs++R)) (upd (upd U Z (.own x)) x (.ins C Z [])) (λv H2=>v=.non/\Q (.ref x) H2) E
def Binds(K:Fg)(fd:FuncData)(R:Yf)(U:Zl):Prop :=
 ∀(s:Shared)(Z:Zl),K.In s.heap->(Z++U).length=R.length->BindsTo s fd ⟨Z,[]⟩ (R.zip (Z++U))
def Binds.all{K:Fg}{fd:FuncData}{U:Yf}(h:∀Z:List Value,Z.length=U.length->bindArgs fd ⟨Z,[]⟩=pure (U.zip Z)):Binds K fd U []:=λs Z _ R=>by rw[Ab] at R ⊢;exact .of_eq (h Z R)
def Passes(R:CXT)(X:Cx)(E:XK):Prop:=∀(Z:Zp)(σ:St)(H:Hp)(s:Shared)(e:Value)(U:Shared),Inv X Z σ H s->R X.stack H s E e U->X.xe e U
def afz{X:Cx}{CX:CXT}{k:Nat}{f:Addr}{fd:FuncData}{ps:Yf}{sp:Sp}{Ud:List V}{R:Zl}{E:XK}{Z:Zp}{σ:St}{H:Hp}{s:Shared}{Q:VK}{us:Zl}{vs:List V}(F:Fj X.prog X.w X.K X.mg X.base CX k f fd ps sp)(hr:Af k X.A)(hb:Binds X.K fd ps R)(hd:Vals Ud R)(hx:Passes CX X E)
 (I:Inv X Z σ H s) (r:Vals vs us) (h:sp (vs++Ud) H Q E):wpAny (model X.prog X.w) X.A (call (.ref f) us) (EP X Z σ Q) X.xe s:=by
 have r2:Vals (vs++Ud) (us++R):=r.append hd;have hl:(us++R).length=ps.length:=by rw[<- r2.length];exact F.len _ _ _ _ h
 refine wpAny_call (v7 (F.run X.A X.stack s H ⟨us,[]⟩ (us++R) (vs++Ud) Q E hr I.env0 (hb s us I.Uy hl) r2 h) λr s' U=>?_);cases r with
 |error e=>exact hx Z σ H s e s' I U
 |ok fl =>
  cases fl with
  |ret u=>exact I.after U|next=>exact False.elim U|brk=>exact False.elim U|cont=>exact False.elim U
def auv{X:Cx}{CX:CXT}{k:Nat}{f:Addr}{fd:FuncData}{ps:Yf}{sp:Sp}{R:List V}{ds:Zl}{E:XK}{x:Str}{p pos:Pos}{e:Expr}{U:Ya}{t:TA}(F:Fj X.prog X.w X.K X.mg X.base CX k f fd ps sp)(hr:Af k X.A)(hg:Gl X x)(hm:X.mg x=some (.ref f))(hk:PySem.W.keepIn X.K (.ref f)=true)(hb:Binds X.K fd ps ds)(hd:Vals R ds)(hx:Passes CX X E)
 (ha:PA X (e::U) t) (Ue:(x==("__debug__" : Str))=false:=by decide) (he:starEach (e::U) X.env=(false,eval e X.env)::starEach U X.env:=by rfl) (Hy:(backTo pos (starEach U X.env)).any (·.1)=false:=by rfl) :
 PE X (.Call (.Name x p) (e::U) [] pos) (a8d sp R E t):=by
 intro Z s σ H Q I h;refine je (aag I hg hm ?_ Ue);refine PySem.W.callWith_K (h₀:=X.base) I.ok.mod.kin hk (Bf (ha pos Z s σ H _ I h) λus s1 ⟨vs,H1,I1,r,q⟩=>⟨I1.Uy,?_⟩) he Hy;exact afz F hr hb hd hx I1 r q
def auw{X:Cx}{CX:CXT}{k:Nat}{f C:Addr}{fd:FuncData}{ps:Yf}{sp:Sp}{Ud:List V}{ds:Zl}{E:XK}{m:Str}{pos Z:Pos}{e o:Expr}{R:Ya}{ta:TE}{t:TA}{pl:Sem Bool}(he:PE X o ta)(c:Cls X.K C)(hm:Meth X.K C m f)(F:Fj X.prog X.w X.K X.mg X.base CX k f fd ps sp)(hr:Af k X.A)(hb:Binds X.K fd ps ds)(hd:Vals Ud ds)(hx:Passes CX X E)(ha:PA X (e::R) t)
 (Us:starEach (e::R) X.env=(false,eval e X.env)::starEach R X.env:=by rfl) (Hy:(backTo pos (starEach R X.env)).any (·.1)=false:=by rfl)
 (ht:eval (.Call (.Attribute o m Z) (e::R) [] pos) X.env=(do
  let ov <- eval o X.env
  standAt Z.atName
  let (f,first) <- holding [ov] (getMethod ov m pl)
  callWith pos f first (backTo pos (starEach (e::R) X.env)) (backToKw pos (keywordEach [] X.env))):=by rfl) :
 PE X (.Call (.Attribute o m Z) (e::R) [] pos) (ax9 C m sp Ud E ta t):=by
 intro U s σ H Q I h;refine PySem.W.methodCall_KW (pl:=pl) (Bf (he U s σ H _ I h) λu s1 ⟨x,H1,I1,rx,a,dx,fs,ex,ea,l,q⟩=>?_) ht;subst ex;obtain rfl:u=Value.ref a:=rx;refine Wi I1 ea c hm l ?_;refine PySem.W.callWith_K (first:=[.ref a]) (h₀:=X.base) I.ok.mod.kin hm.kp (Bf (ha pos U s1 σ H1 _ I1 q) λus s2 ⟨vs,H2,I2,r,q2⟩=>⟨I2.Uy,?_⟩) Us Hy;exact afz (us:=.ref a::us) (vs:=.ref a::vs) F hr hb hd hx I2 (.cons rfl r) q2
def aos{X:Cx}{CX:CXT}{k:Nat}{f C:Addr}{fd:FuncData}{ps:Yf}{sp:Sp}{R:List V}{ds:Zl}{E:XK}{m:Str}{pos Z:Pos}{o:Expr}{ta:TE}{pl:Sem Bool}(he:PE X o ta)(c:Cls X.K C)(hm:Meth X.K C m f)(F:Fj X.prog X.w X.K X.mg X.base CX k f fd ps sp)(hr:Af k X.A)(hb:Binds X.K fd ps ds)(hd:Vals R ds)(hx:Passes CX X E)
 (ht:eval (.Call (.Attribute o m Z) [] [] pos) X.env=(do
  let ov <- eval o X.env
  standAt Z.atName
  let (f,first) <- holding [ov] (getMethod ov m pl)
  callWith pos f first (backTo pos (starEach [] X.env)) (backToKw pos (keywordEach [] X.env))):=by rfl) :
 PE X (.Call (.Attribute o m Z) [] [] pos) (ax9 C m sp R E ta a8b):=by
 intro U s σ H Q I h;refine PySem.W.methodCall_KW (pl:=pl) (Bf (he U s σ H _ I h) λu s1 ⟨x,H1,I1,rx,a,dx,fs,ex,ea,l,q⟩=>?_) ht;subst ex;obtain rfl:u=Value.ref a:=rx;refine Wi I1 ea c hm l ?_;exact PySem.W.callWith_K0 (first:=[.ref a]) I1.Uy hm.kp (afz (us:=[.ref a]) (vs:=[.ref a]) F hr hb hd hx I1 (.cons rfl .nil) q)
structure Mk(K:Fg)(C f:Addr):Prop where
 makes:PySem.W.makesIn K C=true
 init:PySem.W.findIn K (.ref C) "__init__" = some (some (.ref f))
 fn:PySem.W.isFn K (.ref f)=true
 kp:PySem.W.keepIn K (.ref C)=true
def aot{X:Cx}{CX:CXT}{k:Nat}{f C:Addr}{fd:FuncData}{ps:Yf}{sp:Sp}{Ud:List V}{ds:Zl}{E:XK}{U:Zp}{σ:St}{H:Hp}{s:Shared}{Q:VK}{R:Zl}{vs:List V}(M:Mk X.K C f)(F:Fj X.prog X.w X.K X.mg X.base CX k f fd ps sp)(hr:Af (k+1) X.A)(hb:Binds X.K fd ps ds)(hd:Vals Ud ds)
 (hx:Passes CX X E) (I:Inv X U σ H s) (r:Vals vs R)
 (h:∀x dx,H x=none->H dx=none->dx≠x->sp (.ref x::(vs++Ud)) (upd (upd H dx (.own x)) x (.ins C dx [])) (λv H2=>v=.non/\Q (.ref x) H2) E) :
 wpAny (model X.prog X.w) X.A (call (.ref C) R) (EP X U σ Q) X.xe s:=by
 have hq:=h (s.heap.objs.size+1) s.heap.objs.size (I.zm.fresh (vh _)) (I.zm.fresh (bc _)) (gf (qd _));have I2:=Inv.made (C:=C) I;have r2:Vals (V.ref (s.heap.objs.size+1)::(vs++Ud)) (Value.ref (s.heap.objs.size+1)::(R++ds)):=.cons rfl (r.append hd);have hl:(Value.ref (s.heap.objs.size+1)::R++ds).length=ps.length:=by have e:=r2.length;rw[F.len _ _ _ _ hq] at e;exact e.symm
 refine wpAny_call (aoq (f:=f) I.Uy M.makes M.init (beq_iff_eq.mp M.fn) (v7 (F.run _ X.stack _ _ ⟨Value.ref (s.heap.objs.size+1)::R,[]⟩ (Value.ref (s.heap.objs.size+1)::(R++ds)) _ _ E (hr.make C R [])
  (I2.env0.make C R []) (hb _ (Value.ref (s.heap.objs.size+1)::R) I2.Uy hl) r2 hq) λr s' Z=>?_))
 cases r with
 |error e=>exact hx U σ _ _ e s' I2 Z
 |ok fl =>
  cases fl with
  |ret u =>
   obtain⟨v,H',I3,rv,ev,q3⟩:=I2.after Z;subst ev;exact⟨rv,⟨V.ref (s.heap.objs.size+1),H',I3,rfl,q3⟩⟩
  |next=>exact False.elim Z|brk=>exact False.elim Z|cont=>exact False.elim Z
def auy{X:Cx}{CX:CXT}{k:Nat}{f C:Addr}{fd:FuncData}{ps:Yf}{sp:Sp}{R:List V}{ds:Zl}{E:XK}{x:Str}{p pos:Pos}{e:Expr}{U:Ya}{t:TA}(M:Mk X.K C f)(F:Fj X.prog X.w X.K X.mg X.base CX k f fd ps sp)(hr:Af (k+1) X.A)(hg:Gl X x)(hm:X.mg x=some (.ref C))(hb:Binds X.K fd ps ds)(hd:Vals R ds)(hx:Passes CX X E)
 (ha:PA X (e::U) t) (Ue:(x==("__debug__" : Str))=false:=by decide) (he:starEach (e::U) X.env=(false,eval e X.env)::starEach U X.env:=by rfl) (Hy:(backTo pos (starEach U X.env)).any (·.1)=false:=by rfl) :
 PE X (.Call (.Name x p) (e::U) [] pos) (a8e C sp R E t):=by
 intro Z s σ H Q I h;refine je (aag I hg hm ?_ Ue);refine PySem.W.callWith_K (h₀:=X.base) I.ok.mod.kin M.kp (Bf (ha pos Z s σ H _ I h) λus s1 ⟨vs,H1,I1,r,q⟩=>⟨I1.Uy,?_⟩) he Hy;exact aot M F hr hb hd hx I1 r q
structure Vc(N P:Yf)(sc:Scope):Prop where
 kind:sc.kind=.function
 co:sc.isCoroutine=false
 gen:sc.isGenerator=false
 nd:N.Nodup
 pre:N.take P.length=P
 par:∀x∈P,sc.names.lookup x=some .local\/sc.names.lookup x=some .cell
 a1b:∀y∈sc.names,y.2≠.free
theorem Yu{Z:Str->Option NameKind}{x:Str}:∀{binds:List (Str×Value)}{m:Zs},(∀v,(x,v)∉binds)->bindL Z binds m x=m x
 |[],_,_=>rfl
 |(n,v)::r,m,h=>by
  unfold bindL;rw[Yu λw U=>h w (bf _ U)];split
  .have:x≠n:=by rintro rfl;exact h v cz
   simp[this]
  .rfl
theorem Yv{Z:Str->Option NameKind}{x:Str}:∀{binds:List (Str×Value)}{m:Zs},(∀v,(x,v)∉binds)->bindC Z binds m x=m x
 |[],_,_=>rfl
 |(n,v)::r,m,h=>by
  unfold bindC;rw[Yv λw U=>h w (bf _ U)];split
  .rfl
  .have:x≠n:=by rintro rfl;exact h v cz
   simp[this]
theorem Yw{Z:Str->Option NameKind}{x:Str}{v:Value}:∀{P:Yf}{U:Zl}{i:Nat}{m:Zs},P.Nodup->P[i]?=some x->U[i]?=some v->Z x=some .local ->
 bindL Z (P.zip U) m x=some v
 |[],_,_,_,_,h,_,_=>by simp at h|_::_,[],_,_,_,_,h,_=>by simp at h
 |p::P,w::U,0,m,nd,h1,h2,hk=>by
  simp at h1 h2;subst h1;subst h2;show bindL Z ((p,w)::P.zip U) m p=_;unfold bindL;rw[Yu λv R=>(qp.mp nd).1 (List.of_mem_zip R).1,cj hk];simp
 |p::P,w::U,i+1,m,nd,h1,h2,hk=>by
  show bindL Z ((p,w)::P.zip U) m x=_;unfold bindL;exact Yw (i:=i) (qp.mp nd).2 (by simpa using h1) (by simpa using h2) hk
theorem Yx{Z:Str->Option NameKind}{x:Str}{v:Value}:∀{P:Yf}{U:Zl}{i:Nat}{m:Zs},P.Nodup->P[i]?=some x->U[i]?=some v->Z x≠some .local ->
 bindC Z (P.zip U) m x=some v
 |[],_,_,_,_,h,_,_=>by simp at h|_::_,[],_,_,_,_,h,_=>by simp at h
 |p::P,w::U,0,m,nd,h1,h2,hk=>by
  simp at h1 h2;subst h1;subst h2;show bindC Z ((p,w)::P.zip U) m p=_;unfold bindC;rw[Yv λv R=>(qp.mp nd).1 (List.of_mem_zip R).1,bw hk];simp
 |p::P,w::U,i+1,m,nd,h1,h2,hk=>by
  show bindC Z ((p,w)::P.zip U) m x=_;unfold bindC;exact Yx (i:=i) (qp.mp nd).2 (by simpa using h1) (by simpa using h2) hk
noncomputable def start(N:Yf)(Z:List V):St:=Z.map some++List.replicate (N.length-Z.length) none
noncomputable def af0(CX:CXT)(P:Program)(w:World)(K:Fg)(mg:Zs)(base:Heap)(N:Yf)(U:Str)(Z:Scope)(f:Addr)(cd:Value)(A:Around)(outer:List Env)(s:Shared)(H:Hp)(E:XK):Cx where
 prog:=P
 w:=w
 K:=K
 mg:=mg
 base:=base
 A:=A.deeper (envOfC U Z s.heap.objs.size f cd)
 N:=N
 s₀:=s
 H₀:=H
 env:=envOfC U Z s.heap.objs.size f cd
 outer:=outer
 stack:=envOfC U Z s.heap.objs.size f cd::outer
 ex:=[]
 calm:=true
 fn:=λ_=>true
 pn:=[]
 xe:=λe s'=>wpAny (model P w) (A.deeper (envOfC U Z s.heap.objs.size f cd)) (leaving (envOfC U Z s.heap.objs.size f cd) e) (λ_ R=>CX outer H s E e R) (λe' R=>CX outer H s E e' R) s'
def acw{Z:Scope}{n:Nat}{x:Str}(h:Z.names.lookup x=some .cell):∃c,(cellsFrom n Z.names []).lookup x=some c:=by have q:=PySem.W.cellsFrom_some Z.names n [] (.inl h);exact pq.mp q
def akc{CX:CXT}{P:Program}{w:World}{K:Fg}{mg:Zs}{qq:Heap}{N ps:Yf}{R:Str}{Z:Scope}{f:Addr}{cd:Value}{A:Around}{U:List Env}{s s1:Shared}{H:Hp}{E:XK}{us:Zl}{vs:List V}
 (S:Vc N ps Z) (hd:A.handled=none) (e0:afy P w K mg qq A U s H) (hl:vs.length=ps.length) (r:Vals vs us)
 (x:InCallC s s.heap.objs.size (bindL (envOfC R Z s.heap.objs.size f cd).kindOf (ps.zip us) λ_=>none) (cellsFrom (s.heap.objs.size+1) Z.names []) (bindC (envOfC R Z s.heap.objs.size f cd).kindOf (ps.zip us) λ_=>none) s1) :
 Inv (af0 CX P w K mg qq N R Z f cd A U s H E) [] (start N vs) H s1:=by
 have Hy:ps.length<=N.length:=by have:=nq List.length S.pre;rw[zg] at this;lia
 obtain⟨h1,tk,rfl,hk⟩:=x.done;have qk:∀b:Addr,b∉(af0 CX P w K mg qq N R Z f cd A U s H E).ex:=λb z=>absurd (show b∈([]:X9) from z) (by simp)
 refine⟨⟨e0.mod,S.kind,rfl,rfl,bc _,λy z c h1 h2=>?_,λy hy=>?_,λy c _ h=>?_,λ_=>hd,Around.frames_deeper e0.frames,.inr ⟨rfl,rfl⟩,λb z=>absurd z (qk b),e0.bs,e0.bsz,λb _ _=>qk b,λb z=>absurd z (qk b),e0.Ux,e0.frf⟩,
  rfl,e0.bare,Un.kept hk,⟨_,x.toInCall.ns,λi y v h1 h2 h3=>?_⟩,λy c h=>⟨_,x.cell y c h⟩,e0.zm.fresh (bc _),λy c h=>?_,λp hp=>absurd (show p∈([]:Zp) from hp) (by simp),e0.zm.kept hk,?_⟩
 .exact name_of_addr x.apart (za h1) (za h2)
 .have hy:Z.names.lookup y=some .cell\/Z.names.lookup y=some .free:=hy
  rcases hy with hy|hy
  .exact acw hy
  .exact absurd rfl (S.a1b _ (za hy))
 .exact t7 (x.above y c (za h))
 .have hi:i<vs.length:=by
   unfold start at h2
   by_cases hi:i<vs.length
   .exact hi
   .rw[jq (by simpa using hi)] at h2
    rw[List.getElem?_replicate] at h2;split at h2<;>cases h2
  have ha:vs[i]?=some v:=by
   unfold start at h2;rw[dq (by simpa using hi),iw] at h2;cases e:vs[i]? with
   |none=>rw[e] at h2;cases h2|some a=>rw[e] at h2;cases h2;rfl
  obtain⟨u,hu,rv⟩:=r.get ha;have hp:ps[i]?=some y:=by rw[<- S.pre,List.getElem?_take_of_lt (b_ hi (f_ hl))];exact h1
  have qv:ps.Nodup:=by rw[<- S.pre];exact S.nd.sublist (List.take_sublist _ _)
  refine⟨u,rv,?_⟩;rcases S.par y (au hp) with k|k
  .exact .inl ⟨k,Yw qv hp hu k⟩
  .obtain⟨c,e⟩:=acw (n:=s.heap.objs.size+1) k
   refine .inr ⟨.inl k,c,e,?_⟩;have q:=x.cell y c e;rw[Yx qv hp hu (by show Z.names.lookup y≠_;rw[k];decide)] at q;exact q
 .exact e0.zm.fresh (t7 (x.above y c (za h)))
 .unfold start
  show _=N.length;rw[ph,du,yh]
  lia
def a8g{CX:CXT}{P:Program}{w:World}{K:Fg}{mg:Zs}{qv:Heap}{k:Nat}{f:Addr}{q2 R:Str}{qk:Arguments}{q0:List Stmt}{Z:Scope}{dV kV q4 pm qq ct oc:Value}{an od:Option Addr}
 {q7:Array (Option Value)} {N ps:Yf} {sp:Sp} (lk:K.lookup f=some ⟨oc,od,.func (PySem.W.fnOf q2 R qk q0 Z dV kV q4 pm an qq ct),q7⟩) (q8:PySem.W.codeIn K qq R=true) (S:Vc N ps Z)
 (len:∀vs H Q E,sp vs H Q E->vs.length=ps.length)
 (q5:∀(A:Around)(U:List Env)(s:Shared)(H:Hp)(vs:List V)(Q:VK)(E:XK),Af k (A.deeper (envOfC R Z s.heap.objs.size f qq))->sp vs H Q E ->
  ∃t,Q3 (af0 CX P w K mg qv N R Z f qq A U s H E) q0 t/\t { nx:=λ_ H'=>Q .non H',rt:=Q } (start N vs) H) :
 Fj P w K mg qv CX (k+1) f (PySem.W.fnOf q2 R qk q0 Z dV kV q4 pm an qq ct) ps sp:=by
 refine⟨len,λA U s H zk us vs Q E hr e0 hb r q3=>?_⟩;have hl:=len _ _ _ _ q3;have KX:K.In s.heap:=e0.mod.kin.keeps λb o e=>(e0.bs b o e).1
 have q6:s.heap.NoLimit:=e0.mod.nolimit.keeps λb o e=>(e0.bs b o e).1
 have zz:∀y∈ps.zip us,Z.names.lookup y.1=some .local\/(Z.names.lookup y.1=some .cell/\((cellsFrom (s.heap.objs.size+1) Z.names []).lookup y.1).isSome=true):=λ⟨n,v⟩ hy=>by
  rcases S.par n (List.of_mem_zip hy).1 with q|q
  .exact .inl q
  .exact .inr ⟨q,PySem.W.cellsFrom_some _ _ _ (.inl q)⟩
 refine codeAny_call_function hr.depth (KX _ _ lk) rfl S.co S.gen rfl (PySem.W.codeRec_of KX q8) (hb _ _ _ _ ?_);refine wpAny_newFunctionEnv_cells S.kind zz λzv he s1 x=>?_
 subst he;refine⟨q6.keeps x.toInCall.keep,codeAny_func ?_⟩;obtain⟨t,ht,hq⟩:=q5 A U s H vs Q E (hr.deeper _) q3;have I:Inv (af0 CX P w K mg qv N R Z f qq A U s H E) [] (start N vs) H s1:=akc S hr.hd e0 hl r x;refine m7 (ht [] s1 (start N vs) H _ I hq) (λfl s' hs=>?_) λe s' hs=>hs
 have fin:∀{q1:St}{H':Hp}{v:V}{u:Value},Inv (af0 CX P w K mg qv N R Z f qq A U s H E) [] q1 H' s'->RelV v u->Q v H'->CE U P w H s Q u s' :=
  fun{q1 H' v u} J rv q=>⟨v,H',J.os,J.bare,J.base,J.zm,rv,q⟩
 cases fl with
 |ret u =>
  obtain⟨v,q1,H',J,rv,q⟩:=hs;exact fin J rv q
 |next =>
  obtain⟨q1,H',J,q⟩:=hs;exact fin (v:=V.non) (u:=Value.none) J rfl q
 |brk =>
  obtain⟨_,_,_,q⟩:=hs;exact False.elim q
 |cont =>
  obtain⟨_,_,_,q⟩:=hs;exact False.elim q
end L2
namespace L2
open PySem PySem.Spec PyProof.Rows
def tCB(r:List V->Hp->VK->Prop)(t:TA):TE:=λR H Q=>t R H λZ U=>r Z U Q
def aov{X:Cx}{x:Str}{p pos:Pos}{e:Expr}{U:Ya}{t:TA}{id:String}{r:List V->Hp->VK->Prop}(hc:Cy X (.builtin id) r)(hg:Gl X x)(hm:X.mg x=none)(hv:bootBuiltins x=some (.builtin id))(ha:PA X (e::U) t)(hn:x≠"__name__" := by decide)(Ue:(x==("__debug__" : Str))=false:=by decide)
 (he:starEach (e::U) X.env=(false,eval e X.env)::starEach U X.env:=by rfl) (Hy:(backTo pos (starEach U X.env)).any (·.1)=false:=by rfl):PE X (.Call (.Name x p) (e::U) [] pos) (tCB r t):=by
 intro Z s R H Q I h;refine je (Dk I hg hm hv ?_ hn Ue);exact yp (Bf (ha pos Z s R H _ I h) λus s1 ⟨vs,H1,I1,r1,q1⟩=>hc Z s1 R H1 vs us Q I1 r1 q1) he Hy
def akd{X:Cx}{x:Str}{p pos:Pos}{e:Expr}{U:Ya}{t:TA}{T:String}{r:List V->Hp->VK->Prop}(hc:Cy X (.type T) r)(hg:Gl X x)(hm:X.mg x=none)(hv:bootBuiltins x=some (.type T))(ha:PA X (e::U) t)(hn:x≠"__name__" := by decide)(Ue:(x==("__debug__" : Str))=false:=by decide)
 (he:starEach (e::U) X.env=(false,eval e X.env)::starEach U X.env:=by rfl) (Hy:(backTo pos (starEach U X.env)).any (·.1)=false:=by rfl):PE X (.Call (.Name x p) (e::U) [] pos) (tCB r t):=by
 intro Z s R H Q I h;refine je (Dk I hg hm hv ?_ hn Ue);exact jk (Bf (ha pos Z s R H _ I h) λus s1 ⟨vs,H1,I1,r1,q1⟩=>hc Z s1 R H1 vs us Q I1 r1 q1) he Hy
section
variable{κ:Type}[DecidableEq κ]
noncomputable def Q4(Z:List (κ×V))(k:κ):Option V:=(Z.find? λU=>decide (U.1=k)).map (·.2)
noncomputable def putK(Z:List (κ×V))(k:κ)(v:V):List (κ×V) :=
 if(Z.any λU=>decide (U.1=k))=true then Z.map (λU=>if U.1=k then(U.1,v) else U) else Z++[(k,v)]
def Q5{p:κ×V}(e:p.1=k):Q4 (p::r) k=some p.2:=by simp[Q4,qx,e]
def Q6{p:κ×V}(e:¬p.1=k):Q4 (p::r) k=Q4 r k:=by simp[Q4,qx,e]
theorem acx(k:κ):∀Z:List (κ×V),(Z.any λU=>decide (U.1=k))=(Q4 Z k).isSome
 |[]=>rfl
 |p::r=>by
  rw[Ax]
  by_cases e:p.1=k
  .simp only[Q5 e,zb e,Bool.true_or,Option.isSome_some]
  .rw[Q6 e,j8 e,Bool.false_or];exact acx k r
def Ug(Z:List (κ×V))(k:κ)(v:V):(putK Z k v).length<=Z.length+1:=by
 unfold putK;split
 .rw[du];exact x_
 .rw[ph,gr,List.length_nil];exact bc _
def Lp.Jw(r:Lp o u):o.isSome=u.isSome:=by
 cases o with
 |none=>cases u with
  |none=>rfl|some _=>exact(show False from r).elim
 |some _=>cases u with
  |none=>exact(show False from r).elim
  |some _=>rfl
theorem Lp.getD(r:Lp o u)(U:RelV d Z):RelV (o.getD d) (u.getD Z):=by
 cases o with
 |none=>cases u with
  |none=>exact U|some _=>exact(show False from r).elim
 |some _=>cases u with
  |none=>exact(show False from r).elim
  |some _=>exact r
def KV.val(r:KV kvs R)(k:κ):Lp (Q4 kvs k) (valueAt R k):=by
 unfold KV at r
 induction r with
 |nil=>exact True.intro
 |@cons p q ps qs h t ih =>
  obtain⟨U,h2⟩:=h
  by_cases e:p.1=k
  .have Z:q.1=k:=U.symm.trans e
   have b:valueAt (q::qs) k=some q.2:=by simp[valueAt,qx,Z]
   rw[Q5 e,b];exact h2
  .have Z:¬q.1=k:=λz=>e (U.trans z)
   have b:valueAt (q::qs) k=valueAt qs k:=by simp[valueAt,qx,Z]
   rw[Q6 e,b];exact ih
theorem KV.any(r:KV kvs U)(k:κ):(kvs.any λZ=>decide (Z.1=k))=U.any λZ=>decide (Z.1=k):=by
 unfold KV at r
 induction r with
 |nil=>rfl|cons h t R=>rw[Ax,Ax,R,h.1]
def KV.Hs(r:KV kvs vs)(k:κ)(R:RelV y u) :
 KV (kvs.map λZ=>if Z.1=k then(Z.1,y) else Z) (vs.map λZ=>if Z.1=k then(Z.1,u) else Z):=by
 unfold KV at r ⊢
 induction r with
 |nil=>exact .nil
 |@cons p q ps qs h t ih =>
  rw[gh,gh];refine .cons ?_ ih;obtain⟨U,h2⟩:=h
  by_cases e:p.1=k
  .rw[cj e,cj (U.symm.trans e)];exact⟨U,R⟩
  .rw[bw e,bw (λz=>e (U.trans z))];exact⟨U,h2⟩
def KV.put(r:KV kvs U)(k:κ)(Z:RelV y u):KV (putK kvs k y) (stored U k u):=by
 unfold putK stored;rw[r.any k]
 by_cases e:(U.any λR=>decide (R.1=k))=true
 .rw[cj e,cj e];exact r.Hs k Z
 .rw[bw e,bw e];exact Paired.snoc r ⟨rfl,Z⟩
theorem KV.length{Z:List (κ×V)}{U:List (κ×Value)}(r:KV Z U):Z.length=U.length:=ue r
end
def Yy(r:RelV (kV k) u):(jh P w).is k u=true:=by
 cases k with
 |inl i=>obtain⟨t,e⟩:=(show ∃t,u=Value.int i t from r);subst e;exact acp P w i t
 |inr x=>obtain⟨t,e⟩:=(show ∃t,u=Value.str x t from r);subst e;exact acq P w x t
theorem Yz{P:Program}{w:World}:∀{Z:List Key}{U:Zl},Vals (Z.map kV) U->ItemsAre (jh P w) Z U
 |[],_,r=>by rw[List.map_nil] at r;cases r;exact .nil
 |k::Z,_,r=>by
  rw[gh] at r;cases r with
  |cons h t=>exact .cons (Yy h) (Yz t)
abbrev KT(H:Hp):List (List Key×V)->List (List Key×Addr×Value)->Prop:=Paired λp q=>p.1=q.1/\H q.2.1=some (.tup (p.1.map kV))/\RelV p.2 q.2.2
def KT.val(r:KT H kvs R)(k:List Key):Lp (Q4 kvs k) ((atKey R k).map (·.2)):=by
 induction r with
 |nil=>exact True.intro
 |@cons p q ps qs h t ih =>
  obtain⟨U,_,h2⟩:=h
  by_cases e:p.1=k
  .have Z:q.1=k:=U.symm.trans e
   have b:atKey (q::qs) k=some q.2:=by simp[atKey,qx,Z]
   rw[Q5 e,b];exact h2
  .have Z:¬q.1=k:=λz=>e (U.trans z)
   have b:atKey (q::qs) k=atKey qs k:=by simp[atKey,qx,Z]
   rw[Q6 e,b];exact ih
def KT.Hs(r:KT H kvs xs)(k:List Key)(ry:RelV y u) :
 KT H (kvs.map λU=>if U.1=k then(U.1,y) else U) (xs.map (putAt k u)):=by
 induction r with
 |nil=>exact .nil
 |@cons p q ps qs h t ih =>
  rw[gh,gh];refine .cons ?_ ih;obtain⟨Z,R,h3⟩:=h;unfold putAt
  by_cases e:p.1=k
  .rw[cj e,cj (Z.symm.trans e)];exact⟨Z,R,ry⟩
  .rw[bw e,bw (λz=>e (Z.trans z))];exact⟨Z,R,h3⟩
def KT.put(r:KT H kvs Z)(k:List Key)(hb:H b=some (.tup (k.map kV)))(U:RelV y u) :
 KT H (putK kvs k y) (storedH Z k b u):=by
 have e:(kvs.any λR=>decide (R.1=k))=(atKey Z k).isSome:=by rw[acx,(r.val k).Jw,Option.isSome_map]
 unfold putK storedH;rw[e]
 by_cases q:(atKey Z k).isSome=true
 .rw[cj q,cj q];exact r.Hs k U
 .rw[bw q,bw q];exact Paired.snoc r ⟨rfl,hb,U⟩
def KT.keeps(r:KT H kvs xs)(U:∀b Z,H b=some (.tup Z)->R b=some (.tup Z)):KT R kvs xs :=
 Paired.az5 r λ_ _ z=>⟨z.1,U _ _ z.2.1,z.2.2⟩
def ayb(ok:Pa P w H h)(e:Rd H a u):Ah P w H h a u:=e.ok ok
def Wk(ok:Pa P w H h)(e:Rd H a (.dK kvs)):kvs.length<=sizeLine/\(a==sysModules)=false/\∃vs,KV kvs vs/\h.DictOf (jh P w) a vs :=
 show Ah P w H h a (.dK kvs) from ayb ok e
def a8i(ok:Pa P w H h)(e:H a=some (.dK kvs)):kvs.length<=sizeLine/\(a==sysModules)=false/\∃vs,KV kvs vs/\h.DictOf (jh P w) a vs:=Wk ok (.inl e)
def Kq(ok:Pa P w H h)(e:H a=some (.tup (Z.map kV))):(tupleKind (jh P w)).is h Z a:=by obtain⟨_,R,r,o,U,h2,n,h3,_⟩:=(show Ah P w H h a (.tup (Z.map kV)) from ok a _ e);exact⟨o,R.toArray,n,U,h2,h3,by simpa using Yz r⟩
def Y0(ok:Pa P w H h)(e:Rd H a (.dT kvs)):kvs.length<=sizeLine/\(a==sysModules)=false /\
 ∃xs,KT H kvs xs/\h.DictOfH (tupleKind (jh P w)) a xs:=by
 obtain⟨z,y,xs,r,o,R,ep,U,h2,h3,h4,h5⟩:=(show Ah P w H h a (.dT kvs) from ayb ok e);refine⟨z,y,xs,r,o,R,ep,U,h2,h3,h4,λx Z=>?_,h5⟩;have all:∀{l:List (List Key×V)}{m:List (List Key×Addr×Value)},KT H l m->∀x∈m,(tupleKind (jh P w)).is h x.1 x.2.1:=by
  intro l m q
  induction q with
  |nil=>intro x Z;exact nomatch Z
  |@cons p q ps qs hq t ih =>
   intro x Z;rcases bz.mp Z with e|Z
   .subst e
    exact Kq ok (by rw[<- hq.1];exact hq.2.1)
   .exact ih x Z
 exact all r x Z
def Y4(ok:Pa P w H h)(e:H a=some (.dT kvs)):kvs.length<=sizeLine/\(a==sysModules)=false /\
 ∃xs,KT H kvs xs/\h.DictOfH (tupleKind (jh P w)) a xs:=Y0 ok (.inl e)
def Ou(H:Hp)(a:Addr)(y:V)(r:Option V):Prop :=
 (∃Z k,Rd H a (.dK Z)/\y=kV k/\r=Q4 Z k)\/∃Z k b,Rd H a (.dT Z)/\y=.ref b/\H b=some (.tup (k.map kV))/\r=Q4 Z k
def af1(H:Hp)(a:Addr)(y v:V)(U:Hp):Prop :=
 (∃Z k,H a=some (.dK Z)/\y=kV k/\Z.length<sizeLine/\U=upd H a (.dK (putK Z k v))) \/
 ∃Z k b,H a=some (.dT Z)/\y=.ref b/\H b=some (.tup (k.map kV))/\Z.length<sizeLine/\U=upd H a (.dT (putK Z k v))
theorem Ou.k{k:Key}(e:H a=some (.dK kvs)):Ou H a (kV k) (Q4 kvs k):=.inl ⟨kvs,k,.inl e,rfl,rfl⟩
def Ou.t{k:List Key}(e:H a=some (.dT kvs))(Z:H b=some (.tup (k.map kV))):Ou H a (.ref b) (Q4 kvs k):=.inr ⟨kvs,k,b,.inl e,rfl,Z,rfl⟩
theorem af1.k{k:Key}(e:H a=some (.dK kvs))(Z:kvs.length<sizeLine):af1 H a (kV k) v (upd H a (.dK (putK kvs k v))):=.inl ⟨kvs,k,e,rfl,Z,rfl⟩
def af1.t{k:List Key}(e:H a=some (.dT kvs))(U:H b=some (.tup (k.map kV)))(Z:kvs.length<sizeLine) :
 af1 H a (.ref b) v (upd H a (.dT (putK kvs k v))):=.inr ⟨kvs,k,b,e,rfl,U,Z,rfl⟩
def Inv.big(I:Inv X pins σ H s):sysModules<s.heap.objs.size:=by
 have h:mainGlobals<s.heap.objs.size:=(I.mod.glob.keeps I.bk).lt
 exact Nat.lt_trans (by decide) h
def ake(hu:A.units+1<cLine)(I:Inv X pins σ H s)(g:Ou H a y (some v))(ry:RelV y u)(h:∀R s',Inv X pins σ H s'->RelV v R->Q R s') :
 wpAny (model X.prog X.w) A (getItem (.ref a) u) Q E s:=by
 rcases g with⟨qq,k,e,ey,l⟩|⟨qq,k,b,e,ey,eb,l⟩
 .subst ey
  obtain⟨z,hd,vs,Z,dd⟩:=Wk I.zm e;obtain⟨R,hw,U⟩:=Lp.some_of (v:=v) (o:=valueAt vs k) (by rw[l];exact Z.val k);exact wpAny_getItem_of (Yy ry) dd.mapOf hw (h R _ (I.tok _) U)
 .subst ey
  cases(show u=Value.ref b from ry);obtain⟨z,hd,xs,Z,dd⟩:=Y0 I.zm e;obtain⟨R,hw,U⟩:=Lp.some_of (v:=v) (o:=(atKey xs k).map (·.2)) (by rw[l];exact Z.val k);obtain⟨p,hp,qk⟩:=dg.mp hw;refine wpAny_getItem_heap (v9 hu) (Kq I.zm eb) dd hp ?_;rw[qk];exact h R _ (I.tok _) U
def a8j(hu:A.units+1<cLine)(I:Inv X pins σ H s)(g:Ou H a y o)(ry:RelV y u)(h:∀s',Inv X pins σ H s'->Q (.bool o.isSome) s') :
 wpAny (model X.prog X.w) A (compareOp .In u (.ref a)) Q E s:=by
 rcases g with⟨U,k,e,ey,l⟩|⟨U,k,b,e,ey,eb,l⟩
 .subst ey
  obtain⟨z,R,vs,Z,dd⟩:=Wk I.zm e;refine wpAny_in_of (Yy ry) R dd.mapOf ?_;rw[<- (Z.val k).Jw,<- l];exact h _ (I.tok _)
 .subst ey
  cases(show u=Value.ref b from ry);obtain⟨z,R,xs,Z,dd⟩:=Y0 I.zm e;refine wpAny_in_heap (v9 hu) (Kq I.zm eb) R dd ?_;have q:=(Z.val k).Jw;rw[Option.isSome_map] at q;rw[<- q,<- l];exact h _ (I.tok _)
def ahw(hu:A.units+1<cLine)(I:Inv X pins σ H s)(g:Ou H a y o)(ry:RelV y u)(h:∀s',Inv X pins σ H s'->Q (.bool (!o.isSome)) s') :
 wpAny (model X.prog X.w) A (compareOp .NotIn u (.ref a)) Q E s:=by
 rcases g with⟨U,k,e,ey,l⟩|⟨U,k,b,e,ey,eb,l⟩
 .subst ey
  obtain⟨z,R,vs,Z,dd⟩:=Wk I.zm e;refine wpAny_notIn_of (Yy ry) R dd.mapOf ?_;rw[<- (Z.val k).Jw,<- l];exact h _ (I.tok _)
 .subst ey
  cases(show u=Value.ref b from ry);obtain⟨z,R,xs,Z,dd⟩:=Y0 I.zm e;refine wpAny_notIn_heap (v9 hu) (Kq I.zm eb) R dd ?_;have q:=(Z.val k).Jw;rw[Option.isSome_map] at q;rw[<- q,<- l];exact h _ (I.tok _)
def Vd(I:Inv X pins σ H s)(mu:Mut (H a))(hs:Heap.SameBut a s.heap Z)(R:∃q,Z.get? a=some q)(new:Ah X.prog X.w (upd H a ob) Z a ob) :
 Inv X pins σ (upd H a ob) { s with heap:=Z,toks:=t' } :=
 I.write (x:=a) (e:=a) mu (.inl rfl) (λb q U z=>(hs.2 b U).trans z) R new
def aow(z:kvs.length<=sizeLine)(hd:(a==sysModules)=false)(Z:KV kvs U)(dd:R.DictOf (jh P w) a U) :
 Ah P w H' R a (.dK kvs):=⟨z,hd,U,Z,dd⟩
def Y5(hu:A.units+1<cLine)(I:Inv X pins σ H s)(g:af1 H a y v H')(ry:RelV y u)(rv:RelV v r)(h:∀s',Inv X pins σ H' s'->Q () s') :
 wpAny (model X.prog X.w) A (setItem (.ref a) u r) Q E s:=by
 rcases g with⟨U,k,e,ey,l,eH⟩|⟨U,k,b,e,ey,eb,l,eH⟩
 .subst ey eH
  obtain⟨z,hd,vs,Z,dd⟩:=a8i I.zm e;have hz:vs.length<=sizeLine:=by rw[<- Z.length];exact z
  have hl:(putK U k v).length<=sizeLine:=by have:=Ug U k v;exact a_ this l
  refine wpAny_setItem_pairs (hsz:=hz) (Yy ry) dd λh' R hs=>h _ ?_
  have he:∃q,h'.get? a=some q:=let ⟨q,_,_,hq,_⟩:=R;⟨q,hq⟩;exact Vd I (by rw[e];exact True.intro) hs he (aow hl hd (Z.put k rv) R)
 .subst ey eH
  cases(show u=Value.ref b from ry);obtain⟨z,hd,xs,Z,dd⟩:=Y4 I.zm e;have hz:xs.length<=sizeLine:=by rw[<- ue Z];exact z
  have hl:(putK U k v).length<=sizeLine:=by have:=Ug U k v;exact a_ this l
  refine wpAny_setItem_heap (hsz:=hz) (v9 hu) (Kq I.zm eb) dd λh' R hs=>h _ ?_
  obtain⟨q,es,ep,hq,h2,h3,h4,_,h5⟩:=R;refine Vd I (by rw[e];exact True.intro) hs ⟨q,hq⟩ ⟨hl,hd,_,(Z.put k eb rv).keeps λc ys ec=>?_,q,es,ep,hq,h2,h3,h4,h5⟩;rw[j9 (Yt ec e (λz=>nomatch z))];exact ec
def acy(I:Inv X pins σ H s)(g:Ou H a y o):s.TypeIs (.ref a) "dict" := by
 rcases g with⟨U,k,e,_,_⟩|⟨U,k,b,e,_,_,_⟩
 .obtain⟨_,_,R,_,Z⟩:=Wk I.zm e
  exact Z.typeIs
 .obtain⟨_,_,xs,_,Z⟩:=Y0 I.zm e
  exact Z.typeIs
def aox(h:Heap)(Z:sysModules<h.objs.size):Ah P w H (h.push { cls:=.type "dict",data:=.dict #[] }) h.objs.size (.dK []) :=
 ⟨jr _,qu.mpr (ji (gf Z)),[],.nil,Heap.DictOf.new h⟩
def acz(h:Heap)(Z:sysModules<h.objs.size):Ah P w H (h.push { cls:=.type "dict",data:=.dict #[] }) h.objs.size (.dT []) :=
 ⟨jr _,qu.mpr (ji (gf Z)),[],.nil,_,#[],0,bu _ rfl,⟨rfl,rfl,rfl⟩,rfl,rfl,v8⟩
def a1c:TE:=λ_ H Q=>∀p,H p=none->Q (.ref p) (upd H p (.dK []))
def a1d:TE:=λ_ H Q=>∀p,H p=none->Q (.ref p) (upd H p (.dT []))
def aoy:PE X (.Dict [] [] pos) a1c:=λZ s U H Q I h =>
 wpAny_Dict_empty ⟨.ref s.heap.objs.size,_,I.laid (a:=s.heap.objs.size) (o:=.dK []) (t':=s.toks) (λ_ _ q=>ao _ q) (bc _) (aox s.heap I.big),rfl,h _ (I.zm.fresh (bc _))⟩
def aoz:PE X (.Dict [] [] pos) a1d:=λZ s U H Q I h =>
 wpAny_Dict_empty ⟨.ref s.heap.objs.size,_,I.laid (a:=s.heap.objs.size) (o:=.dT []) (t':=s.toks) (λ_ _ q=>ao _ q) (bc _) (acz s.heap I.big),rfl,h _ (I.zm.fresh (bc _))⟩
def a1e(hu:A.units+1<cLine)(I:Inv X pins σ H s)(g:Ou H a y o)(ry:RelV y u)(rd:RelV d r)(h:∀w' s',Inv X pins σ H s'->RelV (o.getD d) w'->Q w' s') :
 wpAny (model X.prog X.w) A (call (.builtin "dict.get") [.ref a,u,r]) Q E s:=by
 rcases g with⟨R,k,e,ey,l⟩|⟨R,k,b,e,ey,eb,l⟩
 .subst ey
  obtain⟨z,hd,vs,Z,U⟩:=Wk I.zm e;refine call_meetsIn PySem.F.slot_dict_get U.typeIs PySem.F.entry_dict_get (PySem.F.args_dict_get_3 _ _ _) (meets_dict_get_default (jh X.prog X.w) a (Yy ry) hd r) ⟨_,U.mapOf,h _ _ (I.tok _) ?_⟩;rw[l];exact(Z.val k).getD rd
 .subst ey
  cases(show u=Value.ref b from ry);obtain⟨z,hd,xs,Z,U⟩:=Y0 I.zm e;refine call_meetsIn PySem.F.slot_dict_get U.typeIs PySem.F.entry_dict_get (PySem.F.args_dict_get_3 _ _ _) (meetsH_dict_get_default (tupleKind (jh X.prog X.w)) a b hd r) ⟨v9 hu,k,xs,Kq I.zm eb,U,h _ _ (I.tok _) ?_⟩;rw[l];exact(Z.val k).getD rd
def ao0(I:Inv X pins σ H s)(e:Rd H a (.dK kvs))(h:∀p s',H p=none->Inv X pins σ (upd H p (.dK kvs)) s'->Q (.ref p) s'):wpAny (model X.prog X.w) A (call (.type "dict") [.ref a]) Q E s:=by
 obtain⟨z,hd,vs,Z,dd⟩:=Wk I.zm e;refine kt_call_dict hd dd (by rw[<- Z.length];exact z) λh' U hs=>?_
 refine h _ _ (I.zm.fresh (bc _)) (I.laid (a:=s.heap.objs.size) (o:=.dK kvs) (t':=s.toks) (λb q R=>?_) (bc _) (aow z (qu.mpr (ji (gf I.big))) Z U));exact(hs.2 b (gf (az R))).trans (ao _ R)
end L2
namespace HT
open PySem PyProof.Rows
noncomputable def sIx(n d:Nat):Option Int->Nat
 |none=>d|some v=>if v<0 then(v+(n:Int)).toNat else min v.toNat n
end HT
namespace L2
open PySem PySem.Spec PyProof.Rows
abbrev TO:=St->Hp->(Option Int->Hp->Prop)->Prop
def PO(X:Cx)(e:Option Expr)(t:TO):Prop :=
 ∀(Z:Zp)(s:Shared)(U:St)(H:Hp)(Q:Option Int->Hp->Prop),Inv X Z U H s->t U H Q ->
  wpAny (model X.prog X.w) X.A (evalPart e X.env) (λu s'=>∃o R,Inv X Z U R s'/\IsPart u o/\Q o R) X.xe s
def au0:TO:=λ_ H Q=>Q none H
def a8k(t:TE):TO:=λU H Q=>t U H λx Z=>∃i,x=.int i/\Q (some i) Z
def au1:PO X none au0:=by intro Z s U H Q I h;rw[evalPart_none];exact aj ⟨none,H,I,.none,h⟩
def au2(h:PE X e R):PO X (some e) (a8k R):=by
 intro Z s σ H Q I hw;rw[evalPart_some];refine Bf (h Z s σ H _ I hw) λu s1 z_=>?_
 obtain⟨x,H1,I1,U,q1⟩:=z_;obtain⟨i,rfl,q⟩:=q1;obtain⟨t,rfl⟩:=U;exact⟨some i,H1,I1,.int i t,q⟩
def SlR(X:Cx)(r:V->Option Int->Option Int->Hp->VK->Prop):Prop :=
 ∀(Z:Zp)(s:Shared)(σ:St)(H:Hp)(x:V)(v vl vu:Value)(R U:Option Int)(sl:Addr)(Q:VK),Inv X Z σ H s->RelV x v->s.heap.IsSliceOf sl vl vu .none->IsPart vl R->IsPart vu U->r x R U H Q ->
  ∃T id,typeLookup (.type T) "__getitem__" = pure (some (.builtin id))/\s.TypeIs v T/\wpAny (model X.prog X.w) X.A (getItem v (.ref sl)) (EP X Z σ Q) X.xe s
def tSl(r:V->Option Int->Option Int->Hp->VK->Prop)(R:TE)(U th:TO):TE:=λZ H Q=>R Z H λx H1=>U Z H1 λl H2=>th Z H2 λu H3=>r x l u H3 Q
def ao1{lo:Option Expr}(hr:SlR X r)(he:PE X e te)(hl:PO X lo tl)(hu:PO X hi th):PE X (.Subscript e (.Slice lo hi none p2) pos) (tSl r te tl th):=by
 intro Z s R H Q I h;refine Subscript_ (Bf (he Z s R H _ I h) λv s1 z_=>?_);obtain⟨x,H1,I1,r1,q1⟩:=z_;refine wpAny_Slice (Bf (hl Z s1 R H1 _ I1 q1) λvl s2 ⟨l,H2,I2,pl,q2⟩=>Bf (hu Z s2 R H2 _ I2 q2) λvu U z_=>?_);obtain⟨u,H3,I3,pu,q3⟩:=z_;rw[evalPart_none];refine aj ?_;have I4:Inv X Z R H3 { U with heap:=U.heap.push { cls:=.type "slice",data:=.fields #[vl,vu,.none] } }:=I3.kept (t':=U.toks) λb ob q=>ao _ q
 obtain⟨T,id,hT,ht,hg⟩:=hr Z { U with heap:=U.heap.push { cls:=.type "slice",data:=.fields #[vl,vu,.none] } } R H3 x v vl vu l u U.heap.objs.size Q I4 r1 (Heap.IsSliceOf.new ..) pl pu q3;show wpAny (model X.prog X.w) X.A (subscriptTail e (.Slice lo hi none p2) v (.ref U.heap.objs.size)) (EP X Z R Q) X.xe { U with heap:=U.heap.push { cls:=.type "slice",data:=.fields #[vl,vu,.none] } };exact tail_any (ops:=[.ref U.heap.objs.size,v]) ht hT hg (by with_unfolding_all rfl)
noncomputable def akf(Z:List V)(U R:Option Int):List V:=(Z.drop (HT.sIx Z.length 0 U)).take (HT.sIx Z.length Z.length R-HT.sIx Z.length 0 U)
def ac0(Z:List V)(R U:Option Int):(akf Z R U).length<=Z.length:=by
 unfold akf;rw[zg,List.length_drop]
 lia
end L2
namespace L2
open PySem PySem.Spec PyProof.Rows
noncomputable def ixN(n:Nat)(i:Int):Option Nat:=if 0<=i then(if i<n then some i.toNat else none) else if -(n:Int)<=i then some (i+n).toNat else none
noncomputable def atI{α:Type}(Z:List α)(i:Int):Option α:=(ixN Z.length i).bind λj=>Z[j]?
def ahx(h:ixN n i=some j):seqIndex? i n=some j/\j<n/\-(n:Int)<=i/\i<n:=by
 unfold ixN at h
 by_cases U:0<=i
 .rw[cj U] at h
  by_cases Z:i<n
  .rw[cj Z] at h
   have e:i.toNat=j:=ju h;exact⟨by rw[seqIndex_of U Z,e],by lia,by lia,Z⟩
  .rw[bw Z] at h;cases h
 .rw[bw U] at h
  by_cases Z:-(n:Int)<=i
  .rw[cj Z] at h
   have e:(i+n).toNat=j:=ju h;exact⟨by rw[seqIndex_neg (by lia) Z,e],by lia,Z,by lia⟩
  .rw[bw Z] at h;cases h
def ahy(h:atI Z i=some v):∃j,seqIndex? i Z.length=some j/\Z[j]?=some v/\j<Z.length/\-(Z.length:Int)<=i/\i<Z.length:=by
 unfold atI at h;cases e:ixN Z.length i with
 |none=>rw[e] at h;cases h
 |some j =>
  rw[e] at h;obtain⟨U,h2,R,h4⟩:=ahx e;exact⟨j,U,h,h2,R,h4⟩
def aaj(b:Expr):Prop:=∀o i,subscripted b false o i=operate [o,i] (getItem o i)
def IxR(X:Cx)(r:R2):Prop :=
 ∀(R Z:Expr)(U:Zp)(s:Shared)(σ:St)(H:Hp)(x y:V)(v u:Value)(Q:VK),Inv X U σ H s->RelV x v->RelV y u->r x y H Q ->
  subscripted Z false v u=operate [v,u] (getItem v u)->wpAny (model X.prog X.w) X.A (subscriptTail R Z v u) (EP X U σ Q) X.xe s
def MtR(X:Cx)(id:String)(r:V->List V->Hp->VK->Prop):Prop :=
 ∀(Z:Zp)(s:Shared)(R:St)(H:Hp)(x:V)(U:List V)(v:Value)(us:Zl)(Q:VK),Inv X Z R H s->RelV x v->Vals U us->r x U H Q ->
  wpAny (model X.prog X.w) X.A (call (.builtin id) (v::us)) (EP X Z R Q) X.xe s
def a8m(hr:IxR X r)(ha:PE X a ta)(hb:PE X b tb)(hs:aaj b):PE X (.Subscript a b pos) (tOp r ta tb):=by intro Z s σ H Q I h;exact Subscript_ (a0x ha hb I h λv u s2 x y H2 R rx U q=>hr a b Z s2 σ H2 x y v u Q R rx U q (hs _ _))
def bff(K:Fg):R2:=λx y H Q=>∃p Z i v,x=.ref p/\y=.int i/\Gz K H p Z/\atI Z i=some v/\Q v H
def bfg(K:Fg):R2:=λx y H Q=>∃p Z i v,x=.ref p/\y=.int i/\Ia K H p Z/\atI Z i=some v/\Q v H
def Cm:IxR X (bff X.K):=by
 intro R qk Z s σ H x y v u Q I rx ry h hs;obtain⟨p,xs,i,z,rfl,rfl,hq,he,q⟩:=h;cases rx;obtain⟨t,rfl⟩:=ry;obtain⟨wj,r,pl,hz⟩:=I.list hq;obtain⟨j,U,h2,h3,h4,h5⟩:=ahy he;obtain⟨w,ew,qq⟩:=r.get h2;have hl:=r.length;have hn:=Wh;have fin:EP X Z σ Q w s:=⟨z,H,I,qq,q⟩
 by_cases h0:0<=i
 .have hj:i.toNat=j:=by
   rw[seqIndex_of h0 h5] at U;exact ju U
  exact item_listR pl.isList h0 (by lia) (by rw[hj];simpa using ew) fin hs
 .have hj:(i+(wj.toArray.size:Int)).toNat=j:=by
   rw[seqIndex_neg (by lia) h4] at U;rw[gq,<- hl];exact ju U
  exact subscriptTail_builtinR (x:=w) pl.isList.typeIs slot_list_getitem.lookup
   (wpAny_getItem_list_neg (Q:=λr s'=>r=w/\EP X Z σ Q r s') pl.isList (by lia) (by rw[gq]<;>lia) (by lia) (by rw[hj];simpa using ew) ⟨rfl,fin⟩) hs
def J8:IxR X (bfg X.K):=by
 intro U qq Z s σ H x y v u Q I rx ry h hs;obtain⟨p,xs,i,z,rfl,rfl,hq,he,q⟩:=h;cases rx;obtain⟨t,rfl⟩:=ry;obtain⟨wj,r,pl,hz⟩:=I.tuple hq;obtain⟨j,h1,h2,h3,h4,h5⟩:=ahy he;obtain⟨w,ew,R⟩:=r.get h2;have hl:=r.length;have hn:=Wh;have fin:EP X Z σ Q w s:=⟨z,H,I,R,q⟩;exact subscriptTail_builtinR (x:=w) pl.typeIs slot_tuple_getitem.lookup
  (getItem_tuple (j:=j) (Q:=λr s'=>r=w/\EP X Z σ Q r s') pl (by lia) (by lia) (by rw[gq,<- hl];exact h1) (by simpa using ew) ⟨rfl,fin⟩) hs
def af2(Z:Zl)(n j:Nat)(u:Value):Obj.mapSeq (·.setIfInBounds j u) { cls:=.type "list",data:=.seq Z.toArray n }={ cls:=.type "list",data:=.seq (Z.set j u).toArray n }:=by simp[Obj.mapSeq]
theorem Inv.lst{X:Cx}{Z:Zp}{σ:St}{H:Hp}{s:Shared}{p:Addr}{R:List V}(I:Inv X Z σ H s)(h:H p=some (.lst R)) :
 ∃(U:Zl)(n:Nat),Vals R U/\s.heap.get? p=some { cls:=.type "list",data:=.seq U.toArray n }/\R.length<=sizeLine:=by
 obtain⟨z,U,n,r,e⟩:=I.zm p _ h;exact⟨U,n,r,e,z⟩
def Inv.a1f{U:Zl}(I:Inv X pins σ H s)(h:H p=some (.lst xs))(ho:s.heap.get? p=some { cls:=.type "list",data:=.seq U.toArray n })(hf:f { cls:=.type "list",data:=.seq U.toArray n }={ cls:=.type "list",data:=.seq its'.toArray R })(r:Vals Z its')(hz:Z.length<=sizeLine)(t:Nat) :
 Inv X pins σ (upd H p (.lst Z)) { s with heap:=s.heap.update p f,toks:=t }:=by
 have e:(s.heap.update p f).get? p=some { cls:=.type "list",data:=.seq its'.toArray R }:=by rw[jz f ho (by rw[hf]<;>rfl),hf]
 refine I.write (x:=p) (e:=p) (by rw[h];trivial) (.inl rfl) (λb u hb q=>(wu _ _ (ji hb)).trans q) ⟨_,e⟩ ?_;exact⟨hz,its',R,r,e⟩
def a8n:V->V->V->Hp->(Hp->Prop)->Prop:=λo i v H Q=>∃p Z k j,o=.ref p/\i=.int k/\H p=some (.lst Z)/\ixN Z.length k=some j/\Q (upd H p (.lst (Z.set j v)))
def set_list:a0q X a8n:=by
 intro Z s σ H o i v ov iv u Q I ro ri rv h;obtain⟨p,xs,k,j,rfl,rfl,hp,hj,q⟩:=h;cases ro;obtain⟨t,rfl⟩:=ri;obtain⟨wj,n,r,ho,hz⟩:=I.lst hp;obtain⟨U,h2,h3,h4⟩:=ahx hj;have R:=r.length;have hn:=Wh;have I':Inv X Z σ (upd H p (.lst (xs.set j v))) { s with heap:=s.heap.update p (Obj.mapSeq (·.setIfInBounds j u)) } :=
  I.a1f hp ho (af2 wj n j u) (r.set rv j) (by rw[List.length_set];exact hz) s.toks
 by_cases h0:0<=k
 .have hk:k.toNat=j:=by
   rw[seqIndex_of h0 h4] at U;exact ju U
  exact PySem.W.ki_setAt ho h0 (by lia) (by rw[gq,<- R];exact h4) (by rw[hk];exact⟨_,I',q⟩)
 .have hk:(k+(wj.toArray.size:Int)).toNat=j:=by
   rw[seqIndex_neg (by lia) h3] at U;rw[gq,<- R];exact ju U
  exact PySem.W.ki_setBack ho (by lia) (by rw[gq,<- R];exact h3) (by lia) (by rw[hk];exact⟨_,I',q⟩)
def aak(U Z:Option Int)(n:Nat):(sliceBounds U Z none n).1=((HT.sIx n 0 U:Nat):Int)/\(sliceBounds U Z none n).2.1=((HT.sIx n n Z:Nat):Int)/\(sliceBounds U Z none n).2.2=1:=by
 refine⟨?_,?_,rfl⟩
 .cases U with
  |none=>simp[sliceBounds,HT.sIx]
  |some i =>
   simp only[sliceBounds,HT.sIx,Option.getD_none,show(1:Int) > 0 by decide,j5]
   by_cases h:i<0
   .simp only[h,j5]<;>lia
   .simp only[h,jd]<;>lia
 .cases Z with
  |none=>simp[sliceBounds,HT.sIx]
  |some i =>
   simp only[sliceBounds,HT.sIx,Option.getD_none,show(1:Int) > 0 by decide,j5]
   by_cases h:i<0
   .simp only[h,j5]<;>lia
   .simp only[h,jd]<;>lia
def X4(Z:Zl)(U R:Option Int):slicePick Z.toArray U R none=((Z.drop (HT.sIx Z.length 0 U)).take (HT.sIx Z.length Z.length R-HT.sIx Z.length 0 U)).toArray:=by obtain⟨h1,h2,h3⟩:=aak U R Z.toArray.size;unfold slicePick;rw[h1,h2,h3];simp only[sliceRange_one,pick_run,gq]<;>rfl
def a8o(K:Fg):V->Option Int->Option Int->Hp->VK->Prop:=λx R U H Q=>∃a Z,x=.ref a/\Gz K H a Z/\∀p,H p=none->Q (.ref p) (upd H p (.lst (akf Z R U)))
def au4:SlR X (a8o X.K):=by intro qq s σ H x v vl vu R hi sl Q I rx hs pl pu h;obtain⟨a,U,rfl,hx,q⟩:=h;cases rx;obtain⟨wj,r,ht,hz⟩:=I.list hx;have Z:=r.length;refine⟨"list",_,slot_list_getitem.lookup,ht.isList.typeIs,?_⟩;refine wpAny_getItem_list_slice ht.isList hs pl pu .none (by simp) ?_ (by rw[gq]<;>exact a_ (g_ Z) hz);rw[X4,<- Z];refine⟨.ref s.heap.objs.size,_,I.laid (t':=s.toks) (o:=.lst (akf U R hi)) (λb ob q=>ao _ q) (bc _) ?_,rfl,q _ (I.zm.fresh (bc _))⟩;exact⟨gw (ac0 U R hi) hz,_,0,(r.drop (HT.sIx U.length 0 R)).take (HT.sIx U.length U.length hi-HT.sIx U.length 0 R),bu _ rfl⟩
def aal:Cy X (.builtin "len") (λxs H Q=>∃p U,xs=[.ref p]/\(Gz X.K H p U\/Ia X.K H p U)/\Q (.int U.length) H):=by
 intro qq s σ H xs us Q I r h;obtain⟨p,U,rfl,R,q⟩:=h;obtain⟨u,rfl,rx⟩:=vals1 r;cases rx;have hn:=Wh;rcases R with R|R
 .obtain⟨wj,r',pl,hz⟩:=I.list R
  have Z:=r'.length;exact Calls.call_len_list pl.isList (by simp only[gq]<;>lia) ⟨.int U.length,H,I.tok _,⟨s.toks+1,by rw[gq,Z]⟩,q⟩
 .obtain⟨wj,r',pl,hz⟩:=I.tuple R
  have Z:=r'.length;exact len_tuple pl (by simp only[gq]<;>lia) ⟨.int U.length,H,I.tok _,⟨s.toks+1,by rw[gq,Z]⟩,q⟩
def X5:Cy X (.type "tuple") (λxs H Q=>∃p U,xs=[.ref p]/\((Gz X.K H p U/\∀l,H l=none->Q (.ref l) (upd H l (.tup U)))\/(Ia X.K H p U/\Q (.ref p) H))):=by
 intro Z s σ H xs us Q I r h;obtain⟨p,U,rfl,h⟩:=h;obtain⟨u,rfl,rx⟩:=vals1 r;cases rx;rcases h with⟨hq,q⟩|⟨hq,q⟩
 .obtain⟨wj,r',pl,hz⟩:=I.list hq
  have R:=r'.length;refine call_tuple_list pl.isList (λh' kp=>?_) (by simp only[gq]<;>exact a_ (g_ R) hz);have I1:Inv X Z σ H { s with heap:=h' }:=I.kept (t':=s.toks) kp;have I2:Inv X Z σ (upd H h'.objs.size (.tup U)) { s with heap:=h'.push { cls:=.type "tuple",data:=.seq wj.toArray } } :=
   I1.laid (t':=s.toks) (λb o e=>ao _ e) (bc _) (show Ah X.prog X.w _ _ _ (.tup U) from⟨hz,wj,r',Xz.new _ _⟩)
  exact⟨.ref h'.objs.size,_,I2,rfl,q _ (I1.zm.fresh (bc _))⟩
 .obtain⟨wj,r',pl,hz⟩:=I.tuple hq
  exact call_tuple_same pl ⟨.ref p,H,I,rfl,q⟩
def tyV(K:Fg)(T:String)(x:V)(H:Hp):Prop:=match x with
 |.str _=>T = "str"|.int _=>T = "int"
 |.ref p=>(T = "list"/\∃U,Gz K H p U)\/(T = "tuple"/\∃o,K.lookup p=some o/\o.cls=.type "tuple"/\o.dict=none) \/
  (T = "dict"/\((∃Z,H p=some (.dK Z))\/∃Z,H p=some (.dT Z)))\/(T = "set"/\∃S n,H p=some (.set S n))
 |_=>False
def ao2(I:Inv X pins σ H s)(r:RelV x v)(R:tyV X.K T x H) :
 s.TypeIs v T/\∀a,v=.ref a->∃ob,s.heap.get? a=some ob/\ob.dict=none:=by
 cases x with
 |str z =>
  obtain⟨t,rfl⟩:=r;cases(show T = "str" from R);exact⟨typeIs_str s z t,λ_ e=>nomatch e⟩
 |int i =>
  obtain⟨t,rfl⟩:=r;cases(show T = "int" from R);exact⟨typeIs_int s i t,λ_ e=>nomatch e⟩
 |ref p =>
  cases r;rcases R with⟨rfl,xs,hq⟩|⟨rfl,o,Z,hc,hd⟩|⟨rfl,Z⟩|⟨rfl,S,n,Z⟩
  .obtain⟨wj,_,pl,_⟩:=I.list hq
   refine⟨pl.isList.typeIs,λa e=>?_⟩;cases e;obtain⟨o,n,e,c,hd,_⟩:=pl;exact⟨o,e,hd⟩
  .refine⟨⟨o,I.Uy p o Z,hc⟩,λa e=>?_⟩
   cases e;exact⟨o,I.Uy _ o Z,hd⟩
  .have z:∃o,s.heap.get? p=some o/\o.ExactDict:=by
    rcases Z with⟨qq,Z⟩|⟨qq,Z⟩
    .obtain⟨_,_,_,_,o,_,_,e,U,_⟩:=I.zm p _ Z
     exact⟨o,e,U⟩
    .obtain⟨_,_,_,_,o,_,_,e,U,_⟩:=I.zm p _ Z
     exact⟨o,e,U⟩
   obtain⟨o,e,U⟩:=z;refine⟨⟨o,e,U.1⟩,λa e2=>?_⟩;cases e2;exact⟨o,e,U.2.1⟩
  .obtain⟨o,_,_,_,e,U,_⟩:=I.zm p _ Z
   refine⟨⟨o,e,U.1⟩,λa e2=>?_⟩;cases e2;exact⟨o,e,U.2.1⟩
 |_=>exact False.elim R
def bfh(K:Fg)(T:String)(r:V->List V->Hp->VK->Prop)(U:TE):TE:=λR H Q=>U R H λx Z=>tyV K T x Z/\r x [] Z Q
def tBM(K:Fg)(T:String)(r:V->List V->Hp->VK->Prop)(R:TE)(t:TA):TE:=λU H Q=>R U H λx Z=>tyV K T x Z/\t U Z λxs H2=>r x xs H2 Q
def a1h{id:String}(pa:PlainAttrs T)(U:Slot T name id)(R:typeOf (.builtin id)=pure (.type "method_descriptor"))(hm:MtR X id r)(ho:PE X o to)(Wl:attributeBase o name X.env (eval o X.env)=eval o X.env:=by rfl)(Wm:(apos.endLine==Qe.line)=true:=by rfl):PE X (.Call (.Attribute o name apos) [] [] Qe) (bfh X.K T r to):=by intro Z s σ H Q I h;refine wpAny_Call_method0_late Wl Wm (Bf (ho Z s σ H _ I h) λv s1 z_=>?_);obtain⟨x,H1,I1,r1,ty,q1⟩:=z_;obtain⟨h1,h2⟩:=ao2 I1 r1 ty;exact⟨T,id,pa,U,R,h1,h2,Calls.callWith_builtin rfl (PySem.evalArgs_none (hm Z s1 σ H1 x [] v [] Q I1 r1 .nil q1))⟩
theorem a8p{id:String}(pa:PlainAttrs T)(qq:Slot T name id)(qk:typeOf (.builtin id)=pure (.type "method_descriptor"))(hm:MtR X id r)(ho:PE X o to)(ha:PA X (e::U) t)(Wl:attributeBase o name X.env (eval o X.env)=eval o X.env:=by rfl)(q0:((backTo R (starEach (e::U) X.env)).all (λx=>!x.1)&&(backToKw R (keywordEach [] X.env)).all (λx=>x.1.isSome)
&&decide ((e::U).length+([]:List Keyword).length+(if([]:List Keyword).isEmpty then 0 else 1)<30))=true:=by rfl)(Wm:(apos.endLine==R.line)=true:=by rfl)(hs:starEach (e::U) X.env=(false,eval e X.env)::starEach U X.env:=by rfl)(qv:(backTo R (starEach U X.env)).any (·.1)=false:=by rfl) :
 PE X (.Call (.Attribute o name apos) (e::U) [] R) (tBM X.K T r to t):=by
 intro Z s σ H Q I h;refine wpAny_Call_method_late Wl q0 Wm rfl (Bf (ho Z s σ H _ I h) λv s1 z_=>?_);obtain⟨x,H1,I1,r1,ty,q1⟩:=z_;obtain⟨h1,h2⟩:=ao2 I1 r1 ty;refine⟨T,id,pa,qq,qk,h1,h2,?_⟩;have hA:=ha R Z s1 σ H1 _ I1 q1;rw[hs] at hA ⊢;refine Calls.callWith_builtin (by show(false||(backTo R (starEach U X.env)).any (·.1))=false;rw[qv]<;>rfl) (Calls.evalArgs_plain ?_);exact Bf hA λus s2 ⟨vs,H2,I2,r2,q2⟩=>hm Z s2 σ H2 x vs v us Q I2 r1 r2 q2
end L2
namespace L2
open PySem PySem.Spec PyProof.Rows
def MtM(X:Cx)(id:String)(r:V->List V->Hp->VK->Prop):Prop :=
 ∀(Z:Zp)(s:Shared)(R:St)(H:Hp)(x:V)(U:List V)(v:Value)(us:Zl)(Q:VK),Inv X Z R H s->RelV x v->Vals U us->r x U H Q ->
  wpAny (model X.prog X.w) X.A (call (.builtin id) (v::us)) (EP X Z R Q) X.xe s
theorem Vals.one:∀{x:V}{Z:Zl},Vals [x] Z->∃u,Z=[u]/\RelV x u
 |_,_,.cons r .nil=>⟨_,rfl,r⟩
theorem Vals.zero:∀{Z:Zl},Vals [] Z->Z=[]
 |_,.nil=>rfl
theorem Vals.dropLast(h:Vals U R):Vals U.dropLast R.dropLast:=by
 induction h with
 |nil=>exact .nil
 |cons r t Z =>
  cases t with
  |nil=>exact .nil|cons q t'=>exact .cons r Z
def af4{Z:Type}(l:List Z):l.eraseIdx (l.length-1)=l.dropLast:=by
 induction l with
 |nil=>rfl
 |cons a r U =>
  cases r with
  |nil=>rfl
  |cons b r =>
   have e:(a::b::r).length-1=((b::r).length-1)+1:=by
    have R:(a::b::r).length=r.length+2:=rfl;have h2:(b::r).length=r.length+1:=rfl
    lia
   rw[e,List.eraseIdx_cons_succ,U]
   all_goals rfl
def Inv.a1j{U:Zl}(I:Inv X pins σ H s)(hH:H l=some (.lst xs))(e:s.heap.get? l=some { cls:=.type "list",data:=.seq U.toArray n })(hf:f U.toArray=its'.toArray)(hv:Vals Z its')(hz:Z.length<=sizeLine) :
 Inv X pins σ (upd H l (.lst Z)) { s with heap:=s.heap.update l (Obj.mapSeq f),toks:=t' }:=by
 have q:=PySem.IsL.update e f;rw[hf] at q;refine I.write (x:=l) (e:=l) (by rw[hH];exact trivial) (.inl rfl) (λb' u R hu=>(wu s.heap (Obj.mapSeq f) (ji R)).trans hu) ⟨_,q⟩ ?_;exact⟨hz,its',_,hv,q⟩
def Inv.bfj(I:Inv X pins σ H s)(hv:Vals U Z)(R:U.length<=sizeLine) :
 Inv X pins σ (upd H s.heap.objs.size (.lst U)) { s with heap:=s.heap.push { cls:=.type "list",data:=.seq Z.toArray },toks:=t' } :=
 I.laid (λ_ _ q=>ao _ q) (bc _) ⟨R,Z,0,hv,bu _ rfl⟩
theorem Inv.fresh(I:Inv X pins σ H s):H s.heap.objs.size=none:=I.zm.fresh (bc _)
def Inv.af5(I:Inv X pins σ H s)(R:H l=some (.lst U)):U.length<=sizeLine/\∃(Z:Zl)(n:Nat),Vals U Z/\U.length=Z.length/\s.heap.get? l=some { cls:=.type "list",data:=.seq Z.toArray n }:=by obtain⟨z,Z,n,r,e⟩:=I.zm l _ R;exact⟨z,Z,n,r,r.length,e⟩
def ao3(h:n<=sizeLine):Builtin.List.listTooLong n=false:=by unfold Builtin.List.listTooLong;exact j8 (j_ h)
def au5:V->List V->Hp->VK->Prop:=λx U H Q=>∃l Z y,x=.ref l/\U=[y]/\H l=some (.lst Z)/\Z.length<sizeLine/\Q .non (upd H l (.lst (Z++[y])))
def Y6:MtM X "list.append" au5:=by intro R s σ H x vs v us Q I rx rv h;obtain⟨l,xs,y,rfl,rfl,hH,Z,q⟩:=h;cases rx;obtain⟨u,rfl,ru⟩:=rv.one;obtain⟨z,U,n,r,hl,e⟩:=I.af5 hH;refine call_meets F.slot_list_append ⟨_,e,rfl⟩ F.entry_list_append (F.args_list_append_2 _ _) (PySem.list_append l U.toArray n u (by rw[gq];exact e_ (c_ (g_ hl) Z))) ⟨e,?_⟩;refine⟨.non,_,I.a1j (its':=U++[u]) hH e (by simp) (r.append (.cons ru .nil)) ?_,rfl,q⟩;rw[ph,List.length_singleton];exact Z
def au6:V->List V->Hp->VK->Prop:=λx R H Q=>∃l b U Z,x=.ref l/\R=[.ref b]/\H l=some (.lst U)/\H b=some (.lst Z)/\U.length+Z.length<=sizeLine/\Q .non (upd H l (.lst (U++Z)))
def akg:MtM X "list.extend" au6:=by
 intro qk s σ H x vs v us Q I rx rv h;obtain⟨l,b,xs,zs,rfl,rfl,hH,hB,hz,q⟩:=h;cases rx;obtain⟨u,rfl,ru⟩:=rv.one;cases ru;obtain⟨z,U,n,r,hl,e⟩:=I.af5 hH;obtain⟨z2,Z,n2,r2,qv,e2⟩:=I.af5 hB;have R:U.toArray.size+Z.toArray.size<=sizeLine:=by rw[gq,gq];lia
 have qq:¬(!U.toArray.isEmpty&&Builtin.List.listTooLong (U.toArray.size+Z.toArray.size))=true:=by rw[ao3 R,Bool.and_false];exact iu
 refine call_meets F.slot_list_extend ⟨_,e,rfl⟩ F.entry_list_extend (F.args_list_extend_2 _ _)
  (AutoSeq1.list_extend_list_list_0 l U.toArray n b Z.toArray n2 qq (by rw[gq];exact a_ (g_ hl) z) (a_ R x_)) ⟨e,e2,?_⟩
 refine⟨.non,_,I.a1j (its':=U++Z) hH e (by simp) (r.append r2) ?_,rfl,q⟩;rw[ph];exact hz
def bfl:V->List V->Hp->VK->Prop:=λx U H Q=>∃l Z y,x=.ref l/\U=[]/\H l=some (.lst Z)/\Z[Z.length-1]?=some y/\Q y (upd H l (.lst Z.dropLast))
def a1k:MtM X "list.pop" bfl:=by
 intro qq s σ H x vs v us Q I rx rv h;obtain⟨l,xs,y,rfl,rfl,hH,hy,q⟩:=h;cases rx;have U:=rv.zero;subst U;obtain⟨z,Z,n,r,hl,e⟩:=I.af5 hH;obtain⟨u,hu,ru⟩:=r.get hy;have R:Z.toArray[Z.toArray.size-1]?=some u:=by show Z.toArray[Z.length-1]?=some u;rw[<- ou,<- hl];exact hu
 refine call_meets F.slot_list_pop ⟨_,e,rfl⟩ F.entry_list_pop (F.args_list_pop_1 _) (MeetsSeq.list_pop_last l Z.toArray n u R (by rw[gq];exact a_ (g_ hl) z)) ⟨e,?_⟩;refine⟨y,_,I.a1j (its':=Z.dropLast) hH e ?_ r.dropLast ?_,ru,q⟩
 .show Z.toArray.eraseIdxIfInBounds (Z.toArray.size-1)=Z.dropLast.toArray
  rw[gq,List.eraseIdxIfInBounds_toArray,af4]
 .rw[List.length_dropLast]
  exact a_ C_ z
def a8r:R2:=λx y H Q=>∃l b U Z,x=.ref l/\y=.ref b/\H l=some (.lst U)/\H b=some (.lst Z)/\U.length+Z.length<=sizeLine/\∀p,H p=none->Q (.ref p) (upd H p (.lst (U++Z)))
def ao4:De X (binaryOp .Add) a8r:=by
 intro R s σ H x y v u Q I rx ry h;obtain⟨l,b,xs,zs,rfl,rfl,hH,hB,hz,q⟩:=h;cases rx;cases ry;obtain⟨z,U,n,r,hl,e⟩:=I.af5 hH;obtain⟨z2,Z,n2,r2,qq,e2⟩:=I.af5 hB;refine PySem.P.add_list e e2 ?_ (by rw[gq,gq];lia);have ea:U.toArray++Z.toArray=(U++Z).toArray:=by simp
 rw[ea];exact⟨.ref _,_,I.bfj (t':=s.toks) (r.append r2) (by rw[ph];exact hz),rfl,q _ I.fresh⟩
end L2
namespace Att
open PySem PySem.W PySem.Calls PyProof.Rows
def U3:∀(ns:Xs)(Z:Zl),WellAll P h Z (ns.map WData.int)->IntsAre Z ns:=by
 intro ns
 induction ns with
 |nil =>
  intro Z w;rw[List.map_nil] at w;cases w;exact .nil
 |cons n ns U =>
  intro Z w;rw[gh] at w;cases w with
  |cons a b =>
   cases a;exact .cons _ _ (U _ b)
def akh{l:OpenLaw}(hn:l.most=some n)(U:l.row.toRowW.claim.pre args=true)(qq:WellAll P h vals args) :
 ∃a vs Z,vals=[Value.ref a]/\args=[WData.list (Z.map WData.int)]/\h.get? a=some { cls:=.type "list",data:=.seq vs.toArray }/\IntsAre vs Z/\Z.length<=n:=by
 have qk:WShape.hasAll [] args [.list .int]=true:=(pre_splitW U).1;have hc:l.pre.holds [] { args:=args }=true:=(pre_splitW U).2;obtain⟨d,r,rfl,h1,h2⟩:=hasAllW_cons qk;obtain rfl:=hasAllW_nil h2;obtain⟨xs,rfl,h3⟩:=hasW_list h1;obtain⟨Z,rfl⟩:=items_int h3;have R:Z.length<=n:=by
  unfold OpenLaw.pre at hc;have h4:(WTm.not (.lt (.lit (.int (n:Int))) (.len (.arg 0)))).holds [] { args:=[.list (Z.map .int)] }=true:=by have h4:=(holds_andW hc).1;rw[hn] at h4;exact h4
  have h5:=condW_of h4 (w_not (w_lt w_lit (w_len_list (w_arg rfl))));rw[du] at h5;refine Nat.le_of_not_lt λq=>?_
  have q':(n:Int)<((Z.length:Nat):Int):=m_ q
  first
   |(rw[zb q'] at h5;exact absurd h5 (by decide))
   |(simp at h5;omega)
 cases qq with
 |cons w1 w2 =>
  cases w2;cases w1 with
  |list ho Gb=>exact⟨_,_,Z,rfl,rfl,ho,U3 Z _ Gb,R⟩
def aki(l:OpenLaw)(Z:List WData):l.row.toRowW.claim.post Z (.bool true) Z=true :=
 postW_of (r:=l.row.toRowW) (X:=(true==true))
  (show WShape.has [] (.bool true) .bool=true by first|rfl|decide|simp[WShape.has,WShape.arms,WShape.armsAll])
  (show(WTm.eq .res (.lit (.bool true))).value [] { args:=Z,res:=some (.bool true),after:=Z }=some (.bool (true==true)) from w_eq_bool (w_res rfl) w_lit) rfl
def ac8{l:OpenLaw}(hn:l.most=some n)(q3:d.params.defaults=[])(call:∀(w:World) (U Z:Shared) (mg mb:Zs) (fa:Addr) (o:Obj) (pm cd qq:Value) (a:Addr) (vs:Zl) (ns:Xs),
 Ground q loose [] XP w U mg mb Z.heap->YP w Z.heap ->
 Z.heap.get? fa=some o->o.data=.func (docDef d.name d.params d.body d.scope pm cd qq)->Z.heap.CodeRec cd d.name->mg d.name=some (.ref fa) ->
 Z.heap.get? a=some { cls:=.type "list",data:=.seq vs.toArray }->IntsAre vs ns->ns.length<=n->Z.gens=#[] ->
 codeAny (model l.prog w) callerA (.call (.ref fa) ⟨[.ref a],[]⟩) (λr s'=>r=.ok (.ret (.bool true))/\OldK Z.heap s'.heap/\s'.os=Z.os/\AllBare s'.gens) Z) :
 WalkO q loose XP YP l.row.toRowW d [] (λf vs=>PySem.call f vs):=by
 intro w U Z mg mb G Y fa o pm cd qq dV kV ho hd q4 hD q2 hg q5 q6 as q1 q7 zz q0 q8;obtain rfl:dV=.none:=Dflts.none hD q3;obtain rfl:kV=.none:=Dflts.noKw hD;obtain⟨a,vs,ns,rfl,rfl,qv,R,qk⟩:=akh hn q1 q0;refine enter_call (v7 (call w U Z mg mb fa o pm cd qq a vs ns G Y ho (fd_plain hd) q4 q2 qv R qk hg) λr s' hq=>?_);obtain⟨rfl,h2,h3,h4⟩:=hq;exact⟨.inl ⟨.bool true,.bool true,[],rfl,λ_=>rfl,.bool true,aki l _,λ_=>⟨List.Pairwise.nil,λ_ hm=>(nomatch hm)⟩⟩,h2,h3,h4⟩
end Att
namespace L2
open PySem PySem.Spec PyProof.Rows
theorem Y7:∀{Z:Zl}{U:Xs},IntsAre Z U->Vals (U.map V.int) Z
 |_,_,.nil=>.nil|_,_,.cons n t h=>.cons ⟨t,rfl⟩ (Y7 h)
def Only(H:Hp):Prop:=∀b,H b=none\/∃o Z,H b=some (.Hz o (.lst Z))
def ao5{K:Fg}(KX:K.In s₁.heap)(q2:s₁.heap.Ns mainGlobals mg)(Z:s₁.heap.Ns builtinsNs mb)(q7:∀x:Str,x≠"__name__" -> mb x=bootBuiltins x)(q8:s₁.heap.NoLimit)(hg:s₁.gens=#[])(ha:s₁.heap.get? a=some { cls:=.type "list",data:=.seq vs.toArray })(hi:IntsAre vs ns)(hl:ns.length<=sizeLine)(hr:Af k callerA)(F:∀R:Heap,K.In R->R.Ns mainGlobals mg->Fj P w K mg R CX k fa fd [x] sp)(q3:∀(s:Shared) (u:Value),BindsTo s fd ⟨[u],[]⟩ [(x,u)])(q5:∀H:Hp,Only H->Gz K H a (ns.map V.int)->sp [.ref a] H (λv _=>v=.bl true) λ_ _ _=>False)(q4:∀H e U,CX [] H s₁ (λ_ _ _=>False) e U->False) :
 codeAny (model P w) callerA (.call (.ref fa) ⟨[.ref a],[]⟩) (λr U=>r=.ok (.ret (.bool true))/\OldK s₁.heap U.heap/\U.os=s₁.os/\AllBare U.gens) s₁:=by
 have rv:=Y7 hi;have q0:=hi.length;have qk:∀H:Hp,Only H->Gz K H a (ns.map V.int)->Pa P w H s₁.heap->(∀b,H b≠none->b=a)->(H a≠none->K.lookup a=none) ->
  codeAny (model P w) callerA (.call (.ref fa) ⟨[.ref a],[]⟩) (λr U=>r=.ok (.ret (.bool true))/\OldK s₁.heap U.heap/\U.os=s₁.os/\AllBare U.gens) s₁:=by
  intro H hO hS zm hA hK;have Eh:∀{b:Addr}{o:Obj},s₁.heap.get? b=some o->H b=none->(aae s₁.heap H).get? b=some o:=λe n=>anx e n
  have zz:∀{b:Addr}{o:Obj}{es:Array DictEntry}{ep:Nat},s₁.heap.get? b=some o->o.data=.dict es ep->H b=none:=fun{b o es ep} e d=>by
   cases q:H b with
   |none=>rfl
   |some u =>
    have e':b=a:=hA b (by rw[q];simp);subst e';rw[ha] at e;cases e;have d':Data.seq vs.toArray _=Data.dict es ep:=d;cases d'
  have qq:∀{b:Addr}{m:Zs},s₁.heap.Ns b m->(aae s₁.heap H).Ns b m:=fun{b m} ⟨o,es,ep,e,d,r⟩=>⟨o,es,ep,Eh e (zz e d),d,r⟩
  have qv:K.In (aae s₁.heap H):=λb o e=>Eh (KX b o e) (by
   cases q:H b with
   |none=>rfl
   |some u =>
    have e':b=a:=hA b (by rw[q];simp);subst e';rw[hK (by rw[q];simp)] at e;cases e)
  have hM:Mod K mg (aae s₁.heap H):=⟨qv,qq q2,⟨mb,qq Z,q7⟩,let ⟨mc,h1,h2⟩:=q8;⟨mc,qq h1,h2⟩⟩;have e0:afy P w K mg (aae s₁.heap H) callerA [] s₁ H:=⟨rfl,hM,λb o e=>aub e,Nat.le_of_eq (aj1 _ _),trivial,λb Z=>absurd (show b∈([]:X9) from Z) (by simp),zm,.of_eq hg⟩;refine v7 ((F _ qv (qq q2)).run callerA [] s₁ H ⟨[.ref a],[]⟩ [.ref a] [.ref a] _ _ hr e0 (q3 s₁ (.ref a)) (.cons rfl .nil) (q5 H hO hS)) λr U h=>?_
  cases r with
  |error e=>exact(q4 H e U h).elim
  |ok fl =>
   cases fl with
   |next=>exact False.elim h|brk=>exact False.elim h|cont=>exact False.elim h
   |ret u =>
    obtain⟨v,H',os,q1,un,q6,r',q⟩:=h;have q':v=.bl true:=q;subst q';obtain rfl:u=Value.bool true:=r';refine⟨rfl,OldK.of_keep λb o e=>?_,os,q1⟩;cases q:H b with
    |none=>exact un.keep b o e q (by intro z;exact absurd (show b∈([]:X9) from z) (by simp)) (by simp)
    |some u =>
     rcases hO b with z|⟨ob,xs,z⟩
     .rw[q] at z;cases z
     .have z2:=un.aad b ob _ z
      obtain⟨e1,_⟩:=zm b _ z;obtain⟨e2,_⟩:=q6 b _ z2;rw[e] at e1;cases e1;exact e2
 cases hk:K.lookup a with
 |some o =>
  have e:=KX a o hk;rw[ha] at e;cases e;refine qk (λ_=>none) (λ_=>.inl rfl) (.inr ⟨_,vs.toArray,_,hk,rfl,rfl,rfl,by rw[gq,q0];exact hl,by simpa using rv⟩) (λb u z=>by have z':(none:Option HO)=some u:=z;cases z') (λb z=>absurd rfl z) λz=>absurd rfl z
 |none =>
  refine qk (λb=>if b=a then some (.Hz { cls:=.type "list",data:=.seq vs.toArray } (.lst (ns.map V.int))) else none) (λb=>?_) (.inl (.inr ⟨{ cls:=.type "list",data:=.seq vs.toArray },cj rfl⟩)) (λb u z=>?_) (λb z=>?_) λ_=>hk
  .by_cases Z:b=a
   .exact .inr ⟨_,_,cj Z⟩
   .exact .inl (bw Z)
  .by_cases Z:b=a
   .have z':=(cj Z).symm.trans z
    cases z';subst Z;exact⟨ha,by rw[du];exact hl,vs,_,rv,ha⟩
   .have z':=(bw Z).symm.trans z
    cases z'
  .by_cases Z:b=a
   .exact Z
   .exact absurd (bw Z) z
end L2
namespace L2
open PySem PySem.Spec PyProof.Rows
def au8{l:PySem.W.OpenLaw}{K:Params->Fg}{CX:World->CXT}{sp:World->Sp}(hn:l.most=some n)(Yh:n<=sizeLine)(q2:d.params.defaults=[])(hr:Af k callerA)(hY:∀(w:World) (h:Heap),YP w h->(K w.params).In h)(F:∀(w:World) (mg:Zs) (fa:Addr) (h:Heap),(K w.params).In h->h.Ns mainGlobals mg->mg d.name=some (.ref fa) ->
 ∃fd:FuncData,(∀(s:Shared) (u:Value),BindsTo s fd ⟨[u],[]⟩ [(x,u)]) /\
  ∀Z:Heap,(K w.params).In Z->Z.Ns mainGlobals mg->Fj l.prog w (K w.params) mg Z (CX w) k fa fd [x] (sp w))(q0:∀(w:World) (H:Hp) (a:Addr) (ns:Xs),ns.length<=n->Only H->Gz (K w.params) H a (ns.map V.int)->sp w [.ref a] H (λv _=>v=.bl true) λ_ _ _=>False)(qk:∀(w:World) (H:Hp) (s:Shared) (e:Value) (s':Shared),CX w [] H s (λ_ _ _=>False) e s'->False) :
 PySem.W.WalkO q loose XP YP l.row.toRowW d [] (λf vs=>PySem.call f vs):=by
 refine Att.ac8 hn q2 λw q3 qq mg mb fa o pm cd q5 a vs ns G Y ho hd q4 q1 qv R U hg=>?_
 have KX:=hY w _ Y;obtain⟨fd,hb,hF⟩:=F w mg fa _ KX G.T.g q1;exact ao5 KX G.T.g G.T.b G.T.builtins G.T.nolimit hg qv R (gw U Yh) hr hF hb (λH hO hS=>q0 w H a ns U hO hS) λH e s'=>qk w H qq e s'
end L2
namespace L2
open PySem PySem.Spec PyProof.Rows
noncomputable def inClass(s:Stmt)(j:Nat):Stmt:=match s with
 |.ClassDef _ _ _ body _ _ _ _ _ _ _=>body.getD j (.Pass ⟨0,0,0,0⟩)|_=>.Pass ⟨0,0,0,0⟩
noncomputable def Ip(s:Stmt):Arguments:=match s with
 |.FunctionDef _ a _ _ _ _ _ _ _ _=>a|_=>{ posonlyargs:=[],args:=[],vararg:=none,kwonlyargs:=[],kw_defaults:=[],kwarg:=none,defaults:=[] }
noncomputable def Ga(s:Stmt):List Stmt:=match s with
 |.FunctionDef _ _ b _ _ _ _ _ _ _=>b|_=>[]
noncomputable def Bd(s:Stmt):Scope:=match s with
 |.FunctionDef _ _ _ _ _ _ sc _ _ _=>sc|_=>{ kind:=.function,names:=[],isGenerator:=false,isCoroutine:=false }
abbrev CX0:CXT:=λ_ _ _ _ _ _=>False
abbrev E0:XK:=λ_ _ _=>False
def ah0:Passes CX0 X E0:=λ_ _ _ _ _ _ _ h=>h.elim
structure Fun(K:Fg)(x qual:Str)(st:Stmt)(f:Addr)(fd:FuncData):Prop where
 ex:∃(oc:Value)(od:Option Addr)(kV doc pm:Value)(an:Option Addr)(cdv ct:Value)(osl:Array (Option Value)),
  fd=PySem.W.fnOf x qual (Ip st) (Ga st) (Bd st) .none kV doc pm an cdv ct/\K.lookup f=some ⟨oc,od,.func fd,osl⟩/\PySem.W.codeIn K cdv qual=true
 kp:PySem.W.keepIn K (.ref f)=true
def Fun.ok{K:Fg}{st:Stmt}(F:Fun K x qual st f fd)(S:Vc N ps (Bd st))(len:∀R H Q E,sp R H Q E->R.length=ps.length)(qv:∀(U:Value) (A:Around) (Z:List Env) (s:Shared) (H:Hp) (R:List V) (Q:VK) (E:XK),Af k (A.deeper (envOfC qual (Bd st) s.heap.objs.size f U))->sp R H Q E ->
 ∃t,Q3 (af0 CX0 P w K mg base N qual (Bd st) f U A Z s H E).nox (Ga st) t/\t { nx:=λ_ H'=>Q .non H',rt:=Q } (start N R) H):Fj P w K mg base CX0 (k+1) f fd ps sp:=by
 obtain⟨oc,od,kV,q1,pm,an,U,ct,q0,rfl,lk,qk⟩:=F.ex;refine a8g lk qk S len λA Z s H R Q E hr qq=>?_
 obtain⟨t,h,q⟩:=qv U A Z s H R Q E hr qq;exact⟨t,h.nox,q⟩
def Fun.binds{K:Fg}{st:Stmt}(F:Fun K x qual st f fd)(h:∀(kV Z pm:Value) (an:Option Addr) (U ct:Value) (R:Zl),R.length=ps.length->bindArgs (PySem.W.fnOf x qual (Ip st) (Ga st) (Bd st) .none kV Z pm an U ct) ⟨R,[]⟩=pure (ps.zip R)):Binds K fd ps []:=by obtain⟨oc,od,kV,Z,pm,an,U,ct,qq,rfl,lk,qk⟩:=F.ex;exact .all (h kV Z pm an U ct)
def ao6{K:Fg}{st:Stmt}{f:Addr}{oc:Value}{od an:Option Addr}{R:Array (Option Value)}{kV U pm Z ct:Value}(l:K.lookup f=some ⟨oc,od,.func (PySem.W.fnOf x qual (Ip st) (Ga st) (Bd st) .none kV U pm an Z ct),R⟩)(c:PySem.W.codeIn K Z qual=true)(k:PySem.W.keepIn K (.ref f)=true):Fun K x qual st f (PySem.W.fnOf x qual (Ip st) (Ga st) (Bd st) .none kV U pm an Z ct):=⟨⟨oc,od,kV,U,pm,an,Z,ct,R,rfl,l,c⟩,k⟩
def ac9{A:Around}{k:Nat}(Z:Af k A):A.units+1<cLine:=Nat.lt_of_le_of_lt (Nat.add_le_add_left (by decide:1<=64) _) Z.units
end L2
namespace L2
open PySem PySem.Spec PyProof.Rows
def ada:fillsNumberSlot (.type "tuple") "mul" = pure false :=
 PySem.fillsNumberSlot_seq (id := "tuple.__mul__") (r:=some (.builtin "tuple.__rmul__")) yc.lookup (by decide+kernel) F.slot_tuple_rmul.lookup (by decide+kernel)
def ao7:seqRepeat? (.type "tuple")=pure (some (.builtin "tuple.__mul__")):=by unfold seqRepeat?;rw[PySem.seqSlot_of (T := "tuple") (name := "__mul__") (id := "tuple.__mul__") yc.lookup (by decide+kernel),PySem.seqSlot_of (T := "tuple") (name := "__rmul__") (id := "tuple.__rmul__") F.slot_tuple_rmul.lookup (by decide+kernel)];rfl
def a1m(a:Int)(t:Tok)(l:Addr)(Z:U1)(n:Nat)(dd:Option Addr)(U:Array (Option Value)) :
 Meets (Builtin.«int.__rmul__» ⟨[.int a t,.ref l],[]⟩) (λ_ R s=>s.heap.get? l=some { cls:=.type "tuple",dict:=dd,data:=.seq Z n,slots:=U }/\R (.ok (.ret Value.notImplemented)) s) :=
 .of_wp λprog w A R s h=>by obtain⟨hp,g,d,tk,os⟩:=s;obtain⟨hl,h⟩:=h;wp_walk;exact⟨_,rfl,h⟩
def a8v(l:Addr)(Z:U1)(n:Nat)(dd:Option Addr)(U:Array (Option Value))(u:Tok) :
 Meets (Builtin.«tuple.__mul__» ⟨[.ref l,.int 1 u],[]⟩) (λ_ R s=>s.heap.get? l=some { cls:=.type "tuple",dict:=dd,data:=.seq Z n,slots:=U }/\R (.ok (.ret (.ref l))) s) :=
 .of_wp λprog w A R s h=>by obtain⟨hp,g,d,tk,os⟩:=s;obtain⟨hl,h⟩:=h;wp_walk;exact⟨_,rfl,h⟩
def a8w(l:Addr)(x:Value)(n:Nat)(U:Option Addr)(Z:Array (Option Value))(u:Tok) :
 Meets (Builtin.«tuple.__mul__» ⟨[.ref l,.int 0 u],[]⟩) (λ_ R s=>s.heap.get? l=some { cls:=.type "tuple",dict:=U,data:=.seq #[x] n,slots:=Z }/\R (.ok (.ret (.ref s.heap.objs.size))) { s with heap:=s.heap.push { cls:=.type "tuple",data:=.seq #[] } }) :=
 .of_wp λprog w A R s h=>by obtain⟨hp,g,d,tk,os⟩:=s;obtain⟨hl,h⟩:=h;wp_walk;exact⟨_,rfl,h⟩
theorem adb(x:Value):∀(k:Nat)(a:U1),List.foldl (λU Z=>U++Z) a (List.replicate k #[x])=a++(List.replicate k x).toArray
 |0,a=>by simp|k+1,a=>by rw[List.replicate_succ,Ad,adb x k,Array.append_assoc,List.replicate_succ];congr 1;apply Array.ext';simp
theorem ayc(r:RelV d v):∀k:Nat,Vals (List.replicate k d) (List.replicate k v)
 |0=>.nil|k+1=>.cons r (ayc r k)
def a8x(l:Addr)(x:Value)(k n:Nat)(dd:Option Addr)(U:Array (Option Value))(u:Tok)(h2:2<=k)(hk:k<=100000) :
 Meets (Builtin.«tuple.__mul__» ⟨[.ref l,.int k u],[]⟩) (λ_ R s=>s.heap.get? l=some { cls:=.type "tuple",dict:=dd,data:=.seq #[x] n,slots:=U }/\R (.ok (.ret (.ref s.heap.objs.size))) { s with heap:=s.heap.push { cls:=.type "tuple",data:=.seq (List.replicate k x).toArray } }) :=
 .of_wp λprog w A R s h=>by
  obtain⟨hp,g,d,tk,os⟩:=s;obtain⟨hl,h⟩:=h;have e:=adb x k #[];rw[Array.empty_append] at e;rw[<- e] at h;have a1:¬(decide ((k:Int) < -2 ^ 63)||decide ((k:Int) >= 2 ^ 63))=true:=by simp;omega
  have a2:¬(Array.isEmpty #[x]||(k:Int)==1)=true:=by simp;omega
  have a3:¬(decide ((k:Int)<=0)||Array.isEmpty #[x])=true:=by simp;omega
  have Z:¬((Array.size #[x]:Nat):Int)*(k:Int) > (2 ^ 63-1) / 8:=by simp;omega
  have a5:¬Builtin.Tuple.tupleTooMany (((Array.size #[x]:Nat):Int)*(k:Int))=true:=by simp[Builtin.Tuple.tupleTooMany,sizeLine];omega
  wp_walk;refine vy (j8 a1) ?_
  wp_walk;refine vy (j8 a2) ?_
  wp_walk;refine vy (j8 a3) ?_
  wp_walk;refine vy (j8 Z) ?_
  wp_walk;refine vy (j8 a5) ?_
  wp_walk;refine vy (j8 (Nat.not_lt.mpr (by show Array.size (List.foldl _ _ (List.replicate k _))<=_;rw[e,gq,yh];exact gw hk (by decide)))) ?_
  wp_walk
  exact⟨_,rfl,h⟩
def au9:De X (binaryOp .Mult) (λx y H Q=>∃a v,∃k:Nat,x=.ref a/\y=.int k/\Ia X.K H a [v]/\k<=100000/\(k=1->Q (.ref a) H)/\∀p,H p=none->Q (.ref p) (upd H p (.tup (List.replicate k v)))):=by
 intro qq s σ H x y v u Q I rx ry h;obtain⟨a,d,k,rfl,rfl,ha,hk,q1,q2⟩:=h;cases rx;obtain⟨t,rfl⟩:=ry;obtain⟨wj,r1,p1,_⟩:=I.tuple ha;cases r1 with
 |cons r1 r2 =>
  cases r2;obtain⟨⟨qv,dd,qk,sl⟩,R,hc,n,hd⟩:=id p1;simp only at hc hd;subst hc hd;refine wpAny_binaryOp_repeat_ref (T := "tuple") (U := "int") (by decide) ⟨_,R,rfl⟩ (λs'=>typeIs_int s' _ _) ada F.fills_int_mul F.slot_int_rmul ao7 F.slot_int_index.lookup
   (call_meets F.slot_int_rmul (typeIs_int s _ _) F.entry_int_rmul (F.args_int_rmul_2 _ _) (a1m _ _ a _ n dd sl) ⟨R,rfl,⟨_,R,rfl⟩,?_⟩)
  have go:∀Z:List Value,Z=List.replicate k _->Inv X qq σ (upd H s.heap.objs.size (.tup (List.replicate k d))) { s with heap:=s.heap.push { cls:=.type "tuple",data:=.seq Z.toArray } }:=λZ e=>I.laid (t':=s.toks) (o:=.tup (List.replicate k d)) (λb ob q=>ao _ q) (bc _) ⟨by rw[yh];exact gw hk (by decide),_,by rw[e];exact ayc r1 k,Xz.new _ _⟩
  by_cases h1:k=1
  .subst h1
   exact call_meets yc ⟨_,R,rfl⟩ F.entry_tuple_mul (F.args_tuple_mul_2 _ _) (a8v a _ n dd sl t) ⟨R,.ref a,H,I,rfl,q1 rfl⟩
  by_cases h0:k=0
  .subst h0
   exact call_meets yc ⟨_,R,rfl⟩ F.entry_tuple_mul (F.args_tuple_mul_2 _ _) (a8w a _ n dd sl t) ⟨R,.ref s.heap.objs.size,_,go [] rfl,rfl,q2 _ (I.zm.fresh (bc _))⟩
  .exact call_meets yc ⟨_,R,rfl⟩ F.entry_tuple_mul (F.args_tuple_mul_2 _ _) (a8x a _ k n dd sl t (by omega) hk) ⟨R,.ref s.heap.objs.size,_,go _ rfl,rfl,q2 _ (I.zm.fresh (bc _))⟩
noncomputable def Dn(cells:Xt):List (Str×NameKind)->List (Str×Addr)->List (Str×Addr)
 |[],cs=>cs|(n,k)::r,cs=>Dn cells r (if k==.free then(n,(cells.lookup n).getD 0)::cs else cs)
theorem Uh{U Z:Type}{f:U->Z->Sem (ForInStep Z)}{g:U->Z->Z}:∀{l:List U}(c:Z),(∀x∈l,∀c,f x c=pure (.yield (g x c)))->forIn l c f=pure (l.foldl (λc x=>g x c) c)
 |[],c,_=>rfl
 |x::l,c,h=>by
  rw[List.forIn_cons,h x cz,pure_bind];exact Uh (g x c) λy R=>h y (bf _ R)
theorem Ui(cells:Xt):∀(l:X0)(Z:Xt),Dn cells l Z=l.foldl (λc x=>if x.2==.free then(x.1,(cells.lookup x.1).getD 0)::c else c) Z
 |[],_=>rfl|(n,k)::r,Z=>Ui cells r _
def Wn(h:∀y∈scope.names,y.2=.free->∃c,env.cells.lookup y.1=some c):closureFor scope env=pure (Dn env.cells scope.names []):=by
 simp only[closureFor];rw[Uh (g:=λx c=>if x.2==.free then(x.1,(env.cells.lookup x.1).getD 0)::c else c) [] (λx hx c=>by
  obtain⟨n,k⟩:=x
  by_cases U:k=.free
  .subst U
   obtain⟨c',Z⟩:=h (n,.free) hx rfl;have Z:env.cells.lookup n=some c':=Z;simp[cellOf,Z]
  .have R:(k==NameKind.free)=false:=by simpa using U
   simp[R]),Ui]
 rfl
theorem ade(cells:Xt):∀(l:X0)(Z:Xt)(x:Str)(c:Addr),(∀y∈l,y.2=.free->∃c,cells.lookup y.1=some c)->(Dn cells l Z).lookup x=some c ->
 Z.lookup x=some c\/cells.lookup x=some c
 |[],Z,x,c,_,h=>.inl h
 |(n,k)::r,Z,x,c,hy,h=>by
  rcases ade cells r _ x c (λz hz=>hy z (bf _ hz)) h with q|q
  .by_cases R:k=.free
   .subst R
    simp only[zj,j5,o5] at q;cases e:x==n with
    |true =>
     rw[e] at q;obtain⟨c',U⟩:=hy (n,.free) cz rfl;have U:cells.lookup n=some c':=U;simp only[U,Option.getD_some,Option.some.injEq] at q;subst q;rw[eq_of_beq e];exact .inr U
    |false=>rw[e] at q;exact .inl q
   .have hb:(k==NameKind.free)=false:=by simpa using R
    simp only[hb,cu,jd] at q;exact .inl q
  .exact .inr q
theorem Wo(cells:Xt):∀(l:X0)(Z:Xt)(x:Str),(∃c,Z.lookup x=some c)->∃c,(Dn cells l Z).lookup x=some c
 |[],Z,x,h=>h
 |(n,k)::r,Z,x,h=>by
  refine Wo cells r _ x ?_
  by_cases U:(k==NameKind.free)=true
  .rw[cj U,o5]
   cases e:x==n with
   |true=>exact⟨_,rfl⟩|false=>exact h
  .rw[bw U];exact h
theorem S8(cells:Xt):∀(l:X0)(Z:Xt)(x:Str),(x,NameKind.free)∈l->∃c,(Dn cells l Z).lookup x=some c
 |(n,k)::r,Z,x,h=>by
  rcases bz.mp h with q|q
  .obtain⟨rfl,rfl⟩:=Prod.mk.inj q
   refine Wo cells r _ x ⟨(cells.lookup x).getD 0,?_⟩;rw[cj (by simp),o5,zj]
  .exact S8 cells r _ x q
theorem Nz{Z:Env}:∀{U:X0}{x:Str},
 (U.map λ(y:Str×NameKind)=>if(y.2==NameKind.free&&Z.scope.kind==.function&&Z.kindOf y.1==some .cell) then(y.1,NameKind.cell) else(y.1,y.2)).lookup x
  = (U.lookup x).map λk=>if(k==NameKind.free&&Z.scope.kind==.function&&Z.kindOf x==some .cell) then NameKind.cell else k
 |[],_=>rfl
 |(n,k)::r,x=>by
  have ih:=@Nz Z r x;rw[gh];cases hx:x==n with
  |true =>
   have e:=eq_of_beq hx;subst e;clear hx
   by_cases R:(k==NameKind.free&&Z.scope.kind==.function&&Z.kindOf x==some .cell)=true
   .simp only[R,j5,o5,zj,vd]
   .have hb:(k==NameKind.free&&Z.scope.kind==.function&&Z.kindOf x==some .cell)=false:=by simpa using R
    simp only[hb,cu,jd,o5,zj,vd]
  |false =>
   by_cases R:(k==NameKind.free&&Z.scope.kind==.function&&Z.kindOf n==some .cell)=true
   .simp only[R,j5,o5,hx];exact ih
   .simp only[R,o5,hx];simpa[o5,hx] using ih
theorem mem_of_lookup{Z U:Type}[BEq Z][LawfulBEq Z]:∀{l:List (Z×U)}{x:Z}{y:U},l.lookup x=some y->(x,y)∈l
 |(a,b)::r,x,y,h=>by
  rw[o5] at h;cases e:x==a with
  |true=>rw[e] at h;cases h;rw[eq_of_beq e];exact cz|false=>rw[e] at h;exact bf _ (mem_of_lookup h)
def Dp{Z:Type}{v:Z}{r:List (Str×Z)}:((k,v)::r).lookup x=if x=k then some v else r.lookup x:=by
 rw[o5]
 by_cases h:x=k
 .rw[cj h,show(x==k)=true from beq_iff_eq.mpr h]
 .rw[bw h,show(x==k)=false from qu.mpr h]
set_option tactic.hygienic true in
theorem ah1:∀(l:X0)(n:Nat)(Z:Xt)(x:Str)(c:Addr),(cellsFrom n l Z).lookup x=some c->((x,NameKind.cell)∈l/\n<=c)\/Z.lookup x=some c
 |[],_,_,_,_,h=>.inr h
 |(k,kd)::r,n,Z,x,c,h=>by
  unfold cellsFrom at h;split at h
  .rename_i e
   rcases ah1 r _ _ x c h with⟨q,l⟩|q
   .exact .inl ⟨bf _ q,by omega⟩
   .rw[Dp] at q
    split at q
    .rename_i z
     cases q;exact .inl ⟨by rw[z,eq_of_beq e];exact cz,bc _⟩
    .exact .inr q
  .rcases ah1 r _ _ x c h with⟨q,l⟩|q
   .exact .inl ⟨bf _ q,l⟩
   .exact .inr q
set_option tactic.hygienic true in
theorem aan:∀(l:X0)(n:Nat)(Z:Xt)(x:Str),((x,NameKind.cell)∈l\/∃c,Z.lookup x=some c)->∃c,(cellsFrom n l Z).lookup x=some c
 |[],_,_,_,h=>by rcases h with q|q;cases q;exact q
 |(k,kd)::r,n,Z,x,h=>by
  unfold cellsFrom;split
  .refine aan r _ _ x ?_
   by_cases z:x=k
   .exact .inr ⟨n,by rw[Dp,cj z]⟩
   .rcases h with q|q
    .rcases bz.mp q with q|q
     .cases q;exact absurd rfl z
     .exact .inl q
    .exact .inr (by rw[Dp,bw z];exact q)
  .rename_i e
   refine aan r _ _ x ?_;rcases h with q|q
   .rcases bz.mp q with q|q
    .cases q;exact absurd rfl e
    .exact .inl q
   .exact .inr q
set_option tactic.hygienic true in
theorem ao8:∀(l:X0)(n:Nat)(Z:Xt)(x:Str),(x,NameKind.cell)∉l->(cellsFrom n l Z).lookup x=Z.lookup x
 |[],_,_,_,_=>rfl
 |(k,kd)::r,n,Z,x,h=>by
  have Y:(x,NameKind.cell)∉r:=λq=>h (bf _ q)
  unfold cellsFrom;split
  .rename_i e
   rw[ao8 r _ _ x Y,Dp,bw];intro z;exact h (by rw[z,eq_of_beq e];exact cz)
  .exact ao8 r _ _ x Y
set_option tactic.hygienic true in
theorem af7:∀(l:X0)(n:Nat)(Z:Xt),(∀x c,Z.lookup x=some c->c<n)->(∀x y c,Z.lookup x=some c->Z.lookup y=some c->x=y)->∀x y c,(cellsFrom n l Z).lookup x=some c->(cellsFrom n l Z).lookup y=some c->x=y
 |[],_,_,_,h=>h
 |(k,kd)::r,n,Z,lt,h=>by
  unfold cellsFrom;split
  .refine af7 r _ _ (λx c q=>?_) (λx y c G Y=>?_)
   .rw[Dp] at q
    split at q
    .cases q;exact qd n
    .exact qg (lt x c q)
   .rw[Dp] at G Y
    split at G<;>split at Y
    .rename_i a b;rw[a,b]
    .cases G;exact absurd (lt y _ Y) (lq _)
    .cases Y;exact absurd (lt x _ G) (lq _)
    .exact h x y c G Y
  .exact af7 r _ _ lt h
set_option tactic.hygienic true in
theorem aao:∀(l:X0)(h:Heap)(Z:Xt),(∀x c,Z.lookup x=some c->∃v,h.IsCell c v)->∀x c,(cellsFrom h.objs.size l Z).lookup x=some c->∃v,(pushCells h l).IsCell c v
 |[],_,_,k,x,c,q=>k x c q
 |(n,kd)::r,h,Z,k,x,c,q=>by
  unfold cellsFrom at q;unfold pushCells;split at q
  .rename_i e
   rw[cj e];have sz:(h.push { cls:=.type "cell",data:=.cell none }).objs.size=h.objs.size+1:=iz _ _;rw[<- sz] at q;refine aao r _ _ (λx c q=>?_) x c q;rw[Dp] at q;split at q
   .cases q;exact⟨none,_,bu _ rfl,rfl⟩
   .obtain⟨v,Y⟩:=k x c q
    exact⟨v,Y.keeps λb o e=>ao _ e⟩
  .rename_i e
   rw[bw e];exact aao r _ _ k x c q
set_option tactic.hygienic true in
theorem Wq(cells:Xt):∀(l:X0)(Z:Xt)(x:Str)(c:Addr),(Dn cells l Z).lookup x=some c->(x,NameKind.free)∈l\/Z.lookup x=some c
 |[],_,_,_,h=>.inr h
 |(k,kd)::r,Z,x,c,h=>by
  unfold Dn at h;rcases Wq cells r _ x c h with q|q
  .exact .inl (bf _ q)
  .split at q
   .rename_i e
    rw[Dp] at q;split at q
    .rename_i z
     exact .inl (by rw[z,eq_of_beq e];exact cz)
    .exact .inr q
   .exact .inr q
def akj(h:Q { scope:=scope,locals:=s.heap.objs.size,globals:=globals,cells:=cellsFrom (s.heap.objs.size+1) scope.names cl,qual:=qual,func:=none,code:=around.code,frame:=around.frame,builtins:=around.builtins } { s with heap:=pushCells (s.heap.push { cls:=.type "dict",data:=.dict #[] }) scope.names }) :
 wpAny M A (newFunctionEnv scope globals cl [] qual none .none (some around)) Q E s:=by
 simp only[newFunctionEnv,Option.isSome_some,j5];refine aa (wpAny_alloc ?_);refine aa (wpAny_layCells _ (λU Z cells=>by cases hkc:Z==NameKind.cell<;>simp[hkc]) _ _ _ _ ?_);rw[show({ s with heap:=s.heap.push { cls:=.type "dict",data:=.dict #[] } }:Shared).heap.objs.size=s.heap.objs.size+1 from iz ..];exact aa (aj (aj h))
noncomputable def Ls(X:Cx)(N:Yf)(Z:Scope)(C:Addr)(U:X9)(s:Shared)(H:Hp):Cx where
 prog:=X.prog
 w:=X.w
 K:=X.K
 mg:=X.mg
 base:=X.base
 A:=X.A
 N:=N
 s₀:=s
 H₀:=H
 env:=compEnvC Z (cellsFrom (C+1) Z.names (Dn X.env.cells Z.names [])) C X.env
 outer:=X.stack
 stack:=X.stack
 ex:=U
 fn:=λx=>Z.names.lookup x==some .cell
 calm:=X.calm
 pn:=[]
 xe:=λ_ _=>False
structure Em(X:Cx)(N:Yf)(scope:Scope):Prop where
 kind:scope.kind=.function
 locs:∀y∈scope.names,y.2=.local->scope.names.lookup y.1=some .local
 frees:∀y∈scope.names,y.2=.free->X.env.kindOf y.1=some .cell\/X.env.kindOf y.1=some .free
 uniq:∀x k,(x,k)∈scope.names->scope.names.lookup x=some k
 long:X.N.length<=N.length
 vis:∀i x,i<X.N.length->N[i]?=some x->Vis (relabel scope X.env) x->X.N[i]?=some x/\scope.names.lookup x=some .free
theorem Em.cells(B:Em X N scope)(ok:X.Ok):∀y∈scope.names,y.2=.free->∃c,X.env.cells.lookup y.1=some c:=λy U Z=>ok.has y.1 (B.frees y U Z)
def Em.clos(B:Em X N scope)(ok:X.Ok):closureFor scope X.env=pure (Dn X.env.cells scope.names []):=Wn (B.cells ok)
def Em.inCells(B:Em X N scope)(ok:X.Ok)(h:(Dn X.env.cells scope.names []).lookup x=some c):X.env.cells.lookup x=some c:=by
 rcases ade _ _ _ _ _ (B.cells ok) h with q|q
 .simp at q
 .exact q
def adf{X:Cx}(x:Str):(compEnvC scope cl C X.env).kindOf x=(scope.names.lookup x).map λk=>if(k==NameKind.free&&X.env.scope.kind==.function&&X.env.kindOf x==some .cell) then NameKind.cell else k:=by show(relabel scope X.env).names.lookup x=_;exact Nz
def Em.af8(B:Em X N scope)(ok:X.Ok)(h:(cellsFrom (C+1) scope.names (Dn X.env.cells scope.names [])).lookup x=some c):(scope.names.lookup x=some .cell/\C+1<=c)\/X.env.cells.lookup x=some c:=by
 rcases ah1 _ _ _ _ _ h with⟨q,l⟩|q
 .exact .inl ⟨B.uniq _ _ q,l⟩
 .exact .inr (B.inCells ok q)
def akk(B:Em X N scope)(I:Inv X pins σ H s)(hf:∀b∈fp,Uz X pins H b)(q0:∀b∈fp,∃o,s.heap.get? b=some o)(q3:Z.Ns (s.heap.objs.size+1) λ_=>none)(hk:∀b o,s.heap.get? b=some o->Z.get? b=some o)(Ep:Z.get? s.heap.objs.size=some { cls:=.type "list",data:=.seq ([]:Zl).toArray })(q5:∀x c,(cellsFrom (s.heap.objs.size+1+1) scope.names (Dn X.env.cells scope.names [])).lookup x=some c->∃v,Z.IsCell c v) :
 Inv (Ls X N scope (s.heap.objs.size+1) fp s H) [] (σ++List.replicate (N.length-X.N.length) none) (upd H s.heap.objs.size (.lst [])) { s with heap:=Z,toks:=t }:=by
 have ok:=I.ok;have hD:H s.heap.objs.size=none:=I.zm.fresh (bc _);have hC:H (s.heap.objs.size+1)=none:=I.zm.fresh (vh _);have q4:s.heap.objs.size+1≠s.heap.objs.size:=Nat.succ_ne_self _;have lt:∀b∈fp,b<s.heap.objs.size:=λb hb=>by obtain⟨o,e⟩:=q0 b hb;exact az e
 have qq:∀x c,X.env.cells.lookup x=some c->c<s.heap.objs.size:=λx c e=>by obtain⟨v,o,ho,_⟩:=I.cell x c e;exact az ho
 refine⟨⟨ok.mod,B.kind,ok.glob,ok.blt,vh _,?_,?_,?_,ok.hd,ok.frames,.inl rfl,?_,λb o e=>I.bs b o e,gw ok.bsz I.sz,?_,?_,I.stack,I.ahp⟩,rfl,I.bare,?_,?_,?_,?_,?_,?_,?_,?_⟩
 .intro x y c hx hy
  refine af7 scope.names (s.heap.objs.size+1+1) (Dn X.env.cells scope.names []) (λx c q=>?_) (λx y c q1 q2=>ok.inj x y c (B.inCells ok q1) (B.inCells ok q2)) x y c hx hy;exact qg (qg (qq x c (B.inCells ok q)))
 .intro x hx
  rw[show(Ls X N scope (s.heap.objs.size+1) fp s H).env.kindOf x=_ from adf x] at hx;cases e:scope.names.lookup x with
  |none=>rw[e] at hx;rcases hx with q|q<;>simp at q
  |some k =>
   have Pb:k=.free\/k=.cell:=by
    rw[e] at hx;cases k with
    |free=>exact .inl rfl|cell=>exact .inr rfl|«local»=>rcases hx with q|q<;>simp at q
    |globalExplicit=>rcases hx with q|q<;>simp at q
    |globalImplicit=>rcases hx with q|q<;>simp at q
   rcases Pb with rfl|rfl
   .exact aan _ _ _ _ (.inr (S8 _ _ _ _ (mem_of_lookup e)))
   .exact aan _ _ _ _ (.inl (mem_of_lookup e))
 .intro x c h hc
  have h:scope.names.lookup x=some .cell:=eq_of_beq h;show s.heap.objs.size<=c
  rcases ah1 _ _ _ _ _ hc with⟨_,l⟩|q
  .exact gw (yf _ 2) l
  .rcases Wq _ _ _ _ _ q with z|z
   .rw[B.uniq _ _ z] at h;cases h
   .cases z
 .intro b hb
  refine⟨λe=>?_,λx c hc e=>?_⟩
  .have q:=lt b hb
   have e:b=s.heap.objs.size+1:=e;rw[e] at q;exact absurd q (Nat.not_lt.mpr (vh _))
  .obtain⟨_,_,_,_,f4,_⟩:=hf b hb
   rcases B.af8 ok hc with⟨_,l⟩|hc
   .have q:=lt b hb
    rw[<- e] at q;exact absurd (ie (qg (qg q)) l) (lq _)
   .exact f4 x c hc e
 .intro b o e hb
  obtain⟨_,_,_,f3,_⟩:=hf b hb;rcases f3 with q|q
  .exact ok.aoa b o e q
  .exact lq _ (ie (az e) (gw ok.bsz q))
 .intro b hb q
  obtain⟨_,f1,f2,_⟩:=hf b hb;rcases bz.mp (I.aaf b q) with z|z
  .exact f1 z
  .exact f2 z
 .exact Un.laid hk (bc _) hD
 .refine⟨_,q3,λi x v hN U hv=>?_⟩
  have hi:i<X.N.length:=by
   rcases xj i σ.length with q|q
   .rw[I.len] at q;exact q
   .rw[jq q] at U
    rw[List.getElem?_replicate] at U;split at U<;>simp at U
  rw[dq (by rw[I.len];exact hi)] at U;obtain⟨hx,Pb⟩:=B.vis i x hi hN hv;obtain⟨m,_,hl⟩:=I.loc;have qk:=B.frees _ (mem_of_lookup Pb) rfl;have qv:Vis X.env.scope x:=by
   rcases qk with q|q
   .exact .inr (.inl q)
   .exact .inr (.inr q)
  obtain⟨u,ru,lu⟩:=hl i x v hx U qv;refine⟨u,ru,.inr ⟨?_,?_⟩⟩
  .rw[show(Ls X N scope (s.heap.objs.size+1) fp s H).env.kindOf x=_ from adf x,Pb]
   simp only[vd];split
   .exact .inl rfl
   .exact .inr rfl
  .rcases lu with⟨q,_⟩|⟨_,c,hc,ic⟩
   .rcases qk with z|z<;>rw[q] at z<;>cases z
   .obtain⟨c',R⟩:=S8 X.env.cells scope.names [] x (mem_of_lookup Pb)
    have:=B.inCells ok R;rw[hc] at this;cases this;refine⟨c,?_,ic.keeps hk⟩;show(cellsFrom (s.heap.objs.size+1+1) scope.names (Dn X.env.cells scope.names [])).lookup x=some c;rw[ao8 _ _ _ _ λz=>by rw[B.uniq _ _ z] at Pb;cases Pb];exact R
 .exact q5
 .show upd H s.heap.objs.size (.lst []) (s.heap.objs.size+1)=none
  rw[j9 q4];exact hC
 .intro x c hc
  rcases B.af8 ok hc with⟨_,l⟩|R
  .have l:s.heap.objs.size+1+1<=c:=l
   rw[j9 (vm (ie (qg (qd _)) l))];exact I.zm.fresh (gw (yf _ 2) l)
  .rw[j9 (gf (qq x c R))]
   exact I.Nu x c R
 .intro p hp;simp[Ls] at hp
 .exact Pa.laid I.zm hk (bc _) ⟨jr _,[],0,.nil,Ep⟩
 .show(σ++List.replicate (N.length-X.N.length) none).length=N.length
  rw[ph,yh,I.len];have:=B.long;omega
def N5(I:Nat->Shared->Prop)(q6:∀n s,I n s->wpAny (model prog w) A (pyNext it) (λr qq=>match r with
 |none=>R (.ok .next) qq
 | some v=>wpAny (model prog w) A (letOwnedTupleGo target it v) (λ_ Z=>wpAny (model prog w) A (assign target env v) (λ_ qv =>
  wpAny (model prog w) A (forIn ifs true λc r=>if r=true then do let ok <- isTrue c env (eval c env);pure (ForInStep.yield ok) else pure (ForInStep.yield r)) (λok U =>
   if ok=true then wpAny (model prog w) A (eval elt env) (λx q0 =>
    wpAny (model prog w) A (call (.builtin "list.append") [acc,x]) (λ_ qk=>∃m,m<n/\I m qk) (λ_ _=>False) q0) (λ_ _=>False) U
   else ∃m,m<n/\I m U) (λ_ _=>False) qv) (λ_ _=>False) Z) (λ_ _=>False) qq) (λ_ _=>False) s)(n:Nat)(h:I n s) :
 codeAny (model prog w) A (.compLoop (.ListComp elt [⟨target,iter,ifs,0⟩] scope pos) 0 it acc env) R s:=by
 have nv:∀{α:Type}{t:Sem α}{Q:α->Shared->Prop}{E:Y1}{s:Shared},wpAny (model prog w) A t Q (λ_ _=>False) s->wpAny (model prog w) A t Q E s:=λh=>m7 h (λ_ _ q=>q) λ_ _ f=>f.elim
 refine codeAny_loop rfl I (λn s hI=>?_) n h;show wpAny _ A ((compTurn (.ListComp elt [⟨target,iter,ifs,0⟩] scope pos) 0 it acc env).onRaise (λx=>do noteFrame x env;theTreesLotGoes x)) _ _ s;refine wpAny_noted ?_;rw[compTurn_list];refine aa (wpAny_standAt (aa (m7 (q6 n s hI) (λr qq q2=>?_) λ_ _ h'=>h'.elim)));cases r with
 |none=>exact aj q2
 |some v =>
  refine aa (m7 q2 (λ_ Z q3=>?_) λ_ _ h'=>h'.elim);refine aa (m7 q3 (λ_ qv q5=>aa (m7 q5 (λok U q1=>?_) λ_ _ h'=>h'.elim)) λ_ _ h'=>h'.elim);cases ok with
  |false=>exact aj ⟨rfl,q1⟩
  |true =>
   exact aa (aa (m7 q1 (λx q0 q4=>aa (m7 q4 (λ_ qk q7=>aj (aj ⟨rfl,q7⟩)) λ_ _ h'=>h'.elim)) λ_ _ h'=>h'.elim))
def adg(k:Nat)(wi:TI)(g:TG)(tc:TT)(te:TE):TE:=λR H Q=>wi R H λJ H1=>∀D,H1 D=none->∃W:Nat->Nat->Hp->Prop,(∃m,W 0 m (upd H1 D (.lst [])))/\∀i m H,W i m H ->
 (J.stop i H/\Q (.ref D) H)\/(J.go i H/\∀x H',J.yld i H x H'->g x (R++List.replicate k none) H' λZ H2=>Z.length=(R++List.replicate k none).length /\
  (∀(j:Nat) v,(R++List.replicate k none)[j]?=some (some v)->Z[j]?=some (some v))/\tc Z H2 λb H3 =>
   if b=true then te Z H3 λv H4=>∃xs U,H4 D=some (.lst xs)/\xs.length<sizeLine/\U<m/\W (i+1) U (upd H4 D (.lst (xs++[v]))) else ∃U,U<m/\W (i+1) U H3)
def PTs(X:Cx)(Z:Ya)(U:TT):Prop:=(Z=[]/\U=λ_ H Q=>Q true H)\/∃c,Z=[c]/\PT X c U
def Y8(I:Inv X pins σ H s)(hf:∀b∈fp,Uz X pins H b)(J:Inv (Ls X N scope (s.heap.objs.size+1) fp s H) [] qq U s3):Inv X pins σ U s3/\∃m,s3.heap.Ns (s.heap.objs.size+1) m:=by
 refine⟨I.call' J.os J.base J.zm J.bare λb Z=>?_,?_⟩
 .obtain⟨_,f1,_,f3,f4,f5⟩:=hf b Z
  exact⟨f3,f1,f4,f5⟩
 .obtain⟨m,R,_⟩:=J.loc
  exact⟨m,R⟩
def akl(I:Inv X pins σ H s)(I3:Inv X pins σ U s3)(hC:U (s.heap.objs.size+1)=none)(hs:Heap.SameBut (s.heap.objs.size+1) s3.heap h'):Inv X pins σ U { s3 with heap:=h' }:=by
 have big:∀b o,s.heap.get? b=some o->b≠s.heap.objs.size+1:=λb o e z=>by have:=az e;rw[z] at this;exact absurd this (Nat.not_lt.mpr (vh _))
 refine I3.turned (t':=s3.toks) (λb o R e=>hs.extBut b o R e) hC ?_ (.inr (gw I.sz (vh _))) ?_ ?_
 .intro e
  obtain⟨m,⟨o,_,_,Z,_⟩,_⟩:=I.loc;exact big _ o Z e.symm
 .intro x c hc
  obtain⟨v,o,Z,_⟩:=I.cell x c hc;exact big c o Z
 .intro p hp
  exact big p.1 p.2 (I.pin p hp).1
def Wr{RR:Value->Addr->Result->Shared->Prop}(B:Em X N scope)(Ir:X.calm=true)(I:Inv X pins σ H s)(hf:∀b∈U,Uz X pins H b)(T:Turn X.prog X.w X.K tg J U it tn)(h0:tn 0 s.heap)(hg:∀C s H,PG (Ls X N scope C U s H) tg g)(hc:∀C s H,PTs (Ls X N scope C U s H) ifs tc)(he:∀C s H,PE (Ls X N scope C U s H) elt te){Q:VK}(W:Nat->Nat->Hp->Prop)(w0:W 0 m0 (upd H s.heap.objs.size (.lst [])))(z7:∀i m H,W i m H->(J.stop i H/\Q (.ref s.heap.objs.size) H)\/(J.go i H/\∀x H',J.yld i H x H'->g x (σ++List.replicate (N.length-X.N.length) none) H' λq2 H2=>q2.length=(σ++List.replicate (N.length-X.N.length) none).length /\
 (∀(j:Nat) v,(σ++List.replicate (N.length-X.N.length) none)[j]?=some (some v)->q2[j]?=some (some v))/\tc q2 H2 λb H3 =>
  if b=true then te q2 H3 λv H4=>∃xs R,H4 s.heap.objs.size=some (.lst xs)/\xs.length<sizeLine/\R<m/\W (i+1) R (upd H4 s.heap.objs.size (.lst (xs++[v]))) else ∃R,R<m/\W (i+1) R H3))(z9:∀z2 H3 s3,Inv (Ls X N scope (s.heap.objs.size+1) U s H) [] z2 H3 s3->Q (.ref s.heap.objs.size) H3->RR (.ref s.heap.objs.size) (s.heap.objs.size+1) (.ok .next) s3) :
 wpAny (model X.prog X.w) X.A (newList []) (λz5 z6=>wpAny (model X.prog X.w) X.A (newFunctionEnv scope X.env.globals (Dn X.env.cells scope.names []) [] X.env.qual none .none (some X.env)) (λq4 z4 =>
  codeAny (model X.prog X.w) X.A (.compStart (.ListComp elt [⟨tg,iter,ifs,0⟩] scope pos) 0 (.ref it) z5 { q4 with scope:=relabel scope X.env }) (RR z5 q4.locals) z4) E z6) E s:=by
 refine qi (akj ?_);have zv:(s.heap.push { cls:=.type "list",dict:=none,data:=.seq ([]:Zl).toArray }).objs.size=s.heap.objs.size+1:=iz _ _;obtain⟨Z,eh⟩:∃Z,Z=pushCells ((s.heap.push { cls:=.type "list",dict:=none,data:=.seq ([]:Zl).toArray }).push { cls:=.type "dict",data:=.dict #[] }) scope.names:=⟨_,rfl⟩;have up:∀b o,(s.heap.push { cls:=.type "list",dict:=none,data:=.seq ([]:Zl).toArray }).get? b=some o->Z.get? b=some o:=λb o e=>by rw[eh];exact pushCells_keeps _ _ b o (ao _ e)
 have q5:∀b o,s.heap.get? b=some o->Z.get? b=some o:=λb o e=>up b o (ao _ e)
 have Ep:Z.get? s.heap.objs.size=some { cls:=.type "list",data:=.seq ([]:Zl).toArray }:=up _ _ (bu _ rfl);have q1:Z.Ns (s.heap.objs.size+1) λ_=>none:=by rw[eh,<- zv];exact(Heap.Ns.new _ (.type "dict")).keeps (pushCells_keeps _ _)
 have yy:∀x c,(cellsFrom (s.heap.objs.size+1+1) scope.names (Dn X.env.cells scope.names [])).lookup x=some c->∃v,Z.IsCell c v:=by
  have yv:((s.heap.push { cls:=.type "list",dict:=none,data:=.seq ([]:Zl).toArray }).push { cls:=.type "dict",data:=.dict #[] }).objs.size=s.heap.objs.size+1+1:=by rw[iz,zv]
  rw[eh,<- yv];refine aao _ _ _ λx c q=>?_
  obtain⟨v,hv⟩:=I.cell x c (B.inCells I.ok q);exact⟨v,hv.keeps λb o e=>ao _ (ao _ e)⟩
 have q0:∀b∈U,∃o,s.heap.get? b=some o:=λb hb=>let ⟨o,e,_⟩:=T.obj 0 _ h0 b hb;⟨o,e⟩
 have I0:=akk (t:=s.toks) B I hf q0 q1 q5 Ep yy;have zk:∀{H':Hp},(∀b∈U,H' b=none)->∀b∈U,Uz (Ls X N scope (s.heap.objs.size+1) U s H) [] H' b:=λhn b hb=>by
  obtain⟨f0,f1,f2,f3,f4,f5⟩:=hf b hb;refine⟨hn b hb,?_,?_,.inl hb,?_,λp hp=>(by simp[Ls] at hp)⟩
  .intro z
   obtain⟨o,e⟩:=q0 b hb;have:=az e;rw[show b=s.heap.objs.size+1 from z] at this;exact absurd this (Nat.not_lt.mpr (vh _))
  .intro q
   rcases bz.mp (I.aaf b q) with z|z
   .exact f1 z
   .exact f2 z
  .intro x c hc
   rcases B.af8 I.ok hc with⟨_,l⟩|hc
   .intro z
    obtain⟨o,e⟩:=q0 b hb;have q:=az e;rw[<- z] at q;exact absurd (ie (qg (qg q)) l) (lq _)
   .exact f4 x c hc
 have z8:∀b∈U,upd H s.heap.objs.size (.lst []) b=none:=λb hb=>by obtain⟨o,e⟩:=q0 b hb;rw[j9 (gf (az e))];exact(hf b hb).1
 have q3:∀s':Shared,s'={ s with heap:=Z }->codeAny (model X.prog X.w) X.A (.compLoop (.ListComp elt [⟨tg,iter,ifs,0⟩] scope pos) 0 (.ref it) (.ref s.heap.objs.size) (compEnvC scope (cellsFrom (s.heap.objs.size+1+1) scope.names (Dn X.env.cells scope.names [])) (s.heap.objs.size+1) X.env))
  (RR (.ref s.heap.objs.size) (s.heap.objs.size+1)) s':=by
  rintro s' rfl;refine N5 (λn s'=>∃i qk H',Inv (Ls X N scope (s.heap.objs.size+1) U s H) [] qk H' s'/\(∀(j:Nat) v,(σ++List.replicate (N.length-X.N.length) none)[j]?=some (some v)->qk[j]?=some (some v))/\tn i s'.heap/\(∀b∈U,H' b=none)/\W i n H') ?_ m0
   ⟨0,_,_,I0,λ_ _ z=>z,T.keep 0 _ _ h0 (λb _ o e=>q5 b o e),z8,w0⟩
  rintro n s3 ⟨i,z2,H3,I3,k3,zw,z0,w3⟩;have z3:=I3.weak (σ':=σ++List.replicate (N.length-X.N.length) none) (by rw[I3.len];exact I0.len) k3;rcases z7 i n H3 w3 with⟨z1,qn⟩|⟨go,step⟩
  .refine Bf (T.done (Ls X N scope (s.heap.objs.size+1) U s H) rfl rfl rfl Ir i [] s3 _ H3 (λ_ _=>False) z3 (zk z0) zw z1) λr s4 z_=>?_
   obtain⟨hr,I4⟩:=z_;subst hr;exact z9 _ _ _ I4 qn
  .refine Bf (T.item (Ls X N scope (s.heap.objs.size+1) U s H) rfl rfl rfl Ir i [] s3 _ H3 (λ_ _=>False) z3 (zk z0) zw go) λr s4 z_=>?_
   obtain⟨u,hr,h4⟩:=z_;subst hr;refine Bf h4 λ_ s5 z_=>?_
   obtain⟨x,H5,I5,r5,y5,zz,yk⟩:=z_;have y1:=I5.pinned (zk yk) (T.obj _ _ zz);refine Bf (hg _ _ _ _ s5 _ H5 x u _ y1 r5 (step x H5 y5)) λ_ s6 z_=>?_
   obtain⟨qq,H6,I6,l6,k6,q6⟩:=z_;have qv:∀{ahq:Zp}{H7:Hp}{s7:Shared}{m:Nat},Inv (Ls X N scope (s.heap.objs.size+1) U s H) ([]++Sx U s5.heap) qq H7 s7->m<n->W (i+1) m H7 ->
    ∃m,m<n/\∃i qk H',Inv (Ls X N scope (s.heap.objs.size+1) U s H) [] qk H' s7/\(∀(j:Nat) v,(σ++List.replicate (N.length-X.N.length) none)[j]?=some (some v)->qk[j]?=some (some v))/\tn i s7.heap/\(∀b∈U,H' b=none)/\W i m H':=fun{_ H7 s7 m} I7 hm w7=>by
    refine⟨m,hm,i+1,qq,H7,I7.Ny,k6,T.keep _ _ _ zz λb hb o e=>(I7.pin (b,o) (gm _ (gm _ (Kp hb e)))).1,λb hb=>?_,w7⟩;obtain⟨o,e,d⟩:=T.obj _ _ zz b hb;exact(I7.pin (b,o) (gm _ (gm _ (Kp hb e)))).2.1
   have q8:wpAny (model X.prog X.w) X.A (forIn ifs true λc r=>if r=true then do let ok <- isTrue c (compEnvC scope (cellsFrom (s.heap.objs.size+1+1) scope.names (Dn X.env.cells scope.names [])) (s.heap.objs.size+1) X.env) (eval c (compEnvC scope (cellsFrom (s.heap.objs.size+1+1) scope.names (Dn X.env.cells scope.names [])) (s.heap.objs.size+1) X.env));pure (ForInStep.yield ok) else pure (ForInStep.yield r))
    (TP (Ls X N scope (s.heap.objs.size+1) U s H) ([]++Sx U s5.heap) qq λb H3 =>
     if b=true then te qq H3 λv H4=>∃xs R,H4 s.heap.objs.size=some (.lst xs)/\xs.length<sizeLine/\R<n/\W (i+1) R (upd H4 s.heap.objs.size (.lst (xs++[v]))) else ∃R,R<n/\W (i+1) R H3) (λ_ _=>False) s6:=by
    rcases hc (s.heap.objs.size+1) s H with⟨rfl,rfl⟩|⟨c,rfl,y0⟩
    .exact wpAny_tests_nil ⟨H6,I6,q6⟩
    .exact wpAny_tests_one (y0 _ s6 qq H6 _ I6 q6)
   refine Bf q8 λok s7 z_=>?_
   obtain⟨H7,I7,q7⟩:=z_;cases ok with
   |false =>
    obtain⟨R,hm,w7⟩:=(show ∃R,R<n/\W (i+1) R H7 from q7);exact qv (ahq:=[]) I7 hm w7
   |true =>
    show wpAny _ _ _ _ _ _;refine Bf (he _ _ _ _ s7 qq H7 _ I7 q7) λx s8 z_=>?_
    obtain⟨v,H8,I8,r8,xs,R,hD,hl,hm,w8⟩:=z_;refine Bf (Y6 _ s8 qq H8 (.ref s.heap.objs.size) [v] (.ref s.heap.objs.size) [x] (λ_ H'=>W (i+1) R H') I8 rfl (.cons r8 .nil) ⟨_,xs,v,rfl,rfl,hD,hl,w8⟩) λ_ s9 z_=>?_
    obtain⟨_,H9,I9,_,w9⟩:=z_;exact qv (ahq:=[]) I9 hm w9
 rw[<- eh,zv];exact codeAny_compStart_list (q3 _ rfl) (T.self _ 0 _ _ _ (T.keep 0 _ _ h0 (λb _ o e=>q5 b o e)) (q3 _ rfl))
def ah2(B:Em X N scope)(Ir:X.calm=true)(hi:PI X tg iter wi)(hg:∀C Z s H,PG (Ls X N scope C Z s H) tg g)(hc:∀C Z s H,PTs (Ls X N scope C Z s H) ifs tc)(he:∀C Z s H,PE (Ls X N scope C Z s H) elt te)(hs:∀x,foldedSetIterable iter X.env x=pure x):PE X (.ListComp elt [⟨tg,iter,ifs,0⟩] scope pos) (adg (N.length-X.N.length) wi g tc te):=by intro U s σ H Q I h;rw[eval_ListComp];refine wpAny_comprehension_free (use:=none) rfl hs (B.clos I.ok) B.kind B.locs (Bf (hi U s σ H _ I h) λv s1 h1=>Bf h1 λqv s2 h2=>?_);obtain⟨it,Z,tn,J,H2,rfl,I2,T,qq,f2,q2⟩:=h2;obtain⟨W,⟨m0,w0⟩,R⟩:=q2 s2.heap.objs.size (I2.zm.fresh (bc _));refine Wr (RR:=λqk C=>compPost (model X.prog X.w) X.A X.xe none (EP X U σ Q) qk C) B Ir I2 f2 T qq (λC s H=>hg C Z s H) (λC s H=>hc C Z s H) (λC s H=>he C Z s H) W w0 R ?_;intro q0 H3 s3 I3 q3;obtain⟨J3,m,hn⟩:=Y8 I2 f2 I3;exact⟨m,hn,λh' Oi=>⟨.ref s2.heap.objs.size,H3,akl I2 J3 I3.free Oi,rfl,q3⟩⟩
set_option tactic.hygienic true in
def ah3(B:Em X N scope)(Ir:X.calm=true)(hi:PI X tg iter wi)(hg:∀C G s H,PG (Ls X N scope C G s H) tg g)(hc:∀C G s H,PTs (Ls X N scope C G s H) ifs tc)(he:∀C G s H,PE (Ls X N scope C G s H) elt te)(hs:∀x,foldedSetIterable iter X.env x=pure x)(hN:X.N.Nodup)(hy:X.N[i]?=some y)(hl:X.env.scope.names.lookup y=some .local)(qq:swapsWith (.ListComp elt [⟨tg,iter,ifs,0⟩] scope pos) (some (.Name y py)) ao9.line X.env=pure true) :
 PS X (.Assign [.Name y py] (.ListComp elt [⟨tg,iter,ifs,0⟩] scope pos) ao9) (a0t (adg (N.length-X.N.length) wi g tc te) (ahr i)):=by
 intro Z s σ H D I h;rw[exec_Assign_Name_used _ _ _ _ qq];refine aa (wpAny_standAt (aa ?_));show wpAny _ _ (do let _ <- comprehension (.ListComp elt [⟨tg,iter,ifs,0⟩] scope pos) scope X.env _ (newList []) false (eval iter X.env) (some (assign (.Name y py) X.env))) _ _ s;refine aa (m7 (wpAny_comprehension_free (use:=some (assign (.Name y py) X.env)) (Q:=λ_ s'=>SP X Z D .next s') rfl hs (B.clos I.ok) B.kind B.locs
  (Bf (hi Z s σ H _ I h) λv s1 h1=>Bf h1 λq6 Y h2=>?_)) (λ_ s' hq=>aj (aj hq)) λ_ _ e=>e)
 obtain⟨it,G,tn,J,H2,rfl,U,T,q0,f2,q2⟩:=h2;obtain⟨W,⟨m0,w0⟩,R⟩:=q2 Y.heap.objs.size (U.zm.fresh (bc _));refine Wr (RR:=λq1 C=>compPost (model X.prog X.w) X.A X.xe (some (assign (.Name y py) X.env)) (λ_ s'=>SP X Z D .next s') q1 C) (Q:=λx H1=>ahr i x σ H1 D.nx) B Ir U f2 T q0 (λC s H=>hg C G s H) (λC s H=>hc C G s H) (λC s H=>he C G s H) W w0 R ?_;intro q7 H3 s3 I3 q3;obtain⟨J3,m,hn⟩:=Y8 U f2 I3;have q5:=I3.free;obtain⟨u,_,_,L,qk,_⟩:=id hn;have big:∀b o,Y.heap.get? b=some o->b≠Y.heap.objs.size+1:=λb o e z=>by have:=az e;rw[z] at this;exact absurd this (Nat.not_lt.mpr (vh _))
 have S:Y.heap.objs.size+1≠X.env.locals:=λe=>by obtain⟨m,⟨o,_,_,ho,_⟩,_⟩:=U.loc;exact big _ o ho e.symm
 have J4:Inv X (Z++[(Y.heap.objs.size+1,u)]) σ H3 s3:=J3.Q0 λp hp=>by
  rcases bx.mp hp with q|q
  .exact J3.pin p (gm _ q)
  .have e:p=(Y.heap.objs.size+1,u):=by simpa using q
   subst e;refine⟨L,q5,S,λhb=>?_,λv z=>by rw[qk] at z;cases z⟩;exact U.az9 (vh _) hb
 show wpAny (model X.prog X.w) X.A (assign (.Name y py) X.env (.ref Y.heap.objs.size)) _ _ s3;refine Bf (aah (pos:=py) hN hy (.inl hl) (.inr hl) (Z++[(Y.heap.objs.size+1,u)]) s3 σ H3 (.ref Y.heap.objs.size) (.ref Y.heap.objs.size) D.nx J4 rfl q3) λ_ s4 z_=>?_
 obtain⟨qv,H4,I4,q4⟩:=z_;have pC:=I4.pin (Y.heap.objs.size+1,u) (gm _ (gm _ (by simp)));refine⟨m,hn.at' λo e=>by rw[L] at e;cases e;exact pC.1,λh' Oi=>⟨qv,H4,?_,q4⟩⟩;refine(I4.Ny).turned (t':=s4.toks) (λb o hb e=>Oi.extBut b o hb e) pC.2.1 S (.inr (gw U.sz (vh _))) ?_ ?_
 .intro x c hc
  obtain⟨v,o,ho,_⟩:=U.cell x c hc;exact big c o ho
 .intro p hp
  exact big p.1 p.2 (U.pin p hp).1
end L2
namespace Sm
open PySem L2
open MW (Ex Cz OEx Lj Bp o6 Lv Tg Res cg MO Gh Cp Op2 Blt Bm Kx)
abbrev Dv:=MW.D
abbrev En:=MW.Env
structure Io where
 l:List Addr
 δ:List Addr
noncomputable def Io.add(Z:Io)(p:Addr):Io:=⟨Z.l++[p],Z.δ⟩
noncomputable def Io.hide(Z:Io)(p:Addr):Io:=⟨Z.l,p::Z.δ⟩
def Io.off(Z:Io)(a:Addr):Prop:=a∉Z.l/\a∉Z.δ
def aap(K:Fg)(H:Hp)(a:Addr)(U:List V):Prop :=
 (∃o,H a=some (.Hz o (.lst U))) \/
  ∃(o:Obj)(Z:U1)(n:Nat),K.lookup a=some o/\o.cls=.type "list"/\o.dict=none/\o.data=.seq Z n/\Z.size<=sizeLine/\Vals U Z.toList
def aap.sq(h:aap K H a vs):Gz K H a vs:=by
 rcases h with⟨o,h⟩|h
 .exact .inl (.inr ⟨o,h⟩)
 .exact .inr h
mutual
inductive Rep(K:Fg)(ι:Io)(H:Hp):Dv->V->Prop
 |non:Rep K ι H .non .non
 |bl (b:Bool):Rep K ι H (.bl b) (.bl b)
 |int (i:Int):Rep K ι H (.int i) (.int i)
 |str (s:Str):Rep K ι H (.str s) (.str s)
 |tup {a:Addr} {ds:List Dv} {vs:List V} (e:H a=some (.tup vs)) (r:lg K ι H ds vs):Rep K ι H (.tup ds) (.ref a)
 |vl {a:Addr} {ds:List Dv} {vs:List V} (e:H a=some (.lst vs)) (n:ι.off a) (r:lg K ι H ds vs):Rep K ι H (.vl ds) (.ref a)
 |fz {a:Addr} {ds:List Dv} {vs:List V} (e:aap K H a vs) (r:lg K ι H ds vs):Rep K ι H (.fz ds) (.ref a)
 |ref {n:Nat} {a:Addr} (e:ι.l[n]?=some a):Rep K ι H (.ref n) (.ref a)
inductive lg(K:Fg)(ι:Io)(H:Hp):List Dv->List V->Prop
 |nil:lg K ι H [] []
 |cons {d:Dv} {v:V} {ds:List Dv} {vs:List V} (h:Rep K ι H d v) (t:lg K ι H ds vs):lg K ι H (d::ds) (v::vs)
end
structure Le(ι:Io)(H:Hp)(ι':Io)(H':Hp):Prop where
 ext:∃Y,ι'.l=ι.l++Y/\∀a∈Y,H a=none
 del:ι'.δ=ι.δ
 tup:∀a vs,H a=some (.tup vs)->H' a=some (.tup vs)
 Hz:∀a o u,H a=some (.Hz o u)->H' a=some (.Hz o u)
 lst:∀a vs,a∉ι.l->H a=some (.lst vs)->H' a=some (.lst vs)
 dom:∀a,H' a=none->H a=none
def Le.refl(Z:Io)(H:Hp):Le Z H Z H:=⟨⟨[],by simp,by simp⟩,rfl,λ_ _ h=>h,λ_ _ _ h=>h,λ_ _ _ h=>h,λ_ h=>h⟩
def G5{H H':Hp}(R:∀a u,H a=some u->∃U,H' a=some U)(h:H' a=none):H a=none:=by
 cases e:H a with
 |none=>rfl|some u=>obtain⟨U,Z⟩:=R a u e;rw[h] at Z;cases Z
def Le.get(l:Le U H Z R){n:Nat}(h:U.l[n]?=some a):Z.l[n]?=some a:=by obtain⟨Y,e,_⟩:=l.ext;rw[e,dq (ak.mp h).1];exact h
def Le.a1n(l:Le ι H Z H')(h:a∉ι.l)(U:H a=some o):a∉Z.l:=by
 obtain⟨Y,e,R⟩:=l.ext;rw[e];intro m;rcases bx.mp m with q|q
 .exact h q
 .rw[R a q] at U;cases U
def Le.out(l:Le U H Z H')(h:U.off a)(R:H a=some o):Z.off a:=⟨l.a1n h.1 R,by rw[l.del];exact h.2⟩
theorem Le.trans(a:Le ι H R H1)(b:Le R H1 qq H2):Le ι H qq H2:=by
 obtain⟨Y,e1,h1⟩:=a.ext;obtain⟨Z,e2,h2⟩:=b.ext;refine⟨⟨Y++Z,by rw[e2,e1,j6],λx m=>?_⟩,b.del.trans a.del,λx U h=>b.tup x U (a.tup x U h),λx o u h=>b.Hz x o u (a.Hz x o u h),λx U n h=>b.lst x U (a.a1n n h) (a.lst x U n h),λx h=>a.dom x (b.dom x h)⟩;rcases bx.mp m with q|q
 .exact h1 x q
 .exact a.dom x (h2 x q)
structure LeX(ι:Io)(H:Hp)(ι':Io)(H':Hp):Prop where
 ext:∃Y,ι'.l=ι.l++Y/\∀a∈Y,H a=none
 del:∀a∈ι'.δ,a∈ι.δ\/H a=none
 tup:∀a vs,H a=some (.tup vs)->H' a=some (.tup vs)
 Hz:∀a o u,H a=some (.Hz o u)->H' a=some (.Hz o u)
 lst:∀a vs,a∉ι.l->H a=some (.lst vs)->H' a=some (.lst vs)
def Le.toX(l:Le U H Z H'):LeX U H Z H':=⟨l.ext,λa h=>.inl (by rw[<- l.del];exact h),l.tup,l.Hz,l.lst⟩
def LeX.get(l:LeX U H Z R){n:Nat}(h:U.l[n]?=some a):Z.l[n]?=some a:=by obtain⟨Y,e,_⟩:=l.ext;rw[e,dq (ak.mp h).1];exact h
def LeX.out(l:LeX ι H U H')(h:ι.off a)(Z:H a=some o):U.off a:=by
 obtain⟨Y,e,R⟩:=l.ext;refine⟨λm=>?_,λm=>?_⟩
 .rw[e] at m
  rcases bx.mp m with q|q
  .exact h.1 q
  .rw[R a q] at Z;cases Z
 .rcases l.del a m with q|q
  .exact h.2 q
  .rw[q] at Z;cases Z
structure Tr(K:Fg)(ι:Io)(H:Hp)(ι':Io)(H':Hp):Prop where
 tup:∀a vs,H a=some (.tup vs)->H' a=some (.tup vs)
 vl:∀a vs,H a=some (.lst vs)->ι.off a->H' a=some (.lst vs)/\ι'.off a
 fz:∀a vs,aap K H a vs->aap K H' a vs
 rf:∀(n:Nat) a,ι.l[n]?=some a->ι'.l[n]?=some a
mutual
theorem Rep.tr{K:Fg}{U Z:Io}{H R:Hp}(l:Tr K U H Z R):∀{d:Dv}{v:V},Rep K U H d v->Rep K Z R d v
 |_,_,.non=>.non|_,_,.bl b=>.bl b|_,_,.int i=>.int i|_,_,.str s=>.str s|_,_,.tup e r=>.tup (l.tup _ _ e) (lg.tr l r)|_,_,.vl e n r=>.vl (l.vl _ _ e n).1 (l.vl _ _ e n).2 (lg.tr l r)|_,_,.fz e r=>.fz (l.fz _ _ e) (lg.tr l r)|_,_,.ref e=>.ref (l.rf _ _ e)
theorem lg.tr{K:Fg}{R Z:Io}{H H':Hp}(l:Tr K R H Z H'):∀{U:List Dv}{vs:List V},lg K R H U vs->lg K Z H' U vs
 |_,_,.nil=>.nil|_,_,.cons h t=>.cons (Rep.tr l h) (lg.tr l t)
end
def LeX.tr(l:LeX R H Z H'):Tr K R H Z H':=⟨l.tup,λa U e n=>⟨l.lst _ _ n.1 e,l.out n e⟩,λa U e=>by
 rcases e with⟨o,e⟩|e
 .exact .inl ⟨o,l.Hz _ _ _ e⟩
 .exact .inr e,λ_ _ e=>l.get e⟩
def Rep.Lh(l:LeX U H Z R)(r:Rep K U H d v):Rep K Z R d v:=r.tr l.tr
def lg.Lh(l:LeX U H Z R)(r:lg K U H ds vs):lg K Z R ds vs:=r.tr l.tr
def Rep.mono(l:Le U H Z R)(r:Rep K U H d v):Rep K Z R d v:=r.Lh l.toX
def lg.mono(l:Le U H Z R)(r:lg K U H ds vs):lg K Z R ds vs:=r.Lh l.toX
theorem lg.length{K:Fg}{R:Io}{H:Hp}:∀{Z:List Dv}{U:List V},lg K R H Z U->Z.length=U.length:=by intro A B h;induction A generalizing B with|nil=>cases h;rfl|cons d A ih=>cases h with|cons _ t=>rw[gr,gr,ih t]
theorem lg.get{K:Fg}{U:Io}{H:Hp}:∀{Z:List Dv}{R:List V}{i:Nat}{d:Dv},lg K U H Z R->Z[i]?=some d->∃v,R[i]?=some v/\Rep K U H d v
 |_,_,_,_,.nil,e=>by simp at e|_,_,0,_,.cons h _,e=>by simp at e;subst e;exact⟨_,rfl,h⟩
 |_,_,i+1,d,.cons _ t,e=>by
  obtain⟨v,h1,h2⟩:=lg.get (i:=i) t (by simpa using e);exact⟨v,by simpa using h1,h2⟩
theorem lg.set{K:Fg}{Z:Io}{H:Hp}{d:Dv}{v:V}(r:Rep K Z H d v):∀{U:List Dv}{R:List V}(i:Nat),lg K Z H U R->lg K Z H (U.set i d) (R.set i v)
 |_,_,_,.nil=>.nil|_,_,0,.cons _ t=>.cons r t|_,_,i+1,.cons h t=>.cons h (lg.set r i t)
theorem lg.append{K:Fg}{Z:Io}{H:Hp}:∀{ds R:List Dv}{vs U:List V},lg K Z H ds vs->lg K Z H R U->lg K Z H (ds++R) (vs++U):=by intro A _ B _ h r;induction A generalizing B with|nil=>cases h;exact r|cons d A ih=>cases h with|cons h t=>exact .cons h (ih t)
theorem lg.drop{K:Fg}{U:Io}{H:Hp}:∀{Z:List Dv}{R:List V}(n:Nat),lg K U H Z R->lg K U H (Z.drop n) (R.drop n)
 |_,_,0,r=>r|_,_,_+1,.nil=>.nil|_,_,n+1,.cons _ t=>lg.drop n t
theorem lg.take{K:Fg}{U:Io}{H:Hp}:∀{Z:List Dv}{R:List V}(n:Nat),lg K U H Z R->lg K U H (Z.take n) (R.take n)
 |_,_,0,_=>.nil|_,_,_+1,.nil=>.nil|_,_,n+1,.cons h t=>.cons h (lg.take n t)
theorem lg.eraseIdx{K:Fg}{U:Io}{H:Hp}:∀{Z:List Dv}{R:List V}(n:Nat),lg K U H Z R->lg K U H (Z.eraseIdx n) (R.eraseIdx n)
 |_,_,_,.nil=>.nil|_,_,0,.cons _ t=>t|_,_,n+1,.cons h t=>.cons h (lg.eraseIdx n t)
theorem lg.ints{K:Fg}{U:Io}{H:Hp}:∀(Z:Xs),lg K U H (Z.map MW.D.int) (Z.map V.int)
 |[]=>.nil|n::r=>.cons (.int n) (lg.ints r)
structure Nm where
 cls:Nat->Option Addr
 fld:Nat->Str
 inj:∀i j,fld i=fld j->i=j
inductive o7{κ κ':Type}(K:Fg)(ι:Io)(H:Hp)(f:κ->κ'->Prop):List (κ×Dv)->List (κ'×V)->Prop
 |nil:o7 K ι H f [] []
 |cons {k:κ} {k':κ'} {d:Dv} {v:V} {l:List (κ×Dv)} {l':List (κ'×V)} (hk:f k k') (h:Rep K ι H d v) (t:o7 K ι H f l l'):o7 K ι H f ((k,d)::l) ((k',v)::l')
theorem o7.mono{κ Z:Type}{K:Fg}{R U:Io}{H H':Hp}{f:κ->Z->Prop}(le:Le R H U H'):∀{l:List (κ×Dv)}{l':List (Z×V)},o7 K R H f l l'->o7 K U H' f l l':=by intro _ _ h;induction h with|nil=>exact .nil|cons k h t ih=>exact .cons k (h.mono le) ih
def Gx(R:Nm)(K:Fg)(U:Io)(H:Hp)(o:MO)(a:Addr):Prop :=
 match o with
 |.lst ds=>∃vs,H a=some (.lst vs)/\lg K U H ds vs|.dT kvs=>∃l,H a=some (.dT l)/\o7 K U H (λk Z=>k=Z) kvs l
 |.dF kvs=>∃l o,H a=some (.Hz o (.dT l))/\o7 K U H (λk Z=>k=Z) kvs l
 |.dK kvs=>∃l,H a=some (.dK l)/\o7 K U H (λk Z=>k=Z) kvs l
 |.ins c fs=>∃C dx l,R.cls c=some C/\H a=some (.ins C dx l)/\o7 K U H (λk Z=>Z=R.fld k) fs l
structure mz(nm:Nm)(K:Fg)(ι:Io)(H:Hp)(M:cg):Prop where
 len:ι.l.length=M.length
 nd:ι.l.Nodup
 del:∀a∈ι.δ,a∉ι.l/\∃vs,H a=some (.lst vs)
 obj:∀(n:Nat)(o:MO)(a:Addr),M[n]?=some o->ι.l[n]?=some a->Gx nm K ι H o a
def Mu:Option HO->Prop
 |some (.Hz _ (.dT _))=>True|u=>Mut u
theorem Gx.some(h:Gx nm K ι H o a):∃u,H a=some u/\Mu (H a):=by
 cases o with
 |lst ds=>obtain⟨U,e,_⟩:=h;exact⟨_,e,by rw[e];trivial⟩
 |dT Z=>obtain⟨U,e,_⟩:=h;exact⟨_,e,by rw[e];trivial⟩
 |dF Z=>obtain⟨U,R,e,_⟩:=h;exact⟨_,e,by rw[e];trivial⟩
 |dK Z=>obtain⟨U,e,_⟩:=h;exact⟨_,e,by rw[e];trivial⟩
 |ins c fs=>obtain⟨C,dx,l,_,e,_⟩:=h;exact⟨_,e,by rw[e];trivial⟩
def mz.addr(S:mz nm K Z H M){n:Nat}(h:M[n]?=some o):∃a,Z.l[n]?=some a/\Gx nm K Z H o a:=by
 have U:n < Z.l.length:=by rw[S.len];exact MW.rm h
 exact⟨Z.l[n],by simp[U],S.obj n o _ h (by simp[U])⟩
def mz.mem(S:mz nm K U H M)(h:a∈U.l):∃u,H a=some u/\Mu (H a):=by
 obtain⟨n,Z,rfl⟩:=uc h;have R:n<M.length:=by rw[<- S.len];exact Z
 exact(S.obj n M[n] U.l[n] (by simp[R]) (by simp[Z])).some
def mz.fresh(S:mz nm K Z H M)(h:H a=none):Z.off a:=by
 refine⟨λm=>?_,λm=>?_⟩
 .obtain⟨u,e,_⟩:=S.mem m
  rw[h] at e;cases e
 .obtain⟨_,U,e⟩:=S.del a m
  rw[h] at e;cases e
def Gx.move(h:Gx nm K ι H o a)(le:Le ι H R H')(e:H' a=H a):Gx nm K R H' o a:=by
 cases o with
 |lst ds=>obtain⟨Z,q,r⟩:=h;exact⟨Z,e.trans q,r.mono le⟩
 |dT U=>obtain⟨Z,q,r⟩:=h;exact⟨Z,e.trans q,r.mono le⟩
 |dF U=>obtain⟨Z,ob,q,r⟩:=h;exact⟨Z,ob,e.trans q,r.mono le⟩
 |dK U=>obtain⟨Z,q,r⟩:=h;exact⟨Z,e.trans q,r.mono le⟩
 |ins c fs=>obtain⟨C,dx,l,hc,q,r⟩:=h;exact⟨C,dx,l,hc,e.trans q,r.mono le⟩
def mz.laid(S:mz nm K Z H M)(h:H p=none)(o:HO):mz nm K Z (upd H p o) M/\Le Z H Z (upd H p o):=by
 have U:∀a u,H a=some u->a≠p:=λa u e=>kh e h
 have le:Le Z H Z (upd H p o):=⟨⟨[],by simp,by simp⟩,rfl,λa R e=>by rw[j9 (U a _ e)];exact e,λa _ u e=>by rw[j9 (U a _ e)];exact e,λa R _ e=>by rw[j9 (U a _ e)];exact e,
  λa h'=>G5 (λb u e=>⟨u,by rw[j9 (U b _ e)];exact e⟩) h'⟩
 refine⟨⟨S.len,S.nd,λa ha=>?_,λn o' a hn ha=>?_⟩,le⟩
 .obtain⟨h1,R,h2⟩:=S.del a ha
  exact⟨h1,R,le.lst a R h1 h2⟩
 .have q:=S.obj n o' a hn ha
  obtain⟨u,e,_⟩:=q.some;exact q.move le (by rw[j9 (U a u e)])
def Cg{Z:Type}{l:List Z}{x y:Z}(h:(l++[x])[n]?=some y):(l[n]?=some y)\/(n=l.length/\y=x):=by
 rcases xj n l.length with q|q
 .rw[dq q] at h;exact .inl h
 .rw[jq q] at h
  have:n-l.length=0:=by
   rcases Nat.eq_zero_or_pos (n-l.length) with z|z
   .exact z
   .rw[lz (by simp;exact z)] at h;cases h
  rw[this] at h;simp at h;exact .inr ⟨by lia,h.symm⟩
def mz.new(S:mz nm K Z H M)(h:H p=none)(U:∀a u,H a=some u->H' a=some u)(ho:Le Z H (Z.add p) H'->Gx nm K (Z.add p) H' o p):mz nm K (Z.add p) H' (M++[o])/\Le Z H (Z.add p) H':=by
 have le:Le Z H (Z.add p) H':=⟨⟨[p],rfl,by simpa using h⟩,rfl,λa vs e=>U _ _ e,λa _ u e=>U _ _ e,λa vs _ e=>U _ _ e,λa h'=>G5 (H:=H) (H':=H') (λb u e=>⟨u,U b u e⟩) h'⟩;refine⟨⟨by simp[Io.add,S.len],?_,λa R=>?_,λn o' a hn R=>?_⟩,le⟩
 .exact m9.mpr ⟨S.nd,by simp,by
   intro x hx y hy;have:y=p:=by simpa using hy
   subst this;intro e;subst e;exact(S.fresh h).1 hx⟩
 .obtain⟨h1,vs,h2⟩:=S.del a R
  exact⟨le.a1n h1 h2,vs,U _ _ h2⟩
 .rcases Cg hn with q|⟨q,rfl⟩
  .rcases Cg R with r|⟨r,_⟩
   .have z:=S.obj n o' a q r
    obtain⟨u,e,_⟩:=z.some;exact z.move le ((U a u e).trans e.symm)
   .exact absurd (MW.rm q) (by rw[r,S.len];exact lq _)
  .rcases Cg R with r|⟨_,rfl⟩
   .exact absurd (ak.mp r).1 (by rw[q,S.len];exact lq _)
   .exact ho le
def mz.put(S:mz nm K R H M)(hn:M[n]?=some U)(ha:R.l[n]?=some a)(ho:Le R H R (upd H a u)->Gx nm K R (upd H a u) o a)(hd:∀k,U≠.dF k:=by nofun):mz nm K R (upd H a u) (M.set n o)/\Le R H R (upd H a u):=by
 have Z:Mut (H a):=by
  have z:=S.obj n U a hn ha;cases U with
  |dF k=>exact absurd rfl (hd k)|ins c fs=>obtain⟨C,dx,l,_,e,_⟩:=z;rw[e];trivial
  |_=>obtain⟨vs,e,_⟩:=z;rw[e];trivial
 have hm:a∈R.l:=au ha;have le:Le R H R (upd H a u):=⟨⟨[],by simp,by simp⟩,rfl,λb vs e=>by rw[j9 (λz=>by subst z;rw[e] at Z;exact Z)];exact e,
  λb _ _ e=>by rw[j9 (λz=>by subst z;rw[e] at Z;exact Z)];exact e,λb vs nb e=>by rw[j9 (λz=>by subst z;exact nb hm)];exact e,λb h'=>G5 (λc w e=>by
   by_cases z:c=a
   .exact⟨u,by rw[z,rz]⟩
   .exact⟨w,by rw[j9 z];exact e⟩) h'⟩
 refine⟨⟨by rw[List.length_set];exact S.len,S.nd,λb hb=>?_,λm o' b qq hb=>?_⟩,le⟩
 .obtain⟨h1,vs,h2⟩:=S.del b hb
  exact⟨h1,vs,le.lst b vs h1 h2⟩
 by_cases q:m=n
 .subst q
  rw[MW.p7 hn] at qq;cases qq;rw[ha] at hb;cases hb;exact ho le
 .rw[MW.jm (ji q)] at qq
  have z:=S.obj m o' b qq hb;have nb:b≠a:=λe=>by subst e;obtain⟨l1,e1⟩:=ak.mp hb;obtain⟨l2,e2⟩:=ak.mp ha;exact q ((Ao S.nd).mp (e1.trans e2.symm))
  exact z.move le (by rw[j9 nb])
mutual
theorem Rep.hide{K:Fg}{U:Io}{H:Hp}{D:Addr}{o:HO}(Z:H D=none):∀{d:Dv}{v:V},Rep K U H d v->Rep K (U.hide D) (upd H D o) d v
 |_,_,.non=>.non|_,_,.bl b=>.bl b|_,_,.int i=>.int i|_,_,.str s=>.str s|_,_,.tup e r=>.tup (by rw[j9 (kh e Z)];exact e) (lg.hide Z r)
 | _,_,.vl e n r=>.vl (by rw[j9 (kh e Z)];exact e) ⟨n.1,λm=>by
  rcases bz.mp m with q|q
  .exact kh e Z q
  .exact n.2 q⟩ (lg.hide Z r)
 | _,_,.fz e r=>.fz (by
  rcases e with⟨q,e⟩|e
  .exact .inl ⟨q,by rw[j9 (kh e Z)];exact e⟩
  .exact .inr e) (lg.hide Z r)
 |_,_,.ref e=>.ref e
theorem lg.hide{K:Fg}{ι:Io}{H:Hp}{D:Addr}{o:HO}(R:H D=none):∀{Z:List Dv}{U:List V},lg K ι H Z U->lg K (ι.hide D) (upd H D o) Z U
 |_,_,.nil=>.nil|_,_,.cons h t=>.cons (Rep.hide R h) (lg.hide R t)
end
mutual
theorem Rep.grow{K:Fg}{R:Io}{H:Hp}{D:Addr}{vs ws:List V}(Z:H D=some (.lst vs))(U:D∈R.δ):∀{d:Dv}{v:V},Rep K R H d v->Rep K R (upd H D (.lst ws)) d v
 |_,_,.non=>.non|_,_,.bl b=>.bl b|_,_,.int i=>.int i|_,_,.str s=>.str s|_,_,.tup e r=>.tup (by rw[j9 (Yt e Z (by intro z;cases z))];exact e) (lg.grow Z U r)|_,_,.vl e n r=>.vl (by rw[j9 (λz=>by subst z;exact n.2 U)];exact e) n (lg.grow Z U r)
 | _,_,.fz e r=>.fz (by
  rcases e with⟨q,e⟩|e
  .exact .inl ⟨q,by rw[j9 (Yt e Z (by intro z;cases z))];exact e⟩
  .exact .inr e) (lg.grow Z U r)
 |_,_,.ref e=>.ref e
theorem lg.grow{K:Fg}{Z:Io}{H:Hp}{D:Addr}{vs ws:List V}(hD:H D=some (.lst vs))(hm:D∈Z.δ):∀{R:List Dv}{U:List V},lg K Z H R U->lg K Z (upd H D (.lst ws)) R U
 |_,_,.nil=>.nil|_,_,.cons h t=>.cons (Rep.grow hD hm h) (lg.grow hD hm t)
end
def Io.show(Z:Io)(H:Hp)(D:Addr):Tr K (Z.hide D) H Z H:=⟨λ_ _ e=>e,λ_ _ e n=>⟨e,n.1,λm=>n.2 (bf _ m)⟩,λ_ _ e=>e,λ_ _ e=>e⟩
theorem Rep.show(r:Rep K (Z.hide D) H d v):Rep K Z H d v:=r.tr (Z.show H D)
theorem lg.show(r:lg K (Z.hide D) H d v):lg K Z H d v:=r.tr (Z.show H D)
theorem o7.map{κ Z:Type}{K:Fg}{R U:Io}{H H':Hp}{f:κ->Z->Prop}(g:∀d v,Rep K R H d v->Rep K U H' d v):∀{l:List (κ×Dv)}{l':List (Z×V)},o7 K R H f l l'->o7 K U H' f l l':=by intro _ _ h;induction h with|nil=>exact .nil|cons k h t ih=>exact .cons k (g _ _ h) ih
theorem lg.map{K:Fg}{U Z:Io}{H H':Hp}(g:∀d v,Rep K U H d v->Rep K Z H' d v):∀{l:List Dv}{R:List V},lg K U H l R->lg K Z H' l R:=by intro A B h;induction A generalizing B with|nil=>cases h;exact .nil|cons d A ih=>cases h with|cons h t=>exact .cons (g _ _ h) (ih t)
theorem Gx.map(g:∀d v,Rep K ι H d v->Rep K R H' d v)(h:Gx nm K ι H o a)(e:H' a=H a):Gx nm K R H' o a:=by
 cases o with
 |lst ds=>obtain⟨Z,q,r⟩:=h;exact⟨Z,e.trans q,r.map g⟩
 |dT U=>obtain⟨Z,q,r⟩:=h;exact⟨Z,e.trans q,r.map g⟩
 |dF U=>obtain⟨Z,ob,q,r⟩:=h;exact⟨Z,ob,e.trans q,r.map g⟩
 |dK U=>obtain⟨Z,q,r⟩:=h;exact⟨Z,e.trans q,r.map g⟩
 |ins c fs=>obtain⟨C,dx,l,hc,q,r⟩:=h;exact⟨C,dx,l,hc,e.trans q,r.map g⟩
theorem mz.hide(S:mz nm K ι H M)(Z:H D=none):mz nm K (ι.hide D) (upd H D (.lst [])) M:=by
 refine⟨S.len,S.nd,λa U=>?_,λn o a hn U=>?_⟩
 .rcases bz.mp U with q|q
  .subst q;exact⟨(S.fresh Z).1,[],rz⟩
  .obtain⟨h1,vs,R⟩:=S.del a q
   exact⟨h1,vs,by rw[j9 (kh R Z)];exact R⟩
 .have z:=S.obj n o a hn U
  obtain⟨u,e,_⟩:=z.some;exact z.map (λd v r=>r.hide Z) (by rw[j9 (kh e Z)])
theorem mz.grow(S:mz nm K ι H M)(hD:H D=some (.lst vs))(R:D∈ι.δ):mz nm K ι (upd H D (.lst ws)) M:=by
 refine⟨S.len,S.nd,λa Z=>?_,λn o a hn Z=>?_⟩
 .obtain⟨U,us,h2⟩:=S.del a Z
  by_cases z:a=D
  .subst z;exact⟨U,ws,rz⟩
  .exact⟨U,us,by rw[j9 z];exact h2⟩
 .have z:=S.obj n o a hn Z
  have ne:a≠D:=λe=>by subst e;exact(S.del a R).1 (au Z)
  exact z.map (λd v r=>r.grow hD R) (by rw[j9 ne])
theorem mz.show(S:mz nm K (R.hide D) H M):mz nm K R H M :=
 ⟨S.len,S.nd,λa Z=>S.del a (bf _ Z),λn o a U Z=>(S.obj n o a U Z).map (λd v r=>r.show) rfl⟩
structure LeD(D:Addr)(ι:Io)(H:Hp)(ι':Io)(H':Hp):Prop where
 ext:∃Y,ι'.l=ι.l++Y/\∀a∈Y,H a=none
 del:ι'.δ=D::ι.δ
 tup:∀a vs,H a=some (.tup vs)->H' a=some (.tup vs)
 Hz:∀a o u,H a=some (.Hz o u)->H' a=some (.Hz o u)
 lst:∀a vs,a∉ι.l->H a=some (.lst vs)->H' a=some (.lst vs)
 dom:∀a,H' a=none->H a=none
def LeD.toX(l:LeD D U H Z H')(R:H D=none):LeX U H Z H':=⟨l.ext,λa h=>by
 rw[l.del] at h;rcases bz.mp h with q|q
 .exact .inr (by rw[q];exact R)
 .exact .inl q,l.tup,l.Hz,l.lst⟩
def LeD.start(Z:H D=none)(o:HO):LeD D ι H (ι.hide D) (upd H D o) :=
 ⟨⟨[],by simp[Io.hide],by simp⟩,rfl,λa R e=>by rw[j9 (kh e Z)];exact e,λa _ _ e=>by rw[j9 (kh e Z)];exact e,λa R _ e=>by rw[j9 (kh e Z)];exact e,
  λa U=>G5 (λb u e=>⟨u,by rw[j9 (kh e Z)];exact e⟩) U⟩
def LeD.go(a:LeD D ι H U H1)(b:Le U H1 qq H2):LeD D ι H qq H2:=by
 obtain⟨Y,e1,h1⟩:=a.ext;obtain⟨Z,e2,h2⟩:=b.ext;have out:∀x o,x∉ι.l->H x=some o->x∉U.l:=λx o n h m=>by
  rw[e1] at m;rcases bx.mp m with q|q
  .exact n q
  .rw[h1 x q] at h;cases h
 refine⟨⟨Y++Z,by rw[e2,e1,j6],λx m=>?_⟩,b.del.trans a.del,λx R h=>b.tup x R (a.tup x R h),λx o u h=>b.Hz x o u (a.Hz x o u h),λx R n h=>b.lst x R (out x _ n h) (a.lst x R n h),λx h=>a.dom x (b.dom x h)⟩;rcases bx.mp m with q|q
 .exact h1 x q
 .exact a.dom x (h2 x q)
def LeD.grow(a:LeD D ι H U H1)(R:H D=none)(hD:H1 D=some (.lst vs)):LeD D ι H U (upd H1 D (.lst ws)) :=
 ⟨a.ext,a.del,λx Z h=>by rw[j9 (kh h R)];exact a.tup x Z h,λx o u h=>by rw[j9 (kh h R)];exact a.Hz x o u h,λx Z n h=>by rw[j9 (kh h R)];exact a.lst x Z n h,
  λx h=>a.dom x (by
   by_cases z:x=D
   .rw[z,rz] at h;cases h
   .rw[j9 z] at h;exact h)⟩
def LeD.done(a:LeD D U H ⟨Z.l,D::Z.δ⟩ H1):Le U H Z H1 :=
 ⟨a.ext,(List.cons.inj a.del).2,a.tup,a.Hz,a.lst,a.dom⟩
inductive u0(K:Fg)(ι:Io)(H:Hp):En->St->Prop
 |nil:u0 K ι H [] []
 |skp {y:Option V} {ρ:En} {σ:St} (t:u0 K ι H ρ σ):u0 K ι H (none::ρ) (y::σ)
 |has {d:Dv} {v:V} {ρ:En} {σ:St} (h:Rep K ι H d v) (t:u0 K ι H ρ σ):u0 K ι H (some d::ρ) (some v::σ)
theorem u0.Lh{K:Fg}{U Z:Io}{H R:Hp}(le:LeX U H Z R):∀{ρ:En}{σ:St},u0 K U H ρ σ->u0 K Z R ρ σ:=by intro _ _ h;induction h with|nil=>exact .nil|skp t ih=>exact .skp ih|has h t ih=>exact .has (h.Lh le) ih
theorem u0.mono{K:Fg}{U Z:Io}{H R:Hp}(le:Le U H Z R):∀{ρ:En}{σ:St},u0 K U H ρ σ->u0 K Z R ρ σ:=by intro _ _ h;induction h with|nil=>exact .nil|skp t ih=>exact .skp ih|has h t ih=>exact .has (h.mono le) ih
theorem u0.get{K:Fg}{R:Io}{H:Hp}:∀{ρ:En}{σ:St}{i:Nat}{d:Dv},u0 K R H ρ σ->ρ[i]?=some (some d)->∃v,σ[i]?=some (some v)/\Rep K R H d v
 |_,_,_,_,.nil,e=>by simp at e|_,_,0,_,.skp _,e=>by simp at e|_,_,0,_,.has h _,e=>by simp at e;subst e;exact⟨_,rfl,h⟩
 |_,_,i+1,d,.skp t,e=>by
  obtain⟨v,Z,U⟩:=u0.get (i:=i) t (by simpa using e);exact⟨v,by simpa using Z,U⟩
 |_,_,i+1,d,.has _ t,e=>by
  obtain⟨v,Z,U⟩:=u0.get (i:=i) t (by simpa using e);exact⟨v,by simpa using Z,U⟩
theorem u0.set{K:Fg}{Z:Io}{H:Hp}{d:Dv}{v:V}(r:Rep K Z H d v):∀{U:En}{R:St}(i:Nat),u0 K Z H U R->u0 K Z H (U.set i (some d)) (R.set i (some v))
 |_,_,_,.nil=>.nil|_,_,0,.skp t=>.has r t|_,_,0,.has _ t=>.has r t|_,_,i+1,.skp t=>.skp (u0.set r i t)|_,_,i+1,.has h t=>.has h (u0.set r i t)
theorem u0.length{K:Fg}{R:Io}{H:Hp}:∀{Z:En}{U:St},u0 K R H Z U->Z.length=U.length:=by intro _ _ h;induction h with|nil=>rfl|skp _ ih=>rw[gr,gr,ih]|has _ _ ih=>rw[gr,gr,ih]
theorem u0.append{K:Fg}{R:Io}{H:Hp}:∀{ρ U:En}{σ Z:St},u0 K R H ρ σ->u0 K R H U Z->u0 K R H (ρ++U) (σ++Z):=by intro _ _ _ _ h r;induction h with|nil=>exact r|skp t ih=>exact .skp ih|has h t ih=>exact .has h ih
theorem u0.apa{K:Fg}{U:Io}{H:Hp}:∀(k:Nat){Z:St},Z.length=k->u0 K U H (List.replicate k none) Z
 |0,[],_=>.nil|k+1,_::r,h=>.skp (u0.apa k (by simpa using h))
theorem u0.apb{K:Fg}{U:Io}{H:Hp}:∀{Z:List Dv}{R:List V},lg K U H Z R->u0 K U H (Z.map some) (R.map some)
 |_,_,.nil=>.nil|_,_,.cons h t=>.has h (u0.apb t)
def dz{r:Res α}(h:r.bind f=.ok b M):∃a Z,r=.ok a Z/\f a Z=.ok b M:=by
 cases r with
 |ok a Z=>exact⟨a,Z,rfl,h⟩|err c Z=>cases h|bad=>cases h
def xx(h:Res.uz o M=.ok a Z):o=some a/\Z=M:=by
 cases o with
 |none=>cases h|some x=>cases h;exact⟨rfl,rfl⟩
def PE.weak(h:PE X e t)(w:∀U H Q,t' U H Q->t U H Q):PE X e t':=λZ s U H Q I q=>h Z s U H Q I (w U H Q q)
def PT.weak(h:PT X e t)(w:∀U H Q,t' U H Q->t U H Q):PT X e t':=λZ s U H Q I q=>h Z s U H Q I (w U H Q q)
def PA.weak(h:PA X R t)(w:∀U H Q,t' U H Q->t U H Q):PA X R t':=λpos Z s U H Q I q=>h pos Z s U H Q I (w U H Q q)
def PS.weak(h:PS X e t)(w:∀D U H,t' D U H->t D U H):PS X e t':=λZ s U H D I q=>h Z s U H D I (w D U H q)
def Q3.weak(h:Q3 X e t)(w:∀D U H,t' D U H->t D U H):Q3 X e t':=λZ s U H D I q=>h Z s U H D I (w D U H q)
def De.weak(h:De X f r)(w:∀x y H Q,r' x y H Q->r x y H Q):De X f r':=λZ s σ H x y v u Q I R U q=>h Z s σ H x y v u Q I R U (w x y H Q q)
section
variable(nm:Nm)(W:Gh)(K:Fg)
def tE(e:Ex):TE:=fun σ H Q=>∃R ρ M d M',mz nm K R H M/\u0 K R H ρ σ/\e.den W ρ M=.ok d M'/\∀Z U v,Le R H Z U->mz nm K Z U M'->Rep K Z U d v->Q v U
def tQ(e:Ex):TT:=fun σ H Q=>∃U ρ M b M',mz nm K U H M/\u0 K U H ρ σ/\e.den W ρ M=.ok (.bl b) M'/\∀Z R,Le U H Z R->mz nm K Z R M'->Q b R
def Ws(es:Cz):TA:=fun σ H Q=>∃R ρ M ds M',mz nm K R H M/\u0 K R H ρ σ/\es.den W ρ M=.ok ds M'/\∀Z U vs,Le R H Z U->mz nm K Z U M'->lg K Z U ds vs->Q vs U
def Wt(D:Ends)(ι:Io)(H:Hp)(fl:MW.Flow)(ρ:En)(M:cg):Prop :=
 ∀U R Z,Le ι H U R->mz nm K U R M->u0 K U R ρ Z ->
  match fl with
  |.next=>D.nx Z R|.brk=>D.bk Z R|.cont=>D.ct Z R|.ret d=>∀v,Rep K U R d v->D.rt v R
def tS(st:Bp):TS:=λD σ H=>∃U ρ M R Z M',mz nm K U H M/\u0 K U H ρ σ/\st.den W ρ M=.ok (R,Z) M'/\Wt nm K D U H R Z M'
def tSs(st:o6):TS:=λD σ H=>∃U ρ M R Z M',mz nm K U H M/\u0 K U H ρ σ/\st.den W ρ M=.ok (R,Z) M'/\Wt nm K D U H R Z M'
end
def PE.of(h:PE X a t)(w:∀σ H Q U ρ M d M',mz nm X.K U H M->u0 X.K U H ρ σ->e'.den W ρ M=.ok d M'->(∀Z H' v,Le U H Z H'->mz nm X.K Z H' M'->Rep X.K Z H' d v->Q v H')->t σ H Q):PE X a (tE nm W X.K e'):=PE.weak h fun σ H Q z_=>by obtain⟨U,ρ,M,d,M',S,R,e,q⟩:=z_;exact w σ H Q U ρ M d M' S R e q
def PT.of(h:PT X a t)(w:∀σ H Q Z ρ M b M',mz nm X.K Z H M->u0 X.K Z H ρ σ->e'.den W ρ M=.ok (.bl b) M'->(∀U H',Le Z H U H'->mz nm X.K U H' M'->Q b H')->t σ H Q):PT X a (tQ nm W X.K e'):=PT.weak h fun σ H Q z_=>by obtain⟨Z,ρ,M,d,M',S,R,e,q⟩:=z_;exact w σ H Q Z ρ M d M' S R e q
def PA.of(h:PA X es t)(w:∀σ H Q U ρ M ds M',mz nm X.K U H M->u0 X.K U H ρ σ->qq.den W ρ M=.ok ds M'->(∀Z H' vs,Le U H Z H'->mz nm X.K Z H' M'->lg X.K Z H' ds vs->Q vs H')->t σ H Q):PA X es (Ws nm W X.K qq):=PA.weak h fun σ H Q z_=>by obtain⟨U,ρ,M,d,M',S,R,e,q⟩:=z_;exact w σ H Q U ρ M d M' S R e q
def PS.of(h:PS X st t)(w:∀D σ H U ρ M fl Z M',mz nm X.K U H M->u0 X.K U H ρ σ->s'.den W ρ M=.ok (fl,Z) M'->Wt nm X.K D U H fl Z M'->t D σ H):PS X st (tS nm W X.K s'):=PS.weak h λD σ H z_=>by obtain⟨U,ρ,M,fl,Z,M',S,R,e,q⟩:=z_;exact w D σ H U ρ M fl Z M' S R e q
def Q3.of(h:Q3 X st t)(w:∀D σ H U ρ M fl Z M',mz nm X.K U H M->u0 X.K U H ρ σ->s'.den W ρ M=.ok (fl,Z) M'->Wt nm X.K D U H fl Z M'->t D σ H):Q3 X st (tSs nm W X.K s'):=Q3.weak h λD σ H z_=>by obtain⟨U,ρ,M,fl,Z,M',S,R,e,q⟩:=z_;exact w D σ H U ρ M fl Z M' S R e q
def one{X:Cx}{M1:cg}(S:mz nm X.K ι H M)(R:u0 X.K ι H ρ σ)(ha:a'.den W ρ M=.ok x M1)(h:∀Z U v,Le ι H Z U->mz nm X.K Z U M1->u0 X.K Z U ρ σ->Rep X.K Z U x v->G v U):tE nm W X.K a' σ H G :=
 ⟨ι,ρ,M,x,M1,S,R,ha,λqq H' v le S' r=>h qq H' v le S' (R.mono le) r⟩
theorem two{X:Cx}{M1 M2:cg}{G:V->V->Hp->Prop}(S:mz nm X.K ι H M)(R:u0 X.K ι H U σ)(ha:a'.den W U M=.ok x M1)(hb:b'.den W U M1=.ok y M2)(h:∀Z H2 v u,Le ι H Z H2->mz nm X.K Z H2 M2->u0 X.K Z H2 U σ->Rep X.K Z H2 x v->Rep X.K Z H2 y u->G v u H2) :
 tE nm W X.K a' σ H λv H1=>tE nm W X.K b' σ H1 λu H2=>G v u H2 :=
 one S R ha λqq H1 v Ve S1 R1 r1=>one S1 R1 hb λZ H2 u yt S2 R2 r2=>h Z H2 v u (Ve.trans yt) S2 R2 (r1.mono yt) r2
set_option tactic.hygienic true in
def a8z(J:X.N[i]?=some n)(U:Vis X.env.scope n)(Y:(n==("__debug__" : Str))=false)(Z:(n==("__classdict__" : Str))=false):PE X (.Name n pos) (tE nm W X.K (.var i)) :=
 PE.of (aod J U Y Z) λu H Q C ρ M d M' S R e q=>by
  rw[MW.Zu] at e;split at e
  .rename_i y Y
   cases e;obtain⟨v,G,L⟩:=R.get Y;exact⟨v,G,q C H v (Le.refl _ _) S L⟩
  .cases e
def a80:PE X (.Constant (.int i) j pos) (tE nm W X.K (.cst (.int i))) :=
 PE.of a0c fun σ H Q Z ρ M d U S R e q=>by rw[MW.Qo] at e;cases e;exact q Z H _ (Le.refl _ _) S (.int i)
def bfr:PE X (.Constant (.bool i) j pos) (tE nm W X.K (.cst (.bl i))) :=
 PE.of ax6 fun σ H Q Z ρ M d U S R e q=>by rw[MW.Qo] at e;cases e;exact q Z H _ (Le.refl _ _) S (.bl i)
def a81:PE X (.Constant .none j pos) (tE nm W X.K (.cst .non)) :=
 PE.of a0d fun σ H Q Z ρ M d U S R e q=>by rw[MW.Qo] at e;cases e;exact q Z H _ (Le.refl _ _) S .non
def a82:PE X (.Constant (.str i) j pos) (tE nm W X.K (.cst (.str i))) :=
 PE.of a0e fun σ H Q Z ρ M d U S R e q=>by rw[MW.Qo] at e;cases e;exact q Z H _ (Le.refl _ _) S (.str i)
def a1o(hg:Gl X n)(Z:X.mg n=some (.int i t))(hd:(n==("__debug__" : Str))=false):PE X (.Name n pos) (tE nm W X.K (.cst (.int i))) :=
 PE.of (auf (v:=.int i) hg Z ⟨t,rfl⟩ hd) fun σ H Q U ρ M d M' S R e q=>by rw[MW.Qo] at e;cases e;exact q U H _ (Le.refl _ _) S (.int i)
def rOp(nm:Nm)(K:Fg)(f:Dv->Dv->cg->Res Dv):R2:=λv u H Q=>∃U M x y d M',mz nm K U H M/\Rep K U H x v/\Rep K U H y u/\f x y M=.ok d M' /\
 ∀Z R w,Le U H Z R->mz nm K Z R M'->Rep K Z R d w->Q w R
def De.of(h:De X f r)(w:∀v u H Q U M x y d M',mz nm X.K U H M->Rep X.K U H x v->Rep X.K U H y u->g x y M=.ok d M'->(∀Z R w,Le U H Z R->mz nm X.K Z R M'->Rep X.K Z R d w->Q w R)->r v u H Q):De X f (rOp nm X.K g) :=
 De.weak h λv u H Q z_=>by obtain⟨U,M,x,y,d,M',S,rv,ru,e,q⟩:=z_;exact w v u H Q U M x y d M' S rv ru e q
def a83(ho:De X (binaryOp op) (rOp nm X.K (MW.Er Z)))(ha:PE X a (tE nm W X.K a'))(hb:PE X b (tE nm W X.K b')):PE X (.BinOp a op b pos) (tE nm W X.K (.bin Z a' b')) :=
 PE.of (a71 ho ha hb) fun σ H Q ι ρ M d M' S R e q=>by rw[MW.atc] at e;obtain⟨x,M1,e1,e⟩:=dz e;obtain⟨y,M2,e2,e⟩:=dz e;exact two S R e1 e2 λqq H2 v u le S2 _ rv ru=>⟨qq,M2,x,y,d,M',S2,rv,ru,e,λU H' w Vf S' r=>q U H' w (le.trans Vf) S' r⟩
def a84:De X (binaryOp .Sub) (rOp nm X.K (MW.Er .sub)) :=
 De.of a0z λv u H Q R M x y d M' S U ru e q=>by obtain⟨i,j,rfl,rfl,Z⟩:=MW.Zt e (by intro z;cases z);cases U;cases ru;cases Z;exact⟨_,_,rfl,rfl,q R H _ (Le.refl _ _) S (.int _)⟩
def a1p{g:Int->Int->Int}{P:Int->Int->Prop}[∀i j,Decidable (P i j)](h:De X (binaryOp op) r)(hb:∀x y M,MW.Er R x y M=MW.ii x y (λi j=>if P i j then .ok (.int (g i j)) M else .bad) .bad)(w:∀i j H Q,P i j->Q (.int (g i j)) H->r (.int i) (.int j) H Q):De X (binaryOp op) (rOp nm X.K (MW.Er R)) :=
 De.of h λv u H Q ι M x y d M' S rv ru e q=>by
  rw[hb] at e;obtain⟨i,j,rfl,rfl,Z⟩:=MW.Zt e (by intro z;cases z)
  by_cases U:P i j
  .rw[cj U] at Z
   cases rv;cases ru;cases Z;exact w i j H Q U (q ι H _ (Le.refl _ _) S (.int _))
  .rw[bw U] at Z;cases Z
def a85:De X (binaryOp .Mod) (rOp nm X.K (MW.Er .mod)):=a1p a01 (λ_ _ _=>rfl) λi j H Q h q=>⟨_,_,rfl,rfl,h,q⟩
def a1q:De X (binaryOp .FloorDiv) (rOp nm X.K (MW.Er .fdiv)):=a1p aup (λ_ _ _=>rfl) λi j H Q h q=>⟨_,_,rfl,rfl,h,q⟩
def a86:De X (binaryOp .Pow) (rOp nm X.K (MW.Er .pow)):=a1p a02 (λ_ _ _=>rfl) λi j H Q h q=>⟨_,_,rfl,rfl,⟨h.1,by omega,h.2.2⟩,q⟩
set_option tactic.hygienic true in
def ql{X:Cx}(S:mz nm X.K Z H M)(r:Rep X.K Z H d v)(h:MW.dm M d=some ds):∃p vs,v=.ref p/\H p=some (.lst vs)/\lg X.K Z H ds vs:=by
 cases r with
 |vl e n r=>simp[MW.dm] at h;subst h;exact⟨_,_,rfl,e,r⟩
 |ref e =>
  rename_i n p;simp only[MW.dm] at h;split at h<;>simp at h;rename_i J G;subst h;obtain⟨vs,Y,U⟩:=S.obj n _ p G e;exact⟨p,vs,rfl,Y,U⟩
 |_=>simp[MW.dm] at h
def Jx{X:Cx}(S:mz nm X.K ι H M)(r:Rep X.K ι H d v)(h:MW.Bh M d=some ds):∃p vs,v=.ref p/\(H p=some (.lst vs)\/H p=some (.tup vs))/\lg X.K ι H ds vs:=by
 cases r with
 |tup e r=>simp[MW.Bh] at h;subst h;exact⟨_,_,rfl,.inr e,r⟩
 |vl e n r =>
  obtain⟨p,vs,U,R,Z⟩:=ql S (.vl e n r) (show MW.dm M _=_ from h);exact⟨p,vs,U,.inl R,Z⟩
 |ref e =>
  obtain⟨p,vs,U,R,Z⟩:=ql S (.ref e) (show MW.dm M _=_ from h);exact⟨p,vs,U,.inl R,Z⟩
 |_=>simp[MW.Bh,MW.dm] at h
def Wu{X:Cx}(S:mz nm X.K Z H M)(R:H p=none)(r:lg X.K Z H ds U):mz nm X.K Z (upd H p (.lst U)) M/\Le Z H Z (upd H p (.lst U))/\Rep X.K Z (upd H p (.lst U)) (.vl ds) (.ref p):=by obtain⟨S1,le⟩:=S.laid R (.lst U);exact⟨S1,le,.vl rz (S.fresh R) (r.mono le)⟩
def Oj{X:Cx}(S:mz nm X.K Z H M)(R:H p=none)(r:lg X.K Z H ds U):mz nm X.K Z (upd H p (.tup U)) M/\Le Z H Z (upd H p (.tup U))/\Rep X.K Z (upd H p (.tup U)) (.tup ds) (.ref p):=by obtain⟨S1,le⟩:=S.laid R (.tup U);exact⟨S1,le,.tup rz (r.mono le)⟩
def aaq{X:Cx}(S:mz nm X.K Z H M)(R:H p=none)(r:lg X.K Z H ds U):mz nm X.K (Z.add p) (upd H p (.lst U)) (M++[.lst ds])/\Le Z H (Z.add p) (upd H p (.lst U))/\Rep X.K (Z.add p) (upd H p (.lst U)) (.ref M.length) (.ref p):=by
 obtain⟨S1,le⟩:=S.new (H':=upd H p (.lst U)) (o:=.lst ds) R (λa u e=>by rw[j9 (kh e R)];exact e) λle=>⟨U,rz,r.mono le⟩
 exact⟨S1,le,.ref (by show(Z.l++[p])[M.length]?=some p;rw[<- S.len];simp)⟩
def Wv:(100000:Nat)<=sizeLine:=by decide
set_option tactic.hygienic true in
def avb(h:MW.Er .add x y M=.ok d M'):(∃i j,x=.int i/\y=.int j/\d=.int (i+j)/\M'=M) \/
 ∃Y Z,MW.dm M x=some Y/\MW.dm M y=some Z/\Y.length+Z.length<=100000/\d=.vl (Y++Z)/\M'=M:=by
 have h:MW.amq x y M=.ok d M':=h;unfold MW.amq at h;split at h<;>try cases h
 .exact .inl ⟨_,_,rfl,rfl,rfl,rfl⟩
 .split at h
  .split at h<;>cases h
   rename_i J U G;exact .inr ⟨_,_,J,U,G,rfl,rfl⟩
  .cases h
set_option tactic.hygienic true in
def avc(h:MW.amr x y M=.ok d Y):(∃i j,x=.int i/\y=.int j/\auo i j/\d=.int (i*j)/\Y=M)\/∃z,∃k:Nat,x=.tup [z]/\y=.int k/\k<=100000/\d=.tup (List.replicate k z)/\Y=M:=by
 unfold MW.amr at h;split at h
 .split at h
  .rename_i n
   split at h
   .rename_i G
    cases h;exact .inr ⟨_,n.toNat,rfl,by rw[Int.toNat_of_nonneg G.1],by omega,rfl,rfl⟩
   .cases h
  .cases h
 .obtain⟨i,j,rfl,rfl,Z⟩:=MW.Zt h (by intro z;cases z)
  split at Z
  .rename_i J
   cases Z;exact .inl ⟨i,j,rfl,rfl,J,rfl,rfl⟩
  .cases Z
theorem adh(r:Rep K Z H d v):∀k:Nat,lg K Z H (List.replicate k d) (List.replicate k v)
 |0=>.nil|k+1=>.cons r (adh r k)
def a87:De X (binaryOp .Mult) (rOp nm X.K (MW.Er .mul)) :=
 De.of (a00.or au9) λv u H Q U M x y d M' S rv ru e q=>by
  rcases avc e with⟨i,j,rfl,rfl,hc,rfl,rfl⟩|⟨z,k,rfl,rfl,hk,rfl,rfl⟩
  .cases rv;cases ru
   exact .inl ⟨_,_,rfl,rfl,hc,q U H _ (Le.refl _ _) S (.int _)⟩
  .cases ru
   cases rv with
   |tup R Z =>
    cases Z with
    |cons Z r2 =>
     cases r2;refine .inr ⟨_,_,k,rfl,rfl,Ia.of R,hk,λh1=>?_,λp hp=>?_⟩
     .subst h1
      exact q U H _ (Le.refl _ _) S (.tup R (.cons Z .nil))
     .obtain⟨a,b,c⟩:=Oj S hp (adh Z k)
      exact q U _ _ b a c
def a88:De X (binaryOp .Add) (rOp nm X.K (MW.Er .add)) :=
 De.of (a0y.or ao4) λv u H Q ι M x y d M' S rv ru e q=>by
  have Z:∀R U,MW.dm M x=some R->MW.dm M y=some U->R.length+U.length<=100000->d=.vl (R++U)->M'=M->a8r v u H Q:=λR U h1 h2 hl hd hm=>by
   subst hd hm;obtain⟨p,vs,rfl,e1,r1⟩:=ql S rv h1;obtain⟨p2,qq,rfl,e2,r2⟩:=ql S ru h2;refine⟨p,p2,vs,qq,rfl,rfl,e1,e2,?_,λp3 h3=>?_⟩
   .rw[<- r1.length,<- r2.length];exact gw hl Wv
   .obtain⟨a,b,c⟩:=Wu S h3 (r1.append r2)
    exact q ι _ _ b a c
  rcases avb e with⟨i,j,rfl,rfl,rfl,rfl⟩|⟨R,U,h1,h2,hl,h3,h4⟩
  .cases rv;cases ru
   exact .inl ⟨_,_,rfl,rfl,q ι H _ (Le.refl _ _) S (.int _)⟩
  .exact .inr (Z _ _ h1 h2 hl h3 h4)
def avd{t:TE}(h:PT X a (λZ H Q=>t Z H λx H1=>∃c,x=.bl c/\Q c H1))(w:∀Z H Q,tE nm W X.K a' Z H Q->t Z H Q):PT X a (tQ nm W X.K a') :=
 PT.of h λZ H Q ι ρ M b M' S R e q=>w Z H _ ⟨ι,ρ,M,_,M',S,R,e,λU H' v le S' r=>by cases r;exact⟨b,rfl,q U H' le S'⟩⟩
def a89(h:PE X a (tE nm W X.K R))(U:∀Z,isTrue a X.env Z=(do let v <- Z;standAt a.pos;holding [v] (truthy v))):PT X a (tQ nm W X.K R) :=
 avd (a0h h U) λ_ _ _ q=>q
def Xp(R:Nm)(K:Fg)(U:Cp):R2:=λv u H Q=>∃Z M x y b,mz R K Z H M/\Rep K Z H x v/\Rep K Z H y u/\MW.Lz U x y M=some b/\Q (.bl b) H
def adi{X:Cx}:∀σ H Q,tE nm W X.K (.cmp U a' b') σ H Q->tOp (Xp nm X.K U) (tE nm W X.K a') (tE nm W X.K b') σ H Q:=fun σ H Q hh=>by obtain⟨ι,ρ,M,d,M',S,R,e,q⟩:=hh;rw[MW.ate] at e;obtain⟨x,M1,e1,e⟩:=dz e;obtain⟨y,M2,e2,e⟩:=dz e;obtain⟨e,rfl⟩:=xx e;obtain⟨b,e3,rfl⟩:=dg.mp e;exact two S R e1 e2 λZ H2 v u le S2 _ rv ru=>⟨Z,M',x,y,b,S2,rv,ru,e3,q Z H2 _ le S2 (.bl b)⟩
def a9a(U:De X (compareOp op) (Xp nm X.K Z))(ha:PE X a (tE nm W X.K a'))(R:PE X b (tE nm W X.K b'))(hm:behindInMarks op b=false):PE X (.Compare a [op] [b] pos) (tE nm W X.K (.cmp Z a' b')) :=
 PE.weak (auq U ha R hm) adi
def a9b(ho:De X (compareOp op) (Xp nm X.K Z))(ha:PE X a (tE nm W X.K R))(hb:PE X b (tE nm W X.K U))(hm:behindInMarks op b=false):PT X (.Compare a [op] [b] pos) (tQ nm W X.K (.cmp Z R U)) :=
 avd (t:=tOp (Xp nm X.K Z) (tE nm W X.K R) (tE nm W X.K U)) (aur ho ha hb hm) adi
def Ww{X:Cx}:∀σ H Q,tE nm W X.K (.chain op1 op2 a' b' c') σ H Q->aai (Xp nm X.K op1) (Xp nm X.K op2) (tE nm W X.K a') (tE nm W X.K b') (tE nm W X.K c') σ H Q:=fun σ H Q hh=>by
 obtain⟨ι,ρ,M,d,M',S,R,e,q⟩:=hh;rw[MW.ajm] at e;obtain⟨x,M1,e1,e⟩:=dz e;obtain⟨y,M2,e2,e⟩:=dz e;obtain⟨k,Z,e3,e⟩:=dz e;obtain⟨e3,rfl⟩:=xx e3;refine two S R e1 e2 λqq H2 v u le S2 R2 rv ru=>⟨qq,Z,x,y,k,S2,rv,ru,e3,k,rfl,?_⟩
 cases k with
 |false =>
  have e:Res.ok (MW.D.bl false) Z=.ok d M':=e;cases e;exact q qq H2 _ le S2 (.bl false)
 |true =>
  have e:((c'.den W ρ Z).bind λz M3=>Res.uz ((MW.Lz op2 y z M3).map MW.D.bl) M3)=.ok d M':=e;obtain⟨z,M3,e4,e⟩:=dz e;obtain⟨e,rfl⟩:=xx e;obtain⟨b,e5,rfl⟩:=dg.mp e;show tE nm W X.K c' σ H2 _;exact one S2 R2 e4 λU H3 w Wx S3 _ rw=>⟨U,M',y,z,b,S3,ru.mono Wx,rw,e5,q U H3 _ (le.trans Wx) S3 (.bl b)⟩
def ave(h1:De X (compareOp U) (Xp nm X.K op1))(h2:De X (compareOp Z) (Xp nm X.K op2))(ha:PE X a (tE nm W X.K a'))(R:PE X b (tE nm W X.K b'))(hc:PE X c (tE nm W X.K c'))(hm:lastMarks [U,Z] [b,c]=false) :
 PE X (.Compare a [U,Z] [b,c] pos) (tE nm W X.K (.chain op1 op2 a' b' c')):=PE.weak (aom h1 h2 ha R hc hm) Ww
def avf(h1:De X (compareOp U) (Xp nm X.K op1))(h2:De X (compareOp Z) (Xp nm X.K op2))(ha:PE X a (tE nm W X.K a'))(hb:PE X b (tE nm W X.K R))(hc:PE X c (tE nm W X.K c'))(hm:lastMarks [U,Z] [b,c]=false) :
 PT X (.Compare a [U,Z] [b,c] pos) (tQ nm W X.K (.chain op1 op2 a' R c')):=avd (t:=aai (Xp nm X.K op1) (Xp nm X.K op2) (tE nm W X.K a') (tE nm W X.K R) (tE nm W X.K c')) (aon h1 h2 ha hb hc hm) Ww
def aar(h:De X (compareOp op) (rI0 λi j=>.bl (f i j)))(e:∀x y M,MW.Lz Z x y M=MW.aby f x y):De X (compareOp op) (Xp nm X.K Z) :=
 De.weak h λv u H Q hh=>by obtain⟨ι,M,x,y,b,S,rv,ru,U,q⟩:=hh;rw[e] at U;obtain⟨i,j,rfl,rfl,R⟩:=MW.Zt U (by intro z;cases z);cases rv;cases ru;cases R;exact⟨_,_,rfl,rfl,q⟩
def bft:De X (compareOp .Lt) (Xp nm X.K .lt):=aar a76 λ_ _ _=>rfl
def bfu:De X (compareOp .LtE) (Xp nm X.K .le):=aar a77 λ_ _ _=>rfl
def bfv:De X (compareOp .Gt) (Xp nm X.K .gt):=aar a78 λ_ _ _=>rfl
def bfw:De X (compareOp .GtE) (Xp nm X.K .ge):=aar a79 λ_ _ _=>rfl
set_option tactic.hygienic true in
def ayd{Z:Ya}(y:PE X a (tE nm W X.K a'))(hb:PE X (.BoolOp .And (b::Z) pos) (tE nm W X.K U)):PE X (.BoolOp .And (a::b::Z) pos) (tE nm W X.K (.and a' U)) :=
 PE.of (a0l y hb) fun σ H Q ι ρ M d M' S R e q=>by
  rw[MW.ag3] at e;obtain⟨x,M1,e1,e⟩:=dz e;refine one S R e1 λY H1 v le J R1 r=>?_
  cases r<;>try cases e
  rename_i k;refine⟨k,rfl,?_⟩;cases k with
  |false=>cases e;exact q Y H1 _ le J (.bl false)|true=>exact one J R1 e λG u w L C _ r2=>q G u w (le.trans L) C r2
set_option tactic.hygienic true in
def a9c{Z:Ya}(y:PE X a (tE nm W X.K a'))(hb:PE X (.BoolOp .Or (b::Z) pos) (tE nm W X.K U)):PE X (.BoolOp .Or (a::b::Z) pos) (tE nm W X.K (.or a' U)) :=
 PE.of (a7q y hb) fun σ H Q ι ρ M d M' S R e q=>by
  rw[MW.amt] at e;obtain⟨x,M1,e1,e⟩:=dz e;refine one S R e1 λY H1 v le J R1 r=>?_
  cases r<;>try cases e
  rename_i k;refine⟨k,rfl,?_⟩;cases k with
  |true=>cases e;exact q Y H1 _ le J (.bl true)|false=>exact one J R1 e λG u w L C _ r2=>q G u w (le.trans L) C r2
def a9d(ha:PE X a (tE nm W X.K a')):PE X (.UnaryOp .Not a pos) (tE nm W X.K (.not a')) :=
 PE.of (a0m ha) fun σ H Q ι ρ M d M' S R e q=>by
  rw[MW.ag4] at e;obtain⟨x,M1,e1,e⟩:=dz e;refine one S R e1 λZ H1 v le U R1 r=>?_
  cases r<;>try cases e
  exact⟨_,rfl,q Z H1 _ le U (.bl _)⟩
def X6{X:Cx}{M1:cg}(S:mz nm X.K ι H M)(R:u0 X.K ι H ρ σ)(ha:a'.den W ρ M=.ok (.bl k) M1)(h:∀Z U,Le ι H Z U->mz nm X.K Z U M1->u0 X.K Z U ρ σ->G k U):tQ nm W X.K a' σ H G :=
 ⟨ι,ρ,M,k,M1,S,R,ha,λqq H' le S'=>h qq H' le S' (R.mono le)⟩
set_option tactic.hygienic true in
def aye{rest:Ya}(y:PT X a (tQ nm W X.K a'))(L:PW X (.BoolOp .And (b::rest) pos) (tQ nm W X.K b')):PW X (.BoolOp .And (a::b::rest) pos) (tQ nm W X.K (.and a' b')) :=
 λZ Y s σ H Q I ⟨ι,ρ,M,d,M',S,R,e,q⟩=>a0j y L Z Y s σ H Q I (by
  rw[MW.ag3] at e;obtain⟨x,M1,e1,e⟩:=dz e;cases x<;>try cases e
  rename_i k;refine X6 S R e1 λG H1 le U u=>?_
  cases k with
  | false=>cases e;exact q G H1 le U|true=>exact X6 U u e λJ H2 C S2 _=>q J H2 (le.trans C) S2)
set_option tactic.hygienic true in
def a9e{rest:Ya}(y:PT X a (tQ nm W X.K a'))(L:PW X (.BoolOp .Or (b::rest) pos) (tQ nm W X.K b')):PW X (.BoolOp .Or (a::b::rest) pos) (tQ nm W X.K (.or a' b')) :=
 λZ Y s σ H Q I ⟨ι,ρ,M,d,M',S,R,e,q⟩=>a7n y L Z Y s σ H Q I (by
  rw[MW.amt] at e;obtain⟨x,M1,e1,e⟩:=dz e;cases x<;>try cases e
  rename_i k;refine X6 S R e1 λG H1 le U u=>?_
  cases k with
  | true=>cases e;exact q G H1 le U|false=>exact X6 U u e λJ H2 C S2 _=>q J H2 (le.trans C) S2)
def a9f(ha:PT X a (tQ nm W X.K a')):PT X (.UnaryOp .Not a pos) (tQ nm W X.K (.not a')) :=
 PT.of (a0k ha) fun σ H Q ι ρ M d M' S R e q=>by
  rw[MW.ag4] at e;obtain⟨x,M1,e1,e⟩:=dz e;cases x<;>try cases e
  exact X6 S R e1 λZ H1 le U R1=>q Z H1 le U
set_option tactic.hygienic true in
def a9g(hc:PT X c (tQ nm W X.K c'))(ha:PE X a (tE nm W X.K a'))(hb:PE X b (tE nm W X.K y)):PE X (.IfExp c a b pos) (tE nm W X.K (.ite c' a' y)) :=
 PE.of (aoe hc ha hb) fun σ H Q ι ρ M d M' S R e q=>by
  rw[MW.atf] at e;obtain⟨x,M1,e1,e⟩:=dz e;cases x<;>try cases e
  rename_i k;refine X6 S R e1 λu H1 le C L=>?_
  cases k with
  |true=>exact one C L e λZ J w G Y _ U=>q Z J w (le.trans G) Y U
  |false=>exact one C L e λZ J w G Y _ U=>q Z J w (le.trans G) Y U
def Uj:PA X [] (Ws nm W X.K .nil):=PA.of a08 fun σ H Q Z ρ M U M' S R e q=>by rw[MW.Jk] at e;cases e;exact q Z H _ (Le.refl _ _) S .nil
def Wy{X:Cx}{M1:cg}(S:mz nm X.K ι H M)(R:u0 X.K ι H ρ σ)(ha:es'.den W ρ M=.ok ds M1)(h:∀Z U vs,Le ι H Z U->mz nm X.K Z U M1->u0 X.K Z U ρ σ->lg X.K Z U ds vs->G vs U):Ws nm W X.K es' σ H G :=
 ⟨ι,ρ,M,ds,M1,S,R,ha,λqq H' v le S' r=>h qq H' v le S' (R.mono le) r⟩
def N6(ha:PE X a (tE nm W X.K a'))(hr:PA X U (Ws nm W X.K Z))(hs:starEach (a::U) X.env=(false,eval a X.env)::starEach U X.env):PA X (a::U) (Ws nm W X.K (.cons a' Z)) :=
 PA.of (auu ha hr hs) fun σ H Q ι ρ M ds M' S R e q=>by rw[MW.Dm] at e;obtain⟨x,M1,e1,e⟩:=dz e;obtain⟨xs,M2,e2,e⟩:=dz e;cases e;exact one S R e1 λqk H1 v le S1 R1 r1=>Wy S1 R1 e2 λqq H2 vs yt S2 R2 r2=>q qq H2 _ (le.trans yt) S2 (.cons (r1.mono yt) r2)
noncomputable def Cz.len:Cz->Nat
 |.nil=>0|.cons _ r=>Cz.len r+1
theorem Gd{W:Gh}:∀{Z:Cz}{ρ:En}{M R:cg}{U:List Dv},Z.den W ρ M=.ok U R->U.length=Cz.len Z
 |.nil,_,_,_,_,e=>by rw[MW.Jk] at e;cases e;rfl
 |.cons _ r,_,_,_,_,e=>by
  rw[MW.Dm] at e;obtain⟨x,R,e1,e⟩:=dz e;obtain⟨xs,M2,e2,e⟩:=dz e;cases e;rw[gr,Gd e2];rfl
def a9h(h:PA X es (Ws nm W X.K Z))(hl:Cz.len Z<=1000):PE X (.Tuple es k pos) (tE nm W X.K (.tup Z)) :=
 PE.of (a09 h) fun σ H Q ι ρ M d M' S R e q=>by
  rw[MW.ag5] at e;obtain⟨ds,M1,e1,e⟩:=dz e;cases e;refine Wy S R e1 λU H1 vs le S1 R1 r=>⟨?_,λp hp=>?_⟩
  .rw[<- r.length,Gd e1];exact gw hl (by decide)
  .obtain⟨S2,yt,r2⟩:=Oj S1 hp r
   exact q U _ _ (le.trans yt) S2 r2
def a1t(h:PA X es (Ws nm W X.K Z))(hl:Cz.len Z<=1000):PE X (.List es pos) (tE nm W X.K (.Iw Z)) :=
 PE.of (aor h) fun σ H Q ι ρ M d M' S R e q=>by
  rw[MW.amu] at e;obtain⟨ds,M1,e1,e⟩:=dz e;cases e;refine Wy S R e1 λU H1 vs le S1 R1 r=>⟨?_,λp hp=>?_⟩
  .rw[<- r.length,Gd e1];exact gw hl (by decide)
  .obtain⟨S2,yt,r2⟩:=Wu S1 hp r
   exact q U _ _ (le.trans yt) S2 r2
def a9i(h:PA X es (Ws nm W X.K Z))(hl:Cz.len Z<=1000):PE X (.List es pos) (tE nm W X.K (.lst Z)) :=
 PE.of (aor h) fun σ H Q ι ρ M d M' S R e q=>by
  rw[MW.atg] at e;obtain⟨ds,M1,U,e⟩:=dz e;cases e;refine Wy S R U λqq H1 vs le S1 R1 r=>⟨?_,λp hp=>?_⟩
  .rw[<- r.length,Gd U];exact gw hl (by decide)
  .obtain⟨S2,yt,r2⟩:=aaq S1 hp r
   exact q _ _ _ (le.trans yt) S2 r2
def a9j(ha:PE X a (tE nm W X.K a')):PE X (.UnaryOp .USub a pos) (tE nm W X.K (.neg a')) :=
 PE.of (a72 a03 ha) fun σ H Q ι ρ M d M' S R e q=>by
  rw[MW.atd] at e;obtain⟨x,M1,e1,e⟩:=dz e;refine one S R e1 λZ H1 v le U R1 r=>?_
  cases r<;>try cases e
  exact⟨_,rfl,q Z H1 _ le U (.int _)⟩
open PyProof.Rows (subscriptTail)
section
variable{κ:Type}[DecidableEq κ]{K:Fg}{ι:Io}{H:Hp}
theorem o7.length{κ Z:Type}{f:κ->Z->Prop}:∀{l:List (κ×Dv)}{U:List (Z×V)},o7 K ι H f l U->l.length=U.length:=by intro _ _ h;induction h with|nil=>rfl|cons _ _ _ ih=>rw[gr,gr,ih]
theorem o7.look{k:κ}:∀{Z:List (κ×Dv)}{l:List (κ×V)},o7 K ι H (λk R=>k=R) Z l->(∀d,MW.wg Z k=some d->∃v,Q4 l k=some v/\Rep K ι H d v)/\(MW.wg Z k=none->Q4 l k=none)
 |_,_,.nil=>⟨λd h=>by simp[MW.wg] at h,λ_=>rfl⟩
 |_,_,.cons (k:=q) (k':=q') hk h t=>by
  subst hk;obtain⟨a,b⟩:=o7.look (k:=k) t
  by_cases e:q=k
  .refine⟨λd U=>?_,λU=>?_⟩
   .simp[MW.wg,qx,e] at U
    subst U;exact⟨_,Q5 e,h⟩
   .simp[MW.wg,qx,e] at U
  .have z:∀(d:Dv) r,MW.wg ((q,d)::r) k=MW.wg r k:=λd r=>by simp[MW.wg,qx,e]
   rw[z,Q6 (by exact e)];exact⟨a,b⟩
theorem o7.any{k:κ}:∀{Z:List (κ×Dv)}{l:List (κ×V)},o7 K ι H (λk R=>k=R) Z l->(Z.any λU=>decide (U.1=k))=(l.any λU=>decide (U.1=k))
 |_,_,.nil=>rfl|_,_,.cons hk h t=>by subst hk;simp only[Ax,o7.any t]
theorem o7.Hs{k:κ}{d:Dv}{v:V}(r:Rep K ι H d v):∀{U:List (κ×Dv)}{l:List (κ×V)},o7 K ι H (λk R=>k=R) U l ->
 o7 K ι H (λk R=>k=R) (U.map λZ=>if Z.1=k then(Z.1,d) else Z) (l.map λZ=>if Z.1=k then(Z.1,v) else Z)
 |_,_,.nil=>.nil
 |_,_,.cons (k:=q) hk h t=>by
  subst hk;simp only[gh]
  by_cases e:q=k
  .simp only[e,j5];exact .cons rfl r (o7.Hs r t)
  .simp only[e,jd];exact .cons rfl h (o7.Hs r t)
theorem o7.snoc{κ Z:Type}{f:κ->Z->Prop}{k:κ}{R:Z}{d:Dv}{v:V}(U:f k R)(r:Rep K ι H d v):∀{l:List (κ×Dv)}{l':List (Z×V)},o7 K ι H f l l'->o7 K ι H f (l++[(k,d)]) (l'++[(R,v)])
 |_,_,.nil=>.cons U r .nil|_,_,.cons q h t=>.cons q h (o7.snoc U r t)
def o7.put{k:κ}(r:Rep K ι H d v)(t:o7 K ι H (λk Z=>k=Z) kvs l):o7 K ι H (λk Z=>k=Z) (MW.Dw kvs k d) (putK l k v):=by
 unfold MW.Dw putK;rw[t.any (k:=k)]
 by_cases e:(l.any λU=>decide (U.1=k))=true
 .rw[cj e,cj e];exact t.Hs r
 .rw[bw e,bw e];exact t.snoc rfl r
theorem o7.fld{nm:Nm}{f:Nat}:∀{fs:List (Nat×Dv)}{l:List (Str×V)},o7 K ι H (λk U=>U=nm.fld k) fs l->(∀d,fs.lookup f=some d->∃v,l.lookup (nm.fld f)=some v/\Rep K ι H d v)/\(fs.lookup f=none->l.lookup (nm.fld f)=none)
 |_,_,.nil=>⟨λd h=>by simp at h,λ_=>rfl⟩
 |_,_,.cons (k:=q) (k':=q') hk h t=>by
  subst hk;obtain⟨a,b⟩:=o7.fld (nm:=nm) (f:=f) t;rw[o5,o5]
  by_cases e:f=q
  .subst e
   simp only[zj];exact⟨λd Z=>by cases Z;exact⟨_,rfl,h⟩,λZ=>by cases Z⟩
  .have R:(f==q)=false:=by simpa using e
   have e2:(nm.fld f==nm.fld q)=false:=by
    cases z:nm.fld f==nm.fld q with
    |false=>rfl|true=>exact absurd (nm.inj _ _ (eq_of_beq z)) e
   rw[R,e2];exact⟨a,b⟩
theorem o7.Ie{Z:Nm}{f:Nat}{d:Dv}{v:V}(r:Rep K ι H d v):∀{fs:List (Nat×Dv)}{l:List (Str×V)},o7 K ι H (λk U=>U=Z.fld k) fs l->o7 K ι H (λk U=>U=Z.fld k) (MW.Tz f d fs) (L2.Ie (Z.fld f) v l)
 |_,_,.nil=>.cons rfl r .nil
 |_,_,.cons (k:=q) (k':=q') hk h t=>by
  subst hk;unfold MW.Tz L2.Ie
  by_cases e:q=f
  .subst e
   simp only[j5];exact .cons rfl r t
  .have R:¬Z.fld q=Z.fld f:=λz=>e (Z.inj _ _ z)
   rw[bw e,bw R];exact .cons rfl h (o7.Ie r t)
def Tc(r:Rep K ι H d v)(h:MW.Uu d=some k):v=kV k:=by cases r<;>simp[MW.Uu] at h<;>subst h<;>rfl
set_option tactic.hygienic true in
theorem apd:∀{Y:List Dv}{G:List V}{Z:List Kx},lg K ι H Y G->MW.Zr Y=some Z->G=Z.map kV
 |_,_,_,.nil,h=>by simp[MW.Zr] at h;subst h;rfl
 |_,_,_,.cons r t,h=>by
  simp only[MW.Zr] at h;split at h
  .rename_i k C J U
   cases h;rw[Tc r J,apd t U];rfl
  .cases h
def Td(r:Rep K ι H d v)(h:MW.J6 d=some Z):∃b,v=.ref b/\H b=some (.tup (Z.map kV)):=by
 cases r with
 |tup e r=>exact⟨_,rfl,by rw[<- apd r h];exact e⟩|_=>simp[MW.J6] at h
end
def bfx(U:Nm)(K:Fg):R2:=λv u H Q=>∃Z M x y d,mz U K Z H M/\Rep K Z H x v/\Rep K Z H y u/\MW.Aa x y M=some d/\∀w,Rep K Z H d w->Q w H
def ape(hu:X.A.units+1<cLine):IxR X (λx y H Q=>∃a v,x=.ref a/\Ou H a y (some v)/\Q v H):=by intro U Z R s σ H x y v u Q I rx ry h hs;obtain⟨p,z,rfl,g,q⟩:=h;cases rx;exact PyProof.Rows.tail_any (acy I g) PySem.F.slot_dict_getitem.lookup (ake hu I g ry λw' s' I' r=>⟨z,H,I',r,q⟩) hs
set_option tactic.hygienic true in
def a1u(hu:X.A.units+1<cLine):IxR X (bfx nm X.K):=by
 intro Z Y G s σ H v u v' u' Q I rv ru ⟨ι,M,x,y,d,S,rx,ry,e,q⟩ hs;have R:∀(p:Addr)(vs:List V)(ds:List Dv),v=.ref p->(Gz X.K H p vs\/Ia X.K H p vs)->lg X.K ι H ds vs->(match y with|.int i=>(MW.Xv ds.length i).bind λj=>ds[j]?|_=>none)=some d ->
  wpAny (model X.prog X.w) X.A (subscriptTail Z Y v' u') (EP X G σ Q) X.xe s:=λp vs ds hv hq r e=>by
  subst hv;obtain⟨i,qv⟩:∃i,y=.int i:=by cases y<;>first|exact⟨_,rfl⟩|cases e
  subst qv;cases ry;obtain⟨j,C,e2⟩:=dw.mp e;obtain⟨z,L,U⟩:=r.get e2;have qq:atI vs i=some z:=by unfold atI;rw[show ixN vs.length i=some j from by rw[<- r.length];exact C];exact L
  rcases hq with hq|hq
  .exact L2.Cm Z Y G s σ H _ _ v' u' Q I rv ru ⟨p,vs,i,z,rfl,rfl,hq,qq,q z U⟩ hs
  .exact L2.J8 Z Y G s σ H _ _ v' u' Q I rv ru ⟨p,vs,i,z,rfl,rfl,hq,qq,q z U⟩ hs
 cases rx with
 |tup C r1=>exact R _ _ _ rfl (.inr (Ia.of C)) r1 (by cases ry<;>first|exact e|(simp[MW.Aa,MW.Bh] at e))
 |vl C n1 r1=>exact R _ _ _ rfl (.inl (Gz.of C)) r1 (by cases ry<;>first|exact e|(simp[MW.Aa,MW.Bh,MW.dm] at e))
 |fz C r1=>exact R _ _ _ rfl (.inl C.sq) r1 (by cases ry<;>first|exact e|(simp[MW.Aa] at e))
 |ref C =>
  rename_i n p;have qk:∀l J,Rd H p (.dT l)->o7 X.K ι H (λk k'=>k=k') J l->(MW.J6 y).bind (MW.wg J)=some d->wpAny (model X.prog X.w) X.A (subscriptTail Z Y v' u') (EP X G σ Q) X.xe s:=λl J L U e=>by obtain⟨k,e2,e3⟩:=dw.mp e;obtain⟨z,h3,h4⟩:=(U.look (k:=k)).1 d e3;obtain⟨b,rfl,hb⟩:=Td ry e2;exact ape hu Z Y G s σ H _ _ v' u' Q I rv ru ⟨p,z,rfl,.inr ⟨l,k,b,L,rfl,hb,h3.symm⟩,q z h4⟩ hs
  simp only[MW.Aa] at e;split at e
  .rename_i J hn
   obtain⟨l,L,U⟩:=S.obj n _ p hn C;exact qk l J (.inl L) U e
  .rename_i J hn
   obtain⟨l,o,L,U⟩:=S.obj n _ p hn C;exact qk l J (.inr ⟨o,L⟩) U e
  .rename_i J hn
   obtain⟨l,L,U⟩:=S.obj n _ p hn C;obtain⟨k,e2,e3⟩:=dw.mp e;obtain⟨z,h3,h4⟩:=(U.look (k:=k)).1 d e3;have hy:=Tc ry e2;subst hy;exact ape hu Z Y G s σ H _ _ v' u' Q I rv ru ⟨p,z,rfl,by rw[<- h3];exact Ou.k L,q z h4⟩ hs
  .cases hl:MW.dm M (.ref n) with
   |none=>rw[hl] at e;cases e
   |some ds =>
    obtain⟨p',vs,hp,L,U⟩:=ql S (.ref C) hl;cases hp;rw[hl] at e;exact R _ _ _ rfl (.inl (Gz.of L)) U (by cases ry<;>first|exact e|cases e)
 |_=>simp[MW.Aa,MW.Bh,MW.dm] at e
def bfy(hu:X.A.units+1<cLine)(ha:PE X a (tE nm W X.K a'))(hb:PE X b (tE nm W X.K b'))(hs:aaj b):PE X (.Subscript a b pos) (tE nm W X.K (.ix a' b')) :=
 PE.of (a8m (a1u (nm:=nm) hu) ha hb hs) fun σ H Q ι ρ M d M' S R e q=>by rw[MW.azi] at e;obtain⟨x,M1,e1,e⟩:=dz e;obtain⟨y,M2,e2,e⟩:=dz e;obtain⟨e,rfl⟩:=xx e;exact two S R e1 e2 λZ H2 v u le U _ rv ru=>⟨Z,M',x,y,d,U,rv,ru,e,λw r=>q Z H2 w le U r⟩
set_option tactic.hygienic true in
def a9k(L:n=nm.fld f)(G:∀c C,nm.cls c=some C->Cls X.K C/\Gw X.K C n)(ha:PE X a (tE nm W X.K a'))(hb:attributeBase a n X.env (eval a X.env)=eval a X.env):PE X (.Attribute a n pos) (tE nm W X.K (.fld a' f)) :=
 PE.of (a06 ha hb) fun σ H Q ι ρ M d M' S R e q=>by
  rw[MW.ati] at e;obtain⟨x,M1,e1,e⟩:=dz e;obtain⟨e,rfl⟩:=xx e;refine one S R e1 λZ H1 v le J R1 r=>?_
  obtain⟨m,Y⟩:∃m,x=.ref m:=by cases x<;>first|exact⟨_,rfl⟩|cases e
  subst Y;obtain⟨p,rfl,hp⟩:∃p,v=.ref p/\Z.l[m]?=some p:=by cases r with|ref z=>exact⟨_,rfl,z⟩
  simp only[MW.Qm] at e;split at e
  .rename_i c fs hm
   obtain⟨C,u,l,h1,h2,h3⟩:=J.obj m _ p hm hp;obtain⟨z,y,h5⟩:=(h3.fld (nm:=nm) (f:=f)).1 d e;subst L;obtain⟨g1,U⟩:=G c C h1;exact⟨p,C,u,l,z,rfl,h2,g1,U,y,q Z H1 z le J h5⟩
  .cases e
open MW (Ex Cz OEx Lj Bp o6 Lv Tg Res cg MO Gh Cp Op2 Blt Bm Kx Src)
noncomputable def Te:Expr->Bool
 |.ListComp ..=>false|.SetComp ..=>false|.DictComp ..=>false|_=>true
def N7(h:Te e=true)(t:Option Expr)(l:Nat)(Z:Env):swapsWith e t l Z=pure false:=by cases e<;>first|rfl|(cases h)
noncomputable def Gy:Expr->Bool
 |.Set ..=>false|_=>true
def Ei(h:Gy e=true)(Z:Env)(x:Value):foldedSetIterable e Z x=pure x:=by cases e<;>first|rfl|(cases h)
def Uk(h:Gy e=true)(Z:CmpOp):behindInMarks Z e=false:=by cases e<;>first|rfl|(cases h)
noncomputable def ayf:Expr->Bool
 |.Tuple ..=>false|_=>true
noncomputable def noStar:Expr->Bool
 |.Starred ..=>false|_=>true
def m6(h:noStar e=true)(Z:Ya)(env:Env):starEach (e::Z) env=(false,eval e env)::starEach Z env:=by cases e<;>first|rfl|(cases h)
noncomputable def aas:Expr->Bool
 |.Slice ..=>false|_=>true
def apf(h:aas e=true):aaj e:=by intro o i;cases e<;>first|rfl|(cases h)
noncomputable def Bo:Tg->List Nat
 |.name i=>[i]|.names is=>is
def tGt(nm:Nm)(K:Fg)(t:Tg):TG:=λv σ H Q=>∃R ρ M d U,mz nm K R H M/\u0 K R H ρ σ/\Rep K R H d v/\t.put d ρ=some U/\∀Z,u0 K R H U Z->Z.length=σ.length->(∀j,j∉Bo t->Z[j]?=σ[j]?)->Q Z H
def PG.weak(h:PG X tg t)(w:∀v U H Q,t' v U H Q->t v U H Q):PG X tg t':=λZ s U H v u Q I r q=>h Z s U H v u Q I r (w v U H Q q)
def PG.of(h:PG X tg t)(w:∀v σ H Q ι ρ M d U,mz nm X.K ι H M->u0 X.K ι H ρ σ->Rep X.K ι H d v->tt.put d ρ=some U->(∀Z,u0 X.K ι H U Z->Z.length=σ.length->(∀j,j∉Bo tt->Z[j]?=σ[j]?)->Q Z H)->t v σ H Q):PG X tg (tGt nm X.K tt) :=
 PG.weak h λv σ H Q z_=>by obtain⟨ι,ρ,M,d,U,S,R,r,e,q⟩:=z_;exact w v σ H Q ι ρ M d U S R r e q
def a1v(Z:X.N.Nodup)(U:X.N[i]?=some n)(hx:Loc X.env.scope n)(hf:X.fn n=true\/X.env.scope.names.lookup n=some .local):PG X (.Name n pos) (tGt nm X.K (.name i)) :=
 PG.of (aah Z U hx hf) λv σ H Q ι ρ M d qq S R r e q=>by cases e;exact q _ (R.set r i) (by simp) λj hj=>ux (λz=>hj (by simp[Bo,z]))
noncomputable def Kr:List Nat->List V->St->St
 |i::is,v::vs,σ=>Kr is vs (σ.set i (some v))|_,_,σ=>σ
theorem Wz{Z:Io}{H:Hp}{K:Fg}:∀{is:Y3}{U:List Dv}{vs:List V}{ρ:En}{σ:St},u0 K Z H ρ σ->lg K Z H U vs->u0 K Z H (MW.Pq is U ρ) (Kr is vs σ)
 |[],_,_,_,_,R,r=>by cases r<;>exact R|_::_,_,_,_,_,R,.nil=>R|i::is,_,_,_,_,R,.cons h t=>Wz (is:=is) (R.set h i) t
theorem Q7:∀{is:Y3}{U:List V}{Z:St}{j:Nat},j∉is->(Kr is U Z)[j]?=Z[j]?
 |[],U,Z,j,_=>by cases U<;>rfl|i::is,[],Z,j,_=>rfl
 |i::is,v::U,Z,j,h=>by
  show(Kr is U (Z.set i (some v)))[j]?=_;rw[Q7 (λz=>h (bf _ z)),ux (λz=>h (by rw[z];exact cz))]
theorem Ul:∀{is:Y3}{U:List V}{Z:St},(Kr is U Z).length=Z.length
 |[],U,Z=>by cases U<;>rfl|_::_,[],Z=>rfl|i::is,v::U,Z=>by show(Kr is U (Z.set i (some v))).length=_;rw[Ul,List.length_set]
inductive Ks(X:Cx):List Expr->List Nat->Prop
 |nil:Ks X [] []
 |cons {n:Str} {p:Pos} {i:Nat} {ts:Ya} {is:Y3} (hi:X.N[i]?=some n) (hx:Loc X.env.scope n) (hf:X.fn n=true\/X.env.scope.names.lookup n=some .local) (t:Ks X ts is):Ks X (.Name n p::ts) (i::is)
theorem adk{X:Cx}(hN:X.N.Nodup):∀{ts:Ya}{is:Y3},Ks X ts is->PGs X ts (λU R H Q=>U.length=is.length/\Q (Kr is U R) H)
 |_,_,.nil=>λZ s R H U us Q I r q=>by
  obtain⟨h1,h2⟩:=q;have hv:U=[]:=wz.mp h1;subst hv;exact aul Z s R H [] us Q I r ⟨rfl,h2⟩
 |_,_,.cons hi hx hf t=>λZ s R H U us Q I r q=>by
  obtain⟨h1,h2⟩:=q;cases U with
  |nil=>simp at h1|cons v U=>exact aoh (aah hN hi hx hf) (adk hN t) (by rfl) Z s R H (v::U) us Q I r ⟨v,U,rfl,by simpa using h1,h2⟩
theorem Fl{X:Cx}{env:Env}:∀{Z:Ya}{is:Y3},Ks X Z is->(assignEach Z env).length=is.length/\(assignEach Z env).findIdx? (·.1)=none
 |_,_,.nil=>⟨rfl,rfl⟩
 |_,_,.cons hi hx hf t=>by
  obtain⟨R,U⟩:=Fl (env:=env) t;refine⟨by simp[assignEach,R],?_⟩;simp[assignEach,List.findIdx?_cons];simpa using U
set_option tactic.hygienic true in
def avh(L:X.calm=true)(J:X.N.Nodup)(h:Ks X G is):PG X (.Tuple G k pos) (tGt nm X.K (.names is)) :=
 PG.of (a0r L (adk J h) (Fl h).1 (Fl h).2) λv σ H Q u ρ M d y S R r e q=>by
  cases r with
  |tup U Z =>
   simp only[Tg.put] at e;split at e<;>cases e;rename_i Y;exact⟨_,_,rfl,Ia.of U,by rw[<- Z.length];exact Y,by rw[<- Z.length];exact Y,q _ (Wz R Z) Ul λj C=>Q7 C⟩
  |_=>simp[Tg.put] at e
def apg(he:PE X a (tE nm W X.K a'))(hg:PG X tg (tGt nm X.K t))(hs:swapsWithSole [tg] a pos.line X.env=pure false)(hw:swappedStores [tg] a X.env=pure none)(h1:(assignEach [tg] X.env).map (·.2)=[assign tg X.env]) :
 PS X (.Assign [tg] a pos) (tS nm W X.K (.asg (.tg t) a')) :=
 PS.of (aoi he hg hs hw h1) λD σ H ι ρ M fl qq M' S R e q=>by rw[MW.Zv] at e;obtain⟨x,M1,e1,e⟩:=dz e;obtain⟨qk,M2,e2,e⟩:=dz e;cases e;rw[MW.am4] at e2;obtain⟨e3,e4⟩:=xx e2;subst e4;exact one S R e1 λZ H1 v le S1 R1 r=>⟨Z,ρ,_,x,qq,S1,R1,r,e3,λU R' _ _=>q Z H1 U le S1 R'⟩
def a1w(he:PE X a (tE nm W X.K a'))(hs:swapsWith a none pos.line X.env=pure false):PS X (.Expr a pos) (tS nm W X.K (.expr a')) :=
 PS.of (auk he hs) λD σ H ι ρ M fl qq M' S R e q=>by rw[MW.atk] at e;obtain⟨x,M1,e1,e⟩:=dz e;cases e;exact one S R e1 λZ H1 v le U R1 r=>q Z H1 σ le U R1
def a9l(he:PE X a (tE nm W X.K a')):PS X (.Return (some a) pos) (tS nm W X.K (.ret a')) :=
 PS.of (a0o he) λD σ H ι ρ M fl qq M' S R e q=>by rw[MW.azk] at e;obtain⟨x,M1,e1,e⟩:=dz e;cases e;exact one S R e1 λZ H1 v le U R1 r=>q Z H1 σ le U R1 v r
def a1x:PS X (.Pass pos) (tS nm W X.K .pass) :=
 PS.of auj λD σ H U ρ M fl Z M' S R e q=>by rw[MW.atm] at e;cases e;exact q U H σ (Le.refl _ _) S R
def a9m:PS X (.Break pos) (tS nm W X.K .brk) :=
 PS.of aog λD σ H U ρ M fl Z M' S R e q=>by rw[MW.azl] at e;cases e;exact q U H σ (Le.refl _ _) S R
def a1y:PS X (.Continue pos) (tS nm W X.K .cont) :=
 PS.of acv λD σ H U ρ M fl Z M' S R e q=>by rw[MW.atl] at e;cases e;exact q U H σ (Le.refl _ _) S R
def Wt.mono{X:Cx}(le:Le ι H Z H')(q:Wt nm X.K D ι H fl ρ M):Wt nm X.K D Z H' fl ρ M:=λU H2 R yt S2 R2=>q U H2 R (le.trans yt) S2 R2
set_option tactic.hygienic true in
def a9n(hc:PT X c (tQ nm W X.K c'))(ht:Q3 X ts (tSs nm W X.K J))(hf:Q3 X fs (tSs nm W X.K G)):PS X (.If c ts fs pos) (tS nm W X.K (.iff c' J G)) :=
 PS.of (a7u hc ht hf) λD σ H ι C M u Y M' S R e q=>by
  rw[MW.azj] at e;obtain⟨x,L,e1,e⟩:=dz e;cases x<;>try cases e
  rename_i k;refine X6 S R e1 λZ H1 le U y=>?_
  cases k with
  |true=>exact⟨Z,C,L,u,Y,M',U,y,e,q.mono le⟩|false=>exact⟨Z,C,L,u,Y,M',U,y,e,q.mono le⟩
def a1z:Q3 X [] (tSs nm W X.K .nil):=Q3.of aui λD σ H U ρ M fl Z M' S R e q=>by rw[MW.atn] at e;cases e;exact q U H σ (Le.refl _ _) S R
def avi{U:List Stmt}(h1:PS X st (tS nm W X.K q1))(h2:Q3 X U (tSs nm W X.K rest')):Q3 X (st::U) (tSs nm W X.K (.cons q1 rest')) :=
 Q3.of (aof h1 h2) λD σ H ι ρ M fl q0 M' S R e q=>by
  rw[MW.am3] at e;obtain⟨⟨qk,qv⟩,M1,e1,e⟩:=dz e;refine⟨ι,ρ,M,qk,qv,M1,S,R,e1,λZ H1 qq le S1 R1=>?_⟩;cases qk with
  |next=>exact⟨Z,qv,M1,fl,q0,M',S1,R1,e,q.mono le⟩|brk=>cases e;exact q Z H1 qq le S1 R1|cont=>cases e;exact q Z H1 qq le S1 R1|ret d=>cases e;exact q Z H1 qq le S1 R1
set_option tactic.hygienic true in
def ayg(hp:PassesOwn (model X.prog X.w) X.A X.env X.xe)(hc:PT X c (tQ nm W X.K c'))(hb:Q3 X body (tSs nm W X.K W0)):PS X (.While c body [] pos) (tS nm W X.K (.whl c' W0)) :=
 PS.of (aoj hp hc hb) λD σ H ι ρ M fl qk M' S R e q=>by
  rw[MW.Zw] at e;refine⟨λm L H1=>∃J C M1,Le ι H J H1/\mz nm X.K J H1 M1/\u0 X.K J H1 C L/\MW.Ft (c'.den W) (W0.den W) m C M1=.ok (fl,qk) M',⟨MW.Vy,ι,ρ,M,Le.refl _ _,S,R,e⟩,?_⟩;rintro m L H1 ⟨J,C,M1,Ve,S1,R1,Y⟩;cases m with
  |zero=>cases Y
  |succ m =>
   simp only[MW.Ft] at Y;obtain⟨x,M2,e2,Y⟩:=dz Y;cases x<;>try cases Y
   rename_i k;refine X6 S1 R1 e2 λqv H2 yt S2 R2=>?_
   cases k with
   |false=>cases Y;exact q qv H2 L (Ve.trans yt) S2 R2
   |true =>
    obtain⟨⟨q0,y⟩,M3,e3,Y⟩:=dz Y;refine⟨λG u=>∃Z qq M4,Le ι H Z u/\mz nm X.K Z u M4/\u0 X.K Z u qq G/\MW.Ft (c'.den W) (W0.den W) m qq M4=.ok (fl,qk) M',λG u h4=>⟨m,qd _,h4⟩,qv,C,M2,q0,y,M3,S2,R2,e3,λZ u G U S4 R4=>?_⟩;cases q0 with
    |next=>exact⟨Z,y,M3,(Ve.trans yt).trans U,S4,R4,Y⟩|cont=>exact⟨Z,y,M3,(Ve.trans yt).trans U,S4,R4,Y⟩|brk=>cases Y;exact q Z u G ((Ve.trans yt).trans U) S4 R4|ret d=>cases Y;exact q Z u G ((Ve.trans yt).trans U) S4 R4
def aph(nm:Nm)(K:Fg)(ι:Io)(H:Hp)(s:Src)(J:It):Prop:=∀Z U R,LeX ι H Z U->mz nm K Z U R ->
 (∀i d,i<s.len->s.item i R=some d->J.go i U/\∀v H2,J.yld i U v H2->Le Z U Z H2/\mz nm K Z H2 R/\Rep K Z H2 d v)/\(s.fin R=true->J.stop s.len U)
def tI(nm:Nm)(W:Gh)(K:Fg)(it:Lj):TI:=fun σ H R=>∃ι ρ M s M',mz nm K ι H M/\u0 K ι H ρ σ/\it.den W ρ M=.ok s M'/\∀Z U J,Le ι H Z U->mz nm K Z U M'->aph nm K Z U s J->R J U
set_option tactic.hygienic true in
def a9p(hp:PassesOwn (model X.prog X.w) X.A X.env X.xe)(hc:X.calm=true)(hi:PI X tg iter (tI nm W X.K it))(hg:PG X tg (tGt nm X.K t))(hb:Q3 X body (tSs nm W X.K W0))(hs:Gy iter=true):PS X (.For tg iter body [] pos) (tS nm W X.K (.for_ t it W0)) :=
 PS.of (a0v hp hc hi hg hb (Ei hs X.env)) λD σ H ι ρ M fl G M' S R e q=>by
  rw[MW.Ry] at e;obtain⟨s,M1,e1,e⟩:=dz e;refine⟨ι,ρ,M,s,M1,S,R,e1,λqq H1 J Ve S1 sj=>?_⟩;refine⟨λi m qv H2=>m=s.len-i/\i<=s.len/\∃Y u M2,Le qq H1 Y H2/\mz nm X.K Y H2 M2/\u0 X.K Y H2 u qv/\MW.Br s.fin s.item (λd ρ M=>match t.put d ρ with|some G=>W0.den W G M|none=>.bad) m i u M2=.ok (fl,G) M',
   ⟨s.len,rfl,jr _,qq,ρ,M1,Le.refl _ _,S1,R.mono Ve,e⟩,?_⟩
  rintro i m qv H2 ⟨hm,q6,Y,u,M2,yt,S2,R2,U⟩;obtain⟨go,q0⟩:=sj Y H2 M2 yt.toX S2;cases m with
  |zero =>
   simp only[MW.Br] at U;split at U<;>cases U;rename_i Pu;have hi:i=s.len:=by lia
   subst hi;exact .inl ⟨q0 Pu,q Y H2 qv (Ve.trans yt) S2 R2⟩
  |succ m =>
   simp only[MW.Br] at U;split at U
   .cases U
   .rename_i d hd
    obtain⟨⟨q2,qk⟩,M3,e3,U⟩:=dz U;obtain⟨g1,g2⟩:=go i d (by omega) hd;refine .inr ⟨g1,λC H4=>∃Z y M4,Le qq H1 Z H4/\mz nm X.K Z H4 M4/\u0 X.K Z H4 y C/\MW.Br s.fin s.item (λd ρ M=>match t.put d ρ with|some G=>W0.den W G M|none=>.bad) m (i+1) y M4=.ok (fl,G) M',
     λC H4 ⟨Z,y,M4,h4⟩=>⟨m,qd _,by omega,by omega,Z,y,M4,h4⟩,λv H3 yv=>?_⟩
    obtain⟨Wx,S3,r3⟩:=g2 v H3 yv;split at e3
    .rename_i q1 q3
     refine⟨Y,u,M2,d,q1,S3,R2.mono Wx,r3,q3,λq5 R5 _ _=>⟨Y,q1,M2,q2,qk,M3,S3,R5,e3,λZ H4 C q4 S4 R4=>?_⟩⟩;have L:=(yt.trans Wx).trans q4;cases q2 with
     |next=>exact⟨Z,qk,M3,L,S4,R4,U⟩|cont=>exact⟨Z,qk,M3,L,S4,R4,U⟩|brk=>cases U;exact q Z H4 C (Ve.trans L) S4 R4|ret d=>cases U;exact q Z H4 C (Ve.trans L) S4 R4
    .cases e3
section
variable{nm:Nm}{W:Gh}{X:Cx}{a b c:Expr}{a' b' c':Ex}{pos pos':Pos}{ι:Io}{H:Hp}{σ:St}{ρ:En}{M M1 M2:cg}{x y:Dv}{es:Ya}{es':Cz}{tg iter elt:Expr}
def PI.weak(h:PI X tg iter U)(w:∀σ H R,wi' σ H R->U σ H R):PI X tg iter wi':=λZ s σ H R I q=>h Z s σ H R I (w σ H R q)
def PI.of(h:PI X tg iter wi)(w:∀σ H R' ι ρ M s M',mz nm X.K ι H M->u0 X.K ι H ρ σ->it.den W ρ M=.ok s M'->(∀Z U J,Le ι H Z U->mz nm X.K Z U M'->aph nm X.K Z U s J->R' J U)->wi σ H R'):PI X tg iter (tI nm W X.K it) :=
 PI.weak h fun σ H R' z_=>by obtain⟨ι,ρ,M,s,M',S,R,e,q⟩:=z_;exact w σ H R' ι ρ M s M' S R e q
def a2a(hl:PE X l tl):PI X tg l (fun σ H R=>tl σ H λx H1=>∃a,x=.ref a/\((∃xs,Gz X.K H1 a xs)/\R (Itl X.K a) H1\/(∃xs,Ia X.K H1 a xs)/\R (Itt X.K a) H1)):=by
 intro qq s σ H R I h;refine Bf (hl qq s σ H _ I h) λv Z z_=>?_
 obtain⟨x,H1,U,r1,q1⟩:=z_;obtain⟨a,e,⟨⟨xs,hq⟩,q⟩|⟨⟨xs,hq⟩,q⟩⟩:=q1
 .subst e
  cases r1;obtain⟨wj,rv,p,hz⟩:=U.list hq;refine wpAny_pyIter_list p.isList ?_;refine⟨Z.heap.objs.size,[Z.heap.objs.size],_,_,H1,rfl,U.kept (t':=Z.toks) λb o e=>ao _ e,aj4 a _,⟨_,bu _ rfl,rfl,rfl⟩,λb hb=>?_,q⟩;have e:b=Z.heap.objs.size:=by simpa using hb
  subst e;exact U.aj3 (bc _) (U.zm.fresh (bc _))
 .subst e
  cases r1;obtain⟨wj,rv,p,hz⟩:=U.tuple hq;refine wpAny_pyIter_tuple (show Z.heap.IsTuple a wj.toArray from p) ?_;refine⟨Z.heap.objs.size,[Z.heap.objs.size],_,_,H1,rfl,U.kept (t':=Z.toks) λb o e=>ao _ e,afo a _,⟨_,bu _ rfl,rfl,rfl⟩,λb hb=>?_,q⟩;have e:b=Z.heap.objs.size:=by simpa using hb
  subst e;exact U.aj3 (bc _) (U.zm.fresh (bc _))
def Y9{p:Addr}{ds:List Dv}{s:Src}(hs:∀Z R M1,LeX ι H Z R->mz nm X.K Z R M1->(∀i d,s.item i M1=some d->∃U v,R p=some (.lst U)/\U[i]?=some v/\Rep X.K Z R d v)/\(s.fin M1=true->∃U,R p=some (.lst U)/\U.length<=s.len)) :
 aph nm X.K ι H s (Itl X.K p):=λZ R M1 le S1=>by
 obtain⟨a,b⟩:=hs Z R M1 le S1;refine⟨λi d hi hd=>?_,λhf=>?_⟩
 .obtain⟨U,v,h1,h2,h3⟩:=a i d hd
  refine⟨⟨U,v,Gz.of h1,h2⟩,λu H2 ⟨e,y⟩=>?_⟩;subst e;have:=y U (Gz.of h1);rw[h2] at this;cases this;exact⟨Le.refl _ _,S1,h3⟩
 .obtain⟨U,h1,h2⟩:=b hf
  exact⟨U,Gz.of h1,h2⟩
set_option tactic.hygienic true in
def a9q(ha:PE X a (tE nm W X.K a')):PI X tg a (tI nm W X.K (.val a')) :=
 PI.of (a2a ha) fun σ H R' ι ρ M s M' S R e q=>by
  rw[MW.Ih] at e;obtain⟨x,M1,e1,e⟩:=dz e;obtain⟨e,rfl⟩:=xx e;refine one S R e1 λU H1 v le S1 R1 r=>?_
  cases r with
  |@tup p Z J h1 r1 =>
   simp only[MW.srcOf] at e;cases e;refine⟨p,rfl,.inr ⟨⟨J,Ia.of h1⟩,q U H1 _ le S1 λqq H2 M2 G S2=>⟨λi d hi Y=>?_,λ_=>⟨J,Ia.of (G.tup _ _ h1),by rw[<- r1.length];exact bc _⟩⟩⟩⟩;have Y:Z[i]?=some d:=Y;obtain⟨v,L,g2⟩:=(r1.Lh G).get Y;refine⟨⟨J,v,Ia.of (G.tup _ _ h1),L⟩,λu H3 ⟨ee,yy⟩=>?_⟩;subst ee;have:=yy J (Ia.of (G.tup _ _ h1));rw[L] at this;cases this;exact⟨Le.refl _ _,S2,g2⟩
  |@vl p Z J h1 n1 r1 =>
   simp only[MW.srcOf] at e;cases e;refine⟨p,rfl,.inl ⟨⟨J,Gz.of h1⟩,q U H1 _ le S1 (Y9 (ds:=Z) λqq H2 M2 G S2=>⟨λi d Y=>?_,λ_=>⟨J,G.lst _ _ n1.1 h1,by rw[<- r1.length];exact bc _⟩⟩)⟩⟩;have Y:Z[i]?=some d:=Y;obtain⟨v,L,g2⟩:=(r1.Lh G).get Y;exact⟨J,v,G.lst _ _ n1.1 h1,L,g2⟩
  |@ref n p h1 =>
   simp only[MW.srcOf] at e;obtain⟨Z,hn,rfl⟩:∃Z,M'[n]?=some (.lst Z)/\s=.live n Z.length:=by
    split at e
    .rename_i Z hn;cases e;exact⟨Z,hn,rfl⟩
    .cases e
   obtain⟨J,L,g2⟩:=S1.obj n _ p hn h1;refine⟨p,rfl,.inl ⟨⟨J,Gz.of L⟩,q U H1 _ le S1 (Y9 (ds:=Z) λqq H2 M2 G S2=>⟨λi d Y=>?_,λhf=>?_⟩)⟩⟩
   .simp only[Src.item] at Y
    split at Y
    .rename_i qk Yh
     split at Y
     .obtain⟨C,k1,k2⟩:=S2.obj n _ p Yh (G.get h1)
      obtain⟨v,k3,k4⟩:=k2.get Y;exact⟨C,v,k1,k3,k4⟩
     .cases Y
    .cases Y
   .simp only[Src.fin] at hf
    split at hf
    .rename_i qk Yh
     obtain⟨C,k1,k2⟩:=S2.obj n _ p Yh (G.get h1);refine⟨C,k1,?_⟩;rw[<- k2.length];have:qk.length=Z.length:=by simpa using hf
     rw[this];exact bc _
    .cases hf
  |_=>simp[MW.srcOf] at e
set_option tactic.hygienic true in
def a9r(hg:Gl X "range")(hm:X.mg "range" = none)(L:PE X a (tE nm W X.K a'))(J:noStar a=true):PI X tg (.Call (.Name "range" pr) [a] [] pos) (tI nm W X.K (.K4 a')) :=
 PI.of (aj5 hg hm (N6 L Uj (m6 J _ _)) (m6 J _ _)) fun σ H R' ι ρ M s M' S R e q=>by
  rw[MW.Og] at e;obtain⟨x,M1,e1,e⟩:=dz e;refine Wy (es':=.cons a' .nil) (ds:=[x]) (M1:=M1) S R (by rw[MW.Dm,e1];simp) λY H1 vs le U R1 r=>?_
  obtain⟨i,hx⟩:∃i,x=.int i:=by cases x<;>first|exact⟨_,rfl⟩|cases e
  subst hx;have e:(if i.natAbs<=100000 then Res.ok (Src.con ((List.range i.toNat).map λ(k:Nat)=>MW.D.int (k:Int))) M1 else .bad)=.ok s M':=e;split at e<;>cases e;rename_i hi;cases r with
  |cons r1 r2 =>
   cases r1;cases r2;refine⟨i,rfl,by lia,by omega,q Y H1 _ le U λqq H2 M2 yt C=>⟨λj d hj Z=>?_,λ_=>?_⟩⟩
   .have G:j<i.toNat:=by simpa[Src.len] using hj
    have Z:((List.range i.toNat).map λ(k:Nat)=>MW.D.int (k:Int))[j]?=some d:=Z;rw[iw,xq G] at Z;have Z:MW.D.int (j:Int)=d:=by simpa using Z
    subst Z;refine⟨G,λu H3 ⟨ee,yy⟩=>?_⟩;subst ee yy;exact⟨Le.refl _ _,C,by rw[Int.zero_add];exact .int _⟩
   .show i.toNat<=_
    simp[Src.len]
def akn(R:u0 K ι H ρ σ):u0 K ι H (ρ++List.replicate k none) (σ++List.replicate k none):=R.append (u0.apa k (by simp))
def api{Z:St}(hn:σ.length=n)(R:∀i∈Bo t,n<=i)(h:∀j,j∉Bo t->Z[j]?=(σ++List.replicate k none)[j]?):∀(j:Nat) v,(σ++List.replicate k none)[j]?=some (some v)->Z[j]?=some (some v):=λj v e=>by
 by_cases U:j∈Bo t
 .have:=R j U
  rw[jq (a_ (f_ hn) this),List.getElem?_replicate] at e;split at e<;>simp at e
 .rw[h j U];exact e
noncomputable def ayi(o:Option Dv):List Dv:=match o with|some x=>[x]|none=>[]
set_option tactic.hygienic true in
def adl(h:MW.Dg fin item body (k+1) i M=.ok ds J) :
 ∃d o M1 rest,item i M=some d/\body d M=.ok o M1/\MW.Dg fin item body k (i+1) M1=.ok rest J/\ds=ayi o++rest:=by
 simp only[MW.Dg] at h;split at h
 .cases h
 .rename_i d G
  obtain⟨o,M1,Z,h⟩:=dz h;obtain⟨rest,M2,Y,h⟩:=dz h;cases h;exact⟨d,o,M1,rest,G,Z,Y,by cases o<;>rfl⟩
def lg.snoc(r:lg K ι H ds Z)(h:Rep K ι H d v):lg K ι H (ds++[d]) (Z++[v]):=r.append (.cons h .nil)
set_option tactic.hygienic true in
def Vg(e:MW.Ai s body M1=.ok ds M2):s.len<=100000/\MW.Dg s.fin s.item body s.len 0 M1=.ok ds M2:=by
 unfold MW.Ai at e;split at e
 .rename_i Z
  exact⟨Z,e⟩
 .cases e
noncomputable def keptAs(v:Bool)(Z:List Dv)(M:cg):Res Dv:=if v=true then .ok (.vl Z) M else MW.new (.lst Z) M
def ako(h:(Ex.comp v k t it e').den W ρ M=.ok d M'):∃s M1 Z M2,it.den W ρ M=.ok s M1/\s.len<=100000 /\
 MW.Dg s.fin s.item (λd M=>match t.put d (ρ++List.replicate k none) with|some U=>(e'.den W U M).bind λx M'=>.ok (some x) M'|none=>.bad) s.len 0 M1=.ok Z M2/\keptAs v Z M2=.ok d M':=by
 rw[MW.Ma] at h;obtain⟨s,M1,e1,h⟩:=dz h;obtain⟨Z,M2,R,h⟩:=dz h;exact⟨s,M1,Z,M2,e1,(Vg R).1,(Vg R).2,h⟩
def Io.adopt(ι:Io)(H:Hp)(D:Addr):Tr K (ι.hide D) H (ι.add D) H:=⟨λ_ _ e=>e,λ_ _ e n=>⟨e,λm=>(bx.mp m).elim n.1 λz=>n.2 (by rw[fu.mp z];exact cz),λm=>n.2 (bf _ m)⟩,λ_ _ e=>e,λn a e=>by
 have e:ι.l[n]?=some a:=e;show(ι.l++[D])[n]?=_;rw[dq (ak.mp e).1];exact e⟩
theorem Rep.adopt(r:Rep K (ι.hide D) H d v):Rep K (ι.add D) H d v:=r.tr (ι.adopt H D)
theorem lg.adopt(r:lg K (ι.hide D) H d v):lg K (ι.add D) H d v:=r.tr (ι.adopt H D)
theorem mz.adopt(S:mz nm K (ι.hide D) H M)(hd:H D=some (.lst R))(r:lg K (ι.hide D) H ds R)(U:ι.off D):mz nm K (ι.add D) H (M++[.lst ds]):=by
 refine⟨by have:=S.len;simp only[Io.hide] at this;simp[Io.add,this],?_,λa Z=>?_,λn o a hn Z=>?_⟩
 .exact m9.mpr ⟨S.nd,by simp,by
   intro x hx y hy;have:y=D:=by simpa using hy
   subst this;intro e;subst e;exact U.1 hx⟩
 .obtain⟨h1,R,h2⟩:=S.del a (bf _ Z)
  exact⟨λm=>(bx.mp m).elim h1 λz=>U.2 (by rw[<- fu.mp z];exact Z),R,h2⟩
 .rcases Cg hn with q|⟨q,rfl⟩
  .rcases Cg Z with z|⟨z,_⟩
   .exact(S.obj n o a q z).map (λd v r=>r.adopt) rfl
   .exact absurd (MW.rm q) (by rw[z,<- S.len];exact lq _)
  .rcases Cg Z with z|⟨_,rfl⟩
   .exact absurd (ak.mp z).1 (by rw[q,<- S.len];exact lq _)
   .exact⟨R,hd,r.adopt⟩
def apj(S:mz nm K (ι.hide D) H M)(hd:H D=some (.lst vs))(r:lg K (ι.hide D) H ds vs)(U:ι.off D)(le:Le R H0 ι H)(h0:H0 D=none)(h:keptAs v ds M=.ok d M') :
 ∃Z,Le R H0 Z H/\mz nm K Z H M'/\Rep K Z H d (.ref D):=by
 unfold keptAs at h;split at h
 .cases h
  exact⟨ι,le,S.show,.vl hd U r.show⟩
 .cases h
  refine⟨ι.add D,⟨?_,le.del,le.tup,le.Hz,le.lst,le.dom⟩,S.adopt hd r U,.ref ?_⟩
  .obtain⟨Y,e,hY⟩:=le.ext
   exact⟨Y++[D],by show ι.l++[D]=_;rw[e,j6],λa ha=>(bx.mp ha).elim (hY a) λz=>by rw[fu.mp z];exact h0⟩
  .show(ι.l++[D])[M.length]?=some D
   rw[<- S.len];simp[Io.hide]
def BodyOk(nm:Nm)(K:Fg)(U:St)(tc:TT)(te:TE)(qq:En)(M:cg)(o:Option Dv)(M':cg):Prop:=∀ι H (G1:V->Hp->Prop) (G0:Hp->Prop),mz nm K ι H M->u0 K ι H qq U ->
 (∀Z R v,Le ι H Z R->mz nm K Z R M'->(match o with|some x=>Rep K Z R x v->G1 v R|none=>G0 R))->tc U H λb H3=>if b=true then te U H3 λv H4=>G1 v H4 else G0 H3
set_option tactic.hygienic true in
def Za{N:Yf}(hk:N.length-X.N.length=k)(ho:∀i∈Bo t,X.N.length<=i)(z3:σ.length=X.N.length)(S:mz nm X.K ι H M)(R:u0 X.K ι H ρ σ)(e1:it.den W ρ M=.ok s M1)(zz:s.len<=100000)(e2:MW.Dg s.fin s.item body s.len 0 M1=.ok ds M')(ek:keptAs v0 ds M'=.ok d0 M0)(q:∀q1 H' v,Le ι H q1 H'->mz nm X.K q1 H' M0->Rep X.K q1 H' d0 v->Q v H')(hb:∀d M2 o M3,body d M2=.ok o M3->∃q0,t.put d (ρ++List.replicate k none)=some q0/\∀q2,BodyOk nm X.K q2 tc te q0 M2 o M3):adg (N.length-X.N.length) (tI nm W X.K it) (tGt nm X.K t) tc te σ H Q:=by
 refine⟨ι,ρ,M,s,M1,S,R,e1,λU H1 J Ve S1 sj D hD=>?_⟩;rw[hk];refine⟨λi m H2=>m=s.len-i/\i<=s.len/\∃Z M2 G vs L,LeD D U H1 (Io.hide Z D) H2/\mz nm X.K (Io.hide Z D) H2 M2/\H2 D=some (.lst vs)/\lg X.K (Io.hide Z D) H2 G vs/\G.length<=i /\
  MW.Dg s.fin s.item body m i M2=.ok L M'/\ds=G++L,?_,?_⟩
 .exact⟨s.len,rfl,jr _,U,M1,[],[],ds,LeD.start hD _,S1.hide hD,rz,.nil,bc _,e2,rfl⟩
 .rintro i m H2 ⟨hm,zw,Z,M2,G,vs,L,yt,S2,q7,q4,Ep,e3,qv⟩
  have q5:Le U H1 Z H2:=LeD.done yt;have z5:Z.δ=U.δ:=q5.del;have zk:Z.off D:=⟨(S2.del D cz).1,λz=>by rw[z5] at z;exact(S1.fresh hD).2 z⟩;obtain⟨go,q8⟩:=sj (Io.hide Z D) H2 M2 (yt.toX hD) S2;cases m with
  |zero =>
   simp only[MW.Dg] at e3;split at e3<;>cases e3;rename_i Pu;refine hG λ_ _k=>?_
   have hi:i=s.len:=by lia
   subst hi;rw[Ab] at qv;subst qv;obtain⟨zv,z1,S9,r9⟩:=apj S2 q7 q4 zk q5 hD ek;apply _k;exact .inl ⟨q8 Pu,q zv H2 _ (Ve.trans z1) S9 r9⟩
  |succ m =>
   refine hG λ_ _k=>?_
   obtain⟨d,o,M3,qq,h1,h2,h3,h4⟩:=adl e3;obtain⟨g1,g2⟩:=go i d (by lia) h1;apply _k;refine .inr ⟨g1,λv H3 yv=>?_⟩;refine hG λ_ _k=>?_
   obtain⟨Wx,S3,r3⟩:=g2 v H3 yv;obtain⟨q0,z4,z0⟩:=hb d M2 o M3 h2;have R3:u0 X.K (Io.hide Z D) H3 ρ σ:=((R.mono Ve).Lh (yt.toX hD)).mono Wx;apply _k;refine⟨Io.hide Z D,ρ++List.replicate k none,M2,d,q0,S3,akn R3,r3,z4,λq2 R5 l5 k5=>⟨l5,api z3 ho k5,?_⟩⟩;have z2:=Wx.lst D vs (S2.del D cz).1 q7;refine z0 q2 (Io.hide Z D) H3 _ _ S3 R5 (λY H6 u qk S6=>by
    have C:=qk.lst D vs (S2.del D cz).1 z2;have q3:LeD D U H1 Y H6:=(yt.go Wx).go qk;have ei:Y=Io.hide ⟨Y.l,Z.δ⟩ D:=by have:=qk.del;obtain⟨l6,z6⟩:=Y;simp only[Io.hide] at this ⊢;rw[this]
    rw[ei] at q3 S6;have q6:lg X.K (Io.hide ⟨Y.l,Z.δ⟩ D) H6 G vs:=by rw[<- ei];exact(q4.mono Wx).mono qk
    cases o with
    |none =>
     refine⟨m,qd _,by lia,by lia,⟨Y.l,Z.δ⟩,M3,G,vs,qq,q3,S6,C,q6,a_ Ep x_,h3,?_⟩;rw[qv,h4];rfl
    |some x =>
     intro r6;rw[ei] at r6;have Ib:D∈(Io.hide ⟨Y.l,Z.δ⟩ D).δ:=cz;refine⟨vs,m,C,?_,qd _,by lia,by lia,⟨Y.l,Z.δ⟩,M3,G++[x],vs++[u],qq,q3.grow hD C,S6.grow C Ib,rz,(q6.snoc r6).grow C Ib,by simp;exact Ep,h3,?_⟩
     .rw[<- q4.length]
      exact Nat.lt_of_le_of_lt (gw Ep (gw zw zz)) (by decide)
     .rw[qv,h4];simp[ayi])
set_option tactic.hygienic true in
def Zb{N:Yf}(hk:N.length-X.N.length=k)(ho:∀i∈Bo t,X.N.length<=i):∀σ H Q,σ.length=X.N.length->tE nm W X.K (.comp v0 k t it e') σ H Q ->
 adg (N.length-X.N.length) (tI nm W X.K it) (tGt nm X.K t) (λ_ H Q=>Q true H) (tE nm W X.K e') σ H Q:=fun σ H Q L hh=>by
 obtain⟨ι,ρ,M,d,M',S,R,e,q⟩:=hh;obtain⟨s,M1,ds,M2,e1,Y,e2,ek⟩:=ako e;refine Za hk ho L S R e1 Y e2 ek q λd M2 o M3 Z=>?_
 split at Z
 .rename_i C J
  obtain⟨x,M4,e5,Z⟩:=dz Z;cases Z;refine⟨C,J,λqq qk H5 G1 G0 S5 R5 g=>?_⟩;show if true=true then _ else _
  rw[cj rfl];exact one (X:=X) S5 R5 e5 λG H6 u U S6 R6 r6=>g G H6 u U S6 r6
 .cases Z
def adm(h:(Ex.Ci v k t it c' e').den W ρ M=.ok d M'):∃s M1 U M2,it.den W ρ M=.ok s M1/\s.len<=100000 /\
 MW.Dg s.fin s.item (λd M=>match t.put d (ρ++List.replicate k none) with|some Z=>(c'.den W Z M).bind λb M'=>(match b with|.bl true=>(e'.den W Z M').bind λx R=>.ok (some x) R|.bl false=>.ok none M'|_=>.bad)|none=>.bad) s.len 0 M1=.ok U M2/\keptAs v U M2=.ok d M':=by
 rw[MW.Vz] at h;obtain⟨s,M1,e1,h⟩:=dz h;obtain⟨U,M2,e2,h⟩:=dz h;exact⟨s,M1,U,M2,e1,(Vg e2).1,(Vg e2).2,h⟩
set_option tactic.hygienic true in
def Um{N:Yf}(hk:N.length-X.N.length=k)(ho:∀i∈Bo t,X.N.length<=i):∀σ H Q,σ.length=X.N.length->tE nm W X.K (.Ci v0 k t it c' e') σ H Q ->
 adg (N.length-X.N.length) (tI nm W X.K it) (tGt nm X.K t) (tQ nm W X.K c') (tE nm W X.K e') σ H Q:=fun σ H Q qk hh=>by
 obtain⟨ι,ρ,M,d,M',S,R,e,q⟩:=hh;obtain⟨s,M1,ds,M2,e1,J,e2,ek⟩:=adm e;refine Za hk ho qk S R e1 J e2 ek q λd M2 o M3 Z=>?_
 split at Z
 .rename_i qq C
  obtain⟨x,M4,e5,Z⟩:=dz Z;refine⟨qq,C,λq0 q1 H5 G1 G0 S5 R5 g=>?_⟩;split at Z
  .obtain⟨y,M6,e6,Z⟩:=dz Z
   cases Z;refine X6 (X:=X) S5 R5 e5 λG H6 Y L R6=>?_
   rw[cj rfl];exact one (X:=X) L R6 e6 λqv H7 u U S7 R7 r7=>g qv H7 u (Y.trans U) S7 r7
  .cases Z
   refine X6 (X:=X) S5 R5 e5 λG H6 Y L R6=>?_
   rw[bw (by simp)];exact g G H6 .non Y L
  .cases Z
 .cases Z
def PE.adn(h:PE X e t)(w:∀σ H Q,σ.length=X.N.length->t' σ H Q->t σ H Q):PE X e t':=λZ s σ H Q I q=>h Z s σ H Q I (w σ H Q I.len q)
def PS.adn(h:PS X st t)(w:∀D σ H,σ.length=X.N.length->t' D σ H->t D σ H):PS X st t':=λZ s σ H D I q=>h Z s σ H D I (w D σ H I.len q)
def a2d(B:Em X N scope)(Ir:X.calm=true)(hi:PI X tg iter (tI nm W X.K it))(hg:∀C Z s H,PG (Ls X N scope C Z s H) tg (tGt nm X.K t))(he:∀C Z s H,PE (Ls X N scope C Z s H) elt (tE nm W X.K R))(hs:Gy iter=true)(hk:N.length-X.N.length=k)(U:∀i∈Bo t,X.N.length<=i):PE X (.ListComp elt [⟨tg,iter,[],0⟩] scope pos) (tE nm W X.K (.comp v0 k t it R)) :=
 PE.adn (ah2 B Ir hi hg (λ_ _ _ _=>.inl ⟨rfl,rfl⟩) he (Ei hs X.env)) (Zb hk U)
def apk(B:Em X N scope)(Ir:X.calm=true)(hi:PI X tg iter (tI nm W X.K it))(hg:∀C Z s H,PG (Ls X N scope C Z s H) tg (tGt nm X.K t))(hc:∀C Z s H,PT (Ls X N scope C Z s H) c (tQ nm W X.K c'))(he:∀C Z s H,PE (Ls X N scope C Z s H) elt (tE nm W X.K R))(hs:Gy iter=true)(hk:N.length-X.N.length=k)(U:∀i∈Bo t,X.N.length<=i):PE X (.ListComp elt [⟨tg,iter,[c],0⟩] scope pos) (tE nm W X.K (.Ci v0 k t it c' R)) :=
 PE.adn (ah2 B Ir hi hg (λ_ _ _ _=>.inr ⟨c,rfl,hc _ _ _ _⟩) he (Ei hs X.env)) (Um hk U)
def ado(h:∀σ H Q,σ.length=X.N.length->tE nm W X.K e' σ H Q->tt σ H Q):∀D σ H,σ.length=X.N.length->tS nm W X.K (.asg (.tg (.name i)) e') D σ H->a0t tt (ahr i) D σ H:=λD σ H U hh=>by obtain⟨ι,ρ,M,fl,qq,M',S,R,e,q⟩:=hh;rw[MW.Zv] at e;obtain⟨x,M1,e1,e⟩:=dz e;obtain⟨qk,M2,e2,e⟩:=dz e;cases e;rw[MW.am4] at e2;obtain⟨e3,e4⟩:=xx e2;subst e4;cases e3;exact h σ H _ U (one S R e1 λZ H1 v le S1 R1 r=>q Z H1 _ le S1 (R1.set r i))
def akp{y:Str}(B:Em X N scope)(Ir:X.calm=true)(hi:PI X tg iter (tI nm W X.K it))(hg:∀C Z s H,PG (Ls X N scope C Z s H) tg (tGt nm X.K t))(he:∀C Z s H,PE (Ls X N scope C Z s H) elt (tE nm W X.K e'))(hs:Gy iter=true)(hk:N.length-X.N.length=k)(R:∀i∈Bo t,X.N.length<=i)(hN:X.N.Nodup)(hy:X.N[i]?=some y)(hl:X.env.scope.names.lookup y=some .local)(U:swapsWith (.ListComp elt [⟨tg,iter,[],0⟩] scope pos) (some (.Name y py)) ao9.line X.env=pure true):PS X (.Assign [.Name y py] (.ListComp elt [⟨tg,iter,[],0⟩] scope pos) ao9) (tS nm W X.K (.asg (.tg (.name i)) (.comp v0 k t it e'))) :=
 PS.adn (ah3 B Ir hi hg (λ_ _ _ _=>.inl ⟨rfl,rfl⟩) he (Ei hs X.env) hN hy hl U) (ado (Zb hk R))
def adp{y:Str}(B:Em X N scope)(Ir:X.calm=true)(hi:PI X tg iter (tI nm W X.K it))(hg:∀C Z s H,PG (Ls X N scope C Z s H) tg (tGt nm X.K t))(hc:∀C Z s H,PT (Ls X N scope C Z s H) c (tQ nm W X.K c'))(he:∀C Z s H,PE (Ls X N scope C Z s H) elt (tE nm W X.K e'))(hs:Gy iter=true)(hk:N.length-X.N.length=k)(ho:∀i∈Bo t,X.N.length<=i)(hN:X.N.Nodup)(hy:X.N[i]?=some y)(R:X.env.scope.names.lookup y=some .local)(U:swapsWith (.ListComp elt [⟨tg,iter,[c],0⟩] scope pos) (some (.Name y py)) ao9.line X.env=pure true):PS X (.Assign [.Name y py] (.ListComp elt [⟨tg,iter,[c],0⟩] scope pos) ao9) (tS nm W X.K (.asg (.tg (.name i)) (.Ci v0 k t it c' e'))) :=
 PS.adn (ah3 B Ir hi hg (λ_ _ _ _=>.inr ⟨c,rfl,hc _ _ _ _⟩) he (Ei hs X.env) hN hy R U) (ado (Um hk ho))
end
def spF(nm:Nm)(W:Gh)(K:Fg)(n f:Nat):Sp:=λvs H Q _=>∃ι M R d M',mz nm K ι H M/\lg K ι H R vs/\R.length=n/\W.call f R M=.ok d M'/\∀Z U v,Le ι H Z U->mz nm K Z U M'->Rep K Z U d v->Q v U
def s_call(F:Fj X.prog X.w X.K X.mg X.base CX0 k fa fd ps (spF nm W X.K n f))(hr:Af k X.A)(hg:Gl X x)(hm:X.mg x=some (.ref fa))(hk:PySem.W.keepIn X.K (.ref fa)=true)(hb:Binds X.K fd ps [])(U:Cz.len Z=n)(ha:PA X (a::es) (Ws nm W X.K Z))(Ue:(x==("__debug__" : Str))=false)(he:starEach (a::es) X.env=(false,eval a X.env)::starEach es X.env)(Hy:(backTo pos (starEach es X.env)).any (·.1)=false) :
 PE X (.Call (.Name x p) (a::es) [] pos) (tE nm W X.K (.call f Z)) :=
 PE.of (auv (E:=E0) F hr hg hm hk hb .nil ah0 ha Ue he Hy) fun σ H Q ι ρ M d M' S R e q=>by
  rw[MW.amx] at e;obtain⟨ds,M1,e1,e⟩:=dz e;refine Wy S R e1 λqq H1 vs le S1 R1 r=>?_
  rw[Ab];exact⟨qq,M1,ds,d,M',S1,r,(Gd e1).trans U,e,λqk H' v Vf S' r'=>q qk H' v (le.trans Vf) S' r'⟩
def a2e(qv:Mk X.K C fa)(F:Fj X.prog X.w X.K X.mg X.base CX0 k fa fd ps (spF nm W X.K (n+1) f))(hr:Af (k+1) X.A)(hg:Gl X x)(hm:X.mg x=some (.ref C))(hb:Binds X.K fd ps [])(q3:W.cls[ci]?=some cl)(Vn:cl.init=f)(q0:nm.cls ci=some C)(qk:Cz.len qq=n)(ha:PA X (a::es) (Ws nm W X.K qq))(Ue:(x==("__debug__" : Str))=false)(he:starEach (a::es) X.env=(false,eval a X.env)::starEach es X.env)(Hy:(backTo pos (starEach es X.env)).any (·.1)=false) :
 PE X (.Call (.Name x p) (a::es) [] pos) (tE nm W X.K (.make ci qq)) :=
 PE.of (auy (E:=E0) qv F hr hg hm hb .nil ah0 ha Ue he Hy) fun σ H Q ι ρ M d M' S R e q=>by
  rw[MW.ab1] at e;obtain⟨ds,U,e1,e⟩:=dz e;rw[q3] at e;have e:((W.call cl.init (.ref U.length::ds) (U++[.ins ci []])).bind λr M2=>match r with|.non=>.ok (.ref U.length) M2|_=>.bad)=.ok d M':=e;obtain⟨r0,M2,e2,e⟩:=dz e;refine Wy S R e1 λZ H1 vs le S1 R1 r=>λp dx hp q1 Xn=>?_
  rw[Ab];have keep:∀a u,H1 a=some u->upd (upd H1 dx (.own p)) p (.ins C dx []) a=some u:=λa u e=>by rw[j9 (kh e hp),j9 (kh e q1)];exact e
  obtain⟨S2,yt⟩:=S1.new (o:=.ins ci []) hp keep λ_=>⟨C,dx,[],q0,rz,.nil⟩
  have rp:Rep X.K (Z.add p) (upd (upd H1 dx (.own p)) p (.ins C dx [])) (.ref U.length) (.ref p):=.ref (by show(Z.l++[p])[U.length]?=some p;rw[<- S1.len];simp);refine⟨Z.add p,U++[.ins ci []],.ref U.length::ds,r0,M2,S2,.cons rp (r.mono yt),by rw[gr,Gd e1,qk],by rw[<- Vn];exact e2,λq2 H' v Vf S' r'=>?_⟩;cases r'<;>try cases e
  exact⟨rfl,q q2 H' _ (le.trans (yt.trans Vf)) S' (rp.mono Vf)⟩
theorem W2{U:Nm}{ι:Io}{H:Hp}{m:Str}{K:Fg}(Z:∀i,U.fld i≠m):∀{fs:List (Nat×Dv)}{l:List (Str×V)},o7 K ι H (λk R=>R=U.fld k) fs l->l.lookup m=none
 |_,_,.nil=>rfl
 |_,_,.cons (k:=kk) (k':=kk') hk h t=>by
  subst hk;rw[o5];have z:(m==U.fld kk)=false:=by
   cases z:m==U.fld kk with
   |false=>rfl|true=>exact absurd (eq_of_beq z).symm (Z kk)
  rw[z];exact W2 Z t
def a2f{nm:Nm}{W:Gh}{X:Cx}{a o:Expr}{o':Ex}{pos Z:Pos}{es:Ya}{qq:Cz}{k n f:Nat}{fa C:Addr}{fd:FuncData}{ps:Yf}{m:Str}{mi ci:Nat}{cl:MW.Cl}{pl:Sem Bool}(ho:PE X o (tE nm W X.K o'))(c0:Cls X.K C)(q5:Meth X.K C m fa)(F:Fj X.prog X.w X.K X.mg X.base CX0 k fa fd ps (spF nm W X.K (n+1) f))(hr:Af k X.A)(hb:Binds X.K fd ps [])
 (q4:∀c' U,W.cls[c']?=some U->∀g,U.meths.lookup mi=some g->nm.cls c'=some C/\g=f) (q2:∀i,nm.fld i≠m)
 (qk:Cz.len qq=n) (ha:PA X (a::es) (Ws nm W X.K qq)) (he:starEach (a::es) X.env=(false,eval a X.env)::starEach es X.env) (Hy:(backTo pos (starEach es X.env)).any (·.1)=false)
 (ht:eval (.Call (.Attribute o m Z) (a::es) [] pos) X.env=(do
  let ov <- eval o X.env
  standAt Z.atName
  let (f,first) <- holding [ov] (getMethod ov m pl)
  callWith pos f first (backTo pos (starEach (a::es) X.env)) (backToKw pos (keywordEach [] X.env)))) :
 PE X (.Call (.Attribute o m Z) (a::es) [] pos) (tE nm W X.K (.meth o' mi qq)) :=
 PE.of (auw (E:=E0) ho c0 q5 F hr hb .nil ah0 ha he Hy ht) fun σ H Q ι ρ M d M' S R e q=>by
  rw[MW.ab2] at e;obtain⟨x,M1,e1,e⟩:=dz e;obtain⟨ds,M2,e2,e⟩:=dz e;refine one S R e1 λqv H1 v le S1 R1 r=>?_
  obtain⟨j,hx⟩:∃j,x=.ref j:=by cases x<;>first|exact⟨_,rfl⟩|cases e
  subst hx;obtain⟨p,rfl,hp⟩:∃p,v=.ref p/\qv.l[j]?=some p:=by cases r with|ref z=>exact⟨_,rfl,z⟩
  have e:(match M1[j]? with
   | some (.ins c _)=>(match(W.cls[c]?).bind λC=>C.meths.lookup mi with
    | some f=>W.call f (.ref j::ds) M2|none=>.bad)
   | _=>.bad)=Res.ok d M':=e
  cases hM:M1[j]? with
  |none=>rw[hM] at e;cases e
  |some ob =>
   rw[hM] at e;cases ob with
   |ins ci fs =>
    have e:(match(W.cls[ci]?).bind λC=>C.meths.lookup mi with|some f=>W.call f (.ref j::ds) M2|none=>.bad)=Res.ok d M':=e;cases hL:(W.cls[ci]?).bind λC=>C.meths.lookup mi with
    |none=>rw[hL] at e;cases e
    |some g =>
     rw[hL] at e;have e:W.call g (.ref j::ds) M2=.ok d M':=e;obtain⟨U,h1,h2⟩:=dw.mp hL;obtain⟨h3,rfl⟩:=q4 ci U h1 g h2;obtain⟨C',dx,l,g1,g2,g3⟩:=S1.obj j _ p hM hp;rw[h3] at g1;cases g1;have q0:l.lookup m=none:=W2 q2 g3;refine⟨p,dx,l,rfl,g2,q0,Wy S1 R1 e2 λq3 H2 vs yt S2 R2 r2=>?_⟩;rw[Ab];exact⟨q3,M2,.ref j::ds,d,M',S2,.cons (r.mono yt) r2,by rw[gr,Gd e2,qk],e,λq1 H' v Vf S' r'=>q q1 H' v ((le.trans yt).trans Vf) S' r'⟩
   |_=>cases e
def a2h:PE X (.Dict [] [] pos) (tE nm W X.K .abw):=PE.of aoz fun σ H Q ι ρ M d M' S R e q=>by
 rw[MW.amv] at e;cases e;intro p Z;obtain⟨S2,U⟩:=S.new (o:=.dT []) (H':=upd H p (.dT [])) Z (λa u e=>by rw[j9 (kh e Z)];exact e) λ_=>⟨[],rz,.nil⟩
 exact q _ _ _ U S2 (.ref (by show(ι.l++[p])[M.length]?=some p;rw[<- S.len];simp))
def a2i:PE X (.Dict [] [] pos) (tE nm W X.K .ae7):=PE.of aoy fun σ H Q ι ρ M d M' S R e q=>by
 rw[MW.amw] at e;cases e;intro p Z;obtain⟨S2,U⟩:=S.new (o:=.dK []) (H':=upd H p (.dK [])) Z (λa u e=>by rw[j9 (kh e Z)];exact e) λ_=>⟨[],rz,.nil⟩
 exact q _ _ _ U S2 (.ref (by show(ι.l++[p])[M.length]?=some p;rw[<- S.len];simp))
def bf4(nm:Nm)(K:Fg):a0p:=λo i v H Q=>∃Z M x y d R,mz nm K Z H M/\Rep K Z H x o/\Rep K Z H y i/\Rep K Z H d v/\MW.setOp x y d M=some R/\∀U,Le Z H Z U->mz nm K Z U R->Q U
def Jy(h:n<100000):n<sizeLine:=ie h Wv
set_option tactic.hygienic true in
def avj(hu:X.A.units+1<cLine):a0q X (bf4 nm X.K):=by
 intro L s σ H o i v ov iv u Q I ro ri rv hh;obtain⟨ι,M,x,y,d,M',S,rx,ry,rd,e,q⟩:=hh;obtain⟨j,hx⟩:∃j,x=.ref j:=by cases x<;>first|exact⟨_,rfl⟩|cases e
 subst hx;obtain⟨p,rfl,J⟩:∃p,o=.ref p/\ι.l[j]?=some p:=by cases rx with|ref z=>exact⟨_,rfl,z⟩
 simp only[MW.setOp] at e;split at e
 .rename_i xs Z
  split at e
  .rename_i k
   obtain⟨qq,e1,e2⟩:=dg.mp e;subst e2;cases ry;obtain⟨vs,R,Y⟩:=S.obj j _ p Z J;refine set_list L s σ H _ _ v ov iv u Q I ro ri rv ⟨p,vs,k,qq,rfl,rfl,R,by rw[<- Y.length];exact e1,?_⟩;obtain⟨U,C⟩:=S.put (u:=.lst (vs.set qq v)) (o:=.lst (xs.set qq d)) Z J λle=>⟨_,rz,(Y.mono le).set (rd.mono le) qq⟩
   exact q _ C U
  .cases e
 .rename_i G Z
  obtain⟨k,e1,e⟩:=dw.mp e;split at e<;>cases e;rename_i hl;obtain⟨l,R,Y⟩:=S.obj j _ p Z J;obtain⟨b,rfl,hb⟩:=Td ry e1;cases ro;refine Y5 (H':=upd H p (.dT (putK l k v))) (y:=.ref b) (v:=v) hu I (af1.t R hb (by rw[<- Y.length];exact Jy hl)) ri rv λs' I'=>⟨_,I',?_⟩
  obtain⟨U,C⟩:=S.put (u:=.dT (putK l k v)) (o:=.dT (MW.Dw G k d)) Z J λle=>⟨_,rz,(Y.mono le).put (rd.mono le)⟩
  exact q _ C U
 .rename_i G Z
  obtain⟨k,e1,e⟩:=dw.mp e;split at e<;>cases e;rename_i hl;obtain⟨l,R,Y⟩:=S.obj j _ p Z J;have hy:=Tc ry e1;subst hy;cases ro;refine Y5 (H':=upd H p (.dK (putK l k v))) (y:=kV k) (v:=v) hu I (af1.k R (by rw[<- Y.length];exact Jy hl)) ri rv λs' I'=>⟨_,I',?_⟩
  obtain⟨U,C⟩:=S.put (u:=.dK (putK l k v)) (o:=.dK (MW.Dw G k d)) Z J λle=>⟨_,rz,(Y.mono le).put (rd.mono le)⟩
  exact q _ C U
 .cases e
def W3(h:Te e=true)(t:Expr)(l:Nat)(Z:Env):swapsWithSole [t] e l Z=pure false:=by unfold swapsWithSole;exact N7 h _ _ _
def apl(e o b:Expr)(p:Pos)(l:Nat)(Z:Env):swapsWithSole [.Subscript o b p] e l Z=pure false:=by cases e<;>rfl
def apm(hu:X.A.units+1<cLine)(he:PE X a (tE nm W X.K a'))(ho:PE X o (tE nm W X.K o'))(hi:PE X b (tE nm W X.K b'))(ha:∀v,assign (.Subscript o b pos') X.env v=(do
 let ov <- holding [v] (eval o X.env)
 let iv <- holding [v,ov] (eval b X.env)
 standAt pos'
 holding [v,ov,iv] (setItem ov iv v)
 release [v,ov,iv] [])):PS X (.Assign [.Subscript o b pos'] a pos) (tS nm W X.K (.asg (.sub o' b') a')) :=
 PS.of (aoi he (a0s ho hi (avj (nm:=nm) hu) ha) (apl _ _ _ _ _ _) (by rfl) (by rfl)) λD σ H ι ρ M fl qk M' S R e q=>by
  rw[MW.Zv] at e;obtain⟨x,M1,e1,e⟩:=dz e;obtain⟨qv,M2,Z,e⟩:=dz e;cases e;rw[MW.ato] at Z;obtain⟨y,M3,e3,Z⟩:=dz Z;obtain⟨z,M4,e4,Z⟩:=dz Z;obtain⟨M5,M6,e5,e6⟩:=dz Z;obtain⟨e7,e8⟩:=xx e5;subst e8;cases e6;refine one S R e1 λqq H1 v le S1 R1 r=>?_
  refine one S1 R1 e3 λq0 H2 v2 yt S2 R2 r2=>one S2 R2 e4 λU H3 v3 Wx S3 R3 r3=>?_
  exact⟨U,_,y,z,x,_,S3,r2.mono Wx,r3,(r.mono yt).mono Wx,e7,λH' Vf S'=>q U H' σ (((le.trans yt).trans Wx).trans Vf) S' (R3.mono Vf)⟩
set_option tactic.hygienic true in
def apn(hn:n=nm.fld f)(U:∀c C,nm.cls c=some C->Cls X.K C/\Gw X.K C n)(he:PE X a (tE nm W X.K a'))(ho:PE X o (tE nm W X.K o'))(Hy:Te a=true) :
 PS X (.Assign [.Attribute o n pos'] a pos) (tS nm W X.K (.asg (.fld o' f) a')) :=
 PS.of (a07 ho he (N7 Hy _ _ _)) λD σ H ι ρ M fl qk M' S R e q=>by
  rw[MW.Zv] at e;obtain⟨x,M1,e1,e⟩:=dz e;obtain⟨qv,M2,G,e⟩:=dz e;cases e;rw[MW.atp] at G;obtain⟨y,M3,e3,G⟩:=dz G;obtain⟨M5,M6,e5,e6⟩:=dz G;obtain⟨Z,e8⟩:=xx e5;subst e8;cases e6;refine one S R e1 λqq H1 v le S1 R1 r=>one S1 R1 e3 λY H2 v2 yt L R2 r2=>?_
  obtain⟨j,hx⟩:∃j,y=.ref j:=by cases y<;>first|exact⟨_,rfl⟩|cases Z
  subst hx;obtain⟨p,rfl,hp⟩:∃p,v2=.ref p/\Y.l[j]?=some p:=by cases r2 with|ref z=>exact⟨_,rfl,z⟩
  simp only[MW.Qn] at Z;split at Z
  .rename_i c fs hM
   have hl:fs.length<1000:=by
    by_cases z:fs.length<1000
    .exact z
    .rw[bw z] at Z;cases Z
   rw[cj hl] at Z;cases Z;obtain⟨C,J,l,h1,h2,h3⟩:=L.obj j _ p hM hp;subst hn;obtain⟨g1,g2⟩:=U c C h1;refine⟨p,C,J,l,rfl,h2,g1,g2,by rw[<- h3.length];exact hl,?_⟩;obtain⟨S3,Wx⟩:=L.put (u:=.ins C J (Ie (nm.fld f) v l)) (o:=.ins c (MW.Tz f x fs)) hM hp λVf=>⟨C,J,_,h1,rz,(h3.mono Vf).Ie ((r.mono yt).mono Vf)⟩
   exact q Y _ σ ((le.trans yt).trans Wx) S3 (R2.mono Wx)
  .cases Z
def Cy.weak(h:Cy X f r)(w:∀Z H Q,r' Z H Q->r Z H Q):Cy X f r':=λU s σ H Z R Q I rs q=>h U s σ H Z R Q I rs (w Z H Q q)
def rB(nm:Nm)(K:Fg)(b:Blt):List V->Hp->VK->Prop:=λvs H Q=>∃R M ds d M',mz nm K R H M/\lg K R H ds vs/\MW.vz b ds M=.ok d M'/\∀Z U v,Le R H Z U->mz nm K Z U M'->Rep K Z U d v->Q v U
def Cy.of(h:Cy X f r)(w:∀vs H Q U M R d M',mz nm X.K U H M->lg X.K U H R vs->MW.vz bb R M=.ok d M'->(∀Z H' v,Le U H Z H'->mz nm X.K Z H' M'->Rep X.K Z H' d v->Q v H')->r vs H Q):Cy X f (rB nm X.K bb) :=
 Cy.weak h λvs H Q z_=>by obtain⟨U,M,R,d,M',S,r,e,q⟩:=z_;exact w vs H Q U M R d M' S r e q
def adt{X:Cx}:∀σ H Q,tE nm W X.K (.blt t Z) σ H Q->tCB (rB nm X.K t) (Ws nm W X.K Z) σ H Q:=fun σ H Q hh=>by obtain⟨ι,ρ,M,d,M',S,R,e,q⟩:=hh;rw[MW.U6] at e;obtain⟨ds,M1,e1,e⟩:=dz e;exact Wy S R e1 λU H1 vs le S1 R1 r=>⟨U,M1,ds,d,M',S1,r,e,λqq H' v Vf S' r'=>q qq H' v (le.trans Vf) S' r'⟩
def ah6{id:String}(hc:Cy X (.builtin id) (rB nm X.K t))(hg:Gl X x)(hm:X.mg x=none)(hv:bootBuiltins x=some (.builtin id))(ha:PA X (a::Z) (Ws nm W X.K U))(hn:x≠"__name__")(Ue:(x==("__debug__" : Str))=false)(he:starEach (a::Z) X.env=(false,eval a X.env)::starEach Z X.env)(R:(backTo pos (starEach Z X.env)).any (·.1)=false):PE X (.Call (.Name x p) (a::Z) [] pos) (tE nm W X.K (.blt t U)):=PE.weak (aov hc hg hm hv ha hn Ue he R) adt
def apo(hc:Cy X (.type T) (rB nm X.K t))(hg:Gl X x)(hm:X.mg x=none)(hv:bootBuiltins x=some (.type T))(ha:PA X (a::Z) (Ws nm W X.K U))(hn:x≠"__name__")(Ue:(x==("__debug__" : Str))=false)(he:starEach (a::Z) X.env=(false,eval a X.env)::starEach Z X.env)(R:(backTo pos (starEach Z X.env)).any (·.1)=false):PE X (.Call (.Name x p) (a::Z) [] pos) (tE nm W X.K (.blt t U)):=PE.weak (akd hc hg hm hv ha hn Ue he R) adt
def Iu(r:lg K U H ds Z)(h:ds=[d]):∃v,Z=[v]/\Rep K U H d v:=by subst h;cases r with|cons h t=>cases t;exact⟨_,rfl,h⟩
def avk:Cy X (.type "tuple") (rB nm X.K .tuple):=Cy.of X5 λvs H Q R M ds d M' S r e q=>by
 cases r with
 |nil=>simp[MW.vz] at e
 |@cons x v _ _ h t =>
  cases t with
  |cons h2 t2=>simp[MW.vz] at e
  |nil =>
   have e:Res.uz ((MW.Bh M x).map MW.D.tup) M=.ok d M':=e;obtain⟨e1,e2⟩:=xx e;subst e2;obtain⟨xs,e3,rfl⟩:=dg.mp e1;obtain⟨p,U,rfl,Z,ru⟩:=Jx S h e3;rcases Z with Z|Z
   .refine⟨p,U,rfl,.inl ⟨Gz.of Z,λl hl=>?_⟩⟩
    obtain⟨S2,yt,r2⟩:=Oj S hl ru;exact q R _ _ yt S2 r2
   .exact⟨p,U,rfl,.inr ⟨Ia.of Z,q R H _ (Le.refl _ _) S (.tup Z ru)⟩⟩
set_option tactic.hygienic true in
def a9u:Cy X (.builtin "len") (rB nm X.K .len):=Cy.of aal λvs H Q C M Y d M' S r e q=>by
 cases r with
 |nil=>simp[MW.vz] at e
 |@cons x v _ _ h t =>
  cases t with
  |cons h2 t2=>simp[MW.vz] at e
  |nil =>
   have fin:∀U,(MW.Bh M x=some U)->d=.int U.length->M'=M->∃p J,[v]=[V.ref p]/\(Gz X.K H p J\/Ia X.K H p J)/\Q (.int J.length) H:=λU L Z e2=>by subst Z e2;obtain⟨p,R,rfl,y,ru⟩:=Jx S h L;exact⟨p,R,rfl,y.imp Gz.of Ia.of,by rw[<- ru.length];exact q C H _ (Le.refl _ _) S (.int _)⟩
   cases h with
   |fz Z G =>
    cases e;exact⟨_,_,rfl,.inl Z.sq,by rw[<- G.length];exact q C H _ (Le.refl _ _) S (.int _)⟩
   |@ref n p Z =>
    have e:(match M[n]? with|some (.lst Y)=>Res.ok (MW.D.int Y.length) M|_=>.bad)=Res.ok d M':=e;split at e
    .rename_i Y u
     cases e;exact fin Y (by simp[MW.Bh,MW.dm,u]) rfl rfl
    .cases e
   |tup Z G=>cases e;exact fin _ rfl rfl rfl|vl Z n1 G=>cases e;exact fin _ rfl rfl rfl|_=>cases e
open MW
noncomputable def G3(f:Dv->Dv->Option Bool)(Z bs:List Dv)(j:Nat):Bool:=match Z[j]?,bs[j]? with
 |some a,some b=>(f a b).getD false|_,_=>false
set_option tactic.hygienic true in
theorem Ht{f:Dv->Dv->Option Bool}:∀{Z bs:List Dv}{r:Bool},MW.Ot f Z bs=some r->(∀(j:Nat) a b,Z[j]?=some a->bs[j]?=some b->∃c,f a b=some c) /\
 r=((List.range (min Z.length bs.length)).all (G3 f Z bs)&&Z.length==bs.length)
 |[],[],r,h=>by cases h;exact⟨λj a b e=>by simp at e,by simp⟩
 |[],b::bs,r,h=>by cases h;exact⟨λj a b e=>by simp at e,by simp⟩
 |a::Z,[],r,h=>by cases h;exact⟨λj a b _ e=>by simp at e,by simp⟩
 |a::Z,b::bs,r,h=>by
  simp only[MW.Ot] at h;split at h
  .rename_i x y J u
   cases h;obtain⟨g1,U⟩:=Ht u;refine⟨λj S C Y G=>?_,?_⟩
   .cases j with
    |zero=>simp at Y G;subst Y G;exact⟨x,J⟩|succ j=>exact g1 j S C (by simpa using Y) (by simpa using G)
   .rw[gr,gr,Nat.succ_min_succ,List.range_succ_eq_map,List.all_cons,List.all_map]
    have z:G3 f (a::Z) (b::bs) 0=x:=by simp[G3,J]
    have L:(G3 f (a::Z) (b::bs) ∘ Nat.succ)=G3 f Z bs:=by funext j;simp[G3]
    rw[z,L,U];have R:(Z.length+1==bs.length+1)=(Z.length==bs.length):=by
     by_cases q:Z.length=bs.length
     .simp[q]
     .have:¬(Z.length+1=bs.length+1):=by lia
      simp[q,this]
    rw[R,Bool.and_assoc]
  .cases h
set_option tactic.hygienic true in
theorem N8{Z:Io}{H:Hp}{K:Fg}{f:Dv->Dv->Option Bool}(G:∀x y v r,Rep K Z H x v->Rep K Z H y v->f x y=some r->r=true):∀{Y bs:List Dv}{J:List V}{r:Bool},lg K Z H Y J->lg K Z H bs J->MW.Ot f Y bs=some r->r=true
 |_,_,_,_,.nil,.nil,h=>by cases h;rfl
 |_,_,_,_,.cons h1 t1,.cons h2 t2,h=>by
  simp only[MW.Ot] at h;split at h
  .rename_i x y U C
   cases h;rw[G _ _ _ _ h1 h2 U,N8 G t1 t2 C];rfl
  .cases h
inductive EqI(M:cg)(f:Dv->Dv->Option Bool):Dv->Dv->Bool->Prop
 |non:EqI M f .non .non true
 |bl (a b:Bool):EqI M f (.bl a) (.bl b) (a==b)
 |int (a b:Int):EqI M f (.int a) (.int b) (decide (a=b))
 |str (a b:Str):EqI M f (.str a) (.str b) (decide (a=b))
 |tup {as bs:List Dv} {r:Bool} (h:MW.Ot f as bs=some r):EqI M f (.tup as) (.tup bs) r
 |lst {x y:Dv} {as bs:List Dv} {r:Bool} (h1:MW.dm M x=some as) (h2:MW.dm M y=some bs) (h:(if as.length=bs.length then MW.Ot f as bs else some false)=some r):EqI M f x y r
set_option tactic.hygienic true in
def aat(h:MW.Jf M (k+1) x y=some r):EqI M (MW.Jf M k) x y r:=by
 unfold MW.Jf at h;split at h
 .cases h;exact .int _ _
 .cases h;exact .bl _ _
 .cases h;exact .str _ _
 .cases h;exact .non
 .exact .tup h
 .split at h
  .rename_i Y Z;exact .lst Y Z h
  .cases h
def adu{X:Cx}(S:mz nm X.K Z H M)(rx:Rep X.K Z H x v)(R:Rep X.K Z H y v)(h1:MW.dm M x=some ds)(h2:MW.dm M y=some es):∃vs,lg X.K Z H ds vs/\lg X.K Z H es vs:=by obtain⟨p,vs,rfl,g1,g2⟩:=ql S rx h1;obtain⟨p',ws,hw,U,g4⟩:=ql S R h2;cases hw;rw[g1] at U;cases U;exact⟨vs,g2,g4⟩
theorem aau{nm:Nm}{R:Io}{H:Hp}{M:cg}{X:Cx}(S:mz nm X.K R H M):∀(k:Nat)(x y:Dv)(v:V)(r:Bool),Rep X.K R H x v->Rep X.K R H y v->MW.Jf M k x y=some r->r=true
 |0,_,_,_,_,_,_,h=>by cases h
 |k+1,x,y,v,r,rx,ry,h=>by
  have ih:=aau S k;cases aat h with
  |non=>rfl|bl a b=>cases rx;cases ry;simp|int a b=>cases rx;cases ry;simp|str a b=>cases rx;cases ry;simp
  |tup h=>cases rx with
   |tup e1 Z=>cases ry with
    |tup e2 U=>rw[e1] at e2;cases e2;exact N8 ih Z U h
  |lst h1 h2 h3 =>
   obtain⟨vs,Z,U⟩:=adu S rx ry h1 h2;rw[cj (Z.length.trans U.length.symm)] at h3;exact N8 ih Z U h3
def Vals.adw{j:Nat}(r:Vals xs R)(U:xs[j]?=some v)(h2:R[j]?=some u):RelV v u:=by obtain⟨u',Z,e2⟩:=L2.Vals.get r U;rw[h2] at Z;cases Z;exact e2
theorem Qf{U:Io}{H:Hp}{K:Fg}:∀{l:List (List Kx×Dv)}{Z:List (List Key×V)},o7 K U H (λk R=>k=R) l Z->Z.map (·.1)=l.map (·.1)
 |_,_,.nil=>rfl|_,_,.cons k h t=>by simp[Qf t,k]
def ah7(r:KT H l U):U.map (·.1)=l.map (·.1)/\∀x∈U,H x.2.1=some (.tup (x.1.map kV)):=by
 induction r with
 |nil=>exact⟨rfl,by simp⟩
 |@cons p q ps qs hq t ih =>
  refine⟨by simp[ih.1,hq.1],λx Z=>?_⟩;rcases bz.mp Z with rfl|Z
  .rw[<- hq.1];exact hq.2.1
  .exact ih.2 x Z
set_option tactic.hygienic true in
theorem W4{nm:Nm}{X:Cx}{ι:Io}{H:Hp}{σ:St}{M:cg}{q0:Zp}{s:Shared}(I:Inv X q0 σ H s)(S:mz nm X.K ι H M):∀(k:Nat)(A:Around)(x y:Dv)(v u:V)(v' u':Value)(r:Bool),Af k A->Rep X.K ι H x v->Rep X.K ι H y u->RelV v v'->RelV u u'->MW.Jf M k x y=some r->SeqAt.EqAt A s v' u' r
 |0,_,_,_,_,_,_,_,_,_,_,_,_,_,h=>by cases h
 |k+1,A,x,y,v,u,v',u',r,hr,rx,ry,rv,ru,h=>by
  have ih:=W4 I S k A.in1;have q3:=hr.in1;have elems:∀(Z Y:List Dv)(vs ws:List V)(is J:Zl)(rr:Bool),lg X.K ι H Z vs->lg X.K ι H Y ws->Vals vs is->Vals ws J->MW.Ot (MW.Jf M k) Z Y=some rr ->
   ∀j (h1:j<is.toArray.size) (h2:j<J.toArray.size),SeqAt.EqAt A.in1 s is.toArray[j] J.toArray[j] (G3 (MW.Jf M k) Z Y j):=λZ Y vs ws is J rr rd re Tf qv he j h1 h2=>by
   have l1:j<Z.length:=by rw[rd.length,Tf.length];simpa using h1
   have l2:j<Y.length:=by rw[re.length,qv.length];simpa using h2
   have C:Z[j]?=some Z[j]:=by simp[l1]
   have G:Y[j]?=some Y[j]:=by simp[l2]
   obtain⟨c,hc⟩:=(Ht he).1 j _ _ C G;obtain⟨va,a1,a2⟩:=rd.get C;obtain⟨wa,b1,b2⟩:=re.get G;have q1:is[j]?=some is.toArray[j]:=by simp
   have q2:J[j]?=some J.toArray[j]:=by simp
   have:=ih _ _ va wa _ _ c q3 a2 b2 (Vals.adw Tf a1 q1) (Vals.adw qv b1 q2) hc;have z:G3 (MW.Jf M k) Z Y j=c:=by simp[G3,C,G,hc]
   rw[z];exact this
  have qk:∀(p p2:Addr)(Z Y:List Dv),v=.ref p->u=.ref p2->MW.dm M x=some Z->MW.dm M y=some Y->(if Z.length=Y.length then MW.Ot (MW.Jf M k) Z Y else some false)=some r->SeqAt.EqAt A s v' u' r:=λp p2 Z Y hv hu h1 h2 L=>by
   subst hv hu;cases rv;cases ru;obtain⟨_,vs,hv,C,G⟩:=ql S rx h1;cases hv;obtain⟨_,ws,hw,g3,g4⟩:=ql S ry h2;cases hw
   by_cases U:p=p2
   .subst U
    have:r=true:=by rw[C] at g3;cases g3;rw[cj (G.length.trans g4.length.symm)] at L;exact N8 (λx y v r a b c=>aau S k x y v r a b c) G g4 L
    rw[this];exact SeqAt.EqAt.same _
   .refine SeqAt.EqAt.of_refs U ?_
    obtain⟨is,r1,qq,_⟩:=I.list (Gz.of C);obtain⟨J,r2,R,_⟩:=I.list (Gz.of g3)
    by_cases hl:Z.length=Y.length
    .rw[cj hl] at L
     have q4:is.toArray.size=J.toArray.size:=by simp[<- r1.length,<- r2.length,<- G.length,<- g4.length,hl]
     have:=SeqAt.RcAt.lists (e:=G3 (MW.Jf M k) Z Y) qq.isList R.isList q4 hr.Wj (elems Z Y vs ws is J r G g4 r1 r2 L);rw[(Ht L).2];have e1:is.toArray.size=min Z.length Y.length:=by simp[<- r1.length,<- G.length,hl]
     rw[e1] at this;simpa[hl] using this
    .rw[bw hl] at L
     cases L;exact SeqAt.RcAt.lists_lengths qq.isList R.isList (by simp[<- r1.length,<- r2.length,<- G.length,<- g4.length,hl]) hr.Wj
  cases aat h with
  |non=>cases rx;cases ry;cases rv;cases ru;exact SeqAt.EqAt.same _|bl a b=>cases rx;cases ry;cases rv;cases ru;exact SeqAt.EqAt.bool_bool _ _
  |int a b =>
   cases rx;cases ry;obtain⟨t,rfl⟩:=rv;obtain⟨t2,rfl⟩:=ru;rw[<- Bool.beq_eq_decide_eq];exact SeqAt.EqAt.int_int _ _ _ _
  |str a b =>
   cases rx;cases ry;obtain⟨t,rfl⟩:=rv;obtain⟨t2,rfl⟩:=ru;rw[<- Bool.beq_eq_decide_eq];exact SeqAt.EqAt.str_str _ _ _ _
  |@tup Z Y _ h=>cases rx with
   |@tup p _ vs e1 r1=>cases ry with
    |@tup p2 _ ws e2 r2 =>
     cases rv;cases ru
     by_cases U:p=p2
     .subst U
      have:r=true:=by rw[e1] at e2;cases e2;exact N8 (λx y v r a b c=>aau S k x y v r a b c) r1 r2 h
      rw[this];exact SeqAt.EqAt.same _
     .refine SeqAt.EqAt.of_refs U ?_
      obtain⟨is,C,qq,_⟩:=I.tuple (Ia.of e1);obtain⟨J,G,R,_⟩:=I.tuple (Ia.of e2);have:=SeqAt.RcAt.tuples (e:=G3 (MW.Jf M k) Z Y) (show s.heap.IsTuple p is.toArray from qq) (show s.heap.IsTuple p2 J.toArray from R) hr.Wj (elems Z Y vs ws is J r r1 r2 C G h);rw[(Ht h).2];have z1:is.toArray.size=Z.length:=by simp[<- C.length,<- r1.length]
      have z2:J.toArray.size=Y.length:=by simp[<- G.length,<- r2.length]
      rw[z1,z2] at this;exact this
  |lst h1 h2 L =>
   obtain⟨p,_,e1,_⟩:=ql S rx h1;obtain⟨p2,_,e2,_⟩:=ql S ry h2;exact qk p p2 _ _ e1 e2 h1 h2 L
inductive aav(A:Around)(s:Shared):Value->Value->Bool->Prop
 |Wf {p p2:Addr} {is js:U1} (e:Nat->Bool) (h1:s.heap.IsTuple p is) (h2:s.heap.IsTuple p2 js) (he:∀j (h1:j<is.size) (h2:j<js.size),SeqAt.EqAt A.in1 s is[j] js[j] (e j)):aav A s (.ref p) (.ref p2) ((List.range (min is.size js.size)).all e&&is.size==js.size)
 |a9w {p p2:Addr} {is js:U1} (e:Nat->Bool) (h1:s.heap.IsList p is) (h2:s.heap.IsList p2 js) (hz:is.size=js.size) (he:∀j (h1:j<is.size) (h2:j<js.size),SeqAt.EqAt A.in1 s is[j] js[j] (e j)):aav A s (.ref p) (.ref p2) ((List.range is.size).all e)
 |lens {p p2:Addr} {is js:U1} (h1:s.heap.IsList p is) (h2:s.heap.IsList p2 js) (hz:(is.size != js.size)=true):aav A s (.ref p) (.ref p2) false
def Zc{A:Around}(I:Inv X pins σ H s)(S:mz nm X.K ι H M)(hr:Af k A.in1)(rd:lg X.K ι H ds vs)(re:lg X.K ι H Z ws)(Tf:Vals vs is)(U:Vals ws R)(he:MW.Ot (MW.Jf M k) ds Z=some rr) :
 ∀j (h1:j<is.toArray.size) (h2:j<R.toArray.size),SeqAt.EqAt A.in1 s is.toArray[j] R.toArray[j] (G3 (MW.Jf M k) ds Z j):=λj h1 h2=>by
 have l1:j<ds.length:=by rw[rd.length,Tf.length];simpa using h1
 have l2:j<Z.length:=by rw[re.length,U.length];simpa using h2
 have g1:ds[j]?=some ds[j]:=by simp[l1]
 have g2:Z[j]?=some Z[j]:=by simp[l2]
 obtain⟨c,hc⟩:=(Ht he).1 j _ _ g1 g2;obtain⟨va,a1,a2⟩:=rd.get g1;obtain⟨wa,b1,b2⟩:=re.get g2;have q1:is[j]?=some is.toArray[j]:=by simp
 have q2:R[j]?=some R.toArray[j]:=by simp
 have:=W4 I S k A.in1 _ _ va wa _ _ c hr a2 b2 (Vals.adw Tf a1 q1) (Vals.adw U b1 q2) hc;have z:G3 (MW.Jf M k) ds Z j=c:=by simp[G3,g1,g2,hc]
 rw[z];exact this
def aga(I:Inv X pins σ H s)(S:mz nm X.K ι H M)(hr:Af k A.in1)(rx:Rep X.K ι H x v)(ry:Rep X.K ι H y u)(rv:RelV v v')(ru:RelV u u')(h1:MW.dm M x=some ds)(h2:MW.dm M y=some U)(R:(if ds.length=U.length then MW.Ot (MW.Jf M k) ds U else some false)=some r):aav A s v' u' r:=by
 obtain⟨p,vs,rfl,g1,g2⟩:=ql S rx h1;obtain⟨p2,ws,rfl,g3,g4⟩:=ql S ry h2;cases rv;cases ru;obtain⟨is,r1,qk,_⟩:=I.list (Gz.of g1);obtain⟨js,r2,qq,_⟩:=I.list (Gz.of g3)
 by_cases Z:ds.length=U.length
 .rw[cj Z] at R
  have qv:is.toArray.size=js.toArray.size:=by simp[<- r1.length,<- r2.length,<- g2.length,<- g4.length,Z]
  have z:=aav.a9w (A:=A) (G3 (MW.Jf M k) ds U) qk.isList qq.isList qv (Zc I S hr g2 g4 r1 r2 R);rw[(Ht R).2];have e1:is.toArray.size=min ds.length U.length:=by simp[<- r1.length,<- g2.length,Z]
  rw[e1] at z;simpa[Z] using z
 .rw[bw Z] at R
  cases R;exact .lens qk.isList qq.isList (by simp[<- r1.length,<- r2.length,<- g2.length,<- g4.length,Z])
set_option tactic.hygienic true in
def adx(I:Inv X pins σ H s)(S:mz nm X.K ι H M)(R:Af k A.in1)(Y:Rep X.K ι H x v)(Z:Rep X.K ι H y u)(L:RelV v v')(ru:RelV u u')(h:MW.Jf M (k+1) x y=some r) :
 aav A s v' u' r\/(a04 v u=true/\r=decide (v=u)):=by
 cases aat h with
 |non=>cases Y;cases Z;exact .inr ⟨rfl,by simp⟩|bl a b=>cases Y;cases Z;exact .inr ⟨rfl,by by_cases z:a=b<;>simp[z]⟩|int a b=>cases Y;cases Z;exact .inr ⟨rfl,by by_cases z:a=b<;>simp[z]⟩|str a b=>cases Y;cases Z;exact .inr ⟨rfl,by by_cases z:a=b<;>simp[z]⟩
 |@tup ds es _ h=>cases Y with
  |@tup p _ vs e1 r1=>cases Z with
   |@tup p2 _ ws e2 r2 =>
    cases L;cases ru;obtain⟨is,g1,G,_⟩:=I.tuple (Ia.of e1);obtain⟨U,C,J,_⟩:=I.tuple (Ia.of e2);have z:=aav.Wf (A:=A) (G3 (MW.Jf M k) ds es) (show s.heap.IsTuple p is.toArray from G) (show s.heap.IsTuple p2 U.toArray from J) (Zc I S R r1 r2 g1 C h);rw[(Ht h).2];have z1:is.toArray.size=ds.length:=by simp[<- g1.length,<- r1.length]
    have z2:U.toArray.size=es.length:=by simp[<- C.length,<- r2.length]
    rw[z1,z2] at z;exact .inl z
 |lst h1 h2 h3=>exact .inl (aga I S R Y Z L ru h1 h2 h3)
def aav.rc(h:aav A s v u r)(R:A.units<cLine):SeqAt.RcAt A s v u r/\SeqAt.RcNeAt A s v u (!r):=by
 cases h with
 |Wf e Z U he=>exact⟨SeqAt.RcAt.tuples Z U R he,SeqAt.RcNeAt.tuples Z U R he⟩|a9w e Z U hz he=>exact⟨SeqAt.RcAt.lists Z U hz R he,SeqAt.RcNeAt.lists Z U hz R he⟩|lens Z U hz=>exact⟨SeqAt.RcAt.lists_lengths Z U hz R,SeqAt.RcNeAt.lists_lengths Z U hz R⟩
def bf5(R:Af 6 X.A):De X (compareOp .Eq) (Xp nm X.K .eq):=λZ s σ H v u v' u' Q I U ru hh=>by
 obtain⟨ι,M,x,y,b,S,rx,ry,e,q⟩:=hh;have e:MW.Jf M 6 x y=some b:=e;rcases adx (A:=X.A) I S R.in1 rx ry U ru e with h|⟨h1,h2⟩
 .exact(h.rc R.Wj).1 X.prog X.w X.xe _ ⟨.bl b,H,I,rfl,q⟩
 .subst h2
  exact a74 Z s σ H v u v' u' Q I U ru ⟨h1,q⟩
def bf6(R:Af 6 X.A):De X (compareOp .NotEq) (Xp nm X.K .ne):=λZ s σ H v u v' u' Q I U ru hh=>by
 obtain⟨ι,M,x,y,b,S,rx,ry,e,q⟩:=hh;obtain⟨b',e1,e2⟩:=dg.mp (show(MW.yq M x y).map not=some b from e);subst e2;rcases adx (A:=X.A) I S R.in1 rx ry U ru (show MW.Jf M 6 x y=_ from e1) with h|⟨h1,h2⟩
 .exact(h.rc R.Wj).2 X.prog X.w X.xe _ ⟨.bl !b',H,I,rfl,q⟩
 .subst h2
  exact a75 Z s σ H v u v' u' Q I U ru ⟨h1,q⟩
section
variable{nm:Nm}{W:Gh}{X:Cx}{a b c o:Expr}{a' b' c' o':Ex}{pos pos' apos:Pos}{ι:Io}{H:Hp}{σ:St}{ρ:En}{M M1 M2:cg}{x y:Dv}{es:Ya}{es':Cz}
set_option tactic.hygienic true in
theorem Fo:∀{Z:List Dv}{bs:List Bool},MW.Ly M x Z=some bs->bs.length=Z.length/\∀(j:Nat) d,Z[j]?=some d->∃b,bs[j]?=some b/\MW.yq M d x=some b
 |[],bs,h=>by cases h;exact⟨rfl,λj d e=>by simp at e⟩
 |y::ys,bs,h=>by
  simp only[MW.Ly] at h;split at h
  .rename_i a b Y J
   cases h;obtain⟨U,G⟩:=Fo J;refine⟨by simp[U],λj d e=>?_⟩;cases j with
   |zero=>simp at e;subst e;exact⟨a,rfl,Y⟩|succ j=>simpa using G j d (by simpa using e)
  .cases h
def G6(I:Inv X pins σ H s)(e:aap X.K H p U):(∃o,H p=some (.Hz o (.lst U)))\/(H p=none/\∃(o:Obj)(Z:U1)(n:Nat),X.K.lookup p=some o/\o.data=.seq Z n/\Vals U Z.toList):=by
 rcases e with h|⟨o,Z,n,h1,_,_,h2,_,h3⟩
 .exact .inl h
 .exact .inr ⟨(I.bs p o (I.mod.kin p o h1)).2,o,Z,n,h1,h2,h3⟩
def a2k(I:Inv X pins σ H s)(e:aap X.K H p vs)(e2:aap X.K H p ws):vs=ws:=by
 rcases G6 I e with⟨o,h⟩|⟨h,o,wj,n,h1,h2,h3⟩
 .rcases G6 I e2 with⟨o',Z⟩|⟨Z,_⟩
  .rw[h] at Z;cases Z;rfl
  .rw[h] at Z;cases Z
 .rcases G6 I e2 with⟨o',Z⟩|⟨_,o',qk,n',U,R,qq⟩
  .rw[h] at Z;cases Z
  .rw[h1] at U;cases U
   rw[h2] at R;cases R;exact Vals.inj h3 qq
mutual
theorem ah8{qq:Zp}{s:Shared}(I:Inv X qq σ H s)(S:mz nm X.K ι H M):∀{d d':Dv}{v:V},Rep X.K ι H d v->Rep X.K ι H d' v->d=d'
 |_,_,_,.non,r=>by cases r;rfl|_,_,_,.bl b,r=>by cases r;rfl|_,_,_,.int i,r=>by cases r;rfl|_,_,_,.str z,r=>by cases r;rfl
 |_,_,_,.tup e1 r1,r=>by
  cases r with
  |tup Z U =>
   rw[e1] at Z;cases Z;rw[Q8 I S r1 U]
  |vl Z n2 U=>rw[e1] at Z;cases Z
  |fz Z U =>
   rcases G6 I Z with⟨o,h⟩|⟨h,_⟩
   .rw[e1] at h;cases h
   .rw[e1] at h;cases h
  |ref Z =>
   obtain⟨u,q,R⟩:=S.mem (au Z);rw[e1] at R;exact R.elim
 |_,_,_,.vl e1 n1 r1,r=>by
  cases r with
  |tup Z U=>rw[e1] at Z;cases Z
  |vl Z n2 U =>
   rw[e1] at Z;cases Z;rw[Q8 I S r1 U]
  |fz Z U =>
   rcases G6 I Z with⟨o,h⟩|⟨h,_⟩
   .rw[e1] at h;cases h
   .rw[e1] at h;cases h
  |ref Z=>exact absurd (au Z) n1.1
 |_,_,_,.fz e1 r1,r=>by
  cases r with
  |tup Z U =>
   rcases G6 I e1 with⟨o,h⟩|⟨h,_⟩
   .rw[Z] at h;cases h
   .rw[Z] at h;cases h
  |vl Z n2 U =>
   rcases G6 I e1 with⟨o,h⟩|⟨h,_⟩
   .rw[Z] at h;cases h
   .rw[Z] at h;cases h
  |fz Z U =>
   have:=a2k I e1 Z;subst this;rw[Q8 I S r1 U]
  |ref Z =>
   obtain⟨u,q,R⟩:=S.mem (au Z);rcases G6 I e1 with⟨o,h⟩|⟨h,_⟩
   .rw[h] at R;exact R.elim
   .rw[h] at q;cases q
 |_,_,_,.ref e1,r=>by
  cases r with
  |tup Z U =>
   obtain⟨u,q,R⟩:=S.mem (au e1);rw[Z] at R;exact R.elim
  |vl Z n2 U=>exact absurd (au e1) n2.1
  |fz Z U =>
   obtain⟨u,q,R⟩:=S.mem (au e1);rcases G6 I Z with⟨o,h⟩|⟨h,_⟩
   .rw[h] at R;exact R.elim
   .rw[h] at q;cases q
  |ref Z =>
   obtain⟨l1,q1⟩:=ak.mp e1;obtain⟨l2,q2⟩:=ak.mp Z;rw[(Ao S.nd).mp (q1.trans q2.symm)]
theorem Q8{U:Zp}{s:Shared}(I:Inv X U σ H s)(S:mz nm X.K ι H M):∀{R Z:List Dv}{vs:List V},lg X.K ι H R vs->lg X.K ι H Z vs->R=Z
 |_,_,_,.nil,r=>by cases r;rfl
 |_,_,_,.cons h t,r=>by
  cases r with
  |cons h2 t2=>rw[ah8 I S h h2,Q8 I S t t2]
end
def Q9(I:Inv X pins σ H s)(S:mz nm X.K ι H M)(hr:Af 6 A)(rd:lg X.K ι H ds vs)(rv:Vals vs is)(rx:Rep X.K ι H x u)(ru:RelV u u')(h:MW.Ly M x ds=some bs):∃e:Value->Bool,(∀w,w∈is.toArray->SeqAt.EqAt A s w u' (e w))/\∀(j:Nat)(w:Value),is[j]?=some w->bs[j]?=some (e w):=by
 obtain⟨g1,g2⟩:=Fo h;have R:∀(j:Nat)(w:Value),is[j]?=some w->∃b,bs[j]?=some b/\SeqAt.EqAt A s w u' b:=λj w U=>by
  have lj:j<ds.length:=by rw[rd.length,rv.length];exact(ak.mp U).1
  have gd:ds[j]?=some ds[j]:=by simp[lj]
  obtain⟨b,e1,e2⟩:=g2 j _ gd;obtain⟨v,a1,a2⟩:=rd.get gd;exact⟨b,e1,W4 I S 6 A _ _ v u w u' b hr a2 rx (Vals.adw rv a1 U) ru e2⟩
 classical
 refine⟨λw=>if U:∃j:Nat,is[j]?=some w then(bs[U.choose]?).getD false else false,λw U=>?_,λj w U=>?_⟩
 .obtain⟨j,hj,e⟩:=uc (by simpa using U:w∈is)
  have Z:∃j:Nat,is[j]?=some w:=⟨j,by simp[hj,e]⟩;obtain⟨b,e1,e2⟩:=R Z.choose w Z.choose_spec;simp only[dif_pos Z,e1,Option.getD_some];exact e2
 .have Z:∃j:Nat,is[j]?=some w:=⟨j,U⟩
  obtain⟨b,e1,e2⟩:=R j w U;obtain⟨b',e3,e4⟩:=R Z.choose w Z.choose_spec;simp only[dif_pos Z,e3,Option.getD_some];rw[e1]
  congr 1
  have lj:j<ds.length:=by rw[rd.length,rv.length];exact(ak.mp U).1
  have lk:Z.choose<ds.length:=by rw[rd.length,rv.length];exact(ak.mp Z.choose_spec).1
  have gd:ds[j]?=some ds[j]:=by simp[lj]
  have gk:ds[Z.choose]?=some ds[Z.choose]:=by simp[lk]
  obtain⟨c1,q1,q2⟩:=g2 j _ gd;obtain⟨c2,q3,q4⟩:=g2 Z.choose _ gk;obtain⟨v1,p1,p2⟩:=rd.get gd;obtain⟨v2,p3,p4⟩:=rd.get gk;have hv:v1=v2:=RelV.inj (Vals.adw rv p1 U) (Vals.adw rv p3 Z.choose_spec);subst hv;rw[e1] at q1;rw[e3] at q3;cases q1;cases q3;have hd:=ah8 I S p2 p4;rw[hd,q4] at q2;exact(ju q2).symm
def Vh{is:Zl}{bs:List Bool}(Z:bs.length=is.length)(h:∀(j:Nat) (w:Value),is[j]?=some w->bs[j]?=some (e w)):bs=is.map e:=by
 apply wy;intro j;rw[iw];cases q:is[j]? with
 |none=>rw[lz (by rw[Z];exact List.getElem?_eq_none_iff.mp q)];rfl|some w=>rw[h j w q];rfl
set_option tactic.hygienic true in
def bf7(hr:Af 8 X.A):De X (compareOp .In) (Xp nm X.K .inn):=λR s σ H v u v' u' Q I rv ru hh=>by
 obtain⟨ι,M,x,y,b,S,rx,ry,e,q⟩:=hh;have e:MW.J7 M x y=some b:=e;have hu:X.A.units+1<cLine:=ac9 hr
 have qq:∀J,MW.Bh M y=some J->MW.memD M x J=some b->wpAny (model X.prog X.w) X.A (compareOp .In v' u') (EP X R σ Q) X.xe s:=λJ Y Z=>by
  obtain⟨bs,U,G⟩:=dg.mp (show(MW.Ly M x J).map (·.any id)=some b from Z);obtain⟨p,vs,rfl,L,r⟩:=Jx S ry Y;cases ru;rcases L with L|L
  .obtain⟨is,r1,pl,_⟩:=I.list (Gz.of L)
   obtain⟨f,g1,g2⟩:=Q9 (A:=X.A.in1) I S ((hr.mono (by decide:7<=8)).in1) r r1 rx rv U;refine SeqAt.in_listAt f pl.isList g1 ?_;have:=Vh (by rw[(Fo U).1,r.length,r1.length]) g2;rw[this] at G;rw[show is.toArray.any f=b by rw[<- G];simp[List.any_map]];exact⟨.bl b,H,I,rfl,q⟩
  .obtain⟨is,r1,pl,_⟩:=I.tuple (Ia.of L)
   obtain⟨f,g1,g2⟩:=Q9 (A:=X.A.in1) I S ((hr.mono (by decide:7<=8)).in1) r r1 rx rv U;refine SeqAt.in_tupleAt f (show s.heap.IsTuple p is.toArray from pl) g1 ?_;have:=Vh (by rw[(Fo U).1,r.length,r1.length]) g2;rw[this] at G;rw[show is.toArray.any f=b by rw[<- G];simp[List.any_map]];exact⟨.bl b,H,I,rfl,q⟩
 cases ry with
 |@ref n p U =>
  simp only[MW.J7] at e;split at e
  .rename_i C hM
   obtain⟨k,G,e3⟩:=dg.mp e;obtain⟨l,Y,Z⟩:=S.obj n _ p hM U;obtain⟨bb,rfl,hb⟩:=Td rx G;cases ru;refine a8j hu I (Ou.t Y hb) rv λs' I'=>⟨.bl b,H,I',?_,q⟩
   rw[<- e3];cases hk:MW.wg C k with
   |none=>rw[(Z.look (k:=k)).2 hk];rfl|some d=>obtain⟨z,h3,_⟩:=(Z.look (k:=k)).1 d hk;rw[h3];rfl
  .rename_i C hM
   obtain⟨k,G,e3⟩:=dg.mp e;obtain⟨l,Y,Z⟩:=S.obj n _ p hM U;have hy:=Tc rx G;subst hy;cases ru;refine a8j hu I (Ou.k Y) rv λs' I'=>⟨.bl b,H,I',?_,q⟩
   rw[<- e3];cases hk:MW.wg C k with
   |none=>rw[(Z.look (k:=k)).2 hk];rfl|some d=>obtain⟨z,h3,_⟩:=(Z.look (k:=k)).1 d hk;rw[h3];rfl
  .obtain⟨J,Y,Z⟩:=dw.mp e
   exact qq J Y Z
 |_ =>
  simp only[MW.J7] at e;obtain⟨J,Y,Z⟩:=dw.mp e;exact qq J Y Z
set_option tactic.hygienic true in
def avl(hr:Af 8 X.A):De X (compareOp .NotIn) (Xp nm X.K .K3):=λqq s σ H v u v' u' Q I rv ru hh=>by
 obtain⟨ι,M,x,y,b0,S,rx,ry,e,q⟩:=hh;obtain⟨b,U,eb⟩:=dg.mp (show(MW.J7 M x y).map not=some b0 from e);subst eb;have hu:X.A.units+1<cLine:=ac9 hr
 have qk:∀J,MW.Bh M y=some J->MW.memD M x J=some b->wpAny (model X.prog X.w) X.A (compareOp .NotIn v' u') (EP X qq σ Q) X.xe s:=λJ Y Z=>by
  obtain⟨bs,C,G⟩:=dg.mp (show(MW.Ly M x J).map (·.any id)=some b from Z);obtain⟨p,vs,rfl,R,r⟩:=Jx S ry Y;cases ru;rcases R with R|R
  .obtain⟨is,r1,pl,_⟩:=I.list (Gz.of R)
   obtain⟨f,g1,g2⟩:=Q9 (A:=X.A.in1) I S ((hr.mono (by decide:7<=8)).in1) r r1 rx rv C;refine SeqAt.notIn_listAt f pl.isList g1 ?_;have:=Vh (by rw[(Fo C).1,r.length,r1.length]) g2;rw[this] at G;rw[show is.toArray.any f=b by rw[<- G];simp[List.any_map]];exact⟨.bl !b,H,I,rfl,q⟩
  .obtain⟨is,r1,pl,_⟩:=I.tuple (Ia.of R)
   obtain⟨f,g1,g2⟩:=Q9 (A:=X.A.in1) I S ((hr.mono (by decide:7<=8)).in1) r r1 rx rv C;refine SeqAt.notIn_tupleAt f (show s.heap.IsTuple p is.toArray from pl) g1 ?_;have:=Vh (by rw[(Fo C).1,r.length,r1.length]) g2;rw[this] at G;rw[show is.toArray.any f=b by rw[<- G];simp[List.any_map]];exact⟨.bl !b,H,I,rfl,q⟩
 cases ry with
 |@ref n p C =>
  clear e;simp only[MW.J7] at U;split at U
  .rename_i L hM
   obtain⟨k,G,e3⟩:=dg.mp U;obtain⟨l,Y,Z⟩:=S.obj n _ p hM C;obtain⟨bb,rfl,hb⟩:=Td rx G;cases ru;refine ahw hu I (Ou.t Y hb) rv λs' I'=>⟨.bl !b,H,I',?_,q⟩
   rw[<- e3];cases hk:MW.wg L k with
   |none=>rw[(Z.look (k:=k)).2 hk];rfl|some d=>obtain⟨z,h3,_⟩:=(Z.look (k:=k)).1 d hk;rw[h3];rfl
  .rename_i L hM
   obtain⟨k,G,e3⟩:=dg.mp U;obtain⟨l,Y,Z⟩:=S.obj n _ p hM C;have hy:=Tc rx G;subst hy;cases ru;refine ahw hu I (Ou.k Y) rv λs' I'=>⟨.bl !b,H,I',?_,q⟩
   rw[<- e3];cases hk:MW.wg L k with
   |none=>rw[(Z.look (k:=k)).2 hk];rfl|some d=>obtain⟨z,h3,_⟩:=(Z.look (k:=k)).1 d hk;rw[h3];rfl
  .obtain⟨J,Y,Z⟩:=dw.mp U
   exact qk J Y Z
 |_ =>
  simp only[MW.J7] at U;obtain⟨J,Y,Z⟩:=dw.mp U;exact qk J Y Z
end
open Ur (Df Rq)
def KH(H:Hp)(x:List Key×Addr):Prop:=H x.2=some (.tup (x.1.map kV))/\∀k∈x.1,∃i,k=.inl i
def ady(P:Program)(w:World)(H:Hp):Ur.Rp (jh P w) (KH H):=λx U k Z v n R=>by
 obtain⟨i,rfl⟩:=U.2 k Z;rcases Aw (show We (Sum.inl i) v=true from R) with⟨j,t,e,rfl⟩|⟨y,t,e,_⟩
 .unfold hashByValue;rfl
 .cases e
def Sv:∀ks:List Kx,MW.J6 (MW.Vw ks)=some ks:=λks=>by
 show MW.Zr (ks.map MW.ajj)=some ks
 induction ks with
 |nil=>rfl|cons k ks Z=>cases k<;>simp[MW.Zr,MW.ajj,MW.Uu,Z]
theorem W5:∀{l:List (List Kx×Dv)},MW.Dt (l.map λp=>MW.Vw p.1)=some (l.map (·.1))
 |[]=>rfl|p::l=>by simp[MW.Dt,Sv,W5]
set_option tactic.hygienic true in
theorem ah9{R:Io}{H:Hp}{K:Fg}:∀{G:List Dv}{J:List V}{Y:List (List Kx)},lg K R H G J->MW.Dt G=some Y->∃bs:List Addr,J=bs.map V.ref/\bs.length=Y.length/\∀x∈Y.zip bs,H x.2=some (.tup (x.1.map kV))
 |_,_,_,.nil,h=>by simp[MW.Dt] at h;subst h;exact⟨[],rfl,rfl,by simp⟩
 |_,_,_,.cons r t,h=>by
  simp only[MW.Dt] at h;split at h
  .rename_i k y L S
   cases h;obtain⟨b,rfl,e⟩:=Td r L;obtain⟨bs,rfl,U,C⟩:=ah9 t S;refine⟨b::bs,rfl,by simp[U],λx Z=>?_⟩;simp only[List.zip_cons_cons,bz] at Z;rcases Z with rfl|Z
   .exact e
   .exact C x Z
  .cases h
def akr(h:MW.Dy Z=true):Z.length<=30/\∀k∈Z,∀x∈k,∃i,x=Sum.inl i:=by
 simp only[MW.Dy,aq,di,jb] at h;refine⟨h.1,λk U x R=>?_⟩;have:=h.2 k U x R;cases x with
 |inl i=>exact⟨i,rfl⟩|inr s=>cases this
set_option tactic.hygienic true in
def aps(hr:Af 8 X.A)(I:Inv X pins σ H s)(S:mz nm X.K ι H M)(rx:Rep X.K ι H x v)(ru:RelV v u)(Y:MW.keysOf M x=some ds)(hd:MW.Dt ds=some J)(pl:MW.Dy J=true)(h:∀p o n Z,Inv X ((p,o)::pins) σ H Z->Df (jh X.prog X.w) (KH H) Z.heap p (λk=>k∈J) n->Z.heap.get? p=some o->Q (.ref p) Z) :
 wpAny (model X.prog X.w) X.A (call (.type "set") [u]) Q X.xe s:=by
 obtain⟨q0,U⟩:=akr pl;have hu:X.A.in1.in1.in1.units+1<cLine:=by have:=hr.un;show X.A.units+1+1+1+1<cLine;lia
 have kept:∀b o,s.heap.get? b=some o->(s.heap.push (Ur.Aq X.w)).get? b=some o:=λb o e=>ao _ e
 have I1:Inv X pins σ H { s with heap:=s.heap.push (Ur.Aq X.w) }:=I.kept (t':=s.toks) kept;have fr:Df (jh X.prog X.w) (KH H) (s.heap.push (Ur.Aq X.w)) s.heap.objs.size (λ_=>False) 0:=Ur.asw (bu _ rfl);have fin:∀(G:Heap)(tk L:Nat),(∀b o,b≠s.heap.objs.size->(s.heap.push (Ur.Aq X.w)).get? b=some o->G.get? b=some o)->Df (jh X.prog X.w) (KH H) G s.heap.objs.size (λk=>k∈J) L->Q (.ref s.heap.objs.size) { s with heap:=G,toks:=tk }:=λG tk L C hS=>by
  have I2:Inv X pins σ H { s with heap:=G,toks:=tk }:=I.kept λb o e=>C b o (gf (az e)) (kept b o e)
  obtain⟨o,es,ep,t,hg,hc,q2,_⟩:=hS.get;refine h _ o L _ (I2.Q0 λq hq=>?_) hS hg;rcases bz.mp hq with rfl|hq
  .refine⟨hg,I.zm.fresh (bc _),vm I.lt,I.az9 (bc _),λv hv=>?_⟩
   rw[show o.data=_ from q2] at hv;cases hv
  .exact I2.pin q (gm _ hq)
 have lst:∀p vs,v=.ref p->H p=some (.lst vs)->lg X.K ι H ds vs->wpAny (model X.prog X.w) X.A (call (.type "set") [u]) Q X.xe s:=λp vs ev hp r=>by
  subst ev;cases ru;obtain⟨is,rv,q3,_⟩:=I1.list (Gz.of hp);obtain⟨bs,rfl,qv,hz⟩:=ah9 r hd;have q1:is=(J.zip bs).map λx=>Value.ref x.2:=by
   apply wy;intro j;rw[iw]
   by_cases hj:j<bs.length
   .have e1:(bs.map V.ref)[j]?=some (.ref bs[j]):=by simp[hj]
    have qq:j<is.length:=by have:=rv.length;simp at this;exact b_ hj (f_ this)
    have e2:is[j]?=some is[j]:=by simp[qq]
    have:=Vals.adw rv e1 e2;rw[e2,show is[j]=Value.ref bs[j] from this];have q7:j<J.length:=b_ hj (f_ qv)
    have q5:(J.zip bs)[j]?=some (J[j],bs[j]):=by rw[dh (by simp;lia)];simp
    rw[q5];rfl
   .have qq:¬j<is.length:=by have:=rv.length;simp at this;exact j_ (a_ (g_ this) (s_ hj))
    rw[lz (s_ qq),lz (by simp;lia)];rfl
  refine Ur.Lx (R:=λZ=>Q (.ref s.heap.objs.size) Z) ?_ λZ h=>h
  refine Ur.amh (ady _ _ H) (ks:=J.zip bs) (items:=is.toArray) (by have:=hr.hd;exact this) hu fr q3.isList (by simpa using q1) (λx y=>Kq I1.zm (hz x y)) (λx y=>⟨hz x y,λk Y=>U x.1 (List.of_mem_zip (a:=x.1) (b:=x.2) y).1 k Y⟩) (by simp;lia) λG tk L C hS=>?_
  refine fin G tk L C (hS.congr λk=>?_);rw[List.map_fst_zip (g_ qv)]
 unfold MW.keysOf at Y;split at Y
 .rename_i n
  split at Y
  .rename_i qk hM
   cases Y;rw[W5] at hd;cases hd;cases rx with
   |@ref n p e1 =>
    obtain⟨l,h1,h2⟩:=S.obj n _ p hM e1;cases ru;obtain⟨_,q4,xs,q6,dd⟩:=Y4 I1.zm h1;obtain⟨k1,k2⟩:=ah7 q6;have k3:xs.map (·.1)=qk.map (·.1):=k1.trans (Qf h2);have hl:xs.length=qk.length:=by have:=nq List.length k3;simpa using this
    refine Ur.Lx (R:=λZ=>Q (.ref s.heap.objs.size) Z) ?_ λZ h=>h
    refine Ur.amf (ady _ _ H) (by have:=hr.un;show X.A.units+1+1<cLine;lia) fr dd q4 (λx y=>⟨k2 x y,λk Y=>?_⟩) (by simp at q0;lia) λG L sb hS=>?_
    .have:x.1∈qk.map (·.1):=by rw[<- k3];exact bh.mpr ⟨x,y,rfl⟩
     exact U x.1 this k Y
    .refine fin G s.toks L (λb o hb e=>(sb.2 b hb).trans e) (hS.congr λk=>?_)
     rw[k3];simp
  .obtain⟨p,vs,e1,e2,r⟩:=ql S rx Y
   exact lst p vs e1 e2 r
 .obtain⟨p,vs,e1,e2,r⟩:=ql S rx Y
  exact lst p vs e1 e2 r
def a9x(hS:Df (jh P w) (KH H) h p T n)(hg:h.get? p=some o)(Z:R.get? p=some o)(le:∀a vs,H a=some (.tup vs)->H' a=some (.tup vs))(ok:Pa P w H' R):Df (jh P w) (KH H') R p T n:=by obtain⟨xs,o',es,ep,t,D,r⟩:=hS;have e:o'=o:=ju (D.get.symm.trans hg);subst e;refine⟨xs,o',es,ep,t,⟨Z,D.exa,D.dat,D.tab,D.ent,λx hx=>?_,D.nod,D.led,D.pla⟩,r⟩;obtain⟨_,U,k2⟩:=D.keys x hx;exact⟨Kq ok (le _ _ U),le _ _ U,k2⟩
def adz:MW.Ig xs ys=true↔∀k,k∈xs↔k∈ys:=by
 simp only[MW.Ig,aq,jb,List.any_eq_true,di];constructor
 .rintro⟨R,h2⟩ k
  exact⟨λh=>by obtain⟨y,Z,e⟩:=R k h;rw[<- e];exact Z,λh=>by obtain⟨y,Z,e⟩:=h2 k h;rw[<- e];exact Z⟩
 .exact λh=>⟨λx U=>⟨x,(h x).mp U,rfl⟩,λy Z=>⟨y,(h y).mpr Z,rfl⟩⟩
set_option tactic.hygienic true in
def avm(hr:Af 8 X.A)(hg:Gl X C)(hm:X.mg C=none)(hv:bootBuiltins C=some (.type "set"))(hn:C≠"__name__")(Ue:(C==("__debug__" : Str))=false)(ha:PA X [a] (Ws nm W X.K (.cons a' .nil)))(hb:PA X [b] (Ws nm W X.K (.cons b' .nil)))(he:starEach [a] X.env=(false,eval a X.env)::starEach [] X.env)(q3:starEach [b] X.env=(false,eval b X.env)::starEach [] X.env)(Hy:(backTo q1 (starEach [] X.env)).any (·.1)=false)(q4:(backTo q2 (starEach [] X.env)).any (·.1)=false) :
 PC X .NotEq (.Call (.Name C p1) [a] [] q1) (.Call (.Name C p2) [b] [] q2) (tE nm W X.K (.Vv a' b')):=by
 intro u s σ H Q I hh;obtain⟨ι,ρ,M,d,M',S,R,e,q⟩:=hh;rw[MW.Yj] at e;obtain⟨x,M1,e1,e⟩:=dz e;cases hk1:(MW.keysOf M1 x).bind MW.Dt with
 |none=>rw[hk1] at e;cases e
 |some ks =>
  rw[hk1] at e;simp only at e;split at e
  .rename_i q7
   obtain⟨y,M2,e2,e⟩:=dz e;cases hk2:(MW.keysOf M2 y).bind MW.Dt with
   |none=>rw[hk2] at e;cases e
   |some ls =>
    rw[hk2] at e;simp only at e;split at e
    .rename_i q5
     cases e;obtain⟨zk,g1,qk⟩:=dw.mp hk1;obtain⟨zv,g2,qq⟩:=dw.mp hk2;refine je (Dk I hg hm hv ?_ hn Ue);refine jk (Bf (ha q1 u s σ H (λU J=>∃Z v,U=[v]/\Le ι H Z J/\mz nm X.K Z J M1/\Rep X.K Z J x v) I ⟨ι,ρ,M,[x],M1,S,R,by simp[e1,Res.bind],λZ J U le S1 r=>?_⟩) λus s1 ⟨U,J,I1,r1,Z,v,L,Ve,S1,rx⟩=>?_) he Hy
     .obtain⟨v,L,rv⟩:=Iu r rfl
      exact⟨Z,v,L,le,S1,rv⟩
     subst L;cases r1 with
     |cons rv rn =>
      cases rn;refine aps hr I1 S1 rx rv g1 qk q7 λp o n s2 I2 hS q8=>?_
      refine je (Dk I2 hg hm hv ?_ hn Ue);refine jk (Bf (hb q2 _ s2 σ J (λU G=>∃Y v,U=[v]/\Le Z J Y G/\mz nm X.K Y G M'/\Rep X.K Y G y v) I2 ⟨Z,ρ,M1,[y],M',S1,R.mono Ve,by simp[e2,Res.bind],λY G U le S2 r=>?_⟩) λus s3 ⟨U,G,I3,r2,Y,v2,ev2,yt,S2,ry⟩=>?_) q3 q4
      .obtain⟨v,L,rv⟩:=Iu r rfl
       exact⟨Y,v,L,le,S2,rv⟩
      subst ev2;cases r2 with
      |cons q6 qv =>
       cases qv;refine aps hr I3 S2 ry q6 g2 qq q5 λp' o' n' s4 I4 Vq zz=>?_
       have hp:s4.heap.get? p=some o:=(I4.pin (p,o) (gm _ (bf _ cz))).1;have q0:=a9x (H':=G) hS q8 hp yt.tup I4.zm;refine Ur.a6q (by have:=hr.un;show X.A.units+1<cLine;lia) (by have:=hr.un;lia) q0 Vq λc hc=>?_
       have ec:c=!MW.Ig ks ls:=by have:=adz (xs:=ks) (ys:=ls);cases c<;>cases h:MW.Ig ks ls<;>simp_all
       refine⟨.bl c,G,(I4.Q0 λz hz=>I4.pin z (gm _ (bf _ (bf _ hz)))),rfl,?_⟩;rw[ec];exact q Y G _ (Ve.trans yt) S2 (.bl _)
    .cases e
  .cases e
theorem lg.dropLast:∀{Z:List Dv}{U:List V},lg K R H Z U->lg K R H Z.dropLast U.dropLast:=by intro A B h;induction A generalizing B with|nil=>cases h;exact .nil|cons d A ih=>cases h with|cons h t=>cases t with|nil=>exact .nil|cons g t=>exact .cons h (ih (.cons g t))
def rM(nm:Nm)(K:Fg)(m:Bm):V->List V->Hp->VK->Prop:=λv vs H Q=>∃U M x ds d M',mz nm K U H M/\Rep K U H x v/\lg K U H ds vs/\MW.Gg m x ds M=.ok d M'/\(∀ts,x=.tup ts->m≠.index) /\
 ∀Z R w,Le U H Z R->mz nm K Z R M'->Rep K Z R d w->Q w R
set_option tactic.hygienic true in
theorem apt{id:String}(hT:∀L H M x v,mz nm X.K L H M->Rep X.K L H x v->MW.Jj m x M=true->tyV X.K T v H)(pa:PlainAttrs T)(Y:Slot T name id)(U:typeOf (.builtin id)=pure (.type "method_descriptor"))(hm:MtR X id (rM nm X.K m))(ho:PE X o (tE nm W X.K o'))(ha:PA X (e::Z) (Ws nm W X.K C))(Wl:attributeBase o name X.env (eval o X.env)=eval o X.env)(qq:((backTo J (starEach (e::Z) X.env)).all (λx=>!x.1)&&(backToKw J (keywordEach [] X.env)).all (λx=>x.1.isSome)
&&decide ((e::Z).length+([]:List Keyword).length+(if([]:List Keyword).isEmpty then 0 else 1)<30))=true)(Wm:(apos.endLine==J.line)=true)(hs:starEach (e::Z) X.env=(false,eval e X.env)::starEach Z X.env)(u:(backTo J (starEach Z X.env)).any (·.1)=false) :
 PE X (.Call (.Attribute o name apos) (e::Z) [] J) (tE nm W X.K (.bm m o' C)) :=
 PE.of (a8p pa Y U hm ho ha Wl qq Wm hs u) fun σ H Q L ρ M d M' S R e q=>by
  rw[MW.amy] at e;obtain⟨x,M1,e1,e⟩:=dz e;split at e
  .rename_i ht
   obtain⟨ds,M2,e2,e⟩:=dz e;exact one S R e1 λG H1 v le S1 R1 r=>⟨hT G H1 M1 x v S1 r ht,G,ρ,M1,ds,M2,S1,R1,e2,λqk H2 vs yt S2 rs=>⟨qk,M2,x,ds,d,M',S2,r.mono yt,rs,e,(λts hx hm=>by subst hx;subst hm;cases ht),λy H' w Vf S' r'=>q y H' w ((le.trans yt).trans Vf) S' r'⟩⟩
  .cases e
def aaw(h:MW.onL o M f=.ok d M'):∃n Z,o=.ref n/\M[n]?=some (.lst Z)/\f n Z=.ok d M':=by
 cases o with
 |ref n =>
  simp only[MW.onL] at h;cases e:M[n]? with
  |none=>rw[e] at h;cases h
  |some o=>cases o with
   |lst Z=>rw[e] at h;exact⟨n,Z,rfl,e,h⟩|_=>rw[e] at h;cases h
 |_=>cases h
def aia(h:MW.onT o M f=.ok d M'):∃n Z,o=.ref n/\M[n]?=some (.dT Z)/\f n Z=.ok d M':=by
 cases o with
 |ref n =>
  simp only[MW.onT] at h;cases e:M[n]? with
  |none=>rw[e] at h;cases h
  |some o=>cases o with
   |dT Z=>rw[e] at h;exact⟨n,Z,rfl,e,h⟩|_=>rw[e] at h;cases h
 |_=>cases h
def avo(h:MW.onK o M f=.ok d M'):∃n Z,o=.ref n/\M[n]?=some (.dK Z)/\f Z=.ok d M':=by
 cases o with
 |ref n =>
  simp only[MW.onK] at h;cases e:M[n]? with
  |none=>rw[e] at h;cases h
  |some o=>cases o with
   |dK Z=>rw[e] at h;exact⟨n,Z,rfl,e,h⟩|_=>rw[e] at h;cases h
 |_=>cases h
def W6{Z:List Dv}(h:MW.Ql Z g=.ok d M'):∃x,Z=[x]/\g x=.ok d M':=by
 match Z,h with
 |[x],h=>exact⟨x,rfl,h⟩|[],h=>cases h|_::_::_,h=>cases h
def aax{c:Prop}[Decidable c]{r:Res α}(h:(if c then r else .bad)=.ok d M'):c/\r=.ok d M':=by
 by_cases z:c
 .rw[cj z] at h;exact⟨z,h⟩
 .rw[bw z] at h;cases h
def ty_list{X:Cx}(S:mz nm X.K U H M)(r:Rep X.K U H x v)(h:(MW.dm M x).isSome=true):tyV X.K "list" v H:=by obtain⟨ds,R⟩:=pq.mp h;obtain⟨p,vs,rfl,Z,_⟩:=ql S r R;exact .inl ⟨rfl,vs,Gz.of Z⟩
def avp(e:MW.Gg .index x ds M=.ok d M'):∃Z U j,ds=[Z]/\MW.Bh M x=some U/\MW.abx M Z U=some j/\d=.int ((j:Nat):Int)/\M'=M:=by obtain⟨Z,rfl,e0⟩:=W6 e;obtain⟨e1,e2⟩:=xx e0;obtain⟨j,R,e4⟩:=dg.mp e1;obtain⟨U,e6,e7⟩:=dw.mp R;exact⟨Z,U,j,rfl,e6,e7,e4.symm,e2⟩
def apu:MtR X "list.append" (rM nm X.K .append):=λZ s σ H v vs u us Q I ru Tf hh=>by
 obtain⟨ι,M,x,ds,d,M',S,r,rs,e,_,q⟩:=hh;obtain⟨n,xs,rfl,hM,e1⟩:=aaw e;obtain⟨d0,rfl,e2⟩:=W6 e1;obtain⟨hl,e3⟩:=aax e2;cases e3;cases r with
 |ref ha =>
  obtain⟨U,h3,R⟩:=S.obj n _ _ hM ha;cases rs with
  |cons hd ht =>
   cases ht;refine Y6 Z s σ H _ _ u us Q I ru Tf ⟨_,U,_,rfl,rfl,h3,by rw[<- R.length];exact Jy hl,?_⟩;obtain⟨S2,yt⟩:=S.put (u:=.lst (U++[_])) (o:=.lst (xs++[_])) hM ha λle=>⟨_,rz,(R.mono le).append (.cons (hd.mono le) .nil)⟩
   exact q _ _ _ yt S2 .non
def apv:MtR X "list.extend" (rM nm X.K .extend):=λU s σ H v vs u us Q I ru Tf hh=>by
 obtain⟨ι,M,x,ds,d,M',S,r,rs,e,_,q⟩:=hh;obtain⟨n,xs,rfl,hM,e1⟩:=aaw e;obtain⟨y,rfl,R⟩:=W6 e1;cases hy:MW.dm M y with
 |none=>rw[hy] at R;cases R
 |some zs =>
  rw[hy] at R;obtain⟨⟨_,hl⟩,e3⟩:=aax R;cases e3;cases r with
  |ref ha =>
   obtain⟨ys,h3,h4⟩:=S.obj n _ _ hM ha;cases rs with
   |cons hd ht =>
    cases ht;obtain⟨b,Z,rfl,h5,h6⟩:=ql S hd hy;refine akg U s σ H _ _ u _ Q I ru Tf ⟨_,b,ys,Z,rfl,rfl,h3,h5,by rw[<- h4.length,<- h6.length];exact t7 (Jy hl),?_⟩;obtain⟨S2,yt⟩:=S.put (u:=.lst (ys++Z)) (o:=.lst (xs++zs)) hM ha λle=>⟨_,rz,(h4.mono le).append (h6.mono le)⟩
    exact q _ _ _ yt S2 .non
def a9z:MtR X "list.pop" (rM nm X.K .pop):=λZ s σ H v vs u us Q I ru Tf hh=>by
 obtain⟨ι,M,x,ds,d,M',S,r,rs,e,_,q⟩:=hh;obtain⟨n,xs,rfl,hM,U⟩:=aaw e;cases rs with
 |cons _ _=>cases U
 |nil =>
  cases hx:xs.getLast? with
  |none=>simp only[hx] at U;cases U
  |some d1 =>
   simp only[hx] at U;cases U;cases r with
   |ref ha =>
    obtain⟨ys,h3,R⟩:=S.obj n _ _ hM ha;rw[List.getLast?_eq_getElem?] at hx;obtain⟨z,h5,h6⟩:=R.get hx;refine a1k Z s σ H _ _ u _ Q I ru Tf ⟨_,ys,z,rfl,rfl,h3,by rw[<- R.length];exact h5,?_⟩;obtain⟨S2,yt⟩:=S.put (u:=.lst ys.dropLast) (o:=.lst xs.dropLast) hM ha λle=>⟨_,rz,(R.mono le).dropLast⟩
    exact q _ _ _ yt S2 (h6.mono yt)
def aay:∀{bs:List Bool}{j:Nat},bs.findIdx? id=some j->bs[j]?=some true/\∀m,m<j->bs[m]?=some false:=fun{bs j} h=>by obtain⟨U,h2,R⟩:=uv.mp h;refine⟨by rw[dh U];simpa using h2,λm Z=>?_⟩;have:=R m Z;rw[dh (d_ Z U)];simpa using this
def avq(hr:Af 8 X.A):MtR X "list.index" (rM nm X.K .index):=λq1 s σ H v vs u us Q I ru Tf hh=>by
 obtain⟨ι,M,x,ds,d,M',S,r,rs,e,nt,q⟩:=hh;obtain⟨d0,xs,j,rfl,e1,e2,rfl,rfl⟩:=avp e;cases rs with
 |cons hd ht =>
  cases ht;cases Tf with
  |cons hu q0 =>
   cases q0;obtain⟨bs,e3,e4⟩:=dw.mp (show(MW.Ly M' d0 xs).bind (·.findIdx? id)=some j from e2);obtain⟨p,ys,rfl,Z,rl⟩:=Jx S r e1;cases ru;rcases Z with Z|Z
   .obtain⟨z,is,n,rv,hl,hg⟩:=I.af5 Z
    obtain⟨f,g1,g2⟩:=Q9 (A:=X.A.in1) I S ((hr.mono (by decide:7<=8)).in1) rl rv hd hu e3;obtain⟨f1,f2⟩:=aay e4;have hb:=(Fo e3).1;have qq:is.length=bs.length:=by rw[hb,rl.length,hl]
    have lj:j<is.length:=by rw[qq];exact(ak.mp f1).1
    have fa:∀m (U:m<is.length),bs[m]?=some (f is[m]):=λm U=>g2 m _ (dh U)
    have hT:s.TypeIs (.ref p) "list" := ⟨_,hg,rfl⟩;have qv:is.length<=sizeLine:=by rw[<- hl];exact z
    rw[o8] at qv;refine call_meetsIn F.slot_list_index hT F.entry_list_index (F.args_list_index_2 _ _) (λA R s h=>SeqAt.list_indexAt p is.toArray n none #[] _ f j (by simpa using lj) (by lia) ?_ ?_ _ _ A R s h) ⟨hg,g1,?_⟩
    .have:=fa j lj;rw[f1] at this;simpa using(ju this).symm
    .intro m U qk
     have U:m<is.length:=by simpa using U
     have:=fa m U;rw[f2 m qk] at this;simpa using(ju this).symm
    .exact⟨.int j,H,I.tok _,⟨_,rfl⟩,q ι H _ (Le.refl _ _) S (.int _)⟩
   .cases r with
    |tup e r=>exact absurd rfl (nt _ rfl)|vl e n r=>rw[Z] at e;cases e|fz e r=>simp[MW.Bh,MW.dm] at e1
    |ref e =>
     obtain⟨u',q',mu⟩:=S.mem (au e);rw[Z] at mu;exact mu.elim
section
variable{prog:Program}{w:World}{A:Around}{E:Y1}{s:Shared}{it d:Addr}{i ep:Nat}{o:Obj}{es:Array DictEntry}{Q:Option Value->Shared->Prop}
def apw{Q:Y1}(Z:s.heap.get? d=some o)(hx:o.ExactDict)(U:o.data=.dict es ep)(R:(d==sysModules)=false)
 (h:Q (.ref s.heap.objs.size) { s with heap:=s.heap.push { cls:=.type "dict_keyiterator",data:=.fields #[.ref d,.int 0 0,.int es.size 0,.int ep 0] } }):wpAny (model prog w) A (pyIter (.ref d)) Q E s:=by
 have T:s.TypeIs (.ref d) "dict" := ⟨o,Z,hx.1⟩;refine wpAny_pyIter_slot T PySem.F.slot_dict_iter (jc PySem.F.slot_dict_iter T PySem.F.entry_dict_iter ?_ (PySem.F.args_dict_iter_1 _));unfold Builtin.«dict.__iter__» Builtin.Dict.dictSlotNone;refine aa (aa (wpAny_notOrdered_dict T ?_));refine aj (?_:wpAny _ _ (Builtin.Dict.showsAll d >>= _) _ _ s);unfold Builtin.Dict.showsAll;rw[R];refine aa (aj (aa (j7 Z U (aa (ug Z U ?_)))));exact aa (qi (aj ⟨_,rfl, "dict_keyiterator",_,⟨_,bu _ rfl,rfl⟩,xr.lookup,h⟩))
def ad0(R:s.heap.IsKeyIter it d i es.size ep)(ho:s.heap.get? d=some o)(hd:o.data=.dict es ep)
 (h1:∀U:i<es.size,∀Z,Z.IsKeyIter it d (i+1) es.size ep->Heap.SameBut it s.heap Z->Q (some es[i].key) { s with heap:=Z })
 (hh:A.handled=none) (h2:es.size<=i->∀Z,Heap.ExtBut it s.heap Z->Q none { s with heap:=Z }):wpAny (model prog w) A (pyNext (.ref it)) Q E s:=by
 have T:=R.typeIs;obtain⟨oi,hi,hc,hf⟩:=id R;unfold pyNext;refine aa (vf (j4 (name:=Str.ofString "__next__") T xr (jc xr T PySem.F.entry_dict_keyiterator_next ?_ (PySem.F.args_dict_keyiterator_next_1 _))));refine aa (aj (aa (aa (aa (xf T (aj (aa (wpAny_fieldsOf hi hf ?_))))))));rw[show Builtin.Dict_items.ownsTuple "dict_keyiterator" = false by decide];show wpAny _ _ (if(Value.ref d==Value.none)=true then _ else _) _ _ s;rw[bw (show ¬((Value.ref d==Value.none)=true) from iu)];refine aa (aj (aa (j7 ho hd ?_)));rw[bw (by simp)];refine aa (aj (aa (ug ho hd ?_)));rw[bw (by simp)];refine aj ?_;rcases xj i es.size with U|U
 .have qq:(s.heap.update it (Obj.mapFields (·.setIfInBounds 1 (rawInt ((i:Int)+1))))).IsKeyIter it d (i+1) es.size ep :=
   ⟨_,jz _ hi (Obj.isFreed_of_fields (Obj.data_mapFields hf _)),(Obj.cls_mapFields ..).trans hc,by rw[Obj.data_mapFields hf];simp[rawInt]⟩
  simp only[show ¬((i:Int)<0) by lia,jd,t8,Array.getElem?_eq_getElem U];refine aa (aa (xf T (aj (aa (wpAny_isOneOf_keyiter T ?_)))));refine(?_:wpAny _ _ (setField (.ref it) 1 (rawInt ((i:Int)+1)) >>= _) _ _ s);refine aa (wpAny_setField hi hf (by simp) (aa (ik (aa (wpAny_isOneOf_keyiter (s:={ s with heap:=_ }) qq.typeIs ?_)))));exact aj (aj ⟨_,rfl,aj (h1 U _ qq (ir ..))⟩)
 .simp only[show ¬((i:Int)<0) by lia,jd,t8,Array.getElem?_eq_none U]
  refine aa (aa (xf T (aj ?_)));refine(?_:wpAny _ _ (setField (.ref it) 0 .none >>= _) _ _ s);refine aa (wpAny_setField hi hf (by simp) ?_);refine Ur.Zo (show A.in1.handled=none from hh) λZ x k z_=>?_
  obtain⟨o,e1,e2⟩:=z_;exact aa (m8 (T := "StopIteration") (b:=true) ⟨o,e1,e2⟩ isSubtype_stop (aj (h2 U _ λb o n z=>k b o ((ir ..).extBut b o n z))))
end
theorem ayk{α R:Type}{F:α->R->Prop}{b:R}:∀{U:List α}{Z:List R}{i:Nat},Paired F U Z->Z[i]?=some b->∃a,U[i]?=some a/\F a b
 |_,_,0,.cons h _,e=>by cases e;exact⟨_,rfl,h⟩|_,_,i+1,.cons _ t,e=>ayk (i:=i) t e
noncomputable def Itk(a:Addr)(o:Obj)(l:List (List Key×V)):It :=
 ⟨λi H=>H a=some (.Hz o (.dT l))/\i<l.length,λi H x Z=>Z=H/\∃p b,l[i]?=some p/\x=.ref b/\H b=some (.tup (p.1.map kV)),λi H=>H a=some (.Hz o (.dT l))/\l.length<=i⟩
theorem aks{P:Program}{w:World}{K:Fg}{tg:Expr}{o:Obj}{es:Array DictEntry}{ep:Nat}{l:List (List Key×V)}(a it:Addr)(hd:o.data=.dict es ep)(hz:es.size=l.length):Turn P w K tg (Itk a o l) [it] it (λi h=>h.IsKeyIter it a i es.size ep) where
 mem:=by simp
 obj:=λi h st b U=>by cases fu.mp U;obtain⟨o,e,c,d⟩:=st;exact⟨o,e,λv z=>by rw[d] at z;cases z⟩
 keep:=λi h h' st k=>st.at λo e=>k it (by simp) o e
 item:=by
  intro X hP hw hK hc i Z s σ H E I hf st hg;subst hP hw hK;obtain⟨e,hl⟩:=hg;obtain⟨ho,_,_,xs,R,o',qv,q0,g1,g2,g3,g4,g5⟩:=(show Ah X.prog X.w H s.heap a (.Hz o (.dT l)) from I.zm a _ e);rw[ho] at g1;cases g1;rw[hd] at g3;cases g3;obtain⟨f0,f1,f2,f3,f4,f5⟩:=hf it (by simp);refine ad0 st ho hd (λqk h' qq sb=>?_) (I.ok.hd hc) (λz=>absurd hl (by lia));have I1:Inv X Z σ H { s with heap:=h' }:=I.turned (t':=s.toks) (λb o U e=>(sb.2 b U).trans e) f0 f1 f3 f4 f5;have hx:xs[i]?=some (xs[i]'(by rw[<- R.length];exact hl)):=dh _;have hk:es[i].key=.ref (xs[i]'(by rw[<- R.length];exact hl)).2.1:=by have:=entry_at g4 i;rw[hx,Array.getElem?_eq_getElem qk] at this;exact nq DictEntry.key (ju this)
  obtain⟨p,hp,q1,q2,q3⟩:=ayk R hx;obtain⟨oi,e1,e2,e3⟩:=id qq;refine⟨_,rfl,ahs (s:={ s with heap:=h' }) e1 e2 e3 (by decide) ⟨.ref _,H,I1,hk,⟨rfl,p,_,hp,rfl,q2⟩,qq,λb U=>(hf b U).1⟩⟩
 done:=by intro X hP hw hK hc i Z s σ H E I hf st hg;subst hP hw hK;obtain⟨e,hl⟩:=hg;obtain⟨ho,_⟩:=(show Ah X.prog X.w H s.heap a (.Hz o (.dT l)) from I.zm a _ e);obtain⟨f0,f1,f2,f3,f4,f5⟩:=hf it (by simp);exact ad0 st ho hd (λz=>absurd hl (by lia)) (I.ok.hd hc) λ_ h' eb=>⟨rfl,I.turned (t':=s.toks) (λb o U e=>eb b o U e) f0 f1 f3 f4 f5⟩
 self:=λ_ _ _ _ _ st h=>wpAny_pyIter_keyiter st h
theorem lg.keys{K:Fg}{Z:Io}{H:Hp}:∀k:List Kx,lg K Z H (k.map MW.ajj) (k.map kV)
 |[]=>.nil|.inl i::k=>.cons (.int i) (lg.keys k)|.inr x::k=>.cons (.str x) (lg.keys k)
theorem o7.keys{K:Fg}{U:Io}{H:Hp}:∀{l:List (List Kx×Dv)}{Z:List (List Key×V)},o7 K U H (λk R=>k=R) l Z->Z.map (·.1)=l.map (·.1)
 |_,_,.nil=>rfl|_,_,.cons k _ t=>by rw[gh,gh,o7.keys t,k]
def a2l{nm:Nm}{W:Gh}{X:Cx}{a tg:Expr}{a':Ex}(ha:PE X a (tE nm W X.K a')):PI X tg a (tI nm W X.K (.keys a')):=by
 intro qq s σ H R I ⟨ι,ρ,M,sc,M',S,Rv,e,q⟩;rw[MW.ab3] at e;obtain⟨x,M1,e1,e⟩:=dz e;refine Bf (ha qq s σ H (λv H1=>∃Z,Le ι H Z H1/\mz nm X.K Z H1 M1/\Rep X.K Z H1 x v) I (one S Rv e1 λZ H1 v le S1 R1 r=>⟨Z,le,S1,r⟩)) λv s1 z_=>?_
 obtain⟨x',H1,I1,r1,Z,le,S1,r⟩:=z_;have fin:∀(p:Addr)(H2:Hp)(o:Obj)(l:List (List Key×V))(U:List (List Kx×Dv)),v=.ref p->H2 p=some (.Hz o (.dT l))->Inv X qq σ H2 s1->Le Z H1 Z H2->mz nm X.K Z H2 M'->o7 X.K Z H2 (λk k'=>k=k') U l->sc=.con (U.map λp=>MW.Vw p.1) ->
  wpAny (model X.prog X.w) X.A (pyIter v) (PIE X qq σ tg R) X.xe s1:=λp H2 o l U hv h2 I2 yt S2 hp hs=>by
  subst hv hs;obtain⟨ho,_,qv,xs,qk,o',es,ep,g1,g2,g3,g4,g5⟩:=(show Ah X.prog X.w H2 s1.heap p (.Hz o (.dT l)) from I2.zm p _ h2);rw[ho] at g1;cases g1;have hz:es.size=l.length:=(size_of_entries g4).trans qk.length.symm;refine apw ho g2 g3 qv ⟨s1.heap.objs.size,[s1.heap.objs.size],_,Itk p o l,H2,rfl,I2.kept (t':=s1.toks) λb o e=>ao _ e,aks p _ g3 hz,⟨_,bu _ rfl,rfl,rfl⟩,λb hb=>?_,q Z H2 _ (le.trans yt) S2 λq0 H3 M3 Wx S3=>⟨λi d hi hd=>?_,λ_=>⟨Wx.Hz _ _ _ h2,?_⟩⟩⟩
  .cases fu.mp hb
   exact I2.aj3 (bc _) (I2.zm.fresh (bc _))
  .have hd:(U.map λp=>MW.Vw p.1)[i]?=some d:=hd
   have hk:=hp.keys;refine⟨⟨Wx.Hz _ _ _ h2,by rw[hp.length.symm];simpa[Src.len] using hi⟩,λv H4 ⟨hH,pp,b,g1,g2,g3⟩=>?_⟩;subst hH g2;have e1:(l.map (·.1))[i]?=some pp.1:=by rw[iw,g1];rfl
   rw[hk,iw] at e1;rw[iw] at hd;obtain⟨y,y1,y2⟩:=dg.mp e1;rw[y1] at hd;cases hd;rw[<- y2] at g3;exact⟨Le.refl _ _,S3,.tup g3 (lg.keys _)⟩
  .rw[<- hp.length];simp[Src.len]
 cases r with
 |@ref n p h1 =>
  have e:MW.ab0 (.ref n) M1=.ok sc M':=e;simp only[MW.ab0] at e;cases hn:M1[n]? with
  |none=>rw[hn] at e;cases e
  |some ob =>
   rw[hn] at e;cases ob with
   |dT U =>
    cases e;obtain⟨l,g1,g2⟩:=S1.obj n _ p hn h1;obtain⟨z,qv,xs,qk,o,es,ep,k1,k2⟩:=(show Ah X.prog X.w H1 s1.heap p (.dT l) from I1.zm p _ g1);obtain⟨S2,yt⟩:=S1.put (u:=.Hz o (.dT l)) (o:=.dF U) hn h1 λle=>⟨l,o,rz,g2.mono le⟩
    refine fin p _ o l U r1 rz ?_ yt S2 (g2.mono yt) rfl;exact I1.write (x:=p) (e:=p) (t':=s1.toks) (by rw[g1];trivial) (.inl rfl) (λ_ _ _ z=>z) ⟨o,k1⟩ ⟨k1,z,qv,xs,KT.keeps qk λc ys ec=>by rw[j9 (Yt ec g1 (λz=>nomatch z))];exact ec,o,es,ep,k1,k2⟩
   |dF U =>
    cases e;obtain⟨l,o,g1,g2⟩:=S1.obj n _ p hn h1;exact fin p _ o l U r1 g1 I1 (Le.refl _ _) S1 g2 rfl
   |_=>cases e
 |_=>cases e
end Sm
namespace Ur
open PySem L2
def SmK(k:List Key):Prop:=∃i j:Int,-1<=i/\i<9/\-1<=j/\j<9/\k=[.inl i,.inl j]
noncomputable def aib(i j:Int):Int:=reduceHash (Builtin.Tuple.tupleHashOf [hashInt i,hashInt j])
noncomputable def rgI:List Int:=[-1,0,1,2,3,4,5,6,7,8]
def apx:(rgI.all λi=>rgI.all λj=>rgI.all λZ=>rgI.all λU=>(aib i j != aib Z U)||(i==Z&&j==U))=true:=by decide+kernel
def aaz(Z:-1<=i)(U:i<9):i∈rgI:=by
 have:i=-1\/i=0\/i=1\/i=2\/i=3\/i=4\/i=5\/i=6\/i=7\/i=8:=by lia
 unfold rgI;simp only[bz,yd,or_false];exact this
def apy{P:Program}(h:SmK k)(h':SmK k')(e:tupleKeyHash (jh P w) k=tupleKeyHash (jh P w) k'):k=k':=by obtain⟨i,j,a1,a2,a3,R,rfl⟩:=h;obtain⟨Z,j',U,b2,b3,b4,rfl⟩:=h';have e:aib i j=aib Z j':=e;have:=jb.mp (jb.mp (jb.mp (jb.mp apx i (aaz a1 a2)) j (aaz a3 R)) Z (aaz U b2)) j' (aaz b3 b4);rw[e] at this;simp at this;rw[this.1,this.2]
def agc(Z:IsTupleKey (jh prog w) s.heap U a)(h:Q false s):wpAny (model prog w) A (Builtin.Dict.quietEq (.ref a)) Q E s:=by
 unfold Builtin.Dict.quietEq;refine aa (wpAny_specialOf Z.typeIs F.slot_tuple_eq.lookup ?_);refine aj ?_;have:(some (Value.builtin "tuple.__eq__")==some (Value.builtin "object.__eq__"))=false:=by decide
 rw[this];exact h
def apz{Z:List (List Key×Addr×Value)}(hn:(Z.map (·.1)).Nodup)(R:∀x∈Z,SmK x.1)(hx:x∈Z) :
 ((Z.map (entryOfKey (tupleKind (jh prog w)))).filter (·.hash==tupleKeyHash (jh prog w) x.1)).length<=1:=by
 induction Z with
 |nil=>simp
 |cons y ys ih =>
  rw[gh,qp] at hn;rw[gh]
  by_cases hy:tupleKeyHash (jh prog w) y.1=tupleKeyHash (jh prog w) x.1
  .have e:=apy (R y cz) (R x hx) hy
   have none:(ys.map (entryOfKey (tupleKind (jh prog w)))).filter (·.hash==tupleKeyHash (jh prog w) x.1)=[]:=by rw[List.filter_eq_nil_iff];intro z hz hq;obtain⟨z',U,rfl⟩:=bh.mp hz;have hq:tupleKeyHash (jh prog w) z'.1=tupleKeyHash (jh prog w) x.1:=eq_of_beq (show(tupleKeyHash (jh prog w) z'.1==tupleKeyHash (jh prog w) x.1)=true from hq);have:=apy (R z' (bf _ U)) (R x hx) hq;exact hn.1 (bh.mpr ⟨z',U,this.trans e.symm⟩)
   rw[List.filter_cons,none];split<;>simp
  .rw[List.filter_cons,bw (by show ¬((tupleKeyHash (jh prog w) y.1==tupleKeyHash (jh prog w) x.1)=true);simpa using hy)]
   rcases bz.mp hx with rfl|hx
   .exact absurd rfl hy
   .exact ih hn.2 (λz hz=>R z (bf _ hz)) hx
def ad1{id:String}{U:List (List Key×Addr×Value)}(ho:s.heap.get? d=some o)(hd:o.data=.dict es ep)(R:es.toList=U.map (entryOfKey (tupleKind (jh prog w))))(hk:∀x∈U,IsTupleKey (jh prog w) s.heap x.1 x.2.1)(hn:(U.map (·.1)).Nodup)(hs:∀x∈U,SmK x.1)(h:Q es s) :
 wpAny (model prog w) A (Builtin.Dict.entriesForEmpty id d) Q E s:=by
 unfold Builtin.Dict.entriesForEmpty;refine aa (j7 ho hd ?_);refine aa ?_;rw[<- Array.forIn_toList];refine qt _ (λZ _ s'=>s'=s/\∀e∈Z,∃x∈U,e=entryOfKey (tupleKind (jh prog w)) x) _ ?_ ?_ _ _ ⟨rfl,λe hm=>?_⟩
 .rintro e Z r s' ⟨rfl,Gb⟩
  obtain⟨x,hx,rfl⟩:=Gb e cz;show wpAny _ _ (Builtin.Dict.quietEq (.ref x.2.1) >>= _) _ _ _;refine aa (agc (hk x hx) ?_);simp only[yu,j5];have h1:=apz (prog:=prog) (w:=w) hn hs hx;rw[bw (by
   intro hc;have:(es.filter (·.hash==(entryOfKey (tupleKind (jh prog w)) x).hash)).size=((U.map (entryOfKey (tupleKind (jh prog w)))).filter (·.hash==tupleKeyHash (jh prog w) x.1)).length:=by rw[<- R,<- u5,Array.toList_filter];rfl
   exact l_ hc (a_ (f_ this) h1))]
  exact aj ⟨rfl,λe R=>Gb e (bf _ R)⟩
 .rintro b s' ⟨rfl,_⟩
  exact aj h
 .rw[R] at hm
  obtain⟨x,hx,rfl⟩:=bh.mp hm;exact⟨x,hx,rfl⟩
def a91{prog:Program}{w:World}{h Z:Heap}{U:List Key}{p a:Addr}(x:IsTupleKey (jh prog w) h U p)(R:∀b o,h.get? b=some o->Z.get? b=some o):IsTupleKey (jh prog w) Z U p :=
 let ⟨o,items,n,ho,r⟩:=x;⟨o,items,n,R p o ho,r⟩
def avr{prog:Program}{w:World}{A:Around}{E:Y1}{s:Shared}{d:Addr}{Q:Unit->Shared->Prop}{R:List (List Key×Addr×Value)}(hu:(tupleKind (jh prog w)).room A)(hk:IsTupleKey (jh prog w) s.heap k a)(hm:s.heap.DictOfH (tupleKind (jh prog w)) d R)(hn:k∉R.map (·.1))(hz:R.length<=sizeLine)
 (h:∀h',h'.DictOfH (tupleKind (jh prog w)) d (R++[(k,a,v)])->Heap.SameBut d s.heap h'->Q () { s with heap:=h' }) :
 wpAny (model prog w) A (dictSetHashed d (.ref a) (tupleKeyHash (jh prog w) k) v) Q E s:=by
 obtain⟨ob,es,ep,ho,hc,U,he,hi,nd⟩:=hm;unfold dictSetHashed;refine ik (aa (wpAny_dictFind_heap (knd:=tupleKind (jh prog w)) hu hk ho U he hi nd ?_ ?_))
 .intro _
  have sm:Heap.SameBut d s.heap (s.heap.update d (Obj.mapDictKeys λl=>l.push ⟨tupleKeyHash (jh prog w) k,.ref a,v⟩)):=ir ..;refine aa (wpAny_rule (wpAny_updateDictKeys (hz:=a_ (f_ (size_of_entries he)) hz) ho U (h _ ⟨_,_,ep+1,jz _ ho (Obj.isFreed_of_dict (yg U _)),hc.mapDictKeys _,yg U _,?_,λx Z=>?_,?_⟩ (ir ..))))
  .simp[he,entryOfKey];rfl
  .refine(tupleKind (jh prog w)).keeps ?_ ho U sm
   rcases bx.mp Z with Z|Z
   .exact hi x Z
   .rw[fu.mp Z];exact hk
  .rw[kj,m9]
   exact⟨nd,by simp,λx Z y hy e=>hn (by rw[show y=k by simpa using hy] at e;exact e▸Z)⟩
 .intro j p hj
  exact absurd (bh.mpr ⟨_,au hj,rfl⟩) hn
set_option tactic.hygienic true in
def ad2{prog:Program}{w:World}{A:Around}{E:Y1}{s:Shared}{d o:Addr}{Q:Fin->Shared->Prop}{xs Z:List (List Key×Addr×Value)}{q3:String}(hu:xs≠[]->A.units<cLine)(u:d≠o)(hs:(o==sysModules)=false)(hd:s.heap.DictOfH (tupleKind (jh prog w)) d xs)(ho:s.heap.DictOfH (tupleKind (jh prog w)) o Z)(hk:∀x∈Z,SmK x.1)(hj:∀y∈Z,y.1∉xs.map (·.1))(hz:xs.length+Z.length<=sizeLine)
 (h:∀Y,Y.DictOfH (tupleKind (jh prog w)) d (xs++Z)->Heap.SameBut d s.heap Y->Q (.done (.ret .none)) { s with heap:=Y }) :
 wpAny (model prog w) A (Builtin.Dict.updateFrom q3 d (.ref o) [] .none) Q E s:=by
 have S:=ho.typeIs;obtain⟨oo,eo,po,J,q5,G,L,qq,R⟩:=id ho;obtain⟨od,ed,pd,C,q4,U,q0,hid,q6⟩:=id hd;have zo:=size_of_entries L;have zd:=size_of_entries q0;have fin:∀Y,Y.DictOfH (tupleKind (jh prog w)) d (xs++Z)->Heap.SameBut d s.heap Y->wpAny (model prog w) A (Builtin.Dict.addKeywords d [] >>= λ_=>ret Value.none) Q E { s with heap:=Y }:=λY h1 h2 =>
  aa (aj (aj (h Y h1 h2)))
 unfold Builtin.Dict.updateFrom;refine aa (ur S ?_);rw[bw (by decide)];refine aa ?_;unfold Builtin.Dict.merge;refine aa ?_;unfold Builtin.Dict.readDirectly;refine aa (m8 S isSubtype_dict_dict ?_);simp only[qw,cu,jd];refine aa (wpAny_specialOf S F.slot_dict_iter.lookup (aj ?_));simp only[zj,j5];refine aa (aj ?_);unfold Builtin.Dict.mergeDict;rw[bw (by simpa using u)];unfold Builtin.Dict.showsAll;rw[bw (by rw[hs];exact iu)];refine aa (aj ?_);refine aa (j7 J G ?_);dsimp only
 by_cases hy:Z=[]
 .subst hy
  have e0:eo=#[]:=Array.eq_empty_of_size_eq_zero zo;subst e0;rw[bw (by simp)];refine aa (ug J G (aa (j7 J G (aa ?_))));refine upto (λ_ _ z=>z=s) (λi b z hi=>absurd hi (u9 _)) (λb z hz=>?_) rfl;subst hz;exact aj (fin _ (by rw[Ab];exact hd) (w6 ..))
 .have hf:(eo.all λe=>(keyPart e.key).isSome)=false:=by
   obtain⟨y,Z,rfl⟩:=List.exists_cons_of_ne_nil hy;rw[<- Array.all_toList,L,gh,List.all_cons];rfl
  rw[cj (by rw[hf,Bool.and_false];rfl)];refine aa (j7 C U ?_)
  by_cases hx:xs=[]
  .subst hx
   have e0:ed=#[]:=Array.eq_empty_of_size_eq_zero zd;subst e0;rw[cj (show(#[]:Array DictEntry).isEmpty=true from rfl)];refine aa (ad1 J G L qq R hk ?_);rw[cj (by
    rw[Bool.not_eq_true',Bool.eq_false_iff];intro z;have:=Array.isEmpty_iff.mp z;rw[this] at zo;exact hy (wz.mp zo.symm))]
   have sm:Heap.SameBut d s.heap (s.heap.update d (Obj.mapDictKeys λ_=>eo)):=ir ..;refine aa (wpAny_updateDictKeysTo C U (aj (fin _ ⟨_,eo,pd+1,jz _ C (Obj.isFreed_of_dict (yg U _)),q4.mapDictKeys _,yg U _,L,λx hx=>(tupleKind (jh prog w)).keeps (qq x hx) C U sm,R⟩ sm)) (by rw[zo];exact a_ (a_ y_ hz) x_))
  .rw[bw (by
    intro z;have:=Array.isEmpty_iff.mp z;rw[this] at zd;exact hx (wz.mp zd.symm))]
   refine aa (ug J G (aa (j7 J G (aa ?_))));refine upto (λi _ z=>∃Y,z={ s with heap:=Y }/\Y.DictOfH (tupleKind (jh prog w)) d (xs++Z.take i)/\Heap.SameBut d s.heap Y) (λi b z hi hJ=>?_) (λb z hJ=>?_) ⟨s.heap,rfl,by simpa using hd,w6 ..⟩
   .obtain⟨Y,rfl,hD,sb⟩:=hJ
    have qk:Y.get? o=some oo:=(sb.2 o (ji u)).trans J;have hl:i<Z.length:=zo▸hi
    have ei:eo[i]?=some (entryOfKey (tupleKind (jh prog w)) Z[i]):=by rw[entry_at L i,dh hl];rfl
    refine aa (j7 (s:={ s with heap:=Y }) qk G ?_);rw[ei];have tk:Z.take (i+1)=Z.take i++[Z[i]]:=by rw[List.take_succ,dh hl];rfl
    have q1:Z[i].1∉(xs++Z.take i).map (·.1):=by
     rw[kj,bx];rintro(z|z)
     .exact hj _ (p8 hl) z
     .have q:=R
      rw[<- List.take_append_drop (i+1) Z,tk,j6,kj,m9] at q;exact q.2.2 _ z Z[i].1 (bh.mpr ⟨Z[i],ig _ (fu.mpr rfl),rfl⟩) rfl
    refine aa (ik (avr (s:={ s with heap:=Y }) (hu hx) ((tupleKind (jh prog w)).keeps (qq _ (p8 hl)) C U sb) hD q1 (by rw[ph,zg];lia) λh2 q2 qv=>?_))
    .refine aa (ug (s:={ s with heap:=h2 }) ((qv.2 o (ji u)).trans qk) G ?_)
     rw[bw (by simp)];refine aj ⟨h2,rfl,?_,sb.trans qv⟩;rw[tk,<- j6];exact q2
   .obtain⟨Y,rfl,hD,sb⟩:=hJ
    rw[zo,ye] at hD;exact aj (fin Y hD sb)
set_option tactic.hygienic true in
def a94(y:(d==sysModules)=false)(hd:s.heap.DictOfH (tupleKind (jh prog w)) d U)(hs:∀x∈U,SmK x.1)(C:U.length<=sizeLine)(h:∀G,G.DictOfH (tupleKind (jh prog w)) s.heap.objs.size U->(∀b o,s.heap.get? b=some o->G.get? b=some o)->Q (.ref s.heap.objs.size) { s with heap:=G }) :
 wpAny (model prog w) A (call (.type "dict") [.ref d]) Q E s:=by
 refine callType_codes (Q₁:=λobj Z=>obj=.ref s.heap.objs.size/\Z={ s with heap:=s.heap.push { cls:=.type "dict",data:=.dict #[] } }) F.kt_called_dict (F.kt_typeCall_dict_1 _) F.entry_dict_init (kt_code_dict_new _ ⟨rfl,rfl⟩) ?_;rintro obj Z ⟨rfl,rfl⟩;have S:(s.heap.push { cls:=.type "dict",data:=.dict #[] }).get? s.heap.objs.size=some { cls:=.type "dict",data:=.dict #[] }:=bu _ rfl;have Y:Shared.TypeIs { s with heap:=s.heap.push { cls:=.type "dict",data:=.dict #[] } } (.ref s.heap.objs.size) "dict" := ⟨_,S,rfl⟩;have keep:∀b o,s.heap.get? b=some o->(s.heap.push { cls:=.type "dict",data:=.dict #[] }).get? b=some o:=λb o e=>ao _ e
 obtain⟨od,es,ep,J,u,L,he,hx,nd⟩:=hd;refine⟨Y,F.args_dict_init_2 _ _,?_⟩;unfold Builtin.«dict.__init__»;refine aa ?_;unfold Builtin.Dict.selfAndRest;refine aa (wpAny_notOrdered_dict Y ?_);refine aj (ad2 (s:={ s with heap:=s.heap.push { cls:=.type "dict",data:=.dict #[] } }) (xs:=[]) (λz=>absurd rfl z) (λe=>absurd (az J) (by rw[<- e];exact lq _)) y (Heap.DictOfH.new s.heap) ⟨od,es,ep,keep _ _ J,u,L,he,λx R=>a91 (a:=d) (hx x R) keep,nd⟩ hs (λ_ _ z=>by cases z) (by rw[List.length_nil,uw];exact C) λG h1 h2=>⟨rfl,h G h1 λb o e=>(h2.2 b (gf (az e))).trans (keep b o e)⟩)
def ad4{prog:Program}{w:World}{A:Around}{E:Y1}{s:Shared}{d o:Addr}{Q:Y1}{R Z:List (List Key×Addr×Value)}(hu:A.units+8<cLine)(qq:d≠o)(hs:(o==sysModules)=false)(hd:s.heap.DictOfH (tupleKind (jh prog w)) d R)(ho:s.heap.DictOfH (tupleKind (jh prog w)) o Z)(hk:∀x∈Z,SmK x.1)(hj:∀y∈Z,y.1∉R.map (·.1))(hz:R.length+Z.length<=sizeLine)
 (h:∀U,U.DictOfH (tupleKind (jh prog w)) d (R++Z)->Heap.SameBut d s.heap U->Q .none { s with heap:=U }) :
 wpAny (model prog w) A (call (.builtin "dict.update") [.ref d,.ref o]) Q E s:=by
 refine jc PySem.F.slot_dict_update hd.typeIs PySem.F.entry_dict_update ?_ (PySem.F.args_dict_update_2 _ _);unfold Builtin.«dict.update»;refine aa ?_;unfold Builtin.Dict.selfAndRest;refine aa (wpAny_notOrdered_dict hd.typeIs ?_);exact aj (ad2 (λ_=>by show A.units+1<cLine;lia) qq hs hd ho hk hj hz λU a b=>⟨_,rfl,h U a b⟩)
end Ur
namespace Sm
open PySem L2
open MW (Ex Cz OEx Lj Bp o6 Lv Tg Res cg MO Gh Cp Op2 Blt Bm Kx Src)
set_option tactic.hygienic true in
def aic(h:MW.Xw l=true):∀k∈l.map (·.1),Ur.SmK k:=λk Z=>by
 obtain⟨p,Y,rfl⟩:=bh.mp Z;simp only[MW.Xw,jb] at h;have:=h p Y;split at this
 .rename_i i j e
  simp only[aq,di] at this;exact⟨i,j,this.1.1.1,this.1.1.2,this.1.2,this.2,e⟩
 .cases this
def a2n{X:Cx}(S:mz nm X.K Z H M)(U:H p=none)(r:o7 X.K Z H (λk R=>k=R) kvs l) :
 mz nm X.K (Z.add p) (upd H p (.dT l)) (M++[.dT kvs])/\Le Z H (Z.add p) (upd H p (.dT l))/\Rep X.K (Z.add p) (upd H p (.dT l)) (.ref M.length) (.ref p):=by
 obtain⟨S1,le⟩:=S.new (H':=upd H p (.dT l)) (o:=.dT kvs) U (λa u e=>by rw[j9 (kh e U)];exact e) λle=>⟨l,rz,r.mono le⟩
 exact⟨S1,le,.ref (by show(Z.l++[p])[M.length]?=some p;rw[<- S.len];simp)⟩
def a2o{X:Cx}(S:mz nm X.K Z H M)(U:H p=none)(r:o7 X.K Z H (λk R=>k=R) kvs l) :
 mz nm X.K (Z.add p) (upd H p (.dK l)) (M++[.dK kvs])/\Le Z H (Z.add p) (upd H p (.dK l))/\Rep X.K (Z.add p) (upd H p (.dK l)) (.ref M.length) (.ref p):=by
 obtain⟨S1,le⟩:=S.new (H':=upd H p (.dK l)) (o:=.dK kvs) U (λa u e=>by rw[j9 (kh e U)];exact e) λle=>⟨l,rz,r.mono le⟩
 exact⟨S1,le,.ref (by show(Z.l++[p])[M.length]?=some p;rw[<- S.len];simp)⟩
set_option tactic.hygienic true in
def a2p:Cy X (.type "dict") (rB nm X.K .dict):=λqk s σ H vs us Q I Tf hh=>by
 obtain⟨ι,M,ds,d,M',S,r,e,q⟩:=hh;cases r with
 |nil=>simp[MW.vz] at e
 |@cons x v _ _ h t =>
  cases t with
  |cons Y t2=>cases x<;>simp[MW.vz] at e
  |nil =>
   cases Tf with
   |cons ru rn =>
    cases rn;cases h with
    |@ref n p hp =>
     cases ru;have e:(match M[n]? with|some (.dT Z)=>if MW.Xw Z then MW.new (.dT Z) M else .bad|some (.dK Z)=>MW.new (.dK Z) M|_=>.bad)=.ok d M':=e;split at e
     .rename_i Z C
      split at e
      .rename_i hs
       cases e;obtain⟨l,L,Y⟩:=S.obj n _ p C hp;obtain⟨z,qq,xs,G,dd⟩:=Y4 I.zm L;obtain⟨k1,k2⟩:=ah7 G;have hl:xs.length=l.length:=by have:=nq List.length k1;simpa using this
       refine Ur.a94 qq dd (λx hx=>?_) (by rw[hl];exact z) λh' R keep=>?_
       .refine aic hs x.1 ?_
        rw[<- Qf Y,<- k1];exact bh.mpr ⟨x,hx,rfl⟩
       .have hf:H s.heap.objs.size=none:=I.zm.fresh (bc _)
        obtain⟨J,U,u⟩:=a2n (X:=X) S hf Y;refine⟨.ref s.heap.objs.size,upd H s.heap.objs.size (.dT l),I.laid (a:=s.heap.objs.size) (o:=.dT l) (t':=s.toks) keep (bc _) ?_,rfl,q _ _ _ U J u⟩;obtain⟨o,es,ep,g1,g2,g3,g4,g5,g6⟩:=R;exact⟨z,qu.mpr (ji (gf I.big)),xs,G.keeps (λb ys e=>by rw[j9 (kh e hf)];exact e),o,es,ep,g1,g2,g3,g4,g6⟩
      .cases e
     .rename_i Z C
      cases e;obtain⟨l,L,Y⟩:=S.obj n _ p C hp;refine ao0 I (.inl L) λp' s' y I'=>?_
      obtain⟨J,U,u⟩:=a2o (X:=X) S y Y;exact⟨.ref p',_,I',rfl,q _ _ _ U J u⟩
     .cases e
    |_=>cases e
set_option tactic.hygienic true in
theorem ints_rep{S:Io}{H:Hp}{K:Fg}:∀{G:List Dv}{U:List V}{is:Zl}{J:Xs},lg K S H G U->Vals U is->MW.Vx G=some J->∃Z:Array (Int×Tok),is.toArray=intItems Z/\Z.toList.map (·.1)=J
 |_,_,_,_,.nil,.nil,h=>by cases h;exact⟨#[],by simp[intItems],rfl⟩
 |_,_,_,_,.cons r t,.cons rv tv,h=>by
  cases r<;>simp only[MW.Vx] at h<;>try cases h
  rename_i i;obtain⟨y,C,R⟩:=dg.mp h;obtain⟨Z,u,L⟩:=ints_rep t tv C;obtain⟨tk,rfl⟩:=rv;refine⟨#[(i,tk)]++Z,?_,by simp[L,R]⟩;have Y:=nq Array.toList u;apply Array.toList_inj.mp;simp[intItems] at Y ⊢;exact Y
theorem ad5:∀(l:Xs)(z m:Int),(m=z\/m∈l)->z<=m->(∀a∈l,a<=m)->l.foldl (λm x=>if m<x then x else m) z=m
 |[],z,m,h,_,_=>by rcases h with h|h;exact h.symm;cases h
 |a::l,z,m,h,hz,Gb=>by
  rw[Ad];have R:=Gb a cz;refine ad5 l _ m ?_ (by split<;>lia) (λb U=>Gb b (bf _ U));rcases h with h|h
  .subst h;left;split<;>lia
  .rcases bz.mp h with h|h
   .subst h
    by_cases Z:z<m
    .left;rw[cj Z]
    .left;rw[bw Z];lia
   .exact .inr h
theorem ad6:∀(l:Xs)(z m:Int),(m=z\/m∈l)->m<=z->(∀a∈l,m<=a)->l.foldl (λm x=>if x<m then x else m) z=m
 |[],z,m,h,_,_=>by rcases h with h|h;exact h.symm;cases h
 |a::l,z,m,h,hz,Gb=>by
  rw[Ad];have R:=Gb a cz;refine ad6 l _ m ?_ (by split<;>lia) (λb U=>Gb b (bf _ U));rcases h with h|h
  .subst h;left;split<;>lia
  .rcases bz.mp h with h|h
   .subst h
    by_cases Z:m<z
    .left;rw[cj Z]
    .left;rw[bw Z];lia
   .exact .inr h
def aid(e:MW.two ds f g M=.ok d Z):Z=M/\((∃i j,ds=[.int i,.int j]/\d=.int (f i j))\/∃x m,ds=[x]/\g x=some m/\d=.int m):=by
 cases ds with
 |nil=>cases e
 |cons x r=>cases r with
  |nil =>
   obtain⟨R,e2⟩:=xx (show Res.uz ((g x).map MW.D.int) M=.ok d Z from e);obtain⟨m,U,e4⟩:=dg.mp R;exact⟨e2,.inr ⟨x,m,rfl,U,e4.symm⟩⟩
  |cons y r=>cases r with
   |nil =>
    cases x<;>try cases e
    cases y<;>cases e;exact⟨rfl,.inl ⟨_,_,rfl,rfl⟩⟩
   |cons _ _=>cases e
def Zd{h:List Int->Option Int}(e:((MW.dm M x).bind MW.Vx).bind h=some m):∃Z U,MW.dm M x=some Z/\MW.Vx Z=some U/\h U=some m:=by obtain⟨U,R,e6⟩:=dw.mp e;obtain⟨Z,e7,e8⟩:=dw.mp R;exact⟨Z,U,e7,e8,e6⟩
def avs(e:MW.vz .max ds M=.ok d M'):M'=M/\((∃i j,ds=[.int i,.int j]/\d=.int (if i<j then j else i))\/∃x Z U m,ds=[x]/\MW.dm M x=some Z/\MW.Vx Z=some U/\MW.azf U=some m/\d=.int m):=by
 obtain⟨h,h2|⟨x,m,h3,h4,h5⟩⟩:=aid e
 .exact⟨h,.inl h2⟩
 .obtain⟨Z,U,g1,R,g3⟩:=Zd h4
  exact⟨h,.inr ⟨x,Z,U,m,h3,g1,R,g3,h5⟩⟩
def avt(e:MW.vz .min ds M=.ok d M'):M'=M/\((∃i j,ds=[.int i,.int j]/\d=.int (if j<i then j else i))\/∃x Z U m,ds=[x]/\MW.dm M x=some Z/\MW.Vx Z=some U/\MW.a6z U=some m/\d=.int m):=by
 obtain⟨h,h2|⟨x,m,h3,h4,h5⟩⟩:=aid e
 .exact⟨h,.inl h2⟩
 .obtain⟨Z,U,g1,R,g3⟩:=Zd h4
  exact⟨h,.inr ⟨x,Z,U,m,h3,g1,R,g3,h5⟩⟩
def Th(h:Vals [v] Z):∃u,Z=[u]/\RelV v u:=L2.Vals.one h
def Ol(h:i<Z.size):(Z.toList.map (·.1))[i]?=some (numAt Z i):=by simp[numAt,h]
def a95(hc:X.calm=true):Cy X (.builtin "max") (rB nm X.K .max):=λR s σ H vs us Q I Tf hh=>by
 obtain⟨ι,M,ds,d,M',S,r,e,q⟩:=hh;obtain⟨rfl,⟨i,j,rfl,rfl⟩|⟨x,xs,ns,m,rfl,e1,e2,U,rfl⟩⟩:=avs e
 .cases r with
  |cons h1 t1 =>
   cases t1 with
   |cons h2 t2 =>
    cases t2;cases h1;cases h2;refine aj7 hc R s σ H _ us Q I Tf ⟨i,j,rfl,?_⟩;have:=q ι H _ (Le.refl _ _) S (.int (if i<j then j else i));exact this
 .obtain⟨v,rfl,rv⟩:=Iu r rfl
  obtain⟨u,rfl,ru⟩:=Th Tf;obtain⟨p,ws,rfl,hp,rl⟩:=ql S rv e1;cases ru;obtain⟨is,qq,pl,_⟩:=I.list (Gz.of hp);obtain⟨Z,g1,g2⟩:=ints_rep rl qq e2;have Xn:0<Z.size:=by
   cases ns with
   |nil=>cases U|cons n ns=>have:=nq List.length g2;simp at this;lia
  refine max_intList (I.ok.hd hc) (by rw[<- g1];exact pl.isList) Xn λw h' tk hw keep=>?_
  obtain⟨t,rfl⟩:=intItems_at hw;obtain⟨b1,b2⟩:=argBest_gt (numAt Z) (Z.size-1);have hm:m=numAt Z (argBest (λi j=>decide (numAt Z i > numAt Z j)) (Z.size-1)):=by
   cases hns:ns with
   |nil=>rw[hns] at U;cases U
   |cons n ns' =>
    rw[hns] at U;cases U;have mem:∀i,i<Z.size->numAt Z i∈n::ns':=λi hi=>by rw[<- hns,<- g2];exact au (Ol hi)
    have le:∀a∈n::ns',a<=numAt Z (argBest (λi j=>decide (numAt Z i > numAt Z j)) (Z.size-1)):=λa ha=>by
     rw[<- hns,<- g2] at ha;obtain⟨i,hi⟩:=mj.mp ha;have li:i<Z.size:=by have:=(ak.mp hi).1;simpa using this
     rw[Ol li] at hi;cases hi;exact b2 i (by lia)
    exact ad5 ns' n _ (bz.mp (mem _ (by omega))) (le n cz) (λa ha=>le a (bf _ ha))
  subst hm;exact⟨.int _,H,I.kept keep,⟨t,rfl⟩,q ι H _ (Le.refl _ _) S (.int _)⟩
def ad7(n d:Nat)(o:Option Int):HT.sIx n d o=MW.clip n d o:=by
 cases o with
 |none=>rfl
 |some i =>
  show(if i<0 then(i+(n:Int)).toNat else min i.toNat n)=(if 0<=i then min i.toNat n else(i+(n:Int)).toNat)
  by_cases h:i<0
  .rw[cj h,bw (by lia)]
  .rw[bw h,cj (by lia)]
def tO(nm:Nm)(W:Gh)(K:Fg)(o:OEx):TO:=fun σ H Q=>∃U ρ M d M',mz nm K U H M/\u0 K U H ρ σ/\o.den W ρ M=.ok d M'/\∀Z R,Le U H Z R->mz nm K Z R M'->Q d R
def PO.weak(h:PO X e t)(w:∀U H Q,t' U H Q->t U H Q):PO X e t':=λZ s U H Q I q=>h Z s U H Q I (w U H Q q)
def PO.of(h:PO X e t)(w:∀σ H Q Z ρ M d M',mz nm X.K Z H M->u0 X.K Z H ρ σ->o'.den W ρ M=.ok d M'->(∀U H',Le Z H U H'->mz nm X.K U H' M'->Q d H')->t σ H Q):PO X e (tO nm W X.K o'):=PO.weak h fun σ H Q z_=>by obtain⟨Z,ρ,M,d,M',S,R,e,q⟩:=z_;exact w σ H Q Z ρ M d M' S R e q
def avu:PO X none (tO nm W X.K .none):=PO.of au1 fun σ H Q Z ρ M d U S R e q=>by rw[MW.ajn] at e;cases e;exact q Z H (Le.refl _ _) S
set_option tactic.hygienic true in
def avv(G:PE X a (tE nm W X.K C)):PO X (some a) (tO nm W X.K (.some C)):=PO.of (au2 G) fun σ H Q y ρ M d M' S R e q=>by rw[MW.ajo] at e;obtain⟨x,u,J,e⟩:=dz e;split at e<;>cases e;rename_i i;exact one S R J λZ U v le Y L r=>by cases r;exact⟨i,rfl,q Z U le Y⟩
set_option tactic.hygienic true in
def a96(ha:PE X a (tE nm W X.K a'))(hl:PO X lo (tO nm W X.K qk))(hh:PO X hi (tO nm W X.K Y)):PE X (.Subscript a (.Slice lo hi none p2) pos) (tE nm W X.K (.cut a' qk Y)) :=
 PE.of (ao1 au4 ha hl hh) fun σ H Q ι ρ M d M' S R e q=>by
  rw[MW.ath] at e;obtain⟨x,M1,e1,e⟩:=dz e;obtain⟨l,M2,e2,e⟩:=dz e;obtain⟨h,M3,e3,e⟩:=dz e;obtain⟨e4,e5⟩:=xx e;subst e5;refine one S R e1 λG H1 v le S1 R1 r=>⟨G,ρ,M1,l,M2,S1,R1,e2,λqq H2 J S2=>⟨qq,ρ,M2,h,_,S2,R1.mono J,e3,λL H3 Wx S3=>?_⟩⟩
  have r3:=(r.mono J).mono Wx;have fin:=λU H' w Vf S' r'=>q U H' w (((le.trans J).trans Wx).trans Vf) S' r'
  have lst:∀Z,MW.dm M' x=some Z->d=.vl (MW.afb Z l h)->a8o X.K v l h H3 Q:=λZ y ed=>by
   obtain⟨p,vs,rfl,hp,rl⟩:=ql S3 r3 y;refine⟨p,vs,rfl,Gz.of hp,λp' C=>?_⟩;have:lg X.K L H3 (MW.afb Z l h) (akf vs l h):=by unfold MW.afb akf;rw[ad7,ad7,<- rl.length];exact(rl.drop _).take _
   obtain⟨S4,u,r4⟩:=Wu (X:=X) S3 C this;subst ed;exact fin _ _ _ u S4 r4
  obtain⟨Z,y,ed⟩:=dg.mp (show(MW.dm M' x).map (λZ=>MW.D.vl (MW.afb Z l h))=some d from e4);exact lst Z y ed.symm
def ap0(K:Fg)(T:String):PySem.W.kitOne K (.type T) (.type T)=some true:=by unfold PySem.W.kitOne;rw[cj (by simp)]
def a97(hg:Gl X n)(hm:X.mg n=none)(hv:bootBuiltins n=some (.builtin "isinstance"))(hn:n≠"__name__")(Ue:(n==("__debug__" : Str))=false)(q1:Gl X U)(q0:X.mg U=none)(qk:bootBuiltins U=some (.type "list"))(Yh:U≠"__name__")(q2:(U==("__debug__" : Str))=false)(ha:PE X a (tE nm W X.K a'))(he:starEach [a,.Name U p'] X.env=(false,eval a X.env)::starEach [.Name U p'] X.env)(qv:starEach [.Name U p'] X.env=(false,eval (.Name U p') X.env)::starEach [] X.env)(Hy:(backTo pos (starEach [.Name U p'] X.env)).any (·.1)=false):PE X (.Call (.Name n p) [a,.Name U p'] [] pos) (tE nm W X.K (.blt .isList (.cons a' .nil))):=by intro qq s σ H Q I hh;obtain⟨ι,ρ,M,d,M',S,R,e,q⟩:=hh;rw[MW.U6] at e;obtain⟨ds,M1,e1,e⟩:=dz e;rw[MW.Dm] at e1;obtain⟨x,M2,e2,e1⟩:=dz e1;rw[MW.Jk] at e1;cases e1;refine je (Dk I hg hm hv ?_ hn Ue);refine yp (Q:=EP X qq σ Q) ?_ he Hy;rw[he];show wpAny _ _ (spliced ((false,eval a X.env)::backTo pos (starEach [.Name U p'] X.env))) _ _ s;refine um (Bf (ha qq s σ H (λv H1=>∃Z,Le ι H Z H1/\mz nm X.K Z H1 M1/\Rep X.K Z H1 x v) I ⟨ι,ρ,M,x,M1,S,R,e2,λZ H1 v le S1 r=>⟨Z,le,S1,r⟩⟩) λu s1 z_=>?_);obtain⟨v,H1,I1,r1,Z,le,S1,r⟩:=z_;rw[qv];show wpAny _ _ (spliced ((false,eval (.Name U p') X.env)::backTo pos (starEach [] X.env))) _ _ s1;refine um (Dk I1 q1 q0 qk ?_ Yh q2);refine w5 ?_;obtain⟨e4,rfl⟩:=xx (show Res.uz ((MW.dm M1 x).map λ_=>MW.D.bl true) M1=.ok d M' from e);obtain⟨ds,e3,rfl⟩:=dg.mp e4;obtain⟨p,vs,rfl,h1,_⟩:=ql S1 r e3;exact akb I1 r1 (.lst h1) (ap0 _ _) λtk=>⟨.bl true,H1,I1.tok _,rfl,q Z H1 _ le S1 (.bl true)⟩
def a98(hc:X.calm=true):Cy X (.builtin "min") (rB nm X.K .min):=λR s σ H vs us Q I Tf hh=>by
 obtain⟨ι,M,ds,d,M',S,r,e,q⟩:=hh;obtain⟨rfl,⟨i,j,rfl,rfl⟩|⟨x,xs,ns,m,rfl,e1,e2,U,rfl⟩⟩:=avt e
 .cases r with
  |cons h1 t1 =>
   cases t1 with
   |cons h2 t2 =>
    cases t2;cases h1;cases h2;refine aj8 hc R s σ H _ us Q I Tf ⟨i,j,rfl,?_⟩;have:=q ι H _ (Le.refl _ _) S (.int (if j<i then j else i));exact this
 .obtain⟨v,rfl,rv⟩:=Iu r rfl
  obtain⟨u,rfl,ru⟩:=Th Tf;obtain⟨p,ws,rfl,hp,rl⟩:=ql S rv e1;cases ru;obtain⟨is,qq,pl,_⟩:=I.list (Gz.of hp);obtain⟨Z,g1,g2⟩:=ints_rep rl qq e2;have Xn:0<Z.size:=by
   cases ns with
   |nil=>cases U|cons n ns=>have:=nq List.length g2;simp at this;lia
  refine min_intList (I.ok.hd hc) (by rw[<- g1];exact pl.isList) Xn λw h' tk hw keep=>?_
  obtain⟨t,rfl⟩:=intItems_at hw;obtain⟨b1,b2⟩:=argBest_lt (numAt Z) (Z.size-1);have hm:m=numAt Z (argBest (λi j=>decide (numAt Z i<numAt Z j)) (Z.size-1)):=by
   cases hns:ns with
   |nil=>rw[hns] at U;cases U
   |cons n ns' =>
    rw[hns] at U;cases U;have mem:∀i,i<Z.size->numAt Z i∈n::ns':=λi hi=>by rw[<- hns,<- g2];exact au (Ol hi)
    have le:∀a∈n::ns',numAt Z (argBest (λi j=>decide (numAt Z i<numAt Z j)) (Z.size-1))<=a:=λa ha=>by
     rw[<- hns,<- g2] at ha;obtain⟨i,hi⟩:=mj.mp ha;have li:i<Z.size:=by have:=(ak.mp hi).1;simpa using this
     rw[Ol li] at hi;cases hi;exact b2 i (by lia)
    exact ad6 ns' n _ (bz.mp (mem _ (by omega))) (le n cz) (λa ha=>le a (bf _ ha))
  subst hm;exact⟨.int _,H,I.kept keep,⟨t,rfl⟩,q ι H _ (Le.refl _ _) S (.int _)⟩
def X7{n:Nat}(hh:A.handled=none)(hr:IsRange s.heap r a b c t u v)(W7:Builtin.Range.small a b c=true)(hn:Builtin.Range.rangeSize a b c=n)(qk:n<=2 ^ 24)(hQ:∀(U:Heap) (tk:Nat) (Z:U1),(∀b o,s.heap.get? b=some o->U.get? b=some o)->ItemsOf (λi v=>∃t,v=.int (a+i*c) t) Z n->Q Z.toList { s with heap:=U,toks:=tk }):wpAny (model prog w) A (collect (.ref r)) Q E s:=by
 unfold collect;refine aa (wpAny_runValue (o4 F.entry_proto_collect ?_));rw[km F.plain_proto_collect _];show wpAny _ A.in1 (newList [] >>= λl=>again (.builtin "list.__iadd__" ⟨[l,.ref r],[]⟩)) _ _ s;refine aa (qi ?_);refine aj ⟨plainId_quiet F.plain_list_iadd _,o4 F.entry_list_iadd ?_⟩;rw[km F.plain_list_iadd _];show wpAny _ A.in1 (Builtin.List.listExtendWith (.ref s.heap.objs.size) (.ref r) (.ref s.heap.objs.size)) _ _ _;have keep:∀b o,s.heap.get? b=some o->(s.heap.push { cls:=.type "list",data:=.seq ([]:Zl).toArray }).get? b=some o:=λb o e=>ao _ e
 have q0:(s.heap.push { cls:=.type "list",data:=.seq ([]:Zl).toArray }).get? s.heap.objs.size=some { cls:=.type "list",data:=.seq #[] 0 }:=bu _ rfl;have qv:=wpAny_extend_range (prog:=prog) (w:=w) (A:=A) (R:=λr' s'=>∃(U:Heap)(tk:Nat)(Z:U1)(c':Nat),r'=.ok (.ret (.ref s.heap.objs.size))/\s'={ s with heap:=U,toks:=tk }/\(∀b o,s.heap.get? b=some o->U.get? b=some o)
 /\U.get? s.heap.objs.size=some { cls:=.type "list",dict:=none,data:=.seq Z c',slots:=#[] }/\ItemsOf (λi v=>∃t,v=.int (a+i*c) t) Z n)
  (s:={ s with heap:=s.heap.push { cls:=.type "list",data:=.seq ([]:Zl).toArray } }) hh (keep _ _ hr) W7 hn qk s.heap.objs.size (.ref s.heap.objs.size) 0 q0
  λU tk Z c' hk hS Ep=>⟨U,tk,Z,c',rfl,rfl,λb o e=>hk b o (gf (az e)) (keep b o e),hS,Ep⟩
 have qq:∀{r':Result}{s':Shared},(∃(U:Heap)(tk:Nat)(Z:U1)(c':Nat),r'=.ok (.ret (.ref s.heap.objs.size))/\s'={ s with heap:=U,toks:=tk }/\(∀b o,s.heap.get? b=some o->U.get? b=some o)
 /\U.get? s.heap.objs.size=some { cls:=.type "list",dict:=none,data:=.seq Z c',slots:=#[] }/\ItemsOf (λi v=>∃t,v=.int (a+i*c) t) Z n)->∃(U:Heap)(tk:Nat)(Z:U1)(c':Nat),r'=.ok (.ret (.ref s.heap.objs.size))/\s'={ s with heap:=U,toks:=tk }/\U.get? s.heap.objs.size=some { cls:=.type "list",dict:=none,data:=.seq Z c',slots:=#[] }/\Q Z.toList s':=λ⟨U,tk,Z,c',e1,e2,e3,e4,e5⟩=>⟨U,tk,Z,c',e1,e2,e4,by rw[e2];exact hQ U tk Z e3 e5⟩
 refine m7 qv (λfin s' hf=>?_) (λe s' he=>?_)
 .cases fin with
  |done f =>
   obtain⟨U,tk,Z,c',e1,rfl,e4,e5⟩:=qq hf;cases e1;exact aa (wpAny_load e4 (aj e5))
  |again c' =>
   refine⟨hf.1,v7 hf.2 λr' q2 q1=>?_⟩;obtain⟨U,tk,Z,c',e1,rfl,e4,e5⟩:=qq q1;subst e1;exact aa (wpAny_load e4 (aj e5))
 .obtain⟨_,_,_,_,e1,_⟩:=qq he
  cases e1
def Ti{n:Nat}(hh:A.handled=none)(hr:IsRange s.heap r a b c t u v)(W7:Builtin.Range.small a b c=true)(hn:Builtin.Range.rangeSize a b c=n)(Z:n<=2 ^ 24)(h:∀(R:Heap) (tk:Nat) (acc:U1),(∀b o,s.heap.get? b=some o->R.get? b=some o)->ItemsOf (λi v=>∃t,v=.int (a+i*c) t) acc n->U (.ref R.objs.size) { s with heap:=R.push { cls:=.type "tuple",data:=.seq acc },toks:=tk }) :
 codeAny (model prog w) A (.call (.builtin "tuple.__new__") ⟨[.type "tuple",.ref r],[]⟩) (wants U E) s:=by
 refine codeAny_of_tree ?_;show wpAny _ A.in1 (do checkBuiltinCall "tuple.__new__" ⟨[.type "tuple",.ref r],[]⟩;again (.builtin "tuple.__new__" ⟨[.type "tuple",.ref r],[]⟩)) _ _ s;refine aa (wpAny_of_eq (F.newCall_tuple_1 _) (aj ⟨plainId_quiet F.plain_tuple_new _,o4 F.entry_tuple_new ?_⟩));rw[km F.plain_tuple_new _];have Oq:=sub_tuple_self;have qk:=init_tuple_lookup;have qv:=madeHere_tuple;have qq:s.TypeIs (.ref r) "range" := ⟨_,hr,rfl⟩
 wp_walk using ur qq,X7 (A:=A.in1) hh hr W7 hn Z
 intro R tk acc hk Ep;show wpAny _ _ (Builtin.Tuple.tupleExact acc.toList.toArray >>= λv=>ret v) _ _ _;unfold Builtin.Tuple.tupleExact;refine aa (qi ?_ (by show acc.toList.toArray.size<=sizeLine;simp only[Array.toArray_toList];rw[Ep.1,o8];exact Z));refine aj ?_;have e:acc.toList.toArray=acc:=by simp
 rw[e];exact h R tk acc hk Ep
def Tj{n:Nat}(hh:A.handled=none)(hr:IsRange s.heap r a b c t u v)(W7:Builtin.Range.small a b c=true)(hn:Builtin.Range.rangeSize a b c=n)(qq:n<=2 ^ 24)(hQ:∀(h':Heap) (tk:Nat) (R:U1),(∀b o,s.heap.get? b=some o->h'.get? b=some o)->ItemsOf (λi v=>∃t,v=.int (a+i*c) t) R n->Q (.ref h'.objs.size) { s with heap:=h'.push { cls:=.type "tuple",data:=.seq R },toks:=tk }) :
 wpAny (model prog w) A (call (.type "tuple") [.ref r]) Q E s:=by
 refine callType_codes (Q₁:=λobj Z=>Z.TypeIs obj "tuple"/\Q obj Z) F.called_tuple (F.typeCall_tuple_1 _) F.entry_object_init
  (Ti (A:=A.in1) hh hr W7 hn qq λh' tk R hk Ep=>⟨⟨_,bu _ rfl,rfl⟩,hQ h' tk R hk Ep⟩) λobj Z U=>?_
 exact⟨U.1,F.args_object_init_2 obj _,object_init_meets F.called_tuple.init.lookup F.called_tuple.made (by decide) prog w A.in1 _ Z ⟨U.1,rfl,U.2⟩⟩
def W8(h:ItemsOf (λi v=>∃t,v=.int (0+(i:Int)*1) t) acc n):Vals ((List.range n).map λ(k:Nat)=>V.int (k:Int)) acc.toList:=by
 have go:∀(l:Zl)(k:Nat),(∀(j:Nat)(v:Value),l[j]?=some v->∃t,v=Value.int ((k+j:Nat):Int) t)->Vals ((List.range' k l.length).map λ(k:Nat)=>V.int (k:Int)) l:=by
  intro l
  induction l with
  |nil=>intro k _;exact .nil
  |cons v l R =>
   intro k U;rw[gr,List.range'_succ,gh];refine .cons ?_ (R (k+1) λj v Z=>?_)
   .exact U 0 v rfl
   .obtain⟨t,e⟩:=U (j+1) v (by simpa using Z)
    exact⟨t,by rw[e];congr 1;lia⟩
 have:=go acc.toList 0 (λj v Z=>by
  obtain⟨t,e⟩:=h.2 j v (by simpa using Z);exact⟨t,by rw[e];congr 1;lia⟩)
 rw[u5,h.1,<- List.range_eq_range'] at this;exact this
def W9(n:Nat):lg K U H ((List.range n).map λ(k:Nat)=>MW.D.int (k:Int)) ((List.range n).map λ(k:Nat)=>V.int (k:Int)):=by
 generalize List.range n=l
 induction l with
 |nil=>exact .nil|cons k l Z=>exact .cons (.int _) Z
set_option tactic.hygienic true in
def a2t(hr:Af 8 X.A)(hg:Gl X n)(hm:X.mg n=none)(hv:bootBuiltins n=some (.type "tuple"))(hn:n≠"__name__")(Ue:(n==("__debug__" : Str))=false)(q3:Gl X G)(q0:X.mg G=none)(qq:bootBuiltins G=some (.type "range"))(Yh:G≠"__name__")(q4:(G==("__debug__" : Str))=false)(ha:PA X [a] (Ws nm W X.K (.cons a' .nil)))(he:starEach [.Call (.Name G p') [a] [] L] X.env=(false,eval (.Call (.Name G p') [a] [] L) X.env)::starEach [] X.env)(Hy:(backTo q1 (starEach [] X.env)).any (·.1)=false)(qk:starEach [a] X.env=(false,eval a X.env)::starEach [] X.env)(qv:(backTo L (starEach [] X.env)).any (·.1)=false) :
 PE X (.Call (.Name n p) [.Call (.Name G p') [a] [] L] [] q1) (tE nm W X.K (.ae8 a')):=by
 intro Z s σ H Q I hh;obtain⟨ι,ρ,M,d,M',S,R,e,q⟩:=hh;rw[MW.amz] at e;obtain⟨x,M1,e1,e⟩:=dz e;split at e<;>try cases e
 rename_i i;split at e<;>cases e;rename_i hi;refine je (Dk I hg hm hv ?_ hn Ue);refine jk (Q:=EP X Z σ Q) ?_ he Hy;rw[he];show wpAny _ _ (spliced ((false,eval (.Call (.Name G p') [a] [] L) X.env)::backTo q1 (starEach [] X.env))) _ _ s;refine um ?_;refine je (Dk I q3 q0 qq ?_ Yh q4);refine jk (Bf (ha L Z s σ H (λvs J=>∃Y,vs=[.int i]/\Le ι H Y J/\mz nm X.K Y J M') I ⟨ι,ρ,M,[.int i],M',S,R,by simp[e1,Res.bind],λY J vs le S1 r=>?_⟩) λus U ⟨vs,J,I1,r1,Y,ev,Ve,S1⟩=>?_) qk qv
 .obtain⟨v,ev,rv⟩:=Iu r rfl
  cases rv;exact⟨Y,ev,le,S1⟩
 subst ev;obtain⟨u,rfl,ru⟩:=Th r1;obtain⟨t,rfl⟩:=ru;refine call_range_1 ?_;show wpAny _ _ (spliced []) _ _ _;refine w5 ?_;have keep:∀b o,U.heap.get? b=some o->(U.heap.push { cls:=.type "range",data:=.fields #[.int 0 U.toks,.int i t,.int 1 (U.toks+1)] }).get? b=some o:=λb o e=>ao _ e
 refine Tj (n:=i.toNat) hr.hd (bu _ rfl) (small_one (by lia) (by lia) (by lia) (by omega)) (by rw[rangeSize_one];split<;>lia) (by lia) λC tk y hk Ep=>?_
 have I2:Inv X Z σ J { U with heap:=C,toks:=tk }:=I1.kept λb o e=>hk b o (keep b o e)
 have hz:((List.range i.toNat).map λ(k:Nat)=>V.int (k:Int)).length<=sizeLine:=by simp[o8];omega
 have hf:J C.objs.size=none:=I2.zm.fresh (bc _);have I3:Inv X Z σ (upd J C.objs.size (.tup ((List.range i.toNat).map λ(k:Nat)=>V.int (k:Int)))) { U with heap:=C.push { cls:=.type "tuple",data:=.seq y },toks:=tk } :=
  I2.laid (a:=C.objs.size) (t':=tk) (λb o e=>ao _ e) (bc _) (show Ah X.prog X.w _ _ _ (.tup _) from⟨hz,y.toList,W8 Ep,by simpa using L2.Xz.new _ _⟩)
 obtain⟨S2,yt,r2⟩:=Oj (X:=X) S1 hf (W9 i.toNat);exact⟨.ref C.objs.size,_,I3,rfl,q Y _ _ (Ve.trans yt) S2 r2⟩
end Sm
namespace EnT
open PySem PySem.Spec
open AutoSeq1 (wpAny_loadPart')
set_option tactic.hygienic true in
def ad8(a:s.heap.IsTupleIter it t i)(b:s.heap.IsTuple t L)(e:L[i]?=some x)(q:∀G,G.IsTupleIter it t (i+1)->Heap.SameBut it s.heap G->Q x { s with heap:=G }):wpAny (model prog w) A (Builtin.SmallTypes.nextOf (.ref it)) Q E s:=by obtain⟨o,Y,U,Z⟩:=id a;obtain⟨R,J,S,y,C⟩:=b;unfold Builtin.SmallTypes.nextOf;refine aa (j4 (name:=Str.ofString "__next__") a.typeIs uy (jc uy a.typeIs F.entry_tuple_iterator_next ?_ (F.args_tuple_iterator_next_1 _)));show wpAny _ _ (field (.ref it) 0 >>= _) _ _ s;refine aa (jg Y Z (x:=.ref t) rfl ?_);show wpAny _ _ (if(Value.ref t==Value.none)=true then _ else field (.ref it) 1 >>= _) _ _ s;rw[bw (show ¬((Value.ref t==Value.none)=true) by exact iu)];refine aa (jg Y Z (x:=.int i 0) rfl (aa (q9 J C ?_)));simp only[t8,e];refine aa (wpAny_setField Y Z (by simp) (aj ⟨x,rfl,aj (q _ ⟨_,jz _ Y (Obj.isFreed_of_fields (Obj.data_mapFields Z _)),(Obj.cls_mapFields ..).trans U,?_⟩ (ir ..))⟩));rw[Obj.data_mapFields Z];simp[rawInt]
set_option tactic.hygienic true in
def aie(C:A.handled=none)(a:s.heap.IsTupleIter it t i)(b:s.heap.IsTuple t L)(e:L[i]?=none)(q:∀Z x,Heap.ExtBut it s.heap Z->(∃o,Z.get? x=some o/\o.cls=.type "StopIteration")->E (.ref x) { s with heap:=Z }):wpAny (model prog w) A (Builtin.SmallTypes.nextOf (.ref it)) Q E s:=by obtain⟨o,Y,R,G⟩:=id a;obtain⟨S,J,y,u,U⟩:=b;unfold Builtin.SmallTypes.nextOf;refine aa (j4 (name:=Str.ofString "__next__") a.typeIs uy (jc uy a.typeIs F.entry_tuple_iterator_next ?_ (F.args_tuple_iterator_next_1 _)));show wpAny _ _ (field (.ref it) 0 >>= _) _ _ s;refine aa (jg Y G (x:=.ref t) rfl ?_);show wpAny _ _ (if(Value.ref t==Value.none)=true then _ else field (.ref it) 1 >>= _) _ _ s;rw[bw (show ¬((Value.ref t==Value.none)=true) by exact iu)];refine aa (jg Y G (x:=.int i 0) rfl (aa (q9 J U ?_)));simp only[t8,e];refine aa (wpAny_rule (aa (wpAny_setField Y G (by simp) ?_)));show wpAny _ _ (newExc (.type "StopIteration") [] >>= raiseNew) _ _ _;exact Ur.Zo C λZ x k e=>q Z x (λb o n z=>k b o ((ir ..).extBut b o n z)) e
def ItB(b:Bool)(h:Heap)(it a:Addr)(i:Nat):Prop:=cond b (h.IsTupleIter it a i) (h.IsListIter it a i)
def SqB(b:Bool)(h:Heap)(a:Addr)(Z:U1):Prop:=cond b (h.IsTuple a Z) (h.IsList a Z)
def ItB.at(x:ItB b h it a i)(k:∀o,h.get? it=some o->Z.get? it=some o):ItB b Z it a i:=by
 cases b with
 |true=>obtain⟨o,e,r⟩:=x;exact⟨o,k o e,r⟩
 |false=>obtain⟨o,e,r⟩:=x;exact⟨o,k o e,r⟩
def ItB.obj(x:ItB b h it a i):∃o,h.get? it=some o/\∀v,o.data≠.cell v:=by
 cases b with
 |true=>obtain⟨o,e,c,d⟩:=x;exact⟨o,e,λv z=>by rw[d] at z;cases z⟩
 |false=>obtain⟨o,e,c,d⟩:=x;exact⟨o,e,λv z=>by rw[d] at z;cases z⟩
def ap1(a:ItB b s.heap it t i)(c:SqB b s.heap t U)(e:U[i]?=some x)(q:∀Z,ItB b Z it t (i+1)->Heap.SameBut it s.heap Z->Q x { s with heap:=Z }):wpAny (model prog w) A (Builtin.SmallTypes.nextOf (.ref it)) Q E s:=by
 cases b with
 |true=>exact ad8 a c e q|false=>exact wpAny_nextOf_list_item a c e q
def avw(U:A.handled=none)(a:ItB b s.heap it t i)(c:SqB b s.heap t R)(e:R[i]?=none)(q:∀Z x,Heap.ExtBut it s.heap Z->(∃o,Z.get? x=some o/\o.cls=.type "StopIteration")->E (.ref x) { s with heap:=Z }):wpAny (model prog w) A (Builtin.SmallTypes.nextOf (.ref it)) Q E s:=by
 cases b with
 |true=>exact aie U a c e q|false=>exact wpAny_nextOf_list_end U a c e q
def avx{i:Nat}{Q:Y1}(he:IsEnum s.heap e it i old)(a:ItB b s.heap it t i)(c:SqB b s.heap t xs)(ex:xs[i]?=some x)(ne:e≠it)(q:∀R,IsEnumOut R e it ((i:Int)+1) x s.heap.objs.size->ItB b R it t (i+1)->R.get? s.heap.objs.size=some { cls:=.type "tuple",data:=.seq #[.int i s.toks,x] }->R.objs.size=s.heap.objs.size+1 ->
 (∀y o,y≠e->y≠it->s.heap.get? y=some o->R.get? y=some o)->Q (.ref s.heap.objs.size) { s with heap:=R,toks:=s.toks+1 }) :
 wpAny (model prog w) A (Builtin.«enumerate.__next__» ⟨[.ref e],[]⟩) (λfin s'=>∃v,fin=.done (.ret v)/\Q v s') E s:=by
 obtain⟨U,g,d,tk,os⟩:=s;show wpAny _ _ (field (.ref e) 2 >>= _) _ _ _;refine aa (jg he rfl (x:=.ref it) rfl (aa (ap1 a c ex λh1 a1 s1=>?_)));have s1:Heap.SameBut it U h1:=s1;have e1:IsEnum h1 e it i old:=(s1.2 e ne).trans he;refine aa (jg e1 rfl (x:=rawInt i) rfl (aa (jg e1 rfl (x:=.none) rfl (aa (wpAny_mkInt ?_)))));show wpAny _ _ (setField (.ref e) 3 (rawInt ((i:Int)+1)) >>= _) _ _ ⟨h1,g,d,tk+1,os⟩;refine aa (jf e1 (by simp) λh2 e2 s2=>?_);have s2:Heap.SameBut e h1 h2:=s2;have e2:IsEnum h2 e it ((i:Int)+1) old:=e2;refine aa (jf e2 (by simp) λh3 e3 s3=>?_);have s3:Heap.SameBut e h2 h3:=s3;have e3:IsEnum h3 e it ((i:Int)+1) old:=e3;refine aa (wpAny_newTuple ?_);have n3:h3.objs.size=U.objs.size:=by rw[s3.1,s2.1,s1.1]
 obtain⟨Z,d4⟩:∃Z,Z=h3.push { cls:=.type "tuple",data:=.seq #[.int i tk,x] }:=⟨_,rfl⟩;have e4:IsEnum Z e it ((i:Int)+1) old:=by rw[d4];exact ao _ e3
 have t4:Z.get? U.objs.size=some { cls:=.type "tuple",data:=.seq #[.int i tk,x] }:=by rw[d4,<- n3];exact bu _ rfl
 have n4:Z.objs.size=U.objs.size+1:=by rw[d4,iz,n3]
 have k3:∀y o,y≠e->h1.get? y=some o->Z.get? y=some o:=λy o hy z=>by rw[d4];exact ao _ (s3.extBut y o hy (s2.extBut y o hy z))
 have a4:ItB b Z it t (i+1):=a1.at λo z=>k3 it o (ji ne) z
 have lt:e<U.objs.size:=az he
 show wpAny _ _ (Builtin.SmallTypes.ownedTupleIsFree (.ref e) >>= _) _ _ ⟨h3.push _,g,d,tk+1,os⟩;rw[n3,<- d4];refine aa ?_;unfold Builtin.SmallTypes.ownedTupleIsFree;refine aa (jg e4 rfl (x:=.none) rfl (aj ?_));simp only[j5];refine aa (wpAny_rule (aa (jg e4 rfl (x:=old) rfl (aa (jf e4 (by simp) λh5 e5 s5=>?_)))));have s5:Heap.SameBut e Z h5:=s5;have e5:IsEnum h5 e it ((i:Int)+1) x:=e5;refine aa ?_;unfold Builtin.SmallTypes.ownedTupleHandOut;refine aa (jf e5 (by simp) λh6 e6 s6=>?_);have s6:Heap.SameBut e h5 h6:=s6;have e6:IsEnumOut h6 e it ((i:Int)+1) x U.objs.size:=e6;refine jf e6 (by simp) λh7 e7 s7=>?_
 have s7:Heap.SameBut e h6 h7:=s7;have k7:∀y o,y≠e->Z.get? y=some o->h7.get? y=some o:=λy o hy z=>s7.extBut y o hy (s6.extBut y o hy (s5.extBut y o hy z))
 exact aa (wpAny_letGo (aj ⟨_,rfl,q h7 e7 (a4.at λo z=>k7 it o (ji ne) z) (k7 _ _ (vm lt) t4) (by rw[s7.1,s6.1,s5.1,n4]) λy o y1 y2 z=>k7 y o y1 (k3 y o y1 (s1.extBut y o y2 z))⟩))
set_option tactic.hygienic true in
def avy{i:Nat}(Y:IsEnum s.heap e it i old)(a:ItB b s.heap it t i)(c:SqB b s.heap t S)(C:S[i]?=some x)(ne:e≠it)(q:∀Z,IsEnumOut Z e it ((i:Int)+1) x s.heap.objs.size->ItB b Z it t (i+1)->Z.get? s.heap.objs.size=some { cls:=.type "tuple",data:=.seq #[.int i s.toks,x] }->Z.objs.size=s.heap.objs.size+1 ->
 (∀y o,y≠e->y≠it->s.heap.get? y=some o->Z.get? y=some o)->Q (some (.ref s.heap.objs.size)) { s with heap:=Z,toks:=s.toks+1 }):wpAny (model prog w) A (pyNext (.ref e)) Q E s:=by
 have G:s.TypeIs (.ref e) "enumerate" := ⟨_,Y,rfl⟩;unfold pyNext;refine aa (vf (j4 (name:=Str.ofString "__next__") G xu (jc xu G F.entry_enumerate_next ?_ (F.args_enumerate_next_1 _))));exact avx Y a c C ne λZ R u J L U=>aj (q Z R u J L U)
set_option tactic.hygienic true in
def avz{i:Nat}(L:A.handled=none)(Y:IsEnum s.heap e it i old)(a:ItB b s.heap it t i)(c:SqB b s.heap t R)(U:R[i]?=none)(q:∀Z,Heap.ExtBut it s.heap Z->Q none { s with heap:=Z }):wpAny (model prog w) A (pyNext (.ref e)) Q E s:=by have G:s.TypeIs (.ref e) "enumerate" := ⟨_,Y,rfl⟩;unfold pyNext;refine aa (vf (j4 (name:=Str.ofString "__next__") G xu (jc xu G F.entry_enumerate_next ?_ (F.args_enumerate_next_1 _))));show wpAny _ _ (field (.ref e) 2 >>= _) _ _ _;refine aa (jg Y rfl (x:=.ref it) rfl (aa (avw L a c U λZ z k z_=>?_)));obtain⟨o,C,J⟩:=z_;exact aa (m8 (T := "StopIteration") (b:=true) ⟨o,C,J⟩ isSubtype_stop (aj (q _ k)))
set_option tactic.hygienic true in
def av0(t:Addr)(xs:U1)(n:Nat)(Y:Option Addr)(U:Array (Option Value)) :
 Meets (Builtin.«enumerate.__new__» ⟨[.type "enumerate",.ref t],[]⟩) (λ_ R s=>s.heap.get? t=some { cls:=.type "tuple",dict:=Y,data:=.seq xs n,slots:=U } /\
  R (.ok (.ret (.ref (s.heap.push { cls:=.type "tuple_iterator",data:=.fields #[.ref t,.int 0 0] }).objs.size)))
   { s with heap:=(s.heap.push { cls:=.type "tuple_iterator",data:=.fields #[.ref t,.int 0 0] }).push { cls:=.type "enumerate",data:=.fields #[.none,.bool false,.ref s.heap.objs.size,rawInt 0,.none,.none] } }) :=
 .of_wp λprog w A R s h=>by
  obtain⟨J,g,d,tk,C⟩:=s;obtain⟨Z,h⟩:=h;have L:=sub_enumerate;have G:Heap.IsTuple (Shared.heap ⟨J,g,d,tk,C⟩) t xs:=⟨_,Z,rfl,n,rfl⟩
  wp_walk using wpAny_loadPart' Z
  refine wpAny_stack_any λst=>aj ?_
  split
  .rename_i c _ _ _ _ _
   cases(c==Value.type "enumerate")<;>(wp_walk using wpAny_loadPart' Z,wpAny_pyIter_tuple G)<;>exact⟨_,rfl,h⟩
  .wp_walk using wpAny_loadPart' Z,wpAny_pyIter_tuple G
   exact⟨_,rfl,h⟩
def ap2(c:s.heap.IsTuple t xs)(q:∀Z,IsEnum Z (s.heap.objs.size+1) s.heap.objs.size 0 .none->Z.IsTupleIter s.heap.objs.size t 0->Z.objs.size=s.heap.objs.size+2 ->
 (∀y o,s.heap.get? y=some o->Z.get? y=some o)->Q (.ref (s.heap.objs.size+1)) { s with heap:=Z }):wpAny (model prog w) A (call (.type "enumerate") [.ref t]) Q E s:=by
 obtain⟨⟨c0,R,dt,sl⟩,hl,hc,n,hd⟩:=c;have hc:c0=.type "tuple" := hc;have hd:dt=.seq xs n:=hd;subst hc hd;have U:(s.heap.push { cls:=.type "tuple_iterator",data:=.fields #[.ref t,.int 0 0] }).objs.size=s.heap.objs.size+1:=iz ..;refine callType_new F.called_enumerate (by decide) (F.typeCall_enumerate_1 _) (F.newCall_enumerate_1 _) (λobj=>F.args_object_init_2 obj _) F.entry_enumerate_new (av0 t xs n R sl) ⟨hl,?_⟩;show _/\_;rw[U];have e1:IsEnum ((s.heap.push { cls:=.type "tuple_iterator",data:=.fields #[.ref t,.int 0 0] }).push { cls:=.type "enumerate",data:=.fields #[.none,.bool false,.ref s.heap.objs.size,rawInt 0,.none,.none] }) (s.heap.objs.size+1) s.heap.objs.size 0 .none:=by rw[<- U];exact bu _ rfl
 exact⟨⟨_,e1,rfl⟩,q _ e1 ⟨_,ao _ (bu _ rfl),rfl,rfl⟩ (by rw[iz,U]) λy o z=>ao _ (ao _ z)⟩
end EnT
namespace L2
open PySem PySem.Spec EnT
def Inv.Ze{ch:X9}(I:Inv X pins σ H s)(U:∀b∈ch,Uz X pins H b)(k:∀b o,b∉ch->s.heap.get? b=some o->h'.get? b=some o)(hn:s.heap.objs.size<=n)(new:Ah X.prog X.w (upd H n (.tup vs)) h' n (.tup vs)):Inv X pins σ (upd H n (.tup vs)) { s with heap:=h',toks:=t' }:=by
 have fr:H n=none:=I.zm.fresh hn;have R:∀b u,H b=some u->b∉ch:=λb u e z=>by rw[(U b z).1] at e;cases e
 have qq:∀b o,s.heap.get? b=some o->b≠n:=λb o e=>gf (ie (az e) hn)
 refine I.step (g':=s.gens) (d':=s.drawn) (ch:=ch) (λb hb=>⟨(U b hb).2.2.2.1,(U b hb).2.1,(U b hb).2.2.2.2.1,(U b hb).2.2.2.2.2⟩) (λb o _ _ Z e _=>k b o Z e) (λb o _ _ Z e _=>⟨o.slots,k b o Z e⟩) (λb o _ e n0=>by rw[j9 (qq b o e)];exact n0)
  (λb o Z e=>⟨o,k b o Z e⟩) (λb xs e=>by rw[j9 (kh e fr)];exact e) (λb o u e=>by rw[j9 (kh e fr)];exact e) (λb ps e=>⟨#[],by rw[j9 (kh e fr),e];simp⟩) (λm hm=>?_) (λb u e=>?_) I.bare
 .obtain⟨o,es,ep,ho,r⟩:=hm
  exact⟨o,es,ep,k _ o (λz=>(U _ z).2.1 rfl) ho,r⟩
 .by_cases z:b=n
  .subst z;rw[rz] at e;cases e;exact new
  .rw[j9 z] at e
   refine(I.zm b u e).stay (λc v Z q=>k c v ?_ q) (λc q=>by rw[j9 (kh q fr)];exact q) λc xs q=>by rw[j9 (kh q fr)];exact q
   rcases Z with y|y
   .rw[y];exact R b u e
   .exact R c _ y
def Inv.aif{ch:X9}(I:Inv X pins σ H s)(U:∀b∈ch,Uz X pins H b)(k:∀b o,b∉ch->s.heap.get? b=some o->h'.get? b=some o):Inv X pins σ H { s with heap:=h',toks:=t' }:=by
 have R:∀b u,H b=some u->b∉ch:=λb u e z=>by rw[(U b z).1] at e;cases e
 refine I.step (g':=s.gens) (d':=s.drawn) (ch:=ch) (λb hb=>⟨(U b hb).2.2.2.1,(U b hb).2.1,(U b hb).2.2.2.2.1,(U b hb).2.2.2.2.2⟩) (λb o _ _ Z e _=>k b o Z e) (λb o _ _ Z e _=>⟨o.slots,k b o Z e⟩) (λb o _ e n0=>n0)
  (λb o Z e=>⟨o,k b o Z e⟩) (λb xs e=>e) (λb o u e=>e) (λb ps e=>⟨#[],by rw[e];simp⟩) (λm hm=>?_) (λb u e=>?_) I.bare
 .obtain⟨o,es,ep,ho,r⟩:=hm
  exact⟨o,es,ep,k _ o (λz=>(U _ z).2.1 rfl) ho,r⟩
 .refine(I.zm b u e).stay (λc v Z q=>k c v ?_ q) (λ_ q=>q) λ_ _ q=>q
  rcases Z with y|y
  .rw[y];exact R b u e
  .exact R c _ y
def SqX(b:Bool)(K:Fg)(H:Hp)(a:Addr)(Z:List V):Prop:=cond b (Ia K H a Z) (Gz K H a Z)
def Inv.a2u(I:Inv X pins σ H s)(h:SqX b X.K H a xs):∃Z,Vals xs Z/\SqB b s.heap a Z.toArray:=by
 cases b with
 |true=>obtain⟨Z,U,p,R⟩:=I.tuple h;exact⟨Z,U,show s.heap.IsTuple a Z.toArray from p⟩
 |false=>obtain⟨Z,U,p,R⟩:=I.list h;exact⟨Z,U,p.isList⟩
def Inv.ap3(I:Inv X pins σ H s)(h:SqX b X.K H a Z)(g:SqX b X.K H a ys):Z=ys:=by
 cases b with
 |true=>exact I.Sw h g|false=>exact I.acu h g
noncomputable def Ien(b:Bool)(K:Fg)(a:Addr):It :=
 ⟨λi H=>∃Z x,SqX b K H a Z/\Z[i]?=some x,λi H v U=>∃p x,v=.ref p/\H p=none/\U=upd H p (.tup [.int (i:Nat),x])/\∀Z,SqX b K H a Z->Z[i]?=some x,λi H=>∃Z,SqX b K H a Z/\Z.length<=i⟩
set_option tactic.hygienic true in
theorem av1(a e it:Addr)(ne:e≠it):Turn P w K (.Tuple ts k0 pt) (Ien b K a) [e,it] e (λi h=>(∃Z,IsEnum h e it ((i:Nat):Int) Z)/\ItB b h it a i) where
 mem:=by simp
 obj:=λi h st c Y=>by
  obtain⟨⟨Z,G⟩,J⟩:=st;rcases bz.mp Y with z|z
  .subst z;exact⟨_,G,λv z=>by cases z⟩
  .have z:c=it:=by simpa using z
   subst z;exact J.obj
 keep:=λi h h' st k=>by obtain⟨⟨Z,G⟩,J⟩:=st;exact⟨⟨Z,k e (by simp) _ G⟩,J.at λo z=>k it (by simp) o z⟩
 item:=by
  intro X hP hw hK Y i C s σ H E I S st hg;subst hP hw hK;obtain⟨xs,x,R,L⟩:=hg;obtain⟨wj,rv,p⟩:=I.a2u R;obtain⟨u,hu,ru⟩:=rv.get L;obtain⟨⟨Z,G⟩,J⟩:=st;have lt:e<s.heap.objs.size:=az G
  refine avy G J p (x:=u) (by simpa using hu) ne λh1 o1 a1 t1 n1 k1=>⟨_,rfl,?_⟩
  refine wpAny_letOwnedTupleGo_enum o1 λh2 o2 U=>?_
  have U:Heap.SameBut e h1 h2:=U;have t2:h2.get? s.heap.objs.size=some { cls:=.type "tuple",data:=.seq #[.int i s.toks,u] }:=(U.2 _ (vm lt)).trans t1;refine⟨.ref s.heap.objs.size,upd H s.heap.objs.size (.tup [.int (i:Nat),x]),I.Ze (t':=s.toks+1) S (λc o Y z=>?_) (bc _) ⟨by show 2<=sizeLine;decide,[.int i s.toks,u],.cons ⟨s.toks,rfl⟩ (.cons ru .nil),⟨_,t2,rfl,_,rfl,rfl⟩⟩,rfl,
   ⟨_,x,rfl,I.zm.fresh (bc _),rfl,λys hy=>by rw[I.ap3 hy R];exact L⟩,⟨⟨u,?_⟩,a1.at λo z=>U.extBut it o (ji ne) z⟩,λc Y=>?_⟩
  .have c1:c≠e:=λz=>Y (by simp[z])
   have c2:c≠it:=λz=>Y (by simp[z])
   exact U.extBut c o c1 (k1 c o c1 c2 z)
  .have q:((i+1:Nat):Int)=(i:Int)+1:=by push_cast;rfl
   rw[q];exact o2
  .have qq:c<s.heap.objs.size:=by
    rcases bz.mp Y with z|z
    .rw[z];exact lt
    .have z:c=it:=by simpa using z
     obtain⟨o,z2,_⟩:=J.obj;rw[z];exact az z2
   rw[j9 (gf qq)];exact(S c Y).1
 done:=by intro X hP hw hK Y i C s σ H E I S st hg;subst hP hw hK;obtain⟨xs,R,L⟩:=hg;obtain⟨wj,rv,p⟩:=I.a2u R;obtain⟨⟨Z,G⟩,J⟩:=st;have hl:=rv.length;refine avz (I.ok.hd Y) G J p (by simp;exact a_ (g_ hl) L) λh' eb=>⟨rfl,I.aif (t':=s.toks) S λc o Y z=>eb c o (λy=>Y (by simp[y])) z⟩
 self:=λ_ _ _ _ _ st h=>by obtain⟨⟨Z,G⟩,J⟩:=st;exact wpAny_pyIter_enum G h
def baa(hg:Gl X "enumerate")(hm:X.mg "enumerate" = none)(ha:PA X [a] ta)(hs:starEach [a] X.env=[(false,eval a X.env)]) :
 PI X (.Tuple ts k0 pt) (.Call (.Name "enumerate" p) [a] [] pos) (fun σ H R=>ta σ H λvs H1=>∃b q,vs=[.ref q]/\(∃xs,SqX b X.K H1 q xs)/\R (Ien b X.K q) H1):=by
 intro qq s σ H R I h;refine PyProof.Rows.Call_ (Dk I hg hm (show bootBuiltins "enumerate" = some (.type "enumerate") by decide+kernel) (jk (Bf (ha pos qq s σ H _ I h) λus Z ⟨vs,H1,I1,r1,q1⟩=>?_) hs rfl));obtain⟨b,q,rfl,⟨xs,hq⟩,hR⟩:=q1;cases r1 with
 |cons r rr =>
  cases rr;cases r;obtain⟨wj,rv,p⟩:=I1.a2u hq;have fin:∀U,IsEnum U (Z.heap.objs.size+1) Z.heap.objs.size 0 .none->ItB b U Z.heap.objs.size q 0->(∀y o,Z.heap.get? y=some o->U.get? y=some o) ->
   wpAny (model X.prog X.w) X.A (pyIter (.ref (Z.heap.objs.size+1))) (PIE X qq σ (.Tuple ts k0 pt) R) X.xe { Z with heap:=U }:=λU e1 e2 kk=>by
   refine wpAny_pyIter_enum e1 ?_;refine⟨Z.heap.objs.size+1,[Z.heap.objs.size+1,Z.heap.objs.size],_,_,H1,rfl,I1.kept (t':=Z.toks) kk,av1 (b:=b) q _ _ (Nat.succ_ne_self _),⟨⟨.none,e1⟩,e2⟩,λc hc=>?_,hR⟩;have qk:Z.heap.objs.size<=c:=by
    rcases bz.mp hc with z|z
    .rw[z];exact vh _
    .have z:c=Z.heap.objs.size:=by simpa using z
     rw[z];exact bc _
   exact I1.aj3 qk (I1.zm.fresh qk)
  cases b with
  |true=>exact ap2 p λU e1 e2 _ kk=>fin U e1 e2 kk
  |false=>exact call_enumerate_list p λU e1 e2 _ kk=>fin U e1 e2 kk
end L2
namespace EnT
open PySem PySem.Spec
noncomputable def tpN(Z:Zl):Obj:={ cls:=.type "tuple",data:=.seq Z.toArray }
structure ZN(h0:Heap)(n:Nat)(ls:Y3)(f0:Value)(ov:Zl)(k d:Nat)(g:Heap):Prop where
 z:IsZip g (n+ls.length+2) (n+ls.length) (n+ls.length+1) f0
 o:g.get? (n+ls.length+1)=some (tpN ov)
 a:∀(j:Nat) l,ls[j]?=some l->g.IsTupleIter (n+j) l (if j<d then k+1 else k)
 low:∀c o,(c<n\/c=n+ls.length\/n+ls.length+2<c)->h0.get? c=some o->g.get? c=some o
def aea{h Z:Heap}{i l k:Nat}(x:h.IsTupleIter i l k)(e:∀o,h.get? i=some o->Z.get? i=some o):Z.IsTupleIter i l k:=let ⟨o,a,b⟩:=x;⟨o,e o a,b⟩
def ap4{h Z:Heap}{a:Nat}{xs:U1}(x:h.IsTuple a xs)(e:∀o,h.get? a=some o->Z.get? a=some o):Z.IsTuple a xs:=let ⟨o,a,b⟩:=x;⟨o,e o a,b⟩
def aeb{Z:Y3}{j:Nat}(h:Z[j]?=some l):j<Z.length:=(ak.mp h).1
def ZN.sz(H:ZN h0 n ls f0 U k d g)(e:Heap.ExtBut (n+ls.length+2) g g')(z:IsZip g' (n+ls.length+2) (n+ls.length) (n+ls.length+1) f1):ZN h0 n ls f1 U k d g' :=
 ⟨z,e _ _ (by lia) H.o,λj l h=>aea (H.a j l h) λo=>e _ o (by have:=aeb h;lia),λc o Z z=>e _ _ (by lia) (H.low c o Z z)⟩
def ZN.so(H:ZN h0 n ls f0 U k d g)(e:Heap.ExtBut (n+ls.length+1) g g')(z:g'.get? (n+ls.length+1)=some (tpN ow)):ZN h0 n ls f0 ow k d g' :=
 ⟨e _ _ (by lia) H.z,z,λj l h=>aea (H.a j l h) λo=>e _ o (by have:=aeb h;lia),λc o Z z=>e _ _ (by lia) (H.low c o Z z)⟩
def ZN.sa(H:ZN h0 n ls f0 U k d g)(R:d<ls.length)(e:Heap.ExtBut (n+d) g g')(z:∀l,ls[d]?=some l->g'.IsTupleIter (n+d) l (k+1)):ZN h0 n ls f0 U k (d+1) g' :=
 ⟨e _ _ (by lia) H.z,e _ _ (by lia) H.o,λj l h=>by
  by_cases c:j=d
  .subst c;rw[cj (by lia)];exact z l h
  .have:=H.a j l h
   have i:(if j<d+1 then k+1 else k)=if j<d then k+1 else k:=by
    by_cases q:j<d
    .rw[cj q,cj (by lia)]
    .rw[bw q,bw (by lia)]
   rw[i];exact aea this λo=>e _ o (by lia),λc o Z z=>e _ _ (by lia) (H.low c o Z z)⟩
def ZN.up(H:ZN h0 n ls f0 U k d g)(e:∀c o,g.get? c=some o->g'.get? c=some o):ZN h0 n ls f0 U k d g' :=
 ⟨e _ _ H.z,e _ _ H.o,λj l h=>aea (H.a j l h) (e _),λc o Z z=>e _ _ (H.low c o Z z)⟩
def ZN.nx(H:ZN h0 n ls f0 Z k ls.length g):ZN h0 n ls f0 Z (k+1) 0 g :=
 ⟨H.z,H.o,λj l h=>by have:=H.a j l h;rw[cj (aeb h)] at this;exact this,H.low⟩
def av2{T:Addr}{Q:Unit->Shared->Prop}(U:ov.length<=3)(hT:s.heap.get? T=some (tpN ov))(h:∀Z,Z.get? T=some (tpN (ov.set k x))->Heap.ExtBut T s.heap Z->Z.objs.size=s.heap.objs.size->Q () { s with heap:=Z }) :
 wpAny (model prog w) A (updateSeq T (·.setIfInBounds k x)) Q E s:=by
 have R:Heap.SameBut T s.heap (s.heap.update T (Obj.mapSeq (·.setIfInBounds k x))):=ir ..;refine wpAny_updateSeq hT rfl (h _ ?_ R.extBut R.1) (hz:=gw (by simpa using U) (show 3<=sizeLine by decide)) (_hz':=gw (by simpa using U) (show 3<=sizeLine+1 by decide));rw[jz _ hT rfl];simp[Obj.mapSeq,tpN]
noncomputable def Fp(n m:Nat):List Value:=(List.range m).map λj=>.ref (n+j)
def aih(n m:Nat):(Fp n m).zipIdx=(List.range' 0 m).map λj=>(Value.ref (n+j),j):=by
 apply wy;intro i;rw[yl]
 by_cases h:i<m
 .simp[Fp,h]
 .simp[Fp,h]
def At(h:Heap)(U:Y3)(k:Nat)(Z:Zl):Prop:=Z.length=U.length/\∀(j:Nat) l,U[j]?=some l->∃R x,h.IsTuple l R/\R[k]?=some x/\Z[j]?=some x
def av3{n k:Nat}{Q:Y1}(Xn:ls≠[])(h3:ls.length<=3)(H:ZN s.heap n ls .none Z k 0 s.heap)(ho:Z.length=ls.length)(hI:s.heap.get? (n+ls.length)=some (tpN (Fp n ls.length)))(hl:∀l∈ls,l<n)(ha:At s.heap ls k vs)
 (hq:∀h',ZN s.heap n ls (rawInt s.heap.objs.size) vs (k+1) 0 h'->h'.get? s.heap.objs.size=some (tpN vs)->Q (.ref s.heap.objs.size) { s with heap:=h' }) :
 wpAny (model prog w) A (Builtin.«zip.__next__» ⟨[.ref (n+ls.length+2)],[]⟩) (λfin s'=>∃v,fin=.done (.ret v)/\Q v s') E s:=by
 have hz:=H.z;have ne:(Fp n ls.length).toArray.isEmpty=false:=by cases ls with|nil=>exact absurd rfl Xn|cons a l=>simp[Fp]
 show wpAny _ _ (field (.ref (n+ls.length+2)) 2 >>= _) _ _ _;refine aa (jg hz rfl (x:=.bool false) rfl (aa (jg hz rfl (x:=.ref (n+ls.length)) rfl (aa (q9 hI rfl ?_)))));simp only[ne,cu,jd];unfold Builtin.SmallTypes.ownedTupleIsFree;refine aa (aa (jg hz rfl (x:=.none) rfl (aj ?_)));simp only[j5];refine aa (wpAny_rule (aa (jg hz rfl (x:=.ref (n+ls.length+1)) rfl (aa (jf hz (by simp) λg1 z1 s1=>?_)))));have H1:=H.sz s1.extBut (f1:=.ellipsis) z1;refine aa (qt _ (λR b s'=>b=(none,())/\∃d Z g,R=((List.range' d (ls.length-d)).map λj=>(Value.ref (n+j),j))/\d<=ls.length/\s'={ s with heap:=g }/\ZN s.heap n ls .ellipsis Z k d g/\Z.length=ls.length/\(∀i,i<d->Z[i]?=vs[i]?)/\g.objs.size=s.heap.objs.size) _ (λx R b s' hI=>?_) (λb s' hI=>?_) _ _ ⟨rfl,0,Z,g1,?_,jr _,rfl,H1,ho,λi hi=>absurd hi (u9 _),s1.1⟩)
 .obtain⟨rfl,d,Z,g,e,U,rfl,H2,o2,v2,n2⟩:=hI
  have U:d<ls.length:=by
   rcases xj d ls.length with h|h
   .exact h
   .rw[Nat.sub_eq_zero_of_le h] at e;cases e
  obtain⟨c,hc⟩:∃c,ls.length-d=c+1:=⟨ls.length-d-1,by lia⟩;rw[hc,List.range'_succ,gh] at e;injection e with e1 e2
  subst e1 e2;obtain⟨l,el⟩:∃l,ls[d]?=some l:=⟨ls[d],by simp[U]⟩;obtain⟨xs,x,t1,t2,t3⟩:=ha.2 d l el;have i0:=H2.a d l el;rw[bw (lq _)] at i0;have ll:=hl l (au el);refine aa (wpAny_onRaise (aa (ad8 (s:={ s with heap:=g }) i0 (ap4 t1 λo=>H2.low _ o (by lia)) t2 λg2 i2 s2=>aj ?_)));have H3:=H2.sa U s2.extBut λl' h=>by rw[el] at h;cases h;exact i2
  refine aa (q9 H3.o rfl (aa (av2 (by rw[o2];exact h3) H3.o λg3 o3 s3 n3=>?_)));have H4:=H3.so s3 o3;refine aa (wpAny_letGo (aj ⟨rfl,d+1,Z.set d x,g3,by rw[show ls.length-(d+1)=c by lia],U,rfl,H4,by rw[List.length_set,o2],λi hi=>?_,by rw[n3,show g2.objs.size=g.objs.size from s2.1,n2]⟩))
  by_cases z:i=d
  .subst z
   rw[zr (by lia),t3]
  .rw[ux (ji z)];exact v2 i (by lia)
 .obtain⟨rfl,d,Z,g,e,U,rfl,H2,o2,v2,n2⟩:=hI
  have U:d=ls.length:=by
   rcases xj d ls.length with h|h
   .obtain⟨c,hc⟩:∃c,ls.length-d=c+1:=⟨ls.length-d-1,by lia⟩
    rw[hc,List.range'_succ] at e;cases e
   .exact Nat.le_antisymm U h
  subst U;obtain rfl:Z=vs:=by
   apply wy;intro i;rcases xj i ls.length with h|h
   .exact v2 i h
   .rw[lz (by lia),lz (by rw[ha.1];exact h)]
  refine aa (q9 H2.o rfl (aa (wpAny_newTuple ?_)));have H8:=H2.nx.up (g':=g.push (tpN Z)) λc o e=>ao _ e
  refine aa ?_;unfold Builtin.SmallTypes.ownedTupleHandOut;refine aa (jf H8.z (by simp) λg9 z9 s9=>?_);have H9:=H8.sz s9.extBut (f1:=rawInt g.objs.size) z9;refine jf H9.z (by simp) λqk q1 qv=>?_
  have q0:=H9.sz qv.extBut (f1:=rawInt g.objs.size) q1;have zl:n+ls.length+2<g.objs.size:=az H2.z
  have qq:qk.get? g.objs.size=some (tpN Z):=qv.extBut _ _ (vm zl) (s9.extBut _ _ (vm zl) (bu _ rfl));refine aj ⟨_,rfl,?_⟩;show Q (.ref g.objs.size) _;rw[n2] at q0 qq ⊢;exact hq qk q0 qq
 .show(Fp n ls.length).zipIdx=_
  rw[aih];rfl
def a2v{n k:Nat}{Z:Y3}(hd:A.handled=none)(h0:Z[0]?=some l)(H:ZN s.heap n Z .none ov k 0 s.heap)(hI:s.heap.get? (n+Z.length)=some (tpN (Fp n Z.length)))(hl:l<n)(c1:s.heap.IsTuple l xs)(e1:xs[k]?=none)
 (hE:∀h' e,(∀c o,(c<n\/n+Z.length+2<c)->s.heap.get? c=some o->h'.get? c=some o)->(∃o,h'.get? e=some o/\o.cls=.type "StopIteration")->E (.ref e) { s with heap:=h' }) :
 wpAny (model prog w) A (Builtin.«zip.__next__» ⟨[.ref (n+Z.length+2)],[]⟩) Q E s:=by
 have U:=H.z;obtain⟨c,hc⟩:∃c,Z.length=c+1:=⟨Z.length-1,by have:=aeb h0;lia⟩;have ne:(Fp n Z.length).toArray.isEmpty=false:=by rw[hc];simp[Fp]
 show wpAny _ _ (field (.ref (n+Z.length+2)) 2 >>= _) _ _ _;refine aa (jg U rfl (x:=.bool false) rfl (aa (jg U rfl (x:=.ref (n+Z.length)) rfl (aa (q9 hI rfl ?_)))));simp only[ne,cu,jd];unfold Builtin.SmallTypes.ownedTupleIsFree;refine aa (aa (jg U rfl (x:=.none) rfl (aj ?_)));simp only[j5];refine aa (wpAny_rule (aa (jg U rfl (x:=.ref (n+Z.length+1)) rfl (aa (jf U (by simp) λg1 z1 s1=>?_)))));have H1:=H.sz s1.extBut (f1:=.ellipsis) z1;have i1:g1.IsTupleIter n l k:=H1.a 0 l h0;have er:(Fp n Z.length).zipIdx=(Value.ref n,0)::(List.range' 1 c).map λj=>(Value.ref (n+j),j):=by rw[aih,hc];rfl
 rw[er,List.forIn_cons];refine aa (aa (aa (wpAny_onRaise (aa (aie (s:={ s with heap:=g1 }) hd i1 (ap4 c1 λo=>H1.low _ o (by lia)) e1 λg2 x s2 z_=>?_)))));obtain⟨o,R,o2⟩:=z_;have z2:IsZip g2 (n+Z.length+2) (n+Z.length) (n+Z.length+1) .ellipsis:=s2 _ _ (by lia) H1.z;have ne:x≠n+Z.length+2:=λy=>by subst y;rw[z2] at R;cases R;simp at o2
 exact jf z2 (by simp) λg3 _ s3=>hE g3 x (λc o y1 e=>s3.extBut _ _ (by lia) (s2 _ _ (by lia) (s1.extBut _ _ (by lia) e))) ⟨o,s3.extBut _ _ ne R,o2⟩
noncomputable def zI(a:Addr):Obj:={ cls:=.type "tuple_iterator",data:=.fields #[.ref a,.int 0 0] }
noncomputable def pI(h:Heap)(Z:Y3):Heap:=Z.foldl (λh l=>h.push (zI l)) h
theorem aa0:∀(Z:Y3)(h:Heap),(pI h Z).objs.size=h.objs.size+Z.length
 |[],h=>rfl
 |l::Z,h=>by
  have:=aa0 Z (h.push (zI l));rw[iz] at this;rw[gr,<- Nat.add_assoc,Nat.add_right_comm];exact this
theorem aii:∀{ls:Y3}{h:Heap},h.get? c=some o->(pI h ls).get? c=some o
 |[],_,e=>e|x::ls,h,e=>aii (ls:=ls) (h:=h.push (zI x)) (ao _ e)
theorem ap5:∀{ls:Y3}{h:Heap}{j:Nat},ls[j]?=some l->(pI h ls).get? (h.objs.size+j)=some (zI l)
 |x::ls,h,0,e=>by cases e;exact aii (ls:=ls) (h:=h.push (zI l)) (bu _ rfl)
 |x::ls,h,j+1,e=>by
  have:=ap5 (h:=h.push (zI x)) (ls:=ls) (j:=j) e;rw[iz] at this;rw[<- Nat.add_assoc,Nat.add_right_comm];exact this
def av4{Q:List Value->Shared->Prop}(ht:∀l∈ls,∃xs,s.heap.IsTuple l xs)(q:Q (Fp s.heap.objs.size ls.length) { s with heap:=pI s.heap ls }):wpAny (model prog w) A (Builtin.SmallTypes.iterAll (ls.map .ref)) Q E s:=by
 unfold Builtin.SmallTypes.iterAll;refine aa (qt _ (λU wj R=>∃d,d<=ls.length/\U=(ls.drop d).map .ref/\wj=(Fp s.heap.objs.size d).toArray/\R={ s with heap:=pI s.heap (ls.take d) }) _ (λx U b R hI=>?_) (λb R hI=>?_) _ _ ⟨0,jr _,rfl,rfl,rfl⟩)
 .obtain⟨d,Z,e,rfl,rfl⟩:=hI
  have Z:d<ls.length:=by
   rcases xj d ls.length with h|h
   .exact h
   .rw[List.drop_of_length_le h] at e;cases e
  rw[List.drop_eq_getElem_cons Z,gh] at e;injection e with e1 e2
  subst e1 e2;obtain⟨xs,hx⟩:=ht ls[d] (p8 Z);refine aa (ik (wpAny_pyIter_tuple (ap4 hx λo e=>aii e) (aj ⟨d+1,Z,rfl,?_,?_⟩)))
  .rw[aa0,zg,Nat.min_eq_left (t7 Z)]
   simp[Fp,qy]
  .have:pI s.heap (ls.take (d+1))=(pI s.heap (ls.take d)).push (zI ls[d]):=by
    rw[List.take_succ,dh Z,pI,List.foldl_append];rfl
   rw[this];rfl
 .obtain⟨d,Z,e,rfl,rfl⟩:=hI
  have Z:d=ls.length:=by
   rcases xj d ls.length with h|h
   .rw[List.drop_eq_getElem_cons h] at e;cases e
   .exact Nat.le_antisymm Z h
  subst Z;rw[ye];exact aj (by simpa using q)
noncomputable def zB(h:Heap)(Z:Y3):Heap:=(pI h Z).push (tpN (Fp h.objs.size Z.length))
noncomputable def zC(h:Heap)(Z:Y3):Heap:=(zB h Z).push (tpN ((Fp h.objs.size Z.length).map λ_=>.none))
noncomputable def zD(h:Heap)(Z:Y3):Heap:=(zC h Z).push { cls:=.type "zip",data:=.fields #[.none,.bool false,.bool false,.ref (pI h Z).objs.size,.ref (zB h Z).objs.size] }
def ap6(h3:ls.length<=3) :
 Meets (Builtin.«zip.__new__» ⟨.type "zip"::ls.map .ref,[]⟩) (λ_ R s=>(∀l∈ls,∃xs,s.heap.IsTuple l xs)/\R (.ok (.ret (.ref (zC s.heap ls).objs.size))) { s with heap:=zD s.heap ls }) :=
 .of_wp λprog w A R s h=>by
  obtain⟨Z,g,d,tk,U⟩:=s;obtain⟨ht,h⟩:=h;have Oq:=sub_zip;have f1:∀{Q:List Value->Shared->Prop}{A E},Q (Fp Z.objs.size ls.length) ⟨pI Z ls,g,d,tk,U⟩->wpAny (model prog w) A (Builtin.SmallTypes.iterAll (ls.map .ref)) Q E ⟨Z,g,d,tk,U⟩:=λq=>av4 ht q
  have sz:∀(xs:Zl),xs.length<=3->xs.toArray.size<=sizeLine:=λxs h=>gw (by simpa using h) (show 3<=sizeLine by decide)
  have f2:∀{Q:Y1}{A E}{h:Heap},Q (.ref h.objs.size) ⟨h.push (tpN (Fp Z.objs.size ls.length)),g,d,tk,U⟩->wpAny (model prog w) A (newTuple (Fp Z.objs.size ls.length)) Q E ⟨h,g,d,tk,U⟩:=λq=>wpAny_newTuple q (sz _ (by simpa[Fp] using h3))
  have f3:∀{Q:Y1}{A E}{h:Heap},Q (.ref h.objs.size) ⟨h.push (tpN ((Fp Z.objs.size ls.length).map λ_=>.none)),g,d,tk,U⟩->wpAny (model prog w) A (newTuple ((Fp Z.objs.size ls.length).map λ_=>.none)) Q E ⟨h,g,d,tk,U⟩:=λq=>wpAny_newTuple q (sz _ (by simpa[Fp] using h3))
  wp_walk using f1,f2,f3
  exact⟨_,rfl,h⟩
def av5{n:Nat}(h3:ls.length<=3)(U:s.heap.objs.size=n)(ct:checkTypeCall "zip" ⟨ls.map .ref,[]⟩=pure ())(cb:checkBuiltinCall "zip.__new__" ⟨.type "zip"::ls.map .ref,[]⟩=pure ())(ca:∀obj,argsOk "object.__init__" ⟨obj::ls.map .ref,[]⟩)(ht:∀l∈ls,∃xs,s.heap.IsTuple l xs)
 (h:∀Z,ZN Z n ls .none ((Fp n ls.length).map λ_=>.none) 0 0 Z->Z.get? (n+ls.length)=some (tpN (Fp n ls.length))->(∀c o,s.heap.get? c=some o->Z.get? c=some o)->Q (.ref (n+ls.length+2)) { s with heap:=Z }):wpAny (model prog w) A (call (.type "zip") (ls.map .ref)) Q E s:=by
 refine callType_new F.called_zip (by decide) ct cb ca F.entry_zip_new (ap6 h3) ⟨ht,?_⟩;have R:(pI s.heap ls).objs.size=n+ls.length:=by rw[aa0,U]
 have z4:(zB s.heap ls).objs.size=n+ls.length+1:=by unfold zB;rw[iz,R]
 have z5:(zC s.heap ls).objs.size=n+ls.length+2:=by unfold zC;rw[iz,z4]
 have up:∀{h:Heap}{o':Obj}{c:Addr}{o:Obj},h.get? c=some o->(h.push o').get? c=some o:=λe=>ao _ e
 have g6:(zD s.heap ls).get? (zC s.heap ls).objs.size=some _:=bu _ rfl;have g5:(zD s.heap ls).get? (zB s.heap ls).objs.size=some _:=up (bu _ rfl);have g4:(zD s.heap ls).get? (pI s.heap ls).objs.size=some _:=up (up (bu _ rfl));rw[R,z4,z5] at g6;rw[z4,U] at g5;rw[R,U] at g4;show _/\_;rw[z5];exact⟨⟨_,g6,rfl⟩,h _ ⟨g6,g5,λj l e=>⟨_,up (up (up (by rw[<- U];exact ap5 e))),rfl,rfl⟩,λ_ _ _ e=>e⟩ g4 λc o e=>up (up (up (aii e)))⟩
theorem akt:∀Z:List Value,Z.length=2->checkTypeCall "zip" ⟨Z,[]⟩=pure ()/\checkBuiltinCall "zip.__new__" ⟨.type "zip"::Z,[]⟩=pure ()/\∀obj,argsOk "object.__init__" ⟨obj::Z,[]⟩
 |[a,b],_=>⟨F.typeCall_zip_2 _ _,F.newCall_zip_2 _ _,λobj=>F.args_object_init_3 obj _ _⟩
end EnT
namespace L2
open PySem PySem.Spec EnT
noncomputable def IzN(K:Fg)(R:X9):It :=
 ⟨λi H=>∃U:List V,U.length=R.length/\∀(j:Nat) a,R[j]?=some a->∃Z x,Ia K H a Z/\Z[i]?=some x/\U[j]?=some x,
  λi H v H'=>∃p U,v=.ref p/\H p=none/\H'=upd H p (.tup U)/\U.length=R.length/\∀(j:Nat) a Z,R[j]?=some a->Ia K H a Z->U[j]?=Z[i]?,
  λi H=>∃a Z,R[0]?=some a/\Ia K H a Z/\Z.length<=i⟩
def TN(n:Nat)(Z:X9)(i:Nat)(h:Heap):Prop:=(∃U,ZN h n Z .none U i 0 h/\U.length=Z.length)/\h.get? (n+Z.length)=some (tpN (Fp n Z.length))
noncomputable def FN(n m:Nat):List Addr:=List.range' n (m+3)
def FN.mem{n m c:Nat}:c∈FN n m↔n<=c/\c<n+m+3:=List.mem_range'_1
theorem at_of(I:Inv X pins σ H s):∀{as:X9}{vs:List V},vs.length=as.length->(∀(j:Nat) a,as[j]?=some a->∃U x,Ia X.K H a U/\U[i]?=some x/\vs[j]?=some x)->∃Z,Vals vs Z/\At s.heap as i Z
 |[],[],_,_=>⟨[],.nil,rfl,λj l h=>by simp at h⟩
 |a::as,v::vs,l,h=>by
  obtain⟨Z,r,e,q⟩:=at_of I (as:=as) (vs:=vs) (by simpa using l) (λj a e=>h (j+1) a e);obtain⟨U,x,q1,x1,hv⟩:=h 0 a rfl;cases hv;obtain⟨i1,r1,p1,_⟩:=I.tuple q1;obtain⟨R,u1,w1⟩:=r1.get x1;refine⟨R::Z,.cons w1 r,by simp[e],λj l hj=>?_⟩;cases j with
  |zero=>cases hj;exact⟨i1.toArray,R,p1,by simpa using u1,rfl⟩|succ j=>exact q j l hj
theorem av6{n:Nat}(h3:U.length<=3)(Xn:U≠[])(hl:∀a∈U,a<n):Turn P w K (.Tuple ts k0 pt) (IzN K U) (FN n U.length) (n+U.length+2) (TN n U) where
 mem:=FN.mem.mpr (by lia)
 obj:=λi h st e R=>by
  obtain⟨⟨ov,H,_⟩,hI⟩:=st;obtain⟨c1,c2⟩:=FN.mem.mp R
  by_cases z:e<n+U.length
  .have q:e-n<U.length:=by lia
   obtain⟨o,e1,d1,f1⟩:=H.a (e-n) U[e-n] (by simp[q]);rw[show n+(e-n)=e by lia] at e1;exact⟨_,e1,λv z=>by rw[f1] at z;cases z⟩
  .rcases(show e=n+U.length\/e=n+U.length+1\/e=n+U.length+2 by lia) with rfl|rfl|rfl
   .exact⟨_,hI,λv z=>by cases z⟩
   .exact⟨_,H.o,λv z=>by cases z⟩
   .exact⟨_,H.z,λv z=>by cases z⟩
 keep:=λi h h' st k=>by
  obtain⟨⟨ov,H,l⟩,hI⟩:=st;have kk:∀d o,n<=d->d<n+U.length+3->h.get? d=some o->h'.get? d=some o:=λd o h1 h2=>k d (FN.mem.mpr ⟨h1,h2⟩) o
  exact⟨⟨ov,⟨kk _ _ (by lia) (by lia) H.z,kk _ _ (by lia) (by lia) H.o,λj l h=>aea (H.a j l h) λo=>kk _ o (by lia) (by have:=aeb h;lia),λ_ _ _ e=>e⟩,l⟩,kk _ _ (by lia) (by lia) hI⟩
 item:=by
  intro X hP hw hK R i qq s σ H E I hf st hg;subst hP hw hK;obtain⟨⟨ov,Z,lo⟩,hI⟩:=st;have lt:n+U.length+2<s.heap.objs.size:=az Z.z
  obtain⟨vs,lv,hg⟩:=hg;obtain⟨us,r,ha⟩:=at_of I lv hg;have ty:s.TypeIs (.ref (n+U.length+2)) "zip" := ⟨_,Z.z,rfl⟩;unfold pyNext;refine aa (vf (j4 (name:=Str.ofString "__next__") ty F.slot_zip_next (jc F.slot_zip_next ty F.entry_zip_next ?_ (F.args_zip_next_1 _))));refine av3 Xn h3 Z lo hI hl ha λh1 Z1 t1=>aj ⟨_,rfl,?_⟩
  refine wpAny_letOwnedTupleGo_zip Z1.z λh2 z2 s2=>?_
  have s2:Heap.SameBut (n+U.length+2) h1 h2:=s2;have Z2:=Z1.sz s2.extBut (f1:=.none) z2;have t2:h2.get? s.heap.objs.size=some (tpN us):=s2.extBut _ _ (vm lt) t1;refine⟨.ref s.heap.objs.size,upd H s.heap.objs.size (.tup vs),I.Ze (t':=s.toks) hf (λc o R zz=>Z2.low c o (by rw[FN.mem] at R;lia) zz) (bc _) ⟨by rw[lv];exact gw h3 (show 3<=sizeLine by decide),us,r,⟨_,t2,rfl,_,rfl,rfl⟩⟩,rfl,
   ⟨_,vs,rfl,I.zm.fresh (bc _),rfl,lv,λj a ys ja hy=>?_⟩,⟨⟨us,⟨Z2.z,Z2.o,Z2.a,λ_ _ _ e=>e⟩,ha.1⟩,Z2.low _ _ (by lia) hI⟩,λc R=>?_⟩
  .obtain⟨xs,x,q1,q2,q3⟩:=hg j a ja
   rw[I.Sw hy q1,q2,q3]
  .rw[FN.mem] at R
   rw[j9 (by lia)];exact(hf c (FN.mem.mpr R)).1
 done:=by
  intro X hP hw hK R i qq s σ H E I hf st hg;subst hP hw hK;obtain⟨⟨ov,Z,lo⟩,hI⟩:=st;obtain⟨a,xs,a0,q1,x1⟩:=hg;obtain⟨i1,r1,p1,_⟩:=I.tuple q1;have qk:=r1.length;have ty:s.TypeIs (.ref (n+U.length+2)) "zip" := ⟨_,Z.z,rfl⟩;unfold pyNext;refine aa (vf (j4 (name:=Str.ofString "__next__") ty F.slot_zip_next (jc F.slot_zip_next ty F.entry_zip_next ?_ (F.args_zip_next_1 _))));refine a2v (I.ok.hd R) a0 Z hI (hl a (au a0)) (xs:=i1.toArray) p1 (by simp;lia) λh' e k z_=>?_
  obtain⟨o,o1,o2⟩:=z_;exact aa (m8 (T := "StopIteration") (b:=true) ⟨o,o1,o2⟩ isSubtype_stop (aj ⟨rfl,I.aif (t':=s.toks) hf λc o R zz=>k c o (by rw[FN.mem] at R;lia) zz⟩))
 self:=λ_ _ _ _ _ st h=>by obtain⟨⟨ov,Z,_⟩,_⟩:=st;exact wpAny_pyIter_zip Z.z h
theorem Zf:∀{Z:X9}{U:Zl},Vals (Z.map V.ref) U->U=Z.map Value.ref
 |[],_,h=>by cases h;rfl|_::_,_,h=>by cases h with|cons r t=>cases r;rw[Zf t];rfl
def bab(hg:Gl X "zip")(hm:X.mg "zip" = none)(ha:PA X (a::es) ta)(hs:starEach (a::es) X.env=(false,eval a X.env)::starEach es X.env)(Hy:(backTo pos (starEach es X.env)).any (·.1)=false) :
 PI X (.Tuple ts k0 pt) (.Call (.Name "zip" p) (a::es) [] pos) (fun σ H R=>ta σ H λvs H1=>∃U:List Addr,vs=U.map V.ref/\U.length=2/\(∀q∈U,∃xs,Ia X.K H1 q xs)/\R (IzN X.K U) H1):=by
 intro qq s σ H R I h;refine PyProof.Rows.Call_ (Dk I hg hm (show bootBuiltins "zip" = some (.type "zip") by decide+kernel) (jk (Bf (ha pos qq s σ H _ I h) λus s1 z=>?_) hs Hy));obtain⟨vs,H1,I1,r1,U,rfl,l,ht,hR⟩:=z;cases Zf r1;obtain⟨c1,c2,c3⟩:=akt (U.map Value.ref) (by simpa using l);have h3:U.length<=3:=by lia
 have tp:∀q∈U,∃xs,s1.heap.IsTuple q xs:=λq hq=>by obtain⟨xs,hx⟩:=ht q hq;obtain⟨i1,_,p1,_⟩:=I1.tuple hx;exact⟨_,p1⟩
 refine av5 h3 rfl c1 c2 c3 tp λh' Z hI kk=>wpAny_pyIter_zip Z.z ?_
 refine⟨s1.heap.objs.size+U.length+2,_,_,_,H1,rfl,I1.kept (t':=s1.toks) kk,av6 h3 (λz=>by subst z;simp at l) λq hq=>by obtain⟨xs,o,e,_⟩:=tp q hq;exact az e,⟨⟨_,Z,by simp[Fp]⟩,hI⟩,λc hc=>?_,hR⟩;have qk:=(FN.mem.mp hc).1;exact I1.aj3 qk (I1.zm.fresh qk)
end L2
namespace Sm
open PySem L2
open MW (Ex Cz OEx Lj Bp o6 Lv Tg Res cg MO Gh Cp Op2 Blt Bm Kx Src)
def aku{i:Nat}(h:(MW.Cj ds 0)[i]?=some d):∃z,ds[i]?=some z/\d=.tup [.int (i:Nat),z]:=by
 unfold MW.Cj at h;rw[iw,yl] at h;cases e:ds[i]? with
 |none=>rw[e] at h;simp at h|some z=>rw[e] at h;simp at h;exact⟨z,rfl,h.symm⟩
def aij{X:Cx}(r:lg X.K ι H ds R)(hk:∀Z U,LeX ι H Z U->SqX bb X.K U q R):aph nm X.K ι H (.con (MW.Cj ds 0)) (Ien bb X.K q):=λZ U M1 le S1=>by
 refine⟨λi d hi hd=>?_,λ_=>⟨R,hk Z U le,?_⟩⟩
 .obtain⟨z,e1,rfl⟩:=aku (show(MW.Cj ds 0)[i]?=some d from hd)
  obtain⟨v,g1,g2⟩:=(r.Lh le).get e1;refine⟨⟨R,v,hk Z U le,g1⟩,λu H2 ⟨p,x,e2,e3,e4,e5⟩=>?_⟩;have ex:x=v:=by have:=e5 R (hk Z U le);rw[g1] at this;cases this;rfl
  subst ex e2 e4;obtain⟨S2,yt,r2⟩:=Oj (X:=X) S1 e3 (.cons (.int _) (.cons g2 .nil));exact⟨yt,S2,r2⟩
 .show R.length<=(MW.Cj ds 0).length
  rw[<- r.length];simp[MW.Cj]
def bac(hg:Gl X "enumerate")(hm:X.mg "enumerate" = none)(ha:PE X a (tE nm W X.K a'))(Us:noStar a=true):PI X (.Tuple ts k0 pt) (.Call (.Name "enumerate" pr) [a] [] pos) (tI nm W X.K (.enm a')):=by
 intro U s0 σ H R' I hh;obtain⟨ι,ρ,M,s,M',S,R,e,q⟩:=hh;rw[MW.ag6] at e;obtain⟨x,M1,e1,e⟩:=dz e;refine PI.weak (baa (ts:=ts) (k0:=k0) (pt:=pt) (p:=pr) (pos:=pos) hg hm (N6 ha Uj (m6 Us _ _)) (m6 Us _ _)) (wi':=λqq H0 R0=>qq=σ/\H0=H/\R0=R') (λqq H0 R0 ⟨z1,z2,z3⟩=>?_) U s0 σ H R' I ⟨rfl,rfl,rfl⟩;subst z1 z2 z3;refine Wy (es':=.cons a' .nil) (ds:=[x]) (M1:=M1) S R (by rw[MW.Dm,e1];simp) λZ H1 vs le S1 R1 r=>?_
 cases r with
 |cons r1 r2 =>
  cases r2;cases r1 with
  |@tup p ds us h1 rr =>
   cases e;exact⟨true,p,rfl,⟨us,Ia.of h1⟩,q Z H1 _ le S1 (aij rr λqk H2 yt=>Ia.of (yt.tup _ _ h1))⟩
  |@vl p ds us h1 n1 rr =>
   cases e;exact⟨false,p,rfl,⟨us,Gz.of h1⟩,q Z H1 _ le S1 (aij rr λqk H2 yt=>Gz.of (yt.lst _ _ n1.1 h1))⟩
  |_=>cases e
set_option tactic.hygienic true in
def a2w:De X (binaryOp .Add) (rOp nm X.K (MW.Er .aji)) :=
 De.of ao4 λv u H Q ι M x y d M' S rv ru e q=>by
  have e:MW.afc x y M=.ok d M':=e;unfold MW.afc at e;split at e<;>try cases e
  rename_i J G h1 h2
  by_cases Z:J.length+G.length<=100000
  case neg=>rw[bw Z] at e;cases e
  rw[cj Z] at e;obtain⟨p,vs,rfl,g1,U⟩:=ql S rv h1;obtain⟨p2,Y,rfl,R,C⟩:=ql S ru h2;refine⟨p,p2,vs,Y,rfl,rfl,g1,R,by rw[<- U.length,<- C.length];exact gw Z Wv,λp3 h3=>?_⟩;have e:Res.ok (MW.D.ref M.length) (M++[.lst (J++G)])=.ok d M':=e;cases e;obtain⟨L,z2,z3⟩:=aaq S h3 (U.append C);exact q _ _ _ z2 L z3
def av7{nm:Nm}{W:Gh}{X:Cx}{o:Expr}{o':Ex}{pos Z:Pos}{k f:Nat}{fa C:Addr}{fd:FuncData}{ps:Yf}{m:Str}{mi ci:Nat}{cl:MW.Cl}{pl:Sem Bool}(ho:PE X o (tE nm W X.K o'))(c0:Cls X.K C)(q1:Meth X.K C m fa)(F:Fj X.prog X.w X.K X.mg X.base CX0 k fa fd ps (spF nm W X.K 1 f))(hr:Af k X.A)(hb:Binds X.K fd ps [])
 (q0:∀c' U,W.cls[c']?=some U->∀g,U.meths.lookup mi=some g->nm.cls c'=some C/\g=f) (qv:∀i,nm.fld i≠m)
 (ht:eval (.Call (.Attribute o m Z) [] [] pos) X.env=(do
  let ov <- eval o X.env
  standAt Z.atName
  let (f,first) <- holding [ov] (getMethod ov m pl)
  callWith pos f first (backTo pos (starEach [] X.env)) (backToKw pos (keywordEach [] X.env)))) :
 PE X (.Call (.Attribute o m Z) [] [] pos) (tE nm W X.K (.meth o' mi .nil)) :=
 PE.of (aos (E:=E0) ho c0 q1 F hr hb .nil ah0 ht) fun σ H Q ι ρ M d M' S R e q=>by
  rw[MW.ab2] at e;obtain⟨x,M1,e1,e⟩:=dz e;rw[MW.Jk] at e;refine one S R e1 λqq H1 v le S1 R1 r=>?_
  obtain⟨j,hx⟩:∃j,x=.ref j:=by cases x<;>first|exact⟨_,rfl⟩|cases e
  subst hx;obtain⟨p,rfl,hp⟩:∃p,v=.ref p/\qq.l[j]?=some p:=by cases r with|ref z=>exact⟨_,rfl,z⟩
  have e:(match M1[j]? with
   | some (.ins c _)=>(match(W.cls[c]?).bind λC=>C.meths.lookup mi with
    | some f=>W.call f [.ref j] M1|none=>.bad)
   | _=>.bad)=Res.ok d M':=e
  cases hM:M1[j]? with
  |none=>rw[hM] at e;cases e
  |some ob =>
   rw[hM] at e;cases ob with
   |ins ci fs =>
    have e:(match(W.cls[ci]?).bind λC=>C.meths.lookup mi with|some f=>W.call f [.ref j] M1|none=>.bad)=Res.ok d M':=e;cases hL:(W.cls[ci]?).bind λC=>C.meths.lookup mi with
    |none=>rw[hL] at e;cases e
    |some g =>
     rw[hL] at e;have e:W.call g [.ref j] M1=.ok d M':=e;obtain⟨U,h1,h2⟩:=dw.mp hL;obtain⟨h3,rfl⟩:=q0 ci U h1 g h2;obtain⟨C',dx,l,g1,g2,g3⟩:=S1.obj j _ p hM hp;rw[h3] at g1;cases g1;exact⟨p,dx,l,rfl,g2,W2 qv g3,qq,M1,[.ref j],d,M',S1,.cons r .nil,rfl,e,λqk H' v Vf S' r'=>q qk H' v (le.trans Vf) S' r'⟩
   |_=>cases e
def av8:PS X st (tS nm W X.K (.raise ci U)):=λZ s σ H D I hh=>by obtain⟨ι,ρ,M,fl,qq,M',S,R,e,q⟩:=hh;rw[MW.am2] at e;obtain⟨x,M1,e1,e⟩:=dz e;cases e
def ayo(h:PE X a t):PE X (.BoolOp op [a] pos) t:=λZ s U H Q I q=>PyProof.Rows.BoolOp_one (h Z s U H Q I q)
theorem aec{K:Fg}{ι:Io}{H:Hp}:∀{ds:List Dv}{vs:List V}{Z:List (List Dv)},MW.Pr ds=some Z->lg K ι H ds vs->∃U:List Addr,vs=U.map V.ref/\U.length=Z.length/\∀(j:Nat) l,Z[j]?=some l->∃a R,U[j]?=some a/\H a=some (.tup R)/\lg K ι H l R
 |[],_,_,e,r=>by cases e;cases r;exact⟨[],rfl,rfl,λj l h=>by simp at h⟩
 |d::ds,_,_,e,r=>by
  cases r with
  |cons r1 r2 =>
   cases d with
   |tup l =>
    obtain⟨Z,e1,rfl⟩:=dg.mp (show(MW.Pr ds).map (l::·)=_ from e);obtain⟨U,rfl,h1,h2⟩:=aec e1 r2;cases r1 with
    |@tup p _ R hp ru =>
     refine⟨p::U,rfl,by simp[h1],λj l h=>?_⟩;cases j with
     |zero=>cases h;exact⟨p,R,rfl,hp,ru⟩|succ j=>exact h2 j l h
   |_=>cases e
theorem aed{K:Fg}{ι:Io}{H:Hp}:∀{dss:List (List Dv)}{as:X9},as.length=dss.length->(∀(j:Nat) l,dss[j]?=some l->i<l.length/\∃a U,as[j]?=some a/\Ia K H a U/\lg K ι H l U)->∃Z:List V,Z.length=as.length/\lg K ι H (dss.map λl=>l.getD i .non) Z/\∀(j:Nat) a,as[j]?=some a->∃xs x,Ia K H a xs/\xs[i]?=some x/\Z[j]?=some x
 |[],as,l,_=>by cases as with
  |nil=>exact⟨[],rfl,.nil,λj a h=>by simp at h⟩
  |cons _ _=>cases l
 |l::dss,as,hl,h=>by cases as with
  |nil=>cases hl
  |cons a as =>
   obtain⟨Z,g1,g2,g3⟩:=aed (i:=i) (dss:=dss) (as:=as) (by simpa using hl) (λj l e=>h (j+1) l e);obtain⟨lt,_,U,e1,q,r⟩:=h 0 l rfl;cases e1;obtain⟨v,x1,x2⟩:=r.get (dh lt);refine⟨v::Z,by simp[g1],.cons (by show Rep K ι H (l.getD i .non) v;rw[fc,dh lt];exact x2) g2,λj b R=>?_⟩;cases j with
   |zero=>cases R;exact⟨U,v,q,x1,rfl⟩|succ j=>exact g3 j b R
def av9{X:Cx}{n:Nat}{l:List Dv}{r:List (List Dv)}(hn:∀(j:Nat) k,(l::r)[j]?=some k->k.length=n)(hl:U.length=(l::r).length)(h:∀(j:Nat) k,(l::r)[j]?=some k->∃a Z,U[j]?=some a/\H a=some (.tup Z)/\lg X.K ι H k Z) :
 aph nm X.K ι H (.con (MW.Rx (l::r) n)) (IzN X.K U):=λqq H1 M1 le S1=>by
 refine⟨λi d hi R=>?_,λ_=>?_⟩
 .have R:(MW.Rx (l::r) n)[i]?=some d:=R
  have hi:i<n:=by simpa[MW.Rx] using(ak.mp R).1
  have ed:d=.tup ((l::r).map λl=>l.getD i .non):=by rw[MW.Rx,iw,xq hi] at R;cases R;rfl
  subst ed;obtain⟨vs,g1,g2,g3⟩:=aed (i:=i) (K:=X.K) (ι:=qq) (H:=H1) hl λj k e=>by obtain⟨a,Z,a1,a2,a3⟩:=h j k e;exact⟨by rw[hn j k e];exact hi,a,Z,a1,Ia.of (le.tup _ _ a2),a3.Lh le⟩
  refine⟨⟨vs,g1,g3⟩,λu' H2 z=>?_⟩;obtain⟨p,qk,e5,e6,e7,e8,e9⟩:=z;have:qk=vs:=by
   apply wy;intro j;rcases xj j U.length with q|q
   .obtain⟨xs,x,x1,x2,x3⟩:=g3 j U[j] (by simp[q])
    rw[e9 j U[j] xs (by simp[q]) x1,x2,x3]
   .rw[lz (by rw[e8];exact q),lz (by rw[g1];exact q)]
  subst this e5 e7;obtain⟨S2,yt,r2⟩:=Oj (X:=X) S1 e6 g2;exact⟨yt,S2,r2⟩
 .obtain⟨a,Z,a1,a2,a3⟩:=h 0 l rfl
  refine⟨a,Z,a1,Ia.of (le.tup _ _ a2),?_⟩;show Z.length<=(MW.Rx (l::r) n).length
  have:=a3.length;have:=hn 0 l rfl;simp[MW.Rx]
  lia
def bae(hg:Gl X "zip")(hm:X.mg "zip" = none)(ha:PA X (a::es) (Ws nm W X.K Z))(hs:starEach (a::es) X.env=(false,eval a X.env)::starEach es X.env)(Hy:(backTo pos (starEach es X.env)).any (·.1)=false)(h2:Cz.len Z=2) :
 PI X (.Tuple ts k0 pt) (.Call (.Name "zip" pr) (a::es) [] pos) (tI nm W X.K (.zip Z)):=by
 intro U s0 σ H R' I hh;obtain⟨ι,ρ,M,s,M',S,R,e,q⟩:=hh;rw[MW.ag7] at e;obtain⟨ds,N1,e1,e⟩:=dz e;have hd:=Gd e1;cases et:MW.Pr ds with
 |none=>rw[et] at e;cases e
 |some qv=>cases qv with
  |nil=>rw[et] at e;cases e
  |cons l r =>
   rw[et] at e
   by_cases hc:(r.all λx=>x.length==l.length)=true
   .have e:(if(r.all λx=>x.length==l.length)=true then Res.ok (Src.con (MW.Rx (l::r) l.length)) N1 else .bad)=.ok s M':=e
    rw[cj hc] at e;cases e;refine PI.weak (bab (ts:=ts) (k0:=k0) (pt:=pt) (p:=pr) (pos:=pos) hg hm ha hs Hy) (wi':=λqq H0 R0=>qq=σ/\H0=H/\R0=R') (λqq H0 R0 z=>?_) U s0 σ H R' I ⟨rfl,rfl,rfl⟩;obtain⟨rfl,rfl,rfl⟩:=z;refine Wy S R e1 λqk H1 vs le S1 R1 rr=>?_
    obtain⟨as,rfl,g1,g2⟩:=aec et rr;have gl:=rr.length;rw[du] at gl;refine⟨as,rfl,by rw[<- gl,hd];exact h2,λa ha=>?_,q qk H1 _ le S1 (av9 (λj k hk=>?_) g1 g2)⟩
    .obtain⟨j,hj⟩:=List.getElem?_of_mem ha
     have lt:=(ak.mp hj).1;rw[g1] at lt;obtain⟨a',us,x1,x2,_⟩:=g2 j _ (dh lt);rw[hj] at x1;cases x1;exact⟨us,Ia.of x2⟩
    .cases j with
     |zero=>cases hk;rfl|succ j=>simpa using jb.mp hc k (au hk)
   .have e:(if(r.all λx=>x.length==l.length)=true then Res.ok (Src.con (MW.Rx (l::r) l.length)) N1 else .bad)=.ok s M':=e
    rw[bw hc] at e;cases e
end Sm
namespace Sm
open PySem L2
open MW (Ex Cz OEx Lj Bp o6 Lv Tg Res cg MO Gh Cp Op2 Blt Bm Kx Src)
def awa(e:MW.Gg .get x ds M=.ok d M'):∃n k d0,x=.ref n/\ds=[k,d0]/\M'=M/\∃Z q,M[n]?=some (.dK Z)/\MW.Uu k=some q/\d=(MW.wg Z q).getD d0:=by
 obtain⟨n,Z,rfl,hM,U⟩:=avo e
 match ds,U with
 |[k,d0],U =>
  obtain⟨e2,e3⟩:=xx U;obtain⟨q,R,h2⟩:=dg.mp e2;exact⟨n,k,d0,rfl,rfl,e3,Z,q,hM,R,h2.symm⟩
 |[],U=>cases U|[_],U=>cases U|_::_::_::_,U=>cases U
set_option tactic.hygienic true in
def ty_dict{X:Cx}(S:mz nm X.K Z H M)(r:Rep X.K Z H x v)(h:MW.Jj .get x M=true):tyV X.K "dict" v H:=by
 cases r with
 |@ref n p hp =>
  have h:(match M[n]? with|some (.dK _)=>true|_=>false)=true:=h;split at h
  .rename_i Y
   obtain⟨l,G,_⟩:=S.obj n _ p Y hp;exact .inr (.inr (.inl ⟨rfl,.inl ⟨_,G⟩⟩))
  .cases h
 |_=>cases h
def baf(hu:X.A.units+1<cLine):MtR X "dict.get" (rM nm X.K .get):=λq0 s σ H v vs u us Q I ru Tf hh=>by
 obtain⟨ι,M,x,ds,d,M',S,r,rs,e,_,q⟩:=hh;obtain⟨n,k,d0,rfl,rfl,rfl,qv,U,hM,hk,rfl⟩:=awa e;cases rs with
 |cons rk rt =>
  cases rt with
  |cons rd rt =>
   cases rt;cases Tf with
   |cons R Z =>
    cases Z with
    |cons qk Z =>
     cases Z;cases r with
     |ref ha =>
      cases ru;obtain⟨l,h1,h2⟩:=S.obj n _ _ hM ha;have hy:=Tc rk hk;subst hy;refine a1e hu I (Ou.k h1) R qk λw' s' I' qq=>⟨_,H,I',qq,q ι H _ (Le.refl _ _) S ?_⟩
      cases hl:MW.wg qv U with
      |none=>rw[(h2.look (k:=U)).2 hl];exact rd|some d=>obtain⟨z,h3,h4⟩:=(h2.look (k:=U)).1 d hl;rw[h3];exact h4
set_option tactic.hygienic true in
def a2x(hr:Af 8 X.A)(hg:Gl X n)(hm:X.mg n=none)(hv:bootBuiltins n=some (.type "list"))(hn:n≠"__name__")(Ue:(n==("__debug__" : Str))=false)(q4:Gl X J)(q3:X.mg J=none)(qq:bootBuiltins J=some (.type "range"))(Yh:J≠"__name__")(q5:(J==("__debug__" : Str))=false)(ha:PA X [a] (Ws nm W X.K (.cons a' .nil)))(he:starEach [.Call (.Name J p') [a] [] C] X.env=(false,eval (.Call (.Name J p') [a] [] C) X.env)::starEach [] X.env)(Hy:(backTo q1 (starEach [] X.env)).any (·.1)=false)(qv:starEach [a] X.env=(false,eval a X.env)::starEach [] X.env)(q0:(backTo C (starEach [] X.env)).any (·.1)=false) :
 PE X (.Call (.Name n p) [.Call (.Name J p') [a] [] C] [] q1) (tE nm W X.K (.ae9 a')):=by
 intro Y s σ H Q I hh;obtain⟨ι,ρ,M,d,M',S,R,e,q⟩:=hh;rw[MW.am0] at e;obtain⟨x,M1,e1,e⟩:=dz e;split at e<;>try cases e
 rename_i i;split at e<;>cases e;rename_i hi;refine je (Dk I hg hm hv ?_ hn Ue);refine jk (Q:=EP X Y σ Q) ?_ he Hy;rw[he];show wpAny _ _ (spliced ((false,eval (.Call (.Name J p') [a] [] C) X.env)::backTo q1 (starEach [] X.env))) _ _ s;refine um ?_;refine je (Dk I q4 q3 qq ?_ Yh q5);refine jk (Bf (ha C Y s σ H (λvs U=>∃G,vs=[.int i]/\Le ι H G U/\mz nm X.K G U M1) I ⟨ι,ρ,M,[.int i],M1,S,R,by simp[e1,Res.bind],λG U vs le S1 r=>?_⟩) λus Z ⟨vs,U,I1,r1,G,ev,Ve,S1⟩=>?_) qv q0
 .obtain⟨v,ev,rv⟩:=Iu r rfl
  cases rv;exact⟨G,ev,le,S1⟩
 subst ev;obtain⟨u,rfl,ru⟩:=Th r1;obtain⟨t,rfl⟩:=ru;refine call_range_1 ?_;show wpAny _ _ (spliced []) _ _ _;refine w5 ?_;have keep:∀b o,Z.heap.get? b=some o->(Z.heap.push { cls:=.type "range",data:=.fields #[.int 0 Z.toks,.int i t,.int 1 (Z.toks+1)] }).get? b=some o:=λb o e=>ao _ e
 refine call_list_range (n:=i.toNat) hr.hd (bu _ rfl) (small_one (by lia) (by lia) (by lia) (by omega)) (by rw[rangeSize_one];split<;>lia) (by lia) λh' tk y c' hk hS Ep=>?_
 have qk:(Z.heap.push { cls:=.type "range",data:=.fields #[.int 0 Z.toks,.int i t,.int 1 (Z.toks+1)] }).objs.size=Z.heap.objs.size+1:=iz ..;have hS:h'.get? (Z.heap.push { cls:=.type "range",data:=.fields #[.int 0 Z.toks,.int i t,.int 1 (Z.toks+1)] }).objs.size=some { cls:=.type "list",dict:=none,data:=.seq y c',slots:=#[] }:=hS;show EP X Y σ Q (.ref (Z.heap.push { cls:=.type "range",data:=.fields #[.int 0 Z.toks,.int i t,.int 1 (Z.toks+1)] }).objs.size) _;rw[qk] at hS ⊢;have hz:((List.range i.toNat).map λ(k:Nat)=>V.int (k:Int)).length<=sizeLine:=by simp[o8];omega
 have L:Z.heap.objs.size<=Z.heap.objs.size+1:=vh _
 have hf:U (Z.heap.objs.size+1)=none:=I1.zm.fresh L;have I3:Inv X Y σ (upd U (Z.heap.objs.size+1) (.lst ((List.range i.toNat).map λ(k:Nat)=>V.int (k:Int)))) { Z with heap:=h',toks:=tk } :=
  I1.laid (a:=Z.heap.objs.size+1) (t':=tk) (λb o e=>hk b o (keep b o e)) L (show Ah X.prog X.w _ _ _ (.lst _) from⟨hz,y.toList,c',W8 Ep,by simpa using hS⟩)
 obtain⟨S2,yt,r2⟩:=aaq (X:=X) S1 hf (W9 i.toNat);exact⟨.ref (Z.heap.objs.size+1),_,I3,rfl,q _ _ _ (Ve.trans yt) S2 r2⟩
def awb{e:Expr}(hu:X.A.units+8<cLine)(hk:PE X a (a0b i))(hv:PE X e (tC (.bl b))):PE X (.Dict [some a] [e] pos) (fun σ H Q=>∃q R,σ[i]?=some (some (.ref q))/\H q=some (.tup (R.map kV))/\∀p,H p=none->Q (.ref p) (upd H p (.dT [(R,.bl b)]))):=by
 intro Z s σ H Q I hh;obtain⟨q,R,h1,h2,hq⟩:=hh;have hn:=I.zm.fresh (bc s.heap.objs.size);have I1:=I.laid (a:=s.heap.objs.size) (o:=.dT []) (h':=s.heap.push { cls:=.type "dict",data:=.dict #[] }) (t':=s.toks) (λ_ _ q=>ao _ q) (bc _) (acz s.heap I.big);rw[arm_eval_Dict,zip_pairTrees [some a] [e] X.env pos rfl rfl,dictDisplay_pairs _ (by intro z;cases z) (by show 1<17;decide)];refine aa (wpAny_standAt (aa ?_));unfold subDict;refine aa (wpAny_alloc (aa (ik ?_)));rw[cj (by show 1<=15;decide)];refine aa (pairTrees_cons_walk (Bf (hk Z _ σ _ (λv H1=>v=.ref q/\H1=upd H s.heap.objs.size (.dT [])) I1 ⟨_,h1,rfl,rfl⟩) λu s2 z_=>?_));obtain⟨v,H1,I2,r1,rfl,rfl⟩:=z_;cases r1;refine Bf (hv Z s2 σ _ (λv H1=>v=.bl b/\H1=upd H s.heap.objs.size (.dT [])) I2 ⟨rfl,rfl⟩) λu3 s3 z_=>?_
 obtain⟨v,H1,I3,r3,rfl,rfl⟩:=z_;refine pairTrees_nil_walk (ik ?_);rw[List.forIn_cons];have hp:upd H s.heap.objs.size (.dT []) s.heap.objs.size=some (.dT []):=rz;obtain⟨z,hd,xs,qk,dd⟩:=Y4 I3.zm hp;cases qk;have U:upd H s.heap.objs.size (.dT []) q=some (.tup (R.map kV)):=by rw[j9 (kh h2 hn)];exact h2
 refine aa (aa (?_:wpAny _ _ (dictSet s.heap.objs.size (.ref q) u3 >>= λ_=>pure (ForInStep.yield PUnit.unit)) _ _ s3));refine aa (wpAny_dictSet_heap (show X.A.units<cLine by lia) (Kq I3.zm U) dd λh' qq hs=>aj ?_);refine aj (aj (aj (aj ⟨.ref s.heap.objs.size,_,?_,rfl,hq _ hn⟩)));obtain⟨o,es,ep,k1,k2,k3,k4,_,k5⟩:=qq;have w:=Vd (ob:=.dT [(R,.bl b)]) (t':=s3.toks+(tupleKind (jh X.prog X.w)).draws R) I3 (by rw[hp];exact True.intro) hs ⟨o,k1⟩ ⟨by show 1<=sizeLine;decide,hd,_,.cons ⟨rfl,by rw[j9 (Yt U hp (λz=>nomatch z))];exact U,r3⟩ .nil,o,es,ep,k1,k2,k3,k4,k5⟩;rw[aua] at w;exact w
def a2y{b:Bool}(hu:X.A.units+8<cLine)(U:PE X a (a0b i)):PE X (.Dict [some a] [.Constant (.bool b) j p2] pos) (tE nm W X.K (.Zq (.var i) (.cst (.bl b)))) :=
 PE.of (awb hu U ax6) fun σ H Q ι ρ M d M' S R e q=>by
  rw[MW.am1] at e;obtain⟨x,M1,Z,e2⟩:=dz e;obtain⟨y,M2,e3,e4⟩:=dz e2;cases e3;rw[MW.Zu] at Z;cases hx:ρ[i]? with
  |none=>rw[hx] at Z;cases Z
  |some o=>cases o with
   |none=>rw[hx] at Z;cases Z
   |some d' =>
    rw[hx] at Z;cases Z;obtain⟨v,h1,h2⟩:=R.get hx;cases U:MW.J6 x with
    |none=>rw[U] at e4;cases e4
    |some ks =>
     rw[U] at e4;cases e4;obtain⟨p0,rfl,h3⟩:=Td h2 U;refine⟨p0,ks,h1,h3,λp hp=>?_⟩;obtain⟨S2,yt⟩:=S.new (o:=.dT [(ks,.bl b)]) (H':=upd H p (.dT [(ks,.bl b)])) hp (λa u e=>by rw[j9 (kh e hp)];exact e) λ_=>⟨_,rz,.cons rfl (.bl b) .nil⟩
     exact q _ _ _ yt S2 (.ref (by show(ι.l++[p])[M.length]?=some p;rw[<- S.len];simp))
def s_pop(ho:PE X o (tE nm W X.K o'))(Wl:attributeBase o "pop" X.env (eval o X.env)=eval o X.env)(Wm:(apos.endLine==Qe.line)=true) :
 PE X (.Call (.Attribute o "pop" apos) [] [] Qe) (tE nm W X.K (.bm .pop o' .nil)) :=
 PE.of (a1h yz PySem.F.slot_list_pop PySem.F.type_list_pop (a9z (nm:=nm)) ho Wl Wm) fun σ H Q ι ρ M d M' S R e q=>by rw[MW.amy] at e;obtain⟨x,M1,e1,e2⟩:=dz e;obtain⟨ht,e3⟩:=aax e2;rw[MW.Jk] at e3;exact one S R e1 λZ H1 v le S1 R1 r=>⟨ty_list S1 r ht,Z,M1,x,[],d,M',S1,r,.nil,e3,nofun,λU H' w Vf S' r'=>q U H' w (le.trans Vf) S' r'⟩
def bag(ha:PE X a (tE nm W X.K a'))(he:∀Z,isTrue a X.env Z=(do let v <- Z;standAt a.pos;holding [v] (truthy v))):PT X a (tQ nm W X.K (.tru a')):=by intro U s σ H Q I hh;obtain⟨ι,ρ,M,b,M',S,R,e,q⟩:=hh;rw[MW.atj] at e;obtain⟨x,M1,e1,e2⟩:=dz e;obtain⟨e3,rfl⟩:=xx e2;obtain⟨ds,e4,e5⟩:=dg.mp e3;cases e5;refine aoo ha he U s σ H Q I ⟨ι,ρ,M,x,M',S,R,e1,λqq H1 v le S1 r=>?_⟩;obtain⟨p,vs,rfl,h1,h2⟩:=ql S1 r e4;refine⟨!ds.isEmpty,.inl ⟨vs,Gz.of h1,?_⟩,q qq H1 le S1⟩;cases h2<;>rfl
theorem keys_eq:∀{Z:List (List Kx×Dv)}{l:List (List Key×V)}{U:List (List Key×Addr×Value)},o7 K ι H (λk R=>k=R) Z l->KT H l U->U.map (·.1)=Z.map (·.1):=by intro _ _ C h q;induction h generalizing C with|nil=>cases q;rfl|cons hk _ t ih=>cases q with|cons ha u=>rw[gh,gh,ih u,<- ha.1,<- hk]
theorem KT.app{H:Hp}:∀{l Z:List (List Key×V)}{U R:List (List Key×Addr×Value)},KT H l U->KT H Z R->KT H (l++Z) (U++R):=by intro _ _ _ _ h r;induction h with|nil=>exact r|cons q t ih=>exact .cons q ih
theorem o7.app{U Z:Type}{f:U->Z->Prop}:∀{a b:List (U×Dv)}{c d:List (Z×V)},o7 K R H f a c->o7 K R H f b d->o7 K R H f (a++b) (c++d):=by intro _ _ _ _ h r;induction h with|nil=>exact r|cons k h t ih=>exact .cons k h ih
def ap7(hu:X.A.units+8<cLine):MtR X "dict.update" (rM nm X.K .update):=λq1 s σ H v vs u us Q I ru Tf hh=>by
 obtain⟨ι,M,x,ds,d,M',S,r,rs,e,_,q⟩:=hh;obtain⟨n,R,rfl,hM,e1⟩:=aia e;obtain⟨y,rfl,e2⟩:=W6 e1;obtain⟨k,qq,rfl,hK,e3⟩:=aia e2;obtain⟨⟨c1,c2,c3,c4⟩,e4⟩:=aax e3;cases e4;cases rs with
 |cons hd ht =>
  cases ht;cases r with
  |@ref _ a ha =>
   cases hd with
   |@ref _ b hb =>
    obtain⟨l,h1,h2⟩:=S.obj n _ _ hM ha;obtain⟨l',h3,h4⟩:=S.obj k _ _ hK hb;cases ru;obtain⟨u',rfl,qv⟩:=Vals.one Tf;cases qv;obtain⟨z,hs,xs,U,dd⟩:=Y4 I.zm h1;obtain⟨z',Oi,ys,Z,qk⟩:=Y4 I.zm h3;have ab:a≠b:=λz=>by subst z;exact c1 ((List.getElem?_inj (ak.mp hb).1 S.nd).mp (hb.trans ha.symm))
    have awc:xs.length=R.length:=by rw[<- ue U,<- h2.length]
    have awd:ys.length=qq.length:=by rw[<- ue Z,<- h4.length]
    refine Ur.ad4 hu ab Oi dd qk (λx hx=>aic c2 _ (keys_eq h4 Z▸bh.mpr ⟨x,hx,rfl⟩)) (λy hy hm=>?_) (by rw[awc,awd];exact t7 (Jy c3)) λh' D q0=>?_
    .have k1:y.1∈ys.map (·.1):=bh.mpr ⟨y,hy,rfl⟩
     rw[keys_eq h4 Z] at k1;rw[keys_eq h2 U] at hm;obtain⟨p,p1,p2⟩:=bh.mp k1;obtain⟨p',p3,p4⟩:=bh.mp hm;have c5:=jb.mp c4 p p1;rw[p2] at c5;obtain⟨z,hz⟩:=MW.am9 (kvs:=R) ⟨p',p3,p4⟩;rw[hz] at c5;cases c5
    .obtain⟨ob,es,ep,k1,k2,k3,k4,_,k5⟩:=D
     obtain⟨S2,yt⟩:=S.put (u:=.dT (l++l')) (o:=.dT (R++qq)) hM ha λle=>⟨_,rz,(h2.mono le).app (h4.mono le)⟩
     refine⟨.non,_,Vd (ob:=.dT (l++l')) (t':=s.toks) I (by rw[h1];exact True.intro) q0 ⟨ob,k1⟩ ⟨by rw[ph,ue U,ue Z,awc,awd];exact t7 (Jy c3),hs,_,KT.keeps (KT.app U Z) λc ys ec=>?_,ob,es,ep,k1,k2,k3,k4,k5⟩,rfl,q _ _ _ yt S2 .non⟩;rw[j9 (Yt ec h1 (λz=>nomatch z))];exact ec
def ap9{X:Cx}(S:mz nm X.K Z H M)(r:Rep X.K Z H x v)(h:MW.Jj .update x M=true):tyV X.K "dict" v H:=by
 cases r with
 |@ref n p hp =>
  have h:(match M[n]? with|some (.dT _)=>true|_=>false)=true:=h;cases e:M[n]? with
  |none=>rw[e] at h;cases h
  |some o=>cases o with
   |dT l =>
    obtain⟨l,U,_⟩:=S.obj n _ p e hp;exact .inr (.inr (.inl ⟨rfl,.inr ⟨_,U⟩⟩))
   |_=>rw[e] at h;cases h
 |_=>cases h
end Sm
namespace Sm
open PySem L2
open MW (Ex Cz OEx Lj Bp o6 Lv Tg Res cg MO Gh Cp Op2 Blt Bm Kx Src)
theorem Xa{ι:Io}{H:Hp}{K:Fg}:∀{Z:List Dv}{U:List V}{is:Zl}{R:Xs},lg K ι H Z U->Vals U is->MW.Vx Z=some R->PyProof.Rows.IntsAre is R
 |_,_,_,_,.nil,.nil,h=>by cases h;exact .nil
 |_,_,_,_,.cons r t,.cons rv tv,h=>by
  cases r<;>simp only[MW.Vx] at h<;>try cases h
  obtain⟨qq,e1,e2⟩:=dg.mp h;subst e2;obtain⟨tk,rfl⟩:=rv;exact .cons _ _ (Xa t tv e1)
theorem Xb:∀{is:Zl}{Z:Xs},PyProof.Rows.IntsAre is Z->Vals (Z.map V.int) is
 |_,_,.nil=>.nil|_,_,.cons n t h=>.cons ⟨t,rfl⟩ (Xb h)
theorem Tn{U:Io}{H:Hp}{K:Fg}:∀Z:List Int,lg K U H (Z.map MW.D.int) (Z.map V.int)
 |[]=>.nil|n::Z=>.cons (.int n) (Tn Z)
set_option tactic.hygienic true in
def aee(e:MW.vz .Dr ds M=.ok d M'):∃x Y Z,ds=[x]/\MW.dm M x=some Y/\MW.Vx Y=some Z/\(MW.Ak Z).length<31/\d=.vl ((MW.sortI (MW.Ak Z)).map MW.D.int)/\M'=M:=by
 match ds,e with
 |[x],e =>
  have e:Res.uz (((MW.dm M x).bind MW.Vx).bind λis=>if(MW.Ak is).length<31 then some (MW.D.vl ((MW.sortI (MW.Ak is)).map MW.D.int)) else none) M=.ok d M':=e;obtain⟨L,R⟩:=xx e;obtain⟨Z,C,G⟩:=dw.mp L;obtain⟨Y,S,U⟩:=dw.mp C;split at G
  .rename_i J
   exact⟨x,Y,Z,rfl,S,U,J,(ju G).symm,R⟩
  .cases G
 |[],e=>cases e|_::_::_,e=>cases e
def a2z(hr:Af 8 X.A)(I:Inv X pins σ H s)(S:mz nm X.K ι H M)(rx:Rep X.K ι H x v)(ru:RelV v u)(e2:MW.dm M x=some xs)(e3:MW.Vx xs=some ns)(hl:(MW.Ak ns).length<31)(h:∀U tk R,(∀b o,s.heap.get? b=some o->U.get? b=some o)->Ur.Bx X.w U s.heap.objs.size (λk=>k∈ns) R->R<=(MW.Ak ns).length->Q (.ref s.heap.objs.size) { s with heap:=U,toks:=tk }) :
 wpAny (model X.prog X.w) X.A (call (.type "set") [u]) Q X.xe s:=by
 obtain⟨p,ws,rfl,hp,rl⟩:=ql S rx e2;cases ru;obtain⟨is,Z,pl,_⟩:=I.list (Gz.of hp);exact Ur.ajh hr.hd pl.isList (by simpa using Xa rl Z e3) (λk hk=>(MW.Rz k ns).mpr hk) hl h
def akx(hr:Af 8 X.A)(I1:Inv X pins σ H1 s1)(S1:mz nm X.K qk H1 M')(hS:Ur.Bx X.w h' a (λk=>k∈ns) n')(ha:s1.heap.objs.size<=a)(keep:∀b o,s1.heap.get? b=some o->h'.get? b=some o)(hn:n'<31)(q:∀Z H' v,Le qk H1 Z H'->mz nm X.K Z H' M'->Rep X.K Z H' (.vl ((MW.sortI (MW.Ak ns)).map MW.D.int)) v->Q v H') :
 wpAny (model X.prog X.w) X.A (call (.builtin "sorted") [.ref a]) (EP X pins σ Q) X.xe { s1 with heap:=h',toks:=tk }:=by
 refine Ur.abv (s:={ s1 with heap:=h',toks:=tk }) hr.hd hS hn λh2 U p2 out ms q0 qq q1 so nd mem z_=>?_
 obtain⟨c,g⟩:=z_;have q2:(MW.Ak ns).length<=n':=by
  obtain⟨xs,o,es,ep,t,X,hm,rfl,_⟩:=hS;have:=Ur.ae3 (MW.Zy ns) λk hk=>(hm k).mp ((MW.Rz k ns).mp hk)
  rw[du] at this;exact this
 obtain rfl:=MW.aha so nd mem;obtain⟨o9,_,_,_,g9,_⟩:=hS.get;have R:s1.heap.objs.size<=p2:=gw (gw ha (t7 (az g9))) qq
 have hf:H1 p2=none:=I1.zm.fresh R;have qv:((MW.sortI (MW.Ak ns)).map V.int).length<=sizeLine:=by rw[du,(MW.Ce _).length_eq,o8];exact e_ (c_ q2 (b_ hn (by decide)))
 have I3:Inv X pins σ (upd H1 p2 (.lst ((MW.sortI (MW.Ak ns)).map V.int))) { s1 with heap:=h2,toks:=U } :=
  I1.laid (a:=p2) (t':=U) (λb o e=>q0 b o (keep b o e)) R (show Ah X.prog X.w _ _ _ (.lst _) from⟨qv,out.toList,c,Xb q1,by simpa using g⟩)
 obtain⟨S2,yt,r2⟩:=Wu (X:=X) S1 hf (Tn _);exact⟨.ref p2,_,I3,rfl,q _ _ _ yt S2 r2⟩
def aky(hr:Af 8 X.A)(hg:Gl X n)(hm:X.mg n=none)(hv:bootBuiltins n=some (.builtin "sorted"))(hn:n≠"__name__")(Ue:(n==("__debug__" : Str))=false)(q5:Gl X U)(q4:X.mg U=none)(qk:bootBuiltins U=some (.type "set"))(Yh:U≠"__name__")(q6:(U==("__debug__" : Str))=false)(ha:PA X [a] (Ws nm W X.K (.cons a' .nil)))(he:starEach [.Call (.Name U p') [a] [] q2] X.env=(false,eval (.Call (.Name U p') [a] [] q2) X.env)::starEach [] X.env)(Hy:(backTo q1 (starEach [] X.env)).any (·.1)=false)(q0:starEach [a] X.env=(false,eval a X.env)::starEach [] X.env)(q3:(backTo q2 (starEach [] X.env)).any (·.1)=false) :
 PE X (.Call (.Name n p) [.Call (.Name U p') [a] [] q2] [] q1) (tE nm W X.K (.blt .Dr (.cons a' .nil))):=by
 intro qq s σ H Q I hh;obtain⟨ι,ρ,M,d,M',S,R,e,q⟩:=hh;rw[MW.U6] at e;obtain⟨ds,M1,e1,e⟩:=dz e;obtain⟨x,xs,ns,rfl,e2,e3,hl,rfl,rfl⟩:=aee e;refine je (Dk I hg hm hv ?_ hn Ue);refine yp (Q:=EP X qq σ Q) ?_ he Hy;rw[he];show wpAny _ _ (spliced ((false,eval (.Call (.Name U p') [a] [] q2) X.env)::backTo q1 (starEach [] X.env))) _ _ s;refine um ?_;refine je (Dk I q5 q4 qk ?_ Yh q6);refine jk (Bf (ha q2 qq s σ H (λvs H1=>∃Z v,vs=[v]/\Rep X.K Z H1 x v/\Le ι H Z H1/\mz nm X.K Z H1 M') I ⟨ι,ρ,M,[x],M',S,R,e1,λZ H1 vs le S1 r=>?_⟩) λus s1 ⟨vs,H1,I1,r1,Z,v,ev,rx,Ve,S1⟩=>?_) q0 q3
 .obtain⟨v,ev,rv⟩:=Iu r rfl
  exact⟨Z,v,ev,rv,le,S1⟩
 subst ev;obtain⟨u,rfl,ru⟩:=Th r1;refine a2z hr I1 S1 rx ru e2 e3 hl λh' tk n' keep hS Oo=>?_
 show wpAny _ _ (spliced []) _ _ _;refine w5 ?_;exact akx hr I1 S1 hS (bc _) keep (c_ Oo hl) λqv H' v le=>q qv H' v (Ve.trans le)
def aqa:Cy X (.builtin "sorted") (rB nm X.K .sorted):=λU s σ H vs us Q I Tf hh=>by
 obtain⟨ι,M,ds,d,M',S,r,e,q⟩:=hh;obtain⟨x,rfl,e1⟩:=W6 e;obtain⟨e2,rfl⟩:=xx e1;obtain⟨is,e3,e4⟩:=dw.mp e2;obtain⟨xs,e5,e6⟩:=dw.mp e3
 by_cases Z:is.length<31/\is.Nodup
 .rw[cj Z] at e4
  cases e4;obtain⟨v,rfl,rv⟩:=Iu r rfl;obtain⟨u,rfl,ru⟩:=Th Tf;obtain⟨p,ws,rfl,hp,rl⟩:=ql S rv e5;cases ru;obtain⟨wj,qq,pl,_⟩:=I.list (Gz.of hp);have hI:=Xa rl qq e6;have R:wj.length=is.length:=hI.length;refine PyProof.Rows.sorted_ints pl.isList hI (by rw[R];exact Nat.lt_trans Z.1 (by decide)) λout qk a1 a2 a3=>?_
  obtain rfl:qk=MW.sortI is:=MW.ag9 a3 (MW.U8 _) (a2.nodup_iff.mpr Z.2) ((MW.Ce _).nodup_iff.mpr Z.2) λk=>by rw[a2.mem_iff,(MW.Ce _).mem_iff]
  obtain⟨c,g⟩:=PyProof.Rows.sortedAll_at s.heap wj out;have hf:H (s.heap.objs.size+1)=none:=I.zm.fresh x_;have qv:((MW.sortI is).map V.int).length<=sizeLine:=by rw[du,(MW.Ce _).length_eq,o8];exact e_ (Nat.lt_trans Z.1 (by decide))
  have I3:Inv X U σ (upd H (s.heap.objs.size+1) (.lst ((MW.sortI is).map V.int))) { s with heap:=PyProof.Rows.sortedAll s.heap wj out,toks:=s.toks } :=
   I.laid (a:=s.heap.objs.size+1) (t':=s.toks) (λb o e=>PyProof.Rows.sortedAll_old e) x_ (show Ah X.prog X.w _ _ _ (.lst _) from⟨qv,out.toList,c,Xb a1,by simpa using g⟩)
  obtain⟨S2,yt,r2⟩:=Wu (X:=X) S hf (Tn _);exact⟨.ref (s.heap.objs.size+1),_,I3,rfl,q _ _ _ yt S2 r2⟩
 .rw[bw Z] at e4;cases e4
end Sm
namespace Ck
open PySem L2 Sm
open MW (Ex Cz OEx Lj Bp o6 Lv Tg Res cg MO Gh Cp Op2 Blt Bm Kx Src)
structure Tab where
 fns:List (Option (Str×Nat))
 cls:List (Option (Str×Nat))
 mts:List (Str×Nat)
 Qg:List Str
 awe:List (Str×Int)
noncomputable def Oa:List Str:=["len", "tuple", "list", "dict", "max", "min", "isinstance", "range", "enumerate", "set", "zip", "all", "bool", "int", "sum", "sorted"]
structure aqb(T:Tab)(nm:Nm)(W:Gh)(k:Nat)(P:Program)(w:World)(K:Fg)(mg:Zs)(base:Heap):Prop where
 fn:∀f x n,T.fns[f]?=some (some (x,n))->∃fa fd ps,Fj P w K mg base CX0 k fa fd ps (spF nm W K n f)/\mg x=some (.ref fa)/\PySem.W.keepIn K (.ref fa)=true/\Binds K fd ps []
 cl:∀c x n,T.cls[c]?=some (some (x,n))->∃C fa fd ps cl,Mk K C fa/\Fj P w K mg base CX0 k fa fd ps (spF nm W K (n+1) cl.init)/\mg x=some (.ref C)/\Binds K fd ps []/\W.cls[c]?=some cl/\nm.cls c=some C
 mt:∀m x n,T.mts[m]?=some (x,n)->∃C fa fd ps f,Cls K C/\Meth K C x fa/\Fj P w K mg base CX0 k fa fd ps (spF nm W K (n+1) f)/\Binds K fd ps [] /\
  (∀c' cl',W.cls[c']?=some cl'->∀g,cl'.meths.lookup m=some g->nm.cls c'=some C/\g=f)/\∀i,nm.fld i≠x
 fl:∀f x,T.Qg[f]?=some x->x=nm.fld f/\∀c C,nm.cls c=some C->Cls K C/\Gw K C x
 cs:∀x i,(x,i)∈T.awe->∃t,mg x=some (.int i t)
 bt:∀x∈Oa,mg x=none
structure Ctx where
 N:List Str
 sc:List (Str×NameKind)
 fn:Bool
 own:List Str
structure Ej(T:Tab)(nm:Nm)(W:Gh)(k:Nat)(c:Ctx)(X:Cx):Prop where
 N:X.N=c.N
 nd:c.N.Nodup
 sc:X.env.scope.names=c.sc
 kd:X.env.scope.kind=.function
 calm:X.calm=true
 room:Af (k+16) X.A
 fnl:c.fn=true->(∀n,X.fn n=true)/\PassesOwn (model X.prog X.w) X.A X.env X.xe
 tab:aqb T nm W k X.prog X.w X.K X.mg X.base
 ow:∀n,c.own.contains n=true->X.fn n=true
noncomputable def Xc(n:Str):Bool:=!(n==("__debug__" : Str))&&(!(n==("__classdict__" : Str))&&!(n==("__name__" : Str)))
noncomputable def akz(c:Ctx)(n:Str):Bool:=match c.sc.lookup n with|some .local=>true|some .cell=>true|some .free=>true|_=>false
noncomputable def a3a(c:Ctx)(n:Str):Bool:=match c.sc.lookup n with|some .local=>true|some .cell=>c.fn||c.own.contains n|_=>false
noncomputable def Xq(c:Ctx)(n:Str):Bool:=Xc n&&(match c.sc.lookup n with|some .globalImplicit=>true|_=>false)
noncomputable def ail(c:Ctx)(i:Nat)(n:Str):Bool:=match c.N[i]? with|some m=>m==n|none=>false
noncomputable def Ag:List Expr->Bool
 |[]=>true|e::r=>noStar e&&Ag r
noncomputable def Ob:Expr->Bool
 |.Name ..=>true|.Attribute ..=>true|.Subscript ..=>true|.Call (.Attribute ..) ..=>true|_=>false
def uo(h:Xc n=true):(n==("__debug__" : Str))=false/\(n==("__classdict__" : Str))=false/\n≠"__name__" := by simp only[Xc,aq,Bool.not_eq_true'] at h;exact⟨h.1,h.2.1,λz=>by have:=h.2.2;rw[z] at this;simp at this⟩
set_option tactic.hygienic true in
def a3b(h:Ej T nm W k c X)(Z:akz c n=true):Vis X.env.scope n:=by unfold Vis;rw[h.sc];unfold akz at Z;split at Z<;>rename_i e<;>first|exact .inl e|exact .inr (.inl e)|exact .inr (.inr e)|cases Z
set_option tactic.hygienic true in
def a3c(h:Ej T nm W k c X)(Z:a3a c n=true):L2.Loc X.env.scope n/\(X.fn n=true\/X.env.scope.names.lookup n=some .local):=by
 unfold L2.Loc;rw[h.sc];unfold a3a at Z;split at Z
 .rename_i e;exact⟨.inl e,.inr e⟩
 .rename_i e;rcases(Bool.or_eq_true _ _).mp Z with z|z
  .exact⟨.inr e,.inl ((h.fnl z).1 n)⟩
  .exact⟨.inr e,.inl (h.ow n z)⟩
 .cases Z
set_option tactic.hygienic true in
def G4(h:Ej T nm W k c X)(Z:Xq c n=true):Gl X n/\Xc n=true:=by
 unfold Xq at Z;rw[aq] at Z;refine⟨?_,Z.1⟩;have Z:=Z.2;unfold Gl Env.kindOf;rw[h.sc];split at Z
 .rename_i e;exact e
 .cases Z
set_option tactic.hygienic true in
def slot_of(h:Ej T nm W k c X)(Z:ail c i n=true):X.N[i]?=some n:=by
 rw[h.N];unfold ail at Z;split at Z
 .rename_i m e;rw[e,eq_of_beq Z]
 .cases Z
theorem Xd{Z:Env}:∀{U:Ya},Ag U=true->starEach U Z=U.map λe=>(false,eval e Z)
 |[],_=>rfl
 |e::r,h=>by
  simp only[Ag,aq] at h;rw[m6 h.1,Xd h.2];rfl
def vg(h:Ag Z=true):(backTo pos (starEach Z env)).any (·.1)=false:=by rw[Xd h];simp[backTo]
def Xe(h:Ag Z=true):(backTo pos (starEach Z env)).all (λx=>!x.1)=true:=by rw[Xd h];simp[backTo]
set_option tactic.hygienic true in
def Eh(h:Ob o=true):attributeBase o n env (eval o env)=eval o env:=by
 cases o<;>try first|rfl|(cases h;done)
 rename_i f Y Z p;cases f<;>first|rfl|(cases h)
def aim(h:Ob o=true)(hs:Ag Z=true)(R:Z.length<29)(hp:(apos.endLine==pos.line)=true) :
 eval (.Call (.Attribute o m apos) Z [] pos) env=(do
  let U <- eval o env
  standAt apos.atName
  let (f,first) <- holding [U] (getMethod U m (do return (<- importBound o env).getD true))
  callWith pos f first (backTo pos (starEach Z env)) (backToKw pos (keywordEach [] env))):=by
 have hf:methodCallForm (Z.length+0) (backTo pos (starEach Z env)) (backToKw pos (keywordEach [] env))=true:=by unfold methodCallForm;rw[Xe hs];simp[keywordEach,backToKw];exact b_ R (by decide)
 show(do
  let U <- attributeBase o m env (eval o env)
  standAt apos.atName
  methodCall o m apos pos env U (Z.length+0) (backTo pos (starEach Z env)) (backToKw pos (keywordEach [] env)))=_
 rw[Eh h];unfold methodCall;rw[hf];have hq:methodCallPos true o env apos pos=pure pos:=by unfold methodCallPos;rw[hp];rfl
 rw[hq];simp only[calleeOf,j5,pure_bind]
noncomputable def Bq{Z:Type}(o:Option Z)(f:Z->Bool):Bool:=match o with|some x=>f x|none=>false
def jn(h:Bq o f=true):∃x,o=some x/\f x=true:=by
 cases o with
 |none=>cases h|some x=>exact⟨x,rfl,h⟩
noncomputable def Oc{α:Type}(l:List α):Option α:=match l with|[x]=>some x|_=>none
def Ar(h:Oc l=some x):l=[x]:=by
 cases l with
 |nil=>cases h
 |cons y r=>cases r with
  |nil=>cases h;rfl|cons _ _=>cases h
def Xr{Z:Type}{P:Z->Prop}{o:Option {x // P x}}{q:Z}(h:o.map Subtype.val=some q):P q:=by
 cases o with
 |none=>cases h|some x=>cases h;exact x.2
noncomputable def Ra(a:Expr):Option Str:=Option.map Subtype.val (α:={q:Str // ∃p,a=.Name q p}) (match a with|.Name n p=>some ⟨n,p,rfl⟩|_=>none)
noncomputable def ak0(a:Expr):Option Const:=Option.map Subtype.val (α:={q:Const // ∃k p,a=.Constant q k p}) (match a with|.Constant n k p=>some ⟨n,k,p,rfl⟩|_=>none)
noncomputable def baj(a:Expr):Option (Expr×Operator×Expr):=Option.map Subtype.val (α:={q:Expr×Operator×Expr // ∃p,a=.BinOp q.1 q.2.1 q.2.2 p}) (match a with|.BinOp l o r p=>some ⟨(l,o,r),p,rfl⟩|_=>none)
noncomputable def dUn(a:Expr):Option (UnaryOp×Expr):=Option.map Subtype.val (α:={q:UnaryOp×Expr // ∃p,a=.UnaryOp q.1 q.2 p}) (match a with|.UnaryOp o l p=>some ⟨(o,l),p,rfl⟩|_=>none)
noncomputable def awf(a:Expr):Option (Expr×List CmpOp×List Expr):=Option.map Subtype.val (α:={q:Expr×List CmpOp×List Expr // ∃p,a=.Compare q.1 q.2.1 q.2.2 p}) (match a with|.Compare l o r p=>some ⟨(l,o,r),p,rfl⟩|_=>none)
noncomputable def ayp(a:Expr):Option (BoolOp×List Expr×Pos):=Option.map Subtype.val (α:={q:BoolOp×List Expr×Pos // a=.BoolOp q.1 q.2.1 q.2.2}) (match a with|.BoolOp o l p=>some ⟨(o,l,p),rfl⟩|_=>none)
noncomputable def a3d(a:Expr):Option (Expr×Expr×Expr):=Option.map Subtype.val (α:={q:Expr×Expr×Expr // ∃p,a=.IfExp q.1 q.2.1 q.2.2 p}) (match a with|.IfExp t l r p=>some ⟨(t,l,r),p,rfl⟩|_=>none)
noncomputable def ak1(a:Expr):Option (List Expr):=Option.map Subtype.val (α:={q:List Expr // ∃k p,a=.Tuple q k p}) (match a with|.Tuple l k p=>some ⟨l,k,p,rfl⟩|_=>none)
noncomputable def a3e(a:Expr):Option (List Expr):=Option.map Subtype.val (α:={q:List Expr // ∃p,a=.List q p}) (match a with|.List l p=>some ⟨l,p,rfl⟩|_=>none)
noncomputable def aqc(a:Expr):Option (List (Option Expr)×List Expr):=Option.map Subtype.val (α:={q:List (Option Expr)×List Expr // ∃p,a=.Dict q.1 q.2 p}) (match a with|.Dict k v p=>some ⟨(k,v),p,rfl⟩|_=>none)
noncomputable def aqd(a:Expr):Option (Expr×Expr):=Option.map Subtype.val (α:={q:Expr×Expr // ∃p,a=.Subscript q.1 q.2 p}) (match a with|.Subscript l r p=>some ⟨(l,r),p,rfl⟩|_=>none)
noncomputable def dSl(a:Expr):Option (Option Expr×Option Expr×Option Expr):=Option.map Subtype.val (α:={q:Option Expr×Option Expr×Option Expr // ∃p,a=.Slice q.1 q.2.1 q.2.2 p}) (match a with|.Slice l r s p=>some ⟨(l,r,s),p,rfl⟩|_=>none)
noncomputable def aqe(a:Expr):Option (Expr×List Expr×List Keyword×Pos):=Option.map Subtype.val (α:={q:Expr×List Expr×List Keyword×Pos // a=.Call q.1 q.2.1 q.2.2.1 q.2.2.2}) (match a with|.Call f l k p=>some ⟨(f,l,k,p),rfl⟩|_=>none)
noncomputable def aqf(a:Expr):Option (Expr×Str×Pos):=Option.map Subtype.val (α:={q:Expr×Str×Pos // a=.Attribute q.1 q.2.1 q.2.2}) (match a with|.Attribute l n p=>some ⟨(l,n,p),rfl⟩|_=>none)
noncomputable def aef(a:Expr):Option (Expr×List Comprehension×Scope):=Option.map Subtype.val (α:={q:Expr×List Comprehension×Scope // ∃p,a=.ListComp q.1 q.2.1 q.2.2 p}) (match a with|.ListComp e g s p=>some ⟨(e,g,s),p,rfl⟩|_=>none)
def Hu(h:Ra a=some n):∃p,a=.Name n p:=(Xr h :)
def Rb(h:ak0 a=some n):∃k p,a=.Constant n k p:=(Xr h :)
def awg(h:baj a=some (l,o,r)):∃p,a=.BinOp l o r p:=(Xr h :)
def aqg(h:dUn a=some (o,l)):∃p,a=.UnaryOp o l p:=(Xr h :)
def aa1(h:awf a=some (l,o,r)):∃p,a=.Compare l o r p:=(Xr h :)
def aqh(h:ayp a=some (o,r,p)):a=.BoolOp o r p:=(Xr h :)
def awh(h:a3d a=some (t,l,r)):∃p,a=.IfExp t l r p:=(Xr h :)
def Rc(h:ak1 a=some l):∃k p,a=.Tuple l k p:=(Xr h :)
def ain(h:a3e a=some l):∃p,a=.List l p:=(Xr h :)
def aa2(h:aqc a=some (k,l)):∃p,a=.Dict k l p:=(Xr h :)
def aa3(h:aqd a=some (l,r)):∃p,a=.Subscript l r p:=(Xr h :)
def a3f(h:dSl a=some (l,r,s)):∃p,a=.Slice l r s p:=(Xr h :)
def aeg(h:aqe a=some (f,l,k,p)):a=.Call f l k p:=(Xr h :)
def aa4(h:aqf a=some (l,n,p)):a=.Attribute l n p:=(Xr h :)
def Xf(h:aef a=some (e,g,s)):∃p,a=.ListComp e g s p:=(Xr h :)
noncomputable def dCN(a:Expr):Option (Str×List Expr):=(aqe a).bind λq=>if q.2.2.1.isEmpty then(Ra q.1).map λn=>(n,q.2.1) else none
set_option tactic.hygienic true in
def Hv(h:dCN a=some (n,l)):∃p p',a=.Call (.Name n p) l [] p':=by
 obtain⟨⟨f,L,k,p⟩,G,Y⟩:=dw.mp h;split at Y
 .rename_i Z
  obtain⟨C,J,U⟩:=dg.mp Y;obtain⟨p',e⟩:=Hu J;have e:f=_:=e;have Z:k=[]:=qb.mp Z;cases U;exact⟨p',p,by rw[aeg G,e,Z]⟩
 .cases Y
noncomputable def dCA(a:Expr):Option (Expr×Str×Pos×List Expr×Pos):=(aqe a).bind λq=>if q.2.2.1.isEmpty then(aqf q.1).map λn=>(n.1,n.2.1,n.2.2,q.2.1,q.2.2.2) else none
set_option tactic.hygienic true in
def age(h:dCA a=some (o,n,U,l,p)):a=.Call (.Attribute o n U) l [] p:=by
 obtain⟨⟨f,y,k,R⟩,J,Y⟩:=dw.mp h;split at Y
 .rename_i Z
  obtain⟨⟨u,S,G⟩,C,L⟩:=dg.mp Y;have e:f=_:=aa4 C;have Z:k=[]:=qb.mp Z;cases L;rw[aeg J,e,Z]
 .cases Y
noncomputable def bak(l:Ya):List Str:=l.filterMap Ra
noncomputable def Ek(e:Expr):List Str:=match ak1 e with|some l=>bak l|none=>bak [e]
noncomputable def hid(i:Nat):Str:=⟨#[0,i]⟩
noncomputable def ak3(Z:Yf)(p:Str×Nat):Str:=if Z.contains p.1=true then hid p.2 else p.1
noncomputable def U4(N Z:Yf):List Str:=N.zipIdx.map (ak3 Z)++Z
noncomputable def awi(c:Ctx)(Z:X0):List (Str×NameKind):=Z.map λy=>if(y.2==NameKind.free&&c.sc.lookup y.1==some .cell) then(y.1,NameKind.cell) else(y.1,y.2)
noncomputable def aeh(c:Ctx)(Z:Scope)(U:Yf):Ctx:=⟨U4 c.N U,awi c Z.names,false,(Z.names.filter λy=>y.2==NameKind.cell).map (·.1)⟩
noncomputable def a3h(c:Ctx)(Z:Scope)(U:Yf):Bool :=
 decide (Z.kind=.function)&&(Z.names.all (λy=>Z.names.lookup y.1==some y.2) &&
 (Z.names.all (λy=>!(y.2==NameKind.free)||(c.sc.lookup y.1==some .cell||c.sc.lookup y.1==some .free))&&(decide ((U4 c.N U).Nodup) &&
 c.N.zipIdx.all (λp=>!(akz (aeh c Z U) (ak3 U p))||(ak3 U p==p.1&&Z.names.lookup (ak3 U p)==some .free)))))
noncomputable def bal:Op2->Operator
 |.add=>.Add|.aji=>.Add|.sub=>.Sub|.mul=>.Mult|.fdiv=>.FloorDiv|.mod=>.Mod|.pow=>.Pow
noncomputable def awj:Cp->Option CmpOp
 |.eq=>some .Eq|.ne=>some .NotEq|.lt=>some .Lt|.le=>some .LtE|.gt=>some .Gt|.ge=>some .GtE|.inn=>some .In|.K3=>some .NotIn
noncomputable def a3i:Blt->Option Str
 |.len=>some "len"|.tuple=>some "tuple"|.dict=>some "dict"|.max=>some "max"|.min=>some "min"
 |.sorted=>some "sorted"|_=>none
noncomputable def bmN:Bm->Option Str
 |.append=>some "append"|.extend=>some "extend"|.index=>some "index"|.get=>some "get"|.update=>some "update"|.pop=>none
noncomputable def a3j(T:Tab)(c:Ctx)(d:MW.D)(a:Expr):Bool :=
 match d with
 |.int i=>Bq (ak0 a) (λk=>decide (k=.int i))||Bq (Ra a) λn=>Xq c n&&T.awe.contains (n,i)
 |.bl i=>Bq (ak0 a) λk=>decide (k=.bool i)
 |.non=>Bq (ak0 a) λk=>decide (k=.none)
 |.str s=>Bq (ak0 a) λk=>decide (k=.str s)
 |_=>false
noncomputable def tg1(c:Ctx)(Z i:Nat)(e:Expr):Bool:=Bq (Ra e) λn=>ail c i n&&(a3a c n&&decide (Z<=i))
noncomputable def ak4(c:Ctx)(Z:Nat):List Nat->List Expr->Bool
 |[],[]=>true|i::is,e::ts=>tg1 c Z i e&&ak4 c Z is ts|_,_=>false
noncomputable def tgB(c:Ctx)(Z:Nat)(t:Tg)(e:Expr):Bool :=
 match t with
 |.name i=>tg1 c Z i e|.names is=>Bq (ak1 e) λU=>ak4 c Z is U
noncomputable def Qh(e:Expr):Bool:=(a3d e).isNone
noncomputable def fnB(l:List (Option (Str×Nat)))(f:Nat)(n:Str)(k:Nat):Bool:=decide (l[f]?=some (some (n,k)))
noncomputable def mtB(l:List (Str×Nat))(f:Nat)(n:Str)(k:Nat):Bool:=decide (l[f]?=some (n,k))
noncomputable def flB(l:Yf)(f:Nat)(n:Str):Bool:=decide (l[f]?=some n)
noncomputable def aio(c:Ctx)(k:Nat)(t:Tg)(g:Comprehension)(Z:Scope):Bool :=
 a3h c Z (Ek g.target)&&((k==(Ek g.target).length)&&(tgB (aeh c Z (Ek g.target)) c.N.length t g.target&&(Gy g.iter&&decide (g.is_async=0))))
noncomputable def aqi(o:BoolOp)(a:Expr)(x y:Expr->Bool):Bool :=
 Bq (ayp a) λq=>decide (q.1=o)&&(match q.2.1 with
  |l::r::rest=>(Qh l&&x l)&&(match rest with|[]=>Qh r&&y r|_::_=>y (.BoolOp o (r::rest) q.2.2))
  | _=>false)
noncomputable def a3k(c:Ctx)(U:Str)(a:Expr)(f:Expr->Bool):Bool:=Bq (dCN a) λq=>match q.2 with
 |[l,t]=>Bq (Ra t) λZ=>(decide (q.1 = "isinstance")&&decide (Z=U))&&((Xq c q.1&&Xq c Z)&&(noStar l&&f l))
 |_=>false
def awk(h:a3k c ty a f=true):∃l p p1 R,a=.Call (.Name "isinstance" p) [l,.Name ty p1] [] R/\Xq c "isinstance" = true/\Xq c ty=true/\noStar l=true/\f l=true:=by
 obtain⟨⟨n,ls⟩,U,h0⟩:=jn h;clear h;obtain⟨p,p',rfl⟩:=Hv U
 match ls,U,h0 with
 |[l,t],U,h =>
  replace h:=jn (f:=λZ=>(decide (n = "isinstance")&&decide (Z=ty))&&((Xq c n&&Xq c Z)&&(noStar l&&f l))) h;obtain⟨Z,h2,h⟩:=h;obtain⟨R,rfl⟩:=Hu h2;simp only[aq,di] at h;obtain⟨⟨rfl,rfl⟩,⟨h3,h4⟩,h5,h6⟩:=h;exact⟨l,p,R,p',rfl,h3,h4,h5,h6⟩
 |[],_,h=>cases h|[_],_,h=>cases h|_::_::_::_,_,h=>cases h
noncomputable def aqj(c:Ctx)(U Z:Str)(a:Expr)(f:Expr->Bool):Bool:=Bq (dCN a) λq=>Bq (Oc q.2) λr=>Bq (dCN r) λu=>Bq (Oc u.2) λl=>((decide (q.1=U)&&decide (u.1=Z))&&(Xq c q.1&&Xq c u.1))&&(noStar l&&f l)
def aa5(h:aqj c ty U a f=true):∃l p p1 Z p3,a=.Call (.Name ty p) [.Call (.Name U p1) [l] [] Z] [] p3/\Xq c ty=true/\Xq c U=true/\noStar l=true/\f l=true:=by replace h:=jn h;obtain⟨⟨n,ls⟩,h1,h⟩:=h;obtain⟨p,p',rfl⟩:=Hv h1;replace h:=jn h;obtain⟨r,h2,h⟩:=h;cases Ar h2;replace h:=jn h;obtain⟨⟨m,ms⟩,h3,h⟩:=h;obtain⟨Z,q2,rfl⟩:=Hv h3;replace h:=jn h;obtain⟨l,h4,h⟩:=h;cases Ar h4;simp only[aq,di] at h;obtain⟨⟨⟨rfl,rfl⟩,h5,h6⟩,R,h8⟩:=h;exact⟨l,p,Z,q2,p',rfl,h5,h6,R,h8⟩
noncomputable def a3l(c:Ctx)(i:Nat)(a:Expr):Bool:=Bq (Ra a) λn=>ail c i n&&(akz c n&&Xc n)
mutual
noncomputable def zc(T:Tab):Ex->Ctx->Expr->Bool
 |.var i,c,a=>a3l c i a|.Zq (.var i) (.cst (.bl b)),c,a=>Bq (aqc a) λq=>Bq (Oc q.1) λk=>Bq k λn=>Bq (Oc q.2) λv=>a3l c i n&&decide (ak0 v=some (.bool b))
 |.Zq _ _,_,_=>false|.tru _,_,_=>false|.cst d,c,a=>a3j T c d a|.bin op x y,c,a=>Bq (baj a) λq=>decide (q.2.1=bal op)&&(zc T x c q.1&&zc T y c q.2.2)
 |.neg x,c,a=>Bq (dUn a) λq=>decide (q.1=.USub)&&zc T x c q.2
 |.cmp op x y,c,a=>Bq (awf a) λq=>Bq (Oc q.2.1) λo=>Bq (Oc q.2.2) λr=>decide (awj op=some o)&&(Gy r&&(zc T x c q.1&&zc T y c r))
 |.chain o1 o2 x y z,c,a=>Bq (awf a) λq=>match q.2.1,q.2.2 with
  |[p1,p2],[r,s]=>(decide (awj o1=some p1)&&decide (awj o2=some p2))&&(Gy s&&(zc T x c q.1&&(zc T y c r&&zc T z c s)))|_,_=>false
 |.and x y,c,a=>aqi .And a (zc T x c) (zc T y c)|.or x y,c,a=>aqi .Or a (zc T x c) (zc T y c)|.not x,c,a=>Bq (dUn a) λq=>decide (q.1=.Not)&&(Qh q.2&&zc T x c q.2)
 |.ite t x y,c,a=>Bq (a3d a) λq=>Qh q.1&&(zc T t c q.1&&(zc T x c q.2.1&&zc T y c q.2.2))
 |.tup es,c,a=>Bq (ak1 a) λl=>decide (Cz.len es<=1000)&&Ge T es c l
 |.lst es,c,a=>Bq (a3e a) λl=>decide (Cz.len es<=1000)&&Ge T es c l
 |.Iw es,c,a=>Bq (a3e a) λl=>decide (Cz.len es<=1000)&&Ge T es c l
 |.abw,_,a=>Bq (aqc a) λq=>q.1.isEmpty&&q.2.isEmpty
 |.ae7,_,a=>Bq (aqc a) λq=>q.1.isEmpty&&q.2.isEmpty
 |.ix x y,c,a=>Bq (aqd a) λq=>aas q.2&&(zc T x c q.1&&zc T y c q.2)
 |.cut x lo hi,c,a=>Bq (aqd a) λq=>Bq (dSl q.2) λs=>s.2.2.isNone&&(zc T x c q.1&&(a3m T lo c s.1&&a3m T hi c s.2.1))
 |.call f es,c,a=>Bq (dCN a) λq=>(fnB T.fns f q.1 (Cz.len es)&&(Xq c q.1&&!q.2.isEmpty))&&Ge T es c q.2
 |.make f es,c,a=>Bq (dCN a) λq=>(fnB T.cls f q.1 (Cz.len es)&&(Xq c q.1&&!q.2.isEmpty))&&Ge T es c q.2
 |.meth o m es,c,a=>Bq (dCA a) λq=>((mtB T.mts m q.2.1 (Cz.len es)&&Ob q.1)&&(decide (q.2.2.2.1.length<29)&&(q.2.2.1.endLine==q.2.2.2.2.line)))&&(zc T o c q.1&&Ge T es c q.2.2.2.1)
 |.fld o f,c,a=>Bq (aqf a) λq=>(flB T.Qg f q.2.1&&Ob q.1)&&zc T o c q.1
 |.blt .Dr (.cons x .nil),c,a=>aqj c "sorted" "set" a (zc T x c)|.blt .isList (.cons x .nil),c,a=>a3k c "list" a (zc T x c)|.blt b es,c,a=>Bq (dCN a) λq=>(decide (a3i b=some q.1)&&(Xq c q.1&&!q.2.isEmpty))&&Ge T es c q.2
 |.bm .pop o .nil,c,a=>Bq (dCA a) λq=>((decide (q.2.1 = "pop")&&Ob q.1)&&((q.2.2.1.endLine==q.2.2.2.2.line)&&q.2.2.2.1.isEmpty))&&zc T o c q.1
 |.bm m o es,c,a=>Bq (dCA a) λq=>((decide (bmN m=some q.2.1)&&Ob q.1)&&(decide (q.2.2.2.1.length<29)&&((q.2.2.1.endLine==q.2.2.2.2.line)&&!q.2.2.2.1.isEmpty)))&&(zc T o c q.1&&Ge T es c q.2.2.2.1)
 |.comp v k t it e,c,a=>Bq (aef a) λq=>Bq (Oc q.2.1) λg=>(aio c k t g q.2.2&&g.ifs.isEmpty)&&(awl T it c g.target g.iter&&zc T e (aeh c q.2.2 (Ek g.target)) q.1)
 |.Ci v k t it i e,c,a=>Bq (aef a) λq=>Bq (Oc q.2.1) λg=>Bq (Oc g.ifs) λd=>(aio c k t g q.2.2&&Qh d)&&(awl T it c g.target g.iter&&(zc T i (aeh c q.2.2 (Ek g.target)) d&&zc T e (aeh c q.2.2 (Ek g.target)) q.1))
 |.Vv x y,c,a=>Bq (awf a) λq=>Bq (Oc q.2.1) λo=>Bq (Oc q.2.2) λr=>Bq (dCN q.1) λu=>Bq (dCN r) λv=>Bq (Oc u.2) λl=>Bq (Oc v.2) λm =>
  ((decide (o=.NotEq)&&decide (u.1 = "set"))&&(decide (v.1 = "set")&&Xq c u.1))&&((noStar l&&noStar m)&&(zc T x c l&&zc T y c m))
 |.ae8 x,c,a=>aqj c "tuple" "range" a (zc T x c)|.ae9 x,c,a=>aqj c "list" "range" a (zc T x c)
noncomputable def Ge(T:Tab):Cz->Ctx->List Expr->Bool
 |.nil,_,a=>a.isEmpty|.cons e es,c,a=>match a with|l::ls=>noStar l&&(zc T e c l&&Ge T es c ls)|_=>false
noncomputable def a3m(T:Tab):OEx->Ctx->Option Expr->Bool
 |.none,_,a=>a.isNone|.some e,c,a=>Bq a (zc T e c)
noncomputable def awl(T:Tab):Lj->Ctx->Expr->Expr->Bool
 |.val e,c,_,a=>zc T e c a|.keys e,c,_,a=>zc T e c a|.K4 e,c,_,a=>Bq (dCN a) λq=>Bq (Oc q.2) λl=>(decide (q.1 = "range")&&Xq c q.1)&&(noStar l&&zc T e c l)
 |.enm e,c,tg,a=>Bq (dCN a) λq=>Bq (Oc q.2) λl=>((ak1 tg).isSome&&(decide (q.1 = "enumerate")&&Xq c q.1))&&(noStar l&&zc T e c l)
 |.zip es,c,tg,a=>Bq (dCN a) λq=>((ak1 tg).isSome&&(decide (q.1 = "zip")&&(Xq c q.1&&!q.2.isEmpty)))&&(decide (Cz.len es=2)&&Ge T es c q.2)
end
def Pg(h:Ej T nm W k c X)(U:Scope):(relabel U X.env).names=awi c U.names:=by
 unfold relabel awi;refine yx λy _=>?_
 obtain⟨n,Z⟩:=y;show(if(Z==NameKind.free&&X.env.scope.kind==.function&&X.env.kindOf n==some .cell)=true then _ else _)=_;have e:(Z==NameKind.free&&X.env.scope.kind==.function&&X.env.kindOf n==some .cell)=(Z==NameKind.free&&c.sc.lookup n==some .cell):=by unfold Env.kindOf;rw[h.kd,h.sc];simp
 rw[e]
def a3n(h:Ej T nm W k c X)(hb:a3h c sc U=true):Em X (U4 c.N U) sc/\∀C fp s H,Ej T nm W k (aeh c sc U) (Ls X (U4 c.N U) sc C fp s H):=by
 simp only[a3h,aq,di,jb] at hb;obtain⟨h1,h3,h4,h5,h6⟩:=hb;have Z:∀x kd,(x,kd)∈sc.names->sc.names.lookup x=some kd:=λx kd m=>by have:=h3 (x,kd) m;simpa using this
 refine⟨⟨h1,λy m e=>by rw[Z y.1 y.2 m,e],λy m e=>?_,Z,?_,λi x hi R hv=>?_⟩,λC fp s H=>⟨rfl,h5,Pg h sc,h1,h.calm,h.room,(λz=>by cases z),h.tab,λn m=>?_⟩⟩
 .have:=h4 y m
  rw[e] at this;unfold Env.kindOf;rw[h.sc];simpa using this
 .rw[h.N];simp[U4]
 .rw[h.N] at hi
  have hl:i<(c.N.zipIdx.map (ak3 U)).length:=by simpa using hi
  unfold U4 at R;rw[dq hl,iw,yl] at R;obtain⟨n,hn⟩:∃n,c.N[i]?=some n:=⟨c.N[i],by simp[hi]⟩;rw[hn] at R;have R:ak3 U (n,i)=x:=by simpa using R
  have m:(n,i)∈c.N.zipIdx:=by rw[mj];exact⟨i,by rw[yl,hn];simp⟩
  have q:=h6 (n,i) m;rw[R] at q;have v:akz (aeh c sc U) x=true:=by unfold Vis at hv;rw[Pg h] at hv;unfold akz;show(match(awi c sc.names).lookup x with|some .local=>true|some .cell=>true|some .free=>true|_=>false)=true;rcases hv with e|e|e<;>rw[e]
  rw[v] at q;simp only[qw,Bool.false_or,aq] at q;rw[h.N,hn];have e1:x=n:=eq_of_beq q.1;exact⟨by rw[e1],by have:=q.2;simpa using this⟩
 .obtain⟨y,hy,rfl⟩:=bh.mp (List.contains_iff_mem.mp m)
  obtain⟨h7,h8⟩:=qm.mp hy;show(sc.names.lookup y.1==some .cell)=true;rw[Z y.1 y.2 h7,eq_of_beq h8];rfl
def bam(h:o=bal op):De X (binaryOp o) (rOp nm X.K (MW.Er op)):=by
 subst h;cases op with
 |add=>exact a88|aji=>exact a2w|sub=>exact a84|mul=>exact a87|fdiv=>exact a1q|mod=>exact a85|pow=>exact a86
def aqk(Z:Af 8 X.A)(h:awj op=some o):De X (compareOp o) (Xp nm X.K op):=by
 have U:Af 6 X.A:=Z.mono (by decide);cases op with
 |eq=>cases h;exact bf5 U|ne=>cases h;exact bf6 U|lt=>cases h;exact bft|le=>cases h;exact bfu|gt=>cases h;exact bfv|ge=>cases h;exact bfw|inn=>cases h;exact bf7 Z|K3=>cases h;exact avl Z
def agf(h:Ej T nm W k c X)(R:tg1 c lo i e=true):∃n p,e=.Name n p/\X.N[i]?=some n/\L2.Loc X.env.scope n/\(X.fn n=true\/X.env.scope.names.lookup n=some .local)/\lo<=i:=by obtain⟨n,h1,Z⟩:=jn R;obtain⟨p,rfl⟩:=Hu h1;simp only[aq,di] at Z;obtain⟨U,l2⟩:=a3c h Z.2.1;exact⟨n,p,rfl,slot_of h Z.1,U,l2,Z.2.2⟩
theorem aql{T:Tab}{nm:Nm}{W:Gh}{k:Nat}{c:Ctx}{X:Cx}(h:Ej T nm W k c X){U:Nat}:∀{is:Y3}{Z:Ya},ak4 c U is Z=true->Ks X Z is/\∀i∈is,U<=i
 |[],[],_=>⟨.nil,by simp⟩|[],_::_,e=>by cases e|_::_,[],e=>by cases e
 |i::is,a::Z,e=>by
  unfold ak4 at e;rw[aq] at e;obtain⟨n,p,rfl,e1,e2,R,e4⟩:=agf h e.1;obtain⟨g1,g2⟩:=aql h e.2;refine⟨.cons e1 e2 R g1,λj hj=>?_⟩;rcases bz.mp hj with z|z
  .rw[z];exact e4
  .exact g2 j z
def aip(h:Ej T nm W k c X)(Z:tgB c lo t e=true):PG X e (tGt nm X.K t)/\∀i∈Bo t,lo<=i:=by
 have U:X.N.Nodup:=by rw[h.N];exact h.nd
 cases t with
 |name i =>
  obtain⟨n,p,rfl,e1,e2,e3,e4⟩:=agf h Z;exact⟨a1v U e1 e2 e3,λi hi=>by rw[fu.mp hi];exact e4⟩
 |names is =>
  obtain⟨ts,R,h2⟩:=jn Z;obtain⟨k0,p,rfl⟩:=Rc R;obtain⟨g1,g2⟩:=aql h h2;exact⟨avh h.calm U g1,g2⟩
structure Got(nm:Nm)(W:Gh)(X:Cx)(a:Expr)(e:Ex):Prop where
 v:PE X a (tE nm W X.K e)
 q:Qh a=true->PT X a (tQ nm W X.K e)
 w:∀op ls p,a=.BoolOp op ls p->PW X a (tQ nm W X.K e)
noncomputable def ban:Expr->Bool
 |.BoolOp ..=>false|.UnaryOp .Not _ _=>false|.IfExp ..=>false|.Compare ..=>false|_=>true
set_option tactic.hygienic true in
def vo(h:PE X a (tE nm W X.K e))(Z:ban a=true):Got nm W X a e:=by
 refine⟨h,λJ=>a89 h λY=>?_,λG U p z=>by subst z;cases Z⟩;cases a<;>first|rfl|(cases Z)|skip
 rename_i G x p;cases G<;>first|rfl|cases Z
def a3o(h:Ej T nm W k c X)(U:a3j T c d a=true):PE X a (tE nm W X.K (.cst d))/\ban a=true:=by
 cases d with
 |int i =>
  simp only[a3j,Bool.or_eq_true] at U;rcases U with U|U
  .obtain⟨k,R,Z⟩:=jn U
   obtain⟨j,p,rfl⟩:=Rb R;rw[j0 Z];exact⟨a80,rfl⟩
  .obtain⟨n,R,Z⟩:=jn U
   obtain⟨p,rfl⟩:=Hu R;rw[aq] at Z;obtain⟨g1,g2⟩:=G4 h Z.1;obtain⟨t,ht⟩:=h.tab.cs _ _ (List.contains_iff_mem.mp Z.2);exact⟨a1o g1 ht (uo g2).1,rfl⟩
 |bl i =>
  obtain⟨k,R,Z⟩:=jn U;obtain⟨j,p,rfl⟩:=Rb R;rw[j0 Z];exact⟨bfr,rfl⟩
 |non =>
  obtain⟨k,R,Z⟩:=jn U;obtain⟨j,p,rfl⟩:=Rb R;rw[j0 Z];exact⟨a81,rfl⟩
 |str s =>
  obtain⟨k,R,Z⟩:=jn U;obtain⟨j,p,rfl⟩:=Rb R;rw[j0 Z];exact⟨a82,rfl⟩
 |_=>cases U
section
variable{T:Tab}{nm:Nm}{W:Gh}{k:Nat}
def Ej.r8(h:Ej T nm W k c X):Af 8 X.A:=h.room.mono (by lia)
theorem Ej.mg(h:Ej T nm W k c X)(m:n∈Oa):X.mg n=none:=h.tab.bt n m
def ak5(h:Ge T Z c []=true):Z=.nil:=by
 cases Z with
 |nil=>rfl|cons e Z=>simp[Ge] at h
theorem Uo{c:Ctx}{U:Nat}:∀{is:Y3}{Z:Ya},ak4 c U is Z=true->∀i∈is,U<=i
 |[],_,_=>by simp|_::_,[],e=>by cases e
 |i::is,a::Z,e=>by
  unfold ak4 at e;rw[aq] at e;intro j hj;rcases bz.mp hj with z|z
  .obtain⟨n,h1,R⟩:=jn e.1
   simp only[aq,di] at R;rw[z];exact R.2.2
  .exact Uo e.2 j z
def agg(h:tgB c lo t e=true):∀i∈Bo t,lo<=i:=by
 cases t with
 |name j =>
  obtain⟨n,R,Z⟩:=jn h;simp only[aq,di] at Z;intro i U;rw[fu.mp U];exact Z.2.2
 |names is =>
  obtain⟨ts,R,Z⟩:=jn h;exact Uo Z
def aqm:(U4 N Z).length-N.length=Z.length:=by simp[U4]
def Rf(U:Ej T nm W k c X)(h:aio c j t g sc=true) :
 Gy g.iter=true/\g.is_async=0/\Em X (U4 c.N (Ek g.target)) sc/\(∀C Z s H,Ej T nm W k (aeh c sc (Ek g.target)) (Ls X (U4 c.N (Ek g.target)) sc C Z s H)) /\
 (∀C Z s H,PG (Ls X (U4 c.N (Ek g.target)) sc C Z s H) g.target (tGt nm X.K t))/\(U4 c.N (Ek g.target)).length-X.N.length=j/\∀i∈Bo t,X.N.length<=i:=by
 simp only[aio,aq,di] at h;obtain⟨h2,h3,R,h5,h6⟩:=h;obtain⟨B,hB⟩:=a3n U h2;exact⟨h5,h6,B,hB,λC Z s H=>(aip (hB C Z s H) R).1,by rw[U.N,aqm];exact(eq_of_beq h3).symm,λi hi=>by rw[U.N];exact agg R i hi⟩
def aiq(h:aqi o a x y=true):(∃l r p,a=.BoolOp o [l,r] p/\Qh l=true/\x l=true/\Qh r=true/\y r=true) \/
 ∃l r s Z p,a=.BoolOp o (l::r::s::Z) p/\Qh l=true/\x l=true/\y (.BoolOp o (r::s::Z) p)=true:=by
 obtain⟨⟨o',R,p⟩,h1,U⟩:=jn h;cases aqh h1;rw[aq] at U;obtain⟨h3,U⟩:=U;cases j0 h3;cases R with
 |nil=>cases U
 |cons l R=>cases R with
  |nil=>cases U
  |cons r Z =>
   cases Z with
   |nil =>
    have U:((Qh l&&x l)&&(Qh r&&y r))=true:=U;simp only[aq] at U;exact .inl ⟨l,r,p,rfl,U.1.1,U.1.2,U.2.1,U.2.2⟩
   |cons s Z =>
    have U:((Qh l&&x l)&&y (.BoolOp o' (r::s::Z) p))=true:=U;simp only[aq] at U;exact .inr ⟨l,r,s,Z,p,rfl,U.1.1,U.1.2,U.2⟩
def a3p(hc:Ej T nm W k c X)(Z:a3i b=some n)(hg:Xq c n=true)(R:PA X (l::ls) (Ws nm W X.K es))(e2:Ag (l::ls)=true):PE X (.Call (.Name n p) (l::ls) [] p') (tE nm W X.K (.blt b es)):=by
 obtain⟨g1,g2⟩:=G4 hc hg;obtain⟨d1,d2,U⟩:=uo g2;simp only[Ag,aq] at e2;have st:=m6 e2.1 ls X.env;have an:=vg (env:=X.env) (pos:=p') e2.2;have mg:n∈Oa->X.mg n=none:=hc.mg;cases b with
 |len=>cases Z;exact ah6 (id := "len") a9u g1 (mg (by decide+kernel)) (by decide+kernel) R U d1 st an|max=>cases Z;exact ah6 (id := "max") (a95 hc.calm) g1 (mg (by decide+kernel)) (by decide+kernel) R U d1 st an|sorted=>cases Z;exact ah6 (id := "sorted") aqa g1 (mg (by decide+kernel)) (by decide+kernel) R U d1 st an|min=>cases Z;exact ah6 (id := "min") (a98 hc.calm) g1 (mg (by decide+kernel)) (by decide+kernel) R U d1 st an|tuple=>cases Z;exact apo (T := "tuple") avk g1 (mg (by decide+kernel)) (by decide+kernel) R U d1 st an|dict=>cases Z;exact apo (T := "dict") a2p g1 (mg (by decide+kernel)) (by decide+kernel) R U d1 st an|_=>cases Z
def aqn(U:Ej T nm W k c X)(h:a3l c i a=true):∃n p,a=.Name n p/\X.N[i]?=some n/\Vis X.env.scope n/\(n==("__debug__" : Str))=false/\(n==("__classdict__" : Str))=false:=by obtain⟨n,R,Z⟩:=jn h;obtain⟨p,rfl⟩:=Hu R;simp only[aq] at Z;exact⟨n,p,rfl,slot_of U Z.1,a3b U Z.2.1,(uo Z.2.2).1,(uo Z.2.2).2.1⟩
def ak6{Z v:Ex}(h:zc T (.Zq Z v) c a=true):∃i b,Z=.var i/\v=.cst (.bl b):=by
 cases Z with
 |var i=>cases v with
  |cst d=>cases d with
   |bl b=>exact⟨i,b,rfl,rfl⟩|_=>cases h
  |_=>cases h
 |_=>cases h
def awm(U:¬(m=.pop/\Z=.nil))(h:zc T (.bm m o Z) c a=true):Bq (dCA a) (λq=>((decide (bmN m=some q.2.1)&&Ob q.1)&&(decide (q.2.2.2.1.length<29)&&((q.2.2.1.endLine==q.2.2.2.2.line)&&!q.2.2.2.1.isEmpty)))&&(zc T o c q.1&&Ge T Z c q.2.2.2.1))=true:=by cases m<;>cases Z<;>first|exact h|exact absurd ⟨rfl,rfl⟩ U
def Xg{Z:Type}{l:List Z}(h:(!l.isEmpty)=true):∃x r,l=x::r:=by
 cases l with
 |nil=>cases h|cons x r=>exact⟨x,r,rfl⟩
set_option maxHeartbeats 2000000 in
set_option tactic.hygienic true in
mutual
theorem jw:∀(e:Ex){c:Ctx}{X:Cx}{a:Expr},Ej T nm W k c X->zc T e c a=true->Got nm W X a e
 |.var i,c,X,a,hc,h=>by
  obtain⟨n,p,rfl,Z,R,h3,h4⟩:=aqn hc h;exact vo (a8z Z R h3 h4) rfl
 |.Zq k v,c,X,a,hc,h=>by
  obtain⟨i,b,rfl,rfl⟩:=ak6 h;replace h:=jn (show Bq (aqc a) _=true from h);obtain⟨⟨ks,vs⟩,Z,h⟩:=h;obtain⟨p,rfl⟩:=aa2 Z;replace h:=jn h;obtain⟨k,R,h⟩:=h;cases Ar R;replace h:=jn h;obtain⟨n,rfl,h⟩:=h;replace h:=jn h;obtain⟨v,h3,h⟩:=h;cases Ar h3;simp only[aq,di] at h;obtain⟨h4,h5⟩:=h;obtain⟨x,px,rfl,g1,g2,g3,g4⟩:=aqn hc h4;obtain⟨k,p,rfl⟩:=Rb h5;exact vo (a2y (b_ (Nat.add_lt_add_left (by decide) _) (t7 hc.room.units)) (aod g1 g2 g3 g4)) rfl
 |.tru e,c,X,a,hc,h=>by cases h
 |.cst d,c,X,a,hc,h=>by
  obtain⟨Z,R⟩:=a3o hc h;exact vo Z R
 |.bin op x y,c,X,a,hc,h=>by
  replace h:=jn h;obtain⟨⟨l,o,r⟩,Z,h⟩:=h;obtain⟨p,rfl⟩:=awg Z;simp only[aq,di] at h;exact vo (a83 (bam h.1) (jw x hc h.2.1).v (jw y hc h.2.2).v) rfl
 |.neg x,c,X,a,hc,h=>by
  replace h:=jn h;obtain⟨⟨o,l⟩,Z,h⟩:=h;obtain⟨p,rfl⟩:=aqg Z;simp only[aq,di] at h;obtain⟨rfl,h⟩:=h;exact vo (a9j (jw x hc h).v) rfl
 |.cmp op x y,c,X,a,hc,h=>by
  replace h:=jn h;obtain⟨⟨l,o,r⟩,Z,h⟩:=h;obtain⟨p,rfl⟩:=aa1 Z;replace h:=jn h;obtain⟨o1,R,h⟩:=h;replace h:=jn h;obtain⟨r1,h3,h⟩:=h;cases Ar R;cases Ar h3;simp only[aq,di] at h;have g:=aqk (nm:=nm) hc.r8 h.1;have m:=Uk h.2.1 o1;exact⟨a9a g (jw x hc h.2.2.1).v (jw y hc h.2.2.2).v m,λ_=>a9b g (jw x hc h.2.2.1).v (jw y hc h.2.2.2).v m,λ_ _ _ z=>by cases z⟩
 |.chain o1 o2 x y z,c,X,a,hc,h=>by
  replace h:=jn h;obtain⟨⟨l,o,r⟩,Z,h⟩:=h;obtain⟨p,rfl⟩:=aa1 Z;dsimp only at h;split at h
  .rename_i p1 p2 r s
   simp only[aq,di] at h;have g1:=aqk (nm:=nm) hc.r8 h.1.1;have g2:=aqk (nm:=nm) hc.r8 h.1.2;have m:lastMarks [p1,p2] [r,s]=false:=Uk h.2.1 p2;exact⟨ave g1 g2 (jw x hc h.2.2.1).v (jw y hc h.2.2.2.1).v (jw z hc h.2.2.2.2).v m,λ_=>avf g1 g2 (jw x hc h.2.2.1).v (jw y hc h.2.2.2.1).v (jw z hc h.2.2.2.2).v m,λ_ _ _ z=>by cases z⟩
  .cases h
 |.and x y,c,X,a,hc,h=>by
  rcases aiq h with⟨l,r,p,rfl,Z,R,h3,h4⟩|⟨l,r,s,qk,p,rfl,Z,R,h3⟩
  .have g1:=jw x hc R
   have g2:=jw y hc h4;have w:=aye (pos:=p) (rest:=[]) (g1.q Z) (auh (g2.q h3));exact⟨ayd g1.v (ayo g2.v),λ_=>w.pt,λ_ _ _ _=>w⟩
  .have g1:=jw x hc R
   have g2:=jw y hc h3;have w:=aye (g1.q Z) (g2.w _ _ _ rfl);exact⟨ayd g1.v g2.v,λ_=>w.pt,λ_ _ _ _=>w⟩
 |.or x y,c,X,a,hc,h=>by
  rcases aiq h with⟨l,r,p,rfl,Z,R,h3,h4⟩|⟨l,r,s,qk,p,rfl,Z,R,h3⟩
  .have g1:=jw x hc R
   have g2:=jw y hc h4;have w:=a9e (pos:=p) (rest:=[]) (g1.q Z) (a0i (g2.q h3));exact⟨a9c g1.v (ayo g2.v),λ_=>w.pt,λ_ _ _ _=>w⟩
  .have g1:=jw x hc R
   have g2:=jw y hc h3;have w:=a9e (g1.q Z) (g2.w _ _ _ rfl);exact⟨a9c g1.v g2.v,λ_=>w.pt,λ_ _ _ _=>w⟩
 |.not x,c,X,a,hc,h=>by
  replace h:=jn h;obtain⟨⟨o,l⟩,Z,h⟩:=h;obtain⟨p,rfl⟩:=aqg Z;simp only[aq,di] at h;obtain⟨rfl,h⟩:=h;have g:=jw x hc h.2;exact⟨a9d g.v,λ_=>a9f (g.q h.1),λ_ _ _ z=>by cases z⟩
 |.ite t x y,c,X,a,hc,h=>by
  replace h:=jn h;obtain⟨⟨t',l,r⟩,Z,h⟩:=h;obtain⟨p,rfl⟩:=awh Z;simp only[aq] at h;exact⟨a9g ((jw t hc h.2.1).q h.1) (jw x hc h.2.2.1).v (jw y hc h.2.2.2).v,(λz=>by cases z),λ_ _ _ z=>by cases z⟩
 |.tup es,c,X,a,hc,h=>by
  replace h:=jn h;obtain⟨l,Z,h⟩:=h;obtain⟨k0,p,rfl⟩:=Rc Z;simp only[aq,di] at h;exact vo (a9h (Dh es hc h.2).1 h.1) rfl
 |.lst es,c,X,a,hc,h=>by
  replace h:=jn h;obtain⟨l,Z,h⟩:=h;obtain⟨p,rfl⟩:=ain Z;simp only[aq,di] at h;exact vo (a9i (Dh es hc h.2).1 h.1) rfl
 |.Iw es,c,X,a,hc,h=>by
  replace h:=jn h;obtain⟨l,Z,h⟩:=h;obtain⟨p,rfl⟩:=ain Z;simp only[aq,di] at h;exact vo (a1t (Dh es hc h.2).1 h.1) rfl
 |.abw,c,X,a,hc,h=>by
  replace h:=jn h;obtain⟨⟨q,l⟩,Z,h⟩:=h;obtain⟨p,rfl⟩:=aa2 Z;simp only[aq,qb] at h;obtain⟨rfl,rfl⟩:=h;exact vo a2h rfl
 |.ae7,c,X,a,hc,h=>by
  replace h:=jn h;obtain⟨⟨q,l⟩,Z,h⟩:=h;obtain⟨p,rfl⟩:=aa2 Z;simp only[aq,qb] at h;obtain⟨rfl,rfl⟩:=h;exact vo a2i rfl
 |.ix x y,c,X,a,hc,h=>by
  replace h:=jn h;obtain⟨⟨l,r⟩,Z,h⟩:=h;obtain⟨p,rfl⟩:=aa3 Z;simp only[aq] at h;exact vo (bfy (ac9 hc.room) (jw x hc h.2.1).v (jw y hc h.2.2).v (apf h.1)) rfl
 |.cut x lo hi,c,X,a,hc,h=>by
  replace h:=jn h;obtain⟨⟨l,r⟩,Z,h⟩:=h;obtain⟨p,rfl⟩:=aa3 Z;replace h:=jn h;obtain⟨⟨u,v,st⟩,R,h⟩:=h;obtain⟨p2,e⟩:=a3f R;have e:r=_:=e;subst e;simp only[aq,Option.isNone_iff_eq_none] at h;obtain⟨rfl,h⟩:=h;exact vo (a96 (jw x hc h.1).v (air lo hc h.2.1) (air hi hc h.2.2)) rfl
 |.call f es,c,X,a,hc,h=>by
  replace h:=jn h;obtain⟨⟨n,ls⟩,Z,h⟩:=h;obtain⟨p,p',rfl⟩:=Hv Z;simp only[aq] at h;obtain⟨⟨R,h3,h4⟩,h5⟩:=h;obtain⟨l,ls,rfl⟩:=Xg h4;obtain⟨fa,fd,ps,F,m,kp,b⟩:=hc.tab.fn _ _ _ (j0 R);obtain⟨g1,g2⟩:=G4 hc h3;obtain⟨e1,e2⟩:=Dh es hc h5;simp only[Ag,aq] at e2;exact vo (s_call F (hc.room.mono x_) g1 m kp b rfl e1 (uo g2).1 (m6 e2.1 _ _) (vg e2.2)) rfl
 |.make f es,c,X,a,hc,h=>by
  replace h:=jn h;obtain⟨⟨n,ls⟩,Z,h⟩:=h;obtain⟨p,p',rfl⟩:=Hv Z;simp only[aq] at h;obtain⟨⟨R,h3,h4⟩,h5⟩:=h;obtain⟨l,ls,rfl⟩:=Xg h4;obtain⟨C,fa,fd,ps,cl,M0,F,m,b,d1,d2⟩:=hc.tab.cl _ _ _ (j0 R);obtain⟨g1,g2⟩:=G4 hc h3;obtain⟨e1,e2⟩:=Dh es hc h5;simp only[Ag,aq] at e2;exact vo (a2e M0 F (hc.room.mono (w_ (by decide))) g1 m b d1 rfl d2 rfl e1 (uo g2).1 (m6 e2.1 _ _) (vg e2.2)) rfl
 |.meth o m es,c,X,a,hc,h=>by
  replace h:=jn h;obtain⟨⟨lo,n,ap,ls,p⟩,h0,h⟩:=h;cases age h0;simp only[aq,di] at h;obtain⟨⟨⟨Z,R⟩,h3,h4⟩,h5,h6⟩:=h;obtain⟨C,fa,fd,ps,f,C0,Me,F,b,u,nf⟩:=hc.tab.mt _ _ _ (j0 Z);obtain⟨e1,e2⟩:=Dh es hc h6;have g:=jw o hc h5;cases ls with
  |nil =>
   have z:=ak5 h6;subst z;exact vo (av7 (ci:=0) (cl:=⟨0,[]⟩) g.v C0 Me F (hc.room.mono x_) b u nf (aim R rfl h3 h4)) rfl
  |cons l ls =>
   have e3:=e2;simp only[Ag,aq] at e3;exact vo (a2f (ci:=0) (cl:=⟨0,[]⟩) g.v C0 Me F (hc.room.mono x_) b u nf rfl e1 (m6 e3.1 _ _) (vg e3.2) (aim R e2 h3 h4)) rfl
 |.fld o f,c,X,a,hc,h=>by
  replace h:=jn h;obtain⟨⟨l,n,p⟩,Z,h⟩:=h;cases aa4 Z;simp only[aq] at h;obtain⟨t1,t2⟩:=hc.tab.fl _ _ (j0 h.1.1);exact vo (a9k t1 t2 (jw o hc h.2).v (Eh h.1.2)) rfl
 |.blt b es,c,X,a,hc,h=>by
  have U:(Bq (dCN a) λq=>(decide (a3i b=some q.1)&&(Xq c q.1&&!q.2.isEmpty))&&Ge T es c q.2)=true->Got nm W X a (.blt b es):=λhh=>by clear h;replace hh:=jn hh;obtain⟨⟨n,ls⟩,Z,h⟩:=hh;obtain⟨p,p',rfl⟩:=Hv Z;simp only[aq] at h;obtain⟨⟨R,h3,h4⟩,h5⟩:=h;obtain⟨l,ls,rfl⟩:=Xg h4;obtain⟨e1,e2⟩:=Dh es hc h5;exact vo (a3p hc (j0 R) h3 e1 e2) rfl
  match b,es,h,U with
  |.isList,.cons x .nil,h,_ =>
   obtain⟨l,p,p1,p2,rfl,h3,h4,h5,h6⟩:=awk (show a3k c "list" a (zc T x c)=true from h);obtain⟨g1,g2⟩:=G4 hc h3;obtain⟨g3,g4⟩:=G4 hc h4;exact vo (a97 g1 (hc.mg (by decide+kernel)) (by decide+kernel) (uo g2).2.2 (uo g2).1 g3 (hc.mg (by decide+kernel)) (by decide+kernel) (uo g4).2.2 (uo g4).1 (jw x hc h6).v (m6 h5 _ _) (m6 rfl _ _) (vg rfl)) rfl
  |.isList,.nil,h,U=>exact U h|.isList,.cons _ (.cons _ _),h,U=>exact U h|.len,_,h,U=>exact U h|.tuple,_,h,U=>exact U h|.max,_,h,U=>exact U h|.min,_,h,U=>exact U h|.dict,_,h,U=>exact U h|.sorted,_,h,U=>exact U h|.Dr,.nil,h,U=>exact U h|.Dr,.cons _ (.cons _ _),h,U=>exact U h
  |.Dr,.cons x .nil,h,_ =>
   obtain⟨l,p,p1,p2,p3,rfl,h5,h6,h7,h8⟩:=aa5 (show aqj c "sorted" "set" a (zc T x c)=true from h);obtain⟨g1,g2⟩:=G4 hc h5;obtain⟨g3,g4⟩:=G4 hc h6;exact vo (aky hc.r8 g1 (hc.mg (by decide+kernel)) (by decide+kernel) (uo g2).2.2 (uo g2).1 g3 (hc.mg (by decide+kernel)) (by decide+kernel) (uo g4).2.2 (uo g4).1
    (N6 (jw x hc h8).v Uj (m6 h7 _ _)) (m6 rfl _ _) (vg rfl) (m6 h7 _ _) (vg rfl)) rfl
 |.bm m o es,c,X,a,hc,h=>by
  by_cases hp:m=.pop/\es=.nil
  .obtain⟨rfl,rfl⟩:=hp
   replace h:=jn (show Bq (dCA a) _=true from h);obtain⟨⟨lo,n,ap,ls,p⟩,h0,h⟩:=h;cases age h0;simp only[aq,di,qb] at h;obtain⟨⟨⟨rfl,R⟩,h3,rfl⟩,h5⟩:=h;exact vo (s_pop (jw o hc h5).v (Eh R) h3) rfl
  replace h:Bq (dCA a) (λq=>((decide (bmN m=some q.2.1)&&Ob q.1)&&(decide (q.2.2.2.1.length<29)&&((q.2.2.1.endLine==q.2.2.2.2.line)&&!q.2.2.2.1.isEmpty)))&&(zc T o c q.1&&Ge T es c q.2.2.2.1))=true:=awm hp h;replace h:=jn h;obtain⟨⟨lo,n,ap,ls,p⟩,h0,h⟩:=h;cases age h0;simp only[aq,di] at h;obtain⟨⟨⟨Z,R⟩,h3,h4,zz⟩,h5,h6⟩:=h;obtain⟨l,ls,rfl⟩:=Xg zz;obtain⟨e1,e2⟩:=Dh es hc h6;have e3:=e2;simp only[Ag,aq] at e3;have qq:((backTo p (starEach (l::ls) X.env)).all (λx=>!x.1)&&(backToKw p (keywordEach [] X.env)).all (λx=>x.1.isSome)&&decide ((l::ls).length+([]:List Keyword).length+(if([]:List Keyword).isEmpty then 0 else 1)<30))=true:=by rw[Xe e2];simp[keywordEach,backToKw];simp at h3;exact b_ h3 (by decide)
  have g:=jw o hc h5;cases m with
  |append=>cases Z;exact vo (apt (T := "list") (id := "list.append") (fun ι H M x v S r t=>ty_list S r t) yz PySem.F.slot_list_append PySem.F.type_list_append apu g.v e1 (Eh R) qq h4 (m6 e3.1 _ _) (vg e3.2)) rfl
  |extend=>cases Z;exact vo (apt (T := "list") (id := "list.extend") (fun ι H M x v S r t=>ty_list S r t) yz PySem.F.slot_list_extend PySem.F.type_list_extend apv g.v e1 (Eh R) qq h4 (m6 e3.1 _ _) (vg e3.2)) rfl
  |index=>cases Z;exact vo (apt (T := "list") (id := "list.index") (fun ι H M x v S r t=>ty_list S r t) yz PySem.F.slot_list_index PySem.F.type_list_index (avq hc.r8) g.v e1 (Eh R) qq h4 (m6 e3.1 _ _) (vg e3.2)) rfl
  |pop=>cases Z|update=>cases Z;exact vo (apt (T := "dict") (id := "dict.update") (fun ι H M x v S r t=>ap9 S r t) PySem.F.plainAttrs_dict PySem.F.slot_dict_update PySem.F.type_dict_update (ap7 (b_ (Nat.add_lt_add_left (by decide) _) (t7 hc.room.units))) g.v e1 (Eh R) qq h4 (m6 e3.1 _ _) (vg e3.2)) rfl
  |get=>cases Z;exact vo (apt (T := "dict") (id := "dict.get") (fun ι H M x v S r t=>ty_dict S r t) PySem.F.plainAttrs_dict PySem.F.slot_dict_get PySem.F.type_dict_get (baf (ac9 hc.room)) g.v e1 (Eh R) qq h4 (m6 e3.1 _ _) (vg e3.2)) rfl
 |.comp v j t it e,c,X,a,hc,h=>by
  replace h:=jn h;obtain⟨⟨q8,gs,sc⟩,Z,h⟩:=h;obtain⟨p,rfl⟩:=Xf Z;replace h:=jn h;obtain⟨⟨tg,qv,q6,as⟩,R,h⟩:=h;cases Ar R;simp only[aq,qb] at h;obtain⟨⟨h3,rfl⟩,h4,h5⟩:=h;obtain⟨q1,q2,B,hB,hg,q3,q4⟩:=Rf hc h3;cases q2;exact vo (a2d B hc.calm (Rg it hc h4) hg (λC fp s H=>(jw e (hB C fp s H) h5).v) q1 q3 q4) rfl
 |.Ci v j t it i e,c,X,a,hc,h=>by
  replace h:=jn h;obtain⟨⟨q8,gs,sc⟩,Z,h⟩:=h;obtain⟨p,rfl⟩:=Xf Z;replace h:=jn h;obtain⟨⟨tg,qv,q6,as⟩,R,h⟩:=h;cases Ar R;replace h:=jn h;obtain⟨d,h6,h⟩:=h;cases Ar h6;simp only[aq] at h;obtain⟨⟨h3,h7⟩,h4,h8,h5⟩:=h;obtain⟨q1,q2,B,hB,hg,q3,q4⟩:=Rf hc h3;cases q2;exact vo (apk B hc.calm (Rg it hc h4) hg (λC fp s H=>(jw i (hB C fp s H) h8).q h7) (λC fp s H=>(jw e (hB C fp s H) h5).v) q1 q3 q4) rfl
 |.Vv x y,c,X,a,hc,h=>by
  replace h:=jn h;obtain⟨⟨l0,o,r0⟩,Z,h⟩:=h;obtain⟨p,rfl⟩:=aa1 Z;replace h:=jn h;obtain⟨o1,R,h⟩:=h;replace h:=jn h;obtain⟨r1,h3,h⟩:=h;cases Ar R;cases Ar h3;replace h:=jn h;obtain⟨⟨n,ls⟩,h4,h⟩:=h;replace h:=jn h;obtain⟨⟨m,ms⟩,h5,h⟩:=h;replace h:=jn h;obtain⟨l,h6,h⟩:=h;replace h:=jn h;obtain⟨r,h7,h⟩:=h;cases Ar h6;cases Ar h7;obtain⟨p1,q1,e1⟩:=Hv h4;obtain⟨p2,q2,e2⟩:=Hv h5;have e1:l0=_:=e1;subst e1 e2;simp only[aq,di] at h;obtain⟨⟨⟨rfl,rfl⟩,rfl,h8⟩,⟨h9,q0⟩,q5,q7⟩:=h;obtain⟨g1,g2⟩:=G4 hc h8;have z:=avm (nm:=nm) (W:=W) (p1:=p1) (p2:=p2) (q1:=q1) (q2:=q2) hc.r8 g1 (hc.mg (by decide+kernel)) (by decide+kernel) (uo g2).2.2 (uo g2).1 (N6 (jw x hc q5).v Uj (m6 h9 _ _)) (N6 (jw y hc q7).v Uj (m6 q0 _ _)) (m6 h9 _ _) (m6 q0 _ _) (vg rfl) (vg rfl);exact⟨a0f z,λ_=>avd (a0g z) λ_ _ _ q=>q,λ_ _ _ z=>by cases z⟩
 |.ae8 x,c,X,a,hc,h=>by
  obtain⟨l,p,p1,p2,p3,rfl,h5,h6,h7,h8⟩:=aa5 h;obtain⟨g1,g2⟩:=G4 hc h5;obtain⟨g3,g4⟩:=G4 hc h6;exact vo (a2t hc.r8 g1 (hc.mg (by decide+kernel)) (by decide+kernel) (uo g2).2.2 (uo g2).1 g3 (hc.mg (by decide+kernel)) (by decide+kernel) (uo g4).2.2 (uo g4).1
   (N6 (jw x hc h8).v Uj (m6 h7 _ _)) (m6 rfl _ _) (vg rfl) (m6 h7 _ _) (vg rfl)) rfl
 |.ae9 x,c,X,a,hc,h=>by
  obtain⟨l,p,p1,p2,p3,rfl,h5,h6,h7,h8⟩:=aa5 h;obtain⟨g1,g2⟩:=G4 hc h5;obtain⟨g3,g4⟩:=G4 hc h6;exact vo (a2x hc.r8 g1 (hc.mg (by decide+kernel)) (by decide+kernel) (uo g2).2.2 (uo g2).1 g3 (hc.mg (by decide+kernel)) (by decide+kernel) (uo g4).2.2 (uo g4).1
   (N6 (jw x hc h8).v Uj (m6 h7 _ _)) (m6 rfl _ _) (vg rfl) (m6 h7 _ _) (vg rfl)) rfl
theorem Dh:∀(Z:Cz){c:Ctx}{X:Cx}{a:Ya},Ej T nm W k c X->Ge T Z c a=true->PA X a (Ws nm W X.K Z)/\Ag a=true
 |.nil,c,X,a,hc,h=>by
  cases qb.mp h;exact⟨Uj,rfl⟩
 |.cons e Z,c,X,a,hc,h=>by
  cases a with
  |nil=>cases h
  |cons l R =>
   replace h:(noStar l&&(zc T e c l&&Ge T Z c R))=true:=h;simp only[aq] at h;obtain⟨g1,U⟩:=Dh Z hc h.2.2;exact⟨N6 (jw e hc h.2.1).v g1 (m6 h.1 _ _),by simp only[Ag,aq];exact⟨h.1,U⟩⟩
theorem air:∀(e:OEx){c:Ctx}{X:Cx}{a:Option Expr},Ej T nm W k c X->a3m T e c a=true->PO X a (tO nm W X.K e)
 |.none,c,X,a,hc,h=>by
  cases Option.isNone_iff_eq_none.mp h;exact avu
 |.some e,c,X,a,hc,h=>by
  replace h:=jn h;obtain⟨l,rfl,h⟩:=h;exact avv (jw e hc h).v
theorem Rg:∀(it:Lj){c:Ctx}{X:Cx}{Z a:Expr},Ej T nm W k c X->awl T it c Z a=true->PI X Z a (tI nm W X.K it)
 |.val e,c,X,Z,a,hc,h=>a9q (jw e hc h).v|.keys e,c,X,Z,a,hc,h=>a2l (jw e hc h).v
 |.K4 e,c,X,Z,a,hc,h=>by
  replace h:=jn h;obtain⟨⟨n,ls⟩,U,h⟩:=h;obtain⟨p,p',rfl⟩:=Hv U;replace h:=jn h;obtain⟨l,h2,h⟩:=h;cases Ar h2;simp only[aq,di] at h;obtain⟨⟨rfl,R⟩,h4,h5⟩:=h;exact a9r (G4 hc R).1 (hc.mg (by decide+kernel)) (jw e hc h5).v h4
 |.enm e,c,X,Z,a,hc,h=>by
  replace h:=jn h;obtain⟨⟨n,ls⟩,U,h⟩:=h;obtain⟨p,p',rfl⟩:=Hv U;replace h:=jn h;obtain⟨l,h2,h⟩:=h;cases Ar h2;simp only[aq,di] at h;obtain⟨⟨h6,rfl,R⟩,h4,h5⟩:=h;obtain⟨ts,h7⟩:=pq.mp h6;obtain⟨k0,pt,rfl⟩:=Rc h7;exact bac (G4 hc R).1 (hc.mg (by decide+kernel)) (jw e hc h5).v h4
 |.zip es,c,X,Z,a,hc,h=>by
  replace h:=jn h;obtain⟨⟨n,ls⟩,U,h⟩:=h;obtain⟨p,p',rfl⟩:=Hv U;simp only[aq,di] at h;obtain⟨⟨h6,rfl,R,h4⟩,h5,h7⟩:=h;obtain⟨l,ls,rfl⟩:=Xg h4;obtain⟨e1,e2⟩:=Dh es hc h7;obtain⟨ts,h9⟩:=pq.mp h6;obtain⟨k0,pt,rfl⟩:=Rc h9;simp only[Ag,aq] at e2;obtain⟨f1,f2⟩:=e2;exact bae (G4 hc R).1 (hc.mg (by decide+kernel)) e1 (m6 f1 _ _) (vg f2) h5
end
end
noncomputable def bao(e:Ex):Option {b:Bool // (∃v j t it x,e=.comp v j t it x)\/∃v j t it i x,e=.Ci v j t it i x}:=match e with|.comp ..=>some ⟨true,.inl ⟨_,_,_,_,_,rfl⟩⟩|.Ci ..=>some ⟨true,.inr ⟨_,_,_,_,_,_,rfl⟩⟩|_=>none
noncomputable def a3q(T:Tab)(c:Ctx)(l:Lv)(e:Ex)(Z v:Expr):Bool :=
 match l with
 |.tg t=>(tgB c 0 t Z&&((Te v&&((Ra Z).isSome||ayf v))||(match t with|.name _=>(aef v).isSome&&(bao e).isSome|_=>false)))&&zc T e c v
 |.sub o i=>Bq (aqd Z) λq=>aas q.2&&(zc T e c v&&(zc T o c q.1&&zc T i c q.2))
 |.fld o f=>Bq (aqf Z) λq=>(Te v&&flB T.Qg f q.2.1)&&(zc T e c v&&zc T o c q.1)
noncomputable def bap(a:Stmt):Option (List Expr×Expr):=Option.map Subtype.val (α:={q:List Expr×Expr // ∃p,a=.Assign q.1 q.2 p}) (match a with|.Assign t v p=>some ⟨(t,v),p,rfl⟩|_=>none)
noncomputable def baq(a:Stmt):Option Expr:=Option.map Subtype.val (α:={q:Expr // ∃p,a=.Expr q p}) (match a with|.Expr v p=>some ⟨v,p,rfl⟩|_=>none)
noncomputable def bas(a:Stmt):Option (Expr×List Stmt×List Stmt):=Option.map Subtype.val (α:={q:Expr×List Stmt×List Stmt // ∃p,a=.If q.1 q.2.1 q.2.2 p}) (match a with|.If t l r p=>some ⟨(t,l,r),p,rfl⟩|_=>none)
noncomputable def aqo(a:Stmt):Option (Expr×List Stmt×List Stmt):=Option.map Subtype.val (α:={q:Expr×List Stmt×List Stmt // ∃p,a=.While q.1 q.2.1 q.2.2 p}) (match a with|.While t l r p=>some ⟨(t,l,r),p,rfl⟩|_=>none)
noncomputable def bau(a:Stmt):Option (Expr×Expr×List Stmt×List Stmt):=Option.map Subtype.val (α:={q:Expr×Expr×List Stmt×List Stmt // ∃p,a=.For q.1 q.2.1 q.2.2.1 q.2.2.2 p}) (match a with|.For t i l r p=>some ⟨(t,i,l,r),p,rfl⟩|_=>none)
noncomputable def bav(a:Stmt):Option (Option Expr):=Option.map Subtype.val (α:={q:Option Expr // ∃p,a=.Return q p}) (match a with|.Return v p=>some ⟨v,p,rfl⟩|_=>none)
noncomputable def awn(a:Stmt):Option Nat:=Option.map Subtype.val (α:={n:Nat // (n=0/\∃p,a=.Break p)\/(n=1/\∃p,a=.Continue p)\/(n=2/\∃p,a=.Pass p)}) (match a with|.Break p=>some ⟨0,.inl ⟨rfl,p,rfl⟩⟩|.Continue p=>some ⟨1,.inr (.inl ⟨rfl,p,rfl⟩)⟩|.Pass p=>some ⟨2,.inr (.inr ⟨rfl,p,rfl⟩)⟩|_=>none)
def awo(h:bap a=some (t,v)):∃p,a=.Assign t v p:=(Xr h :)
def awp(h:baq a=some v):∃p,a=.Expr v p:=(Xr h :)
def awq(h:bas a=some (t,l,r)):∃p,a=.If t l r p:=(Xr h :)
def ais(h:aqo a=some (t,l,r)):∃p,a=.While t l r p:=(Xr h :)
def awr(h:bau a=some (t,i,l,r)):∃p,a=.For t i l r p:=(Xr h :)
def aws(h:bav a=some v):∃p,a=.Return v p:=(Xr h :)
def aa6(h:awn a=some n):(n=0/\∃p,a=.Break p)\/(n=1/\∃p,a=.Continue p)\/(n=2/\∃p,a=.Pass p):=(Xr h :)
mutual
noncomputable def a3r(T:Tab):Bp->Ctx->Stmt->Bool
 |.asg l e,c,a=>Bq (bap a) λq=>Bq (Oc q.1) λt=>a3q T c l e t q.2
 |.expr e,c,a=>Bq (baq a) λv=>Te v&&zc T e c v
 |.iff t x y,c,a=>Bq (bas a) λq=>Qh q.1&&(zc T t c q.1&&(Ph T x c q.2.1&&Ph T y c q.2.2))
 |.whl (.tru y) x,c,a=>Bq (aqo a) λq=>((Ra q.1).isSome&&q.2.2.isEmpty)&&(zc T y c q.1&&Ph T x c q.2.1)
 |.whl t x,c,a=>Bq (aqo a) λq=>(Qh q.1&&q.2.2.isEmpty)&&(zc T t c q.1&&Ph T x c q.2.1)
 |.for_ t it x,c,a=>Bq (bau a) λq=>(tgB c 0 t q.1&&(Gy q.2.1&&q.2.2.2.isEmpty))&&(awl T it c q.1 q.2.1&&Ph T x c q.2.2.1)
 |.ret e,c,a=>Bq (bav a) λv=>Bq v (zc T e c)
 |.atb,_,_=>false|.brk,_,a=>decide (awn a=some 0)|.cont,_,a=>decide (awn a=some 1)|.pass,_,a=>decide (awn a=some 2)|.raise _ _,_,_=>true
noncomputable def Ph(T:Tab):o6->Ctx->List Stmt->Bool
 |.nil,_,a=>a.isEmpty|.cons s r,c,a=>match a with|st::rest=>a3r T s c st&&Ph T r c rest|_=>false
end
noncomputable def swB(c:Ctx)(t:Str)(pt Z:Pos)(U:Scope):Bool:=(c.sc.lookup t==some NameKind.local&&pt.line==Z.line)&&!(U.names.any λy=>y.1==t&&(y.2==.local||y.2==.cell))
def agh(Z:Ej T nm W k c X):swapsWith (.ListComp elt gs sc vp) (some (.Name t pt)) l X.env=pure (swB c t pt vp sc):=by
 have b:X.env.blockKind=.function:=by unfold Env.blockKind;rw[Z.kd];rfl
 show(pure (X.env.blockKind==.function&&X.env.kindOf t==some .local&&pt.line==vp.line&&!(sc.names.any λ(n,k)=>n==t&&(k==.local||k==.cell))):Sem Bool)=_;rw[b];unfold Env.kindOf;rw[Z.sc];simp[swB]
def aqp(Z:Ej T nm W k c X)(ht:tgB c 0 (.name i) tg=true)(hv:(aef v).isSome=true)(hw:(bao e).isSome=true)(h:zc T e c v=true):PS X (.Assign [tg] v p) (tS nm W X.K (.asg (.tg (.name i)) e)):=by
 have nd:X.N.Nodup:=by rw[Z.N];exact Z.nd
 obtain⟨⟨U,gs,sc⟩,hq⟩:=pq.mp hv;obtain⟨y,py,rfl,hy,_⟩:=agf (nm:=nm) (W:=W) (k:=k) (T:=T) Z ht;obtain⟨⟨_,co⟩,_⟩:=pq.mp hw;obtain⟨vp,rfl⟩:=Xf hq;have sw:=λl=>agh (T:=T) (nm:=nm) (W:=W) (k:=k) Z (elt:=U) (gs:=gs) (sc:=sc) (vp:=vp) (pt:=py) (t:=y) (l:=l)
 cases hs:swB c y py vp sc with
 |false =>
  rw[hs] at sw;exact apg (jw e Z h).v (aip Z ht).1 (sw p.line) rfl rfl
 |true =>
  rw[hs] at sw;simp only[swB,aq] at hs;have hl:X.env.scope.names.lookup y=some .local:=by rw[Z.sc];have:=hs.1.1;simpa using this
  rcases co with⟨v,j,t,it,x,rfl⟩|⟨v,j,t,it,i',x,rfl⟩
  .replace h:=jn h
   obtain⟨⟨q5,qk,q0⟩,h1,h⟩:=h;cases h1;replace h:=jn h;obtain⟨⟨tg,qq,qv,as⟩,h2,h⟩:=h;cases Ar h2;simp only[aq,qb] at h;obtain⟨⟨h3,rfl⟩,h4,h5⟩:=h;obtain⟨q1,q2,B,hB,hg,q3,q4⟩:=Rf Z h3;cases q2;exact akp B Z.calm (Rg it Z h4) hg (λC R s H=>(jw x (hB C R s H) h5).v) q1 q3 q4 nd hy hl (sw p.line)
  .replace h:=jn h
   obtain⟨⟨q5,qk,q0⟩,h1,h⟩:=h;cases h1;replace h:=jn h;obtain⟨⟨tg,qq,qv,as⟩,h2,h⟩:=h;cases Ar h2;replace h:=jn h;obtain⟨d,h6,h⟩:=h;cases Ar h6;simp only[aq] at h;obtain⟨⟨h3,h7⟩,h4,h8,h5⟩:=h;obtain⟨q1,q2,B,hB,hg,q3,q4⟩:=Rf Z h3;cases q2;exact adp B Z.calm (Rg it Z h4) hg (λC R s H=>(jw i' (hB C R s H) h8).q h7) (λC R s H=>(jw x (hB C R s H) h5).v) q1 q3 q4 nd hy hl (sw p.line)
section
variable{T:Tab}{nm:Nm}{W:Gh}{k:Nat}
def awt(U:Ej T nm W k c X)(h:a3q T c l e tg v=true):PS X (.Assign [tg] v p) (tS nm W X.K (.asg l e)):=by
 cases l with
 |tg t =>
  simp only[a3q,aq,Bool.or_eq_true] at h;obtain⟨⟨h1,h2⟩,R⟩:=h;rcases h2 with⟨Z,h5⟩|Z
  .have g:=aip (nm:=nm) U h1
   have sh:(∃n q,tg=.Name n q)\/∃ts k0 q,tg=.Tuple ts k0 q:=by
    cases t with
    |name i =>
     obtain⟨n,z1,_⟩:=jn h1;exact .inl ⟨n,Hu z1⟩
    |names is =>
     obtain⟨ts,z1,_⟩:=jn h1;exact .inr ⟨ts,Rc z1⟩
   rcases sh with⟨n,q,rfl⟩|⟨ts,k0,q,rfl⟩
   .exact apg (jw e U R).v g.1 (W3 Z _ _ _) rfl rfl
   .have w:ayf v=true:=by
     rcases h5 with h5|h5
     .cases h5
     .exact h5
    have w2:swappedStores [.Tuple ts k0 q] v X.env=pure none:=by cases v<;>first|rfl|(cases w;done)
    exact apg (jw e U R).v g.1 (W3 Z _ _ _) w2 rfl
  .cases t with
   |name i=>rw[aq] at Z;exact aqp U h1 Z.1 Z.2 R|names _=>cases Z
 |sub o i =>
  replace h:=jn (show Bq (aqd tg) _=true from h);obtain⟨⟨lo,li⟩,h0,h⟩:=h;obtain⟨p',rfl⟩:=aa3 h0;simp only[aq] at h;obtain⟨h2,R,Z,h5⟩:=h;refine apm (ac9 U.room) (jw e U R).v (jw o U Z).v (jw i U h5).v λv=>?_
  cases li<;>first|rfl|(cases h2;done)
 |fld o f =>
  replace h:=jn (show Bq (aqf tg) _=true from h);obtain⟨⟨lo,n,p'⟩,h0,h⟩:=h;cases aa4 h0;simp only[aq] at h;obtain⟨⟨h1,h2⟩,R,Z⟩:=h;obtain⟨t1,t2⟩:=U.tab.fl _ _ (j0 h2);exact apn t1 t2 (jw e U R).v (jw o U Z).v h1
mutual
theorem awu:∀(s:Bp){c:Ctx}{X:Cx}{a:Stmt},Ej T nm W k c X->c.fn=true->a3r T s c a=true->PS X a (tS nm W X.K s)
 |.asg l e,c,X,a,hc,hf,h=>by
  replace h:=jn h;obtain⟨⟨ts,v⟩,Z,h⟩:=h;obtain⟨p,rfl⟩:=awo Z;replace h:=jn h;obtain⟨t,U,h⟩:=h;cases Ar U;exact awt hc h
 |.expr e,c,X,a,hc,hf,h=>by
  replace h:=jn h;obtain⟨v,Z,h⟩:=h;obtain⟨p,rfl⟩:=awp Z;simp only[aq] at h;exact a1w (jw e hc h.2).v (N7 h.1 _ _ _)
 |.iff t x y,c,X,a,hc,hf,h=>by
  replace h:=jn h;obtain⟨⟨q,l,r⟩,Z,h⟩:=h;obtain⟨p,rfl⟩:=awq Z;simp only[aq] at h;exact a9n ((jw t hc h.2.1).q h.1) (Hw x hc hf h.2.2.1) (Hw y hc hf h.2.2.2)
 |.whl t x,c,X,a,hc,hf,h=>by
  by_cases ht:∃y,t=.tru y
  .obtain⟨y,rfl⟩:=ht
   replace h:=jn (show Bq (aqo a) _=true from h);obtain⟨⟨q,l,r⟩,Z,h⟩:=h;obtain⟨p,rfl⟩:=ais Z;simp only[aq,qb] at h;obtain⟨⟨U,rfl⟩,R,h4⟩:=h;obtain⟨z,U⟩:=pq.mp U;obtain⟨p',rfl⟩:=Hu U;exact ayg (hc.fnl hf).2 (bag (jw y hc R).v λ_=>rfl) (Hw x hc hf h4)
  replace h:Bq (aqo a) (λq=>(Qh q.1&&q.2.2.isEmpty)&&(zc T t c q.1&&Ph T x c q.2.1))=true:=by cases t<;>first|exact h|exact absurd ⟨_,rfl⟩ ht
  replace h:=jn h;obtain⟨⟨q,l,r⟩,Z,h⟩:=h;obtain⟨p,rfl⟩:=ais Z;simp only[aq,qb] at h;obtain⟨⟨U,rfl⟩,R,h4⟩:=h;exact ayg (hc.fnl hf).2 ((jw t hc R).q U) (Hw x hc hf h4)
 |.for_ t it x,c,X,a,hc,hf,h=>by
  replace h:=jn h;obtain⟨⟨tg,qq,l,r⟩,Z,h⟩:=h;obtain⟨p,rfl⟩:=awr Z;simp only[aq,qb] at h;obtain⟨⟨U,R,rfl⟩,h4,h5⟩:=h;exact a9p (hc.fnl hf).2 hc.calm (Rg it hc h4) (aip hc U).1 (Hw x hc hf h5) R
 |.ret e,c,X,a,hc,hf,h=>by
  replace h:=jn h;obtain⟨v,Z,h⟩:=h;obtain⟨p,rfl⟩:=aws Z;replace h:=jn h;obtain⟨w,rfl,h⟩:=h;exact a9l (jw e hc h).v
 |.atb,c,X,a,hc,hf,h=>by cases h
 |.brk,c,X,a,hc,hf,h=>by
  rcases aa6 (j0 h) with⟨_,p,rfl⟩|⟨z,_⟩|⟨z,_⟩
  .exact a9m
  .cases z
  .cases z
 |.cont,c,X,a,hc,hf,h=>by
  rcases aa6 (j0 h) with⟨z,_⟩|⟨_,p,rfl⟩|⟨z,_⟩
  .cases z
  .exact a1y
  .cases z
 |.pass,c,X,a,hc,hf,h=>by
  rcases aa6 (j0 h) with⟨z,_⟩|⟨z,_⟩|⟨_,p,rfl⟩
  .cases z
  .cases z
  .exact a1x
 |.raise _ _,c,X,a,hc,hf,h=>av8
theorem Hw:∀(s:o6){c:Ctx}{X:Cx}{a:List Stmt},Ej T nm W k c X->c.fn=true->Ph T s c a=true->Q3 X a (tSs nm W X.K s)
 |.nil,c,X,a,hc,hf,h=>by
  cases qb.mp h;exact a1z
 |.cons s r,c,X,a,hc,hf,h=>by
  cases a with
  |nil=>cases h
  |cons st Z =>
   replace h:(a3r T s c st&&Ph T r c Z)=true:=h;simp only[aq] at h;exact avi (awu s hc hf h.1) (Hw r hc hf h.2)
end
end
structure Def where
 x:Str
 qual:Str
 N:List Str
 ps:List Str
noncomputable def scB(N U:Yf)(Z:Scope):Bool :=
 (decide (Z.kind=.function)&&(!Z.isCoroutine&&!Z.isGenerator))&&((decide N.Nodup&&decide (N.take U.length=U)) &&
 (U.all (λx=>Z.names.lookup x==some .local||Z.names.lookup x==some .cell)&&Z.names.all (λy=>!(y.2==NameKind.free))))
def a3s(h:scB N ps sc=true):Vc N ps sc:=by simp only[scB,aq,di,Bool.not_eq_true',jb] at h;obtain⟨⟨U,h2,h3⟩,⟨h4,h5⟩,R,Z⟩:=h;exact⟨U,h2,h3,h4,h5,λx m=>by have:=R x m;simpa using this,λy m=>by have:=Z y m;simpa using this⟩
noncomputable def ak7(T:Tab)(d:Def)(F:MW.Fn)(st:Stmt):Bool :=
 (scB d.N d.ps (Bd st)&&(decide (F.np=d.ps.length)&&decide (F.ns=d.N.length)))&&Ph T F.body ⟨d.N,(Bd st).names,true,[]⟩ (Ga st)
set_option tactic.hygienic true in
def awv{F:MW.Fn}(h:F.run W ds M=.ok d U):ds.length=F.np/\∃Y Z,F.body.den W (ds.map some++List.replicate (F.ns-F.np) none) M=.ok (Y,Z) U/\(Y=.ret d\/(Y=.next/\d=.non)):=by
 unfold MW.Fn.run at h;split at h
 .rename_i J
  obtain⟨⟨Y,Z⟩,C,G,e⟩:=dz h;refine⟨J,Y,Z,?_⟩;cases Y with
  |ret z=>cases e;exact⟨G,.inl rfl⟩|next=>cases e;exact⟨G,.inr ⟨rfl,rfl⟩⟩|brk=>cases e|cont=>cases e
 .cases h
def a3t{Z:MW.Prog}(U:Fun K d.x d.qual st f fd)(hF:Z.fns[i]?=some F)(h:ak7 T d F st=true)(hT:aqb T nm ⟨Z.call n,Z.cls⟩ k P w K mg base):Fj P w K mg base CX0 (k+17) f fd d.ps (spF nm ⟨Z.call (n+1),Z.cls⟩ K F.np i):=by
 simp only[ak7,aq,di] at h;obtain⟨⟨h1,h2,h3⟩,h4⟩:=h;have S:=a3s h1;have go:∀ds M d' M',MW.Gh.call ⟨Z.call (n+1),Z.cls⟩ i ds M=.ok d' M'->F.run ⟨Z.call n,Z.cls⟩ ds M=.ok d' M':=λds M d' M' e=>by have e:Z.call (n+1) i ds M=.ok d' M':=e;unfold MW.Prog.call at e;rw[hF] at e;exact e
 refine U.ok (k:=k+16) S (λvs H Q E ⟨ι,M,ds,d',M',_,r,l,e,_⟩=>by rw[<- r.length,l,h2]) (λqk A R s H vs Q E hr z_=>?_);obtain⟨ι,M,ds,d',M',SM,r,l,e,q⟩:=z_;have hc:Ej T nm ⟨Z.call n,Z.cls⟩ k ⟨d.N,(Bd st).names,true,[]⟩ (af0 CX0 P w K mg base d.N d.qual (Bd st) f qk A R s H E).nox :=
  ⟨rfl,S.nd,rfl,S.kind,rfl,hr,λ_=>⟨λ_=>rfl,PassesOwn.never⟩,hT,λn h=>by cases h⟩
 refine⟨_,Hw F.body hc rfl h4,?_⟩;obtain⟨hl,fl,qv,e1,e2⟩:=awv (go _ _ _ _ e);refine⟨ι,_,M,fl,qv,M',SM,?_,e1,λqq H' q0 le S' R'=>?_⟩
 .unfold L2.start
  exact(u0.apb r).append (u0.apa _ (by rw[yh,h3,<- r.length,l]))
 .rcases e2 with rfl|⟨rfl,rfl⟩
  .exact λv rv=>q qq H' v le S' rv
  .exact q qq H' _ le S' .non
theorem ait{nm:Nm}{P:Program}{w:World}{K:Fg}{mg:Zs}{base:Heap}{IR:MW.Prog}{T:Tab}{D:Nat->Def}{st:Nat->Stmt}{fa:Nat->Addr}{fd:Nat->FuncData}
 (U:∀i,i<IR.fns.length->Fun K (D i).x (D i).qual (st i) (fa i) (fd i)) (h:∀i F,IR.fns[i]?=some F->ak7 T (D i) F (st i)=true)
 (mk:∀n,(∀i F,IR.fns[i]?=some F->Fj P w K mg base CX0 (17*n) (fa i) (fd i) (D i).ps (spF nm ⟨IR.call n,IR.cls⟩ K F.np i))->aqb T nm ⟨IR.call n,IR.cls⟩ (17*n) P w K mg base) :
 ∀n i F,IR.fns[i]?=some F->Fj P w K mg base CX0 (17*n) (fa i) (fd i) (D i).ps (spF nm ⟨IR.call n,IR.cls⟩ K F.np i)
 |0,i,F,hF=>⟨(λvs H Q E ⟨ι,M,ds,d',M',_,r,l,e,_⟩=>by cases e),λA Z s H R us vs Q E hr he hb hv ⟨ι,M,ds,d',M',_,r,l,e,_⟩=>by cases e⟩
 |n+1,i,F,hF=>a3t (U i (ak.mp hF).1) hF (h i F hF) (mk n (ait U h mk n))
noncomputable def a3u(s:Str):Bool:=s.cps[0]?==some 0
noncomputable def aqq(Z:Yf):Bool:=decide Z.Nodup&&Z.all λs=>!a3u s
noncomputable def aei(Z:Yf)(i:Nat):Str:=match Z[i]? with|some s=>s|none=>⟨#[0,0,i]⟩
def aqr(h:aqq Qg=true)(i j:Nat)(e:aei Qg i=aei Qg j):i=j:=by
 simp only[aqq,aq,di,jb] at h;have Z:∀k,a3u ⟨#[0,0,k]⟩=true:=λk=>rfl
 unfold aei at e;cases hi:Qg[i]? with
 |some a =>
  rw[hi] at e;cases hj:Qg[j]? with
  |some b =>
   rw[hj] at e;have e:a=b:=e;subst e;obtain⟨l1,U⟩:=ak.mp hi;obtain⟨l2,R⟩:=ak.mp hj;exact(Ao h.1).mp (U.trans R.symm)
  |none =>
   rw[hj] at e;have e:a=⟨#[0,0,j]⟩:=e;have:=h.2 a (au hi);rw[e,Z] at this;cases this
 |none =>
  rw[hi] at e;cases hj:Qg[j]? with
  |some b =>
   rw[hj] at e;have e:(⟨#[0,0,i]⟩:Str)=b:=e;have:=h.2 b (au hj);rw[<- e,Z] at this;cases this
  |none =>
   rw[hj] at e;have e:(⟨#[0,0,i]⟩:Str)=⟨#[0,0,j]⟩:=e;simpa using e
noncomputable def a3v(Z:List (Option Addr))(U:Yf)(h:aqq U=true):Nm:=⟨λc=>(Z[c]?).join,aei U,aqr h⟩
noncomputable def aqs(Z:Yf)(x:Str):Bool:=!(Z.contains x)&&!a3u x
def aqt(h:aqs Qg x=true)(i:Nat):aei Qg i≠x:=λe=>by
 simp only[aqs,aq,Bool.not_eq_true'] at h;unfold aei at e;cases hi:Qg[i]? with
 |some a =>
  rw[hi] at e;have e:a=x:=e;rw[<- e] at h;have:=List.contains_iff_mem.mpr (au hi);rw[this] at h;cases h.1
 |none =>
  rw[hi] at e;have e:(⟨#[0,0,i]⟩:Str)=x:=e;rw[<- e] at h;cases h.2
section
variable(K:Fg)(mg:Zs)
noncomputable def aa7:List Def->List Stmt->List Addr->List FuncData->Prop
 |d::ds,s::ss,a::as,f::fs=>(Fun K d.x d.qual s a f/\Binds K f d.ps [])/\aa7 ds ss as fs|[],[],[],[]=>True|_,_,_,_=>False
noncomputable def Tp:List (Option (Str×Nat))->List Addr->Prop
 |some p::r,a::as=>mg p.1=some (.ref a)/\Tp r as|none::r,_::as=>Tp r as|_,_=>True
noncomputable def aej(C:Addr)(Z:List (Str×Nat))(U:X9):List (Nat×Nat)->Prop
 |q::r=>(∃p a,Z[q.1]?=some p/\U[q.2]?=some a/\Meth K C p.1 a)/\aej C Z U r|[]=>True
noncomputable def aa8(C:Addr):List Str->Prop
 |x::r=>Gw K C x/\aa8 C r|[]=>True
structure ClF(T:Tab)(Lq:X9)(x:Str)(C:Addr)(cl:MW.Cl):Prop where
 mg:mg x=some (.ref C)
 cs:Cls K C
 ini:∃f,Lq[cl.init]?=some f/\Mk K C f
 me:aej K C T.mts Lq cl.meths
 na:aa8 K C T.Qg
noncomputable def Od(T:Tab)(Z:X9):List (Option (Str×Nat))->List (Option Addr)->List MW.Cl->Prop
 |some p::r,some C::cs,cl::cls=>ClF K mg T Z p.1 C cl/\Od T Z r cs cls|none::r,none::cs,_::cls=>Od T Z r cs cls|[],[],[]=>True|_,_,_=>False
noncomputable def aa9:List (Str×Int)->Prop
 |p::r=>(∃t,mg p.1=some (.int p.2 t))/\aa9 r|[]=>True
noncomputable def AllB:List Str->Prop
 |x::r=>mg x=none/\AllB r|[]=>True
end
theorem aa7.get{K:Fg}:∀{U:List Def}{Z:List Stmt}{as:X9}{fs:List FuncData}{i:Nat}{d:Def},aa7 K U Z as fs->U[i]?=some d->∃s a f,Z[i]?=some s/\as[i]?=some a/\fs[i]?=some f/\Fun K d.x d.qual s a f/\Binds K f d.ps []
 |d::U,s::Z,a::as,f::fs,0,d',h,e=>by cases e;exact⟨s,a,f,rfl,rfl,rfl,h.1⟩
 |d::U,s::Z,a::as,f::fs,i+1,d',h,e=>by
  obtain⟨s',a',f',R,h2,h3,h4⟩:=aa7.get (i:=i) h.2 (by simpa using e);exact⟨s',a',f',by simpa using R,by simpa using h2,by simpa using h3,h4⟩
theorem Tp.get{mg:Zs}:∀{l:List (Option (Str×Nat))}{as:X9}{i:Nat}{p:Str×Nat}{a:Addr},Tp mg l as->l[i]?=some (some p)->as[i]?=some a->mg p.1=some (.ref a)
 |some q::l,b::as,0,p,a,h,e,e2=>by cases e;cases e2;exact h.1|none::l,b::as,0,p,a,h,e,e2=>by cases e|some q::l,b::as,i+1,p,a,h,e,e2=>Tp.get (i:=i) h.2 (by simpa using e) (by simpa using e2)|none::l,b::as,i+1,p,a,h,e,e2=>Tp.get (i:=i) (l:=l) (as:=as) h (by simpa using e) (by simpa using e2)
theorem aej.get{K:Fg}{C:Addr}{Z:List (Str×Nat)}{U:X9}:∀{l:List (Nat×Nat)}{q:Nat×Nat},aej K C Z U l->q∈l->∃p a,Z[q.1]?=some p/\U[q.2]?=some a/\Meth K C p.1 a
 |q'::l,q,h,m=>by
  rcases bz.mp m with z|z
  .rw[z];exact h.1
  .exact aej.get h.2 z
theorem aa8.get{K:Fg}{C:Addr}:∀{l:Yf}{x:Str},aa8 K C l->x∈l->Gw K C x
 |y::l,x,h,m=>by
  rcases bz.mp m with z|z
  .rw[z];exact h.1
  .exact aa8.get h.2 z
theorem Od.get{K:Fg}{mg:Zs}{T:Tab}{Lq:X9}:∀{l:List (Option (Str×Nat))}{cs:List (Option Addr)}{cls:List MW.Cl}{c:Nat}{p:Str×Nat},Od K mg T Lq l cs cls->l[c]?=some (some p)->∃C Z,cs[c]?=some (some C)/\cls[c]?=some Z/\ClF K mg T Lq p.1 C Z
 |some q::l,some C::cs,Z::cls,0,p,h,e=>by cases e;exact⟨C,Z,rfl,rfl,h.1⟩
 |some q::l,some C::cs,Z::cls,c+1,p,h,e=>by
  obtain⟨R,U,h1,h2,h3⟩:=Od.get (c:=c) h.2 (by simpa using e);exact⟨R,U,by simpa using h1,by simpa using h2,h3⟩
 |none::l,none::cs,Z::cls,0,p,h,e=>by cases e
 |none::l,none::cs,Z::cls,c+1,p,h,e=>by
  obtain⟨R,U,h1,h2,h3⟩:=Od.get (l:=l) (cs:=cs) (cls:=cls) (c:=c) h (by simpa using e);exact⟨R,U,by simpa using h1,by simpa using h2,h3⟩
theorem Od.at{K:Fg}{mg:Zs}{T:Tab}{Z:X9}:∀{l:List (Option (Str×Nat))}{cs:List (Option Addr)}{cls:List MW.Cl}{c:Nat}{C:Addr},Od K mg T Z l cs cls->cs[c]?=some (some C)->Cls K C/\aa8 K C T.Qg
 |some q::l,some C::cs,cl::cls,0,p,h,e=>by cases e;exact⟨h.1.cs,h.1.na⟩|some q::l,some C::cs,cl::cls,c+1,p,h,e=>Od.at (c:=c) h.2 (by simpa using e)|none::l,none::cs,cl::cls,0,p,h,e=>by cases e|[],[],_,_,_,_,e=>by simp at e|[],_::_,[],_,_,h,_=>h.elim|[],_::_,_::_,_,_,h,_=>h.elim|none::l,none::cs,cl::cls,c+1,p,h,e=>Od.at (l:=l) (cs:=cs) (cls:=cls) (c:=c) h (by simpa using e)
theorem aa9.get{mg:Zs}:∀{l:List (Str×Int)}{x:Str}{i:Int},aa9 mg l->(x,i)∈l->∃t,mg x=some (.int i t)
 |q::l,x,i,h,m=>by
  rcases bz.mp m with z|z
  .rw[<- z] at h;exact h.1
  .exact aa9.get h.2 z
theorem AllB.get{mg:Zs}:∀{l:Yf}{x:Str},AllB mg l->x∈l->mg x=none
 |q::l,x,h,m=>by
  rcases bz.mp m with z|z
  .rw[z];exact h.1
  .exact AllB.get h.2 z
noncomputable def aww(T:Tab):List MW.Fn->List Def->List Stmt->Bool
 |F::Fs,d::ds,s::ss=>ak7 T d F s&&aww T Fs ds ss|[],[],[]=>true|_,_,_=>false
noncomputable def npB(Z:List MW.Fn)(f n:Nat):Bool:=match Z[f]? with|some F=>F.np==n|none=>false
noncomputable def tfB(Z:List MW.Fn)(l:List (Option (Str×Nat))):Bool:=l.zipIdx.all λq=>match q.1 with|some p=>npB Z q.2 p.2|none=>true
noncomputable def tcB(Z:MW.Prog)(l:List (Option (Str×Nat))):Bool:=l.zipIdx.all λq=>match q.1 with|some p=>(match Z.cls[q.2]? with|some U=>npB Z.fns U.init (p.2+1)|none=>false)|none=>true
noncomputable def bgo(Z:List MW.Cl)(m c f:Nat):Bool:=Z.zipIdx.all λq=>match q.1.meths.lookup m with|none=>true|some g=>q.2==c&&g==f
noncomputable def tmB(Z:MW.Prog)(T:Tab)(mcs:List (Nat×Nat)):Bool:=T.mts.zipIdx.all λq=>match mcs[q.2]? with
 |some cf=>(bgo Z.cls q.2 cf.1 cf.2&&(npB Z.fns cf.2 (q.1.2+1)&&aqs T.Qg q.1.1))&&((match T.cls[cf.1]? with|some (some _)=>true|_=>false)&&(match Z.cls[cf.1]? with|some U=>U.meths.lookup q.2==some cf.2|none=>false))
 |none=>false
def Ku{Z:Type}{l:List Z}{g:Z×Nat->Bool}(h:l.zipIdx.all g=true){x:Z}(e:l[i]?=some x):g (x,i)=true:=by rw[jb] at h;exact h (x,i) (by rw[mj];exact⟨i,by rw[yl,e];simp⟩)
set_option tactic.hygienic true in
def agi(h:npB fns f n=true):∃F,fns[f]?=some F/\F.np=n:=by
 unfold npB at h;split at h
 .rename_i F e;exact⟨F,e,eq_of_beq h⟩
 .cases h
theorem Xh{T:Tab}:∀{Z:List MW.Fn}{R:List Def}{U:List Stmt}{i:Nat}{F:MW.Fn},aww T Z R U=true->Z[i]?=some F->∃d s,R[i]?=some d/\U[i]?=some s/\ak7 T d F s=true
 |F::Z,d::R,s::U,0,F',h,e=>by
  replace h:=Bool.and_eq_true_iff.mp h;cases e;exact⟨d,s,rfl,rfl,h.1⟩
 |F::Z,d::R,s::U,i+1,F',h,e=>by
  replace h:=Bool.and_eq_true_iff.mp h;obtain⟨d',s',h1,h2,h3⟩:=Xh (i:=i) h.2 (by simpa using e);exact⟨d',s',by simpa using h1,by simpa using h2,h3⟩
 |[],_,_,_,_,_,e=>by simp at e|_::_,[],_,_,_,h,_=>by cases h|_::_,_::_,[],_,_,h,_=>by cases h
set_option tactic.hygienic true in
def a3w(qq:aqq T.Qg=true)(hP:aww T IR.fns Ds ss=true)(h1:tfB IR.fns T.fns=true)(h2:tcB IR T.cls=true)(h3:tmB IR T mcs=true)(aF:aa7 K Ds ss L fds)(aG:Tp mg T.fns L)(aC:Od K mg T L T.cls cas IR.cls)(aV:aa9 mg T.awe)(aB:AllB mg Oa)(hF:IR.fns[i]?=some F) :
 ∃d a f,Ds[i]?=some d/\L[i]?=some a/\fds[i]?=some f/\Binds K f d.ps []/\Fj P w K mg base CX0 (17*n) a f d.ps (spF (a3v cas T.Qg qq) ⟨IR.call n,IR.cls⟩ K F.np i):=by
 let dd:Def:=⟨Str.empty,Str.empty,[],[]⟩
 let sd:Stmt:=.Pass ⟨0,0,0,0⟩
 obtain⟨d,s,g1,g2,g3⟩:=Xh hP hF;have all:∀(i:Nat)(F:MW.Fn),IR.fns[i]?=some F->∃d s a f,Ds[i]?=some d/\ss[i]?=some s/\L[i]?=some a/\fds[i]?=some f/\Fun K d.x d.qual s a f/\Binds K f d.ps []/\ak7 T d F s=true:=λi F e=>by
  refine hG λ_ _k=>?_
  obtain⟨d,s,g1,g2,g3⟩:=Xh hP e;obtain⟨s',a,f,Z,S,Y,R,u⟩:=aF.get g1;rw[g2] at Z;cases Z;apply _k;exact⟨d,s,a,f,g1,g2,S,Y,R,u,g3⟩
 have df:∀{j:Nat}{a:Addr}{f:FuncData}{d:Def},L[j]?=some a->fds[j]?=some f->Ds[j]?=some d->(L[j]?).getD 0=a/\Ds[j]?.getD dd=d:=λJ U e3=>⟨by rw[J];rfl,by rw[e3];rfl⟩
 obtain⟨q0,q8⟩:∃q0:FuncData,True:=by obtain⟨s',a,f,_⟩:=aF.get g1;exact⟨f,trivial⟩
 have qv:=ait (nm:=a3v cas T.Qg qq) (P:=P) (w:=w) (K:=K) (mg:=mg) (base:=base) (IR:=IR) (T:=T) (D:=λi=>Ds[i]?.getD dd) (st:=λi=>ss[i]?.getD sd) (fa:=λi=>(L[i]?).getD 0) (fd:=λi=>(fds[i]?).getD q0)
  (λi hi=>by
   refine hG λ_ _k=>?_
   obtain⟨d,s,a,f,Z,S,Y,R,u,k6,k7⟩:=all i IR.fns[i] (by simp[hi]);apply _k;rw[Z,S,Y,R];exact u)
  (λi F e=>by
   refine hG λ_ _k=>?_
   obtain⟨d,s,a,f,Z,S,Y,R,u,k6,k7⟩:=all i F e;apply _k;rw[Z,S];exact k7)
  (λn G=>?_) n i F hF
 .refine hG λ_ _k=>?_
  obtain⟨d',s',a,f,Z,S,Y,R,u,k6,k7⟩:=all i F hF;apply _k;refine⟨d',a,f,Z,Y,R,k6,?_⟩;have:=qv;rw[Z,Y,R] at this;exact this
 ·
  have qk:∀{j:Nat}{F:MW.Fn}{a:Addr},IR.fns[j]?=some F->L[j]?=some a->∃(f:FuncData)(d:Def),Binds K f d.ps []/\Fj P w K mg base CX0 (17*n) a f d.ps (spF (a3v cas T.Qg qq) ⟨IR.call n,IR.cls⟩ K F.np j)/\PySem.W.keepIn K (.ref a)=true:=fun{j F a} J U=>by
   refine hG λ_ _k=>?_
   obtain⟨d,s,a',f,Z,S,Y,R,u,k6,k7⟩:=all j F J;rw[U] at Y;cases Y;have g:=G j F J;rw[Z,U,R] at g;apply _k;exact⟨f,d,k6,g,u.kp⟩
  have addr:∀{j:Nat}{F:MW.Fn},IR.fns[j]?=some F->∃a,L[j]?=some a:=fun{j F} e=>by
   refine hG λ_ _k=>?_
   obtain⟨d,s,a',f,Z,S,Y,_⟩:=all j F e;apply _k;exact⟨a',Y⟩
  refine⟨λf x m e=>?_,λc x m e=>?_,λm x j e=>?_,λf x e=>?_,λx i m=>aV.get m,λx m=>aB.get m⟩
  .refine hG λ_ _k=>?_
   obtain⟨F,J,U⟩:=agi (Ku h1 e);obtain⟨a,e3⟩:=addr J;obtain⟨fd,d,b,g,kp⟩:=qk J e3;rw[U] at g;apply _k;exact⟨a,fd,d.ps,g,aG.get e e3,kp,b⟩
  .refine hG λ_ _k=>?_
   obtain⟨C,cl,q1,q2,q3⟩:=aC.get e;have z:=Ku h2 e;simp only[q2] at z;obtain⟨F,J,U⟩:=agi z;obtain⟨f,f1,f2⟩:=q3.ini;obtain⟨fd,d,b,g,kp⟩:=qk J f1;rw[U] at g;apply _k;exact⟨C,f,fd,d.ps,cl,f2,g,q3.mg,b,q2,by show(cas[c]?).join=some C;rw[q1];rfl⟩
  .have z:=Ku h3 e
   simp only at z;split at z
   .rename_i cf zz
    simp only[aq] at z;refine hG λ_ _k=>?_
    obtain⟨⟨z1,z2,z3⟩,z4,z5⟩:=z;obtain⟨F,J,U⟩:=agi z2;apply _k;split at z4
    .rename_i p hp
     refine hG λ_ _k=>?_
     obtain⟨C,cl,q1,q2,q3⟩:=aC.get hp;rw[q2] at z5;simp only at z5;have mem:(m,cf.2)∈cl.meths:=mem_of_lookup (eq_of_beq z5);obtain⟨p',a,r1,r2,r3⟩:=q3.me.get mem;rw[e] at r1;cases r1;obtain⟨fd,d,b,g,kp⟩:=qk J r2;rw[U] at g;apply _k;refine⟨C,a,fd,d.ps,cf.2,q3.cs,r3,g,b,λc' q7 q4 g' q5=>?_,aqt z3⟩;have y:=Ku z1 q4;simp only[q5,aq] at y;have y1:c'=cf.1:=eq_of_beq y.1;exact⟨by show(cas[c']?).join=some C;rw[y1,q1];rfl,eq_of_beq y.2⟩
    .cases z4
   .cases z
  .refine⟨by show x=aei T.Qg f;unfold aei;rw[e],λc C hC=>?_⟩
   have hC:(cas[c]?).join=some C:=hC;have q6:cas[c]?=some (some C):=by
    cases q:cas[c]? with
    |none=>rw[q] at hC;cases hC
    |some o=>rw[q] at hC;cases o with
     |none=>cases hC|some C'=>cases hC;rfl
   obtain⟨y1,y2⟩:=aC.at q6;exact⟨y1,y2.get (au e)⟩
def fN:aa7 K [] [] [] []:=trivial
def gN:Tp mg [] as:=trivial
def gS(h:mg p.1=some (.ref a))(t:Tp mg r Z):Tp mg (some p::r) (a::Z):=⟨h,t⟩
def gO(t:Tp mg r Z):Tp mg (none::r) (a::Z):=t
def mN:aej K C mts Z []:=trivial
def mC(U:mts[q.1]?=some p)(R:Z[q.2]?=some a)(m:Meth K C p.1 a)(t:aej K C mts Z r):aej K C mts Z (q::r):=⟨⟨p,a,U,R,m⟩,t⟩
def nN:aa8 K C []:=trivial
def nC(h:Gw K C x)(t:aa8 K C r):aa8 K C (x::r):=⟨h,t⟩
def cN:Od K mg T Z [] [] []:=trivial
def cO(t:Od K mg T Z r cs cls):Od K mg T Z (none::r) (none::cs) (cl::cls):=t
def cS(h:ClF K mg T Z p.1 C cl)(t:Od K mg T Z r cs cls):Od K mg T Z (some p::r) (some C::cs) (cl::cls):=⟨h,t⟩
def vN:aa9 mg []:=trivial
def vC(h:mg p.1=some (.int p.2 t))(q:aa9 mg r):aa9 mg (p::r):=⟨⟨t,h⟩,q⟩
def bN:AllB mg []:=trivial
def bC(h:mg x=none)(q:AllB mg r):AllB mg (x::r):=⟨h,q⟩
noncomputable abbrev Lk(K:Fg)(f:Addr)(x q:Str)(st:Stmt)(oc:Value)(od:Option Addr)(kV dc pm:Value)(an:Option Addr)(cd ct:Value)(sl:Array (Option Value)):Prop :=
 K.lookup f=some ⟨oc,od,.func (PySem.W.fnOf x q (Ip st) (Ga st) (Bd st) .none kV dc pm an cd ct),sl⟩/\PySem.W.codeIn K cd q=true/\PySem.W.keepIn K (.ref f)=true
def awc{U:Type}{Z:List U}(h:Z.length=1):∃a,Z=[a]:=match Z,h with|[a],_=>⟨a,rfl⟩
def awd{U:Type}{Z:List U}(h:Z.length=2):∃a b,Z=[a,b]:=match Z,h with|[a,b],_=>⟨a,b,rfl⟩
def bgq{U:Type}{Z:List U}(h:Z.length=3):∃a b c,Z=[a,b,c]:=match Z,h with|[a,b,c],_=>⟨a,b,c,rfl⟩
def bgr{U:Type}{Z:List U}(h:Z.length=4):∃a b c d,Z=[a,b,c,d]:=match Z,h with|[a,b,c,d],_=>⟨a,b,c,d,rfl⟩
def bgs{U:Type}{Z:List U}(h:Z.length=5):∃a b c d e,Z=[a,b,c,d,e]:=match Z,h with|[a,b,c,d,e],_=>⟨a,b,c,d,e,rfl⟩
def bgt{U:Type}{Z:List U}(h:Z.length=6):∃a b c d e f,Z=[a,b,c,d,e,f]:=match Z,h with|[a,b,c,d,e,f],_=>⟨a,b,c,d,e,f,rfl⟩
def bgu{U:Type}{Z:List U}(h:Z.length=7):∃a b c d e f g,Z=[a,b,c,d,e,f,g]:=match Z,h with|[a,b,c,d,e,f,g],_=>⟨a,b,c,d,e,f,g,rfl⟩
def fE{kV:Value}(l:Lk K a d.x d.qual s oc od kV dc pm an cd ct sl)(r:aa7 K ds ss as fs)
 (b:∀(kV R pm:Value)(an:Option Addr)(qq ct:Value)(U:Zl),U.length=d.ps.length->bindArgs (PySem.W.fnOf d.x d.qual (Ip s) (Ga s) (Bd s) .none kV R pm an qq ct) ⟨U,[]⟩=pure (d.ps.zip U):=by intro _ _ _ _ _ _ U Z;first|(obtain⟨_,rfl⟩:=Ck.awc Z;rfl)|(obtain⟨_,_,rfl⟩:=Ck.awd Z;rfl)|(obtain⟨_,_,_,rfl⟩:=Ck.bgq Z;rfl)|(obtain⟨_,_,_,_,rfl⟩:=Ck.bgr Z;rfl)|(obtain⟨_,_,_,_,_,rfl⟩:=Ck.bgs Z;rfl)|(obtain⟨_,_,_,_,_,_,rfl⟩:=Ck.bgt Z;rfl)|(obtain⟨_,_,_,_,_,_,_,rfl⟩:=Ck.bgu Z;rfl)) :
 aa7 K (d::ds) (s::ss) (a::as) (PySem.W.fnOf d.x d.qual (Ip s) (Ga s) (Bd s) .none kV dc pm an cd ct::fs):=⟨⟨ao6 l.1 l.2.1 l.2.2,(ao6 l.1 l.2.1 l.2.2).binds b⟩,r⟩
noncomputable def aiu(K:Fg):Sp:=λU H Q _=>∃(a:Addr)(Z:Xs),U=[.ref a]/\Only H/\Gz K H a (Z.map V.int)/\Z.length<=63/\∀R,Q (.bl true) R
def awx(o:Only H)(h:Gz K H a vs):aap K H a vs:=by
 rcases h with(h|h)|h
 .rcases o a with z|⟨ob,xs,z⟩<;>rw[z] at h<;>cases h
 .exact .inl h
 .exact .inr h
def awy(run:∀(Z:Xs),Z.length<=63->∃U,W.call i [.fz (Z.map MW.D.int)] []=.ok (.bl true) U)(h:aiu K vs H Q E):spF nm W K 1 i vs H Q E:=by obtain⟨a,Z,rfl,o,hS,R,k⟩:=h;obtain⟨U,e⟩:=run Z R;refine⟨⟨[],[]⟩,[],_,_,U,⟨rfl,v8,by simp,λn o a h=>by simp at h⟩,.cons (.fz (awx o hS) (lg.ints Z)) .nil,rfl,e,λqq H' v le S' r=>?_⟩;cases r;exact k H'
def walk{l:PySem.W.OpenLaw}{K:Params->Fg}(hn:l.most=some 63)(U:d.params.defaults=[])(hY:∀(w:World) (h:Heap),YP w h->(K w.params).In h)(F:∀(w:World) (mg:Zs) (R:Addr) (h:Heap),(K w.params).In h->h.Ns mainGlobals mg->mg d.name=some (.ref R) ->
 ∃fd:FuncData,(∀(s:Shared) (u:Value),BindsTo s fd ⟨[u],[]⟩ [("script",u)])/\∀Z:Heap,(K w.params).In Z->Z.Ns mainGlobals mg->Fj l.prog w (K w.params) mg Z CX0 170 R fd ["script"] (aiu (K w.params))) :
 PySem.W.WalkO q loose XP YP l.row.toRowW d [] (λf vs=>PySem.call f vs) :=
 L2.au8 (n:=63) (k:=170) (x := "script") (CX:=λ_=>CX0) (sp:=λw=>aiu (K w.params)) hn (by decide) U ⟨rfl,by decide,by decide⟩ hY F (λ_ _ a ns hl ho hS=>⟨a,ns,rfl,ho,hS,hl,λ_=>rfl⟩) λ_ _ _ _ _ z=>z
end Ck
namespace K14
open PySem L2
noncomputable def top(i:Nat):Stmt:=PySem.Challenge.pw_mapwright_k14_pieces.main.body.getD i (.Pass ⟨0,0,0,0⟩)
noncomputable def sts:List Stmt:=[inClass (top 11) 0,inClass (top 11) 1,inClass (top 11) 2,inClass (top 11) 3,inClass (top 11) 4,inClass (top 11) 5,top 12,top 13,top 14,top 15,top 16,top 17,top 26,top 27,top 28,top 29,top 30,top 31,top 32,top 33,top 34,top 0,top 2,top 3,top 19,top 21,top 23,top 24,top 35,top 36,top 37,top 38,top 39,top 40]
noncomputable def Ds:List Ck.Def:=[⟨"__init__", "Pattern.__init__",["self", "kinds", "doings", "table"],["self", "kinds", "doings", "table"]⟩,⟨"kinds", "Pattern.kinds",["self"],["self"]⟩,⟨"doings", "Pattern.doings",["self"],["self"]⟩,⟨"behind", "Pattern.behind",["self", "one", "other"],["self", "one", "other"]⟩,⟨"ways", "Pattern.ways",["self", "kind"],["self", "kind"]⟩,⟨"end", "Pattern.end",["self", "kind", "way"],["self", "kind", "way"]⟩,⟨"both_ways", "both_ways",["table", "one", "other"],["table", "one", "other"]⟩,⟨"meeting_pairs", "meeting_pairs",["doings", "pairs", "one", "ends", "other", "more"],["doings"]⟩,⟨"is_way_between", "is_way_between",["doings", "way", "start", "goal"],["doings", "way", "start", "goal"]⟩,⟨"check_doings", "check_doings",["kinds", "doings", "ends"],["kinds", "doings"]⟩,⟨"check_table", "check_table",["doings", "table", "pairs", "one", "other"],["doings", "table"]⟩,⟨"check_threes", "check_threes",["doings", "table", "pairs", "one", "other", "last", "ahead", "after"],["doings", "table"]⟩,⟨"_law_cell_at", "_law_cell_at",["script", "k"],["script", "k"]⟩,⟨"_law_state", "_law_state",["script", "k", "cell"],["script", "k"]⟩,⟨"_law_take", "_law_take",["state", "many", "found", "mixed"],["state", "many"]⟩,⟨"_law_begun", "_law_begun",["state", "way", "graph", "loops", "swap", "known", "kinds", "sizes", "found", "k", "one", "other"],["state"]⟩,⟨"_law_closed", "_law_closed",["begun", "found", "one", "other", "row", "k", "j", "first", "second", "more"],["begun"]⟩,⟨"_law_pattern", "_law_pattern",["state", "begun", "closed", "kinds", "table", "j", "k", "more"],["state"]⟩,⟨"_law_ways", "_law_ways",["pat", "kind"],["pat", "kind"]⟩,⟨"_law_end", "_law_end",["pat", "kind", "way"],["pat", "kind", "way"]⟩,⟨"_law_behind", "_law_behind",["pat", "one", "other"],["pat", "one", "other"]⟩,⟨"_wall", "_wall",["k"],["k"]⟩,⟨"all_linked", "all_linked",["links", "seen", "told", "start", "found"],["links"]⟩,⟨"linked", "linked",["links", "start", "found", "ahead", "here", "other"],["links", "start"]⟩,⟨"spots", "spots",["world", "told", "kind", "size"],["world"]⟩,⟨"as_part", "as_part",["world", "members", "rows", "kind", "size"],["world", "members"]⟩,⟨"pieces", "pieces",["pattern", "world"],["pattern", "world"]⟩,⟨"all_links", "all_links",["pattern", "world", "links", "spot", "act", "ends", "thing", "goal"],["pattern", "world"]⟩,⟨"_law_merged", "_law_merged",["pat", "marks", "acts", "changed", "k", "one", "other", "first", "thing", "mark", "end", "low", "high"],["pat", "marks", "acts"]⟩,⟨"_law_world", "_law_world",["state", "pat", "most", "rows", "number", "kind", "some", "end", "way", "acts", "k", "one", "other", "marks", "low", "high", "heads", "told", "row"],["state", "pat", "most"]⟩,⟨"_law_beside", "_law_beside",["pat", "world", "spot", "found", "k", "one", "other", "thing", "ends"],["pat", "world", "spot"]⟩,⟨"_law_piece", "_law_piece",["pat", "world", "spot", "found", "k", "more"],["pat", "world", "spot"]⟩,⟨"_law_due", "_law_due",["pat", "world", "found", "seen", "kind", "thing", "spots_v"],["pat", "world"]⟩,⟨"law", "law",["script", "k", "state", "pat", "pattern", "world", "due", "found"],["script"]⟩]
noncomputable def tab:Ck.Tab:=⟨[none,none,none,none,none,none,(some ("both_ways",3):Y2),(some ("meeting_pairs",1):Y2),(some ("is_way_between",4):Y2),(some ("check_doings",2):Y2),(some ("check_table",2):Y2),(some ("check_threes",2):Y2),(some ("_law_cell_at",2):Y2),(some ("_law_state",2):Y2),(some ("_law_take",2):Y2),(some ("_law_begun",1):Y2),(some ("_law_closed",1):Y2),(some ("_law_pattern",1):Y2),(some ("_law_ways",2):Y2),(some ("_law_end",3):Y2),(some ("_law_behind",3):Y2),(some ("_wall",1):Y2),(some ("all_linked",1):Y2),(some ("linked",2):Y2),(some ("spots",1):Y2),(some ("as_part",2):Y2),(some ("pieces",2):Y2),(some ("all_links",2):Y2),(some ("_law_merged",3):Y2),(some ("_law_world",3):Y2),(some ("_law_beside",3):Y2),(some ("_law_piece",3):Y2),(some ("_law_due",2):Y2),(some ("law",1):Y2)],[none,none,some ("Pattern",3)],[("kinds",0),("doings",0),("behind",2),("ways",1),("end",2)],["together", "doing_ends", "kind_count"],[("STAYING",-1),("MOST_KINDS",3),("MOST_DOINGS",5)]⟩
noncomputable def mcs:List (Nat×Nat):=[(2,1),(2,2),(2,3),(2,4),(2,5)]
def chk:Ck.aww tab prog.fns Ds sts=true:=by decide+kernel
def bgv:Ck.aqq tab.Qg=true:=by decide+kernel
def bgw:Ck.tfB prog.fns tab.fns=true:=by decide+kernel
def bgx:Ck.tcB prog tab.cls=true:=by decide+kernel
def bgy:Ck.tmB prog tab mcs=true:=by decide+kernel
open MW
noncomputable def Kv(Z:List F)(k i:Nat):Bool:=match Z[i]? with|some f=>decide (f.a=k)|none=>false
noncomputable def zf(Z:List F)(k:Nat):List D:=.int (-1)::((List.range Z.length).filter (Kv Z k)).map nD
def Rh(h:d∈zf Z k):d=.int (-1)\/∃(i:Nat)(f:F),d=.int i/\Z[i]?=some f/\f.a=k:=by
 rcases bz.mp h with q|q
 .exact .inl q
 .obtain⟨i,hi,rfl⟩:=bh.mp q
  obtain⟨h1,R⟩:=qm.mp hi;have U:=jx.mp h1;have e:Z[i]?=some Z[i]:=by simp[U]
  rw[Kv,e] at R;exact .inr ⟨i,Z[i],rfl,e,by simpa using R⟩
def aqu(h:d∈zf Z k):∃i:Int,d=.int i:=by rcases Rh h with rfl|⟨i,f,rfl,_⟩<;>exact⟨_,rfl⟩
def aek(U:Z.length<=5):(zf Z k).length<=6:=by have:=vq (Kv Z k) (List.range Z.length);simp at this;simp[zf];exact a_ this U
noncomputable def wk(K r:Nat)(Z:List F):D:=.tup [.int K,Gf Z,.ref r]
def Ri(K r:Nat)(Z:List F)(M:cg):Aa (wk K r Z) (.int 0) M=some (.int K):=rfl
def Jz(K r:Nat)(Z:List F)(M:cg):Aa (wk K r Z) (.int 1) M=some (Gf Z):=rfl
def ayq(K r:Nat)(Z:List F)(M:cg):Aa (wk K r Z) (.int 2) M=some (.ref r):=rfl
def Made.keep(h:Made n r K Z kvs M)(k:Ay M M'):Made n r K Z kvs M':=⟨k _ _ h.1,k _ _ h.2⟩
def Made.f2(h:Made n r K Z kvs M):Qm (.ref n) 2 M=some (.int K):=by simp[Qm,h.1,List.lookup]
def Made.f1(h:Made n r K Z kvs M):Qm (.ref n) 1 M=some (Gf Z):=by simp[Qm,h.1,List.lookup]
def Made.f0(h:Made n r K Z kvs M):Qm (.ref n) 0 M=some (.ref r):=by simp[Qm,h.1,List.lookup]
def ak8(Z:1<=m)(h:Made n r K U kvs M):prog.call m 2 [.ref n] M=.ok (Gf U) M:=by rw[call_of Z rfl];simp[Fn.run,Jq,Jp,h.f1]
def aqv(hm:1<=m)(R:Z.length<=5){k:Nat}:prog.call m 18 [wk K r Z,.int k] M=.ok (.vl (zf Z k)) M:=by
 rw[call_of hm rfl];have hc:Iz.den (PW (m-1)) [some (wk K r Z),some (.int k)] M=.ok (.vl (((List.range Z.length).filter (Kv Z k)).map nD)) M:=by
  unfold Iz;rw[Mi (n:=Z.length) (M1:=M) (q:=Kv Z k) (g:=nD) (by simp[Jz,Qc]) (a_ R (by decide)) (λi U=>by
   have e:Z[i]?=some Z[i]:=by simp[U]
   refine⟨_,rfl,?_,λ_=>?_⟩
   .simp[-eq_int,Jz,Qz e,ach,Bk,Kv,U]
   .simp[nD])]
  simp
 have:=Yl (M:=M) [.int (-1)] (((List.range Z.length).filter (Kv Z k)).map nD) (by
  have:=vq (Kv Z k) (List.range Z.length);simp at this ⊢
  lia)
 simp[Fn.run,T5,T4,hc,this,zf]
def awz(Z:1<=m){k i:Nat}(hf:U[i]?=some f):prog.call m 19 [wk K r U,.int k,.int i] M=.ok (.int f.b) M:=by
 rw[call_of Z rfl];have R:¬((i:Int)<0):=by lia
 simp[Fn.run,Py,Px,R,Jz,Qz hf,aci]
def ak9(Z:1<=m){k:Nat}:prog.call m 19 [wk K r U,.int k,.int (-1)] M=.ok (.int k) M:=by rw[call_of Z rfl];simp[Fn.run,Py,Px]
def agj(hm:1<=m)(hr:M[r']?=some (.dT kvs))(hx:-1<=x)(hy:-1<=y)(Z:bothW hs kvs x y=some v):prog.call m 20 [wk K r' hs,.int x,.int y] M=.ok v M:=by
 rw[call_of hm rfl];unfold bothW at Z
 by_cases U:x=-1
 .rw[cj U] at Z;cases Z
  subst U;have:(-1:Int)+y+1=y:=by lia
  simp[Fn.run,Fy,Fw,this]
 .rw[bw U] at Z
  have nx:¬x<0:=by lia
  by_cases R:y=-1
  .rw[cj R] at Z;cases Z
   subst R;have:x+(-1:Int)+1=x:=by lia
   simp[Fn.run,Fy,Fw,nx,this]
  .rw[bw R] at Z
   have ny:¬y<0:=by lia
   simp[Fn.run,Fy,Fw,nx,ny,ayq,V1 hr (Yn x y),Z]
end K14
namespace MW
def Li(qq:it.den W ρ M=.ok d M1)(hd:dm M1 d=some ds)(hl:ds.length<=100000)(h:∀x∈ds,∃Z,t.put x (ρ++List.replicate k none)=some Z/\c.den W Z M1=.ok (.bl (q x)) M1/\(q x=true->e.den W Z M1=.ok (g x) M1)) :
 (Ex.Ci v k t (.val it) c e).den W ρ M=if v then .ok (.vl ((ds.filter q).map g)) M1 else new (.lst ((ds.filter q).map g)) M1:=by
 rw[Mh,Ih,qq];obtain⟨s,h1,h2⟩:=Mg (g:=λx=>if q x then some (g x) else none) (body:=λd M=>(Res.uz (t.put d (ρ++List.replicate k none)) M).bind λU M=>(c.den W U M).bind λb M' =>
  match b with
   |.bl true=>(e.den W U M').bind λx R=>.ok (some x) R
   |.bl false=>.ok none M'|_=>.bad) hd hl (λx hx=>by
  obtain⟨Z,a,b,c⟩:=h x hx;rw[a,Res.Bt,Res.Am,b,Res.Am];cases e:q x with
  | true=>simp[c e]|false=>simp)
 have:ds.filterMap (λx=>if q x then some (g x) else none)=(ds.filter q).map g:=by
  clear h2 h hl hd
  induction ds with
  |nil=>rfl|cons a l ih=>by_cases e:q a=true<;>simp[e,ih]
 rw[this] at h2;simp only[Res.Am,h1,Res.Bt];exact nq (λr=>Res.bind r λds M2=>if v=true then Res.ok (D.vl ds) M2 else new (MO.lst ds) M2) h2
end MW
namespace K14
open MW
noncomputable def Dl(Z:List F)(k:Nat):D->Nat
 |.int i=>if i=-1 then k else match Z[i.toNat]? with|some f=>f.b|none=>0
 |_=>0
noncomputable def wT(Z:List F)(k g:Nat):List D:=(zf Z k).filter λd=>decide (Dl Z k d=g)
def aqw(h:d∈wT Z k g):d∈zf Z k/\Dl Z k d=g:=by have:=qm.mp h;exact⟨this.1,by simpa using this.2⟩
def Vi{i:Nat}(h:Z[i]?=some f):Dl Z k (.int i)=f.b:=by
 have:¬((i:Int)=-1):=by lia
 simp[Dl,this,h]
def a3x{i:Nat}(h:Z[i]?=some f)(e:f.a=k):.int i∈zf Z k:=by refine bf _ (bh.mpr ⟨i,qm.mpr ⟨jx.mpr (ak.mp h).1,?_⟩,rfl⟩);simp[Kv,h,e]
def ayr{i:Nat}(h:Z[i]?=some f)(e:f.a=k):.int i∈wT Z k f.b :=
 qm.mpr ⟨a3x h e,by simp[Vi h]⟩
def a3y(h:d∈wT Z k g):∃i:Int,d=.int i:=aqu (aqw h).1
noncomputable def bv(U:List F)(Z:List (List Kx×D))(j:Nat):D->Int
 |.int x=>match bothW U Z x j with|some (.int v)=>v|_=>0
 |_=>0
def aw0(P:Lr sz K Z kvs){j:Nat}(hj:Z[j]?=some f)(hd:d∈wT Z k f.a) :
 ∃x:Int,d=.int x/\-1<=x/\bothW Z kvs x j=some (.int (bv Z kvs j d))/\.int (bv Z kvs j d)∈wT Z k f.b:=by
 obtain⟨h1,U⟩:=aqw hd;have nj:¬((j:Int)=-1):=by lia
 rcases Rh h1 with rfl|⟨i,g,rfl,hg,e⟩
 .have e:k=f.a:=by simpa[Dl] using U
  have:bothW Z kvs (-1) j=some (.int j):=by simp[bothW]
  refine⟨-1,rfl,by lia,by simp[bv,this],?_⟩;simp only[bv,this];exact ayr hj e.symm
 .rw[Vi hg] at U
  have ni:¬((i:Int)=-1):=by lia
  have:bothW Z kvs i j=some (.int (ent Z g f)):=by rw[bothW,bw ni,bw nj];exact P.look hg hj U
  refine⟨i,rfl,by lia,by simp[bv,this],?_⟩;simp only[bv,this];have mg:=au hg;have mf:=au hj;rw[Qd];rcases P.Hr (P.cl g mg f mf U) with⟨R,i1⟩|⟨u,hu,R⟩
  .rw[R]
   refine qm.mpr ⟨by simp[zf],?_⟩;have:g.a=f.b:=i1.1;simp[Dl,<- e,this]
  .rw[R]
   exact ayr (f:=g.comp f) hu e
noncomputable def ixI(v:Int)(Z:List D):Nat:=(Z.findIdx? λd=>match d with|.int i=>decide (i=v)|_=>false).getD 0
theorem ael(M:cg)(v:Int):∀Z:List D,(∀d∈Z,∃i:Int,d=.int i)->Ly M (.int v) Z=some (Z.map λd=>match d with|.int i=>decide (i=v)|_=>false)
 |[],_=>rfl
 |d::l,h=>by
  obtain⟨i,rfl⟩:=h d (by simp);simp[Ly,ael M v l (λx U=>h x (bf _ U))]
theorem aem{Z:Type}(f:Z->Bool):∀l:List Z,(l.map f).findIdx? id=l.findIdx? f
 |[]=>rfl|a::l=>by simp[List.findIdx?_cons,aem f l]
def aqx(Z:∀d∈ds,∃i:Int,d=.int i)(h:.int v∈ds):Gg .index (.vl ds) [.int v] M=.ok (.int (ixI v ds)) M:=by
 have e:abx M (.int v) ds=some (ixI v ds):=by
  rw[abx,ael M v ds Z,qe,aem];unfold ixI;cases q:ds.findIdx? (λd=>match d with|.int i=>decide (i=v)|_=>false) with
  |some j=>rfl
  |none =>
   rw[yj] at q;have:=q _ h;simp at this
 simp[Gg,onL,onT,onK,e]
end K14
namespace K14
open MW
def aqy(Z:1<=m)(R:d∈zf U k):prog.call m 19 [wk K r U,.int k,d] M=.ok (.int (Dl U k d)) M:=by
 rcases Rh R with rfl|⟨i,f,rfl,hf,_⟩
 .rw[ak9 Z];simp[Dl]
 .rw[awz Z hf,Vi hf]
noncomputable def RS(p K:Nat)(Z:Nat->List D)(M:cg):Prop:=∀i,i<K->M[p+i]?=some (.lst (Z i))
noncomputable def xg(p K:Nat):List D:=(List.range K).map λi=>.ref (p+i)
theorem RS.keep(h:RS p K rs M)(s:St t f M M')(U:t<p):RS p K rs M':=λi Z=>s.keep _ _ (i_ (b_ U x_)) (h i Z)
def aba(Z:i<K):Aa (.vl (xg p K)) (.int i) M=some (.ref (p+i)):=Cm rfl q_ (by simp[xg,Z])
def aqz(hy:y=ρ.length)(he:e.den W ρ M=.ok (.int K) M)(hK:K<=100000) :
 (Ex.comp true 1 (.name y) (.K4 e) (.lst .nil)).den W ρ M=.ok (.vl (xg M.length K)) (M++List.replicate K (.lst [])):=by
 subst hy;obtain⟨ys,Z,g,R,h2⟩:=Z4 (v:=true) (k:=1) (t:=.name ρ.length) (e:=.lst .nil) he hK (λi U Z=>U=xg M.length i/\Z=M++List.replicate i (.lst [])) ⟨rfl,by simp⟩
  (λi U Z hi hI=>by
   obtain⟨rfl,rfl⟩:=hI;refine⟨_,.ref (M.length+i),M++List.replicate i (MO.lst [])++[MO.lst []],rfl,by simp[MW.new],?_,?_⟩
   .simp[xg,qy]
   .simp[List.replicate_succ'])
 rw[g,R,h2];rfl
noncomputable def rowsOf(Z:List F)(U:List (Nat×Nat))(e:Nat):List D:=U.flatMap λp=>(wT Z p.2 e).map λw=>.tup [.int p.1,.int p.2,w]
def Xi(Z:List F)(U:List (Nat×Nat))(p:Nat×Nat)(e:Nat):rowsOf Z (U++[p]) e=rowsOf Z U e++(wT Z p.2 e).map λw=>.tup [.int p.1,.int p.2,w]:=by simp[rowsOf]
def aw1(P:Lr sz K Z kvs)(U:k<K)(R:d∈zf Z k):Dl Z k d<K:=by
 rcases Rh R with rfl|⟨i,f,rfl,hf,_⟩
 .simpa[Dl] using U
 .rw[Vi hf];exact P.afm f (au hf)
def aw2(hm:1<=m)(U:hs.length<=5)(R:ρ[1]?=some (some (wk K r hs)))(h5:ρ[5]?=some (some (.int k)))(Z:ρ.length=19) :
 Ho.den (PW m) ρ M=.ok (.vl ((zf hs k).map λw=>.tup [.int (Dl hs k w),w])) M:=by
 unfold Ho;rw[Av (d:=.vl (zf hs k)) (ds:=zf hs k) (M1:=M) (g:=λw=>.tup [.int (Dl hs k w),w]) (by simp[R,h5,aqv hm U]) rfl (gw (aek U) (by decide)) (λx hx=>by
  refine⟨_,rfl,?_⟩;have e1:(ρ++List.replicate 1 none).set 19 (some x)=ρ++[some x]:=by rw[List.set_append];simp[Z]
  rw[e1];have g1:(ρ++[some x])[1]?=some (some (wk K r hs)):=by rw[dq (b_ (by decide) (g_ Z))];exact R
  have g5:(ρ++[some x])[5]?=some (some (.int k)):=by rw[dq (b_ (by decide) (g_ Z))];exact h5
  have g9:(ρ++[some x])[19]?=some (some x):=by rw[<- Z];simp
  simp[g1,g5,g9,aqy hm hx])]
 rfl
noncomputable def Je(p:Nat)(M Z:cg):Prop:=∀(a:Nat)(o:MO),a<p->M[a]?=some o->Z[a]?=some o
def Je.refl(p:Nat)(M:cg):Je p M M:=λ_ _ _ h=>h
def Je.trans(a:Je p M Z)(b:Je p Z M2):Je p M M2:=λx o h e=>b x o h (a x o h e)
theorem Je.set(h:p<=q):Je p M (M.set q o):=λa u Z e=>by rw[jm (i_ (b_ Z h))];exact e
noncomputable def trD(n k:Nat)(w:D):D:=.tup [.int n,.int k,w]
def ays(n k:Nat)(w:D):D.tup [.int n,.int k,w]=trD n k w:=rfl
noncomputable def abb(Z:List F)(U:Nat->List D)(n k j:Nat)(e:Nat):List D:=U e++(((zf Z k).take j).filter λw=>decide (Dl Z k w=e)).map (trD n k)
def aq0(Z:List F)(U:Nat->List D)(n k e:Nat):abb Z U n k (zf Z k).length e=U e++(wT Z k e).map (trD n k):=by unfold abb wT;rw[ye]
def aq1(U:Z.length<=5)(R:(rs e).length<=7):(abb Z rs n k j e).length<=13:=by
 have h1:=vq (λw=>decide (Dl Z k w=e)) ((zf Z k).take j);have h2:=aek (k:=k) U;have h3:((zf Z k).take j).length<=(zf Z k).length:=by simp;lia
 simp only[abb,ph,du]
 lia
def Zk(P:Lr sz K Z kvs)(hk:k<K)(h:RS p K rs M)(h7:∀e,e<K->(rs e).length<=7)(hr:rest.length=10) :
 ∃b7 b8 U,Ng.den W ([a0,a1,a2,some (.vl (xg p K)),some (.int n),some (.int k),some (.vl ((zf Z k).map λw=>.tup [.int (Dl Z k w),w])),b7',b8']++rest) M
  = .ok (.next,[a0,a1,a2,some (.vl (xg p K)),some (.int n),some (.int k),some (.vl ((zf Z k).map λw=>.tup [.int (Dl Z k w),w])),b7,b8]++rest) U/\RS p K (λe=>rs e++(wT Z k e).map (trD n k)) U/\Je p M U/\U.length=M.length:=by
 have hl:=P.len;obtain⟨qk,U,e,⟨c7,c8,rfl⟩,r1,r2,r3⟩:=J9 (W:=W) (t:=.names [7,8]) (b:=Ed) (it:=.v 6) (d:=.vl ((zf Z k).map λw=>.tup [.int (Dl Z k w),w])) (ds:=(zf Z k).map λw=>.tup [.int (Dl Z k w),w])
  (ρ:=[a0,a1,a2,some (.vl (xg p K)),some (.int n),some (.int k),some (.vl ((zf Z k).map λw=>.tup [.int (Dl Z k w),w])),b7',b8']++rest) (M:=M) (M1:=M) (by simp) rfl
  (λj ρ U=>(∃b7 b8:Option D,ρ=[a0,a1,a2,some (.vl (xg p K)),some (.int n),some (.int k),some (.vl ((zf Z k).map λw=>.tup [.int (Dl Z k w),w])),b7,b8]++rest)/\RS p K (abb Z rs n k j) U/\Je p M U/\U.length=M.length)
  ⟨⟨b7',b8',rfl⟩,λi R=>by rw[h i R];simp[abb],Je.refl _ _,rfl⟩ (λ_ _ _ _=>rfl)
  (λj x ρ M1 hx hI=>by
   obtain⟨⟨c7,c8,rfl⟩,q1,q2,q3⟩:=hI;obtain⟨w,hw,rfl⟩:∃w,(zf Z k)[j]?=some w/\D.tup [.int (Dl Z k w),w]=x:=by simpa using hx
   have qq:=au hw;have he:=aw1 P hk qq;have g:=q1 _ he;have ap:=Bu (d:=trD n k w) g (by have:=aq1 (n:=n) (k:=k) (j:=j) hl (h7 _ he);exact c_ this (by decide));refine⟨_,.next,_,M1.set (p+Dl Z k w) (.lst (abb Z rs n k j (Dl Z k w)++[trD n k w])),Nt _ _ _ _ _,?_,.inl rfl,⟨some (.int (Dl Z k w)),some w,rfl⟩,?_,q2.trans (Je.set x_),by simp[q3]⟩
   .show Ed.den W (a0::a1::a2::some (.vl (xg p K))::some (.int n)::some (.int k)::some (.vl ((zf Z k).map λw=>.tup [.int (Dl Z k w),w]))::some (.int (Dl Z k w))::some w::rest) M1=_
    simp[Ed,aba he,Cu g,ays,ap]
   .intro i R
    have e1:(zf Z k).take (j+1)=(zf Z k).take j++[w]:=by rw[List.take_succ,hw];rfl
    by_cases z:i=Dl Z k w
    .subst z
     rw[p7 g];simp[abb,e1,List.filter_append]
    .rw[jm (by lia),q1 i R]
     simp[abb,e1,List.filter_append,ji z])
 refine⟨c7,c8,U,e,λi R=>?_,r2,r3⟩;rw[r1 i R];simp only[du];rw[aq0]
structure Gs(t:Nat)(f:Bool)(p:Nat)(M M':cg):Prop where
 has:Wb t f M'
 low:∀(a:Nat)(o:MO),a<p->a≠t->M[a]?=some o->M'[a]?=some o
 len:M.length<=M'.length
def Gs.trans(a:Gs t f p M Z)(b:Gs t f p Z M2):Gs t f p M M2:=⟨b.has,λx o h n e=>b.low x o h n (a.low x o h n e),gw a.len b.len⟩
def Gs.aen(s:St t f M M1):Gs t f p M M1:=⟨s.has,λa o _ n e=>s.keep a o n e,s.len⟩
def Je.has(h:Wb t f M)(l:Je p M M1)(Z:t<p):Wb t f M1:=by obtain⟨n,e,o⟩:=h;exact⟨n,l _ _ Z e,o⟩
def Gs.aq2(h:Wb t f M)(l:Je p M M1)(U:t<p)(Z:M.length<=M1.length):Gs t f p M M1:=⟨l.has h U,λa o x _ e=>l a o x e,Z⟩
def Gs.refl(h:Wb t f M):Gs t f p M M:=⟨h,λ_ _ _ _ e=>e,bc _⟩
def Gs.st(g:Gs t f M.length M M1):St t f M M1:=⟨g.len,g.has,λa o n e=>g.low a o (rm e) n e⟩
def Gs.app(h:Wb t f M)(Z:p<=M.length)(X:cg):Gs t f p M (M++X):=⟨by obtain⟨n,e,o⟩:=h;exact⟨n,uf e,o⟩,λa o _ _ e=>uf e,by simp⟩
def aw4(U:ρ.length=y)(R:ρ[3]?=some (some (.vl (xg p K))))(h:RS p K rs M)(hK:K<=3) :
 (Ex.comp true 1 (.name y) (.val (.v 3)) (.blt .len (.o (.var y)))).den W ρ M=.ok (.vl (((List.range K).map λi=>(rs i).length).map nD)) M:=by
 subst U;rw[Av (d:=.vl (xg p K)) (ds:=xg p K) (M1:=M) (g:=λd=>match vz .len [d] M with|.ok x _=>x|_=>.non) (by simp[R]) rfl (by simp[xg];exact a_ hK (by decide)) (λd hd=>by
  refine hG λ_ _k=>?_
  obtain⟨i,Z,rfl⟩:=bh.mp hd;apply _k;refine⟨_,rfl,?_⟩;simp[len_list (qj (h i (jx.mp Z)))])]
 simp only[j5,xg,zp]
 congr 2
 apply yx;intro i Z;simp[len_list (qj (h i (jx.mp Z))),nD]
structure Rw(hs:List F)(K p:Nat)(ad:List (Nat×Nat))(M:cg):Prop where
 rs:RS p K (rowsOf hs ad) M
 kd:∀q∈ad,q.2<K
 le:∀e,e<K->(rowsOf hs ad e).length<=7
 nd:(ad.map (·.1)).Nodup
def aw5(hm:1<=m)(P:Lr sz K Z kvs)(hh:Wb t f M)(ht:t<p)(h:Rw Z K p ad M)(hn:∀q∈ad,q.1<n)(hr:rest.length=10) :
 ∃c5 c6 c7 R qq M',Cw.den (PW m) ([some (.ref t),some (wk K r Z),some (.int 5),some (.vl (xg p K)),some (.int n),b5,b6,b7,b8]++rest) M
  = .ok (.next,[some (.ref t),some (wk K r Z),some (.int 5),some (.vl (xg p K)),some (.int n),c5,c6,c7,R]++rest) M'/\Rw Z K p qq M'/\(∀q∈qq,q.1<n+1)/\Gs t f p M M'/\M'.length=M.length:=by
 refine hG λ_ _k=>?_
 have hl:=P.len;have h3:=P.k3;obtain⟨k,M1,e1,l1,s1,n1⟩:=Cq (many:=K) hm hh (by have:=P.k1;exact m_ this) (m_ (c_ h3 (by decide)));have hk:k<K:=o_ l1
 have r1:=h.rs.keep s1 ht;have c9:=aw2 (M:=M1) (r:=r) (K:=K) (hs:=Z) (ρ:=[some (.ref t),some (wk K r Z),some (.int 5),some (.vl (xg p K)),some (.int n),some (.int k),b6,b7,b8]++rest) (k:=k) hm hl rfl rfl (by simp[hr]);have R:=aw4 (W:=PW m) (M:=M1) (ρ:=[some (.ref t),some (wk K r Z),some (.int 5),some (.vl (xg p K)),some (.int n),some (.int k),some (.vl ((zf Z k).map λw=>.tup [.int (Dl Z k w),w])),b7,b8]++rest) (y:=19) (by simp[hr]) rfl r1 h3;obtain⟨v,e3,v1,v2⟩:=anu (M:=M1) (xs:=(List.range K).map λi=>(rowsOf Z ad i).length) (by have:=P.k1;intro z;have:=nq List.length z;simp at this;exact l_ (o_ l1) (a_ (f_ this) (jr _)));generalize hL:(D.vl (((List.range K).map λi=>(rowsOf Z ad i).length).map nD))=L at e3 R;have U:vz .len [.vl ((zf Z k).map λw=>D.tup [.int (Dl Z k w),w])] M1=.ok (.int (zf Z k).length) M1:=by simp[vz,Ru]
 apply _k
 by_cases q:v+(zf Z k).length<8
 .refine hG λ_ _k=>?_
  have q':(v:Int)+((zf Z k).length:Int)<8:=by lia
  obtain⟨d7,d8,M2,e4,r2,lo,n2⟩:=Zk (W:=PW m) (M:=M1) P (n:=n) hk r1 h.le (a0:=some (.ref t)) (a1:=some (wk K r Z)) (a2:=some (.int 5)) (b7':=b7) (b8':=b8) (rest:=rest) hr;apply _k;refine⟨some (.int k),some (.vl ((zf Z k).map λw=>D.tup [.int (Dl Z k w),w])),d7,d8,ad++[(n,k)],M2,?_,⟨λi hi=>?_,λq hq=>?_,λe he=>?_,?_⟩,λq hq=>?_,(Gs.aen s1).trans (Gs.aq2 s1.has lo ht (g_ n2)),n2.trans n1⟩
  .simp only[An,Bc] at c9 R e4 ⊢
   simp[Cw,Ri,e1,c9,Hn,R,e3,U,q',e4]
  .rw[r2 i hi,Xi];rfl
  .rcases bx.mp hq with z|z
   .exact h.kd q z
   .have:q=(n,k):=by simpa using z
    rw[this];exact hk
  .rw[Xi,ph,du]
   have a1:=v1 (rowsOf Z ad e).length (bh.mpr ⟨e,jx.mpr he,rfl⟩);have a2:(wT Z k e).length<=(zf Z k).length:=vq _ _
   simp only
   lia
  .rw[kj]
   refine m9.mpr ⟨h.nd,by simp,λa ha b hb=>?_⟩;refine hG λ_ _k=>?_
   obtain⟨q,hq,rfl⟩:=bh.mp ha;have:b=n:=by simpa using hb
   have:=hn q hq;apply _k
   lia
  .rcases bx.mp hq with z|z
   .have:=hn q z;exact A_ (e_ this)
   .have:q=(n,k):=by simpa using z
    rw[this];exact qd n
 .have q':¬(v:Int)+((zf Z k).length:Int)<8:=by lia
  refine⟨some (.int k),some (.vl ((zf Z k).map λw=>D.tup [.int (Dl Z k w),w])),b7,b8,ad,M1,?_,⟨r1,h.kd,h.le,h.nd⟩,λq hq=>by have:=hn q hq;exact A_ (e_ this),Gs.aen s1,n1⟩;simp only[An,Bc] at c9 R ⊢;simp[Cw,Ri,e1,c9,Hn,R,e3,U,q']
theorem aiv{M:cg}{x:D}:∀{U:List D},(∀y∈U,∃b,yq M y x=some b)->∃bs:List Bool,Ly M x U=some bs/\bs.length=U.length/\∀(i:Nat)(y:D),U[i]?=some y->(bs[i]?).map some=some (yq M y x)
 |[],_=>⟨[],rfl,rfl,λi y h=>by simp at h⟩
 |y::l,h=>by
  obtain⟨b,R⟩:=h y (by simp);obtain⟨bs,h1,h2,h3⟩:=aiv (λz Z=>h z (bf _ Z));refine⟨b::bs,by simp[Ly,R,h1],by simp[h2],λi z Z=>?_⟩;cases i with
  |zero=>simp at Z;subst Z;simp[R]|succ i=>simpa using h3 i z (by simpa using Z)
def a3z(h:∀y∈ds,∃b,yq M y x=some b)(hx:x∈ds)(he:yq M x x=some true):∃j y,abx M x ds=some j/\ds[j]?=some y/\yq M y x=some true:=by
 obtain⟨bs,h1,h2,R⟩:=aiv h;obtain⟨i,hi,ei⟩:=uc hx;have h4:=R i x (by simp[hi,ei]);rw[he] at h4;obtain⟨b,e1,e2⟩:=dg.mp h4;cases e2;rw[abx,h1,qe];cases q:bs.findIdx? id with
 |some j =>
  obtain⟨U,g2,_⟩:=uv.mp q;have g3:ds[j]?=some (ds[j]'(b_ U (f_ h2))):=dh (b_ U (f_ h2));have Z:=R j _ g3;rw[dh U] at Z;simp only[vd,Option.some.injEq] at Z;exact⟨j,_,rfl,g3,by rw[<- Z];simpa using g2⟩
 |none =>
  rw[yj] at q;have:=q true (au e1);simp at this
def aw6(U:M[p]?=some (.lst ds))(h:∀y∈ds,∃b,yq M y x=some b)(hx:x∈ds)(R:yq M x x=some true):∃(j:Nat)(y:D),Gg .index (.ref p) [x] M=.ok (.int j) M/\ds[j]?=some y/\yq M y x=some true:=by obtain⟨j,y,Z,h2,h3⟩:=a3z h hx R;exact⟨j,y,by simp[Gg,onL,onT,onK,V0 (qj U),Z],h2,h3⟩
def aw7(Z:M[p]?=some (.lst ds)):Jj .index (.ref p) M=true:=by simp[Jj,qj Z]
def aq3(M:cg)(n k U Z:Nat)(a R:Int):yq M (trD n k (.int a)) (trD U Z (.int R))=some (decide (n=U)&&(decide (k=Z)&&(decide (a=R)&&true))):=by show Ot (Jf M 5) [.int n,.int k,.int a] [.int U,.int Z,.int R]=_;rw[By (Kl M 4 n U) (By (Kl M 4 k Z) (By (U7 4 a R) (show Ot (Jf M 5) [] []=some true from rfl)))]
def Kw(h:d∈rowsOf U ad e):∃(n k:Nat)(x:Int),(n,k)∈ad/\.int x∈wT U k e/\d=trD n k (.int x):=by obtain⟨q,hq,R⟩:=List.mem_flatMap.mp h;obtain⟨w,Z,rfl⟩:=bh.mp R;obtain⟨x,rfl⟩:=a3y Z;exact⟨q.1,q.2,x,hq,Z,rfl⟩
def ala(h:(n,k)∈ad)(Z:w∈wT U k e):trD n k w∈rowsOf U ad e :=
 List.mem_flatMap.mpr ⟨(n,k),h,bh.mpr ⟨w,Z,rfl⟩⟩
structure Ae(hs:List F)(kvs:List (List Kx×D))(ad:List (Nat×Nat))(j:Nat)(g:F)(js:Y3):Prop where
 len:js.length=(rowsOf hs ad g.a).length
 go:∀(i n k:Nat)(x:Int),(rowsOf hs ad g.a)[i]?=some (trD n k (.int x))->(rowsOf hs ad g.b)[js.getD i 0]?=some (trD n k (.int (bv hs kvs j (.int x))))
def aq4(h:i<l.length):(l++[x]).getD i 0=l.getD i 0:=by rw[fc,dq h,fc]
def Ae.lt(h:Ae R kvs ad j g js):∀x∈js,x<(rowsOf R ad g.b).length:=λx hx=>by
 obtain⟨i,U,rfl⟩:=uc hx;have Z:i<(rowsOf R ad g.a).length:=by rw[<- h.len];exact U
 obtain⟨n,k,y,_,_,e⟩:=Kw (p8 Z);have:=h.go i n k y (by rw[dh Z,e]);rw[fc,dh U] at this;exact(ak.mp this).1
def a4a(hm:1<=m)(P:Lr sz K Z kvs)(hr:M[r]?=some (.dT kvs)){j:Nat}(h:Rw Z K p ad M)(hj:Z[j]?=some g)(qq:rest.length=6) :
 ∃js:List Nat,Hl.den (PW m) ([a0,some (wk K r Z),a2,some (.vl (xg p K)),a4,a5,a6,a7,a8,a9,some (.int j),some (.int g.a),some (.int g.b)]++rest) M=.ok (.vl (js.map nD)) M /\
  Ae Z kvs ad j g js:=by
 have hg:=au hj;have ha:=P.ace g hg;have hb:=P.afm g hg;have ga:=h.rs _ ha;have gb:=h.rs _ hb;unfold Hl;obtain⟨ys,M',e,hI⟩:=Fv (W:=PW m) (v:=true) (k:=3) (t:=.names [19,20,21]) (it:=.ix (.v 3) (.v 11)) (e:=.bm .index (.ix (.v 3) (.v 12)) (.o (.tup (.q (.v 19) (.v 20) (.call 20 (.q (.v 1) (.v 21) (.v 10)))))))
  (ρ:=[a0,some (wk K r Z),a2,some (.vl (xg p K)),a4,a5,a6,a7,a8,a9,some (.int j),some (.int g.a),some (.int g.b)]++rest) (M:=M) (M1:=M) (d:=.ref (p+g.a)) (ds:=rowsOf Z ad g.a) (by simp[aba ha]) (qj ga) (by have:=h.le _ ha;exact a_ this (by decide))
  (λi xs M'=>M'=M/\∃js:List Nat,xs=js.map nD/\js.length=i/\∀(R n k:Nat)(x:Int),R<i->(rowsOf Z ad g.a)[R]?=some (trD n k (.int x))->(rowsOf Z ad g.b)[js.getD R 0]?=some (trD n k (.int (bv Z kvs j (.int x))))) ⟨rfl,[],rfl,rfl,by simp⟩ (λi xs M' h=>by rw[h.1];exact qj ga)
  (λi y xs M' hy hI=>by
   obtain⟨rfl,js,rfl,q1,q2⟩:=hI;obtain⟨n,k,x,h1,h2,rfl⟩:=Kw (au hy);obtain⟨x',z,hx,hv,Vn⟩:=aw0 P hj h2;cases z;obtain⟨jj,yy,e1,e2,e3⟩:=aw6 (x:=trD n k (.int (bv Z kvs j (.int x)))) gb (λy hy=>by obtain⟨n',k',qv,_,_,rfl⟩:=Kw hy;exact⟨_,aq3 _ _ _ _ _ _ _⟩) (ala h1 Vn) (by rw[aq3];simp);refine⟨_,.int jj,M',rfl,?_,rfl,js++[jj],by simp[nD],by simp[q1],λR n' k' x' qk U=>?_⟩
   .have hl:rest.length=6:=qq
    match rest,hl with
    |[r0,r1,r2,r3,r4,r5],_ =>
     show(Ex.bm .index (.ix (.v 3) (.v 12)) (.o (.tup (.q (.v 19) (.v 20) (.call 20 (.q (.v 1) (.v 21) (.v 10))))))).den _ [a0,wk K r Z,a2,D.vl (xg p K),a4,a5,a6,a7,a8,a9,D.int j,D.int g.a,D.int g.b,r0,r1,r2,r3,r4,r5,D.int n,D.int k,D.int x] M'=_;simp[aba hb,aw7 gb,agj hm hr hx (show(-1:Int)<=j by lia) hv,ays,e1]
   .by_cases z:R<i
    .rw[aq4 (b_ z (g_ q1))];exact q2 R n' k' x' z U
    .have z:R=i:=u_ (z_ qk) (s_ z)
     subst z;rw[hy] at U;simp only[trD,Option.some.injEq,D.tup.injEq,List.cons.injEq,D.int.injEq,Int.ofNat_inj,and_true] at U;obtain⟨rfl,rfl,rfl⟩:=U;have ej:(js++[jj]).getD R 0=jj:=by rw[<- q1];simp[fc]
     rw[ej,e2];obtain⟨n3,k3,x3,_,_,rfl⟩:=Kw (au e2);rw[aq3] at e3;simp only[Option.some.injEq,aq,di,and_true] at e3;obtain⟨rfl,rfl,rfl⟩:=e3;rfl)
 obtain⟨rfl,js,rfl,q1,q2⟩:=hI;exact⟨js,by rw[e];rfl,q1,λi n k x h=>q2 i n k x (ak.mp h).1 h⟩
noncomputable def up(Z:Nat->List Nat)(i:Nat)(U:Y3):Nat->List Nat:=λe=>if e=i then U else Z e
noncomputable def Hs(U Z:Nat)(l:Y3):List Nat:=l.map λo=>if o=Z then U else o
theorem aiw{U Z:Nat}(h:U<Z):∀l:List Nat,(Hs U Z l).sum<=l.sum
 |[]=>bc _
 |a::l=>by
  have:=aiw h l;simp only[Hs,gh,List.sum_cons] at this ⊢;split<;>omega
theorem aix{U Z:Nat}(h:U<Z):∀{l:Y3},Z∈l->(Hs U Z l).sum<l.sum
 |a::l,hm=>by
  have R:=aiw h l;simp only[Hs,gh,List.sum_cons] at R ⊢
  by_cases z:a=Z
  .rw[cj z];exact b_ (G_ h) (a_ (v_ (g_ z)) (w_ R))
  .have:=aix h (show Z∈l from by simpa[ji z] using hm)
   simp only[Hs] at this;rw[bw z];exact H_ this
noncomputable def X8(K:Nat)(Z:Nat->List Nat):Nat:=((List.range K).map λi=>(Z i).sum).sum
theorem aq5{Z:Nat->List Nat}{b:Nat}{ns:Y3}(h:ns.sum<(Z b).sum):∀K,X8 K (up Z b ns)<=X8 K Z/\(b<K->X8 K (up Z b ns)<X8 K Z)
 |0=>⟨bc _,λz=>absurd z (u9 _)⟩
 |K+1=>by
  obtain⟨U,R⟩:=aq5 h K;simp only[X8,qy,kj,List.sum_append,gh,List.map_nil,List.sum_cons,List.sum_nil] at U R ⊢
  by_cases z:K=b
  .subst z
   have e:up Z K ns K=ns:=by simp[up]
   rw[e];constructor
   .exact e_ (c_ (v_ U) (H_ (G_ h)))
   .intro _;exact c_ (v_ U) (H_ (G_ h))
  .have e:up Z b ns K=Z K:=by simp[up,z]
   rw[e];constructor
   .exact v_ U
   .intro q;have:=R (by lia);exact G_ this
structure Mk(t pm K:Nat)(L:Nat->Nat)(ms:Nat->List Nat)(M:cg):Prop where
 ex:∃mds:List D,M[pm]?=some (.lst mds)/\mds.length=K/\∀i,i<K->∃d,mds[i]?=some d/\dm M d=some ((ms i).map nD)/\∀a,d=.ref a->t<a/\a<pm
 len:∀i,i<K->(ms i).length=L i
 lt:∀i,i<K->∀x∈ms i,x<L i
 fx:∀i,i<K->∀x∈ms i,(ms i).getD x 0=x
def Xj(h:dm M d=some ds)(k:∀a o,d=.ref a->M[a]?=some o->Z[a]?=some o):dm Z d=some ds:=by
 cases d with
 |ref a =>
  simp only[dm] at h ⊢;cases e:M[a]? with
  |none=>rw[e] at h;cases h|some o=>rw[e] at h;rw[k a o rfl e];exact h
 |vl U=>exact h|_=>cases h
def Mk.frame(h:Mk t R K L ms M)(k:∀(a:Nat) (o:MO),t<a->a<=R->M[a]?=some o->M'[a]?=some o)(ht:t<R):Mk t R K L ms M':=by obtain⟨Z,h1,h2,h3⟩:=h.ex;refine⟨⟨Z,k _ _ ht (bc _) h1,h2,λi hi=>?_⟩,h.len,h.lt,h.fx⟩;obtain⟨d,g1,g2,U⟩:=h3 i hi;exact⟨d,g1,Xj g2 λa o e q=>k a o (U a e).1 (t7 (U a e).2) q,U⟩
def Mk.row(h:Mk t pm K L ms M)(R:i<K):∃d,Aa (.ref pm) (.int i) M=some d/\dm M d=some ((ms i).map nD):=by obtain⟨Z,U,h2,h3⟩:=h.ex;obtain⟨d,g1,g2,_⟩:=h3 i R;exact⟨d,Cm (qj U) q_ (by simpa using g1),g2⟩
def Qi{l:Y3}(h:dm M d=some (l.map nD))(Z:x<l.length):Aa d (.int x) M=some (.int (l.getD x 0)) :=
 Cm h q_ (by simp[Z,nD])
def getD_mem'{l:Y3}(Z:x<l.length):l.getD x 0∈l:=by rw[fc,dh Z];exact p8 Z
set_option tactic.hygienic true in
theorem Mk.set(h:Mk t J K L C M)(hi:i<K)(u:ns.length=L i)(h2:∀x∈ns,x<L i)(h4:∀x∈ns,ns.getD x 0=x)(ht:t<J) :
 ∃o,setOp (.ref J) (.int i) (.vl (ns.map nD)) M=some (M.set J o)/\Mk t J K L (up C i ns) (M.set J o):=by
 obtain⟨G,S,U,g3⟩:=h.ex;refine⟨.lst (G.set i (.vl (ns.map nD))),?_,⟨G.set i (.vl (ns.map nD)),p7 S,by simp[U],λe Y=>?_⟩,λe Y=>?_,λe Y x Z=>?_,λe Y x Z=>?_⟩
 .have:=Zx (d:=.vl (ns.map nD)) (i:=i) S q_ (m_ (b_ hi (g_ U)))
  simpa using this
 .by_cases z:e=i
  .subst z
   exact⟨.vl (ns.map nD),by simp[U,Y],by simp[up],λa q=>by cases q⟩
  .obtain⟨d,y,k2,R⟩:=g3 e Y
   refine⟨d,by rw[ux (ji z)];exact y,?_,R⟩;have:up C i ns e=C e:=by simp[up,z]
   rw[this];exact Xj k2 λa o q w=>by rw[jm (by have:=(R a q).2;exact i_ this)];exact w
 .unfold up;split
  .rename_i z;rw[z];exact u
  .exact h.len e Y
 .unfold up at Z;split at Z
  .rename_i z;rw[z];exact h2 x Z
  .exact h.lt e Y x Z
 .unfold up at Z ⊢;split at Z
  .rename_i z;rw[cj z];exact h4 x Z
  .rename_i z;rw[bw z];exact h.fx e Y x Z
def getD_map{α:Type}{l:Y3}{f:Nat->Nat}{x:Nat}(h:x<l.length):(l.map f).getD x 0=f (l.getD x 0):=by simp[fc,iw,dh h]
set_option tactic.hygienic true in
def aiy(C:∀x∈l,l.getD x 0=x)(lt:∀x∈l,x<l.length)(Z:lo∈l):∀x∈Hs lo G l,(Hs lo G l).getD x 0=x:=λx U=>by
 obtain⟨o,J,e⟩:=bh.mp U;have Y:x∈l:=by
  split at e
  .rw[<- e];exact Z
  .rw[<- e];exact J
 unfold Hs;rw[getD_map (α:=Nat) (lt x Y),C x Y]
 by_cases z:x=G
 .rw[cj z]
  split at e
  .exact e
  .rename_i w;exact absurd (e.trans z) w
 .rw[bw z]
structure Ac(q:Nat)(hs:List F)(L:Nat->Nat)(as:List (List Nat))(M:cg):Prop where
 at_:M[q]?=some (.lst (as.map λjs=>.vl (js.map nD)))
 len:as.length=hs.length
 ok:∀(j:Nat)(g:F)(js:Y3),hs[j]?=some g->as[j]?=some js->js.length=L g.a/\∀x∈js,x<L g.b
def Ac.get(h:Ac q hs L as M){j:Nat}(R:hs[j]?=some g):∃Z,as[j]?=some Z/\Aa (.ref q) (.int j) M=some (.vl (Z.map nD))/\Z.length=L g.a/\∀x∈Z,x<L g.b:=by
 have hl:=(ak.mp R).1;have U:j<as.length:=by rw[h.len];exact hl
 have e:as[j]?=some as[j]:=dh U;exact⟨_,e,Cm (qj h.at_) q_ (by simp[e]),h.ok j g _ R e⟩
def a4b(h:M[n]?=some (.dK Z)):Gg .get (.ref n) [.int k,d] M=.ok ((wg Z (.inl k)).getD d) M:=by simp[Gg,onL,onT,onK,h]
def bay(h:M[n]?=some (.dK Z)):Jj .get (.ref n) M=true:=by simp[Jj,dm,h]
def a4c(h:M[n]?=some (.dK Z))(U:Z.length<100000):setOp (.ref n) (.int k) d M=some (M.set n (.dK (Dw Z (.inl k) d))):=by simp[setOp,h,U]
def aq7[DecidableEq U]{Z:List (U×D)}(h:wg Z k=some v):∃p∈Z,p.2=v:=by unfold wg at h;obtain⟨p,R,h2⟩:=dg.mp h;exact⟨p,List.mem_of_find?_eq_some R,h2⟩
def aw8[DecidableEq R]{U:List (R×D)}(h:p∈Dw U k v):p∈U\/p.2=v:=by
 unfold Dw at h;split at h
 .obtain⟨q,h1,Z⟩:=bh.mp h
  split at Z
  .rw[<- Z];exact .inr rfl
  .rw[<- Z];exact .inl h1
 .rcases bx.mp h with z|z
  .exact .inl z
  .have:p=(k,v):=by simpa using z
   rw[this];exact .inr rfl
def Tq[DecidableEq Z](p:Z×D)(r:List (Z×D))(k:Z):wg (p::r) k=if p.1=k then some p.2 else wg r k:=by
 unfold wg
 by_cases h:p.1=k
 .simp[qx,h]
 .simp[qx,h]
def aw9[DecidableEq U](Z:List (U×D))(k:U)(v:D):(Dw Z k v).length<=Z.length+1:=by unfold Dw;split<;>simp
def abd(M:cg)(a b:Nat):yq M (.int a) (.int b)=some (decide (a=b)):=Bk M a b
noncomputable def Fm(Z n:Nat)(M U:cg):Prop:=∀(a:Nat)(o:MO),a≠Z->a<n->M[a]?=some o->U[a]?=some o
def aiz(M:cg)(a b:Nat):vz .min [.int a,.int b] M=.ok (.int (min a b:Nat)) M:=by
 show Res.ok (D.int (if(b:Int)<(a:Int) then(b:Int) else(a:Int))) M=_
 by_cases h:b<a
 .rw[cj (m_ h),Nat.min_eq_right (e_ h)]
 .rw[bw (by lia),Nat.min_eq_left (s_ h)]
def abe(M:cg)(a b:Nat):vz .max [.int a,.int b] M=.ok (.int (max a b:Nat)) M:=by
 show Res.ok (D.int (if(a:Int)<(b:Int) then(b:Int) else(a:Int))) M=_
 by_cases h:a<b
 .rw[cj (m_ h),Nat.max_eq_right (e_ h)]
 .rw[bw (by lia),Nat.max_eq_left (s_ h)]
def aeo(hx:(Ex.ix (.var v) (.var x)).den W ρ M=.ok d M)(hd:dm M d=some (l.map nD))(hl:l.length<=100000)(hy:y=ρ.length)(Z:ρ[a]?=some (some (.int lo)))(h2:ρ[b]?=some (some (.int hi))) :
 (Ex.comp true 1 (.name y) (.val (.ix (.var v) (.var x))) (.ite (.cmp .eq (.var y) (.var b)) (.var a) (.var y))).den W ρ M=.ok (.vl ((Hs lo hi l).map nD)) M:=by
 subst hy;have ha:=(ak.mp Z).1;have hb:=(ak.mp h2).1;rw[Av (d:=d) (ds:=l.map nD) (M1:=M) (g:=λd=>match d with|.int o=>nD (if o.toNat=hi then lo else o.toNat)|_=>.non) hx hd (by simpa using hl) (λz hz=>by
  obtain⟨o,ho,rfl⟩:=bh.mp hz;refine⟨_,rfl,?_⟩;have e1:(ρ++List.replicate 1 none).set ρ.length (some (nD o))=ρ++[some (.int o)]:=by rw[List.set_append];simp[nD]
  have g1:(ρ++[some (D.int o)])[a]?=some (some (.int lo)):=by rw[dq ha];exact Z
  have U:(ρ++[some (D.int o)])[b]?=some (some (.int hi)):=by rw[dq hb];exact h2
  have R:(ρ++[some (D.int o)])[ρ.length]?=some (some (.int o)):=by simp
  rw[e1]
  by_cases z:o=hi
  .subst z;simp[-eq_int,g1,U,R,abd,nD]
  .simp[-eq_int,g1,U,R,abd,z,nD])]
 simp[Hs,nD]
def axa(hx:(Ex.ix (.v 1) (.var x)).den W ρ M=.ok d M)(hd:dm M d=some (l.map nD))(Z:l.length<=100000)(R:y=ρ.length)(qq:12<y)(U:ρ[11]?=some (some (.int lo)))(h2:ρ[12]?=some (some (.int hi))) :
 (Ex.comp true 1 (.name y) (.val (.ix (.v 1) (.var x))) (.ite (.cmp .eq (.var y) (.v 12)) (.v 11) (.var y))).den W ρ M=.ok (.vl ((Hs lo hi l).map nD)) M:=aeo hx hd Z R U h2
structure Fd(dd:Nat)(b:Y3)(n:Nat)(M:cg):Prop where
 ex:∃kv:List (Kx×D),M[dd]?=some (.dK kv)/\kv.length<=n/\(∀p∈kv,∃e:Nat,p.2=.int e/\e∈b)
def aq8{j:Nat}(mk:Mk t U K L ms M)(ac:Ac q hs L as M)(hj:hs[j]?=some g)(ga:g.a<K)(gb:g.b<K)(hd:M[dd]?=some (.dK []))(z1:U<dd)(z0:q<dd)(z3:q≠U)(ht:t<U)(hL:∀e,e<K->L e<=7) :
 ∃qq Z,La.den W [wk K r hs,D.ref U,D.ref q,b3,D.int j,D.int g.a,D.int g.b,D.ref dd,b8,b9,b10,O8,Tt] M=.ok (.next,qq) Z /\
  ∃c3 c7 c8 c9 R qv qk,qq=[some (wk K r hs),some (.ref U),some (.ref q),c3,some (.int j),some (.int g.a),some (.int g.b),c7,c8,c9,R,qv,qk]/\Fm U dd M Z/\M.length<=Z.length /\
   ((c3=b3/\Mk t U K L ms Z)\/(c3=some (.bl true)/\∃Ov,Mk t U K L Ov Z/\X8 K Ov<X8 K ms)):=by
 refine hG λ_ _k=>?_
 obtain⟨js,ej,_,lj,rj⟩:=ac.get hj;obtain⟨da,fa,la⟩:=mk.row ga;have q6:=mk.len _ ga;have zk:=hL _ ga;apply _k;refine ab6 (W:=W) (t:=.name 8) (b:=Cd) (it:=.blt .len (.o (.ix (.v 1) (.v 5)))) (n:=L g.a) (M1:=M) ?_ (a_ zk (by decide))
  (λi ρ Z=>(∃b8 b9 b10,ρ=[some (wk K r hs),some (.ref U),some (.ref q),b3,some (.int j),some (.int g.a),some (.int g.b),some (.ref dd),b8,b9,b10,O8,Tt])/\Mk t U K L ms Z/\Fd dd (ms g.b) i Z/\Je dd M Z/\Z.length=M.length)
  (λqq Z=>∃c3 c7 c8 c9 R qv qk,qq=[some (wk K r hs),some (.ref U),some (.ref q),c3,some (.int j),some (.int g.a),some (.int g.b),c7,c8,c9,R,qv,qk]/\Fm U dd M Z/\M.length<=Z.length /\
   ((c3=b3/\Mk t U K L ms Z)\/(c3=some (.bl true)/\∃Ov,Mk t U K L Ov Z/\X8 K Ov<X8 K ms)))
  ⟨⟨b8,b9,b10,rfl⟩,mk,⟨[],hd,bc _,by simp⟩,Je.refl _ _,rfl⟩ (fun ρ Z h=>?_) (λi ρ M1 hi hI=>?_)
 .have e:=len_list la
  simp only[du,q6] at e;simp[fa,e]
 .refine hG λ_ _k=>?_
  obtain⟨⟨c8,c9,R,rfl⟩,h1,_,h3,h4⟩:=h;apply _k;exact⟨b3,_,c8,c9,R,O8,Tt,rfl,λa o _ x e=>h3 a o x e,g_ h4,.inl ⟨rfl,h1⟩⟩
 .refine hG λ_ _k=>?_
  obtain⟨⟨c8,c9,R,rfl⟩,h1,⟨kv,k1,k2,k3⟩,h3,h4⟩:=hI;obtain⟨da,fa,la⟩:=h1.row ga;obtain⟨db,fb,lb⟩:=h1.row gb;have zv:Ac q hs L as M1:=⟨h3 _ _ z0 ac.at_,ac.len,ac.ok⟩;obtain⟨z2,q5,fj,_,_⟩:=zv.get hj;rw[ej] at q5;cases q5;have q1:=Qi la (show i<(ms g.a).length by rw[q6];exact hi);have q3:Aa (.vl (js.map nD)) (.int i) M1=some (.int (js.getD i 0)):=Qi rfl (b_ hi (g_ lj));apply _k;have hy:js.getD i 0<(ms g.b).length:=by rw[h1.len _ gb];exact rj _ (getD_mem' (b_ hi (g_ lj)))
  generalize hy0:js.getD i 0=y at q3 hy;have q2:=Qi lb hy;have hz:=getD_mem' hy;generalize hx0:(ms g.a).getD i 0=x at q1;generalize hz0:(ms g.b).getD y 0=z at q2 hz;have gt:=a4b (k:=(x:Int)) (d:=.int z) k1;have ty:=bay k1;have q0:((wg kv (.inl (x:Int))).getD (.int z)=.int z)->∃q7 fl qq Z,(Tg.name 8).put (.int i) [some (wk K r hs),some (.ref U),some (.ref q),b3,some (.int j),some (.int g.a),some (.int g.b),some (.ref dd),c8,c9,R,O8,Tt]=some q7/\Cd.den W q7 M1=.ok (fl,qq) Z /\
   (((fl=.next\/fl=.cont)/\(∃b8 b9 b10,qq=[some (wk K r hs),some (.ref U),some (.ref q),b3,some (.int j),some (.int g.a),some (.int g.b),some (.ref dd),b8,b9,b10,O8,Tt])/\Mk t U K L ms Z/\Fd dd (ms g.b) (i+1) Z/\Je dd M Z/\Z.length=M.length) \/
     (fl=.brk/\∃c3 c7 c8 c9 R qv qk,qq=[some (wk K r hs),some (.ref U),some (.ref q),c3,some (.int j),some (.int g.a),some (.int g.b),c7,c8,c9,R,qv,qk]/\Fm U dd M Z/\M.length<=Z.length /\
      ((c3=b3/\Mk t U K L ms Z)\/(c3=some (.bl true)/\∃Ov,Mk t U K L Ov Z/\X8 K Ov<X8 K ms)))):=λhg=>by
   rw[hg] at gt;have st:=a4c (k:=(x:Int)) (d:=.int z) k1 (by have:=hL _ ga;exact c_ k2 (b_ hi (a_ zk (by decide))));refine⟨_,.next,_,M1.set dd (.dK (Dw kv (.inl (x:Int)) (.int z))),rfl,?_,.inl ⟨.inl rfl,⟨some (.int i),some (.int x),some (.int z),rfl⟩,h1.frame (λa o _ ha e=>by rw[jm (i_ (c_ ha z1))];exact e) ht,⟨_,p7 k1,?_,?_⟩,h3.trans (Je.set (bc _)),by simp[h4]⟩⟩
   .simp[-eq_int,Cd,fa,q1,fb,fj,q3,q2,ty,gt,abd,st]
   .have:=aw9 kv (.inl (x:Int)) (.int z);exact a_ this (v_ k2)
   .intro p hp
    rcases aw8 hp with w|w
    .exact k3 p w
    .exact⟨z,w,hz⟩
  cases hlk:wg kv (.inl (x:Int)) with
  |none=>exact q0 (by rw[hlk];rfl)
  |some v =>
   refine hG λ_ _k=>?_
   obtain⟨p,hp,rfl⟩:=aq7 hlk;obtain⟨e,he,q8⟩:=k3 p hp;rw[he] at hlk;apply _k
   by_cases zz:e=z
   .exact q0 (by rw[hlk,zz];rfl)
   .rw[hlk] at gt
    have ix:=a7f (b:=.int x) k1 rfl;rw[show(Sum.inl (x:Int):Kx)=.inl (x:Int) from rfl,hlk] at ix;have lh:min e z<max e z:=by lia
    have hm:max e z∈ms g.b:=by
     rcases Nat.le_total e z with w|w
     .rw[Nat.max_eq_right w];exact hz
     .rw[Nat.max_eq_left w];exact q8
    have q4:min e z∈ms g.b:=by
     rcases Nat.le_total e z with w|w
     .rw[Nat.min_eq_left w];exact q8
     .rw[Nat.min_eq_right w];exact hz
    have rp:=axa (W:=W) (M:=M1) (ρ:=[wk K r hs,D.ref U,D.ref q,b3,D.int j,D.int g.a,D.int g.b,D.ref dd,D.int i,D.int x,D.int z,D.int (min e z:Nat),D.int (max e z:Nat)]) (x:=6) (y:=13) (lo:=min e z) (hi:=max e z) (by simp[fb]) lb (by rw[h1.len _ gb];have:=hL _ gb;exact a_ this (by decide)) rfl (by decide) rfl rfl;obtain⟨o,so,zw⟩:=h1.set gb (ns:=Hs (min e z) (max e z) (ms g.b)) (by simp[Hs,h1.len _ gb]) (λy hy=>by
     refine hG λ_ _k=>?_
     obtain⟨w,hw,rfl⟩:=bh.mp hy;apply _k;split
     .exact h1.lt _ gb _ q4
     .exact h1.lt _ gb _ hw) (aiy (h1.fx _ gb) (λx hx=>by rw[h1.len _ gb];exact h1.lt _ gb x hx) q4) ht
    have ne:¬((e:Nat)=z):=zz;refine⟨_,.brk,_,M1.set U o++[.dK []],rfl,?_,.inr ⟨rfl,some (.bl true),some (.ref (M1.set U o).length),some (.int i),some (.int x),some (.int z),some (.int (min e z:Nat)),some (.int (max e z:Nat)),rfl,λa u na ha q=>?_,by simp;exact a_ (g_ h4) x_,.inr ⟨rfl,_,zw.frame (λa u _ _ q=>uf q) ht,(aq5 (aix lh hm) K).2 gb⟩⟩⟩
    .simp only[Option.getD_some] at gt
     simp[-eq_int,Cd,fa,q1,fb,fj,q3,q2,ty,gt,abd,ne,ix,aiz,abe,K9,rp,so,MW.new]
    .refine uf ?_
     rw[jm (ji na)];exact h3 a u ha q
def Fm.trans(a:Fm Z n M U)(b:Fm Z n U M2):Fm Z n M M2:=λx o h l e=>b x o h l (a x o h l e)
def Fm.le(a:Fm Z n M M1)(h:U<=n):Fm Z U M M1:=λx o q l e=>a x o q (b_ l h) e
theorem agk:∀{l:Y3}{c:Nat},(∀x∈l,x<=c)->l.sum<=l.length*c
 |[],_,_=>by simp
 |a::l,c,h=>by
  have U:=h a (by simp);have R:=agk (λx Z=>h x (bf _ Z));simp only[List.sum_cons,gr,Nat.succ_mul]
  lia
def a4e(mk:Mk t pm K L U M)(hL:∀e,e<K->L e<=7)(hK:K<=3):X8 K U<=200:=by
 have:∀x∈(List.range K).map λi=>(U i).sum,x<=49:=λx R=>by
  obtain⟨i,Z,rfl⟩:=bh.mp R;have Z:=jx.mp Z;have h1:=agk (l:=U i) (c:=7) (λx R=>by have:=mk.lt i Z x R;have:=hL i Z;lia);have h2:=mk.len i Z;have h3:=hL i Z;have h4:(U i).length*7<=7*7:=Nat.mul_le_mul_right 7 (a_ (f_ h2) h3)
  lia
 have h:=agk this;simp only[du,List.length_range] at h;have h5:K*49<=3*49:=Nat.mul_le_mul_right 49 hK
 unfold X8
 lia
def ara(P:Lr sz K Z kvs)(mk:Mk t U K L ms M)(ac:Ac q Z L as M)(q7:U<M.length)(q2:q<M.length)(q1:q≠U)(ht:t<U)(hL:∀e,e<K->L e<=7) :
 ∃qv M',Lb.den W [wk K r Z,D.ref U,D.ref q,b3,b4,b5,b6,b7,b8,b9,b10,O8,Tt] M=.ok (.next,qv) M' /\
  ∃c3 c4 c5 c6 c7 c8 c9 R qq qk Ov,qv=[some (wk K r Z),some (.ref U),some (.ref q),c3,c4,c5,c6,c7,c8,c9,R,qq,qk]/\Fm U M.length M M'/\M.length<=M'.length/\Mk t U K L Ov M'/\((c3=b3/\Ov=ms)\/(c3=some (.bl true)/\X8 K Ov<X8 K ms)):=by
 have hl:=P.len;refine yo (W:=W) (t:=.name 4) (b:=Di) (it:=.blt .len (.o (.ix (.v 0) (.i 1)))) (n:=Z.length) (M1:=M) (by simp[Jz,Qc]) (a_ hl (by decide))
  (λn qv M'=>∃c3 c4 c5 c6 c7 c8 c9 R qq qk Ov,qv=[some (wk K r Z),some (.ref U),some (.ref q),c3,c4,c5,c6,c7,c8,c9,R,qq,qk]/\Fm U M.length M M'/\M.length<=M'.length/\Mk t U K L Ov M'/\((c3=b3/\Ov=ms)\/(c3=some (.bl true)/\X8 K Ov<X8 K ms)))
  ⟨b3,b4,b5,b6,b7,b8,b9,b10,O8,Tt,ms,rfl,λ_ _ _ _ e=>e,bc _,mk,.inl ⟨rfl,rfl⟩⟩ (λj ρ M1 hj hI=>?_)
 obtain⟨c3,c4,c5,c6,c7,c8,c9,R,qq,qk,m1,rfl,f1,l1,k1,o1⟩:=hI;have q0:Z[j]?=some Z[j]:=by simp[hj]
 have hg:=au q0;have k2:Mk t U K L m1 (M1++[.dK []]):=k1.frame (λa o _ _ e=>uf e) ht;have q5:Ac q Z L as (M1++[.dK []]):=⟨uf (f1 _ _ q1 q2 ac.at_),ac.len,ac.ok⟩;obtain⟨q8,M2,e2,d3,d7,d8,d9,q6,q4,q3,rfl,f2,l2,o2⟩:=aq8 (W:=W) (r:=r) (dd:=M1.length) (b3:=c3) (b8:=c8) (b9:=c9) (b10:=R) (O8:=qq) (Tt:=qk) k2 q5 q0 (P.ace _ hg) (P.afm _ hg) (by simp) (b_ q7 l1) (b_ q2 l1) q1 ht hL;have f3:Fm U M.length M M2:=λa o na ha e=>f2 a o na (b_ ha l1) (uf (f1 a o na ha e))
 have l3:M.length<=M2.length:=by simp at l2;lia
 have pe:∀ρ,(Tg.names [5,6]).put (eD Z[j]) ρ=some ((ρ.set 5 (some (.int Z[j].a))).set 6 (some (.int Z[j].b))):=λ_=>rfl
 have run:Di.den W [wk K r Z,D.ref U,D.ref q,c3,D.int j,c5,c6,c7,c8,c9,R,qq,qk] M1=.ok (.next,[some (wk K r Z),some (.ref U),some (.ref q),d3,some (.int j),some (.int Z[j].a),some (.int Z[j].b),d7,d8,d9,q6,q4,q3]) M2:=by simp[Di,Jz,Qz q0,pe,MW.new,e2]
 refine⟨_,.next,_,M2,rfl,run,.inl rfl,?_⟩;rcases o2 with⟨rfl,k3⟩|⟨rfl,m2,k3,t3⟩
 .rcases o1 with⟨rfl,rfl⟩|⟨rfl,t1⟩
  .exact⟨_,_,_,_,_,_,_,_,_,_,m1,rfl,f3,l3,k3,.inl ⟨rfl,rfl⟩⟩
  .exact⟨_,_,_,_,_,_,_,_,_,_,m1,rfl,f3,l3,k3,.inr ⟨rfl,t1⟩⟩
 .refine⟨_,_,_,_,_,_,_,_,_,_,m2,rfl,f3,l3,k3,.inr ⟨rfl,?_⟩⟩
  rcases o1 with⟨_,rfl⟩|⟨_,t1⟩<;>omega
def alb(hm:1<=m)(P:Lr sz K hs kvs)(mk:Mk t Z K L ms M)(ac:Ac q hs L as M)(q3:Z<M.length)(q1:q<M.length)(q0:q≠Z)(ht:t<Z)(hL:∀e,e<K->L e<=7) :
 ∃Ov U,prog.call m 28 [wk K r hs,.ref Z,.ref q] M=.ok (.ref Z) U/\Mk t Z K L Ov U/\Fm Z M.length M U/\M.length<=U.length:=by
 rw[call_of hm rfl];obtain⟨R,U,e,Ov,k1,f1,l1,c,q2⟩:∃R U,Gu.den (PW (m-1)) [some (wk K r hs),some (.ref Z),some (.ref q),some (.bl true),none,none,none,none,none,none,none,none,none] M=.ok (.next,R) U /\
  ∃Ov,Mk t Z K L Ov U/\Fm Z M.length M U/\M.length<=U.length/\∃c:Env,R=[some (wk K r hs),some (.ref Z)]++c:=by
  unfold Gu;rw[Zw];refine G8 (λm ρ U=>∃(Ov:Nat->List Nat)(b:Bool)(c:Env),ρ=[some (wk K r hs),some (.ref Z),some (.ref q),some (.bl b)]++c/\c.length=9/\Mk t Z K L Ov U/\Fm Z M.length M U/\M.length<=U.length/\m=(if b then X8 K Ov+1 else 0))
   (λR U=>∃Ov,Mk t Z K L Ov U/\Fm Z M.length M U/\M.length<=U.length/\∃c:Env,R=[some (wk K r hs),some (.ref Z)]++c) (λn ρ M1 hI=>?_) Vy (X8 K ms+1) _ M (by have:=a4e mk hL P.k3;show X8 K ms+1<1000000;lia)
   ⟨ms,true,[none,none,none,none,none,none,none,none,none],rfl,rfl,mk,λ_ _ _ _ e=>e,bc _,rfl⟩
  obtain⟨m1,b,c,rfl,hc,k1,f1,l1,rfl⟩:=hI
  match c,hc with
  |[c4,c5,c6,c7,c8,c9,c10,c11,c12],_ =>
  cases b with
  |false=>exact .inl ⟨M1,rfl,m1,k1,f1,l1,_,rfl⟩
  |true =>
   right
   obtain⟨q4,M2,e2,d3,d4,d5,d6,d7,d8,d9,qv,qk,qq,m2,rfl,f2,l2,k2,o2⟩:=ara (W:=PW (m-1)) (r:=r) (as:=as) P k1 (⟨f1 _ _ q0 q1 ac.at_,ac.len,ac.ok⟩:Ac q hs L as M1) (b_ q3 l1) (b_ q1 l1) q0 ht hL (b3:=some (.bl false)) (b4:=c4) (b5:=c5) (b6:=c6) (b7:=c7) (b8:=c8) (b9:=c9) (b10:=c10) (O8:=c11) (Tt:=c12);have f3:Fm Z M.length M M2:=f1.trans (f2.le l1);have run:Gr.den (PW (m-1)) [some (wk K r hs),some (.ref Z),some (.ref q),some (.bl true),c4,c5,c6,c7,c8,c9,c10,c11,c12] M1=.ok (.next,[some (wk K r hs),some (.ref Z),some (.ref q),d3,d4,d5,d6,d7,d8,d9,qv,qk,qq]) M2:=by simp[Gr,e2]
   rcases o2 with⟨rfl,rfl⟩|⟨rfl,t3⟩
   .exact⟨M1,.next,_,M2,0,rfl,run,.inl rfl,by simp,m2,false,[d4,d5,d6,d7,d8,d9,qv,qk,qq],rfl,rfl,k2,f3,a_ l1 l2,rfl⟩
   .exact⟨M1,.next,_,M2,X8 K m2+1,rfl,run,.inl rfl,by simp;exact t3,m2,true,[d4,d5,d6,d7,d8,d9,qv,qk,qq],rfl,rfl,k2,f3,a_ l1 l2,rfl⟩
 subst q2;refine⟨Ov,U,?_,k1,f1,l1⟩;simp only[An,Bc] at e;simp[Fn.run,O5,O4,e]
theorem abh:∀l:List Nat,Vx (l.map nD)=some (l.map λ(x:Nat)=>(x:Int))
 |[]=>rfl|a::l=>by show(Vx (l.map nD)).map _=_;rw[abh l];rfl
noncomputable def fil(b:Nat)(f:Nat->Bool):List Nat:=(List.range b).filter f
def axe(b:Nat)(f:Nat->Bool):(fil b f).length<=b:=by have:=vq f (List.range b);rw[List.length_range] at this;exact this
def Om:x∈fil b f↔x<b/\f x=true:=by rw[fil,qm,jx]
def Xk(b:Nat)(f:Nat->Bool):(fil b f).Pairwise (· < ·):=List.pairwise_lt_range.filter f
def srt{is:Xs}{f:Nat->Bool}(h:∀y,y∈is↔∃z:Nat,z<b/\f z=true/\y=z):sortI (Ak is)=(fil b f).map λ(x:Nat)=>(x:Int) :=
 (aha (ud.mpr ((Xk b f).imp λh=>by lia)) (Aj.mpr (ud.mpr ((Xk b f).imp λh=>by lia))) λy=>by
  rw[h,bh];constructor
  .rintro⟨z,U,R,rfl⟩;exact⟨z,Om.mpr ⟨U,R⟩,rfl⟩
  .rintro⟨z,Z,rfl⟩;exact⟨z,(Om.mp Z).1,(Om.mp Z).2,rfl⟩).symm
def ai0(l:Y3):(l.map λ(x:Nat)=>(x:Int)).map D.int=l.map nD:=by rw[zp];rfl
def mem_cast{l:Y3}{y:Int}:y∈l.map (λ(x:Nat)=>(x:Int))↔∃z:Nat,z∈l/\y=z:=by rw[bh];constructor<;>rintro⟨z,h,e⟩<;>exact⟨z,h,e.symm⟩
def axf{M:cg}{l:Y3}(h:dm M d=some (l.map nD))(hb:b<=7\/l.length<31)(U:∀z,z∈l↔z<b/\f z=true):vz .Dr [d] M=.ok (.vl ((fil b f).map nD)) M/\(fil b f).length<=l.length:=by
 have e:=srt (is:=l.map λ(x:Nat)=>(x:Int)) (b:=b) (f:=f) λy=>by
  rw[mem_cast];constructor
  .rintro⟨z,Z,rfl⟩;exact⟨z,((U z).mp Z).1,((U z).mp Z).2,rfl⟩
  .rintro⟨z,Z,R,rfl⟩;exact⟨z,(U z).mpr ⟨Z,R⟩,rfl⟩
 have q:=(Ce (Ak (l.map λ(x:Nat)=>(x:Int)))).length_eq;have n:=anb (l.map λ(x:Nat)=>(x:Int));rw[e,du] at q;rw[<- q,du] at n;have le:(Ak (l.map λ(x:Nat)=>(x:Int))).length<31:=by have:=axe b f;rw[<- q];lia
 refine⟨?_,n⟩;show Res.uz (((dm M d).bind Vx).bind λis=>if(Ak is).length<31 then some (D.vl ((sortI (Ak is)).map D.int)) else none) M=_;rw[h,qe,abh,qe,cj le,e,ai0];rfl
theorem bnd:∀l:List Nat,∃b,∀z∈l,z<b
 |[]=>⟨0,by simp⟩
 |a::l=>by
  obtain⟨b,h⟩:=bnd l;refine⟨a+b+1,λz Z=>?_⟩;rcases bz.mp Z with rfl|Z
  .lia
  .have:=h z Z;lia
def agl{M:cg}{l:Y3}(h:dm M d=some (l.map nD))(hz:l.length<31):∃Z:List Nat,vz .Dr [d] M=.ok (.vl (Z.map nD)) M/\Z.length<=l.length/\Z.Nodup/\∀x,x∈Z↔x∈l:=by
 obtain⟨b,R⟩:=bnd l;have U:∀z,z∈l↔z<b/\decide (z∈l)=true:=λz=>by rw[di];exact⟨λq=>⟨R z q,q⟩,λq=>q.2⟩
 obtain⟨e1,e2⟩:=axf (f:=λz=>decide (z∈l)) h (.inr hz) U;exact⟨_,e1,e2,Aj.mpr ((Xk b _).imp λh=>by lia),λx=>by rw[Om];exact(U x).symm⟩
def alc(R:ρ.length=19)(h3:ρ[3]?=some (some (.vl (xg p K))))(h:RS p K rs M)(hK:K<=3)(h7:∀e,e<K->(rs e).length<=7)(ht:t<M.length) :
 ∃Z,Hk.den W ρ M=.ok (.ref (M.length+K)) Z/\Mk t (M.length+K) K (λe=>(rs e).length) (λe=>List.range (rs e).length) Z/\Ay M Z/\Z.length=M.length+K+1:=by
 unfold Hk;obtain⟨ys,M1,e,r1,r2,r3,r4⟩:=Fv (W:=W) (v:=false) (k:=1) (t:=.name 19) (it:=.v 3) (e:=.ae9 (.l (.v 19))) (ρ:=ρ) (M:=M) (M1:=M) (d:=.vl (xg p K)) (ds:=xg p K) (by simp[h3]) rfl (by simp[xg];exact a_ hK (by decide))
  (λi xs Z=>xs=xg M.length i/\(∀e,e<i->Z[M.length+e]?=some (.lst ((List.range (rs e).length).map nD)))/\Ay M Z/\Z.length=M.length+i) ⟨rfl,λe he=>absurd he (u9 _),Ay.refl M,rfl⟩ (λ_ _ _ _=>rfl)
  (λi y xs Z hy hI=>by
   obtain⟨rfl,q1,q2,q3⟩:=hI;have U:i<K:=by have:=(ak.mp hy).1;simpa[xg] using this
   obtain rfl:D.ref (p+i)=y:=by simpa[xg,U] using hy
   have ln:=len_list (qj (q2 _ _ (h i U)));have e1:(ρ++List.replicate 1 none).set 19 (some (.ref (p+i)))=ρ++[some (.ref (p+i))]:=by rw[List.set_append];simp[R]
   have g9:(ρ++[some (D.ref (p+i))])[19]?=some (some (.ref (p+i))):=by rw[<- R];simp
   refine⟨_,.ref Z.length,Z++[.lst ((List.range (rs i).length).map nD)],rfl,?_,?_,λe he=>?_,q2.trans (Ay.app _ _),by simp[q3];exact rfl⟩
   .have h8:=h7 i U
    have h9:(rs i).length<=100000:=a_ h8 (by decide)
    rw[e1];simp[g9,ln,h9,MW.new,nD]
   .simp[xg,qy,q3]
   .by_cases z:e=i
    .subst z;rw[<- q3];simp
    .exact uf (q1 e (by lia)))
 have qq:(xg p K).length=K:=by simp[xg]
 rw[qq] at r1 r2 r4;refine⟨M1++[.lst ys],by rw[e];simp[MW.new,r4],⟨⟨ys,by rw[<- r4];simp,by rw[r1];simp[xg],λi U=>?_⟩,λi U=>by simp,λi U x hx=>jx.mp hx,λi U x hx=>by simp[jx.mp hx]⟩,r3.trans (Ay.app _ _),by simp[r4]⟩;refine⟨.ref (M.length+i),by rw[r1];simp[xg,U],qj (uf (r2 i U)),λa q=>?_⟩;cases q;exact⟨b_ ht x_,H_ U⟩
def Mk.st(h:Mk t Z K L U M)(s:St t f M M')(R:t<Z):Mk t Z K L U M':=h.frame (λa o ha _ e=>s.keep a o (i_ ha) e) R
def Ac.of(h:Ac q Z L U M)(k:∀o,M[q]?=some o->M'[q]?=some o):Ac q Z L U M':=⟨k _ h.at_,h.len,h.ok⟩
def axg(hm:1<=m)(P:Lr sz K hs kvs)(hh:Wb t f M)(mk:Mk t pm K L ms M)(ac:Ac q hs L as M)(U:t<p)(hp:p<=pm)(zz:pm<M.length)(hq:p<=q)(qk:q≠pm)(qv:q<M.length)(hL:∀e,e<K->L e<=7) :
 ∃c5 q7 zv q8 q6 Ov M',Cv.den (PW m) [some (.ref t),some (wk K r hs),a2,a3,b4,b5,b6,b7,b8,some (.ref q),b10,O8,Tt,some (.ref pm),b14,b15,n16,n17,n18] M =
  .ok (.next,[some (.ref t),some (wk K r hs),a2,a3,b4,c5,b6,b7,b8,some (.ref q),b10,q7,zv,some (.ref pm),q8,q6,n16,n17,n18]) M'/\Mk t pm K L Ov M'/\Ac q hs L as M'/\Gs t f p M M':=by
 refine hG λ_ _k=>?_
 have h3:=P.k3;obtain⟨k,M1,e1,l1,s1,n1⟩:=Cq (many:=K) hm hh (by have:=P.k1;exact m_ this) (m_ (c_ h3 (by decide)));obtain⟨x,M2,e2,l2,s2,n2⟩:=Cq (many:=7) hm s1.has (by decide) (by decide);obtain⟨y,M3,e3,l3,s3,n3⟩:=Cq (many:=7) hm s2.has (by decide) (by decide);have hk:k<K:=o_ l1
 have s:=s1.trans (s2.trans s3);have Z:=mk.st s (b_ U hp);have q4:Ac q hs L as M3:=ac.of λo e=>s.keep _ _ (i_ (b_ U hq)) e
 obtain⟨dk,fk,lk⟩:=Z.row hk;have qq:=Z.len _ hk;have ln:=len_list lk;simp only[du,qq] at ln;have mx:=abe M3 x y;apply _k
 by_cases c:max x y<L k
 .have c':((max x y:Nat):Int)<(L k:Int):=m_ c
  have hx:x<(ms k).length:=by lia
  have hy:y<(ms k).length:=by lia
  have ix:=Qi lk hx;have iy:=Qi lk hy;have q0:=getD_mem' hx;have q2:=getD_mem' hy;generalize hx0:(ms k).getD x 0=u at ix q0;generalize hy0:(ms k).getD y 0=w at iy q2;have q1:min u w∈ms k:=by
   rcases Nat.le_total u w with z|z
   .rw[Nat.min_eq_left z];exact q0
   .rw[Nat.min_eq_right z];exact q2
  have rp:=aeo (W:=PW m) (M:=M3) (ρ:=[D.ref t,wk K r hs,a2,a3,b4,D.int k,b6,b7,b8,D.ref q,b10,D.int x,D.int y,D.ref pm,D.int (min u w:Nat),D.int (max u w:Nat),n16,n17,n18]) (v:=13) (x:=5) (y:=19) (a:=14) (b:=15) (lo:=min u w) (hi:=max u w) (by simp[fk]) lk (by have:=hL _ hk;exact a_ (f_ qq) (a_ this (by decide))) rfl rfl rfl;obtain⟨o,so,zw⟩:=Z.set hk (ns:=Hs (min u w) (max u w) (ms k)) (by simp[Hs,qq]) (λz hz=>by
   refine hG λ_ _k=>?_
   obtain⟨v,hv,rfl⟩:=bh.mp hz;apply _k;split
   .exact Z.lt _ hk _ q1
   .exact Z.lt _ hk _ hv) (aiy (Z.fx _ hk) (λx hx=>by rw[qq];exact Z.lt _ hk x hx) q1) (b_ U hp)
  have q3:Ac q hs L as (M3.set pm o):=q4.of λo e=>by rw[jm (ji qk)];exact e
  refine hG λ_ _k=>?_
  have R:M3.length=M.length:=u_ (a_ (f_ n3) (a_ (f_ n2) (f_ n1))) (a_ (g_ n1) (a_ (g_ n2) (g_ n3)));obtain⟨Ov,M5,e5,q5,f5,l5⟩:=alb (r:=r) (M:=M3.set pm o) hm P zw q3 (by simp;exact b_ zz (g_ R)) (by simp;exact b_ qv (g_ R)) qk (b_ U hp) hL;have zk:Ac q hs L as M5:=q3.of λo e=>f5 _ _ qk (by simp;exact b_ qv (g_ R)) e
  apply _k;refine⟨some (.int k),some (.int x),some (.int y),some (.int (min u w:Nat)),some (.int (max u w:Nat)),Ov,M5,?_,q5,zk,⟨?_,λa v ha na e=>?_,by simp at l5;exact a_ (g_ R) l5⟩⟩
  .simp[Cv,Ri,e1,e2,e3,mx,fk,ln,c',ix,iy,aiz,abe,M9,rp,so,e5]
  .obtain⟨n,hn,ho⟩:=s.has
   exact⟨n,f5 _ _ (h_ (b_ U hp)) (by have:=rm hn;simp;exact this) (by rw[jm (i_ (b_ U hp))];exact hn),ho⟩
  .refine f5 _ _ (h_ (b_ ha hp)) (by have:=rm e;simp;exact b_ this (g_ R)) ?_
   rw[jm (i_ (b_ ha hp))];exact s.keep a v na e
 .have c':¬((max x y:Nat):Int)<(L k:Int):=by lia
  refine⟨some (.int k),some (.int x),some (.int y),b14,b15,ms,M3,?_,Z,q4,Gs.aen s⟩;simp[Cv,Ri,e1,e2,e3,mx,fk,ln,c']
noncomputable def tu(R:Y3)(Z:List (List Nat)):D:=.tup [.tup (R.map nD),.tup (Z.map λU=>.tup (U.map nD))]
def a4f(h:.int v∈ds):ixI v ds<ds.length:=by
 unfold ixI;cases q:ds.findIdx? (λd=>match d with|.int i=>decide (i=v)|_=>false) with
 |some j=>exact(uv.mp q).1
 |none =>
  rw[yj] at q;have:=q _ h;simp at this
noncomputable def ixo(l:Y3)(x:Nat):Nat:=ixI (x:Int) (l.map nD)
noncomputable def ba2(ms:Nat->List Nat)(g:F)(Z R U:Y3):List Nat:=R.map λth=>ixo U ((ms g.b).getD (Z.getD th 0) 0)
structure Xu(K:Nat)(hs:List F)(Rj:Y3)(agm:List (List Nat)):Prop where
 ls:Rj.length=K
 la:agm.length=hs.length
 sm:∀x∈Rj,x<=7
 ok:∀(j:Nat)(g:F)(js:Y3),hs[j]?=some g->agm[j]?=some js->js.length=Rj.getD g.a 0/\∀x∈js,x<Rj.getD g.b 0
noncomputable def Tu(l:Y3):D:=.vl (l.map nD)
def arc(R:ρ.length=19)(qq:ρ[13]?=some (some (.ref pm)))(mk:Mk t pm K L ms M)(hK:K<=3)(h7:∀i,i<K->L i<=7) :
 ∃Z:List (List Nat),Hj.den W ρ M=.ok (.vl (Z.map Tu)) M/\Z.length=K/\∀e l,Z[e]?=some l->l.length<=L e/\l.Nodup/\∀x,x∈l↔x∈ms e:=by
 obtain⟨qk,h1,h2,h3⟩:=mk.ex;unfold Hj;obtain⟨ys,M',e,rfl,Z,r1,r2,r3⟩:=Fv (W:=W) (v:=true) (k:=1) (t:=.name 19) (it:=.v 13) (e:=.blt .Dr (.o (.v 19))) (ρ:=ρ) (M:=M) (M1:=M) (d:=.ref pm) (ds:=qk) (by simp[qq]) (qj h1) (a_ (f_ h2) (a_ hK (by decide)))
  (λi xs M'=>M'=M/\∃Z:List (List Nat),xs=Z.map Tu/\Z.length=i/\∀e l,Z[e]?=some l->l.length<=L e/\l.Nodup/\∀x,x∈l↔x∈ms e) ⟨rfl,[],rfl,rfl,by simp⟩ (λi xs M' h=>by rw[h.1];exact qj h1)
  (λi y xs M' hy hI=>by
   obtain⟨rfl,Z,rfl,q1,q2⟩:=hI;have hi:i<K:=by have:=(ak.mp hy).1;exact b_ this (f_ h2)
   obtain⟨d,g1,g2,_⟩:=h3 i hi;rw[hy] at g1;cases g1;obtain⟨l,k1,k2,k4,k3⟩:=agl g2 (by have:=h7 i hi;have:=mk.len i hi;lia);have e1:(ρ++List.replicate 1 none).set 19 (some y)=ρ++[some y]:=by rw[List.set_append];simp[R]
   have g9:(ρ++[some y])[19]?=some (some y):=by rw[<- R];simp
   refine⟨_,Tu l,M',rfl,by rw[e1];simp[g9,k1,Tu],rfl,Z++[l],by simp,by simp[q1],λe l' U=>?_⟩
   by_cases z:e<Z.length
   .rw[dq z] at U;exact q2 e l' U
   .have ze:e=i:=by have:=(ak.mp U).1;simp at this;lia
    subst ze;rw[jq (s_ z),q1] at U;simp at U;subst U;rw[<- mk.len e hi];exact⟨k2,k4,k3⟩)
 refine⟨Z,by rw[e,r1];rfl,r2.trans h2,r3⟩
def ard{Z:List (List Nat)}{i:Nat}(h:Z[i]?=some l):Aa (.vl (Z.map Tu)) (.int i) M=some (Tu l):=Cm rfl q_ (by simp[h])
def alf{hl:List (List Nat)}(mk:Mk t pm K L ms M)(ac:Ac q hs L as M){j:Nat}(hj:hs[j]?=some g)(ej:as[j]?=some U)(ga:g.a<K)(gb:g.b<K)(h1:hl[g.a]?=some la)(h2:hl[g.b]?=some lb)(q0:∀x,x∈la↔x∈ms g.a)(q3:∀x,x∈lb↔x∈ms g.b)(h7:la.length<=7)(hw:M[w]?=some (.lst td))(q4:td.length<100000) :
 ∃(q2:Option D)(zs:Y3),Ec.den W [a0,wk K r hs,a2,a3,b4,b5,b6,b7,b8,D.ref q,D.int j,O8,Tt,D.ref pm,b14,b15,D.vl (hl.map Tu),D.ref w,b18] M =
  .ok (.next,[a0,some (wk K r hs),a2,a3,b4,b5,b6,b7,b8,some (.ref q),some (.int j),some (.int g.a),some (.int g.b),some (.ref pm),b14,b15,some (.vl (hl.map Tu)),some (.ref w),q2]) (M.set w (.lst (td++[.tup (zs.map nD)])))/\zs=ba2 ms g U la lb/\zs.length=la.length/\∀x∈zs,x<lb.length:=by
 obtain⟨q5,qv,fj,lj,rj⟩:=ac.get hj;rw[ej] at qv;cases qv;obtain⟨db,fb,q1⟩:=mk.row gb;have hz:∀Z∈la,U.getD Z 0<(ms g.b).length/\Z<U.length:=λZ h=>by
  have h3:=mk.lt _ ga Z ((q0 Z).mp h);have h4:Z<U.length:=b_ h3 (g_ lj)
  exact⟨by rw[mk.len _ gb];exact rj _ (getD_mem' h4),h4⟩
 have c3:Hi.den W [a0,wk K r hs,a2,a3,b4,b5,b6,b7,b8,D.ref q,D.int j,D.int g.a,D.int g.b,D.ref pm,b14,b15,D.vl (hl.map Tu),D.ref w,b18] M=.ok (Tu (la.map λZ=>(ms g.b).getD (U.getD Z 0) 0)) M:=by
  unfold Hi;rw[Av (d:=Tu la) (ds:=la.map nD) (M1:=M) (g:=λd=>match d with|.int o=>nD ((ms g.b).getD (U.getD o.toNat 0) 0)|_=>.non) (by simp[ard h1]) rfl (by simp;exact a_ h7 (by decide)) (λz R=>by
   obtain⟨Z,qq,rfl⟩:=bh.mp R;obtain⟨k1,k2⟩:=hz Z qq;refine⟨_,rfl,?_⟩;have i1:Aa (.vl (U.map nD)) (.int Z) M=some (.int (U.getD Z 0)):=Qi rfl k2;have i2:=Qi q1 k1;show(Ex.ix (.ix (.v 13) (.v 12)) (.ix (.ix (.v 9) (.v 10)) (.v 19))).den W [a0,wk K r hs,a2,a3,b4,b5,b6,b7,b8,D.ref q,D.int j,D.int g.a,D.int g.b,D.ref pm,b14,b15,D.vl (hl.map Tu),D.ref w,b18,D.int Z] M=.ok (nD ((ms g.b).getD (U.getD (Z:Int).toNat 0) 0)) M;rw[t8];generalize U.getD Z 0=yy at i1 i2;generalize(ms g.b).getD yy 0=zz at i2;simp[fb,fj,i1,i2,nD])]
  simp[Tu,nD]
 have Vn:∀z∈la.map (λZ=>(ms g.b).getD (U.getD Z 0) 0),.int (z:Int)∈lb.map nD:=λz h=>by obtain⟨Z,qq,rfl⟩:=bh.mp h;exact bh.mpr ⟨_,(q3 _).mpr (getD_mem' (hz Z qq).1),rfl⟩
 generalize ba3:la.map (λZ=>(ms g.b).getD (U.getD Z 0) 0)=row at c3 Vn;have qk:row.length=la.length:=by rw[<- ba3];simp
 have c2:Hh.den W [a0,wk K r hs,a2,a3,b4,b5,b6,b7,b8,D.ref q,D.int j,D.int g.a,D.int g.b,D.ref pm,b14,b15,D.vl (hl.map Tu),D.ref w,Tu row] M=.ok (.vl ((row.map λ(z:Nat)=>ixI (z:Int) (lb.map nD)).map nD)) M:=by
  unfold Hh;rw[Av (d:=Tu row) (ds:=row.map nD) (M1:=M) (g:=λd=>match d with|.int o=>nD (ixI o (lb.map nD))|_=>.non) (by simp) rfl (by simp;exact a_ (f_ qk) (a_ h7 (by decide))) (λz R=>by
   obtain⟨o,ho,rfl⟩:=bh.mp R;refine⟨_,rfl,?_⟩;have i1:=aqx (M:=M) (ds:=lb.map nD) (v:=(o:Int)) (λd hd=>by obtain⟨x,_,rfl⟩:=bh.mp hd;exact⟨_,rfl⟩) (Vn o ho);show(Ex.bm .index (.ix (.v 16) (.v 12)) (.o (.v 19))).den W [a0,wk K r hs,a2,a3,b4,b5,b6,b7,b8,D.ref q,D.int j,D.int g.a,D.int g.b,D.ref pm,b14,b15,D.vl (hl.map Tu),D.ref w,Tu row,D.int o] M=_;simp[ard h2,Tu,Jj,i1,nD])]
  simp[nD]
 refine⟨some (Tu row),row.map λ(z:Nat)=>ixI (z:Int) (lb.map nD),?_,by rw[<- ba3,zp];rfl,by simp[qk],λx hx=>?_⟩
 .have pe:∀ρ,(Tg.names [11,12]).put (eD g) ρ=some ((ρ.set 11 (some (.int g.a))).set 12 (some (.int g.b))):=λ_=>rfl
  have ap:=Bu (d:=.tup ((row.map λ(z:Nat)=>ixI (z:Int) (lb.map nD)).map nD)) hw q4;simp only[zp] at c2 ap ⊢;simp[-List.map_map,Ec,Jz,Qz hj,pe,c3,c2,Cu hw,Qa,ap]
 .obtain⟨z,R,rfl⟩:=bh.mp hx
  have:=a4f (Vn z R);simpa using this
def arf(hm:2<=m)(P:Lr sz K Z kvs)(hh:Wb t f M)(hr:M[r]?=some (.dT kvs))(y4:r≠t) :
 ∃Rj z4 M',prog.call m 29 [.ref t,wk K r Z,.int 5] M=.ok (tu Rj z4) M'/\Xu K Z Rj z4/\St t f M M':=by
 rw[call_of (a_ (by decide) hm) rfl];have h3:=P.k3;have hl:=P.len;have ht:t<M.length:=by obtain⟨n,h,_⟩:=hh;exact rm h
 have j3:=rm hr;have r0:=aqz (W:=PW (m-1)) (M:=M) (K:=K) (y:=19) (e:=.ix (.v 1) (.i 0)) (ρ:=[D.ref t,wk K r Z,D.int 5,none,none,none,none,none,none,none,none,none,none,none,none,none,none,none,none]) rfl (by simp[Ri]) (a_ h3 (by decide));have g0:Gs t f M.length M (M++List.replicate K (.lst [])):=Gs.app hh (bc _) _;have w0:Rw Z K M.length [] (M++List.replicate K (.lst [])):=⟨λi hi=>by
  rw[jq x_];simp[rowsOf,hi],by simp,by simp[rowsOf],v8⟩
 refine hG λ_ _k=>?_
 obtain⟨v,M1,e1,l1,s1,n1⟩:=Cq (many:=6) (m:=m-1) (r_ hm) g0.has (by decide) (by decide);obtain⟨xy,M2,e2,⟨b4,b5,b6,b7,b8,rfl⟩,ad,w2,Yh,g2,n2⟩:=yo (W:=PW (m-1)) (t:=.name 4) (b:=Cw) (it:=.call 14 (.p (.v 0) (.bin .add (.v 2) (.i 1)))) (n:=v)
  (ρ:=[some (.ref t),some (wk K r Z),some (.int 5),some (.vl (xg M.length K)),none,none,none,none,none]++[none,none,none,none,none,none,none,none,none,none]) (M:=M++List.replicate K (.lst [])) (M1:=M1) (by simp[e1]) (e_ (b_ (o_ l1) (by decide)))
  (λi ρ M'=>(∃b4 b5 b6 b7 b8:Option D,ρ=[some (.ref t),some (wk K r Z),some (.int 5),some (.vl (xg M.length K)),b4,b5,b6,b7,b8]++[none,none,none,none,none,none,none,none,none,none])/\∃ad,Rw Z K M.length ad M'/\(∀q∈ad,q.1<i)/\Gs t f M.length M M'/\M'.length=M.length+K)
  ⟨⟨none,none,none,none,none,rfl⟩,[],⟨w0.rs.keep s1 ht,w0.kd,w0.le,w0.nd⟩,by simp,g0.trans (Gs.aen s1),by simp at n1;exact n1⟩
  (λi ρ M2 hi hI=>by
   refine hG λ_ _k=>?_
   obtain⟨⟨b4,b5,b6,b7,b8,rfl⟩,ad,q1,hn,q2,q3⟩:=hI;obtain⟨c5,c6,c7,c8,uu,M3,e3,k1,Oo,k2,k3⟩:=aw5 (m:=m-1) (r:=r) (n:=i) (r_ hm) P q2.has ht q1 hn (b5:=b5) (b6:=b6) (b7:=b7) (b8:=b8) (rest:=[none,none,none,none,none,none,none,none,none,none]) rfl;apply _k;exact⟨_,.next,_,M3,rfl,e3,.inl rfl,⟨some (.int i),c5,c6,c7,c8,rfl⟩,uu,k1,Oo,q2.trans k2,k3.trans q3⟩)
 apply _k;refine hG λ_ _k=>?_
 have xv:=n2;obtain⟨xk,M3,e3,⟨R,O8,Tt,rfl⟩,as,a3,a4,a5,w3,g3,n3⟩:=yo (W:=PW (m-1)) (t:=.name 10) (b:=Hm) (it:=.blt .len (.o (.ix (.v 1) (.i 1)))) (n:=Z.length)
  (ρ:=[D.ref t,wk K r Z,D.int 5,D.vl (xg M.length K),b4,b5,b6,b7,b8,D.ref M2.length,none,none,none,none,none,none,none,none,none]) (M:=M2++[.lst []]) (M1:=M2++[.lst []]) (by simp[Jz,Qc]) (a_ hl (by decide))
  (λj ρ M'=>(∃R O8 Tt:Option D,ρ=[some (.ref t),some (wk K r Z),some (.int 5),some (.vl (xg M.length K)),b4,b5,b6,b7,b8,some (.ref M2.length),R,O8,Tt,none,none,none,none,none,none]) /\
   ∃as:List (List Nat),M'[M2.length]?=some (.lst (as.map λjs=>.vl (js.map nD)))/\as.length=j/\(∀(j:Nat)(g:F)(js:Y3),Z[j]?=some g->as[j]?=some js->Ae Z kvs ad j g js)/\Rw Z K M.length ad M'/\Gs t f M.length M M'/\M'.length=M2.length+1)
  ⟨⟨none,none,none,rfl⟩,[],by simp,rfl,by simp,⟨λi hi=>uf (w2.rs i hi),w2.kd,w2.le,w2.nd⟩,g2.trans (Gs.app g2.has (by lia) _),by simp⟩
  (λj ρ M3 hj hI=>by
   refine hG λ_ _k=>?_
   obtain⟨⟨R,O8,Tt,rfl⟩,as,q1,q2,q3,q4,q5,q6⟩:=hI;have qq:Z[j]?=some Z[j]:=by simp[hj]
   obtain⟨js,c7,k1⟩:=a4a (m:=m-1) (M:=M3) (r:=r) (r_ hm) P (q5.low _ _ j3 y4 hr) q4 qq (a0:=some (.ref t)) (a2:=some (.int 5)) (a4:=b4) (a5:=b5) (a6:=b6) (a7:=b7) (a8:=b8) (a9:=some (.ref M2.length)) (rest:=[none,none,none,none,none,none]) rfl;have ap:=Bu (d:=.vl (js.map nD)) q1 (by simp;exact c_ (f_ q2) (b_ hj (a_ hl (by decide))));have pe:∀ρ,(Tg.names [11,12]).put (eD Z[j]) ρ=some ((ρ.set 11 (some (.int Z[j].a))).set 12 (some (.int Z[j].b))):=λ_=>rfl
   simp only[An,Bc] at c7;apply _k;refine⟨_,.next,_,M3.set M2.length (.lst ((as.map λjs=>.vl (js.map nD))++[.vl (js.map nD)])),rfl,by simp[Hm,Jz,Qz qq,pe,Cu q1,c7,ap],.inl rfl,⟨some (.int j),some (.int Z[j].a),some (.int Z[j].b),rfl⟩,as++[js],by rw[p7 q1];simp,by simp[q2],λj' g zk hg U=>?_,⟨λi hi=>?_,q4.kd,q4.le,q4.nd⟩,q5.trans (Gs.aq2 q5.has (Je.set (by lia)) ht (by simp)),by simp[q6]⟩
   .by_cases z:j'<as.length
    .rw[dq z] at U;exact q3 j' g zk hg U
    .have ze:j'=j:=by have:=(ak.mp U).1;simp at this;lia
     subst ze;rw[jq (s_ z),q2] at U;simp at U;subst U;rw[qq] at hg;cases hg;exact k1
   .rw[jm (by lia)];exact q4.rs i hi)
 apply _k;refine hG λ_ _k=>?_
 obtain⟨M4,e4,j1,zv,n4⟩:=alc (W:=PW (m-1)) (t:=t) (M:=M3) (ρ:=[D.ref t,wk K r Z,D.int 5,D.vl (xg M.length K),b4,b5,b6,b7,b8,D.ref M2.length,R,O8,Tt,none,none,none,none,none,none]) rfl rfl w3.rs h3 w3.le (by lia);have g4:Gs t f M.length M M4:=g3.trans ⟨by obtain⟨n,h,o⟩:=g3.has;exact⟨n,zv _ _ h,o⟩,λa o _ _ e=>zv a o e,by lia⟩;have u4:Ac M2.length Z (λe=>(rowsOf Z ad e).length) as M4:=⟨zv _ _ a3,a4,λj g js h1 h2=>⟨(a5 j g js h1 h2).len,(a5 j g js h1 h2).lt⟩⟩;obtain⟨u,M5,e5,l5,s5,n5⟩:=Cq (many:=4) (m:=m-1) (r_ hm) g4.has (by decide) (by decide);obtain⟨u6,M6,e6,⟨d5,z1,z3,zw,qv,q7,rfl⟩,ms,z6,z5,g6,n6⟩:=yo (W:=PW (m-1)) (t:=.name 10) (b:=Cv) (it:=.call 14 (.p (.v 0) (.i 4))) (n:=u)
  (ρ:=[D.ref t,wk K r Z,D.int 5,D.vl (xg M.length K),b4,b5,b6,b7,b8,D.ref M2.length,R,O8,Tt,D.ref (M3.length+K),none,none,none,none,none]) (M:=M4) (M1:=M5) (by simp[e5]) (e_ (b_ (o_ l5) (by decide)))
  (λ_ ρ M'=>(∃b5 R O8 Tt qk q0:Option D,ρ=[some (.ref t),some (wk K r Z),some (.int 5),some (.vl (xg M.length K)),b4,b5,b6,b7,b8,some (.ref M2.length),R,O8,Tt,some (.ref (M3.length+K)),qk,q0,none,none,none]) /\
   ∃ms,Mk t (M3.length+K) K (λe=>(rowsOf Z ad e).length) ms M'/\Ac M2.length Z (λe=>(rowsOf Z ad e).length) as M'/\Gs t f M.length M M'/\M3.length+K<M'.length)
  ⟨⟨b5,R,O8,Tt,none,none,rfl⟩,_,j1.st s5 (by lia),u4.of λo e=>s5.keep _ _ (by lia) e,g4.trans (Gs.aen s5),by lia⟩
  (λi ρ M6 hi hI=>by
   refine hG λ_ _k=>?_
   obtain⟨⟨b5,R,O8,Tt,qk,q0,rfl⟩,ms,q1,q2,q3,q4⟩:=hI;obtain⟨c5,jj,y8,jv,y5,Ov,M7,e7,k1,k2,k3⟩:=axg (m:=m-1) (r:=r) (p:=M.length) (r_ hm) P q3.has q1 q2 ht (by lia) q4 (by lia) (by lia) (by lia) w3.le (a2:=some (.int 5)) (a3:=some (.vl (xg M.length K))) (b4:=b4) (b5:=b5) (b6:=b6) (b7:=b7) (b8:=b8) (b10:=some (.int i)) (O8:=O8) (Tt:=Tt) (b14:=qk) (b15:=q0) (n16:=none) (n17:=none) (n18:=none);apply _k;exact⟨_,.next,_,M7,rfl,e7,.inl rfl,⟨c5,some (.int i),jj,y8,jv,y5,rfl⟩,Ov,k1,k2,q3.trans k3,by have:=k3.len;exact b_ q4 this⟩)
 apply _k;refine hG λ_ _k=>?_
 obtain⟨hd,e7,zz,y0⟩:=arc (W:=PW (m-1)) (M:=M6) (ρ:=[D.ref t,wk K r Z,D.int 5,D.vl (xg M.length K),b4,d5,b6,b7,b8,D.ref M2.length,z1,z3,zw,D.ref (M3.length+K),qv,q7,none,none,none]) rfl rfl z6 h3 w3.le;have z2:∀e,e<K->∃l,hd[e]?=some l/\l.length<=7/\∀x,x∈l↔x∈ms e:=λe he=>by have z:hd[e]?=some hd[e]:=dh (b_ he (g_ zz));obtain⟨y1,_,y2⟩:=y0 e _ z;have:=w3.le e he;exact⟨_,z,a_ y1 this,y2⟩
 apply _k;refine hG λ_ _k=>?_
 obtain⟨u7,M8,e8,⟨j2,uk,y7,yk,rfl⟩,td,t1,t2,t3,g8,n8⟩:=yo (W:=PW (m-1)) (t:=.name 10) (b:=Ec) (it:=.blt .len (.o (.ix (.v 1) (.i 1)))) (n:=Z.length)
  (ρ:=[D.ref t,wk K r Z,D.int 5,D.vl (xg M.length K),b4,d5,b6,b7,b8,D.ref M2.length,z1,z3,zw,D.ref (M3.length+K),qv,q7,D.vl (hd.map Tu),D.ref M6.length,none]) (M:=M6++[.lst []]) (M1:=M6++[.lst []]) (by simp[Jz,Qc]) (a_ hl (by decide))
  (λj ρ M'=>(∃R O8 Tt q8:Option D,ρ=[some (.ref t),some (wk K r Z),some (.int 5),some (.vl (xg M.length K)),b4,d5,b6,b7,b8,some (.ref M2.length),R,O8,Tt,some (.ref (M3.length+K)),qv,q7,some (.vl (hd.map Tu)),some (.ref M6.length),q8]) /\
   ∃td:List (List Nat),M'[M6.length]?=some (.lst (td.map λjs=>.tup (js.map nD)))/\td.length=j/\(∀(j:Nat)(g:F)(js:Y3),Z[j]?=some g->td[j]?=some js->js.length=(hd.map List.length).getD g.a 0/\∀x∈js,x<(hd.map List.length).getD g.b 0)/\Ay M6 M'/\M'.length=M6.length+1)
  ⟨⟨z1,z3,zw,none,rfl⟩,[],by simp,rfl,by simp,Ay.app _ _,by simp⟩
  (λj ρ M7 hj hI=>by
   refine hG λ_ _k=>?_
   obtain⟨⟨R,O8,Tt,q8,rfl⟩,td,q1,q2,q3,q4,q5⟩:=hI;have qq:Z[j]?=some Z[j]:=by simp[hj]
   obtain⟨sj,ej,_⟩:=z5.get qq;have hg:=au qq;obtain⟨la,x1,x2,x3⟩:=z2 _ (P.ace _ hg);obtain⟨lb,y1,y2,y3⟩:=z2 _ (P.afm _ hg);have z9:=z6.frame (M':=M7) (λa o _ _ e=>q4 a o e) (by lia);have yy:=z5.of (M':=M7) λo e=>q4 _ _ e
   obtain⟨u3,zs,e9,kz,k1,k2⟩:=alf (W:=PW (m-1)) (r:=r) z9 yy (hl:=hd) qq ej (P.ace _ hg) (P.afm _ hg) x1 y1 x3 y3 x2 q1 (by simp;exact c_ (f_ q2) (b_ hj (a_ hl (by decide)))) (a0:=some (.ref t)) (a2:=some (.int 5)) (a3:=some (.vl (xg M.length K))) (b4:=b4) (b5:=d5) (b6:=b6) (b7:=b7) (b8:=b8) (O8:=O8) (Tt:=Tt) (b14:=qv) (b15:=q7) (b18:=q8);apply _k;refine⟨_,.next,_,_,rfl,e9,.inl rfl,⟨some (.int j),some (.int Z[j].a),some (.int Z[j].b),u3,rfl⟩,td++[zs],by rw[p7 q1];simp,by simp[q2],λj' g zk z0 U=>?_,λa o e=>?_,by simp[q5]⟩
   .by_cases z:j'<td.length
    .rw[dq z] at U;exact q3 j' g zk z0 U
    .have ze:j'=j:=by have:=(ak.mp U).1;simp at this;lia
     subst ze;rw[jq (s_ z),q2] at U;simp at U;subst U;rw[qq] at z0;cases z0;have u1:(hd.map List.length).getD Z[j'].a 0=la.length:=by simp[fc,x1]
     have u2:(hd.map List.length).getD Z[j'].b 0=lb.length:=by simp[fc,y1]
     rw[u1,u2];exact⟨k1,k2⟩
   .rw[jm (by have:=rm e;exact i_ this)];exact q4 a o e)
 have c1:Hg.den (PW (m-1)) [some (.ref t),some (wk K r Z),some (.int 5),some (.vl (xg M.length K)),b4,d5,b6,b7,b8,some (.ref M2.length),j2,uk,y7,some (.ref (M3.length+K)),qv,q7,some (.vl (hd.map Tu)),some (.ref M6.length),yk] M8=.ok (.vl ((hd.map List.length).map nD)) M8:=by
  unfold Hg;rw[Av (d:=.vl (hd.map Tu)) (ds:=hd.map Tu) (M1:=M8) (g:=λd=>match d with|.vl l=>.int l.length|_=>.non) (by simp) rfl (by simp;exact a_ (f_ zz) (a_ h3 (by decide))) (λz hz=>by
   refine hG λ_ _k=>?_
   obtain⟨l,z7,rfl⟩:=bh.mp hz;apply _k;refine⟨_,rfl,?_⟩;simp[Tu,vz,Ru])]
  simp[Tu,nD]
 apply _k;refine⟨hd.map List.length,td,M8,?_,⟨by simp[zz],t2,λx hx=>?_,t3⟩,?_⟩
 .simp only[An,Bc] at e2
  have y9:Nh.den (PW (m-1)) _ _=_:=e2;have z8:Nf.den (PW (m-1)) _ _=_:=e3;have uj:Nb.den (PW (m-1)) _ _=_:=e6;have y6:Mz.den (PW (m-1)) _ _=_:=e8;have yv:Ld.den (PW (m-1)) _ _=_:=r0;simp[-List.map_map,Fn.run,Qt,Qs,yv,y9,MW.new,z8,e4,uj,e7,y6,c1,Qa,vz,V0 (qj t1),tu]
 .refine hG λ_ _k=>?_
  obtain⟨l,z7,rfl⟩:=bh.mp hx;obtain⟨i,hi,rfl⟩:=uc z7;obtain⟨l2,y1,y2,_⟩:=z2 i (b_ hi (f_ zz));rw[dh hi] at y1;cases y1;apply _k;exact y2
 .have:Gs t f M.length M M8:=g6.trans ⟨by obtain⟨n,h,o⟩:=g6.has;exact⟨n,g8 _ _ h,o⟩,λa o _ _ e=>g8 a o e,by lia⟩
  exact this.st
noncomputable def Bv(l:Y3):D:=.tup (l.map nD)
def ai1(s:Y3)(a:List (List Nat))(M:cg):Aa (tu s a) (.int 0) M=some (Bv s):=rfl
def arh(s:Y3)(a:List (List Nat))(M:cg):Aa (tu s a) (.int 1) M=some (.tup (a.map Bv)):=rfl
def ari{l:Y3}(h:i<l.length):Aa (Bv l) (.int i) M=some (.int (l.getD i 0)):=J8 q_ (by simp[h,nD])
def ba6{a:List (List Nat)}{j:Nat}(h:a[j]?=some Z):Aa (.tup (a.map Bv)) (.int j) M=some (Bv Z):=J8 q_ (by simp[h])
section
variable{W:Gh}{ρ:Env}{M:cg}{t:Tg}{it:Lj}{ds:List D}
def ai2{g:Nat->D}(R:it.den W ρ M=.ok (.con ds) M)(hl:ds.length<=100000)(h:∀(i:Nat) d,ds[i]?=some d->∃U,t.put d (ρ++List.replicate k none)=some U/\e.den W U M=.ok (g i) M) :
 (Ex.comp true k t it e).den W ρ M=.ok (.vl ((List.range ds.length).map g)) M:=by
 rw[Jl,R];obtain⟨ys,Z,e1,e2,rfl⟩:=G9 (fin:=(Src.con ds).fin) (item:=(Src.con ds).item) (body:=λd M=>(Res.uz (t.put d (ρ++List.replicate k none)) M).bind λqq M=>(e.den W qq M).bind λx Z=>.ok (some x) Z) (λi xs Z=>xs=(List.range i).map g/\Z=M) (n:=ds.length) (λi xs Z hi h1=>by
  obtain⟨rfl,rfl⟩:=h1;obtain⟨U,a,b⟩:=h i ds[i] (by simp[hi]);exact⟨_,some (g i),Z,by simp[Src.item,hi];rfl,by rw[a];simp[b],by simp[qy],rfl⟩) (λ_ _ _=>rfl) ds.length 0 [] M (uw _) ⟨rfl,rfl⟩
 show(Ai (.con ds) _ Z).bind _=_;rw[Ai,show(Src.con ds).len=ds.length from rfl,cj hl,e1,<- e2];rfl
def ai3{e:Ex}{n:Nat}(h:e.den W ρ M=.ok (.int (n:Nat)) M)(Z:n<=100000):(Lj.K4 e).den W ρ M=.ok (.con ((List.range n).map nD)) M:=by rw[Og,h,Res.Am];show(if(n:Int).natAbs<=100000 then _ else _)=_;rw[cj (by lia)];rfl
end
noncomputable def rD(r:List (List Nat)):D:=.tup (r.map Bv)
def Fq{Z:Type}{l:List Z}{i:Nat}(h:i<l.length):∃x,l[i]?=some x:=⟨l[i],by simp[h]⟩
def Bw{Z:Type}{l:List Z}{i:Nat}{x d:Z}(h:l[i]?=some x):l.getD i d=x:=by simp[fc,h]
def arj{l:Y3}{i:Nat}(h:(l.map nD)[i]?=some d):∃y,l[i]?=some y/\d=.int y/\y∈l:=by rw[iw] at h;obtain⟨y,Z,rfl⟩:=dg.mp h;exact⟨y,Z,rfl,au Z⟩
def Xu.get(w:Xu K U s1 a1){k:Nat}{g:F}(h:U[k]?=some g):∃Z,a1[k]?=some Z/\Z.length=s1.getD g.a 0/\∀x∈Z,x<s1.getD g.b 0:=by obtain⟨Z,e⟩:=Fq (l:=a1) (i:=k) (by rw[w.la];exact(ak.mp h).1);exact⟨Z,e,w.ok k g Z h e⟩
def Xu.s7(w:Xu K Z s1 a1)(k:Nat):s1.getD k 0<=7:=by
 rw[fc];cases e:s1[k]? with
 |none=>simp|some y=>exact w.sm y (au e)
noncomputable abbrev Sp:=Nat×Nat
noncomputable def v5(p:Sp):D:=.tup [.int p.1,.int p.2]
noncomputable abbrev kyS(p:Sp):List Kx:=ky p.1 p.2
def ayt(p:Sp)(M:cg):Aa (v5 p) (.int 0) M=some (.int p.1):=rfl
def ayu(p:Sp)(M:cg):Aa (v5 p) (.int 1) M=some (.int p.2):=rfl
def Uq(p:Sp):J6 (v5 p)=some (ky p.1 p.2):=rfl
def Vj{p q:Sp}(h:kyS p=kyS q):p=q:=by obtain⟨a,b⟩:=p;obtain⟨c,d⟩:=q;simp only[kyS,ky,List.cons.injEq,Sum.inl.injEq,Int.ofNat_inj] at h;rw[h.1,h.2.1]
def take_one{Z:Type}{l:List Z}{x:Z}(h:l[i]?=some x):l.take (i+1)=l.take i++[x]:=by rw[List.take_succ,h];rfl
def ai4(M:cg)(a b:MO):(M++[a]).set M.length b=M++[b]:=by simp
def ai5(M:cg)(a:MO):(M++[a])[M.length]?=some a:=by simp
noncomputable def Bs(s:Y3)(f:Nat->Nat->Bool)(K:Nat):List (List Nat):=(List.range K).map λk=>(List.range (s.getD k 0)).filter (f k)
def agn(s:Y3)(f:Nat->Nat->Bool)(i:Nat):Bs s f (i+1)=Bs s f i++[(List.range (s.getD i 0)).filter (f i)]:=by simp[Bs,qy]
section
variable{m:Nat}{M:cg}{sz:Nat->Nat}{K n r mp:Nat}{hs:List F}{kvs kv:List (List Kx×D)}{s:Y3}{a p q:List (List Nat)}
def axh(hm:1<=m)(w:Xu K hs s a)(hK:K<=3)(hp:M[mp]?=some (.dT kv)):prog.call m 25 [tu s a,.ref mp] M=.ok (rD (Bs s (λk x=>(wg kv (ky k x)).isSome) K)) (M++[.lst ((Bs s (λk x=>(wg kv (ky k x)).isSome) K).map Bv)]):=by
 rw[call_of hm rfl];obtain⟨qq,R,e,⟨U,b3,rfl⟩,rfl⟩:=Mj (W:=PW (m-1)) (s:=.con (Cj (s.map nD) 0)) (n:=K) (t:=.names [3,4]) (b:=My) (it:=.enm (.ix (.v 0) (.i 0))) (ρ:=[tu s a,D.ref mp,D.ref M.length,none,none]) (M:=M++[.lst []]) (M1:=M++[.lst []]) (by simp[ai1,Bv]) (by simp[Src.len,Cj,w.ls])
  (λi ρ R=>(∃U b3,ρ=[some (tu s a),some (.ref mp),some (.ref M.length),U,b3])/\R=M++[.lst ((Bs s (λk x=>(wg kv (ky k x)).isSome) i).map Bv)]) ⟨⟨none,none,rfl⟩,by simp[Bs]⟩ (λ_ _ _=>rfl) (λi ρ R hi hI=>by
   obtain⟨⟨U,b3,rfl⟩,rfl⟩:=hI;have h7:=w.s7 i;obtain⟨y,Z⟩:=Fq (l:=s) (i:=i) (by rw[w.ls];exact hi);rw[Bw Z] at h7;have c1:Mx.den (PW (m-1)) [some (tu s a),some (.ref mp),some (.ref M.length),some (.int i),some (.int y)] (M++[.lst ((Bs s (λk x=>(wg kv (ky k x)).isSome) i).map Bv)])=.ok (.vl (((List.range y).filter λx=>(wg kv (ky i x)).isSome).map nD)) (M++[.lst ((Bs s (λk x=>(wg kv (ky k x)).isSome) i).map Bv)]):=by
    unfold Mx;rw[Mi (n:=y) (M1:=M++[.lst ((Bs s (λk x=>(wg kv (ky k x)).isSome) i).map Bv)]) (q:=λx=>(wg kv (ky i x)).isSome) (g:=nD) (by simp) (a_ h7 (by decide)) (λx hx=>by
     have ii:=am8 (uf (X:=[.lst ((Bs s (λk x=>(wg kv (ky k x)).isSome) i).map Bv)]) hp) (Uq (i,x));rw[v5] at ii;exact⟨_,rfl,by simp[ii],λ_=>by simp[nD]⟩)]
    rfl
   have g:=ai5 M (.lst ((Bs s (λk x=>(wg kv (ky k x)).isSome) i).map Bv));have ap:=Bu (d:=Bv ((List.range y).filter λx=>(wg kv (ky i x)).isSome)) g (by simp[Bs];lia);rw[ai4,show(Bs s (λk x=>(wg kv (ky k x)).isSome) i).map Bv++[Bv ((List.range y).filter λx=>(wg kv (ky i x)).isSome)]=(Bs s (λk x=>(wg kv (ky k x)).isSome) (i+1)).map Bv by rw[agn,Bw Z];simp] at ap;have tv:=Qa (M++[.lst ((Bs s (λk x=>(wg kv (ky k x)).isSome) i).map Bv)]) (((List.range y).filter λx=>(wg kv (ky i x)).isSome).map nD);exact⟨.tup [.int i,.int y],[some (tu s a),some (.ref mp),some (.ref M.length),some (.int i),some (.int y)],by simp[Src.item,Cj,Z,nD],rfl,_,_,by simp[My,Cu g,c1,tv];exact ap▸rfl,⟨some (.int i),some (.int y),rfl⟩,rfl⟩)
 have e:T6.den (PW (m-1)) _ _=_:=e;have tv:vz .tuple [.ref M.length] (M++[.lst ((Bs s (λk x=>(wg kv (ky k x)).isSome) K).map Bv)])=.ok (rD (Bs s (λk x=>(wg kv (ky k x)).isSome) K)) (M++[.lst ((Bs s (λk x=>(wg kv (ky k x)).isSome) K).map Bv)]):=by simp[vz,Bh,dm,rD]
 simp[Fn.run,Yq,Yp,MW.new,e,tv]
end
noncomputable def Cr(s:Y3)(K:Nat):List Sp:=(List.range K).flatMap λk=>(List.range (s.getD k 0)).map λx=>(k,x)
def Rk(s:Y3)(k:Nat):Cr s (k+1)=Cr s k++(List.range (s.getD k 0)).map λx=>(k,x):=by simp[Cr,qy]
def Ky{p:Sp}:p∈Cr s K↔p.1<K/\p.2<s.getD p.1 0:=by
 simp only[Cr,List.mem_flatMap,jx,bh];constructor
 .rintro⟨k,Z,x,U,rfl⟩;exact⟨Z,U⟩
 .rintro⟨R,h2⟩;exact⟨p.1,R,p.2,h2,rfl⟩
theorem abi(s:Y3):∀K,(Cr s K).Nodup
 |0=>v8
 |K+1=>by
  rw[Rk,m9];refine⟨abi s K,?_,λa U b Z e=>?_⟩
  .exact ud.mpr (List.nodup_range.imp λh e=>h (nq Prod.snd e))
  .obtain⟨x,_,rfl⟩:=bh.mp Z
   have:=(Ky.mp U).1;rw[e] at this;exact absurd this (lq _)
theorem G7(h:∀k,s.getD k 0<=7):∀K,(Cr s K).length<=7*K
 |0=>bc _
 |K+1=>by
  have:=G7 h K;have:=h K;rw[Rk,ph,du,List.length_range]
  lia
noncomputable def Zg(Z:List F)(a:List (List Nat))(n:Nat):List (Sp×Sp):=(List.range n).flatMap λj=>(List.range (a.getD j []).length).map λx=>(((Z.getD j ⟨0,0,[]⟩).a,x),((Z.getD j ⟨0,0,[]⟩).b,(a.getD j []).getD x 0))
noncomputable abbrev eg(hs:List F)(a:List (List Nat)):List (Sp×Sp):=Zg hs a hs.length
noncomputable def Qj(E:List (Sp×Sp))(p q:Sp):Prop:=(p,q)∈E\/(q,p)∈E
inductive Pj(E:List (Sp×Sp))(p:Sp):Sp->Prop where
 |here:Pj E p p
 |on {q r:Sp} (h:Pj E p q) (k:Qj E q r):Pj E p r
theorem Qj.symm(h:Qj E p q):Qj E q p:=Or.symm h
def Pj.trans(h:Pj E p q)(k:Pj E q r):Pj E p r:=by
 induction k with
 |here=>exact h|on _ k Z=>exact .on Z k
theorem Pj.symm(h:Pj E p q):Pj E q p:=by
 induction h with
 |here=>exact .here|on _ k Z=>exact(Pj.on .here k.symm).trans Z
def Pj.in{R:Sp->Prop}(h:Pj E p q)(Z:R p)(hc:∀a b,R a->Qj E a b->R b):R q:=by
 induction h with
 |here=>exact Z|on _ k U=>exact hc _ _ U k
noncomputable def Iv(E:List (Sp×Sp))(H:List Sp)(p:Sp):List Sp:=@ite _ (∃c∈H,Pj E c p) (Classical.propDecidable _) H (H++[p])
noncomputable def heads(E:List (Sp×Sp))(S:List Sp):List Sp:=S.foldl (Iv E) []
def Xl(E:List (Sp×Sp))(S:List Sp)(p:Sp):heads E (S++[p])=Iv E (heads E S) p:=by simp[heads]
noncomputable def cf(E:List (Sp×Sp))(c:Sp)(k x:Nat):Bool:=@decide (Pj E c (k,x)) (Classical.propDecidable _)
def ark:cf E c k x=true↔Pj E c (k,x):=by unfold cf;exact @decide_eq_true_iff _ (Classical.propDecidable _)
theorem J0:∀(S T:List Sp),(T.foldl (Iv E) S).length<=S.length+T.length
 |S,[]=>bc _
 |S,q::T=>by
  have:=J0 (E:=E) (Iv E S q) T;have:(Iv E S q).length<=S.length+1:=by unfold Iv;split<;>simp
  simp only[Ad,gr]
  lia
section
variable{sz:Nat->Nat}{K:Nat}{hs:List F}{kvs:List (List Kx×D)}{s:Y3}{a:List (List Nat)}
def Xm(n:Nat):Zg hs a (n+1)=Zg hs a n++(List.range (a.getD n []).length).map λx=>(((hs.getD n ⟨0,0,[]⟩).a,x),((hs.getD n ⟨0,0,[]⟩).b,(a.getD n []).getD x 0)):=by simp[Zg,qy]
def ago(P:Lr sz K hs kvs)(w:Xu K hs s a)(hn:n<=hs.length)(h:e∈Zg hs a n):e.1∈Cr s K/\e.2∈Cr s K:=by simp only[Zg,List.mem_flatMap,jx,bh] at h;obtain⟨j,hj,x,U,rfl⟩:=h;obtain⟨g,Z⟩:=Fq (l:=hs) (i:=j) (b_ hj hn);obtain⟨R,h1,h2,h3⟩:=w.get Z;rw[Bw h1] at U ⊢;rw[Bw Z];refine⟨Ky.mpr ⟨P.ace _ (au Z),h2▸U⟩,Ky.mpr ⟨P.afm _ (au Z),h3 _ ?_⟩⟩;show R.getD x 0∈R;rw[fc,dh U];exact p8 U
def agp(P:Lr sz K hs kvs)(w:Xu K hs s a)(Z:n<=hs.length)(h:Qj (Zg hs a n) p q):p∈Cr s K/\q∈Cr s K:=by
 rcases h with h|h
 .exact ago P w Z h
 .exact(ago P w Z h).symm
def a4h(P:Lr sz K hs kvs)(w:Xu K hs s a)(h:Pj (eg hs a) p q)(Z:p∈Cr s K):q∈Cr s K :=
 h.in (R:=(·∈Cr s K)) Z λ_ _ _ k=>(agp P w (bc _) k).2
end
def agq(h:M[n]?=some (.lst Z)):Jj .extend (.ref n) M=true:=by simp[Jj,dm,h]
def arl(h:M[n]?=some (.lst Z))(U:Z.length+ys.length<100000):Gg .extend (.ref n) [.vl ys] M=.ok .non (M.set n (.lst (Z++ys))):=by simp[Gg,onL,onT,onK,h,azh,U]
def Nv{Z:Type}{l:List Z}(h:l.Nodup){i:Nat}{x:Z}(U:l[i]?=some x)(h2:l[j]?=some x):i=j:=by have R:=(ak.mp U).1;exact(List.getElem?_inj R h).mp (U.trans h2.symm)
noncomputable def lk:Nat->List Sp->List (List Kx×D)
 |_,[]=>[]|b,p::S=>(ky p.1 p.2,.ref b)::lk (b+1) S
theorem ai6:∀(S:List Sp)(b:Nat)(p:Sp),lk b (S++[p])=lk b S++[(ky p.1 p.2,.ref (b+S.length))]
 |[],b,p=>rfl|q::S,b,p=>by simp[lk,ai6 S (b+1) p];lia
theorem arn:∀(S:List Sp)(b:Nat),(lk b S).length=S.length
 |[],_=>rfl|_::S,b=>by simp[lk,arn S (b+1)]
theorem aro:∀{S:List Sp}{b:Nat}{e:List Kx×D},e∈lk b S->∃p∈S,e.1=ky p.1 p.2
 |[],_,_,h=>by cases h
 |q::S,b,e,h=>by
  rcases bz.mp h with rfl|h
  .exact⟨q,cz,rfl⟩
  .obtain⟨p,Z,U⟩:=aro h
   exact⟨p,bf _ Z,U⟩
theorem abj:∀{S:List Sp}{b i:Nat}{p:Sp},S.Nodup->S[i]?=some p->wg (lk b S) (ky p.1 p.2)=some (.ref (b+i))
 |q::S,b,0,p,_,h=>by
  cases h;simp[lk,Tq]
 |q::S,b,i+1,p,Z,h=>by
  have h:S[i]?=some p:=h;have Z:=qp.mp Z;have U:ky q.1 q.2≠ky p.1 p.2:=λe=>Z.1 (Vj e▸au h)
  rw[lk,Tq,bw U,abj Z.2 h,show b+1+i=b+(i+1) by lia]
noncomputable def LkR(b:Nat)(S:List Sp)(A:Sp->Sp->Prop)(c:Nat)(M:cg):Prop:=∀(i:Nat)(p:Sp),S[i]?=some p->∃l:List Sp,M[b+i]?=some (.lst (l.map v5))/\l.length<=c/\∀q,q∈l↔A p q
def LkR.imp(h:LkR b S A c M)(k:∀p q,A p q↔B p q)(l:c<=d):LkR b S B d M:=λi p Z=>by obtain⟨l,R,h2,U⟩:=h i p Z;exact⟨l,R,by lia,λq=>(U q).trans (k p q)⟩
def LkR.half(h:LkR b S A c M)(nd:S.Nodup)(U:S[i]?=some p)(hc:c<1000)(q:Sp) :
 ∃l:List D,M[b+i]?=some (.lst l)/\l.length<100000/\LkR b S (λx y=>A x y\/(x=p/\y=q)) (c+1) (M.set (b+i) (.lst (l++[v5 q]))):=by
 obtain⟨l,R,g2,g3⟩:=h i p U;refine⟨_,R,by rw[du];lia,λj u Z=>?_⟩
 by_cases z:j=i
 .subst z
  rw[U] at Z;cases Z;exact⟨l++[q],by rw[p7 R];simp,by simp;lia,λx=>by rw[bx,g3,fu];simp⟩
 .obtain⟨l',g4,g5,g6⟩:=h j u Z
  refine⟨l',by rw[jm (by lia)];exact g4,by lia,λx=>?_⟩;have:u≠p:=λe=>z (Nv nd (e▸Z) U)
  rw[g6];simp[this]
section
variable{m:Nat}{M:cg}{sz:Nat->Nat}{K n r:Nat}{hs:List F}{kvs:List (List Kx×D)}{s:Y3}{a:List (List Nat)}
def arp(hm:1<=m)(w:Xu K hs s a)(hK:K<=3):prog.call m 24 [tu s a] M=.ok (.ref M.length) (M++[.lst ((Cr s K).map v5)]):=by
 rw[call_of hm rfl];obtain⟨qq,M',e,⟨R,b3,rfl⟩,rfl⟩:=Mj (W:=PW (m-1)) (s:=.con (Cj (s.map nD) 0)) (n:=K) (t:=.names [2,3]) (b:=Ss) (it:=.enm (.ix (.v 0) (.i 0))) (ρ:=[tu s a,D.ref M.length,none,none]) (M:=M++[.lst []]) (M1:=M++[.lst []]) (by simp[ai1,Bv]) (by simp[Src.len,Cj,w.ls])
  (λi ρ M'=>(∃R b3,ρ=[some (tu s a),some (.ref M.length),R,b3])/\M'=M++[.lst ((Cr s i).map v5)]) ⟨⟨none,none,rfl⟩,rfl⟩ (λ_ _ _=>rfl) (λi ρ M' hi hI=>by
   obtain⟨⟨R,b3,rfl⟩,rfl⟩:=hI;have Z:=w.s7 i;obtain⟨y,U⟩:=Fq (l:=s) (i:=i) (by rw[w.ls];exact hi);rw[Bw U] at Z;have c1:Sq.den (PW (m-1)) [some (tu s a),some (.ref M.length),some (.int i),some (.int y)] (M++[.lst ((Cr s i).map v5)])=.ok (.vl ((List.range y).map λx=>v5 (i,x))) (M++[.lst ((Cr s i).map v5)]):=by
    unfold Sq;rw[ai2 (g:=λx=>v5 (i,x)) (ai3 (n:=y) (by simp) (a_ Z (by decide))) (by simp;exact a_ Z (by decide)) (λx d hd=>by
     obtain⟨z,h1,rfl,_⟩:=arj hd;have:=(ak.mp h1);obtain⟨l1,l2⟩:=this;simp at l2;subst l2;exact⟨_,rfl,by simp[v5]⟩)]
    simp
   have g:=ai5 M (.lst ((Cr s i).map v5));have sl:=G7 w.s7 i;have ap:=arl (ys:=(List.range y).map λx=>v5 (i,x)) g (by simp;lia);rw[ai4,show(Cr s i).map v5++(List.range y).map (λx=>v5 (i,x))=(Cr s (i+1)).map v5 by rw[Rk,Bw U];simp] at ap;exact⟨.tup [.int i,.int y],[some (tu s a),some (.ref M.length),some (.int i),some (.int y)],by simp[Src.item,Cj,U,nD],rfl,_,_,by simp[Ss,agq g,c1];exact ap▸rfl,⟨some (.int i),some (.int y),rfl⟩,rfl⟩)
 have e:Yo.den (PW (m-1)) _ _=_:=e;simp[Fn.run,ahf,ahe,MW.new,e]
noncomputable abbrev EA(n:Nat)(w:D)(L:Nat)(b3 b4 b5 b6 b7:Option D):Env:=[some (.ref n),some w,some (.ref L),b3,b4,b5,b6,b7]
def alh(hm:2<=m)(w:Xu K hs s a)(hK:K<=3):∃Z,Jc.den (PW (m-1)) (EA n (tu s a) M.length none none none none none) (M++[.dT []])=.ok (.next,EA n (tu s a) M.length Z none none none none) (M++[.dT (lk (M.length+2) (Cr s K)),.lst ((Cr s K).map v5)]++List.replicate (Cr s K).length (.lst [])):=by
 have sl:=G7 w.s7 K;have e0:=arp (m:=m-1) (M:=M++[.dT []]) (r_ hm) w hK;have ln:(M++[MO.dT []]).length=M.length+1:=by simp
 rw[ln] at e0;obtain⟨qk,R,e,⟨Z,rfl⟩,rfl⟩:=Mj (W:=PW (m-1)) (s:=.live (M.length+1) (Cr s K).length) (n:=(Cr s K).length) (t:=.name 3) (b:=Jb) (it:=.val (.call 24 (.o (.v 1)))) (ρ:=EA n (tu s a) M.length none none none none none) (M:=M++[.dT []]) (M1:=M++[.dT []]++[.lst ((Cr s K).map v5)]) (by simp[e0,srcOf]) rfl
  (λi ρ R=>(∃Z,ρ=EA n (tu s a) M.length Z none none none none)/\R=M++[.dT (lk (M.length+2) ((Cr s K).take i)),.lst ((Cr s K).map v5)]++List.replicate i (.lst [])) ⟨⟨none,rfl⟩,by simp[lk]⟩ (λ_ R h=>by obtain⟨_,rfl⟩:=h;simp[Src.fin]) (λi ρ R hi hI=>by
   obtain⟨⟨Z,rfl⟩,rfl⟩:=hI;obtain⟨p,hp⟩:=Fq hi;generalize hS:Cr s K=S at *;have nd:S.Nodup:=hS▸abi s K;have new:∀q∈lk (M.length+2) (S.take i),q.1≠ky p.1 p.2:=λq hq e=>by
    obtain⟨u,h1,h2⟩:=aro hq;have:=Vj (h2.symm.trans e);subst this;obtain⟨j,U⟩:=mj.mp h1;rw[List.getElem?_take] at U;split at U
    .have:=Nv nd U hp
     lia
    .cases U
   have tl:(S.take i).length=i:=by rw[zg];lia
   have st:=afd (M:=M++[.dT (lk (M.length+2) (S.take i)),.lst (S.map v5)]++List.replicate i (.lst [])++[.lst []]) (kvs:=lk (M.length+2) (S.take i)) (n:=M.length) (d:=.ref (M.length+2+i)) (by simp) (Uq p) (by rw[arn,tl];lia);rw[Su new] at st;have qq:List.set (M++[MO.dT (lk (M.length+2) (S.take i)),MO.lst (S.map v5)]++List.replicate i (MO.lst [])++[MO.lst []]) M.length (MO.dT (lk (M.length+2) (S.take i)++[(ky p.1 p.2,D.ref (M.length+2+i))]))=M++[.dT (lk (M.length+2) (S.take (i+1))),.lst (S.map v5)]++List.replicate (i+1) (.lst []):=by rw[take_one hp,ai6,tl,List.replicate_succ'];simp
   rw[qq] at st;refine⟨v5 p,EA n (tu s a) M.length (some (v5 p)) none none none none,by simp[Src.item,hp],rfl,_,_,?_,⟨some (v5 p),rfl⟩,rfl⟩;simp[Jb,MW.new];have:M.length+(i+1+1)=M.length+2+i:=by lia
   rw[this];simp at st;rw[st]
   simp)
 rw[ye] at e;exact⟨Z,e⟩
end
def arq(E:List (Sp×Sp))(p q x y:Sp):Qj (E++[(p,q)]) x y↔(Qj E x y\/(x=p/\y=q))\/(x=q/\y=p):=by
 simp only[Qj,bx,fu,Prod.mk.injEq];constructor
 .rintro((h|h)|(h|h))
  .exact .inl (.inl (.inl h))
  .exact .inl (.inr h)
  .exact .inl (.inl (.inr h))
  .exact .inr ⟨h.2,h.1⟩
 .rintro((h|h)|h)
  .exact h.elim (λh=>.inl (.inl h)) λh=>.inr (.inl h)
  .exact .inl (.inr h)
  .exact .inr (.inr ⟨h.2,h.1⟩)
section
variable{m:Nat}{M:cg}{sz:Nat->Nat}{K n r b L:Nat}{hs:List F}{kvs:List (List Kx×D)}{s:Y3}{a:List (List Nat)}{E:List (Sp×Sp)}
def axi{W:Gh}{w':D}{p q:Sp}{S:List Sp}(U:S.Nodup)(hL:M[L]?=some (.dT (lk b S)))(qq:L<b)(h:LkR b S (Qj E) c M)(hc:c<900)(hp:p∈S)(hq:q∈S) :
 ∃M',Fz.den W (EA n w' L b3 b4 (some (v5 (p.1,q.1))) (some (.int p.2)) (some (.int q.2))) M=.ok (.next,EA n w' L b3 b4 (some (v5 (p.1,q.1))) (some (.int p.2)) (some (.int q.2))) M'/\LkR b S (Qj (E++[(p,q)])) (c+2) M'/\Je b M M':=by
 refine hG λ_ _k=>?_
 obtain⟨i,hi⟩:=mj.mp hp;obtain⟨j,hj⟩:=mj.mp hq;obtain⟨l,g1,g2,h1⟩:=h.half U hi (by lia) q;have Z:Je b M (M.set (b+i) (.lst (l++[v5 q]))):=Je.set x_;have R:=Z _ _ qq hL;obtain⟨l',g3,g4,h2⟩:=h1.half U hj (by lia) p;have x1:Aa (.ref L) (.tup [.int p.1,.int p.2]) M=some (.ref (b+i)):=(V1 hL (Uq p)).trans (abj U hi);have x2:Aa (.ref L) (.tup [.int q.1,.int q.2]) (M.set (b+i) (.lst (l++[v5 q])))=some (.ref (b+j)):=(V1 R (Uq q)).trans (abj U hj);have a1:Gg .append (.ref (b+i)) [.tup [.int q.1,.int q.2]] M=_:=Bu (d:=v5 q) g1 g2;have a2:Gg .append (.ref (b+j)) [.tup [.int p.1,.int p.2]] (M.set (b+i) (.lst (l++[v5 q])))=_:=Bu (d:=v5 p) g3 g4;apply _k;refine⟨_,?_,h2.imp (λx y=>(arq E p q x y).symm) (bc _),Z.trans (Je.set x_)⟩;simp[Fz,ayt,ayu,x1,Cu g1,a1,x2,Cu g3,a2]
def axj(w:Xu K hs s a)(Z:hs[j]?=some g):(a.getD j []).length<=7:=by
 refine hG λ_ _k=>?_
 obtain⟨js,U,R,_⟩:=w.get Z;apply _k;rw[Bw U,R];exact w.s7 _
def ars{W:Gh}{w':D}{S:List Sp}(hS:S=Cr s K)(P:Lr sz K hs kvs)(w:Xu K hs s a){j:Nat}(hj:hs[j]?=some g)(hL:M[L]?=some (.dT (lk b S)))(qk:L<b)(h:LkR b S (Qj (Zg hs a j)) c M)(hc:c<=800) :
 ∃R U M',O2.den W (EA n w' L b3 (some (Bv (a.getD j []))) (some (v5 (g.a,g.b))) b6 b7) M=.ok (.next,EA n w' L b3 (some (Bv (a.getD j []))) (some (v5 (g.a,g.b))) R U) M'/\LkR b S (Qj (Zg hs a (j+1))) (c+14) M'/\Je b M M':=by
 refine hG λ_ _k=>?_
 have a7:=axj w hj;have hg:hs.getD j ⟨0,0,[]⟩=g:=Bw hj;obtain⟨Z,ej,l1,l2⟩:=w.get hj;have qq:∀x,x<Z.length->(g.a,x)∈S/\(g.b,Z.getD x 0)∈S:=λx hx=>by
  have:=ago P w (n:=j+1) (e:=((g.a,x),(g.b,Z.getD x 0))) (ak.mp hj).1 (by
   rw[Xm,hg,Bw ej];exact gm _ (bh.mpr ⟨x,jx.mpr hx,rfl⟩))
  rw[hS];exact this
 have ge:=Bw (d:=[]) ej;apply _k;rw[ge] at a7 ⊢;refine hG λ_ _k=>?_
 obtain⟨q0,M',e,⟨R,U,rfl⟩,h1,lo⟩:=Mj (W:=W) (s:=.con (Cj (Z.map nD) 0)) (n:=Z.length) (t:=.names [6,7]) (b:=Fz) (it:=.enm (.v 4)) (ρ:=EA n w' L b3 (some (Bv Z)) (some (v5 (g.a,g.b))) b6 b7) (M:=M) (M1:=M) (by simp[Bv]) (by simp[Src.len,Cj])
  (λi ρ M'=>(∃b6 b7,ρ=EA n w' L b3 (some (Bv Z)) (some (v5 (g.a,g.b))) b6 b7)/\LkR b S (Qj (Zg hs a j++(List.range i).map λx=>((g.a,x),(g.b,Z.getD x 0)))) (c+2*i) M'/\Je b M M') ⟨⟨b6,b7,rfl⟩,by simpa using h,Je.refl _ _⟩ (λ_ _ _=>rfl) (λi ρ M' hi hI=>by
   refine hG λ_ _k=>?_
   obtain⟨⟨b6,b7,rfl⟩,h1,lo⟩:=hI;obtain⟨y,hy⟩:=Fq hi;obtain⟨p1,p2⟩:=qq i hi;rw[Bw hy] at p2;obtain⟨M2,e2,h2,qv⟩:=axi (W:=W) (n:=n) (w':=w') (b3:=b3) (b4:=some (Bv Z)) (p:=(g.a,i)) (q:=(g.b,y)) (hS▸abi s K) (lo _ _ qk hL) qk h1 (by lia) p1 p2;apply _k;refine⟨.tup [.int i,.int y],EA n w' L b3 (some (Bv Z)) (some (v5 (g.a,g.b))) (some (.int i)) (some (.int y)),by simp[Src.item,Cj,hy,nD],rfl,_,M2,e2,⟨_,_,rfl⟩,?_,lo.trans qv⟩;rw[qy,kj,<- j6,show c+2*(i+1)=c+2*i+2 by lia];simp only[gh,List.map_nil,Bw hy];exact h2)
 apply _k;refine⟨R,U,M',e,?_,lo⟩;rw[Xm,hg,ge];exact h1.imp (λ_ _=>Iff.rfl) (by lia)
def art(hm:2<=m)(P:Lr sz K hs kvs)(hM:Made n r K hs kvs M)(w:Xu K hs s a) :
 ∃M',prog.call m 27 [.ref n,tu s a] M=.ok (.ref M.length) M'/\M'[M.length]?=some (.dT (lk (M.length+2) (Cr s K)))/\LkR (M.length+2) (Cr s K) (Qj (eg hs a)) 70 M'/\Ay M M':=by
 rw[call_of (a_ (by decide) hm) rfl];refine hG λ_ _k=>?_
 obtain⟨Z,e0⟩:=alh (n:=n) (M:=M) hm w P.k3;have l5:=P.len;have k0:Ay M (M++[.dT (lk (M.length+2) (Cr s K)),.lst ((Cr s K).map v5)]++List.replicate (Cr s K).length (.lst [])):=λ_ _ h=>uf (uf h)
 have d0:(M++[.dT (lk (M.length+2) (Cr s K)),.lst ((Cr s K).map v5)]++List.replicate (Cr s K).length (MO.lst []))[M.length]?=some (.dT (lk (M.length+2) (Cr s K))):=by simp
 have r0:LkR (M.length+2) (Cr s K) (Qj (Zg hs a 0)) 0 (M++[.dT (lk (M.length+2) (Cr s K)),.lst ((Cr s K).map v5)]++List.replicate (Cr s K).length (.lst [])):=λi p hi=>⟨[],by
  have:=(ak.mp hi).1;rw[jq (by simp)];simp[this],bc _,λq=>by simp[Qj,Zg]⟩
 generalize hX:M++[.dT (lk (M.length+2) (Cr s K)),.lst ((Cr s K).map v5)]++List.replicate (Cr s K).length (MO.lst [])=M1 at e0 k0 d0 r0;have dd:=ak8 (m:=m-1) (r_ hm) (hM.keep k0);have mt:(Ex.meth (.v 0) 1 .z).den (PW (m-1)) (EA n (tu s a) M.length Z none none none none) M1=.ok (Gf hs) M1:=by have U:=(hM.keep k0).1;have cl:(prog.cls)[2]?=some ⟨0,[(0,1),(1,2),(2,3),(3,4),(4,5)]⟩:=rfl;simp[U,cl,List.lookup,dd]
 have it:(Lj.zip (.p (.ix (.v 1) (.i 1)) (.meth (.v 0) 1 .z))).den (PW (m-1)) (EA n (tu s a) M.length Z none none none none) M1=.ok (.con (Rx [a.map Bv,hs.map eD] hs.length)) M1:=by
  have U:(Ex.ix (.v 1) (.i 1)).den (PW (m-1)) (EA n (tu s a) M.length Z none none none none) M1=.ok (.tup (a.map Bv)) M1:=by simp[arh]
  have h2:(Cz.p (.ix (.v 1) (.i 1)) (.meth (.v 0) 1 .z)).den (PW (m-1)) (EA n (tu s a) M.length Z none none none none) M1=.ok [.tup (a.map Bv),Gf hs] M1:=by rw[Dm,U,Res.Am,Dm,mt];rfl
  rw[ag7,h2];simp[Gf,Pr,w.la]
 obtain⟨qk,M',e,⟨c4,c5,c6,c7,rfl⟩,U,R⟩:=Mj (W:=PW (m-1)) (n:=hs.length) (t:=.names [4,5]) (b:=Ja) (ρ:=EA n (tu s a) M.length Z none none none none) (M:=M1) (M1:=M1) it (by simp[Src.len,Rx])
  (λi ρ M'=>(∃b4 b5 b6 b7,ρ=EA n (tu s a) M.length Z b4 b5 b6 b7)/\LkR (M.length+2) (Cr s K) (Qj (Zg hs a i)) (14*i) M'/\Je (M.length+2) M1 M') ⟨⟨none,none,none,none,rfl⟩,r0,Je.refl _ _⟩ (λ_ _ _=>rfl) (λi ρ M' hi hI=>by
   refine hG λ_ _k=>?_
   obtain⟨⟨b4,b5,b6,b7,rfl⟩,U,R⟩:=hI;obtain⟨g,hg⟩:=Fq hi;obtain⟨js,ej,_⟩:=w.get hg;obtain⟨c6,c7,M2,e2,h2,qq⟩:=ars (W:=PW (m-1)) (n:=n) (w':=tu s a) (b3:=Z) (b6:=b6) (b7:=b7) rfl P w hg (R _ _ (by lia) d0) (by lia) U (by lia);rw[Bw ej] at e2;apply _k;refine⟨.tup [Bv js,v5 (g.a,g.b)],EA n (tu s a) M.length Z (some (Bv js)) (some (v5 (g.a,g.b))) b6 b7,?_,rfl,EA n (tu s a) M.length Z (some (Bv js)) (some (v5 (g.a,g.b))) c6 c7,M2,by simp[Ja,e2],⟨_,_,_,_,rfl⟩,h2,R.trans qq⟩;simp[Src.item,Rx,hi,ej];rw[(ak.mp hg).2];rfl)
 have e:O3.den (PW (m-1)) _ _=_:=e;have e0:Jc.den (PW (m-1)) [some (.ref n),some (tu s a),some (.ref M.length),none,none,none,none,none] (M++[.dT []])=_:=e0;apply _k;refine⟨M',by simp[Fn.run,T8,T7,MW.new,e0,e],R _ _ (by lia) d0,U.imp (λ_ _=>Iff.rfl) (by lia),λx o h=>R _ _ (by have:=rm h;lia) (k0 _ _ h)⟩
end
noncomputable def tk(f:List Sp):List (List Kx×D):=f.map λp=>(ky p.1 p.2,D.bl true)
def aru{f:List Sp}(h:e∈tk f):∃p∈f,e.1=ky p.1 p.2:=by obtain⟨p,Z,rfl⟩:=bh.mp h;exact⟨p,Z,rfl⟩
def a4j{f:List Sp}{p:Sp}(h:p∉f):Dw (tk f) (ky p.1 p.2) (.bl true)=tk (f++[p]):=by
 rw[Su λe Z z=>by
  obtain⟨q,U,R⟩:=aru Z;exact h (Vj (R.symm.trans z)▸U)]
 simp[tk]
theorem ai7:∀{f:List Sp}{p:Sp},(wg (tk f) (ky p.1 p.2)).isSome=decide (p∈f)
 |[],p=>rfl
 |q::f,p=>by
  show(wg ((ky q.1 q.2,D.bl true)::tk f) (ky p.1 p.2)).isSome=_;rw[Tq]
  by_cases h:q=p
  .subst h;simp
  .rw[bw λe=>h (Vj e),ai7]
   simp[ji h]
def ba8{f:List Sp}(h:∀p∈f,p.1<3/\p.2<8):Xw (tk f)=true:=by
 rw[Xw,jb];intro e Z;obtain⟨p,U,rfl⟩:=bh.mp Z;have:=h p U;simp[ky]
 lia
def ba9(h:M[n]?=some (.dF kvs))(Z:J6 b=some k):Aa (.ref n) b M=wg kvs k:=by simp[Aa,h,Z]
def ayv{f:List Sp}(h:M[n]?=some (.dT (tk f)))(p:Sp):J7 M (v5 p) (.ref n)=some (decide (p∈f)):=by rw[am8 h (Uq p),ai7]
theorem Hx:∀{f S:List Sp},f.Nodup->(∀p∈f,p∈S)->f.length<=S.length
 |[],_,_,_=>jr _
 |p::f,S,h,k=>by
  have U:=qp.mp h;have Z:=k p cz;have:=Hx (S:=S.erase p) U.2 λq R=>(Al (a:=q) (b:=p) λe=>U.1 (e▸R)).mpr (k q (bf _ R))
  rw[List.length_erase_of_mem Z] at this;have:=List.length_pos_of_mem Z
  simp;lia
section
variable{m:Nat}{M:cg}{L b F c:Nat}{S:List Sp}{E:List (Sp×Sp)}{st:Sp}
noncomputable abbrev EF(L:Nat)(st:D)(F:Nat)(b4 b5:Option D):Env:=[some (.ref L),some st,some (.ref F),some (.ref (F+1)),b4,b5]
structure Ln(E:List (Sp×Sp))(S:List Sp)(st:Sp)(f A:List Sp):Prop where
 nd:f.Nodup
 sub:∀p∈f,p∈S
 con:∀p∈f,Pj E st p
 hd:st∈f
 ah:∀p∈A,p∈f
structure Fn2(F:Nat)(M0:cg)(f A:List Sp)(M:cg):Prop where
 fd:M[F]?=some (.dT (tk f))
 ah:M[F+1]?=some (.lst (A.map v5))
 lo:Je F M0 M
def ali{W:Gh}{M0:cg}{l:List Sp}(hS:S.length<=21)(hl:M[q]?=some (.lst (l.map v5)))(hq:q<F)(hM:Fn2 F M0 f A M)(h:Ln E S st f A)(hA:A.length<=100)(hx:Aa (.ref L) (v5 p) M=some (.ref q))(hp:p∈f)(hn:∀x∈l,Qj E p x)(Oq:∀x y,Qj E x y->y∈S) :
 ∃qq g B R,V6.den W (EF L (v5 st) F (some (v5 p)) b5) M=.ok (.next,EF L (v5 st) F (some (v5 p)) qq) R/\Fn2 F M0 g B R/\Ln E S st g B/\(∀x∈f,x∈g)/\(∀x∈A,x∈B)/\(∀x∈g,x∈f\/x∈B)/\(∀x∈l,x∈g)/\f.length<=g.length/\B.length+f.length=A.length+g.length:=by
 obtain⟨qv,R,e,⟨qq,rfl⟩,g,B,U,g2,g3,g4,g5,g6,g7,g8⟩:=Mj (W:=W) (s:=.live q l.length) (n:=l.length) (t:=.name 5) (b:=Ke) (it:=.val (.ix (.v 0) (.v 4))) (ρ:=EF L (v5 st) F (some (v5 p)) b5) (M:=M) (M1:=M) (by simp[hx,srcOf,hl]) rfl
  (λi ρ R=>(∃b5,ρ=EF L (v5 st) F (some (v5 p)) b5)/\∃g B,Fn2 F M g B R/\Ln E S st g B/\(∀x∈f,x∈g)/\(∀x∈A,x∈B)/\(∀x∈g,x∈f\/x∈B)/\(∀x∈l.take i,x∈g)/\f.length<=g.length/\B.length+f.length=A.length+g.length)
  ⟨⟨b5,rfl⟩,f,A,⟨hM.fd,hM.ah,Je.refl _ _⟩,h,λ_ h=>h,λ_ h=>h,λ_ h=>.inl h,by simp,bc _,rfl⟩
  (λ_ R h=>by obtain⟨_,g,B,U,_⟩:=h;simp[Src.fin,U.lo _ _ hq hl]) (λi ρ R hi hI=>by
   obtain⟨⟨b5,rfl⟩,g,B,U,g2,g3,g4,g5,g6,g7,g8⟩:=hI;obtain⟨x,ex⟩:=Fq hi;have xm:=au ex;have qk:=U.lo _ _ hq hl;have ii:=ayv U.fd x;have it:(Src.live q l.length).item i R=some (v5 x):=by simp[Src.item,qk,ex]
   by_cases c:x∈g
   .refine⟨_,_,it,rfl,EF L (v5 st) F (some (v5 p)) (some (v5 x)),R,by simp[Ke,ii,c],⟨_,rfl⟩,g,B,U,g2,g3,g4,g5,λy Z=>?_,g7,g8⟩
    rw[take_one ex] at Z;rcases bx.mp Z with Z|Z
    .exact g6 y Z
    .rw[fu.mp Z];exact c
   .have gl:=Hx g2.nd g2.sub
    have sd:=afd (d:=.bl true) U.fd (Uq x) (by simp[tk];lia);rw[a4j c] at sd;have a1:(R.set F (.dT (tk (g++[x]))))[F+1]?=some (.lst (B.map v5)):=by rw[jm (by lia)];exact U.ah
    have ap:=Bu (d:=v5 x) a1 (by simp;lia);refine⟨_,_,it,rfl,EF L (v5 st) F (some (v5 p)) (some (v5 x)),(R.set F (.dT (tk (g++[x])))).set (F+1) (.lst (B.map v5++[v5 x])),by simp[Ke,ii,c,sd,Cu a1,ap],⟨_,rfl⟩,g++[x],B++[x],⟨?_,?_,?_⟩,⟨?_,?_,?_,?_,?_⟩,?_,?_,?_,?_,?_,?_⟩
    .rw[jm (by lia),p7 U.fd]
    .rw[p7 a1];simp
    .exact(U.lo.trans (Je.set (bc _))).trans (Je.set x_)
    .rw[m9]
     exact⟨g2.nd,by simp,λa ha b hb e=>c (by rw[<- fu.mp hb,<- e];exact ha)⟩
    .intro y Z
     rcases bx.mp Z with Z|Z
     .exact g2.sub y Z
     .rw[fu.mp Z];exact Oq _ _ (hn x xm)
    .intro y Z
     rcases bx.mp Z with Z|Z
     .exact g2.con y Z
     .rw[fu.mp Z];exact .on (h.con p hp) (hn x xm)
    .exact ig _ g2.hd
    .intro y Z
     rcases bx.mp Z with Z|Z
     .exact ig _ (g2.ah y Z)
     .exact gm _ Z
    .exact λy Z=>ig _ (g3 y Z)
    .exact λy Z=>ig _ (g4 y Z)
    .intro y Z
     rcases bx.mp Z with Z|Z
     .exact(g5 y Z).imp id λh=>ig _ h
     .exact .inr (gm _ Z)
    .intro y Z
     rw[take_one ex] at Z;rcases bx.mp Z with Z|Z
     .exact ig _ (g6 y Z)
     .exact gm _ Z
    .simp;lia
    .simp;lia)
 rw[ye] at g6;exact⟨qq,g,B,R,e,⟨U.fd,U.ah,hM.lo.trans U.lo⟩,g2,g3,g4,g5,g6,g7,g8⟩
def a4l(h:M[n]?=some (.lst Z)):Jj .pop (.ref n) M=true:=by simp[Jj,dm,h]
def arv(h:M[n]?=some (.lst (xs++[d]))):Gg .pop (.ref n) [] M=.ok d (M.set n (.lst xs)):=by simp[Gg,onL,onT,onK,h]
def alj(hm:1<=m)(nd:S.Nodup)(hS:S.length<=21)(hL:M[L]?=some (.dF (lk b S)))(hk:LkR b S (Qj E) c M)(Us:st∈S)(Oq:∀x y,Qj E x y->y∈S) :
 ∃f M',prog.call m 23 [.ref L,v5 st] M=.ok (.ref M.length) M'/\M'[M.length]?=some (.dT (tk f))/\f.Nodup/\(∀q,q∈f↔Pj E st q)/\Ay M M':=by
 rw[call_of hm rfl];have lL:=rm hL;obtain⟨qv,M',e,f,b4,b5,h1,h2,h3,h4⟩:=G8 (c:=(Ex.tru (.v 3)).den (PW (m-1))) (body:=Pz.den (PW (m-1)))
  (λk ρ M'=>∃f A b4 b5,ρ=EF L (v5 st) M.length b4 b5/\Fn2 M.length M f A M'/\Ln E S st f A/\(∀p∈f,p∉A->∀q,Qj E p q->q∈f)/\A.length<=f.length/\k=2*(S.length-f.length)+A.length)
  (fun ρ M'=>∃f b4 b5,ρ=EF L (v5 st) M.length b4 b5/\Fn2 M.length M f [] M'/\Ln E S st f []/\∀p∈f,∀q,Qj E p q->q∈f)
  (λk ρ M1 hI=>by
   obtain⟨f,A,b4,b5,rfl,U,Z,g3,g4,g5⟩:=hI;have al:dm M1 (.ref (M.length+1))=some (A.map v5):=by simp[dm,U.ah]
   rcases List.eq_nil_or_concat A with rfl|⟨B,p,rfl⟩
   .exact .inl ⟨M1,by simp[al],f,b4,b5,rfl,U,Z,λp hp=>g3 p hp (by simp)⟩
   .rw[List.concat_eq_append] at *
    have pf:=Z.ah p (by simp);obtain⟨i,hi⟩:=mj.mp (Z.sub p pf);obtain⟨l,l1,l2,l3⟩:=hk i p hi;have a1:=U.ah;rw[kj] at a1;have pp:=arv (xs:=B.map v5) (d:=v5 p) a1;have qq:Je M.length M1 (M1.set (M.length+1) (.lst (B.map v5))):=Je.set x_;have fl:=Hx Z.nd Z.sub;have hb:=rm l1;have x1:Aa (.ref L) (v5 p) (M1.set (M.length+1) (.lst (B.map v5)))=some (.ref (b+i)):=(ba9 (qq _ _ lL (U.lo _ _ lL hL)) (Uq p)).trans (abj nd hi);have bl:B.length<f.length:=by simp at g4;lia
    obtain⟨c5,g,C,M2,e2,f1,f2,f3,f4,f5,f6,f7,f8⟩:=ali (W:=PW (m-1)) (b5:=b5) (M:=M1.set (M.length+1) (.lst (B.map v5))) (F:=M.length) (M0:=M) (f:=f) (A:=B) (E:=E) (S:=S) (st:=st) (L:=L) (p:=p) hS (qq _ _ hb (U.lo _ _ hb l1)) hb
     ⟨by rw[jm (by lia)];exact U.fd,by rw[p7 U.ah],U.lo.trans qq⟩ ⟨Z.nd,Z.sub,Z.con,Z.hd,λx hx=>Z.ah x (ig _ hx)⟩ (by lia) x1 pf (λx hx=>(l3 x).mp hx) Oq
    have gl:=Hx f2.nd f2.sub;refine .inr ⟨M1,.next,EF L (v5 st) M.length (some (v5 p)) c5,M2,2*(S.length-g.length)+C.length,by simp[al],by simp[Pz,a4l U.ah,pp,e2],.inl rfl,by rw[g5];simp;lia,g,C,_,c5,rfl,f1,f2,λx hx qk q hq=>?_,by lia,rfl⟩;rcases f5 x hx with h|h
    .by_cases z:x=p
     .subst z;exact f6 q ((l3 q).mpr hq)
     .exact f3 q (g3 x h (λhm=>by
       rcases bx.mp hm with hm|hm
       .exact qk (f4 x hm)
       .exact z (fu.mp hm)) q hq)
    .exact absurd h qk)
  Vy (2*(S.length-1)+1) (EF L (v5 st) M.length none none) (M++[.dT (tk [st])]++[.lst [v5 st]]) (by unfold Vy;lia)
  ⟨[st],[st],none,none,rfl,⟨by simp,by simp,λa o ha h=>uf (uf h)⟩,⟨by simp,by simpa using Us,λp hp=>by rw[fu.mp hp];exact .here,by simp,λ_ h=>h⟩,λp hp hn=>absurd hp hn,bc _,by simp⟩
 have e:V7.den (PW (m-1)) (EF L (v5 st) M.length none none) (M++[.dT (tk [st])]++[.lst [v5 st]])=_:=e;subst h1;refine⟨f,M',?_,h2.fd,h3.nd,λq=>⟨h3.con q,λk=>k.in (R:=(·∈f)) h3.hd λx y hx hy=>h4 x hx y hy⟩,λx o h=>h2.lo _ _ (rm h) h⟩;have d1:(Ex.Zq (.v 1) (.cst (.bl true))).den (PW (m-1)) [some (.ref L),some (v5 st),none,none,none,none] M=.ok (.ref M.length) (M++[.dT (tk [st])]):=by simp[Uq,MW.new,tk]
 have ll:(Ex.lst (.o (.v 1))).den (PW (m-1)) [some (.ref L),some (v5 st),some (.ref M.length),none,none,none] (M++[.dT (tk [st])])=.ok (.ref (M.length+1)) (M++[.dT (tk [st])]++[.lst [v5 st]]):=by simp[MW.new]
 simp only[j6,List.singleton_append] at e ll;simp only[Fn.run,ab8,ab7];simp[d1,ll,e]
end
theorem ai8:∀(S:List Sp)(b:Nat),(lk b S).map (λp=>Vw p.1)=S.map v5
 |[],_=>rfl
 |p::S,b=>by
  show Vw (ky p.1 p.2)::_=v5 p::_;rw[ai8 S (b+1)];rfl
def a4m(h:M[n]?=some (.dT Z)):Jj .update (.ref n) M=true:=by simp[Jj,h]
def a4n{f g:List Sp}(h:M[n]?=some (.dT (tk g)))(k:M[j]?=some (.dT (tk f)))(hj:j≠n)(hd:∀p∈f,p∉g)(hf:∀p∈f,p.1<3/\p.2<8)(Z:g.length+f.length<100000) :
 Gg .update (.ref n) [.ref j] M=.ok .non (M.set n (.dT (tk (g++f)))):=by
 have U:(tk g).length+(tk f).length<100000:=by simpa[tk] using Z
 have al:((tk f).all λp=>(wg (tk g) p.1).isNone)=true:=by rw[jb];intro e he;obtain⟨p,R,h2⟩:=aru he;have:=ai7 (f:=g) (p:=p);rw[j8 (hd p R)] at this;rw[h2];simpa using this
 simp only[Gg,onT,h,am6,k];rw[cj ⟨hj,ba8 hf,U,al⟩];simp[tk]
section
variable{m:Nat}{M:cg}{L b c:Nat}{S:List Sp}{E:List (Sp×Sp)}
noncomputable abbrev EG(L G:Nat)(b3 b4:Option D):Env:=[some (.ref L),some (.ref G),some (.ref (G+1)),b3,b4]
noncomputable def Dcs(E:List (Sp×Sp))(G:Nat)(H:List Sp)(Z:Y3)(M:cg):Prop:=Z.length=H.length/\∀(j:Nat) c,H[j]?=some c->∃r f,Z[j]?=some r/\G<=r/\M[r]?=some (.dT (tk f))/\∀q,q∈f↔Pj E c q
noncomputable def But(p:Nat)(M Z:cg):Prop:=∀b o,b≠p->M[b]?=some o->Z[b]?=some o
def Dcs.keep(h:Dcs E G H rs M)(k:∀b o,G<=b->M[b]?=some o->M'[b]?=some o):Dcs E G H rs M':=⟨h.1,λj c R=>by
 refine hG λ_ _k=>?_
 obtain⟨r,f,U,Z,h3,h4⟩:=h.2 j c R;apply _k;exact⟨r,f,U,Z,k _ _ Z h3,h4⟩⟩
def Dcs.snoc(h:Dcs E G H rs M)(hr:G<=r)(R:M[r]?=some (.dT (tk f)))(h2:∀q,q∈f↔Pj E p q):Dcs E G (H++[p]) (rs++[r]) M:=⟨by simp[h.1],λj c Z=>by
 by_cases z:j<H.length
 .rw[dq z] at Z
  refine hG λ_ _k=>?_
  obtain⟨r,f,g1,g2⟩:=h.2 j c Z;apply _k;exact⟨r,f,by rw[dq (h.1▸z)];exact g1,g2⟩
 .have hz:=(ak.mp Z).1
  have U:j=H.length:=by simp at hz;lia
  subst U;simp at Z;subst Z;exact⟨r,f,by rw[<- h.1];simp,hr,R,h2⟩⟩
def agr(hm:2<=m)(nd:S.Nodup)(hS:S.length<=21)(qv:∀p∈S,p.1<3/\p.2<8)(hL:M[L]?=some (.dT (lk b S)))(q2:L<b)(hk:LkR b S (Qj E) c M)(Oq:∀x y,Qj E x y->y∈S) :
 ∃U M',prog.call m 22 [.ref L] M=.ok (.ref (M.length+1)) M'/\M'[M.length+1]?=some (.lst (U.map D.ref))/\Dcs E (M.length+2) (heads E S) U M'/\But L M M':=by
 rw[call_of (a_ (by decide) hm) rfl];refine hG λ_ _k=>?_
 have lL:=rm hL;have m1:1<=m-1:=r_ hm
 have it:(Lj.keys (.v 0)).den (PW (m-1)) (EG L M.length none none) (M++[.dT [],.lst []])=.ok (.con (S.map v5)) (List.set (M++[MO.dT [],MO.lst []]) L (.dF (lk b S))):=by have:(M++[.dT [],.lst []])[L]?=some (.dT (lk b S)):=uf hL;rw[ab3];simp[ab0,this,ai8]
 have q0:∀x y,Pj E x y->x∈S->y∈S:=λx y h hx=>h.in (R:=(·∈S)) hx λp q _ k=>Oq p q k
 obtain⟨q3,M',e,⟨b3,b4,rfl⟩,g,U,i1,i2,i3,i4,i5,i6,i7,i8,i9⟩:=Mj (W:=PW (m-1)) (n:=S.length) (t:=.name 3) (b:=Eb) (ρ:=EG L M.length none none) it (by simp[Src.len])
  (λi ρ M'=>(∃b3 b4,ρ=EG L M.length b3 b4)/\∃g U,M'[M.length]?=some (.dT (tk g))/\g.Nodup/\(∀q,q∈g↔∃c∈heads E (S.take i),Pj E c q)/\(∀q∈g,q∈S)/\M'[M.length+1]?=some (.lst (U.map D.ref))/\Dcs E (M.length+2) (heads E (S.take i)) U M'/\M'[L]?=some (.dF (lk b S))/\LkR b S (Qj E) c M'/\But L M M')
  ⟨⟨none,none,rfl⟩,[],[],by rw[jm (by lia)];simp[tk],v8,by simp[heads],by simp,by rw[jm (by lia)];simp,⟨rfl,by simp[heads]⟩,by rw[p7 (uf hL)],λi p hi=>by
   obtain⟨l,Z,h2⟩:=hk i p hi;exact⟨l,by rw[jm (by lia)];exact uf Z,h2⟩,λx o hx h=>by rw[jm (ji hx)];exact uf h⟩ (λ_ _ _=>rfl) (λi ρ M' hi hI=>by
   refine hG λ_ _k=>?_
   obtain⟨⟨b3,b4,rfl⟩,g,U,i1,i2,i3,i4,i5,i6,i7,i8,i9⟩:=hI;obtain⟨p,hp⟩:=Fq hi;have pS:=au hp;have ii:=ayv i1 p;have qq:=J0 (E:=E) [] (S.take i);have q1:(heads E (S.take i)).length<=21:=by
    have:(S.take i).length<=S.length:=by rw[zg];lia
    have qq:(heads E (S.take i)).length<=0+_:=qq
    lia
   have gl:=Hx i2 i4;have step:=Xl E (S.take i) p;rw[<- take_one hp] at step;have qk:(Src.con (S.map v5)).item i M'=some (v5 p):=by simp[Src.item,hp]
   apply _k
   by_cases c1:p∈g
   .have st:Iv E (heads E (S.take i)) p=heads E (S.take i):=by unfold Iv;rw[cj ((i3 p).mp c1)]
    rw[st] at step;exact⟨_,_,qk,rfl,EG L M.length (some (v5 p)) b4,M',by simp[Eb,ii,c1],⟨_,_,rfl⟩,g,U,i1,i2,by rw[step];exact i3,i4,i5,by rw[step];exact i6,i7,i8,i9⟩
   .have st:Iv E (heads E (S.take i)) p=heads E (S.take i)++[p]:=by unfold Iv;rw[bw λh=>c1 ((i3 p).mpr h)]
    rw[st] at step;refine hG λ_ _k=>?_
    obtain⟨f,M2,e2,f1,f2,f3,f4⟩:=alj (m:=m-1) m1 nd hS i7 i8 pS Oq;have fS:∀q∈f,q∈S:=λq hq=>q0 p q ((f3 q).mp hq) pS
    have fl:=Hx f2 fS;have dj:∀q∈f,q∉g:=λq hq hg=>by obtain⟨c,Z,h2⟩:=(i3 q).mp hg;exact c1 ((i3 p).mpr ⟨c,Z,h2.trans ((f3 q).mp hq).symm⟩)
    apply _k;have ML:M.length+2<=M'.length:=by have:=rm i5;lia
    have u1:=a4n (f4 _ _ i1) f1 (by lia) dj (λq hq=>qv q (fS q hq)) (by lia);have t1:(M2.set M.length (.dT (tk (g++f))))[M.length+1]?=some (.lst (U.map D.ref)):=by rw[jm (by lia)];exact f4 _ _ i5
    have a1:=Bu (d:=.ref M'.length) t1 (by rw[du,i6.1];lia);have kp:∀x o,x≠M.length->x≠M.length+1->M'[x]?=some o->((M2.set M.length (.dT (tk (g++f)))).set (M.length+1) (.lst (U.map D.ref++[.ref M'.length])))[x]?=some o:=λx o Z h2 h=>by rw[jm (ji h2),jm (ji Z)];exact f4 _ _ h
    refine⟨_,_,qk,rfl,EG L M.length (some (v5 p)) (some (.ref M'.length)),(M2.set M.length (.dT (tk (g++f)))).set (M.length+1) (.lst (U.map D.ref++[.ref M'.length])),by simp[Eb,ii,c1,e2,a4m (f4 _ _ i1),u1,Cu t1,a1],⟨_,_,rfl⟩,g++f,U++[M'.length],?_,?_,?_,?_,?_,?_,?_,?_,?_⟩
    .rw[jm (by lia),p7 (f4 _ _ i1)]
    .rw[m9]
     exact⟨i2,f2,λx hx y hy e=>dj y hy (e▸hx)⟩
    .intro q
     rw[step,bx,i3,f3];constructor
     .rintro(⟨c,Z,h2⟩|h)
      .exact⟨c,ig _ Z,h2⟩
      .exact⟨p,by simp,h⟩
     .rintro⟨c,Z,h2⟩
      rcases bx.mp Z with Z|Z
      .exact .inl ⟨c,Z,h2⟩
      .rw[fu.mp Z] at h2;exact .inr h2
    .intro q hq
     exact(bx.mp hq).elim (i4 q) (fS q)
    .rw[p7 t1];simp
    .rw[step]
     exact(i6.keep λx o hx h=>kp x o (by lia) (by lia) h).snoc ML (by rw[jm (by lia),jm (by lia)];exact f1) f3
    .exact kp _ _ (by lia) (by lia) i7
    .intro j u hj
     refine hG λ_ _k=>?_
     obtain⟨l,Z,h2⟩:=i8 j u hj;obtain⟨l0,h3,_⟩:=hk j u hj;have:=rm h3;apply _k;exact⟨l,kp _ _ (by lia) (by lia) Z,h2⟩
    .exact λx o hx h=>kp _ _ (by have:=rm h;lia) (by have:=rm h;lia) (i9 x o hx h))
 rw[ye] at i6;have e:Mw.den (PW (m-1)) _ _=_:=e;apply _k;refine⟨U,M',?_,i5,i6,i9⟩;simp[Fn.run,Qq,Qp,MW.new,e]
end
section
variable{m:Nat}{M:cg}{sz:Nat->Nat}{K n r:Nat}{hs:List F}{kvs:List (List Kx×D)}{s:Y3}{a:List (List Nat)}
noncomputable def pcs(hs:List F)(s:Y3)(a:List (List Nat))(K:Nat):List D:=(heads (eg hs a) (Cr s K)).map λc=>rD (Bs s (cf (eg hs a) c) K)
def Tv(R:3<=m)(P:Lr sz K hs kvs)(hM:Made n r K hs kvs M)(w:Xu K hs s a) :
 ∃q M',prog.call m 26 [.ref n,tu s a] M=.ok (.ref q) M'/\M'[q]?=some (.lst (pcs hs s a K))/\M.length<=q/\Ay M M':=by
 rw[call_of (a_ (by decide) R) rfl];refine hG λ_ _k=>?_
 have k3:=P.k3;obtain⟨M1,e1,d1,l1,k1⟩:=art (m:=m-1) (r_ (a_ (by decide) R)) P hM w;have hS:(Cr s K).length<=21:=a_ (G7 w.s7 K) (by lia)
 obtain⟨rs,M2,e2,t2,Z,b2⟩:=agr (m:=m-1) (r_ R) (abi s K) hS (λp hp=>by have:=Ky.mp hp;have:=w.s7 p.1;lia) d1 (by lia) l1 (λx y h=>(agp P w (bc _) h).2);have hl:=J0 (E:=eg hs a) [] (Cr s K);have hl:(heads (eg hs a) (Cr s K)).length<=21:=a_ hl (by simpa using hS)
 obtain⟨ys,U,e3,i1,i2⟩:=Fv (W:=PW (m-1)) (v:=false) (k:=1) (t:=.name 2) (it:=.call 22 (.o (.call 27 (.p (.v 0) (.v 1))))) (e:=.call 25 (.p (.v 1) (.v 2))) (ρ:=[some (.ref n),some (tu s a)]) (M:=M) (M1:=M2) (d:=.ref (M1.length+1)) (ds:=rs.map D.ref) (by simp[e1,e2]) (by simp[dm,t2]) (by rw[du,Z.1];lia)
  (λi xs M'=>xs=(pcs hs s a K).take i/\Ay M2 M') ⟨rfl,Ay.refl _⟩ (λi xs M' h=>h.2.dm (by simp[dm,t2])) (λi y xs M' hy hI=>by
   refine hG λ_ _k=>?_
   obtain⟨rfl,kp⟩:=hI;have hi:i<rs.length:=by simpa using(ak.mp hy).1
   obtain⟨c,hc⟩:=Fq (l:=heads (eg hs a) (Cr s K)) (i:=i) (Z.1▸hi);obtain⟨r',f,g1,g2,g3,g4⟩:=Z.2 i c hc;rw[iw,g1] at hy;cases hy;have pk:=axh (m:=m-1) (r_ (a_ (by decide) R)) w k3 (kp _ _ g3);have ff:(λk x=>(wg (tk f) (ky k x)).isSome)=cf (eg hs a) c:=by
    funext k x
    rw[show(wg (tk f) (ky k x)).isSome=decide ((k,x)∈f) from ai7 (p:=(k,x))];rw[Ba,decide_eq_true_iff,ark,g4]
   rw[ff] at pk;apply _k;exact⟨_,_,_,rfl,by simp[pk];exact⟨rfl,rfl⟩,by rw[take_one (x:=rD (Bs s (cf (eg hs a) c) K)) (by simp[pcs,hc])],kp.trans (Ay.app _ _)⟩)
 have e3:V8.den (PW (m-1)) [some (.ref n),some (tu s a)] M=_:=e3;rw[du,Z.1,zu (by simp[pcs])] at i1;subst i1;have k2:Ay M M2:=λx o h=>b2 x o (h_ (rm h)) (k1 x o h)
 have nw:Ay U (U++[.lst (pcs hs s a K)]):=Ay.app _ _;apply _k;refine⟨U.length,U++[.lst (pcs hs s a K)],by simp[Fn.run,aca,ab9,e3,MW.new],by simp,(k2.trans i2).len,(k2.trans i2).trans nw⟩
end
def bbb(M:cg)(x y:Sp):yq M (v5 x) (v5 y)=some (decide (x=y)):=by
 show Ot (Jf M 5) [.int x.1,.int x.2] [.int y.1,.int y.2]=_;rw[By (U7 4 x.1 y.1) (By (U7 4 x.2 y.2) (show Ot (Jf M 5) [] []=some true from rfl))]
 congr 1
 obtain⟨a,b⟩:=x;obtain⟨c,d⟩:=y;simp[Prod.mk.injEq,Int.ofNat_inj]
theorem arw(x:Sp):∀l:List Sp,(l.map λy=>decide (y=x)).any id=decide (x∈l)
 |[]=>by simp
 |y::l=>by
  rw[gh,Ax,arw x l]
  by_cases h:y=x
  .subst h;simp
  .simp[h,ji h]
def arx(M:cg)(x:Sp)(l:List Sp):memD M (v5 x) (l.map v5)=some (decide (x∈l)):=by
 have:Ly M (v5 x) (l.map v5)=some (l.map λy=>decide (y=x)):=by
  induction l with
  |nil=>rfl|cons y l Z=>simp[Ly,bbb,Z]
 rw[memD,this,vd,arw]
def bbc(M:cg)(x:Sp)(l:List Sp):J7 M (v5 x) (.vl (l.map v5))=some (decide (x∈l)):=by show(Bh M (.vl (l.map v5))).bind (memD M (v5 x))=_;rw[am5,qe,arx]
def ayx{l:List Sp}(h:M[q]?=some (.lst (l.map v5)))(x:Sp):J7 M (v5 x) (.ref q)=some (decide (x∈l)):=by rw[Np h,arx]
def axk{Z U:List D}(h:M[n]?=some (.lst Z))(k:M[j]?=some (.lst U))(hj:j≠n)(R:Z.length+U.length<100000):Gg .extend (.ref n) [.ref j] M=.ok .non (M.set n (.lst (Z++U))):=by simp[Gg,onL,onT,onK,h,dm,k,azh,hj,R]
noncomputable def Bes(E:List (Sp×Sp))(p q:Sp):Prop:=∃e∈E,(p=e.1\/p=e.2)/\(q=e.1\/q=e.2)
def arz(E:List (Sp×Sp))(e:Sp×Sp)(p q:Sp):Bes (E++[e]) p q↔Bes E p q\/((p=e.1\/p=e.2)/\(q=e.1\/q=e.2)):=by
 constructor
 .rintro⟨x,Z,h⟩
  rcases bx.mp Z with Z|Z
  .exact .inl ⟨x,Z,h⟩
  .rw[fu.mp Z] at h;exact .inr h
 .rintro(⟨x,Z,h⟩|h)
  .exact⟨x,ig _ Z,h⟩
  .exact⟨e,by simp,h⟩
section
variable{m:Nat}{M:cg}{sz:Nat->Nat}{K n r G:Nat}{hs:List F}{kvs:List (List Kx×D)}{s:Y3}{a:List (List Nat)}{E:List (Sp×Sp)}{p:Sp}
noncomputable abbrev EB(K r:Nat)(hs:List F)(s:Y3)(a:List (List Nat))(p:Sp)(G:Nat)(b4 b5 b6 b7 b8:Option D):Env:=[some (wk K r hs),some (tu s a),some (v5 p),some (.ref G),b4,b5,b6,b7,b8]
noncomputable def Bl(p:Sp)(G c:Nat)(E:List (Sp×Sp))(M:cg):Prop:=∃l:List Sp,M[G]?=some (.lst (l.map v5))/\l.length<=c/\∀q,q∈l↔Bes E p q
def axl{W:Gh}(w:Xu K hs s a)(hj:hs[j]?=some g)(ha:g.a<K)(h:Bl p G c (Zg hs a j) M)(hc:c<=900) :
 ∃R U M',Lf.den W (EB K r hs s a p G (some (.int j)) (some (.int g.a)) (some (.int g.b)) b7 b8) M=.ok (.next,EB K r hs s a p G (some (.int j)) (some (.int g.a)) (some (.int g.b)) R U) M'/\Bl p G (c+14) (Zg hs a (j+1)) M'/\Je G M M':=by
 refine hG λ_ _k=>?_
 obtain⟨Z,ej,l1,l2⟩:=w.get hj;have s7:=w.s7 g.a;have hg:hs.getD j ⟨0,0,[]⟩=g:=Bw hj;have i0:=ari (l:=s) (i:=g.a) (M:=M) (by rw[w.ls];exact ha);rw[<- l1] at i0 s7;obtain⟨qq,M',e,⟨R,U,rfl⟩,h1,lo⟩:=yo (W:=W) (t:=.name 7) (b:=Dj) (it:=.ix (.ix (.v 1) (.i 0)) (.v 5)) (n:=Z.length) (ρ:=EB K r hs s a p G (some (.int j)) (some (.int g.a)) (some (.int g.b)) b7 b8) (M:=M) (M1:=M) (by simp[ai1,i0]) (a_ s7 (by decide))
  (λi ρ M'=>(∃R U,ρ=EB K r hs s a p G (some (.int j)) (some (.int g.a)) (some (.int g.b)) R U)/\Bl p G (c+2*i) (Zg hs a j++(List.range i).map λx=>((g.a,x),(g.b,Z.getD x 0))) M'/\Je G M M') ⟨⟨b7,b8,rfl⟩,by simpa using h,Je.refl _ _⟩
  (λi ρ M' hi hI=>by
   refine hG λ_ _k=>?_
   obtain⟨⟨R,U,rfl⟩,⟨l,g1,g2,g3⟩,lo⟩:=hI;have t1:=ba6 (M:=M') ej;have t2:=ari (l:=Z) (i:=i) (M:=M') hi;have iv:J7 M' (v5 p) (.vl [.tup [.int g.a,.int i],.tup [.int g.b,.int (Z.getD i 0:Nat)]])=some (decide (p∈[(g.a,i),(g.b,Z.getD i 0)])):=bbc M' p [(g.a,i),(g.b,Z.getD i 0)];have e1:∀q,Bes (Zg hs a j++(List.range (i+1)).map λx=>((g.a,x),(g.b,Z.getD x 0))) p q↔Bes (Zg hs a j++(List.range i).map λx=>((g.a,x),(g.b,Z.getD x 0))) p q\/((p=(g.a,i)\/p=(g.b,Z.getD i 0))/\(q=(g.a,i)\/q=(g.b,Z.getD i 0))):=λq=>by rw[qy,kj,<- j6];exact arz _ ((g.a,i),(g.b,Z.getD i 0)) p q
   generalize Z.getD i 0=y at t2 iv e1;apply _k
   by_cases z:p∈[(g.a,i),(g.b,y)]
   .have ex:=arl (ys:=[.tup [.int g.a,.int i],.tup [.int g.b,.int (y:Nat)]]) g1 (by simp;lia)
    refine⟨_,.next,EB K r hs s a p G (some (.int j)) (some (.int g.a)) (some (.int g.b)) (some (.int i)) (some (.vl [.tup [.int g.a,.int i],.tup [.int g.b,.int (y:Nat)]])),M'.set G (.lst (l.map v5++[.tup [.int g.a,.int i],.tup [.int g.b,.int (y:Nat)]])),rfl,?_,.inl rfl,⟨_,_,rfl⟩,⟨l++[(g.a,i),(g.b,y)],?_,?_,?_⟩,lo.trans (Je.set (bc _))⟩
    .rw[zb z] at iv
     simp[-List.mem_cons,Dj,arh,t1,t2,iv,agq g1,ex]
    .rw[p7 g1];simp[v5]
    .simp;lia
    .intro q
     rw[e1,bx,g3];have z:p=(g.a,i)\/p=(g.b,y):=by simpa using z
     simp[z]
   .refine⟨_,.next,EB K r hs s a p G (some (.int j)) (some (.int g.a)) (some (.int g.b)) (some (.int i)) (some (.vl [.tup [.int g.a,.int i],.tup [.int g.b,.int (y:Nat)]])),M',rfl,?_,.inl rfl,⟨_,_,rfl⟩,⟨l,g1,by lia,?_⟩,lo⟩
    .rw[j8 z] at iv
     simp[-List.mem_cons,Dj,arh,t1,t2,iv]
    .intro q
     have z:¬(p=(g.a,i)\/p=(g.b,y)):=by simpa using z
     rw[e1,g3];simp[z])
 apply _k;refine⟨R,U,M',e,?_,lo⟩;refine hG λ_ _k=>?_
 obtain⟨l,g1,g2,g3⟩:=h1;apply _k;rw[Xm,hg,Bw ej];exact⟨l,g1,by lia,g3⟩
def ags(hm:1<=m)(P:Lr sz K hs kvs)(w:Xu K hs s a):∃(l:List Sp)(M':cg),prog.call m 30 [wk K r hs,tu s a,v5 p] M=.ok (.ref M.length) M'/\M'[M.length]?=some (.lst (l.map v5))/\l.length<=70/\(∀q,q∈l↔Bes (eg hs a) p q)/\Ay M M':=by
 rw[call_of hm rfl];refine hG λ_ _k=>?_
 have l5:=P.len;have ll:vz .len [Gf hs] (M++[.lst []])=.ok (.int (hs.length:Nat)) (M++[.lst []]):=by simp[Gf,ag8]
 obtain⟨qq,M',e,⟨c4,c5,c6,U,Z,rfl⟩,⟨l,g1,g2,g3⟩,lo⟩:=yo (W:=PW (m-1)) (t:=.name 4) (b:=Gv) (it:=.l (.ix (.v 0) (.i 1))) (n:=hs.length) (ρ:=EB K r hs s a p M.length none none none none none) (M:=M++[.lst []]) (M1:=M++[.lst []]) (by simp[Jz,ll]) (a_ l5 (by decide))
  (λi ρ M'=>(∃c4 c5 c6 U Z,ρ=EB K r hs s a p M.length c4 c5 c6 U Z)/\Bl p M.length (14*i) (Zg hs a i) M'/\Je M.length M M') ⟨⟨none,none,none,none,none,rfl⟩,⟨[],by simp,bc _,by simp[Bes,Zg]⟩,λ_ _ _ h=>uf h⟩
  (λi ρ M' hi hI=>by
   refine hG λ_ _k=>?_
   obtain⟨⟨c4,c5,c6,U,Z,rfl⟩,h1,lo⟩:=hI;obtain⟨g,hg⟩:=Fq hi;obtain⟨d7,d8,M2,e2,h2,R⟩:=axl (W:=PW (m-1)) (r:=r) (b7:=U) (b8:=Z) w hg (P.ace _ (au hg)) h1 (by lia);have i1:=Qz (M:=M') hg;apply _k;exact⟨_,.next,EB K r hs s a p M.length (some (.int i)) (some (.int g.a)) (some (.int g.b)) d7 d8,M2,rfl,by simp[Gv,Jz,i1,eD,e2],.inl rfl,⟨_,_,_,_,_,rfl⟩,h2,lo.trans R⟩)
 have e:Lg.den (PW (m-1)) _ _=_:=e;apply _k;exact⟨l,M',by simp[Fn.run,O7,O6,MW.new,e],g1,by lia,g3,λx o h=>lo _ _ (rm h) h⟩
end
section
variable{m:Nat}{M:cg}{sz:Nat->Nat}{K n r G:Nat}{hs:List F}{kvs:List (List Kx×D)}{s:Y3}{a:List (List Nat)}{st:Sp}
noncomputable abbrev EP(K r:Nat)(hs:List F)(s:Y3)(a:List (List Nat))(st:Sp)(G:Nat)(k:Nat)(b5:Option D):Env:=[some (wk K r hs),some (tu s a),some (v5 st),some (.ref G),some (.int k),b5]
def alk{E:List (Sp×Sp)}{S l f:List Sp}(hS:S.length<=21)(qv:(Lj.val (.call 30 (.q (.v 0) (.v 1) (.ix (.v 3) (.v 4))))).den (PW (m-1)) (EP K r hs s a st G k b5) M=.ok (.live q l.length) M1)(hl:M1[q]?=some (.lst (l.map v5)))(hq:q≠G)(hf:M1[G]?=some (.lst (f.map v5)))(nd:f.Nodup)(q0:∀x∈f,x∈S)(qk:∀x∈f,Pj E st x)(Vn:∀x∈l,x∈S/\Pj E st x) :
 ∃qq g M',Ni.den (PW (m-1)) (EP K r hs s a st G k b5) M=.ok (.next,EP K r hs s a st G k qq) M'/\M'[G]?=some (.lst ((f++g).map v5))/\(f++g).Nodup/\(∀x∈f++g,x∈S)/\(∀x∈f++g,Pj E st x)/\(∀x∈l,x∈f++g)/\But G M1 M':=by
 refine hG λ_ _k=>?_
 obtain⟨q1,M',e,⟨c5,rfl⟩,g,U,g2,g3,g4,g5,R⟩:=Mj (W:=PW (m-1)) (n:=l.length) (t:=.name 5) (b:=Ef) qv rfl
  (λi ρ M'=>(∃b5,ρ=EP K r hs s a st G k b5)/\∃g,M'[G]?=some (.lst ((f++g).map v5))/\(f++g).Nodup/\(∀x∈f++g,x∈S)/\(∀x∈f++g,Pj E st x)/\(∀x∈l.take i,x∈f++g)/\But G M1 M')
  ⟨⟨b5,rfl⟩,[],by simpa using hf,by simpa using nd,by simpa using q0,by simpa using qk,by simp,λ_ _ _ h=>h⟩ (λ_ M' h=>by obtain⟨_,g,_,_,_,_,_,R⟩:=h;simp[Src.fin,R _ _ hq hl]) (λi ρ M' hi hI=>by
   refine hG λ_ _k=>?_
   obtain⟨⟨b5,rfl⟩,g,U,g2,g3,g4,g5,R⟩:=hI;obtain⟨x,ex⟩:=Fq hi;have ii:=ayx U x;have it:(Src.live q l.length).item i M'=some (v5 x):=by simp[Src.item,R _ _ hq hl,ex]
   have hx:=Vn x (au ex);apply _k
   by_cases c:x∈f++g
   .rw[zb c] at ii
    refine⟨_,_,it,rfl,EP K r hs s a st G k (some (v5 x)),M',by simp[Ef,ii],⟨_,rfl⟩,g,U,g2,g3,g4,λy Z=>?_,R⟩;rw[take_one ex] at Z;rcases bx.mp Z with Z|Z
    .exact g5 y Z
    .rw[fu.mp Z];exact c
   .have gl:=Hx g2 g3
    rw[j8 c] at ii;have ap:=Bu (d:=v5 x) U (by simp at gl ⊢;lia);refine⟨_,_,it,rfl,EP K r hs s a st G k (some (v5 x)),M'.set G (.lst ((f++g).map v5++[v5 x])),by simp[-List.map_append,Ef,ii,Cu U,ap],⟨_,rfl⟩,g++[x],?_,?_,?_,?_,?_,?_⟩
    .rw[p7 U];simp
    .rw[<- j6,m9]
     exact⟨g2,by simp,λa ha b hb e=>c (by rw[<- fu.mp hb,<- e];exact ha)⟩
    .intro y Z
     rw[<- j6] at Z;rcases bx.mp Z with Z|Z
     .exact g3 y Z
     .rw[fu.mp Z];exact hx.1
    .intro y Z
     rw[<- j6] at Z;rcases bx.mp Z with Z|Z
     .exact g4 y Z
     .rw[fu.mp Z];exact hx.2
    .intro y Z
     rw[take_one ex] at Z;rw[<- j6];rcases bx.mp Z with Z|Z
     .exact ig _ (g5 y Z)
     .exact gm _ Z
    .exact λz o hz h=>by rw[jm (ji hz)];exact R z o hz h)
 rw[ye] at g5;apply _k;exact⟨c5,g,M',e,U,g2,g3,g4,g5,R⟩
def alm(hm:2<=m)(P:Lr sz K hs kvs)(w:Xu K hs s a)(Us:st∈Cr s K) :
 ∃(f:List Sp)(M':cg),prog.call m 31 [wk K r hs,tu s a,v5 st] M=.ok (.ref M.length) M'/\M'[M.length]?=some (.lst (f.map v5))/\f.Nodup/\(∀q,q∈f↔Pj (eg hs a) st q)/\Ay M M':=by
 rw[call_of (a_ (by decide) hm) rfl];refine hG λ_ _k=>?_
 have m1:1<=m-1:=r_ hm
 have hS:(Cr s K).length<=21:=a_ (G7 w.s7 K) (by have:=P.k3;lia)
 obtain⟨qq,M',e,f,k,b5,h1,h2,h3,h4,h5,h6,h7⟩:=G8 (c:=(Ex.cmp .lt (.v 4) (.l (.v 3))).den (PW (m-1))) (body:=Hq.den (PW (m-1)))
  (λj ρ M'=>∃(f:List Sp)(k:Nat)(b5:Option D),ρ=EP K r hs s a st M.length k b5/\M'[M.length]?=some (.lst (f.map v5))/\f.Nodup/\(∀x∈f,x∈Cr s K)/\(∀x∈f,Pj (eg hs a) st x)/\st∈f/\(∀(i:Nat) x,i<k->f[i]?=some x->∀q,Qj (eg hs a) x q->q∈f)/\k<=f.length/\j=(Cr s K).length-k/\Je M.length M M')
  (fun ρ M'=>∃(f:List Sp)(k:Nat)(b5:Option D),ρ=EP K r hs s a st M.length k b5/\M'[M.length]?=some (.lst (f.map v5))/\f.Nodup/\(∀x∈f,Pj (eg hs a) st x)/\st∈f/\(∀x∈f,∀q,Qj (eg hs a) x q->q∈f)/\Je M.length M M')
  (λj ρ M1 hI=>by
   refine hG λ_ _k=>?_
   obtain⟨f,k,b5,rfl,g1,g2,g3,g4,g5,g6,g7,g8,g9⟩:=hI;have ln:=len_list (d:=.ref M.length) (ds:=f.map v5) (M:=M1) (by simp[dm,g1]);rw[du] at ln;apply _k
   by_cases c:k<f.length
   .refine hG λ_ _k=>?_
    obtain⟨x,U⟩:=Fq c;have xm:=au U;have i1:Aa (.ref M.length) (.int k) M1=some (v5 x):=Cm (ds:=f.map v5) (by simp[dm,g1]) q_ (by simp[U]);obtain⟨l,M2,e2,l1,l2,l3,k2⟩:=ags (m:=m-1) (r:=r) (M:=M1) (p:=x) m1 P w;have hb:∀y,y∈l->y=x\/Qj (eg hs a) x y:=λy Z=>by
     refine hG λ_ _k=>?_
     obtain⟨e,he,h1,h2⟩:=(l3 y).mp Z;apply _k;rcases h1 with rfl|rfl<;>rcases h2 with rfl|rfl
     .exact .inl rfl
     .exact .inr (.inl he)
     .exact .inr (.inr he)
     .exact .inl rfl
    obtain⟨c5,g,M3,e3,f1,f2,f3,f4,f5,f6⟩:=alk (m:=m) (E:=eg hs a) (S:=Cr s K) (l:=l) (f:=f) (st:=st) (G:=M.length) (k:=k) (b5:=b5) (M:=M1) (M1:=M2) (q:=M1.length) (K:=K) (r:=r) (hs:=hs) (s:=s) (a:=a) hS (by simp[i1,e2,srcOf,l1]) l1 (by have:=rm g1;lia) (k2 _ _ g1) g2 g3 g4 (λy Z=>by
     rcases hb y Z with rfl|h
     .exact⟨g3 _ xm,g4 _ xm⟩
     .exact⟨(agp P w (bc _) h).2,.on (g4 _ xm) h⟩)
    have gl:=Hx g2 g3;apply _k;refine .inr ⟨M1,.next,EP K r hs s a st M.length (k+1) c5,M3,(Cr s K).length-(k+1),by simp[ln,c],by simp[Hq,e3],.inl rfl,by lia,f++g,k+1,c5,rfl,f1,f2,f3,f4,ig _ g5,λi y hi Z q hq=>?_,by simp;lia,rfl,λz o hz h=>f6 _ _ (h_ hz) (k2 _ _ (g9 _ _ hz h))⟩;rw[dq (by lia)] at Z
    by_cases z:i=k
    .subst z
     rw[U] at Z;cases Z;refine f5 q ((l3 q).mpr ?_);rcases hq with hq|hq
     .exact⟨_,hq,.inl rfl,.inr rfl⟩
     .exact⟨_,hq,.inr rfl,.inl rfl⟩
    .exact ig _ (g6 i y (by lia) Z q hq)
   .refine .inl ⟨M1,by simp[ln,c],f,k,b5,rfl,g1,g2,g4,g5,λx U q hq=>?_,g9⟩
    obtain⟨i,hi⟩:=mj.mp U;exact g6 i x (by have:=(ak.mp hi).1;lia) hi q hq)
  Vy (Cr s K).length (EP K r hs s a st M.length 0 none) (M++[.lst [v5 st]]) (by unfold Vy;lia)
  ⟨[st],0,none,rfl,by simp,by simp,by simpa using Us,λx U=>by rw[fu.mp U];exact .here,by simp,λi x hi=>absurd hi (u9 _),jr _,rfl,λ_ _ _ h=>uf h⟩
 have e:Nj.den (PW (m-1)) [some (wk K r hs),some (tu s a),some (v5 st),some (.ref M.length),some (.int 0),none] (M++[.lst [v5 st]])=_:=e;subst h1;apply _k;refine⟨f,M',by simp[Fn.run,Qv,Qu,MW.new,e],h2,h3,λq=>⟨h4 q,λk=>k.in (R:=(·∈f)) h5 λx y U Z=>h6 x U y Z⟩,λx o h=>h7 _ _ (rm h) h⟩
end
def Li{W:Gh}{ρ:Env}{M:cg}{ds:List D}{q:D->Bool}{g:D->D}(U:it.den W ρ M=.ok d M1)(hd:dm M1 d=some ds)(hl:ds.length<=100000)
 (h:∀x∈ds,∃Z,t.put x (ρ++List.replicate k none)=some Z/\c.den W Z M1=.ok (.bl (q x)) M1/\(q x=true->e.den W Z M1=.ok (g x) M1)) :
 (Ex.Ci true k t (.val it) c e).den W ρ M=.ok (.vl ((ds.filter q).map g)) M1:=by
 rw[Mh,Ih,U];obtain⟨s,h1,h2⟩:=Mg (body:=λd M=>(Res.uz (t.put d (ρ++List.replicate k none)) M).bind λR M=>(c.den W R M).bind λb M'=>match b with
  |.bl true=>(e.den W R M').bind λx qq=>.ok (some x) qq
  |.bl false=>.ok none M'|_=>.bad) (g:=λx=>if q x then some (g x) else none) hd hl (λx hx=>by
  obtain⟨Z,a,b,c⟩:=h x hx;rw[a,Res.Bt,Res.Am,b,Res.Am];cases e:q x with
  | true=>simp[c e]|false=>simp)
 simp only[Res.Am,h1,Res.Bt];have:ds.filterMap (λx=>if q x then some (g x) else none)=(ds.filter q).map g:=by
  clear h hl U hd h1 h2
  induction ds with
  |nil=>rfl|cons a l ih=>by_cases e:q a=true<;>simp[e,ih]
 rw[this] at h2;exact nq (λz:Res (List D)=>z.bind λds M2=>Res.ok (D.vl ds) M2) h2
noncomputable def axm(k:Nat)(d:D):Bool:=match d with|.tup [.int i,_]=>decide (i=(k:Int))|_=>false
noncomputable def bbd(d:D):D:=match d with|.tup [_,y]=>y|_=>.non
def aln{l:Y3}{f:Nat->Bool}(R:l.Nodup)(h:∀z,z∈l↔z<b/\f z=true)(hl:l.length<31):vz .sorted [.vl (l.map nD)] M=.ok (.vl ((fil b f).map nD)) M:=by
 have e:sortI (l.map λ(x:Nat)=>(x:Int))=(fil b f).map λ(x:Nat)=>(x:Int):=by
  refine ag9 (U8 _) ?_ ((Ce _).nodup_iff.mpr ?_) ?_ λy=>?_
  .exact ud.mpr ((Xk b f).imp λh=>by lia)
  .exact ud.mpr (R.imp λh e=>h (D_ e))
  .exact ud.mpr ((Xk b f).imp λh=>by lia)
  .rw[(Ce _).mem_iff,mem_cast,mem_cast]
   constructor
   .rintro⟨z,Z,U⟩;exact⟨z,Om.mpr ((h z).mp Z),U⟩
   .rintro⟨z,Z,U⟩;exact⟨z,(h z).mpr (Om.mp Z),U⟩
 show Res.uz (((dm M (.vl (l.map nD))).bind Vx).bind λis=>if is.length<31/\is.Nodup then some (D.vl ((sortI is).map D.int)) else none) M=_;rw[Ym,qe,abh,qe,cj ⟨by simpa using hl,ud.mpr (R.imp λh e=>h (D_ e))⟩,e,ai0];rfl
section
variable{m:Nat}{M:cg}{sz:Nat->Nat}{K n r G:Nat}{hs:List F}{kvs:List (List Kx×D)}{s:Y3}{a:List (List Nat)}{c:Sp}{f:List Sp}
noncomputable abbrev ED(K r:Nat)(hs:List F)(s:Y3)(a:List (List Nat))(G:Nat)(b4 b5 b6:Option D):Env:=[some (wk K r hs),some (tu s a),some (.ref G),some (.ref (G+1)),b4,b5,b6]
def ar0{W:Gh}(P:Lr sz K hs kvs)(w:Xu K hs s a)(hf:M[q]?=some (.lst (f.map v5)))(nd:f.Nodup)(hc:∀x,x∈f↔Pj (eg hs a) c x)(hS:∀x∈f,x∈Cr s K) :
 Kg.den W (ED K r hs s a G b4 b5 (some (.ref q))) M=.ok (.vl ((Bs s (cf (eg hs a) c) K).map Bv)) M:=by
 have k3:=P.k3;have fl:f.length<=21:=a_ (Hx nd hS) (a_ (G7 w.s7 K) (by lia))
 unfold Kg;rw[ai2 (g:=λk=>Bv (fil (s.getD k 0) (cf (eg hs a) c k))) (ai3 (n:=K) (by simp[Ri]) (a_ k3 (by decide))) (by simp;lia) (λk d hd=>by
  obtain⟨z,Z,rfl,_⟩:=arj hd;obtain⟨hk,rfl⟩:=ak.mp Z;simp only[List.length_range] at hk;rw[List.getElem_range];refine⟨_,rfl,?_⟩;have c1:Kf.den W ((ED K r hs s a G b4 b5 (some (.ref q))++List.replicate 1 none).set 7 (some (.int k))) M=.ok (.vl ((((f.filter λp=>decide (p.1=k)).map (·.2))).map nD)) M:=by
   unfold Kf;rw[Li (d:=.ref q) (ds:=f.map v5) (q:=axm k) (g:=bbd) (M1:=M) (by simp) (by simp[dm,hf]) (by simp;lia) (λx R=>by
    obtain⟨p,_,rfl⟩:=bh.mp R;refine⟨_,rfl,by simp[ayt,axm,v5],λ_=>by simp[ayu,bbd,v5]⟩)]
   congr 2
   rw[List.filter_map,zp,zp];have:(axm k ∘ v5)=λp:Sp=>decide (p.1=k):=by
    funext p
    simp[axm,v5,Int.ofNat_inj]
   rw[this];rfl
  have qq:((f.filter λp=>decide (p.1=k)).map (·.2)).Nodup:=by refine ud.mpr (List.Pairwise.imp_of_mem (fun{x y} R hy h e=>h ?_) (nd.filter _));have Z:=j0 (qm.mp R).2;have h2:=j0 (qm.mp hy).2;exact Prod.ext (Z.trans h2.symm) e
  have so:=aln (M:=M) (b:=s.getD k 0) (f:=cf (eg hs a) c k) qq (λz=>by
   rw[ark,<- hc];simp only[bh,qm,decide_eq_true_iff];constructor
   .rintro⟨p,⟨U,e1⟩,e2⟩
    have:p=(k,z):=Prod.ext e1 e2;rw[this] at U;exact⟨(Ky.mp (hS _ U)).2,U⟩
   .rintro⟨_,h⟩
    exact⟨(k,z),⟨h,rfl⟩,rfl⟩) (by
    have:=vq (λp:Sp=>decide (p.1=k)) f
    simp;lia)
  simp only[U6,Dm,Jk,c1,Res.Am,so,Qa];rfl)]
 simp[Bs,fil]
end
section
variable{m:Nat}{M M0:cg}{sz:Nat->Nat}{K n r G:Nat}{hs:List F}{kvs:List (List Kx×D)}{s:Y3}{a:List (List Nat)}{p:Sp}{T:List Sp}
noncomputable abbrev pcD(hs:List F)(s:Y3)(a:List (List Nat))(K:Nat)(c:Sp):D:=rD (Bs s (cf (eg hs a) c) K)
structure Du(hs:List F)(s:Y3)(a:List (List Nat))(K G:Nat)(M0:cg)(T:List Sp)(M:cg):Prop where
 fd:M[G]?=some (.lst ((heads (eg hs a) T).map (pcD hs s a K)))
 se:∃g:List Sp,M[G+1]?=some (.lst (g.map v5))/\g.Nodup/\(∀q∈g,q∈Cr s K)/\∀q,q∈g↔∃c∈heads (eg hs a) T,Pj (eg hs a) c q
 lo:Je G M0 M
def axn(hm:2<=m)(P:Lr sz K hs kvs)(w:Xu K hs s a)(hp:p∈Cr s K)(hT:T.length<=21)(h:Du hs s a K G M0 T M) :
 ∃qq M',Eg.den (PW m) (ED K r hs s a G (some (.int p.1)) (some (.int p.2)) b6) M=.ok (.next,ED K r hs s a G (some (.int p.1)) (some (.int p.2)) qq) M'/\Du hs s a K G M0 (T++[p]) M':=by
 refine hG λ_ _k=>?_
 obtain⟨g,g1,g2,g3,g4⟩:=h.se;have ii:J7 M (.tup [.int p.1,.int p.2]) (.ref (G+1))=some (decide (p∈g)):=ayx g1 p;have step:=Xl (eg hs a) T p;have qk:(Cr s K).length<=21:=a_ (G7 w.s7 K) (by have:=P.k3;lia)
 have hl:(heads (eg hs a) T).length<=0+T.length:=J0 (E:=eg hs a) [] T
 apply _k
 by_cases c:p∈g
 .have st:Iv (eg hs a) (heads (eg hs a) T) p=heads (eg hs a) T:=by unfold Iv;rw[cj ((g4 p).mp c)]
  rw[st] at step;rw[zb c] at ii;exact⟨b6,M,by simp[Eg,ii],⟨by rw[step];exact h.fd,⟨g,g1,g2,g3,by rw[step];exact g4⟩,h.lo⟩⟩
 .have st:Iv (eg hs a) (heads (eg hs a) T) p=heads (eg hs a) T++[p]:=by unfold Iv;rw[bw λh=>c ((g4 p).mpr h)]
  rw[st] at step;rw[j8 c] at ii;refine hG λ_ _k=>?_
  obtain⟨f,M2,e2,f1,f2,f3,k2⟩:=alm (m:=m) (r:=r) (M:=M) hm P w hp;have e2:prog.call m 31 [wk K r hs,tu s a,.tup [.int p.1,.int p.2]] M=_:=e2;have fS:∀x∈f,x∈Cr s K:=λx hx=>a4h P w ((f3 x).mp hx) hp
  have dj:∀q∈f,q∉g:=λq hq hg=>by obtain⟨c',Z,U⟩:=(g4 q).mp hg;exact c ((g4 p).mpr ⟨c',Z,U.trans ((f3 q).mp hq).symm⟩)
  have gl:=Hx g2 g3;have fl:=Hx f2 fS;have hG:=rm g1;have x1:=axk (k2 _ _ g1) f1 (by lia) (by simp;lia);have rd:=ar0 (W:=PW m) (r:=r) (G:=G) (b4:=some (.int p.1)) (b5:=some (.int p.2)) (q:=M.length) (M:=M2.set (G+1) (.lst (g.map v5++f.map v5))) P w (by rw[jm (by lia)];exact f1) f2 f3 fS;apply _k;have R:(M2.set (G+1) (.lst (g.map v5++f.map v5)))[G]?=some (.lst ((heads (eg hs a) T).map (pcD hs s a K))):=by rw[jm (by lia)];exact k2 _ _ h.fd
  have ap:=Bu (d:=pcD hs s a K p) R (by simp;lia);have tv:=Qa (M2.set (G+1) (.lst (g.map v5++f.map v5))) ((Bs s (cf (eg hs a) p) K).map Bv);have tv:vz .tuple [.vl ((Bs s (cf (eg hs a) p) K).map Bv)] (M2.set (G+1) (.lst (g.map v5++f.map v5)))=.ok (pcD hs s a K p) _:=tv;refine⟨some (.ref M.length),(M2.set (G+1) (.lst (g.map v5++f.map v5))).set G (.lst ((heads (eg hs a) T).map (pcD hs s a K)++[pcD hs s a K p])),?_,⟨?_,⟨g++f,?_,?_,?_,?_⟩,?_⟩⟩
  .simp[Eg,ii,e2,agq (k2 _ _ g1),x1,Cu R,rd,tv,ap]
  .rw[p7 R,step];simp
  .rw[jm (by lia),p7 (k2 _ _ g1)];simp
  .rw[m9]
   exact⟨g2,f2,λx hx y hy e=>dj y hy (e▸hx)⟩
  .exact λq hq=>(bx.mp hq).elim (g3 q) (fS q)
  .intro q
   rw[step,bx,g4,f3];constructor
   .rintro(⟨c,Z,U⟩|h)
    .exact⟨c,ig _ Z,U⟩
    .exact⟨p,by simp,h⟩
   .rintro⟨c,Z,U⟩
    rcases bx.mp Z with Z|Z
    .exact .inl ⟨c,Z,U⟩
    .rw[fu.mp Z] at U;exact .inr U
  .exact λx o hx hh=>by rw[jm (by lia),jm (by lia)];exact k2 _ _ (h.lo _ _ hx hh)
def a4p(hm:3<=m)(P:Lr sz K hs kvs)(w:Xu K hs s a):∃M',prog.call m 32 [wk K r hs,tu s a] M=.ok (.ref M.length) M'/\M'[M.length]?=some (.lst (pcs hs s a K))/\Ay M M':=by
 rw[call_of (a_ (by decide) hm) rfl];refine hG λ_ _k=>?_
 have m2:2<=m-1:=r_ hm
 have k3:=P.k3;obtain⟨qq,M',e,⟨b4,U,Z,rfl⟩,h⟩:=yo (W:=PW (m-1)) (t:=.name 4) (b:=Kh) (it:=.ix (.v 0) (.i 0)) (n:=K) (ρ:=ED K r hs s a M.length none none none) (M:=M++[.lst [],.lst []]) (M1:=M++[.lst [],.lst []]) (by simp[Ri]) (a_ k3 (by decide))
  (λi R M'=>(∃b4 U Z,R=ED K r hs s a M.length b4 U Z)/\Du hs s a K M.length M (Cr s i) M') ⟨⟨none,none,none,rfl⟩,⟨by simp[Cr,heads],⟨[],by simp,v8,by simp,by simp[Cr,heads]⟩,λ_ _ _ h=>uf h⟩⟩
  (λi R M1 hi hI=>by
   refine hG λ_ _k=>?_
   obtain⟨⟨b4,U,Z,rfl⟩,h1⟩:=hI;have i0:=ari (l:=s) (i:=i) (M:=M1) (by rw[w.ls];exact hi);have s7:=w.s7 i;have sl:=G7 w.s7 i;obtain⟨qk,M2,e2,⟨c5,c6,rfl⟩,h2⟩:=yo (W:=PW (m-1)) (t:=.name 5) (b:=Eg) (it:=.ix (.ix (.v 1) (.i 0)) (.v 4)) (n:=s.getD i 0) (ρ:=ED K r hs s a M.length (some (.int i)) U Z) (M:=M1) (M1:=M1) (by simp[ai1,i0]) (a_ s7 (by decide))
    (λx R M'=>(∃U Z,R=ED K r hs s a M.length (some (.int i)) U Z)/\Du hs s a K M.length M (Cr s i++(List.range x).map λx=>(i,x)) M') ⟨⟨U,Z,rfl⟩,by simpa using h1⟩
    (λx R M2 hx hI=>by
     refine hG λ_ _k=>?_
     obtain⟨⟨U,Z,rfl⟩,h2⟩:=hI;obtain⟨c6,M3,e3,h3⟩:=axn (m:=m-1) (r:=r) (b6:=Z) (p:=(i,x)) m2 P w (Ky.mpr ⟨hi,hx⟩) (by simp;lia) h2;apply _k;rw[j6,show(List.range x).map (λx=>(i,x))++[(i,x)]=(List.range (x+1)).map λx=>(i,x) by rw[qy];simp] at h3;exact⟨_,.next,_,M3,rfl,e3,.inl rfl,⟨_,c6,rfl⟩,h3⟩)
   have e2:Qw.den (PW (m-1)) _ _=_:=e2;rw[<- Rk] at h2;apply _k;exact⟨_,.next,ED K r hs s a M.length (some (.int i)) c5 c6,M2,rfl,by simp[Kh,e2],.inl rfl,⟨_,_,_,rfl⟩,h2⟩)
 have e:Qx.den (PW (m-1)) _ _=_:=e;apply _k;exact⟨M',by simp[Fn.run,Wa,V9,MW.new,e],h.fd,λx o hh=>h.lo _ _ (rm hh) hh⟩
end
theorem Rm{f:D->D->Option Bool}:∀{l:List D},(∀d∈l,f d d=some true)->Ot f l l=some true
 |[],_=>rfl|d::l,h=>by rw[By (h d cz) (Rm λx Z=>h x (bf _ Z))];rfl
def bbe(M:cg)(n:Nat)(r:List (List Nat)):Jf M (n+3) (rD r) (rD r)=some true :=
 Rm λd Z=>by
  refine hG λ_ _k=>?_
  obtain⟨l,_,rfl⟩:=bh.mp Z;apply _k;exact Rm λd Z=>by
   refine hG λ_ _k=>?_
   obtain⟨i,_,rfl⟩:=bh.mp Z;apply _k;show some (decide ((i:Int)=i))=_;simp
def ar3(U:M[i]?=some (.lst (pcs Z s a K)))(h2:M[j]?=some (.lst (pcs Z s a K))):yq M (.ref i) (.ref j)=some true:=by
 have a1:dm M (.ref i)=some (pcs Z s a K):=by simp[dm,U]
 have R:dm M (.ref j)=some (pcs Z s a K):=by simp[dm,h2]
 show(match dm M (.ref i),dm M (.ref j) with
  |some as,some bs=>if as.length=bs.length then Ot (Jf M 5) as bs else some false
  | _,_=>none)=_
 rw[a1,R];simp only[j5];exact Rm λd hd=>by
  refine hG λ_ _k=>?_
  obtain⟨c,_,rfl⟩:=bh.mp hd;apply _k;exact bbe M 2 _
section
variable{m:Nat}{M:cg}{sz:Nat->Nat}{K n r:Nat}{hs:List F}{kvs:List (List Kx×D)}
def a4q(P:Lr sz K hs kvs):Xu K hs (List.replicate K 0) (List.replicate hs.length []):=by
 refine⟨by simp,by simp,λx U=>?_,λj g Z R h2=>?_⟩
 .rw[List.eq_of_mem_replicate U];decide
 .obtain rfl:Z=[]:=List.eq_of_mem_replicate (au h2)
  have:=P.ace _ (au R);refine⟨?_,by simp⟩;simp[this]
def axo:pcs hs (List.replicate K 0) (List.replicate hs.length []) K=[]:=by
 have:Cr (List.replicate K 0) K=[]:=by rw[List.eq_nil_iff_forall_not_mem];intro p Z;have:=Ky.mp Z;simp[this.1] at this
 simp[pcs,this,heads]
noncomputable abbrev EL(sc:D)(k:Nat)(b2 b3 b4 b5 b6 b7:Option D):Env:=[some sc,some (.int k),b2,b3,b4,b5,b6,b7]
def ar4{ns:Xs}{k:Nat}(R:4<=m):∃z3 z4 zw q3 z1 q2 M',Va.den (PW m) (EL (.fz (ns.map D.int)) k b2 b3 b4 b5 b6 b7) M=.ok (.next,EL (.fz (ns.map D.int)) k z3 z4 zw q3 z1 q2) M':=by
 refine hG λ_ _k=>?_
 obtain⟨n0,f0,s0,o0⟩:=ani (m:=m) (k:=k) (ns:=ns) (M:=M) (a_ (by decide) R);have z2:Wb M.length f0 (M++[.lst [.int n0,.bl f0]]):=⟨n0,by simp,o0⟩;obtain⟨K,r,sz,hs,kvs,M1,e0,p0,lr,P,t0⟩:=afn (m:=m) (a_ (by decide) R) z2;have e0:prog.call m 17 [.ref M.length] (M++[.lst [.int n0,.bl f0]])=.ok (wk K r hs) M1:=e0;apply _k;have zz:r≠M.length:=by have:=lr;simp at this;lia
 refine hG λ_ _k=>?_
 have nn:(M1++[.ins 2 []])[M1.length]?=some (.ins 2 []):=by simp
 obtain⟨M2,a0,i0,md,la,lb,k0⟩:=at9 (M:=M1++[.ins 2 []]) (m:=m) (r:=r) (n:=M1.length) (a_ (by decide) R) P (uf p0) nn;have qv:Ay M1 M2:=λa o h=>k0 a o (by have:=rm h;exact h_ this) (uf h)
 have mk:(Ex.make 2 (.q (.ix (.v 3) (.i 0)) (.ix (.v 3) (.i 1)) (.ix (.v 3) (.i 2)))).den (PW m) (EL (.fz (ns.map D.int)) k (some (.ref M.length)) (some (wk K r hs)) b4 b5 b6 b7) M1=.ok (.ref M1.length) M2:=by have cl:(prog.cls)[2]?=some ⟨0,[(0,1),(1,2),(2,3),(3,4),(4,5)]⟩:=rfl;simp[Ri,Jz,ayq,cl,i0]
 apply _k;have q4:M.length<M1.length:=by obtain⟨k,h,o⟩:=t0.has;exact rm h
 have z5:Wb M.length f0 M2:=by obtain⟨k,h,o⟩:=t0.has;exact⟨k,qv _ _ h,o⟩
 have zk:a0≠M.length:=by have:=la;simp at this;lia
 refine hG λ_ _k=>?_
 obtain⟨s,a,M3,e3,w,s3⟩:=arf (m:=m) (r:=r) (a_ (by decide) R) P z5 (qv _ _ p0) zz;have zv:Made M1.length a0 K hs kvs M3:=⟨s3.keep _ _ (i_ q4) md.1,s3.keep _ _ zk md.2⟩;obtain⟨M4,e4,d4,k4⟩:=a4p (m:=m) (r:=r) (M:=M3) (a_ (by decide) R) P w;have U:=zv.keep k4;obtain⟨q,M5,e5,d5,l5,k5⟩:=Tv (m:=m) (a_ (by decide) R) P U w;apply _k;have q5:q≠M3.length:=by have:=rm d4;lia
 have q6:=ar3 d5 (k5 _ _ d4);have il:vz .isList [.ref q] M5=.ok (.bl true) M5:=by simp[vz,dm,d5]
 have q0:=U.keep k5;have hl:(pcs hs s a K).length<=21:=by
  rw[pcs,du];have h1:(heads (eg hs a) (Cr s K)).length<=0+_:=J0 (E:=eg hs a) [] (Cr s K)
  have h2:=G7 w.s7 K;have h3:=P.k3
  lia
 have ap:=Bu (d:=.tup [.tup []]) d5 (by lia);have Z:∀x o,x≠q->M5[x]?=some o->(M5.set q (.lst (pcs hs s a K++[.tup [.tup []]])))[x]?=some o:=λx o hx h=>by rw[jm (ji hx)];exact h
 refine hG λ_ _k=>?_
 have qq:∀x,x<M4.length->x≠q:=λx h=>by lia
 have qk:Made M1.length a0 K hs kvs (M5.set q (.lst (pcs hs s a K++[.tup [.tup []]]))):=⟨Z _ _ (qq _ (rm U.1)) q0.1,Z _ _ (qq _ (rm U.2)) q0.2⟩;generalize hM6:M5.set q (.lst (pcs hs s a K++[.tup [.tup []]]))=M6 at ap qk Z;have d6:=Z _ _ (qq _ (rm d4)) (k5 _ _ d4);obtain⟨q7,M7,e7,d7,l7,k7⟩:=Tv (m:=m) (a_ (by decide) R) P qk w;have z0:=ar3 d7 (k7 _ _ d6);obtain⟨q8,M8,e8,d8,l8,k8⟩:=Tv (m:=m) (a_ (by decide) R) P (qk.keep k7) (a4q P);rw[axo] at d8;have q1:yq M8 (.ref q8) (.vl [])=some true:=by
  have a1:dm M8 (.ref q8)=some []:=by simp[dm,d8]
  show(match dm M8 (.ref q8),dm M8 (.vl []) with
   |some as,some bs=>if as.length=bs.length then Ot (Jf M8 5) as bs else some false
   | _,_=>none)=_
  rw[a1];rfl
 have nw:(Ex.tup (.p (.bin .mul (.tup (.o (.i 0))) (.ix (.v 3) (.i 0))) (.bin .mul (.tup (.o (.tup .z))) (.l (.ix (.v 3) (.i 1)))))).den (PW m) (EL (.fz (ns.map D.int)) k (some (.ref M.length)) (some (wk K r hs)) (some (.ref M1.length)) (some (tu s a)) (some (.ref M3.length)) (some (.ref q))) M7=.ok (tu (List.replicate K 0) (List.replicate hs.length [])) M7:=by
  have h3:=P.k3;have h5:=P.len;have m1:Er .mul (.tup [.int 0]) (.int K) M7=.ok (.tup (List.replicate K (.int 0))) M7:=by show(if 0<=(K:Int)/\(K:Int)<=100000 then _ else _)=_;rw[cj (by lia)];rfl
  have ll:vz .len [Gf hs] M7=.ok (.int (hs.length:Nat)) M7:=by simp[Gf,ag8]
  have m2:Er .mul (.tup [.tup []]) (.int (hs.length:Nat)) M7=.ok (.tup (List.replicate hs.length (.tup []))) M7:=by show(if 0<=(hs.length:Int)/\(hs.length:Int)<=100000 then _ else _)=_;rw[cj (by lia)];rfl
  simp[Ri,Jz,m1,ll,m2,tu,nD]
 have tt:∀(ρ:Env)(M':cg),(Ex.tup (.o (.tup .z))).den (PW m) ρ M'=.ok (.tup [.tup []]) M':=fun ρ M'=>by simp
 apply _k;exact⟨some (.ref M.length),some (wk K r hs),some (.ref M1.length),some (tu s a),some (.ref M3.length),some (.ref q),M8,by simp[-ab1,-ag5,Va,s0,e0,mk,e3,e4,e5,il,q6,Cu d5,tt,ap,e7,z0,nw,e8,q1]⟩
def a4r{ns:Xs}(hm:5<=m):∃M',prog.call m 33 [.fz (ns.map D.int)] M=.ok (.bl true) M':=by
 rw[call_of (a_ (by decide) hm) rfl];refine hG λ_ _k=>?_
 obtain⟨qq,M',e,⟨b1,b2,R,b4,Z,b6,U,rfl⟩⟩:=yo (W:=PW (m-1)) (t:=.name 1) (b:=Va) (it:=.i 2) (n:=2) (ρ:=[D.fz (ns.map D.int),none,none,none,none,none,none,none]) (M:=M) (M1:=M) rfl (by decide)
  (λ_ ρ M'=>∃b1 b2 R b4 Z b6 U,ρ=[some (.fz (ns.map D.int)),b1,b2,R,b4,Z,b6,U]) ⟨none,none,none,none,none,none,none,rfl⟩
  (λi ρ M1 hi hI=>by
   refine hG λ_ _k=>?_
   obtain⟨b1,b2,R,b4,Z,b6,U,rfl⟩:=hI;obtain⟨c2,c3,c4,c5,c6,c7,M2,e2⟩:=ar4 (m:=m-1) (M:=M1) (ns:=ns) (k:=i) (b2:=b2) (b3:=R) (b4:=b4) (b5:=Z) (b6:=b6) (b7:=U) (r_ hm);apply _k;exact⟨_,.next,_,M2,rfl,e2,.inl rfl,_,_,_,_,_,_,_,rfl⟩)
 have e:ahg.den (PW (m-1)) _ _=_:=e;apply _k;exact⟨M',by simp[Fn.run,anf,ax3,e]⟩
end
open PySem L2
open PySem.W
set_option maxHeartbeats 0 in
def all_mk{l:OpenLaw}{K:Frag}{h:Heap}(X:K.In h)(G:h.Ns mainGlobals mg)(xw:mg "law" = some (.ref fa))
 (x3:nsIn K mainGlobals "Pattern" = some (some (.ref U)))
 (a0:findIn K (.ref U) "__init__" = some (some (.ref f0)))
 (i0:isFn K (.ref f0)=true)
 (l0:Ck.Lk K f0 "__init__" "Pattern.__init__" (inClass (top 11) 0) oc0 od0 kV0 dc0 pm0 an0 cd0 ct0 sl0)
 (a1:findIn K (.ref U) "kinds" = some (some (.ref f1)))
 (i1:isFn K (.ref f1)=true)
 (l1:Ck.Lk K f1 "kinds" "Pattern.kinds" (inClass (top 11) 1) oc1 od1 kV1 dc1 pm1 an1 cd1 ct1 sl1)
 (a2:findIn K (.ref U) "doings" = some (some (.ref f2)))
 (i2:isFn K (.ref f2)=true)
 (l2:Ck.Lk K f2 "doings" "Pattern.doings" (inClass (top 11) 2) oc2 od2 kV2 dc2 pm2 an2 cd2 ct2 sl2)
 (a3:findIn K (.ref U) "behind" = some (some (.ref R)))
 (i3:isFn K (.ref R)=true)
 (l3:Ck.Lk K R "behind" "Pattern.behind" (inClass (top 11) 3) oc3 od3 kV3 dc3 pm3 an3 cd3 ct3 sl3)
 (a4:findIn K (.ref U) "ways" = some (some (.ref f4)))
 (i4:isFn K (.ref f4)=true)
 (l4:Ck.Lk K f4 "ways" "Pattern.ways" (inClass (top 11) 4) oc4 od4 kV4 dc4 pm4 an4 cd4 ct4 sl4)
 (a5:findIn K (.ref U) "end" = some (some (.ref f5)))
 (i5:isFn K (.ref f5)=true)
 (l5:Ck.Lk K f5 "end" "Pattern.end" (inClass (top 11) 5) oc5 od5 kV5 dc5 pm5 an5 cd5 ct5 sl5)
 (a6:nsIn K mainGlobals "both_ways" = some (some (.ref f6)))
 (l6:Ck.Lk K f6 "both_ways" "both_ways" (top 12) oc6 od6 kV6 dc6 pm6 an6 cd6 ct6 sl6)
 (a7:nsIn K mainGlobals "meeting_pairs" = some (some (.ref f7)))
 (l7:Ck.Lk K f7 "meeting_pairs" "meeting_pairs" (top 13) oc7 od7 kV7 dc7 pm7 an7 cd7 ct7 sl7)
 (a8:nsIn K mainGlobals "is_way_between" = some (some (.ref f8)))
 (l8:Ck.Lk K f8 "is_way_between" "is_way_between" (top 14) oc8 od8 kV8 dc8 pm8 an8 cd8 ct8 sl8)
 (a9:nsIn K mainGlobals "check_doings" = some (some (.ref f9)))
 (l9:Ck.Lk K f9 "check_doings" "check_doings" (top 15) oc9 od9 kV9 dc9 pm9 an9 cd9 ct9 sl9)
 (u1:nsIn K mainGlobals "check_table" = some (some (.ref f10)))
 (x8:Ck.Lk K f10 "check_table" "check_table" (top 16) bn4 bn5 bn6 bn7 bn8 bn9 boa bob boc)
 (y4:nsIn K mainGlobals "check_threes" = some (some (.ref f11)))
 (j2:Ck.Lk K f11 "check_threes" "check_threes" (top 17) boe bof bog boh boi boj bon boo bop)
 (y2:nsIn K mainGlobals "_law_cell_at" = some (some (.ref f12)))
 (zk:Ck.Lk K f12 "_law_cell_at" "_law_cell_at" (top 26) bos bou bov bow boy boz bo0 bo1 bo2)
 (x5:nsIn K mainGlobals "_law_state" = some (some (.ref f13)))
 (l13:Ck.Lk K f13 "_law_state" "_law_state" (top 27) bo4 bo5 bo6 bo7 bo8 bo9 bpa bpb bpc)
 (jj:nsIn K mainGlobals "_law_take" = some (some (.ref f14)))
 (q0:Ck.Lk K f14 "_law_take" "_law_take" (top 28) bpe bpf bpg bph bpi bpj bpk bpl bpm)
 (yv:nsIn K mainGlobals "_law_begun" = some (some (.ref f15)))
 (u3:Ck.Lk K f15 "_law_begun" "_law_begun" (top 29) bpo bpp bpq bpr bps bpt bpu bpv bpw)
 (j3:nsIn K mainGlobals "_law_closed" = some (some (.ref f16)))
 (y0:Ck.Lk K f16 "_law_closed" "_law_closed" (top 30) bpy bpz bp0 bp1 bp2 bp3 bp4 bp5 bp6)
 (y1:nsIn K mainGlobals "_law_pattern" = some (some (.ref f17)))
 (qk:Ck.Lk K f17 "_law_pattern" "_law_pattern" (top 31) bp8 bp9 bqa bqb bqc bqd bqe bqf bqg)
 (yy:nsIn K mainGlobals "_law_ways" = some (some (.ref f18)))
 (q6:Ck.Lk K f18 "_law_ways" "_law_ways" (top 32) bqi bqj bqk bql bqm bqn bqo bqp bqq)
 (a19:nsIn K mainGlobals "_law_end" = some (some (.ref f19)))
 (q7:Ck.Lk K f19 "_law_end" "_law_end" (top 33) bqs bqt bqu bqv bqw bqx bqy bqz bq0)
 (xy:nsIn K mainGlobals "_law_behind" = some (some (.ref f20)))
 (y5:Ck.Lk K f20 "_law_behind" "_law_behind" (top 34) bq2 bq3 bq4 bq5 bq6 bq7 bq8 bq9 bra)
 (x1:nsIn K mainGlobals "_wall" = some (some (.ref f21)))
 (y6:Ck.Lk K f21 "_wall" "_wall" (top 0) brc brd bre brf brg brh bri brj brl)
 (u7:nsIn K mainGlobals "all_linked" = some (some (.ref f22)))
 (x2:Ck.Lk K f22 "all_linked" "all_linked" (top 2) brn bro brp brq brr brs brt bru brv)
 (xk:nsIn K mainGlobals "linked" = some (some (.ref f23)))
 (qv:Ck.Lk K f23 "linked" "linked" (top 3) brx bry brz br0 br1 br2 br3 br4 br5)
 (q2:nsIn K mainGlobals "spots" = some (some (.ref f24)))
 (x6:Ck.Lk K f24 "spots" "spots" (top 19) br7 br8 br9 bsa bsb bsc bsd bse bsf)
 (a25:nsIn K mainGlobals "as_part" = some (some (.ref f25)))
 (u6:Ck.Lk K f25 "as_part" "as_part" (top 21) bsh bsi bsj bsk bsl bsm bsn bso bsp)
 (zw:nsIn K mainGlobals "pieces" = some (some (.ref f26)))
 (y8:Ck.Lk K f26 "pieces" "pieces" (top 23) bsr bss bst bsu bsv bsw bsx bsy bs0)
 (q5:nsIn K mainGlobals "all_links" = some (some (.ref f27)))
 (l27:Ck.Lk K f27 "all_links" "all_links" (top 24) bs2 bs3 bs4 bs5 bs6 bs7 bs8 bs9 bta)
 (uj:nsIn K mainGlobals "_law_merged" = some (some (.ref f28)))
 (yk:Ck.Lk K f28 "_law_merged" "_law_merged" (top 35) btc btd bte btf btg bth bti btj btk)
 (a29:nsIn K mainGlobals "_law_world" = some (some (.ref f29)))
 (q3:Ck.Lk K f29 "_law_world" "_law_world" (top 36) btm btn bto btp btq btr bts btt btu)
 (a30:nsIn K mainGlobals "_law_beside" = some (some (.ref f30)))
 (x7:Ck.Lk K f30 "_law_beside" "_law_beside" (top 37) btw btx bty btz bt0 bt1 bt2 bt3 bt4)
 (u2:nsIn K mainGlobals "_law_piece" = some (some (.ref f31)))
 (q1:Ck.Lk K f31 "_law_piece" "_law_piece" (top 38) bt6 bt7 bt8 bt9 bua bub buc bud bue)
 (q8:nsIn K mainGlobals "_law_due" = some (some (.ref f32)))
 (l32:Ck.Lk K f32 "_law_due" "_law_due" (top 39) bui buj buk bul bum bun buo bup buq)
 (qq:nsIn K mainGlobals "law" = some (some (.ref f33)))
 (y7:Ck.Lk K f33 "law" "law" (top 40) buu buv bhe bhf bhg bhh bhi bhj buw)
 (xv:plainGet K U Str.empty=true)
 (q4:hasDictIn K U=true)
 (j1:plainOver K U=true)
 (x4:findIn K (.ref U) "__setattr__" = some (some (.builtin "object.__setattr__")))
 (zv:makesIn K U=true)
 (kc2:keepIn K (.ref U)=true)
 (uu:findIn K (.ref U) "together" = some none)
 (zz:findIn K (.ref U) "doing_ends" = some none)
 (jv:findIn K (.ref U) "kind_count" = some none)
 (v0:nsIn K mainGlobals "STAYING" = some (some (.int (-1) tk0)))
 (v1:nsIn K mainGlobals "MOST_KINDS" = some (some (.int (3) tk1)))
 (v2:nsIn K mainGlobals "MOST_DOINGS" = some (some (.int (5) tk2)))
 (z0:nsIn K mainGlobals "len" = some none)
 (z1:nsIn K mainGlobals "tuple" = some none)
 (z2:nsIn K mainGlobals "list" = some none)
 (z3:nsIn K mainGlobals "dict" = some none)
 (z4:nsIn K mainGlobals "max" = some none)
 (z5:nsIn K mainGlobals "min" = some none)
 (z6:nsIn K mainGlobals "isinstance" = some none)
 (z7:nsIn K mainGlobals "range" = some none)
 (z8:nsIn K mainGlobals "enumerate" = some none)
 (z9:nsIn K mainGlobals "set" = some none)
 (z10:nsIn K mainGlobals "zip" = some none)
 (y3:nsIn K mainGlobals "all" = some none)
 (y9:nsIn K mainGlobals "bool" = some none)
 (x9:nsIn K mainGlobals "int" = some none)
 (u4:nsIn K mainGlobals "sum" = some none)
 (uk:nsIn K mainGlobals "sorted" = some none)
 : ∃fd:FuncData,(∀(s:Shared)(v:Value),BindsTo s fd ⟨[v],[]⟩ [("script",v)])/\∀Z:Heap,K.In Z->Z.Ns mainGlobals mg->Fj l.prog w K mg Z CX0 170 fa fd ["script"] (Ck.aiu K):=by
 have e:=(gn X G qq).symm.trans xw;cases e;have aF:Ck.aa7 K Ds sts [f0,f1,f2,R,f4,f5,f6,f7,f8,f9,f10,f11,f12,f13,f14,f15,f16,f17,f18,f19,f20,f21,f22,f23,f24,f25,f26,f27,f28,f29,f30,f31,f32,fa] [_,_,_,_,_,_,_,_,_,_,_,_,_,_,_,_,_,_,_,_,_,_,_,_,_,_,_,_,_,_,_,_,_,_]:=(Ck.fE l0 (Ck.fE l1 (Ck.fE l2 (Ck.fE l3 (Ck.fE l4 (Ck.fE l5 (Ck.fE l6 (Ck.fE l7 (Ck.fE l8 (Ck.fE l9 (Ck.fE x8 (Ck.fE j2 (Ck.fE zk (Ck.fE l13 (Ck.fE q0 (Ck.fE u3 (Ck.fE y0 (Ck.fE qk (Ck.fE q6 (Ck.fE q7 (Ck.fE y5 (Ck.fE y6 (Ck.fE x2 (Ck.fE qv (Ck.fE x6 (Ck.fE u6 (Ck.fE y8 (Ck.fE l27 (Ck.fE yk (Ck.fE q3 (Ck.fE x7 (Ck.fE q1 (Ck.fE l32 (Ck.fE y7 Ck.fN))))))))))))))))))))))))))))))))));have aG:Ck.Tp mg tab.fns [f0,f1,f2,R,f4,f5,f6,f7,f8,f9,f10,f11,f12,f13,f14,f15,f16,f17,f18,f19,f20,f21,f22,f23,f24,f25,f26,f27,f28,f29,f30,f31,f32,fa]:=(Ck.gO (Ck.gO (Ck.gO (Ck.gO (Ck.gO (Ck.gO (Ck.gS (gn X G a6) (Ck.gS (gn X G a7) (Ck.gS (gn X G a8) (Ck.gS (gn X G a9) (Ck.gS (gn X G u1) (Ck.gS (gn X G y4) (Ck.gS (gn X G y2) (Ck.gS (gn X G x5) (Ck.gS (gn X G jj) (Ck.gS (gn X G yv) (Ck.gS (gn X G j3) (Ck.gS (gn X G y1) (Ck.gS (gn X G yy) (Ck.gS (gn X G a19) (Ck.gS (gn X G xy) (Ck.gS (gn X G x1) (Ck.gS (gn X G u7) (Ck.gS (gn X G xk) (Ck.gS (gn X G q2) (Ck.gS (gn X G a25) (Ck.gS (gn X G zw) (Ck.gS (gn X G q5) (Ck.gS (gn X G uj) (Ck.gS (gn X G a29) (Ck.gS (gn X G a30) (Ck.gS (gn X G u2) (Ck.gS (gn X G q8) (Ck.gS (gn X G qq) Ck.gN))))))))))))))))))))))))))))))))));have aC:Ck.Od K mg tab [f0,f1,f2,R,f4,f5,f6,f7,f8,f9,f10,f11,f12,f13,f14,f15,f16,f17,f18,f19,f20,f21,f22,f23,f24,f25,f26,f27,f28,f29,f30,f31,f32,fa] tab.cls [none,none,some U] prog.cls:=(Ck.cO (Ck.cO (Ck.cS ⟨gn X G x3,⟨xv,q4,j1,x4⟩,⟨_,rfl,⟨zv,a0,i0,kc2⟩⟩,(Ck.mC rfl rfl ⟨a1,i1,l1.2.2⟩ (Ck.mC rfl rfl ⟨a2,i2,l2.2.2⟩ (Ck.mC rfl rfl ⟨a3,i3,l3.2.2⟩ (Ck.mC rfl rfl ⟨a4,i4,l4.2.2⟩ (Ck.mC rfl rfl ⟨a5,i5,l5.2.2⟩ Ck.mN))))),(Ck.nC uu (Ck.nC zz (Ck.nC jv Ck.nN)))⟩ Ck.cN)));have aV:Ck.aa9 mg tab.awe:=(Ck.vC (gn X G v0) (Ck.vC (gn X G v1) (Ck.vC (gn X G v2) Ck.vN)));have aB:Ck.AllB mg Ck.Oa:=(Ck.bC (jt X G z0) (Ck.bC (jt X G z1) (Ck.bC (jt X G z2) (Ck.bC (jt X G z3) (Ck.bC (jt X G z4) (Ck.bC (jt X G z5) (Ck.bC (jt X G z6) (Ck.bC (jt X G z7) (Ck.bC (jt X G z8) (Ck.bC (jt X G z9) (Ck.bC (jt X G z10) (Ck.bC (jt X G y3) (Ck.bC (jt X G y9) (Ck.bC (jt X G x9) (Ck.bC (jt X G u4) (Ck.bC (jt X G uk) Ck.bN))))))))))))))));refine⟨fnOf "law" "law" (Ip (top 40)) (Ga (top 40)) (Bd (top 40)) .none bhe bhf bhg bhh bhi bhj,λs v=>.of_eq rfl,λZ _ _=>?_⟩;obtain⟨d,a,f,g1,g2,g3,g4,g5⟩:=Ck.a3w (P:=l.prog) (w:=w) (base:=Z) (n:=10) (i:=33) (F:=anf) bgv chk bgw bgx bgy aF aG aC aV aB rfl;cases g1;cases g2;cases g3;exact g5.imp λvs H Q E hh=>Ck.awy (λns hl=>a4r (by decide)) hh
end K14
open PySem PySem.W PyProof.Rows
namespace PySem.W.Fast
def tw4638397703900055982:=Nat
def tw2241969070559967038:=Nat
def tw7072470460729481061:=Nat
def tw15021040204722003027:=Nat
def tw7394595686493659154:=Nat
def tw8150897315956565964:=Nat
def tw14264139014815988123:=Nat
def tw9956466289819271020:=Nat
def tw16028320961037629563:=Nat
def tw14831344420877829978:=Nat
def tw12797710278799705025:=Nat
def tw1935349486156655678:=Nat
def tw15502408897361834923:=Nat
def tw3440564098200878366:=Nat
def tw4597499118163551436:=Nat
def tw13568647621429676879:=Nat
def tw12131965669360410580:=Nat
def tw135472240505235894:=Nat
def tw12414551745929040245:=Nat
def tw12156460171424060540:=Nat
def tw6743995412564892552:=Nat
def tw13948947264372256478:=Nat
def tw18305326129254855367:=Nat
def tw6647819679059490189:=Nat
def tw2680587792460815506:=Nat
def tw3192502995584544544:=Nat
def tw1865586310162946403:=Nat
def tw8241763585503558651:=Nat
def tw3608846612793016177:=Nat
def tw9241670483091108847:=Nat
def tw11029723736844684530:=Nat
def tw14745046301637073782:=Nat
def tw9561761021285360262:=Nat
def tw6555680016652700180:=Nat
def tw905581038732848537:=Nat
def tw17924153247615913285:=Nat
def tw2880025647429359472:=Nat
def tw15382059233708843522:=Nat
def tw890831076639308426:=Nat
def tw16359670962316261401:=Nat
def tw12353556077177738000:=Nat
def tw16102806216110850578:=Nat
def tw8708053233404178268:=Nat
def tw9350665880012743823:=Nat
def tw3338848707521297470:=Nat
def tw3111852923703510431:=Nat
def tw4244584954904425215:=Nat
def tw1042171631179313662:=Nat
def tw6732536688714761409:=Nat
def tw14913591148879836506:=Nat
def tw16429536070382119881:=Nat
def tw12247799247359299284:=Nat
def tw2436022743988977733:=Nat
def tw570934458336582031:=Nat
def tw8409833549876015683:=Nat
def tw13059975216856902476:=Nat
def tw15888279177051941045:=Nat
def tw2774135770180830010:=Nat
def tw16350448675848038385:=Nat
def tw8434804168189116916:=Nat
def tw1418264482211919613:=Nat
def tw17715446512535178568:=Nat
def tw3159721565182041061:=Nat
def tw16464373067646968714:=Nat
def tw15325521007520803660:=Nat
def tw2448142022054131880:=Nat
def tw448607545641895623:=Nat
def tw8500650267218910385:=Nat
def tw10743485385731282783:=Nat
def tw7502886115712660835:=Nat
def tw14917504617813298354:=Nat
def tw1338208088304087255:=Nat
def tw13236544363374988348:=Nat
def tw17389933854872653215:=Nat
def tw1156124743529370425:=Nat
def tw2043921131243945910:=Nat
def tw431341146388907045:=Nat
def tw7339865480578816617:=Nat
def tw1450866424825964942:=Nat
def tw11142312537601594467:=Nat
def tw13511925924626439473:=Nat
def tw16687718881531696097:=Nat
def tw13265044832924911766:=Nat
def tw12620870030039074155:=Nat
def tw8442319402886481071:=Nat
def tw9269551250372774279:=Nat
def tw6876254934983550706:=Nat
def tw6944742881062400059:=Nat
def tw12008830983204695408:=Nat
def tw5781418804784584258:=Nat
def tw6652979914653648002:=Nat
def tw15776934835197788603:=Nat
def tw9039528341791487085:=Nat
def tw3099876770503634397:=Nat
def tw14740399335883286953:=Nat
def tw2226240620036407319:=Nat
def tw18218084427135879490:=Nat
def tw4540496041277835099:=Nat
def tw3839954696922116523:=Nat
def tw4420737242708903803:=Nat
def tw16714091563236350983:=Nat
def tw5568334950294270202:=Nat
def tw7492649260038496813:=Nat
def tw3831919547325535044:=Nat
def tw17321972264374076379:=Nat
def tw7961351887243151948:=Nat
def tw955050590916318883:=Nat
def tw16104855841846734690:=Nat
def tw5530822578621561194:=Nat
def tw6582327491759675582:=Nat
def tw1307835420130568581:=Nat
def tw6002540686301474955:=Nat
def tw13816706539502361318:=Nat
def tw932531671639811439:=Nat
def tw2709199373474219582:=Nat
def tw12245053370387048764:=Nat
def tw4030596015217350941:=Nat
def tw12105747396155304355:=Nat
def tw6931072078753153520:=Nat
def tw3862036689992285300:=Nat
def tw5972672163214994787:=Nat
def tw2199784425636949552:=Nat
def tw14804152720172451081:=Nat
def tw16536951636065272385:=Nat
def tw13626147924304842608:=Nat
def tw6024782051739888945:=Nat
def tw5351094300576401987:=Nat
def tw17378909760361263427:=Nat
def tw18375631978800416032:=Nat
def tw4430536549098199354:=Nat
def tw7067509610172689458:=Nat
def tw10026450618345025327:=Nat
def tw11572320685132958441:=Nat
def tw9771349662791592943:=Nat
def tw8595255776816838534:=Nat
def tw14689778337689867792:=Nat
def tw9427664222904212028:=Nat
def tw8338433323620704612:=Nat
def tw3850806520545284873:=Nat
def tw4684347540405631501:=Nat
def tw10345865138167311185:=Nat
def tw18149308456986462586:=Nat
def tw17107514803968138311:=Nat
def tw3893489197154567969:=Nat
def tw12645279931507064633:=Nat
def tw12710174168459437905:=Nat
def tw13318264045661556608:=Nat
def tw14868432127277159570:=Nat
def tw9581030636489366854:=Nat
def tw10892233424670283859:=Nat
def tw8288883415077528598:=Nat
def tw2321041791534516625:=Nat
def tw6424369650682619958:=Nat
def tw3294806634813057374:=Nat
def tw1404358621625918217:=Nat
def tw12731616572360661905:=Nat
def tw16931044747261715889:=Nat
def tw10318856484494285464:=Nat
def tw16864800740906445254:=Nat
def tw7435540955166717766:=Nat
def tw17103691516952199459:=Nat
def tw5936572502030301742:=Nat
def tw1407920780629422443:=Nat
def tw13980275730881798181:=Nat
def tw11215483131995107883:=Nat
def tw843369558414681082:=Nat
def tw206648618629493814:=Nat
def tw14269923367390935982:=Nat
def tw16808030123331054884:=Nat
def tw1556754484004880358:=Nat
def tw12540828563914760726:=Nat
def tw14358551166680799962:=Nat
end PySem.W.Fast
set_option maxRecDepth 100000 in
set_option maxHeartbeats 0 in
theorem PySem.Challenge.cw_mapwright_k14_pieces_holds : PySem.Challenge.rw_mapwright_k14_pieces.Holds := by
 w_on;o_law;k_head;(case hw=>w_witness2)
 k_fill
 refine Ck.walk (l:=PySem.Challenge.rw_mapwright_k14_pieces) rfl rfl (λw h Y=>PySem.W.kIn_of Y) ?F
 case F =>
  intro w mg fa h KX G hmg;apply K14.all_mk KX G hmg<;>(try refine⟨?_,?_,?_⟩)<;>k_is
