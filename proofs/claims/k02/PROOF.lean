import PyProof.Rows.All
import Wide.All
import OpenK.AllK
import Wide.FinOn
import Lean
import PyProof.EqAt
import PyProof.EqKinds
import PyProof.TupleCall
import PyProof.StationsW
import OpenK.KOwn
import KE.KIsAll
import PyProof.ExcArgsOwn
import PyProof.ExcAttrAll.ValueError
import PyProof.RulesAs
import KE.KLam
import KE.KNestM
import PyProof.NsDelKeeps
import PyProof.Rows.ListMul
import PyProof.NeKinds
import PyProof.SetScanFacts
import PyProof.TupleKey
import PyProof.SetKind
import PyProof.IsRules
import PyProof.Rules
import PyProof.Rows.SetFrom
import PyProof.SetRoads
import KE.KDictOf
import PyProof.Rows.MinMaxN
import PyProof.ListRange
import PyProof.TupleOfGen
import PyProof.EnumMake
import KE.KSortTup
import KE.KDictSum
import PyProof.ExcBaseAll.ValueError
import PySem.Challenge.RW_mapwright_k02_patterns_refused
set_option Elab.async false
set_option linter.all false
set_option tactic.hygienic false
set_option genSizeOf false
set_option genInjectivity false
set_option maxRecDepth 100000
abbrev Zl:=List PySem.Value
abbrev Zp:=List (PySem.Addr×PySem.Obj)
abbrev Zs:=PySem.Str->Option PySem.Value
abbrev Y1:=PySem.Value->PySem.Shared->Prop
abbrev Y2:=List Nat
abbrev Y3:=List PySem.Expr
abbrev Ya:=List PySem.Str
abbrev Yf:=List (PySem.Str×PySem.NameKind)
abbrev X0:=List PySem.Addr
abbrev X1:=List Int
abbrev X9:=List (PySem.Str×PySem.Addr)
abbrev Xs:=Array PySem.Value
def jg:=@Array.getElem?_eq_some_iff
def j0:=@Array.getElem?_toList
def mq:=@Array.length_toList
def ao:=@Bool.and_eq_true
def yw:=@Bool.eq_false_iff
def dg:=@Bool.false_eq_true
def di:=@Bool.false_ne_true
def uv:=@Bool.not_eq_true'
def qw:=@Bool.not_false
def jo:=@Bool.not_true
def Ag:=@Bool.or_eq_true
def wg:=@Classical.byContradiction
def yo:=@Int.emod_lt_of_pos
def Ah:=@Int.emod_nonneg
def qy:=@Int.toNat_natCast
def ji:=@List.all_eq_true
def yq:=@List.any_cons
def yf:=@List.any_map
def n6:=@List.append_assoc
def jm:=@List.append_nil
def xq:=@List.eraseIdx_cons_succ
def zx:=@List.filterMap_cons
def uw:=@List.filter_cons_of_neg
def ux:=@List.filter_cons_of_pos
def n8:=@List.find?_cons
def Ai:=@List.foldl_cons
def o6:=@List.getD_eq_getElem?_getD
def jh:=@List.getElem?_append_left
def qz:=@List.getElem?_append_right
def gb:=@List.getElem?_eq_getElem
def qb:=@List.getElem?_eq_none
def aq:=@List.getElem?_eq_some_iff
def ir:=@List.getElem?_map
def zy:=@List.getElem?_range
def xu:=@List.getElem?_replicate
def uq:=@List.getElem?_set_ne
def yj:=@List.getElem?_set_self
def yz:=@List.getElem?_zipIdx
def vq:=@List.getElem_inj
def ud:=@List.getElem_mem
def xx:=@List.getElem_of_mem
def o7:=@List.isEmpty_iff
def o4:=@List.length_append
def gq:=@List.length_cons
def qp:=@List.length_eq_zero_iff
def dw:=@List.length_map
def v7:=@List.length_replicate
def o8:=@List.lookup_cons
def oh:=@List.map_append
def zz:=@List.map_congr_left
def du:=@List.map_cons
def tu:=@List.map_map
def fj:=@List.mem_append
def kh:=@List.mem_append_left
def fu:=@List.mem_append_right
def bx:=@List.mem_cons
def bc:=@List.mem_cons_of_mem
def bu:=@List.mem_cons_self
def uy:=@List.mem_filter
def jr:=@List.mem_iff_getElem?
def cu:=@List.mem_map
def cj:=@List.mem_of_getElem?
def lg:=@List.mem_range
def o5:=@List.mem_singleton
def wy:=@List.nodup_append
def rm:=@List.nodup_cons
def Aj:=@List.of_mem_zip
def yp:=@List.pairwise_cons
def fc:=@List.size_toArray
def zq:=@Nat.le_add_right
def zj:=@Nat.le_of_lt
def bh:=@Nat.le_refl
def t7:=@Nat.le_succ
def dq:=@Nat.le_trans
def je:=@Nat.lt_irrefl
def dm:=@Nat.lt_of_lt_of_le
def ph:=@Nat.lt_succ_of_lt
def ql:=@Nat.lt_succ_self
def yg:=@Nat.ne_of_gt
def gn:=@Nat.ne_of_lt
def t8:=@Nat.zero_add
def j4:=@Nat.zero_le
def j5:=@Ne.symm
def gm:=@Option.bind_eq_some_iff
def zr:=@Option.bind_some
def ig:=@Option.isSome_iff_exists
def cg:=@Option.map_eq_some_iff
def uz:=@Option.map_some
def gf:=@Option.some.inj
def lq:=@PyProof.Rows.callWith_type1
def vd:=@PyProof.Rows.ite_ff
def vf:=@PyProof.Rows.ite_tt
def wu:=@PyProof.Rows.slot_tuple_getitem
def mz:=@PySem.Around.under_plainId
def ug:=@PySem.Calls.spliced_cons
def qj:=@PySem.F.called_set
def yc:=@PySem.F.plain_list_iadd
def vg:=@PySem.F.slot_dict_keyiterator_next
def vh:=@PySem.F.slot_enumerate_next
def qx:=@PySem.F.slot_tuple_iterator_next
def vo:=@PySem.F.slot_tuple_mul
def u0:=@PySem.Heap.IsCell.keeps
def jd:=@PySem.Heap.SameBut.update
def ak:=@PySem.Heap.get?_push_of_some
def bw:=@PySem.Heap.get?_push_size
def ur:=@PySem.Heap.get?_update_other
def mj:=@PySem.Heap.get?_update_self
def au:=@PySem.Heap.lt_size
def kj:=@PySem.Heap.size_push
def vy:=@PySem.Obj.data_mapDictKeys
def qi:=@PySem.Obj.data_mapFields
def zc:=@PySem.W.looks_findIn
def Aa:=@PySem.W.looks_subIn
def km:=@PySem.W.mg_none_of
def gh:=@PySem.W.mg_of
def my:=@PySem.codeAny_builtin
def vz:=@PySem.codeAny_call_builtin
def m9:=@PySem.codeAny_mono
def yd:=@PySem.mem_of_lookup
def pq:=@PySem.sizeLine_eq
def qd:=@PySem.size_of_entries
def uh:=@PySem.tupleKind_room_in1
def jj:=@PySem.wpAny_Call_Name_kw
def aa:=@PySem.wpAny_bind
def m7:=@PySem.wpAny_callSpecial?_slot
def jx:=@PySem.wpAny_call_entry
def gw:=@PySem.wpAny_dictEntries
def qe:=@PySem.wpAny_dictEpoch
def jy:=@PySem.wpAny_field
def q9:=@PySem.wpAny_forIn_list
def jc:=@PySem.wpAny_holding
def nj:=@PySem.wpAny_isInstance
def uc:=@PySem.wpAny_ite_false
def qt:=@PySem.wpAny_loadPart_at
def ik:=@PySem.wpAny_mono
def jn:=@PySem.wpAny_newObj_type
def vm:=@PySem.wpAny_notOrdered_dict
def qg:=@PySem.wpAny_passesOwn
def aj:=@PySem.wpAny_pure
def um:=@PySem.wpAny_pyIter_tuple
def o9:=@PySem.wpAny_setEntries_of
def uo:=@PySem.wpAny_setField_rec
def m6:=@PySem.wpAny_setState_of
def iu:=@PySem.wpAny_truthy_bool
def u5:=@PySem.wpAny_typeNameOfWhole_keyiter
def uf:=@PySem.wpAny_typeOf
def rz:=@beq_eq_false_iff_ne
def v8:=@beq_iff_eq
def ye:=@beq_self_eq_true
def nq:=@congrArg
def dz:=@decide_eq_false
def jf:=@decide_eq_true
def bz:=@decide_eq_true_eq
def jk:=@if_false
def az:=@if_neg
def bf:=@if_pos
def j6:=@if_true
def j8:=@of_decide_eq_true
abbrev Fg:=PySem.W.Frag
def a_{a b c:Nat}(h:a<=b)(k:b<=c):a<=c:=dq h k
def b_{a b c:Nat}(h:a<b)(k:b<=c):a<c:=dm h k
def c_{a b c:Nat}(h:a<=b)(k:b<c):a<c:=Nat.lt_of_le_of_lt h k
def d_{a b c:Nat}(h:a<b)(k:b<c):a<c:=Nat.lt_trans h k
def e_{a b:Nat}(h:a<b):a<=b:=zj h
def f_{a b:Nat}(h:a=b):a<=b:=Nat.le_of_eq h
def g_{a b:Nat}(h:a=b):b<=a:=Nat.le_of_eq h.symm
def h_{a b:Nat}(h:a<b):a≠b:=gn h
def i_{a b:Nat}(h:b<a):a≠b:=yg h
def j_{a b:Nat}(h:b<=a):¬a<b:=Nat.not_lt_of_le h
def l_{p:Prop}{a b:Nat}(h:a<b)(k:b<=a):p:=absurd h (Nat.not_lt_of_le k)
def m_{a b:Nat}(h:a<b):(a:Int)<(b:Int):=Int.ofNat_lt.mpr h
def o_{a b:Nat}(h:(a:Int)<(b:Int)):a<b:=Int.ofNat_lt.mp h
def q_{a:Nat}:(0:Int)<=(a:Int):=Int.natCast_nonneg a
def r_{a b c:Nat}(h:a+c<=b):a<=b-c:=Nat.le_sub_of_add_le h
def s_{a b:Nat}(h:¬a<b):b<=a:=Nat.le_of_not_lt h
def t_{a b:Nat}(h:¬a<=b):b<a:=Nat.lt_of_not_le h
def u_{a b:Nat}(h:a<=b)(k:b<=a):a=b:=Nat.le_antisymm h k
def v_{a b c:Nat}(h:a<=b):a+c<=b+c:=Nat.add_le_add_right h c
def w_{a b c:Nat}(h:a<=b):c+a<=c+b:=Nat.add_le_add_left h c
def x_{a b:Nat}:a<=a+b:=zq a b
def z_{a b:Nat}(h:a<b+1):a<=b:=Nat.le_of_lt_succ h
def A_{a b:Nat}(h:a<=b):a<b+1:=Nat.lt_succ_of_le h
def C_{a b:Nat}:a-b<=a:=Nat.sub_le a b
def D_{a b:Nat}(h:(a:Int)=(b:Int)):a=b:=Int.ofNat_inj.mp h
def hG{P:Prop}(h:∀G:Prop,(P->G)->G):P:=h P id
noncomputable section
namespace Vb
open PySem SetTable
def Srt(Z:Array Nat):Prop:=∀(i j a b:Nat),Z[i]?=some a->Z[j]?=some b->i<j->a<b
def anc(hs:Srt L):∀(Z G hi:Nat),G<=hi->hi<=L.size->hi-G<=Z ->
 (∀(i a:Nat),L[i]?=some a->i<G->a<j)->(∀(i a:Nat),L[i]?=some a->hi<=i->j<=a) ->
 below.go L j Z G hi<=L.size/\(∀(i a:Nat),L[i]?=some a->i<below.go L j Z G hi->a<j)/\(∀(i a:Nat),L[i]?=some a->below.go L j Z G hi<=i->j<=a):=by
 intro Z
 induction Z with
 |zero =>
  intro G hi h1 h2 h3 h4 h5;unfold below.go;have:G=hi:=by lia
  subst this;exact⟨h2,h4,h5⟩
 |succ Z ih =>
  intro G hi h1 h2 h3 h4 h5;unfold below.go
  by_cases Jf:G<hi
  .simp only[bf Jf]
   have hm:(G+hi) / 2<L.size:=by lia
   have hg:L[(G+hi) / 2]?=some L[(G+hi) / 2]:=by simp[hm]
   have qq:L.getD ((G+hi) / 2) j=L[(G+hi) / 2]:=by simp[Array.getD,hm]
   rw[qq]
   by_cases hc:L[(G+hi) / 2]<j
   .rw[bf hc]
    refine ih _ _ (by lia) h2 (by omega) (λi a e l=>?_) h5
    by_cases R:i=(G+hi) / 2
    .subst R;rw[hg] at e;cases e;exact hc
    .exact Nat.lt_trans (hs _ _ _ _ e hg (by lia)) hc
   .rw[az hc]
    refine ih _ _ (by lia) (e_ hm) (by omega) h4 (λi a e l=>?_)
    by_cases R:i=(G+hi) / 2
    .subst R;rw[hg] at e;cases e;exact s_ hc
    .have:=hs _ _ _ _ hg e (by lia);exact e_ (c_ (s_ hc) this)
  .rw[az Jf]
   have:G=hi:=u_ h1 (s_ Jf);subst this;exact⟨h2,h4,h5⟩
def Hw(G:Srt Z):below Z j<=Z.size/\(∀(i a:Nat),Z[i]?=some a->i<below Z j->a<j)/\(∀(i a:Nat),Z[i]?=some a->below Z j<=i->j<=a) :=
 anc G _ _ _ (j4 _) (bh _) C_ (λi a _ h=>absurd h (Nat.not_lt_zero _)) (λi a e h=>by
  have:=(jg.mp e).1;lia)
def below_at(L:Srt Z)(h:Z[i]?=some j):below Z j=i:=by
 obtain⟨h1,R,h3⟩:=Hw (j:=j) L;rcases Nat.lt_trichotomy (below Z j) i with l|l|l
 .have li:=(jg.mp h).1
  have G:Z[below Z j]?=some Z[below Z j]:=by simp
  have a:=h3 _ _ G (bh _);have b:=L _ _ _ _ G h l
  lia
 .exact l
 .have:=R _ _ h l;lia
def Vc(j:Nat):has #[] j=false:=by simp[has]
set_option tactic.hygienic true in
def Oj{t:SetTable}(Z:Srt t.place):t.slot j=.live i↔t.place[i]?=some j:=by
 unfold slot;constructor
 .intro h
  dsimp only at h;split at h
  .rename_i e;cases h;simpa using e
  .split at h<;>cases h
 .intro h
  dsimp only;rw[below_at Z h,h];simp
def aa4{t:SetTable}(G:Srt t.place)(Z:t.dummies=#[]):t.slot j=.empty↔∀i:Nat,t.place[i]?≠some j:=by
 constructor
 .intro h i e
  rw[(Oj G).mpr e] at h;cases h
 .intro h
  unfold slot;dsimp only;rw[Z,Vc,az (by simpa using h _)];rfl
def Rc(G:Array α)(p:Nat)(x:α)(hp:p<=G.size)(i:Nat):(insertAt G p x)[i]?=if i<p then G[i]? else if i=p then some x else G[i-1]?:=by
 rw[<- j0,toList_insertAt];have L:(G.toList.take p).length=p:=by simp;lia
 by_cases Z:i<p
 .rw[bf Z,jh (b_ Z (g_ L)),List.getElem?_take,bf Z,j0]
 .rw[az Z,qz (a_ (f_ L) (s_ Z)),L]
  by_cases R:i=p
  .subst R;simp
  .rw[az R]
   obtain⟨q,hq⟩:∃q,i=p+q+1:=⟨i-p-1,by lia⟩;subst hq;rw[show p+q+1-p=q+1 by lia,List.getElem?_cons_succ,List.getElem?_drop,show p+q+1-1=p+q by lia,j0]
def Mt(Z:Array α)(p:Nat)(x:α):(insertAt Z p x).size=Z.size+1:=by have:=(insertAt_perm Z p x).length_eq;simpa using this
noncomputable def up(p i:Nat):Nat:=if i<p then i else i+1
def Lx(Z:Array α)(p:Nat)(x:α)(G:p<=Z.size)(i:Nat):(insertAt Z p x)[up p i]?=Z[i]?:=by
 rw[Rc Z p x G];unfold up
 by_cases h:i<p
 .simp[h]
 .rw[az h,az (j_ (a_ (s_ h) x_)),az (i_ (A_ (s_ h)))];rfl
def Hm(Z:Array α)(p:Nat)(x:α)(G:p<=Z.size):(insertAt Z p x)[p]?=some x:=by rw[Rc Z p x G];simp
def Ky(p i:Nat):i=p\/∃k,i=up p k:=by
 unfold up;rcases Nat.lt_trichotomy i p with h|h|h
 .exact .inr ⟨i,by simp[h]⟩
 .exact .inl h
 .exact .inr ⟨i-1,by rw[az (by omega)];lia⟩
def ane(hs:Srt L)(hn:∀i:Nat,L[i]?≠some j):Srt (insertAt L (below L j) j):=by
 obtain⟨R,h2,h3⟩:=Hw (j:=j) hs;intro a b x y G Z l;rcases Ky (below L j) a with rfl|⟨a',rfl⟩<;>rcases Ky (below L j) b with hb|⟨b',rfl⟩
 .subst hb;lia
 .rw[Hm _ _ _ R] at G
  rw[Lx _ _ _ R] at Z;cases G;have:below L j<=b':=by unfold up at l;split at l<;>omega
  have g:=h3 _ _ Z this;rcases Nat.lt_or_eq_of_le g with g|g
  .exact g
  .subst g;exact absurd Z (hn _)
 .subst hb
  rw[Hm _ _ _ R] at Z;rw[Lx _ _ _ R] at G;cases Z;exact h2 _ _ G (by unfold up at l;split at l<;>omega)
 .rw[Lx _ _ _ R] at G Z
  exact hs _ _ _ _ G Z (by unfold up at l;split at l<;>split at l<;>omega)
noncomputable def adv(m:Nat)(p:Probe):Probe:=({ SetTable.fresh 0 0 true with mask:=m }:SetTable).advance p
def atm(t:SetTable)(p:Probe):t.advance p=adv t.mask p:=rfl
def We(h:p.more > 0):adv m p={ p with j:=p.j+1,more:=p.more-1 }:=bf h
def Rr(h:¬p.more > 0):adv m p={ p with j:=(leap m p.i p.perturb).1,more:=runEnd m (leap m p.i p.perturb).1-(leap m p.i p.perturb).1,i:=(leap m p.i p.perturb).1,perturb:=(leap m p.i p.perturb).2 }:=az h
noncomputable def beg(m i pt:Nat):Probe:={ j:=i,more:=runEnd m i-i,i:=i,perturb:=pt,dummy:=none }
def P(m:Nat)(h:Int):Nat->Probe
 |0=>beg m (bits h%(m+1)) (bits h)|n+1=>adv m (P m h n)
def ahm(t:SetTable)(h:Int):t.probeStart h=P t.mask h 0:=rfl
theorem Wf(m:Nat)(h:Int):∀n,(P m h n).dummy=none
 |0=>rfl
 |n+1=>by
  show(adv m (P m h n)).dummy=none
  by_cases q:(P m h n).more > 0
  .rw[We q];exact Wf m h n
  .rw[Rr q];exact Wf m h n
noncomputable def I(m:Nat)(h:Int):Nat->Nat
 |0=>bits h%(m+1)|T+1=>(I m h T*5+1+bits h / 32 ^ (T+1))%(m+1)
def anf(m i:Nat):runEnd m i-i<=9:=by unfold runEnd;split<;>lia
theorem Yq{m:Nat}{h:Int}{n i pt:Nat}(e:P m h n=beg m i pt):∀c,c<=runEnd m i-i->P m h (n+c)={ j:=i+c,more:=runEnd m i-i-c,i:=i,perturb:=pt,dummy:=none }
 |0,_=>by rw[Nat.add_zero,e];rfl
 |c+1,hc=>by
  have:=Yq e c (by lia);show adv m (P m h (n+c))=_;rw[this,We (by show 0<runEnd m i-i-c;lia)];simp only
  congr 1
def ahn(e:P m h n=beg m i pt):P m h (n+(runEnd m i-i)+1)=beg m ((i*5+1+pt / 32)%(m+1)) (pt / 32):=by show adv m (P m h (n+(runEnd m i-i)))=_;rw[Yq e _ (bh _),Rr (by simp)];rfl
theorem aho(m:Nat)(h:Int):∀T,∃n,n<=10*T/\P m h n=beg m (I m h T) (bits h / 32 ^ T)
 |0=>⟨0,j4 _,by simp[P,I]⟩
 |T+1=>by
  obtain⟨n,G,Z⟩:=aho m h T;have:=anf m (I m h T);refine⟨_,?_,(ahn Z).trans ?_⟩
  .lia
  .rw[Nat.div_div_eq_div_mul,<- Nat.pow_succ];rfl
noncomputable def f5(m x:Nat):Nat:=(x*5+1)%(m+1)
def it(m:Nat):Nat->Nat->Nat
 |0,x=>x|k+1,x=>f5 m (it m k x)
theorem Rt(m a x:Nat):∀k,it m (a+k) x=it m k (it m a x)
 |0=>rfl|k+1=>by show f5 m (it m (a+k) x)=_;rw[Rt m a x k];rfl
def Cov(m:Nat):Prop:=∀i j,i<=m->j<=m->∃k,k<=m/\it m k i=j
def atn(h0:it m (m+1) 0=0)(h:∀j,j<=m->∃k,k<=m/\it m k 0=j):Cov m:=λi j L hj=>by
 obtain⟨a,la,Z⟩:=h i L;obtain⟨b,lb,G⟩:=h j hj
 by_cases R:a<=b
 .refine⟨b-a,a_ C_ lb,?_⟩
  rw[<- Z,<- Rt,show a+(b-a)=b by lia,G]
 .refine⟨m+1+b-a,by omega,?_⟩
  rw[<- Z,<- Rt,show a+(m+1+b-a)=(m+1)+b by lia,Rt,h0,G]
def orb(m:Nat):Nat->Nat->List Nat
 |0,_=>[]|k+1,x=>x::orb m k (f5 m x)
theorem ac4{m:Nat}:∀{k x j:Nat},j∈orb m k x->∃q,q<k/\it m q x=j
 |0,_,_,h=>by simp[orb] at h
 |k+1,x,j,h=>by
  simp only[orb,bx] at h;rcases h with rfl|h
  .exact⟨0,A_ (j4 _),rfl⟩
  .obtain⟨q,l,e⟩:=ac4 h
   refine⟨1+q,by lia,?_⟩;rw[Rt];exact e
def Mu(Z:it m (m+1) 0=0)(h:((List.range (m+1)).all λj=>(orb m (m+1) 0).contains j)=true):Cov m :=
 atn Z λj G=>by have:=ji.mp h j (by simp;exact A_ G);obtain⟨q,l,e⟩:=ac4 (by simpa using this);exact⟨q,z_ l,e⟩
def Yr(m:Nat):Prop:=m=7\/m=15\/m=31\/m=63\/m=127
def a7g:Cov 7:=Mu (by decide+kernel) (by decide+kernel)
def azl:Cov 15:=Mu (by decide+kernel) (by decide+kernel)
def azm:Cov 31:=Mu (by decide+kernel) (by decide+kernel)
def azn:Cov 63:=Mu (by decide+kernel) (by decide+kernel)
def ato:Cov 127:=Mu (by decide+kernel) (by decide+kernel)
def Yr.cov(h:Yr m):Cov m:=by
 rcases h with rfl|rfl|rfl|rfl|rfl
 .exact a7g
 .exact azl
 .exact azm
 .exact azn
 .exact ato
def ang(h:Int):bits h<2 ^ 64:=by
 unfold bits;have Z:=Ah h (b:=2 ^ 64) (by decide);have G:=yo h (b:=2 ^ 64) (by decide)
 lia
theorem azo(m:Nat)(h:Int):∀T,I m h T<=m
 |0=>Nat.le_of_lt_succ (Nat.mod_lt (bits h) (Nat.succ_pos m))|T+1=>Nat.le_of_lt_succ (Nat.mod_lt (I m h T*5+1+bits h / 32 ^ (T+1)) (Nat.succ_pos m))
theorem ahp(m:Nat)(h:Int):∀k,I m h (13+k)=it m k (I m h 13)
 |0=>rfl
 |k+1=>by
  show(I m h (13+k)*5+1+bits h / 32 ^ (13+k+1))%(m+1)=f5 m (it m k (I m h 13));have:bits h / 32 ^ (13+k+1)=0:=by
   apply Nat.div_eq_of_lt;refine dm (ang h) ?_
   calc 2 ^ 64<=32 ^ 13:=by decide
    _<=32 ^ (13+k+1):=Nat.pow_le_pow_right (by decide) (a_ x_ x_)
  rw[this,ahp m h k];rfl
def cover(Z:Yr m)(h:Int)(j:Nat)(G:j<=m):∃T,T<=13+m/\I m h T=j:=by obtain⟨k,lk,e⟩:=Z.cov (I m h 13) j (azo m h 13) G;exact⟨13+k,w_ lk,(ahp m h k).trans e⟩
def anh(Z:Yr m)(h:Int)(j:Nat)(L:j<=m):∃n,n<10*turns m/\(P m h n).j=j:=by obtain⟨T,lT,e⟩:=cover Z h j L;obtain⟨n,R,G⟩:=aho m h T;exact⟨n,by unfold turns;lia,by rw[G];exact e⟩
def mod_le(a m:Nat):a%(m+1)<=m:=Nat.le_of_lt_succ (Nat.mod_lt a (Nat.succ_pos m))
def Ol(h:i<=m):i<=runEnd m i/\runEnd m i<=m:=by unfold runEnd;split<;>omega
theorem azp(m:Nat)(h:Int):∀n,(P m h n).j+(P m h n).more<=m
 |0=>by
  have:=Ol (mod_le (bits h) m);show bits h%(m+1)+(runEnd m (bits h%(m+1))-bits h%(m+1))<=m
  omega
 |n+1=>by
  have Z:=azp m h n;show(adv m (P m h n)).j+(adv m (P m h n)).more<=m
  by_cases q:(P m h n).more > 0
  .rw[We q];simp only;lia
  .rw[Rr q]
   have:=Ol (mod_le ((P m h n).i*5+1+(P m h n).perturb / 32) m);show(leap m (P m h n).i (P m h n).perturb).1+(runEnd m (leap m (P m h n).i (P m h n).perturb).1-(leap m (P m h n).i (P m h n).perturb).1)<=m
   have e:(leap m (P m h n).i (P m h n).perturb).1=((P m h n).i*5+1+(P m h n).perturb / 32)%(m+1):=rfl;rw[e];omega
def a7h(m:Nat)(h:Int)(n:Nat):(P m h n).j<=m:=by have:=azp m h n;lia
def Occ(t:SetTable)(j:Nat):Prop:=∃i:Nat,t.place[i]?=some j
structure Hv(t:SetTable)(es:Array (Int×Value)):Prop where
 msk:Yr t.mask
 dum:t.dummies=#[]
 Ys:t.place.size=es.size
 srt:Srt t.place
 bnd:∀(i j:Nat),t.place[i]?=some j->j<=t.mask
 ful:t.place.size<=t.mask
 rch:∀(i j:Nat) e,t.place[i]?=some j->es[i]?=some e->∃n,(P t.mask e.1 n).j=j/\∀m,m<n->Occ t (P t.mask e.1 m).j
theorem Hv.fits(k:Hv t Z):t.fits Z.size=true:=by unfold SetTable.fits fill;rw[k.dum];simp[k.Ys];have:=k.ful;have:=k.Ys;lia
def Yr.odd(h:Yr m):m%2=1:=by rcases h with rfl|rfl|rfl|rfl|rfl<;>rfl
def Hv.way(k:Hv t Z):t.gaveWay=false:=by unfold gaveWay;rw[k.msk.odd];rfl
def ahq(hs:Srt G)(h:G.size<=m):∃j,j<=m/\∀i:Nat,G[i]?≠some j:=by
 apply wg;intro hn;have all:∀j,j<=m->∃i:Nat,G[i]?=some j:=λj R=>by apply wg;intro hc;exact hn ⟨j,R,λi e=>hc ⟨i,e⟩⟩
 have:∀j,j<=m->∀i:Nat,G[i]?=some j->j<=i:=by
  intro j
  induction j with
  |zero=>intro _ i _;exact j4 _
  |succ j ih =>
   intro R i e;obtain⟨L,Z⟩:=all j (by lia);have:=ih (by lia) L Z;rcases Nat.lt_trichotomy i L with l|l|l
   .have:=hs _ _ _ _ e Z l;lia
   .subst l;rw[e] at Z;injection Z with Z;exact a_ (f_ Z) this
   .exact a_ (v_ this) l
 obtain⟨i,e⟩:=all m (bh _);have h1:=this m (bh _) i e;have h2:=(jg.mp e).1;exact l_ h2 (a_ h h1)
structure Fst(t:SetTable)(h:Int)(N:Nat):Prop where
 lt:N<10*turns t.mask
 emp:¬Occ t (P t.mask h N).j
 occ:∀m,m<N->Occ t (P t.mask h m).j
def least{p:Nat->Prop}:∀{n:Nat},p n->∃k,k<=n/\p k/\∀m,m<k->¬p m:=by
 intro n
 induction n using Nat.strongRecOn with
 |ind n R =>
  intro h
  by_cases G:∃m,m<n/\p m
  .obtain⟨m,l,Z⟩:=G
   obtain⟨k,L,a,b⟩:=R m l Z;exact⟨k,e_ (c_ L l),a,b⟩
  .exact⟨n,bh _,h,λm l Z=>G ⟨m,l,Z⟩⟩
def Hv.fst(k:Hv t es)(h:Int):∃N,Fst t h N:=by obtain⟨j,R,e⟩:=ahq k.srt k.ful;obtain⟨n,G,L⟩:=anh k.msk h j R;obtain⟨N,l,a,b⟩:=least (p:=λn=>¬Occ t (P t.mask h n).j) (n:=n) (λ⟨i,c⟩=>e i (by rw[L] at c;exact c));exact⟨N,c_ l G,a,λm Z=>Classical.not_not.mp (b m Z)⟩
theorem atq(k:Hv t es)(F:Fst t h N)(G:Nat->Int):∀(Z n:Nat),n<=N->N-n<Z ->
 (probe.go t G h Z (P t.mask h n)=some (.empty (P t.mask h N).j none)/\∀m,n<=m->m<N->∀i:Nat,t.place[i]?=some (P t.mask h m).j->G i≠h)
\/∃m i:Nat,n<=m/\m<N/\t.place[i]?=some (P t.mask h m).j/\G i=h/\(∀q,n<=q->q<m->∀i:Nat,t.place[i]?=some (P t.mask h q).j->G i≠h)
 /\probe.go t G h Z (P t.mask h n)=some (.candidate (P t.mask h m).j i (P t.mask h (m+1))):=by
 intro Z
 induction Z with
 |zero=>intro n _ l;omega
 |succ Z ih =>
  intro n hn l;unfold probe.go
  by_cases e:n=N
  .subst e
   left
   rw[(aa4 k.srt k.dum).mpr (λi c=>F.emp ⟨i,c⟩)];simp only;rw[Wf];exact⟨rfl,λm a b=>by lia⟩
  .obtain⟨i,hi⟩:=F.occ n (by lia)
   rw[(Oj k.srt).mpr hi];simp only[atm];have qq:adv t.mask (P t.mask h n)=P t.mask h (n+1):=rfl;rw[qq]
   by_cases R:G i=h
   .right
    refine⟨n,i,bh _,by lia,hi,R,λq a b=>by lia,?_⟩;rw[bf (by simp[R])]
   .rw[az (by simp[R])]
    have un:∀L:Nat,t.place[L]?=some (P t.mask h n).j->G L≠h:=λL e'=>by have a:=below_at k.srt e';have b:=below_at k.srt hi;rw[<- a,b];exact R
    rcases ih (n+1) (by lia) (by lia) with⟨a,b⟩|⟨m,L,a,b,c,d,e1,e2⟩
    .left
     refine⟨a,λm x y=>?_⟩
     by_cases q:m=n
     .subst q;exact un
     .exact b m (by lia) y
    .right
     refine⟨m,L,by lia,b,c,d,λq x y=>?_,e2⟩
     by_cases z:q=n
     .subst z;exact un
     .exact e1 q (by lia) y
def Hv.ahead(k:Hv t R)(F:Fst t h N){i:Nat}(G:R[i]?=some e)(hh:e.1=h):∃m,m<N/\t.place[i]?=some (P t.mask h m).j:=by
 have L:i<t.place.size:=by rw[k.Ys];exact(jg.mp G).1
 have Z:t.place[i]?=some t.place[i]:=by simp[L]
 obtain⟨n,a,b⟩:=k.rch i _ e Z G;subst hh;refine⟨n,?_,by rw[a];exact Z⟩;rcases Nat.lt_trichotomy n N with l|l|l
 .exact l
 .subst l;exact absurd ⟨i,by rw[a];exact Z⟩ F.emp
 .exact absurd (b N l) F.emp
def Wg(G:Srt t.place)(q:Nat):Occ (t.put j).1 q↔q=j\/Occ t q:=by
 obtain⟨Z,R,L⟩:=Hw (j:=j) G;constructor
 .rintro⟨i,e⟩
  have e:(insertAt t.place (below t.place j) j)[i]?=some q:=e;rcases Ky (below t.place j) i with rfl|⟨i',rfl⟩
  .rw[Hm _ _ _ Z] at e;cases e;exact .inl rfl
  .rw[Lx _ _ _ Z] at e;exact .inr ⟨i',e⟩
 .rintro(rfl|⟨i,e⟩)
  .exact⟨_,Hm _ _ _ Z⟩
  .exact⟨up (below t.place j) i,(Lx _ _ _ Z i).trans e⟩
theorem Hv.put(k:Hv t R)(F:Fst t h N)(room:t.place.size+1<=t.mask) :
 Hv (t.put (P t.mask h N).j).1 (insertAt R (t.put (P t.mask h N).j).2 (h,x)):=by
 obtain⟨h1,h2,h3⟩:=Hw (j:=(P t.mask h N).j) k.srt;have L:below t.place (P t.mask h N).j<=R.size:=by rw[<- k.Ys];exact h1
 refine⟨k.msk,?_,?_,?_,?_,?_,?_⟩
 .show(if has t.dummies _ then _ else t.dummies)=#[]
  rw[k.dum,Vc];rfl
 .show(insertAt t.place _ _).size=(insertAt R _ _).size
  rw[Mt,Mt,k.Ys]
 .exact ane k.srt (λi e=>F.emp ⟨i,e⟩)
 .intro i j e
  rcases(Wg k.srt j).mp ⟨i,e⟩ with rfl|⟨i',e'⟩
  .exact a7h _ _ _
  .exact k.bnd i' j e'
 .show(insertAt t.place _ _).size<=t.mask
  rw[Mt];exact room
 .intro i j e Z G
  have Z:(insertAt t.place (below t.place (P t.mask h N).j) (P t.mask h N).j)[i]?=some j:=Z;have G:(insertAt R (below t.place (P t.mask h N).j) (h,x))[i]?=some e:=G;show ∃n,(P t.mask e.1 n).j=j/\∀m,m<n->Occ (t.put (P t.mask h N).j).1 (P t.mask e.1 m).j
  rcases Ky (below t.place (P t.mask h N).j) i with rfl|⟨i',rfl⟩
  .rw[Hm _ _ _ h1] at Z
   rw[Hm _ _ _ L] at G;cases Z;cases G;exact⟨N,rfl,λm l=>(Wg k.srt _).mpr (.inr (F.occ m l))⟩
  .rw[Lx _ _ _ h1] at Z
   rw[Lx _ _ _ L] at G;obtain⟨n,a,b⟩:=k.rch i' j e Z G;exact⟨n,a,λm l=>(Wg k.srt _).mpr (.inr (b m l))⟩
abbrev OcO(ow:Array (Option Nat))(j:Nat):Prop:=∃i,ow[j]?=some (some i)
structure Own(m:Nat)(ow:Array (Option Nat))(hs:X1):Prop where
 Ys:ow.size=m+1
 cnt:ow.toList.countP Option.isSome=hs.length
 lt:∀(j i:Nat),ow[j]?=some (some i)->i<hs.length
 inj:∀(j j' i:Nat),ow[j]?=some (some i)->ow[j']?=some (some i)->j=j'
 at':∀(i:Nat) h,hs[i]?=some h->∃j n,ow[j]?=some (some i)/\(P m h n).j=j/\∀q,q<n->OcO ow (P m h q).j
def getD_none{Z:Array (Option Nat)}(G:Z.size=m+1)(h:(Z.getD j (some 0)).isNone=true):Z[j]?=some none:=by
 by_cases l:j<Z.size
 .simp[Array.getD,l] at h;simp[l,h]
 .simp[Array.getD,l] at h
def getD_some(Z:ow.size=m+1)(G:j<=m)(h:¬(ow.getD j (some 0)).isNone=true):OcO ow j:=by
 have l:j<ow.size:=by lia
 simp[Array.getD,l] at h;unfold OcO;rw[show ow[j]?=some ow[j] by simp[l]];cases e:ow[j] with
 |none=>exact absurd e h|some i=>exact⟨i,rfl⟩
def afg(hz:ow.size=m+1)(h:Int):∀(Z T n:Nat),P m h n=beg m (I m h T) (bits h / 32 ^ T)->(∀q,q<n->OcO ow (P m h q).j) ->
 (∃k,k<Z/\ow[I m h (T+k)]?=some none)->∃j L,layClean.free m ow Z (I m h T) (bits h / 32 ^ T)=some j/\(P m h L).j=j/\ow[j]?=some none/\∀q,q<L->OcO ow (P m h q).j:=by
 intro Z
 induction Z with
 |zero=>rintro T n _ _ ⟨k,l,_⟩;lia
 |succ Z ih =>
  rintro T n e hq ⟨k,lk,R⟩;have hI:=azo m h T;obtain⟨r1,r2⟩:=Ol hI;unfold layClean.free;cases hf:(List.range (runEnd m (I m h T)+1-I m h T)).find? λk=>(ow.getD (I m h T+k) (some 0)).isNone with
  |some c =>
   obtain⟨a,b,d⟩:=List.find?_range_eq_some.mp hf;have b:=lg.mp b;refine⟨_,n+c,rfl,by rw[Yq e c (by omega)],getD_none hz a,λq l=>?_⟩
   by_cases hn:q<n
   .exact hq q hn
   .obtain⟨c',rfl⟩:∃c',q=n+c':=⟨q-n,by lia⟩
    rw[Yq e c' (by lia)];show OcO ow (I m h T+c');exact getD_some hz (by lia) (λhh=>by
     have:=d c' (by lia);simp only[hh] at this;cases this)
  |none =>
   have Cj:=List.find?_eq_none.mp hf;have G:∀c,c<=runEnd m (I m h T)-I m h T->OcO ow (I m h T+c):=λc hc=>getD_some hz (by lia) (Cj c (lg.mpr (by lia)))
   cases k with
   |zero =>
    obtain⟨i,ei⟩:=G 0 (j4 _);rw[Nat.add_zero] at R ei;rw[R] at ei;cases ei
   |succ k =>
    have pe:bits h / 32 ^ T / 32=bits h / 32 ^ (T+1):=by rw[Nat.div_div_eq_div_mul,<- Nat.pow_succ]
    have:=ih (T+1) (n+(runEnd m (I m h T)-I m h T)+1) (by rw[ahn e,pe];rfl) (λq l=>?_) ⟨k,by lia,by rw[show T+1+k=T+(k+1) by lia];exact R⟩
    .obtain⟨j,L,e1,e2⟩:=this
     refine⟨j,L,?_,e2⟩;rw[<- e1];show layClean.free m ow Z ((I m h T*5+1+bits h / 32 ^ T / 32)%(m+1)) (bits h / 32 ^ T / 32)=_;rw[pe];rfl
    .by_cases hn:q<n
     .exact hq q hn
     .obtain⟨c',rfl⟩:∃c',q=n+c':=⟨q-n,by lia⟩
      rw[Yq e c' (by lia)];show OcO ow (I m h T+c');exact G c' (by lia)
def Own.room(k:Own m ow L)(h:L.length<=m):∃j,j<=m/\ow[j]?=some none:=by
 apply wg;intro hn;have:ow.toList.countP Option.isSome=ow.toList.length:=List.countP_eq_length.mpr λa R=>by
  obtain⟨j,G,e⟩:=xx R;cases a with
  |some i=>rfl
  |none =>
   have Z:j<ow.size:=by simpa using G
   refine absurd ⟨j,by have:=k.Ys;exact z_ (b_ Z (f_ this)),?_⟩ hn;rw[<- j0,gb G,e]
 rw[k.cnt] at this;have:=k.Ys;simp at *
 lia
theorem Own.free(G:Yr m)(k:Own m ow L)(R:L.length<=m)(h:Int):∃j Z,layClean.free m ow (turns m) (bits h%(m+1)) (bits h)=some j/\(P m h Z).j=j/\ow[j]?=some none/\∀q,q<Z->OcO ow (P m h q).j:=by obtain⟨j,hj,e⟩:=k.room R;obtain⟨T,lT,eT⟩:=cover G h j hj;have:=afg k.Ys h (turns m) 0 0 (by simp[P,I]) (λq l=>by lia) ⟨T,by unfold turns;lia,by rw[t8,eT];exact e⟩;simpa[I] using this
def Own.lay(k:Own m ow Z)(e1:(P m h n').j=j)(R:ow[j]?=some none)(e3:∀q,q<n'->OcO ow (P m h q).j) :
 Own m (ow.setIfInBounds j (some Z.length)) (Z++[h]):=by
 have lj:j<ow.size:=(jg.mp R).1
 have get:∀q:Nat,(ow.setIfInBounds j (some Z.length))[q]?=if j=q then some (some Z.length) else ow[q]?:=λq=>by rw[Array.getElem?_setIfInBounds];split<;>simp_all
 have G:∀q,OcO ow q->OcO (ow.setIfInBounds j (some Z.length)) q:=λq ⟨i,e⟩=>by refine⟨i,?_⟩;rw[get,az (λh=>by subst h;rw[R] at e;cases e)];exact e
 refine⟨by simp[k.Ys],?_,λq i e=>?_,λq q' i e L=>?_,λi h' e=>?_⟩
 .rw[Array.toList_setIfInBounds,List.countP_set (by simpa using lj),k.cnt]
  have:ow.toList[j]'(by simpa using lj)=none:=by have:=(jg.mp R).2;simpa using this
  rw[this];simp
 .rw[get] at e
  split at e
  .cases e;simp
  .have:=k.lt q i e;simp;exact A_ (e_ this)
 .rw[get] at e L
  split at e<;>split at L
  .lia
  .cases e;have:=k.lt _ _ L;lia
  .cases L;have:=k.lt _ _ e;lia
  .exact k.inj q q' i e L
 .by_cases l:i<Z.length
  .rw[jh l] at e
   obtain⟨j',n,a,b,c⟩:=k.at' i h' e;refine⟨j',n,?_,b,λq l=>G _ (c q l)⟩;rw[get,az (λh=>by subst h;rw[R] at a;cases a)];exact a
  .have hi:i=Z.length:=by
    have:=(aq.mp e).1;simp at this;exact u_ (z_ this) (s_ l)
   subst hi;simp at e;subst e;exact⟨j,n',by rw[get,bf rfl],e1,λq l=>G _ (e3 q l)⟩
theorem ac5{m:Nat}(hm:Yr m):∀(Z G:X1)(R:Array (Option Nat)),Own m R G->G.length+Z.length<=m+1 ->
 ∃L,Z.foldl (λqq h=>do
  let (owner,k) <- qq
  let j <- layClean.free m owner (turns m) (bits h%(m+1)) (bits h)
  pure (owner.setIfInBounds j (some k),k+1)) (some (R,G.length))=some (L,G.length+Z.length)/\Own m L (G++Z)
 |[],G,R,k,_=>⟨R,rfl,by simpa using k⟩
 |h::Z,G,R,k,l=>by
  obtain⟨j,n',e0,e1,e2,e3⟩:=k.free hm (by simp at l;lia) h;have k':=k.lay e1 e2 e3;obtain⟨L,a,b⟩:=ac5 hm Z (G++[h]) _ k' (by simp at l ⊢;lia);refine⟨L,?_,by simpa using b⟩;rw[Ai];have:(do
   let (owner,k) <- some (R,G.length)
   let j <- layClean.free m owner (turns m) (bits h%(m+1)) (bits h)
   pure (owner.setIfInBounds j (some k),k+1))=some (R.setIfInBounds j (some G.length),(G++[h]).length):=by
   show(layClean.free m R (turns m) (bits h%(m+1)) (bits h) >>= _)=_;rw[e0];simp
  rw[this,a]
  simp;lia
def ahr(L:Yr m)(Z:Array Int)(l:Z.size<=m+1):∃G,layClean m Z=some G/\Own m G Z.toList:=by have R:Own m (Array.replicate (m+1) none) []:=⟨by simp,by simp,λj i e=>by simp[Array.getElem?_replicate] at e,λj j' i e=>by simp[Array.getElem?_replicate] at e,λi h e=>by simp at e⟩;obtain⟨G,a,b⟩:=ac5 L Z.toList [] _ R (by simpa using l);refine⟨G,?_,by simpa using b⟩;unfold layClean;rw[<- Array.foldl_toList];exact(nq (Option.map (·.1)) a).trans rfl
noncomputable def lv(m:Nat)(Z:Array (Option Nat)):List (Nat×Nat):=(List.range (m+1)).filterMap λj=>(Z.getD j none).map (j,·)
def Ly(k:Own m ow R):(j,i)∈lv m ow↔ow[j]?=some (some i):=by
 unfold lv;rw[List.mem_filterMap];constructor
 .rintro⟨q,a,b⟩
  obtain⟨L,Z,G⟩:=cg.mp b;cases G;have:j<ow.size:=by rw[k.Ys];exact lg.mp a
  simp[Array.getD,this] at Z;simp[this,Z]
 .intro e
  have l:=(jg.mp e).1;refine⟨j,lg.mpr (by rw[<- k.Ys];exact l),?_⟩;have:ow.getD j none=some i:=by simp[Array.getD,l,(jg.mp e).2]
  rw[this];rfl
def ahs(m:Nat)(L:Array (Option Nat)):(lv m L).Pairwise λa b=>a.1<b.1:=by unfold lv;refine List.Pairwise.filterMap _ (λa a' R b G b' Z=>?_) List.pairwise_lt_range;obtain⟨_,_,rfl⟩:=cg.mp G;obtain⟨_,_,rfl⟩:=cg.mp Z;exact R
def anj(k:Own m ow G):((lv m ow).map (·.2)).Perm (List.range G.length):=by
 refine(List.perm_ext_iff_of_nodup ?_ List.nodup_range).mpr λi=>?_
 .rw[List.nodup_iff_pairwise_ne,List.pairwise_map]
  refine(ahs m ow).imp_of_mem fun{a b} Z hb Jf e=>?_
  have:=k.inj a.1 b.1 a.2 ((Ly k).mp Z) (by rw[e];exact(Ly k).mp hb);exact l_ Jf (g_ this)
 .rw[cu,lg]
  constructor
  .rintro⟨a,Z,rfl⟩;exact k.lt _ _ ((Ly k).mp Z)
  .intro l
   obtain⟨j,n,a,_⟩:=k.at' i _ (gb l);exact⟨(j,i),(Ly k).mpr a,rfl⟩
theorem aht{G L:Type}{g:G->Option L}:∀{l:List G},(∀x∈l,(g x).isSome=true)->∀q:Nat,(l.filterMap g)[q]?=l[q]?.bind g
 |[],_,q=>by simp
 |x::l,h,q=>by
  have Z:=h x (bu ..);obtain⟨y,e⟩:=ig.mp Z;rw[List.filterMap_cons_some e];cases q with
  |zero=>simp[e]|succ q=>simpa using aht (λx Z=>h x (bc _ Z)) q
def ank(hm:Yr m)(fg mv:Nat)(ld pl:Bool)(G:Array (Int×Value))(l:G.size<=m) :
 ∃t Z,laid m fg mv ld pl (G.map (·.1))=some (t,Z)/\t.mask=m/\Hv t (Z.filterMap (G[·]?))/\(Z.filterMap (G[·]?)).toList.Perm G.toList/\(Z.filterMap (G[·]?)).size=G.size
 /\t.led=ld/\t.plain=pl/\t.finger=fg/\Z.toList.Perm (List.range G.size):=by
 obtain⟨L,e,k⟩:=ahr hm (G.map (·.1)) (by simp;exact a_ l x_);have Vd:=anj k;simp at Vd;have qq:(lv m L).length=G.size:=by have:=Vd.length_eq;simpa using this
 have qk:((((lv m L).map (·.2)).toArray).filterMap (G[·]?)).size=G.size:=by have:=(Vd.filterMap (G[·]?)).length_eq;rw[filterMap_getElem?_range] at this;rw[<- mq,Array.toList_filterMap,this];simp
 refine⟨{ mask:=m,place:=((lv m L).map (·.1)).toArray,dummies:=#[],finger:=fg,led:=ld,moves:=mv,plain:=pl },((lv m L).map (·.2)).toArray,?_,rfl,?_,?_,?_,rfl,rfl,rfl,Vd⟩
 .unfold laid;rw[e];rfl
 .have qv:∀x∈(lv m L).map (·.2),(G[x]?).isSome=true:=λx hx=>by
   have:=lg.mp (Vd.mem_iff.mp hx)
   simp;exact this
  have get:∀q:Nat,((((lv m L).map (·.2)).toArray).filterMap (G[·]?))[q]?=((lv m L)[q]?).bind λa=>G[a.2]?:=λq=>by rw[<- j0,Array.toList_filterMap,aht qv,ir];cases(lv m L)[q]?<;>rfl
  have R:∀q j:Nat,(((lv m L).map (·.1)).toArray)[q]?=some j↔∃i,(lv m L)[q]?=some (j,i):=λq j=>by
   simp only[List.getElem?_toArray,ir,cg];constructor
   .rintro⟨a,h,rfl⟩;exact⟨a.2,h⟩
   .rintro⟨i,h⟩;exact⟨_,h,rfl⟩
  refine⟨hm,rfl,?_,?_,?_,?_,?_⟩
  .show(((lv m L).map (·.1)).toArray).size=_
   rw[qk];simp[qq]
  .intro i j a b ea eb lt
   obtain⟨i1,e1⟩:=(R i a).mp ea;obtain⟨i2,e2⟩:=(R j b).mp eb;obtain⟨l1,g1⟩:=aq.mp e1;obtain⟨l2,g2⟩:=aq.mp e2;have:=List.pairwise_iff_getElem.mp (ahs m L) i j l1 l2 lt;rw[g1,g2] at this;exact this
  .intro i j e
   obtain⟨i1,e1⟩:=(R i j).mp e;have:=(Ly k).mp (cj e1);have:=(jg.mp this).1;rw[k.Ys] at this;show j<=m
   exact z_ this
  .show(((lv m L).map (·.1)).toArray).size<=m
   simp[qq];exact l
  .intro q j e' hp he
   obtain⟨i,e1⟩:=(R q j).mp hp;rw[get,e1] at he;have he:G[i]?=some e':=he;obtain⟨j',n,a,b,c⟩:=k.at' i e'.1 (by simp[he]);have hj:=k.inj j j' i ((Ly k).mp (cj e1)) a;subst hj;refine⟨n,b,λw lw=>?_⟩;obtain⟨i',q0⟩:=c w lw;obtain⟨z,hz⟩:=jr.mp ((Ly k).mpr q0);exact⟨z,(R z _).mpr ⟨i',hz⟩⟩
 .rw[Array.toList_filterMap]
  have:=Vd.filterMap (G[·]?);rw[filterMap_getElem?_range] at this;exact this
 .exact qk
def afh:∀n,n<32->Yr (sizeAbove (grown n)-1)/\n<=sizeAbove (grown n)-1/\n+1<=sizeAbove (grown n)-1/\¬(n*5 >= (sizeAbove (grown n)-1)*3)/\sizeAbove (grown n)<=128:=by unfold Yr;decide+kernel
def ahu:∀n,n<64->Yr (sizeAbove (n*2)-1)/\n<=sizeAbove (n*2)-1/\¬(n*5 >= (sizeAbove (n*2)-1)*3)/\sizeAbove (n*2)<=128:=by unfold Yr;decide+kernel
section
variable{prog:Program}{w:World}{K:Type}[DecidableEq K]{knd:KeyKind prog w K}{A:Around}{E:Y1}{s:Shared}
def aa5(n:Nat)(h:carriedByValue v=true):ofAClassStatement n v=pure false:=by cases v<;>first|(simp[carriedByValue] at h;done)|(unfold ofAClassStatement;rfl)
def Ru(hk:IsTupleKey knd s.heap ks a)(h:Q false s):wpAny (model prog w) A (ofAClassStatement 8 (.ref a)) Q E s:=by
 have hT:=hk.typeIs;obtain⟨o,G,n,ho,_,hd,hi⟩:=hk;unfold ofAClassStatement;refine aa (uf hT ?_);show wpAny _ _ (if("tuple"=="tuple")=true then _ else _) _ _ s;rw[bf (by decide)];refine aa (aj ?_);simp only[jo,dg,jk];refine aa (wpAny_seqItems ho hd ?_);refine aa ?_;show wpAny _ _ (forIn G _ _) _ _ s;rw[<- Array.forIn_toList];refine q9 _ (λZ r s'=>r.1=none/\s'=s/\∀v∈Z,carriedByValue v=true) _ ?_ ?_ _ _ ⟨rfl,rfl,hi.byValue⟩
 .rintro v Z r s' ⟨R,rfl,Cj⟩
  rw[aa5 _ (Cj v bu)];refine aa (aj ?_);simp only[dg,jk];exact aj ⟨rfl,rfl,λu L=>Cj u (bc _ L)⟩
 .rintro⟨r1,r2⟩ s' ⟨R,rfl,_⟩
  simp only at R;subst R;exact aj h
def ahv(hk:IsTupleKey knd s.heap G a)(hs:∀v∈st,∃G b,v=.ref b/\IsTupleKey knd s.heap G b)(h:Q false s) :
 wpAny (model prog w) A (searchCouldBeSeen (.ref a) st) Q E s:=by
 unfold searchCouldBeSeen;refine aa ?_;refine q9 _ (λZ r R=>r.1=none/\R=s/\∀v∈Z,∃G b,v=.ref b/\IsTupleKey knd s.heap G b) _ ?_ ?_ _ _ ⟨rfl,rfl,hs⟩
 .rintro v Z r R ⟨hr,rfl,Cj⟩
  obtain⟨qq,b,rfl,hb⟩:=Cj v bu;have L:∀v∈Z,∃G b,v=.ref b/\IsTupleKey knd R.heap G b:=λv hv=>Cj v (bc _ hv)
  dsimp only;split
  .exact aj ⟨rfl,rfl,L⟩
  .refine aa (wpAny_eqIsQuiet_tuple hk ?_)
   simp only[jo,dg,jk];refine aa (wpAny_eqIsQuiet_tuple hb ?_);simp only[jo,dg,jk];refine aa (Ru hk ?_);simp only[dg,jk];refine aa (Ru hb ?_);simp only[dg,jk];exact aj ⟨rfl,rfl,L⟩
 .rintro⟨r1,r2⟩ R ⟨hr,rfl,_⟩
  simp only at hr;subst hr;exact aj h
noncomputable def ent(knd:KeyKind prog w K)(x:List K×Addr):Int×Value:=(tupleKeyHash knd x.1,.ref x.2)
def aa6{Z:Array (Int×Value)}{G:List (List K×Addr)}(L:Z.toList=G.map (ent knd))(j:Nat):Z[j]?=(G[j]?).map (ent knd):=by rw[<- j0,L,ir]
def afi{xs:List (List K×Addr)}(hu:A.units<cLine)(hk:IsTupleKey knd s.heap k p)(ho:s.heap.get? a=some o)(hd:o.data=.set es ep t)(T:Hv t es)(he:es.toList=xs.map (ent knd))(hx:∀x∈xs,IsTupleKey knd s.heap x.1 x.2)(hn:(xs.map (·.1)).Nodup)(F:Fst t (tupleKeyHash knd k) N)(zw:∀(i:Nat) x,xs[i]?=some x->x.1=k->Q (.there (if adding then none else some i)) s)(z1:(∀x∈xs,x.1≠k)->Q (.free (P t.mask (tupleKeyHash knd k) N).j false) s) :
 ∀(G n:Nat)(st:Option Probe),n<=N->N-n<G->st.getD (t.probeStart (tupleKeyHash knd k))=P t.mask (tupleKeyHash knd k) n ->
  (∀m,m<n->∀(i:Nat) x,t.place[i]?=some (P t.mask (tupleKeyHash knd k) m).j->xs[i]?=some x->x.1≠k) ->
  wpAny (model prog w) A (setSearchFrom a (.ref p) (tupleKeyHash knd k) adding G st) Q E s:=by
 intro G
 induction G with
 |zero=>intro n st _ l;omega
 |succ G ih =>
  intro n st z0 l Mv q2;unfold setSearchFrom;refine aa (m6 ho hd T.fits ?_);dsimp only;rw[T.way,Mv];simp only[dg,jk];have key:=atq T F (λi=>(es[i]?.map (·.1)).getD 0) (10*turns t.mask) n z0 (by have:=F.lt;exact c_ C_ this);generalize qq:t.probe _ (tupleKeyHash knd k) (P t.mask (tupleKeyHash knd k) n)=pr;have qq:t.probe (λi=>(es[i]?.map (·.1)).getD 0) (tupleKeyHash knd k) (P t.mask (tupleKeyHash knd k) n)=pr:=qq;have atI:∀(i j:Nat),t.place[i]?=some j->∃x,xs[i]?=some x/\es[i]?=some (ent knd x):=λi j e=>by
   have li:i<es.size:=by rw[<- T.Ys];exact(jg.mp e).1
   have lx:i<xs.length:=by have:=nq List.length he;simp at this;exact b_ li (f_ this)
   refine⟨xs[i],by simp[lx],?_⟩;rw[aa6 he];simp[lx]
  rcases key with⟨e,zg⟩|⟨m,i,h1,h2,h3,h4,h5,e⟩
  .have e:pr=_:=qq.symm.trans e
   subst e;dsimp only;refine aj (z1 λx zk Z=>?_);obtain⟨i,hi⟩:=jr.mp zk;have L:es[i]?=some (ent knd x):=by rw[aa6 he,hi];rfl
   obtain⟨m,lm,hp⟩:=T.ahead F L (by unfold ent;rw[Z])
   by_cases q5:m<n
   .exact q2 m q5 i x hp hi Z
   .refine zg m (s_ q5) lm i hp ?_
    rw[L];show tupleKeyHash knd x.1=_;rw[Z]
  .have e:pr=_:=qq.symm.trans e
   subst e;dsimp only;obtain⟨x,q1,L⟩:=atI i _ h3;have q6:=hx x (cj q1);have q4:∀{R:Bool->Shared->Prop},R false s->wpAny (model prog w) A (searchCouldBeSeen (.ref p) ((es.filter (·.1==tupleKeyHash knd k)).toList.map (·.2))) R E s:=λhR=>ahv hk (λv hv=>by
    obtain⟨y,hy,rfl⟩:=cu.mp hv;have q3:y∈es.toList:=by simp at hy;simpa using hy.1
    rw[he] at q3;obtain⟨z,hz,rfl⟩:=cu.mp q3;exact⟨z.1,z.2,rfl,hx z hz⟩) hR
   rcases Bool.eq_false_or_eq_true t.led with azw|azw
   all_goals
    simp only[azw,jo,qw,dg,jk,j6]
    first
    |(rw[L];show wpAny _ _ (holding [.ref x.2] (eqBool (.ref x.2) (.ref p)) >>= _) _ _ _)
    |(refine aa (q4 ?_);simp only[dg,jk];rw[L];show wpAny _ _ (holding [.ref x.2] (eqBool (.ref x.2) (.ref p)) >>= _) _ _ _)
    refine aa (jc (wpAny_eqBool_tuple hu q6 hk ?_));refine aa (m6 ho hd T.fits ?_);dsimp only;have q7:t.sameMemory t.moves t.mask=some true:=by unfold sameMemory;simp
    rw[q7];dsimp only;rw[bf rfl,(Oj T.srt).mpr h3];dsimp only;rw[L]
    by_cases Z:x.1=k
    .have qv:decide (x.1=k)=true:=by simp[Z]
     rw[qv];have hq:=zw i x q1 Z;cases adding
     .simp only[Bool.false_and,dg,jk]
      refine aa (wpAny_isSame_ref_self ?_);refine aa (aj ?_);simpa using aj hq
     .simp only[Bool.and_self,j6]
      exact aj hq
    .have qv:decide (x.1=k)=false:=by simp[Z]
     rw[qv];simp only[Bool.and_false,dg,jk];refine aa (wpAny_isSame_ref_self ?_);refine aa (aj ?_);simp only[j6];refine ih (m+1) _ h2 (by lia) rfl λm' z2 i' x' q0 qk=>?_
     by_cases hc:m'<n
     .exact q2 m' hc i' x' q0 qk
     .by_cases hm:m'=m
      .subst hm
       have ei:i'=i:=by rw[<- below_at T.srt q0,<- below_at T.srt h3]
       subst ei;rw[q1] at qk;cases qk;exact Z
      .intro zv
       have q8:es[i']?=some (ent knd x'):=by rw[aa6 he,qk];rfl
       refine h5 m' (s_ hc) (by lia) i' q0 ?_;rw[q8];show tupleKeyHash knd x'.1=_;rw[zv]
end
section
variable{prog:Program}{w:World}{K:Type}[DecidableEq K]{knd:KeyKind prog w K}{pk:List K×Addr->Prop}{A:Around}{E:Y1}{s:Shared}
noncomputable abbrev bt(w:World):Bool:=w.params.followText "set-order"
def anm(h:Q (bt w) s):wpAny (model prog w) A setsByText Q E s:=by unfold setsByText;exact aa (wpAny_askSetting (aj h))
def Om(knd:KeyKind prog w K)(pk:List K×Addr->Prop):Prop:=∀x,pk x->∀k∈x.1,∀v n,knd.is k v=true->hashByValue n v=pure true
theorem Pz:∀{Z:List K}{G:Zl},ItemsAre knd Z G->(∀k∈Z,∀v n,knd.is k v=true->hashByValue n v=pure true)->∀v∈G,∀n,hashByValue n v=pure true
 |_,_,.nil,_,v,h=>by simp at h
 |_,_,.cons h t,hp,v,hv=>by
  rcases bx.mp hv with rfl|hv
  .exact λn=>hp _ bu _ n h
  .exact Pz t (λk L=>hp k (bc _ L)) v hv
def aa7(qq:Om knd pk)(hk:IsTupleKey knd s.heap ks a)(hp:pk (ks,a))(h:Q true s):wpAny (model prog w) A (hashByValue 8 (.ref a)) Q E s:=by
 have hT:=hk.typeIs;obtain⟨o,G,n,ho,_,hd,hi⟩:=hk;unfold hashByValue;refine aa (wpAny_specialOf hT F.slot_tuple_hash.lookup ?_);dsimp only;refine aa (wpAny_seqItems ho hd ?_);refine aa ?_;show wpAny _ _ (forIn G _ _) _ _ s;rw[<- Array.forIn_toList];refine q9 _ (λZ r s'=>r.1=none/\s'=s/\∀v∈Z,∀n,hashByValue n v=pure true) _ ?_ ?_ _ _ ⟨rfl,rfl,Pz hi (qq _ hp)⟩
 .rintro v Z r s' ⟨R,rfl,Cj⟩
  rw[Cj v bu];refine aa (aj ?_);simp only[jo,dg,jk];exact aj ⟨rfl,rfl,λu L=>Cj u (bc _ L)⟩
 .rintro⟨r1,r2⟩ s' ⟨R,rfl,_⟩
  simp only at R;subst R;exact aj h
structure Oo(knd:KeyKind prog w K)(pk:List K×Addr->Prop)(h:Heap)(a:Addr)(xs:List (List K×Addr))(o:Obj)(es:Array (Int×Value))(ep:Nat)(t:SetTable):Prop where
 get:h.get? a=some o
 exa:o.ExactSet
 dat:o.data=.set es ep t
 tab:Hv t es
 ent:es.toList=xs.map (ent knd)
 keys:∀x∈xs,IsTupleKey knd h x.1 x.2/\pk x
 nod:(xs.map (·.1)).Nodup
 led:t.led=!bt w
 pla:t.plain=true
def By(knd:KeyKind prog w K)(pk:List K×Addr->Prop)(h:Heap)(a:Addr)(S:List K->Prop)(n:Nat):Prop:=∃Z o G L t,Oo knd pk h a Z o G L t/\(∀k,S k↔k∈Z.map (·.1))/\Z.length=n/\t.place.size*5<t.mask*3
theorem Oo.size(X:Oo knd pk h a G o Z L t):Z.size=G.length:=by have:=nq List.length X.ent;simpa using this
def ahy(p:Addr)(Z:Array (Int×Value)):byScan (.ref p) Z=false:=by unfold byScan;simp[Value.scannable]
def ahz(h:Yr m):10*turns m<100000:=by rcases h with rfl|rfl|rfl|rfl|rfl<;>decide
def Rv(hu:A.units<cLine)(R:IsTupleKey knd s.heap k p)(X:Oo knd pk s.heap a L o es ep t)(F:Fst t (tupleKeyHash knd k) N)(Z:∀(i:Nat) x,L[i]?=some x->x.1=k->Q (.there (if adding then none else some i)) s)(G:(∀x∈L,x.1≠k)->Q (.free (P t.mask (tupleKeyHash knd k) N).j false) s) :
 wpAny (model prog w) A (setSearch a (.ref p) (tupleKeyHash knd k) adding) Q E s:=by
 unfold setSearch;exact afi hu R X.get X.dat X.tab X.ent (λx hx=>(X.keys x hx).1) X.nod F Z G 100000 0 none (j4 _) (by have:=F.lt;have:=ahz X.tab.msk;lia) (ahm _ _) (λm l=>by lia)
def anp(hu:A.units<cLine)(hk:IsTupleKey knd s.heap k p)(hS:By knd pk s.heap a S n)(h:∀r:Option Nat,(r.isSome=true↔S k)->Q r s):wpAny (model prog w) A (setFind a (.ref p) (tupleKeyHash knd k)) Q E s:=by
 obtain⟨xs,o,es,ep,t,X,L,_,_⟩:=hS;obtain⟨N,F⟩:=X.tab.fst (tupleKeyHash knd k);unfold setFind setFindIn;refine aa (m6 X.get X.dat X.tab.fits ?_);dsimp only;rw[ahy];simp only[dg,jk];refine aa (Rv hu hk X F (λi x R Z=>?_) (λG=>?_))
 .simp only[dg,jk]
  exact aj (h _ (by simp;exact(L k).mpr (cu.mpr ⟨x,cj R,Z⟩)))
 .dsimp only
  refine aj (h _ ?_);simp only[Option.isSome_none,dg,false_iff];intro hs;obtain⟨x,Z,e⟩:=cu.mp ((L k).mp hs);exact G x Z e
end
def Mw{α β:Type}{f:α->β}:∀{l G:List β},l.Perm G->∀{xs:List α},G=xs.map f->∃Z:List α,l=Z.map f/\Z.Perm xs:=by
 intro l G p
 induction p with
 |nil=>intro xs e;cases xs with
  |nil=>exact⟨[],rfl,.nil⟩|cons _ _=>cases e
 |cons a p ih =>
  intro xs e;cases xs with
  |nil=>cases e
  |cons x xs =>
   simp only[du,List.cons.injEq] at e;obtain⟨Z,e1,L⟩:=ih e.2;exact⟨x::Z,by simp[e1,e.1],L.cons x⟩
 |swap a b l =>
  intro xs e
  match xs,e with
  |x::y::xs,e =>
   simp only[du,List.cons.injEq] at e;obtain⟨rfl,rfl,rfl⟩:=e;exact⟨y::x::xs,rfl,.swap x y xs⟩
 |trans p q R qq =>
  intro xs e;obtain⟨ys,e1,L⟩:=qq e;obtain⟨zs,e2,p2⟩:=R e1;exact⟨zs,e2,p2.trans L⟩
section
variable{prog:Program}{w:World}{K:Type}[DecidableEq K]{knd:KeyKind prog w K}{pk:List K×Addr->Prop}{A:Around}{E:Y1}{s:Shared}
def ah0(x:IsTupleKey knd h ks p)(ho:h.get? a=some o)(hd:o.data=.set es ep t)(hs:Heap.SameBut a h h'):IsTupleKey knd h' ks p:=by
 obtain⟨R,Z,n,L,hc,G,hi⟩:=x;have Jj:p≠a:=by rintro rfl;obtain rfl:R=o:=gf (L.symm.trans ho);rw[hd] at G;exact nomatch G
 exact⟨R,Z,n,(hs.2 p Jj).trans L,hc,G,hi⟩
def newX(X:Oo knd pk h a xs o es L t)(T':Hv t' Z)(he:Z.toList=G.map (ent knd))(R:∀x∈G,IsTupleKey knd h x.1 x.2/\pk x)(hn:(G.map (·.1)).Nodup)(hl:t'.led=!bt w)(hp:t'.plain=true) :
 Oo knd pk (h.update a (Obj.putSet Z t')) a G { o with data:=.set Z (L+1) t' } Z (L+1) t':=by
 have hg:(h.update a (Obj.putSet Z t')).get? a=some { o with data:=.set Z (L+1) t' }:=by have:=mj (Obj.putSet Z t') X.get (by rw[putSet_of Z t' X.dat];rfl);rw[putSet_of Z t' X.dat] at this;exact this
 exact⟨hg,X.exa,rfl,T',he,λx hx=>⟨ah0 (R x hx).1 X.get X.dat (jd h a _),(R x hx).2⟩,hn,hl,hp⟩
def Oq(h:n<=128):n<=sizeLine:=by rw[pq];exact a_ h (by decide)
def Yu(X:Oo knd pk s.heap a xs o G ep t)(hm:Yr (sizeAbove wanted-1))(hz:G.size<=sizeAbove wanted-1)(hb:sizeAbove wanted<=128)(h:∀h' L o' qk R t',Heap.SameBut a s.heap h'->Oo knd pk h' a L o' qk R t'->L.Perm xs->t'.mask=sizeAbove wanted-1->t'.place.size=G.size->Q () { s with heap:=h' }) :
 wpAny (model prog w) A (setRelay a wanted) Q E s:=by
 obtain⟨t',Z,e,e1,T',p,sz,hl,hp,_⟩:=ank hm t.finger (t.movedTo (sizeAbove wanted-1)) t.led t.plain G hz;unfold setRelay;refine aa (m6 X.get X.dat X.tab.fits ?_);dsimp only;rw[az (by have:=Oq hb;exact j_ this)];have er:t.relaid (G.map (·.1)) wanted=some (t',Z):=e;rw[er];refine aa ?_;have qq:wpAny (model prog w) A (if((Z.filterMap (G[·]?)).size != G.size)=true then(do unsupported "internal:set-table-lost-an-element";pure (Z.filterMap (G[·]?),t')) else pure (Z.filterMap (G[·]?),t'))
  (λr s'=>wpAny (model prog w) A (storeSet a r.1 r.2) Q E s') E s:=by
  rw[az (by simp[sz])];refine aj ?_;obtain⟨L,ex,px⟩:=Mw p X.ent;have hX:=newX X T' ex (λx hx=>X.keys x (px.mem_iff.mp hx)) ((px.map _).nodup_iff.mpr X.nod) (hl.trans X.led) (hp.trans X.pla);refine wpAny_storeSet_of X.get X.dat (h _ _ _ _ _ _ (jd s.heap a _) hX px e1 (by rw[T'.Ys,sz])) (Oq (by rw[sz];exact a_ hz (a_ C_ hb)))
 exact qq
def ah1(q3:Om knd pk)(hu:A.units<cLine)(hk:IsTupleKey knd s.heap k p)(hp:pk (k,p))(hS:By knd pk s.heap a S n)(hn:n+1<32)(h:∀h' n' b,Heap.SameBut a s.heap h'->By knd pk h' a (λG=>S G\/G=k) n'->n'<=n+1->Q b { s with heap:=h' }) :
 wpAny (model prog w) A (setAddHashed a (.ref p) (tupleKeyHash knd k)) Q E s:=by
 obtain⟨xs,o,es,ep,t,X,hm,hl,nf⟩:=hS;obtain⟨N,F⟩:=X.tab.fst (tupleKeyHash knd k);have q0:=X.size;unfold setAddHashed setAddHashedIn;refine jc (aa (m6 X.get X.dat X.tab.fits ?_));dsimp only;rw[ahy];simp only[dg,jk];refine aa (Rv hu hk X F (λi x hi R=>?_) (λq6=>?_))
 .dsimp only
  refine aj ?_;have q7:S k:=(hm k).mpr (cu.mpr ⟨x,cj hi,R⟩);have:=h s.heap n false (Heap.SameBut.refl a s.heap) ⟨xs,o,es,ep,t,X,λG=>by
   rw[<- hm G];exact⟨λh=>h.elim id (λe=>e▸q7),.inl⟩,hl,nf⟩ x_
  exact this
 .dsimp only
  refine aa (m6 X.get X.dat X.tab.fits ?_);dsimp only;have room:t.place.size+1<=t.mask:=by have:=X.tab.msk;rcases this with e|e|e|e|e<;>lia
  have T':=X.tab.put (x:=.ref p) F room;have Jo:(t.put (P t.mask (tupleKeyHash knd k) N).j).1.plain=true:=X.pla;rw[Jo];simp only[j6];refine aa (aa7 q3 hk hp ?_);simp only[j6];obtain⟨L,ex,px⟩:=Mw (f:=ent knd) (insertAt_perm es (t.put (P t.mask (tupleKeyHash knd k) N).j).2 (tupleKeyHash knd k,.ref p)) (xs:=xs++[(k,p)]) (by rw[Array.toList_push,X.ent,oh];rfl);have pm:=px.map (·.1);have q2:(L.map (·.1)).Nodup:=pm.nodup_iff.mpr (by
   rw[oh,wy];refine⟨X.nod,by simp,λa ha b hb=>?_⟩;simp at hb;subst hb;rintro rfl;obtain⟨x,R,e⟩:=cu.mp ha;exact q6 x R e)
  have Rw:∀x∈L,IsTupleKey knd s.heap x.1 x.2/\pk x:=λx R=>by
   rcases fj.mp (px.mem_iff.mp R) with R|R
   .exact X.keys x R
   .simp at R;subst R;exact⟨hk,hp⟩
  have hX:=newX X T' ex Rw q2 X.led X.pla;have Hn:∀G,(S G\/G=k)↔G∈L.map (·.1):=λG=>by rw[pm.mem_iff,oh,fj,hm G];simp
  have qk:L.length=n+1:=by rw[px.length_eq];simp[hl]
  have qq:(insertAt es (t.put (P t.mask (tupleKeyHash knd k) N).j).2 (tupleKeyHash knd k,.ref p)).size=es.size+1:=Mt _ _ _;refine aa (wpAny_storeSet_of X.get X.dat ?_ (Oq (by rw[qq];exact e_ (c_ (v_ (f_ q0)) (c_ (v_ (f_ hl)) (b_ hn (by decide)))))));have qv:(t.put (P t.mask (tupleKeyHash knd k) N).j).1.place.size=es.size+1:=by rw[T'.Ys,qq]
  by_cases Z:(t.put (P t.mask (tupleKeyHash knd k) N).j).1.tooFull=true
  .rw[Z]
   simp only[qw,Bool.and_self,j6];obtain⟨g1,g2,g3,g4,g5⟩:=afh (es.size+1) (c_ (v_ (f_ q0)) (c_ (v_ (f_ hl)) hn));refine aa (Yu hX g1 (by rw[qq];exact g2) g5 λh' q4 o2 q1 q5 t2 sb X2 p2 em ps=>?_);refine aj (h h' (n+1) true ((jd s.heap a _).trans sb) ⟨q4,o2,q1,q5,t2,X2,λG=>?_,by rw[p2.length_eq,qk],?_⟩ (bh _))
   .exact(Hn G).trans (p2.map (·.1)).mem_iff.symm
   .rw[ps,em,qq];exact t_ g4
  .rw[Bool.not_eq_true] at Z
   rw[Z];simp only[Bool.and_false,dg,jk];refine aj (h _ (n+1) true (jd s.heap a _) ⟨L,_,_,_,_,hX,Hn,qk,?_⟩ (bh _));unfold tooFull at Z;have hf:(t.put (P t.mask (tupleKeyHash knd k) N).j).1.fill=es.size+1:=by unfold fill;rw[qv,T'.dum];rfl
   rw[hf] at Z;rw[qv];simp at Z;exact Z
end
open PySem
def upto(J:Nat->β->Shared->Prop)(G:∀i b z,i<n->J i b z->wpAny M A (f i b) (λr R=>match r with|.yield Z=>J (i+1) Z R|.done Z=>Q Z R) E z)(fin:∀b z,J n b z->Q b z)(start:J 0 b s) :
 wpAny M A (forIn [:n] b f) Q E s:=by
 have go:∀(k i:Nat)(b:β)(z:Shared),n=i+k->J i b z->wpAny M A (forIn (List.range' i k) b f) Q E z:=by
  intro k
  induction k with
  |zero=>intro i b z e hj;subst e;exact aj (fin b z hj)
  |succ k ih =>
   intro i b z e hj;show wpAny M A (forIn (i::List.range' (i+1) k) b f) Q E z;rw[List.forIn_cons];refine aa (ik (G i b z (by lia) hj) (λr R L=>?_) λ_ _ x=>x)
   match r,L with
   |.done Z,L=>exact aj L|.yield Z,L=>exact ih (i+1) Z R (by lia) L
 have e:(forIn [:n] b f:Sem β)=forIn (List.range' 0 n) b f:=by rw[Std.Legacy.Range.forIn_eq_forIn_range'];simp[Std.Legacy.Range.size]
 rw[e];exact go n 0 b s (by lia) start
def sub_dict_set:isSubtype (.type "dict") (.type "set")=pure false:=by rw[isSubtype_type];kernel_rfl
def sub_dict_frozenset:isSubtype (.type "dict") (.type "frozenset")=pure false:=by rw[isSubtype_type];kernel_rfl
section
variable{prog:Program}{w:World}{K:Type}[DecidableEq K]{knd:KeyKind prog w K}{pk:List K×Addr->Prop}{A:Around}{E:Y1}{s:Shared}
def Er(Z:s.TypeIs v T)(L:isSubtype (.type T) (.type "set")=pure false)(G:isSubtype (.type T) (.type "frozenset")=pure false)(h:Q false s) :
 wpAny (model prog w) A (Builtin.Frozenset.isAnySet v) Q E s:=by
 unfold Builtin.Frozenset.isAnySet;refine aa (nj Z L ?_);exact nj Z G h
def a7o(Z:s.TypeIs v "set")(h:Q true s):wpAny (model prog w) A (Builtin.Frozenset.isAnySet v) Q E s:=by unfold Builtin.Frozenset.isAnySet;refine aa (nj Z sub_set_self ?_);exact aj h
def Ax(w:World):Obj:={ cls:=.type "set",dict:=none,data:=.set #[] 0 (.fresh 0 0 (!bt w)) }
def anq(Z:h.get? a=some (Ax w)):By knd pk h a (λ_=>False) 0 :=
 ⟨[],Ax w,#[],0,_,⟨Z,⟨rfl,rfl,rfl⟩,rfl,⟨.inl rfl,rfl,rfl,λi j a b e=>by simp[SetTable.fresh] at e,λi j e=>by simp[SetTable.fresh] at e,by simp[SetTable.fresh],λi j e a=>by simp[SetTable.fresh] at a⟩,
  rfl,λx G=>by simp at G,List.nodup_nil,rfl,rfl⟩,λk=>by simp,rfl,by simp[SetTable.fresh]⟩
set_option tactic.hygienic true in
def anr(hS:By knd pk s.heap a S n)(hl:n+m<64)(h:∀Z,Heap.SameBut a s.heap Z->By knd pk Z a S n->Q () { s with heap:=Z }):wpAny (model prog w) A (setRoomFor a m) Q E s:=by
 obtain⟨xs,o,es,ep,t,X,hm,J,nf⟩:=hS;have R:=X.size;unfold setRoomFor;refine aa (m6 X.get X.dat X.tab.fits ?_);dsimp only;unfold roomFor;have y:=X.tab.Ys;split
 .rename_i Y e
  split at e
  .cases e
   obtain⟨g1,g2,g3,g4⟩:=ahu (t.place.size+m) (c_ (v_ (f_ y)) (c_ (v_ (f_ R)) (c_ (v_ (f_ J)) hl)));refine Yu X g1 (by lia) g4 λZ C o2 G L t2 sb X2 u em ps=>h Z sb ⟨C,o2,G,L,t2,X2,λk'=>?_,by rw[u.length_eq,J],?_⟩
   .exact(hm k').trans (u.map (·.1)).mem_iff.symm
   .rw[ps,em];lia
  .cases e
 .exact aj (h s.heap (Heap.SameBut.refl _ _) ⟨xs,o,es,ep,t,X,hm,J,nf⟩)
theorem By.get(L:By knd pk h a S n):∃o Z G t,h.get? a=some o/\o.ExactSet/\o.data=.set Z G t/\t.fits Z.size=true :=
 let ⟨_,o,Z,G,t,X,_⟩:=L;⟨o,Z,G,t,X.get,X.exa,X.dat,X.tab.fits⟩
def By.typeIs(Z:By knd pk s.heap a S n):s.TypeIs (.ref a) "set" :=
 let ⟨o,_,_,_,ho,hc,_⟩:=Z.get;⟨o,ho,hc.1⟩
def By.congr(G:By knd pk h a S n)(e:∀k,S k↔Z k):By knd pk h a Z n :=
 let ⟨xs,o,es,ep,t,X,hm,r⟩:=G;⟨xs,o,es,ep,t,X,λk=>(e k).symm.trans (hm k),r⟩
def ah2(z1:Om knd pk){id:String}(hu:A.units<cLine)(hS:By knd pk s.heap a S n)(hd:s.heap.DictOfH (tupleKind knd) d Z)(zk:(d==sysModules)=false)(z0:∀x∈Z,pk (x.1,x.2.1))(hl:n+Z.length<31)(h:∀G n',Heap.SameBut a s.heap G->By knd pk G a (λk=>S k\/k∈Z.map (·.1)) n'->Q () { s with heap:=G }) :
 wpAny (model prog w) A (Builtin.Frozenset.updateFrom id a (.ref d)) Q E s:=by
 have hT:=hd.typeIs;obtain⟨od,q3,z5,qq,Rx,L,q6,q8,z9⟩:=hd;obtain⟨o0,z8,yy,t0,q0,z7,qv,z4⟩:=hS.get;have Jj:d≠a:=by rintro rfl;rw[qq] at q0;cases q0;rw[L] at qv;cases qv
 have qk:q3.size=Z.length:=qd q6;unfold Builtin.Frozenset.updateFrom;refine aa (Er hT sub_dict_set sub_dict_frozenset ?_);simp only[dg,jk];refine aa (uf hT ?_);rw[bf (by decide)];refine aa (wpAny_rule ?_);refine aa (m:=Builtin.Frozenset.addrOf (.ref d)) (aj ?_);rw[az (by rw[zk];decide)];refine aa (qe qq L ?_);refine aa (gw qq L ?_);refine aa (anr hS (by lia) λh1 q5 zw=>?_);have z3:h1.get? d=some od:=(q5.2 d Jj).trans qq;refine aa (gw z3 L ?_);refine aa ?_;refine upto (λi _ z=>∃G n',z={ s with heap:=G }/\By knd pk G a (λk=>S k\/k∈(Z.take i).map (·.1)) n'/\n'<=n+i/\Heap.SameBut a s.heap G) (λi _ z lt q1=>?_) (λ_ z q1=>?_) ⟨h1,n,rfl,zw.congr (λk=>by simp),x_,q5⟩
 .obtain⟨G,n',rfl,Ve,Vf,R⟩:=q1
  have q2:G.get? d=some od:=(R.2 d Jj).trans qq;refine aa (gw q2 L ?_);have lx:i<Z.length:=b_ lt (f_ qk)
  have he:q3[i]?=some (entryOfKey (tupleKind knd) Z[i]):=by rw[entry_at q6];simp[lx]
  rw[he];have q7:IsTupleKey knd G Z[i].1 Z[i].2.1:=ah0 (q8 _ (ud lx)) q0 qv R;show wpAny _ _ (holding [.ref Z[i].2.1] (setAddHashed a (.ref Z[i].2.1) (tupleKeyHash knd Z[i].1)) >>= _) _ _ _;refine aa (jc (ah1 (s:={ s with heap:=G }) z1 hu q7 (z0 _ (ud lx)) Ve (by lia) λzg z2 b q4 zv z6=>?_));refine aa (qe ((q4.2 d Jj).trans q2) L ?_);rw[bne_self_eq_false];refine aj ⟨zg,z2,rfl,zv.congr (λk=>?_),by lia,R.trans q4⟩;rw[List.take_add_one,oh,fj,show Z[i]?=some Z[i] by simp[lx]];simp[or_assoc]
 .obtain⟨G,n',rfl,Ve,Vf,R⟩:=q1
  refine aj (h G n' R (Ve.congr λk=>?_));rw[List.take_of_length_le (g_ qk)]
end
section
variable{prog:Program}{w:World}{K:Type}[DecidableEq K]{knd:KeyKind prog w K}{pk:List K×Addr->Prop}{A:Around}{E:Y1}{s:Shared}
def anu(Z:R (.ref s.heap.objs.size) { s with heap:=s.heap.push (Ax w) }) :
 codeAny (model prog w) A (.call (.builtin "set.__new__") ⟨[.type "set",v],[]⟩) (wants R E) s:=by
 refine vz F.plain_set_new F.entry_set_new (wpAny_of_eq (F.newCall_set_1 v) ?_);have G:=sub_set_self;unfold Builtin.«set.__new__» Builtin.Frozenset.newClass
 wp_walk
 exact wpAny_askSetting (aj (aa (wpAny_alloc (aj (aj Z)))))
set_option maxHeartbeats 3200000 in
def Qa{R:Shared->Prop}(qk:wpAny (model prog w) A.in1.in1 (Builtin.Frozenset.updateFrom "set.__init__" s.heap.objs.size x) (λ_ s'=>R s') E { s with heap:=s.heap.push (Ax w) })(h:∀s',R s'->Q (.ref s.heap.objs.size) s') :
 wpAny (model prog w) A (call (.type "set") [x]) Q E s:=by
 obtain⟨c,tl,q0⟩:=qj.mro;have q3:=qj.made;have q1:=qj.sub;refine wpAny_call (codeAny_of_tree ?_);show wpAny _ _ (callAny (.type "set") _) _ _ _;refine aj ⟨Code.quiet_builtin _ (by decide+kernel),my F.entry_type_call ?_⟩;rw[Around.under_plain (weight_type_call_type "set" [x] []) rfl];have h1:=qj.notType;have h2:=qj.canCreate;have q5:=F.typeCall_set_1 x
 repeat (any_goals (first|assumption|wp_step))
 refine m9 (anu (v:=x) (E:=E) (R:=λobj L=>obj=.ref s.heap.objs.size/\L={ s with heap:=s.heap.push (Ax w) }) ⟨rfl,rfl⟩) λr L hr=>?_
 cases r with
 |error e=>exact hr
 |ok fl =>
  cases fl with
  |ret obj =>
   obtain⟨rfl,rfl⟩:=hr;have hS:(s.heap.push (Ax w)).get? s.heap.objs.size=some (Ax w):=bw _ rfl;have hT:Shared.TypeIs { s with heap:=s.heap.push (Ax w) } (.ref s.heap.objs.size) "set" := ⟨_,hS,rfl⟩;have q4:=qj.init.lookup;have q2:=qj.init.bind (.ref s.heap.objs.size)
   repeat (any_goals (first|assumption|wp_step))
   refine m9 (vz (R:=wants (λr G=>r=.none/\R G) E) qj.init.plain F.entry_set_init (check_set_init_1 hT ?_)) λqv G Z=>?_
   .unfold Builtin.«set.__init__» noKeywords
    generalize hUF:Builtin.Frozenset.updateFrom=UF at qk ⊢;unfold Ax at hS hT qk ⊢
    wp_walk
    exact ik qk (λ_ s' hr=>aj ⟨rfl,hr⟩) (λe s' he=>he)
   .cases qv with
    |error e=>exact Z
    |ok qq =>
     cases qq with
     |ret r =>
      obtain⟨rfl,hq⟩:=Z
      repeat (any_goals (first|assumption|wp_step))
      exact h _ hq
     |_=>exact Z.elim
  |_=>exact hr.elim
end
open PyProof.Rows (F.entry_set_update_loop F.plain_set_update_loop)
section
variable{prog:Program}{w:World}{K:Type}[DecidableEq K]{knd:KeyKind prog w K}{pk:List K×Addr->Prop}{A:Around}{E:Y1}{s:Shared}
def Ot{wr:X0}(L:IsTupleKey knd h ks p)(R:p∉wr)(Z:∀b o,b∉wr->h.get? b=some o->G.get? b=some o):IsTupleKey knd G ks p :=
 let ⟨o,items,n,ho,r⟩:=L;⟨o,items,n,Z p o R ho,r⟩
def By.moved{wr:X0}(R:By knd pk h a S n)(ha:a∉wr)(hw:∀(b:Addr) (ks:List K),b∈wr->¬IsTupleKey knd h ks b)(G:∀b o,b∉wr->h.get? b=some o->h'.get? b=some o):By knd pk h' a S n :=
 let ⟨xs,o,es,ep,t,X,r⟩:=R
 ⟨xs,o,es,ep,t,⟨G a o ha X.get,X.exa,X.dat,X.tab,X.ent,λx Z=>⟨Ot (X.keys x Z).1 (λL=>hw _ _ L (X.keys x Z).1) G,(X.keys x Z).2⟩,X.nod,X.led,X.pla⟩,r⟩
def anv(z0:Om knd pk){I:Addr}{P:Nat->Value->Prop}(hu:A.in1.units<cLine)(W:WalksS prog w A.in1 I fp wr G n P St)(a:Addr)(q0:a∉fp)(Z:List (List K×Addr))(q3:Z.length=n)(q8:∀i v x,P i v->Z[i]?=some x->v=.ref x.2)(zg:∀x∈Z,pk x)(hb:n<31)(z3:∀x∈Z,x.2∉wr)(q5:∀i (s:Shared),St i s->∀(b:Addr) (Z:List K),b∈wr->¬IsTupleKey knd s.heap Z b) :
 ∀(k i n':Nat)(s:Shared),n-i=k->i<=n->St i s->(∀x∈Z,IsTupleKey knd s.heap x.1 x.2) ->
  By knd pk s.heap a (λk'=>k'∈(Z.take i).map (·.1)) n'->n'<=i ->
  (∀L z1,Moved (a::wr) G s L->By knd pk L.heap a (λk'=>k'∈Z.map (·.1)) z1->R (.ok (.ret .none)) L) ->
  codeAny (model prog w) A (.builtin "set.update.loop" ⟨[.ref a,.ref I],[]⟩) R s:=by
 have q1:a∉wr:=λh=>q0 (W.sub _ h)
 have q2:∀b∈wr,b∈a::wr:=λb hb=>bc _ hb
 intro k
 induction k with
 |zero =>
  intro i n' s hk hi Mv Rw hS Vf hR;have z2:i=n:=by lia
  subst z2;refine my F.entry_set_update_loop ?_;rw[mz F.plain_set_update_loop _];show wpAny _ A.in1 (pyNext (.ref I) >>= _) _ _ s;refine aa (W.done s _ _ Mv λL hm=>?_);show wpAny _ A.in1 (ret Value.none) _ _ L;refine aj (hR L n' (hm.mono q2) ((hS.moved q1 (q5 _ s Mv) hm.heap).congr λk=>?_));rw[List.take_of_length_le (f_ q3)]
 |succ k ih =>
  intro i n' s hk hi Mv Rw hS Vf hR;have Jf:i<n:=by lia
  refine my F.entry_set_update_loop ?_;rw[mz F.plain_set_update_loop _];show wpAny _ A.in1 (pyNext (.ref I) >>= _) _ _ s;refine aa (W.item i s _ _ Jf Mv λv L hP q7 hm=>?_);have lx:i<Z.length:=b_ Jf (g_ q3)
  have q4:Z[i]?=some Z[i]:=by simp[lx]
  obtain rfl:=q8 i v _ hP q4;have qq:=ud lx;have Ve:=hS.moved q1 (q5 _ s Mv) hm.heap;have qk:∀x∈Z,IsTupleKey knd L.heap x.1 x.2:=λx hx=>Ot (Rw x hx) (z3 x hx) hm.heap
  show wpAny _ A.in1 (holding [Value.ref Z[i].2] (setAdd a (.ref Z[i].2)) >>= _) _ _ L;refine aa (jc ?_);unfold setAdd;refine jc ?_;refine aa (wpAny_pyHash_tuple hu (qk _ qq) ?_);refine ah1 (s:={ L with toks:=L.toks+(Z[i].1.length+1) }) z0 hu (qk _ qq) (zg _ qq) Ve (by lia) λh' n2 b qv q6 Yk=>?_
  obtain⟨oa,z6,z9,ta,z5,z8,z4,z7⟩:=Ve.get;refine aj ⟨plainId_quiet F.plain_set_update_loop _,ih (i+1) n2 _ (by lia) Jf (W.frame _ L _ _ q7 (zq _ _) λb hb o e=>?_) (λx hx=>ah0 (qk x hx) z5 z4 qv) (q6.congr λk=>?_) (a_ Yk (v_ Vf)) λzv n3 zw zk=>?_⟩
  .rw[qv.2 b (λh:b=a=>q0 (by rw[<- h];exact hb))];exact e
  .rw[List.take_add_one,oh,fj,q4];simp
  .refine hR zv n3 (Moved.trans W.gtrans ((hm.mono q2).then_heap (zq _ _) λb o hb e=>?_) zw) zk
   rw[qv.2 b (λh:b=a=>hb (by rw[h];exact bu))];exact e
def ah4(q4:Om knd pk){id:String}{ks:List (List K×Addr)}(hh:A.handled=none)(hu:A.in1.units+1<cLine)(hS:By knd pk s.heap a (λ_=>False) 0)(hl:s.heap.IsList l items)(R:items.toList=ks.map λx=>.ref x.2)(Rw:∀x∈ks,IsTupleKey knd s.heap x.1 x.2)(q3:∀x∈ks,pk x)(qq:ks.length<31)(h:∀h' tk n',(∀b o,b≠a->s.heap.get? b=some o->h'.get? b=some o)->By knd pk h' a (λk=>k∈ks.map (·.1)) n'->Q () { s with heap:=h',toks:=tk }) :
 wpAny (model prog w) A (Builtin.Frozenset.updateFrom id a (.ref l)) Q E s:=by
 have hT:s.TypeIs (.ref l) "list" := let ⟨o,Z,L,_⟩:=hl;⟨o,Z,L⟩;have qk:items.size=ks.length:=by rw[<- mq,R];simp
 obtain⟨oa,zv,zg,ta,G,z0,qv,zw⟩:=hS.get;unfold Builtin.Frozenset.updateFrom;refine aa (Er hT F.sub_list_set F.sub_list_frozenset ?_);simp only[dg,jk];refine aa (uf hT ?_);rw[az (by decide)];refine aa (wpAny_pyIter_list hl ?_);refine aa (wpAny_runValue ?_);have Jf:l<s.heap.objs.size:=let ⟨o,Z,_⟩:=hl;au Z
 have q6:a<s.heap.objs.size:=au G
 have q8:l≠a:=by rintro rfl;obtain⟨o,Z,_,n,hd⟩:=hl;rw[Z] at G;cases G;rw[hd] at qv;cases qv
 have q7:l≠s.heap.objs.size:=gn Jf;have q0:a∉[s.heap.objs.size,l]:=by simp only[bx,List.not_mem_nil,or_false,not_or];exact⟨gn q6,λe=>q8 e.symm⟩
 have keep:∀b o,s.heap.get? b=some o->(s.heap.push { cls:=.type "list_iterator",data:=.fields #[.ref l,.int 0 0] }).get? b=some o:=λb o e=>ak _ e
 refine anv q4 (by lia) ((Walks.list (by simp[hh]) _ l q7 items).toS) a q0 ks qk.symm (λi v x hv hx=>?_) q3 (c_ (f_ qk) qq) (λx hx L=>?_) (λi s' st b kk hb q1=>?_) items.size 0 0 _ rfl (j4 _)
  ⟨⟨_,bw _ rfl,rfl,rfl⟩,hl.push _⟩ (λx hx=>Ot (wr:=[]) (Rw x hx) (by simp) λb o _ e=>keep b o e) ?_ (bh _) ?_
 .have:items.toList[i]?=some v:=by simpa using hv
  rw[R,ir,hx] at this;exact(gf this).symm
 .simp at L
  obtain⟨o,_,_,Z,_⟩:=Rw x hx;have:=au Z;rw[L] at this;exact je _ this
 .simp at hb
  subst hb;obtain⟨o,_,_,Z,L,_⟩:=q1;obtain⟨⟨o',Uw,Wh,_⟩,_⟩:=st;rw[Z] at Uw;cases Uw;rw[L] at Wh;exact absurd Wh (by decide)
 .refine(hS.moved (wr:=[]) (by simp) (by simp) λb o _ e=>keep b o e).congr λk=>by simp
 .intro s' q5 hm Ve
  obtain⟨h',g',d',zk,q2⟩:=s';have eg:g'=s.gens:=hm.gens;have ed:d'=s.drawn:=hm.drawn;have eo:q2=s.os:=hm.os;subst eg;subst ed;subst eo;show wpAny _ _ _ _ _ _;refine aj (h h' zk q5 (λb o hb e=>?_) Ve);refine hm.heap b o ?_ (keep b o e);simp only[bx,List.not_mem_nil,or_false,not_or];exact⟨hb,gn (au e)⟩
end
theorem Ry{Z:Type}:∀{l:List Z}{i:Nat}(h:i<l.length),(l[i]::l.eraseIdx i).Perm l
 |x::l,0,_=>List.Perm.refl _
 |x::l,i+1,h=>by
  have G:=Ry (l:=l) (i:=i) (by simpa using h);simp only[List.getElem_cons_succ,xq];exact(List.Perm.swap x _ _).trans (G.cons x)
theorem ac6{R:Type}(L:Nat->Nat):∀(G k:Nat)(Z:List R)(out:Array R),Z.length=G->(pickOrder.go L G k Z out).toList.Perm (out.toList++Z)
 |0,k,Z,out,h=>by
  have:Z=[]:=qp.mp h;subst this;unfold pickOrder.go;simp
 |G+1,k,Z,out,h=>by
  unfold pickOrder.go;have hq:L k%Z.length<Z.length:=Nat.mod_lt _ (by lia)
  rw[gb hq];dsimp only;refine(ac6 L G (k+1) _ _ (by rw[List.length_eraseIdx];split<;>lia)).trans ?_;rw[Array.toList_push,n6];refine List.Perm.append_left _ ?_;exact Ry hq
def afl(G:Nat->Nat)(Z:Array α):(pickOrder G Z).toList.Perm Z.toList:=by unfold pickOrder;simpa using ac6 G Z.size 0 Z.toList #[] (by simp)
theorem Rz{R:Type}[DecidableEq R]:∀{Z l2:List R},Z.Nodup->Z ⊆ l2->l2.length<=Z.length->∀x∈l2,x∈Z
 |[],l2,_,_,h,x,hx=>by
  have:l2=[]:=qp.mp (by simpa using h);subst this;simp at hx
 |a::Z,l2,hn,hs,h,x,hx=>by
  by_cases e:x=a
  .subst e;exact bu
  .refine bc _ ?_
   have ha:a∈l2:=hs bu;have G:=rm.mp hn;refine Rz (l2:=l2.erase a) G.2 (λy L=>?_) ?_ x ((List.mem_erase_of_ne e).mpr hx)
   .exact(List.mem_erase_of_ne (λ(e:y=a)=>G.1 (by rw[<- e];exact L))).mpr (hs (bc _ L))
   .rw[List.length_erase_of_mem ha];simp at h;omega
def Wi:entryFor table "set.__ne__" = some Builtin.«frozenset.__ne__» :=
 entryFor_alias (id' := "frozenset.__ne__") (by kernel_rfl) rfl (by decide+kernel) (by kernel_rfl)
def sub_set_frozenset:isSubtype (.type "set") (.type "frozenset")=pure false:=by rw[isSubtype_type];kernel_rfl
section
variable{prog:Program}{w:World}{K:Type}[DecidableEq K]{knd:KeyKind prog w K}{pk:List K×Addr->Prop}{A:Around}{E:Y1}{s:Shared}
set_option tactic.hygienic true in
def anw(X:Oo knd pk s.heap a L o Z C t)(h:∀l,l.toList.Perm Z.toList->Q l s):wpAny (model prog w) A (setWalk a) Q E s:=by
 unfold setWalk;refine aa (m6 X.get X.dat X.tab.fits ?_);dsimp only;refine aa (anm ?_);split
 .exact aa (wpAny_askSetting (aj (h _ (afl _ _))))
 .rename_i G
  have G:bt w=false:=by simpa using G
  split
  .rename_i Y
   have Y:(!t.plain&&decide (Z.size > 1))=true:=Y;rw[X.pla] at Y;cases Y
  .refine aa ?_
   have:wpAny (model prog w) A (if(!t.led&&decide (Z.size > 1))=true then unsupported "set:maker-not-led" else pure ()) (λ_ J=>wpAny (model prog w) A (pure Z) Q E J) E s:=by rw[X.led,G];simp only[qw,jo,Bool.false_and,dg,jk];exact aj (aj (h Z (List.Perm.refl _)))
   exact this
def afm(Z:IsTupleKey knd s.heap G a)(h:Q false s):wpAny (model prog w) A (Builtin.Frozenset.quietEq (.ref a)) Q E s:=by
 unfold Builtin.Frozenset.quietEq;refine aa (wpAny_specialOf Z.typeIs F.slot_tuple_eq.lookup ?_);refine aj ?_;have:(some (Value.builtin "tuple.__eq__")==some (Value.builtin "object.__eq__"))=false:=by decide
 rw[this];exact h
def Wj(X:Oo knd pk h a R o G ep t)(Z:e∈G.toList):∃x∈R,e=ent knd x:=by rw[X.ent] at Z;obtain⟨x,L,rfl⟩:=cu.mp Z;exact⟨x,L,rfl⟩
def afn(X:Oo knd pk s.heap a xs o es ep t)(Y:Oo knd pk s.heap b ys o' qk qq t')(h:∀l:List (Int×Value),l.Perm es.toList->Q l s):wpAny (model prog w) A (Builtin.Frozenset.walkUnseen a b) Q E s:=by
 unfold Builtin.Frozenset.walkUnseen;refine aa (o9 X.get X.dat X.tab.fits ?_);refine aa (o9 Y.get Y.dat Y.tab.fits ?_);refine aa ?_;refine q9 _ (λZ r s'=>r.1=none/\s'=s/\∀e∈Z,∃ks p,e.2=.ref p/\IsTupleKey knd s.heap ks p) _ ?_ ?_ _ _ ⟨rfl,rfl,λe G=>?_⟩
 .rintro e Z r s' ⟨hr,rfl,Cj⟩
  obtain⟨ks,p,L,hk⟩:=Cj e bu;obtain⟨h0,x0⟩:=e;subst L;dsimp only;refine aa (afm hk ?_);simp only[qw,j6];unfold Builtin.Frozenset.walk;refine aa (aa (anw X λl hl=>aj ?_));exact aj (aj (h _ hl))
 .rintro⟨r1,r2⟩ s' ⟨hr,rfl,_⟩
  simp only at hr;subst hr;exact aj (h _ (List.Perm.refl _))
 .rcases fj.mp G with G|G
  .obtain⟨x,R,rfl⟩:=Wj X G
   exact⟨x.1,x.2,rfl,(X.keys x R).1⟩
  .obtain⟨x,R,rfl⟩:=Wj Y G
   exact⟨x.1,x.2,rfl,(Y.keys x R).1⟩
def at6{id:String}(hu:A.units<cLine)(hS:By knd pk s.heap a S n)(hT:By knd pk s.heap b T m)(h:∀c:Bool,(c=true↔n<=m/\∀k,S k->T k)->Q c s):wpAny (model prog w) A (Builtin.Frozenset.subsetOf id a b) Q E s:=by
 have Us:=hT;obtain⟨xs,o,es,ep,t,X,hm,hn,_⟩:=hS;obtain⟨ys,o',qv,qk,t',Y,q0,Vf,_⟩:=hT;have h1:=X.size;have h2:=Y.size;unfold Builtin.Frozenset.subsetOf Builtin.Frozenset.sizeOf;refine aa (aa (o9 X.get X.dat X.tab.fits (aj ?_)));refine aa (aa (o9 Y.get Y.dat Y.tab.fits (aj ?_)));split
 .exact aj (h false (by simp;lia))
 .refine aa (wpAny_setEpoch_of X.get X.dat X.tab.fits ?_)
  refine aa (afn X Y λl hl=>?_);refine aa ?_;refine q9 _ (λG r s'=>r.1=none/\s'=s/\(∀e∈G,∃x∈xs,e=ent knd x)/\∀x∈xs,ent knd x∈G\/T x.1) _ ?_ ?_ _ _ ⟨rfl,rfl,λe he=>Wj X (hl.mem_iff.mp he),λx L=>.inl (hl.mem_iff.mpr (by rw[X.ent];exact cu.mpr ⟨x,L,rfl⟩))⟩
  .rintro e G r s' ⟨hr,rfl,Cj,R⟩
   obtain⟨x,L,rfl⟩:=Cj e bu;show wpAny _ _ (holding [.ref x.2] (setFind b (.ref x.2) (tupleKeyHash knd x.1)) >>= _) _ _ _;refine aa (jc (anp hu (X.keys x L).1 Us λr hr=>?_));cases r with
   |none =>
    simp only[Option.isNone_none,j6];refine aj (aj (h false ?_));simp only[dg,false_iff,not_and,Classical.not_forall];intro _;refine⟨x.1,(hm x.1).mpr (cu.mpr ⟨x,L,rfl⟩),λZ=>?_⟩;have:=hr.mpr Z;cases this
   |some i =>
    simp only[Option.isNone_some,dg,jk];unfold Builtin.Frozenset.unchanged;refine aa (aa (wpAny_setEpoch_of X.get X.dat X.tab.fits ?_));rw[az (by simp)];refine aj (aj ⟨rfl,rfl,λe he=>Cj e (bc _ he),λy hy=>?_⟩);rcases R y hy with Z|Z
    .rcases bx.mp Z with Z|Z
     .right
      have qq:T x.1:=hr.mp rfl;have e2:y.2=x.2:=by have:=nq Prod.snd Z;unfold ent at this;injection this
      have:y.1=x.1:=IsTupleKey.inj (X.keys y hy).1 (by rw[e2];exact(X.keys x L).1);rw[this];exact qq
     .exact .inl Z
    .exact .inr Z
  .rintro⟨r1,r2⟩ s' ⟨hr,rfl,_,R⟩
   simp only at hr;subst hr;refine aj (h true ?_);simp only[true_iff];refine⟨by lia,λk hk=>?_⟩;obtain⟨x,L,rfl⟩:=cu.mp ((hm k).mp hk);rcases R x L with Z|Z
   .simp at Z
   .exact Z
set_option tactic.hygienic true in
def az4(hu:A.in1.units<cLine)(qq:A.units<cLine)(C:By knd pk s.heap a S n)(R:By knd pk s.heap b T m)(h:∀c:Bool,(c=true↔¬∀k,S k↔T k)->Q (.bool c) s):wpAny (model prog w) A (compareOp .NotEq (.ref a) (.ref b)) Q E s:=by
 show wpAny _ _ (richCompare .NotEq (.ref a) (.ref b)) _ _ _;refine wpAny_richCompare_same_room (op:=.NotEq) C.typeIs R.typeIs F.slot_set_ne (jx F.slot_set_ne C.typeIs Wi ?_ (F.args_set_ne_2 _ _)) qq;have fin:∀c:Bool,(c=true↔∀k,S k↔T k)->Q (.bool !c) s:=λc hc=>h _ (by cases c<;>simp_all)
 have Ve:=C;have Us:=R;obtain⟨xs,o,es,ep,t,X,hm,hn,_⟩:=Ve;obtain⟨ys,o',qv,qk,t',Y,Z,y,_⟩:=Us;have h1:=X.size;have h2:=Y.size;have L:(∀k,S k↔T k)->n=m:=λe=>by
  have:(xs.map (·.1)).Perm (ys.map (·.1)):=(List.perm_ext_iff_of_nodup X.nod Y.nod).mpr λk=>by rw[<- hm k,<- Z k];exact e k
  have:=this.length_eq;simp at this;exact u_ (a_ (g_ hn) (a_ (f_ this) (f_ y))) (a_ (g_ y) (a_ (g_ this) (f_ hn)))
 have G:n=m->(∀k,S k->T k)->∀k,S k↔T k:=λe hs k=>⟨hs k,λhk=>(hm k).mpr (Rz X.nod (λk hk=>(Z k).mp (hs k ((hm k).mpr hk))) (by simp;exact a_ (f_ y) (a_ (g_ e) (g_ hn))) k ((Z k).mp hk))⟩
 show wpAny _ _ (Builtin.Frozenset.slot1 "__ne__" ⟨[.ref a,.ref b],[]⟩ >>= _) _ _ _;unfold Builtin.Frozenset.slot1 slotArgs;simp only[List.isEmpty_nil,jo,dg,↓reduceIte,bind_assoc,gq,List.length_nil,bne_self_eq_false];refine aa (aj ?_)
 try dsimp only
 refine aa (aj ?_)
 try dsimp only
 refine aa (a7o R.typeIs ?_);simp only[jo,dg,↓reduceIte];refine aa (m:=Builtin.Frozenset.addrOf (.ref a)) (aj ?_);refine aa (m:=Builtin.Frozenset.addrOf (.ref b)) (aj ?_);unfold Builtin.Frozenset.sizeOf;refine aa (aa (o9 X.get X.dat X.tab.fits (aj ?_)));refine aa (aa (o9 Y.get Y.dat Y.tab.fits (aj ?_)));refine aa ?_;split
 .rename_i u
  refine aj ?_;refine aj ⟨_,rfl,(λe=>nomatch e),fin false ?_⟩;simp only[dg,false_iff];intro e;have:=L e;simp at u;lia
 .rename_i u
  have J:n=m:=by simp at u;lia
  refine aa (aa (nj C.typeIs sub_set_frozenset ?_));refine aj ?_;simp only[dg,↓reduceIte];refine at6 hu C R λc hc=>?_
  exact aj ⟨_,rfl,(λe=>nomatch e),fin c (hc.trans ⟨λe=>G J e.2,λe=>⟨f_ J,λk=>(e k).mp⟩⟩)⟩
end
def ac7{prog:Program}{w:World}{A:Around}{G:Type}{Q:G->Shared->Prop}{E:Y1}{s:Shared}(L:A.handled=none)(q:∀Z x,(∀b o,s.heap.get? b=some o->Z.get? b=some o)->(∃o,Z.get? x=some o/\o.cls=.type "StopIteration")->E (.ref x) { s with heap:=Z }):wpAny (model prog w) A (newExc (.type "StopIteration") [] >>= raiseNew) Q E s:=by simp only[newExc,newTuple];refine aa (aa (jn (aa (m:=firstArgMember _ _) (wpAny_of_eq (a:=Value.none) (by first|rfl|(simp only[firstArgMember];rfl)) (jn ?_ (by size_fits)))) (by size_fits)));simp only[raiseNew];refine aa (wpAny_handled ?_);rw[L];exact aa (aj (wpAny_throw (q _ _ (λb o e=>ak _ (ak _ e)) ⟨_,bw _ rfl,rfl⟩)))
end Vb
namespace MW
open PySem (Str)
set_option genInjectivity true in
inductive D where
 |non|bl (b:Bool)|int (i:Int)|str (s:Str)|tup (ds:List D)|vl (ds:List D)|fz (ds:List D)|ref (n:Nat)
noncomputable abbrev Kx:=Sum Int Str
set_option genInjectivity true in
inductive MO where
 |lst (ds:List D)|dT (kvs:List (List Kx×D))|ins (c:Nat) (fs:List (Nat×D))|exc (c:Nat)
noncomputable abbrev dh:=List MO
noncomputable abbrev Env:=List (Option D)
set_option genInjectivity true in
inductive Res(α:Type) where
 |ok (a:α) (M:dh)|bad
namespace Res
noncomputable def bind{Z β:Type}(r:Res Z)(f:Z->dh->Res β):Res β :=
 match r with|ok a M=>f a M|bad=>bad
@[simp] def yl(a:α)(M:dh)(f:α->dh->Res β):(ok a M).bind f=f a M:=rfl
@[simp] def az5(f:α->dh->Res β):(bad:Res α).bind f=bad:=rfl
noncomputable def ue{α:Type}(o:Option α)(M:dh):Res α:=match o with|some a=>ok a M|none=>bad
@[simp] def Cm(a:α)(M:dh):ue (some a) M=ok a M:=rfl
@[simp] def at7(M:dh):ue (none:Option α) M=bad:=rfl
end Res
inductive Op2 where|add|sub|mul|fdiv|mod|pow
inductive Cp where|eq|ne|lt|le|gt|ge|is|ac8|inn|Qc
inductive Blt where
 |len|tuple|max|min|dict|sorted|isE (k:Nat)
inductive Bm where|append|pop|index
inductive Tg where
 |name (i:Nat)|names (is:Y2)
mutual
inductive Ex where
 |var (i:Nat)|cst (d:D)
 |bin (op:Op2) (a b:Ex)|neg (a:Ex)
 |cmp (op:Cp) (a b:Ex)|chain (o1 o2:Cp) (a b c:Ex)|Hx (o1 o2 o3:Cp) (a b c d:Ex)|R8 (a b:Ex)|dne (a b:Ex)
 |and (a b:Ex)|or (a b:Ex)|not (a:Ex)|ite (c a b:Ex)
 |tup (es:Cu)|lst (es:Cu)|Dg (es:Cu)|afo
 |ix (a b:Ex)|cut (a:Ex) (lo hi:OEx)
 |call (f:Nat) (es:Cu)|ask (f:Nat) (es:Cu)
 |blt (b:Blt) (es:Cu)|bm (m:Bm) (o:Ex) (es:Cu)
 |comp (v:Bool) (k:Nat) (t:Tg) (it:Og) (e:Ex)|Ca (v:Bool) (k:Nat) (t:Tg) (it:Og) (c:Ex) (e:Ex)
 |abd (e:Ex)
inductive Cu where
 |nil|cons (e:Ex) (es:Cu)
inductive OEx where
 |none|some (e:Ex)
inductive Og where
 |val (e:Ex)|Mq (e:Ex)|enm (e:Ex)
end
noncomputable abbrev Ex.v:=Ex.var
noncomputable abbrev Ex.i(n:Int):Ex:=.cst (.int n)
noncomputable abbrev Ex.l(e:Ex):Ex:=.blt .len (.cons e .nil)
noncomputable abbrev Cu.z:=Cu.nil
noncomputable abbrev Cu.c:=Cu.cons
noncomputable abbrev Cu.o(a:Ex):Cu:=.cons a .nil
noncomputable abbrev Cu.p(a b:Ex):Cu:=.cons a (.cons b .nil)
noncomputable abbrev Cu.q(a b c:Ex):Cu:=.cons a (.cons b (.cons c .nil))
inductive Lv where
 |tg (t:Tg)|sub (o i:Ex)|fld (o:Ex) (f:Nat)
mutual
inductive Ar where
 |asg (l:Lv) (e:Ex)|expr (e:Ex)|iff (c:Ex) (a b:qm)|whl (c:Ex) (b:qm)|for_ (t:Tg) (it:Og) (b:qm)
 |ret (e:Ex)|cont|raise (c:Nat)|exq (f:Nat) (es:Cu)
inductive qm where
 |nil|cons (s:Ar) (r:qm)
end
noncomputable abbrev Ar.a(i:Nat)(e:Ex):Ar:=.asg (.tg (.name i)) e
noncomputable abbrev Ar.f(c:Ex)(b:qm):Ar:=.iff c b .nil
noncomputable abbrev qm.z:=qm.nil
noncomputable abbrev qm.c:=qm.cons
noncomputable abbrev qm.o(a:Ar):qm:=.cons a .nil
noncomputable abbrev qm.p(a b:Ar):qm:=.cons a (.cons b .nil)
noncomputable abbrev qm.q(a b c:Ar):qm:=.cons a (.cons b (.cons c .nil))
structure Fn where
 np:Nat
 ns:Nat
 body:qm
noncomputable def iw(M:dh):D->Option (List D)
 |.vl ds=>some ds|.ref n=>match M[n]? with|some (.lst ds)=>some ds|_=>none
 |_=>none
def zu(M:dh):D->Option (List D)
 |.tup ds=>some ds|d=>iw M d
noncomputable def ah7:D->Option Kx
 |.int i=>some (.inl i)|.str s=>some (.inr s)|_=>none
def abe:List D->Option (List Kx)
 |[]=>some []
 |d::ds=>match ah7 d,abe ds with
  |some k,some ks=>some (k::ks)|_,_=>none
def Mx:D->Option (List Kx)
 |.tup ds=>abe ds|_=>none
noncomputable def aob:Kx->D
 |.inl i=>.int i|.inr s=>.str s
def at8(Z:List Kx):D:=.tup (Z.map aob)
def Es:List D->Option (List (List Kx))
 |[]=>some []
 |d::ds=>match Mx d,Es ds with
  |some k,some ks=>some (k::ks)|_,_=>none
noncomputable def My(f:D->D->Option Bool):List D->List D->Option Bool
 |[],[]=>some true
 |a::as,b::bs=>match f a b,My f as bs with
  |some x,some y=>some (x&&y)|_,_=>none
 |_,_=>some false
instance:DecidableEq Kx:=inferInstanceAs (DecidableEq (Sum Int Str))
noncomputable def Ft{Z:Type}[DecidableEq Z](G:List (Z×D))(k:Z):Option D:=(G.find? λp=>decide (p.1=k)).map (·.2)
def Jk(M:dh):Nat->D->D->Option Bool
 |0,_,_=>none
 |n+1,a,b=>match a,b with
  |.int i,.int j=>some (decide (i=j))|.bl i,.bl j=>some (i==j)|.str i,.str j=>some (decide (i=j))|.non,.non=>some true|.tup as,.tup bs=>My (Jk M n) as bs
  |a,b=>match iw M a,iw M b with
   |some as,some bs=>if as.length=bs.length then My (Jk M n) as bs else some false
   |_,_=>none
def Ak(M:dh)(a b:D):Option Bool:=Jk M 6 a b
def R9(M:dh)(x:D):List D->Option (List Bool)
 |[]=>some []
 |y::ys=>match Ak M y x,R9 M x ys with
  |some a,some b=>some (a::b)|_,_=>none
def memD(M:dh)(x:D)(Z:List D):Option Bool:=(R9 M x Z).map (·.any id)
def afp(M:dh)(x:D)(Z:List D):Option Nat:=(R9 M x Z).bind (·.findIdx? id)
noncomputable def inL:List D->Option (List Int)
 |[]=>some []|.int i::r=>(inL r).map (i::·)|_::_=>none
noncomputable def Ux(n:Nat)(i:Int):Option Nat:=if 0<=i then(if i<n then some i.toNat else none) else if -(n:Int)<=i then some (i+n).toNat else none
noncomputable def clip(n:Nat)(d:Nat):Option Int->Nat
 |none=>d|some i=>if 0<=i then min i.toNat n else(i+n).toNat
def Qz(Z:List D)(G L:Option Int):List D:=(Z.drop (clip Z.length 0 G)).take (clip Z.length Z.length L-clip Z.length 0 G)
noncomputable def at9:List Int->Option Int
 |[]=>none|a::r=>some (r.foldl (λm x=>if m<x then x else m) a)
noncomputable def az6:List Int->Option Int
 |[]=>none|a::r=>some (r.foldl (λm x=>if x<m then x else m) a)
def keysOf(M:dh)(d:D):Option (List D) :=
 match d with
 |.ref n=>match M[n]? with
  |some (.dT kvs)=>some (kvs.map λp=>at8 p.1)
  |_=>iw M d
 |_=>iw M d
noncomputable def Ja{L:Type}[DecidableEq L](Z:List (L×D))(k:L)(v:D):List (L×D) :=
 if(Z.any λG=>decide (G.1=k))=true then Z.map (λG=>if G.1=k then(G.1,v) else G) else Z++[(k,v)]
noncomputable def Fv(Z:List (List Kx)):Bool:=decide (Z.length<=30)&&Z.all λk=>k.all λx=>match x with|.inl _=>true|.inr _=>false
noncomputable def Gx(Z G:List (List Kx)):Bool:=Z.all (λx=>G.any λy=>decide (y=x))&&G.all (λy=>Z.any λx=>decide (x=y))
noncomputable def ltP(p q:Int×Int):Bool:=decide (p.1<q.1)||(decide (p.1=q.1)&&decide (p.2<q.2))
def Q0(x:Int×Int):List (Int×Int)->List (Int×Int)
 |[]=>[x]|y::ys=>if ltP x y then x::y::ys else y::Q0 x ys
def Cv(Z:List (Int×Int)):List (Int×Int):=Z.foldr Q0 []
noncomputable def Yl:List (List Kx×D)->Option (List ((Int×Int)×Int))
 |[]=>some []|([.inl i,.inl j],.int v)::r=>(Yl r).map (((i,j),v)::·)|_::_=>none
noncomputable def su(p:Int×Int):D:=.tup [.int p.1,.int p.2]
noncomputable def new(o:MO)(M:dh):Res D:=.ok (.ref M.length) (M++[o])
def ah9(a b:D)(M:dh):Res D :=
 match a,b with
 |.int i,.int j=>.ok (.int (i+j)) M|.tup xs,.tup ys=>if xs.length+ys.length<=100000 then .ok (.tup (xs++ys)) M else .bad
 |x,y=>match iw M x,iw M y with
  |some xs,some ys=>if xs.length+ys.length<=100000 then .ok (.vl (xs++ys)) M else .bad
  |_,_=>.bad
noncomputable def ii{α:Type}(x y:D)(f:Int->Int->α)(z:α):α:=match x with|.int i=>(match y with|.int j=>f i j|_=>z)|_=>z
def Wk(h:ii x y f z=r)(Z:z≠r):∃i j,x=.int i/\y=.int j/\f i j=r:=by
 cases x with
 |int i=>cases y with
  |int j=>exact⟨i,j,rfl,rfl,h⟩|_=>exact absurd h Z
 |_=>exact absurd h Z
@[simp] def a7x(i j:Int)(f:Int->Int->α)(z:α):ii (.int i) (.int j) f z=f i j:=rfl
def az7(a b:D)(M:dh):Res D:=ii a b (λi j=>.ok (.int (i-j)) M) .bad
def ada(a b:D)(M:dh):Res D:=match a with
 |.tup [d]=>(match b with|.int n=>if 0<=n/\n<=100000 then .ok (.tup (List.replicate n.toNat d)) M else .bad|_=>.bad)
 |_=>ii a b (λi j=>if(-(2 ^ 64)<i/\i<2 ^ 64)\/(-(2 ^ 64)<j/\j<2 ^ 64) then .ok (.int (i*j)) M else .bad) .bad
def aua(a b:D)(M:dh):Res D:=ii a b (λi j=>if 0<j/\j<1073741824 then .ok (.int (i / j)) M else .bad) .bad
def az8(a b:D)(M:dh):Res D:=ii a b (λi j=>if 0<j then .ok (.int (i%j)) M else .bad) .bad
def asa(a b:D)(M:dh):Res D:=ii a b (λi j=>if 0<=j/\j<=64/\i.natAbs<2 ^ 64 then .ok (.int (i ^ j.toNat)) M else .bad) .bad
def Dh(Z:Op2):D->D->dh->Res D :=
 match Z with
 |.add=>ah9|.sub=>az7|.mul=>ada|.fdiv=>aua|.mod=>az8|.pow=>asa
def Lb(M:dh)(a b:D):Option Bool :=
 match b with
 |.ref n=>match M[n]? with
  |some (.dT kvs)=>(Mx a).map λk=>(Ft kvs k).isSome
  |_=>(zu M b).bind (memD M a)
 |_=>(zu M b).bind (memD M a)
noncomputable def afq(a b:D):Option Bool:=match b with
 |.non=>(match a with|.non=>some true|.tup _=>some false|.vl _=>some false|_=>none)
 |.bl y=>(match a with|.bl x=>some (x==y)|_=>none)
 |_=>none
def Yv(f:Int->Int->Bool)(a b:D):Option Bool:=ii a b (λi j=>some (f i j)) none
def Dl(Z:Cp)(a b:D)(M:dh):Option Bool :=
 match Z with
 |.lt=>Yv (λi j=>decide (i<j)) a b
 |.le=>Yv (λi j=>decide (i<=j)) a b
 |.gt=>Yv (λi j=>decide (j<i)) a b
 |.ge=>Yv (λi j=>decide (j<=i)) a b
 |.eq=>Ak M a b|.ne=>(Ak M a b).map not|.inn=>Lb M a b|.Qc=>(Lb M a b).map not|.is=>afq a b|.ac8=>(afq a b).map not
def Aq(a b:D)(M:dh):Option D :=
 match a with
 |.ref n=>match M[n]? with
  |some (.dT kvs)=>(Mx b).bind (Ft kvs)
  |_=>match iw M a,b with
   |some ds,.int i=>(Ux ds.length i).bind λj=>ds[j]?
   |_,_=>none
 |.fz ds=>match b with
  |.int i=>(Ux ds.length i).bind λj=>ds[j]?
  |_=>none
 |_=>match zu M a,b with
  |some ds,.int i=>(Ux ds.length i).bind λj=>ds[j]?
  |_,_=>none
def Gy(a:D)(L G:Option Int)(M:dh):Option D:=match a with
 |.tup Z=>some (.tup (Qz Z L G))|_=>(iw M a).map λZ=>.vl (Qz Z L G)
noncomputable def abf(Z:List (List Kx×D)):Bool:=Z.all λp=>match p.1 with
 |[.inl i,.inl j]=>decide (-1<=i)&&decide (i<9)&&decide (-1<=j)&&decide (j<9)|_=>false
noncomputable def Sd(M:dh):D->Res D
 |.ref n=>match M[n]? with
  |some (.lst ds)=>.ok (.int ds.length) M|_=>.bad
 |.fz ds=>.ok (.int ds.length) M|.tup ds=>.ok (.int ds.length) M|.vl ds=>.ok (.int ds.length) M|_=>.bad
def adb(M:dh):D->Res D
 |.ref n=>match M[n]? with
  |some (.dT kvs)=>if abf kvs then new (.dT kvs) M else .bad
  |_=>.bad
 |_=>.bad
def two(Z:List D)(f:Int->Int->Int)(g:D->Option Int)(M:dh):Res D :=
 match Z with
 |[a,b]=>(match a,b with|.int i,.int j=>.ok (.int (f i j)) M|_,_=>.bad)
 |[d]=>Res.ue ((g d).map D.int) M|_=>.bad
noncomputable def Uy(Z:List D)(g:D->Res D):Res D :=
 match Z with
 |[d]=>g d|_=>.bad
def v5(b:Blt)(Z:List D)(M:dh):Res D :=
 match b with
 |.len=>Uy Z (Sd M)|.tuple=>Uy Z λd=>Res.ue ((zu M d).map D.tup) M
 |.max=>two Z (λi j=>if i<j then j else i) (λd=>((zu M d).bind inL).bind at9) M
 |.min=>two Z (λi j=>if j<i then j else i) (λd=>((zu M d).bind inL).bind az6) M
 |.isE k=>Uy Z λd=>match d with
  |.non=>.ok (.bl false) M
  |.ref n=>match M[n]? with
   |some (.exc c)=>.ok (.bl (k==0||c==k)) M
   |_=>.bad
  |_=>.bad
 |.dict=>Uy Z (adb M)
 |.sorted=>Uy Z λd=>match d with
  |.ref n=>match M[n]? with
   |some (.dT kvs)=>Res.ue ((Yl kvs).bind λis=>if is.length<31/\(is.map (·.1)).Nodup then some (D.vl ((Cv (is.map (·.1))).map su)) else none) M
   |_=>.bad
  |_=>.bad
def Q3(m:Bm)(x:D)(M:dh):Bool :=
 match m,x with
 |.append,.ref n=>match M[n]? with|some (.lst _)=>true|_=>false
 |.pop,.ref n=>match M[n]? with|some (.dT _)=>true|_=>false
 |.index,x=>(iw M x).isSome|_,_=>false
def Jg(m:Bm)(o:D)(Z:List D)(M:dh):Res D :=
 match m,o,Z with
 |.append,.ref n,[d]=>match M[n]? with
  |some (.lst xs)=>if xs.length<100000 then .ok .non (M.set n (.lst (xs++[d]))) else .bad
  |_=>.bad
 |.pop,.ref n,[k]=>match M[n]? with
  |some (.dT kvs)=>match(Mx k).bind λq=>(Ft kvs q).map λd=>(q,d) with
   |some (q,d)=>.ok d (M.set n (.dT (kvs.filter λp=>!decide (p.1=q))))
   |none=>.bad
  |_=>.bad
 |.index,o,[d]=>Res.ue (((zu M o).bind (afp M d)).map λj=>D.int (j:Int)) M
 |_,_,_=>.bad
def setOp(o i v:D)(M:dh):Option dh :=
 match o with
 |.ref n=>match M[n]? with
  |some (.lst xs)=>match i with
   |.int j=>(Ux xs.length j).map λq=>M.set n (.lst (xs.set q v))
   |_=>none
  |some (.dT kvs)=>(Mx i).bind λk=>if kvs.length<100000 then some (M.set n (.dT (Ja kvs k v))) else none
  |_=>none
 |_=>none
noncomputable def Qd(f:Nat)(v:D):List (Nat×D)->List (Nat×D)
 |[]=>[(f,v)]|(g,x)::r=>if g=f then(g,v)::r else(g,x)::Qd f v r
def Mz(o:D)(f:Nat)(v:D)(M:dh):Option dh :=
 match o with
 |.ref n=>match M[n]? with
  |some (.ins c fs)=>if fs.length<1000 then some (M.set n (.ins c (Qd f v fs))) else none
  |_=>none
 |_=>none
inductive Src where
 |con (ds:List D)|live (n:Nat) (len:Nat)
noncomputable def Src.len:Src->Nat
 |.con ds=>ds.length|.live _ k=>k
noncomputable def Src.item(s:Src)(i:Nat)(M:dh):Option D :=
 match s with
 |.con ds=>ds[i]?
 |.live n k=>match M[n]? with
  |some (.lst ds)=>if ds.length=k then ds[i]? else none
  |_=>none
noncomputable def Src.fin(s:Src)(M:dh):Bool :=
 match s with
 |.con _=>true
 |.live n k=>match M[n]? with
  |some (.lst ds)=>ds.length==k|_=>false
noncomputable def srcOf(M:dh)(d:D):Option Src :=
 match d with
 |.tup ds=>some (.con ds)|.vl ds=>some (.con ds)
 |.ref n=>match M[n]? with
  |some (.lst ds)=>some (.live n ds.length)|_=>none
 |_=>none
inductive Flow where
 |next|brk|cont|ret (d:D)|err (c:Nat)
noncomputable def Lz:List Nat->List D->Env->Env
 |i::is,d::ds,ρ=>Lz is ds (ρ.set i (some d))|_,_,ρ=>ρ
def Tg.put(t:Tg)(d:D)(Z:Env):Option Env :=
 match t with
 |.name i=>some (Z.set i (some d))
 |.names is=>match d with
  |.tup ds=>if ds.length=is.length then some (Lz is ds Z) else none
  |_=>none
structure Fd where
 call:Nat->List D->dh->Res D
 cae:Nat->List D->dh->Option (Nat×dh)
 rfd:Option Nat->dh->Res D
def Bh(fin:dh->Bool)(item:Nat->dh->Option D)(Z:D->Env->dh->Res (Flow×Env)):Nat->Nat->Env->dh->Res (Flow×Env)
 |0,_,ρ,M=>if fin M then .ok (.next,ρ) M else .bad
 |k+1,i,ρ,M=>match item i M with
  |none=>.bad
  |some d=>(Z d ρ M).bind λr G=>match r.1 with
   |.next=>Bh fin item Z k (i+1) r.2 G|.cont=>Bh fin item Z k (i+1) r.2 G|.brk=>.ok (.next,r.2) G|.ret v=>.ok (.ret v,r.2) G|.err c=>.ok (.err c,r.2) G
def Cd(fin:dh->Bool)(item:Nat->dh->Option D)(Z:D->dh->Res (Option D)):Nat->Nat->dh->Res (List D)
 |0,_,M=>if fin M then .ok [] M else .bad
 |k+1,i,M=>match item i M with
  |none=>.bad|some d=>(Z d M).bind λo R=>(Cd fin item Z k (i+1) R).bind λG L=>.ok (match o with|some x=>x::G|none=>G) L
def Ao(s:Src)(Z:D->dh->Res (Option D))(M:dh):Res (List D):=if s.len<=100000 then Cd s.fin s.item Z s.len 0 M else .bad
def Ei(c:Env->dh->Res D)(Z:Env->dh->Res (Flow×Env)):Nat->Env->dh->Res (Flow×Env)
 |0,_,_=>.bad
 |k+1,ρ,M=>(c ρ M).bind λb L=>match b with
  |.bl false=>.ok (.next,ρ) L
  |.bl true=>(Z ρ L).bind λr G=>match r.1 with
   |.next=>Ei c Z k r.2 G|.cont=>Ei c Z k r.2 G|.brk=>.ok (.next,r.2) G|.ret v=>.ok (.ret v,r.2) G|.err c=>.ok (.err c,r.2) G
  |_=>.bad
noncomputable def afr:Nat:=1000000
noncomputable def Gg(Z:List D):Nat->List D:=λn=>(Z.zipIdx n).map λp=>D.tup [.int p.2,p.1]
mutual
def Ex.den(W:Fd):Ex->Env->dh->Res D
 |.var i,ρ,M=>match ρ[i]? with
  |some (some d)=>.ok d M|_=>.bad
 |.cst d,_,M=>.ok d M|.bin op a b,ρ,M=>(a.den W ρ M).bind λx Z=>(b.den W ρ Z).bind λy G=>Dh op x y G
 |.neg a,ρ,M=>(a.den W ρ M).bind λx Z=>match x with|.int i=>.ok (.int (-i)) Z|_=>.bad
 |.cmp op a b,ρ,M=>(a.den W ρ M).bind λx Z=>(b.den W ρ Z).bind λy G=>Res.ue ((Dl op x y G).map D.bl) G
 |.chain o1 o2 a b c,ρ,M=>(a.den W ρ M).bind λx Z=>(b.den W ρ Z).bind λy G=>(Res.ue (Dl o1 x y G) G).bind λq G=>if q then(c.den W ρ G).bind λz R=>Res.ue ((Dl o2 y z R).map D.bl) R else .ok (.bl false) G
 |.Hx o1 o2 o3 a b c d,ρ,M=>(a.den W ρ M).bind λx Z=>(b.den W ρ Z).bind λy G=>(Res.ue (Dl o1 x y G) G).bind λq G=>if q then(c.den W ρ G).bind λz R=>(Res.ue (Dl o2 y z R) R).bind λq R=>if q then(d.den W ρ R).bind λw M4=>Res.ue ((Dl o3 z w M4).map D.bl) M4 else .ok (.bl false) R else .ok (.bl false) G
 |.R8 a b,ρ,M=>(a.den W ρ M).bind λx Z =>
  match(keysOf Z x).bind Es with
  |some xs=>if Fv xs then(b.den W ρ Z).bind λy G =>
   match(keysOf G y).bind Es with
   |some ys=>if Fv ys then .ok (.bl !Gx xs ys) G else .bad
   |none=>.bad
   else .bad
  |none=>.bad
 |.dne a b,ρ,M=>(a.den W ρ M).bind λx Z=>(b.den W ρ Z).bind λy G=>match x,y with
  |.ref i,.ref j=>match G[i]?,G[j]? with
   |some (.dT ka),some (.dT kb)=>match Yl ka,Yl kb with
    |some xs,some ys=>if xs=ys/\i≠j/\xs.length<31/\(xs.map (·.1)).Nodup then .ok (.bl false) G else .bad
    |_,_=>.bad
   |_,_=>.bad
  |_,_=>.bad
 |.and a b,ρ,M=>(a.den W ρ M).bind λx Z=>match x with|.bl true=>b.den W ρ Z|.bl false=>.ok (.bl false) Z|_=>.bad
 |.or a b,ρ,M=>(a.den W ρ M).bind λx Z=>match x with|.bl true=>.ok (.bl true) Z|.bl false=>b.den W ρ Z|_=>.bad
 |.not a,ρ,M=>(a.den W ρ M).bind λx Z=>match x with|.bl b=>.ok (.bl !b) Z|_=>.bad
 |.ite c a b,ρ,M=>(c.den W ρ M).bind λx Z=>match x with|.bl true=>a.den W ρ Z|.bl false=>b.den W ρ Z|_=>.bad
 |.tup es,ρ,M=>(es.den W ρ M).bind λL Z=>.ok (.tup L) Z
 |.lst es,ρ,M=>(es.den W ρ M).bind λL Z=>new (.lst L) Z
 |.Dg es,ρ,M=>(es.den W ρ M).bind λL Z=>.ok (.vl L) Z
 |.afo,_,M=>new (.dT []) M|.ix a b,ρ,M=>(a.den W ρ M).bind λx Z=>(b.den W ρ Z).bind λy G=>Res.ue (Aq x y G) G
 |.cut a lo hi,ρ,M=>(a.den W ρ M).bind λx Z=>(lo.den W ρ Z).bind λl G=>(hi.den W ρ G).bind λh R=>Res.ue (Gy x l h R) R
 |.call f es,ρ,M=>(es.den W ρ M).bind λL Z=>W.call f L Z
 |.ask f es,ρ,M=>(es.den W ρ M).bind λL Z=>match W.cae f (.ref Z.length::L) (Z++[.ins 0 []]) with
  |some (c,G)=>W.rfd (some c) G|none=>(W.call f (.ref Z.length::L) (Z++[.ins 0 []])).bind λr G=>match r with|.non=>W.rfd none G|_=>.bad
 |.blt b es,ρ,M=>(es.den W ρ M).bind λL Z=>v5 b L Z
 |.bm m o es,ρ,M=>(o.den W ρ M).bind λx Z=>if Q3 m x Z then(es.den W ρ Z).bind λL G=>Jg m x L G else .bad
 |.comp v k t it e,ρ,M=>(it.den W ρ M).bind λs Z =>
  (Ao s (λd M=>match t.put d (ρ++List.replicate k none) with
   |some qq=>(e.den W qq M).bind λx M'=>.ok (some x) M'
   | none=>.bad) Z).bind λL G=>if v then .ok (.vl L) G else new (.lst L) G
 |.Ca v k t it c e,ρ,M=>(it.den W ρ M).bind λs Z =>
  (Ao s (λd M=>match t.put d (ρ++List.replicate k none) with
   |some qq=>(c.den W qq M).bind λb M'=>match b with
    |.bl true=>(e.den W qq M').bind λx qk=>.ok (some x) qk
    |.bl false=>.ok none M'|_=>.bad
   | none=>.bad) Z).bind λL G=>if v then .ok (.vl L) G else new (.lst L) G
 |.abd e,ρ,M=>(e.den W ρ M).bind λx Z=>match x with
  |.int i=>if i.natAbs<=100000 then .ok (.tup ((List.range i.toNat).map λ(k:Nat)=>D.int (k:Int))) Z else .bad
  |_=>.bad
def Cu.den(W:Fd):Cu->Env->dh->Res (List D)
 |.nil,_,M=>.ok [] M|.cons e es,ρ,M=>(e.den W ρ M).bind λx G=>(es.den W ρ G).bind λL Z=>.ok (x::L) Z
def OEx.den(W:Fd):OEx->Env->dh->Res (Option Int)
 |.none,_,M=>.ok none M|.some e,ρ,M=>(e.den W ρ M).bind λx Z=>match x with|.int i=>.ok (some i) Z|_=>.bad
def Og.den(W:Fd):Og->Env->dh->Res Src
 |.val e,ρ,M=>(e.den W ρ M).bind λx Z=>Res.ue (srcOf Z x) Z
 |.Mq e,ρ,M=>(e.den W ρ M).bind λx Z=>match x with
  |.int i=>if i.natAbs<=100000 then .ok (.con ((List.range i.toNat).map λ(k:Nat)=>D.int (k:Int))) Z else .bad
  |_=>.bad
 |.enm e,ρ,M=>(e.den W ρ M).bind λx Z=>match x with
  |.tup ds=>.ok (.con (Gg ds 0)) Z|.vl ds=>.ok (.con (Gg ds 0)) Z|_=>.bad
end
def Lv.put(W:Fd)(l:Lv)(d:D)(Z:Env)(M:dh):Res Env :=
 match l with
 |.tg t=>Res.ue (t.put d Z) M|.sub o i=>(o.den W Z M).bind λx L=>(i.den W Z L).bind λy G=>(Res.ue (setOp x y d G) G).bind λR _=>.ok Z R
 |.fld o f=>(o.den W Z M).bind λx L=>(Res.ue (Mz x f d L) L).bind λG _=>.ok Z G
mutual
def Ar.den(W:Fd):Ar->Env->dh->Res (Flow×Env)
 |.asg l e,Z,M=>(e.den W Z M).bind λx G=>(l.put W x Z G).bind λL R=>.ok (.next,L) R
 |.expr e,Z,M=>(e.den W Z M).bind λ_ G=>.ok (.next,Z) G
 |.iff c a b,Z,M=>(c.den W Z M).bind λx G=>match x with|.bl true=>a.den W Z G|.bl false=>b.den W Z G|_=>.bad
 |.whl c b,Z,M=>Ei (c.den W) (b.den W) afr Z M
 | .for_ t it b,Z,M=>(it.den W Z M).bind λs G=>Bh s.fin s.item (λd Z M=>match t.put d Z with
  | some L=>b.den W L M|none=>.bad) s.len 0 Z G
 |.ret e,Z,M=>(e.den W Z M).bind λx G=>.ok (.ret x,Z) G
 |.cont,Z,M=>.ok (.cont,Z) M|.raise c,Z,M=>.ok (.err c,Z) M
 |.exq f es,Z,M=>(es.den W Z M).bind λds G=>match W.cae f ds G with
  |some (c,R)=>.ok (.err c,Z) R|none=>(W.call f ds G).bind λ_ R=>.ok (.next,Z) R
def qm.den(W:Fd):qm->Env->dh->Res (Flow×Env)
 |.nil,ρ,M=>.ok (.next,ρ) M
 |.cons s r,ρ,M=>(s.den W ρ M).bind λp Z=>match p.1 with
  |.next=>r.den W p.2 Z|.brk=>.ok (.brk,p.2) Z|.cont=>.ok (.cont,p.2) Z|.ret d=>.ok (.ret d,p.2) Z|.err c=>.ok (.err c,p.2) Z
end
structure Prog where
 fns:List Fn
 rf:Fn
def Fn.run(W:Fd)(f:Fn)(Z:List D)(M:dh):Res D :=
 if Z.length=f.np then
  (f.body.den W (Z.map some++List.replicate (f.ns-f.np) none) M).bind λp G=>match p.1 with
   |.ret d=>.ok d G|.next=>.ok .non G|_=>.bad
 else .bad
def Fn.Yw(W:Fd)(f:Fn)(Z:List D)(M:dh):Option (Nat×dh) :=
 if Z.length=f.np then
  match f.body.den W (Z.map some++List.replicate (f.ns-f.np) none) M with
  |.ok (.err c,_) M1=>some (c,M1)|_=>none
 else none
def Fn.afs(W:Fd)(f:Fn)(c:Option Nat)(M:dh):Res D :=
 (f.body.den W (none::some (match c with|some _=>.ref M.length|none=>.non)::List.replicate (f.ns-2) none) (match c with|some c=>M++[.exc c]|none=>M)).bind λp Z=>match p.1 with
  |.ret d=>.ok d Z|_=>.bad
def Prog.Mr(P:Prog):Nat->Fd
 |0=>⟨λ_ _ _=>.bad,λ_ _ _=>none,λ_ _=>.bad⟩
 | n+1=>⟨λf Z M=>match P.fns[f]? with
  |some F=>F.run (P.Mr n) Z M|none=>.bad,λf Z M=>match P.fns[f]? with
  | some F=>F.Yw (P.Mr n) Z M|none=>none,λc M=>P.rf.afs (P.Mr n) c M⟩
def Prog.call(P:Prog)(n:Nat):Nat->List D->dh->Res D:=(P.Mr n).call
def Prog.cae(P:Prog)(n:Nat):Nat->List D->dh->Option (Nat×dh):=(P.Mr n).cae
def Prog.rfd(P:Prog)(n:Nat):Option Nat->dh->Res D:=(P.Mr n).rfd
@[simp] def ade(i:Nat):(Ex.var i).den W Z M=match Z[i]? with|some (some d)=>.ok d M|_=>.bad:=rfl
@[simp high] theorem aub(d:D)(r:Env):(Ex.var 0).den W (some d::r) M=.ok d M:=rfl
@[simp high] theorem auc(Z:Option D)(d:D)(r:Env):(Ex.var 1).den W (Z::some d::r) M=.ok d M:=rfl
@[simp high] theorem Wl(Z G:Option D)(d:D)(r:Env):(Ex.var 2).den W (Z::G::some d::r) M=.ok d M:=rfl
@[simp high] theorem abg(Z G L:Option D)(d:D)(r:Env):(Ex.var 3).den W (Z::G::L::some d::r) M=.ok d M:=rfl
@[simp high] theorem aud(G Z R L:Option D)(d:D)(r:Env):(Ex.var 4).den W (G::Z::R::L::some d::r) M=.ok d M:=rfl
@[simp high] theorem a7y(G a1 Z R L:Option D)(d:D)(r:Env):(Ex.var 5).den W (G::a1::Z::R::L::some d::r) M=.ok d M:=rfl
@[simp high] theorem aia(G a1 Z a3 L R:Option D)(d:D)(r:Env):(Ex.var 6).den W (G::a1::Z::a3::L::R::some d::r) M=.ok d M:=rfl
@[simp high] theorem a7z(L a1 Z a3 R a5 G:Option D)(d:D)(r:Env):(Ex.var 7).den W (L::a1::Z::a3::R::a5::G::some d::r) M=.ok d M:=rfl
@[simp high] theorem a70(L a1 a2 a3 R a5 G Z:Option D)(d:D)(r:Env):(Ex.var 8).den W (L::a1::a2::a3::R::a5::G::Z::some d::r) M=.ok d M:=rfl
@[simp high] theorem a71(L a1 a2 a3 R a5 G Z a8:Option D)(d:D)(r:Env):(Ex.var 9).den W (L::a1::a2::a3::R::a5::G::Z::a8::some d::r) M=.ok d M:=rfl
@[simp high] theorem a6h(L a1 a2 a3 R a5 G Z a8 a9:Option D)(d:D)(r:Env):(Ex.var 10).den W (L::a1::a2::a3::R::a5::G::Z::a8::a9::some d::r) M=.ok d M:=rfl
@[simp high] theorem a6i(R a1 a2 a3 a4 a5 L G a8 a9 Z:Option D)(d:D)(r:Env):(Ex.var 11).den W (R::a1::a2::a3::a4::a5::L::G::a8::a9::Z::some d::r) M=.ok d M:=rfl
@[simp high] theorem a6j(a0 a1 a2 a3 a4 a5 R L a8 a9 Z G:Option D)(d:D)(r:Env):(Ex.var 12).den W (a0::a1::a2::a3::a4::a5::R::L::a8::a9::Z::G::some d::r) M=.ok d M:=rfl
@[simp] def Kz(d:D):(Ex.cst d).den W Z M=.ok d M:=rfl
@[simp] def aoc(Z:Op2)(a b:Ex):(Ex.bin Z a b).den W G M=(a.den W G M).bind λx L=>(b.den W G L).bind λy M2=>Dh Z x y M2:=rfl
@[simp] def aod(a:Ex):(Ex.neg a).den W Z M=(a.den W Z M).bind λx G=>match x with|.int i=>.ok (.int (-i)) G|_=>.bad:=rfl
@[simp] def adf(Z:Cp)(a b:Ex):(Ex.cmp Z a b).den W G M=(a.den W G M).bind λx L=>(b.den W G L).bind λy M2=>Res.ue ((Dl Z x y M2).map D.bl) M2:=rfl
@[simp] def aft(L G:Cp)(a b c:Ex):(Ex.chain L G a b c).den W Z M=(a.den W Z M).bind λx M1=>(b.den W Z M1).bind λy M2=>(Res.ue (Dl L x y M2) M2).bind λq M2=>if q then(c.den W Z M2).bind λz R=>Res.ue ((Dl G y z R).map D.bl) R else .ok (.bl false) M2:=rfl
@[simp] def abh(o1 L o3:Cp)(a b c d:Ex):(Ex.Hx o1 L o3 a b c d).den W G M=(a.den W G M).bind λx M1=>(b.den W G M1).bind λy M2=>(Res.ue (Dl o1 x y M2) M2).bind λq M2=>if q then(c.den W G M2).bind λz Z=>(Res.ue (Dl L y z Z) Z).bind λq Z=>if q then(d.den W G Z).bind λw R=>Res.ue ((Dl o3 z w R).map D.bl) R else .ok (.bl false) Z else .ok (.bl false) M2:=rfl
@[simp] theorem aoe(a b:Ex):(Ex.dne a b).den W G M=(a.den W G M).bind λx L=>(b.den W G L).bind λy Z=>match x,y with
 |.ref i,.ref j=>match Z[i]?,Z[j]? with
  |some (.dT ka),some (.dT kb)=>match Yl ka,Yl kb with
   |some xs,some ys=>if xs=ys/\i≠j/\xs.length<31/\(xs.map (·.1)).Nodup then .ok (.bl false) Z else .bad
   |_,_=>.bad
  |_,_=>.bad
 |_,_=>.bad:=rfl
def adg(a b:Ex):(Ex.and a b).den W Z M=(a.den W Z M).bind λx G=>match x with|.bl true=>b.den W Z G|.bl false=>.ok (.bl false) G|_=>.bad:=rfl
def aib(a b:Ex):(Ex.or a b).den W Z M=(a.den W Z M).bind λx G=>match x with|.bl true=>.ok (.bl true) G|.bl false=>b.den W Z G|_=>.bad:=rfl
@[simp] def Fw(a:Ex):(Ex.not a).den W Z M=(a.den W Z M).bind λx G=>match x with|.bl b=>.ok (.bl !b) G|_=>.bad:=rfl
def aof(c a b:Ex):(Ex.ite c a b).den W Z M=(c.den W Z M).bind λx G=>match x with|.bl true=>a.den W Z G|.bl false=>b.den W Z G|_=>.bad:=rfl
@[simp] def adh(Z:Cu):(Ex.tup Z).den W G M=(Z.den W G M).bind λL M1=>.ok (.tup L) M1:=rfl
@[simp] def aog(Z:Cu):(Ex.lst Z).den W G M=(Z.den W G M).bind λL M1=>new (.lst L) M1:=rfl
@[simp] def aic(Z:Cu):(Ex.Dg Z).den W G M=(Z.den W G M).bind λL M1=>.ok (.vl L) M1:=rfl
@[simp] def aid:Ex.afo.den W Z M=new (.dT []) M:=rfl
@[simp] def aue(a b:Ex):(Ex.ix a b).den W Z M=(a.den W Z M).bind λx G=>(b.den W Z G).bind λy M2=>Res.ue (Aq x y M2) M2:=rfl
@[simp] def aoh(a:Ex)(L G:OEx):(Ex.cut a L G).den W Z M=(a.den W Z M).bind λx M1=>(L.den W Z M1).bind λl R=>(G.den W Z R).bind λh M3=>Res.ue (Gy x l h M3) M3:=rfl
@[simp] def Yx(f:Nat)(Z:Cu):(Ex.call f Z).den W G M=(Z.den W G M).bind λL M1=>W.call f L M1:=rfl
@[simp] theorem Wm{W:Fd}{R:Env}{M:dh}(f:Nat)(L:Cu):(Ex.ask f L).den W R M=(L.den W R M).bind λds Z=>match W.cae f (.ref Z.length::ds) (Z++[.ins 0 []]) with
 |some (c,G)=>W.rfd (some c) G|none=>(W.call f (.ref Z.length::ds) (Z++[.ins 0 []])).bind λr G=>match r with|.non=>W.rfd none G|_=>.bad:=rfl
@[simp] def Wn(b:Blt)(Z:Cu):(Ex.blt b Z).den W G M=(Z.den W G M).bind λL M1=>v5 b L M1:=rfl
@[simp] def auf(m:Bm)(o:Ex)(G:Cu):(Ex.bm m o G).den W L M=(o.den W L M).bind λx Z=>if Q3 m x Z then(G.den W L Z).bind λds R=>Jg m x ds R else .bad:=rfl
@[simp] theorem aie{W:Fd}{Z:Env}{M:dh}(e:Ex):(Ex.abd e).den W Z M=(e.den W Z M).bind λx G=>match x with
 |.int i=>if i.natAbs<=100000 then .ok (.tup ((List.range i.toNat).map λ(k:Nat)=>D.int (k:Int))) G else .bad
 |_=>.bad:=rfl
def Jp(v:Bool)(k:Nat)(t:Tg)(it:Og)(e:Ex):(Ex.comp v k t it e).den W G M=(it.den W G M).bind λs R =>
 (Ao s (λd M=>match t.put d (G++List.replicate k none) with
  |some Z=>(e.den W Z M).bind λx M'=>.ok (some x) M'
  | none=>.bad) R).bind λL M2=>if v then .ok (.vl L) M2 else new (.lst L) M2:=rfl
def Sg(v:Bool)(k:Nat)(t:Tg)(it:Og)(c e:Ex):(Ex.Ca v k t it c e).den W R M=(it.den W R M).bind λs M1 =>
 (Ao s (λd M=>match t.put d (R++List.replicate k none) with
  |some Z=>(c.den W Z M).bind λb L=>match b with
   |.bl true=>(e.den W Z L).bind λx G=>.ok (some x) G
   |.bl false=>.ok none L|_=>.bad
  | none=>.bad) M1).bind λds M2=>if v then .ok (.vl ds) M2 else new (.lst ds) M2:=rfl
@[simp] def Et:Cu.nil.den W Z M=.ok [] M:=rfl
@[simp] def Ay(e:Ex)(Z:Cu):(Cu.cons e Z).den W G M=(e.den W G M).bind λx L=>(Z.den W G L).bind λR M2=>.ok (x::R) M2:=rfl
@[simp] def afu:OEx.none.den W Z M=.ok none M:=rfl
@[simp] def afv(e:Ex):(OEx.some e).den W Z M=(e.den W Z M).bind λx G=>match x with|.int i=>.ok (some i) G|_=>.bad:=rfl
@[simp] def Rf(e:Ex):(Og.val e).den W Z M=(e.den W Z M).bind λx M1=>Res.ue (srcOf M1 x) M1:=rfl
@[simp] theorem Wo{W:Fd}{Z:Env}{M:dh}(e:Ex):(Og.Mq e).den W Z M=(e.den W Z M).bind λx G=>match x with
 |.int i=>if i.natAbs<=100000 then .ok (.con ((List.range i.toNat).map λ(k:Nat)=>D.int (k:Int))) G else .bad
 |_=>.bad:=rfl
@[simp] theorem adi{W:Fd}{Z:Env}{M:dh}(e:Ex):(Og.enm e).den W Z M=(e.den W Z M).bind λx G=>match x with
 |.tup ds=>.ok (.con (Gg ds 0)) G|.vl ds=>.ok (.con (Gg ds 0)) G|_=>.bad:=rfl
@[simp] def Ou(l:Lv)(e:Ex):(Ar.asg l e).den W G M=(e.den W G M).bind λx L=>(l.put W x G L).bind λZ M2=>.ok (.next,Z) M2:=rfl
@[simp] def adk(e:Ex):(Ar.expr e).den W Z M=(e.den W Z M).bind λ_ M1=>.ok (.next,Z) M1:=rfl
def auh(c:Ex)(a b:qm):(Ar.iff c a b).den W Z M=(c.den W Z M).bind λx G=>match x with|.bl true=>a.den W Z G|.bl false=>b.den W Z G|_=>.bad:=rfl
@[simp] def aui(e:Ex):(Ar.ret e).den W Z M=(e.den W Z M).bind λx M1=>.ok (.ret x,Z) M1:=rfl
@[simp] def aoi:Ar.cont.den W Z M=.ok (.cont,Z) M:=rfl
@[simp] theorem aif:(Ar.exq f R).den W Z M=(R.den W Z M).bind λG L=>match W.cae f G L with
 |some (c,M2)=>.ok (.err c,Z) M2|none=>(W.call f G L).bind λ_ M2=>.ok (.next,Z) M2:=rfl
@[simp] def M8(c:Nat):(Ar.raise c).den W Z M=.ok (.err c,Z) M:=rfl
def abi(c:Ex)(b:qm):(Ar.whl c b).den W Z M=Ei (c.den W) (b.den W) afr Z M:=rfl
def Ov(t:Tg)(it:Og)(b:qm):(Ar.for_ t it b).den W Z M=(it.den W Z M).bind λs M1=>Bh s.fin s.item (λd Z M=>match t.put d Z with
 | some G=>b.den W G M|none=>.bad) s.len 0 Z M1:=rfl
@[simp] def Ej:qm.nil.den W Z M=.ok (.next,Z) M:=rfl
theorem aih{W:Fd}{Z:Env}{M:dh}(s:Ar)(r:qm):(qm.cons s r).den W Z M=(s.den W Z M).bind λp M1=>match p.1 with
 |.next=>r.den W p.2 M1|.brk=>.ok (.brk,p.2) M1|.cont=>.ok (.cont,p.2) M1|.ret d=>.ok (.ret d,p.2) M1|.err c=>.ok (.err c,p.2) M1:=rfl
def Wq(W:Fd)(r:qm)(x:Res (Flow×Env)):Res (Flow×Env):=x.bind λp Z=>match p.1 with
 |.next=>r.den W p.2 Z|.brk=>.ok (.brk,p.2) Z|.cont=>.ok (.cont,p.2) Z|.ret d=>.ok (.ret d,p.2) Z|.err c=>.ok (.err c,p.2) Z
@[simp] def j7(s:Ar)(r:qm):(qm.cons s r).den W Z M=Wq W r (s.den W Z M):=rfl
@[simp] def j9(r:qm):Wq W r (.ok (.next,Z) M)=r.den W Z M:=rfl
@[simp] def a6k(r:qm):Wq W r (.ok (.brk,Z) M)=.ok (.brk,Z) M:=rfl
@[simp] def az9(r:qm):Wq W r (.ok (.cont,Z) M)=.ok (.cont,Z) M:=rfl
@[simp] def a6l(r:qm)(d:D):Wq W r (.ok (.ret d,Z) M)=.ok (.ret d,Z) M:=rfl
@[simp] def K1(r:qm)(c:Nat):Wq W r (.ok (.err c,Z) M)=.ok (.err c,Z) M:=rfl
def ifK{α:Type}(a b:dh->Res α)(x:Res D):Res α:=x.bind λx Z=>match x with|.bl true=>a Z|.bl false=>b Z|_=>.bad
@[simp] def Jb(c:Ex)(a b:qm):(Ar.iff c a b).den W Z M=ifK (a.den W Z) (b.den W Z) (c.den W Z M):=rfl
@[simp] def a72(c a b:Ex):(Ex.ite c a b).den W Z M=ifK (a.den W Z) (b.den W Z) (c.den W Z M):=rfl
@[simp] def abj(a b:Ex):(Ex.and a b).den W Z M=ifK (b.den W Z) (.ok (.bl false)) (a.den W Z M):=rfl
@[simp] def aii(a b:Ex):(Ex.or a b).den W Z M=ifK (.ok (.bl true)) (b.den W Z) (a.den W Z M):=rfl
@[simp] def Vg(a b:dh->Res α):ifK a b (.ok (.bl true) M)=a M:=rfl
@[simp] def Sh(a b:dh->Res α):ifK a b (.ok (.bl false) M)=b M:=rfl
theorem Vh{W:Fd}{Z:Env}{M:dh}(a b:Ex):(Ex.R8 a b).den W Z M=(a.den W Z M).bind λx L =>
 match(keysOf L x).bind Es with
 |some xs=>if Fv xs then(b.den W Z L).bind λy G =>
  match(keysOf G y).bind Es with
  |some R=>if Fv R then .ok (.bl !Gx xs R) G else .bad
  |none=>.bad
  else .bad
 |none=>.bad:=rfl
@[simp] def aij(t:Tg)(d:D):(Lv.tg t).put W d Z M=Res.ue (t.put d Z) M:=rfl
@[simp] def aoj(o i:Ex)(d:D):(Lv.sub o i).put W d Z M=(o.den W Z M).bind λx L=>(i.den W Z L).bind λy G=>(Res.ue (setOp x y d G) G).bind λM3 _=>.ok Z M3:=rfl
@[simp] def adl(o:Ex)(f:Nat)(d:D):(Lv.fld o f).put W d Z M=(o.den W Z M).bind λx G=>(Res.ue (Mz x f d G) G).bind λM2 _=>.ok Z M2:=rfl
@[simp] def auj(i:Nat)(d:D):(Tg.name i).put d Z=some (Z.set i (some d)):=rfl
@[simp] def asb(is:Y2)(Z:List D)(h:Z.length=is.length):(Tg.names is).put (.tup Z) G=some (Lz is Z G):=by simp[Tg.put,h]
@[simp] def asd(i:Nat)(is:Y2)(d:D)(Z:List D):Lz (i::is) (d::Z) G=Lz is Z (G.set i (some d)):=rfl
@[simp] def auk(Z:List D):Lz [] Z ρ=ρ:=by cases Z<;>rfl
@[simp] def a0a(i j:Int):Dh .add (.int i) (.int j) M=.ok (.int (i+j)) M:=rfl
@[simp] def a0b(i j:Int):Dh .sub (.int i) (.int j) M=.ok (.int (i-j)) M:=rfl
def Ho(i j:Int)(h:(-(2 ^ 64)<i/\i<2 ^ 64)\/(-(2 ^ 64)<j/\j<2 ^ 64)):Dh .mul (.int i) (.int j) M=.ok (.int (i*j)) M:=bf h
def Vi(i j:Int)(h:0<j)(Z:j<1073741824):Dh .fdiv (.int i) (.int j) M=.ok (.int (i / j)) M:=bf ⟨h,Z⟩
@[simp] def a0c(i j:Int)(h:0<j):Dh .mod (.int i) (.int j) M=.ok (.int (i%j)) M:=bf h
@[simp] def aul:Dh .pow (.int 10) (.int 18) M=.ok (.int (10 ^ 18)) M:=by simp[Dh,asa]
def afw(xs ys:List D)(h:xs.length+ys.length<=100000):Dh .add (.tup xs) (.tup ys) M=.ok (.tup (xs++ys)) M:=bf h
def K3(Z G:List D)(h:Z.length+G.length<=100000):Dh .add (.vl Z) (.vl G) M=.ok (.vl (Z++G)) M:=bf h
@[simp] def a73(i j:Int):Dl .lt (.int i) (.int j) M=some (decide (i<j)):=rfl
@[simp] def a74(i j:Int):Dl .le (.int i) (.int j) M=some (decide (i<=j)):=rfl
@[simp] def cmp_gt(i j:Int):Dl .gt (.int i) (.int j) M=some (decide (j<i)):=rfl
@[simp] def a75(i j:Int):Dl .ge (.int i) (.int j) M=some (decide (j<=i)):=rfl
@[simp] def aum(a b:D):Dl .eq a b M=Ak M a b:=rfl
@[simp] def aun(a b:D):Dl .ne a b M=(Ak M a b).map not:=rfl
@[simp] def a76(a b:D):Dl .inn a b M=Lb M a b:=rfl
@[simp] def ayt(a b:D):Dl .Qc a b M=(Lb M a b).map not:=rfl
def Wr(n:Nat)(i j:Int):Jk M (n+1) (.int i) (.int j)=some (decide (i=j)):=rfl
def Jq(L:f a b=some x)(Z:My f G bs=some y):My f (a::G) (b::bs)=some (x&&y):=by simp[My,L,Z]
@[simp] def eq_int(i j:Int):Ak M (.int i) (.int j)=some (decide (i=j)):=rfl
@[simp] def bbt(i j:Bool):Ak M (.bl i) (.bl j)=some (i==j):=rfl
@[simp] def ayu(ds:List D):iw M (.vl ds)=some ds:=rfl
@[simp] def aik(ds:List D):zu M (.vl ds)=some ds:=rfl
@[simp] def ayv(ds:List D):zu M (.tup ds)=some ds:=rfl
def Be(h:M[n]?=some (.lst ds)):iw M (.ref n)=some ds:=by simp[iw,h]
def ail(h:iw M d=some ds):zu M d=some ds:=by cases d<;>first|exact h|(simp[iw] at h)
set_option tactic.hygienic true in
def len_list(h:iw M d=some ds):v5 .len [d] M=.ok (.int ds.length) M:=by
 show Sd M d=_;cases d with
 |vl Y=>simp[iw] at h;subst h;rfl
 |ref n =>
  simp only[iw] at h;split at h<;>simp at h;rename_i Y Z;subst h;simp[Sd,Z]
 |_=>simp[iw] at h
@[simp] def a0d(d:D)(g:D->Res D):Uy [d] g=g d:=rfl
@[simp] def a0e(g:D->Res D):Uy [] g=.bad:=rfl
@[simp] def ayw(a b:D)(l:List D)(g:D->Res D):Uy (a::b::l) g=.bad:=rfl
@[simp] def a77(i j:Int)(f:Int->Int->Int)(g:D->Option Int):two [.int i,.int j] f g M=.ok (.int (f i j)) M:=rfl
@[simp] def aok(d:D)(f:Int->Int->Int)(g:D->Option Int):two [d] f g M=Res.ue ((g d).map D.int) M:=rfl
@[simp] def auo(Z:List D):Sd M (.tup Z)=.ok (.int Z.length) M:=rfl
@[simp] theorem ase{M:dh}(n:Nat):adb M (.ref n)=match M[n]? with
 |some (.dT kvs)=>if abf kvs then new (.dT kvs) M else .bad
 |_=>.bad:=rfl
def Fy(h:iw M d=some ds)(R:0<=i)(hx:ds[i.toNat]?=some x):Aq d (.int i) M=some x:=by
 obtain⟨L,Z⟩:=aq.mp hx;have G:i<ds.length:=by lia
 cases d with
 |vl xs=>simp[iw] at h;subst h;simp[Aq,zu,Ux,R,G,L,Z]
 |ref n =>
  simp only[iw] at h;cases e:M[n]? with
  |none=>rw[e] at h;simp at h|some o=>rw[e] at h;cases o<;>simp at h<;>subst h<;>simp[Aq,iw,e,Ux,R,G,L,Z]
 |_=>simp[iw] at h
def Jr(h0:0<=i)(L:ds[i.toNat]?=some x):Aq (.tup ds) (.int i) M=some x:=by
 obtain⟨R,Z⟩:=aq.mp L;have G:i<ds.length:=by lia
 simp[Aq,zu,Ux,h0,G,R,Z]
def a0f(h0:0<=i)(L:ds[i.toNat]?=some x):Aq (.fz ds) (.int i) M=some x:=by
 obtain⟨R,Z⟩:=aq.mp L;have G:i<ds.length:=by lia
 simp[Aq,Ux,h0,G,R,Z]
def aim:v5 .len [.fz ds] M=.ok (.int ds.length) M:=rfl
@[simp] def a6m(x:D)(r:List D):Aq (.tup (x::r)) (.int 0) M=some x:=Jr (by decide) rfl
@[simp] def a6n(x y:D)(r:List D):Aq (.tup (x::y::r)) (.int 1) M=some y:=Jr (by decide) rfl
@[simp] def a6o(x y z:D)(r:List D):Aq (.tup (x::y::z::r)) (.int 2) M=some z:=Jr (by decide) rfl
def a0g(h:M[n]?=some (.dT kvs))(Z:Mx b=some k):Aq (.ref n) b M=Ft kvs k:=by simp[Aq,h,Z]
def a0h(h:M[n]?=some (.dT kvs))(Z:Mx b=some k):Lb M b (.ref n)=some (Ft kvs k).isSome:=by simp[Lb,h,Z]
@[simp] def bbu(i j:Int):Mx (.tup [.int i,.int j])=some [.inl i,.inl j]:=rfl
@[simp] def bbv(i:Int):ah7 (.int i)=some (.inl i):=rfl
def Ow(h:M[n]?=some (.lst Z)):Q3 .append (.ref n) M=true:=by simp[Q3,h]
def Rg(h:M[n]?=some (.lst Z))(G:Z.length<100000):Jg .append (.ref n) [d] M=.ok .non (M.set n (.lst (Z++[d]))):=by simp[Jg,h,G]
def adm(h:M[n]?=some (.lst Z))(L:0<=i)(G:i<Z.length):setOp (.ref n) (.int i) d M=some (M.set n (.lst (Z.set i.toNat d))):=by simp[setOp,h,Ux,L,G]
def ain(h:M[n]?=some (.dT kvs))(Z:Mx b=some k)(G:kvs.length<100000):setOp (.ref n) b d M=some (M.set n (.dT (Ja kvs k d))):=by simp[setOp,h,Z,G]
def Bo{M:dh}(h:M[a]?=some o):a<M.length:=(aq.mp h).1
def zm{M:dh}(h:M[a]?=some p):(M.set a o)[a]?=some o:=by rw[yj (Bo h)]
def Bf{M:dh}(h:b≠a):(M.set b o)[a]?=M[a]?:=uq h
def wj{M:dh}{a:Nat}(h:M[a]?=some o):(M++X)[a]?=some o:=by rw[jh (Bo h)];exact h
@[simp] def K5{M:dh}:(M++[o])[M.length]?=some o:=by simp
def Ox(p q:Int×Int):Prop:=p.1<q.1\/p.1=q.1/\p.2<q.2
def Ws(p q:Int×Int):ltP p q=true↔Ox p q:=by simp[ltP,Ox]
def Ox.trans(a:Ox p q)(b:Ox q r):Ox p r:=by unfold Ox at *;lia
def Ox.irr(p:Int×Int):¬Ox p p:=by unfold Ox;lia
def Ox.tri(p q:Int×Int):Ox p q\/p=q\/Ox q p:=by
 unfold Ox;rcases p with⟨a,b⟩
 rcases q with⟨c,d⟩
 simp only[Prod.mk.injEq]
 lia
theorem Wt(x y:Int×Int):∀l:List (Int×Int),y∈Q0 x l↔y=x\/y∈l
 |[]=>by simp[Q0]
 |a::l=>by
  unfold Q0;split
  .simp
  .rw[bx,Wt x y l,bx]
   constructor
   .rintro(h|h|h)
    .exact .inr (.inl h)
    .exact .inl h
    .exact .inr (.inr h)
   .rintro(h|h|h)
    .exact .inr (.inl h)
    .exact .inl h
    .exact .inr (.inr h)
theorem Hq(y:Int×Int):∀l:List (Int×Int),y∈Cv l↔y∈l
 |[]=>by simp[Cv]
 |a::l=>by
  show y∈Q0 a (Cv l)↔_;rw[Wt,Hq y l,bx]
theorem adn(x:Int×Int):∀l:List (Int×Int),(Q0 x l).length=l.length+1
 |[]=>rfl
 |a::l=>by
  unfold Q0;split
  .rfl
  .rw[gq,adn x l,gq]
theorem Yy:∀l:List (Int×Int),(Cv l).length=l.length
 |[]=>rfl
 |a::l=>by
  show(Q0 a (Cv l)).length=_;rw[adn,Yy l,gq]
theorem Sq(x:Int×Int):∀l:List (Int×Int),l.Pairwise Ox->x∉l->(Q0 x l).Pairwise Ox
 |[],_,_=>by simp[Q0]
 |a::l,h,hx=>by
  rw[yp] at h;unfold Q0;split
  .rename_i c
   have c:=(Ws _ _).mp c;rw[yp,yp];refine⟨λy Z=>?_,h⟩;rcases bx.mp Z with rfl|Z
   .exact c
   .exact c.trans (h.1 y Z)
  .rename_i c
   rw[yp];refine⟨λy Z=>?_,Sq x l h.2 λz=>hx (bc _ z)⟩;rcases(Wt x y l).mp Z with rfl|Z
   .rcases Ox.tri y a with z|z|z
    .exact absurd ((Ws _ _).mpr z) c
    .exact absurd (by rw[z];exact bu) hx
    .exact z
   .exact h.1 y Z
theorem Js:∀l:List (Int×Int),l.Nodup->(Cv l).Pairwise Ox
 |[],_=>by simp[Cv]
 |a::l,h=>by
  rw[rm] at h;exact Sq a (Cv l) (Js l h.2) λz=>h.1 ((Hq a l).mp z)
theorem Oz:∀{l m:List (Int×Int)},l.Pairwise Ox->m.Pairwise Ox->(∀p,p∈l↔p∈m)->l=m
 |[],[],_,_,_=>rfl|[],b::m,_,_,h=>absurd ((h b).mpr bu) (by simp)|a::l,[],_,_,h=>absurd ((h a).mp bu) (by simp)
 |a::l,b::m,h1,h2,h=>by
  rw[yp] at h1 h2;have e:a=b:=by
   rcases bx.mp ((h a).mp bu) with z|z
   .exact z
   .rcases bx.mp ((h b).mpr bu) with w|w
    .exact w.symm
    .exact absurd ((h1.1 b w).trans (h2.1 a z)) (Ox.irr _)
  subst e;rw[Oz h1.2 h2.2 λp=>?_];constructor
  .intro z
   rcases bx.mp ((h p).mp (bc _ z)) with w|w
   .exact absurd (by rw[w] at z;exact h1.1 a z) (Ox.irr a)
   .exact w
  .intro z
   rcases bx.mp ((h p).mpr (bc _ z)) with w|w
   .exact absurd (by rw[w] at z;exact h2.1 a z) (Ox.irr a)
   .exact w
theorem Wu{fin:dh->Bool}{item:Nat->dh->Option D}{L:D->Env->dh->Res (Flow×Env)}(I:Nat->Env->dh->Prop){n:Nat}
 (step:∀i Z M,i<n->I i Z M->∃d fl G R,item i M=some d/\L d Z M=.ok (fl,G) R/\(fl=.next\/fl=.cont)/\I (i+1) G R) (Ss:∀Z M,I n Z M->fin M=true) :
 ∀(k i:Nat)(Z:Env)(M:dh),i+k=n->I i Z M->∃G R,Bh fin item L k i Z M=.ok (.next,G) R/\I n G R
 |0,i,Z,M,e,h=>by
  have q:i=n:=by lia
  rw[q] at h;exact⟨Z,M,by simp[Bh,Ss Z M h],h⟩
 |k+1,i,Z,M,e,h=>by
  obtain⟨d,fl,qq,M1,h1,h2,h3,h4⟩:=step i Z M (by lia) h;obtain⟨qk,M2,g1,g2⟩:=Wu I step Ss k (i+1) qq M1 (by lia) h4;refine⟨qk,M2,?_,g2⟩;rcases h3 with rfl|rfl<;>simp[Bh,h1,h2,g1]
def Wv(I:Nat->Env->dh->Prop)(h0:I 0 G M)(step:∀i d G M,ds[i]?=some d->I i G M->∃L Z M',body d G M=.ok (L,Z) M'/\(L=.next\/L=.cont)/\I (i+1) Z M') :
 ∃Z M',Bh (Src.con ds).fin (Src.con ds).item body (Src.con ds).len 0 G M=.ok (.next,Z) M'/\I ds.length Z M':=by
 refine Wu I (λi G M R h=>?_) (λ_ _ _=>rfl) ds.length 0 G M (t8 _) h0;obtain⟨L,Z,M',a,b,c⟩:=step i ds[i] G M (by simp[R]) h;exact⟨ds[i],L,Z,M',by simp[Src.item,R],a,b,c⟩
def Ww(I:Nat->Env->dh->Prop)(h0:I 0 ρ M)(step:∀i ρ M,i<n->I i ρ M->∃L Z M',body (.int i) ρ M=.ok (L,Z) M'/\(L=.next\/L=.cont)/\I (i+1) Z M') :
 ∃Z M',Bh (Src.con ((List.range n).map λ(k:Nat)=>D.int (k:Int))).fin (Src.con ((List.range n).map λ(k:Nat)=>D.int (k:Int))).item body (Src.con ((List.range n).map λ(k:Nat)=>D.int (k:Int))).len 0 ρ M=.ok (.next,Z) M'/\I n Z M':=by
 have:=Wv (ds:=(List.range n).map λ(k:Nat)=>D.int (k:Int)) (body:=body) I h0 (λi d ρ M G h=>by
  have R:i<n:=by have:=(aq.mp G).1;simpa using this
  rw[ir,zy R] at G;have G:D.int (i:Int)=d:=by simpa using G
  subst G;exact step i ρ M R h)
 simpa using this
def aio(I:Nat->Env->dh->Prop)(h0:I 0 G M)(stay:∀i G M,I i G M->M[p]?=some (.lst ds))(step:∀i d G M,ds[i]?=some d->I i G M->∃L Z M',body d G M=.ok (L,Z) M'/\(L=.next\/L=.cont)/\I (i+1) Z M') :
 ∃Z M',Bh (Src.live p ds.length).fin (Src.live p ds.length).item body (Src.live p ds.length).len 0 G M=.ok (.next,Z) M'/\I ds.length Z M':=by
 refine Wu I (λi G M R h=>?_) (λG M h=>by simp[Src.fin,stay _ G M h]) ds.length 0 G M (t8 _) h0;obtain⟨L,Z,M',a,b,c⟩:=step i ds[i] G M (by simp[R]) h;exact⟨ds[i],L,Z,M',by simp[Src.item,stay i G M h,R],a,b,c⟩
theorem M9{fin:dh->Bool}{item:Nat->dh->Option D}{body:D->dh->Res (Option D)}(I:Nat->List D->dh->Prop){n:Nat}
 (step:∀i Z M,i<n->I i Z M->∃d o G,item i M=some d/\body d M=.ok o G/\I (i+1) (Z++o.toList) G) (R:∀Z M,I n Z M->fin M=true) :
 ∀(k i:Nat)(Z:List D)(M:dh),i+k=n->I i Z M->∃L G,Cd fin item body k i M=.ok L G/\I n (Z++L) G
 |0,i,Z,M,e,h=>by
  have q:i=n:=by lia
  rw[q] at h;exact⟨[],M,by simp[Cd,R Z M h],by simpa using h⟩
 |k+1,i,Z,M,e,h=>by
  obtain⟨d,o,M1,h1,h2,h3⟩:=step i Z M (by lia) h;obtain⟨L,M2,g1,g2⟩:=M9 I step R k (i+1) (Z++o.toList) M1 (by lia) h3;refine⟨o.toList++L,M2,?_,by rw[<- n6];exact g2⟩;cases o<;>simp[Cd,h1,h2,g1]
def O1{s:Src}{ds:List D}(Ss:s.fin M=true)(hl:s.len=ds.length)(hi:∀i,i<ds.length->s.item i M=ds[i]?)(h:∀d∈ds,body d M=.ok (g d) M) :
 Cd s.fin s.item body s.len 0 M=.ok (ds.filterMap g) M:=by
 obtain⟨ys,Z,e,h1,R⟩:=M9 (fin:=s.fin) (item:=s.item) (body:=body) (λi L Z=>Z=M/\L=(ds.take i).filterMap g) (n:=ds.length) (λi L Z G hI=>by
  obtain⟨rfl,rfl⟩:=hI;refine⟨ds[i],g ds[i],Z,by rw[hi i G];simp[G],h _ (ud G),rfl,?_⟩;rw[List.take_succ,List.filterMap_append];simp[G];cases e:g ds[i]<;>simp[e]) (λL Z h=>by rw[h.1];exact Ss) ds.length 0 [] M (t8 _) ⟨rfl,rfl⟩
 rw[hl,e,h1];simp at R;rw[R]
def aip(h:∀d∈ds,body d M=.ok (some (g d)) M) :
 Cd (Src.con ds).fin (Src.con ds).item body (Src.con ds).len 0 M=.ok (ds.map g) M:=by
 rw[O1 (s:=.con ds) (ds:=ds) (g:=λd=>some (g d)) rfl rfl (λi _=>rfl) h,List.filterMap_eq_map']
end MW
namespace MW
theorem O2{c:Env->dh->Res D}{R:Env->dh->Res (Flow×Env)}(I:Nat->Env->dh->Prop)(qq:Env->dh->Prop)
 (step:∀m G M,I m G M->(∃L,c G M=.ok (.bl false) L/\qq G L) \/
  ∃L fl Z M2 m',c G M=.ok (.bl true) L/\R G L=.ok (fl,Z) M2/\(fl=.next\/fl=.cont)/\m'<m/\I m' Z M2) :
 ∀(k m:Nat)(G:Env)(M:dh),m<k->I m G M->∃Z M',Ei c R k G M=.ok (.next,Z) M'/\qq Z M'
 |0,m,_,_,h,_=>absurd h (Nat.not_lt_zero _)
 |k+1,m,G,M,h,hI=>by
  rcases step m G M hI with⟨L,h1,h2⟩|⟨L,fl,qk,M2,m',h1,h2,h3,h4,h5⟩
  .exact⟨G,L,by simp[Ei,h1],h2⟩
  .obtain⟨qv,M3,g1,g2⟩:=O2 I qq step k m' qk M2 (b_ h4 (z_ h)) h5
   refine⟨qv,M3,?_,g2⟩;rcases h3 with rfl|rfl<;>simp[Ei,h1,h2,g1]
end MW
namespace MW
def Eu(M Z:dh):Prop:=∀(a:Nat)(o:MO),M[a]?=some o->Z[a]?=some o
def Eu.refl(M:dh):Eu M M:=λ_ _ h=>h
def Eu.trans(a:Eu M Z)(b:Eu Z M2):Eu M M2:=λx o h=>b x o (a x o h)
def Eu.app(M X:dh):Eu M (M++X):=λ_ _ h=>wj h
def Eu.len(k:Eu M Z):M.length<=Z.length:=by
 rcases Nat.eq_zero_or_pos M.length with h|h
 .exact a_ (f_ h) (j4 _)
 .have:=Bo (k (M.length-1) M[M.length-1] (by simp))
  lia
theorem Eu.iw(k:Eu M Z)(h:iw M d=some ds):MW.iw Z d=some ds:=by
 cases d with
 |vl G=>exact h
 |ref n =>
  simp only[MW.iw] at h ⊢;cases e:M[n]? with
  |none=>rw[e] at h;simp at h|some o=>rw[e] at h;rw[k n o e];exact h
 |_=>simp[MW.iw] at h
def abk(I:Nat->Env->dh->Prop)(G:iw M d=some ds)(h0:I 0 ρ M)(stay:∀i ρ M,I i ρ M->iw M d=some ds)(step:∀i x ρ M,ds[i]?=some x->I i ρ M->∃L Z M',body x ρ M=.ok (L,Z) M'/\(L=.next\/L=.cont)/\I (i+1) Z M') :
 ∃s,srcOf M d=some s/\∃Z M',Bh s.fin s.item body s.len 0 ρ M=.ok (.next,Z) M'/\I ds.length Z M':=by
 cases d with
 |vl R=>simp[iw] at G;subst G;exact⟨_,rfl,Wv I h0 step⟩
 |ref n =>
  cases e:M[n]? with
  |none=>simp[iw,e] at G
  |some o =>
   cases o with
   |lst R =>
    simp[iw,e] at G;subst G;refine⟨.live n R.length,by simp[srcOf,e],aio I h0 (λi ρ M h=>?_) step⟩;have:=stay i ρ M h;simp only[iw] at this;split at this<;>simp_all
   |_=>simp[iw,e] at G
 |_=>simp[iw] at G
def ado(Z:ds.length<=100000)(h:∀d∈ds,body d M=.ok (some (g d)) M):Ao (.con ds) body M=.ok (ds.map g) M:=by rw[Ao,bf (show(Src.con ds).len<=100000 from Z)];exact aip h
def Su(Z:ds.length<=100000)(h:∀d∈ds,body d M=.ok (g d) M):Ao (.con ds) body M=.ok (ds.filterMap g) M:=by rw[Ao,bf (show(Src.con ds).len<=100000 from Z)];exact O1 (s:=.con ds) rfl rfl (λ_ _=>rfl) h
def Yz(Z:iw M d=some ds)(L:ds.length<=100000)(h:∀x∈ds,body x M=.ok (g x) M) :
 ∃s,srcOf M d=some s/\Ao s body M=.ok (ds.filterMap g) M:=by
 cases d with
 |vl G=>simp[iw] at Z;subst Z;exact⟨_,rfl,Su L h⟩
 |ref n =>
  cases e:M[n]? with
  |none=>simp[iw,e] at Z
  |some o =>
   cases o with
   |lst G =>
    simp[iw,e] at Z;subst Z;exact⟨.live n G.length,by simp[srcOf,e],by rw[Ao,bf (show(Src.live n G.length).len<=100000 from L)];exact O1 (s:=.live n G.length) (by simp[Src.fin,e]) rfl (λi _=>by simp[Src.item,e]) h⟩
   |_=>simp[iw,e] at Z
 |_=>simp[iw] at Z
def Vj(v:Bool)(k:Nat)(t:Tg)(it:Og)(e:Ex):(Ex.comp v k t it e).den W Z M=(it.den W Z M).bind λs L =>
 (Ao s (λd M=>(Res.ue (t.put d (Z++List.replicate k none)) M).bind λG M=>(e.den W G M).bind λx M'=>.ok (some x) M') L).bind λR M2=>if v then .ok (.vl R) M2 else new (.lst R) M2:=by
 rw[Jp]
 congr 1;funext s L;congr 2;funext d M
 cases t.put d (Z++List.replicate k none)<;>rfl
def Qe(v:Bool)(k:Nat)(t:Tg)(it:Og)(c e:Ex):(Ex.Ca v k t it c e).den W L M=(it.den W L M).bind λs R =>
 (Ao s (λd M=>(Res.ue (t.put d (L++List.replicate k none)) M).bind λZ M=>(c.den W Z M).bind λb M' =>
  match b with
   |.bl true=>(e.den W Z M').bind λx G=>.ok (some x) G
   | .bl false=>.ok none M'|_=>.bad) R).bind λds M2=>if v then .ok (.vl ds) M2 else new (.lst ds) M2:=by
 rw[Sg]
 congr 1;funext s R;congr 2;funext d M
 cases t.put d (L++List.replicate k none)<;>rfl
def Wx(t:Tg)(it:Og)(b:qm):(Ar.for_ t it b).den W Z M=(it.den W Z M).bind λs M1=>Bh s.fin s.item (λd Z M=>(Res.ue (t.put d Z) M).bind λG M=>b.den W G M) s.len 0 Z M1:=by
 rw[Ov]
 congr 1;funext s M1;congr 1;funext d Z M
 cases t.put d Z<;>rfl
def Gz(R:it.den W ρ M=.ok (.int (n:Int)) M1)(hn:n<=100000)(I:Nat->Env->dh->Prop)(h0:I 0 ρ M1)(step:∀i ρ M,i<n->I i ρ M->∃G L Z M',t.put (.int i) ρ=some G/\b.den W G M=.ok (L,Z) M'/\(L=.next\/L=.cont)/\I (i+1) Z M') :
 ∃Z M',(Ar.for_ t (.Mq it) b).den W ρ M=.ok (.next,Z) M'/\I n Z M':=by
 rw[Wx,Wo,R];have Vf:((n:Int)).natAbs<=100000:=by lia
 simp only[Res.yl,Vf,j6,qy];exact Ww I h0 (λi ρ M hi h=>by
  obtain⟨G,L,Z,M',a,b,c,d⟩:=step i ρ M hi h;exact⟨L,Z,M',by rw[a];exact b,c,d⟩)
def Qf(qq:it.den W ρ M=.ok (.tup ds) M1)(I:Nat->Env->dh->Prop)(h0:I 0 ρ M1)(step:∀i x ρ M,ds[i]?=some x->I i ρ M->∃G L Z M',t.put (.tup [.int i,x]) ρ=some G/\b.den W G M=.ok (L,Z) M'/\(L=.next\/L=.cont)/\I (i+1) Z M') :
 ∃Z M',(Ar.for_ t (.enm it) b).den W ρ M=.ok (.next,Z) M'/\I ds.length Z M':=by
 rw[Wx,adi,qq];have:=Wv (ds:=Gg ds 0) (body:=λd ρ M=>(Res.ue (t.put d ρ) M).bind λZ M=>b.den W Z M) I h0 (λi x ρ M hx h=>by
  have R:i<ds.length:=by have:=(aq.mp hx).1;simpa[Gg] using this
  have qk:x=.tup [.int i,ds[i]]:=by simp[Gg,R] at hx;exact hx.symm
  subst qk;obtain⟨G,L,Z,M',a,b,c,d⟩:=step i ds[i] ρ M (by simp[R]) h;exact⟨L,Z,M',by rw[a];exact b,c,d⟩)
 have e:(Gg ds 0).length=ds.length:=by simp[Gg]
 rw[e] at this;exact this
def Lf(G:it.den W L M=.ok d M1)(hd:iw M1 d=some ds)(hl:ds.length<=100000)(h:∀x∈ds,∃Z,t.put x (L++List.replicate k none)=some Z/\e.den W Z M1=.ok (g x) M1) :
 (Ex.comp v k t (.val it) e).den W L M=if v then .ok (.vl (ds.map g)) M1 else new (.lst (ds.map g)) M1:=by
 rw[Vj,Rf,G];obtain⟨s,h1,h2⟩:=Yz (g:=λx=>some (g x)) (body:=λd M=>(Res.ue (t.put d (L++List.replicate k none)) M).bind λR M=>(e.den W R M).bind λx M'=>.ok (some x) M') hd hl (λx hx=>by
  obtain⟨Z,a,b⟩:=h x hx;rw[a];simp[b])
 simp only[Res.yl,h1,Res.Cm,h2,List.filterMap_eq_map']
def Wy(G:it.den W L M=.ok (.tup ds) M1)(hl:ds.length<=100000)(h:∀x∈ds,∃Z,t.put x (L++List.replicate k none)=some Z/\e.den W Z M1=.ok (g x) M1) :
 (Ex.comp v k t (.val it) e).den W L M=if v then .ok (.vl (ds.map g)) M1 else new (.lst (ds.map g)) M1:=by
 rw[Vj,Rf,G];have h2:=ado (g:=g) (M:=M1) (body:=λd M=>(Res.ue (t.put d (L++List.replicate k none)) M).bind λR M=>(e.den W R M).bind λx M'=>.ok (some x) M') hl (λx hx=>by
  obtain⟨Z,a,b⟩:=h x hx;rw[a];simp[b])
 show(Ao (.con ds) _ M1).bind _=_;rw[h2];rfl
def Jt(G:it.den W L M=.ok (.int (n:Int)) M1)(hl:n<=100000)(h:∀i,i<n->∃Z,t.put (.int i) (L++List.replicate k none)=some Z/\c.den W Z M1=.ok (.bl (q i)) M1/\(q i=true->e.den W Z M1=.ok (g i) M1)) :
 (Ex.Ca v k t (.Mq it) c e).den W L M=if v then .ok (.vl (((List.range n).filter q).map g)) M1 else new (.lst (((List.range n).filter q).map g)) M1:=by
 rw[Qe,Wo,G];have Vf:((n:Int)).natAbs<=100000:=by lia
 simp only[Res.yl,Vf,j6,qy];rw[Su (ds:=(List.range n).map λ(k:Nat)=>D.int (k:Int)) (g:=λd=>match d with|.int i=>if q i.toNat then some (g i.toNat) else none|_=>none) (by simpa using hl) (λx hx=>by
  obtain⟨i,R,rfl⟩:=cu.mp hx;obtain⟨Z,a,b,c⟩:=h i (lg.mp R);rw[a,Res.Cm,Res.yl,b,Res.yl];cases e:q i with
  | true=>simp[e,c e]|false=>simp[e])]
 have:(((List.range n).map λ(k:Nat)=>D.int (k:Int)).filterMap λd=>match d with|.int i=>if q i.toNat then some (g i.toNat) else none|_=>none)=((List.range n).filter q).map g:=by
  rw[List.filterMap_map]
  induction List.range n with
  |nil=>rfl|cons a l ih=>by_cases e:q a=true<;>simp[e,ih]
 rw[this];rfl
end MW
namespace K02
open MW
noncomputable section
def Gh:qm:=.p (.f (.cmp .lt (.v 1) (.l (.v 0))) (.o (.ret (.ix (.v 0) (.v 1))))) (.ret (.i 0))
def Gi:Fn:=⟨2,2,Gh⟩
def Hy:qm:=.q (.a 2 (.call 0 (.p (.v 0) (.v 1)))) (.f (.cmp .ge (.v 2) (.bin .pow (.i 10) (.i 18))) (.o (.ret (.lst (.p (.bin .sub (.v 2) (.bin .pow (.i 10) (.i 18))) (.cst (.bl true))))))) (.ret (.lst (.p (.bin .mod (.v 2) (.i 2147483647)) (.cst (.bl false)))))
def Hz:Fn:=⟨2,3,Hy⟩
def Ju:qm:=.c (.f (.ix (.v 0) (.i 1)) (.q (.a 2 (.bin .mod (.ix (.v 0) (.i 0)) (.v 1))) (.asg (.sub (.v 0) (.i 0)) (.bin .fdiv (.ix (.v 0) (.i 0)) (.v 1))) (.ret (.v 2)))) (.c (.asg (.sub (.v 0) (.i 0)) (.bin .mod (.bin .add (.bin .mul (.ix (.v 0) (.i 0)) (.i 48271)) (.i 29)) (.i 2147483647))) (.q (.a 3 (.bin .mod (.bin .add (.bin .add (.bin .mul (.ix (.v 0) (.i 0)) (.ix (.v 0) (.i 0))) (.bin .mul (.i 39373) (.ix (.v 0) (.i 0)))) (.i 7)) (.i 2147483629))) (.a 3 (.bin .mod (.bin .add (.bin .mul (.v 3) (.v 3)) (.bin .mul (.i 16807) (.v 3))) (.i 2147483587))) (.ret (.bin .mod (.bin .fdiv (.v 3) (.i 8)) (.v 1)))))
def Jv:Fn:=⟨2,4,Ju⟩
def Gj:Ex:=.comp true 1 (.name 12) (.Mq (.ix (.v 7) (.v 10))) (.call 2 (.p (.v 0) (.ix (.v 7) (.v 11))))
def Cw:qm:=.q (.a 10 (.call 2 (.p (.v 0) (.v 6)))) (.a 11 (.call 2 (.p (.v 0) (.v 6)))) (.expr (.bm .append (.v 8) (.o (.tup (.q (.v 10) (.v 11) (.blt .tuple (.o Gj)))))))
def Gk:Ar:=.for_ (.name 9) (.Mq (.call 2 (.p (.v 0) (.i 4)))) Cw
def Gm:Ex:=.comp true 1 (.name 12) (.Mq (.v 6)) (.bin .add (.i 1) (.call 2 (.p (.v 0) (.i 3))))
def Ia:qm:=.c (.a 1 (.call 2 (.p (.v 0) (.i 12)))) (.c (.f (.cmp .lt (.v 1) (.i 7)) (.c (.a 2 (.Dg (.p (.tup (.q (.i 0) (.i 1) (.tup (.p (.i 0) (.i 1))))) (.tup (.q (.i 0) (.i 1) (.tup (.p (.i 1) (.i 0)))))))) (.c (.a 3 (.Dg (.q (.tup (.q (.i 0) (.i 1) (.tup (.c (.i 0) (.q (.i 0) (.i 1) (.i 1)))))) (.tup (.q (.i 0) (.i 1) (.tup (.c (.i 0) (.q (.i 1) (.i 0) (.i 1)))))) (.tup (.q (.i 1) (.i 0) (.tup (.p (.i 0) (.i 3)))))))) (.q (.a 4 (.Dg (.o (.tup (.q (.i 0) (.i 0) (.tup (.p (.i 1) (.i 0)))))))) (.a 5 (.Dg (.c (.v 2) (.c (.v 3) (.c (.v 4) (.c (.Dg (.o (.tup (.q (.i 0) (.i 0) (.tup (.q (.i 1) (.i 2) (.i 0))))))) (.q (.Dg (.o (.tup (.q (.i 0) (.i 0) (.tup (.p (.i 0) (.i 0))))))) (.Dg .z) (.Dg (.p (.tup (.q (.i 0) (.i 1) (.tup (.p (.i 0) (.i 1))))) (.tup (.q (.i 1) (.i 2) (.tup (.q (.i 0) (.i 0) (.i 1)))))))))))))) (.ret (.ix (.v 5) (.v 1))))))) (.c (.a 6 (.bin .add (.i 1) (.call 2 (.p (.v 0) (.i 3))))) (.c (.a 7 Gm) (.q (.a 8 (.lst .z)) Gk (.ret (.v 8))))))
def Bq:Fn:=⟨1,12,Ia⟩
def Fe:Ex:=.comp true 1 (.name 10) (.val (.ix (.v 7) (.i 2))) (.ix (.ix (.v 8) (.i 2)) (.v 10))
def Bj:qm:=.c (.a 4 (.tup .z)) (.q (.f (.cmp .eq (.ix (.v 7) (.i 1)) (.ix (.v 8) (.i 0))) (.o (.a 4 (.blt .tuple (.o Fe))))) (.a 9 (.tup (.q (.ix (.v 7) (.i 0)) (.ix (.v 8) (.i 1)) (.v 4)))) (.f (.and (.cmp .ne (.v 4) (.tup .z)) (.and (.cmp .Qc (.v 9) (.v 1)) (.or (.cmp .ne (.ix (.v 9) (.i 0)) (.ix (.v 9) (.i 1))) (.cmp .ne (.v 4) (.abd (.l (.v 4))))))) (.o (.expr (.bm .append (.v 1) (.o (.v 9)))))))
def Ff:Ar:=.for_ (.names [7,8]) (.val (.Dg (.p (.tup (.p (.ix (.v 1) (.v 5)) (.ix (.v 1) (.v 6)))) (.tup (.p (.ix (.v 1) (.v 6)) (.ix (.v 1) (.v 5))))))) Bj
def Fi:qm:=.o Ff
def Fj:Ar:=.for_ (.name 6) (.Mq (.l (.v 1))) Fi
def Jc:qm:=.p Fj (.a 5 (.bin .add (.v 5) (.i 1)))
def Fl:Ar:=.whl (.and (.cmp .lt (.v 5) (.l (.v 1))) (.cmp .lt (.l (.v 1)) (.i 6))) Jc
def yh:qm:=.o (.f (.and (.or (.cmp .ne (.v 2) (.v 3)) (.cmp .ne (.v 4) (.abd (.l (.v 4))))) (.cmp .Qc (.tup (.q (.v 2) (.v 3) (.v 4))) (.v 1))) (.o (.expr (.bm .append (.v 1) (.o (.tup (.q (.v 2) (.v 3) (.v 4))))))))
def Fo:Ar:=.for_ (.names [2,3,4]) (.val (.v 0)) yh
def Lg:qm:=.c (.a 1 (.lst .z)) (.c Fo (.q (.a 5 (.i 0)) Fl (.ret (.v 1))))
def Lh:Fn:=⟨1,10,Lg⟩
def Dm:Ex:=.comp true 3 (.names [8,9,10]) (.val (.v 2)) (.tup (.p (.v 8) (.v 9)))
def Dp:Ex:=.comp true 1 (.name 8) (.val (.ix (.ix (.v 2) (.v 5)) (.i 2))) (.ix (.ix (.ix (.v 2) (.v 6)) (.i 2)) (.v 8))
def Ad:qm:=.o (.f (.cmp .eq (.ix (.ix (.v 2) (.v 5)) (.i 1)) (.ix (.ix (.v 2) (.v 6)) (.i 0))) (.p (.a 7 (.tup (.q (.ix (.ix (.v 2) (.v 5)) (.i 0)) (.ix (.ix (.v 2) (.v 6)) (.i 1)) (.blt .tuple (.o Dp))))) (.asg (.sub (.v 4) (.tup (.p (.v 5) (.v 6)))) (.ite (.cmp .inn (.v 7) (.v 2)) (.bm .index (.v 2) (.o (.v 7))) (.neg (.i 1))))))
def Hr:Ar:=.for_ (.name 6) (.Mq (.l (.v 2))) Ad
def Dq:qm:=.o Hr
def Dr:Ar:=.for_ (.name 5) (.Mq (.l (.v 2))) Dq
def Dt:Ex:=.comp true 3 (.names [8,9,10]) (.val (.v 2)) (.blt .max (.p (.v 8) (.v 9)))
def Hs:qm:=.p (.a 1 (.cut (.v 1) .none (.some (.neg (.i 1))))) (.a 2 (.call 4 (.o (.v 1))))
def Du:Ar:=.whl (.cmp .gt (.l (.v 2)) (.i 5)) Hs
def Jw:qm:=.c (.a 1 (.call 3 (.o (.v 0)))) (.c (.a 2 (.call 4 (.o (.v 1)))) (.c Du (.c (.a 3 (.bin .add (.i 1) (.blt .max (.o (.bin .add Dt (.Dg (.o (.i 0)))))))) (.c (.f (.cmp .eq (.v 2) (.Dg .z)) (.o (.a 3 (.bin .add (.i 1) (.call 2 (.p (.v 0) (.i 3))))))) (.q (.a 4 .afo) Dr (.ret (.tup (.q (.v 3) (.blt .tuple (.o Dm)) (.v 4)))))))))
def Jx:Fn:=⟨1,8,Jw⟩
def Ae:qm:=.c (.exq 10 (.p (.v 1) (.v 2))) (.c (.exq 11 (.p (.v 2) (.v 3))) (.c (.exq 12 (.p (.v 2) (.v 3))) (.q (.asg (.fld (.v 0) 2) (.v 1)) (.asg (.fld (.v 0) 1) (.v 2)) (.asg (.fld (.v 0) 0) (.blt .dict (.o (.v 3)))))))
def O3:Fn:=⟨4,4,Ae⟩
def G3:qm:=.q (.f (.cmp .eq (.v 1) (.i (-1))) (.o (.ret (.v 2)))) (.f (.cmp .eq (.v 2) (.i (-1))) (.o (.ret (.v 1)))) (.ret (.ix (.v 0) (.tup (.p (.v 1) (.v 2)))))
def G4:Fn:=⟨3,3,G3⟩
def zf:qm:=.o (.f (.cmp .eq (.ix (.v 3) (.i 1)) (.ix (.v 5) (.i 0))) (.o (.expr (.bm .append (.v 1) (.o (.tup (.p (.v 2) (.v 4))))))))
def Nb:Ar:=.for_ (.names [4,5]) (.enm (.v 0)) zf
def G5:qm:=.o Nb
def G6:Ar:=.for_ (.names [2,3]) (.enm (.v 0)) G5
def Jd:qm:=.q (.a 1 (.lst .z)) G6 (.ret (.v 1))
def Je:Fn:=⟨1,6,Jd⟩
def Dw:qm:=.p (.f (.cmp .eq (.v 1) (.i (-1))) (.o (.ret (.cmp .eq (.v 2) (.v 3))))) (.ret (.and (.chain .le .lt (.i 0) (.v 1) (.l (.v 0))) (.cmp .eq (.ix (.v 0) (.v 1)) (.tup (.p (.v 2) (.v 3))))))
def Dy:Fn:=⟨4,4,Dw⟩
def yr:qm:=.o (.f (.not (.and (.chain .le .lt (.i 0) (.ix (.v 2) (.i 0)) (.v 0)) (.chain .le .lt (.i 0) (.ix (.v 2) (.i 1)) (.v 0)))) (.o (.raise 1)))
def Dz:Ar:=.for_ (.name 2) (.val (.v 1)) yr
def Az:qm:=.q (.f (.not (.chain .le .le (.i 1) (.v 0) (.i 3))) (.o (.raise 1))) (.f (.cmp .gt (.l (.v 1)) (.i 5)) (.o (.raise 1))) Dz
def Sv:Fn:=⟨2,3,Az⟩
def Cg:qm:=.o (.f (.not (.call 9 (.c (.v 0) (.q (.ix (.v 1) (.tup (.p (.v 3) (.v 4)))) (.ix (.ix (.v 0) (.v 3)) (.i 0)) (.ix (.ix (.v 0) (.v 4)) (.i 1)))))) (.o (.raise 1)))
def Fp:Ar:=.for_ (.names [3,4]) (.val (.v 2)) Cg
def Ce:qm:=.q (.a 2 (.call 8 (.o (.v 0)))) (.f (.R8 (.v 1) (.v 2)) (.o (.raise 1))) Fp
def Uz:Fn:=⟨2,5,Ce⟩
def wz:qm:=.c (.f (.cmp .Qc (.tup (.p (.v 4) (.v 5))) (.v 1)) (.o .cont)) (.q (.a 6 (.call 7 (.q (.v 1) (.ix (.v 1) (.tup (.p (.v 3) (.v 4)))) (.v 5)))) (.a 7 (.call 7 (.q (.v 1) (.v 3) (.ix (.v 1) (.tup (.p (.v 4) (.v 5))))))) (.f (.cmp .ne (.v 6) (.v 7)) (.o (.raise 1))))
def O4:Ar:=.for_ (.name 5) (.Mq (.l (.v 0))) wz
def Ea:qm:=.o O4
def Eb:Ar:=.for_ (.names [3,4]) (.val (.v 2)) Ea
def Cy:qm:=.p (.a 2 (.call 8 (.o (.v 0)))) Eb
def Sw:Fn:=⟨2,8,Cy⟩
def Jy:qm:=.q (.a 3 (.tup (.p (.ix (.ix (.v 0) (.ix (.v 1) (.i 0))) (.i 0)) (.ix (.ix (.v 0) (.ix (.v 1) (.i 1))) (.i 1))))) (.f (.cmp .eq (.v 2) (.neg (.i 1))) (.o (.ret (.cmp .eq (.ix (.v 3) (.i 0)) (.ix (.v 3) (.i 1)))))) (.ret (.and (.chain .le .lt (.i 0) (.v 2) (.l (.v 0))) (.cmp .eq (.ix (.v 0) (.v 2)) (.v 3))))
def Jz:Fn:=⟨3,4,Jy⟩
def Ib:qm:=.p (.f (.or (.cmp .lt (.v 1) (.i 0)) (.cmp .lt (.v 2) (.i 0))) (.o (.ret (.bin .add (.bin .add (.v 1) (.v 2)) (.i 1))))) (.ret (.ix (.v 0) (.tup (.p (.v 1) (.v 2)))))
def Ie:Fn:=⟨3,3,Ib⟩
def Ab:qm:=.o (.f (.cmp .eq (.ix (.ix (.v 1) (.v 6)) (.i 1)) (.ix (.ix (.v 1) (.v 7)) (.i 0))) (.p (.a 8 (.call 14 (.q (.v 2) (.call 14 (.q (.v 2) (.v 4) (.v 6))) (.v 7)))) (.f (.cmp .ne (.v 8) (.call 14 (.q (.v 2) (.v 4) (.call 14 (.q (.v 2) (.v 6) (.v 7)))))) (.o (.ret (.cst (.bl false)))))))
def U0:Ar:=.for_ (.name 7) (.Mq (.l (.v 1))) Ab
def Hd:qm:=.o U0
def Ek:Ar:=.for_ (.names [4,6]) (.val (.v 3)) Hd
def El:qm:=.o (.f (.not (.call 13 (.q (.v 1) (.v 5) (.ix (.v 2) (.v 5))))) (.o (.ret (.cst (.bl false)))))
def Em:Ar:=.for_ (.name 5) (.val (.v 3)) El
def Hf:Ex:=.Ca true 1 (.name 9) (.Mq (.l (.v 1))) (.cmp .eq (.ix (.ix (.v 1) (.v 4)) (.i 1)) (.ix (.ix (.v 1) (.v 9)) (.i 0))) (.tup (.p (.v 4) (.v 9)))
def Eo:qm:=.o (.a 3 (.bin .add (.v 3) Hf))
def Li:Ar:=.for_ (.name 4) (.Mq (.l (.v 1))) Eo
def Ep:Ex:=.Ca true 1 (.name 9) (.val (.v 1)) (.not (.Hx .le .le .lt (.i 0) (.blt .min (.o (.v 9))) (.blt .max (.o (.v 9))) (.v 0))) (.v 9)
def Bd:qm:=.c (.f (.or (.not (.chain .le .le (.i 1) (.v 0) (.i 3))) (.cmp .gt (.l (.v 1)) (.i 5))) (.o (.ret (.cst (.bl false))))) (.c (.f (.cmp .ne Ep (.Dg .z)) (.o (.ret (.cst (.bl false))))) (.c (.a 3 (.Dg .z)) (.c Li (.c (.f (.cmp .ne (.blt .sorted (.o (.v 2))) (.v 3)) (.o (.ret (.cst (.bl false))))) (.q Em Ek (.ret (.cst (.bl true))))))))
def Qg:Fn:=⟨3,9,Bd⟩
def Br:Ar:=.f (.cmp .eq (.v 4) (.i 5)) (.o (.asg (.sub (.v 3) (.tup (.p (.call 2 (.p (.v 0) (.i 6))) (.bin .sub (.call 2 (.p (.v 0) (.i 7))) (.i 1))))) (.bin .sub (.call 2 (.p (.v 0) (.i 3))) (.i 1))))
def Ec:Ar:=.iff (.cmp .eq (.v 4) (.i 4)) (.o (.expr (.bm .pop (.v 3) (.o (.v 9))))) (.o (.asg (.sub (.v 3) (.v 9)) (.bin .sub (.call 2 (.p (.v 0) (.bin .add (.l (.v 2)) (.i 3)))) (.i 2))))
def Af:Ar:=.f (.and (.cmp .gt (.v 4) (.i 3)) (.cmp .ne (.v 8) (.Dg .z))) (.p (.a 9 (.ix (.v 8) (.call 2 (.p (.v 0) (.l (.v 8)))))) Ec)
def Bs:Ar:=.f (.cmp .eq (.v 4) (.i 3)) (.p (.a 7 (.tup (.p (.call 2 (.p (.v 0) (.i 3))) (.call 2 (.p (.v 0) (.i 3)))))) (.a 2 (.bin .add (.v 2) (.bin .mul (.tup (.o (.v 7))) (.bin .add (.i 1) (.bin .mul (.i 5) (.call 2 (.p (.v 0) (.i 2)))))))))
def Bt:Ar:=.f (.cmp .eq (.v 4) (.i 2)) (.o (.a 2 (.cut (.v 2) .none (.some (.neg (.i 1))))))
def Ba:Ar:=.f (.and (.cmp .eq (.v 4) (.i 1)) (.cmp .ne (.v 2) (.tup .z))) (.q (.a 6 (.ix (.Dg (.c (.i 0) (.c (.i 1) (.q (.i 2) (.i 3) (.neg (.i 1)))))) (.call 2 (.p (.v 0) (.i 5))))) (.a 7 (.ix (.Dg (.p (.tup (.p (.ix (.ix (.v 2) (.v 5)) (.i 0)) (.v 6))) (.tup (.p (.v 6) (.ix (.ix (.v 2) (.v 5)) (.i 1)))))) (.call 2 (.p (.v 0) (.i 2))))) (.a 2 (.bin .add (.bin .add (.cut (.v 2) .none (.some (.v 5))) (.tup (.o (.v 7)))) (.cut (.v 2) (.some (.bin .add (.v 5) (.i 1))) .none))))
def Bu:Ar:=.f (.cmp .eq (.v 4) (.i 0)) (.o (.a 1 (.ix (.Dg (.c (.bin .sub (.v 1) (.i 1)) (.c (.bin .add (.v 1) (.i 1)) (.q (.i 0) (.i 4) (.neg (.i 1)))))) (.call 2 (.p (.v 0) (.i 5))))))
def Gn:qm:=.c (.a 4 (.call 2 (.p (.v 0) (.i 10)))) (.c (.a 5 (.call 2 (.p (.v 0) (.blt .max (.p (.i 1) (.l (.v 2))))))) (.c Bu (.c Ba (.c Bt (.c Bs (.c (.a 8 (.blt .sorted (.o (.v 3)))) (.q Af Br (.ret (.tup (.q (.v 1) (.v 2) (.v 3)))))))))))
def Sx:Fn:=⟨4,10,Gn⟩
def Wz:qm:=.o (.asg (.tg (.names [2,3,4])) (.call 16 (.c (.v 1) (.q (.v 2) (.v 3) (.v 4)))))
def adp:Ar:=.for_ (.name 5) (.Mq (.call 2 (.p (.v 1) (.i 3)))) Wz
def adq:qm:=.c (.a 1 (.call 1 (.p (.v 0) (.i 0)))) (.c (.asg (.tg (.names [2,3,4])) (.call 5 (.o (.v 1)))) (.c (.a 4 (.blt .dict (.o (.v 4)))) (.c adp (.c (.a 6 (.blt .dict (.o (.v 4)))) (.c (.a 7 (.ask 6 (.q (.v 2) (.v 3) (.v 6)))) (.q (.f (.dne (.v 6) (.v 4)) (.o (.ret (.cst (.bl false))))) (.f (.call 15 (.q (.v 2) (.v 3) (.v 4))) (.o (.ret (.cmp .is (.v 7) (.cst .non))))) (.ret (.cmp .eq (.v 7) (.Dg (.o (.i 0)))))))))))
def asf:Fn:=⟨1,8,adq⟩
def Ed:Ex:=.Ca true 1 (.name 4) (.Mq (.i 6)) (.ix (.v 3) (.v 4)) (.v 4)
def Gp:qm:=.c (.a 3 (.Dg (.q (.blt (.isE 1) (.o (.v 1))) (.blt (.isE 2) (.o (.v 1))) (.blt (.isE 3) (.o (.v 1)))))) (.q (.a 3 (.bin .add (.v 3) (.Dg (.q (.blt (.isE 4) (.o (.v 1))) (.blt (.isE 5) (.o (.v 1))) (.blt (.isE 6) (.o (.v 1))))))) (.f (.not (.blt (.isE 0) (.o (.v 1)))) (.o (.ret (.cst .non)))) (.ret Ed))
def Gq:Fn:=⟨1,4,Gp⟩
def prog:Prog:=⟨[Gi,Hz,Jv,Bq,Lh,Jx,O3,G4,Je,Dy,Sv,Uz,Sw,Jz,Ie,Qg,Sx,asf],Gq⟩
end
abbrev PW(m:Nat):Fd:=⟨prog.call m,prog.cae m,prog.rfd m⟩
set_option genInjectivity true in
structure F where
 a:Nat
 b:Nat
 r:List Nat
 deriving DecidableEq
noncomputable def nD(x:Nat):D:=.int (x:Int)
def Di(r:Y2):D:=.tup (r.map nD)
def F.toD(f:F):D:=.tup [.int f.a,.int f.b,Di f.r]
def adt(x y:Nat):decide ((x:Int)=(y:Int))=decide (x=y):=by
 by_cases h:x=y
 .simp[h]
 .have:¬((x:Int)=(y:Int)):=by lia
  simp[h,this]
def W0(M:dh)(n x y:Nat):Jk M (n+1) (.int x) (.int y)=some (decide (x=y)):=by rw[Wr,adt]
theorem W2(M:dh)(n:Nat):∀r s:List Nat,My (Jk M (n+1)) (r.map nD) (s.map nD)=some (decide (r=s))
 |[],[]=>by simp[My]|[],_::_=>by simp[My]|_::_,[]=>by simp[My]
 |x::r,y::s=>by
  rw[du,du,Jq (a:=nD x) (b:=nD y) (W0 M n x y) (W2 M n r s)]
  by_cases h:x=y<;>simp[h]
def abl(M:dh)(r s:Y2):Ak M (Di r) (Di s)=some (decide (r=s)):=W2 M 4 r s
def a8a(M:dh)(f g:F):Ak M f.toD g.toD=some (decide (f=g)):=by obtain⟨a,b,r⟩:=f;obtain⟨c,d,s⟩:=g;have e:Jk M 5 (Di r) (Di s)=some (decide (r=s)):=W2 M 3 r s;show My (Jk M 5) [.int a,.int b,Di r] [.int c,.int d,Di s]=_;rw[Jq (W0 M 4 a c) (Jq (W0 M 4 b d) (Jq e (show My (Jk M 5) [] []=some true from rfl)))];simp
theorem aiq(M:dh)(g:F):∀fs:List F,R9 M g.toD (fs.map F.toD)=some (fs.map λf=>decide (f=g))
 |[]=>rfl|f::fs=>by simp only[du,R9,a8a,aiq M g fs]
def air(M:dh)(g:F)(fs:List F):memD M g.toD (fs.map F.toD)=some (decide (g∈fs)):=by
 rw[memD,aiq,uz]
 congr 1
 induction fs with
 |nil=>simp
 |cons f fs Z =>
  by_cases h:f=g
  .simp[h]
  .simp only[du,yq,Z,bx,id]
   simp[h,j5 h]
noncomputable def pos(g:F):List F->Nat
 |[]=>0|f::fs=>if f=g then 0 else pos g fs+1
def a0i(M:dh)(g:F)(fs:List F):afp M g.toD (fs.map F.toD)=if g∈fs then some (pos g fs) else none:=by
 rw[afp,aiq,zr]
 induction fs with
 |nil=>simp
 |cons f fs G =>
  rw[du,List.findIdx?_cons,G,pos]
  by_cases h:f=g
  .simp[h]
  .by_cases Z:g∈fs<;>simp[h,j5 h,Z]
noncomputable def F.comp(f g:F):F:=⟨f.a,g.b,f.r.map λx=>g.r.getD x 0⟩
def F.Q4(f:F):Prop:=f.a=f.b/\f.r=List.range f.r.length
instance (f:F):Decidable f.Q4:=inferInstanceAs (Decidable (_/\_))
structure Y0(sz:Nat->Nat)(f:F):Prop where
 a:f.a<3
 b:f.b<3
 len:f.r.length=sz f.a
 ran:∀x∈f.r,x<sz f.b
def Sz(sz:Nat->Nat):Prop:=∀k,1<=sz k/\sz k<=4
def Good(sz:Nat->Nat)(fs:List F):Prop:=∀f∈fs,Y0 sz f
def getD_mem{r:Y2}(h:x<r.length):r.getD x 0∈r:=by rw[o6,gb h];exact ud h
theorem Y0.comp(Z:Y0 sz f)(G:Y0 sz g)(h:f.b=g.a):Y0 sz (f.comp g):=by
 refine⟨Z.a,G.b,by simp[F.comp,Z.len],λx R=>?_⟩;obtain⟨y,L,rfl⟩:=cu.mp R;have:y<g.r.length:=by rw[G.len,<- h];exact Z.ran y L
 exact G.ran _ (getD_mem this)
def J0(fs:List F):Prop:=∀f∈fs,∀g∈fs,f.b=g.a->f.comp g∈fs\/(f.comp g).Q4
def call_of(L:1<=m)(Z:prog.fns[f]?=some G):prog.call m f ds M=G.run (PW (m-1)) ds M:=by obtain⟨n,rfl⟩:∃n,m=n+1:=⟨m-1,by lia⟩;simp only[Prog.call,Prog.Mr,Z];rfl
def aur(L:1<=m)(Z:prog.fns[f]?=some G):prog.cae m f ds M=G.Yw (PW (m-1)) ds M:=by obtain⟨n,rfl⟩:∃n,m=n+1:=⟨m-1,by lia⟩;simp only[Prog.cae,Prog.Mr,Z];rfl
def ais(Z:1<=m):prog.rfd m c M=prog.rf.afs (PW (m-1)) c M:=by obtain⟨n,rfl⟩:∃n,m=n+1:=⟨m-1,by lia⟩;rfl
def aus(n:Int)(f:Bool):Prop:=0<=n/\(f=false->n<2147483647)
def Oh(t:Nat)(f:Bool)(M:dh):Prop:=∃n,M[t]?=some (.lst [.int n,.bl f])/\aus n f
structure St(t:Nat)(f:Bool)(M M':dh):Prop where
 len:M.length<=M'.length
 has:Oh t f M'
 keep:∀(a:Nat)(o:MO),a≠t->M[a]?=some o->M'[a]?=some o
def St.trans(a:St t f M Z)(b:St t f Z M2):St t f M M2 :=
 ⟨dq a.len b.len,b.has,λx o n h=>b.keep x o n (a.keep x o n h)⟩
def St.of(h:Oh t f M)(k:Eu M M'):St t f M M' :=
 ⟨k.len,let ⟨n,a,b⟩:=h;⟨n,k _ _ a,b⟩,λa o _ e=>k a o e⟩
def ym(hm:1<=m)(hs:Oh t f M)(Z:0<many)(hq:many<1073741824) :
 ∃(v:Nat)(M':dh),prog.call m 2 [.ref t,.int many] M=.ok (.int v) M'/\(v:Int)<many/\St t f M M'/\M'.length=M.length:=by
 obtain⟨n,h,L⟩:=hs;rw[call_of hm rfl];have hl:=Be h;have g0:=Fy hl (i:=0) (by decide) rfl;have g1:=Fy hl (i:=1) (by decide) rfl;have fin:∀n':Int,aus n' f->St t f M (M.set t (.lst [.int n',.bl f])):=λn' o=>⟨by simp,⟨n',zm h,o⟩,λa u e q=>by rw[Bf (j5 e)];exact q⟩
 have R:many≠0:=by lia
 have c1:∀y:Int,∃v:Nat,y%many=(v:Int)/\(v:Int)<many:=λy=>by have a:=Ah y R;have b:=yo y Z;exact⟨(y%many).toNat,by lia,by lia⟩
 cases f with
 |true =>
  obtain⟨v,e,l⟩:=c1 n;refine⟨v,_,?_,l,fin (n / many) ⟨Int.ediv_nonneg L.1 (by lia),by simp⟩,by simp⟩;simp[Fn.run,Jv,Ju,g0,g1,Z,Vi _ _ Z hq,adm h,e]
 |false =>
  have h1:=L.1;have h2:=L.2 rfl;obtain⟨n',en⟩:∃n',(n*48271+29)%2147483647=n':=⟨_,rfl⟩;have e1:0<=n':=en▸Ah _ (by decide)
  have e2:n'<2147483647:=en▸yo _ (by decide)
  obtain⟨x,G⟩:∃x,(n'*n'+39373*n'+7)%2147483629=x:=⟨_,rfl⟩;have x1:0<=x:=G▸Ah _ (by decide)
  have x2:x<2147483629:=G▸yo _ (by decide)
  obtain⟨y,ey⟩:∃y,(x*x+16807*x)%2147483587=y:=⟨_,rfl⟩;obtain⟨v,e,l⟩:=c1 (y / 8);refine⟨v,_,?_,l,fin n' ⟨e1,λ_=>e2⟩,by simp⟩;have k:=zm (o:=.lst [.int n',.bl false]) h;have k0:=Fy (Be k) (i:=0) (by decide) rfl;simp[Fn.run,Jv,Ju,g0,g1,Z,adm h,Ho n 48271 (.inr (by decide)),en,k0,Ho n' n' (.inl (by lia)),Ho 39373 n' (.inl (by decide)),G,Ho x x (.inl (by lia)),Ho 16807 x (.inl (by decide)),ey,Vi _ 8 (by decide) (by decide),e]
def adu{k:Nat}{Z:X1}(L:1<=m):prog.call m 0 [.fz (Z.map D.int),.int k] M=.ok (.int (Z.getD k 0)) M:=by
 rw[call_of L rfl]
 by_cases G:k<Z.length
 .simp[Fn.run,Gi,Gh,aim,G,a0f (ds:=Z.map D.int) (i:=k) (x:=.int (Z.getD k 0)) q_ (by simp[G])]
 .simp[Fn.run,Gi,Gh,aim,G]
def ait{k:Nat}{ns:X1}(Z:2<=m):∃n f,prog.call m 1 [.fz (ns.map D.int),.int k] M=.ok (.ref M.length) (M++[.lst [.int n,.bl f]])/\aus n f:=by
 rw[call_of (a_ (by decide) Z) rfl]
 by_cases h:(10:Int) ^ 18<=ns.getD k 0
 .refine⟨ns.getD k 0-10 ^ 18,true,?_,by lia,by simp⟩
  have G:(1000000000000000000:Int)<=ns[k]?.getD 0:=by simpa using h
  simp[Fn.run,Hz,Hy,adu (show 1<=m-1 by exact r_ Z),G,MW.new]
 .refine⟨ns.getD k 0%2147483647,false,?_,Ah _ (by decide),λ_=>yo _ (by decide)⟩
  have G:¬(1000000000000000000:Int)<=ns[k]?.getD 0:=by simpa using h
  simp[Fn.run,Hz,Hy,adu (show 1<=m-1 by exact r_ Z),G,MW.new]
def adw(n:Nat)(i:Nat)(M:dh)(h:i<n):(Src.con ((List.range n).map λ(k:Nat)=>D.int (k:Int))).item i M=some (.int i):=by simp[Src.item,zy h]
def adx(n:Nat):(Src.con ((List.range n).map λ(k:Nat)=>D.int (k:Int))).len=n:=by simp[Src.len]
def aiu{K:Nat}(hm:1<=m)(hs:Oh t f M)(hK:K<=3) :
 ∃(Z:Y2)(G:dh),Gm.den (PW m) [some (.ref t),a1,a2,a3,a4,a5,some (.int K),a7,a8,a9,a10,a11] M=.ok (.vl (Z.map nD)) G/\Z.length=K/\(∀x∈Z,1<=x/\x<=3)/\St t f M G/\G.length=M.length:=by
 unfold Gm;rw[Jp];have L:K<=100000:=a_ hK (by decide)
 simp[L];have h:=M9 (fin:=λ_=>true) (item:=(Src.con ((List.range K).map λ(k:Nat)=>D.int (k:Int))).item)
  (body:=λd M=>((prog.call m 2 [D.ref t,D.int 3] M).bind λy M2=>Dh .add (.int 1) y M2).bind λx G=>Res.ok (some x) G)
  (λi xs G=>∃Z:List Nat,xs=Z.map nD/\Z.length=i/\(∀x∈Z,1<=x/\x<=3)/\St t f M G/\G.length=M.length) (n:=K)
  (λi xs G hi hI=>by
   obtain⟨Z,rfl,rfl,h1,R,h3⟩:=hI;obtain⟨v,M2,e,l,s2,l2⟩:=ym hm R.has (many:=3) (by decide) (by decide);refine⟨.int Z.length,some (.int (1+v)),M2,adw K _ G hi,by simp[e],Z++[1+v],by simp[nD],by simp,λx hx=>?_,R.trans s2,l2.trans h3⟩;rcases fj.mp hx with q|q
   .exact h1 x q
   .have:x=1+v:=by simpa using q
    lia) (λ_ _ _=>rfl) K 0 [] M (t8 _) ⟨[],rfl,rfl,by simp,St.of hs (Eu.refl M),rfl⟩
 obtain⟨ys,G,e,Z,h1,R,h3,h4,h5⟩:=h;refine⟨Z,G,?_,R,h3,h4,h5⟩;rw[Ao,adx,bf L,show(Src.con ((List.range _).map λ(k:Nat)=>D.int (k:Int))).fin=λ_=>true from rfl,e];simp at h1;simp[h1]
def aut{G:Y2}(hm:1<=m)(hs:Oh t f M)(L:∀x∈G,1<=x/\x<=3)(hi:i<G.length)(hj:j<G.length) :
 ∃(r:Y2)(Z:dh),Gj.den (PW m) [some (.ref t),a1,a2,a3,a4,a5,a6,some (.vl (G.map nD)),a8,a9,some (.int i),some (.int j)] M=.ok (.vl (r.map nD)) Z /\
  r.length=G.getD i 0/\(∀x∈r,x<G.getD j 0)/\St t f M Z/\Z.length=M.length:=by
 unfold Gj;rw[Jp];have gi:=Fy (M:=M) (d:=.vl (G.map nD)) (i:=i) (x:=.int ((G.getD i 0:Nat):Int)) rfl q_ (by simp[hi,nD]);have gj:∀Z,Aq (.vl (G.map nD)) (.int j) Z=some (.int ((G.getD j 0:Nat):Int)):=λZ=>Fy rfl q_ (by simp[hj,nD])
 have bi:=L _ (getD_mem hi);have bj:=L _ (getD_mem hj);generalize ea:G.getD i 0=a at *;generalize eb:G.getD j 0=b at *;have ha:a<=100000:=a_ bi.2 (by decide)
 simp[gi,gj,ha];have h:=M9 (fin:=λ_=>true) (item:=(Src.con ((List.range a).map λ(k:Nat)=>D.int (k:Int))).item)
  (body:=λd M=>(prog.call m 2 [D.ref t,D.int b] M).bind λx Z=>Res.ok (some x) Z)
  (λi xs Z=>∃r:List Nat,xs=r.map nD/\r.length=i/\(∀x∈r,x<b)/\St t f M Z/\Z.length=M.length) (n:=a)
  (λi xs Z hi hI=>by
   obtain⟨r,rfl,rfl,h1,R,L⟩:=hI;obtain⟨v,M2,e,l,s2,l2⟩:=ym hm R.has (many:=b) (m_ bj.1) (m_ (c_ bj.2 (by decide)));refine⟨.int r.length,some (.int v),M2,adw a _ Z hi,by simp[e],r++[v],by simp[nD],by simp,λx hx=>?_,R.trans s2,l2.trans L⟩;rcases fj.mp hx with q|q
   .exact h1 x q
   .have:x=v:=by simpa using q
    exact c_ (f_ this) (o_ l)) (λ_ _ _=>rfl) a 0 [] M (t8 _) ⟨[],rfl,rfl,by simp,St.of hs (Eu.refl M),rfl⟩
 obtain⟨ys,Z,e,r,h1,R,L,h4,h5⟩:=h;refine⟨r,Z,?_,R,L,h4,h5⟩;rw[Ao,adx,bf ha,show(Src.con ((List.range _).map λ(k:Nat)=>D.int (k:Int))).fin=λ_=>true from rfl,e];simp at h1;simp[h1]
def W3{v:Nat}{G:Y2}(hm:1<=m)(hs:Oh t f M)(hK:G.length=K)(q0:1<=K)(R:K<=3)(h3:∀x∈G,1<=x/\x<=3)(hp:M[p]?=some (.lst []))(Z:p≠t) :
 ∃(fs:List F)(qv:Env)(L:dh),Gk.den (PW m) [some (.ref t),some (.int v),none,none,none,none,some (.int K),some (.vl (G.map nD)),some (.ref p),a9,a10,a11] M=.ok (.next,qv) L /\
  qv[8]?=some (some (.ref p))/\L[p]?=some (.lst (fs.map F.toD))/\fs.length<=3/\Good (λk=>G.getD k 1) fs/\M.length<=L.length/\Oh t f L/\(∀(a:Nat)(o:MO),a≠t->a≠p->M[a]?=some o->L[a]?=some o):=by
 obtain⟨w,M1,e1,l1,s1,q6⟩:=ym hm hs (many:=4) (by decide) (by decide);unfold Gk;rw[Ov];have hw:w<=100000:=e_ (b_ (o_ l1) (by decide))
 simp[e1,hw];obtain⟨qv,L,e,fs,b9,qq,qk,rfl,h1,h2,h4,h5,h6,h7⟩:=Ww (n:=w) (body:=λd ρ M=>Cw.den (PW m) (ρ.set 9 (some d)) M)
  (λi ρ L=>∃(fs:List F)(b9 qq qk:Option D),ρ=[some (.ref t),some (.int v),none,none,none,none,some (.int K),some (.vl (G.map nD)),some (.ref p),b9,qq,qk] /\
   L[p]?=some (.lst (fs.map F.toD))/\fs.length=i/\Good (λk=>G.getD k 1) fs/\M.length<=L.length/\Oh t f L/\(∀(a:Nat)(o:MO),a≠t->a≠p->M[a]?=some o->L[a]?=some o))
  (M:=M1) ⟨[],a9,a10,a11,rfl,by simpa using s1.keep p _ Z hp,rfl,by intro f hf;simp at hf,s1.len,s1.has,λa o na _ h=>s1.keep a o na h⟩
  (λi ρ M2 hi hI=>by
   obtain⟨fs,b9,qq,qk,rfl,g1,g2,g3,g4,g5,g6⟩:=hI;obtain⟨x,M3,ex,lx,sx,q5⟩:=ym hm g5 (many:=K) (m_ q0) (m_ (c_ R (by decide)));obtain⟨y,M4,ey,ly,sy,q4⟩:=ym hm sx.has (many:=K) (m_ q0) (m_ (c_ R (by decide)));obtain⟨r,M5,er,lr,rr,sr,q3⟩:=aut (a1:=some (.int v)) (a2:=none) (a3:=none) (a4:=none) (a5:=none) (a6:=some (.int K)) (a8:=some (.ref p)) (a9:=some (.int i)) (i:=x) (j:=y) hm sy.has h3 (b_ (o_ lx) (g_ hK)) (b_ (o_ ly) (g_ hK));have gp:=sr.keep p _ Z (sy.keep p _ Z (sx.keep p _ Z g1));have hl:(fs.map F.toD).length<100000:=by rw[dw];exact c_ (f_ g2) (b_ hi hw)
   refine⟨.next,_,M5.set p (.lst (fs.map F.toD++[F.toD ⟨x,y,r⟩])),?_,.inl rfl,fs++[⟨x,y,r⟩],some (.int i),some (.int x),some (.int y),rfl,?_,by simp[g2],?_,?_,?_,?_⟩
   .simp[Cw,ex,ey,er,Rg gp hl,Ow (sy.keep p _ Z (sx.keep p _ Z g1)),v5,F.toD,Di]
   .rw[zm gp];simp
   .intro f hf
    rcases fj.mp hf with q|q
    .exact g3 f q
    .have:f=⟨x,y,r⟩:=by simpa using q
     subst this;refine⟨by show x<3;exact b_ (o_ lx) R,by show y<3;exact b_ (o_ ly) R,?_,?_⟩
     .show r.length=G.getD x 1
      rw[lr];simp[o6,gb (show x<G.length by exact b_ (o_ lx) (g_ hK))]
     .intro z hz
      have:=rr z hz;show z<G.getD y 1
      simp[o6,gb (show y<G.length by exact b_ (o_ ly) (g_ hK))] at this ⊢;exact this
   .have:=sr.len;have:=sy.len;have:=sx.len;simp;exact a_ g4 (a_ (g_ q5) (a_ (g_ q4) (g_ q3)))
   .obtain⟨n',q1,q2⟩:=sr.has
    exact⟨n',by rw[Bf Z];exact q1,q2⟩
   .intro a o na nb h
    rw[Bf (j5 nb)];exact sr.keep a o na (sy.keep a o na (sx.keep a o na (g6 a o na nb h))))
 have e':Bh (Src.con ((List.range w).map λ(k:Nat)=>D.int (k:Int))).fin (Src.con ((List.range w).map λ(k:Nat)=>D.int (k:Int))).item (λd ρ M=>Cw.den (PW m) (ρ.set 9 (some d)) M) (Src.con ((List.range w).map λ(k:Nat)=>D.int (k:Int))).len 0 [some (.ref t),some (.int v),none,none,none,none,some (.int K),some (.vl (G.map nD)),some (.ref p),a9,a10,a11] M1=_:=e;exact⟨fs,[some (.ref t),some (.int v),none,none,none,none,some (.int K),some (.vl (G.map nD)),some (.ref p),b9,qq,qk],L,e',rfl,h1,by lia,h4,h5,h6,h7⟩
def aiv(hm:2<=m)(hs:Oh t f M):∃(d:D)(M':dh)(fs:List F)(sz:Nat->Nat),prog.call m 3 [.ref t] M=.ok d M'/\iw M' d=some (fs.map F.toD)/\(∀n,d=.ref n->n≠t)/\Sz sz/\Good sz fs/\fs.length<=3/\St t f M M':=by
 have R:1<=m-1:=r_ hm
 obtain⟨v,M1,e1,l1,s1,q7⟩:=ym R hs (many:=12) (by decide) (by decide);rw[call_of (a_ R C_) rfl]
 by_cases hv:v<7
 .have G:(v:Int)<7:=m_ hv
  have key:∀(fs:List F)(sz:Nat->Nat),Bq.run (PW (m-1)) [.ref t] M=.ok (.vl (fs.map F.toD)) M1->Sz sz->Good sz fs->fs.length<=3 ->
   ∃(d:D)(M':dh)(fs:List F)(sz:Nat->Nat),Bq.run (PW (m-1)) [.ref t] M=.ok d M'/\iw M' d=some (fs.map F.toD)/\(∀n,d=.ref n->n≠t)/\Sz sz/\Good sz fs/\fs.length<=3/\St t f M M' :=
   λfs sz a b c d=>⟨_,M1,fs,sz,a,rfl,λn h=>(by cases h),b,c,d,s1⟩
  have run:∀d,Aq (.vl [.vl [.tup [.int 0,.int 1,.tup [.int 0,.int 1]],.tup [.int 0,.int 1,.tup [.int 1,.int 0]]],.vl [.tup [.int 0,.int 1,.tup [.int 0,.int 0,.int 1,.int 1]],.tup [.int 0,.int 1,.tup [.int 0,.int 1,.int 0,.int 1]],.tup [.int 1,.int 0,.tup [.int 0,.int 3]]],
   .vl [.tup [.int 0,.int 0,.tup [.int 1,.int 0]]],.vl [.tup [.int 0,.int 0,.tup [.int 1,.int 2,.int 0]]],.vl [.tup [.int 0,.int 0,.tup [.int 0,.int 0]]],.vl [],.vl [.tup [.int 0,.int 1,.tup [.int 0,.int 1]],.tup [.int 1,.int 2,.tup [.int 0,.int 0,.int 1]]]]) (.int v) M1=some d ->
   Bq.run (PW (m-1)) [.ref t] M=.ok d M1:=λd hd=>by simp[Fn.run,Bq,Ia,e1,G,hd]
  have cs:v=0\/v=1\/v=2\/v=3\/v=4\/v=5\/v=6:=by lia
  rcases cs with rfl|rfl|rfl|rfl|rfl|rfl|rfl
  .refine key [⟨0,1,[0,1]⟩,⟨0,1,[1,0]⟩] (λ_=>2) ?_ (λk=>by simp) (λf Z=>?_) (by decide)
   .exact run _ rfl
   .simp at Z;rcases Z with rfl|rfl<;>exact⟨by decide,by decide,by decide,by decide⟩
  .refine key [⟨0,1,[0,0,1,1]⟩,⟨0,1,[0,1,0,1]⟩,⟨1,0,[0,3]⟩] (λk=>if k=0 then 4 else 2) ?_ (λk=>by dsimp only;split<;>omega) (λf Z=>?_) (by decide)
   .exact run _ rfl
   .simp at Z;rcases Z with rfl|rfl|rfl<;>exact⟨by decide,by decide,by decide,by decide⟩
  .refine key [⟨0,0,[1,0]⟩] (λ_=>2) ?_ (λk=>by simp) (λf Z=>?_) (by decide)
   .exact run _ rfl
   .simp at Z;subst Z;exact⟨by decide,by decide,by decide,by decide⟩
  .refine key [⟨0,0,[1,2,0]⟩] (λ_=>3) ?_ (λk=>by simp) (λf Z=>?_) (by decide)
   .exact run _ rfl
   .simp at Z;subst Z;exact⟨by decide,by decide,by decide,by decide⟩
  .refine key [⟨0,0,[0,0]⟩] (λ_=>2) ?_ (λk=>by simp) (λf Z=>?_) (by decide)
   .exact run _ rfl
   .simp at Z;subst Z;exact⟨by decide,by decide,by decide,by decide⟩
  .refine key [] (λ_=>1) ?_ (λk=>by simp) (λf Z=>?_) (by decide)
   .exact run _ rfl
   .simp at Z
  .refine key [⟨0,1,[0,1]⟩,⟨1,2,[0,0,1]⟩] (λk=>if k=1 then 3 else 2) ?_ (λk=>by dsimp only;split<;>exact⟨by decide,by decide⟩) (λf Z=>?_) (by decide)
   .exact run _ rfl
   .simp at Z;rcases Z with rfl|rfl<;>exact⟨by decide,by decide,by decide,by decide⟩
 .have G:¬(v:Int)<7:=by lia
  obtain⟨u,M2,e2,l2,s2,qv⟩:=ym R s1.has (many:=3) (by decide) (by decide);obtain⟨K,eK,q0⟩:∃K:Nat,(1:Int)+(u:Int)=(K:Int)/\K=1+u:=⟨1+u,by lia,rfl⟩;obtain⟨Hg,M3,e3,l3,r3,s3,qq⟩:=aiu (a1:=some (.int v)) (a2:=none) (a3:=none) (a4:=none) (a5:=none) (a7:=none) (a8:=none) (a9:=none) (a10:=none) (a11:=none) (K:=K) R s2.has (by lia);have L:t<M3.length:=by obtain⟨n,h,_⟩:=s3.has;exact Bo h
  have h4:Oh t f (M3++[.lst []]):=by obtain⟨n,h,o⟩:=s3.has;exact⟨n,wj h,o⟩
  obtain⟨fs,qk,M5,e5,q8,q1,q2,q3,q4,q5,q6⟩:=W3 (v:=v) (K:=K) (p:=M3.length) (a9:=none) (a10:=none) (a11:=none) R h4 l3 (by lia) (by lia) r3 (by simp) (i_ L);refine⟨.ref M3.length,M5,fs,λk=>Hg.getD k 1,?_,Be q1,λn h=>by cases h;exact i_ L,λk=>?_,q3,q2,?_⟩
  .simp[Fn.run,Bq,Ia,e1,G,e2,eK,e3,MW.new,e5,q8]
  .show 1<=Hg.getD k 1/\Hg.getD k 1<=4
   by_cases h:k<Hg.length
   .have:=r3 _ (getD_mem h)
    simp[o6,h] at this ⊢;exact⟨this.1,a_ this.2 (by decide)⟩
   .simp[o6,h]
  .refine s1.trans (s2.trans (s3.trans ⟨?_,q5,λa o na h=>q6 a o na ?_ (wj h)⟩))
   .have:=q4;simp at this;lia
   .have:=Bo h;exact h_ this
structure Up(p:Nat)(M M':dh):Prop where
 len:M'.length=M.length
 oth:∀a:Nat,a≠p->M'[a]?=M[a]?
def Up.refl(p:Nat)(M:dh):Up p M M:=⟨rfl,λ_ _=>rfl⟩
theorem Up.trans(a:Up p M Z)(b:Up p Z M2):Up p M M2:=⟨b.len.trans a.len,λx h=>(b.oth x h).trans (a.oth x h)⟩
theorem Up.set(p:Nat)(M:dh)(o:MO):Up p M (M.set p o):=⟨by simp,λa h=>Bf (j5 h)⟩
def Mg(h:M[p]?=some (.lst ds)):Lb M x (.ref p)=memD M x ds:=by simp[Lb,h,zu,iw]
def Qh(f:F)(M:dh):Aq f.toD (.int 0) M=some (.int f.a):=rfl
def Qi(f:F)(M:dh):Aq f.toD (.int 1) M=some (.int f.b):=rfl
def aiw(f:F)(M:dh):Aq f.toD (.int 2) M=some (Di f.r):=rfl
def Ka(M:dh)(r:Y2)(n:Nat):Ak M (Di r) (.tup ((List.range n).map λ(k:Nat)=>D.int (k:Int)))=some (decide (r=List.range n)):=abl M r (List.range n)
def eq_nil(M:dh)(r:Y2):Ak M (Di r) (.tup [])=some (decide (r=[])):=abl M r []
def Bv(M:dh)(a b:Nat):Ak M (.int a) (.int b)=some (decide (a=b)):=by rw[eq_int,adt]
def G7(M:dh)(r:Y2):v5 .len [Di r] M=.ok (.int r.length) M:=by simp[v5,zu,Di]
def aix(M:dh)(Z:List D):v5 .tuple [.vl Z] M=.ok (.tup Z) M:=by simp[v5,zu]
def W4(M:dh)(r:Y2):v5 .tuple [.vl (r.map nD)] M=.ok (Di r) M:=aix M _
def abm(Z:Sz sz)(h:Y0 sz f):1<=f.r.length/\f.r.length<=4:=by rw[h.len];exact Z _
def aom(M:dh)(r:Y2):srcOf M (Di r)=some (.con (r.map nD)):=rfl
def aiy(M:dh)(r:Y2)(h:x<r.length):Aq (Di r) (.int x) M=some (.int (r.getD x 0)):=Jr q_ (by simp[h,nD])
def aiz(hz:Sz sz)(L:Y0 sz f)(R:Y0 sz g)(h:f.b=g.a) :
 Fe.den W [a0,a1,a2,a3,a4,a5,a6,some f.toD,some g.toD,a9] M=.ok (.vl ((f.comp g).r.map nD)) M:=by
 have Z:(f.r.map nD).length<=100000:=by rw[dw,L.len];have:=hz f.a;exact a_ this.2 (by decide)
 unfold Fe;rw[Jp];simp[aiw,aom];have:=ado (M:=M) (ds:=f.r.map nD) (g:=λd=>match d with|.int i=>nD (g.r.getD i.toNat 0)|_=>.non)
  (body:=λd M=>((Res.ue (Aq (Di g.r) d M) M).bind λx M'=>Res.ok (some x) M')) Z (λd hd=>by
   obtain⟨x,hx,rfl⟩:=cu.mp hd;have G:x<g.r.length:=by rw[R.len,<- h];exact L.ran x hx
   rw[show nD x=D.int (x:Int) from rfl,aiy M g.r G];simp[nD])
 rw[this];simp[F.comp,nD]
def Ig(Z:List F)(f g:F):List F:=if f.b=g.a/\f.comp g∉Z/\¬(f.comp g).Q4 then Z++[f.comp g] else Z
def abn(f g:F):D.tup [.int f.a,.int g.b,Di (f.comp g).r]=(f.comp g).toD:=rfl
def Sy(hz:Sz sz)(hf:Y0 sz f)(R:Y0 sz g)(L:M[p]?=some (.lst (G.map F.toD)))(hl:G.length<100000) :
 ∃(b4 b9:Option D)(M':dh),Bj.den W [a0,D.ref p,a2,a3,a4,a5,a6,some f.toD,some g.toD,a9] M=.ok (.next,[a0,some (.ref p),a2,a3,b4,a5,a6,some f.toD,some g.toD,b9]) M' /\
  M'[p]?=some (.lst ((Ig G f g).map F.toD))/\Up p M M':=by
 by_cases h:f.b=g.a
 .have hc:=aiz (W:=W) (M:=M) (a0:=a0) (a1:=some (.ref p)) (a2:=a2) (a3:=a3) (a4:=some (.tup [])) (a5:=a5) (a6:=a6) (a9:=a9) hz hf R h
  have hr:(f.comp g).r≠[]:=λe=>by have:=(abm hz (hf.comp R h)).1;rw[e] at this;simp at this
  have Z:(f.comp g).r.length<=100000:=by have:=(abm hz (hf.comp R h)).2;exact a_ this (by decide)
  have Hn:=air M (f.comp g) G;have e0:(f.comp g).a=f.a:=rfl;have e1:(f.comp g).b=g.b:=rfl;have ap:=Rg (d:=(f.comp g).toD) L (by rw[dw];exact hl);have key:∃T:Res (Flow×Env),Bj.den W [a0,D.ref p,a2,a3,a4,a5,a6,some f.toD,some g.toD,a9] M=T/\(f.comp g∈G->T=.ok (.next,[a0,some (.ref p),a2,a3,some (Di (f.comp g).r),a5,a6,some f.toD,some g.toD,some (f.comp g).toD]) M)/\(f.comp g∉G->(f.comp g).Q4->T=.ok (.next,[a0,some (.ref p),a2,a3,some (Di (f.comp g).r),a5,a6,some f.toD,some g.toD,some (f.comp g).toD]) M) /\
   (f.comp g∉G->¬(f.comp g).Q4->T=.ok (.next,[a0,some (.ref p),a2,a3,some (Di (f.comp g).r),a5,a6,some f.toD,some g.toD,some (f.comp g).toD]) (M.set p (.lst ((G++[f.comp g]).map F.toD)))):=by
   refine⟨_,(by simp[-eq_int,Bj,Qh,Qi,Bv,h,hc,W4,abn,eq_nil,hr,Mg L,Hn];exact rfl),?_,?_,?_⟩
   .intro m;simp[m]
   .intro m i;simp[-eq_int,m,Qh,Qi,Bv,i.1,G7,Z,Ka,jf i.2]
   .intro m i
    by_cases i1:(f.comp g).a=(f.comp g).b
    .have i2:¬(f.comp g).r=List.range (f.comp g).r.length:=λq=>i ⟨i1,q⟩
     simp[-eq_int,Qh,Qi,Bv,m,i1,G7,Z,Ka,i2,Ow L,ap]
    .simp[-eq_int,Qh,Qi,Bv,m,i1,G7,Z,Ka,Ow L,ap]
  obtain⟨T,e,k1,k2,k3⟩:=key
  by_cases m:f.comp g∈G
  .exact⟨_,_,M,e.trans (k1 m),by rw[Ig,az (λq=>q.2.1 m)];exact L,Up.refl p M⟩
  .by_cases i:(f.comp g).Q4
   .exact⟨_,_,M,e.trans (k2 m i),by rw[Ig,az (λq=>q.2.2 i)];exact L,Up.refl p M⟩
   .exact⟨_,_,_,e.trans (k3 m i),by rw[Ig,bf ⟨h,m,i⟩,zm L],Up.set _ _ _⟩
 .refine⟨some (.tup []),some (.tup [.int f.a,.int g.b,.tup []]),M,?_,by rw[Ig,az (λq=>h q.1)];exact L,Up.refl p M⟩
  have:=abl M [] [];simp[Di] at this;simp[-eq_int,Bj,Qh,Qi,Bv,h,this]
structure Inv(sz:Nat->Nat)(gs:List F):Prop where
 good:Good sz gs
 nd:gs.Nodup
 nid:∀f∈gs,¬f.Q4
def Inv.snoc{sz:Nat->Nat}(h:Inv sz G)(R:Y0 sz f)(hm:f∉G)(L:¬f.Q4):Inv sz (G++[f]):=by
 refine⟨λx Z=>?_,?_,λx Z=>?_⟩
 .rcases fj.mp Z with q|q
  .exact h.good x q
  .have:x=f:=by simpa using q
   exact this▸R
 .rw[wy]
  refine⟨h.nd,by simp,λa ha b hb=>?_⟩;have:b=f:=by simpa using hb
  exact λe=>hm (by rw[<- this,<- e];exact ha)
 .rcases fj.mp Z with q|q
  .exact h.nid x q
  .have:x=f:=by simpa using q
   exact this▸L
def Cl2(Z:List F)(f g:F):Prop:=f.b=g.a->f.comp g∈Z\/(f.comp g).Q4
def Cl2.mono(h:Cl2 Z f g)(s:Z <+: G):Cl2 G f g:=λe=>(h e).imp (λm=>s.subset m) id
def Kc(Z:List F)(f g:F):Z <+: Ig Z f g:=by
 unfold Ig;split
 .exact List.prefix_append _ _
 .exact List.prefix_rfl
def S8(Z:List F)(f g:F):(Ig Z f g).length<=Z.length+1:=by unfold Ig;split<;>simp
set_option tactic.hygienic true in
def Y4(h:Inv sz Y)(Z:Y0 sz f)(G:Y0 sz g):Inv sz (Ig Y f g):=by
 unfold Ig;split
 .rename_i q;exact h.snoc (Z.comp G q.1) q.2.1 q.2.2
 .exact h
def ady(Z:List F)(f g:F):Cl2 (Ig Z f g) f g:=by
 intro e;unfold Ig
 by_cases m:f.comp g∈Z
 .left;split
  .exact kh _ m
  .exact m
 .by_cases i:(f.comp g).Q4
  .exact .inr i
  .left;rw[bf ⟨e,m,i⟩];simp
def Nf{Z:List F}{i:Nat}(s:Z <+: G)(h:Z[i]?=some f):G[i]?=some f:=by obtain⟨t,rfl⟩:=s;rw[jh (aq.mp h).1];exact h
def Lj{Z:List F}{i:Nat}(G:M[p]?=some (.lst (Z.map F.toD)))(h:Z[i]?=some f):Aq (.ref p) (.int i) M=some f.toD:=Fy (Be G) q_ (by simp[h])
def Ih{Z:List F}(G:M[p]?=some (.lst (Z.map F.toD))):v5 .len [.ref p] M=.ok (.int Z.length) M:=by rw[len_list (Be G)];simp
def auu{k j:Nat}(hz:Sz sz)(hi:Inv sz Z)(R:M[p]?=some (.lst (Z.map F.toD)))(hl:Z.length<90000)(hk:Z[k]?=some f)(hj:Z[j]?=some g) :
 ∃(G b7 b8 L:Option D)(M':dh),Ff.den W [a0,D.ref p,a2,a3,a4,D.int k,D.int j,a7,a8,a9] M=.ok (.next,[a0,some (.ref p),a2,a3,G,some (.int k),some (.int j),b7,b8,L]) M' /\
  M'[p]?=some (.lst ((Ig (Ig Z f g) g f).map F.toD))/\Up p M M':=by
 have hf:=hi.good f (cj hk);have hg:=hi.good g (cj hj);have l1:=S8 Z f g;obtain⟨G,L,M1,e1,p1,u1⟩:=Sy (W:=W) (M:=M) (a0:=a0) (a2:=a2) (a3:=a3) (a4:=a4) (a5:=some (.int k)) (a6:=some (.int j)) (a9:=a9) hz hf hg R (b_ hl (by decide));obtain⟨c4,c9,M2,e2,p2,u2⟩:=Sy (W:=W) (M:=M1) (a0:=a0) (a2:=a2) (a3:=a3) (a4:=G) (a5:=some (.int k)) (a6:=some (.int j)) (a9:=L) hz hg hf p1 (by lia);refine⟨c4,some g.toD,some f.toD,c9,M2,?_,p2,u1.trans u2⟩;unfold Ff;rw[Ov];simp[Lj R hk,Lj R hj,srcOf,Src.len,Src.fin,Bh,Src.item,e1,e2]
def aoo{k:Nat}(hz:Sz sz)(hi:Inv sz Z)(hp:M[p]?=some (.lst (Z.map F.toD)))(hl:Z.length<10000)(hk:Z[k]?=some f) :
 ∃(G:List F)(b4 b6 b7 b8 b9:Option D)(R:dh),Fj.den W [a0,D.ref p,a2,a3,a4,D.int k,a6,a7,a8,a9] M=.ok (.next,[a0,some (.ref p),a2,a3,b4,some (.int k),b6,b7,b8,b9]) R /\
  R[p]?=some (.lst (G.map F.toD))/\Up p M R/\Z <+: G/\Inv sz G/\G.length<=3*Z.length/\∀(j:Nat)(g:F),Z[j]?=some g->Cl2 G f g/\Cl2 G g f:=by
 unfold Fj;rw[Ov];have qq:Z.length<=100000:=e_ (b_ hl (by decide))
 simp[Ih hp,qq];obtain⟨qk,R,e,G,b4,b6,b7,b8,b9,rfl,h1,h2,h3,h4,h5,h6⟩:=Ww (n:=Z.length) (body:=λd ρ M=>Fi.den W (ρ.set 6 (some d)) M)
  (λi ρ R=>∃(G:List F)(b4 b6 b7 b8 b9:Option D),ρ=[a0,some (.ref p),a2,a3,b4,some (.int k),b6,b7,b8,b9]/\R[p]?=some (.lst (G.map F.toD))/\Up p M R/\Z <+: G/\Inv sz G/\G.length<=Z.length+2*i /\
   ∀(j:Nat)(g:F),j<i->Z[j]?=some g->Cl2 G f g/\Cl2 G g f) (ρ:=[a0,D.ref p,a2,a3,a4,D.int k,a6,a7,a8,a9]) (M:=M)
  ⟨Z,a4,a6,a7,a8,a9,rfl,hp,Up.refl p M,List.prefix_rfl,hi,x_,λj g h=>absurd h (Nat.not_lt_zero _)⟩
  (λi ρ M2 Jf hI=>by
   obtain⟨G,b4,b6,b7,b8,b9,rfl,g1,g2,g3,g4,g5,g6⟩:=hI;have gi:Z[i]?=some Z[i]:=by simp[Jf]
   obtain⟨c4,c7,c8,c9,M3,e3,p3,u3⟩:=auu (W:=W) (M:=M2) (a0:=a0) (a2:=a2) (a3:=a3) (a4:=b4) (a7:=b7) (a8:=b8) (a9:=b9) hz g4 g1 (by lia) (Nf g3 hk) (Nf g3 gi);have hf:=g4.good f (cj (Nf g3 hk));have hg:=g4.good Z[i] (cj (Nf g3 gi));refine⟨.next,_,M3,?_,.inl rfl,Ig (Ig G f Z[i]) Z[i] f,c4,some (.int i),c7,c8,c9,rfl,p3,g2.trans u3,(g3.trans (Kc _ _ _)).trans (Kc _ _ _),Y4 (Y4 g4 hf hg) hg hf,?_,?_⟩
   .simp[Fi,e3]
   .have:=S8 G f Z[i]
    have:=S8 (Ig G f Z[i]) Z[i] f
    lia
   .intro j g hj L
    have pr:=(Kc G f Z[i]).trans (Kc (Ig G f Z[i]) Z[i] f);rcases Nat.lt_succ_iff_lt_or_eq.mp hj with q|q
    .exact⟨(g6 j g q L).1.mono pr,(g6 j g q L).2.mono pr⟩
    .subst q
     have:g=Z[j]:=by rw[gi] at L;exact(gf L).symm
     subst this;exact⟨(ady _ _ _).mono (Kc _ _ _),ady _ _ _⟩)
 refine⟨G,b4,b6,b7,b8,b9,R,e,h1,h2,h3,h4,by lia,λj g hg=>h6 j g (aq.mp hg).1 hg⟩
def ai0(f:F)(i j k:Nat)(Z:Env):(Tg.names [i,j,k]).put f.toD Z=some (((Z.set i (some (.int f.a))).set j (some (.int f.b))).set k (some (Di f.r))):=rfl
noncomputable def W5(Z:List F)(f:F):List F:=if ¬f.Q4/\f∉Z then Z++[f] else Z
def ClK(Z:List F)(k:Nat):Prop:=∀(i j:Nat)(f g:F),i<k->j<k->Z[i]?=some f->Z[j]?=some g->Cl2 Z f g
def afx(hz:Sz sz)(hf:Y0 sz f)(G:M[p]?=some (.lst (gs.map F.toD)))(hl:gs.length<100000) :
 ∃M',yh.den W [a0,D.ref p,D.int f.a,D.int f.b,Di f.r,a5,a6,a7,a8,a9] M=.ok (.next,[a0,some (.ref p),some (.int f.a),some (.int f.b),some (Di f.r),a5,a6,a7,a8,a9]) M' /\
  M'[p]?=some (.lst ((W5 gs f).map F.toD))/\Up p M M':=by
 have Z:f.r.length<=100000:=by have:=(abm hz hf).2;exact a_ this (by decide)
 have Hn:=air M f gs;have R:D.tup [.int f.a,.int f.b,Di f.r]=f.toD:=rfl;have ap:=Rg (d:=f.toD) G (by rw[dw];exact hl)
 by_cases i:f.Q4
 .refine⟨M,?_,by rw[W5,az (λq=>q.1 i)];exact G,Up.refl p M⟩
  simp[-eq_int,yh,Bv,i.1,G7,Z,Ka,jf i.2]
 .by_cases m:f∈gs
  .refine⟨M,?_,by rw[W5,az (λq=>q.2 m)];exact G,Up.refl p M⟩
   by_cases L:f.a=f.b
   .have i2:¬f.r=List.range f.r.length:=λq=>i ⟨L,q⟩
    simp[L] at R;simp[-eq_int,yh,Bv,L,i2,G7,Z,Ka,R,Mg G,Hn,m]
   .simp[-eq_int,yh,Bv,L,G7,Z,Ka,R,Mg G,Hn,m]
  .refine⟨M.set p (.lst ((gs++[f]).map F.toD)),?_,by rw[W5,bf ⟨i,m⟩,zm G],Up.set _ _ _⟩
   by_cases L:f.a=f.b
   .have i2:¬f.r=List.range f.r.length:=λq=>i ⟨L,q⟩
    simp[L] at R;simp[-eq_int,yh,Bv,L,i2,G7,Z,Ka,R,Mg G,Hn,m,Ow G,ap]
   .simp[-eq_int,yh,Bv,L,G7,Z,Ka,R,Mg G,Hn,m,Ow G,ap]
set_option tactic.hygienic true in
def ai1(h:Inv sz Y)(Z:Y0 sz f):Inv sz (W5 Y f):=by
 unfold W5;split
 .rename_i q;exact h.snoc Z q.2 q.1
 .exact h
def ai2(Z:List F)(f:F):(W5 Z f).length<=Z.length+1:=by unfold W5;split<;>simp
def afy(hz:Sz sz)(hi:Inv sz gs)(hp:M[p]?=some (.lst (gs.map F.toD)))(hl:gs.length<=3) :
 ∃(G:Env)(M':dh),Fl.den W [a0,D.ref p,a2,a3,a4,D.int 0,a6,a7,a8,a9] M=.ok (.next,G) M'/\G[1]?=some (some (.ref p))/\∃Z:List F,M'[p]?=some (.lst (Z.map F.toD))/\Up p M M'/\Inv sz Z/\Z.length<=15 /\
  (Z.length<6->J0 Z)/\(gs=[]->Z=[]):=by
 unfold Fl;rw[abi];refine O2 (λm ρ M'=>∃(Z:List F)(k:Nat)(b4 b6 b7 b8 b9:Option D),ρ=[a0,some (.ref p),a2,a3,b4,some (.int k),b6,b7,b8,b9]/\M'[p]?=some (.lst (Z.map F.toD))/\Up p M M'/\Inv sz Z/\Z.length<=15/\ClK Z k/\k<=5/\m=10-k/\(gs=[]->Z=[]))
  (λG M'=>G[1]?=some (some (.ref p))/\∃Z:List F,M'[p]?=some (.lst (Z.map F.toD))/\Up p M M'/\Inv sz Z/\Z.length<=15/\(Z.length<6->J0 Z)/\(gs=[]->Z=[])) ?_ afr 10 _ M (by decide)
  ⟨gs,0,a4,a6,a7,a8,a9,rfl,hp,Up.refl p M,hi,a_ hl (by decide),λi j f g h=>absurd h (Nat.not_lt_zero _),j4 _,rfl,id⟩
 intro m ρ M1 hI;obtain⟨Z,k,b4,b6,b7,b8,b9,rfl,g1,g2,g3,g4,g5,g6,g7,g8⟩:=hI
 by_cases c1:k<Z.length
 .have R:(k:Int)<(Z.length:Int):=m_ c1
  by_cases c2:Z.length<6
  .have q1:(Z.length:Int)<6:=m_ c2
   right
   obtain⟨is,d4,d6,d7,d8,d9,M2,e,p2,u2,pr,q3,l2,q2⟩:=aoo (W:=W) (M:=M1) (a0:=a0) (a2:=a2) (a3:=a3) (a4:=b4) (a6:=b6) (a7:=b7) (a8:=b8) (a9:=b9) (k:=k) hz g3 g1 (c_ g4 (by decide)) (show Z[k]?=some Z[k] by simp[c1]);refine⟨M1,.next,_,M2,10-(k+1),?_,?_,.inl rfl,by lia,is,k+1,d4,d6,d7,d8,d9,rfl,p2,g2.trans u2,q3,by lia,?_,by lia,rfl,?_⟩
   .simp[Ih g1,R,q1]
   .simp[Jc,e]
   .intro i j f g L qq hf hg
    have qk:∀(i:Nat)(f:F),i<k+1->is[i]?=some f->Z[i]?=some f:=λi f hi hf=>by
     have Jf:i<Z.length:=b_ hi c1
     have:=Nf pr (show Z[i]?=some Z[i] by simp[Jf]);rw[hf] at this;rw[this];simp[Jf]
    have qv:=qk i f L hf;have q0:=qk j g qq hg
    by_cases ei:i=k
    .subst ei
     have:f=Z[i]:=by have:=qv;simp[c1] at this;exact this.symm
     subst this;exact(q2 j g q0).1
    .by_cases ej:j=k
     .subst ej
      have:g=Z[j]:=by have:=q0;simp[c1] at this;exact this.symm
      subst this;exact(q2 i f qv).2
     .exact(g5 i j f g (by lia) (by lia) qv q0).mono pr
   .intro e0
    have:=g8 e0;subst this;simp at c1
  .left
   have q1:¬(Z.length:Int)<6:=by lia
   exact⟨M1,by simp[Ih g1,R,q1],rfl,Z,g1,g2,g3,g4,λq=>absurd q c2,g8⟩
 .left
  have R:¬(k:Int)<(Z.length:Int):=by lia
  refine⟨M1,by simp[Ih g1,R],rfl,Z,g1,g2,g3,g4,λ_=>?_,g8⟩;intro f hf g hg;obtain⟨i,L,ei⟩:=xx hf;obtain⟨j,qq,ej⟩:=xx hg;exact g5 i j f g (b_ L (s_ c1)) (b_ qq (s_ c1)) (by simp[L,ei]) (by simp[qq,ej])
def Vk(hm:1<=m)(hz:Sz sz)(hg:Good sz fs)(hl:fs.length<=3)(hd:iw M d=some (fs.map F.toD)) :
 ∃(L:List F)(G:dh),prog.call m 4 [d] M=.ok (.ref M.length) G/\G[M.length]?=some (.lst (L.map F.toD))/\Eu M G/\G.length=M.length+1/\Inv sz L/\L.length<=15/\(L.length<6->J0 L)/\(fs=[]->L=[]):=by
 rw[call_of hm rfl];have R:iw (M++[.lst []]) d=some (fs.map F.toD):=(Eu.app M _).iw hd;obtain⟨s,q4,q6,M1,e1,Z,b2,b3,b4,rfl,h1,h2,h3,h4,h5⟩:=abk (body:=λd ρ M=>match(Tg.names [2,3,4]).put d ρ with
  | some q0=>yh.den (PW (m-1)) q0 M|none=>.bad)
  (λi ρ G=>∃(Z:List F)(b2 b3 b4:Option D),ρ=[some d,some (.ref M.length),b2,b3,b4,none,none,none,none,none]/\G[M.length]?=some (.lst (Z.map F.toD))/\Up M.length (M++[.lst []]) G/\Inv sz Z/\Z.length<=i/\(fs=[]->Z=[]))
  (ρ:=[some d,D.ref M.length,none,none,none,none,none,none,none,none]) (M:=M++[.lst []]) R
  ⟨[],none,none,none,rfl,by simp,Up.refl _ _,⟨λf hf=>by simp at hf,by simp,λf hf=>by simp at hf⟩,by simp,λ_=>rfl⟩
  (λi ρ G hI=>by
   obtain⟨Z,b2,b3,b4,rfl,g1,g2,g3,g4,g5⟩:=hI;cases d with
   |vl xs=>exact hd
   |ref n =>
    have hn:n≠M.length:=by
     simp only[iw] at hd;cases e:M[n]? with
     |none=>rw[e] at hd;simp at hd|some o=>have:=Bo e;exact h_ this
    simp only[iw] at R ⊢;rw[g2.oth n hn];exact R
   | _=>simp[iw] at hd)
  (λi x ρ G hx hI=>by
   obtain⟨Z,b2,b3,b4,rfl,g1,g2,g3,g4,g5⟩:=hI;obtain⟨f,hf,rfl⟩:∃f,fs[i]?=some f/\f.toD=x:=by simpa using hx
   have qq:=cj hf;have q2:=(aq.mp hf).1;obtain⟨M2,e2,p2,u2⟩:=afx (W:=(PW (m-1))) (M:=G) (a0:=some d) (a5:=none) (a6:=none) (a7:=none) (a8:=none) (a9:=none) hz (hg f qq) g1 (c_ g4 (b_ q2 (a_ hl (by decide))));refine⟨.next,_,M2,?_,.inl rfl,W5 Z f,some (.int f.a),some (.int f.b),some (Di f.r),rfl,p2,g2.trans u2,ai1 g3 (hg f qq),?_,λe=>?_⟩
   .rw[ai0];exact e2
   .have:=ai2 Z f;exact a_ this (v_ g4)
   .subst e;simp at hf)
 have qv:Z.length<=3:=by simp at h4;exact a_ h4 hl
 obtain⟨q5,M2,e2,q1,L,p2,u2,qk,l2,c2,z2⟩:=afy (W:=(PW (m-1))) (M:=M1) (a0:=some d) (a2:=b2) (a3:=b3) (a4:=b4) (a6:=none) (a7:=none) (a8:=none) (a9:=none) hz h3 h1 qv;have up:=h2.trans u2;refine⟨L,M2,?_,p2,λa o h=>?_,?_,qk,l2,c2,λe=>z2 (h5 e)⟩
 .have q3:Fo.den (PW (m-1)) [some d,some (.ref M.length),none,none,none,none,none,none,none,none] (M++[.lst []])=.ok (.next,[some d,some (.ref M.length),b2,b3,b4,none,none,none,none,none]) M1:=by
   unfold Fo;rw[Ov];simp[q4];exact e1
  simp[Fn.run,Lh,Lg,MW.new,q3,e2,q1]
 .have:=Bo h
  rw[up.oth a (h_ this)];exact wj h
 .rw[up.len];simp
noncomputable def eD(f:F):D:=.tup [.int f.a,.int f.b]
def dsD(Z:List F):D:=.tup (Z.map eD)
def ent(Z:List F)(f g:F):Int:=if f.comp g∈Z then(pos (f.comp g) Z:Int) else -1
noncomputable def ky(j k:Nat):List Kx:=[.inl (j:Int),.inl (k:Int)]
def ai3(h:ky j k=ky Z k'):j=Z/\k=k':=by simp[ky] at h;exact⟨D_ h.1,D_ h.2⟩
def Bef(j k Z G:Nat):Prop:=Z<j\/(Z=j/\G<k)
structure Tb(hs:List F)(j k:Nat)(kvs:List (List Kx×D)):Prop where
 keys:∀p∈kvs,∃(j' k':Nat)(f g:F),p=(ky j' k',.int (ent hs f g))/\hs[j']?=some f/\hs[k']?=some g/\f.b=g.a/\Bef j k j' k'
 look:∀(j' k':Nat)(f g:F),hs[j']?=some f->hs[k']?=some g->f.b=g.a->Bef j k j' k'->Ft kvs (ky j' k')=some (.int (ent hs f g))
 len:kvs.length<=j*hs.length+k
 nd:(kvs.map (·.1)).Nodup
def afz{Z:List (List Kx×D)}(h:∀p∈Z,p.1≠q):Ja Z q v=Z++[(q,v)]:=by unfold Ja;rw[az];simp only[List.any_eq_true,bz,not_exists,not_and];exact h
def W6{Z:List (List Kx×D)}(h:q≠q'):Ft (Z++[(q,v)]) q'=Ft Z q':=by
 unfold Ft;rw[List.find?_append];cases e:Z.find? (λp=>decide (p.1=q')) with
 |some p=>rfl|none=>simp[h]
def W7{Z:List (List Kx×D)}(h:∀p∈Z,p.1≠q):Ft (Z++[(q,v)]) q=some v:=by unfold Ft;rw[List.find?_append,List.find?_eq_none.mpr (λp G=>by simpa using h p G)];simp
def Tb.skip(h:Tb R j k kvs)(hf:R[j]?=some f)(hg:R[k]?=some g)(n:f.b≠g.a):Tb R j (k+1) kvs:=by
 refine⟨λp hp=>?_,λG Z L g' a b c d=>?_,by have:=h.len;exact a_ this (w_ x_),h.nd⟩
 .obtain⟨G,Z,L,g',e,a,b,c,d⟩:=h.keys p hp
  exact⟨G,Z,L,g',e,a,b,c,by unfold Bef at *;lia⟩
 .by_cases q:G=j/\Z=k
  .obtain⟨rfl,rfl⟩:=q
   rw[hf] at a;rw[hg] at b;cases a;cases b;exact absurd c n
  .exact h.look G Z L g' a b c (by unfold Bef at *;lia)
def Tb.fresh(h:Tb R j k kvs):∀p∈kvs,p.1≠ky j k:=by
 intro p Z e;obtain⟨j',G,L,g',rfl,a,b,c,d⟩:=h.keys p Z;have:=ai3 e;unfold Bef at d
 lia
def Tb.put(h:Tb Z j k kvs)(hf:Z[j]?=some f)(hg:Z[k]?=some g)(n:f.b=g.a):Tb Z j (k+1) (Ja kvs (ky j k) (.int (ent Z f g))):=by
 rw[afz h.fresh];refine⟨λp hp=>?_,λL G R g' a b c d=>?_,by have:=h.len;simp;lia,by
  rw[oh,wy];exact⟨h.nd,by simp,λa ha b hb e=>by
   obtain⟨p,hp,rfl⟩:=cu.mp ha;exact h.fresh p hp (by simpa using e.trans (by simpa using hb))⟩⟩
 .rcases fj.mp hp with q|q
  .obtain⟨L,G,R,g',e,a,b,c,d⟩:=h.keys p q
   exact⟨L,G,R,g',e,a,b,c,by unfold Bef at *;lia⟩
  .have:p=(ky j k,.int (ent Z f g)):=by simpa using q
   exact⟨j,k,f,g,this,hf,hg,n,by unfold Bef;lia⟩
 .by_cases q:L=j/\G=k
  .obtain⟨rfl,rfl⟩:=q
   rw[hf] at a;rw[hg] at b;cases a;cases b;exact W7 h.fresh
  .rw[W6 (λe=>q (by have:=ai3 e;exact⟨this.1.symm,this.2.symm⟩))]
   exact h.look L G R g' a b c (by unfold Bef at *;lia)
def Tb.next(h:Tb Z j Z.length kvs):Tb Z (j+1) 0 kvs:=by
 refine⟨λp hp=>?_,λR G L g' a b c d=>?_,by have:=h.len;have e:(j+1)*Z.length=j*Z.length+Z.length:=Nat.succ_mul _ _;exact a_ this (a_ (g_ e) x_),h.nd⟩
 .obtain⟨R,G,L,g',e,a,b,c,d⟩:=h.keys p hp
  exact⟨R,G,L,g',e,a,b,c,by unfold Bef at *;lia⟩
 .have:=(aq.mp b).1
  exact h.look R G L g' a b c (by unfold Bef at *;lia)
def ai5{G:List F}{j k:Nat}(hz:Sz sz)(R:Y0 sz f)(hg:Y0 sz g)(h:f.b=g.a)(hq:M[q]?=some (.lst (G.map F.toD)))(hj:G[j]?=some f)(hk:G[k]?=some g) :
 Dp.den W [a0,a1,D.ref q,a3,a4,D.int j,D.int k,a7] M=.ok (.vl ((f.comp g).r.map nD)) M:=by
 have Z:(f.r.map nD).length<=100000:=by rw[dw,R.len];have:=hz f.a;exact a_ this.2 (by decide)
 unfold Dp;rw[Wy (ds:=f.r.map nD) (M1:=M) (g:=λd=>match d with|.int i=>nD (g.r.getD i.toNat 0)|_=>.non) (by simp[Lj hq hj,aiw,Di]) Z (λx hx=>by
  obtain⟨y,hy,rfl⟩:=cu.mp hx;have L:y<g.r.length:=by rw[hg.len,<- h];exact R.ran y hy
  exact⟨_,rfl,by simp[Lj hq hk,aiw,nD,aiy M g.r L]⟩)]
 simp[F.comp,nD]
def abo(hz:Sz sz)(hi:Inv sz Z)(hl:Z.length<=5)(G:M[q]?=some (.lst (Z.map F.toD)))(hr:M[r]?=some (.dT kvs))(L:Z[j]?=some f)(hk:Z[k]?=some g)(ht:Tb Z j k kvs) :
 ∃(b7:Option D)(M':dh)(R:List (List Kx×D)),Ad.den W [a0,a1,D.ref q,a3,D.ref r,D.int j,D.int k,a7] M=.ok (.next,[a0,a1,some (.ref q),a3,some (.ref r),some (.int j),some (.int k),b7]) M' /\
  M'[r]?=some (.dT R)/\Tb Z j (k+1) R/\Up r M M':=by
 have qk:=(aq.mp L).1;have q1:=(aq.mp hk).1;have hf:=hi.good f (cj L);have hg:=hi.good g (cj hk)
 by_cases h:f.b=g.a
 .have hc:=ai5 (W:=W) (M:=M) (a0:=a0) (a1:=a1) (a3:=a3) (a4:=some (.ref r)) (a7:=a7) hz hf hg h G L hk
  have Hn:=air M (f.comp g) Z;have qv:kvs.length<100000:=by
   have:=ht.len;have:j*Z.length<=5*5:=Nat.mul_le_mul (e_ (b_ qk hl)) hl
   lia
  have st:=ain (d:=.int (ent Z f g)) (b:=.tup [.int j,.int k]) hr rfl qv;refine⟨some (f.comp g).toD,_,Ja kvs (ky j k) (.int (ent Z f g)),?_,zm (o:=.dT (Ja kvs (ky j k) (.int (ent Z f g)))) hr,ht.put L hk h,Up.set _ _ _⟩
  by_cases m:f.comp g∈Z
  .have qq:Jg .index (.ref q) [(f.comp g).toD] M=.ok (.int (pos (f.comp g) Z)) M:=by simp[Jg,ail (Be G),a0i,m]
   have q0:Q3 .index (.ref q) M=true:=by simp[Q3,Be G]
   have he:ent Z f g=(pos (f.comp g) Z:Int):=bf m;rw[he] at st;simp[-eq_int,Ad,Lj G L,Lj G hk,Qh,Qi,Bv,h,hc,W4,abn,Mg G,Hn,m,q0,qq,st,he,ky]
  .have he:ent Z f g=-1:=az m
   rw[he] at st;simp[-eq_int,Ad,Lj G L,Lj G hk,Qh,Qi,Bv,h,hc,W4,abn,Mg G,Hn,m,st,he,ky]
 .refine⟨a7,M,kvs,?_,hr,ht.skip L hk h,Up.refl r M⟩
  simp[-eq_int,Ad,Lj G L,Lj G hk,Qh,Qi,Bv,h]
def auv(hz:Sz sz)(hi:Inv sz G)(hl:G.length<=5)(hq:M[q]?=some (.lst (G.map F.toD)))(hr:M[r]?=some (.dT []))(qq:q≠r) :
 ∃(L:Env)(M':dh)(Z:List (List Kx×D)),Dr.den W [a0,a1,D.ref q,a3,D.ref r,a5,a6,a7] M=.ok (.next,L) M'/\L[2]?=some (some (.ref q))/\L[3]?=some a3/\L[4]?=some (some (.ref r))/\L.length=8 /\
  M'[r]?=some (.dT Z)/\Tb G G.length 0 Z/\Up r M M':=by
 unfold Dr;have q2:∀(M':dh),Up r M M'->v5 .len [.ref q] M'=.ok (.int G.length) M':=λM' u=>Ih (by rw[u.oth q qq];exact hq)
 obtain⟨L,M',e,b5,b6,R,Z,rfl,h1,h2,h3⟩:=Gz (W:=W) (t:=.name 5) (b:=Dq) (it:=.blt .len (.o (.v 2))) (n:=G.length) (ρ:=[a0,a1,D.ref q,a3,D.ref r,a5,a6,a7]) (M:=M) (M1:=M) (by simp[Ih hq]) (a_ hl (by decide))
  (λj ρ M'=>∃(b5 b6 R:Option D)(Z:List (List Kx×D)),ρ=[a0,a1,some (.ref q),a3,some (.ref r),b5,b6,R]/\M'[r]?=some (.dT Z)/\Tb G j 0 Z/\Up r M M')
  ⟨a5,a6,a7,[],rfl,hr,⟨λp hp=>by simp at hp,λj' k' f g a b c d=>by unfold Bef at d;lia,by simp,by simp⟩,Up.refl r M⟩
  (λj ρ M1 hj hI=>by
   obtain⟨b5,b6,R,Z,rfl,g1,g2,g3⟩:=hI;have qk:M1[q]?=some (.lst (G.map F.toD)):=by rw[g3.oth q qq];exact hq
   obtain⟨q3,M2,e2,c6,c7,q1,rfl,k1,k2,k3⟩:=Gz (W:=W) (t:=.name 6) (b:=Ad) (it:=.blt .len (.o (.v 2))) (n:=G.length) (ρ:=[a0,a1,D.ref q,a3,D.ref r,D.int j,b6,R]) (M:=M1) (M1:=M1) (by simp[Ih qk]) (a_ hl (by decide))
    (λk ρ M'=>∃(b6 R:Option D)(Z:List (List Kx×D)),ρ=[a0,a1,some (.ref q),a3,some (.ref r),some (.int j),b6,R]/\M'[r]?=some (.dT Z)/\Tb G j k Z/\Up r M1 M')
    ⟨b6,R,Z,rfl,g1,g2,Up.refl r M1⟩
    (λk ρ M2 hk hI=>by
     obtain⟨b6,R,Z,rfl,k1,k2,k3⟩:=hI;have qv:M2[q]?=some (.lst (G.map F.toD)):=by rw[k3.oth q qq];exact qk
     obtain⟨c7,M3,q0,e3,p3,t3,u3⟩:=abo (W:=W) (M:=M2) (a0:=a0) (a1:=a1) (a3:=a3) (a7:=R) hz hi hl qv k1 (show G[j]?=some G[j] by simp[hj]) (show G[k]?=some G[k] by simp[hk]) k2;exact⟨_,.next,_,M3,rfl,e3,.inl rfl,_,c7,q0,rfl,p3,t3,k3.trans u3⟩)
   exact⟨_,.next,_,M2,rfl,by simp[Dq,Hr,e2],  .inl rfl,some (.int j),c6,c7,q1,rfl,k1,k2.next,g3.trans k3⟩)
 exact⟨_,M',Z,e,rfl,rfl,rfl,rfl,h1,h2,h3⟩
structure Pat(sz:Nat->Nat)(K:Nat)(hs:List F)(kvs:List (List Kx×D)):Prop where
 hz:Sz sz
 inv:Inv sz hs
 cl:J0 hs
 len:hs.length<=5
 k1:1<=K
 k3:K<=3
 bey:∀f∈hs,f.a<K
 bez:∀f∈hs,f.b<K
 tb:Tb hs hs.length 0 kvs
theorem Y5:∀(Z:Y2)(a:Nat),∃v:Nat,(Z.map λ(x:Nat)=>(x:Int)).foldl (λm x=>if m<x then x else m) (a:Int)=(v:Int)/\a<=v/\(∀x∈Z,x<=v)/\(v=a\/v∈Z)
 |[],a=>⟨a,rfl,bh _,by simp,.inl rfl⟩
 |x::Z,a=>by
  obtain⟨v,e,G,L,R⟩:=Y5 Z (if a<x then x else a);refine⟨v,?_,?_,λy hy=>?_,?_⟩
  .rw[du,Ai,<- e]
   congr 1
   by_cases q:a<x
   .have:(a:Int)<(x:Int):=m_ q
    simp[q]
   .have:¬(a:Int)<(x:Int):=by lia
    simp[q]
  .split at G<;>omega
  .rcases bx.mp hy with q|q
   .subst q;split at G<;>omega
   .exact L y q
  .rcases R with q|q
   .by_cases w:a<x
    .right;rw[bf w] at q;subst q;simp
    .left;rw[az w] at q;exact q
   .right;exact bc _ q
theorem Y6:∀Z:List Nat,inL (Z.map nD)=some (Z.map λ(x:Nat)=>(x:Int))
 |[]=>rfl|x::Z=>by simp[nD,inL,show inL (Z.map nD)=_ from Y6 Z]
def auw(h:xs≠[]):∃v:Nat,v5 .max [.vl (xs.map nD)] M=.ok (.int v) M/\(∀x∈xs,x<=v)/\v∈xs:=by
 obtain⟨a,r,rfl⟩:∃a r,xs=a::r:=List.exists_cons_of_ne_nil h;obtain⟨v,e,G,L,Z⟩:=Y5 r a;refine⟨v,?_,λx R=>?_,?_⟩
 .have:=Y6 (a::r)
  simp only[v5,aok,aik,zr,this];simp only[du,at9,zr,uz,Res.Cm,e]
 .rcases bx.mp R with q|q
  .subst q;exact G
  .exact L x q
 .rcases Z with q|q
  .rw[q];simp
  .exact bc _ q
def max2(a b:Nat):v5 .max [.int a,.int b] M=.ok (nD (max a b)) M:=by
 by_cases h:a<b
 .have Z:(a:Int)<b:=m_ h
  have e:max a b=b:=by lia
  simp[v5,h,nD,e]
 .have Z:¬(a:Int)<b:=by lia
  have e:max a b=a:=by lia
  simp[v5,h,nD,e]
noncomputable def toF:D->F
 |.tup [.int a,.int b,.tup r]=>⟨a.toNat,b.toNat,r.map λd=>match d with|.int i=>i.toNat|_=>0⟩
 |_=>⟨0,0,[]⟩
def Rh(f:F):toF f.toD=f:=by
 obtain⟨a,b,r⟩:=f;show F.mk a b ((r.map nD).map λd=>match d with|.int i=>i.toNat|_=>0)=F.mk a b r;rw[tu]
 conv=>rhs;rw[<- List.map_id r]
 exact nq _ (zz λx _=>rfl)
def ai6{Z:List F}(G:Z.length<=100000)(R:M[q]?=some (.lst (Z.map F.toD))) :
 Dt.den W [a0,a1,D.ref q,a3,a4,a5,a6,a7] M=.ok (.vl ((Z.map λf=>max f.a f.b).map nD)) M:=by
 unfold Dt;rw[Lf (d:=.ref q) (ds:=Z.map F.toD) (M1:=M) (g:=λd=>nD (max (toF d).a (toF d).b)) (by simp) (Be R) (by simpa using G) (λx L=>by
  obtain⟨f,hf,rfl⟩:=cu.mp L;exact⟨_,ai0 _ _ _ _ _,by simp[max2,Rh]⟩)]
 simp[Rh]
def af0{G:List F}(L:R[2]?=some (some (.ref q)))(Z:R.length=8)(hl:G.length<=100000)(hq:M[q]?=some (.lst (G.map F.toD))) :
 Dm.den W R M=.ok (.vl (G.map eD)) M:=by
 unfold Dm;rw[Lf (d:=.ref q) (ds:=G.map F.toD) (M1:=M) (g:=λd=>eD (toF d)) (by simp[L]) (Be hq) (by simpa using hl) (λx hx=>by
  obtain⟨f,hf,rfl⟩:=cu.mp hx;refine⟨_,ai0 _ _ _ _ _,?_⟩;rw[Rh];simp[eD,List.getElem?_set,Z])]
 simp[Rh]
def af1(hm:1<=m)(hz:Sz sz)(q1:Oh t f M)(hg:Good sz fs)(hl:fs.length<=3)(hd:iw M d=some (fs.map F.toD))(hq:M[q]?=some (.lst (hs.map F.toD)))(q2:q≠t)(hi:Inv sz hs)(qk:hs.length<=15)(hc:hs.length<6->J0 hs)(h0:fs=[]->hs=[]) :
 ∃(G:Env)(M':dh),Du.den (PW m) [some (.ref t),some d,some (.ref q),a3,a4,a5,a6,a7] M=.ok (.next,G) M'/\∃(d':D)(R:Nat)(Z:List F),G=[some (.ref t),some d',some (.ref R),a3,a4,a5,a6,a7] /\
  M'[R]?=some (.lst (Z.map F.toD))/\R≠t/\Inv sz Z/\Z.length<=5/\J0 Z/\Eu M M':=by
 unfold Du;rw[abi];refine O2 (λn ρ M'=>∃(d:D)(fs hs:List F)(q:Nat),ρ=[some (.ref t),some d,some (.ref q),a3,a4,a5,a6,a7]/\fs.length=n/\Good sz fs/\fs.length<=3/\iw M' d=some (fs.map F.toD)/\M'[q]?=some (.lst (hs.map F.toD))/\q≠t /\
  Inv sz hs/\hs.length<=15/\(hs.length<6->J0 hs)/\(fs=[]->hs=[])/\Eu M M')
  (λG M'=>∃(d':D)(R:Nat)(Z:List F),G=[some (.ref t),some d',some (.ref R),a3,a4,a5,a6,a7]/\M'[R]?=some (.lst (Z.map F.toD))/\R≠t/\Inv sz Z/\Z.length<=5/\J0 Z/\Eu M M') ?_ afr fs.length _ M (by unfold afr;exact c_ hl (by decide))
  ⟨d,fs,hs,q,rfl,rfl,hg,hl,hd,hq,q2,hi,qk,hc,h0,Eu.refl M⟩
 intro n ρ M1 hI;obtain⟨d,fs,hs,q,rfl,rfl,g1,g2,g3,g4,g5,g6,g7,g8,g9,L⟩:=hI
 by_cases c:5<hs.length
 .right
  have c':(5:Int)<(hs.length:Int):=m_ c
  have Jj:fs≠[]:=λe=>by rw[g9 e] at c;simp at c
  have q3:1<=fs.length:=List.length_pos_iff.mpr Jj
  have qv:Gy d none (some (-1)) M1=some (.vl (fs.dropLast.map F.toD)):=by
   have qq:Qz (fs.map F.toD) none (some (-1))=fs.dropLast.map F.toD:=by
    have e2:((-1:Int)+(fs.length:Int)).toNat=fs.length-1:=by lia
    simp[Qz,clip,e2,List.map_dropLast,List.dropLast_eq_take]
   cases d with
   |tup ds=>simp[iw] at g3|vl ds=>simp only[Gy,g3,uz,qq]|ref n=>simp only[Gy,g3,uz,qq]|_=>simp[iw] at g3
  have gd:Good sz fs.dropLast:=λf hf=>g1 f (List.dropLast_subset fs hf)
  obtain⟨Z,M2,e,p2,k2,l2,i2,b2,c2,z2⟩:=Vk (M:=M1) (m:=m) (d:=.vl (fs.dropLast.map F.toD)) hm hz gd (by simp;exact a_ g2 (by decide)) rfl;have q0:t<M1.length:=by obtain⟨n,h,_⟩:=q1;exact Bo (L t _ h)
  refine⟨M1,.next,_,M2,fs.length-1,?_,?_,.inl rfl,by lia,.vl (fs.dropLast.map F.toD),fs.dropLast,Z,M1.length,rfl,by simp,gd,by simp;exact a_ g2 (by decide),rfl,p2,i_ q0,i2,b2,c2,z2,L.trans k2⟩
  .simp[Ih g4,c']
  .simp[-List.map_dropLast,Hs,qv,e]
 .left
  have c':¬(5:Int)<(hs.length:Int):=by lia
  exact⟨M1,by simp[Ih g4,c'],d,q,hs,rfl,g4,g5,g6,s_ c,g8 (c_ (s_ c) (by decide)),L⟩
def abp(hm:3<=m)(q0:Oh t f M):∃(K r:Nat)(sz:Nat->Nat)(hs:List F)(L:List (List Kx×D))(M':dh),prog.call m 5 [.ref t] M=.ok (.tup [.int K,dsD hs,.ref r]) M'/\M'[r]?=some (.dT L)/\M.length<=r/\Pat sz K hs L/\St t f M M':=by
 rw[call_of (a_ (by decide) hm) rfl];have z3:t<M.length:=by obtain⟨n,h,_⟩:=q0;exact Bo h
 obtain⟨d,M1,fs,sz,e1,d1,n1,hz,g1,l1,s1⟩:=aiv (m:=m-1) (r_ hm) q0;obtain⟨hs,M2,e2,p2,k2,z0,i2,b2,c2,z2⟩:=Vk (M:=M1) (m:=m-1) (d:=d) (r_ (a_ (by decide) hm)) hz g1 l1 d1;have q8:t<M1.length:=by obtain⟨n,h,_⟩:=s1.has;exact Bo h
 have s2:St t f M1 M2:=St.of s1.has k2;obtain⟨z1,M3,e3,d',q,Z,rfl,p3,q3,i3,l3,c3,k3⟩:=af1 (M:=M2) (m:=m-1) (t:=t) (f:=f) (d:=d) (fs:=fs) (hs:=hs) (q:=M1.length) (a3:=none) (a4:=none) (a5:=none) (a6:=none) (a7:=none) (r_ (a_ (by decide) hm)) hz s2.has g1 l1 (k2.iw d1) p2 (i_ q8) i2 b2 c2 z2;have s3:St t f M2 M3:=St.of s2.has k3;have q6:=s1.trans (s2.trans s3);have qk:=ai6 (W:=(PW (m-1))) (M:=M3) (a0:=some (.ref t)) (a1:=some d') (a3:=none) (a4:=none) (a5:=none) (a6:=none) (a7:=none) (by exact a_ l3 (by decide):Z.length<=100000) p3;obtain⟨v,ev,q1,zk⟩:=auw (M:=M3) (xs:=(Z.map λf:F=>max f.a f.b)++[0]) (by simp);have R:Dh .add (.vl ((Z.map λf:F=>max f.a f.b).map nD)) (.vl [.int 0]) M3=.ok (.vl (((Z.map λf:F=>max f.a f.b)++[0]).map nD)) M3:=by rw[K3 _ _ (by simp;exact a_ l3 (by decide))];simp[nD]
 generalize hX:(D.vl ((Z.map λf:F=>max f.a f.b).map nD))=X at qk R;generalize hY:(D.vl (((Z.map λf:F=>max f.a f.b)++[0]).map nD))=Y at ev R;have zw:v<=2:=by
  rcases fj.mp zk with w|w
  .obtain⟨x,hx,rfl⟩:=cu.mp w
   have:=(i3.good x hx).a;have:=(i3.good x hx).b;lia
  .simp at w;exact a_ (f_ w) (j4 _)
 have qv:Ak M3 (.ref q) (.vl [])=some (decide (Z=[])):=by
  simp only[Ak];cases Z with
  |nil=>simp[Jk,iw,p3,My]|cons a l=>simp[Jk,iw,p3]
 obtain⟨K,G,hK,k1,q5,ka,kb,p4,s4,l4⟩:∃(K:Nat)(G:dh),
  (Ar.iff (.cmp .eq (.v 2) (.Dg .nil)) (.o (.asg (.tg (.name 3)) (.bin .add (.i 1) (.call 2 (.p (.v 0) (.i 3)))))) .nil).den (PW (m-1)) [some (.ref t),some d',some (.ref q),some (.int (1+(v:Int))),none,none,none,none] M3
   = .ok (.next,[some (.ref t),some d',some (.ref q),some (.int K),none,none,none,none]) G/\1<=K/\K<=3/\(∀f∈Z,f.a<K)/\(∀f∈Z,f.b<K)/\G[q]?=some (.lst (Z.map F.toD))/\St t f M3 G/\G.length=M3.length:=by
  by_cases he:Z=[]
  .obtain⟨w,G,ew,lw,sw,q4⟩:=ym (m:=m-1) (r_ (a_ (by decide) hm)) s3.has (many:=3) (by decide) (by decide)
   refine⟨1+w,G,?_,x_,by lia,by simp[he],by simp[he],sw.keep q _ q3 p3,sw,q4⟩;simp[qv,he,ew]
  .refine⟨1+v,M3,?_,x_,by lia,λx hx=>?_,λx hx=>?_,p3,St.of s3.has (Eu.refl _),rfl⟩
   .simp[qv,he]
   .have:=q1 (max x.a x.b) (kh _ (cu.mpr ⟨x,hx,rfl⟩));lia
   .have:=q1 (max x.a x.b) (kh _ (cu.mpr ⟨x,hx,rfl⟩));lia
 have p5:(G++[.dT []])[q]?=some (.lst (Z.map F.toD)):=wj p4;have qq:=Bo p4;obtain⟨zg,M6,L,e6,r2,r3,r4,r8,p6,t6,u6⟩:=auv (W:=(PW (m-1))) (M:=G++[.dT []]) (q:=q) (r:=G.length) (a0:=some (.ref t)) (a1:=some d') (a3:=some (.int K)) (a5:=none) (a6:=none) (a7:=none) hz i3 l3 p5 (by simp) (h_ qq);have q7:M6[q]?=some (.lst (Z.map F.toD)):=by rw[u6.oth q (h_ qq)];exact p5
 have zv:=af0 (W:=(PW (m-1))) (M:=M6) r2 r8 (by exact a_ l3 (by decide):Z.length<=100000) q7;have q2:=q6.trans s4;refine⟨K,G.length,sz,Z,L,M6,?_,p6,q2.len,⟨hz,i3,c3,l3,k1,q5,ka,kb,t6⟩,?_⟩
 .simp only[Fn.run,Jx,Jw]
  simp[-Jb,e1,e2,e3,qk,R,ev,hK,MW.new,e6,r3,r4,zv,aix,dsD]
 .refine q2.trans ⟨?_,?_,λa o na h=>?_⟩
  .rw[u6.len];simp
  .obtain⟨n,h,o⟩:=s4.has
   exact⟨n,by rw[u6.oth t (by have:=Bo h;exact h_ this)];exact wj h,o⟩
  .rw[u6.oth a (by have:=Bo h;exact h_ this)];exact wj h
noncomputable abbrev Pr:=Int×Int
def qD(Z:List Pr):D:=.tup (Z.map su)
noncomputable def kK(p:Pr):List Kx:=[.inl p.1,.inl p.2]
def Bg(Z:List (Pr×Int)):List (List Kx×D):=Z.map λe=>(kK e.1,.int e.2)
def ai8(h:kK p=kK q):p=q:=by simp[kK] at h;exact Prod.ext h.1 h.2
theorem W8:∀Z:List (Pr×Int),Yl (Bg Z)=some Z
 |[]=>rfl
 |x::Z=>by
  show(Yl (Bg Z)).map _=_;rw[W8 Z];rfl
noncomputable def lk(Z:List (Pr×Int))(p:Pr):Option Int:=(Z.find? λe=>decide (e.1=p)).map (·.2)
def ai9(p q:Pr):decide (kK p=kK q)=decide (p=q):=by
 by_cases h:p=q
 .simp[h]
 .rw[dz h,dz λe=>h (ai8 e)]
theorem Ng(p:Pr):∀Z:List (Pr×Int),Ft (Bg Z) (kK p)=(lk Z p).map D.int
 |[]=>rfl
 |x::Z=>by
  have G:=Ng p Z;simp only[Ft,Bg,lk] at G ⊢;rw[du,n8,n8,ai9];cases decide (x.1=p) with
  |true=>rfl|false=>exact G
def Nh(p:Pr):Mx (su p)=some (kK p):=rfl
def Vl(h:M[r]?=some (.dT (Bg Z)))(p:Pr):Aq (.ref r) (su p) M=(lk Z p).map D.int:=by rw[a0g h (Nh p),Ng]
def a0l(h:M[r]?=some (.dT (Bg Z)))(p:Pr):Lb M (su p) (.ref r)=some (lk Z p).isSome:=by rw[a0h h (Nh p),Ng];simp
def Kd{Z:List Pr}{i:Nat}(h:Z[i]?=some p):Aq (qD Z) (.int i) M=some (su p):=Jr q_ (by simp[h])
def Ln(Z:List Pr):v5 .len [qD Z] M=.ok (.int Z.length) M:=by simp[v5,qD]
def a0m(p q:Pr)(M:dh):Ak M (su p) (su q)=some (decide (p=q)):=by show My (Jk M 5) [.int p.1,.int p.2] [.int q.1,.int q.2]=_;simp[My,Wr,Prod.ext_iff]
theorem adz{W:Fd}{M:dh}{t:Tg}{b:qm}{s:Src}{L:List D}{fl:Flow}(qk:D->Bool)(E:Env->Prop)(qv:(∃v,fl=.ret v)\/∃c,fl=.err c)(hi:∀i,i<L.length->s.item i M=L[i]?)(hf:s.fin M=true)
 (step:∀d∈L,∀G,E G->∃R,t.put d G=some R/\if qk d=true then ∃Z,b.den W R M=.ok (fl,Z) M else ∃qq Z,b.den W R M=.ok (qq,Z) M/\(qq=.next\/qq=.cont)/\E Z) :
 ∀k i G,i+k=L.length->E G->if(L.drop i).any qk=true then ∃Z,Bh s.fin s.item (λd G M=>(Res.ue (t.put d G) M).bind λZ M=>b.den W Z M) k i G M=.ok (fl,Z) M
  else ∃Z,Bh s.fin s.item (λd G M=>(Res.ue (t.put d G) M).bind λZ M=>b.den W Z M) k i G M=.ok (.next,Z) M/\E Z
 |0,i,G,e,h=>by
  have:L.drop i=[]:=List.drop_eq_nil_of_le (by lia);rw[this];exact⟨G,by simp[Bh,hf],h⟩
 |k+1,i,G,e,h=>by
  have hl:i<L.length:=by lia
  obtain⟨R,h1,h2⟩:=step L[i] (ud hl) G h;have h3:s.item i M=some L[i]:=by rw[hi i hl];simp[hl]
  rw[List.drop_eq_getElem_cons hl,yq]
  by_cases c:qk L[i]=true
  .rw[bf c] at h2
   obtain⟨Z,h4⟩:=h2;rw[c,Bool.true_or,bf rfl];refine⟨Z,?_⟩;rcases qv with⟨v,rfl⟩|⟨v,rfl⟩<;>simp[Bh,h3,h1,h4]
  .rw[az c] at h2
   obtain⟨qq,Z,h4,h5,h6⟩:=h2;have ih:=adz qk E qv hi hf step k (i+1) Z (by lia) h6;rw[yw.mpr c,Bool.false_or];have e2:Bh s.fin s.item (λd G M=>(Res.ue (t.put d G) M).bind λZ M=>b.den W Z M) (k+1) i G M=Bh s.fin s.item (λd G M=>(Res.ue (t.put d G) M).bind λZ M=>b.den W Z M) k (i+1) Z M:=by rcases h5 with rfl|rfl<;>simp[Bh,h3,h1,h4]
   rw[e2];exact ih
def Gr{W:Fd}{ρ:Env}{M:dh}{t:Tg}{b:qm}{it:Og}{s:Src}{ds:List D}{fl:Flow}(G:D->Bool)(E:Env->Prop)(qq:(∃v,fl=.ret v)\/∃c,fl=.err c)(R:it.den W ρ M=.ok s M)(hl:s.len=ds.length)(hi:∀i,i<ds.length->s.item i M=ds[i]?)(hf:s.fin M=true)(h0:E ρ)
 (step:∀d∈ds,∀ρ,E ρ->∃Z,t.put d ρ=some Z/\if G d=true then ∃ρ',b.den W Z M=.ok (fl,ρ') M else ∃L ρ',b.den W Z M=.ok (L,ρ') M/\(L=.next\/L=.cont)/\E ρ') :
 if ds.any G=true then ∃ρ',(Ar.for_ t it b).den W ρ M=.ok (fl,ρ') M else ∃ρ',(Ar.for_ t it b).den W ρ M=.ok (.next,ρ') M/\E ρ':=by
 rw[Wx,R,Res.yl,hl];exact adz G E qq hi hf step ds.length 0 ρ (t8 _) h0
noncomputable def W9(Z:List Pr)(w:Int)(e:Pr):Bool:=if w=-1 then decide (e.1=e.2) else decide (0<=w/\w<Z.length/\Z[w.toNat]?=some e)
def Y7{W:Fd}{M:dh}{ρ:Env}(L:ρ[i]?=some (some (qD ps)))(Z:ρ[j]?=some (some (.int w)))(G:x.den W ρ M=.ok (su e) M)(hw:w≠-1) :
 (Ex.and (.chain .le .lt (.i 0) (.var j) (.l (.var i))) (.cmp .eq (.ix (.var i) (.var j)) x)).den W ρ M=.ok (.bl (W9 ps w e)) M:=by
 unfold W9;rw[az hw]
 by_cases c:0<=w
 .by_cases R:w<ps.length
  .have hl:w.toNat<ps.length:=by lia
   have hx:Aq (qD ps) (.int w) M=some (su ps[w.toNat]):=Jr c (by rw[ir,gb hl];rfl);simp[L,Z,G,Ln,c,R,hx,a0m]
  .simp[L,Z,G,Ln,c,R]
 .simp[L,Z,G,Ln,c]
def aja(Z:1<=m):prog.call m 9 [qD ps,.int w,.int a,.int b] M=.ok (.bl (W9 ps w (a,b))) M:=by
 rw[call_of Z rfl]
 by_cases h:w=-1
 .simp[Fn.run,Dy,Dw,h,W9]
 .have:=Y7 (W:=PW (m-1)) (M:=M) (ρ:=[qD ps,D.int w,D.int a,D.int b]) (ps:=ps) (i:=0) (j:=1) (w:=w) (e:=(a,b)) (x:=.tup (.p (.v 2) (.v 3))) rfl rfl rfl h
  simp only[Fn.run,Dy,Dw];simp[-abj,h,this]
def aoq{i j:Nat}(hm:1<=m)(Z:ps[i]?=some p)(L:ps[j]?=some q):prog.call m 13 [qD ps,su (i,j),.int w] M=.ok (.bl (W9 ps w (p.1,q.2))) M:=by
 rw[call_of hm rfl];have R:∀p:Pr,Aq (su p) (.int 0) M=some (.int p.1):=λp=>rfl
 have G:∀p:Pr,Aq (su p) (.int 1) M=some (.int p.2):=λp=>rfl
 by_cases h:w=-1
 .simp[Fn.run,Jz,Jy,h,W9,R,G,Kd Z,Kd L]
 .have:=Y7 (W:=PW (m-1)) (M:=M) (ρ:=[qD ps,su (i,j),D.int w,su (p.1,q.2)]) (ps:=ps) (i:=0) (j:=2) (w:=w) (e:=(p.1,q.2)) (x:=.v 3) rfl rfl rfl h
  simp only[Fn.run,Jz,Jy];simp only[su] at this ⊢;simp[-abj,h,this,R,G,Kd Z,Kd L,su]
def two(Z:List (Pr×Int))(x y:Int):Option Int:=if x=-1 then some y else if y=-1 then some x else lk Z (x,y)
def ad0(L:1<=m)(R:M[r]?=some (.dT (Bg xs)))(h:two xs x y=some v):prog.call m 7 [.ref r,.int x,.int y] M=.ok (.int v) M:=by
 rw[call_of L rfl];unfold two at h;have e:=Vl R (x,y);simp only[su] at e
 by_cases Z:x=-1
 .rw[bf Z] at h;cases h
  simp[Fn.run,G4,G3,Z]
 .rw[az Z] at h
  by_cases G:y=-1
  .rw[bf G] at h;cases h
   simp[Fn.run,G4,G3,Z,G]
  .rw[az G] at h
   rw[h] at e;simp[Fn.run,G4,G3,Z,G,e]
def Ri(R:1<=m)(hr:M[r]?=some (.dT (Bg xs)))(h:two xs x y=some v)(hx:-1<=x)(hy:-1<=y):prog.call m 14 [.ref r,.int x,.int y] M=.ok (.int v) M:=by
 rw[call_of R rfl];unfold two at h;have e:=Vl hr (x,y);simp only[su] at e
 by_cases G:x=-1
 .rw[bf G] at h;cases h
  subst G;have:-1+y+1=y:=by lia
  simp[Fn.run,Ie,Ib,this]
 .rw[az G] at h
  have L:¬x<0:=by lia
  by_cases Z:y=-1
  .rw[bf Z] at h;cases h
   subst Z;have:x+-1+1=x:=by lia
   simp[Fn.run,Ie,Ib,L,this]
  .rw[az Z] at h
   rw[h] at e;have c2:¬y<0:=by lia
   simp[Fn.run,Ie,Ib,L,c2,e]
noncomputable def at_(Z:List Pr)(i:Nat):Pr:=Z.getD i (0,0)
def at_of{Z:List Pr}{i:Nat}(h:Z[i]?=some p):at_ Z i=p:=by simp[at_,o6,h]
def Bl{Z:List Pr}{i:Nat}(h:i<Z.length):Z[i]?=some (at_ Z i):=by simp[at_,h]
def Vm(Z:List Pr)(i k:Nat):List Pr:=((List.range k).filter λj=>decide ((at_ Z i).2=(at_ Z j).1)).map λ(j:Nat)=>((i:Int),(j:Int))
def mpN(Z:List Pr)(k:Nat):List Pr:=(List.range k).flatMap λi=>Vm Z i Z.length
def mp(Z:List Pr):List Pr:=mpN Z Z.length
def Y8(Z:List Pr)(i k:Nat):Vm Z i (k+1)=if(at_ Z i).2=(at_ Z k).1 then Vm Z i k++[((i:Int),(k:Int))] else Vm Z i k:=by unfold Vm;rw[List.range_succ,List.filter_append,oh];split<;>simp[*]
def Ni(Z:List Pr)(k:Nat):mpN Z (k+1)=mpN Z k++Vm Z k Z.length:=by simp[mpN,List.range_succ]
def Xa(Z:List Pr)(i k:Nat):(Vm Z i k).length<=k:=by unfold Vm;rw[dw];exact dq (List.length_filter_le _ _) (by simp)
theorem Rj(Z:List Pr):∀k,(mpN Z k).length<=k*Z.length
 |0=>by simp[mpN]
 |k+1=>by
  rw[Ni,o4,Nat.succ_mul];exact Nat.add_le_add (Rj Z k) (Xa Z k _)
def Gs{Z:List Pr}{p:Pr}:p∈mp Z↔∃i j:Nat,p=((i:Int),(j:Int))/\i<Z.length/\j<Z.length/\(at_ Z i).2=(at_ Z j).1:=by
 simp only[mp,mpN,Vm,List.mem_flatMap,cu,uy,lg,bz];constructor
 .rintro⟨i,G,j,⟨L,e⟩,rfl⟩
  exact⟨i,j,rfl,G,L,e⟩
 .rintro⟨i,j,rfl,G,L,e⟩
  exact⟨i,G,j,⟨L,e⟩,rfl⟩
def aor(M:dh)(o Z:MO):(M++[o]).set M.length Z=M++[Z]:=by simp
def G8(p:Pr)(M:dh):Aq (su p) (.int 0) M=some (.int p.1):=rfl
def G9(p:Pr)(M:dh):Aq (su p) (.int 1) M=some (.int p.2):=rfl
def asl{Z:List Pr}{i:Nat}{x:D}(h:(Z.map su)[i]?=some x):i<Z.length/\x=su (at_ Z i):=by
 have G:i<Z.length:=by have:=(aq.mp h).1;simpa using this
 rw[ir,Bl G] at h;exact⟨G,by cases h;rfl⟩
def af2{Z:List Pr}{i j:Nat}{l:List Pr}(G:l.length<100000) :
 zf.den W [R,D.ref M.length,D.int i,su (at_ Z i),D.int j,su (at_ Z j)] (M++[.lst (l.map su)])
  = .ok (.next,[R,some (.ref M.length),some (.int i),some (su (at_ Z i)),some (.int j),some (su (at_ Z j))]) (M++[.lst ((if(at_ Z i).2=(at_ Z j).1 then l++[((i:Int),(j:Int))] else l).map su)]):=by
 have h:(M++[MO.lst (l.map su)])[M.length]?=some (.lst (l.map su)):=K5
 by_cases c:(at_ Z i).2=(at_ Z j).1
 .rw[bf c]
  have e:=Rg (d:=su ((i:Int),(j:Int))) h (by simpa using G);rw[aor] at e;have L:Jg .append (.ref M.length) [.tup [.int i,.int j]] (M++[.lst (l.map su)])=.ok .non (M++[.lst ((l++[((i:Int),(j:Int))]).map su)]):=by rw[oh];exact e
  simp[zf,G8,G9,c,Ow h,L]
 .rw[az c]
  simp[zf,G8,G9,c]
def ad1(hm:1<=m)(hn:ps.length<=100):prog.call m 8 [qD ps] M=.ok (.ref M.length) (M++[.lst ((mp ps).map su)]):=by
 rw[call_of hm rfl];obtain⟨qq,R,e,b2,b3,G,Z,rfl,rfl⟩:=Qf (W:=PW (m-1)) (t:=.names [2,3]) (b:=G5) (it:=.v 0) (ds:=ps.map su) (ρ:=[qD ps,D.ref M.length,none,none,none,none]) (M:=M++[.lst []]) (M1:=M++[.lst []]) rfl
  (λi L R=>∃b2 b3 G Z,L=[some (qD ps),some (.ref M.length),b2,b3,G,Z]/\R=M++[.lst ((mpN ps i).map su)]) ⟨_,_,_,_,rfl,rfl⟩
  (λi x L R hx hI=>by
   obtain⟨b2,b3,G,Z,rfl,rfl⟩:=hI;obtain⟨hi,rfl⟩:=asl hx;obtain⟨qk,M2,e2,c4,c5,rfl,rfl⟩:=Qf (W:=PW (m-1)) (t:=.names [4,5]) (b:=zf) (it:=.v 0) (ds:=ps.map su) (ρ:=[qD ps,D.ref M.length,D.int i,su (at_ ps i),G,Z]) (M:=M++[.lst ((mpN ps i).map su)]) (M1:=M++[.lst ((mpN ps i).map su)]) rfl
    (λj L R=>∃G Z,L=[some (qD ps),some (.ref M.length),some (.int i),some (su (at_ ps i)),G,Z]/\R=M++[.lst ((mpN ps i++Vm ps i j).map su)]) ⟨_,_,rfl,by simp[Vm]⟩
    (λj x L R hx hI=>by
     obtain⟨G,Z,rfl,rfl⟩:=hI;obtain⟨hj,rfl⟩:=asl hx;refine⟨_,_,_,_,rfl,af2 (i:=i) (j:=j) (l:=mpN ps i++Vm ps i j) ?_,.inl rfl,_,_,rfl,?_⟩
     .have h1:=Rj ps i
      have h2:=Xa ps i j;have h3:i*ps.length<=100*100:=Nat.mul_le_mul (by lia) hn
      rw[o4];lia
     .rw[Y8]
      split<;>simp)
   refine⟨_,.next,_,_,rfl,?_,.inl rfl,some (.int i),some (su (at_ ps i)),c4,c5,rfl,rfl⟩;rw[Ni];rw[dw] at e2;show Wq (PW (m-1)) .nil ((Ar.for_ (.names [4,5]) (.enm (.v 0)) zf).den (PW (m-1)) [some (qD ps),some (.ref M.length),some (.int i),some (su (at_ ps i)),G,Z] _)=_;rw[e2];rfl)
 rw[dw] at e;simp[Fn.run,Je,Jd,MW.new,G6,e,mp]
def Chk(m f:Nat)(Z:List D)(M G:dh)(b:Bool):Prop:=if b=true then prog.cae m f Z M=none/\prog.call m f Z M=.ok .non G else prog.cae m f Z M=some (1,G)
def Xb{Z:Fn}{b:Bool}(R:1<=m)(L:prog.fns[f]?=some Z)(hn:ds.length=Z.np)(h:∃G,Z.body.den (PW (m-1)) (ds.map some++List.replicate (Z.ns-Z.np) none) M=.ok (if b=true then .next else .err 1,G) M'):Chk m f ds M M' b:=by
 obtain⟨G,h⟩:=h;unfold Chk;rw[call_of R L,aur R L];cases b with
 |true=>simp[Fn.run,Fn.Yw,hn,h]|false=>simp[Fn.run,Fn.Yw,hn,h]
noncomputable def toP:D->Pr
 |.tup [.int a,.int b]=>(a,b)|_=>(0,0)
def Mh(p:Pr):toP (su p)=p:=rfl
noncomputable def Vn(K:Int)(e:Pr):Bool:=decide ((0<=e.1/\e.1<K)/\0<=e.2/\e.2<K)
def P1(K:Int)(Z:List Pr):Bool:=(decide (1<=K/\K<=3)&&decide (Z.length<=5))&&!(Z.any λe=>!Vn K e)
def any_map(Z:List Pr)(q:Pr->Bool):((Z.map su).any λd=>q (toP d))=Z.any q:=by simp[yf,Function.comp_def,Mh]
def Vo{K:Int}(h:ρ[i]?=some (some (.int K))):(Ex.chain .le .le (.i 1) (.var i) (.i 3)).den W ρ M=.ok (.bl (decide (1<=K/\K<=3))) M:=by by_cases c:1<=K<;>simp[h,c]
def ad2(h:ρ[i]?=some (some (qD ps))):(Ex.cmp .gt (.l (.var i)) (.i 5)).den W ρ M=.ok (.bl (decide (5<ps.length))) M:=by
 have e:decide ((5:Int)<(ps.length:Int))=decide (5<ps.length):=by
  by_cases c:5<ps.length
  .have:(5:Int)<ps.length:=by lia
   simp[c,this]
  .have:¬(5:Int)<ps.length:=by lia
   simp[c,this]
 simp[h,Ln,e]
def aos(hm:1<=m):Chk m 10 [.int K,qD ps] M M (P1 K ps):=by
 refine Xb hm rfl rfl ?_;show ∃G,Az.den (PW (m-1)) [some (.int K),some (qD ps),none] M=_;have R:=Vo (W:=PW (m-1)) (M:=M) (ρ:=[D.int K,qD ps,none]) (i:=0) rfl;have h2:=ad2 (W:=PW (m-1)) (M:=M) (ρ:=[D.int K,qD ps,none]) (i:=1) rfl;unfold P1
 by_cases c1:1<=K/\K<=3
 .rw[jf c1] at R
  by_cases c2:ps.length<=5
  .have L:¬5<ps.length:=by lia
   rw[dz L] at h2;have Z:=Gr (W:=PW (m-1)) (M:=M) (ρ:=[D.int K,qD ps,none]) (t:=.name 2) (b:=yr) (it:=.val (.v 1)) (s:=.con (ps.map su)) (ds:=ps.map su) (fl:=.err 1) (λd=>!Vn K (toP d)) (fun ρ=>∃b2,ρ=[some (.int K),some (qD ps),b2]) (.inr ⟨1,rfl⟩) rfl rfl (λ_ _=>rfl) rfl ⟨none,rfl⟩ (λd hd ρ hE=>by
    obtain⟨b2,rfl⟩:=hE;obtain⟨p,_,rfl⟩:=cu.mp hd;refine⟨_,rfl,?_⟩
    by_cases c:Vn K p=true
    .rw[az (by simp[Mh,c])]
     refine⟨.next,_,?_,.inl rfl,some (su p),rfl⟩;simp only[Vn,bz] at c;simp[yr,G8,G9,c]
    .rw[bf (by simp[Mh,c])]
     refine⟨[some (.int K),some (qD ps),some (su p)],?_⟩;simp only[Vn,bz] at c
     by_cases d1:0<=p.1
     .by_cases d2:p.1<K
      .by_cases d3:0<=p.2
       .have d4:¬p.2<K:=λd4=>c ⟨⟨d1,d2⟩,d3,d4⟩
        simp[yr,G8,G9,d1,d2,d3,d4]
       .simp[yr,G8,G9,d1,d2,d3]
      .simp[yr,G8,G9,d1,d2]
     .simp[yr,G8,G9,d1])
   rw[any_map ps λe=>!Vn K e] at Z;rw[jf c1,jf c2];cases e:(ps.any λe=>!Vn K e) with
   |true =>
    rw[e,bf rfl] at Z;obtain⟨G,Z⟩:=Z;exact⟨G,by simp only[Az,Dz,j7,Jb,Fw,R,h2,Z,Res.yl,Sh,j9,Ej,jo];rfl⟩
   |false =>
    rw[e,az (by simp)] at Z;obtain⟨G,Z,_⟩:=Z;exact⟨G,by simp only[Az,Dz,j7,Jb,Fw,R,h2,Z,Res.yl,Sh,j9,Ej,jo];rfl⟩
  .have L:5<ps.length:=by lia
   rw[jf L] at h2;rw[dz c2];exact⟨[some (.int K),some (qD ps),none],by simp only[Az,j7,Jb,Fw,R,h2,Res.yl,Sh,Vg,j9,Ej,jo,M8,K1];simp⟩
 .rw[dz c1] at R
  rw[dz c1];exact⟨[some (.int K),some (qD ps),none],by simp only[Az,j7,Jb,Fw,R,Res.yl,Vg,qw,M8,K1];simp⟩
def ssB(Z:List Pr)(G:List (Pr×Int)):Bool:=Gx ((G.map (·.1)).map kK) ((mp Z).map kK)
def gl(Z:List (Pr×Int))(p:Pr):Int:=(lk Z p).getD 0
def okF(Z:List Pr)(G:List (Pr×Int))(p:Pr):Bool:=W9 Z (gl G p) ((at_ Z p.1.toNat).1,(at_ Z p.2.toNat).2)
def P2(Z:List Pr)(G:List (Pr×Int)):Bool:=ssB Z G&&!((mp Z).any λp=>!okF Z G p)
def Ms(Z:List (Pr×Int))(p:Pr)(l:Nat):Bool:=(lk Z (p.2,(l:Int))).isSome&&!decide (two Z (gl Z p) l=two Z p.1 (gl Z (p.2,(l:Int))))
def P3(Z:List Pr)(G:List (Pr×Int)):Bool:=!((mp Z).any λp=>(List.range Z.length).any λl=>Ms G p l)
def ajb{Z:List (Pr×Int)}{p:Pr}:(lk Z p).isSome=true↔p∈Z.map (·.1):=by unfold lk;rw[Option.isSome_map,List.find?_isSome];simp only[cu,bz]
def Tc(l:List Pr)(p:Pr):((l.map kK).any λy=>decide (y=kK p))=decide (p∈l):=by
 induction l with
 |nil=>rfl
 |cons a l G =>
  rw[du,yq,G,ai9]
  by_cases e:a=p
  .simp[e]
  .have Z:¬p=a:=λz=>e z.symm
   simp[e,Z]
def ajc{ps:List Pr}{L:List (Pr×Int)}:ssB ps L=true↔∀p:Pr,p∈L.map (·.1)↔p∈mp ps:=by
 unfold ssB Gx;rw[ao,ji,ji];constructor
 .rintro⟨h1,R⟩ p
  constructor
  .intro h
   have:=h1 (kK p) (cu.mpr ⟨p,h,rfl⟩);rw[Tc] at this;exact j8 this
  .intro h
   have:=R (kK p) (cu.mpr ⟨p,h,rfl⟩);rw[Tc] at this;exact j8 this
 .intro h
  refine⟨λk Z=>?_,λk Z=>?_⟩
  .obtain⟨p,G,rfl⟩:=cu.mp Z
   rw[Tc];exact jf ((h p).mp G)
  .obtain⟨p,G,rfl⟩:=cu.mp Z
   rw[Tc];exact jf ((h p).mpr G)
def Qj(h:ssB ps Z=true)(p:Pr):(lk Z p).isSome=true↔p∈mp ps:=by rw[ajb,ajc.mp h p]
def Cz{Z:List (Pr×Int)}(h:(lk Z p).isSome=true):lk Z p=some (gl Z p):=by obtain⟨v,e⟩:=ig.mp h;rw[gl,e];rfl
theorem Td:∀l:List Pr,Es (l.map su)=some (l.map kK)
 |[]=>rfl|p::l=>by simp[Es,Nh,Td l]
def Y9{l:List Pr}(h:l.length<=30):Fv (l.map kK)=true:=by unfold Fv;rw[dw,jf h,Bool.true_and,ji];intro k Z;obtain⟨p,G,rfl⟩:=cu.mp Z;rfl
def auz(Z:ps.length<=5):(mp ps).length<=25:=dq (Rj ps _) (Nat.mul_le_mul Z Z)
def af3(h1:ρ[i]?=some (some (.ref r)))(L:ρ[j]?=some (some (.ref q)))(hr:M[r]?=some (.dT (Bg Z)))(hq:M[q]?=some (.lst ((mp ps).map su)))(hn:ps.length<=5)(R:Z.length<=30) :
 (Ex.R8 (.var i) (.var j)).den W ρ M=.ok (.bl !ssB ps Z) M:=by
 have e1:(keysOf M (.ref r)).bind Es=some ((Z.map (·.1)).map kK):=by
  have:keysOf M (.ref r)=some ((Z.map (·.1)).map su):=by simp only[keysOf,hr,Bg,tu];rfl
  rw[this,zr,Td]
 have G:(keysOf M (.ref q)).bind Es=some ((mp ps).map kK):=by
  have:keysOf M (.ref q)=some ((mp ps).map su):=by simp[keysOf,hq,iw]
  rw[this,zr,Td]
 rw[Vh];simp[-List.map_map,h1,L,e1,G,Y9 (l:=Z.map (·.1)) (by simpa using R),Y9 (l:=mp ps) (dq (auz hn) (by decide)),ssB]
def abr{i j:Nat}:okF ps Z ((i:Int),(j:Int))=W9 ps (gl Z ((i:Int),(j:Int))) ((at_ ps i).1,(at_ ps j).2):=by simp[okF]
def Vp{M:dh}(h:M[n]?=some (.lst ds))(i:Nat):(Src.live n ds.length).item i M=ds[i]?:=by simp[Src.item,h]
def Za{M:dh}(h:M[n]?=some (.lst ds)):(Src.live n ds.length).fin M=true:=by simp[Src.fin,h]
def aot(hm:2<=m)(hn:ps.length<=5)(hx:Z.length<=30)(hr:M[r]?=some (.dT (Bg Z))):Chk m 11 [qD ps,.ref r] M (M++[.lst ((mp ps).map su)]) (P2 ps Z):=by
 refine Xb (by lia) rfl rfl ?_;show ∃G,Ce.den (PW (m-1)) [some (qD ps),some (.ref r),none,none,none] M=_;have Ut:1<=m-1:=by lia
 have h0:=ad1 (m:=m-1) (M:=M) Ut (show ps.length<=100 by lia);have Ym:(M++[MO.lst ((mp ps).map su)])[r]?=some (.dT (Bg Z)):=wj hr;have R:(M++[MO.lst ((mp ps).map su)])[M.length]?=some (.lst ((mp ps).map su)):=K5;generalize hM1:(M++[MO.lst ((mp ps).map su)])=M1 at h0 Ym R;have h1:=af3 (W:=PW (m-1)) (ρ:=[qD ps,D.ref r,D.ref M.length,none,none]) (i:=1) (j:=2) rfl rfl Ym R hn hx;have e0:(Ar.asg (.tg (.name 2)) (.call 8 (.o (.v 0)))).den (PW (m-1)) [some (qD ps),some (.ref r),none,none,none] M=.ok (.next,[some (qD ps),some (.ref r),some (.ref M.length),none,none]) M1:=by simp[h0]
 unfold P2
 by_cases c:ssB ps Z=true
 .rw[c] at h1
  have L:=Gr (W:=PW (m-1)) (M:=M1) (ρ:=[qD ps,D.ref r,D.ref M.length,none,none]) (t:=.names [3,4]) (b:=Cg) (it:=.val (.v 2)) (s:=.live M.length ((mp ps).map su).length) (ds:=(mp ps).map su) (fl:=.err 1) (λd=>!okF ps Z (toP d)) (fun ρ=>∃b3 b4,ρ=[some (qD ps),some (.ref r),some (.ref M.length),b3,b4]) (.inr ⟨1,rfl⟩) (by simp[srcOf,R]) rfl (λi _=>Vp R i) (Za R) ⟨none,none,rfl⟩ (λd hd ρ hE=>by
   obtain⟨b3,b4,rfl⟩:=hE;obtain⟨p,hp,rfl⟩:=cu.mp hd;obtain⟨i,j,rfl,hi,hj,Qk⟩:=Gs.mp hp;have hl:=Cz ((Qj c _).mpr hp);have e1:=Vl Ym ((i:Int),(j:Int));rw[hl] at e1;have e1:Aq (.ref r) (.tup [.int i,.int j]) M1=some (.int (gl Z ((i:Int),(j:Int)))):=e1;have e2:=aja (m:=m-1) (M:=M1) (ps:=ps) (w:=gl Z ((i:Int),(j:Int))) (a:=(at_ ps i).1) (b:=(at_ ps j).2) Ut;rw[<- abr] at e2;refine⟨_,rfl,?_⟩;cases e3:okF ps Z ((i:Int),(j:Int)) with
   |true =>
    rw[az (by simp[Mh,e3])];rw[e3] at e2;refine⟨.next,[some (qD ps),some (.ref r),some (.ref M.length),some (.int i),some (.int j)],?_,.inl rfl,_,_,rfl⟩;simp[Cg,e1,e2,Kd (Bl hi),Kd (Bl hj),G8,G9]
   |false =>
    rw[bf (by simp[Mh,e3])];rw[e3] at e2;refine⟨[some (qD ps),some (.ref r),some (.ref M.length),some (.int i),some (.int j)],?_⟩;simp[Cg,e1,e2,Kd (Bl hi),Kd (Bl hj),G8,G9])
  rw[any_map (mp ps) λp=>!okF ps Z p] at L;cases e:((mp ps).any λp=>!okF ps Z p) with
  |true =>
   rw[e,bf rfl] at L;obtain⟨G,L⟩:=L;exact⟨G,by simp only[Ce,Fp,j7,Jb,e0,h1,L,c,Sh,j9,K1,Ej,jo,Bool.and_false];rfl⟩
  |false =>
   rw[e,az (by simp)] at L;obtain⟨G,L,_⟩:=L;exact⟨G,by simp only[Ce,Fp,j7,Jb,e0,h1,L,c,Sh,j9,K1,Ej,jo];rfl⟩
 .rw[yw.mpr c] at h1 ⊢
  exact⟨[some (qD ps),some (.ref r),some (.ref M.length),none,none],by simp only[Ce,j7,Jb,e0,h1,Vg,j9,K1,Ej,qw,M8];rfl⟩
def Te{i j l:Nat}(h:P2 ps Z=true)(hi:i<ps.length)(hj:j<ps.length)(hl:l<ps.length)(Qk:(at_ ps i).2=(at_ ps j).1)(L:(at_ ps j).2=(at_ ps l).1) :
 (∃v,two Z (gl Z ((i:Int),(j:Int))) l=some v)/\(∃v,two Z i (gl Z ((j:Int),(l:Int)))=some v)/\-1<=gl Z ((i:Int),(j:Int))/\-1<=gl Z ((j:Int),(l:Int)):=by
 simp only[P2,ao,uv,List.any_eq_false,Bool.not_eq_false] at h;obtain⟨h1,h2⟩:=h;have key:∀{a b:Nat},a<ps.length->b<ps.length->(at_ ps a).2=(at_ ps b).1->gl Z ((a:Int),(b:Int))=-1\/∃w:Nat,gl Z ((a:Int),(b:Int))=w/\w<ps.length/\at_ ps w=((at_ ps a).1,(at_ ps b).2):=fun{a b} ha hb hab=>by
  have:=h2 _ (Gs.mpr ⟨a,b,rfl,ha,hb,hab⟩);rw[abr] at this;unfold W9 at this;split at this
  .rename_i z;exact .inl z
  .right
   simp only[uv,Bool.not_eq_false,bz] at this;obtain⟨z1,z2,z3⟩:=this;exact⟨_,by lia,by lia,at_of z3⟩
 have G:∀{a b:Nat},a<ps.length->b<ps.length->(at_ ps a).2=(at_ ps b).1->∃v,lk Z ((a:Int),(b:Int))=some v:=fun{a b} ha hb hab=>ig.mp ((Qj h1 _).mpr (Gs.mpr ⟨a,b,rfl,ha,hb,hab⟩))
 have g1:=key hi hj Qk;have g2:=key hj hl L;refine⟨?_,?_,?_,?_⟩
 .rcases g1 with g|⟨w,g,w1,w2⟩
  .exact⟨l,by simp[two,g]⟩
  .obtain⟨v,e⟩:=G w1 hl (by rw[w2];exact L)
   refine⟨v,?_⟩;have R:¬(w:Int)=-1:=by lia
   have n2:¬(l:Int)=-1:=by lia
   rw[g,two,az R,az n2,e]
 .have R:¬(i:Int)=-1:=by lia
  rcases g2 with g|⟨w,g,w1,w2⟩
  .exact⟨i,by rw[g,two,az R,bf rfl]⟩
  .obtain⟨v,e⟩:=G hi w1 (by rw[w2];exact Qk)
   refine⟨v,?_⟩;have n2:¬(w:Int)=-1:=by lia
   rw[g,two,az R,az n2,e]
 .rcases g1 with g|⟨w,g,w1,w2⟩<;>lia
 .rcases g2 with g|⟨w,g,w1,w2⟩<;>lia
def Vq(h:P2 ps Z=true):ssB ps Z=true:=by simp only[P2,ao] at h;exact h.1
def ad3(n:Nat)(q:Nat->Bool):(((List.range n).map λ(k:Nat)=>D.int (k:Int)).any λd=>q (toP (.tup [d,.int 0])).1.toNat)=(List.range n).any q:=by
 rw[yf]
 congr 1
def abt{i j l:Nat}(hm:1<=m)(h:P2 ps Z=true)(hi:i<ps.length)(hj:j<ps.length)(hl:l<ps.length)(Qk:(at_ ps i).2=(at_ ps j).1)(L:M[r]?=some (.dT (Bg Z))) :
 ∃b6 b7,wz.den (PW m) [some (qD ps),some (.ref r),a2,some (.int i),some (.int j),some (.int l),a6,a7] M=.ok (if Ms Z ((i:Int),(j:Int)) l=true then .err 1 else if(lk Z ((j:Int),(l:Int))).isSome=true then .next else .cont,[some (qD ps),some (.ref r),a2,some (.int i),some (.int j),some (.int l),b6,b7]) M:=by
 have G:=a0l L ((j:Int),(l:Int));have G:Lb M (.tup [.int j,.int l]) (.ref r)=_:=G
 by_cases c:(lk Z ((j:Int),(l:Int))).isSome=true
 .rw[c] at G
  have qq:(at_ ps j).2=(at_ ps l).1:=by obtain⟨a,b,e,_,_,h5⟩:=Gs.mp ((Qj (Vq h) _).mp c);simp only[Prod.mk.injEq,Int.ofNat_inj] at e;obtain⟨rfl,rfl⟩:=e;exact h5
  obtain⟨⟨v1,q1⟩,⟨v2,q2⟩,_,_⟩:=Te h hi hj hl Qk qq;have R:=Vl L ((i:Int),(j:Int));rw[Cz ((Qj (Vq h) _).mpr (Gs.mpr ⟨i,j,rfl,hi,hj,Qk⟩))] at R;have R:Aq (.ref r) (.tup [.int i,.int j]) M=some (.int (gl Z ((i:Int),(j:Int)))):=R;have f2:=Vl L ((j:Int),(l:Int));rw[Cz c] at f2;have f2:Aq (.ref r) (.tup [.int j,.int l]) M=some (.int (gl Z ((j:Int),(l:Int)))):=f2;have g1:=ad0 hm L q1;have g2:=ad0 hm L q2;refine⟨some (.int v1),some (.int v2),?_⟩
  by_cases c2:v1=v2
  .have:Ms Z ((i:Int),(j:Int)) l=false:=by simp[Ms,q1,q2,c2]
   rw[this];simp[wz,G,R,f2,g1,g2,c2,c]
  .have:Ms Z ((i:Int),(j:Int)) l=true:=by simp[Ms,q1,q2,c2,c]
   rw[this];simp[wz,G,R,f2,g1,g2,c2]
 .have c':=yw.mpr c
  rw[c'] at G;have:Ms Z ((i:Int),(j:Int)) l=false:=by simp[Ms,c']
  rw[this];exact⟨a6,a7,by simp[wz,G,c']⟩
def aou(hm:2<=m)(hn:ps.length<=5)(h:P2 ps xs=true)(hr:M[r]?=some (.dT (Bg xs))):Chk m 12 [qD ps,.ref r] M (M++[.lst ((mp ps).map su)]) (P3 ps xs):=by
 refine Xb (by lia) rfl rfl ?_;show ∃Z,Cy.den (PW (m-1)) [some (qD ps),some (.ref r),none,none,none,none,none,none] M=_;have Ut:1<=m-1:=by lia
 have h0:=ad1 (m:=m-1) (M:=M) Ut (show ps.length<=100 by lia);have Ym:(M++[MO.lst ((mp ps).map su)])[r]?=some (.dT (Bg xs)):=wj hr;have hq:(M++[MO.lst ((mp ps).map su)])[M.length]?=some (.lst ((mp ps).map su)):=K5;generalize hM1:(M++[MO.lst ((mp ps).map su)])=M1 at h0 Ym hq;have e0:(Ar.asg (.tg (.name 2)) (.call 8 (.o (.v 0)))).den (PW (m-1)) [some (qD ps),some (.ref r),none,none,none,none,none,none] M=.ok (.next,[some (qD ps),some (.ref r),some (.ref M.length),none,none,none,none,none]) M1:=by simp[h0]
 have h3:=Gr (W:=PW (m-1)) (M:=M1) (ρ:=[qD ps,D.ref r,D.ref M.length,none,none,none,none,none]) (t:=.names [3,4]) (b:=Ea) (it:=.val (.v 2)) (s:=.live M.length ((mp ps).map su).length) (ds:=(mp ps).map su) (fl:=.err 1) (λd=>(List.range ps.length).any λl=>Ms xs (toP d) l) (fun ρ=>∃b3 b4 R L G,ρ=[some (qD ps),some (.ref r),some (.ref M.length),b3,b4,R,L,G]) (.inr ⟨1,rfl⟩) (by simp[srcOf,hq]) rfl (λi _=>Vp hq i) (Za hq) ⟨_,_,_,_,_,rfl⟩ (λd hd ρ hE=>by
  obtain⟨b3,b4,R,L,G,rfl⟩:=hE;obtain⟨p,hp,rfl⟩:=cu.mp hd;obtain⟨i,j,rfl,hi,hj,Qk⟩:=Gs.mp hp;refine⟨_,rfl,?_⟩;have h4:=Gr (W:=PW (m-1)) (M:=M1) (ρ:=[qD ps,D.ref r,D.ref M.length,D.int i,D.int j,R,L,G]) (t:=.name 5) (b:=wz) (it:=.Mq (.l (.v 0))) (s:=.con ((List.range ps.length).map λ(k:Nat)=>D.int (k:Int))) (ds:=(List.range ps.length).map λ(k:Nat)=>D.int (k:Int)) (fl:=.err 1) (λd=>Ms xs ((i:Int),(j:Int)) (toP (.tup [d,.int 0])).1.toNat) (fun ρ=>∃R L G,ρ=[some (qD ps),some (.ref r),some (.ref M.length),some (.int i),some (.int j),R,L,G]) (.inr ⟨1,rfl⟩) (by
   have:(ps.length:Int).natAbs<=100000:=by lia
   simp[Ln];lia) rfl (λi _=>rfl) rfl ⟨_,_,_,rfl⟩ (λd hd ρ hE=>by
   obtain⟨R,L,G,rfl⟩:=hE;obtain⟨l,hl,rfl⟩:=cu.mp hd;have hl:=lg.mp hl;refine⟨_,rfl,?_⟩;obtain⟨c6,c7,e⟩:=abt (m:=m-1) (a2:=some (.ref M.length)) (a6:=L) (a7:=G) Ut h hi hj hl Qk Ym;have t:(toP (.tup [.int (l:Int),.int 0])).1.toNat=l:=rfl;rw[t];cases e5:Ms xs ((i:Int),(j:Int)) l with
   |true=>rw[bf rfl];rw[e5,bf rfl] at e;exact⟨_,e⟩
   |false =>
    rw[az (by simp)];rw[e5,az (by simp)] at e;refine⟨_,_,e,?_,_,_,_,rfl⟩;split
    .exact .inl rfl
    .exact .inr rfl)
  rw[ad3 ps.length λl=>Ms xs ((i:Int),(j:Int)) l] at h4;have tp:toP (su ((i:Int),(j:Int)))=((i:Int),(j:Int)):=rfl;rw[tp];have sh:∀{fl Z},(Ar.for_ (.name 5) (.Mq (.l (.v 0))) wz).den (PW (m-1)) [some (qD ps),some (.ref r),some (.ref M.length),some (.int i),some (.int j),R,L,G] M1=.ok (fl,Z) M1->(fl=.next\/fl=.err 1)->Ea.den (PW (m-1)) [some (qD ps),some (.ref r),some (.ref M.length),some (.int i),some (.int j),R,L,G] M1=.ok (fl,Z) M1:=fun{fl Z} e hf=>by show Wq (PW (m-1)) .nil ((Ar.for_ (.name 5) (.Mq (.l (.v 0))) wz).den (PW (m-1)) [some (qD ps),some (.ref r),some (.ref M.length),some (.int i),some (.int j),R,L,G] M1)=_;rw[e];rcases hf with rfl|rfl<;>rfl
  cases e6:((List.range ps.length).any λl=>Ms xs ((i:Int),(j:Int)) l) with
  |true =>
   rw[e6,bf rfl] at h4;obtain⟨Z,h4⟩:=h4;rw[bf rfl];exact⟨Z,sh h4 (.inr rfl)⟩
  |false =>
   rw[e6,az (by simp)] at h4;obtain⟨Z,h4,R,L,G,rfl⟩:=h4;rw[az (by simp)];exact⟨.next,_,sh h4 (.inl rfl),.inl rfl,_,_,_,_,_,rfl⟩)
 rw[any_map (mp ps) λp=>(List.range ps.length).any λl=>Ms xs p l] at h3;unfold P3;cases e:((mp ps).any λp=>(List.range ps.length).any λl=>Ms xs p l) with
 |true =>
  rw[e,bf rfl] at h3;obtain⟨Z,h3⟩:=h3;exact⟨Z,by simp only[Cy,Eb,j7,e0,h3,j9,K1,jo];rfl⟩
 |false =>
  rw[e,az (by simp)] at h3;obtain⟨Z,h3,_⟩:=h3;exact⟨Z,by simp only[Cy,Eb,j7,e0,h3,j9,Ej,qw];rfl⟩
def PG(K:Int)(Z:List Pr)(G:List (Pr×Int)):Bool:=P1 K Z&&(P2 Z G&&P3 Z G)
def Small(Z:List (Pr×Int)):Prop:=∀e∈Z,(-1<=e.1.1/\e.1.1<9)/\-1<=e.1.2/\e.1.2<9
def asm(h:Small L):abf (Bg L)=true:=by unfold abf;rw[ji];intro p Z;obtain⟨e,G,rfl⟩:=cu.mp Z;have:=h e G;simp[kK,this]
def Xc{b:Bool}{es:Cu}(Z:es.den (PW m) ρ M=.ok ds M)(h:Chk m f ds M M' b):(Ar.exq f es).den (PW m) ρ M=.ok (if b=true then .next else .err 1,ρ) M':=by
 unfold Chk at h;rw[aif,Z];cases b with
 |true=>rw[bf rfl] at h;simp only[Res.yl,h.1,h.2];rfl|false=>rw[az (by simp)] at h;simp only[Res.yl,h];rfl
def aov{n:Nat}(hm:3<=m)(hx:Z.length<=30)(hs:Small Z)(hr:M[r]?=some (.dT (Bg Z)))(qv:r≠n)(qk:M[n]?=some (.ins 0 [])) :
 ∃M',Chk m 6 [.ref n,.int K,qD ps,.ref r] M M' (PG K ps Z)/\∀(a:Nat)(o:MO),a≠n->M[a]?=some o->M'[a]?=some o:=by
 have m1:1<=m-1:=by lia
 have m2:2<=m-1:=by lia
 have keep:∀(X:dh)(a:Nat)(o:MO),a≠n->M[a]?=some o->(M++X)[a]?=some o:=λX a o _ h=>wj h
 have go:∀{b:Bool}{M':dh},(∃qq,Ae.den (PW (m-1)) [some (.ref n),some (.int K),some (qD ps),some (.ref r)] M=.ok (if b=true then .next else .err 1,qq) M')->Chk m 6 [.ref n,.int K,qD ps,.ref r] M M' b:=λh=>Xb (by lia) rfl rfl h
 unfold PG;have G:=Xc (m:=m-1) (ρ:=[D.ref n,D.int K,qD ps,D.ref r]) (es:=.p (.v 1) (.v 2)) (by rfl) (aos (M:=M) (K:=K) (ps:=ps) m1);cases c1:P1 K ps with
 |false =>
  rw[c1] at G;exact⟨M,go ⟨_,by simp only[Ae,j7,G];rfl⟩,λa o _ h=>h⟩
 |true =>
  rw[c1] at G;have hn:ps.length<=5:=by simp only[P1,ao,bz] at c1;exact c1.1.2
  have R:=Xc (m:=m-1) (ρ:=[D.ref n,D.int K,qD ps,D.ref r]) (es:=.p (.v 2) (.v 3)) (by rfl) (aot m2 hn hx hr);cases c2:P2 ps Z with
  |false =>
   rw[c2] at R;exact⟨_,go ⟨_,by simp only[Ae,j7,G,R,j6,j9];rfl⟩,keep _⟩
  |true =>
   rw[c2] at R;have L:=Xc (m:=m-1) (ρ:=[D.ref n,D.int K,qD ps,D.ref r]) (es:=.p (.v 2) (.v 3)) (by rfl) (aou m2 hn c2 (wj (X:=[.lst ((mp ps).map su)]) hr));cases c3:P3 ps Z with
   |false =>
    rw[c3] at L;exact⟨_,go ⟨_,by simp only[Ae,j7,G,R,L,j6,j9];rfl⟩,λa o _ h=>wj (wj h)⟩
   |true =>
    rw[c3] at L;have k1:(M++[MO.lst ((mp ps).map su)]++[MO.lst ((mp ps).map su)])[n]?=some (.ins 0 []):=wj (wj qk);have k2:(M++[MO.lst ((mp ps).map su)]++[MO.lst ((mp ps).map su)])[r]?=some (.dT (Bg Z)):=wj (wj hr);have kp:∀(a:Nat)(o:MO),a≠n->M[a]?=some o->(M++[MO.lst ((mp ps).map su)]++[MO.lst ((mp ps).map su)])[a]?=some o:=λa o _ h=>wj (wj h)
    generalize hM2:(M++[MO.lst ((mp ps).map su)]++[MO.lst ((mp ps).map su)])=M2 at L k1 k2 kp;have s1:Mz (.ref n) 2 (.int K) M2=some (M2.set n (.ins 0 [(2,.int K)])):=by simp[Mz,k1,Qd]
    have k3:(M2.set n (.ins 0 [(2,.int K)]))[n]?=some (.ins 0 [(2,.int K)]):=zm k1;have s2:Mz (.ref n) 1 (qD ps) (M2.set n (.ins 0 [(2,.int K)]))=some (M2.set n (.ins 0 [(2,.int K),(1,qD ps)])):=by simp[Mz,k3,Qd]
    have k4:(M2.set n (.ins 0 [(2,.int K),(1,qD ps)]))[n]?=some (.ins 0 [(2,.int K),(1,qD ps)]):=zm k1;have k5:(M2.set n (.ins 0 [(2,.int K),(1,qD ps)]))[r]?=some (.dT (Bg Z)):=by rw[Bf (j5 qv)];exact k2
    have s3:v5 .dict [.ref r] (M2.set n (.ins 0 [(2,.int K),(1,qD ps)]))=.ok (.ref M2.length) (M2.set n (.ins 0 [(2,.int K),(1,qD ps)])++[MO.dT (Bg Z)]):=by simp[v5,k5,asm hs,MW.new]
    have k6:(M2.set n (.ins 0 [(2,.int K),(1,qD ps)])++[MO.dT (Bg Z)])[n]?=some (.ins 0 [(2,.int K),(1,qD ps)]):=wj k4;have s4:Mz (.ref n) 0 (.ref M2.length) (M2.set n (.ins 0 [(2,.int K),(1,qD ps)])++[MO.dT (Bg Z)])=some ((M2.set n (.ins 0 [(2,.int K),(1,qD ps)])++[MO.dT (Bg Z)]).set n (.ins 0 [(2,.int K),(1,qD ps),(0,.ref M2.length)])):=by simp[Mz,k6,Qd]
    refine⟨(M2.set n (.ins 0 [(2,.int K),(1,qD ps)])++[MO.dT (Bg Z)]).set n (.ins 0 [(2,.int K),(1,qD ps),(0,.ref M2.length)]),go ⟨[some (.ref n),some (.int K),some (qD ps),some (.ref r)],?_⟩,λa o na h=>?_⟩
    .simp only[Ae,j7,G,R,L,j6,j9,Bool.and_self]
     simp only[j7,Ou,auc,Wl,abg,aub,Wn,Ay,Et,adl,Res.yl,s1,s2,s3,s4,Res.Cm,j9,Ej]
    .rw[Bf (j5 na)]
     refine wj ?_;rw[Bf (j5 na)];exact kp a o na h
theorem Mi(Z:List Pr)(i:Nat):∀k,(Vm Z i k).Pairwise Ox
 |0=>by simp[Vm]
 |k+1=>by
  rw[Y8];split
  .rw[List.pairwise_append]
   refine⟨Mi Z i k,by simp,λp G q L=>?_⟩;rw[o5] at L;subst L;simp only[Vm,cu,uy,lg] at G;obtain⟨j,⟨R,_⟩,rfl⟩:=G;unfold Ox;simp;exact R
  .exact Mi Z i k
theorem Tf(Z:List Pr):∀k,(mpN Z k).Pairwise Ox
 |0=>by simp[mpN]
 |k+1=>by
  rw[Ni,List.pairwise_append];refine⟨Tf Z k,Mi Z k _,λp G q L=>?_⟩;simp only[mpN,Vm,List.mem_flatMap,cu,uy,lg] at G L;obtain⟨i,R,j,_,rfl⟩:=G;obtain⟨j',_,rfl⟩:=L;unfold Ox;left;simp;exact R
def aow(Z:(xs.map (·.1)).Nodup):decide (Cv (xs.map (·.1))=mp ps)=ssB ps xs:=by
 have:Cv (xs.map (·.1))=mp ps↔ssB ps xs=true:=by
  rw[ajc];constructor
  .intro h p
   rw[<- h,Hq]
  .intro h
   exact Oz (Js _ Z) (Tf ps _) λp=>by rw[Hq,h p]
 cases e:ssB ps xs with
 |true=>exact jf (this.mpr e)|false=>exact dz λz=>by rw[this.mp z] at e;cases e
theorem Xd(M:dh):∀l m:List Pr,My (Jk M 5) (l.map su) (m.map su)=some (decide (l=m))
 |[],[]=>rfl|[],b::m=>rfl|a::l,[]=>rfl
 |a::l,b::m=>by
  have h:Jk M 5 (su a) (su b)=some (decide (a=b)):=by show My (Jk M 4) [.int a.1,.int a.2] [.int b.1,.int b.2]=_;simp[My,Wr,Prod.ext_iff]
  rw[du,du,Jq h (Xd M l m)]
  by_cases c:a=b<;>simp[c]
def abu(M:dh)(l m:List Pr):Ak M (.vl (l.map su)) (.vl (m.map su))=some (decide (l=m)):=by
 show(if(l.map su).length=(m.map su).length then My (Jk M 5) (l.map su) (m.map su) else some false)=_;rw[dw,dw]
 by_cases h:l.length=m.length
 .rw[bf h,Xd]
 .rw[az h,dz λe=>h (by rw[e])]
def a8m(M:dh)(l m:List Pr):Ak M (qD l) (qD m)=some (decide (l=m)):=Xd M l m
def Th(L:M[r]?=some (.dT (Bg Z)))(G:(Z.map (·.1)).Nodup)(R:Z.length<=30):v5 .sorted [.ref r] M=.ok (.vl ((Cv (Z.map (·.1))).map su)) M:=by
 have h:Z.length<31:=by lia
 simp[v5,L,W8,G,h]
def Ti(G:it.den W R M=.ok (.tup ds) M1)(L:ds.length<=100000)
 (h:∀x∈ds,∃Z,t.put x (R++List.replicate k none)=some Z/\c.den W Z M1=.ok (.bl (q x)) M1/\(q x=true->e.den W Z M1=.ok (g x) M1)) :
 (Ex.Ca v k t (.val it) c e).den W R M=if v then .ok (.vl ((ds.filter q).map g)) M1 else new (.lst ((ds.filter q).map g)) M1:=by
 rw[Qe,Rf,G];simp only[Res.yl,srcOf,Res.Cm];rw[Su (ds:=ds) (g:=λx=>if q x then some (g x) else none) L (λx hx=>by
  obtain⟨Z,a,b,c⟩:=h x hx;rw[a,Res.Cm,Res.yl,b,Res.yl];cases e:q x with
  | true=>simp[c e]|false=>simp)]
 have:ds.filterMap (λx=>if q x then some (g x) else none)=(ds.filter q).map g:=by
  clear h L G
  induction ds with
  |nil=>rfl|cons a l ih=>by_cases e:q a=true<;>simp[e,ih]
 rw[this];rfl
def a0o(p:Pr)(K:Int)(M:dh):∃a b:Int,v5 .min [su p] M=.ok (.int a) M/\v5 .max [su p] M=.ok (.int b) M/\a<=b/\(decide ((0<=p.1/\p.1<K)/\0<=p.2/\p.2<K)=decide (0<=a/\b<K)) :=
 ⟨if p.2<p.1 then p.2 else p.1,if p.1<p.2 then p.2 else p.1,rfl,rfl,by split<;>split<;>lia,decide_eq_decide.mpr (by split<;>split<;>lia)⟩
def ajd(h:Z[0]?=some (some (.int K)))(h9:Z[9]?=some (some (su p))):(Ex.not (.Hx .le .le .lt (.i 0) (.blt .min (.o (.v 9))) (.blt .max (.o (.v 9))) (.v 0))).den W Z M=.ok (.bl (!Vn K p)) M:=by
 obtain⟨a,b,R,G,e3,L⟩:=a0o p K M;rw[Vn,L]
 by_cases c:0<=a<;>simp[h,h9,R,G,e3,c]
def aox{Z:List Pr}(R:Z.length<=100):Ep.den W [D.int K,qD Z,a2,a3,a4,a5,a6,a7,a8] M=.ok (.vl ((Z.filter λe=>!Vn K e).map su)) M:=by
 unfold Ep;rw[Ti (ds:=Z.map su) (M1:=M) (q:=λd=>!Vn K (toP d)) (g:=λd=>d) rfl (by rw[dw];lia) (λx G=>by
  obtain⟨p,L,rfl⟩:=cu.mp G;exact⟨_,rfl,ajd (p:=p) rfl rfl,λ_=>rfl⟩)]
 rw[bf rfl,List.map_id',List.filter_map];rfl
def aje{Z:List Pr}{i:Nat}{l:List Pr}(hn:Z.length<=100)(hi:i<Z.length)(hl:l.length<=10000):Eo.den W [R,qD Z,a2,D.vl (l.map su),D.int i,a5,L,G,a8] M=.ok (.next,[R,some (qD Z),a2,some (.vl ((l++Vm Z i Z.length).map su)),some (.int i),a5,L,G,a8]) M:=by
 have h:Hf.den W [R,qD Z,a2,D.vl (l.map su),D.int i,a5,L,G,a8] M=.ok (.vl ((Vm Z i Z.length).map su)) M:=by unfold Hf;rw[Jt (n:=Z.length) (M1:=M) (q:=λj=>decide ((at_ Z i).2=(at_ Z j).1)) (g:=λj=>su ((i:Int),(j:Int))) (by simp[Ln]) (by lia) (λj hj=>⟨_,rfl,by simp[Kd (Bl hi),Kd (Bl hj),G8,G9],λ_=>by simp[su]⟩)];rw[bf rfl,Vm,tu];rfl
 have hb:=Xa Z i Z.length;have e:=K3 (M:=M) (l.map su) ((Vm Z i Z.length).map su) (by rw[dw,dw];lia);rw[oh];simp[Eo,h,e]
def au0{Z:List Pr}(hn:Z.length<=5):∃G,Li.den W [a0,qD Z,a2,D.vl [],a4,a5,a6,a7,a8] M=.ok (.next,[a0,some (qD Z),a2,some (.vl ((mp Z).map su)),G,a5,a6,a7,a8]) M:=by
 obtain⟨qq,L,e,G,rfl,rfl⟩:=Gz (W:=W) (t:=.name 4) (b:=Eo) (it:=.l (.v 1)) (n:=Z.length) (ρ:=[a0,qD Z,a2,D.vl [],a4,a5,a6,a7,a8]) (M:=M) (M1:=M) (by simp[Ln]) (by lia)
  (λi R L=>∃G,R=[a0,some (qD Z),a2,some (.vl ((mpN Z i).map su)),G,a5,a6,a7,a8]/\L=M) ⟨a4,rfl,rfl⟩
  (λi R L hi hI=>by
   obtain⟨G,rfl,rfl⟩:=hI;have h1:=Rj Z i;have h3:i*Z.length<=5*5:=Nat.mul_le_mul (by lia) hn
   exact⟨_,.next,_,_,rfl,aje (by lia) hi (by lia),.inl rfl,some (.int i),by rw[Ni],rfl⟩)
 exact⟨G,e⟩
def ajf{i j:Nat}(h:ssB ps Z=true)(G:i<ps.length)(hj:j<ps.length)(R:(at_ ps i).2=(at_ ps j).1):two Z i j=some (gl Z ((i:Int),(j:Int))):=by
 have n1:¬(i:Int)=-1:=by lia
 have L:¬(j:Int)=-1:=by lia
 rw[two,az n1,az L,Cz ((Qj h _).mpr (Gs.mpr ⟨i,j,rfl,G,hj,R⟩))]
def Zb{i j l:Nat}(hm:1<=m)(h:P2 ps Z=true)(hi:i<ps.length)(G:j<ps.length)(L:l<ps.length)(Qk:(at_ ps i).2=(at_ ps j).1)(hr:M[r]?=some (.dT (Bg Z))) :
 ∃b8,Ab.den (PW m) [a0,some (qD ps),some (.ref r),a3,some (.int i),a5,some (.int j),some (.int l),a8] M=.ok (if Ms Z ((i:Int),(j:Int)) l=true then .ret (.bl false) else .next,[a0,some (qD ps),some (.ref r),a3,some (.int i),a5,some (.int j),some (.int l),b8]) M:=by
 by_cases c:(at_ ps j).2=(at_ ps l).1
 .have hs:(lk Z ((j:Int),(l:Int))).isSome=true:=(Qj (Vq h) _).mpr (Gs.mpr ⟨j,l,rfl,G,L,c⟩)
  obtain⟨⟨v1,q1⟩,⟨v2,q2⟩,w1,w2⟩:=Te h hi G L Qk c;have f1:=Ri hm hr (ajf (Vq h) hi G Qk) (by lia) (by lia);have f2:=Ri hm hr (ajf (Vq h) G L c) (by lia) (by lia);have g1:=Ri hm hr q1 w1 (by lia);have g2:=Ri hm hr q2 (by lia) w2;refine⟨some (.int v1),?_⟩
  by_cases R:v1=v2
  .have:Ms Z ((i:Int),(j:Int)) l=false:=by simp[Ms,q1,q2,R]
   rw[this];simp[Ab,Kd (Bl G),Kd (Bl L),G8,G9,c,f1,f2,g1,g2,R]
  .have:Ms Z ((i:Int),(j:Int)) l=true:=by simp[Ms,q1,q2,R,hs]
   rw[this];simp[Ab,Kd (Bl G),Kd (Bl L),G8,G9,c,f1,f2,g1,g2,R]
 .have hs:(lk Z ((j:Int),(l:Int))).isSome=false:=by
   rw[yw];intro z;obtain⟨a,b,e,_,_,h5⟩:=Gs.mp ((Qj (Vq h) _).mp z);simp only[Prod.mk.injEq,Int.ofNat_inj] at e;obtain⟨rfl,rfl⟩:=e;exact c h5
  have:Ms Z ((i:Int),(j:Int)) l=false:=by simp[Ms,hs]
  rw[this];exact⟨a8,by simp[Ab,Kd (Bl G),Kd (Bl L),G8,G9,c]⟩
def af4(hm:1<=m)(h:ssB ps G=true)(hr:M[r]?=some (.dT (Bg G))) :
 if((mp ps).any λp=>!okF ps G p)=true then ∃Z,Em.den (PW m) [a0,some (qD ps),some (.ref r),some (.vl ((mp ps).map su)),a4,a5,a6,a7,a8] M=.ok (.ret (.bl false),Z) M
 else ∃Z,Em.den (PW m) [a0,some (qD ps),some (.ref r),some (.vl ((mp ps).map su)),a4,a5,a6,a7,a8] M=.ok (.next,Z) M/\∃R,Z=[a0,some (qD ps),some (.ref r),some (.vl ((mp ps).map su)),a4,R,a6,a7,a8]:=by
 have h3:=Gr (W:=PW m) (M:=M) (ρ:=[a0,qD ps,D.ref r,D.vl ((mp ps).map su),a4,a5,a6,a7,a8]) (t:=.name 5) (b:=El) (it:=.val (.v 3)) (s:=.con ((mp ps).map su)) (ds:=(mp ps).map su) (fl:=.ret (.bl false)) (λd=>!okF ps G (toP d)) (fun ρ=>∃R,ρ=[a0,some (qD ps),some (.ref r),some (.vl ((mp ps).map su)),a4,R,a6,a7,a8]) (.inl ⟨_,rfl⟩) rfl rfl (λ_ _=>rfl) rfl ⟨_,rfl⟩ (λd hd ρ hE=>by
  obtain⟨R,rfl⟩:=hE;obtain⟨p,hp,rfl⟩:=cu.mp hd;obtain⟨i,j,rfl,hi,hj,Qk⟩:=Gs.mp hp;have e1:=Vl hr ((i:Int),(j:Int));rw[Cz ((Qj h _).mpr hp)] at e1;have L:=aoq (m:=m) (M:=M) (w:=gl G ((i:Int),(j:Int))) hm (Bl hi) (Bl hj);rw[<- abr] at L;refine⟨_,rfl,?_⟩;cases e3:okF ps G ((i:Int),(j:Int)) with
  |true =>
   rw[az (by simp[Mh,e3])];rw[e3] at L;refine⟨.next,[a0,some (qD ps),some (.ref r),some (.vl ((mp ps).map su)),a4,some (su ((i:Int),(j:Int))),a6,a7,a8],?_,.inl rfl,_,rfl⟩;simp[El,e1,L]
  |false =>
   rw[bf (by simp[Mh,e3])];rw[e3] at L;refine⟨[a0,some (qD ps),some (.ref r),some (.vl ((mp ps).map su)),a4,some (su ((i:Int),(j:Int))),a6,a7,a8],?_⟩;simp[El,e1,L])
 rw[any_map (mp ps) λp=>!okF ps G p] at h3;exact h3
def Zc(hm:1<=m)(hn:ps.length<=5)(h:P2 ps xs=true)(hr:M[r]?=some (.dT (Bg xs))) :
 if((mp ps).any λp=>(List.range ps.length).any λl=>Ms xs p l)=true then ∃Z,Ek.den (PW m) [a0,some (qD ps),some (.ref r),some (.vl ((mp ps).map su)),a4,a5,a6,a7,a8] M=.ok (.ret (.bl false),Z) M
 else ∃Z,Ek.den (PW m) [a0,some (qD ps),some (.ref r),some (.vl ((mp ps).map su)),a4,a5,a6,a7,a8] M=.ok (.next,Z) M/\True:=by
 have h3:=Gr (W:=PW m) (M:=M) (ρ:=[a0,qD ps,D.ref r,D.vl ((mp ps).map su),a4,a5,a6,a7,a8]) (t:=.names [4,6]) (b:=Hd) (it:=.val (.v 3)) (s:=.con ((mp ps).map su)) (ds:=(mp ps).map su) (fl:=.ret (.bl false)) (λd=>(List.range ps.length).any λl=>Ms xs (toP d) l) (fun ρ=>∃b4 b6 L G,ρ=[a0,some (qD ps),some (.ref r),some (.vl ((mp ps).map su)),b4,a5,b6,L,G]) (.inl ⟨_,rfl⟩) rfl rfl (λ_ _=>rfl) rfl ⟨_,_,_,_,rfl⟩ (λd hd ρ hE=>by
  obtain⟨b4,b6,L,G,rfl⟩:=hE;obtain⟨p,hp,rfl⟩:=cu.mp hd;obtain⟨i,j,rfl,hi,hj,Qk⟩:=Gs.mp hp;refine⟨_,rfl,?_⟩;have R:=Gr (W:=PW m) (M:=M) (ρ:=[a0,qD ps,D.ref r,D.vl ((mp ps).map su),D.int i,a5,D.int j,L,G]) (t:=.name 7) (b:=Ab) (it:=.Mq (.l (.v 1))) (s:=.con ((List.range ps.length).map λ(k:Nat)=>D.int (k:Int))) (ds:=(List.range ps.length).map λ(k:Nat)=>D.int (k:Int)) (fl:=.ret (.bl false)) (λd=>Ms xs ((i:Int),(j:Int)) (toP (.tup [d,.int 0])).1.toNat) (fun ρ=>∃L G,ρ=[a0,some (qD ps),some (.ref r),some (.vl ((mp ps).map su)),some (.int i),a5,some (.int j),L,G]) (.inl ⟨_,rfl⟩) (by
   have:(ps.length:Int).natAbs<=100000:=by lia
   simp[Ln];lia) rfl (λi _=>rfl) rfl ⟨_,_,rfl⟩ (λd hd ρ hE=>by
   obtain⟨L,G,rfl⟩:=hE;obtain⟨l,hl,rfl⟩:=cu.mp hd;have hl:=lg.mp hl;refine⟨_,rfl,?_⟩;obtain⟨c8,e⟩:=Zb (m:=m) (a0:=a0) (a3:=some (.vl ((mp ps).map su))) (a5:=a5) (a8:=G) hm h hi hj hl Qk hr;have t:(toP (.tup [.int (l:Int),.int 0])).1.toNat=l:=rfl;rw[t];cases e5:Ms xs ((i:Int),(j:Int)) l with
   |true=>rw[bf rfl];rw[e5,bf rfl] at e;exact⟨_,e⟩
   |false =>
    rw[az (by simp)];rw[e5,az (by simp)] at e;exact⟨_,_,e,.inl rfl,_,_,rfl⟩)
  rw[ad3 ps.length λl=>Ms xs ((i:Int),(j:Int)) l] at R;have tp:toP (su ((i:Int),(j:Int)))=((i:Int),(j:Int)):=rfl;rw[tp];have sh:∀{fl Z},(Ar.for_ (.name 7) (.Mq (.l (.v 1))) Ab).den (PW m) [a0,some (qD ps),some (.ref r),some (.vl ((mp ps).map su)),some (.int i),a5,some (.int j),L,G] M=.ok (fl,Z) M->(fl=.next\/fl=.ret (.bl false))->Hd.den (PW m) [a0,some (qD ps),some (.ref r),some (.vl ((mp ps).map su)),some (.int i),a5,some (.int j),L,G] M=.ok (fl,Z) M:=fun{fl Z} e hf=>by show Wq (PW m) .nil ((Ar.for_ (.name 7) (.Mq (.l (.v 1))) Ab).den (PW m) [a0,some (qD ps),some (.ref r),some (.vl ((mp ps).map su)),some (.int i),a5,some (.int j),L,G] M)=_;rw[e];rcases hf with rfl|rfl<;>rfl
  cases e6:((List.range ps.length).any λl=>Ms xs ((i:Int),(j:Int)) l) with
  |true =>
   rw[e6,bf rfl] at R;obtain⟨Z,R⟩:=R;rw[bf rfl];exact⟨Z,sh R (.inr rfl)⟩
  |false =>
   rw[e6,az (by simp)] at R;obtain⟨Z,R,L,G,rfl⟩:=R;rw[az (by simp)];exact⟨.next,_,sh R (.inl rfl),.inl rfl,_,_,_,_,rfl⟩)
 rw[any_map (mp ps) λp=>(List.range ps.length).any λl=>Ms xs p l] at h3;split
 .rename_i c
  rw[bf c] at h3;exact h3
 .rename_i c
  rw[az c] at h3;obtain⟨Z,e,_⟩:=h3;exact⟨Z,e,trivial⟩
def aoy(hm:2<=m)(hn:ps.length<=100)(hx:Z.length<=30)(nd:(Z.map (·.1)).Nodup)(hr:M[r]?=some (.dT (Bg Z))):prog.call m 15 [.int K,qD ps,.ref r] M=.ok (.bl (PG K ps Z)) M:=by
 rw[call_of (by lia) rfl];have Ut:1<=m-1:=by lia
 have go:∀{b:Bool}{ρ':Env},Bd.den (PW (m-1)) [some (.int K),some (qD ps),some (.ref r),none,none,none,none,none,none] M=.ok (.ret (.bl b),ρ') M->Qg.run (PW (m-1)) [.int K,qD ps,.ref r] M=.ok (.bl b) M:=fun{b ρ'} e=>by show(Bd.den (PW (m-1)) [some (.int K),some (qD ps),some (.ref r),none,none,none,none,none,none] M).bind _=_;rw[e];rfl
 have h1:=Vo (W:=PW (m-1)) (M:=M) (ρ:=[D.int K,qD ps,D.ref r,none,none,none,none,none,none]) (i:=0) rfl;have h2:=ad2 (W:=PW (m-1)) (M:=M) (ρ:=[D.int K,qD ps,D.ref r,none,none,none,none,none,none]) (i:=1) rfl;have h3:=aox (W:=PW (m-1)) (M:=M) (K:=K) (a2:=some (.ref r)) (a3:=none) (a4:=none) (a5:=none) (a6:=none) (a7:=none) (a8:=none) hn;have h4:=abu M (ps.filter λe=>!Vn K e) [];have e3:decide ((ps.filter λe=>!Vn K e)=[])=!(ps.any λe=>!Vn K e):=by
  cases e:(ps.any λe=>!Vn K e) with
  |true =>
   obtain⟨p,hp,c⟩:=List.any_eq_true.mp e;exact dz λz=>by have:p∈(ps.filter λe=>!Vn K e):=uy.mpr ⟨hp,c⟩;rw[z] at this;cases this
  |false=>exact jf (List.filter_eq_nil_iff.mpr λp hp=>by simpa using List.any_eq_false.mp e p hp)
 rw[e3] at h4;have h5:=Th (M:=M) hr nd hx;have h6:=abu M (Cv (Z.map (·.1))) (mp ps);rw[aow nd] at h6;unfold PG P1
 by_cases c1:1<=K/\K<=3
 .rw[jf c1] at h1
  by_cases c2:ps.length<=5
  .have R:¬5<ps.length:=by lia
   rw[dz R] at h2;rw[jf c1,jf c2];have w1:(Ar.iff (.or (.not (.chain .le .le (.i 1) (.v 0) (.i 3))) (.cmp .gt (.l (.v 1)) (.i 5))) (.o (.ret (.cst (.bl false)))) .nil).den (PW (m-1)) [some (.int K),some (qD ps),some (.ref r),none,none,none,none,none,none] M=.ok (.next,[some (.int K),some (qD ps),some (.ref r),none,none,none,none,none,none]) M:=by simp only[Jb,aii,Fw,h1,h2,Res.yl,jo,Sh,Ej]
   have w2:(Ar.iff (.cmp .ne Ep (.Dg .nil)) (.o (.ret (.cst (.bl false)))) .nil).den (PW (m-1)) [some (.int K),some (qD ps),some (.ref r),none,none,none,none,none,none] M=.ok (if(ps.any λe=>!Vn K e)=true then .ret (.bl false) else .next,[some (.int K),some (qD ps),some (.ref r),none,none,none,none,none,none]) M:=by have h4:Ak M (.vl ((ps.filter λe=>!Vn K e).map su)) (.vl [])=_:=h4;cases e:(ps.any λe=>!Vn K e)<;>simp[-List.map_eq_nil_iff,h3,h4,e]
   cases c3:(ps.any λe=>!Vn K e) with
   |true =>
    rw[c3,bf rfl] at w2;exact go (b:=false) (by
     simp only[Bd];rw[j7,w1,j9,j7,w2];rfl)
   |false =>
    rw[c3,az (by simp)] at w2;obtain⟨b4,w3⟩:=au0 (W:=PW (m-1)) (M:=M) (a0:=some (.int K)) (a2:=some (.ref r)) (a4:=none) (a5:=none) (a6:=none) (a7:=none) (a8:=none) c2;have w4:(Ar.iff (.cmp .ne (.blt .sorted (.o (.v 2))) (.v 3)) (.o (.ret (.cst (.bl false)))) .nil).den (PW (m-1)) [some (.int K),some (qD ps),some (.ref r),some (.vl ((mp ps).map su)),b4,none,none,none,none] M=.ok (if ssB ps Z=true then .next else .ret (.bl false),[some (.int K),some (qD ps),some (.ref r),some (.vl ((mp ps).map su)),b4,none,none,none,none]) M:=by cases e:ssB ps Z<;>simp[h5,h6,e]
    have w0:∀X,Bd.den (PW (m-1)) [some (.int K),some (qD ps),some (.ref r),none,none,none,none,none,none] M=X↔(qm.c (.f (.cmp .ne (.blt .sorted (.o (.v 2))) (.v 3)) (.o (.ret (.cst (.bl false))))) (.q Em Ek (.ret (.cst (.bl true))))).den (PW (m-1)) [some (.int K),some (qD ps),some (.ref r),some (.vl ((mp ps).map su)),b4,none,none,none,none] M=X:=λX=>by simp only[Bd];rw[j7,w1,j9,j7,w2,j9,j7];rw[show(Ar.a 3 (.Dg .z)).den (PW (m-1)) [some (.int K),some (qD ps),some (.ref r),none,none,none,none,none,none] M=.ok (.next,[some (.int K),some (qD ps),some (.ref r),some (.vl []),none,none,none,none,none]) M from rfl,j9,j7,w3,j9]
    cases c4:ssB ps Z with
    |false =>
     rw[c4,az (by simp)] at w4;have z:P2 ps Z=false:=by simp[P2,c4]
     rw[z];exact go (b:=false) ((w0 _).mpr (by rw[j7,w4];rfl))
    |true =>
     rw[c4,bf rfl] at w4;have G:=af4 (m:=m-1) (a0:=some (.int K)) (a4:=b4) (a5:=none) (a6:=none) (a7:=none) (a8:=none) Ut c4 hr;cases c5:((mp ps).any λp=>!okF ps Z p) with
     |true =>
      rw[c5,bf rfl] at G;obtain⟨ρ',G⟩:=G;have z:P2 ps Z=false:=by simp only[P2,c4,c5];rfl
      rw[z];exact go (b:=false) ((w0 _).mpr (by rw[j7,w4,j9,j7,G];rfl))
     |false =>
      rw[c5,az (by simp)] at G;obtain⟨ρ',G,b5,rfl⟩:=G;have z:P2 ps Z=true:=by simp only[P2,c4,c5];rfl
      have L:=Zc (m:=m-1) (a0:=some (.int K)) (a4:=b4) (a5:=b5) (a6:=none) (a7:=none) (a8:=none) Ut c2 z hr;rw[z];unfold P3;cases c6:((mp ps).any λp=>(List.range ps.length).any λl=>Ms Z p l) with
      |true =>
       rw[c6,bf rfl] at L;obtain⟨ρ',L⟩:=L;exact go (b:=false) ((w0 _).mpr (by rw[j7,w4,j9,j7,G,j9,j7,L];rfl))
      |false =>
       rw[c6,az (by simp)] at L;obtain⟨ρ',L,_⟩:=L;exact go (b:=true) ((w0 _).mpr (by rw[j7,w4,j9,j7,G,j9,j7,L];rfl))
  .have R:5<ps.length:=by lia
   rw[jf R] at h2;rw[dz c2];refine(go (b:=false) (ρ':=[some (.int K),some (qD ps),some (.ref r),none,none,none,none,none,none]) ?_).trans (by simp);simp only[Bd,j7,Jb,aii,Fw,h1,h2,Res.yl,jo,Sh,Vg];rfl
 .rw[dz c1] at h1
  rw[dz c1];refine(go (b:=false) (ρ':=[some (.int K),some (qD ps),some (.ref r),none,none,none,none,none,none]) ?_).trans (by simp);simp only[Bd,j7,Jb,aii,Fw,h1,Res.yl,qw,Vg];rfl
noncomputable def O5(Z:List (Pr×Int))(p:Pr)(v:Int):List (Pr×Int):=if p∈Z.map (·.1) then Z.map (λe=>if e.1=p then(e.1,v) else e) else Z++[(p,v)]
def au1(Z:List (Pr×Int))(p:Pr)(v:Int):Ja (Bg Z) (kK p) (.int v)=Bg (O5 Z p v):=by
 have e:((Bg Z).any λL=>decide (L.1=kK p))=decide (p∈Z.map (·.1)):=by have:=Tc (Z.map (·.1)) p;rw[tu,yf] at this;rw[Bg,yf];exact this
 unfold Ja O5;rw[e]
 by_cases c:p∈Z.map (·.1)
 .rw[jf c,bf rfl,bf c,Bg,Bg,tu,tu]
  refine zz λx _=>?_
  by_cases q:x.1=p
  .simp[q]
  .have G:¬kK x.1=kK p:=λz=>q (ai8 z)
   simp[q,G]
 .rw[dz c,az (by simp),az c,Bg,Bg,oh];rfl
def Zd(Z:List (Pr×Int))(p:Pr)(v:Int):(O5 Z p v).map (·.1)=if p∈Z.map (·.1) then Z.map (·.1) else Z.map (·.1)++[p]:=by
 unfold O5;split
 .rw[tu]
  refine zz λx _=>?_
  by_cases q:x.1=p<;>simp[q]
 .simp
def SmK(l:List Pr):Prop:=∀p∈l,(-1<=p.1/\p.1<9)/\-1<=p.2/\p.2<9
structure Hv(xs:List (Pr×Int))(n:Nat):Prop where
 nd:(xs.map (·.1)).Nodup
 sm:SmK (xs.map (·.1))
 len:xs.length<=n
def Hv.small(h:Hv xs n):Small xs:=λe Z=>h.sm e.1 (cu.mpr ⟨e,Z,rfl⟩)
def Hv.mono(h:Hv G n)(Z:n<=n'):Hv G n':=⟨h.nd,h.sm,dq h.len Z⟩
def Hv.put(h:Hv G n)(hp:(-1<=p.1/\p.1<9)/\-1<=p.2/\p.2<9):Hv (O5 G p v) (n+1):=by
 have Z:=Zd G p v;have hl:(O5 G p v).length=((O5 G p v).map (·.1)).length:=by simp
 have:=h.len
 by_cases c:p∈G.map (·.1)
 .rw[bf c] at Z
  exact⟨by rw[Z];exact h.nd,by rw[Z];exact h.sm,by rw[hl,Z,dw];lia⟩
 .rw[az c] at Z
  refine⟨?_,?_,by rw[hl,Z,o4,dw];simp;lia⟩
  .rw[Z,wy]
   exact⟨h.nd,by simp,λa R b L e=>by
    rw[o5] at L;rw[e,L] at R;exact c R⟩
  .rw[Z]
   intro q hq;rcases fj.mp hq with z|z
   .exact h.sm q z
   .rw[o5] at z
    rw[z];exact hp
def Hv.a8n(h:Hv Z n)(L:p∈Z.map (·.1)):Hv (O5 Z p v) n:=by
 have G:=Zd Z p v;have R:(O5 Z p v).length=((O5 Z p v).map (·.1)).length:=by simp
 rw[bf L] at G;exact⟨by rw[G];exact h.nd,by rw[G];exact h.sm,by rw[R,G,dw];exact h.len⟩
noncomputable def af5(Z:List (Pr×Int))(p:Pr):List (Pr×Int):=Z.filter λe=>!decide (e.1=p)
def au2(Z:List (Pr×Int))(p:Pr):((Bg Z).filter λG=>!decide (G.1=kK p))=Bg (af5 Z p):=by
 rw[Bg,List.filter_map,af5,Bg]
 congr 1
 refine List.filter_congr λx _=>?_
 show(!decide (kK x.1=kK p))=_;rw[ai9]
def Hv.pop(h:Hv Z n):Hv (af5 Z p) n:=by have G:List.Sublist ((af5 Z p).map (·.1)) (Z.map (·.1)):=List.Sublist.map _ List.filter_sublist;exact⟨G.nodup h.nd,λq L=>h.sm q (G.subset L),dq (List.length_filter_le _ _) h.len⟩
def ajg(G:M[r]?=some (.dT (Bg Z)))(L:Z.length<=30)(p:Pr)(v:Int):setOp (.ref r) (su p) (.int v) M=some (M.set r (.dT (Bg (O5 Z p v)))):=by rw[ain G (Nh p) (by rw[Bg,dw];lia),au1]
def au3(L:M[r]?=some (.dT (Bg Z)))(G:p∈Z.map (·.1)):∃d,Jg .pop (.ref r) [su p] M=.ok d (M.set r (.dT (Bg (af5 Z p)))):=by obtain⟨v,e⟩:=ig.mp (ajb.mpr G);refine⟨.int v,?_⟩;rw[<- au2];simp[Jg,L,Nh,Ng,e]
theorem Oh.set(h:Oh t f M)(Z:r≠t):Oh t f (M.set r o):=by obtain⟨n,e,q⟩:=h;exact⟨n,by rw[Bf Z];exact e,q⟩
def au4(Z:List Pr)(k:Nat)(h:k<=Z.length):Gy (qD Z) none (some (k:Int)) M=some (qD (Z.take k)):=by simp[Gy,qD,Qz,clip,List.map_take,h]
def au5(Z:List Pr)(k:Nat)(h:k<=Z.length):Gy (qD Z) (some (k:Int)) none M=some (qD (Z.drop k)):=by
 have G:min k Z.length=k:=by lia
 have e:(Z.map su).drop k=((Z.map su).drop k).take (Z.length-k):=by rw[List.take_of_length_le (by simp)]
 simp only[Gy,qD,Qz,clip,Int.natCast_nonneg,j6,qy,G,dw,List.map_drop];rw[<- e]
def ajh(Z:List Pr):Gy (qD Z) none (some (-1)) M=some (qD Z.dropLast):=by
 have G:((-1:Int)+(Z.length:Int)).toNat=Z.length-1:=by lia
 simp[Gy,qD,Qz,clip,G,List.map_dropLast,List.dropLast_eq_take]
def aji(a b:List Pr)(h:a.length+b.length<=100000):Dh .add (qD a) (qD b) M=.ok (qD (a++b)) M:=by rw[qD,qD,afw _ _ (by simpa using h),qD,oh]
def ad4{v:Nat}{a b c d e:Int}(h:v<5)(M:dh):∃x,Aq (.vl [.int a,.int b,.int c,.int d,.int e]) (.int v) M=some (.int x):=by
 have:v=0\/v=1\/v=2\/v=3\/v=4:=by lia
 rcases this with rfl|rfl|rfl|rfl|rfl
 .exact⟨a,rfl⟩
 .exact⟨b,rfl⟩
 .exact⟨c,rfl⟩
 .exact⟨d,rfl⟩
 .exact⟨e,rfl⟩
def au6{v:Nat}{a b:Pr}(h:v<2)(M:dh):∃x,Aq (.vl [su a,su b]) (.int v) M=some (su x):=by
 have:v=0\/v=1:=by lia
 rcases this with rfl|rfl
 .exact⟨a,rfl⟩
 .exact⟨b,rfl⟩
def St.rfl(h:Oh t f M):St t f M M:=St.of h (Eu.refl M)
def sp6(G:1<=m)(Z:Oh t f M):∃(L:Int)(M':dh),Bu.den (PW m) [some (.ref t),some (.int K),a2,a3,some (.int w),a5,a6,a7,a8,a9] M=.ok (.next,[some (.ref t),some (.int L),a2,a3,some (.int w),a5,a6,a7,a8,a9]) M'/\St t f M M':=by
 by_cases c:w=0
 .obtain⟨v,M',e,l,s,_⟩:=ym G Z (many:=5) (by decide) (by decide)
  obtain⟨x,R⟩:=ad4 (v:=v) (a:=K-1) (b:=K+1) (c:=0) (d:=4) (e:=-1) (by lia) M';exact⟨x,M',by simp[Bu,c,e,R],s⟩
 .exact⟨K,M,by simp[Bu,c],St.rfl Z⟩
def sp5{k:Nat}(hm:1<=m)(hs:Oh t f M)(R:ps≠[]->k<ps.length)(hl:ps.length<=1000):∃(G:List Pr)(b6 b7:Option D)(M':dh),Ba.den (PW m) [some (.ref t),a1,some (qD ps),a3,some (.int w),some (.int k),a6,a7,a8,a9] M=.ok (.next,[some (.ref t),a1,some (qD G),a3,some (.int w),some (.int k),b6,b7,a8,a9]) M'/\St t f M M'/\G.length<=ps.length:=by
 have e0:∀M,Ak M (qD ps) (.tup [])=some (decide (ps=[])):=λM=>a8m M ps []
 by_cases c:w=1
 .by_cases L:ps=[]
  .have e1:=e0 M
   rw[jf L] at e1;exact⟨ps,a6,a7,M,by simp[Ba,c,e1],St.rfl hs,bh _⟩
  .have R:=R L
   obtain⟨v,M1,e,l,s,_⟩:=ym hm hs (many:=5) (by decide) (by decide);obtain⟨x,ex⟩:=ad4 (v:=v) (a:=0) (b:=1) (c:=2) (d:=3) (e:=-1) (by lia) M1;obtain⟨v2,Z,e2,l2,s2,_⟩:=ym hm s.has (many:=2) (by decide) (by decide);obtain⟨y,ey⟩:=au6 (v:=v2) (a:=((at_ ps k).1,x)) (b:=(x,(at_ ps k).2)) (by lia) Z;have ey:Aq (.vl [.tup [.int (at_ ps k).1,.int x],.tup [.int x,.int (at_ ps k).2]]) (.int v2) Z=some (su y):=ey;refine⟨ps.take k++[y]++ps.drop (k+1),some (.int x),some (su y),Z,?_,s.trans s2,by simp;lia⟩;have f1:=au4 (M:=Z) ps k (by lia);have f2:=au5 (M:=Z) ps (k+1) (by lia);have f2:Gy (qD ps) (some ((k:Int)+1)) none Z=_:=f2;have g1:=aji (M:=Z) (ps.take k) [y] (by simp;lia);have g1:Dh .add (qD (ps.take k)) (.tup [su y]) Z=_:=g1;have g2:=aji (M:=Z) (ps.take k++[y]) (ps.drop (k+1)) (by simp;lia);simp only[Ba,Jb,abj,adf,aud,Wl,Kz,Res.yl,c,aum,aun,eq_int,uz,Res.Cm,decide_true,Vg,adh,Et,e0,dz L,qw];simp[-eq_int,e,ex,e2,Kd (Bl R),G8,G9,ey,f1,f2,g1,g2]
 .exact⟨ps,a6,a7,M,by simp[Ba,c],St.rfl hs,bh _⟩
def sp4:∃(Z:List Pr),Bt.den W [a0,a1,qD ps,a3,D.int w,a5,a6,a7,a8,a9] M=.ok (.next,[a0,a1,some (qD Z),a3,some (.int w),a5,a6,a7,a8,a9]) M/\Z.length<=ps.length:=by
 by_cases c:w=2
 .exact⟨ps.dropLast,by simp[Bt,c,ajh],by simp⟩
 .exact⟨ps,by simp[Bt,c],bh _⟩
def sp3(R:1<=m)(hs:Oh t f M)(hl:ps.length<=1000):∃(Z:List Pr)(b7:Option D)(M':dh),Bs.den (PW m) [some (.ref t),a1,some (qD ps),a3,some (.int w),a5,a6,a7,a8,a9] M=.ok (.next,[some (.ref t),a1,some (qD Z),a3,some (.int w),a5,a6,b7,a8,a9]) M'/\St t f M M'/\Z.length<=ps.length+6:=by
 by_cases c:w=3
 .obtain⟨G,M1,e1,l1,s1,_⟩:=ym R hs (many:=3) (by decide) (by decide)
  obtain⟨L,M2,e2,l2,s2,_⟩:=ym R s1.has (many:=3) (by decide) (by decide);obtain⟨v3,M3,e3,l3,s3,_⟩:=ym R s2.has (many:=2) (by decide) (by decide);have f1:=Ho (M:=M3) 5 v3 (.inl (by decide));have f2:Dh .mul (.tup [.tup [.int G,.int L]]) (.int (1+5*(v3:Int))) M3=.ok (qD (List.replicate (1+5*v3) ((G:Int),(L:Int)))) M3:=by
   have h1:0<=(1+5*(v3:Int))/\(1+5*(v3:Int))<=100000:=by lia
   have h2:(1+5*(v3:Int)).toNat=1+5*v3:=by lia
   simp only[Dh,ada,h1,and_self,j6,h2,qD,List.map_replicate,su]
  have f3:=aji (M:=M3) ps (List.replicate (1+5*v3) ((G:Int),(L:Int))) (by simp;lia);exact⟨ps++List.replicate (1+5*v3) ((G:Int),(L:Int)),some (.tup [.int G,.int L]),M3,by simp[Bs,c,e1,e2,e3,f1,f2,f3],s1.trans (s2.trans s3),by simp;lia⟩
 .exact⟨ps,a7,M,by simp[Bs,c],St.rfl hs,by lia⟩
def sp2{l:List Pr}(hm:1<=m)(hs:Oh t f M)(hr:M[r]?=some (.dT (Bg Z)))(G:r≠t)(T:Hv Z n)(hn:n<=30)(hl:∀p,p∈l↔p∈Z.map (·.1))(qk:l.length<=30)(hp:ps.length<=1000):∃(qq:List (Pr×Int))(b9:Option D)(M':dh),Af.den (PW m) [some (.ref t),a1,some (qD ps),some (.ref r),some (.int w),a5,a6,a7,some (.vl (l.map su)),a9] M=.ok (.next,[some (.ref t),a1,some (qD ps),some (.ref r),some (.int w),a5,a6,a7,some (.vl (l.map su)),b9]) M'/\Oh t f M'/\M'[r]?=some (.dT (Bg qq))/\Hv qq n:=by
 have e0:Ak M (.vl (l.map su)) (.vl [])=some (decide (l=[])):=abu M l []
 by_cases c:3<w
 .by_cases c2:l=[]
  .rw[jf c2] at e0
   exact⟨Z,a9,M,by simp[Af,c,e0],hs,hr,T⟩
  .have qv:1<=l.length:=List.length_pos_iff.mpr c2
   obtain⟨v,M1,e1,l1,s1,_⟩:=ym hm hs (many:=(l.length:Int)) (by lia) (by lia);have hv:v<l.length:=by lia
   have Ym:M1[r]?=some (.dT (Bg Z)):=s1.keep r _ G hr;have L:v5 .len [.vl (l.map su)] M=.ok (.int l.length) M:=by simp[v5,Sd]
   have hx:Aq (.vl (l.map su)) (.int v) M1=some (su (at_ l v)):=Fy rfl q_ (by rw[qy,ir,Bl hv];rfl);have Hn:at_ l v∈Z.map (·.1):=(hl _).mp (cj (Bl hv))
   by_cases c3:w=4
   .obtain⟨d,g⟩:=au3 Ym Hn
    have ty:Q3 .pop (.ref r) M1=true:=by simp[Q3,Ym]
    refine⟨af5 Z (at_ l v),some (su (at_ l v)),_,?_,s1.has.set G,zm Ym,T.pop⟩;simp[-List.map_eq_nil_iff,Af,Ec,e0,c2,L,e1,hx,c3,ty,g]
   .obtain⟨u,M2,e2,l2,s2,_⟩:=ym hm s1.has (many:=(ps.length:Int)+3) (by lia) (by lia)
    have R:M2[r]?=some (.dT (Bg Z)):=s2.keep r _ G Ym;have g:=ajg R (dq T.len hn) (at_ l v) ((u:Int)-2);refine⟨O5 Z (at_ l v) ((u:Int)-2),some (su (at_ l v)),_,?_,s2.has.set G,zm R,T.a8n Hn⟩;simp[-List.map_eq_nil_iff,Af,Ec,c,e0,c2,L,e1,hx,c3,Ln,e2,g]
 .exact⟨Z,a9,M,by simp[Af,c],hs,hr,T⟩
def sp0(hm:1<=m)(hs:Oh t f M)(hr:M[r]?=some (.dT (Bg xs)))(qq:r≠t)(T:Hv xs n)(hn:n<=30):∃(G:List (Pr×Int))(M':dh),Br.den (PW m) [some (.ref t),a1,a2,some (.ref r),some (.int w),a5,a6,a7,a8,a9] M=.ok (.next,[some (.ref t),a1,a2,some (.ref r),some (.int w),a5,a6,a7,a8,a9]) M'/\Oh t f M'/\M'[r]?=some (.dT (Bg G))/\Hv G (n+1):=by
 by_cases c:w=5
 .obtain⟨v1,M1,e1,l1,s1,_⟩:=ym hm hs (many:=3) (by decide) (by decide)
  obtain⟨R,M2,e2,l2,s2,_⟩:=ym hm s1.has (many:=6) (by decide) (by decide);obtain⟨L,M3,e3,l3,s3,_⟩:=ym hm s2.has (many:=7) (by decide) (by decide);have Z:M3[r]?=some (.dT (Bg xs)):=(s1.trans (s2.trans s3)).keep r _ qq hr;have g:=ajg Z (dq T.len hn) ((R:Int),(L:Int)-1) ((v1:Int)-1);have g:setOp (.ref r) (.tup [.int R,.int ((L:Int)-1)]) (.int ((v1:Int)-1)) M3=_:=g;refine⟨O5 xs ((R:Int),(L:Int)-1) ((v1:Int)-1),_,?_,s3.has.set qq,zm Z,T.put ?_⟩
  .simp[Br,c,e1,e2,e3,g]
  .show(-1<=(R:Int)/\(R:Int)<9)/\-1<=(L:Int)-1/\(L:Int)-1<9
   lia
 .exact⟨xs,M,by simp[Br,c],hs,hr,T.mono (t7 _)⟩
def abv(hm:2<=m)(hs:Oh t f M)(hr:M[r]?=some (.dT (Bg xs)))(R:r≠t)(T:Hv xs n)(hn:n<=29)(hp:ps.length<=500):∃(G:Int)(qq:List Pr)(qk:List (Pr×Int))(M':dh),prog.call m 16 [.ref t,.int K,qD ps,.ref r] M=.ok (.tup [.int G,qD qq,.ref r]) M'/\Oh t f M'/\M'[r]?=some (.dT (Bg qk))/\Hv qk (n+1)/\qq.length<=ps.length+6:=by
 rw[call_of (by lia) rfl];have L:1<=m-1:=by lia
 obtain⟨w,M1,e1,l1,s1,_⟩:=ym L hs (many:=10) (by decide) (by decide);have q7:∀M,v5 .max [.int 1,.int (ps.length:Int)] M=.ok (.int (max 1 ps.length:Nat)) M:=λM=>max2 (M:=M) 1 ps.length
 obtain⟨k,M2,e2,l2,s2,_⟩:=ym L s1.has (many:=(max 1 ps.length:Nat)) (by lia) (by lia);obtain⟨G,M3,q6,s3⟩:=sp6 (K:=K) (w:=w) (a2:=some (qD ps)) (a3:=some (.ref r)) (a5:=some (.int k)) (a6:=none) (a7:=none) (a8:=none) (a9:=none) L s2.has;obtain⟨zv,b6,b7,M4,q5,s4,p1⟩:=sp5 (ps:=ps) (k:=k) (w:=w) (a1:=some (.int G)) (a3:=some (.ref r)) (a6:=none) (a7:=none) (a8:=none) (a9:=none) L s3.has (λh=>by
  have:=List.length_pos_iff.mpr h
  lia) (by lia)
 obtain⟨zk,q4,p2⟩:=sp4 (W:=PW (m-1)) (M:=M4) (ps:=zv) (w:=w) (a0:=some (.ref t)) (a1:=some (.int G)) (a3:=some (.ref r)) (a5:=some (.int k)) (a6:=b6) (a7:=b7) (a8:=none) (a9:=none);obtain⟨Z,c7,M5,q3,s5,p3⟩:=sp3 (ps:=zk) (w:=w) (a1:=some (.int G)) (a3:=some (.ref r)) (a5:=some (.int k)) (a6:=b6) (a7:=b7) (a8:=none) (a9:=none) L s4.has (by lia);have qv:M5[r]?=some (.dT (Bg xs)):=(s1.trans (s2.trans (s3.trans (s4.trans s5)))).keep r _ R hr;have hl:xs.length<=30:=dq T.len (by lia)
 have q1:=Th (M:=M5) qv T.nd hl;obtain⟨zw,b9,M6,q2,h6,r6,T6⟩:=sp2 (ps:=Z) (w:=w) (l:=Cv (xs.map (·.1))) (a1:=some (.int G)) (a5:=some (.int k)) (a6:=b6) (a7:=c7) (a9:=none) L s5.has qv R T (by lia) (λp=>Hq p _) (by rw[Yy,dw];exact hl) (by lia);obtain⟨q8,M7,q0,h7,r7,T7⟩:=sp0 (w:=w) (a1:=some (.int G)) (a2:=some (qD Z)) (a5:=some (.int k)) (a6:=b6) (a7:=c7) (a8:=some (.vl ((Cv (xs.map (·.1))).map su))) (a9:=b9) L h6 r6 R T6 (by lia);refine⟨G,Z,q8,M7,?_,h7,r7,T7,by lia⟩;have w1:(Ar.a 4 (.call 2 (.p (.v 0) (.i 10)))).den (PW (m-1)) [some (.ref t),some (.int K),some (qD ps),some (.ref r),none,none,none,none,none,none] M=.ok (.next,[some (.ref t),some (.int K),some (qD ps),some (.ref r),some (.int w),none,none,none,none,none]) M1:=by simp[e1]
 have w2:(Ar.a 5 (.call 2 (.p (.v 0) (.blt .max (.p (.i 1) (.l (.v 2))))))).den (PW (m-1)) [some (.ref t),some (.int K),some (qD ps),some (.ref r),some (.int w),none,none,none,none,none] M1=.ok (.next,[some (.ref t),some (.int K),some (qD ps),some (.ref r),some (.int w),some (.int k),none,none,none,none]) M2:=by simp[Ln,q7,e2]
 have w3:(Ar.a 8 (.blt .sorted (.o (.v 3)))).den (PW (m-1)) [some (.ref t),some (.int G),some (qD Z),some (.ref r),some (.int w),some (.int k),b6,c7,none,none] M5=.ok (.next,[some (.ref t),some (.int G),some (qD Z),some (.ref r),some (.int w),some (.int k),b6,c7,some (.vl ((Cv (xs.map (·.1))).map su)),none]) M5:=by simp[q1]
 show(Gn.den (PW (m-1)) [some (.ref t),some (.int K),some (qD ps),some (.ref r),none,none,none,none,none,none] M).bind _=_;simp only[Gn];rw[j7,w1,j9,j7,w2,j9,j7,q6,j9,j7,q5,j9,j7,q4,j9,j7,q3,j9,j7,w3,j9,j7,q2,j9,j7,q0,j9];rfl
def a0q(Z:List F):dsD Z=qD (Z.map λf=>((f.a:Int),(f.b:Int))):=by rw[dsD,qD,tu];rfl
theorem asn:∀{kvs:List (List Kx×D)},(∀p∈kvs,∃(j k:Nat)(v:Int),p=(ky j k,.int v)/\j<5/\k<5)->∃G:List (Pr×Int),kvs=Bg G/\SmK (G.map (·.1))
 |[],_=>⟨[],rfl,λp L=>by cases L⟩
 |p::l,h=>by
  obtain⟨G,e,s⟩:=asn λq Z=>h q (bc _ Z)
  obtain⟨j,k,v,rfl,hj,R⟩:=h p bu;refine⟨(((j:Int),(k:Int)),v)::G,by rw[e];rfl,λq Z=>?_⟩;rw[du] at Z;rcases bx.mp Z with rfl|Z
  .show(-1<=(j:Int)/\(j:Int)<9)/\-1<=(k:Int)/\(k:Int)<9
   lia
  .exact s q Z
def au7(P:Pat sz K L kvs):∃Z,kvs=Bg Z/\Hv Z 25:=by
 have R:=P.len;obtain⟨Z,e,s⟩:=asn (kvs:=kvs) λp hp=>by obtain⟨j,k,f,g,e,h1,h2,_,_⟩:=P.tb.keys p hp;have g1:=(aq.mp h1).1;have g2:=(aq.mp h2).1;exact⟨j,k,_,e,by lia,by lia⟩
 subst e;refine⟨Z,rfl,?_,s,?_⟩
 .have G:=P.tb.nd
  rw[Bg,tu] at G;have G:(List.map kK (Z.map (·.1))).Nodup:=by rw[tu];exact G
  exact(List.pairwise_map.mp G).imp λh e=>h (by rw[e])
 .have:=P.tb.len
  rw[Bg,dw] at this;have:L.length*L.length<=5*5:=Nat.mul_le_mul R R
  lia
def ao0(Z:1<=m):prog.rfd m none M=.ok .non M:=by rw[ais Z];simp[Fn.afs,prog,Gq,Gp,v5,K3]
def ao1(Z:1<=m):prog.rfd m (some 1) M=.ok (.vl [.int 0]) (M++[.exc 1]):=by
 rw[ais Z];have h:Ed.den (PW (m-1)) [none,some (.ref M.length),none,some (.vl [.bl true,.bl false,.bl false,.bl false,.bl false,.bl false])] (M++[.exc 1])=.ok (.vl [.int 0]) (M++[.exc 1]):=by
  unfold Ed;rw[Jt (n:=6) (M1:=M++[.exc 1]) (q:=λi=>decide (i=0)) (g:=λi=>.int (i:Int)) rfl (by decide) (λi G=>by
   have:i=0\/i=1\/i=2\/i=3\/i=4\/i=5:=by lia
   rcases this with rfl|rfl|rfl|rfl|rfl|rfl<;>exact⟨_,rfl,rfl,λ_=>rfl⟩)]
  rfl
 simp[Fn.afs,prog,Gq,Gp,v5,K3,h]
def ad5(G:M[r]?=some (.dT (Bg Z)))(T:Hv Z n):v5 .dict [.ref r] M=.ok (.ref M.length) (M++[.dT (Bg Z)]):=by simp[v5,G,asm T.small,MW.new]
def au8{ns:X1}(hm:6<=m):∃M',prog.call m 17 [.fz (ns.map D.int)] M=.ok (.bl true) M':=by
 rw[call_of (by lia) rfl];obtain⟨n0,f0,s0,o0⟩:=ait (m:=m-1) (k:=0) (ns:=ns) (M:=M) (by lia);have s0:prog.call (m-1) 1 [.fz (ns.map D.int),.int 0] M=_:=s0;have q8:Oh M.length f0 (M++[.lst [.int n0,.bl f0]]):=⟨n0,by simp,o0⟩;obtain⟨K,r,sz,hs,z2,M1,e0,p0,lr,P,t0⟩:=abp (m:=m-1) (by lia) q8;obtain⟨xs,rfl,T⟩:=au7 P;rw[a0q] at e0;have Jo:(hs.map λf:F=>((f.a:Int),(f.b:Int))).length<=5:=by rw[dw];exact P.len
 generalize(hs.map λf:F=>((f.a:Int),(f.b:Int)))=ps at e0 Jo;have d0:=ad5 p0 T;have Jf:M.length<M1.length:=by have:=t0.len;simp at this;lia
 have q6:Oh M.length f0 (M1++[.dT (Bg xs)]):=by obtain⟨n,a,b⟩:=t0.has;exact⟨n,wj a,b⟩
 obtain⟨v,M3,e3,l3,s3,_⟩:=ym (m:=m-1) (by lia) q6 (many:=3) (by decide) (by decide);have r3:M3[M1.length]?=some (.dT (Bg xs)):=s3.keep _ _ (by lia) K5;generalize Ym:M1.length=r1 at *;obtain⟨z1,L,e4,K4,G,Z,b5,rfl,h4,r4,T4,l4⟩:=Gz (W:=PW (m-1)) (t:=.name 5) (b:=Wz) (it:=.call 2 (.p (.v 1) (.i 3))) (n:=v) (ρ:=[D.fz (ns.map D.int),D.ref M.length,D.int K,qD ps,D.ref r1,none,none,none]) (M:=M1++[.dT (Bg xs)]) (M1:=M3) (by simp[e3]) (by lia)
  (λi ρ M'=>∃(K:Int)(ps:List Pr)(xs:List (Pr×Int))(b5:Option D),ρ=[some (.fz (ns.map D.int)),some (.ref M.length),some (.int K),some (qD ps),some (.ref r1),b5,none,none]/\Oh M.length f0 M'/\M'[r1]?=some (.dT (Bg xs))/\Hv xs (25+i)/\ps.length<=5+6*i)
  ⟨K,ps,xs,none,rfl,s3.has,r3,T,Jo⟩
  (λi ρ M' hi hI=>by
   obtain⟨K,ps,xs,b5,rfl,g1,g2,g3,g4⟩:=hI;obtain⟨K',q7,zk,zg,q1,q2,q3,q4,q5⟩:=abv (m:=m-1) (K:=K) (ps:=ps) (by lia) g1 g2 (by lia) g3 (by lia) (by lia);exact⟨_,.next,_,zg,rfl,by simp[Wz,q1],.inl rfl,K',q7,zk,some (.int i),rfl,q2,q3,q4,by lia⟩)
 have T4:=T4.mono (show 25+v<=29 by lia);have d4:=ad5 r4 T4;have Jj:r1≠L.length:=by have:=Bo r4;lia
 have r5:(L++[.dT (Bg Z)]++[.ins 0 []])[L.length]?=some (.dT (Bg Z)):=wj K5;have zv:(L++[.dT (Bg Z)]++[.ins 0 []])[r1]?=some (.dT (Bg Z)):=wj (wj r4);have qq:(L++[MO.dT (Bg Z)]).length=L.length+1:=by simp
 obtain⟨M6,c6,k6⟩:=aov (m:=m-1) (K:=K4) (ps:=G) (n:=(L++[MO.dT (Bg Z)]).length) (by lia) (dq T4.len (by decide)) T4.small r5 (by rw[qq];lia) K5;have r6:M6[L.length]?=some (.dT (Bg Z)):=k6 _ _ (by rw[qq];lia) r5;have z0:M6[r1]?=some (.dT (Bg Z)):=k6 _ _ (by rw[qq];have:=Bo r4;lia) zv;obtain⟨d7,M7,e7,qk,R⟩:∃d7 M7,(Ex.ask 6 (.q (.v 2) (.v 3) (.v 6))).den (PW (m-1)) [some (.fz (ns.map D.int)),some (.ref M.length),some (.int K4),some (qD G),some (.ref r1),b5,some (.ref L.length),none] (L++[.dT (Bg Z)])=.ok d7 M7/\Eu M6 M7/\d7=if PG K4 G Z=true then .non else .vl [.int 0]:=by
  unfold Chk at c6;cases c:PG K4 G Z with
  |true =>
   rw[c,bf rfl] at c6;refine⟨.non,M6,?_,Eu.refl _,rfl⟩;have z:=ao0 (m:=m-1) (M:=M6) (by lia);rw[Wm];simp only[Ay,Et,Wl,abg,aia,Res.yl,c6.1,c6.2];exact z
  |false =>
   rw[c,az (by simp)] at c6;refine⟨.vl [.int 0],M6++[.exc 1],?_,Eu.app _ _,rfl⟩;have z:=ao1 (m:=m-1) (M:=M6) (by lia);rw[Wm];simp only[Ay,Et,Wl,abg,aia,Res.yl,c6];exact z
 have r7:=qk _ _ r6;have q0:=qk _ _ z0;have g7:=aoy (m:=m-1) (M:=M7) (K:=K4) (ps:=G) (by lia) (by lia) (dq T4.len (by decide)) T4.nd q0;have zw:Z.length<31:=by have:=T4.len;lia
 have w7:(Ar.f (.dne (.v 6) (.v 4)) (.o (.ret (.cst (.bl false))))).den (PW (m-1)) [some (.fz (ns.map D.int)),some (.ref M.length),some (.int K4),some (qD G),some (.ref r1),b5,some (.ref L.length),some d7] M7=.ok (.next,[some (.fz (ns.map D.int)),some (.ref M.length),some (.int K4),some (qD G),some (.ref r1),b5,some (.ref L.length),some d7]) M7:=by have:L.length≠r1:=j5 Jj;simp[r7,q0,W8,this,zw,T4.nd]
 have w1:(Ar.a 1 (.call 1 (.p (.v 0) (.i 0)))).den (PW (m-1)) [some (.fz (ns.map D.int)),none,none,none,none,none,none,none] M=.ok (.next,[some (.fz (ns.map D.int)),some (.ref M.length),none,none,none,none,none,none]) (M++[.lst [.int n0,.bl f0]]):=by simp[s0]
 have w2:(Ar.asg (.tg (.names [2,3,4])) (.call 5 (.o (.v 1)))).den (PW (m-1)) [some (.fz (ns.map D.int)),some (.ref M.length),none,none,none,none,none,none] (M++[.lst [.int n0,.bl f0]])=.ok (.next,[some (.fz (ns.map D.int)),some (.ref M.length),some (.int K),some (qD ps),some (.ref r),none,none,none]) M1:=by simp[e0]
 have w3:(Ar.a 4 (.blt .dict (.o (.v 4)))).den (PW (m-1)) [some (.fz (ns.map D.int)),some (.ref M.length),some (.int K),some (qD ps),some (.ref r),none,none,none] M1=.ok (.next,[some (.fz (ns.map D.int)),some (.ref M.length),some (.int K),some (qD ps),some (.ref r1),none,none,none]) (M1++[.dT (Bg xs)]):=by simp[d0,Ym]
 have w5:(Ar.a 6 (.blt .dict (.o (.v 4)))).den (PW (m-1)) [some (.fz (ns.map D.int)),some (.ref M.length),some (.int K4),some (qD G),some (.ref r1),b5,none,none] L=.ok (.next,[some (.fz (ns.map D.int)),some (.ref M.length),some (.int K4),some (qD G),some (.ref r1),b5,some (.ref L.length),none]) (L++[.dT (Bg Z)]):=by simp[d4]
 have w6:(Ar.a 7 (.ask 6 (.q (.v 2) (.v 3) (.v 6)))).den (PW (m-1)) [some (.fz (ns.map D.int)),some (.ref M.length),some (.int K4),some (qD G),some (.ref r1),b5,some (.ref L.length),none] (L++[.dT (Bg Z)])=.ok (.next,[some (.fz (ns.map D.int)),some (.ref M.length),some (.int K4),some (qD G),some (.ref r1),b5,some (.ref L.length),some d7]) M7:=by rw[Ou,e7];rfl
 refine⟨M7,?_⟩;show(adq.den (PW (m-1)) [some (.fz (ns.map D.int)),none,none,none,none,none,none,none] M).bind _=_;have qv:adq.den (PW (m-1)) [some (.fz (ns.map D.int)),none,none,none,none,none,none,none] M=.ok (.ret (.bl true),[some (.fz (ns.map D.int)),some (.ref M.length),some (.int K4),some (qD G),some (.ref r1),b5,some (.ref L.length),some d7]) M7:=by
  simp only[adq];rw[j7,w1,j9,j7,w2,j9,j7,w3,j9,j7,adp,e4,j9,j7,w5,j9,j7,w6,j9,j7,w7,j9];cases c:PG K4 G Z with
  |true =>
   rw[c] at g7 R;rw[bf rfl] at R;subst R;simp[g7,Dl,afq]
  |false =>
   rw[c] at g7 R;rw[az (by simp)] at R;subst R;have q:Ak M7 (.vl [.int 0]) (.vl [.int 0])=some true:=rfl;simp[g7,q]
 rw[qv];rfl
end K02
namespace L2
open PySem PySem.Spec PyProof.Rows
abbrev Key:=Sum Int Str
noncomputable def Tj:Key->Value->Bool
 |.inl k,v=>Value.isInt k v|.inr x,v=>Value.isStrOf x v
noncomputable def a8s(w:World):Key->Int
 |.inl k=>hashInt k|.inr x=>hashStr w x
theorem Ac:∀{k:Key}{v:Value},Tj k v=true->(∃i t,k=Sum.inl i/\v=Value.int i t)\/(∃x t,k=Sum.inr x/\v=Value.str x t)
 |.inl i,v,h=>by
  obtain⟨t,e⟩:=Value.isInt_shape (k:=i) (v:=v) h;exact .inl ⟨i,t,rfl,e⟩
 |.inr x,v,h=>by
  obtain⟨t,e⟩:=Value.isStrOf_shape (x:=x) (v:=v) h;exact .inr ⟨x,t,rfl,e⟩
def af7(i:Int)(t:Tok):Tj (.inl i) (.int i t)=true:=by simp[Tj,Value.isInt]
def af8(x:Str)(t:Tok):Tj (.inr x) (.str x t)=true:=by simp[Tj,Value.isStrOf]
def au9(a b:Int):decide ((Sum.inl a:Key)=Sum.inl b)=(a==b):=by
 by_cases e:a=b
 .subst e;simp
 .have h:¬(Sum.inl a:Key)=Sum.inl b:=λq=>e (Sum.inl.inj q)
  rw[dz h];exact(rz.mpr e).symm
def ava(a b:Str):decide ((Sum.inr a:Key)=Sum.inr b)=decide (a=b):=by
 by_cases e:a=b
 .subst e;simp
 .have h:¬(Sum.inr a:Key)=Sum.inr b:=λq=>e (Sum.inr.inj q)
  rw[dz h,dz e]
def avb(a:Int)(b:Str):decide ((Sum.inl a:Key)=Sum.inr b)=false:=dz (λq=>nomatch q)
def avc(a:Str)(b:Int):decide ((Sum.inr a:Key)=Sum.inl b)=false:=dz (λq=>nomatch q)
def jq(prog:Program)(w:World):PySem.KeyKind prog w Key where
 is:=Tj
 hash:=a8s w
 inj:=λv a b L G=>by
  rcases Ac L with⟨i,t,rfl,rfl⟩|⟨x,t,rfl,rfl⟩
  .rcases Ac G with⟨j,u,rfl,e⟩|⟨y,u,rfl,e⟩
   .injection e with e1 _;rw[e1]
   .exact nomatch e
  .rcases Ac G with⟨j,u,rfl,e⟩|⟨y,u,rfl,e⟩
   .exact nomatch e
   .injection e with e1 _;rw[e1]
 byValue:=λk v h=>by rcases Ac h with⟨i,t,rfl,rfl⟩|⟨x,t,rfl,rfl⟩<;>rfl
 pyHash:=λZ h=>by
  rcases Ac Z with⟨i,t,rfl,rfl⟩|⟨x,t,rfl,rfl⟩
  .exact wpAny_pyHash_int h
  .exact wpAny_pyHash_str h
 eqBool:=λhu Z h=>by
  rcases Ac hu with⟨i,t,rfl,rfl⟩|⟨x,t,rfl,rfl⟩
  .rcases Ac Z with⟨j,u,rfl,rfl⟩|⟨y,u,rfl,rfl⟩
   .rw[au9] at h;exact wpAny_eqBool_int h
   .rw[avb] at h;exact SeqAt.EqAt.int_str i t y u _ _ _ _ h
  .rcases Ac Z with⟨j,u,rfl,rfl⟩|⟨y,u,rfl,rfl⟩
   .rw[avc] at h;exact SeqAt.EqAt.str_int x t j u _ _ _ _ h
   .rw[ava] at h;exact wpAny_eqBool_str h
 «strs»:=λk x t v h=>by
  rcases Ac h with⟨i,u,rfl,e⟩|⟨y,u,rfl,e⟩
  .exact nomatch e
  .injection e with e1 _
   subst e1;cases v<;>rfl
def Ze(prog:Program)(w:World)(i:Int)(t:Tok):(jq prog w).is (.inl i) (.int i t)=true:=af7 i t
def Zf(prog:Program)(w:World)(x:Str)(t:Tok):(jq prog w).is (.inr x) (.str x t)=true:=af8 x t
end L2
namespace L2
open PySem PySem.Spec PyProof.Rows
set_option genInjectivity true in
inductive V where
 |non|bl (b:Bool)|int (i:Int)|str (x:Str)|byt (b:Array UInt8)|flt (b:UInt64)|ref (a:Addr)|ty (n:String)
 deriving DecidableEq
def RelV:V->Value->Prop
 |.non,u=>u=Value.none|.bl b,u=>u=Value.bool b|.int i,u=>∃t,u=Value.int i t|.str x,u=>∃t,u=Value.str x t|.byt b,u=>∃t,u=Value.bytes b t|.flt b,u=>∃t,u=Value.float b t|.ref a,u=>u=Value.ref a|.ty n,u=>u=Value.type n
abbrev Vals:List V->List Value->Prop:=Paired RelV
theorem Vals.length(r:Vals G Z):G.length=Z.length:=Paired.length r
theorem Vals.get:∀{Z:List V}{G:Zl}{i:Nat}{x:V},Vals Z G->Z[i]?=some x->∃u,G[i]?=some u/\RelV x u
 |_,_,_,_,.nil,e=>by simp at e|_,_,0,_,.cons r _,e=>by simp at e;subst e;exact⟨_,rfl,r⟩
 |_,_,i+1,x,.cons _ t,e=>by
  obtain⟨u,R,L⟩:=Vals.get (i:=i) (x:=x) t (by simpa using e);exact⟨u,by simpa using R,L⟩
theorem Vals.set{x:V}{u:Value}(r:RelV x u):∀{G:List V}{Z:Zl}(i:Nat),Vals G Z->Vals (G.set i x) (Z.set i u)
 |_,_,_,.nil=>.nil|_,_,0,.cons _ t=>.cons r t|_,_,i+1,.cons q t=>.cons q (Vals.set r i t)
theorem Vals.append:∀{Z R:List V}{L G:Zl},Vals Z L->Vals R G->Vals (Z++R) (L++G):=by intro _ _ _ _ h r;induction h with|nil=>exact r|cons q t ih=>exact .cons q ih
theorem Vals.take:∀{G:List V}{Z:Zl}(n:Nat),Vals G Z->Vals (G.take n) (Z.take n)
 |_,_,0,_=>.nil|_,_,_+1,.nil=>.nil|_,_,n+1,.cons r t=>.cons r (Vals.take n t)
theorem Vals.drop:∀{G:List V}{Z:Zl}(n:Nat),Vals G Z->Vals (G.drop n) (Z.drop n)
 |_,_,0,r=>r|_,_,_+1,.nil=>.nil|_,_,n+1,.cons _ t=>Vals.drop n t
def Q5:Option V->Option Value->Prop
 |some v,some u=>RelV v u|none,none=>True|_,_=>False
def KV{Z:Type}:List (Z×V)->List (Z×Value)->Prop:=Paired λ(p:Z×V) (q:Z×Value)=>p.1=q.1/\RelV p.2 q.2
noncomputable def kV:Key->V
 |.inl i=>.int i|.inr x=>.str x
inductive HO where
 |lst (xs:List V)
 |tup (xs:List V)
 |dK (kvs:List (Key×V))|dT (kvs:List (List Key×V))
 |set (S:Int->Bool) (n:Nat)
 |ins (C dx:Addr) (fs:List (Str×V))
 |own (x:Addr)
 |xd (fs:List (Str×V))
 |met (f x:Addr)
 |Mq (lo hi:Int)
 |Hk (o:Obj) (u:HO)
 |U3 (ps:Xs)
 |ext (φ:Heap->Prop)
abbrev Hp:=Addr->Option HO
noncomputable def upd(H:Hp)(a:Addr)(o:HO):Hp:=λb=>if b=a then some o else H b
def m8:upd H a o a=some o:=by unfold upd;rw[bf rfl]
def gr(h:b≠a):upd H a o b=H b:=by unfold upd;rw[az h]
def ad6{H:Hp}(h:H a=some o)(Z:H b=some u)(d:o≠u):a≠b:=by intro e;subst e;rw[h] at Z;exact d (gf Z)
def jt{H:Hp}(h:H a=some o)(Z:H b=none):a≠b:=by intro e;subst e;rw[h] at Z;cases Z
section
variable(P:Program)(w:World)
def Q6(h:Heap)(a:Addr)(Z:Xs):Prop:=∃o,h.get? a=some o/\o.cls=.type "tuple"/\∃n,o.data=.seq Z n/\o.dict=none
def Q6.is(x:Q6 h a items):IsTup h a items:=let ⟨o,h1,h2,n,h3,_⟩:=x;⟨o,h1,h2,n,h3⟩
def Q6.new(h:Heap)(items:Xs):Q6 (h.push { cls:=.type "tuple",data:=.seq items }) h.objs.size items:=⟨_,bw _ rfl,rfl,_,rfl,rfl⟩
def Bb(H:Hp)(h:Heap)(a:Addr):HO->Prop
 |.lst Z=>Z.length<=sizeLine/\∃(L:Zl)(n:Nat),Vals Z L/\h.get? a=some { cls:=.type "list",data:=.seq L.toArray n }|.tup Z=>Z.length<=sizeLine/\∃L:List Value,Vals Z L/\Q6 h a L.toArray|.dK kvs=>kvs.length<=sizeLine/\(a==sysModules)=false/\∃vs,KV kvs vs/\h.DictOf (jq P w) a vs
 |.dT kvs=>kvs.length<=sizeLine/\(a==sysModules)=false/\∃Z:List (List Key×Addr×Value),
  Paired (λ(p:List Key×V) (q:List Key×Addr×Value)=>p.1=q.1/\H q.2.1=some (.tup (p.1.map kV))/\RelV p.2 q.2.2) kvs Z /\
  ∃o R ep,h.get? a=some o/\o.ExactDict/\o.data=.dict R ep/\R.toList=Z.map (entryOfKey (tupleKind (jq P w)))/\(Z.map (·.1)).Nodup
 |.set S n=>h.SetOf (intKind P w) a S n
 |.ins C dx fs=>H dx=some (.own a)/\fs.length<=1000/\dx≠a/\h.get? a=some (PySem.W.instObj C dx) /\
  ∃G,h.Ns1 dx G/\(∀f,Q5 (fs.lookup f) (G f))/\PySem.Within G (fs.map (·.1))
 |.own _=>∃o,h.get? a=some o|.xd fs=>∃G,h.Ns1 a G/\∀f,Q5 (fs.lookup f) (G f)|.Mq lo hi=>∃t u v,h.get? a=some { cls:=.type "range",data:=.fields #[.int lo t,.int hi u,.int 1 v] }|.Hk o u=>h.get? a=some o/\Bb H h a u|.U3 ps=>h.get? a=some { cls:=.none,data:=.fields ps }|.met f x=>h.get? a=some (PySem.W.methodObj (.ref f) (.ref x))|.ext φ=>φ h/\(∃o,h.get? a=some o)/\∀h1 h2:Heap,φ h1->(∀o,h1.get? a=some o->h2.get? a=some o)->φ h2
def Jh(H:Hp)(h:Heap):Prop:=∀a o,H a=some o->Bb P w H h a o
end
theorem Bb.lt(x:Bb P w H h a o):a<h.objs.size:=by
 cases o with
 |lst G=>obtain⟨_,_,_,_,e⟩:=x;exact au e
 |tup G=>obtain⟨_,_,_,p⟩:=x;exact(Q6.is p).lt
 |dK Z=>obtain⟨_,_,_,_,o,_,_,e,_⟩:=x;exact au e
 |dT Z=>obtain⟨_,_,_,_,o,_,_,e,_⟩:=x;exact au e
 |set S n=>obtain⟨o,_,_,_,e,_⟩:=x;exact au e
 |ins C dx fs=>obtain⟨_,_,_,e,_⟩:=x;exact au e
 |own y=>obtain⟨_,e⟩:=x;exact au e
 |xd fs=>obtain⟨_,⟨_,_,_,e,_⟩,_⟩:=x;exact au e
 |Mq lo L=>obtain⟨_,_,_,e⟩:=x;exact au e
 |Hk ob u=>obtain⟨e,_⟩:=x;exact au e
 |U3 ps=>exact au (show h.get? a=some _ from x)
 |met f y=>exact au (show h.get? a=some _ from x)
 |ext R=>obtain⟨_,⟨_,e⟩,_⟩:=x;exact au e
theorem Paired.avd{R β:Type}{F G:R->β->Prop}:∀{Z:List R}{L:List β},Paired F Z L->(∀a b,F a b->G a b)->Paired G Z L:=by intro _ _ h f;induction h with|nil=>exact .nil|cons r t ih=>exact .cons (f _ _ r) ih
def Bb.stay(x:Bb P w H h a o)(k:∀b u,(b=a\/H b=some (.own a))->h.get? b=some u->h'.get? b=some u)(ho:∀b,H b=some (.own a)->H' b=some (.own a))(ht:∀b R,H b=some (.tup R)->H' b=some (.tup R)):Bb P w H' h' a o:=by
 induction o with
 |lst R=>obtain⟨z,xf,n,r,e⟩:=x;exact⟨z,xf,n,r,k _ _ (.inl rfl) e⟩
 |tup R=>obtain⟨z,xf,r,Z,e,c⟩:=x;exact⟨z,xf,r,Z,k _ _ (.inl rfl) e,c⟩
 |dK qq=>obtain⟨z,y,vs,r,Z,L,G,e,c⟩:=x;exact⟨z,y,vs,r,Z,L,G,k _ _ (.inl rfl) e,c⟩
 |dT qq =>
  obtain⟨z,y,R,r,Z,L,G,e,c⟩:=x;exact⟨z,y,R,Paired.avd r λp q z=>⟨z.1,ht _ _ z.2.1,z.2.2⟩,Z,L,G,k _ _ (.inl rfl) e,c⟩
 |set S n=>obtain⟨Z,L,G,t,e,c⟩:=x;exact⟨Z,L,G,t,k _ _ (.inl rfl) e,c⟩
 |ins C dx fs =>
  obtain⟨d,z,ne,e,mA,⟨od,L,G,e2,c⟩,r⟩:=x;exact⟨ho _ d,z,ne,k _ _ (.inl rfl) e,mA,⟨od,L,G,k _ _ (.inr d) e2,c⟩,r⟩
 |own y=>obtain⟨Z,e⟩:=x;exact⟨Z,k _ _ (.inl rfl) e⟩
 |xd fs=>obtain⟨mA,⟨od,L,G,e,c⟩,r⟩:=x;exact⟨mA,⟨od,L,G,k _ _ (.inl rfl) e,c⟩,r⟩
 |Mq lo hi=>obtain⟨t,u,v,e⟩:=x;exact⟨t,u,v,k _ _ (.inl rfl) e⟩
 |Hk Z u ih=>obtain⟨e,q⟩:=x;exact⟨k _ _ (.inl rfl) e,ih q⟩
 |U3 ps =>
  have e:h.get? a=some { cls:=.none,data:=.fields ps }:=x;show h'.get? a=some { cls:=.none,data:=.fields ps };exact k a _ (.inl rfl) e
 |met f y =>
  have e:h.get? a=some (PySem.W.methodObj (.ref f) (.ref y)):=x;show h'.get? a=some (PySem.W.methodObj (.ref f) (.ref y));exact k a _ (.inl rfl) e
 |ext φ=>obtain⟨p,⟨o,e⟩,st⟩:=x;exact⟨st _ _ p λo q=>k _ _ (.inl rfl) q,⟨o,k _ _ (.inl rfl) e⟩,st⟩
theorem Jh.lt(x:Jh P w H h)(e:H a=some o):a<h.objs.size:=(x a o e).lt
def Jh.fresh(x:Jh P w H h)(e:h.objs.size<=a):H a=none:=by
 cases q:H a with
 |none=>rfl|some u=>exact absurd (dm (x.lt q) e) (je _)
def Jh.kept(x:Jh P w H h)(k:∀b u,h.get? b=some u->h'.get? b=some u):Jh P w H h':=λa o e =>
 (x a o e).stay (λb u _ q=>k b u q) (λ_ q=>q) λ_ _ q=>q
def Jh.laid(x:Jh P w H h)(k:∀b u,h.get? b=some u->h'.get? b=some u)(L:h.objs.size<=a)(new:Bb P w (upd H a o) h' a o):Jh P w (upd H a o) h':=λb u e=>by
 have G:=x.fresh L
 by_cases Z:b=a
 .subst Z;rw[m8] at e;cases e;exact new
 .rw[gr Z] at e
  exact(x b u e).stay (λc v _ q=>k c v q) (λc q=>by rw[gr (jt q G)];exact q) λc R q=>by rw[gr (jt q G)];exact q
def Rd(H:Hp)(a:Addr)(u:HO):Prop:=H a=some u\/∃o,H a=some (.Hk o u)
def Rd.ok(r:Rd H a u)(x:Jh P w H h):Bb P w H h a u:=by
 rcases r with r|⟨o,r⟩
 .exact x a u r
 .obtain⟨_,q⟩:=x a _ r
  exact q
def Mut:Option HO->Prop
 |some (.lst _)=>True|some (.dK _)=>True|some (.dT _)=>True|some (.set _ _)=>True|some (.ins _ _ _)=>True|some (.ext _)=>True|_=>False
def Jh.write(ok:Jh P w H h)(mu:Mut (H x))(he:e=x\/H e=some (.own x))(k:∀b u,b≠e->h.get? b=some u->h'.get? b=some u)(qk:∃u,h'.get? e=some u)(new:Bb P w (upd H x o') h' x o'):Jh P w (upd H x o') h':=λb u q=>by
 have G:∀c y,H c=some (.own y)->c≠x:=λc y r z=>by subst z;rw[r] at mu;exact mu
 have qq:∀c xs,H c=some (.tup xs)->c≠x:=λc xs r z=>by subst z;rw[r] at mu;exact mu
 by_cases L:b=x
 .subst L;rw[m8] at q;cases q;exact new
 .rw[gr L] at q
  by_cases Z:b=e
  .have q':H b=some (.own x):=by
    rcases he with z|z
    .exact absurd (Z.trans z) L
    .rw[Z];exact z
   rw[q] at q';cases q';obtain⟨v,hv⟩:=qk;exact⟨v,by rw[Z];exact hv⟩
  .refine(ok b u q).stay (λc v R r=>k c v ?_ r) (λc r=>by rw[gr (G c b r)];exact r) λc xs r=>by rw[gr (qq c xs r)];exact r
   rcases R with rfl|R
   .exact Z
   .rintro rfl
    rcases he with z|z
    .exact G c b R z
    .rw[R] at z;cases z;exact L rfl
structure Un(fs ex:X0)(H H':Hp)(h h':Heap):Prop where
 keep:∀b o,h.get? b=some o->H b=none->b∉fs->b∉ex->h'.get? b=some o
 slot:∀b o,h.get? b=some o->H b=none->b∈fs->b∉ex->∃sl,h'.get? b=some { o with slots:=sl }
 free:∀b o,h.get? b=some o->H b=none->b∉ex->H' b=none
 there:∀b o,h.get? b=some o->b∉ex->∃o',h'.get? b=some o'
 Ld:∀b xs,H b=some (.tup xs)->H' b=some (.tup xs)
 Mj:∀b o u,H b=some (.Hk o u)->H' b=some (.Hk o u)
 Nj:∀b ps,H b=some (.U3 ps)->∃more,H' b=some (.U3 (ps++more))
def Un.any(u:Un fs ex H H1 h h1)(q:h.get? b=some Z)(n:H b=none)(L:b∉ex):∃R,h1.get? b=some { Z with slots:=R }:=by
 by_cases G:b∈fs
 .exact u.slot b Z q n G L
 .exact⟨Z.slots,u.keep b Z q n G L⟩
def Un.kept(k:∀b u,h.get? b=some u->h'.get? b=some u):Un fs ex H H h h' :=
 ⟨λb Z q _ _ _=>k b Z q,λb Z q _ _ _=>⟨Z.slots,k b Z q⟩,λ_ _ _ n _=>n,λb Z q _=>⟨Z,k b Z q⟩,λ_ _ q=>q,λ_ _ _ q=>q,λ_ G q=>⟨#[],by rw[q];simp⟩⟩
def Un.refl:Un fs ex H H h h:=Un.kept λ_ _ q=>q
theorem Un.laid(k:∀b u,h.get? b=some u->h'.get? b=some u)(G:h.objs.size<=a)(Z:H a=none):Un fs ex H (upd H a o) h h' where
 keep:=λb u q _ _ _=>k b u q
 slot:=λb u q _ _ _=>⟨u.slots,k b u q⟩
 free:=λb u q n _=>by rw[gr (gn (dm (au q) G))];exact n
 there:=λb u q _=>⟨u,k b u q⟩
 Ld:=λb L q=>by rw[gr (jt q Z)];exact q
 Mj:=λb u L q=>by rw[gr (jt q Z)];exact q
 Nj:=λb R q=>⟨#[],by rw[gr (jt q Z),q];simp⟩
def Un.write(G:Mut (H x))(he:e=x\/H e=some (.own x))(k:∀b u,b≠e->h.get? b=some u->h'.get? b=some u)(L:∃u,h'.get? e=some u):Un fs ex H (upd H x o) h h':=by
 have hx:∀b,H b=none->b≠x:=λb n z=>by subst z;rw[n] at G;exact G
 have hb:∀b,H b=none->b≠e:=λb n z=>by
  subst z;rcases he with r|r
  .exact hx b n r
  .rw[n] at r;cases r
 have R:∀b u,H b=some u->¬Mut (some u)->b≠x:=λb u q nm z=>by subst z;rw[q] at G;exact nm G
 refine⟨λb u q n _ _=>k b u (hb b n) q,λb u q n _ _=>⟨u.slots,k b u (hb b n) q⟩,λb u q n _=>by rw[gr (hx b n)];exact n,λb u q _=>?_,
  λb xs q=>by rw[gr (R b _ q λz=>z)];exact q,λb u xs q=>by rw[gr (R b _ q λz=>z)];exact q,λb ps q=>⟨#[],by rw[gr (R b _ q λz=>z),q];simp⟩⟩
 by_cases Z:b=e
 .subst Z;exact L
 .exact⟨u,k b u Z q⟩
noncomputable def trk(h:Heap)(H:Hp):List Addr:=(List.range h.objs.size).filter λa=>(H a).isSome
def U4(h:Heap)(H:Hp):Heap:=PySem.W.hideAll h (trk h H)
def af9(h:Heap)(H:Hp):(U4 h H).objs.size=h.objs.size:=PySem.W.hideAll_size _ _
def ajm(e:h.get? b=some o)(n:H b=none):(U4 h H).get? b=some o :=
 PySem.W.hideAll_get _ e λZ=>by have q:(H b).isSome=true:=(uy.mp Z).2;rw[n] at q;simp at q
def ao2(e:(U4 h H).get? b=some o):h.get? b=some o/\H b=none:=by
 have Z:h.get? b=some o:=PySem.W.of_hideAll (trk h H) e;refine⟨Z,?_⟩;cases q:H b with
 |none=>rfl
 |some x =>
  have G:b∈trk h H:=uy.mpr ⟨lg.mpr (au Z),by simp[q]⟩;have z:(U4 h H).get? b=none:=PySem.W.hideAll_none (trk h H) G;rw[z] at e;cases e
end L2
namespace L2
open PySem PySem.Spec PyProof.Rows
structure Mod(K:Fg)(mg:Zs)(base:Heap):Prop where
 kin:K.In base
 glob:base.Ns mainGlobals mg
 blt:∃mb,base.Ns builtinsNs mb/\∀x:Str,x≠"__name__" -> mb x=bootBuiltins x
 nolimit:base.NoLimit
structure Cx where
 prog:Program
 w:World
 K:Fg
 mg:Str->Option Value
 base:Heap
 A:Around
 N:List Str
 s₀:Shared
 H₀:Hp
 env:Env
 outer:List Env
 stack:List Env
 ex:List Addr
 fn:Str->Bool
 calm:Bool
 pn:List (Addr×Obj)
 xe:Value->Shared->Prop
noncomputable def Gb(l:List Env):List Addr:=l.filterMap (·.frame)
abbrev Cx.fs(X:Cx):List Addr:=Gb X.outer
def Vis(Z:Scope)(x:Str):Prop:=Z.names.lookup x=some .local\/Z.names.lookup x=some .cell\/Z.names.lookup x=some .free
def Loc(Z:Scope)(x:Str):Prop:=Z.names.lookup x=some .local\/Z.names.lookup x=some .cell
def Look(Z:Env)(h:Heap)(m:Zs)(x:Str)(u:Value):Prop :=
 (Z.kindOf x=some .local/\m x=some u)\/((Z.kindOf x=some .cell\/Z.kindOf x=some .free)/\∃c,Z.cells.lookup x=some c/\h.IsCell c (some u))
structure Cx.Ok(X:Cx):Prop where
 mod:Mod X.K X.mg X.base
 kind:X.env.scope.kind=.function
 glob:X.env.globals=mainGlobals
 blt:X.env.builtins=builtinsNs
 above:X.s₀.heap.objs.size<=X.env.locals
 inj:∀x y c,X.env.cells.lookup x=some c->X.env.cells.lookup y=some c->x=y
 has:∀x,(X.env.kindOf x=some .cell\/X.env.kindOf x=some .free)->∃c,X.env.cells.lookup x=some c
 cab:∀x c,X.fn x=true->X.env.cells.lookup x=some c->X.s₀.heap.objs.size<=c
 hd:X.calm=true->X.A.handled=none
 frames:X.A.frames=some X.stack
 stk:X.stack=X.outer\/(X.stack=X.env::X.outer/\X.env.frame=some X.env.locals)
 exf:∀b∈X.ex,b≠X.env.locals/\∀x c,X.env.cells.lookup x=some c->c≠b
 bs:∀b o,X.base.get? b=some o->X.s₀.heap.get? b=some o/\X.H₀ b=none
 bsz:X.base.objs.size<=X.s₀.heap.objs.size
 Zg:∀b o,X.base.get? b=some o->b∉X.ex
 abx:∀b∈X.ex,b∉X.fs
 Ke:X.s₀.heap.FunFrames X.base X.outer
 frf:∀b∈X.fs,X.H₀ b=none
structure Inv(X:Cx)(pins:Zp)(σ:List (Option V))(H:Hp)(s:Shared):Prop where
 ok:X.Ok
 os:s.os=X.s₀.os
 bare:AllBare s.gens
 base:Un X.fs X.ex X.H₀ H X.s₀.heap s.heap
 loc:∃m,s.heap.Ns X.env.locals m/\∀(i:Nat)(x:Str)(v:V),X.N[i]?=some x->σ[i]?=some (some v)->Vis X.env.scope x->∃u,RelV v u/\Look X.env s.heap m x u
 cell:∀x c,X.env.cells.lookup x=some c->∃v,s.heap.IsCell c v
 free:H X.env.locals=none
 Bw:∀x c,X.env.cells.lookup x=some c->H c=none
 pin:∀p∈X.pn++pins,s.heap.get? p.1=some p.2/\H p.1=none/\p.1≠X.env.locals/\p.1∉X.fs/\∀v,p.2.data≠.cell v
 wk:Jh X.prog X.w H s.heap
 len:σ.length=X.N.length
def Cx.Ok.ajo{X:Cx}(ok:X.Ok)(e:X.base.get? b=some o):b∉X.fs:=λZ=>by have:=(ok.Ke.mem Z).1;rw[e] at this;cases this
theorem Inv.bs(I:Inv X pins σ H s):∀b o,X.base.get? b=some o->s.heap.get? b=some o/\H b=none:=λb o e =>
 ⟨I.base.keep b o (I.ok.bs b o e).1 (I.ok.bs b o e).2 (I.ok.ajo e) (I.ok.Zg b o e),I.base.free b o (I.ok.bs b o e).1 (I.ok.bs b o e).2 (I.ok.Zg b o e)⟩
def Inv.bk(I:Inv X pins σ H s):∀b o,X.base.get? b=some o->s.heap.get? b=some o:=λb o e=>(I.bs b o e).1
theorem Inv.mod(I:Inv X pins σ H s):Mod X.K X.mg X.base:=I.ok.mod
def Inv.kIn(I:Inv X pins σ H s):X.K.In s.heap:=I.ok.mod.kin.keeps I.bk
theorem Inv.lt(I:Inv X pins σ H s):X.env.locals<s.heap.objs.size:=let ⟨_,hn,_⟩:=I.loc;hn.lt
def Inv.sz(I:Inv X pins σ H s):X.s₀.heap.objs.size<=s.heap.objs.size:=dq I.ok.above (zj I.lt)
def Inv.ao4(I:Inv X pins σ H s)(h:s.heap.objs.size<=a):a∉X.fs:=λZ=>by obtain⟨_,o,G,_⟩:=I.ok.Ke.mem Z;exact absurd (dm (au G) (dq I.sz h)) (je _)
def Inv.cne(I:Inv X pins σ H s):∀x c,X.env.cells.lookup x=some c->c≠X.env.locals:=λx c e z=>by obtain⟨v,o,G,Z⟩:=I.cell x c e;obtain⟨m,⟨o',es,ep,L,R,_⟩,_⟩:=I.loc;rw[z,L] at G;cases G;rw[R] at Z;cases Z
theorem Inv.Ke(I:Inv X pins σ H s):s.heap.FunFrames X.base X.outer:=by
 have all:∀(l:List Env),(∀b∈Gb l,b∈X.fs)->X.s₀.heap.FunFrames X.base l->s.heap.FunFrames X.base l:=by
  intro l
  induction l with
  |nil=>intro _ _;trivial
  |cons qq r ih =>
   intro hs hl;obtain⟨hk,⟨L,o,Z,hn,ho,hd⟩,hr⟩:=hl;have R:L∈X.fs:=hs L (by unfold Gb;rw[zx,Z];exact bu);obtain⟨sl,e⟩:=I.base.slot L o ho (I.ok.frf L R) R λz=>I.ok.abx L z R
   exact⟨hk,⟨L,_,Z,hn,e,hd⟩,ih (λb G=>hs b (by unfold Gb;rw[zx,Z];exact bc _ G)) hr⟩
 exact all X.outer (λ_ G=>G) I.ok.Ke
theorem Inv.stack(I:Inv X pins σ H s):s.heap.FunFrames X.base X.stack:=by
 rcases I.ok.stk with e|⟨e,hf⟩
 .rw[e];exact I.Ke
 .rw[e]
  obtain⟨m,Z,_⟩:=I.loc;refine .cons (by rw[I.ok.kind];decide) hf Z ?_ I.Ke;exact Heap.get?_none_of_le (dq I.ok.bsz I.ok.above)
def Inv.Ii(I:Inv X pins σ H s):∀b∈Gb X.stack,b∈X.env.locals::X.fs:=λb Z=>by
 rcases I.ok.stk with e|⟨e,hf⟩
 .rw[e] at Z;exact bc _ Z
 .rw[e] at Z
  unfold Gb at Z;rw[zx,hf] at Z;exact Z
def Inv.K7(I:Inv X pins σ H s):∀b∈Gb X.stack,H b=none:=λb Z=>by
 rcases bx.mp (I.Ii b Z) with e|Z
 .rw[e];exact I.free
 .obtain⟨_,o,G,_⟩:=I.ok.Ke.mem Z
  exact I.base.free b o G (I.ok.frf b Z) λz=>I.ok.abx b z Z
def Inv.step{ch:X0}(I:Inv X pins σ H s)(L:∀b∈ch,(b∈X.ex\/X.s₀.heap.objs.size<=b)/\b≠X.env.locals/\(∀x c,X.env.cells.lookup x=some c->c≠b)/\∀p∈X.pn++pins,p.1≠b)(keep:∀b o,b≠X.env.locals->b∉X.fs->b∉ch->s.heap.get? b=some o->H b=none->h'.get? b=some o)(qk:∀b o,b≠X.env.locals->b∈X.fs->b∉ch->s.heap.get? b=some o->H b=none->∃sl,h'.get? b=some { o with slots:=sl })(free:∀b o,b∉ch->s.heap.get? b=some o->H b=none->H' b=none)(qv:∀b o,b∉ch->s.heap.get? b=some o->∃o',h'.get? b=some o')(Ld:∀b xs,H b=some (.tup xs)->H' b=some (.tup xs))(Mj:∀b o u,H b=some (.Hk o u)->H' b=some (.Hk o u))(Nj:∀b ps,H b=some (.U3 ps)->∃q1,H' b=some (.U3 (ps++q1)))(ns:∀m,s.heap.Ns X.env.locals m->h'.Ns X.env.locals m)(wk:Jh X.prog X.w H' h')(hg:AllBare g') :
 Inv X pins σ H' { s with heap:=h',gens:=g',drawn:=d',toks:=t' }:=by
 have q0:∀b o,X.s₀.heap.get? b=some o->b≠X.env.locals:=λb o e=>gn (dm (au e) I.ok.above)
 have qq:∀b o,X.s₀.heap.get? b=some o->b∉X.ex->b∉ch:=λb o e Z hb=>by
  rcases(L b hb).1 with z|z
  .exact Z z
  .exact absurd (dm (au e) z) (je _)
 have R:∀x c,X.env.cells.lookup x=some c->∀v,s.heap.IsCell c v->h'.IsCell c v:=λx c e v ⟨o,ho,hd⟩=>by
  have G:c∉ch:=λz=>(L c z).2.2.1 x c e rfl
  by_cases hc:c∈X.fs
  .obtain⟨sl,q⟩:=qk c o (I.cne x c e) hc G ho (I.Bw x c e)
   exact⟨_,q,hd⟩
  .exact⟨o,keep c o (I.cne x c e) hc G ho (I.Bw x c e),hd⟩
 refine⟨I.ok,I.os,hg,⟨λb o e n hb Z=>?_,λb o e n hb Z=>?_,λb o e n Z=>?_,λb o e Z=>?_,λb xs e=>Ld b xs (I.base.Ld b xs e),λb o xs e=>Mj b o xs (I.base.Mj b o xs e),λb ps e=>?_⟩,?_,λx c e=>?_,?_,λx c e=>?_,λp hp=>?_,wk,I.len⟩
 .exact keep b o (q0 b o e) hb (qq b o e Z) (I.base.keep b o e n hb Z) (I.base.free b o e n Z)
 .obtain⟨sl,e1⟩:=I.base.slot b o e n hb Z
  obtain⟨q2,e2⟩:=qk b _ (q0 b o e) hb (qq b o e Z) e1 (I.base.free b o e n Z);exact⟨q2,e2⟩
 .obtain⟨o',e1⟩:=I.base.there b o e Z
  exact free b o' (qq b o e Z) e1 (I.base.free b o e n Z)
 .obtain⟨o',e1⟩:=I.base.there b o e Z
  exact qv b o' (qq b o e Z) e1
 .obtain⟨m1,e1⟩:=I.base.Nj b ps e
  obtain⟨m2,e2⟩:=Nj b _ e1;exact⟨m1++m2,by rw[e2,Array.append_assoc]⟩
 .obtain⟨m,hn,hl⟩:=I.loc
  refine⟨m,ns m hn,λi x v e1 e2 e3=>?_⟩;obtain⟨u,r,l⟩:=hl i x v e1 e2 e3;refine⟨u,r,?_⟩;rcases l with l|⟨k,c,e,z⟩
  .exact .inl l
  .exact .inr ⟨k,c,e,R x c e _ z⟩
 .obtain⟨v,z⟩:=I.cell x c e
  exact⟨v,R x c e v z⟩
 .obtain⟨m,⟨o,_,_,ho,_⟩,_⟩:=I.loc
  exact free _ o (λz=>(L _ z).2.1 rfl) ho I.free
 .obtain⟨v,o,ho,hd⟩:=I.cell x c e
  exact free c o (λz=>(L c z).2.2.1 x c e rfl) ho (I.Bw x c e)
 .obtain⟨e,n,ne,nf,d⟩:=I.pin p hp
  have G:p.1∉ch:=λz=>(L p.1 z).2.2.2 p hp rfl
  exact⟨keep p.1 p.2 ne nf G e n,free p.1 p.2 G e n,ne,nf,d⟩
def Inv.un(I:Inv X pins σ H s)(u:Un X.fs [] H H' s.heap h')(wk:Jh X.prog X.w H' h'):Inv X pins σ H' { s with heap:=h',toks:=t' }:=by
 obtain⟨m,⟨o,es,ep,ho,r⟩,_⟩:=id I.loc;obtain⟨sl,hL⟩:=u.any ho I.free (by simp);exact I.step (g':=s.gens) (d':=s.drawn) (ch:=[]) (λ_ z=>nomatch z) (λb o _ Z _ e n=>u.keep b o e n Z (by simp)) (λb o _ Z _ e n=>u.slot b o e n Z (by simp)) (λb o _ e n=>u.free b o e n (by simp)) (λb o _ e=>u.there b o e (by simp)) u.Ld u.Mj u.Nj (λm' hm=>by
  obtain⟨o',L,G,R,r'⟩:=hm;rw[ho] at R;cases R;exact⟨_,L,G,hL,r'⟩) wk I.bare
def Inv.call(I:Inv X pins σ H s)(u:Un (Gb X.stack) ch H H' s.heap h')(wk:Jh X.prog X.w H' h')(hg:AllBare g')(G:∀b∈ch,(b∈X.ex\/X.s₀.heap.objs.size<=b)/\b≠X.env.locals/\(∀x c,X.env.cells.lookup x=some c->c≠b)/\∀p∈X.pn++pins,p.1≠b) :
 Inv X pins σ H' { s with heap:=h',gens:=g',drawn:=d',toks:=t' }:=by
 obtain⟨m,⟨o,es,ep,ho,r⟩,_⟩:=id I.loc;obtain⟨sl,R⟩:=u.any ho I.free λz=>(G _ z).2.1 rfl
 exact I.step (ch:=ch) G (λb o R hb Z e n=>u.keep b o e n (λz=>(bx.mp (I.Ii b z)).elim R hb) Z) (λb o _ _ Z e n=>u.any e n Z) (λb o Z e n=>u.free b o e n Z) (λb o Z e=>u.there b o e Z) u.Ld u.Mj u.Nj (λm' hm=>by
  obtain⟨o',qq,L,Uw,r'⟩:=hm;rw[ho] at Uw;cases Uw;exact⟨_,qq,L,R,r'⟩) wk hg
def Inv.turned(I:Inv X pins σ H s)(k:∀b o,b≠it->s.heap.get? b=some o->h'.get? b=some o)(hn:H it=none)(L:it≠X.env.locals)(h1:it∈X.ex\/X.s₀.heap.objs.size<=it)(h2:∀x c,X.env.cells.lookup x=some c->c≠it)(h3:∀p∈X.pn++pins,p.1≠it):Inv X pins σ H { s with heap:=h',toks:=t' }:=by
 have G:∀b u,H b=some u->b≠it:=λb u e z=>by rw[z,hn] at e;cases e
 refine I.step (g':=s.gens) (d':=s.drawn) (ch:=[it]) (λb R=>?_) (λb o _ _ Z e _=>k b o (λz=>Z (by simp[z])) e) (λb o _ _ Z e _=>⟨o.slots,k b o (λz=>Z (by simp[z])) e⟩) (λ_ _ _ _ n=>n)
  (λb o Z e=>⟨o,k b o (λz=>Z (by simp[z])) e⟩) (λ_ _ e=>e) (λ_ _ _ e=>e) (λb ps e=>⟨#[],by rw[e];simp⟩) (λm hm=>?_) (λb u e=>?_) I.bare
 .have e:b=it:=by simpa using R
  subst e;exact⟨h1,L,h2,h3⟩
 .obtain⟨o,es,ep,ho,r⟩:=hm
  exact⟨o,es,ep,k _ o (j5 L) ho,r⟩
 .refine(I.wk b u e).stay (λc v Z q=>k c v ?_ q) (λ_ q=>q) λ_ _ q=>q
  rcases Z with z|z
  .rw[z];exact G b u e
  .exact G c _ z
def Inv.tok(I:Inv X pins σ H s)(t:Nat):Inv X pins σ H { s with toks:=t }:=I.un (h':=s.heap) (t':=t) Un.refl I.wk
theorem Inv.kept(I:Inv X pins σ H s)(k:∀b u,s.heap.get? b=some u->Z.get? b=some u):Inv X pins σ H { s with heap:=Z,toks:=t' }:=I.un (Un.kept k) (I.wk.kept k)
theorem Inv.laid(I:Inv X pins σ H s)(k:∀b u,s.heap.get? b=some u->h'.get? b=some u)(Z:s.heap.objs.size<=a)(new:Bb X.prog X.w (upd H a o) h' a o) :
 Inv X pins σ (upd H a o) { s with heap:=h',toks:=t' }:=I.un (Un.laid k Z (I.wk.fresh Z)) (I.wk.laid k Z new)
theorem Inv.write(I:Inv X pins σ H s)(R:Mut (H x))(L:e=x\/H e=some (.own x))(k:∀b u,b≠e->s.heap.get? b=some u->G.get? b=some u)(Z:∃u,G.get? e=some u)(new:Bb X.prog X.w (upd H x o) G x o):Inv X pins σ (upd H x o) { s with heap:=G,toks:=t' }:=I.un (Un.write R L k Z) (I.wk.write R L k Z new)
def Inv.weak(I:Inv X pins σ H s)(Z:σ'.length=σ.length)(w:∀(i:Nat) v,σ'[i]?=some (some v)->σ[i]?=some (some v)):Inv X pins σ' H s :=
 ⟨I.ok,I.os,I.bare,I.base,let ⟨m,hn,hl'⟩:=I.loc;⟨m,hn,λi x v L G R=>hl' i x v L (w i v G) R⟩,I.cell,I.free,I.Bw,I.pin,I.wk,Z.trans I.len⟩
def Inv.K8(I:Inv X pins σ H s)(h:∀p∈G,s.heap.get? p.1=some p.2/\H p.1=none/\p.1≠X.env.locals/\p.1∉X.fs/\∀v,p.2.data≠.cell v):Inv X G σ H s :=
 ⟨I.ok,I.os,I.bare,I.base,I.loc,I.cell,I.free,I.Bw,λp Z=>(fj.mp Z).elim (λz=>I.pin p (kh _ z)) (h p),I.wk,I.len⟩
def Zh{N:Ya}(Z:N.Nodup){i:Nat}(a:N[i]?=some x)(b:N[j]?=some x):i=j:=by obtain⟨h1,L⟩:=aq.mp a;obtain⟨R,G⟩:=aq.mp b;exact(vq Z).mp (L.trans G.symm)
def agc(I:Inv X pins σ H s)(hN:X.N.Nodup)(hi:X.N[i]?=some x)(hx:Loc X.env.scope x)(r:RelV v u)(h:∀s',Inv X pins (σ.set i (some v)) H s'->(∃a,Heap.SameBut a s.heap s'.heap/\(a=X.env.locals\/X.env.cells.lookup x=some a))->Q () s')(hf:X.fn x=true\/X.env.scope.names.lookup x=some .local:=by first|exact .inl rfl|exact .inr rfl|assumption):wpAny M A (storeName X.env x u) Q E s:=by
 obtain⟨m,hn,hl⟩:=id I.loc;have q3:(X.env.scope.kind==.class||(X.env.scope.kind==.module&&X.env.locals != X.env.globals))=false:=by rw[I.ok.kind];rfl
 have qq:i < σ.length:=by rw[I.len];exact(aq.mp hi).1
 have cne:=I.cne;have G:∀{a:Addr}{h':Heap},(∃o,s.heap.get? a=some o/\H a=none)->Heap.SameBut a s.heap h'->Jh X.prog X.w H h':=fun{a h'} ha Z b ob e=>by
  obtain⟨_,_,Lp⟩:=ha;refine(I.wk b ob e).stay (λc w' R q=>(Z.2 c ?_).trans q) (λ_ q=>q) λ_ _ q=>q
  rintro rfl;rcases R with rfl|R
  .rw[Lp] at e;cases e
  .rw[Lp] at R;cases R
 rcases hx with hk|hk
 .refine wpAny_storeName_local hk hn (λh' Vf Z=>?_) q3
  obtain⟨oL,_,_,q2,_⟩:=id hn;refine h _ ⟨I.ok,I.os,I.bare,⟨λb o e n hb hx=>?_,λb o e n hb hx=>?_,I.base.free,λb o e hx=>?_,I.base.Ld,I.base.Mj,I.base.Nj⟩,⟨_,Vf,λj y v' L e2 e3=>?_⟩,λy c e=>?_,I.free,I.Bw,λp hp=>?_,G ⟨oL,q2,I.free⟩ Z,by simpa using I.len⟩ ⟨_,Z,.inl rfl⟩
  .exact(Z.2 b (gn (dm (au e) I.ok.above))).trans (I.base.keep b o e n hb hx)
  .obtain⟨sl,L⟩:=I.base.slot b o e n hb hx
   exact⟨sl,(Z.2 b (gn (dm (au e) I.ok.above))).trans L⟩
  .obtain⟨o',L⟩:=I.base.there b o e hx
   exact⟨o',(Z.2 b (gn (dm (au e) I.ok.above))).trans L⟩
  .by_cases hj:j=i
   .subst hj
    rw[hi] at L;cases L;rw[yj qq] at e2;cases e2;exact⟨u,r,.inl ⟨hk,by simp⟩⟩
   .rw[uq (j5 hj)] at e2
    obtain⟨u',r',q⟩:=hl j y v' L e2 e3;refine⟨u',r',?_⟩;rcases q with⟨k,e⟩|⟨k,c,e,z⟩
    .refine .inl ⟨k,?_⟩
     have:y≠x:=λe=>hj (Zh hN L (e▸hi))
     simp[this,e]
    .exact .inr ⟨k,c,e,z.sameBut Z (cne y c e)⟩
  .obtain⟨w',z⟩:=I.cell y c e
   exact⟨w',z.sameBut Z (cne y c e)⟩
  .obtain⟨e,n,ne,nf,d⟩:=I.pin p hp
   exact⟨(Z.2 p.1 ne).trans e,n,ne,nf,d⟩
 .have qk:X.fn x=true:=by
   rcases hf with z|z
   .exact z
   .rw[z] at hk;cases hk
  obtain⟨c,R⟩:=I.ok.has x (.inl hk);obtain⟨w',z⟩:=I.cell x c R;refine wpAny_storeName_cell I.ok.kind hk R z (λh' Wh Z=>?_);obtain⟨oc,qv,q1⟩:=id z;refine h { s with heap:=h' } ⟨I.ok,I.os,I.bare,⟨λb o e n hb hx=>?_,λb o e n hb hx=>?_,I.base.free,λb o e hx=>?_,I.base.Ld,I.base.Mj,I.base.Nj⟩,⟨m,hn.sameBut Z (j5 (cne x c R)),λj y v' L e2 e3=>?_⟩,λy c' e=>?_,I.free,I.Bw,λp hp=>?_,G ⟨oc,qv,I.Bw x c R⟩ Z,by simpa using I.len⟩ ⟨c,Z,.inr R⟩
  .exact(Z.2 b (gn (dm (au e) (I.ok.cab x c qk R)))).trans (I.base.keep b o e n hb hx)
  .obtain⟨sl,L⟩:=I.base.slot b o e n hb hx
   exact⟨sl,(Z.2 b (gn (dm (au e) (I.ok.cab x c qk R)))).trans L⟩
  .obtain⟨o',L⟩:=I.base.there b o e hx
   exact⟨o',(Z.2 b (gn (dm (au e) (I.ok.cab x c qk R)))).trans L⟩
  .by_cases hj:j=i
   .subst hj
    rw[hi] at L;cases L;rw[yj qq] at e2;cases e2;exact⟨u,r,.inr ⟨.inl hk,c,R,Wh⟩⟩
   .rw[uq (j5 hj)] at e2
    obtain⟨u',r',q⟩:=hl j y v' L e2 e3;refine⟨u',r',?_⟩;rcases q with q|⟨k,c',e,z'⟩
    .exact .inl q
    .refine .inr ⟨k,c',e,z'.sameBut Z ?_⟩
     rintro rfl;exact hj (Zh hN L (I.ok.inj _ _ _ e R▸hi))
  .by_cases q0:c'=c
   .subst q0;exact⟨_,Wh⟩
   .obtain⟨w2,z2⟩:=I.cell y c' e
    exact⟨w2,z2.sameBut Z q0⟩
  .obtain⟨e,n,ne,nf,d⟩:=I.pin p hp
   refine⟨(Z.2 p.1 ?_).trans e,n,ne,nf,d⟩;intro q;rw[q,qv] at e;have q':oc=p.2:=gf e;exact d w' (by rw[<- q'];exact q1)
def Zi(I:Inv X pins σ H s)(L:X.N.Nodup)(G:X.N[i]?=some x)(hx:Loc X.env.scope x)(r:RelV v u)(h:∀Z,Inv X pins (σ.set i (some v)) H Z->Q () Z)(R:X.fn x=true\/X.env.scope.names.lookup x=some .local:=by first|exact .inl rfl|exact .inr rfl|assumption):wpAny M A (storeName X.env x u) Q E s :=
 agc I L G hx r (λZ I' _=>h Z I') R
def Inv.call'(I:Inv X pins σ H s)(ho:s'.os=s.os)(u:Un (Gb X.stack) ch H L s.heap s'.heap)(wk:Jh X.prog X.w L s'.heap)(hg:AllBare s'.gens)(Z:∀b∈ch,(b∈X.ex\/X.s₀.heap.objs.size<=b)/\b≠X.env.locals/\(∀x c,X.env.cells.lookup x=some c->c≠b)/\∀p∈X.pn++pins,p.1≠b):Inv X pins σ L s':=by obtain⟨h',g',G,R,o'⟩:=s';have e:o'=s.os:=ho;subst e;exact I.call (g':=g') (t':=R) (d':=G) u wk hg Z
abbrev XK:=Value->Option Addr->Hp->Prop
abbrev St:=List (Option V)
abbrev VK:=V->Hp->Prop
abbrev TE:=St->Hp->VK->Prop
abbrev TT:=St->Hp->(Bool->Hp->Prop)->Prop
abbrev TA:=St->Hp->(List V->Hp->Prop)->Prop
structure Ends where
 nx:St->Hp->Prop
 rt:VK
 bk:St->Hp->Prop:=λ_ _=>False
 ct:St->Hp->Prop:=λ_ _=>False
abbrev TS:=Ends->St->Hp->Prop
def EP(X:Cx)(Z:Zp)(R:St)(Q:VK)(u:Value)(L:Shared):Prop:=∃v G,Inv X Z R G L/\RelV v u/\Q v G
def TP(X:Cx)(Z:Zp)(R:St)(Q:Bool->Hp->Prop)(b:Bool)(L:Shared):Prop:=∃G,Inv X Z R G L/\Q b G
def AP(X:Cx)(Z:Zp)(σ:St)(Q:List V->Hp->Prop)(R:Zl)(s':Shared):Prop:=∃G L,Inv X Z σ L s'/\Vals G R/\Q G L
def SP(X:Cx)(G:Zp)(D:Ends)(f:Flow)(R:Shared):Prop :=
 match f with
 |.next=>∃Z L,Inv X G Z L R/\D.nx Z L|.brk=>∃Z L,Inv X G Z L R/\D.bk Z L|.cont=>∃Z L,Inv X G Z L R/\D.ct Z L|.ret u=>∃v Z L,Inv X G Z L R/\RelV v u/\D.rt v L
def PE(X:Cx)(e:Expr)(t:TE):Prop :=
 ∀(Z:Zp)(s:Shared)(G:St)(H:Hp)(Q:VK),Inv X Z G H s->t G H Q->wpAny (model X.prog X.w) X.A (eval e X.env) (EP X Z G Q) X.xe s
def PT(X:Cx)(e:Expr)(t:TT):Prop :=
 ∀(Z:Zp)(s:Shared)(G:St)(H:Hp)(Q:Bool->Hp->Prop),Inv X Z G H s->t G H Q->wpAny (model X.prog X.w) X.A (isTrue e X.env (eval e X.env)) (TP X Z G Q) X.xe s
def PW(X:Cx)(e:Expr)(t:TT):Prop :=
 ∀(G:Sem Value)(Z:Zp)(s:Shared)(L:St)(H:Hp)(Q:Bool->Hp->Prop),Inv X Z L H s->t L H Q->wpAny (model X.prog X.w) X.A (isTrue e X.env G) (TP X Z L Q) X.xe s
def PW.pt(h:PW X e t):PT X e t:=h _
def PA(X:Cx)(L:Y3)(t:TA):Prop :=
 ∀(pos:Pos)(Z:Zp)(s:Shared)(G:St)(H:Hp)(Q:List V->Hp->Prop),Inv X Z G H s->t G H Q->wpAny (model X.prog X.w) X.A (spliced (backTo pos (starEach L X.env))) (AP X Z G Q) X.xe s
def PS(X:Cx)(L:Stmt)(t:TS):Prop :=
 ∀(Z:Zp)(s:Shared)(G:St)(H:Hp)(D:Ends),Inv X Z G H s->t D G H->wpAny (model X.prog X.w) X.A (exec L X.env) (SP X Z D) X.xe s
def Lq(X:Cx)(L:List Stmt)(t:TS):Prop :=
 ∀(Z:Zp)(s:Shared)(G:St)(H:Hp)(D:Ends),Inv X Z G H s->t D G H->wpAny (model X.prog X.w) X.A (execs L X.env) (SP X Z D) X.xe s
def Al(h:wpAny M A t Q E s)(G:∀a s,Q a s->Z a s):wpAny M A t Z E s:=ik h G λ_ _ x=>x
end L2
namespace L2
open PySem PySem.Spec PyProof.Rows
def avi(i:Nat):TE:=λZ H Q=>∃v,Z[i]?=some (some v)/\Q v H
def tC(v:V):TE:=λ_ H Q=>Q v H
def O6(hN:X.N[i]?=some x)(hv:Vis X.env.scope x)(L:(x==("__debug__" : Str))=false:=by decide)(Rx:(x==("__classdict__" : Str))=false:=by decide):PE X (.Name x pos) (avi i):=by
 intro G s σ H Q I h;obtain⟨v,e,h⟩:=h;obtain⟨m,hn,hl⟩:=I.loc;obtain⟨u,r,l⟩:=hl i x v hN e hv;have fin:EP X G σ Q u s:=⟨v,H,I,r,h⟩;rcases l with⟨Z,hm⟩|⟨Z,c,R,Zj⟩
 .exact wpAny_Name (wpAny_loadName_local I.ok.kind Z hn hm fin) L
 .rcases Z with Z|Z
  .exact wpAny_Name (wpAny_loadName_cell I.ok.kind Z R Zj fin) L
  .exact wpAny_Name (wpAny_loadName_free I.ok.kind Z R Zj fin Rx) L
def avj:PE X (.Constant (.int i) j pos) (tC (.int i)):=λ_ _ _ H _ I h=>wpAny_Constant_int ⟨.int i,H,I.tok _,⟨_,rfl⟩,h⟩
def a0u:PE X (.Constant (.bool b) j pos) (tC (.bl b)):=λ_ _ _ H _ I h=>Constant_bool ⟨.bl b,H,I,rfl,h⟩
def ajq:PE X (.Constant .none j pos) (tC .non):=λ_ _ _ H _ I h=>Constant_none ⟨.non,H,I,rfl,h⟩
def ajr:PE X (.Constant (.str x) j pos) (tC (.str x)):=λ_ _ _ H _ I h=>Calls.Constant_str ⟨.str x,H,I.tok _,⟨_,rfl⟩,h⟩
def Gl(X:Cx)(x:Str):Prop:=X.env.kindOf x=some .globalImplicit
def Ij(I:Inv X pins σ H s)(G:Gl X x)(Z:X.mg x=some u)(h:Q u s)(L:(x==("__debug__" : Str))=false:=by decide):wpAny (model X.prog X.w) X.A (eval (.Name x pos) X.env) Q E s :=
 Calls.Name_function_global I.ok.kind G (Calls.loadGlobal_global (by rw[I.ok.glob];exact I.mod.glob.keeps I.bk) Z h) L
def Hh(I:Inv X pins σ H s)(G:Gl X x)(Z:X.mg x=none)(R:bootBuiltins x=some u)(h:Q u s)(hn:x≠"__name__" := by decide)(hd:(x==("__debug__" : Str))=false:=by decide):wpAny (model X.prog X.w) X.A (eval (.Name x pos) X.env) Q E s:=by obtain⟨mb,h1,L⟩:=I.mod.blt;exact Calls.Name_function_global I.ok.kind G (Calls.loadGlobal_builtin (by rw[I.ok.glob];exact I.mod.glob.keeps I.bk) Z (by rw[I.ok.blt];exact h1.keeps I.bk) ((L x hn).trans R) h) hd
def ao6(G:Gl X x)(Z:X.mg x=some u)(r:RelV v u)(L:(x==("__debug__" : Str))=false:=by decide):PE X (.Name x pos) (tC v) :=
 λ_ _ _ H _ I h=>Ij I G Z ⟨v,H,I,r,h⟩ L
def PC(X:Cx)(op:CmpOp)(a b:Expr)(t:TE):Prop :=
 ∀(Z:Zp)(s:Shared)(R:St)(H:Hp)(Q:VK),Inv X Z R H s->t R H Q ->
  wpAny (model X.prog X.w) X.A (eval a X.env) (λv L=>wpAny (model X.prog X.w) X.A (eval b X.env) (λu G=>wpAny (model X.prog X.w) X.A (compareOp op v u) (EP X Z R Q) X.xe G) X.xe L) X.xe s
def Zk(b:Expr)(h:op≠.In)(L:op≠.NotIn):behindInMarks op b=false:=by
 have G:(op==CmpOp.In)=false:=by cases op<;>first|rfl|exact absurd rfl h
 have Z:(op==CmpOp.NotIn)=false:=by cases op<;>first|rfl|exact absurd rfl L
 cases b<;>simp[behindInMarks,G,Z]
def tB(t:TE):TT:=λG H Q=>t G H λx Z=>∃c,x=.bl c/\Q c Z
def avk(h:PC X op a b t)(R:behindInMarks op b=false:=by first|exact Zk _ (by decide) (by decide)|rfl):PE X (.Compare a [op] [b] pos) t:=λZ s L H Q I G=>wpAny_Compare1 (h Z s L H Q I G) R
def avl(h:PC X op a b t)(G:behindInMarks op b=false:=by first|exact Zk _ (by decide) (by decide)|rfl):PT X (.Compare a [op] [b] pos) (tB t):=by intro Z s σ H Q I R;refine wpAny_isTrue_Compare1 (Al (h Z s σ H _ I R) λv s1 G=>Al G λu s2 L=>Al L λc s3 ⟨x,H1,I1,r1,q1⟩=>?_) G;obtain⟨d,rfl,q⟩:=q1;cases r1;exact iu ⟨H1,I1,q⟩
def avm(h:PE X e t)(R:∀Z,isTrue e X.env Z=(do let v <- Z;standAt e.pos;holding [v] (truthy v)):=by intro _;rfl):PT X e (tB t):=by intro G s σ H Q I L;refine isTrue_plain (Al (h G s σ H _ I L) λv s1 ⟨x,H1,I1,r1,q1⟩=>?_) (R _);obtain⟨d,rfl,q⟩:=q1;cases r1;exact iu ⟨H1,I1,q⟩
def a8v(t u:TT):TT:=λG H Q=>t G H λc Z=>if c=true then u G Z Q else Q false Z
def tOr(t u:TT):TT:=λG H Q=>t G H λc Z=>if c=true then Q true Z else u G Z Q
def a8w(t:TT):TT:=λG H Q=>t G H λc Z=>Q (!c) Z
def ao7(G:PT X a tA):PW X (.BoolOp .And [a] pos) tA:=by
 intro wh Z s L H Q I h;refine isTrue_and (Al (G Z s L H Q I h) λc R e=>?_);cases c with
 |true=>exact isTrue_and_nil e|false=>exact e
def avn(G:PT X a tA):PW X (.BoolOp .Or [a] pos) tA:=by
 intro wh Z s L H Q I h;refine isTrue_or (Al (G Z s L H Q I h) λc R e=>?_);cases c with
 |false=>exact isTrue_or_nil e|true=>exact e
def avo{Z:Y3}(ha:PT X a tA)(hb:PW X (.BoolOp .And (b::Z) pos) tB'):PW X (.BoolOp .And (a::b::Z) pos) (a8v tA tB'):=by
 intro wh G s σ H Q I h;refine isTrue_and (Al (ha G s σ H _ I h) λc s1 z_=>?_);obtain⟨R,I1,L⟩:=z_;cases c with
 |true=>exact hb wh G s1 σ R Q I1 L|false=>exact⟨R,I1,L⟩
def a0v{Z:Y3}(ha:PT X a tA)(hb:PW X (.BoolOp .Or (b::Z) pos) tB'):PW X (.BoolOp .Or (a::b::Z) pos) (tOr tA tB'):=by
 intro wh G s σ H Q I h;refine isTrue_or (Al (ha G s σ H _ I h) λc s1 z_=>?_);obtain⟨R,I1,L⟩:=z_;cases c with
 |true=>exact⟨R,I1,L⟩|false=>exact hb wh G s1 σ R Q I1 L
def avp(R:PT X a tA):PT X (.UnaryOp .Not a pos) (a8w tA):=by intro Z s L H Q I h;exact isTrue_not (R Z s L H (λc G=>Q (!c) G) I h)
def a0w(R L:TE):TE:=λG H Q=>R G H λx Z=>∃c,x=.bl c/\if c=true then L G Z Q else Q (.bl false) Z
def a8y(R L:TE):TE:=λG H Q=>R G H λx Z=>∃c,x=.bl c/\if c=true then Q (.bl true) Z else L G Z Q
def a0x(L:TE):TE:=λG H Q=>L G H λx Z=>∃c,x=.bl c/\Q (.bl (!c)) Z
def avq{Z:Y3}(ha:PE X a ta)(hb:PE X (.BoolOp .And (b::Z) pos) tb):PE X (.BoolOp .And (a::b::Z) pos) (a0w ta tb):=by
 intro G s σ H Q I h;refine BoolOp_and (Al (ha G s σ H _ I h) λv s1 z_=>?_);obtain⟨x,R,I1,r1,L⟩:=z_;obtain⟨c,rfl,L⟩:=L;cases r1;refine iu ?_;cases c with
 |true=>exact hb G s1 σ R Q I1 L|false=>exact⟨.bl false,R,I1,rfl,L⟩
def a0y{Z:Y3}(ha:PE X a ta)(hb:PE X (.BoolOp .Or (b::Z) pos) tb):PE X (.BoolOp .Or (a::b::Z) pos) (a8y ta tb):=by
 intro G s σ H Q I h;refine BoolOp_or (Al (ha G s σ H _ I h) λv s1 z_=>?_);obtain⟨x,R,I1,r1,L⟩:=z_;obtain⟨c,rfl,L⟩:=L;cases r1;refine iu ?_;cases c with
 |false=>exact hb G s1 σ R Q I1 L|true=>exact⟨.bl true,R,I1,rfl,L⟩
def avr(ha:PE X a L):PE X (.UnaryOp .Not a pos) (a0x L):=by intro Z s σ H Q I h;refine UnaryOp_ (Al (ha Z s σ H _ I h) λv s1 z_=>?_);obtain⟨x,H1,I1,R,G⟩:=z_;obtain⟨c,rfl,G⟩:=G;cases R;exact not_of (iu ⟨.bl (!c),H1,I1,rfl,G⟩)
def tIf(t:TT)(R L:TE):TE:=λZ H Q=>t Z H λc G=>if c=true then R Z G Q else L Z G Q
def ajs(hc:PT X c tA)(ha:PE X a ta)(hb:PE X b tb):PE X (.IfExp c a b pos) (tIf tA ta tb):=by
 intro Z s G H Q I h;refine wpAny_IfExp (Al (hc Z s G H _ I h) λd s1 z_=>?_);obtain⟨R,I1,L⟩:=z_;cases d with
 |true=>exact ha Z s1 G R Q I1 L|false=>exact hb Z s1 G R Q I1 L
end L2
namespace L2
open PySem PySem.Spec PyProof.Rows
def Ha(K:Fg)(H:Hp)(a:Addr)(G:List V):Prop :=
 Rd H a (.lst G) \/
  ∃(o:Obj)(Z:Xs)(n:Nat),K.lookup a=some o/\o.cls=.type "list"/\o.dict=none/\o.data=.seq Z n/\Z.size<=sizeLine/\Vals G Z.toList
def Hl(K:Fg)(H:Hp)(a:Addr)(G:List V):Prop :=
 Rd H a (.tup G) \/
  ∃(o:Obj)(Z:Xs)(n:Nat),K.lookup a=some o/\o.cls=.type "tuple"/\o.data=.seq Z n/\Z.size<=sizeLine/\Vals G Z.toList
noncomputable def a8z:Value->Option V
 |.none=>some .non|.bool b=>some (.bl b)|.int i _=>some (.int i)|.str x _=>some (.str x)|.bytes b _=>some (.byt b)|.float b _=>some (.flt b)|.ref a=>some (.ref a)|.type n=>some (.ty n)|_=>none
def RelV.abs(r:RelV x u):a8z u=some x:=by
 cases x with
 |non=>cases r;rfl|bl _=>cases r;rfl|int _=>obtain⟨t,rfl⟩:=r;rfl
 |str _=>obtain⟨t,rfl⟩:=r;rfl
 |byt _=>obtain⟨t,rfl⟩:=r;rfl
 |flt _=>obtain⟨t,rfl⟩:=r;rfl
 |ref _=>cases r;rfl|ty _=>cases r;rfl
def RelV.inj(r:RelV x u)(q:RelV y u):x=y:=gf (r.abs.symm.trans q.abs)
theorem Vals.inj:∀{Z L:List V}{G:Zl},Vals Z G->Vals L G->Z=L
 |_,_,_,.nil,.nil=>rfl|_,_,_,.cons r t,.cons r' t'=>by rw[r.inj r',Vals.inj t t']
def Ha.of{K:Fg}(h:H a=some (.lst xs)):Ha K H a xs:=.inl (.inl h)
def Hl.of{K:Fg}(h:H a=some (.tup xs)):Hl K H a xs:=.inl (.inl h)
def Inv.list(I:Inv X pins σ H s)(h:Ha X.K H a G):∃Z:List Value,Vals G Z/\PlainL s.heap a Z.toArray/\G.length<=sizeLine:=by
 rcases h with h|⟨o,Z,n,hk,hc,hd,hs,hz,r⟩
 .obtain⟨z,Z,n,r,e⟩:=h.ok I.wk
  exact⟨Z,r,⟨_,n,e,rfl,rfl,rfl⟩,z⟩
 .refine⟨Z.toList,r,⟨o,n,I.kIn a o hk,hc,hd,by simpa using hs⟩,?_⟩
  have e:=r.length;simp only[mq] at e;exact a_ (f_ e) hz
def Inv.tuple(I:Inv X pins σ H s)(h:Hl X.K H a G):∃Z:List Value,Vals G Z/\IsTup s.heap a Z.toArray/\G.length<=sizeLine:=by
 rcases h with h|⟨o,Z,n,hk,hc,hs,hz,r⟩
 .obtain⟨z,Z,r,p⟩:=h.ok I.wk
  exact⟨Z,r,p.is,z⟩
 .refine⟨Z.toList,r,⟨o,I.kIn a o hk,hc,n,by simpa using hs⟩,?_⟩
  have e:=r.length;simp only[mq] at e;exact a_ (f_ e) hz
def Inv.Zm(I:Inv X pins σ H s)(h:Ha X.K H a xs)(L:Ha X.K H a ys):xs=ys:=by
 obtain⟨xf,r,⟨o,n,e,_,_,d⟩,_⟩:=I.list h;obtain⟨its',R,⟨o',n',G,_,_,Z⟩,_⟩:=I.list L;rw[e] at G;cases G;rw[d] at Z;injection Z with d1 _
 have:xf=its':=by simpa using nq Array.toList d1
 subst this;exact r.inj R
def Inv.Vr(I:Inv X pins σ H s)(h:Hl X.K H a xs)(L:Hl X.K H a ys):xs=ys:=by
 obtain⟨xf,r,⟨o,e,_,n,d⟩,_⟩:=I.tuple h;obtain⟨its',R,⟨o',G,_,n',Z⟩,_⟩:=I.tuple L;rw[e] at G;cases G;rw[d] at Z;injection Z with d1 _
 have:xf=its':=by simpa using nq Array.toList d1
 subst this;exact r.inj R
noncomputable abbrev Cx.U5(X:Cx)(E:Y1):Cx:={ X with xe:=E }
abbrev Cx.nox(X:Cx):Cx:=X.U5 λ_ _=>False
theorem Cx.Ok.U5{X:Cx}(ok:X.Ok)(E:Y1):(X.U5 E).Ok :=
 ⟨ok.mod,ok.kind,ok.glob,ok.blt,ok.above,ok.inj,ok.has,ok.cab,ok.hd,ok.frames,ok.stk,ok.exf,ok.bs,ok.bsz,ok.Zg,ok.abx,ok.Ke,ok.frf⟩
def Cx.Ok.Kf{X:Cx}(ok:(X.U5 E).Ok):X.Ok :=
 ⟨ok.mod,ok.kind,ok.glob,ok.blt,ok.above,ok.inj,ok.has,ok.cab,ok.hd,ok.frames,ok.stk,ok.exf,ok.bs,ok.bsz,ok.Zg,ok.abx,ok.Ke,ok.frf⟩
theorem Inv.U5(I:Inv X pins σ H s)(E:Y1):Inv (X.U5 E) pins σ H s:=⟨I.ok.U5 E,I.os,I.bare,I.base,I.loc,I.cell,I.free,I.Bw,I.pin,I.wk,I.len⟩
theorem Inv.Kf(I:Inv (X.U5 E) pins σ H s):Inv X pins σ H s:=⟨I.ok.Kf,I.os,I.bare,I.base,I.loc,I.cell,I.free,I.Bw,I.pin,I.wk,I.len⟩
theorem SP.Kf(h:SP (X.U5 E) pins D f s'):SP X pins D f s':=by
 cases f with
 |next=>obtain⟨Z,G,I,q⟩:=h;exact⟨Z,G,I.Kf,q⟩
 |brk=>obtain⟨Z,G,I,q⟩:=h;exact⟨Z,G,I.Kf,q⟩
 |cont=>obtain⟨Z,G,I,q⟩:=h;exact⟨Z,G,I.Kf,q⟩
 |ret u=>obtain⟨v,Z,G,I,r,q⟩:=h;exact⟨v,Z,G,I.Kf,r,q⟩
theorem Lq.nox{G:List Stmt}(h:Lq X.nox G t):Lq X G t:=λZ s R H D I L =>
 ik (h Z s R H D (I.U5 _) L) (λ_ _ q=>q.Kf) λ_ _ z=>False.elim z
def ad7:TS:=λD Z H=>D.nx Z H
def ao9(t u:TS):TS:=λD Z H=>t { D with nx:=u D } Z H
def Rk:Lq X [] ad7:=λ_ _ Z H _ I h=>wpAny_execs_nil ⟨Z,H,I,h⟩
def Kg{R:Stmt}{Z:List Stmt}(h1:PS X R t)(h2:Lq X Z u):Lq X (R::Z) (ao9 t u):=by
 intro G s σ H D I h;refine wpAny_execs_cons (Al (h1 G s σ H { D with nx:=u D } I h) λf s1 q=>?_);cases f with
 |next =>
  obtain⟨L,H',I',q⟩:=q;exact h2 G s1 L H' D I' q
 |ret v=>exact q|brk=>exact q|cont=>exact q
def a0z:TS:=λD Z H=>D.ct Z H
def Zn:PS X (.Continue pos) a0z:=λ_ _ Z H _ I h=>wpAny_Continue ⟨Z,H,I,h⟩
def Inv.quiet(I:Inv X pins σ H s):interactive X.env=false:=by simp[interactive,I.ok.kind]
def ajt(G:TE):TS:=λD Z H=>G Z H λ_ L=>D.nx Z L
def Xe(he:PE X e R)(L:swapsWith e none pos.line X.env=pure false:=by rfl):PS X (.Expr e pos) (ajt R):=by intro Z s G H D I h;exact wpAny_Expr_any (Al (he Z s G H _ I h) λv s1 ⟨x,H1,I1,r1,q1⟩=>⟨G,H1,I1,q1⟩) I.quiet L
def a80(Z:TE):TS:=λD G H=>Z G H D.rt
def avs(R:PE X e L):PS X (.Return (some e) pos) (a80 L):=by intro Z s G H D I h;exact wpAny_Return_some (Al (R Z s G H _ I h) λv s1 ⟨x,H1,I1,r1,q1⟩=>⟨x,G,H1,I1,r1,q1⟩)
def a81(c:TT)(t u:TS):TS:=λD Z H=>c Z H λb G=>if b=true then t D Z G else u D Z G
def a00(hc:PT X c tc)(ha:Lq X a t)(hb:Lq X b u):PS X (.If c a b pos) (a81 tc t u):=by
 intro Z s G H D I h;refine wpAny_If (Al (hc Z s G H _ I h) λd s1 z_=>?_);obtain⟨R,I1,L⟩:=z_;cases d with
 |true=>exact ha Z s1 G R D I1 L|false=>exact hb Z s1 G R D I1 L
abbrev TG:=V->St->Hp->(St->Hp->Prop)->Prop
abbrev TGs:=List V->St->Hp->(St->Hp->Prop)->Prop
def PG(X:Cx)(Z:Expr)(t:TG):Prop :=
 ∀(G:Zp)(s:Shared)(σ:St)(H:Hp)(v:V)(u:Value)(Q:St->Hp->Prop),Inv X G σ H s->RelV v u->t v σ H Q ->
  wpAny (model X.prog X.w) X.A (assign Z X.env u) (λ_ s'=>∃L R,Inv X G L R s'/\Q L R) X.xe s
def PGs(X:Cx)(ts:Y3)(t:TGs):Prop :=
 ∀(Z:Zp)(s:Shared)(σ:St)(H:Hp)(R:List V)(L:Zl)(Q:St->Hp->Prop),Inv X Z σ H s->Vals R L->t R σ H Q ->
  wpAny (model X.prog X.w) X.A (assignInOrder ((assignEach ts X.env).map (·.2)) L) (λ_ s'=>∃G H',Inv X Z G H' s'/\Q G H') X.xe s
abbrev avt:=V->V->V->Hp->(Hp->Prop)->Prop
def avu(X:Cx)(t:avt):Prop :=
 ∀(Z:Zp)(s:Shared)(R:St)(H:Hp)(o i v:V)(ov G u:Value)(Q:Hp->Prop),Inv X Z R H s->RelV o ov->RelV i G->RelV v u->t o i v H Q ->
  wpAny (model X.prog X.w) X.A (setItem ov G u) (λ_ s'=>∃L,Inv X Z R L s'/\Q L) X.xe s
def Tn(i:Nat):TG:=λv Z H Q=>Q (Z.set i (some v)) H
def Nk(L:X.N.Nodup)(G:X.N[i]?=some x)(hx:Loc X.env.scope x)(R:X.fn x=true\/X.env.scope.names.lookup x=some .local:=by first|exact .inl rfl|exact .inr rfl|assumption):PG X (.Name x pos) (Tn i):=by intro Z s σ H v u Q I r h;exact wpAny_assign_Name (Zi I L G hx r (λs' I'=>⟨_,H,I',h⟩) R)
def a82:TGs:=λG Z H Q=>G=[]/\Q Z H
def a03(t:TG)(u:TGs):TGs:=λR L H Q=>∃v r,R=v::r/\t v L H λZ G=>u r Z G Q
def apa:PGs X [] a82:=by intro Z s G H L R Q I r h;obtain⟨e,h⟩:=h;subst e;cases r;exact assignInOrder_nil ⟨G,H,I,h⟩
def aju(h1:PG X e t)(h2:PGs X G u)(hs:(assignEach (e::G) X.env).map (·.2)=assign e X.env::(assignEach G X.env).map (·.2):=by rfl):PGs X (e::G) (a03 t u):=by
 intro Z s σ H vs us Q I r h;obtain⟨v,vr,e1,h⟩:=h;subst e1;cases r with
 |cons r rr =>
  rw[hs];refine assignInOrder_cons (Al (h1 Z s σ H _ _ _ I r h) λ_ s1 z_=>?_);obtain⟨L,H1,I1,R⟩:=z_;exact h2 Z s1 L H1 _ _ Q I1 rr R
def a83(K:Fg)(n:Nat)(t:TGs):TG:=λv G H Q=>∃a Z,v=.ref a/\Hl K H a Z/\Z.length=n/\t Z G H Q
def avv(hc:X.calm=true)(h:PGs X G t)(hn:(assignEach G X.env).length=n:=by rfl)(Mv:(assignEach G X.env).findIdx? (·.1)=none:=by rfl):PG X (.Tuple G k pos) (a83 X.K n t):=by
 intro Z s σ H v u Q I r L;obtain⟨a,xs,e1,hq,hl,L⟩:=L;subst e1;cases r;obtain⟨xf,R,ht,hz⟩:=I.tuple hq;refine assign_Tuple_tuple (I.ok.hd hc) ht (by simp[hn,<- hl,R.length]) Mv λh' hx=>?_
 have I1:Inv X Z σ H { s with heap:=h' }:=I.kept (t':=s.toks) λb o e=>hx b o (gn (au e)) e
 exact h Z _ σ H xs _ Q I1 (by simpa using R) L
def a84(to R:TE)(t:avt):TG:=λv Z H Q=>to Z H λo H1=>R Z H1 λi L=>t o i v L λG=>Q Z G
def avw(ho:PE X o to)(hi:PE X i ti)(hs:avu X t)(ha:∀v,assign (.Subscript o i pos) X.env v=(do
 let G <- holding [v] (eval o X.env)
 let L <- holding [v,G] (eval i X.env)
 standAt pos
 holding [v,G,L] (setItem G L v)
 release [v,G,L] []):=by intro _;rfl):PG X (.Subscript o i pos) (a84 to ti t):=by
 intro Z s R H v u Q I r h;rw[ha];refine aa (jc (Al (ho Z s R H _ I h) λG s1 z_=>?_));obtain⟨x,H1,I1,r1,q1⟩:=z_;refine aa (jc (Al (hi Z s1 R H1 _ I1 q1) λL s2 z_=>?_));obtain⟨y,H2,I2,r2,q2⟩:=z_;refine aa (wpAny_standAt (aa (jc (Al (hs Z s2 R H2 x y v G L u _ I2 r1 r2 r q2) λ_ s3 z_=>?_))));obtain⟨H3,I3,q3⟩:=z_;exact wpAny_release ⟨R,H3,I3,q3⟩
def agd(G:TE)(g:TG):TS:=λD Z H=>G Z H λx L=>g x Z L D.nx
def Xf(he:PE X e te)(L:PG X tg g)(hs:swapsWithSole [tg] e pos.line X.env=pure false:=by rfl)(hw:swappedStores [tg] e X.env=pure none:=by rfl)(h1:(assignEach [tg] X.env).map (·.2)=[assign tg X.env]:=by rfl):PS X (.Assign [tg] e pos) (agd te g):=by intro Z s G H D I h;refine wpAny_Assign_stores (Al (he Z s G H _ I h) λv R ⟨x,H1,I1,r1,q1⟩=>?_) hs hw;rw[h1];exact Al (L Z R G H1 x v _ I1 r1 q1) λ_ s2 q=>q
def avx(c:TT)(tb:TS):TS:=λD Z H=>∃W:Nat->St->Hp->Prop,(∃m,W m Z H)/\∀m Z H,W m Z H ->
 c Z H λb R=>if b=true then ∃N:St->Hp->Prop,(∀G H',N G H'->∃L,L<m/\W L G H')/\tb { D with nx:=N,ct:=N,bk:=D.nx } Z R else D.nx Z R
def ajv(hp:PassesOwn (model X.prog X.w) X.A X.env X.xe)(hc:PT X c tc)(hb:Lq X body tb):PS X (.While c body [] pos) (avx tc tb):=by
 intro G s σ H D I h;obtain⟨W,⟨m0,w0⟩,qk⟩:=h;refine wpAny_While (codeAny_whileLoop (λn s'=>∃qq H',Inv X G qq H' s'/\W n qq H') ?_ m0 ⟨σ,H,I,w0⟩);rintro n s1 ⟨L,H1,I1,w1⟩;refine qg hp (Al (hc G s1 L H1 _ I1 (qk n L H1 w1)) λb s2 z_=>?_);obtain⟨H2,I2,q2⟩:=z_;cases b with
 |true =>
  obtain⟨N,hN,q2⟩:=q2;rw[bf rfl];refine qg hp (Al (hb G s2 L H2 _ I2 q2) λf s3 q3=>?_);cases f with
  |next =>
   obtain⟨Z,R,I3,n3⟩:=q3;obtain⟨m',hm,w3⟩:=hN Z R n3;exact⟨m',hm,Z,R,I3,w3⟩
  |cont =>
   obtain⟨Z,R,I3,n3⟩:=q3;obtain⟨m',hm,w3⟩:=hN Z R n3;exact⟨m',hm,Z,R,I3,w3⟩
  |brk=>exact q3|ret v=>exact q3
 |false =>
  rw[az di];exact wpAny_execs_nil ⟨L,H2,I2,q2⟩
structure It where
 go:Nat->Hp->Prop
 yld:Nat->Hp->V->Hp->Prop
 stop:Nat->Hp->Prop
def Q7(X:Cx)(Z:Zp)(H:Hp)(b:Addr):Prop :=
 H b=none/\b≠X.env.locals/\b∉X.fs/\(b∈X.ex\/X.s₀.heap.objs.size<=b)/\(∀x c,X.env.cells.lookup x=some c->c≠b)/\∀p∈X.pn++Z,p.1≠b
def Inv.apb(I:Inv X pins σ H s)(Z:s.heap.objs.size<=b)(G:R b=none):Q7 X pins R b:=by
 refine⟨G,yg (dm I.lt Z),I.ao4 Z,.inr (dq I.sz Z),λx c e z=>?_,λp L z=>?_⟩
 .obtain⟨v,q⟩:=I.cell x c e
  exact absurd (dm q.lt (by rw[z];exact Z)) (je _)
 .exact absurd (dm (au (I.pin p L).1) (by rw[z];exact Z)) (je _)
structure Turn(P:Program)(w:World)(K:Fg)(tg:Expr)(J:It)(fp:X0)(it:Addr)(tn:Nat->Heap->Prop):Prop where
 mem:it∈fp
 obj:∀i h,tn i h->∀b∈fp,∃o,h.get? b=some o/\∀v,o.data≠.cell v
 keep:∀i h h',tn i h->(∀b∈fp,∀o,h.get? b=some o->h'.get? b=some o)->tn i h'
 item:∀(X:Cx),X.prog=P->X.w=w->X.K=K->X.calm=true->∀(i:Nat)(pins:Zp)(s:Shared)(σ:St)(H:Hp)(E:Y1),Inv X pins σ H s->(∀b∈fp,Q7 X pins H b)->tn i s.heap->J.go i H ->
  wpAny (model P w) X.A (pyNext (.ref it)) (λr s1=>∃u,r=some u /\
   wpAny (model P w) X.A (letOwnedTupleGo tg (.ref it) u) (λ_ s2=>∃x H',Inv X pins σ H' s2/\RelV x u/\J.yld i H x H'/\tn (i+1) s2.heap/\∀b∈fp,H' b=none) E s1) E s
 done:∀(X:Cx),X.prog=P->X.w=w->X.K=K->X.calm=true->∀(i:Nat)(pins:Zp)(s:Shared)(σ:St)(H:Hp)(E:Y1),Inv X pins σ H s->(∀b∈fp,Q7 X pins H b)->tn i s.heap->J.stop i H ->
  wpAny (model P w) X.A (pyNext (.ref it)) (λr s1=>r=none/\Inv X pins σ H s1) E s
 self:∀(A:Around)(i:Nat)(s:Shared)(Q:Y1)(E:Y1),tn i s.heap->Q (.ref it) s->wpAny (model P w) A (pyIter (.ref it)) Q E s
abbrev TI:=St->Hp->(It->Hp->Prop)->Prop
def PIE(X:Cx)(Z:Zp)(σ:St)(tg:Expr)(R:It->Hp->Prop)(G:Value)(s2:Shared):Prop :=
 ∃(it:Addr)(fp:X0)(tn:Nat->Heap->Prop)(J:It)(L:Hp),G=.ref it/\Inv X Z σ L s2/\Turn X.prog X.w X.K tg J fp it tn/\tn 0 s2.heap/\(∀b∈fp,Q7 X Z L b)/\R J L
def PI(X:Cx)(tg G:Expr)(wi:TI):Prop :=
 ∀(Z:Zp)(s:Shared)(L:St)(H:Hp)(R:It->Hp->Prop),Inv X Z L H s->wi L H R ->
  wpAny (model X.prog X.w) X.A (eval G X.env) (λv s1=>wpAny (model X.prog X.w) X.A (pyIter v) (PIE X Z L tg R) X.xe s1) X.xe s
def ajw(ho:s.heap.get? it=some o)(G:o.cls=.type n)(hd:o.data=.fields L)(R:["enumerate", "zip", "dict_itemiterator", "dict_reverseitemiterator", "odict_iterator", "itertools.zip_longest", "itertools.pairwise"].contains n=false)(Z:Q () s):wpAny M A (letOwnedTupleGo tg (.ref it) u) Q E s:=by
 unfold letOwnedTupleGo;cases tg<;>first
  |exact aj Z
  | (cases u<;>first
   |exact aj Z
   | (refine aa (wpAny_load ho ?_)
      rw[G,hd];show wpAny M A (if(["enumerate", "zip", "dict_itemiterator", "dict_reverseitemiterator", "odict_iterator", "itertools.zip_longest", "itertools.pairwise"].contains n&&L[0]?==some (rawInt _))=true then _ else _) Q E s;rw[az (by intro h;rw[R,Bool.false_and] at h;cases h)];exact aj Z))
noncomputable def Itl(K:Fg)(a:Addr):It :=
 ⟨λi H=>∃Z x,Ha K H a Z/\Z[i]?=some x,λi H x G=>G=H/\∀Z,Ha K H a Z->Z[i]?=some x,λi H=>∃Z,Ha K H a Z/\Z.length<=i⟩
noncomputable def Itt(K:Fg)(a:Addr):It :=
 ⟨λi H=>∃Z x,Hl K H a Z/\Z[i]?=some x,λi H x G=>G=H/\∀Z,Hl K H a Z->Z[i]?=some x,λi H=>∃Z,Hl K H a Z/\Z.length<=i⟩
noncomputable def Og(G:Int)(n:Nat):It:=⟨λi _=>i<n,λi H x Z=>Z=H/\x=.int (G+i),λi _=>n<=i⟩
theorem age{K:Fg}(a it:Addr):Turn P w K tg (Itl K a) [it] it (λi h=>h.IsListIter it a i) where
 mem:=by simp
 obj:=λi h Z b L=>by
  have e:b=it:=by simpa using L
  subst e;obtain⟨o,e,c,d⟩:=Z;exact⟨o,e,λv z=>by rw[d] at z;cases z⟩
 keep:=λi h h' Z k=>Z.at λo e=>k it (by simp) o e
 item:=by
  intro X hP hw hK hc i G s σ H E I hf Z hg;subst hP hw hK;obtain⟨xs,x,hq,hx⟩:=hg;obtain⟨xf,rv,p,hz⟩:=I.list hq;obtain⟨u,hu,ru⟩:=rv.get hx;obtain⟨f0,f1,f2,f3,f4,f5⟩:=hf it (by simp);refine wpAny_pyNext_list_item Z p.isList (x:=u) (by simpa using hu) λh' R sb=>?_
  have I1:Inv X G σ H { s with heap:=h' }:=I.turned (t':=s.toks) (λb o L e=>(sb.2 b L).trans e) f0 f1 f3 f4 f5;obtain⟨o,e,c,d⟩:=id R;exact⟨u,rfl,ajw (s:={ s with heap:=h' }) e c d (by decide) ⟨x,H,I1,ru,⟨rfl,λys hy=>by rw[I.Zm hy hq];exact hx⟩,R,λb L=>(hf b L).1⟩⟩
 done:=by intro X hP hw hK hc i G s σ H E I hf Z hg;subst hP hw hK;obtain⟨xs,hq,hx⟩:=hg;obtain⟨xf,rv,p,hz⟩:=I.list hq;obtain⟨f0,f1,f2,f3,f4,f5⟩:=hf it (by simp);have hl:=rv.length;exact wpAny_pyNext_list_end (I.ok.hd hc) Z p.isList (by simp;exact a_ (g_ hl) hx) λh' eb=>⟨rfl,I.turned (t':=s.toks) (λb o L e=>eb b o L e) f0 f1 f3 f4 f5⟩
 self:=λ_ _ _ _ _ Z h=>wpAny_pyIter_listiter Z h
theorem abz{K:Fg}(a it:Addr):Turn P w K tg (Itt K a) [it] it (λi h=>h.IsTupleIter it a i) where
 mem:=by simp
 obj:=λi h Z b L=>by
  have e:b=it:=by simpa using L
  subst e;obtain⟨o,e,c,d⟩:=Z;exact⟨o,e,λv z=>by rw[d] at z;cases z⟩
 keep:=λi h h' Z k=>Z.at λo e=>k it (by simp) o e
 item:=by
  intro X hP hw hK hc i G s σ H E I hf Z hg;subst hP hw hK;obtain⟨xs,x,hq,hx⟩:=hg;obtain⟨xf,rv,p,hz⟩:=I.tuple hq;obtain⟨u,hu,ru⟩:=rv.get hx;obtain⟨f0,f1,f2,f3,f4,f5⟩:=hf it (by simp);refine wpAny_pyNext_tuple_item Z (show s.heap.IsTuple a xf.toArray from p) (x:=u) (by simpa using hu) λh' R sb=>?_
  have I1:Inv X G σ H { s with heap:=h' }:=I.turned (t':=s.toks) (λb o L e=>(sb.2 b L).trans e) f0 f1 f3 f4 f5;obtain⟨o,e,c,d⟩:=id R;exact⟨u,rfl,ajw (s:={ s with heap:=h' }) e c d (by decide) ⟨x,H,I1,ru,⟨rfl,λys hy=>by rw[I.Vr hy hq];exact hx⟩,R,λb L=>(hf b L).1⟩⟩
 done:=by intro X hP hw hK hc i G s σ H E I hf Z hg;subst hP hw hK;obtain⟨xs,hq,hx⟩:=hg;obtain⟨xf,rv,p,hz⟩:=I.tuple hq;obtain⟨f0,f1,f2,f3,f4,f5⟩:=hf it (by simp);have hl:=rv.length;exact wpAny_pyNext_tuple_end (I.ok.hd hc) Z (show s.heap.IsTuple a xf.toArray from p) (by simp;exact a_ (g_ hl) hx) λh' eb=>⟨rfl,I.turned (t':=s.toks) (λb o L e=>eb b o L e) f0 f1 f3 f4 f5⟩
 self:=λ_ _ _ _ _ Z h=>wpAny_pyIter_tupleiter Z h
theorem ab0{K:Fg}(it:Addr)(lo:Int)(n:Nat):Turn P w K tg (Og lo n) [it] it (λi h=>IsRangeIter h it (lo+(i:Nat)*1) ((n:Int)-(i:Nat)) 1) where
 mem:=by simp
 obj:=λi h Z b L=>by
  have e:b=it:=by simpa using L
  subst e;exact⟨_,Z,λv z=>by
   have z':Data.fields _=Data.cell v:=z;cases z'⟩
 keep:=λi h h' Z k=>k it (by simp) _ Z
 item:=by
  intro X hP hw hK hc i G s σ H E I hf Z hg;subst hP hw hK;obtain⟨f0,f1,f2,f3,f4,f5⟩:=hf it (by simp);have W:=Walks.range (prog:=X.prog) (w:=X.w) (I.ok.hd hc) it lo 1 n;refine W.item i s _ _ hg Z λv h' tk hv R kk=>?_
  obtain⟨t,rfl⟩:=hv;have I1:Inv X G σ H { s with heap:=h',toks:=tk }:=I.turned (λb o L e=>kk b o (by simpa using L) e) f0 f1 f3 f4 f5;refine⟨_,rfl,ajw (s:={ s with heap:=h',toks:=tk }) (n := "range_iterator") R rfl rfl (by decide) ⟨.int (lo+i),H,I1,⟨t,?_⟩,⟨rfl,rfl⟩,R,λb L=>(hf b L).1⟩⟩;rw[Int.mul_one]
 done:=by intro X hP hw hK hc i G s σ H E I hf Z hg;subst hP hw hK;obtain⟨f0,f1,f2,f3,f4,f5⟩:=hf it (by simp);exact wpAny_pyNext_range_end (I.ok.hd hc) Z (by have:n<=i:=hg;lia) λh' eb=>⟨rfl,I.turned (t':=s.toks) (λb o L e=>eb b o L e) f0 f1 f3 f4 f5⟩
 self:=λ_ _ _ _ _ Z h=>wpAny_pyIter_rangeiter Z h
end L2
namespace L2
open PySem PySem.Spec PyProof.Rows
def ajx{lo:Int}(I:Inv X pins σ H s)(h1:-(2 ^ 62)<=lo)(h2:lo<2 ^ 62)(h3:-(2 ^ 62)<=Z)(h4:Z<2 ^ 62)(q:R (Og lo (Z-lo).toNat) H):wpAny (model X.prog X.w) X.A (pyIter (.ref s.heap.objs.size)) (PIE X pins σ tg R) E { s with heap:=s.heap.push { cls:=.type "range",data:=.fields #[.int lo t,.int Z u,.int 1 v] },toks:=L }:=by
 refine wpAny_pyIter_range (IsRange.new ..) (small_one h1 h2 h3 h4) ?_;have G:Inv X pins σ H { s with heap:=s.heap.push { cls:=.type "range",data:=.fields #[.int lo t,.int Z u,.int 1 v] },toks:=L }:=I.kept λb o e=>ak _ e
 refine⟨(s.heap.push { cls:=.type "range",data:=.fields #[.int lo t,.int Z u,.int 1 v] }).objs.size,[(s.heap.push { cls:=.type "range",data:=.fields #[.int lo t,.int Z u,.int 1 v] }).objs.size],_,_,H,rfl,
  G.kept (t':=L) λb o e=>ak _ e,ab0 _ lo (Z-lo).toNat,?_,λb hb=>?_,q⟩
 .have e1:lo+((0:Nat):Int)*1=lo:=by simp
  have e2:(((Z-lo).toNat:Nat):Int)-((0:Nat):Int)=Builtin.Range.rangeSize lo Z 1:=by rw[rangeSize_one];split<;>lia
  show IsRangeIter _ _ (lo+((0:Nat):Int)*1) ((((Z-lo).toNat:Nat):Int)-((0:Nat):Int)) 1;rw[e1,e2];exact bw _ rfl
 .have e:b=(s.heap.push { cls:=.type "range",data:=.fields #[.int lo t,.int Z u,.int 1 v] }).objs.size:=by simpa using hb
  subst e;exact G.apb (bh _) (G.wk.fresh (bh _))
def a05(ta:TA):TI:=λG H R=>ta G H λL Z=>∃j:Int,L=[.int j]/\-(2 ^ 62)<=j/\j<2 ^ 62/\R (Og 0 j.toNat) Z
def agf{X:Cx}{tg:Expr}(hg:Gl X "range")(L:X.mg "range" = none)(ha:PA X [a] ta)(hs:starEach [a] X.env=[(false,eval a X.env)]:=by rfl):PI X tg (.Call (.Name "range" p) [a] [] pos) (a05 ta):=by
 intro Z s σ H R I h;refine Call_ (Hh I hg L boot_range (lq (Al (ha pos Z s σ H _ I h) λus s1 ⟨vs,H1,I1,r1,G⟩=>?_) hs rfl));obtain⟨j,e,G,q2,q⟩:=G;subst e;cases r1 with
 |cons r rr =>
  cases rr;obtain⟨t,rfl⟩:=r;exact call_range_1 (ajx I1 (by lia) (by lia) G q2 (by simpa using q))
def a86(wi:TI)(g:TG)(tb:TS):TS:=λD Z H=>wi Z H λJ H1=>∃W:Nat->Nat->St->Hp->Prop,(∃m,W 0 m Z H1)/\∀i m Z H,W i m Z H ->
 (J.stop i H/\D.nx Z H)\/(J.go i H/\∃N:St->Hp->Prop,(∀L G,N L G->∃m',m'<m/\W (i+1) m' L G)/\∀x G,J.yld i H x G->g x Z G λR H2=>tb { D with nx:=N,ct:=N,bk:=D.nx } R H2)
noncomputable def O7(Z:X0)(h:Heap):List (Addr×Obj):=Z.filterMap λb=>(h.get? b).map λo=>(b,o)
def Ik(Z:b∈G)(e:h.get? b=some o):(b,o)∈O7 G h:=List.mem_filterMap.mpr ⟨b,Z,by rw[e];rfl⟩
def agg(R:p∈O7 L h):p.1∈L/\h.get? p.1=some p.2:=by
 obtain⟨b,Z,e⟩:=List.mem_filterMap.mp R;cases q:h.get? b with
 |none=>rw[q] at e;cases e
 |some o =>
  rw[q] at e;have G:(b,o)=p:=gf e;subst G;exact⟨Z,q⟩
def Inv.pinned{X:Cx}(I:Inv X pins σ H s)(R:∀b∈G,Q7 X pins H b)(ho:∀b∈G,∃o,s.heap.get? b=some o/\∀v,o.data≠.cell v):Inv X (pins++O7 G s.heap) σ H s :=
 I.K8 λp hp=>(fj.mp hp).elim (λz=>I.pin p (fu _ z)) λz=>by obtain⟨Z,e⟩:=agg z;obtain⟨f0,f1,f2,_⟩:=R p.1 Z;obtain⟨o,L,d⟩:=ho p.1 Z;rw[e] at L;cases L;exact⟨e,f0,f1,f2,d⟩
def Inv.Kh{X:Cx}(I:Inv X (pins++G) σ H s):Inv X pins σ H s:=I.K8 λp Z=>I.pin p (fu _ (kh _ Z))
def avy{X:Cx}{tg:Expr}(hp:PassesOwn (model X.prog X.w) X.A X.env X.xe)(hc:X.calm=true)(hi:PI X tg iter wi)(hg:PG X tg g)(hb:Lq X body tb)(hs:∀x,foldedSetIterable iter X.env x=pure x:=by intro _;rfl):PS X (.For tg iter body [] pos) (a86 wi g tb):=by
 intro G s σ H D I h;refine wpAny_For (Al (hi G s σ H _ I h) λv s1 h1=>Al h1 λzw s2 h2=>?_) hs;obtain⟨it,fp,tn,J,H2,e,I2,T,q8,f2,W,⟨m0,w0⟩,q4⟩:=h2;subst e;have qv:∀{H':Hp},(∀b∈fp,H' b=none)->∀b∈fp,Q7 X G H' b:=λhn b hb=>⟨hn b hb,(f2 b hb).2⟩
 refine codeAny_forLoop_any (λn s'=>∃i qq H',Inv X G qq H' s'/\tn i s'.heap/\(∀b∈fp,H' b=none)/\W i n qq H') ?_ m0 ⟨0,σ,H2,I2,q8,λb hb=>(f2 b hb).1,w0⟩;rintro n s3 ⟨i,L,H3,I3,q1,q2,w3⟩;rcases q4 i n L H3 w3 with⟨q3,qn⟩|⟨go,N,hN,step⟩
 .refine qg hp (Al (T.done X rfl rfl rfl hc i G s3 L H3 X.xe I3 (qv q2) q1 q3) λr s4 z_=>?_)
  obtain⟨hr,I4⟩:=z_;subst hr;exact wpAny_execs_nil ⟨L,H3,I4,qn⟩
 .refine qg hp (Al (T.item X rfl rfl rfl hc i G s3 L H3 X.xe I3 (qv q2) q1 go) λr s4 z_=>?_)
  obtain⟨u,hr,h4⟩:=z_;subst hr;refine qg hp (Al h4 λ_ s5 z_=>?_);obtain⟨x,H5,I5,r5,y5,q0,zv⟩:=z_;have q5:=I5.pinned (qv zv) (T.obj _ _ q0);refine qg hp (Al (hg _ s5 L H5 x u _ q5 r5 (step x H5 y5)) λ_ s6 z_=>?_);obtain⟨zk,H6,I6,q6⟩:=z_;refine qg hp (Al (hb _ s6 zk H6 _ I6 q6) λf s7 q7=>?_);have qk:∀{Z:St}{H7:Hp},Inv X (G++O7 fp s5.heap) Z H7 s7->N Z H7->∃m,m<n/\∃i qq H',Inv X G qq H' s7/\tn i s7.heap/\(∀b∈fp,H' b=none)/\W i m qq H':=fun{Z H7} R n7=>by obtain⟨m',hm,w7⟩:=hN Z H7 n7;refine⟨m',hm,i+1,Z,H7,R.Kh,T.keep _ _ _ q0 λb hb o e=>(R.pin (b,o) (fu _ (fu _ (Ik hb e)))).1,λb hb=>?_,w7⟩;obtain⟨o,e,d⟩:=T.obj _ _ q0 b hb;exact(R.pin (b,o) (fu _ (fu _ (Ik hb e)))).2.1
  cases f with
  |next=>obtain⟨Z,H7,R,n7⟩:=q7;exact qk R n7
  |cont=>obtain⟨Z,H7,R,n7⟩:=q7;exact qk R n7
  |brk=>obtain⟨Z,H7,R,q7⟩:=q7;exact⟨Z,H7,R.Kh,q7⟩
  |ret v=>obtain⟨x7,Z,H7,R,r7,q7⟩:=q7;exact⟨x7,Z,H7,R.Kh,r7,q7⟩
end L2
namespace L2
open PySem PySem.Spec PyProof.Rows
abbrev R2:=V->V->Hp->VK->Prop
def Bc(X:Cx)(f:Value->Value->Sem Value)(r:R2):Prop :=
 ∀(Z:Zp)(s:Shared)(G:St)(H:Hp)(x y:V)(v u:Value)(Q:VK),Inv X Z G H s->RelV x v->RelV y u->r x y H Q ->
  wpAny (model X.prog X.w) X.A (f v u) (EP X Z G Q) X.xe s
def UnR(X:Cx)(f:Value->Sem Value)(r:V->Hp->VK->Prop):Prop :=
 ∀(Z:Zp)(s:Shared)(G:St)(H:Hp)(x:V)(v:Value)(Q:VK),Inv X Z G H s->RelV x v->r x H Q ->
  wpAny (model X.prog X.w) X.A (f v) (EP X Z G Q) X.xe s
def Bp(X:Cx)(f:Value)(r:List V->Hp->VK->Prop):Prop :=
 ∀(Z:Zp)(s:Shared)(R:St)(H:Hp)(G:List V)(L:Zl)(Q:VK),Inv X Z R H s->Vals G L->r G H Q ->
  wpAny (model X.prog X.w) X.A (call f L) (EP X Z R Q) X.xe s
def tOp(r:R2)(ta R:TE):TE:=λZ H Q=>ta Z H λx L=>R Z L λy G=>r x y G Q
def tUn(r:V->Hp->VK->Prop)(L:TE):TE:=λG H Q=>L G H λx Z=>r x Z Q
def rI(C:Int->Int->Prop)(g:Int->Int->V):R2:=λx y H Q=>∃i j,x=.int i/\y=.int j/\C i j/\Q (g i j) H
def rI0(g:Int->Int->V):R2:=λx y H Q=>∃i j,x=.int i/\y=.int j/\Q (g i j) H
def rU(g:Int->V):V->Hp->VK->Prop:=λx H Q=>∃i,x=.int i/\Q (g i) H
def av0{X:Cx}{a b:Expr}{ta tb:TE}(ha:PE X a ta)(hb:PE X b tb){Z:Zp}{s:Shared}{L:St}{H:Hp}{R:V->V->Hp->Prop}(I:Inv X Z L H s)
 (h:ta L H λx H1=>tb L H1 λy G=>R x y G) {Q:Y1} {f:Value->Value->Sem Value}
 (hf:∀v u s2 x y G,Inv X Z L G s2->RelV x v->RelV y u->R x y G->wpAny (model X.prog X.w) X.A (f v u) Q X.xe s2) :
 wpAny (model X.prog X.w) X.A (eval a X.env) (λv qk=>wpAny (model X.prog X.w) X.A (eval b X.env) (λu qq=>wpAny (model X.prog X.w) X.A (f v u) Q X.xe qq) X.xe qk) X.xe s:=by
 refine Al (ha Z s L H _ I h) λv s1 z_=>?_
 obtain⟨x,H1,I1,r1,q1⟩:=z_;refine Al (hb Z s1 L H1 _ I1 q1) λu s2 z_=>?_
 obtain⟨y,G,I2,r2,q2⟩:=z_;exact hf v u s2 x y G I2 r1 r2 q2
def a07{X:Cx}{a b:Expr}{R L:TE}{pos:Pos}{G:Operator}{r:R2}(ho:Bc X (binaryOp G) r)(ha:PE X a R)(hb:PE X b L):PE X (.BinOp a G b pos) (tOp r R L):=by intro Z s σ H Q I h;exact wpAny_BinOp (av0 ha hb I h λv u s2 x y H2 I2 rx ry q=>ho Z s2 σ H2 x y v u Q I2 rx ry q)
def a08{X:Cx}{a:Expr}{R:TE}{pos:Pos}{G:UnaryOp}{r:V->Hp->VK->Prop}(ho:UnR X (unaryOp G) r)(ha:PE X a R):PE X (.UnaryOp G a pos) (tUn r R):=by intro Z s L H Q I h;exact UnaryOp_ (Al (ha Z s L H _ I h) λv s1 ⟨x,H1,I1,r1,q1⟩=>ho Z s1 L H1 x v Q I1 r1 q1)
def opI{X:Cx}{f:Value->Value->Sem Value}{C:Int->Int->Prop}{g:Int->Int->Int}
 (Z:∀(i j:Int)(t u:Tok)(s:Shared)(Q:Y1)(E:Y1),C i j->Q (.int (g i j) s.toks) { s with toks:=s.toks+1 }->wpAny (model X.prog X.w) X.A (f (.int i t) (.int j u)) Q E s) :
 Bc X f (rI C λi j=>.int (g i j)):=by
 intro G s σ H x y v u Q I R ry h;obtain⟨i,j,rfl,rfl,L,q⟩:=h;obtain⟨t,rfl⟩:=R;obtain⟨t',rfl⟩:=ry;exact Z i j t t' s _ _ L ⟨.int (g i j),H,I.tok _,⟨_,rfl⟩,q⟩
def a09{X:Cx}{f:Value->Value->Sem Value}{g:Int->Int->Int}
 (Z:∀(i j:Int)(t u:Tok)(s:Shared)(Q:Y1)(E:Y1),Q (.int (g i j) s.toks) { s with toks:=s.toks+1 }->wpAny (model X.prog X.w) X.A (f (.int i t) (.int j u)) Q E s) :
 Bc X f (rI0 λi j=>.int (g i j)):=by
 intro G s σ H x y v u Q I L R h;obtain⟨i,j,rfl,rfl,q⟩:=h;obtain⟨t,rfl⟩:=L;obtain⟨t',rfl⟩:=R;exact Z i j t t' s _ _ ⟨.int (g i j),H,I.tok _,⟨_,rfl⟩,q⟩
def apd{X:Cx}{f:Value->Value->Sem Value}{g:Int->Int->Bool}
 (Z:∀(i j:Int)(t u:Tok)(s:Shared)(Q:Y1)(E:Y1),Q (.bool (g i j)) s->wpAny (model X.prog X.w) X.A (f (.int i t) (.int j u)) Q E s) :
 Bc X f (rI0 λi j=>.bl (g i j)):=by
 intro G s σ H x y v u Q I L R h;obtain⟨i,j,rfl,rfl,q⟩:=h;obtain⟨t,rfl⟩:=L;obtain⟨t',rfl⟩:=R;exact Z i j t t' s _ _ ⟨.bl (g i j),H,I,rfl,q⟩
def a9a(i j:Int):Prop:=0<j/\j<1073741824
def a9b(i j:Int):Prop:=0<=j/\j<=1000000/\i.natAbs<2 ^ 64
def ape(i j:Int):Prop:=(-(2 ^ 64)<i/\i<2 ^ 64)\/(-(2 ^ 64)<j/\j<2 ^ 64)
def ape.ok{i j:Int}(h:ape i j):IntMulOk i j:=by
 rcases h with⟨G,Z⟩|⟨G,Z⟩
 .exact .of_left (intBits_le_64 G Z)
 .exact .of_right (intBits_le_64 G Z)
def av1{X:Cx}:Bc X (binaryOp .Add) (rI0 λi j=>.int (i+j)):=a09 λ_ _ _ _ _ _ _ q=>add_int q
def av2{X:Cx}:Bc X (binaryOp .Sub) (rI0 λi j=>.int (i-j)):=a09 λ_ _ _ _ _ _ _ q=>sub_int q
def av3{X:Cx}:Bc X (binaryOp .Mult) (rI ape λi j=>.int (i*j)):=opI λ_ _ _ _ _ _ _ Z q=>mul_int q Z.ok
def apf{X:Cx}:Bc X (binaryOp .FloorDiv) (rI a9a λi j=>.int (i / j)):=opI λi j _ _ _ _ _ Z q=>by
 have L:(0:Int)<j:=Z.1
 have G:j<1073741824:=Z.2
 exact floordiv_int (by lia) (by rw[Int.fdiv_eq_ediv_of_nonneg i (by lia)];exact q) (.inl (PyProof.noPylong_small (by omega)))
def av4{X:Cx}:Bc X (binaryOp .Mod) (rI (λ_ j=>0<j) λi j=>.int (i%j)):=opI λi j _ _ _ _ _ Z q=>by
 have G:(0:Int)<j:=Z
 exact mod_int' (by lia) (by rw[Int.fmod_eq_emod_of_nonneg i (by lia)];exact q)
def av5{X:Cx}:Bc X (binaryOp .Pow) (rI a9b λi j=>.int (i ^ j.toNat)):=opI λ_ _ _ _ _ _ _ Z q=>pow_int_small Z.1 Z.2.1 Z.2.2 q
def unI{X:Cx}{f:Value->Sem Value}{g:Int->Int}
 (Z:∀(i:Int)(t:Tok)(s:Shared)(Q:Y1)(E:Y1),Q (.int (g i) s.toks) { s with toks:=s.toks+1 }->wpAny (model X.prog X.w) X.A (f (.int i t)) Q E s) :
 UnR X f (rU λi=>.int (g i)):=by
 intro G s R H x v Q I L h;obtain⟨i,rfl,q⟩:=h;obtain⟨t,rfl⟩:=L;exact Z i t s _ _ ⟨.int (g i),H,I.tok _,⟨_,rfl⟩,q⟩
def av6{X:Cx}:UnR X (unaryOp .USub) (rU λi=>.int (-i)):=unI λ_ _ _ _ _ q=>neg_int q
noncomputable def av7:V->V->Bool
 |.non,.non=>true|.non,.int _=>true|.int _,.non=>true|.non,.bl _=>true|.bl _,.non=>true|.non,.str _=>true|.str _,.non=>true
 |.int _,.int _=>true|.bl _,.bl _=>true|.str _,.str _=>true|.byt _,.byt _=>true
 |.int _,.str _=>true|.str _,.int _=>true|.bl _,.str _=>true|.str _,.bl _=>true
 |_,_=>false
def rEq:R2:=λx y H Q=>av7 x y=true/\Q (.bl (decide (x=y))) H
def rNe:R2:=λx y H Q=>av7 x y=true/\Q (.bl (!decide (x=y))) H
def ad8{i j:Int}:decide (V.int i=V.int j)=(i==j):=by rw[Bool.eq_iff_iff];simp
def ajy{i j:Bool}:decide (V.bl i=V.bl j)=(i==j):=by rw[Bool.eq_iff_iff];simp
def ad9{i j:Str}:decide (V.str i=V.str j)=(i==j):=by rw[Bool.eq_iff_iff];simp
def aea{i j:Array UInt8}:decide (V.byt i=V.byt j)=(i.toList==j.toList):=by rw[Bool.eq_iff_iff];cases i;cases j;simp
def v9{X:Cx}{Z:Zp}{L:St}{H:Hp}{s:Shared}{Q:VK}{k G:Bool}(I:Inv X Z L H s)(q:Q (.bl k) H)(e:k=G):EP X Z L Q (.bool G) s:=by subst e;exact⟨.bl k,H,I,rfl,q⟩
def a1a{X:Cx}:Bc X (compareOp .Eq) rEq:=by
 intro qq s σ H x y v u Q I R Z h;obtain⟨L,q⟩:=h;cases x with
 |non =>
  cases R;cases y with
  |non=>cases Z;exact PySem.EqNone.eq_none_none (v9 I q (by simp))|bl j=>cases Z;exact PySem.EqNone.eq_none_bool (v9 I q (by simp))|int j=>obtain⟨G,rfl⟩:=Z;exact PySem.EqNone.eq_none_int (v9 I q (by simp))
  |str j=>obtain⟨G,rfl⟩:=Z;exact PySem.EqNone.eq_none_str (v9 I q (by simp))
  |_=>exact absurd (show false=true from L) di
 |bl i =>
  cases R;cases y with
  |non=>cases Z;exact PySem.EqNone.eq_bool_none (v9 I q (by simp))|bl j=>cases Z;exact eq_bool (v9 I q ajy)|str j=>obtain⟨G,rfl⟩:=Z;exact PySem.EqMixed.eq_bool_str (v9 I q (by simp))
  |_=>exact absurd (show false=true from L) di
 |int i =>
  obtain⟨t,rfl⟩:=R;cases y with
  |non=>cases Z;exact PySem.EqNone.eq_int_none (v9 I q (by simp))|int j=>obtain⟨G,rfl⟩:=Z;exact eq_int (v9 I q ad8)
  |str j=>obtain⟨G,rfl⟩:=Z;exact PySem.EqMixed.eq_int_str (v9 I q (by simp))
  |_=>exact absurd (show false=true from L) di
 |str i =>
  obtain⟨t,rfl⟩:=R;cases y with
  |non=>cases Z;exact PySem.EqNone.eq_str_none (v9 I q (by simp))|bl j=>cases Z;exact PySem.EqMixed.eq_str_bool (v9 I q (by simp))|int j=>obtain⟨G,rfl⟩:=Z;exact PySem.EqMixed.eq_str_int (v9 I q (by simp))
  |str j=>obtain⟨G,rfl⟩:=Z;exact eq_str (v9 I q ad9)
  |_=>exact absurd (show false=true from L) di
 |byt i =>
  obtain⟨t,rfl⟩:=R;cases y with
  |byt j=>obtain⟨G,rfl⟩:=Z;exact PySem.W.eq_bytes (v9 I q aea)
  |_=>exact absurd (show false=true from L) di
 |_=>cases y<;>exact absurd (show false=true from L) di
def a1b{X:Cx}:Bc X (compareOp .NotEq) rNe:=by
 intro qq s σ H x y v u Q I R Z h;obtain⟨L,q⟩:=h;cases x with
 |non =>
  cases R;cases y with
  |non=>cases Z;exact PySem.EqNone.ne_none_none (v9 I q (by simp))|bl j=>cases Z;exact PySem.EqNone.ne_none_bool (v9 I q (by simp))|int j=>obtain⟨G,rfl⟩:=Z;exact PySem.EqNone.ne_none_int (v9 I q (by simp))
  |str j=>obtain⟨G,rfl⟩:=Z;exact PySem.EqNone.ne_none_str (v9 I q (by simp))
  |_=>exact absurd (show false=true from L) di
 |bl i =>
  cases R;cases y with
  |non=>cases Z;exact PySem.EqNone.ne_bool_none (v9 I q (by simp))|bl j=>cases Z;exact ne_bool (v9 I q (nq not ajy))|str j=>obtain⟨G,rfl⟩:=Z;exact PySem.EqMixed.ne_bool_str (v9 I q (by simp))
  |_=>exact absurd (show false=true from L) di
 |int i =>
  obtain⟨t,rfl⟩:=R;cases y with
  |non=>cases Z;exact PySem.EqNone.ne_int_none (v9 I q (by simp))|int j=>obtain⟨G,rfl⟩:=Z;exact ne_int (v9 I q (nq not ad8))
  |str j=>obtain⟨G,rfl⟩:=Z;exact PySem.EqMixed.ne_int_str (v9 I q (by simp))
  |_=>exact absurd (show false=true from L) di
 |str i =>
  obtain⟨t,rfl⟩:=R;cases y with
  |non=>cases Z;exact PySem.EqNone.ne_str_none (v9 I q (by simp))|bl j=>cases Z;exact PySem.EqMixed.ne_str_bool (v9 I q (by simp))|int j=>obtain⟨G,rfl⟩:=Z;exact PySem.EqMixed.ne_str_int (v9 I q (by simp))
  |str j=>obtain⟨G,rfl⟩:=Z;exact ne_str (v9 I q (nq not ad9))
  |_=>exact absurd (show false=true from L) di
 |byt i =>
  obtain⟨t,rfl⟩:=R;cases y with
  |byt j=>obtain⟨G,rfl⟩:=Z;exact PySem.W.ne_bytes (v9 I q (nq not aea))
  |_=>exact absurd (show false=true from L) di
 |_=>cases y<;>exact absurd (show false=true from L) di
def a1c{X:Cx}:Bc X (compareOp .Lt) (rI0 λi j=>.bl (decide (i<j))):=apd λ_ _ _ _ _ _ _ q=>lt_int q
def a1d{X:Cx}:Bc X (compareOp .LtE) (rI0 λi j=>.bl (decide (i<=j))):=apd λ_ _ _ _ _ _ _ q=>le_int q
def a1e{X:Cx}:Bc X (compareOp .Gt) (rI0 λi j=>.bl (decide (j<i))):=apd λ_ _ _ _ _ _ _ q=>gt_int q
def a1f{X:Cx}:Bc X (compareOp .GtE) (rI0 λi j=>.bl (decide (j<=i))):=apd λ_ _ _ _ _ _ _ q=>ge_int q
def Bc.or{X:Cx}{f:Value->Value->Sem Value}{r r':R2}(h:Bc X f r)(h':Bc X f r'):Bc X f (λx y H Q=>r x y H Q\/r' x y H Q):=by
 intro Z s R H x y v u Q I G L q;rcases q with q|q
 .exact h Z s R H x y v u Q I G L q
 .exact h' Z s R H x y v u Q I G L q
def aeb{X:Cx}{a b:Expr}{R L:TE}{pos:Pos}{G:CmpOp}{r:R2}(ho:Bc X (compareOp G) r)(ha:PE X a R)(hb:PE X b L)(hm:behindInMarks G b=false):PE X (.Compare a [G] [b] pos) (tOp r R L):=by intro Z s σ H Q I h;exact wpAny_Compare1 (av0 ha hb I h λv u s2 x y H2 I2 rx ry q=>ho Z s2 σ H2 x y v u Q I2 rx ry q) hm
def asq(t:TE):TT:=λG H Q=>t G H λx Z=>∃k,x=.bl k/\Q k Z
def aec{X:Cx}{a b:Expr}{ta R:TE}{pos:Pos}{G:CmpOp}{r:R2}(ho:Bc X (compareOp G) r)(ha:PE X a ta)(hb:PE X b R)(hm:behindInMarks G b=false):PT X (.Compare a [G] [b] pos) (asq (tOp r ta R)):=by
 intro Z s L H Q I h;refine wpAny_isTrue_Compare1 (Al (ha Z s L H _ I h) λv s1 ⟨x,H1,I1,r1,q1⟩=>Al (hb Z s1 L H1 _ I1 q1) λu s2 ⟨y,H2,I2,r2,q2⟩ =>
  Al (ho Z s2 L H2 x y v u _ I2 r1 r2 q2) λc s3 ⟨z,H3,I3,r3,k,e,q3⟩=>?_) hm
 subst e;cases r3;exact iu ⟨H3,I3,q3⟩
def Xg(r r':R2)(ta tb tc:TE):TE:=λZ H Q=>ta Z H λx R=>tb Z R λy L=>r x y L λz G=>∃k,z=.bl k /\
 (if k=true then tc Z G λw' H4=>r' y w' H4 Q else Q (.bl false) G)
def ajz{X:Cx}{a b c:Expr}{ta tb tc:TE}{pos:Pos}{R G:CmpOp}{r r':R2}(ho:Bc X (compareOp R) r)(Uw:Bc X (compareOp G) r')(ha:PE X a ta)(hb:PE X b tb)(hc:PE X c tc)
 (hm:lastMarks [R,G] [b,c]=false:=by with_unfolding_all rfl):PE X (.Compare a [R,G] [b,c] pos) (Xg r r' ta tb tc):=by
 intro Z s L H Q I h;refine Compare_chain (Al (ha Z s L H _ I h) λv s1 ⟨x,H1,I1,r1,q1⟩=>chain_link (Al (hb Z s1 L H1 _ I1 q1) λu s2 ⟨y,H2,I2,r2,q2⟩ =>
  Al (ho Z s2 L H2 x y v u _ I2 r1 r2 q2) λd s3 ⟨z,H3,I3,r3,k,e,q3⟩=>?_)) hm
 subst e;cases r3;refine iu ?_;cases k with
 |false=>exact vd ⟨.bl false,H3,I3,rfl,q3⟩|true=>exact vf (chain_last (Al (hc Z s3 L H3 _ I3 q3) λw' s4 ⟨z',H4,I4,r4,q4⟩=>Uw Z s4 L H4 y z' u w' Q I4 r2 r4 q4))
def aj0{X:Cx}{a b c:Expr}{ta tb tc:TE}{pos:Pos}{R G:CmpOp}{r r':R2}(ho:Bc X (compareOp R) r)(Uw:Bc X (compareOp G) r')(ha:PE X a ta)(hb:PE X b tb)(hc:PE X c tc)
 (hm:lastMarks [R,G] [b,c]=false:=by with_unfolding_all rfl):PT X (.Compare a [R,G] [b,c] pos) (asq (Xg r r' ta tb tc)):=by
 intro Z s L H Q I h;refine isTrue_chain (Al (ha Z s L H _ I h) λv s1 ⟨x,H1,I1,r1,q1⟩=>test_link (Al (hb Z s1 L H1 _ I1 q1) λu s2 ⟨y,H2,I2,r2,q2⟩ =>
  Al (ho Z s2 L H2 x y v u _ I2 r1 r2 q2) λd s3 ⟨z,H3,I3,r3,k,e,q3⟩=>?_)) hm
 subst e;cases r3;refine iu ?_;cases k with
 |false =>
  obtain⟨k',e',q'⟩:=q3;cases e';exact vd ⟨H3,I3,q'⟩
 |true =>
  refine vf (test_last (Al (hc Z s3 L H3 _ I3 q3) λw' s4 ⟨z',H4,I4,r4,q4⟩=>Al (Uw Z s4 L H4 y z' u w' _ I4 r2 r4 q4) λd' s5 z_=>?_));obtain⟨z2,H5,I5,r5,k2,e2,q5⟩:=z_;subst e2;cases r5;exact iu ⟨H5,I5,q5⟩
def Xh:(sizeLine:Nat)<2 ^ 63:=by rw[pq];decide
def vals1{x:V}{Z:Zl}(r:Vals [x] Z):∃u,Z=[u]/\RelV x u:=by
 cases r with
 |cons L G=>cases G;exact⟨_,rfl,L⟩
def vals2{x y:V}{Z:Zl}(r:Vals [x,y] Z):∃u w',Z=[u,w']/\RelV x u/\RelV y w':=by
 cases r with
 |cons G L =>
  cases L with
  |cons R r4=>cases r4;exact⟨_,_,rfl,G,R⟩
def agh{X:Cx}(R:X.calm=true):Bp X (.builtin "max") (λL H Q=>∃i j,L=[.int i,.int j]/\Q (.int (if j > i then j else i)) H):=by
 intro G s σ H L us Q I r h;obtain⟨i,j,rfl,q⟩:=h;obtain⟨u,w',rfl,⟨t,rfl⟩,⟨t',rfl⟩⟩:=vals2 r;refine max_two_ints (I.ok.hd R) λh' tk k=>⟨_,H,I.kept k,?_,q⟩
 by_cases Z:j > i
 .rw[bf Z,bf Z];exact⟨_,rfl⟩
 .rw[az Z,az Z];exact⟨_,rfl⟩
def agi{X:Cx}(R:X.calm=true):Bp X (.builtin "min") (λL H Q=>∃i j,L=[.int i,.int j]/\Q (.int (if j<i then j else i)) H):=by
 intro G s σ H L us Q I r h;obtain⟨i,j,rfl,q⟩:=h;obtain⟨u,w',rfl,⟨t,rfl⟩,⟨t',rfl⟩⟩:=vals2 r;refine min_two_ints (I.ok.hd R) λh' tk k=>⟨_,H,I.kept k,?_,q⟩
 by_cases Z:j<i
 .rw[bf Z,bf Z];exact⟨_,rfl⟩
 .rw[az Z,az Z];exact⟨_,rfl⟩
end L2
namespace L2
open PySem PySem.Spec PyProof.Rows
structure aj1(h:Heap)(x dx C:Addr)(mA:Zs):Prop where
 obj:h.get? x=some (PySem.W.instObj C dx)
 ns:h.Ns1 dx mA
 ne:dx≠x
set_option tactic.hygienic true in
def agj{h:Heap}{J:Addr}{G:Zs}(n:h.Ns1 J G):∃L,h.get? J=some L/\∀Z,PySem.W.lookIn Z L=some (G Z):=by
 obtain⟨o,C,ep,ho,hd,u,_,R⟩:=n;refine⟨o,ho,λZ=>?_⟩;have e:=R Z;unfold nsFind findBy at e;rw[<- Array.find?_toList] at e;unfold PySem.W.lookIn;rw[hd];dsimp only;split
 .rename_i y q
  rw[q] at e;exact nq some e
 .rename_i q
  rw[q] at e;have a:C.toList.any (·.refKey)=false:=by rw[List.any_eq_false];intro y hy;obtain⟨z,t,Y⟩:=u y (Array.mem_toList_iff.mp hy);simp[DictEntry.refKey,Y]
  have S:¬C.toList.any (·.refKey)=true:=by rw[a];exact di
  rw[az S];exact nq some e
def aj1.look{h:Heap}{x R C:Addr}{L:Zs}(I:aj1 h x R C L):∃G,PySem.W.InstAt h x (PySem.W.instObj C R) C (some G)/\∀Z,PySem.W.lookIn Z G=some (L Z) :=
 let ⟨G,ho,hl⟩:=agj I.ns
 ⟨G,⟨I.obj,rfl,rfl,ho⟩,hl⟩
def apg{prog:Program}{w:World}{A:Around}{E:Y1}{s:Shared}{K:Fg}{x G C:Addr}{mA:Zs}{Z:Str}{v:Value}{ns:Ya}{Q:Unit->Shared->Prop}(X:K.In s.heap)(I:aj1 s.heap x G C mA)
 (hs:PySem.W.findIn K (.ref C) "__setattr__" = some (some (.builtin "object.__setattr__"))) (hp:PySem.W.plainOver K C=true) (ht:PySem.W.takerIn K C Z=some none) (hh:PySem.W.hasDictIn K C=true)
 (hw:PySem.Within mA ns) (q0:ns.length<=sizeLine)
 (h:∀R,aj1 R x G C (λy=>if y=Z then some v else mA y)->Heap.SameBut G s.heap R->Q () { s with heap:=R,toks:=s.toks+2 }) :
 wpAny (model prog w) A (setAttr (.ref x) Z v) Q E s:=by
 obtain⟨od,J,hl⟩:=I.look;refine PySem.W.set_plain X J hs (PySem.W.osa_open (s:={ s with toks:=s.toks+1 }) (r:=none) X J hp ht λb=>?_);obtain⟨cd,hc,Yt⟩:=PySem.W.any_some hh;have hx:s.heap.get? x=some ⟨.ref C,some G,.plain,#[]⟩:=I.obj;refine aa (aj (aa (aa (wpAny_loadPart hx (aa (PySem.W.Looks.here (s:={ s with toks:=s.toks+1 }) (PySem.W.looks_clsIn X hc) ?_))))));rw[Yt];refine aj (a:=some G) (aa (aj (aa ?_)));refine wpAny_nsSet1 (s:={ s with toks:=s.toks+1 }) I.ns λR Yk L=>?_
 obtain⟨oD,q2,q1,qq,qk,qv⟩:=Yk.count (PySem.Within.cons Z v hw);refine aa (wpAny_lookBehind qq (by rw[qk];exact pastItsLine_dict (dq qv (by rw[gq];exact v_ q0))) ?_);exact aj (h _ ⟨(L.2 _ (j5 I.ne)).trans I.obj,Yk,I.ne⟩ L)
def aj2{prog:Program}{w:World}{A:Around}{s:Shared}{K:Fg}{C f:Addr}{R:Result->Shared->Prop}{G:Zl}{L:List (Str×Value)}(X:K.In s.heap)(hm:PySem.W.makesIn K C=true)
 (hi:PySem.W.findIn K (.ref C) "__init__" = some (some (.ref f))) (hf:PySem.W.typeIn K (.ref f)=some (.type "function"))
 (h:codeAny (model prog w) (A.under (.builtin "type.__call__" ⟨.ref C::G,L⟩)) (.call (.ref f) ⟨.ref (s.heap.objs.size+1)::G,L⟩) (PySem.W.InitBack (s.heap.objs.size+1) R)
  { s with heap:=(s.heap.push PySem.W.emptyDict).push (PySem.W.instObj C s.heap.objs.size) }) :
 codeAny (model prog w) A (.call (.ref C) ⟨G,L⟩) R s:=by
 obtain⟨hh,g,d,t,os⟩:=s;exact PySem.W.make_core (PySem.W.makes_of X hm) (zc X hi) (λZ=>PySem.W.bind_fn X Z hf) (.inl rfl) h
noncomputable def Gw(f:Str)(v:V):List (Str×V)->List (Str×V)
 |[]=>[(f,v)]|(g,x)::r=>if g=f then(g,v)::r else(g,x)::Gw f v r
theorem Ql(f g:Str)(v:V):∀fs:List (Str×V),(Gw f v fs).lookup g=if g=f then some v else fs.lookup g
 |[]=>by
  show List.lookup g [(f,v)]=_
  by_cases h:g=f
  .have Z:(g==f)=true:=v8.mpr h
   simp only[List.lookup,Z,bf h]
  .have Z:(g==f)=false:=rz.mpr h
   simp only[List.lookup,Z,az h]
 |(k,x)::r=>by
  have L:=Ql f g v r;rw[show Gw f v ((k,x)::r)=(if k=f then(k,v)::r else(k,x)::Gw f v r) from rfl]
  by_cases G:k=f
  .rw[bf G]
   by_cases h:g=k
   .have Z:(g==k)=true:=v8.mpr h
    simp only[List.lookup,Z,bf (h.trans G)]
   .have Z:(g==k)=false:=rz.mpr h
    simp only[List.lookup,Z,az (λe:g=f=>h (e.trans G.symm))]
  .rw[az G]
   by_cases h:g=k
   .have Z:(g==k)=true:=v8.mpr h
    simp only[List.lookup,Z,az (λe:g=f=>G (h.symm.trans e))]
   .have Z:(g==k)=false:=rz.mpr h
    simp only[List.lookup,Z];exact L
theorem O8(f:Str)(v:V):∀fs:List (Str×V),f∈(Gw f v fs).map (·.1)/\∀g,g∈fs.map (·.1)->g∈(Gw f v fs).map (·.1)
 |[]=>⟨by simp[Gw],λg h=>by simp at h⟩
 |(k,x)::r=>by
  obtain⟨L,G⟩:=O8 f v r;rw[show Gw f v ((k,x)::r)=(if k=f then(k,v)::r else(k,x)::Gw f v r) from rfl]
  by_cases Z:k=f
  .rw[bf Z]
   subst Z;exact⟨by simp,λg h=>by simpa using h⟩
  .rw[az Z]
   refine⟨?_,λg h=>?_⟩
   .rw[du]
    exact bc _ L
   .rw[du] at h ⊢
    rcases bx.mp h with e|e
    .exact bx.mpr (.inl e)
    .exact bc _ (G g e)
theorem Qm(f:Str)(v:V):∀fs:List (Str×V),(Gw f v fs).length<=fs.length+1
 |[]=>by simp[Gw]
 |(k,x)::r=>by
  have G:=Qm f v r;rw[show Gw f v ((k,x)::r)=(if k=f then(k,v)::r else(k,x)::Gw f v r) from rfl]
  by_cases Z:k=f
  .rw[bf Z,gq,gq];exact x_
  .rw[az Z,gq,gq];exact v_ G
def Q5.some_of{v:V}{o:Option Value}(r:Q5 (some v) o):∃u,o=some u/\RelV v u:=by
 cases o with
 |none=>exact(show False from r).elim
 |some u=>exact⟨u,rfl,r⟩
def Rc{P:Program}{w:World}{H:Hp}{h:Heap}{a C G:Addr}{fs:List (Str×V)}(L:Jh P w H h)(e:H a=some (.ins C G fs)):∃Z,aj1 h a G C Z/\(∀f,Q5 (fs.lookup f) (Z f))/\PySem.Within Z (fs.map (·.1))/\fs.length<=1000/\H G=some (.own a):=by obtain⟨d,z,ne,R,Z,n,r,q⟩:=(show Bb P w H h a (.ins C G fs) from L a _ e);exact⟨Z,⟨R,n,ne⟩,r,q,z,d⟩
structure Cls(K:Fg)(C:Addr):Prop where
 pg:PySem.W.plainGet K C Str.empty=true
 hd:PySem.W.hasDictIn K C=true
 po:PySem.W.plainOver K C=true
 sa:PySem.W.findIn K (.ref C) "__setattr__" = some (some (.builtin "object.__setattr__"))
def Il(K:Fg)(C:Addr)(f:Str):Prop:=PySem.W.findIn K (.ref C) f=some none
def Il.taker{K:Fg}{C:Addr}{f:Str}(n:Il K C f):PySem.W.takerIn K C f=some none:=by unfold PySem.W.takerIn;rw[show PySem.W.findIn K (.ref C) f=some none from n];rfl
def ab2{X:Cx}{Z:Zp}{σ:St}{H:Hp}{s:Shared}{a C G:Addr}{fs:List (Str×V)}{f:Str}{A:Around}{E:Y1}{y:V}{u:Value}{Q:Unit->Shared->Prop}(I:Inv X Z σ H s)(e:H a=some (.ins C G fs))(c:Cls X.K C)(n:Il X.K C f)(R:fs.length<1000)(ry:RelV y u)
 (h:∀s',Inv X Z σ (upd H a (.ins C G (Gw f y fs))) s'->Q () s'):wpAny (model X.prog X.w) A (setAttr (.ref a) f u) Q E s:=by
 obtain⟨mA,O,r,wi,_,ho⟩:=Rc I.wk e;have hz:(fs.map (·.1)).length<=sizeLine:=by rw[dw,pq];exact e_ (b_ R (by decide))
 refine apg I.kIn O c.sa c.po n.taker c.hd wi hz λh' L sb=>h _ ?_
 have hd:∃o,h'.get? G=some o:=let ⟨o,_,_,e',_⟩:=L.ns;⟨o,e'⟩;refine I.write (x:=a) (e:=G) (by rw[e];exact True.intro) (.inr ho) (λb q hb z=>(sb.2 b hb).trans z) hd ?_;refine⟨by rw[gr O.ne];exact ho,?_,O.ne,L.obj,_,L.ns,λg=>?_,λg hg=>?_⟩
 .have:=Qm f y fs;exact a_ this R
 .show Q5 ((Gw f y fs).lookup g) (if g=f then some u else mA g)
  rw[Ql]
  by_cases q:g=f
  .rw[bf q,bf q];exact ry
  .rw[az q,az q];exact r g
 .by_cases q:g=f
  .rw[q];exact(O8 f y fs).1
  .refine(O8 f y fs).2 g (wi g λz=>hg ?_)
   show(if g=f then some u else mA g)=none;rw[az q];exact z
def Inv.made{X:Cx}{Z:Zp}{R:St}{H:Hp}{s:Shared}{C:Addr}(I:Inv X Z R H s):Inv X Z R (upd (upd H s.heap.objs.size (.own (s.heap.objs.size+1))) (s.heap.objs.size+1) (.ins C s.heap.objs.size []))
 { s with heap:=(s.heap.push PySem.W.emptyDict).push (PySem.W.instObj C s.heap.objs.size) }:=by
 have L:(s.heap.push PySem.W.emptyDict).get? s.heap.objs.size=some PySem.W.emptyDict:=bw s.heap rfl;have e2:((s.heap.push PySem.W.emptyDict).push (PySem.W.instObj C s.heap.objs.size)).get? (s.heap.objs.size+1)=some (PySem.W.instObj C s.heap.objs.size):=by
  have:=bw (s.heap.push PySem.W.emptyDict) (o:=PySem.W.instObj C s.heap.objs.size) rfl
  rwa [kj] at this
 have e3:(s.heap.push PySem.W.emptyDict).Ns s.heap.objs.size (λ_=>none):=⟨PySem.W.emptyDict,#[],_,L,rfl,(λe he=>absurd he (by simp)),λ_=>rfl⟩;have I1:=I.laid (a:=s.heap.objs.size) (o:=.own (s.heap.objs.size+1)) (h':=s.heap.push PySem.W.emptyDict) (t':=s.toks) (λb u q=>ak _ q) (bh _) ⟨_,L⟩;refine I1.laid (a:=s.heap.objs.size+1) (o:=.ins C s.heap.objs.size []) (t':=s.toks) (λb u q=>ak _ q) (Nat.le_of_eq (kj _ _)) ?_;have G:s.heap.objs.size≠s.heap.objs.size+1:=gn (ql _);refine⟨by rw[gr G,m8],j4 _,G,e2,λ_=>none,(Heap.Ns1.of_empty e3).at λo q=>ak _ q,λ_=>True.intro,λy hy=>absurd rfl hy⟩
def a9c(K:Fg)(ta tv:TE)(f:Str):TS:=λD Z H=>tv Z H λy R=>ta Z R λx G=>∃a C L fs,x=.ref a/\G a=some (.ins C L fs)/\Cls K C/\Il K C f/\fs.length<1000 /\
 D.nx Z (upd G a (.ins C L (Gw f y fs)))
def av8{X:Cx}{o Z:Expr}{f:Str}{pos G:Pos}{ta tv:TE}(ha:PE X o ta)(hv:PE X Z tv)(hs:swapsWith Z (some (.Attribute o f G)) pos.line X.env=pure false):PS X (.Assign [.Attribute o f G] Z pos) (a9c X.K ta tv f):=by intro L s R H D I h;refine plainObj_wpAny_Assign_Attribute (Al (hv L s R H _ I h) λu s1 ⟨y,H1,I1,ry,q⟩=>Al (ha L s1 R H1 _ I1 q) λov s2 ⟨x,H2,I2,rx,a,C,dx,fs,ex,ea,c,n,l,q2⟩=>?_) hs;subst ex;obtain rfl:ov=Value.ref a:=rx;exact ab2 I2 ea c n l ry λs3 I3=>⟨R,_,I3,q2⟩
end L2
namespace L2
open PySem PySem.Spec PyProof.Rows
structure xj(k:Nat)(A:Around):Prop where
 hd:A.handled=none
 dp:A.depth+3*k+5<recursionLimit
 un:A.units+16*k+200<cLine
def xj.mono{j k:Nat}{A:Around}(r:xj k A)(h:j<=k):xj j A:=⟨r.hd,by have:=r.dp;lia,by have:=r.un;lia⟩
theorem xj.deeper{k:Nat}{A:Around}(r:xj (k+1) A)(Z:Env):xj k (A.deeper Z) :=
 ⟨r.hd,by have:=r.dp;show A.depth+1+3*k+5<_;lia,by have:=r.un;show A.units+3+16*k+200<_;lia⟩
theorem xj.in1{k:Nat}{A:Around}(r:xj (k+1) A):xj k A.in1 :=
 ⟨r.hd,by have:=r.dp;show A.depth+3*k+5<_;lia,by have:=r.un;show A.units+1+16*k+200<_;lia⟩
def ab3{A:Around}{C:Addr}{Z:Zl}{G:List (Str×Value)}:(A.under (.builtin "type.__call__" ⟨.ref C::Z,G⟩)).depth=A.depth+1:=by first|rfl|simp[Around.under,Code.weight,Code.isCreation,Code.isGuard,Code.isCaller,Code.frames,Code.isFrame,guardIds]
def ab4{A:Around}{C:Addr}{Z:Zl}{G:List (Str×Value)}:(A.under (.builtin "type.__call__" ⟨.ref C::Z,G⟩)).units=A.units+1:=by first|rfl|simp[Around.under,Code.cUnits,Code.frames,Code.isFrame]
def xj.make{k:Nat}{A:Around}(r:xj (k+1) A)(C:Addr)(Z:Zl)(G:List (Str×Value)):xj k (A.under (.builtin "type.__call__" ⟨.ref C::Z,G⟩)) :=
 ⟨r.hd,by have:=r.dp;rw[ab3];lia,by have:=r.un;rw[ab4];lia⟩
theorem xj.depth{k:Nat}{A:Around}(r:xj k A):A.depth<recursionLimit:=by have:=r.dp;lia
theorem xj.units{k:Nat}{A:Around}(r:xj k A):A.units+64<cLine:=by have:=r.un;lia
def xj.O9{k:Nat}{A:Around}(r:xj k A):A.units<cLine:=by have:=r.un;lia
def a9d:TA:=λ_ H Q=>Q [] H
def a1h(R:TE)(tr:TA):TA:=λZ H Q=>R Z H λx L=>tr Z L λxs G=>Q (x::xs) G
def ab5{X:Cx}:PA X [] a9d:=λ_ _ _ _ H Q I h=>Calls.spliced_nil ⟨[],H,I,.nil,h⟩
def Np{X:Cx}{e:Expr}{G:Y3}{L:TE}{t:TA}(ha:PE X e L)(hr:PA X G t)(hs:starEach (e::G) X.env=(false,eval e X.env)::starEach G X.env:=by rfl):PA X (e::G) (a1h L t):=by intro pos Z s R H Q I h;rw[hs];show wpAny _ _ (spliced ((false,eval e X.env)::backTo pos (starEach G X.env))) _ _ s;refine ug (Al (ha Z s R H _ I h) λu s1 z_=>?_);obtain⟨x,H1,I1,r1,q1⟩:=z_;exact Al (hr pos Z s1 R H1 _ I1 q1) λus s2 ⟨xs,H2,I2,r2,q2⟩=>⟨x::xs,H2,I2,.cons r1 r2,q2⟩
def a9e(t:TA):TE:=λL H Q=>t L H λG Z=>G.length<=sizeLine/\∀p,Z p=none->Q (.ref p) (upd Z p (.tup G))
def a9f(t:TA):TE:=λL H Q=>t L H λG Z=>G.length<=sizeLine/\∀p,Z p=none->Q (.ref p) (upd Z p (.lst G))
def av9{X:Cx}{L:Y3}{t:TA}{pos:Pos}{x1}(h:PA X L t):PE X (.Tuple L x1 pos) (a9e t):=by intro Z s σ H Q I hq;refine wpAny_Tuple_spliced (Al (h pos Z s σ H _ I hq) λus G ⟨xs,H1,I1,r,z,q⟩=>⟨by rw[<- r.length];exact z,?_⟩);have R:H1 G.heap.objs.size=none:=I1.wk.fresh (bh _);refine⟨.ref G.heap.objs.size,upd H1 G.heap.objs.size (.tup xs),I1.laid (t':=G.toks) (λb u e=>ak _ e) (bh _) ?_,rfl,q _ R⟩;exact⟨z,us,r,Q6.new _ _⟩
def aj3{X:Cx}{L:Y3}{t:TA}{pos:Pos}(h:PA X L t):PE X (.List L pos) (a9f t):=by intro Z s σ H Q I hq;refine wpAny_List_spliced (Al (h pos Z s σ H _ I hq) λus G ⟨xs,H1,I1,r,z,q⟩=>⟨by rw[<- r.length];exact z,?_⟩);have R:H1 G.heap.objs.size=none:=I1.wk.fresh (bh _);refine⟨.ref G.heap.objs.size,upd H1 G.heap.objs.size (.lst xs),I1.laid (t':=G.toks) (λb u e=>ak _ e) (bh _) ?_,rfl,q _ R⟩;exact⟨z,us,0,r,bw _ rfl⟩
abbrev Sp:=List V->Hp->VK->XK->Prop
abbrev Yn:=List Env->Hp->Shared->XK->Value->Shared->Prop
structure Q8(P:Program)(w:World)(K:Fg)(mg:Zs)(base:Heap)(A:Around)(outer:List Env)(s:Shared)(H:Hp):Prop where
 frames:A.frames=some outer
 mod:Mod K mg base
 bs:∀b o,base.get? b=some o->s.heap.get? b=some o/\H b=none
 bsz:base.objs.size<=s.heap.objs.size
 Ke:s.heap.FunFrames base outer
 frf:∀b∈Gb outer,H b=none
 wk:Jh P w H s.heap
 bare:AllBare s.gens
def CE(Z:List Env)(P:Program)(w:World)(H:Hp)(s:Shared)(Q:VK)(u:Value)(G:Shared):Prop :=
 ∃v L,G.os=s.os/\AllBare G.gens/\Un (Gb Z) [] H L s.heap G.heap/\Jh P w L G.heap/\RelV v u/\Q v L
def CR(L:Yn)(Z:List Env)(P:Program)(w:World)(H:Hp)(s:Shared)(Q:VK)(E:XK)(r:Result)(G:Shared):Prop :=
 match r with
 |.ok (.ret u)=>CE Z P w H s Q u G|.ok _=>False|.error e=>L Z H s E e G
structure Cr(P:Program)(w:World)(K:Fg)(mg:Zs)(base:Heap)(CX:Yn)(k:Nat)(f:Addr)(fd:FuncData)(ps:Ya)(sp:Sp):Prop where
 len:∀vs H Q E,sp vs H Q E->vs.length=ps.length
 run:∀(A:Around)(outer:List Env)(s:Shared)(H:Hp)(args:Args)(us:Zl)(vs:List V)(Q:VK)(E:XK),xj k A->Q8 P w K mg base A outer s H->BindsTo s fd args (ps.zip us)->Vals vs us->sp vs H Q E ->
  codeAny (model P w) A (.call (.ref f) args) (CR CX outer P w H s Q E) s
def Cr.imp{P:Program}{w:World}{K:Fg}{mg:Zs}{Z:Heap}{CX:Yn}{k:Nat}{f:Addr}{fd:FuncData}{ps:Ya}{sp sp':Sp}(F:Cr P w K mg Z CX k f fd ps sp)
 (h:∀L H Q E,sp' L H Q E->sp L H Q E):Cr P w K mg Z CX k f fd ps sp' :=
 ⟨λL H Q E q=>F.len L H Q E (h _ _ _ _ q),λA G s H R us L Q E hr he hb hv hs=>F.run A G s H R us L Q E hr he hb hv (h _ _ _ _ hs)⟩
def Q8.make{P:Program}{w:World}{K:Fg}{mg:Zs}{G:Heap}{A:Around}{Z:List Env}{s:Shared}{H:Hp}(e:Q8 P w K mg G A Z s H)(C:Addr)(R:Zl)(L:List (Str×Value)) :
 Q8 P w K mg G (A.under (.builtin "type.__call__" ⟨.ref C::R,L⟩)) Z s H:=⟨by first|exact e.frames|(simpa[Around.under,Code.envs,Code.isFrame,pushEnvs] using e.frames),e.mod,e.bs,e.bsz,e.Ke,e.frf,e.wk,e.bare⟩
def Inv.env0{X:Cx}{Z:Zp}{G:St}{H:Hp}{s:Shared}(I:Inv X Z G H s):Q8 X.prog X.w X.K X.mg X.base X.A X.stack s H :=
 ⟨I.ok.frames,I.ok.mod,I.bs,dq I.ok.bsz I.sz,I.stack,I.K7,I.wk,I.bare⟩
def Inv.after{X:Cx}{Z:Zp}{R:St}{H:Hp}{s s':Shared}{Q:VK}{u:Value}(I:Inv X Z R H s)(h:CE X.stack X.prog X.w H s Q u s'):EP X Z R Q u s':=by obtain⟨v,H',os,G,un,wk,r,q⟩:=h;obtain⟨hh,g,d,t,L⟩:=s';obtain rfl:L=s.os:=os;exact⟨v,H',I.call (h':=hh) (g':=g) (d':=d) (t':=t) (ch:=[]) un wk G (λb z=>absurd z (by simp)),r,q⟩
def a1i(sp:Sp)(Z:List V)(E:XK)(t:TA):TE:=λR H Q=>t R H λL G=>sp (L++Z) G Q E
def a1j(C:Addr)(sp:Sp)(R:List V)(E:XK)(t:TA):TE:=fun σ H Q=>t σ H λvs G=>∀x Z,G x=none->G Z=none->Z≠x ->
 sp (.ref x::(vs++R)) (upd (upd G Z (.own x)) x (.ins C Z [])) (λv L=>v=.non/\Q (.ref x) L) E
def Binds(K:Fg)(R:FuncData)(G:Ya)(L:Zl):Prop :=
 ∀(s:Shared)(Z:Zl),K.In s.heap->(Z++L).length=G.length->BindsTo s R ⟨Z,[]⟩ (G.zip (Z++L))
def Binds.all{K:Fg}{R:FuncData}{G:Ya}(h:∀Z:List Value,Z.length=G.length->bindArgs R ⟨Z,[]⟩=pure (G.zip Z)):Binds K R G []:=λs Z _ L=>by rw[jm] at L ⊢;exact .of_eq (h Z L)
def Passes(L:Yn)(X:Cx)(E:XK):Prop:=∀(Z:Zp)(R:St)(H:Hp)(s:Shared)(e:Value)(G:Shared),Inv X Z R H s->L X.stack H s E e G->X.xe e G
def awa{X:Cx}{CX:Yn}{k:Nat}{f:Addr}{fd:FuncData}{ps:Ya}{sp:Sp}{Yo:List V}{R:Zl}{E:XK}{Z:Zp}{σ:St}{H:Hp}{s:Shared}{Q:VK}{G:Zl}{vs:List V}(F:Cr X.prog X.w X.K X.mg X.base CX k f fd ps sp)(hr:xj k X.A)(hb:Binds X.K fd ps R)(hd:Vals Yo R)(hx:Passes CX X E)
 (I:Inv X Z σ H s) (r:Vals vs G) (h:sp (vs++Yo) H Q E):wpAny (model X.prog X.w) X.A (call (.ref f) G) (EP X Z σ Q) X.xe s:=by
 have r2:Vals (vs++Yo) (G++R):=r.append hd;have hl:(G++R).length=ps.length:=by rw[<- r2.length];exact F.len _ _ _ _ h
 refine wpAny_call (m9 (F.run X.A X.stack s H ⟨G,[]⟩ (G++R) (vs++Yo) Q E hr I.env0 (hb s G I.kIn hl) r2 h) λr s' L=>?_);cases r with
 |error e=>exact hx Z σ H s e s' I L
 |ok fl =>
  cases fl with
  |ret u=>exact I.after L|next=>exact False.elim L|brk=>exact False.elim L|cont=>exact False.elim L
def aed{X:Cx}{L:Yn}{k:Nat}{f:Addr}{fd:FuncData}{ps:Ya}{sp:Sp}{Yo:List V}{R:Zl}{E:XK}{x:Str}{p pos:Pos}{e:Expr}{G:Y3}{t:TA}(F:Cr X.prog X.w X.K X.mg X.base L k f fd ps sp)(hr:xj k X.A)(hg:Gl X x)(hm:X.mg x=some (.ref f))(hk:PySem.W.keepIn X.K (.ref f)=true)(hb:Binds X.K fd ps R)(hd:Vals Yo R)(hx:Passes L X E)
 (ha:PA X (e::G) t) (K9:(x==("__debug__" : Str))=false:=by decide) (he:starEach (e::G) X.env=(false,eval e X.env)::starEach G X.env:=by rfl) (Jo:(backTo pos (starEach G X.env)).any (·.1)=false:=by rfl) :
 PE X (.Call (.Name x p) (e::G) [] pos) (a1i sp Yo E t):=by
 intro Z s σ H Q I h;refine jj (Ij I hg hm ?_ K9);refine PySem.W.callWith_K (h₀:=X.base) I.ok.mod.kin hk (Al (ha pos Z s σ H _ I h) λus s1 ⟨vs,H1,I1,r,q⟩=>⟨I1.kIn,?_⟩) he Jo;exact awa F hr hb hd hx I1 r q
structure Mk(K:Fg)(C f:Addr):Prop where
 makes:PySem.W.makesIn K C=true
 init:PySem.W.findIn K (.ref C) "__init__" = some (some (.ref f))
 fn:PySem.W.isFn K (.ref f)=true
 kp:PySem.W.keepIn K (.ref C)=true
def aj4{X:Cx}{CX:Yn}{k:Nat}{f C:Addr}{fd:FuncData}{ps:Ya}{sp:Sp}{Yo:List V}{R:Zl}{E:XK}{Z:Zp}{σ:St}{H:Hp}{s:Shared}{Q:VK}{L:Zl}{vs:List V}(M:Mk X.K C f)(F:Cr X.prog X.w X.K X.mg X.base CX k f fd ps sp)(hr:xj (k+1) X.A)(hb:Binds X.K fd ps R)(hd:Vals Yo R)
 (hx:Passes CX X E) (I:Inv X Z σ H s) (r:Vals vs L)
 (h:∀x dx,H x=none->H dx=none->dx≠x->sp (.ref x::(vs++Yo)) (upd (upd H dx (.own x)) x (.ins C dx [])) (λv H2=>v=.non/\Q (.ref x) H2) E) :
 wpAny (model X.prog X.w) X.A (call (.ref C) L) (EP X Z σ Q) X.xe s:=by
 have hq:=h (s.heap.objs.size+1) s.heap.objs.size (I.wk.fresh (t7 _)) (I.wk.fresh (bh _)) (gn (ql _));have I2:=Inv.made (C:=C) I;have r2:Vals (V.ref (s.heap.objs.size+1)::(vs++Yo)) (Value.ref (s.heap.objs.size+1)::(L++R)):=.cons rfl (r.append hd);have hl:(Value.ref (s.heap.objs.size+1)::L++R).length=ps.length:=by have e:=r2.length;rw[F.len _ _ _ _ hq] at e;exact e.symm
 refine wpAny_call (aj2 (f:=f) I.kIn M.makes M.init (v8.mp M.fn) (m9 (F.run _ X.stack _ _ ⟨Value.ref (s.heap.objs.size+1)::L,[]⟩ (Value.ref (s.heap.objs.size+1)::(L++R)) _ _ E (hr.make C L [])
  (I2.env0.make C L []) (hb _ (Value.ref (s.heap.objs.size+1)::L) I2.kIn hl) r2 hq) λr s' G=>?_))
 cases r with
 |error e=>exact hx Z σ _ _ e s' I2 G
 |ok fl =>
  cases fl with
  |ret u =>
   obtain⟨v,H',I3,rv,ev,q3⟩:=I2.after G;subst ev;exact⟨rv,⟨V.ref (s.heap.objs.size+1),H',I3,rfl,q3⟩⟩
  |next=>exact False.elim G|brk=>exact False.elim G|cont=>exact False.elim G
def aee{X:Cx}{L:Yn}{k:Nat}{f C:Addr}{fd:FuncData}{ps:Ya}{sp:Sp}{Yo:List V}{R:Zl}{E:XK}{x:Str}{p pos:Pos}{e:Expr}{G:Y3}{t:TA}(M:Mk X.K C f)(F:Cr X.prog X.w X.K X.mg X.base L k f fd ps sp)(hr:xj (k+1) X.A)(hg:Gl X x)(hm:X.mg x=some (.ref C))(hb:Binds X.K fd ps R)(hd:Vals Yo R)(hx:Passes L X E)
 (ha:PA X (e::G) t) (K9:(x==("__debug__" : Str))=false:=by decide) (he:starEach (e::G) X.env=(false,eval e X.env)::starEach G X.env:=by rfl) (Jo:(backTo pos (starEach G X.env)).any (·.1)=false:=by rfl) :
 PE X (.Call (.Name x p) (e::G) [] pos) (a1j C sp Yo E t):=by
 intro Z s σ H Q I h;refine jj (Ij I hg hm ?_ K9);refine PySem.W.callWith_K (h₀:=X.base) I.ok.mod.kin M.kp (Al (ha pos Z s σ H _ I h) λus s1 ⟨vs,H1,I1,r,q⟩=>⟨I1.kIn,?_⟩) he Jo;exact aj4 M F hr hb hd hx I1 r q
structure Nq(N P:Ya)(sc:Scope):Prop where
 kind:sc.kind=.function
 co:sc.isCoroutine=false
 gen:sc.isGenerator=false
 nd:N.Nodup
 pre:N.take P.length=P
 par:∀x∈P,sc.names.lookup x=some .local\/sc.names.lookup x=some .cell
 awb:∀y∈sc.names,y.2≠.free
theorem Vs{Z:Str->Option NameKind}{x:Str}:∀{binds:List (Str×Value)}{m:Zs},(∀v,(x,v)∉binds)->bindL Z binds m x=m x
 |[],_,_=>rfl
 |(n,v)::r,m,h=>by
  unfold bindL;rw[Vs λw G=>h w (bc _ G)];split
  .have:x≠n:=by rintro rfl;exact h v bu
   simp[this]
  .rfl
theorem Vt{Z:Str->Option NameKind}{x:Str}:∀{binds:List (Str×Value)}{m:Zs},(∀v,(x,v)∉binds)->bindC Z binds m x=m x
 |[],_,_=>rfl
 |(n,v)::r,m,h=>by
  unfold bindC;rw[Vt λw G=>h w (bc _ G)];split
  .rfl
  .have:x≠n:=by rintro rfl;exact h v bu
   simp[this]
theorem Vu{Z:Str->Option NameKind}{x:Str}{v:Value}:∀{P:Ya}{G:Zl}{i:Nat}{m:Zs},P.Nodup->P[i]?=some x->G[i]?=some v->Z x=some .local ->
 bindL Z (P.zip G) m x=some v
 |[],_,_,_,_,h,_,_=>by simp at h|_::_,[],_,_,_,_,h,_=>by simp at h
 |p::P,w::G,0,m,nd,h1,h2,hk=>by
  simp at h1 h2;subst h1;subst h2;show bindL Z ((p,w)::P.zip G) m p=_;unfold bindL;rw[Vs λv L=>(rm.mp nd).1 (Aj L).1,bf hk];simp
 |p::P,w::G,i+1,m,nd,h1,h2,hk=>by
  show bindL Z ((p,w)::P.zip G) m x=_;unfold bindL;exact Vu (i:=i) (rm.mp nd).2 (by simpa using h1) (by simpa using h2) hk
theorem Vv{Z:Str->Option NameKind}{x:Str}{v:Value}:∀{P:Ya}{G:Zl}{i:Nat}{m:Zs},P.Nodup->P[i]?=some x->G[i]?=some v->Z x≠some .local ->
 bindC Z (P.zip G) m x=some v
 |[],_,_,_,_,h,_,_=>by simp at h|_::_,[],_,_,_,_,h,_=>by simp at h
 |p::P,w::G,0,m,nd,h1,h2,hk=>by
  simp at h1 h2;subst h1;subst h2;show bindC Z ((p,w)::P.zip G) m p=_;unfold bindC;rw[Vt λv L=>(rm.mp nd).1 (Aj L).1,az hk];simp
 |p::P,w::G,i+1,m,nd,h1,h2,hk=>by
  show bindC Z ((p,w)::P.zip G) m x=_;unfold bindC;exact Vv (i:=i) (rm.mp nd).2 (by simpa using h1) (by simpa using h2) hk
noncomputable def start(N:Ya)(Z:List V):St:=Z.map some++List.replicate (N.length-Z.length) none
noncomputable def Hi(CX:Yn)(P:Program)(w:World)(K:Fg)(mg:Zs)(base:Heap)(N:Ya)(G:Str)(Z:Scope)(f:Addr)(R:Value)(A:Around)(outer:List Env)(s:Shared)(H:Hp)(E:XK):Cx where
 prog:=P
 w:=w
 K:=K
 mg:=mg
 base:=base
 A:=A.deeper (envOfC G Z s.heap.objs.size f R)
 N:=N
 s₀:=s
 H₀:=H
 env:=envOfC G Z s.heap.objs.size f R
 outer:=outer
 stack:=envOfC G Z s.heap.objs.size f R::outer
 ex:=[]
 calm:=true
 fn:=λ_=>true
 pn:=[]
 xe:=λe s'=>wpAny (model P w) (A.deeper (envOfC G Z s.heap.objs.size f R)) (leaving (envOfC G Z s.heap.objs.size f R) e) (λ_ L=>CX outer H s E e L) (λe' L=>CX outer H s E e' L) s'
def Zo{Z:Scope}{n:Nat}{x:Str}(h:Z.names.lookup x=some .cell):∃c,(cellsFrom n Z.names []).lookup x=some c:=by have q:=PySem.W.cellsFrom_some Z.names n [] (.inl h);exact ig.mp q
def Vw{CX:Yn}{P:Program}{w:World}{K:Fg}{mg:Zs}{qq:Heap}{N ps:Ya}{L:Str}{Z:Scope}{f:Addr}{cd:Value}{A:Around}{G:List Env}{s s1:Shared}{H:Hp}{E:XK}{us:Zl}{vs:List V}
 (S:Nq N ps Z) (hd:A.handled=none) (e0:Q8 P w K mg qq A G s H) (hl:vs.length=ps.length) (r:Vals vs us)
 (x:InCallC s s.heap.objs.size (bindL (envOfC L Z s.heap.objs.size f cd).kindOf (ps.zip us) λ_=>none) (cellsFrom (s.heap.objs.size+1) Z.names []) (bindC (envOfC L Z s.heap.objs.size f cd).kindOf (ps.zip us) λ_=>none) s1) :
 Inv (Hi CX P w K mg qq N L Z f cd A G s H E) [] (start N vs) H s1:=by
 have Jo:ps.length<=N.length:=by have:=nq List.length S.pre;rw[List.length_take] at this;lia
 obtain⟨h1,tk,rfl,hk⟩:=x.done;have noA:∀b:Addr,b∉(Hi CX P w K mg qq N L Z f cd A G s H E).ex:=λb z=>absurd (show b∈([]:X0) from z) (by simp)
 refine⟨⟨e0.mod,S.kind,rfl,rfl,bh _,λy z c h1 R=>?_,λy hy=>?_,λy c _ h=>?_,λ_=>hd,Around.frames_deeper e0.frames,.inr ⟨rfl,rfl⟩,λb z=>absurd z (noA b),e0.bs,e0.bsz,λb _ _=>noA b,λb z=>absurd z (noA b),e0.Ke,e0.frf⟩,
  rfl,e0.bare,Un.kept hk,⟨_,x.toInCall.ns,λi y v h1 R h3=>?_⟩,λy c h=>⟨_,x.cell y c h⟩,e0.wk.fresh (bh _),λy c h=>?_,λp hp=>absurd (show p∈([]:Zp) from hp) (by simp),e0.wk.kept hk,?_⟩
 .exact name_of_addr x.apart (yd h1) (yd R)
 .have hy:Z.names.lookup y=some .cell\/Z.names.lookup y=some .free:=hy
  rcases hy with hy|hy
  .exact Zo hy
  .exact absurd rfl (S.awb _ (yd hy))
 .exact zj (x.above y c (yd h))
 .have hi:i<vs.length:=by
   unfold start at R
   by_cases hi:i<vs.length
   .exact hi
   .rw[qz (by simpa using hi)] at R
    rw[xu] at R;split at R<;>cases R
  have ha:vs[i]?=some v:=by
   unfold start at R;rw[jh (by simpa using hi),ir] at R;cases e:vs[i]? with
   |none=>rw[e] at R;cases R|some a=>rw[e] at R;cases R;rfl
  obtain⟨u,hu,rv⟩:=r.get ha;have hp:ps[i]?=some y:=by rw[<- S.pre,List.getElem?_take_of_lt (b_ hi (f_ hl))];exact h1
  have qk:ps.Nodup:=by rw[<- S.pre];exact S.nd.sublist (List.take_sublist _ _)
  refine⟨u,rv,?_⟩;rcases S.par y (cj hp) with k|k
  .exact .inl ⟨k,Vu qk hp hu k⟩
  .obtain⟨c,e⟩:=Zo (n:=s.heap.objs.size+1) k
   refine .inr ⟨.inl k,c,e,?_⟩;have q:=x.cell y c e;rw[Vv qk hp hu (by show Z.names.lookup y≠_;rw[k];decide)] at q;exact q
 .exact e0.wk.fresh (zj (x.above y c (yd h)))
 .unfold start
  show _=N.length;rw[o4,dw,v7]
  lia
def asr{CX:Yn}{P:Program}{w:World}{K:Fg}{mg:Zs}{qk:Heap}{k:Nat}{f:Addr}{q1 L:Str}{qq:Arguments}{qv:List Stmt}{Z:Scope}{dV kV q3 pm R ct oc:Value}{an od:Option Addr}
 {q6:Array (Option Value)} {N ps:Ya} {sp:Sp} (lk:K.lookup f=some ⟨oc,od,.func (PySem.W.fnOf q1 L qq qv Z dV kV q3 pm an R ct),q6⟩) (Rx:PySem.W.codeIn K R L=true) (S:Nq N ps Z)
 (len:∀vs H Q E,sp vs H Q E->vs.length=ps.length)
 (Tp:∀(A:Around)(G:List Env)(s:Shared)(H:Hp)(vs:List V)(Q:VK)(E:XK),xj k (A.deeper (envOfC L Z s.heap.objs.size f R))->sp vs H Q E ->
  ∃t,Lq (Hi CX P w K mg qk N L Z f R A G s H E) qv t/\t { nx:=λ_ H'=>Q .non H',rt:=Q } (start N vs) H) :
 Cr P w K mg qk CX (k+1) f (PySem.W.fnOf q1 L qq qv Z dV kV q3 pm an R ct) ps sp:=by
 refine⟨len,λA G s H q7 us vs Q E hr e0 hb r q2=>?_⟩;have hl:=len _ _ _ _ q2;have KX:K.In s.heap:=e0.mod.kin.keeps λb o e=>(e0.bs b o e).1
 have q4:s.heap.NoLimit:=e0.mod.nolimit.keeps λb o e=>(e0.bs b o e).1
 have q5:∀y∈ps.zip us,Z.names.lookup y.1=some .local\/(Z.names.lookup y.1=some .cell/\((cellsFrom (s.heap.objs.size+1) Z.names []).lookup y.1).isSome=true):=λ⟨n,v⟩ hy=>by
  rcases S.par n (Aj hy).1 with q|q
  .exact .inl q
  .exact .inr ⟨q,PySem.W.cellsFrom_some _ _ _ (.inl q)⟩
 refine codeAny_call_function hr.depth (KX _ _ lk) rfl S.co S.gen rfl (PySem.W.codeRec_of KX Rx) (hb _ _ _ _ ?_);refine wpAny_newFunctionEnv_cells S.kind q5 λq8 he s1 x=>?_
 subst he;refine⟨q4.keeps x.toInCall.keep,codeAny_func ?_⟩;obtain⟨t,ht,hq⟩:=Tp A G s H vs Q E (hr.deeper _) q2;have I:Inv (Hi CX P w K mg qk N L Z f R A G s H E) [] (start N vs) H s1:=Vw S hr.hd e0 hl r x;refine ik (ht [] s1 (start N vs) H _ I hq) (λfl s' hs=>?_) λe s' hs=>hs
 have fin:∀{q0:St}{H':Hp}{v:V}{u:Value},Inv (Hi CX P w K mg qk N L Z f R A G s H E) [] q0 H' s'->RelV v u->Q v H'->CE G P w H s Q u s' :=
  fun{q0 H' v u} J rv q=>⟨v,H',J.os,J.bare,J.base,J.wk,rv,q⟩
 cases fl with
 |ret u =>
  obtain⟨v,q0,H',J,rv,q⟩:=hs;exact fin J rv q
 |next =>
  obtain⟨q0,H',J,q⟩:=hs;exact fin (v:=V.non) (u:=Value.none) J rfl q
 |brk =>
  obtain⟨_,_,_,q⟩:=hs;exact False.elim q
 |cont =>
  obtain⟨_,_,_,q⟩:=hs;exact False.elim q
end L2
namespace L2
open PySem PySem.Spec PyProof.Rows
def tCB(r:List V->Hp->VK->Prop)(t:TA):TE:=λG H Q=>t G H λL Z=>r L Z Q
def aj6{X:Cx}{x:Str}{p pos:Pos}{e:Expr}{G:Y3}{t:TA}{id:String}{r:List V->Hp->VK->Prop}(R:Bp X (.builtin id) r)(hg:Gl X x)(hm:X.mg x=none)(hv:bootBuiltins x=some (.builtin id))(ha:PA X (e::G) t)(hn:x≠"__name__" := by decide)(K9:(x==("__debug__" : Str))=false:=by decide)
 (he:starEach (e::G) X.env=(false,eval e X.env)::starEach G X.env:=by rfl) (Jo:(backTo pos (starEach G X.env)).any (·.1)=false:=by rfl):PE X (.Call (.Name x p) (e::G) [] pos) (tCB r t):=by
 intro Z s L H Q I h;refine jj (Hh I hg hm hv ?_ hn K9);exact PyProof.Rows.callWith_builtin1 (Al (ha pos Z s L H _ I h) λus s1 ⟨vs,H1,I1,r1,q1⟩=>R Z s1 L H1 vs us Q I1 r1 q1) he Jo
def agm{X:Cx}{x:Str}{p pos:Pos}{e:Expr}{G:Y3}{t:TA}{T:String}{r:List V->Hp->VK->Prop}(R:Bp X (.type T) r)(hg:Gl X x)(hm:X.mg x=none)(hv:bootBuiltins x=some (.type T))(ha:PA X (e::G) t)(hn:x≠"__name__" := by decide)(K9:(x==("__debug__" : Str))=false:=by decide)
 (he:starEach (e::G) X.env=(false,eval e X.env)::starEach G X.env:=by rfl) (Jo:(backTo pos (starEach G X.env)).any (·.1)=false:=by rfl):PE X (.Call (.Name x p) (e::G) [] pos) (tCB r t):=by
 intro Z s L H Q I h;refine jj (Hh I hg hm hv ?_ hn K9);exact lq (Al (ha pos Z s L H _ I h) λus s1 ⟨vs,H1,I1,r1,q1⟩=>R Z s1 L H1 vs us Q I1 r1 q1) he Jo
section
variable{κ:Type}[DecidableEq κ]
noncomputable def Pa(Z:List (κ×V))(k:κ):Option V:=(Z.find? λG=>decide (G.1=k)).map (·.2)
noncomputable def putK(Z:List (κ×V))(k:κ)(v:V):List (κ×V) :=
 if(Z.any λG=>decide (G.1=k))=true then Z.map (λG=>if G.1=k then(G.1,v) else G) else Z++[(k,v)]
def Nr{p:κ×V}(e:p.1=k):Pa (p::r) k=some p.2:=by simp[Pa,n8,e]
def Nt{p:κ×V}(e:¬p.1=k):Pa (p::r) k=Pa r k:=by simp[Pa,n8,e]
theorem Zq(k:κ):∀Z:List (κ×V),(Z.any λG=>decide (G.1=k))=(Pa Z k).isSome
 |[]=>rfl
 |p::r=>by
  rw[yq]
  by_cases e:p.1=k
  .simp only[Nr e,jf e,Bool.true_or,Option.isSome_some]
  .rw[Nt e,dz e,Bool.false_or];exact Zq k r
def Qn(Z:List (κ×V))(k:κ)(v:V):(putK Z k v).length<=Z.length+1:=by
 unfold putK;split
 .rw[dw];exact x_
 .rw[o4,gq,List.length_nil];exact bh _
def Q5.Ht(r:Q5 o u):o.isSome=u.isSome:=by
 cases o with
 |none=>cases u with
  |none=>rfl|some _=>exact(show False from r).elim
 |some _=>cases u with
  |none=>exact(show False from r).elim
  |some _=>rfl
def KV.val(r:KV kvs L)(k:κ):Q5 (Pa kvs k) (valueAt L k):=by
 unfold KV at r
 induction r with
 |nil=>exact True.intro
 |@cons p q ps qs h t ih =>
  obtain⟨G,R⟩:=h
  by_cases e:p.1=k
  .have Z:q.1=k:=G.symm.trans e
   have b:valueAt (q::qs) k=some q.2:=by simp[valueAt,n8,Z]
   rw[Nr e,b];exact R
  .have Z:¬q.1=k:=λz=>e (G.trans z)
   have b:valueAt (q::qs) k=valueAt qs k:=by simp[valueAt,n8,Z]
   rw[Nt e,b];exact ih
theorem KV.any(r:KV kvs G)(k:κ):(kvs.any λZ=>decide (Z.1=k))=G.any λZ=>decide (Z.1=k):=by
 unfold KV at r
 induction r with
 |nil=>rfl|cons h t L=>rw[yq,yq,L,h.1]
def KV.ab6(r:KV kvs L)(k:κ)(R:RelV y u) :
 KV (kvs.map λZ=>if Z.1=k then(Z.1,y) else Z) (L.map λZ=>if Z.1=k then(Z.1,u) else Z):=by
 unfold KV at r ⊢
 induction r with
 |nil=>exact .nil
 |@cons p q ps qs h t ih =>
  rw[du,du];refine .cons ?_ ih;obtain⟨G,h2⟩:=h
  by_cases e:p.1=k
  .rw[bf e,bf (G.symm.trans e)];exact⟨G,R⟩
  .rw[az e,az (λz=>e (G.trans z))];exact⟨G,h2⟩
def KV.put(r:KV kvs Z)(k:κ)(G:RelV y u):KV (putK kvs k y) (stored Z k u):=by
 unfold putK stored;rw[r.any k]
 by_cases e:(Z.any λL=>decide (L.1=k))=true
 .rw[bf e,bf e];exact r.ab6 k G
 .rw[az e,az e];exact Paired.snoc r ⟨rfl,G⟩
theorem KV.length{Z:List (κ×V)}{G:List (κ×Value)}(r:KV Z G):Z.length=G.length:=Paired.length r
end
def Zr(r:RelV (kV k) u):(jq P w).is k u=true:=by
 cases k with
 |inl i=>obtain⟨t,e⟩:=(show ∃t,u=Value.int i t from r);subst e;exact Ze P w i t
 |inr x=>obtain⟨t,e⟩:=(show ∃t,u=Value.str x t from r);subst e;exact Zf P w x t
theorem Vx{P:Program}{w:World}:∀{Z:List Key}{G:Zl},Vals (Z.map kV) G->ItemsAre (jq P w) Z G
 |[],_,r=>by rw[List.map_nil] at r;cases r;exact .nil
 |k::Z,_,r=>by
  rw[du] at r;cases r with
  |cons h t=>exact .cons (Zr h) (Vx t)
abbrev KT(H:Hp):List (List Key×V)->List (List Key×Addr×Value)->Prop:=Paired λp q=>p.1=q.1/\H q.2.1=some (.tup (p.1.map kV))/\RelV p.2 q.2.2
def KT.val(r:KT H kvs L)(k:List Key):Q5 (Pa kvs k) ((atKey L k).map (·.2)):=by
 induction r with
 |nil=>exact True.intro
 |@cons p q ps qs h t ih =>
  obtain⟨G,_,R⟩:=h
  by_cases e:p.1=k
  .have Z:q.1=k:=G.symm.trans e
   have b:atKey (q::qs) k=some q.2:=by simp[atKey,n8,Z]
   rw[Nr e,b];exact R
  .have Z:¬q.1=k:=λz=>e (G.trans z)
   have b:atKey (q::qs) k=atKey qs k:=by simp[atKey,n8,Z]
   rw[Nt e,b];exact ih
def KT.ab6(r:KT H kvs xs)(k:List Key)(R:RelV y u) :
 KT H (kvs.map λG=>if G.1=k then(G.1,y) else G) (xs.map (putAt k u)):=by
 induction r with
 |nil=>exact .nil
 |@cons p q ps qs h t ih =>
  rw[du,du];refine .cons ?_ ih;obtain⟨Z,L,h3⟩:=h;unfold putAt
  by_cases e:p.1=k
  .rw[bf e,bf (Z.symm.trans e)];exact⟨Z,L,R⟩
  .rw[az e,az (λz=>e (Z.trans z))];exact⟨Z,L,h3⟩
def KT.put(r:KT H kvs Z)(k:List Key)(L:H b=some (.tup (k.map kV)))(G:RelV y u) :
 KT H (putK kvs k y) (storedH Z k b u):=by
 have e:(kvs.any λR=>decide (R.1=k))=(atKey Z k).isSome:=by rw[Zq,(r.val k).Ht,Option.isSome_map]
 unfold putK storedH;rw[e]
 by_cases q:(atKey Z k).isSome=true
 .rw[bf q,bf q];exact r.ab6 k G
 .rw[az q,az q];exact Paired.snoc r ⟨rfl,L,G⟩
def KT.keeps(r:KT H kvs xs)(L:∀b Z,H b=some (.tup Z)->G b=some (.tup Z)):KT G kvs xs :=
 Paired.avd r λ_ _ z=>⟨z.1,L _ _ z.2.1,z.2.2⟩
def ass(ok:Jh P w H h)(e:Rd H a u):Bb P w H h a u:=e.ok ok
def Zt(ok:Jh P w H h)(e:Rd H a (.dK kvs)):kvs.length<=sizeLine/\(a==sysModules)=false/\∃vs,KV kvs vs/\h.DictOf (jq P w) a vs :=
 show Bb P w H h a (.dK kvs) from ass ok e
def a1l(ok:Jh P w H h)(e:H a=some (.dK kvs)):kvs.length<=sizeLine/\(a==sysModules)=false/\∃vs,KV kvs vs/\h.DictOf (jq P w) a vs:=Zt ok (.inl e)
def Kl(ok:Jh P w H h)(e:H a=some (.tup (Z.map kV))):(tupleKind (jq P w)).is h Z a:=by obtain⟨_,xf,r,o,R,G,n,L,_⟩:=(show Bb P w H h a (.tup (Z.map kV)) from ok a _ e);exact⟨o,xf.toArray,n,R,G,L,by simpa using Vx r⟩
def Zu(ok:Jh P w H h)(e:Rd H a (.dT kvs)):kvs.length<=sizeLine/\(a==sysModules)=false /\
 ∃xs,KT H kvs xs/\h.DictOfH (tupleKind (jq P w)) a xs:=by
 obtain⟨z,y,xs,r,o,G,ep,h1,R,h3,h4,L⟩:=(show Bb P w H h a (.dT kvs) from ass ok e);refine⟨z,y,xs,r,o,G,ep,h1,R,h3,h4,λx Z=>?_,L⟩;have all:∀{l:List (List Key×V)}{m:List (List Key×Addr×Value)},KT H l m->∀x∈m,(tupleKind (jq P w)).is h x.1 x.2.1:=by
  intro l m q
  induction q with
  |nil=>intro x Z;exact nomatch Z
  |@cons p q ps qs hq t ih =>
   intro x Z;rcases bx.mp Z with e|Z
   .subst e
    exact Kl ok (by rw[<- hq.1];exact hq.2.1)
   .exact ih x Z
 exact all r x Z
def Vy(ok:Jh P w H h)(e:H a=some (.dT kvs)):kvs.length<=sizeLine/\(a==sysModules)=false /\
 ∃xs,KT H kvs xs/\h.DictOfH (tupleKind (jq P w)) a xs:=Zu ok (.inl e)
def U6(H:Hp)(a:Addr)(y:V)(r:Option V):Prop :=
 (∃Z k,Rd H a (.dK Z)/\y=kV k/\r=Pa Z k)\/∃Z k b,Rd H a (.dT Z)/\y=.ref b/\H b=some (.tup (k.map kV))/\r=Pa Z k
def api(H:Hp)(a:Addr)(y v:V)(G:Hp):Prop :=
 (∃Z k,H a=some (.dK Z)/\y=kV k/\Z.length<sizeLine/\G=upd H a (.dK (putK Z k v))) \/
 ∃Z k b,H a=some (.dT Z)/\y=.ref b/\H b=some (.tup (k.map kV))/\Z.length<sizeLine/\G=upd H a (.dT (putK Z k v))
def U6.t{k:List Key}(e:H a=some (.dT kvs))(Z:H b=some (.tup (k.map kV))):U6 H a (.ref b) (Pa kvs k):=.inr ⟨kvs,k,b,.inl e,rfl,Z,rfl⟩
def api.t{k:List Key}(e:H a=some (.dT kvs))(G:H b=some (.tup (k.map kV)))(Z:kvs.length<sizeLine) :
 api H a (.ref b) v (upd H a (.dT (putK kvs k v))):=.inr ⟨kvs,k,b,e,rfl,G,Z,rfl⟩
def Inv.big(I:Inv X pins σ H s):sysModules<s.heap.objs.size:=by
 have h:mainGlobals<s.heap.objs.size:=(I.mod.glob.keeps I.bk).lt
 exact Nat.lt_trans (by decide) h
def agn(hu:A.units+1<cLine)(I:Inv X pins σ H s)(g:U6 H a y (some v))(ry:RelV y u)(h:∀L s',Inv X pins σ H s'->RelV v L->Q L s') :
 wpAny (model X.prog X.w) A (getItem (.ref a) u) Q E s:=by
 rcases g with⟨qk,k,e,R,l⟩|⟨qk,k,b,e,R,eb,l⟩
 .subst R
  obtain⟨z,hd,vs,G,dd⟩:=Zt I.wk e;obtain⟨L,hw,Z⟩:=Q5.some_of (v:=v) (o:=valueAt vs k) (by rw[l];exact G.val k);exact wpAny_getItem_of (Zr ry) dd.mapOf hw (h L _ (I.tok _) Z)
 .subst R
  cases(show u=Value.ref b from ry);obtain⟨z,hd,xs,G,dd⟩:=Zu I.wk e;obtain⟨L,hw,Z⟩:=Q5.some_of (v:=v) (o:=(atKey xs k).map (·.2)) (by rw[l];exact G.val k);obtain⟨p,hp,qq⟩:=cg.mp hw;refine wpAny_getItem_heap (uh hu) (Kl I.wk eb) dd hp ?_;rw[qq];exact h L _ (I.tok _) Z
def a9h(hu:A.units+1<cLine)(I:Inv X pins σ H s)(g:U6 H a y o)(ry:RelV y u)(h:∀s',Inv X pins σ H s'->Q (.bool o.isSome) s') :
 wpAny (model X.prog X.w) A (compareOp .In u (.ref a)) Q E s:=by
 rcases g with⟨qq,k,e,G,l⟩|⟨qq,k,b,e,G,eb,l⟩
 .subst G
  obtain⟨z,R,vs,Z,L⟩:=Zt I.wk e;refine wpAny_in_of (Zr ry) R L.mapOf ?_;rw[<- (Z.val k).Ht,<- l];exact h _ (I.tok _)
 .subst G
  cases(show u=Value.ref b from ry);obtain⟨z,R,xs,Z,L⟩:=Zu I.wk e;refine wpAny_in_heap (uh hu) (Kl I.wk eb) R L ?_;have q:=(Z.val k).Ht;rw[Option.isSome_map] at q;rw[<- q,<- l];exact h _ (I.tok _)
def apj(hu:A.units+1<cLine)(I:Inv X pins σ H s)(g:U6 H a y o)(ry:RelV y u)(h:∀s',Inv X pins σ H s'->Q (.bool (!o.isSome)) s') :
 wpAny (model X.prog X.w) A (compareOp .NotIn u (.ref a)) Q E s:=by
 rcases g with⟨qq,k,e,G,l⟩|⟨qq,k,b,e,G,eb,l⟩
 .subst G
  obtain⟨z,R,vs,Z,L⟩:=Zt I.wk e;refine wpAny_notIn_of (Zr ry) R L.mapOf ?_;rw[<- (Z.val k).Ht,<- l];exact h _ (I.tok _)
 .subst G
  cases(show u=Value.ref b from ry);obtain⟨z,R,xs,Z,L⟩:=Zu I.wk e;refine wpAny_notIn_heap (uh hu) (Kl I.wk eb) R L ?_;have q:=(Z.val k).Ht;rw[Option.isSome_map] at q;rw[<- q,<- l];exact h _ (I.tok _)
def Xi(I:Inv X pins σ H s)(R:Mut (H a))(hs:Heap.SameBut a s.heap Z)(he:∃q,Z.get? a=some q)(new:Bb X.prog X.w (upd H a G) Z a G) :
 Inv X pins σ (upd H a G) { s with heap:=Z,toks:=t' } :=
 I.write (x:=a) (e:=a) R (.inl rfl) (λb q L z=>(hs.2 b L).trans z) he new
def awc(z:kvs.length<=sizeLine)(hd:(a==sysModules)=false)(Z:KV kvs G)(R:L.DictOf (jq P w) a G) :
 Bb P w H' L a (.dK kvs):=⟨z,hd,G,Z,R⟩
def ago(hu:A.units+1<cLine)(I:Inv X pins σ H s)(g:api H a y v H')(ry:RelV y u)(rv:RelV v r)(h:∀s',Inv X pins σ H' s'->Q () s') :
 wpAny (model X.prog X.w) A (setItem (.ref a) u r) Q E s:=by
 rcases g with⟨G,k,e,ey,l,eH⟩|⟨G,k,b,e,ey,eb,l,eH⟩
 .subst ey eH
  obtain⟨z,hd,vs,Z,dd⟩:=a1l I.wk e;have hz:vs.length<=sizeLine:=by rw[<- Z.length];exact z
  have hl:(putK G k v).length<=sizeLine:=by have:=Qn G k v;exact a_ this l
  refine wpAny_setItem_pairs (hsz:=hz) (Zr ry) dd λh' L hs=>h _ ?_
  have he:∃q,h'.get? a=some q:=let ⟨q,_,_,R,_⟩:=L;⟨q,R⟩;exact Xi I (by rw[e];exact True.intro) hs he (awc hl hd (Z.put k rv) L)
 .subst ey eH
  cases(show u=Value.ref b from ry);obtain⟨z,hd,xs,Z,dd⟩:=Vy I.wk e;have hz:xs.length<=sizeLine:=by rw[<- Paired.length Z];exact z
  have hl:(putK G k v).length<=sizeLine:=by have:=Qn G k v;exact a_ this l
  refine wpAny_setItem_heap (hsz:=hz) (uh hu) (Kl I.wk eb) dd λh' L hs=>h _ ?_
  obtain⟨q,es,ep,R,h2,h3,h4,_,h5⟩:=L;refine Xi I (by rw[e];exact True.intro) hs ⟨q,R⟩ ⟨hl,hd,_,(Z.put k eb rv).keeps λc ys ec=>?_,q,es,ep,R,h2,h3,h4,h5⟩;rw[gr (ad6 ec e (λz=>nomatch z))];exact ec
def Zv(I:Inv X pins σ H s)(g:U6 H a y o):s.TypeIs (.ref a) "dict" := by
 rcases g with⟨G,k,e,_,_⟩|⟨G,k,b,e,_,_,_⟩
 .obtain⟨_,_,R,_,Z⟩:=Zt I.wk e
  exact Z.typeIs
 .obtain⟨_,_,L,_,Z⟩:=Zu I.wk e
  exact Z.typeIs
def aj7(h:Heap)(Z:sysModules<h.objs.size):Bb P w H (h.push { cls:=.type "dict",data:=.dict #[] }) h.objs.size (.dT []) :=
 ⟨j4 _,rz.mpr (j5 (gn Z)),[],.nil,_,#[],0,bw _ rfl,⟨rfl,rfl,rfl⟩,rfl,rfl,List.nodup_nil⟩
def awd:TE:=λ_ H Q=>∀p,H p=none->Q (.ref p) (upd H p (.dT []))
def aj8:PE X (.Dict [] [] pos) awd:=λZ s G H Q I h =>
 wpAny_Dict_empty ⟨.ref s.heap.objs.size,_,I.laid (a:=s.heap.objs.size) (o:=.dT []) (t':=s.toks) (λ_ _ q=>ak _ q) (bh _) (aj7 s.heap I.big),rfl,h _ (I.wk.fresh (bh _))⟩
end L2
namespace So
open PySem PySem.W PyProof.Rows
def Ok(c:Nat->Nat->Bool)(n:Nat):KasT α->(α->Prop)->Prop
 |.ret a,Q=>Q a|.ask i j k,Q=>i<n/\j<n/\Ok c n (k (c i j)) Q
theorem Ok.bind{c:Nat->Nat->Bool}{n:Nat}{f:α->KasT β}{Q:β->Prop}:∀{t:KasT α},Ok c n t (λa=>Ok c n (f a) Q)->Ok c n (t.bind f) Q
 |.ret a,h=>h|.ask i j k,h=>⟨h.1,h.2.1,Ok.bind h.2.2⟩
theorem Ok.mono{c:Nat->Nat->Bool}{n:Nat}{Q Z:α->Prop}(h:∀a,Q a->Z a):∀{t:KasT α},Ok c n t Q->Ok c n t Z
 |.ret a,z=>h a z|.ask i j k,z=>⟨z.1,z.2.1,Ok.mono h z.2.2⟩
theorem Ok.wp{c:Nat->Nat->Bool}{n:Nat}{Z:Nat->Nat->(Bool->Shared->Prop)->Shared->Prop}{Q:α->Prop}{G:α->Shared->Prop}{s:Shared}(L:∀i j C,i<n->j<n->C (c i j) s->Z i j C s)(hG:∀a,Q a->G a s):∀{t:KasT α},Ok c n t Q->t.kasWp Z G s
 |.ret a,z=>hG a z|.ask i j k,z=>L i j _ z.1 z.2.1 (Ok.wp L hG z.2.2)
structure Ord(c:Nat->Nat->Bool)(n:Nat):Prop where
 tr:∀i j k,i<n->j<n->k<n->c i j=true->c j k=true->c i k=true
 to:∀i j,i<n->j<n->i≠j->c i j=false->c j i=true
def PN(n:Nat)(p:Array Nat):Prop:=p.toList.Perm (List.range n)
noncomputable def at'(p:Array Nat)(i:Nat):Nat:=p.getD i 0
theorem PN.size(h:PN n p):p.size=n:=by have:=h.length_eq;simpa using this
def Rm{p:Array Nat}(h:i<p.size):p[i]?=some (at' p i):=by simp[at',Array.getD,h]
def at_of{p q:Array Nat}(h:p[i]?=q[j]?):at' p i=at' q j:=by unfold at';rw[Array.getD_eq_getD_getElem?,Array.getD_eq_getD_getElem?,h]
def PN.lt(h:PN n p)(Z:i<n):at' p i<n:=by
 have G:i<p.size:=by rw[h.size];exact Z
 have:at' p i∈p.toList:=by rw[Array.mem_toList_iff];exact Array.mem_of_getElem? (Rm G)
 simpa using h.mem_iff.mp this
def PN.inj(h:PN n p)(Z:i<n)(hj:j<n)(e:at' p i=at' p j):i=j:=by
 have G:p.toList.Nodup:=h.nodup_iff.mpr List.nodup_range;have h1:p.toList[i]?=some (at' p i):=by rw[j0];exact Rm (by rw[h.size];exact Z)
 have R:p.toList[j]?=some (at' p i):=by rw[j0,e];exact Rm (by rw[h.size];exact hj)
 obtain⟨l1,e1⟩:=aq.mp h1;obtain⟨l2,L⟩:=aq.mp R;exact(vq G).mp (e1.trans L.symm)
def PN.perm(h:PN n p)(q:Array.Perm p' p):PN n p':=(Array.perm_iff_toList_perm.mp q).trans h
def Up(c:Nat->Nat->Bool)(p:Array Nat)(k:Nat):Prop:=∀i j,i<j->j<k->c (at' p i) (at' p j)=true
def Dn(c:Nat->Nat->Bool)(p:Array Nat)(k:Nat):Prop:=∀i j,i<j->j<k->c (at' p j) (at' p i)=true
section
variable{c:Nat->Nat->Bool}{n:Nat}{p:Array Nat}
def awe:Up c p 1:=λi j G Z=>by lia
def Up.snoc(O:Ord c n)(P:PN n p)(h:Up c p m)(L:1<=m)(Z:m<n)(e:c (at' p (m-1)) (at' p m)=true):Up c p (m+1):=λi j G R=>by
 by_cases z:j=m
 .subst z
  by_cases w:i=j-1
  .subst w;exact e
  .exact O.tr _ _ _ (P.lt (by lia)) (P.lt (by lia)) (P.lt Z) (h i (j-1) (by lia) (by lia)) e
 .exact h i j G (by lia)
def Dn.snoc(O:Ord c n)(P:PN n p)(h:Dn c p m)(L:1<=m)(Z:m<n)(e:c (at' p m) (at' p (m-1))=true):Dn c p (m+1):=λi j G R=>by
 by_cases z:j=m
 .subst z
  by_cases w:i=j-1
  .subst w;exact e
  .exact O.tr _ _ _ (P.lt Z) (P.lt (by lia)) (P.lt (by lia)) e (h i (j-1) (by lia) (by lia))
 .exact h i j G (by lia)
def flip(O:Ord c n)(P:PN n p)(Z:i<n)(G:j<n)(L:i≠j)(e:c (at' p i) (at' p j)=false):c (at' p j) (at' p i)=true:=O.to _ _ (P.lt Z) (P.lt G) (λz=>L (P.inj Z G z)) e
theorem ab7(O:Ord c n)(P:PN n p):∀(f m:Nat),1<=m->m+f<=n->Up c p m->Ok c n (kas_asc p f m) λr=>m<=r/\r<=m+f/\Up c p r/\(r<m+f->c (at' p r) (at' p (r-1))=true)
 |0,m,h1,hm,h=>⟨bh _,bh _,h,λz=>absurd z (je _)⟩
 |f+1,m,h1,hm,h=>by
  refine⟨P.lt (show m<n by lia),P.lt (show m-1<n by lia),?_⟩;show Ok c n (if c (at' p m) (at' p (m-1))=true then _ else _) _;cases e:c (at' p m) (at' p (m-1)) with
  |true=>rw[bf rfl];exact⟨bh _,by lia,h,λ_=>e⟩
  |false =>
   rw[az (by simp)];refine(ab7 O P f (m+1) (by lia) (by lia) (h.snoc O P h1 (by lia) (flip O P (by lia) (by lia) (by lia) e))).mono λr z=>?_
   exact⟨by lia,by lia,z.2.2.1,λw=>z.2.2.2 (by lia)⟩
theorem aef(O:Ord c n)(P:PN n p):∀(f m:Nat),1<=m->m+f<=n->Dn c p m->Ok c n (kas_desc f p m 0) λr=>r.1=p/\r.2.2=0/\m<=r.2.1/\r.2.1<=m+f/\Dn c p r.2.1
 |0,m,h1,hm,h=>⟨rfl,rfl,bh _,bh _,h⟩
 |f+1,m,h1,hm,h=>by
  refine⟨P.lt (show m<n by lia),P.lt (show m-1<n by lia),?_⟩;show Ok c n (if c (at' p m) (at' p (m-1))=true then _ else _) _;cases e:c (at' p m) (at' p (m-1)) with
  |true =>
   rw[bf rfl,az (by simp)];refine(aef O P f (m+1) (by lia) (by lia) (h.snoc O P h1 (by lia) e)).mono λr z=>?_
   exact⟨z.1,z.2.1,by lia,by lia,z.2.2.2.2⟩
  |false =>
   rw[az (by simp)];refine⟨P.lt (show m-1<n by lia),P.lt (show m<n by lia),?_⟩;show Ok c n (if c (at' p (m-1)) (at' p m)=true then _ else _) _;rw[bf (flip O P (by lia) (by lia) (by lia) e)];exact⟨rfl,rfl,bh _,by lia,h⟩
def aj9(P:PN n p)(Z:m<=n)(i:Nat):at' (kas_rev p 0 m) i=if i<m then at' p (m-1-i) else at' p i:=by
 have e:=getElem?_mirror_all (xs:=p) (i:=0) (j:=m) (by rw[P.size];exact Z) i;split
 .rename_i h
  refine at_of ?_;rw[kas_rev,e,bf ⟨j4 _,h⟩,t8]
 .rename_i h
  refine at_of ?_;rw[kas_rev,e,az (λz=>h z.2)]
def awf(P:PN n p)(Z:m<=n)(h:Dn c p m):PN n (kas_rev p 0 m)/\Up c (kas_rev p 0 m) m:=by refine⟨P.perm (mirror_perm _ _ _ _),λi j L G=>?_⟩;rw[aj9 P Z,aj9 P Z,bf (by lia),bf G];exact h _ _ (by lia) (by lia)
def aka(O:Ord c n)(P:PN n p)(h2:2<=n):Ok c n (kas_count n p) λr=>PN n r.2/\Up c r.2 r.1/\1<=r.1/\r.1<=n:=by
 unfold kas_count;refine Ok.bind ((ab7 O P (n-1) 1 (bh _) (by lia) awe).mono λr z=>?_);obtain⟨R,G,Z,z4⟩:=z;have G:r<=n:=by lia
 by_cases e:r=n
 .rw[bf (by simp[e])];exact⟨P,Z,R,G⟩
 .rw[az (by simp[e])]
  by_cases e1:r > 1
  .rw[bf e1]
   refine⟨P.lt (show 0<n by lia),P.lt (show r-1<n by lia),?_⟩;show Ok c n (if c (at' p 0) (at' p (r-1))=true then _ else _) _;rw[bf (Z 0 (r-1) (by lia) (by lia))];exact⟨P,Z,R,G⟩
  .rw[az e1]
   have er:r=1:=by lia
   subst er;unfold kas_descPart;refine Ok.bind ((aef O P (n-(1+1)) (1+1) (by lia) (by lia) (λi j Qk hj=>?_)).mono λq w=>?_)
   .have hi:i=0:=by lia
    have hj:j=1:=by lia
    subst hi hj;exact z4 (by lia)
   .obtain⟨w1,w2,w3,w4,w5⟩:=w
    rw[w2,az (by simp),w1];unfold kas_tail3;obtain⟨L,U'⟩:=awf (m:=q.2.1) P (by lia) w5;exact Ok.bind ((ab7 O L (n-q.2.1) q.2.1 (by lia) (by lia) U').mono λr' y=>⟨L,y.2.2.1,by lia,by lia⟩)
theorem Tq(O:Ord c n)(P:PN n p)(Z:k<n):∀(f l r:Nat),r-l<=f->l<=r->r<=k->(∀x,x<l->c (at' p x) (at' p k)=true)->(∀x,r<=x->x<k->c (at' p k) (at' p x)=true)->Up c p k ->
 Ok c n (kas_place p k f l r) λq=>q<=k/\(∀x,x<q->c (at' p x) (at' p k)=true)/\∀x,q<=x->x<k->c (at' p k) (at' p x)=true
 |0,l,r,hf,h1,h2,a,b,u=>⟨by lia,a,λx L Z=>b x (by lia) Z⟩
 |f+1,l,r,hf,h1,h2,a,b,u=>by
  unfold kas_place
  by_cases e:l >= r
  .rw[bf e];exact⟨by lia,a,λx L Z=>b x (by lia) Z⟩
  .rw[az e]
   have hm:(l+r) / 2<r:=by lia
   have hl:l<=(l+r) / 2:=by lia
   refine⟨P.lt Z,P.lt (show(l+r) / 2<n by lia),?_⟩;show Ok c n (if c (at' p k) (at' p ((l+r) / 2))=true then _ else _) _;cases e1:c (at' p k) (at' p ((l+r) / 2)) with
   |true =>
    rw[bf rfl];refine Tq O P Z f l ((l+r) / 2) (by lia) hl (by lia) a (λx L G=>?_) u
    by_cases w:x=(l+r) / 2
    .subst w;exact e1
    .exact O.tr _ _ _ (P.lt Z) (P.lt (by lia)) (P.lt (by lia)) e1 (u _ _ (by lia) G)
   |false =>
    rw[az (by simp)];have R:=flip O P Z (show(l+r) / 2<n by lia) (by lia) e1;refine Tq O P Z f ((l+r) / 2+1) r (by lia) (by lia) h2 (λx L=>?_) b u
    by_cases w:x=(l+r) / 2
    .subst w;exact R
    .exact O.tr _ _ _ (P.lt (by lia)) (P.lt (by lia)) (P.lt Z) (u x _ (by lia) (by lia)) R
def akb(P:PN n p)(G:k<n)(L:l<=k)(i:Nat):at' (bubble p k (k-l)) i=if i=l then at' p k else if l<i/\i<=k then at' p (i-1) else at' p i:=by
 have e:=getElem?_bubble (xs:=p) (src:=k) (by rw[P.size];exact G) (k-l) (by lia) i;rw[show k-(k-l)=l by lia] at e;split
 .rename_i h;exact at_of (by rw[e,bf h])
 .rename_i h
  split
  .rename_i Z;exact at_of (by rw[e,az h,bf Z])
  .rename_i Z;exact at_of (by rw[e,az h,az Z])
theorem akc(O:Ord c n):∀(f:Nat)(p:Array Nat)(k:Nat),PN n p->k+f=n->Up c p k->Ok c n (kas_bin f p k) λr=>PN n r/\Up c r n
 |0,p,k,P,e,u=>⟨P,by rw[<- e];exact u⟩
 |f+1,p,k,P,e,u=>by
  have Z:k<n:=by lia
  refine Ok.bind ((Tq O P Z k 0 k (by lia) (by lia) (bh _) (λx hx=>by lia) (λx h1 h2=>by lia) u).mono λl z=>?_);obtain⟨L,z2,z3⟩:=z;refine akc O f _ (k+1) (P.perm (bubble_perm _ _ _)) (by lia) λi j Qk hj=>?_
  rw[akb P Z L,akb P Z L]
  by_cases R:i=l
  .rw[bf R,az (by lia),bf (by lia)]
   exact z3 _ (by lia) (by lia)
  .rw[az R]
   by_cases G:j=l
   .rw[bf G,az (by lia)]
    exact z2 _ (by lia)
   .rw[az G]
    by_cases a3:l<i
    .rw[bf (by lia),bf (by lia)]
     exact u _ _ (by lia) (by lia)
    .rw[az (by lia)]
     by_cases a4:l<j
     .rw[bf (by lia)]
      exact u _ _ (by lia) (by lia)
     .rw[az (by lia)]
      exact u _ _ (by lia) (by lia)
def apk(O:Ord c n)(R:2<=n):Ok c n (kas_sort n) λr=>PN n r/\Up c r n:=by
 unfold kas_sort;have L:PN n (List.toArray (List.range n)):=List.Perm.refl _;refine Ok.bind ((aka O L R).mono λr z=>?_);obtain⟨Z,G,z3,z4⟩:=z
 by_cases e:r.1<n
 .rw[bf e]
  have:max r.1 1=r.1:=by lia
  rw[this];exact akc O _ _ _ Z (by lia) G
 .rw[az e]
  have:r.1=n:=by lia
  exact⟨Z,by rw[<- this];exact G⟩
end
open PySem PySem.W PyProof.Rows PySem.Calls
section
variable{prog:Program}{w:World}{A:Around}{E:Y1}{s:Shared}
def ab8(h:Heap)(v:Value)(p:Int×Int):Prop:=∃a o x y n,v=.ref a/\h.get? a=some o/\o.cls=.type "tuple"/\o.data=.seq #[.int p.1 x,.int p.2 y] n
def ab8.keep(k:∀a o,v=.ref a->h.get? a=some o->Z.get? a=some o)(x:ab8 h v p):ab8 Z v p:=by obtain⟨a,o,x,y,n,e,g,r⟩:=x;exact⟨a,o,x,y,n,e,k a o e g,r⟩
def apl{Q:Bool->Shared->Prop}(L:ab8 s.heap v p)(hy:ab8 s.heap u q)(h:Q (MW.ltP p q) s):wpAny (model prog w) A (keyLt' (tuples' true) v u) Q E s:=by
 obtain⟨a,o,x,y,n,rfl,g,_,d⟩:=L;obtain⟨a',o',x',y',n',rfl,g',_,G⟩:=hy;unfold MW.ltP at h;refine kat_lt g d g' G ?_;show KatLex prog w A true _ Q [(.int p.1 x,.int q.1 x'),(.int p.2 y,.int q.2 y')] 0 s;refine kat_cons (wpAny_eqBool_int (kat_go (λe=>?_) λe=>?_))
 .have e:p.1=q.1:=eq_of_beq e
  have R:¬p.1<q.1:=by rw[e];exact Int.lt_irrefl _
  rw[dz R,jf e,Bool.false_or,Bool.true_and] at h;refine kat_yes (kat_cons (wpAny_eqBool_int (kat_go (λZ=>?_) λZ=>?_)))
  .have Z:p.2=q.2:=eq_of_beq Z
   have e3:¬p.2<q.2:=by rw[Z];exact Int.lt_irrefl _
   rw[dz e3] at h;exact kat_yes (kat_nil h)
  .exact kat_no (kat_one _ _ (lt_int h))
 .have e:¬p.1=q.1:=λz=>by rw[z] at e;simp at e
  rw[dz e,Bool.false_and,Bool.or_false] at h;exact kat_no (oneLt_int h)
def Lr(h:Heap)(G:Zl)(Z:List (Int×Int)):Prop:=G.length=Z.length/\∀(i:Nat) v p,G[i]?=some v->Z[i]?=some p->ab8 h v p
def Lr.tail(x:Lr h (v::L) (p::ps)):ab8 h v p/\Lr h L ps:=⟨x.2 0 v p rfl rfl,by have:=x.1;simpa using this,λi a b G Z=>x.2 (i+1) a b G Z⟩
theorem Lr.keep(k:∀a o,Value.ref a∈G->h.get? a=some o->R.get? a=some o)(x:Lr h G ps):Lr R G ps:=⟨x.1,λi v p Z L=>(x.2 i v p Z L).keep λa o z=>k a o (by rw[<- z];exact cj Z)⟩
theorem Vz:∀{G:Zl}{L:List (Int×Int)},Lr h G L->∃fs:List Value,KatTups h G fs/\fs.length=G.length/\∀f∈fs,∃i t,f=Value.int i t
 |[],[],_=>⟨[],KatTups.nil,rfl,λf Z=>by cases Z⟩
 |[],_::_,x=>by cases x.1|_::_,[],x=>by cases x.1
 |v::G,p::L,x=>by
  obtain⟨⟨a,o,x1,y1,n,rfl,g,c,d⟩,t⟩:=x.tail;obtain⟨fs,f1,f2,R⟩:=Vz t;refine⟨.int p.1 x1::fs,KatTups.cons g c d rfl f1,by simp[f2],λf Z=>?_⟩;rcases bx.mp Z with rfl|Z
  .exact⟨_,_,rfl⟩
  .exact R f Z
noncomputable def key(Z:List (Int×Int))(i:Nat):Int×Int:=Z.getD i (0,0)
def Im{ps:List (Int×Int)}(h:i<ps.length):ps[i]?=some (key ps i):=by simp[key,h]
theorem Pb{Z:List (Int×Int)}(G:Z.Nodup):Ord (λi j=>MW.ltP (key Z i) (key Z j)) Z.length where
 tr i j k _ _ _ a b:=by simp only[MW.ltP,Ag,ao,bz] at *;lia
 to i j hi hj ne a:=by
  have d:key Z i≠key Z j:=λz=>ne (by
   have h1:=aq.mp (Im hi);have R:=aq.mp (Im hj);obtain⟨l1,e1⟩:=h1;obtain⟨l2,L⟩:=R;exact(vq G).mp (e1.trans (z.trans L.symm)))
  have d:¬((key Z i).1=(key Z j).1/\(key Z i).2=(key Z j).2):=λz=>d (Prod.ext z.1 z.2)
  simp only[MW.ltP,Bool.or_eq_false_iff,Bool.and_eq_false_iff,decide_eq_false_iff_not,Ag,ao,bz] at *
  lia
def Res(Z:List (Int×Int))(p:Array Nat):Prop:=PN Z.length p/\Up (λi j=>MW.ltP (key Z i) (key Z j)) p Z.length
set_option tactic.hygienic true in
def agp{vs:Zl}{ps:List (Int×Int)}{n:Nat}{a:Addr}{P:PySem.Fin->Shared->Prop}(ho:s.heap.get? a=some (seqObj "list" vs.toArray n))(L:Lr s.heap vs ps)(nd:ps.Nodup)(qk:vs.length<64)
 (h:∀(h':Heap) c p,(∀b o,b≠a->s.heap.get? b=some o->h'.get? b=some o)->h'.get? a=some (seqObj "list" (List.toArray (p.toList.map λi=>vs.getD i Value.none)) c)->Res ps p->P (.done (.ret .none)) { s with heap:=h' }) :
 wpAny (model prog w) A (Builtin.«list.sort» ⟨[.ref a],[]⟩) P E s:=by
 have ha:a<s.heap.objs.size:=au ho
 obtain⟨e1,u⟩:∃e1,(s.heap.update a (Obj.mapSeq λ_=>(#[]:Xs))).get? a=some (seqObj "list" #[] e1):=⟨_,get?_update_seq ho λ_=>#[]⟩;have keep:∀b o,b≠a->s.heap.get? b=some o->(((s.heap.update a (Obj.mapSeq λ_=>(#[]:Xs))).push (seqObj "tuple" vs.toArray 0)).push (seqObj "list" #[] 0)).get? b=some o:=λb o y e =>
  ak _ (ak _ (((jd s.heap a _).2 b y).trans e))
 have R:(((s.heap.update a (Obj.mapSeq λ_=>(#[]:Xs))).push (seqObj "tuple" vs.toArray 0)).push (seqObj "list" #[] 0)).get? a=some (seqObj "list" #[] e1):=ak _ (ak _ u);have S:Lr (((s.heap.update a (Obj.mapSeq λ_=>(#[]:Xs))).push (seqObj "tuple" vs.toArray 0)).push (seqObj "list" #[] 0)) vs ps:=L.keep λb o y e=>keep b o (λz=>by
  subst z;obtain⟨i,hi⟩:=jr.mp y;have hl:i<ps.length:=by rw[<- L.1];exact(aq.mp hi).1
  obtain⟨a',o',_,_,_,ea,g,c,d⟩:=L.2 i _ _ hi (gb hl);cases ea;rw[ho] at g;cases g;exact absurd (Value.type.inj c) (by decide)) e
 have hv:vs.length<=sizeLine:=by rw[pq];lia
 rw[list_sort_plain];refine aa (listItems_at ho rfl ?_);refine aa (listUpdate_at ho rfl ?_ (by rw[fc];exact hv) (j4 _));refine aa (seqEpoch_at u rfl ?_);refine aa (wpAny_newTuple ?_ hv);refine aa (wpAny_newList ?_ (j4 _));refine jc ?_;show wpAny (model prog w) A _ P E { s with heap:=((s.heap.update a (Obj.mapSeq λ_=>(#[]:Xs))).push (seqObj "tuple" vs.toArray 0)).push (seqObj "list" #[] 0) };generalize(((s.heap.update a (Obj.mapSeq λ_=>(#[]:Xs))).push (seqObj "tuple" vs.toArray 0)).push (seqObj "list" #[] 0))=g at *;dsimp only;have fin:∀(Z:SortSt) p,(arrOf Z).map (·.2)=List.toArray (p.toList.map λi=>vs.getD i Value.none)->failedOf Z=none->Res ps p->wpAny (model prog w) A (do
  let J:=(<- seqEpoch a) != e1
  Builtin.List.listUpdate (.ref a) λ_=>(arrOf Z).map (·.2)
  if let some e:=failedOf Z then rule "list.sort.comparison-raised";throw e
  if J then rule "list.sort.modified";raiseError "ValueError" "list modified during sort"
  ret .none) P E { s with heap:=g }:=λZ p e2 e3 r=>by
  have qv:(List.toArray (p.toList.map λi=>vs.getD i Value.none)).size=vs.length:=by rw[fc,dw,mq,r.1.size,L.1]
  refine aa (seqEpoch_at R rfl ?_);rw[e2];refine aa (listUpdate_at R rfl ?_ (j4 _) (dq (Nat.le_of_eq qv) (Nat.le_succ_of_le hv)));rw[e3];simp only[bne_self_eq_false,dg,jk];obtain⟨c2,q0⟩:∃c2,(g.update a (Obj.mapSeq λ_=>List.toArray (p.toList.map λi=>vs.getD i Value.none))).get? a=some (seqObj "list" (List.toArray (p.toList.map λi=>vs.getD i Value.none)) c2):=⟨_,get?_update_seq R λ_=>List.toArray (p.toList.map λi=>vs.getD i Value.none)⟩;exact aj (h _ c2 p (λb o y e=>((jd g a _).2 b y).trans (keep b o y e)) q0 r)
 by_cases Y:vs.toArray.size<2
 .rw[bf Y,bf Y]
  refine aa (aj ?_);rw[StateT.run_pure];refine aa (aj ?_);have Y:vs.length<2:=by simpa using Y
  refine fin (SortSt.mk' general' (vs.toArray.zip vs.toArray) #[] 7 none) (List.toArray (List.range vs.length)) ?_ rfl ⟨by rw[<- L.1];exact List.Perm.refl _,λi j Qk hj=>by rw[<- L.1] at hj;lia⟩;show(vs.toArray.zip vs.toArray).map (·.2)=_
  match vs,Y with
  |[],_=>simp|[v],_=>simp[List.range,List.range.loop]
 .rw[az Y,az Y]
  have Y:2<=vs.length:=by simp at Y;lia
  obtain⟨fs,f1,f2,f3⟩:=Vz S;refine aa (kat_kind (T:=.type "int") (s:={ s with heap:=g }) f1 (by lia) (λf hf=>?_) rfl ?_)
  .obtain⟨i,t,rfl⟩:=f3 f hf
   exact Looks.of_pure rfl
  .refine aa (ik (kat_run (vs:=vs) (ks:=vs) (Q:=λZ s'=>s'={ s with heap:=g }/\∃p:Array Nat,arrOf Z=p.map (kas_item (vs.toArray.zip vs.toArray))/\failedOf Z=none/\Res ps p) (G:=λp s'=>s'={ s with heap:=g }/\Res ps p) rfl Y qk (λp Z s' _ a2 a3 a4=>⟨a4.1,p,a2,a3,a4.2⟩) ?_) ?_ λ_ _ e=>e)
   .have O:=Pb nd
    rw[L.1];refine Ok.wp (c:=λi j=>MW.ltP (key ps i) (key ps j)) (n:=ps.length) (Q:=Res ps) (λi j C hi hj q=>?_) (λp r=>⟨rfl,r⟩) (apk O (by rw[<- L.1];exact Y));have qq:i<vs.length:=by rw[L.1];exact hi
    have q1:j<vs.length:=by rw[L.1];exact hj
    have vi:vs[i]?=some (vs.getD i Value.none):=by simp[qq]
    have vj:vs[j]?=some (vs.getD j Value.none):=by simp[q1]
    exact apl (s:={ s with heap:=g }) (S.2 i _ _ vi (Im hi)) (S.2 j _ _ vj (Im hj)) q
   .intro r s' z
    obtain⟨⟨⟩,Z⟩:=r;obtain⟨rfl,p,e2,e3,e4⟩:=z;exact fin Z p (kat_snds rfl e2) e3 e4
end
end So
namespace HT
open PySem PyProof.Rows
def apm(ht:IsTup s.heap t G.toArray)(hb:IsTup s.heap b L.toArray)(h0:G=[]->Q (.ref b) s)(h1:L=[]->Q (.ref t) s)(h2:G≠[]->L≠[]->Q (.ref s.heap.objs.size) { s with heap:=s.heap.push { cls:=.type "tuple",data:=.seq (G++L).toArray } })(q3:G.length+L.length<=sizeLine):wpAny (model prog w) A (binaryOp .Add (.ref t) (.ref b)) Q E s:=by
 obtain⟨⟨q2,dd,qk,sl⟩,ho,hc,n,hd⟩:=id ht;obtain⟨⟨q4,R,q1,qq⟩,Z,q0,n2,qv⟩:=id hb;simp only at hc hd q0 qv;subst hc hd q0 qv;have e:G.toArray++L.toArray=(G++L).toArray:=by simp
 by_cases hv:G=[]
 .exact concat_meets ⟨_,ho,rfl⟩ ⟨_,Z,rfl⟩ noFill_tuple_add seq_tuple_add PySem.F.slot_tuple_add PySem.F.entry_tuple_add (PySem.F.args_tuple_add_2 _ _)
   (tuple_addW0 t b G.toArray L.toArray n n2 dd R sl qq (by simp[hv])) ⟨ho,Z,h0 hv⟩
 by_cases hw:L=[]
 .exact concat_meets ⟨_,ho,rfl⟩ ⟨_,Z,rfl⟩ noFill_tuple_add seq_tuple_add PySem.F.slot_tuple_add PySem.F.entry_tuple_add (PySem.F.args_tuple_add_2 _ _)
   (tuple_addW1 t b G.toArray L.toArray n n2 dd R sl qq (by simpa using hv) (by simp[hw])) ⟨ho,Z,h1 hw⟩
 .refine concat_meets ⟨_,ho,rfl⟩ ⟨_,Z,rfl⟩ noFill_tuple_add seq_tuple_add PySem.F.slot_tuple_add PySem.F.entry_tuple_add (PySem.F.args_tuple_add_2 _ _)
   (tuple_addW2 t b G.toArray L.toArray n n2 dd R sl qq (by simpa using hv) (by simpa using hw) (by rw[fc,fc];exact q3)) ⟨ho,Z,?_⟩
  rw[e];exact h2 hv hw
noncomputable def Fb(n d:Nat):Option Int->Nat
 |none=>d|some v=>if v<0 then(v+(n:Int)).toNat else min v.toNat n
def awg(n d:Nat)(G:d<=n)(o:Option Int):Fb n d o<=n:=by
 cases o with
 |none=>exact G
 |some v =>
  show(if v<0 then(v+(n:Int)).toNat else min v.toNat n)<=n
  by_cases Z:v<0
  .rw[bf Z];lia
  .rw[az Z];exact Nat.min_le_right _ _
def aeg(v:Int)(n d:Nat):(if v<0 then max (v+(n:Int)) 0 else min v (n:Int))=((Fb n d (some v):Nat):Int):=by
 show(if v<0 then max (v+(n:Int)) 0 else min v (n:Int))=(((if v<0 then(v+(n:Int)).toNat else min v.toNat n):Nat):Int)
 by_cases Z:v<0
 .simp only[bf Z];lia
 .simp only[az Z];lia
def ab9(G Z:Option Int)(n:Nat):Builtin.Slice.sliceAdjust G Z 1 (n:Int)=(((Fb n 0 G:Nat):Int),((Fb n n Z:Nat):Int)):=by
 have L:¬((1:Int)<0):=by lia
 unfold Builtin.Slice.sliceAdjust;simp only[L,jk];refine Prod.ext ?_ ?_
 .cases G with
  |none=>rfl|some v=>exact aeg v n 0
 .cases Z with
  |none=>rfl|some v=>exact aeg v n n
def aca(i j:Nat):Builtin.Slice.slicePlaces (i:Int) (j:Int) 1=j-i:=by unfold Builtin.Slice.slicePlaces;have Z:(1:Int) > 0:=m_ (by decide);simp only[Z,j6,Int.ediv_one];split<;>lia
def Tt(p:IsPart v o)(h:Q o s):wpAny (model prog w) A (Builtin.Slice.slicePartIndex v) Q E s:=by
 cases p with
 |none=>exact slicePart_none h|int i t=>exact slicePart_int h
def Pg{Z:Option Int}{n:Nat}(hs:s.heap.IsSliceOf sl vl vu .none)(pl:IsPart vl Z)(pu:IsPart vu R)(h:Q (((Fb n 0 Z:Nat):Int),1,Fb n n R-Fb n 0 Z) s):wpAny (model prog w) A (Builtin.Slice.sliceApplied (.ref sl) (pure (n:Int))) Q E s:=by obtain⟨os,G,qq,L⟩:=id hs;unfold Builtin.Slice.sliceApplied Builtin.Slice.sliceFields;refine aa (aa (jy G L (x:=vl) rfl (aa (jy G L (x:=vu) rfl (aa (jy G L (x:=.none) rfl (aj ?_)))))));refine aa (slicePart_none ?_);show wpAny _ _ (if((1:Int)==0)=true then _ else _) _ _ s;rw[az (by decide)];refine aa (Tt pl (aa (Tt pu (aa (aj ?_)))));show wpAny _ _ (match Builtin.Slice.sliceAdjust Z R 1 (n:Int) with|(Z,R)=>pure (Z,(1:Int),Builtin.Slice.slicePlaces Z R 1)) _ _ s;rw[ab9 Z R n];show wpAny _ _ (pure (((Fb n 0 Z:Nat):Int),(1:Int),Builtin.Slice.slicePlaces ((Fb n 0 Z:Nat):Int) ((Fb n n R:Nat):Int) 1)) _ _ s;rw[aca];exact aj h
def akd(Z:Xs)(i k:Nat):((List.range k).filterMap λ(m:Nat)=>Z[((i:Int)+(m:Int)*1).toNat]?).toArray=((Z.toList.drop i).take k).toArray:=by
 have e:(λ(m:Nat)=>Z[((i:Int)+(m:Int)*1).toNat]?)=λm=>Z[i+m]?:=by
  funext m
  have:((i:Int)+(m:Int)*1).toNat=i+m:=by lia
  rw[this]
 rw[e];have:=pick_run Z i k;rw[List.filterMap_map] at this;have G:((λx=>Z[x]?) ∘ λx=>i+x)=λm=>Z[i+m]?:=rfl
 rw[G] at this;rw[this]
def Nu{Z:Option Int}(ht:IsTup s.heap t items)(hs:s.heap.IsSliceOf sl vl vu .none)(pl:IsPart vl Z)(pu:IsPart vu R)(hw:Fb items.size 0 Z=0->Fb items.size items.size R=items.size->Q (.ref t) s)(h:Q (.ref s.heap.objs.size) { s with heap:=s.heap.push { cls:=.type "tuple",data:=.seq ((items.toList.drop (Fb items.size 0 Z)).take (Fb items.size items.size R-Fb items.size 0 Z)).toArray } })(q4:items.size<=sizeLine):wpAny (model prog w) A (getItem (.ref t) (.ref sl)) Q E s:=by
 have L:sizeOk (.seq ((items.toList.drop (Fb items.size 0 Z)).take (Fb items.size items.size R-Fb items.size 0 Z)).toArray):=by
  show((items.toList.drop (Fb items.size 0 Z)).take (Fb items.size items.size R-Fb items.size 0 Z)).toArray.size<=sizeLine
  rw[fc,List.length_take,List.length_drop,mq];omega
 have hj:Fb items.size items.size R<=items.size:=awg _ _ (bh _) R
 obtain⟨os,qk,qv,q0⟩:=id hs;have qq:s.TypeIs (.ref sl) "slice" := ⟨os,qk,qv⟩;unfold getItem
 try with_reducible refine jc ?_
 first|refine aa (aj ?_)|skip
 refine aa (wpAny_sequenceKey ht.typeIs (by decide) ?_);refine aa (m7 (name:=Str.ofString "__getitem__") ht.typeIs wu
  (jx wu ht.typeIs entry_tuple_getitem ?_ (args_tuple_getitem _ _)))
 show wpAny _ _ (Builtin.Tuple.tupleItemsOf (.ref t) >>= _) _ _ s;refine aa (tupleItemsOf_ ht ?_);refine aa (uf qq ?_);rw[bf (by decide)];refine aa (Pg hs pl pu ?_);show wpAny _ _ (if(((Fb items.size 0 Z:Nat):Int)==0&&(1:Int)==1&&(Fb items.size items.size R-Fb items.size 0 Z)==items.size)=true then _ else _) _ _ s
 by_cases G:(((Fb items.size 0 Z:Nat):Int)==0&&(1:Int)==1&&(Fb items.size items.size R-Fb items.size 0 Z)==items.size)=true
 .rw[bf G]
  rw[ao,ao] at G;have q1:((Fb items.size 0 Z:Nat):Int)=0:=eq_of_beq G.1.1;have q2:Fb items.size items.size R-Fb items.size 0 Z=items.size:=eq_of_beq G.2;have q3:=hw (by lia) (by lia);refine aa (m:=Builtin.Tuple.tupleIsExact (.ref t)) (aa (uf ht.typeIs (aj ?_)));rw[bf (by decide)];exact aa (wpAny_rule (aj ⟨_,rfl,aj q3⟩))
 rw[az G,akd]
 first
  |exact aa (m:=Builtin.Tuple.tupleExact _) (jn (aj ⟨_,rfl,aj h⟩) L)
  |exact aa (m:=Builtin.Tuple.tupleExact _) (jn (aa (aj (aj ⟨_,rfl,aj h⟩))) L)
  |exact aa (aa (m:=Builtin.Tuple.tupleExact _) (jn (aj (aj ⟨_,rfl,aj h⟩)) L))
  |exact aa (aa (m:=Builtin.Tuple.tupleExact _) (jn (aj ⟨_,rfl,aj h⟩) L))
end HT
namespace L2
open PySem PySem.Spec PyProof.Rows
abbrev TO:=St->Hp->(Option Int->Hp->Prop)->Prop
def PO(X:Cx)(e:Option Expr)(t:TO):Prop :=
 ∀(Z:Zp)(s:Shared)(G:St)(H:Hp)(Q:Option Int->Hp->Prop),Inv X Z G H s->t G H Q ->
  wpAny (model X.prog X.w) X.A (evalPart e X.env) (λu R=>∃o L,Inv X Z G L R/\IsPart u o/\Q o L) X.xe s
def apn:TO:=λ_ H Q=>Q none H
def a1n(t:TE):TO:=λG H Q=>t G H λx Z=>∃i,x=.int i/\Q (some i) Z
def apo:PO X none apn:=by intro Z s G H Q I h;rw[evalPart_none];exact aj ⟨none,H,I,.none,h⟩
def apq(h:PE X e te):PO X (some e) (a1n te):=by
 intro Z s σ H Q I hw;rw[evalPart_some];refine Al (h Z s σ H _ I hw) λu s1 z_=>?_
 obtain⟨x,R,I1,G,L⟩:=z_;obtain⟨i,rfl,q⟩:=L;obtain⟨t,rfl⟩:=G;exact⟨some i,R,I1,.int i t,q⟩
def SlR(X:Cx)(r:V->Option Int->Option Int->Hp->VK->Prop):Prop :=
 ∀(Z:Zp)(s:Shared)(σ:St)(H:Hp)(x:V)(v vl L:Value)(lo G:Option Int)(R:Addr)(Q:VK),Inv X Z σ H s->RelV x v->s.heap.IsSliceOf R vl L .none->IsPart vl lo->IsPart L G->r x lo G H Q ->
  ∃T id,typeLookup (.type T) "__getitem__" = pure (some (.builtin id))/\s.TypeIs v T/\wpAny (model X.prog X.w) X.A (getItem v (.ref R)) (EP X Z σ Q) X.xe s
def SlR.or(h:SlR X r)(h':SlR X r'):SlR X (λx L G H Q=>r x L G H Q\/r' x L G H Q):=by
 intro Z s σ H x v vl vu L G R Q I rx hs pl pu q;rcases q with q|q
 .exact h Z s σ H x v vl vu L G R Q I rx hs pl pu q
 .exact h' Z s σ H x v vl vu L G R Q I rx hs pl pu q
def tSl(r:V->Option Int->Option Int->Hp->VK->Prop)(te:TE)(L th:TO):TE:=λZ H Q=>te Z H λx H1=>L Z H1 λl R=>th Z R λu G=>r x l u G Q
def ake{lo:Option Expr}(hr:SlR X r)(he:PE X e te)(hl:PO X lo tl)(hu:PO X hi th):PE X (.Subscript e (.Slice lo hi none p2) pos) (tSl r te tl th):=by
 intro Z s L H Q I h;refine Subscript_ (Al (he Z s L H _ I h) λv s1 z_=>?_);obtain⟨x,H1,I1,r1,q1⟩:=z_;refine wpAny_Slice (Al (hl Z s1 L H1 _ I1 q1) λR s2 ⟨l,H2,I2,pl,q2⟩=>Al (hu Z s2 L H2 _ I2 q2) λvu G z_=>?_);obtain⟨u,H3,I3,pu,q3⟩:=z_;rw[evalPart_none];refine aj ?_;have I4:Inv X Z L H3 { G with heap:=G.heap.push { cls:=.type "slice",data:=.fields #[R,vu,.none] } }:=I3.kept (t':=G.toks) λb ob q=>ak _ q
 obtain⟨T,id,hT,ht,hg⟩:=hr Z { G with heap:=G.heap.push { cls:=.type "slice",data:=.fields #[R,vu,.none] } } L H3 x v R vu l u G.heap.objs.size Q I4 r1 (Heap.IsSliceOf.new ..) pl pu q3;show wpAny (model X.prog X.w) X.A (subscriptTail e (.Slice lo hi none p2) v (.ref G.heap.objs.size)) (EP X Z L Q) X.xe { G with heap:=G.heap.push { cls:=.type "slice",data:=.fields #[R,vu,.none] } };exact tail_any (ops:=[.ref G.heap.objs.size,v]) ht hT hg (by with_unfolding_all rfl)
def Q9(Z:List V)(G L:Option Int):List V:=(Z.drop (HT.Fb Z.length 0 G)).take (HT.Fb Z.length Z.length L-HT.Fb Z.length 0 G)
def Qo(Z:List V)(L G:Option Int):(Q9 Z L G).length<=Z.length:=by
 unfold Q9;rw[List.length_take,List.length_drop]
 lia
def a9j(K:Fg):V->Option Int->Option Int->Hp->VK->Prop:=λx L G H Q=>∃a Z,x=.ref a/\Hl K H a Z /\
 (HT.Fb Z.length 0 L=0->HT.Fb Z.length Z.length G=Z.length->Q (.ref a) H)/\∀p,H p=none->Q (.ref p) (upd H p (.tup (Q9 Z L G)))
def awh:SlR X (a9j X.K):=by
 intro qq s σ H x v vl vu L R sl Q I rx hs pl pu h;obtain⟨a,G,rfl,hx,hw,q⟩:=h;cases rx;obtain⟨xf,r,ht,hz⟩:=I.tuple hx;have Z:xf.toArray.size=G.length:=by rw[fc];exact r.length.symm
 refine⟨"tuple",_,wu.lookup,ht.typeIs,?_⟩;refine HT.Nu ht hs pl pu (by rw[Z];exact λz1 z2=>⟨.ref a,H,I,rfl,hw z1 z2⟩) ?_ (by rw[Z];exact hz);rw[Z];refine⟨.ref s.heap.objs.size,_,I.laid (t':=s.toks) (o:=.tup (Q9 G L R)) (λb ob q=>ak _ q) (bh _) ?_,rfl,q _ (I.wk.fresh (bh _))⟩;exact⟨dq (Qo G L R) hz,_,(r.drop (HT.Fb G.length 0 L)).take (HT.Fb G.length G.length R-HT.Fb G.length 0 L),Q6.new _ _⟩
def a1o(K:Fg):R2:=λx y H Q=>∃a b Z G,x=.ref a/\y=.ref b/\Hl K H a Z/\Hl K H b G/\Z.length+G.length<=sizeLine /\
 (Z=[]->Q (.ref b) H)/\(G=[]->Q (.ref a) H)/\(∀p,H p=none->Q (.ref p) (upd H p (.tup (Z++G))))
def Vals.aei(r:Vals G Z):Z=[]↔G=[]:=by
 cases r with
 |nil=>simp|cons _ _=>simp
def apr:Bc X (binaryOp .Add) (a1o X.K):=by intro L s σ H x y v u Q I rx ry h;obtain⟨a,b,xs,ys,rfl,rfl,ha,hb,R,q0,q1,q2⟩:=h;cases rx;cases ry;obtain⟨xf,G,p1,_⟩:=I.tuple ha;obtain⟨qq,Z,p2,_⟩:=I.tuple hb;refine HT.apm p1 p2 (λz=>⟨.ref b,H,I,rfl,q0 (G.aei.mp z)⟩) (λz=>⟨.ref a,H,I,rfl,q1 (Z.aei.mp z)⟩) (λ_ _=>?_) (by rw[<- G.length,<- Z.length];exact R);refine⟨.ref s.heap.objs.size,_,I.laid (t':=s.toks) (o:=.tup (xs++ys)) (λb ob q=>ak _ q) (bh _) ?_,rfl,q2 _ (I.wk.fresh (bh _))⟩;exact⟨by rw[o4];exact R,_,G.append Z,Q6.new _ _⟩
end L2
namespace L2
open PySem PySem.Spec PyProof.Rows
noncomputable def ixN(n:Nat)(i:Int):Option Nat:=if 0<=i then(if i<n then some i.toNat else none) else if -(n:Int)<=i then some (i+n).toNat else none
def atI{α:Type}(Z:List α)(i:Int):Option α:=(ixN Z.length i).bind λj=>Z[j]?
def aej(h:ixN n i=some j):seqIndex? i n=some j/\j<n/\-(n:Int)<=i/\i<n:=by
 unfold ixN at h
 by_cases G:0<=i
 .rw[bf G] at h
  by_cases Z:i<n
  .rw[bf Z] at h
   have e:i.toNat=j:=gf h;exact⟨by rw[seqIndex_of G Z,e],by lia,by lia,Z⟩
  .rw[az Z] at h;cases h
 .rw[az G] at h
  by_cases Z:-(n:Int)<=i
  .rw[bf Z] at h
   have e:(i+n).toNat=j:=gf h;exact⟨by rw[seqIndex_neg (by lia) Z,e],by lia,Z,by lia⟩
  .rw[az Z] at h;cases h
def aek(h:atI Z i=some v):∃j,seqIndex? i Z.length=some j/\Z[j]?=some v/\j<Z.length/\-(Z.length:Int)<=i/\i<Z.length:=by
 unfold atI at h;cases e:ixN Z.length i with
 |none=>rw[e] at h;cases h
 |some j =>
  rw[e] at h;obtain⟨h1,G,L,R⟩:=aej e;exact⟨j,h1,h,G,L,R⟩
def Xj(b:Expr):Prop:=∀o i,subscripted b false o i=operate [o,i] (getItem o i)
def IxR(X:Cx)(r:R2):Prop :=
 ∀(L Z:Expr)(G:Zp)(s:Shared)(R:St)(H:Hp)(x y:V)(v u:Value)(Q:VK),Inv X G R H s->RelV x v->RelV y u->r x y H Q ->
  subscripted Z false v u=operate [v,u] (getItem v u)->wpAny (model X.prog X.w) X.A (subscriptTail L Z v u) (EP X G R Q) X.xe s
def MtR(X:Cx)(id:String)(r:V->List V->Hp->VK->Prop):Prop :=
 ∀(Z:Zp)(s:Shared)(R:St)(H:Hp)(x:V)(G:List V)(v:Value)(L:Zl)(Q:VK),Inv X Z R H s->RelV x v->Vals G L->r x G H Q ->
  wpAny (model X.prog X.w) X.A (call (.builtin id) (v::L)) (EP X Z R Q) X.xe s
def a1r(hr:IxR X r)(ha:PE X a ta)(G:PE X b tb)(hs:Xj b):PE X (.Subscript a b pos) (tOp r ta tb):=by intro Z s σ H Q I h;exact Subscript_ (av0 ha G I h λv u s2 x y R I2 L ry q=>hr a b Z s2 σ R x y v u Q I2 L ry q (hs _ _))
def a9k(K:Fg):R2:=λx y H Q=>∃p Z i v,x=.ref p/\y=.int i/\Ha K H p Z/\atI Z i=some v/\Q v H
def a9l(K:Fg):R2:=λx y H Q=>∃p Z i v,x=.ref p/\y=.int i/\Hl K H p Z/\atI Z i=some v/\Q v H
def Fy:IxR X (a9k X.K):=by
 intro qq L Z s σ H x y v u Q I rx ry h hs;obtain⟨p,xs,i,z,rfl,rfl,hq,he,q⟩:=h;cases rx;obtain⟨t,rfl⟩:=ry;obtain⟨xf,r,pl,hz⟩:=I.list hq;obtain⟨j,G,h2,h3,h4,h5⟩:=aek he;obtain⟨w,ew,qk⟩:=r.get h2;have hl:=r.length;have hn:=Xh;have fin:EP X Z σ Q w s:=⟨z,H,I,qk,q⟩
 by_cases h0:0<=i
 .have R:i.toNat=j:=by
   rw[seqIndex_of h0 h5] at G;exact gf G
  exact item_listR pl.isList h0 (by lia) (by rw[R];simpa using ew) fin hs
 .have R:(i+(xf.toArray.size:Int)).toNat=j:=by
   rw[seqIndex_neg (by lia) h4] at G;rw[fc,<- hl];exact gf G
  exact subscriptTail_builtinR (x:=w) pl.isList.typeIs slot_list_getitem.lookup
   (wpAny_getItem_list_neg (Q:=λr s'=>r=w/\EP X Z σ Q r s') pl.isList (by lia) (by rw[fc]<;>lia) (by lia) (by rw[R];simpa using ew) ⟨rfl,fin⟩) hs
def Jr:IxR X (a9l X.K):=by
 intro L G Z s σ H x y v u Q I rx ry h hs;obtain⟨p,xs,i,z,rfl,rfl,hq,he,q⟩:=h;cases rx;obtain⟨t,rfl⟩:=ry;obtain⟨xf,r,pl,hz⟩:=I.tuple hq;obtain⟨j,h1,h2,h3,h4,h5⟩:=aek he;obtain⟨w,ew,R⟩:=r.get h2;have hl:=r.length;have hn:=Xh;have fin:EP X Z σ Q w s:=⟨z,H,I,R,q⟩;exact subscriptTail_builtinR (x:=w) pl.typeIs slot_tuple_getitem.lookup
  (getItem_tuple (j:=j) (Q:=λr s'=>r=w/\EP X Z σ Q r s') pl (by lia) (by lia) (by rw[fc,<- hl];exact h1) (by simpa using ew) ⟨rfl,fin⟩) hs
def acb(Z:Zl)(n j:Nat)(u:Value):Obj.mapSeq (·.setIfInBounds j u) { cls:=.type "list",data:=.seq Z.toArray n }={ cls:=.type "list",data:=.seq (Z.set j u).toArray n }:=by simp[Obj.mapSeq]
theorem Inv.lst{X:Cx}{Z:Zp}{R:St}{H:Hp}{s:Shared}{p:Addr}{L:List V}(I:Inv X Z R H s)(h:H p=some (.lst L)) :
 ∃(G:Zl)(n:Nat),Vals L G/\s.heap.get? p=some { cls:=.type "list",data:=.seq G.toArray n }/\L.length<=sizeLine:=by
 obtain⟨z,G,n,r,e⟩:=I.wk p _ h;exact⟨G,n,r,e,z⟩
def Inv.awj{L:Zl}(I:Inv X pins σ H s)(h:H p=some (.lst xs))(ho:s.heap.get? p=some { cls:=.type "list",data:=.seq L.toArray n })(Z:f { cls:=.type "list",data:=.seq L.toArray n }={ cls:=.type "list",data:=.seq its'.toArray R })(r:Vals G its')(hz:G.length<=sizeLine)(t:Nat) :
 Inv X pins σ (upd H p (.lst G)) { s with heap:=s.heap.update p f,toks:=t }:=by
 have e:(s.heap.update p f).get? p=some { cls:=.type "list",data:=.seq its'.toArray R }:=by rw[mj f ho (by rw[Z]<;>rfl),Z]
 refine I.write (x:=p) (e:=p) (by rw[h];trivial) (.inl rfl) (λb u hb q=>(ur _ _ (j5 hb)).trans q) ⟨_,e⟩ ?_;exact⟨hz,its',R,r,e⟩
def a1s:V->V->V->Hp->(Hp->Prop)->Prop:=λo i v H Q=>∃p Z k j,o=.ref p/\i=.int k/\H p=some (.lst Z)/\ixN Z.length k=some j/\Q (upd H p (.lst (Z.set j v)))
def set_list:avu X a1s:=by
 intro Z s σ H o i v ov iv u Q I ro ri rv h;obtain⟨p,xs,k,j,rfl,rfl,hp,hj,q⟩:=h;cases ro;obtain⟨t,rfl⟩:=ri;obtain⟨xf,n,r,L,hz⟩:=I.lst hp;obtain⟨G,h2,h3,h4⟩:=aej hj;have hl:=r.length;have hn:=Xh;have I':Inv X Z σ (upd H p (.lst (xs.set j v))) { s with heap:=s.heap.update p (Obj.mapSeq (·.setIfInBounds j u)) } :=
  I.awj hp L (acb xf n j u) (r.set rv j) (by rw[List.length_set];exact hz) s.toks
 by_cases h0:0<=k
 .have R:k.toNat=j:=by
   rw[seqIndex_of h0 h4] at G;exact gf G
  exact PySem.W.ki_setAt L h0 (by lia) (by rw[fc,<- hl];exact h4) (by rw[R];exact⟨_,I',q⟩)
 .have R:(k+(xf.toArray.size:Int)).toNat=j:=by
   rw[seqIndex_neg (by lia) h3] at G;rw[fc,<- hl];exact gf G
  exact PySem.W.ki_setBack L (by lia) (by rw[fc,<- hl];exact h3) (by lia) (by rw[R];exact⟨_,I',q⟩)
def Xk(G Z:Option Int)(n:Nat):(sliceBounds G Z none n).1=((HT.Fb n 0 G:Nat):Int)/\(sliceBounds G Z none n).2.1=((HT.Fb n n Z:Nat):Int)/\(sliceBounds G Z none n).2.2=1:=by
 refine⟨?_,?_,rfl⟩
 .cases G with
  |none=>simp[sliceBounds,HT.Fb]
  |some i =>
   simp only[sliceBounds,HT.Fb,Option.getD_none,show(1:Int) > 0 by decide,j6]
   by_cases h:i<0
   .simp only[h,j6]<;>lia
   .simp only[h,jk]<;>lia
 .cases Z with
  |none=>simp[sliceBounds,HT.Fb]
  |some i =>
   simp only[sliceBounds,HT.Fb,Option.getD_none,show(1:Int) > 0 by decide,j6]
   by_cases h:i<0
   .simp only[h,j6]<;>lia
   .simp only[h,jk]<;>lia
def U7(Z:Zl)(G L:Option Int):slicePick Z.toArray G L none=((Z.drop (HT.Fb Z.length 0 G)).take (HT.Fb Z.length Z.length L-HT.Fb Z.length 0 G)).toArray:=by obtain⟨h1,R,h3⟩:=Xk G L Z.toArray.size;unfold slicePick;rw[h1,R,h3];simp only[sliceRange_one,pick_run,fc]<;>rfl
def a1t(K:Fg):V->Option Int->Option Int->Hp->VK->Prop:=λx L G H Q=>∃a Z,x=.ref a/\Ha K H a Z/\∀p,H p=none->Q (.ref p) (upd H p (.lst (Q9 Z L G)))
def aps:SlR X (a1t X.K):=by intro qq s σ H x v vl vu L R sl Q I rx hs pl pu h;obtain⟨a,G,rfl,hx,q⟩:=h;cases rx;obtain⟨xf,r,ht,hz⟩:=I.list hx;have Z:=r.length;refine⟨"list",_,slot_list_getitem.lookup,ht.isList.typeIs,?_⟩;refine wpAny_getItem_list_slice ht.isList hs pl pu .none (by simp) ?_ (by rw[fc]<;>exact a_ (g_ Z) hz);rw[U7,<- Z];refine⟨.ref s.heap.objs.size,_,I.laid (t':=s.toks) (o:=.lst (Q9 G L R)) (λb ob q=>ak _ q) (bh _) ?_,rfl,q _ (I.wk.fresh (bh _))⟩;exact⟨dq (Qo G L R) hz,_,0,(r.drop (HT.Fb G.length 0 L)).take (HT.Fb G.length G.length R-HT.Fb G.length 0 L),bw _ rfl⟩
def Xl:Bp X (.builtin "len") (λxs H Q=>∃p G,xs=[.ref p]/\(Ha X.K H p G\/Hl X.K H p G)/\Q (.int G.length) H):=by
 intro qq s σ H xs us Q I r h;obtain⟨p,G,rfl,L,q⟩:=h;obtain⟨u,rfl,rx⟩:=vals1 r;cases rx;have hn:=Xh;rcases L with L|L
 .obtain⟨xf,r',R,hz⟩:=I.list L
  have Z:=r'.length;exact Calls.call_len_list R.isList (by simp only[fc]<;>lia) ⟨.int G.length,H,I.tok _,⟨s.toks+1,by rw[fc,Z]⟩,q⟩
 .obtain⟨xf,r',R,hz⟩:=I.tuple L
  have Z:=r'.length;exact len_tuple R (by simp only[fc]<;>lia) ⟨.int G.length,H,I.tok _,⟨s.toks+1,by rw[fc,Z]⟩,q⟩
def U8:Bp X (.type "tuple") (λxs H Q=>∃p G,xs=[.ref p]/\((Ha X.K H p G/\∀l,H l=none->Q (.ref l) (upd H l (.tup G)))\/(Hl X.K H p G/\Q (.ref p) H))):=by
 intro Z s σ H xs us Q I r h;obtain⟨p,G,rfl,h⟩:=h;obtain⟨u,rfl,rx⟩:=vals1 r;cases rx;rcases h with⟨hq,q⟩|⟨hq,q⟩
 .obtain⟨xf,r',pl,hz⟩:=I.list hq
  have L:=r'.length;refine call_tuple_list pl.isList (λR kp=>?_) (by simp only[fc]<;>exact a_ (g_ L) hz);have I1:Inv X Z σ H { s with heap:=R }:=I.kept (t':=s.toks) kp;have I2:Inv X Z σ (upd H R.objs.size (.tup G)) { s with heap:=R.push { cls:=.type "tuple",data:=.seq xf.toArray } } :=
   I1.laid (t':=s.toks) (λb o e=>ak _ e) (bh _) (show Bb X.prog X.w _ _ _ (.tup G) from⟨hz,xf,r',Q6.new _ _⟩)
  exact⟨.ref R.objs.size,_,I2,rfl,q _ (I1.wk.fresh (bh _))⟩
 .obtain⟨xf,r',pl,hz⟩:=I.tuple hq
  exact call_tuple_same pl ⟨.ref p,H,I,rfl,q⟩
def tyV(K:Fg)(T:String)(x:V)(H:Hp):Prop:=match x with
 |.str _=>T = "str"|.int _=>T = "int"
 |.ref p=>(T = "list"/\∃G,Ha K H p G)\/(T = "tuple"/\∃o,K.lookup p=some o/\o.cls=.type "tuple"/\o.dict=none) \/
  (T = "dict"/\((∃Z,H p=some (.dK Z))\/∃Z,H p=some (.dT Z)))\/(T = "set"/\∃S n,H p=some (.set S n))
 |_=>False
def awk(I:Inv X pins σ H s)(r:RelV x v)(L:tyV X.K T x H) :
 s.TypeIs v T/\∀a,v=.ref a->∃ob,s.heap.get? a=some ob/\ob.dict=none:=by
 cases x with
 |str z =>
  obtain⟨t,rfl⟩:=r;cases(show T = "str" from L);exact⟨typeIs_str s z t,λ_ e=>nomatch e⟩
 |int i =>
  obtain⟨t,rfl⟩:=r;cases(show T = "int" from L);exact⟨typeIs_int s i t,λ_ e=>nomatch e⟩
 |ref p =>
  cases r;rcases L with⟨rfl,xs,hq⟩|⟨rfl,o,Z,hc,hd⟩|⟨rfl,Z⟩|⟨rfl,S,n,Z⟩
  .obtain⟨xf,_,pl,_⟩:=I.list hq
   refine⟨pl.isList.typeIs,λa e=>?_⟩;cases e;obtain⟨o,n,e,c,hd,_⟩:=pl;exact⟨o,e,hd⟩
  .refine⟨⟨o,I.kIn p o Z,hc⟩,λa e=>?_⟩
   cases e;exact⟨o,I.kIn _ o Z,hd⟩
  .have z:∃o,s.heap.get? p=some o/\o.ExactDict:=by
    rcases Z with⟨qq,Z⟩|⟨qq,Z⟩
    .obtain⟨_,_,_,_,o,_,_,e,G,_⟩:=I.wk p _ Z
     exact⟨o,e,G⟩
    .obtain⟨_,_,_,_,o,_,_,e,G,_⟩:=I.wk p _ Z
     exact⟨o,e,G⟩
   obtain⟨o,e,G⟩:=z;refine⟨⟨o,e,G.1⟩,λa R=>?_⟩;cases R;exact⟨o,e,G.2.1⟩
  .obtain⟨o,_,_,_,e,G,_⟩:=I.wk p _ Z
   refine⟨⟨o,e,G.1⟩,λa R=>?_⟩;cases R;exact⟨o,e,G.2.1⟩
 |_=>exact False.elim L
def tBM(K:Fg)(T:String)(r:V->List V->Hp->VK->Prop)(R:TE)(t:TA):TE:=λG H Q=>R G H λx Z=>tyV K T x Z/\t G Z λxs L=>r x xs L Q
theorem a1u{id:String}(pa:PlainAttrs T)(R:Slot T name id)(qv:typeOf (.builtin id)=pure (.type "method_descriptor"))(hm:MtR X id r)(ho:PE X o to)(ha:PA X (e::G) t)(q3:attributeBase o name X.env (eval o X.env)=eval o X.env:=by rfl)(qq:((backTo L (starEach (e::G) X.env)).all (λx=>!x.1)&&(backToKw L (keywordEach [] X.env)).all (λx=>x.1.isSome)
&&decide ((e::G).length+([]:List Keyword).length+(if([]:List Keyword).isEmpty then 0 else 1)<30))=true:=by rfl)(q0:(apos.endLine==L.line)=true:=by rfl)(hs:starEach (e::G) X.env=(false,eval e X.env)::starEach G X.env:=by rfl)(qk:(backTo L (starEach G X.env)).any (·.1)=false:=by rfl) :
 PE X (.Call (.Attribute o name apos) (e::G) [] L) (tBM X.K T r to t):=by
 intro Z s σ H Q I h;refine wpAny_Call_method_late q3 qq q0 rfl (Al (ho Z s σ H _ I h) λv s1 z_=>?_);obtain⟨x,H1,I1,r1,ty,q1⟩:=z_;obtain⟨h1,h2⟩:=awk I1 r1 ty;refine⟨T,id,pa,R,qv,h1,h2,?_⟩;have hA:=ha L Z s1 σ H1 _ I1 q1;rw[hs] at hA ⊢;refine Calls.callWith_builtin (by show(false||(backTo L (starEach G X.env)).any (·.1))=false;rw[qk]<;>rfl) (Calls.evalArgs_plain ?_);exact Al hA λus s2 ⟨vs,H2,I2,r2,q2⟩=>hm Z s2 σ H2 x vs v us Q I2 r1 r2 q2
end L2
namespace L2
open PySem PySem.Spec PyProof.Rows
def MtM(X:Cx)(id:String)(r:V->List V->Hp->VK->Prop):Prop :=
 ∀(Z:Zp)(s:Shared)(R:St)(H:Hp)(x:V)(G:List V)(v:Value)(L:Zl)(Q:VK),Inv X Z R H s->RelV x v->Vals G L->r x G H Q ->
  wpAny (model X.prog X.w) X.A (call (.builtin id) (v::L)) (EP X Z R Q) X.xe s
theorem Vals.one:∀{x:V}{Z:Zl},Vals [x] Z->∃u,Z=[u]/\RelV x u
 |_,_,.cons r .nil=>⟨_,rfl,r⟩
def Inv.a9m{G:Zl}(I:Inv X pins σ H s)(hH:H l=some (.lst xs))(e:s.heap.get? l=some { cls:=.type "list",data:=.seq G.toArray n })(L:f G.toArray=its'.toArray)(hv:Vals Z its')(hz:Z.length<=sizeLine) :
 Inv X pins σ (upd H l (.lst Z)) { s with heap:=s.heap.update l (Obj.mapSeq f),toks:=t' }:=by
 have q:=PySem.IsL.update e f;rw[L] at q;refine I.write (x:=l) (e:=l) (by rw[hH];exact trivial) (.inl rfl) (λb' u R hu=>(ur s.heap (Obj.mapSeq f) (j5 R)).trans hu) ⟨_,q⟩ ?_;exact⟨hz,its',_,hv,q⟩
def Inv.a9n(I:Inv X pins σ H s)(L:Vals G Z)(R:G.length<=sizeLine) :
 Inv X pins σ (upd H s.heap.objs.size (.lst G)) { s with heap:=s.heap.push { cls:=.type "list",data:=.seq Z.toArray },toks:=t' } :=
 I.laid (λ_ _ q=>ak _ q) (bh _) ⟨R,Z,0,L,bw _ rfl⟩
theorem Inv.fresh(I:Inv X pins σ H s):H s.heap.objs.size=none:=I.wk.fresh (bh _)
def Inv.apt(I:Inv X pins σ H s)(L:H l=some (.lst G)):G.length<=sizeLine/\∃(Z:Zl)(n:Nat),Vals G Z/\G.length=Z.length/\s.heap.get? l=some { cls:=.type "list",data:=.seq Z.toArray n }:=by obtain⟨z,Z,n,r,e⟩:=I.wk l _ L;exact⟨z,Z,n,r,r.length,e⟩
def apu:V->List V->Hp->VK->Prop:=λx G H Q=>∃l Z y,x=.ref l/\G=[y]/\H l=some (.lst Z)/\Z.length<sizeLine/\Q .non (upd H l (.lst (Z++[y])))
def V0:MtM X "list.append" apu:=by intro L s σ H x vs v us Q I rx rv h;obtain⟨l,xs,y,rfl,rfl,Z,G,q⟩:=h;cases rx;obtain⟨u,rfl,ru⟩:=rv.one;obtain⟨z,R,n,r,hl,e⟩:=I.apt Z;refine call_meets F.slot_list_append ⟨_,e,rfl⟩ F.entry_list_append (F.args_list_append_2 _ _) (PySem.list_append l R.toArray n u (by rw[fc];exact e_ (c_ (g_ hl) G))) ⟨e,?_⟩;refine⟨.non,_,I.a9m (its':=R++[u]) Z e (by simp) (r.append (.cons ru .nil)) ?_,rfl,q⟩;rw[o4,List.length_singleton];exact G
def a1v:R2:=λx y H Q=>∃l b G Z,x=.ref l/\y=.ref b/\H l=some (.lst G)/\H b=some (.lst Z)/\G.length+Z.length<=sizeLine/\∀p,H p=none->Q (.ref p) (upd H p (.lst (G++Z)))
def awm:Bc X (binaryOp .Add) a1v:=by
 intro G s σ H x y v u Q I rx ry h;obtain⟨l,b,xs,zs,rfl,rfl,R,hB,hz,q⟩:=h;cases rx;cases ry;obtain⟨z,L,n,r,hl,e⟩:=I.apt R;obtain⟨z2,Z,n2,r2,qq,e2⟩:=I.apt hB;refine PySem.P.add_list e e2 ?_ (by rw[fc,fc];lia);have ea:L.toArray++Z.toArray=(L++Z).toArray:=by simp
 rw[ea];exact⟨.ref _,_,I.a9n (t':=s.toks) (r.append r2) (by rw[o4];exact hz),rfl,q _ I.fresh⟩
end L2
namespace Att
open PySem PySem.W PySem.Calls PyProof.Rows
def Ra:∀(ns:X1)(Z:Zl),WellAll P h Z (ns.map WData.int)->IntsAre Z ns:=by
 intro ns
 induction ns with
 |nil =>
  intro Z w;rw[List.map_nil] at w;cases w;exact .nil
 |cons n ns G =>
  intro Z w;rw[du] at w;cases w with
  |cons a b =>
   cases a;exact .cons _ _ (G _ b)
def agq{l:OpenLaw}(hn:l.most=some n)(L:l.row.toRowW.claim.pre args=true)(qk:WellAll P h vals args) :
 ∃a vs Z,vals=[Value.ref a]/\args=[WData.list (Z.map WData.int)]/\h.get? a=some { cls:=.type "list",data:=.seq vs.toArray }/\IntsAre vs Z/\Z.length<=n:=by
 have qq:WShape.hasAll [] args [.list .int]=true:=(pre_splitW L).1;have hc:l.pre.holds [] { args:=args }=true:=(pre_splitW L).2;obtain⟨d,r,rfl,h1,h2⟩:=hasAllW_cons qq;obtain rfl:=hasAllW_nil h2;obtain⟨xs,rfl,h3⟩:=hasW_list h1;obtain⟨Z,rfl⟩:=items_int h3;have G:Z.length<=n:=by
  unfold OpenLaw.pre at hc;have R:(WTm.not (.lt (.lit (.int (n:Int))) (.len (.arg 0)))).holds [] { args:=[.list (Z.map .int)] }=true:=by have R:=(holds_andW hc).1;rw[hn] at R;exact R
  have h5:=condW_of R (w_not (w_lt w_lit (w_len_list (w_arg rfl))));rw[dw] at h5;refine Nat.le_of_not_lt λq=>?_
  have q':(n:Int)<((Z.length:Nat):Int):=m_ q
  first
   |(rw[jf q'] at h5;exact absurd h5 (by decide))
   |(simp at h5;omega)
 cases qk with
 |cons w1 w2 =>
  cases w2;cases w1 with
  |list ho Cj=>exact⟨_,_,Z,rfl,rfl,ho,Ra Z _ Cj,G⟩
def agr(l:OpenLaw)(Z:List WData):l.row.toRowW.claim.post Z (.bool true) Z=true :=
 postW_of (r:=l.row.toRowW) (X:=(true==true))
  (show WShape.has [] (.bool true) .bool=true by first|rfl|decide|simp[WShape.has,WShape.arms,WShape.armsAll])
  (show(WTm.eq .res (.lit (.bool true))).value [] { args:=Z,res:=some (.bool true),after:=Z }=some (.bool (true==true)) from w_eq_bool (w_res rfl) w_lit) rfl
def Zw{l:OpenLaw}(hn:l.most=some n)(qv:d.params.defaults=[])(call:∀(w:World) (L Z:Shared) (mg mb:Zs) (fa:Addr) (o:Obj) (pm cd R:Value) (a:Addr) (vs:Zl) (ns:X1),
 Ground q loose [] XP w L mg mb Z.heap->YP w Z.heap ->
 Z.heap.get? fa=some o->o.data=.func (docDef d.name d.params d.body d.scope pm cd R)->Z.heap.CodeRec cd d.name->mg d.name=some (.ref fa) ->
 Z.heap.get? a=some { cls:=.type "list",data:=.seq vs.toArray }->IntsAre vs ns->ns.length<=n->Z.gens=#[] ->
 codeAny (model l.prog w) callerA (.call (.ref fa) ⟨[.ref a],[]⟩) (λr s'=>r=.ok (.ret (.bool true))/\OldK Z.heap s'.heap/\s'.os=Z.os/\AllBare s'.gens) Z) :
 WalkO q loose XP YP l.row.toRowW d [] (λf vs=>PySem.call f vs):=by
 intro w L Z mg mb G Y fa o pm cd R dV kV ho hd Rx hD q0 hg q5 q4 as q2 q6 q8 q3 q7;obtain rfl:dV=.none:=Dflts.none hD qv;obtain rfl:kV=.none:=Dflts.noKw hD;obtain⟨a,vs,ns,rfl,rfl,q1,qq,qk⟩:=agq hn q2 q3;refine enter_call (m9 (call w L Z mg mb fa o pm cd R a vs ns G Y ho (fd_plain hd) Rx q0 q1 qq qk hg) λr s' hq=>?_);obtain⟨rfl,h2,h3,h4⟩:=hq;exact⟨.inl ⟨.bool true,.bool true,[],rfl,λ_=>rfl,.bool true,agr l _,λ_=>⟨List.Pairwise.nil,λ_ hm=>(nomatch hm)⟩⟩,h2,h3,h4⟩
end Att
namespace L2
open PySem PySem.Spec PyProof.Rows
theorem V1:∀{G:Zl}{Z:X1},IntsAre G Z->Vals (Z.map V.int) G
 |_,_,.nil=>.nil|_,_,.cons n t h=>.cons ⟨t,rfl⟩ (V1 h)
end L2
namespace L2
open PySem PySem.Spec PyProof.Rows
end L2
namespace L2
open PySem PySem.Spec PyProof.Rows
noncomputable def inClass(s:Stmt)(j:Nat):Stmt:=match s with
 |.ClassDef _ _ _ body _ _ _ _ _ _ _=>body.getD j (.Pass ⟨0,0,0,0⟩)|_=>.Pass ⟨0,0,0,0⟩
noncomputable def Ci(s:Stmt):Arguments:=match s with
 |.FunctionDef _ a _ _ _ _ _ _ _ _=>a|_=>{ posonlyargs:=[],args:=[],vararg:=none,kwonlyargs:=[],kw_defaults:=[],kwarg:=none,defaults:=[] }
noncomputable def Av(s:Stmt):List Stmt:=match s with
 |.FunctionDef _ _ b _ _ _ _ _ _ _=>b|_=>[]
noncomputable def jz(s:Stmt):Scope:=match s with
 |.FunctionDef _ _ _ _ _ _ sc _ _ _=>sc|_=>{ kind:=.function,names:=[],isGenerator:=false,isCoroutine:=false }
abbrev V2:Yn:=λ_ _ _ _ _ _=>False
abbrev E0:XK:=λ_ _ _=>False
def asx:Passes V2 X E0:=λ_ _ _ _ _ _ _ h=>h.elim
structure Fun(K:Fg)(x qual:Str)(st:Stmt)(f:Addr)(fd:FuncData):Prop where
 ex:∃(oc:Value)(od:Option Addr)(kV doc pm:Value)(an:Option Addr)(cdv ct:Value)(osl:Array (Option Value)),
  fd=PySem.W.fnOf x qual (Ci st) (Av st) (jz st) .none kV doc pm an cdv ct/\K.lookup f=some ⟨oc,od,.func fd,osl⟩/\PySem.W.codeIn K cdv qual=true
 kp:PySem.W.keepIn K (.ref f)=true
def Fun.binds{K:Fg}{L:Stmt}(F:Fun K x qual L f fd)(h:∀(kV Z pm:Value) (an:Option Addr) (G ct:Value) (R:Zl),R.length=ps.length->bindArgs (PySem.W.fnOf x qual (Ci L) (Av L) (jz L) .none kV Z pm an G ct) ⟨R,[]⟩=pure (ps.zip R)):Binds K fd ps []:=by obtain⟨oc,od,kV,Z,pm,an,G,ct,qq,rfl,lk,Rx⟩:=F.ex;exact .all (h kV Z pm an G ct)
def Xm{K:Fg}{L:Stmt}{f:Addr}{oc:Value}{od an:Option Addr}{R:Array (Option Value)}{kV G pm Z ct:Value}(l:K.lookup f=some ⟨oc,od,.func (PySem.W.fnOf x qual (Ci L) (Av L) (jz L) .none kV G pm an Z ct),R⟩)(c:PySem.W.codeIn K Z qual=true)(k:PySem.W.keepIn K (.ref f)=true):Fun K x qual L f (PySem.W.fnOf x qual (Ci L) (Av L) (jz L) .none kV G pm an Z ct):=⟨⟨oc,od,kV,G,pm,an,Z,ct,R,rfl,l,c⟩,k⟩
def V3{A:Around}{k:Nat}(Z:xj k A):A.units+1<cLine:=Nat.lt_of_le_of_lt (Nat.add_le_add_left (by decide:1<=64) _) Z.units
end L2
namespace L2
open PySem PySem.Spec PyProof.Rows
noncomputable def grd(h:Heap)(S:X0):Heap:=⟨h.objs.mapIdx λi o=>if i∈S then{ o with data:=.freed } else o,h.life⟩
def Ph{h:Heap}{S:X0}{b:Addr}(Z:b∈S):(grd h S).get? b=none:=by
 unfold Heap.get? grd;rw[Array.getElem?_mapIdx];cases h.objs[b]? with
 |none=>rfl|some o=>simp[Z]
def Xn{h:Heap}{S:X0}{b:Addr}(Z:b∉S):(grd h S).get? b=h.get? b:=by
 unfold Heap.get? grd;rw[Array.getElem?_mapIdx];cases h.objs[b]? with
 |none=>rfl|some o=>simp[Z]
def Pj(h:Heap)(S:X0):(grd h S).StaysIn h:=λb o e=>by
 by_cases Z:b∈S
 .rw[Ph Z] at e;cases e
 .rw[Xn Z] at e;exact e
def Tu{h:Heap}{S:X0}{b:Addr}(e:(grd h S).get? b=none):b∈S\/h.get? b=none:=by
 by_cases Z:b∈S
 .exact .inl Z
 .rw[Xn Z] at e;exact .inr e
theorem Nv{h Z:Heap}{S:X0}:∀{l:List Env},(∀b∈Gb l,b∈S)->h.FunFrames Z l->h.FunFrames (grd h S) l
 |[],_,_=>trivial
 |env::l,hs,⟨hk,⟨L,o,hf,hn,ho,hd⟩,hr⟩=>by
  have R:L∈S:=hs L (by simp[Gb,hf]);refine⟨hk,⟨L,o,hf,Ph R,ho,hd⟩,Nv (λb G=>hs b ?_) hr⟩;simp only[Gb,zx,hf];exact bc _ G
structure Trc(h:Heap)(e T:Addr)(cls a0:Value):Prop where
 x:∃oe vs oT ts,h.get? e=some oe/\(oe.cls=cls/\vs[0]?=some a0)/\oe.data=.fields vs/\vs[1]?=some (.ref T)/\T≠e/\h.get? T=some oT/\oT.data=.fields ts/\ts[3]?=some .none
structure Lv(fr S:X0)(h h':Heap):Prop where
 keep:∀b o,h.get? b=some o->b∉fr->b∉S->h'.get? b=some o
 slot:∀b o,h.get? b=some o->b∈fr->∃sl,h'.get? b=some { o with slots:=sl }
def Tv{h Z:Heap}{l:List Env}(L:h.FunFrames Z l){b:Addr}(G:b∈Gb l):∃o,h.get? b=some o/\∀vs,o.data≠.fields vs:=(L.mem G).2
section
variable{M:Model}{A:Around}{E:Y1}{s:Shared}
theorem akj{Z h G:Heap}{l:List Env}{S:X0}(hl:h.FunFrames Z l)(st:(grd h (Gb l++S)).StaysIn G)(up:h.UpToSlots G):Lv (Gb l) S h G where
 keep:=λb o e L h2=>st b o (by rw[Xn];exact e;intro q;rcases fj.mp q with q|q;exact L q;exact h2 q)
 slot:=λb o e L=>by obtain⟨o',R,nf⟩:=Tv hl L;rw[e] at R;cases R;exact up b o e nf
def ace{qq h:Heap}{G:Env}{Z:List Env}{L e:Addr}{qk:Value}{qv:Zl}{Q:Unit->Shared->Prop}
 (q5:A.frames=some (G::Z)) (hf:G.frame=some L) (hl:h.FunFrames qq (G::Z)) (hx:Heap.MadeExcOf h s.heap e qk qv)
 (hQ:∀h' T t,Trc h' e T qk (.ref t)->h.get? T=none->h'.FunFrames (grd h (Gb (G::Z))) Z->Lv (Gb (G::Z)) [] h h'->Q () { s with heap:=h' }):wpAny M A (leaving G (.ref e)) Q E s:=by
 have q0:=Nv (S:=Gb (G::Z)) (λb hb=>hb) hl;refine wpAny_leaves_madeW q5 hf (Pj h (Gb (G::Z))) q0 hx λh' t q1 q6 _ up=>?_
 obtain⟨k1,k2,k3,oe,vs,T,oT,ts,he,hc,hd,h1,q3,q2,hT,R,h3⟩:=q1;refine hQ h' T t ⟨oe,vs,oT,ts,he,hc,hd,h1,q2,hT,R,h3⟩ ?_ k3 ?_
 .rcases Tu q3 with q|q
  .exfalso
   obtain⟨o,ho,nf⟩:=Tv hl q;obtain⟨sl,e2⟩:=up T o (hx.keeps T o ho) nf;rw[hT] at e2;cases e2;exact nf ts R
  .exact q
 .have q4:h.UpToSlots h':=λb o e nf=>up b o (hx.keeps b o e) nf
  exact akj (S:=[]) hl (by rw[jm];exact k1) q4
def Zx{q0:Heap}{G:Env}{Z:List Env}{L e T:Addr}{q1 a0:Value}{Q:Unit->Shared->Prop}
 (z0:A.frames=some (G::Z)) (hf:G.frame=some L) (hl:s.heap.FunFrames q0 (G::Z)) (F:Trc s.heap e T q1 a0)
 (hQ:∀h' R,Trc h' e R q1 a0->(R=T\/s.heap.get? R=none)->h'.FunFrames (grd s.heap (Gb (G::Z)++[e,T])) Z->Lv (Gb (G::Z)) [e,T] s.heap h'->Q () { s with heap:=h' }):wpAny M A (leaving G (.ref e)) Q E s:=by
 obtain⟨oe,vs,oT,ts,he,hc,hd,h1,zk,hT,q2,h3⟩:=F.x;have q5:=Nv (S:=Gb (G::Z)++[e,T]) (λb hb=>kh _ hb) hl;refine wpAny_leaves_onW z0 hf ⟨Pj _ _,Ph (by simp),q5,oe,vs,T,oT,ts,he,hc,hd,h1,Ph (by simp),zk,hT,q2,h3⟩ λh' q8 up=>?_
 obtain⟨k1,k2,k3,zv,q6,R,zg,qk,q7,Wh,Yt,q4,zw,qq,Us,qv,q3⟩:=q8;refine hQ h' R ⟨zv,q6,zg,qk,q7,Wh,Yt,q4,qq,Us,qv,q3⟩ ?_ k3 (akj hl k1 up);rcases Tu zw with q|q
 .rcases fj.mp q with q|q
  .exfalso
   obtain⟨o,ho,nf⟩:=Tv hl q;obtain⟨sl,e2⟩:=up R o ho nf;rw[Us] at e2;cases e2;exact nf qk qv
  .simp at q
   rcases q with q|q
   .exact absurd q qq
   .exact .inl q
 .exact .inr q
end
structure Flt(h₀:Heap)(H:Hp)(h:Heap)(e T:Addr)(cls a0:Value):Prop where
 t:Trc h e T cls a0
 ne:h₀.get? e=none
 nT:h₀.get? T=none
 he:H e=none
 hT:H T=none
def Yp(P:Program)(w:World):Yn:=λZ H s E v L=>∃e T G a0 R,v=.ref e/\L.os=s.os/\AllBare L.gens/\Un (Gb Z) [] H R s.heap L.heap/\Jh P w R L.heap/\Flt s.heap R L.heap e T G a0/\E G none R
def XOn(X:Cx)(E:XK):Prop:=∀(Z:Zp)(R:St)(H:Hp)(s:Shared)(e T:Addr)(G L:Value),Inv X Z R H s->Flt X.s₀.heap H s.heap e T G L->(∀p∈X.pn++Z,p.1≠e/\p.1≠T)->E G none H->X.xe (.ref e) s
def akn(X:Cx)(E:XK):Prop:=∀(G:Zp)(σ:St)(H:Hp)(s:Shared)(R:Heap)(e:Addr)(Z:Value)(L:Zl),Inv X G σ H s->Heap.MadeExcOf s.heap R e Z L->E Z none H->X.xe (.ref e) { s with heap:=R }
def Gd{X:Cx}{Z:Zp}{G:St}{H:Hp}{s:Shared}(I:Inv X Z G H s)(L:X.ex=[])(h:s.heap.get? b=none):X.s₀.heap.get? b=none:=by
 cases q:X.s₀.heap.get? b with
 |none=>rfl
 |some o =>
  obtain⟨R,e⟩:=I.base.there b o q (by rw[L];simp);rw[h] at e;cases e
def ako{X:Cx}{E:XK}(R:X.ex=[])(h:XOn X E):Passes (Yp X.prog X.w) X E:=λZ σ H s v s' I hh=>by
 obtain⟨e,T,L,a0,H',rfl,os,G,un,wk,F,q⟩:=hh;have J:Inv X Z σ H' s':=I.call' (ch:=[]) os un wk G (λb z=>absurd z (by simp));exact h Z σ H' s' e T L a0 J ⟨F.t,Gd I R F.ne,Gd I R F.nT,F.he,F.hT⟩ (λp hp=>by
  have z:=(I.pin p hp).1;refine⟨λq=>?_,λq=>?_⟩
  .rw[q,F.ne] at z;cases z
  .rw[q,F.nT] at z;cases z) q
def akp{P:Program}{w:World}{H:Hp}{h:Heap}{a:Addr}{o:HO}(x:Bb P w H h a o):∃u,h.get? a=some u:=by
 cases o with
 |lst G=>obtain⟨_,_,_,_,e⟩:=x;exact⟨_,e⟩
 |tup G=>obtain⟨_,_,_,_,e,_⟩:=x;exact⟨_,e⟩
 |dK Z=>obtain⟨_,_,_,_,_,_,_,e,_⟩:=x;exact⟨_,e⟩
 |dT Z=>obtain⟨_,_,_,_,_,_,_,e,_⟩:=x;exact⟨_,e⟩
 |set S n=>obtain⟨_,_,_,_,e,_⟩:=x;exact⟨_,e⟩
 |ins C dx fs=>obtain⟨_,_,_,e,_⟩:=x;exact⟨_,e⟩
 |own y=>obtain⟨_,e⟩:=x;exact⟨_,e⟩
 |xd fs=>obtain⟨_,⟨_,_,_,e,_⟩,_⟩:=x;exact⟨_,e⟩
 |Mq lo L=>obtain⟨_,_,_,e⟩:=x;exact⟨_,e⟩
 |Hk ob u=>obtain⟨e,_⟩:=x;exact⟨_,e⟩
 |U3 ps=>exact⟨_,(show h.get? a=some _ from x)⟩
 |met f y=>exact⟨_,(show h.get? a=some _ from x)⟩
 |ext R=>obtain⟨_,e,_⟩:=x;exact e
def Km{P:Program}{w:World}{H:Hp}{h:Heap}{a:Addr}(x:Jh P w H h)(n:h.get? a=none):H a=none:=by
 cases z:H a with
 |none=>rfl
 |some o =>
  obtain⟨u,e⟩:=akp (x a o z);rw[n] at e;cases e
def Xo{P:Program}{w:World}{H:Hp}{h h':Heap}{G S:X0}(x:Jh P w H h)(l:Lv G S h h')(L:∀b∈G,H b=none)(R:∀b∈S,H b=none):Jh P w H h':=λa o e =>
 (x a o e).stay (λb u Z q=>l.keep b u q (λz=>by
  have:=L b z;rcases Z with rfl|Z
  .rw[e] at this;cases this
  .rw[Z] at this;cases this) (λz=>by
  have:=R b z;rcases Z with rfl|Z
  .rw[e] at this;cases this
  .rw[Z] at this;cases this)) (λ_ q=>q) λ_ _ q=>q
section
variable{P:Program}{w:World}{K:Fg}{mg:Zs}{base:Heap}{N:Ya}{qual:Str}{scope:Scope}{f:Addr}{cd:Value}{A:Around}{outer:List Env}{s:Shared}{H:Hp}{E:XK}
def aem{L:Yn}{qq:Zp}{σ:St}{H1:Hp}{s1:Shared}{h':Heap}{S:X0}(I:Inv (Hi L P w K mg base N qual scope f cd A outer s H E) qq σ H1 s1)
 (l:Lv (Gb (Hi L P w K mg base N qual scope f cd A outer s H E).stack) S s1.heap h') (hS:∀b∈S,s.heap.get? b=none):Un (Gb outer) [] H H1 s.heap h':=by
 have G:Un (Gb outer) [] H H1 s.heap s1.heap:=I.base;have lo:∀b o,s.heap.get? b=some o->b∉S:=λb o e z=>by rw[hS b z] at e;cases e
 have ab:s.heap.objs.size<=s.heap.objs.size:=bh _
 have nf:∀b o,s.heap.get? b=some o->b∉Gb outer->b∉Gb (Hi L P w K mg base N qual scope f cd A outer s H E).stack:=λb o e Z z=>by
  rcases bx.mp (I.Ii b z) with q|q
  .have:=au e
   have h2:s.heap.objs.size<=(Hi L P w K mg base N qual scope f cd A outer s H E).env.locals:=I.ok.above
   rw[q] at this;exact absurd (dm this h2) (je _)
  .exact Z q
 have any:∀b o,s1.heap.get? b=some o->b∉S->∃o',h'.get? b=some o'/\∃sl,o'={ o with slots:=sl }:=λb o e Z=>by
  by_cases q:b∈Gb (Hi L P w K mg base N qual scope f cd A outer s H E).stack
  .obtain⟨sl,e2⟩:=l.slot b o e q
   exact⟨_,e2,sl,rfl⟩
  .exact⟨o,l.keep b o e q Z,o.slots,rfl⟩
 refine⟨λb o e n Z R=>?_,λb o e n Z R=>?_,G.free,λb o e R=>?_,G.Ld,G.Mj,G.Nj⟩
 .exact l.keep b o (G.keep b o e n Z R) (nf b o e Z) (lo b o e)
 .obtain⟨sl,e1⟩:=G.slot b o e n Z R
  obtain⟨o',e2,qk,rfl⟩:=any b _ e1 (lo b o e);exact⟨qk,e2⟩
 .obtain⟨o1,e1⟩:=G.there b o e R
  obtain⟨o',e2,_⟩:=any b o1 e1 (lo b o e);exact⟨o',e2⟩
def awr:XOn (Hi (Yp P w) P w K mg base N qual scope f cd A outer s H E) E:=λqq σ H1 s1 e T G a0 I F _ q=>by
 have ne:∀b∈[e,T],s.heap.get? b=none:=λb Z=>by
  simp at Z;rcases Z with rfl|rfl
  .exact F.ne
  .exact F.nT
 have nH:∀b∈[e,T],H1 b=none:=λb Z=>by
  simp at Z;rcases Z with rfl|rfl
  .exact F.he
  .exact F.hT
 refine Zx (L:=s.heap.objs.size) I.ok.frames rfl I.stack F.t λh' T' t' R _ l=>?_
 refine⟨e,T',G,a0,H1,rfl,I.os,I.bare,aem I l ne,Xo I.wk l I.K7 nH,⟨t',F.ne,?_,F.he,?_⟩,q⟩
 .rcases R with rfl|hn
  .exact F.nT
  .exact Gd I rfl hn
 .rcases R with rfl|hn
  .exact F.hT
  .exact Km I.wk hn
def apy:akn (Hi (Yp P w) P w K mg base N qual scope f cd A outer s H E) E:=λR σ H1 s1 h1 e Z qq I M q=>by
 refine ace (s:={ s1 with heap:=h1 }) (L:=s.heap.objs.size) I.ok.frames rfl I.stack M λh' T t t' G _ l=>?_
 exact⟨e,T,Z,.ref t,H1,rfl,I.os,I.bare,aem I l (λb z=>absurd z (by simp)),Xo I.wk l I.K7 (λb z=>absurd z (by simp)),⟨t',Gd I rfl M.new,Gd I rfl G,Km I.wk M.new,Km I.wk G⟩,q⟩
end
structure acf(K:Fg)(C:Addr)(bmB:Zl)(newId:String):Prop where
 i:PySem.W.excIn K C bmB newId=true
set_option tactic.hygienic true in
def acf.obj{K:Fg}{C:Addr}{Y:Zl}{Z:String}(c:acf K C Y Z){h:Heap}(X:K.In h) :
 ∃bm N nm q bs G sn L ab y dd k0 k1 k2 k3 k5 mN,h.get? C=some (excClassObj nm q C N bs bm G sn L ab y dd k0 k1 k2 k3 k5 Z)/\h.Ns N mN/\mN "__init__" = none/\OwnTail h Y bm:=by
 have z:=c.i;unfold PySem.W.excIn at z;split at z
 .rename_i od S sl hl
  split at z
  .rename_i C2 tl x0 x1 x2 x3 n x5 J R
   simp only[ao,v8,uv] at z;obtain⟨⟨⟨⟨⟨y1,y2⟩,y3⟩,y4⟩,y5⟩,y6⟩:=z;cases S with
   |mk c1 c2 c3 c4 c5 c6 c7 c8 c9 u qq =>
    have e3:c3=.ref C2::tl:=J;have qk:qq=false:=y3;cases sl with
    |mk ls =>
     have e:ls=[x0,x1,x2,x3,some (.builtin n),x5]:=R;subst e3 qk e y1 y2;exact⟨tl,c4,c1,c5,c2,c6,c7,c8,c9,u,od,x0,x1,x2,x3,x5,_,X _ _ hl,.of_isNs (PySem.W.isNs_of_in X y5),PySem.W.nsMap_none_of_in X y5 y6,PySem.W.tail_of_in X y4⟩
  .cases z
 .cases z
def aws(C:Addr)(E:XK)(t:TA):TS:=λ_ G H=>t G H λL Z=>L.length<=sizeLine/\E (.ref C) none Z
section
variable{bmB bmN:Zl}{B Bn newId nid initId inN:String}
def akq{X:Cx}{E:XK}{C:Addr}{x:Str}{np Ji pos:Pos}{e:Expr}{L:Y3}{t:TA}(Fn:ExcBaseFacts Bn newId inN bmN)(q2:bmB.contains (.type Bn)=true)(FB:ExcBaseFacts B nid initId bmB)
 (hc:acf X.K C bmB newId) (hn:akn X E) (Dj:X.calm=true) (hg:Gl X x) (hm:X.mg x=some (.ref C)) (ha:PA X (e::L) t) (K9:(x==("__debug__" : Str))=false)
 (he:starEach (e::L) X.env=(false,eval e X.env)::starEach L X.env) (Jo:(backTo Ji (starEach L X.env)).any (·.1)=false) :
 PS X (.Raise (some (.Call (.Name x np) (e::L) [] Ji)) none pos) (aws C E t):=by
 intro Z s σ H D I h;obtain⟨tl,N,nm,q,bs,G,sn,R,ab,qk,dd,k0,k1,k2,k3,k5,mN,hC,hN,q0,T⟩:=hc.obj I.ok.mod.kin;refine wpAny_Raise_call_subU (C:=C) (nm:=nm) (q:=q) (N:=N) (bs:=bs) (bm:=tl) (hdct:=G) (sn:=sn) (sub:=R) (ab:=ab) (col:=qk) (dd:=dd) (k0:=k0) (k1:=k1) (k2:=k2) (k3:=k3) (k5:=k5)
  Fn q2 FB (mN:=mN) (T.hasType FB.hasBase) (I.ok.hd Dj) (by rw[he];show(false||(backTo Ji (starEach L X.env)).any (·.1))=false;rw[Jo];rfl) q0 (Ij I hg hm ⟨rfl,?_⟩ K9)
 have z:=ha Ji Z s σ H _ I h;rw[he] at z ⊢;refine Calls.evalArgs_plain (ik z (λvs qq qv=>?_) λ_ _ y=>y);obtain⟨ws,H1,I1,r1,hl,q1⟩:=qv;exact⟨rfl,by rw[<- Vals.length r1];exact hl,I1.bk _ _ hC,hN.keeps I1.bk,T.keeps I1.bk,λh' e hm=>hn Z σ H1 qq h' e _ _ I1 hm q1⟩
end
open PySem PySem.Spec PySem.Calls PyProof.Rows
noncomputable def acg(K:Fg)(C:Addr):Bool :=
 (PySem.W.findIn K (.ref C) "__getattribute__"==some (some (.builtin "BaseException.__getattribute__"))&&PySem.W.findIn K (.ref C) "__getattr__"==some none) &&
 ((PySem.W.findIn K (.ref C) "__class__"==some (some (.builtin "object.__class__"))&&PySem.W.subIn K (.ref C) (.type "BaseException")==some true)&&(PySem.W.subIn K (.ref C) (.type "object")==some true&&(PySem.W.clsIn K C).isSome))
structure ach(K:Fg)(C:Addr):Prop where
 ga:PySem.W.findIn K (.ref C) "__getattribute__" = some (some (.builtin "BaseException.__getattribute__"))
 nh:PySem.W.findIn K (.ref C) "__getattr__" = some none
 cl:PySem.W.findIn K (.ref C) "__class__" = some (some (.builtin "object.__class__"))
 sB:PySem.W.subIn K (.ref C) (.type "BaseException")=some true
 sO:PySem.W.subIn K (.ref C) (.type "object")=some true
 is:(PySem.W.clsIn K C).isSome=true
def apz{K:Fg}{C:Addr}(h:acg K C=true):ach K C:=by simp only[acg,ao,v8] at h;exact⟨h.1.1,h.1.2,h.2.1.1,h.2.1.2,h.2.2.1,h.2.2.2⟩
section
variable{prog:Program}{w:World}{A:Around}{E:Y1}{h:Heap}{g:Array GenState}{d:Drawn}{t:Nat}{os:OsState}{a C:Addr}{o:Obj}{K:Fg}
set_option tactic.hygienic true in
def awt{R:Result->Shared->Prop}(X:K.In h)(L:ach K C)(J:h.get? a=some o)(Y:o.cls=.ref C)(S:R (.ok (.ret (.ref C))) ⟨h,g,d,t,os⟩) :
 codeAny (model prog w) A (.call (.builtin "getset_descriptor.__get__") ⟨[.builtin "object.__class__",.ref a,.ref C],[]⟩) R ⟨h,g,d,t,os⟩:=by
 have Z:(⟨h,g,d,t,os⟩:Shared).TypeIs (.builtin "object.__class__") "getset_descriptor" := F.typeOf_object_class;have G:=Aa (M:=model prog w) X L.sO;rw[<- F.owner_object_class] at G;refine vz F.slot_gs_get.plain F.entry_gs_get (F.slot_gs_get.check _ _ _ _ _ _ _ _ Z (F.args_gs_get _ _ _) ?_)
 repeat (any_goals (first|assumption|(with_reducible refine qt J ?_;rw[Y])|with_reducible refine G.at ?_|wp_step))
 refine⟨Code.quiet_builtin _ (by decide+kernel),my F.entry_object_class ?_⟩
 repeat (any_goals (first|assumption|(with_reducible refine qt J ?_;rw[Y])|wp_step))
set_option tactic.hygienic true in
def akr{R:Tok}{Q:Fin->Shared->Prop}(X:K.In h)(Y:ach K C)(G:h.get? a=some o)(Z:o.cls=.ref C)(u:Q (.done (.ret (.ref C))) ⟨h,g,d,t,os⟩) :
 wpAny (model prog w) A (Builtin.«object.__getattribute__» ⟨[.ref a,.str "__class__" R],[]⟩) Q E ⟨h,g,d,t,os⟩:=by
 have J:(⟨h,g,d,t,os⟩:Shared).TypeIs (.builtin "object.__class__") "getset_descriptor" := F.typeOf_object_class;have f5:=F.typeOf_object_class;have y:=F.slot_gs_get.lookup;have S:=F.slot_gs_set.lookup;have L:=zc (M:=model prog w) X Y.cl
 repeat (any_goals (first|assumption|(with_reducible refine qt G ?_;rw[Z])|with_reducible refine L.at ?_|wp_step))
 refine awt X Y G Z ?_
 repeat (any_goals (first|assumption|wp_step))
set_option tactic.hygienic true in
def aks{M:Model}{Z:Value}{Q:Unit->Shared->Prop}(X:K.In h)(L:ach K C)(S:h.get? a=some o)(G:o.cls=.ref C)(y:Q () ⟨h,g,d,t,os⟩):wpAny M A (checkBuiltinCall "BaseException.__getattribute__" ⟨[.ref a,Z],[]⟩) Q E ⟨h,g,d,t,os⟩:=by
 have R:builtinKind "BaseException.__getattribute__" = some .slot:=by decide+kernel
 have Y:splitId "BaseException.__getattribute__" = some ("BaseException", "__getattribute__"):=by decide+kernel
 have J:=Aa (M:=M) X L.sB;have u:=F.args_bexc_ga (.ref a) Z;simp only[checkBuiltinCall,R,Y];refine aa ?_;unfold isInstance
 repeat (first|(with_reducible refine qt S ?_;rw[G])|with_reducible refine J.at ?_|wp_step)
 exact y
set_option tactic.hygienic true in
def a1x{tk:Tok}{Y Z:Bool}{Q:Y1}(X:K.In h)(G:ach K C)(R:h.get? a=some o)(J:o.cls=.ref C)(hq:Q (.ref C) ⟨h,g,d,t,os⟩) :
 wpAny (model prog w) A (getAttrBy (.ref a) (.str "__class__" tk) Y Z) Q E ⟨h,g,d,t,os⟩:=by
 have f3:bindSpecial (.builtin "BaseException.__getattribute__") (.ref a)=pure (.builtin "BaseException.__getattribute__",[.ref a]):=F.attr_ValueError.ga.bind _;have y:(Z&&onTheHeap (Value.builtin "BaseException.__getattribute__"))=false:=by cases Z<;>rfl
 have L:(Value.builtin "BaseException.__getattribute__"==Value.builtin "object.__getattribute__")=false:=by decide+kernel
 have S:(onTheHeap (Value.ref C)&&Value.builtin "BaseException.__getattribute__"==Value.builtin "object.__getattribute__")=false:=by rw[L];rfl
 have u:=zc (M:=model prog w) X G.ga;have f2:=zc (M:=model prog w) X G.nh
 repeat (any_goals (first|assumption|(with_reducible refine qt R ?_;rw[J])|with_reducible refine u.at ?_|with_reducible refine f2.at ?_|wp_step))
 refine vz F.attr_ValueError.ga.plain F.entry_bexc_ga (aks X G R J (akr X G R J ?_))
 repeat (any_goals (first|assumption|wp_step))
def ap0{Q:Option Value->Shared->Prop}(X:K.In h)(G:ach K C)(L:h.get? a=some o)(Z:o.cls=.ref C)(R:Q (some (.ref C)) ⟨h,g,d,t+1,os⟩):wpAny (model prog w) A (getAttr? (.ref a) "__class__") Q E ⟨h,g,d,t,os⟩:=by
 unfold getAttr? getAttrBy?
 repeat (any_goals (first|assumption|with_reducible apply a1x X G L Z|wp_step))
end
def XAt(a C:Addr)(h:Heap):Prop:=∃o,h.get? a=some o/\o.cls=.ref C
set_option tactic.hygienic true in
theorem akt{K:Fg}{a C:Addr}(Y:ach K C):PySem.W.KitX K (.ref a) (.ref C) (XAt a C) where
 ty:=λM h _ p=>by obtain⟨o,G,J⟩:=p;exact J▸(PySem.W.Looks.ld G).andThen .now
 it:=λ_ _ X _=>by
  obtain⟨R,Z⟩:=ig.mp Y.is;unfold PySem.W.clsIn at Z;split at Z
  .rename_i S
   intro A' Q' u s' k q;unfold isType loadHead;exact aa (wpAny_loadPart (k _ _ (X _ _ S)) (aj q))
  .cases Z
 ne:=λh tp dd xf n y X L=>by
  obtain⟨R,Z⟩:=ig.mp Y.is;refine yw.mpr λq=>?_
  have e:C=tp:=Value.ref.inj (v8.mp q);subst e;unfold PySem.W.clsIn at Z;split at Z
  .rename_i S
   have z:=(X _ _ S).symm.trans L;cases z
  .cases Z
 ca:=fun{_ _ _ _ _ s} X p k=>by obtain⟨h,g,d,t,os⟩:=s;obtain⟨o,G,J⟩:=p;exact ap0 X Y G J k
def Inv.lv{X:Cx}{G:Zp}{σ:St}{H:Hp}{s:Shared}{h':Heap}{S:X0}(I:Inv X G σ H s)(l:Lv (Gb X.stack) S s.heap h')
 (hS:∀b∈S,X.s₀.heap.get? b=none/\H b=none/\(∃o vs,s.heap.get? b=some o/\o.data=.fields vs)/\∀p∈X.pn++G,p.1≠b):Inv X G σ H { s with heap:=h' }:=by
 have nS:∀b o,X.s₀.heap.get? b=some o->b∉S:=λb o e z=>by rw[(hS b z).1] at e;cases e
 have nL:∀b o,X.s₀.heap.get? b=some o->b∉X.fs->b∉Gb X.stack:=λb o e hb z=>by
  rcases bx.mp (I.Ii b z) with q|q
  .have:=au e
   rw[q] at this;exact absurd (dm this I.ok.above) (je _)
  .exact hb q
 have any:∀b o,s.heap.get? b=some o->b∉S->∃sl,h'.get? b=some { o with slots:=sl }:=λb o e hb=>by
  by_cases q:b∈Gb X.stack
  .exact l.slot b o e q
  .exact⟨o.slots,l.keep b o e q hb⟩
 have L:∀x c,X.env.cells.lookup x=some c->∀v,s.heap.IsCell c v->h'.IsCell c v:=λx c e v ⟨o,ho,hd⟩=>by
  have nc:c∉S:=λz=>by obtain⟨o',vs,R,Z⟩:=(hS c z).2.2.1;rw[ho] at R;cases R;rw[hd] at Z;cases Z
  obtain⟨sl,q⟩:=any c o ho nc;exact⟨_,q,hd⟩
 have qk:X.env.locals∉S:=λz=>by obtain⟨m,⟨o,es,ep,ho,hd,_⟩,_⟩:=I.loc;obtain⟨o',vs,R,Z⟩:=(hS _ z).2.2.1;rw[ho] at R;cases R;rw[hd] at Z;cases Z
 refine⟨I.ok,I.os,I.bare,⟨λb o e n hb hx=>?_,λb o e n hb hx=>?_,I.base.free,λb o e hx=>?_,I.base.Ld,I.base.Mj,I.base.Nj⟩,?_,λx c e=>?_,I.free,I.Bw,λp hp=>?_,Xo I.wk l I.K7 (λb hb=>(hS b hb).2.1),I.len⟩
 .exact l.keep b o (I.base.keep b o e n hb hx) (nL b o e hb) (nS b o e)
 .obtain⟨sl,R⟩:=I.base.slot b o e n hb hx
  obtain⟨qq,Z⟩:=any b _ R (nS b o e);exact⟨qq,Z⟩
 .obtain⟨o1,R⟩:=I.base.there b o e hx
  obtain⟨qq,Z⟩:=any b _ R (nS b o e);exact⟨_,Z⟩
 .obtain⟨m,⟨o,es,ep,ho,r⟩,hl⟩:=I.loc
  obtain⟨sl,Z⟩:=any _ o ho qk;refine⟨m,⟨_,es,ep,Z,r⟩,λi x v R Z e3=>?_⟩;obtain⟨u,r,l⟩:=hl i x v R Z e3;refine⟨u,r,?_⟩;rcases l with l|⟨k,c,e,z⟩
  .exact .inl l
  .exact .inr ⟨k,c,e,L x c e _ z⟩
 .obtain⟨v,z⟩:=I.cell x c e
  exact⟨v,L x c e v z⟩
 .obtain⟨e,n,ne,nf,d⟩:=I.pin p hp
  refine⟨l.keep p.1 p.2 e (λz=>?_) (λz=>(hS p.1 z).2.2.2 p hp rfl),n,ne,nf,d⟩;rcases bx.mp (I.Ii _ z) with q|q
  .exact ne q
  .exact nf q
def Inv.track{X:Cx}{Z:Zp}{σ:St}{H:Hp}{s:Shared}{e:Addr}{C:Addr}{G:Obj}{vs:Xs}(I:Inv X Z σ H s)(he:s.heap.get? e=some G)(hc:G.cls=.ref C)(hd:G.data=.fields vs)(hn:X.s₀.heap.get? e=none)(hH:H e=none)(hp:∀p∈X.pn++Z,p.1≠e) :
 Inv X Z σ (upd H e (.ext (XAt e C))) s:=by
 have L:∀b o,H b=some o->b≠e:=λb o q z=>by rw[z,hH] at q;cases q
 have nL:X.env.locals≠e:=λz=>by obtain⟨m,⟨o,es,ep,R,Yt,_⟩,_⟩:=I.loc;rw[z,he] at R;cases R;rw[hd] at Yt;cases Yt
 have nC:∀x c,X.env.cells.lookup x=some c->c≠e:=λx c q z=>by obtain⟨v,o,R,Yt⟩:=I.cell x c q;rw[z,he] at R;cases R;rw[hd] at Yt;cases Yt
 refine⟨I.ok,I.os,I.bare,⟨I.base.keep,I.base.slot,λb o q n hx=>?_,I.base.there,λb xs q=>?_,λb o xs q=>?_,λb ps q=>?_⟩,I.loc,I.cell,?_,λx c q=>?_,λp h=>?_,λb o q=>?_,I.len⟩
 .rw[gr (λz=>by rw[z,hn] at q;cases q)];exact I.base.free b o q n hx
 .have:=I.base.Ld b xs q;rw[gr (L _ _ this)];exact this
 .have:=I.base.Mj b o xs q;rw[gr (L _ _ this)];exact this
 .obtain⟨m,z⟩:=I.base.Nj b ps q;exact⟨m,by rw[gr (L _ _ z)];exact z⟩
 .rw[gr nL];exact I.free
 .rw[gr (nC x c q)];exact I.Bw x c q
 .obtain⟨e1,n,r⟩:=I.pin p h
  exact⟨e1,by rw[gr (hp p h)];exact n,r⟩
 .by_cases hb:b=e
  .subst hb
   rw[m8] at q;cases q;exact⟨⟨G,he,hc⟩,⟨G,he⟩,λh1 h2 z k=>let ⟨o,q1,q2⟩:=z;⟨o,k o q1,q2⟩⟩
  .rw[gr hb] at q
   exact(I.wk b o q).stay (λ_ _ _ z=>z) (λc z=>by rw[gr (L _ _ z)];exact z) λc xs z=>by rw[gr (L _ _ z)];exact z
section
variable{M:Model}{A:Around}{E:Y1}{s:Shared}
def aku{q2:Heap}{G:Env}{Z:List Env}{L e T:Addr}{q3 a0:Value}{Q:Shared->Prop}
 (z5:A.frames=some (G::Z)) (hf:G.frame=some L) (hl:s.heap.FunFrames q2 (G::Z)) (F:Trc s.heap e T q3 a0)
 (hQ:∀h' R,Trc h' e R q3 a0->(R=T\/s.heap.get? R=none)->h'.FunFrames (grd s.heap (Gb (G::Z)++[e,T])) (G::Z)->Lv (Gb (G::Z)) [e,T] s.heap h'->Q { s with heap:=h' }) :
 wpAny M A (noteFrame (.ref e) G) (λ_ q1=>wpAny M A (setFlight (.ref e) none) (λ_ qq=>Q qq) E q1) E s:=by
 obtain⟨oe,vs,oT,ts,he,hc,hd,h1,z0,hT,q5,h3⟩:=F.x;have q8:=Nv (S:=Gb (G::Z)++[e,T]) (λb hb=>kh _ hb) hl;refine wpAny_looks_onW z5 hf ⟨Pj _ _,Ph (by simp),q8,oe,vs,T,oT,ts,he,hc,hd,h1,Ph (by simp),z0,hT,q5,h3⟩ λh1 q4 z1=>?_
 refine wpAny_landsW (s:={ s with heap:=h1 }) q4 λh' zw zg=>?_
 have up:s.heap.UpToSlots h':=z1.trans zg;obtain⟨k1,k2,k3,z2,zk,R,z4,qv,zv,Wh,Yt,q7,z3,qk,Us,q0,q6⟩:=zw;refine hQ h' R ⟨z2,zk,z4,qv,zv,Wh,Yt,q7,qk,Us,q0,q6⟩ ?_ k3 (akj hl k1 up);rcases Tu z3 with q|q
 .rcases fj.mp q with q|q
  .exfalso
   obtain⟨o,ho,nf⟩:=Tv hl q;obtain⟨sl,e2⟩:=up R o ho nf;rw[Us] at e2;cases e2;exact nf qv q0
  .simp at q
   rcases q with q|q
   .exact absurd q qk
   .exact .inl q
 .exact .inr q
def aci{L:Heap}{l:List Env}{e T:Addr}{qq a0:Value}{Q:Unit->Shared->Prop}(hl:s.heap.FunFrames L l)(F:Trc s.heap e T qq a0)
 (hQ:∀h',Trc h' e T qq a0->Lv (Gb l) [e,T] s.heap h'->Q () { s with heap:=h' }):wpAny M A (setFlight (.ref e) none) Q E s:=by
 obtain⟨oe,vs,oT,ts,he,hc,hd,h1,R,hT,G,h3⟩:=F.x;have qk:3<ts.size:=(jg.mp h3).1
 refine wpAny_setFlight_none he hd h1 hT G qk ?_;have Z:∀b,b≠T->(s.heap.update T (Obj.mapFields (·.setIfInBounds 3 Value.none))).get? b=s.heap.get? b:=λb hb=>ur _ _ (j5 hb)
 refine hQ _ ⟨oe,vs,_,_,(Z e (j5 R)).trans he,hc,hd,h1,R,mj _ hT (Obj.isFreed_of_fields (qi G _)),qi G _,by simp[qk]⟩ ⟨λb o q _ n=>(Z b (λz=>n (by simp[z]))).trans q,λb o q m=>?_⟩;refine⟨o.slots,(Z b λz=>?_).trans q⟩;obtain⟨o',e',nf⟩:=Tv hl m;rw[z,hT] at e';cases e';exact nf ts G
end
section
variable{M:Model}{A:Around}{E:Y1}{h:Heap}{g:Array GenState}{d:Drawn}{t:Nat}{os:OsState}{e C B:Addr}{K:Fg}
noncomputable def Zy(K:Fg)(C B:Addr):Bool:=(PySem.W.subIn K (.ref C) (.ref B)==some true&&PySem.W.subIn K (.ref B) (.type "BaseException")==some true)&&(PySem.W.typeIn K (.ref B)==some (.type "type")&&(PySem.W.clsIn K B).isSome)
set_option tactic.hygienic true in
def Zz{G:Obj}{Q:Bool->Shared->Prop}(X:K.In h)(J:Zy K C B=true)(he:h.get? e=some G)(Y:G.cls=.ref C)(S:Q true ⟨h,g,d,t,os⟩):wpAny M A (excMatches (.ref e) (.ref B)) Q E ⟨h,g,d,t,os⟩:=by
 simp only[Zy,ao,v8] at J;obtain⟨⟨h1,y⟩,h3,R⟩:=J;have u:=Aa (M:=M) X h1;have f2:=Aa (M:=M) X y;have L:=PySem.W.looks_typeIn (M:=M) X h3;obtain⟨qv,Z⟩:=ig.mp R;have f4:PySem.W.Looks M h (isType (.ref B)) true:=by
  unfold PySem.W.clsIn at Z;split at Z
  .rename_i c' d' qq qk ho
   intro A' Q' E' s' k q;unfold isType loadHead;exact aa (wpAny_loadPart (k _ _ (X _ _ ho)) (aj q))
  .cases Z
 have f:=tc_notTuple;unfold excMatches isInstance
 repeat (first|with_reducible refine L.at ?_|with_reducible refine f4.at ?_|with_reducible refine f2.at ?_|with_reducible refine u.at ?_|(with_reducible refine qt he ?_;rw[Y])|wp_step)
 exact S
end
structure Roo(k:Nat)(A:PySem.Around):Prop where
 un:A.units+16*k+200<PySem.cLine
def Roo.mono{j k:Nat}(r:Roo k A)(h:j<=k):Roo j A:=⟨by have:=r.un;lia⟩
theorem Roo.in1{k:Nat}(r:Roo (k+1) A):Roo k A.in1:=⟨by have:=r.un;show A.units+1+16*k+200<_;lia⟩
def Roo.O9{k:Nat}(r:Roo k A):A.units<PySem.cLine:=by have:=r.un;lia
def Roo.hu{k:Nat}(r:Roo k A):A.units+1<PySem.cLine:=by have:=r.un;lia
open PySem PySem.Spec PySem.Calls PyProof.Rows
noncomputable def xb(X:Cx)(Z:Zp)(G:Y1):Cx:={ X with pn:=X.pn++Z,xe:=G }
noncomputable def xh(X:Cx)(Z:Zp)(e:Addr):Cx:={ X with A:=X.A.mark (some (.ref e)),calm:=false,pn:=X.pn++Z,xe:=λ_ _=>False }
section
variable{X:Cx}{pn pins:Zp}{σ:St}{H:Hp}{s:Shared}{xe:Y1}{e:Addr}
def Inv.toB(I:Inv X (pn++pins) σ H s):Inv (xb X pn xe) pins σ H s :=
 ⟨⟨I.ok.mod,I.ok.kind,I.ok.glob,I.ok.blt,I.ok.above,I.ok.inj,I.ok.has,I.ok.cab,I.ok.hd,I.ok.frames,I.ok.stk,I.ok.exf,I.ok.bs,I.ok.bsz,I.ok.Zg,I.ok.abx,I.ok.Ke,I.ok.frf⟩,I.os,I.bare,I.base,I.loc,I.cell,I.free,I.Bw,λp Z=>I.pin p (by rw[<- n6];exact Z),I.wk,I.len⟩
def Inv.ofB(I:Inv (xb X pn xe) pins σ H s):Inv X (pn++pins) σ H s :=
 ⟨⟨I.ok.mod,I.ok.kind,I.ok.glob,I.ok.blt,I.ok.above,I.ok.inj,I.ok.has,I.ok.cab,I.ok.hd,I.ok.frames,I.ok.stk,I.ok.exf,I.ok.bs,I.ok.bsz,I.ok.Zg,I.ok.abx,I.ok.Ke,I.ok.frf⟩,I.os,I.bare,I.base,I.loc,I.cell,I.free,I.Bw,λp Z=>I.pin p (by rw[<- n6] at Z;exact Z),I.wk,I.len⟩
def Inv.toH(I:Inv X (pn++pins) σ H s):Inv (xh X pn e) pins σ H s :=
 ⟨⟨I.ok.mod,I.ok.kind,I.ok.glob,I.ok.blt,I.ok.above,I.ok.inj,I.ok.has,I.ok.cab,λz=>(di z).elim,I.ok.frames,I.ok.stk,I.ok.exf,I.ok.bs,I.ok.bsz,I.ok.Zg,I.ok.abx,I.ok.Ke,I.ok.frf⟩,I.os,I.bare,I.base,I.loc,I.cell,I.free,I.Bw,λp Z=>I.pin p (by rw[<- n6];exact Z),I.wk,I.len⟩
def Inv.less(I:Inv X (pn++pins) σ H s):Inv X pn σ H s :=
 ⟨I.ok,I.os,I.bare,I.base,I.loc,I.cell,I.free,I.Bw,λp Z=>I.pin p (by
  rcases fj.mp Z with q|q
  .exact kh _ q
  .exact fu _ (kh _ q)),I.wk,I.len⟩
def Inv.ofH(ok:X.Ok)(I:Inv (xh X pn e) pins σ H s):Inv X (pn++pins) σ H s :=
 ⟨ok,I.os,I.bare,I.base,I.loc,I.cell,I.free,I.Bw,λp Z=>I.pin p (by rw[<- n6] at Z;exact Z),I.wk,I.len⟩
end
def BMain(mg:Zs)(h:Heap):Prop:=∃G Z,mg "__builtins__" = some (.ref G)/\G≠builtinsNs/\h.get? G=some Z/\Z.cls=.type "module"/\Z.dict=some builtinsNs/\Z.data=.plain
def asz(o:Obj)(q:Str):Prop:=∃Z t,o.data=.fields Z/\Z[1]?=some (.str q t)
def akv(P:Addr)(pos:Pos)(q:Str)(H:Hp):Prop:=∃Z,H P=some (.U3 Z)/\(Z=#[]\/∃G o,Z=#[rawInt pos.line,rawInt pos.col,.ref G]/\H G=some (.Hk o (.own 0))/\asz o q)
section
variable{X:Cx}{pins:Zp}{σ:St}{H:Hp}{s:Shared}
def Inv.bat(I:Inv X pins σ H s)(bm:BMain X.mg X.base)(hP:H P=some (.U3 ps)):s.heap.BuiltinsAt X.mg P:=by
 obtain⟨b,G,e1,e2,L,e4,e5,Z⟩:=bm;have g:=I.bs b G L;refine⟨b,G,e1,e2,λz=>?_,λz=>?_,g.1,e4,e5,Z⟩
 .obtain⟨o,es,ep,R,hd,_⟩:=I.mod.glob
  rw[<- z,L] at R;cases R;rw[hd] at Z;cases Z
 .rw[z,hP] at g;cases g.2
def Inv.gNs(I:Inv X pins σ H s):s.heap.Ns mainGlobals X.mg:=I.mod.glob.keeps I.bk
def Inv.gP(I:Inv X pins σ H s)(Z:H P=some (.U3 ps)):mainGlobals≠P:=λz=>by obtain⟨o,L,R,G,_⟩:=I.mod.glob;have:=(I.bs _ _ G).2;rw[z,Z] at this;cases this
def Inv.akx(I:Inv X pins σ H { s with heap:=h,toks:=Z })(L:s.heap.objs.size<=h.objs.size)(I0:Inv X bcr qq H0 s)(hd:∀v,o.data≠.cell v)(G:o.isFreed=false):Inv X ((h.objs.size,o)::pins) σ H { s with heap:=h.push o,toks:=Z }:=by
 have J:Inv X pins σ H { s with heap:=h.push o,toks:=Z }:=Inv.kept (s:={ s with heap:=h,toks:=Z }) I λb u e=>ak _ e
 refine⟨J.ok,J.os,J.bare,J.base,J.loc,J.cell,J.free,J.Bw,λp R=>?_,J.wk,J.len⟩;rcases fj.mp R with q|q
 .exact J.pin p (kh _ q)
 .rcases bx.mp q with rfl|q
  .refine⟨bw _ G,I.wk.fresh (bh _),λz=>?_,λz=>I0.ao4 (a:=h.objs.size) L z,hd⟩
   have:=I.lt;exact absurd this (by show ¬X.env.locals<h.objs.size;rw[<- show h.objs.size=X.env.locals from z];exact je _)
  .exact J.pin p (fu _ q)
end
set_option tactic.hygienic true in
def aky{X:Cx}{C:Zp}{σ:St}{H:Hp}{s:Shared}{c P:Addr}{pos:Pos}{Z:Arguments}{qq:Expr}{G:Scope}{clos:X9}{Q:Y1}{E:Y1}
 (I:Inv X C σ H s) (bm:BMain X.mg X.base) (q3:X.env.code=.ref c) (hC:PySem.W.codeHdIn X.K c P=true) (T:akv P pos (X.env.qual++"<lambda>") H) (q4:closureFor G X.env=pure clos) (q6:defaultsOf Z X.env=([],[]))
 (k:∀f Y y H' h' tk,Inv X ((f,PySem.W.kla_obj "<lambda>" (X.env.qual++"<lambda>") Z qq G clos ((X.mg "__name__").getD .none) Y y)::C) σ H' { s with heap:=h',toks:=tk }->akv P pos (X.env.qual++"<lambda>") H'->(∀b u,b≠P->H b=some u->H' b=some u) ->
  (∃o,H' Y=some (.Hk o (.own 0))/\asz o (X.env.qual++"<lambda>"))->(∀x c,X.env.cells.lookup x=some c->∀v,s.heap.IsCell c v->h'.IsCell c v)->(∀b o,s.heap.get? b=some o->∃o',h'.get? b=some o')->Q (.ref f) { s with heap:=h',toks:=tk }) :
 wpAny (model X.prog X.w) X.A (eval (.Lambda Z qq G pos) X.env) Q E s:=by
 obtain⟨ps,L,zv⟩:=T;have q2:s.heap.get? P=some (PySem.W.tabObj ps):=I.wk P _ L;have q5:=PySem.W.codeHd_of_K I.kIn hC;have q7:∀{h':Heap},Heap.ExtBut P s.heap h'->∀x c,X.env.cells.lookup x=some c->∀v,s.heap.IsCell c v->h'.IsCell c v:=λhx x c e v z=>by obtain⟨o,h1,h2⟩:=z;refine⟨o,hx _ _ (λz=>?_) h1,h2⟩;have:=I.Bw x c e;rw[z,L] at this;cases this
 refine PySem.W.kla_eval q6 ?_;rcases zv with rfl|⟨Y,o,rfl,Wh,hq⟩
 .refine PySem.W.kla_makeFunction (mg:=X.mg) (P:=P) (ps:=#[]) q4 I.ok.glob I.gNs q3 q5 q2 trivial rfl (I.gP L) (I.bat bm L) λY y h' tk hx qv Jf q8 q0=>?_
  obtain⟨c2,oc,vs,t,e2,qk,S,hv⟩:=q8;cases e2;have q1:H Y=none:=I.wk.fresh qv;have cP:Y≠P:=λz=>by rw[z,L] at q1;cases q1
  have R:∀b o,b≠P->s.heap.get? b=some o->h'.get? b=some o:=hx;have nP:∀b,H b=none->b≠P:=λb n z=>by rw[z,L] at n;cases n
  have hH:∀b u,b≠P->H b=some u->upd (upd H P (.U3 (#[]++#[rawInt pos.line,rawInt pos.col,.ref Y]))) Y (.Hk oc (.own 0)) b=some u:=λb u hb e=>by rw[gr (λz=>by rw[z,q1] at e;cases e),gr hb];exact e
  have ok:Jh X.prog X.w (upd (upd H P (.U3 (#[]++#[rawInt pos.line,rawInt pos.col,.ref Y]))) Y (.Hk oc (.own 0))) h':=λb u e=>by
   by_cases h1:b=Y
   .subst h1
    rw[m8] at e;cases e;exact⟨qk,oc,qk⟩
   .rw[gr h1] at e
    by_cases h2:b=P
    .subst h2
     rw[m8] at e;cases e;exact q0
    .rw[gr h2] at e
     refine(I.wk b u e).stay (λd v S q=>R d v (λz=>?_) q) (λd q=>hH d _ (λz=>?_) q) λd xs q=>hH d _ (λz=>?_) q
     .rcases S with S|S
      .exact h2 (S.symm.trans z)
      .rw[z,L] at S;cases S
     .rw[z,L] at q;cases q
     .rw[z,L] at q;cases q
  have J:Inv X C σ (upd (upd H P (.U3 (#[]++#[rawInt pos.line,rawInt pos.col,.ref Y]))) Y (.Hk oc (.own 0))) { s with heap:=h',toks:=tk }:=by
   refine I.step (g':=s.gens) (d':=s.drawn) (ch:=[]) (λ_ z=>nomatch z) (λb o _ _ _ e n=>R b o (nP b n) e) (λb o _ _ _ e n=>⟨o.slots,R b o (nP b n) e⟩) (λb o _ e n=>?_) (λb o _ e=>?_) (λb xs e=>hH b _ (λz=>?_) e) (λb o u e=>hH b _ (λz=>?_) e) (λb ps e=>?_) (λm hm=>?_) ok I.bare
   .rw[gr (gn (dm (au e) qv)),gr (nP b n)];exact n
   .by_cases hb:b=P
    .exact⟨_,hb▸q0⟩
    .exact⟨o,R b o hb e⟩
   .rw[z,L] at e;cases e
   .rw[z,L] at e;cases e
   .by_cases hb:b=P
    .subst hb
     rw[L] at e;cases e;exact⟨_,by rw[gr (j5 cP),m8]⟩
    .exact⟨#[],by rw[hH b _ hb e];simp⟩
   .obtain⟨o,es,ep,ho,r⟩:=hm
    exact⟨o,es,ep,R _ _ (nP _ I.free) ho,r⟩
  have sz:s.heap.objs.size<=h'.objs.size:=dq qv (zj Jf)
  refine k _ Y y _ _ tk (J.akx sz I (by intro v z;cases z) rfl) ⟨_,by rw[gr (j5 cP),m8],.inr ⟨Y,oc,by simp,by rw[m8],⟨vs,t,S,hv⟩⟩⟩ hH ⟨oc,m8,vs,t,S,hv⟩ (λx c e v z=>u0 (q7 hx x c e v z) λb u q=>ak _ q) λb o e=>?_
  by_cases hb:b=P
  .exact⟨_,ak _ (hb▸q0)⟩
  .exact⟨o,ak _ (R b o hb e)⟩
 .refine PySem.W.kla_makeFunctionHit (mg:=X.mg) (P:=P) (cv:=.ref Y) q4 I.ok.glob I.gNs q3 q5 q2 trivial (by simp[codeAmong,rawInt]) (I.bat bm L) λy h' tk hk zk=>?_
  have J:Inv X C σ H { s with heap:=h',toks:=tk }:=I.kept hk;obtain⟨vs,t,S,hv⟩:=hq;have qk:s.heap.get? Y=some o:=(I.wk _ _ Wh).1;exact k _ Y y H _ tk (J.akx zk I (by intro v z;cases z) rfl) ⟨_,L,.inr ⟨Y,o,rfl,Wh,⟨vs,t,S,hv⟩⟩⟩ (λb u _ e=>e) ⟨o,Wh,vs,t,S,hv⟩ (λx c e v z=>u0 (u0 z hk) λb u q=>ak _ q) λb o e=>⟨o,ak _ (hk b o e)⟩
noncomputable def akz(CX:Yn)(P:Program)(w:World)(K:Fg)(mg:Zs)(base:Heap)(N:Ya)(G:Str)(Z:Scope)(f:Addr)(cd:Value)(R:X9)(A:Around)(outer:List Env)(s:Shared)(H:Hp)(E:XK):Cx where
 prog:=P
 w:=w
 K:=K
 mg:=mg
 base:=base
 A:=A.deeper (PySem.W.envX G Z s.heap.objs.size f cd R)
 N:=N
 s₀:=s
 H₀:=H
 env:=PySem.W.envX G Z s.heap.objs.size f cd R
 outer:=outer
 stack:=PySem.W.envX G Z s.heap.objs.size f cd R::outer
 ex:=[]
 calm:=true
 fn:=λ_=>false
 pn:=[]
 xe:=λe s'=>wpAny (model P w) (A.deeper (PySem.W.envX G Z s.heap.objs.size f cd R)) (leaving (PySem.W.envX G Z s.heap.objs.size f cd R) e) (λ_ L=>CX outer H s E e L) (λe' L=>CX outer H s E e' L) s'
section
variable{X:Cx}{E:XK}
def ak0(qq:X.ex=[])(I:Inv X pins σ H1 s1)(l:Lv (Gb X.stack) S s1.heap h')(hS:∀b∈S,X.s₀.heap.get? b=none):Un X.fs [] X.H₀ H1 X.s₀.heap h':=by
 have G:Un X.fs [] X.H₀ H1 X.s₀.heap s1.heap:=by have:=I.base;rw[qq] at this;exact this
 have lo:∀b o,X.s₀.heap.get? b=some o->b∉S:=λb o e z=>by rw[hS b z] at e;cases e
 have nf:∀b o,X.s₀.heap.get? b=some o->b∉X.fs->b∉Gb X.stack:=λb o e Z z=>by
  rcases bx.mp (I.Ii b z) with q|q
  .have:=au e
   have h2:=I.ok.above;rw[q] at this;exact absurd (dm this h2) (je _)
  .exact Z q
 have any:∀b o,s1.heap.get? b=some o->b∉S->∃o',h'.get? b=some o'/\∃sl,o'={ o with slots:=sl }:=λb o e Z=>by
  by_cases q:b∈Gb X.stack
  .obtain⟨sl,L⟩:=l.slot b o e q
   exact⟨_,L,sl,rfl⟩
  .exact⟨o,l.keep b o e q Z,o.slots,rfl⟩
 refine⟨λb o e n Z R=>?_,λb o e n Z R=>?_,G.free,λb o e R=>?_,G.Ld,G.Mj,G.Nj⟩
 .exact l.keep b o (G.keep b o e n Z R) (nf b o e Z) (lo b o e)
 .obtain⟨sl,e1⟩:=G.slot b o e n Z R
  obtain⟨o',L,qk,rfl⟩:=any b _ e1 (lo b o e);exact⟨qk,L⟩
 .obtain⟨o1,e1⟩:=G.there b o e R
  obtain⟨o',L,_⟩:=any b o1 e1 (lo b o e);exact⟨o',L⟩
def ap1(G:X.ex=[])(Mv:X.stack=X.env::X.outer)(hf:X.env.frame=some X.env.locals)(qq:X.xe=λe s'=>wpAny (model X.prog X.w) X.A (leaving X.env e) (λ_ Z=>Yp X.prog X.w X.outer X.H₀ X.s₀ E e Z) (λe' Z=>Yp X.prog X.w X.outer X.H₀ X.s₀ E e' Z) s'):XOn X E:=λqv σ H1 s1 e T qk a0 I F _ q=>by
 have ne:∀b∈[e,T],X.s₀.heap.get? b=none:=λb R=>by
  simp at R;rcases R with rfl|rfl
  .exact F.ne
  .exact F.nT
 have nH:∀b∈[e,T],H1 b=none:=λb R=>by
  simp at R;rcases R with rfl|rfl
  .exact F.he
  .exact F.hT
 rw[qq];refine Zx (L:=X.env.locals) (by rw[<- Mv];exact I.ok.frames) hf (by rw[<- Mv];exact I.stack) F.t λh' T' t' Us _ l=>?_
 rw[<- Mv] at l;refine⟨e,T',qk,a0,H1,rfl,I.os,I.bare,ak0 G I l ne,Xo I.wk l I.K7 nH,⟨t',F.ne,?_,F.he,?_⟩,q⟩
 .rcases Us with rfl|hn
  .exact F.nT
  .exact Gd I G hn
 .rcases Us with rfl|hn
  .exact F.hT
  .exact Km I.wk hn
end
noncomputable abbrev noArgs:Arguments:={ posonlyargs:=[],args:=[],vararg:=none,kwonlyargs:=[],kw_defaults:=[],kwarg:=none,defaults:=[] }
structure Thk(h:Heap)(fa:Addr)(body:Expr)(scope:Scope)(cl:X9)(q:Str):Prop where
 x:∃nm pm c ctv,h.get? fa=some (PySem.W.kla_obj nm q noArgs body scope cl pm c ctv)/\h.CodeRec (.ref c) q
structure Tw(N:Ya)(scope:Scope):Prop where
 kind:scope.kind=.function
 co:scope.isCoroutine=false
 gen:scope.isGenerator=false
 nd:N.Nodup
 free:∀x,Vis scope x->x∈N/\scope.names.lookup x=some .free
 vis:∀x,x∈N->Vis scope x
 awx:∀x∈scope.names,x.2≠.cell
def ags{CX:Yn}{P:Program}{w:World}{K:Fg}{mg:Zs}{R:Heap}{A:Around}{L:List Env}{s:Shared}{H:Hp}{Q:VK}{E:XK}{k:Nat}{fa:Addr}{qk:Expr}{Z:Scope}{cl:X9}{q:Str}{N:Ya}{vs:List V}
 (e0:Q8 P w K mg R A L s H) (hr:xj (k+1) A) (T:Thk s.heap fa qk Z cl q) (S:Tw N Z) (q4:∀x y c,cl.lookup x=some c->cl.lookup y=some c->x=y) (Zj:∀x c,cl.lookup x=some c->(∃v,s.heap.IsCell c v)/\H c=none)
 (hl:vs.length=N.length) (hv:∀(i:Nat) x,N[i]?=some x->∃v u c,vs[i]?=some v/\RelV v u/\cl.lookup x=some c/\s.heap.IsCell c (some u))
 (Tp:∀qv,xj k (A.deeper (PySem.W.envX q Z s.heap.objs.size fa qv cl))->∃t,PE (akz CX P w K mg R N q Z fa qv cl A L s H E) qk t/\t (vs.map some) H Q) :
 codeAny (model P w) A (.call (.ref fa) ⟨[],[]⟩) (CR CX L P w H s Q E) s:=by
 obtain⟨nm,pm,c,q5,ho,Rx⟩:=T.x;have q3:s.heap.NoLimit:=e0.mod.nolimit.keeps λb o e=>(e0.bs b o e).1
 refine PySem.W.kla_callFunE hr.depth ho rfl S.co S.gen rfl Rx ?_;refine aj (wpAny_newFunctionEnv S.awx (λ_ z=>nomatch z) (λqq q2 q0=>⟨q3.fresh _ q0,?_⟩) S.kind);have G:∀b o,s.heap.get? b=some o->qq.get? b=some o:=λb o e=>q0.extBut b o (gn (au e)) (ak _ e)
 refine PySem.W.kla_codeExpr ?_;obtain⟨t,ht,hq⟩:=Tp (.ref c) (hr.deeper _);have q1:∀x,Vis Z x->∃(i:Nat)(v:V)(u:Value)(c:Addr),N[i]?=some x/\vs[i]?=some v/\RelV v u/\cl.lookup x=some c/\s.heap.IsCell c (some u):=λx hx=>by obtain⟨i,hi⟩:=jr.mp (S.free x hx).1;obtain⟨v,u,c,h1⟩:=hv i x hi;exact⟨i,v,u,c,hi,h1⟩
 have I:Inv (akz CX P w K mg R N q Z fa (.ref c) cl A L s H E) [] (vs.map some) H { s with heap:=qq,toks:=s.toks+0 }:=by
  refine⟨⟨e0.mod,S.kind,rfl,rfl,bh _,q4,λx hx=>?_,λx c z=>(di z).elim,λ_=>hr.hd,Around.frames_deeper e0.frames,.inr ⟨rfl,rfl⟩,(λb z=>nomatch(show b∈([]:X0) from z)),e0.bs,e0.bsz,(λb _ _ z=>nomatch(show b∈([]:X0) from z)),(λb z=>nomatch(show b∈([]:X0) from z)),e0.Ke,e0.frf⟩,rfl,e0.bare,Un.kept G,
   ⟨_,q2,λi x v h1 h2 h3=>?_⟩,λx c z=>?_,e0.wk.fresh (bh _),λx c z=>(Zj x c z).2,(λp hp=>nomatch(show p∈([]:Zp) from hp)),e0.wk.kept G,?_⟩
  .have hx:Vis Z x:=.inr hx
   obtain⟨i,v,u,c,_,_,_,h,_⟩:=q1 x hx;exact⟨c,h⟩
  .obtain⟨v',u,c,e1,r,e2,e3⟩:=hv i x h1
   rw[ir,e1] at h2;cases h2;exact⟨u,r,.inr ⟨.inr (S.free x h3).2,c,e2,u0 e3 G⟩⟩
  .obtain⟨v,z⟩:=(Zj x c z).1
   exact⟨v,u0 z G⟩
  .rw[dw];exact hl
 refine ik (ht [] _ _ H Q I hq) (λv s' z=>?_) λe s' z=>z
 obtain⟨x,H',J,r,z⟩:=z;exact⟨x,H',J.os,J.bare,J.base,J.wk,r,z⟩
section
variable{X:Cx}{pn pins:Zp}{σ:St}{H:Hp}{s:Shared}{xe:Y1}{e:Addr}
def Inv.as5{h':Heap}{m m':Zs}{t':Nat}(I:Inv X pins σ H s)(hN:X.N.Nodup)(hi:X.N[i]?=some n)(hm:s.heap.Ns X.env.locals m)(Vf:h'.Ns X.env.locals m')(he:∀x,x≠n->m' x=m x)(Z:Heap.SameBut X.env.locals s.heap h'):Inv X pins (σ.set i none) H { s with heap:=h',toks:=t' }:=by
 have G:∀b o,X.s₀.heap.get? b=some o->b≠X.env.locals:=λb o e=>gn (dm (au e) I.ok.above)
 refine⟨I.ok,I.os,I.bare,⟨λb o e n hb hx=>?_,λb o e n hb hx=>?_,I.base.free,λb o e hx=>?_,I.base.Ld,I.base.Mj,I.base.Nj⟩,⟨_,Vf,λj y v' e1 R e3=>?_⟩,λy c e=>?_,I.free,I.Bw,λp hp=>?_,λb ob e=>?_,by simpa using I.len⟩
 .exact(Z.2 b (G b o e)).trans (I.base.keep b o e n hb hx)
 .obtain⟨sl,e1⟩:=I.base.slot b o e n hb hx
  exact⟨sl,(Z.2 b (G b o e)).trans e1⟩
 .obtain⟨o',e1⟩:=I.base.there b o e hx
  exact⟨o',(Z.2 b (G b o e)).trans e1⟩
 .have hj:j≠i:=λz=>by
   subst z
   by_cases hl:j < σ.length
   .rw[yj hl] at R;cases R
   .rw[qb (by simpa using hl)] at R;cases R
  rw[uq (j5 hj)] at R;obtain⟨m0,qq,hl⟩:=I.loc;have em:m0=m:=(Heap.Ns.eq_nsMap qq).trans (Heap.Ns.eq_nsMap hm).symm;subst em;obtain⟨u,r,l⟩:=hl j y v' e1 R e3;refine⟨u,r,?_⟩;have yn:y≠n:=λz=>by subst z;obtain⟨l1,g1⟩:=aq.mp e1;obtain⟨l2,g2⟩:=aq.mp hi;exact hj ((vq hN).mp (g1.trans g2.symm))
  rcases l with⟨k1,k2⟩|⟨k,c,e,z⟩
  .exact .inl ⟨k1,by rw[he y yn];exact k2⟩
  .exact .inr ⟨k,c,e,Heap.IsCell.sameBut z Z (I.cne y c e)⟩
 .obtain⟨w',z⟩:=I.cell y c e
  exact⟨w',z.sameBut Z (I.cne y c e)⟩
 .obtain⟨e,n,G,nf,d⟩:=I.pin p hp
  exact⟨(Z.2 p.1 G).trans e,n,G,nf,d⟩
 .refine(I.wk b ob e).stay (λc w' L q=>(Z.2 c ?_).trans q) (λ_ q=>q) λ_ _ q=>q
  rintro rfl;rcases L with L|L
  .rw[<- L,I.free] at e;cases e
  .rw[I.free] at L;cases L
end
def as6(K:Fg)(B:Addr)(i:Nat)(tb:XK->TS)(th:TS):TS:=λD R H =>
 tb (λG _ Z=>∃C,G=.ref C/\Zy K C B=true/\∀e,Z e=none->th ⟨λL Z=>D.nx (L.set i none) Z,D.rt,λ_ _=>False,λ_ _=>False⟩ ((List.replicate R.length none).set i (some (.ref e))) (upd Z e (.ext (XAt e C)))) D R H
def ap2{X:Cx}{body:List Stmt}{b0:Stmt}{suite:List Stmt}{mx n:Str}{np hp pos:Pos}{B:Addr}{i:Nat}{tb:XK->TS}{th:TS}(q2:X.ex=[])(Mv:X.stack=X.env::X.outer/\X.env.frame=some X.env.locals)
 (hN:X.N.Nodup) (hi:X.N[i]?=some n) (hl:X.env.scope.names.lookup n=some .local) (hg:Gl X mx) (hm:X.mg mx=some (.ref B)) (K9:(mx==("__debug__" : Str))=false)
 (hb:∀pn xe E,XOn (xb X pn xe) E->Lq (xb X pn xe) body (tb E)) (hh:∀pn e,Lq (xh X pn e) (b0::suite) th) :
 PS X (.Try body [.ExceptHandler (some (.Name mx np)) (some n) (b0::suite) hp] [] [] pos) (as6 X.K B i tb th):=by
 intro Z s σ H D I h;refine wpAny_Try_except ?_;have I':∀xe,Inv (xb X Z xe) [] σ H s:=λxe=>Inv.toB (by rw[jm];exact I)
 refine ik (hb Z _ _ ?_ [] s σ H D (I' _) h) (λf s1 z=>?_) (λ_ _ z=>z)
 ·
  intro L q1 H1 s1 e T z3 a0 J F q3 q;obtain⟨C,rfl,q5,q⟩:=q;have J1:Inv X (Z++L) q1 H1 s1:=J.ofB;have R:∀p∈X.pn++(Z++L),p.1≠e/\p.1≠T:=λp m=>q3 p (by show p∈(X.pn++Z)++L;rw[n6];exact m)
  have fr:X.A.frames=some (X.env::X.outer):=by rw[<- Mv.1];exact J1.ok.frames
  have fl:s1.heap.FunFrames X.base (X.env::X.outer):=by rw[<- Mv.1];exact J1.stack
  have qq:∀{h:Heap}{T:Addr},Trc h e T (.ref C) a0->(∃o vs,h.get? e=some o/\o.data=.fields vs)/\∃o vs,h.get? T=some o/\o.data=.fields vs:=λt=>by obtain⟨oe,vs,oT,ts,he,hc,hd,h1,zg,hT,q4,h3⟩:=t.x;exact⟨⟨oe,vs,he,hd⟩,⟨oT,ts,hT,q4⟩⟩
  have n1:X.s₀.heap.get? e=none:=F.ne;have n2:X.s₀.heap.get? T=none:=F.nT;refine aku fr Mv.2 fl F.t λh1 T1 t1 q7 ff l=>?_
  have J2:Inv X (Z++L) q1 H1 { s1 with heap:=h1 }:=J1.lv (S:=[e,T]) (by rw[Mv.1];exact l) λb hb=>by
   simp at hb;rcases hb with rfl|rfl
   .exact⟨n1,F.he,(qq F.t).1,λp m=>(R p m).1⟩
   .exact⟨n2,F.hT,(qq F.t).2,λp m=>(R p m).2⟩
  have n3:X.s₀.heap.get? T1=none/\H1 T1=none/\∀p∈X.pn++(Z++L),p.1≠T1:=by
   rcases q7 with rfl|z
   .exact⟨n2,F.hT,λp m=>(R p m).2⟩
   .refine⟨?_,Km J1.wk z,λp m w=>?_⟩
    .cases q0:X.s₀.heap.get? T1 with
     |none=>rfl
     |some o =>
      by_cases hx:T1∈X.ex
      .rw[q2] at hx;cases hx
      .obtain⟨o',e'⟩:=J1.base.there T1 o q0 hx
       rw[z] at e';cases e'
    .have:=(J1.pin p m).1
     rw[w,z] at this;cases this
  refine wpAny_handleBy_cons (codeAny_handlers_test (Ij (X:=xh X (Z++L) e) (pins:=[]) (Inv.toH (by rw[jm];exact J2)) hg hm ?_ K9)) (by intro z;cases z);obtain⟨z4,z2,z0,zw,q6,zv,z1,-⟩:=t1.x;refine Zz (K:=X.K) (C:=C) J2.kIn q5 q6 zv.1 ?_;show codeAny _ _ _ _ _;refine codeAny_handlers_suite_as ?_;have q8:h1.FunFrames X.base (X.env::X.outer):=by rw[<- Mv.1];exact J2.stack
  refine aci (s:={ s1 with heap:=h1 }) q8 t1 λh2 t2 l2=>?_
  have J3:Inv X (Z++L) q1 H1 { s1 with heap:=h2 }:=Inv.lv (s:={ s1 with heap:=h1 }) J2 (S:=[e,T1]) (by rw[Mv.1];exact l2) λb hb=>by
   simp at hb;rcases hb with rfl|rfl
   .exact⟨n1,F.he,(qq t1).1,λp m=>(R p m).1⟩
   .exact⟨n3.1,n3.2.1,(qq t1).2,n3.2.2⟩
  obtain⟨oe,vs,oT,ts,he,hc,hd,-⟩:=t2.x;have J4:=J3.track he hc.1 hd n1 F.he λp m=>(R p m).1
  have J5:Inv X (Z++L) (List.replicate σ.length none) _ _:=J4.weak (by simp[I.len,J4.len]) λi v z=>by rw[xu] at z;split at z<;>cases z
  have J6:Inv (xh X (Z++L) e) [] (List.replicate σ.length none) _ _:=Inv.toH (e:=e) (pn:=Z++L) (pins:=[]) (by rw[jm];exact J5);refine Zi (X:=xh X (Z++L) e) (v:=.ref e) (u:=.ref e) J6 hN hi (.inl hl) rfl (λs' J7=>?_) (.inr hl);refine ik (hh (Z++L) e [] s' _ _ _ J7 (q e F.he)) (λf s2 z=>?_) (λ_ _ z=>False.elim z);cases f with
  |next =>
   obtain⟨zk,H2,J8,z⟩:=z;obtain⟨m2,Yk,_⟩:=J8.loc;show wpAny _ _ _ _ _ _;refine wpAny_nameGoes_keeps (m:=m2) hl Yk (by rw[J1.ok.kind];rfl) λh3 v3 qv qk=>?_
   have J9:=(J8.as5 (t':=s2.toks+1) hN hi Yk qv (λx hx=>az hx) qk).ofH J1.ok;rw[jm] at J9;exact⟨_,H2,J9.less,z⟩
  |brk=>obtain⟨_,_,_,z⟩:=z;exact z.elim
  |cont=>obtain⟨_,_,_,z⟩:=z;exact z.elim
  |ret u =>
   obtain⟨v,zk,H2,J8,r,z⟩:=z;obtain⟨m2,Yk,_⟩:=J8.loc;show wpAny _ _ _ _ _ _;refine wpAny_nameGoes_keeps (m:=m2) hl Yk (by rw[J1.ok.kind];rfl) λh3 v3 qv qk=>?_
   have J9:=(J8.as5 (t':=s2.toks+1) hN hi Yk qv (λx hx=>az hx) qk).ofH J1.ok;rw[jm] at J9;exact⟨v,_,H2,J9.less,r,z⟩
 .cases f with
  |next =>
   obtain⟨G,H',J,q⟩:=z;have J:=J.ofB;rw[jm] at J;exact Rk Z s1 G H' D J q
  |brk=>obtain⟨G,H',J,q⟩:=z;have J:=J.ofB;rw[jm] at J;exact⟨G,H',J,q⟩
  |cont=>obtain⟨G,H',J,q⟩:=z;have J:=J.ofB;rw[jm] at J;exact⟨G,H',J,q⟩
  |ret u=>obtain⟨v,G,H',J,r,q⟩:=z;have J:=J.ofB;rw[jm] at J;exact⟨v,G,H',J,r,q⟩
def Z0(Z:Addr)(H:Hp):Prop:=H Z=some (.U3 #[])/\∀b,b≠Z->H b=none\/∃o G,H b=some (.Hk o (.lst G))
def agt{K:Fg}(zv:BMain mg s₁.heap)(hP:s₁.heap.get? Pt=some (PySem.W.tabObj #[]))(q8:K.lookup Pt=none)(zg:PySem.W.codeHdIn K ct Pt=true)(KX:K.In s₁.heap)(q2:s₁.heap.Ns mainGlobals mg)(Z:s₁.heap.Ns builtinsNs mb)(zk:∀x:Str,x≠"__name__" -> mb x=bootBuiltins x)(zw:s₁.heap.NoLimit)(hg:s₁.gens=#[])(ha:s₁.heap.get? a=some { cls:=.type "list",data:=.seq vs.toArray })(hi:IntsAre vs ns)(hl:ns.length<=sizeLine)(hr:xj k callerA)(F:∀G:Heap,K.In G->G.Ns mainGlobals mg->BMain mg G->Cr P w K mg G CX k fa fd [x] sp)(q7:∀(s:Shared) (u:Value),BindsTo s fd ⟨[u],[]⟩ [(x,u)])(q5:∀H:Hp,Z0 Pt H->Ha K H a (ns.map V.int)->sp [.ref a] H (λv _=>v=.bl true) λ_ _ _=>False)(q6:∀H e R,CX [] H s₁ (λ_ _ _=>False) e R->False) :
 codeAny (model P w) callerA (.call (.ref fa) ⟨[.ref a],[]⟩) (λr R=>r=.ok (.ret (.bool true))/\OldK s₁.heap R.heap/\R.os=s₁.os/\AllBare R.gens) s₁:=by
 have rv:=V1 hi;have q0:=hi.length;have qk:∀H:Hp,Z0 Pt H->Ha K H a (ns.map V.int)->Jh P w H s₁.heap->(∀b,H b≠none->b=a\/b=Pt)->(H a≠none->K.lookup a=none) ->
  codeAny (model P w) callerA (.call (.ref fa) ⟨[.ref a],[]⟩) (λr R=>r=.ok (.ret (.bool true))/\OldK s₁.heap R.heap/\R.os=s₁.os/\AllBare R.gens) s₁:=by
  intro H hO hS wk hA hK;have Ip:∀{b:Addr}{o:Obj},s₁.heap.get? b=some o->H b=none->(U4 s₁.heap H).get? b=some o:=λe n=>ajm e n
  have noA:∀{b:Addr}{o:Obj}{es:Array DictEntry}{ep:Nat},s₁.heap.get? b=some o->o.data=.dict es ep->H b=none:=fun{b o es ep} e d=>by
   cases q:H b with
   |none=>rfl
   |some u =>
    rcases hA b (by rw[q];simp) with L|L
    .subst L
     rw[ha] at e;cases e;have d':Data.seq vs.toArray _=Data.dict es ep:=d;cases d'
    .subst L
     rw[hP] at e;cases e;cases d
  have qq:∀{b:Addr}{m:Zs},s₁.heap.Ns b m->(U4 s₁.heap H).Ns b m:=fun{b m} ⟨o,es,ep,e,d,r⟩=>⟨o,es,ep,Ip e (noA e d),d,r⟩
  have q4:K.In (U4 s₁.heap H):=λb o e=>Ip (KX b o e) (by
   cases q:H b with
   |none=>rfl
   |some u =>
    rcases hA b (by rw[q];simp) with L|L
    .subst L
     rw[hK (by rw[q];simp)] at e;cases e
    .subst L
     rw[q8] at e;cases e)
  have hB:BMain mg (U4 s₁.heap H):=by
   obtain⟨bm,ob,e1,e2,e3,e4,e5,e6⟩:=zv;refine⟨bm,ob,e1,e2,Ip e3 ?_,e4,e5,e6⟩;cases q:H bm with
   |none=>rfl
   |some u =>
    rcases hA bm (by rw[q];simp) with L|L
    .subst L
     rw[ha] at e3;cases e3;cases e6
    .subst L
     rw[hP] at e3;cases e3;cases e6
  have hM:Mod K mg (U4 s₁.heap H):=⟨q4,qq q2,⟨mb,qq Z,zk⟩,let ⟨mc,h1,h2⟩:=zw;⟨mc,qq h1,h2⟩⟩;have e0:Q8 P w K mg (U4 s₁.heap H) callerA [] s₁ H:=⟨rfl,hM,λb o e=>ao2 e,Nat.le_of_eq (af9 _ _),trivial,λb Z=>absurd (show b∈([]:X0) from Z) (by simp),wk,.of_eq hg⟩;refine m9 ((F _ q4 (qq q2) hB).run callerA [] s₁ H ⟨[.ref a],[]⟩ [.ref a] [.ref a] _ _ hr e0 (q7 s₁ (.ref a)) (.cons rfl .nil) (q5 H hO hS)) λr R h=>?_
  cases r with
  |error e=>exact(q6 H e R h).elim
  |ok fl =>
   cases fl with
   |next=>exact False.elim h|brk=>exact False.elim h|cont=>exact False.elim h
   |ret u =>
    obtain⟨v,H',os,qv,un,q1,r',q⟩:=h;have q':v=.bl true:=q;subst q';obtain rfl:u=Value.bool true:=r';have all:∀b o,s₁.heap.get? b=some o->asItWas s₁.heap R.heap b o:=λb o e=>by
     by_cases Z:b=Pt
     .subst Z
      rw[hP] at e;cases e;obtain⟨q3,z⟩:=un.Nj b #[] hO.1;exact .inr (.inl ⟨((PySem.W.codeHd_of_K KX zg).tab hP).isCodeTable,rfl,#[],q3,rfl,q1 b _ z⟩)
     .left
      cases q:H b with
      |none=>exact un.keep b o e q (by intro z;exact absurd (show b∈([]:X0) from z) (by simp)) (by simp)
      |some u =>
       rcases hO.2 b Z with z|⟨ob,xs,z⟩
       .rw[q] at z;cases z
       .have z2:=un.Mj b ob _ z
        obtain⟨e1,_⟩:=wk b _ z;obtain⟨e2,_⟩:=q1 b _ z2;rw[e] at e1;cases e1;exact e2
    exact⟨rfl,⟨all,λb o e=>by
     obtain⟨o',L⟩:=un.there b o e (by simp);exact⟨o',L⟩⟩,os,qv⟩
 have aP:a≠Pt:=λz=>by rw[z,hP] at ha;cases ha
 cases hk:K.lookup a with
 |some o =>
  have e:=KX a o hk;rw[ha] at e;cases e;refine qk (upd (λ_=>none) Pt (.U3 #[])) ⟨m8,λb Z=>.inl (gr Z)⟩ (.inr ⟨_,vs.toArray,_,hk,rfl,rfl,rfl,by rw[fc,q0];exact hl,by simpa using rv⟩) (λb u z=>?_) (λb z=>?_) λz=>absurd (gr aP) z
  .by_cases Z:b=Pt
   .subst Z;rw[m8] at z;cases z;exact hP
   .rw[gr Z] at z;cases z
  .by_cases Z:b=Pt
   .exact .inr Z
   .exact absurd (gr Z) z
 |none =>
  have ea:upd (upd (λ_=>none) Pt (.U3 #[])) a (.Hk { cls:=.type "list",data:=.seq vs.toArray } (.lst (ns.map V.int))) a=_:=m8;refine qk (upd (upd (λ_=>none) Pt (.U3 #[])) a (.Hk { cls:=.type "list",data:=.seq vs.toArray } (.lst (ns.map V.int)))) ⟨(gr (j5 aP)).trans m8,λb Z=>?_⟩ (.inl (.inr ⟨{ cls:=.type "list",data:=.seq vs.toArray },ea⟩)) (λb u z=>?_) (λb z=>?_) λ_=>hk
  .by_cases h1:b=a
   .subst h1;exact .inr ⟨_,_,ea⟩
   .exact .inl ((gr h1).trans (gr Z))
  .by_cases h1:b=a
   .subst h1
    rw[ea] at z;cases z;exact⟨ha,by rw[dw];exact hl,vs,_,rv,ha⟩
   .rw[gr h1] at z
    by_cases Z:b=Pt
    .subst Z;rw[m8] at z;cases z;exact hP
    .rw[gr Z] at z;cases z
  .by_cases h1:b=a
   .exact .inl h1
   .by_cases Z:b=Pt
    .exact .inr Z
    .exact absurd ((gr h1).trans (gr Z)) z
def ak2{l:PySem.W.OpenLaw}{K:Params->Fg}{CX:World->Yn}{sp:World->Sp}(hn:l.most=some n)(Yk:n<=sizeLine)(q0:d.params.defaults=[])(hr:xj k callerA)(hY:∀(w:World) (h:Heap),YP w h->(K w.params).In h/\h.get? Pt=some (PySem.W.tabObj #[]))(q1:∀w:World,(K w.params).lookup Pt=none)(q4:∀w:World,PySem.W.codeHdIn (K w.params) ct Pt=true)(F:∀(w:World) (mg:Zs) (fa:Addr) (h:Heap),(K w.params).In h->h.Ns mainGlobals mg->mg d.name=some (.ref fa) ->
 ∃fd:FuncData,(∀(s:Shared) (u:Value),BindsTo s fd ⟨[u],[]⟩ [(x,u)]) /\
  ∀Z:Heap,(K w.params).In Z->Z.Ns mainGlobals mg->BMain mg Z->Cr l.prog w (K w.params) mg Z (CX w) k fa fd [x] (sp w))(qk:∀(w:World) (H:Hp) (a:Addr) (ns:X1),ns.length<=n->Z0 Pt H->Ha (K w.params) H a (ns.map V.int)->sp w [.ref a] H (λv _=>v=.bl true) λ_ _ _=>False)(qv:∀(w:World) (H:Hp) (s:Shared) (e:Value) (s':Shared),CX w [] H s (λ_ _ _=>False) e s'->False) :
 PySem.W.WalkO q loose XP YP l.row.toRowW d [] (λf vs=>PySem.call f vs):=by
 refine Att.Zw hn q0 λw q5 qq mg mb fa o pm cd q6 a vs ns G Y ho hd Rx q2 q3 R L hg=>?_
 obtain⟨KX,hP⟩:=hY w _ Y;obtain⟨fd,hb,hF⟩:=F w mg fa _ KX G.T.g q2;exact agt G.T.bmain hP (q1 w) (q4 w) KX G.T.g G.T.b G.T.builtins G.T.nolimit hg q3 R (dq L Yk) hr hF hb (λH hO hS=>qk w H a ns L hO hS) λH e s'=>qv w H qq e s'
def Z1:fillsNumberSlot (.type "tuple") "mul" = pure false :=
 PySem.fillsNumberSlot_seq (id := "tuple.__mul__") (r:=some (.builtin "tuple.__rmul__")) vo.lookup (by decide+kernel) F.slot_tuple_rmul.lookup (by decide+kernel)
def ak3:seqRepeat? (.type "tuple")=pure (some (.builtin "tuple.__mul__")):=by unfold seqRepeat?;rw[PySem.seqSlot_of (T := "tuple") (name := "__mul__") (id := "tuple.__mul__") vo.lookup (by decide+kernel),PySem.seqSlot_of (T := "tuple") (name := "__rmul__") (id := "tuple.__rmul__") F.slot_tuple_rmul.lookup (by decide+kernel)];rfl
def awy(a:Int)(t:Tok)(l:Addr)(Z:Xs)(n:Nat)(L:Option Addr)(G:Array (Option Value)) :
 Meets (Builtin.«int.__rmul__» ⟨[.int a t,.ref l],[]⟩) (λ_ R s=>s.heap.get? l=some { cls:=.type "tuple",dict:=L,data:=.seq Z n,slots:=G }/\R (.ok (.ret Value.notImplemented)) s) :=
 .of_wp λprog w A R s h=>by obtain⟨hp,g,d,tk,os⟩:=s;obtain⟨hl,h⟩:=h;wp_walk;exact⟨_,rfl,h⟩
def a2c(l:Addr)(Z:Xs)(n:Nat)(L:Option Addr)(G:Array (Option Value))(u:Tok) :
 Meets (Builtin.«tuple.__mul__» ⟨[.ref l,.int 1 u],[]⟩) (λ_ R s=>s.heap.get? l=some { cls:=.type "tuple",dict:=L,data:=.seq Z n,slots:=G }/\R (.ok (.ret (.ref l))) s) :=
 .of_wp λprog w A R s h=>by obtain⟨hp,g,d,tk,os⟩:=s;obtain⟨hl,h⟩:=h;wp_walk;exact⟨_,rfl,h⟩
def a2d(l:Addr)(x:Value)(n:Nat)(G:Option Addr)(Z:Array (Option Value))(u:Tok) :
 Meets (Builtin.«tuple.__mul__» ⟨[.ref l,.int 0 u],[]⟩) (λ_ R s=>s.heap.get? l=some { cls:=.type "tuple",dict:=G,data:=.seq #[x] n,slots:=Z }/\R (.ok (.ret (.ref s.heap.objs.size))) { s with heap:=s.heap.push { cls:=.type "tuple",data:=.seq #[] } }) :=
 .of_wp λprog w A R s h=>by obtain⟨hp,g,d,tk,os⟩:=s;obtain⟨L,h⟩:=h;wp_walk;exact⟨_,rfl,h⟩
theorem Z2(x:Value):∀(k:Nat)(a:Xs),List.foldl (λG Z=>G++Z) a (List.replicate k #[x])=a++(List.replicate k x).toArray
 |0,a=>by simp|k+1,a=>by rw[List.replicate_succ,Ai,Z2 x k,Array.append_assoc,List.replicate_succ];congr 1;apply Array.ext';simp
theorem as7(r:RelV d v):∀k:Nat,Vals (List.replicate k d) (List.replicate k v)
 |0=>.nil|k+1=>.cons r (as7 r k)
def a2e(l:Addr)(x:Value)(k n:Nat)(dd:Option Addr)(Z:Array (Option Value))(u:Tok)(h2:2<=k)(hk:k<=100000) :
 Meets (Builtin.«tuple.__mul__» ⟨[.ref l,.int k u],[]⟩) (λ_ R s=>s.heap.get? l=some { cls:=.type "tuple",dict:=dd,data:=.seq #[x] n,slots:=Z }/\R (.ok (.ret (.ref s.heap.objs.size))) { s with heap:=s.heap.push { cls:=.type "tuple",data:=.seq (List.replicate k x).toArray } }) :=
 .of_wp λprog w A R s h=>by
  obtain⟨hp,g,d,tk,os⟩:=s;obtain⟨hl,h⟩:=h;have e:=Z2 x k #[];rw[Array.empty_append] at e;rw[<- e] at h;have a1:¬(decide ((k:Int) < -2 ^ 63)||decide ((k:Int) >= 2 ^ 63))=true:=by simp;omega
  have G:¬(Array.isEmpty #[x]||(k:Int)==1)=true:=by simp;omega
  have a3:¬(decide ((k:Int)<=0)||Array.isEmpty #[x])=true:=by simp;omega
  have L:¬((Array.size #[x]:Nat):Int)*(k:Int) > (2 ^ 63-1) / 8:=by simp;omega
  have a5:¬Builtin.Tuple.tupleTooMany (((Array.size #[x]:Nat):Int)*(k:Int))=true:=by simp[Builtin.Tuple.tupleTooMany,sizeLine];omega
  wp_walk;refine uc (dz a1) ?_
  wp_walk;refine uc (dz G) ?_
  wp_walk;refine uc (dz a3) ?_
  wp_walk;refine uc (dz L) ?_
  wp_walk;refine uc (dz a5) ?_
  wp_walk;refine uc (dz (Nat.not_lt.mpr (by show Array.size (List.foldl _ _ (List.replicate k _))<=_;rw[e,fc,v7];exact dq hk (by decide)))) ?_
  wp_walk
  exact⟨_,rfl,h⟩
def ap4:Bc X (binaryOp .Mult) (λx y H Q=>∃a v,∃k:Nat,x=.ref a/\y=.int k/\Hl X.K H a [v]/\k<=100000/\(k=1->Q (.ref a) H)/\∀p,H p=none->Q (.ref p) (upd H p (.tup (List.replicate k v)))):=by
 intro L s σ H x y v u Q I rx ry h;obtain⟨a,d,k,rfl,rfl,ha,hk,q1,q2⟩:=h;cases rx;obtain⟨t,rfl⟩:=ry;obtain⟨xf,r1,p1,_⟩:=I.tuple ha;cases r1 with
 |cons r1 r2 =>
  cases r2;obtain⟨⟨qq,dd,R,sl⟩,G,hc,n,hd⟩:=id p1;simp only at hc hd;subst hc hd;refine wpAny_binaryOp_repeat_ref (T := "tuple") (U := "int") (by decide) ⟨_,G,rfl⟩ (λs'=>typeIs_int s' _ _) Z1 F.fills_int_mul F.slot_int_rmul ak3 F.slot_int_index.lookup
   (call_meets F.slot_int_rmul (typeIs_int s _ _) F.entry_int_rmul (F.args_int_rmul_2 _ _) (awy _ _ a _ n dd sl) ⟨G,rfl,⟨_,G,rfl⟩,?_⟩)
  have go:∀Z:List Value,Z=List.replicate k _->Inv X L σ (upd H s.heap.objs.size (.tup (List.replicate k d))) { s with heap:=s.heap.push { cls:=.type "tuple",data:=.seq Z.toArray } }:=λZ e=>I.laid (t':=s.toks) (o:=.tup (List.replicate k d)) (λb ob q=>ak _ q) (bh _) ⟨by rw[v7];exact dq hk (by decide),_,by rw[e];exact as7 r1 k,Q6.new _ _⟩
  by_cases h1:k=1
  .subst h1
   exact call_meets vo ⟨_,G,rfl⟩ F.entry_tuple_mul (F.args_tuple_mul_2 _ _) (a2c a _ n dd sl t) ⟨G,.ref a,H,I,rfl,q1 rfl⟩
  by_cases h0:k=0
  .subst h0
   exact call_meets vo ⟨_,G,rfl⟩ F.entry_tuple_mul (F.args_tuple_mul_2 _ _) (a2d a _ n dd sl t) ⟨G,.ref s.heap.objs.size,_,go [] rfl,rfl,q2 _ (I.wk.fresh (bh _))⟩
  .exact call_meets vo ⟨_,G,rfl⟩ F.entry_tuple_mul (F.args_tuple_mul_2 _ _) (a2e a _ k n dd sl t (by omega) hk) ⟨G,.ref s.heap.objs.size,_,go _ rfl,rfl,q2 _ (I.wk.fresh (bh _))⟩
noncomputable def Bx(cells:X9):List (Str×NameKind)->List (Str×Addr)->List (Str×Addr)
 |[],cs=>cs|(n,k)::r,cs=>Bx cells r (if k==.free then(n,(cells.lookup n).getD 0)::cs else cs)
theorem Qp{G Z:Type}{f:G->Z->Sem (ForInStep Z)}{g:G->Z->Z}:∀{l:List G}(c:Z),(∀x∈l,∀c,f x c=pure (.yield (g x c)))->forIn l c f=pure (l.foldl (λc x=>g x c) c)
 |[],c,_=>rfl
 |x::l,c,h=>by
  rw[List.forIn_cons,h x bu,pure_bind];exact Qp (g x c) λy L=>h y (bc _ L)
theorem Qq(cells:X9):∀(l:Yf)(Z:X9),Bx cells l Z=l.foldl (λc x=>if x.2==.free then(x.1,(cells.lookup x.1).getD 0)::c else c) Z
 |[],_=>rfl|(n,k)::r,Z=>Qq cells r _
def Ko(h:∀y∈scope.names,y.2=.free->∃c,env.cells.lookup y.1=some c):closureFor scope env=pure (Bx env.cells scope.names []):=by
 simp only[closureFor];rw[Qp (g:=λx c=>if x.2==.free then(x.1,(env.cells.lookup x.1).getD 0)::c else c) [] (λx R c=>by
  obtain⟨n,k⟩:=x
  by_cases G:k=.free
  .subst G
   obtain⟨c',Z⟩:=h (n,.free) R rfl;have Z:env.cells.lookup n=some c':=Z;simp[cellOf,Z]
  .have L:(k==NameKind.free)=false:=by simpa using G
   simp[L]),Qq]
 rfl
theorem Tz(cells:X9):∀(l:Yf)(G:X9)(x:Str)(c:Addr),(∀y∈l,y.2=.free->∃c,cells.lookup y.1=some c)->(Bx cells l G).lookup x=some c ->
 G.lookup x=some c\/cells.lookup x=some c
 |[],G,x,c,_,h=>.inl h
 |(n,k)::r,G,x,c,hy,h=>by
  rcases Tz cells r _ x c (λz hz=>hy z (bc _ hz)) h with q|q
  .by_cases L:k=.free
   .subst L
    simp only[ye,j6,o8] at q;cases e:x==n with
    |true =>
     rw[e] at q;obtain⟨c',Z⟩:=hy (n,.free) bu rfl;have Z:cells.lookup n=some c':=Z;simp only[Z,Option.getD_some,Option.some.injEq] at q;subst q;rw[eq_of_beq e];exact .inr Z
    |false=>rw[e] at q;exact .inl q
   .have R:(k==NameKind.free)=false:=by simpa using L
    simp only[R,dg,jk] at q;exact .inl q
  .exact .inr q
theorem T3(cells:X9):∀(l:Yf)(Z:X9)(x:Str),(∃c,Z.lookup x=some c)->∃c,(Bx cells l Z).lookup x=some c
 |[],Z,x,h=>h
 |(n,k)::r,Z,x,h=>by
  refine T3 cells r _ x ?_
  by_cases G:(k==NameKind.free)=true
  .rw[bf G,o8]
   cases e:x==n with
   |true=>exact⟨_,rfl⟩|false=>exact h
  .rw[az G];exact h
theorem Ge(cells:X9):∀(l:Yf)(Z:X9)(x:Str),(x,NameKind.free)∈l->∃c,(Bx cells l Z).lookup x=some c
 |(n,k)::r,Z,x,h=>by
  rcases bx.mp h with q|q
  .obtain⟨rfl,rfl⟩:=Prod.mk.inj q
   refine T3 cells r _ x ⟨(cells.lookup x).getD 0,?_⟩;rw[bf (by simp),o8,ye]
  .exact Ge cells r _ x q
theorem Kp{Z:Env}:∀{G:Yf}{x:Str},
 (G.map λ(y:Str×NameKind)=>if(y.2==NameKind.free&&Z.scope.kind==.function&&Z.kindOf y.1==some .cell) then(y.1,NameKind.cell) else(y.1,y.2)).lookup x
  = (G.lookup x).map λk=>if(k==NameKind.free&&Z.scope.kind==.function&&Z.kindOf x==some .cell) then NameKind.cell else k
 |[],_=>rfl
 |(n,k)::r,x=>by
  have R:=@Kp Z r x;rw[du];cases hx:x==n with
  |true =>
   have e:=eq_of_beq hx;subst e;clear hx
   by_cases L:(k==NameKind.free&&Z.scope.kind==.function&&Z.kindOf x==some .cell)=true
   .simp only[L,j6,o8,ye,uz]
   .have hb:(k==NameKind.free&&Z.scope.kind==.function&&Z.kindOf x==some .cell)=false:=by simpa using L
    simp only[hb,dg,jk,o8,ye,uz]
  |false =>
   by_cases L:(k==NameKind.free&&Z.scope.kind==.function&&Z.kindOf n==some .cell)=true
   .simp only[L,j6,o8,hx];exact R
   .simp only[L,o8,hx];simpa[o8,hx] using R
theorem mem_of_lookup{Z G:Type}[BEq Z][LawfulBEq Z]:∀{l:List (Z×G)}{x:Z}{y:G},l.lookup x=some y->(x,y)∈l
 |(a,b)::r,x,y,h=>by
  rw[o8] at h;cases e:x==a with
  |true=>rw[e] at h;cases h;rw[eq_of_beq e];exact bu|false=>rw[e] at h;exact bc _ (mem_of_lookup h)
def Cq{Z:Type}{v:Z}{r:List (Str×Z)}:((k,v)::r).lookup x=if x=k then some v else r.lookup x:=by
 rw[o8]
 by_cases h:x=k
 .rw[bf h,show(x==k)=true from v8.mpr h]
 .rw[az h,show(x==k)=false from rz.mpr h]
set_option tactic.hygienic true in
theorem aeo:∀(l:Yf)(n:Nat)(Z:X9)(x:Str)(c:Addr),(cellsFrom n l Z).lookup x=some c->((x,NameKind.cell)∈l/\n<=c)\/Z.lookup x=some c
 |[],_,_,_,_,h=>.inr h
 |(k,kd)::r,n,Z,x,c,h=>by
  unfold cellsFrom at h;split at h
  .rename_i e
   rcases aeo r _ _ x c h with⟨q,l⟩|q
   .exact .inl ⟨bc _ q,by omega⟩
   .rw[Cq] at q
    split at q
    .rename_i z
     cases q;exact .inl ⟨by rw[z,eq_of_beq e];exact bu,bh _⟩
    .exact .inr q
  .rcases aeo r _ _ x c h with⟨q,l⟩|q
   .exact .inl ⟨bc _ q,l⟩
   .exact .inr q
set_option tactic.hygienic true in
theorem Xp:∀(l:Yf)(n:Nat)(Z:X9)(x:Str),((x,NameKind.cell)∈l\/∃c,Z.lookup x=some c)->∃c,(cellsFrom n l Z).lookup x=some c
 |[],_,_,_,h=>by rcases h with q|q;cases q;exact q
 |(k,kd)::r,n,Z,x,h=>by
  unfold cellsFrom;split
  .refine Xp r _ _ x ?_
   by_cases z:x=k
   .exact .inr ⟨n,by rw[Cq,bf z]⟩
   .rcases h with q|q
    .rcases bx.mp q with q|q
     .cases q;exact absurd rfl z
     .exact .inl q
    .exact .inr (by rw[Cq,az z];exact q)
  .rename_i e
   refine Xp r _ _ x ?_;rcases h with q|q
   .rcases bx.mp q with q|q
    .cases q;exact absurd rfl e
    .exact .inl q
   .exact .inr q
set_option tactic.hygienic true in
theorem ak4:∀(l:Yf)(n:Nat)(Z:X9)(x:Str),(x,NameKind.cell)∉l->(cellsFrom n l Z).lookup x=Z.lookup x
 |[],_,_,_,_=>rfl
 |(k,kd)::r,n,Z,x,h=>by
  have Y:(x,NameKind.cell)∉r:=λq=>h (bc _ q)
  unfold cellsFrom;split
  .rename_i e
   rw[ak4 r _ _ x Y,Cq,az];intro z;exact h (by rw[z,eq_of_beq e];exact bu)
  .exact ak4 r _ _ x Y
set_option tactic.hygienic true in
theorem acj:∀(l:Yf)(n:Nat)(Z:X9),(∀x c,Z.lookup x=some c->c<n)->(∀x y c,Z.lookup x=some c->Z.lookup y=some c->x=y)->∀x y c,(cellsFrom n l Z).lookup x=some c->(cellsFrom n l Z).lookup y=some c->x=y
 |[],_,_,_,h=>h
 |(k,kd)::r,n,Z,lt,h=>by
  unfold cellsFrom;split
  .refine acj r _ _ (λx c q=>?_) (λx y c G Y=>?_)
   .rw[Cq] at q
    split at q
    .cases q;exact ql n
    .exact ph (lt x c q)
   .rw[Cq] at G Y
    split at G<;>split at Y
    .rename_i a b;rw[a,b]
    .cases G;exact absurd (lt y _ Y) (je _)
    .cases Y;exact absurd (lt x _ G) (je _)
    .exact h x y c G Y
  .exact acj r _ _ lt h
set_option tactic.hygienic true in
theorem Xq:∀(l:Yf)(h:Heap)(Z:X9),(∀x c,Z.lookup x=some c->∃v,h.IsCell c v)->∀x c,(cellsFrom h.objs.size l Z).lookup x=some c->∃v,(pushCells h l).IsCell c v
 |[],_,_,k,x,c,q=>k x c q
 |(n,kd)::r,h,Z,k,x,c,q=>by
  unfold cellsFrom at q;unfold pushCells;split at q
  .rename_i e
   rw[bf e];have sz:(h.push { cls:=.type "cell",data:=.cell none }).objs.size=h.objs.size+1:=kj _ _;rw[<- sz] at q;refine Xq r _ _ (λx c q=>?_) x c q;rw[Cq] at q;split at q
   .cases q;exact⟨none,_,bw _ rfl,rfl⟩
   .obtain⟨v,Y⟩:=k x c q
    exact⟨v,Y.keeps λb o e=>ak _ e⟩
  .rename_i e
   rw[az e];exact Xq r _ _ k x c q
set_option tactic.hygienic true in
theorem T5(cells:X9):∀(l:Yf)(Z:X9)(x:Str)(c:Addr),(Bx cells l Z).lookup x=some c->(x,NameKind.free)∈l\/Z.lookup x=some c
 |[],_,_,_,h=>.inr h
 |(k,kd)::r,Z,x,c,h=>by
  unfold Bx at h;rcases T5 cells r _ x c h with q|q
  .exact .inl (bc _ q)
  .split at q
   .rename_i e
    rw[Cq] at q;split at q
    .rename_i z
     exact .inl (by rw[z,eq_of_beq e];exact bu)
    .exact .inr q
   .exact .inr q
def agu(h:Q { scope:=scope,locals:=s.heap.objs.size,globals:=globals,cells:=cellsFrom (s.heap.objs.size+1) scope.names cl,qual:=qual,func:=none,code:=around.code,frame:=around.frame,builtins:=around.builtins } { s with heap:=pushCells (s.heap.push { cls:=.type "dict",data:=.dict #[] }) scope.names }) :
 wpAny M A (newFunctionEnv scope globals cl [] qual none .none (some around)) Q E s:=by
 simp only[newFunctionEnv,Option.isSome_some,j6];refine aa (wpAny_alloc ?_);refine aa (wpAny_layCells _ (λG Z cells=>by cases hkc:Z==NameKind.cell<;>simp[hkc]) _ _ _ _ ?_);rw[show({ s with heap:=s.heap.push { cls:=.type "dict",data:=.dict #[] } }:Shared).heap.objs.size=s.heap.objs.size+1 from kj ..];exact aa (aj (aj h))
def Jl(X:Cx)(N:Ya)(Z:Scope)(C:Addr)(G:X0)(s:Shared)(H:Hp):Cx where
 prog:=X.prog
 w:=X.w
 K:=X.K
 mg:=X.mg
 base:=X.base
 A:=X.A
 N:=N
 s₀:=s
 H₀:=H
 env:=compEnvC Z (cellsFrom (C+1) Z.names (Bx X.env.cells Z.names [])) C X.env
 outer:=X.stack
 stack:=X.stack
 ex:=G
 fn:=λx=>Z.names.lookup x==some .cell
 calm:=X.calm
 pn:=[]
 xe:=λ_ _=>False
structure Dk(X:Cx)(N:Ya)(scope:Scope):Prop where
 kind:scope.kind=.function
 locs:∀y∈scope.names,y.2=.local->scope.names.lookup y.1=some .local
 frees:∀y∈scope.names,y.2=.free->X.env.kindOf y.1=some .cell\/X.env.kindOf y.1=some .free
 uniq:∀x k,(x,k)∈scope.names->scope.names.lookup x=some k
 long:X.N.length<=N.length
 vis:∀i x,i<X.N.length->N[i]?=some x->Vis (relabel scope X.env) x->X.N[i]?=some x/\scope.names.lookup x=some .free
theorem Dk.cells(B:Dk X N scope)(ok:X.Ok):∀y∈scope.names,y.2=.free->∃c,X.env.cells.lookup y.1=some c:=λy Z G=>ok.has y.1 (B.frees y Z G)
def Dk.clos(B:Dk X N scope)(ok:X.Ok):closureFor scope X.env=pure (Bx X.env.cells scope.names []):=Ko (B.cells ok)
def Dk.inCells(B:Dk X N scope)(ok:X.Ok)(h:(Bx X.env.cells scope.names []).lookup x=some c):X.env.cells.lookup x=some c:=by
 rcases Tz _ _ _ _ _ (B.cells ok) h with q|q
 .simp at q
 .exact q
def Z3{X:Cx}(x:Str):(compEnvC scope cl C X.env).kindOf x=(scope.names.lookup x).map λk=>if(k==NameKind.free&&X.env.scope.kind==.function&&X.env.kindOf x==some .cell) then NameKind.cell else k:=by show(relabel scope X.env).names.lookup x=_;exact Kp
def Dk.ack(B:Dk X N scope)(ok:X.Ok)(h:(cellsFrom (C+1) scope.names (Bx X.env.cells scope.names [])).lookup x=some c):(scope.names.lookup x=some .cell/\C+1<=c)\/X.env.cells.lookup x=some c:=by
 rcases aeo _ _ _ _ _ h with⟨q,l⟩|q
 .exact .inl ⟨B.uniq _ _ q,l⟩
 .exact .inr (B.inCells ok q)
def agv(B:Dk X N scope)(I:Inv X pins σ H s)(hf:∀b∈fp,Q7 X pins H b)(q3:∀b∈fp,∃o,s.heap.get? b=some o)(q0:Z.Ns (s.heap.objs.size+1) λ_=>none)(hk:∀b o,s.heap.get? b=some o->Z.get? b=some o)(Ir:Z.get? s.heap.objs.size=some { cls:=.type "list",data:=.seq ([]:Zl).toArray })(q5:∀x c,(cellsFrom (s.heap.objs.size+1+1) scope.names (Bx X.env.cells scope.names [])).lookup x=some c->∃v,Z.IsCell c v) :
 Inv (Jl X N scope (s.heap.objs.size+1) fp s H) [] (σ++List.replicate (N.length-X.N.length) none) (upd H s.heap.objs.size (.lst [])) { s with heap:=Z,toks:=t }:=by
 have ok:=I.ok;have hD:H s.heap.objs.size=none:=I.wk.fresh (bh _);have hC:H (s.heap.objs.size+1)=none:=I.wk.fresh (t7 _);have qv:s.heap.objs.size+1≠s.heap.objs.size:=Nat.succ_ne_self _;have lt:∀b∈fp,b<s.heap.objs.size:=λb hb=>by obtain⟨o,e⟩:=q3 b hb;exact au e
 have qk:∀x c,X.env.cells.lookup x=some c->c<s.heap.objs.size:=λx c e=>by obtain⟨v,o,ho,_⟩:=I.cell x c e;exact au ho
 refine⟨⟨ok.mod,B.kind,ok.glob,ok.blt,t7 _,?_,?_,?_,ok.hd,ok.frames,.inl rfl,?_,λb o e=>I.bs b o e,dq ok.bsz I.sz,?_,?_,I.stack,I.K7⟩,rfl,I.bare,?_,?_,?_,?_,?_,?_,?_,?_⟩
 .intro x y c L hy
  refine acj scope.names (s.heap.objs.size+1+1) (Bx X.env.cells scope.names []) (λx c q=>?_) (λx y c q1 q2=>ok.inj x y c (B.inCells ok q1) (B.inCells ok q2)) x y c L hy;exact ph (ph (qk x c (B.inCells ok q)))
 .intro x L
  rw[show(Jl X N scope (s.heap.objs.size+1) fp s H).env.kindOf x=_ from Z3 x] at L;cases e:scope.names.lookup x with
  |none=>rw[e] at L;rcases L with q|q<;>simp at q
  |some k =>
   have Lp:k=.free\/k=.cell:=by
    rw[e] at L;cases k with
    |free=>exact .inl rfl|cell=>exact .inr rfl|«local»=>rcases L with q|q<;>simp at q
    |globalExplicit=>rcases L with q|q<;>simp at q
    |globalImplicit=>rcases L with q|q<;>simp at q
   rcases Lp with rfl|rfl
   .exact Xp _ _ _ _ (.inr (Ge _ _ _ _ (mem_of_lookup e)))
   .exact Xp _ _ _ _ (.inl (mem_of_lookup e))
 .intro x c h R
  have h:scope.names.lookup x=some .cell:=eq_of_beq h;show s.heap.objs.size<=c
  rcases aeo _ _ _ _ _ R with⟨_,l⟩|q
  .exact dq (zq _ 2) l
  .rcases T5 _ _ _ _ _ q with z|z
   .rw[B.uniq _ _ z] at h;cases h
   .cases z
 .intro b hb
  refine⟨λe=>?_,λx c R e=>?_⟩
  .have q:=lt b hb
   have e:b=s.heap.objs.size+1:=e;rw[e] at q;exact absurd q (Nat.not_lt.mpr (t7 _))
  .obtain⟨_,_,_,_,f4,_⟩:=hf b hb
   rcases B.ack ok R with⟨_,l⟩|R
   .have q:=lt b hb
    rw[<- e] at q;exact absurd (dm (ph (ph q)) l) (je _)
   .exact f4 x c R e
 .intro b o e hb
  obtain⟨_,_,_,f3,_⟩:=hf b hb;rcases f3 with q|q
  .exact ok.Zg b o e q
  .exact je _ (dm (au e) (dq ok.bsz q))
 .intro b hb q
  obtain⟨_,f1,f2,_⟩:=hf b hb;rcases bx.mp (I.Ii b q) with z|z
  .exact f1 z
  .exact f2 z
 .exact Un.laid hk (bh _) hD
 .refine⟨_,q0,λi x v hN G hv=>?_⟩
  have hi:i<X.N.length:=by
   rcases Nat.lt_or_ge i σ.length with q|q
   .rw[I.len] at q;exact q
   .rw[qz q] at G
    rw[xu] at G;split at G<;>simp at G
  rw[jh (by rw[I.len];exact hi)] at G;obtain⟨L,Lp⟩:=B.vis i x hi hN hv;obtain⟨m,_,hl⟩:=I.loc;have qq:=B.frees _ (mem_of_lookup Lp) rfl;have q4:Vis X.env.scope x:=by
   rcases qq with q|q
   .exact .inr (.inl q)
   .exact .inr (.inr q)
  obtain⟨u,ru,lu⟩:=hl i x v L G q4;refine⟨u,ru,.inr ⟨?_,?_⟩⟩
  .rw[show(Jl X N scope (s.heap.objs.size+1) fp s H).env.kindOf x=_ from Z3 x,Lp]
   simp only[uz];split
   .exact .inl rfl
   .exact .inr rfl
  .rcases lu with⟨q,_⟩|⟨_,c,R,ic⟩
   .rcases qq with z|z<;>rw[q] at z<;>cases z
   .obtain⟨c',Wh⟩:=Ge X.env.cells scope.names [] x (mem_of_lookup Lp)
    have:=B.inCells ok Wh;rw[R] at this;cases this;refine⟨c,?_,ic.keeps hk⟩;show(cellsFrom (s.heap.objs.size+1+1) scope.names (Bx X.env.cells scope.names [])).lookup x=some c;rw[ak4 _ _ _ _ λz=>by rw[B.uniq _ _ z] at Lp;cases Lp];exact Wh
 .exact q5
 .show upd H s.heap.objs.size (.lst []) (s.heap.objs.size+1)=none
  rw[gr qv];exact hC
 .intro x c R
  rcases B.ack ok R with⟨_,l⟩|Wh
  .have l:s.heap.objs.size+1+1<=c:=l
   rw[gr (yg (dm (ph (ql _)) l))];exact I.wk.fresh (dq (zq _ 2) l)
  .rw[gr (gn (qk x c Wh))]
   exact I.Bw x c Wh
 .intro p hp;simp[Jl] at hp
 .exact Jh.laid I.wk hk (bh _) ⟨j4 _,[],0,.nil,Ir⟩
 .show(σ++List.replicate (N.length-X.N.length) none).length=N.length
  rw[o4,v7,I.len];have:=B.long;omega
def Kq(I:Nat->Shared->Prop)(q4:∀n s,I n s->wpAny (model prog w) A (pyNext it) (λr qq=>match r with
 |none=>R (.ok .next) qq
 | some v=>wpAny (model prog w) A (letOwnedTupleGo target it v) (λ_ G=>wpAny (model prog w) A (assign target env v) (λ_ q1 =>
  wpAny (model prog w) A (forIn ifs true λc r=>if r=true then do let ok <- isTrue c env (eval c env);pure (ForInStep.yield ok) else pure (ForInStep.yield r)) (λok Z =>
   if ok=true then wpAny (model prog w) A (eval elt env) (λx q2 =>
    wpAny (model prog w) A (call (.builtin "list.append") [acc,x]) (λ_ qk=>∃m,m<n/\I m qk) (λ_ _=>False) q2) (λ_ _=>False) Z
   else ∃m,m<n/\I m Z) (λ_ _=>False) q1) (λ_ _=>False) G) (λ_ _=>False) qq) (λ_ _=>False) s)(n:Nat)(h:I n s) :
 codeAny (model prog w) A (.compLoop (.ListComp elt [⟨target,iter,ifs,0⟩] scope pos) 0 it acc env) R s:=by
 have nv:∀{α:Type}{t:Sem α}{Q:α->Shared->Prop}{E:Y1}{s:Shared},wpAny (model prog w) A t Q (λ_ _=>False) s->wpAny (model prog w) A t Q E s:=λh=>ik h (λ_ _ q=>q) λ_ _ f=>f.elim
 refine codeAny_loop rfl I (λn s hI=>?_) n h;show wpAny _ A ((compTurn (.ListComp elt [⟨target,iter,ifs,0⟩] scope pos) 0 it acc env).onRaise (λx=>do noteFrame x env;theTreesLotGoes x)) _ _ s;refine wpAny_noted ?_;rw[compTurn_list];refine aa (wpAny_standAt (aa (ik (q4 n s hI) (λr qq q0=>?_) λ_ _ L=>L.elim)));cases r with
 |none=>exact aj q0
 |some v =>
  refine aa (ik q0 (λ_ G q3=>?_) λ_ _ L=>L.elim);refine aa (ik q3 (λ_ q1 q5=>aa (ik q5 (λok Z qv=>?_) λ_ _ L=>L.elim)) λ_ _ L=>L.elim);cases ok with
  |false=>exact aj ⟨rfl,qv⟩
  |true =>
   exact aa (aa (ik qv (λx q2 q6=>aa (ik q6 (λ_ qk q7=>aj (aj ⟨rfl,q7⟩)) λ_ _ L=>L.elim)) λ_ _ L=>L.elim))
def Z4(k:Nat)(wi:TI)(g:TG)(tc:TT)(te:TE):TE:=λL H Q=>wi L H λJ H1=>∀D,H1 D=none->∃W:Nat->Nat->Hp->Prop,(∃m,W 0 m (upd H1 D (.lst [])))/\∀i m H,W i m H ->
 (J.stop i H/\Q (.ref D) H)\/(J.go i H/\∀x H',J.yld i H x H'->g x (L++List.replicate k none) H' λZ H2=>Z.length=(L++List.replicate k none).length /\
  (∀(j:Nat) v,(L++List.replicate k none)[j]?=some (some v)->Z[j]?=some (some v))/\tc Z H2 λb H3 =>
   if b=true then te Z H3 λv H4=>∃R G,H4 D=some (.lst R)/\R.length<sizeLine/\G<m/\W (i+1) G (upd H4 D (.lst (R++[v]))) else ∃G,G<m/\W (i+1) G H3)
def PTs(X:Cx)(Z:Y3)(G:TT):Prop:=(Z=[]/\G=λ_ H Q=>Q true H)\/∃c,Z=[c]/\PT X c G
def V4(I:Inv X pins σ H s)(Z:∀b∈fp,Q7 X pins H b)(J:Inv (Jl X N scope (s.heap.objs.size+1) fp s H) [] L G s3):Inv X pins σ G s3/\∃m,s3.heap.Ns (s.heap.objs.size+1) m:=by
 refine⟨I.call' J.os J.base J.wk J.bare λb R=>?_,?_⟩
 .obtain⟨_,f1,_,f3,f4,f5⟩:=Z b R
  exact⟨f3,f1,f4,f5⟩
 .obtain⟨m,hn,_⟩:=J.loc
  exact⟨m,hn⟩
def agw(I:Inv X pins σ H s)(I3:Inv X pins σ G s3)(hC:G (s.heap.objs.size+1)=none)(hs:Heap.SameBut (s.heap.objs.size+1) s3.heap h'):Inv X pins σ G { s3 with heap:=h' }:=by
 have big:∀b o,s.heap.get? b=some o->b≠s.heap.objs.size+1:=λb o e z=>by have:=au e;rw[z] at this;exact absurd this (Nat.not_lt.mpr (t7 _))
 refine I3.turned (t':=s3.toks) (λb o L e=>hs.extBut b o L e) hC ?_ (.inr (dq I.sz (t7 _))) ?_ ?_
 .intro e
  obtain⟨m,⟨o,_,_,Z,_⟩,_⟩:=I.loc;exact big _ o Z e.symm
 .intro x c R
  obtain⟨v,o,Z,_⟩:=I.cell x c R;exact big c o Z
 .intro p hp
  exact big p.1 p.2 (I.pin p hp).1
def T8{RR:Value->Addr->Result->Shared->Prop}(B:Dk X N scope)(Dj:X.calm=true)(I:Inv X pins σ H s)(hf:∀b∈G,Q7 X pins H b)(T:Turn X.prog X.w X.K tg J G it tn)(h0:tn 0 s.heap)(hg:∀C s H,PG (Jl X N scope C G s H) tg g)(hc:∀C s H,PTs (Jl X N scope C G s H) ifs tc)(he:∀C s H,PE (Jl X N scope C G s H) elt te){Q:VK}(W:Nat->Nat->Hp->Prop)(w0:W 0 m0 (upd H s.heap.objs.size (.lst [])))(z5:∀i m H,W i m H->(J.stop i H/\Q (.ref s.heap.objs.size) H)\/(J.go i H/\∀x H',J.yld i H x H'->g x (σ++List.replicate (N.length-X.N.length) none) H' λq1 H2=>q1.length=(σ++List.replicate (N.length-X.N.length) none).length /\
 (∀(j:Nat) v,(σ++List.replicate (N.length-X.N.length) none)[j]?=some (some v)->q1[j]?=some (some v))/\tc q1 H2 λb H3 =>
  if b=true then te q1 H3 λv H4=>∃xs L,H4 s.heap.objs.size=some (.lst xs)/\xs.length<sizeLine/\L<m/\W (i+1) L (upd H4 s.heap.objs.size (.lst (xs++[v]))) else ∃L,L<m/\W (i+1) L H3))(z9:∀z0 H3 s3,Inv (Jl X N scope (s.heap.objs.size+1) G s H) [] z0 H3 s3->Q (.ref s.heap.objs.size) H3->RR (.ref s.heap.objs.size) (s.heap.objs.size+1) (.ok .next) s3) :
 wpAny (model X.prog X.w) X.A (newList []) (λz6 z1=>wpAny (model X.prog X.w) X.A (newFunctionEnv scope X.env.globals (Bx X.env.cells scope.names []) [] X.env.qual none .none (some X.env)) (λq3 zg =>
  codeAny (model X.prog X.w) X.A (.compStart (.ListComp elt [⟨tg,iter,ifs,0⟩] scope pos) 0 (.ref it) z6 { q3 with scope:=relabel scope X.env }) (RR z6 q3.locals) zg) E z1) E s:=by
 refine jn (agu ?_);have q4:(s.heap.push { cls:=.type "list",dict:=none,data:=.seq ([]:Zl).toArray }).objs.size=s.heap.objs.size+1:=kj _ _;obtain⟨Z,eh⟩:∃Z,Z=pushCells ((s.heap.push { cls:=.type "list",dict:=none,data:=.seq ([]:Zl).toArray }).push { cls:=.type "dict",data:=.dict #[] }) scope.names:=⟨_,rfl⟩;have up:∀b o,(s.heap.push { cls:=.type "list",dict:=none,data:=.seq ([]:Zl).toArray }).get? b=some o->Z.get? b=some o:=λb o e=>by rw[eh];exact pushCells_keeps _ _ b o (ak _ e)
 have zv:∀b o,s.heap.get? b=some o->Z.get? b=some o:=λb o e=>up b o (ak _ e)
 have Ir:Z.get? s.heap.objs.size=some { cls:=.type "list",data:=.seq ([]:Zl).toArray }:=up _ _ (bw _ rfl);have qv:Z.Ns (s.heap.objs.size+1) λ_=>none:=by rw[eh,<- q4];exact(Heap.Ns.new _ (.type "dict")).keeps (pushCells_keeps _ _)
 have z7:∀x c,(cellsFrom (s.heap.objs.size+1+1) scope.names (Bx X.env.cells scope.names [])).lookup x=some c->∃v,Z.IsCell c v:=by
  have yv:((s.heap.push { cls:=.type "list",dict:=none,data:=.seq ([]:Zl).toArray }).push { cls:=.type "dict",data:=.dict #[] }).objs.size=s.heap.objs.size+1+1:=by rw[kj,q4]
  rw[eh,<- yv];refine Xq _ _ _ λx c q=>?_
  obtain⟨v,hv⟩:=I.cell x c (B.inCells I.ok q);exact⟨v,hv.keeps λb o e=>ak _ (ak _ e)⟩
 have q0:∀b∈G,∃o,s.heap.get? b=some o:=λb hb=>let ⟨o,e,_⟩:=T.obj 0 _ h0 b hb;⟨o,e⟩
 have I0:=agv (t:=s.toks) B I hf q0 qv zv Ir z7;have q8:∀{H':Hp},(∀b∈G,H' b=none)->∀b∈G,Q7 (Jl X N scope (s.heap.objs.size+1) G s H) [] H' b:=λhn b hb=>by
  obtain⟨f0,f1,f2,f3,f4,f5⟩:=hf b hb;refine⟨hn b hb,?_,?_,.inl hb,?_,λp hp=>(by simp[Jl] at hp)⟩
  .intro z
   obtain⟨o,e⟩:=q0 b hb;have:=au e;rw[show b=s.heap.objs.size+1 from z] at this;exact absurd this (Nat.not_lt.mpr (t7 _))
  .intro q
   rcases bx.mp (I.Ii b q) with z|z
   .exact f1 z
   .exact f2 z
  .intro x c hc
   rcases B.ack I.ok hc with⟨_,l⟩|hc
   .intro z
    obtain⟨o,e⟩:=q0 b hb;have q:=au e;rw[<- z] at q;exact absurd (dm (ph (ph q)) l) (je _)
   .exact f4 x c hc
 have yy:∀b∈G,upd H s.heap.objs.size (.lst []) b=none:=λb hb=>by obtain⟨o,e⟩:=q0 b hb;rw[gr (gn (au e))];exact(hf b hb).1
 have q2:∀s':Shared,s'={ s with heap:=Z }->codeAny (model X.prog X.w) X.A (.compLoop (.ListComp elt [⟨tg,iter,ifs,0⟩] scope pos) 0 (.ref it) (.ref s.heap.objs.size) (compEnvC scope (cellsFrom (s.heap.objs.size+1+1) scope.names (Bx X.env.cells scope.names [])) (s.heap.objs.size+1) X.env))
  (RR (.ref s.heap.objs.size) (s.heap.objs.size+1)) s':=by
  rintro s' rfl;refine Kq (λn s'=>∃i qq H',Inv (Jl X N scope (s.heap.objs.size+1) G s H) [] qq H' s'/\(∀(j:Nat) v,(σ++List.replicate (N.length-X.N.length) none)[j]?=some (some v)->qq[j]?=some (some v))/\tn i s'.heap/\(∀b∈G,H' b=none)/\W i n H') ?_ m0
   ⟨0,_,_,I0,λ_ _ z=>z,T.keep 0 _ _ h0 (λb _ o e=>zv b o e),yy,w0⟩
  rintro n s3 ⟨i,z0,H3,I3,k3,z3,z4,w3⟩;have z2:=I3.weak (σ':=σ++List.replicate (N.length-X.N.length) none) (by rw[I3.len];exact I0.len) k3;rcases z5 i n H3 w3 with⟨zw,qn⟩|⟨go,step⟩
  .refine Al (T.done (Jl X N scope (s.heap.objs.size+1) G s H) rfl rfl rfl Dj i [] s3 _ H3 (λ_ _=>False) z2 (q8 z4) z3 zw) λr s4 z_=>?_
   obtain⟨hr,I4⟩:=z_;subst hr;exact z9 _ _ _ I4 qn
  .refine Al (T.item (Jl X N scope (s.heap.objs.size+1) G s H) rfl rfl rfl Dj i [] s3 _ H3 (λ_ _=>False) z2 (q8 z4) z3 go) λr s4 z_=>?_
   obtain⟨u,hr,h4⟩:=z_;subst hr;refine Al h4 λ_ s5 z_=>?_
   obtain⟨x,H5,I5,r5,y5,zk,z8⟩:=z_;have yk:=I5.pinned (q8 z8) (T.obj _ _ zk);refine Al (hg _ _ _ _ s5 _ H5 x u _ yk r5 (step x H5 y5)) λ_ s6 z_=>?_
   obtain⟨R,H6,I6,l6,k6,q6⟩:=z_;have qk:∀{Ew:Zp}{H7:Hp}{s7:Shared}{m:Nat},Inv (Jl X N scope (s.heap.objs.size+1) G s H) ([]++O7 G s5.heap) R H7 s7->m<n->W (i+1) m H7 ->
    ∃m,m<n/\∃i qq H',Inv (Jl X N scope (s.heap.objs.size+1) G s H) [] qq H' s7/\(∀(j:Nat) v,(σ++List.replicate (N.length-X.N.length) none)[j]?=some (some v)->qq[j]?=some (some v))/\tn i s7.heap/\(∀b∈G,H' b=none)/\W i m H':=fun{_ H7 s7 m} I7 hm w7=>by
    refine⟨m,hm,i+1,R,H7,I7.Kh,k6,T.keep _ _ _ zk λb hb o e=>(I7.pin (b,o) (fu _ (fu _ (Ik hb e)))).1,λb hb=>?_,w7⟩;obtain⟨o,e,d⟩:=T.obj _ _ zk b hb;exact(I7.pin (b,o) (fu _ (fu _ (Ik hb e)))).2.1
   have q5:wpAny (model X.prog X.w) X.A (forIn ifs true λc r=>if r=true then do let ok <- isTrue c (compEnvC scope (cellsFrom (s.heap.objs.size+1+1) scope.names (Bx X.env.cells scope.names [])) (s.heap.objs.size+1) X.env) (eval c (compEnvC scope (cellsFrom (s.heap.objs.size+1+1) scope.names (Bx X.env.cells scope.names [])) (s.heap.objs.size+1) X.env));pure (ForInStep.yield ok) else pure (ForInStep.yield r))
    (TP (Jl X N scope (s.heap.objs.size+1) G s H) ([]++O7 G s5.heap) R λb H3 =>
     if b=true then te R H3 λv H4=>∃xs L,H4 s.heap.objs.size=some (.lst xs)/\xs.length<sizeLine/\L<n/\W (i+1) L (upd H4 s.heap.objs.size (.lst (xs++[v]))) else ∃L,L<n/\W (i+1) L H3) (λ_ _=>False) s6:=by
    rcases hc (s.heap.objs.size+1) s H with⟨rfl,rfl⟩|⟨c,rfl,y0⟩
    .exact wpAny_tests_nil ⟨H6,I6,q6⟩
    .exact wpAny_tests_one (y0 _ s6 R H6 _ I6 q6)
   refine Al q5 λok s7 z_=>?_
   obtain⟨H7,I7,q7⟩:=z_;cases ok with
   |false =>
    obtain⟨L,hm,w7⟩:=(show ∃L,L<n/\W (i+1) L H7 from q7);exact qk (Ew:=[]) I7 hm w7
   |true =>
    show wpAny _ _ _ _ _ _;refine Al (he _ _ _ _ s7 R H7 _ I7 q7) λx s8 z_=>?_
    obtain⟨v,H8,I8,r8,xs,L,hD,hl,hm,w8⟩:=z_;refine Al (V0 _ s8 R H8 (.ref s.heap.objs.size) [v] (.ref s.heap.objs.size) [x] (λ_ H'=>W (i+1) L H') I8 rfl (.cons r8 .nil) ⟨_,xs,v,rfl,rfl,hD,hl,w8⟩) λ_ s9 z_=>?_
    obtain⟨_,H9,I9,_,w9⟩:=z_;exact qk (Ew:=[]) I9 hm w9
 rw[<- eh,q4];exact codeAny_compStart_list (q2 _ rfl) (T.self _ 0 _ _ _ (T.keep 0 _ _ h0 (λb _ o e=>zv b o e)) (q2 _ rfl))
def aep(B:Dk X N scope)(Dj:X.calm=true)(hi:PI X tg iter wi)(hg:∀C Z s H,PG (Jl X N scope C Z s H) tg g)(hc:∀C Z s H,PTs (Jl X N scope C Z s H) ifs tc)(he:∀C Z s H,PE (Jl X N scope C Z s H) elt te)(hs:∀x,foldedSetIterable iter X.env x=pure x):PE X (.ListComp elt [⟨tg,iter,ifs,0⟩] scope pos) (Z4 (N.length-X.N.length) wi g tc te):=by intro G s σ H Q I h;rw[eval_ListComp];refine wpAny_comprehension_free (use:=none) rfl hs (B.clos I.ok) B.kind B.locs (Al (hi G s σ H _ I h) λv s1 h1=>Al h1 λq0 s2 h2=>?_);obtain⟨it,Z,tn,J,H2,rfl,R,T,qq,f2,q2⟩:=h2;obtain⟨W,⟨m0,w0⟩,L⟩:=q2 s2.heap.objs.size (R.wk.fresh (bh _));refine T8 (RR:=λqk C=>compPost (model X.prog X.w) X.A X.xe none (EP X G σ Q) qk C) B Dj R f2 T qq (λC s H=>hg C Z s H) (λC s H=>hc C Z s H) (λC s H=>he C Z s H) W w0 L ?_;intro qv H3 s3 I3 q3;obtain⟨J3,m,hn⟩:=V4 R f2 I3;exact⟨m,hn,λh' K6=>⟨.ref s2.heap.objs.size,H3,agw R J3 I3.free K6,rfl,q3⟩⟩
set_option tactic.hygienic true in
def aeq(B:Dk X N scope)(Dj:X.calm=true)(hi:PI X tg iter wi)(hg:∀C G s H,PG (Jl X N scope C G s H) tg g)(hc:∀C G s H,PTs (Jl X N scope C G s H) ifs tc)(he:∀C G s H,PE (Jl X N scope C G s H) elt te)(hs:∀x,foldedSetIterable iter X.env x=pure x)(hN:X.N.Nodup)(hy:X.N[i]?=some y)(hl:X.env.scope.names.lookup y=some .local)(qq:swapsWith (.ListComp elt [⟨tg,iter,ifs,0⟩] scope pos) (some (.Name y py)) ak5.line X.env=pure true) :
 PS X (.Assign [.Name y py] (.ListComp elt [⟨tg,iter,ifs,0⟩] scope pos) ak5) (agd (Z4 (N.length-X.N.length) wi g tc te) (Tn i)):=by
 intro Z s σ H D I h;rw[exec_Assign_Name_used _ _ _ _ qq];refine aa (wpAny_standAt (aa ?_));show wpAny _ _ (do let _ <- comprehension (.ListComp elt [⟨tg,iter,ifs,0⟩] scope pos) scope X.env _ (newList []) false (eval iter X.env) (some (assign (.Name y py) X.env))) _ _ s;refine aa (ik (wpAny_comprehension_free (use:=some (assign (.Name y py) X.env)) (Q:=λ_ s'=>SP X Z D .next s') rfl hs (B.clos I.ok) B.kind B.locs
  (Al (hi Z s σ H _ I h) λv s1 h1=>Al h1 λq7 Y h2=>?_)) (λ_ s' hq=>aj (aj hq)) λ_ _ e=>e)
 obtain⟨it,G,tn,J,H2,rfl,L,T,qk,f2,q2⟩:=h2;obtain⟨W,⟨m0,w0⟩,S⟩:=q2 Y.heap.objs.size (L.wk.fresh (bh _));refine T8 (RR:=λqv C=>compPost (model X.prog X.w) X.A X.xe (some (assign (.Name y py) X.env)) (λ_ s'=>SP X Z D .next s') qv C) (Q:=λx H1=>Tn i x σ H1 D.nx) B Dj L f2 T qk (λC s H=>hg C G s H) (λC s H=>hc C G s H) (λC s H=>he C G s H) W w0 S ?_;intro q6 H3 s3 I3 q3;obtain⟨J3,m,hn⟩:=V4 L f2 I3;have q1:=I3.free;obtain⟨oC,_,_,u,q0,_⟩:=id hn;have big:∀b o,Y.heap.get? b=some o->b≠Y.heap.objs.size+1:=λb o e z=>by have:=au e;rw[z] at this;exact absurd this (Nat.not_lt.mpr (t7 _))
 have R:Y.heap.objs.size+1≠X.env.locals:=λe=>by obtain⟨m,⟨o,_,_,ho,_⟩,_⟩:=L.loc;exact big _ o ho e.symm
 have J4:Inv X (Z++[(Y.heap.objs.size+1,oC)]) σ H3 s3:=J3.K8 λp hp=>by
  rcases fj.mp hp with q|q
  .exact J3.pin p (fu _ q)
  .have e:p=(Y.heap.objs.size+1,oC):=by simpa using q
   subst e;refine⟨u,q1,R,λhb=>?_,λv z=>by rw[q0] at z;cases z⟩;exact L.ao4 (t7 _) hb
 show wpAny (model X.prog X.w) X.A (assign (.Name y py) X.env (.ref Y.heap.objs.size)) _ _ s3;refine Al (Nk (pos:=py) hN hy (.inl hl) (.inr hl) (Z++[(Y.heap.objs.size+1,oC)]) s3 σ H3 (.ref Y.heap.objs.size) (.ref Y.heap.objs.size) D.nx J4 rfl q3) λ_ s4 z_=>?_
 obtain⟨q5,H4,I4,q4⟩:=z_;have pC:=I4.pin (Y.heap.objs.size+1,oC) (fu _ (fu _ (by simp)));refine⟨m,hn.at' λo e=>by rw[u] at e;cases e;exact pC.1,λh' K6=>⟨q5,H4,?_,q4⟩⟩;refine(I4.Kh).turned (t':=s4.toks) (λb o hb e=>K6.extBut b o hb e) pC.2.1 R (.inr (dq L.sz (t7 _))) ?_ ?_
 .intro x c hc
  obtain⟨v,o,ho,_⟩:=L.cell x c hc;exact big c o ho
 .intro p hp
  exact big p.1 p.2 (L.pin p hp).1
def awz{CX:Yn}{P:Program}{w:World}{K:Fg}{mg:Zs}{qk:Heap}{k:Nat}{f:Addr}{q1 L:Str}{qq:Arguments}{qv:List Stmt}{Z:Scope}{dV kV q3 pm R ct oc:Value}{an od:Option Addr}
 {q6:Array (Option Value)} {N ps:Ya} {A:Around} {G:List Env} {s:Shared} {H:Hp} {q2:Args} {us:Zl} {vs:List V} {Q:VK} {E:XK} (lk:K.lookup f=some ⟨oc,od,.func (PySem.W.fnOf q1 L qq qv Z dV kV q3 pm an R ct),q6⟩) (Rx:PySem.W.codeIn K R L=true) (S:Nq N ps Z)
 (hl:vs.length=ps.length) (hr:xj (k+1) A) (e0:Q8 P w K mg qk A G s H) (hb:BindsTo s (PySem.W.fnOf q1 L qq qv Z dV kV q3 pm an R ct) q2 (ps.zip us)) (r:Vals vs us)
 (Tp:xj k (A.deeper (envOfC L Z s.heap.objs.size f R))->∃t,Lq (Hi CX P w K mg qk N L Z f R A G s H E) qv t/\t { nx:=λ_ H'=>Q .non H',rt:=Q } (start N vs) H) :
 codeAny (model P w) A (.call (.ref f) q2) (CR CX G P w H s Q E) s:=by
 have KX:K.In s.heap:=e0.mod.kin.keeps λb o e=>(e0.bs b o e).1
 have q4:s.heap.NoLimit:=e0.mod.nolimit.keeps λb o e=>(e0.bs b o e).1
 have q5:∀y∈ps.zip us,Z.names.lookup y.1=some .local\/(Z.names.lookup y.1=some .cell/\((cellsFrom (s.heap.objs.size+1) Z.names []).lookup y.1).isSome=true):=λ⟨n,v⟩ hy=>by
  rcases S.par n (Aj hy).1 with q|q
  .exact .inl q
  .exact .inr ⟨q,PySem.W.cellsFrom_some _ _ _ (.inl q)⟩
 refine codeAny_call_function hr.depth (KX _ _ lk) rfl S.co S.gen rfl (PySem.W.codeRec_of KX Rx) (hb _ _ _ _ ?_);refine wpAny_newFunctionEnv_cells S.kind q5 λq7 he s1 x=>?_
 subst he;refine⟨q4.keeps x.toInCall.keep,codeAny_func ?_⟩;obtain⟨t,ht,hq⟩:=Tp (hr.deeper _);have I:Inv (Hi CX P w K mg qk N L Z f R A G s H E) [] (start N vs) H s1:=Vw S hr.hd e0 hl r x;refine ik (ht [] s1 (start N vs) H _ I hq) (λfl s' hs=>?_) λe s' hs=>hs
 have fin:∀{q0:St}{H':Hp}{v:V}{u:Value},Inv (Hi CX P w K mg qk N L Z f R A G s H E) [] q0 H' s'->RelV v u->Q v H'->CE G P w H s Q u s' :=
  fun{q0 H' v u} J rv q=>⟨v,H',J.os,J.bare,J.base,J.wk,rv,q⟩
 cases fl with
 |ret u =>
  obtain⟨v,q0,H',J,rv,q⟩:=hs;exact fin J rv q
 |next =>
  obtain⟨q0,H',J,q⟩:=hs;exact fin (v:=V.non) (u:=Value.none) J rfl q
 |brk =>
  obtain⟨_,_,_,q⟩:=hs;exact False.elim q
 |cont =>
  obtain⟨_,_,_,q⟩:=hs;exact False.elim q
end L2
namespace Sm
open PySem L2
open MW (Ex Cu OEx Og Ar qm Lv Tg Res dh MO Fd Cp Op2 Blt Bm Kx)
abbrev Dv:=MW.D
abbrev En:=MW.Env
structure Io where
 l:List Addr
 δ:List Addr
noncomputable def Io.add(Z:Io)(p:Addr):Io:=⟨Z.l++[p],Z.δ⟩
noncomputable def Io.hide(Z:Io)(p:Addr):Io:=⟨Z.l,p::Z.δ⟩
def Io.off(Z:Io)(a:Addr):Prop:=a∉Z.l/\a∉Z.δ
def Xr(K:Fg)(H:Hp)(a:Addr)(G:List V):Prop :=
 (∃o,H a=some (.Hk o (.lst G))) \/
  ∃(o:Obj)(Z:Xs)(n:Nat),K.lookup a=some o/\o.cls=.type "list"/\o.dict=none/\o.data=.seq Z n/\Z.size<=sizeLine/\Vals G Z.toList
def Xr.sq(h:Xr K H a vs):Ha K H a vs:=by
 rcases h with⟨o,h⟩|h
 .exact .inl (.inr ⟨o,h⟩)
 .exact .inr h
mutual
inductive Rep(K:Fg)(ι:Io)(H:Hp):Dv->V->Prop
 |non:Rep K ι H .non .non
 |bl (b:Bool):Rep K ι H (.bl b) (.bl b)
 |int (i:Int):Rep K ι H (.int i) (.int i)
 |str (s:Str):Rep K ι H (.str s) (.str s)
 |tup {a:Addr} {ds:List Dv} {vs:List V} (e:H a=some (.tup vs)) (r:jw K ι H ds vs):Rep K ι H (.tup ds) (.ref a)
 |vl {a:Addr} {ds:List Dv} {vs:List V} (e:H a=some (.lst vs)) (n:ι.off a) (r:jw K ι H ds vs):Rep K ι H (.vl ds) (.ref a)
 |fz {a:Addr} {ds:List Dv} {vs:List V} (e:Xr K H a vs) (r:jw K ι H ds vs):Rep K ι H (.fz ds) (.ref a)
 |ref {n:Nat} {a:Addr} (e:ι.l[n]?=some a):Rep K ι H (.ref n) (.ref a)
inductive jw(K:Fg)(ι:Io)(H:Hp):List Dv->List V->Prop
 |nil:jw K ι H [] []
 |cons {d:Dv} {v:V} {ds:List Dv} {vs:List V} (h:Rep K ι H d v) (t:jw K ι H ds vs):jw K ι H (d::ds) (v::vs)
end
structure Le(ι:Io)(H:Hp)(ι':Io)(H':Hp):Prop where
 ext:∃Y,ι'.l=ι.l++Y/\∀a∈Y,H a=none
 del:ι'.δ=ι.δ
 tup:∀a vs,H a=some (.tup vs)->H' a=some (.tup vs)
 Hk:∀a o u,H a=some (.Hk o u)->H' a=some (.Hk o u)
 lst:∀a vs,a∉ι.l->H a=some (.lst vs)->H' a=some (.lst vs)
 dom:∀a,H' a=none->H a=none
def Le.refl(Z:Io)(H:Hp):Le Z H Z H:=⟨⟨[],by simp,by simp⟩,rfl,λ_ _ h=>h,λ_ _ _ h=>h,λ_ _ _ h=>h,λ_ h=>h⟩
def Fz{H H':Hp}(L:∀a u,H a=some u->∃G,H' a=some G)(h:H' a=none):H a=none:=by
 cases e:H a with
 |none=>rfl|some u=>obtain⟨G,Z⟩:=L a u e;rw[h] at Z;cases Z
def Le.get(l:Le G H Z L){n:Nat}(h:G.l[n]?=some a):Z.l[n]?=some a:=by obtain⟨Y,e,_⟩:=l.ext;rw[e,jh (aq.mp h).1];exact h
def Le.aw0(l:Le L H Z H')(h:a∉L.l)(G:H a=some o):a∉Z.l:=by
 obtain⟨Y,e,R⟩:=l.ext;rw[e];intro m;rcases fj.mp m with q|q
 .exact h q
 .rw[R a q] at G;cases G
def Le.out(l:Le G H Z R)(h:G.off a)(L:H a=some o):Z.off a:=⟨l.aw0 h.1 L,by rw[l.del];exact h.2⟩
theorem Le.trans(a:Le ι H L H1)(b:Le L H1 R H2):Le ι H R H2:=by
 obtain⟨Y,e1,h1⟩:=a.ext;obtain⟨Z,e2,h2⟩:=b.ext;refine⟨⟨Y++Z,by rw[e2,e1,n6],λx m=>?_⟩,b.del.trans a.del,λx G h=>b.tup x G (a.tup x G h),λx o u h=>b.Hk x o u (a.Hk x o u h),λx G n h=>b.lst x G (a.aw0 n h) (a.lst x G n h),λx h=>a.dom x (b.dom x h)⟩;rcases fj.mp m with q|q
 .exact h1 x q
 .exact a.dom x (h2 x q)
structure LeX(ι:Io)(H:Hp)(ι':Io)(H':Hp):Prop where
 ext:∃Y,ι'.l=ι.l++Y/\∀a∈Y,H a=none
 del:∀a∈ι'.δ,a∈ι.δ\/H a=none
 tup:∀a vs,H a=some (.tup vs)->H' a=some (.tup vs)
 Hk:∀a o u,H a=some (.Hk o u)->H' a=some (.Hk o u)
 lst:∀a vs,a∉ι.l->H a=some (.lst vs)->H' a=some (.lst vs)
def Le.toX(l:Le G H Z H'):LeX G H Z H':=⟨l.ext,λa h=>.inl (by rw[<- l.del];exact h),l.tup,l.Hk,l.lst⟩
def LeX.get(l:LeX G H Z L){n:Nat}(h:G.l[n]?=some a):Z.l[n]?=some a:=by obtain⟨Y,e,_⟩:=l.ext;rw[e,jh (aq.mp h).1];exact h
def LeX.out(l:LeX L H G H')(h:L.off a)(Z:H a=some o):G.off a:=by
 obtain⟨Y,e,R⟩:=l.ext;refine⟨λm=>?_,λm=>?_⟩
 .rw[e] at m
  rcases fj.mp m with q|q
  .exact h.1 q
  .rw[R a q] at Z;cases Z
 .rcases l.del a m with q|q
  .exact h.2 q
  .rw[q] at Z;cases Z
structure Tr(K:Fg)(ι:Io)(H:Hp)(ι':Io)(H':Hp):Prop where
 tup:∀a vs,H a=some (.tup vs)->H' a=some (.tup vs)
 vl:∀a vs,H a=some (.lst vs)->ι.off a->H' a=some (.lst vs)/\ι'.off a
 fz:∀a vs,Xr K H a vs->Xr K H' a vs
 rf:∀(n:Nat) a,ι.l[n]?=some a->ι'.l[n]?=some a
mutual
theorem Rep.tr{K:Fg}{G Z:Io}{H L:Hp}(l:Tr K G H Z L):∀{d:Dv}{v:V},Rep K G H d v->Rep K Z L d v
 |_,_,.non=>.non|_,_,.bl b=>.bl b|_,_,.int i=>.int i|_,_,.str s=>.str s|_,_,.tup e r=>.tup (l.tup _ _ e) (jw.tr l r)|_,_,.vl e n r=>.vl (l.vl _ _ e n).1 (l.vl _ _ e n).2 (jw.tr l r)|_,_,.fz e r=>.fz (l.fz _ _ e) (jw.tr l r)|_,_,.ref e=>.ref (l.rf _ _ e)
theorem jw.tr{K:Fg}{G Z:Io}{H R:Hp}(l:Tr K G H Z R):∀{ds:List Dv}{L:List V},jw K G H ds L->jw K Z R ds L
 |_,_,.nil=>.nil|_,_,.cons h t=>.cons (Rep.tr l h) (jw.tr l t)
end
def LeX.tr(l:LeX G H Z H'):Tr K G H Z H':=⟨l.tup,λa L e n=>⟨l.lst _ _ n.1 e,l.out n e⟩,λa L e=>by
 rcases e with⟨o,e⟩|e
 .exact .inl ⟨o,l.Hk _ _ _ e⟩
 .exact .inr e,λ_ _ e=>l.get e⟩
def Rep.Kr(l:LeX G H Z L)(r:Rep K G H d v):Rep K Z L d v:=r.tr l.tr
def jw.Kr(l:LeX G H Z L)(r:jw K G H ds vs):jw K Z L ds vs:=r.tr l.tr
def Rep.mono(l:Le G H Z L)(r:Rep K G H d v):Rep K Z L d v:=r.Kr l.toX
def jw.mono(l:Le G H Z L)(r:jw K G H ds vs):jw K Z L ds vs:=r.Kr l.toX
theorem jw.length{K:Fg}{L:Io}{H:Hp}:∀{G:List Dv}{Z:List V},jw K L H G Z->G.length=Z.length:=by intro A B h;induction A generalizing B with|nil=>cases h;rfl|cons d A ih=>cases h with|cons _ t=>rw[gq,gq,ih t]
theorem jw.get{K:Fg}{Z:Io}{H:Hp}:∀{L:List Dv}{G:List V}{i:Nat}{d:Dv},jw K Z H L G->L[i]?=some d->∃v,G[i]?=some v/\Rep K Z H d v
 |_,_,_,_,.nil,e=>by simp at e|_,_,0,_,.cons h _,e=>by simp at e;subst e;exact⟨_,rfl,h⟩
 |_,_,i+1,d,.cons _ t,e=>by
  obtain⟨v,h1,R⟩:=jw.get (i:=i) t (by simpa using e);exact⟨v,by simpa using h1,R⟩
theorem jw.set{K:Fg}{Z:Io}{H:Hp}{d:Dv}{v:V}(r:Rep K Z H d v):∀{L:List Dv}{G:List V}(i:Nat),jw K Z H L G->jw K Z H (L.set i d) (G.set i v)
 |_,_,_,.nil=>.nil|_,_,0,.cons _ t=>.cons r t|_,_,i+1,.cons h t=>.cons h (jw.set r i t)
theorem jw.append{K:Fg}{Z:Io}{H:Hp}:∀{ds L:List Dv}{R G:List V},jw K Z H ds R->jw K Z H L G->jw K Z H (ds++L) (R++G):=by intro A _ B _ h r;induction A generalizing B with|nil=>cases h;exact r|cons d A ih=>cases h with|cons h t=>exact .cons h (ih t)
theorem jw.drop{K:Fg}{Z:Io}{H:Hp}:∀{L:List Dv}{G:List V}(n:Nat),jw K Z H L G->jw K Z H (L.drop n) (G.drop n)
 |_,_,0,r=>r|_,_,_+1,.nil=>.nil|_,_,n+1,.cons _ t=>jw.drop n t
theorem jw.take{K:Fg}{Z:Io}{H:Hp}:∀{L:List Dv}{G:List V}(n:Nat),jw K Z H L G->jw K Z H (L.take n) (G.take n)
 |_,_,0,_=>.nil|_,_,_+1,.nil=>.nil|_,_,n+1,.cons h t=>.cons h (jw.take n t)
theorem jw.ints{K:Fg}{G:Io}{H:Hp}:∀(Z:X1),jw K G H (Z.map MW.D.int) (Z.map V.int)
 |[]=>.nil|n::r=>.cons (.int n) (jw.ints r)
structure Nm where
 cls:Nat->Option Addr
 fld:Nat->Str
 inj:∀i j,fld i=fld j->i=j
 xc:Nat->Option Addr
 tb:Option (Addr×PySem.Pos×PySem.Str)
inductive ni{κ κ':Type}(K:Fg)(ι:Io)(H:Hp)(f:κ->κ'->Prop):List (κ×Dv)->List (κ'×V)->Prop
 |nil:ni K ι H f [] []
 |cons {k:κ} {k':κ'} {d:Dv} {v:V} {l:List (κ×Dv)} {l':List (κ'×V)} (hk:f k k') (h:Rep K ι H d v) (t:ni K ι H f l l'):ni K ι H f ((k,d)::l) ((k',v)::l')
theorem ni.mono{κ Z:Type}{K:Fg}{L G:Io}{H H':Hp}{f:κ->Z->Prop}(le:Le L H G H'):∀{l:List (κ×Dv)}{R:List (Z×V)},ni K L H f l R->ni K G H' f l R:=by intro _ _ h;induction h with|nil=>exact .nil|cons k h t ih=>exact .cons k (h.mono le) ih
def Gu(G:Nm)(K:Fg)(Z:Io)(H:Hp)(o:MO)(a:Addr):Prop :=
 match o with
 |.lst ds=>∃R,H a=some (.lst R)/\jw K Z H ds R|.dT kvs=>∃l,H a=some (.dT l)/\ni K Z H (λk L=>k=L) kvs l
 |.ins c fs=>∃C dx l,G.cls c=some C/\H a=some (.ins C dx l)/\ni K Z H (λk L=>L=G.fld k) fs l
 |.exc c=>∃C,H a=some (.ext (XAt a C))/\G.xc c=some C
def tab_keep(h:akv P p q H)(k:∀b u,H b=some u->¬Mut (some u)->H' b=some u):akv P p q H':=by
 obtain⟨G,L,Z⟩:=h;refine⟨G,k _ _ L (λz=>z),?_⟩;rcases Z with Z|⟨c,o,e,h3,h4⟩
 .exact .inl Z
 .exact .inr ⟨c,o,e,k _ _ h3 (λz=>z),h4⟩
structure ju(nm:Nm)(K:Fg)(ι:Io)(H:Hp)(M:dh):Prop where
 len:ι.l.length=M.length
 nd:ι.l.Nodup
 del:∀a∈ι.δ,a∉ι.l/\∃vs,H a=some (.lst vs)
 obj:∀(n:Nat)(o:MO)(a:Addr),M[n]?=some o->ι.l[n]?=some a->Gu nm K ι H o a
 tb:∀t,nm.tb=some t->akv t.1 t.2.1 t.2.2 H
theorem Gu.some(h:Gu nm K L H o a):∃u,H a=some u/\Mut (H a):=by
 cases o with
 |lst ds=>obtain⟨Z,e,_⟩:=h;exact⟨_,e,by rw[e];trivial⟩
 |dT G=>obtain⟨Z,e,_⟩:=h;exact⟨_,e,by rw[e];trivial⟩
 |ins c fs=>obtain⟨C,R,l,_,e,_⟩:=h;exact⟨_,e,by rw[e];trivial⟩
 |exc c=>obtain⟨C,e,_⟩:=h;exact⟨_,e,by rw[e];trivial⟩
def ju.mem(S:ju nm K Z H M)(h:a∈Z.l):∃u,H a=some u/\Mut (H a):=by
 obtain⟨n,G,rfl⟩:=xx h;have L:n<M.length:=by rw[<- S.len];exact G
 exact(S.obj n M[n] Z.l[n] (by simp[L]) (by simp[G])).some
def ju.fresh(S:ju nm K Z H M)(h:H a=none):Z.off a:=by
 refine⟨λm=>?_,λm=>?_⟩
 .obtain⟨u,e,_⟩:=S.mem m
  rw[h] at e;cases e
 .obtain⟨_,G,e⟩:=S.del a m
  rw[h] at e;cases e
def Gu.move(h:Gu nm K ι H o a)(L:Le ι H Z R)(e:R a=H a):Gu nm K Z R o a:=by
 cases o with
 |lst ds=>obtain⟨G,q,r⟩:=h;exact⟨G,e.trans q,r.mono L⟩
 |dT qq=>obtain⟨G,q,r⟩:=h;exact⟨G,e.trans q,r.mono L⟩
 |ins c fs=>obtain⟨C,dx,l,hc,q,r⟩:=h;exact⟨C,dx,l,hc,e.trans q,r.mono L⟩
 |exc c=>obtain⟨C,q,r⟩:=h;exact⟨C,e.trans q,r⟩
def ju.laid(S:ju nm K G H M)(h:H p=none)(o:HO):ju nm K G (upd H p o) M/\Le G H G (upd H p o):=by
 have Z:∀a u,H a=some u->a≠p:=λa u e=>jt e h
 have le:Le G H G (upd H p o):=⟨⟨[],by simp,by simp⟩,rfl,λa L e=>by rw[gr (Z a _ e)];exact e,λa _ u e=>by rw[gr (Z a _ e)];exact e,λa L _ e=>by rw[gr (Z a _ e)];exact e,
  λa h'=>Fz (λb u e=>⟨u,by rw[gr (Z b _ e)];exact e⟩) h'⟩
 refine⟨⟨S.len,S.nd,λa R=>?_,λn o' a hn R=>?_,λt ht=>tab_keep (S.tb t ht) λb u e _=>by rw[gr (Z b u e)];exact e⟩,le⟩
 .obtain⟨h1,L,h2⟩:=S.del a R
  exact⟨h1,L,le.lst a L h1 h2⟩
 .have q:=S.obj n o' a hn R
  obtain⟨u,e,_⟩:=q.some;exact q.move le (by rw[gr (Z a u e)])
def Bk{Z:Type}{l:List Z}{x y:Z}(h:(l++[x])[n]?=some y):(l[n]?=some y)\/(n=l.length/\y=x):=by
 rcases Nat.lt_or_ge n l.length with q|q
 .rw[jh q] at h;exact .inl h
 .rw[qz q] at h
  have:n-l.length=0:=by
   rcases Nat.eq_zero_or_pos (n-l.length) with z|z
   .exact z
   .rw[qb (by simp;exact z)] at h;cases h
  rw[this] at h;simp at h;exact .inr ⟨by lia,h.symm⟩
def ju.new(S:ju nm K Z H M)(h:H p=none)(G:∀a u,H a=some u->H' a=some u)(ho:Le Z H (Z.add p) H'->Gu nm K (Z.add p) H' o p):ju nm K (Z.add p) H' (M++[o])/\Le Z H (Z.add p) H':=by
 have R:Le Z H (Z.add p) H':=⟨⟨[p],rfl,by simpa using h⟩,rfl,λa vs e=>G _ _ e,λa _ u e=>G _ _ e,λa vs _ e=>G _ _ e,λa h'=>Fz (H:=H) (H':=H') (λb u e=>⟨u,G b u e⟩) h'⟩;refine⟨⟨by simp[Io.add,S.len],?_,λa L=>?_,λn o' a hn L=>?_,λt ht=>tab_keep (S.tb t ht) λb u e _=>G b u e⟩,R⟩
 .exact wy.mpr ⟨S.nd,by simp,by
   intro x hx y hy;have:y=p:=by simpa using hy
   subst this;intro e;subst e;exact(S.fresh h).1 hx⟩
 .obtain⟨h1,vs,h2⟩:=S.del a L
  exact⟨R.aw0 h1 h2,vs,G _ _ h2⟩
 .rcases Bk hn with q|⟨q,rfl⟩
  .rcases Bk L with r|⟨r,_⟩
   .have z:=S.obj n o' a q r
    obtain⟨u,e,_⟩:=z.some;exact z.move R ((G a u e).trans e.symm)
   .exact absurd (MW.Bo q) (by rw[r,S.len];exact je _)
  .rcases Bk L with r|⟨_,rfl⟩
   .exact absurd (aq.mp r).1 (by rw[q,S.len];exact je _)
   .exact ho R
def ju.put(S:ju nm K G H M)(hn:M[n]?=some qq)(ha:G.l[n]?=some a)(ho:Le G H G (upd H a u)->Gu nm K G (upd H a u) o a):ju nm K G (upd H a u) (M.set n o)/\Le G H G (upd H a u):=by
 obtain⟨qv,qk,Z⟩:=(S.obj n qq a hn ha).some;have hm:a∈G.l:=cj ha;have le:Le G H G (upd H a u):=⟨⟨[],by simp,by simp⟩,rfl,λb vs e=>by rw[gr (λz=>by subst z;rw[e] at Z;exact Z)];exact e,
  λb _ _ e=>by rw[gr (λz=>by subst z;rw[e] at Z;exact Z)];exact e,λb vs nb e=>by rw[gr (λz=>by subst z;exact nb hm)];exact e,λb h'=>Fz (λc w e=>by
   by_cases z:c=a
   .exact⟨u,by rw[z,m8]⟩
   .exact⟨w,by rw[gr z];exact e⟩) h'⟩
 refine⟨⟨by rw[List.length_set];exact S.len,S.nd,λb R=>?_,λm o' b L R=>?_,λt ht=>tab_keep (S.tb t ht) λb w e nm=>by rw[gr (λz=>by subst z;rw[e] at Z;exact nm Z)];exact e⟩,le⟩
 .obtain⟨h1,vs,h2⟩:=S.del b R
  exact⟨h1,vs,le.lst b vs h1 h2⟩
 by_cases q:m=n
 .subst q
  rw[MW.zm hn] at L;cases L;rw[ha] at R;cases R;exact ho le
 .rw[MW.Bf (j5 q)] at L
  have z:=S.obj m o' b L R;have nb:b≠a:=λe=>by subst e;obtain⟨l1,e1⟩:=aq.mp R;obtain⟨l2,e2⟩:=aq.mp ha;exact q ((vq S.nd).mp (e1.trans e2.symm))
  exact z.move le (by rw[gr nb])
mutual
theorem Rep.hide{K:Fg}{G:Io}{H:Hp}{D:Addr}{o:HO}(Z:H D=none):∀{d:Dv}{v:V},Rep K G H d v->Rep K (G.hide D) (upd H D o) d v
 |_,_,.non=>.non|_,_,.bl b=>.bl b|_,_,.int i=>.int i|_,_,.str s=>.str s|_,_,.tup e r=>.tup (by rw[gr (jt e Z)];exact e) (jw.hide Z r)
 | _,_,.vl e n r=>.vl (by rw[gr (jt e Z)];exact e) ⟨n.1,λm=>by
  rcases bx.mp m with q|q
  .exact jt e Z q
  .exact n.2 q⟩ (jw.hide Z r)
 | _,_,.fz e r=>.fz (by
  rcases e with⟨q,e⟩|e
  .exact .inl ⟨q,by rw[gr (jt e Z)];exact e⟩
  .exact .inr e) (jw.hide Z r)
 |_,_,.ref e=>.ref e
theorem jw.hide{K:Fg}{Z:Io}{H:Hp}{D:Addr}{o:HO}(R:H D=none):∀{G:List Dv}{L:List V},jw K Z H G L->jw K (Z.hide D) (upd H D o) G L
 |_,_,.nil=>.nil|_,_,.cons h t=>.cons (Rep.hide R h) (jw.hide R t)
end
mutual
theorem Rep.grow{K:Fg}{L:Io}{H:Hp}{D:Addr}{vs R:List V}(Z:H D=some (.lst vs))(G:D∈L.δ):∀{d:Dv}{v:V},Rep K L H d v->Rep K L (upd H D (.lst R)) d v
 |_,_,.non=>.non|_,_,.bl b=>.bl b|_,_,.int i=>.int i|_,_,.str s=>.str s|_,_,.tup e r=>.tup (by rw[gr (ad6 e Z (by intro z;cases z))];exact e) (jw.grow Z G r)|_,_,.vl e n r=>.vl (by rw[gr (λz=>by subst z;exact n.2 G)];exact e) n (jw.grow Z G r)
 | _,_,.fz e r=>.fz (by
  rcases e with⟨q,e⟩|e
  .exact .inl ⟨q,by rw[gr (ad6 e Z (by intro z;cases z))];exact e⟩
  .exact .inr e) (jw.grow Z G r)
 |_,_,.ref e=>.ref e
theorem jw.grow{K:Fg}{Z:Io}{H:Hp}{D:Addr}{vs ws:List V}(R:H D=some (.lst vs))(G:D∈Z.δ):∀{ds:List Dv}{L:List V},jw K Z H ds L->jw K Z (upd H D (.lst ws)) ds L
 |_,_,.nil=>.nil|_,_,.cons h t=>.cons (Rep.grow R G h) (jw.grow R G t)
end
def Io.show(Z:Io)(H:Hp)(D:Addr):Tr K (Z.hide D) H Z H:=⟨λ_ _ e=>e,λ_ _ e n=>⟨e,n.1,λm=>n.2 (bc _ m)⟩,λ_ _ e=>e,λ_ _ e=>e⟩
theorem Rep.show(r:Rep K (Z.hide D) H d v):Rep K Z H d v:=r.tr (Z.show H D)
theorem jw.show(r:jw K (Z.hide D) H d v):jw K Z H d v:=r.tr (Z.show H D)
theorem ni.map{κ Z:Type}{K:Fg}{L G:Io}{H H':Hp}{f:κ->Z->Prop}(g:∀d v,Rep K L H d v->Rep K G H' d v):∀{l:List (κ×Dv)}{R:List (Z×V)},ni K L H f l R->ni K G H' f l R:=by intro _ _ h;induction h with|nil=>exact .nil|cons k h t ih=>exact .cons k (g _ _ h) ih
theorem jw.map{K:Fg}{G Z:Io}{H R:Hp}(g:∀d v,Rep K G H d v->Rep K Z R d v):∀{l:List Dv}{L:List V},jw K G H l L->jw K Z R l L:=by intro A B h;induction A generalizing B with|nil=>cases h;exact .nil|cons d A ih=>cases h with|cons h t=>exact .cons (g _ _ h) (ih t)
theorem Gu.map(g:∀d v,Rep K R H d v->Rep K Z L d v)(h:Gu nm K R H o a)(e:L a=H a):Gu nm K Z L o a:=by
 cases o with
 |lst ds=>obtain⟨G,q,r⟩:=h;exact⟨G,e.trans q,r.map g⟩
 |dT qq=>obtain⟨G,q,r⟩:=h;exact⟨G,e.trans q,r.map g⟩
 |ins c fs=>obtain⟨C,dx,l,hc,q,r⟩:=h;exact⟨C,dx,l,hc,e.trans q,r.map g⟩
 |exc c=>obtain⟨C,q,r⟩:=h;exact⟨C,e.trans q,r⟩
theorem ju.hide(S:ju nm K R H M)(Z:H D=none):ju nm K (R.hide D) (upd H D (.lst [])) M:=by
 refine⟨S.len,S.nd,λa G=>?_,λn o a hn G=>?_,λt ht=>tab_keep (S.tb t ht) λb u e _=>by rw[gr (jt e Z)];exact e⟩
 .rcases bx.mp G with q|q
  .subst q;exact⟨(S.fresh Z).1,[],m8⟩
  .obtain⟨h1,vs,L⟩:=S.del a q
   exact⟨h1,vs,by rw[gr (jt L Z)];exact L⟩
 .have z:=S.obj n o a hn G
  obtain⟨u,e,_⟩:=z.some;exact z.map (λd v r=>r.hide Z) (by rw[gr (jt e Z)])
theorem ju.grow(S:ju nm K G H M)(R:H D=some (.lst vs))(L:D∈G.δ):ju nm K G (upd H D (.lst ws)) M:=by
 refine⟨S.len,S.nd,λa Z=>?_,λn o a hn Z=>?_,λt ht=>tab_keep (S.tb t ht) λb u e n=>by rw[gr (λz=>by subst z;rw[R] at e;cases e;exact n trivial)];exact e⟩
 .obtain⟨h1,us,h2⟩:=S.del a Z
  by_cases z:a=D
  .subst z;exact⟨h1,ws,m8⟩
  .exact⟨h1,us,by rw[gr z];exact h2⟩
 .have z:=S.obj n o a hn Z
  have ne:a≠D:=λe=>by subst e;exact(S.del a L).1 (cj Z)
  exact z.map (λd v r=>r.grow R L) (by rw[gr ne])
theorem ju.show(S:ju nm K (G.hide D) H M):ju nm K G H M :=
 ⟨S.len,S.nd,λa Z=>S.del a (bc _ Z),λn o a L Z=>(S.obj n o a L Z).map (λd v r=>r.show) rfl,S.tb⟩
structure LeD(D:Addr)(ι:Io)(H:Hp)(ι':Io)(H':Hp):Prop where
 ext:∃Y,ι'.l=ι.l++Y/\∀a∈Y,H a=none
 del:ι'.δ=D::ι.δ
 tup:∀a vs,H a=some (.tup vs)->H' a=some (.tup vs)
 Hk:∀a o u,H a=some (.Hk o u)->H' a=some (.Hk o u)
 lst:∀a vs,a∉ι.l->H a=some (.lst vs)->H' a=some (.lst vs)
 dom:∀a,H' a=none->H a=none
def LeD.toX(l:LeD D G H Z H')(L:H D=none):LeX G H Z H':=⟨l.ext,λa h=>by
 rw[l.del] at h;rcases bx.mp h with q|q
 .exact .inr (by rw[q];exact L)
 .exact .inl q,l.tup,l.Hk,l.lst⟩
def LeD.start(Z:H D=none)(o:HO):LeD D G H (G.hide D) (upd H D o) :=
 ⟨⟨[],by simp[Io.hide],by simp⟩,rfl,λa L e=>by rw[gr (jt e Z)];exact e,λa _ _ e=>by rw[gr (jt e Z)];exact e,λa L _ e=>by rw[gr (jt e Z)];exact e,
  λa R=>Fz (λb u e=>⟨u,by rw[gr (jt e Z)];exact e⟩) R⟩
def LeD.go(a:LeD D ι H G H1)(b:Le G H1 R H2):LeD D ι H R H2:=by
 obtain⟨Y,e1,h1⟩:=a.ext;obtain⟨Z,e2,h2⟩:=b.ext;have out:∀x o,x∉ι.l->H x=some o->x∉G.l:=λx o n h m=>by
  rw[e1] at m;rcases fj.mp m with q|q
  .exact n q
  .rw[h1 x q] at h;cases h
 refine⟨⟨Y++Z,by rw[e2,e1,n6],λx m=>?_⟩,b.del.trans a.del,λx L h=>b.tup x L (a.tup x L h),λx o u h=>b.Hk x o u (a.Hk x o u h),λx L n h=>b.lst x L (out x _ n h) (a.lst x L n h),λx h=>a.dom x (b.dom x h)⟩;rcases fj.mp m with q|q
 .exact h1 x q
 .exact a.dom x (h2 x q)
def LeD.grow(a:LeD D ι H G R)(L:H D=none)(hD:R D=some (.lst vs)):LeD D ι H G (upd R D (.lst ws)) :=
 ⟨a.ext,a.del,λx Z h=>by rw[gr (jt h L)];exact a.tup x Z h,λx o u h=>by rw[gr (jt h L)];exact a.Hk x o u h,λx Z n h=>by rw[gr (jt h L)];exact a.lst x Z n h,
  λx h=>a.dom x (by
   by_cases z:x=D
   .rw[z,m8] at h;cases h
   .rw[gr z] at h;exact h)⟩
def LeD.done(a:LeD D G H ⟨Z.l,D::Z.δ⟩ H1):Le G H Z H1 :=
 ⟨a.ext,(List.cons.inj a.del).2,a.tup,a.Hk,a.lst,a.dom⟩
inductive qu(K:Fg)(ι:Io)(H:Hp):En->St->Prop
 |nil:qu K ι H [] []
 |Xu {y:Option V} {ρ:En} {σ:St} (t:qu K ι H ρ σ):qu K ι H (none::ρ) (y::σ)
 |has {d:Dv} {v:V} {ρ:En} {σ:St} (h:Rep K ι H d v) (t:qu K ι H ρ σ):qu K ι H (some d::ρ) (some v::σ)
theorem qu.Kr{K:Fg}{L Z:Io}{H R:Hp}(G:LeX L H Z R):∀{ρ:En}{σ:St},qu K L H ρ σ->qu K Z R ρ σ
 |_,_,.nil=>.nil|_,_,.Xu t=>.Xu (qu.Kr G t)|_,_,.has h t=>.has (h.Kr G) (qu.Kr G t)
theorem qu.mono{K:Fg}{L Z:Io}{H R:Hp}(G:Le L H Z R):∀{ρ:En}{σ:St},qu K L H ρ σ->qu K Z R ρ σ
 |_,_,.nil=>.nil|_,_,.Xu t=>.Xu (qu.mono G t)|_,_,.has h t=>.has (h.mono G) (qu.mono G t)
theorem qu.get{K:Fg}{L:Io}{H:Hp}:∀{ρ:En}{R:St}{i:Nat}{d:Dv},qu K L H ρ R->ρ[i]?=some (some d)->∃v,R[i]?=some (some v)/\Rep K L H d v
 |_,_,_,_,.nil,e=>by simp at e|_,_,0,_,.Xu _,e=>by simp at e|_,_,0,_,.has h _,e=>by simp at e;subst e;exact⟨_,rfl,h⟩
 |_,_,i+1,d,.Xu t,e=>by
  obtain⟨v,G,Z⟩:=qu.get (i:=i) t (by simpa using e);exact⟨v,by simpa using G,Z⟩
 |_,_,i+1,d,.has _ t,e=>by
  obtain⟨v,G,Z⟩:=qu.get (i:=i) t (by simpa using e);exact⟨v,by simpa using G,Z⟩
theorem qu.set{K:Fg}{Z:Io}{H:Hp}{d:Dv}{v:V}(r:Rep K Z H d v):∀{G:En}{L:St}(i:Nat),qu K Z H G L->qu K Z H (G.set i (some d)) (L.set i (some v))
 |_,_,_,.nil=>.nil|_,_,0,.Xu t=>.has r t|_,_,0,.has _ t=>.has r t|_,_,i+1,.Xu t=>.Xu (qu.set r i t)|_,_,i+1,.has h t=>.has h (qu.set r i t)
theorem qu.length{K:Fg}{L:Io}{H:Hp}:∀{Z:En}{G:St},qu K L H Z G->Z.length=G.length
 |_,_,.nil=>rfl|_,_,.Xu t=>by rw[gq,gq,qu.length t]|_,_,.has _ t=>by rw[gq,gq,qu.length t]
theorem qu.append{K:Fg}{L:Io}{H:Hp}:∀{ρ Z:En}{R G:St},qu K L H ρ R->qu K L H Z G->qu K L H (ρ++Z) (R++G)
 |_,_,_,_,.nil,r=>r|_,_,_,_,.Xu t,r=>.Xu (qu.append t r)|_,_,_,_,.has h t,r=>.has h (qu.append t r)
theorem qu.ak6{K:Fg}{G:Io}{H:Hp}:∀(k:Nat){Z:St},Z.length=k->qu K G H (List.replicate k none) Z
 |0,[],_=>.nil|k+1,_::r,h=>.Xu (qu.ak6 k (by simpa using h))
theorem qu.ak7{K:Fg}{Z:Io}{H:Hp}:∀{L:List Dv}{G:List V},jw K Z H L G->qu K Z H (L.map some) (G.map some)
 |_,_,.nil=>.nil|_,_,.cons h t=>.has h (qu.ak7 t)
def dj{r:Res α}(h:r.bind f=.ok b M):∃a Z,r=.ok a Z/\f a Z=.ok b M:=by
 cases r with
 |ok a Z=>exact⟨a,Z,rfl,h⟩|bad=>cases h
def xg(h:Res.ue o M=.ok a Z):o=some a/\Z=M:=by
 cases o with
 |none=>cases h|some x=>cases h;exact⟨rfl,rfl⟩
def PE.weak(h:PE X e t)(w:∀G H Q,t' G H Q->t G H Q):PE X e t':=λZ s G H Q I q=>h Z s G H Q I (w G H Q q)
def PT.weak(h:PT X e t)(w:∀G H Q,t' G H Q->t G H Q):PT X e t':=λZ s G H Q I q=>h Z s G H Q I (w G H Q q)
def PA.weak(h:PA X L t)(w:∀Z H Q,t' Z H Q->t Z H Q):PA X L t':=λpos G s Z H Q I q=>h pos G s Z H Q I (w Z H Q q)
def PS.weak(h:PS X e t)(w:∀D G H,t' D G H->t D G H):PS X e t':=λZ s G H D I q=>h Z s G H D I (w D G H q)
def Lq.weak(h:Lq X e t)(w:∀D G H,t' D G H->t D G H):Lq X e t':=λZ s G H D I q=>h Z s G H D I (w D G H q)
def Bc.weak(h:Bc X f r)(w:∀x y H Q,r' x y H Q->r x y H Q):Bc X f r':=λZ s R H x y v u Q I L G q=>h Z s R H x y v u Q I L G (w x y H Q q)
section
variable(nm:Nm)(W:Fd)(K:Fg)
def tE(e:Ex):TE:=fun σ H Q=>∃L ρ M d R,ju nm K L H M/\qu K L H ρ σ/\e.den W ρ M=.ok d R/\∀Z G v,Le L H Z G->ju nm K Z G R->Rep K Z G d v->Q v G
def tQ(e:Ex):TT:=fun σ H Q=>∃G ρ M b R,ju nm K G H M/\qu K G H ρ σ/\e.den W ρ M=.ok (.bl b) R/\∀Z L,Le G H Z L->ju nm K Z L R->Q b L
def Xv(es:Cu):TA:=fun σ H Q=>∃L ρ M ds M',ju nm K L H M/\qu K L H ρ σ/\es.den W ρ M=.ok ds M'/\∀Z G R,Le L H Z G->ju nm K Z G M'->jw K Z G ds R->Q R G
def T9(E:XK)(D:Ends)(R:Io)(H:Hp)(fl:MW.Flow)(ρ:En)(M:dh):Prop :=
 ∀G Z L,Le R H G Z->ju nm K G Z M->qu K G Z ρ L ->
  match fl with
  |.next=>D.nx L Z|.brk=>D.bk L Z|.cont=>D.ct L Z|.ret d=>∀v,Rep K G Z d v->D.rt v Z|.err c=>∀C,nm.xc c=some C->E (.ref C) none Z
def tS(E:XK)(st:Ar):TS:=λD σ H=>∃G ρ M L Z R,ju nm K G H M/\qu K G H ρ σ/\st.den W ρ M=.ok (L,Z) R/\T9 nm K E D G H L Z R
def tSs(E:XK)(st:qm):TS:=λD σ H=>∃G ρ M L Z R,ju nm K G H M/\qu K G H ρ σ/\st.den W ρ M=.ok (L,Z) R/\T9 nm K E D G H L Z R
end
def PE.of(h:PE X a t)(w:∀σ H Q G ρ M d M',ju nm X.K G H M->qu X.K G H ρ σ->e'.den W ρ M=.ok d M'->(∀Z L v,Le G H Z L->ju nm X.K Z L M'->Rep X.K Z L d v->Q v L)->t σ H Q):PE X a (tE nm W X.K e'):=PE.weak h fun σ H Q z_=>by obtain⟨G,ρ,M,d,M',S,R,e,q⟩:=z_;exact w σ H Q G ρ M d M' S R e q
def PT.of(h:PT X a t)(w:∀L H Q Z ρ M b M',ju nm X.K Z H M->qu X.K Z H ρ L->e'.den W ρ M=.ok (.bl b) M'->(∀G H',Le Z H G H'->ju nm X.K G H' M'->Q b H')->t L H Q):PT X a (tQ nm W X.K e'):=PT.weak h λL H Q z_=>by obtain⟨Z,ρ,M,d,M',S,R,e,q⟩:=z_;exact w L H Q Z ρ M d M' S R e q
def PA.of(h:PA X es t)(w:∀σ H Q G ρ M ds M',ju nm X.K G H M->qu X.K G H ρ σ->qq.den W ρ M=.ok ds M'->(∀Z L vs,Le G H Z L->ju nm X.K Z L M'->jw X.K Z L ds vs->Q vs L)->t σ H Q):PA X es (Xv nm W X.K qq):=PA.weak h fun σ H Q z_=>by obtain⟨G,ρ,M,d,M',S,R,e,q⟩:=z_;exact w σ H Q G ρ M d M' S R e q
def PS.of(h:PS X st t)(w:∀D σ H G ρ M L Z M',ju nm X.K G H M->qu X.K G H ρ σ->s'.den W ρ M=.ok (L,Z) M'->T9 nm X.K EX D G H L Z M'->t D σ H):PS X st (tS nm W X.K EX s'):=PS.weak h λD σ H z_=>by obtain⟨G,ρ,M,L,Z,M',S,R,e,q⟩:=z_;exact w D σ H G ρ M L Z M' S R e q
def Lq.of(h:Lq X st t)(w:∀D σ H G ρ M L Z M',ju nm X.K G H M->qu X.K G H ρ σ->s'.den W ρ M=.ok (L,Z) M'->T9 nm X.K EX D G H L Z M'->t D σ H):Lq X st (tSs nm W X.K EX s'):=Lq.weak h λD σ H z_=>by obtain⟨G,ρ,M,L,Z,M',S,R,e,q⟩:=z_;exact w D σ H G ρ M L Z M' S R e q
def one{X:Cx}{M1:dh}(S:ju nm X.K ι H M)(R:qu X.K ι H ρ σ)(ha:a'.den W ρ M=.ok x M1)(h:∀Z L v,Le ι H Z L->ju nm X.K Z L M1->qu X.K Z L ρ σ->Rep X.K Z L x v->G v L):tE nm W X.K a' σ H G :=
 ⟨ι,ρ,M,x,M1,S,R,ha,λqq H' v le S' r=>h qq H' v le S' (R.mono le) r⟩
theorem two{X:Cx}{M1 M2:dh}{G:V->V->Hp->Prop}(S:ju nm X.K ι H M)(R:qu X.K ι H L σ)(ha:a'.den W L M=.ok x M1)(hb:b'.den W L M1=.ok y M2)(h:∀Z H2 v u,Le ι H Z H2->ju nm X.K Z H2 M2->qu X.K Z H2 L σ->Rep X.K Z H2 x v->Rep X.K Z H2 y u->G v u H2) :
 tE nm W X.K a' σ H λv H1=>tE nm W X.K b' σ H1 λu H2=>G v u H2 :=
 one S R ha λqq H1 v Uu S1 R1 r1=>one S1 R1 hb λZ H2 u zg S2 R2 r2=>h Z H2 v u (Uu.trans zg) S2 R2 (r1.mono zg) r2
set_option tactic.hygienic true in
def a2g(G:X.N[i]?=some n)(L:Vis X.env.scope n)(Z:(n==("__debug__" : Str))=false)(J:(n==("__classdict__" : Str))=false):PE X (.Name n pos) (tE nm W X.K (.var i)) :=
 PE.of (O6 G L Z J) fun σ H Q Y ρ M d M' S R e q=>by
  rw[MW.ade] at e;split at e
  .rename_i u Z
   cases e;obtain⟨v,y,C⟩:=R.get Z;exact⟨v,y,q Y H v (Le.refl _ _) S C⟩
  .cases e
def a2h:PE X (.Constant (.int i) j pos) (tE nm W X.K (.cst (.int i))) :=
 PE.of avj λL H Q Z G M d M' S R e q=>by rw[MW.Kz] at e;cases e;exact q Z H _ (Le.refl _ _) S (.int i)
def a92:PE X (.Constant (.bool i) j pos) (tE nm W X.K (.cst (.bl i))) :=
 PE.of a0u λL H Q Z G M d M' S R e q=>by rw[MW.Kz] at e;cases e;exact q Z H _ (Le.refl _ _) S (.bl i)
def a2i:PE X (.Constant .none j pos) (tE nm W X.K (.cst .non)) :=
 PE.of ajq λL H Q Z G M d M' S R e q=>by rw[MW.Kz] at e;cases e;exact q Z H _ (Le.refl _ _) S .non
def a2j:PE X (.Constant (.str i) j pos) (tE nm W X.K (.cst (.str i))) :=
 PE.of ajr λL H Q Z G M d M' S R e q=>by rw[MW.Kz] at e;cases e;exact q Z H _ (Le.refl _ _) S (.str i)
def aw1(L:Gl X n)(G:X.mg n=some (.int i t))(hd:(n==("__debug__" : Str))=false):PE X (.Name n pos) (tE nm W X.K (.cst (.int i))) :=
 PE.of (ao6 (v:=.int i) L G ⟨t,rfl⟩ hd) fun σ H Q Z ρ M d M' S R e q=>by rw[MW.Kz] at e;cases e;exact q Z H _ (Le.refl _ _) S (.int i)
def rOp(R:Nm)(K:Fg)(f:Dv->Dv->dh->Res Dv):R2:=λv u H Q=>∃G M x y d M',ju R K G H M/\Rep K G H x v/\Rep K G H y u/\f x y M=.ok d M' /\
 ∀Z L w,Le G H Z L->ju R K Z L M'->Rep K Z L d w->Q w L
def Bc.of(h:Bc X f r)(w:∀v u H Q G M x y d R,ju nm X.K G H M->Rep X.K G H x v->Rep X.K G H y u->g x y M=.ok d R->(∀Z L w,Le G H Z L->ju nm X.K Z L R->Rep X.K Z L d w->Q w L)->r v u H Q):Bc X f (rOp nm X.K g) :=
 Bc.weak h λv u H Q z_=>by obtain⟨G,M,x,y,d,R,S,rv,ru,e,q⟩:=z_;exact w v u H Q G M x y d R S rv ru e q
def a2k(ho:Bc X (binaryOp op) (rOp nm X.K (MW.Dh L)))(ha:PE X a (tE nm W X.K a'))(hb:PE X b (tE nm W X.K b')):PE X (.BinOp a op b pos) (tE nm W X.K (.bin L a' b')) :=
 PE.of (a07 ho ha hb) fun σ H Q ι ρ M d M' S R e q=>by rw[MW.aoc] at e;obtain⟨x,M1,e1,e⟩:=dj e;obtain⟨y,M2,e2,e⟩:=dj e;exact two S R e1 e2 λZ H2 v u le S2 _ rv ru=>⟨Z,M2,x,y,d,M',S2,rv,ru,e,λG H' w V5 S' r=>q G H' w (le.trans V5) S' r⟩
def a2l:Bc X (binaryOp .Sub) (rOp nm X.K (MW.Dh .sub)) :=
 Bc.of av2 λv u H Q Z M x y d M' S G R e q=>by obtain⟨i,j,rfl,rfl,L⟩:=MW.Wk e (by intro z;cases z);cases G;cases R;cases L;exact⟨_,_,rfl,rfl,q Z H _ (Le.refl _ _) S (.int _)⟩
def aw2{g:Int->Int->Int}{P:Int->Int->Prop}[∀i j,Decidable (P i j)](h:Bc X (binaryOp op) r)(hb:∀x y M,MW.Dh G x y M=MW.ii x y (λi j=>if P i j then .ok (.int (g i j)) M else .bad) .bad)(w:∀i j H Q,P i j->Q (.int (g i j)) H->r (.int i) (.int j) H Q):Bc X (binaryOp op) (rOp nm X.K (MW.Dh G)) :=
 Bc.of h λv u H Q R M x y d M' S rv ru e q=>by
  rw[hb] at e;obtain⟨i,j,rfl,rfl,Z⟩:=MW.Wk e (by intro z;cases z)
  by_cases L:P i j
  .rw[bf L] at Z
   cases rv;cases ru;cases Z;exact w i j H Q L (q R H _ (Le.refl _ _) S (.int _))
  .rw[az L] at Z;cases Z
def a2m:Bc X (binaryOp .Mod) (rOp nm X.K (MW.Dh .mod)):=aw2 av4 (λ_ _ _=>rfl) λi j H Q h q=>⟨_,_,rfl,rfl,h,q⟩
def aw3:Bc X (binaryOp .FloorDiv) (rOp nm X.K (MW.Dh .fdiv)):=aw2 apf (λ_ _ _=>rfl) λi j H Q h q=>⟨_,_,rfl,rfl,h,q⟩
def a2n:Bc X (binaryOp .Pow) (rOp nm X.K (MW.Dh .pow)):=aw2 av5 (λ_ _ _=>rfl) λi j H Q h q=>⟨_,_,rfl,rfl,⟨h.1,by omega,h.2.2⟩,q⟩
set_option tactic.hygienic true in
def u9{X:Cx}(S:ju nm X.K Z H M)(r:Rep X.K Z H d v)(h:MW.iw M d=some ds):∃p vs,v=.ref p/\H p=some (.lst vs)/\jw X.K Z H ds vs:=by
 cases r with
 |vl e n r=>simp[MW.iw] at h;subst h;exact⟨_,_,rfl,e,r⟩
 |ref e =>
  rename_i n p;simp only[MW.iw] at h;split at h<;>simp at h;rename_i G J;subst h;obtain⟨vs,C,Y⟩:=S.obj n _ p J e;exact⟨p,vs,rfl,C,Y⟩
 |_=>simp[MW.iw] at h
def Gf{X:Cx}(S:ju nm X.K R H M)(r:Rep X.K R H d v)(h:MW.zu M d=some ds):∃p vs,v=.ref p/\(H p=some (.lst vs)\/H p=some (.tup vs))/\jw X.K R H ds vs:=by
 cases r with
 |tup e r=>simp[MW.zu] at h;subst h;exact⟨_,_,rfl,.inr e,r⟩
 |vl e n r =>
  obtain⟨p,vs,L,G,Z⟩:=u9 S (.vl e n r) (show MW.iw M _=_ from h);exact⟨p,vs,L,.inl G,Z⟩
 |ref e =>
  obtain⟨p,vs,L,G,Z⟩:=u9 S (.ref e) (show MW.iw M _=_ from h);exact⟨p,vs,L,.inl G,Z⟩
 |_=>simp[MW.zu,MW.iw] at h
def Xw{X:Cx}(S:ju nm X.K Z H M)(R:H p=none)(r:jw X.K Z H ds G):ju nm X.K Z (upd H p (.lst G)) M/\Le Z H Z (upd H p (.lst G))/\Rep X.K Z (upd H p (.lst G)) (.vl ds) (.ref p):=by obtain⟨S1,L⟩:=S.laid R (.lst G);exact⟨S1,L,.vl m8 (S.fresh R) (r.mono L)⟩
def Iu{X:Cx}(S:ju nm X.K Z H M)(hp:H p=none)(r:jw X.K Z H ds G):ju nm X.K Z (upd H p (.tup G)) M/\Le Z H Z (upd H p (.tup G))/\Rep X.K Z (upd H p (.tup G)) (.tup ds) (.ref p):=by obtain⟨R,L⟩:=S.laid hp (.tup G);exact⟨R,L,.tup m8 (r.mono L)⟩
def ap5{X:Cx}(S:ju nm X.K Z H M)(R:H p=none)(r:jw X.K Z H ds G):ju nm X.K (Z.add p) (upd H p (.lst G)) (M++[.lst ds])/\Le Z H (Z.add p) (upd H p (.lst G))/\Rep X.K (Z.add p) (upd H p (.lst G)) (.ref M.length) (.ref p):=by
 obtain⟨S1,L⟩:=S.new (H':=upd H p (.lst G)) (o:=.lst ds) R (λa u e=>by rw[gr (jt e R)];exact e) λL=>⟨G,m8,r.mono L⟩
 exact⟨S1,L,.ref (by show(Z.l++[p])[M.length]?=some p;rw[<- S.len];simp)⟩
def Ua:(100000:Nat)<=sizeLine:=by decide
set_option tactic.hygienic true in
def ap6(h:MW.Dh .add x y M=.ok d M'):(∃i j,x=.int i/\y=.int j/\d=.int (i+j)/\M'=M) \/
 (∃Y Z,x=.tup Y/\y=.tup Z/\Y.length+Z.length<=100000/\d=.tup (Y++Z)/\M'=M) \/
 ∃Y Z,MW.iw M x=some Y/\MW.iw M y=some Z/\Y.length+Z.length<=100000/\d=.vl (Y++Z)/\M'=M:=by
 have h:MW.ah9 x y M=.ok d M':=h;unfold MW.ah9 at h;split at h<;>try cases h
 .exact .inl ⟨_,_,rfl,rfl,rfl,rfl⟩
 .split at h<;>cases h
  rename_i G;exact .inr (.inl ⟨_,_,rfl,rfl,G,rfl,rfl⟩)
 .split at h
  .split at h<;>cases h
   rename_i L J C;exact .inr (.inr ⟨_,_,L,J,C,rfl,rfl⟩)
  .cases h
set_option tactic.hygienic true in
def ap7(h:MW.ada x y M=.ok d Y):(∃i j,x=.int i/\y=.int j/\ape i j/\d=.int (i*j)/\Y=M)\/∃z,∃k:Nat,x=.tup [z]/\y=.int k/\k<=100000/\d=.tup (List.replicate k z)/\Y=M:=by
 unfold MW.ada at h;split at h
 .split at h
  .rename_i n
   split at h
   .rename_i J
    cases h;exact .inr ⟨_,n.toNat,rfl,by rw[Int.toNat_of_nonneg J.1],by omega,rfl,rfl⟩
   .cases h
  .cases h
 .obtain⟨i,j,rfl,rfl,Z⟩:=MW.Wk h (by intro z;cases z)
  split at Z
  .rename_i G
   cases Z;exact .inl ⟨i,j,rfl,rfl,G,rfl,rfl⟩
  .cases Z
theorem Z5(r:Rep K Z H d v):∀k:Nat,jw K Z H (List.replicate k d) (List.replicate k v)
 |0=>.nil|k+1=>.cons r (Z5 r k)
def a2o:Bc X (binaryOp .Mult) (rOp nm X.K (MW.Dh .mul)) :=
 Bc.of (av3.or ap4) λv u H Q G M x y d M' S L R e q=>by
  rcases ap7 e with⟨i,j,rfl,rfl,hc,rfl,rfl⟩|⟨z,k,rfl,rfl,hk,rfl,rfl⟩
  .cases L;cases R
   exact .inl ⟨_,_,rfl,rfl,hc,q G H _ (Le.refl _ _) S (.int _)⟩
  .cases R
   cases L with
   |tup e1 Z =>
    cases Z with
    |cons Z r2 =>
     cases r2;refine .inr ⟨_,_,k,rfl,rfl,Hl.of e1,hk,λh1=>?_,λp hp=>?_⟩
     .subst h1
      exact q G H _ (Le.refl _ _) S (.tup e1 (.cons Z .nil))
     .obtain⟨a,b,c⟩:=Iu S hp (Z5 Z k)
      exact q G _ _ b a c
def a2p:Bc X (binaryOp .Add) (rOp nm X.K (MW.Dh .add)) :=
 Bc.of (av1.or (awm.or apr)) λv u H Q ι M x y d M' S rv ru e q=>by
  have Z:∀R ys,MW.iw M x=some R->MW.iw M y=some ys->R.length+ys.length<=100000->d=.vl (R++ys)->M'=M->a1v v u H Q:=λR ys h1 h2 hl hd hm=>by
   subst hd hm;obtain⟨p,vs,rfl,e1,L⟩:=u9 S rv h1;obtain⟨p2,qq,rfl,e2,G⟩:=u9 S ru h2;refine⟨p,p2,vs,qq,rfl,rfl,e1,e2,?_,λp3 h3=>?_⟩
   .rw[<- L.length,<- G.length];exact dq hl Ua
   .obtain⟨a,b,c⟩:=Xw S h3 (L.append G)
    exact q ι _ _ b a c
  rcases ap6 e with⟨i,j,rfl,rfl,rfl,rfl⟩|⟨R,ys,rfl,rfl,hl,rfl,rfl⟩|⟨R,ys,h1,h2,hl,h3,h4⟩
  .cases rv;cases ru
   exact .inl ⟨_,_,rfl,rfl,q ι H _ (Le.refl _ _) S (.int _)⟩
  .cases rv with
   |tup e1 L =>
    cases ru with
    |tup e2 G =>
     refine .inr (.inr ⟨_,_,_,_,rfl,rfl,Hl.of e1,Hl.of e2,?_,λhn=>?_,λhn=>?_,λp hp=>?_⟩)
     .rw[<- L.length,<- G.length];exact dq hl Ua
     .have:=L.length
      rw[hn] at this;rw[qp.mp this,List.nil_append] at q;exact q ι H _ (Le.refl _ _) S (.tup e2 G)
     .have:=G.length
      rw[hn] at this;rw[qp.mp this,jm] at q;exact q ι H _ (Le.refl _ _) S (.tup e1 L)
     .obtain⟨a,b,c⟩:=Iu S hp (L.append G)
      exact q ι _ _ b a c
  .exact .inr (.inl (Z _ _ h1 h2 hl h3 h4))
def agx{t:TE}(h:PT X a (λZ H Q=>t Z H λx H1=>∃c,x=.bl c/\Q c H1))(w:∀Z H Q,tE nm W X.K a' Z H Q->t Z H Q):PT X a (tQ nm W X.K a') :=
 PT.of h λZ H Q L ρ M b M' S R e q=>w Z H _ ⟨L,ρ,M,_,M',S,R,e,λG H' v le S' r=>by cases r;exact⟨b,rfl,q G H' le S'⟩⟩
def a2r(h:PE X a (tE nm W X.K L))(G:∀Z,isTrue a X.env Z=(do let v <- Z;standAt a.pos;holding [v] (truthy v))):PT X a (tQ nm W X.K L) :=
 agx (avm h G) λ_ _ _ q=>q
def Jm(G:Nm)(K:Fg)(L:Cp):R2:=λv u H Q=>∃Z M x y b,ju G K Z H M/\Rep K Z H x v/\Rep K Z H y u/\MW.Dl L x y M=some b/\Q (.bl b) H
def Z6{X:Cx}:∀L H Q,tE nm W X.K (.cmp G a' b') L H Q->tOp (Jm nm X.K G) (tE nm W X.K a') (tE nm W X.K b') L H Q:=λL H Q hh=>by obtain⟨ι,ρ,M,d,M',S,R,e,q⟩:=hh;rw[MW.adf] at e;obtain⟨x,M1,e1,e⟩:=dj e;obtain⟨y,M2,e2,e⟩:=dj e;obtain⟨e,rfl⟩:=xg e;obtain⟨b,e3,rfl⟩:=cg.mp e;exact two S R e1 e2 λZ H2 v u le S2 _ rv ru=>⟨Z,M',x,y,b,S2,rv,ru,e3,q Z H2 _ le S2 (.bl b)⟩
def a2s(ho:Bc X (compareOp op) (Jm nm X.K Z))(ha:PE X a (tE nm W X.K R))(G:PE X b (tE nm W X.K b'))(L:behindInMarks op b=false):PE X (.Compare a [op] [b] pos) (tE nm W X.K (.cmp Z R b')) :=
 PE.weak (aeb ho ha G L) Z6
def a2t(ho:Bc X (compareOp op) (Jm nm X.K Z))(ha:PE X a (tE nm W X.K G))(R:PE X b (tE nm W X.K L))(hm:behindInMarks op b=false):PT X (.Compare a [op] [b] pos) (tQ nm W X.K (.cmp Z G L)) :=
 agx (t:=tOp (Jm nm X.K Z) (tE nm W X.K G) (tE nm W X.K L)) (aec ho ha R hm) Z6
def Ub{X:Cx}:∀σ H Q,tE nm W X.K (.chain op1 op2 a' b' c') σ H Q->Xg (Jm nm X.K op1) (Jm nm X.K op2) (tE nm W X.K a') (tE nm W X.K b') (tE nm W X.K c') σ H Q:=fun σ H Q hh=>by
 obtain⟨ι,ρ,M,d,M',S,R,e,q⟩:=hh;rw[MW.aft] at e;obtain⟨x,M1,e1,e⟩:=dj e;obtain⟨y,M2,e2,e⟩:=dj e;obtain⟨k,Z,e3,e⟩:=dj e;obtain⟨e3,rfl⟩:=xg e3;refine two S R e1 e2 λG H2 v u le S2 R2 rv ru=>⟨G,Z,x,y,k,S2,rv,ru,e3,k,rfl,?_⟩
 cases k with
 |false =>
  have e:Res.ok (MW.D.bl false) Z=.ok d M':=e;cases e;exact q G H2 _ le S2 (.bl false)
 |true =>
  have e:((c'.den W ρ Z).bind λz M3=>Res.ue ((MW.Dl op2 y z M3).map MW.D.bl) M3)=.ok d M':=e;obtain⟨z,M3,e4,e⟩:=dj e;obtain⟨e,rfl⟩:=xg e;obtain⟨b,e5,rfl⟩:=cg.mp e;show tE nm W X.K c' σ H2 _;exact one S2 R2 e4 λL H3 w Oi S3 _ rw=>⟨L,M',y,z,b,S3,ru.mono Oi,rw,e5,q L H3 _ (le.trans Oi) S3 (.bl b)⟩
def ap8(h1:Bc X (compareOp G) (Jm nm X.K op1))(h2:Bc X (compareOp Z) (Jm nm X.K op2))(ha:PE X a (tE nm W X.K a'))(L:PE X b (tE nm W X.K b'))(R:PE X c (tE nm W X.K c'))(hm:lastMarks [G,Z] [b,c]=false) :
 PE X (.Compare a [G,Z] [b,c] pos) (tE nm W X.K (.chain op1 op2 a' b' c')):=PE.weak (ajz h1 h2 ha L R hm) Ub
def ap9(h1:Bc X (compareOp R) (Jm nm X.K op1))(h2:Bc X (compareOp G) (Jm nm X.K op2))(ha:PE X a (tE nm W X.K Z))(hb:PE X b (tE nm W X.K L))(hc:PE X c (tE nm W X.K c'))(hm:lastMarks [R,G] [b,c]=false) :
 PT X (.Compare a [R,G] [b,c] pos) (tQ nm W X.K (.chain op1 op2 Z L c')):=agx (t:=Xg (Jm nm X.K op1) (Jm nm X.K op2) (tE nm W X.K Z) (tE nm W X.K L) (tE nm W X.K c')) (aj0 h1 h2 ha hb hc hm) Ub
def Rn(r r' G:R2)(ta tb tc td:TE):TE:=λZ H Q=>ta Z H λx H1=>tb Z H1 λy H2=>r x y H2 λz R=>∃k,z=.bl k /\
 (if k=true then tc Z R λw' H4=>r' y w' H4 λz L=>∃k,z=.bl k/\(if k=true then td Z L λu' H6=>G w' u' H6 Q else Q (.bl false) L) else Q (.bl false) R)
def agz{X:Cx}{a b c d:Expr}{ta tb tc td:TE}{pos:Pos}{op G L:CmpOp}{r r' qq:R2}(ho:Bc X (compareOp op) r)(Uw:Bc X (compareOp G) r')(qk:Bc X (compareOp L) qq)(ha:PE X a ta)(hb:PE X b tb)(hc:PE X c tc)(hd:PE X d td)
 (hm:lastMarks [op,G,L] [b,c,d]=false):PE X (.Compare a [op,G,L] [b,c,d] pos) (Rn r r' qq ta tb tc td):=by
 intro Z s R H Q I h;refine PyProof.Rows.Compare_chain (Al (ha Z s R H _ I h) λv s1 z1=>?_) hm;obtain⟨x,H1,I1,r1,q1⟩:=z1;refine PyProof.Rows.chain_link (Al (hb Z s1 R H1 _ I1 q1) λu s2 z2=>?_);obtain⟨y,H2,I2,r2,q2⟩:=z2;refine Al (ho Z s2 R H2 x y v u _ I2 r1 r2 q2) λd1 s3 z3=>?_
 obtain⟨z,H3,I3,r3,k,e,q3⟩:=z3;subst e;cases r3;refine iu ?_;cases k with
 |false=>exact vd ⟨.bl false,H3,I3,rfl,q3⟩
 |true =>
  refine vf (PyProof.Rows.chain_link (Al (hc Z s3 R H3 _ I3 q3) λw' s4 z4=>?_));obtain⟨z',H4,I4,r4,q4⟩:=z4;refine Al (Uw Z s4 R H4 y z' u w' _ I4 r2 r4 q4) λd2 s5 z5=>?_
  obtain⟨z6,H5,I5,r5,k2,e2,q5⟩:=z5;subst e2;cases r5;refine iu ?_;cases k2 with
  |false=>exact vd ⟨.bl false,H5,I5,rfl,q5⟩
  | true=>exact vf (PyProof.Rows.chain_last (Al (hd Z s5 R H5 _ I5 q5) λw2 s6 z6=>by
   obtain⟨z7,H6,I6,r6,q6⟩:=z6;exact qk Z s6 R H6 z' z7 w' w2 Q I6 r4 r6 q6))
def ag0{X:Cx}{a b c d:Expr}{ta tb tc td:TE}{pos:Pos}{op L R:CmpOp}{r r' qq:R2}(ho:Bc X (compareOp op) r)(Uw:Bc X (compareOp L) r')(qk:Bc X (compareOp R) qq)(ha:PE X a ta)(hb:PE X b tb)(hc:PE X c tc)(hd:PE X d td)
 (hm:lastMarks [op,L,R] [b,c,d]=false):PT X (.Compare a [op,L,R] [b,c,d] pos) (λG H Q=>Rn r r' qq ta tb tc td G H λx H1=>∃c,x=.bl c/\Q c H1):=by
 intro Z s G H Q I h;refine PyProof.Rows.isTrue_chain (Al (ha Z s G H _ I h) λv s1 z1=>?_) hm;obtain⟨x,H1,I1,r1,q1⟩:=z1;refine PyProof.Rows.test_link (Al (hb Z s1 G H1 _ I1 q1) λu s2 z2=>?_);obtain⟨y,H2,I2,r2,q2⟩:=z2;refine Al (ho Z s2 G H2 x y v u _ I2 r1 r2 q2) λd1 s3 z3=>?_
 obtain⟨z,H3,I3,r3,k,e,q3⟩:=z3;subst e;cases r3;refine iu ?_;cases k with
 |false =>
  obtain⟨k',e',q'⟩:=q3;cases e';exact vd ⟨H3,I3,q'⟩
 |true =>
  refine vf (PyProof.Rows.test_link (Al (hc Z s3 G H3 _ I3 q3) λw' s4 z4=>?_));obtain⟨z',H4,I4,r4,q4⟩:=z4;refine Al (Uw Z s4 G H4 y z' u w' _ I4 r2 r4 q4) λd2 s5 z5=>?_
  obtain⟨z6,H5,I5,r5,k2,e2,q5⟩:=z5;subst e2;cases r5;refine iu ?_;cases k2 with
  |false =>
   obtain⟨k',e',q'⟩:=q5;cases e';exact vd ⟨H5,I5,q'⟩
  |true =>
   refine vf (PyProof.Rows.test_last (Al (hd Z s5 G H5 _ I5 q5) λw2 s6 z6=>?_));obtain⟨z7,H6,I6,r6,q6⟩:=z6;refine Al (qk Z s6 G H6 z' z7 w' w2 _ I6 r4 r6 q6) λd' s7 z_=>?_
   obtain⟨z2,H7,I7,r7,k3,e3,q7⟩:=z_;subst e3;cases r7;exact iu ⟨H7,I7,q7⟩
def Qs{X:Cx}{d':Ex}:∀σ H Q,tE nm W X.K (.Hx op1 op2 op3 a' b' c' d') σ H Q->Rn (Jm nm X.K op1) (Jm nm X.K op2) (Jm nm X.K op3) (tE nm W X.K a') (tE nm W X.K b') (tE nm W X.K c') (tE nm W X.K d') σ H Q:=fun σ H Q hh=>by
 obtain⟨ι,ρ,M,dd,M',S,R,e,q⟩:=hh;rw[MW.abh] at e;obtain⟨x,M1,e1,e⟩:=dj e;obtain⟨y,M2,e2,e⟩:=dj e;obtain⟨k,G,e3,e⟩:=dj e;obtain⟨e3,rfl⟩:=xg e3;refine two S R e1 e2 λqq H2 v u le S2 R2 rv ru=>⟨qq,G,x,y,k,S2,rv,ru,e3,k,rfl,?_⟩
 cases k with
 |false =>
  have e:Res.ok (MW.D.bl false) G=.ok dd M':=e;cases e;exact q qq H2 _ le S2 (.bl false)
 |true =>
  have e:((c'.den W ρ G).bind λz M3=>(Res.ue (MW.Dl op2 y z M3) M3).bind λq M3=>if q then(d'.den W ρ M3).bind λw L=>Res.ue ((MW.Dl op3 z w L).map MW.D.bl) L else .ok (.bl false) M3)=.ok dd M':=e;obtain⟨z,M3,e4,e⟩:=dj e;obtain⟨k2,Z,e5,e⟩:=dj e;obtain⟨e5,rfl⟩:=xg e5;show tE nm W X.K c' σ H2 _;refine one S2 R2 e4 λqv H3 w Oi S3 R3 q0=>⟨qv,Z,y,z,k2,S3,ru.mono Oi,q0,e5,k2,rfl,?_⟩
  cases k2 with
  |false =>
   have e:Res.ok (MW.D.bl false) Z=.ok dd M':=e;cases e;exact q qv H3 _ (le.trans Oi) S3 (.bl false)
  |true =>
   have e:((d'.den W ρ Z).bind λw L=>Res.ue ((MW.Dl op3 z w L).map MW.D.bl) L)=.ok dd M':=e;obtain⟨z2,L,e6,e⟩:=dj e;obtain⟨e,rfl⟩:=xg e;obtain⟨b,e7,rfl⟩:=cg.mp e;show tE nm W X.K d' σ H3 _;exact one S3 R3 e6 λqk H4 w2 q1 S4 _ q2=>⟨qk,M',z,z2,b,S4,q0.mono q1,q2,e7,q qk H4 _ ((le.trans Oi).trans q1) S4 (.bl b)⟩
def ak8{d:Expr}{G:Ex}(h1:Bc X (compareOp R) (Jm nm X.K op1))(h2:Bc X (compareOp Z) (Jm nm X.K op2))(h3:Bc X (compareOp L) (Jm nm X.K op3))(ha:PE X a (tE nm W X.K a'))(hb:PE X b (tE nm W X.K b'))(hc:PE X c (tE nm W X.K c'))(hd:PE X d (tE nm W X.K G))(hm:lastMarks [R,Z,L] [b,c,d]=false) :
 PE X (.Compare a [R,Z,L] [b,c,d] pos) (tE nm W X.K (.Hx op1 op2 op3 a' b' c' G)):=PE.weak (agz h1 h2 h3 ha hb hc hd hm) Qs
def ak9{d:Expr}{Z:Ex}(h1:Bc X (compareOp o1) (Jm nm X.K op1))(h2:Bc X (compareOp L) (Jm nm X.K op2))(h3:Bc X (compareOp R) (Jm nm X.K op3))(ha:PE X a (tE nm W X.K G))(hb:PE X b (tE nm W X.K b'))(hc:PE X c (tE nm W X.K c'))(hd:PE X d (tE nm W X.K Z))(hm:lastMarks [o1,L,R] [b,c,d]=false) :
 PT X (.Compare a [o1,L,R] [b,c,d] pos) (tQ nm W X.K (.Hx op1 op2 op3 G b' c' Z)):=agx (t:=Rn (Jm nm X.K op1) (Jm nm X.K op2) (Jm nm X.K op3) (tE nm W X.K G) (tE nm W X.K b') (tE nm W X.K c') (tE nm W X.K Z)) (ag0 h1 h2 h3 ha hb hc hd hm) Qs
def Pb(h:Bc X (compareOp op) (rI0 λi j=>.bl (f i j)))(e:∀x y M,MW.Dl Z x y M=MW.Yv f x y):Bc X (compareOp op) (Jm nm X.K Z) :=
 Bc.weak h λv u H Q hh=>by obtain⟨ι,M,x,y,b,S,L,ru,G,q⟩:=hh;rw[e] at G;obtain⟨i,j,rfl,rfl,R⟩:=MW.Wk G (by intro z;cases z);cases L;cases ru;cases R;exact⟨_,_,rfl,rfl,q⟩
def a94:Bc X (compareOp .Lt) (Jm nm X.K .lt):=Pb a1c λ_ _ _=>rfl
def a95:Bc X (compareOp .LtE) (Jm nm X.K .le):=Pb a1d λ_ _ _=>rfl
def a96:Bc X (compareOp .Gt) (Jm nm X.K .gt):=Pb a1e λ_ _ _=>rfl
def a97:Bc X (compareOp .GtE) (Jm nm X.K .ge):=Pb a1f λ_ _ _=>rfl
set_option tactic.hygienic true in
def as9{Z:Y3}(ha:PE X a (tE nm W X.K a'))(hb:PE X (.BoolOp .And (b::Z) pos) (tE nm W X.K b')):PE X (.BoolOp .And (a::b::Z) pos) (tE nm W X.K (.and a' b')) :=
 PE.of (avq ha hb) fun σ H Q ι ρ M d M' S R e q=>by
  rw[MW.adg] at e;obtain⟨x,M1,e1,e⟩:=dj e;refine one S R e1 λG H1 v C J R1 r=>?_
  cases r<;>try cases e
  rename_i k;refine⟨k,rfl,?_⟩;cases k with
  |false=>cases e;exact q G H1 _ C J (.bl false)|true=>exact one J R1 e λY L w y S2 _ u=>q Y L w (C.trans y) S2 u
set_option tactic.hygienic true in
def a2u{Z:Y3}(ha:PE X a (tE nm W X.K a'))(hb:PE X (.BoolOp .Or (b::Z) pos) (tE nm W X.K b')):PE X (.BoolOp .Or (a::b::Z) pos) (tE nm W X.K (.or a' b')) :=
 PE.of (a0y ha hb) fun σ H Q ι ρ M d M' S R e q=>by
  rw[MW.aib] at e;obtain⟨x,M1,e1,e⟩:=dj e;refine one S R e1 λG H1 v C J R1 r=>?_
  cases r<;>try cases e
  rename_i k;refine⟨k,rfl,?_⟩;cases k with
  |true=>cases e;exact q G H1 _ C J (.bl true)|false=>exact one J R1 e λY L w y S2 _ u=>q Y L w (C.trans y) S2 u
def a2v(ha:PE X a (tE nm W X.K G)):PE X (.UnaryOp .Not a pos) (tE nm W X.K (.not G)) :=
 PE.of (avr ha) fun σ H Q ι ρ M d M' S R e q=>by
  rw[MW.Fw] at e;obtain⟨x,M1,e1,e⟩:=dj e;refine one S R e1 λZ L v le S1 R1 r=>?_
  cases r<;>try cases e
  exact⟨_,rfl,q Z L _ le S1 (.bl _)⟩
def U9{X:Cx}{M1:dh}(S:ju nm X.K ι H M)(R:qu X.K ι H ρ σ)(ha:a'.den W ρ M=.ok (.bl k) M1)(h:∀Z L,Le ι H Z L->ju nm X.K Z L M1->qu X.K Z L ρ σ->G k L):tQ nm W X.K a' σ H G :=
 ⟨ι,ρ,M,k,M1,S,R,ha,λqq H' le S'=>h qq H' le S' (R.mono le)⟩
set_option tactic.hygienic true in
def ata{rest:Y3}(ha:PT X a (tQ nm W X.K a'))(y:PW X (.BoolOp .And (b::rest) pos) (tQ nm W X.K b')):PW X (.BoolOp .And (a::b::rest) pos) (tQ nm W X.K (.and a' b')) :=
 λZ Y s σ H Q I ⟨ι,ρ,M,d,M',S,R,e,q⟩=>avo ha y Z Y s σ H Q I (by
  rw[MW.adg] at e;obtain⟨x,M1,e1,e⟩:=dj e;cases x<;>try cases e
  rename_i k;refine U9 S R e1 λG H1 L C R1=>?_
  cases k with
  | false=>cases e;exact q G H1 L C|true=>exact U9 C R1 e λJ u zg S2 _=>q J u (L.trans zg) S2)
set_option tactic.hygienic true in
def a2w{rest:Y3}(ha:PT X a (tQ nm W X.K a'))(y:PW X (.BoolOp .Or (b::rest) pos) (tQ nm W X.K b')):PW X (.BoolOp .Or (a::b::rest) pos) (tQ nm W X.K (.or a' b')) :=
 λZ Y s σ H Q I ⟨ι,ρ,M,d,M',S,R,e,q⟩=>a0v ha y Z Y s σ H Q I (by
  rw[MW.aib] at e;obtain⟨x,M1,e1,e⟩:=dj e;cases x<;>try cases e
  rename_i k;refine U9 S R e1 λG H1 L C R1=>?_
  cases k with
  | true=>cases e;exact q G H1 L C|false=>exact U9 C R1 e λJ u zg S2 _=>q J u (L.trans zg) S2)
def a2x(ha:PT X a (tQ nm W X.K G)):PT X (.UnaryOp .Not a pos) (tQ nm W X.K (.not G)) :=
 PT.of (avp ha) fun σ H Q ι ρ M d M' S R e q=>by
  rw[MW.Fw] at e;obtain⟨x,M1,e1,e⟩:=dj e;cases x<;>try cases e
  exact U9 S R e1 λZ L le S1 R1=>q Z L le S1
set_option tactic.hygienic true in
def a2y(hc:PT X c (tQ nm W X.K c'))(ha:PE X a (tE nm W X.K a'))(hb:PE X b (tE nm W X.K b')):PE X (.IfExp c a b pos) (tE nm W X.K (.ite c' a' b')) :=
 PE.of (ajs hc ha hb) fun σ H Q ι ρ M d M' S R e q=>by
  rw[MW.aof] at e;obtain⟨x,M1,e1,e⟩:=dj e;cases x<;>try cases e
  rename_i k;refine U9 S R e1 λqq H1 y L u=>?_
  cases k with
  |true=>exact one L u e λZ Y w G C _ J=>q Z Y w (y.trans G) C J
  |false=>exact one L u e λZ Y w G C _ J=>q Z Y w (y.trans G) C J
def V6:PA X [] (Xv nm W X.K .nil):=PA.of ab5 λG H Q Z ρ M ds L S R e q=>by rw[MW.Et] at e;cases e;exact q Z H _ (Le.refl _ _) S .nil
def Xx{X:Cx}{M1:dh}(S:ju nm X.K ι H M)(R:qu X.K ι H ρ σ)(ha:es'.den W ρ M=.ok ds M1)(h:∀Z L vs,Le ι H Z L->ju nm X.K Z L M1->qu X.K Z L ρ σ->jw X.K Z L ds vs->G vs L):Xv nm W X.K es' σ H G :=
 ⟨ι,ρ,M,ds,M1,S,R,ha,λqq H' v le S' r=>h qq H' v le S' (R.mono le) r⟩
def Pk(ha:PE X a (tE nm W X.K a'))(hr:PA X L (Xv nm W X.K G))(hs:starEach (a::L) X.env=(false,eval a X.env)::starEach L X.env):PA X (a::L) (Xv nm W X.K (.cons a' G)) :=
 PA.of (Np ha hr hs) fun σ H Q ι ρ M ds M' S R e q=>by rw[MW.Ay] at e;obtain⟨x,M1,e1,e⟩:=dj e;obtain⟨xs,M2,e2,e⟩:=dj e;cases e;exact one S R e1 λqq H1 v le S1 R1 r1=>Xx S1 R1 e2 λZ H2 vs zg S2 R2 r2=>q Z H2 _ (le.trans zg) S2 (.cons (r1.mono zg) r2)
noncomputable def Cu.len:Cu->Nat
 |.nil=>0|.cons _ r=>Cu.len r+1
theorem Hu{W:Fd}:∀{Z:Cu}{ρ:En}{M G:dh}{L:List Dv},Z.den W ρ M=.ok L G->L.length=Cu.len Z
 |.nil,_,_,_,_,e=>by rw[MW.Et] at e;cases e;rfl
 |.cons _ r,_,_,_,_,e=>by
  rw[MW.Ay] at e;obtain⟨x,G,e1,e⟩:=dj e;obtain⟨xs,M2,R,e⟩:=dj e;cases e;rw[gq,Hu R];rfl
def a2z(h:PA X es (Xv nm W X.K Z))(hl:Cu.len Z<=1000):PE X (.Tuple es k pos) (tE nm W X.K (.tup Z)) :=
 PE.of (av9 h) fun σ H Q ι ρ M d M' S R e q=>by
  rw[MW.adh] at e;obtain⟨ds,M1,L,e⟩:=dj e;cases e;refine Xx S R L λG H1 vs le S1 R1 r=>⟨?_,λp hp=>?_⟩
  .rw[<- r.length,Hu L];exact dq hl (by decide)
  .obtain⟨S2,zg,r2⟩:=Iu S1 hp r
   exact q G _ _ (le.trans zg) S2 r2
def aw6(h:PA X es (Xv nm W X.K Z))(hl:Cu.len Z<=1000):PE X (.List es pos) (tE nm W X.K (.Dg Z)) :=
 PE.of (aj3 h) fun σ H Q ι ρ M d M' S R e q=>by
  rw[MW.aic] at e;obtain⟨ds,M1,L,e⟩:=dj e;cases e;refine Xx S R L λG H1 vs le S1 R1 r=>⟨?_,λp hp=>?_⟩
  .rw[<- r.length,Hu L];exact dq hl (by decide)
  .obtain⟨S2,zg,r2⟩:=Xw S1 hp r
   exact q G _ _ (le.trans zg) S2 r2
def a3a(h:PA X es (Xv nm W X.K Z))(hl:Cu.len Z<=1000):PE X (.List es pos) (tE nm W X.K (.lst Z)) :=
 PE.of (aj3 h) fun σ H Q ι ρ M d M' S R e q=>by
  rw[MW.aog] at e;obtain⟨ds,M1,G,e⟩:=dj e;cases e;refine Xx S R G λL H1 vs le S1 R1 r=>⟨?_,λp hp=>?_⟩
  .rw[<- r.length,Hu G];exact dq hl (by decide)
  .obtain⟨S2,zg,r2⟩:=ap5 S1 hp r
   exact q _ _ _ (le.trans zg) S2 r2
def a3b(ha:PE X a (tE nm W X.K G)):PE X (.UnaryOp .USub a pos) (tE nm W X.K (.neg G)) :=
 PE.of (a08 av6 ha) fun σ H Q ι ρ M d M' S R e q=>by
  rw[MW.aod] at e;obtain⟨x,M1,e1,e⟩:=dj e;refine one S R e1 λZ L v le S1 R1 r=>?_
  cases r<;>try cases e
  exact⟨_,rfl,q Z L _ le S1 (.int _)⟩
open PyProof.Rows (subscriptTail)
section
variable{κ:Type}[DecidableEq κ]{K:Fg}{ι:Io}{H:Hp}
theorem ni.length{κ Z:Type}{f:κ->Z->Prop}:∀{l:List (κ×Dv)}{G:List (Z×V)},ni K ι H f l G->l.length=G.length:=by intro _ _ h;induction h with|nil=>rfl|cons _ _ _ ih=>rw[gq,gq,ih]
theorem ni.look{k:κ}:∀{Z:List (κ×Dv)}{l:List (κ×V)},ni K ι H (λk L=>k=L) Z l->(∀d,MW.Ft Z k=some d->∃v,Pa l k=some v/\Rep K ι H d v)/\(MW.Ft Z k=none->Pa l k=none)
 |_,_,.nil=>⟨λd h=>by simp[MW.Ft] at h,λ_=>rfl⟩
 |_,_,.cons (k:=q) (k':=q') hk h t=>by
  subst hk;obtain⟨a,b⟩:=ni.look (k:=k) t
  by_cases e:q=k
  .refine⟨λd G=>?_,λG=>?_⟩
   .simp[MW.Ft,n8,e] at G
    subst G;exact⟨_,Nr e,h⟩
   .simp[MW.Ft,n8,e] at G
  .have z:∀(d:Dv) r,MW.Ft ((q,d)::r) k=MW.Ft r k:=λd r=>by simp[MW.Ft,n8,e]
   rw[z,Nt (by exact e)];exact⟨a,b⟩
theorem ni.any{k:κ}:∀{Z:List (κ×Dv)}{l:List (κ×V)},ni K ι H (λk L=>k=L) Z l->(Z.any λG=>decide (G.1=k))=(l.any λG=>decide (G.1=k))
 |_,_,.nil=>rfl|_,_,.cons hk h t=>by subst hk;simp only[yq,ni.any t]
theorem ni.ab6{k:κ}{d:Dv}{v:V}(r:Rep K ι H d v):∀{G:List (κ×Dv)}{l:List (κ×V)},ni K ι H (λk L=>k=L) G l ->
 ni K ι H (λk L=>k=L) (G.map λZ=>if Z.1=k then(Z.1,d) else Z) (l.map λZ=>if Z.1=k then(Z.1,v) else Z)
 |_,_,.nil=>.nil
 |_,_,.cons (k:=q) hk h t=>by
  subst hk;simp only[du]
  by_cases e:q=k
  .simp only[e,j6];exact .cons rfl r (ni.ab6 r t)
  .simp only[e,jk];exact .cons rfl h (ni.ab6 r t)
theorem ni.snoc{κ Z:Type}{f:κ->Z->Prop}{k:κ}{G:Z}{d:Dv}{v:V}(L:f k G)(r:Rep K ι H d v):∀{l:List (κ×Dv)}{R:List (Z×V)},ni K ι H f l R->ni K ι H f (l++[(k,d)]) (R++[(G,v)])
 |_,_,.nil=>.cons L r .nil|_,_,.cons q h t=>.cons q h (ni.snoc L r t)
def ni.put{k:κ}(r:Rep K ι H d v)(t:ni K ι H (λk Z=>k=Z) kvs l):ni K ι H (λk Z=>k=Z) (MW.Ja kvs k d) (putK l k v):=by
 unfold MW.Ja putK;rw[t.any (k:=k)]
 by_cases e:(l.any λG=>decide (G.1=k))=true
 .rw[bf e,bf e];exact t.ab6 r
 .rw[az e,az e];exact t.snoc rfl r
theorem ni.Gw{Z:Nm}{f:Nat}{d:Dv}{v:V}(r:Rep K ι H d v):∀{fs:List (Nat×Dv)}{l:List (Str×V)},ni K ι H (λk G=>G=Z.fld k) fs l->ni K ι H (λk G=>G=Z.fld k) (MW.Qd f d fs) (L2.Gw (Z.fld f) v l)
 |_,_,.nil=>.cons rfl r .nil
 |_,_,.cons (k:=q) (k':=q') hk h t=>by
  subst hk;unfold MW.Qd L2.Gw
  by_cases e:q=f
  .subst e
   simp only[j6];exact .cons rfl r t
  .have L:¬Z.fld q=Z.fld f:=λz=>e (Z.inj _ _ z)
   rw[az e,az L];exact .cons rfl h (ni.Gw r t)
def aw7(r:Rep K ι H d v)(h:MW.ah7 d=some k):v=kV k:=by cases r<;>simp[MW.ah7] at h<;>subst h<;>rfl
set_option tactic.hygienic true in
theorem ala:∀{G:List Dv}{Z:List V}{Y:List Kx},jw K ι H G Z->MW.abe G=some Y->Z=Y.map kV
 |_,_,_,.nil,h=>by simp[MW.abe] at h;subst h;rfl
 |_,_,_,.cons r t,h=>by
  simp only[MW.abe] at h;split at h
  .rename_i k L J C
   cases h;rw[aw7 r J,ala t C];rfl
  .cases h
def Pn(r:Rep K ι H d v)(h:MW.Mx d=some Z):∃b,v=.ref b/\H b=some (.tup (Z.map kV)):=by
 cases r with
 |tup e r=>exact⟨_,rfl,by rw[<- ala r h];exact e⟩|_=>simp[MW.Mx] at h
end
def a98(G:Nm)(K:Fg):R2:=λv u H Q=>∃Z M x y d,ju G K Z H M/\Rep K Z H x v/\Rep K Z H y u/\MW.Aq x y M=some d/\∀w,Rep K Z H d w->Q w H
def aw8(hu:X.A.units+1<cLine):IxR X (λx y H Q=>∃a v,x=.ref a/\U6 H a y (some v)/\Q v H):=by intro G Z L s σ H x y v u Q I rx ry h hs;obtain⟨p,z,rfl,g,q⟩:=h;cases rx;exact PyProof.Rows.tail_any (Zv I g) PySem.F.slot_dict_getitem.lookup (agn hu I g ry λw' s' R r=>⟨z,H,R,r,q⟩) hs
set_option tactic.hygienic true in
def aw9(hu:X.A.units+1<cLine):IxR X (a98 nm X.K):=by
 intro Y Z G s σ H v u v' u' Q I rv ru ⟨ι,M,x,y,d,S,rx,ry,e,q⟩ hs;have C:∀(p:Addr)(L:List V)(ds:List Dv),v=.ref p->(Ha X.K H p L\/Hl X.K H p L)->jw X.K ι H ds L->(match y with|.int i=>(MW.Ux ds.length i).bind λj=>ds[j]?|_=>none)=some d ->
  wpAny (model X.prog X.w) X.A (subscriptTail Y Z v' u') (EP X G σ Q) X.xe s:=λp L ds hv hq r e=>by
  subst hv;obtain⟨i,qk⟩:∃i,y=.int i:=by cases y<;>first|exact⟨_,rfl⟩|cases e
  subst qk;cases ry;obtain⟨j,J,e2⟩:=gm.mp e;obtain⟨z,h1,R⟩:=r.get e2;have qq:atI L i=some z:=by unfold atI;rw[show ixN L.length i=some j from by rw[<- r.length];exact J];exact h1
  rcases hq with hq|hq
  .exact L2.Fy Y Z G s σ H _ _ v' u' Q I rv ru ⟨p,L,i,z,rfl,rfl,hq,qq,q z R⟩ hs
  .exact L2.Jr Y Z G s σ H _ _ v' u' Q I rv ru ⟨p,L,i,z,rfl,rfl,hq,qq,q z R⟩ hs
 cases rx with
 |tup J r1=>exact C _ _ _ rfl (.inr (Hl.of J)) r1 (by cases ry<;>first|exact e|(simp[MW.Aq,MW.zu] at e))
 |vl J n1 r1=>exact C _ _ _ rfl (.inl (Ha.of J)) r1 (by cases ry<;>first|exact e|(simp[MW.Aq,MW.zu,MW.iw] at e))
 |fz J r1=>exact C _ _ _ rfl (.inl J.sq) r1 (by cases ry<;>first|exact e|(simp[MW.Aq] at e))
 |ref J =>
  rename_i n p;simp only[MW.Aq] at e;split at e
  .rename_i qv hn
   obtain⟨l,h1,R⟩:=S.obj n _ p hn J;obtain⟨k,e2,e3⟩:=gm.mp e;obtain⟨z,h3,h4⟩:=(R.look (k:=k)).1 d e3;obtain⟨b,rfl,hb⟩:=Pn ry e2;exact aw8 hu Y Z G s σ H _ _ v' u' Q I rv ru ⟨p,z,rfl,by rw[<- h3];exact U6.t h1 hb,q z h4⟩ hs
  .cases hl:MW.iw M (.ref n) with
   |none=>rw[hl] at e;cases e
   |some ds =>
    obtain⟨p',L,hp,h1,R⟩:=u9 S (.ref J) hl;cases hp;rw[hl] at e;exact C _ _ _ rfl (.inl (Ha.of h1)) R (by cases ry<;>first|exact e|cases e)
 |_=>simp[MW.Aq,MW.zu,MW.iw] at e
def a99(hu:X.A.units+1<cLine)(ha:PE X a (tE nm W X.K a'))(hb:PE X b (tE nm W X.K b'))(hs:Xj b):PE X (.Subscript a b pos) (tE nm W X.K (.ix a' b')) :=
 PE.of (a1r (aw9 (nm:=nm) hu) ha hb hs) fun σ H Q ι ρ M d M' S R e q=>by rw[MW.aue] at e;obtain⟨x,M1,e1,e⟩:=dj e;obtain⟨y,M2,e2,e⟩:=dj e;obtain⟨e,rfl⟩:=xg e;exact two S R e1 e2 λZ L v u le G _ rv ru=>⟨Z,M',x,y,d,G,rv,ru,e,λw r=>q Z L w le G r⟩
open MW (Ex Cu OEx Og Ar qm Lv Tg Res dh MO Fd Cp Op2 Blt Bm Kx Src)
noncomputable def Ml:Expr->Bool
 |.ListComp ..=>false|.SetComp ..=>false|.DictComp ..=>false|_=>true
def Hb(h:Ml e=true)(t:Option Expr)(l:Nat)(Z:Env):swapsWith e t l Z=pure false:=by cases e<;>first|rfl|(cases h)
noncomputable def Er:Expr->Bool
 |.Set ..=>false|_=>true
def Dc(h:Er e=true)(Z:Env)(x:Value):foldedSetIterable e Z x=pure x:=by cases e<;>first|rfl|(cases h)
def Hc(h:Er e=true)(Z:CmpOp):behindInMarks Z e=false:=by cases e<;>first|rfl|(cases h)
noncomputable def atb:Expr->Bool
 |.Tuple ..=>false|_=>true
noncomputable def noStar:Expr->Bool
 |.Starred ..=>false|_=>true
def ou(h:noStar e=true)(Z:Y3)(env:Env):starEach (e::Z) env=(false,eval e env)::starEach Z env:=by cases e<;>first|rfl|(cases h)
noncomputable def Xy:Expr->Bool
 |.Slice ..=>false|_=>true
def alb(h:Xy e=true):Xj e:=by intro o i;cases e<;>first|rfl|(cases h)
noncomputable def Aw:Tg->List Nat
 |.name i=>[i]|.names is=>is
def tGt(nm:Nm)(K:Fg)(t:Tg):TG:=λv R H Q=>∃L ρ M d G,ju nm K L H M/\qu K L H ρ R/\Rep K L H d v/\t.put d ρ=some G/\∀Z,qu K L H G Z->Z.length=R.length->(∀j,j∉Aw t->Z[j]?=R[j]?)->Q Z H
def PG.weak(h:PG X tg t)(w:∀v G H Q,t' v G H Q->t v G H Q):PG X tg t':=λZ s G H v u Q I r q=>h Z s G H v u Q I r (w v G H Q q)
def PG.of(h:PG X tg t)(w:∀v σ H Q L ρ M d G,ju nm X.K L H M->qu X.K L H ρ σ->Rep X.K L H d v->tt.put d ρ=some G->(∀Z,qu X.K L H G Z->Z.length=σ.length->(∀j,j∉Aw tt->Z[j]?=σ[j]?)->Q Z H)->t v σ H Q):PG X tg (tGt nm X.K tt) :=
 PG.weak h λv σ H Q z_=>by obtain⟨L,ρ,M,d,G,S,R,r,e,q⟩:=z_;exact w v σ H Q L ρ M d G S R r e q
def axa(G:X.N.Nodup)(Z:X.N[i]?=some n)(hx:Loc X.env.scope n)(L:X.fn n=true\/X.env.scope.names.lookup n=some .local):PG X (.Name n pos) (tGt nm X.K (.name i)) :=
 PG.of (Nk G Z hx L) λv σ H Q ι ρ M d qq S R r e q=>by cases e;exact q _ (R.set r i) (by simp) λj hj=>uq (λz=>hj (by simp[Aw,z]))
noncomputable def Iv:List Nat->List V->St->St
 |i::is,v::vs,σ=>Iv is vs (σ.set i (some v))|_,_,σ=>σ
theorem Uc{Z:Io}{H:Hp}{K:Fg}:∀{is:Y2}{ds:List Dv}{G:List V}{ρ:En}{L:St},qu K Z H ρ L->jw K Z H ds G->qu K Z H (MW.Lz is ds ρ) (Iv is G L)
 |[],_,_,_,_,R,r=>by cases r<;>exact R|_::_,_,_,_,_,R,.nil=>R|i::is,_,_,_,_,R,.cons h t=>Uc (is:=is) (R.set h i) t
theorem Nx:∀{is:Y2}{G:List V}{Z:St}{j:Nat},j∉is->(Iv is G Z)[j]?=Z[j]?
 |[],G,Z,j,_=>by cases G<;>rfl|i::is,[],Z,j,_=>rfl
 |i::is,v::G,Z,j,h=>by
  show(Iv is G (Z.set i (some v)))[j]?=_;rw[Nx (λz=>h (bc _ z)),uq (λz=>h (by rw[z];exact bu))]
theorem Qt:∀{is:Y2}{G:List V}{Z:St},(Iv is G Z).length=Z.length
 |[],G,Z=>by cases G<;>rfl|_::_,[],Z=>rfl|i::is,v::G,Z=>by show(Iv is G (Z.set i (some v))).length=_;rw[Qt,List.length_set]
inductive Iw(X:Cx):List Expr->List Nat->Prop
 |nil:Iw X [] []
 |cons {n:Str} {p:Pos} {i:Nat} {ts:Y3} {is:Y2} (hi:X.N[i]?=some n) (hx:Loc X.env.scope n) (hf:X.fn n=true\/X.env.scope.names.lookup n=some .local) (t:Iw X ts is):Iw X (.Name n p::ts) (i::is)
theorem Z7{X:Cx}(hN:X.N.Nodup):∀{ts:Y3}{is:Y2},Iw X ts is->PGs X ts (λG L H Q=>G.length=is.length/\Q (Iv is G L) H)
 |_,_,.nil=>λZ s L H G us Q I r q=>by
  obtain⟨R,h2⟩:=q;have hv:G=[]:=qp.mp R;subst hv;exact apa Z s L H [] us Q I r ⟨rfl,h2⟩
 |_,_,.cons hi hx hf t=>λZ s L H G us Q I r q=>by
  obtain⟨R,h2⟩:=q;cases G with
  |nil=>simp at R|cons v G=>exact aju (Nk hN hi hx hf) (Z7 hN t) (by rfl) Z s L H (v::G) us Q I r ⟨v,G,rfl,by simpa using R,h2⟩
theorem Ef{X:Cx}{env:Env}:∀{Z:Y3}{is:Y2},Iw X Z is->(assignEach Z env).length=is.length/\(assignEach Z env).findIdx? (·.1)=none
 |_,_,.nil=>⟨rfl,rfl⟩
 |_,_,.cons hi hx hf t=>by
  obtain⟨L,G⟩:=Ef (env:=env) t;refine⟨by simp[assignEach,L],?_⟩;simp[assignEach,List.findIdx?_cons];simpa using G
set_option tactic.hygienic true in
def aqa(G:X.calm=true)(J:X.N.Nodup)(h:Iw X C is):PG X (.Tuple C k pos) (tGt nm X.K (.names is)) :=
 PG.of (avv G (Z7 J h) (Ef h).1 (Ef h).2) λv σ H Q ι ρ M d u S R r e q=>by
  cases r with
  |tup L Z =>
   simp only[Tg.put] at e;split at e<;>cases e;rename_i Y;exact⟨_,_,rfl,Hl.of L,by rw[<- Z.length];exact Y,by rw[<- Z.length];exact Y,q _ (Uc R Z) Qt λj y=>Nx y⟩
  |_=>simp[Tg.put] at e
def alc(he:PE X a (tE nm W X.K a'))(hg:PG X tg (tGt nm X.K t))(hs:swapsWithSole [tg] a pos.line X.env=pure false)(hw:swappedStores [tg] a X.env=pure none)(h1:(assignEach [tg] X.env).map (·.2)=[assign tg X.env]) :
 PS X (.Assign [tg] a pos) (tS nm W X.K EX (.asg (.tg t) a')) :=
 PS.of (Xf he hg hs hw h1) λD σ H ι ρ M fl G M' S R e q=>by rw[MW.Ou] at e;obtain⟨x,M1,e1,e⟩:=dj e;obtain⟨qq,M2,e2,e⟩:=dj e;cases e;rw[MW.aij] at e2;obtain⟨e3,e4⟩:=xg e2;subst e4;exact one S R e1 λZ H1 v le S1 R1 r=>⟨Z,ρ,_,x,G,S1,R1,r,e3,λL R' _ _=>q Z H1 L le S1 R'⟩
def ald(he:PE X a (tE nm W X.K L))(hs:swapsWith a none pos.line X.env=pure false):PS X (.Expr a pos) (tS nm W X.K EX (.expr L)) :=
 PS.of (Xe he hs) λD σ H ι ρ M fl qq M' S R e q=>by rw[MW.adk] at e;obtain⟨x,M1,e1,e⟩:=dj e;cases e;exact one S R e1 λZ H1 v le S1 G r=>q Z H1 σ le S1 G
def a3c(he:PE X a (tE nm W X.K L)):PS X (.Return (some a) pos) (tS nm W X.K EX (.ret L)) :=
 PS.of (avs he) λD σ H ι ρ M fl qq M' S R e q=>by rw[MW.aui] at e;obtain⟨x,M1,e1,e⟩:=dj e;cases e;exact one S R e1 λZ H1 v le S1 G r=>q Z H1 σ le S1 G v r
def axb:PS X (.Continue pos) (tS nm W X.K EX .cont) :=
 PS.of Zn λD G H Z ρ M fl L M' S R e q=>by rw[MW.aoi] at e;cases e;exact q Z H G (Le.refl _ _) S R
def T9.mono{X:Cx}(le:Le R H Z H')(q:T9 nm X.K EX D R H fl ρ M):T9 nm X.K EX D Z H' fl ρ M:=λL H2 G zg S2 R2=>q L H2 G (le.trans zg) S2 R2
set_option tactic.hygienic true in
def a3d(hc:PT X c (tQ nm W X.K c'))(ht:Lq X ts (tSs nm W X.K EX G))(hf:Lq X fs (tSs nm W X.K EX J)):PS X (.If c ts fs pos) (tS nm W X.K EX (.iff c' G J)) :=
 PS.of (a00 hc ht hf) λD σ H ι ρ M y Z M' S R e q=>by
  rw[MW.auh] at e;obtain⟨x,C,e1,e⟩:=dj e;cases x<;>try cases e
  rename_i k;refine U9 S R e1 λY H1 u L R1=>?_
  cases k with
  |true=>exact⟨Y,ρ,C,y,Z,M',L,R1,e,q.mono u⟩|false=>exact⟨Y,ρ,C,y,Z,M',L,R1,e,q.mono u⟩
def axc:Lq X [] (tSs nm W X.K EX .nil):=Lq.of Rk λD G H Z ρ M fl L M' S R e q=>by rw[MW.Ej] at e;cases e;exact q Z H G (Le.refl _ _) S R
def aqb{L:List Stmt}(h1:PS X st (tS nm W X.K EX q0))(h2:Lq X L (tSs nm W X.K EX rest')):Lq X (st::L) (tSs nm W X.K EX (.cons q0 rest')) :=
 Lq.of (Kg h1 h2) λD σ H ι ρ M fl qv M' S R e q=>by
  rw[MW.aih] at e;obtain⟨⟨qk,qq⟩,M1,e1,e⟩:=dj e;refine⟨ι,ρ,M,qk,qq,M1,S,R,e1,λZ H1 G le S1 R1=>?_⟩;cases qk with
  |next=>exact⟨Z,qq,M1,fl,qv,M',S1,R1,e,q.mono le⟩|brk=>cases e;exact q Z H1 G le S1 R1|cont=>cases e;exact q Z H1 G le S1 R1|ret d=>cases e;exact q Z H1 G le S1 R1|err c=>cases e;exact q Z H1 G le S1 R1
set_option tactic.hygienic true in
def a3e(hp:PassesOwn (model X.prog X.w) X.A X.env X.xe)(hc:PT X c (tQ nm W X.K c'))(hb:Lq X body (tSs nm W X.K EX Ud)):PS X (.While c body [] pos) (tS nm W X.K EX (.whl c' Ud)) :=
 PS.of (ajv hp hc hb) λD σ H ι ρ M fl q0 M' S R e q=>by
  rw[MW.abi] at e;refine⟨λm qq H1=>∃C L M1,Le ι H C H1/\ju nm X.K C H1 M1/\qu X.K C H1 L qq/\MW.Ei (c'.den W) (Ud.den W) m L M1=.ok (fl,q0) M',⟨MW.afr,ι,ρ,M,Le.refl _ _,S,R,e⟩,?_⟩;rintro m qq H1 ⟨C,L,M1,Uu,S1,R1,Y⟩;cases m with
  |zero=>cases Y
  |succ m =>
   simp only[MW.Ei] at Y;obtain⟨x,M2,e2,Y⟩:=dj Y;cases x<;>try cases Y
   rename_i k;refine U9 S1 R1 e2 λqv H2 zg S2 R2=>?_
   cases k with
   |false=>cases Y;exact q qv H2 qq (Uu.trans zg) S2 R2
   |true =>
    obtain⟨⟨q1,u⟩,M3,e3,Y⟩:=dj Y;refine⟨λG y=>∃Z qk M4,Le ι H Z y/\ju nm X.K Z y M4/\qu X.K Z y qk G/\MW.Ei (c'.den W) (Ud.den W) m qk M4=.ok (fl,q0) M',λG y h4=>⟨m,ql _,h4⟩,qv,L,M2,q1,u,M3,S2,R2,e3,λZ y G J S4 R4=>?_⟩;cases q1 with
    |next=>exact⟨Z,u,M3,(Uu.trans zg).trans J,S4,R4,Y⟩|cont=>exact⟨Z,u,M3,(Uu.trans zg).trans J,S4,R4,Y⟩|brk=>cases Y;exact q Z y G ((Uu.trans zg).trans J) S4 R4|ret d=>cases Y;exact q Z y G ((Uu.trans zg).trans J) S4 R4|err c=>cases Y;exact q Z y G ((Uu.trans zg).trans J) S4 R4
def aqc(nm:Nm)(K:Fg)(ι:Io)(H:Hp)(s:Src)(J:It):Prop:=∀Z G R,LeX ι H Z G->ju nm K Z G R ->
 (∀i d,i<s.len->s.item i R=some d->J.go i G/\∀v L,J.yld i G v L->Le Z G Z L/\ju nm K Z L R/\Rep K Z L d v)/\(s.fin R=true->J.stop s.len G)
def tI(nm:Nm)(W:Fd)(K:Fg)(it:Og):TI:=fun σ H R=>∃L ρ M s M',ju nm K L H M/\qu K L H ρ σ/\it.den W ρ M=.ok s M'/\∀Z G J,Le L H Z G->ju nm K Z G M'->aqc nm K Z G s J->R J G
set_option tactic.hygienic true in
def a3g(hp:PassesOwn (model X.prog X.w) X.A X.env X.xe)(hc:X.calm=true)(hi:PI X tg iter (tI nm W X.K it))(hg:PG X tg (tGt nm X.K t))(hb:Lq X body (tSs nm W X.K EX Ud))(hs:Er iter=true):PS X (.For tg iter body [] pos) (tS nm W X.K EX (.for_ t it Ud)) :=
 PS.of (avy hp hc hi hg hb (Dc hs X.env)) λD σ H ι ρ M fl G M' S R e q=>by
  rw[MW.Ov] at e;obtain⟨s,M1,e1,e⟩:=dj e;refine⟨ι,ρ,M,s,M1,S,R,e1,λqk H1 J Uu S1 sj=>?_⟩;refine⟨λi m qv H2=>m=s.len-i/\i<=s.len/\∃Y qq M2,Le qk H1 Y H2/\ju nm X.K Y H2 M2/\qu X.K Y H2 qq qv/\MW.Bh s.fin s.item (λd ρ M=>match t.put d ρ with|some G=>Ud.den W G M|none=>.bad) m i qq M2=.ok (fl,G) M',
   ⟨s.len,rfl,j4 _,qk,ρ,M1,Le.refl _ _,S1,R.mono Uu,e⟩,?_⟩
  rintro i m qv H2 ⟨hm,q6,Y,qq,M2,zg,S2,R2,C⟩;obtain⟨go,q1⟩:=sj Y H2 M2 zg.toX S2;cases m with
  |zero =>
   simp only[MW.Bh] at C;split at C<;>cases C;rename_i Ss;have hi:i=s.len:=by lia
   subst hi;exact .inl ⟨q1 Ss,q Y H2 qv (Uu.trans zg) S2 R2⟩
  |succ m =>
   simp only[MW.Bh] at C;split at C
   .cases C
   .rename_i d hd
    obtain⟨⟨q2,q0⟩,M3,e3,C⟩:=dj C;obtain⟨g1,g2⟩:=go i d (by omega) hd;refine .inr ⟨g1,λL H4=>∃Z u M4,Le qk H1 Z H4/\ju nm X.K Z H4 M4/\qu X.K Z H4 u L/\MW.Bh s.fin s.item (λd ρ M=>match t.put d ρ with|some G=>Ud.den W G M|none=>.bad) m (i+1) u M4=.ok (fl,G) M',
     λL H4 ⟨Z,u,M4,h4⟩=>⟨m,ql _,by omega,by omega,Z,u,M4,h4⟩,λv H3 yv=>?_⟩
    obtain⟨Oi,S3,r3⟩:=g2 v H3 yv;split at e3
    .rename_i q3 q4
     refine⟨Y,qq,M2,d,q3,S3,R2.mono Oi,r3,q4,λq7 R5 _ _=>⟨Y,q3,M2,q2,q0,M3,S3,R5,e3,λZ H4 L q5 S4 R4=>?_⟩⟩;have y:=(zg.trans Oi).trans q5;cases q2 with
     |next=>exact⟨Z,q0,M3,y,S4,R4,C⟩|cont=>exact⟨Z,q0,M3,y,S4,R4,C⟩|brk=>cases C;exact q Z H4 L (Uu.trans y) S4 R4|ret d=>cases C;exact q Z H4 L (Uu.trans y) S4 R4|err c=>cases C;exact q Z H4 L (Uu.trans y) S4 R4
    .cases e3
section
variable{nm:Nm}{W:Fd}{X:Cx}{a b c:Expr}{a' b' c':Ex}{pos pos':Pos}{ι:Io}{H:Hp}{σ:St}{ρ:En}{M M1 M2:dh}{x y:Dv}{es:Y3}{es':Cu}{tg iter elt:Expr}
def PI.weak(h:PI X tg iter G)(w:∀σ H R,wi' σ H R->G σ H R):PI X tg iter wi':=λZ s σ H R I q=>h Z s σ H R I (w σ H R q)
def PI.of(h:PI X tg iter wi)(w:∀σ H G ι ρ M s M',ju nm X.K ι H M->qu X.K ι H ρ σ->it.den W ρ M=.ok s M'->(∀Z L J,Le ι H Z L->ju nm X.K Z L M'->aqc nm X.K Z L s J->G J L)->wi σ H G):PI X tg iter (tI nm W X.K it) :=
 PI.weak h fun σ H G z_=>by obtain⟨ι,ρ,M,s,M',S,R,e,q⟩:=z_;exact w σ H G ι ρ M s M' S R e q
def axd(hl:PE X l tl):PI X tg l (fun σ H R=>tl σ H λx L=>∃a,x=.ref a/\((∃xs,Ha X.K L a xs)/\R (Itl X.K a) L\/(∃xs,Hl X.K L a xs)/\R (Itt X.K a) L)):=by
 intro qq s σ H R I h;refine Al (hl qq s σ H _ I h) λv Z z_=>?_
 obtain⟨x,L,G,r1,q1⟩:=z_;obtain⟨a,e,⟨⟨xs,hq⟩,q⟩|⟨⟨xs,hq⟩,q⟩⟩:=q1
 .subst e
  cases r1;obtain⟨xf,rv,p,hz⟩:=G.list hq;refine wpAny_pyIter_list p.isList ?_;refine⟨Z.heap.objs.size,[Z.heap.objs.size],_,_,L,rfl,G.kept (t':=Z.toks) λb o e=>ak _ e,age a _,⟨_,bw _ rfl,rfl,rfl⟩,λb hb=>?_,q⟩;have e:b=Z.heap.objs.size:=by simpa using hb
  subst e;exact G.apb (bh _) (G.wk.fresh (bh _))
 .subst e
  cases r1;obtain⟨xf,rv,p,hz⟩:=G.tuple hq;refine um (show Z.heap.IsTuple a xf.toArray from p) ?_;refine⟨Z.heap.objs.size,[Z.heap.objs.size],_,_,L,rfl,G.kept (t':=Z.toks) λb o e=>ak _ e,abz a _,⟨_,bw _ rfl,rfl,rfl⟩,λb hb=>?_,q⟩;have e:b=Z.heap.objs.size:=by simpa using hb
  subst e;exact G.apb (bh _) (G.wk.fresh (bh _))
def V7{p:Addr}{ds:List Dv}{s:Src}(hs:∀Z L M1,LeX ι H Z L->ju nm X.K Z L M1->(∀i d,s.item i M1=some d->∃G v,L p=some (.lst G)/\G[i]?=some v/\Rep X.K Z L d v)/\(s.fin M1=true->∃G,L p=some (.lst G)/\G.length<=s.len)) :
 aqc nm X.K ι H s (Itl X.K p):=λZ L M1 le S1=>by
 obtain⟨a,b⟩:=hs Z L M1 le S1;refine⟨λi d hi hd=>?_,λhf=>?_⟩
 .obtain⟨G,v,h1,R,h3⟩:=a i d hd
  refine⟨⟨G,v,Ha.of h1,R⟩,λu H2 ⟨e,y⟩=>?_⟩;subst e;have:=y G (Ha.of h1);rw[R] at this;cases this;exact⟨Le.refl _ _,S1,h3⟩
 .obtain⟨G,h1,R⟩:=b hf
  exact⟨G,Ha.of h1,R⟩
set_option tactic.hygienic true in
def a3i(ha:PE X a (tE nm W X.K a')):PI X tg a (tI nm W X.K (.val a')) :=
 PI.of (axd ha) fun σ H R' ι ρ M s M' S R e q=>by
  rw[MW.Rf] at e;obtain⟨x,M1,e1,e⟩:=dj e;obtain⟨e,rfl⟩:=xg e;refine one S R e1 λC H1 v le S1 R1 r=>?_
  cases r with
  |@tup p Z J h1 r1 =>
   simp only[MW.srcOf] at e;cases e;refine⟨p,rfl,.inr ⟨⟨J,Hl.of h1⟩,q C H1 _ le S1 λqq H2 M2 G S2=>⟨λi d hi Y=>?_,λ_=>⟨J,Hl.of (G.tup _ _ h1),by rw[<- r1.length];exact bh _⟩⟩⟩⟩;have Y:Z[i]?=some d:=Y;obtain⟨v,g1,g2⟩:=(r1.Kr G).get Y;refine⟨⟨J,v,Hl.of (G.tup _ _ h1),g1⟩,λu H3 ⟨ee,yy⟩=>?_⟩;subst ee;have:=yy J (Hl.of (G.tup _ _ h1));rw[g1] at this;cases this;exact⟨Le.refl _ _,S2,g2⟩
  |@vl p Z J h1 n1 r1 =>
   simp only[MW.srcOf] at e;cases e;refine⟨p,rfl,.inl ⟨⟨J,Ha.of h1⟩,q C H1 _ le S1 (V7 (ds:=Z) λqq H2 M2 G S2=>⟨λi d Y=>?_,λ_=>⟨J,G.lst _ _ n1.1 h1,by rw[<- r1.length];exact bh _⟩⟩)⟩⟩;have Y:Z[i]?=some d:=Y;obtain⟨v,g1,g2⟩:=(r1.Kr G).get Y;exact⟨J,v,G.lst _ _ n1.1 h1,g1,g2⟩
  |@ref n p h1 =>
   simp only[MW.srcOf] at e;obtain⟨Z,hn,rfl⟩:∃Z,M'[n]?=some (.lst Z)/\s=.live n Z.length:=by
    split at e
    .rename_i Z hn;cases e;exact⟨Z,hn,rfl⟩
    .cases e
   obtain⟨J,g1,g2⟩:=S1.obj n _ p hn h1;refine⟨p,rfl,.inl ⟨⟨J,Ha.of g1⟩,q C H1 _ le S1 (V7 (ds:=Z) λqq H2 M2 G S2=>⟨λi d Y=>?_,λhf=>?_⟩)⟩⟩
   .simp only[Src.item] at Y
    split at Y
    .rename_i qk Yk
     split at Y
     .obtain⟨L,k1,k2⟩:=S2.obj n _ p Yk (G.get h1)
      obtain⟨v,k3,k4⟩:=k2.get Y;exact⟨L,v,k1,k3,k4⟩
     .cases Y
    .cases Y
   .simp only[Src.fin] at hf
    split at hf
    .rename_i qk Yk
     obtain⟨L,k1,k2⟩:=S2.obj n _ p Yk (G.get h1);refine⟨L,k1,?_⟩;rw[<- k2.length];have:qk.length=Z.length:=by simpa using hf
     rw[this];exact bh _
    .cases hf
  |_=>simp[MW.srcOf] at e
set_option tactic.hygienic true in
def a3j(C:Gl X "range")(hm:X.mg "range" = none)(ha:PE X a (tE nm W X.K a'))(J:noStar a=true):PI X tg (.Call (.Name "range" pr) [a] [] pos) (tI nm W X.K (.Mq a')) :=
 PI.of (agf C hm (Pk ha V6 (ou J _ _)) (ou J _ _)) fun σ H R' ι ρ M s M' S R e q=>by
  rw[MW.Wo] at e;obtain⟨x,M1,e1,e⟩:=dj e;refine Xx (es':=.cons a' .nil) (ds:=[x]) (M1:=M1) S R (by rw[MW.Ay,e1];simp) λY H1 vs le S1 R1 r=>?_
  obtain⟨i,L⟩:∃i,x=.int i:=by cases x<;>first|exact⟨_,rfl⟩|cases e
  subst L;have e:(if i.natAbs<=100000 then Res.ok (Src.con ((List.range i.toNat).map λ(k:Nat)=>MW.D.int (k:Int))) M1 else .bad)=.ok s M':=e;split at e<;>cases e;rename_i hi;cases r with
  |cons r1 r2 =>
   cases r1;cases r2;refine⟨i,rfl,by lia,by omega,q Y H1 _ le S1 λqq H2 M2 zg S2=>⟨λj d hj Z=>?_,λ_=>?_⟩⟩
   .have G:j<i.toNat:=by simpa[Src.len] using hj
    have Z:((List.range i.toNat).map λ(k:Nat)=>MW.D.int (k:Int))[j]?=some d:=Z;rw[ir,zy G] at Z;have Z:MW.D.int (j:Int)=d:=by simpa using Z
    subst Z;refine⟨G,λu H3 ⟨ee,yy⟩=>?_⟩;subst ee yy;exact⟨Le.refl _ _,S2,by rw[Int.zero_add];exact .int _⟩
   .show i.toNat<=_
    simp[Src.len]
def ag1(R:qu K ι H ρ σ):qu K ι H (ρ++List.replicate k none) (σ++List.replicate k none):=R.append (qu.ak6 k (by simp))
def ale{Z:St}(L:σ.length=n)(R:∀i∈Aw t,n<=i)(h:∀j,j∉Aw t->Z[j]?=(σ++List.replicate k none)[j]?):∀(j:Nat) v,(σ++List.replicate k none)[j]?=some (some v)->Z[j]?=some (some v):=λj v e=>by
 by_cases G:j∈Aw t
 .have:=R j G
  rw[qz (a_ (f_ L) this),xu] at e;split at e<;>simp at e
 .rw[h j G];exact e
noncomputable def atc(o:Option Dv):List Dv:=match o with|some x=>[x]|none=>[]
set_option tactic.hygienic true in
def Z8(h:MW.Cd fin item body (k+1) i M=.ok ds Y) :
 ∃d o M1 rest,item i M=some d/\body d M=.ok o M1/\MW.Cd fin item body k (i+1) M1=.ok rest Y/\ds=atc o++rest:=by
 simp only[MW.Cd] at h;split at h
 .cases h
 .rename_i d J
  obtain⟨o,M1,G,h⟩:=dj h;obtain⟨rest,M2,Z,h⟩:=dj h;cases h;exact⟨d,o,M1,rest,J,G,Z,by cases o<;>rfl⟩
def jw.snoc(r:jw K ι H ds Z)(h:Rep K ι H d v):jw K ι H (ds++[d]) (Z++[v]):=r.append (.cons h .nil)
set_option tactic.hygienic true in
def Ro(e:MW.Ao s body M1=.ok ds M2):s.len<=100000/\MW.Cd s.fin s.item body s.len 0 M1=.ok ds M2:=by
 unfold MW.Ao at e;split at e
 .rename_i Z
  exact⟨Z,e⟩
 .cases e
def keptAs(v:Bool)(Z:List Dv)(M:dh):Res Dv:=if v=true then .ok (.vl Z) M else MW.new (.lst Z) M
def ag2(h:(Ex.comp v k t it e').den W ρ M=.ok d M'):∃s M1 Z M2,it.den W ρ M=.ok s M1/\s.len<=100000 /\
 MW.Cd s.fin s.item (λd M=>match t.put d (ρ++List.replicate k none) with|some G=>(e'.den W G M).bind λx M'=>.ok (some x) M'|none=>.bad) s.len 0 M1=.ok Z M2/\keptAs v Z M2=.ok d M':=by
 rw[MW.Jp] at h;obtain⟨s,M1,R,h⟩:=dj h;obtain⟨Z,M2,L,h⟩:=dj h;exact⟨s,M1,Z,M2,R,(Ro L).1,(Ro L).2,h⟩
def Io.adopt(ι:Io)(H:Hp)(D:Addr):Tr K (ι.hide D) H (ι.add D) H:=⟨λ_ _ e=>e,λ_ _ e n=>⟨e,λm=>(fj.mp m).elim n.1 λz=>n.2 (by rw[o5.mp z];exact bu),λm=>n.2 (bc _ m)⟩,λ_ _ e=>e,λn a e=>by
 have e:ι.l[n]?=some a:=e;show(ι.l++[D])[n]?=_;rw[jh (aq.mp e).1];exact e⟩
theorem Rep.adopt(r:Rep K (ι.hide D) H d v):Rep K (ι.add D) H d v:=r.tr (ι.adopt H D)
theorem jw.adopt(r:jw K (ι.hide D) H d v):jw K (ι.add D) H d v:=r.tr (ι.adopt H D)
theorem ju.adopt(S:ju nm K (ι.hide D) H M)(hd:H D=some (.lst L))(r:jw K (ι.hide D) H ds L)(G:ι.off D):ju nm K (ι.add D) H (M++[.lst ds]):=by
 refine⟨by have:=S.len;simp only[Io.hide] at this;simp[Io.add,this],?_,λa Z=>?_,λn o a hn Z=>?_,S.tb⟩
 .exact wy.mpr ⟨S.nd,by simp,by
   intro x hx y hy;have:y=D:=by simpa using hy
   subst this;intro e;subst e;exact G.1 hx⟩
 .obtain⟨h1,L,R⟩:=S.del a (bc _ Z)
  exact⟨λm=>(fj.mp m).elim h1 λz=>G.2 (by rw[<- o5.mp z];exact Z),L,R⟩
 .rcases Bk hn with q|⟨q,rfl⟩
  .rcases Bk Z with z|⟨z,_⟩
   .exact(S.obj n o a q z).map (λd v r=>r.adopt) rfl
   .exact absurd (MW.Bo q) (by rw[z,<- S.len];exact je _)
  .rcases Bk Z with z|⟨_,rfl⟩
   .exact absurd (aq.mp z).1 (by rw[q,<- S.len];exact je _)
   .exact⟨L,hd,r.adopt⟩
def alf(S:ju nm K (ι.hide D) H M)(hd:H D=some (.lst vs))(r:jw K (ι.hide D) H ds vs)(L:ι.off D)(G:Le R H0 ι H)(h0:H0 D=none)(h:keptAs v ds M=.ok d M') :
 ∃Z,Le R H0 Z H/\ju nm K Z H M'/\Rep K Z H d (.ref D):=by
 unfold keptAs at h;split at h
 .cases h
  exact⟨ι,G,S.show,.vl hd L r.show⟩
 .cases h
  refine⟨ι.add D,⟨?_,G.del,G.tup,G.Hk,G.lst,G.dom⟩,S.adopt hd r L,.ref ?_⟩
  .obtain⟨Y,e,hY⟩:=G.ext
   exact⟨Y++[D],by show ι.l++[D]=_;rw[e,n6],λa ha=>(fj.mp ha).elim (hY a) λz=>by rw[o5.mp z];exact h0⟩
  .show(ι.l++[D])[M.length]?=some D
   rw[<- S.len];simp[Io.hide]
def BodyOk(nm:Nm)(K:Fg)(G:St)(tc:TT)(te:TE)(R:En)(M:dh)(o:Option Dv)(M':dh):Prop:=∀ι H (G1:V->Hp->Prop) (G0:Hp->Prop),ju nm K ι H M->qu K ι H R G ->
 (∀Z L v,Le ι H Z L->ju nm K Z L M'->(match o with|some x=>Rep K Z L x v->G1 v L|none=>G0 L))->tc G H λb H3=>if b=true then te G H3 λv H4=>G1 v H4 else G0 H3
set_option tactic.hygienic true in
def V8{N:Ya}(hk:N.length-X.N.length=k)(ho:∀i∈Aw t,X.N.length<=i)(z4:σ.length=X.N.length)(S:ju nm X.K ι H M)(R:qu X.K ι H ρ σ)(e1:it.den W ρ M=.ok s M1)(zv:s.len<=100000)(e2:MW.Cd s.fin s.item body s.len 0 M1=.ok ds M')(ek:keptAs v0 ds M'=.ok d0 M0)(q:∀q5 H' v,Le ι H q5 H'->ju nm X.K q5 H' M0->Rep X.K q5 H' d0 v->Q v H')(hb:∀d M2 o M3,body d M2=.ok o M3->∃q1,t.put d (ρ++List.replicate k none)=some q1/\∀q3,BodyOk nm X.K q3 tc te q1 M2 o M3):Z4 (N.length-X.N.length) (tI nm W X.K it) (tGt nm X.K t) tc te σ H Q:=by
 refine⟨ι,ρ,M,s,M1,S,R,e1,λqq H1 J Uu S1 sj D hD=>?_⟩;rw[hk];refine⟨λi m H2=>m=s.len-i/\i<=s.len/\∃Z M2 G vs L,LeD D qq H1 (Io.hide Z D) H2/\ju nm X.K (Io.hide Z D) H2 M2/\H2 D=some (.lst vs)/\jw X.K (Io.hide Z D) H2 G vs/\G.length<=i /\
  MW.Cd s.fin s.item body m i M2=.ok L M'/\ds=G++L,?_,?_⟩
 .exact⟨s.len,rfl,j4 _,qq,M1,[],[],ds,LeD.start hD _,S1.hide hD,m8,.nil,bh _,e2,rfl⟩
 .rintro i m H2 ⟨hm,z3,Z,M2,G,vs,L,zg,S2,zk,q4,Ir,e3,qv⟩
  have q7:Le qq H1 Z H2:=LeD.done zg;have z1:Z.δ=qq.δ:=q7.del;have z2:Z.off D:=⟨(S2.del D bu).1,λz=>by rw[z1] at z;exact(S1.fresh hD).2 z⟩;obtain⟨go,q6⟩:=sj (Io.hide Z D) H2 M2 (zg.toX hD) S2;cases m with
  |zero =>
   simp only[MW.Cd] at e3;split at e3<;>cases e3;rename_i Ss;refine hG λ_ _k=>?_
   have hi:i=s.len:=by lia
   subst hi;rw[jm] at qv;subst qv;obtain⟨z5,z7,S9,r9⟩:=alf S2 zk q4 z2 q7 hD ek;apply _k;exact .inl ⟨q6 Ss,q z5 H2 _ (Uu.trans z7) S9 r9⟩
  |succ m =>
   refine hG λ_ _k=>?_
   obtain⟨d,o,M3,C,h1,h2,h3,h4⟩:=Z8 e3;obtain⟨g1,g2⟩:=go i d (by lia) h1;apply _k;refine .inr ⟨g1,λv H3 yv=>?_⟩;refine hG λ_ _k=>?_
   obtain⟨Oi,S3,r3⟩:=g2 v H3 yv;obtain⟨q1,z0,zw⟩:=hb d M2 o M3 h2;have R3:qu X.K (Io.hide Z D) H3 ρ σ:=((R.mono Uu).Kr (zg.toX hD)).mono Oi;apply _k;refine⟨Io.hide Z D,ρ++List.replicate k none,M2,d,q1,S3,ag1 R3,r3,z0,λq3 R5 l5 k5=>⟨l5,ale z4 ho k5,?_⟩⟩;have z6:=Oi.lst D vs (S2.del D bu).1 zk;refine zw q3 (Io.hide Z D) H3 _ _ S3 R5 (λY H6 u q0 S6=>by
    have qk:=q0.lst D vs (S2.del D bu).1 z6;have q2:LeD D qq H1 Y H6:=(zg.go Oi).go q0;have ei:Y=Io.hide ⟨Y.l,Z.δ⟩ D:=by have:=q0.del;obtain⟨l6,z8⟩:=Y;simp only[Io.hide] at this ⊢;rw[this]
    rw[ei] at q2 S6;have q8:jw X.K (Io.hide ⟨Y.l,Z.δ⟩ D) H6 G vs:=by rw[<- ei];exact(q4.mono Oi).mono q0
    cases o with
    |none =>
     refine⟨m,ql _,by lia,by lia,⟨Y.l,Z.δ⟩,M3,G,vs,C,q2,S6,qk,q8,a_ Ir x_,h3,?_⟩;rw[qv,h4];rfl
    |some x =>
     intro r6;rw[ei] at r6;have Hn:D∈(Io.hide ⟨Y.l,Z.δ⟩ D).δ:=bu;refine⟨vs,m,qk,?_,ql _,by lia,by lia,⟨Y.l,Z.δ⟩,M3,G++[x],vs++[u],C,q2.grow hD qk,S6.grow qk Hn,m8,(q8.snoc r6).grow qk Hn,by simp;exact Ir,h3,?_⟩
     .rw[<- q4.length]
      exact Nat.lt_of_le_of_lt (dq Ir (dq z3 zv)) (by decide)
     .rw[qv,h4];simp[atc])
set_option tactic.hygienic true in
def V9{N:Ya}(hk:N.length-X.N.length=k)(ho:∀i∈Aw t,X.N.length<=i):∀σ H Q,σ.length=X.N.length->tE nm W X.K (.comp v0 k t it e') σ H Q ->
 Z4 (N.length-X.N.length) (tI nm W X.K it) (tGt nm X.K t) (λ_ H Q=>Q true H) (tE nm W X.K e') σ H Q:=fun σ H Q G hh=>by
 obtain⟨ι,ρ,M,d,M',S,R,e,q⟩:=hh;obtain⟨s,M1,ds,M2,e1,Z,e2,ek⟩:=ag2 e;refine V8 hk ho G S R e1 Z e2 ek q λd M2 o M3 Y=>?_
 split at Y
 .rename_i qq J
  obtain⟨x,M4,e5,Y⟩:=dj Y;cases Y;refine⟨qq,J,λqv qk H5 G1 G0 S5 R5 g=>?_⟩;show if true=true then _ else _
  rw[bf rfl];exact one (X:=X) S5 R5 e5 λC H6 u L S6 R6 r6=>g C H6 u L S6 r6
 .cases Y
def Z9(h:(Ex.Ca v k t it c' e').den W ρ M=.ok d M'):∃s M1 G M2,it.den W ρ M=.ok s M1/\s.len<=100000 /\
 MW.Cd s.fin s.item (λd M=>match t.put d (ρ++List.replicate k none) with|some Z=>(c'.den W Z M).bind λb M'=>(match b with|.bl true=>(e'.den W Z M').bind λx L=>.ok (some x) L|.bl false=>.ok none M'|_=>.bad)|none=>.bad) s.len 0 M1=.ok G M2/\keptAs v G M2=.ok d M':=by
 rw[MW.Sg] at h;obtain⟨s,M1,e1,h⟩:=dj h;obtain⟨G,M2,R,h⟩:=dj h;exact⟨s,M1,G,M2,e1,(Ro R).1,(Ro R).2,h⟩
set_option tactic.hygienic true in
def Qu{N:Ya}(hk:N.length-X.N.length=k)(ho:∀i∈Aw t,X.N.length<=i):∀σ H Q,σ.length=X.N.length->tE nm W X.K (.Ca v0 k t it c' e') σ H Q ->
 Z4 (N.length-X.N.length) (tI nm W X.K it) (tGt nm X.K t) (tQ nm W X.K c') (tE nm W X.K e') σ H Q:=fun σ H Q C hh=>by
 obtain⟨ι,ρ,M,d,M',S,R,e,q⟩:=hh;obtain⟨s,M1,ds,M2,e1,G,e2,ek⟩:=Z9 e;refine V8 hk ho C S R e1 G e2 ek q λd M2 o M3 Z=>?_
 split at Z
 .rename_i qv L
  obtain⟨x,M4,e5,Z⟩:=dj Z;refine⟨qv,L,λq1 q0 H5 G1 G0 S5 R5 g=>?_⟩;split at Z
  .obtain⟨y,M6,e6,Z⟩:=dj Z
   cases Z;refine U9 (X:=X) S5 R5 e5 λJ H6 Y S6 R6=>?_
   rw[bf rfl];exact one (X:=X) S6 R6 e6 λqq H7 u qk S7 R7 r7=>g qq H7 u (Y.trans qk) S7 r7
  .cases Z
   refine U9 (X:=X) S5 R5 e5 λJ H6 Y S6 R6=>?_
   rw[az (by simp)];exact g J H6 .non Y S6
  .cases Z
 .cases Z
def PE.aaa(h:PE X e t)(w:∀σ H Q,σ.length=X.N.length->t' σ H Q->t σ H Q):PE X e t':=λZ s σ H Q I q=>h Z s σ H Q I (w σ H Q I.len q)
def PS.aaa(h:PS X st t)(w:∀D σ H,σ.length=X.N.length->t' D σ H->t D σ H):PS X st t':=λZ s σ H D I q=>h Z s σ H D I (w D σ H I.len q)
def axg(B:Dk X N scope)(R:X.calm=true)(G:PI X tg iter (tI nm W X.K it))(L:∀C Z s H,PG (Jl X N scope C Z s H) tg (tGt nm X.K t))(he:∀C Z s H,PE (Jl X N scope C Z s H) elt (tE nm W X.K e'))(hs:Er iter=true)(hk:N.length-X.N.length=k)(ho:∀i∈Aw t,X.N.length<=i):PE X (.ListComp elt [⟨tg,iter,[],0⟩] scope pos) (tE nm W X.K (.comp v0 k t it e')) :=
 PE.aaa (aep B R G L (λ_ _ _ _=>.inl ⟨rfl,rfl⟩) he (Dc hs X.env)) (V9 hk ho)
def alg(B:Dk X N scope)(Dj:X.calm=true)(G:PI X tg iter (tI nm W X.K it))(R:∀C Z s H,PG (Jl X N scope C Z s H) tg (tGt nm X.K t))(L:∀C Z s H,PT (Jl X N scope C Z s H) c (tQ nm W X.K c'))(he:∀C Z s H,PE (Jl X N scope C Z s H) elt (tE nm W X.K e'))(hs:Er iter=true)(hk:N.length-X.N.length=k)(ho:∀i∈Aw t,X.N.length<=i):PE X (.ListComp elt [⟨tg,iter,[c],0⟩] scope pos) (tE nm W X.K (.Ca v0 k t it c' e')) :=
 PE.aaa (aep B Dj G R (λ_ _ _ _=>.inr ⟨c,rfl,L _ _ _ _⟩) he (Dc hs X.env)) (Qu hk ho)
def aab(h:∀σ H Q,σ.length=X.N.length->tE nm W X.K e' σ H Q->tt σ H Q):∀D σ H,σ.length=X.N.length->tS nm W X.K EX (.asg (.tg (.name i)) e') D σ H->agd tt (Tn i) D σ H:=λD σ H Z hh=>by obtain⟨ι,ρ,M,fl,qk,M',S,R,e,q⟩:=hh;rw[MW.Ou] at e;obtain⟨x,M1,e1,e⟩:=dj e;obtain⟨qq,M2,L,e⟩:=dj e;cases e;rw[MW.aij] at L;obtain⟨e3,e4⟩:=xg L;subst e4;cases e3;exact h σ H _ Z (one S R e1 λG H1 v le S1 R1 r=>q G H1 _ le S1 (R1.set r i))
def ag3{y:Str}(B:Dk X N scope)(Dj:X.calm=true)(L:PI X tg iter (tI nm W X.K it))(hg:∀C Z s H,PG (Jl X N scope C Z s H) tg (tGt nm X.K t))(he:∀C Z s H,PE (Jl X N scope C Z s H) elt (tE nm W X.K e'))(hs:Er iter=true)(hk:N.length-X.N.length=k)(ho:∀i∈Aw t,X.N.length<=i)(R:X.N.Nodup)(hy:X.N[i]?=some y)(hl:X.env.scope.names.lookup y=some .local)(G:swapsWith (.ListComp elt [⟨tg,iter,[],0⟩] scope pos) (some (.Name y py)) ak5.line X.env=pure true):PS X (.Assign [.Name y py] (.ListComp elt [⟨tg,iter,[],0⟩] scope pos) ak5) (tS nm W X.K EX (.asg (.tg (.name i)) (.comp v0 k t it e'))) :=
 PS.aaa (aeq B Dj L hg (λ_ _ _ _=>.inl ⟨rfl,rfl⟩) he (Dc hs X.env) R hy hl G) (aab (V9 hk ho))
def aac{y:Str}(B:Dk X N scope)(Dj:X.calm=true)(L:PI X tg iter (tI nm W X.K it))(hg:∀C Z s H,PG (Jl X N scope C Z s H) tg (tGt nm X.K t))(R:∀C Z s H,PT (Jl X N scope C Z s H) c (tQ nm W X.K c'))(he:∀C Z s H,PE (Jl X N scope C Z s H) elt (tE nm W X.K e'))(hs:Er iter=true)(hk:N.length-X.N.length=k)(ho:∀i∈Aw t,X.N.length<=i)(hN:X.N.Nodup)(hy:X.N[i]?=some y)(hl:X.env.scope.names.lookup y=some .local)(G:swapsWith (.ListComp elt [⟨tg,iter,[c],0⟩] scope pos) (some (.Name y py)) ak5.line X.env=pure true):PS X (.Assign [.Name y py] (.ListComp elt [⟨tg,iter,[c],0⟩] scope pos) ak5) (tS nm W X.K EX (.asg (.tg (.name i)) (.Ca v0 k t it c' e'))) :=
 PS.aaa (aeq B Dj L hg (λ_ _ _ _=>.inr ⟨c,rfl,R _ _ _ _⟩) he (Dc hs X.env) hN hy hl G) (aab (Qu hk ho))
end
def spF(nm:Nm)(W:Fd)(K:Fg)(n f:Nat):Sp:=λvs H Q _=>∃L M R d M',ju nm K L H M/\jw K L H R vs/\R.length=n/\W.call f R M=.ok d M'/\∀Z G v,Le L H Z G->ju nm K Z G M'->Rep K Z G d v->Q v G
def s_call(F:Cr X.prog X.w X.K X.mg X.base V2 k fa fd ps (spF nm W X.K n f))(hr:xj k X.A)(hg:Gl X x)(hm:X.mg x=some (.ref fa))(hk:PySem.W.keepIn X.K (.ref fa)=true)(hb:Binds X.K fd ps [])(Z:Cu.len G=n)(ha:PA X (a::L) (Xv nm W X.K G))(K9:(x==("__debug__" : Str))=false)(he:starEach (a::L) X.env=(false,eval a X.env)::starEach L X.env)(Jo:(backTo pos (starEach L X.env)).any (·.1)=false) :
 PE X (.Call (.Name x p) (a::L) [] pos) (tE nm W X.K (.call f G)) :=
 PE.of (aed (E:=E0) F hr hg hm hk hb .nil asx ha K9 he Jo) fun σ H Q ι ρ M d M' S R e q=>by
  rw[MW.Yx] at e;obtain⟨ds,M1,e1,e⟩:=dj e;refine Xx S R e1 λqq H1 vs le S1 R1 r=>?_
  rw[jm];exact⟨qq,M1,ds,d,M',S1,r,(Hu e1).trans Z,e,λqk H' v V5 S' r'=>q qk H' v (le.trans V5) S' r'⟩
def axh:PE X (.Dict [] [] pos) (tE nm W X.K .afo):=PE.of aj8 fun σ H Q G ρ M d M' S R e q=>by
 rw[MW.aid] at e;cases e;intro p Z;obtain⟨S2,L⟩:=S.new (o:=.dT []) (H':=upd H p (.dT [])) Z (λa u e=>by rw[gr (jt e Z)];exact e) λ_=>⟨[],m8,.nil⟩
 exact q _ _ _ L S2 (.ref (by show(G.l++[p])[M.length]?=some p;rw[<- S.len];simp))
def bae(L:Nm)(K:Fg):avt:=λo i v H Q=>∃Z M x y d R,ju L K Z H M/\Rep K Z H x o/\Rep K Z H y i/\Rep K Z H d v/\MW.setOp x y d M=some R/\∀G,Le Z H Z G->ju L K Z G R->Q G
def aad(h:n<100000):n<sizeLine:=dm h Ua
set_option tactic.hygienic true in
def aqd(hu:X.A.units+1<cLine):avu X (bae nm X.K):=by
 intro Z s σ H o i v ov iv u Q I ro ri rv hh;obtain⟨ι,M,x,y,d,M',S,rx,ry,rd,e,q⟩:=hh;obtain⟨j,hx⟩:∃j,x=.ref j:=by cases x<;>first|exact⟨_,rfl⟩|cases e
 subst hx;obtain⟨p,rfl,L⟩:∃p,o=.ref p/\ι.l[j]?=some p:=by cases rx with|ref z=>exact⟨_,rfl,z⟩
 simp only[MW.setOp] at e;split at e
 .rename_i xs J
  split at e
  .rename_i k
   obtain⟨C,e1,e2⟩:=cg.mp e;subst e2;cases ry;obtain⟨vs,h1,Y⟩:=S.obj j _ p J L;refine set_list Z s σ H _ _ v ov iv u Q I ro ri rv ⟨p,vs,k,C,rfl,rfl,h1,by rw[<- Y.length];exact e1,?_⟩;obtain⟨S2,R⟩:=S.put (u:=.lst (vs.set C v)) (o:=.lst (xs.set C d)) J L λG=>⟨_,m8,(Y.mono G).set (rd.mono G) C⟩
   exact q _ R S2
  .cases e
 .rename_i qk J
  obtain⟨k,e1,e⟩:=gm.mp e;split at e<;>cases e;rename_i hl;obtain⟨l,h1,Y⟩:=S.obj j _ p J L;obtain⟨b,rfl,hb⟩:=Pn ry e1;cases ro;refine ago (H':=upd H p (.dT (putK l k v))) (y:=.ref b) (v:=v) hu I (api.t h1 hb (by rw[<- Y.length];exact aad hl)) ri rv λs' I'=>⟨_,I',?_⟩
  obtain⟨S2,R⟩:=S.put (u:=.dT (putK l k v)) (o:=.dT (MW.Ja qk k d)) J L λG=>⟨_,m8,(Y.mono G).put (rd.mono G)⟩
  exact q _ R S2
 .cases e
def Ue(h:Ml e=true)(t:Expr)(l:Nat)(Z:Env):swapsWithSole [t] e l Z=pure false:=by unfold swapsWithSole;exact Hb h _ _ _
def ali(e o b:Expr)(p:Pos)(l:Nat)(Z:Env):swapsWithSole [.Subscript o b p] e l Z=pure false:=by cases e<;>rfl
def alj(hu:X.A.units+1<cLine)(he:PE X a (tE nm W X.K a'))(ho:PE X o (tE nm W X.K o'))(hi:PE X b (tE nm W X.K b'))(ha:∀v,assign (.Subscript o b pos') X.env v=(do
 let L <- holding [v] (eval o X.env)
 let iv <- holding [v,L] (eval b X.env)
 standAt pos'
 holding [v,L,iv] (setItem L iv v)
 release [v,L,iv] [])):PS X (.Assign [.Subscript o b pos'] a pos) (tS nm W X.K EX (.asg (.sub o' b') a')) :=
 PS.of (Xf he (avw ho hi (aqd (nm:=nm) hu) ha) (ali _ _ _ _ _ _) (by rfl) (by rfl)) λD σ H ι ρ M fl qk M' S R e q=>by
  rw[MW.Ou] at e;obtain⟨x,M1,e1,e⟩:=dj e;obtain⟨q0,M2,Z,e⟩:=dj e;cases e;rw[MW.aoj] at Z;obtain⟨y,M3,e3,Z⟩:=dj Z;obtain⟨z,M4,e4,Z⟩:=dj Z;obtain⟨M5,M6,e5,e6⟩:=dj Z;obtain⟨e7,e8⟩:=xg e5;subst e8;cases e6;refine one S R e1 λqv H1 v le S1 R1 r=>?_
  refine one S1 R1 e3 λqq H2 v2 zg S2 R2 r2=>one S2 R2 e4 λG H3 v3 Oi S3 R3 r3=>?_
  exact⟨G,_,y,z,x,_,S3,r2.mono Oi,r3,(r.mono zg).mono Oi,e7,λH' V5 S'=>q G H' σ (((le.trans zg).trans Oi).trans V5) S' (R3.mono V5)⟩
set_option tactic.hygienic true in
def alk(hn:n=nm.fld f)(L:∀c C,nm.cls c=some C->Cls X.K C/\Il X.K C n)(he:PE X a (tE nm W X.K a'))(ho:PE X o (tE nm W X.K o'))(Jo:Ml a=true) :
 PS X (.Assign [.Attribute o n pos'] a pos) (tS nm W X.K EX (.asg (.fld o' f) a')) :=
 PS.of (av8 ho he (Hb Jo _ _ _)) λD σ H ι ρ M fl qq M' S R e q=>by
  rw[MW.Ou] at e;obtain⟨x,M1,e1,e⟩:=dj e;obtain⟨qv,M2,G,e⟩:=dj e;cases e;rw[MW.adl] at G;obtain⟨y,M3,e3,G⟩:=dj G;obtain⟨M5,M6,e5,e6⟩:=dj G;obtain⟨Z,e8⟩:=xg e5;subst e8;cases e6;refine one S R e1 λqk H1 v le S1 R1 r=>one S1 R1 e3 λY H2 v2 zg S2 R2 r2=>?_
  obtain⟨j,hx⟩:∃j,y=.ref j:=by cases y<;>first|exact⟨_,rfl⟩|cases Z
  subst hx;obtain⟨p,rfl,hp⟩:∃p,v2=.ref p/\Y.l[j]?=some p:=by cases r2 with|ref z=>exact⟨_,rfl,z⟩
  simp only[MW.Mz] at Z;split at Z
  .rename_i c fs hM
   have hl:fs.length<1000:=by
    by_cases z:fs.length<1000
    .exact z
    .rw[az z] at Z;cases Z
   rw[bf hl] at Z;cases Z;obtain⟨C,J,l,h1,h2,h3⟩:=S2.obj j _ p hM hp;subst hn;obtain⟨g1,g2⟩:=L c C h1;refine⟨p,C,J,l,rfl,h2,g1,g2,by rw[<- h3.length];exact hl,?_⟩;obtain⟨S3,Oi⟩:=S2.put (u:=.ins C J (Gw (nm.fld f) v l)) (o:=.ins c (MW.Qd f x fs)) hM hp λV5=>⟨C,J,_,h1,m8,(h3.mono V5).Gw ((r.mono zg).mono V5)⟩
   exact q Y _ σ ((le.trans zg).trans Oi) S3 (R2.mono Oi)
  .cases Z
def Bp.weak(h:Bp X f r)(w:∀G H Q,r' G H Q->r G H Q):Bp X f r':=λZ s σ H G L Q I R q=>h Z s σ H G L Q I R (w G H Q q)
def rB(R:Nm)(K:Fg)(b:Blt):List V->Hp->VK->Prop:=λvs H Q=>∃L M ds d M',ju R K L H M/\jw K L H ds vs/\MW.v5 b ds M=.ok d M'/\∀Z G v,Le L H Z G->ju R K Z G M'->Rep K Z G d v->Q v G
def Bp.of(h:Bp X f r)(w:∀L H Q G M ds d M',ju nm X.K G H M->jw X.K G H ds L->MW.v5 bb ds M=.ok d M'->(∀Z R v,Le G H Z R->ju nm X.K Z R M'->Rep X.K Z R d v->Q v R)->r L H Q):Bp X f (rB nm X.K bb) :=
 Bp.weak h λL H Q z_=>by obtain⟨G,M,ds,d,M',S,r,e,q⟩:=z_;exact w L H Q G M ds d M' S r e q
def aae{X:Cx}:∀σ H Q,tE nm W X.K (.blt t L) σ H Q->tCB (rB nm X.K t) (Xv nm W X.K L) σ H Q:=fun σ H Q hh=>by obtain⟨ι,ρ,M,d,M',S,R,e,q⟩:=hh;rw[MW.Wn] at e;obtain⟨ds,M1,e1,e⟩:=dj e;exact Xx S R e1 λZ H1 vs le S1 R1 r=>⟨Z,M1,ds,d,M',S1,r,e,λG H' v V5 S' r'=>q G H' v (le.trans V5) S' r'⟩
def aeu{id:String}(L:Bp X (.builtin id) (rB nm X.K t))(hg:Gl X x)(R:X.mg x=none)(hv:bootBuiltins x=some (.builtin id))(ha:PA X (a::Z) (Xv nm W X.K G))(hn:x≠"__name__")(K9:(x==("__debug__" : Str))=false)(he:starEach (a::Z) X.env=(false,eval a X.env)::starEach Z X.env)(Jo:(backTo pos (starEach Z X.env)).any (·.1)=false):PE X (.Call (.Name x p) (a::Z) [] pos) (tE nm W X.K (.blt t G)):=PE.weak (aj6 L hg R hv ha hn K9 he Jo) aae
def alm(L:Bp X (.type T) (rB nm X.K t))(hg:Gl X x)(R:X.mg x=none)(hv:bootBuiltins x=some (.type T))(ha:PA X (a::Z) (Xv nm W X.K G))(hn:x≠"__name__")(K9:(x==("__debug__" : Str))=false)(he:starEach (a::Z) X.env=(false,eval a X.env)::starEach Z X.env)(Jo:(backTo pos (starEach Z X.env)).any (·.1)=false):PE X (.Call (.Name x p) (a::Z) [] pos) (tE nm W X.K (.blt t G)):=PE.weak (agm L hg R hv ha hn K9 he Jo) aae
def La(r:jw K Z H ds G)(h:ds=[d]):∃v,G=[v]/\Rep K Z H d v:=by subst h;cases r with|cons h t=>cases t;exact⟨_,rfl,h⟩
def aqe:Bp X (.type "tuple") (rB nm X.K .tuple):=Bp.of U8 λvs H Q G M ds d M' S r e q=>by
 cases r with
 |nil=>simp[MW.v5] at e
 |@cons x v _ _ h t =>
  cases t with
  |cons h2 t2=>simp[MW.v5] at e
  |nil =>
   have e:Res.ue ((MW.zu M x).map MW.D.tup) M=.ok d M':=e;obtain⟨e1,e2⟩:=xg e;subst e2;obtain⟨xs,e3,rfl⟩:=cg.mp e1;obtain⟨p,L,rfl,Z,R⟩:=Gf S h e3;rcases Z with Z|Z
   .refine⟨p,L,rfl,.inl ⟨Ha.of Z,λl hl=>?_⟩⟩
    obtain⟨S2,zg,r2⟩:=Iu S hl R;exact q G _ _ zg S2 r2
   .exact⟨p,L,rfl,.inr ⟨Hl.of Z,q G H _ (Le.refl _ _) S (.tup Z R)⟩⟩
set_option tactic.hygienic true in
def a3l:Bp X (.builtin "len") (rB nm X.K .len):=Bp.of Xl λvs H Q L M Y d M' S r e q=>by
 cases r with
 |nil=>simp[MW.v5] at e
 |@cons x v _ _ h t =>
  cases t with
  |cons h2 t2=>simp[MW.v5] at e
  |nil =>
   have fin:∀C,(MW.zu M x=some C)->d=.int C.length->M'=M->∃p J,[v]=[V.ref p]/\(Ha X.K H p J\/Hl X.K H p J)/\Q (.int J.length) H:=λC e3 Z y=>by subst Z y;obtain⟨p,R,rfl,u,ru⟩:=Gf S h e3;exact⟨p,R,rfl,u.imp Ha.of Hl.of,by rw[<- ru.length];exact q L H _ (Le.refl _ _) S (.int _)⟩
   cases h with
   |fz Z G =>
    cases e;exact⟨_,_,rfl,.inl Z.sq,by rw[<- G.length];exact q L H _ (Le.refl _ _) S (.int _)⟩
   |@ref n p Z =>
    have e:(match M[n]? with|some (.lst Y)=>Res.ok (MW.D.int Y.length) M|_=>.bad)=Res.ok d M':=e;split at e
    .rename_i Y hM
     cases e;exact fin Y (by simp[MW.zu,MW.iw,hM]) rfl rfl
    .cases e
   |tup Z G=>cases e;exact fin _ rfl rfl rfl|vl Z n1 G=>cases e;exact fin _ rfl rfl rfl|_=>cases e
open MW
noncomputable def Fq(f:Dv->Dv->Option Bool)(Z bs:List Dv)(j:Nat):Bool:=match Z[j]?,bs[j]? with
 |some a,some b=>(f a b).getD false|_,_=>false
set_option tactic.hygienic true in
theorem Gv{f:Dv->Dv->Option Bool}:∀{Z bs:List Dv}{r:Bool},MW.My f Z bs=some r->(∀(j:Nat) a b,Z[j]?=some a->bs[j]?=some b->∃c,f a b=some c) /\
 r=((List.range (min Z.length bs.length)).all (Fq f Z bs)&&Z.length==bs.length)
 |[],[],r,h=>by cases h;exact⟨λj a b e=>by simp at e,by simp⟩
 |[],b::bs,r,h=>by cases h;exact⟨λj a b e=>by simp at e,by simp⟩
 |a::Z,[],r,h=>by cases h;exact⟨λj a b _ e=>by simp at e,by simp⟩
 |a::Z,b::bs,r,h=>by
  simp only[MW.My] at h;split at h
  .rename_i x y J S
   cases h;obtain⟨g1,R⟩:=Gv S;refine⟨λj C u G Y=>?_,?_⟩
   .cases j with
    |zero=>simp at G Y;subst G Y;exact⟨x,J⟩|succ j=>exact g1 j C u (by simpa using G) (by simpa using Y)
   .rw[gq,gq,Nat.succ_min_succ,List.range_succ_eq_map,List.all_cons,List.all_map]
    have z:Fq f (a::Z) (b::bs) 0=x:=by simp[Fq,J]
    have z2:(Fq f (a::Z) (b::bs) ∘ Nat.succ)=Fq f Z bs:=by funext j;simp[Fq]
    rw[z,z2,R];have L:(Z.length+1==bs.length+1)=(Z.length==bs.length):=by
     by_cases q:Z.length=bs.length
     .simp[q]
     .have:¬(Z.length+1=bs.length+1):=by lia
      simp[q,this]
    rw[L,Bool.and_assoc]
  .cases h
set_option tactic.hygienic true in
theorem Ks{Z:Io}{H:Hp}{K:Fg}{f:Dv->Dv->Option Bool}(Y:∀x y v r,Rep K Z H x v->Rep K Z H y v->f x y=some r->r=true):∀{J bs:List Dv}{G:List V}{r:Bool},jw K Z H J G->jw K Z H bs G->MW.My f J bs=some r->r=true
 |_,_,_,_,.nil,.nil,h=>by cases h;rfl
 |_,_,_,_,.cons h1 t1,.cons h2 t2,h=>by
  simp only[MW.My] at h;split at h
  .rename_i x y L C
   cases h;rw[Y _ _ _ _ h1 h2 L,Ks Y t1 t2 C];rfl
  .cases h
inductive EqI(M:dh)(f:Dv->Dv->Option Bool):Dv->Dv->Bool->Prop
 |non:EqI M f .non .non true
 |bl (a b:Bool):EqI M f (.bl a) (.bl b) (a==b)
 |int (a b:Int):EqI M f (.int a) (.int b) (decide (a=b))
 |str (a b:Str):EqI M f (.str a) (.str b) (decide (a=b))
 |tup {as bs:List Dv} {r:Bool} (h:MW.My f as bs=some r):EqI M f (.tup as) (.tup bs) r
 |lst {x y:Dv} {as bs:List Dv} {r:Bool} (h1:MW.iw M x=some as) (h2:MW.iw M y=some bs) (h:(if as.length=bs.length then MW.My f as bs else some false)=some r):EqI M f x y r
set_option tactic.hygienic true in
def Xz(h:MW.Jk M (k+1) x y=some r):EqI M (MW.Jk M k) x y r:=by
 unfold MW.Jk at h;split at h
 .cases h;exact .int _ _
 .cases h;exact .bl _ _
 .cases h;exact .str _ _
 .cases h;exact .non
 .exact .tup h
 .split at h
  .rename_i Y Z;exact .lst Y Z h
  .cases h
def aaf{X:Cx}(S:ju nm X.K Z H M)(L:Rep X.K Z H x v)(ry:Rep X.K Z H y v)(h1:MW.iw M x=some ds)(h2:MW.iw M y=some R):∃vs,jw X.K Z H ds vs/\jw X.K Z H R vs:=by obtain⟨p,vs,rfl,g1,g2⟩:=u9 S L h1;obtain⟨p',ws,hw,G,g4⟩:=u9 S ry h2;cases hw;rw[g1] at G;cases G;exact⟨vs,g2,g4⟩
theorem X3{nm:Nm}{L:Io}{H:Hp}{M:dh}{X:Cx}(S:ju nm X.K L H M):∀(k:Nat)(x y:Dv)(v:V)(r:Bool),Rep X.K L H x v->Rep X.K L H y v->MW.Jk M k x y=some r->r=true
 |0,_,_,_,_,_,_,h=>by cases h
 |k+1,x,y,v,r,rx,ry,h=>by
  have ih:=X3 S k;cases Xz h with
  |non=>rfl|bl a b=>cases rx;cases ry;simp|int a b=>cases rx;cases ry;simp|str a b=>cases rx;cases ry;simp
  |tup h=>cases rx with
   |tup e1 Z=>cases ry with
    |tup R G=>rw[e1] at R;cases R;exact Ks ih Z G h
  |lst h1 h2 h3 =>
   obtain⟨vs,Z,G⟩:=aaf S rx ry h1 h2;rw[bf (Z.length.trans G.length.symm)] at h3;exact Ks ih Z G h3
def Vals.aag{j:Nat}(r:Vals xs G)(h1:xs[j]?=some v)(R:G[j]?=some u):RelV v u:=by obtain⟨u',Z,L⟩:=L2.Vals.get r h1;rw[R] at Z;cases Z;exact L
theorem Mm{G:Io}{H:Hp}{K:Fg}:∀{l:List (List Kx×Dv)}{Z:List (List Key×V)},ni K G H (λk L=>k=L) l Z->Z.map (·.1)=l.map (·.1)
 |_,_,.nil=>rfl|_,_,.cons k h t=>by simp[Mm t,k]
def aev(r:KT H l G):G.map (·.1)=l.map (·.1)/\∀x∈G,H x.2.1=some (.tup (x.1.map kV)):=by
 induction r with
 |nil=>exact⟨rfl,by simp⟩
 |@cons p q ps qs hq t ih =>
  refine⟨by simp[ih.1,hq.1],λx Z=>?_⟩;rcases bx.mp Z with rfl|Z
  .rw[<- hq.1];exact hq.2.1
  .exact ih.2 x Z
set_option tactic.hygienic true in
theorem Ug{nm:Nm}{X:Cx}{ι:Io}{H:Hp}{σ:St}{M:dh}{q0:Zp}{s:Shared}(I:Inv X q0 σ H s)(S:ju nm X.K ι H M):∀(k:Nat)(A:Around)(x y:Dv)(v u:V)(v' u':Value)(r:Bool),xj k A->Rep X.K ι H x v->Rep X.K ι H y u->RelV v v'->RelV u u'->MW.Jk M k x y=some r->SeqAt.EqAt A s v' u' r
 |0,_,_,_,_,_,_,_,_,_,_,_,_,_,h=>by cases h
 |k+1,A,x,y,v,u,v',u',r,hr,rx,ry,rv,ru,h=>by
  have ih:=Ug I S k A.in1;have Ym:=hr.in1;have C:∀(Z Y:List Dv)(vs ws:List V)(is J:Zl)(rr:Bool),jw X.K ι H Z vs->jw X.K ι H Y ws->Vals vs is->Vals ws J->MW.My (MW.Jk M k) Z Y=some rr ->
   ∀j (h1:j<is.toArray.size) (h2:j<J.toArray.size),SeqAt.EqAt A.in1 s is.toArray[j] J.toArray[j] (Fq (MW.Jk M k) Z Y j):=λZ Y vs ws is J rr rd re Uh q3 he j h1 h2=>by
   have l1:j<Z.length:=by rw[rd.length,Uh.length];simpa using h1
   have l2:j<Y.length:=by rw[re.length,q3.length];simpa using h2
   have R:Z[j]?=some Z[j]:=by simp[l1]
   have G:Y[j]?=some Y[j]:=by simp[l2]
   obtain⟨c,hc⟩:=(Gv he).1 j _ _ R G;obtain⟨va,a1,a2⟩:=rd.get R;obtain⟨wa,b1,b2⟩:=re.get G;have q1:is[j]?=some is.toArray[j]:=by simp
   have q2:J[j]?=some J.toArray[j]:=by simp
   have:=ih _ _ va wa _ _ c Ym a2 b2 (Vals.aag Uh a1 q1) (Vals.aag q3 b1 q2) hc;have z:Fq (MW.Jk M k) Z Y j=c:=by simp[Fq,R,G,hc]
   rw[z];exact this
  have qv:∀(p p2:Addr)(Z Y:List Dv),v=.ref p->u=.ref p2->MW.iw M x=some Z->MW.iw M y=some Y->(if Z.length=Y.length then MW.My (MW.Jk M k) Z Y else some false)=some r->SeqAt.EqAt A s v' u' r:=λp p2 Z Y hv hu h1 h2 h3=>by
   subst hv hu;cases rv;cases ru;obtain⟨_,vs,hv,R,G⟩:=u9 S rx h1;cases hv;obtain⟨_,ws,hw,g3,g4⟩:=u9 S ry h2;cases hw
   by_cases L:p=p2
   .subst L
    have:r=true:=by rw[R] at g3;cases g3;rw[bf (G.length.trans g4.length.symm)] at h3;exact Ks (λx y v r a b c=>X3 S k x y v r a b c) G g4 h3
    rw[this];exact SeqAt.EqAt.same _
   .refine SeqAt.EqAt.of_refs L ?_
    obtain⟨is,r1,qk,_⟩:=I.list (Ha.of R);obtain⟨J,r2,qq,_⟩:=I.list (Ha.of g3)
    by_cases hl:Z.length=Y.length
    .rw[bf hl] at h3
     have q4:is.toArray.size=J.toArray.size:=by simp[<- r1.length,<- r2.length,<- G.length,<- g4.length,hl]
     have:=SeqAt.RcAt.lists (e:=Fq (MW.Jk M k) Z Y) qk.isList qq.isList q4 hr.O9 (C Z Y vs ws is J r G g4 r1 r2 h3);rw[(Gv h3).2];have e1:is.toArray.size=min Z.length Y.length:=by simp[<- r1.length,<- G.length,hl]
     rw[e1] at this;simpa[hl] using this
    .rw[az hl] at h3
     cases h3;exact SeqAt.RcAt.lists_lengths qk.isList qq.isList (by simp[<- r1.length,<- r2.length,<- G.length,<- g4.length,hl]) hr.O9
  cases Xz h with
  |non=>cases rx;cases ry;cases rv;cases ru;exact SeqAt.EqAt.same _|bl a b=>cases rx;cases ry;cases rv;cases ru;exact SeqAt.EqAt.bool_bool _ _
  |int a b =>
   cases rx;cases ry;obtain⟨t,rfl⟩:=rv;obtain⟨t2,rfl⟩:=ru;rw[<- Bool.beq_eq_decide_eq];exact SeqAt.EqAt.int_int _ _ _ _
  |str a b =>
   cases rx;cases ry;obtain⟨t,rfl⟩:=rv;obtain⟨t2,rfl⟩:=ru;rw[<- Bool.beq_eq_decide_eq];exact SeqAt.EqAt.str_str _ _ _ _
  |@tup Z Y _ h=>cases rx with
   |@tup p _ vs e1 r1=>cases ry with
    |@tup p2 _ ws e2 r2 =>
     cases rv;cases ru
     by_cases L:p=p2
     .subst L
      have:r=true:=by rw[e1] at e2;cases e2;exact Ks (λx y v r a b c=>X3 S k x y v r a b c) r1 r2 h
      rw[this];exact SeqAt.EqAt.same _
     .refine SeqAt.EqAt.of_refs L ?_
      obtain⟨is,R,qk,_⟩:=I.tuple (Hl.of e1);obtain⟨J,G,qq,_⟩:=I.tuple (Hl.of e2);have:=SeqAt.RcAt.tuples (e:=Fq (MW.Jk M k) Z Y) (show s.heap.IsTuple p is.toArray from qk) (show s.heap.IsTuple p2 J.toArray from qq) hr.O9 (C Z Y vs ws is J r r1 r2 R G h);rw[(Gv h).2];have z1:is.toArray.size=Z.length:=by simp[<- R.length,<- r1.length]
      have z2:J.toArray.size=Y.length:=by simp[<- G.length,<- r2.length]
      rw[z1,z2] at this;exact this
  |lst h1 h2 h3 =>
   obtain⟨p,_,e1,_⟩:=u9 S rx h1;obtain⟨p2,_,e2,_⟩:=u9 S ry h2;exact qv p p2 _ _ e1 e2 h1 h2 h3
inductive X4(A:Around)(s:Shared):Value->Value->Bool->Prop
 |Ld {p p2:Addr} {is js:Xs} (e:Nat->Bool) (h1:s.heap.IsTuple p is) (h2:s.heap.IsTuple p2 js) (he:∀j (h1:j<is.size) (h2:j<js.size),SeqAt.EqAt A.in1 s is[j] js[j] (e j)):X4 A s (.ref p) (.ref p2) ((List.range (min is.size js.size)).all e&&is.size==js.size)
 |a3n {p p2:Addr} {is js:Xs} (e:Nat->Bool) (h1:s.heap.IsList p is) (h2:s.heap.IsList p2 js) (hz:is.size=js.size) (he:∀j (h1:j<is.size) (h2:j<js.size),SeqAt.EqAt A.in1 s is[j] js[j] (e j)):X4 A s (.ref p) (.ref p2) ((List.range is.size).all e)
 |lens {p p2:Addr} {is js:Xs} (h1:s.heap.IsList p is) (h2:s.heap.IsList p2 js) (hz:(is.size != js.size)=true):X4 A s (.ref p) (.ref p2) false
def Wa{A:Around}(I:Inv X pins σ H s)(S:ju nm X.K ι H M)(hr:xj k A.in1)(rd:jw X.K ι H ds vs)(re:jw X.K ι H Z ws)(Uh:Vals vs is)(G:Vals ws L)(he:MW.My (MW.Jk M k) ds Z=some rr) :
 ∀j (h1:j<is.toArray.size) (h2:j<L.toArray.size),SeqAt.EqAt A.in1 s is.toArray[j] L.toArray[j] (Fq (MW.Jk M k) ds Z j):=λj h1 h2=>by
 have l1:j<ds.length:=by rw[rd.length,Uh.length];simpa using h1
 have l2:j<Z.length:=by rw[re.length,G.length];simpa using h2
 have g1:ds[j]?=some ds[j]:=by simp[l1]
 have R:Z[j]?=some Z[j]:=by simp[l2]
 obtain⟨c,hc⟩:=(Gv he).1 j _ _ g1 R;obtain⟨va,a1,a2⟩:=rd.get g1;obtain⟨wa,b1,b2⟩:=re.get R;have q1:is[j]?=some is.toArray[j]:=by simp
 have q2:L[j]?=some L.toArray[j]:=by simp
 have:=Ug I S k A.in1 _ _ va wa _ _ c hr a2 b2 (Vals.aag Uh a1 q1) (Vals.aag G b1 q2) hc;have z:Fq (MW.Jk M k) ds Z j=c:=by simp[Fq,g1,R,hc]
 rw[z];exact this
def acq(I:Inv X pins σ H s)(S:ju nm X.K ι H M)(hr:xj k A.in1)(rx:Rep X.K ι H x v)(ry:Rep X.K ι H y u)(rv:RelV v v')(ru:RelV u u')(h1:MW.iw M x=some ds)(h2:MW.iw M y=some R)(h3:(if ds.length=R.length then MW.My (MW.Jk M k) ds R else some false)=some r):X4 A s v' u' r:=by
 obtain⟨p,vs,rfl,g1,g2⟩:=u9 S rx h1;obtain⟨p2,ws,rfl,g3,g4⟩:=u9 S ry h2;cases rv;cases ru;obtain⟨is,r1,L,_⟩:=I.list (Ha.of g1);obtain⟨js,r2,G,_⟩:=I.list (Ha.of g3)
 by_cases Z:ds.length=R.length
 .rw[bf Z] at h3
  have qq:is.toArray.size=js.toArray.size:=by simp[<- r1.length,<- r2.length,<- g2.length,<- g4.length,Z]
  have z:=X4.a3n (A:=A) (Fq (MW.Jk M k) ds R) L.isList G.isList qq (Wa I S hr g2 g4 r1 r2 h3);rw[(Gv h3).2];have e1:is.toArray.size=min ds.length R.length:=by simp[<- r1.length,<- g2.length,Z]
  rw[e1] at z;simpa[Z] using z
 .rw[az Z] at h3
  cases h3;exact .lens L.isList G.isList (by simp[<- r1.length,<- r2.length,<- g2.length,<- g4.length,Z])
set_option tactic.hygienic true in
def aah(I:Inv X pins σ H s)(S:ju nm X.K C H M)(hr:xj k A.in1)(Z:Rep X.K C H x v)(Y:Rep X.K C H y u)(L:RelV v v')(ru:RelV u u')(h:MW.Jk M (k+1) x y=some r) :
 X4 A s v' u' r\/(av7 v u=true/\r=decide (v=u)):=by
 cases Xz h with
 |non=>cases Z;cases Y;exact .inr ⟨rfl,by simp⟩|bl a b=>cases Z;cases Y;exact .inr ⟨rfl,by by_cases z:a=b<;>simp[z]⟩|int a b=>cases Z;cases Y;exact .inr ⟨rfl,by by_cases z:a=b<;>simp[z]⟩|str a b=>cases Z;cases Y;exact .inr ⟨rfl,by by_cases z:a=b<;>simp[z]⟩
 |@tup ds es _ h=>cases Z with
  |@tup p _ vs e1 r1=>cases Y with
   |@tup p2 _ ws e2 r2 =>
    cases L;cases ru;obtain⟨is,g1,G,_⟩:=I.tuple (Hl.of e1);obtain⟨js,R,J,_⟩:=I.tuple (Hl.of e2);have z:=X4.Ld (A:=A) (Fq (MW.Jk M k) ds es) (show s.heap.IsTuple p is.toArray from G) (show s.heap.IsTuple p2 js.toArray from J) (Wa I S hr r1 r2 g1 R h);rw[(Gv h).2];have z1:is.toArray.size=ds.length:=by simp[<- g1.length,<- r1.length]
    have z2:js.toArray.size=es.length:=by simp[<- R.length,<- r2.length]
    rw[z1,z2] at z;exact .inl z
 |lst h1 h2 h3=>exact .inl (acq I S hr Z Y L ru h1 h2 h3)
def X4.rc(h:X4 A s v u r)(hu:A.units<cLine):SeqAt.RcAt A s v u r/\SeqAt.RcNeAt A s v u (!r):=by
 cases h with
 |Ld e G Z L=>exact⟨SeqAt.RcAt.tuples G Z hu L,SeqAt.RcNeAt.tuples G Z hu L⟩|a3n e G Z R L=>exact⟨SeqAt.RcAt.lists G Z R hu L,SeqAt.RcNeAt.lists G Z R hu L⟩|lens G Z R=>exact⟨SeqAt.RcAt.lists_lengths G Z R hu,SeqAt.RcNeAt.lists_lengths G Z R hu⟩
def baf(R:xj 6 X.A):Bc X (compareOp .Eq) (Jm nm X.K .eq):=λZ s σ H v u v' u' Q I G L hh=>by
 obtain⟨ι,M,x,y,b,S,rx,ry,e,q⟩:=hh;have e:MW.Jk M 6 x y=some b:=e;rcases aah (A:=X.A) I S R.in1 rx ry G L e with h|⟨h1,h2⟩
 .exact(h.rc R.O9).1 X.prog X.w X.xe _ ⟨.bl b,H,I,rfl,q⟩
 .subst h2
  exact a1a Z s σ H v u v' u' Q I G L ⟨h1,q⟩
def bag(R:xj 6 X.A):Bc X (compareOp .NotEq) (Jm nm X.K .ne):=λZ s σ H v u v' u' Q I G L hh=>by
 obtain⟨ι,M,x,y,b,S,rx,ry,e,q⟩:=hh;obtain⟨b',e1,e2⟩:=cg.mp (show(MW.Ak M x y).map not=some b from e);subst e2;rcases aah (A:=X.A) I S R.in1 rx ry G L (show MW.Jk M 6 x y=_ from e1) with h|⟨h1,h2⟩
 .exact(h.rc R.O9).2 X.prog X.w X.xe _ ⟨.bl !b',H,I,rfl,q⟩
 .subst h2
  exact a1b Z s σ H v u v' u' Q I G L ⟨h1,q⟩
section
variable{nm:Nm}{W:Fd}{X:Cx}{a b c o:Expr}{a' b' c' o':Ex}{pos pos' apos:Pos}{ι:Io}{H:Hp}{σ:St}{ρ:En}{M M1 M2:dh}{x y:Dv}{es:Y3}{es':Cu}
set_option tactic.hygienic true in
theorem Eg:∀{Z:List Dv}{bs:List Bool},MW.R9 M x Z=some bs->bs.length=Z.length/\∀(j:Nat) d,Z[j]?=some d->∃b,bs[j]?=some b/\MW.Ak M d x=some b
 |[],bs,h=>by cases h;exact⟨rfl,λj d e=>by simp at e⟩
 |y::ys,bs,h=>by
  simp only[MW.R9] at h;split at h
  .rename_i a b J G
   cases h;obtain⟨C,Y⟩:=Eg G;refine⟨by simp[C],λj d e=>?_⟩;cases j with
   |zero=>simp at e;subst e;exact⟨a,rfl,J⟩|succ j=>simpa using Y j d (by simpa using e)
  .cases h
def Ga(I:Inv X pins σ H s)(e:Xr X.K H p G):(∃o,H p=some (.Hk o (.lst G)))\/(H p=none/\∃(o:Obj)(Z:Xs)(n:Nat),X.K.lookup p=some o/\o.data=.seq Z n/\Vals G Z.toList):=by
 rcases e with h|⟨o,Z,n,h1,_,_,h2,_,h3⟩
 .exact .inl h
 .exact .inr ⟨(I.bs p o (I.mod.kin p o h1)).2,o,Z,n,h1,h2,h3⟩
def axj(I:Inv X pins σ H s)(e:Xr X.K H p vs)(e2:Xr X.K H p ws):vs=ws:=by
 rcases Ga I e with⟨o,h⟩|⟨h,o,xf,n,h1,h2,h3⟩
 .rcases Ga I e2 with⟨o',Z⟩|⟨Z,_⟩
  .rw[h] at Z;cases Z;rfl
  .rw[h] at Z;cases Z
 .rcases Ga I e2 with⟨o',Z⟩|⟨_,o',qq,n',L,G,R⟩
  .rw[h] at Z;cases Z
  .rw[h1] at L;cases L
   rw[h2] at G;cases G;exact Vals.inj h3 R
mutual
theorem aew{R:Zp}{s:Shared}(I:Inv X R σ H s)(S:ju nm X.K ι H M):∀{d d':Dv}{v:V},Rep X.K ι H d v->Rep X.K ι H d' v->d=d'
 |_,_,_,.non,r=>by cases r;rfl|_,_,_,.bl b,r=>by cases r;rfl|_,_,_,.int i,r=>by cases r;rfl|_,_,_,.str z,r=>by cases r;rfl
 |_,_,_,.tup e1 r1,r=>by
  cases r with
  |tup Z G =>
   rw[e1] at Z;cases Z;rw[Ny I S r1 G]
  |vl Z n2 G=>rw[e1] at Z;cases Z
  |fz Z G =>
   rcases Ga I Z with⟨o,h⟩|⟨h,_⟩
   .rw[e1] at h;cases h
   .rw[e1] at h;cases h
  |ref Z =>
   obtain⟨u,q,L⟩:=S.mem (cj Z);rw[e1] at L;exact L.elim
 |_,_,_,.vl e1 n1 r1,r=>by
  cases r with
  |tup Z G=>rw[e1] at Z;cases Z
  |vl Z n2 G =>
   rw[e1] at Z;cases Z;rw[Ny I S r1 G]
  |fz Z G =>
   rcases Ga I Z with⟨o,h⟩|⟨h,_⟩
   .rw[e1] at h;cases h
   .rw[e1] at h;cases h
  |ref Z=>exact absurd (cj Z) n1.1
 |_,_,_,.fz e1 r1,r=>by
  cases r with
  |tup Z G =>
   rcases Ga I e1 with⟨o,h⟩|⟨h,_⟩
   .rw[Z] at h;cases h
   .rw[Z] at h;cases h
  |vl Z n2 G =>
   rcases Ga I e1 with⟨o,h⟩|⟨h,_⟩
   .rw[Z] at h;cases h
   .rw[Z] at h;cases h
  |fz Z G =>
   have:=axj I e1 Z;subst this;rw[Ny I S r1 G]
  |ref Z =>
   obtain⟨u,q,L⟩:=S.mem (cj Z);rcases Ga I e1 with⟨o,h⟩|⟨h,_⟩
   .rw[h] at L;exact L.elim
   .rw[h] at q;cases q
 |_,_,_,.ref e1,r=>by
  cases r with
  |tup Z G =>
   obtain⟨u,q,L⟩:=S.mem (cj e1);rw[Z] at L;exact L.elim
  |vl Z n2 G=>exact absurd (cj e1) n2.1
  |fz Z G =>
   obtain⟨u,q,L⟩:=S.mem (cj e1);rcases Ga I Z with⟨o,h⟩|⟨h,_⟩
   .rw[h] at L;exact L.elim
   .rw[h] at q;cases q
  |ref Z =>
   obtain⟨l1,q1⟩:=aq.mp e1;obtain⟨l2,q2⟩:=aq.mp Z;rw[(vq S.nd).mp (q1.trans q2.symm)]
theorem Ny{G:Zp}{s:Shared}(I:Inv X G σ H s)(S:ju nm X.K ι H M):∀{R Z:List Dv}{L:List V},jw X.K ι H R L->jw X.K ι H Z L->R=Z
 |_,_,_,.nil,r=>by cases r;rfl
 |_,_,_,.cons h t,r=>by
  cases r with
  |cons h2 t2=>rw[aew I S h h2,Ny I S t t2]
end
def Nz(I:Inv X pins σ H s)(S:ju nm X.K ι H M)(hr:xj 6 A)(L:jw X.K ι H ds vs)(R:Vals vs is)(rx:Rep X.K ι H x u)(ru:RelV u u')(h:MW.R9 M x ds=some bs):∃e:Value->Bool,(∀w,w∈is.toArray->SeqAt.EqAt A s w u' (e w))/\∀(j:Nat)(w:Value),is[j]?=some w->bs[j]?=some (e w):=by
 obtain⟨g1,g2⟩:=Eg h;have at':∀(j:Nat)(w:Value),is[j]?=some w->∃b,bs[j]?=some b/\SeqAt.EqAt A s w u' b:=λj w G=>by
  have lj:j<ds.length:=by rw[L.length,R.length];exact(aq.mp G).1
  have gd:ds[j]?=some ds[j]:=by simp[lj]
  obtain⟨b,e1,e2⟩:=g2 j _ gd;obtain⟨v,a1,a2⟩:=L.get gd;exact⟨b,e1,Ug I S 6 A _ _ v u w u' b hr a2 rx (Vals.aag R a1 G) ru e2⟩
 classical
 refine⟨λw=>if G:∃j:Nat,is[j]?=some w then(bs[G.choose]?).getD false else false,λw G=>?_,λj w G=>?_⟩
 .obtain⟨j,hj,e⟩:=xx (by simpa using G:w∈is)
  have Z:∃j:Nat,is[j]?=some w:=⟨j,by simp[hj,e]⟩;obtain⟨b,e1,e2⟩:=at' Z.choose w Z.choose_spec;simp only[dif_pos Z,e1,Option.getD_some];exact e2
 .have Z:∃j:Nat,is[j]?=some w:=⟨j,G⟩
  obtain⟨b,e1,e2⟩:=at' j w G;obtain⟨b',e3,e4⟩:=at' Z.choose w Z.choose_spec;simp only[dif_pos Z,e3,Option.getD_some];rw[e1]
  congr 1
  have lj:j<ds.length:=by rw[L.length,R.length];exact(aq.mp G).1
  have lk:Z.choose<ds.length:=by rw[L.length,R.length];exact(aq.mp Z.choose_spec).1
  have gd:ds[j]?=some ds[j]:=by simp[lj]
  have gk:ds[Z.choose]?=some ds[Z.choose]:=by simp[lk]
  obtain⟨c1,q1,q2⟩:=g2 j _ gd;obtain⟨c2,q3,q4⟩:=g2 Z.choose _ gk;obtain⟨v1,p1,p2⟩:=L.get gd;obtain⟨v2,p3,p4⟩:=L.get gk;have hv:v1=v2:=RelV.inj (Vals.aag R p1 G) (Vals.aag R p3 Z.choose_spec);subst hv;rw[e1] at q1;rw[e3] at q3;cases q1;cases q3;have hd:=aew I S p2 p4;rw[hd,q4] at q2;exact(gf q2).symm
def Rp{is:Zl}{bs:List Bool}(Z:bs.length=is.length)(h:∀(j:Nat) (w:Value),is[j]?=some w->bs[j]?=some (e w)):bs=is.map e:=by
 apply List.ext_getElem?;intro j;rw[ir];cases q:is[j]? with
 |none=>rw[qb (by rw[Z];exact List.getElem?_eq_none_iff.mp q)];rfl|some w=>rw[h j w q];rfl
set_option tactic.hygienic true in
def bah(hr:xj 8 X.A):Bc X (compareOp .In) (Jm nm X.K .inn):=λL s σ H v u v' u' Q I rv ru hh=>by
 obtain⟨ι,M,x,y,b,S,rx,ry,e,q⟩:=hh;have e:MW.Lb M x y=some b:=e;have hu:X.A.units+1<cLine:=V3 hr
 have R:∀Z,MW.zu M y=some Z->MW.memD M x Z=some b->wpAny (model X.prog X.w) X.A (compareOp .In v' u') (EP X L σ Q) X.xe s:=λZ G Y=>by
  obtain⟨bs,C,J⟩:=cg.mp (show(MW.R9 M x Z).map (·.any id)=some b from Y);obtain⟨p,vs,rfl,hp,r⟩:=Gf S ry G;cases ru;rcases hp with hp|hp
  .obtain⟨is,r1,pl,_⟩:=I.list (Ha.of hp)
   obtain⟨f,g1,g2⟩:=Nz (A:=X.A.in1) I S ((hr.mono (by decide:7<=8)).in1) r r1 rx rv C;refine SeqAt.in_listAt f pl.isList g1 ?_;have:=Rp (by rw[(Eg C).1,r.length,r1.length]) g2;rw[this] at J;rw[show is.toArray.any f=b by rw[<- J];simp[yf]];exact⟨.bl b,H,I,rfl,q⟩
  .obtain⟨is,r1,pl,_⟩:=I.tuple (Hl.of hp)
   obtain⟨f,g1,g2⟩:=Nz (A:=X.A.in1) I S ((hr.mono (by decide:7<=8)).in1) r r1 rx rv C;refine SeqAt.in_tupleAt f (show s.heap.IsTuple p is.toArray from pl) g1 ?_;have:=Rp (by rw[(Eg C).1,r.length,r1.length]) g2;rw[this] at J;rw[show is.toArray.any f=b by rw[<- J];simp[yf]];exact⟨.bl b,H,I,rfl,q⟩
 cases ry with
 |@ref n p C =>
  simp only[MW.Lb] at e;split at e
  .rename_i qq hM
   obtain⟨k,J,e3⟩:=cg.mp e;obtain⟨l,G,Y⟩:=S.obj n _ p hM C;obtain⟨bb,rfl,hb⟩:=Pn rx J;cases ru;refine a9h hu I (U6.t G hb) rv λs' I'=>⟨.bl b,H,I',?_,q⟩
   rw[<- e3];cases hk:MW.Ft qq k with
   |none=>rw[(Y.look (k:=k)).2 hk];rfl|some d=>obtain⟨z,h3,_⟩:=(Y.look (k:=k)).1 d hk;rw[h3];rfl
  .obtain⟨Z,G,Y⟩:=gm.mp e
   exact R Z G Y
 |_ =>
  simp only[MW.Lb] at e;obtain⟨Z,G,Y⟩:=gm.mp e;exact R Z G Y
set_option tactic.hygienic true in
def aqf(hr:xj 8 X.A):Bc X (compareOp .NotIn) (Jm nm X.K .Qc):=λR s σ H v u v' u' Q I rv ru hh=>by
 obtain⟨ι,M,x,y,b0,S,rx,ry,e,q⟩:=hh;obtain⟨b,J,eb⟩:=cg.mp (show(MW.Lb M x y).map not=some b0 from e);subst eb;have hu:X.A.units+1<cLine:=V3 hr
 have qq:∀Z,MW.zu M y=some Z->MW.memD M x Z=some b->wpAny (model X.prog X.w) X.A (compareOp .NotIn v' u') (EP X R σ Q) X.xe s:=λZ G Y=>by
  obtain⟨bs,L,C⟩:=cg.mp (show(MW.R9 M x Z).map (·.any id)=some b from Y);obtain⟨p,vs,rfl,hp,r⟩:=Gf S ry G;cases ru;rcases hp with hp|hp
  .obtain⟨is,r1,pl,_⟩:=I.list (Ha.of hp)
   obtain⟨f,g1,g2⟩:=Nz (A:=X.A.in1) I S ((hr.mono (by decide:7<=8)).in1) r r1 rx rv L;refine SeqAt.notIn_listAt f pl.isList g1 ?_;have:=Rp (by rw[(Eg L).1,r.length,r1.length]) g2;rw[this] at C;rw[show is.toArray.any f=b by rw[<- C];simp[yf]];exact⟨.bl !b,H,I,rfl,q⟩
  .obtain⟨is,r1,pl,_⟩:=I.tuple (Hl.of hp)
   obtain⟨f,g1,g2⟩:=Nz (A:=X.A.in1) I S ((hr.mono (by decide:7<=8)).in1) r r1 rx rv L;refine SeqAt.notIn_tupleAt f (show s.heap.IsTuple p is.toArray from pl) g1 ?_;have:=Rp (by rw[(Eg L).1,r.length,r1.length]) g2;rw[this] at C;rw[show is.toArray.any f=b by rw[<- C];simp[yf]];exact⟨.bl !b,H,I,rfl,q⟩
 cases ry with
 |@ref n p L =>
  clear e;simp only[MW.Lb] at J;split at J
  .rename_i qk hM
   obtain⟨k,C,e3⟩:=cg.mp J;obtain⟨l,G,Y⟩:=S.obj n _ p hM L;obtain⟨bb,rfl,hb⟩:=Pn rx C;cases ru;refine apj hu I (U6.t G hb) rv λs' I'=>⟨.bl !b,H,I',?_,q⟩
   rw[<- e3];cases hk:MW.Ft qk k with
   |none=>rw[(Y.look (k:=k)).2 hk];rfl|some d=>obtain⟨z,h3,_⟩:=(Y.look (k:=k)).1 d hk;rw[h3];rfl
  .obtain⟨Z,G,Y⟩:=gm.mp J
   exact qq Z G Y
 |_ =>
  simp only[MW.Lb] at J;obtain⟨Z,G,Y⟩:=gm.mp J;exact qq Z G Y
end
open Vb (By Oo)
def KH(H:Hp)(x:List Key×Addr):Prop:=H x.2=some (.tup (x.1.map kV))/\∀k∈x.1,∃i,k=.inl i
def aai(P:Program)(w:World)(H:Hp):Vb.Om (jq P w) (KH H):=λx L k G v n Z=>by
 obtain⟨i,rfl⟩:=L.2 k G;rcases Ac (show Tj (Sum.inl i) v=true from Z) with⟨j,t,e,rfl⟩|⟨y,t,e,_⟩
 .unfold hashByValue;rfl
 .cases e
def ag4:∀ks:List Kx,MW.Mx (MW.at8 ks)=some ks:=λks=>by
 show MW.abe (ks.map MW.aob)=some ks
 induction ks with
 |nil=>rfl|cons k ks Z=>cases k<;>simp[MW.abe,MW.aob,MW.ah7,Z]
theorem Ui:∀{l:List (List Kx×Dv)},MW.Es (l.map λp=>MW.at8 p.1)=some (l.map (·.1))
 |[]=>rfl|p::l=>by simp[MW.Es,ag4,Ui]
set_option tactic.hygienic true in
theorem aex{C:Io}{H:Hp}{K:Fg}:∀{J:List Dv}{G:List V}{Y:List (List Kx)},jw K C H J G->MW.Es J=some Y->∃bs:List Addr,G=bs.map V.ref/\bs.length=Y.length/\∀x∈Y.zip bs,H x.2=some (.tup (x.1.map kV))
 |_,_,_,.nil,h=>by simp[MW.Es] at h;subst h;exact⟨[],rfl,rfl,by simp⟩
 |_,_,_,.cons r t,h=>by
  simp only[MW.Es] at h;split at h
  .rename_i k u L R
   cases h;obtain⟨b,rfl,e⟩:=Pn r L;obtain⟨bs,rfl,y,S⟩:=aex t R;refine⟨b::bs,rfl,by simp[y],λx Z=>?_⟩;simp only[List.zip_cons_cons,bx] at Z;rcases Z with rfl|Z
   .exact e
   .exact S x Z
  .cases h
def ag5(h:MW.Fv Z=true):Z.length<=30/\∀k∈Z,∀x∈k,∃i,x=Sum.inl i:=by
 simp only[MW.Fv,ao,bz,ji] at h;refine⟨h.1,λk G x L=>?_⟩;have:=h.2 k G x L;cases x with
 |inl i=>exact⟨i,rfl⟩|inr s=>cases this
set_option tactic.hygienic true in
def alp(hr:xj 8 X.A)(I:Inv X pins σ H s)(S:ju nm X.K ι H M)(rx:Rep X.K ι H x v)(ru:RelV v u)(Y:MW.keysOf M x=some ds)(hd:MW.Es ds=some G)(pl:MW.Fv G=true)(h:∀p o n Z,Inv X ((p,o)::pins) σ H Z->By (jq X.prog X.w) (KH H) Z.heap p (λk=>k∈G) n->Z.heap.get? p=some o->Q (.ref p) Z) :
 wpAny (model X.prog X.w) X.A (call (.type "set") [u]) Q X.xe s:=by
 obtain⟨qv,C⟩:=ag5 pl;have hu:X.A.in1.in1.in1.units+1<cLine:=by have:=hr.un;show X.A.units+1+1+1+1<cLine;lia
 have kept:∀b o,s.heap.get? b=some o->(s.heap.push (Vb.Ax X.w)).get? b=some o:=λb o e=>ak _ e
 have I1:Inv X pins σ H { s with heap:=s.heap.push (Vb.Ax X.w) }:=I.kept (t':=s.toks) kept;have fr:By (jq X.prog X.w) (KH H) (s.heap.push (Vb.Ax X.w)) s.heap.objs.size (λ_=>False) 0:=Vb.anq (bw _ rfl);have fin:∀(J:Heap)(tk n':Nat),(∀b o,b≠s.heap.objs.size->(s.heap.push (Vb.Ax X.w)).get? b=some o->J.get? b=some o)->By (jq X.prog X.w) (KH H) J s.heap.objs.size (λk=>k∈G) n'->Q (.ref s.heap.objs.size) { s with heap:=J,toks:=tk }:=λJ tk n' L hS=>by
  have I2:Inv X pins σ H { s with heap:=J,toks:=tk }:=I.kept λb o e=>L b o (gn (au e)) (kept b o e)
  obtain⟨o,es,ep,t,hg,hc,q5,_⟩:=hS.get;refine h _ o n' _ (I2.K8 λq hq=>?_) hS hg;rcases bx.mp hq with rfl|hq
  .refine⟨hg,I.wk.fresh (bh _),yg I.lt,I.ao4 (bh _),λv hv=>?_⟩
   rw[show o.data=_ from q5] at hv;cases hv
  .exact I2.pin q (fu _ hq)
 have lst:∀p vs,v=.ref p->H p=some (.lst vs)->jw X.K ι H ds vs->wpAny (model X.prog X.w) X.A (call (.type "set") [u]) Q X.xe s:=λp vs ev hp r=>by
  subst ev;cases ru;obtain⟨is,rv,q6,_⟩:=I1.list (Ha.of hp);obtain⟨bs,rfl,q0,hz⟩:=aex r hd;have q2:is=(G.zip bs).map λx=>Value.ref x.2:=by
   apply List.ext_getElem?;intro j;rw[ir]
   by_cases hj:j<bs.length
   .have e1:(bs.map V.ref)[j]?=some (.ref bs[j]):=by simp[hj]
    have qk:j<is.length:=by have:=rv.length;simp at this;exact b_ hj (f_ this)
    have e2:is[j]?=some is[j]:=by simp[qk]
    have:=Vals.aag rv e1 e2;rw[e2,show is[j]=Value.ref bs[j] from this];have q7:j<G.length:=b_ hj (f_ q0)
    have q4:(G.zip bs)[j]?=some (G[j],bs[j]):=by rw[gb (by simp;lia)];simp
    rw[q4];rfl
   .have qk:¬j<is.length:=by have:=rv.length;simp at this;exact j_ (a_ (g_ this) (s_ hj))
    rw[qb (s_ qk),qb (by simp;lia)];rfl
  refine Vb.Qa (R:=λZ=>Q (.ref s.heap.objs.size) Z) ?_ λZ h=>h
  refine Vb.ah4 (aai _ _ H) (ks:=G.zip bs) (items:=is.toArray) (by have:=hr.hd;exact this) hu fr q6.isList (by simpa using q2) (λx y=>Kl I1.wk (hz x y)) (λx y=>⟨hz x y,λk Y=>C x.1 (Aj (a:=x.1) (b:=x.2) y).1 k Y⟩) (by simp;lia) λJ tk n' L hS=>?_
  refine fin J tk n' L (hS.congr λk=>?_);rw[List.map_fst_zip (g_ q0)]
 unfold MW.keysOf at Y;split at Y
 .rename_i n
  split at Y
  .rename_i qq hM
   cases Y;rw[Ui] at hd;cases hd;cases rx with
   |@ref n p e1 =>
    obtain⟨l,h1,h2⟩:=S.obj n _ p hM e1;cases ru;obtain⟨_,q1,xs,q3,dd⟩:=Vy I1.wk h1;obtain⟨k1,k2⟩:=aev q3;have k3:xs.map (·.1)=qq.map (·.1):=k1.trans (Mm h2);have hl:xs.length=qq.length:=by have:=nq List.length k3;simpa using this
    refine Vb.Qa (R:=λZ=>Q (.ref s.heap.objs.size) Z) ?_ λZ h=>h
    refine Vb.ah2 (aai _ _ H) (by have:=hr.un;show X.A.units+1+1<cLine;lia) fr dd q1 (λx y=>⟨k2 x y,λk Y=>?_⟩) (by simp at qv;lia) λJ n' sb hS=>?_
    .have:x.1∈qq.map (·.1):=by rw[<- k3];exact cu.mpr ⟨x,y,rfl⟩
     exact C x.1 this k Y
    .refine fin J s.toks n' (λb o hb e=>(sb.2 b hb).trans e) (hS.congr λk=>?_)
     rw[k3];simp
  .obtain⟨p,vs,e1,e2,r⟩:=u9 S rx Y
   exact lst p vs e1 e2 r
 .obtain⟨p,vs,e1,e2,r⟩:=u9 S rx Y
  exact lst p vs e1 e2 r
def a3p(hS:By (jq P w) (KH H) h p T n)(hg:h.get? p=some o)(Z:R.get? p=some o)(le:∀a L,H a=some (.tup L)->H' a=some (.tup L))(ok:Jh P w H' R):By (jq P w) (KH H') R p T n:=by obtain⟨xs,o',es,ep,t,D,r⟩:=hS;have e:o'=o:=gf (D.get.symm.trans hg);subst e;refine⟨xs,o',es,ep,t,⟨Z,D.exa,D.dat,D.tab,D.ent,λx hx=>?_,D.nod,D.led,D.pla⟩,r⟩;obtain⟨_,G,k2⟩:=D.keys x hx;exact⟨Kl ok (le _ _ G),le _ _ G,k2⟩
def aaj:MW.Gx xs ys=true↔∀k,k∈xs↔k∈ys:=by
 simp only[MW.Gx,ao,ji,List.any_eq_true,bz];constructor
 .rintro⟨G,L⟩ k
  exact⟨λh=>by obtain⟨y,Z,e⟩:=G k h;rw[<- e];exact Z,λh=>by obtain⟨y,Z,e⟩:=L k h;rw[<- e];exact Z⟩
 .exact λh=>⟨λx R=>⟨x,(h x).mp R,rfl⟩,λy Z=>⟨y,(h y).mpr Z,rfl⟩⟩
set_option tactic.hygienic true in
def aqg(hr:xj 8 X.A)(hg:Gl X L)(hm:X.mg L=none)(hv:bootBuiltins L=some (.type "set"))(hn:L≠"__name__")(K9:(L==("__debug__" : Str))=false)(ha:PA X [a] (Xv nm W X.K (.cons a' .nil)))(hb:PA X [b] (Xv nm W X.K (.cons b' .nil)))(he:starEach [a] X.env=(false,eval a X.env)::starEach [] X.env)(q3:starEach [b] X.env=(false,eval b X.env)::starEach [] X.env)(Jo:(backTo q1 (starEach [] X.env)).any (·.1)=false)(qq:(backTo q2 (starEach [] X.env)).any (·.1)=false) :
 PC X .NotEq (.Call (.Name L p1) [a] [] q1) (.Call (.Name L p2) [b] [] q2) (tE nm W X.K (.R8 a' b')):=by
 intro u s σ H Q I hh;obtain⟨ι,ρ,M,d,M',S,R,e,q⟩:=hh;rw[MW.Vh] at e;obtain⟨x,M1,e1,e⟩:=dj e;cases hk1:(MW.keysOf M1 x).bind MW.Es with
 |none=>rw[hk1] at e;cases e
 |some ks =>
  rw[hk1] at e;simp only at e;split at e
  .rename_i q8
   obtain⟨y,M2,e2,e⟩:=dj e;cases hk2:(MW.keysOf M2 y).bind MW.Es with
   |none=>rw[hk2] at e;cases e
   |some ls =>
    rw[hk2] at e;simp only at e;split at e
    .rename_i q6
     cases e;obtain⟨zk,g1,q5⟩:=gm.mp hk1;obtain⟨zw,g2,q0⟩:=gm.mp hk2;refine jj (Hh I hg hm hv ?_ hn K9);refine lq (Al (ha q1 u s σ H (λJ C=>∃Z v,J=[v]/\Le ι H Z C/\ju nm X.K Z C M1/\Rep X.K Z C x v) I ⟨ι,ρ,M,[x],M1,S,R,by simp[e1,Res.bind],λZ C J le S1 r=>?_⟩) λus s1 ⟨J,C,I1,r1,Z,v,ev,Uu,S1,rx⟩=>?_) he Jo
     .obtain⟨v,ev,rv⟩:=La r rfl
      exact⟨Z,v,ev,le,S1,rv⟩
     subst ev;cases r1 with
     |cons rv rn =>
      cases rn;refine alp hr I1 S1 rx rv g1 q5 q8 λp o n s2 I2 hS q7=>?_
      refine jj (Hh I2 hg hm hv ?_ hn K9);refine lq (Al (hb q2 _ s2 σ C (λJ G=>∃Y v,J=[v]/\Le Z C Y G/\ju nm X.K Y G M'/\Rep X.K Y G y v) I2 ⟨Z,ρ,M1,[y],M',S1,R.mono Uu,by simp[e2,Res.bind],λY G J le S2 r=>?_⟩) λus s3 ⟨J,G,I3,r2,Y,v2,ev2,zg,S2,ry⟩=>?_) q3 qq
      .obtain⟨v,ev,rv⟩:=La r rfl
       exact⟨Y,v,ev,le,S2,rv⟩
      subst ev2;cases r2 with
      |cons q4 qv =>
       cases qv;refine alp hr I3 S2 ry q4 g2 q0 q6 λp' o' n' s4 I4 Ve zv=>?_
       have hp:s4.heap.get? p=some o:=(I4.pin (p,o) (fu _ (bc _ bu))).1;have qk:=a3p (H':=G) hS q7 hp zg.tup I4.wk;refine Vb.az4 (by have:=hr.un;show X.A.units+1<cLine;lia) (by have:=hr.un;lia) qk Ve λc hc=>?_
       have ec:c=!MW.Gx ks ls:=by have:=aaj (xs:=ks) (ys:=ls);cases c<;>cases h:MW.Gx ks ls<;>simp_all
       refine⟨.bl c,G,(I4.K8 λz hz=>I4.pin z (fu _ (bc _ (bc _ hz)))),rfl,?_⟩;rw[ec];exact q Y G _ (Uu.trans zg) S2 (.bl _)
    .cases e
  .cases e
def rM(R:Nm)(K:Fg)(m:Bm):V->List V->Hp->VK->Prop:=λv vs H Q=>∃G M x ds d M',ju R K G H M/\Rep K G H x v/\jw K G H ds vs/\MW.Jg m x ds M=.ok d M'/\(∀ts,x=.tup ts->m≠.index) /\
 ∀Z L w,Le G H Z L->ju R K Z L M'->Rep K Z L d w->Q w L
set_option tactic.hygienic true in
theorem axl{id:String}(hT:∀C H M x v,ju nm X.K C H M->Rep X.K C H x v->MW.Q3 m x M=true->tyV X.K T v H)(pa:PlainAttrs T)(G:Slot T name id)(qv:typeOf (.builtin id)=pure (.type "method_descriptor"))(hm:MtR X id (rM nm X.K m))(ho:PE X o (tE nm W X.K o'))(ha:PA X (e::Z) (Xv nm W X.K qk))(q1:attributeBase o name X.env (eval o X.env)=eval o X.env)(y:((backTo J (starEach (e::Z) X.env)).all (λx=>!x.1)&&(backToKw J (keywordEach [] X.env)).all (λx=>x.1.isSome)
&&decide ((e::Z).length+([]:List Keyword).length+(if([]:List Keyword).isEmpty then 0 else 1)<30))=true)(q0:(apos.endLine==J.line)=true)(hs:starEach (e::Z) X.env=(false,eval e X.env)::starEach Z X.env)(u:(backTo J (starEach Z X.env)).any (·.1)=false) :
 PE X (.Call (.Attribute o name apos) (e::Z) [] J) (tE nm W X.K (.bm m o' qk)) :=
 PE.of (a1u pa G qv hm ho ha q1 y q0 hs u) fun σ H Q C ρ M d M' S R e q=>by
  rw[MW.auf] at e;obtain⟨x,M1,e1,e⟩:=dj e;split at e
  .rename_i ht
   obtain⟨ds,M2,e2,e⟩:=dj e;exact one S R e1 λY H1 v le S1 R1 r=>⟨hT Y H1 M1 x v S1 r ht,Y,ρ,M1,ds,M2,S1,R1,e2,λL H2 vs zg S2 rs=>⟨L,M2,x,ds,d,M',S2,r.mono zg,rs,e,(λts hx hm=>by subst hx;subst hm;cases ht),λqq H' w V5 S' r'=>q qq H' w ((le.trans zg).trans V5) S' r'⟩⟩
  .cases e
set_option tactic.hygienic true in
def ty_list{X:Cx}(J:m=.append\/m=.index)(S:ju nm X.K G H M)(r:Rep X.K G H x v)(h:MW.Q3 m x M=true):tyV X.K "list" v H:=by
 have go:∀Z,MW.iw M x=some Z->tyV X.K "list" v H:=λZ Y=>by obtain⟨p,L,rfl,C,_⟩:=u9 S r Y;exact .inl ⟨rfl,L,Ha.of C⟩
 rcases J with rfl|rfl
 .cases x<;>simp only[MW.Q3] at h<;>try cases h
  split at h
  .rename_i n Z R
   exact go Z (by simp only[MW.iw,R])
  .cases h
 .have h:(MW.iw M x).isSome=true:=h
  obtain⟨Z,Y⟩:=ig.mp h;exact go Z Y
set_option tactic.hygienic true in
def aqh(e:MW.Jg .append x ds M=.ok d J):∃n Y Z,x=.ref n/\ds=[Y]/\M[n]?=some (.lst Z)/\Z.length<100000/\d=.non/\J=M.set n (.lst (Z++[Y])):=by
 unfold MW.Jg at e;split at e
 .rename_i n Y
  split at e
  .rename_i Z C
   split at e
   .rename_i G
    cases e;exact⟨_,_,_,rfl,rfl,C,G,rfl,rfl⟩
   .cases e
  .cases e
 .rename_i h;cases h
 .rename_i h;cases h
 .cases e
def aqi(e:MW.Jg .index x ds M=.ok d M'):∃Z G j,ds=[Z]/\MW.zu M x=some G/\MW.afp M Z G=some j/\d=.int ((j:Nat):Int)/\M'=M:=by
 match ds,e with
 |[Z],e =>
  have e:Res.ue (((MW.zu M x).bind (MW.afp M Z)).map λj=>MW.D.int ((j:Nat):Int)) M=.ok d M':=by rw[<- e];cases x<;>simp only[MW.Jg]<;>first|rfl|(generalize(MW.zu M _).bind (MW.afp M Z)=z;cases z<;>rfl)
  obtain⟨e1,R⟩:=xg e;obtain⟨j,e3,e4⟩:=cg.mp e1;obtain⟨G,L,e7⟩:=gm.mp e3;exact⟨Z,G,j,rfl,L,e7,e4.symm,R⟩
 |[],e=>cases x<;>simp[MW.Jg] at e|_::_::_,e=>cases x<;>simp[MW.Jg] at e
def alq:MtR X "list.append" (rM nm X.K .append):=λZ s σ H v vs u us Q I ru Uh hh=>by
 obtain⟨ι,M,x,ds,d,M',S,r,rs,e,_,q⟩:=hh;obtain⟨n,d0,xs,rfl,rfl,hM,hl,rfl,rfl⟩:=aqh e;cases r with
 |ref R =>
  obtain⟨L,h3,G⟩:=S.obj n _ _ hM R;cases rs with
  |cons hd ht =>
   cases ht;refine V0 Z s σ H _ _ u us Q I ru Uh ⟨_,L,_,rfl,rfl,h3,by rw[<- G.length];exact aad hl,?_⟩;obtain⟨S2,zg⟩:=S.put (u:=.lst (L++[_])) (o:=.lst (xs++[_])) hM R λle=>⟨_,m8,(G.mono le).append (.cons (hd.mono le) .nil)⟩
   exact q _ _ _ zg S2 .non
def X5:∀{bs:List Bool}{j:Nat},bs.findIdx? id=some j->bs[j]?=some true/\∀m,m<j->bs[m]?=some false:=fun{bs j} h=>by obtain⟨G,R,L⟩:=List.findIdx?_eq_some_iff_getElem.mp h;refine⟨by rw[gb G];simpa using R,λm Z=>?_⟩;have:=L m Z;rw[gb (d_ Z G)];simpa using this
def aqj(hr:xj 8 X.A):MtR X "list.index" (rM nm X.K .index):=λq0 s σ H v vs u us Q I ru Uh hh=>by
 obtain⟨ι,M,x,ds,d,M',S,r,rs,e,nt,q⟩:=hh;obtain⟨d0,xs,j,rfl,e1,e2,rfl,rfl⟩:=aqi e;cases rs with
 |cons hd ht =>
  cases ht;cases Uh with
  |cons hu qq =>
   cases qq;obtain⟨bs,e3,e4⟩:=gm.mp (show(MW.R9 M' d0 xs).bind (·.findIdx? id)=some j from e2);obtain⟨p,ys,rfl,G,rl⟩:=Gf S r e1;cases ru;rcases G with G|G
   .obtain⟨z,is,n,rv,hl,hg⟩:=I.apt G
    obtain⟨f,g1,g2⟩:=Nz (A:=X.A.in1) I S ((hr.mono (by decide:7<=8)).in1) rl rv hd hu e3;obtain⟨f1,f2⟩:=X5 e4;have hb:=(Eg e3).1;have L:is.length=bs.length:=by rw[hb,rl.length,hl]
    have lj:j<is.length:=by rw[L];exact(aq.mp f1).1
    have fa:∀m (Z:m<is.length),bs[m]?=some (f is[m]):=λm Z=>g2 m _ (gb Z)
    have hT:s.TypeIs (.ref p) "list" := ⟨_,hg,rfl⟩;have qk:is.length<=sizeLine:=by rw[<- hl];exact z
    rw[pq] at qk;refine call_meetsIn F.slot_list_index hT F.entry_list_index (F.args_list_index_2 _ _) (λA R s h=>SeqAt.list_indexAt p is.toArray n none #[] _ f j (by simpa using lj) (by lia) ?_ ?_ _ _ A R s h) ⟨hg,g1,?_⟩
    .have:=fa j lj;rw[f1] at this;simpa using(gf this).symm
    .intro m Z qv
     have Z:m<is.length:=by simpa using Z
     have:=fa m Z;rw[f2 m qv] at this;simpa using(gf this).symm
    .exact⟨.int j,H,I.tok _,⟨_,rfl⟩,q ι H _ (Le.refl _ _) S (.int _)⟩
   .cases r with
    |tup e r=>exact absurd rfl (nt _ rfl)|vl e n r=>rw[G] at e;cases e|fz e r=>simp[MW.zu,MW.iw] at e1
    |ref e =>
     obtain⟨u',q',mu⟩:=S.mem (cj e);rw[G] at mu;exact mu.elim
end Sm
namespace Vb
open PySem L2
def SmK(k:List Key):Prop:=∃i j:Int,-1<=i/\i<9/\-1<=j/\j<9/\k=[.inl i,.inl j]
noncomputable def aey(i j:Int):Int:=reduceHash (Builtin.Tuple.tupleHashOf [hashInt i,hashInt j])
noncomputable def rgI:List Int:=[-1,0,1,2,3,4,5,6,7,8]
def alr:(rgI.all λi=>rgI.all λj=>rgI.all λZ=>rgI.all λG=>(aey i j != aey Z G)||(i==Z&&j==G))=true:=by decide+kernel
def X6(G:-1<=i)(Z:i<9):i∈rgI:=by
 have:i=-1\/i=0\/i=1\/i=2\/i=3\/i=4\/i=5\/i=6\/i=7\/i=8:=by lia
 unfold rgI;simp only[bx,List.not_mem_nil,or_false];exact this
def als{P:Program}(h:SmK k)(h':SmK k')(e:tupleKeyHash (jq P w) k=tupleKeyHash (jq P w) k'):k=k':=by obtain⟨i,j,a1,L,a3,a4,rfl⟩:=h;obtain⟨Z,j',R,b2,G,b4,rfl⟩:=h';have e:aey i j=aey Z j':=e;have:=ji.mp (ji.mp (ji.mp (ji.mp alr i (X6 a1 L)) j (X6 a3 a4)) Z (X6 R b2)) j' (X6 G b4);rw[e] at this;simp at this;rw[this.1,this.2]
def acr(Z:IsTupleKey (jq prog w) s.heap G a)(h:Q false s):wpAny (model prog w) A (Builtin.Dict.quietEq (.ref a)) Q E s:=by
 unfold Builtin.Dict.quietEq;refine aa (wpAny_specialOf Z.typeIs F.slot_tuple_eq.lookup ?_);refine aj ?_;have:(some (Value.builtin "tuple.__eq__")==some (Value.builtin "object.__eq__"))=false:=by decide
 rw[this];exact h
def alu{R:List (List Key×Addr×Value)}(hn:(R.map (·.1)).Nodup)(G:∀x∈R,SmK x.1)(Z:x∈R) :
 ((R.map (entryOfKey (tupleKind (jq prog w)))).filter (·.hash==tupleKeyHash (jq prog w) x.1)).length<=1:=by
 induction R with
 |nil=>simp
 |cons y ys ih =>
  rw[du,rm] at hn;rw[du]
  by_cases hy:tupleKeyHash (jq prog w) y.1=tupleKeyHash (jq prog w) x.1
  .have e:=als (G y bu) (G x Z) hy
   have none:(ys.map (entryOfKey (tupleKind (jq prog w)))).filter (·.hash==tupleKeyHash (jq prog w) x.1)=[]:=by rw[List.filter_eq_nil_iff];intro z hz hq;obtain⟨z',L,rfl⟩:=cu.mp hz;have hq:tupleKeyHash (jq prog w) z'.1=tupleKeyHash (jq prog w) x.1:=eq_of_beq (show(tupleKeyHash (jq prog w) z'.1==tupleKeyHash (jq prog w) x.1)=true from hq);have:=als (G z' (bc _ L)) (G x Z) hq;exact hn.1 (cu.mpr ⟨z',L,this.trans e.symm⟩)
   rw[List.filter_cons,none];split<;>simp
  .rw[List.filter_cons,az (by show ¬((tupleKeyHash (jq prog w) y.1==tupleKeyHash (jq prog w) x.1)=true);simpa using hy)]
   rcases bx.mp Z with rfl|Z
   .exact absurd rfl hy
   .exact ih hn.2 (λz hz=>G z (bc _ hz)) Z
def aak{id:String}{G:List (List Key×Addr×Value)}(ho:s.heap.get? d=some o)(hd:o.data=.dict es ep)(R:es.toList=G.map (entryOfKey (tupleKind (jq prog w))))(hk:∀x∈G,IsTupleKey (jq prog w) s.heap x.1 x.2.1)(hn:(G.map (·.1)).Nodup)(hs:∀x∈G,SmK x.1)(h:Q es s) :
 wpAny (model prog w) A (Builtin.Dict.entriesForEmpty id d) Q E s:=by
 unfold Builtin.Dict.entriesForEmpty;refine aa (gw ho hd ?_);refine aa ?_;rw[<- Array.forIn_toList];refine q9 _ (λZ _ s'=>s'=s/\∀e∈Z,∃x∈G,e=entryOfKey (tupleKind (jq prog w)) x) _ ?_ ?_ _ _ ⟨rfl,λe hm=>?_⟩
 .rintro e Z r s' ⟨rfl,Cj⟩
  obtain⟨x,L,rfl⟩:=Cj e bu;show wpAny _ _ (Builtin.Dict.quietEq (.ref x.2.1) >>= _) _ _ _;refine aa (acr (hk x L) ?_);simp only[qw,j6];have h1:=alu (prog:=prog) (w:=w) hn hs L;rw[az (by
   intro hc;have:(es.filter (·.hash==(entryOfKey (tupleKind (jq prog w)) x).hash)).size=((G.map (entryOfKey (tupleKind (jq prog w)))).filter (·.hash==tupleKeyHash (jq prog w) x.1)).length:=by rw[<- R,<- mq,Array.toList_filter];rfl
   exact l_ hc (a_ (f_ this) h1))]
  exact aj ⟨rfl,λe R=>Cj e (bc _ R)⟩
 .rintro b s' ⟨rfl,_⟩
  exact aj h
 .rw[R] at hm
  obtain⟨x,L,rfl⟩:=cu.mp hm;exact⟨x,L,rfl⟩
def a3r{prog:Program}{w:World}{h G:Heap}{Z:List Key}{p a:Addr}(x:IsTupleKey (jq prog w) h Z p)(L:∀b o,h.get? b=some o->G.get? b=some o):IsTupleKey (jq prog w) G Z p :=
 let ⟨o,items,n,ho,r⟩:=x;⟨o,items,n,L p o ho,r⟩
set_option tactic.hygienic true in
def a3s(q2:(d==sysModules)=false)(hd:s.heap.DictOfH (tupleKind (jq prog w)) d y)(hs:∀x∈y,SmK x.1)(q4:y.length<=sizeLine)(h:∀h',h'.DictOfH (tupleKind (jq prog w)) s.heap.objs.size y->(∀b o,s.heap.get? b=some o->h'.get? b=some o)->Q (.ref s.heap.objs.size) { s with heap:=h' }) :
 wpAny (model prog w) A (call (.type "dict") [.ref d]) Q E s:=by
 refine callType_codes (Q₁:=λobj S=>obj=.ref s.heap.objs.size/\S={ s with heap:=s.heap.push { cls:=.type "dict",data:=.dict #[] } }) F.kt_called_dict (F.kt_typeCall_dict_1 _) F.entry_dict_init (kt_code_dict_new _ ⟨rfl,rfl⟩) ?_;rintro obj S ⟨rfl,rfl⟩;have q6:=hd.typeIs;obtain⟨od,Y,q5,qq,Rx,L,R,q0,u⟩:=hd;have keep:∀b o,s.heap.get? b=some o->(s.heap.push { cls:=.type "dict",data:=.dict #[] }).get? b=some o:=λb o e=>ak _ e
 have J:(s.heap.push { cls:=.type "dict",data:=.dict #[] }).get? s.heap.objs.size=some { cls:=.type "dict",data:=.dict #[] }:=bw _ rfl;have qv:Shared.TypeIs { s with heap:=s.heap.push { cls:=.type "dict",data:=.dict #[] } } (.ref s.heap.objs.size) "dict" := ⟨_,J,rfl⟩;have Us:Shared.TypeIs { s with heap:=s.heap.push { cls:=.type "dict",data:=.dict #[] } } (.ref d) "dict" := ⟨od,keep _ _ qq,Rx.1⟩;have C:=keep _ _ qq;have q1:s.heap.objs.size≠d:=λe=>absurd (au qq) (by rw[e];exact je _)
 have G:Y.size=y.length:=qd R;refine⟨qv,F.args_dict_init_2 _ _,?_⟩;unfold Builtin.«dict.__init__»;refine aa ?_;unfold Builtin.Dict.selfAndRest;refine aa (vm qv ?_);show wpAny _ _ (pure (s.heap.objs.size,[Value.ref d])) _ _ _;refine aj ?_;show wpAny _ _ (Builtin.Dict.updateFrom "dict.__init__" s.heap.objs.size (.ref d) [] .none) _ _ _;unfold Builtin.Dict.updateFrom;refine aa (uf Us ?_);rw[az (by decide)];refine aa ?_;unfold Builtin.Dict.merge;refine aa ?_;unfold Builtin.Dict.readDirectly;refine aa (nj Us isSubtype_dict_dict ?_);simp only[jo,dg,jk];refine aa (wpAny_specialOf Us F.slot_dict_iter.lookup (aj ?_));simp only[ye,j6];refine aa (aj ?_);unfold Builtin.Dict.mergeDict;rw[az (by simpa using q1)];unfold Builtin.Dict.showsAll;rw[az (by rw[q2];exact di)];refine aa (aj ?_);refine aa (gw C L ?_);have kk:∀{h':Heap},(∀b o,s.heap.get? b=some o->h'.get? b=some o)->∀x∈y,(tupleKind (jq prog w)).is h' x.1 x.2.1:=λhk x hx=>a3r (a:=d) (q0 x hx) hk
 have qk:Y=#[]->∀s',s'={ s with heap:=s.heap.push { cls:=.type "dict",data:=.dict #[] } }->wpAny (model prog w) A.in1.in1 (Builtin.Dict.addKeywords s.heap.objs.size [] >>= λ_=>ret Value.none) (λfin s'=>match fin with|.done f=>wants (λr Z=>r=Value.none/\Q (.ref s.heap.objs.size) Z) E (.ok f) s'|.again c'=>c'.quiet=true/\codeAny (model prog w) A.in1 c' (wants (λr Z=>r=Value.none/\Q (.ref s.heap.objs.size) Z) E) s') (λe s'=>wants (λr Z=>r=Value.none/\Q (.ref s.heap.objs.size) Z) E (.error e) s') s':=λhe s' K6=>by have q3:y=[]:=qp.mp (by rw[<- G,he];rfl);subst K6;refine aa (aj (aj ⟨rfl,h _ ⟨_,#[],0,J,⟨rfl,rfl,rfl⟩,rfl,?_,kk keep,u⟩ keep⟩));rw[q3];rfl
 dsimp only;split
 .refine aa (gw J rfl ?_)
  rw[bf (show(#[]:Array DictEntry).isEmpty=true from rfl)];refine aa (aak C L R (kk keep) u hs ?_);split
  .refine aa (wpAny_updateDictKeysTo J rfl (aj ?_) (by show Y.size<=_;exact a_ (f_ G) (a_ q4 x_)))
   have Qv:∀b o,s.heap.get? b=some o->((s.heap.push { cls:=.type "dict",data:=.dict #[] }).update s.heap.objs.size (Obj.mapDictKeys λ_=>Y)).get? b=some o:=λb o e=>by rw[ur _ _ (j5 (gn (au e)))];exact keep b o e
   refine aa (aj (aj ⟨rfl,h _ ⟨_,Y,0+1,mj _ J (Obj.isFreed_of_dict (vy rfl _)),⟨rfl,rfl,rfl⟩,vy rfl _,R,kk Qv,u⟩ Qv⟩))
  .rename_i Jj
   exact aj (qk (Array.isEmpty_iff.mp (by simpa using Jj)) _ rfl)
 .rename_i hf
  have he:Y=#[]:=by
   apply wg;intro Jj;have hx:y≠[]:=λe=>Jj (Array.eq_empty_of_size_eq_zero (by rw[G,e];rfl))
   obtain⟨x,ys,rfl⟩:=List.exists_cons_of_ne_nil hx;have Cj:(Y.all λe=>(keyPart e.key).isSome)=true:=by simp only[uv,Bool.not_eq_false,ao] at hf;exact hf.2
   rw[<- Array.all_toList,R,du,List.all_cons,ao] at Cj;exact Bool.noConfusion (Cj.1:(keyPart (.ref x.2.1)).isSome=true)
  refine aa (qe C L ?_);refine aa (gw C L ?_);refine aa ?_;rw[he,Std.Legacy.Range.forIn_eq_forIn_range'];simp only[Std.Legacy.Range.size,fc,List.length_nil,Nat.sub_zero,t8,Nat.sub_self,Nat.div_one,List.range'_zero,List.forIn_nil];exact aj (aj (qk he _ rfl))
section
variable{prog:Program}{w:World}{A:Around}{E:Y1}{s:Shared}{a b:Addr}{ka kb:List (List Key×Addr×Value)}
def alw(A:Around)(s:Shared)(ka kb:List (List Key×Addr×Value)):Prop:=∀x∈ka,∃q y,atKey kb x.1=some (q,y)/\SeqAt.EqAt A s x.2.2 y true
def alx{id:String}{Q:Bool->Shared->Prop}(room:A.units<cLine)(na:(a==sysModules)=false)(nb:(b==sysModules)=false)(da:s.heap.DictOfH (tupleKind (jq prog w)) a ka)(db:s.heap.DictOfH (tupleKind (jq prog w)) b kb)(hl:ka.length=kb.length)(q1:alw A s ka kb)(q3:Q true s) :
 wpAny (model prog w) A (Builtin.Dict.samePairs id a b) Q E s:=by
 obtain⟨o,q6,ep,Z,_,G,q2,zk,zw⟩:=da;obtain⟨o',q8,zv,q0,_,qk,qq,q7,q5⟩:=db;have la:=qd q2;have lb:=qd qq;unfold Builtin.Dict.samePairs;have sa:∀{d:Addr}{R:Unit->Shared->Prop},(d==sysModules)=false->R () s->wpAny (model prog w) A (Builtin.Dict.showsAll d) R E s:=λhd hR=>by unfold Builtin.Dict.showsAll;rw[hd];exact aj hR
 refine aa (sa na (aa (sa nb (aa (gw Z G (aa (gw q0 qk ?_)))))));rw[la,lb,az (by simp[hl])];refine aa (qe Z G (aa ?_));refine upto (λi q z=>z=s/\q=(none,())) (λi q z lt qv=>?_) (λq z qv=>?_) ⟨rfl,rfl⟩
 .obtain⟨rfl,rfl⟩:=qv
  refine aa (gw Z G ?_);rw[show q6[i]?=some (entryOfKey (tupleKind (jq prog w)) ka[i]) by rw[entry_at q2];simp[lt]];obtain⟨q,y,h1,h2⟩:=q1 _ (ud lt);refine aa (jc (aa (wpAny_dictFind_heap (knd:=tupleKind (jq prog w)) room (zk _ (ud lt)) q0 qk qq q7 q5 (λno=>?_) λj pv q4=>?_)))
  .rw[atKey_none_of_get no] at h1;cases h1
  .have L:=atKey_of_get q5 q4
   have:pv=(q,y):=gf (L.symm.trans h1);subst this;refine aa (gw q0 qk ?_);rw[show q8[j]?=some (entryOfKey (tupleKind (jq prog w)) (ka[i].1,(q,y))) by rw[entry_at qq,q4];rfl];refine jc (h2 prog w _ _ ?_);refine aa (qe Z G ?_);rw[bne_self_eq_false];exact aj ⟨rfl,rfl⟩
 .obtain⟨rfl,rfl⟩:=qv
  exact aj q3
def aqk{Q:Y1}(na:(a==sysModules)=false)(nb:(b==sysModules)=false)(da:s.heap.DictOfH (tupleKind (jq prog w)) a ka)(db:s.heap.DictOfH (tupleKind (jq prog w)) b kb)(room:A.units+1<cLine)(hl:ka.length=kb.length)(L:alw A.in1 s ka kb)(G:Q (.bool false) s) :
 wpAny (model prog w) A (richCompare .NotEq (.ref a) (.ref b)) Q E s:=by
 have two:∀{R:Value×Value->Shared->Prop},R (.ref a,.ref b) s->wpAny (model prog w) A.in1 (Builtin.Dict.dictSlotArgs "__ne__" ⟨[.ref a,.ref b],[]⟩) R E s:=λhR=>aa (vm da.typeIs (aj hR))
 have Z:wpAny (model prog w) A.in1 (Builtin.«dict.__ne__» ⟨[.ref a,.ref b],[]⟩) (λf z=>∃v,f=.done (.ret v)/\v≠.notImplemented/\Q v z) E s:=by refine aa (two (aa (nj (T := "dict") db.typeIs PySem.F.sub_dict_dict ?_)));exact aa (aj (aa (aj (aa (alx (show A.units+1<cLine from room) na nb da db hl L (aj ⟨_,rfl,(λz=>nomatch z),G⟩))))))
 exact wpAny_richCompare_same_room (op:=.NotEq) da.typeIs db.typeIs PySem.F.slot_dict_ne (jx PySem.F.slot_dict_ne da.typeIs PySem.F.entry_dict_ne Z (PySem.F.args_dict_ne_2 _ _)) (by lia)
end
end Vb
namespace Sm
open PySem L2
open MW (Ex Cu OEx Og Ar qm Lv Tg Res dh MO Fd Cp Op2 Blt Bm Kx Src)
set_option tactic.hygienic true in
def aql(h:MW.abf l=true):∀k∈l.map (·.1),Vb.SmK k:=λk Y=>by
 obtain⟨p,Z,rfl⟩:=cu.mp Y;simp only[MW.abf,ji] at h;have:=h p Z;split at this
 .rename_i i j e
  simp only[ao,bz] at this;exact⟨i,j,this.1.1.1,this.1.1.2,this.1.2,this.2,e⟩
 .cases this
def axp{X:Cx}(S:ju nm X.K Z H M)(L:H p=none)(r:ni X.K Z H (λk R=>k=R) kvs l) :
 ju nm X.K (Z.add p) (upd H p (.dT l)) (M++[.dT kvs])/\Le Z H (Z.add p) (upd H p (.dT l))/\Rep X.K (Z.add p) (upd H p (.dT l)) (.ref M.length) (.ref p):=by
 obtain⟨S1,G⟩:=S.new (H':=upd H p (.dT l)) (o:=.dT kvs) L (λa u e=>by rw[gr (jt e L)];exact e) λG=>⟨l,m8,r.mono G⟩
 exact⟨S1,G,.ref (by show(Z.l++[p])[M.length]?=some p;rw[<- S.len];simp)⟩
set_option tactic.hygienic true in
def axq:Bp X (.type "dict") (rB nm X.K .dict):=λL s σ H vs us Q I Uh hh=>by
 obtain⟨ι,M,ds,d,M',S,r,e,q⟩:=hh;cases r with
 |nil=>simp[MW.v5] at e
 |@cons x v _ _ h t =>
  cases t with
  |cons C t2=>cases x<;>simp[MW.v5] at e
  |nil =>
   cases Uh with
   |cons ru rn =>
    cases rn;cases h with
    |@ref n p hp =>
     cases ru;have e:(match M[n]? with|some (.dT Z)=>if MW.abf Z then MW.new (.dT Z) M else .bad|_=>.bad)=.ok d M':=e;split at e
     .rename_i Z hM
      split at e
      .rename_i hs
       cases e;obtain⟨l,h1,C⟩:=S.obj n _ p hM hp;obtain⟨z,G,R,Y,dd⟩:=Vy I.wk h1;obtain⟨y,k2⟩:=aev Y;have hl:R.length=l.length:=by have:=nq List.length y;simpa using this
       refine Vb.a3s G dd (λx hx=>?_) (by rw[hl];exact z) λh' J keep=>?_
       .refine aql hs x.1 ?_
        rw[<- Mm C,<- y];exact cu.mpr ⟨x,hx,rfl⟩
       .have u:H s.heap.objs.size=none:=I.wk.fresh (bh _)
        obtain⟨S2,zg,r2⟩:=axp (X:=X) S u C;refine⟨.ref s.heap.objs.size,upd H s.heap.objs.size (.dT l),I.laid (a:=s.heap.objs.size) (o:=.dT l) (t':=s.toks) keep (bh _) ?_,rfl,q _ _ _ zg S2 r2⟩;obtain⟨o,es,ep,g1,g2,g3,g4,g5,g6⟩:=J;exact⟨z,rz.mpr (j5 (gn I.big)),R,Y.keeps (λb ys e=>by rw[gr (jt e u)];exact e),o,es,ep,g1,g2,g3,g4,g6⟩
      .cases e
     .cases e
    |_=>cases e
set_option tactic.hygienic true in
theorem ints_rep{L:Io}{H:Hp}{K:Fg}:∀{C:List Dv}{Y:List V}{is:Zl}{J:X1},jw K L H C Y->Vals Y is->MW.inL C=some J->∃Z:Array (Int×Tok),is.toArray=intItems Z/\Z.toList.map (·.1)=J
 |_,_,_,_,.nil,.nil,h=>by cases h;exact⟨#[],by simp[intItems],rfl⟩
 |_,_,_,_,.cons r t,.cons rv tv,h=>by
  cases r<;>simp only[MW.inL] at h<;>try cases h
  rename_i i;obtain⟨qq,y,R⟩:=cg.mp h;obtain⟨Z,g1,S⟩:=ints_rep t tv y;obtain⟨u,rfl⟩:=rv;refine⟨#[(i,u)]++Z,?_,by simp[S,R]⟩;have G:=nq Array.toList g1;apply Array.toList_inj.mp;simp[intItems] at G ⊢;exact G
theorem aal:∀(l:X1)(z m:Int),(m=z\/m∈l)->z<=m->(∀a∈l,a<=m)->l.foldl (λm x=>if m<x then x else m) z=m
 |[],z,m,h,_,_=>by rcases h with h|h;exact h.symm;cases h
 |a::l,z,m,h,hz,Cj=>by
  rw[Ai];have L:=Cj a bu;refine aal l _ m ?_ (by split<;>lia) (λb G=>Cj b (bc _ G));rcases h with h|h
  .subst h;left;split<;>lia
  .rcases bx.mp h with h|h
   .subst h
    by_cases Z:z<m
    .left;rw[bf Z]
    .left;rw[az Z];lia
   .exact .inr h
theorem aam:∀(l:X1)(z m:Int),(m=z\/m∈l)->m<=z->(∀a∈l,m<=a)->l.foldl (λm x=>if x<m then x else m) z=m
 |[],z,m,h,_,_=>by rcases h with h|h;exact h.symm;cases h
 |a::l,z,m,h,hz,Cj=>by
  rw[Ai];have L:=Cj a bu;refine aam l _ m ?_ (by split<;>lia) (λb G=>Cj b (bc _ G));rcases h with h|h
  .subst h;left;split<;>lia
  .rcases bx.mp h with h|h
   .subst h
    by_cases Z:m<z
    .left;rw[bf Z]
    .left;rw[az Z];lia
   .exact .inr h
def aqm(e:MW.two ds f g M=.ok d Z):Z=M/\((∃i j,ds=[.int i,.int j]/\d=.int (f i j))\/∃x m,ds=[x]/\g x=some m/\d=.int m):=by
 cases ds with
 |nil=>cases e
 |cons x r=>cases r with
  |nil =>
   obtain⟨R,G⟩:=xg (show Res.ue ((g x).map MW.D.int) M=.ok d Z from e);obtain⟨m,e3,L⟩:=cg.mp R;exact⟨G,.inr ⟨x,m,rfl,e3,L.symm⟩⟩
  |cons y r=>cases r with
   |nil =>
    cases x<;>try cases e
    cases y<;>cases e;exact⟨rfl,.inl ⟨_,_,rfl,rfl⟩⟩
   |cons _ _=>cases e
def aan{h:List Int->Option Int}(e:MW.two ds f (λd=>((MW.zu M d).bind MW.inL).bind h) M=.ok d M'):M'=M/\((∃i j,ds=[.int i,.int j]/\d=.int (f i j))\/∃x G n Z m,ds=[x]/\MW.zu M x=some G/\MW.inL G=some (n::Z)/\h (n::Z)=some m/\d=.int m\/h []=some m):=by
 obtain⟨a,b|⟨x,m,h3,h4,h5⟩⟩:=aqm e
 .exact⟨a,.inl b⟩
 .obtain⟨Z,e5,L⟩:=gm.mp h4
  obtain⟨G,e7,R⟩:=gm.mp e5;cases Z with
  |nil=>exact⟨a,.inr ⟨x,G,0,[],m,.inr L⟩⟩|cons n Z=>exact⟨a,.inr ⟨x,G,n,Z,m,.inl ⟨h3,e7,R,L,h5⟩⟩⟩
def aly(h:Vals [v] Z):∃u,Z=[u]/\RelV v u:=L2.Vals.one h
def Wb(h:i<Z.size):(Z.toList.map (·.1))[i]?=some (numAt Z i):=by simp[numAt,h]
def best{Z:Array (Int×Tok)}{R:Int->Int->Prop}(g2:Z.toList.map (·.1)=n::l)(h:b<Z.size)(b2:∀i,i<Z.size->R (numAt Z i) (numAt Z b)):(numAt Z b=n\/numAt Z b∈l)/\∀a∈n::l,R a (numAt Z b):=by
 constructor
 .have:=cj (Wb h)
  rw[g2] at this;exact bx.mp this
 .intro a ha
  rw[<- g2] at ha;obtain⟨i,G⟩:=jr.mp ha;have L:i<Z.size:=by have:=(aq.mp G).1;simpa using this
  rw[Wb L] at G;cases G;exact b2 i L
def aez(r:jw K ι H [.int i,.int j] G):G=[.int i,.int j]:=by
 cases r with
 |cons h1 Z=>cases Z with
  |cons L R=>cases R;cases h1;cases L;rfl
def ae0(I:Inv X pins σ H s)(S:ju nm X.K ι H M)(r:jw X.K ι H [x] vs)(Uh:Vals vs us)(e1:MW.zu M x=some xs)(e2:MW.inL xs=some (n::ns)):∃a Z,us=[.ref a]/\(s.heap.IsList a (intItems Z)\/s.heap.IsTuple a (intItems Z))/\Z.toList.map (·.1)=n::ns/\0<Z.size:=by
 obtain⟨v,rfl,rv⟩:=La r rfl;obtain⟨u,rfl,ru⟩:=aly Uh;obtain⟨p,ws,rfl,R,rl⟩:=Gf S rv e1;cases ru;have fin:∀{Z:Array (Int×Tok)},Z.toList.map (·.1)=n::ns->0<Z.size:=fun{Z} g=>by have:=nq List.length g;simp at this;lia
 rcases R with R|R
 .obtain⟨is,G,pl,_⟩:=I.list (Ha.of R)
  obtain⟨Z,g1,L⟩:=ints_rep rl G e2;exact⟨_,Z,rfl,.inl (by rw[<- g1];exact pl.isList),L,fin L⟩
 .obtain⟨is,G,pl,_⟩:=I.tuple (Hl.of R)
  obtain⟨Z,g1,L⟩:=ints_rep rl G e2;exact⟨_,Z,rfl,.inr (by rw[<- g1];exact pl),L,fin L⟩
def Wc{s:Shared}{Z:Heap}{L:Obj}(R:∀b o,b∉[s.heap.objs.size]->(s.heap.push L).get? b=some o->Z.get? b=some o):∀b o,s.heap.get? b=some o->Z.get? b=some o:=λb o e =>
 R b o (λG=>absurd (o5.mp G▸au e) (je _)) (ak _ e)
def alz{s:Shared}{G:Obj}(L:l<s.heap.objs.size):∀b∈[s.heap.objs.size,l],b<(s.heap.push G).objs.size:=λb Z=>by
 rw[kj];simp only[bx,List.not_mem_nil,or_false] at Z;rcases Z with rfl|rfl
 .exact ql _
 .exact ph L
def aqn{A:Around}{E:Y1}{Q:Y1}(hh:A.handled=none)(G:s.heap.IsList l (intItems Z)\/s.heap.IsTuple l (intItems Z))(Jj:0<Z.size)
 (h:∀v L R,(intItems Z)[argBest (λi j=>decide (numAt Z i > numAt Z j)) (Z.size-1)]?=some v->(∀b o,s.heap.get? b=some o->L.get? b=some o)->Q v { s with heap:=L,toks:=R }) :
 wpAny (model prog w) A (call (.builtin "max") [.ref l]) Q E s:=by
 rcases G with G|G
 .exact max_intList hh G Jj h
 .have Jf:l<s.heap.objs.size:=by obtain⟨_,e,_⟩:=G;exact au e
  refine call_max_walk (um G ⟨_,_,_,_,_,_,_,rfl,Walks.tuple (A:=A.in1) hh _ l (gn Jf) (intItems Z),⟨⟨_,bw _ rfl,rfl,rfl⟩,G.at λo e=>ak _ e⟩,alz Jf,by simpa[intItems] using Jj,CmpOf.ints_gt (numAt Z) (λ_ _=>intItems_at),λv L R hP hk=>?_⟩);exact h v L R (by simpa[intItems] using hP) (Wc hk)
def aqo{A:Around}{E:Y1}{Q:Y1}(hh:A.handled=none)(G:s.heap.IsList l (intItems Z)\/s.heap.IsTuple l (intItems Z))(Jj:0<Z.size)
 (h:∀v L R,(intItems Z)[argBest (λi j=>decide (numAt Z i<numAt Z j)) (Z.size-1)]?=some v->(∀b o,s.heap.get? b=some o->L.get? b=some o)->Q v { s with heap:=L,toks:=R }) :
 wpAny (model prog w) A (call (.builtin "min") [.ref l]) Q E s:=by
 rcases G with G|G
 .exact min_intList hh G Jj h
 .have Jf:l<s.heap.objs.size:=by obtain⟨_,e,_⟩:=G;exact au e
  refine call_min_walk (um G ⟨_,_,_,_,_,_,_,rfl,Walks.tuple (A:=A.in1) hh _ l (gn Jf) (intItems Z),⟨⟨_,bw _ rfl,rfl,rfl⟩,G.at λo e=>ak _ e⟩,alz Jf,by simpa[intItems] using Jj,CmpOf.ints_lt (numAt Z) (λ_ _=>intItems_at),λv L R hP hk=>?_⟩);exact h v L R (by simpa[intItems] using hP) (Wc hk)
def a3v(hc:X.calm=true):Bp X (.builtin "max") (rB nm X.K .max):=λZ s σ H vs us Q I L hh=>by
 obtain⟨ι,M,ds,d,M',S,r,e,q⟩:=hh;obtain⟨rfl,⟨i,j,rfl,rfl⟩|⟨x,xs,n,l,m,⟨rfl,e1,e2,G,rfl⟩|G⟩⟩:=aan (h:=MW.at9) e
 .cases aez r
  exact agh hc Z s σ H _ us Q I L ⟨i,j,rfl,q ι H _ (Le.refl _ _) S (.int _)⟩
 .obtain⟨a,xa,rfl,pl,g2,Jj⟩:=ae0 I S r L e1 e2
  refine aqn (I.ok.hd hc) pl Jj λw h' tk hw keep=>?_
  obtain⟨t,rfl⟩:=intItems_at hw;obtain⟨b1,b2⟩:=argBest_gt (numAt xa) (xa.size-1);obtain⟨c1,c2⟩:=best (R:=(·<=·)) g2 (by omega) λi hi=>b2 i (by lia)
  cases G;rw[aal l n _ c1 (c2 n bu) λa h=>c2 a (bc _ h)] at q;exact⟨.int _,H,I.kept keep,⟨t,rfl⟩,q ι H _ (Le.refl _ _) S (.int _)⟩
 .cases G
def N5(n d:Nat)(o:Option Int):HT.Fb n d o=MW.clip n d o:=by
 cases o with
 |none=>rfl
 |some i =>
  show(if i<0 then(i+(n:Int)).toNat else min i.toNat n)=(if 0<=i then min i.toNat n else(i+(n:Int)).toNat)
  by_cases h:i<0
  .rw[bf h,az (by lia)]
  .rw[az h,bf (by lia)]
def tO(R:Nm)(W:Fd)(K:Fg)(o:OEx):TO:=fun σ H Q=>∃G ρ M d M',ju R K G H M/\qu K G H ρ σ/\o.den W ρ M=.ok d M'/\∀Z L,Le G H Z L->ju R K Z L M'->Q d L
def PO.weak(h:PO X e t)(w:∀G H Q,t' G H Q->t G H Q):PO X e t':=λZ s G H Q I q=>h Z s G H Q I (w G H Q q)
def PO.of(h:PO X e t)(w:∀σ H Q Z ρ M d L,ju nm X.K Z H M->qu X.K Z H ρ σ->o'.den W ρ M=.ok d L->(∀G H',Le Z H G H'->ju nm X.K G H' L->Q d H')->t σ H Q):PO X e (tO nm W X.K o'):=PO.weak h fun σ H Q z_=>by obtain⟨Z,ρ,M,d,L,S,R,e,q⟩:=z_;exact w σ H Q Z ρ M d L S R e q
def aqp:PO X none (tO nm W X.K .none):=PO.of apo λL H Q Z G M d M' S R e q=>by rw[MW.afu] at e;cases e;exact q Z H (Le.refl _ _) S
set_option tactic.hygienic true in
def aqq(C:PE X a (tE nm W X.K Y)):PO X (some a) (tO nm W X.K (.some Y)):=PO.of (apq C) fun σ H Q u ρ M d M' S R e q=>by rw[MW.afv] at e;obtain⟨x,M1,y,e⟩:=dj e;split at e<;>cases e;rename_i i;exact one S R y λZ G v L J R1 r=>by cases r;exact⟨i,rfl,q Z G L J⟩
set_option tactic.hygienic true in
def a3w(ha:PE X a (tE nm W X.K a'))(hl:PO X lo (tO nm W X.K q1))(hh:PO X hi (tO nm W X.K q0)):PE X (.Subscript a (.Slice lo hi none p2) pos) (tE nm W X.K (.cut a' q1 q0)) :=
 PE.of (ake (SlR.or aps awh) ha hl hh) fun σ H Q ι ρ M d M' S R e q=>by
  rw[MW.aoh] at e;obtain⟨x,M1,e1,e⟩:=dj e;obtain⟨l,M2,e2,e⟩:=dj e;obtain⟨h,M3,e3,e⟩:=dj e;obtain⟨y,e5⟩:=xg e;subst e5;refine one S R e1 λqk H1 v le S1 R1 r=>⟨qk,ρ,M1,l,M2,S1,R1,e2,λqq H2 zg S2=>⟨qq,ρ,M2,h,_,S2,R1.mono zg,e3,λC H3 Oi L=>?_⟩⟩
  have r3:=(r.mono zg).mono Oi;have fin:=λqv H' w V5 S' r'=>q qv H' w (((le.trans zg).trans Oi).trans V5) S' r'
  have lst:∀Z,MW.iw M' x=some Z->d=.vl (MW.Qz Z l h)->a1t X.K v l h H3 Q:=λZ hd ed=>by
   obtain⟨p,vs,rfl,u,J⟩:=u9 L r3 hd;refine⟨p,vs,rfl,Ha.of u,λp' Y=>?_⟩;have:jw X.K C H3 (MW.Qz Z l h) (Q9 vs l h):=by unfold MW.Qz Q9;rw[N5,N5,<- J.length];exact(J.drop _).take _
   obtain⟨S4,G,r4⟩:=Xw (X:=X) L Y this;subst ed;exact fin _ _ _ G S4 r4
  cases x with
  |tup Z =>
   right
   simp only[MW.Gy] at y;cases y;cases r3 with
   |@tup p _ vs u J =>
    have:jw X.K C H3 (MW.Qz Z l h) (Q9 vs l h):=by unfold MW.Qz Q9;rw[N5,N5,<- J.length];exact(J.drop _).take _
    refine⟨p,vs,rfl,Hl.of u,λz1 z2=>?_,λp' Y=>?_⟩
    .have e:Q9 vs l h=vs:=by
      unfold Q9;rw[z1,z2];simp
     rw[e] at this;exact fin _ _ _ (Le.refl _ _) L (.tup u this)
    .obtain⟨S4,G,r4⟩:=Iu (X:=X) L Y this
     exact fin _ _ _ G S4 r4
  |_ =>
   left
   simp only[MW.Gy] at y;obtain⟨Z,hd,ed⟩:=cg.mp y;exact lst Z hd ed.symm
def a3x(hc:X.calm=true):Bp X (.builtin "min") (rB nm X.K .min):=λZ s σ H vs us Q I L hh=>by
 obtain⟨ι,M,ds,d,M',S,r,e,q⟩:=hh;obtain⟨rfl,⟨i,j,rfl,rfl⟩|⟨x,xs,n,l,m,⟨rfl,e1,e2,G,rfl⟩|G⟩⟩:=aan (h:=MW.az6) e
 .cases aez r
  exact agi hc Z s σ H _ us Q I L ⟨i,j,rfl,q ι H _ (Le.refl _ _) S (.int _)⟩
 .obtain⟨a,xa,rfl,pl,g2,Jj⟩:=ae0 I S r L e1 e2
  refine aqo (I.ok.hd hc) pl Jj λw h' tk hw keep=>?_
  obtain⟨t,rfl⟩:=intItems_at hw;obtain⟨b1,b2⟩:=argBest_lt (numAt xa) (xa.size-1);obtain⟨c1,c2⟩:=best (R:=λa b=>b<=a) g2 (by omega) λi hi=>b2 i (by lia)
  cases G;rw[aam l n _ c1 (c2 n bu) λa h=>c2 a (bc _ h)] at q;exact⟨.int _,H,I.kept keep,⟨t,rfl⟩,q ι H _ (Le.refl _ _) S (.int _)⟩
 .cases G
def Va{n:Nat}(hh:A.handled=none)(hr:IsRange s.heap r a b c t u v)(Uj:Builtin.Range.small a b c=true)(hn:Builtin.Range.rangeSize a b c=n)(qk:n<=2 ^ 24)(hQ:∀(G:Heap) (L:Nat) (Z:Xs),(∀b o,s.heap.get? b=some o->G.get? b=some o)->ItemsOf (λi v=>∃t,v=.int (a+i*c) t) Z n->Q Z.toList { s with heap:=G,toks:=L }):wpAny (model prog w) A (collect (.ref r)) Q E s:=by
 unfold collect;refine aa (wpAny_runValue (my F.entry_proto_collect ?_));rw[mz F.plain_proto_collect _];show wpAny _ A.in1 (newList [] >>= λl=>again (.builtin "list.__iadd__" ⟨[l,.ref r],[]⟩)) _ _ s;refine aa (jn ?_);refine aj ⟨plainId_quiet yc _,my F.entry_list_iadd ?_⟩;rw[mz yc _];show wpAny _ A.in1 (Builtin.List.listExtendWith (.ref s.heap.objs.size) (.ref r) (.ref s.heap.objs.size)) _ _ _;have keep:∀b o,s.heap.get? b=some o->(s.heap.push { cls:=.type "list",data:=.seq ([]:Zl).toArray }).get? b=some o:=λb o e=>ak _ e
 have q1:(s.heap.push { cls:=.type "list",data:=.seq ([]:Zl).toArray }).get? s.heap.objs.size=some { cls:=.type "list",data:=.seq #[] 0 }:=bw _ rfl;have q0:=wpAny_extend_range (prog:=prog) (w:=w) (A:=A) (R:=λr' s'=>∃(G:Heap)(L:Nat)(Z:Xs)(c':Nat),r'=.ok (.ret (.ref s.heap.objs.size))/\s'={ s with heap:=G,toks:=L }/\(∀b o,s.heap.get? b=some o->G.get? b=some o)
 /\G.get? s.heap.objs.size=some { cls:=.type "list",dict:=none,data:=.seq Z c',slots:=#[] }/\ItemsOf (λi v=>∃t,v=.int (a+i*c) t) Z n)
  (s:={ s with heap:=s.heap.push { cls:=.type "list",data:=.seq ([]:Zl).toArray } }) hh (keep _ _ hr) Uj hn qk s.heap.objs.size (.ref s.heap.objs.size) 0 q1
  λG L Z c' hk hS Ir=>⟨G,L,Z,c',rfl,rfl,λb o e=>hk b o (gn (au e)) (keep b o e),hS,Ir⟩
 have qq:∀{r':Result}{s':Shared},(∃(G:Heap)(L:Nat)(Z:Xs)(c':Nat),r'=.ok (.ret (.ref s.heap.objs.size))/\s'={ s with heap:=G,toks:=L }/\(∀b o,s.heap.get? b=some o->G.get? b=some o)
 /\G.get? s.heap.objs.size=some { cls:=.type "list",dict:=none,data:=.seq Z c',slots:=#[] }/\ItemsOf (λi v=>∃t,v=.int (a+i*c) t) Z n)->∃(G:Heap)(L:Nat)(Z:Xs)(c':Nat),r'=.ok (.ret (.ref s.heap.objs.size))/\s'={ s with heap:=G,toks:=L }/\G.get? s.heap.objs.size=some { cls:=.type "list",dict:=none,data:=.seq Z c',slots:=#[] }/\Q Z.toList s':=λ⟨G,L,Z,c',e1,e2,e3,e4,e5⟩=>⟨G,L,Z,c',e1,e2,e4,by rw[e2];exact hQ G L Z e3 e5⟩
 refine ik q0 (λfin s' hf=>?_) (λe s' he=>?_)
 .cases fin with
  |done f =>
   obtain⟨G,L,Z,c',e1,rfl,e4,e5⟩:=qq hf;cases e1;exact aa (wpAny_load e4 (aj e5))
  |again c' =>
   refine⟨hf.1,m9 hf.2 λr' q2 qv=>?_⟩;obtain⟨G,L,Z,c',e1,rfl,e4,e5⟩:=qq qv;subst e1;exact aa (wpAny_load e4 (aj e5))
 .obtain⟨_,_,_,_,e1,_⟩:=qq he
  cases e1
def Pq{n:Nat}(hh:A.handled=none)(hr:IsRange s.heap r a b c t u v)(Uj:Builtin.Range.small a b c=true)(hn:Builtin.Range.rangeSize a b c=n)(Z:n<=2 ^ 24)(h:∀(L:Heap) (tk:Nat) (acc:Xs),(∀b o,s.heap.get? b=some o->L.get? b=some o)->ItemsOf (λi v=>∃t,v=.int (a+i*c) t) acc n->G (.ref L.objs.size) { s with heap:=L.push { cls:=.type "tuple",data:=.seq acc },toks:=tk }) :
 codeAny (model prog w) A (.call (.builtin "tuple.__new__") ⟨[.type "tuple",.ref r],[]⟩) (wants G E) s:=by
 refine codeAny_of_tree ?_;show wpAny _ A.in1 (do checkBuiltinCall "tuple.__new__" ⟨[.type "tuple",.ref r],[]⟩;again (.builtin "tuple.__new__" ⟨[.type "tuple",.ref r],[]⟩)) _ _ s;refine aa (wpAny_of_eq (F.newCall_tuple_1 _) (aj ⟨plainId_quiet F.plain_tuple_new _,my F.entry_tuple_new ?_⟩));rw[mz F.plain_tuple_new _];have qk:=sub_tuple_self;have qq:=init_tuple_lookup;have qv:=madeHere_tuple;have R:s.TypeIs (.ref r) "range" := ⟨_,hr,rfl⟩
 wp_walk using uf R,Va (A:=A.in1) hh hr Uj hn Z
 intro L tk acc hk Ir;show wpAny _ _ (Builtin.Tuple.tupleExact acc.toList.toArray >>= λv=>ret v) _ _ _;unfold Builtin.Tuple.tupleExact;refine aa (jn ?_ (by show acc.toList.toArray.size<=sizeLine;simp only[Array.toArray_toList];rw[Ir.1,pq];exact Z));refine aj ?_;have e:acc.toList.toArray=acc:=by simp
 rw[e];exact h L tk acc hk Ir
def Pu{n:Nat}(hh:A.handled=none)(hr:IsRange s.heap r a b c t u v)(Uj:Builtin.Range.small a b c=true)(hn:Builtin.Range.rangeSize a b c=n)(R:n<=2 ^ 24)(hQ:∀(h':Heap) (tk:Nat) (L:Xs),(∀b o,s.heap.get? b=some o->h'.get? b=some o)->ItemsOf (λi v=>∃t,v=.int (a+i*c) t) L n->Q (.ref h'.objs.size) { s with heap:=h'.push { cls:=.type "tuple",data:=.seq L },toks:=tk }) :
 wpAny (model prog w) A (call (.type "tuple") [.ref r]) Q E s:=by
 refine callType_codes (Q₁:=λobj Z=>Z.TypeIs obj "tuple"/\Q obj Z) F.called_tuple (F.typeCall_tuple_1 _) F.entry_object_init
  (Pq (A:=A.in1) hh hr Uj hn R λh' tk L hk Ir=>⟨⟨_,bw _ rfl,rfl⟩,hQ h' tk L hk Ir⟩) λobj Z G=>?_
 exact⟨G.1,F.args_object_init_2 obj _,object_init_meets F.called_tuple.init.lookup F.called_tuple.made (by decide) prog w A.in1 _ Z ⟨G.1,rfl,G.2⟩⟩
def acs(h:ItemsOf (λi v=>∃t,v=.int (0+(i:Int)*1) t) acc n):Vals ((List.range n).map λ(k:Nat)=>V.int (k:Int)) acc.toList:=by
 have go:∀(l:Zl)(k:Nat),(∀(j:Nat)(v:Value),l[j]?=some v->∃t,v=Value.int ((k+j:Nat):Int) t)->Vals ((List.range' k l.length).map λ(k:Nat)=>V.int (k:Int)) l:=by
  intro l
  induction l with
  |nil=>intro k _;exact .nil
  |cons v l L =>
   intro k G;rw[gq,List.range'_succ,du];refine .cons ?_ (L (k+1) λj v Z=>?_)
   .exact G 0 v rfl
   .obtain⟨t,e⟩:=G (j+1) v (by simpa using Z)
    exact⟨t,by rw[e];congr 1;lia⟩
 have:=go acc.toList 0 (λj v Z=>by
  obtain⟨t,e⟩:=h.2 j v (by simpa using Z);exact⟨t,by rw[e];congr 1;lia⟩)
 rw[mq,h.1,<- List.range_eq_range'] at this;exact this
def acu(n:Nat):jw K G H ((List.range n).map λ(k:Nat)=>MW.D.int (k:Int)) ((List.range n).map λ(k:Nat)=>V.int (k:Int)):=by
 generalize List.range n=l
 induction l with
 |nil=>exact .nil|cons k l Z=>exact .cons (.int _) Z
set_option tactic.hygienic true in
def axr(hr:xj 8 X.A)(hg:Gl X n)(hm:X.mg n=none)(hv:bootBuiltins n=some (.type "tuple"))(hn:n≠"__name__")(K9:(n==("__debug__" : Str))=false)(q0:Gl X G)(q3:X.mg G=none)(q5:bootBuiltins G=some (.type "range"))(Yk:G≠"__name__")(q4:(G==("__debug__" : Str))=false)(ha:PA X [a] (Xv nm W X.K (.cons a' .nil)))(he:starEach [.Call (.Name G p') [a] [] y] X.env=(false,eval (.Call (.Name G p') [a] [] y) X.env)::starEach [] X.env)(Jo:(backTo q1 (starEach [] X.env)).any (·.1)=false)(qv:starEach [a] X.env=(false,eval a X.env)::starEach [] X.env)(qk:(backTo y (starEach [] X.env)).any (·.1)=false) :
 PE X (.Call (.Name n p) [.Call (.Name G p') [a] [] y] [] q1) (tE nm W X.K (.abd a')):=by
 intro Z s σ H Q I hh;obtain⟨ι,ρ,M,d,M',S,R,e,q⟩:=hh;rw[MW.aie] at e;obtain⟨x,M1,e1,e⟩:=dj e;split at e<;>try cases e
 rename_i i;split at e<;>cases e;rename_i hi;refine jj (Hh I hg hm hv ?_ hn K9);refine lq (Q:=EP X Z σ Q) ?_ he Jo;rw[he];show wpAny _ _ (spliced ((false,eval (.Call (.Name G p') [a] [] y) X.env)::backTo q1 (starEach [] X.env))) _ _ s;refine ug ?_;refine jj (Hh I q0 q3 q5 ?_ Yk q4);refine lq (Al (ha y Z s σ H (λvs J=>∃Y,vs=[.int i]/\Le ι H Y J/\ju nm X.K Y J M') I ⟨ι,ρ,M,[.int i],M',S,R,by simp[e1,Res.bind],λY J vs le S1 r=>?_⟩) λus C ⟨vs,J,I1,r1,Y,ev,Uu,S1⟩=>?_) qv qk
 .obtain⟨v,ev,rv⟩:=La r rfl
  cases rv;exact⟨Y,ev,le,S1⟩
 subst ev;obtain⟨u,rfl,ru⟩:=aly r1;obtain⟨t,rfl⟩:=ru;refine call_range_1 ?_;show wpAny _ _ (spliced []) _ _ _;refine Calls.spliced_nil ?_;have keep:∀b o,C.heap.get? b=some o->(C.heap.push { cls:=.type "range",data:=.fields #[.int 0 C.toks,.int i t,.int 1 (C.toks+1)] }).get? b=some o:=λb o e=>ak _ e
 refine Pu (n:=i.toNat) hr.hd (bw _ rfl) (small_one (by lia) (by lia) (by lia) (by omega)) (by rw[rangeSize_one];split<;>lia) (by lia) λL tk qq hk Ir=>?_
 have I2:Inv X Z σ J { C with heap:=L,toks:=tk }:=I1.kept λb o e=>hk b o (keep b o e)
 have hz:((List.range i.toNat).map λ(k:Nat)=>V.int (k:Int)).length<=sizeLine:=by simp[pq];omega
 have hf:J L.objs.size=none:=I2.wk.fresh (bh _);have I3:Inv X Z σ (upd J L.objs.size (.tup ((List.range i.toNat).map λ(k:Nat)=>V.int (k:Int)))) { C with heap:=L.push { cls:=.type "tuple",data:=.seq qq },toks:=tk } :=
  I2.laid (a:=L.objs.size) (t':=tk) (λb o e=>ak _ e) (bh _) (show Bb X.prog X.w _ _ _ (.tup _) from⟨hz,qq.toList,acs Ir,by simpa using L2.Q6.new _ _⟩)
 obtain⟨S2,zg,r2⟩:=Iu (X:=X) S1 hf (acu i.toNat);exact⟨.ref L.objs.size,_,I3,rfl,q Y _ _ (Uu.trans zg) S2 r2⟩
end Sm
namespace EnT
open PySem PySem.Spec
open AutoSeq1 (wpAny_loadPart')
set_option tactic.hygienic true in
def al0(a:s.heap.IsTupleIter it t i)(b:s.heap.IsTuple t R)(e:R[i]?=some x)(q:∀G,G.IsTupleIter it t (i+1)->Heap.SameBut it s.heap G->Q x { s with heap:=G }):wpAny (model prog w) A (Builtin.SmallTypes.nextOf (.ref it)) Q E s:=by obtain⟨o,Y,J,Z⟩:=id a;obtain⟨y,L,u,S,C⟩:=b;unfold Builtin.SmallTypes.nextOf;refine aa (m7 (name:=Str.ofString "__next__") a.typeIs qx (jx qx a.typeIs F.entry_tuple_iterator_next ?_ (F.args_tuple_iterator_next_1 _)));show wpAny _ _ (field (.ref it) 0 >>= _) _ _ s;refine aa (jy Y Z (x:=.ref t) rfl ?_);show wpAny _ _ (if(Value.ref t==Value.none)=true then _ else field (.ref it) 1 >>= _) _ _ s;rw[az (show ¬((Value.ref t==Value.none)=true) by exact di)];refine aa (jy Y Z (x:=.int i 0) rfl (aa (wpAny_seqItems L C ?_)));simp only[qy,e];refine aa (wpAny_setField Y Z (by simp) (aj ⟨x,rfl,aj (q _ ⟨_,mj _ Y (Obj.isFreed_of_fields (qi Z _)),(Obj.cls_mapFields ..).trans J,?_⟩ (jd ..))⟩));rw[qi Z];simp[rawInt]
set_option tactic.hygienic true in
def aqr(C:A.handled=none)(a:s.heap.IsTupleIter it t i)(b:s.heap.IsTuple t R)(e:R[i]?=none)(q:∀Z x,Heap.ExtBut it s.heap Z->(∃o,Z.get? x=some o/\o.cls=.type "StopIteration")->E (.ref x) { s with heap:=Z }):wpAny (model prog w) A (Builtin.SmallTypes.nextOf (.ref it)) Q E s:=by obtain⟨o,G,S,Y⟩:=id a;obtain⟨u,L,l2,y,J⟩:=b;unfold Builtin.SmallTypes.nextOf;refine aa (m7 (name:=Str.ofString "__next__") a.typeIs qx (jx qx a.typeIs F.entry_tuple_iterator_next ?_ (F.args_tuple_iterator_next_1 _)));show wpAny _ _ (field (.ref it) 0 >>= _) _ _ s;refine aa (jy G Y (x:=.ref t) rfl ?_);show wpAny _ _ (if(Value.ref t==Value.none)=true then _ else field (.ref it) 1 >>= _) _ _ s;rw[az (show ¬((Value.ref t==Value.none)=true) by exact di)];refine aa (jy G Y (x:=.int i 0) rfl (aa (wpAny_seqItems L J ?_)));simp only[qy,e];refine aa (wpAny_rule (aa (wpAny_setField G Y (by simp) ?_)));show wpAny _ _ (newExc (.type "StopIteration") [] >>= raiseNew) _ _ _;exact Vb.ac7 C λZ x k e=>q Z x (λb o n z=>k b o ((jd ..).extBut b o n z)) e
def ItB(b:Bool)(h:Heap)(it a:Addr)(i:Nat):Prop:=cond b (h.IsTupleIter it a i) (h.IsListIter it a i)
def SqB(b:Bool)(h:Heap)(a:Addr)(Z:Xs):Prop:=cond b (h.IsTuple a Z) (h.IsList a Z)
def ItB.at(x:ItB b h it a i)(k:∀o,h.get? it=some o->Z.get? it=some o):ItB b Z it a i:=by
 cases b with
 |true=>obtain⟨o,e,r⟩:=x;exact⟨o,k o e,r⟩
 |false=>obtain⟨o,e,r⟩:=x;exact⟨o,k o e,r⟩
def ItB.obj(x:ItB b h it a i):∃o,h.get? it=some o/\∀v,o.data≠.cell v:=by
 cases b with
 |true=>obtain⟨o,e,c,d⟩:=x;exact⟨o,e,λv z=>by rw[d] at z;cases z⟩
 |false=>obtain⟨o,e,c,d⟩:=x;exact⟨o,e,λv z=>by rw[d] at z;cases z⟩
def al1(a:ItB b s.heap it t i)(c:SqB b s.heap t G)(e:G[i]?=some x)(q:∀Z,ItB b Z it t (i+1)->Heap.SameBut it s.heap Z->Q x { s with heap:=Z }):wpAny (model prog w) A (Builtin.SmallTypes.nextOf (.ref it)) Q E s:=by
 cases b with
 |true=>exact al0 a c e q|false=>exact wpAny_nextOf_list_item a c e q
def aqs(G:A.handled=none)(a:ItB b s.heap it t i)(c:SqB b s.heap t L)(e:L[i]?=none)(q:∀Z x,Heap.ExtBut it s.heap Z->(∃o,Z.get? x=some o/\o.cls=.type "StopIteration")->E (.ref x) { s with heap:=Z }):wpAny (model prog w) A (Builtin.SmallTypes.nextOf (.ref it)) Q E s:=by
 cases b with
 |true=>exact aqr G a c e q|false=>exact wpAny_nextOf_list_end G a c e q
def aqt{i:Nat}{Q:Y1}(he:IsEnum s.heap e it i old)(a:ItB b s.heap it t i)(c:SqB b s.heap t xs)(ex:xs[i]?=some x)(ne:e≠it)(q:∀G,IsEnumOut G e it ((i:Int)+1) x s.heap.objs.size->ItB b G it t (i+1)->G.get? s.heap.objs.size=some { cls:=.type "tuple",data:=.seq #[.int i s.toks,x] }->G.objs.size=s.heap.objs.size+1 ->
 (∀y o,y≠e->y≠it->s.heap.get? y=some o->G.get? y=some o)->Q (.ref s.heap.objs.size) { s with heap:=G,toks:=s.toks+1 }) :
 wpAny (model prog w) A (Builtin.«enumerate.__next__» ⟨[.ref e],[]⟩) (λfin s'=>∃v,fin=.done (.ret v)/\Q v s') E s:=by
 obtain⟨R,g,d,tk,os⟩:=s;show wpAny _ _ (field (.ref e) 2 >>= _) _ _ _;refine aa (jy he rfl (x:=.ref it) rfl (aa (al1 a c ex λh1 a1 s1=>?_)));have s1:Heap.SameBut it R h1:=s1;have e1:IsEnum h1 e it i old:=(s1.2 e ne).trans he;refine aa (jy e1 rfl (x:=rawInt i) rfl (aa (jy e1 rfl (x:=.none) rfl (aa (wpAny_mkInt ?_)))));show wpAny _ _ (setField (.ref e) 3 (rawInt ((i:Int)+1)) >>= _) _ _ ⟨h1,g,d,tk+1,os⟩;refine aa (uo e1 (by simp) λh2 e2 s2=>?_);have s2:Heap.SameBut e h1 h2:=s2;have e2:IsEnum h2 e it ((i:Int)+1) old:=e2;refine aa (uo e2 (by simp) λh3 e3 s3=>?_);have s3:Heap.SameBut e h2 h3:=s3;have e3:IsEnum h3 e it ((i:Int)+1) old:=e3;refine aa (wpAny_newTuple ?_);have n3:h3.objs.size=R.objs.size:=by rw[s3.1,s2.1,s1.1]
 obtain⟨Z,d4⟩:∃Z,Z=h3.push { cls:=.type "tuple",data:=.seq #[.int i tk,x] }:=⟨_,rfl⟩;have e4:IsEnum Z e it ((i:Int)+1) old:=by rw[d4];exact ak _ e3
 have t4:Z.get? R.objs.size=some { cls:=.type "tuple",data:=.seq #[.int i tk,x] }:=by rw[d4,<- n3];exact bw _ rfl
 have n4:Z.objs.size=R.objs.size+1:=by rw[d4,kj,n3]
 have k3:∀y o,y≠e->h1.get? y=some o->Z.get? y=some o:=λy o L z=>by rw[d4];exact ak _ (s3.extBut y o L (s2.extBut y o L z))
 have a4:ItB b Z it t (i+1):=a1.at λo z=>k3 it o (j5 ne) z
 have lt:e<R.objs.size:=au he
 show wpAny _ _ (Builtin.SmallTypes.ownedTupleIsFree (.ref e) >>= _) _ _ ⟨h3.push _,g,d,tk+1,os⟩;rw[n3,<- d4];refine aa ?_;unfold Builtin.SmallTypes.ownedTupleIsFree;refine aa (jy e4 rfl (x:=.none) rfl (aj ?_));simp only[j6];refine aa (wpAny_rule (aa (jy e4 rfl (x:=old) rfl (aa (uo e4 (by simp) λh5 e5 s5=>?_)))));have s5:Heap.SameBut e Z h5:=s5;have e5:IsEnum h5 e it ((i:Int)+1) x:=e5;refine aa ?_;unfold Builtin.SmallTypes.ownedTupleHandOut;refine aa (uo e5 (by simp) λh6 e6 s6=>?_);have s6:Heap.SameBut e h5 h6:=s6;have e6:IsEnumOut h6 e it ((i:Int)+1) x R.objs.size:=e6;refine uo e6 (by simp) λh7 e7 s7=>?_
 have s7:Heap.SameBut e h6 h7:=s7;have k7:∀y o,y≠e->Z.get? y=some o->h7.get? y=some o:=λy o L z=>s7.extBut y o L (s6.extBut y o L (s5.extBut y o L z))
 exact aa (wpAny_letGo (aj ⟨_,rfl,q h7 e7 (a4.at λo z=>k7 it o (j5 ne) z) (k7 _ _ (yg lt) t4) (by rw[s7.1,s6.1,s5.1,n4]) λy o y1 y2 z=>k7 y o y1 (k3 y o y1 (s1.extBut y o y2 z))⟩))
set_option tactic.hygienic true in
def aqu{i:Nat}(G:IsEnum s.heap e it i old)(a:ItB b s.heap it t i)(c:SqB b s.heap t L)(C:L[i]?=some x)(R:e≠it)(q:∀Z,IsEnumOut Z e it ((i:Int)+1) x s.heap.objs.size->ItB b Z it t (i+1)->Z.get? s.heap.objs.size=some { cls:=.type "tuple",data:=.seq #[.int i s.toks,x] }->Z.objs.size=s.heap.objs.size+1 ->
 (∀y o,y≠e->y≠it->s.heap.get? y=some o->Z.get? y=some o)->Q (some (.ref s.heap.objs.size)) { s with heap:=Z,toks:=s.toks+1 }):wpAny (model prog w) A (pyNext (.ref e)) Q E s:=by
 have Y:s.TypeIs (.ref e) "enumerate" := ⟨_,G,rfl⟩;unfold pyNext;refine aa (wpAny_attempt (m7 (name:=Str.ofString "__next__") Y vh (jx vh Y F.entry_enumerate_next ?_ (F.args_enumerate_next_1 _))));exact aqt G a c C R λZ J u y3 S y5=>aj (q Z J u y3 S y5)
set_option tactic.hygienic true in
def aqv{i:Nat}(R:A.handled=none)(G:IsEnum s.heap e it i old)(a:ItB b s.heap it t i)(c:SqB b s.heap t S)(J:S[i]?=none)(q:∀Z,Heap.ExtBut it s.heap Z->Q none { s with heap:=Z }):wpAny (model prog w) A (pyNext (.ref e)) Q E s:=by have Y:s.TypeIs (.ref e) "enumerate" := ⟨_,G,rfl⟩;unfold pyNext;refine aa (wpAny_attempt (m7 (name:=Str.ofString "__next__") Y vh (jx vh Y F.entry_enumerate_next ?_ (F.args_enumerate_next_1 _))));show wpAny _ _ (field (.ref e) 2 >>= _) _ _ _;refine aa (jy G rfl (x:=.ref it) rfl (aa (aqs R a c J λZ z k z_=>?_)));obtain⟨o,L,C⟩:=z_;exact aa (nj (T := "StopIteration") (b:=true) ⟨o,L,C⟩ isSubtype_stop (aj (q _ k)))
set_option tactic.hygienic true in
def aqw(t:Addr)(xs:Xs)(n:Nat)(Y:Option Addr)(J:Array (Option Value)) :
 Meets (Builtin.«enumerate.__new__» ⟨[.type "enumerate",.ref t],[]⟩) (λ_ R s=>s.heap.get? t=some { cls:=.type "tuple",dict:=Y,data:=.seq xs n,slots:=J } /\
  R (.ok (.ret (.ref (s.heap.push { cls:=.type "tuple_iterator",data:=.fields #[.ref t,.int 0 0] }).objs.size)))
   { s with heap:=(s.heap.push { cls:=.type "tuple_iterator",data:=.fields #[.ref t,.int 0 0] }).push { cls:=.type "enumerate",data:=.fields #[.none,.bool false,.ref s.heap.objs.size,rawInt 0,.none,.none] } }) :=
 .of_wp λprog w A R s h=>by
  obtain⟨L,g,d,S,y⟩:=s;obtain⟨Z,h⟩:=h;have C:=sub_enumerate;have G:Heap.IsTuple (Shared.heap ⟨L,g,d,S,y⟩) t xs:=⟨_,Z,rfl,n,rfl⟩
  wp_walk using wpAny_loadPart' Z
  refine wpAny_stack_any λu=>aj ?_
  split
  .rename_i c _ _ _ _ _
   cases(c==Value.type "enumerate")<;>(wp_walk using wpAny_loadPart' Z,um G)<;>exact⟨_,rfl,h⟩
  .wp_walk using wpAny_loadPart' Z,um G
   exact⟨_,rfl,h⟩
def al2(c:s.heap.IsTuple t xs)(q:∀Z,IsEnum Z (s.heap.objs.size+1) s.heap.objs.size 0 .none->Z.IsTupleIter s.heap.objs.size t 0->Z.objs.size=s.heap.objs.size+2 ->
 (∀y o,s.heap.get? y=some o->Z.get? y=some o)->Q (.ref (s.heap.objs.size+1)) { s with heap:=Z }):wpAny (model prog w) A (call (.type "enumerate") [.ref t]) Q E s:=by
 obtain⟨⟨c0,L,dt,sl⟩,hl,G,n,R⟩:=c;have G:c0=.type "tuple" := G;have R:dt=.seq xs n:=R;subst G R;have n1:(s.heap.push { cls:=.type "tuple_iterator",data:=.fields #[.ref t,.int 0 0] }).objs.size=s.heap.objs.size+1:=kj ..;refine callType_new F.called_enumerate (by decide) (F.typeCall_enumerate_1 _) (F.newCall_enumerate_1 _) (λobj=>F.args_object_init_2 obj _) F.entry_enumerate_new (aqw t xs n L sl) ⟨hl,?_⟩;show _/\_;rw[n1];have e1:IsEnum ((s.heap.push { cls:=.type "tuple_iterator",data:=.fields #[.ref t,.int 0 0] }).push { cls:=.type "enumerate",data:=.fields #[.none,.bool false,.ref s.heap.objs.size,rawInt 0,.none,.none] }) (s.heap.objs.size+1) s.heap.objs.size 0 .none:=by rw[<- n1];exact bw _ rfl
 exact⟨⟨_,e1,rfl⟩,q _ e1 ⟨_,ak _ (bw _ rfl),rfl,rfl⟩ (by rw[kj,n1]) λy o z=>ak _ (ak _ z)⟩
end EnT
namespace L2
open PySem PySem.Spec EnT
def Inv.ag6{ch:X0}(I:Inv X pins σ H s)(G:∀b∈ch,Q7 X pins H b)(k:∀b o,b∉ch->s.heap.get? b=some o->h'.get? b=some o)(hn:s.heap.objs.size<=n)(new:Bb X.prog X.w (upd H n (.tup vs)) h' n (.tup vs)):Inv X pins σ (upd H n (.tup vs)) { s with heap:=h',toks:=t' }:=by
 have L:H n=none:=I.wk.fresh hn;have R:∀b u,H b=some u->b∉ch:=λb u e z=>by rw[(G b z).1] at e;cases e
 have qq:∀b o,s.heap.get? b=some o->b≠n:=λb o e=>gn (dm (au e) hn)
 refine I.step (g':=s.gens) (d':=s.drawn) (ch:=ch) (λb hb=>⟨(G b hb).2.2.2.1,(G b hb).2.1,(G b hb).2.2.2.2.1,(G b hb).2.2.2.2.2⟩) (λb o _ _ Z e _=>k b o Z e) (λb o _ _ Z e _=>⟨o.slots,k b o Z e⟩) (λb o _ e n0=>by rw[gr (qq b o e)];exact n0)
  (λb o Z e=>⟨o,k b o Z e⟩) (λb xs e=>by rw[gr (jt e L)];exact e) (λb o u e=>by rw[gr (jt e L)];exact e) (λb ps e=>⟨#[],by rw[gr (jt e L),e];simp⟩) (λm hm=>?_) (λb u e=>?_) I.bare
 .obtain⟨o,es,ep,ho,r⟩:=hm
  exact⟨o,es,ep,k _ o (λz=>(G _ z).2.1 rfl) ho,r⟩
 .by_cases z:b=n
  .subst z;rw[m8] at e;cases e;exact new
  .rw[gr z] at e
   refine(I.wk b u e).stay (λc v Z q=>k c v ?_ q) (λc q=>by rw[gr (jt q L)];exact q) λc xs q=>by rw[gr (jt q L)];exact q
   rcases Z with y|y
   .rw[y];exact R b u e
   .exact R c _ y
def Inv.aqx{ch:X0}(I:Inv X pins σ H s)(G:∀b∈ch,Q7 X pins H b)(k:∀b o,b∉ch->s.heap.get? b=some o->h'.get? b=some o):Inv X pins σ H { s with heap:=h',toks:=t' }:=by
 have L:∀b u,H b=some u->b∉ch:=λb u e z=>by rw[(G b z).1] at e;cases e
 refine I.step (g':=s.gens) (d':=s.drawn) (ch:=ch) (λb R=>⟨(G b R).2.2.2.1,(G b R).2.1,(G b R).2.2.2.2.1,(G b R).2.2.2.2.2⟩) (λb o _ _ Z e _=>k b o Z e) (λb o _ _ Z e _=>⟨o.slots,k b o Z e⟩) (λb o _ e n0=>n0)
  (λb o Z e=>⟨o,k b o Z e⟩) (λb xs e=>e) (λb o u e=>e) (λb ps e=>⟨#[],by rw[e];simp⟩) (λm hm=>?_) (λb u e=>?_) I.bare
 .obtain⟨o,es,ep,ho,r⟩:=hm
  exact⟨o,es,ep,k _ o (λz=>(G _ z).2.1 rfl) ho,r⟩
 .refine(I.wk b u e).stay (λc v Z q=>k c v ?_ q) (λ_ q=>q) λ_ _ q=>q
  rcases Z with y|y
  .rw[y];exact L b u e
  .exact L c _ y
def SqX(b:Bool)(K:Fg)(H:Hp)(a:Addr)(Z:List V):Prop:=cond b (Hl K H a Z) (Ha K H a Z)
def Inv.axs(I:Inv X pins σ H s)(h:SqX b X.K H a R):∃Z,Vals R Z/\SqB b s.heap a Z.toArray:=by
 cases b with
 |true=>obtain⟨Z,G,p,L⟩:=I.tuple h;exact⟨Z,G,show s.heap.IsTuple a Z.toArray from p⟩
 |false=>obtain⟨Z,G,p,L⟩:=I.list h;exact⟨Z,G,p.isList⟩
def Inv.al3(I:Inv X pins σ H s)(h:SqX b X.K H a Z)(g:SqX b X.K H a ys):Z=ys:=by
 cases b with
 |true=>exact I.Vr h g|false=>exact I.Zm h g
def Ien(b:Bool)(K:Fg)(a:Addr):It :=
 ⟨λi H=>∃Z x,SqX b K H a Z/\Z[i]?=some x,λi H v G=>∃p x,v=.ref p/\H p=none/\G=upd H p (.tup [.int (i:Nat),x])/\∀Z,SqX b K H a Z->Z[i]?=some x,λi H=>∃Z,SqX b K H a Z/\Z.length<=i⟩
set_option tactic.hygienic true in
theorem aqy(a e it:Addr)(ne:e≠it):Turn P w K (.Tuple ts k0 pt) (Ien b K a) [e,it] e (λi h=>(∃Z,IsEnum h e it ((i:Nat):Int) Z)/\ItB b h it a i) where
 mem:=by simp
 obj:=λi h J c Y=>by
  obtain⟨⟨Z,G⟩,C⟩:=J;rcases bx.mp Y with z|z
  .subst z;exact⟨_,G,λv z=>by cases z⟩
  .have z:c=it:=by simpa using z
   subst z;exact C.obj
 keep:=λi h h' J k=>by obtain⟨⟨Z,G⟩,C⟩:=J;exact⟨⟨Z,k e (by simp) _ G⟩,C.at λo z=>k it (by simp) o z⟩
 item:=by
  intro X hP hw hK Y i L s σ H E I hf J hg;subst hP hw hK;obtain⟨xs,x,hq,S⟩:=hg;obtain⟨xf,rv,p⟩:=I.axs hq;obtain⟨u,hu,ru⟩:=rv.get S;obtain⟨⟨Z,G⟩,C⟩:=J;have lt:e<s.heap.objs.size:=au G
  refine aqu G C p (x:=u) (by simpa using hu) ne λh1 o1 a1 t1 n1 k1=>⟨_,rfl,?_⟩
  refine wpAny_letOwnedTupleGo_enum o1 λh2 o2 R=>?_
  have R:Heap.SameBut e h1 h2:=R;have t2:h2.get? s.heap.objs.size=some { cls:=.type "tuple",data:=.seq #[.int i s.toks,u] }:=(R.2 _ (yg lt)).trans t1;refine⟨.ref s.heap.objs.size,upd H s.heap.objs.size (.tup [.int (i:Nat),x]),I.ag6 (t':=s.toks+1) hf (λc o Y z=>?_) (bh _) ⟨by show 2<=sizeLine;decide,[.int i s.toks,u],.cons ⟨s.toks,rfl⟩ (.cons ru .nil),⟨_,t2,rfl,_,rfl,rfl⟩⟩,rfl,
   ⟨_,x,rfl,I.wk.fresh (bh _),rfl,λys hy=>by rw[I.al3 hy hq];exact S⟩,⟨⟨u,?_⟩,a1.at λo z=>R.extBut it o (j5 ne) z⟩,λc Y=>?_⟩
  .have c1:c≠e:=λz=>Y (by simp[z])
   have c2:c≠it:=λz=>Y (by simp[z])
   exact R.extBut c o c1 (k1 c o c1 c2 z)
  .have q:((i+1:Nat):Int)=(i:Int)+1:=by push_cast;rfl
   rw[q];exact o2
  .have qq:c<s.heap.objs.size:=by
    rcases bx.mp Y with z|z
    .rw[z];exact lt
    .have z:c=it:=by simpa using z
     obtain⟨o,z2,_⟩:=C.obj;rw[z];exact au z2
   rw[gr (gn qq)];exact(hf c Y).1
 done:=by intro X hP hw hK Y i L s σ H E I hf J hg;subst hP hw hK;obtain⟨xs,hq,S⟩:=hg;obtain⟨xf,rv,p⟩:=I.axs hq;obtain⟨⟨Z,G⟩,C⟩:=J;have hl:=rv.length;refine aqv (I.ok.hd Y) G C p (by simp;exact a_ (g_ hl) S) λh' eb=>⟨rfl,I.aqx (t':=s.toks) hf λc o Y z=>eb c o (λy=>Y (by simp[y])) z⟩
 self:=λ_ _ _ _ _ J h=>by obtain⟨⟨Z,G⟩,C⟩:=J;exact wpAny_pyIter_enum G h
def a3z(hg:Gl X "enumerate")(hm:X.mg "enumerate" = none)(ha:PA X [a] ta)(hs:starEach [a] X.env=[(false,eval a X.env)]) :
 PI X (.Tuple ts k0 pt) (.Call (.Name "enumerate" p) [a] [] pos) (fun σ H R=>ta σ H λvs H1=>∃b q,vs=[.ref q]/\(∃xs,SqX b X.K H1 q xs)/\R (Ien b X.K q) H1):=by
 intro L s σ H R I h;refine PyProof.Rows.Call_ (Hh I hg hm (show bootBuiltins "enumerate" = some (.type "enumerate") by decide+kernel) (lq (Al (ha pos L s σ H _ I h) λus Z ⟨vs,H1,I1,r1,q1⟩=>?_) hs rfl));obtain⟨b,q,rfl,⟨xs,hq⟩,hR⟩:=q1;cases r1 with
 |cons r rr =>
  cases rr;cases r;obtain⟨xf,rv,p⟩:=I1.axs hq;have fin:∀G,IsEnum G (Z.heap.objs.size+1) Z.heap.objs.size 0 .none->ItB b G Z.heap.objs.size q 0->(∀y o,Z.heap.get? y=some o->G.get? y=some o) ->
   wpAny (model X.prog X.w) X.A (pyIter (.ref (Z.heap.objs.size+1))) (PIE X L σ (.Tuple ts k0 pt) R) X.xe { Z with heap:=G }:=λG e1 e2 kk=>by
   refine wpAny_pyIter_enum e1 ?_;refine⟨Z.heap.objs.size+1,[Z.heap.objs.size+1,Z.heap.objs.size],_,_,H1,rfl,I1.kept (t':=Z.toks) kk,aqy (b:=b) q _ _ (Nat.succ_ne_self _),⟨⟨.none,e1⟩,e2⟩,λc hc=>?_,hR⟩;have qq:Z.heap.objs.size<=c:=by
    rcases bx.mp hc with z|z
    .rw[z];exact t7 _
    .have z:c=Z.heap.objs.size:=by simpa using z
     rw[z];exact bh _
   exact I1.apb qq (I1.wk.fresh qq)
  cases b with
  |true=>exact al2 p λG e1 e2 _ kk=>fin G e1 e2 kk
  |false=>exact call_enumerate_list p λG e1 e2 _ kk=>fin G e1 e2 kk
end L2
namespace Sm
open PySem L2
open MW (Ex Cu OEx Og Ar qm Lv Tg Res dh MO Fd Cp Op2 Blt Bm Kx Src)
def ag7{i:Nat}(h:(MW.Gg ds 0)[i]?=some d):∃z,ds[i]?=some z/\d=.tup [.int (i:Nat),z]:=by
 unfold MW.Gg at h;rw[ir,yz] at h;cases e:ds[i]? with
 |none=>rw[e] at h;simp at h|some z=>rw[e] at h;simp at h;exact⟨z,rfl,h.symm⟩
def ae1{X:Cx}(r:jw X.K ι H ds L)(hk:∀Z G,LeX ι H Z G->SqX bb X.K G q L):aqc nm X.K ι H (.con (MW.Gg ds 0)) (Ien bb X.K q):=λZ G M1 R S1=>by
 refine⟨λi d hi hd=>?_,λ_=>⟨L,hk Z G R,?_⟩⟩
 .obtain⟨z,e1,rfl⟩:=ag7 (show(MW.Gg ds 0)[i]?=some d from hd)
  obtain⟨v,g1,g2⟩:=(r.Kr R).get e1;refine⟨⟨L,v,hk Z G R,g1⟩,λu H2 ⟨p,x,e2,e3,e4,e5⟩=>?_⟩;have ex:x=v:=by have:=e5 L (hk Z G R);rw[g1] at this;cases this;rfl
  subst ex e2 e4;obtain⟨S2,zg,r2⟩:=Iu (X:=X) S1 e3 (.cons (.int _) (.cons g2 .nil));exact⟨zg,S2,r2⟩
 .show L.length<=(MW.Gg ds 0).length
  rw[<- r.length];simp[MW.Gg]
def a4a(hg:Gl X "enumerate")(hm:X.mg "enumerate" = none)(ha:PE X a (tE nm W X.K a'))(Mv:noStar a=true):PI X (.Tuple ts k0 pt) (.Call (.Name "enumerate" pr) [a] [] pos) (tI nm W X.K (.enm a')):=by
 intro Z s0 σ H R' I hh;obtain⟨ι,ρ,M,s,M',S,R,e,q⟩:=hh;rw[MW.adi] at e;obtain⟨x,M1,e1,e⟩:=dj e;refine PI.weak (a3z (ts:=ts) (k0:=k0) (pt:=pt) (p:=pr) (pos:=pos) hg hm (Pk ha V6 (ou Mv _ _)) (ou Mv _ _)) (wi':=λL H0 R0=>L=σ/\H0=H/\R0=R') (λL H0 R0 ⟨z1,z2,z3⟩=>?_) Z s0 σ H R' I ⟨rfl,rfl,rfl⟩;subst z1 z2 z3;refine Xx (es':=.cons a' .nil) (ds:=[x]) (M1:=M1) S R (by rw[MW.Ay,e1];simp) λG H1 vs le S1 R1 r=>?_
 cases r with
 |cons r1 r2 =>
  cases r2;cases r1 with
  |@tup p ds us h1 rr =>
   cases e;exact⟨true,p,rfl,⟨us,Hl.of h1⟩,q G H1 _ le S1 (ae1 rr λqq H2 zg=>Hl.of (zg.tup _ _ h1))⟩
  |@vl p ds us h1 n1 rr =>
   cases e;exact⟨false,p,rfl,⟨us,Ha.of h1⟩,q G H1 _ le S1 (ae1 rr λqq H2 zg=>Ha.of (zg.lst _ _ n1.1 h1))⟩
  |_=>cases e
def atf(h:PE X a t):PE X (.BoolOp op [a] pos) t:=λZ s G H Q I q=>PyProof.Rows.BoolOp_one (h Z s G H Q I q)
open MW (Ex Cu OEx Og Ar qm Lv Tg Res dh MO Fd Cp Op2 Blt Bm Kx)
section
variable{nm:Nm}{X:Cx}
set_option tactic.hygienic true in
def aao(J:Rep K L H x v)(R:Rep K L H y u)(Z:RelV v G)(C:RelV u Y)(e:MW.afq x y=some k):plainIs G Y=true/\(G==Y)=k:=by
 cases R<;>try(cases e;done)
 .cases C
  cases J<;>first|(cases e;done)|(cases Z;cases e;exact⟨rfl,rfl⟩)
 .cases C
  cases J<;>try(cases e;done)
  rename_i b c;cases Z;cases e;cases b<;>cases c<;>exact⟨rfl,rfl⟩
def baq:Bc X (compareOp .Is) (Jm nm X.K .is):=λZ s σ H v u v' u' Q I G ru hh=>by obtain⟨ι,M,x,y,b,S,L,R,e,q⟩:=hh;have e:MW.afq x y=some b:=e;obtain⟨p,ev⟩:=aao L R G ru e;exact wpAny_is_plain p (v9 I q ev.symm)
def aqz:Bc X (compareOp .IsNot) (Jm nm X.K .ac8):=λZ s σ H v u v' u' Q I G ru hh=>by obtain⟨ι,M,x,y,b,S,L,R,e,q⟩:=hh;have e:(MW.afq x y).map not=some b:=e;obtain⟨c,e1,rfl⟩:=cg.mp e;obtain⟨p,ev⟩:=aao L R G ru e1;exact wpAny_isNot_plain p (v9 I q (by rw[ev]))
end
set_option tactic.hygienic true in
def aq0(h:MW.v5 (.isE k) [x] M=.ok d Z):Z=M/\((x=.non/\d=.bl false)\/∃n c,x=.ref n/\M[n]?=some (.exc c)/\d=.bl (k==0||c==k)):=by
 cases x with
 |non=>cases h;exact⟨rfl,.inl ⟨rfl,rfl⟩⟩
 |ref n =>
  simp only[MW.v5,MW.Uy] at h;cases hM:M[n]? with
  |none=>rw[hM] at h;cases h
  |some o =>
   rw[hM] at h;cases o with
   |exc c=>cases h;exact⟨rfl,.inr ⟨n,c,rfl,hM,rfl⟩⟩|_=>cases h
 |_=>cases h
set_option tactic.hygienic true in
def atg{X:Cx}{cv:Value}{kk:Nat}(qv:∀{Y σ H s} {Q:Y1} {E:Y1},Inv X Y σ H s->Q cv s->wpAny (model X.prog X.w) X.A (eval (.Name L J) X.env) Q E s)(hk:∀c C,nm.xc c=some C->PySem.W.kitOne X.K (.ref C) cv=some (kk==0||c==kk)/\acg X.K C=true)(qk:PySem.W.kitOne X.K (.type "NoneType") cv=some false)
 (hg:Gl X n) (hm:X.mg n=none) (hv:bootBuiltins n=some (.builtin "isinstance")) (hn:n≠"__name__") (K9:(n==("__debug__" : Str))=false) (ha:PE X a (tE nm W X.K a')) (he:starEach [a,.Name L J] X.env=(false,eval a X.env)::starEach [.Name L J] X.env) (qq:starEach [.Name L J] X.env=(false,eval (.Name L J) X.env)::starEach [] X.env) (Jo:(backTo pos (starEach [.Name L J] X.env)).any (·.1)=false):PE X (.Call (.Name n p) [a,.Name L J] [] pos) (tE nm W X.K (.blt (.isE kk) (.cons a' .nil))):=by
 intro Y s σ H Q I hh;obtain⟨ι,ρ,M,d,M',S,R,e,q⟩:=hh;rw[MW.Wn] at e;obtain⟨ds,M1,e1,e⟩:=dj e;rw[MW.Ay] at e1;obtain⟨x,M2,e2,e1⟩:=dj e1;rw[MW.Et] at e1;cases e1;refine jj (Hh I hg hm hv ?_ hn K9);refine PyProof.Rows.callWith_builtin1 (Q:=EP X Y σ Q) ?_ he Jo;rw[he];show wpAny _ _ (spliced ((false,eval a X.env)::backTo pos (starEach [.Name L J] X.env))) _ _ s;refine ug (Al (ha Y s σ H (λv G=>∃Z,Le ι H Z G/\ju nm X.K Z G M1/\Rep X.K Z G x v) I ⟨ι,ρ,M,x,M1,S,R,e2,λZ G v le S1 r=>⟨Z,le,S1,r⟩⟩) λu s1 z_=>?_);obtain⟨v,G,y,r1,Z,le,S1,r⟩:=z_;rw[qq];show wpAny _ _ (spliced ((false,eval (.Name L J) X.env)::backTo pos (starEach [] X.env))) _ _ s1;refine ug (qv y ?_);refine Calls.spliced_nil ?_;obtain⟨rfl,⟨rfl,rfl⟩|⟨n',c,rfl,hc,rfl⟩⟩:=aq0 e
 .cases r
  cases r1;exact PySem.W.kia_one PySem.W.kitx_none y.kIn trivial qk (by intro z;cases z) λtk=>⟨.bl _,G,y.tok _,rfl,q Z G _ le S1 (.bl _)⟩
 cases r with
 |ref ea =>
  cases r1;obtain⟨C,h1,h2⟩:=S1.obj _ _ _ hc ea;obtain⟨k1,k2⟩:=hk c C h2;have xa:=(y.wk _ _ h1).1;exact PySem.W.kia_one (akt (apz k2)) y.kIn xa k1 (by intro z;cases z) λtk=>⟨.bl _,G,y.tok _,rfl,q Z G _ le S1 (.bl _)⟩
section
variable{prog:Program}{w:World}{A:Around}{E:Y1}{s:Shared}{it d:Addr}{i ep:Nat}{o:Obj}{es:Array DictEntry}{Q:Option Value->Shared->Prop}
def al4{Q:Y1}(Z:s.heap.get? d=some o)(R:o.ExactDict)(G:o.data=.dict es ep)(L:(d==sysModules)=false)
 (h:Q (.ref s.heap.objs.size) { s with heap:=s.heap.push { cls:=.type "dict_keyiterator",data:=.fields #[.ref d,.int 0 0,.int es.size 0,.int ep 0] } }):wpAny (model prog w) A (pyIter (.ref d)) Q E s:=by
 have T:s.TypeIs (.ref d) "dict" := ⟨o,Z,R.1⟩;refine wpAny_pyIter_slot T PySem.F.slot_dict_iter (jx PySem.F.slot_dict_iter T PySem.F.entry_dict_iter ?_ (PySem.F.args_dict_iter_1 _));unfold Builtin.«dict.__iter__» Builtin.Dict.dictSlotNone;refine aa (aa (vm T ?_));refine aj (?_:wpAny _ _ (Builtin.Dict.showsAll d >>= _) _ _ s);unfold Builtin.Dict.showsAll;rw[L];refine aa (aj (aa (gw Z G (aa (qe Z G ?_)))));exact aa (jn (aj ⟨_,rfl, "dict_keyiterator",_,⟨_,bw _ rfl,rfl⟩,vg.lookup,h⟩))
def aap(R:s.heap.IsKeyIter it d i es.size ep)(ho:s.heap.get? d=some o)(hd:o.data=.dict es ep)
 (h1:∀G:i<es.size,∀Z,Z.IsKeyIter it d (i+1) es.size ep->Heap.SameBut it s.heap Z->Q (some es[i].key) { s with heap:=Z })
 (hh:A.handled=none) (h2:es.size<=i->∀Z,Heap.ExtBut it s.heap Z->Q none { s with heap:=Z }):wpAny (model prog w) A (pyNext (.ref it)) Q E s:=by
 have T:=R.typeIs;obtain⟨oi,hi,hc,L⟩:=id R;unfold pyNext;refine aa (wpAny_attempt (m7 (name:=Str.ofString "__next__") T vg (jx vg T PySem.F.entry_dict_keyiterator_next ?_ (PySem.F.args_dict_keyiterator_next_1 _))));refine aa (aj (aa (aa (aa (u5 T (aj (aa (wpAny_fieldsOf hi L ?_))))))));rw[show Builtin.Dict_items.ownsTuple "dict_keyiterator" = false by decide];show wpAny _ _ (if(Value.ref d==Value.none)=true then _ else _) _ _ s;rw[az (show ¬((Value.ref d==Value.none)=true) from di)];refine aa (aj (aa (gw ho hd ?_)));rw[az (by simp)];refine aa (aj (aa (qe ho hd ?_)));rw[az (by simp)];refine aj ?_;rcases Nat.lt_or_ge i es.size with G|G
 .have qq:(s.heap.update it (Obj.mapFields (·.setIfInBounds 1 (rawInt ((i:Int)+1))))).IsKeyIter it d (i+1) es.size ep :=
   ⟨_,mj _ hi (Obj.isFreed_of_fields (qi L _)),(Obj.cls_mapFields ..).trans hc,by rw[qi L];simp[rawInt]⟩
  simp only[show ¬((i:Int)<0) by lia,jk,qy,Array.getElem?_eq_getElem G];refine aa (aa (u5 T (aj (aa (wpAny_isOneOf_keyiter T ?_)))));refine(?_:wpAny _ _ (setField (.ref it) 1 (rawInt ((i:Int)+1)) >>= _) _ _ s);refine aa (wpAny_setField hi L (by simp) (aa (jc (aa (wpAny_isOneOf_keyiter (s:={ s with heap:=_ }) qq.typeIs ?_)))));exact aj (aj ⟨_,rfl,aj (h1 G _ qq (jd ..))⟩)
 .simp only[show ¬((i:Int)<0) by lia,jk,qy,Array.getElem?_eq_none G]
  refine aa (aa (u5 T (aj ?_)));refine(?_:wpAny _ _ (setField (.ref it) 0 .none >>= _) _ _ s);refine aa (wpAny_setField hi L (by simp) ?_);refine Vb.ac7 (show A.in1.handled=none from hh) λZ x k z_=>?_
  obtain⟨o,e1,e2⟩:=z_;exact aa (nj (T := "StopIteration") (b:=true) ⟨o,e1,e2⟩ isSubtype_stop (aj (h2 G _ λb o n z=>k b o ((jd ..).extBut b o n z))))
theorem ag8{I:Addr}(hh:A.handled=none)(hd:o.data=.dict es ep)(Jj:d≠I):Walks prog w A I [I,d] [I] es.size (λi v=>∃e,es[i]?=some e/\v=e.key) (λi h=>h.IsKeyIter I d i es.size ep/\h.get? d=some o) where
 sub:=λb G=>by simp at G;simp[G]
 frame:=λ_ _ _ Z hk=>⟨Z.1.at λo e=>hk _ (by simp) o e,hk d (by simp) o Z.2⟩
 item:=λi L Q E hi Z R=>aap Z.1 Z.2 hd (λhl h' qq sb=>R _ h' L.toks ⟨_,Array.getElem?_eq_getElem hl,rfl⟩ ⟨qq,(sb.2 d Jj).trans Z.2⟩ λb o G e=>(sb.2 b (λz=>G (by simp[z]))).trans e) hh λz=>absurd hi (by lia)
 done:=λL Q E Z R=>aap Z.1 Z.2 hd (λhl=>absurd hl (by lia)) hh λ_ h' eb=>R h' L.toks λb o G e=>eb b o (λz=>G (by simp[z])) e
 self:=λ_ _ _ _ Z h=>wpAny_pyIter_keyiter Z.1 h
theorem al5(Z:o.ExactDict)(L:o.data=.dict es ep)(hn:(d==sysModules)=false):PySem.W.KdlSrc prog w "dict" d d es.size (λi v=>∃e,es[i]?=some e/\v=e.key) (λh=>h.get? d=some o) where
 type:=λ_ h=>⟨o,h,Z.1⟩
 there:=λ_ h=>⟨au h,au h⟩
 keep:=λ_ _ h R=>R d (.inl rfl) o h
 notList:=by decide
 notTuple:=by decide
 hint:=λ_ _ _ _ h G=>PySem.W.kdl_hint_dict ⟨o,h,Z.1⟩ G
 iter:=λA s hh h=>⟨_,_,(λ_ _ G=>al4 h Z L hn G),ag8 hh L (gn (au h)),⟨_,bw _ rfl,rfl,rfl⟩,ak _ h⟩
end
theorem jw.keys{K:Fg}{Z:Io}{H:Hp}:∀k:List Kx,jw K Z H (k.map MW.aob) (k.map kV)
 |[]=>.nil|.inl i::k=>.cons (.int i) (jw.keys k)|.inr x::k=>.cons (.str x) (jw.keys k)
theorem ni.keys{K:Fg}{G:Io}{H:Hp}:∀{l:List (List Kx×Dv)}{Z:List (List Key×V)},ni K G H (λk L=>k=L) l Z->Z.map (·.1)=l.map (·.1)
 |_,_,.nil=>rfl|_,_,.cons k _ t=>by rw[du,du,ni.keys t,k]
theorem N6{L R:Type}{F:L->R->Prop}{a:L}:∀{Z:List L}{G:List R}{i:Nat},Paired F Z G->Z[i]?=some a->∃b,G[i]?=some b/\F a b
 |_,_,0,.cons h _,e=>by cases e;exact⟨_,rfl,h⟩|_,_,i+1,.cons _ t,e=>N6 (i:=i) t e
section
variable{prog:Program}{w:World}{A:Around}{E:Y1}{s:Shared}{T:String}{r d:Addr}{n:Nat}{P:Nat->Value->Prop}{OK:Heap->Prop}
def aaq{R:List Value->Shared->Prop}(K:PySem.W.KdlSrc prog w T r d n P OK)(hh:A.handled=none)(wk:OK s.heap)(hn:n<=sizeLine)
 (h:∀(G:Heap)(L:Nat)(qq:Xs),(∀b o,s.heap.get? b=some o->G.get? b=some o)->s.heap.objs.size<G.objs.size->ItemsOf P qq n->R qq.toList { s with heap:=G,toks:=L }):wpAny (model prog w) A (collect (.ref r)) R E s:=by
 have lt:=K.there _ wk;have hS:(s.heap.push { cls:=.type "list",data:=.seq ([]:Zl).toArray }).get? s.heap.objs.size=some { cls:=.type "list",data:=.seq #[] }:=bw _ rfl;have key:=PySem.W.kdl_extend (A:=A) (s:={ s with heap:=s.heap.push { cls:=.type "list",data:=.seq ([]:Zl).toArray } })
  (R:=λ(q:Result) (s':Shared)=>∃(G:Heap)(L:Nat)(Z:Xs)(c':Nat),q=.ok (.ret (.ref s.heap.objs.size))/\s'={ s with heap:=G,toks:=L }/\(∀b o,s.heap.get? b=some o->G.get? b=some o)/\G.get? s.heap.objs.size=some { cls:=.type "list",dict:=none,data:=.seq Z c',slots:=#[] }/\ItemsOf P Z n)
  K hh (K.keep _ _ wk λb _ o e=>ak _ e) s.heap.objs.size (yg lt.1) (yg lt.2) (.ref s.heap.objs.size) 0 hS
  (λG L Z c' hk Ve ha=>⟨G,L,Z,c',rfl,rfl,λb o e=>hk b o (gn (au e)) (ak _ e),Ve,ha⟩) hn
 unfold collect;refine aa (wpAny_runValue (my PyProof.Rows.entry_proto_collect' ?_));rw[mz PySem.F.plain_proto_collect _];show wpAny _ A.in1 (newList [] >>= λl=>again (.builtin "list.__iadd__" ⟨[l,.ref r],[]⟩)) _ _ s;refine aa (jn (aj ⟨plainId_quiet yc _,my PyProof.Rows.entry_list_iadd' ?_⟩));rw[mz yc _];show wpAny _ A.in1 (Builtin.List.listExtendWith (.ref s.heap.objs.size) (.ref r) (.ref s.heap.objs.size)) _ _ _;refine ik key (λf s' x=>?_) λe s' x=>by obtain⟨_,_,_,_,z,_⟩:=x;cases z
 cases f with
 |done f =>
  obtain⟨G,L,Z,c',e,rfl,hk,Ve,ha⟩:=x;cases e;exact aa (wpAny_load Ve (aj (h G L Z hk (au Ve) ha)))
 |again qk =>
  refine⟨x.1,m9 x.2 λq qv y=>?_⟩;obtain⟨G,L,Z,c',rfl,rfl,hk,Ve,ha⟩:=y;exact aa (wpAny_load Ve (aj (h G L Z hk (au Ve) ha)))
end
set_option tactic.hygienic true in
theorem X7:∀{Z:List (List Kx×Dv)}{is:List ((Int×Int)×Int)},MW.Yl Z=some is->Z.map (λe=>e.1)=is.map λ(e:(Int×Int)×Int)=>([.inl e.1.1,.inl e.1.2]:List Kx)
 |[],_,h=>by cases h;rfl
 |([.inl i,.inl j],.int v)::r,_,h=>by
  obtain⟨G,Y,rfl⟩:=cg.mp (show(MW.Yl r).map (((i,j),v)::·)=some _ from h);rw[du,du,X7 Y]
set_option tactic.hygienic true in
def acv(e:MW.v5 .sorted ds M=.ok d C):∃n Z,∃is:List ((Int×Int)×Int),ds=[.ref n]/\M[n]?=some (.dT Z)/\MW.Yl Z=some is/\is.length<31/\(is.map (·.1)).Nodup/\d=.vl ((MW.Cv (is.map (·.1))).map MW.su)/\C=M:=by
 match ds,e with
 |[x],e =>
  cases x with
  |ref n =>
   simp only[MW.v5,MW.Uy] at e;split at e
   .rename_i Z S
    obtain⟨L,J⟩:=xg e;obtain⟨is,R,Y⟩:=gm.mp L;split at Y
    .rename_i G
     exact⟨n,Z,is,rfl,S,R,G.1,G.2,(gf Y).symm,J⟩
    .cases Y
   .cases e
  |_=>cases e
 |[],e=>cases e|_::_::_,e=>cases e
theorem aar{f:Nat->V}{g:Nat->Value}:∀l:List Nat,(∀i∈l,RelV (f i) (g i))->Vals (l.map f) (l.map g)
 |[],_=>.nil|i::l,h=>.cons (h i bu) (aar l λj Z=>h j (bc _ Z))
theorem aas{K:Fg}{Z:Io}{H:Hp}{f:Nat->Dv}{g:Nat->V}:∀l:List Nat,(∀i∈l,Rep K Z H (f i) (g i))->jw K Z H (l.map f) (l.map g)
 |[],_=>.nil|i::l,h=>.cons (h i bu) (aas l λj G=>h j (bc _ G))
def al6{ps:List (Int×Int)}{p:Array Nat}(r:So.Res ps p)(nd:ps.Nodup):p.toList.map (So.key ps)=MW.Cv ps:=by
 have pe:(p.toList.map (So.key ps)).Perm ps:=by
  have h:=r.1.map (So.key ps);have e:(List.range ps.length).map (So.key ps)=ps:=by
   apply List.ext_getElem?;intro i
   by_cases Z:i<ps.length
   .rw[ir,zy Z];exact(So.Im Z).symm
   .rw[qb (by simpa using Z),qb (by lia)]
  rw[e] at h;exact h
 refine MW.Oz ?_ (MW.Js ps nd) λq=>by rw[MW.Hq];exact pe.mem_iff
 rw[List.pairwise_iff_getElem];intro i j Z hj Qk;have si:=r.1.size;have G:j<ps.length:=by have:=hj;simp at this;lia
 have ei:∀k (R:k<(p.toList.map (So.key ps)).length),(p.toList.map (So.key ps))[k]=So.key ps (So.at' p k):=λk R=>by
  have L:k<p.size:=by simpa using R
  rw[List.getElem_map]
  congr 1
  have:=So.Rm L;rw[<- j0] at this;obtain⟨_,z⟩:=aq.mp this;exact z
 rw[ei,ei];exact(MW.Ws _ _).mp (r.2 i j Qk G)
set_option tactic.hygienic true in
def al7(hc:X.calm=true):Bp X (.builtin "sorted") (rB nm X.K .sorted):=λzv s σ H vs us Q I Uh hh=>by
 obtain⟨ι,M,ds,d,M',S,r,e,q⟩:=hh;obtain⟨n,zw,is,rfl,hn,hk,hl,nd,rfl,rfl⟩:=acv e;obtain⟨v,rfl,h⟩:=La r rfl;cases h with
 |@ref _ p hp =>
  obtain⟨l,h1,h2⟩:=S.obj n _ p hn hp;obtain⟨z,q4,xs,y,o,es,ep,g1,g2,g3,g4,g5⟩:=(show Bb X.prog X.w H s.heap p (.dT l) from I.wk p _ h1);obtain⟨u,rfl,rx⟩:=vals1 Uh;cases rx;have hz:es.size=l.length:=(qd g4).trans y.length.symm;have q0:l.map (·.1)=is.map λ(e:(Int×Int)×Int)=>([.inl e.1.1,.inl e.1.2]:List Kx):=h2.keys.trans (X7 hk)
  have qv:l.length=is.length:=by have:=nq List.length q0;simpa using this
  have J:(is.map (·.1)).length=is.length:=dw _;have key:∀i (Y:i<is.length),(l.map (·.1))[i]?=some [.inl (So.key (is.map (·.1)) i).1,.inl (So.key (is.map (·.1)) i).2]:=λi Y=>by have e1:=So.Im (ps:=is.map (·.1)) (i:=i) (by rw[J];exact Y);rw[ir,gb Y] at e1;rw[q0,ir,gb Y,<- gf e1];rfl
  refine Calls.call_function_entry PyProof.Rows.kind_sorted PyProof.Rows.plain_sorted PyProof.Rows.entry_sorted (PyProof.Rows.args_sorted1 _) ?_;unfold Builtin.«sorted»;refine aa (m:=checkCount "sorted" 1 1 _) (aj ?_);refine aa (aaq (A:=X.A.in1) (al5 g2 g3 q4) (show X.A.in1.handled=none from I.ok.hd hc) g1 (by rw[hz];exact z) λC tk Z kp qk Ir=>?_);have G:Z.toList.length=is.length:=by rw[mq,Ir.1,hz,qv]
  have at_:∀(i:Nat)(u:Value),Z.toList[i]?=some u->∃b:Addr,u=.ref b/\H b=some (.tup [.int (So.key (is.map (·.1)) i).1,.int (So.key (is.map (·.1)) i).2]):=λi u hu=>by
   obtain⟨e0,q1,q2⟩:=Ir.2 i u (by rw[<- j0];exact hu);have il:i<is.length:=by rw[<- G];exact(aq.mp hu).1
   have L:i<l.length:=by rw[qv];exact il
   obtain⟨b,hb,f1,f2,f3⟩:=N6 y (gb L);have:=entry_at g4 i;rw[hb,q1] at this;have ee:=gf this;have ek:=key i il;rw[ir,gb L] at ek;have ek:l[i].1=_:=gf ek;rw[ek] at f2;exact⟨b.2.1,by rw[q2,ee];rfl,f2⟩
  have q7:So.Lr C Z.toList (is.map (·.1)):=⟨by rw[G,J],λi u pr hu R=>by
   obtain⟨b,rfl,hb⟩:=at_ i u hu;have q3:=So.Im (ps:=is.map (·.1)) (i:=i) (aq.mp R).1;rw[R] at q3;rw[<- gf q3] at hb;obtain⟨xf,rv,⟨o,y1,y2,n',y3⟩,_⟩:=I.tuple (Hl.of hb);cases rv with
   |cons ra rv =>
    cases rv with
    |cons rb rv =>
     cases rv;obtain⟨t1,rfl⟩:=ra;obtain⟨t2,rfl⟩:=rb;exact⟨b,o,t1,t2,n',rfl,kp _ _ y1,y2,y3⟩⟩
  have q6:Z.toList.length<=sizeLine:=by rw[G,pq];lia
  refine aa (wpAny_newList ?_ q6);have qq:(C.push { cls:=.type "list",data:=.seq Z.toList.toArray }).get? C.objs.size=some { cls:=.type "list",data:=.seq Z.toList.toArray }:=bw _ rfl;have Qv:∀b o,C.get? b=some o->(C.push { cls:=.type "list",data:=.seq Z.toList.toArray }).get? b=some o:=λb o e=>ak _ e
  refine aa (jc (jx PyProof.Rows.slot_list_sort ⟨_,qq,rfl⟩ PyProof.Rows.entry_list_sort (So.agp (ps:=is.map (·.1)) (n:=0) qq (q7.keep λa o _ e=>Qv a o e) nd (by rw[G];lia) λq5 c pp q8 hD rs=>⟨_,rfl,?_⟩) (PyProof.Rows.args_list_sort _)));have Jf:∀i∈pp.toList,i<is.length:=λi Y=>by have:=rs.1.mem_iff.mp Y;rw[J] at this;exact lg.mp this
  have get:∀i,i<is.length->∃b:Addr,Z.toList.getD i Value.none=.ref b/\H b=some (.tup [.int (So.key (is.map (·.1)) i).1,.int (So.key (is.map (·.1)) i).2]):=λi Y=>at_ i _ (by rw[<- G] at Y;simp at Y ⊢;simp[Y])
  have zk:=I.wk.fresh (zj qk);have ex:∃f:Nat->V,∀i,i<is.length->RelV (f i) (Z.toList.getD i Value.none)/\Rep X.K ι H (MW.su (So.key (is.map (·.1)) i)) (f i) :=
   ⟨λi=>match Z.toList.getD i Value.none with|.ref b=>.ref b|_=>.non,λi Y=>by
    obtain⟨b,e1,e2⟩:=get i Y;simp only[e1];exact⟨rfl,.tup e2 (.cons (.int _) (.cons (.int _) .nil))⟩⟩
  obtain⟨f,hf⟩:=ex;have rl:jw X.K ι H ((MW.Cv (is.map (·.1))).map MW.su) (pp.toList.map f):=by rw[<- al6 rs nd,tu];exact aas _ λi Y=>(hf i (Jf i Y)).2
  obtain⟨S2,zg,r2⟩:=Xw S zk rl;refine aj ⟨_,rfl,.ref C.objs.size,_,I.laid (t':=tk) (λb o e=>q8 b o (gn (au (kp b o e))) (Qv b o (kp b o e))) (zj qk) (show Bb X.prog X.w _ q5 _ (.lst (pp.toList.map f)) from⟨?_,_,c,aar _ λi Y=>(hf i (Jf i Y)).1,hD⟩),rfl,q _ _ _ zg S2 r2⟩;rw[dw,mq,rs.1.size,J,pq];lia
theorem Wd{Z G:Type}(f:Z->G):∀(l:List Z)(i:Nat),(l.map f).eraseIdx i=(l.eraseIdx i).map f
 |[],i=>by simp|a::l,0=>rfl|a::l,i+1=>by rw[du,xq,xq,du,Wd f l i]
theorem erase_filter{G L:Type}[DecidableEq G]{k:G}{p:L}:∀{Z:List (G×L)}{j:Nat},(Z.map (·.1)).Nodup->Z[j]?=some (k,p)->Z.eraseIdx j=Z.filter λx=>!decide (x.1=k)
 |[],j,_,h=>by simp at h
 |x::Z,0,nd,h=>by
  cases h;rw[du,rm] at nd;rw[List.eraseIdx_zero,List.tail_cons,uw (by simp)];refine(List.filter_eq_self.mpr λy hy=>?_).symm;have:¬y.1=k:=λe=>nd.1 (by rw[<- e];exact cu.mpr ⟨y,hy,rfl⟩)
  simp[this]
 |x::Z,j+1,nd,h=>by
  rw[du,rm] at nd;have R:k∈Z.map (·.1):=cu.mpr ⟨(k,p),cj h,rfl⟩;have ne:¬x.1=k:=λe=>nd.1 (by rw[e];exact R)
  rw[xq,erase_filter nd.2 h,ux (by simp[ne])]
section
variable{prog:Program}{w:World}{κ:Type}[DecidableEq κ]{knd:HeapKind prog w κ}{A:Around}{E:Y1}{s:Shared}{d a:Addr}{k:κ}{xs:List (κ×Addr×Value)}
def ag9{Q:Option DictEntry->Shared->Prop}{p:Addr×Value}(hu:knd.room A)(qq:knd.is s.heap k a)(hm:s.heap.DictOfH knd d xs)(hp:(k,p)∈xs)(qv:xs.length<=sizeLine)
 (h:∀h',h'.DictOfH knd d (xs.filter λx=>!decide (x.1=k))->Heap.SameBut d s.heap h'->Q (some (entryOfKey knd (k,p))) { s with heap:=h',toks:=s.toks+knd.draws k }):wpAny (model prog w) A (Builtin.Dict.takeOut d (.ref a)) Q E s:=by
 obtain⟨o,es,ep,ho,hc,G,L,R,hn⟩:=hm;unfold Builtin.Dict.takeOut
 try with_reducible refine jc ?_
 refine aa (knd.pyHash hu qq (aa (wpAny_dictFind_heap (s:={ s with toks:=s.toks+knd.draws k }) hu qq ho G L R hn ?_ ?_)))
 .intro no
  obtain⟨j,Z⟩:=jr.mp hp;exact absurd Z (no j p)
 .intro j p' Z
  have qk:p'=p:=by obtain⟨i,hi⟩:=jr.mp hp;have:=idxH_unique hn Z hi;subst this;rw[hi] at Z;cases Z;rfl
  subst qk;refine aa (gw (s:={ s with toks:=s.toks+knd.draws k }) ho G ?_);rw[entry_at L j,Z];have hz:es.size<=sizeLine:=by rw[qd L];exact qv
  refine aa (wpAny_updateDictKeys (hz:=hz) (s:={ s with toks:=s.toks+knd.draws k }) ho G (aj (h _ ⟨_,_,ep+1,mj _ ho (Obj.isFreed_of_dict (vy G _)),hc.mapDictKeys _,vy G _,?_,λx hx=>?_,?_⟩ (jd ..))) ?_)
  .rw[<- erase_filter hn Z]
   obtain⟨l⟩:=es;have L:l=xs.map (entryOfKey knd):=L;subst L;simp[Wd]
  .exact knd.keeps (R x (uy.mp hx).1) ho G (jd ..)
  .exact(List.Sublist.map _ List.filter_sublist).nodup hn
  .obtain⟨l⟩:=es
   simp only[List.eraseIdxIfInBounds_toArray,fc];exact Nat.le_succ_of_le (List.length_eraseIdx_le _ _)
def aha{p:Addr×Value}:MeetsIn prog w (Builtin.«dict.pop» ⟨[.ref d,.ref a],[]⟩) λA R s=>knd.room A.in1/\knd.is s.heap k a/\s.heap.DictOfH knd d xs/\(k,p)∈xs/\xs.length<=sizeLine /\
 ∀Z tk,Z.DictOfH knd d (xs.filter λx=>!decide (x.1=k))->Heap.SameBut d s.heap Z->R (.ok (.ret p.2)) { s with heap:=Z,toks:=tk }:=by
 refine .of_wp λA R s z=>?_
 obtain⟨hu,L,G,hp,qq,h⟩:=z;unfold Builtin.«dict.pop»;refine aa ?_;unfold Builtin.Dict.keyAndDefault;refine aa (vm G.typeIs ?_);show wpAny _ _ (pure (d,Value.ref a,none)) _ _ s;refine aj ?_;obtain⟨o,es,ep,ho,hc,hd,he,qk,hn⟩:=id G;have Jj:es.isEmpty=false:=by
  have:=qd he;have:=List.length_pos_of_mem hp;simp only[Array.isEmpty,decide_eq_false_iff_not]
  lia
 dsimp only;rw[az (show ¬(keyPart (Value.ref a)).isSome=true from di)];refine aa (gw ho hd (aa (aj ?_)));rw[Jj];simp only[dg,jk];refine aa (ag9 hu L G hp qq λZ dd hs=>?_);simp only[Option.isNone_some,dg,jk];exact aa (wpAny_letGo (aj ⟨_,rfl,h _ _ dd hs⟩))
end
theorem ni.filter{G:Type}[DecidableEq G]{K:Fg}{R:Io}{H:Hp}{k:G}:∀{Z:List (G×Dv)}{l:List (G×V)},ni K R H (λk L=>k=L) Z l->ni K R H (λk L=>k=L) (Z.filter λp=>!decide (p.1=k)) (l.filter λp=>!decide (p.1=k))
 |_,_,.nil=>.nil
 |_,_,.cons (k:=q) hk h t=>by
  subst hk
  by_cases e:q=k
  .rw[uw (by simp[e]),uw (by simp[e])];exact ni.filter t
  .rw[ux (by simp[e]),ux (by simp[e])];exact .cons rfl h (ni.filter t)
theorem KT.filter{H R:Hp}{k:List Key}(Z:∀b L,H b=some (.tup L)->R b=some (.tup L)):∀{l:List (List Key×V)}{xs:List (List Key×Addr×Value)},KT H l xs->KT R (l.filter λp=>!decide (p.1=k)) (xs.filter λp=>!decide (p.1=k))
 |_,_,.nil=>.nil
 |_,_,.cons (a:=a) (b:=b) h t=>by
  obtain⟨G,h2,h3⟩:=h
  by_cases e:a.1=k
  .rw[uw (by simp[e]),uw (by simp[<- G,e])];exact KT.filter Z t
  .rw[ux (by simp[e]),ux (by simp[<- G,e])];exact .cons ⟨G,Z _ _ h2,h3⟩ (KT.filter Z t)
set_option tactic.hygienic true in
def aq1(e:MW.Jg .pop x ds M=.ok d J):∃n k Z q,x=.ref n/\ds=[k]/\M[n]?=some (.dT Z)/\MW.Mx k=some q/\MW.Ft Z q=some d/\J=M.set n (.dT (Z.filter λp=>!decide (p.1=q))):=by
 unfold MW.Jg at e;split at e
 .rename_i h;cases h
 .split at e
  .rename_i Z Y
   split at e
   .rename_i q d' S
    cases e;obtain⟨u,R,G⟩:=gm.mp S;obtain⟨y,C,L⟩:=cg.mp G;cases L;exact⟨_,_,Z,q,rfl,rfl,Y,R,C,rfl⟩
   .cases e
  .cases e
 .rename_i h;cases h
 .cases e
set_option tactic.hygienic true in
def ty_dict{X:Cx}(S:ju nm X.K Z H M)(r:Rep X.K Z H x v)(h:MW.Q3 .pop x M=true):tyV X.K "dict" v H:=by
 cases r with
 |@ref n p hp =>
  have h:(match M[n]? with|some (.dT _)=>true|_=>false)=true:=h;split at h
  .rename_i G
   obtain⟨l,Y,_⟩:=S.obj n _ p G hp;exact .inr (.inr (.inl ⟨rfl,.inr ⟨_,Y⟩⟩))
  .cases h
 |_=>cases h
def a4d(hu:X.A.units+1<cLine):MtR X "dict.pop" (rM nm X.K .pop):=λqv s σ H v vs u us Q I ru Uh hh=>by
 obtain⟨ι,M,x,ds,d,M',S,r,rs,e,_,q⟩:=hh;obtain⟨n,k,qk,k0,rfl,rfl,hM,hk,hl,rfl⟩:=aq1 e;obtain⟨kv,rfl,rk⟩:=La rs rfl;obtain⟨ku,rfl,L⟩:=vals1 Uh;cases r with
 |@ref _ p ha =>
  cases ru;obtain⟨l,h1,h2⟩:=S.obj n _ p hM ha;obtain⟨bb,rfl,hb⟩:=Pn rk hk;cases L;obtain⟨w1,h3,h4⟩:=(h2.look (k:=k0)).1 d hl;obtain⟨z,hd,xs,Z,dd⟩:=Vy I.wk h1;have hz:xs.length<=sizeLine:=by rw[<- Paired.length Z];exact z
  obtain⟨i,R⟩:∃i:Nat,l[i]?=some ((k0,w1):List Key×V):=by
   obtain⟨y,y1,y2⟩:=cg.mp (show(l.find? λkv=>decide (kv.1=k0)).map (·.2)=some w1 from h3);have y3:y.1=k0:=by have:=List.find?_some y1;simpa using this
   obtain⟨i,R⟩:=jr.mp (List.mem_of_find?_eq_some y1);exact⟨i,by rw[R,<- y3,<- y2]⟩
  obtain⟨b,qq,f1,f2,f3⟩:=N6 Z R;have Hn:(k0,b.2)∈xs:=by rw[show(k0,b.2)=b from Prod.ext f1 rfl];exact cj qq
  refine call_meetsIn PySem.F.slot_dict_pop dd.typeIs PySem.F.entry_dict_pop (PySem.F.args_dict_pop_2 _ _) (aha (knd:=tupleKind (jq X.prog X.w)) (p:=b.2)) ⟨uh hu,Kl I.wk hb,dd,Hn,hz,λh' tk G hs=>?_⟩;obtain⟨o,es,ep,hq,g2,g3,g4,_,g5⟩:=G;obtain⟨S2,zg⟩:=S.put (u:=.dT (l.filter λp=>!decide (p.1=k0))) (o:=.dT (qk.filter λp=>!decide (p.1=k0))) hM ha λle=>⟨_,m8,(h2.mono le).filter⟩
  exact⟨w1,_,Xi I (by rw[h1];exact True.intro) hs ⟨o,hq⟩ (show Bb X.prog X.w _ h' p (.dT (l.filter λp=>!decide (p.1=k0))) from⟨dq (List.length_filter_le _ _) z,hd,_,KT.filter (λc ys ec=>by rw[gr (ad6 ec h1 (λz=>nomatch z))];exact ec) Z,o,es,ep,hq,g2,g3,g4,g5⟩),f3,q ι _ _ zg S2 (h4.mono zg)⟩
def rDn(nm:Nm)(K:Fg):R2:=λv u H Q=>∃Z M,∃i j:Nat,∃G L R,ju nm K Z H M/\Rep K Z H (.ref i) v/\Rep K Z H (.ref j) u/\M[i]?=some (.dT G)/\M[j]?=some (.dT L)/\MW.Yl G=some R/\MW.Yl L=some R/\i≠j/\Q (.bl false) H
set_option tactic.hygienic true in
theorem X8:∀{Z:List (List Kx×Dv)}{is:List ((Int×Int)×Int)}{i:Nat}{e:(Int×Int)×Int},MW.Yl Z=some is->is[i]?=some e->Z[i]?=some ([.inl e.1.1,.inl e.1.2],.int e.2)
 |[],_,_,_,h,g=>by cases h;cases g
 |([.inl a,.inl b],.int v)::r,_,i,e,h,g=>by
  obtain⟨G,Y,rfl⟩:=cg.mp (show(MW.Yl r).map (((a,b),v)::·)=some _ from h);cases i with
  |zero=>cases g;rfl|succ i=>exact X8 (i:=i) Y g
def al8:∀{Z:List (List Kx×Dv)}{is:List ((Int×Int)×Int)},MW.Yl Z=some is->Z.length=is.length:=λh=>by have:=nq List.length (X7 h);simpa using this
theorem ni.at{G:Type}{K:Fg}{L:Io}{H:Hp}:∀{Z:List (G×Dv)}{l:List (G×V)}{i:Nat}{k:G}{d:Dv},ni K L H (λk R=>k=R) Z l->Z[i]?=some (k,d)->∃v,l[i]?=some (k,v)/\Rep K L H d v
 |_,_,0,_,_,.cons hk h t,e=>by cases e;subst hk;exact⟨_,rfl,h⟩|_,_,i+1,_,_,.cons hk h t,e=>ni.at (i:=i) t e
set_option tactic.hygienic true in
def ath(hr:xj 8 X.A):Bc X (compareOp .NotEq) (rDn nm X.K):=λy s σ H v u v' u' Q I rv ru hh=>by
 obtain⟨ι,M,i,j,ka,kb,Z,S,rx,ry,h1,h2,h3,h4,ne,q⟩:=hh;cases rx with
 |@ref _ p hp =>
 cases ry with
 |@ref _ p' hp' =>
 cases rv;cases ru;obtain⟨la,a1,a2⟩:=S.obj i _ p h1 hp;obtain⟨lb,b1,b2⟩:=S.obj j _ p' h2 hp';obtain⟨za,na,xa,C,da⟩:=Vy I.wk a1;obtain⟨zb,nb,xb,rb,db⟩:=Vy I.wk b1;have L:xa.length=Z.length:=by rw[<- Paired.length C,<- a2.length,al8 h3]
 have eb:xb.length=Z.length:=by rw[<- Paired.length rb,<- b2.length,al8 h4]
 refine Vb.aqk na nb da db (V3 hr) (L.trans eb.symm) (λx hx=>?_) ⟨.bl false,H,I,rfl,q⟩;obtain⟨m,hm⟩:=jr.mp hx;have hl:m<Z.length:=by rw[<- L];exact(aq.mp hm).1
 have he:Z[m]?=some Z[m]:=gb hl;obtain⟨v1,c1,c2⟩:=a2.at (X8 h3 he);obtain⟨v2,c3,c4⟩:=b2.at (X8 h4 he);cases c2;cases c4;obtain⟨y1,R,d2,_,G⟩:=N6 C c1;obtain⟨Y,d4,d5,_,J⟩:=N6 rb c3;rw[hm] at R;cases R;obtain⟨t1,G⟩:=G;obtain⟨t2,J⟩:=J;obtain⟨_,_,_,_,_,_,_,_,nd⟩:=id db;refine⟨Y.2.1,Y.2.2,?_,?_⟩
 .rw[<- d2]
  have:xb[m]?=some ([.inl Z[m].1.1,.inl Z[m].1.2],(Y.2.1,Y.2.2)):=by rw[d4];exact nq some (Prod.ext d5.symm rfl)
  exact atKey_of_get nd this
 .rw[G,J]
  exact λprog w E Q hq=>wpAny_eqBool_int (by rw[ye];exact hq)
set_option tactic.hygienic true in
def aat{X:Cx}:∀σ H Q,tE nm W X.K (.dne a' b') σ H Q->tOp (rDn nm X.K) (tE nm W X.K a') (tE nm W X.K b') σ H Q:=fun σ H Q hh=>by
 obtain⟨ι,ρ,M,d,M',S,R,e,q⟩:=hh;rw[MW.aoe] at e;obtain⟨x,M1,e1,e⟩:=dj e;obtain⟨y,M2,e2,e⟩:=dj e;have z:∃(i j:Nat)(Z G:List (List Kx×Dv))(Y:List ((Int×Int)×Int)),x=.ref i/\y=.ref j/\M2[i]?=some (.dT Z)/\M2[j]?=some (.dT G)/\MW.Yl Z=some Y/\MW.Yl G=some Y/\i≠j/\d=.bl false/\M'=M2:=by
  cases x with
  |ref i =>
   cases y with
   |ref j =>
    simp only at e;split at e
    .rename_i Z G h1 h2
     split at e
     .rename_i Y ys h3 L
      split at e
      .rename_i C
       obtain⟨rfl,C,_⟩:=C;cases e;exact⟨i,j,Z,G,Y,rfl,rfl,h1,h2,h3,L,C,rfl,rfl⟩
      .cases e
     .cases e
    .cases e
   |_=>cases e
  |_=>cases e
 obtain⟨i,j,Z,G,Y,rfl,rfl,h1,h2,h3,L,C,rfl,rfl⟩:=z;exact two S R e1 e2 λJ H2 v u le S2 _ rv ru=>⟨J,M',i,j,Z,G,Y,S2,rv,ru,h1,h2,h3,L,C,q J H2 _ le S2 (.bl false)⟩
def a4e(hr:xj 8 X.A)(R:PE X a (tE nm W X.K L))(Z:PE X b (tE nm W X.K b'))(G:behindInMarks .NotEq b=false):PE X (.Compare a [.NotEq] [b] pos) (tE nm W X.K (.dne L b')) :=
 PE.weak (aeb (ath hr) R Z G) aat
def a4f(hr:xj 8 X.A)(ha:PE X a (tE nm W X.K Z))(L:PE X b (tE nm W X.K G))(R:behindInMarks .NotEq b=false):PT X (.Compare a [.NotEq] [b] pos) (tQ nm W X.K (.dne Z G)) :=
 agx (t:=tOp (rDn nm X.K) (tE nm W X.K Z) (tE nm W X.K G)) (aec (ath hr) ha L R) aat
def spE(L:Nm)(W:Fd)(K:Fg)(n f:Nat):Sp:=λvs H _ E=>∃G M ds c M',ju L K G H M/\jw K G H ds vs/\ds.length=n/\W.cae f ds M=some (c,M')/\∀C,L.xc c=some C->∀Z R,Le G H Z R->ju L K Z R M'->E (.ref C) none R
def asks(W:Fd)(f:Nat)(Z:List Dv)(M:dh):Option (Option Nat×dh):=match W.cae f (.ref M.length::Z) (M++[.ins 0 []]) with
 |some (c,M2)=>some (some c,M2)
 |none=>match W.call f (.ref M.length::Z) (M++[.ins 0 []]) with
  |.ok .non M2=>some (none,M2)|_=>none
def spK(R:Nm)(W:Fd)(K:Fg)(n f:Nat):Sp:=λvs H Q E=>∃L M ds r M',ju R K L H M/\jw K L H ds vs/\ds.length=n/\asks W f ds M=some (r,M')/\(∀c,r=some c->∀C,R.xc c=some C->∀Z G,Le L H Z G->ju R K Z G M'->E (.ref C) none G)/\(r=none->∀Z G v,Le L H Z G->ju R K Z G M'->Q v G)
structure ahb(nm:Nm)(P:Program)(w:World)(K:Fg)(mg:Zs)(base:Heap)(W:Fd)(k:Nat)(fr:Addr):Prop where
 run:∀(A:Around)(outer:List Env)(s:Shared)(H:Hp)(Q:VK)(fa:Addr)(vs:List V)(n f:Nat),xj (k+4) A->Q8 P w K mg base A outer s H->PySem.W.FnAt fa s.heap->H fa=none->fa∉Gb outer ->
  (∀(A':Around)(Mp:List Env)(s':Shared)(H':Hp)(Q':VK)(E':XK),xj (k+2) A'->Q8 P w K mg base A' Mp s' H'->(∀b o,s.heap.get? b=some o->H b=none->b∉Gb outer->s'.heap.get? b=some o/\H' b=none)->(∀b o u,H b=some (.Hk o u)->H' b=some (.Hk o u)) ->
   spK nm W K n f vs H' Q' E'->codeAny (model P w) A' (.call (.ref fa) ⟨[],[]⟩) (CR (Yp P w) Mp P w H' s' Q' E') s') ->
  (∃ι M ds r M1 d M2,ju nm K ι H M/\jw K ι H ds vs/\ds.length=n/\asks W f ds M=some (r,M1)/\W.rfd r M1=.ok d M2/\∀ι' H' v,Le ι H ι' H'->ju nm K ι' H' M2->Rep K ι' H' d v->Q v H') ->
  codeAny (model P w) A (.call (.ref fr) ⟨[.ref fa],[]⟩) (CR V2 outer P w H s Q E0) s
set_option tactic.hygienic true in
def a4g{X:Cx}(F:Cr X.prog X.w X.K X.mg X.base V2 k fa fd ps (spF nm W X.K n f))(FE:Cr X.prog X.w X.K X.mg X.base (Yp X.prog X.w) k fa fd ps (spE nm W X.K n f))(L:X.ex=[])(u:XOn X EX)(hr:xj k X.A)(hg:Gl X x)(hm:X.mg x=some (.ref fa))(hk:PySem.W.keepIn X.K (.ref fa)=true)(hb:Binds X.K fd ps [])(Y:Cu.len G=n)(ha:PA X (a::J) (Xv nm W X.K G))(K9:(x==("__debug__" : Str))=false)(he:starEach (a::J) X.env=(false,eval a X.env)::starEach J X.env)(Jo:(backTo pos (starEach J X.env)).any (·.1)=false)(hs:swapsWith (.Call (.Name x p) (a::J) [] pos) none pos'.line X.env=pure false) :
 PS X (.Expr (.Call (.Name x p) (a::J) [] pos) pos') (tS nm W X.K EX (.exq f G)):=λZ s σ H D I hh=>by
 obtain⟨ι,ρ,M,fl,qq,M',S,R,e,q⟩:=hh;rw[MW.aif] at e;obtain⟨ds,y,e1,e⟩:=dj e;cases hc:W.cae f ds y with
 |some cM =>
  obtain⟨c,M2⟩:=cM;rw[hc] at e;cases e;refine Xe (aed (E:=EX) FE hr hg hm hk hb .nil (ako L u) ha K9 he Jo) hs Z s σ H D I ?_;refine Xx S R e1 λqk H1 vs le S1 R1 r=>?_
  rw[jm];refine⟨qk,y,ds,c,M',S1,r,(Hu e1).trans Y,hc,λC hC qv H' V5 S'=>?_⟩;exact q qv H' σ (le.trans V5) S' (R1.mono V5) C hC
 |none =>
  rw[hc] at e;obtain⟨d,M2,e2,e⟩:=dj e;refine ald (s_call F hr hg hm hk hb Y ha K9 he Jo) hs Z s σ H D I ⟨ι,ρ,M,fl,qq,M',S,R,?_,q⟩;rw[MW.adk,MW.Yx,e1];show((W.call f ds y).bind _)=_;rw[e2];exact e
def aq2{X:Cx}{L bmN:Zl}{B Bn Z qq G qk:String}{C:Addr}{np Ji pos cp:Pos}{j:Nat}{qv:Str}(Fn:ExcBaseFacts Bn Z qk bmN)(q0:L.contains (.type Bn)=true)(FB:ExcBaseFacts B qq G L)(hc:acf X.K C L Z)(hn:akn X EX)(Dj:X.calm=true)(hg:Gl X x)(hm:X.mg x=some (.ref C))(K9:(x==("__debug__" : Str))=false)(q1:nm.xc c=some C) :
 PS X (.Raise (some (.Call (.Name x np) [.Constant (.str qv) j cp] [] Ji)) none pos) (tS nm W X.K EX (.raise c)) :=
 PS.of (akq Fn q0 FB hc hn Dj hg hm (Np ajr ab5) K9 rfl rfl) λD σ H ι ρ M fl q2 M' S R e q=>by rw[MW.M8] at e;cases e;exact⟨by show 1<=sizeLine;decide,q ι H σ (Le.refl _ _) S R C q1⟩
set_option tactic.hygienic true in
def aq3{nm:Nm}{W:Fd}{X:Cx}{k f:Nat}{C ga:Addr}{fd:FuncData}{ps:Ya}{gx:Str}{p pos:Pos}{e:Expr}{es:Y3}{vs:List V}{Q:VK}{E:XK}{H:Hp}{σ:St}{t:TA}
 (qq:Mk X.K C ga) (F0:Cr X.prog X.w X.K X.mg X.base V2 k ga fd ps (spF nm W X.K 4 f)) (FE:Cr X.prog X.w X.K X.mg X.base (Yp X.prog X.w) k ga fd ps (spE nm W X.K 4 f)) (hb:Binds X.K fd ps []) (qk:nm.cls 0=some C) (hr:xj (k+1) X.A) (hg:Gl X gx) (hm:X.mg gx=some (.ref C)) (K9:(gx==("__debug__" : Str))=false)
 (hp:Passes (Yp X.prog X.w) X E) (ha:PA X (e::es) t) (he:starEach (e::es) X.env=(false,eval e X.env)::starEach es X.env) (Jo:(backTo pos (starEach es X.env)).any (·.1)=false) (ht:∀R:List V->Hp->Prop,R vs H->t σ H R) (sp:spK nm W X.K 3 f vs H Q E) :
 ∃t,PE X (.Call (.Name gx p) (e::es) [] pos) t/\t σ H Q:=by
 obtain⟨ι,M,ds,r,M',S,rl,hl,G,q1,q2⟩:=sp;have mk:∀x Z,H x=none->H Z=none->Z≠x->ju nm X.K (ι.add x) (upd (upd H Z (.own x)) x (.ins C Z [])) (M++[.ins 0 []])/\Le ι H (ι.add x) (upd (upd H Z (.own x)) x (.ins C Z []))/\jw X.K (ι.add x) (upd (upd H Z (.own x)) x (.ins C Z [])) (.ref M.length::ds) (.ref x::vs):=λx Z L Y Jj=>by
  have keep:∀a u,H a=some u->upd (upd H Z (.own x)) x (.ins C Z []) a=some u:=λa u e=>by rw[gr (jt e L),gr (jt e Y)];exact e
  obtain⟨S2,y⟩:=S.new (o:=.ins 0 []) L keep λ_=>⟨C,Z,[],qk,m8,.nil⟩
  exact⟨S2,y,.cons (.ref (by show(ι.l++[x])[M.length]?=some x;rw[<- S.len];simp)) (rl.mono y)⟩
 unfold asks at G;cases hc:W.cae f (.ref M.length::ds) (M++[.ins 0 []]) with
 |some cM =>
  obtain⟨c,M2⟩:=cM;rw[hc] at G;cases G;refine⟨_,aee (E:=E) qq FE hr hg hm hb .nil hp ha K9 he Jo,ht _ λx Z L Y Jj=>?_⟩;obtain⟨S2,y,r2⟩:=mk x Z L Y Jj;rw[jm];exact⟨_,_,_,c,M',S2,r2,by rw[gq,hl],hc,λC hC J H' le S'=>q1 c rfl C hC J H' (y.trans le) S'⟩
 |none =>
  rw[hc] at G;cases hw:W.call f (.ref M.length::ds) (M++[.ins 0 []]) with
  |bad=>rw[hw] at G;cases G
  |ok d M2 =>
   rw[hw] at G;cases d with
   |non =>
    cases G;refine⟨_,aee (E:=E0) qq F0 hr hg hm hb .nil asx ha K9 he Jo,ht _ λx Z L Y Jj=>?_⟩;obtain⟨S2,y,r2⟩:=mk x Z L Y Jj;rw[jm];exact⟨_,_,_,.non,M',S2,r2,by rw[gq,hl],hw,λJ H' v le S' r=>by cases r;exact⟨rfl,q2 rfl J H' _ (y.trans le) S'⟩⟩
   |_=>cases G
set_option tactic.hygienic true in
def a4j{nm:Nm}{W:Fd}{X:Cx}{k f i j l:Nat}{fr ga C c P:Addr}{fd:FuncData}{ps:Ya}{rx gx x y z:Str}{p pf px py pz pb lp pos:Pos}{Y:Scope}
 (RF:ahb nm X.prog X.w X.K X.mg X.base W k fr) (z4:Mk X.K C ga) (F0:Cr X.prog X.w X.K X.mg X.base V2 k ga fd ps (spF nm W X.K 4 f)) (FE:Cr X.prog X.w X.K X.mg X.base (Yp X.prog X.w) k ga fd ps (spE nm W X.K 4 f)) (hb:Binds X.K fd ps []) (z2:nm.cls 0=some C) (uj:X.mg gx=some (.ref C)) (u7:Y.names.lookup gx=some .globalImplicit) (y8:(gx==("__debug__" : Str))=false)
 (hg:Gl X rx) (hm:X.mg rx=some (.ref fr)) (hk:PySem.W.keepIn X.K (.ref fr)=true) (K9:(rx==("__debug__" : Str))=false) (bm:BMain X.mg X.base) (y4:X.env.code=.ref c) (hC:PySem.W.codeHdIn X.K c P=true) (qv:nm.tb=some (P,lp,X.env.qual++"<lambda>"))
 (hi:X.N[i]?=some x) (hj:X.N[j]?=some y) (hl:X.N[l]?=some z) (xy:X.env.scope.names.lookup x=some .cell) (z3:X.env.scope.names.lookup y=some .cell) (j2:X.env.scope.names.lookup z=some .cell) (u6:∀n,X.fn n=true) (LS:Tw [x,y,z] Y) (yk:(x,NameKind.free)∈Y.names) (y0:(y,NameKind.free)∈Y.names) (y9:(z,NameKind.free)∈Y.names) (Cj:∀w∈Y.names,w.2=.free->w.1=x\/w.1=y\/w.1=z)
 (q3:(x==("__debug__" : Str))=false/\(x==("__classdict__" : Str))=false) (q4:(y==("__debug__" : Str))=false/\(y==("__classdict__" : Str))=false) (q1:(z==("__debug__" : Str))=false/\(z==("__classdict__" : Str))=false) (hr:xj (k+16) X.A) :
 PE X (.Call (.Name rx p) [.Lambda noArgs (.Call (.Name gx pf) [.Name x px,.Name y py,.Name z pz] [] pb) Y lp] [] pos) (tE nm W X.K (.ask f (.cons (.var i) (.cons (.var j) (.cons (.var l) .nil))))):=by
 intro xw s σ H Q I hh;obtain⟨ι,ρ,M,d,M',S,R,e,q⟩:=hh;rw[MW.Wm] at e;obtain⟨ds,M1,e1,e⟩:=dj e;have gv:∀{n:Nat}{d1:Dv}{Ma Mb:dh},(Ex.var n).den W ρ Ma=.ok d1 Mb->ρ[n]?=some (some d1)/\Ma=Mb:=fun{n d1 Ma Mb} e=>by
  rw[MW.ade] at e;split at e
  .rename_i w;cases e;exact⟨w,rfl⟩
  .cases e
 rw[MW.Ay] at e1;obtain⟨d1,Ma,ea,e1⟩:=dj e1;obtain⟨x2,Mb,eb,e1⟩:=dj e1;cases e1;rw[MW.Ay] at eb;obtain⟨d2,Mc,ec,eb⟩:=dj eb;obtain⟨x1,Md,ed,eb⟩:=dj eb;cases eb;rw[MW.Ay] at ed;obtain⟨d3,Me,ee,ed⟩:=dj ed;obtain⟨x3,Mf,ef,ed⟩:=dj ed;cases ed;rw[MW.Et] at ef;cases ef;obtain⟨g1,rfl⟩:=gv ea;obtain⟨g2,rfl⟩:=gv ec;obtain⟨g3,rfl⟩:=gv ee;have j3:∃r M5,asks W f [d1,d2,d3] M=some (r,M5)/\W.rfd r M5=.ok d M':=by
  unfold asks;split at e
  .rename_i c0 M5 hc
   exact⟨some c0,M5,by rw[hc],e⟩
  .rename_i hc
   obtain⟨r0,M5,e6,e7⟩:=dj e;cases r0 with
   |non=>exact⟨none,M5,by rw[hc,e6],e7⟩|_=>cases e7
 obtain⟨r0,M5,y3,xv⟩:=j3;obtain⟨v1,yv,r1⟩:=R.get g1;obtain⟨v2,xk,r2⟩:=R.get g2;obtain⟨v3,zv,r3⟩:=R.get g3;obtain⟨m,x4,zk⟩:=I.loc;have Z:∀{n z v},X.N[n]?=some z->σ[n]?=some (some v)->X.env.scope.names.lookup z=some .cell->∃u cz,RelV v u/\X.env.cells.lookup z=some cz/\s.heap.IsCell cz (some u):=fun{n z v} L h2 h3=>by
  obtain⟨u,r,l⟩:=zk n z v L h2 (.inr (.inl h3));rcases l with⟨l,_⟩|⟨_,cz,l1,l2⟩
  .have l:X.env.scope.names.lookup z=some .local:=l
   rw[h3] at l;cases l
  .exact⟨u,cz,r,l1,l2⟩
 obtain⟨u1,cx,z5,lx,ix⟩:=Z hi yv xy;obtain⟨u2,cy,q8,ly,iy⟩:=Z hj xk z3;obtain⟨u3,cz,y7,lz,iz⟩:=Z hl zv j2;have q5:∀z∈Y.names,z.2=.free->∃c,X.env.cells.lookup z.1=some c:=λz hz h=>by
  rcases Cj z hz h with w|w|w<;>rw[w]
  .exact⟨cx,lx⟩
  .exact⟨cy,ly⟩
  .exact⟨cz,lz⟩
 have qq:∀z c,(Bx X.env.cells Y.names []).lookup z=some c->X.env.cells.lookup z=some c:=λz c h=>by
  rcases Tz X.env.cells Y.names [] z c q5 h with w|w
  .cases w
  .exact w
 have Mv:starEach [.Lambda noArgs (.Call (.Name gx pf) [.Name x px,.Name y py,.Name z pz] [] pb) Y lp] X.env=(false,eval (.Lambda noArgs (.Call (.Name gx pf) [.Name x px,.Name y py,.Name z pz] [] pb) Y lp) X.env)::starEach [] X.env:=rfl;refine jj (Ij I hg hm ?_ K9);refine PySem.W.callWith_K (h₀:=X.base) I.ok.mod.kin hk ?_ Mv rfl;rw[Mv];show wpAny _ _ (spliced ((false,eval (.Lambda noArgs (.Call (.Name gx pf) [.Name x px,.Name y py,.Name z pz] [] pb) Y lp) X.env)::backTo pos (starEach [] X.env))) _ _ s;refine ug (aky I bm y4 hC (S.tb _ qv) (Ko q5) rfl λf' c' z9 H' h' tk I' T' kp yy z6 th=>?_);refine Calls.spliced_nil ⟨I'.kIn,?_⟩;obtain⟨y1,zg,_⟩:=S.tb _ qv;have nP:∀b u,H b=some u->(∀ps,u≠.U3 ps)->b≠P:=λb u L h2 z=>by rw[z,show H P=some (.U3 y1) from zg] at L;cases L;exact h2 _ rfl
 have le:Le ι H ι H':=⟨⟨[],by simp,by simp⟩,rfl,λa vs h=>kp a _ (nP a _ h (by intro _ z;cases z)) h,λa o u h=>kp a _ (nP a _ h (by intro _ z;cases z)) h,λa vs _ h=>kp a _ (nP a _ h (by intro _ z;cases z)) h,λa h=>by
  cases z:H a with
  |none=>rfl
  |some u =>
   by_cases w:a=P
   .obtain⟨uu,L,_⟩:=T'
    rw[w,show H' P=some (.U3 uu) from L] at h;cases h
   .rw[kp a u w z] at h;cases h⟩
 have S':ju nm X.K ι H' M:=⟨S.len,S.nd,λa ha=>by
  obtain⟨L,vs,h2⟩:=S.del a ha;exact⟨L,vs,le.lst a vs L h2⟩,λn o a hn ha=>by
  have z:=S.obj n o a hn ha;obtain⟨u,e,mu⟩:=z.some;exact z.move le ((kp a u (nP a u e (by intro ps w;rw[w] at e;rw[e] at mu;exact mu)) e).trans e.symm),λt ht=>by
  rw[qv] at ht;cases ht;exact T'⟩
 have G:=I'.pin (f',_) (fu _ bu);have ajo:∀b,b≠X.env.locals->b∉X.fs->b∉Gb X.stack:=λb L h2 z=>by
  rcases bx.mp (I'.Ii b z) with w|w
  .exact L w
  .exact h2 w
 have zw:∀z c,X.env.cells.lookup z=some c->c∉X.fs:=λz c h w=>by obtain⟨_,o,ho,_⟩:=I'.ok.Ke.mem w;exact absurd (dm (au ho) (I'.ok.cab z c (u6 z) h)) (je _)
 refine wpAny_call (m9 (RF.run X.A X.stack _ H' Q f' [v1,v2,v3] 3 f (hr.mono (by lia)) I'.env0 ⟨_,_,_,_,G.1⟩ G.2.1 (ajo _ G.2.2.1 G.2.2.2.1) (λA' Mp s2 H2 Q2 E2 z0 q2 Qv y5 sp2=>?_) ⟨ι,M,[d1,d2,d3],r0,M5,d,M',S',.cons (r1.mono le) (.cons (r2.mono le) (.cons (r3.mono le) .nil)),rfl,y3,xv,λuk z8 v V5 y6 r=>q uk z8 v (le.trans V5) y6 r⟩) λr s' hq=>?_)
 ·
  obtain⟨o,j1,z1,tq,z7,u4⟩:=yy;have ko:=y5 _ _ _ j1;have kf:=(Qv f' _ G.1 G.2.1 (ajo _ G.2.2.1 G.2.2.2.1)).1;have qk:∀z c v,X.env.cells.lookup z=some c->s.heap.IsCell c v->s2.heap.IsCell c v/\H2 c=none:=λz c v h hc=>by obtain⟨oc,L,h2⟩:=z6 z c h v hc;have:=Qv c oc L (I'.Bw z c h) (ajo c (I'.cne z c h) (zw z c h));exact⟨⟨oc,this.1,h2⟩,this.2⟩
  obtain⟨kx,q6⟩:=Ge X.env.cells Y.names [] x yk;obtain⟨ky,q0⟩:=Ge X.env.cells Y.names [] y y0;obtain⟨kz,q7⟩:=Ge X.env.cells Y.names [] z y9;have ex:kx=cx:=gf ((qq _ _ q6).symm.trans lx);have ey:ky=cy:=gf ((qq _ _ q0).symm.trans ly);have ez:kz=cz:=gf ((qq _ _ q7).symm.trans lz);subst ex ey ez;refine ags (k:=k+1) (N:=[x,y,z]) (vs:=[v1,v2,v3]) q2 z0 ⟨_,_,c',z9,kf,c',o,z1,tq,rfl,(q2.wk _ _ ko).1,z7,u4⟩ LS (λa b c L h2=>I'.ok.inj a b c (qq _ _ L) (qq _ _ h2)) (λz c h=>?_) rfl (λn z h=>?_) (λjv y2=>?_)
  .obtain⟨v,hv⟩:=I.cell z c (qq z c h)
   obtain⟨k1,k2⟩:=qk z c v (qq z c h) hv;exact⟨⟨v,k1⟩,k2⟩
  .match n,h with
   |0,h=>cases h;exact⟨v1,u1,kx,rfl,z5,q6,(qk _ _ _ lx ix).1⟩|1,h=>cases h;exact⟨v2,u2,ky,rfl,q8,q0,(qk _ _ _ ly iy).1⟩|2,h=>cases h;exact⟨v3,u3,kz,rfl,y7,q7,(qk _ _ _ lz iz).1⟩|n+3,h=>simp at h
  .have c1:=aq3 (X:=akz (Yp X.prog X.w) X.prog X.w X.K X.mg X.base [x,y,z] (X.env.qual++"<lambda>") Y f' jv (Bx X.env.cells Y.names []) A' Mp s2 H2 E2) (gx:=gx) (p:=pf) (pos:=pb) (e:=.Name x px) (es:=[.Name y py,.Name z pz]) (σ:=[some v1,some v2,some v3]) z4 F0 FE hb z2 y2 u7 uj y8 (ako rfl (ap1 rfl rfl rfl rfl)) (Np (O6 (i:=0) rfl (LS.vis x (by simp)) q3.1 q3.2) (Np (O6 (i:=1) rfl (LS.vis y (by simp)) q4.1 q4.2) (Np (O6 (i:=2) rfl (LS.vis z (by simp)) q1.1 q1.2) ab5))) rfl rfl (λR hR=>⟨v1,rfl,v2,rfl,v3,rfl,hR⟩) sp2
   exact c1
 .cases r with
  |error e=>exact hq.elim
  |ok fl =>
   cases fl with
   |ret u =>
    obtain⟨v,H3,J,r,z⟩:=I'.after hq;exact⟨v,H3,J.K8 λp hp=>J.pin p (fu _ (bc _ hp)),r,z⟩
   |next=>exact hq.elim|brk=>exact hq.elim|cont=>exact hq.elim
set_option tactic.hygienic true in
def ama{nm:Nm}{W:Fd}{X:Cx}{k n f:Nat}{G:Addr}{vs:List V}{E:XK}{x:Str}{p pos:Pos}{sA:Shared}{HA:Hp}{oA:List Env}(hN:X.N[0]?=some x)(hv:Vis X.env.scope x)(hd:(x==("__debug__" : Str))=false)(Rx:(x==("__classdict__" : Str))=false)(hr:xj (k+2) X.A)(Y:X.ex=[])(qv:XOn X E)(q1:X.s₀=sA)(L:X.H₀=HA)(qq:X.fs=Gb oA)
 (qk:PySem.W.FnAt G sA.heap) (q0:HA G=none) (q2:G∉Gb oA)
 (th:∀(A':Around)(Mp:List Env)(J:Shared)(S:Hp)(Q':VK)(E':XK),xj (k+2) A'->Q8 X.prog X.w X.K X.mg X.base A' Mp J S->(∀b o,sA.heap.get? b=some o->HA b=none->b∉Gb oA->J.heap.get? b=some o/\S b=none)->(∀b o u,HA b=some (.Hk o u)->S b=some (.Hk o u)) ->
  spK nm W X.K n f vs S Q' E'->codeAny (model X.prog X.w) A' (.call (.ref G) ⟨[],[]⟩) (CR (Yp X.prog X.w) Mp X.prog X.w S J Q' E') J) :
 PE X (.Call (.Name x p) [] [] pos) (fun σ H Q=>σ[0]?=some (some (.ref G))/\spK nm W X.K n f vs H Q E):=by
 intro Z s σ H Q I hh;obtain⟨h0,sp⟩:=hh;refine jj (Al (O6 (i:=0) hN hv hd Rx Z s σ H (λv y=>v=.ref G/\spK nm W X.K n f vs y Q E) I ⟨_,h0,rfl,sp⟩) λu s1 z=>?_);obtain⟨v,y,C,r,rfl,sp⟩:=z;cases r;have keep:∀b o,sA.heap.get? b=some o->HA b=none->b∉Gb oA->s1.heap.get? b=some o/\y b=none:=λb o h1 h2 h3=>by rw[<- q1] at h1;rw[<- L] at h2;rw[<- qq] at h3;exact⟨C.base.keep b o h1 h2 h3 (by rw[Y];simp),C.base.free b o h1 h2 (by rw[Y];simp)⟩
 obtain⟨oc,od,fd,sl,e⟩:=qk;refine PySem.W.callWith_F0 ⟨oc,od,fd,sl,(keep _ _ e q0 q2).1⟩ ?_;refine wpAny_call (m9 (th X.A X.stack s1 y Q E hr C.env0 keep (λb o u h=>C.base.Mj b o u (by rw[L];exact h)) sp) λr J R=>?_);cases r with
 |error e=>exact ako Y qv Z σ y s1 e J C R
 |ok fl =>
  cases fl with
  |ret u=>exact C.after R|next=>exact R.elim|brk=>exact R.elim|cont=>exact R.elim
set_option tactic.hygienic true in
def a4l{nm:Nm}{W W':Fd}{P:Program}{w:World}{K:Fg}{mg:Zs}{G:Heap}{k:Nat}{fr B:Addr}{fd:FuncData}{L:Stmt}{xn Y:Str}{y:List Stmt}{rf:MW.Fn}{j1:Nat}{p1 p2 p3 p4 p5 p6 p7 p8 p9 q4 q3 q0:Pos}(U:Fun K xn Y L fr fd)(hb:Binds K fd ["call"] [])
 (Tp:Av L=.Assign [.Name "error" p1] (.Constant .none j1 p2) p3::.Try [.Expr (.Call (.Name "call" p4) [] [] p5) p6] [.ExceptHandler (some (.Name "MapError" p7)) (some "e") [.Assign [.Name "error" p8] (.Name "e" p9) q4] q3] [] [] q0::y)
 (S:Nq ["call", "error", "e", "kinds"] ["call"] (jz L)) (n0:(jz L).names.lookup ("call" : Str)=some .local) (n1:(jz L).names.lookup ("error" : Str)=some .local) (n2:(jz L).names.lookup ("e" : Str)=some .local) (nB:(jz L).names.lookup ("MapError" : Str)=some .globalImplicit)
 (mB:mg "MapError" = some (.ref B)) (q8:∀c C,nm.xc c=some C->Zy K C B=true) (zv:∀c M,W.rfd c M=rf.afs W' c M) (q2:rf.ns=4)
 (q6:∀(J:Value)(A:Around)(Z:List Env)(s:Shared)(H:Hp)(E:XK),xj (k+3) (A.deeper (PyProof.Rows.envOfC Y (jz L) s.heap.objs.size fr J))->Lq (Hi V2 P w K mg G ["call", "error", "e", "kinds"] Y (jz L) fr J A Z s H E).nox y (tSs nm W' K (λ_ _ _=>False) rf.body)) :
 ahb nm P w K mg G W k fr:=by
 refine⟨λA Z s H Q fa vs n f hr e0 q7 zw z0 th hq=>?_⟩;obtain⟨ι,M,ds,r0,M1,d,M2,SM,r,l,hc,qq,q⟩:=hq;have KX:K.In s.heap:=e0.mod.kin.keeps λb o e=>(e0.bs b o e).1
 have bd:=hb s [.ref fa] KX rfl;obtain⟨oc,od,kV,z2,pm,an,J,ct,z1,rfl,lk,Rx⟩:=U.ex;refine awz (k:=k+3) (vs:=[.ref fa]) (us:=[.ref fa]) (E:=E0) lk Rx S rfl hr e0 bd (.cons rfl .nil) (λYm=>?_);rw[Tp];have a1:PS (Hi V2 P w K mg G ["call", "error", "e", "kinds"] Y (jz L) fr J A Z s H E0).nox (.Assign [.Name "error" p1] (.Constant .none j1 p2) p3) (agd (tC .non) (Tn 1)):=Xf ajq (Nk S.nd rfl (.inl n1) (.inr n1));have a2:=ap2 (X:=(Hi V2 P w K mg G ["call", "error", "e", "kinds"] Y (jz L) fr J A Z s H E0).nox) (body:=[.Expr (.Call (.Name "call" p4) [] [] p5) p6]) (b0:=.Assign [.Name "error" p8] (.Name "e" p9) q4) (suite:=[]) (mx := "MapError") (n := "e") (np:=p7) (hp:=q3) (pos:=q0) (B:=B) (i:=2)
  (tb:=λE=>ao9 (ajt (fun σ H Q=>σ[0]?=some (some (.ref fa))/\spK nm W K n f vs H Q E)) ad7) (th:=ao9 (agd (avi 2) (Tn 1)) ad7) rfl ⟨rfl,rfl⟩ S.nd rfl n2 nB mB (by decide)
  (λpn xe E zk=>Kg (Xe (ama (k:=k) (X:=xb (Hi V2 P w K mg G ["call", "error", "e", "kinds"] Y (jz L) fr J A Z s H E0).nox pn xe) (sA:=s) (HA:=H) (oA:=Z) rfl (.inl n0) (by decide) (by decide) (Ym.mono (by lia)) rfl zk rfl rfl rfl q7 zw z0 th)) Rk)
  (λpn e=>Kg (Xf (O6 (i:=2) rfl (.inl n2) (by decide) (by decide)) (Nk S.nd rfl (.inl n1) (.inr n1))) Rk)
 have a3:=q6 J A Z s H E0 Ym;refine⟨_,(Kg a1 (Kg a2 a3)).nox,?_⟩;dsimp only[ao9,agd,tC,Tn,as6,ajt,ad7,avi];rw[zv] at qq;unfold MW.Fn.afs at qq;obtain⟨⟨fl,q1⟩,M3,e1,e2⟩:=dj qq;refine⟨rfl,ι,M,ds,r0,M1,SM,r,l,hc,λc qv C hC R H1 le S1=>⟨C,rfl,q8 c C hC,λe he=>⟨.ref e,rfl,?_⟩⟩,λqv R H1 v le S1=>?_⟩
 .subst qv
  obtain⟨S2,zg⟩:=S1.new (o:=.exc c) (H':=upd H1 e (.ext (XAt e C))) he (λa u z=>by rw[gr (jt z he)];exact z) λ_=>⟨C,m8,hC⟩
  have rp:Rep K (R.add e) (upd H1 e (.ext (XAt e C))) (.ref M1.length) (.ref e):=.ref (by show(R.l++[e])[M1.length]?=some e;rw[<- S1.len];simp);refine⟨R.add e,_,_,fl,q1,M3,S2,?_,e1,λqk H3 q5 Oi S3 R3=>?_⟩
  .rw[q2]
   exact .Xu (.has rp (.Xu (.Xu .nil)))
  .cases fl with
   |ret d'=>cases e2;exact λv rv=>q qk H3 v ((le.trans zg).trans Oi) S3 rv
   |_=>cases e2
 .subst qv
  refine⟨R,_,_,fl,q1,M3,S1,?_,e1,λqk H3 q5 Oi S3 R3=>?_⟩
  .rw[q2]
   exact .Xu (.has .non (.Xu (.Xu .nil)))
  .cases fl with
   |ret d'=>cases e2;exact λv rv=>q qk H3 v (le.trans Oi) S3 rv
   |_=>cases e2
end Sm
namespace Ck
open PySem L2 Sm
open MW (Ex Cu OEx Og Ar qm Lv Tg Res dh MO Fd Cp Op2 Blt Bm Kx Src)
structure Tab where
 fns:List (Option (Str×Nat))
 aq4:List (Str×Int)
 xcs:List (Str×Bool)
 rx:Str
 lp:Pos
 Uv:List Str
 cx:Str
 ci:Nat
noncomputable abbrev aq5:List Value:=[.type "ValueError",.type "Exception",.type "BaseException",.type "object"]
noncomputable def Ku:List Str:=["len", "tuple", "max", "min", "isinstance", "range", "enumerate", "set", "sorted", "dict", "ValueError"]
structure ae3(T:Tab)(nm:Nm)(W:Fd)(k:Nat)(P:Program)(w:World)(K:Fg)(mg:Zs)(base:Heap):Prop where
 fn:∀f x n,T.fns[f]?=some (some (x,n))->∃fa fd ps,Cr P w K mg base V2 k fa fd ps (spF nm W K n f)/\Cr P w K mg base (Yp P w) k fa fd ps (spE nm W K n f)/\mg x=some (.ref fa)/\PySem.W.keepIn K (.ref fa)=true/\Binds K fd ps []
 cs:∀x i,(x,i)∈T.aq4->∃t,mg x=some (.int i t)
 bt:∀x∈Ku,mg x=none
 xr:∀j x,T.xcs[j]?=some (x,true)->∃C,mg x=some (.ref C)/\nm.xc (j+1)=some C/\acf K C aq5 "ValueError.__new__"
 xt:∀j x b,T.xcs[j]?=some (x,b)->∃D,mg x=some (.ref D)/\∀c C,nm.xc c=some C->PySem.W.kitOne K (.ref C) (.ref D)=some (c==j+1)
 xo:∀(j:Nat) x b D,T.xcs[j]?=some (x,b)->mg x=some (.ref D)->PySem.W.kitOne K (.type "NoneType") (.ref D)=some false
 xv:∀c C,nm.xc c=some C->acg K C=true/\PySem.W.kitOne K (.ref C) (.type "ValueError")=some true
 rf:∃fr,ahb nm P w K mg base W k fr/\mg T.rx=some (.ref fr)/\PySem.W.keepIn K (.ref fr)=true
 bm:BMain mg base
 fl:∀f x,T.Uv[f]?=some x->x=nm.fld f/\∀c C,nm.cls c=some C->Cls K C/\Il K C x
 ma:∃C fa fd ps,Mk K C fa/\Cr P w K mg base V2 k fa fd ps (spF nm W K 4 T.ci)/\Cr P w K mg base (Yp P w) k fa fd ps (spE nm W K 4 T.ci)/\mg T.cx=some (.ref C)/\Binds K fd ps []/\nm.cls 0=some C
structure Ctx where
 N:List Str
 sc:List (Str×NameKind)
 fn:Bool
 own:List Str
 lm:Bool
structure Dd(T:Tab)(nm:Nm)(W:Fd)(k:Nat)(c:Ctx)(X:Cx):Prop where
 N:X.N=c.N
 nd:c.N.Nodup
 sc:X.env.scope.names=c.sc
 kd:X.env.scope.kind=.function
 calm:X.calm=true
 room:xj (k+16) X.A
 fnl:c.fn=true->(∀n,X.fn n=true)/\X.ex=[]/\PassesOwn (model X.prog X.w) X.A X.env X.xe
 tab:ae3 T nm W k X.prog X.w X.K X.mg X.base
 ow:∀n,c.own.contains n=true->X.fn n=true
 lam:c.lm=true->∃cc P,X.env.code=.ref cc/\PySem.W.codeHdIn X.K cc P=true/\nm.tb=some (P,T.lp,X.env.qual++"<lambda>")
def axu(K:Fg):PySem.W.kitOne K (.type "NoneType") (.type "ValueError")=some false:=by
 show(if(Value.type "NoneType"==Value.type "ValueError")=true then some true else if PySem.W.kitMeta "ValueError" = true then(fastBuiltinMro "NoneType").map (·.contains (.type "ValueError")) else none)=_
 decide+kernel
noncomputable def Hj(n:Str):Bool:=!(n==("__debug__" : Str))&&(!(n==("__classdict__" : Str))&&!(n==("__name__" : Str)))
noncomputable def ahc(c:Ctx)(n:Str):Bool:=match c.sc.lookup n with|some .local=>true|some .cell=>true|some .free=>true|_=>false
noncomputable def axv(c:Ctx)(n:Str):Bool:=match c.sc.lookup n with|some .local=>true|some .cell=>c.fn||c.own.contains n|_=>false
def Uk(c:Ctx)(n:Str):Bool:=Hj n&&(match c.sc.lookup n with|some .globalImplicit=>true|_=>false)
noncomputable def Ul(c:Ctx)(i:Nat)(n:Str):Bool:=match c.N[i]? with|some m=>m==n|none=>false
def Am:List Expr->Bool
 |[]=>true|e::r=>noStar e&&Am r
noncomputable def amb:Expr->Bool
 |.Name ..=>true|.Attribute ..=>true|.Subscript ..=>true|.Call (.Attribute ..) ..=>true|_=>false
def nu(h:Hj n=true):(n==("__debug__" : Str))=false/\(n==("__classdict__" : Str))=false/\n≠"__name__" := by simp only[Hj,ao,uv] at h;exact⟨h.1,h.2.1,λz=>by have:=h.2.2;rw[z] at this;simp at this⟩
set_option tactic.hygienic true in
def axw(h:Dd T nm W k c X)(Z:ahc c n=true):Vis X.env.scope n:=by unfold Vis;rw[h.sc];unfold ahc at Z;split at Z<;>rename_i e<;>first|exact .inl e|exact .inr (.inl e)|exact .inr (.inr e)|cases Z
set_option tactic.hygienic true in
def axx(h:Dd T nm W k c X)(Z:axv c n=true):L2.Loc X.env.scope n/\(X.fn n=true\/X.env.scope.names.lookup n=some .local):=by
 unfold L2.Loc;rw[h.sc];unfold axv at Z;split at Z
 .rename_i e;exact⟨.inl e,.inr e⟩
 .rename_i e;rcases(Ag _ _).mp Z with z|z
  .exact⟨.inr e,.inl ((h.fnl z).1 n)⟩
  .exact⟨.inr e,.inl (h.ow n z)⟩
 .cases Z
set_option tactic.hygienic true in
def Cz(h:Dd T nm W k c X)(Z:Uk c n=true):Gl X n/\Hj n=true:=by
 unfold Uk at Z;rw[ao] at Z;refine⟨?_,Z.1⟩;have Z:=Z.2;unfold Gl Env.kindOf;rw[h.sc];split at Z
 .rename_i e;exact e
 .cases Z
set_option tactic.hygienic true in
def slot_of(h:Dd T nm W k c X)(Z:Ul c i n=true):X.N[i]?=some n:=by
 rw[h.N];unfold Ul at Z;split at Z
 .rename_i m e;rw[e,eq_of_beq Z]
 .cases Z
theorem Um{Z:Env}:∀{G:Y3},Am G=true->starEach G Z=G.map λe=>(false,eval e Z)
 |[],_=>rfl
 |e::r,h=>by
  simp only[Am,ao] at h;rw[ou h.1,Um h.2];rfl
def zp(h:Am Z=true):(backTo pos (starEach Z env)).any (·.1)=false:=by rw[Um h];simp[backTo]
def acx(h:Am Z=true):(backTo pos (starEach Z env)).all (λx=>!x.1)=true:=by rw[Um h];simp[backTo]
set_option tactic.hygienic true in
def Ip(h:amb o=true):attributeBase o n env (eval o env)=eval o env:=by
 cases o<;>try first|rfl|(cases h;done)
 rename_i f Y Z p;cases f<;>first|rfl|(cases h)
noncomputable def An{Z:Type}(o:Option Z)(f:Z->Bool):Bool:=match o with|some x=>f x|none=>false
def ie(h:An o f=true):∃x,o=some x/\f x=true:=by
 cases o with
 |none=>cases h|some x=>exact⟨x,rfl,h⟩
noncomputable def Iz{α:Type}(l:List α):Option α:=match l with|[x]=>some x|_=>none
def yt(h:Iz l=some x):l=[x]:=by
 cases l with
 |nil=>cases h
 |cons y r=>cases r with
  |nil=>cases h;rfl|cons _ _=>cases h
def Qw{Z:Type}{P:Z->Prop}{o:Option {x // P x}}{q:Z}(h:o.map Subtype.val=some q):P q:=by
 cases o with
 |none=>cases h|some x=>cases h;exact x.2
noncomputable def Kv(a:Expr):Option Str:=Option.map Subtype.val (α:={q:Str // ∃p,a=.Name q p}) (match a with|.Name n p=>some ⟨n,p,rfl⟩|_=>none)
noncomputable def ahd(a:Expr):Option Const:=Option.map Subtype.val (α:={q:Const // ∃k p,a=.Constant q k p}) (match a with|.Constant n k p=>some ⟨n,k,p,rfl⟩|_=>none)
noncomputable def a4r(a:Expr):Option (Expr×Operator×Expr):=Option.map Subtype.val (α:={q:Expr×Operator×Expr // ∃p,a=.BinOp q.1 q.2.1 q.2.2 p}) (match a with|.BinOp l o r p=>some ⟨(l,o,r),p,rfl⟩|_=>none)
noncomputable def dUn(a:Expr):Option (UnaryOp×Expr):=Option.map Subtype.val (α:={q:UnaryOp×Expr // ∃p,a=.UnaryOp q.1 q.2 p}) (match a with|.UnaryOp o l p=>some ⟨(o,l),p,rfl⟩|_=>none)
noncomputable def ahe(a:Expr):Option (Expr×List CmpOp×List Expr):=Option.map Subtype.val (α:={q:Expr×List CmpOp×List Expr // ∃p,a=.Compare q.1 q.2.1 q.2.2 p}) (match a with|.Compare l o r p=>some ⟨(l,o,r),p,rfl⟩|_=>none)
noncomputable def atj(a:Expr):Option (BoolOp×List Expr×Pos):=Option.map Subtype.val (α:={q:BoolOp×List Expr×Pos // a=.BoolOp q.1 q.2.1 q.2.2}) (match a with|.BoolOp o l p=>some ⟨(o,l,p),rfl⟩|_=>none)
noncomputable def axy(a:Expr):Option (Expr×Expr×Expr):=Option.map Subtype.val (α:={q:Expr×Expr×Expr // ∃p,a=.IfExp q.1 q.2.1 q.2.2 p}) (match a with|.IfExp t l r p=>some ⟨(t,l,r),p,rfl⟩|_=>none)
noncomputable def amc(a:Expr):Option (List Expr):=Option.map Subtype.val (α:={q:List Expr // ∃k p,a=.Tuple q k p}) (match a with|.Tuple l k p=>some ⟨l,k,p,rfl⟩|_=>none)
noncomputable def axz(a:Expr):Option (List Expr):=Option.map Subtype.val (α:={q:List Expr // ∃p,a=.List q p}) (match a with|.List l p=>some ⟨l,p,rfl⟩|_=>none)
noncomputable def a4s(a:Expr):Option (List (Option Expr)×List Expr):=Option.map Subtype.val (α:={q:List (Option Expr)×List Expr // ∃p,a=.Dict q.1 q.2 p}) (match a with|.Dict k v p=>some ⟨(k,v),p,rfl⟩|_=>none)
noncomputable def amd(a:Expr):Option (Expr×Expr):=Option.map Subtype.val (α:={q:Expr×Expr // ∃p,a=.Subscript q.1 q.2 p}) (match a with|.Subscript l r p=>some ⟨(l,r),p,rfl⟩|_=>none)
noncomputable def dSl(a:Expr):Option (Option Expr×Option Expr×Option Expr):=Option.map Subtype.val (α:={q:Option Expr×Option Expr×Option Expr // ∃p,a=.Slice q.1 q.2.1 q.2.2 p}) (match a with|.Slice l r s p=>some ⟨(l,r,s),p,rfl⟩|_=>none)
noncomputable def ame(a:Expr):Option (Expr×List Expr×List Keyword×Pos):=Option.map Subtype.val (α:={q:Expr×List Expr×List Keyword×Pos // a=.Call q.1 q.2.1 q.2.2.1 q.2.2.2}) (match a with|.Call f l k p=>some ⟨(f,l,k,p),rfl⟩|_=>none)
noncomputable def aq6(a:Expr):Option (Expr×Str×Pos):=Option.map Subtype.val (α:={q:Expr×Str×Pos // a=.Attribute q.1 q.2.1 q.2.2}) (match a with|.Attribute l n p=>some ⟨(l,n,p),rfl⟩|_=>none)
noncomputable def a4t(a:Expr):Option (Arguments×Expr×Scope×Pos):=Option.map Subtype.val (α:={q:Arguments×Expr×Scope×Pos // a=.Lambda q.1 q.2.1 q.2.2.1 q.2.2.2}) (match a with|.Lambda l e s p=>some ⟨(l,e,s,p),rfl⟩|_=>none)
noncomputable def aau(a:Expr):Option (Expr×List Comprehension×Scope):=Option.map Subtype.val (α:={q:Expr×List Comprehension×Scope // ∃p,a=.ListComp q.1 q.2.1 q.2.2 p}) (match a with|.ListComp e g s p=>some ⟨(e,g,s),p,rfl⟩|_=>none)
def De(h:Kv a=some n):∃p,a=.Name n p:=(Qw h :)
def N7(h:ahd a=some n):∃k p,a=.Constant n k p:=(Qw h :)
def aq7(h:a4r a=some (l,o,r)):∃p,a=.BinOp l o r p:=(Qw h :)
def amf(h:dUn a=some (o,l)):∃p,a=.UnaryOp o l p:=(Qw h :)
def N8(h:ahe a=some (l,o,r)):∃p,a=.Compare l o r p:=(Qw h :)
def amg(h:atj a=some (o,r,p)):a=.BoolOp o r p:=(Qw h :)
def aq8(h:axy a=some (t,l,r)):∃p,a=.IfExp t l r p:=(Qw h :)
def Rq(h:amc a=some l):∃k p,a=.Tuple l k p:=(Qw h :)
def ae4(h:axz a=some l):∃p,a=.List l p:=(Qw h :)
def aq9(h:a4s a=some (k,l)):∃p,a=.Dict k l p:=(Qw h :)
def Yc(h:amd a=some (l,r)):∃p,a=.Subscript l r p:=(Qw h :)
def ax0(h:dSl a=some (l,r,s)):∃p,a=.Slice l r s p:=(Qw h :)
def aav(h:ame a=some (f,l,k,p)):a=.Call f l k p:=(Qw h :)
def ae5(h:aq6 a=some (l,n,p)):a=.Attribute l n p:=(Qw h :)
def ara(h:a4t a=some (l,e,s,p)):a=.Lambda l e s p:=(Qw h :)
def Uo(h:aau a=some (e,g,s)):∃p,a=.ListComp e g s p:=(Qw h :)
def dCN(a:Expr):Option (Str×List Expr):=(ame a).bind λq=>if q.2.2.1.isEmpty then(Kv q.1).map λn=>(n,q.2.1) else none
set_option tactic.hygienic true in
def Eh(h:dCN a=some (n,l)):∃p p',a=.Call (.Name n p) l [] p':=by
 obtain⟨⟨f,L,k,p⟩,C,Z⟩:=gm.mp h;split at Z
 .rename_i Y
  obtain⟨R,G,J⟩:=cg.mp Z;obtain⟨p',e⟩:=De G;have e:f=_:=e;have Y:k=[]:=o7.mp Y;cases J;exact⟨p',p,by rw[aav C,e,Y]⟩
 .cases Z
def dCA(a:Expr):Option (Expr×Str×Pos×List Expr×Pos):=(ame a).bind λq=>if q.2.2.1.isEmpty then(aq6 q.1).map λn=>(n.1,n.2.1,n.2.2,q.2.1,q.2.2.2) else none
set_option tactic.hygienic true in
def ax1(h:dCA a=some (o,n,J,l,p)):a=.Call (.Attribute o n J) l [] p:=by
 obtain⟨⟨f,S,k,u⟩,R,Z⟩:=gm.mp h;split at Z
 .rename_i Y
  obtain⟨⟨y,n',G⟩,C,L⟩:=cg.mp Z;have e:f=_:=ae5 C;have Y:k=[]:=o7.mp Y;cases L;rw[aav R,e,Y]
 .cases Z
noncomputable def a4u(l:Y3):List Str:=l.filterMap Kv
noncomputable def Df(e:Expr):List Str:=match amc e with|some l=>a4u l|none=>a4u [e]
noncomputable def hid(i:Nat):Str:=⟨#[0,i]⟩
def ahf(Z:Ya)(p:Str×Nat):Str:=if Z.contains p.1=true then hid p.2 else p.1
noncomputable def Rb(N Z:Ya):List Str:=N.zipIdx.map (ahf Z)++Z
noncomputable def arb(c:Ctx)(Z:Yf):List (Str×NameKind):=Z.map λy=>if(y.2==NameKind.free&&c.sc.lookup y.1==some .cell) then(y.1,NameKind.cell) else(y.1,y.2)
def aaw(c:Ctx)(Z:Scope)(G:Ya):Ctx:=⟨Rb c.N G,arb c Z.names,false,(Z.names.filter λy=>y.2==NameKind.cell).map (·.1),false⟩
def ax2(c:Ctx)(Z:Scope)(G:Ya):Bool :=
 decide (Z.kind=.function)&&(Z.names.all (λy=>Z.names.lookup y.1==some y.2) &&
 (Z.names.all (λy=>!(y.2==NameKind.free)||(c.sc.lookup y.1==some .cell||c.sc.lookup y.1==some .free))&&(decide ((Rb c.N G).Nodup) &&
 c.N.zipIdx.all (λp=>!(ahc (aaw c Z G) (ahf G p))||(ahf G p==p.1&&Z.names.lookup (ahf G p)==some .free)))))
noncomputable def a4v:Op2->Operator
 |.add=>.Add|.sub=>.Sub|.mul=>.Mult|.fdiv=>.FloorDiv|.mod=>.Mod|.pow=>.Pow
noncomputable def acz:Cp->Option CmpOp
 |.eq=>some .Eq|.ne=>some .NotEq|.lt=>some .Lt|.le=>some .LtE|.gt=>some .Gt|.ge=>some .GtE|.inn=>some .In|.Qc=>some .NotIn
 |.is=>some .Is|.ac8=>some .IsNot
noncomputable def ax3:Blt->Option Str
 |.len=>some "len"|.tuple=>some "tuple"|.dict=>some "dict"|.max=>some "max"|.min=>some "min"|.sorted=>some "sorted"
 |_=>none
noncomputable def bmN:Bm->Option Str
 |.append=>some "append"|.index=>some "index"|.pop=>some "pop"
def ax4(T:Tab)(c:Ctx)(d:MW.D)(a:Expr):Bool :=
 match d with
 |.int i=>An (ahd a) (λk=>decide (k=.int i))||An (Kv a) λn=>Uk c n&&T.aq4.contains (n,i)
 |.bl i=>An (ahd a) λk=>decide (k=.bool i)
 |.non=>An (ahd a) λk=>decide (k=.none)
 |.str s=>An (ahd a) λk=>decide (k=.str s)
 |_=>false
def tg1(c:Ctx)(Z i:Nat)(e:Expr):Bool:=An (Kv e) λn=>Ul c i n&&(axv c n&&decide (Z<=i))
def ahg(c:Ctx)(Z:Nat):List Nat->List Expr->Bool
 |[],[]=>true|i::is,e::ts=>tg1 c Z i e&&ahg c Z is ts|_,_=>false
def tgB(c:Ctx)(Z:Nat)(t:Tg)(e:Expr):Bool :=
 match t with
 |.name i=>tg1 c Z i e|.names is=>An (amc e) λG=>ahg c Z is G
def Oa(e:Expr):Bool:=(axy e).isNone
noncomputable def fnB(l:List (Option (Str×Nat)))(f:Nat)(n:Str)(k:Nat):Bool:=decide (l[f]?=some (some (n,k)))
noncomputable def flB(l:Ya)(f:Nat)(n:Str):Bool:=decide (l[f]?=some n)
def ae6(c:Ctx)(k:Nat)(t:Tg)(g:Comprehension)(Z:Scope):Bool :=
 ax2 c Z (Df g.target)&&((k==(Df g.target).length)&&(tgB (aaw c Z (Df g.target)) c.N.length t g.target&&(Er g.iter&&decide (g.is_async=0))))
def amh(o:BoolOp)(a:Expr)(x y:Expr->Bool):Bool :=
 An (atj a) λq=>decide (q.1=o)&&(match q.2.1 with
  |l::r::rest=>(Oa l&&x l)&&(match rest with|[]=>Oa r&&y r|_::_=>y (.BoolOp o (r::rest) q.2.2))
  | _=>false)
def ax5(c:Ctx)(G:Str)(a:Expr)(f:Expr->Bool):Bool:=An (dCN a) λq=>match q.2 with
 |[l,t]=>An (Kv t) λZ=>(decide (q.1 = "isinstance")&&decide (Z=G))&&((Uk c q.1&&Uk c Z)&&(noStar l&&f l))
 |_=>false
def arc(h:ax5 c ty a f=true):∃l p R Z,a=.Call (.Name "isinstance" p) [l,.Name ty R] [] Z/\Uk c "isinstance" = true/\Uk c ty=true/\noStar l=true/\f l=true:=by
 obtain⟨⟨n,ls⟩,G,h0⟩:=ie h;clear h;obtain⟨p,p',rfl⟩:=Eh G
 match ls,G,h0 with
 |[l,t],G,h =>
  replace h:=ie (f:=λL=>(decide (n = "isinstance")&&decide (L=ty))&&((Uk c n&&Uk c L)&&(noStar l&&f l))) h;obtain⟨L,h2,h⟩:=h;obtain⟨Z,rfl⟩:=De h2;simp only[ao,bz] at h;obtain⟨⟨rfl,rfl⟩,⟨h3,h4⟩,h5,h6⟩:=h;exact⟨l,p,Z,p',rfl,h3,h4,h5,h6⟩
 |[],_,h=>cases h|[_],_,h=>cases h|_::_::_::_,_,h=>cases h
def a4w(c:Ctx)(Z G:Str)(a:Expr)(f:Expr->Bool):Bool:=An (dCN a) λq=>An (Iz q.2) λr=>An (dCN r) λu=>An (Iz u.2) λl=>((decide (q.1=Z)&&decide (u.1=G))&&(Uk c q.1&&Uk c u.1))&&(noStar l&&f l)
def ard(h:a4w c ty G a f=true):∃l p L Z R,a=.Call (.Name ty p) [.Call (.Name G L) [l] [] Z] [] R/\Uk c ty=true/\Uk c G=true/\noStar l=true/\f l=true:=by replace h:=ie h;obtain⟨⟨n,ls⟩,h1,h⟩:=h;obtain⟨p,p',rfl⟩:=Eh h1;replace h:=ie h;obtain⟨r,h2,h⟩:=h;cases yt h2;replace h:=ie h;obtain⟨⟨m,ms⟩,h3,h⟩:=h;obtain⟨Z,q2,rfl⟩:=Eh h3;replace h:=ie h;obtain⟨l,h4,h⟩:=h;cases yt h4;simp only[ao,bz] at h;obtain⟨⟨⟨rfl,rfl⟩,h5,h6⟩,h7,h8⟩:=h;exact⟨l,p,Z,q2,p',rfl,h5,h6,h7,h8⟩
noncomputable def xnO(T:Tab)(k:Nat):Option Str:=match k with|0=>some "ValueError"|k+1=>(T.xcs[k]?).map (·.1)
noncomputable def noA(a:Arguments):Bool:=(a.posonlyargs.isEmpty&&(a.args.isEmpty&&a.vararg.isNone))&&((a.kwonlyargs.isEmpty&&a.kw_defaults.isEmpty)&&(a.kwarg.isNone&&a.defaults.isEmpty))
def ax6(h:noA a=true):a=noArgs:=by obtain⟨a1,L,a3,R,a5,G,Z⟩:=a;simp only[noA,ao,o7,Option.isNone_iff_eq_none] at h;obtain⟨⟨rfl,rfl,rfl⟩,⟨rfl,rfl⟩,rfl,rfl⟩:=h;rfl
noncomputable def thr{Z:Type}(l:List Z):Option (Z×Z×Z):=match l with|[x,y,z]=>some (x,y,z)|_=>none
def ac0(h:thr l=some (x,y,z)):l=[x,y,z]:=by
 match l,h with
 |[_,_,_],h=>cases h;rfl|[],h=>cases h|[_],h=>cases h|[_,_],h=>cases h|_::_::_::_::_,h=>cases h
noncomputable def dV(e:Ex):Option Nat:=Option.map Subtype.val (α:={i:Nat // e=.var i}) (match e with|.var i=>some ⟨i,rfl⟩|_=>none)
def ami(h:dV e=some i):e=.var i:=(Qw h :)
noncomputable def a4x(l:Cu):Option (Ex×Ex×Ex):=match l with|.cons x (.cons y (.cons z .nil))=>some (x,y,z)|_=>none
def arf(h:a4x l=some (x,y,z)):l=.cons x (.cons y (.cons z .nil)):=by
 match l,h with
 |.cons _ (.cons _ (.cons _ .nil)),h=>cases h;rfl|.nil,h=>cases h|.cons _ .nil,h=>cases h|.cons _ (.cons _ .nil),h=>cases h|.cons _ (.cons _ (.cons _ (.cons _ _))),h=>cases h
def ax7(x y z g:Str)(Z:Scope):Bool :=
 (decide (Z.kind=.function)&&(!Z.isCoroutine&&(!Z.isGenerator&&decide ([x,y,z].Nodup))))&&((Z.names.all (λq=>!(q.2==NameKind.cell)&&!(q.2==NameKind.local))&&Z.names.all (λq=>!(q.2==NameKind.free)||(q.1==x||(q.1==y||q.1==z)))) &&
 ((Z.names.lookup x==some NameKind.free&&(Z.names.lookup y==some NameKind.free&&Z.names.lookup z==some NameKind.free))&&(Z.names.lookup g==some NameKind.globalImplicit&&Hj g)))
def arh(h:ax7 x y z g sc=true):Tw [x,y,z] sc/\(x,NameKind.free)∈sc.names/\(y,NameKind.free)∈sc.names/\(z,NameKind.free)∈sc.names/\(∀q∈sc.names,q.2=.free->q.1=x\/q.1=y\/q.1=z)/\sc.names.lookup g=some .globalImplicit/\Hj g=true:=by
 simp only[ax7,ao,bz,uv,ji] at h;obtain⟨⟨h1,h2,h3,h4⟩,⟨h5,h6⟩,⟨G,Z,L⟩,h9,R⟩:=h;have G:=eq_of_beq G;have Z:=eq_of_beq Z;have L:=eq_of_beq L;have fr:∀q∈sc.names,q.2=.free->q.1=x\/q.1=y\/q.1=z:=λq m e=>by have:=h6 q m;rw[e] at this;simpa using this
 have nl:∀q,(q,NameKind.local)∉sc.names:=λq m=>by have:=(h5 _ m).2;simp at this
 have nc:∀q,(q,NameKind.cell)∉sc.names:=λq m=>by have:=(h5 _ m).1;simp at this
 refine⟨⟨h1,h2,h3,h4,λq v=>?_,λq m=>?_,λq m e=>nc q.1 (e▸m)⟩,L2.mem_of_lookup G,L2.mem_of_lookup Z,L2.mem_of_lookup L,fr,eq_of_beq h9,R⟩
 .rcases v with e|e|e
  .exact absurd (L2.mem_of_lookup e) (nl q)
  .exact absurd (L2.mem_of_lookup e) (nc q)
  .exact⟨by have:=fr _ (L2.mem_of_lookup e) rfl;simpa using this,e⟩
 .have m:q=x\/q=y\/q=z:=by simpa using m
  rcases m with e|e|e<;>rw[e]
  .exact .inr (.inr G)
  .exact .inr (.inr Z)
  .exact .inr (.inr L)
def rfB(T:Tab)(c:Ctx)(f:Nat)(G:Cu)(a:Expr):Bool:=An (a4x G) λe=>An (dV e.1) λi=>An (dV e.2.1) λj=>An (dV e.2.2) λl=>An (dCN a) λq=>An (Iz q.2) λL=>An (a4t L) λm=>An (dCN m.2.1) λu=>An (thr u.2) λZ=>An (Kv Z.1) λx=>An (Kv Z.2.1) λy=>An (Kv Z.2.2) λz =>
 (((c.lm&&c.fn)&&(decide (q.1=T.rx)&&Uk c q.1))&&(noA m.1&&decide (m.2.2.2=T.lp)))&&(((Ul c i x&&(Ul c j y&&Ul c l z))&&(c.sc.lookup x==some NameKind.cell&&(c.sc.lookup y==some NameKind.cell&&c.sc.lookup z==some NameKind.cell)))&&((Hj x&&(Hj y&&Hj z))&&((decide (u.1=T.cx)&&decide (f=T.ci))&&ax7 x y z u.1 m.2.2.1)))
mutual
def yx(T:Tab):Ex->Ctx->Expr->Bool
 |.var i,c,a=>An (Kv a) λn=>Ul c i n&&(ahc c n&&Hj n)
 |.cst d,c,a=>ax4 T c d a|.bin op x y,c,a=>An (a4r a) λq=>decide (q.2.1=a4v op)&&(yx T x c q.1&&yx T y c q.2.2)
 |.neg x,c,a=>An (dUn a) λq=>decide (q.1=.USub)&&yx T x c q.2
 |.cmp op x y,c,a=>An (ahe a) λq=>An (Iz q.2.1) λo=>An (Iz q.2.2) λr=>decide (acz op=some o)&&(Er r&&(yx T x c q.1&&yx T y c r))
 |.chain o1 o2 x y z,c,a=>An (ahe a) λq=>match q.2.1,q.2.2 with
  |[p1,p2],[r,s]=>(decide (acz o1=some p1)&&decide (acz o2=some p2))&&(Er s&&(yx T x c q.1&&(yx T y c r&&yx T z c s)))|_,_=>false
 |.Hx o1 o2 o3 x y z w,c,a=>An (ahe a) λq=>An (thr q.2.1) λo=>An (thr q.2.2) λr=>(decide (acz o1=some o.1)&&(decide (acz o2=some o.2.1)&&decide (acz o3=some o.2.2)))&&(Er r.2.2&&((yx T x c q.1&&yx T y c r.1)&&(yx T z c r.2.1&&yx T w c r.2.2)))
 |.R8 x y,c,a=>An (ahe a) λq=>An (Iz q.2.1) λo=>An (Iz q.2.2) λr=>An (dCN q.1) λu=>An (dCN r) λv=>An (Iz u.2) λl=>An (Iz v.2) λm =>
  ((decide (o=.NotEq)&&decide (u.1 = "set"))&&(decide (v.1 = "set")&&Uk c u.1))&&((noStar l&&noStar m)&&(yx T x c l&&yx T y c m))
 |.dne x y,c,a=>An (ahe a) λq=>An (Iz q.2.1) λo=>An (Iz q.2.2) λr=>decide (o=.NotEq)&&(Er r&&(yx T x c q.1&&yx T y c r))
 |.and x y,c,a=>amh .And a (yx T x c) (yx T y c)|.or x y,c,a=>amh .Or a (yx T x c) (yx T y c)|.not x,c,a=>An (dUn a) λq=>decide (q.1=.Not)&&(Oa q.2&&yx T x c q.2)
 |.ite t x y,c,a=>An (axy a) λq=>Oa q.1&&(yx T t c q.1&&(yx T x c q.2.1&&yx T y c q.2.2))
 |.tup es,c,a=>An (amc a) λl=>decide (Cu.len es<=1000)&&Kw T es c l
 |.lst es,c,a=>An (axz a) λl=>decide (Cu.len es<=1000)&&Kw T es c l
 |.Dg es,c,a=>An (axz a) λl=>decide (Cu.len es<=1000)&&Kw T es c l
 |.afo,_,a=>An (a4s a) λq=>q.1.isEmpty&&q.2.isEmpty
 |.ix x y,c,a=>An (amd a) λq=>Xy q.2&&(yx T x c q.1&&yx T y c q.2)
 |.cut x lo hi,c,a=>An (amd a) λq=>An (dSl q.2) λs=>s.2.2.isNone&&(yx T x c q.1&&(ax8 T lo c s.1&&ax8 T hi c s.2.1))
 |.call f es,c,a=>An (dCN a) λq=>(fnB T.fns f q.1 (Cu.len es)&&(Uk c q.1&&!q.2.isEmpty))&&Kw T es c q.2
 |.ask f es,c,a=>rfB T c f es a|.blt (.isE k) (.cons x .nil),c,a=>An (xnO T k) λn=>ax5 c n a (yx T x c)
 |.blt b es,c,a=>An (dCN a) λq=>(decide (ax3 b=some q.1)&&(Uk c q.1&&!q.2.isEmpty))&&Kw T es c q.2
 |.bm m o es,c,a=>An (dCA a) λq=>((decide (bmN m=some q.2.1)&&amb q.1)&&(decide (q.2.2.2.1.length<29)&&((q.2.2.1.endLine==q.2.2.2.2.line)&&!q.2.2.2.1.isEmpty)))&&(yx T o c q.1&&Kw T es c q.2.2.2.1)
 |.comp v k t it e,c,a=>An (aau a) λq=>An (Iz q.2.1) λg=>(ae6 c k t g q.2.2&&g.ifs.isEmpty)&&(ari T it c g.target g.iter&&yx T e (aaw c q.2.2 (Df g.target)) q.1)
 |.Ca v k t it i e,c,a=>An (aau a) λq=>An (Iz q.2.1) λg=>An (Iz g.ifs) λd=>(ae6 c k t g q.2.2&&Oa d)&&(ari T it c g.target g.iter&&(yx T i (aaw c q.2.2 (Df g.target)) d&&yx T e (aaw c q.2.2 (Df g.target)) q.1))
 |.abd x,c,a=>a4w c "tuple" "range" a (yx T x c)
def Kw(T:Tab):Cu->Ctx->List Expr->Bool
 |.nil,_,a=>a.isEmpty|.cons e es,c,a=>match a with|l::ls=>noStar l&&(yx T e c l&&Kw T es c ls)|_=>false
def ax8(T:Tab):OEx->Ctx->Option Expr->Bool
 |.none,_,a=>a.isNone|.some e,c,a=>An a (yx T e c)
def ari(T:Tab):Og->Ctx->Expr->Expr->Bool
 |.val e,c,_,a=>yx T e c a|.Mq e,c,_,a=>An (dCN a) λq=>An (Iz q.2) λl=>(decide (q.1 = "range")&&Uk c q.1)&&(noStar l&&yx T e c l)
 |.enm e,c,tg,a=>An (dCN a) λq=>An (Iz q.2) λl=>((amc tg).isSome&&(decide (q.1 = "enumerate")&&Uk c q.1))&&(noStar l&&yx T e c l)
end
def Ls(h:Dd T nm W k c X)(G:Scope):(relabel G X.env).names=arb c G.names:=by
 unfold relabel arb;refine zz λy _=>?_
 obtain⟨n,Z⟩:=y;show(if(Z==NameKind.free&&X.env.scope.kind==.function&&X.env.kindOf n==some .cell)=true then _ else _)=_;have e:(Z==NameKind.free&&X.env.scope.kind==.function&&X.env.kindOf n==some .cell)=(Z==NameKind.free&&c.sc.lookup n==some .cell):=by unfold Env.kindOf;rw[h.kd,h.sc];simp
 rw[e]
def ax9(h:Dd T nm W k c X)(hb:ax2 c sc G=true):Dk X (Rb c.N G) sc/\∀C fp s H,Dd T nm W k (aaw c sc G) (Jl X (Rb c.N G) sc C fp s H):=by
 simp only[ax2,ao,bz,ji] at hb;obtain⟨h1,h3,h4,h5,h6⟩:=hb;have Z:∀x kd,(x,kd)∈sc.names->sc.names.lookup x=some kd:=λx kd m=>by have:=h3 (x,kd) m;simpa using this
 refine⟨⟨h1,λy m e=>by rw[Z y.1 y.2 m,e],λy m e=>?_,Z,?_,λi x R L hv=>?_⟩,λC fp s H=>⟨rfl,h5,Ls h sc,h1,h.calm,h.room,(λz=>by cases z),h.tab,(λn m=>?_),(λz=>by cases z)⟩⟩
 .have:=h4 y m
  rw[e] at this;unfold Env.kindOf;rw[h.sc];simpa using this
 .rw[h.N];simp[Rb]
 .rw[h.N] at R
  have hl:i<(c.N.zipIdx.map (ahf G)).length:=by simpa using R
  unfold Rb at L;rw[jh hl,ir,yz] at L;obtain⟨n,hn⟩:∃n,c.N[i]?=some n:=⟨c.N[i],by simp[R]⟩;rw[hn] at L;have L:ahf G (n,i)=x:=by simpa using L
  have m:(n,i)∈c.N.zipIdx:=by rw[jr];exact⟨i,by rw[yz,hn];simp⟩
  have q:=h6 (n,i) m;rw[L] at q;have v:ahc (aaw c sc G) x=true:=by unfold Vis at hv;rw[Ls h] at hv;unfold ahc;show(match(arb c sc.names).lookup x with|some .local=>true|some .cell=>true|some .free=>true|_=>false)=true;rcases hv with e|e|e<;>rw[e]
  rw[v] at q;simp only[jo,Bool.false_or,ao] at q;rw[h.N,hn];have e1:x=n:=eq_of_beq q.1;exact⟨by rw[e1],by have:=q.2;simpa using this⟩
 .obtain⟨y,hy,rfl⟩:=cu.mp (List.contains_iff_mem.mp m)
  obtain⟨h7,h8⟩:=uy.mp hy;show(sc.names.lookup y.1==some .cell)=true;rw[Z y.1 y.2 h7,eq_of_beq h8];rfl
def a4y(h:o=a4v op):Bc X (binaryOp o) (rOp nm X.K (MW.Dh op)):=by
 subst h;cases op with
 |add=>exact a2p|sub=>exact a2l|mul=>exact a2o|fdiv=>exact aw3|mod=>exact a2m|pow=>exact a2n
def Ob(Z:xj 8 X.A)(h:acz op=some o):Bc X (compareOp o) (Jm nm X.K op):=by
 have G:xj 6 X.A:=Z.mono (by decide);cases op with
 |eq=>cases h;exact baf G|ne=>cases h;exact bag G|lt=>cases h;exact a94|le=>cases h;exact a95|gt=>cases h;exact a96|ge=>cases h;exact a97|inn=>cases h;exact bah Z|Qc=>cases h;exact aqf Z|is=>cases h;exact baq|ac8=>cases h;exact aqz
def ac1(h:Dd T nm W k c X)(G:tg1 c lo i e=true):∃n p,e=.Name n p/\X.N[i]?=some n/\L2.Loc X.env.scope n/\(X.fn n=true\/X.env.scope.names.lookup n=some .local)/\lo<=i:=by obtain⟨n,L,Z⟩:=ie G;obtain⟨p,rfl⟩:=De L;simp only[ao,bz] at Z;obtain⟨l1,R⟩:=axx h Z.2.1;exact⟨n,p,rfl,slot_of h Z.1,l1,R,Z.2.2⟩
theorem amj{T:Tab}{L:Nm}{W:Fd}{k:Nat}{c:Ctx}{X:Cx}(h:Dd T L W k c X){G:Nat}:∀{is:Y2}{Z:Y3},ahg c G is Z=true->Iw X Z is/\∀i∈is,G<=i
 |[],[],_=>⟨.nil,by simp⟩|[],_::_,e=>by cases e|_::_,[],e=>by cases e
 |i::is,a::Z,e=>by
  unfold ahg at e;rw[ao] at e;obtain⟨n,p,rfl,e1,R,e3,e4⟩:=ac1 h e.1;obtain⟨g1,g2⟩:=amj h e.2;refine⟨.cons e1 R e3 g1,λj hj=>?_⟩;rcases bx.mp hj with z|z
  .rw[z];exact e4
  .exact g2 j z
def ae7(h:Dd T nm W k c X)(G:tgB c lo t e=true):PG X e (tGt nm X.K t)/\∀i∈Aw t,lo<=i:=by
 have Z:X.N.Nodup:=by rw[h.N];exact h.nd
 cases t with
 |name i =>
  obtain⟨n,p,rfl,e1,R,e3,e4⟩:=ac1 h G;exact⟨axa Z e1 R e3,λi L=>by rw[o5.mp L];exact e4⟩
 |names is =>
  obtain⟨ts,h1,h2⟩:=ie G;obtain⟨k0,p,rfl⟩:=Rq h1;obtain⟨g1,g2⟩:=amj h h2;exact⟨aqa h.calm Z g1,g2⟩
structure Got(nm:Nm)(W:Fd)(X:Cx)(a:Expr)(e:Ex):Prop where
 v:PE X a (tE nm W X.K e)
 q:Oa a=true->PT X a (tQ nm W X.K e)
 w:∀op ls p,a=.BoolOp op ls p->PW X a (tQ nm W X.K e)
noncomputable def a4z:Expr->Bool
 |.BoolOp ..=>false|.UnaryOp .Not _ _=>false|.IfExp ..=>false|.Compare ..=>false|_=>true
set_option tactic.hygienic true in
def yu(h:PE X a (tE nm W X.K e))(Y:a4z a=true):Got nm W X a e:=by
 refine⟨h,λC=>a2r h λZ=>?_,λG J p z=>by subst z;cases Y⟩;cases a<;>first|rfl|(cases Y)|skip
 rename_i G x p;cases G<;>first|rfl|cases Y
def aya(h:Dd T nm W k c X)(G:ax4 T c d a=true):PE X a (tE nm W X.K (.cst d))/\a4z a=true:=by
 cases d with
 |int i =>
  simp only[ax4,Ag] at G;rcases G with G|G
  .obtain⟨k,L,Z⟩:=ie G
   obtain⟨j,p,rfl⟩:=N7 L;rw[j8 Z];exact⟨a2h,rfl⟩
  .obtain⟨n,L,Z⟩:=ie G
   obtain⟨p,rfl⟩:=De L;rw[ao] at Z;obtain⟨g1,g2⟩:=Cz h Z.1;obtain⟨t,R⟩:=h.tab.cs _ _ (List.contains_iff_mem.mp Z.2);exact⟨aw1 g1 R (nu g2).1,rfl⟩
 |bl i =>
  obtain⟨k,L,Z⟩:=ie G;obtain⟨j,p,rfl⟩:=N7 L;rw[j8 Z];exact⟨a92,rfl⟩
 |non =>
  obtain⟨k,L,Z⟩:=ie G;obtain⟨j,p,rfl⟩:=N7 L;rw[j8 Z];exact⟨a2i,rfl⟩
 |str s =>
  obtain⟨k,L,Z⟩:=ie G;obtain⟨j,p,rfl⟩:=N7 L;rw[j8 Z];exact⟨a2j,rfl⟩
 |_=>cases G
section
variable{T:Tab}{nm:Nm}{W:Fd}{k:Nat}
def Dd.r8(h:Dd T nm W k c X):xj 8 X.A:=h.room.mono (by lia)
theorem Dd.mg(h:Dd T nm W k c X)(m:n∈Ku):X.mg n=none:=h.tab.bt n m
theorem Qx{c:Ctx}{L:Nat}:∀{is:Y2}{Z:Y3},ahg c L is Z=true->∀i∈is,L<=i
 |[],_,_=>by simp|_::_,[],e=>by cases e
 |i::is,a::Z,e=>by
  unfold ahg at e;rw[ao] at e;intro j R;rcases bx.mp R with z|z
  .obtain⟨n,h1,G⟩:=ie e.1
   simp only[ao,bz] at G;rw[z];exact G.2.2
  .exact Qx e.2 j z
def ac2(h:tgB c lo t e=true):∀i∈Aw t,lo<=i:=by
 cases t with
 |name j =>
  obtain⟨n,L,Z⟩:=ie h;simp only[ao,bz] at Z;intro i G;rw[o5.mp G];exact Z.2.2
 |names is =>
  obtain⟨R,L,Z⟩:=ie h;exact Qx Z
def amk:(Rb N Z).length-N.length=Z.length:=by simp[Rb]
def Oc(G:Dd T nm W k c X)(h:ae6 c j t g sc=true) :
 Er g.iter=true/\g.is_async=0/\Dk X (Rb c.N (Df g.target)) sc/\(∀C Z s H,Dd T nm W k (aaw c sc (Df g.target)) (Jl X (Rb c.N (Df g.target)) sc C Z s H)) /\
 (∀C Z s H,PG (Jl X (Rb c.N (Df g.target)) sc C Z s H) g.target (tGt nm X.K t))/\(Rb c.N (Df g.target)).length-X.N.length=j/\∀i∈Aw t,X.N.length<=i:=by
 simp only[ae6,ao,bz] at h;obtain⟨h2,h3,L,h5,h6⟩:=h;obtain⟨B,R⟩:=ax9 G h2;exact⟨h5,h6,B,R,λC Z s H=>(ae7 (R C Z s H) L).1,by rw[G.N,amk];exact(eq_of_beq h3).symm,λi hi=>by rw[G.N];exact ac2 L i hi⟩
def ae8(h:amh o a x y=true):(∃l r p,a=.BoolOp o [l,r] p/\Oa l=true/\x l=true/\Oa r=true/\y r=true) \/
 ∃l r s Z p,a=.BoolOp o (l::r::s::Z) p/\Oa l=true/\x l=true/\y (.BoolOp o (r::s::Z) p)=true:=by
 obtain⟨⟨R,L,p⟩,h1,G⟩:=ie h;cases amg h1;rw[ao] at G;obtain⟨h3,G⟩:=G;cases j8 h3;cases L with
 |nil=>cases G
 |cons l L=>cases L with
  |nil=>cases G
  |cons r Z =>
   cases Z with
   |nil =>
    have G:((Oa l&&x l)&&(Oa r&&y r))=true:=G;simp only[ao] at G;exact .inl ⟨l,r,p,rfl,G.1.1,G.1.2,G.2.1,G.2.2⟩
   |cons s Z =>
    have G:((Oa l&&x l)&&y (.BoolOp R (r::s::Z) p))=true:=G;simp only[ao] at G;exact .inr ⟨l,r,s,Z,p,rfl,G.1.1,G.1.2,G.2⟩
def ayb(hc:Dd T nm W k c X)(Z:ax3 b=some n)(hg:Uk c n=true)(e1:PA X (l::ls) (Xv nm W X.K es))(e2:Am (l::ls)=true):PE X (.Call (.Name n p) (l::ls) [] p') (tE nm W X.K (.blt b es)):=by
 obtain⟨g1,g2⟩:=Cz hc hg;obtain⟨L,d2,R⟩:=nu g2;simp only[Am,ao] at e2;have G:=ou e2.1 ls X.env;have an:=zp (env:=X.env) (pos:=p') e2.2;have mg:n∈Ku->X.mg n=none:=hc.mg;cases b with
 |len=>cases Z;exact aeu (id := "len") a3l g1 (mg (by decide+kernel)) (by decide+kernel) e1 R L G an|max=>cases Z;exact aeu (id := "max") (a3v hc.calm) g1 (mg (by decide+kernel)) (by decide+kernel) e1 R L G an|sorted=>cases Z;exact aeu (id := "sorted") (al7 hc.calm) g1 (mg (by decide+kernel)) (by decide+kernel) e1 R L G an|min=>cases Z;exact aeu (id := "min") (a3x hc.calm) g1 (mg (by decide+kernel)) (by decide+kernel) e1 R L G an|tuple=>cases Z;exact alm (T := "tuple") aqe g1 (mg (by decide+kernel)) (by decide+kernel) e1 R L G an|dict=>cases Z;exact alm (T := "dict") axq g1 (mg (by decide+kernel)) (by decide+kernel) e1 R L G an|_=>cases Z
def Yd{Z:Type}{l:List Z}(h:(!l.isEmpty)=true):∃x r,l=x::r:=by
 cases l with
 |nil=>cases h|cons x r=>exact⟨x,r,rfl⟩
set_option maxHeartbeats 2000000 in
set_option tactic.hygienic true in
mutual
theorem jb:∀(e:Ex){c:Ctx}{X:Cx}{a:Expr},Dd T nm W k c X->yx T e c a=true->Got nm W X a e
 |.var i,c,X,a,hc,h=>by
  replace h:=ie h;obtain⟨n,Z,h⟩:=h;obtain⟨p,rfl⟩:=De Z;simp only[ao] at h;exact yu (a2g (slot_of hc h.1) (axw hc h.2.1) (nu h.2.2).1 (nu h.2.2).2.1) rfl
 |.cst d,c,X,a,hc,h=>by
  obtain⟨Z,L⟩:=aya hc h;exact yu Z L
 |.bin op x y,c,X,a,hc,h=>by
  replace h:=ie h;obtain⟨⟨l,o,r⟩,Z,h⟩:=h;obtain⟨p,rfl⟩:=aq7 Z;simp only[ao,bz] at h;exact yu (a2k (a4y h.1) (jb x hc h.2.1).v (jb y hc h.2.2).v) rfl
 |.neg x,c,X,a,hc,h=>by
  replace h:=ie h;obtain⟨⟨o,l⟩,Z,h⟩:=h;obtain⟨p,rfl⟩:=amf Z;simp only[ao,bz] at h;obtain⟨rfl,h⟩:=h;exact yu (a3b (jb x hc h).v) rfl
 |.cmp op x y,c,X,a,hc,h=>by
  replace h:=ie h;obtain⟨⟨l,o,r⟩,Z,h⟩:=h;obtain⟨p,rfl⟩:=N8 Z;replace h:=ie h;obtain⟨o1,L,h⟩:=h;replace h:=ie h;obtain⟨r1,R,h⟩:=h;cases yt L;cases yt R;simp only[ao,bz] at h;have g:=Ob (nm:=nm) hc.r8 h.1;have m:=Hc h.2.1 o1;exact⟨a2s g (jb x hc h.2.2.1).v (jb y hc h.2.2.2).v m,λ_=>a2t g (jb x hc h.2.2.1).v (jb y hc h.2.2.2).v m,λ_ _ _ z=>by cases z⟩
 |.chain o1 o2 x y z,c,X,a,hc,h=>by
  replace h:=ie h;obtain⟨⟨l,o,r⟩,Z,h⟩:=h;obtain⟨p,rfl⟩:=N8 Z;dsimp only at h;split at h
  .rename_i p1 p2 r s
   simp only[ao,bz] at h;have g1:=Ob (nm:=nm) hc.r8 h.1.1;have g2:=Ob (nm:=nm) hc.r8 h.1.2;have m:lastMarks [p1,p2] [r,s]=false:=Hc h.2.1 p2;exact⟨ap8 g1 g2 (jb x hc h.2.2.1).v (jb y hc h.2.2.2.1).v (jb z hc h.2.2.2.2).v m,λ_=>ap9 g1 g2 (jb x hc h.2.2.1).v (jb y hc h.2.2.2.1).v (jb z hc h.2.2.2.2).v m,λ_ _ _ z=>by cases z⟩
  .cases h
 |.Hx o1 o2 o3 x y z w,c,X,a,hc,h=>by
  replace h:=ie h;obtain⟨⟨l,o,r⟩,Z,h⟩:=h;obtain⟨p,rfl⟩:=N8 Z;replace h:=ie h;obtain⟨⟨p1,p2,p3⟩,L,h⟩:=h;replace h:=ie h;obtain⟨⟨r1,r2,r3⟩,R,h⟩:=h;cases ac0 L;cases ac0 R;simp only[ao,bz] at h;obtain⟨⟨k1,k2,k3⟩,k4,⟨k5,k6⟩,k7,k8⟩:=h;have m:lastMarks [p1,p2,p3] [r1,r2,r3]=false:=Hc k4 p3;exact⟨ak8 (Ob hc.r8 k1) (Ob hc.r8 k2) (Ob hc.r8 k3) (jb x hc k5).v (jb y hc k6).v (jb z hc k7).v (jb w hc k8).v m,λ_=>ak9 (Ob hc.r8 k1) (Ob hc.r8 k2) (Ob hc.r8 k3) (jb x hc k5).v (jb y hc k6).v (jb z hc k7).v (jb w hc k8).v m,λ_ _ _ z=>by cases z⟩
 |.R8 x y,c,X,a,hc,h=>by
  replace h:=ie h;obtain⟨⟨l0,o,r0⟩,Z,h⟩:=h;obtain⟨p,rfl⟩:=N8 Z;replace h:=ie h;obtain⟨o1,L,h⟩:=h;replace h:=ie h;obtain⟨r1,R,h⟩:=h;cases yt L;cases yt R;replace h:=ie h;obtain⟨⟨n,ls⟩,h4,h⟩:=h;replace h:=ie h;obtain⟨⟨m,ms⟩,h5,h⟩:=h;replace h:=ie h;obtain⟨l,h6,h⟩:=h;replace h:=ie h;obtain⟨r,h7,h⟩:=h;cases yt h6;cases yt h7;obtain⟨p1,q1,e1⟩:=Eh h4;obtain⟨p2,q2,e2⟩:=Eh h5;have e1:l0=_:=e1;subst e1 e2;simp only[ao,bz] at h;obtain⟨⟨⟨rfl,rfl⟩,rfl,h8⟩,⟨h9,qk⟩,qv,z2⟩:=h;obtain⟨g1,g2⟩:=Cz hc h8;have z:=aqg (nm:=nm) (W:=W) (p1:=p1) (p2:=p2) (q1:=q1) (q2:=q2) hc.r8 g1 (hc.mg (by decide+kernel)) (by decide+kernel) (nu g2).2.2 (nu g2).1 (Pk (jb x hc qv).v V6 (ou h9 _ _)) (Pk (jb y hc z2).v V6 (ou qk _ _)) (ou h9 _ _) (ou qk _ _) (zp rfl) (zp rfl);exact⟨avk z,λ_=>agx (avl z) λ_ _ _ q=>q,λ_ _ _ z=>by cases z⟩
 |.dne x y,c,X,a,hc,h=>by
  replace h:=ie h;obtain⟨⟨l,o,r⟩,Z,h⟩:=h;obtain⟨p,rfl⟩:=N8 Z;replace h:=ie h;obtain⟨o1,L,h⟩:=h;replace h:=ie h;obtain⟨r1,R,h⟩:=h;cases yt L;cases yt R;simp only[ao,bz] at h;obtain⟨rfl,h4,h5,h6⟩:=h;have m:=Hc h4 .NotEq;exact⟨a4e hc.r8 (jb x hc h5).v (jb y hc h6).v m,λ_=>a4f hc.r8 (jb x hc h5).v (jb y hc h6).v m,λ_ _ _ z=>by cases z⟩
 |.and x y,c,X,a,hc,h=>by
  rcases ae8 h with⟨l,r,p,rfl,Z,L,R,h4⟩|⟨l,r,s,qq,p,rfl,Z,L,R⟩
  .have g1:=jb x hc L
   have g2:=jb y hc h4;have w:=ata (pos:=p) (rest:=[]) (g1.q Z) (ao7 (g2.q R));exact⟨as9 g1.v (atf g2.v),λ_=>w.pt,λ_ _ _ _=>w⟩
  .have g1:=jb x hc L
   have g2:=jb y hc R;have w:=ata (g1.q Z) (g2.w _ _ _ rfl);exact⟨as9 g1.v g2.v,λ_=>w.pt,λ_ _ _ _=>w⟩
 |.or x y,c,X,a,hc,h=>by
  rcases ae8 h with⟨l,r,p,rfl,Z,L,R,h4⟩|⟨l,r,s,qq,p,rfl,Z,L,R⟩
  .have g1:=jb x hc L
   have g2:=jb y hc h4;have w:=a2w (pos:=p) (rest:=[]) (g1.q Z) (avn (g2.q R));exact⟨a2u g1.v (atf g2.v),λ_=>w.pt,λ_ _ _ _=>w⟩
  .have g1:=jb x hc L
   have g2:=jb y hc R;have w:=a2w (g1.q Z) (g2.w _ _ _ rfl);exact⟨a2u g1.v g2.v,λ_=>w.pt,λ_ _ _ _=>w⟩
 |.not x,c,X,a,hc,h=>by
  replace h:=ie h;obtain⟨⟨o,l⟩,Z,h⟩:=h;obtain⟨p,rfl⟩:=amf Z;simp only[ao,bz] at h;obtain⟨rfl,h⟩:=h;have g:=jb x hc h.2;exact⟨a2v g.v,λ_=>a2x (g.q h.1),λ_ _ _ z=>by cases z⟩
 |.ite t x y,c,X,a,hc,h=>by
  replace h:=ie h;obtain⟨⟨t',l,r⟩,Z,h⟩:=h;obtain⟨p,rfl⟩:=aq8 Z;simp only[ao] at h;exact⟨a2y ((jb t hc h.2.1).q h.1) (jb x hc h.2.2.1).v (jb y hc h.2.2.2).v,(λz=>by cases z),λ_ _ _ z=>by cases z⟩
 |.tup es,c,X,a,hc,h=>by
  replace h:=ie h;obtain⟨l,Z,h⟩:=h;obtain⟨k0,p,rfl⟩:=Rq Z;simp only[ao,bz] at h;exact yu (a2z (Ey es hc h.2).1 h.1) rfl
 |.lst es,c,X,a,hc,h=>by
  replace h:=ie h;obtain⟨l,Z,h⟩:=h;obtain⟨p,rfl⟩:=ae4 Z;simp only[ao,bz] at h;exact yu (a3a (Ey es hc h.2).1 h.1) rfl
 |.Dg es,c,X,a,hc,h=>by
  replace h:=ie h;obtain⟨l,Z,h⟩:=h;obtain⟨p,rfl⟩:=ae4 Z;simp only[ao,bz] at h;exact yu (aw6 (Ey es hc h.2).1 h.1) rfl
 |.afo,c,X,a,hc,h=>by
  replace h:=ie h;obtain⟨⟨q,l⟩,Z,h⟩:=h;obtain⟨p,rfl⟩:=aq9 Z;simp only[ao,o7] at h;obtain⟨rfl,rfl⟩:=h;exact yu axh rfl
 |.ix x y,c,X,a,hc,h=>by
  replace h:=ie h;obtain⟨⟨l,r⟩,Z,h⟩:=h;obtain⟨p,rfl⟩:=Yc Z;simp only[ao] at h;exact yu (a99 (V3 hc.room) (jb x hc h.2.1).v (jb y hc h.2.2).v (alb h.1)) rfl
 |.cut x lo hi,c,X,a,hc,h=>by
  replace h:=ie h;obtain⟨⟨l,r⟩,Z,h⟩:=h;obtain⟨p,rfl⟩:=Yc Z;replace h:=ie h;obtain⟨⟨u,v,st⟩,L,h⟩:=h;obtain⟨p2,e⟩:=ax0 L;have e:r=_:=e;subst e;simp only[ao,Option.isNone_iff_eq_none] at h;obtain⟨rfl,h⟩:=h;exact yu (a3w (jb x hc h.1).v (ae9 lo hc h.2.1) (ae9 hi hc h.2.2)) rfl
 |.call f es,c,X,a,hc,h=>by
  replace h:=ie h;obtain⟨⟨n,ls⟩,Z,h⟩:=h;obtain⟨p,p',rfl⟩:=Eh Z;simp only[ao] at h;obtain⟨⟨L,R,h4⟩,h5⟩:=h;obtain⟨l,ls,rfl⟩:=Yd h4;obtain⟨fa,fd,ps,F,_,m,kp,b⟩:=hc.tab.fn _ _ _ (j8 L);obtain⟨g1,g2⟩:=Cz hc R;obtain⟨e1,e2⟩:=Ey es hc h5;simp only[Am,ao] at e2;exact yu (s_call F (hc.room.mono x_) g1 m kp b rfl e1 (nu g2).1 (ou e2.1 _ _) (zp e2.2)) rfl
 |.ask f es,c,X,a,hc,h=>by
  replace h:=ie h;obtain⟨⟨e1,e2,e3⟩,Z,h⟩:=h;cases arf Z;replace h:=ie h;obtain⟨i,L,h⟩:=h;replace h:=ie h;obtain⟨j,R,h⟩:=h;replace h:=ie h;obtain⟨l,zv,h⟩:=h;cases ami L;cases ami R;cases ami zv;replace h:=ie h;obtain⟨⟨rx,ls⟩,h4,h⟩:=h;obtain⟨p,pos,rfl⟩:=Eh h4;replace h:=ie h;obtain⟨la,h5,h⟩:=h;cases yt h5;replace h:=ie h;obtain⟨⟨ar,bd,Yb,lp⟩,h6,h⟩:=h;cases ara h6;replace h:=ie h;obtain⟨⟨gx,us⟩,h7,h⟩:=h;obtain⟨pf,pb,e⟩:=Eh h7;have e:bd=_:=e;subst e;replace h:=ie h;obtain⟨⟨v,w,u⟩,h8,h⟩:=h;cases ac0 h8;replace h:=ie h;obtain⟨x,h9,h⟩:=h;replace h:=ie h;obtain⟨y,qk,h⟩:=h;replace h:=ie h;obtain⟨z,qv,h⟩:=h;obtain⟨px,e⟩:=De h9;have e:v=_:=e;subst e;obtain⟨py,e⟩:=De qk;have e:w=_:=e;subst e;obtain⟨pz,e⟩:=De qv;have e:u=_:=e;subst e;simp only[ao,bz] at h;obtain⟨⟨⟨⟨k1,k2⟩,rfl,k4⟩,k5,rfl⟩,⟨⟨k7,k8,z3⟩,k9,z4,z1⟩,⟨q8,q7,q5⟩,⟨rfl,rfl⟩,zk⟩:=h;cases ax6 k5;obtain⟨g1,g2⟩:=Cz hc k4;obtain⟨LS,m1,m2,z5,m3,m4,m5⟩:=arh zk;obtain⟨C,fa,fd,ps,mk,F0,FE,m,b,nc⟩:=hc.tab.ma;obtain⟨fr,RF,mr,kr⟩:=hc.tab.rf;obtain⟨cc,P,q1,q2,q3⟩:=hc.lam k1;exact yu (a4j RF mk F0 FE b nc m m4 (nu m5).1 g1 mr kr (nu g2).1 hc.tab.bm q1 q2 q3 (slot_of hc k7) (slot_of hc k8) (slot_of hc z3) (by rw[hc.sc];exact eq_of_beq k9) (by rw[hc.sc];exact eq_of_beq z4) (by rw[hc.sc];exact eq_of_beq z1) (hc.fnl k2).1 LS m1 m2 z5 m3 ⟨(nu q8).1,(nu q8).2.1⟩ ⟨(nu q7).1,(nu q7).2.1⟩ ⟨(nu q5).1,(nu q5).2.1⟩ hc.room) rfl
 |.blt b es,c,X,a,hc,h=>by
  have G:(An (dCN a) λq=>(decide (ax3 b=some q.1)&&(Uk c q.1&&!q.2.isEmpty))&&Kw T es c q.2)=true->Got nm W X a (.blt b es):=λhh=>by clear h;replace hh:=ie hh;obtain⟨⟨n,ls⟩,Z,h⟩:=hh;obtain⟨p,p',rfl⟩:=Eh Z;simp only[ao] at h;obtain⟨⟨L,R,h4⟩,h5⟩:=h;obtain⟨l,ls,rfl⟩:=Yd h4;obtain⟨e1,e2⟩:=Ey es hc h5;exact yu (ayb hc (j8 L) R e1 e2) rfl
  match b,es,h,G with
  |.isE _,.nil,h,G=>exact G h|.isE _,.cons _ (.cons _ _),h,G=>exact G h
  |.isE kk,.cons x .nil,h,_ =>
   obtain⟨ty,h0,h⟩:=ie (show An (xnO T kk) (λn=>ax5 c n a (yx T x c))=true from h);obtain⟨l,p,p1,p2,rfl,R,h4,h5,h6⟩:=arc h;obtain⟨g1,g2⟩:=Cz hc R;obtain⟨g3,g4⟩:=Cz hc h4
   match kk,h0 with
   |0,h0 =>
    cases h0;exact yu (atg (cv:=.type "ValueError") (λI q=>Hh I g3 (hc.mg (by decide+kernel)) (by decide+kernel) q (nu g4).2.2 (nu g4).1) (λc C z=>⟨(hc.tab.xv c C z).2,(hc.tab.xv c C z).1⟩) (axu _) g1 (hc.mg (by decide+kernel)) (by decide+kernel) (nu g2).2.2 (nu g2).1 (jb x hc h6).v (ou h5 _ _) (ou rfl _ _) (zp rfl)) rfl
   |j+1,h0 =>
    obtain⟨⟨y,b⟩,e1,e2⟩:=cg.mp h0;cases e2;obtain⟨D,m,z⟩:=hc.tab.xt j _ b e1;exact yu (atg (cv:=.ref D) (λI q=>Ij I g3 m q (nu g4).1) (λc C w=>⟨by rw[z c C w];simp,(hc.tab.xv c C w).1⟩) (hc.tab.xo j _ b D e1 m) g1 (hc.mg (by decide+kernel)) (by decide+kernel) (nu g2).2.2 (nu g2).1 (jb x hc h6).v (ou h5 _ _) (ou rfl _ _) (zp rfl)) rfl
  |.len,_,h,G=>exact G h|.tuple,_,h,G=>exact G h|.max,_,h,G=>exact G h|.min,_,h,G=>exact G h|.dict,_,h,G=>exact G h|.sorted,_,h,G=>exact G h
 |.bm m o es,c,X,a,hc,h=>by
  replace h:=ie h;obtain⟨⟨lo,n,ap,ls,p⟩,h0,h⟩:=h;cases ax1 h0;simp only[ao,bz] at h;obtain⟨⟨⟨Z,L⟩,R,h4,zw⟩,h5,h6⟩:=h;obtain⟨l,ls,rfl⟩:=Yd zw;obtain⟨e1,e2⟩:=Ey es hc h6;have e3:=e2;simp only[Am,ao] at e3;have q0:((backTo p (starEach (l::ls) X.env)).all (λx=>!x.1)&&(backToKw p (keywordEach [] X.env)).all (λx=>x.1.isSome)&&decide ((l::ls).length+([]:List Keyword).length+(if([]:List Keyword).isEmpty then 0 else 1)<30))=true:=by rw[acx e2];simp[keywordEach,backToKw];simp at R;exact b_ R (by decide)
  have g:=jb o hc h5;cases m with
  |append=>cases Z;exact yu (axl (T := "list") (id := "list.append") (fun ι H M x v S r t=>ty_list (.inl rfl) S r t) PySem.F.plainAttrs_list PySem.F.slot_list_append PySem.F.type_list_append alq g.v e1 (Ip L) q0 h4 (ou e3.1 _ _) (zp e3.2)) rfl
  |index=>cases Z;exact yu (axl (T := "list") (id := "list.index") (fun ι H M x v S r t=>ty_list (.inr rfl) S r t) PySem.F.plainAttrs_list PySem.F.slot_list_index PySem.F.type_list_index (aqj hc.r8) g.v e1 (Ip L) q0 h4 (ou e3.1 _ _) (zp e3.2)) rfl
  |pop=>cases Z;exact yu (axl (T := "dict") (id := "dict.pop") (fun ι H M x v S r t=>ty_dict S r t) PySem.F.plainAttrs_dict PySem.F.slot_dict_pop PySem.F.type_dict_pop (a4d (V3 hc.room)) g.v e1 (Ip L) q0 h4 (ou e3.1 _ _) (zp e3.2)) rfl
 |.comp v j t it e,c,X,a,hc,h=>by
  replace h:=ie h;obtain⟨⟨z0,gs,sc⟩,Z,h⟩:=h;obtain⟨p,rfl⟩:=Uo Z;replace h:=ie h;obtain⟨⟨tg,q6,zg,as⟩,L,h⟩:=h;cases yt L;simp only[ao,o7] at h;obtain⟨⟨R,rfl⟩,h4,h5⟩:=h;obtain⟨q1,q2,B,hB,hg,q3,q4⟩:=Oc hc R;cases q2;exact yu (axg B hc.calm (Od it hc h4) hg (λC fp s H=>(jb e (hB C fp s H) h5).v) q1 q3 q4) rfl
 |.Ca v j t it i e,c,X,a,hc,h=>by
  replace h:=ie h;obtain⟨⟨z0,gs,sc⟩,Z,h⟩:=h;obtain⟨p,rfl⟩:=Uo Z;replace h:=ie h;obtain⟨⟨tg,q6,zg,as⟩,L,h⟩:=h;cases yt L;replace h:=ie h;obtain⟨d,h6,h⟩:=h;cases yt h6;simp only[ao] at h;obtain⟨⟨R,h7⟩,h4,h8,h5⟩:=h;obtain⟨q1,q2,B,hB,hg,q3,q4⟩:=Oc hc R;cases q2;exact yu (alg B hc.calm (Od it hc h4) hg (λC fp s H=>(jb i (hB C fp s H) h8).q h7) (λC fp s H=>(jb e (hB C fp s H) h5).v) q1 q3 q4) rfl
 |.abd x,c,X,a,hc,h=>by
  obtain⟨l,p,p1,p2,p3,rfl,h5,h6,h7,h8⟩:=ard h;obtain⟨g1,g2⟩:=Cz hc h5;obtain⟨g3,g4⟩:=Cz hc h6;exact yu (axr hc.r8 g1 (hc.mg (by decide+kernel)) (by decide+kernel) (nu g2).2.2 (nu g2).1 g3 (hc.mg (by decide+kernel)) (by decide+kernel) (nu g4).2.2 (nu g4).1
   (Pk (jb x hc h8).v V6 (ou h7 _ _)) (ou rfl _ _) (zp rfl) (ou h7 _ _) (zp rfl)) rfl
theorem Ey:∀(Z:Cu){c:Ctx}{X:Cx}{a:Y3},Dd T nm W k c X->Kw T Z c a=true->PA X a (Xv nm W X.K Z)/\Am a=true
 |.nil,c,X,a,hc,h=>by
  cases o7.mp h;exact⟨V6,rfl⟩
 |.cons e Z,c,X,a,hc,h=>by
  cases a with
  |nil=>cases h
  |cons l R =>
   replace h:(noStar l&&(yx T e c l&&Kw T Z c R))=true:=h;simp only[ao] at h;obtain⟨L,G⟩:=Ey Z hc h.2.2;exact⟨Pk (jb e hc h.2.1).v L (ou h.1 _ _),by simp only[Am,ao];exact⟨h.1,G⟩⟩
theorem ae9:∀(e:OEx){c:Ctx}{X:Cx}{a:Option Expr},Dd T nm W k c X->ax8 T e c a=true->PO X a (tO nm W X.K e)
 |.none,c,X,a,hc,h=>by
  cases Option.isNone_iff_eq_none.mp h;exact aqp
 |.some e,c,X,a,hc,h=>by
  replace h:=ie h;obtain⟨l,rfl,h⟩:=h;exact aqq (jb e hc h).v
theorem Od:∀(it:Og){c:Ctx}{X:Cx}{Z a:Expr},Dd T nm W k c X->ari T it c Z a=true->PI X Z a (tI nm W X.K it)
 |.val e,c,X,Z,a,hc,h=>a3i (jb e hc h).v
 |.Mq e,c,X,Z,a,hc,h=>by
  replace h:=ie h;obtain⟨⟨n,ls⟩,h1,h⟩:=h;obtain⟨p,p',rfl⟩:=Eh h1;replace h:=ie h;obtain⟨l,L,h⟩:=h;cases yt L;simp only[ao,bz] at h;obtain⟨⟨rfl,R⟩,h4,G⟩:=h;exact a3j (Cz hc R).1 (hc.mg (by decide+kernel)) (jb e hc G).v h4
 |.enm e,c,X,Z,a,hc,h=>by
  replace h:=ie h;obtain⟨⟨n,ls⟩,h1,h⟩:=h;obtain⟨p,p',rfl⟩:=Eh h1;replace h:=ie h;obtain⟨l,L,h⟩:=h;cases yt L;simp only[ao,bz] at h;obtain⟨⟨h6,rfl,R⟩,h4,G⟩:=h;obtain⟨ts,h7⟩:=ig.mp h6;obtain⟨k0,pt,rfl⟩:=Rq h7;exact a4a (Cz hc R).1 (hc.mg (by decide+kernel)) (jb e hc G).v h4
end
end
noncomputable def a5b(e:Ex):Option {b:Bool // (∃v j t it x,e=.comp v j t it x)\/∃v j t it i x,e=.Ca v j t it i x}:=match e with|.comp ..=>some ⟨true,.inl ⟨_,_,_,_,_,rfl⟩⟩|.Ca ..=>some ⟨true,.inr ⟨_,_,_,_,_,_,rfl⟩⟩|_=>none
def ayc(T:Tab)(c:Ctx)(l:Lv)(e:Ex)(Z v:Expr):Bool :=
 match l with
 |.tg t=>(tgB c 0 t Z&&((Ml v&&((Kv Z).isSome||atb v))||(match t with|.name _=>(aau v).isSome&&(a5b e).isSome|_=>false)))&&yx T e c v
 |.sub o i=>An (amd Z) λq=>Xy q.2&&(yx T e c v&&(yx T o c q.1&&yx T i c q.2))
 |.fld o f=>An (aq6 Z) λq=>(Ml v&&flB T.Uv f q.2.1)&&(yx T e c v&&yx T o c q.1)
noncomputable def a5c(a:Stmt):Option (List Expr×Expr):=Option.map Subtype.val (α:={q:List Expr×Expr // ∃p,a=.Assign q.1 q.2 p}) (match a with|.Assign t v p=>some ⟨(t,v),p,rfl⟩|_=>none)
noncomputable def ayd(a:Stmt):Option Expr:=Option.map Subtype.val (α:={q:Expr // ∃p,a=.Expr q p}) (match a with|.Expr v p=>some ⟨v,p,rfl⟩|_=>none)
noncomputable def a5d(a:Stmt):Option (Expr×List Stmt×List Stmt):=Option.map Subtype.val (α:={q:Expr×List Stmt×List Stmt // ∃p,a=.If q.1 q.2.1 q.2.2 p}) (match a with|.If t l r p=>some ⟨(t,l,r),p,rfl⟩|_=>none)
noncomputable def a5e(a:Stmt):Option (Expr×List Stmt×List Stmt):=Option.map Subtype.val (α:={q:Expr×List Stmt×List Stmt // ∃p,a=.While q.1 q.2.1 q.2.2 p}) (match a with|.While t l r p=>some ⟨(t,l,r),p,rfl⟩|_=>none)
noncomputable def a5f(a:Stmt):Option (Expr×Expr×List Stmt×List Stmt):=Option.map Subtype.val (α:={q:Expr×Expr×List Stmt×List Stmt // ∃p,a=.For q.1 q.2.1 q.2.2.1 q.2.2.2 p}) (match a with|.For t i l r p=>some ⟨(t,i,l,r),p,rfl⟩|_=>none)
noncomputable def a5g(a:Stmt):Option (Option Expr):=Option.map Subtype.val (α:={q:Option Expr // ∃p,a=.Return q p}) (match a with|.Return v p=>some ⟨v,p,rfl⟩|_=>none)
noncomputable def atk(a:Stmt):Option Nat:=Option.map Subtype.val (α:={n:Nat // ∃p,a=.Continue p}) (match a with|.Continue p=>some ⟨0,p,rfl⟩|_=>none)
noncomputable def a5h(a:Stmt):Option Expr:=Option.map Subtype.val (α:={q:Expr // ∃p,a=.Raise (some q) none p}) (match a with|.Raise (some v) none p=>some ⟨v,p,rfl⟩|_=>none)
def aml(h:(atk a).isSome=true):∃p,a=.Continue p:=by obtain⟨n,e⟩:=ig.mp h;exact(Qw (P:=λ_=>∃p,a=.Continue p) e :)
def arj(h:a5h a=some v):∃p,a=.Raise (some v) none p:=(Qw h :)
noncomputable def isStr(k:Const):Option Str:=Option.map Subtype.val (α:={q:Str // k=.str q}) (match k with|.str s=>some ⟨s,rfl⟩|_=>none)
noncomputable def xrB(T:Tab)(k:Nat)(x:Str):Bool:=match k with|0=>false|k+1=>decide (T.xcs[k]?=some (x,true))
def ark(h:a5c a=some (t,v)):∃p,a=.Assign t v p:=(Qw h :)
def afa(h:ayd a=some v):∃p,a=.Expr v p:=(Qw h :)
def arl(h:a5d a=some (t,l,r)):∃p,a=.If t l r p:=(Qw h :)
def arn(h:a5e a=some (t,l,r)):∃p,a=.While t l r p:=(Qw h :)
def aro(h:a5f a=some (t,i,l,r)):∃p,a=.For t i l r p:=(Qw h :)
def arp(h:a5g a=some v):∃p,a=.Return v p:=(Qw h :)
mutual
def aye(T:Tab):Ar->Ctx->Stmt->Bool
 |.asg l e,c,a=>An (a5c a) λq=>An (Iz q.1) λt=>ayc T c l e t q.2
 |.expr e,c,a=>An (ayd a) λv=>Ml v&&yx T e c v
 |.iff t x y,c,a=>An (a5d a) λq=>Oa q.1&&(yx T t c q.1&&(Lw T x c q.2.1&&Lw T y c q.2.2))
 |.whl t x,c,a=>An (a5e a) λq=>(Oa q.1&&q.2.2.isEmpty)&&(yx T t c q.1&&Lw T x c q.2.1)
 |.for_ t it x,c,a=>An (a5f a) λq=>(tgB c 0 t q.1&&(Er q.2.1&&q.2.2.2.isEmpty))&&(ari T it c q.1 q.2.1&&Lw T x c q.2.2.1)
 |.ret e,c,a=>An (a5g a) λv=>An v (yx T e c)
 |.cont,_,a=>(atk a).isSome|.raise k,c,a=>An (a5h a) λe=>An (dCN e) λq=>An (Iz q.2) λs=>An (ahd s) λt=>(isStr t).isSome&&(Uk c q.1&&xrB T k q.1)
 |.exq f es,c,a=>An (ayd a) λv=>Ml v&&An (dCN v) λq=>(fnB T.fns f q.1 (Cu.len es)&&(Uk c q.1&&!q.2.isEmpty))&&Kw T es c q.2
def Lw(T:Tab):qm->Ctx->List Stmt->Bool
 |.nil,_,a=>a.isEmpty|.cons s r,c,a=>match a with|st::rest=>aye T s c st&&Lw T r c rest|_=>false
end
noncomputable def swB(c:Ctx)(t:Str)(pt Z:Pos)(G:Scope):Bool:=(c.sc.lookup t==some NameKind.local&&pt.line==Z.line)&&!(G.names.any λy=>y.1==t&&(y.2==.local||y.2==.cell))
def ac3(Z:Dd T nm W k c X):swapsWith (.ListComp elt gs sc vp) (some (.Name t pt)) l X.env=pure (swB c t pt vp sc):=by
 have b:X.env.blockKind=.function:=by unfold Env.blockKind;rw[Z.kd];rfl
 show(pure (X.env.blockKind==.function&&X.env.kindOf t==some .local&&pt.line==vp.line&&!(sc.names.any λ(n,k)=>n==t&&(k==.local||k==.cell))):Sem Bool)=_;rw[b];unfold Env.kindOf;rw[Z.sc];simp[swB]
def amm(Z:Dd T nm W k c X)(ht:tgB c 0 (.name i) tg=true)(hv:(aau v).isSome=true)(hw:(a5b e).isSome=true)(h:yx T e c v=true):PS X (.Assign [tg] v p) (tS nm W X.K EX (.asg (.tg (.name i)) e)):=by
 have nd:X.N.Nodup:=by rw[Z.N];exact Z.nd
 obtain⟨⟨G,gs,sc⟩,hq⟩:=ig.mp hv;obtain⟨y,py,rfl,hy,_⟩:=ac1 (nm:=nm) (W:=W) (k:=k) (T:=T) Z ht;obtain⟨⟨_,co⟩,_⟩:=ig.mp hw;obtain⟨vp,rfl⟩:=Uo hq;have sw:=λl=>ac3 (T:=T) (nm:=nm) (W:=W) (k:=k) Z (elt:=G) (gs:=gs) (sc:=sc) (vp:=vp) (pt:=py) (t:=y) (l:=l)
 cases hs:swB c y py vp sc with
 |false =>
  rw[hs] at sw;exact alc (jb e Z h).v (ae7 Z ht).1 (sw p.line) rfl rfl
 |true =>
  rw[hs] at sw;simp only[swB,ao] at hs;have hl:X.env.scope.names.lookup y=some .local:=by rw[Z.sc];have:=hs.1.1;simpa using this
  rcases co with⟨v,j,t,it,x,rfl⟩|⟨v,j,t,it,i',x,rfl⟩
  .replace h:=ie h
   obtain⟨⟨qq,qk,q0⟩,h1,h⟩:=h;cases h1;replace h:=ie h;obtain⟨⟨tg,L,qv,as⟩,h2,h⟩:=h;cases yt h2;simp only[ao,o7] at h;obtain⟨⟨h3,rfl⟩,h4,h5⟩:=h;obtain⟨q1,q2,B,hB,hg,q3,q4⟩:=Oc Z h3;cases q2;exact ag3 B Z.calm (Od it Z h4) hg (λC R s H=>(jb x (hB C R s H) h5).v) q1 q3 q4 nd hy hl (sw p.line)
  .replace h:=ie h
   obtain⟨⟨qq,qk,q0⟩,h1,h⟩:=h;cases h1;replace h:=ie h;obtain⟨⟨tg,L,qv,as⟩,h2,h⟩:=h;cases yt h2;replace h:=ie h;obtain⟨d,h6,h⟩:=h;cases yt h6;simp only[ao] at h;obtain⟨⟨h3,h7⟩,h4,h8,h5⟩:=h;obtain⟨q1,q2,B,hB,hg,q3,q4⟩:=Oc Z h3;cases q2;exact aac B Z.calm (Od it Z h4) hg (λC R s H=>(jb i' (hB C R s H) h8).q h7) (λC R s H=>(jb x (hB C R s H) h5).v) q1 q3 q4 nd hy hl (sw p.line)
section
variable{T:Tab}{nm:Nm}{W:Fd}{k:Nat}
def arq(Z:Dd T nm W k c X)(h:ayc T c l e tg v=true):PS X (.Assign [tg] v p) (tS nm W X.K EX (.asg l e)):=by
 cases l with
 |tg t =>
  simp only[ayc,ao,Ag] at h;obtain⟨⟨h1,h2⟩,R⟩:=h;rcases h2 with⟨G,L⟩|G
  .have g:=ae7 (nm:=nm) Z h1
   have sh:(∃n q,tg=.Name n q)\/∃ts k0 q,tg=.Tuple ts k0 q:=by
    cases t with
    |name i =>
     obtain⟨n,z1,_⟩:=ie h1;exact .inl ⟨n,De z1⟩
    |names is =>
     obtain⟨ts,z1,_⟩:=ie h1;exact .inr ⟨ts,Rq z1⟩
   rcases sh with⟨n,q,rfl⟩|⟨ts,k0,q,rfl⟩
   .exact alc (jb e Z R).v g.1 (Ue G _ _ _) rfl rfl
   .have w:atb v=true:=by
     rcases L with L|L
     .cases L
     .exact L
    have w2:swappedStores [.Tuple ts k0 q] v X.env=pure none:=by cases v<;>first|rfl|(cases w;done)
    exact alc (jb e Z R).v g.1 (Ue G _ _ _) w2 rfl
  .cases t with
   |name i=>rw[ao] at G;exact amm Z h1 G.1 G.2 R|names _=>cases G
 |sub o i =>
  replace h:=ie (show An (amd tg) _=true from h);obtain⟨⟨lo,li⟩,h0,h⟩:=h;obtain⟨p',rfl⟩:=Yc h0;simp only[ao] at h;obtain⟨h2,R,G,L⟩:=h;refine alj (V3 Z.room) (jb e Z R).v (jb o Z G).v (jb i Z L).v λv=>?_
  cases li<;>first|rfl|(cases h2;done)
 |fld o f =>
  replace h:=ie (show An (aq6 tg) _=true from h);obtain⟨⟨lo,n,p'⟩,h0,h⟩:=h;cases ae5 h0;simp only[ao] at h;obtain⟨⟨h1,h2⟩,R,G⟩:=h;obtain⟨t1,t2⟩:=Z.tab.fl _ _ (j8 h2);exact alk t1 t2 (jb e Z R).v (jb o Z G).v h1
def amn(h:(isStr t).isSome=true):∃s,t=.str s:=by obtain⟨s,e⟩:=ig.mp h;exact⟨s,(Qw (P:=λq=>t=.str q) e :)⟩
mutual
theorem ars:∀(s:Ar){c:Ctx}{X:Cx}{a:Stmt}{L:XK},Dd T nm W k c X->c.fn=true->XOn X L->akn X L->aye T s c a=true->PS X a (tS nm W X.K L s)
 |.asg l e,c,X,a,L,hc,hf,on,nw,h=>by
  replace h:=ie h;obtain⟨⟨ts,v⟩,G,h⟩:=h;obtain⟨p,rfl⟩:=ark G;replace h:=ie h;obtain⟨t,R,h⟩:=h;cases yt R;exact arq hc h
 |.expr e,c,X,a,L,hc,hf,on,nw,h=>by
  replace h:=ie h;obtain⟨v,G,h⟩:=h;obtain⟨p,rfl⟩:=afa G;simp only[ao] at h;exact ald (jb e hc h.2).v (Hb h.1 _ _ _)
 |.iff t x y,c,X,a,L,hc,hf,on,nw,h=>by
  replace h:=ie h;obtain⟨⟨q,l,r⟩,G,h⟩:=h;obtain⟨p,rfl⟩:=arl G;simp only[ao] at h;exact a3d ((jb t hc h.2.1).q h.1) (Ez x hc hf on nw h.2.2.1) (Ez y hc hf on nw h.2.2.2)
 |.whl t x,c,X,a,L,hc,hf,on,nw,h=>by
  replace h:=ie h;obtain⟨⟨q,l,r⟩,G,h⟩:=h;obtain⟨p,rfl⟩:=arn G;simp only[ao,o7] at h;obtain⟨⟨R,rfl⟩,h3,h4⟩:=h;exact a3e (hc.fnl hf).2.2 ((jb t hc h3).q R) (Ez x hc hf on nw h4)
 |.for_ t it x,c,X,a,L,hc,hf,on,nw,h=>by
  replace h:=ie h;obtain⟨⟨tg,qq,l,r⟩,G,h⟩:=h;obtain⟨p,rfl⟩:=aro G;simp only[ao,o7] at h;obtain⟨⟨R,h3,rfl⟩,h4,h5⟩:=h;exact a3g (hc.fnl hf).2.2 hc.calm (Od it hc h4) (ae7 hc R).1 (Ez x hc hf on nw h5) h3
 |.ret e,c,X,a,L,hc,hf,on,nw,h=>by
  replace h:=ie h;obtain⟨v,G,h⟩:=h;obtain⟨p,rfl⟩:=arp G;replace h:=ie h;obtain⟨w,rfl,h⟩:=h;exact a3c (jb e hc h).v
 |.cont,c,X,a,L,hc,hf,on,nw,h=>by
  obtain⟨p,rfl⟩:=aml h;exact axb
 |.raise j,c,X,a,L,hc,hf,on,nw,h=>by
  replace h:=ie h;obtain⟨e,G,h⟩:=h;obtain⟨p,rfl⟩:=arj G;replace h:=ie h;obtain⟨⟨x,ls⟩,R,h⟩:=h;obtain⟨p1,p2,Z⟩:=Eh R;have Z:e=_:=Z;subst Z;replace h:=ie h;obtain⟨l,h3,h⟩:=h;have Z:=yt h3;have Z:ls=_:=Z;subst Z;replace h:=ie h;obtain⟨t,h4,h⟩:=h;obtain⟨k0,p3,Z⟩:=N7 h4;have Z:l=_:=Z;subst Z;simp only[ao] at h;obtain⟨h5,h6,h7⟩:=h;obtain⟨qk,Z⟩:=amn h5;subst Z;obtain⟨g1,g2⟩:=Cz hc h6
  match j,h7 with
  |0,h7=>cases h7
  |j+1,h7 =>
   obtain⟨C,m,z,xc⟩:=hc.tab.xr j x (j8 h7);exact aq2 F.excBase_ValueError (by decide) F.excBase_ValueError xc nw hc.calm g1 m (nu g2).1 z
 |.exq f es,c,X,a,L,hc,hf,on,nw,h=>by
  replace h:=ie h;obtain⟨v,h0,h⟩:=h;obtain⟨p0,rfl⟩:=afa h0;replace h:=Bool.and_eq_true_iff.mp h;obtain⟨hp,h⟩:=h;replace h:=ie h;obtain⟨⟨n,ls⟩,G,h⟩:=h;obtain⟨p,p',Z⟩:=Eh G;have Z:v=_:=Z;subst Z;simp only[ao] at h;obtain⟨⟨R,h3,h4⟩,h5⟩:=h;obtain⟨l,ls,rfl⟩:=Yd h4;obtain⟨fa,fd,ps,F,FE,m,kp,b⟩:=hc.tab.fn _ _ _ (j8 R);obtain⟨g1,g2⟩:=Cz hc h3;obtain⟨e1,e2⟩:=Ey es hc h5;simp only[Am,ao] at e2;exact a4g F FE (hc.fnl hf).2.1 on (hc.room.mono x_) g1 m kp b rfl e1 (nu g2).1 (ou e2.1 _ _) (zp e2.2) (Hb hp _ _ _)
theorem Ez:∀(s:qm){c:Ctx}{X:Cx}{a:List Stmt}{EX:XK},Dd T nm W k c X->c.fn=true->XOn X EX->akn X EX->Lw T s c a=true->Lq X a (tSs nm W X.K EX s)
 |.nil,c,X,a,EX,hc,hf,on,nw,h=>by
  cases o7.mp h;exact axc
 |.cons s r,c,X,a,EX,hc,hf,on,nw,h=>by
  cases a with
  |nil=>cases h
  |cons G Z =>
   replace h:(aye T s c G&&Lw T r c Z)=true:=h;simp only[ao] at h;exact aqb (ars s hc hf on nw h.1) (Ez r hc hf on nw h.2)
end
end
structure Def where
 x:Str
 qual:Str
 N:List Str
 ps:List Str
 lm:Bool
noncomputable def scB(N G:Ya)(Z:Scope):Bool :=
 (decide (Z.kind=.function)&&(!Z.isCoroutine&&!Z.isGenerator))&&((decide N.Nodup&&decide (N.take G.length=G)) &&
 (G.all (λx=>Z.names.lookup x==some .local||Z.names.lookup x==some .cell)&&Z.names.all (λy=>!(y.2==NameKind.free))))
def amo(h:scB N ps sc=true):Nq N ps sc:=by simp only[scB,ao,bz,uv,ji] at h;obtain⟨⟨h1,R,h3⟩,⟨h4,G⟩,Z,L⟩:=h;exact⟨h1,R,h3,h4,G,λx m=>by have:=Z x m;simpa using this,λy m=>by have:=L y m;simpa using this⟩
def ahh(T:Tab)(d:Def)(F:MW.Fn)(Z:Stmt):Bool :=
 (scB d.N d.ps (jz Z)&&(decide (F.np=d.ps.length)&&decide (F.ns=d.N.length)))&&Lw T F.body ⟨d.N,(jz Z).names,true,[],d.lm⟩ (Av Z)
def art(K:Fg)(nm:Nm)(T:Tab)(d:Def)(L:Stmt)(f:Addr):Prop:=d.lm=true->∃(oc:Value)(od:Option Addr)(kV Z pm:Value)(an:Option Addr)(ct:Value)(G:Array (Option Value))(R P:Addr),
 K.lookup f=some ⟨oc,od,.func (PySem.W.fnOf d.x d.qual (Ci L) (Av L) (jz L) .none kV Z pm an (.ref R) ct),G⟩/\PySem.W.codeHdIn K R P=true/\nm.tb=some (P,T.lp,d.qual++".<locals>."++"<lambda>")
set_option tactic.hygienic true in
def aru{F:MW.Fn}(h:F.run W ds M=.ok d C):ds.length=F.np/\∃Y Z,F.body.den W (ds.map some++List.replicate (F.ns-F.np) none) M=.ok (Y,Z) C/\(Y=.ret d\/(Y=.next/\d=.non)):=by
 unfold MW.Fn.run at h;split at h
 .rename_i J
  obtain⟨⟨Y,Z⟩,L,G,e⟩:=dj h;refine⟨J,Y,Z,?_⟩;cases Y with
  |ret z=>cases e;exact⟨G,.inl rfl⟩|next=>cases e;exact⟨G,.inr ⟨rfl,rfl⟩⟩|brk=>cases e|cont=>cases e|err=>cases e
 .cases h
set_option tactic.hygienic true in
def amq{F:MW.Fn}(h:F.Yw W ds M=some (c,M')):ds.length=F.np/\∃Z,F.body.den W (ds.map some++List.replicate (F.ns-F.np) none) M=.ok (.err c,Z) M':=by
 unfold MW.Fn.Yw at h;split at h
 .rename_i Y
  refine⟨Y,?_⟩;split at h
  .rename_i e
   cases h;exact⟨_,e⟩
  .cases h
 .cases h
def ayf{R:MW.Prog}(U:Fun K d.x d.qual st f fd)(L:art K nm T d st f)(hF:R.fns[i]?=some F)(h:ahh T d F st=true)(hT:ae3 T nm (R.Mr n) k P w K mg base):Cr P w K mg base V2 (k+17) f fd d.ps (spF nm (R.Mr (n+1)) K F.np i)/\Cr P w K mg base (Yp P w) (k+17) f fd d.ps (spE nm (R.Mr (n+1)) K F.np i):=by
 simp only[ahh,ao,bz] at h;obtain⟨⟨h1,h2,h3⟩,h4⟩:=h;have S:=amo h1;have go:∀Z M d' M',MW.Fd.call (R.Mr (n+1)) i Z M=.ok d' M'->F.run (R.Mr n) Z M=.ok d' M':=λZ M d' M' e=>by have e:(match R.fns[i]? with|some F=>F.run (R.Mr n) Z M|none=>.bad)=Res.ok d' M':=e;rw[hF] at e;exact e
 have q1:∀Z M c M',MW.Fd.cae (R.Mr (n+1)) i Z M=some (c,M')->F.Yw (R.Mr n) Z M=some (c,M'):=λZ M c M' e=>by have e:(match R.fns[i]? with|some F=>F.Yw (R.Mr n) Z M|none=>none)=some (c,M'):=e;rw[hF] at e;exact e
 have q0:∀{ι H Z vs},jw K ι H Z vs->Z.length=F.np->qu K ι H (Z.map some++List.replicate (F.ns-F.np) none) (L2.start d.N vs):=λr l=>by unfold L2.start;exact(qu.ak7 r).append (qu.ak6 _ (by rw[v7,h3,<- r.length,l]))
 obtain⟨oc,od,kV,zw,pm,an,qk,ct,q8,rfl,lk,Rx⟩:=U.ex;have lm:d.lm=true->∃cc P,qk=.ref cc/\PySem.W.codeHdIn K cc P=true/\nm.tb=some (P,T.lp,d.qual++".<locals>."++"<lambda>"):=λz=>by obtain⟨zg,q3,zk,q6,q4,zv,q7,q5,cc,P,e,q⟩:=L z;rw[lk] at e;have e:=(Data.func.inj (Obj.mk.inj (gf e)).2.2.1 :);exact⟨cc,P,(nq FuncData.code e :),q⟩
 constructor
 .refine asr (k:=k+16) lk Rx S (λvs H Q E ⟨ι,M,Z,d',M',_,r,l,e,_⟩=>by rw[<- r.length,l,h2]) (λA G s H vs Q E hr z_=>?_)
  obtain⟨ι,M,Z,d',M',SM,r,l,e,q⟩:=z_;have hc:Dd T nm (R.Mr n) k ⟨d.N,(jz st).names,true,[],d.lm⟩ (Hi V2 P w K mg base d.N d.qual (jz st) f qk A G s H E).nox :=
   ⟨rfl,S.nd,rfl,S.kind,rfl,hr,λ_=>⟨λ_=>rfl,rfl,PassesOwn.never⟩,hT,λ_ z=>(di z).elim,lm⟩
  refine⟨_,(Ez F.body (EX:=λ_ _ _=>False) hc rfl (λ_ _ _ _ _ _ _ _ _ _ _ z=>z.elim) (λ_ _ _ _ _ _ _ _ _ _ z=>z.elim) h4).nox,?_⟩;obtain⟨hl,fl,qv,e1,e2⟩:=aru (go _ _ _ _ e);refine⟨ι,_,M,fl,qv,M',SM,q0 r l,e1,λqq H' q2 le S' R'=>?_⟩;rcases e2 with rfl|⟨rfl,rfl⟩
  .exact λv rv=>q qq H' v le S' rv
  .exact q qq H' _ le S' .non
 .refine asr (k:=k+16) lk Rx S (λvs H Q E ⟨ι,M,Z,c,M',_,r,l,e,_⟩=>by rw[<- r.length,l,h2]) (λA G s H vs Q E hr z_=>?_)
  obtain⟨ι,M,Z,c,M',SM,r,l,e,q⟩:=z_;have hc:Dd T nm (R.Mr n) k ⟨d.N,(jz st).names,true,[],d.lm⟩ (Hi (Yp P w) P w K mg base d.N d.qual (jz st) f qk A G s H E) :=
   ⟨rfl,S.nd,rfl,S.kind,rfl,hr,λ_=>⟨λ_=>rfl,rfl,PassesOwn.leaving⟩,hT,λ_ z=>(di z).elim,lm⟩
  refine⟨_,Ez F.body (EX:=E) hc rfl awr apy h4,?_⟩;obtain⟨hl,qv,e1⟩:=amq (q1 _ _ _ _ e);exact⟨ι,_,M,_,qv,M',SM,q0 r l,e1,λqq H' q2 le S' R' C hC=>q C hC qq H' le S'⟩
noncomputable def rN:List Str:=["call", "error", "e", "kinds"]
structure Ask(K:Fg)(mg:Zs)(nm:Nm)(T:Tab)(rf:MW.Fn)(xn qual:Str)(st:Stmt)(fr:Addr)(fd:FuncData):Prop where
 U:Fun K xn qual st fr fd
 b:Binds K fd ["call"] []
 sc:(scB rN ["call"] (jz st)&&(((jz st).names.lookup ("call" : Str)==some NameKind.local&&(jz st).names.lookup ("error" : Str)==some NameKind.local)&&((jz st).names.lookup ("e" : Str)==some NameKind.local&&((jz st).names.lookup ("MapError" : Str)==some NameKind.globalImplicit&&rf.ns==4))))=true
 ex:∃(rest:List Stmt)(j1:Nat)(p1 p2 p3 p4 p5 p6 p7 p8 p9 p10 p11 p12:Pos),Av st=.Assign [.Name "error" p1] (.Constant .none j1 p2) p3::.Try [.Expr (.Call (.Name "call" p4) [] [] p5) p6] [.ExceptHandler (some (.Name "MapError" p7)) (some "e") [.Assign [.Name "error" p8] (.Name "e" p9) p10] p11] [] [] p12::rest /\
  Lw T rf.body ⟨rN,(jz st).names,true,[],false⟩ rest=true
 xb:∃B,mg "MapError" = some (.ref B)/\∀c C,nm.xc c=some C->Zy K C B=true
def ayg{Z:MW.Prog}(a:Ask K mg nm T Z.rf xn qual st fr fd)(hT:ae3 T nm (Z.Mr n) k P w K mg base):ahb nm P w K mg base (Z.Mr (n+1)) (k+17) fr:=by
 obtain⟨U,b,L,⟨R,j1,p1,p2,p3,p4,p5,p6,p7,p8,p9,q0,qk,qv,e,h⟩,B,mB,xs⟩:=a;simp only[ao] at L;obtain⟨h1,⟨h2,h3⟩,h4,h5,h6⟩:=L;have S:=amo h1;refine a4l (W':=Z.Mr n) (rf:=Z.rf) U b e S (eq_of_beq h2) (eq_of_beq h3) (eq_of_beq h4) (eq_of_beq h5) mB xs (λ_ _=>rfl) (eq_of_beq h6) λqq A G s H E hr=>?_
 refine Ez Z.rf.body (T:=T) (k:=k) (c:=⟨rN,(jz st).names,true,[],false⟩) ⟨rfl,S.nd,rfl,S.kind,rfl,hr.mono (by lia),λ_=>⟨λ_=>rfl,rfl,PassesOwn.never⟩,hT,λ_ z=>(di z).elim,λz=>(di z).elim⟩ rfl (λ_ _ _ _ _ _ _ _ _ _ _ z=>z.elim) (λ_ _ _ _ _ _ _ _ _ _ z=>z.elim) h
theorem afb{nm:Nm}{P:Program}{w:World}{K:Fg}{mg:Zs}{base:Heap}{IR:MW.Prog}{T:Tab}{D:Nat->Def}{st:Nat->Stmt}{fa:Nat->Addr}{fd:Nat->FuncData}{qk:Stmt}{xn R:Str}{fr:Addr}{rfd:FuncData}
 (U:∀i,i<IR.fns.length->Fun K (D i).x (D i).qual (st i) (fa i) (fd i)/\art K nm T (D i) (st i) (fa i)) (h:∀i F,IR.fns[i]?=some F->ahh T (D i) F (st i)=true) (L:Ask K mg nm T IR.rf xn R qk fr rfd)
 (mk:∀n,(∀i F,IR.fns[i]?=some F->Cr P w K mg base V2 (17*n) (fa i) (fd i) (D i).ps (spF nm (IR.Mr n) K F.np i)/\Cr P w K mg base (Yp P w) (17*n) (fa i) (fd i) (D i).ps (spE nm (IR.Mr n) K F.np i))->ahb nm P w K mg base (IR.Mr n) (17*n) fr->ae3 T nm (IR.Mr n) (17*n) P w K mg base) :
 ∀n,(∀i F,IR.fns[i]?=some F->Cr P w K mg base V2 (17*n) (fa i) (fd i) (D i).ps (spF nm (IR.Mr n) K F.np i)/\Cr P w K mg base (Yp P w) (17*n) (fa i) (fd i) (D i).ps (spE nm (IR.Mr n) K F.np i))/\ahb nm P w K mg base (IR.Mr n) (17*n) fr
 | 0=>⟨λi F G=>⟨⟨(λvs H Q E ⟨ι,M,ds,d',M',_,r,l,e,_⟩=>by cases e),λA Z s H qq us vs Q E hr he hb hv ⟨ι,M,ds,d',M',_,r,l,e,_⟩=>by cases e⟩,
  ⟨(λvs H Q E ⟨ι,M,ds,c,M',_,r,l,e,_⟩=>by cases e),λA Z s H qq us vs Q E hr he hb hv ⟨ι,M,ds,c,M',_,r,l,e,_⟩=>by cases e⟩⟩,⟨λA Z s H Q fa vs n f hr e0 h1 h2 h3 th ⟨ι,M,ds,r,M1,d,M2,_,_,_,_,e,_⟩=>by cases e⟩⟩
 |n+1=>by
  obtain⟨g1,g2⟩:=afb U h L mk n;have T:=mk n g1 g2;exact⟨λi F G=>ayf (U i (aq.mp G).1).1 (U i (aq.mp G).1).2 G (h i F G) T,ayg L T⟩
noncomputable def a5j(s:Str):Bool:=s.cps[0]?==some 0
def arv(Z:Ya):Bool:=decide Z.Nodup&&Z.all λs=>!a5j s
noncomputable def ahi(Z:Ya)(i:Nat):Str:=match Z[i]? with|some s=>s|none=>⟨#[0,0,i]⟩
def amr(h:arv Uv=true)(i j:Nat)(e:ahi Uv i=ahi Uv j):i=j:=by
 simp only[arv,ao,bz,ji] at h;have Z:∀k,a5j ⟨#[0,0,k]⟩=true:=λk=>rfl
 unfold ahi at e;cases hi:Uv[i]? with
 |some a =>
  rw[hi] at e;cases hj:Uv[j]? with
  |some b =>
   rw[hj] at e;have e:a=b:=e;subst e;obtain⟨l1,L⟩:=aq.mp hi;obtain⟨R,G⟩:=aq.mp hj;exact(vq h.1).mp (L.trans G.symm)
  |none =>
   rw[hj] at e;have e:a=⟨#[0,0,j]⟩:=e;have:=h.2 a (cj hi);rw[e,Z] at this;cases this
 |none =>
  rw[hi] at e;cases hj:Uv[j]? with
  |some b =>
   rw[hj] at e;have e:(⟨#[0,0,i]⟩:Str)=b:=e;have:=h.2 b (cj hj);rw[<- e,Z] at this;cases this
  |none =>
   rw[hj] at e;have e:(⟨#[0,0,i]⟩:Str)=⟨#[0,0,j]⟩:=e;simpa using e
section
variable(K:Fg)(mg:Zs)
def Ye:List Def->List Stmt->List Addr->List FuncData->Prop
 |d::ds,s::ss,a::as,f::fs=>(Fun K d.x d.qual s a f/\Binds K f d.ps [])/\Ye ds ss as fs|[],[],[],[]=>True|_,_,_,_=>False
def Px:List (Option (Str×Nat))->List Addr->Prop
 |some p::r,a::as=>mg p.1=some (.ref a)/\Px r as|none::r,_::as=>Px r as|_,_=>True
def AllK(D:Addr)(j:Nat):List (Nat×Addr)->Prop
 |p::r=>PySem.W.kitOne K (.ref p.2) (.ref D)=some (p.1==j+1)/\AllK D j r|[]=>True
def Yg(Z:List (Nat×Addr)):List (Str×Bool)->List Addr->Nat->Prop
 |p::r,D::ds,j=>(mg p.1=some (.ref D)/\(p.2=true->Z.lookup (j+1)=some D)/\AllK K D j Z/\PySem.W.kitOne K (.type "NoneType") (.ref D)=some false)/\Yg Z r ds (j+1)|[],_,_=>True|_::_,[],_=>False
def Yi(B:Addr):List (Nat×Addr)->Prop
 |p::r=>(acf K p.2 aq5 "ValueError.__new__"/\acg K p.2=true/\PySem.W.kitOne K (.ref p.2) (.type "ValueError")=some true/\Zy K p.2 B=true)/\Yi B r|[]=>True
def aax(C:Addr):List Str->Prop
 |x::r=>Il K C x/\aax C r|[]=>True
structure ClF(T:Tab)(fas:X0)(C:Addr):Prop where
 mg:mg T.cx=some (.ref C)
 cs:Cls K C
 ini:∃f,fas[T.ci]?=some f/\Mk K C f
 na:aax K C T.Uv
def Yj:List (Str×Int)->Prop
 |p::r=>(∃t,mg p.1=some (.int p.2 t))/\Yj r|[]=>True
def AllB:List Str->Prop
 |x::r=>mg x=none/\AllB r|[]=>True
end
theorem Ye.get{K:Fg}:∀{G:List Def}{Z:List Stmt}{as:X0}{fs:List FuncData}{i:Nat}{d:Def},Ye K G Z as fs->G[i]?=some d->∃s a f,Z[i]?=some s/\as[i]?=some a/\fs[i]?=some f/\Fun K d.x d.qual s a f/\Binds K f d.ps []
 |d::G,s::Z,a::as,f::fs,0,d',h,e=>by cases e;exact⟨s,a,f,rfl,rfl,rfl,h.1⟩
 |d::G,s::Z,a::as,f::fs,i+1,d',h,e=>by
  obtain⟨s',R,f',L,h2,h3,h4⟩:=Ye.get (i:=i) h.2 (by simpa using e);exact⟨s',R,f',by simpa using L,by simpa using h2,by simpa using h3,h4⟩
theorem Px.get{mg:Zs}:∀{l:List (Option (Str×Nat))}{as:X0}{i:Nat}{p:Str×Nat}{a:Addr},Px mg l as->l[i]?=some (some p)->as[i]?=some a->mg p.1=some (.ref a)
 |some q::l,b::as,0,p,a,h,e,e2=>by cases e;cases e2;exact h.1|none::l,b::as,0,p,a,h,e,e2=>by cases e|some q::l,b::as,i+1,p,a,h,e,e2=>Px.get (i:=i) h.2 (by simpa using e) (by simpa using e2)|none::l,b::as,i+1,p,a,h,e,e2=>Px.get (i:=i) (l:=l) (as:=as) h (by simpa using e) (by simpa using e2)
theorem AllK.get{K:Fg}{D:Addr}{j:Nat}:∀{l:List (Nat×Addr)}{p:Nat×Addr},AllK K D j l->p∈l->PySem.W.kitOne K (.ref p.2) (.ref D)=some (p.1==j+1)
 |q::l,p,h,m=>by
  rcases bx.mp m with z|z
  .rw[z];exact h.1
  .exact AllK.get h.2 z
theorem Yi.get{K:Fg}{B:Addr}:∀{l:List (Nat×Addr)}{p:Nat×Addr},Yi K B l->p∈l->acf K p.2 aq5 "ValueError.__new__"/\acg K p.2=true/\PySem.W.kitOne K (.ref p.2) (.type "ValueError")=some true/\Zy K p.2 B=true
 |q::l,p,h,m=>by
  rcases bx.mp m with z|z
  .rw[z];exact h.1
  .exact Yi.get h.2 z
theorem Yg.get{K:Fg}{mg:Zs}{Z:List (Nat×Addr)}:∀{l:List (Str×Bool)}{G:X0}{j i:Nat}{p:Str×Bool},Yg K mg Z l G j->l[i]?=some p->∃D,mg p.1=some (.ref D)/\(p.2=true->Z.lookup (j+i+1)=some D)/\AllK K D (j+i) Z/\PySem.W.kitOne K (.type "NoneType") (.ref D)=some false
 |q::l,D::G,j,0,p,h,e=>by cases e;exact⟨D,h.1⟩
 |q::l,D::G,j,i+1,p,h,e=>by
  obtain⟨R,L⟩:=Yg.get (i:=i) h.2 (by simpa using e);exact⟨R,by rw[show j+(i+1)=j+1+i by lia];exact L⟩
 |_::_,[],_,_,_,h,_=>h.elim|[],_,_,_,_,_,e=>by simp at e
theorem aax.get{K:Fg}{C:Addr}:∀{l:Ya}{x:Str},aax K C l->x∈l->Il K C x
 |y::l,x,h,m=>by
  rcases bx.mp m with z|z
  .rw[z];exact h.1
  .exact aax.get h.2 z
theorem Yj.get{mg:Zs}:∀{l:List (Str×Int)}{x:Str}{i:Int},Yj mg l->(x,i)∈l->∃t,mg x=some (.int i t)
 |q::l,x,i,h,m=>by
  rcases bx.mp m with z|z
  .rw[<- z] at h;exact h.1
  .exact Yj.get h.2 z
theorem AllB.get{mg:Zs}:∀{l:Ya}{x:Str},AllB mg l->x∈l->mg x=none
 |q::l,x,h,m=>by
  rcases bx.mp m with z|z
  .rw[z];exact h.1
  .exact AllB.get h.2 z
def arw(T:Tab):List MW.Fn->List Def->List Stmt->Bool
 |F::Fs,d::ds,s::ss=>ahh T d F s&&arw T Fs ds ss|[],[],[]=>true|_,_,_=>false
noncomputable def npB(Z:List MW.Fn)(f n:Nat):Bool:=match Z[f]? with|some F=>F.np==n|none=>false
def tfB(Z:List MW.Fn)(l:List (Option (Str×Nat))):Bool:=l.zipIdx.all λq=>match q.1 with|some p=>npB Z q.2 p.2|none=>true
def Uq{Z:Type}{l:List Z}{g:Z×Nat->Bool}(h:l.zipIdx.all g=true){x:Z}(e:l[i]?=some x):g (x,i)=true:=by rw[ji] at h;exact h (x,i) (by rw[jr];exact⟨i,by rw[yz,e];simp⟩)
set_option tactic.hygienic true in
def ams(h:npB fns f n=true):∃F,fns[f]?=some F/\F.np=n:=by
 unfold npB at h;split at h
 .rename_i F e;exact⟨F,e,eq_of_beq h⟩
 .cases h
theorem Ur{T:Tab}:∀{Z:List MW.Fn}{L:List Def}{G:List Stmt}{i:Nat}{F:MW.Fn},arw T Z L G=true->Z[i]?=some F->∃d s,L[i]?=some d/\G[i]?=some s/\ahh T d F s=true
 |F::Z,d::L,s::G,0,F',h,e=>by
  replace h:=Bool.and_eq_true_iff.mp h;cases e;exact⟨d,s,rfl,rfl,h.1⟩
 |F::Z,d::L,s::G,i+1,F',h,e=>by
  replace h:=Bool.and_eq_true_iff.mp h;obtain⟨d',s',R,h2,h3⟩:=Ur (i:=i) h.2 (by simpa using e);exact⟨d',s',by simpa using R,by simpa using h2,h3⟩
 |[],_,_,_,_,_,e=>by simp at e|_::_,[],_,_,_,h,_=>by cases h|_::_,_::_,[],_,_,h,_=>by cases h
def ayh(C:Addr)(Z:Ya)(h:arv Z=true)(R:List (Nat×Addr))(L:Addr)(G:Pos)(q:Str):Nm:=⟨λc=>if c=0 then some C else none,ahi Z,amr h,λc=>R.lookup c,some (L,G,q)⟩
set_option tactic.hygienic true in
def ayi{IR:MW.Prog}{F:MW.Fn}(hP:arw T IR.fns Ds ss=true)(h1:tfB IR.fns T.fns=true)(aF:Ye K Ds ss fas fds)(aG:Px mg T.fns fas)(aV:Yj mg T.aq4)(aB:AllB mg Ku)(aX:Yg K mg Yh T.xcs xds 0)(aE:Yi K B Yh)(qk:Ask K mg nm T IR.rf xn qual rst fr rfd)(mR:mg T.rx=some (.ref fr))(bm:BMain mg base)(hn:nm.xc=λc=>Yh.lookup c)(q0:nm.cls=λc=>if c=0 then some C else none)(q4:nm.fld=ahi T.Uv)(cF:ClF K mg T fas C)(h4:npB IR.fns T.ci 4=true)
 (hl:(Ds.zipIdx.all λq=>!q.1.lm||q.2==jl)=true) (q1:Ds[jl]?=some dl) (q2:ss[jl]?=some sl) (q3:fas[jl]?=some al) (aL:art K nm T dl sl al) (hF:IR.fns[i]?=some F) :
 ∃d a f,Ds[i]?=some d/\fas[i]?=some a/\fds[i]?=some f/\Binds K f d.ps []/\Cr P w K mg base V2 (17*n) a f d.ps (spF nm (IR.Mr n) K F.np i):=by
 let dd:Def:=⟨Str.empty,Str.empty,[],[],false⟩
 let sd:Stmt:=.Pass ⟨0,0,0,0⟩
 obtain⟨d,s,g1,g2,g3⟩:=Ur hP hF;have all:∀(i:Nat)(F:MW.Fn),IR.fns[i]?=some F->∃d s a f,Ds[i]?=some d/\ss[i]?=some s/\fas[i]?=some a/\fds[i]?=some f/\Fun K d.x d.qual s a f/\Binds K f d.ps []/\ahh T d F s=true:=λi F e=>by
  refine hG λ_ _k=>?_
  obtain⟨d,s,g1,g2,g3⟩:=Ur hP e;obtain⟨s',a,f,Z,L,Y,J,R⟩:=aF.get g1;rw[g2] at Z;cases Z;apply _k;exact⟨d,s,a,f,g1,g2,L,Y,J,R,g3⟩
 obtain⟨qq,q5⟩:∃qq:FuncData,True:=by obtain⟨s',a,f,_⟩:=aF.get g1;exact⟨f,trivial⟩
 have qv:=(afb (nm:=nm) (P:=P) (w:=w) (K:=K) (mg:=mg) (base:=base) (IR:=IR) (T:=T) (D:=λi=>Ds[i]?.getD dd) (st:=λi=>ss[i]?.getD sd) (fa:=λi=>(fas[i]?).getD 0) (fd:=λi=>(fds[i]?).getD qq)
  (λi hi=>by
   refine hG λ_ _k=>?_
   obtain⟨d,s,a,f,Z,L,Y,J,R,S,k7⟩:=all i IR.fns[i] (by simp[hi]);have k8:art K nm T d s a:=λz=>by have y:=Uq hl Z;simp only[z,jo,Bool.false_or] at y;have y:i=jl:=eq_of_beq y;subst y;rw[Z] at q1;cases q1;rw[L] at q2;cases q2;rw[Y] at q3;cases q3;exact aL z
   apply _k;rw[Z,L,Y,J];exact⟨R,k8⟩)
  (λi F e=>by
   refine hG λ_ _k=>?_
   obtain⟨d,s,a,f,Z,L,Y,J,R,S,k7⟩:=all i F e;apply _k;rw[Z,L];exact k7)
  qk (λn G RF=>?_) n).1 i F hF
 .refine hG λ_ _k=>?_
  obtain⟨d',s',a,f,Z,L,Y,J,R,S,k7⟩:=all i F hF;apply _k;refine⟨d',a,f,Z,Y,J,S,?_⟩;have:=qv.1;rw[Z,Y,J] at this;exact this
 ·
  have xe:∀{c C},nm.xc c=some C->Yh.lookup c=some C:=λe=>by rw[hn] at e;exact e
  refine⟨λf x m e=>?_,λx i m=>aV.get m,λx m=>aB.get m,λj x e=>?_,λj x b e=>?_,λj x b D e m=>?_,λc C e=>?_,⟨fr,RF,mR,qk.U.kp⟩,bm,λf x e=>?_,?_⟩
  .refine hG λ_ _k=>?_
   obtain⟨F,e1,e2⟩:=ams (Uq h1 e);obtain⟨d,s,a,fd,Z,L,Y,J,R,S,k7⟩:=all f F e1;have g:=G f F e1;rw[Z,Y,J,e2] at g;apply _k;exact⟨a,fd,d.ps,g.1,g.2,aG.get e Y,R.kp,S⟩
  .obtain⟨D,m,z,_,_⟩:=aX.get e
   have z:=z rfl;rw[t8] at z;exact⟨D,m,by rw[hn];exact z,(aE.get (L2.mem_of_lookup z)).1⟩
  .obtain⟨D,m,_,z,_⟩:=aX.get e
   rw[t8] at z;exact⟨D,m,λc C e=>z.get (L2.mem_of_lookup (xe e))⟩
  .obtain⟨D',m',_,_,z⟩:=aX.get e
   rw[m] at m';cases m';exact z
  .have:=aE.get (L2.mem_of_lookup (xe e))
   exact⟨this.2.1,this.2.2.1⟩
  .refine⟨by rw[q4];unfold ahi;rw[e],λc C' u=>?_⟩
   rw[q0] at u;have u:(if c=0 then some C else none)=some C':=u;split at u
   .cases u;exact⟨cF.cs,cF.na.get (cj e)⟩
   .cases u
  .refine hG λ_ _k=>?_
   obtain⟨F,e1,e2⟩:=ams h4;obtain⟨f0,i1,i2⟩:=cF.ini;obtain⟨d,s,a,fd,Z,L,Y,J,R,S,k7⟩:=all T.ci F e1;rw[i1] at Y;cases Y;have g:=G T.ci F e1;rw[Z,i1,J,e2] at g;apply _k;exact⟨C,f0,fd,d.ps,i2,g.1,g.2,cF.mg,S,by rw[q0];rfl⟩
def fN:Ye K [] [] [] []:=trivial
def gN:Px mg [] as:=trivial
def gS(h:mg p.1=some (.ref a))(t:Px mg r Z):Px mg (some p::r) (a::Z):=⟨h,t⟩
def gO(t:Px mg r Z):Px mg (none::r) (a::Z):=t
def kN:AllK K D j []:=trivial
def kC(h:PySem.W.kitOne K (.ref p.2) (.ref D)=some (p.1==j+1))(t:AllK K D j r):AllK K D j (p::r):=⟨h,t⟩
def xN:Yg K mg Z [] ds j:=trivial
def xC(m:mg p.1=some (.ref D))(z:p.2=true->Z.lookup (j+1)=some D)(h:AllK K D j Z)(o:PySem.W.kitOne K (.type "NoneType") (.ref D)=some false)(t:Yg K mg Z r ds (j+1)):Yg K mg Z (p::r) (D::ds) j:=⟨⟨m,z,h,o⟩,t⟩
def Py(c:PySem.W.clsIn K D=some q)(t:PySem.W.typeIn K (.ref D)=some (.type "type"))(h:PySem.W.subIn K (.type "NoneType") (.ref D)=some false):PySem.W.kitOne K (.type "NoneType") (.ref D)=some false:=by unfold PySem.W.kitOne;rw[az (by intro z;cases v8.mp z)];unfold PySem.W.kitCls;dsimp only;rw[c,t,h];rfl
def eN:Yi K B []:=trivial
def Oe(c:PySem.W.clsIn K D=some q)(t:PySem.W.typeIn K (.ref D)=some (.type "type"))(h:PySem.W.subIn K (.ref C) (.ref D)=some b)(e:(C==D)=false):PySem.W.kitOne K (.ref C) (.ref D)=some b:=by
 unfold PySem.W.kitOne;split
 .rename_i z
  rw[Value.ref.inj (v8.mp z)] at e;simp at e
 .unfold PySem.W.kitCls
  dsimp only;rw[c,t,h];rfl
def amt(h:C=D):PySem.W.kitOne K (.ref C) (.ref D)=some true:=by subst h;unfold PySem.W.kitOne;simp
def arx(h:PySem.W.subIn K (.ref C) (.type "ValueError")=some true):PySem.W.kitOne K (.ref C) (.type "ValueError")=some true:=by
 unfold PySem.W.kitOne;split
 .rfl
 .unfold PySem.W.kitCls
  have:PySem.W.kitMeta "ValueError" = true:=by decide+kernel
  simp only[this,h];rfl
def eC(x:PySem.W.excIn K p.2 aq5 "ValueError.__new__" = true)(ga:PySem.W.findIn K (.ref p.2) "__getattribute__" = some (some (.builtin "BaseException.__getattribute__")))(Z:PySem.W.findIn K (.ref p.2) "__getattr__" = some none)(R:PySem.W.findIn K (.ref p.2) "__class__" = some (some (.builtin "object.__class__")))
 (sB:PySem.W.subIn K (.ref p.2) (.type "BaseException")=some true) (sO:PySem.W.subIn K (.ref p.2) (.type "object")=some true) (is:PySem.W.clsIn K p.2=some q) (L:PySem.W.subIn K (.ref p.2) (.type "ValueError")=some true)
 (m1:PySem.W.subIn K (.ref p.2) (.ref B)=some true) (m2:PySem.W.subIn K (.ref B) (.type "BaseException")=some true) (m3:PySem.W.typeIn K (.ref B)=some (.type "type")) (G:PySem.W.clsIn K B=some q') (t:Yi K B r):Yi K B (p::r) :=
 ⟨⟨⟨x⟩,by unfold acg;rw[ga,Z,R,sB,sO,is];rfl,arx L,by unfold Zy;rw[m1,m2,m3,G];rfl⟩,t⟩
def nN:aax K C []:=trivial
def nC(h:Il K C x)(t:aax K C r):aax K C (x::r):=⟨h,t⟩
def vN:Yj mg []:=trivial
def vC(h:mg p.1=some (.int p.2 t))(q:Yj mg r):Yj mg (p::r):=⟨⟨t,h⟩,q⟩
def bN:AllB mg []:=trivial
def bC(h:mg x=none)(q:AllB mg r):AllB mg (x::r):=⟨h,q⟩
abbrev Lk(K:Fg)(f:Addr)(x q:Str)(st:Stmt)(oc:Value)(od:Option Addr)(kV dc pm:Value)(an:Option Addr)(cd ct:Value)(sl:Array (Option Value)):Prop :=
 K.lookup f=some ⟨oc,od,.func (PySem.W.fnOf x q (Ci st) (Av st) (jz st) .none kV dc pm an cd ct),sl⟩/\PySem.W.codeIn K cd q=true/\PySem.W.keepIn K (.ref f)=true
noncomputable def ayj:Nat->(List Value->Prop)->Prop|0,P=>P []|n+1,P=>∀a,ayj n λZ=>P (a::Z)
theorem afc:∀{us:Zl}{P:List Value->Prop},ayj us.length P->P us|[],_,h=>h|a::us,_,h=>afc (us:=us) (h a)
def fE{kV:Value}(l:Lk K a d.x d.qual s oc od kV dc pm Z cd R sl)(r:Ye K ds ss as fs)
 (b:∀(kV G pm:Value)(Z:Option Addr)(L R:Value),ayj d.ps.length λus=>bindArgs (PySem.W.fnOf d.x d.qual (Ci s) (Av s) (jz s) .none kV G pm Z L R) ⟨us,[]⟩=pure (d.ps.zip us):=by(repeat intro _);rfl) :
 Ye K (d::ds) (s::ss) (a::as) (PySem.W.fnOf d.x d.qual (Ci s) (Av s) (jz s) .none kV dc pm Z cd R::fs):=⟨⟨Xm l.1 l.2.1 l.2.2,(Xm l.1 l.2.1 l.2.2).binds λ_ _ _ _ _ _ _ e=>afc (e▸b _ _ _ _ _ _)⟩,r⟩
def a5l{kV:Value}(l:Lk K fr Z qual s oc od kV dc R G cd L sl)
 (b:∀(kV qq R:Value)(G:Option Addr)(qk L:Value)(u:Value),bindArgs (PySem.W.fnOf Z qual (Ci s) (Av s) (jz s) .none kV qq R G qk L) ⟨[u],[]⟩=pure [(("call" : Str),u)]:=by(repeat intro _);rfl) :
 Fun K Z qual s fr (PySem.W.fnOf Z qual (Ci s) (Av s) (jz s) .none kV dc R G cd L)/\Binds K (PySem.W.fnOf Z qual (Ci s) (Av s) (jz s) .none kV dc R G cd L) ["call"] [] :=
 ⟨Xm l.1 l.2.1 l.2.2,(Xm l.1 l.2.1 l.2.2).binds λ_ _ _ _ _ _ us e=>match us,e with|[u],_=>b _ _ _ _ _ _ u⟩
noncomputable def afd(L:Addr)(K:Fg):Sp:=λR H Q _=>∃(a:Addr)(Z:X1),R=[.ref a]/\Z0 L H/\Ha K H a (Z.map V.int)/\Z.length<=63/\∀G,Q (.bl true) G
def arz(o:Z0 Z H)(h:Ha K H a vs):Xr K H a vs:=by
 rcases h with(h|h)|h
 .by_cases z:a=Z
  .rw[z,show H Z=_ from o.1] at h;cases h
  .rcases o.2 a z with z|⟨ob,xs,z⟩<;>rw[z] at h<;>cases h
 .exact .inl h
 .exact .inr h
def ar0(run:∀(Z:X1),Z.length<=63->∃G,W.call i [.fz (Z.map MW.D.int)] []=.ok (.bl true) G)(h:afd Pt K vs H Q E):spF (ayh C Uv hf Yh Pt lp q) W K 1 i vs H Q E:=by
 obtain⟨a,Z,rfl,o,L,hl,k⟩:=h;obtain⟨G,e⟩:=run Z hl;refine⟨⟨[],[]⟩,[],_,_,G,⟨rfl,List.nodup_nil,by simp,λn o a h=>by simp at h,λt R=>?_⟩,.cons (.fz (arz o L) (jw.ints Z)) .nil,rfl,e,λqq H' v le S' r=>?_⟩
 .cases R
  exact⟨#[],o.1,.inl rfl⟩
 .cases r
  exact k H'
def walk{l:PySem.W.OpenLaw}{K:Params->Fg}(hn:l.most=some 63)(G:d.params.defaults=[])(hY:∀(w:World) (h:Heap),YP w h->(K w.params).In h/\h.get? Pt=some (PySem.W.tabObj #[]))(L:∀w:World,(K w.params).lookup Pt=none)(R:∀w:World,PySem.W.codeHdIn (K w.params) ct Pt=true)(F:∀(w:World) (mg:Zs) (fa:Addr) (h:Heap),(K w.params).In h->h.Ns mainGlobals mg->mg d.name=some (.ref fa) ->
 ∃fd:FuncData,(∀(s:Shared) (u:Value),BindsTo s fd ⟨[u],[]⟩ [("script",u)])/\∀Z:Heap,(K w.params).In Z->Z.Ns mainGlobals mg->BMain mg Z->Cr l.prog w (K w.params) mg Z V2 170 fa fd ["script"] (afd Pt (K w.params))) :
 PySem.W.WalkO q loose XP YP l.row.toRowW d [] (λf vs=>PySem.call f vs) :=
 L2.ak2 (n:=63) (k:=170) (x := "script") (CX:=λ_=>V2) (sp:=λw=>afd Pt (K w.params)) hn (by decide) G ⟨rfl,by decide,by decide⟩ hY L R F (λ_ _ a ns hl ho hS=>⟨a,ns,rfl,ho,hS,hl,λ_=>rfl⟩) λ_ _ _ _ _ z=>z
end Ck
namespace K02
open PySem L2
noncomputable def top(i:Nat):Stmt:=PySem.Challenge.pw_mapwright_k02_patterns_refused.main.body.getD i (.Pass ⟨0,0,0,0⟩)
def sts:List Stmt:=[top 21,top 22,top 23,top 24,top 25,top 26,inClass (top 13) 0,top 14,top 15,top 16,top 17,top 18,top 19,top 28,top 29,top 30,top 31,top 32]
noncomputable def Ds:List Ck.Def:=[⟨"_law_cell_at", "_law_cell_at",["script", "k"],["script", "k"],false⟩,⟨"_law_state", "_law_state",["script", "k", "cell"],["script", "k"],false⟩,⟨"_law_take", "_law_take",["state", "many", "found", "mixed"],["state", "many"],false⟩,⟨"_law_begun", "_law_begun",["state", "way", "graph", "loops", "swap", "known", "kinds", "sizes", "found", "k", "one", "other"],["state"],false⟩,⟨"_law_closed", "_law_closed",["begun", "found", "one", "other", "row", "k", "j", "first", "second", "more"],["begun"],false⟩,⟨"_law_pattern", "_law_pattern",["state", "begun", "closed", "kinds", "table", "j", "k", "more"],["state"],false⟩,⟨"__init__", "Pattern.__init__",["self", "kinds", "doings", "table"],["self", "kinds", "doings", "table"],false⟩,⟨"both_ways", "both_ways",["table", "one", "other"],["table", "one", "other"],false⟩,⟨"meeting_pairs", "meeting_pairs",["doings", "pairs", "one", "ends", "other", "more"],["doings"],false⟩,⟨"is_way_between", "is_way_between",["doings", "way", "start", "goal"],["doings", "way", "start", "goal"],false⟩,⟨"check_doings", "check_doings",["kinds", "doings", "ends"],["kinds", "doings"],false⟩,⟨"check_table", "check_table",["doings", "table", "pairs", "one", "other"],["doings", "table"],false⟩,⟨"check_threes", "check_threes",["doings", "table", "pairs", "one", "other", "last", "ahead", "after"],["doings", "table"],false⟩,⟨"_law_fits", "_law_fits",["doings", "pair", "way", "ends"],["doings", "pair", "way"],false⟩,⟨"_law_two", "_law_two",["table", "one", "other"],["table", "one", "other"],false⟩,⟨"_law_good", "_law_good",["kinds", "doings", "table", "due", "one", "pair", "other", "third", "left"],["kinds", "doings", "table"],false⟩,⟨"_law_spoiled", "_law_spoiled",["state", "kinds", "doings", "table", "way", "k", "end", "fresh", "pairs", "pair"],["state", "kinds", "doings", "table"],false⟩,⟨"law", "law",["script", "state", "kinds", "doings", "table", "k", "handed", "found"],["script"],true⟩]
noncomputable def tab:Ck.Tab:=⟨[some ("_law_cell_at",2),some ("_law_state",2),some ("_law_take",2),some ("_law_begun",1),some ("_law_closed",1),some ("_law_pattern",1),none,some ("both_ways",3),some ("meeting_pairs",1),some ("is_way_between",4),some ("check_doings",2),some ("check_table",2),some ("check_threes",2),some ("_law_fits",3),some ("_law_two",3),some ("_law_good",3),some ("_law_spoiled",4),some ("law",1)],[("STAYING",-1),("MOST_KINDS",3),("MOST_DOINGS",5)],[("NoPattern",true),("NoMap",false),("TooMany",false),("NoSaying",false),("NoName",false),("BadNote",false)], "_law_refused",⟨230,25,230,63⟩,["together", "doing_ends", "kind_count"], "Pattern",6⟩
def chk:Ck.arw tab prog.fns Ds sts=true:=by decide+kernel
def a5m:Ck.arv tab.Uv=true:=by decide+kernel
def ba3:Ck.tfB prog.fns tab.fns=true:=by decide+kernel
def ba4:(Ds.zipIdx.all λq=>!q.1.lm||q.2==17)=true:=by decide+kernel
def ba5:(Ck.scB Ck.rN ["call"] (jz (top 27))&&(((jz (top 27)).names.lookup ("call" : Str)==some NameKind.local&&(jz (top 27)).names.lookup ("error" : Str)==some NameKind.local)&&((jz (top 27)).names.lookup ("e" : Str)==some NameKind.local&&((jz (top 27)).names.lookup ("MapError" : Str)==some NameKind.globalImplicit&&prog.rf.ns==4))))=true:=by decide+kernel
def a5n:List Stmt:=(Av (top 27)).drop 2
def ba6:Ck.Lw tab prog.rf.body ⟨Ck.rN,(jz (top 27)).names,true,[],false⟩ a5n=true:=by decide+kernel
def ba7:Ck.npB prog.fns tab.ci 4=true:=by decide+kernel
open PySem.W
set_option maxHeartbeats 0 in
def all_mk{l:OpenLaw}{K:Frag}{h:Heap}{Pt:Addr}(X:K.In h)(G:h.Ns mainGlobals mg)(u4:mg "law" = some (.ref fa))
 (aC:nsIn K mainGlobals "Pattern" = some (some (.ref C)))
 (a0:nsIn K mainGlobals "_law_cell_at" = some (some (.ref f0)))
 (l0:Ck.Lk K f0 "_law_cell_at" "_law_cell_at" (top 21) oc0 od0 kV0 dc0 pm0 an0 cd0 ct0 sl0)
 (a1:nsIn K mainGlobals "_law_state" = some (some (.ref f1)))
 (l1:Ck.Lk K f1 "_law_state" "_law_state" (top 22) oc1 od1 kV1 dc1 pm1 an1 cd1 ct1 sl1)
 (a2:nsIn K mainGlobals "_law_take" = some (some (.ref f2)))
 (l2:Ck.Lk K f2 "_law_take" "_law_take" (top 23) oc2 od2 kV2 dc2 pm2 an2 cd2 ct2 sl2)
 (a3:nsIn K mainGlobals "_law_begun" = some (some (.ref f3)))
 (l3:Ck.Lk K f3 "_law_begun" "_law_begun" (top 24) oc3 od3 kV3 dc3 pm3 an3 cd3 ct3 sl3)
 (a4:nsIn K mainGlobals "_law_closed" = some (some (.ref f4)))
 (l4:Ck.Lk K f4 "_law_closed" "_law_closed" (top 25) oc4 od4 kV4 dc4 pm4 an4 cd4 ct4 sl4)
 (a5:nsIn K mainGlobals "_law_pattern" = some (some (.ref f5)))
 (l5:Ck.Lk K f5 "_law_pattern" "_law_pattern" (top 26) oc5 od5 kV5 dc5 pm5 an5 cd5 ct5 sl5)
 (a6:findIn K (.ref C) "__init__" = some (some (.ref f6)))
 (i6:isFn K (.ref f6)=true)
 (l6:Ck.Lk K f6 "__init__" "Pattern.__init__" (inClass (top 13) 0) oc6 od6 kV6 dc6 pm6 an6 cd6 ct6 sl6)
 (a7:nsIn K mainGlobals "both_ways" = some (some (.ref f7)))
 (l7:Ck.Lk K f7 "both_ways" "both_ways" (top 14) oc7 od7 kV7 dc7 pm7 an7 cd7 ct7 sl7)
 (a8:nsIn K mainGlobals "meeting_pairs" = some (some (.ref f8)))
 (l8:Ck.Lk K f8 "meeting_pairs" "meeting_pairs" (top 15) oc8 od8 kV8 dc8 pm8 an8 cd8 ct8 sl8)
 (a9:nsIn K mainGlobals "is_way_between" = some (some (.ref f9)))
 (l9:Ck.Lk K f9 "is_way_between" "is_way_between" (top 16) oc9 od9 kV9 dc9 pm9 an9 cd9 ct9 sl9)
 (j1:nsIn K mainGlobals "check_doings" = some (some (.ref f10)))
 (y8:Ck.Lk K f10 "check_doings" "check_doings" (top 17) bim bio bip biq bir bis biu biv biw)
 (x5:nsIn K mainGlobals "check_table" = some (some (.ref f11)))
 (u7:Ck.Lk K f11 "check_table" "check_table" (top 18) biy biz bi0 bi1 bi2 bi3 bi4 bi5 bi6)
 (a12:nsIn K mainGlobals "check_threes" = some (some (.ref f12)))
 (x2:Ck.Lk K f12 "check_threes" "check_threes" (top 19) bi8 bi9 bja bjb bjc bjd bje bjf bjg)
 (u3:nsIn K mainGlobals "_law_fits" = some (some (.ref f13)))
 (j3:Ck.Lk K f13 "_law_fits" "_law_fits" (top 28) bji bjj bjk bjl bjm bjn bjo bjp bjq)
 (a14:nsIn K mainGlobals "_law_two" = some (some (.ref f14)))
 (x1:Ck.Lk K f14 "_law_two" "_law_two" (top 29) bjs bjt bju bjv bjw bjx bjy bjz bj0)
 (x3:nsIn K mainGlobals "_law_good" = some (some (.ref f15)))
 (l15:Ck.Lk K f15 "_law_good" "_law_good" (top 30) bj2 bj3 bj4 bj5 bj6 bj7 bj8 bj9 bka)
 (y4:nsIn K mainGlobals "_law_spoiled" = some (some (.ref f16)))
 (j2:Ck.Lk K f16 "_law_spoiled" "_law_spoiled" (top 31) bkc bkd bke bkf bkg bkh bki bkj bkk)
 (R:nsIn K mainGlobals "law" = some (some (.ref f17)))
 (q3:Ck.Lk K f17 "law" "law" (top 32) bkm bkn ba8 ba9 bba bbb (.ref cc) bbc bko)
 (pg:plainGet K C Str.empty=true)
 (hd:hasDictIn K C=true)
 (po:plainOver K C=true)
 (sa:findIn K (.ref C) "__setattr__" = some (some (.builtin "object.__setattr__")))
 (mk:makesIn K C=true)
 (kc:keepIn K (.ref C)=true)
 (n0:findIn K (.ref C) "together" = some none)
 (n1:findIn K (.ref C) "doing_ends" = some none)
 (n2:findIn K (.ref C) "kind_count" = some none)
 (aR:nsIn K mainGlobals "_law_refused" = some (some (.ref fR)))
 (lR:Ck.Lk K fR "_law_refused" "_law_refused" (top 27) ocR odR kVR dcR pmR anR cdR ctR slR)
 (hC:codeHdIn K cc Pt=true)
 (v0:nsIn K mainGlobals "STAYING" = some (some (.int (-1) tk0)))
 (v1:nsIn K mainGlobals "MOST_KINDS" = some (some (.int (3) tk1)))
 (v2:nsIn K mainGlobals "MOST_DOINGS" = some (some (.int (5) tk2)))
 (z0:nsIn K mainGlobals "len" = some none)
 (z1:nsIn K mainGlobals "tuple" = some none)
 (z2:nsIn K mainGlobals "max" = some none)
 (z3:nsIn K mainGlobals "min" = some none)
 (z4:nsIn K mainGlobals "isinstance" = some none)
 (z5:nsIn K mainGlobals "range" = some none)
 (z6:nsIn K mainGlobals "enumerate" = some none)
 (z7:nsIn K mainGlobals "set" = some none)
 (z8:nsIn K mainGlobals "sorted" = some none)
 (z9:nsIn K mainGlobals "dict" = some none)
 (xv:nsIn K mainGlobals "ValueError" = some none)
 (xa0:nsIn K mainGlobals "MapError" = some (some (.ref Ea0)))
 (y7:nsIn K mainGlobals "NoPattern" = some (some (.ref Z)))
 (y2:nsIn K mainGlobals "NoMap" = some (some (.ref Ea2)))
 (xa3:nsIn K mainGlobals "TooMany" = some (some (.ref Ea3)))
 (xw:nsIn K mainGlobals "NoSaying" = some (some (.ref Ea4)))
 (uk:nsIn K mainGlobals "NoName" = some (some (.ref Ea5)))
 (x8:nsIn K mainGlobals "BadNote" = some (some (.ref Ea6)))
 (y9:typeIn K (.ref Ea0)=some (.type "type"))
 (yv:clsIn K Ea0=some xq0)
 (y1:typeIn K (.ref Z)=some (.type "type"))
 (q0:clsIn K Z=some xq1)
 (y3:subIn K (.type "NoneType") (.ref Z)=some false)
 (qv:typeIn K (.ref Ea2)=some (.type "type"))
 (q7:clsIn K Ea2=some xq2)
 (zv:subIn K (.type "NoneType") (.ref Ea2)=some false)
 (q2:typeIn K (.ref Ea3)=some (.type "type"))
 (q5:clsIn K Ea3=some xq3)
 (u2:subIn K (.type "NoneType") (.ref Ea3)=some false)
 (qk:typeIn K (.ref Ea4)=some (.type "type"))
 (q8:clsIn K Ea4=some xq4)
 (x9:subIn K (.type "NoneType") (.ref Ea4)=some false)
 (q6:typeIn K (.ref Ea5)=some (.type "type"))
 (q4:clsIn K Ea5=some xq5)
 (x7:subIn K (.type "NoneType") (.ref Ea5)=some false)
 (q1:typeIn K (.ref Ea6)=some (.type "type"))
 (qq:clsIn K Ea6=some xq6)
 (y5:subIn K (.type "NoneType") (.ref Ea6)=some false)
 (xm:subIn K (.ref Ea0) (.type "BaseException")=some true)
 (y6:excIn K Z [.type "ValueError",.type "Exception",.type "BaseException",.type "object"] "ValueError.__new__" = true)
 (u1:findIn K (.ref Z) "__getattribute__" = some (some (.builtin "BaseException.__getattribute__")))
 (jv:findIn K (.ref Z) "__getattr__" = some none)
 (zk:findIn K (.ref Z) "__class__" = some (some (.builtin "object.__class__")))
 (zw:subIn K (.ref Z) (.type "BaseException")=some true)
 (uj:subIn K (.ref Z) (.type "object")=some true)
 (yy:subIn K (.ref Z) (.type "ValueError")=some true)
 (uu:subIn K (.ref Z) (.ref Ea0)=some true)
 (zg:subIn K (.ref Z) (.ref Ea2)=some false)
 (u6:(Z==Ea2)=false)
 (yk:subIn K (.ref Z) (.ref Ea3)=some false)
 (y0:(Z==Ea3)=false)
 (a5s:subIn K (.ref Z) (.ref Ea4)=some false)
 (x4:(Z==Ea4)=false)
 (xy:subIn K (.ref Z) (.ref Ea5)=some false)
 (a5v:(Z==Ea5)=false)
 (x6:subIn K (.ref Z) (.ref Ea6)=some false)
 (xk:(Z==Ea6)=false)
 : ∃fd:FuncData,(∀(s:Shared)(v:Value),BindsTo s fd ⟨[v],[]⟩ [("script",v)])/\∀L:Heap,K.In L->L.Ns mainGlobals mg->BMain mg L->Cr l.prog w K mg L V2 170 fa fd ["script"] (Ck.afd Pt K):=by
 have e:=(gh X G R).symm.trans u4;cases e;have aF:Ck.Ye K Ds sts [f0,f1,f2,f3,f4,f5,f6,f7,f8,f9,f10,f11,f12,f13,f14,f15,f16,fa] [_,_,_,_,_,_,_,_,_,_,_,_,_,_,_,_,_,_]:=(Ck.fE l0 (Ck.fE l1 (Ck.fE l2 (Ck.fE l3 (Ck.fE l4 (Ck.fE l5 (Ck.fE l6 (Ck.fE l7 (Ck.fE l8 (Ck.fE l9 (Ck.fE y8 (Ck.fE u7 (Ck.fE x2 (Ck.fE j3 (Ck.fE x1 (Ck.fE l15 (Ck.fE j2 (Ck.fE q3 Ck.fN))))))))))))))))));have aG:Ck.Px mg tab.fns [f0,f1,f2,f3,f4,f5,f6,f7,f8,f9,f10,f11,f12,f13,f14,f15,f16,fa]:=(Ck.gS (gh X G a0) (Ck.gS (gh X G a1) (Ck.gS (gh X G a2) (Ck.gS (gh X G a3) (Ck.gS (gh X G a4) (Ck.gS (gh X G a5) (Ck.gO (Ck.gS (gh X G a7) (Ck.gS (gh X G a8) (Ck.gS (gh X G a9) (Ck.gS (gh X G j1) (Ck.gS (gh X G x5) (Ck.gS (gh X G a12) (Ck.gS (gh X G u3) (Ck.gS (gh X G a14) (Ck.gS (gh X G x3) (Ck.gS (gh X G y4) (Ck.gS (gh X G R) Ck.gN))))))))))))))))));have aV:Ck.Yj mg tab.aq4:=(Ck.vC (gh X G v0) (Ck.vC (gh X G v1) (Ck.vC (gh X G v2) Ck.vN)));have aB:Ck.AllB mg Ck.Ku:=(Ck.bC (km X G z0) (Ck.bC (km X G z1) (Ck.bC (km X G z2) (Ck.bC (km X G z3) (Ck.bC (km X G z4) (Ck.bC (km X G z5) (Ck.bC (km X G z6) (Ck.bC (km X G z7) (Ck.bC (km X G z8) (Ck.bC (km X G z9) (Ck.bC (km X G xv) Ck.bN)))))))))));have aE:Ck.Yi K Ea0 [(1,Z)]:=(Ck.eC y6 u1 jv zk zw uj q0 yy uu xm y9 yv Ck.eN);have aX:Ck.Yg K mg [(1,Z)] tab.xcs [Z,Ea2,Ea3,Ea4,Ea5,Ea6] 0:=(Ck.xC (gh X G y7) (λ_=>rfl) (Ck.kC (Ck.amt rfl) Ck.kN) (Ck.Py q0 y1 y3) (Ck.xC (gh X G y2) (λz=>(di z).elim) (Ck.kC (Ck.Oe q7 qv zg u6) Ck.kN) (Ck.Py q7 qv zv) (Ck.xC (gh X G xa3) (λz=>(di z).elim) (Ck.kC (Ck.Oe q5 q2 yk y0) Ck.kN) (Ck.Py q5 q2 u2) (Ck.xC (gh X G xw) (λz=>(di z).elim) (Ck.kC (Ck.Oe q8 qk a5s x4) Ck.kN) (Ck.Py q8 qk x9) (Ck.xC (gh X G uk) (λz=>(di z).elim) (Ck.kC (Ck.Oe q4 q6 xy a5v) Ck.kN) (Ck.Py q4 q6 x7) (Ck.xC (gh X G x8) (λz=>(di z).elim) (Ck.kC (Ck.Oe qq q1 x6 xk) Ck.kN) (Ck.Py qq q1 y5) Ck.xN))))));have cF:Ck.ClF K mg tab [f0,f1,f2,f3,f4,f5,f6,f7,f8,f9,f10,f11,f12,f13,f14,f15,f16,fa] C:=⟨gh X G aC,⟨pg,hd,po,sa⟩,⟨_,rfl,⟨mk,a6,i6,kc⟩⟩,(Ck.nC n0 (Ck.nC n1 (Ck.nC n2 Ck.nN)))⟩;have kR:Ck.Ask K mg (Ck.ayh C tab.Uv a5m [(1,Z)] Pt tab.lp ("law"++".<locals>."++"<lambda>")) tab prog.rf "_law_refused" "_law_refused" (top 27) fR _:=⟨(Ck.a5l lR).1,(Ck.a5l lR).2,ba5,⟨a5n,_,_,_,_,_,_,_,_,_,_,_,_,_,rfl,ba6⟩,⟨Ea0,gh X G xa0,λc C e=>(aE.get (L2.mem_of_lookup e)).2.2.2⟩⟩;refine⟨fnOf "law" "law" (Ci (top 32)) (Av (top 32)) (jz (top 32)) .none ba8 ba9 bba bbb (.ref cc) bbc,λs v=>.of_eq rfl,λL _ _ bm=>?_⟩;obtain⟨d,a,f,g1,g2,g3,g4,g5⟩:=Ck.ayi (P:=l.prog) (w:=w) (base:=L) (nm:=(Ck.ayh C tab.Uv a5m [(1,Z)] Pt tab.lp ("law"++".<locals>."++"<lambda>"))) (n:=10) (i:=17) (F:=asf) chk ba3 aF aG aV aB aX aE kR (gh X G aR) bm rfl rfl rfl cF ba7 ba4 (jl:=17) rfl rfl rfl (λ_=>⟨_,_,_,_,_,_,_,_,cc,Pt,q3.1,hC,rfl⟩) rfl;cases g1;cases g2;cases g3;exact g5.imp λvs H Q E hh=>Ck.ar0 (λns hl=>au8 (m:=10) (by decide)) hh
end K02
open PySem PySem.W PyProof.Rows
namespace PySem.W.Fast
def tw8718002175488545726:=Nat
def tw13755021195682660601:=Nat
def tw13702961777033946036:=Nat
def tw17458573395878901428:=Nat
def tw14105578778724613005:=Nat
def tw7684196058235722734:=Nat
def tw2058903841394199394:=Nat
def tw2801405957540876391:=Nat
def tw14640473586888369051:=Nat
def tw15653037680325005248:=Nat
def tw17584868768459301924:=Nat
def tw6660472912697480370:=Nat
def tw2307273907876471145:=Nat
def tw8126590773453765316:=Nat
def tw6218979451510107227:=Nat
def tw3180852187684841526:=Nat
def tw15035733287643961512:=Nat
def tw5511141822456493994:=Nat
def tw5908356685071967143:=Nat
def tw4332822131817508117:=Nat
def tw17247691379030736857:=Nat
def tw5089935260108928453:=Nat
def tw5152006784585834779:=Nat
def tw11167671388423954500:=Nat
def tw8725590293435630306:=Nat
def tw661024002390814376:=Nat
def tw8021848660600974358:=Nat
def tw5129634534794521552:=Nat
def tw7523618357189640655:=Nat
def tw14914272266930514590:=Nat
def tw8760418198239081363:=Nat
def tw9204764664493220495:=Nat
def tw18232899367919884644:=Nat
def tw15758162054212147341:=Nat
def tw16553192095781645327:=Nat
def tw5091444286787619905:=Nat
def tw11548609506357031453:=Nat
def tw2480011006842960685:=Nat
def tw3413615794843010768:=Nat
def tw13395641617853294976:=Nat
def tw6863711241487055557:=Nat
def tw6856186445730892694:=Nat
def tw13291641508466729598:=Nat
def tw7405766176692118000:=Nat
def tw4081560147675737557:=Nat
def tw277493112759806918:=Nat
def tw12066387188036767984:=Nat
def tw9207508684028448567:=Nat
def tw5969691738763383081:=Nat
def tw140080673475401673:=Nat
def tw1596863747565604196:=Nat
def tw7542469966673226948:=Nat
def tw10081127651314335973:=Nat
def tw11619518644823523428:=Nat
def tw13690033894103917386:=Nat
def tw9680544191468799424:=Nat
def tw17848648919113532876:=Nat
def tw5893655481201438677:=Nat
def tw822226005551667097:=Nat
def tw12586814643965178069:=Nat
def tw16140786424219360837:=Nat
def tw16827298068159645990:=Nat
def tw9809120608018114627:=Nat
def tw3315314551856206707:=Nat
def tw1871992660161040697:=Nat
def tw5203010457594407663:=Nat
def tw16697121200113330387:=Nat
def tw11329236682785721315:=Nat
def tw2273834687046814534:=Nat
def tw15281178656277901009:=Nat
def tw9604857455719805032:=Nat
def tw11978853681298283950:=Nat
def tw6534141114149037597:=Nat
def tw10904528302588702302:=Nat
def tw16964215981687870692:=Nat
def tw7391353075913687136:=Nat
def tw12387625042981204496:=Nat
def tw7314620819937751694:=Nat
def tw3577673650785783316:=Nat
def tw16509399389456561156:=Nat
def tw8715273126113352384:=Nat
def tw10332565465527019049:=Nat
def tw16724904600244236794:=Nat
def tw11582473138442084276:=Nat
def tw10405432594526026125:=Nat
def tw18404888614331583428:=Nat
def tw16967766809052890058:=Nat
def tw9943772029706456225:=Nat
def tw9922067116392247244:=Nat
def tw720995406883061210:=Nat
def tw6160069405392295970:=Nat
def tw1951299723122278268:=Nat
def tw10634172295821163192:=Nat
def tw12492524315912525821:=Nat
def tw3928135040073414007:=Nat
def tw11979767170274678625:=Nat
def tw10648509222294983223:=Nat
def tw7752812580230885778:=Nat
def tw4563867718410118751:=Nat
def tw3157603908591613739:=Nat
def tw11017105973342355748:=Nat
def tw9834354060914755839:=Nat
def tw12264377741736529901:=Nat
def tw12595004915580432549:=Nat
def tw9564918019251652747:=Nat
def tw1174569912024239134:=Nat
def tw17064870321151019781:=Nat
def tw6356271356169872005:=Nat
def tw8605110658264682918:=Nat
def tw7581505073823335164:=Nat
def tw14674839634978130010:=Nat
def tw7094012728945321014:=Nat
def tw9056700583965461939:=Nat
def tw18049382873739173947:=Nat
def tw14905292298238967002:=Nat
def tw12505838935997113546:=Nat
def tw2939698668007884476:=Nat
def tw13826938391345713858:=Nat
def tw14980630794195701693:=Nat
def tw675710329263827172:=Nat
def tw2750843697933152303:=Nat
def tw14003016165545757532:=Nat
def tw12296191707045641387:=Nat
def tw4728408059105110311:=Nat
def tw11909858261293704073:=Nat
def tw3680235267797699117:=Nat
def tw16822371268417536567:=Nat
def tw8538135554268868485:=Nat
def tw10642759942314723231:=Nat
def tw6807628185425391565:=Nat
def tw13698891350463249678:=Nat
def tw5485129834823070282:=Nat
def tw887355483728030308:=Nat
def tw16633451389895671618:=Nat
def tw13442397929661979511:=Nat
def tw7292977749213952037:=Nat
def tw13497269572563640580:=Nat
def tw12228765255079015198:=Nat
def tw5235881268061865478:=Nat
def tw15379594086304073642:=Nat
def tw1255616687471268048:=Nat
def tw11119317045963741649:=Nat
def tw2393824074139354556:=Nat
def tw14529708980742730246:=Nat
def tw14064059634276318859:=Nat
def tw6852703386280614163:=Nat
def tw3896742782460182632:=Nat
def tw3542081288354124006:=Nat
def tw2429760055590661675:=Nat
def tw2805872458942519948:=Nat
def tw1736498694157532524:=Nat
def tw4373851822747796968:=Nat
def tw9516538950104167777:=Nat
def tw11752371803640868997:=Nat
def tw17614727034864123439:=Nat
def tw2025774816153030418:=Nat
def tw12833810836574636450:=Nat
def tw10352360554043995635:=Nat
def tw18268284622022649029:=Nat
def tw1751640961171247654:=Nat
def tw2919679473075271474:=Nat
def tw2647251702099813649:=Nat
def tw2650644303476270184:=Nat
def tw6208504612700355755:=Nat
def tw5513939255525596764:=Nat
def tw17031698311167206057:=Nat
def tw16213686542872318261:=Nat
def tw10514463458989532374:=Nat
def tw11419184412123361638:=Nat
def tw9213069138877331498:=Nat
def tw7008085508491425421:=Nat
def tw4948821628016176061:=Nat
def tw2208288392252565740:=Nat
def tw16688283209509108458:=Nat
def tw10218159025292734833:=Nat
def tw18056849309636984911:=Nat
def tw5782560873469570039:=Nat
def tw15288205793155129242:=Nat
def tw11611031566265510211:=Nat
def tw6639715876120246009:=Nat
def tw13172553180731611907:=Nat
def tw8222808852862784688:=Nat
def tw4940477696295639395:=Nat
def tw13796444852018375461:=Nat
def tw9683289408643306180:=Nat
def tw9169091110071774093:=Nat
def tw6243307192860871703:=Nat
def tw2970972667614625612:=Nat
def tw2706397444953956169:=Nat
def tw17076275405036502698:=Nat
def tw14675478285462149994:=Nat
def tw12370635114607494136:=Nat
def tw11834679819149130445:=Nat
def tw8542772102661903305:=Nat
def tw7741840307946510064:=Nat
def tw6616970128692167625:=Nat
def tw2336472581536671300:=Nat
def tw212567135560170083:=Nat
def tw13810257956465703037:=Nat
def tw13743809319018365889:=Nat
def tw12661334379273121216:=Nat
def tw11664160899499396985:=Nat
def tw9195832001080845596:=Nat
def tw7852586056777578412:=Nat
def tw307280831138382954:=Nat
def tw2327218614928533905:=Nat
def tw12346101332178304652:=Nat
def tw11422339482106776859:=Nat
def tw9860390736542777865:=Nat
def tw9313498008994616551:=Nat
def tw7296120192954215137:=Nat
def tw1912864206307425948:=Nat
def tw14287080484664267771:=Nat
def tw13009145766394635791:=Nat
def tw12182644477705394677:=Nat
def tw11443140066384969030:=Nat
def tw9849237553379662419:=Nat
def tw9775691712114893520:=Nat
def tw9569417221501824663:=Nat
def tw9518060206636197356:=Nat
def tw9180963185734405674:=Nat
def tw9142047445586441077:=Nat
def tw896205379812233135:=Nat
def tw8876892373921358023:=Nat
def tw8792906262950522094:=Nat
def tw8770485911011446639:=Nat
def tw8654423914012933672:=Nat
def tw8608961259629180804:=Nat
def tw840201721305307245:=Nat
def tw6997462249712791738:=Nat
def tw6830594259288371291:=Nat
def tw6160986209210881744:=Nat
def tw5971867030642048439:=Nat
def tw5702615650179465642:=Nat
def tw5575687610109229455:=Nat
def tw5453314063754834835:=Nat
def tw5240760337901900690:=Nat
def tw4558013710223029310:=Nat
def tw4314905530909444334:=Nat
def tw3950245225765874768:=Nat
def tw3577084934941458232:=Nat
def tw3350208250444902427:=Nat
def tw269315031126153793:=Nat
def tw2618637604954961244:=Nat
def tw2379365073995961008:=Nat
def tw2341612969643212594:=Nat
def tw1955759940581342143:=Nat
def tw1877435445221362233:=Nat
def tw18233054595266952860:=Nat
def tw17637954701980889691:=Nat
def tw17504957400176670491:=Nat
def tw17328442938065068313:=Nat
def tw1722432949722745076:=Nat
def tw1693424304438538269:=Nat
def tw16363293932586768273:=Nat
def tw16129475042917462184:=Nat
def tw16047163910673523602:=Nat
def tw15692142843859035279:=Nat
def tw1560744291080534160:=Nat
def tw1503899734062511977:=Nat
def tw14977796168535232463:=Nat
def tw14906806053715167669:=Nat
def tw14671365164239620761:=Nat
def tw14616943470991761846:=Nat
def tw13918130453899835920:=Nat
def tw13631694401571038916:=Nat
def tw13417906886957341045:=Nat
def tw13309280711843071983:=Nat
def tw13025963955946399773:=Nat
def tw12034469853774041439:=Nat
def tw11801192616310798441:=Nat
def tw11014373227310363262:=Nat
def tw10954289753778371137:=Nat
def tw10390714962505653522:=Nat
def tw10239802842651627977:=Nat
def tw10176231565197698814:=Nat
end PySem.W.Fast
set_option maxRecDepth 100000 in
set_option maxHeartbeats 0 in
theorem PySem.Challenge.cw_mapwright_k02_patterns_refused_holds : PySem.Challenge.rw_mapwright_k02_patterns_refused.Holds := by
 w_on;o_law;k_head;(case hw=>w_witness2)
 k_fill
 refine Ck.walk (l:=PySem.Challenge.rw_mapwright_k02_patterns_refused) (Pt:=271) (ct:=275) rfl rfl (λw h Y=>⟨PySem.W.km_in_of Y,PySem.W.km_tabs_of Y 271 bu⟩) (λw=>by kernel_rfl) (λw=>by kernel_rfl) ?F
 case F =>
  intro w mg fa h KX G hmg;apply K02.all_mk (cc:=275) (Pt:=271) KX G hmg<;>(try refine⟨?_,?_,?_⟩)<;>first|k_is|k_exc|kernel_rfl|rfl
