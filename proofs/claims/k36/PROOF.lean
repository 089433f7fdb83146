import PyProof.Rows.All
import Wide.All
import OpenK.AllK
import Wide.FinOn
import Lean
import PyProof.EqAt
import PyProof.EqKinds
import PyProof.TupleCall
import PyProof.NeKinds
import PyProof.SetScanFacts
import PyProof.TupleKey
import PyProof.SetKind
import PyProof.IsRules
import PyProof.Rules
import PyProof.Rows.SetFrom
import PyProof.SetRoads
import KE.KDictOf
import PyProof.Rows.MinMaxN
import PyProof.ListRange
import PyProof.TupleOfGen
import PyProof.EnumMake
import PyProof.ZipIter
import PyProof.Rows.ZipGen
import PyProof.CollectWalk
import PyProof.ForAny
import PyProof.Rows.SortWalk
import PyProof.CollectIter
import PySem.Challenge.RW_mapwright_k36_drawn_together
set_option Elab.async false
set_option linter.all false
set_option tactic.hygienic false
set_option genSizeOf false
set_option genInjectivity false
set_option maxRecDepth 100000
abbrev Zl:=List PySem.Value
abbrev Zp:=List (PySem.Addr×PySem.Obj)
abbrev Zs:=PySem.Str->Option PySem.Value
abbrev Y1:=PySem.Value->PySem.Shared->Prop
abbrev Y2:=Option (PySem.Str×Nat)
abbrev Y3:=List Nat
abbrev Ya:=List PySem.Expr
abbrev Yf:=List PySem.Str
abbrev X0:=List (PySem.Str×PySem.NameKind)
abbrev X9:=List PySem.Addr
abbrev Xs:=List Int
abbrev Xt:=List (PySem.Str×PySem.Addr)
abbrev U1:=Array PySem.Value
def jn:=@Array.getElem?_eq_some_iff
def m6:=@Array.getElem?_toList
def v5:=@Array.length_toList
def aq:=@Bool.and_eq_true
def Ad:=@Bool.eq_iff_iff
def dj:=@Bool.false_eq_true
def jb:=@Bool.false_ne_true
def yz:=@Bool.not_false
def qx:=@Bool.not_true
def yh:=@Classical.byContradiction
def Ab:=@Int.emod_lt_of_pos
def Bo:=@Int.emod_nonneg
def Bf:=@Int.ofNat_inj
def vz:=@Int.toNat_natCast
def za:=@List.Perm.refl
def jd:=@List.all_eq_true
def Bg:=@List.any_cons
def Aw:=@List.any_eq_true
def yo:=@List.append_assoc
def Bp:=@List.append_nil
def zm:=@List.cons_append
def uo:=@List.ext_getElem?
def qz:=@List.find?_cons
def wg:=@List.findIdx?_eq_none_iff
def qj:=@List.findIdx?_eq_some_iff_getElem
def bz:=@List.getD_eq_getElem?_getD
def dz:=@List.getElem?_append_left
def jo:=@List.getElem?_append_right
def bf:=@List.getElem?_eq_getElem
def gr:=@List.getElem?_eq_none
def ak:=@List.getElem?_eq_some_iff
def ie:=@List.getElem?_map
def km:=@List.getElem?_range
def vf:=@List.getElem?_set_ne
def zy:=@List.getElem?_set_self
def yp:=@List.getElem?_zipIdx
def yg:=@List.getElem_inj
def nq:=@List.getElem_mem
def pq:=@List.getElem_of_mem
def ou:=@List.isEmpty_iff
def uy:=@List.length_append
def il:=@List.length_cons
def zb:=@List.length_eq_zero_iff
def wu:=@List.length_filter_le
def cz:=@List.length_map
def yq:=@List.length_range
def Ax:=@List.length_take
def ph:=@List.lookup_cons
def j4:=@List.map_append
def jc:=@List.map_congr_left
def ig:=@List.map_cons
def o4:=@List.map_map
def dw:=@List.mem_append
def qg:=@List.mem_append_left
def gw:=@List.mem_append_right
def cj:=@List.mem_cons
def bh:=@List.mem_cons_of_mem
def cu:=@List.mem_cons_self
def ur:=@List.mem_filter
def wy:=@List.mem_iff_getElem?
def bc:=@List.mem_map
def ao:=@List.mem_of_getElem?
def fc:=@List.mem_range
def kj:=@List.mem_singleton
def Af:=@List.nil_append
def yr:=@List.nodup_append
def q9:=@List.nodup_cons
def j8:=@List.nodup_iff_pairwise_ne
def Ao:=@List.nodup_nil
def ug:=@List.not_mem_nil
def w5:=@List.pairwise_cons
def xu:=@List.pairwise_map
def rm:=@List.range_succ
def Ag:=@List.set_append
def gf:=@List.size_toArray
def zr:=@List.take_length
def Ay:=@Nat.le_add_right
def yj:=@Nat.le_of_lt
def bw:=@Nat.le_refl
def vg:=@Nat.le_succ
def iu:=@Nat.le_trans
def qy:=@Nat.lt_irrefl
def ir:=@Nat.lt_of_lt_of_le
def ym:=@Nat.lt_or_ge
def qm:=@Nat.lt_succ_self
def yc:=@Nat.ne_of_gt
def gh:=@Nat.ne_of_lt
def rz:=@Nat.not_lt_zero
def vd:=@Nat.zero_add
def iz:=@Nat.zero_le
def j0:=@Ne.symm
def gq:=@Option.bind_eq_some_iff
def qp:=@Option.bind_some
def qt:=@Option.getD_some
def o6:=@Option.isSome_iff_exists
def dq:=@Option.map_eq_some_iff
def m8:=@Option.map_some
def jy:=@Option.some.inj
def Ak:=@Option.some.injEq
def uh:=@PyProof.Rows.F.entry_set_update_loop
def lz:=@PyProof.Rows.F.plain_set_update_loop
def wj:=@PyProof.Rows.callWith_builtin1
def jh:=@PyProof.Rows.callWith_type1
def j9:=@PySem.Around.under_plainId
def j7:=@PySem.Calls.spliced_cons
def su:=@PySem.Calls.spliced_nil
def uz:=@PySem.F.called_set
def zc:=@PySem.F.plainAttrs_list
def ye:=@PySem.F.slot_enumerate_next
def vq:=@PySem.F.slot_tuple_iterator_next
def j6:=@PySem.Heap.SameBut.update
def au:=@PySem.Heap.get?_push_of_some
def bu:=@PySem.Heap.get?_push_size
def ux:=@PySem.Heap.get?_update_other
def mq:=@PySem.Heap.get?_update_self
def az:=@PySem.Heap.lt_size
def ju:=@PySem.Heap.size_push
def tu:=@PySem.W.kia_one
def jq:=@PySem.W.mg_none_of
def gm:=@PySem.W.mg_of
def m7:=@PySem.codeAny_builtin
def w6:=@PySem.codeAny_mono
def zf:=@PySem.mem_of_lookup
def qb:=@PySem.sizeLine_eq
def xj:=@PySem.tupleKind_room_in1
def iw:=@PySem.wpAny_Call_Name_kw
def aa:=@PySem.wpAny_bind
def kh:=@PySem.wpAny_callSpecial?_slot
def jz:=@PySem.wpAny_call_entry
def t7:=@PySem.wpAny_dictEntries
def jg:=@PySem.wpAny_field
def qi:=@PySem.wpAny_forIn_list
def jr:=@PySem.wpAny_holding
def o5:=@PySem.wpAny_isInstance
def mj:=@PySem.wpAny_mono
def t8:=@PySem.wpAny_newObj_type
def uv:=@PySem.wpAny_passesOwn
def aj:=@PySem.wpAny_pure
def xx:=@PySem.wpAny_pyIter_list
def uc:=@PySem.wpAny_seqItems
def lg:=@PySem.wpAny_setEntries_of
def jf:=@PySem.wpAny_setField_rec
def jw:=@PySem.wpAny_setState_of
def j5:=@PySem.wpAny_truthy_bool
def u0:=@PySem.wpAny_typeOf
def v7:=@beq_eq_false_iff_ne
def zu:=@beq_self_eq_true
def yt:=@bne_self_eq_false
def ud:=@congrArg
def v8:=@decide_eq_false
def Aq:=@decide_eq_true
def dm:=@decide_eq_true_eq
def jk:=@if_false
def bx:=@if_neg
def dg:=@if_pos
def ji:=@if_true
def qd:=@of_decide_eq_true
def Bd:=@or_false
abbrev Fg:=PySem.W.Frag
def a_{a b c:Nat}(h:a<=b)(k:b<=c):a<=c:=iu h k
def b_{a b c:Nat}(h:a<b)(k:b<=c):a<c:=ir h k
def c_{a b c:Nat}(h:a<=b)(k:b<c):a<c:=Nat.lt_of_le_of_lt h k
def d_{a b c:Nat}(h:a<b)(k:b<c):a<c:=Nat.lt_trans h k
def e_{a b:Nat}(h:a<b):a<=b:=yj h
def f_{a b:Nat}(h:a=b):a<=b:=Nat.le_of_eq h
def g_{a b:Nat}(h:a=b):b<=a:=Nat.le_of_eq h.symm
def h_{a b:Nat}(h:a<b):a≠b:=gh h
def i_{a b:Nat}(h:b<a):a≠b:=yc h
def j_{a b:Nat}(h:b<=a):¬a<b:=Nat.not_lt_of_le h
def l_{p:Prop}{a b:Nat}(h:a<b)(k:b<=a):p:=absurd h (Nat.not_lt_of_le k)
def m_{a b:Nat}(h:a<b):(a:Int)<(b:Int):=Int.ofNat_lt.mpr h
def n_{a b:Nat}(h:a<=b):(a:Int)<=(b:Int):=Int.ofNat_le.mpr h
def o_{a b:Nat}(h:(a:Int)<(b:Int)):a<b:=Int.ofNat_lt.mp h
def q_{a:Nat}:(0:Int)<=(a:Int):=Int.natCast_nonneg a
def r_{a b c:Nat}(h:a+c<=b):a<=b-c:=Nat.le_sub_of_add_le h
def s_{a b:Nat}(h:¬a<b):b<=a:=Nat.le_of_not_lt h
def t_{a b:Nat}(h:¬a<=b):b<a:=Nat.lt_of_not_le h
def u_{a b:Nat}(h:a<=b)(k:b<=a):a=b:=Nat.le_antisymm h k
def v_{a b c:Nat}(h:a<=b):a+c<=b+c:=Nat.add_le_add_right h c
def w_{a b c:Nat}(h:a<=b):c+a<=c+b:=Nat.add_le_add_left h c
def x_{a b:Nat}:a<=a+b:=Ay a b
def z_{a b:Nat}(h:a<b+1):a<=b:=Nat.le_of_lt_succ h
def A_{a b:Nat}(h:a<=b):a<b+1:=Nat.lt_succ_of_le h
def B_{a:Nat}:a<a+1:=qm a
def C_{a b:Nat}:a-b<=a:=Nat.sub_le a b
def D_{a b:Nat}(h:(a:Int)=(b:Int)):a=b:=Bf.mp h
def G_{a b c:Nat}(h:a<b):a+c<b+c:=Nat.add_lt_add_right h c
def H_{a b c:Nat}(h:a<b):c+a<c+b:=Nat.add_lt_add_left h c
def hG{P:Prop}(h:∀G:Prop,(P->G)->G):P:=h P id
noncomputable section
namespace Wa
open PySem SetTable
def Srt(Z:Array Nat):Prop:=∀(i j a b:Nat),Z[i]?=some a->Z[j]?=some b->i<j->a<b
def atr(hs:Srt U):∀(Z G hi:Nat),G<=hi->hi<=U.size->hi-G<=Z ->
 (∀(i a:Nat),U[i]?=some a->i<G->a<j)->(∀(i a:Nat),U[i]?=some a->hi<=i->j<=a) ->
 below.go U j Z G hi<=U.size/\(∀(i a:Nat),U[i]?=some a->i<below.go U j Z G hi->a<j)/\(∀(i a:Nat),U[i]?=some a->below.go U j Z G hi<=i->j<=a):=by
 intro Z
 induction Z with
 |zero =>
  intro G hi h1 h2 h3 h4 h5;unfold below.go;have:G=hi:=by lia
  subst this;exact⟨h2,h4,h5⟩
 |succ Z ih =>
  intro G hi h1 h2 h3 h4 h5;unfold below.go
  by_cases Jp:G<hi
  .simp only[dg Jp]
   have hm:(G+hi) / 2<U.size:=by lia
   have hg:U[(G+hi) / 2]?=some U[(G+hi) / 2]:=by simp[hm]
   have qq:U.getD ((G+hi) / 2) j=U[(G+hi) / 2]:=by simp[Array.getD,hm]
   rw[qq]
   by_cases hc:U[(G+hi) / 2]<j
   .rw[dg hc]
    refine ih _ _ (by lia) h2 (by omega) (λi a e l=>?_) h5
    by_cases R:i=(G+hi) / 2
    .subst R;rw[hg] at e;cases e;exact hc
    .exact Nat.lt_trans (hs _ _ _ _ e hg (by lia)) hc
   .rw[bx hc]
    refine ih _ _ (by lia) (e_ hm) (by omega) h4 (λi a e l=>?_)
    by_cases R:i=(G+hi) / 2
    .subst R;rw[hg] at e;cases e;exact s_ hc
    .have:=hs _ _ _ _ hg e (by lia);exact e_ (c_ (s_ hc) this)
  .rw[bx Jp]
   have:G=hi:=u_ h1 (s_ Jp);subst this;exact⟨h2,h4,h5⟩
def Fo(G:Srt Z):below Z j<=Z.size/\(∀(i a:Nat),Z[i]?=some a->i<below Z j->a<j)/\(∀(i a:Nat),Z[i]?=some a->below Z j<=i->j<=a) :=
 atr G _ _ _ (iz _) (bw _) C_ (λi a _ h=>absurd h (rz _)) (λi a e h=>by
  have:=(jn.mp e).1;lia)
def below_at(G:Srt Z)(h:Z[i]?=some j):below Z j=i:=by
 obtain⟨h1,R,h3⟩:=Fo (j:=j) G;rcases Nat.lt_trichotomy (below Z j) i with l|l|l
 .have li:=(jn.mp h).1
  have U:Z[below Z j]?=some Z[below Z j]:=by simp
  have a:=h3 _ _ U (bw _);have b:=G _ _ _ _ U h l
  lia
 .exact l
 .have:=R _ _ h l;lia
def Yp(j:Nat):has #[] j=false:=by simp[has]
set_option tactic.hygienic true in
def Tq{t:SetTable}(Z:Srt t.place):t.slot j=.live i↔t.place[i]?=some j:=by
 unfold slot;constructor
 .intro h
  dsimp only at h;split at h
  .rename_i e;cases h;simpa using e
  .split at h<;>cases h
 .intro h
  dsimp only;rw[below_at Z h,h];simp
def af1{t:SetTable}(G:Srt t.place)(Z:t.dummies=#[]):t.slot j=.empty↔∀i:Nat,t.place[i]?≠some j:=by
 constructor
 .intro h i e
  rw[(Tq G).mpr e] at h;cases h
 .intro h
  unfold slot;dsimp only;rw[Z,Yp,bx (by simpa using h _)];rfl
def K5(Z:Array α)(p:Nat)(x:α)(hp:p<=Z.size)(i:Nat):(insertAt Z p x)[i]?=if i<p then Z[i]? else if i=p then some x else Z[i-1]?:=by
 rw[<- m6,toList_insertAt];have U:(Z.toList.take p).length=p:=by simp;lia
 by_cases G:i<p
 .rw[dg G,dz (b_ G (g_ U)),List.getElem?_take,dg G,m6]
 .rw[bx G,jo (a_ (f_ U) (s_ G)),U]
  by_cases R:i=p
  .subst R;simp
  .rw[bx R]
   obtain⟨q,hq⟩:∃q,i=p+q+1:=⟨i-p-1,by lia⟩;subst hq;rw[show p+q+1-p=q+1 by lia,List.getElem?_cons_succ,List.getElem?_drop,show p+q+1-1=p+q by lia,m6]
def My(Z:Array α)(p:Nat)(x:α):(insertAt Z p x).size=Z.size+1:=by have:=(insertAt_perm Z p x).length_eq;simpa using this
noncomputable def up(p i:Nat):Nat:=if i<p then i else i+1
def Qp(Z:Array α)(p:Nat)(x:α)(G:p<=Z.size)(i:Nat):(insertAt Z p x)[up p i]?=Z[i]?:=by
 rw[K5 Z p x G];unfold up
 by_cases h:i<p
 .simp[h]
 .rw[bx h,bx (j_ (a_ (s_ h) x_)),bx (i_ (A_ (s_ h)))];rfl
def Kc(Z:Array α)(p:Nat)(x:α)(G:p<=Z.size):(insertAt Z p x)[p]?=some x:=by rw[K5 Z p x G];simp
def Ph(p i:Nat):i=p\/∃k,i=up p k:=by
 unfold up;rcases Nat.lt_trichotomy i p with h|h|h
 .exact .inr ⟨i,by simp[h]⟩
 .exact .inl h
 .exact .inr ⟨i-1,by rw[bx (by omega)];lia⟩
def atu(hs:Srt G)(hn:∀i:Nat,G[i]?≠some j):Srt (insertAt G (below G j) j):=by
 obtain⟨R,h2,h3⟩:=Fo (j:=j) hs;intro a b x y U Z l;rcases Ph (below G j) a with rfl|⟨a',rfl⟩<;>rcases Ph (below G j) b with hb|⟨b',rfl⟩
 .subst hb;lia
 .rw[Kc _ _ _ R] at U
  rw[Qp _ _ _ R] at Z;cases U;have:below G j<=b':=by unfold up at l;split at l<;>omega
  have g:=h3 _ _ Z this;rcases Nat.lt_or_eq_of_le g with g|g
  .exact g
  .subst g;exact absurd Z (hn _)
 .subst hb
  rw[Kc _ _ _ R] at Z;rw[Qp _ _ _ R] at U;cases Z;exact h2 _ _ U (by unfold up at l;split at l<;>omega)
 .rw[Qp _ _ _ R] at U Z
  exact hs _ _ _ _ U Z (by unfold up at l;split at l<;>split at l<;>omega)
noncomputable def adv(m:Nat)(p:Probe):Probe:=({ SetTable.fresh 0 0 true with mask:=m }:SetTable).advance p
def a0c(t:SetTable)(p:Probe):t.advance p=adv t.mask p:=rfl
def aac(h:p.more > 0):adv m p={ p with j:=p.j+1,more:=p.more-1 }:=dg h
def Wb(h:¬p.more > 0):adv m p={ p with j:=(leap m p.i p.perturb).1,more:=runEnd m (leap m p.i p.perturb).1-(leap m p.i p.perturb).1,i:=(leap m p.i p.perturb).1,perturb:=(leap m p.i p.perturb).2 }:=bx h
noncomputable def beg(m i pt:Nat):Probe:={ j:=i,more:=runEnd m i-i,i:=i,perturb:=pt,dummy:=none }
def P(m:Nat)(h:Int):Nat->Probe
 |0=>beg m (bits h%(m+1)) (bits h)|n+1=>adv m (P m h n)
def ach(t:SetTable)(h:Int):t.probeStart h=P t.mask h 0:=rfl
theorem aad(m:Nat)(h:Int):∀n,(P m h n).dummy=none
 |0=>rfl
 |n+1=>by
  show(adv m (P m h n)).dummy=none
  by_cases q:(P m h n).more > 0
  .rw[aac q];exact aad m h n
  .rw[Wb q];exact aad m h n
noncomputable def I(m:Nat)(h:Int):Nat->Nat
 |0=>bits h%(m+1)|T+1=>(I m h T*5+1+bits h / 32 ^ (T+1))%(m+1)
def atv(m i:Nat):runEnd m i-i<=9:=by unfold runEnd;split<;>lia
theorem aci{m:Nat}{h:Int}{n i pt:Nat}(e:P m h n=beg m i pt):∀c,c<=runEnd m i-i->P m h (n+c)={ j:=i+c,more:=runEnd m i-i-c,i:=i,perturb:=pt,dummy:=none }
 |0,_=>by rw[Nat.add_zero,e];rfl
 |c+1,hc=>by
  have:=aci e c (by lia);show adv m (P m h (n+c))=_;rw[this,aac (by show 0<runEnd m i-i-c;lia)];simp only
  congr 1
def am1(e:P m h n=beg m i pt):P m h (n+(runEnd m i-i)+1)=beg m ((i*5+1+pt / 32)%(m+1)) (pt / 32):=by show adv m (P m h (n+(runEnd m i-i)))=_;rw[aci e _ (bw _),Wb (by simp)];rfl
theorem am2(m:Nat)(h:Int):∀T,∃n,n<=10*T/\P m h n=beg m (I m h T) (bits h / 32 ^ T)
 |0=>⟨0,iz _,by simp[P,I]⟩
 |T+1=>by
  obtain⟨n,G,Z⟩:=am2 m h T;have:=atv m (I m h T);refine⟨_,?_,(am1 Z).trans ?_⟩
  .lia
  .rw[Nat.div_div_eq_div_mul,<- Nat.pow_succ];rfl
noncomputable def f5(m x:Nat):Nat:=(x*5+1)%(m+1)
def it(m:Nat):Nat->Nat->Nat
 |0,x=>x|k+1,x=>f5 m (it m k x)
theorem Wc(m a x:Nat):∀k,it m (a+k) x=it m k (it m a x)
 |0=>rfl|k+1=>by show f5 m (it m (a+k) x)=_;rw[Wc m a x k];rfl
def Cov(m:Nat):Prop:=∀i j,i<=m->j<=m->∃k,k<=m/\it m k i=j
def a0d(R:it m (m+1) 0=0)(h:∀j,j<=m->∃k,k<=m/\it m k 0=j):Cov m:=λi j hi hj=>by
 obtain⟨a,la,G⟩:=h i hi;obtain⟨b,lb,Z⟩:=h j hj
 by_cases U:a<=b
 .refine⟨b-a,a_ C_ lb,?_⟩
  rw[<- G,<- Wc,show a+(b-a)=b by lia,Z]
 .refine⟨m+1+b-a,by omega,?_⟩
  rw[<- G,<- Wc,show a+(m+1+b-a)=(m+1)+b by lia,Wc,R,Z]
def orb(m:Nat):Nat->Nat->List Nat
 |0,_=>[]|k+1,x=>x::orb m k (f5 m x)
theorem ah2{m:Nat}:∀{k x j:Nat},j∈orb m k x->∃q,q<k/\it m q x=j
 |0,_,_,h=>by simp[orb] at h
 |k+1,x,j,h=>by
  simp only[orb,cj] at h;rcases h with rfl|h
  .exact⟨0,A_ (iz _),rfl⟩
  .obtain⟨q,l,e⟩:=ah2 h
   refine⟨1+q,by lia,?_⟩;rw[Wc];exact e
def Ri(Z:it m (m+1) 0=0)(h:((List.range (m+1)).all λj=>(orb m (m+1) 0).contains j)=true):Cov m :=
 a0d Z λj G=>by have:=jd.mp h j (by simp;exact A_ G);obtain⟨q,l,e⟩:=ah2 (by simpa using this);exact⟨q,z_ l,e⟩
def Msk(m:Nat):Prop:=m=7\/m=15\/m=31\/m=63\/m=127
def bd6:Cov 7:=Ri (by decide+kernel) (by decide+kernel)
def a7g:Cov 15:=Ri (by decide+kernel) (by decide+kernel)
def a7h:Cov 31:=Ri (by decide+kernel) (by decide+kernel)
def a7i:Cov 63:=Ri (by decide+kernel) (by decide+kernel)
def a0e:Cov 127:=Ri (by decide+kernel) (by decide+kernel)
def Msk.cov(h:Msk m):Cov m:=by
 rcases h with rfl|rfl|rfl|rfl|rfl
 .exact bd6
 .exact a7g
 .exact a7h
 .exact a7i
 .exact a0e
def atw(h:Int):bits h<2 ^ 64:=by
 unfold bits;have G:=Bo h (b:=2 ^ 64) (by decide);have Z:=Ab h (b:=2 ^ 64) (by decide)
 lia
theorem a7j(m:Nat)(h:Int):∀T,I m h T<=m
 |0=>Nat.le_of_lt_succ (Nat.mod_lt (bits h) (Nat.succ_pos m))|T+1=>Nat.le_of_lt_succ (Nat.mod_lt (I m h T*5+1+bits h / 32 ^ (T+1)) (Nat.succ_pos m))
theorem am3(m:Nat)(h:Int):∀k,I m h (13+k)=it m k (I m h 13)
 |0=>rfl
 |k+1=>by
  show(I m h (13+k)*5+1+bits h / 32 ^ (13+k+1))%(m+1)=f5 m (it m k (I m h 13));have:bits h / 32 ^ (13+k+1)=0:=by
   apply Nat.div_eq_of_lt;refine ir (atw h) ?_
   calc 2 ^ 64<=32 ^ 13:=by decide
    _<=32 ^ (13+k+1):=Nat.pow_le_pow_right (by decide) (a_ x_ x_)
  rw[this,am3 m h k];rfl
def cover(Z:Msk m)(h:Int)(j:Nat)(G:j<=m):∃T,T<=13+m/\I m h T=j:=by obtain⟨k,U,e⟩:=Z.cov (I m h 13) j (a7j m h 13) G;exact⟨13+k,w_ U,(am3 m h k).trans e⟩
def atx(Z:Msk m)(h:Int)(j:Nat)(U:j<=m):∃n,n<10*turns m/\(P m h n).j=j:=by obtain⟨T,R,e⟩:=cover Z h j U;obtain⟨n,ln,G⟩:=am2 m h T;exact⟨n,by unfold turns;lia,by rw[G];exact e⟩
def mod_le(a m:Nat):a%(m+1)<=m:=Nat.le_of_lt_succ (Nat.mod_lt a (Nat.succ_pos m))
def Tt(h:i<=m):i<=runEnd m i/\runEnd m i<=m:=by unfold runEnd;split<;>omega
theorem a7k(m:Nat)(h:Int):∀n,(P m h n).j+(P m h n).more<=m
 |0=>by
  have:=Tt (mod_le (bits h) m);show bits h%(m+1)+(runEnd m (bits h%(m+1))-bits h%(m+1))<=m
  omega
 |n+1=>by
  have Z:=a7k m h n;show(adv m (P m h n)).j+(adv m (P m h n)).more<=m
  by_cases q:(P m h n).more > 0
  .rw[aac q];simp only;lia
  .rw[Wb q]
   have:=Tt (mod_le ((P m h n).i*5+1+(P m h n).perturb / 32) m);show(leap m (P m h n).i (P m h n).perturb).1+(runEnd m (leap m (P m h n).i (P m h n).perturb).1-(leap m (P m h n).i (P m h n).perturb).1)<=m
   have e:(leap m (P m h n).i (P m h n).perturb).1=((P m h n).i*5+1+(P m h n).perturb / 32)%(m+1):=rfl;rw[e];omega
def bd7(m:Nat)(h:Int)(n:Nat):(P m h n).j<=m:=by have:=a7k m h n;lia
def Occ(t:SetTable)(j:Nat):Prop:=∃i:Nat,t.place[i]?=some j
structure Yq(t:SetTable)(es:Array (Int×Value)):Prop where
 msk:Msk t.mask
 dum:t.dummies=#[]
 Yr:t.place.size=es.size
 srt:Srt t.place
 bnd:∀(i j:Nat),t.place[i]?=some j->j<=t.mask
 ful:t.place.size<=t.mask
 rch:∀(i j:Nat) e,t.place[i]?=some j->es[i]?=some e->∃n,(P t.mask e.1 n).j=j/\∀m,m<n->Occ t (P t.mask e.1 m).j
theorem Yq.fits(k:Yq t Z):t.fits Z.size=true:=by unfold SetTable.fits fill;rw[k.dum];simp[k.Yr];have:=k.ful;have:=k.Yr;lia
def Msk.odd(h:Msk m):m%2=1:=by rcases h with rfl|rfl|rfl|rfl|rfl<;>rfl
def Yq.way(k:Yq t Z):t.gaveWay=false:=by unfold gaveWay;rw[k.msk.odd];rfl
def am4(hs:Srt G)(h:G.size<=m):∃j,j<=m/\∀i:Nat,G[i]?≠some j:=by
 apply yh;intro hn;have all:∀j,j<=m->∃i:Nat,G[i]?=some j:=λj R=>by apply yh;intro hc;exact hn ⟨j,R,λi e=>hc ⟨i,e⟩⟩
 have:∀j,j<=m->∀i:Nat,G[i]?=some j->j<=i:=by
  intro j
  induction j with
  |zero=>intro _ i _;exact iz _
  |succ j ih =>
   intro R i e;obtain⟨U,Z⟩:=all j (by lia);have:=ih (by lia) U Z;rcases Nat.lt_trichotomy i U with l|l|l
   .have:=hs _ _ _ _ e Z l;lia
   .subst l;rw[e] at Z;injection Z with Z;exact a_ (f_ Z) this
   .exact a_ (v_ this) l
 obtain⟨i,e⟩:=all m (bw _);have h1:=this m (bw _) i e;have h2:=(jn.mp e).1;exact l_ h2 (a_ h h1)
structure Fst(t:SetTable)(h:Int)(N:Nat):Prop where
 lt:N<10*turns t.mask
 emp:¬Occ t (P t.mask h N).j
 occ:∀m,m<N->Occ t (P t.mask h m).j
def least{p:Nat->Prop}:∀{n:Nat},p n->∃k,k<=n/\p k/\∀m,m<k->¬p m:=by
 intro n
 induction n using Nat.strongRecOn with
 |ind n R =>
  intro h
  by_cases G:∃m,m<n/\p m
  .obtain⟨m,l,Z⟩:=G
   obtain⟨k,U,a,b⟩:=R m l Z;exact⟨k,e_ (c_ U l),a,b⟩
  .exact⟨n,bw _,h,λm l Z=>G ⟨m,l,Z⟩⟩
def Yq.fst(k:Yq t es)(h:Int):∃N,Fst t h N:=by obtain⟨j,U,e⟩:=am4 k.srt k.ful;obtain⟨n,R,G⟩:=atx k.msk h j U;obtain⟨N,l,a,b⟩:=least (p:=λn=>¬Occ t (P t.mask h n).j) (n:=n) (λ⟨i,c⟩=>e i (by rw[G] at c;exact c));exact⟨N,c_ l R,a,λm Z=>Classical.not_not.mp (b m Z)⟩
theorem am5(k:Yq t es)(F:Fst t h N)(G:Nat->Int):∀(Z n:Nat),n<=N->N-n<Z ->
 (probe.go t G h Z (P t.mask h n)=some (.empty (P t.mask h N).j none)/\∀m,n<=m->m<N->∀i:Nat,t.place[i]?=some (P t.mask h m).j->G i≠h)
\/∃m i:Nat,n<=m/\m<N/\t.place[i]?=some (P t.mask h m).j/\G i=h/\(∀q,n<=q->q<m->∀i:Nat,t.place[i]?=some (P t.mask h q).j->G i≠h)
 /\probe.go t G h Z (P t.mask h n)=some (.candidate (P t.mask h m).j i (P t.mask h (m+1))):=by
 intro Z
 induction Z with
 |zero=>intro n _ l;omega
 |succ Z ih =>
  intro n hn l;unfold probe.go
  by_cases e:n=N
  .subst e
   left
   rw[(af1 k.srt k.dum).mpr (λi c=>F.emp ⟨i,c⟩)];simp only;rw[aad];exact⟨rfl,λm a b=>by lia⟩
  .obtain⟨i,hi⟩:=F.occ n (by lia)
   rw[(Tq k.srt).mpr hi];simp only[a0c];have qq:adv t.mask (P t.mask h n)=P t.mask h (n+1):=rfl;rw[qq]
   by_cases R:G i=h
   .right
    refine⟨n,i,bw _,by lia,hi,R,λq a b=>by lia,?_⟩;rw[dg (by simp[R])]
   .rw[bx (by simp[R])]
    have un:∀U:Nat,t.place[U]?=some (P t.mask h n).j->G U≠h:=λU e'=>by have a:=below_at k.srt e';have b:=below_at k.srt hi;rw[<- a,b];exact R
    rcases ih (n+1) (by lia) (by lia) with⟨a,b⟩|⟨m,U,a,b,c,d,e1,e2⟩
    .left
     refine⟨a,λm x y=>?_⟩
     by_cases q:m=n
     .subst q;exact un
     .exact b m (by lia) y
    .right
     refine⟨m,U,by lia,b,c,d,λq x y=>?_,e2⟩
     by_cases z:q=n
     .subst z;exact un
     .exact e1 q (by lia) y
def Yq.ahead(k:Yq t R)(F:Fst t h N){i:Nat}(G:R[i]?=some e)(U:e.1=h):∃m,m<N/\t.place[i]?=some (P t.mask h m).j:=by
 have li:i<t.place.size:=by rw[k.Yr];exact(jn.mp G).1
 have Z:t.place[i]?=some t.place[i]:=by simp[li]
 obtain⟨n,a,b⟩:=k.rch i _ e Z G;subst U;refine⟨n,?_,by rw[a];exact Z⟩;rcases Nat.lt_trichotomy n N with l|l|l
 .exact l
 .subst l;exact absurd ⟨i,by rw[a];exact Z⟩ F.emp
 .exact absurd (b N l) F.emp
def aae(G:Srt t.place)(q:Nat):Occ (t.put j).1 q↔q=j\/Occ t q:=by
 obtain⟨Z,U,R⟩:=Fo (j:=j) G;constructor
 .rintro⟨i,e⟩
  have e:(insertAt t.place (below t.place j) j)[i]?=some q:=e;rcases Ph (below t.place j) i with rfl|⟨i',rfl⟩
  .rw[Kc _ _ _ Z] at e;cases e;exact .inl rfl
  .rw[Qp _ _ _ Z] at e;exact .inr ⟨i',e⟩
 .rintro(rfl|⟨i,e⟩)
  .exact⟨_,Kc _ _ _ Z⟩
  .exact⟨up (below t.place j) i,(Qp _ _ _ Z i).trans e⟩
theorem Yq.put(k:Yq t R)(F:Fst t h N)(room:t.place.size+1<=t.mask) :
 Yq (t.put (P t.mask h N).j).1 (insertAt R (t.put (P t.mask h N).j).2 (h,x)):=by
 obtain⟨h1,h2,h3⟩:=Fo (j:=(P t.mask h N).j) k.srt;have U:below t.place (P t.mask h N).j<=R.size:=by rw[<- k.Yr];exact h1
 refine⟨k.msk,?_,?_,?_,?_,?_,?_⟩
 .show(if has t.dummies _ then _ else t.dummies)=#[]
  rw[k.dum,Yp];rfl
 .show(insertAt t.place _ _).size=(insertAt R _ _).size
  rw[My,My,k.Yr]
 .exact atu k.srt (λi e=>F.emp ⟨i,e⟩)
 .intro i j e
  rcases(aae k.srt j).mp ⟨i,e⟩ with rfl|⟨i',e'⟩
  .exact bd7 _ _ _
  .exact k.bnd i' j e'
 .show(insertAt t.place _ _).size<=t.mask
  rw[My];exact room
 .intro i j e G Z
  have G:(insertAt t.place (below t.place (P t.mask h N).j) (P t.mask h N).j)[i]?=some j:=G;have Z:(insertAt R (below t.place (P t.mask h N).j) (h,x))[i]?=some e:=Z;show ∃n,(P t.mask e.1 n).j=j/\∀m,m<n->Occ (t.put (P t.mask h N).j).1 (P t.mask e.1 m).j
  rcases Ph (below t.place (P t.mask h N).j) i with rfl|⟨i',rfl⟩
  .rw[Kc _ _ _ h1] at G
   rw[Kc _ _ _ U] at Z;cases G;cases Z;exact⟨N,rfl,λm l=>(aae k.srt _).mpr (.inr (F.occ m l))⟩
  .rw[Qp _ _ _ h1] at G
   rw[Qp _ _ _ U] at Z;obtain⟨n,a,b⟩:=k.rch i' j e G Z;exact⟨n,a,λm l=>(aae k.srt _).mpr (.inr (b m l))⟩
abbrev OcO(ow:Array (Option Nat))(j:Nat):Prop:=∃i,ow[j]?=some (some i)
structure Own(m:Nat)(ow:Array (Option Nat))(hs:Xs):Prop where
 Yr:ow.size=m+1
 cnt:ow.toList.countP Option.isSome=hs.length
 lt:∀(j i:Nat),ow[j]?=some (some i)->i<hs.length
 inj:∀(j j' i:Nat),ow[j]?=some (some i)->ow[j']?=some (some i)->j=j'
 at':∀(i:Nat) h,hs[i]?=some h->∃j n,ow[j]?=some (some i)/\(P m h n).j=j/\∀q,q<n->OcO ow (P m h q).j
def getD_none{Z:Array (Option Nat)}(G:Z.size=m+1)(h:(Z.getD j (some 0)).isNone=true):Z[j]?=some none:=by
 by_cases l:j<Z.size
 .simp[Array.getD,l] at h;simp[l,h]
 .simp[Array.getD,l] at h
def getD_some(G:Z.size=m+1)(U:j<=m)(h:¬(Z.getD j (some 0)).isNone=true):OcO Z j:=by
 have l:j<Z.size:=by lia
 simp[Array.getD,l] at h;unfold OcO;rw[show Z[j]?=some Z[j] by simp[l]];cases e:Z[j] with
 |none=>exact absurd e h|some i=>exact⟨i,rfl⟩
def ako(hz:G.size=m+1)(h:Int):∀(Z T n:Nat),P m h n=beg m (I m h T) (bits h / 32 ^ T)->(∀q,q<n->OcO G (P m h q).j) ->
 (∃k,k<Z/\G[I m h (T+k)]?=some none)->∃j R,layClean.free m G Z (I m h T) (bits h / 32 ^ T)=some j/\(P m h R).j=j/\G[j]?=some none/\∀q,q<R->OcO G (P m h q).j:=by
 intro Z
 induction Z with
 |zero=>rintro T n _ _ ⟨k,l,_⟩;lia
 |succ Z ih =>
  rintro T n e hq ⟨k,lk,ek⟩;have hI:=a7j m h T;obtain⟨r1,r2⟩:=Tt hI;unfold layClean.free;cases hf:(List.range (runEnd m (I m h T)+1-I m h T)).find? λk=>(G.getD (I m h T+k) (some 0)).isNone with
  |some c =>
   obtain⟨a,b,d⟩:=List.find?_range_eq_some.mp hf;have b:=fc.mp b;refine⟨_,n+c,rfl,by rw[aci e c (by omega)],getD_none hz a,λq l=>?_⟩
   by_cases hn:q<n
   .exact hq q hn
   .obtain⟨c',rfl⟩:∃c',q=n+c':=⟨q-n,by lia⟩
    rw[aci e c' (by lia)];show OcO G (I m h T+c');exact getD_some hz (by lia) (λhh=>by
     have:=d c' (by lia);simp only[hh] at this;cases this)
  |none =>
   have Eg:=List.find?_eq_none.mp hf;have U:∀c,c<=runEnd m (I m h T)-I m h T->OcO G (I m h T+c):=λc hc=>getD_some hz (by lia) (Eg c (fc.mpr (by lia)))
   cases k with
   |zero =>
    obtain⟨i,ei⟩:=U 0 (iz _);rw[Nat.add_zero] at ek ei;rw[ek] at ei;cases ei
   |succ k =>
    have pe:bits h / 32 ^ T / 32=bits h / 32 ^ (T+1):=by rw[Nat.div_div_eq_div_mul,<- Nat.pow_succ]
    have:=ih (T+1) (n+(runEnd m (I m h T)-I m h T)+1) (by rw[am1 e,pe];rfl) (λq l=>?_) ⟨k,by lia,by rw[show T+1+k=T+(k+1) by lia];exact ek⟩
    .obtain⟨j,R,e1,e2⟩:=this
     refine⟨j,R,?_,e2⟩;rw[<- e1];show layClean.free m G Z ((I m h T*5+1+bits h / 32 ^ T / 32)%(m+1)) (bits h / 32 ^ T / 32)=_;rw[pe];rfl
    .by_cases hn:q<n
     .exact hq q hn
     .obtain⟨c',rfl⟩:∃c',q=n+c':=⟨q-n,by lia⟩
      rw[aci e c' (by lia)];show OcO G (I m h T+c');exact U c' (by lia)
def Own.room(k:Own m Z hs)(h:hs.length<=m):∃j,j<=m/\Z[j]?=some none:=by
 apply yh;intro R;have:Z.toList.countP Option.isSome=Z.toList.length:=List.countP_eq_length.mpr λa ha=>by
  obtain⟨j,U,e⟩:=pq ha;cases a with
  |some i=>rfl
  |none =>
   have G:j<Z.size:=by simpa using U
   refine absurd ⟨j,by have:=k.Yr;exact z_ (b_ G (f_ this)),?_⟩ R;rw[<- m6,bf U,e]
 rw[k.cnt] at this;have:=k.Yr;simp at *
 lia
theorem Own.free(hm:Msk m)(k:Own m Z U)(hl:U.length<=m)(h:Int):∃j G,layClean.free m Z (turns m) (bits h%(m+1)) (bits h)=some j/\(P m h G).j=j/\Z[j]?=some none/\∀q,q<G->OcO Z (P m h q).j:=by obtain⟨j,hj,e⟩:=k.room hl;obtain⟨T,lT,R⟩:=cover hm h j hj;have:=ako k.Yr h (turns m) 0 0 (by simp[P,I]) (λq l=>by lia) ⟨T,by unfold turns;lia,by rw[vd,R];exact e⟩;simpa[I] using this
def Own.lay(k:Own m Z G)(e1:(P m h n').j=j)(e2:Z[j]?=some none)(e3:∀q,q<n'->OcO Z (P m h q).j) :
 Own m (Z.setIfInBounds j (some G.length)) (G++[h]):=by
 have lj:j<Z.size:=(jn.mp e2).1
 have get:∀q:Nat,(Z.setIfInBounds j (some G.length))[q]?=if j=q then some (some G.length) else Z[q]?:=λq=>by rw[Array.getElem?_setIfInBounds];split<;>simp_all
 have R:∀q,OcO Z q->OcO (Z.setIfInBounds j (some G.length)) q:=λq ⟨i,e⟩=>by refine⟨i,?_⟩;rw[get,bx (λh=>by subst h;rw[e2] at e;cases e)];exact e
 refine⟨by simp[k.Yr],?_,λq i e=>?_,λq q' i e U=>?_,λi h' e=>?_⟩
 .rw[Array.toList_setIfInBounds,List.countP_set (by simpa using lj),k.cnt]
  have:Z.toList[j]'(by simpa using lj)=none:=by have:=(jn.mp e2).2;simpa using this
  rw[this];simp
 .rw[get] at e
  split at e
  .cases e;simp
  .have:=k.lt q i e;simp;exact A_ (e_ this)
 .rw[get] at e U
  split at e<;>split at U
  .lia
  .cases e;have:=k.lt _ _ U;lia
  .cases U;have:=k.lt _ _ e;lia
  .exact k.inj q q' i e U
 .by_cases l:i<G.length
  .rw[dz l] at e
   obtain⟨j',n,a,b,c⟩:=k.at' i h' e;refine⟨j',n,?_,b,λq l=>R _ (c q l)⟩;rw[get,bx (λh=>by subst h;rw[e2] at a;cases a)];exact a
  .have hi:i=G.length:=by
    have:=(ak.mp e).1;simp at this;exact u_ (z_ this) (s_ l)
   subst hi;simp at e;subst e;exact⟨j,n',by rw[get,dg rfl],e1,λq l=>R _ (e3 q l)⟩
theorem ah3{m:Nat}(hm:Msk m):∀(Z G:Xs)(R:Array (Option Nat)),Own m R G->G.length+Z.length<=m+1 ->
 ∃U,Z.foldl (λqq h=>do
  let (owner,k) <- qq
  let j <- layClean.free m owner (turns m) (bits h%(m+1)) (bits h)
  pure (owner.setIfInBounds j (some k),k+1)) (some (R,G.length))=some (U,G.length+Z.length)/\Own m U (G++Z)
 |[],G,R,k,_=>⟨R,rfl,by simpa using k⟩
 |h::Z,G,R,k,l=>by
  obtain⟨j,n',e0,e1,e2,e3⟩:=k.free hm (by simp at l;lia) h;have k':=k.lay e1 e2 e3;obtain⟨U,a,b⟩:=ah3 hm Z (G++[h]) _ k' (by simp at l ⊢;lia);refine⟨U,?_,by simpa using b⟩;rw[List.foldl_cons];have:(do
   let (owner,k) <- some (R,G.length)
   let j <- layClean.free m owner (turns m) (bits h%(m+1)) (bits h)
   pure (owner.setIfInBounds j (some k),k+1))=some (R.setIfInBounds j (some G.length),(G++[h]).length):=by
   show(layClean.free m R (turns m) (bits h%(m+1)) (bits h) >>= _)=_;rw[e0];simp
  rw[this,a]
  simp;lia
def am6(U:Msk m)(Z:Array Int)(l:Z.size<=m+1):∃G,layClean m Z=some G/\Own m G Z.toList:=by have R:Own m (Array.replicate (m+1) none) []:=⟨by simp,by simp,λj i e=>by simp[Array.getElem?_replicate] at e,λj j' i e=>by simp[Array.getElem?_replicate] at e,λi h e=>by simp at e⟩;obtain⟨G,a,b⟩:=ah3 U Z.toList [] _ R (by simpa using l);refine⟨G,?_,by simpa using b⟩;unfold layClean;rw[<- Array.foldl_toList];exact(ud (Option.map (·.1)) a).trans rfl
noncomputable def lv(m:Nat)(Z:Array (Option Nat)):List (Nat×Nat):=(List.range (m+1)).filterMap λj=>(Z.getD j none).map (j,·)
def Qq(k:Own m Z R):(j,i)∈lv m Z↔Z[j]?=some (some i):=by
 unfold lv;rw[List.mem_filterMap];constructor
 .rintro⟨q,a,b⟩
  obtain⟨i',G,U⟩:=dq.mp b;cases U;have:j<Z.size:=by rw[k.Yr];exact fc.mp a
  simp[Array.getD,this] at G;simp[this,G]
 .intro e
  have l:=(jn.mp e).1;refine⟨j,fc.mpr (by rw[<- k.Yr];exact l),?_⟩;have:Z.getD j none=some i:=by simp[Array.getD,l,(jn.mp e).2]
  rw[this];rfl
def am7(m:Nat)(U:Array (Option Nat)):(lv m U).Pairwise λa b=>a.1<b.1:=by unfold lv;refine List.Pairwise.filterMap _ (λa a' G b R b' Z=>?_) List.pairwise_lt_range;obtain⟨_,_,rfl⟩:=dq.mp R;obtain⟨_,_,rfl⟩:=dq.mp Z;exact G
def aty(k:Own m G U):((lv m G).map (·.2)).Perm (List.range U.length):=by
 refine(List.perm_ext_iff_of_nodup ?_ List.nodup_range).mpr λi=>?_
 .rw[j8,xu]
  refine(am7 m G).imp_of_mem fun{a b} Z hb Jp e=>?_
  have:=k.inj a.1 b.1 a.2 ((Qq k).mp Z) (by rw[e];exact(Qq k).mp hb);exact l_ Jp (g_ this)
 .rw[bc,fc]
  constructor
  .rintro⟨a,Z,rfl⟩;exact k.lt _ _ ((Qq k).mp Z)
  .intro l
   obtain⟨j,n,a,_⟩:=k.at' i _ (bf l);exact⟨(j,i),(Qq k).mpr a,rfl⟩
theorem am8{G U:Type}{g:G->Option U}:∀{l:List G},(∀x∈l,(g x).isSome=true)->∀q:Nat,(l.filterMap g)[q]?=l[q]?.bind g
 |[],_,q=>by simp
 |x::l,h,q=>by
  have Z:=h x (cu ..);obtain⟨y,e⟩:=o6.mp Z;rw[List.filterMap_cons_some e];cases q with
  |zero=>simp[e]|succ q=>simpa using am8 (λx Z=>h x (bh _ Z)) q
def ah4(hm:Msk m)(fg mv:Nat)(ld pl:Bool)(G:Array (Int×Value))(l:G.size<=m) :
 ∃t Z,laid m fg mv ld pl (G.map (·.1))=some (t,Z)/\t.mask=m/\Yq t (Z.filterMap (G[·]?))/\(Z.filterMap (G[·]?)).toList.Perm G.toList/\(Z.filterMap (G[·]?)).size=G.size
 /\t.led=ld/\t.plain=pl/\t.finger=fg/\Z.toList.Perm (List.range G.size):=by
 obtain⟨U,e,k⟩:=am6 hm (G.map (·.1)) (by simp;exact a_ l x_);have Ys:=aty k;simp at Ys;have qq:(lv m U).length=G.size:=by have:=Ys.length_eq;simpa using this
 have qk:((((lv m U).map (·.2)).toArray).filterMap (G[·]?)).size=G.size:=by have:=(Ys.filterMap (G[·]?)).length_eq;rw[filterMap_getElem?_range] at this;rw[<- v5,Array.toList_filterMap,this];simp
 refine⟨{ mask:=m,place:=((lv m U).map (·.1)).toArray,dummies:=#[],finger:=fg,led:=ld,moves:=mv,plain:=pl },((lv m U).map (·.2)).toArray,?_,rfl,?_,?_,?_,rfl,rfl,rfl,Ys⟩
 .unfold laid;rw[e];rfl
 .have qv:∀x∈(lv m U).map (·.2),(G[x]?).isSome=true:=λx hx=>by
   have:=fc.mp (Ys.mem_iff.mp hx)
   simp;exact this
  have get:∀q:Nat,((((lv m U).map (·.2)).toArray).filterMap (G[·]?))[q]?=((lv m U)[q]?).bind λa=>G[a.2]?:=λq=>by rw[<- m6,Array.toList_filterMap,am8 qv,ie];cases(lv m U)[q]?<;>rfl
  have R:∀q j:Nat,(((lv m U).map (·.1)).toArray)[q]?=some j↔∃i,(lv m U)[q]?=some (j,i):=λq j=>by
   simp only[List.getElem?_toArray,ie,dq];constructor
   .rintro⟨a,h,rfl⟩;exact⟨a.2,h⟩
   .rintro⟨i,h⟩;exact⟨_,h,rfl⟩
  refine⟨hm,rfl,?_,?_,?_,?_,?_⟩
  .show(((lv m U).map (·.1)).toArray).size=_
   rw[qk];simp[qq]
  .intro i j a b ea eb lt
   obtain⟨i1,e1⟩:=(R i a).mp ea;obtain⟨i2,e2⟩:=(R j b).mp eb;obtain⟨l1,g1⟩:=ak.mp e1;obtain⟨l2,g2⟩:=ak.mp e2;have:=List.pairwise_iff_getElem.mp (am7 m U) i j l1 l2 lt;rw[g1,g2] at this;exact this
  .intro i j e
   obtain⟨i1,e1⟩:=(R i j).mp e;have:=(Qq k).mp (ao e1);have:=(jn.mp this).1;rw[k.Yr] at this;show j<=m
   exact z_ this
  .show(((lv m U).map (·.1)).toArray).size<=m
   simp[qq];exact l
  .intro q j e' hp he
   obtain⟨i,e1⟩:=(R q j).mp hp;rw[get,e1] at he;have he:G[i]?=some e':=he;obtain⟨j',n,a,b,c⟩:=k.at' i e'.1 (by simp[he]);have hj:=k.inj j j' i ((Qq k).mp (ao e1)) a;subst hj;refine⟨n,b,λw lw=>?_⟩;obtain⟨i',q0⟩:=c w lw;obtain⟨z,hz⟩:=wy.mp ((Qq k).mpr q0);exact⟨z,(R z _).mpr ⟨i',hz⟩⟩
 .rw[Array.toList_filterMap]
  have:=Ys.filterMap (G[·]?);rw[filterMap_getElem?_range] at this;exact this
 .exact qk
def Yt:∀n,n<32->Msk (sizeAbove (grown n)-1)/\n<=sizeAbove (grown n)-1/\n+1<=sizeAbove (grown n)-1/\¬(n*5 >= (sizeAbove (grown n)-1)*3)/\sizeAbove (grown n)<=128:=by unfold Msk;decide+kernel
def am9:∀n,n<64->Msk (sizeAbove (n*2)-1)/\n<=sizeAbove (n*2)-1/\¬(n*5 >= (sizeAbove (n*2)-1)*3)/\sizeAbove (n*2)<=128:=by unfold Msk;decide+kernel
section
variable{prog:Program}{w:World}{K:Type}[DecidableEq K]{knd:KeyKind prog w K}{A:Around}{E:Y1}{s:Shared}
def af2(n:Nat)(h:carriedByValue v=true):ofAClassStatement n v=pure false:=by cases v<;>first|(simp[carriedByValue] at h;done)|(unfold ofAClassStatement;rfl)
def Wd(hk:IsTupleKey knd s.heap ks a)(h:Q false s):wpAny (model prog w) A (ofAClassStatement 8 (.ref a)) Q E s:=by
 have hT:=hk.typeIs;obtain⟨o,G,n,ho,_,hd,hi⟩:=hk;unfold ofAClassStatement;refine aa (u0 hT ?_);show wpAny _ _ (if("tuple"=="tuple")=true then _ else _) _ _ s;rw[dg (by decide)];refine aa (aj ?_);simp only[qx,dj,jk];refine aa (uc ho hd ?_);refine aa ?_;show wpAny _ _ (forIn G _ _) _ _ s;rw[<- Array.forIn_toList];refine qi _ (λZ r U=>r.1=none/\U=s/\∀v∈Z,carriedByValue v=true) _ ?_ ?_ _ _ ⟨rfl,rfl,hi.byValue⟩
 .rintro v Z r U ⟨hr,rfl,Eg⟩
  rw[af2 _ (Eg v cu)];refine aa (aj ?_);simp only[dj,jk];exact aj ⟨rfl,rfl,λu R=>Eg u (bh _ R)⟩
 .rintro⟨r1,r2⟩ U ⟨hr,rfl,_⟩
  simp only at hr;subst hr;exact aj h
def ana(hk:IsTupleKey knd s.heap G a)(hs:∀v∈st,∃G b,v=.ref b/\IsTupleKey knd s.heap G b)(h:Q false s) :
 wpAny (model prog w) A (searchCouldBeSeen (.ref a) st) Q E s:=by
 unfold searchCouldBeSeen;refine aa ?_;refine qi _ (λZ r R=>r.1=none/\R=s/\∀v∈Z,∃G b,v=.ref b/\IsTupleKey knd s.heap G b) _ ?_ ?_ _ _ ⟨rfl,rfl,hs⟩
 .rintro v Z r R ⟨hr,rfl,Eg⟩
  obtain⟨qq,b,rfl,hb⟩:=Eg v cu;have U:∀v∈Z,∃G b,v=.ref b/\IsTupleKey knd R.heap G b:=λv hv=>Eg v (bh _ hv)
  dsimp only;split
  .exact aj ⟨rfl,rfl,U⟩
  .refine aa (wpAny_eqIsQuiet_tuple hk ?_)
   simp only[qx,dj,jk];refine aa (wpAny_eqIsQuiet_tuple hb ?_);simp only[qx,dj,jk];refine aa (Wd hk ?_);simp only[dj,jk];refine aa (Wd hb ?_);simp only[dj,jk];exact aj ⟨rfl,rfl,U⟩
 .rintro⟨r1,r2⟩ R ⟨hr,rfl,_⟩
  simp only at hr;subst hr;exact aj h
noncomputable def ent(knd:KeyKind prog w K)(x:List K×Addr):Int×Value:=(tupleKeyHash knd x.1,.ref x.2)
def af3{Z:Array (Int×Value)}{G:List (List K×Addr)}(U:Z.toList=G.map (ent knd))(j:Nat):Z[j]?=(G[j]?).map (ent knd):=by rw[<- m6,U,ie]
def akp{xs:List (List K×Addr)}(hu:A.units<cLine)(hk:IsTupleKey knd s.heap k p)(ho:s.heap.get? a=some o)(hd:o.data=.set es ep t)(T:Yq t es)(he:es.toList=xs.map (ent knd))(hx:∀x∈xs,IsTupleKey knd s.heap x.1 x.2)(hn:(xs.map (·.1)).Nodup)(F:Fst t (tupleKeyHash knd k) N)(Tu:∀(i:Nat) x,xs[i]?=some x->x.1=k->Q (.there (if adding then none else some i)) s)(zv:(∀x∈xs,x.1≠k)->Q (.free (P t.mask (tupleKeyHash knd k) N).j false) s) :
 ∀(Z n:Nat)(st:Option Probe),n<=N->N-n<Z->st.getD (t.probeStart (tupleKeyHash knd k))=P t.mask (tupleKeyHash knd k) n ->
  (∀m,m<n->∀(i:Nat) x,t.place[i]?=some (P t.mask (tupleKeyHash knd k) m).j->xs[i]?=some x->x.1≠k) ->
  wpAny (model prog w) A (setSearchFrom a (.ref p) (tupleKeyHash knd k) adding Z st) Q E s:=by
 intro Z
 induction Z with
 |zero=>intro n st _ l;omega
 |succ Z ih =>
  intro n st q8 l zq q4;unfold setSearchFrom;refine aa (jw ho hd T.fits ?_);dsimp only;rw[T.way,zq];simp only[dj,jk];have q6:=am5 T F (λi=>(es[i]?.map (·.1)).getD 0) (10*turns t.mask) n q8 (by have:=F.lt;exact c_ C_ this);generalize qq:t.probe _ (tupleKeyHash knd k) (P t.mask (tupleKeyHash knd k) n)=pr;have qq:t.probe (λi=>(es[i]?.map (·.1)).getD 0) (tupleKeyHash knd k) (P t.mask (tupleKeyHash knd k) n)=pr:=qq;have atI:∀(i j:Nat),t.place[i]?=some j->∃x,xs[i]?=some x/\es[i]?=some (ent knd x):=λi j e=>by
   have li:i<es.size:=by rw[<- T.Yr];exact(jn.mp e).1
   have lx:i<xs.length:=by have:=ud List.length he;simp at this;exact b_ li (f_ this)
   refine⟨xs[i],by simp[lx],?_⟩;rw[af3 he];simp[lx]
  rcases q6 with⟨e,zk⟩|⟨m,i,h1,h2,h3,h4,h5,e⟩
  .have e:pr=_:=qq.symm.trans e
   subst e;dsimp only;refine aj (zv λx q7 G=>?_);obtain⟨i,hi⟩:=wy.mp q7;have U:es[i]?=some (ent knd x):=by rw[af3 he,hi];rfl
   obtain⟨m,lm,hp⟩:=T.ahead F U (by unfold ent;rw[G])
   by_cases q2:m<n
   .exact q4 m q2 i x hp hi G
   .refine zk m (s_ q2) lm i hp ?_
    rw[U];show tupleKeyHash knd x.1=_;rw[G]
  .have e:pr=_:=qq.symm.trans e
   subst e;dsimp only;obtain⟨x,qv,U⟩:=atI i _ h3;have z0:=hx x (ao qv);have q3:∀{R:Bool->Shared->Prop},R false s->wpAny (model prog w) A (searchCouldBeSeen (.ref p) ((es.filter (·.1==tupleKeyHash knd k)).toList.map (·.2))) R E s:=λhR=>ana hk (λv hv=>by
    obtain⟨y,hy,rfl⟩:=bc.mp hv;have q5:y∈es.toList:=by simp at hy;simpa using hy.1
    rw[he] at q5;obtain⟨z,hz,rfl⟩:=bc.mp q5;exact⟨z.1,z.2,rfl,hx z hz⟩) hR
   rcases Bool.eq_false_or_eq_true t.led with a7p|a7p
   all_goals
    simp only[a7p,qx,yz,dj,jk,ji]
    first
    |(rw[U];show wpAny _ _ (holding [.ref x.2] (eqBool (.ref x.2) (.ref p)) >>= _) _ _ _)
    |(refine aa (q3 ?_);simp only[dj,jk];rw[U];show wpAny _ _ (holding [.ref x.2] (eqBool (.ref x.2) (.ref p)) >>= _) _ _ _)
    refine aa (jr (wpAny_eqBool_tuple hu z0 hk ?_));refine aa (jw ho hd T.fits ?_);dsimp only;have z1:t.sameMemory t.moves t.mask=some true:=by unfold sameMemory;simp
    rw[z1];dsimp only;rw[dg rfl,(Tq T.srt).mpr h3];dsimp only;rw[U]
    by_cases G:x.1=k
    .have q1:decide (x.1=k)=true:=by simp[G]
     rw[q1];have hq:=Tu i x qv G;cases adding
     .simp only[Bool.false_and,dj,jk]
      refine aa (wpAny_isSame_ref_self ?_);refine aa (aj ?_);simpa using aj hq
     .simp only[Bool.and_self,ji]
      exact aj hq
    .have q1:decide (x.1=k)=false:=by simp[G]
     rw[q1];simp only[Bool.and_false,dj,jk];refine aa (wpAny_isSame_ref_self ?_);refine aa (aj ?_);simp only[ji];refine ih (m+1) _ h2 (by lia) rfl λm' z2 i' x' q0 qk=>?_
     by_cases hc:m'<n
     .exact q4 m' hc i' x' q0 qk
     .by_cases hm:m'=m
      .subst hm
       have ei:i'=i:=by rw[<- below_at T.srt q0,<- below_at T.srt h3]
       subst ei;rw[qv] at qk;cases qk;exact G
      .intro zz
       have zw:es[i']?=some (ent knd x'):=by rw[af3 he,qk];rfl
       refine h5 m' (s_ hc) (by lia) i' q0 ?_;rw[zw];show tupleKeyHash knd x'.1=_;rw[zz]
end
section
variable{prog:Program}{w:World}{K:Type}[DecidableEq K]{knd:KeyKind prog w K}{pk:List K×Addr->Prop}{A:Around}{E:Y1}{s:Shared}
noncomputable abbrev bt(w:World):Bool:=w.params.followText "set-order"
def Vw(h:Q (bt w) s):wpAny (model prog w) A setsByText Q E s:=by unfold setsByText;exact aa (wpAny_askSetting (aj h))
def Tv(knd:KeyKind prog w K)(pk:List K×Addr->Prop):Prop:=∀x,pk x->∀k∈x.1,∀v n,knd.is k v=true->hashByValue n v=pure true
theorem Uv:∀{G:List K}{Z:Zl},ItemsAre knd G Z->(∀k∈G,∀v n,knd.is k v=true->hashByValue n v=pure true)->∀v∈Z,∀n,hashByValue n v=pure true
 |_,_,.nil,_,v,h=>by simp at h
 |_,_,.cons h t,hp,v,hv=>by
  rcases cj.mp hv with rfl|hv
  .exact λn=>hp _ cu _ n h
  .exact Uv t (λk U=>hp k (bh _ U)) v hv
def af4(U:Tv knd pk)(hk:IsTupleKey knd s.heap ks a)(hp:pk (ks,a))(h:Q true s):wpAny (model prog w) A (hashByValue 8 (.ref a)) Q E s:=by
 have hT:=hk.typeIs;obtain⟨o,G,n,ho,_,hd,hi⟩:=hk;unfold hashByValue;refine aa (wpAny_specialOf hT F.slot_tuple_hash.lookup ?_);dsimp only;refine aa (uc ho hd ?_);refine aa ?_;show wpAny _ _ (forIn G _ _) _ _ s;rw[<- Array.forIn_toList];refine qi _ (λZ r R=>r.1=none/\R=s/\∀v∈Z,∀n,hashByValue n v=pure true) _ ?_ ?_ _ _ ⟨rfl,rfl,Uv hi (U _ hp)⟩
 .rintro v Z r R ⟨hr,rfl,Eg⟩
  rw[Eg v cu];refine aa (aj ?_);simp only[qx,dj,jk];exact aj ⟨rfl,rfl,λu qq=>Eg u (bh _ qq)⟩
 .rintro⟨r1,r2⟩ R ⟨hr,rfl,_⟩
  simp only at hr;subst hr;exact aj h
structure Tw(knd:KeyKind prog w K)(pk:List K×Addr->Prop)(h:Heap)(a:Addr)(xs:List (List K×Addr))(o:Obj)(es:Array (Int×Value))(ep:Nat)(t:SetTable):Prop where
 get:h.get? a=some o
 exa:o.ExactSet
 dat:o.data=.set es ep t
 tab:Yq t es
 ent:es.toList=xs.map (ent knd)
 keys:∀x∈xs,IsTupleKey knd h x.1 x.2/\pk x
 nod:(xs.map (·.1)).Nodup
 led:t.led=!bt w
 pla:t.plain=true
def Dw(knd:KeyKind prog w K)(pk:List K×Addr->Prop)(h:Heap)(a:Addr)(S:List K->Prop)(n:Nat):Prop:=∃Z o G U t,Tw knd pk h a Z o G U t/\(∀k,S k↔k∈Z.map (·.1))/\Z.length=n/\t.place.size*5<t.mask*3
theorem Tw.size(X:Tw knd pk h a G o Z U t):Z.size=G.length:=by have:=ud List.length X.ent;simpa using this
def anb(p:Addr)(Z:Array (Int×Value)):byScan (.ref p) Z=false:=by unfold byScan;simp[Value.scannable]
def anc(h:Msk m):10*turns m<100000:=by rcases h with rfl|rfl|rfl|rfl|rfl<;>decide
def We(hu:A.units<cLine)(R:IsTupleKey knd s.heap k p)(X:Tw knd pk s.heap a G o es ep t)(F:Fst t (tupleKeyHash knd k) N)(Tu:∀(i:Nat) x,G[i]?=some x->x.1=k->Q (.there (if adding then none else some i)) s)(Z:(∀x∈G,x.1≠k)->Q (.free (P t.mask (tupleKeyHash knd k) N).j false) s) :
 wpAny (model prog w) A (setSearch a (.ref p) (tupleKeyHash knd k) adding) Q E s:=by
 unfold setSearch;exact akp hu R X.get X.dat X.tab X.ent (λx U=>(X.keys x U).1) X.nod F Tu Z 100000 0 none (iz _) (by have:=F.lt;have:=anc X.tab.msk;lia) (ach _ _) (λm l=>by lia)
def at5(hu:A.units<cLine)(hk:IsTupleKey knd s.heap k p)(R:Dw knd pk s.heap a S n)(h:∀r:Option Nat,(r.isSome=true↔S k)->Q r s):wpAny (model prog w) A (setFind a (.ref p) (tupleKeyHash knd k)) Q E s:=by
 obtain⟨xs,o,es,ep,t,X,U,_,_⟩:=R;obtain⟨N,F⟩:=X.tab.fst (tupleKeyHash knd k);unfold setFind setFindIn;refine aa (jw X.get X.dat X.tab.fits ?_);dsimp only;rw[anb];simp only[dj,jk];refine aa (We hu hk X F (λi x hi Z=>?_) (λG=>?_))
 .simp only[dj,jk]
  exact aj (h _ (by simp;exact(U k).mpr (bc.mpr ⟨x,ao hi,Z⟩)))
 .dsimp only
  refine aj (h _ ?_);simp only[Option.isSome_none,dj,false_iff];intro hs;obtain⟨x,Z,e⟩:=bc.mp ((U k).mp hs);exact G x Z e
end
def Eh{α β:Type}{f:α->β}:∀{l R:List β},l.Perm R->∀{xs:List α},R=xs.map f->∃Z:List α,l=Z.map f/\Z.Perm xs:=by
 intro l R p
 induction p with
 |nil=>intro xs e;cases xs with
  |nil=>exact⟨[],rfl,.nil⟩|cons _ _=>cases e
 |cons a p ih =>
  intro xs e;cases xs with
  |nil=>cases e
  |cons x xs =>
   simp only[ig,List.cons.injEq] at e;obtain⟨Z,e1,p1⟩:=ih e.2;exact⟨x::Z,by simp[e1,e.1],p1.cons x⟩
 |swap a b l =>
  intro xs e
  match xs,e with
  |x::y::xs,e =>
   simp only[ig,List.cons.injEq] at e;obtain⟨rfl,rfl,rfl⟩:=e;exact⟨y::x::xs,rfl,.swap x y xs⟩
 |trans p q G U =>
  intro xs e;obtain⟨ys,e1,p1⟩:=U e;obtain⟨zs,e2,p2⟩:=G e1;exact⟨zs,e2,p2.trans p1⟩
section
variable{prog:Program}{w:World}{K:Type}[DecidableEq K]{knd:KeyKind prog w K}{pk:List K×Addr->Prop}{A:Around}{E:Y1}{s:Shared}
def ane(x:IsTupleKey knd h ks p)(ho:h.get? a=some o)(hd:o.data=.set es ep t)(hs:Heap.SameBut a h h'):IsTupleKey knd h' ks p:=by
 obtain⟨R,Z,n,U,hc,G,hi⟩:=x;have Uw:p≠a:=by rintro rfl;obtain rfl:R=o:=jy (U.symm.trans ho);rw[hd] at G;exact nomatch G
 exact⟨R,Z,n,(hs.2 p Uw).trans U,hc,G,hi⟩
def newX(X:Tw knd pk h a xs o es U t)(T':Yq t' Z)(he:Z.toList=G.map (ent knd))(hk:∀x∈G,IsTupleKey knd h x.1 x.2/\pk x)(hn:(G.map (·.1)).Nodup)(hl:t'.led=!bt w)(hp:t'.plain=true) :
 Tw knd pk (h.update a (Obj.putSet Z t')) a G { o with data:=.set Z (U+1) t' } Z (U+1) t':=by
 have hg:(h.update a (Obj.putSet Z t')).get? a=some { o with data:=.set Z (U+1) t' }:=by have:=mq (Obj.putSet Z t') X.get (by rw[putSet_of Z t' X.dat];rfl);rw[putSet_of Z t' X.dat] at this;exact this
 exact⟨hg,X.exa,rfl,T',he,λx R=>⟨ane (hk x R).1 X.get X.dat (j6 h a _),(hk x R).2⟩,hn,hl,hp⟩
def Kd(h:n<=128):n<=sizeLine:=by rw[qb];exact a_ h (by decide)
def acn(X:Tw knd pk s.heap a xs o G ep t)(hm:Msk (sizeAbove wanted-1))(hz:G.size<=sizeAbove wanted-1)(hb:sizeAbove wanted<=128)(h:∀h' U o' qq qk t',Heap.SameBut a s.heap h'->Tw knd pk h' a U o' qq qk t'->U.Perm xs->t'.mask=sizeAbove wanted-1->t'.place.size=G.size->Q () { s with heap:=h' }) :
 wpAny (model prog w) A (setRelay a wanted) Q E s:=by
 obtain⟨t',Z,e,e1,T',p,sz,hl,hp,_⟩:=ah4 hm t.finger (t.movedTo (sizeAbove wanted-1)) t.led t.plain G hz;unfold setRelay;refine aa (jw X.get X.dat X.tab.fits ?_);dsimp only;rw[bx (by have:=Kd hb;exact j_ this)];have er:t.relaid (G.map (·.1)) wanted=some (t',Z):=e;rw[er];refine aa ?_;have qv:wpAny (model prog w) A (if((Z.filterMap (G[·]?)).size != G.size)=true then(do unsupported "internal:set-table-lost-an-element";pure (Z.filterMap (G[·]?),t')) else pure (Z.filterMap (G[·]?),t'))
  (λr s'=>wpAny (model prog w) A (storeSet a r.1 r.2) Q E s') E s:=by
  rw[bx (by simp[sz])];refine aj ?_;obtain⟨U,ex,R⟩:=Eh p X.ent;have hX:=newX X T' ex (λx hx=>X.keys x (R.mem_iff.mp hx)) ((R.map _).nodup_iff.mpr X.nod) (hl.trans X.led) (hp.trans X.pla);refine wpAny_storeSet_of X.get X.dat (h _ _ _ _ _ _ (j6 s.heap a _) hX R e1 (by rw[T'.Yr,sz])) (Kd (by rw[sz];exact a_ hz (a_ C_ hb)))
 exact qv
def aag(q4:Tv knd pk)(hu:A.units<cLine)(hk:IsTupleKey knd s.heap k p)(hp:pk (k,p))(hS:Dw knd pk s.heap a S n)(hn:n+1<32)(h:∀h' n' b,Heap.SameBut a s.heap h'->Dw knd pk h' a (λG=>S G\/G=k) n'->n'<=n+1->Q b { s with heap:=h' }) :
 wpAny (model prog w) A (setAddHashed a (.ref p) (tupleKeyHash knd k)) Q E s:=by
 obtain⟨xs,o,es,ep,t,X,hm,hl,nf⟩:=hS;obtain⟨N,F⟩:=X.tab.fst (tupleKeyHash knd k);have q0:=X.size;unfold setAddHashed setAddHashedIn;refine jr (aa (jw X.get X.dat X.tab.fits ?_));dsimp only;rw[anb];simp only[dj,jk];refine aa (We hu hk X F (λi x hi R=>?_) (λq1=>?_))
 .dsimp only
  refine aj ?_;have q3:S k:=(hm k).mpr (bc.mpr ⟨x,ao hi,R⟩);have:=h s.heap n false (Heap.SameBut.refl a s.heap) ⟨xs,o,es,ep,t,X,λG=>by
   rw[<- hm G];exact⟨λh=>h.elim id (λe=>e▸q3),.inl⟩,hl,nf⟩ x_
  exact this
 .dsimp only
  refine aa (jw X.get X.dat X.tab.fits ?_);dsimp only;have room:t.place.size+1<=t.mask:=by have:=X.tab.msk;rcases this with e|e|e|e|e<;>lia
  have T':=X.tab.put (x:=.ref p) F room;have Jq:(t.put (P t.mask (tupleKeyHash knd k) N).j).1.plain=true:=X.pla;rw[Jq];simp only[ji];refine aa (af4 q4 hk hp ?_);simp only[ji];obtain⟨U,ex,px⟩:=Eh (f:=ent knd) (insertAt_perm es (t.put (P t.mask (tupleKeyHash knd k) N).j).2 (tupleKeyHash knd k,.ref p)) (xs:=xs++[(k,p)]) (by rw[Array.toList_push,X.ent,j4];rfl);have pm:=px.map (·.1);have q2:(U.map (·.1)).Nodup:=pm.nodup_iff.mpr (by
   rw[j4,yr];refine⟨X.nod,by simp,λa ha b hb=>?_⟩;simp at hb;subst hb;rintro rfl;obtain⟨x,R,e⟩:=bc.mp ha;exact q1 x R e)
  have Wf:∀x∈U,IsTupleKey knd s.heap x.1 x.2/\pk x:=λx R=>by
   rcases dw.mp (px.mem_iff.mp R) with R|R
   .exact X.keys x R
   .simp at R;subst R;exact⟨hk,hp⟩
  have hX:=newX X T' ex Wf q2 X.led X.pla;have Jk:∀G,(S G\/G=k)↔G∈U.map (·.1):=λG=>by rw[pm.mem_iff,j4,dw,hm G];simp
  have qk:U.length=n+1:=by rw[px.length_eq];simp[hl]
  have qq:(insertAt es (t.put (P t.mask (tupleKeyHash knd k) N).j).2 (tupleKeyHash knd k,.ref p)).size=es.size+1:=My _ _ _;refine aa (wpAny_storeSet_of X.get X.dat ?_ (Kd (by rw[qq];exact e_ (c_ (v_ (f_ q0)) (c_ (v_ (f_ hl)) (b_ hn (by decide)))))));have qv:(t.put (P t.mask (tupleKeyHash knd k) N).j).1.place.size=es.size+1:=by rw[T'.Yr,qq]
  by_cases Z:(t.put (P t.mask (tupleKeyHash knd k) N).j).1.tooFull=true
  .rw[Z]
   simp only[yz,Bool.and_self,ji];obtain⟨g1,g2,g3,g4,g5⟩:=Yt (es.size+1) (c_ (v_ (f_ q0)) (c_ (v_ (f_ hl)) hn));refine aa (acn hX g1 (by rw[qq];exact g2) g5 λh' q6 o2 q7 q5 t2 sb X2 p2 em ps=>?_);refine aj (h h' (n+1) true ((j6 s.heap a _).trans sb) ⟨q6,o2,q7,q5,t2,X2,λG=>?_,by rw[p2.length_eq,qk],?_⟩ (bw _))
   .exact(Jk G).trans (p2.map (·.1)).mem_iff.symm
   .rw[ps,em,qq];exact t_ g4
  .rw[Bool.not_eq_true] at Z
   rw[Z];simp only[Bool.and_false,dj,jk];refine aj (h _ (n+1) true (j6 s.heap a _) ⟨U,_,_,_,_,hX,Jk,qk,?_⟩ (bw _));unfold tooFull at Z;have hf:(t.put (P t.mask (tupleKeyHash knd k) N).j).1.fill=es.size+1:=by unfold fill;rw[qv,T'.dum];rfl
   rw[hf] at Z;rw[qv];simp at Z;exact Z
end
open PySem
def upto(J:Nat->β->Shared->Prop)(G:∀i b z,i<n->J i b z->wpAny M A (f i b) (λr R=>match r with|.yield Z=>J (i+1) Z R|.done Z=>Q Z R) E z)(fin:∀b z,J n b z->Q b z)(start:J 0 b s) :
 wpAny M A (forIn [:n] b f) Q E s:=by
 have go:∀(k i:Nat)(b:β)(z:Shared),n=i+k->J i b z->wpAny M A (forIn (List.range' i k) b f) Q E z:=by
  intro k
  induction k with
  |zero=>intro i b z e hj;subst e;exact aj (fin b z hj)
  |succ k ih =>
   intro i b z e hj;show wpAny M A (forIn (i::List.range' (i+1) k) b f) Q E z;rw[List.forIn_cons];refine aa (mj (G i b z (by lia) hj) (λr R U=>?_) λ_ _ x=>x)
   match r,U with
   |.done Z,U=>exact aj U|.yield Z,U=>exact ih (i+1) Z R (by lia) U
 have e:(forIn [:n] b f:Sem β)=forIn (List.range' 0 n) b f:=by rw[Std.Legacy.Range.forIn_eq_forIn_range'];simp[Std.Legacy.Range.size]
 rw[e];exact go n 0 b s (by lia) start
def sub_dict_set:isSubtype (.type "dict") (.type "set")=pure false:=by rw[isSubtype_type];kernel_rfl
def sub_dict_frozenset:isSubtype (.type "dict") (.type "frozenset")=pure false:=by rw[isSubtype_type];kernel_rfl
section
variable{prog:Program}{w:World}{K:Type}[DecidableEq K]{knd:KeyKind prog w K}{pk:List K×Addr->Prop}{A:Around}{E:Y1}{s:Shared}
def Hg(Z:s.TypeIs v T)(U:isSubtype (.type T) (.type "set")=pure false)(G:isSubtype (.type T) (.type "frozenset")=pure false)(h:Q false s) :
 wpAny (model prog w) A (Builtin.Frozenset.isAnySet v) Q E s:=by
 unfold Builtin.Frozenset.isAnySet;refine aa (o5 Z U ?_);exact o5 Z G h
def bee(Z:s.TypeIs v "set")(h:Q true s):wpAny (model prog w) A (Builtin.Frozenset.isAnySet v) Q E s:=by unfold Builtin.Frozenset.isAnySet;refine aa (o5 Z sub_set_self ?_);exact aj h
def Az(w:World):Obj:={ cls:=.type "set",dict:=none,data:=.set #[] 0 (.fresh 0 0 (!bt w)) }
def at8(G:h.get? a=some (Az w)):Dw knd pk h a (λ_=>False) 0 :=
 ⟨[],Az w,#[],0,_,⟨G,⟨rfl,rfl,rfl⟩,rfl,⟨.inl rfl,rfl,rfl,λi j a b e=>by simp[SetTable.fresh] at e,λi j e=>by simp[SetTable.fresh] at e,by simp[SetTable.fresh],λi j e a=>by simp[SetTable.fresh] at a⟩,
  rfl,λx Z=>by simp at Z,Ao,rfl,rfl⟩,λk=>by simp,rfl,by simp[SetTable.fresh]⟩
set_option tactic.hygienic true in
def at9(hS:Dw knd pk s.heap a S n)(hl:n+m<64)(h:∀Z,Heap.SameBut a s.heap Z->Dw knd pk Z a S n->Q () { s with heap:=Z }):wpAny (model prog w) A (setRoomFor a m) Q E s:=by
 obtain⟨xs,o,es,ep,t,X,y,G,nf⟩:=hS;have U:=X.size;unfold setRoomFor;refine aa (jw X.get X.dat X.tab.fits ?_);dsimp only;unfold roomFor;have J:=X.tab.Yr;split
 .rename_i Y e
  split at e
  .cases e
   obtain⟨g1,g2,g3,g4⟩:=am9 (t.place.size+m) (c_ (v_ (f_ J)) (c_ (v_ (f_ U)) (c_ (v_ (f_ G)) hl)));refine acn X g1 (by lia) g4 λZ L o2 R C t2 sb X2 u em ps=>h Z sb ⟨L,o2,R,C,t2,X2,λk'=>?_,by rw[u.length_eq,G],?_⟩
   .exact(y k').trans (u.map (·.1)).mem_iff.symm
   .rw[ps,em];lia
  .cases e
 .exact aj (h s.heap (Heap.SameBut.refl _ _) ⟨xs,o,es,ep,t,X,y,G,nf⟩)
theorem Dw.get(U:Dw knd pk h a S n):∃o Z G t,h.get? a=some o/\o.ExactSet/\o.data=.set Z G t/\t.fits Z.size=true :=
 let ⟨_,o,Z,G,t,X,_⟩:=U;⟨o,Z,G,t,X.get,X.exa,X.dat,X.tab.fits⟩
def Dw.typeIs(Z:Dw knd pk s.heap a S n):s.TypeIs (.ref a) "set" :=
 let ⟨o,_,_,_,ho,hc,_⟩:=Z.get;⟨o,ho,hc.1⟩
def Dw.congr(Z:Dw knd pk h a S n)(e:∀k,S k↔G k):Dw knd pk h a G n :=
 let ⟨xs,o,es,ep,t,X,hm,r⟩:=Z;⟨xs,o,es,ep,t,X,λk=>(e k).symm.trans (hm k),r⟩
def ang(z1:Tv knd pk){id:String}(hu:A.units<cLine)(hS:Dw knd pk s.heap a S n)(hd:s.heap.DictOfH (tupleKind knd) d Z)(z2:(d==sysModules)=false)(zv:∀x∈Z,pk (x.1,x.2.1))(hl:n+Z.length<31)(h:∀G n',Heap.SameBut a s.heap G->Dw knd pk G a (λk=>S k\/k∈Z.map (·.1)) n'->Q () { s with heap:=G }) :
 wpAny (model prog w) A (Builtin.Frozenset.updateFrom id a (.ref d)) Q E s:=by
 have hT:=hd.typeIs;obtain⟨od,q5,z4,qq,z3,U,q2,zz,z6⟩:=hd;obtain⟨o0,z7,z5,t0,qv,z9,q0,z8⟩:=hS.get;have Uw:d≠a:=by rintro rfl;rw[qq] at qv;cases qv;rw[U] at q0;cases q0
 have qk:q5.size=Z.length:=size_of_entries q2;unfold Builtin.Frozenset.updateFrom;refine aa (Hg hT sub_dict_set sub_dict_frozenset ?_);simp only[dj,jk];refine aa (u0 hT ?_);rw[dg (by decide)];refine aa (wpAny_rule ?_);refine aa (m:=Builtin.Frozenset.addrOf (.ref d)) (aj ?_);rw[bx (by rw[z2];decide)];refine aa (wpAny_dictEpoch qq U ?_);refine aa (t7 qq U ?_);refine aa (at9 hS (by lia) λh1 q3 zq=>?_);have q7:h1.get? d=some od:=(q3.2 d Uw).trans qq;refine aa (t7 q7 U ?_);refine aa ?_;refine upto (λi _ z=>∃G n',z={ s with heap:=G }/\Dw knd pk G a (λk=>S k\/k∈(Z.take i).map (·.1)) n'/\n'<=n+i/\Heap.SameBut a s.heap G) (λi _ z lt q1=>?_) (λ_ z q1=>?_) ⟨h1,n,rfl,zq.congr (λk=>by simp),x_,q3⟩
 .obtain⟨G,n',rfl,Wg,Py,R⟩:=q1
  have q6:G.get? d=some od:=(R.2 d Uw).trans qq;refine aa (t7 q6 U ?_);have lx:i<Z.length:=b_ lt (f_ qk)
  have he:q5[i]?=some (entryOfKey (tupleKind knd) Z[i]):=by rw[entry_at q2];simp[lx]
  rw[he];have q8:IsTupleKey knd G Z[i].1 Z[i].2.1:=ane (zz _ (nq lx)) qv q0 R;show wpAny _ _ (holding [.ref Z[i].2.1] (setAddHashed a (.ref Z[i].2.1) (tupleKeyHash knd Z[i].1)) >>= _) _ _ _;refine aa (jr (aag (s:={ s with heap:=G }) z1 hu q8 (zv _ (nq lx)) Wg (by lia) λzw zk b q4 z0 yy=>?_));refine aa (wpAny_dictEpoch ((q4.2 d Uw).trans q6) U ?_);rw[yt];refine aj ⟨zw,zk,rfl,z0.congr (λk=>?_),by lia,R.trans q4⟩;rw[List.take_add_one,j4,dw,show Z[i]?=some Z[i] by simp[lx]];simp[or_assoc]
 .obtain⟨G,n',rfl,Wg,Py,R⟩:=q1
  refine aj (h G n' R (Wg.congr λk=>?_));rw[List.take_of_length_le (g_ qk)]
end
section
variable{prog:Program}{w:World}{K:Type}[DecidableEq K]{knd:KeyKind prog w K}{pk:List K×Addr->Prop}{A:Around}{E:Y1}{s:Shared}
def aub(Z:R (.ref s.heap.objs.size) { s with heap:=s.heap.push (Az w) }) :
 codeAny (model prog w) A (.call (.builtin "set.__new__") ⟨[.type "set",v],[]⟩) (wants R E) s:=by
 refine codeAny_call_builtin F.plain_set_new F.entry_set_new (wpAny_of_eq (F.newCall_set_1 v) ?_);have G:=sub_set_self;unfold Builtin.«set.__new__» Builtin.Frozenset.newClass
 wp_walk
 exact wpAny_askSetting (aj (aa (wpAny_alloc (aj (aj Z)))))
set_option maxHeartbeats 3200000 in
def Mz{R:Shared->Prop}(qk:wpAny (model prog w) A.in1.in1 (Builtin.Frozenset.updateFrom "set.__init__" s.heap.objs.size x) (λ_ s'=>R s') E { s with heap:=s.heap.push (Az w) })(h:∀s',R s'->Q (.ref s.heap.objs.size) s') :
 wpAny (model prog w) A (call (.type "set") [x]) Q E s:=by
 obtain⟨c,tl,q1⟩:=uz.mro;have q4:=uz.made;have q3:=uz.sub;refine wpAny_call (codeAny_of_tree ?_);show wpAny _ _ (callAny (.type "set") _) _ _ _;refine aj ⟨Code.quiet_builtin _ (by decide+kernel),m7 F.entry_type_call ?_⟩;rw[Around.under_plain (weight_type_call_type "set" [x] []) rfl];have h1:=uz.notType;have h2:=uz.canCreate;have q5:=F.typeCall_set_1 x
 repeat (any_goals (first|assumption|wp_step))
 refine w6 (aub (v:=x) (E:=E) (R:=λobj U=>obj=.ref s.heap.objs.size/\U={ s with heap:=s.heap.push (Az w) }) ⟨rfl,rfl⟩) λr U hr=>?_
 cases r with
 |error e=>exact hr
 |ok fl =>
  cases fl with
  |ret obj =>
   obtain⟨rfl,rfl⟩:=hr;have hS:(s.heap.push (Az w)).get? s.heap.objs.size=some (Az w):=bu _ rfl;have hT:Shared.TypeIs { s with heap:=s.heap.push (Az w) } (.ref s.heap.objs.size) "set" := ⟨_,hS,rfl⟩;have q0:=uz.init.lookup;have q2:=uz.init.bind (.ref s.heap.objs.size)
   repeat (any_goals (first|assumption|wp_step))
   refine w6 (codeAny_call_builtin (R:=wants (λr G=>r=.none/\R G) E) uz.init.plain F.entry_set_init (check_set_init_1 hT ?_)) λqv G Z=>?_
   .unfold Builtin.«set.__init__» noKeywords
    generalize hUF:Builtin.Frozenset.updateFrom=UF at qk ⊢;unfold Az at hS hT qk ⊢
    wp_walk
    exact mj qk (λ_ s' hr=>aj ⟨rfl,hr⟩) (λe s' he=>he)
   .cases qv with
    |error e=>exact Z
    |ok qq =>
     cases qq with
     |ret r =>
      obtain⟨rfl,hq⟩:=Z
      repeat (any_goals (first|assumption|wp_step))
      exact h _ hq
     |_=>exact Z.elim
  |_=>exact hr.elim
end
open PyProof.Rows (F.entry_set_update_loop F.plain_set_update_loop)
section
variable{prog:Program}{w:World}{K:Type}[DecidableEq K]{knd:KeyKind prog w K}{pk:List K×Addr->Prop}{A:Around}{E:Y1}{s:Shared}
def Tz{wr:X9}(Z:IsTupleKey knd h ks p)(U:p∉wr)(R:∀b o,b∉wr->h.get? b=some o->G.get? b=some o):IsTupleKey knd G ks p :=
 let ⟨o,items,n,ho,r⟩:=Z;⟨o,items,n,R p o U ho,r⟩
def Dw.moved{wr:X9}(U:Dw knd pk h a S n)(ha:a∉wr)(hw:∀(b:Addr) (ks:List K),b∈wr->¬IsTupleKey knd h ks b)(G:∀b o,b∉wr->h.get? b=some o->h'.get? b=some o):Dw knd pk h' a S n :=
 let ⟨xs,o,es,ep,t,X,r⟩:=U
 ⟨xs,o,es,ep,t,⟨G a o ha X.get,X.exa,X.dat,X.tab,X.ent,λx Z=>⟨Tz (X.keys x Z).1 (λR=>hw _ _ R (X.keys x Z).1) G,(X.keys x Z).2⟩,X.nod,X.led,X.pla⟩,r⟩
def auc(z2:Tv knd pk){I:Addr}{P:Nat->Value->Prop}(hu:A.in1.units<cLine)(W:WalksS prog w A.in1 I fp wr G n P St)(a:Addr)(q5:a∉fp)(Z:List (List K×Addr))(q4:Z.length=n)(z1:∀i v x,P i v->Z[i]?=some x->v=.ref x.2)(zw:∀x∈Z,pk x)(hb:n<31)(z3:∀x∈Z,x.2∉wr)(q6:∀i (s:Shared),St i s->∀(b:Addr) (Z:List K),b∈wr->¬IsTupleKey knd s.heap Z b) :
 ∀(k i n':Nat)(s:Shared),n-i=k->i<=n->St i s->(∀x∈Z,IsTupleKey knd s.heap x.1 x.2) ->
  Dw knd pk s.heap a (λk'=>k'∈(Z.take i).map (·.1)) n'->n'<=i ->
  (∀U zv,Moved (a::wr) G s U->Dw knd pk U.heap a (λk'=>k'∈Z.map (·.1)) zv->R (.ok (.ret .none)) U) ->
  codeAny (model prog w) A (.builtin "set.update.loop" ⟨[.ref a,.ref I],[]⟩) R s:=by
 have q1:a∉wr:=λh=>q5 (W.sub _ h)
 have q3:∀b∈wr,b∈a::wr:=λb hb=>bh _ hb
 intro k
 induction k with
 |zero =>
  intro i n' s hk hi qq Wf hS Py hR;have Tu:i=n:=by lia
  subst Tu;refine m7 uh ?_;rw[j9 lz _];show wpAny _ A.in1 (pyNext (.ref I) >>= _) _ _ s;refine aa (W.done s _ _ qq λU hm=>?_);show wpAny _ A.in1 (ret Value.none) _ _ U;refine aj (hR U n' (hm.mono q3) ((hS.moved q1 (q6 _ s qq) hm.heap).congr λk=>?_));rw[List.take_of_length_le (f_ q4)]
 |succ k ih =>
  intro i n' s hk hi qq Wf hS Py hR;have Jp:i<n:=by lia
  refine m7 uh ?_;rw[j9 lz _];show wpAny _ A.in1 (pyNext (.ref I) >>= _) _ _ s;refine aa (W.item i s _ _ Jp qq λv U hP q8 hm=>?_);have lx:i<Z.length:=b_ Jp (g_ q4)
  have q2:Z[i]?=some Z[i]:=by simp[lx]
  obtain rfl:=z1 i v _ hP q2;have qk:=nq lx;have Wg:=hS.moved q1 (q6 _ s qq) hm.heap;have qv:∀x∈Z,IsTupleKey knd U.heap x.1 x.2:=λx hx=>Tz (Wf x hx) (z3 x hx) hm.heap
  show wpAny _ A.in1 (holding [Value.ref Z[i].2] (setAdd a (.ref Z[i].2)) >>= _) _ _ U;refine aa (jr ?_);unfold setAdd;refine jr ?_;refine aa (wpAny_pyHash_tuple hu (qv _ qk) ?_);refine aag (s:={ U with toks:=U.toks+(Z[i].1.length+1) }) z2 hu (qv _ qk) (zw _ qk) Wg (by lia) λh' n2 b q0 z4 Yu=>?_
  obtain⟨oa,z8,z6,ta,zk,z5,q7,z7⟩:=Wg.get;refine aj ⟨plainId_quiet lz _,ih (i+1) n2 _ (by lia) Jp (W.frame _ U _ _ q8 (Ay _ _) λb hb o e=>?_) (λx hx=>ane (qv x hx) zk q7 q0) (z4.congr λk=>?_) (a_ Yu (v_ Py)) λzz n3 zq z0=>?_⟩
  .rw[q0.2 b (λh:b=a=>q5 (by rw[<- h];exact hb))];exact e
  .rw[List.take_add_one,j4,dw,q2];simp
  .refine hR zz n3 (Moved.trans W.gtrans ((hm.mono q3).then_heap (Ay _ _) λb o hb e=>?_) zq) z0
   rw[q0.2 b (λh:b=a=>hb (by rw[h];exact cu))];exact e
def anj(zz:Tv knd pk){id:String}{ks:List (List K×Addr)}(hh:A.handled=none)(hu:A.in1.units+1<cLine)(hS:Dw knd pk s.heap a (λ_=>False) 0)(hl:s.heap.IsList l items)(qk:items.toList=ks.map λx=>.ref x.2)(Wf:∀x∈ks,IsTupleKey knd s.heap x.1 x.2)(q5:∀x∈ks,pk x)(R:ks.length<31)(h:∀h' tk n',(∀b o,b≠a->s.heap.get? b=some o->h'.get? b=some o)->Dw knd pk h' a (λk=>k∈ks.map (·.1)) n'->Q () { s with heap:=h',toks:=tk }) :
 wpAny (model prog w) A (Builtin.Frozenset.updateFrom id a (.ref l)) Q E s:=by
 have hT:s.TypeIs (.ref l) "list" := let ⟨o,Z,U,_⟩:=hl;⟨o,Z,U⟩;have qv:items.size=ks.length:=by rw[<- v5,qk];simp
 obtain⟨oa,z1,zw,ta,G,zv,qq,z0⟩:=hS.get;unfold Builtin.Frozenset.updateFrom;refine aa (Hg hT F.sub_list_set F.sub_list_frozenset ?_);simp only[dj,jk];refine aa (u0 hT ?_);rw[bx (by decide)];refine aa (xx hl ?_);refine aa (wpAny_runValue ?_);have Jp:l<s.heap.objs.size:=let ⟨o,Z,_⟩:=hl;az Z
 have zq:a<s.heap.objs.size:=az G
 have q8:l≠a:=by rintro rfl;obtain⟨o,Z,_,n,hd⟩:=hl;rw[Z] at G;cases G;rw[hd] at qq;cases qq
 have q6:l≠s.heap.objs.size:=gh Jp;have zk:a∉[s.heap.objs.size,l]:=by simp only[cj,ug,Bd,not_or];exact⟨gh zq,λe=>q8 e.symm⟩
 have keep:∀b o,s.heap.get? b=some o->(s.heap.push { cls:=.type "list_iterator",data:=.fields #[.ref l,.int 0 0] }).get? b=some o:=λb o e=>au _ e
 refine auc zz (by lia) ((Walks.list (by simp[hh]) _ l q6 items).toS) a zk ks qv.symm (λi v x hv hx=>?_) q5 (c_ (f_ qv) R) (λx hx U=>?_) (λi s' st b kk hb q7=>?_) items.size 0 0 _ rfl (iz _)
  ⟨⟨_,bu _ rfl,rfl,rfl⟩,hl.push _⟩ (λx hx=>Tz (wr:=[]) (Wf x hx) (by simp) λb o _ e=>keep b o e) ?_ (bw _) ?_
 .have:items.toList[i]?=some v:=by simpa using hv
  rw[qk,ie,hx] at this;exact(jy this).symm
 .simp at U
  obtain⟨o,_,_,Z,_⟩:=Wf x hx;have:=az Z;rw[U] at this;exact qy _ this
 .simp at hb
  subst hb;obtain⟨o,_,_,Z,U,_⟩:=q7;obtain⟨⟨o',q1,q0,_⟩,_⟩:=st;rw[Z] at q1;cases q1;rw[U] at q0;exact absurd q0 (by decide)
 .refine(hS.moved (wr:=[]) (by simp) (by simp) λb o _ e=>keep b o e).congr λk=>by simp
 .intro s' q4 hm Wg
  obtain⟨h',g',d',q2,q3⟩:=s';have eg:g'=s.gens:=hm.gens;have ed:d'=s.drawn:=hm.drawn;have eo:q3=s.os:=hm.os;subst eg;subst ed;subst eo;show wpAny _ _ _ _ _ _;refine aj (h h' q2 q4 (λb o hb e=>?_) Wg);refine hm.heap b o ?_ (keep b o e);simp only[cj,ug,Bd,not_or];exact⟨hb,gh (az e)⟩
end
theorem Wh{Z:Type}:∀{l:List Z}{i:Nat}(h:i<l.length),(l[i]::l.eraseIdx i).Perm l
 |x::l,0,_=>za _
 |x::l,i+1,h=>by
  have G:=Wh (l:=l) (i:=i) (by simpa using h);simp only[List.getElem_cons_succ,List.eraseIdx_cons_succ];exact(List.Perm.swap x _ _).trans (G.cons x)
theorem ah9{R:Type}(nx:Nat->Nat):∀(G k:Nat)(Z:List R)(out:Array R),Z.length=G->(pickOrder.go nx G k Z out).toList.Perm (out.toList++Z)
 |0,k,Z,out,h=>by
  have:Z=[]:=zb.mp h;subst this;unfold pickOrder.go;simp
 |G+1,k,Z,out,h=>by
  unfold pickOrder.go;have U:nx k%Z.length<Z.length:=Nat.mod_lt _ (by lia)
  rw[bf U];dsimp only;refine(ah9 nx G (k+1) _ _ (by rw[List.length_eraseIdx];split<;>lia)).trans ?_;rw[Array.toList_push,yo];refine List.Perm.append_left _ ?_;exact Wh U
def Yv(nx:Nat->Nat)(Z:Array α):(pickOrder nx Z).toList.Perm Z.toList:=by unfold pickOrder;simpa using ah9 nx Z.size 0 Z.toList #[] (by simp)
theorem Wi{G:Type}[DecidableEq G]:∀{Z l2:List G},Z.Nodup->Z ⊆ l2->l2.length<=Z.length->∀x∈l2,x∈Z
 |[],l2,_,_,h,x,hx=>by
  have:l2=[]:=zb.mp (by simpa using h);subst this;simp at hx
 |a::Z,l2,hn,hs,h,x,hx=>by
  by_cases e:x=a
  .subst e;exact cu
  .refine bh _ ?_
   have ha:a∈l2:=hs cu;have R:=q9.mp hn;refine Wi (l2:=l2.erase a) R.2 (λy U=>?_) ?_ x ((List.mem_erase_of_ne e).mpr hx)
   .exact(List.mem_erase_of_ne (λ(e:y=a)=>R.1 (by rw[<- e];exact U))).mpr (hs (bh _ U))
   .rw[List.length_erase_of_mem ha];simp at h;omega
def aai:entryFor table "set.__ne__" = some Builtin.«frozenset.__ne__» :=
 entryFor_alias (id' := "frozenset.__ne__") (by kernel_rfl) rfl (by decide+kernel) (by kernel_rfl)
def sub_set_frozenset:isSubtype (.type "set") (.type "frozenset")=pure false:=by rw[isSubtype_type];kernel_rfl
section
variable{prog:Program}{w:World}{K:Type}[DecidableEq K]{knd:KeyKind prog w K}{pk:List K×Addr->Prop}{A:Around}{E:Y1}{s:Shared}
set_option tactic.hygienic true in
def auh(X:Tw knd pk s.heap a U o Z C t)(h:∀l,l.toList.Perm Z.toList->Q l s):wpAny (model prog w) A (setWalk a) Q E s:=by
 unfold setWalk;refine aa (jw X.get X.dat X.tab.fits ?_);dsimp only;refine aa (Vw ?_);split
 .exact aa (wpAny_askSetting (aj (h _ (Yv _ _))))
 .rename_i G
  have G:bt w=false:=by simpa using G
  split
  .rename_i Y
   have Y:(!t.plain&&decide (Z.size > 1))=true:=Y;rw[X.pla] at Y;cases Y
  .refine aa ?_
   have:wpAny (model prog w) A (if(!t.led&&decide (Z.size > 1))=true then unsupported "set:maker-not-led" else pure ()) (λ_ J=>wpAny (model prog w) A (pure Z) Q E J) E s:=by rw[X.led,G];simp only[yz,qx,Bool.false_and,dj,jk];exact aj (aj (h Z (za _)))
   exact this
def akr(Z:IsTupleKey knd s.heap G a)(h:Q false s):wpAny (model prog w) A (Builtin.Frozenset.quietEq (.ref a)) Q E s:=by
 unfold Builtin.Frozenset.quietEq;refine aa (wpAny_specialOf Z.typeIs F.slot_tuple_eq.lookup ?_);refine aj ?_;have:(some (Value.builtin "tuple.__eq__")==some (Value.builtin "object.__eq__"))=false:=by decide
 rw[this];exact h
def aaj(X:Tw knd pk h a R o G ep t)(Z:e∈G.toList):∃x∈R,e=ent knd x:=by rw[X.ent] at Z;obtain⟨x,U,rfl⟩:=bc.mp Z;exact⟨x,U,rfl⟩
def aks(X:Tw knd pk s.heap a xs o es ep t)(Y:Tw knd pk s.heap b ys o' qq qk t')(h:∀l:List (Int×Value),l.Perm es.toList->Q l s):wpAny (model prog w) A (Builtin.Frozenset.walkUnseen a b) Q E s:=by
 unfold Builtin.Frozenset.walkUnseen;refine aa (lg X.get X.dat X.tab.fits ?_);refine aa (lg Y.get Y.dat Y.tab.fits ?_);refine aa ?_;refine qi _ (λZ r U=>r.1=none/\U=s/\∀e∈Z,∃ks p,e.2=.ref p/\IsTupleKey knd s.heap ks p) _ ?_ ?_ _ _ ⟨rfl,rfl,λe G=>?_⟩
 .rintro e Z r U ⟨hr,rfl,Eg⟩
  obtain⟨ks,p,R,hk⟩:=Eg e cu;obtain⟨h0,x0⟩:=e;subst R;dsimp only;refine aa (akr hk ?_);simp only[yz,ji];unfold Builtin.Frozenset.walk;refine aa (aa (auh X λl hl=>aj ?_));exact aj (aj (h _ hl))
 .rintro⟨r1,r2⟩ U ⟨hr,rfl,_⟩
  simp only at hr;subst hr;exact aj (h _ (za _))
 .rcases dw.mp G with G|G
  .obtain⟨x,hx,rfl⟩:=aaj X G
   exact⟨x.1,x.2,rfl,(X.keys x hx).1⟩
  .obtain⟨x,hx,rfl⟩:=aaj Y G
   exact⟨x.1,x.2,rfl,(Y.keys x hx).1⟩
def a0p{id:String}(hu:A.units<cLine)(hS:Dw knd pk s.heap a S n)(hT:Dw knd pk s.heap b T m)(h:∀c:Bool,(c=true↔n<=m/\∀k,S k->T k)->Q c s):wpAny (model prog w) A (Builtin.Frozenset.subsetOf id a b) Q E s:=by
 have qq:=hT;obtain⟨xs,o,es,ep,t,X,hm,hn,_⟩:=hS;obtain⟨ys,o',qv,q1,t',Y,q0,Py,_⟩:=hT;have h1:=X.size;have h2:=Y.size;unfold Builtin.Frozenset.subsetOf Builtin.Frozenset.sizeOf;refine aa (aa (lg X.get X.dat X.tab.fits (aj ?_)));refine aa (aa (lg Y.get Y.dat Y.tab.fits (aj ?_)));split
 .exact aj (h false (by simp;lia))
 .refine aa (wpAny_setEpoch_of X.get X.dat X.tab.fits ?_)
  refine aa (aks X Y λl hl=>?_);refine aa ?_;refine qi _ (λG r s'=>r.1=none/\s'=s/\(∀e∈G,∃x∈xs,e=ent knd x)/\∀x∈xs,ent knd x∈G\/T x.1) _ ?_ ?_ _ _ ⟨rfl,rfl,λe he=>aaj X (hl.mem_iff.mp he),λx R=>.inl (hl.mem_iff.mpr (by rw[X.ent];exact bc.mpr ⟨x,R,rfl⟩))⟩
  .rintro e G r s' ⟨hr,rfl,Eg,U⟩
   obtain⟨x,R,rfl⟩:=Eg e cu;show wpAny _ _ (holding [.ref x.2] (setFind b (.ref x.2) (tupleKeyHash knd x.1)) >>= _) _ _ _;refine aa (jr (at5 hu (X.keys x R).1 qq λr hr=>?_));cases r with
   |none =>
    simp only[Option.isNone_none,ji];refine aj (aj (h false ?_));simp only[dj,false_iff,not_and,Classical.not_forall];intro _;refine⟨x.1,(hm x.1).mpr (bc.mpr ⟨x,R,rfl⟩),λZ=>?_⟩;have:=hr.mpr Z;cases this
   |some i =>
    simp only[Option.isNone_some,dj,jk];unfold Builtin.Frozenset.unchanged;refine aa (aa (wpAny_setEpoch_of X.get X.dat X.tab.fits ?_));rw[bx (by simp)];refine aj (aj ⟨rfl,rfl,λe he=>Eg e (bh _ he),λy hy=>?_⟩);rcases U y hy with Z|Z
    .rcases cj.mp Z with Z|Z
     .right
      have qk:T x.1:=hr.mp rfl;have e2:y.2=x.2:=by have:=ud Prod.snd Z;unfold ent at this;injection this
      have:y.1=x.1:=IsTupleKey.inj (X.keys y hy).1 (by rw[e2];exact(X.keys x R).1);rw[this];exact qk
     .exact .inl Z
    .exact .inr Z
  .rintro⟨r1,r2⟩ s' ⟨hr,rfl,_,U⟩
   simp only at hr;subst hr;refine aj (h true ?_);simp only[true_iff];refine⟨by lia,λk hk=>?_⟩;obtain⟨x,R,rfl⟩:=bc.mp ((hm k).mp hk);rcases U x R with Z|Z
   .simp at Z
   .exact Z
set_option tactic.hygienic true in
def anl(hu:A.in1.units<cLine)(y:A.units<cLine)(J:Dw knd pk s.heap a S n)(C:Dw knd pk s.heap b T m)(h:∀c:Bool,(c=true↔¬∀k,S k↔T k)->Q (.bool c) s):wpAny (model prog w) A (compareOp .NotEq (.ref a) (.ref b)) Q E s:=by
 show wpAny _ _ (richCompare .NotEq (.ref a) (.ref b)) _ _ _;refine wpAny_richCompare_same_room (op:=.NotEq) J.typeIs C.typeIs F.slot_set_ne (jz F.slot_set_ne J.typeIs aai ?_ (F.args_set_ne_2 _ _)) y;have fin:∀c:Bool,(c=true↔∀k,S k↔T k)->Q (.bool !c) s:=λc hc=>h _ (by cases c<;>simp_all)
 have Wg:=J;have R:=C;obtain⟨xs,o,es,ep,t,X,L,u,_⟩:=Wg;obtain⟨ys,o',qq,qk,t',Y,Z,Py,_⟩:=R;have h1:=X.size;have h2:=Y.size;have same:(∀k,S k↔T k)->n=m:=λe=>by
  have:(xs.map (·.1)).Perm (ys.map (·.1)):=(List.perm_ext_iff_of_nodup X.nod Y.nod).mpr λk=>by rw[<- L k,<- Z k];exact e k
  have:=this.length_eq;simp at this;exact u_ (a_ (g_ u) (a_ (f_ this) (f_ Py))) (a_ (g_ Py) (a_ (g_ this) (f_ u)))
 have U:n=m->(∀k,S k->T k)->∀k,S k↔T k:=λe hs k=>⟨hs k,λhk=>(L k).mpr (Wi X.nod (λk hk=>(Z k).mp (hs k ((L k).mpr hk))) (by simp;exact a_ (f_ Py) (a_ (g_ e) (g_ u))) k ((Z k).mp hk))⟩
 show wpAny _ _ (Builtin.Frozenset.slot1 "__ne__" ⟨[.ref a,.ref b],[]⟩ >>= _) _ _ _;unfold Builtin.Frozenset.slot1 slotArgs;simp only[List.isEmpty_nil,qx,dj,↓reduceIte,bind_assoc,il,List.length_nil,yt];refine aa (aj ?_)
 try dsimp only
 refine aa (aj ?_)
 try dsimp only
 refine aa (bee C.typeIs ?_);simp only[qx,dj,↓reduceIte];refine aa (m:=Builtin.Frozenset.addrOf (.ref a)) (aj ?_);refine aa (m:=Builtin.Frozenset.addrOf (.ref b)) (aj ?_);unfold Builtin.Frozenset.sizeOf;refine aa (aa (lg X.get X.dat X.tab.fits (aj ?_)));refine aa (aa (lg Y.get Y.dat Y.tab.fits (aj ?_)));refine aa ?_;split
 .rename_i Uw
  refine aj ?_;refine aj ⟨_,rfl,(λe=>nomatch e),fin false ?_⟩;simp only[dj,false_iff];intro e;have:=same e;simp at Uw;lia
 .rename_i Uw
  have G:n=m:=by simp at Uw;lia
  refine aa (aa (o5 J.typeIs sub_set_frozenset ?_));refine aj ?_;simp only[dj,↓reduceIte];refine a0p hu J C λc hc=>?_
  exact aj ⟨_,rfl,(λe=>nomatch e),fin c (hc.trans ⟨λe=>U G e.2,λe=>⟨f_ G,λk=>(e k).mp⟩⟩)⟩
end
def aia{prog:Program}{w:World}{A:Around}{U:Type}{Q:U->Shared->Prop}{E:Y1}{s:Shared}(G:A.handled=none)(q:∀Z x,(∀b o,s.heap.get? b=some o->Z.get? b=some o)->(∃o,Z.get? x=some o/\o.cls=.type "StopIteration")->E (.ref x) { s with heap:=Z }):wpAny (model prog w) A (newExc (.type "StopIteration") [] >>= raiseNew) Q E s:=by simp only[newExc,newTuple];refine aa (aa (t8 (aa (m:=firstArgMember _ _) (wpAny_of_eq (a:=Value.none) (by first|rfl|(simp only[firstArgMember];rfl)) (t8 ?_ (by size_fits)))) (by size_fits)));simp only[raiseNew];refine aa (wpAny_handled ?_);rw[G];exact aa (aj (wpAny_throw (q _ _ (λb o e=>au _ (au _ e)) ⟨_,bu _ rfl,rfl⟩)))
def aui(k:Yq t Z)(F:Fst t h N)(room:t.place.size+1<=t.mask) :
 layNew t Z h x=(insertAt Z (t.put (P t.mask h N).j).2 (h,x),(t.put (P t.mask h N).j).1,false,false):=by
 have e:t.freeSlot h=some ((P t.mask h N).j,false):=by
  unfold freeSlot probe;rw[ach];rcases am5 k F (λ_=>h+1) (10*turns t.mask) 0 (iz _) (by have:=F.lt;exact c_ C_ this) with⟨a,_⟩|⟨m,i,_,_,_,c,_⟩
  .rw[a];rfl
  .lia
 have f:=(k.put (x:=x) F room).fits;unfold layNew;rw[e];show(insertAt Z (t.put (P t.mask h N).j).2 (h,x),(t.put (P t.mask h N).j).1.orStandIn (insertAt Z (t.put (P t.mask h N).j).2 (h,x)).size,false,!(t.put (P t.mask h N).j).1.fits (insertAt Z (t.put (P t.mask h N).j).2 (h,x)).size)=_;unfold orStandIn;rw[dg f,f];rfl
def akt(hm:Msk (sizeAbove wanted-1))(hz:es.size<=sizeAbove wanted-1) :
 ∃G t',relayAll t es wanted=(G,t',false)/\t'.mask=sizeAbove wanted-1/\Yq t' G/\G.toList.Perm es.toList/\t'.led=t.led/\t'.plain=t.plain:=by
 obtain⟨t',Z,e,e1,R,p,sz,hl,hp,_,U⟩:=ah4 hm t.finger (t.movedTo (sizeAbove wanted-1)) t.led t.plain es hz;have er:t.relaid (es.map (·.1)) wanted=some (t',Z):=e;refine⟨Z.filterMap (es[·]?),t',?_,e1,R,p,hl,hp⟩;unfold relayAll;rw[er];dsimp only;rw[dg];rw[aq];exact⟨by unfold coversAll;exact List.isPerm_iff.mpr U,R.fits⟩
noncomputable def enI(x:Int×Tok):Int×Value:=(hashInt x.1,.int x.1 x.2)
structure K6(w:World)(h:Heap)(a:Addr)(xs:List (Int×Tok))(o:Obj)(es:Array (Int×Value))(ep:Nat)(t:SetTable):Prop where
 get:h.get? a=some o
 exa:o.ExactSet
 dat:o.data=.set es ep t
 tab:Yq t es
 ent:es.toList=xs.map enI
 nod:(xs.map (·.1)).Nodup
 led:t.led=!bt w
 pla:t.plain=true
def Cq(w:World)(h:Heap)(a:Addr)(S:Int->Prop)(n:Nat):Prop:=∃Z o G U t,K6 w h a Z o G U t/\(∀k,S k↔k∈Z.map (·.1))/\Z.length=n/\t.place.size*5<t.mask*3
theorem K6.size(X:K6 w h a G o Z U t):Z.size=G.length:=by have:=ud List.length X.ent;simpa using this
def K6.elems(X:K6 w h a R o G U t):ElemsOf (intKind prog w) G.toList:=λe Z=>by rw[X.ent] at Z;obtain⟨x,_,rfl⟩:=bc.mp Z;exact⟨⟨x.1,by simp[enI,intKind,Value.isInt],rfl⟩,rfl⟩
def a7y(X:K6 w h a xs o es U t)(T':Yq t' Z)(he:Z.toList=G.map enI)(R:(G.map (·.1)).Nodup)(hl:t'.led=!bt w)(hp:t'.plain=true) :
 K6 w (h.update a (Obj.putSet Z t')) a G { o with data:=.set Z (U+1) t' } Z (U+1) t':=by
 have hg:(h.update a (Obj.putSet Z t')).get? a=some { o with data:=.set Z (U+1) t' }:=by have:=mq (Obj.putSet Z t') X.get (by rw[putSet_of Z t' X.dat];rfl);rw[putSet_of Z t' X.dat] at this;exact this
 exact⟨hg,X.exa,rfl,T',he,R,hl,hp⟩
theorem Cq.get(U:Cq w h a S n):∃o Z G t,h.get? a=some o/\o.ExactSet/\o.data=.set Z G t/\t.fits Z.size=true :=
 let ⟨_,o,Z,G,t,X,_⟩:=U;⟨o,Z,G,t,X.get,X.exa,X.dat,X.tab.fits⟩
theorem af8:∀{a b:Xs},a.Nodup->(∀x∈a,x∈b)->a.length<=b.length
 |[],_,_,_=>iz _
 |x::a,b,h,s=>by
  obtain⟨U,G⟩:=q9.mp h;have:=af8 (b:=b.erase x) G λy Z=>(List.mem_erase_of_ne (λe:y=x=>U (e▸Z))).mpr (s y (.tail _ Z))
  rw[List.length_erase_of_mem (s x (.head _))] at this;have:=List.length_pos_of_mem (s x (.head _));rw[il];lia
def Cq.le(Z:Cq w h a S n){B:Xs}(R:∀k,S k->k∈B):n<=B.length:=by obtain⟨xs,o,es,ep,t,X,U,rfl,_⟩:=Z;rw[<- cz (f:=(·.1))];exact af8 X.nod λk G=>R k ((U k).mpr G)
def Cq.congr(Z:Cq w h a S n)(e:∀k,S k↔G k):Cq w h a G n :=
 let ⟨xs,o,es,ep,t,X,hm,r⟩:=Z;⟨xs,o,es,ep,t,X,λk=>(e k).symm.trans (hm k),r⟩
def Cq.moved(G:Cq w h a S n)(Z:∀o,h.get? a=some o->U.get? a=some o):Cq w U a S n :=
 let ⟨xs,o,es,ep,t,X,r⟩:=G
 ⟨xs,o,es,ep,t,⟨Z o X.get,X.exa,X.dat,X.tab,X.ent,X.nod,X.led,X.pla⟩,r⟩
def ano(Z:h.get? a=some (Az w)):Cq w h a (λ_=>False) 0 :=
 ⟨[],Az w,#[],0,_,⟨Z,⟨rfl,rfl,rfl⟩,rfl,⟨.inl rfl,rfl,rfl,λi j a b e=>by simp[SetTable.fresh] at e,λi j e=>by simp[SetTable.fresh] at e,by simp[SetTable.fresh],λi j e a=>by simp[SetTable.fresh] at a⟩,
  rfl,Ao,rfl,rfl⟩,λk=>by simp,rfl,by simp[SetTable.fresh]⟩
def auj(hS:Cq w s.heap a S n)(hn:n+1<32)(h:∀h' n' b,Heap.SameBut a s.heap h'->Cq w h' a (λU=>S U\/U=k) n'->n'<=n+1->Q b { s with heap:=h' }) :
 wpAny (model prog w) A (setAddHashed a (.int k tk) (hashInt k)) Q E s:=by
 obtain⟨xs,o,G,ep,t,X,hm,hl,nf⟩:=hS;obtain⟨N,F⟩:=X.tab.fst (hashInt k);have zv:=X.size;have q5:=X.elems (prog:=prog);have q7:(intKind prog w).is k (.int k tk)=true:=by simp[intKind,Value.isInt]
 unfold setAddHashed setAddHashedIn;refine jr (aa (jw X.get X.dat X.tab.fits ?_));dsimp only;rw[byScan_of (knd:=intKind prog w) (x:=.int k tk) rfl (by unfold scanBound;lia) q5];simp only[↓reduceIte];unfold setAddByScan;refine aa ?_;refine aa (wpAny_rule ?_);refine aa (wpAny_setScan_of (knd:=intKind prog w) (k:=k) q7 X.get X.dat X.tab.fits q5 ?_);cases hr:List.findIdx? (λe=>(intKind prog w).is k e.2) G.toList with
 |some j =>
  dsimp only;obtain⟨hj,z1,_⟩:=qj.mp hr;have z0:S k:=by
   obtain⟨x,hx,ex⟩:∃x∈xs,enI x=G.toList[j]:=by have Jk:=nq hj;generalize G.toList[j]=e at Jk;rw[X.ent] at Jk;exact bc.mp Jk
   have zw:(intKind prog w).is k (enI x).2=true:=by rw[ex];exact z1
   refine(hm k).mpr (bc.mpr ⟨x,hx,?_⟩);have:(intKind prog w).is x.1 (enI x).2=true:=by simp[enI,intKind,Value.isInt]
   exact(intKind prog w).inj _ _ _ this zw
  refine aj (aj ?_);have:=h s.heap n false (Heap.SameBut.refl a s.heap) ⟨xs,o,G,ep,t,X,λU=>by
   rw[<- hm U];exact⟨λh=>h.elim id (λe=>e▸z0),.inl⟩,hl,nf⟩ x_
  exact this
 |none =>
  dsimp only;have q8:∀x∈xs,x.1≠k:=λx hx e=>by have:=wg.mp hr (enI x) (by rw[X.ent];exact bc.mpr ⟨x,hx,rfl⟩);subst e;simp[enI,intKind,Value.isInt] at this
  have room:t.place.size+1<=t.mask:=by have:=X.tab.msk;rcases this with e|e|e|e|e<;>lia
  have T':=X.tab.put (x:=.int k tk) F room;rw[aui X.tab F room];have Jq:(t.put (P t.mask (hashInt k) N).j).1.plain=true:=X.pla;have q1:(t.put (P t.mask (hashInt k) N).j).1.led=!bt w:=X.led;obtain⟨R,ex,px⟩:=Eh (f:=enI) (insertAt_perm G (t.put (P t.mask (hashInt k) N).j).2 (hashInt k,.int k tk)) (xs:=xs++[(k,tk)]) (by rw[Array.toList_push,X.ent,j4];rfl);have pm:=px.map (·.1);have q4:(R.map (·.1)).Nodup:=pm.nodup_iff.mpr (by
   rw[j4,yr];refine⟨X.nod,by simp,λa ha b hb=>?_⟩;simp at hb;subst hb;rintro rfl;obtain⟨x,hx,e⟩:=bc.mp ha;exact q8 x hx e)
  have hX:=a7y X T' ex q4 q1 Jq;have Jk:∀U,(S U\/U=k)↔U∈R.map (·.1):=λU=>by rw[pm.mem_iff,j4,dw,hm U];simp
  have qk:R.length=n+1:=by rw[px.length_eq];simp[hl]
  have qq:(insertAt G (t.put (P t.mask (hashInt k) N).j).2 (hashInt k,Value.int k tk)).size=G.size+1:=My _ _ _;have q3:(t.put (P t.mask (hashInt k) N).j).1.place.size=G.size+1:=by rw[T'.Yr,qq]
  have hf:(t.put (P t.mask (hashInt k) N).j).1.fill=G.size+1:=by unfold fill;rw[q3,T'.dum];rfl
  generalize insertAt G (t.put (P t.mask (hashInt k) N).j).2 (hashInt k,Value.int k tk)=es1 at *;generalize(t.put (P t.mask (hashInt k) N).j).1=t1 at *;dsimp only;refine aa (aj ?_);rw[Jq];simp only[ji];refine aa ?_;rw[hashByValue_scannable 8 (x:=.int k tk) rfl];refine aj ?_;have zq:plainKind (.int k tk)=true:=rfl;simp only[zq,ji];refine aa (wpAny_storeSet_of X.get X.dat ?_ (Kd (by lia)))
  by_cases Z:t1.tooFull=true
  .rw[Z]
   simp only[yz,Bool.and_self,ji];obtain⟨g1,g2,g3,g4,g5⟩:=Yt (G.size+1) (c_ (v_ (f_ zv)) (c_ (v_ (f_ hl)) hn));obtain⟨q6,t2,e2,m2,T2,p2,l2,q2⟩:=akt (t:=t1) (es:=es1) (wanted:=grown (G.size+1)) g1 (a_ (f_ qq) g2);rw[qq,e2];dsimp only;refine aa (aj ?_);obtain⟨z2,zk,qv⟩:=Eh p2 ex;have zz:=a7y hX T2 zk ((qv.map _).nodup_iff.mpr q4) (l2.trans q1) (q2.trans Jq);have q0:q6.size=G.size+1:=by have:=p2.length_eq;simp at this;exact this.trans qq
   refine aa (wpAny_storeSet_of hX.get rfl ?_ (Kd (a_ (f_ q0) (a_ g2 (a_ C_ g5)))));refine aj (aj (h _ (n+1) true ((j6 s.heap a _).trans (j6 _ a _)) ⟨z2,_,q6,_,t2,zz,λU=>?_,by rw[qv.length_eq,qk],?_⟩ (bw _)))
   .exact(Jk U).trans (qv.map (·.1)).mem_iff.symm
   .rw[T2.Yr,m2,q0];exact t_ g4
  .rw[Bool.not_eq_true] at Z
   rw[Z];simp only[Bool.and_false,dj,jk];refine aj (aj (h _ (n+1) true (j6 s.heap a _) ⟨R,_,_,_,_,hX,Jk,qk,?_⟩ (bw _)));unfold tooFull at Z;rw[hf] at Z;rw[q3];simp at Z;exact Z
def anp{I:Addr}{P:Nat->Value->Prop}(W:WalksS prog w A.in1 I fp wr G n P St)(a:Addr)(q4:a∉fp)(U:Xs)(q3:U.length=n)(zk:∀i v x,P i v->U[i]?=some x->∃tk,v=.int x tk){B:Xs}(hB:∀k∈U,k∈B)(hb:B.length<31) :
 ∀(k i n':Nat)(s:Shared),n-i=k->i<=n->St i s ->
  Cq w s.heap a (λk'=>k'∈U.take i) n'->n'<=B.length ->
  (∀Z q1,Moved (a::wr) G s Z->Cq w Z.heap a (λk'=>k'∈U) q1->q1<=B.length->R (.ok (.ret .none)) Z) ->
  codeAny (model prog w) A (.builtin "set.update.loop" ⟨[.ref a,.ref I],[]⟩) R s:=by
 have qk:a∉wr:=λh=>q4 (W.sub _ h)
 have q2:∀b∈wr,b∈a::wr:=λb hb=>bh _ hb
 intro k
 induction k with
 |zero =>
  intro i n' s hk hi qq hS Py hR;have Tu:i=n:=by lia
  subst Tu;refine m7 uh ?_;rw[j9 lz _];show wpAny _ A.in1 (pyNext (.ref I) >>= _) _ _ s;refine aa (W.done s _ _ qq λZ hm=>?_);show wpAny _ A.in1 (ret Value.none) _ _ Z;refine aj (hR Z n' (hm.mono q2) ((hS.moved λo=>hm.heap a o qk).congr λk=>?_) Py);rw[List.take_of_length_le (f_ q3)]
 |succ k ih =>
  intro i n' s hk hi qq hS Py hR;have Jp:i<n:=by lia
  refine m7 uh ?_;rw[j9 lz _];show wpAny _ A.in1 (pyNext (.ref I) >>= _) _ _ s;refine aa (W.item i s _ _ Jp qq λv Z hP q6 hm=>?_);have lx:i<U.length:=b_ Jp (g_ q3)
  have qv:U[i]?=some U[i]:=by simp[lx]
  obtain⟨tk,rfl⟩:=zk i v _ hP qv;have Wg:=hS.moved λo=>hm.heap a o qk
  show wpAny _ A.in1 (holding [Value.int U[i] tk] (setAdd a (.int U[i] tk)) >>= _) _ _ Z;refine aa (jr ?_);unfold setAdd;refine jr ?_;refine aa (wpAny_pyHash_int ?_);refine auj (s:={ Z with toks:=Z.toks+1 }) Wg (by lia) λh' n2 b q0 zv Yu=>?_
  have q5:Cq w h' a (λk=>k∈U.take (i+1)) n2:=zv.congr λk=>by rw[List.take_add_one,dw,qv];simp
  refine aj ⟨plainId_quiet lz _,ih (i+1) n2 _ (by lia) Jp (W.frame _ Z _ _ q6 (Ay _ _) λb hb o e=>?_) q5 (q5.le λk hk=>hB k (List.mem_of_mem_take hk)) λq8 n3 q7 zz zq=>?_⟩
  .rw[q0.2 b (λh:b=a=>q4 (by rw[<- h];exact hb))];exact e
  .refine hR q8 n3 (Moved.trans W.gtrans ((hm.mono q2).then_heap (Ay _ _) λb o hb e=>?_) q7) zz zq
   rw[q0.2 b (λh:b=a=>hb (by rw[h];exact cu))];exact e
def auk{id T:String}{io lo:Obj}{Z:U1}{St:Nat->Heap->Prop}(hS:Cq w s.heap a (λ_=>False) 0)(U:s.heap.get? l=some lo)(hc:lo.cls=.type T)(q0:∀es ep t,lo.data≠.set es ep t)(n1:isSubtype (.type T) (.type "set")=pure false)(n2:isSubtype (.type T) (.type "frozenset")=pure false)(nd:(Value.type T==.type "dict")=false)
 (hi:∀{Q:Y1},Q (.ref s.heap.objs.size) { s with heap:=s.heap.push io }->wpAny (model prog w) A (pyIter (.ref l)) Q E s) (W:l≠s.heap.objs.size->Walks prog w A.in1 s.heap.objs.size [s.heap.objs.size,l] [s.heap.objs.size] Z.size (λi v=>Z[i]?=some v) St) (h0:St 0 (s.heap.push io))
 (qq:PyProof.Rows.IntsAre Z.toList ks) {B:Xs} (hB:∀k∈ks,k∈B) (R:B.length<31) (h:∀h' tk n',(∀b o,b≠a->s.heap.get? b=some o->h'.get? b=some o)->Cq w h' a (λk=>k∈ks) n'->n'<=B.length->Q () { s with heap:=h',toks:=tk }) :
 wpAny (model prog w) A (Builtin.Frozenset.updateFrom id a (.ref l)) Q E s:=by
 have hT:s.TypeIs (.ref l) T:=⟨lo,U,hc⟩;have q3:Z.size=ks.length:=by rw[<- v5];exact PyProof.Rows.IntsAre.length qq
 obtain⟨oa,zk,zq,ta,G,q8,qv,zz⟩:=hS.get;unfold Builtin.Frozenset.updateFrom;refine aa (Hg hT n1 n2 ?_);simp only[dj,jk];refine aa (u0 hT ?_);rw[bx (by rw[nd];simp)];refine aa (hi ?_);refine aa (wpAny_runValue ?_);have Jp:l<s.heap.objs.size:=az U
 have q5:a<s.heap.objs.size:=az G
 have q4:l≠a:=by rintro rfl;rw[U] at G;cases G;exact q0 _ _ _ qv
 have q7:a∉[s.heap.objs.size,l]:=by simp only[cj,ug,Bd,not_or];exact⟨gh q5,λe=>q4 e.symm⟩
 have keep:∀b o,s.heap.get? b=some o->(s.heap.push io).get? b=some o:=λb o e=>au _ e
 refine anp ((W (gh Jp)).toS) a q7 ks q3.symm (λi v x hv hx=>?_) hB R Z.size 0 0 _ rfl (iz _)
  h0 ?_ (iz _) ?_
 .obtain⟨tk,e⟩:=PyProof.Rows.IntsAre.int_at qq i v (by rw[m6];exact hv)
  rw[bz,hx] at e;exact⟨tk,e⟩
 .refine(hS.moved λo e=>keep a o e).congr λk=>by simp
 .intro s' q2 hm Wg q6
  obtain⟨h',g',d',qk,q1⟩:=s';have eg:g'=s.gens:=hm.gens;have ed:d'=s.drawn:=hm.drawn;have eo:q1=s.os:=hm.os;subst eg;subst ed;subst eo;show wpAny _ _ _ _ _ _;refine aj (h h' qk q2 (λb o hb e=>?_) Wg q6);refine hm.heap b o ?_ (keep b o e);simp only[cj,ug,Bd,not_or];exact⟨hb,gh (az e)⟩
def aku{id:String}(hh:A.handled=none)(hS:Cq w s.heap a (λ_=>False) 0)(G:s.heap.IsList l items)(R:PyProof.Rows.IntsAre items.toList ks){B:Xs}(hB:∀k∈ks,k∈B)(Z:B.length<31)(h:∀U tk n',(∀b o,b≠a->s.heap.get? b=some o->U.get? b=some o)->Cq w U a (λk=>k∈ks) n'->n'<=B.length->Q () { s with heap:=U,toks:=tk }) :
 wpAny (model prog w) A (Builtin.Frozenset.updateFrom id a (.ref l)) Q E s:=by
 have qq:=G;obtain⟨o,ho,hc,n,hd⟩:=qq;exact auk hS ho hc (λ_ _ _ z=>by rw[hd] at z;cases z) F.sub_list_set F.sub_list_frozenset (by decide) (xx G) (λne=>Walks.list (by simp[hh]) _ l ne items) ⟨⟨_,bu _ rfl,rfl,rfl⟩,G.push _⟩ R hB Z h
def akv(hh:A.handled=none)(hl:s.heap.IsList l items)(qk:PyProof.Rows.IntsAre items.toList ks){B:Xs}(hB:∀k∈ks,k∈B)(qq:B.length<31)(h:∀Z U G,(∀b o,s.heap.get? b=some o->Z.get? b=some o)->Cq w Z s.heap.objs.size (λk=>k∈ks) G->G<=B.length->Q (.ref s.heap.objs.size) { s with heap:=Z,toks:=U }) :
 wpAny (model prog w) A (call (.type "set") [.ref l]) Q E s:=by
 refine Mz (R:=λs'=>∃Z U G,s'={ s with heap:=Z,toks:=U }/\(∀b o,s.heap.get? b=some o->Z.get? b=some o)/\Cq w Z s.heap.objs.size (λk=>k∈ks) G/\G<=B.length)
  (aku (s:={ s with heap:=s.heap.push (Az w) }) (by simp[hh]) (ano (bu _ rfl)) (hl.push _) qk hB qq λZ U G hk Wg Py=>⟨Z,U,G,rfl,λb o e=>hk b o (gh (az e)) (au _ e),Wg,Py⟩)
  λs' ⟨Z,U,G,e,hk,Wg,Py⟩=>by subst e;exact h Z U G hk Wg Py
def Wj:entryFor table "set.__iter__" = some Builtin.«frozenset.__iter__» :=
 entryFor_alias (id' := "frozenset.__iter__") (by kernel_rfl) rfl (by decide+kernel) (by kernel_rfl)
def Br:Slot "set_iterator" "__next__" "set_iterator.__next__" :=
 .of (owner := "set_iterator") (n := "__next__") (by rw[typeLookup_type,builtinLookup_eq_fast];kernel_rfl) (by decide+kernel) (by decide+kernel) (by decide+kernel)
  (by first|exact .inl (by decide+kernel)|exact .inr (by decide+kernel)) (by rw[isSubtype_type];kernel_rfl)
def Ly:Slot "set_iterator" "__iter__" "set_iterator.__iter__" :=
 .of (owner := "set_iterator") (n := "__iter__") (by rw[typeLookup_type,builtinLookup_eq_fast];kernel_rfl) (by decide+kernel) (by decide+kernel) (by decide+kernel)
  (by first|exact .inl (by decide+kernel)|exact .inr (by decide+kernel)) (by rw[isSubtype_type];kernel_rfl)
def Ke:entryFor table "set_iterator.__next__" = some Builtin.«set_iterator.__next__»:=entryFor_of_fast (by kernel_rfl)
def T3:entryFor table "set_iterator.__iter__" = some Builtin.«dict_keyiterator.__iter__» :=
 entryFor_alias (id' := "dict_keyiterator.__iter__") (by kernel_rfl) rfl (by decide+kernel) (by kernel_rfl)
def Lz(a:Value):argsOk "set_iterator.__next__" ⟨[a],[]⟩:=by unfold argsOk;kernel_rfl
def Vn(a:Value):argsOk "set_iterator.__iter__" ⟨[a],[]⟩:=by unfold argsOk;kernel_rfl
def af9(U:Srt Z):below Z 0=0:=by
 obtain⟨R,G,h3⟩:=Fo (j:=0) U;rcases Nat.eq_zero_or_pos (below Z 0) with e|e
 .exact e
 .have l:0<Z.size:=b_ e R
  have:=G 0 Z[0] (by simp[l]) e
  lia
def aga(G:Srt Z)(h:Z[i]?=some j):below Z (j+1)=i+1:=by
 obtain⟨h1,R,h3⟩:=Fo (j:=j+1) G;have a1:i<below Z (j+1):=by
  rcases ym i (below Z (j+1)) with l|l
  .exact l
  .have:=h3 i j h l;lia
 have a2:¬i+1<below Z (j+1):=λl=>by
  have l2:i+1<Z.size:=b_ l h1
  have U:Z[i+1]?=some Z[i+1]:=by simp[l2]
  have:=R (i+1) _ U l;have:=G i (i+1) j _ h U B_
  lia
 exact u_ (s_ a2) a1
def wkN(w:World)(a:Addr)(Z:Array (Int×Value))(G:Nat):Array (Int×Value):=if bt w then pickOrder (w.params.setOrder a G) Z else Z
def acp:(wkN w a es ep).toList.Perm es.toList:=by
 unfold wkN;split
 .exact Yv _ _
 .exact za _
def Wl:(wkN w a Z G).size=Z.size:=by have:=(acp (w:=w) (a:=a) (es:=Z) (ep:=G)).length_eq;simpa using this
noncomputable def itN(a:Addr)(Z i n G:Nat):Obj:={ cls:=.type "set_iterator",data:=.fields #[.int Z 0,.int i 0,.ref a,.int n 0,.int G 0] }
set_option tactic.hygienic true in
def ay8(X:K6 w s.heap a xs o es Y t){Z:Nat}(u:bt w=false->below t.place Z=i)(C:∀e L,(wkN w a es Y)[i]?=some e->(bt w=false->below t.place L=i+1)->Q (some (e.2,L)) s)(U:(wkN w a es Y)[i]?=none->Q none s) :
 wpAny (model prog w) A (setNext a Z i Y) Q E s:=by
 unfold setNext;refine aa (jw X.get X.dat X.tab.fits ?_);dsimp only;refine aa (Vw ?_);cases hbt:bt w with
 |true =>
  simp only[ji,yt,dj,jk];refine aa ?_;unfold setWalk;refine aa (jw X.get X.dat X.tab.fits ?_);dsimp only;refine aa (Vw ?_);rw[hbt];simp only[ji];refine aa (wpAny_askSetting (aj (aj ?_)));have J:wkN w a es Y=pickOrder (w.params.setOrder a Y) es:=by unfold wkN;rw[hbt];rfl
  show Q (((pickOrder (w.params.setOrder a Y) es)[i]?).map _) s;rw[<- J];cases hg:(wkN w a es Y)[i]? with
  |none=>exact U hg|some e=>exact C e Z hg (λc=>by rw[hbt] at c;cases c)
 |false =>
  have J:wkN w a es Y=es:=by unfold wkN;rw[hbt];rfl
  simp only[dj,jk];split
  .rename_i G
   have G:(!t.plain&&decide (es.size > 1))=true:=G;rw[X.pla] at G;cases G
  .refine aa ?_
   have fin:Q (match es[below t.place Z]?,t.place[below t.place Z]? with|some (_,x),some j=>some (x,j+1)|_,_=>none) s:=by
    rw[u hbt];cases hg:es[i]? with
    |none=>exact U (by rw[J];exact hg)
    |some e =>
     have S:i<t.place.size:=by rw[X.tab.Yr];exact(jn.mp hg).1
     have R:t.place[i]?=some t.place[i]:=by simp[S]
     rw[R];exact C e _ (by rw[J];exact hg) (λ_=>aga X.tab.srt R)
   have:wpAny (model prog w) A (if(!t.led&&!es.isEmpty)=true then unsupported "set:maker-not-led" else pure ()) (λ_ y=>wpAny (model prog w) A (pure (match es[below t.place Z]?,t.place[below t.place Z]? with|some (_,x),some j=>some (x,j+1)|_,_=>none)) Q E y) E s:=by rw[X.led,hbt];simp only[yz,qx,Bool.false_and,dj,jk];exact aj (aj fin)
   exact this
set_option tactic.hygienic true in
def anq{I:Addr}(X:K6 w s.heap a xs o L J t){Z:Nat}(S:s.heap.get? I=some (itN a Z i L.size J))(hb:bt w=false->below t.place Z=i)(Y:(wkN w a L J)[i]?=some e)(hQ:∀y G,y.get? I=some (itN a G (i+1) L.size J)->(bt w=false->below t.place G=i+1)->Heap.SameBut I s.heap y->Q (some e.2) { s with heap:=y }) :
 wpAny (model prog w) A (pyNext (.ref I)) Q E s:=by
 have hT:s.TypeIs (.ref I) "set_iterator" := ⟨_,S,rfl⟩;unfold pyNext;refine aa (wpAny_attempt (kh (name:=Str.ofString "__next__") hT Br
  (jz Br hT Ke ?_ (Lz _))))
 unfold Builtin.«set_iterator.__next__»;refine aa (m:=slotArgs "__next__" 0 _) (aj ?_);refine aa (wpAny_fieldsOf S rfl ?_);show wpAny _ _ (setEntries a >>= _) _ _ s;refine aa (lg X.get X.dat X.tab.fits ?_);rw[yt];simp only[dj,jk];show wpAny _ _ (setNext a Z i J >>= _) _ _ s;refine aa (ay8 X hb (λe' G R C=>?_) (λhn=>by rw[hn] at Y;cases Y));rw[R] at Y;cases Y;dsimp only;refine aa (jf S (by simp) λh1 g1 U=>?_);refine aa (jf (s:={ s with heap:=h1 }) g1 (by simp) λh2 g2 u=>?_);exact aj ⟨_,rfl,aj (hQ h2 G (by rw[g2];rfl) C (U.trans u))⟩
set_option tactic.hygienic true in
def aul{I:Addr}(hh:A.handled=none)(X:K6 w s.heap a xs o S C t){Z:Nat}(J:s.heap.get? I=some (itN a Z i S.size C))(hb:bt w=false->below t.place Z=i)(R:(wkN w a S C)[i]?=none)(u:∀U,Heap.ExtBut I s.heap U->Q none { s with heap:=U }) :
 wpAny (model prog w) A (pyNext (.ref I)) Q E s:=by
 have L:s.TypeIs (.ref I) "set_iterator" := ⟨_,J,rfl⟩;unfold pyNext;refine aa (wpAny_attempt (kh (name:=Str.ofString "__next__") L Br
  (jz Br L Ke ?_ (Lz _))))
 unfold Builtin.«set_iterator.__next__»;refine aa (m:=slotArgs "__next__" 0 _) (aj ?_);refine aa (wpAny_fieldsOf J rfl ?_);show wpAny _ _ (setEntries a >>= _) _ _ s;refine aa (lg X.get X.dat X.tab.fits ?_);rw[yt];simp only[dj,jk];show wpAny _ _ (setNext a Z i C >>= _) _ _ s;refine aa (ay8 X hb (λe' sl G qq=>by rw[G] at R;cases R) (λhn=>?_));dsimp only;refine aa (jf J (by simp) λh1 g1 Y=>?_);show wpAny _ _ (newExc (.type "StopIteration") [] >>= _) _ _ _;refine aia (show A.in1.handled=none from hh) λU x k z_=>?_
 obtain⟨o,e1,y⟩:=z_;exact aa (o5 (T := "StopIteration") (b:=true) ⟨o,e1,y⟩ isSubtype_stop (aj (u _ λb o n z=>k b o (Y.extBut b o n z))))
def ItS(w:World)(a I:Addr)(R:List (Int×Tok))(o:Obj)(G:Array (Int×Value))(U:Nat)(t:SetTable)(i:Nat)(h:Heap):Prop :=
 K6 w h a R o G U t/\∃Z,h.get? I=some (itN a Z i G.size U)/\(bt w=false->below t.place Z=i)
def K6.at(X:K6 w h a G o Z U t)(e:R.get? a=some o):K6 w R a G o Z U t:=⟨e,X.exa,X.dat,X.tab,X.ent,X.nod,X.led,X.pla⟩
theorem Walks.beo{I:Addr}(hh:A.handled=none)(Uw:a≠I)(xs:List (Int×Tok))(o:Obj)(U:Array (Int×Value))(ep:Nat)(t:SetTable) :
 Walks prog w A I [I,a] [I] U.size (λi v=>((wkN w a U ep)[i]?).map (·.2)=some v) (ItS w a I xs o U ep t) where
 sub:=λb Z=>by simp at Z;simp[Z]
 frame:=λ_ _ _ st hk=>⟨st.1.at (hk a (by simp) o st.1.get),let ⟨sl,e,r⟩:=st.2;⟨sl,hk I (by simp) _ e,r⟩⟩
 item:=λi s Q E hi st hQ=>by
  obtain⟨X,G,R,Z⟩:=st;have he:(wkN w a U ep)[i]?=some ((wkN w a U ep)[i]'(by rw[Wl];exact hi)):=by simp[Wl,hi]
  refine anq X R Z he λh' sl g r sb=>hQ _ h' s.toks (by rw[he];rfl) ⟨X.at ((sb.2 a Uw).trans X.get),sl,g,r⟩ λb o Z e=>(sb.2 b (λh=>Z (by simp[h]))).trans e
 done:=λs Q E st hQ=>by obtain⟨X,G,R,Z⟩:=st;exact aul hh X R Z (by simp[Wl]) λh' qq=>hQ h' s.toks λb o Z e=>qq b o (λh=>Z (by simp[h])) e
 self:=λ_ s _ _ st hQ=>by obtain⟨X,G,R,Z⟩:=st;have hT:s.TypeIs (.ref I) "set_iterator" := ⟨_,R,rfl⟩;refine wpAny_pyIter_slot hT Ly (jz Ly hT T3 ?_ (Vn _));show wpAny _ _ (ret (.ref I)) _ _ s;exact aj ⟨_,rfl, "set_iterator",_,hT,Br.lookup,hQ⟩
def a70(X:K6 w s.heap a xs o Z ep t)(R:Q (.ref s.heap.objs.size) { s with heap:=s.heap.push (itN a 0 0 Z.size ep) }):wpAny (model prog w) A (pyIter (.ref a)) Q E s:=by
 have G:s.TypeIs (.ref a) "set" := ⟨o,X.get,X.exa.1⟩;refine wpAny_pyIter_slot G F.slot_set_iter (jz F.slot_set_iter G Wj ?_ (F.args_set_iter_1 _));unfold Builtin.«frozenset.__iter__» Builtin.Frozenset.slot0 slotArgs;simp only[List.isEmpty_nil,qx,dj,↓reduceIte,bind_assoc,List.length_nil,yt];unfold Builtin.Frozenset.addrOf Builtin.Frozenset.sizeOf;refine aa (aj ?_)
 try dsimp only
 refine aa (aj ?_);refine aa (aa (lg X.get X.dat X.tab.fits (aj ?_)));refine aa ?_;unfold setDrawn;refine aa (jw X.get X.dat X.tab.fits ?_);dsimp only;refine aa (Vw (aj ?_));have U:(!bt w&&(!t.plain&&decide (Z.size > 1)))=false:=by rw[X.pla];simp
 show wpAny _ _ (if(!bt w&&(!t.plain&&decide (Z.size > 1)))=true then _ else _) _ _ s;rw[U];simp only[dj,jk];refine aa (aj (aa (wpAny_setEpoch_of X.get X.dat X.tab.fits ?_)));exact aa (t8 (aj ⟨_,rfl, "set_iterator",_,⟨_,bu _ rfl,rfl⟩,Br.lookup,R⟩))
def a71(Z:s.TypeIs (.ref a) "set")(h:Q false s):wpAny (model prog w) A (Builtin.List.listLengthHint (.ref a)) Q E s:=by
 unfold Builtin.List.listLengthHint;refine aa (wpAny_specialOf Z F.slot_set_len.lookup ?_)
 (generalize hid:("set.__len__" : String)=id0;(fail_if_success (clear hid id0));wp_delta;rw[show splitId id0=some ("set", "__len__") from by subst hid;decide+kernel];subst hid)
 refine aa (o5 (b:=true) Z sub_set_self ?_);refine aa (u0 Z ?_);exact aj h
def anr(hh:A.handled=none)(X:K6 w s.heap a xs o Z U t)(hz:Z.size<=sizeLine)(h:∀h' tk q0,(∀b o,s.heap.get? b=some o->h'.get? b=some o)->s.heap.objs.size<=h'.objs.size->ItemsOf (λi v=>((wkN w a Z U)[i]?).map (·.2)=some v) q0 Z.size->Q q0.toList { s with heap:=h',toks:=tk }) :
 wpAny (model prog w) A (collect (.ref a)) Q E s:=by
 have Jp:a<s.heap.objs.size:=az X.get
 have R:s.heap.objs.size≠a:=yc Jp;unfold collect;refine aa (wpAny_runValue (m7 F.entry_proto_collect ?_));rw[j9 F.plain_proto_collect _];show wpAny _ A.in1 (newList [] >>= λl=>again (.builtin "list.__iadd__" ⟨[l,.ref a],[]⟩)) _ _ s;refine aa (t8 ?_);refine aj ⟨plainId_quiet F.plain_list_iadd _,m7 F.entry_list_iadd ?_⟩;rw[j9 F.plain_list_iadd _];have X1:K6 w (s.heap.push { cls:=.type "list",data:=.seq ([]:Zl).toArray }) a xs o Z U t:=X.at (au _ X.get);have q5:Shared.TypeIs { s with heap:=s.heap.push { cls:=.type "list",data:=.seq ([]:Zl).toArray } } (.ref a) "set" := ⟨o,X1.get,X1.exa.1⟩;have h1:Builtin.List.listSameRef (.ref s.heap.objs.size) (.ref a)=false:=by simp[Builtin.List.listSameRef,R]
 show wpAny _ A.in1 (Builtin.List.listExtendWith (.ref s.heap.objs.size) (.ref a) (.ref s.heap.objs.size)) _ _ _;unfold Builtin.List.listExtendWith;refine aa (u0 q5 ?_);rw[bx (by rw[h1];decide)];refine aa (a70 (s:={ s with heap:=s.heap.push { cls:=.type "list",data:=.seq ([]:Zl).toArray } }) X1 ?_);have q2:(s.heap.push { cls:=.type "list",data:=.seq ([]:Zl).toArray }).objs.size=s.heap.objs.size+1:=ju ..;show wpAny _ A.in1 (holding [.ref (s.heap.push { cls:=.type "list",data:=.seq ([]:Zl).toArray }).objs.size] (Builtin.List.listLengthHint (.ref a)) >>= _) _ _ { s with heap:=(s.heap.push { cls:=.type "list",data:=.seq ([]:Zl).toArray }).push (itN a 0 0 Z.size U) };have gI:((s.heap.push { cls:=.type "list",data:=.seq ([]:Zl).toArray }).push (itN a 0 0 Z.size U)).get? (s.heap.push { cls:=.type "list",data:=.seq ([]:Zl).toArray }).objs.size=some (itN a 0 0 Z.size U):=bu _ rfl;have gS:((s.heap.push { cls:=.type "list",data:=.seq ([]:Zl).toArray }).push (itN a 0 0 Z.size U)).get? s.heap.objs.size=some { cls:=.type "list",data:=.seq ([]:Zl).toArray }:=au _ (bu _ rfl);have qq:∀b o,s.heap.get? b=some o->((s.heap.push { cls:=.type "list",data:=.seq ([]:Zl).toArray }).push (itN a 0 0 Z.size U)).get? b=some o:=λb o e=>au _ (au _ e)
 have q6:s.heap.objs.size<=((s.heap.push { cls:=.type "list",data:=.seq ([]:Zl).toArray }).push (itN a 0 0 Z.size U)).objs.size:=by rw[ju,q2];exact a_ x_ x_
 generalize(s.heap.push { cls:=.type "list",data:=.seq ([]:Zl).toArray }).push (itN a 0 0 Z.size U)=hp at *;rw[q2] at gI ⊢;have X2:K6 w hp a xs o Z U t:=X.at (qq a o X.get);refine aa (jr (a71 ⟨o,X2.get,X2.exa.1⟩ ?_));rw[dg (by decide+kernel)];refine aa (wpAny_rule ?_);refine aa ?_;show wpAny _ A.in1 (updateSeq s.heap.objs.size (·.push .none) >>= λ_=>updateSeq s.heap.objs.size (·.pop)) _ _ _;refine aa (wpAny_updateSeq gS rfl ?_);have G:=mq (Obj.mapSeq (·.push Value.none)) gS rfl;refine wpAny_updateSeq (hz:=by seq_fits) G rfl ?_;have qk:=mq (Obj.mapSeq (·.pop)) G rfl;have qv:∀b o,b≠s.heap.objs.size->hp.get? b=some o->((hp.update s.heap.objs.size (Obj.mapSeq (·.push Value.none))).update s.heap.objs.size (Obj.mapSeq (·.pop))).get? b=some o :=
  λb o hb e=>(ux _ _ (j0 hb)).trans ((ux _ _ (j0 hb)).trans e)
 have q7:((hp.update s.heap.objs.size (Obj.mapSeq (·.push Value.none))).update s.heap.objs.size (Obj.mapSeq (·.pop))).objs.size=hp.objs.size:=by rw[Heap.size_update,Heap.size_update]
 generalize(hp.update s.heap.objs.size (Obj.mapSeq (·.push Value.none))).update s.heap.objs.size (Obj.mapSeq (·.pop))=h3 at *;have W:=(Walks.beo (prog:=prog) (w:=w) (A:=A.in1) (I:=s.heap.objs.size+1) (a:=a) hh (gh (Nat.lt_succ_of_lt Jp)) xs o Z U t).toS;refine aj ⟨plainId_quiet F.plain_extend_loop _,codeAny_extend_loopS W hz _ (by simp only[cj,ug,Bd,not_or];exact⟨gh (qm _),R⟩) _ Z.size 0 _ _ _ rfl (iz _)
  ⟨X.at (qv a o (j0 R) (qq a o X.get)),0,qv _ _ (yc (qm _)) gI,λ_=>af9 X.tab.srt⟩ qk (ItemsOf.nil _) λs' q1 c' hm Wg Fp=>?_⟩
 show wpAny _ A (load s.heap.objs.size >>= _) _ _ s';refine aa (wpAny_load Wg ?_);obtain⟨h',g',d',q3,q4⟩:=s';have eg:g'=s.gens:=hm.gens;have ed:d'=s.drawn:=hm.drawn;have eo:q4=s.os:=hm.os;subst eg;subst ed;subst eo;refine aj (h h' q3 q1 (λb o e=>?_) ?_ Fp)
 .have hb:=az e
  exact hm.heap b o (by simp only[cj,ug,Bd,not_or];exact⟨gh hb,gh (Nat.lt_succ_of_lt hb)⟩) (qv b o (gh hb) (qq b o e))
 .have:=az Wg
  exact yj this
def agc{s:Shared}(X:K6 w s.heap a xs o Z ep t)(Fp:ItemsOf (λi v=>((wkN w a Z ep)[i]?).map (·.2)=some v) acc Z.size) :
 ∃ns:List Int,PyProof.Rows.IntsAre acc.toList ns/\ns.Perm (xs.map (·.1)):=by
 obtain⟨G,ey,R⟩:=Eh (f:=enI) (acp (w:=w) (a:=a) (es:=Z) (ep:=ep)) X.ent;have e1:acc.toList=G.map λy=>Value.int y.1 y.2:=by
  apply uo;intro i;have hz:acc.toList.length=Z.size:=by simpa using Fp.1
  have hy:G.length=Z.size:=by rw[R.length_eq,<- X.size]
  by_cases U:i<Z.size
  .have e2:acc.toList[i]?=some (acc.toList[i]'(b_ U (g_ hz))):=by simp[hz,U]
   have e3:=Fp.2 i _ (by rw[<- m6];exact e2);rw[e2,<- e3,<- m6,ey,ie,ie];cases G[i]?<;>rfl
  .rw[gr (a_ (f_ hz) (s_ U)),gr (by simp;exact a_ (f_ hy) (s_ U))]
 refine⟨G.map (·.1),?_,R.map _⟩;rw[e1];clear e1 R ey Fp
 induction G with
 |nil=>exact .nil|cons y G ih=>exact .cons _ _ ih
def acq(hh:A.handled=none)(hS:Cq w s.heap a S n)(hn:n<31)(h:∀(h':Heap) (tk:Nat) (p:Addr) (out:U1) (ns:Xs),(∀b o,s.heap.get? b=some o->h'.get? b=some o)->s.heap.objs.size<=p->PyProof.Rows.IntsAre out.toList ns->ns.Pairwise (·<=·)->ns.Nodup->(∀k,S k↔k∈ns) ->
 (∃c,h'.get? p=some (PyProof.Rows.seqObj "list" out c))->Q (.ref p) { s with heap:=h',toks:=tk }) :
 wpAny (model prog w) A (call (.builtin "sorted") [.ref a]) Q E s:=by
 obtain⟨xs,o,es,ep,t,X,hm,hl,nf⟩:=hS;have U:=X.size;refine Calls.call_function_entry PyProof.Rows.kind_sorted PyProof.Rows.plain_sorted PyProof.Rows.entry_sorted (PyProof.Rows.args_sorted1 _) ?_;unfold Builtin.«sorted»;refine aa (m:=checkCount "sorted" 1 1 _) (aj ?_);refine aa (anr (by simpa using hh) X (by rw[qb];exact e_ (c_ (f_ U) (c_ (f_ hl) (b_ hn (by decide))))) λh1 tk Z keep qv Fp=>?_);obtain⟨ns,hI,pn⟩:=agc X Fp;have G:Z.toList.length=n:=by have:=Fp.1;simp;exact u_ (a_ (f_ this) (a_ (f_ U) (f_ hl))) (a_ (g_ hl) (a_ (g_ U) (g_ this)))
 have q0:Z=Z.toList.toArray:=by simp
 refine aa (wpAny_newList ?_ (by rw[qb];exact e_ (c_ (f_ G) (b_ hn (by decide)))));have R:(h1.push (PyProof.Rows.seqObj "list" Z.toList.toArray 0)).get? h1.objs.size=some (PyProof.Rows.seqObj "list" Z.toList.toArray 0):=bu _ rfl;refine aa (jr (jz PyProof.Rows.slot_list_sort ⟨_,R,rfl⟩ PyProof.Rows.entry_list_sort (PyProof.Rows.list_sort_tree (s:={ s with heap:=h1.push (PyProof.Rows.seqObj "list" Z.toList.toArray 0),toks:=tk }) R hI (c_ (f_ G) (b_ hn (by decide))) λout qk a1 a2 a3=>⟨_,rfl,?_⟩) (PyProof.Rows.args_list_sort _)));have p2:=a2.trans pn;refine aj ⟨_,rfl,h _ tk h1.objs.size out qk (λb o e=>?_) qv a1 a3 (p2.nodup_iff.mpr X.nod) (λk=>(hm k).trans p2.mem_iff.symm) (PyProof.Rows.sortedHeap_at R)⟩;have qq:=keep b o e;have Jp:=az qq;rw[PyProof.Rows.sortedHeap_old (gh Jp) (by rw[ju];exact Nat.lt_succ_of_lt Jp),Heap.get?_push_ne _ _ _ (gh Jp)];exact qq
end Wa
namespace MW
open PySem (Str)
set_option genInjectivity true in
inductive D where
 |non|bl (b:Bool)|int (i:Int)|str (s:Str)|tup (ds:List D)|vl (ds:List D)|fz (ds:List D)|ref (n:Nat)
noncomputable abbrev Kx:=Sum Int Str
set_option genInjectivity true in
inductive MO where
 |lst (ds:List D)|dT (ik:List (List Kx×D))|dK (ik:List (Kx×D))|ins (c:Nat) (fs:List (Nat×D))
noncomputable abbrev dh:=List MO
noncomputable abbrev Env:=List (Option D)
set_option genInjectivity true in
inductive Res(α:Type) where
 |ok (a:α) (M:dh)|bad
namespace Res
noncomputable def bind{Z β:Type}(r:Res Z)(f:Z->dh->Res β):Res β :=
 match r with|ok a M=>f a M|bad=>bad
@[simp] def Cy(a:α)(M:dh)(f:α->dh->Res β):(ok a M).bind f=f a M:=rfl
@[simp] def a74(f:α->dh->Res β):(bad:Res α).bind f=bad:=rfl
noncomputable def u5{α:Type}(o:Option α)(M:dh):Res α:=match o with|some a=>ok a M|none=>bad
@[simp] def Hs(a:α)(M:dh):u5 (some a) M=ok a M:=rfl
@[simp] def a0t(M:dh):u5 (none:Option α) M=bad:=rfl
end Res
inductive Op2 where|add|sub|mul|fdiv|mod|pow
inductive Cp where|eq|ne|lt|le|gt|ge|inn|Ux
inductive Blt where
 |len|tuple|list|max|min|dict|all|isList|isTuple|isBool|isSeq|By
inductive Bm where|append|index|get|extend|pop
inductive Tg where
 |name (i:Nat)|names (is:Y3)
mutual
inductive Ex where
 |var (i:Nat)|cst (d:D)
 |bin (op:Op2) (a b:Ex)|neg (a:Ex)
 |cmp (op:Cp) (a b:Ex)|chain (o1 o2:Cp) (a b c:Ex)
 |and (a b:Ex)|or (a b:Ex)|not (a:Ex)|ite (c a b:Ex)
 |tup (es:Ed)|lst (es:Ed)|Jl (es:Ed)|akx|acr
 |ix (a b:Ex)|cut (a:Ex) (lo hi:OEx)
 |call (f:Nat) (es:Ed)|make (c:Nat) (es:Ed)|meth (o:Ex) (m:Nat)|fld (o:Ex) (f:Nat)
 |blt (b:Blt) (es:Ed)|bm (m:Bm) (o:Ex) (es:Ed)
 |comp (v:Bool) (k:Nat) (t:Tg) (it:Pz) (e:Ex)|Fq (v:Bool) (k:Nat) (t:Tg) (it:Pz) (c:Ex) (e:Ex)
 |Wm (a b:Ex)|tru (e:Ex)|acs (e:Ex)|Wn (e:Ex)
inductive Ed where
 |nil|cons (e:Ex) (es:Ed)
inductive OEx where
 |none|some (e:Ex)
inductive Pz where
 |val (e:Ex)|Qc (e:Ex)|enm (e:Ex)|zip (es:Ed)
end
noncomputable abbrev Ex.v:=Ex.var
noncomputable abbrev Ex.i(n:Int):Ex:=.cst (.int n)
noncomputable abbrev Ex.l(e:Ex):Ex:=.blt .len (.cons e .nil)
noncomputable abbrev Ed.z:=Ed.nil
noncomputable abbrev Ed.c:=Ed.cons
noncomputable abbrev Ed.o(a:Ex):Ed:=.cons a .nil
noncomputable abbrev Ed.p(a b:Ex):Ed:=.cons a (.cons b .nil)
noncomputable abbrev Ed.q(a b c:Ex):Ed:=.cons a (.cons b (.cons c .nil))
inductive Lv where
 |tg (t:Tg)|sub (o i:Ex)|fld (o:Ex) (f:Nat)
mutual
inductive Cz where
 |asg (l:Lv) (e:Ex)|expr (e:Ex)|iff (c:Ex) (a b:p7)|whl (c:Ex) (b:p7)|for_ (t:Tg) (it:Pz) (b:p7)
 |ret (e:Ex)|brk|cont|raise
inductive p7 where
 |nil|cons (s:Cz) (r:p7)
end
noncomputable abbrev Cz.a(i:Nat)(e:Ex):Cz:=.asg (.tg (.name i)) e
noncomputable abbrev Cz.f(c:Ex)(b:p7):Cz:=.iff c b .nil
noncomputable abbrev p7.z:=p7.nil
noncomputable abbrev p7.c:=p7.cons
noncomputable abbrev p7.o(a:Cz):p7:=.cons a .nil
noncomputable abbrev p7.p(a b:Cz):p7:=.cons a (.cons b .nil)
noncomputable abbrev p7.q(a b c:Cz):p7:=.cons a (.cons b (.cons c .nil))
structure Fn where
 np:Nat
 ns:Nat
 body:p7
structure Cl where
 init:Nat
 meths:List (Nat×Nat)
noncomputable def du(M:dh):D->Option (List D)
 |.vl ds=>some ds|.ref n=>match M[n]? with|some (.lst ds)=>some ds|_=>none
 |_=>none
def Al(M:dh):D->Option (List D)
 |.tup ds=>some ds|d=>du M d
noncomputable def Wo:D->Option Kx
 |.int i=>some (.inl i)|.str s=>some (.inr s)|_=>none
def aak:List D->Option (List Kx)
 |[]=>some []
 |d::ds=>match Wo d,aak ds with
  |some k,some ks=>some (k::ks)|_,_=>none
def Vo:D->Option (List Kx)
 |.tup ds=>aak ds|_=>none
noncomputable def ant:Kx->D
 |.inl i=>.int i|.inr s=>.str s
def anu(Z:List Kx):D:=.tup (Z.map ant)
def Ei:List D->Option (List (List Kx))
 |[]=>some []
 |d::ds=>match Vo d,Ei ds with
  |some k,some ks=>some (k::ks)|_,_=>none
noncomputable def Qs(f:D->D->Option Bool):List D->List D->Option Bool
 |[],[]=>some true
 |a::as,b::bs=>match f a b,Qs f as bs with
  |some x,some y=>some (x&&y)|_,_=>none
 |_,_=>some false
instance:DecidableEq Kx:=inferInstanceAs (DecidableEq (Sum Int Str))
noncomputable def Bh{Z:Type}[DecidableEq Z](G:List (Z×D))(k:Z):Option D:=(G.find? λp=>decide (p.1=k)).map (·.2)
def Jm(M:dh):Nat->D->D->Option Bool
 |0,_,_=>none
 |n+1,a,b=>match a,b with
  |.int i,.int j=>some (decide (i=j))|.bl i,.bl j=>some (i==j)|.tup as,.tup bs=>Qs (Jm M n) as bs
  |a,b=>match du M a,du M b with
   |some as,some bs=>if as.length=bs.length then Qs (Jm M n) as bs else some false
   |_,_=>none
def yf(M:dh)(a b:D):Option Bool:=Jm M 6 a b
def Qt(M:dh)(x:D):List D->Option (List Bool)
 |[]=>some []
 |y::ys=>match yf M y x,Qt M x ys with
  |some a,some b=>some (a::b)|_,_=>none
def memD(M:dh)(x:D)(Z:List D):Option Bool:=(Qt M x Z).map (·.any id)
def acu(M:dh)(x:D)(Z:List D):Option Nat:=(Qt M x Z).bind (·.findIdx? id)
noncomputable def Yw:List D->Option (List Int)
 |[]=>some []|.int i::r=>(Yw r).map (i::·)|_::_=>none
noncomputable def Yi(n:Nat)(i:Int):Option Nat:=if 0<=i then(if i<n then some i.toNat else none) else if -(n:Int)<=i then some (i+n).toNat else none
noncomputable def clip(n:Nat)(d:Nat):Option Int->Nat
 |none=>d|some i=>if 0<=i then min i.toNat n else(i+n).toNat
def age(Z:List D)(G U:Option Int):List D:=(Z.drop (clip Z.length 0 G)).take (clip Z.length Z.length U-clip Z.length 0 G)
noncomputable def a0u:List Int->Option Int
 |[]=>none|a::r=>some (r.foldl (λm x=>if m<x then x else m) a)
noncomputable def a75:List Int->Option Int
 |[]=>none|a::r=>some (r.foldl (λm x=>if x<m then x else m) a)
noncomputable def insI(x:Int):List Int->List Int
 |[]=>[x]|y::ys=>if x<y then x::y::ys else y::insI x ys
def sortI(Z:Xs):List Int:=Z.foldr insI []
noncomputable def Am:List Int->List Int
 |[]=>[]|x::xs=>if x∈xs then Am xs else x::Am xs
def keysOf(M:dh)(d:D):Option (List D) :=
 match d with
 |.ref n=>match M[n]? with
  |some (.dT ik)=>some (ik.map λp=>anu p.1)
  |_=>du M d
 |_=>du M d
noncomputable def Du{G:Type}[DecidableEq G](U:List (G×D))(k:G)(v:D):List (G×D) :=
 if(U.any λZ=>decide (Z.1=k))=true then U.map (λZ=>if Z.1=k then(Z.1,v) else Z) else U++[(k,v)]
noncomputable def Ej(Z:List (List Kx)):Bool:=decide (Z.length<=30)&&Z.all λk=>k.all λx=>match x with|.inl _=>true|.inr _=>false
noncomputable def Jr(G Z:List (List Kx)):Bool:=G.all (λx=>Z.any λy=>decide (y=x))&&Z.all (λy=>G.any λx=>decide (x=y))
noncomputable def new(o:MO)(M:dh):Res D:=.ok (.ref M.length) (M++[o])
def aib(a b:D)(M:dh):Res D :=
 match a,b with
 |.int i,.int j=>.ok (.int (i+j)) M
 |x,y=>match du M x,du M y with
  |some xs,some ys=>if xs.length+ys.length<=100000 then .ok (.vl (xs++ys)) M else .bad
  |_,_=>.bad
noncomputable def ii{α:Type}(x y:D)(f:Int->Int->α)(z:α):α:=match x with|.int i=>(match y with|.int j=>f i j|_=>z)|_=>z
def agf(h:ii x y f z=r)(Z:z≠r):∃i j,x=.int i/\y=.int j/\f i j=r:=by
 cases x with
 |int i=>cases y with
  |int j=>exact⟨i,j,rfl,rfl,h⟩|_=>exact absurd h Z
 |_=>exact absurd h Z
@[simp] def ber(i j:Int)(f:Int->Int->α)(z:α):ii (.int i) (.int j) f z=f i j:=rfl
def a76(a b:D)(M:dh):Res D:=ii a b (λi j=>.ok (.int (i-j)) M) .bad
def a77(a b:D)(M:dh):Res D:=ii a b (λi j=>if(-(2 ^ 64)<i/\i<2 ^ 64)\/(-(2 ^ 64)<j/\j<2 ^ 64) then .ok (.int (i*j)) M else .bad) .bad
def a0v(a b:D)(M:dh):Res D:=ii a b (λi j=>if 0<j/\j<1073741824 then .ok (.int (i / j)) M else .bad) .bad
def a78(a b:D)(M:dh):Res D:=ii a b (λi j=>if 0<j then .ok (.int (i%j)) M else .bad) .bad
def ay9(a b:D)(M:dh):Res D:=ii a b (λi j=>if 0<=j/\j<=64/\i.natAbs<2 ^ 64 then .ok (.int (i ^ j.toNat)) M else .bad) .bad
def Hk(Z:Op2):D->D->dh->Res D :=
 match Z with
 |.add=>aib|.sub=>a76|.mul=>a77|.fdiv=>a0v|.mod=>a78|.pow=>ay9
def Rj(M:dh)(a b:D):Option Bool :=
 match b with
 |.ref n=>match M[n]? with
  |some (.dT ik)=>(Vo a).map λk=>(Bh ik k).isSome
  |_=>(Al M b).bind (memD M a)
 |_=>(Al M b).bind (memD M a)
def acv(f:Int->Int->Bool)(a b:D):Option Bool:=ii a b (λi j=>some (f i j)) none
def Nb(Z:Cp)(a b:D)(M:dh):Option Bool :=
 match Z with
 |.lt=>acv (λi j=>decide (i<j)) a b
 |.le=>acv (λi j=>decide (i<=j)) a b
 |.gt=>acv (λi j=>decide (j<i)) a b
 |.ge=>acv (λi j=>decide (j<=i)) a b
 |.eq=>yf M a b|.ne=>(yf M a b).map not|.inn=>Rj M a b|.Ux=>(Rj M a b).map not
def zg(a b:D)(M:dh):Option D :=
 match a with
 |.ref n=>match M[n]? with
  |some (.dT ik)=>(Vo b).bind (Bh ik)|some (.dK ik)=>(Wo b).bind (Bh ik)
  |_=>match du M a,b with
   |some ds,.int i=>(Yi ds.length i).bind λj=>ds[j]?
   |_,_=>none
 |.fz ds=>match b with
  |.int i=>(Yi ds.length i).bind λj=>ds[j]?
  |_=>none
 |_=>match Al M a,b with
  |some ds,.int i=>(Yi ds.length i).bind λj=>ds[j]?
  |_,_=>none
noncomputable def allB:List D->Option Bool
 |[]=>some true|.bl b::r=>(allB r).map (b&&·)|_::_=>none
def acw(a:D)(G U:Option Int)(M:dh):Option D:=(du M a).map λZ=>.vl (age Z G U)
noncomputable def agg(Z:List (List Kx×D)):Bool:=Z.all λp=>match p.1 with
 |[.inl i,.inl j]=>decide (-1<=i)&&decide (i<9)&&decide (-1<=j)&&decide (j<9)|_=>false
noncomputable def T4(M:dh):D->Res D
 |.ref n=>match M[n]? with
  |some (.lst ds)=>.ok (.int ds.length) M|_=>.bad
 |.fz ds=>.ok (.int ds.length) M|.tup ds=>.ok (.int ds.length) M|.vl ds=>.ok (.int ds.length) M|_=>.bad
def Vx(M:dh):D->Res D
 |.ref n=>match M[n]? with
  |some (.dT ik)=>if agg ik then new (.dT ik) M else .bad
  |_=>.bad
 |_=>.bad
def isX(bt Z:Option Bool)(d:D):Option Bool:=match d with
 |.tup _=>bt|.int _=>Z|_=>none
def isR(bt Z:Option Bool)(M:dh)(d:D):Res D:=Res.u5 ((isX bt Z d).map D.bl) M
def two(Z:List D)(f:Int->Int->Int)(g:D->Option Int)(M:dh):Res D :=
 match Z with
 |[a,b]=>(match a,b with|.int i,.int j=>.ok (.int (f i j)) M|_,_=>.bad)
 |[d]=>Res.u5 ((g d).map D.int) M|_=>.bad
noncomputable def Nf(Z:List D)(g:D->Res D):Res D :=
 match Z with
 |[d]=>g d|_=>.bad
def o8(b:Blt)(Z:List D)(M:dh):Res D :=
 match b with
 |.len=>Nf Z (T4 M)|.tuple=>Nf Z λd=>Res.u5 ((Al M d).map D.tup) M
 |.max=>two Z (λi j=>if i<j then j else i) (λd=>((du M d).bind Yw).bind a0u) M
 |.min=>two Z (λi j=>if j<i then j else i) (λd=>((du M d).bind Yw).bind a75) M
 |.By=>Nf Z λd=>Res.u5 (((du M d).bind Yw).bind λis=>if(Am is).length<31 then some (D.vl ((sortI (Am is)).map D.int)) else none) M
 |.dict=>Nf Z (Vx M)|.all=>Nf Z λd=>Res.u5 (((du M d).bind allB).map D.bl) M
 |.isList=>Nf Z (isR (some false) none M)|.isTuple=>Nf Z (isR (some true) (some false) M)|.isBool=>Nf Z (isR none (some false) M)|.isSeq=>Nf Z (isR (some true) (some false) M)
 |.list=>Nf Z λd=>match Al M d with
  |some G=>new (.lst G) M|none=>.bad
def K7(m:Bm)(x:D)(M:dh):Bool :=
 match m with
 |.get=>(match x with|.ref n=>(match M[n]? with|some (.dK _)=>true|_=>false)|_=>false)
 |_=>(du M x).isSome
noncomputable def a79(n:Nat):D->Bool
 |.ref k=>k != n|_=>true
noncomputable def onL(o:D)(M:dh)(f:Nat->List D->Res D):Res D:=match o with
 |.ref n=>match M[n]? with|some (.lst xs)=>f n xs|_=>.bad
 |_=>.bad
noncomputable def onK(o:D)(M:dh)(f:List (Kx×D)->Res D):Res D:=match o with
 |.ref n=>match M[n]? with|some (.dK ik)=>f ik|_=>.bad
 |_=>.bad
def K8(m:Bm)(o:D)(G:List D)(M:dh):Res D :=
 match m with
 |.append=>onL o M λn Z=>Nf G λd=>if Z.length<100000 then .ok .non (M.set n (.lst (Z++[d]))) else .bad
 |.extend=>onL o M λn Z=>Nf G λy=>match du M y with
  |some U=>if a79 n y=true/\Z.length+U.length<100000 then .ok .non (M.set n (.lst (Z++U))) else .bad
  |none=>.bad
 |.pop=>onL o M λn Z=>match G with
  |[]=>match Z.getLast? with
   |some d=>.ok d (M.set n (.lst Z.dropLast))|none=>.bad
  |_=>.bad
 |.index=>Nf G λd=>Res.u5 (((Al M o).bind (acu M d)).map λ(j:Nat)=>D.int (j:Int)) M
 |.get=>onK o M λR=>match G with
  |[k,d]=>Res.u5 ((Wo k).map λq=>(Bh R q).getD d) M
  |_=>.bad
def setOp(o i v:D)(M:dh):Option dh :=
 match o with
 |.ref n=>match M[n]? with
  |some (.lst xs)=>match i with
   |.int j=>(Yi xs.length j).map λq=>M.set n (.lst (xs.set q v))
   |_=>none
  |some (.dT ik)=>(Vo i).bind λk=>if ik.length<100000 then some (M.set n (.dT (Du ik k v))) else none
  |some (.dK ik)=>(Wo i).bind λk=>if ik.length<100000 then some (M.set n (.dK (Du ik k v))) else none
  |_=>none
 |_=>none
noncomputable def Uy(f:Nat)(v:D):List (Nat×D)->List (Nat×D)
 |[]=>[(f,v)]|(g,x)::r=>if g=f then(g,v)::r else(g,x)::Uy f v r
noncomputable def Rk(o:D)(f:Nat)(M:dh):Option D :=
 match o with
 |.ref n=>match M[n]? with
  |some (.ins _ fs)=>fs.lookup f|_=>none
 |_=>none
def Rm(o:D)(f:Nat)(v:D)(M:dh):Option dh :=
 match o with
 |.ref n=>match M[n]? with
  |some (.ins c fs)=>if fs.length<1000 then some (M.set n (.ins c (Uy f v fs))) else none
  |_=>none
 |_=>none
inductive Src where
 |con (ds:List D)|live (n:Nat) (len:Nat)|zl (n:Nat) (ys:List D)
noncomputable def Src.len:Src->Nat
 |.con ds=>ds.length|.live _ k=>k|.zl _ ys=>ys.length
noncomputable def Src.item(s:Src)(i:Nat)(M:dh):Option D :=
 match s with
 |.con ds=>ds[i]?
 |.live n k=>match M[n]? with
  |some (.lst ds)=>if ds.length=k then ds[i]? else none
  |_=>none
 |.zl n ys=>match M[n]? with
  |some (.lst ds)=>if ds.length=ys.length then(ds[i]?).bind λx=>(ys[i]?).map λy=>.tup [x,y] else none
  |_=>none
noncomputable def Src.fin(s:Src)(M:dh):Bool :=
 match s with
 |.con _=>true
 |.live n k=>match M[n]? with
  |some (.lst ds)=>ds.length==k|_=>false
 |.zl n ys=>match M[n]? with
  |some (.lst ds)=>ds.length==ys.length|_=>false
noncomputable def srcOf(M:dh)(d:D):Option Src :=
 match d with
 |.tup ds=>some (.con ds)|.vl ds=>some (.con ds)
 |.ref n=>match M[n]? with
  |some (.lst ds)=>some (.live n ds.length)|_=>none
 |_=>none
inductive Flow where
 |next|brk|cont|ret (d:D)
noncomputable def Qu:List Nat->List D->Env->Env
 |i::is,d::ds,ρ=>Qu is ds (ρ.set i (some d))|_,_,ρ=>ρ
def Tg.put(t:Tg)(d:D)(Z:Env):Option Env :=
 match t with
 |.name i=>some (Z.set i (some d))
 |.names is=>match d with
  |.tup ds=>if ds.length=is.length then some (Qu is ds Z) else none
  |_=>none
structure Hh where
 call:Nat->List D->dh->Res D
 cls:List Cl
def Ce(fin:dh->Bool)(item:Nat->dh->Option D)(Z:D->Env->dh->Res (Flow×Env)):Nat->Nat->Env->dh->Res (Flow×Env)
 |0,_,ρ,M=>if fin M then .ok (.next,ρ) M else .bad
 |k+1,i,ρ,M=>match item i M with
  |none=>.bad
  |some d=>(Z d ρ M).bind λr G=>match r.1 with
   |.next=>Ce fin item Z k (i+1) r.2 G|.cont=>Ce fin item Z k (i+1) r.2 G|.brk=>.ok (.next,r.2) G|.ret v=>.ok (.ret v,r.2) G
def De(fin:dh->Bool)(item:Nat->dh->Option D)(Z:D->dh->Res (Option D)):Nat->Nat->dh->Res (List D)
 |0,_,M=>if fin M then .ok [] M else .bad
 |k+1,i,M=>match item i M with
  |none=>.bad|some d=>(Z d M).bind λo U=>(De fin item Z k (i+1) U).bind λG R=>.ok (match o with|some x=>x::G|none=>G) R
def Ai(s:Src)(Z:D->dh->Res (Option D))(M:dh):Res (List D):=if s.len<=100000 then De s.fin s.item Z s.len 0 M else .bad
def Gj(c:Env->dh->Res D)(Z:Env->dh->Res (Flow×Env)):Nat->Env->dh->Res (Flow×Env)
 |0,_,_=>.bad
 |k+1,ρ,M=>(c ρ M).bind λb U=>match b with
  |.bl false=>.ok (.next,ρ) U
  |.bl true=>(Z ρ U).bind λr G=>match r.1 with
   |.next=>Gj c Z k r.2 G|.cont=>Gj c Z k r.2 G|.brk=>.ok (.next,r.2) G|.ret v=>.ok (.ret v,r.2) G
  |_=>.bad
noncomputable def Wq:Nat:=1000000
noncomputable def Vp:D->Option (List D)
 |.tup l=>some l|.vl l=>some l|_=>none
noncomputable def Ng(Z:List (List D))(n:Nat):List D:=(List.range n).map λi=>.tup (Z.map λl=>l.getD i .non)
noncomputable def Fl(Z:List D):Nat->List D:=λn=>(Z.zipIdx n).map λp=>D.tup [.int p.2,p.1]
def acx(x:D)(Z:List D)(M:dh):Res Src:=match Vp x with
 |some G=>if G.length=Z.length then .ok (.con (Ng [G,Z] Z.length)) M else .bad
 |none=>match x with
  |.ref n=>match M[n]? with
   |some (.lst G)=>if G.length=Z.length then .ok (.zl n Z) M else .bad
   |_=>.bad
  |_=>.bad
def agh(Z:List D)(M:dh):Res Src:=match Z with
 |[x,y]=>(match Vp y with|some G=>acx x G M|none=>.bad)
 |_=>.bad
mutual
def Ex.den(W:Hh):Ex->Env->dh->Res D
 |.var i,ρ,M=>match ρ[i]? with
  |some (some d)=>.ok d M|_=>.bad
 |.cst d,_,M=>.ok d M|.bin op a b,ρ,M=>(a.den W ρ M).bind λx Z=>(b.den W ρ Z).bind λy G=>Hk op x y G
 |.neg a,ρ,M=>(a.den W ρ M).bind λx Z=>match x with|.int i=>.ok (.int (-i)) Z|_=>.bad
 |.cmp op a b,ρ,M=>(a.den W ρ M).bind λx Z=>(b.den W ρ Z).bind λy G=>Res.u5 ((Nb op x y G).map D.bl) G
 |.chain o1 o2 a b c,ρ,M=>(a.den W ρ M).bind λx Z=>(b.den W ρ Z).bind λy G=>(Res.u5 (Nb o1 x y G) G).bind λq G=>if q then(c.den W ρ G).bind λz M3=>Res.u5 ((Nb o2 y z M3).map D.bl) M3 else .ok (.bl false) G
 |.and a b,ρ,M=>(a.den W ρ M).bind λx Z=>match x with|.bl true=>b.den W ρ Z|.bl false=>.ok (.bl false) Z|_=>.bad
 |.or a b,ρ,M=>(a.den W ρ M).bind λx Z=>match x with|.bl true=>.ok (.bl true) Z|.bl false=>b.den W ρ Z|_=>.bad
 |.not a,ρ,M=>(a.den W ρ M).bind λx Z=>match x with|.bl b=>.ok (.bl !b) Z|_=>.bad
 |.ite c a b,ρ,M=>(c.den W ρ M).bind λx Z=>match x with|.bl true=>a.den W ρ Z|.bl false=>b.den W ρ Z|_=>.bad
 |.tup es,ρ,M=>(es.den W ρ M).bind λU Z=>.ok (.tup U) Z
 |.lst es,ρ,M=>(es.den W ρ M).bind λU Z=>new (.lst U) Z
 |.Jl es,ρ,M=>(es.den W ρ M).bind λU Z=>.ok (.vl U) Z
 |.akx,_,M=>new (.dT []) M|.acr,_,M=>new (.dK []) M|.ix a b,ρ,M=>(a.den W ρ M).bind λx Z=>(b.den W ρ Z).bind λy G=>Res.u5 (zg x y G) G
 |.cut a lo hi,ρ,M=>(a.den W ρ M).bind λx Z=>(lo.den W ρ Z).bind λl G=>(hi.den W ρ G).bind λh M3=>Res.u5 (acw x l h M3) M3
 |.call f es,ρ,M=>(es.den W ρ M).bind λU Z=>W.call f U Z
 |.make c es,ρ,M=>(es.den W ρ M).bind λU Z=>match W.cls[c]? with
  |some C=>(W.call C.init (.ref Z.length::U) (Z++[.ins c []])).bind λr G=>match r with|.non=>.ok (.ref Z.length) G|_=>.bad
  |none=>.bad
 |.meth o m,ρ,M=>(o.den W ρ M).bind λx Z=>match x with
  |.ref n=>match Z[n]? with
   |some (.ins c _)=>match(W.cls[c]?).bind λC=>C.meths.lookup m with
    |some f=>W.call f [.ref n] Z|none=>.bad
   |_=>.bad
  |_=>.bad
 |.fld o f,ρ,M=>(o.den W ρ M).bind λx Z=>Res.u5 (Rk x f Z) Z
 |.blt b es,ρ,M=>(es.den W ρ M).bind λU Z=>o8 b U Z
 |.bm m o es,ρ,M=>(o.den W ρ M).bind λx Z=>if K7 m x Z then(es.den W ρ Z).bind λU G=>K8 m x U G else .bad
 |.comp v k t it e,ρ,M=>(it.den W ρ M).bind λs Z =>
  (Ai s (λd M=>match t.put d (ρ++List.replicate k none) with
   |some R=>(e.den W R M).bind λx M'=>.ok (some x) M'
   | none=>.bad) Z).bind λU G=>if v then .ok (.vl U) G else new (.lst U) G
 |.Fq v k t it c e,ρ,M=>(it.den W ρ M).bind λs Z =>
  (Ai s (λd M=>match t.put d (ρ++List.replicate k none) with
   |some R=>(c.den W R M).bind λb M'=>match b with
    |.bl true=>(e.den W R M').bind λx qq=>.ok (some x) qq
    |.bl false=>.ok none M'|_=>.bad
   | none=>.bad) Z).bind λU G=>if v then .ok (.vl U) G else new (.lst U) G
 |.Wm a b,ρ,M=>(a.den W ρ M).bind λx Z =>
  match(keysOf Z x).bind Ei with
  |some xs=>if Ej xs then(b.den W ρ Z).bind λy G =>
   match(keysOf G y).bind Ei with
   |some ys=>if Ej ys then .ok (.bl !Jr xs ys) G else .bad
   |none=>.bad
   else .bad
  |none=>.bad
 |.tru e,ρ,M=>(e.den W ρ M).bind λx Z=>Res.u5 ((du Z x).map λU=>D.bl !U.isEmpty) Z
 |.acs e,ρ,M=>(e.den W ρ M).bind λx Z=>match x with
  |.int i=>if i.natAbs<=100000 then .ok (.tup ((List.range i.toNat).map λ(k:Nat)=>D.int (k:Int))) Z else .bad
  |_=>.bad
 |.Wn e,ρ,M=>(e.den W ρ M).bind λx Z=>match x with
  |.int i=>if i.natAbs<=100000 then new (.lst ((List.range i.toNat).map λ(k:Nat)=>D.int (k:Int))) Z else .bad
  |_=>.bad
def Ed.den(W:Hh):Ed->Env->dh->Res (List D)
 |.nil,_,M=>.ok [] M|.cons e es,ρ,M=>(e.den W ρ M).bind λx Z=>(es.den W ρ Z).bind λG U=>.ok (x::G) U
def OEx.den(W:Hh):OEx->Env->dh->Res (Option Int)
 |.none,_,M=>.ok none M|.some e,ρ,M=>(e.den W ρ M).bind λx Z=>match x with|.int i=>.ok (some i) Z|_=>.bad
def Pz.den(W:Hh):Pz->Env->dh->Res Src
 |.val e,ρ,M=>(e.den W ρ M).bind λx Z=>Res.u5 (srcOf Z x) Z
 |.Qc e,ρ,M=>(e.den W ρ M).bind λx Z=>match x with
  |.int i=>if i.natAbs<=100000 then .ok (.con ((List.range i.toNat).map λ(k:Nat)=>D.int (k:Int))) Z else .bad
  |_=>.bad
 |.enm e,ρ,M=>(e.den W ρ M).bind λx Z=>match x with
  |.tup ds=>.ok (.con (Fl ds 0)) Z|.vl ds=>.ok (.con (Fl ds 0)) Z|_=>.bad
 |.zip es,ρ,M=>(es.den W ρ M).bind agh
end
def Lv.put(W:Hh)(l:Lv)(d:D)(Z:Env)(M:dh):Res Env :=
 match l with
 |.tg t=>Res.u5 (t.put d Z) M|.sub o i=>(o.den W Z M).bind λx G=>(i.den W Z G).bind λy U=>(Res.u5 (setOp x y d U) U).bind λR _=>.ok Z R
 |.fld o f=>(o.den W Z M).bind λx G=>(Res.u5 (Rm x f d G) G).bind λU _=>.ok Z U
mutual
def Cz.den(W:Hh):Cz->Env->dh->Res (Flow×Env)
 |.asg l e,Z,M=>(e.den W Z M).bind λx G=>(l.put W x Z G).bind λU R=>.ok (.next,U) R
 |.expr e,Z,M=>(e.den W Z M).bind λ_ G=>.ok (.next,Z) G
 |.iff c a b,Z,M=>(c.den W Z M).bind λx G=>match x with|.bl true=>a.den W Z G|.bl false=>b.den W Z G|_=>.bad
 |.whl c b,Z,M=>Gj (c.den W) (b.den W) Wq Z M
 | .for_ t it b,Z,M=>(it.den W Z M).bind λs G=>Ce s.fin s.item (λd Z M=>match t.put d Z with
  | some U=>b.den W U M|none=>.bad) s.len 0 Z G
 |.ret e,Z,M=>(e.den W Z M).bind λx G=>.ok (.ret x,Z) G
 |.brk,Z,M=>.ok (.brk,Z) M|.cont,Z,M=>.ok (.cont,Z) M|.raise,_,_=>.bad
def p7.den(W:Hh):p7->Env->dh->Res (Flow×Env)
 |.nil,ρ,M=>.ok (.next,ρ) M
 |.cons s r,ρ,M=>(s.den W ρ M).bind λp Z=>match p.1 with
  |.next=>r.den W p.2 Z|.brk=>.ok (.brk,p.2) Z|.cont=>.ok (.cont,p.2) Z|.ret d=>.ok (.ret d,p.2) Z
end
structure Prog where
 fns:List Fn
 cls:List Cl
def Fn.run(W:Hh)(f:Fn)(Z:List D)(M:dh):Res D :=
 if Z.length=f.np then
  (f.body.den W (Z.map some++List.replicate (f.ns-f.np) none) M).bind λp G=>match p.1 with
   |.ret d=>.ok d G|.next=>.ok .non G|_=>.bad
 else .bad
def Prog.call(P:Prog):Nat->Nat->List D->dh->Res D
 |0,_,_,_=>.bad
 |n+1,f,ds,M=>match P.fns[f]? with
  |some F=>F.run ⟨P.call n,P.cls⟩ ds M|none=>.bad
@[simp] def aic(i:Nat):(Ex.var i).den W Z M=match Z[i]? with|some (some d)=>.ok d M|_=>.bad:=rfl
@[simp high] theorem bes(d:D)(r:Env):(Ex.var 0).den W (some d::r) M=.ok d M:=rfl
@[simp high] theorem bet(Z:Option D)(d:D)(r:Env):(Ex.var 1).den W (Z::some d::r) M=.ok d M:=rfl
@[simp high] theorem beu(Z G:Option D)(d:D)(r:Env):(Ex.var 2).den W (Z::G::some d::r) M=.ok d M:=rfl
@[simp high] theorem bev(G U Z:Option D)(d:D)(r:Env):(Ex.var 3).den W (G::U::Z::some d::r) M=.ok d M:=rfl
@[simp high] theorem bew(U R Z G:Option D)(d:D)(r:Env):(Ex.var 4).den W (U::R::Z::G::some d::r) M=.ok d M:=rfl
@[simp high] theorem bex(G Z R a3 U:Option D)(d:D)(r:Env):(Ex.var 5).den W (G::Z::R::a3::U::some d::r) M=.ok d M:=rfl
@[simp high] theorem bey(U G a2 a3 R Z:Option D)(d:D)(r:Env):(Ex.var 6).den W (U::G::a2::a3::R::Z::some d::r) M=.ok d M:=rfl
@[simp high] theorem bez(U G a2 a3 R Z a6:Option D)(d:D)(r:Env):(Ex.var 7).den W (U::G::a2::a3::R::Z::a6::some d::r) M=.ok d M:=rfl
@[simp high] theorem be0(R U a2 a3 a4 Z a6 G:Option D)(d:D)(r:Env):(Ex.var 8).den W (R::U::a2::a3::a4::Z::a6::G::some d::r) M=.ok d M:=rfl
@[simp high] theorem be1(a0 R a2 a3 a4 Z a6 G U:Option D)(d:D)(r:Env):(Ex.var 9).den W (a0::R::a2::a3::a4::Z::a6::G::U::some d::r) M=.ok d M:=rfl
@[simp high] theorem bco(a0 R a2 a3 a4 Z a6 G U a9:Option D)(d:D)(r:Env):(Ex.var 10).den W (a0::R::a2::a3::a4::Z::a6::G::U::a9::some d::r) M=.ok d M:=rfl
@[simp high] theorem bcp(a0 a1 a2 a3 a4 G a6 U R a9 Z:Option D)(d:D)(r:Env):(Ex.var 11).den W (a0::a1::a2::a3::a4::G::a6::U::R::a9::Z::some d::r) M=.ok d M:=rfl
@[simp high] theorem bcq(a0 a1 a2 a3 a4 U a6 R a8 a9 Z G:Option D)(d:D)(r:Env):(Ex.var 12).den W (a0::a1::a2::a3::a4::U::a6::R::a8::a9::Z::G::some d::r) M=.ok d M:=rfl
@[simp] def aal(d:D):(Ex.cst d).den W Z M=.ok d M:=rfl
@[simp] def aun(G:Op2)(a b:Ex):(Ex.bin G a b).den W Z M=(a.den W Z M).bind λx U=>(b.den W Z U).bind λy M2=>Hk G x y M2:=rfl
@[simp] def auo(a:Ex):(Ex.neg a).den W G M=(a.den W G M).bind λx Z=>match x with|.int i=>.ok (.int (-i)) Z|_=>.bad:=rfl
@[simp] def aup(G:Cp)(a b:Ex):(Ex.cmp G a b).den W Z M=(a.den W Z M).bind λx U=>(b.den W Z U).bind λy M2=>Res.u5 ((Nb G x y M2).map D.bl) M2:=rfl
@[simp] def aky(G U:Cp)(a b c:Ex):(Ex.chain G U a b c).den W Z M=(a.den W Z M).bind λx M1=>(b.den W Z M1).bind λy M2=>(Res.u5 (Nb G x y M2) M2).bind λq M2=>if q then(c.den W Z M2).bind λz R=>Res.u5 ((Nb U y z R).map D.bl) R else .ok (.bl false) M2:=rfl
def aid(a b:Ex):(Ex.and a b).den W G M=(a.den W G M).bind λx Z=>match x with|.bl true=>b.den W G Z|.bl false=>.ok (.bl false) Z|_=>.bad:=rfl
def anv(a b:Ex):(Ex.or a b).den W G M=(a.den W G M).bind λx Z=>match x with|.bl true=>.ok (.bl true) Z|.bl false=>b.den W G Z|_=>.bad:=rfl
@[simp] def aie(a:Ex):(Ex.not a).den W G M=(a.den W G M).bind λx Z=>match x with|.bl b=>.ok (.bl !b) Z|_=>.bad:=rfl
def auq(c a b:Ex):(Ex.ite c a b).den W Z M=(c.den W Z M).bind λx G=>match x with|.bl true=>a.den W Z G|.bl false=>b.den W Z G|_=>.bad:=rfl
@[simp] def aur(Z:Ed):(Ex.tup Z).den W G M=(Z.den W G M).bind λU M1=>.ok (.tup U) M1:=rfl
@[simp] def aus(Z:Ed):(Ex.lst Z).den W G M=(Z.den W G M).bind λU M1=>new (.lst U) M1:=rfl
@[simp] def anw(Z:Ed):(Ex.Jl Z).den W G M=(Z.den W G M).bind λU M1=>.ok (.vl U) M1:=rfl
@[simp] def anx:Ex.akx.den W Z M=new (.dT []) M:=rfl
@[simp] def anz:Ex.acr.den W Z M=new (.dK []) M:=rfl
@[simp] def a0w(a b:Ex):(Ex.ix a b).den W Z M=(a.den W Z M).bind λx G=>(b.den W Z G).bind λy M2=>Res.u5 (zg x y M2) M2:=rfl
@[simp] def aut(a:Ex)(G U:OEx):(Ex.cut a G U).den W Z M=(a.den W Z M).bind λx R=>(G.den W Z R).bind λl M2=>(U.den W Z M2).bind λh M3=>Res.u5 (acw x l h M3) M3:=rfl
@[simp] def an1(f:Nat)(Z:Ed):(Ex.call f Z).den W G M=(Z.den W G M).bind λU M1=>W.call f U M1:=rfl
@[simp] theorem acy{W:Hh}{U:Env}{M:dh}(c:Nat)(G:Ed):(Ex.make c G).den W U M=(G.den W U M).bind λR Z=>match W.cls[c]? with
 |some C=>(W.call C.init (.ref Z.length::R) (Z++[.ins c []])).bind λr M2=>match r with|.non=>.ok (.ref Z.length) M2|_=>.bad
 |none=>.bad:=rfl
@[simp] theorem an3{W:Hh}{G:Env}{M:dh}(o:Ex)(m:Nat):(Ex.meth o m).den W G M=(o.den W G M).bind λx Z=>match x with
 |.ref n=>match Z[n]? with
  |some (.ins c _)=>match(W.cls[c]?).bind λC=>C.meths.lookup m with
   |some f=>W.call f [.ref n] Z|none=>.bad
  |_=>.bad
 |_=>.bad:=rfl
@[simp] def auu(o:Ex)(f:Nat):(Ex.fld o f).den W Z M=(o.den W Z M).bind λx M1=>Res.u5 (Rk x f M1) M1:=rfl
@[simp] def Vy(b:Blt)(Z:Ed):(Ex.blt b Z).den W G M=(Z.den W G M).bind λU M1=>o8 b U M1:=rfl
@[simp] def agi(m:Bm)(o:Ex)(Z:Ed):(Ex.bm m o Z).den W U M=(o.den W U M).bind λx G=>if K7 m x G then(Z.den W U G).bind λR M2=>K8 m x R M2 else .bad:=rfl
@[simp] theorem an4{W:Hh}{Z:Env}{M:dh}(e:Ex):(Ex.acs e).den W Z M=(e.den W Z M).bind λx G=>match x with
 |.int i=>if i.natAbs<=100000 then .ok (.tup ((List.range i.toNat).map λ(k:Nat)=>D.int (k:Int))) G else .bad
 |_=>.bad:=rfl
@[simp] theorem an5{W:Hh}{Z:Env}{M:dh}(e:Ex):(Ex.Wn e).den W Z M=(e.den W Z M).bind λx G=>match x with
 |.int i=>if i.natAbs<=100000 then new (.lst ((List.range i.toNat).map λ(k:Nat)=>D.int (k:Int))) G else .bad
 |_=>.bad:=rfl
def Nh(v:Bool)(k:Nat)(t:Tg)(it:Pz)(e:Ex):(Ex.comp v k t it e).den W G M=(it.den W G M).bind λs R =>
 (Ai s (λd M=>match t.put d (G++List.replicate k none) with
  |some Z=>(e.den W Z M).bind λx M'=>.ok (some x) M'
  | none=>.bad) R).bind λU M2=>if v then .ok (.vl U) M2 else new (.lst U) M2:=rfl
def Wr(v:Bool)(k:Nat)(t:Tg)(it:Pz)(c e:Ex):(Ex.Fq v k t it c e).den W U M=(it.den W U M).bind λs M1 =>
 (Ai s (λd M=>match t.put d (U++List.replicate k none) with
  |some Z=>(c.den W Z M).bind λb M'=>match b with
   |.bl true=>(e.den W Z M').bind λx G=>.ok (some x) G
   |.bl false=>.ok none M'|_=>.bad
  | none=>.bad) M1).bind λR M2=>if v then .ok (.vl R) M2 else new (.lst R) M2:=rfl
@[simp] def Ni:Ed.nil.den W Z M=.ok [] M:=rfl
@[simp] def Dl(e:Ex)(Z:Ed):(Ed.cons e Z).den W G M=(e.den W G M).bind λx R=>(Z.den W G R).bind λU M2=>.ok (x::U) M2:=rfl
@[simp] def akz:OEx.none.den W Z M=.ok none M:=rfl
@[simp] def ak0(e:Ex):(OEx.some e).den W G M=(e.den W G M).bind λx Z=>match x with|.int i=>.ok (some i) Z|_=>.bad:=rfl
@[simp] def Pj(e:Ex):(Pz.val e).den W Z M=(e.den W Z M).bind λx M1=>Res.u5 (srcOf M1 x) M1:=rfl
@[simp] theorem Rn{W:Hh}{Z:Env}{M:dh}(e:Ex):(Pz.Qc e).den W Z M=(e.den W Z M).bind λx G=>match x with
 |.int i=>if i.natAbs<=100000 then .ok (.con ((List.range i.toNat).map λ(k:Nat)=>D.int (k:Int))) G else .bad
 |_=>.bad:=rfl
@[simp] theorem aif{W:Hh}{G:Env}{M:dh}(e:Ex):(Pz.enm e).den W G M=(e.den W G M).bind λx Z=>match x with
 |.tup ds=>.ok (.con (Fl ds 0)) Z|.vl ds=>.ok (.con (Fl ds 0)) Z|_=>.bad:=rfl
@[simp] def aih(Z:Ed):(Pz.zip Z).den W G M=(Z.den W G M).bind agh:=rfl
@[simp] def auv(e:Ex):(Ex.tru e).den W G M=(e.den W G M).bind λx M1=>Res.u5 ((du M1 x).map λZ=>D.bl !Z.isEmpty) M1:=rfl
@[simp] def aam(l:Lv)(e:Ex):(Cz.asg l e).den W G M=(e.den W G M).bind λx U=>(l.put W x G U).bind λZ M2=>.ok (.next,Z) M2:=rfl
@[simp] def auw(e:Ex):(Cz.expr e).den W Z M=(e.den W Z M).bind λ_ M1=>.ok (.next,Z) M1:=rfl
def a0x(c:Ex)(a b:p7):(Cz.iff c a b).den W Z M=(c.den W Z M).bind λx G=>match x with|.bl true=>a.den W Z G|.bl false=>b.den W Z G|_=>.bad:=rfl
@[simp] def a0y(e:Ex):(Cz.ret e).den W Z M=(e.den W Z M).bind λx M1=>.ok (.ret x,Z) M1:=rfl
@[simp] def a0z:Cz.brk.den W Z M=.ok (.brk,Z) M:=rfl
@[simp] def auy:Cz.cont.den W Z M=.ok (.cont,Z) M:=rfl
@[simp] def aoa:Cz.raise.den W Z M=.bad:=rfl
def aan(c:Ex)(b:p7):(Cz.whl c b).den W Z M=Gj (c.den W) (b.den W) Wq Z M:=rfl
def T5(t:Tg)(it:Pz)(b:p7):(Cz.for_ t it b).den W Z M=(it.den W Z M).bind λs M1=>Ce s.fin s.item (λd Z M=>match t.put d Z with
 | some G=>b.den W G M|none=>.bad) s.len 0 Z M1:=rfl
@[simp] def auz:p7.nil.den W Z M=.ok (.next,Z) M:=rfl
theorem aob{W:Hh}{Z:Env}{M:dh}(s:Cz)(r:p7):(p7.cons s r).den W Z M=(s.den W Z M).bind λp M1=>match p.1 with
 |.next=>r.den W p.2 M1|.brk=>.ok (.brk,p.2) M1|.cont=>.ok (.cont,p.2) M1|.ret d=>.ok (.ret d,p.2) M1:=rfl
def aoc(W:Hh)(r:p7)(x:Res (Flow×Env)):Res (Flow×Env):=x.bind λp Z=>match p.1 with
 |.next=>r.den W p.2 Z|.brk=>.ok (.brk,p.2) Z|.cont=>.ok (.cont,p.2) Z|.ret d=>.ok (.ret d,p.2) Z
@[simp] def bcr(s:Cz)(r:p7):(p7.cons s r).den W Z M=aoc W r (s.den W Z M):=rfl
@[simp] def a8a(r:p7):aoc W r (.ok (.next,Z) M)=r.den W Z M:=rfl
@[simp] def bcs(r:p7):aoc W r (.ok (.brk,Z) M)=.ok (.brk,Z) M:=rfl
@[simp] def a8b(r:p7):aoc W r (.ok (.cont,Z) M)=.ok (.cont,Z) M:=rfl
@[simp] def bct(r:p7)(d:D):aoc W r (.ok (.ret d,Z) M)=.ok (.ret d,Z) M:=rfl
def ifK{α:Type}(a b:dh->Res α)(x:Res D):Res α:=x.bind λx Z=>match x with|.bl true=>a Z|.bl false=>b Z|_=>.bad
@[simp] def a8c(c:Ex)(a b:p7):(Cz.iff c a b).den W Z M=ifK (a.den W Z) (b.den W Z) (c.den W Z M):=rfl
@[simp] def be2(c a b:Ex):(Ex.ite c a b).den W Z M=ifK (a.den W Z) (b.den W Z) (c.den W Z M):=rfl
@[simp] def be3(a b:Ex):(Ex.and a b).den W Z M=ifK (b.den W Z) (.ok (.bl false)) (a.den W Z M):=rfl
@[simp] def bi1(a b:Ex):(Ex.or a b).den W Z M=ifK (.ok (.bl true)) (b.den W Z) (a.den W Z M):=rfl
@[simp] def bi2(a b:dh->Res α):ifK a b (.ok (.bl true) M)=a M:=rfl
@[simp] def bi3(a b:dh->Res α):ifK a b (.ok (.bl false) M)=b M:=rfl
theorem Yx{W:Hh}{Z:Env}{M:dh}(a b:Ex):(Ex.Wm a b).den W Z M=(a.den W Z M).bind λx U =>
 match(keysOf U x).bind Ei with
 |some G=>if Ej G then(b.den W Z U).bind λy R =>
  match(keysOf R y).bind Ei with
  |some ys=>if Ej ys then .ok (.bl !Jr G ys) R else .bad
  |none=>.bad
  else .bad
 |none=>.bad:=rfl
@[simp] def aod(t:Tg)(d:D):(Lv.tg t).put W d Z M=Res.u5 (t.put d Z) M:=rfl
@[simp] def au0(o i:Ex)(d:D):(Lv.sub o i).put W d Z M=(o.den W Z M).bind λx U=>(i.den W Z U).bind λy G=>(Res.u5 (setOp x y d G) G).bind λM3 _=>.ok Z M3:=rfl
@[simp] def au1(o:Ex)(f:Nat)(d:D):(Lv.fld o f).put W d G M=(o.den W G M).bind λx Z=>(Res.u5 (Rm x f d Z) Z).bind λM2 _=>.ok G M2:=rfl
@[simp] def a00(i:Nat)(d:D):(Tg.name i).put d Z=some (Z.set i (some d)):=rfl
@[simp] def azb(is:Y3)(Z:List D)(h:Z.length=is.length):(Tg.names is).put (.tup Z) G=some (Qu is Z G):=by simp[Tg.put,h]
@[simp] def azc(i:Nat)(is:Y3)(d:D)(Z:List D):Qu (i::is) (d::Z) G=Qu is Z (G.set i (some d)):=rfl
@[simp] def a01(Z:List D):Qu [] Z ρ=ρ:=by cases Z<;>rfl
@[simp] def a8d(i j:Int):Hk .add (.int i) (.int j) M=.ok (.int (i+j)) M:=rfl
@[simp] def a8e(i j:Int):Hk .sub (.int i) (.int j) M=.ok (.int (i-j)) M:=rfl
def Nj(i j:Int)(h:(-(2 ^ 64)<i/\i<2 ^ 64)\/(-(2 ^ 64)<j/\j<2 ^ 64)):Hk .mul (.int i) (.int j) M=.ok (.int (i*j)) M:=dg h
def Yy(i j:Int)(h:0<j)(Z:j<1073741824):Hk .fdiv (.int i) (.int j) M=.ok (.int (i / j)) M:=dg ⟨h,Z⟩
@[simp] def a8f(i j:Int)(h:0<j):Hk .mod (.int i) (.int j) M=.ok (.int (i%j)) M:=dg h
@[simp] def a02:Hk .pow (.int 10) (.int 18) M=.ok (.int (10 ^ 18)) M:=by simp[Hk,ay9]
def Yz(xs ys:List D)(h:xs.length+ys.length<=100000):Hk .add (.vl xs) (.vl ys) M=.ok (.vl (xs++ys)) M:=dg h
@[simp] def be4(i j:Int):Nb .lt (.int i) (.int j) M=some (decide (i<j)):=rfl
@[simp] def be5(i j:Int):Nb .le (.int i) (.int j) M=some (decide (i<=j)):=rfl
@[simp] def cmp_gt(i j:Int):Nb .gt (.int i) (.int j) M=some (decide (j<i)):=rfl
@[simp] def be6(i j:Int):Nb .ge (.int i) (.int j) M=some (decide (j<=i)):=rfl
@[simp] def be7(a b:D):Nb .eq a b M=yf M a b:=rfl
@[simp] def be8(a b:D):Nb .ne a b M=(yf M a b).map not:=rfl
@[simp] def be9(a b:D):Nb .inn a b M=Rj M a b:=rfl
@[simp] def a6r(a b:D):Nb .Ux a b M=(Rj M a b).map not:=rfl
def aao(n:Nat)(i j:Int):Jm M (n+1) (.int i) (.int j)=some (decide (i=j)):=rfl
def au2(n:Nat)(Z bs:List D):Jm M (n+1) (.tup Z) (.tup bs)=Qs (Jm M n) Z bs:=rfl
def Df(U:f a b=some x)(Z:Qs f G bs=some y):Qs f (a::G) (b::bs)=some (x&&y):=by simp[Qs,U,Z]
@[simp] def eq_int(i j:Int):yf M (.int i) (.int j)=some (decide (i=j)):=rfl
@[simp] def bi4(i j:Bool):yf M (.bl i) (.bl j)=some (i==j):=rfl
@[simp] def ak1(ds:List D):du M (.vl ds)=some ds:=rfl
@[simp] def a8g(ds:List D):Al M (.vl ds)=some ds:=rfl
@[simp] def a6s(ds:List D):Al M (.tup ds)=some ds:=rfl
def jx(h:M[n]?=some (.lst ds)):du M (.ref n)=some ds:=by simp[du,h]
def Kf(h:du M d=some ds):Al M d=some ds:=by cases d<;>first|exact h|(simp[du] at h)
set_option tactic.hygienic true in
def len_list(h:du M d=some ds):o8 .len [d] M=.ok (.int ds.length) M:=by
 show T4 M d=_;cases d with
 |vl Y=>simp[du] at h;subst h;rfl
 |ref n =>
  simp only[du] at h;split at h<;>simp at h;rename_i Y Z;subst h;simp[T4,Z]
 |_=>simp[du] at h
@[simp] def a8h(d:D)(g:D->Res D):Nf [d] g=g d:=rfl
@[simp] def a8i(g:D->Res D):Nf [] g=.bad:=rfl
@[simp] def a6t(a b:D)(l:List D)(g:D->Res D):Nf (a::b::l) g=.bad:=rfl
@[simp] def bfa(i j:Int)(f:Int->Int->Int)(g:D->Option Int):two [.int i,.int j] f g M=.ok (.int (f i j)) M:=rfl
@[simp] def au3(d:D)(f:Int->Int->Int)(g:D->Option Int):two [d] f g M=Res.u5 ((g d).map D.int) M:=rfl
@[simp] def a03(Z:List D):T4 M (.tup Z)=.ok (.int Z.length) M:=rfl
@[simp] theorem azd{M:dh}(n:Nat):Vx M (.ref n)=match M[n]? with
 |some (.dT ik)=>if agg ik then new (.dT ik) M else .bad
 |_=>.bad:=rfl
def au4:o8 .len [.tup ds] M=.ok (.int ds.length) M:=rfl
def Dc(h:du M d=some ds)(G:0<=i)(hx:ds[i.toNat]?=some x):zg d (.int i) M=some x:=by
 obtain⟨U,Z⟩:=ak.mp hx;have R:i<ds.length:=by lia
 cases d with
 |vl xs=>simp[du] at h;subst h;simp[zg,Al,Yi,G,R,U,Z]
 |ref n =>
  simp only[du] at h;cases e:M[n]? with
  |none=>rw[e] at h;simp at h|some o=>rw[e] at h;cases o<;>simp at h<;>subst h<;>simp[zg,du,e,Yi,G,R,U,Z]
 |_=>simp[du] at h
def J6(U:0<=i)(G:ds[i.toNat]?=some x):zg (.tup ds) (.int i) M=some x:=by
 obtain⟨R,Z⟩:=ak.mp G;have hi:i<ds.length:=by lia
 simp[zg,Al,Yi,U,hi,R,Z]
def a8j(U:0<=i)(G:ds[i.toNat]?=some x):zg (.fz ds) (.int i) M=some x:=by
 obtain⟨R,Z⟩:=ak.mp G;have hi:i<ds.length:=by lia
 simp[zg,Yi,U,hi,R,Z]
def aoe:o8 .len [.fz ds] M=.ok (.int ds.length) M:=rfl
@[simp] def bcu(x:D)(r:List D):zg (.tup (x::r)) (.int 0) M=some x:=J6 (by decide) rfl
@[simp] def bcv(x y:D)(r:List D):zg (.tup (x::y::r)) (.int 1) M=some y:=J6 (by decide) rfl
@[simp] def bcw(x y z:D)(r:List D):zg (.tup (x::y::z::r)) (.int 2) M=some z:=J6 (by decide) rfl
def acz(h:M[n]?=some (.dT G))(Z:Vo b=some k):zg (.ref n) b M=Bh G k:=by simp[zg,h,Z]
def a8k(h:M[n]?=some (.dT G))(Z:Vo b=some k):Rj M b (.ref n)=some (Bh G k).isSome:=by simp[Rj,h,Z]
def aze(h:M[n]?=some (.dK G))(Z:Wo b=some k):zg (.ref n) b M=Bh G k:=by simp[zg,h,Z]
@[simp] def Y0(i j:Int):Vo (.tup [.int i,.int j])=some [.inl i,.inl j]:=rfl
@[simp] def bi5(i:Int):Wo (.int i)=some (.inl i):=rfl
def Ea(h:M[n]?=some (.lst Z)):K7 .append (.ref n) M=true:=by simp[K7,du,h]
def Dm(h:M[n]?=some (.lst Z))(G:Z.length<100000):K8 .append (.ref n) [d] M=.ok .non (M.set n (.lst (Z++[d]))):=by simp[K8,onL,onK,h,G]
def aap(h:M[n]?=some (.lst Z))(U:0<=i)(G:i<Z.length):setOp (.ref n) (.int i) d M=some (M.set n (.lst (Z.set i.toNat d))):=by simp[setOp,h,Yi,U,G]
def a04(h:M[n]?=some (.dT Z))(G:Vo b=some k)(U:Z.length<100000):setOp (.ref n) b d M=some (M.set n (.dT (Du Z k d))):=by simp[setOp,h,G,U]
def vh{M:dh}(h:M[a]?=some o):a<M.length:=(ak.mp h).1
def vo{M:dh}(h:M[a]?=some p):(M.set a o)[a]?=some o:=by rw[zy (vh h)]
def o7{M:dh}(h:b≠a):(M.set b o)[a]?=M[a]?:=vf h
def qu{M:dh}{a:Nat}(h:M[a]?=some o):(M++X)[a]?=some o:=by rw[dz (vh h)];exact h
@[simp] def bcx{M:dh}:(M++[o])[M.length]?=some o:=by simp
theorem Ws(x:Int):∀l,(insI x l).Perm (x::l)
 |[]=>za _
 |y::l=>by
  unfold insI;split
  .exact za _
  .exact((Ws x l).cons y).trans (List.Perm.swap x y l)
theorem Kg:∀l,(sortI l).Perm l
 |[]=>za _|x::l=>(Ws x _).trans ((Kg l).cons x)
theorem aof(x:Int):∀{l:Xs},l.Pairwise (·<=·)->(insI x l).Pairwise (·<=·)
 |[],_=>List.pairwise_singleton _ _
 |y::l,h=>by
  obtain⟨G,U⟩:=w5.mp h;unfold insI;split
  .refine w5.mpr ⟨λz Z=>?_,h⟩
   rcases cj.mp Z with rfl|Z
   .lia
   .have:=G z Z;lia
  .refine w5.mpr ⟨λz Z=>?_,aof x U⟩
   rcases cj.mp ((Ws x l).mem_iff.mp Z) with rfl|Z
   .lia
   .exact G z Z
theorem aii:∀l,(sortI l).Pairwise (·<=·)
 |[]=>List.Pairwise.nil|x::l=>aof x (aii l)
set_option tactic.hygienic true in
theorem T6(k:Int):∀l,k∈Am l↔k∈l
 |[]=>Iff.rfl
 |x::l=>by
  unfold Am;split
  .rename_i h
   rw[T6 k l,cj];exact⟨.inr,λz=>z.elim (λe=>e▸h) id⟩
  .rw[cj,cj,T6 k l]
set_option tactic.hygienic true in
theorem aaq:∀l,(Am l).Nodup
 |[]=>Ao
 |x::l=>by
  unfold Am;split
  .exact aaq l
  .rename_i h
   exact q9.mpr ⟨λz=>h ((T6 x l).mp z),aaq l⟩
theorem aog:∀l,(Am l).length<=l.length
 |[]=>bw _
 |x::l=>by
  have:=aog l;unfold Am;split<;>simp<;>omega
theorem azf:∀{a b:Xs},a.Pairwise (·<=·)->b.Pairwise (·<=·)->a.Nodup->b.Nodup->(∀k,k∈a↔k∈b)->a=b
 |[],[],_,_,_,_,_=>rfl|[],y::b,_,_,_,_,h=>nomatch(h y).mpr cu|x::a,[],_,_,_,_,h=>nomatch(h x).mp cu
 |x::a,y::b,ha,hb,na,nb,h=>by
  obtain⟨G,a2⟩:=w5.mp ha;obtain⟨Z,b2⟩:=w5.mp hb;obtain⟨U,R⟩:=q9.mp na;obtain⟨d1,d2⟩:=q9.mp nb;have e:x=y:=by
   rcases cj.mp ((h x).mp cu) with e|m
   .exact e
   .rcases cj.mp ((h y).mpr cu) with e|m'
    .exact e.symm
    .have:=Z x m;have:=G y m';lia
  subst e
  congr 1
  refine azf a2 b2 R d2 λk=>⟨λm=>?_,λm=>?_⟩
  .rcases cj.mp ((h k).mp (bh _ m)) with rfl|m'
   .exact absurd m U
   .exact m'
  .rcases cj.mp ((h k).mpr (bh _ m)) with rfl|m'
   .exact absurd m d1
   .exact m'
def aij(Z:ns.Pairwise (·<=·))(G:ns.Nodup)(U:∀k,k∈l↔k∈ns):ns=sortI (Am l) :=
 azf Z (aii _) G ((Kg _).nodup_iff.mpr (aaq l)) λk=>by rw[(Kg _).mem_iff,T6,U]
theorem aar{fin:dh->Bool}{item:Nat->dh->Option D}{U:D->Env->dh->Res (Flow×Env)}(I:Nat->Env->dh->Prop){n:Nat}
 (step:∀i Z M,i<n->I i Z M->∃d fl G R,item i M=some d/\U d Z M=.ok (fl,G) R/\(fl=.next\/fl=.cont)/\I (i+1) G R) (Qv:∀Z M,I n Z M->fin M=true) :
 ∀(k i:Nat)(Z:Env)(M:dh),i+k=n->I i Z M->∃G R,Ce fin item U k i Z M=.ok (.next,G) R/\I n G R
 |0,i,Z,M,e,h=>by
  have q:i=n:=by lia
  rw[q] at h;exact⟨Z,M,by simp[Ce,Qv Z M h],h⟩
 |k+1,i,Z,M,e,h=>by
  obtain⟨d,fl,qk,M1,h1,h2,h3,h4⟩:=step i Z M (by lia) h;obtain⟨qq,M2,g1,g2⟩:=aar I step Qv k (i+1) qk M1 (by lia) h4;refine⟨qq,M2,?_,g2⟩;rcases h3 with rfl|rfl<;>simp[Ce,h1,h2,g1]
def Vz(I:Nat->Env->dh->Prop)(h0:I 0 G M)(step:∀i d G M,ds[i]?=some d->I i G M->∃U Z M',body d G M=.ok (U,Z) M'/\(U=.next\/U=.cont)/\I (i+1) Z M') :
 ∃Z M',Ce (Src.con ds).fin (Src.con ds).item body (Src.con ds).len 0 G M=.ok (.next,Z) M'/\I ds.length Z M':=by
 refine aar I (λi G M R h=>?_) (λ_ _ _=>rfl) ds.length 0 G M (vd _) h0;obtain⟨U,Z,M',a,b,c⟩:=step i ds[i] G M (by simp[R]) h;exact⟨ds[i],U,Z,M',by simp[Src.item,R],a,b,c⟩
def aas(I:Nat->Env->dh->Prop)(h0:I 0 ρ M)(step:∀i ρ M,i<n->I i ρ M->∃U Z M',body (.int i) ρ M=.ok (U,Z) M'/\(U=.next\/U=.cont)/\I (i+1) Z M') :
 ∃Z M',Ce (Src.con ((List.range n).map λ(k:Nat)=>D.int (k:Int))).fin (Src.con ((List.range n).map λ(k:Nat)=>D.int (k:Int))).item body (Src.con ((List.range n).map λ(k:Nat)=>D.int (k:Int))).len 0 ρ M=.ok (.next,Z) M'/\I n Z M':=by
 have:=Vz (ds:=(List.range n).map λ(k:Nat)=>D.int (k:Int)) (body:=body) I h0 (λi d ρ M G h=>by
  have R:i<n:=by have:=(ak.mp G).1;simpa using this
  rw[ie,km R] at G;have G:D.int (i:Int)=d:=by simpa using G
  subst G;exact step i ρ M R h)
 simpa using this
def aoh(I:Nat->Env->dh->Prop)(h0:I 0 G M)(stay:∀i G M,I i G M->M[p]?=some (.lst ds))(step:∀i d G M,ds[i]?=some d->I i G M->∃U Z M',body d G M=.ok (U,Z) M'/\(U=.next\/U=.cont)/\I (i+1) Z M') :
 ∃Z M',Ce (Src.live p ds.length).fin (Src.live p ds.length).item body (Src.live p ds.length).len 0 G M=.ok (.next,Z) M'/\I ds.length Z M':=by
 refine aar I (λi G M R h=>?_) (λG M h=>by simp[Src.fin,stay _ G M h]) ds.length 0 G M (vd _) h0;obtain⟨U,Z,M',a,b,c⟩:=step i ds[i] G M (by simp[R]) h;exact⟨ds[i],U,Z,M',by simp[Src.item,stay i G M h,R],a,b,c⟩
theorem Ht{fin:dh->Bool}{item:Nat->dh->Option D}{body:D->dh->Res (Option D)}(I:Nat->List D->dh->Prop){n:Nat}
 (step:∀i Z M,i<n->I i Z M->∃d o G,item i M=some d/\body d M=.ok o G/\I (i+1) (Z++o.toList) G) (R:∀Z M,I n Z M->fin M=true) :
 ∀(k i:Nat)(Z:List D)(M:dh),i+k=n->I i Z M->∃U G,De fin item body k i M=.ok U G/\I n (Z++U) G
 |0,i,Z,M,e,h=>by
  have q:i=n:=by lia
  rw[q] at h;exact⟨[],M,by simp[De,R Z M h],by simpa using h⟩
 |k+1,i,Z,M,e,h=>by
  obtain⟨d,o,M1,h1,h2,h3⟩:=step i Z M (by lia) h;obtain⟨U,M2,g1,g2⟩:=Ht I step R k (i+1) (Z++o.toList) M1 (by lia) h3;refine⟨o.toList++U,M2,?_,by rw[<- yo];exact g2⟩;cases o<;>simp[De,h1,h2,g1]
def T7{s:Src}{ds:List D}(Qv:s.fin M=true)(hl:s.len=ds.length)(hi:∀i,i<ds.length->s.item i M=ds[i]?)(h:∀d∈ds,body d M=.ok (g d) M) :
 De s.fin s.item body s.len 0 M=.ok (ds.filterMap g) M:=by
 obtain⟨ys,Z,e,h1,R⟩:=Ht (fin:=s.fin) (item:=s.item) (body:=body) (λi U Z=>Z=M/\U=(ds.take i).filterMap g) (n:=ds.length) (λi U Z G hI=>by
  obtain⟨rfl,rfl⟩:=hI;refine⟨ds[i],g ds[i],Z,by rw[hi i G];simp[G],h _ (nq G),rfl,?_⟩;rw[List.take_succ,List.filterMap_append];simp[G];cases e:g ds[i]<;>simp[e]) (λU Z h=>by rw[h.1];exact Qv) ds.length 0 [] M (vd _) ⟨rfl,rfl⟩
 rw[hl,e,h1];simp at R;rw[R]
def aoi(h:∀d∈ds,body d M=.ok (some (g d)) M) :
 De (Src.con ds).fin (Src.con ds).item body (Src.con ds).len 0 M=.ok (ds.map g) M:=by
 rw[T7 (s:=.con ds) (ds:=ds) (g:=λd=>some (g d)) rfl rfl (λi _=>rfl) h,List.filterMap_eq_map']
end MW
namespace MW
theorem Ho{c:Env->dh->Res D}{body:Env->dh->Res (Flow×Env)}(I:Nat->Env->dh->Prop)(T8:Env->dh->Prop)
 (step:∀m Z M,I m Z M->(∃U,c Z M=.ok (.bl false) U/\T8 Z U) \/
  ∃U fl G M2 R,c Z M=.ok (.bl true) U/\body Z U=.ok (fl,G) M2/\(fl=.next\/fl=.cont)/\R<m/\I R G M2) :
 ∀(k m:Nat)(Z:Env)(M:dh),m<k->I m Z M->∃G M',Gj c body k Z M=.ok (.next,G) M'/\T8 G M'
 |0,m,_,_,h,_=>absurd h (rz _)
 |k+1,m,Z,M,h,hI=>by
  rcases step m Z M hI with⟨U,h1,h2⟩|⟨U,fl,qk,M2,R,h1,h2,h3,h4,h5⟩
  .exact⟨Z,U,by simp[Gj,h1],h2⟩
  .obtain⟨qq,M3,g1,g2⟩:=Ho I T8 step k R qk M2 (b_ h4 (z_ h)) h5
   refine⟨qq,M3,?_,g2⟩;rcases h3 with rfl|rfl<;>simp[Gj,h1,h2,g1]
end MW
namespace MW
def yd(M Z:dh):Prop:=∀(a:Nat)(o:MO),M[a]?=some o->Z[a]?=some o
def yd.refl(M:dh):yd M M:=λ_ _ h=>h
def yd.trans(a:yd M Z)(b:yd Z M2):yd M M2:=λx o h=>b x o (a x o h)
def yd.app(M X:dh):yd M (M++X):=λ_ _ h=>qu h
def yd.len(k:yd M Z):M.length<=Z.length:=by
 rcases Nat.eq_zero_or_pos M.length with h|h
 .exact a_ (f_ h) (iz _)
 .have:=vh (k (M.length-1) M[M.length-1] (by simp))
  lia
theorem yd.du(k:yd M Z)(h:du M d=some ds):MW.du Z d=some ds:=by
 cases d with
 |vl G=>exact h
 |ref n =>
  simp only[MW.du] at h ⊢;cases e:M[n]? with
  |none=>rw[e] at h;simp at h|some o=>rw[e] at h;rw[k n o e];exact h
 |_=>simp[MW.du] at h
def Wt(I:Nat->Env->dh->Prop)(G:du M d=some ds)(h0:I 0 ρ M)(stay:∀i ρ M,I i ρ M->du M d=some ds)(step:∀i x ρ M,ds[i]?=some x->I i ρ M->∃U Z M',body x ρ M=.ok (U,Z) M'/\(U=.next\/U=.cont)/\I (i+1) Z M') :
 ∃s,srcOf M d=some s/\∃Z M',Ce s.fin s.item body s.len 0 ρ M=.ok (.next,Z) M'/\I ds.length Z M':=by
 cases d with
 |vl R=>simp[du] at G;subst G;exact⟨_,rfl,Vz I h0 step⟩
 |ref n =>
  cases e:M[n]? with
  |none=>simp[du,e] at G
  |some o =>
   cases o with
   |lst R =>
    simp[du,e] at G;subst G;refine⟨.live n R.length,by simp[srcOf,e],aoh I h0 (λi ρ M h=>?_) step⟩;have:=stay i ρ M h;simp only[du] at this;split at this<;>simp_all
   |_=>simp[du,e] at G
 |_=>simp[du] at G
def aik(Z:ds.length<=100000)(h:∀d∈ds,body d M=.ok (some (g d)) M):Ai (.con ds) body M=.ok (ds.map g) M:=by rw[Ai,dg (show(Src.con ds).len<=100000 from Z)];exact aoi h
def ac0(Z:ds.length<=100000)(h:∀d∈ds,body d M=.ok (g d) M):Ai (.con ds) body M=.ok (ds.filterMap g) M:=by rw[Ai,dg (show(Src.con ds).len<=100000 from Z)];exact T7 (s:=.con ds) rfl rfl (λ_ _=>rfl) h
def ac8(Z:du M d=some ds)(U:ds.length<=100000)(h:∀x∈ds,body x M=.ok (g x) M) :
 ∃s,srcOf M d=some s/\Ai s body M=.ok (ds.filterMap g) M:=by
 cases d with
 |vl G=>simp[du] at Z;subst Z;exact⟨_,rfl,ac0 U h⟩
 |ref n =>
  cases e:M[n]? with
  |none=>simp[du,e] at Z
  |some o =>
   cases o with
   |lst G =>
    simp[du,e] at Z;subst Z;exact⟨.live n G.length,by simp[srcOf,e],by rw[Ai,dg (show(Src.live n G.length).len<=100000 from U)];exact T7 (s:=.live n G.length) (by simp[Src.fin,e]) rfl (λi _=>by simp[Src.item,e]) h⟩
   |_=>simp[du,e] at Z
 |_=>simp[du] at Z
def Hq(v:Bool)(k:Nat)(t:Tg)(it:Pz)(e:Ex):(Ex.comp v k t it e).den W Z M=(it.den W Z M).bind λs U =>
 (Ai s (λd M=>(Res.u5 (t.put d (Z++List.replicate k none)) M).bind λG M=>(e.den W G M).bind λx M'=>.ok (some x) M') U).bind λR M2=>if v then .ok (.vl R) M2 else new (.lst R) M2:=by
 rw[Nh]
 congr 1;funext s U;congr 2;funext d M
 cases t.put d (Z++List.replicate k none)<;>rfl
def ac9(v:Bool)(k:Nat)(t:Tg)(it:Pz)(c e:Ex):(Ex.Fq v k t it c e).den W G M=(it.den W G M).bind λs R =>
 (Ai s (λd M=>(Res.u5 (t.put d (G++List.replicate k none)) M).bind λZ M=>(c.den W Z M).bind λb M' =>
  match b with
   |.bl true=>(e.den W Z M').bind λx U=>.ok (some x) U
   | .bl false=>.ok none M'|_=>.bad) R).bind λds M2=>if v then .ok (.vl ds) M2 else new (.lst ds) M2:=by
 rw[Wr]
 congr 1;funext s R;congr 2;funext d M
 cases t.put d (G++List.replicate k none)<;>rfl
def Pk(t:Tg)(it:Pz)(b:p7):(Cz.for_ t it b).den W Z M=(it.den W Z M).bind λs M1=>Ce s.fin s.item (λd Z M=>(Res.u5 (t.put d Z) M).bind λG M=>b.den W G M) s.len 0 Z M1:=by
 rw[T5]
 congr 1;funext s M1;congr 1;funext d Z M
 cases t.put d Z<;>rfl
def An(R:it.den W ρ M=.ok (.int (n:Int)) M1)(hn:n<=100000)(I:Nat->Env->dh->Prop)(h0:I 0 ρ M1)(step:∀i ρ M,i<n->I i ρ M->∃G U Z M',t.put (.int i) ρ=some G/\b.den W G M=.ok (U,Z) M'/\(U=.next\/U=.cont)/\I (i+1) Z M') :
 ∃Z M',(Cz.for_ t (.Qc it) b).den W ρ M=.ok (.next,Z) M'/\I n Z M':=by
 rw[Pk,Rn,R];have Py:((n:Int)).natAbs<=100000:=by lia
 simp only[Res.Cy,Py,ji,vz];exact aas I h0 (λi ρ M hi h=>by
  obtain⟨G,U,Z,M',a,b,c,d⟩:=step i ρ M hi h;exact⟨U,Z,M',by rw[a];exact b,c,d⟩)
def Ek(R:it.den W ρ M=.ok d M1)(hd:du M1 d=some ds)(I:Nat->Env->dh->Prop)(h0:I 0 ρ M1)(stay:∀i ρ M,I i ρ M->du M d=some ds)(step:∀i x ρ M,ds[i]?=some x->I i ρ M->∃G U Z M',t.put x ρ=some G/\b.den W G M=.ok (U,Z) M'/\(U=.next\/U=.cont)/\I (i+1) Z M') :
 ∃Z M',(Cz.for_ t (.val it) b).den W ρ M=.ok (.next,Z) M'/\I ds.length Z M':=by
 rw[Pk,Pj,R];obtain⟨s,h1,h2⟩:=Wt (body:=λd ρ M=>(Res.u5 (t.put d ρ) M).bind λZ M=>b.den W Z M) I hd h0 stay (λi x ρ M hx h=>by
  obtain⟨G,U,Z,M',a,b,c,d⟩:=step i x ρ M hx h;exact⟨U,Z,M',by rw[a];exact b,c,d⟩)
 simp only[Res.Cy,h1,Res.Hs];exact h2
def ada(R:it.den W ρ M=.ok (.tup ds) M1)(I:Nat->Env->dh->Prop)(h0:I 0 ρ M1)(step:∀i x ρ M,ds[i]?=some x->I i ρ M->∃G U Z M',t.put x ρ=some G/\b.den W G M=.ok (U,Z) M'/\(U=.next\/U=.cont)/\I (i+1) Z M') :
 ∃Z M',(Cz.for_ t (.val it) b).den W ρ M=.ok (.next,Z) M'/\I ds.length Z M':=by
 rw[Pk,Pj,R];exact Vz I h0 (λi x ρ M hx h=>by
  obtain⟨G,U,Z,M',a,b,c,d⟩:=step i x ρ M hx h;exact⟨U,Z,M',by rw[a];exact b,c,d⟩)
def Uz(qq:it.den W ρ M=.ok (.tup ds) M1)(I:Nat->Env->dh->Prop)(h0:I 0 ρ M1)(step:∀i x ρ M,ds[i]?=some x->I i ρ M->∃G U Z M',t.put (.tup [.int i,x]) ρ=some G/\b.den W G M=.ok (U,Z) M'/\(U=.next\/U=.cont)/\I (i+1) Z M') :
 ∃Z M',(Cz.for_ t (.enm it) b).den W ρ M=.ok (.next,Z) M'/\I ds.length Z M':=by
 rw[Pk,aif,qq];have:=Vz (ds:=Fl ds 0) (body:=λd ρ M=>(Res.u5 (t.put d ρ) M).bind λZ M=>b.den W Z M) I h0 (λi x ρ M hx h=>by
  have R:i<ds.length:=by have:=(ak.mp hx).1;simpa[Fl] using this
  have qk:x=.tup [.int i,ds[i]]:=by simp[Fl,R] at hx;exact hx.symm
  subst qk;obtain⟨G,U,Z,M',a,b,c,d⟩:=step i ds[i] ρ M (by simp[R]) h;exact⟨U,Z,M',by rw[a];exact b,c,d⟩)
 have e:(Fl ds 0).length=ds.length:=by simp[Fl]
 rw[e] at this;exact this
def wz(U:it.den W G M=.ok d M1)(hd:du M1 d=some ds)(hl:ds.length<=100000)(h:∀x∈ds,∃Z,t.put x (G++List.replicate k none)=some Z/\e.den W Z M1=.ok (g x) M1) :
 (Ex.comp v k t (.val it) e).den W G M=if v then .ok (.vl (ds.map g)) M1 else new (.lst (ds.map g)) M1:=by
 rw[Hq,Pj,U];obtain⟨s,h1,h2⟩:=ac8 (g:=λx=>some (g x)) (body:=λd M=>(Res.u5 (t.put d (G++List.replicate k none)) M).bind λR M=>(e.den W R M).bind λx M'=>.ok (some x) M') hd hl (λx hx=>by
  obtain⟨Z,a,b⟩:=h x hx;rw[a];simp[b])
 simp only[Res.Cy,h1,Res.Hs,h2,List.filterMap_eq_map']
def aat(U:it.den W G M=.ok (.tup ds) M1)(hl:ds.length<=100000)(h:∀x∈ds,∃Z,t.put x (G++List.replicate k none)=some Z/\e.den W Z M1=.ok (g x) M1) :
 (Ex.comp v k t (.val it) e).den W G M=if v then .ok (.vl (ds.map g)) M1 else new (.lst (ds.map g)) M1:=by
 rw[Hq,Pj,U];have h2:=aik (g:=g) (M:=M1) (body:=λd M=>(Res.u5 (t.put d (G++List.replicate k none)) M).bind λR M=>(e.den W R M).bind λx M'=>.ok (some x) M') hl (λx hx=>by
  obtain⟨Z,a,b⟩:=h x hx;rw[a];simp[b])
 show(Ai (.con ds) _ M1).bind _=_;rw[h2];rfl
def Wu(G:it.den W U M=.ok (.int (n:Int)) M1)(hl:n<=100000)(h:∀i,i<n->∃Z,t.put (.int i) (U++List.replicate k none)=some Z/\c.den W Z M1=.ok (.bl (q i)) M1/\(q i=true->e.den W Z M1=.ok (g i) M1)) :
 (Ex.Fq v k t (.Qc it) c e).den W U M=if v then .ok (.vl (((List.range n).filter q).map g)) M1 else new (.lst (((List.range n).filter q).map g)) M1:=by
 rw[ac9,Rn,G];have Py:((n:Int)).natAbs<=100000:=by lia
 simp only[Res.Cy,Py,ji,vz];rw[ac0 (ds:=(List.range n).map λ(k:Nat)=>D.int (k:Int)) (g:=λd=>match d with|.int i=>if q i.toNat then some (g i.toNat) else none|_=>none) (by simpa using hl) (λx R=>by
  obtain⟨i,hi,rfl⟩:=bc.mp R;obtain⟨Z,a,b,c⟩:=h i (fc.mp hi);rw[a,Res.Hs,Res.Cy,b,Res.Cy];cases e:q i with
  | true=>simp[e,c e]|false=>simp[e])]
 have:(((List.range n).map λ(k:Nat)=>D.int (k:Int)).filterMap λd=>match d with|.int i=>if q i.toNat then some (g i.toNat) else none|_=>none)=((List.range n).filter q).map g:=by
  rw[List.filterMap_map]
  induction List.range n with
  |nil=>rfl|cons a l ih=>by_cases e:q a=true<;>simp[e,ih]
 rw[this];rfl
theorem ail{fin:dh->Bool}{item:Nat->dh->Option D}{body:D->Env->dh->Res (Flow×Env)}(I:Nat->Env->dh->Prop)(T8:Env->dh->Prop){n:Nat}
 (step:∀i Z M,i<n->I i Z M->∃d R G U,item i M=some d/\body d Z M=.ok (R,G) U/\(((R=.next\/R=.cont)/\I (i+1) G U)\/(R=.brk/\T8 G U))) (Qv:∀Z M,I n Z M->fin M=true/\T8 Z M) :
 ∀(k i:Nat)(Z:Env)(M:dh),i+k=n->I i Z M->∃G U,Ce fin item body k i Z M=.ok (.next,G) U/\T8 G U
 |0,i,Z,M,e,h=>by
  have q:i=n:=by lia
  rw[q] at h;exact⟨Z,M,by simp[Ce,(Qv Z M h).1],(Qv Z M h).2⟩
 |k+1,i,Z,M,e,h=>by
  obtain⟨d,R,qq,M1,h1,h2,⟨h3,h4⟩|⟨rfl,h4⟩⟩:=step i Z M (by lia) h
  .obtain⟨qk,M2,g1,g2⟩:=ail I T8 step Qv k (i+1) qq M1 (by lia) h4
   refine⟨qk,M2,?_,g2⟩;rcases h3 with rfl|rfl<;>simp[Ce,h1,h2,g1]
  .exact⟨qq,M1,by simp[Ce,h1,h2],h4⟩
def adb(qq:it.den W G M=.ok (.int (n:Int)) M1)(hn:n<=100000)(I:Nat->Env->dh->Prop)(T8:Env->dh->Prop)(h0:I 0 G M1)(hp:∀G M,I n G M->T8 G M)(step:∀i G M,i<n->I i G M->∃U R Z M',t.put (.int i) G=some U/\b.den W U M=.ok (R,Z) M'/\(((R=.next\/R=.cont)/\I (i+1) Z M')\/(R=.brk/\T8 Z M'))) :
 ∃Z M',(Cz.for_ t (.Qc it) b).den W G M=.ok (.next,Z) M'/\T8 Z M':=by
 rw[Pk,Rn,qq];have Py:((n:Int)).natAbs<=100000:=by lia
 simp only[Res.Cy,Py,ji,vz];obtain⟨Z,M',e,h⟩:=ail (fin:=(Src.con ((List.range n).map λ(k:Nat)=>D.int (k:Int))).fin) (item:=(Src.con ((List.range n).map λ(k:Nat)=>D.int (k:Int))).item) (body:=λd G M=>(Res.u5 (t.put d G) M).bind λZ M=>b.den W Z M) I T8 (n:=n) (λi G M hi h=>by
  obtain⟨U,R,Z,M',a,b,c⟩:=step i G M hi h;exact⟨.int i,R,Z,M',by simp[Src.item,hi],by rw[a];exact b,c⟩) (λG M h=>⟨rfl,hp G M h⟩) n 0 G M1 (vd _) h0
 have hl:(Src.con ((List.range n).map λ(k:Nat)=>D.int (k:Int))).len=n:=by simp[Src.len]
 rw[hl];exact⟨Z,M',e,h⟩
def aau(qq:it.den W R M=.ok (.int (n:Int)) M1)(hn:n<=100000)(I:Nat->List D->dh->Prop)(h0:I 0 [] M1)(step:∀i U M,i<n->I i U M->∃Z x M',t.put (.int i) (R++List.replicate k none)=some Z/\e.den W Z M=.ok x M'/\I (i+1) (U++[x]) M') :
 ∃G M',(Ex.comp v k t (.Qc it) e).den W R M=(if v then .ok (.vl G) M' else new (.lst G) M')/\I n G M':=by
 rw[Hq,Rn,qq];have Py:((n:Int)).natAbs<=100000:=by lia
 simp only[Res.Cy,Py,ji,vz];obtain⟨G,M',g,h⟩:=Ht (fin:=(Src.con ((List.range n).map λ(k:Nat)=>D.int (k:Int))).fin) (item:=(Src.con ((List.range n).map λ(k:Nat)=>D.int (k:Int))).item) (body:=λd M=>(Res.u5 (t.put d (R++List.replicate k none)) M).bind λqk M=>(e.den W qk M).bind λx M'=>.ok (some x) M') I (n:=n) (λi U M hi h=>by
  obtain⟨Z,x,M',a,b,c⟩:=step i U M hi h;exact⟨.int i,some x,M',by simp[Src.item,hi],by rw[a];simp[b],by simpa using c⟩) (λ_ _ _=>rfl) n 0 [] M1 (vd _) h0
 have hl:(Src.con ((List.range n).map λ(k:Nat)=>D.int (k:Int))).len=n:=by simp[Src.len]
 refine⟨G,M',?_,by simpa using h⟩;rw[Ai,hl,dg hn,g];rfl
set_option tactic.hygienic true in
def J7(U:it.den W ρ M=.ok d M1)(J:du M1 d=some ds)(R:ds.length<=100000)(I:Nat->List D->dh->Prop)(h0:I 0 [] M1)(stay:∀i Z M,I i Z M->du M d=some ds)(step:∀i y Z M,ds[i]?=some y->I i Z M->∃Y x M',t.put y (ρ++List.replicate k none)=some Y/\e.den W Y M=.ok x M'/\I (i+1) (Z++[x]) M') :
 ∃G M',(Ex.comp v k t (.val it) e).den W ρ M=(if v then .ok (.vl G) M' else new (.lst G) M')/\I ds.length G M':=by
 rw[Hq,Pj,U];obtain⟨s,S,hl,hi,u⟩:∃s,srcOf M1 d=some s/\s.len=ds.length/\(∀M i,du M d=some ds->s.item i M=ds[i]?)/\∀M,du M d=some ds->s.fin M=true:=by
  cases d with
  |vl zs=>cases J;exact⟨.con ds,rfl,rfl,λ_ _ _=>rfl,λ_ _=>rfl⟩
  |ref p =>
   have get:∀{M:dh},du M (.ref p)=some ds->M[p]?=some (.lst ds):=fun{M} h=>by
    simp only[du] at h;split at h
    .rename_i z;cases h;exact z
    .cases h
   refine⟨.live p ds.length,by simp[srcOf,get J],rfl,λM i h=>by simp[Src.item,get h],λM h=>by simp[Src.fin,get h]⟩
  |_=>cases J
 simp only[Res.Cy,S,Res.Hs];obtain⟨G,M',g,h⟩:=Ht (fin:=s.fin) (item:=s.item) (body:=λd M=>(Res.u5 (t.put d (ρ++List.replicate k none)) M).bind λC M=>(e.den W C M).bind λx M'=>.ok (some x) M') I (n:=ds.length) (λi Z M L h=>by
  obtain⟨Y,x,M',a,b,c⟩:=step i ds[i] Z M (by simp[L]) h;exact⟨ds[i],some x,M',by rw[hi M i (stay i Z M h)];simp[L],by rw[a];simp[b],by simpa using c⟩) (λZ M h=>u M (stay _ Z M h)) ds.length 0 [] M1 (vd _) h0
 refine⟨G,M',?_,by simpa using h⟩;rw[Ai,hl,dg R,g];rfl
abbrev Goes(I:Nat->Env->dh->Prop)(R:D->dh->Prop)(i:Nat)(r:Res (Flow×Env)):Prop:=∃fl ρ' M',r=.ok (fl,ρ') M'/\((fl=.next/\I i ρ' M')\/∃v,fl=.ret v/\R v M')
theorem aim{fin:dh->Bool}{item:Nat->dh->Option D}{G:D->Env->dh->Res (Flow×Env)}(I:Nat->Env->dh->Prop)(R:D->dh->Prop){n:Nat}
 (step:∀i Z M,i<n->I i Z M->∃d,item i M=some d/\Goes I R (i+1) (G d Z M)) (hf:∀Z M,I n Z M->fin M=true) :
 ∀k i Z M,i+k=n->I i Z M->Goes I R n (Ce fin item G k i Z M)
 |0,i,Z,M,e,h=>by
  obtain rfl:i=n:=by lia
  exact⟨_,Z,M,by simp[Ce,hf Z M h],.inl ⟨rfl,h⟩⟩
 |k+1,i,Z,M,e,h=>by
  obtain⟨d,h1,fl,U,M',h2,⟨rfl,h4⟩|⟨v,rfl,h4⟩⟩:=step i Z M (by lia) h
  .have:=aim I R step hf k (i+1) U M' (by lia) h4
   simpa[Ce,h1,h2] using this
  .exact⟨.ret v,U,M',by simp[Ce,h1,h2],.inr ⟨v,rfl,h4⟩⟩
section
variable{W:Hh}{ρ:Env}{M M1:dh}{t:Tg}{b:p7}
def au6{it:Pz}{s:Src}{n:Nat}(G:it.den W ρ M=.ok s M1)(U:s.len=n)(I:Nat->Env->dh->Prop)(R:D->dh->Prop)(h0:I 0 ρ M1)(hf:∀ρ M,I n ρ M->s.fin M=true)
 (step:∀i ρ M,i<n->I i ρ M->∃d Z,s.item i M=some d/\t.put d ρ=some Z/\Goes I R (i+1) (b.den W Z M)):Goes I R n ((Cz.for_ t it b).den W ρ M):=by
 rw[Pk,G,Res.Cy,U];exact aim I R (λi ρ M hi h=>by
  obtain⟨d,Z,a,b,c⟩:=step i ρ M hi h;exact⟨d,a,by rw[b];exact c⟩) hf n 0 ρ M1 (vd n) h0
def Wv{it:Pz}{s:Src}{n:Nat}(U:it.den W ρ M=.ok s M1)(R:s.len=n)(I:Nat->Env->dh->Prop)(h0:I 0 ρ M1)(hf:∀ρ M,I n ρ M->s.fin M=true)
 (step:∀i ρ M,i<n->I i ρ M->∃d G,s.item i M=some d/\t.put d ρ=some G/\∃Z M',b.den W G M=.ok (.next,Z) M'/\I (i+1) Z M'):∃Z M',(Cz.for_ t it b).den W ρ M=.ok (.next,Z) M'/\I n Z M':=by
 obtain⟨fl,Z,M',e,⟨rfl,h⟩|⟨v,rfl,h⟩⟩:=au6 U R I (λ_ _=>False) h0 hf λi ρ M hi h=>by obtain⟨d,G,a,b,Z,M',c,e⟩:=step i ρ M hi h;exact⟨d,G,a,b,.next,Z,M',c,.inl ⟨rfl,e⟩⟩
 .exact⟨Z,M',e,h⟩
 .exact h.elim
end
end MW
namespace K36
open MW
noncomputable section
def Kh:p7:=.c (.expr (.call 9 (.p (.v 1) (.v 2)))) (.c (.expr (.call 10 (.p (.v 2) (.v 3)))) (.c (.expr (.call 11 (.p (.v 2) (.v 3)))) (.q (.asg (.fld (.v 0) 2) (.v 1)) (.asg (.fld (.v 0) 1) (.v 2)) (.asg (.fld (.v 0) 0) (.blt .dict (.o (.v 3)))))))
def Kl:Fn:=⟨4,4,Kh⟩
def Km:p7:=.o (.ret (.fld (.v 0) 1))
def Ah:Fn:=⟨1,1,Km⟩
def Js:p7:=.q (.f (.cmp .eq (.v 1) (.i (-1))) (.o (.ret (.v 2)))) (.f (.cmp .eq (.v 2) (.i (-1))) (.o (.ret (.v 1)))) (.ret (.ix (.v 0) (.tup (.p (.v 1) (.v 2)))))
def Jt:Fn:=⟨3,3,Js⟩
def Bs:p7:=.o (.f (.cmp .eq (.ix (.v 3) (.i 1)) (.ix (.v 5) (.i 0))) (.o (.expr (.bm .append (.v 1) (.o (.tup (.p (.v 2) (.v 4))))))))
def Ju:Cz:=.for_ (.names [4,5]) (.enm (.v 0)) Bs
def El:p7:=.o Ju
def Jv:Cz:=.for_ (.names [2,3]) (.enm (.v 0)) El
def Ma:p7:=.q (.a 1 (.lst .z)) Jv (.ret (.v 1))
def Mf:Fn:=⟨1,6,Ma⟩
def Ft:p7:=.p (.f (.cmp .eq (.v 1) (.i (-1))) (.o (.ret (.cmp .eq (.v 2) (.v 3))))) (.ret (.and (.chain .le .lt (.i 0) (.v 1) (.l (.v 0))) (.cmp .eq (.ix (.v 0) (.v 1)) (.tup (.p (.v 2) (.v 3))))))
def Fv:Fn:=⟨4,4,Ft⟩
def Fw:p7:=.o (.f (.not (.and (.chain .le .lt (.i 0) (.ix (.v 2) (.i 0)) (.v 0)) (.chain .le .lt (.i 0) (.ix (.v 2) (.i 1)) (.v 0)))) (.o .raise))
def Ko:Cz:=.for_ (.name 2) (.val (.v 1)) Fw
def Nk:p7:=.q (.f (.not (.chain .le .le (.i 1) (.v 0) (.i 3))) (.o .raise)) (.f (.cmp .gt (.l (.v 1)) (.i 5)) (.o .raise)) Ko
def Np:Fn:=⟨2,3,Nk⟩
def Gx:p7:=.o (.f (.not (.call 8 (.c (.v 0) (.q (.ix (.v 1) (.tup (.p (.v 3) (.v 4)))) (.ix (.ix (.v 0) (.v 3)) (.i 0)) (.ix (.ix (.v 0) (.v 4)) (.i 1)))))) (.o .raise))
def Mg:Cz:=.for_ (.names [3,4]) (.val (.v 2)) Gx
def Qd:p7:=.q (.a 2 (.call 7 (.o (.v 0)))) (.f (.Wm (.v 1) (.v 2)) (.o .raise)) Mg
def Qe:Fn:=⟨2,5,Qd⟩
def Dp:p7:=.c (.f (.cmp .Ux (.tup (.p (.v 4) (.v 5))) (.v 1)) (.o .cont)) (.q (.a 6 (.call 6 (.q (.v 1) (.ix (.v 1) (.tup (.p (.v 3) (.v 4)))) (.v 5)))) (.a 7 (.call 6 (.q (.v 1) (.v 3) (.ix (.v 1) (.tup (.p (.v 4) (.v 5))))))) (.f (.cmp .ne (.v 6) (.v 7)) (.o .raise)))
def Kp:Cz:=.for_ (.name 5) (.Qc (.l (.v 0))) Dp
def Fy:p7:=.o Kp
def Kq:Cz:=.for_ (.names [3,4]) (.val (.v 2)) Fy
def Nq:p7:=.p (.a 2 (.call 7 (.o (.v 0)))) Kq
def Nr:Fn:=⟨2,8,Nq⟩
def Hu:p7:=.p (.f (.cmp .lt (.v 1) (.l (.v 0))) (.o (.ret (.ix (.v 0) (.v 1))))) (.ret (.i 0))
def Hv:Fn:=⟨2,2,Hu⟩
def K9:p7:=.q (.a 2 (.call 12 (.p (.v 0) (.v 1)))) (.f (.cmp .ge (.v 2) (.bin .pow (.i 10) (.i 18))) (.o (.ret (.lst (.p (.bin .sub (.v 2) (.bin .pow (.i 10) (.i 18))) (.cst (.bl true))))))) (.ret (.lst (.p (.bin .mod (.v 2) (.i 2147483647)) (.cst (.bl false)))))
def La:Fn:=⟨2,3,K9⟩
def Nt:p7:=.c (.f (.ix (.v 0) (.i 1)) (.q (.a 2 (.bin .mod (.ix (.v 0) (.i 0)) (.v 1))) (.asg (.sub (.v 0) (.i 0)) (.bin .fdiv (.ix (.v 0) (.i 0)) (.v 1))) (.ret (.v 2)))) (.c (.asg (.sub (.v 0) (.i 0)) (.bin .mod (.bin .add (.bin .mul (.ix (.v 0) (.i 0)) (.i 48271)) (.i 29)) (.i 2147483647))) (.q (.a 3 (.bin .mod (.bin .add (.bin .add (.bin .mul (.ix (.v 0) (.i 0)) (.ix (.v 0) (.i 0))) (.bin .mul (.i 39373) (.ix (.v 0) (.i 0)))) (.i 7)) (.i 2147483629))) (.a 3 (.bin .mod (.bin .add (.bin .mul (.v 3) (.v 3)) (.bin .mul (.i 16807) (.v 3))) (.i 2147483587))) (.ret (.bin .mod (.bin .fdiv (.v 3) (.i 8)) (.v 1)))))
def Nu:Fn:=⟨2,4,Nt⟩
def Hw:Ex:=.comp true 1 (.name 12) (.Qc (.ix (.v 7) (.v 10))) (.call 14 (.p (.v 0) (.ix (.v 7) (.v 11))))
def Em:p7:=.q (.a 10 (.call 14 (.p (.v 0) (.v 6)))) (.a 11 (.call 14 (.p (.v 0) (.v 6)))) (.expr (.bm .append (.v 8) (.o (.tup (.q (.v 10) (.v 11) (.blt .tuple (.o Hw)))))))
def Hx:Cz:=.for_ (.name 9) (.Qc (.call 14 (.p (.v 0) (.i 4)))) Em
def Hy:Ex:=.comp true 1 (.name 12) (.Qc (.v 6)) (.bin .add (.i 1) (.call 14 (.p (.v 0) (.i 3))))
def Lb:p7:=.c (.a 1 (.call 14 (.p (.v 0) (.i 12)))) (.c (.f (.cmp .lt (.v 1) (.i 7)) (.c (.a 2 (.Jl (.p (.tup (.q (.i 0) (.i 1) (.tup (.p (.i 0) (.i 1))))) (.tup (.q (.i 0) (.i 1) (.tup (.p (.i 1) (.i 0)))))))) (.c (.a 3 (.Jl (.q (.tup (.q (.i 0) (.i 1) (.tup (.c (.i 0) (.q (.i 0) (.i 1) (.i 1)))))) (.tup (.q (.i 0) (.i 1) (.tup (.c (.i 0) (.q (.i 1) (.i 0) (.i 1)))))) (.tup (.q (.i 1) (.i 0) (.tup (.p (.i 0) (.i 3)))))))) (.q (.a 4 (.Jl (.o (.tup (.q (.i 0) (.i 0) (.tup (.p (.i 1) (.i 0)))))))) (.a 5 (.Jl (.c (.v 2) (.c (.v 3) (.c (.v 4) (.c (.Jl (.o (.tup (.q (.i 0) (.i 0) (.tup (.q (.i 1) (.i 2) (.i 0))))))) (.q (.Jl (.o (.tup (.q (.i 0) (.i 0) (.tup (.p (.i 0) (.i 0))))))) (.Jl .z) (.Jl (.p (.tup (.q (.i 0) (.i 1) (.tup (.p (.i 0) (.i 1))))) (.tup (.q (.i 1) (.i 2) (.tup (.q (.i 0) (.i 0) (.i 1)))))))))))))) (.ret (.ix (.v 5) (.v 1))))))) (.c (.a 6 (.bin .add (.i 1) (.call 14 (.p (.v 0) (.i 3))))) (.c (.a 7 Hy) (.q (.a 8 (.lst .z)) Hx (.ret (.v 8))))))
def Dq:Fn:=⟨1,12,Lb⟩
def Gy:Ex:=.comp true 1 (.name 10) (.val (.ix (.v 7) (.i 2))) (.ix (.ix (.v 8) (.i 2)) (.v 10))
def Cr:p7:=.c (.a 4 (.tup .z)) (.q (.f (.cmp .eq (.ix (.v 7) (.i 1)) (.ix (.v 8) (.i 0))) (.o (.a 4 (.blt .tuple (.o Gy))))) (.a 9 (.tup (.q (.ix (.v 7) (.i 0)) (.ix (.v 8) (.i 1)) (.v 4)))) (.f (.and (.cmp .ne (.v 4) (.tup .z)) (.and (.cmp .Ux (.v 9) (.v 1)) (.or (.cmp .ne (.ix (.v 9) (.i 0)) (.ix (.v 9) (.i 1))) (.cmp .ne (.v 4) (.acs (.l (.v 4))))))) (.o (.expr (.bm .append (.v 1) (.o (.v 9)))))))
def Gz:Cz:=.for_ (.names [7,8]) (.val (.Jl (.p (.tup (.p (.ix (.v 1) (.v 5)) (.ix (.v 1) (.v 6)))) (.tup (.p (.ix (.v 1) (.v 6)) (.ix (.v 1) (.v 5))))))) Cr
def G3:p7:=.o Gz
def G4:Cz:=.for_ (.name 6) (.Qc (.l (.v 1))) G3
def Mh:p7:=.p G4 (.a 5 (.bin .add (.v 5) (.i 1)))
def G5:Cz:=.whl (.and (.cmp .lt (.v 5) (.l (.v 1))) (.cmp .lt (.l (.v 1)) (.i 6))) Mh
def zx:p7:=.o (.f (.and (.or (.cmp .ne (.v 2) (.v 3)) (.cmp .ne (.v 4) (.acs (.l (.v 4))))) (.cmp .Ux (.tup (.q (.v 2) (.v 3) (.v 4))) (.v 1))) (.o (.expr (.bm .append (.v 1) (.o (.tup (.q (.v 2) (.v 3) (.v 4))))))))
def G6:Cz:=.for_ (.names [2,3,4]) (.val (.v 0)) zx
def Qf:p7:=.c (.a 1 (.lst .z)) (.c G6 (.q (.a 5 (.i 0)) G5 (.ret (.v 1))))
def Qg:Fn:=⟨1,10,Qf⟩
def Fz:Ex:=.comp true 3 (.names [8,9,10]) (.val (.v 2)) (.tup (.p (.v 8) (.v 9)))
def Ga:Ex:=.comp true 1 (.name 8) (.val (.ix (.ix (.v 2) (.v 5)) (.i 2))) (.ix (.ix (.ix (.v 2) (.v 6)) (.i 2)) (.v 8))
def Bj:p7:=.o (.f (.cmp .eq (.ix (.ix (.v 2) (.v 5)) (.i 1)) (.ix (.ix (.v 2) (.v 6)) (.i 0))) (.p (.a 7 (.tup (.q (.ix (.ix (.v 2) (.v 5)) (.i 0)) (.ix (.ix (.v 2) (.v 6)) (.i 1)) (.blt .tuple (.o Ga))))) (.asg (.sub (.v 4) (.tup (.p (.v 5) (.v 6)))) (.ite (.cmp .inn (.v 7) (.v 2)) (.bm .index (.v 2) (.o (.v 7))) (.neg (.i 1))))))
def Kr:Cz:=.for_ (.name 6) (.Qc (.l (.v 2))) Bj
def Gb:p7:=.o Kr
def Gd:Cz:=.for_ (.name 5) (.Qc (.l (.v 2))) Gb
def Ge:Ex:=.comp true 3 (.names [8,9,10]) (.val (.v 2)) (.blt .max (.p (.v 8) (.v 9)))
def Ks:p7:=.p (.a 1 (.cut (.v 1) .none (.some (.neg (.i 1))))) (.a 2 (.call 16 (.o (.v 1))))
def Gf:Cz:=.whl (.cmp .gt (.l (.v 2)) (.i 5)) Ks
def Nv:p7:=.c (.a 1 (.call 15 (.o (.v 0)))) (.c (.a 2 (.call 16 (.o (.v 1)))) (.c Gf (.c (.a 3 (.bin .add (.i 1) (.blt .max (.o (.bin .add Ge (.Jl (.o (.i 0)))))))) (.c (.f (.cmp .eq (.v 2) (.Jl .z)) (.o (.a 3 (.bin .add (.i 1) (.call 14 (.p (.v 0) (.i 3))))))) (.q (.a 4 .akx) Gd (.ret (.tup (.q (.v 3) (.blt .tuple (.o Fz)) (.v 4)))))))))
def Nx:Fn:=⟨1,8,Nv⟩
def J8:Ex:=.Fq true 1 (.name 2) (.Qc (.l (.ix (.v 0) (.i 1)))) (.cmp .eq (.ix (.ix (.ix (.v 0) (.i 1)) (.v 2)) (.i 0)) (.v 1)) (.v 2)
def U0:p7:=.o (.ret (.bin .add (.Jl (.o (.neg (.i 1)))) J8))
def U3:Fn:=⟨2,2,U0⟩
def Qw:p7:=.o (.ret (.ite (.cmp .lt (.v 2) (.i 0)) (.v 1) (.ix (.ix (.ix (.v 0) (.i 1)) (.v 2)) (.i 1))))
def Qx:Fn:=⟨3,3,Qw⟩
def Gk:p7:=.p (.f (.or (.cmp .lt (.v 1) (.i 0)) (.cmp .lt (.v 2) (.i 0))) (.o (.ret (.bin .add (.bin .add (.v 1) (.v 2)) (.i 1))))) (.ret (.ix (.ix (.v 0) (.i 2)) (.tup (.p (.v 1) (.v 2)))))
def Gm:Fn:=⟨3,3,Gk⟩
def Ld:p7:=.o (.asg (.sub (.v 1) (.v 3)) (.v 2))
def Ro:Cz:=.for_ (.names [2,3]) (.enm (.v 0)) Ld
def Ww:p7:=.q (.a 1 .acr) Ro (.ret (.v 1))
def Wx:Fn:=⟨1,4,Ww⟩
def T9:Ex:=.comp true 1 (.name 1) (.val (.v 0)) (.blt .tuple (.o (.blt .By (.o (.v 1)))))
def ain:p7:=.o (.ret (.blt .tuple (.o T9)))
def aio:Fn:=⟨1,1,ain⟩
def Ua:Ex:=.comp true 1 (.name 10) (.val (.v 4)) (.l (.v 10))
def Ub:Ex:=.comp true 1 (.name 10) (.val (.ix (.v 4) (.ix (.v 8) (.i 0)))) (.ix (.ix (.v 5) (.ix (.v 8) (.i 1))) (.ix (.v 7) (.v 10)))
def Uc:p7:=.o (.expr (.bm .append (.v 6) (.o (.blt .tuple (.o Ub)))))
def Y4:Cz:=.for_ (.names [7,8]) (.zip (.p (.ix (.v 1) (.i 1)) (.meth (.v 0) 0))) Uc
def Ud:Ex:=.comp true 2 (.names [10,11]) (.zip (.p (.v 3) (.v 4))) (.call 25 (.p (.v 10) (.call 22 (.o (.v 11)))))
def aip:p7:=.c (.a 3 (.call 26 (.q (.v 0) (.v 1) (.v 2)))) (.c (.a 4 (.call 23 (.o (.v 3)))) (.c (.a 5 (.blt .tuple (.o Ud))) (.c (.a 6 (.lst .z)) (.q Y4 (.a 9 (.blt .tuple (.o Ua))) (.ret (.tup (.p (.tup (.p (.v 9) (.blt .tuple (.o (.v 6))))) (.v 5))))))))
def aiq:Fn:=⟨3,10,aip⟩
def Ny:Ex:=.comp true 1 (.name 2) (.val (.v 0)) (.ix (.v 1) (.v 2))
def Y5:p7:=.o (.ret (.blt .tuple (.o Ny)))
def Y6:Fn:=⟨2,2,Y5⟩
def Hz:Ex:=.comp true 1 (.name 8) (.val (.ix (.v 3) (.v 6))) (.ite (.cmp .eq (.v 8) (.ix (.v 7) (.i 1))) (.ix (.v 7) (.i 0)) (.v 8))
def Dg:p7:=.c (.a 5 (.bm .pop (.v 4) .z)) (.q (.a 6 (.ix (.v 5) (.i 0))) (.a 7 (.blt .By (.o (.Jl (.p (.ix (.ix (.v 3) (.v 6)) (.ix (.v 5) (.i 1))) (.ix (.ix (.v 3) (.v 6)) (.ix (.v 5) (.i 2)))))))) (.f (.cmp .eq (.l (.v 7)) (.i 2)) (.p (.asg (.sub (.v 3) (.v 6)) Hz) (.expr (.bm .extend (.v 4) (.o (.call 27 (.q (.v 0) (.v 1) (.v 5)))))))))
def Nz:Cz:=.whl (.tru (.v 4)) Dg
def N5:Ex:=.comp false 1 (.name 8) (.val (.ix (.v 1) (.i 0))) (.Wn (.v 8))
def Rp:p7:=.c (.a 3 N5) (.q (.a 4 (.blt .list (.o (.v 2)))) Nz (.ret (.v 3)))
def Rq:Fn:=⟨3,8,Rp⟩
def Gn:p7:=.o (.f (.cmp .eq (.ix (.v 5) (.i 0)) (.ix (.v 2) (.i 0))) (.o (.expr (.bm .append (.v 3) (.o (.tup (.q (.ix (.v 5) (.i 1)) (.ix (.v 4) (.ix (.v 2) (.i 1))) (.ix (.v 4) (.ix (.v 2) (.i 2))))))))))
def Qh:Cz:=.for_ (.names [4,5]) (.zip (.p (.ix (.v 1) (.i 1)) (.meth (.v 0) 0))) Gn
def U4:p7:=.q (.a 3 (.lst .z)) Qh (.ret (.v 3))
def U5:Fn:=⟨3,6,U4⟩
def Mi:Ex:=.comp true 1 (.name 13) (.val (.ix (.v 1) (.v 6))) (.ite (.cmp .eq (.v 13) (.v 12)) (.v 11) (.v 13))
def Cu:p7:=.c (.a 9 (.ix (.ix (.v 1) (.v 5)) (.v 8))) (.q (.a 10 (.ix (.ix (.v 1) (.v 6)) (.ix (.ix (.v 2) (.v 4)) (.v 8)))) (.f (.cmp .ne (.bm .get (.v 7) (.p (.v 9) (.v 10))) (.v 10)) (.c (.a 11 (.blt .min (.p (.ix (.v 7) (.v 9)) (.v 10)))) (.c (.a 12 (.blt .max (.p (.ix (.v 7) (.v 9)) (.v 10)))) (.c (.asg (.sub (.v 1) (.v 6)) Mi) (.q (.a 3 (.cst (.bl true))) (.a 7 .acr) .brk))))) (.asg (.sub (.v 7) (.v 9)) (.v 10)))
def Mj:Cz:=.for_ (.name 8) (.Qc (.l (.ix (.v 1) (.v 5)))) Cu
def Dz:p7:=.q (.asg (.tg (.names [5,6])) (.ix (.ix (.v 0) (.i 1)) (.v 4))) (.a 7 .acr) Mj
def Ml:Cz:=.for_ (.name 4) (.Qc (.l (.ix (.v 0) (.i 1)))) Dz
def G7:p7:=.p (.a 3 (.cst (.bl false))) Ml
def G8:Cz:=.whl (.v 3) G7
def Qi:p7:=.q (.a 3 (.cst (.bl true))) G8 (.ret (.v 1))
def Qj:Fn:=⟨3,13,Qi⟩
def Ia:Ex:=.comp true 1 (.name 19) (.val (.v 16)) (.l (.v 19))
def Ib:Ex:=.comp true 1 (.name 19) (.val (.v 18)) (.bm .index (.ix (.v 16) (.v 12)) (.o (.v 19)))
def Ie:Ex:=.comp true 1 (.name 19) (.val (.ix (.v 16) (.v 11))) (.ix (.ix (.v 13) (.v 12)) (.ix (.ix (.v 9) (.v 10)) (.v 19)))
def Eo:p7:=.q (.asg (.tg (.names [11,12])) (.ix (.ix (.v 1) (.i 1)) (.v 10))) (.a 18 Ie) (.expr (.bm .append (.v 17) (.o (.blt .tuple (.o Ib)))))
def N6:Cz:=.for_ (.name 10) (.Qc (.l (.ix (.v 1) (.i 1)))) Eo
def Ig:Ex:=.comp true 1 (.name 19) (.val (.v 13)) (.blt .By (.o (.v 19)))
def N7:Ex:=.comp true 1 (.name 19) (.val (.ix (.v 13) (.v 5))) (.ite (.cmp .eq (.v 19) (.v 15)) (.v 14) (.v 19))
def Dh:p7:=.c (.a 5 (.call 14 (.p (.v 0) (.ix (.v 1) (.i 0))))) (.q (.a 11 (.call 14 (.p (.v 0) (.i 7)))) (.a 12 (.call 14 (.p (.v 0) (.i 7)))) (.f (.cmp .lt (.blt .max (.p (.v 11) (.v 12))) (.l (.ix (.v 13) (.v 5)))) (.c (.a 14 (.blt .min (.p (.ix (.ix (.v 13) (.v 5)) (.v 11)) (.ix (.ix (.v 13) (.v 5)) (.v 12))))) (.q (.a 15 (.blt .max (.p (.ix (.ix (.v 13) (.v 5)) (.v 11)) (.ix (.ix (.v 13) (.v 5)) (.v 12))))) (.asg (.sub (.v 13) (.v 5)) N7) (.a 13 (.call 28 (.q (.v 1) (.v 13) (.v 9))))))))
def N8:Cz:=.for_ (.name 10) (.Qc (.call 14 (.p (.v 0) (.i 4)))) Dh
def Ih:Ex:=.comp false 1 (.name 19) (.val (.v 3)) (.Wn (.l (.v 19)))
def Ii:Ex:=.comp true 3 (.names [19,20,21]) (.val (.ix (.v 3) (.v 11))) (.bm .index (.ix (.v 3) (.v 12)) (.o (.tup (.q (.v 19) (.v 20) (.call 20 (.q (.v 1) (.v 21) (.v 10)))))))
def Ij:p7:=.p (.asg (.tg (.names [11,12])) (.ix (.ix (.v 1) (.i 1)) (.v 10))) (.expr (.bm .append (.v 9) (.o Ii)))
def Oa:Cz:=.for_ (.name 10) (.Qc (.l (.ix (.v 1) (.i 1)))) Ij
def Ik:Ex:=.comp true 1 (.name 19) (.val (.v 3)) (.l (.v 19))
def Ep:p7:=.o (.expr (.bm .append (.ix (.v 3) (.v 7)) (.o (.tup (.q (.v 4) (.v 5) (.v 8))))))
def Ob:Cz:=.for_ (.names [7,8]) (.val (.v 6)) Ep
def Il:Ex:=.comp true 1 (.name 19) (.val (.call 18 (.p (.v 1) (.v 5)))) (.tup (.p (.call 19 (.q (.v 1) (.v 5) (.v 19))) (.v 19)))
def Di:p7:=.q (.a 5 (.call 14 (.p (.v 0) (.ix (.v 1) (.i 0))))) (.a 6 Il) (.f (.cmp .lt (.bin .add (.blt .max (.o Ik)) (.l (.v 6))) (.i 8)) (.o Ob))
def Oc:Cz:=.for_ (.name 4) (.Qc (.call 14 (.p (.v 0) (.bin .add (.v 2) (.i 1))))) Di
def Mm:Ex:=.comp true 1 (.name 19) (.Qc (.ix (.v 1) (.i 0))) (.lst .z)
def Rr:p7:=.c (.a 3 Mm) (.c Oc (.c (.a 9 (.lst .z)) (.c Oa (.c (.a 13 Ih) (.c N8 (.c (.a 16 Ig) (.q (.a 17 (.lst .z)) N6 (.ret (.tup (.p (.blt .tuple (.o Ia)) (.blt .tuple (.o (.v 17)))))))))))))
def Rt:Fn:=⟨3,19,Rr⟩
def Qy:p7:=.p (.f (.cmp .lt (.v 2) (.i 0)) (.o (.ret (.v 1)))) (.ret (.ix (.ix (.ix (.v 0) (.i 1)) (.v 2)) (.v 1)))
def Qz:Fn:=⟨3,3,Qy⟩
def J9:Ex:=.comp true 2 (.names [2,3]) (.zip (.p (.v 0) (.v 1))) (.call 31 (.p (.v 2) (.v 3)))
def Od:p7:=.p (.f (.blt .isSeq (.o (.v 1))) (.q (.f (.or (.cmp .ne (.blt .isTuple (.o (.v 0))) (.blt .isTuple (.o (.v 1)))) (.cmp .ne (.blt .isList (.o (.v 0))) (.blt .isList (.o (.v 1))))) (.o (.ret (.cst (.bl false))))) (.f (.cmp .ne (.l (.v 0)) (.l (.v 1))) (.o (.ret (.cst (.bl false))))) (.ret (.blt .all (.o J9))))) (.ret (.and (.cmp .eq (.v 0) (.v 1)) (.cmp .eq (.blt .isBool (.o (.v 0))) (.blt .isBool (.o (.v 1))))))
def Oe:Fn:=⟨2,2,Od⟩
def Ar:p7:=.p (.a 6 (.call 14 (.p (.v 0) (.ix (.v 1) (.i 0))))) (.f (.cmp .gt (.ix (.ix (.v 2) (.i 0)) (.v 6)) (.i 0)) (.q (.a 7 (.call 14 (.p (.v 0) (.ix (.ix (.v 2) (.i 0)) (.v 6))))) (.expr (.bm .append (.v 4) (.o (.tup (.q (.v 6) (.v 7) (.call 14 (.p (.v 0) (.ix (.ix (.v 2) (.i 0)) (.v 6))))))))) (.f (.cmp .eq (.call 14 (.p (.v 0) (.i 5))) (.i 0)) (.o (.expr (.bm .append (.v 4) (.o (.ix (.v 4) (.i 0)))))))))
def Jw:Cz:=.for_ (.name 5) (.Qc (.call 14 (.p (.v 0) (.v 3)))) Ar
def Mp:p7:=.q (.a 4 (.lst .z)) Jw (.ret (.v 4))
def Mq:Fn:=⟨4,8,Mp⟩
def Im:Ex:=.comp true 1 (.name 12) (.val (.ix (.v 3) (.v 10))) (.ite (.cmp .inn (.v 12) (.v 11)) (.blt .min (.o (.v 11))) (.v 12))
def Ip:Ex:=.comp true 1 (.name 12) (.val (.Jl (.p (.v 7) (.v 8)))) (.ix (.ix (.v 3) (.v 10)) (.call 30 (.q (.v 1) (.v 12) (.v 9))))
def Er:p7:=.q (.a 10 (.call 19 (.q (.v 0) (.v 6) (.v 9)))) (.a 11 Ip) (.asg (.sub (.v 3) (.v 10)) Im)
def Og:Cz:=.for_ (.name 9) (.val (.call 18 (.p (.v 0) (.v 6)))) Er
def Ir:p7:=.o Og
def Oh:Cz:=.for_ (.names [6,7,8]) (.val (.v 2)) Ir
def Iu:Ex:=.comp true 1 (.name 12) (.val (.v 3)) (.blt .list (.o (.v 12)))
def Es:p7:=.q (.a 5 Iu) Oh (.a 4 (.cmp .ne (.v 5) (.v 3)))
def Oi:Cz:=.whl (.v 4) Es
def Oj:Ex:=.comp false 1 (.name 12) (.val (.ix (.v 1) (.i 0))) (.Wn (.v 12))
def Ru:p7:=.c (.a 3 Oj) (.q (.a 4 (.cst (.bl true))) Oi (.ret (.v 3)))
def Rv:Fn:=⟨3,12,Ru⟩
def Iv:Ex:=.comp true 1 (.name 13) (.val (.v 4)) (.l (.v 13))
def Iw:Ex:=.comp true 1 (.name 13) (.val (.v 11)) (.bm .index (.v 12) (.o (.v 13)))
def Iz:p7:=.o (.expr (.bm .append (.v 10) (.o (.blt .tuple (.o Iw)))))
def Ol:Cz:=.for_ (.names [11,12]) (.zip (.p (.v 3) (.v 4))) Iz
def Ja:Ex:=.comp true 1 (.name 13) (.val (.v 9)) (.bm .index (.ix (.v 4) (.v 8)) (.o (.v 13)))
def Jb:Ex:=.comp true 1 (.name 13) (.val (.ix (.v 4) (.v 7))) (.ix (.ix (.v 3) (.v 8)) (.ix (.ix (.ix (.v 1) (.i 1)) (.v 6)) (.v 13)))
def Et:p7:=.q (.asg (.tg (.names [7,8])) (.ix (.ix (.v 0) (.i 1)) (.v 6))) (.a 9 Jb) (.expr (.bm .append (.v 5) (.o (.blt .tuple (.o Ja)))))
def Om:Cz:=.for_ (.name 6) (.Qc (.l (.ix (.v 0) (.i 1)))) Et
def Jc:Ex:=.comp true 1 (.name 13) (.val (.v 3)) (.blt .By (.o (.v 13)))
def Rx:p7:=.c (.a 3 (.call 33 (.q (.v 0) (.v 1) (.v 2)))) (.c (.a 4 Jc) (.c (.a 5 (.lst .z)) (.c Om (.q (.a 10 (.lst .z)) Ol (.ret (.tup (.p (.tup (.p (.blt .tuple (.o Iv)) (.blt .tuple (.o (.v 5))))) (.blt .tuple (.o (.v 10))))))))))
def Ry:Fn:=⟨3,13,Rx⟩
def Gg:Ex:=.comp true 3 (.names [9,10,11]) (.val (.v 7)) (.tup (.q (.v 9) (.ix (.ix (.v 6) (.v 9)) (.v 10)) (.ix (.ix (.v 6) (.v 9)) (.v 11))))
def Oo:p7:=.c (.asg (.tg (.names [5,6])) (.call 34 (.q (.v 1) (.v 3) (.v 4)))) (.q (.a 7 (.call 32 (.c (.v 0) (.q (.v 1) (.v 3) (.i 2))))) (.a 8 Gg) (.ret (.call 31 (.p (.ix (.call 24 (.q (.v 2) (.v 5) (.v 8))) (.i 0)) (.ix (.call 34 (.q (.v 1) (.v 3) (.bin .add (.v 4) (.v 7)))) (.i 0))))))
def Oq:Fn:=⟨5,9,Oo⟩
def aav:Ex:=.comp true 1 (.name 12) (.val (.ix (.ix (.v 4) (.i 0)) (.i 0))) (.acs (.v 12))
def V0:p7:=.c (.a 9 (.blt .list (.o (.v 8)))) (.q (.a 10 (.call 24 (.q (.v 3) (.v 7) (.v 9)))) (.f (.or (.not (.call 31 (.p (.v 10) (.call 34 (.q (.v 2) (.v 7) (.v 8)))))) (.cmp .ne (.v 9) (.v 8))) (.o (.ret (.cst (.bl false))))) (.f (.not (.call 35 (.c (.v 1) (.c (.v 2) (.q (.v 3) (.v 7) (.v 8)))))) (.o (.ret (.cst (.bl false))))))
def air:Cz:=.for_ (.names [7,8]) (.zip (.p (.v 4) (.v 5))) V0
def V1:p7:=.o air
def ais:Cz:=.for_ (.name 6) (.Qc (.i 2)) V1
def aaw:Ex:=.comp true 1 (.name 12) (.val (.v 4)) (.call 32 (.c (.v 1) (.q (.v 2) (.v 12) (.i 6))))
def azh:p7:=.c (.a 1 (.call 13 (.p (.v 0) (.i 0)))) (.c (.a 2 (.call 17 (.o (.v 1)))) (.c (.a 3 (.make 2 (.q (.ix (.v 2) (.i 0)) (.ix (.v 2) (.i 1)) (.blt .dict (.o (.ix (.v 2) (.i 2))))))) (.c (.a 4 (.Jl (.p (.call 29 (.q (.v 1) (.v 2) (.i 4))) (.call 29 (.q (.v 1) (.v 2) (.i 4)))))) (.c (.a 5 aaw) (.q ais (.a 11 (.blt .tuple (.o aav))) (.ret (.call 31 (.p (.call 24 (.q (.v 3) (.ix (.v 4) (.i 0)) (.Jl .z))) (.tup (.p (.ix (.v 4) (.i 0)) (.v 11)))))))))))
def aoj:Fn:=⟨1,12,azh⟩
def prog:Prog:=⟨[Kl,Ah,Ah,Ah,Ah,Ah,Jt,Mf,Fv,Np,Qe,Nr,Hv,La,Nu,Dq,Qg,Nx,U3,Qx,Gm,Ah,Wx,aio,aiq,Y6,Rq,U5,Qj,Rt,Qz,Oe,Mq,Rv,Ry,Oq,aoj],[⟨0,[]⟩,⟨0,[]⟩,⟨0,[(0,2)]⟩]⟩
end
abbrev PW(m:Nat):Hh:=⟨prog.call m,prog.cls⟩
noncomputable abbrev sR(n:Nat):Option D:=some (.ref n)
noncomputable abbrev sI(i:Int):Option D:=some (.int i)
set_option genInjectivity true in
structure F where
 a:Nat
 b:Nat
 r:List Nat
 deriving DecidableEq
noncomputable def nD(x:Nat):D:=.int (x:Int)
def Ff(r:Y3):D:=.tup (r.map nD)
def F.toD(f:F):D:=.tup [.int f.a,.int f.b,Ff f.r]
def ait(x y:Nat):decide ((x:Int)=(y:Int))=decide (x=y):=by
 by_cases h:x=y
 .simp[h]
 .have:¬((x:Int)=(y:Int)):=by lia
  simp[h,this]
def Lf(M:dh)(n x y:Nat):Jm M (n+1) (.int x) (.int y)=some (decide (x=y)):=by rw[aao,ait]
theorem V2(M:dh)(n:Nat):∀r s:List Nat,Qs (Jm M (n+1)) (r.map nD) (s.map nD)=some (decide (r=s))
 |[],[]=>by simp[Qs]|[],_::_=>by simp[Qs]|_::_,[]=>by simp[Qs]
 |x::r,y::s=>by
  rw[ig,ig,Df (a:=nD x) (b:=nD y) (Lf M n x y) (V2 M n r s)]
  by_cases h:x=y<;>simp[h]
def agj(M:dh)(r s:Y3):yf M (Ff r) (Ff s)=some (decide (r=s)):=V2 M 4 r s
def bfb(M:dh)(f g:F):yf M f.toD g.toD=some (decide (f=g)):=by obtain⟨a,b,r⟩:=f;obtain⟨c,d,s⟩:=g;have e:Jm M 5 (Ff r) (Ff s)=some (decide (r=s)):=V2 M 3 r s;show Qs (Jm M 5) [.int a,.int b,Ff r] [.int c,.int d,Ff s]=_;rw[Df (Lf M 4 a c) (Df (Lf M 4 b d) (Df e (show Qs (Jm M 5) [] []=some true from rfl)))];simp
theorem aok(M:dh)(g:F):∀fs:List F,Qt M g.toD (fs.map F.toD)=some (fs.map λf=>decide (f=g))
 |[]=>rfl|f::fs=>by simp only[ig,Qt,bfb,aok M g fs]
def aol(M:dh)(g:F)(fs:List F):memD M g.toD (fs.map F.toD)=some (decide (g∈fs)):=by
 rw[memD,aok,m8]
 congr 1
 induction fs with
 |nil=>simp
 |cons f fs Z =>
  by_cases h:f=g
  .simp[h]
  .simp only[ig,Bg,Z,cj,id]
   simp[h,j0 h]
noncomputable def pos(g:F):List F->Nat
 |[]=>0|f::fs=>if f=g then 0 else pos g fs+1
def a8l(M:dh)(g:F)(fs:List F):acu M g.toD (fs.map F.toD)=if g∈fs then some (pos g fs) else none:=by
 rw[acu,aok,qp]
 induction fs with
 |nil=>simp
 |cons f fs G =>
  rw[ig,List.findIdx?_cons,G,pos]
  by_cases h:f=g
  .simp[h]
  .by_cases Z:g∈fs<;>simp[h,j0 h,Z]
theorem V3(g:F):∀{fs:List F},g∈fs->fs[pos g fs]?=some g
 |f::fs,h=>by
  by_cases e:f=g
  .simp[pos,e]
  .have:g∈fs:=by
    rcases cj.mp h with q|q
    .exact absurd q.symm e
    .exact q
   simp[pos,e,V3 g this]
def agk(Z:fs.Nodup)(h:fs[i]?=some f):pos f fs=i:=by have m:f∈fs:=ao h;have g:=V3 f m;obtain⟨R,U⟩:=ak.mp h;obtain⟨l2,G⟩:=ak.mp g;exact(yg Z).mp (G.trans U.symm)
noncomputable def F.comp(f g:F):F:=⟨f.a,g.b,f.r.map λx=>g.r.getD x 0⟩
def F.P0(f:F):Prop:=f.a=f.b/\f.r=List.range f.r.length
instance (f:F):Decidable f.P0:=inferInstanceAs (Decidable (_/\_))
structure Yc(sz:Nat->Nat)(f:F):Prop where
 a:f.a<3
 b:f.b<3
 len:f.r.length=sz f.a
 ran:∀x∈f.r,x<sz f.b
def Sz(sz:Nat->Nat):Prop:=∀k,1<=sz k/\sz k<=4
def Good(sz:Nat->Nat)(fs:List F):Prop:=∀f∈fs,Yc sz f
def getD_mem{r:Y3}(h:x<r.length):r.getD x 0∈r:=by rw[bz,bf h];exact nq h
theorem Yc.comp(Z:Yc sz f)(G:Yc sz g)(h:f.b=g.a):Yc sz (f.comp g):=by
 refine⟨Z.a,G.b,by simp[F.comp,Z.len],λx U=>?_⟩;obtain⟨y,R,rfl⟩:=bc.mp U;have:y<g.r.length:=by rw[G.len,<- h];exact Z.ran y R
 exact G.ran _ (getD_mem this)
def Jx(r:Y3):(List.range r.length).map (λx=>r.getD x 0)=r:=by
 apply uo;intro i
 by_cases h:i<r.length
 .simp[h,km h]
 .simp[Nat.le_of_not_lt h,gr]
def agl(G:Yc sz f)(U:Yc sz g)(R:f.b=g.a):(f.comp g).comp h=f.comp (g.comp h):=by
 simp only[F.comp,o4,F.mk.injEq,true_and];apply jc;intro x Z;have:x<g.r.length:=by rw[U.len,<- R];exact G.ran x Z
 simp[this]
noncomputable def idF(sz:Nat->Nat)(k:Nat):F:=⟨k,k,List.range (sz k)⟩
def aax(Z:Yc sz f)(h:f.P0):f=idF sz f.a:=by obtain⟨a,b,r⟩:=f;obtain⟨U,G⟩:=h;have:=Z.len;simp only[idF] at *;subst U;rw[<- this,<- G]
def id_comp(Z:Yc sz f):(idF sz f.a).comp f=f:=by obtain⟨a,b,r⟩:=f;have:=Z.len;simp only[idF,F.comp] at *;rw[<- this,Jx]
def comp_id(G:Yc sz f):f.comp (idF sz f.b)=f:=by
 obtain⟨a,b,r⟩:=f;have:=G.ran;simp only[idF,F.comp,F.mk.injEq,true_and] at *
 conv=>rhs;rw[<- List.map_id r]
 apply jc;intro x Z;simp[km (this x Z)]
def Ot(fs:List F):Prop:=∀f∈fs,∀g∈fs,f.b=g.a->f.comp g∈fs\/(f.comp g).P0
def call_of(U:1<=m)(Z:prog.fns[f]?=some G):prog.call m f ds M=G.run (PW (m-1)) ds M:=by obtain⟨n,rfl⟩:∃n,m=n+1:=⟨m-1,by lia⟩;simp[Prog.call,Z]
def a05(n:Int)(f:Bool):Prop:=0<=n/\(f=false->n<2147483647)
def Q0(t:Nat)(f:Bool)(M:dh):Prop:=∃n,M[t]?=some (.lst [.int n,.bl f])/\a05 n f
structure St(t:Nat)(f:Bool)(M M':dh):Prop where
 len:M.length<=M'.length
 has:Q0 t f M'
 keep:∀(a:Nat)(o:MO),a≠t->M[a]?=some o->M'[a]?=some o
def St.trans(a:St t f M Z)(b:St t f Z M2):St t f M M2 :=
 ⟨iu a.len b.len,b.has,λx o n h=>b.keep x o n (a.keep x o n h)⟩
def St.of(h:Q0 t f M)(k:yd M M'):St t f M M' :=
 ⟨k.len,let ⟨n,a,b⟩:=h;⟨n,k _ _ a,b⟩,λa o _ e=>k a o e⟩
def Bb(hm:1<=m)(hs:Q0 t f M)(Z:0<many)(hq:many<1073741824) :
 ∃(v:Nat)(G:dh),prog.call m 14 [.ref t,.int many] M=.ok (.int v) G/\(v:Int)<many/\St t f M G/\G.length=M.length:=by
 obtain⟨n,h,U⟩:=hs;rw[call_of hm rfl];have hl:=jx h;have g0:=Dc hl (i:=0) (by decide) rfl;have g1:=Dc hl (i:=1) (by decide) rfl;have fin:∀n':Int,a05 n' f->St t f M (M.set t (.lst [.int n',.bl f])):=λn' o=>⟨by simp,⟨n',vo h,o⟩,λa u e q=>by rw[o7 (j0 e)];exact q⟩
 have qq:many≠0:=by lia
 have c1:∀y:Int,∃v:Nat,y%many=(v:Int)/\(v:Int)<many:=λy=>by have a:=Bo y qq;have b:=Ab y Z;exact⟨(y%many).toNat,by lia,by lia⟩
 cases f with
 |true =>
  obtain⟨v,e,l⟩:=c1 n;refine⟨v,_,?_,l,fin (n / many) ⟨Int.ediv_nonneg U.1 (by lia),by simp⟩,by simp⟩;simp[Fn.run,Nu,Nt,g0,g1,Z,Yy _ _ Z hq,aap h,e]
 |false =>
  have h1:=U.1;have h2:=U.2 rfl;obtain⟨n',R⟩:∃n',(n*48271+29)%2147483647=n':=⟨_,rfl⟩;have e1:0<=n':=R▸Bo _ (by decide)
  have e2:n'<2147483647:=R▸Ab _ (by decide)
  obtain⟨x,ex⟩:∃x,(n'*n'+39373*n'+7)%2147483629=x:=⟨_,rfl⟩;have x1:0<=x:=ex▸Bo _ (by decide)
  have x2:x<2147483629:=ex▸Ab _ (by decide)
  obtain⟨y,ey⟩:∃y,(x*x+16807*x)%2147483587=y:=⟨_,rfl⟩;obtain⟨v,e,l⟩:=c1 (y / 8);refine⟨v,_,?_,l,fin n' ⟨e1,λ_=>e2⟩,by simp⟩;have k:=vo (o:=.lst [.int n',.bl false]) h;have k0:=Dc (jx k) (i:=0) (by decide) rfl;simp[Fn.run,Nu,Nt,g0,g1,Z,aap h,Nj n 48271 (.inr (by decide)),R,k0,Nj n' n' (.inl (by lia)),Nj 39373 n' (.inl (by decide)),ex,Nj x x (.inl (by lia)),Nj 16807 x (.inl (by decide)),ey,Yy _ 8 (by decide) (by decide),e]
def aiu{k:Nat}{Z:Xs}(U:1<=m):prog.call m 12 [.fz (Z.map D.int),.int k] M=.ok (.int (Z.getD k 0)) M:=by
 rw[call_of U rfl]
 by_cases G:k<Z.length
 .simp[Fn.run,Hv,Hu,aoe,G,a8j (ds:=Z.map D.int) (i:=k) (x:=.int (Z.getD k 0)) q_ (by simp[G])]
 .simp[Fn.run,Hv,Hu,aoe,G]
def aom{k:Nat}{ns:Xs}(Z:2<=m):∃n f,prog.call m 13 [.fz (ns.map D.int),.int k] M=.ok (.ref M.length) (M++[.lst [.int n,.bl f]])/\a05 n f:=by
 rw[call_of (a_ (by decide) Z) rfl]
 by_cases h:(10:Int) ^ 18<=ns.getD k 0
 .refine⟨ns.getD k 0-10 ^ 18,true,?_,by lia,by simp⟩
  have G:(1000000000000000000:Int)<=ns[k]?.getD 0:=by simpa using h
  simp[Fn.run,La,K9,aiu (show 1<=m-1 by exact r_ Z),G,MW.new]
 .refine⟨ns.getD k 0%2147483647,false,?_,Bo _ (by decide),λ_=>Ab _ (by decide)⟩
  have G:¬(1000000000000000000:Int)<=ns[k]?.getD 0:=by simpa using h
  simp[Fn.run,La,K9,aiu (show 1<=m-1 by exact r_ Z),G,MW.new]
def aiv(n:Nat)(i:Nat)(M:dh)(h:i<n):(Src.con ((List.range n).map λ(k:Nat)=>D.int (k:Int))).item i M=some (.int i):=by simp[Src.item,km h]
def aiw(n:Nat):(Src.con ((List.range n).map λ(k:Nat)=>D.int (k:Int))).len=n:=by simp[Src.len]
def aon{K:Nat}(hm:1<=m)(hs:Q0 t f M)(hK:K<=3) :
 ∃(G:Y3)(Z:dh),Hy.den (PW m) [sR t,a1,a2,a3,a4,a5,sI K,a7,a8,a9,a10,a11] M=.ok (.vl (G.map nD)) Z/\G.length=K/\(∀x∈G,1<=x/\x<=3)/\St t f M Z/\Z.length=M.length:=by
 unfold Hy;rw[Nh];have U:K<=100000:=a_ hK (by decide)
 simp[U];refine hG λ_ _k=>?_
 have h:=Ht (fin:=λ_=>true) (item:=(Src.con ((List.range K).map λ(k:Nat)=>D.int (k:Int))).item)
  (body:=λd M=>((prog.call m 14 [D.ref t,D.int 3] M).bind λy M2=>Hk .add (.int 1) y M2).bind λx Z=>Res.ok (some x) Z)
  (λi xs Z=>∃G:List Nat,xs=G.map nD/\G.length=i/\(∀x∈G,1<=x/\x<=3)/\St t f M Z/\Z.length=M.length) (n:=K)
  (λi xs Z hi hI=>by
   refine hG λ_ _k=>?_
   obtain⟨G,rfl,rfl,R,h2,h3⟩:=hI;obtain⟨v,M2,e,l,s2,l2⟩:=Bb hm h2.has (many:=3) (by decide) (by decide);apply _k;refine⟨.int G.length,sI (1+v),M2,aiv K _ Z hi,by simp[e],G++[1+v],by simp[nD],by simp,λx hx=>?_,h2.trans s2,l2.trans h3⟩;rcases dw.mp hx with q|q
   .exact R x q
   .have:x=1+v:=by simpa using q
    lia) (λ_ _ _=>rfl) K 0 [] M (vd _) ⟨[],rfl,rfl,by simp,St.of hs (yd.refl M),rfl⟩
 obtain⟨ys,Z,e,G,R,h2,h3,h4,h5⟩:=h;apply _k;refine⟨G,Z,?_,h2,h3,h4,h5⟩;rw[Ai,aiw,dg U,show(Src.con ((List.range _).map λ(k:Nat)=>D.int (k:Int))).fin=λ_=>true from rfl,e];simp at R;simp[R]
def a06{G:Y3}(hm:1<=m)(hs:Q0 t f M)(U:∀x∈G,1<=x/\x<=3)(hi:i<G.length)(hj:j<G.length) :
 ∃(r:Y3)(Z:dh),Hw.den (PW m) [sR t,a1,a2,a3,a4,a5,a6,some (.vl (G.map nD)),a8,a9,sI i,sI j] M=.ok (.vl (r.map nD)) Z /\
  r.length=G.getD i 0/\(∀x∈r,x<G.getD j 0)/\St t f M Z/\Z.length=M.length:=by
 unfold Hw;rw[Nh];have gi:=Dc (M:=M) (d:=.vl (G.map nD)) (i:=i) (x:=.int ((G.getD i 0:Nat):Int)) rfl q_ (by simp[hi,nD]);have gj:∀Z,zg (.vl (G.map nD)) (.int j) Z=some (.int ((G.getD j 0:Nat):Int)):=λZ=>Dc rfl q_ (by simp[hj,nD])
 have bi:=U _ (getD_mem hi);have bj:=U _ (getD_mem hj);generalize ea:G.getD i 0=a at *;generalize eb:G.getD j 0=b at *;have ha:a<=100000:=a_ bi.2 (by decide)
 simp[gi,gj,ha];refine hG λ_ _k=>?_
 have h:=Ht (fin:=λ_=>true) (item:=(Src.con ((List.range a).map λ(k:Nat)=>D.int (k:Int))).item)
  (body:=λd M=>(prog.call m 14 [D.ref t,D.int b] M).bind λx Z=>Res.ok (some x) Z)
  (λi xs Z=>∃r:List Nat,xs=r.map nD/\r.length=i/\(∀x∈r,x<b)/\St t f M Z/\Z.length=M.length) (n:=a)
  (λi xs Z hi hI=>by
   refine hG λ_ _k=>?_
   obtain⟨r,rfl,rfl,R,h2,U⟩:=hI;obtain⟨v,M2,e,l,s2,l2⟩:=Bb hm h2.has (many:=b) (m_ bj.1) (m_ (c_ bj.2 (by decide)));apply _k;refine⟨.int r.length,sI v,M2,aiv a _ Z hi,by simp[e],r++[v],by simp[nD],by simp,λx hx=>?_,h2.trans s2,l2.trans U⟩;rcases dw.mp hx with q|q
   .exact R x q
   .have:x=v:=by simpa using q
    exact c_ (f_ this) (o_ l)) (λ_ _ _=>rfl) a 0 [] M (vd _) ⟨[],rfl,rfl,by simp,St.of hs (yd.refl M),rfl⟩
 obtain⟨ys,Z,e,r,R,h2,U,h4,h5⟩:=h;apply _k;refine⟨r,Z,?_,h2,U,h4,h5⟩;rw[Ai,aiw,dg ha,show(Src.con ((List.range _).map λ(k:Nat)=>D.int (k:Int))).fin=λ_=>true from rfl,e];simp at R;simp[R]
def aay{v:Nat}{U:Y3}(hm:1<=m)(hs:Q0 t f M)(hK:U.length=K)(qv:1<=K)(qq:K<=3)(h3:∀x∈U,1<=x/\x<=3)(hp:M[p]?=some (.lst []))(Z:p≠t) :
 ∃(fs:List F)(qk:Env)(G:dh),Hx.den (PW m) [sR t,sI v,none,none,none,none,sI K,some (.vl (U.map nD)),sR p,a9,a10,a11] M=.ok (.next,qk) G /\
  qk[8]?=some (sR p)/\G[p]?=some (.lst (fs.map F.toD))/\fs.length<=3/\Good (λk=>U.getD k 1) fs/\M.length<=G.length/\Q0 t f G/\(∀(a:Nat)(o:MO),a≠t->a≠p->M[a]?=some o->G[a]?=some o):=by
 refine hG λ_ _k=>?_
 obtain⟨w,M1,e1,l1,s1,q5⟩:=Bb hm hs (many:=4) (by decide) (by decide);apply _k;unfold Hx;rw[T5];have hw:w<=100000:=e_ (b_ (o_ l1) (by decide))
 simp[e1,hw];refine hG λ_ _k=>?_
 obtain⟨qk,G,e,fs,b9,R,Cd,rfl,h1,h2,h4,h5,h6,h7⟩:=aas (n:=w) (body:=λd ρ M=>Em.den (PW m) (ρ.set 9 (some d)) M)
  (λi ρ G=>∃(fs:List F)(b9 R Cd:Option D),ρ=[sR t,sI v,none,none,none,none,sI K,some (.vl (U.map nD)),sR p,b9,R,Cd] /\
   G[p]?=some (.lst (fs.map F.toD))/\fs.length=i/\Good (λk=>U.getD k 1) fs/\M.length<=G.length/\Q0 t f G/\(∀(a:Nat)(o:MO),a≠t->a≠p->M[a]?=some o->G[a]?=some o))
  (M:=M1) ⟨[],a9,a10,a11,rfl,by simpa using s1.keep p _ Z hp,rfl,by intro f hf;simp at hf,s1.len,s1.has,λa o na _ h=>s1.keep a o na h⟩
  (λi ρ M2 hi hI=>by
   refine hG λ_ _k=>?_
   obtain⟨fs,b9,R,Cd,rfl,g1,g2,g3,g4,g5,g6⟩:=hI;obtain⟨x,M3,ex,lx,sx,q3⟩:=Bb hm g5 (many:=K) (m_ qv) (m_ (c_ qq (by decide)));obtain⟨y,M4,ey,ly,sy,q0⟩:=Bb hm sx.has (many:=K) (m_ qv) (m_ (c_ qq (by decide)));obtain⟨r,M5,er,lr,rr,sr,q4⟩:=a06 (a1:=some (.int v)) (a2:=none) (a3:=none) (a4:=none) (a5:=none) (a6:=some (.int K)) (a8:=some (.ref p)) (a9:=some (.int i)) (i:=x) (j:=y) hm sy.has h3 (b_ (o_ lx) (g_ hK)) (b_ (o_ ly) (g_ hK));have gp:=sr.keep p _ Z (sy.keep p _ Z (sx.keep p _ Z g1));apply _k;have hl:(fs.map F.toD).length<100000:=by rw[cz];exact c_ (f_ g2) (b_ hi hw)
   refine⟨.next,_,M5.set p (.lst (fs.map F.toD++[F.toD ⟨x,y,r⟩])),?_,.inl rfl,fs++[⟨x,y,r⟩],sI i,sI x,sI y,rfl,?_,by simp[g2],?_,?_,?_,?_⟩
   .simp[Em,ex,ey,er,Dm gp hl,Ea (sy.keep p _ Z (sx.keep p _ Z g1)),o8,F.toD,Ff]
   .rw[vo gp];simp
   .intro f hf
    rcases dw.mp hf with q|q
    .exact g3 f q
    .have:f=⟨x,y,r⟩:=by simpa using q
     subst this;refine⟨by show x<3;exact b_ (o_ lx) qq,by show y<3;exact b_ (o_ ly) qq,?_,?_⟩
     .show r.length=U.getD x 1
      rw[lr];simp[bz,bf (show x<U.length by exact b_ (o_ lx) (g_ hK))]
     .intro z hz
      have:=rr z hz;show z<U.getD y 1
      simp[bz,bf (show y<U.length by exact b_ (o_ ly) (g_ hK))] at this ⊢;exact this
   .have:=sr.len;have:=sy.len;have:=sx.len;simp;exact a_ g4 (a_ (g_ q3) (a_ (g_ q0) (g_ q4)))
   .obtain⟨n',q1,q2⟩:=sr.has
    exact⟨n',by rw[o7 Z];exact q1,q2⟩
   .intro a o na nb h
    rw[o7 (j0 nb)];exact sr.keep a o na (sy.keep a o na (sx.keep a o na (g6 a o na nb h))))
 have e':Ce (Src.con ((List.range w).map λ(k:Nat)=>D.int (k:Int))).fin (Src.con ((List.range w).map λ(k:Nat)=>D.int (k:Int))).item (λd ρ M=>Em.den (PW m) (ρ.set 9 (some d)) M) (Src.con ((List.range w).map λ(k:Nat)=>D.int (k:Int))).len 0 [sR t,sI v,none,none,none,none,sI K,some (.vl (U.map nD)),sR p,a9,a10,a11] M1=_:=e;apply _k;exact⟨fs,[sR t,sI v,none,none,none,none,sI K,some (.vl (U.map nD)),sR p,b9,R,Cd],G,e',rfl,h1,by lia,h4,h5,h6,h7⟩
def aoo(hm:2<=m)(hs:Q0 t f M):∃(d:D)(M':dh)(fs:List F)(sz:Nat->Nat),prog.call m 15 [.ref t] M=.ok d M'/\du M' d=some (fs.map F.toD)/\(∀n,d=.ref n->n≠t)/\Sz sz/\Good sz fs/\fs.length<=3/\St t f M M':=by
 have U:1<=m-1:=r_ hm
 obtain⟨v,M1,e1,l1,s1,q7⟩:=Bb U hs (many:=12) (by decide) (by decide);rw[call_of (a_ U C_) rfl]
 by_cases hv:v<7
 .have R:(v:Int)<7:=m_ hv
  have G:∀(fs:List F)(sz:Nat->Nat),Dq.run (PW (m-1)) [.ref t] M=.ok (.vl (fs.map F.toD)) M1->Sz sz->Good sz fs->fs.length<=3 ->
   ∃(d:D)(M':dh)(fs:List F)(sz:Nat->Nat),Dq.run (PW (m-1)) [.ref t] M=.ok d M'/\du M' d=some (fs.map F.toD)/\(∀n,d=.ref n->n≠t)/\Sz sz/\Good sz fs/\fs.length<=3/\St t f M M' :=
   λfs sz a b c d=>⟨_,M1,fs,sz,a,rfl,λn h=>(by cases h),b,c,d,s1⟩
  have run:∀d,zg (.vl [.vl [.tup [.int 0,.int 1,.tup [.int 0,.int 1]],.tup [.int 0,.int 1,.tup [.int 1,.int 0]]],.vl [.tup [.int 0,.int 1,.tup [.int 0,.int 0,.int 1,.int 1]],.tup [.int 0,.int 1,.tup [.int 0,.int 1,.int 0,.int 1]],.tup [.int 1,.int 0,.tup [.int 0,.int 3]]],
   .vl [.tup [.int 0,.int 0,.tup [.int 1,.int 0]]],.vl [.tup [.int 0,.int 0,.tup [.int 1,.int 2,.int 0]]],.vl [.tup [.int 0,.int 0,.tup [.int 0,.int 0]]],.vl [],.vl [.tup [.int 0,.int 1,.tup [.int 0,.int 1]],.tup [.int 1,.int 2,.tup [.int 0,.int 0,.int 1]]]]) (.int v) M1=some d ->
   Dq.run (PW (m-1)) [.ref t] M=.ok d M1:=λd hd=>by simp[Fn.run,Dq,Lb,e1,R,hd]
  have cs:v=0\/v=1\/v=2\/v=3\/v=4\/v=5\/v=6:=by lia
  rcases cs with rfl|rfl|rfl|rfl|rfl|rfl|rfl
  .refine G [⟨0,1,[0,1]⟩,⟨0,1,[1,0]⟩] (λ_=>2) ?_ (λk=>by simp) (λf Z=>?_) (by decide)
   .exact run _ rfl
   .simp at Z;rcases Z with rfl|rfl<;>exact⟨by decide,by decide,by decide,by decide⟩
  .refine G [⟨0,1,[0,0,1,1]⟩,⟨0,1,[0,1,0,1]⟩,⟨1,0,[0,3]⟩] (λk=>if k=0 then 4 else 2) ?_ (λk=>by dsimp only;split<;>omega) (λf Z=>?_) (by decide)
   .exact run _ rfl
   .simp at Z;rcases Z with rfl|rfl|rfl<;>exact⟨by decide,by decide,by decide,by decide⟩
  .refine G [⟨0,0,[1,0]⟩] (λ_=>2) ?_ (λk=>by simp) (λf Z=>?_) (by decide)
   .exact run _ rfl
   .simp at Z;subst Z;exact⟨by decide,by decide,by decide,by decide⟩
  .refine G [⟨0,0,[1,2,0]⟩] (λ_=>3) ?_ (λk=>by simp) (λf Z=>?_) (by decide)
   .exact run _ rfl
   .simp at Z;subst Z;exact⟨by decide,by decide,by decide,by decide⟩
  .refine G [⟨0,0,[0,0]⟩] (λ_=>2) ?_ (λk=>by simp) (λf Z=>?_) (by decide)
   .exact run _ rfl
   .simp at Z;subst Z;exact⟨by decide,by decide,by decide,by decide⟩
  .refine G [] (λ_=>1) ?_ (λk=>by simp) (λf Z=>?_) (by decide)
   .exact run _ rfl
   .simp at Z
  .refine G [⟨0,1,[0,1]⟩,⟨1,2,[0,0,1]⟩] (λk=>if k=1 then 3 else 2) ?_ (λk=>by dsimp only;split<;>exact⟨by decide,by decide⟩) (λf Z=>?_) (by decide)
   .exact run _ rfl
   .simp at Z;rcases Z with rfl|rfl<;>exact⟨by decide,by decide,by decide,by decide⟩
 .have R:¬(v:Int)<7:=by lia
  obtain⟨u,M2,e2,l2,s2,qk⟩:=Bb U s1.has (many:=3) (by decide) (by decide);obtain⟨K,eK,qv⟩:∃K:Nat,(1:Int)+(u:Int)=(K:Int)/\K=1+u:=⟨1+u,by lia,rfl⟩;obtain⟨Ka,M3,e3,l3,r3,s3,q0⟩:=aon (a1:=some (.int v)) (a2:=none) (a3:=none) (a4:=none) (a5:=none) (a7:=none) (a8:=none) (a9:=none) (a10:=none) (a11:=none) (K:=K) U s2.has (by lia);have qq:t<M3.length:=by obtain⟨n,h,_⟩:=s3.has;exact vh h
  have h4:Q0 t f (M3++[.lst []]):=by obtain⟨n,h,o⟩:=s3.has;exact⟨n,qu h,o⟩
  obtain⟨fs,zq,M5,e5,q8,q1,q2,q3,q4,q5,q6⟩:=aay (v:=v) (K:=K) (p:=M3.length) (a9:=none) (a10:=none) (a11:=none) U h4 l3 (by lia) (by lia) r3 (by simp) (i_ qq);refine⟨.ref M3.length,M5,fs,λk=>Ka.getD k 1,?_,jx q1,λn h=>by cases h;exact i_ qq,λk=>?_,q3,q2,?_⟩
  .simp[Fn.run,Dq,Lb,e1,R,e2,eK,e3,MW.new,e5,q8]
  .show 1<=Ka.getD k 1/\Ka.getD k 1<=4
   by_cases h:k<Ka.length
   .have:=r3 _ (getD_mem h)
    simp[bz,h] at this ⊢;exact⟨this.1,a_ this.2 (by decide)⟩
   .simp[bz,h]
  .refine s1.trans (s2.trans (s3.trans ⟨?_,q5,λa o na h=>q6 a o na ?_ (qu h)⟩))
   .have:=q4;simp at this;lia
   .have:=vh h;exact h_ this
structure Up(p:Nat)(M M':dh):Prop where
 len:M'.length=M.length
 oth:∀a:Nat,a≠p->M'[a]?=M[a]?
def Up.refl(p:Nat)(M:dh):Up p M M:=⟨rfl,λ_ _=>rfl⟩
theorem Up.trans(a:Up p M Z)(b:Up p Z M2):Up p M M2:=⟨b.len.trans a.len,λx h=>(b.oth x h).trans (a.oth x h)⟩
theorem Up.set(p:Nat)(M:dh)(o:MO):Up p M (M.set p o):=⟨by simp,λa h=>o7 (j0 h)⟩
def Q3(h:M[p]?=some (.lst ds)):Rj M x (.ref p)=memD M x ds:=by simp[Rj,h,Al,du]
def U6(f:F)(M:dh):zg f.toD (.int 0) M=some (.int f.a):=rfl
def U7(f:F)(M:dh):zg f.toD (.int 1) M=some (.int f.b):=rfl
def aop(f:F)(M:dh):zg f.toD (.int 2) M=some (Ff f.r):=rfl
def Ou(M:dh)(r:Y3)(n:Nat):yf M (Ff r) (.tup ((List.range n).map λ(k:Nat)=>D.int (k:Int)))=some (decide (r=List.range n)):=agj M r (List.range n)
def eq_nil(M:dh)(r:Y3):yf M (Ff r) (.tup [])=some (decide (r=[])):=agj M r []
def Bt(M:dh)(a b:Nat):yf M (.int a) (.int b)=some (decide (a=b)):=by rw[eq_int,ait]
def Jy(M:dh)(r:Y3):o8 .len [Ff r] M=.ok (.int r.length) M:=by simp[o8,Al,Ff]
def Wy(M:dh)(Z:List D):o8 .tuple [.vl Z] M=.ok (.tup Z) M:=by simp[o8,Al]
def aaz(M:dh)(r:Y3):o8 .tuple [.vl (r.map nD)] M=.ok (Ff r) M:=Wy M _
def agm(Z:Sz sz)(h:Yc sz f):1<=f.r.length/\f.r.length<=4:=by rw[h.len];exact Z _
def au9(M:dh)(r:Y3):srcOf M (Ff r)=some (.con (r.map nD)):=rfl
def aoq(M:dh)(r:Y3)(h:x<r.length):zg (Ff r) (.int x) M=some (.int (r.getD x 0)):=J6 q_ (by simp[h,nD])
def aor(hz:Sz sz)(U:Yc sz f)(hg:Yc sz g)(h:f.b=g.a) :
 Gy.den W [a0,a1,a2,a3,a4,a5,a6,some f.toD,some g.toD,a9] M=.ok (.vl ((f.comp g).r.map nD)) M:=by
 have Z:(f.r.map nD).length<=100000:=by rw[cz,U.len];have:=hz f.a;exact a_ this.2 (by decide)
 unfold Gy;rw[Nh];simp[aop,au9];have:=aik (M:=M) (ds:=f.r.map nD) (g:=λd=>match d with|.int i=>nD (g.r.getD i.toNat 0)|_=>.non)
  (body:=λd M=>((Res.u5 (zg (Ff g.r) d M) M).bind λx M'=>Res.ok (some x) M')) Z (λd hd=>by
   obtain⟨x,R,rfl⟩:=bc.mp hd;have G:x<g.r.length:=by rw[hg.len,<- h];exact U.ran x R
   rw[show nD x=D.int (x:Int) from rfl,aoq M g.r G];simp[nD])
 rw[this];simp[F.comp,nD]
def Lg(Z:List F)(f g:F):List F:=if f.b=g.a/\f.comp g∉Z/\¬(f.comp g).P0 then Z++[f.comp g] else Z
def agn(f g:F):D.tup [.int f.a,.int g.b,Ff (f.comp g).r]=(f.comp g).toD:=rfl
def Wz(hz:Sz sz)(hf:Yc sz f)(hg:Yc sz g)(G:M[p]?=some (.lst (U.map F.toD)))(hl:U.length<100000) :
 ∃(b4 b9:Option D)(M':dh),Cr.den W [a0,sR p,a2,a3,a4,a5,a6,some f.toD,some g.toD,a9] M=.ok (.next,[a0,sR p,a2,a3,b4,a5,a6,some f.toD,some g.toD,b9]) M' /\
  M'[p]?=some (.lst ((Lg U f g).map F.toD))/\Up p M M':=by
 by_cases h:f.b=g.a
 .have hc:=aor (W:=W) (M:=M) (a0:=a0) (a1:=some (.ref p)) (a2:=a2) (a3:=a3) (a4:=some (.tup [])) (a5:=a5) (a6:=a6) (a9:=a9) hz hf hg h
  have hr:(f.comp g).r≠[]:=λe=>by have:=(agm hz (hf.comp hg h)).1;rw[e] at this;simp at this
  have Z:(f.comp g).r.length<=100000:=by have:=(agm hz (hf.comp hg h)).2;exact a_ this (by decide)
  have Jk:=aol M (f.comp g) U;have e0:(f.comp g).a=f.a:=rfl;have e1:(f.comp g).b=g.b:=rfl;have ap:=Dm (d:=(f.comp g).toD) G (by rw[cz];exact hl);have R:∃T:Res (Flow×Env),Cr.den W [a0,sR p,a2,a3,a4,a5,a6,some f.toD,some g.toD,a9] M=T/\(f.comp g∈U->T=.ok (.next,[a0,sR p,a2,a3,some (Ff (f.comp g).r),a5,a6,some f.toD,some g.toD,some (f.comp g).toD]) M)/\(f.comp g∉U->(f.comp g).P0->T=.ok (.next,[a0,sR p,a2,a3,some (Ff (f.comp g).r),a5,a6,some f.toD,some g.toD,some (f.comp g).toD]) M) /\
   (f.comp g∉U->¬(f.comp g).P0->T=.ok (.next,[a0,sR p,a2,a3,some (Ff (f.comp g).r),a5,a6,some f.toD,some g.toD,some (f.comp g).toD]) (M.set p (.lst ((U++[f.comp g]).map F.toD)))):=by
   refine⟨_,(by simp[-eq_int,Cr,U6,U7,Bt,h,hc,aaz,agn,eq_nil,hr,Q3 G,Jk];exact rfl),?_,?_,?_⟩
   .intro m;simp[m]
   .intro m i;simp[-eq_int,m,U6,U7,Bt,i.1,Jy,Z,Ou,Aq i.2]
   .intro m i
    by_cases i1:(f.comp g).a=(f.comp g).b
    .have i2:¬(f.comp g).r=List.range (f.comp g).r.length:=λq=>i ⟨i1,q⟩
     simp[-eq_int,U6,U7,Bt,m,i1,Jy,Z,Ou,i2,Ea G,ap]
    .simp[-eq_int,U6,U7,Bt,m,i1,Jy,Z,Ou,Ea G,ap]
  obtain⟨T,e,k1,k2,k3⟩:=R
  by_cases m:f.comp g∈U
  .exact⟨_,_,M,e.trans (k1 m),by rw[Lg,bx (λq=>q.2.1 m)];exact G,Up.refl p M⟩
  .by_cases i:(f.comp g).P0
   .exact⟨_,_,M,e.trans (k2 m i),by rw[Lg,bx (λq=>q.2.2 i)];exact G,Up.refl p M⟩
   .exact⟨_,_,_,e.trans (k3 m i),by rw[Lg,dg ⟨h,m,i⟩,vo G],Up.set _ _ _⟩
 .refine⟨some (.tup []),some (.tup [.int f.a,.int g.b,.tup []]),M,?_,by rw[Lg,bx (λq=>h q.1)];exact G,Up.refl p M⟩
  have:=agj M [] [];simp[Ff] at this;simp[-eq_int,Cr,U6,U7,Bt,h,this]
structure Inv(sz:Nat->Nat)(gs:List F):Prop where
 good:Good sz gs
 nd:gs.Nodup
 nid:∀f∈gs,¬f.P0
def Inv.snoc{sz:Nat->Nat}(h:Inv sz G)(U:Yc sz f)(hm:f∉G)(hi:¬f.P0):Inv sz (G++[f]):=by
 refine⟨λx Z=>?_,?_,λx Z=>?_⟩
 .rcases dw.mp Z with q|q
  .exact h.good x q
  .have:x=f:=by simpa using q
   exact this▸U
 .rw[yr]
  refine⟨h.nd,by simp,λa R b hb=>?_⟩;have:b=f:=by simpa using hb
  exact λe=>hm (by rw[<- this,<- e];exact R)
 .rcases dw.mp Z with q|q
  .exact h.nid x q
  .have:x=f:=by simpa using q
   exact this▸hi
def Cl2(Z:List F)(f g:F):Prop:=f.b=g.a->f.comp g∈Z\/(f.comp g).P0
def Cl2.mono(h:Cl2 Z f g)(s:Z <+: G):Cl2 G f g:=λe=>(h e).imp (λm=>s.subset m) id
def Ov(Z:List F)(f g:F):Z <+: Lg Z f g:=by
 unfold Lg;split
 .exact List.prefix_append _ _
 .exact List.prefix_rfl
def W0(Z:List F)(f g:F):(Lg Z f g).length<=Z.length+1:=by unfold Lg;split<;>simp
set_option tactic.hygienic true in
def ade(h:Inv sz G)(Y:Yc sz f)(Z:Yc sz g):Inv sz (Lg G f g):=by
 unfold Lg;split
 .rename_i q;exact h.snoc (Y.comp Z q.1) q.2.1 q.2.2
 .exact h
def aix(Z:List F)(f g:F):Cl2 (Lg Z f g) f g:=by
 intro e;unfold Lg
 by_cases m:f.comp g∈Z
 .left;split
  .exact qg _ m
  .exact m
 .by_cases i:(f.comp g).P0
  .exact .inr i
  .left;rw[dg ⟨e,m,i⟩];simp
def Rz{Z:List F}{i:Nat}(s:Z <+: G)(h:Z[i]?=some f):G[i]?=some f:=by obtain⟨t,rfl⟩:=s;rw[dz (ak.mp h).1];exact h
def Qk{Z:List F}{i:Nat}(G:M[p]?=some (.lst (Z.map F.toD)))(h:Z[i]?=some f):zg (.ref p) (.int i) M=some f.toD:=Dc (jx G) q_ (by simp[h])
def Lh{Z:List F}(G:M[p]?=some (.lst (Z.map F.toD))):o8 .len [.ref p] M=.ok (.int Z.length) M:=by rw[len_list (jx G)];simp
def a08{k j:Nat}(hz:Sz sz)(hi:Inv sz Z)(R:M[p]?=some (.lst (Z.map F.toD)))(hl:Z.length<90000)(hk:Z[k]?=some f)(hj:Z[j]?=some g) :
 ∃(G b7 b8 U:Option D)(M':dh),Gz.den W [a0,sR p,a2,a3,a4,sI k,sI j,a7,a8,a9] M=.ok (.next,[a0,sR p,a2,a3,G,sI k,sI j,b7,b8,U]) M' /\
  M'[p]?=some (.lst ((Lg (Lg Z f g) g f).map F.toD))/\Up p M M':=by
 refine hG λ_ _k=>?_
 have hf:=hi.good f (ao hk);have hg:=hi.good g (ao hj);have l1:=W0 Z f g;obtain⟨G,U,M1,e1,p1,u1⟩:=Wz (W:=W) (M:=M) (a0:=a0) (a2:=a2) (a3:=a3) (a4:=a4) (a5:=some (.int k)) (a6:=some (.int j)) (a9:=a9) hz hf hg R (b_ hl (by decide));obtain⟨c4,c9,M2,e2,p2,u2⟩:=Wz (W:=W) (M:=M1) (a0:=a0) (a2:=a2) (a3:=a3) (a4:=G) (a5:=some (.int k)) (a6:=some (.int j)) (a9:=U) hz hg hf p1 (by lia);apply _k;refine⟨c4,some g.toD,some f.toD,c9,M2,?_,p2,u1.trans u2⟩;unfold Gz;rw[T5];simp[Qk R hk,Qk R hj,srcOf,Src.len,Src.fin,Ce,Src.item,e1,e2]
def avb{k:Nat}(hz:Sz sz)(hi:Inv sz Z)(hp:M[p]?=some (.lst (Z.map F.toD)))(hl:Z.length<10000)(hk:Z[k]?=some f) :
 ∃(G:List F)(b4 b6 b7 R b9:Option D)(U:dh),G4.den W [a0,sR p,a2,a3,a4,sI k,a6,a7,a8,a9] M=.ok (.next,[a0,sR p,a2,a3,b4,sI k,b6,b7,R,b9]) U /\
  U[p]?=some (.lst (G.map F.toD))/\Up p M U/\Z <+: G/\Inv sz G/\G.length<=3*Z.length/\∀(j:Nat)(g:F),Z[j]?=some g->Cl2 G f g/\Cl2 G g f:=by
 unfold G4;rw[T5];have qq:Z.length<=100000:=e_ (b_ hl (by decide))
 simp[Lh hp,qq];refine hG λ_ _k=>?_
 obtain⟨qk,U,e,G,b4,b6,b7,R,b9,rfl,h1,h2,h3,h4,h5,h6⟩:=aas (n:=Z.length) (body:=λd ρ M=>G3.den W (ρ.set 6 (some d)) M)
  (λi ρ U=>∃(G:List F)(b4 b6 b7 R b9:Option D),ρ=[a0,sR p,a2,a3,b4,sI k,b6,b7,R,b9]/\U[p]?=some (.lst (G.map F.toD))/\Up p M U/\Z <+: G/\Inv sz G/\G.length<=Z.length+2*i /\
   ∀(j:Nat)(g:F),j<i->Z[j]?=some g->Cl2 G f g/\Cl2 G g f) (ρ:=[a0,sR p,a2,a3,a4,sI k,a6,a7,a8,a9]) (M:=M)
  ⟨Z,a4,a6,a7,a8,a9,rfl,hp,Up.refl p M,List.prefix_rfl,hi,x_,λj g h=>absurd h (rz _)⟩
  (λi ρ M2 Jp hI=>by
   refine hG λ_ _k=>?_
   obtain⟨G,b4,b6,b7,R,b9,rfl,g1,g2,g3,g4,g5,g6⟩:=hI;have gi:Z[i]?=some Z[i]:=by simp[Jp]
   obtain⟨c4,c7,c8,c9,M3,e3,p3,u3⟩:=a08 (W:=W) (M:=M2) (a0:=a0) (a2:=a2) (a3:=a3) (a4:=b4) (a7:=b7) (a8:=R) (a9:=b9) hz g4 g1 (by lia) (Rz g3 hk) (Rz g3 gi);have hf:=g4.good f (ao (Rz g3 hk));have hg:=g4.good Z[i] (ao (Rz g3 gi));apply _k;refine⟨.next,_,M3,?_,.inl rfl,Lg (Lg G f Z[i]) Z[i] f,c4,sI i,c7,c8,c9,rfl,p3,g2.trans u3,(g3.trans (Ov _ _ _)).trans (Ov _ _ _),ade (ade g4 hf hg) hg hf,?_,?_⟩
   .simp[G3,e3]
   .have:=W0 G f Z[i]
    have:=W0 (Lg G f Z[i]) Z[i] f
    lia
   .intro j g hj Y7
    have pr:=(Ov G f Z[i]).trans (Ov (Lg G f Z[i]) Z[i] f);rcases Nat.lt_succ_iff_lt_or_eq.mp hj with q|q
    .exact⟨(g6 j g q Y7).1.mono pr,(g6 j g q Y7).2.mono pr⟩
    .subst q
     have:g=Z[j]:=by rw[gi] at Y7;exact(jy Y7).symm
     subst this;exact⟨(aix _ _ _).mono (Ov _ _ _),aix _ _ _⟩)
 apply _k;refine⟨G,b4,b6,b7,R,b9,U,e,h1,h2,h3,h4,by lia,λj g hg=>h6 j g (ak.mp hg).1 hg⟩
def aot(f:F)(i j k:Nat)(Z:Env):(Tg.names [i,j,k]).put f.toD Z=some (((Z.set i (sI f.a)).set j (sI f.b)).set k (some (Ff f.r))):=rfl
noncomputable def aa0(Z:List F)(f:F):List F:=if ¬f.P0/\f∉Z then Z++[f] else Z
def ClK(Z:List F)(k:Nat):Prop:=∀(i j:Nat)(f g:F),i<k->j<k->Z[i]?=some f->Z[j]?=some g->Cl2 Z f g
def ak2(hz:Sz sz)(hf:Yc sz f)(G:M[p]?=some (.lst (gs.map F.toD)))(hl:gs.length<100000) :
 ∃M',zx.den W [a0,sR p,sI f.a,sI f.b,Ff f.r,a5,a6,a7,a8,a9] M=.ok (.next,[a0,sR p,sI f.a,sI f.b,some (Ff f.r),a5,a6,a7,a8,a9]) M' /\
  M'[p]?=some (.lst ((aa0 gs f).map F.toD))/\Up p M M':=by
 have Z:f.r.length<=100000:=by have:=(agm hz hf).2;exact a_ this (by decide)
 have Jk:=aol M f gs;have R:D.tup [.int f.a,.int f.b,Ff f.r]=f.toD:=rfl;have ap:=Dm (d:=f.toD) G (by rw[cz];exact hl)
 by_cases i:f.P0
 .refine⟨M,?_,by rw[aa0,bx (λq=>q.1 i)];exact G,Up.refl p M⟩
  simp[-eq_int,zx,Bt,i.1,Jy,Z,Ou,Aq i.2]
 .by_cases m:f∈gs
  .refine⟨M,?_,by rw[aa0,bx (λq=>q.2 m)];exact G,Up.refl p M⟩
   by_cases U:f.a=f.b
   .have i2:¬f.r=List.range f.r.length:=λq=>i ⟨U,q⟩
    simp[U] at R;simp[-eq_int,zx,Bt,U,i2,Jy,Z,Ou,R,Q3 G,Jk,m]
   .simp[-eq_int,zx,Bt,U,Jy,Z,Ou,R,Q3 G,Jk,m]
  .refine⟨M.set p (.lst ((gs++[f]).map F.toD)),?_,by rw[aa0,dg ⟨i,m⟩,vo G],Up.set _ _ _⟩
   by_cases U:f.a=f.b
   .have i2:¬f.r=List.range f.r.length:=λq=>i ⟨U,q⟩
    simp[U] at R;simp[-eq_int,zx,Bt,U,i2,Jy,Z,Ou,R,Q3 G,Jk,m,Ea G,ap]
   .simp[-eq_int,zx,Bt,U,Jy,Z,Ou,R,Q3 G,Jk,m,Ea G,ap]
set_option tactic.hygienic true in
def aou(h:Inv sz Y)(Z:Yc sz f):Inv sz (aa0 Y f):=by
 unfold aa0;split
 .rename_i q;exact h.snoc Z q.2 q.1
 .exact h
def aov(Z:List F)(f:F):(aa0 Z f).length<=Z.length+1:=by unfold aa0;split<;>simp
def ak3(hz:Sz sz)(hi:Inv sz gs)(hp:M[p]?=some (.lst (gs.map F.toD)))(hl:gs.length<=3) :
 ∃(qk:Env)(R:dh),G5.den W [a0,sR p,a2,a3,a4,sI 0,a6,a7,a8,a9] M=.ok (.next,qk) R/\qk[1]?=some (sR p)/\∃Z:List F,R[p]?=some (.lst (Z.map F.toD))/\Up p M R/\Inv sz Z/\Z.length<=15 /\
  (Z.length<6->Ot Z)/\(gs=[]->Z=[]):=by
 unfold G5;rw[aan];refine Ho (λm ρ R=>∃(Z:List F)(k:Nat)(b4 b6 b7 b8 b9:Option D),ρ=[a0,sR p,a2,a3,b4,sI k,b6,b7,b8,b9]/\R[p]?=some (.lst (Z.map F.toD))/\Up p M R/\Inv sz Z/\Z.length<=15/\ClK Z k/\k<=5/\m=10-k/\(gs=[]->Z=[]))
  (λqk R=>qk[1]?=some (sR p)/\∃Z:List F,R[p]?=some (.lst (Z.map F.toD))/\Up p M R/\Inv sz Z/\Z.length<=15/\(Z.length<6->Ot Z)/\(gs=[]->Z=[])) ?_ Wq 10 _ M (by decide)
  ⟨gs,0,a4,a6,a7,a8,a9,rfl,hp,Up.refl p M,hi,a_ hl (by decide),λi j f g h=>absurd h (rz _),iz _,rfl,id⟩
 intro m ρ M1 hI;refine hG λ_ _k=>?_
 obtain⟨Z,k,b4,b6,b7,b8,b9,rfl,g1,g2,g3,g4,g5,g6,g7,g8⟩:=hI;apply _k
 by_cases c1:k<Z.length
 .have G:(k:Int)<(Z.length:Int):=m_ c1
  by_cases c2:Z.length<6
  .have q0:(Z.length:Int)<6:=m_ c2
   right
   refine hG λ_ _k=>?_
   obtain⟨is,d4,d6,d7,d8,d9,M2,e,p2,u2,pr,q3,l2,q2⟩:=avb (W:=W) (M:=M1) (a0:=a0) (a2:=a2) (a3:=a3) (a4:=b4) (a6:=b6) (a7:=b7) (a8:=b8) (a9:=b9) (k:=k) hz g3 g1 (c_ g4 (by decide)) (show Z[k]?=some Z[k] by simp[c1]);apply _k;refine⟨M1,.next,_,M2,10-(k+1),?_,?_,.inl rfl,by lia,is,k+1,d4,d6,d7,d8,d9,rfl,p2,g2.trans u2,q3,by lia,?_,by lia,rfl,?_⟩
   .simp[Lh g1,G,q0]
   .simp[Mh,e]
   .intro i j f g qq U hf hg
    have qv:∀(i:Nat)(f:F),i<k+1->is[i]?=some f->Z[i]?=some f:=λi f hi hf=>by
     have Jp:i<Z.length:=b_ hi c1
     have:=Rz pr (show Z[i]?=some Z[i] by simp[Jp]);rw[hf] at this;rw[this];simp[Jp]
    have q1:=qv i f qq hf;have Y7:=qv j g U hg
    by_cases ei:i=k
    .subst ei
     have:f=Z[i]:=by have:=q1;simp[c1] at this;exact this.symm
     subst this;exact(q2 j g Y7).1
    .by_cases ej:j=k
     .subst ej
      have:g=Z[j]:=by have:=Y7;simp[c1] at this;exact this.symm
      subst this;exact(q2 i f q1).2
     .exact(g5 i j f g (by lia) (by lia) q1 Y7).mono pr
   .intro e0
    have:=g8 e0;subst this;simp at c1
  .left
   have q0:¬(Z.length:Int)<6:=by lia
   exact⟨M1,by simp[Lh g1,G,q0],rfl,Z,g1,g2,g3,g4,λq=>absurd q c2,g8⟩
 .left
  have G:¬(k:Int)<(Z.length:Int):=by lia
  refine⟨M1,by simp[Lh g1,G],rfl,Z,g1,g2,g3,g4,λ_=>?_,g8⟩;intro f hf g hg;refine hG λ_ _k=>?_
  obtain⟨i,qq,ei⟩:=pq hf;obtain⟨j,U,ej⟩:=pq hg;apply _k;exact g5 i j f g (b_ qq (s_ c1)) (b_ U (s_ c1)) (by simp[qq,ei]) (by simp[U,ej])
def Y8(hm:1<=m)(hz:Sz sz)(hg:Good sz fs)(hl:fs.length<=3)(hd:du M d=some (fs.map F.toD)) :
 ∃(U:List F)(Z:dh),prog.call m 16 [d] M=.ok (.ref M.length) Z/\Z[M.length]?=some (.lst (U.map F.toD))/\yd M Z/\Z.length=M.length+1/\Inv sz U/\U.length<=15/\(U.length<6->Ot U)/\(fs=[]->U=[]):=by
 rw[call_of hm rfl];refine hG λ_ _k=>?_
 have qq:du (M++[.lst []]) d=some (fs.map F.toD):=(yd.app M _).du hd;obtain⟨s,q0,q6,M1,e1,G,b2,b3,b4,rfl,h1,h2,h3,h4,h5⟩:=Wt (body:=λd ρ M=>match(Tg.names [2,3,4]).put d ρ with
  | some q4=>zx.den (PW (m-1)) q4 M|none=>.bad)
  (λi ρ Z=>∃(G:List F)(b2 b3 b4:Option D),ρ=[some d,sR M.length,b2,b3,b4,none,none,none,none,none]/\Z[M.length]?=some (.lst (G.map F.toD))/\Up M.length (M++[.lst []]) Z/\Inv sz G/\G.length<=i/\(fs=[]->G=[]))
  (ρ:=[some d,sR M.length,none,none,none,none,none,none,none,none]) (M:=M++[.lst []]) qq
  ⟨[],none,none,none,rfl,by simp,Up.refl _ _,⟨λf R=>by simp at R,by simp,λf R=>by simp at R⟩,by simp,λ_=>rfl⟩
  (λi ρ Z hI=>by
   refine hG λ_ _k=>?_
   obtain⟨G,b2,b3,b4,rfl,g1,g2,g3,g4,g5⟩:=hI;apply _k;cases d with
   |vl xs=>exact hd
   |ref n =>
    have hn:n≠M.length:=by
     simp only[du] at hd;cases e:M[n]? with
     |none=>rw[e] at hd;simp at hd|some o=>have:=vh e;exact h_ this
    simp only[du] at qq ⊢;rw[g2.oth n hn];exact qq
   | _=>simp[du] at hd)
  (λi x ρ Z hx hI=>by
   refine hG λ_ _k=>?_
   obtain⟨G,b2,b3,b4,rfl,g1,g2,g3,g4,g5⟩:=hI;obtain⟨f,R,rfl⟩:∃f,fs[i]?=some f/\f.toD=x:=by simpa using hx
   have qk:=ao R;have q5:=(ak.mp R).1;obtain⟨M2,e2,p2,u2⟩:=ak2 (W:=PW (m-1)) (M:=Z) (a0:=some d) (a5:=none) (a6:=none) (a7:=none) (a8:=none) (a9:=none) hz (hg f qk) g1 (c_ g4 (b_ q5 (a_ hl (by decide))));apply _k;refine⟨.next,_,M2,?_,.inl rfl,aa0 G f,sI f.a,sI f.b,some (Ff f.r),rfl,p2,g2.trans u2,aou g3 (hg f qk),?_,λe=>?_⟩
   .rw[aot];exact e2
   .have:=aov G f;exact a_ this (v_ g4)
   .subst e;simp at R)
 apply _k;have q2:G.length<=3:=by simp at h4;exact a_ h4 hl
 refine hG λ_ _k=>?_
 obtain⟨q7,M2,e2,q1,U,p2,u2,qv,l2,c2,z2⟩:=ak3 (W:=PW (m-1)) (M:=M1) (a0:=some d) (a2:=b2) (a3:=b3) (a4:=b4) (a6:=none) (a7:=none) (a8:=none) (a9:=none) hz h3 h1 q2;have up:=h2.trans u2;apply _k;refine⟨U,M2,?_,p2,λa o h=>?_,?_,qv,l2,c2,λe=>z2 (h5 e)⟩
 .have q3:G6.den (PW (m-1)) [some d,sR M.length,none,none,none,none,none,none,none,none] (M++[.lst []])=.ok (.next,[some d,sR M.length,b2,b3,b4,none,none,none,none,none]) M1:=by
   unfold G6;rw[T5];simp[q0];exact e1
  simp[Fn.run,Qg,Qf,MW.new,q3,e2,q1]
 .have:=vh h
  rw[up.oth a (h_ this)];exact qu h
 .rw[up.len];simp
noncomputable def eD(f:F):D:=.tup [.int f.a,.int f.b]
def Hr(Z:List F):D:=.tup (Z.map eD)
def ent(Z:List F)(f g:F):Int:=if f.comp g∈Z then(pos (f.comp g) Z:Int) else -1
noncomputable def ky(j k:Nat):List Kx:=[.inl (j:Int),.inl (k:Int)]
def ago(h:ky j k=ky Z k'):j=Z/\k=k':=by simp[ky] at h;exact⟨D_ h.1,D_ h.2⟩
def Y9(j k Z G:Nat):Prop:=Z<j\/(Z=j/\G<k)
structure Tb(hs:List F)(j k:Nat)(ik:List (List Kx×D)):Prop where
 keys:∀p∈ik,∃(j' k':Nat)(f g:F),p=(ky j' k',.int (ent hs f g))/\hs[j']?=some f/\hs[k']?=some g/\f.b=g.a/\Y9 j k j' k'
 look:∀(j' k':Nat)(f g:F),hs[j']?=some f->hs[k']?=some g->f.b=g.a->Y9 j k j' k'->Bh ik (ky j' k')=some (.int (ent hs f g))
 len:ik.length<=j*hs.length+k
def ak4{Z:List (List Kx×D)}(h:∀p∈Z,p.1≠q):Bh Z q=none:=by unfold Bh;rw[List.find?_eq_none.mpr (λp G=>by simpa using h p G)];rfl
def ak5{Z:List (List Kx×D)}(h:∀p∈Z,p.1≠q):Du Z q v=Z++[(q,v)]:=by unfold Du;rw[bx];simp only[Aw,dm,not_exists,not_and];exact h
def aa1{Z:List (List Kx×D)}(h:q≠q'):Bh (Z++[(q,v)]) q'=Bh Z q':=by
 unfold Bh;rw[List.find?_append];cases e:Z.find? (λp=>decide (p.1=q')) with
 |some p=>rfl|none=>simp[h]
def aa2{Z:List (List Kx×D)}(h:∀p∈Z,p.1≠q):Bh (Z++[(q,v)]) q=some v:=by unfold Bh;rw[List.find?_append,List.find?_eq_none.mpr (λp G=>by simpa using h p G)];simp
def Tb.skip(h:Tb U j k ik)(hf:U[j]?=some f)(hg:U[k]?=some g)(n:f.b≠g.a):Tb U j (k+1) ik:=by
 refine⟨λp hp=>?_,λZ G R g' a b c d=>?_,by have:=h.len;exact a_ this (w_ x_)⟩
 .obtain⟨Z,G,R,g',e,a,b,c,d⟩:=h.keys p hp
  exact⟨Z,G,R,g',e,a,b,c,by unfold Y9 at *;lia⟩
 .by_cases q:Z=j/\G=k
  .obtain⟨rfl,rfl⟩:=q
   rw[hf] at a;rw[hg] at b;cases a;cases b;exact absurd c n
  .exact h.look Z G R g' a b c (by unfold Y9 at *;lia)
def Tb.fresh(h:Tb R j k G):∀p∈G,p.1≠ky j k:=by
 intro p Z e;obtain⟨U,k',f',g',rfl,a,b,c,d⟩:=h.keys p Z;have:=ago e;unfold Y9 at d
 lia
def Tb.put(h:Tb Z j k ik)(hf:Z[j]?=some f)(hg:Z[k]?=some g)(n:f.b=g.a):Tb Z j (k+1) (Du ik (ky j k) (.int (ent Z f g))):=by
 rw[ak5 h.fresh];refine⟨λp hp=>?_,λG U R g' a b c d=>?_,by have:=h.len;simp;lia⟩
 .rcases dw.mp hp with q|q
  .obtain⟨G,U,R,g',e,a,b,c,d⟩:=h.keys p q
   exact⟨G,U,R,g',e,a,b,c,by unfold Y9 at *;lia⟩
  .have:p=(ky j k,.int (ent Z f g)):=by simpa using q
   exact⟨j,k,f,g,this,hf,hg,n,by unfold Y9;lia⟩
 .by_cases q:G=j/\U=k
  .obtain⟨rfl,rfl⟩:=q
   rw[hf] at a;rw[hg] at b;cases a;cases b;exact aa2 h.fresh
  .rw[aa1 (λe=>q (by have:=ago e;exact⟨this.1.symm,this.2.symm⟩))]
   exact h.look G U R g' a b c (by unfold Y9 at *;lia)
def Tb.next(h:Tb Z j Z.length ik):Tb Z (j+1) 0 ik:=by
 refine⟨λp hp=>?_,λG R U g' a b c d=>?_,by have:=h.len;have e:(j+1)*Z.length=j*Z.length+Z.length:=Nat.succ_mul _ _;exact a_ this (a_ (g_ e) x_)⟩
 .obtain⟨G,R,U,g',e,a,b,c,d⟩:=h.keys p hp
  exact⟨G,R,U,g',e,a,b,c,by unfold Y9 at *;lia⟩
 .have:=(ak.mp b).1
  exact h.look G R U g' a b c (by unfold Y9 at *;lia)
def aow{G:List F}{j k:Nat}(hz:Sz sz)(R:Yc sz f)(hg:Yc sz g)(h:f.b=g.a)(hq:M[q]?=some (.lst (G.map F.toD)))(hj:G[j]?=some f)(hk:G[k]?=some g) :
 Ga.den W [a0,a1,sR q,a3,a4,sI j,sI k,a7] M=.ok (.vl ((f.comp g).r.map nD)) M:=by
 have Z:(f.r.map nD).length<=100000:=by rw[cz,R.len];have:=hz f.a;exact a_ this.2 (by decide)
 unfold Ga;rw[aat (ds:=f.r.map nD) (M1:=M) (g:=λd=>match d with|.int i=>nD (g.r.getD i.toNat 0)|_=>.non) (by simp[Qk hq hj,aop,Ff]) Z (λx hx=>by
  obtain⟨y,hy,rfl⟩:=bc.mp hx;have U:y<g.r.length:=by rw[hg.len,<- h];exact R.ran y hy
  exact⟨_,rfl,by simp[Qk hq hk,aop,nD,aoq M g.r U]⟩)]
 simp[F.comp,nD]
def agp(hz:Sz sz)(hi:Inv sz Z)(hl:Z.length<=5)(G:M[q]?=some (.lst (Z.map F.toD)))(hr:M[r]?=some (.dT ik))(U:Z[j]?=some f)(R:Z[k]?=some g)(ht:Tb Z j k ik) :
 ∃(b7:Option D)(M':dh)(qq:List (List Kx×D)),Bj.den W [a0,a1,sR q,a3,sR r,sI j,sI k,a7] M=.ok (.next,[a0,a1,sR q,a3,sR r,sI j,sI k,b7]) M' /\
  M'[r]?=some (.dT qq)/\Tb Z j (k+1) qq/\Up r M M':=by
 have q1:=(ak.mp U).1;have q2:=(ak.mp R).1;have hf:=hi.good f (ao U);have hg:=hi.good g (ao R)
 by_cases h:f.b=g.a
 .have hc:=aow (W:=W) (M:=M) (a0:=a0) (a1:=a1) (a3:=a3) (a4:=some (.ref r)) (a7:=a7) hz hf hg h G U R
  have Jk:=aol M (f.comp g) Z;have q0:ik.length<100000:=by
   have:=ht.len;have:j*Z.length<=5*5:=Nat.mul_le_mul (e_ (b_ q1 hl)) hl
   lia
  have st:=a04 (d:=.int (ent Z f g)) (b:=.tup [.int j,.int k]) hr rfl q0;refine⟨some (f.comp g).toD,_,Du ik (ky j k) (.int (ent Z f g)),?_,vo (o:=.dT (Du ik (ky j k) (.int (ent Z f g)))) hr,ht.put U R h,Up.set _ _ _⟩
  by_cases m:f.comp g∈Z
  .have qk:K8 .index (.ref q) [(f.comp g).toD] M=.ok (.int (pos (f.comp g) Z)) M:=by simp[K8,onL,onK,Kf (jx G),a8l,m]
   have qv:K7 .index (.ref q) M=true:=by simp[K7,jx G]
   have he:ent Z f g=(pos (f.comp g) Z:Int):=dg m;rw[he] at st;simp[-eq_int,Bj,Qk G U,Qk G R,U6,U7,Bt,h,hc,aaz,agn,Q3 G,Jk,m,qv,qk,st,he,ky]
  .have he:ent Z f g=-1:=bx m
   rw[he] at st;simp[-eq_int,Bj,Qk G U,Qk G R,U6,U7,Bt,h,hc,aaz,agn,Q3 G,Jk,m,st,he,ky]
 .refine⟨a7,M,ik,?_,hr,ht.skip U R h,Up.refl r M⟩
  simp[-eq_int,Bj,Qk G U,Qk G R,U6,U7,Bt,h]
def a1a(hz:Sz sz)(hi:Inv sz Z)(hl:Z.length<=5)(hq:M[q]?=some (.lst (Z.map F.toD)))(hr:M[r]?=some (.dT []))(qq:q≠r) :
 ∃(U:Env)(M':dh)(G:List (List Kx×D)),Gd.den W [a0,a1,sR q,a3,sR r,a5,a6,a7] M=.ok (.next,U) M'/\U[2]?=some (sR q)/\U[3]?=some a3/\U[4]?=some (sR r)/\U.length=8 /\
  M'[r]?=some (.dT G)/\Tb Z Z.length 0 G/\Up r M M':=by
 unfold Gd;have q2:∀(M':dh),Up r M M'->o8 .len [.ref q] M'=.ok (.int Z.length) M':=λM' u=>Lh (by rw[u.oth q qq];exact hq)
 obtain⟨U,M',e,b5,b6,R,G,rfl,h1,h2,h3⟩:=An (W:=W) (t:=.name 5) (b:=Gb) (it:=.blt .len (.o (.v 2))) (n:=Z.length) (ρ:=[a0,a1,sR q,a3,sR r,a5,a6,a7]) (M:=M) (M1:=M) (by simp[Lh hq]) (a_ hl (by decide))
  (λj ρ M'=>∃(b5 b6 R:Option D)(G:List (List Kx×D)),ρ=[a0,a1,sR q,a3,sR r,b5,b6,R]/\M'[r]?=some (.dT G)/\Tb Z j 0 G/\Up r M M')
  ⟨a5,a6,a7,[],rfl,hr,⟨λp hp=>by simp at hp,λj' k' f g a b c d=>by unfold Y9 at d;lia,by simp⟩,Up.refl r M⟩
  (λj ρ M1 hj hI=>by
   obtain⟨b5,b6,R,G,rfl,g1,g2,g3⟩:=hI;have qk:M1[q]?=some (.lst (Z.map F.toD)):=by rw[g3.oth q qq];exact hq
   obtain⟨q3,M2,e2,c6,c7,qv,rfl,k1,k2,k3⟩:=An (W:=W) (t:=.name 6) (b:=Bj) (it:=.blt .len (.o (.v 2))) (n:=Z.length) (ρ:=[a0,a1,sR q,a3,sR r,sI j,b6,R]) (M:=M1) (M1:=M1) (by simp[Lh qk]) (a_ hl (by decide))
    (λk ρ M'=>∃(b6 R:Option D)(G:List (List Kx×D)),ρ=[a0,a1,sR q,a3,sR r,sI j,b6,R]/\M'[r]?=some (.dT G)/\Tb Z j k G/\Up r M1 M')
    ⟨b6,R,G,rfl,g1,g2,Up.refl r M1⟩
    (λk ρ M2 hk hI=>by
     obtain⟨b6,R,G,rfl,k1,k2,k3⟩:=hI;have q1:M2[q]?=some (.lst (Z.map F.toD)):=by rw[k3.oth q qq];exact qk
     obtain⟨c7,M3,q0,e3,p3,t3,u3⟩:=agp (W:=W) (M:=M2) (a0:=a0) (a1:=a1) (a3:=a3) (a7:=R) hz hi hl q1 k1 (show Z[j]?=some Z[j] by simp[hj]) (show Z[k]?=some Z[k] by simp[hk]) k2;exact⟨_,.next,_,M3,rfl,e3,.inl rfl,_,c7,q0,rfl,p3,t3,k3.trans u3⟩)
   exact⟨_,.next,_,M2,rfl,by simp[Gb,Kr,e2],  .inl rfl,sI j,c6,c7,qv,rfl,k1,k2.next,g3.trans k3⟩)
 exact⟨_,M',G,e,rfl,rfl,rfl,rfl,h1,h2,h3⟩
structure Ef(sz:Nat->Nat)(K:Nat)(hs:List F)(ik:List (List Kx×D)):Prop where
 hz:Sz sz
 inv:Inv sz hs
 cl:Ot hs
 len:hs.length<=5
 k1:1<=K
 k3:K<=3
 R8:∀f∈hs,f.a<K
 Li:∀f∈hs,f.b<K
 tb:Tb hs hs.length 0 ik
theorem adf:∀(Z:Y3)(a:Nat),∃v:Nat,(Z.map λ(x:Nat)=>(x:Int)).foldl (λm x=>if m<x then x else m) (a:Int)=(v:Int)/\a<=v/\(∀x∈Z,x<=v)/\(v=a\/v∈Z)
 |[],a=>⟨a,rfl,bw _,by simp,.inl rfl⟩
 |x::Z,a=>by
  refine hG λ_ _k=>?_
  obtain⟨v,e,G,U,R⟩:=adf Z (if a<x then x else a);apply _k;refine⟨v,?_,?_,λy hy=>?_,?_⟩
  .rw[ig,List.foldl_cons,<- e]
   congr 1
   by_cases q:a<x
   .have:(a:Int)<(x:Int):=m_ q
    simp[q]
   .have:¬(a:Int)<(x:Int):=by lia
    simp[q]
  .split at G<;>omega
  .rcases cj.mp hy with q|q
   .subst q;split at G<;>omega
   .exact U y q
  .rcases R with q|q
   .by_cases w:a<x
    .right;rw[dg w] at q;subst q;simp
    .left;rw[bx w] at q;exact q
   .right;exact bh _ q
theorem adg:∀Z:List Nat,Yw (Z.map nD)=some (Z.map λ(x:Nat)=>(x:Int))
 |[]=>rfl|x::Z=>by simp[nD,Yw,show Yw (Z.map nD)=_ from adg Z]
def aox(h:xs≠[]):∃v:Nat,o8 .max [.vl (xs.map nD)] M=.ok (.int v) M/\(∀x∈xs,x<=v)/\v∈xs:=by
 refine hG λ_ _k=>?_
 obtain⟨a,r,rfl⟩:∃a r,xs=a::r:=List.exists_cons_of_ne_nil h;obtain⟨v,e,Z,U,R⟩:=adf r a;apply _k;refine⟨v,?_,λx G=>?_,?_⟩
 .have:=adg (a::r)
  simp only[o8,au3,ak1,qp,this];simp only[ig,a0u,qp,m8,Res.Hs,e]
 .rcases cj.mp G with q|q
  .subst q;exact Z
  .exact U x q
 .rcases R with q|q
  .rw[q];simp
  .exact bh _ q
def max2(a b:Nat):o8 .max [.int a,.int b] M=.ok (nD (max a b)) M:=by
 by_cases h:a<b
 .have Z:(a:Int)<b:=m_ h
  have e:max a b=b:=by lia
  simp[o8,h,nD,e]
 .have Z:¬(a:Int)<b:=by lia
  have e:max a b=a:=by lia
  simp[o8,h,nD,e]
noncomputable def toF:D->F
 |.tup [.int a,.int b,.tup r]=>⟨a.toNat,b.toNat,r.map λd=>match d with|.int i=>i.toNat|_=>0⟩
 |_=>⟨0,0,[]⟩
def V4(f:F):toF f.toD=f:=by
 obtain⟨a,b,r⟩:=f;show F.mk a b ((r.map nD).map λd=>match d with|.int i=>i.toNat|_=>0)=F.mk a b r;rw[o4]
 conv=>rhs;rw[<- List.map_id r]
 exact ud _ (jc λx _=>rfl)
def aoy{Z:List F}(U:Z.length<=100000)(R:M[q]?=some (.lst (Z.map F.toD))) :
 Ge.den W [a0,a1,sR q,a3,a4,a5,a6,a7] M=.ok (.vl ((Z.map λf=>max f.a f.b).map nD)) M:=by
 unfold Ge;rw[wz (d:=.ref q) (ds:=Z.map F.toD) (M1:=M) (g:=λd=>nD (max (toF d).a (toF d).b)) (by simp) (jx R) (by simpa using U) (λx G=>by
  refine hG λ_ _k=>?_
  obtain⟨f,hf,rfl⟩:=bc.mp G;apply _k;exact⟨_,aot _ _ _ _ _,by simp[max2,V4]⟩)]
 simp[V4]
def ak6{G:List F}(U:R[2]?=some (sR q))(Z:R.length=8)(hl:G.length<=100000)(hq:M[q]?=some (.lst (G.map F.toD))) :
 Fz.den W R M=.ok (.vl (G.map eD)) M:=by
 unfold Fz;rw[wz (d:=.ref q) (ds:=G.map F.toD) (M1:=M) (g:=λd=>eD (toF d)) (by simp[U]) (jx hq) (by simpa using hl) (λx hx=>by
  refine hG λ_ _k=>?_
  obtain⟨f,hf,rfl⟩:=bc.mp hx;apply _k;refine⟨_,aot _ _ _ _ _,?_⟩;rw[V4];simp[eD,List.getElem?_set,Z])]
 simp[V4]
def ak7(hm:1<=m)(hz:Sz sz)(qk:Q0 t f M)(hg:Good sz fs)(hl:fs.length<=3)(hd:du M d=some (fs.map F.toD))(hq:M[q]?=some (.lst (hs.map F.toD)))(q0:q≠t)(hi:Inv sz hs)(q1:hs.length<=15)(hc:hs.length<6->Ot hs)(h0:fs=[]->hs=[]) :
 ∃(G:Env)(M':dh),Gf.den (PW m) [sR t,some d,sR q,a3,a4,a5,a6,a7] M=.ok (.next,G) M'/\∃(d':D)(R:Nat)(Z:List F),G=[sR t,some d',sR R,a3,a4,a5,a6,a7] /\
  M'[R]?=some (.lst (Z.map F.toD))/\R≠t/\Inv sz Z/\Z.length<=5/\Ot Z/\yd M M':=by
 unfold Gf;rw[aan];refine Ho (λn ρ M'=>∃(d:D)(fs hs:List F)(q:Nat),ρ=[sR t,some d,sR q,a3,a4,a5,a6,a7]/\fs.length=n/\Good sz fs/\fs.length<=3/\du M' d=some (fs.map F.toD)/\M'[q]?=some (.lst (hs.map F.toD))/\q≠t /\
  Inv sz hs/\hs.length<=15/\(hs.length<6->Ot hs)/\(fs=[]->hs=[])/\yd M M')
  (λG M'=>∃(d':D)(R:Nat)(Z:List F),G=[sR t,some d',sR R,a3,a4,a5,a6,a7]/\M'[R]?=some (.lst (Z.map F.toD))/\R≠t/\Inv sz Z/\Z.length<=5/\Ot Z/\yd M M') ?_ Wq fs.length _ M (by unfold Wq;exact c_ hl (by decide))
  ⟨d,fs,hs,q,rfl,rfl,hg,hl,hd,hq,q0,hi,q1,hc,h0,yd.refl M⟩
 intro n ρ M1 hI;refine hG λ_ _k=>?_
 obtain⟨d,fs,hs,q,rfl,rfl,g1,g2,g3,g4,g5,g6,g7,g8,g9,U⟩:=hI;apply _k
 by_cases c:5<hs.length
 .right
  refine hG λ_ _k=>?_
  have c':(5:Int)<(hs.length:Int):=m_ c
  have Uw:fs≠[]:=λe=>by rw[g9 e] at c;simp at c
  have q3:1<=fs.length:=List.length_pos_iff.mpr Uw
  have q2:acw d none (some (-1)) M1=some (.vl (fs.dropLast.map F.toD)):=by
   have qq:age (fs.map F.toD) none (some (-1))=fs.dropLast.map F.toD:=by
    have e2:((-1:Int)+(fs.length:Int)).toNat=fs.length-1:=by lia
    simp[age,clip,e2,List.map_dropLast,List.dropLast_eq_take]
   cases d with
   |tup ds=>simp[du] at g3|vl ds=>simp only[acw,g3,m8,qq]|ref n=>simp only[acw,g3,m8,qq]|_=>simp[du] at g3
  have gd:Good sz fs.dropLast:=λf hf=>g1 f (List.dropLast_subset fs hf)
  obtain⟨Z,M2,e,p2,k2,l2,i2,b2,c2,z2⟩:=Y8 (M:=M1) (m:=m) (d:=.vl (fs.dropLast.map F.toD)) hm hz gd (by simp;exact a_ g2 (by decide)) rfl;have qv:t<M1.length:=by obtain⟨n,h,_⟩:=qk;exact vh (U t _ h)
  apply _k;refine⟨M1,.next,_,M2,fs.length-1,?_,?_,.inl rfl,by lia,.vl (fs.dropLast.map F.toD),fs.dropLast,Z,M1.length,rfl,by simp,gd,by simp;exact a_ g2 (by decide),rfl,p2,i_ qv,i2,b2,c2,z2,U.trans k2⟩
  .simp[Lh g4,c']
  .simp[-List.map_dropLast,Ks,q2,e]
 .left
  have c':¬(5:Int)<(hs.length:Int):=by lia
  exact⟨M1,by simp[Lh g4,c'],d,q,hs,rfl,g4,g5,g6,s_ c,g8 (c_ (s_ c) (by decide)),U⟩
def agq(hm:3<=m)(qq:Q0 t f M):∃(K r:Nat)(sz:Nat->Nat)(hs:List F)(ik:List (List Kx×D))(M':dh),prog.call m 17 [.ref t] M=.ok (.tup [.int K,Hr hs,.ref r]) M'/\M'[r]?=some (.dT ik)/\M.length<=r/\Ef sz K hs ik/\St t f M M':=by
 rw[call_of (a_ (by decide) hm) rfl];have zw:t<M.length:=by obtain⟨n,h,_⟩:=qq;exact vh h
 refine hG λ_ _k=>?_
 obtain⟨d,M1,fs,sz,e1,d1,n1,hz,g1,l1,s1⟩:=aoo (m:=m-1) (r_ hm) qq;obtain⟨hs,M2,e2,p2,k2,zk,i2,b2,c2,z2⟩:=Y8 (M:=M1) (m:=m-1) (d:=d) (r_ (a_ (by decide) hm)) hz g1 l1 d1;apply _k;have q4:t<M1.length:=by obtain⟨n,h,_⟩:=s1.has;exact vh h
 refine hG λ_ _k=>?_
 have s2:St t f M1 M2:=St.of s1.has k2;obtain⟨z0,M3,e3,d',q,Z,rfl,p3,q3,i3,l3,c3,k3⟩:=ak7 (M:=M2) (m:=m-1) (t:=t) (f:=f) (d:=d) (fs:=fs) (hs:=hs) (q:=M1.length) (a3:=none) (a4:=none) (a5:=none) (a6:=none) (a7:=none) (r_ (a_ (by decide) hm)) hz s2.has g1 l1 (k2.du d1) p2 (i_ q4) i2 b2 c2 z2;have s3:St t f M2 M3:=St.of s2.has k3;have q5:=s1.trans (s2.trans s3);apply _k;refine hG λ_ _k=>?_
 have qk:=aoy (W:=PW (m-1)) (M:=M3) (a0:=some (.ref t)) (a1:=some d') (a3:=none) (a4:=none) (a5:=none) (a6:=none) (a7:=none) (by exact a_ l3 (by decide):Z.length<=100000) p3;obtain⟨v,ev,q2,q6⟩:=aox (M:=M3) (xs:=(Z.map λf:F=>max f.a f.b)++[0]) (by simp);have U:Hk .add (.vl ((Z.map λf:F=>max f.a f.b).map nD)) (.vl [.int 0]) M3=.ok (.vl (((Z.map λf:F=>max f.a f.b)++[0]).map nD)) M3:=by rw[Yz _ _ (by simp;exact a_ l3 (by decide))];simp[nD]
 generalize hX:(D.vl ((Z.map λf:F=>max f.a f.b).map nD))=X at qk U;generalize hY:(D.vl (((Z.map λf:F=>max f.a f.b)++[0]).map nD))=Y at ev U;have z1:v<=2:=by
  rcases dw.mp q6 with w|w
  .refine hG λ_ _k=>?_
   obtain⟨x,R,rfl⟩:=bc.mp w;apply _k;have:=(i3.good x R).a;have:=(i3.good x R).b;lia
  .simp at w;exact a_ (f_ w) (iz _)
 have q0:yf M3 (.ref q) (.vl [])=some (decide (Z=[])):=by
  simp only[yf];cases Z with
  |nil=>simp[Jm,du,p3,Qs]|cons a l=>simp[Jm,du,p3]
 apply _k;refine hG λ_ _k=>?_
 obtain⟨K,G,hK,k1,q8,ka,kb,p4,s4,l4⟩:∃(K:Nat)(G:dh),
  (Cz.iff (.cmp .eq (.v 2) (.Jl .nil)) (.o (.asg (.tg (.name 3)) (.bin .add (.i 1) (.call 14 (.p (.v 0) (.i 3)))))) .nil).den (PW (m-1)) [sR t,some d',sR q,sI (1+(v:Int)),none,none,none,none] M3
   = .ok (.next,[sR t,some d',sR q,sI K,none,none,none,none]) G/\1<=K/\K<=3/\(∀f∈Z,f.a<K)/\(∀f∈Z,f.b<K)/\G[q]?=some (.lst (Z.map F.toD))/\St t f M3 G/\G.length=M3.length:=by
  by_cases he:Z=[]
  .refine hG λ_ _k=>?_
   obtain⟨w,G,ew,lw,sw,q7⟩:=Bb (m:=m-1) (r_ (a_ (by decide) hm)) s3.has (many:=3) (by decide) (by decide);apply _k;refine⟨1+w,G,?_,x_,by lia,by simp[he],by simp[he],sw.keep q _ q3 p3,sw,q7⟩;simp[q0,he,ew]
  .refine⟨1+v,M3,?_,x_,by lia,λx R=>?_,λx R=>?_,p3,St.of s3.has (yd.refl _),rfl⟩
   .simp[q0,he]
   .have:=q2 (max x.a x.b) (qg _ (bc.mpr ⟨x,R,rfl⟩));lia
   .have:=q2 (max x.a x.b) (qg _ (bc.mpr ⟨x,R,rfl⟩));lia
 have p5:(G++[.dT []])[q]?=some (.lst (Z.map F.toD)):=qu p4;have q1:=vh p4;obtain⟨zv,M6,ik,e6,r2,r3,r4,r8,p6,t6,u6⟩:=a1a (W:=PW (m-1)) (M:=G++[.dT []]) (q:=q) (r:=G.length) (a0:=some (.ref t)) (a1:=some d') (a3:=some (.int K)) (a5:=none) (a6:=none) (a7:=none) hz i3 l3 p5 (by simp) (h_ q1);apply _k;have zz:M6[q]?=some (.lst (Z.map F.toD)):=by rw[u6.oth q (h_ q1)];exact p5
 have zq:=ak6 (W:=PW (m-1)) (M:=M6) r2 r8 (by exact a_ l3 (by decide):Z.length<=100000) zz;have qv:=q5.trans s4;refine⟨K,G.length,sz,Z,ik,M6,?_,p6,qv.len,⟨hz,i3,c3,l3,k1,q8,ka,kb,t6⟩,?_⟩
 .simp only[Fn.run,Nx,Nv]
  simp[-a8c,e1,e2,e3,qk,U,ev,hK,MW.new,e6,r3,r4,zq,Wy,Hr]
 .refine qv.trans ⟨?_,?_,λa o na h=>?_⟩
  .rw[u6.len];simp
  .obtain⟨n,h,o⟩:=s4.has
   exact⟨n,by rw[u6.oth t (by have:=vh h;exact h_ this)];exact qu h,o⟩
  .rw[u6.oth a (by have:=vh h;exact h_ this)];exact qu h
noncomputable def pD(p:Nat×Nat):D:=.tup [.int p.1,.int p.2]
def Meet(Z:List F)(j k:Nat):Prop:=∃f g,Z[j]?=some f/\Z[k]?=some g/\f.b=g.a
structure Ps(hs:List F)(j k:Nat)(ps:List (Nat×Nat)):Prop where
 all:∀p:Nat×Nat,p∈ps↔Meet hs p.1 p.2/\Y9 j k p.1 p.2
 len:ps.length<=j*hs.length+k
def Ps.skip(h:Ps Z j k ps)(G:Z[j]?=some f)(U:Z[k]?=some g)(n:f.b≠g.a):Ps Z j (k+1) ps:=by
 refine⟨λp=>?_,by have:=h.len;exact a_ this (w_ x_)⟩;rw[h.all p];constructor
 .exact λq=>⟨q.1,by have:=q.2;unfold Y9 at *;lia⟩
 .intro q
  refine⟨q.1,?_⟩;have hb:=q.2
  by_cases e:p.1=j/\p.2=k
  .refine hG λ_ _k=>?_
   obtain⟨R,g',a,b,c⟩:=q.1;rw[e.1,G] at a;rw[e.2,U] at b;cases a;cases b;apply _k;exact absurd c n
  .unfold Y9 at *;lia
def Ps.put(h:Ps Z j k ps)(U:Z[j]?=some f)(G:Z[k]?=some g)(n:f.b=g.a):Ps Z j (k+1) (ps++[(j,k)]):=by
 refine⟨λp=>?_,by have:=h.len;simp;lia⟩;rw[dw,h.all p,kj];constructor
 .rintro(q|q)
  .exact⟨q.1,by have:=q.2;unfold Y9 at *;lia⟩
  .subst q;exact⟨⟨f,g,U,G,n⟩,by unfold Y9;lia⟩
 .intro q
  by_cases e:p.1=j/\p.2=k
  .right;exact Prod.ext e.1 e.2
  .left;exact⟨q.1,by have:=q.2;unfold Y9 at *;lia⟩
def Ps.next(h:Ps Z j Z.length ps):Ps Z (j+1) 0 ps:=by
 refine⟨λp=>?_,by have:=h.len;have e:(j+1)*Z.length=j*Z.length+Z.length:=Nat.succ_mul _ _;exact a_ this (a_ (g_ e) x_)⟩;rw[h.all p];constructor
 .exact λq=>⟨q.1,by have:=q.2;unfold Y9 at *;lia⟩
 .intro q
  refine⟨q.1,?_⟩;refine hG λ_ _k=>?_
  obtain⟨f,g,a,b,c⟩:=q.1;have:=(ak.mp b).1;have:=q.2;apply _k;unfold Y9 at *;lia
def U8(f:F)(M:dh):zg (eD f) (.int 0) M=some (.int f.a):=rfl
def W2(f:F)(M:dh):zg (eD f) (.int 1) M=some (.int f.b):=rfl
def R9{i:Nat}(h:Z[i]?=some f):zg (Hr Z) (.int i) M=some (eD f):=J6 q_ (by simp[h])
def Ow:o8 .len [Hr Z] M=.ok (.int Z.length) M:=by simp[o8,Al,Hr]
def Ox(x y:D)(i j:Nat)(Z:Env):(Tg.names [i,j]).put (.tup [x,y]) Z=some ((Z.set i (some x)).set j (some y)):=rfl
def adh(hl:Z.length<=5)(U:M[q]?=some (.lst (ps.map pD)))(hj:Z[j]?=some f)(R:Z[k]?=some g)(hp:Ps Z j k ps) :
 ∃(M':dh)(G:List (Nat×Nat)),Bs.den W [a0,sR q,sI j,eD f,sI k,eD g] M=.ok (.next,[a0,sR q,sI j,some (eD f),sI k,some (eD g)]) M' /\
  M'[q]?=some (.lst (G.map pD))/\Ps Z j (k+1) G/\Up q M M':=by
 have qq:=(ak.mp hj).1;have qk:=(ak.mp R).1
 by_cases h:f.b=g.a
 .have Jq:(ps.map pD).length<100000:=by
   have:=hp.len;have:j*Z.length<=5*5:=Nat.mul_le_mul (e_ (b_ qq hl)) hl
   rw[cz];lia
  have ap:=Dm (d:=.tup [.int j,.int k]) U Jq;refine⟨M.set q (.lst ((ps++[(j,k)]).map pD)),ps++[(j,k)],?_,vo U,hp.put hj R h,Up.set _ _ _⟩;simp[-eq_int,Bs,U8,W2,Bt,h,Ea U,ap,pD]
 .refine⟨M,ps,?_,U,hp.skip hj R h,Up.refl q M⟩
  simp[-eq_int,Bs,U8,W2,Bt,h]
def adi(hm:1<=m)(hl:hs.length<=5) :
 ∃(M':dh)(Z:List (Nat×Nat)),prog.call m 7 [Hr hs] M=.ok (.ref M.length) M'/\M'[M.length]?=some (.lst (Z.map pD))/\Ps hs hs.length 0 Z/\Up M.length (M++[.lst []]) M':=by
 rw[call_of hm rfl];refine hG λ_ _k=>?_
 obtain⟨q0,M',e,b2,b3,G,U,Z,rfl,h1,h2,h3⟩:=Uz (W:=PW (m-1)) (t:=.names [2,3]) (b:=El) (it:=.v 0) (ds:=hs.map eD) (ρ:=[Hr hs,sR M.length,none,none,none,none]) (M:=M++[.lst []]) (M1:=M++[.lst []]) (by simp[Hr])
  (λj R M'=>∃(b2 b3 G U:Option D)(Z:List (Nat×Nat)),R=[some (Hr hs),sR M.length,b2,b3,G,U]/\M'[M.length]?=some (.lst (Z.map pD))/\Ps hs j 0 Z/\Up M.length (M++[.lst []]) M')
  ⟨none,none,none,none,[],rfl,by simp,⟨λp=>by simp[Y9],by simp⟩,Up.refl _ _⟩
  (λj x R M1 hj hI=>by
   refine hG λ_ _k=>?_
   obtain⟨b2,b3,G,U,Z,rfl,g1,g2,g3⟩:=hI;obtain⟨f,hf,rfl⟩:∃f,hs[j]?=some f/\eD f=x:=by simpa using hj
   obtain⟨qv,M2,e2,c4,c5,qk,rfl,k1,k2,k3⟩:=Uz (W:=PW (m-1)) (t:=.names [4,5]) (b:=Bs) (it:=.v 0) (ds:=hs.map eD) (ρ:=[Hr hs,sR M.length,sI j,eD f,G,U]) (M:=M1) (M1:=M1) (by simp[Hr])
    (λk R M'=>∃(G U:Option D)(Z:List (Nat×Nat)),R=[some (Hr hs),sR M.length,sI j,some (eD f),G,U]/\M'[M.length]?=some (.lst (Z.map pD))/\Ps hs j k Z/\Up M.length M1 M')
    ⟨G,U,Z,rfl,g1,g2,Up.refl _ _⟩
    (λk y R M2 hk hI=>by
     refine hG λ_ _k=>?_
     obtain⟨G,U,Z,rfl,k1,k2,k3⟩:=hI;obtain⟨g,hg,rfl⟩:∃g,hs[k]?=some g/\eD g=y:=by simpa using hk
     obtain⟨M3,qq,e3,p3,t3,u3⟩:=adh (W:=PW (m-1)) (M:=M2) (a0:=some (Hr hs)) hl k1 hf hg k2;apply _k;exact⟨_,.next,_,M3,Ox _ _ _ _ _,e3,.inl rfl,sI k,some (eD g),qq,rfl,p3,t3,k3.trans u3⟩)
   rw[cz] at k2;apply _k;exact⟨_,.next,_,M2,Ox _ _ _ _ _,by simp[El,Ju,e2],.inl rfl,sI j,some (eD f),c4,c5,qk,rfl,k1,k2.next,g3.trans k3⟩)
 rw[cz] at h2;apply _k;refine⟨M',Z,?_,h1,h2,h3⟩;simp[Fn.run,Mf,Ma,MW.new,Jv,e]
def bothW(G:List F)(Z:List (List Kx×D))(x y:Int):Option D:=if x=-1 then some (.int y) else if y=-1 then some (.int x) else Bh Z [.inl x,.inl y]
def aiy(U:1<=m)(R:M[r]?=some (.dT ik))(h:bothW hs ik x y=some v):prog.call m 6 [.ref r,.int x,.int y] M=.ok v M:=by
 rw[call_of U rfl];unfold bothW at h
 by_cases Z:x=-1
 .rw[dg Z] at h;cases h
  simp[Fn.run,Jt,Js,Z]
 .rw[bx Z] at h
  by_cases G:y=-1
  .rw[dg G] at h;cases h
   simp[Fn.run,Jt,Js,Z,G]
  .rw[bx G] at h
   simp[Fn.run,Jt,Js,Z,G,acz R (Y0 x y),h]
def ak8(Z:List F)(c:F):Int:=if c∈Z then(pos c Z:Int) else -1
def Lj(Z:List F)(f g:F):ent Z f g=ak8 Z (f.comp g):=rfl
def aiz(Z:hs.Nodup){i:Nat}(h:hs[i]?=some f):ak8 hs f=i:=by have m:f∈hs:=ao h;rw[ak8,dg m,agk Z h]
def Ue:∀k:List Kx,Vo (anu k)=some k:=by
 intro k;show aak (k.map ant)=some k
 induction k with
 |nil=>rfl|cons a l Z=>cases a<;>simp[aak,ant,Wo,Z]
theorem adk:∀Z:List (List Kx×D),Ei (Z.map λp=>anu p.1)=some (Z.map (·.1))
 |[]=>rfl|p::l=>by simp[Ei,Ue,adk l]
theorem adl:∀Z:List (Nat×Nat),Ei (Z.map pD)=some (Z.map λp=>ky p.1 p.2)
 |[]=>rfl|p::l=>by simp[Ei,pD,adl l,ky]
def aoz{Z:List (List Kx×D)}(h:Bh Z q=some v):∃p∈Z,p.1=q:=by
 unfold Bh at h;cases e:Z.find? (λp=>decide (p.1=q)) with
 |none=>rw[e] at h;cases h|some p=>exact⟨p,List.mem_of_find?_eq_some e,by simpa using List.find?_some e⟩
section
variable{sz:Nat->Nat}{K:Nat}{hs:List F}{ik:List (List Kx×D)}(P:Ef sz K hs ik)
include P
theorem Ef.look(Z:hs[j]?=some f)(G:hs[k]?=some g)(h:f.b=g.a):Bh ik (ky j k)=some (.int (ent hs f g)) :=
 P.tb.look j k f g Z G h (.inl (ak.mp Z).1)
theorem Ef.no(h:¬Meet hs j k):Bh ik (ky j k)=none:=by apply ak4;intro p Z e;obtain⟨U,G,f,g,rfl,a,b,c,_⟩:=P.tb.keys p Z;obtain⟨rfl,rfl⟩:=ago e;exact h ⟨f,g,a,b,c⟩
theorem Ef.kl:ik.length<=25:=by
 have:=P.tb.len;have:hs.length*hs.length<=5*5:=Nat.mul_le_mul P.len P.len
 lia
theorem Ef.plain:Ej (ik.map (·.1))=true:=by have:=P.kl;simp only[Ej,cz,aq,dm];refine⟨a_ this (by decide),?_⟩;rw[jd];intro k Z;obtain⟨p,G,rfl⟩:=bc.mp Z;obtain⟨j,k,f,g,rfl,_⟩:=P.tb.keys p G;simp[ky]
theorem Ef.sm:agg ik=true:=by
 unfold agg;rw[jd];intro p Z;obtain⟨j,k,f,g,rfl,a,b,_⟩:=P.tb.keys p Z;have:=(ak.mp a).1;have:=(ak.mp b).1;have:=P.len;simp[ky]
 lia
theorem Ef.same(h:Ps hs hs.length 0 ps):Jr (ik.map (·.1)) (ps.map λp=>ky p.1 p.2)=true:=by
 unfold Jr;rw[aq,jd,jd];constructor
 .intro x R
  obtain⟨p,Z,rfl⟩:=bc.mp R;obtain⟨j,k,f,g,rfl,a,b,c,d⟩:=P.tb.keys p Z;rw[Aw];exact⟨ky j k,bc.mpr ⟨(j,k),(h.all (j,k)).mpr ⟨⟨f,g,a,b,c⟩,d⟩,rfl⟩,by simp⟩
 .intro y U
  obtain⟨p,Z,rfl⟩:=bc.mp U;obtain⟨⟨f,g,a,b,c⟩,d⟩:=(h.all p).mp Z;obtain⟨q,G,e⟩:=aoz (P.look a b c);rw[Aw];exact⟨q.1,bc.mpr ⟨q,G,rfl⟩,by simp[e]⟩
theorem Ef.Eb(h:c∈hs\/c.P0):(ak8 hs c=-1/\c.P0)\/∃i:Nat,hs[i]?=some c/\ak8 hs c=i:=by
 by_cases m:c∈hs
 .exact .inr ⟨pos c hs,V3 c m,dg m⟩
 .exact .inl ⟨bx m,h.resolve_left m⟩
theorem Ef.ao0{j k l:Nat}(hj:hs[j]?=some f)(hk:hs[k]?=some g)(hl:hs[l]?=some h)(R:f.b=g.a)(e2:g.b=h.a) :
 ∃v:Int,bothW hs ik (ent hs f g) l=some (.int v)/\bothW hs ik j (ent hs g h)=some (.int v):=by
 have mf:=ao hj;have mg:=ao hk;have mh:=ao hl;have of:=P.inv.good f mf;have og:=P.inv.good g mg;have oh:=P.inv.good h mh;have as:=agl (h:=h) of og R;rw[Lj,Lj];have nj:¬((j:Int)=-1):=by lia
 have nl:¬((l:Int)=-1):=by lia
 rcases P.Eb (P.cl f mf g mg R) with⟨x1,i1⟩|⟨u,hu,x1⟩
 .have c1:=aax (of.comp og R) i1
  have ha:f.a=g.b:=i1.1;have G:(f.comp g).comp h=h:=by rw[c1];show(idF sz f.a).comp h=h;rw[ha,e2];exact id_comp oh
  rcases P.Eb (P.cl g mg h mh e2) with⟨U,i2⟩|⟨w,hw,U⟩
  .have c2:=aax (og.comp oh e2) i2
   have Z:f.comp (g.comp h)=f:=by rw[c2];show f.comp (idF sz g.a)=f;rw[<- R];exact comp_id of
   have fh:f=h:=by rw[<- Z,<- as,G]
   have jl:j=l:=by rw[<- agk P.inv.nd hj,<- agk P.inv.nd hl,fh]
   refine⟨l,by simp[bothW,x1],?_⟩;rw[U,bothW,bx nj,dg rfl,jl]
  .have nw:¬((w:Int)=-1):=by lia
   refine⟨l,by simp[bothW,x1],?_⟩;rw[U,bothW,bx nj,bx nw];have:=P.look hj hw (show f.b=(g.comp h).a from R);rw[Lj,<- as,G,aiz P.inv.nd hl] at this;exact this
 .have nu:¬((u:Int)=-1):=by lia
  have lu:=P.look hu hl (show(f.comp g).b=h.a from e2);rcases P.Eb (P.cl g mg h mh e2) with⟨U,i2⟩|⟨w,hw,U⟩
  .have c2:=aax (og.comp oh e2) i2
   have Z:f.comp (g.comp h)=f:=by rw[c2];show f.comp (idF sz g.a)=f;rw[<- R];exact comp_id of
   refine⟨j,?_,?_⟩
   .rw[x1,bothW,bx nu,bx nl]
    rw[Lj,as,Z,aiz P.inv.nd hj] at lu;exact lu
   .rw[U,bothW,bx nj,dg rfl]
  .have nw:¬((w:Int)=-1):=by lia
   refine⟨ak8 hs ((f.comp g).comp h),?_,?_⟩
   .rw[x1,bothW,bx nu,bx nl];exact lu
   .rw[U,bothW,bx nj,bx nw]
    have:=P.look hj hw (show f.b=(g.comp h).a from R);rw[Lj,<- as] at this;exact this
end
def avd(hm:1<=m)(P:Ef sz K Z ik):prog.call m 9 [.int K,Hr Z] M=.ok .non M:=by
 rw[call_of hm rfl];obtain⟨qq,M',e,⟨b2,rfl⟩,rfl⟩:=ada (W:=PW (m-1)) (t:=.name 2) (b:=Fw) (it:=.v 1) (ds:=Z.map eD) (ρ:=[sI K,Hr Z,none]) (M:=M) (M1:=M) (by simp[Hr])
  (λj U M'=>(∃b2:Option D,U=[sI K,some (Hr Z),b2])/\M'=M) ⟨⟨none,rfl⟩,rfl⟩
  (λj x U M1 hj hI=>by
   obtain⟨⟨b2,rfl⟩,rfl⟩:=hI;obtain⟨f,hf,rfl⟩:∃f,Z[j]?=some f/\eD f=x:=by simpa using hj
   have mf:=ao hf;have h1:=P.R8 f mf;have h2:=P.Li f mf;refine⟨_,.next,_,M1,rfl,?_,.inl rfl,⟨some (eD f),rfl⟩,rfl⟩;have G:(f.a:Int)<K:=m_ h1
   have R:(f.b:Int)<K:=m_ h2
   have z1:(0:Int)<=(f.a:Int):=q_
   have z2:(0:Int)<=(f.b:Int):=q_
   simp[Fw,U8,W2,h1,h2,G,R,z1,z2])
 have k1:(1:Int)<=K:=by have:=P.k1;exact n_ this
 have k3:(K:Int)<=3:=by have:=P.k3;exact n_ this
 have l5:¬(5:Int)<(Z.length:Int):=by have:=P.len;lia
 simp[Fn.run,Np,Nk,k1,k3,Ow,l5,Ko,e]
def a1d{j k:Nat}(hm:1<=m)(P:Ef sz K Z ik)(hj:Z[j]?=some f)(hk:Z[k]?=some g)(h:f.b=g.a):prog.call m 8 [Hr Z,.int (ent Z f g),.int f.a,.int g.b] M=.ok (.bl true) M:=by
 rw[call_of hm rfl,Lj];have mf:=ao hj;have mg:=ao hk;rcases P.Eb (P.cl f mf g mg h) with⟨U,i1⟩|⟨u,hu,U⟩
 .have ha:f.a=g.b:=i1.1
  simp[Fn.run,Fv,Ft,U,ha]
 .have G:=(ak.mp hu).1
  have nu:¬((u:Int)=-1):=by lia
  have z:(0:Int)<=(u:Int):=q_
  have R:(u:Int)<(Z.length:Int):=m_ G
  have e:yf M (eD (f.comp g)) (.tup [.int f.a,.int g.b])=some true:=by show Qs (Jm M 5) [.int f.a,.int g.b] [.int f.a,.int g.b]=some true;rw[Df (Lf M 4 _ _) (Df (Lf M 4 _ _) (show Qs (Jm M 5) [] []=some true from rfl))];simp
  simp[Fn.run,Fv,Ft,U,nu,z,G,R,Ow,R9 hu,e]
def ave(hm:2<=m)(P:Ef sz K Z ik)(hr:M[r]?=some (.dT ik)):∃G,prog.call m 10 [Hr Z,.ref r] M=.ok .non G/\yd M G/\G.length=M.length+1:=by
 rw[call_of (a_ (by decide) hm) rfl];obtain⟨M1,R,e1,p1,t1,u1⟩:=adi (M:=M) (m:=m-1) (hs:=Z) (r_ hm) P.len;have k1:yd M M1:=λa o h=>by rw[u1.oth a (by have:=vh h;exact h_ this)];exact qu h
 have r1:=k1 r _ hr;have qq:(keysOf M1 (.ref r)).bind Ei=some (ik.map (·.1)):=by simp only[keysOf,r1,qp,adk]
 have qk:(keysOf M1 (.ref M.length)).bind Ei=some (R.map λp=>ky p.1 p.2):=by simp only[keysOf,p1,du,qp,adl]
 have Jq:Ej (R.map λp=>ky p.1 p.2)=true:=by
  have:=t1.len;have:Z.length*Z.length<=5*5:=Nat.mul_le_mul P.len P.len
  simp only[Ej,cz,aq,dm];refine⟨by lia,?_⟩;rw[jd];intro k hk;obtain⟨p,hp,rfl⟩:=bc.mp hk;simp[ky]
 have qv:(Ex.Wm (.v 1) (.v 2)).den (PW (m-1)) [some (Hr Z),sR r,sR M.length,none,none] M1=.ok (.bl false) M1:=by rw[Yx];simp only[aic,List.getElem?_cons_succ,List.getElem?_cons_zero,Res.Cy,qq,P.plain,qk,Jq,P.same t1,ji,qx]
 obtain⟨q0,G,e,⟨b3,b4,rfl⟩,rfl⟩:=Ek (W:=PW (m-1)) (t:=.names [3,4]) (b:=Gx) (it:=.v 2) (d:=.ref M.length) (ds:=R.map pD) (ρ:=[Hr Z,sR r,sR M.length,none,none]) (M:=M1) (M1:=M1) (by simp) (jx p1)
  (λj U G=>(∃b3 b4:Option D,U=[some (Hr Z),sR r,sR M.length,b3,b4])/\G=M1) ⟨⟨none,none,rfl⟩,rfl⟩ (λi U M h=>by rw[h.2];exact jx p1)
  (λi x U M2 hx hI=>by
   obtain⟨⟨b3,b4,rfl⟩,rfl⟩:=hI;obtain⟨p,hp,rfl⟩:∃p,R[i]?=some p/\pD p=x:=by simpa using hx
   obtain⟨⟨f,g,a,b,c⟩,d⟩:=(t1.all p).mp (ao hp);refine⟨_,.next,_,M2,Ox _ _ _ _ _,?_,.inl rfl,⟨some (.int p.1),sI p.2,rfl⟩,rfl⟩;have lk:=acz r1 (Y0 p.1 p.2);rw[show([.inl (p.1:Int),.inl (p.2:Int)]:List Kx)=ky p.1 p.2 from rfl,P.look a b c] at lk;simp[Gx,lk,R9 a,R9 b,U8,W2,a1d (show 1<=m-1 by exact r_ hm) P a b c])
 refine⟨G,?_,k1,by rw[u1.len];simp⟩;simp[Fn.run,Qe,Qd,e1,qv,Mg,e]
def avf(hm:2<=m)(P:Ef sz K Z ik)(hr:M[r]?=some (.dT ik)):∃R,prog.call m 11 [Hr Z,.ref r] M=.ok .non R/\yd M R/\R.length=M.length+1:=by
 rw[call_of (a_ (by decide) hm) rfl];obtain⟨M1,ps,e1,p1,t1,u1⟩:=adi (M:=M) (m:=m-1) (hs:=Z) (r_ hm) P.len;have k1:yd M M1:=λa o h=>by rw[u1.oth a (by have:=vh h;exact h_ this)];exact qu h
 have r1:=k1 r _ hr;have hl:=P.len;obtain⟨q1,R,e,⟨b3,b4,b5,b6,G,rfl⟩,rfl⟩:=Ek (W:=PW (m-1)) (t:=.names [3,4]) (b:=Fy) (it:=.v 2) (d:=.ref M.length) (ds:=ps.map pD) (ρ:=[Hr Z,sR r,sR M.length,none,none,none,none,none]) (M:=M1) (M1:=M1) (by simp) (jx p1)
  (λj ρ R=>(∃b3 b4 b5 b6 G:Option D,ρ=[some (Hr Z),sR r,sR M.length,b3,b4,b5,b6,G])/\R=M1) ⟨⟨none,none,none,none,none,rfl⟩,rfl⟩ (λi ρ M h=>by rw[h.2];exact jx p1)
  (λi x ρ M2 hx hI=>by
   obtain⟨⟨b3,b4,b5,b6,G,rfl⟩,rfl⟩:=hI;obtain⟨p,hp,rfl⟩:∃p,ps[i]?=some p/\pD p=x:=by simpa using hx
   obtain⟨⟨f,g,a,b,c⟩,d⟩:=(t1.all p).mp (ao hp);obtain⟨q0,M3,e3,⟨c5,c6,c7,rfl⟩,rfl⟩:=An (W:=PW (m-1)) (t:=.name 5) (b:=Dp) (it:=.blt .len (.o (.v 0))) (n:=Z.length) (ρ:=[Hr Z,sR r,sR M.length,sI p.1,sI p.2,b5,b6,G]) (M:=M2) (M1:=M2) (by simp[Ow]) (a_ hl (by decide))
    (λj ρ R=>(∃b5 b6 G:Option D,ρ=[some (Hr Z),sR r,sR M.length,sI p.1,sI p.2,b5,b6,G])/\R=M2) ⟨⟨b5,b6,G,rfl⟩,rfl⟩
    (λl ρ M4 qv hI=>by
     obtain⟨⟨b5,b6,G,rfl⟩,rfl⟩:=hI;have U:Z[l]?=some Z[l]:=by simp[qv]
     have Tu:=a8k r1 (Y0 p.2 l);rw[show([.inl (p.2:Int),.inl (l:Int)]:List Kx)=ky p.2 l from rfl] at Tu
     by_cases q:g.b=Z[l].a
     .rw[P.look b U q] at Tu
      obtain⟨v,v1,v2⟩:=P.ao0 a b U c q;have qk:=acz r1 (Y0 p.1 p.2);rw[show([.inl (p.1:Int),.inl (p.2:Int)]:List Kx)=ky p.1 p.2 from rfl,P.look a b c] at qk;have qq:=acz r1 (Y0 p.2 l);rw[show([.inl (p.2:Int),.inl (l:Int)]:List Kx)=ky p.2 l from rfl,P.look b U q] at qq;refine⟨_,.next,_,M4,rfl,?_,.inl rfl,⟨some (.int l),sI v,sI v,rfl⟩,rfl⟩;simp[Dp,Tu,qk,qq,aiy (show 1<=m-1 by exact r_ hm) r1 v1,aiy (show 1<=m-1 by exact r_ hm) r1 v2]
     .rw[P.no (λ⟨g',h',x,y,z⟩=>by rw[b] at x;rw[U] at y;cases x;cases y;exact q z)] at Tu
      refine⟨_,.cont,_,M4,rfl,?_,.inr rfl,⟨some (.int l),b6,G,rfl⟩,rfl⟩;simp[Dp,Tu])
   refine⟨_,.next,_,M3,Ox _ _ _ _ _,?_,.inl rfl,⟨some (.int p.1),sI p.2,c5,c6,c7,rfl⟩,rfl⟩;simp[Fy,Kp,e3])
 refine⟨R,?_,k1,by rw[u1.len];simp⟩;simp[Fn.run,Nr,Nq,e1,Kq,e]
def Made(n r K:Nat)(Z:List F)(G:List (List Kx×D))(M:dh):Prop:=M[n]?=some (.ins 2 [(2,.int K),(1,Hr Z),(0,.ref r)])/\M[r]?=some (.dT G)
def avh(hm:3<=m)(P:Ef sz K G U)(R:M[r]?=some (.dT U))(hn:M[n]?=some (.ins 2 [])) :
 ∃M' r',prog.call m 0 [.ref n,.int K,Hr G,.ref r] M=.ok .non M'/\Made n r' K G U M'/\M.length<=r'/\r'<M'.length/\(∀(a:Nat)(o:MO),a≠n->M[a]?=some o->M'[a]?=some o):=by
 rw[call_of (a_ (by decide) hm) rfl];have d1:=avd (M:=M) (m:=m-1) (r_ (a_ (by decide) hm)) P;obtain⟨M1,e1,k1,l1⟩:=ave (M:=M) (m:=m-1) (r_ hm) P R;obtain⟨Z,e2,k2,l2⟩:=avf (M:=M1) (m:=m-1) (r_ hm) P (k1 r _ R);have k:=k1.trans k2;have n2:=k n _ hn;have r2:=k r _ R;have qq:r≠n:=λe=>by rw[e,hn] at R;cases R
 have s1:Rm (.ref n) 2 (.int K) Z=some (Z.set n (.ins 2 [(2,.int K)])):=by simp[Rm,n2,Uy]
 have n3:=vo (o:=.ins 2 [(2,.int K)]) n2;have s2:Rm (.ref n) 1 (Hr G) (Z.set n (.ins 2 [(2,.int K)]))=some (Z.set n (.ins 2 [(2,.int K),(1,Hr G)])):=by simp[Rm,n3,Uy]
 have n4:=vo (o:=.ins 2 [(2,.int K),(1,Hr G)]) n2;have r4:(Z.set n (.ins 2 [(2,.int K),(1,Hr G)]))[r]?=some (.dT U):=by rw[o7 (j0 qq)];exact r2
 have dc:o8 .dict [.ref r] (Z.set n (.ins 2 [(2,.int K),(1,Hr G)]))=.ok (.ref Z.length) (Z.set n (.ins 2 [(2,.int K),(1,Hr G)])++[.dT U]):=by simp[o8,r4,P.sm,MW.new]
 have n5:(Z.set n (.ins 2 [(2,.int K),(1,Hr G)])++[.dT U])[n]?=some (.ins 2 [(2,.int K),(1,Hr G)]):=qu n4;have s3:Rm (.ref n) 0 (.ref Z.length) (Z.set n (.ins 2 [(2,.int K),(1,Hr G)])++[.dT U])=some ((List.set Z n (MO.ins 2 [(2,.int K),(1,Hr G)])++[MO.dT U]).set n (MO.ins 2 [(2,.int K),(1,Hr G),(0,.ref Z.length)])):=by simp[Rm,n5,Uy]
 have qk:=vh n2;refine⟨_,Z.length,?_,⟨vo (o:=.ins 2 [(2,.int K),(1,Hr G),(0,.ref Z.length)]) n5,?_⟩,by lia,by simp,λa o na h=>?_⟩
 .simp[Fn.run,Kl,Kh,d1,e1,e2,s1,s2,dc,s3]
 .rw[o7 (h_ qk)]
  rw[jo (by simp)];simp
 .rw[o7 (j0 na)]
  exact qu (by rw[o7 (j0 na)];exact k a o h)
end K36
namespace L2
open PySem PySem.Spec PyProof.Rows
abbrev Key:=Sum Int Str
noncomputable def W3:Key->Value->Bool
 |.inl k,v=>Value.isInt k v|.inr x,v=>Value.isStrOf x v
noncomputable def bfk(w:World):Key->Int
 |.inl k=>hashInt k|.inr x=>hashStr w x
theorem Be:∀{k:Key}{v:Value},W3 k v=true->(∃i t,k=Sum.inl i/\v=Value.int i t)\/(∃x t,k=Sum.inr x/\v=Value.str x t)
 |.inl i,v,h=>by
  obtain⟨t,e⟩:=Value.isInt_shape (k:=i) (v:=v) h;exact .inl ⟨i,t,rfl,e⟩
 |.inr x,v,h=>by
  obtain⟨t,e⟩:=Value.isStrOf_shape (x:=x) (v:=v) h;exact .inr ⟨x,t,rfl,e⟩
def ak9(i:Int)(t:Tok):W3 (.inl i) (.int i t)=true:=by simp[W3,Value.isInt]
def ala(x:Str)(t:Tok):W3 (.inr x) (.str x t)=true:=by simp[W3,Value.isStrOf]
def a1e(a b:Int):decide ((Sum.inl a:Key)=Sum.inl b)=(a==b):=by
 by_cases e:a=b
 .subst e;simp
 .have h:¬(Sum.inl a:Key)=Sum.inl b:=λq=>e (Sum.inl.inj q)
  rw[v8 h];exact(v7.mpr e).symm
def a1f(a b:Str):decide ((Sum.inr a:Key)=Sum.inr b)=decide (a=b):=by
 by_cases e:a=b
 .subst e;simp
 .have h:¬(Sum.inr a:Key)=Sum.inr b:=λq=>e (Sum.inr.inj q)
  rw[v8 h,v8 e]
def a1g(a:Int)(b:Str):decide ((Sum.inl a:Key)=Sum.inr b)=false:=v8 (λq=>nomatch q)
def a1h(a:Str)(b:Int):decide ((Sum.inr a:Key)=Sum.inl b)=false:=v8 (λq=>nomatch q)
def mz(prog:Program)(w:World):PySem.KeyKind prog w Key where
 is:=W3
 hash:=bfk w
 inj:=λv a b R G=>by
  rcases Be R with⟨i,t,rfl,rfl⟩|⟨x,t,rfl,rfl⟩
  .rcases Be G with⟨j,u,rfl,e⟩|⟨y,u,rfl,e⟩
   .injection e with e1 _;rw[e1]
   .exact nomatch e
  .rcases Be G with⟨j,u,rfl,e⟩|⟨y,u,rfl,e⟩
   .exact nomatch e
   .injection e with e1 _;rw[e1]
 byValue:=λk v h=>by rcases Be h with⟨i,t,rfl,rfl⟩|⟨x,t,rfl,rfl⟩<;>rfl
 pyHash:=λZ h=>by
  rcases Be Z with⟨i,t,rfl,rfl⟩|⟨x,t,rfl,rfl⟩
  .exact wpAny_pyHash_int h
  .exact wpAny_pyHash_str h
 eqBool:=λU Z h=>by
  rcases Be U with⟨i,t,rfl,rfl⟩|⟨x,t,rfl,rfl⟩
  .rcases Be Z with⟨j,u,rfl,rfl⟩|⟨y,u,rfl,rfl⟩
   .rw[a1e] at h;exact wpAny_eqBool_int h
   .rw[a1g] at h;exact SeqAt.EqAt.int_str i t y u _ _ _ _ h
  .rcases Be Z with⟨j,u,rfl,rfl⟩|⟨y,u,rfl,rfl⟩
   .rw[a1h] at h;exact SeqAt.EqAt.str_int x t j u _ _ _ _ h
   .rw[a1f] at h;exact wpAny_eqBool_str h
 «strs»:=λk x t v h=>by
  rcases Be h with⟨i,u,rfl,e⟩|⟨y,u,rfl,e⟩
  .exact nomatch e
  .injection e with e1 _
   subst e1;cases v<;>rfl
def adm(prog:Program)(w:World)(i:Int)(t:Tok):(mz prog w).is (.inl i) (.int i t)=true:=ak9 i t
def adn(prog:Program)(w:World)(x:Str)(t:Tok):(mz prog w).is (.inr x) (.str x t)=true:=ala x t
end L2
namespace L2
open PySem PySem.Spec PyProof.Rows
set_option genInjectivity true in
inductive V where
 |non|bl (b:Bool)|int (i:Int)|str (x:Str)|byt (b:Array UInt8)|flt (b:UInt64)|ref (a:Addr)|ty (n:String)
 deriving DecidableEq
def RelV:V->Value->Prop
 |.non,u=>u=Value.none|.bl b,u=>u=Value.bool b|.int i,u=>∃t,u=Value.int i t|.str x,u=>∃t,u=Value.str x t|.byt b,u=>∃t,u=Value.bytes b t|.flt b,u=>∃t,u=Value.float b t|.ref a,u=>u=Value.ref a|.ty n,u=>u=Value.type n
abbrev Vals:List V->List Value->Prop:=Paired RelV
theorem Vals.length(r:Vals Z G):Z.length=G.length:=Paired.length r
theorem Vals.get:∀{Z:List V}{G:Zl}{i:Nat}{x:V},Vals Z G->Z[i]?=some x->∃u,G[i]?=some u/\RelV x u
 |_,_,_,_,.nil,e=>by simp at e|_,_,0,_,.cons r _,e=>by simp at e;subst e;exact⟨_,rfl,r⟩
 |_,_,i+1,x,.cons _ t,e=>by
  obtain⟨u,U,R⟩:=Vals.get (i:=i) (x:=x) t (by simpa using e);exact⟨u,by simpa using U,R⟩
theorem Vals.set{x:V}{u:Value}(r:RelV x u):∀{Z:List V}{G:Zl}(i:Nat),Vals Z G->Vals (Z.set i x) (G.set i u)
 |_,_,_,.nil=>.nil|_,_,0,.cons _ t=>.cons r t|_,_,i+1,.cons q t=>.cons q (Vals.set r i t)
theorem Vals.append:∀{G Z:List V}{R U:Zl},Vals G R->Vals Z U->Vals (G++Z) (R++U):=by intro _ _ _ _ h r;induction h with|nil=>exact r|cons q t ih=>exact .cons q ih
theorem Vals.take:∀{Z:List V}{G:Zl}(n:Nat),Vals Z G->Vals (Z.take n) (G.take n)
 |_,_,0,_=>.nil|_,_,_+1,.nil=>.nil|_,_,n+1,.cons r t=>.cons r (Vals.take n t)
theorem Vals.drop:∀{Z:List V}{G:Zl}(n:Nat),Vals Z G->Vals (Z.drop n) (G.drop n)
 |_,_,0,r=>r|_,_,_+1,.nil=>.nil|_,_,n+1,.cons _ t=>Vals.drop n t
def Mt:Option V->Option Value->Prop
 |some v,some u=>RelV v u|none,none=>True|_,_=>False
def KV{Z:Type}:List (Z×V)->List (Z×Value)->Prop:=Paired λ(p:Z×V) (q:Z×Value)=>p.1=q.1/\RelV p.2 q.2
noncomputable def kV:Key->V
 |.inl i=>.int i|.inr x=>.str x
inductive HO where
 |lst (xs:List V)
 |tup (xs:List V)
 |dK (ik:List (Key×V))|dT (ik:List (List Key×V))
 |set (S:Int->Bool) (n:Nat)
 |ins (C dx:Addr) (fs:List (Str×V))
 |own (x:Addr)
 |xd (fs:List (Str×V))
 |met (f x:Addr)
 |Qc (lo hi:Int)
 |Oz (o:Obj) (u:HO)
 |tbl (ps:U1)
 |ext (φ:Heap->Prop)
abbrev Hp:=Addr->Option HO
noncomputable def upd(H:Hp)(a:Addr)(o:HO):Hp:=λb=>if b=a then some o else H b
def xm:upd H a o a=some o:=by unfold upd;rw[dg rfl]
def m5(h:b≠a):upd H a o b=H b:=by unfold upd;rw[bx h]
def ao1{H:Hp}(h:H a=some o)(Z:H b=some u)(d:o≠u):a≠b:=by intro e;subst e;rw[h] at Z;exact d (jy Z)
def m9{H:Hp}(h:H a=some o)(Z:H b=none):a≠b:=by intro e;subst e;rw[h] at Z;cases Z
section
variable(P:Program)(w:World)
def aa3(h:Heap)(a:Addr)(Z:U1):Prop:=∃o,h.get? a=some o/\o.cls=.type "tuple"/\∃n,o.data=.seq Z n/\o.dict=none
def aa3.is(x:aa3 h a items):IsTup h a items:=let ⟨o,h1,h2,n,h3,_⟩:=x;⟨o,h1,h2,n,h3⟩
def aa3.new(h:Heap)(items:U1):aa3 (h.push { cls:=.type "tuple",data:=.seq items }) h.objs.size items:=⟨_,bu _ rfl,rfl,_,rfl,rfl⟩
def Ba(H:Hp)(h:Heap)(a:Addr):HO->Prop
 |.lst Z=>Z.length<=sizeLine/\∃(U:Zl)(n:Nat),Vals Z U/\h.get? a=some { cls:=.type "list",data:=.seq U.toArray n }|.tup Z=>Z.length<=sizeLine/\∃U:List Value,Vals Z U/\aa3 h a U.toArray|.dK ik=>ik.length<=sizeLine/\(a==sysModules)=false/\∃vs,KV ik vs/\h.DictOf (mz P w) a vs
 |.dT ik=>ik.length<=sizeLine/\(a==sysModules)=false/\∃Z:List (List Key×Addr×Value),
  Paired (λ(p:List Key×V) (q:List Key×Addr×Value)=>p.1=q.1/\H q.2.1=some (.tup (p.1.map kV))/\RelV p.2 q.2.2) ik Z /\
  ∃o R ep,h.get? a=some o/\o.ExactDict/\o.data=.dict R ep/\R.toList=Z.map (entryOfKey (tupleKind (mz P w)))/\(Z.map (·.1)).Nodup
 |.set S n=>h.SetOf (intKind P w) a S n
 |.ins C dx fs=>H dx=some (.own a)/\fs.length<=1000/\dx≠a/\h.get? a=some (PySem.W.instObj C dx) /\
  ∃G,h.Ns1 dx G/\(∀f,Mt (fs.lookup f) (G f))/\PySem.Within G (fs.map (·.1))
 |.own _=>∃o,h.get? a=some o|.xd fs=>∃G,h.Ns1 a G/\∀f,Mt (fs.lookup f) (G f)|.Qc lo hi=>∃t u v,h.get? a=some { cls:=.type "range",data:=.fields #[.int lo t,.int hi u,.int 1 v] }|.Oz o u=>h.get? a=some o/\Ba H h a u|.tbl ps=>h.get? a=some { cls:=.none,data:=.fields ps }|.met f x=>h.get? a=some (PySem.W.methodObj (.ref f) (.ref x))|.ext φ=>φ h/\(∃o,h.get? a=some o)/\∀h1 h2:Heap,φ h1->(∀o,h1.get? a=some o->h2.get? a=some o)->φ h2
def Ql(H:Hp)(h:Heap):Prop:=∀a o,H a=some o->Ba P w H h a o
end
theorem Ba.lt(x:Ba P w H h a o):a<h.objs.size:=by
 cases o with
 |lst Z=>obtain⟨_,_,_,_,e⟩:=x;exact az e
 |tup Z=>obtain⟨_,_,_,p⟩:=x;exact(aa3.is p).lt
 |dK G=>obtain⟨_,_,_,_,o,_,_,e,_⟩:=x;exact az e
 |dT G=>obtain⟨_,_,_,_,o,_,_,e,_⟩:=x;exact az e
 |set S n=>obtain⟨o,_,_,_,e,_⟩:=x;exact az e
 |ins C dx fs=>obtain⟨_,_,_,e,_⟩:=x;exact az e
 |own y=>obtain⟨_,e⟩:=x;exact az e
 |xd fs=>obtain⟨_,⟨_,_,_,e,_⟩,_⟩:=x;exact az e
 |Qc R hi=>obtain⟨_,_,_,e⟩:=x;exact az e
 |Oz U u=>obtain⟨e,_⟩:=x;exact az e
 |tbl ps=>exact az (show h.get? a=some _ from x)
 |met f y=>exact az (show h.get? a=some _ from x)
 |ext φ=>obtain⟨_,⟨_,e⟩,_⟩:=x;exact az e
theorem Paired.a1j{α R:Type}{F G:α->R->Prop}:∀{Z:List α}{U:List R},Paired F Z U->(∀a b,F a b->G a b)->Paired G Z U:=by intro _ _ h f;induction h with|nil=>exact .nil|cons r t ih=>exact .cons (f _ _ r) ih
def Ba.stay(x:Ba P w H h a o)(k:∀b u,(b=a\/H b=some (.own a))->h.get? b=some u->h'.get? b=some u)(ho:∀b,H b=some (.own a)->H' b=some (.own a))(ht:∀b R,H b=some (.tup R)->H' b=some (.tup R)):Ba P w H' h' a o:=by
 induction o with
 |lst R=>obtain⟨z,xf,n,r,e⟩:=x;exact⟨z,xf,n,r,k _ _ (.inl rfl) e⟩
 |tup R=>obtain⟨z,xf,r,Z,e,c⟩:=x;exact⟨z,xf,r,Z,k _ _ (.inl rfl) e,c⟩
 |dK ik=>obtain⟨z,y,vs,r,Z,G,U,e,c⟩:=x;exact⟨z,y,vs,r,Z,G,U,k _ _ (.inl rfl) e,c⟩
 |dT ik =>
  obtain⟨z,y,R,r,Z,G,U,e,c⟩:=x;exact⟨z,y,R,Paired.a1j r λp q z=>⟨z.1,ht _ _ z.2.1,z.2.2⟩,Z,G,U,k _ _ (.inl rfl) e,c⟩
 |set S n=>obtain⟨Z,G,U,t,e,c⟩:=x;exact⟨Z,G,U,t,k _ _ (.inl rfl) e,c⟩
 |ins C dx fs =>
  obtain⟨d,z,ne,e,mA,⟨od,G,U,e2,c⟩,r⟩:=x;exact⟨ho _ d,z,ne,k _ _ (.inl rfl) e,mA,⟨od,G,U,k _ _ (.inr d) e2,c⟩,r⟩
 |own y=>obtain⟨Z,e⟩:=x;exact⟨Z,k _ _ (.inl rfl) e⟩
 |xd fs=>obtain⟨mA,⟨od,G,U,e,c⟩,r⟩:=x;exact⟨mA,⟨od,G,U,k _ _ (.inl rfl) e,c⟩,r⟩
 |Qc lo hi=>obtain⟨t,u,v,e⟩:=x;exact⟨t,u,v,k _ _ (.inl rfl) e⟩
 |Oz Z u ih=>obtain⟨e,q⟩:=x;exact⟨k _ _ (.inl rfl) e,ih q⟩
 |tbl ps =>
  have e:h.get? a=some { cls:=.none,data:=.fields ps }:=x;show h'.get? a=some { cls:=.none,data:=.fields ps };exact k a _ (.inl rfl) e
 |met f y =>
  have e:h.get? a=some (PySem.W.methodObj (.ref f) (.ref y)):=x;show h'.get? a=some (PySem.W.methodObj (.ref f) (.ref y));exact k a _ (.inl rfl) e
 |ext φ=>obtain⟨p,⟨o,e⟩,st⟩:=x;exact⟨st _ _ p λo q=>k _ _ (.inl rfl) q,⟨o,k _ _ (.inl rfl) e⟩,st⟩
theorem Ql.lt(x:Ql P w H h)(e:H a=some o):a<h.objs.size:=(x a o e).lt
def Ql.fresh(x:Ql P w H h)(e:h.objs.size<=a):H a=none:=by
 cases q:H a with
 |none=>rfl|some u=>exact absurd (ir (x.lt q) e) (qy _)
def Ql.kept(x:Ql P w H h)(k:∀b u,h.get? b=some u->h'.get? b=some u):Ql P w H h':=λa o e =>
 (x a o e).stay (λb u _ q=>k b u q) (λ_ q=>q) λ_ _ q=>q
def Ql.laid(x:Ql P w H h)(k:∀b u,h.get? b=some u->h'.get? b=some u)(U:h.objs.size<=a)(new:Ba P w (upd H a o) h' a o):Ql P w (upd H a o) h':=λb u e=>by
 have Z:=x.fresh U
 by_cases G:b=a
 .subst G;rw[xm] at e;cases e;exact new
 .rw[m5 G] at e
  exact(x b u e).stay (λc v _ q=>k c v q) (λc q=>by rw[m5 (m9 q Z)];exact q) λc R q=>by rw[m5 (m9 q Z)];exact q
def Rd(H:Hp)(a:Addr)(u:HO):Prop:=H a=some u\/∃o,H a=some (.Oz o u)
def Rd.ok(r:Rd H a u)(x:Ql P w H h):Ba P w H h a u:=by
 rcases r with r|⟨o,r⟩
 .exact x a u r
 .obtain⟨_,q⟩:=x a _ r
  exact q
def Mut:Option HO->Prop
 |some (.lst _)=>True|some (.dK _)=>True|some (.dT _)=>True|some (.set _ _)=>True|some (.ins _ _ _)=>True|some (.ext _)=>True|_=>False
def Ql.write(ok:Ql P w H h)(mu:Mut (H x))(he:e=x\/H e=some (.own x))(k:∀b u,b≠e->h.get? b=some u->h'.get? b=some u)(qq:∃u,h'.get? e=some u)(new:Ba P w (upd H x o') h' x o'):Ql P w (upd H x o') h':=λb u q=>by
 have G:∀c y,H c=some (.own y)->c≠x:=λc y r z=>by subst z;rw[r] at mu;exact mu
 have qk:∀c U,H c=some (.tup U)->c≠x:=λc U r z=>by subst z;rw[r] at mu;exact mu
 by_cases R:b=x
 .subst R;rw[xm] at q;cases q;exact new
 .rw[m5 R] at q
  by_cases Z:b=e
  .have q':H b=some (.own x):=by
    rcases he with z|z
    .exact absurd (Z.trans z) R
    .rw[Z];exact z
   rw[q] at q';cases q';obtain⟨v,hv⟩:=qq;exact⟨v,by rw[Z];exact hv⟩
  .refine(ok b u q).stay (λc v hc r=>k c v ?_ r) (λc r=>by rw[m5 (G c b r)];exact r) λc U r=>by rw[m5 (qk c U r)];exact r
   rcases hc with rfl|hc
   .exact Z
   .rintro rfl
    rcases he with z|z
    .exact G c b hc z
    .rw[hc] at z;cases z;exact R rfl
structure Un(fs ex:X9)(H H':Hp)(h h':Heap):Prop where
 keep:∀b o,h.get? b=some o->H b=none->b∉fs->b∉ex->h'.get? b=some o
 slot:∀b o,h.get? b=some o->H b=none->b∈fs->b∉ex->∃sl,h'.get? b=some { o with slots:=sl }
 free:∀b o,h.get? b=some o->H b=none->b∉ex->H' b=none
 there:∀b o,h.get? b=some o->b∉ex->∃o',h'.get? b=some o'
 W4:∀b xs,H b=some (.tup xs)->H' b=some (.tup xs)
 aa4:∀b o u,H b=some (.Oz o u)->H' b=some (.Oz o u)
 ado:∀b ps,H b=some (.tbl ps)->∃more,H' b=some (.tbl (ps++more))
def Un.any(u:Un fs ex H H1 h h1)(q:h.get? b=some Z)(n:H b=none)(G:b∉ex):∃R,h1.get? b=some { Z with slots:=R }:=by
 by_cases U:b∈fs
 .exact u.slot b Z q n U G
 .exact⟨Z.slots,u.keep b Z q n U G⟩
def Un.kept(k:∀b u,h.get? b=some u->h'.get? b=some u):Un fs ex H H h h' :=
 ⟨λb Z q _ _ _=>k b Z q,λb Z q _ _ _=>⟨Z.slots,k b Z q⟩,λ_ _ _ n _=>n,λb Z q _=>⟨Z,k b Z q⟩,λ_ _ q=>q,λ_ _ _ q=>q,λ_ G q=>⟨#[],by rw[q];simp⟩⟩
def Un.refl:Un fs ex H H h h:=Un.kept λ_ _ q=>q
theorem Un.laid(k:∀b u,h.get? b=some u->h'.get? b=some u)(U:h.objs.size<=a)(Z:H a=none):Un fs ex H (upd H a o) h h' where
 keep:=λb u q _ _ _=>k b u q
 slot:=λb u q _ _ _=>⟨u.slots,k b u q⟩
 free:=λb u q n _=>by rw[m5 (gh (ir (az q) U))];exact n
 there:=λb u q _=>⟨u,k b u q⟩
 W4:=λb G q=>by rw[m5 (m9 q Z)];exact q
 aa4:=λb u G q=>by rw[m5 (m9 q Z)];exact q
 ado:=λb R q=>⟨#[],by rw[m5 (m9 q Z),q];simp⟩
def Un.write(G:Mut (H x))(he:e=x\/H e=some (.own x))(k:∀b u,b≠e->h.get? b=some u->h'.get? b=some u)(U:∃u,h'.get? e=some u):Un fs ex H (upd H x o) h h':=by
 have hx:∀b,H b=none->b≠x:=λb n z=>by subst z;rw[n] at G;exact G
 have hb:∀b,H b=none->b≠e:=λb n z=>by
  subst z;rcases he with r|r
  .exact hx b n r
  .rw[n] at r;cases r
 have R:∀b u,H b=some u->¬Mut (some u)->b≠x:=λb u q nm z=>by subst z;rw[q] at G;exact nm G
 refine⟨λb u q n _ _=>k b u (hb b n) q,λb u q n _ _=>⟨u.slots,k b u (hb b n) q⟩,λb u q n _=>by rw[m5 (hx b n)];exact n,λb u q _=>?_,
  λb xs q=>by rw[m5 (R b _ q λz=>z)];exact q,λb u xs q=>by rw[m5 (R b _ q λz=>z)];exact q,λb ps q=>⟨#[],by rw[m5 (R b _ q λz=>z),q];simp⟩⟩
 by_cases Z:b=e
 .subst Z;exact U
 .exact⟨u,k b u Z q⟩
noncomputable def trk(h:Heap)(H:Hp):List Addr:=(List.range h.objs.size).filter λa=>(H a).isSome
def aa5(h:Heap)(H:Hp):Heap:=PySem.W.hideAll h (trk h H)
def alb(h:Heap)(H:Hp):(aa5 h H).objs.size=h.objs.size:=PySem.W.hideAll_size _ _
def ao2(e:h.get? b=some o)(n:H b=none):(aa5 h H).get? b=some o :=
 PySem.W.hideAll_get _ e λZ=>by have q:(H b).isSome=true:=(ur.mp Z).2;rw[n] at q;simp at q
def avi(e:(aa5 h H).get? b=some o):h.get? b=some o/\H b=none:=by
 have Z:h.get? b=some o:=PySem.W.of_hideAll (trk h H) e;refine⟨Z,?_⟩;cases q:H b with
 |none=>rfl
 |some x =>
  have G:b∈trk h H:=ur.mpr ⟨fc.mpr (az Z),by simp[q]⟩;have z:(aa5 h H).get? b=none:=PySem.W.hideAll_none (trk h H) G;rw[z] at e;cases e
end L2
namespace L2
open PySem PySem.Spec PyProof.Rows
structure Mod(K:Fg)(mg:Zs)(base:Heap):Prop where
 kin:K.In base
 glob:base.Ns mainGlobals mg
 blt:∃mb,base.Ns builtinsNs mb/\∀x:Str,x≠"__name__" -> mb x=bootBuiltins x
 nolimit:base.NoLimit
structure Cx where
 prog:Program
 w:World
 K:Fg
 mg:Str->Option Value
 base:Heap
 A:Around
 N:List Str
 s₀:Shared
 H₀:Hp
 env:Env
 outer:List Env
 stack:List Env
 ex:List Addr
 fn:Str->Bool
 calm:Bool
 pn:List (Addr×Obj)
 xe:Value->Shared->Prop
noncomputable def frs(l:List Env):List Addr:=l.filterMap (·.frame)
abbrev Cx.fs(X:Cx):List Addr:=frs X.outer
def Vis(Z:Scope)(x:Str):Prop:=Z.names.lookup x=some .local\/Z.names.lookup x=some .cell\/Z.names.lookup x=some .free
def Loc(Z:Scope)(x:Str):Prop:=Z.names.lookup x=some .local\/Z.names.lookup x=some .cell
def Look(Z:Env)(h:Heap)(m:Zs)(x:Str)(u:Value):Prop :=
 (Z.kindOf x=some .local/\m x=some u)\/((Z.kindOf x=some .cell\/Z.kindOf x=some .free)/\∃c,Z.cells.lookup x=some c/\h.IsCell c (some u))
structure Cx.Ok(X:Cx):Prop where
 mod:Mod X.K X.mg X.base
 kind:X.env.scope.kind=.function
 glob:X.env.globals=mainGlobals
 blt:X.env.builtins=builtinsNs
 above:X.s₀.heap.objs.size<=X.env.locals
 inj:∀x y c,X.env.cells.lookup x=some c->X.env.cells.lookup y=some c->x=y
 has:∀x,(X.env.kindOf x=some .cell\/X.env.kindOf x=some .free)->∃c,X.env.cells.lookup x=some c
 cab:∀x c,X.fn x=true->X.env.cells.lookup x=some c->X.s₀.heap.objs.size<=c
 hd:X.calm=true->X.A.handled=none
 frames:X.A.frames=some X.stack
 stk:X.stack=X.outer\/(X.stack=X.env::X.outer/\X.env.frame=some X.env.locals)
 exf:∀b∈X.ex,b≠X.env.locals/\∀x c,X.env.cells.lookup x=some c->c≠b
 bs:∀b o,X.base.get? b=some o->X.s₀.heap.get? b=some o/\X.H₀ b=none
 bsz:X.base.objs.size<=X.s₀.heap.objs.size
 ao4:∀b o,X.base.get? b=some o->b∉X.ex
 avl:∀b∈X.ex,b∉X.fs
 Vq:X.s₀.heap.FunFrames X.base X.outer
 frf:∀b∈X.fs,X.H₀ b=none
structure Inv(X:Cx)(pins:Zp)(σ:List (Option V))(H:Hp)(s:Shared):Prop where
 ok:X.Ok
 os:s.os=X.s₀.os
 bare:AllBare s.gens
 base:Un X.fs X.ex X.H₀ H X.s₀.heap s.heap
 loc:∃m,s.heap.Ns X.env.locals m/\∀(i:Nat)(x:Str)(v:V),X.N[i]?=some x->σ[i]?=some (some v)->Vis X.env.scope x->∃u,RelV v u/\Look X.env s.heap m x u
 cell:∀x c,X.env.cells.lookup x=some c->∃v,s.heap.IsCell c v
 free:H X.env.locals=none
 O1:∀x c,X.env.cells.lookup x=some c->H c=none
 pin:∀p∈X.pn++pins,s.heap.get? p.1=some p.2/\H p.1=none/\p.1≠X.env.locals/\p.1∉X.fs/\∀v,p.2.data≠.cell v
 Av:Ql X.prog X.w H s.heap
 len:σ.length=X.N.length
def Cx.Ok.bfm{X:Cx}(ok:X.Ok)(e:X.base.get? b=some o):b∉X.fs:=λZ=>by have:=(ok.Vq.mem Z).1;rw[e] at this;cases this
theorem Inv.bs(I:Inv X pins σ H s):∀b o,X.base.get? b=some o->s.heap.get? b=some o/\H b=none:=λb o e =>
 ⟨I.base.keep b o (I.ok.bs b o e).1 (I.ok.bs b o e).2 (I.ok.bfm e) (I.ok.ao4 b o e),I.base.free b o (I.ok.bs b o e).1 (I.ok.bs b o e).2 (I.ok.ao4 b o e)⟩
def Inv.bk(I:Inv X pins σ H s):∀b o,X.base.get? b=some o->s.heap.get? b=some o:=λb o e=>(I.bs b o e).1
theorem Inv.mod(I:Inv X pins σ H s):Mod X.K X.mg X.base:=I.ok.mod
def Inv.U9(I:Inv X pins σ H s):X.K.In s.heap:=I.ok.mod.kin.keeps I.bk
theorem Inv.lt(I:Inv X pins σ H s):X.env.locals<s.heap.objs.size:=let ⟨_,hn,_⟩:=I.loc;hn.lt
def Inv.sz(I:Inv X pins σ H s):X.s₀.heap.objs.size<=s.heap.objs.size:=iu I.ok.above (yj I.lt)
def Inv.a1n(I:Inv X pins σ H s)(h:s.heap.objs.size<=a):a∉X.fs:=λZ=>by obtain⟨_,o,G,_⟩:=I.ok.Vq.mem Z;exact absurd (ir (az G) (iu I.sz h)) (qy _)
def Inv.cne(I:Inv X pins σ H s):∀x c,X.env.cells.lookup x=some c->c≠X.env.locals:=λx c e z=>by obtain⟨v,o,U,R⟩:=I.cell x c e;obtain⟨m,⟨o',es,ep,G,Z,_⟩,_⟩:=I.loc;rw[z,G] at U;cases U;rw[Z] at R;cases R
theorem Inv.Vq(I:Inv X pins σ H s):s.heap.FunFrames X.base X.outer:=by
 have all:∀(l:List Env),(∀b∈frs l,b∈X.fs)->X.s₀.heap.FunFrames X.base l->s.heap.FunFrames X.base l:=by
  intro l
  induction l with
  |nil=>intro _ _;trivial
  |cons qq r ih =>
   intro R hl;obtain⟨hk,⟨L,o,Z,hn,ho,hd⟩,hr⟩:=hl;have G:L∈X.fs:=R L (by unfold frs;rw[List.filterMap_cons,Z];exact cu);obtain⟨sl,e⟩:=I.base.slot L o ho (I.ok.frf L G) G λz=>I.ok.avl L z G
   exact⟨hk,⟨L,_,Z,hn,e,hd⟩,ih (λb U=>R b (by unfold frs;rw[List.filterMap_cons,Z];exact bh _ U)) hr⟩
 exact all X.outer (λ_ U=>U) I.ok.Vq
theorem Inv.stack(I:Inv X pins σ H s):s.heap.FunFrames X.base X.stack:=by
 rcases I.ok.stk with e|⟨e,hf⟩
 .rw[e];exact I.Vq
 .rw[e]
  obtain⟨m,Z,_⟩:=I.loc;refine .cons (by rw[I.ok.kind];decide) hf Z ?_ I.Vq;exact Heap.get?_none_of_le (iu I.ok.bsz I.ok.above)
def Inv.aa6(I:Inv X pins σ H s):∀b∈frs X.stack,b∈X.env.locals::X.fs:=λb Z=>by
 rcases I.ok.stk with e|⟨e,hf⟩
 .rw[e] at Z;exact bh _ Z
 .rw[e] at Z
  unfold frs at Z;rw[List.filterMap_cons,hf] at Z;exact Z
def Inv.ai1(I:Inv X pins σ H s):∀b∈frs X.stack,H b=none:=λb Z=>by
 rcases cj.mp (I.aa6 b Z) with e|Z
 .rw[e];exact I.free
 .obtain⟨_,o,G,_⟩:=I.ok.Vq.mem Z
  exact I.base.free b o G (I.ok.frf b Z) λz=>I.ok.avl b z Z
def Inv.step{ch:X9}(I:Inv X pins σ H s)(U:∀b∈ch,(b∈X.ex\/X.s₀.heap.objs.size<=b)/\b≠X.env.locals/\(∀x c,X.env.cells.lookup x=some c->c≠b)/\∀p∈X.pn++pins,p.1≠b)(keep:∀b o,b≠X.env.locals->b∉X.fs->b∉ch->s.heap.get? b=some o->H b=none->h'.get? b=some o)(qk:∀b o,b≠X.env.locals->b∈X.fs->b∉ch->s.heap.get? b=some o->H b=none->∃sl,h'.get? b=some { o with slots:=sl })(free:∀b o,b∉ch->s.heap.get? b=some o->H b=none->H' b=none)(qv:∀b o,b∉ch->s.heap.get? b=some o->∃o',h'.get? b=some o')(W4:∀b xs,H b=some (.tup xs)->H' b=some (.tup xs))(q1:∀b o u,H b=some (.Oz o u)->H' b=some (.Oz o u))(q2:∀b ps,H b=some (.tbl ps)->∃more,H' b=some (.tbl (ps++more)))(ns:∀m,s.heap.Ns X.env.locals m->h'.Ns X.env.locals m)(Av:Ql X.prog X.w H' h')(hg:AllBare g') :
 Inv X pins σ H' { s with heap:=h',gens:=g',drawn:=d',toks:=t' }:=by
 have q0:∀b o,X.s₀.heap.get? b=some o->b≠X.env.locals:=λb o e=>gh (ir (az e) I.ok.above)
 have qq:∀b o,X.s₀.heap.get? b=some o->b∉X.ex->b∉ch:=λb o e Z hb=>by
  rcases(U b hb).1 with z|z
  .exact Z z
  .exact absurd (ir (az e) z) (qy _)
 have G:∀x c,X.env.cells.lookup x=some c->∀v,s.heap.IsCell c v->h'.IsCell c v:=λx c e v ⟨o,ho,hd⟩=>by
  have R:c∉ch:=λz=>(U c z).2.2.1 x c e rfl
  by_cases hc:c∈X.fs
  .obtain⟨sl,q⟩:=qk c o (I.cne x c e) hc R ho (I.O1 x c e)
   exact⟨_,q,hd⟩
  .exact⟨o,keep c o (I.cne x c e) hc R ho (I.O1 x c e),hd⟩
 refine⟨I.ok,I.os,hg,⟨λb o e n hb Z=>?_,λb o e n hb Z=>?_,λb o e n Z=>?_,λb o e Z=>?_,λb xs e=>W4 b xs (I.base.W4 b xs e),λb o xs e=>q1 b o xs (I.base.aa4 b o xs e),λb ps e=>?_⟩,?_,λx c e=>?_,?_,λx c e=>?_,λp hp=>?_,Av,I.len⟩
 .exact keep b o (q0 b o e) hb (qq b o e Z) (I.base.keep b o e n hb Z) (I.base.free b o e n Z)
 .obtain⟨sl,e1⟩:=I.base.slot b o e n hb Z
  obtain⟨q3,e2⟩:=qk b _ (q0 b o e) hb (qq b o e Z) e1 (I.base.free b o e n Z);exact⟨q3,e2⟩
 .obtain⟨o',e1⟩:=I.base.there b o e Z
  exact free b o' (qq b o e Z) e1 (I.base.free b o e n Z)
 .obtain⟨o',e1⟩:=I.base.there b o e Z
  exact qv b o' (qq b o e Z) e1
 .obtain⟨m1,e1⟩:=I.base.ado b ps e
  obtain⟨m2,e2⟩:=q2 b _ e1;exact⟨m1++m2,by rw[e2,Array.append_assoc]⟩
 .obtain⟨m,hn,hl⟩:=I.loc
  refine⟨m,ns m hn,λi x v e1 e2 e3=>?_⟩;obtain⟨u,r,l⟩:=hl i x v e1 e2 e3;refine⟨u,r,?_⟩;rcases l with l|⟨k,c,e,z⟩
  .exact .inl l
  .exact .inr ⟨k,c,e,G x c e _ z⟩
 .obtain⟨v,z⟩:=I.cell x c e
  exact⟨v,G x c e v z⟩
 .obtain⟨m,⟨o,_,_,ho,_⟩,_⟩:=I.loc
  exact free _ o (λz=>(U _ z).2.1 rfl) ho I.free
 .obtain⟨v,o,ho,hd⟩:=I.cell x c e
  exact free c o (λz=>(U c z).2.2.1 x c e rfl) ho (I.O1 x c e)
 .obtain⟨e,n,ne,nf,d⟩:=I.pin p hp
  have R:p.1∉ch:=λz=>(U p.1 z).2.2.2 p hp rfl
  exact⟨keep p.1 p.2 ne nf R e n,free p.1 p.2 R e n,ne,nf,d⟩
def Inv.un(I:Inv X pins σ H s)(u:Un X.fs [] H H' s.heap h')(Av:Ql X.prog X.w H' h'):Inv X pins σ H' { s with heap:=h',toks:=t' }:=by
 obtain⟨m,⟨o,es,ep,ho,r⟩,_⟩:=id I.loc;obtain⟨sl,hL⟩:=u.any ho I.free (by simp);exact I.step (g':=s.gens) (d':=s.drawn) (ch:=[]) (λ_ z=>nomatch z) (λb o _ U _ e n=>u.keep b o e n U (by simp)) (λb o _ U _ e n=>u.slot b o e n U (by simp)) (λb o _ e n=>u.free b o e n (by simp)) (λb o _ e=>u.there b o e (by simp)) u.W4 u.aa4 u.ado (λm' hm=>by
  obtain⟨o',G,R,Z,r'⟩:=hm;rw[ho] at Z;cases Z;exact⟨_,G,R,hL,r'⟩) Av I.bare
def Inv.call(I:Inv X pins σ H s)(u:Un (frs X.stack) ch H H' s.heap h')(Av:Ql X.prog X.w H' h')(hg:AllBare g')(G:∀b∈ch,(b∈X.ex\/X.s₀.heap.objs.size<=b)/\b≠X.env.locals/\(∀x c,X.env.cells.lookup x=some c->c≠b)/\∀p∈X.pn++pins,p.1≠b) :
 Inv X pins σ H' { s with heap:=h',gens:=g',drawn:=d',toks:=t' }:=by
 obtain⟨m,⟨o,es,ep,ho,r⟩,_⟩:=id I.loc;obtain⟨sl,hL⟩:=u.any ho I.free λz=>(G _ z).2.1 rfl
 exact I.step (ch:=ch) G (λb o hL hb Z e n=>u.keep b o e n (λz=>(cj.mp (I.aa6 b z)).elim hL hb) Z) (λb o _ _ Z e n=>u.any e n Z) (λb o Z e n=>u.free b o e n Z) (λb o Z e=>u.there b o e Z) u.W4 u.aa4 u.ado (λm' hm=>by
  obtain⟨o',R,qq,U,r'⟩:=hm;rw[ho] at U;cases U;exact⟨_,R,qq,hL,r'⟩) Av hg
def Inv.turned(I:Inv X pins σ H s)(k:∀b o,b≠it->s.heap.get? b=some o->h'.get? b=some o)(hn:H it=none)(U:it≠X.env.locals)(h1:it∈X.ex\/X.s₀.heap.objs.size<=it)(h2:∀x c,X.env.cells.lookup x=some c->c≠it)(h3:∀p∈X.pn++pins,p.1≠it):Inv X pins σ H { s with heap:=h',toks:=t' }:=by
 have G:∀b u,H b=some u->b≠it:=λb u e z=>by rw[z,hn] at e;cases e
 refine I.step (g':=s.gens) (d':=s.drawn) (ch:=[it]) (λb hb=>?_) (λb o _ _ Z e _=>k b o (λz=>Z (by simp[z])) e) (λb o _ _ Z e _=>⟨o.slots,k b o (λz=>Z (by simp[z])) e⟩) (λ_ _ _ _ n=>n)
  (λb o Z e=>⟨o,k b o (λz=>Z (by simp[z])) e⟩) (λ_ _ e=>e) (λ_ _ _ e=>e) (λb ps e=>⟨#[],by rw[e];simp⟩) (λm hm=>?_) (λb u e=>?_) I.bare
 .have e:b=it:=by simpa using hb
  subst e;exact⟨h1,U,h2,h3⟩
 .obtain⟨o,R,ep,ho,r⟩:=hm
  exact⟨o,R,ep,k _ o (j0 U) ho,r⟩
 .refine(I.Av b u e).stay (λc v Z q=>k c v ?_ q) (λ_ q=>q) λ_ _ q=>q
  rcases Z with z|z
  .rw[z];exact G b u e
  .exact G c _ z
def Inv.tok(I:Inv X pins σ H s)(t:Nat):Inv X pins σ H { s with toks:=t }:=I.un (h':=s.heap) (t':=t) Un.refl I.Av
theorem Inv.kept(I:Inv X pins σ H s)(k:∀b u,s.heap.get? b=some u->Z.get? b=some u):Inv X pins σ H { s with heap:=Z,toks:=t' }:=I.un (Un.kept k) (I.Av.kept k)
theorem Inv.laid(I:Inv X pins σ H s)(k:∀b u,s.heap.get? b=some u->h'.get? b=some u)(Z:s.heap.objs.size<=a)(new:Ba X.prog X.w (upd H a o) h' a o) :
 Inv X pins σ (upd H a o) { s with heap:=h',toks:=t' }:=I.un (Un.laid k Z (I.Av.fresh Z)) (I.Av.laid k Z new)
theorem Inv.write(I:Inv X pins σ H s)(R:Mut (H x))(U:e=x\/H e=some (.own x))(k:∀b u,b≠e->s.heap.get? b=some u->G.get? b=some u)(Z:∃u,G.get? e=some u)(new:Ba X.prog X.w (upd H x o) G x o):Inv X pins σ (upd H x o) { s with heap:=G,toks:=t' }:=I.un (Un.write R U k Z) (I.Av.write R U k Z new)
def Inv.weak(I:Inv X pins σ H s)(U:σ'.length=σ.length)(w:∀(i:Nat) v,σ'[i]?=some (some v)->σ[i]?=some (some v)):Inv X pins σ' H s :=
 ⟨I.ok,I.os,I.bare,I.base,let ⟨m,hn,hl'⟩:=I.loc;⟨m,hn,λi x v Z G R=>hl' i x v Z (w i v G) R⟩,I.cell,I.free,I.O1,I.pin,I.Av,U.trans I.len⟩
def Inv.Sd(I:Inv X pins σ H s)(h:∀p∈ai2,s.heap.get? p.1=some p.2/\H p.1=none/\p.1≠X.env.locals/\p.1∉X.fs/\∀v,p.2.data≠.cell v):Inv X ai2 σ H s :=
 ⟨I.ok,I.os,I.bare,I.base,I.loc,I.cell,I.free,I.O1,λp Z=>(dw.mp Z).elim (λz=>I.pin p (qg _ z)) (h p),I.Av,I.len⟩
def Ku{N:Yf}(U:N.Nodup){i:Nat}(a:N[i]?=some x)(b:N[j]?=some x):i=j:=by obtain⟨h1,G⟩:=ak.mp a;obtain⟨R,Z⟩:=ak.mp b;exact(yg U).mp (G.trans Z.symm)
def alc(I:Inv X pins σ H s)(hN:X.N.Nodup)(hi:X.N[i]?=some x)(hx:Loc X.env.scope x)(r:RelV v u)(h:∀s',Inv X pins (σ.set i (some v)) H s'->(∃a,Heap.SameBut a s.heap s'.heap/\(a=X.env.locals\/X.env.cells.lookup x=some a))->Q () s')(hf:X.fn x=true\/X.env.scope.names.lookup x=some .local:=by first|exact .inl rfl|exact .inr rfl|assumption):wpAny M A (storeName X.env x u) Q E s:=by
 obtain⟨m,hn,hl⟩:=id I.loc;have q3:(X.env.scope.kind==.class||(X.env.scope.kind==.module&&X.env.locals != X.env.globals))=false:=by rw[I.ok.kind];rfl
 have qq:i < σ.length:=by rw[I.len];exact(ak.mp hi).1
 have cne:=I.cne;have G:∀{a:Addr}{h':Heap},(∃o,s.heap.get? a=some o/\H a=none)->Heap.SameBut a s.heap h'->Ql X.prog X.w H h':=fun{a h'} ha Z b ob e=>by
  obtain⟨_,_,Va⟩:=ha;refine(I.Av b ob e).stay (λc w' R q=>(Z.2 c ?_).trans q) (λ_ q=>q) λ_ _ q=>q
  rintro rfl;rcases R with rfl|R
  .rw[Va] at e;cases e
  .rw[Va] at R;cases R
 rcases hx with hk|hk
 .refine wpAny_storeName_local hk hn (λh' Py Z=>?_) q3
  obtain⟨oL,_,_,q4,_⟩:=id hn;refine h _ ⟨I.ok,I.os,I.bare,⟨λb o e n hb hx=>?_,λb o e n hb hx=>?_,I.base.free,λb o e hx=>?_,I.base.W4,I.base.aa4,I.base.ado⟩,⟨_,Py,λj y v' U e2 e3=>?_⟩,λy c e=>?_,I.free,I.O1,λp hp=>?_,G ⟨oL,q4,I.free⟩ Z,by simpa using I.len⟩ ⟨_,Z,.inl rfl⟩
  .exact(Z.2 b (gh (ir (az e) I.ok.above))).trans (I.base.keep b o e n hb hx)
  .obtain⟨sl,U⟩:=I.base.slot b o e n hb hx
   exact⟨sl,(Z.2 b (gh (ir (az e) I.ok.above))).trans U⟩
  .obtain⟨o',U⟩:=I.base.there b o e hx
   exact⟨o',(Z.2 b (gh (ir (az e) I.ok.above))).trans U⟩
  .by_cases hj:j=i
   .subst hj
    rw[hi] at U;cases U;rw[zy qq] at e2;cases e2;exact⟨u,r,.inl ⟨hk,by simp⟩⟩
   .rw[vf (j0 hj)] at e2
    obtain⟨u',r',q⟩:=hl j y v' U e2 e3;refine⟨u',r',?_⟩;rcases q with⟨k,e⟩|⟨k,c,e,z⟩
    .refine .inl ⟨k,?_⟩
     have:y≠x:=λe=>hj (Ku hN U (e▸hi))
     simp[this,e]
    .exact .inr ⟨k,c,e,z.sameBut Z (cne y c e)⟩
  .obtain⟨w',z⟩:=I.cell y c e
   exact⟨w',z.sameBut Z (cne y c e)⟩
  .obtain⟨e,n,ne,nf,d⟩:=I.pin p hp
   exact⟨(Z.2 p.1 ne).trans e,n,ne,nf,d⟩
 .have qk:X.fn x=true:=by
   rcases hf with z|z
   .exact z
   .rw[z] at hk;cases hk
  obtain⟨c,R⟩:=I.ok.has x (.inl hk);obtain⟨w',z⟩:=I.cell x c R;refine wpAny_storeName_cell I.ok.kind hk R z (λh' q0 Z=>?_);obtain⟨oc,qv,q2⟩:=id z;refine h { s with heap:=h' } ⟨I.ok,I.os,I.bare,⟨λb o e n hb hx=>?_,λb o e n hb hx=>?_,I.base.free,λb o e hx=>?_,I.base.W4,I.base.aa4,I.base.ado⟩,⟨m,hn.sameBut Z (j0 (cne x c R)),λj y v' U e2 e3=>?_⟩,λy c' e=>?_,I.free,I.O1,λp hp=>?_,G ⟨oc,qv,I.O1 x c R⟩ Z,by simpa using I.len⟩ ⟨c,Z,.inr R⟩
  .exact(Z.2 b (gh (ir (az e) (I.ok.cab x c qk R)))).trans (I.base.keep b o e n hb hx)
  .obtain⟨sl,U⟩:=I.base.slot b o e n hb hx
   exact⟨sl,(Z.2 b (gh (ir (az e) (I.ok.cab x c qk R)))).trans U⟩
  .obtain⟨o',U⟩:=I.base.there b o e hx
   exact⟨o',(Z.2 b (gh (ir (az e) (I.ok.cab x c qk R)))).trans U⟩
  .by_cases hj:j=i
   .subst hj
    rw[hi] at U;cases U;rw[zy qq] at e2;cases e2;exact⟨u,r,.inr ⟨.inl hk,c,R,q0⟩⟩
   .rw[vf (j0 hj)] at e2
    obtain⟨u',r',q⟩:=hl j y v' U e2 e3;refine⟨u',r',?_⟩;rcases q with q|⟨k,c',e,z'⟩
    .exact .inl q
    .refine .inr ⟨k,c',e,z'.sameBut Z ?_⟩
     rintro rfl;exact hj (Ku hN U (I.ok.inj _ _ _ e R▸hi))
  .by_cases q1:c'=c
   .subst q1;exact⟨_,q0⟩
   .obtain⟨w2,z2⟩:=I.cell y c' e
    exact⟨w2,z2.sameBut Z q1⟩
  .obtain⟨e,n,ne,nf,d⟩:=I.pin p hp
   refine⟨(Z.2 p.1 ?_).trans e,n,ne,nf,d⟩;intro q;rw[q,qv] at e;have q':oc=p.2:=jy e;exact d w' (by rw[<- q'];exact q2)
def ao6(I:Inv X pins σ H s)(hN:X.N.Nodup)(R:X.N[i]?=some x)(G:Loc X.env.scope x)(r:RelV v u)(h:∀Z,Inv X pins (σ.set i (some v)) H Z->Q () Z)(U:X.fn x=true\/X.env.scope.names.lookup x=some .local:=by first|exact .inl rfl|exact .inr rfl|assumption):wpAny M A (storeName X.env x u) Q E s :=
 alc I hN R G r (λZ I' _=>h Z I') U
def Inv.call'(I:Inv X pins σ H s)(ho:s'.os=s.os)(u:Un (frs X.stack) ch H R s.heap s'.heap)(Av:Ql X.prog X.w R s'.heap)(hg:AllBare s'.gens)(Z:∀b∈ch,(b∈X.ex\/X.s₀.heap.objs.size<=b)/\b≠X.env.locals/\(∀x c,X.env.cells.lookup x=some c->c≠b)/\∀p∈X.pn++pins,p.1≠b):Inv X pins σ R s':=by obtain⟨h',g',U,G,o'⟩:=s';have e:o'=s.os:=ho;subst e;exact I.call (g':=g') (t':=G) (d':=U) u Av hg Z
abbrev XK:=Value->Option Addr->Hp->Prop
abbrev St:=List (Option V)
abbrev VK:=V->Hp->Prop
abbrev TE:=St->Hp->VK->Prop
abbrev TT:=St->Hp->(Bool->Hp->Prop)->Prop
abbrev TA:=St->Hp->(List V->Hp->Prop)->Prop
structure Ends where
 nx:St->Hp->Prop
 rt:VK
 bk:St->Hp->Prop:=λ_ _=>False
 ct:St->Hp->Prop:=λ_ _=>False
abbrev TS:=Ends->St->Hp->Prop
def EP(X:Cx)(Z:Zp)(U:St)(Q:VK)(u:Value)(R:Shared):Prop:=∃v G,Inv X Z U G R/\RelV v u/\Q v G
def TP(X:Cx)(Z:Zp)(U:St)(Q:Bool->Hp->Prop)(b:Bool)(R:Shared):Prop:=∃G,Inv X Z U G R/\Q b G
def AP(X:Cx)(Z:Zp)(σ:St)(Q:List V->Hp->Prop)(us:Zl)(R:Shared):Prop:=∃U G,Inv X Z σ G R/\Vals U us/\Q U G
def SP(X:Cx)(G:Zp)(D:Ends)(f:Flow)(R:Shared):Prop :=
 match f with
 |.next=>∃Z U,Inv X G Z U R/\D.nx Z U|.brk=>∃Z U,Inv X G Z U R/\D.bk Z U|.cont=>∃Z U,Inv X G Z U R/\D.ct Z U|.ret u=>∃v Z U,Inv X G Z U R/\RelV v u/\D.rt v U
def PE(X:Cx)(e:Expr)(t:TE):Prop :=
 ∀(Z:Zp)(s:Shared)(G:St)(H:Hp)(Q:VK),Inv X Z G H s->t G H Q->wpAny (model X.prog X.w) X.A (eval e X.env) (EP X Z G Q) X.xe s
def PT(X:Cx)(e:Expr)(t:TT):Prop :=
 ∀(Z:Zp)(s:Shared)(G:St)(H:Hp)(Q:Bool->Hp->Prop),Inv X Z G H s->t G H Q->wpAny (model X.prog X.w) X.A (isTrue e X.env (eval e X.env)) (TP X Z G Q) X.xe s
def PW(X:Cx)(e:Expr)(t:TT):Prop :=
 ∀(G:Sem Value)(Z:Zp)(s:Shared)(U:St)(H:Hp)(Q:Bool->Hp->Prop),Inv X Z U H s->t U H Q->wpAny (model X.prog X.w) X.A (isTrue e X.env G) (TP X Z U Q) X.xe s
def PW.pt(h:PW X e t):PT X e t:=h _
def PA(X:Cx)(U:Ya)(t:TA):Prop :=
 ∀(pos:Pos)(Z:Zp)(s:Shared)(G:St)(H:Hp)(Q:List V->Hp->Prop),Inv X Z G H s->t G H Q->wpAny (model X.prog X.w) X.A (spliced (backTo pos (starEach U X.env))) (AP X Z G Q) X.xe s
def PS(X:Cx)(st:Stmt)(t:TS):Prop :=
 ∀(Z:Zp)(s:Shared)(G:St)(H:Hp)(D:Ends),Inv X Z G H s->t D G H->wpAny (model X.prog X.w) X.A (exec st X.env) (SP X Z D) X.xe s
def Sg(X:Cx)(st:List Stmt)(t:TS):Prop :=
 ∀(Z:Zp)(s:Shared)(G:St)(H:Hp)(D:Ends),Inv X Z G H s->t D G H->wpAny (model X.prog X.w) X.A (execs st X.env) (SP X Z D) X.xe s
def Bu(h:wpAny M A t Q E s)(G:∀a s,Q a s->Z a s):wpAny M A t Z E s:=mj h G λ_ _ x=>x
end L2
namespace L2
open PySem PySem.Spec PyProof.Rows
def bfq(i:Nat):TE:=λZ H Q=>∃v,Z[i]?=some (some v)/\Q v H
def tC(v:V):TE:=λ_ H Q=>Q v H
def a1p(hN:X.N[i]?=some x)(hv:Vis X.env.scope x)(hd:(x==("__debug__" : Str))=false:=by decide)(R:(x==("__classdict__" : Str))=false:=by decide):PE X (.Name x pos) (bfq i):=by
 intro G s σ H Q I h;obtain⟨v,e,h⟩:=h;obtain⟨m,hn,hl⟩:=I.loc;obtain⟨u,r,l⟩:=hl i x v hN e hv;have fin:EP X G σ Q u s:=⟨v,H,I,r,h⟩;rcases l with⟨Z,hm⟩|⟨Z,c,hc,U⟩
 .exact wpAny_Name (wpAny_loadName_local I.ok.kind Z hn hm fin) hd
 .rcases Z with Z|Z
  .exact wpAny_Name (wpAny_loadName_cell I.ok.kind Z hc U fin) hd
  .exact wpAny_Name (wpAny_loadName_free I.ok.kind Z hc U fin R) hd
def a1q:PE X (.Constant (.int i) j pos) (tC (.int i)):=λ_ _ _ H _ I h=>wpAny_Constant_int ⟨.int i,H,I.tok _,⟨_,rfl⟩,h⟩
def a8r:PE X (.Constant (.bool b) j pos) (tC (.bl b)):=λ_ _ _ H _ I h=>Constant_bool ⟨.bl b,H,I,rfl,h⟩
def Gl(X:Cx)(x:Str):Prop:=X.env.kindOf x=some .globalImplicit
def aa7(I:Inv X pins σ H s)(G:Gl X x)(Z:X.mg x=some u)(h:Q u s)(U:(x==("__debug__" : Str))=false:=by decide):wpAny (model X.prog X.w) X.A (eval (.Name x pos) X.env) Q E s :=
 Calls.Name_function_global I.ok.kind G (Calls.loadGlobal_global (by rw[I.ok.glob];exact I.mod.glob.keeps I.bk) Z h) U
def Cw(I:Inv X pins σ H s)(hg:Gl X x)(R:X.mg x=none)(hv:bootBuiltins x=some u)(h:Q u s)(Z:x≠"__name__" := by decide)(hd:(x==("__debug__" : Str))=false:=by decide):wpAny (model X.prog X.w) X.A (eval (.Name x pos) X.env) Q E s:=by obtain⟨mb,U,G⟩:=I.mod.blt;exact Calls.Name_function_global I.ok.kind hg (Calls.loadGlobal_builtin (by rw[I.ok.glob];exact I.mod.glob.keeps I.bk) R (by rw[I.ok.blt];exact U.keeps I.bk) ((G x Z).trans hv) h) hd
def avm(G:Gl X x)(Z:X.mg x=some u)(r:RelV v u)(U:(x==("__debug__" : Str))=false:=by decide):PE X (.Name x pos) (tC v) :=
 λ_ _ _ H _ I h=>aa7 I G Z ⟨v,H,I,r,h⟩ U
def PC(X:Cx)(op:CmpOp)(a b:Expr)(t:TE):Prop :=
 ∀(Z:Zp)(s:Shared)(R:St)(H:Hp)(Q:VK),Inv X Z R H s->t R H Q ->
  wpAny (model X.prog X.w) X.A (eval a X.env) (λv G=>wpAny (model X.prog X.w) X.A (eval b X.env) (λu U=>wpAny (model X.prog X.w) X.A (compareOp op v u) (EP X Z R Q) X.xe U) X.xe G) X.xe s
def adp(b:Expr)(h:op≠.In)(G:op≠.NotIn):behindInMarks op b=false:=by
 have U:(op==CmpOp.In)=false:=by cases op<;>first|rfl|exact absurd rfl h
 have Z:(op==CmpOp.NotIn)=false:=by cases op<;>first|rfl|exact absurd rfl G
 cases b<;>simp[behindInMarks,U,Z]
def tB(t:TE):TT:=λG H Q=>t G H λx Z=>∃c,x=.bl c/\Q c Z
def a1r(h:PC X op a b t)(R:behindInMarks op b=false:=by first|exact adp _ (by decide) (by decide)|rfl):PE X (.Compare a [op] [b] pos) t:=λZ s G H Q I U=>wpAny_Compare1 (h Z s G H Q I U) R
def a1s(h:PC X op a b t)(G:behindInMarks op b=false:=by first|exact adp _ (by decide) (by decide)|rfl):PT X (.Compare a [op] [b] pos) (tB t):=by intro Z s R H Q I hw;refine wpAny_isTrue_Compare1 (Bu (h Z s R H _ I hw) λv s1 G=>Bu G λu s2 U=>Bu U λc s3 ⟨x,H1,I1,r1,q1⟩=>?_) G;obtain⟨d,rfl,q⟩:=q1;cases r1;exact j5 ⟨H1,I1,q⟩
def a1t(h:PE X e t)(U:∀Z,isTrue e X.env Z=(do let v <- Z;standAt e.pos;holding [v] (truthy v)):=by intro _;rfl):PT X e (tB t):=by intro G s R H Q I hw;refine isTrue_plain (Bu (h G s R H _ I hw) λv s1 ⟨x,H1,I1,r1,q1⟩=>?_) (U _);obtain⟨d,rfl,q⟩:=q1;cases r1;exact j5 ⟨H1,I1,q⟩
def bfr(t u:TT):TT:=λG H Q=>t G H λc Z=>if c=true then u G Z Q else Q false Z
def tOr(t u:TT):TT:=λG H Q=>t G H λc Z=>if c=true then Q true Z else u G Z Q
def bfs(t:TT):TT:=λG H Q=>t G H λc Z=>Q (!c) Z
def avn(U:PT X a tA):PW X (.BoolOp .And [a] pos) tA:=by
 intro wh Z s G H Q I h;refine isTrue_and (Bu (U Z s G H Q I h) λc R e=>?_);cases c with
 |true=>exact isTrue_and_nil e|false=>exact e
def a1u(U:PT X a tA):PW X (.BoolOp .Or [a] pos) tA:=by
 intro wh Z s G H Q I h;refine isTrue_or (Bu (U Z s G H Q I h) λc R e=>?_);cases c with
 |false=>exact isTrue_or_nil e|true=>exact e
def a1v{G:Ya}(ha:PT X a tA)(hb:PW X (.BoolOp .And (b::G) pos) tB'):PW X (.BoolOp .And (a::b::G) pos) (bfr tA tB'):=by
 intro wh Z s R H Q I h;refine isTrue_and (Bu (ha Z s R H _ I h) λc s1 z_=>?_);obtain⟨H1,U,q1⟩:=z_;cases c with
 |true=>exact hb wh Z s1 R H1 Q U q1|false=>exact⟨H1,U,q1⟩
def a8s{G:Ya}(ha:PT X a tA)(hb:PW X (.BoolOp .Or (b::G) pos) tB'):PW X (.BoolOp .Or (a::b::G) pos) (tOr tA tB'):=by
 intro wh Z s R H Q I h;refine isTrue_or (Bu (ha Z s R H _ I h) λc s1 z_=>?_);obtain⟨H1,U,q1⟩:=z_;cases c with
 |true=>exact⟨H1,U,q1⟩|false=>exact hb wh Z s1 R H1 Q U q1
def a1w(R:PT X a tA):PT X (.UnaryOp .Not a pos) (bfs tA):=by intro Z s U H Q I h;exact isTrue_not (R Z s U H (λc G=>Q (!c) G) I h)
def a8t(U R:TE):TE:=λZ H Q=>U Z H λx G=>∃c,x=.bl c/\if c=true then R Z G Q else Q (.bl false) G
def bfu(U R:TE):TE:=λZ H Q=>U Z H λx G=>∃c,x=.bl c/\if c=true then Q (.bl true) G else R Z G Q
def a8u(Z:TE):TE:=λU H Q=>Z U H λx G=>∃c,x=.bl c/\Q (.bl (!c)) G
def a1x{G:Ya}(ha:PE X a ta)(hb:PE X (.BoolOp .And (b::G) pos) tb):PE X (.BoolOp .And (a::b::G) pos) (a8t ta tb):=by
 intro Z s R H Q I h;refine BoolOp_and (Bu (ha Z s R H _ I h) λv s1 z_=>?_);obtain⟨x,H1,I1,r1,U⟩:=z_;obtain⟨c,rfl,U⟩:=U;cases r1;refine j5 ?_;cases c with
 |true=>exact hb Z s1 R H1 Q I1 U|false=>exact⟨.bl false,H1,I1,rfl,U⟩
def a8v{G:Ya}(ha:PE X a ta)(hb:PE X (.BoolOp .Or (b::G) pos) tb):PE X (.BoolOp .Or (a::b::G) pos) (bfu ta tb):=by
 intro Z s R H Q I h;refine BoolOp_or (Bu (ha Z s R H _ I h) λv s1 z_=>?_);obtain⟨x,H1,I1,r1,U⟩:=z_;obtain⟨c,rfl,U⟩:=U;cases r1;refine j5 ?_;cases c with
 |false=>exact hb Z s1 R H1 Q I1 U|true=>exact⟨.bl true,H1,I1,rfl,U⟩
def a1y(R:PE X a ta):PE X (.UnaryOp .Not a pos) (a8u ta):=by intro Z s U H Q I h;refine UnaryOp_ (Bu (R Z s U H _ I h) λv s1 z_=>?_);obtain⟨x,H1,I1,r1,G⟩:=z_;obtain⟨c,rfl,G⟩:=G;cases r1;exact not_of (j5 ⟨.bl (!c),H1,I1,rfl,G⟩)
def tIf(t:TT)(U R:TE):TE:=λZ H Q=>t Z H λc G=>if c=true then U Z G Q else R Z G Q
def ao7(hc:PT X c tA)(ha:PE X a ta)(hb:PE X b tb):PE X (.IfExp c a b pos) (tIf tA ta tb):=by
 intro Z s G H Q I h;refine wpAny_IfExp (Bu (hc Z s G H _ I h) λd R z_=>?_);obtain⟨H1,U,q1⟩:=z_;cases d with
 |true=>exact ha Z R G H1 Q U q1|false=>exact hb Z R G H1 Q U q1
end L2
namespace L2
open PySem PySem.Spec PyProof.Rows
def Gw(K:Fg)(H:Hp)(a:Addr)(G:List V):Prop :=
 Rd H a (.lst G) \/
  ∃(o:Obj)(Z:U1)(n:Nat),K.lookup a=some o/\o.cls=.type "list"/\o.dict=none/\o.data=.seq Z n/\Z.size<=sizeLine/\Vals G Z.toList
def Mw(K:Fg)(H:Hp)(a:Addr)(G:List V):Prop :=
 Rd H a (.tup G) \/
  ∃(o:Obj)(Z:U1)(n:Nat),K.lookup a=some o/\o.cls=.type "tuple"/\o.data=.seq Z n/\Z.size<=sizeLine/\Vals G Z.toList
noncomputable def bfv:Value->Option V
 |.none=>some .non|.bool b=>some (.bl b)|.int i _=>some (.int i)|.str x _=>some (.str x)|.bytes b _=>some (.byt b)|.float b _=>some (.flt b)|.ref a=>some (.ref a)|.type n=>some (.ty n)|_=>none
def RelV.abs(r:RelV x u):bfv u=some x:=by
 cases x with
 |non=>cases r;rfl|bl _=>cases r;rfl|int _=>obtain⟨t,rfl⟩:=r;rfl
 |str _=>obtain⟨t,rfl⟩:=r;rfl
 |byt _=>obtain⟨t,rfl⟩:=r;rfl
 |flt _=>obtain⟨t,rfl⟩:=r;rfl
 |ref _=>cases r;rfl|ty _=>cases r;rfl
def RelV.inj(r:RelV x u)(q:RelV y u):x=y:=jy (r.abs.symm.trans q.abs)
theorem Vals.inj:∀{G Z:List V}{U:Zl},Vals G U->Vals Z U->G=Z
 |_,_,_,.nil,.nil=>rfl|_,_,_,.cons r t,.cons r' t'=>by rw[r.inj r',Vals.inj t t']
def Gw.of{K:Fg}(h:H a=some (.lst xs)):Gw K H a xs:=.inl (.inl h)
def Mw.of{K:Fg}(h:H a=some (.tup xs)):Mw K H a xs:=.inl (.inl h)
def Inv.list(I:Inv X pins σ H s)(h:Gw X.K H a G):∃Z:List Value,Vals G Z/\PlainL s.heap a Z.toArray/\G.length<=sizeLine:=by
 rcases h with h|⟨o,Z,n,hk,hc,hd,hs,hz,r⟩
 .obtain⟨z,Z,n,r,e⟩:=h.ok I.Av
  exact⟨Z,r,⟨_,n,e,rfl,rfl,rfl⟩,z⟩
 .refine⟨Z.toList,r,⟨o,n,I.U9 a o hk,hc,hd,by simpa using hs⟩,?_⟩
  have e:=r.length;simp only[v5] at e;exact a_ (f_ e) hz
def Inv.tuple(I:Inv X pins σ H s)(h:Mw X.K H a G):∃Z:List Value,Vals G Z/\IsTup s.heap a Z.toArray/\G.length<=sizeLine:=by
 rcases h with h|⟨o,Z,n,hk,hc,hs,hz,r⟩
 .obtain⟨z,Z,r,p⟩:=h.ok I.Av
  exact⟨Z,r,p.is,z⟩
 .refine⟨Z.toList,r,⟨o,I.U9 a o hk,hc,n,by simpa using hs⟩,?_⟩
  have e:=r.length;simp only[v5] at e;exact a_ (f_ e) hz
def Inv.adq(I:Inv X pins σ H s)(h:Gw X.K H a R)(h':Gw X.K H a ys):R=ys:=by
 obtain⟨xf,r,⟨o,n,e,_,_,d⟩,_⟩:=I.list h;obtain⟨its',U,⟨o',n',Z,_,_,G⟩,_⟩:=I.list h';rw[e] at Z;cases Z;rw[d] at G;injection G with d1 _
 have:xf=its':=by simpa using ud Array.toList d1
 subst this;exact r.inj U
def Inv.Za(I:Inv X pins σ H s)(h:Mw X.K H a R)(h':Mw X.K H a ys):R=ys:=by
 obtain⟨xf,r,⟨o,e,_,n,d⟩,_⟩:=I.tuple h;obtain⟨its',U,⟨o',Z,_,n',G⟩,_⟩:=I.tuple h';rw[e] at Z;cases Z;rw[d] at G;injection G with d1 _
 have:xf=its':=by simpa using ud Array.toList d1
 subst this;exact r.inj U
noncomputable abbrev Cx.Yj(X:Cx)(E:Y1):Cx:={ X with xe:=E }
abbrev Cx.nox(X:Cx):Cx:=X.Yj λ_ _=>False
theorem Cx.Ok.Yj{X:Cx}(ok:X.Ok)(E:Y1):(X.Yj E).Ok :=
 ⟨ok.mod,ok.kind,ok.glob,ok.blt,ok.above,ok.inj,ok.has,ok.cab,ok.hd,ok.frames,ok.stk,ok.exf,ok.bs,ok.bsz,ok.ao4,ok.avl,ok.Vq,ok.frf⟩
def Cx.Ok.O2{X:Cx}(ok:(X.Yj E).Ok):X.Ok :=
 ⟨ok.mod,ok.kind,ok.glob,ok.blt,ok.above,ok.inj,ok.has,ok.cab,ok.hd,ok.frames,ok.stk,ok.exf,ok.bs,ok.bsz,ok.ao4,ok.avl,ok.Vq,ok.frf⟩
theorem Inv.Yj(I:Inv X pins σ H s)(E:Y1):Inv (X.Yj E) pins σ H s:=⟨I.ok.Yj E,I.os,I.bare,I.base,I.loc,I.cell,I.free,I.O1,I.pin,I.Av,I.len⟩
theorem Inv.O2(I:Inv (X.Yj E) pins σ H s):Inv X pins σ H s:=⟨I.ok.O2,I.os,I.bare,I.base,I.loc,I.cell,I.free,I.O1,I.pin,I.Av,I.len⟩
theorem SP.O2(h:SP (X.Yj E) pins D f s'):SP X pins D f s':=by
 cases f with
 |next=>obtain⟨Z,G,I,q⟩:=h;exact⟨Z,G,I.O2,q⟩
 |brk=>obtain⟨Z,G,I,q⟩:=h;exact⟨Z,G,I.O2,q⟩
 |cont=>obtain⟨Z,G,I,q⟩:=h;exact⟨Z,G,I.O2,q⟩
 |ret u=>obtain⟨v,Z,G,I,r,q⟩:=h;exact⟨v,Z,G,I.O2,r,q⟩
theorem Sg.nox{st:List Stmt}(h:Sg X.nox st t):Sg X st t:=λZ s G H D I U =>
 mj (h Z s G H D (I.Yj _) U) (λ_ _ q=>q.O2) λ_ _ z=>False.elim z
def a8x:TS:=λD Z H=>D.nx Z H
def bfw(t u:TS):TS:=λD Z H=>t { D with nx:=u D } Z H
def avo:Sg X [] a8x:=λ_ _ Z H _ I h=>wpAny_execs_nil ⟨Z,H,I,h⟩
def ao8{st:Stmt}{G:List Stmt}(h1:PS X st t)(R:Sg X G u):Sg X (st::G) (bfw t u):=by
 intro Z s σ H D I h;refine wpAny_execs_cons (Bu (h1 Z s σ H { D with nx:=u D } I h) λf s1 q=>?_);cases f with
 |next =>
  obtain⟨U,H',I',q⟩:=q;exact R Z s1 U H' D I' q
 |ret v=>exact q|brk=>exact q|cont=>exact q
def a1z:TS:=λD Z H=>D.bk Z H
def a8y:TS:=λD Z H=>D.ct Z H
def ao9:PS X (.Break pos) a1z:=λ_ _ Z H _ I h=>wpAny_Break ⟨Z,H,I,h⟩
def adt:PS X (.Continue pos) a8y:=λ_ _ Z H _ I h=>wpAny_Continue ⟨Z,H,I,h⟩
def Inv.quiet(I:Inv X pins σ H s):interactive X.env=false:=by simp[interactive,I.ok.kind]
def a8z(U:TE):TS:=λD Z H=>U Z H λ_ G=>D.nx Z G
def avp(U:PE X e te)(R:swapsWith e none pos.line X.env=pure false:=by rfl):PS X (.Expr e pos) (a8z te):=by intro Z s G H D I h;exact wpAny_Expr_any (Bu (U Z s G H _ I h) λv s1 ⟨x,H1,I1,r1,q1⟩=>⟨G,H1,I1,q1⟩) I.quiet R
def bfx(G:TE):TS:=λD Z H=>G Z H D.rt
def a2a(U:PE X e R):PS X (.Return (some e) pos) (bfx R):=by intro Z s G H D I h;exact wpAny_Return_some (Bu (U Z s G H _ I h) λv s1 ⟨x,H1,I1,r1,q1⟩=>⟨x,G,H1,I1,r1,q1⟩)
def bfy(c:TT)(t u:TS):TS:=λD Z H=>c Z H λb G=>if b=true then t D Z G else u D Z G
def a80(hc:PT X c tc)(ha:Sg X a t)(hb:Sg X b u):PS X (.If c a b pos) (bfy tc t u):=by
 intro Z s G H D I h;refine wpAny_If (Bu (hc Z s G H _ I h) λd R z_=>?_);obtain⟨H1,U,q1⟩:=z_;cases d with
 |true=>exact ha Z R G H1 D U q1|false=>exact hb Z R G H1 D U q1
abbrev TG:=V->St->Hp->(St->Hp->Prop)->Prop
abbrev TGs:=List V->St->Hp->(St->Hp->Prop)->Prop
def PG(X:Cx)(Z:Expr)(t:TG):Prop :=
 ∀(G:Zp)(s:Shared)(R:St)(H:Hp)(v:V)(u:Value)(Q:St->Hp->Prop),Inv X G R H s->RelV v u->t v R H Q ->
  wpAny (model X.prog X.w) X.A (assign Z X.env u) (λ_ s'=>∃U H',Inv X G U H' s'/\Q U H') X.xe s
def PGs(X:Cx)(ts:Ya)(t:TGs):Prop :=
 ∀(Z:Zp)(s:Shared)(U:St)(H:Hp)(vs:List V)(us:Zl)(Q:St->Hp->Prop),Inv X Z U H s->Vals vs us->t vs U H Q ->
  wpAny (model X.prog X.w) X.A (assignInOrder ((assignEach ts X.env).map (·.2)) us) (λ_ s'=>∃G R,Inv X Z G R s'/\Q G R) X.xe s
abbrev a2b:=V->V->V->Hp->(Hp->Prop)->Prop
def a2c(X:Cx)(t:a2b):Prop :=
 ∀(Z:Zp)(s:Shared)(U:St)(H:Hp)(o i v:V)(ov G u:Value)(Q:Hp->Prop),Inv X Z U H s->RelV o ov->RelV i G->RelV v u->t o i v H Q ->
  wpAny (model X.prog X.w) X.A (setItem ov G u) (λ_ s'=>∃R,Inv X Z U R s'/\Q R) X.xe s
def ai3(i:Nat):TG:=λv Z H Q=>Q (Z.set i (some v)) H
def aa8(hN:X.N.Nodup)(R:X.N[i]?=some x)(G:Loc X.env.scope x)(U:X.fn x=true\/X.env.scope.names.lookup x=some .local:=by first|exact .inl rfl|exact .inr rfl|assumption):PG X (.Name x pos) (ai3 i):=by intro Z s σ H v u Q I r h;exact wpAny_assign_Name (ao6 I hN R G r (λs' I'=>⟨_,H,I',h⟩) U)
def bfz:TGs:=λZ G H Q=>Z=[]/\Q G H
def a83(t:TG)(u:TGs):TGs:=λU R H Q=>∃v r,U=v::r/\t v R H λZ G=>u r Z G Q
def avq:PGs X [] bfz:=by intro Z s G H U R Q I r h;obtain⟨e,h⟩:=h;subst e;cases r;exact assignInOrder_nil ⟨G,H,I,h⟩
def apa(h1:PG X e t)(R:PGs X G u)(hs:(assignEach (e::G) X.env).map (·.2)=assign e X.env::(assignEach G X.env).map (·.2):=by rfl):PGs X (e::G) (a83 t u):=by
 intro Z s σ H vs us Q I r h;obtain⟨v,vr,e1,h⟩:=h;subst e1;cases r with
 |cons r rr =>
  rw[hs];refine assignInOrder_cons (Bu (h1 Z s σ H _ _ _ I r h) λ_ s1 z_=>?_);obtain⟨U,H1,I1,q1⟩:=z_;exact R Z s1 U H1 _ _ Q I1 rr q1
def bf0(K:Fg)(n:Nat)(t:TGs):TG:=λv G H Q=>∃a Z,v=.ref a/\Mw K H a Z/\Z.length=n/\t Z G H Q
def a2d(hc:X.calm=true)(h:PGs X G t)(hn:(assignEach G X.env).length=n:=by rfl)(U:(assignEach G X.env).findIdx? (·.1)=none:=by rfl):PG X (.Tuple G k pos) (bf0 X.K n t):=by
 intro Z s σ H v u Q I r R;obtain⟨a,xs,e1,hq,hl,R⟩:=R;subst e1;cases r;obtain⟨xf,rv,ht,hz⟩:=I.tuple hq;refine assign_Tuple_tuple (I.ok.hd hc) ht (by simp[hn,<- hl,rv.length]) U λh' hx=>?_
 have I1:Inv X Z σ H { s with heap:=h' }:=I.kept (t':=s.toks) λb o e=>hx b o (gh (az e)) e
 exact h Z _ σ H xs _ Q I1 (by simpa using rv) R
def bf1(to U:TE)(t:a2b):TG:=λv Z H Q=>to Z H λo R=>U Z R λi H2=>t o i v H2 λG=>Q Z G
def a2e(ho:PE X o to)(hi:PE X i ti)(hs:a2c X t)(ha:∀v,assign (.Subscript o i pos) X.env v=(do
 let G <- holding [v] (eval o X.env)
 let U <- holding [v,G] (eval i X.env)
 standAt pos
 holding [v,G,U] (setItem G U v)
 release [v,G,U] []):=by intro _;rfl):PG X (.Subscript o i pos) (bf1 to ti t):=by
 intro Z s R H v u Q I r h;rw[ha];refine aa (jr (Bu (ho Z s R H _ I h) λG s1 z_=>?_));obtain⟨x,H1,I1,r1,q1⟩:=z_;refine aa (jr (Bu (hi Z s1 R H1 _ I1 q1) λU s2 z_=>?_));obtain⟨y,H2,I2,r2,q2⟩:=z_;refine aa (wpAny_standAt (aa (jr (Bu (hs Z s2 R H2 x y v G U u _ I2 r1 r2 r q2) λ_ s3 z_=>?_))));obtain⟨H3,I3,q3⟩:=z_;exact wpAny_release ⟨R,H3,I3,q3⟩
def a2f(U:TE)(g:TG):TS:=λD Z H=>U Z H λx G=>g x Z G D.nx
def apb(U:PE X e te)(hg:PG X tg g)(R:swapsWithSole [tg] e pos.line X.env=pure false:=by rfl)(hw:swappedStores [tg] e X.env=pure none:=by rfl)(h1:(assignEach [tg] X.env).map (·.2)=[assign tg X.env]:=by rfl):PS X (.Assign [tg] e pos) (a2f te g):=by intro Z s G H D I h;refine wpAny_Assign_stores (Bu (U Z s G H _ I h) λv s1 ⟨x,H1,I1,r1,q1⟩=>?_) R hw;rw[h1];exact Bu (hg Z s1 G H1 x v _ I1 r1 q1) λ_ s2 q=>q
def a2g(c:TT)(tb:TS):TS:=λD Z H=>∃W:Nat->St->Hp->Prop,(∃m,W m Z H)/\∀m Z H,W m Z H ->
 c Z H λb R=>if b=true then ∃N:St->Hp->Prop,(∀G U,N G U->∃m',m'<m/\W m' G U)/\tb { D with nx:=N,ct:=N,bk:=D.nx } Z R else D.nx Z R
def apc(hp:PassesOwn (model X.prog X.w) X.A X.env X.xe)(hc:PT X c tc)(hb:Sg X body tb):PS X (.While c body [] pos) (a2g tc tb):=by
 intro Z s σ H D I h;obtain⟨W,⟨m0,w0⟩,qk⟩:=h;refine wpAny_While (codeAny_whileLoop (λn s'=>∃qq H',Inv X Z qq H' s'/\W n qq H') ?_ m0 ⟨σ,H,I,w0⟩);rintro n s1 ⟨U,H1,I1,w1⟩;refine uv hp (Bu (hc Z s1 U H1 _ I1 (qk n U H1 w1)) λb s2 z_=>?_);obtain⟨H2,I2,q2⟩:=z_;cases b with
 |true =>
  obtain⟨N,hN,q2⟩:=q2;rw[dg rfl];refine uv hp (Bu (hb Z s2 U H2 _ I2 q2) λf s3 q3=>?_);cases f with
  |next =>
   obtain⟨G,R,I3,n3⟩:=q3;obtain⟨m',hm,w3⟩:=hN G R n3;exact⟨m',hm,G,R,I3,w3⟩
  |cont =>
   obtain⟨G,R,I3,n3⟩:=q3;obtain⟨m',hm,w3⟩:=hN G R n3;exact⟨m',hm,G,R,I3,w3⟩
  |brk=>exact q3|ret v=>exact q3
 |false =>
  rw[bx jb];exact wpAny_execs_nil ⟨U,H2,I2,q2⟩
structure It where
 go:Nat->Hp->Prop
 yld:Nat->Hp->V->Hp->Prop
 stop:Nat->Hp->Prop
def Vr(X:Cx)(Z:Zp)(H:Hp)(b:Addr):Prop :=
 H b=none/\b≠X.env.locals/\b∉X.fs/\(b∈X.ex\/X.s₀.heap.objs.size<=b)/\(∀x c,X.env.cells.lookup x=some c->c≠b)/\∀p∈X.pn++Z,p.1≠b
def Inv.apd(I:Inv X pins σ H s)(Z:s.heap.objs.size<=b)(U:G b=none):Vr X pins G b:=by
 refine⟨U,yc (ir I.lt Z),I.a1n Z,.inr (iu I.sz Z),λx c e z=>?_,λp R z=>?_⟩
 .obtain⟨v,q⟩:=I.cell x c e
  exact absurd (ir q.lt (by rw[z];exact Z)) (qy _)
 .exact absurd (ir (az (I.pin p R).1) (by rw[z];exact Z)) (qy _)
structure Turn(P:Program)(w:World)(K:Fg)(tg:Expr)(J:It)(fp:X9)(it:Addr)(tn:Nat->Heap->Prop):Prop where
 mem:it∈fp
 obj:∀i h,tn i h->∀b∈fp,∃o,h.get? b=some o/\∀v,o.data≠.cell v
 keep:∀i h h',tn i h->(∀b∈fp,∀o,h.get? b=some o->h'.get? b=some o)->tn i h'
 item:∀(X:Cx),X.prog=P->X.w=w->X.K=K->X.calm=true->∀(i:Nat)(pins:Zp)(s:Shared)(σ:St)(H:Hp)(E:Y1),Inv X pins σ H s->(∀b∈fp,Vr X pins H b)->tn i s.heap->J.go i H ->
  wpAny (model P w) X.A (pyNext (.ref it)) (λr s1=>∃u,r=some u /\
   wpAny (model P w) X.A (letOwnedTupleGo tg (.ref it) u) (λ_ s2=>∃x H',Inv X pins σ H' s2/\RelV x u/\J.yld i H x H'/\tn (i+1) s2.heap/\∀b∈fp,H' b=none) E s1) E s
 done:∀(X:Cx),X.prog=P->X.w=w->X.K=K->X.calm=true->∀(i:Nat)(pins:Zp)(s:Shared)(σ:St)(H:Hp)(E:Y1),Inv X pins σ H s->(∀b∈fp,Vr X pins H b)->tn i s.heap->J.stop i H ->
  wpAny (model P w) X.A (pyNext (.ref it)) (λr s1=>r=none/\Inv X pins σ H s1) E s
 self:∀(A:Around)(i:Nat)(s:Shared)(Q:Y1)(E:Y1),tn i s.heap->Q (.ref it) s->wpAny (model P w) A (pyIter (.ref it)) Q E s
abbrev TI:=St->Hp->(It->Hp->Prop)->Prop
def PIE(X:Cx)(Z:Zp)(σ:St)(tg:Expr)(R:It->Hp->Prop)(G:Value)(s2:Shared):Prop :=
 ∃(it:Addr)(fp:X9)(tn:Nat->Heap->Prop)(J:It)(U:Hp),G=.ref it/\Inv X Z σ U s2/\Turn X.prog X.w X.K tg J fp it tn/\tn 0 s2.heap/\(∀b∈fp,Vr X Z U b)/\R J U
def PI(X:Cx)(tg G:Expr)(wi:TI):Prop :=
 ∀(Z:Zp)(s:Shared)(U:St)(H:Hp)(R:It->Hp->Prop),Inv X Z U H s->wi U H R ->
  wpAny (model X.prog X.w) X.A (eval G X.env) (λv s1=>wpAny (model X.prog X.w) X.A (pyIter v) (PIE X Z U tg R) X.xe s1) X.xe s
def ape(U:s.heap.get? it=some o)(R:o.cls=.type n)(hd:o.data=.fields vs)(G:["enumerate", "zip", "dict_itemiterator", "dict_reverseitemiterator", "odict_iterator", "itertools.zip_longest", "itertools.pairwise"].contains n=false)(Z:Q () s):wpAny M A (letOwnedTupleGo tg (.ref it) u) Q E s:=by
 unfold letOwnedTupleGo;cases tg<;>first
  |exact aj Z
  | (cases u<;>first
   |exact aj Z
   | (refine aa (wpAny_load U ?_)
      rw[R,hd];show wpAny M A (if(["enumerate", "zip", "dict_itemiterator", "dict_reverseitemiterator", "odict_iterator", "itertools.zip_longest", "itertools.pairwise"].contains n&&vs[0]?==some (rawInt _))=true then _ else _) Q E s;rw[bx (by intro h;rw[G,Bool.false_and] at h;cases h)];exact aj Z))
noncomputable def Itl(K:Fg)(a:Addr):It :=
 ⟨λi H=>∃Z x,Gw K H a Z/\Z[i]?=some x,λi H x G=>G=H/\∀Z,Gw K H a Z->Z[i]?=some x,λi H=>∃Z,Gw K H a Z/\Z.length<=i⟩
noncomputable def Itt(K:Fg)(a:Addr):It :=
 ⟨λi H=>∃Z x,Mw K H a Z/\Z[i]?=some x,λi H x G=>G=H/\∀Z,Mw K H a Z->Z[i]?=some x,λi H=>∃Z,Mw K H a Z/\Z.length<=i⟩
noncomputable def Pz(G:Int)(n:Nat):It:=⟨λi _=>i<n,λi H x Z=>Z=H/\x=.int (G+i),λi _=>n<=i⟩
theorem ald{K:Fg}(a it:Addr):Turn P w K tg (Itl K a) [it] it (λi h=>h.IsListIter it a i) where
 mem:=by simp
 obj:=λi h st b G=>by
  have e:b=it:=by simpa using G
  subst e;obtain⟨o,e,c,d⟩:=st;exact⟨o,e,λv z=>by rw[d] at z;cases z⟩
 keep:=λi h h' st k=>st.at λo e=>k it (by simp) o e
 item:=by
  intro X hP hw hK hc i Z s σ H E I R st hg;subst hP hw hK;obtain⟨xs,x,hq,hx⟩:=hg;obtain⟨xf,rv,p,hz⟩:=I.list hq;obtain⟨u,hu,ru⟩:=rv.get hx;obtain⟨f0,f1,f2,f3,f4,f5⟩:=R it (by simp);refine wpAny_pyNext_list_item st p.isList (x:=u) (by simpa using hu) λh' U sb=>?_
  have I1:Inv X Z σ H { s with heap:=h' }:=I.turned (t':=s.toks) (λb o G e=>(sb.2 b G).trans e) f0 f1 f3 f4 f5;obtain⟨o,e,c,d⟩:=id U;exact⟨u,rfl,ape (s:={ s with heap:=h' }) e c d (by decide) ⟨x,H,I1,ru,⟨rfl,λys hy=>by rw[I.adq hy hq];exact hx⟩,U,λb G=>(R b G).1⟩⟩
 done:=by intro X hP hw hK hc i Z s σ H E I R st hg;subst hP hw hK;obtain⟨xs,hq,hx⟩:=hg;obtain⟨xf,rv,p,hz⟩:=I.list hq;obtain⟨f0,f1,f2,f3,f4,f5⟩:=R it (by simp);have hl:=rv.length;exact wpAny_pyNext_list_end (I.ok.hd hc) st p.isList (by simp;exact a_ (g_ hl) hx) λh' eb=>⟨rfl,I.turned (t':=s.toks) (λb o G e=>eb b o G e) f0 f1 f3 f4 f5⟩
 self:=λ_ _ _ _ _ st h=>wpAny_pyIter_listiter st h
theorem agr{K:Fg}(a it:Addr):Turn P w K tg (Itt K a) [it] it (λi h=>h.IsTupleIter it a i) where
 mem:=by simp
 obj:=λi h st b G=>by
  have e:b=it:=by simpa using G
  subst e;obtain⟨o,e,c,d⟩:=st;exact⟨o,e,λv z=>by rw[d] at z;cases z⟩
 keep:=λi h h' st k=>st.at λo e=>k it (by simp) o e
 item:=by
  intro X hP hw hK hc i Z s σ H E I R st hg;subst hP hw hK;obtain⟨xs,x,hq,hx⟩:=hg;obtain⟨xf,rv,p,hz⟩:=I.tuple hq;obtain⟨u,hu,ru⟩:=rv.get hx;obtain⟨f0,f1,f2,f3,f4,f5⟩:=R it (by simp);refine wpAny_pyNext_tuple_item st (show s.heap.IsTuple a xf.toArray from p) (x:=u) (by simpa using hu) λh' U sb=>?_
  have I1:Inv X Z σ H { s with heap:=h' }:=I.turned (t':=s.toks) (λb o G e=>(sb.2 b G).trans e) f0 f1 f3 f4 f5;obtain⟨o,e,c,d⟩:=id U;exact⟨u,rfl,ape (s:={ s with heap:=h' }) e c d (by decide) ⟨x,H,I1,ru,⟨rfl,λys hy=>by rw[I.Za hy hq];exact hx⟩,U,λb G=>(R b G).1⟩⟩
 done:=by intro X hP hw hK hc i Z s σ H E I R st hg;subst hP hw hK;obtain⟨xs,hq,hx⟩:=hg;obtain⟨xf,rv,p,hz⟩:=I.tuple hq;obtain⟨f0,f1,f2,f3,f4,f5⟩:=R it (by simp);have hl:=rv.length;exact wpAny_pyNext_tuple_end (I.ok.hd hc) st (show s.heap.IsTuple a xf.toArray from p) (by simp;exact a_ (g_ hl) hx) λh' eb=>⟨rfl,I.turned (t':=s.toks) (λb o G e=>eb b o G e) f0 f1 f3 f4 f5⟩
 self:=λ_ _ _ _ _ st h=>wpAny_pyIter_tupleiter st h
theorem ags{K:Fg}(it:Addr)(lo:Int)(n:Nat):Turn P w K tg (Pz lo n) [it] it (λi h=>IsRangeIter h it (lo+(i:Nat)*1) ((n:Int)-(i:Nat)) 1) where
 mem:=by simp
 obj:=λi h st b G=>by
  have e:b=it:=by simpa using G
  subst e;exact⟨_,st,λv z=>by
   have z':Data.fields _=Data.cell v:=z;cases z'⟩
 keep:=λi h h' st k=>k it (by simp) _ st
 item:=by
  intro X hP hw hK hc i Z s σ H E I R st hg;subst hP hw hK;obtain⟨f0,f1,f2,f3,f4,f5⟩:=R it (by simp);have W:=Walks.range (prog:=X.prog) (w:=X.w) (I.ok.hd hc) it lo 1 n;refine W.item i s _ _ hg st λv h' tk hv U kk=>?_
  obtain⟨t,rfl⟩:=hv;have I1:Inv X Z σ H { s with heap:=h',toks:=tk }:=I.turned (λb o G e=>kk b o (by simpa using G) e) f0 f1 f3 f4 f5;refine⟨_,rfl,ape (s:={ s with heap:=h',toks:=tk }) (n := "range_iterator") U rfl rfl (by decide) ⟨.int (lo+i),H,I1,⟨t,?_⟩,⟨rfl,rfl⟩,U,λb G=>(R b G).1⟩⟩;rw[Int.mul_one]
 done:=by intro X hP hw hK hc i Z s σ H E I R st hg;subst hP hw hK;obtain⟨f0,f1,f2,f3,f4,f5⟩:=R it (by simp);exact wpAny_pyNext_range_end (I.ok.hd hc) st (by have:n<=i:=hg;lia) λh' eb=>⟨rfl,I.turned (t':=s.toks) (λb o G e=>eb b o G e) f0 f1 f3 f4 f5⟩
 self:=λ_ _ _ _ _ st h=>wpAny_pyIter_rangeiter st h
end L2
namespace L2
open PySem PySem.Spec PyProof.Rows
def apf{lo:Int}(I:Inv X pins σ H s)(h1:-(2 ^ 62)<=lo)(h2:lo<2 ^ 62)(h3:-(2 ^ 62)<=Z)(h4:Z<2 ^ 62)(q:R (Pz lo (Z-lo).toNat) H):wpAny (model X.prog X.w) X.A (pyIter (.ref s.heap.objs.size)) (PIE X pins σ tg R) E { s with heap:=s.heap.push { cls:=.type "range",data:=.fields #[.int lo t,.int Z u,.int 1 v] },toks:=U }:=by
 refine wpAny_pyIter_range (IsRange.new ..) (small_one h1 h2 h3 h4) ?_;have G:Inv X pins σ H { s with heap:=s.heap.push { cls:=.type "range",data:=.fields #[.int lo t,.int Z u,.int 1 v] },toks:=U }:=I.kept λb o e=>au _ e
 refine⟨(s.heap.push { cls:=.type "range",data:=.fields #[.int lo t,.int Z u,.int 1 v] }).objs.size,[(s.heap.push { cls:=.type "range",data:=.fields #[.int lo t,.int Z u,.int 1 v] }).objs.size],_,_,H,rfl,
  G.kept (t':=U) λb o e=>au _ e,ags _ lo (Z-lo).toNat,?_,λb hb=>?_,q⟩
 .have e1:lo+((0:Nat):Int)*1=lo:=by simp
  have e2:(((Z-lo).toNat:Nat):Int)-((0:Nat):Int)=Builtin.Range.rangeSize lo Z 1:=by rw[rangeSize_one];split<;>lia
  show IsRangeIter _ _ (lo+((0:Nat):Int)*1) ((((Z-lo).toNat:Nat):Int)-((0:Nat):Int)) 1;rw[e1,e2];exact bu _ rfl
 .have e:b=(s.heap.push { cls:=.type "range",data:=.fields #[.int lo t,.int Z u,.int 1 v] }).objs.size:=by simpa using hb
  subst e;exact G.apd (bw _) (G.Av.fresh (bw _))
def a85(Z:TA):TI:=λU H R=>Z U H λG H1=>∃j:Int,G=[.int j]/\-(2 ^ 62)<=j/\j<2 ^ 62/\R (Pz 0 j.toNat) H1
def ale{X:Cx}{tg:Expr}(hg:Gl X "range")(hm:X.mg "range" = none)(ha:PA X [a] ta)(hs:starEach [a] X.env=[(false,eval a X.env)]:=by rfl):PI X tg (.Call (.Name "range" p) [a] [] pos) (a85 ta):=by
 intro Z s σ H R I h;refine Call_ (Cw I hg hm boot_range (jh (Bu (ha pos Z s σ H _ I h) λus s1 ⟨vs,H1,I1,r1,G⟩=>?_) hs rfl));obtain⟨j,e,G,q2,q⟩:=G;subst e;cases r1 with
 |cons r U =>
  cases U;obtain⟨t,rfl⟩:=r;exact call_range_1 (apf I1 (by lia) (by lia) G q2 (by simpa using q))
def bf3(wi:TI)(g:TG)(tb:TS):TS:=λD Z H=>wi Z H λJ H1=>∃W:Nat->Nat->St->Hp->Prop,(∃m,W 0 m Z H1)/\∀i m Z H,W i m Z H ->
 (J.stop i H/\D.nx Z H)\/(J.go i H/\∃N:St->Hp->Prop,(∀G U,N G U->∃m',m'<m/\W (i+1) m' G U)/\∀x U,J.yld i H x U->g x Z U λR H2=>tb { D with nx:=N,ct:=N,bk:=D.nx } R H2)
noncomputable def Ug(Z:X9)(h:Heap):List (Addr×Obj):=Z.filterMap λb=>(h.get? b).map λo=>(b,o)
def Ln(G:b∈Z)(e:h.get? b=some o):(b,o)∈Ug Z h:=List.mem_filterMap.mpr ⟨b,G,by rw[e];rfl⟩
def alf(Z:p∈Ug G h):p.1∈G/\h.get? p.1=some p.2:=by
 obtain⟨b,U,e⟩:=List.mem_filterMap.mp Z;cases q:h.get? b with
 |none=>rw[q] at e;cases e
 |some o =>
  rw[q] at e;have R:(b,o)=p:=jy e;subst R;exact⟨U,q⟩
def Inv.pinned{X:Cx}(I:Inv X pins σ H s)(hf:∀b∈U,Vr X pins H b)(R:∀b∈U,∃o,s.heap.get? b=some o/\∀v,o.data≠.cell v):Inv X (pins++Ug U s.heap) σ H s :=
 I.Sd λp hp=>(dw.mp hp).elim (λz=>I.pin p (gw _ z)) λz=>by obtain⟨G,e⟩:=alf z;obtain⟨f0,f1,f2,_⟩:=hf p.1 G;obtain⟨o,Z,d⟩:=R p.1 G;rw[e] at Z;cases Z;exact⟨e,f0,f1,f2,d⟩
def Inv.O3{X:Cx}(I:Inv X (pins++G) σ H s):Inv X pins σ H s:=I.Sd λp Z=>I.pin p (gw _ (qg _ Z))
def a2h{X:Cx}{tg:Expr}(hp:PassesOwn (model X.prog X.w) X.A X.env X.xe)(hc:X.calm=true)(hi:PI X tg iter wi)(hg:PG X tg g)(hb:Sg X body tb)(hs:∀x,foldedSetIterable iter X.env x=pure x:=by intro _;rfl):PS X (.For tg iter body [] pos) (bf3 wi g tb):=by
 intro Z s σ H D I h;refine wpAny_For (Bu (hi Z s σ H _ I h) λv s1 h1=>Bu h1 λzk s2 h2=>?_) hs;obtain⟨it,fp,tn,J,H2,e,I2,T,q5,f2,W,⟨m0,w0⟩,q3⟩:=h2;subst e;have q0:∀{H':Hp},(∀b∈fp,H' b=none)->∀b∈fp,Vr X Z H' b:=λhn b hb=>⟨hn b hb,(f2 b hb).2⟩
 refine codeAny_forLoop_any (λn s'=>∃i qq H',Inv X Z qq H' s'/\tn i s'.heap/\(∀b∈fp,H' b=none)/\W i n qq H') ?_ m0 ⟨0,σ,H2,I2,q5,λb hb=>(f2 b hb).1,w0⟩;rintro n s3 ⟨i,U,H3,I3,q1,q4,w3⟩;rcases q3 i n U H3 w3 with⟨q2,qn⟩|⟨go,N,hN,step⟩
 .refine uv hp (Bu (T.done X rfl rfl rfl hc i Z s3 U H3 X.xe I3 (q0 q4) q1 q2) λr s4 z_=>?_)
  obtain⟨hr,I4⟩:=z_;subst hr;exact wpAny_execs_nil ⟨U,H3,I4,qn⟩
 .refine uv hp (Bu (T.item X rfl rfl rfl hc i Z s3 U H3 X.xe I3 (q0 q4) q1 go) λr s4 z_=>?_)
  obtain⟨u,hr,h4⟩:=z_;subst hr;refine uv hp (Bu h4 λ_ s5 z_=>?_);obtain⟨x,H5,I5,r5,y5,qv,q8⟩:=z_;have zz:=I5.pinned (q0 q8) (T.obj _ _ qv);refine uv hp (Bu (hg _ s5 U H5 x u _ zz r5 (step x H5 y5)) λ_ s6 z_=>?_);obtain⟨zq,H6,I6,q6⟩:=z_;refine uv hp (Bu (hb _ s6 zq H6 _ I6 q6) λf s7 q7=>?_);have qk:∀{G:St}{H7:Hp},Inv X (Z++Ug fp s5.heap) G H7 s7->N G H7->∃m,m<n/\∃i qq H',Inv X Z qq H' s7/\tn i s7.heap/\(∀b∈fp,H' b=none)/\W i m qq H':=fun{G H7} R n7=>by obtain⟨m',hm,w7⟩:=hN G H7 n7;refine⟨m',hm,i+1,G,H7,R.O3,T.keep _ _ _ qv λb hb o e=>(R.pin (b,o) (gw _ (gw _ (Ln hb e)))).1,λb hb=>?_,w7⟩;obtain⟨o,e,d⟩:=T.obj _ _ qv b hb;exact(R.pin (b,o) (gw _ (gw _ (Ln hb e)))).2.1
  cases f with
  |next=>obtain⟨G,H7,R,n7⟩:=q7;exact qk R n7
  |cont=>obtain⟨G,H7,R,n7⟩:=q7;exact qk R n7
  |brk=>obtain⟨G,H7,R,q7⟩:=q7;exact⟨G,H7,R.O3,q7⟩
  |ret v=>obtain⟨x7,G,H7,R,r7,q7⟩:=q7;exact⟨x7,G,H7,R.O3,r7,q7⟩
end L2
namespace L2
open PySem PySem.Spec PyProof.Rows
abbrev R2:=V->V->Hp->VK->Prop
def Dy(X:Cx)(f:Value->Value->Sem Value)(r:R2):Prop :=
 ∀(Z:Zp)(s:Shared)(G:St)(H:Hp)(x y:V)(v u:Value)(Q:VK),Inv X Z G H s->RelV x v->RelV y u->r x y H Q ->
  wpAny (model X.prog X.w) X.A (f v u) (EP X Z G Q) X.xe s
def UnR(X:Cx)(f:Value->Sem Value)(r:V->Hp->VK->Prop):Prop :=
 ∀(Z:Zp)(s:Shared)(G:St)(H:Hp)(x:V)(v:Value)(Q:VK),Inv X Z G H s->RelV x v->r x H Q ->
  wpAny (model X.prog X.w) X.A (f v) (EP X Z G Q) X.xe s
def Ci(X:Cx)(f:Value)(r:List V->Hp->VK->Prop):Prop :=
 ∀(Z:Zp)(s:Shared)(G:St)(H:Hp)(U:List V)(R:Zl)(Q:VK),Inv X Z G H s->Vals U R->r U H Q ->
  wpAny (model X.prog X.w) X.A (call f R) (EP X Z G Q) X.xe s
def bf7(X:Cx)(r:V->Hp->(Bool->Hp->Prop)->Prop):Prop :=
 ∀(Z:Zp)(s:Shared)(G:St)(H:Hp)(x:V)(v:Value)(Q:Bool->Hp->Prop),Inv X Z G H s->RelV x v->r x H Q ->
  wpAny (model X.prog X.w) X.A (truthy v) (TP X Z G Q) X.xe s
def tOp(r:R2)(U G:TE):TE:=λZ H Q=>U Z H λx R=>G Z R λy H2=>r x y H2 Q
def tUn(r:V->Hp->VK->Prop)(Z:TE):TE:=λU H Q=>Z U H λx G=>r x G Q
def rI(C:Int->Int->Prop)(g:Int->Int->V):R2:=λx y H Q=>∃i j,x=.int i/\y=.int j/\C i j/\Q (g i j) H
def rI0(g:Int->Int->V):R2:=λx y H Q=>∃i j,x=.int i/\y=.int j/\Q (g i j) H
def rU(g:Int->V):V->Hp->VK->Prop:=λx H Q=>∃i,x=.int i/\Q (g i) H
def a2j{X:Cx}{a b:Expr}{ta tb:TE}(ha:PE X a ta)(hb:PE X b tb){Z:Zp}{s:Shared}{G:St}{H:Hp}{R:V->V->Hp->Prop}(I:Inv X Z G H s)
 (h:ta G H λx H1=>tb G H1 λy U=>R x y U) {Q:Y1} {f:Value->Value->Sem Value}
 (hf:∀v u s2 x y U,Inv X Z G U s2->RelV x v->RelV y u->R x y U->wpAny (model X.prog X.w) X.A (f v u) Q X.xe s2) :
 wpAny (model X.prog X.w) X.A (eval a X.env) (λv qk=>wpAny (model X.prog X.w) X.A (eval b X.env) (λu qq=>wpAny (model X.prog X.w) X.A (f v u) Q X.xe qq) X.xe qk) X.xe s:=by
 refine Bu (ha Z s G H _ I h) λv s1 z_=>?_
 obtain⟨x,H1,I1,r1,q1⟩:=z_;refine Bu (hb Z s1 G H1 _ I1 q1) λu s2 z_=>?_
 obtain⟨y,U,I2,r2,q2⟩:=z_;exact hf v u s2 x y U I2 r1 r2 q2
def a87{X:Cx}{a b:Expr}{R U:TE}{pos:Pos}{G:Operator}{r:R2}(ho:Dy X (binaryOp G) r)(ha:PE X a R)(hb:PE X b U):PE X (.BinOp a G b pos) (tOp r R U):=by intro Z s σ H Q I h;exact wpAny_BinOp (a2j ha hb I h λv u s2 x y H2 I2 rx ry q=>ho Z s2 σ H2 x y v u Q I2 rx ry q)
def a88{X:Cx}{a:Expr}{R:TE}{pos:Pos}{G:UnaryOp}{r:V->Hp->VK->Prop}(ho:UnR X (unaryOp G) r)(ha:PE X a R):PE X (.UnaryOp G a pos) (tUn r R):=by intro Z s U H Q I h;exact UnaryOp_ (Bu (ha Z s U H _ I h) λv s1 ⟨x,H1,I1,r1,q1⟩=>ho Z s1 U H1 x v Q I1 r1 q1)
def opI{X:Cx}{f:Value->Value->Sem Value}{C:Int->Int->Prop}{g:Int->Int->Int}
 (Z:∀(i j:Int)(t u:Tok)(s:Shared)(Q:Y1)(E:Y1),C i j->Q (.int (g i j) s.toks) { s with toks:=s.toks+1 }->wpAny (model X.prog X.w) X.A (f (.int i t) (.int j u)) Q E s) :
 Dy X f (rI C λi j=>.int (g i j)):=by
 intro G s σ H x y v u Q I U ry h;obtain⟨i,j,rfl,rfl,hc,q⟩:=h;obtain⟨t,rfl⟩:=U;obtain⟨R,rfl⟩:=ry;exact Z i j t R s _ _ hc ⟨.int (g i j),H,I.tok _,⟨_,rfl⟩,q⟩
def a89{X:Cx}{f:Value->Value->Sem Value}{g:Int->Int->Int}
 (Z:∀(i j:Int)(t u:Tok)(s:Shared)(Q:Y1)(E:Y1),Q (.int (g i j) s.toks) { s with toks:=s.toks+1 }->wpAny (model X.prog X.w) X.A (f (.int i t) (.int j u)) Q E s) :
 Dy X f (rI0 λi j=>.int (g i j)):=by
 intro G s σ H x y v u Q I U ry h;obtain⟨i,j,rfl,rfl,q⟩:=h;obtain⟨t,rfl⟩:=U;obtain⟨R,rfl⟩:=ry;exact Z i j t R s _ _ ⟨.int (g i j),H,I.tok _,⟨_,rfl⟩,q⟩
def avs{X:Cx}{f:Value->Value->Sem Value}{g:Int->Int->Bool}
 (Z:∀(i j:Int)(t u:Tok)(s:Shared)(Q:Y1)(E:Y1),Q (.bool (g i j)) s->wpAny (model X.prog X.w) X.A (f (.int i t) (.int j u)) Q E s) :
 Dy X f (rI0 λi j=>.bl (g i j)):=by
 intro G s σ H x y v u Q I U ry h;obtain⟨i,j,rfl,rfl,q⟩:=h;obtain⟨t,rfl⟩:=U;obtain⟨R,rfl⟩:=ry;exact Z i j t R s _ _ ⟨.bl (g i j),H,I,rfl,q⟩
def bf8(i j:Int):Prop:=0<j/\j<1073741824
def bf9(i j:Int):Prop:=0<=j/\j<=1000000/\i.natAbs<2 ^ 64
def a2k(i j:Int):Prop:=(-(2 ^ 64)<i/\i<2 ^ 64)\/(-(2 ^ 64)<j/\j<2 ^ 64)
def a2k.ok{i j:Int}(h:a2k i j):IntMulOk i j:=by
 rcases h with⟨G,Z⟩|⟨G,Z⟩
 .exact .of_left (intBits_le_64 G Z)
 .exact .of_right (intBits_le_64 G Z)
def a2l{X:Cx}:Dy X (binaryOp .Add) (rI0 λi j=>.int (i+j)):=a89 λ_ _ _ _ _ _ _ q=>add_int q
def a2m{X:Cx}:Dy X (binaryOp .Sub) (rI0 λi j=>.int (i-j)):=a89 λ_ _ _ _ _ _ _ q=>sub_int q
def a2n{X:Cx}:Dy X (binaryOp .Mult) (rI a2k λi j=>.int (i*j)):=opI λ_ _ _ _ _ _ _ Z q=>mul_int q Z.ok
def avt{X:Cx}:Dy X (binaryOp .FloorDiv) (rI bf8 λi j=>.int (i / j)):=opI λi j _ _ _ _ _ Z q=>by
 have U:(0:Int)<j:=Z.1
 have G:j<1073741824:=Z.2
 exact floordiv_int (by lia) (by rw[Int.fdiv_eq_ediv_of_nonneg i (by lia)];exact q) (.inl (PyProof.noPylong_small (by omega)))
def a2o{X:Cx}:Dy X (binaryOp .Mod) (rI (λ_ j=>0<j) λi j=>.int (i%j)):=opI λi j _ _ _ _ _ Z q=>by
 have G:(0:Int)<j:=Z
 exact mod_int' (by lia) (by rw[Int.fmod_eq_emod_of_nonneg i (by lia)];exact q)
def a2p{X:Cx}:Dy X (binaryOp .Pow) (rI bf9 λi j=>.int (i ^ j.toNat)):=opI λ_ _ _ _ _ _ _ Z q=>pow_int_small Z.1 Z.2.1 Z.2.2 q
def unI{X:Cx}{f:Value->Sem Value}{g:Int->Int}
 (Z:∀(i:Int)(t:Tok)(s:Shared)(Q:Y1)(E:Y1),Q (.int (g i) s.toks) { s with toks:=s.toks+1 }->wpAny (model X.prog X.w) X.A (f (.int i t)) Q E s) :
 UnR X f (rU λi=>.int (g i)):=by
 intro G s R H x v Q I U h;obtain⟨i,rfl,q⟩:=h;obtain⟨t,rfl⟩:=U;exact Z i t s _ _ ⟨.int (g i),H,I.tok _,⟨_,rfl⟩,q⟩
def a2q{X:Cx}:UnR X (unaryOp .USub) (rU λi=>.int (-i)):=unI λ_ _ _ _ _ q=>neg_int q
noncomputable def a2r:V->V->Bool
 |.non,.non=>true|.non,.int _=>true|.int _,.non=>true|.non,.bl _=>true|.bl _,.non=>true|.non,.str _=>true|.str _,.non=>true
 |.int _,.int _=>true|.bl _,.bl _=>true|.str _,.str _=>true|.byt _,.byt _=>true
 |.int _,.str _=>true|.str _,.int _=>true|.bl _,.str _=>true|.str _,.bl _=>true
 |_,_=>false
def rEq:R2:=λx y H Q=>a2r x y=true/\Q (.bl (decide (x=y))) H
def rNe:R2:=λx y H Q=>a2r x y=true/\Q (.bl (!decide (x=y))) H
def ai4{i j:Int}:decide (V.int i=V.int j)=(i==j):=by rw[Ad];simp
def apg{i j:Bool}:decide (V.bl i=V.bl j)=(i==j):=by rw[Ad];simp
def ai5{i j:Str}:decide (V.str i=V.str j)=(i==j):=by rw[Ad];simp
def ai6{i j:Array UInt8}:decide (V.byt i=V.byt j)=(i.toList==j.toList):=by rw[Ad];cases i;cases j;simp
def yw{X:Cx}{Z:Zp}{G:St}{H:Hp}{s:Shared}{Q:VK}{k U:Bool}(I:Inv X Z G H s)(q:Q (.bl k) H)(e:k=U):EP X Z G Q (.bool U) s:=by subst e;exact⟨.bl k,H,I,rfl,q⟩
def a9a{X:Cx}:Dy X (compareOp .Eq) rEq:=by
 intro qq s σ H x y v u Q I R Z h;obtain⟨U,q⟩:=h;cases x with
 |non =>
  cases R;cases y with
  |non=>cases Z;exact PySem.EqNone.eq_none_none (yw I q (by simp))|bl j=>cases Z;exact PySem.EqNone.eq_none_bool (yw I q (by simp))|int j=>obtain⟨G,rfl⟩:=Z;exact PySem.EqNone.eq_none_int (yw I q (by simp))
  |str j=>obtain⟨G,rfl⟩:=Z;exact PySem.EqNone.eq_none_str (yw I q (by simp))
  |_=>exact absurd (show false=true from U) jb
 |bl i =>
  cases R;cases y with
  |non=>cases Z;exact PySem.EqNone.eq_bool_none (yw I q (by simp))|bl j=>cases Z;exact eq_bool (yw I q apg)|str j=>obtain⟨G,rfl⟩:=Z;exact PySem.EqMixed.eq_bool_str (yw I q (by simp))
  |_=>exact absurd (show false=true from U) jb
 |int i =>
  obtain⟨t,rfl⟩:=R;cases y with
  |non=>cases Z;exact PySem.EqNone.eq_int_none (yw I q (by simp))|int j=>obtain⟨G,rfl⟩:=Z;exact eq_int (yw I q ai4)
  |str j=>obtain⟨G,rfl⟩:=Z;exact PySem.EqMixed.eq_int_str (yw I q (by simp))
  |_=>exact absurd (show false=true from U) jb
 |str i =>
  obtain⟨t,rfl⟩:=R;cases y with
  |non=>cases Z;exact PySem.EqNone.eq_str_none (yw I q (by simp))|bl j=>cases Z;exact PySem.EqMixed.eq_str_bool (yw I q (by simp))|int j=>obtain⟨G,rfl⟩:=Z;exact PySem.EqMixed.eq_str_int (yw I q (by simp))
  |str j=>obtain⟨G,rfl⟩:=Z;exact eq_str (yw I q ai5)
  |_=>exact absurd (show false=true from U) jb
 |byt i =>
  obtain⟨t,rfl⟩:=R;cases y with
  |byt j=>obtain⟨G,rfl⟩:=Z;exact PySem.W.eq_bytes (yw I q ai6)
  |_=>exact absurd (show false=true from U) jb
 |_=>cases y<;>exact absurd (show false=true from U) jb
def a9b{X:Cx}:Dy X (compareOp .NotEq) rNe:=by
 intro qq s σ H x y v u Q I R Z h;obtain⟨U,q⟩:=h;cases x with
 |non =>
  cases R;cases y with
  |non=>cases Z;exact PySem.EqNone.ne_none_none (yw I q (by simp))|bl j=>cases Z;exact PySem.EqNone.ne_none_bool (yw I q (by simp))|int j=>obtain⟨G,rfl⟩:=Z;exact PySem.EqNone.ne_none_int (yw I q (by simp))
  |str j=>obtain⟨G,rfl⟩:=Z;exact PySem.EqNone.ne_none_str (yw I q (by simp))
  |_=>exact absurd (show false=true from U) jb
 |bl i =>
  cases R;cases y with
  |non=>cases Z;exact PySem.EqNone.ne_bool_none (yw I q (by simp))|bl j=>cases Z;exact ne_bool (yw I q (ud not apg))|str j=>obtain⟨G,rfl⟩:=Z;exact PySem.EqMixed.ne_bool_str (yw I q (by simp))
  |_=>exact absurd (show false=true from U) jb
 |int i =>
  obtain⟨t,rfl⟩:=R;cases y with
  |non=>cases Z;exact PySem.EqNone.ne_int_none (yw I q (by simp))|int j=>obtain⟨G,rfl⟩:=Z;exact ne_int (yw I q (ud not ai4))
  |str j=>obtain⟨G,rfl⟩:=Z;exact PySem.EqMixed.ne_int_str (yw I q (by simp))
  |_=>exact absurd (show false=true from U) jb
 |str i =>
  obtain⟨t,rfl⟩:=R;cases y with
  |non=>cases Z;exact PySem.EqNone.ne_str_none (yw I q (by simp))|bl j=>cases Z;exact PySem.EqMixed.ne_str_bool (yw I q (by simp))|int j=>obtain⟨G,rfl⟩:=Z;exact PySem.EqMixed.ne_str_int (yw I q (by simp))
  |str j=>obtain⟨G,rfl⟩:=Z;exact ne_str (yw I q (ud not ai5))
  |_=>exact absurd (show false=true from U) jb
 |byt i =>
  obtain⟨t,rfl⟩:=R;cases y with
  |byt j=>obtain⟨G,rfl⟩:=Z;exact PySem.W.ne_bytes (yw I q (ud not ai6))
  |_=>exact absurd (show false=true from U) jb
 |_=>cases y<;>exact absurd (show false=true from U) jb
def a9c{X:Cx}:Dy X (compareOp .Lt) (rI0 λi j=>.bl (decide (i<j))):=avs λ_ _ _ _ _ _ _ q=>lt_int q
def a9d{X:Cx}:Dy X (compareOp .LtE) (rI0 λi j=>.bl (decide (i<=j))):=avs λ_ _ _ _ _ _ _ q=>le_int q
def a9e{X:Cx}:Dy X (compareOp .Gt) (rI0 λi j=>.bl (decide (j<i))):=avs λ_ _ _ _ _ _ _ q=>gt_int q
def a9f{X:Cx}:Dy X (compareOp .GtE) (rI0 λi j=>.bl (decide (j<=i))):=avs λ_ _ _ _ _ _ _ q=>ge_int q
def Dy.or{X:Cx}{f:Value->Value->Sem Value}{r U:R2}(h:Dy X f r)(h':Dy X f U):Dy X f (λx y H Q=>r x y H Q\/U x y H Q):=by
 intro Z s σ H x y v u Q I G R q;rcases q with q|q
 .exact h Z s σ H x y v u Q I G R q
 .exact h' Z s σ H x y v u Q I G R q
def avu{X:Cx}{a b:Expr}{R U:TE}{pos:Pos}{G:CmpOp}{r:R2}(ho:Dy X (compareOp G) r)(ha:PE X a R)(hb:PE X b U)(hm:behindInMarks G b=false):PE X (.Compare a [G] [b] pos) (tOp r R U):=by intro Z s σ H Q I h;exact wpAny_Compare1 (a2j ha hb I h λv u s2 x y H2 I2 rx ry q=>ho Z s2 σ H2 x y v u Q I2 rx ry q) hm
def azm(t:TE):TT:=λG H Q=>t G H λx Z=>∃k,x=.bl k/\Q k Z
def avv{X:Cx}{a b:Expr}{ta R:TE}{pos:Pos}{G:CmpOp}{r:R2}(ho:Dy X (compareOp G) r)(ha:PE X a ta)(hb:PE X b R)(hm:behindInMarks G b=false):PT X (.Compare a [G] [b] pos) (azm (tOp r ta R)):=by
 intro Z s U H Q I h;refine wpAny_isTrue_Compare1 (Bu (ha Z s U H _ I h) λv s1 ⟨x,H1,I1,r1,q1⟩=>Bu (hb Z s1 U H1 _ I1 q1) λu s2 ⟨y,H2,I2,r2,q2⟩ =>
  Bu (ho Z s2 U H2 x y v u _ I2 r1 r2 q2) λc s3 ⟨z,H3,I3,r3,k,e,q3⟩=>?_) hm
 subst e;cases r3;exact j5 ⟨H3,I3,q3⟩
def aa9(r U:R2)(ta tb tc:TE):TE:=λZ H Q=>ta Z H λx H1=>tb Z H1 λy H2=>r x y H2 λz G=>∃k,z=.bl k /\
 (if k=true then tc Z G λw' R=>U y w' R Q else Q (.bl false) G)
def aph{X:Cx}{a b c:Expr}{ta tb tc:TE}{pos:Pos}{R G:CmpOp}{r r':R2}(ho:Dy X (compareOp R) r)(qq:Dy X (compareOp G) r')(ha:PE X a ta)(hb:PE X b tb)(hc:PE X c tc)
 (hm:lastMarks [R,G] [b,c]=false:=by with_unfolding_all rfl):PE X (.Compare a [R,G] [b,c] pos) (aa9 r r' ta tb tc):=by
 intro Z s U H Q I h;refine Compare_chain (Bu (ha Z s U H _ I h) λv s1 ⟨x,H1,I1,r1,q1⟩=>chain_link (Bu (hb Z s1 U H1 _ I1 q1) λu s2 ⟨y,H2,I2,r2,q2⟩ =>
  Bu (ho Z s2 U H2 x y v u _ I2 r1 r2 q2) λd s3 ⟨z,H3,I3,r3,k,e,q3⟩=>?_)) hm
 subst e;cases r3;refine j5 ?_;cases k with
 |false=>exact ite_ff ⟨.bl false,H3,I3,rfl,q3⟩|true=>exact ite_tt (chain_last (Bu (hc Z s3 U H3 _ I3 q3) λw' s4 ⟨z',H4,I4,r4,q4⟩=>qq Z s4 U H4 y z' u w' Q I4 r2 r4 q4))
def api{X:Cx}{a b c:Expr}{ta tb tc:TE}{pos:Pos}{R G:CmpOp}{r r':R2}(ho:Dy X (compareOp R) r)(qq:Dy X (compareOp G) r')(ha:PE X a ta)(hb:PE X b tb)(hc:PE X c tc)
 (hm:lastMarks [R,G] [b,c]=false:=by with_unfolding_all rfl):PT X (.Compare a [R,G] [b,c] pos) (azm (aa9 r r' ta tb tc)):=by
 intro Z s U H Q I h;refine isTrue_chain (Bu (ha Z s U H _ I h) λv s1 ⟨x,H1,I1,r1,q1⟩=>test_link (Bu (hb Z s1 U H1 _ I1 q1) λu s2 ⟨y,H2,I2,r2,q2⟩ =>
  Bu (ho Z s2 U H2 x y v u _ I2 r1 r2 q2) λd s3 ⟨z,H3,I3,r3,k,e,q3⟩=>?_)) hm
 subst e;cases r3;refine j5 ?_;cases k with
 |false =>
  obtain⟨k',e',q'⟩:=q3;cases e';exact ite_ff ⟨H3,I3,q'⟩
 |true =>
  refine ite_tt (test_last (Bu (hc Z s3 U H3 _ I3 q3) λw' s4 ⟨z',H4,I4,r4,q4⟩=>Bu (qq Z s4 U H4 y z' u w' _ I4 r2 r4 q4) λd' s5 z_=>?_));obtain⟨z2,H5,I5,r5,k2,e2,q5⟩:=z_;subst e2;cases r5;exact j5 ⟨H5,I5,q5⟩
def a9g(K:Fg)(x:V)(H:Hp)(k:Bool):Prop :=
 match x with
 |.non=>k=false|.bl b=>k=b|.int i=>k=(i != 0)|.str y=>y.length<=sizeLine/\k=((y.length:Int) != 0)|.byt y=>y.size<=sizeLine/\k=((y.size:Int) != 0)|.ref p=>(∃Z,Gw K H p Z/\k=!Z.isEmpty)\/(∃Z,Mw K H p Z/\k=!Z.isEmpty)\/∃G,H p=some (.dK G)/\k=!G.isEmpty|_=>False
def agu{Z:Type}{U:List (Z×V)}{G:List (Z×Value)}(r:KV U G):(!G.isEmpty)=!U.isEmpty:=by cases r<;>rfl
def W5{G:List V}{Z:Zl}(r:Vals G Z):(!Z.toArray.isEmpty)=!G.isEmpty:=by cases r<;>simp
def W6:(sizeLine:Nat)<2 ^ 63:=by rw[qb];decide
def a2s{X:Cx}:bf7 X (λx H Q=>∃k,a9g X.K x H k/\Q k H):=by
 intro qq s σ H x v Q I R h;obtain⟨k,e,q⟩:=h;have hl:=W6;have hs:sizeLine=16777216:=qb;cases x with
 |non =>
  cases R;have Z:k=false:=e;subst Z;exact truthy_none ⟨H,I,q⟩
 |bl b =>
  cases R;have Z:k=b:=e;subst Z;exact j5 ⟨H,I,q⟩
 |int i =>
  obtain⟨t,rfl⟩:=R;have Z:k=(i != 0):=e;subst Z;exact PySem.P.truthy_int ⟨H,I,q⟩
 |str y =>
  obtain⟨t,rfl⟩:=R;obtain⟨hy,Z⟩:y.length<=sizeLine/\k=((y.length:Int) != 0):=e
  subst Z;exact PySem.P.truthy_str (by lia) ⟨H,I.tok _,q⟩
 |byt y =>
  obtain⟨t,rfl⟩:=R;obtain⟨hy,Z⟩:y.size<=sizeLine/\k=((y.size:Int) != 0):=e
  subst Z;exact PySem.W.truthy_bytes (a_ hy (a_ (f_ hs) (by decide))) ⟨H,I.tok _,q⟩
 |ref p =>
  cases R;have Z:(∃U,Gw X.K H p U/\k=!U.isEmpty)\/(∃U,Mw X.K H p U/\k=!U.isEmpty)\/∃ik,H p=some (.dK ik)/\k=!ik.isEmpty:=e;rcases Z with⟨U,hx,Z⟩|⟨U,hx,Z⟩|⟨ik,hx,Z⟩
  .subst Z
   obtain⟨xf,r,pl,hz⟩:=I.list hx;have G:=r.length;exact wpAny_truthy_list pl.isList (by simp only[gf];lia) ⟨H,I.tok _,by rw[W5 r];exact q⟩
  .subst Z
   obtain⟨xf,r,pl,hz⟩:=I.tuple hx;have G:=r.length;exact truthy_tuple pl (by simp only[gf];lia) ⟨H,I.tok _,by rw[W5 r];exact q⟩
  .subst Z
   obtain⟨hz,hS,vs,r,m⟩:ik.length<=sizeLine/\(p==sysModules)=false/\∃vs,KV ik vs/\s.heap.DictOf (mz X.prog X.w) p vs:=I.Av p _ hx
   have G:ik.length=vs.length:=Paired.length r;exact wpAny_truthy_dict hS m (by lia) ⟨H,I.tok _,by rw[agu r];exact q⟩
 |_=>exact(show False from e).elim
def apj{X:Cx}{a:Expr}{ta:TE}(ha:PE X a ta)(he:∀Z,isTrue a X.env Z=(do let v <- Z;standAt a.pos;holding [v] (truthy v))) :
 PT X a (λU H Q=>ta U H λx R=>∃k,a9g X.K x R k/\Q k R):=by
 intro G s U H Q I h;exact isTrue_plain (Bu (ha G s U H _ I h) λv s1 ⟨x,H1,I1,r1,q1⟩=>a2s G s1 U H1 x v Q I1 r1 q1) (he _)
def vals1{x:V}{Z:Zl}(r:Vals [x] Z):∃u,Z=[u]/\RelV x u:=by
 cases r with
 |cons U G=>cases G;exact⟨_,rfl,U⟩
def vals2{x y:V}{Z:Zl}(r:Vals [x,y] Z):∃u w',Z=[u,w']/\RelV x u/\RelV y w':=by
 cases r with
 |cons U G =>
  cases G with
  |cons r3 R=>cases R;exact⟨_,_,rfl,U,r3⟩
def alg{X:Cx}(R:X.calm=true):Ci X (.builtin "max") (λU H Q=>∃i j,U=[.int i,.int j]/\Q (.int (if j > i then j else i)) H):=by
 intro G s σ H U us Q I r h;obtain⟨i,j,rfl,q⟩:=h;obtain⟨u,w',rfl,⟨t,rfl⟩,⟨t',rfl⟩⟩:=vals2 r;refine max_two_ints (I.ok.hd R) λh' tk k=>⟨_,H,I.kept k,?_,q⟩
 by_cases Z:j > i
 .rw[dg Z,dg Z];exact⟨_,rfl⟩
 .rw[bx Z,bx Z];exact⟨_,rfl⟩
def alh{X:Cx}(R:X.calm=true):Ci X (.builtin "min") (λU H Q=>∃i j,U=[.int i,.int j]/\Q (.int (if j<i then j else i)) H):=by
 intro G s σ H U us Q I r h;obtain⟨i,j,rfl,q⟩:=h;obtain⟨u,w',rfl,⟨t,rfl⟩,⟨t',rfl⟩⟩:=vals2 r;refine min_two_ints (I.ok.hd R) λh' tk k=>⟨_,H,I.kept k,?_,q⟩
 by_cases Z:j<i
 .rw[dg Z,dg Z];exact⟨_,rfl⟩
 .rw[bx Z,bx Z];exact⟨_,rfl⟩
end L2
namespace L2
open PySem PySem.Spec PyProof.Rows
structure agv(h:Heap)(x dx C:Addr)(mA:Zs):Prop where
 obj:h.get? x=some (PySem.W.instObj C dx)
 ns:h.Ns1 dx mA
 ne:dx≠x
set_option tactic.hygienic true in
def ali{h:Heap}{C:Addr}{J:Zs}(n:h.Ns1 C J):∃U,h.get? C=some U/\∀Z,PySem.W.lookIn Z U=some (J Z):=by
 obtain⟨o,G,ep,R,u,L,_,S⟩:=n;refine⟨o,R,λZ=>?_⟩;have e:=S Z;unfold nsFind findBy at e;rw[<- Array.find?_toList] at e;unfold PySem.W.lookIn;rw[u];dsimp only;split
 .rename_i y q
  rw[q] at e;exact ud some e
 .rename_i q
  rw[q] at e;have a:G.toList.any (·.refKey)=false:=by rw[List.any_eq_false];intro y hy;obtain⟨z,t,Y⟩:=L y (Array.mem_toList_iff.mp hy);simp[DictEntry.refKey,Y]
  have a':¬G.toList.any (·.refKey)=true:=by rw[a];exact jb
  rw[bx a'];exact ud some e
def agv.look{h:Heap}{x R C:Addr}{U:Zs}(I:agv h x R C U):∃G,PySem.W.InstAt h x (PySem.W.instObj C R) C (some G)/\∀Z,PySem.W.lookIn Z G=some (U Z) :=
 let ⟨G,ho,hl⟩:=ali I.ns
 ⟨G,⟨I.obj,rfl,rfl,ho⟩,hl⟩
def get_map{prog:Program}{w:World}{A:Around}{E:Y1}{s:Shared}{K:Fg}{x dx C:Addr}{R:Zs}{Z:Str}{v:Value}{G:Bool}{Q:Y1}(X:K.In s.heap)(I:agv s.heap x dx C R)(hg:PySem.W.plainGet K C Z=true)(hh:PySem.W.hasDictIn K C=true)
 (ha:PySem.W.findIn K (.ref C) Z=some none) (hv:R Z=some v) (U:PySem.W.handedIn v=true) (h:Q v { s with toks:=s.toks+1 }) :
 wpAny (model prog w) A (getAttr (.ref x) Z G) Q E s:=by
 obtain⟨od,J,hl⟩:=I.look;exact PySem.W.get_value X J (PySem.W.plainGet_of hg).1 (PySem.W.findObj_own hh ha rfl (by rw[hl,hv])) U h
def apk{prog:Program}{w:World}{A:Around}{E:Y1}{s:Shared}{K:Fg}{x dx C f:Addr}{G:Zs}{Z:Str}{R:Sem Bool}{Q:Value×List Value->Shared->Prop}(X:K.In s.heap)(I:agv s.heap x dx C G)(U:PySem.W.plainGet K C Z=true)
 (hf:PySem.W.findIn K (.ref C) Z=some (some (.ref f))) (ht:PySem.W.isFn K (.ref f)=true) (hv:G Z=none) (h:Q (.ref f,[.ref x]) s) :
 wpAny (model prog w) A (getMethod (.ref x) Z R) Q E s:=by
 obtain⟨od,J,hl⟩:=I.look;exact PySem.W.method_fn X J (PySem.W.plainGet_of U).1 (PySem.W.plainGet_of U).2 hf (beq_iff_eq.mp ht) (by show(PySem.W.lookIn Z od).map (·.isSome)=some false;rw[hl,hv];rfl) h
def avw{prog:Program}{w:World}{A:Around}{E:Y1}{s:Shared}{K:Fg}{x U C:Addr}{mA:Zs}{Z:Str}{v:Value}{ns:Yf}{Q:Unit->Shared->Prop}(X:K.In s.heap)(I:agv s.heap x U C mA)
 (hs:PySem.W.findIn K (.ref C) "__setattr__" = some (some (.builtin "object.__setattr__"))) (hp:PySem.W.plainOver K C=true) (ht:PySem.W.takerIn K C Z=some none) (hh:PySem.W.hasDictIn K C=true)
 (hw:PySem.Within mA ns) (qv:ns.length<=sizeLine)
 (h:∀R,agv R x U C (λy=>if y=Z then some v else mA y)->Heap.SameBut U s.heap R->Q () { s with heap:=R,toks:=s.toks+2 }) :
 wpAny (model prog w) A (setAttr (.ref x) Z v) Q E s:=by
 obtain⟨od,J,hl⟩:=I.look;refine PySem.W.set_plain X J hs (PySem.W.osa_open (s:={ s with toks:=s.toks+1 }) (r:=none) X J hp ht λb=>?_);obtain⟨cd,hc,qk⟩:=PySem.W.any_some hh;have hx:s.heap.get? x=some ⟨.ref C,some U,.plain,#[]⟩:=I.obj;refine aa (aj (aa (aa (wpAny_loadPart hx (aa (PySem.W.Looks.here (s:={ s with toks:=s.toks+1 }) (PySem.W.looks_clsIn X hc) ?_))))));rw[qk];refine aj (a:=some U) (aa (aj (aa ?_)));refine wpAny_nsSet1 (s:={ s with toks:=s.toks+1 }) I.ns λR Yu G=>?_
 obtain⟨oD,q2,q3,qq,q1,q0⟩:=Yu.count (PySem.Within.cons Z v hw);refine aa (wpAny_lookBehind qq (by rw[q1];exact pastItsLine_dict (iu q0 (by rw[il];exact v_ qv))) ?_);exact aj (h _ ⟨(G.2 _ (j0 I.ne)).trans I.obj,Yu,I.ne⟩ G)
def apl{prog:Program}{w:World}{A:Around}{s:Shared}{K:Fg}{C f:Addr}{R:Result->Shared->Prop}{G:Zl}{U:List (Str×Value)}(X:K.In s.heap)(hm:PySem.W.makesIn K C=true)
 (hi:PySem.W.findIn K (.ref C) "__init__" = some (some (.ref f))) (hf:PySem.W.typeIn K (.ref f)=some (.type "function"))
 (h:codeAny (model prog w) (A.under (.builtin "type.__call__" ⟨.ref C::G,U⟩)) (.call (.ref f) ⟨.ref (s.heap.objs.size+1)::G,U⟩) (PySem.W.InitBack (s.heap.objs.size+1) R)
  { s with heap:=(s.heap.push PySem.W.emptyDict).push (PySem.W.instObj C s.heap.objs.size) }) :
 codeAny (model prog w) A (.call (.ref C) ⟨G,U⟩) R s:=by
 obtain⟨hh,g,d,t,os⟩:=s;exact PySem.W.make_core (PySem.W.makes_of X hm) (PySem.W.looks_findIn X hi) (λZ=>PySem.W.bind_fn X Z hf) (.inl rfl) h
noncomputable def Jo(f:Str)(v:V):List (Str×V)->List (Str×V)
 |[]=>[(f,v)]|(g,x)::r=>if g=f then(g,v)::r else(g,x)::Jo f v r
theorem Vb(f g:Str)(v:V):∀fs:List (Str×V),(Jo f v fs).lookup g=if g=f then some v else fs.lookup g
 |[]=>by
  show List.lookup g [(f,v)]=_
  by_cases h:g=f
  .have Z:(g==f)=true:=beq_iff_eq.mpr h
   simp only[List.lookup,Z,dg h]
  .have Z:(g==f)=false:=v7.mpr h
   simp only[List.lookup,Z,bx h]
 |(k,x)::r=>by
  have U:=Vb f g v r;rw[show Jo f v ((k,x)::r)=(if k=f then(k,v)::r else(k,x)::Jo f v r) from rfl]
  by_cases G:k=f
  .rw[dg G]
   by_cases h:g=k
   .have Z:(g==k)=true:=beq_iff_eq.mpr h
    simp only[List.lookup,Z,dg (h.trans G)]
   .have Z:(g==k)=false:=v7.mpr h
    simp only[List.lookup,Z,bx (λe:g=f=>h (e.trans G.symm))]
  .rw[bx G]
   by_cases h:g=k
   .have Z:(g==k)=true:=beq_iff_eq.mpr h
    simp only[List.lookup,Z,bx (λe:g=f=>G (h.symm.trans e))]
   .have Z:(g==k)=false:=v7.mpr h
    simp only[List.lookup,Z];exact U
theorem Uh(f:Str)(v:V):∀fs:List (Str×V),f∈(Jo f v fs).map (·.1)/\∀g,g∈fs.map (·.1)->g∈(Jo f v fs).map (·.1)
 |[]=>⟨by simp[Jo],λg h=>by simp at h⟩
 |(k,x)::r=>by
  obtain⟨U,G⟩:=Uh f v r;rw[show Jo f v ((k,x)::r)=(if k=f then(k,v)::r else(k,x)::Jo f v r) from rfl]
  by_cases Z:k=f
  .rw[dg Z]
   subst Z;exact⟨by simp,λg h=>by simpa using h⟩
  .rw[bx Z]
   refine⟨?_,λg h=>?_⟩
   .rw[ig]
    exact bh _ U
   .rw[ig] at h ⊢
    rcases cj.mp h with e|e
    .exact cj.mpr (.inl e)
    .exact bh _ (G g e)
theorem Vc(f:Str)(v:V):∀fs:List (Str×V),(Jo f v fs).length<=fs.length+1
 |[]=>by simp[Jo]
 |(k,x)::r=>by
  have G:=Vc f v r;rw[show Jo f v ((k,x)::r)=(if k=f then(k,v)::r else(k,x)::Jo f v r) from rfl]
  by_cases Z:k=f
  .rw[dg Z,il,il];exact x_
  .rw[bx Z,il,il];exact v_ G
def Mt.some_of{v:V}{o:Option Value}(r:Mt (some v) o):∃u,o=some u/\RelV v u:=by
 cases o with
 |none=>exact(show False from r).elim
 |some u=>exact⟨u,rfl,r⟩
def Mt.none_of{o:Option Value}(r:Mt none o):o=none:=by
 cases o with
 |none=>rfl|some u=>exact(show False from r).elim
def alj{v:V}{u:Value}(r:RelV v u):PySem.W.handedIn u=true:=by
 cases v with
 |non=>cases(show u=Value.none from r);rfl
 |bl b=>cases(show u=Value.bool b from r);rfl
 |int i=>obtain⟨t,e⟩:=(show ∃t,u=Value.int i t from r);cases e;rfl
 |str x=>obtain⟨t,e⟩:=(show ∃t,u=Value.str x t from r);cases e;rfl
 |byt b=>obtain⟨t,e⟩:=(show ∃t,u=Value.bytes b t from r);cases e;rfl
 |flt b=>obtain⟨t,e⟩:=(show ∃t,u=Value.float b t from r);cases e;rfl
 |ref a=>cases(show u=Value.ref a from r);rfl
 |ty n=>cases(show u=Value.type n from r);rfl
def K5{P:Program}{w:World}{H:Hp}{h:Heap}{a C G:Addr}{fs:List (Str×V)}(Av:Ql P w H h)(e:H a=some (.ins C G fs)):∃Z,agv h a G C Z/\(∀f,Mt (fs.lookup f) (Z f))/\PySem.Within Z (fs.map (·.1))/\fs.length<=1000/\H G=some (.own a):=by obtain⟨d,z,R,U,Z,n,r,q⟩:=(show Ba P w H h a (.ins C G fs) from Av a _ e);exact⟨Z,⟨U,n,R⟩,r,q,z,d⟩
structure Cls(K:Fg)(C:Addr):Prop where
 pg:PySem.W.plainGet K C Str.empty=true
 hd:PySem.W.hasDictIn K C=true
 po:PySem.W.plainOver K C=true
 sa:PySem.W.findIn K (.ref C) "__setattr__" = some (some (.builtin "object.__setattr__"))
def Cls.get{K:Fg}{C:Addr}(c:Cls K C)(f:Str):PySem.W.plainGet K C f=true:=c.pg
def G9(K:Fg)(C:Addr)(f:Str):Prop:=PySem.W.findIn K (.ref C) f=some none
def G9.taker{K:Fg}{C:Addr}{f:Str}(n:G9 K C f):PySem.W.takerIn K C f=some none:=by unfold PySem.W.takerIn;rw[show PySem.W.findIn K (.ref C) f=some none from n];rfl
structure Meth(K:Fg)(C:Addr)(m:Str)(f:Addr):Prop where
 at_:PySem.W.findIn K (.ref C) m=some (some (.ref f))
 fn:PySem.W.isFn K (.ref f)=true
 kp:PySem.W.keepIn K (.ref f)=true
def agw{X:Cx}{Z:Zp}{U:St}{H:Hp}{s:Shared}{a C dx:Addr}{fs:List (Str×V)}{f:Str}{v:V}{A:Around}{E:Y1}{b:Bool}{Q:Y1}(I:Inv X Z U H s)(e:H a=some (.ins C dx fs))(c:Cls X.K C)(n:G9 X.K C f)(l:fs.lookup f=some v)
 (h:∀u G,Inv X Z U H G->RelV v u->Q u G):wpAny (model X.prog X.w) A (getAttr (.ref a) f b) Q E s:=by
 obtain⟨mA,O,r,_,_,_⟩:=K5 I.Av e;obtain⟨u,hu,R⟩:=Mt.some_of (v:=v) (o:=mA f) (by rw[<- l];exact r f);exact get_map I.U9 O (c.get f) c.hd n hu (alj R) (h u _ (I.tok _) R)
def agx{X:Cx}{Z:Zp}{σ:St}{H:Hp}{s:Shared}{a C dx:Addr}{fs:List (Str×V)}{A:Around}{E:Y1}{m:Str}{g:Addr}{R:Sem Bool}{Q:Value×List Value->Shared->Prop}(I:Inv X Z σ H s)(e:H a=some (.ins C dx fs))(c:Cls X.K C)(k:Meth X.K C m g)(l:fs.lookup m=none)
 (h:Q (.ref g,[.ref a]) s):wpAny (model X.prog X.w) A (getMethod (.ref a) m R) Q E s:=by
 obtain⟨G,O,r,_,_,_⟩:=K5 I.Av e;have U:G m=none:=Mt.none_of (by rw[<- l];exact r m);exact apk I.U9 O (c.get m) k.at_ k.fn U h
def agy{X:Cx}{Z:Zp}{σ:St}{H:Hp}{s:Shared}{a C G:Addr}{fs:List (Str×V)}{f:Str}{A:Around}{E:Y1}{y:V}{u:Value}{Q:Unit->Shared->Prop}(I:Inv X Z σ H s)(e:H a=some (.ins C G fs))(c:Cls X.K C)(n:G9 X.K C f)(hl:fs.length<1000)(ry:RelV y u)
 (h:∀s',Inv X Z σ (upd H a (.ins C G (Jo f y fs))) s'->Q () s'):wpAny (model X.prog X.w) A (setAttr (.ref a) f u) Q E s:=by
 obtain⟨R,O,r,wi,_,ho⟩:=K5 I.Av e;have hz:(fs.map (·.1)).length<=sizeLine:=by rw[cz,qb];exact e_ (b_ hl (by decide))
 refine avw I.U9 O c.sa c.po n.taker c.hd wi hz λh' U sb=>h _ ?_
 have hd:∃o,h'.get? G=some o:=let ⟨o,_,_,e',_⟩:=U.ns;⟨o,e'⟩;refine I.write (x:=a) (e:=G) (by rw[e];exact True.intro) (.inr ho) (λb q hb z=>(sb.2 b hb).trans z) hd ?_;refine⟨by rw[m5 O.ne];exact ho,?_,O.ne,U.obj,_,U.ns,λg=>?_,λg hg=>?_⟩
 .have:=Vc f y fs;exact a_ this hl
 .show Mt ((Jo f y fs).lookup g) (if g=f then some u else R g)
  rw[Vb]
  by_cases q:g=f
  .rw[dg q,dg q];exact ry
  .rw[bx q,bx q];exact r g
 .by_cases q:g=f
  .rw[q];exact(Uh f y fs).1
  .refine(Uh f y fs).2 g (wi g λz=>hg ?_)
   show(if g=f then some u else R g)=none;rw[bx q];exact z
def Inv.made{X:Cx}{Z:Zp}{U:St}{H:Hp}{s:Shared}{C:Addr}(I:Inv X Z U H s):Inv X Z U (upd (upd H s.heap.objs.size (.own (s.heap.objs.size+1))) (s.heap.objs.size+1) (.ins C s.heap.objs.size []))
 { s with heap:=(s.heap.push PySem.W.emptyDict).push (PySem.W.instObj C s.heap.objs.size) }:=by
 have R:(s.heap.push PySem.W.emptyDict).get? s.heap.objs.size=some PySem.W.emptyDict:=bu s.heap rfl;have e2:((s.heap.push PySem.W.emptyDict).push (PySem.W.instObj C s.heap.objs.size)).get? (s.heap.objs.size+1)=some (PySem.W.instObj C s.heap.objs.size):=by
  have:=bu (s.heap.push PySem.W.emptyDict) (o:=PySem.W.instObj C s.heap.objs.size) rfl
  rwa [ju] at this
 have e3:(s.heap.push PySem.W.emptyDict).Ns s.heap.objs.size (λ_=>none):=⟨PySem.W.emptyDict,#[],_,R,rfl,(λe he=>absurd he (by simp)),λ_=>rfl⟩;have I1:=I.laid (a:=s.heap.objs.size) (o:=.own (s.heap.objs.size+1)) (h':=s.heap.push PySem.W.emptyDict) (t':=s.toks) (λb u q=>au _ q) (bw _) ⟨_,R⟩;refine I1.laid (a:=s.heap.objs.size+1) (o:=.ins C s.heap.objs.size []) (t':=s.toks) (λb u q=>au _ q) (Nat.le_of_eq (ju _ _)) ?_;have G:s.heap.objs.size≠s.heap.objs.size+1:=gh (qm _);refine⟨by rw[m5 G,xm],iz _,G,e2,λ_=>none,(Heap.Ns1.of_empty e3).at λo q=>au _ q,λ_=>True.intro,λy hy=>absurd rfl hy⟩
def avx{A:Around}{E:Y1}{prog:Program}{w:World}{Z:Env}{e:Expr}{f:Str}{pos:Pos}{s:Shared}{Q:Y1}(U:attributeBase e f Z (eval e Z)=eval e Z)
 (h:wpAny (model prog w) A (eval e Z) (λo G=>wpAny (model prog w) A (getAttr o f true) Q E G) E s):wpAny (model prog w) A (eval (.Attribute e f pos) Z) Q E s :=
 Attribute_any_ h (by rw[arm_eval_Attribute,U])
def bga(K:Fg)(G:TE)(f:Str):TE:=λU H Q=>G U H λx Z=>∃a C R fs v,x=.ref a/\Z a=some (.ins C R fs)/\Cls K C/\G9 K C f/\fs.lookup f=some v/\Q v Z
def bgb(K:Fg)(ta R:TE)(f:Str):TS:=λD Z H=>R Z H λy H1=>ta Z H1 λx G=>∃a C U fs,x=.ref a/\G a=some (.ins C U fs)/\Cls K C/\G9 K C f/\fs.length<1000 /\
 D.nx Z (upd G a (.ins C U (Jo f y fs)))
def a2t{X:Cx}{e:Expr}{f:Str}{pos:Pos}{G:TE}(he:PE X e G)(hb:attributeBase e f X.env (eval e X.env)=eval e X.env):PE X (.Attribute e f pos) (bga X.K G f):=by intro Z s σ H Q I h;refine avx hb (Bu (he Z s σ H _ I h) λu s1 z_=>?_);obtain⟨x,H1,I1,U,a,C,dx,fs,v,ex,ea,c,n,l,q⟩:=z_;subst ex;obtain rfl:u=Value.ref a:=U;exact agw I1 ea c n l λu' s2 R ru=>⟨v,H1,R,ru,q⟩
def a2u{X:Cx}{o Z:Expr}{f:Str}{pos U:Pos}{ta tv:TE}(ha:PE X o ta)(hv:PE X Z tv)(hs:swapsWith Z (some (.Attribute o f U)) pos.line X.env=pure false):PS X (.Assign [.Attribute o f U] Z pos) (bgb X.K ta tv f):=by intro G s R H D I h;refine plainObj_wpAny_Assign_Attribute (Bu (hv G s R H _ I h) λu s1 ⟨y,H1,I1,ry,q⟩=>Bu (ha G s1 R H1 _ I1 q) λov s2 ⟨x,H2,I2,rx,a,C,dx,fs,ex,ea,c,n,l,q2⟩=>?_) hs;subst ex;obtain rfl:ov=Value.ref a:=rx;exact agy I2 ea c n l ry λs3 I3=>⟨R,_,I3,q2⟩
inductive Vs(K:Fg)(H:Hp):V->Value->Prop where
 |non:Vs K H .non (.type "NoneType")
 |bl (x:Bool):Vs K H (.bl x) (.type "bool")
 |int (i:Int):Vs K H (.int i) (.type "int")
 |str (x:Str):Vs K H (.str x) (.type "str")
 |flt (x:UInt64):Vs K H (.flt x) (.type "float")
 |lst {a:Addr} {xs:List V} (e:H a=some (.lst xs)):Vs K H (.ref a) (.type "list")
 |Oz {a:Addr} {o:Obj} {xs:List V} (e:H a=some (.Oz o (.lst xs))):Vs K H (.ref a) (.type "list")
 |tup {a:Addr} {xs:List V} (e:H a=some (.tup xs)):Vs K H (.ref a) (.type "tuple")
 |dK {a:Addr} {ik:List (Key×V)} (e:H a=some (.dK ik)):Vs K H (.ref a) (.type "dict")
 |dT {a:Addr} {ik:List (List Key×V)} (e:H a=some (.dT ik)):Vs K H (.ref a) (.type "dict")
 |ins {a C dx:Addr} {fs:List (Str×V)} (e:H a=some (.ins C dx fs)) (cl:Cls K C) (ha:PySem.W.findIn K (.ref C) "__class__" = some (some (.builtin "object.__class__")))
  (hn:PySem.W.specialIn K (.builtin "object.__class__") "__get__" = some (some (.builtin "getset_descriptor.__get__"))) (htk:PySem.W.takesIn K (.builtin "object.__class__")=some true)
  (hm:PySem.W.mroIn K C (.type "object")=some true):Vs K H (.ref a) (.ref C)
def Zb{X:Cx}{R:Zp}{σ:St}{H:Hp}{s:Shared}{A:Around}{E Q:Y1}{c:Value}{b:Bool}{x:V}{u t:Value}(I:Inv X R σ H s)(Z:RelV x u)(ty:Vs X.K H x t)(e:PySem.W.kitOne X.K t c=some b)(h:∀tk,Q (.bool b) { s with toks:=tk }) :
 wpAny (model X.prog X.w) A (call (.builtin "isinstance") [u,c]) Q E s:=by
 cases ty with
 |non=>cases(show u=Value.none from Z);exact tu PySem.W.kitx_none I.U9 True.intro e (λz=>nomatch z) h
 |bl y=>cases(show u=Value.bool y from Z);exact tu PySem.W.kitx_bool I.U9 True.intro e (λz=>nomatch z) h
 |int i=>obtain⟨t,q⟩:=(show ∃t,u=Value.int i t from Z);cases q;exact tu PySem.W.kitx_int I.U9 True.intro e (λz=>nomatch z) h
 |str y=>obtain⟨t,q⟩:=(show ∃t,u=Value.str y t from Z);cases q;exact tu PySem.W.kitx_str I.U9 True.intro e (λz=>nomatch z) h
 |flt y=>obtain⟨t,q⟩:=(show ∃t,u=Value.float y t from Z);cases q;exact tu PySem.W.kitx_float I.U9 True.intro e (λz=>nomatch z) h
 |@lst a U ea =>
  cases(show u=Value.ref a from Z);obtain⟨_,_,n,_,G⟩:=(show Ba X.prog X.w H s.heap a (.lst U) from I.Av a _ ea);exact tu PySem.W.kitx_list I.U9 ⟨_,G,rfl⟩ e (λz=>nomatch z) h
 |@Oz a ob U ea =>
  cases(show u=Value.ref a from Z);obtain⟨_,_,_,n,_,G⟩:=(show Ba X.prog X.w H s.heap a (.Oz ob (.lst U)) from I.Av a _ ea);exact tu PySem.W.kitx_list I.U9 ⟨_,G,rfl⟩ e (λz=>nomatch z) h
 |@tup a U ea =>
  cases(show u=Value.ref a from Z);obtain⟨_,_,_,p⟩:=(show Ba X.prog X.w H s.heap a (.tup U) from I.Av a _ ea);obtain⟨o,G,h2,_⟩:=p;exact tu PySem.W.kitx_tuple I.U9 ⟨o,G,h2⟩ e (λz=>nomatch z) h
 |@dK a ik ea =>
  cases(show u=Value.ref a from Z);obtain⟨_,_,vs,_,p⟩:=(show Ba X.prog X.w H s.heap a (.dK ik) from I.Av a _ ea);obtain⟨o,es,ep,G,h2,_⟩:=p;exact tu PySem.W.kitx_dict I.U9 ⟨o,G,h2.1⟩ e (λz=>nomatch z) h
 |@dT a ik ea =>
  cases(show u=Value.ref a from Z);obtain⟨_,_,U,_,o,es,ep,G,h2,_⟩:=(show Ba X.prog X.w H s.heap a (.dT ik) from I.Av a _ ea);exact tu PySem.W.kitx_dict I.U9 ⟨o,G,h2.1⟩ e (λz=>nomatch z) h
 |@ins a C dx fs ea cl ha hn htk hm =>
  cases(show u=Value.ref a from Z);obtain⟨mA,O,_⟩:=K5 I.Av ea;obtain⟨od,J,_⟩:=O.look;exact tu (PySem.W.kitx_own (cl.get _) cl.hd ha hn htk hm) I.U9 J e (λz=>nomatch z) h
end L2
namespace L2
open PySem PySem.Spec PyProof.Rows
structure Aj(k:Nat)(A:Around):Prop where
 hd:A.handled=none
 dp:A.depth+3*k+5<recursionLimit
 un:A.units+16*k+200<cLine
def Aj.mono{j k:Nat}{A:Around}(r:Aj k A)(h:j<=k):Aj j A:=⟨r.hd,by have:=r.dp;lia,by have:=r.un;lia⟩
theorem Aj.deeper{k:Nat}{A:Around}(r:Aj (k+1) A)(Z:Env):Aj k (A.deeper Z) :=
 ⟨r.hd,by have:=r.dp;show A.depth+1+3*k+5<_;lia,by have:=r.un;show A.units+3+16*k+200<_;lia⟩
theorem Aj.in1{k:Nat}{A:Around}(r:Aj (k+1) A):Aj k A.in1 :=
 ⟨r.hd,by have:=r.dp;show A.depth+3*k+5<_;lia,by have:=r.un;show A.units+1+16*k+200<_;lia⟩
def agz{A:Around}{C:Addr}{G:Zl}{Z:List (Str×Value)}:(A.under (.builtin "type.__call__" ⟨.ref C::G,Z⟩)).depth=A.depth+1:=by first|rfl|simp[Around.under,Code.weight,Code.isCreation,Code.isGuard,Code.isCaller,Code.frames,Code.isFrame,guardIds]
def ag0{A:Around}{C:Addr}{G:Zl}{Z:List (Str×Value)}:(A.under (.builtin "type.__call__" ⟨.ref C::G,Z⟩)).units=A.units+1:=by first|rfl|simp[Around.under,Code.cUnits,Code.frames,Code.isFrame]
def Aj.make{k:Nat}{A:Around}(r:Aj (k+1) A)(C:Addr)(G:Zl)(Z:List (Str×Value)):Aj k (A.under (.builtin "type.__call__" ⟨.ref C::G,Z⟩)) :=
 ⟨r.hd,by have:=r.dp;rw[agz];lia,by have:=r.un;rw[ag0];lia⟩
theorem Aj.depth{k:Nat}{A:Around}(r:Aj k A):A.depth<recursionLimit:=by have:=r.dp;lia
theorem Aj.units{k:Nat}{A:Around}(r:Aj k A):A.units+64<cLine:=by have:=r.un;lia
def Aj.W7{k:Nat}{A:Around}(r:Aj k A):A.units<cLine:=by have:=r.un;lia
def a9h:TA:=λ_ H Q=>Q [] H
def a9i(U:TE)(tr:TA):TA:=λZ H Q=>U Z H λx R=>tr Z R λG H2=>Q (x::G) H2
def a2v{X:Cx}:PA X [] a9h:=λ_ _ _ _ H Q I h=>su ⟨[],H,I,.nil,h⟩
def avy{X:Cx}{e:Expr}{G:Ya}{R:TE}{t:TA}(ha:PE X e R)(hr:PA X G t)(hs:starEach (e::G) X.env=(false,eval e X.env)::starEach G X.env:=by rfl):PA X (e::G) (a9i R t):=by intro pos Z s U H Q I h;rw[hs];show wpAny _ _ (spliced ((false,eval e X.env)::backTo pos (starEach G X.env))) _ _ s;refine j7 (Bu (ha Z s U H _ I h) λu s1 z_=>?_);obtain⟨x,H1,I1,r1,q1⟩:=z_;exact Bu (hr pos Z s1 U H1 _ I1 q1) λus s2 ⟨xs,H2,I2,r2,q2⟩=>⟨x::xs,H2,I2,.cons r1 r2,q2⟩
def bgc(t:TA):TE:=λU H Q=>t U H λG Z=>G.length<=sizeLine/\∀p,Z p=none->Q (.ref p) (upd Z p (.tup G))
def bgd(t:TA):TE:=λU H Q=>t U H λG Z=>G.length<=sizeLine/\∀p,Z p=none->Q (.ref p) (upd Z p (.lst G))
def a2w{X:Cx}{U:Ya}{t:TA}{pos:Pos}{x1}(h:PA X U t):PE X (.Tuple U x1 pos) (bgc t):=by intro Z s σ H Q I hq;refine wpAny_Tuple_spliced (Bu (h pos Z s σ H _ I hq) λus G ⟨xs,H1,I1,r,z,q⟩=>⟨by rw[<- r.length];exact z,?_⟩);have R:H1 G.heap.objs.size=none:=I1.Av.fresh (bw _);refine⟨.ref G.heap.objs.size,upd H1 G.heap.objs.size (.tup xs),I1.laid (t':=G.toks) (λb u e=>au _ e) (bw _) ?_,rfl,q _ R⟩;exact⟨z,us,r,aa3.new _ _⟩
def apm{X:Cx}{U:Ya}{t:TA}{pos:Pos}(h:PA X U t):PE X (.List U pos) (bgd t):=by intro Z s σ H Q I hq;refine wpAny_List_spliced (Bu (h pos Z s σ H _ I hq) λus G ⟨xs,H1,I1,r,z,q⟩=>⟨by rw[<- r.length];exact z,?_⟩);have R:H1 G.heap.objs.size=none:=I1.Av.fresh (bw _);refine⟨.ref G.heap.objs.size,upd H1 G.heap.objs.size (.lst xs),I1.laid (t':=G.toks) (λb u e=>au _ e) (bw _) ?_,rfl,q _ R⟩;exact⟨z,us,0,r,bu _ rfl⟩
abbrev Sp:=List V->Hp->VK->XK->Prop
abbrev CXT:=List Env->Hp->Shared->XK->Value->Shared->Prop
structure ag1(P:Program)(w:World)(K:Fg)(mg:Zs)(base:Heap)(A:Around)(outer:List Env)(s:Shared)(H:Hp):Prop where
 frames:A.frames=some outer
 mod:Mod K mg base
 bs:∀b o,base.get? b=some o->s.heap.get? b=some o/\H b=none
 bsz:base.objs.size<=s.heap.objs.size
 Vq:s.heap.FunFrames base outer
 frf:∀b∈frs outer,H b=none
 Av:Ql P w H s.heap
 bare:AllBare s.gens
def CE(Z:List Env)(P:Program)(w:World)(H:Hp)(s:Shared)(Q:VK)(u:Value)(G:Shared):Prop :=
 ∃v U,G.os=s.os/\AllBare G.gens/\Un (frs Z) [] H U s.heap G.heap/\Ql P w U G.heap/\RelV v u/\Q v U
def CR(U:CXT)(Z:List Env)(P:Program)(w:World)(H:Hp)(s:Shared)(Q:VK)(E:XK)(r:Result)(G:Shared):Prop :=
 match r with
 |.ok (.ret u)=>CE Z P w H s Q u G|.ok _=>False|.error e=>U Z H s E e G
structure Ha(P:Program)(w:World)(K:Fg)(mg:Zs)(base:Heap)(CX:CXT)(k:Nat)(f:Addr)(fd:FuncData)(ps:Yf)(sp:Sp):Prop where
 len:∀vs H Q E,sp vs H Q E->vs.length=ps.length
 run:∀(A:Around)(outer:List Env)(s:Shared)(H:Hp)(args:Args)(us:Zl)(vs:List V)(Q:VK)(E:XK),Aj k A->ag1 P w K mg base A outer s H->BindsTo s fd args (ps.zip us)->Vals vs us->sp vs H Q E ->
  codeAny (model P w) A (.call (.ref f) args) (CR CX outer P w H s Q E) s
def Ha.imp{P:Program}{w:World}{K:Fg}{mg:Zs}{Z:Heap}{CX:CXT}{k:Nat}{f:Addr}{fd:FuncData}{ps:Yf}{sp sp':Sp}(F:Ha P w K mg Z CX k f fd ps sp)
 (h:∀U H Q E,sp' U H Q E->sp U H Q E):Ha P w K mg Z CX k f fd ps sp' :=
 ⟨λU H Q E q=>F.len U H Q E (h _ _ _ _ q),λA G s H R us U Q E hr he hb hv hs=>F.run A G s H R us U Q E hr he hb hv (h _ _ _ _ hs)⟩
def ag1.make{P:Program}{w:World}{K:Fg}{mg:Zs}{G:Heap}{A:Around}{Z:List Env}{s:Shared}{H:Hp}(e:ag1 P w K mg G A Z s H)(C:Addr)(U:Zl)(R:List (Str×Value)) :
 ag1 P w K mg G (A.under (.builtin "type.__call__" ⟨.ref C::U,R⟩)) Z s H:=⟨by first|exact e.frames|(simpa[Around.under,Code.envs,Code.isFrame,pushEnvs] using e.frames),e.mod,e.bs,e.bsz,e.Vq,e.frf,e.Av,e.bare⟩
def Inv.env0{X:Cx}{Z:Zp}{G:St}{H:Hp}{s:Shared}(I:Inv X Z G H s):ag1 X.prog X.w X.K X.mg X.base X.A X.stack s H :=
 ⟨I.ok.frames,I.ok.mod,I.bs,iu I.ok.bsz I.sz,I.stack,I.ai1,I.Av,I.bare⟩
def Inv.after{X:Cx}{Z:Zp}{R:St}{H:Hp}{s s':Shared}{Q:VK}{u:Value}(I:Inv X Z R H s)(h:CE X.stack X.prog X.w H s Q u s'):EP X Z R Q u s':=by obtain⟨v,H',os,G,un,Av,r,q⟩:=h;obtain⟨hh,g,d,t,U⟩:=s';obtain rfl:U=s.os:=os;exact⟨v,H',I.call (h':=hh) (g':=g) (d':=d) (t':=t) (ch:=[]) un Av G (λb z=>absurd z (by simp)),r,q⟩
def a9j(G:Sp)(Z:List V)(E:XK)(t:TA):TE:=λU H Q=>t U H λR H1=>G (R++Z) H1 Q E
def a9k(C:Addr)(m:Str)(R:Sp)(U:List V)(E:XK)(ta:TE)(t:TA):TE:=λZ H Q=>ta Z H λx G=>∃a dx fs,x=.ref a/\G a=some (.ins C dx fs)/\fs.lookup m=none /\
 t Z G λvs H2=>R (x::(vs++U)) H2 Q E
def a9l(C:Addr)(R:Sp)(U:List V)(E:XK)(t:TA):TE:=fun σ H Q=>t σ H λvs G=>∀x Z,G x=none->G Z=none->Z≠x ->
 R (.ref x::(vs++U)) (upd (upd G Z (.own x)) x (.ins C Z [])) (λv H2=>v=.non/\Q (.ref x) H2) E
def Binds(K:Fg)(R:FuncData)(U:Yf)(G:Zl):Prop :=
 ∀(s:Shared)(Z:Zl),K.In s.heap->(Z++G).length=U.length->BindsTo s R ⟨Z,[]⟩ (U.zip (Z++G))
def Binds.all{K:Fg}{U:FuncData}{G:Yf}(h:∀Z:List Value,Z.length=G.length->bindArgs U ⟨Z,[]⟩=pure (G.zip Z)):Binds K U G []:=λs Z _ R=>by rw[Bp] at R ⊢;exact .of_eq (h Z R)
def Passes(R:CXT)(X:Cx)(E:XK):Prop:=∀(Z:Zp)(U:St)(H:Hp)(s:Shared)(e:Value)(G:Shared),Inv X Z U H s->R X.stack H s E e G->X.xe e G
def apn{X:Cx}{CX:CXT}{k:Nat}{f:Addr}{fd:FuncData}{ps:Yf}{sp:Sp}{R:List V}{G:Zl}{E:XK}{Z:Zp}{σ:St}{H:Hp}{s:Shared}{Q:VK}{us:Zl}{vs:List V}(F:Ha X.prog X.w X.K X.mg X.base CX k f fd ps sp)(hr:Aj k X.A)(hb:Binds X.K fd ps G)(hd:Vals R G)(hx:Passes CX X E)
 (I:Inv X Z σ H s) (r:Vals vs us) (h:sp (vs++R) H Q E):wpAny (model X.prog X.w) X.A (call (.ref f) us) (EP X Z σ Q) X.xe s:=by
 have r2:Vals (vs++R) (us++G):=r.append hd;have hl:(us++G).length=ps.length:=by rw[<- r2.length];exact F.len _ _ _ _ h
 refine wpAny_call (w6 (F.run X.A X.stack s H ⟨us,[]⟩ (us++G) (vs++R) Q E hr I.env0 (hb s us I.U9 hl) r2 h) λr s' U=>?_);cases r with
 |error e=>exact hx Z σ H s e s' I U
 |ok fl =>
  cases fl with
  |ret u=>exact I.after U|next=>exact False.elim U|brk=>exact False.elim U|cont=>exact False.elim U
def avz{X:Cx}{CX:CXT}{k:Nat}{f:Addr}{R:FuncData}{ps:Yf}{U:Sp}{W8:List V}{ds:Zl}{E:XK}{x:Str}{p pos:Pos}{e:Expr}{G:Ya}{t:TA}(F:Ha X.prog X.w X.K X.mg X.base CX k f R ps U)(hr:Aj k X.A)(hg:Gl X x)(hm:X.mg x=some (.ref f))(hk:PySem.W.keepIn X.K (.ref f)=true)(hb:Binds X.K R ps ds)(hd:Vals W8 ds)(hx:Passes CX X E)
 (ha:PA X (e::G) t) (Tn:(x==("__debug__" : Str))=false:=by decide) (he:starEach (e::G) X.env=(false,eval e X.env)::starEach G X.env:=by rfl) (Jq:(backTo pos (starEach G X.env)).any (·.1)=false:=by rfl) :
 PE X (.Call (.Name x p) (e::G) [] pos) (a9j U W8 E t):=by
 intro Z s σ H Q I h;refine iw (aa7 I hg hm ?_ Tn);refine PySem.W.callWith_K (h₀:=X.base) I.ok.mod.kin hk (Bu (ha pos Z s σ H _ I h) λus s1 ⟨vs,H1,I1,r,q⟩=>⟨I1.U9,?_⟩) he Jq;exact apn F hr hb hd hx I1 r q
def apo{X:Cx}{CX:CXT}{k:Nat}{f C:Addr}{R:FuncData}{ps:Yf}{U:Sp}{W8:List V}{ds:Zl}{E:XK}{m:Str}{pos Z:Pos}{o:Expr}{ta:TE}{pl:Sem Bool}(he:PE X o ta)(c:Cls X.K C)(hm:Meth X.K C m f)(F:Ha X.prog X.w X.K X.mg X.base CX k f R ps U)(hr:Aj k X.A)(hb:Binds X.K R ps ds)(hd:Vals W8 ds)(hx:Passes CX X E)
 (ht:eval (.Call (.Attribute o m Z) [] [] pos) X.env=(do
  let ov <- eval o X.env
  standAt Z.atName
  let (f,first) <- holding [ov] (getMethod ov m pl)
  callWith pos f first (backTo pos (starEach [] X.env)) (backToKw pos (keywordEach [] X.env))):=by rfl) :
 PE X (.Call (.Attribute o m Z) [] [] pos) (a9k C m U W8 E ta a9h):=by
 intro G s σ H Q I h;refine PySem.W.methodCall_KW (pl:=pl) (Bu (he G s σ H _ I h) λu s1 ⟨x,H1,I1,rx,a,dx,fs,ex,ea,l,q⟩=>?_) ht;subst ex;obtain rfl:u=Value.ref a:=rx;refine agx I1 ea c hm l ?_;exact PySem.W.callWith_K0 (first:=[.ref a]) I1.U9 hm.kp (apn (us:=[.ref a]) (vs:=[.ref a]) F hr hb hd hx I1 (.cons rfl .nil) q)
structure Mk(K:Fg)(C f:Addr):Prop where
 makes:PySem.W.makesIn K C=true
 init:PySem.W.findIn K (.ref C) "__init__" = some (some (.ref f))
 fn:PySem.W.isFn K (.ref f)=true
 kp:PySem.W.keepIn K (.ref C)=true
def apq{X:Cx}{CX:CXT}{k:Nat}{f C:Addr}{fd:FuncData}{ps:Yf}{sp:Sp}{W8:List V}{R:Zl}{E:XK}{Z:Zp}{σ:St}{H:Hp}{s:Shared}{Q:VK}{U:Zl}{vs:List V}(M:Mk X.K C f)(F:Ha X.prog X.w X.K X.mg X.base CX k f fd ps sp)(hr:Aj (k+1) X.A)(hb:Binds X.K fd ps R)(hd:Vals W8 R)
 (hx:Passes CX X E) (I:Inv X Z σ H s) (r:Vals vs U)
 (h:∀x dx,H x=none->H dx=none->dx≠x->sp (.ref x::(vs++W8)) (upd (upd H dx (.own x)) x (.ins C dx [])) (λv H2=>v=.non/\Q (.ref x) H2) E) :
 wpAny (model X.prog X.w) X.A (call (.ref C) U) (EP X Z σ Q) X.xe s:=by
 have hq:=h (s.heap.objs.size+1) s.heap.objs.size (I.Av.fresh (vg _)) (I.Av.fresh (bw _)) (gh (qm _));have I2:=Inv.made (C:=C) I;have r2:Vals (V.ref (s.heap.objs.size+1)::(vs++W8)) (Value.ref (s.heap.objs.size+1)::(U++R)):=.cons rfl (r.append hd);have hl:(Value.ref (s.heap.objs.size+1)::U++R).length=ps.length:=by have e:=r2.length;rw[F.len _ _ _ _ hq] at e;exact e.symm
 refine wpAny_call (apl (f:=f) I.U9 M.makes M.init (beq_iff_eq.mp M.fn) (w6 (F.run _ X.stack _ _ ⟨Value.ref (s.heap.objs.size+1)::U,[]⟩ (Value.ref (s.heap.objs.size+1)::(U++R)) _ _ E (hr.make C U [])
  (I2.env0.make C U []) (hb _ (Value.ref (s.heap.objs.size+1)::U) I2.U9 hl) r2 hq) λr s' G=>?_))
 cases r with
 |error e=>exact hx Z σ _ _ e s' I2 G
 |ok fl =>
  cases fl with
  |ret u =>
   obtain⟨v,H',I3,rv,ev,q3⟩:=I2.after G;subst ev;exact⟨rv,⟨V.ref (s.heap.objs.size+1),H',I3,rfl,q3⟩⟩
  |next=>exact False.elim G|brk=>exact False.elim G|cont=>exact False.elim G
def av0{X:Cx}{CX:CXT}{k:Nat}{f C:Addr}{R:FuncData}{ps:Yf}{U:Sp}{W8:List V}{ds:Zl}{E:XK}{x:Str}{p pos:Pos}{e:Expr}{G:Ya}{t:TA}(M:Mk X.K C f)(F:Ha X.prog X.w X.K X.mg X.base CX k f R ps U)(hr:Aj (k+1) X.A)(hg:Gl X x)(hm:X.mg x=some (.ref C))(hb:Binds X.K R ps ds)(hd:Vals W8 ds)(hx:Passes CX X E)
 (ha:PA X (e::G) t) (Tn:(x==("__debug__" : Str))=false:=by decide) (he:starEach (e::G) X.env=(false,eval e X.env)::starEach G X.env:=by rfl) (Jq:(backTo pos (starEach G X.env)).any (·.1)=false:=by rfl) :
 PE X (.Call (.Name x p) (e::G) [] pos) (a9l C U W8 E t):=by
 intro Z s σ H Q I h;refine iw (aa7 I hg hm ?_ Tn);refine PySem.W.callWith_K (h₀:=X.base) I.ok.mod.kin M.kp (Bu (ha pos Z s σ H _ I h) λus s1 ⟨vs,H1,I1,r,q⟩=>⟨I1.U9,?_⟩) he Jq;exact apq M F hr hb hd hx I1 r q
structure V5(N P:Yf)(sc:Scope):Prop where
 kind:sc.kind=.function
 co:sc.isCoroutine=false
 gen:sc.isGenerator=false
 nd:N.Nodup
 pre:N.take P.length=P
 par:∀x∈P,sc.names.lookup x=some .local\/sc.names.lookup x=some .cell
 a2x:∀y∈sc.names,y.2≠.free
theorem Zc{Z:Str->Option NameKind}{x:Str}:∀{binds:List (Str×Value)}{m:Zs},(∀v,(x,v)∉binds)->bindL Z binds m x=m x
 |[],_,_=>rfl
 |(n,v)::r,m,h=>by
  unfold bindL;rw[Zc λw G=>h w (bh _ G)];split
  .have:x≠n:=by rintro rfl;exact h v cu
   simp[this]
  .rfl
theorem Zd{Z:Str->Option NameKind}{x:Str}:∀{binds:List (Str×Value)}{m:Zs},(∀v,(x,v)∉binds)->bindC Z binds m x=m x
 |[],_,_=>rfl
 |(n,v)::r,m,h=>by
  unfold bindC;rw[Zd λw G=>h w (bh _ G)];split
  .rfl
  .have:x≠n:=by rintro rfl;exact h v cu
   simp[this]
theorem Ze{Z:Str->Option NameKind}{x:Str}{v:Value}:∀{P:Yf}{G:Zl}{i:Nat}{m:Zs},P.Nodup->P[i]?=some x->G[i]?=some v->Z x=some .local ->
 bindL Z (P.zip G) m x=some v
 |[],_,_,_,_,h,_,_=>by simp at h|_::_,[],_,_,_,_,h,_=>by simp at h
 |p::P,w::G,0,m,nd,h1,h2,hk=>by
  simp at h1 h2;subst h1;subst h2;show bindL Z ((p,w)::P.zip G) m p=_;unfold bindL;rw[Zc λv U=>(q9.mp nd).1 (List.of_mem_zip U).1,dg hk];simp
 |p::P,w::G,i+1,m,nd,h1,h2,hk=>by
  show bindL Z ((p,w)::P.zip G) m x=_;unfold bindL;exact Ze (i:=i) (q9.mp nd).2 (by simpa using h1) (by simpa using h2) hk
theorem Zf{Z:Str->Option NameKind}{x:Str}{v:Value}:∀{P:Yf}{G:Zl}{i:Nat}{m:Zs},P.Nodup->P[i]?=some x->G[i]?=some v->Z x≠some .local ->
 bindC Z (P.zip G) m x=some v
 |[],_,_,_,_,h,_,_=>by simp at h|_::_,[],_,_,_,_,h,_=>by simp at h
 |p::P,w::G,0,m,nd,h1,h2,hk=>by
  simp at h1 h2;subst h1;subst h2;show bindC Z ((p,w)::P.zip G) m p=_;unfold bindC;rw[Zd λv U=>(q9.mp nd).1 (List.of_mem_zip U).1,bx hk];simp
 |p::P,w::G,i+1,m,nd,h1,h2,hk=>by
  show bindC Z ((p,w)::P.zip G) m x=_;unfold bindC;exact Zf (i:=i) (q9.mp nd).2 (by simpa using h1) (by simpa using h2) hk
noncomputable def start(N:Yf)(Z:List V):St:=Z.map some++List.replicate (N.length-Z.length) none
noncomputable def ag2(CX:CXT)(P:Program)(w:World)(K:Fg)(mg:Zs)(base:Heap)(N:Yf)(G:Str)(Z:Scope)(f:Addr)(R:Value)(A:Around)(outer:List Env)(s:Shared)(H:Hp)(E:XK):Cx where
 prog:=P
 w:=w
 K:=K
 mg:=mg
 base:=base
 A:=A.deeper (envOfC G Z s.heap.objs.size f R)
 N:=N
 s₀:=s
 H₀:=H
 env:=envOfC G Z s.heap.objs.size f R
 outer:=outer
 stack:=envOfC G Z s.heap.objs.size f R::outer
 ex:=[]
 calm:=true
 fn:=λ_=>true
 pn:=[]
 xe:=λe s'=>wpAny (model P w) (A.deeper (envOfC G Z s.heap.objs.size f R)) (leaving (envOfC G Z s.heap.objs.size f R) e) (λ_ U=>CX outer H s E e U) (λe' U=>CX outer H s E e' U) s'
def adu{Z:Scope}{n:Nat}{x:Str}(h:Z.names.lookup x=some .cell):∃c,(cellsFrom n Z.names []).lookup x=some c:=by have q:=PySem.W.cellsFrom_some Z.names n [] (.inl h);exact o6.mp q
def alk{CX:CXT}{P:Program}{w:World}{K:Fg}{mg:Zs}{qq:Heap}{N ps:Yf}{U:Str}{Z:Scope}{f:Addr}{cd:Value}{A:Around}{G:List Env}{s s1:Shared}{H:Hp}{E:XK}{us:Zl}{vs:List V}
 (S:V5 N ps Z) (hd:A.handled=none) (e0:ag1 P w K mg qq A G s H) (hl:vs.length=ps.length) (r:Vals vs us)
 (x:InCallC s s.heap.objs.size (bindL (envOfC U Z s.heap.objs.size f cd).kindOf (ps.zip us) λ_=>none) (cellsFrom (s.heap.objs.size+1) Z.names []) (bindC (envOfC U Z s.heap.objs.size f cd).kindOf (ps.zip us) λ_=>none) s1) :
 Inv (ag2 CX P w K mg qq N U Z f cd A G s H E) [] (start N vs) H s1:=by
 have Jq:ps.length<=N.length:=by have:=ud List.length S.pre;rw[Ax] at this;lia
 obtain⟨h1,tk,rfl,hk⟩:=x.done;have qk:∀b:Addr,b∉(ag2 CX P w K mg qq N U Z f cd A G s H E).ex:=λb z=>absurd (show b∈([]:X9) from z) (by simp)
 refine⟨⟨e0.mod,S.kind,rfl,rfl,bw _,λy z c h1 R=>?_,λy hy=>?_,λy c _ h=>?_,λ_=>hd,Around.frames_deeper e0.frames,.inr ⟨rfl,rfl⟩,λb z=>absurd z (qk b),e0.bs,e0.bsz,λb _ _=>qk b,λb z=>absurd z (qk b),e0.Vq,e0.frf⟩,
  rfl,e0.bare,Un.kept hk,⟨_,x.toInCall.ns,λi y v h1 R h3=>?_⟩,λy c h=>⟨_,x.cell y c h⟩,e0.Av.fresh (bw _),λy c h=>?_,λp hp=>absurd (show p∈([]:Zp) from hp) (by simp),e0.Av.kept hk,?_⟩
 .exact name_of_addr x.apart (zf h1) (zf R)
 .have hy:Z.names.lookup y=some .cell\/Z.names.lookup y=some .free:=hy
  rcases hy with hy|hy
  .exact adu hy
  .exact absurd rfl (S.a2x _ (zf hy))
 .exact yj (x.above y c (zf h))
 .have hi:i<vs.length:=by
   unfold start at R
   by_cases hi:i<vs.length
   .exact hi
   .rw[jo (by simpa using hi)] at R
    rw[List.getElem?_replicate] at R;split at R<;>cases R
  have ha:vs[i]?=some v:=by
   unfold start at R;rw[dz (by simpa using hi),ie] at R;cases e:vs[i]? with
   |none=>rw[e] at R;cases R|some a=>rw[e] at R;cases R;rfl
  obtain⟨u,hu,rv⟩:=r.get ha;have hp:ps[i]?=some y:=by rw[<- S.pre,List.getElem?_take_of_lt (b_ hi (f_ hl))];exact h1
  have qv:ps.Nodup:=by rw[<- S.pre];exact S.nd.sublist (List.take_sublist _ _)
  refine⟨u,rv,?_⟩;rcases S.par y (ao hp) with k|k
  .exact .inl ⟨k,Ze qv hp hu k⟩
  .obtain⟨c,e⟩:=adu (n:=s.heap.objs.size+1) k
   refine .inr ⟨.inl k,c,e,?_⟩;have q:=x.cell y c e;rw[Zf qv hp hu (by show Z.names.lookup y≠_;rw[k];decide)] at q;exact q
 .exact e0.Av.fresh (yj (x.above y c (zf h)))
 .unfold start
  show _=N.length;rw[uy,cz,List.length_replicate]
  lia
def a9n{CX:CXT}{P:Program}{w:World}{K:Fg}{mg:Zs}{qq:Heap}{k:Nat}{f:Addr}{q1 U:Str}{qk:Arguments}{qv:List Stmt}{Z:Scope}{dV kV q3 pm R ct oc:Value}{an od:Option Addr}
 {q8:Array (Option Value)} {N ps:Yf} {sp:Sp} (lk:K.lookup f=some ⟨oc,od,.func (PySem.W.fnOf q1 U qk qv Z dV kV q3 pm an R ct),q8⟩) (q5:PySem.W.codeIn K R U=true) (S:V5 N ps Z)
 (len:∀vs H Q E,sp vs H Q E->vs.length=ps.length)
 (q7:∀(A:Around)(G:List Env)(s:Shared)(H:Hp)(vs:List V)(Q:VK)(E:XK),Aj k (A.deeper (envOfC U Z s.heap.objs.size f R))->sp vs H Q E ->
  ∃t,Sg (ag2 CX P w K mg qq N U Z f R A G s H E) qv t/\t { nx:=λ_ H'=>Q .non H',rt:=Q } (start N vs) H) :
 Ha P w K mg qq CX (k+1) f (PySem.W.fnOf q1 U qk qv Z dV kV q3 pm an R ct) ps sp:=by
 refine⟨len,λA G s H zq us vs Q E hr e0 hb r q2=>?_⟩;have hl:=len _ _ _ _ q2;have KX:K.In s.heap:=e0.mod.kin.keeps λb o e=>(e0.bs b o e).1
 have q6:s.heap.NoLimit:=e0.mod.nolimit.keeps λb o e=>(e0.bs b o e).1
 have q4:∀y∈ps.zip us,Z.names.lookup y.1=some .local\/(Z.names.lookup y.1=some .cell/\((cellsFrom (s.heap.objs.size+1) Z.names []).lookup y.1).isSome=true):=λ⟨n,v⟩ hy=>by
  rcases S.par n (List.of_mem_zip hy).1 with q|q
  .exact .inl q
  .exact .inr ⟨q,PySem.W.cellsFrom_some _ _ _ (.inl q)⟩
 refine codeAny_call_function hr.depth (KX _ _ lk) rfl S.co S.gen rfl (PySem.W.codeRec_of KX q5) (hb _ _ _ _ ?_);refine wpAny_newFunctionEnv_cells S.kind q4 λzz he s1 x=>?_
 subst he;refine⟨q6.keeps x.toInCall.keep,codeAny_func ?_⟩;obtain⟨t,ht,hq⟩:=q7 A G s H vs Q E (hr.deeper _) q2;have I:Inv (ag2 CX P w K mg qq N U Z f R A G s H E) [] (start N vs) H s1:=alk S hr.hd e0 hl r x;refine mj (ht [] s1 (start N vs) H _ I hq) (λfl s' hs=>?_) λe s' hs=>hs
 have fin:∀{q0:St}{H':Hp}{v:V}{u:Value},Inv (ag2 CX P w K mg qq N U Z f R A G s H E) [] q0 H' s'->RelV v u->Q v H'->CE G P w H s Q u s' :=
  fun{q0 H' v u} J rv q=>⟨v,H',J.os,J.bare,J.base,J.Av,rv,q⟩
 cases fl with
 |ret u =>
  obtain⟨v,q0,H',J,rv,q⟩:=hs;exact fin J rv q
 |next =>
  obtain⟨q0,H',J,q⟩:=hs;exact fin (v:=V.non) (u:=Value.none) J rfl q
 |brk =>
  obtain⟨_,_,_,q⟩:=hs;exact False.elim q
 |cont =>
  obtain⟨_,_,_,q⟩:=hs;exact False.elim q
end L2
namespace L2
open PySem PySem.Spec PyProof.Rows
def tCB(r:List V->Hp->VK->Prop)(t:TA):TE:=λU H Q=>t U H λG Z=>r G Z Q
def aps{X:Cx}{x:Str}{p pos:Pos}{e:Expr}{G:Ya}{t:TA}{id:String}{r:List V->Hp->VK->Prop}(hc:Ci X (.builtin id) r)(hg:Gl X x)(hm:X.mg x=none)(hv:bootBuiltins x=some (.builtin id))(ha:PA X (e::G) t)(R:x≠"__name__" := by decide)(Tn:(x==("__debug__" : Str))=false:=by decide)
 (he:starEach (e::G) X.env=(false,eval e X.env)::starEach G X.env:=by rfl) (Jq:(backTo pos (starEach G X.env)).any (·.1)=false:=by rfl):PE X (.Call (.Name x p) (e::G) [] pos) (tCB r t):=by
 intro Z s U H Q I h;refine iw (Cw I hg hm hv ?_ R Tn);exact wj (Bu (ha pos Z s U H _ I h) λus s1 ⟨vs,H1,I1,r1,q1⟩=>hc Z s1 U H1 vs us Q I1 r1 q1) he Jq
def alm{X:Cx}{x:Str}{p pos:Pos}{e:Expr}{G:Ya}{t:TA}{T:String}{r:List V->Hp->VK->Prop}(hc:Ci X (.type T) r)(hg:Gl X x)(hm:X.mg x=none)(hv:bootBuiltins x=some (.type T))(ha:PA X (e::G) t)(R:x≠"__name__" := by decide)(Tn:(x==("__debug__" : Str))=false:=by decide)
 (he:starEach (e::G) X.env=(false,eval e X.env)::starEach G X.env:=by rfl) (Jq:(backTo pos (starEach G X.env)).any (·.1)=false:=by rfl):PE X (.Call (.Name x p) (e::G) [] pos) (tCB r t):=by
 intro Z s U H Q I h;refine iw (Cw I hg hm hv ?_ R Tn);exact jh (Bu (ha pos Z s U H _ I h) λus s1 ⟨vs,H1,I1,r1,q1⟩=>hc Z s1 U H1 vs us Q I1 r1 q1) he Jq
section
variable{κ:Type}[DecidableEq κ]
noncomputable def Q4(G:List (κ×V))(k:κ):Option V:=(G.find? λZ=>decide (Z.1=k)).map (·.2)
noncomputable def putK(G:List (κ×V))(k:κ)(v:V):List (κ×V) :=
 if(G.any λZ=>decide (Z.1=k))=true then G.map (λZ=>if Z.1=k then(Z.1,v) else Z) else G++[(k,v)]
def Sh{p:κ×V}(e:p.1=k):Q4 (p::r) k=some p.2:=by simp[Q4,qz,e]
def Sq{p:κ×V}(e:¬p.1=k):Q4 (p::r) k=Q4 r k:=by simp[Q4,qz,e]
theorem adw(k:κ):∀Z:List (κ×V),(Z.any λG=>decide (G.1=k))=(Q4 Z k).isSome
 |[]=>rfl
 |p::r=>by
  rw[Bg]
  by_cases e:p.1=k
  .simp only[Sh e,Aq e,Bool.true_or,Option.isSome_some]
  .rw[Sq e,v8 e,Bool.false_or];exact adw k r
def Vd(Z:List (κ×V))(k:κ)(v:V):(putK Z k v).length<=Z.length+1:=by
 unfold putK;split
 .rw[cz];exact x_
 .rw[uy,il,List.length_nil];exact bw _
def Mt.Kv(r:Mt o u):o.isSome=u.isSome:=by
 cases o with
 |none=>cases u with
  |none=>rfl|some _=>exact(show False from r).elim
 |some _=>cases u with
  |none=>exact(show False from r).elim
  |some _=>rfl
theorem Mt.getD(r:Mt o u)(G:RelV d Z):RelV (o.getD d) (u.getD Z):=by
 cases o with
 |none=>cases u with
  |none=>exact G|some _=>exact(show False from r).elim
 |some _=>cases u with
  |none=>exact(show False from r).elim
  |some _=>exact r
def KV.val(r:KV ik R)(k:κ):Mt (Q4 ik k) (valueAt R k):=by
 unfold KV at r
 induction r with
 |nil=>exact True.intro
 |@cons p q ps qs h t ih =>
  obtain⟨G,U⟩:=h
  by_cases e:p.1=k
  .have Z:q.1=k:=G.symm.trans e
   have b:valueAt (q::qs) k=some q.2:=by simp[valueAt,qz,Z]
   rw[Sh e,b];exact U
  .have Z:¬q.1=k:=λz=>e (G.trans z)
   have b:valueAt (q::qs) k=valueAt qs k:=by simp[valueAt,qz,Z]
   rw[Sq e,b];exact ih
theorem KV.any(r:KV R G)(k:κ):(R.any λZ=>decide (Z.1=k))=G.any λZ=>decide (Z.1=k):=by
 unfold KV at r
 induction r with
 |nil=>rfl|cons h t U=>rw[Bg,Bg,U,h.1]
def KV.Dd(r:KV ik vs)(k:κ)(R:RelV y u) :
 KV (ik.map λZ=>if Z.1=k then(Z.1,y) else Z) (vs.map λZ=>if Z.1=k then(Z.1,u) else Z):=by
 unfold KV at r ⊢
 induction r with
 |nil=>exact .nil
 |@cons p q ps qs h t ih =>
  rw[ig,ig];refine .cons ?_ ih;obtain⟨G,U⟩:=h
  by_cases e:p.1=k
  .rw[dg e,dg (G.symm.trans e)];exact⟨G,R⟩
  .rw[bx e,bx (λz=>e (G.trans z))];exact⟨G,U⟩
def KV.put(r:KV R G)(k:κ)(Z:RelV y u):KV (putK R k y) (stored G k u):=by
 unfold putK stored;rw[r.any k]
 by_cases e:(G.any λU=>decide (U.1=k))=true
 .rw[dg e,dg e];exact r.Dd k Z
 .rw[bx e,bx e];exact Paired.snoc r ⟨rfl,Z⟩
theorem KV.length{G:List (κ×V)}{Z:List (κ×Value)}(r:KV G Z):G.length=Z.length:=Paired.length r
end
def Zg(r:RelV (kV k) u):(mz P w).is k u=true:=by
 cases k with
 |inl i=>obtain⟨t,e⟩:=(show ∃t,u=Value.int i t from r);subst e;exact adm P w i t
 |inr x=>obtain⟨t,e⟩:=(show ∃t,u=Value.str x t from r);subst e;exact adn P w x t
theorem Zh{P:Program}{w:World}:∀{Z:List Key}{G:Zl},Vals (Z.map kV) G->ItemsAre (mz P w) Z G
 |[],_,r=>by rw[List.map_nil] at r;cases r;exact .nil
 |k::Z,_,r=>by
  rw[ig] at r;cases r with
  |cons h t=>exact .cons (Zg h) (Zh t)
abbrev KT(H:Hp):List (List Key×V)->List (List Key×Addr×Value)->Prop:=Paired λp q=>p.1=q.1/\H q.2.1=some (.tup (p.1.map kV))/\RelV p.2 q.2.2
def KT.val(r:KT H ik U)(k:List Key):Mt (Q4 ik k) ((atKey U k).map (·.2)):=by
 induction r with
 |nil=>exact True.intro
 |@cons p q ps qs h t ih =>
  obtain⟨G,_,R⟩:=h
  by_cases e:p.1=k
  .have Z:q.1=k:=G.symm.trans e
   have b:atKey (q::qs) k=some q.2:=by simp[atKey,qz,Z]
   rw[Sh e,b];exact R
  .have Z:¬q.1=k:=λz=>e (G.trans z)
   have b:atKey (q::qs) k=atKey qs k:=by simp[atKey,qz,Z]
   rw[Sq e,b];exact ih
def KT.Dd(r:KT H ik R)(k:List Key)(ry:RelV y u) :
 KT H (ik.map λG=>if G.1=k then(G.1,y) else G) (R.map (putAt k u)):=by
 induction r with
 |nil=>exact .nil
 |@cons p q ps qs h t ih =>
  rw[ig,ig];refine .cons ?_ ih;obtain⟨Z,U,h3⟩:=h;unfold putAt
  by_cases e:p.1=k
  .rw[dg e,dg (Z.symm.trans e)];exact⟨Z,U,ry⟩
  .rw[bx e,bx (λz=>e (Z.trans z))];exact⟨Z,U,h3⟩
def KT.put(r:KT H U Z)(k:List Key)(hb:H b=some (.tup (k.map kV)))(G:RelV y u) :
 KT H (putK U k y) (storedH Z k b u):=by
 have e:(U.any λR=>decide (R.1=k))=(atKey Z k).isSome:=by rw[adw,(r.val k).Kv,Option.isSome_map]
 unfold putK storedH;rw[e]
 by_cases q:(atKey Z k).isSome=true
 .rw[dg q,dg q];exact r.Dd k G
 .rw[bx q,bx q];exact Paired.snoc r ⟨rfl,hb,G⟩
def KT.keeps(r:KT H R xs)(U:∀b Z,H b=some (.tup Z)->G b=some (.tup Z)):KT G R xs :=
 Paired.a1j r λ_ _ z=>⟨z.1,U _ _ z.2.1,z.2.2⟩
def azo(ok:Ql P w H h)(e:Rd H a u):Ba P w H h a u:=e.ok ok
def Zi(ok:Ql P w H h)(e:Rd H a (.dK Z)):Z.length<=sizeLine/\(a==sysModules)=false/\∃vs,KV Z vs/\h.DictOf (mz P w) a vs :=
 show Ba P w H h a (.dK Z) from azo ok e
def a9p(ok:Ql P w H h)(e:H a=some (.dK Z)):Z.length<=sizeLine/\(a==sysModules)=false/\∃vs,KV Z vs/\h.DictOf (mz P w) a vs:=Zi ok (.inl e)
def O4(ok:Ql P w H h)(e:H a=some (.tup (Z.map kV))):(tupleKind (mz P w)).is h Z a:=by obtain⟨_,R,r,o,h1,G,n,U,_⟩:=(show Ba P w H h a (.tup (Z.map kV)) from ok a _ e);exact⟨o,R.toArray,n,h1,G,U,by simpa using Zh r⟩
def Zj(ok:Ql P w H h)(e:Rd H a (.dT G)):G.length<=sizeLine/\(a==sysModules)=false /\
 ∃xs,KT H G xs/\h.DictOfH (tupleKind (mz P w)) a xs:=by
 obtain⟨z,y,xs,r,o,U,ep,h1,R,h3,h4,h5⟩:=(show Ba P w H h a (.dT G) from azo ok e);refine⟨z,y,xs,r,o,U,ep,h1,R,h3,h4,λx Z=>?_,h5⟩;have all:∀{l:List (List Key×V)}{m:List (List Key×Addr×Value)},KT H l m->∀x∈m,(tupleKind (mz P w)).is h x.1 x.2.1:=by
  intro l m q
  induction q with
  |nil=>intro x Z;exact nomatch Z
  |@cons p q ps qs hq t ih =>
   intro x Z;rcases cj.mp Z with e|Z
   .subst e
    exact O4 ok (by rw[<- hq.1];exact hq.2.1)
   .exact ih x Z
 exact all r x Z
def apt(ok:Ql P w H h)(e:H a=some (.dT Z)):Z.length<=sizeLine/\(a==sysModules)=false /\
 ∃xs,KT H Z xs/\h.DictOfH (tupleKind (mz P w)) a xs:=Zj ok (.inl e)
def Q5(H:Hp)(a:Addr)(y:V)(r:Option V):Prop :=
 (∃Z k,Rd H a (.dK Z)/\y=kV k/\r=Q4 Z k)\/∃Z k b,Rd H a (.dT Z)/\y=.ref b/\H b=some (.tup (k.map kV))/\r=Q4 Z k
def ag3(H:Hp)(a:Addr)(y v:V)(G:Hp):Prop :=
 (∃Z k,H a=some (.dK Z)/\y=kV k/\Z.length<sizeLine/\G=upd H a (.dK (putK Z k v))) \/
 ∃Z k b,H a=some (.dT Z)/\y=.ref b/\H b=some (.tup (k.map kV))/\Z.length<sizeLine/\G=upd H a (.dT (putK Z k v))
theorem Q5.k{k:Key}(e:H a=some (.dK Z)):Q5 H a (kV k) (Q4 Z k):=.inl ⟨Z,k,.inl e,rfl,rfl⟩
def Q5.t{k:List Key}(e:H a=some (.dT Z))(G:H b=some (.tup (k.map kV))):Q5 H a (.ref b) (Q4 Z k):=.inr ⟨Z,k,b,.inl e,rfl,G,rfl⟩
theorem ag3.k{k:Key}(e:H a=some (.dK Z))(G:Z.length<sizeLine):ag3 H a (kV k) v (upd H a (.dK (putK Z k v))):=.inl ⟨Z,k,e,rfl,G,rfl⟩
def ag3.t{k:List Key}(e:H a=some (.dT Z))(G:H b=some (.tup (k.map kV)))(U:Z.length<sizeLine) :
 ag3 H a (.ref b) v (upd H a (.dT (putK Z k v))):=.inr ⟨Z,k,b,e,rfl,G,U,rfl⟩
def Inv.big(I:Inv X pins σ H s):sysModules<s.heap.objs.size:=by
 have h:mainGlobals<s.heap.objs.size:=(I.mod.glob.keeps I.bk).lt
 exact Nat.lt_trans (by decide) h
def aln(hu:A.units+1<cLine)(I:Inv X pins σ H s)(g:Q5 H a y (some v))(ry:RelV y u)(h:∀U s',Inv X pins σ H s'->RelV v U->Q U s') :
 wpAny (model X.prog X.w) A (getItem (.ref a) u) Q E s:=by
 rcases g with⟨ik,k,e,ey,l⟩|⟨ik,k,b,e,ey,eb,l⟩
 .subst ey
  obtain⟨z,hd,vs,Z,dd⟩:=Zi I.Av e;obtain⟨U,R,G⟩:=Mt.some_of (v:=v) (o:=valueAt vs k) (by rw[l];exact Z.val k);exact wpAny_getItem_of (Zg ry) dd.mapOf R (h U _ (I.tok _) G)
 .subst ey
  cases(show u=Value.ref b from ry);obtain⟨z,hd,xs,Z,dd⟩:=Zj I.Av e;obtain⟨U,R,G⟩:=Mt.some_of (v:=v) (o:=(atKey xs k).map (·.2)) (by rw[l];exact Z.val k);obtain⟨p,hp,qq⟩:=dq.mp R;refine wpAny_getItem_heap (xj hu) (O4 I.Av eb) dd hp ?_;rw[qq];exact h U _ (I.tok _) G
def bgf(hu:A.units+1<cLine)(I:Inv X pins σ H s)(g:Q5 H a y o)(ry:RelV y u)(h:∀s',Inv X pins σ H s'->Q (.bool o.isSome) s') :
 wpAny (model X.prog X.w) A (compareOp .In u (.ref a)) Q E s:=by
 rcases g with⟨ik,k,e,G,l⟩|⟨ik,k,b,e,G,eb,l⟩
 .subst G
  obtain⟨z,U,vs,Z,R⟩:=Zi I.Av e;refine wpAny_in_of (Zg ry) U R.mapOf ?_;rw[<- (Z.val k).Kv,<- l];exact h _ (I.tok _)
 .subst G
  cases(show u=Value.ref b from ry);obtain⟨z,U,xs,Z,R⟩:=Zj I.Av e;refine wpAny_in_heap (xj hu) (O4 I.Av eb) U R ?_;have q:=(Z.val k).Kv;rw[Option.isSome_map] at q;rw[<- q,<- l];exact h _ (I.tok _)
def av2(hu:A.units+1<cLine)(I:Inv X pins σ H s)(g:Q5 H a y o)(ry:RelV y u)(h:∀s',Inv X pins σ H s'->Q (.bool (!o.isSome)) s') :
 wpAny (model X.prog X.w) A (compareOp .NotIn u (.ref a)) Q E s:=by
 rcases g with⟨ik,k,e,G,l⟩|⟨ik,k,b,e,G,eb,l⟩
 .subst G
  obtain⟨z,U,vs,Z,R⟩:=Zi I.Av e;refine wpAny_notIn_of (Zg ry) U R.mapOf ?_;rw[<- (Z.val k).Kv,<- l];exact h _ (I.tok _)
 .subst G
  cases(show u=Value.ref b from ry);obtain⟨z,U,xs,Z,R⟩:=Zj I.Av e;refine wpAny_notIn_heap (xj hu) (O4 I.Av eb) U R ?_;have q:=(Z.val k).Kv;rw[Option.isSome_map] at q;rw[<- q,<- l];exact h _ (I.tok _)
def ai8(I:Inv X pins σ H s)(mu:Mut (H a))(R:Heap.SameBut a s.heap Z)(U:∃q,Z.get? a=some q)(new:Ba X.prog X.w (upd H a G) Z a G) :
 Inv X pins σ (upd H a G) { s with heap:=Z,toks:=t' } :=
 I.write (x:=a) (e:=a) mu (.inl rfl) (λb q hb z=>(R.2 b hb).trans z) U new
def a2y(z:U.length<=sizeLine)(hd:(a==sysModules)=false)(Z:KV U G)(dd:R.DictOf (mz P w) a G) :
 Ba P w H' R a (.dK U):=⟨z,hd,G,Z,dd⟩
def Zk(hu:A.units+1<cLine)(I:Inv X pins σ H s)(g:ag3 H a y v H')(ry:RelV y u)(rv:RelV v r)(h:∀s',Inv X pins σ H' s'->Q () s') :
 wpAny (model X.prog X.w) A (setItem (.ref a) u r) Q E s:=by
 rcases g with⟨U,k,e,ey,l,eH⟩|⟨U,k,b,e,ey,eb,l,eH⟩
 .subst ey eH
  obtain⟨z,hd,vs,Z,dd⟩:=a9p I.Av e;have hz:vs.length<=sizeLine:=by rw[<- Z.length];exact z
  have hl:(putK U k v).length<=sizeLine:=by have:=Vd U k v;exact a_ this l
  refine wpAny_setItem_pairs (hsz:=hz) (Zg ry) dd λh' G hs=>h _ ?_
  have he:∃q,h'.get? a=some q:=let ⟨q,_,_,R,_⟩:=G;⟨q,R⟩;exact ai8 I (by rw[e];exact True.intro) hs he (a2y hl hd (Z.put k rv) G)
 .subst ey eH
  cases(show u=Value.ref b from ry);obtain⟨z,hd,xs,Z,dd⟩:=apt I.Av e;have hz:xs.length<=sizeLine:=by rw[<- Paired.length Z];exact z
  have hl:(putK U k v).length<=sizeLine:=by have:=Vd U k v;exact a_ this l
  refine wpAny_setItem_heap (hsz:=hz) (xj hu) (O4 I.Av eb) dd λh' G hs=>h _ ?_
  obtain⟨q,es,ep,R,h2,h3,h4,_,h5⟩:=G;refine ai8 I (by rw[e];exact True.intro) hs ⟨q,R⟩ ⟨hl,hd,_,(Z.put k eb rv).keeps λc ys ec=>?_,q,es,ep,R,h2,h3,h4,h5⟩;rw[m5 (ao1 ec e (λz=>nomatch z))];exact ec
def adx(I:Inv X pins σ H s)(g:Q5 H a y o):s.TypeIs (.ref a) "dict" := by
 rcases g with⟨G,k,e,_,_⟩|⟨G,k,b,e,_,_,_⟩
 .obtain⟨_,_,U,_,Z⟩:=Zi I.Av e
  exact Z.typeIs
 .obtain⟨_,_,R,_,Z⟩:=Zj I.Av e
  exact Z.typeIs
def apu(h:Heap)(Z:sysModules<h.objs.size):Ba P w H (h.push { cls:=.type "dict",data:=.dict #[] }) h.objs.size (.dK []) :=
 ⟨iz _,v7.mpr (j0 (gh Z)),[],.nil,Heap.DictOf.new h⟩
def apv(h:Heap)(Z:sysModules<h.objs.size):Ba P w H (h.push { cls:=.type "dict",data:=.dict #[] }) h.objs.size (.dT []) :=
 ⟨iz _,v7.mpr (j0 (gh Z)),[],.nil,_,#[],0,bu _ rfl,⟨rfl,rfl,rfl⟩,rfl,rfl,Ao⟩
def a2z:TE:=λ_ H Q=>∀p,H p=none->Q (.ref p) (upd H p (.dK []))
def a3a:TE:=λ_ H Q=>∀p,H p=none->Q (.ref p) (upd H p (.dT []))
def apw:PE X (.Dict [] [] pos) a2z:=λZ s G H Q I h =>
 wpAny_Dict_empty ⟨.ref s.heap.objs.size,_,I.laid (a:=s.heap.objs.size) (o:=.dK []) (t':=s.toks) (λ_ _ q=>au _ q) (bw _) (apu s.heap I.big),rfl,h _ (I.Av.fresh (bw _))⟩
def apx:PE X (.Dict [] [] pos) a3a:=λZ s G H Q I h =>
 wpAny_Dict_empty ⟨.ref s.heap.objs.size,_,I.laid (a:=s.heap.objs.size) (o:=.dT []) (t':=s.toks) (λ_ _ q=>au _ q) (bw _) (apv s.heap I.big),rfl,h _ (I.Av.fresh (bw _))⟩
def a3b(hu:A.units+1<cLine)(I:Inv X pins σ H s)(g:Q5 H a y o)(ry:RelV y u)(rd:RelV d r)(h:∀w' s',Inv X pins σ H s'->RelV (o.getD d) w'->Q w' s') :
 wpAny (model X.prog X.w) A (call (.builtin "dict.get") [.ref a,u,r]) Q E s:=by
 rcases g with⟨ik,k,e,U,l⟩|⟨ik,k,b,e,U,eb,l⟩
 .subst U
  obtain⟨z,R,vs,Z,G⟩:=Zi I.Av e;refine call_meetsIn PySem.F.slot_dict_get G.typeIs PySem.F.entry_dict_get (PySem.F.args_dict_get_3 _ _ _) (meets_dict_get_default (mz X.prog X.w) a (Zg ry) R r) ⟨_,G.mapOf,h _ _ (I.tok _) ?_⟩;rw[l];exact(Z.val k).getD rd
 .subst U
  cases(show u=Value.ref b from ry);obtain⟨z,R,xs,Z,G⟩:=Zj I.Av e;refine call_meetsIn PySem.F.slot_dict_get G.typeIs PySem.F.entry_dict_get (PySem.F.args_dict_get_3 _ _ _) (meetsH_dict_get_default (tupleKind (mz X.prog X.w)) a b R r) ⟨xj hu,k,xs,O4 I.Av eb,G,h _ _ (I.tok _) ?_⟩;rw[l];exact(Z.val k).getD rd
end L2
namespace HT
open PySem PyProof.Rows
noncomputable def sIx(n d:Nat):Option Int->Nat
 |none=>d|some v=>if v<0 then(v+(n:Int)).toNat else min v.toNat n
end HT
namespace L2
open PySem PySem.Spec PyProof.Rows
abbrev TO:=St->Hp->(Option Int->Hp->Prop)->Prop
def PO(X:Cx)(e:Option Expr)(t:TO):Prop :=
 ∀(Z:Zp)(s:Shared)(G:St)(H:Hp)(Q:Option Int->Hp->Prop),Inv X Z G H s->t G H Q ->
  wpAny (model X.prog X.w) X.A (evalPart e X.env) (λu R=>∃o U,Inv X Z G U R/\IsPart u o/\Q o U) X.xe s
def av3:TO:=λ_ H Q=>Q none H
def a9q(t:TE):TO:=λG H Q=>t G H λx Z=>∃i,x=.int i/\Q (some i) Z
def av4:PO X none av3:=by intro Z s G H Q I h;rw[evalPart_none];exact aj ⟨none,H,I,.none,h⟩
def av5(h:PE X e U):PO X (some e) (a9q U):=by
 intro Z s G H Q I hw;rw[evalPart_some];refine Bu (h Z s G H _ I hw) λu s1 z_=>?_
 obtain⟨x,H1,I1,R,q1⟩:=z_;obtain⟨i,rfl,q⟩:=q1;obtain⟨t,rfl⟩:=R;exact⟨some i,H1,I1,.int i t,q⟩
def SlR(X:Cx)(r:V->Option Int->Option Int->Hp->VK->Prop):Prop :=
 ∀(Z:Zp)(s:Shared)(G:St)(H:Hp)(x:V)(v vl vu:Value)(U hi:Option Int)(R:Addr)(Q:VK),Inv X Z G H s->RelV x v->s.heap.IsSliceOf R vl vu .none->IsPart vl U->IsPart vu hi->r x U hi H Q ->
  ∃T id,typeLookup (.type T) "__getitem__" = pure (some (.builtin id))/\s.TypeIs v T/\wpAny (model X.prog X.w) X.A (getItem v (.ref R)) (EP X Z G Q) X.xe s
def tSl(r:V->Option Int->Option Int->Hp->VK->Prop)(R:TE)(U G:TO):TE:=λZ H Q=>R Z H λx H1=>U Z H1 λl H2=>G Z H2 λu H3=>r x l u H3 Q
def apy{lo:Option Expr}(hr:SlR X r)(he:PE X e te)(hl:PO X lo tl)(hu:PO X hi th):PE X (.Subscript e (.Slice lo hi none p2) pos) (tSl r te tl th):=by
 intro Z s U H Q I h;refine Subscript_ (Bu (he Z s U H _ I h) λv s1 z_=>?_);obtain⟨x,H1,I1,r1,q1⟩:=z_;refine wpAny_Slice (Bu (hl Z s1 U H1 _ I1 q1) λvl s2 ⟨l,H2,I2,pl,q2⟩=>Bu (hu Z s2 U H2 _ I2 q2) λR G z_=>?_);obtain⟨u,H3,I3,pu,q3⟩:=z_;rw[evalPart_none];refine aj ?_;have I4:Inv X Z U H3 { G with heap:=G.heap.push { cls:=.type "slice",data:=.fields #[vl,R,.none] } }:=I3.kept (t':=G.toks) λb ob q=>au _ q
 obtain⟨T,id,hT,ht,hg⟩:=hr Z { G with heap:=G.heap.push { cls:=.type "slice",data:=.fields #[vl,R,.none] } } U H3 x v vl R l u G.heap.objs.size Q I4 r1 (Heap.IsSliceOf.new ..) pl pu q3;show wpAny (model X.prog X.w) X.A (subscriptTail e (.Slice lo hi none p2) v (.ref G.heap.objs.size)) (EP X Z U Q) X.xe { G with heap:=G.heap.push { cls:=.type "slice",data:=.fields #[vl,R,.none] } };exact tail_any (ops:=[.ref G.heap.objs.size,v]) ht hT hg (by with_unfolding_all rfl)
def alo(Z:List V)(G U:Option Int):List V:=(Z.drop (HT.sIx Z.length 0 G)).take (HT.sIx Z.length Z.length U-HT.sIx Z.length 0 G)
def ady(Z:List V)(U G:Option Int):(alo Z U G).length<=Z.length:=by
 unfold alo;rw[Ax,List.length_drop]
 lia
end L2
namespace L2
open PySem PySem.Spec PyProof.Rows
noncomputable def ixN(n:Nat)(i:Int):Option Nat:=if 0<=i then(if i<n then some i.toNat else none) else if -(n:Int)<=i then some (i+n).toNat else none
def atI{α:Type}(Z:List α)(i:Int):Option α:=(ixN Z.length i).bind λj=>Z[j]?
def ai9(h:ixN n i=some j):seqIndex? i n=some j/\j<n/\-(n:Int)<=i/\i<n:=by
 unfold ixN at h
 by_cases G:0<=i
 .rw[dg G] at h
  by_cases Z:i<n
  .rw[dg Z] at h
   have e:i.toNat=j:=jy h;exact⟨by rw[seqIndex_of G Z,e],by lia,by lia,Z⟩
  .rw[bx Z] at h;cases h
 .rw[bx G] at h
  by_cases Z:-(n:Int)<=i
  .rw[dg Z] at h
   have e:(i+n).toNat=j:=jy h;exact⟨by rw[seqIndex_neg (by lia) Z,e],by lia,Z,by lia⟩
  .rw[bx Z] at h;cases h
def aja(h:atI Z i=some v):∃j,seqIndex? i Z.length=some j/\Z[j]?=some v/\j<Z.length/\-(Z.length:Int)<=i/\i<Z.length:=by
 unfold atI at h;cases e:ixN Z.length i with
 |none=>rw[e] at h;cases h
 |some j =>
  rw[e] at h;obtain⟨R,G,U,h4⟩:=ai9 e;exact⟨j,R,h,G,U,h4⟩
def aba(b:Expr):Prop:=∀o i,subscripted b false o i=operate [o,i] (getItem o i)
def IxR(X:Cx)(r:R2):Prop :=
 ∀(U Z:Expr)(G:Zp)(s:Shared)(R:St)(H:Hp)(x y:V)(v u:Value)(Q:VK),Inv X G R H s->RelV x v->RelV y u->r x y H Q ->
  subscripted Z false v u=operate [v,u] (getItem v u)->wpAny (model X.prog X.w) X.A (subscriptTail U Z v u) (EP X G R Q) X.xe s
def MtR(X:Cx)(id:String)(r:V->List V->Hp->VK->Prop):Prop :=
 ∀(Z:Zp)(s:Shared)(G:St)(H:Hp)(x:V)(U:List V)(v:Value)(R:Zl)(Q:VK),Inv X Z G H s->RelV x v->Vals U R->r x U H Q ->
  wpAny (model X.prog X.w) X.A (call (.builtin id) (v::R)) (EP X Z G Q) X.xe s
def a9s(hr:IxR X r)(ha:PE X a ta)(hb:PE X b tb)(R:aba b):PE X (.Subscript a b pos) (tOp r ta tb):=by intro Z s σ H Q I h;exact Subscript_ (a2j ha hb I h λv u s2 x y H2 U G ry q=>hr a b Z s2 σ H2 x y v u Q U G ry q (R _ _))
def bgg(K:Fg):R2:=λx y H Q=>∃p Z i v,x=.ref p/\y=.int i/\Gw K H p Z/\atI Z i=some v/\Q v H
def bgh(K:Fg):R2:=λx y H Q=>∃p Z i v,x=.ref p/\y=.int i/\Mw K H p Z/\atI Z i=some v/\Q v H
def Dc:IxR X (bgg X.K):=by
 intro qk U Z s σ H x y v u Q I rx ry h hs;obtain⟨p,xs,i,z,rfl,rfl,hq,he,q⟩:=h;cases rx;obtain⟨t,rfl⟩:=ry;obtain⟨xf,r,R,hz⟩:=I.list hq;obtain⟨j,G,h2,h3,h4,h5⟩:=aja he;obtain⟨w,ew,qq⟩:=r.get h2;have hl:=r.length;have hn:=W6;have fin:EP X Z σ Q w s:=⟨z,H,I,qq,q⟩
 by_cases h0:0<=i
 .have hj:i.toNat=j:=by
   rw[seqIndex_of h0 h5] at G;exact jy G
  exact item_listR R.isList h0 (by lia) (by rw[hj];simpa using ew) fin hs
 .have hj:(i+(xf.toArray.size:Int)).toNat=j:=by
   rw[seqIndex_neg (by lia) h4] at G;rw[gf,<- hl];exact jy G
  exact subscriptTail_builtinR (x:=w) R.isList.typeIs slot_list_getitem.lookup
   (wpAny_getItem_list_neg (Q:=λr s'=>r=w/\EP X Z σ Q r s') R.isList (by lia) (by rw[gf]<;>lia) (by lia) (by rw[hj];simpa using ew) ⟨rfl,fin⟩) hs
def J6:IxR X (bgh X.K):=by
 intro R G Z s σ H x y v u Q I rx ry h hs;obtain⟨p,xs,i,z,rfl,rfl,hq,he,q⟩:=h;cases rx;obtain⟨t,rfl⟩:=ry;obtain⟨xf,r,pl,hz⟩:=I.tuple hq;obtain⟨j,h1,h2,h3,h4,h5⟩:=aja he;obtain⟨w,ew,U⟩:=r.get h2;have hl:=r.length;have hn:=W6;have fin:EP X Z σ Q w s:=⟨z,H,I,U,q⟩;exact subscriptTail_builtinR (x:=w) pl.typeIs slot_tuple_getitem.lookup
  (getItem_tuple (j:=j) (Q:=λr s'=>r=w/\EP X Z σ Q r s') pl (by lia) (by lia) (by rw[gf,<- hl];exact h1) (by simpa using ew) ⟨rfl,fin⟩) hs
def ag4(Z:Zl)(n j:Nat)(u:Value):Obj.mapSeq (·.setIfInBounds j u) { cls:=.type "list",data:=.seq Z.toArray n }={ cls:=.type "list",data:=.seq (Z.set j u).toArray n }:=by simp[Obj.mapSeq]
theorem Inv.lst{X:Cx}{Z:Zp}{R:St}{H:Hp}{s:Shared}{p:Addr}{U:List V}(I:Inv X Z R H s)(h:H p=some (.lst U)) :
 ∃(G:Zl)(n:Nat),Vals U G/\s.heap.get? p=some { cls:=.type "list",data:=.seq G.toArray n }/\U.length<=sizeLine:=by
 obtain⟨z,G,n,r,e⟩:=I.Av p _ h;exact⟨G,n,r,e,z⟩
def Inv.a3c{Z:Zl}(I:Inv X pins σ H s)(h:H p=some (.lst xs))(ho:s.heap.get? p=some { cls:=.type "list",data:=.seq Z.toArray n })(G:f { cls:=.type "list",data:=.seq Z.toArray n }={ cls:=.type "list",data:=.seq its'.toArray R })(r:Vals U its')(hz:U.length<=sizeLine)(t:Nat) :
 Inv X pins σ (upd H p (.lst U)) { s with heap:=s.heap.update p f,toks:=t }:=by
 have e:(s.heap.update p f).get? p=some { cls:=.type "list",data:=.seq its'.toArray R }:=by rw[mq f ho (by rw[G]<;>rfl),G]
 refine I.write (x:=p) (e:=p) (by rw[h];trivial) (.inl rfl) (λb u hb q=>(ux _ _ (j0 hb)).trans q) ⟨_,e⟩ ?_;exact⟨hz,its',R,r,e⟩
def a9t:V->V->V->Hp->(Hp->Prop)->Prop:=λo i v H Q=>∃p Z k j,o=.ref p/\i=.int k/\H p=some (.lst Z)/\ixN Z.length k=some j/\Q (upd H p (.lst (Z.set j v)))
def set_list:a2c X a9t:=by
 intro Z s σ H o i v ov iv u Q I ro ri rv h;obtain⟨p,xs,k,j,rfl,rfl,hp,hj,q⟩:=h;cases ro;obtain⟨t,rfl⟩:=ri;obtain⟨xf,n,r,U,hz⟩:=I.lst hp;obtain⟨G,h2,h3,h4⟩:=ai9 hj;have R:=r.length;have hn:=W6;have I':Inv X Z σ (upd H p (.lst (xs.set j v))) { s with heap:=s.heap.update p (Obj.mapSeq (·.setIfInBounds j u)) } :=
  I.a3c hp U (ag4 xf n j u) (r.set rv j) (by rw[List.length_set];exact hz) s.toks
 by_cases h0:0<=k
 .have hk:k.toNat=j:=by
   rw[seqIndex_of h0 h4] at G;exact jy G
  exact PySem.W.ki_setAt U h0 (by lia) (by rw[gf,<- R];exact h4) (by rw[hk];exact⟨_,I',q⟩)
 .have hk:(k+(xf.toArray.size:Int)).toNat=j:=by
   rw[seqIndex_neg (by lia) h3] at G;rw[gf,<- R];exact jy G
  exact PySem.W.ki_setBack U (by lia) (by rw[gf,<- R];exact h3) (by lia) (by rw[hk];exact⟨_,I',q⟩)
def abb(G Z:Option Int)(n:Nat):(sliceBounds G Z none n).1=((HT.sIx n 0 G:Nat):Int)/\(sliceBounds G Z none n).2.1=((HT.sIx n n Z:Nat):Int)/\(sliceBounds G Z none n).2.2=1:=by
 refine⟨?_,?_,rfl⟩
 .cases G with
  |none=>simp[sliceBounds,HT.sIx]
  |some i =>
   simp only[sliceBounds,HT.sIx,Option.getD_none,show(1:Int) > 0 by decide,ji]
   by_cases h:i<0
   .simp only[h,ji]<;>lia
   .simp only[h,jk]<;>lia
 .cases Z with
  |none=>simp[sliceBounds,HT.sIx]
  |some i =>
   simp only[sliceBounds,HT.sIx,Option.getD_none,show(1:Int) > 0 by decide,ji]
   by_cases h:i<0
   .simp only[h,ji]<;>lia
   .simp only[h,jk]<;>lia
def Yk(Z:Zl)(G U:Option Int):slicePick Z.toArray G U none=((Z.drop (HT.sIx Z.length 0 G)).take (HT.sIx Z.length Z.length U-HT.sIx Z.length 0 G)).toArray:=by obtain⟨h1,R,h3⟩:=abb G U Z.toArray.size;unfold slicePick;rw[h1,R,h3];simp only[sliceRange_one,pick_run,gf]<;>rfl
def a9u(K:Fg):V->Option Int->Option Int->Hp->VK->Prop:=λx U G H Q=>∃a Z,x=.ref a/\Gw K H a Z/\∀p,H p=none->Q (.ref p) (upd H p (.lst (alo Z U G)))
def av6:SlR X (a9u X.K):=by intro qq s σ H x v vl vu U R sl Q I rx hs pl pu h;obtain⟨a,G,rfl,hx,q⟩:=h;cases rx;obtain⟨xf,r,ht,hz⟩:=I.list hx;have Z:=r.length;refine⟨"list",_,slot_list_getitem.lookup,ht.isList.typeIs,?_⟩;refine wpAny_getItem_list_slice ht.isList hs pl pu .none (by simp) ?_ (by rw[gf]<;>exact a_ (g_ Z) hz);rw[Yk,<- Z];refine⟨.ref s.heap.objs.size,_,I.laid (t':=s.toks) (o:=.lst (alo G U R)) (λb ob q=>au _ q) (bw _) ?_,rfl,q _ (I.Av.fresh (bw _))⟩;exact⟨iu (ady G U R) hz,_,0,(r.drop (HT.sIx G.length 0 U)).take (HT.sIx G.length G.length R-HT.sIx G.length 0 U),bu _ rfl⟩
def abd:Ci X (.builtin "len") (λxs H Q=>∃p G,xs=[.ref p]/\(Gw X.K H p G\/Mw X.K H p G)/\Q (.int G.length) H):=by
 intro qq s σ H xs us Q I r h;obtain⟨p,G,rfl,U,q⟩:=h;obtain⟨u,rfl,rx⟩:=vals1 r;cases rx;have hn:=W6;rcases U with U|U
 .obtain⟨xf,R,pl,hz⟩:=I.list U
  have Z:=R.length;exact Calls.call_len_list pl.isList (by simp only[gf]<;>lia) ⟨.int G.length,H,I.tok _,⟨s.toks+1,by rw[gf,Z]⟩,q⟩
 .obtain⟨xf,R,pl,hz⟩:=I.tuple U
  have Z:=R.length;exact len_tuple pl (by simp only[gf]<;>lia) ⟨.int G.length,H,I.tok _,⟨s.toks+1,by rw[gf,Z]⟩,q⟩
def abe:Ci X (.type "list") (λxs H Q=>∃p ys,xs=[.ref p]/\(Gw X.K H p ys\/Mw X.K H p ys)/\∀l,H l=none->Q (.ref l) (upd H l (.lst ys))):=by
 intro qq s σ H xs us Q I r h;obtain⟨p,ys,rfl,hq,q⟩:=h;obtain⟨u,rfl,rx⟩:=vals1 r;cases rx;have fin:∀(U:Zl),Vals ys U->ys.length<=sizeLine->∀(G:Heap)(c':Nat),(∀b o',s.heap.get? b=some o'->G.get? b=some o') ->
  G.get? s.heap.objs.size=some { cls:=.type "list",dict:=none,data:=.seq U.toArray c',slots:=#[] }->EP X qq σ Q (.ref s.heap.objs.size) { s with heap:=G }:=λU r' R G c' kp e =>
  ⟨.ref s.heap.objs.size,_,I.laid (t':=s.toks) kp (bw _) (show Ba X.prog X.w _ G _ (.lst ys) from⟨R,U,c',r',e⟩),rfl,q _ (I.Av.fresh (bw _))⟩
 rcases hq with hq|hq
 .obtain⟨U,r',pl,R⟩:=I.list hq
  have Z:=r'.length;obtain⟨o,ho,hc,n,hd⟩:=pl.isList;exact call_list_seq p (.inl rfl) ho hc hd (λG c' kp e=>fin U r' R G c' kp e) (by simp only[gf]<;>exact a_ (g_ Z) R)
 .obtain⟨U,r',pl,R⟩:=I.tuple hq
  have Z:=r'.length;obtain⟨o,ho,hc,n,hd⟩:=pl;exact call_list_seq p (.inr rfl) ho hc hd (λG c' kp e=>fin U r' R G c' kp e) (by simp only[gf]<;>exact a_ (g_ Z) R)
def Yl:Ci X (.type "tuple") (λxs H Q=>∃p G,xs=[.ref p]/\((Gw X.K H p G/\∀l,H l=none->Q (.ref l) (upd H l (.tup G)))\/(Mw X.K H p G/\Q (.ref p) H))):=by
 intro Z s σ H xs us Q I r h;obtain⟨p,G,rfl,h⟩:=h;obtain⟨u,rfl,rx⟩:=vals1 r;cases rx;rcases h with⟨hq,q⟩|⟨hq,q⟩
 .obtain⟨xf,r',pl,hz⟩:=I.list hq
  have U:=r'.length;refine call_tuple_list pl.isList (λR kp=>?_) (by simp only[gf]<;>exact a_ (g_ U) hz);have I1:Inv X Z σ H { s with heap:=R }:=I.kept (t':=s.toks) kp;have I2:Inv X Z σ (upd H R.objs.size (.tup G)) { s with heap:=R.push { cls:=.type "tuple",data:=.seq xf.toArray } } :=
   I1.laid (t':=s.toks) (λb o e=>au _ e) (bw _) (show Ba X.prog X.w _ _ _ (.tup G) from⟨hz,xf,r',aa3.new _ _⟩)
  exact⟨.ref R.objs.size,_,I2,rfl,q _ (I1.Av.fresh (bw _))⟩
 .obtain⟨xf,r',pl,hz⟩:=I.tuple hq
  exact call_tuple_same pl ⟨.ref p,H,I,rfl,q⟩
def tyV(K:Fg)(T:String)(x:V)(H:Hp):Prop:=match x with
 |.str _=>T = "str"|.int _=>T = "int"
 |.ref p=>(T = "list"/\∃G,Gw K H p G)\/(T = "tuple"/\∃o,K.lookup p=some o/\o.cls=.type "tuple"/\o.dict=none) \/
  (T = "dict"/\((∃Z,H p=some (.dK Z))\/∃Z,H p=some (.dT Z)))\/(T = "set"/\∃S n,H p=some (.set S n))
 |_=>False
def apz(I:Inv X pins σ H s)(r:RelV x v)(U:tyV X.K T x H) :
 s.TypeIs v T/\∀a,v=.ref a->∃ob,s.heap.get? a=some ob/\ob.dict=none:=by
 cases x with
 |str z =>
  obtain⟨t,rfl⟩:=r;cases(show T = "str" from U);exact⟨typeIs_str s z t,λ_ e=>nomatch e⟩
 |int i =>
  obtain⟨t,rfl⟩:=r;cases(show T = "int" from U);exact⟨typeIs_int s i t,λ_ e=>nomatch e⟩
 |ref p =>
  cases r;rcases U with⟨rfl,xs,hq⟩|⟨rfl,o,Z,hc,hd⟩|⟨rfl,Z⟩|⟨rfl,S,n,Z⟩
  .obtain⟨xf,_,pl,_⟩:=I.list hq
   refine⟨pl.isList.typeIs,λa e=>?_⟩;cases e;obtain⟨o,n,e,c,hd,_⟩:=pl;exact⟨o,e,hd⟩
  .refine⟨⟨o,I.U9 p o Z,hc⟩,λa e=>?_⟩
   cases e;exact⟨o,I.U9 _ o Z,hd⟩
  .have z:∃o,s.heap.get? p=some o/\o.ExactDict:=by
    rcases Z with⟨ik,Z⟩|⟨ik,Z⟩
    .obtain⟨_,_,_,_,o,_,_,e,G,_⟩:=I.Av p _ Z
     exact⟨o,e,G⟩
    .obtain⟨_,_,_,_,o,_,_,e,G,_⟩:=I.Av p _ Z
     exact⟨o,e,G⟩
   obtain⟨o,e,G⟩:=z;refine⟨⟨o,e,G.1⟩,λa R=>?_⟩;cases R;exact⟨o,e,G.2.1⟩
  .obtain⟨o,_,_,_,e,G,_⟩:=I.Av p _ Z
   refine⟨⟨o,e,G.1⟩,λa R=>?_⟩;cases R;exact⟨o,e,G.2.1⟩
 |_=>exact False.elim U
def bgi(K:Fg)(T:String)(r:V->List V->Hp->VK->Prop)(U:TE):TE:=λG H Q=>U G H λx Z=>tyV K T x Z/\r x [] Z Q
def tBM(K:Fg)(T:String)(r:V->List V->Hp->VK->Prop)(to:TE)(t:TA):TE:=λZ H Q=>to Z H λx G=>tyV K T x G/\t Z G λU R=>r x U R Q
def a3d{id:String}(pa:PlainAttrs T)(G:Slot T name id)(U:typeOf (.builtin id)=pure (.type "method_descriptor"))(hm:MtR X id r)(ho:PE X o to)(W9:attributeBase o name X.env (eval o X.env)=eval o X.env:=by rfl)(Xa:(apos.endLine==Q6.line)=true:=by rfl):PE X (.Call (.Attribute o name apos) [] [] Q6) (bgi X.K T r to):=by intro Z s R H Q I h;refine wpAny_Call_method0_late W9 Xa (Bu (ho Z s R H _ I h) λv s1 z_=>?_);obtain⟨x,H1,I1,r1,ty,q1⟩:=z_;obtain⟨h1,h2⟩:=apz I1 r1 ty;exact⟨T,id,pa,G,U,h1,h2,Calls.callWith_builtin rfl (PySem.evalArgs_none (hm Z s1 R H1 x [] v [] Q I1 r1 .nil q1))⟩
theorem a9v{id:String}(pa:PlainAttrs T)(R:Slot T name id)(qv:typeOf (.builtin id)=pure (.type "method_descriptor"))(hm:MtR X id r)(ho:PE X o to)(ha:PA X (e::G) t)(W9:attributeBase o name X.env (eval o X.env)=eval o X.env:=by rfl)(qk:((backTo U (starEach (e::G) X.env)).all (λx=>!x.1)&&(backToKw U (keywordEach [] X.env)).all (λx=>x.1.isSome)
&&decide ((e::G).length+([]:List Keyword).length+(if([]:List Keyword).isEmpty then 0 else 1)<30))=true:=by rfl)(Xa:(apos.endLine==U.line)=true:=by rfl)(hs:starEach (e::G) X.env=(false,eval e X.env)::starEach G X.env:=by rfl)(qq:(backTo U (starEach G X.env)).any (·.1)=false:=by rfl) :
 PE X (.Call (.Attribute o name apos) (e::G) [] U) (tBM X.K T r to t):=by
 intro Z s σ H Q I h;refine wpAny_Call_method_late W9 qk Xa rfl (Bu (ho Z s σ H _ I h) λv s1 z_=>?_);obtain⟨x,H1,I1,r1,ty,q1⟩:=z_;obtain⟨h1,h2⟩:=apz I1 r1 ty;refine⟨T,id,pa,R,qv,h1,h2,?_⟩;have hA:=ha U Z s1 σ H1 _ I1 q1;rw[hs] at hA ⊢;refine Calls.callWith_builtin (by show(false||(backTo U (starEach G X.env)).any (·.1))=false;rw[qq]<;>rfl) (Calls.evalArgs_plain ?_);exact Bu hA λus s2 ⟨vs,H2,I2,r2,q2⟩=>hm Z s2 σ H2 x vs v us Q I2 r1 r2 q2
end L2
namespace L2
open PySem PySem.Spec PyProof.Rows
def MtM(X:Cx)(id:String)(r:V->List V->Hp->VK->Prop):Prop :=
 ∀(Z:Zp)(s:Shared)(G:St)(H:Hp)(x:V)(U:List V)(v:Value)(R:Zl)(Q:VK),Inv X Z G H s->RelV x v->Vals U R->r x U H Q ->
  wpAny (model X.prog X.w) X.A (call (.builtin id) (v::R)) (EP X Z G Q) X.xe s
theorem Vals.one:∀{x:V}{Z:Zl},Vals [x] Z->∃u,Z=[u]/\RelV x u
 |_,_,.cons r .nil=>⟨_,rfl,r⟩
theorem Vals.zero:∀{Z:Zl},Vals [] Z->Z=[]
 |_,.nil=>rfl
theorem Vals.dropLast(h:Vals Z U):Vals Z.dropLast U.dropLast:=by
 induction h with
 |nil=>exact .nil
 |cons r t G =>
  cases t with
  |nil=>exact .nil|cons q R=>exact .cons r G
def ag6{Z:Type}(l:List Z):l.eraseIdx (l.length-1)=l.dropLast:=by
 induction l with
 |nil=>rfl
 |cons a r G =>
  cases r with
  |nil=>rfl
  |cons b r =>
   have e:(a::b::r).length-1=((b::r).length-1)+1:=by
    have R:(a::b::r).length=r.length+2:=rfl;have U:(b::r).length=r.length+1:=rfl
    lia
   rw[e,List.eraseIdx_cons_succ,G]
   all_goals rfl
def Inv.a3f{Z:Zl}(I:Inv X pins σ H s)(hH:H l=some (.lst xs))(e:s.heap.get? l=some { cls:=.type "list",data:=.seq Z.toArray n })(hf:f Z.toArray=its'.toArray)(hv:Vals G its')(hz:G.length<=sizeLine) :
 Inv X pins σ (upd H l (.lst G)) { s with heap:=s.heap.update l (Obj.mapSeq f),toks:=t' }:=by
 have q:=PySem.IsL.update e f;rw[hf] at q;refine I.write (x:=l) (e:=l) (by rw[hH];exact trivial) (.inl rfl) (λb' u U R=>(ux s.heap (Obj.mapSeq f) (j0 U)).trans R) ⟨_,q⟩ ?_;exact⟨hz,its',_,hv,q⟩
def Inv.bgk(I:Inv X pins σ H s)(R:Vals G Z)(U:G.length<=sizeLine) :
 Inv X pins σ (upd H s.heap.objs.size (.lst G)) { s with heap:=s.heap.push { cls:=.type "list",data:=.seq Z.toArray },toks:=t' } :=
 I.laid (λ_ _ q=>au _ q) (bw _) ⟨U,Z,0,R,bu _ rfl⟩
theorem Inv.fresh(I:Inv X pins σ H s):H s.heap.objs.size=none:=I.Av.fresh (bw _)
def Inv.ag7(I:Inv X pins σ H s)(U:H l=some (.lst G)):G.length<=sizeLine/\∃(Z:Zl)(n:Nat),Vals G Z/\G.length=Z.length/\s.heap.get? l=some { cls:=.type "list",data:=.seq Z.toArray n }:=by obtain⟨z,Z,n,r,e⟩:=I.Av l _ U;exact⟨z,Z,n,r,r.length,e⟩
def ap0(h:n<=sizeLine):Builtin.List.listTooLong n=false:=by unfold Builtin.List.listTooLong;exact v8 (j_ h)
def av7:V->List V->Hp->VK->Prop:=λx G H Q=>∃l Z y,x=.ref l/\G=[y]/\H l=some (.lst Z)/\Z.length<sizeLine/\Q .non (upd H l (.lst (Z++[y])))
def Zm:MtM X "list.append" av7:=by intro Z s σ H x vs v us Q I rx rv h;obtain⟨l,xs,y,rfl,rfl,U,R,q⟩:=h;cases rx;obtain⟨u,rfl,ru⟩:=rv.one;obtain⟨z,G,n,r,hl,e⟩:=I.ag7 U;refine call_meets F.slot_list_append ⟨_,e,rfl⟩ F.entry_list_append (F.args_list_append_2 _ _) (PySem.list_append l G.toArray n u (by rw[gf];exact e_ (c_ (g_ hl) R))) ⟨e,?_⟩;refine⟨.non,_,I.a3f (its':=G++[u]) U e (by simp) (r.append (.cons ru .nil)) ?_,rfl,q⟩;rw[uy,List.length_singleton];exact R
def av8:V->List V->Hp->VK->Prop:=λx U H Q=>∃l b Z G,x=.ref l/\U=[.ref b]/\H l=some (.lst Z)/\H b=some (.lst G)/\Z.length+G.length<=sizeLine/\Q .non (upd H l (.lst (Z++G)))
def alp:MtM X "list.extend" av8:=by
 intro qq s σ H x vs v us Q I rx rv h;obtain⟨l,b,xs,zs,rfl,rfl,hH,hB,hz,q⟩:=h;cases rx;obtain⟨u,rfl,ru⟩:=rv.one;cases ru;obtain⟨z,G,n,r,hl,e⟩:=I.ag7 hH;obtain⟨z2,Z,n2,r2,qk,e2⟩:=I.ag7 hB;have U:G.toArray.size+Z.toArray.size<=sizeLine:=by rw[gf,gf];lia
 have R:¬(!G.toArray.isEmpty&&Builtin.List.listTooLong (G.toArray.size+Z.toArray.size))=true:=by rw[ap0 U,Bool.and_false];exact jb
 refine call_meets F.slot_list_extend ⟨_,e,rfl⟩ F.entry_list_extend (F.args_list_extend_2 _ _)
  (AutoSeq1.list_extend_list_list_0 l G.toArray n b Z.toArray n2 R (by rw[gf];exact a_ (g_ hl) z) (a_ U x_)) ⟨e,e2,?_⟩
 refine⟨.non,_,I.a3f (its':=G++Z) hH e (by simp) (r.append r2) ?_,rfl,q⟩;rw[uy];exact hz
def bgm:V->List V->Hp->VK->Prop:=λx G H Q=>∃l Z y,x=.ref l/\G=[]/\H l=some (.lst Z)/\Z[Z.length-1]?=some y/\Q y (upd H l (.lst Z.dropLast))
def a3g:MtM X "list.pop" bgm:=by
 intro R s σ H x vs v us Q I rx rv h;obtain⟨l,xs,y,rfl,rfl,hH,hy,q⟩:=h;cases rx;have U:=rv.zero;subst U;obtain⟨z,Z,n,r,hl,e⟩:=I.ag7 hH;obtain⟨u,hu,ru⟩:=r.get hy;have G:Z.toArray[Z.toArray.size-1]?=some u:=by show Z.toArray[Z.length-1]?=some u;rw[<- m6,<- hl];exact hu
 refine call_meets F.slot_list_pop ⟨_,e,rfl⟩ F.entry_list_pop (F.args_list_pop_1 _) (MeetsSeq.list_pop_last l Z.toArray n u G (by rw[gf];exact a_ (g_ hl) z)) ⟨e,?_⟩;refine⟨y,_,I.a3f (its':=Z.dropLast) hH e ?_ r.dropLast ?_,ru,q⟩
 .show Z.toArray.eraseIdxIfInBounds (Z.toArray.size-1)=Z.dropLast.toArray
  rw[gf,List.eraseIdxIfInBounds_toArray,ag6]
 .rw[List.length_dropLast]
  exact a_ C_ z
def a9x:R2:=λx y H Q=>∃l b Z G,x=.ref l/\y=.ref b/\H l=some (.lst Z)/\H b=some (.lst G)/\Z.length+G.length<=sizeLine/\∀p,H p=none->Q (.ref p) (upd H p (.lst (Z++G)))
def a3h:Dy X (binaryOp .Add) a9x:=by
 intro G s σ H x y v u Q I R ry h;obtain⟨l,b,xs,zs,rfl,rfl,hH,hB,hz,q⟩:=h;cases R;cases ry;obtain⟨z,U,n,r,hl,e⟩:=I.ag7 hH;obtain⟨z2,Z,n2,r2,qq,e2⟩:=I.ag7 hB;refine PySem.P.add_list e e2 ?_ (by rw[gf,gf];lia);have ea:U.toArray++Z.toArray=(U++Z).toArray:=by simp
 rw[ea];exact⟨.ref _,_,I.bgk (t':=s.toks) (r.append r2) (by rw[uy];exact hz),rfl,q _ I.fresh⟩
end L2
namespace Att
open PySem PySem.W PySem.Calls PyProof.Rows
def Vt:∀(ns:Xs)(Z:Zl),WellAll P h Z (ns.map WData.int)->IntsAre Z ns:=by
 intro ns
 induction ns with
 |nil =>
  intro Z w;rw[List.map_nil] at w;cases w;exact .nil
 |cons n ns G =>
  intro Z w;rw[ig] at w;cases w with
  |cons a b =>
   cases a;exact .cons _ _ (G _ b)
def alq{l:OpenLaw}(hn:l.most=some n)(U:l.row.toRowW.claim.pre args=true)(qq:WellAll P h vals args) :
 ∃a vs Z,vals=[Value.ref a]/\args=[WData.list (Z.map WData.int)]/\h.get? a=some { cls:=.type "list",data:=.seq vs.toArray }/\IntsAre vs Z/\Z.length<=n:=by
 have qk:WShape.hasAll [] args [.list .int]=true:=(pre_splitW U).1;have hc:l.pre.holds [] { args:=args }=true:=(pre_splitW U).2;obtain⟨d,r,rfl,h1,h2⟩:=hasAllW_cons qk;obtain rfl:=hasAllW_nil h2;obtain⟨xs,rfl,h3⟩:=hasW_list h1;obtain⟨Z,rfl⟩:=items_int h3;have G:Z.length<=n:=by
  unfold OpenLaw.pre at hc;have R:(WTm.not (.lt (.lit (.int (n:Int))) (.len (.arg 0)))).holds [] { args:=[.list (Z.map .int)] }=true:=by have R:=(holds_andW hc).1;rw[hn] at R;exact R
  have h5:=condW_of R (w_not (w_lt w_lit (w_len_list (w_arg rfl))));rw[cz] at h5;refine Nat.le_of_not_lt λq=>?_
  have q':(n:Int)<((Z.length:Nat):Int):=m_ q
  first
   |(rw[Aq q'] at h5;exact absurd h5 (by decide))
   |(simp at h5;omega)
 cases qq with
 |cons w1 w2 =>
  cases w2;cases w1 with
  |list ho Eg=>exact⟨_,_,Z,rfl,rfl,ho,Vt Z _ Eg,G⟩
def alr(l:OpenLaw)(Z:List WData):l.row.toRowW.claim.post Z (.bool true) Z=true :=
 postW_of (r:=l.row.toRowW) (X:=(true==true))
  (show WShape.has [] (.bool true) .bool=true by first|rfl|decide|simp[WShape.has,WShape.arms,WShape.armsAll])
  (show(WTm.eq .res (.lit (.bool true))).value [] { args:=Z,res:=some (.bool true),after:=Z }=some (.bool (true==true)) from w_eq_bool (w_res rfl) w_lit) rfl
def adz{l:OpenLaw}(hn:l.most=some n)(q2:d.params.defaults=[])(call:∀(w:World) (U Z:Shared) (mg mb:Zs) (fa:Addr) (o:Obj) (pm cd R:Value) (a:Addr) (vs:Zl) (ns:Xs),
 Ground q loose [] XP w U mg mb Z.heap->YP w Z.heap ->
 Z.heap.get? fa=some o->o.data=.func (docDef d.name d.params d.body d.scope pm cd R)->Z.heap.CodeRec cd d.name->mg d.name=some (.ref fa) ->
 Z.heap.get? a=some { cls:=.type "list",data:=.seq vs.toArray }->IntsAre vs ns->ns.length<=n->Z.gens=#[] ->
 codeAny (model l.prog w) callerA (.call (.ref fa) ⟨[.ref a],[]⟩) (λr s'=>r=.ok (.ret (.bool true))/\OldK Z.heap s'.heap/\s'.os=Z.os/\AllBare s'.gens) Z) :
 WalkO q loose XP YP l.row.toRowW d [] (λf vs=>PySem.call f vs):=by
 intro w U Z mg mb G Y fa o pm cd R dV kV ho hd qv hD q4 hg q5 q6 as q1 q8 q7 q0 zq;obtain rfl:dV=.none:=Dflts.none hD q2;obtain rfl:kV=.none:=Dflts.noKw hD;obtain⟨a,vs,ns,rfl,rfl,q3,qq,qk⟩:=alq hn q1 q0;refine enter_call (w6 (call w U Z mg mb fa o pm cd R a vs ns G Y ho (fd_plain hd) qv q4 q3 qq qk hg) λr s' hq=>?_);obtain⟨rfl,h2,h3,h4⟩:=hq;exact⟨.inl ⟨.bool true,.bool true,[],rfl,λ_=>rfl,.bool true,alr l _,λ_=>⟨List.Pairwise.nil,λ_ hm=>(nomatch hm)⟩⟩,h2,h3,h4⟩
end Att
namespace L2
open PySem PySem.Spec PyProof.Rows
theorem Zn:∀{Z:Zl}{G:Xs},IntsAre Z G->Vals (G.map V.int) Z
 |_,_,.nil=>.nil|_,_,.cons n t h=>.cons ⟨t,rfl⟩ (Zn h)
def Only(H:Hp):Prop:=∀b,H b=none\/∃o Z,H b=some (.Oz o (.lst Z))
def ap1{K:Fg}(KX:K.In s₁.heap)(q1:s₁.heap.Ns mainGlobals mg)(Z:s₁.heap.Ns builtinsNs mb)(q7:∀x:Str,x≠"__name__" -> mb x=bootBuiltins x)(q3:s₁.heap.NoLimit)(hg:s₁.gens=#[])(ha:s₁.heap.get? a=some { cls:=.type "list",data:=.seq vs.toArray })(hi:IntsAre vs ns)(hl:ns.length<=sizeLine)(hr:Aj k callerA)(F:∀U:Heap,K.In U->U.Ns mainGlobals mg->Ha P w K mg U CX k fa fd [x] sp)(q4:∀(s:Shared) (u:Value),BindsTo s fd ⟨[u],[]⟩ [(x,u)])(q2:∀H:Hp,Only H->Gw K H a (ns.map V.int)->sp [.ref a] H (λv _=>v=.bl true) λ_ _ _=>False)(q8:∀H e G,CX [] H s₁ (λ_ _ _=>False) e G->False) :
 codeAny (model P w) callerA (.call (.ref fa) ⟨[.ref a],[]⟩) (λr G=>r=.ok (.ret (.bool true))/\OldK s₁.heap G.heap/\G.os=s₁.os/\AllBare G.gens) s₁:=by
 have rv:=Zn hi;have qv:=hi.length;have qq:∀H:Hp,Only H->Gw K H a (ns.map V.int)->Ql P w H s₁.heap->(∀b,H b≠none->b=a)->(H a≠none->K.lookup a=none) ->
  codeAny (model P w) callerA (.call (.ref fa) ⟨[.ref a],[]⟩) (λr G=>r=.ok (.ret (.bool true))/\OldK s₁.heap G.heap/\G.os=s₁.os/\AllBare G.gens) s₁:=by
  intro H hO hS Av hA hK;have Gp:∀{b:Addr}{o:Obj},s₁.heap.get? b=some o->H b=none->(aa5 s₁.heap H).get? b=some o:=λe n=>ao2 e n
  have q6:∀{b:Addr}{o:Obj}{es:Array DictEntry}{ep:Nat},s₁.heap.get? b=some o->o.data=.dict es ep->H b=none:=fun{b o es ep} e d=>by
   cases q:H b with
   |none=>rfl
   |some u =>
    have e':b=a:=hA b (by rw[q];simp);subst e';rw[ha] at e;cases e;have d':Data.seq vs.toArray _=Data.dict es ep:=d;cases d'
  have R:∀{b:Addr}{m:Zs},s₁.heap.Ns b m->(aa5 s₁.heap H).Ns b m:=fun{b m} ⟨o,es,ep,e,d,r⟩=>⟨o,es,ep,Gp e (q6 e d),d,r⟩
  have q0:K.In (aa5 s₁.heap H):=λb o e=>Gp (KX b o e) (by
   cases q:H b with
   |none=>rfl
   |some u =>
    have e':b=a:=hA b (by rw[q];simp);subst e';rw[hK (by rw[q];simp)] at e;cases e)
  have hM:Mod K mg (aa5 s₁.heap H):=⟨q0,R q1,⟨mb,R Z,q7⟩,let ⟨mc,h1,h2⟩:=q3;⟨mc,R h1,h2⟩⟩;have e0:ag1 P w K mg (aa5 s₁.heap H) callerA [] s₁ H:=⟨rfl,hM,λb o e=>avi e,Nat.le_of_eq (alb _ _),trivial,λb Z=>absurd (show b∈([]:X9) from Z) (by simp),Av,.of_eq hg⟩;refine w6 ((F _ q0 (R q1)).run callerA [] s₁ H ⟨[.ref a],[]⟩ [.ref a] [.ref a] _ _ hr e0 (q4 s₁ (.ref a)) (.cons rfl .nil) (q2 H hO hS)) λr G h=>?_
  cases r with
  |error e=>exact(q8 H e G h).elim
  |ok fl =>
   cases fl with
   |next=>exact False.elim h|brk=>exact False.elim h|cont=>exact False.elim h
   |ret u =>
    obtain⟨v,H',os,qk,un,q5,r',q⟩:=h;have q':v=.bl true:=q;subst q';obtain rfl:u=Value.bool true:=r';refine⟨rfl,OldK.of_keep λb o e=>?_,os,qk⟩;cases q:H b with
    |none=>exact un.keep b o e q (by intro z;exact absurd (show b∈([]:X9) from z) (by simp)) (by simp)
    |some u =>
     rcases hO b with z|⟨ob,xs,z⟩
     .rw[q] at z;cases z
     .have z2:=un.aa4 b ob _ z
      obtain⟨e1,_⟩:=Av b _ z;obtain⟨e2,_⟩:=q5 b _ z2;rw[e] at e1;cases e1;exact e2
 cases hk:K.lookup a with
 |some o =>
  have e:=KX a o hk;rw[ha] at e;cases e;refine qq (λ_=>none) (λ_=>.inl rfl) (.inr ⟨_,vs.toArray,_,hk,rfl,rfl,rfl,by rw[gf,qv];exact hl,by simpa using rv⟩) (λb u z=>by have z':(none:Option HO)=some u:=z;cases z') (λb z=>absurd rfl z) λz=>absurd rfl z
 |none =>
  refine qq (λb=>if b=a then some (.Oz { cls:=.type "list",data:=.seq vs.toArray } (.lst (ns.map V.int))) else none) (λb=>?_) (.inl (.inr ⟨{ cls:=.type "list",data:=.seq vs.toArray },dg rfl⟩)) (λb u z=>?_) (λb z=>?_) λ_=>hk
  .by_cases Z:b=a
   .exact .inr ⟨_,_,dg Z⟩
   .exact .inl (bx Z)
  .by_cases Z:b=a
   .have z':=(dg Z).symm.trans z
    cases z';subst Z;exact⟨ha,by rw[cz];exact hl,vs,_,rv,ha⟩
   .have z':=(bx Z).symm.trans z
    cases z'
  .by_cases Z:b=a
   .exact Z
   .exact absurd (bx Z) z
end L2
namespace L2
open PySem PySem.Spec PyProof.Rows
def awa{l:PySem.W.OpenLaw}{K:Params->Fg}{CX:World->CXT}{sp:World->Sp}(hn:l.most=some n)(Yu:n<=sizeLine)(qv:d.params.defaults=[])(hr:Aj k callerA)(hY:∀(w:World) (h:Heap),YP w h->(K w.params).In h)(F:∀(w:World) (mg:Zs) (fa:Addr) (h:Heap),(K w.params).In h->h.Ns mainGlobals mg->mg d.name=some (.ref fa) ->
 ∃fd:FuncData,(∀(s:Shared) (u:Value),BindsTo s fd ⟨[u],[]⟩ [(x,u)]) /\
  ∀Z:Heap,(K w.params).In Z->Z.Ns mainGlobals mg->Ha l.prog w (K w.params) mg Z (CX w) k fa fd [x] (sp w))(qk:∀(w:World) (H:Hp) (a:Addr) (ns:Xs),ns.length<=n->Only H->Gw (K w.params) H a (ns.map V.int)->sp w [.ref a] H (λv _=>v=.bl true) λ_ _ _=>False)(q2:∀(w:World) (H:Hp) (s:Shared) (e:Value) (s':Shared),CX w [] H s (λ_ _ _=>False) e s'->False) :
 PySem.W.WalkO q loose XP YP l.row.toRowW d [] (λf vs=>PySem.call f vs):=by
 refine Att.adz hn qv λw q3 qq mg mb fa o pm cd q5 a vs ns G Y ho hd q4 q1 q0 R U hg=>?_
 have KX:=hY w _ Y;obtain⟨fd,hb,hF⟩:=F w mg fa _ KX G.T.g q1;exact ap1 KX G.T.g G.T.b G.T.builtins G.T.nolimit hg q0 R (iu U Yu) hr hF hb (λH hO hS=>qk w H a ns U hO hS) λH e s'=>q2 w H qq e s'
end L2
namespace L2
open PySem PySem.Spec PyProof.Rows
noncomputable def inClass(s:Stmt)(j:Nat):Stmt:=match s with
 |.ClassDef _ _ _ body _ _ _ _ _ _ _=>body.getD j (.Pass ⟨0,0,0,0⟩)|_=>.Pass ⟨0,0,0,0⟩
noncomputable def Jz(s:Stmt):Arguments:=match s with
 |.FunctionDef _ a _ _ _ _ _ _ _ _=>a|_=>{ posonlyargs:=[],args:=[],vararg:=none,kwonlyargs:=[],kw_defaults:=[],kwarg:=none,defaults:=[] }
noncomputable def Gq(s:Stmt):List Stmt:=match s with
 |.FunctionDef _ _ b _ _ _ _ _ _ _=>b|_=>[]
noncomputable def Bq(s:Stmt):Scope:=match s with
 |.FunctionDef _ _ _ _ _ _ sc _ _ _=>sc|_=>{ kind:=.function,names:=[],isGenerator:=false,isCoroutine:=false }
abbrev CX0:CXT:=λ_ _ _ _ _ _=>False
abbrev E0:XK:=λ_ _ _=>False
def ap3:Passes CX0 X E0:=λ_ _ _ _ _ _ _ h=>h.elim
structure Fun(K:Fg)(x qual:Str)(st:Stmt)(f:Addr)(fd:FuncData):Prop where
 ex:∃(oc:Value)(od:Option Addr)(kV doc pm:Value)(an:Option Addr)(cdv ct:Value)(osl:Array (Option Value)),
  fd=PySem.W.fnOf x qual (Jz st) (Gq st) (Bq st) .none kV doc pm an cdv ct/\K.lookup f=some ⟨oc,od,.func fd,osl⟩/\PySem.W.codeIn K cdv qual=true
 kp:PySem.W.keepIn K (.ref f)=true
def Fun.ok{K:Fg}{st:Stmt}(F:Fun K x qual st f fd)(S:V5 N ps (Bq st))(len:∀U H Q E,sp U H Q E->U.length=ps.length)(qk:∀(G:Value) (A:Around) (Z:List Env) (s:Shared) (H:Hp) (U:List V) (Q:VK) (E:XK),Aj k (A.deeper (envOfC qual (Bq st) s.heap.objs.size f G))->sp U H Q E ->
 ∃t,Sg (ag2 CX0 P w K mg base N qual (Bq st) f G A Z s H E).nox (Gq st) t/\t { nx:=λ_ H'=>Q .non H',rt:=Q } (start N U) H):Ha P w K mg base CX0 (k+1) f fd ps sp:=by
 obtain⟨oc,od,kV,qv,pm,an,G,ct,q0,rfl,lk,R⟩:=F.ex;refine a9n lk R S len λA Z s H U Q E hr qq=>?_
 obtain⟨t,h,q⟩:=qk G A Z s H U Q E hr qq;exact⟨t,h.nox,q⟩
def Fun.binds{K:Fg}{st:Stmt}(F:Fun K x qual st f fd)(h:∀(kV G U:Value) (R:Option Addr) (Z ct:Value) (us:Zl),us.length=ps.length->bindArgs (PySem.W.fnOf x qual (Jz st) (Gq st) (Bq st) .none kV G U R Z ct) ⟨us,[]⟩=pure (ps.zip us)):Binds K fd ps []:=by obtain⟨oc,od,kV,G,U,R,Z,ct,qk,rfl,lk,qq⟩:=F.ex;exact .all (h kV G U R Z ct)
def ap4{K:Fg}{st:Stmt}{f:Addr}{oc:Value}{od an:Option Addr}{U:Array (Option Value)}{kV G R Z ct:Value}(l:K.lookup f=some ⟨oc,od,.func (PySem.W.fnOf x qual (Jz st) (Gq st) (Bq st) .none kV G R an Z ct),U⟩)(c:PySem.W.codeIn K Z qual=true)(k:PySem.W.keepIn K (.ref f)=true):Fun K x qual st f (PySem.W.fnOf x qual (Jz st) (Gq st) (Bq st) .none kV G R an Z ct):=⟨⟨oc,od,kV,G,R,an,Z,ct,U,rfl,l,c⟩,k⟩
def ad0{A:Around}{k:Nat}(Z:Aj k A):A.units+1<cLine:=Nat.lt_of_le_of_lt (Nat.add_le_add_left (by decide:1<=64) _) Z.units
end L2
namespace L2
open PySem PySem.Spec PyProof.Rows
noncomputable def Kw(cells:Xt):List (Str×NameKind)->List (Str×Addr)->List (Str×Addr)
 |[],cs=>cs|(n,k)::r,cs=>Kw cells r (if k==.free then(n,(cells.lookup n).getD 0)::cs else cs)
theorem Ve{G Z:Type}{f:G->Z->Sem (ForInStep Z)}{g:G->Z->Z}:∀{l:List G}(c:Z),(∀x∈l,∀c,f x c=pure (.yield (g x c)))->forIn l c f=pure (l.foldl (λc x=>g x c) c)
 |[],c,_=>rfl
 |x::l,c,h=>by
  rw[List.forIn_cons,h x cu,pure_bind];exact Ve (g x c) λy U=>h y (bh _ U)
theorem Vf(cells:Xt):∀(l:X0)(Z:Xt),Kw cells l Z=l.foldl (λc x=>if x.2==.free then(x.1,(cells.lookup x.1).getD 0)::c else c) Z
 |[],_=>rfl|(n,k)::r,Z=>Vf cells r _
def Xb(h:∀y∈scope.names,y.2=.free->∃c,env.cells.lookup y.1=some c):closureFor scope env=pure (Kw env.cells scope.names []):=by
 simp only[closureFor];rw[Ve (g:=λx c=>if x.2==.free then(x.1,(env.cells.lookup x.1).getD 0)::c else c) [] (λx U c=>by
  obtain⟨n,k⟩:=x
  by_cases G:k=.free
  .subst G
   obtain⟨c',Z⟩:=h (n,.free) U rfl;have Z:env.cells.lookup n=some c':=Z;simp[cellOf,Z]
  .have R:(k==NameKind.free)=false:=by simpa using G
   simp[R]),Vf]
 rfl
theorem ad1(cells:Xt):∀(l:X0)(G:Xt)(x:Str)(c:Addr),(∀y∈l,y.2=.free->∃c,cells.lookup y.1=some c)->(Kw cells l G).lookup x=some c ->
 G.lookup x=some c\/cells.lookup x=some c
 |[],G,x,c,_,h=>.inl h
 |(n,k)::r,G,x,c,hy,h=>by
  rcases ad1 cells r _ x c (λz R=>hy z (bh _ R)) h with q|q
  .by_cases U:k=.free
   .subst U
    simp only[zu,ji,ph] at q;cases e:x==n with
    |true =>
     rw[e] at q;obtain⟨c',Z⟩:=hy (n,.free) cu rfl;have Z:cells.lookup n=some c':=Z;simp only[Z,qt,Ak] at q;subst q;rw[eq_of_beq e];exact .inr Z
    |false=>rw[e] at q;exact .inl q
   .have hb:(k==NameKind.free)=false:=by simpa using U
    simp only[hb,dj,jk] at q;exact .inl q
  .exact .inr q
theorem Xc(cells:Xt):∀(l:X0)(Z:Xt)(x:Str),(∃c,Z.lookup x=some c)->∃c,(Kw cells l Z).lookup x=some c
 |[],Z,x,h=>h
 |(n,k)::r,Z,x,h=>by
  refine Xc cells r _ x ?_
  by_cases G:(k==NameKind.free)=true
  .rw[dg G,ph]
   cases e:x==n with
   |true=>exact⟨_,rfl⟩|false=>exact h
  .rw[bx G];exact h
theorem Ui(cells:Xt):∀(l:X0)(Z:Xt)(x:Str),(x,NameKind.free)∈l->∃c,(Kw cells l Z).lookup x=some c
 |(n,k)::r,Z,x,h=>by
  rcases cj.mp h with q|q
  .obtain⟨rfl,rfl⟩:=Prod.mk.inj q
   refine Xc cells r _ x ⟨(cells.lookup x).getD 0,?_⟩;rw[dg (by simp),ph,zu]
  .exact Ui cells r _ x q
theorem O5{Z:Env}:∀{G:X0}{x:Str},
 (G.map λ(y:Str×NameKind)=>if(y.2==NameKind.free&&Z.scope.kind==.function&&Z.kindOf y.1==some .cell) then(y.1,NameKind.cell) else(y.1,y.2)).lookup x
  = (G.lookup x).map λk=>if(k==NameKind.free&&Z.scope.kind==.function&&Z.kindOf x==some .cell) then NameKind.cell else k
 |[],_=>rfl
 |(n,k)::r,x=>by
  have R:=@O5 Z r x;rw[ig];cases hx:x==n with
  |true =>
   have e:=eq_of_beq hx;subst e;clear hx
   by_cases U:(k==NameKind.free&&Z.scope.kind==.function&&Z.kindOf x==some .cell)=true
   .simp only[U,ji,ph,zu,m8]
   .have hb:(k==NameKind.free&&Z.scope.kind==.function&&Z.kindOf x==some .cell)=false:=by simpa using U
    simp only[hb,dj,jk,ph,zu,m8]
  |false =>
   by_cases U:(k==NameKind.free&&Z.scope.kind==.function&&Z.kindOf n==some .cell)=true
   .simp only[U,ji,ph,hx];exact R
   .simp only[U,ph,hx];simpa[ph,hx] using R
theorem mem_of_lookup{Z G:Type}[BEq Z][LawfulBEq Z]:∀{l:List (Z×G)}{x:Z}{y:G},l.lookup x=some y->(x,y)∈l
 |(a,b)::r,x,y,h=>by
  rw[ph] at h;cases e:x==a with
  |true=>rw[e] at h;cases h;rw[eq_of_beq e];exact cu|false=>rw[e] at h;exact bh _ (mem_of_lookup h)
def Mx(X:Cx)(N:Yf)(Z:Scope)(C:Addr)(G:X9)(s:Shared)(H:Hp):Cx where
 prog:=X.prog
 w:=X.w
 K:=X.K
 mg:=X.mg
 base:=X.base
 A:=X.A
 N:=N
 s₀:=s
 H₀:=H
 env:=compEnvC Z (Kw X.env.cells Z.names []) C X.env
 outer:=X.stack
 stack:=X.stack
 ex:=G
 fn:=λ_=>false
 calm:=X.calm
 pn:=[]
 xe:=λ_ _=>False
structure Hi(X:Cx)(N:Yf)(scope:Scope):Prop where
 kind:scope.kind=.function
 ap5:∀y∈scope.names,y.2≠.cell
 locs:∀y∈scope.names,y.2=.local->scope.names.lookup y.1=some .local
 frees:∀y∈scope.names,y.2=.free->X.env.kindOf y.1=some .cell\/X.env.kindOf y.1=some .free
 uniq:∀x k,(x,k)∈scope.names->scope.names.lookup x=some k
 long:X.N.length<=N.length
 vis:∀i x,i<X.N.length->N[i]?=some x->Vis (relabel scope X.env) x->X.N[i]?=some x/\scope.names.lookup x=some .free
theorem Hi.cells(B:Hi X N scope)(ok:X.Ok):∀y∈scope.names,y.2=.free->∃c,X.env.cells.lookup y.1=some c:=λy G Z=>ok.has y.1 (B.frees y G Z)
def Hi.clos(B:Hi X N scope)(ok:X.Ok):closureFor scope X.env=pure (Kw X.env.cells scope.names []):=Xb (B.cells ok)
def Hi.inCells(B:Hi X N scope)(ok:X.Ok)(h:(Kw X.env.cells scope.names []).lookup x=some c):X.env.cells.lookup x=some c:=by
 rcases ad1 _ _ _ _ _ (B.cells ok) h with q|q
 .simp at q
 .exact q
def ad2{X:Cx}(x:Str):(compEnvC scope cl C X.env).kindOf x=(scope.names.lookup x).map λk=>if(k==NameKind.free&&X.env.scope.kind==.function&&X.env.kindOf x==some .cell) then NameKind.cell else k:=by show(relabel scope X.env).names.lookup x=_;exact O5
def als(B:Hi X N scope)(I:Inv X pins σ H s)(hf:∀b∈fp,Vr X pins H b)(qv:∀b∈fp,∃o,s.heap.get? b=some o)(q0:G.Ns (s.heap.objs.size+1) λ_=>none)(hk:∀b o,s.heap.get? b=some o->G.get? b=some o)(Fp:G.get? s.heap.objs.size=some { cls:=.type "list",data:=.seq ([]:Zl).toArray }) :
 Inv (Mx X N scope (s.heap.objs.size+1) fp s H) [] (σ++List.replicate (N.length-X.N.length) none) (upd H s.heap.objs.size (.lst [])) { s with heap:=G,toks:=t }:=by
 have ok:=I.ok;have hD:H s.heap.objs.size=none:=I.Av.fresh (bw _);have hC:H (s.heap.objs.size+1)=none:=I.Av.fresh (vg _);have q1:s.heap.objs.size+1≠s.heap.objs.size:=Nat.succ_ne_self _;have lt:∀b∈fp,b<s.heap.objs.size:=λb hb=>by obtain⟨o,e⟩:=qv b hb;exact az e
 have qk:∀x c,X.env.cells.lookup x=some c->c<s.heap.objs.size:=λx c e=>by obtain⟨v,o,ho,_⟩:=I.cell x c e;exact az ho
 refine⟨⟨ok.mod,B.kind,ok.glob,ok.blt,vg _,?_,?_,?_,ok.hd,ok.frames,.inl rfl,?_,λb o e=>I.bs b o e,iu ok.bsz I.sz,?_,?_,I.stack,I.ai1⟩,rfl,I.bare,?_,?_,?_,?_,?_,?_,?_,?_⟩
 .intro x y c U hy
  exact ok.inj x y c (B.inCells ok U) (B.inCells ok hy)
 .intro x U
  rw[show(Mx X N scope (s.heap.objs.size+1) fp s H).env.kindOf x=_ from ad2 x] at U;cases e:scope.names.lookup x with
  |none=>rw[e] at U;rcases U with q|q<;>simp at q
  |some k =>
   have Va:k=.free:=by
    rw[e] at U;cases k with
    |free=>rfl|cell=>exact absurd rfl (B.ap5 _ (mem_of_lookup e))|«local»=>rcases U with q|q<;>simp at q
    |globalExplicit=>rcases U with q|q<;>simp at q
    |globalImplicit=>rcases U with q|q<;>simp at q
   subst Va;exact Ui _ _ _ _ (mem_of_lookup e)
 .intro x c h;cases h
 .intro b hb
  refine⟨λe=>?_,λx c hc e=>?_⟩
  .have q:=lt b hb
   have e:b=s.heap.objs.size+1:=e;rw[e] at q;exact absurd q (Nat.not_lt.mpr (vg _))
  .obtain⟨_,_,_,_,f4,_⟩:=hf b hb
   exact f4 x c (B.inCells ok hc) e
 .intro b o e hb
  obtain⟨_,_,_,f3,_⟩:=hf b hb;rcases f3 with q|q
  .exact ok.ao4 b o e q
  .exact qy _ (ir (az e) (iu ok.bsz q))
 .intro b hb q
  obtain⟨_,f1,f2,_⟩:=hf b hb;rcases cj.mp (I.aa6 b q) with z|z
  .exact f1 z
  .exact f2 z
 .exact Un.laid hk (bw _) hD
 .refine⟨_,q0,λi x v hN Z hv=>?_⟩
  have hi:i<X.N.length:=by
   rcases ym i σ.length with q|q
   .rw[I.len] at q;exact q
   .rw[jo q] at Z
    rw[List.getElem?_replicate] at Z;split at Z<;>simp at Z
  rw[dz (by rw[I.len];exact hi)] at Z;obtain⟨U,Va⟩:=B.vis i x hi hN hv;obtain⟨m,_,hl⟩:=I.loc;have qq:=B.frees _ (mem_of_lookup Va) rfl;have q2:Vis X.env.scope x:=by
   rcases qq with q|q
   .exact .inr (.inl q)
   .exact .inr (.inr q)
  obtain⟨u,ru,lu⟩:=hl i x v U Z q2;refine⟨u,ru,.inr ⟨?_,?_⟩⟩
  .rw[show(Mx X N scope (s.heap.objs.size+1) fp s H).env.kindOf x=_ from ad2 x,Va]
   simp only[m8];split
   .exact .inl rfl
   .exact .inr rfl
  .rcases lu with⟨q,_⟩|⟨_,c,hc,ic⟩
   .rcases qq with z|z<;>rw[q] at z<;>cases z
   .obtain⟨c',R⟩:=Ui X.env.cells scope.names [] x (mem_of_lookup Va)
    have:=B.inCells ok R;rw[hc] at this;cases this;exact⟨c,R,ic.keeps hk⟩
 .intro x c hc
  obtain⟨v,iv⟩:=I.cell x c (B.inCells ok hc);exact⟨v,iv.keeps hk⟩
 .show upd H s.heap.objs.size (.lst []) (s.heap.objs.size+1)=none
  rw[m5 q1];exact hC
 .intro x c hc
  have R:=B.inCells ok hc;rw[m5 (gh (qk x c R))];exact I.O1 x c R
 .intro p hp;simp[Mx] at hp
 .exact Ql.laid I.Av hk (bw _) ⟨iz _,[],0,.nil,Fp⟩
 .show(σ++List.replicate (N.length-X.N.length) none).length=N.length
  rw[uy,List.length_replicate,I.len];have:=B.long;omega
def O6(I:Nat->Shared->Prop)(q7:∀n s,I n s->wpAny (model prog w) A (pyNext it) (λr G=>match r with
 |none=>R (.ok .next) G
 | some v=>wpAny (model prog w) A (letOwnedTupleGo target it v) (λ_ qq=>wpAny (model prog w) A (assign target env v) (λ_ q1 =>
  wpAny (model prog w) A (forIn ifs true λc r=>if r=true then do let ok <- isTrue c env (eval c env);pure (ForInStep.yield ok) else pure (ForInStep.yield r)) (λok Z =>
   if ok=true then wpAny (model prog w) A (eval elt env) (λx q2 =>
    wpAny (model prog w) A (call (.builtin "list.append") [acc,x]) (λ_ q0=>∃m,m<n/\I m q0) (λ_ _=>False) q2) (λ_ _=>False) Z
   else ∃m,m<n/\I m Z) (λ_ _=>False) q1) (λ_ _=>False) qq) (λ_ _=>False) G) (λ_ _=>False) s)(n:Nat)(h:I n s) :
 codeAny (model prog w) A (.compLoop (.ListComp elt [⟨target,iter,ifs,0⟩] scope pos) 0 it acc env) R s:=by
 have nv:∀{α:Type}{t:Sem α}{Q:α->Shared->Prop}{E:Y1}{s:Shared},wpAny (model prog w) A t Q (λ_ _=>False) s->wpAny (model prog w) A t Q E s:=λh=>mj h (λ_ _ q=>q) λ_ _ f=>f.elim
 refine codeAny_loop rfl I (λn s hI=>?_) n h;show wpAny _ A ((compTurn (.ListComp elt [⟨target,iter,ifs,0⟩] scope pos) 0 it acc env).onRaise (λx=>do noteFrame x env;theTreesLotGoes x)) _ _ s;refine wpAny_noted ?_;rw[compTurn_list];refine aa (wpAny_standAt (aa (mj (q7 n s hI) (λr G qv=>?_) λ_ _ U=>U.elim)));cases r with
 |none=>exact aj qv
 |some v =>
  refine aa (mj qv (λ_ qq q3=>?_) λ_ _ U=>U.elim);refine aa (mj q3 (λ_ q1 q4=>aa (mj q4 (λok Z qk=>?_) λ_ _ U=>U.elim)) λ_ _ U=>U.elim);cases ok with
  |false=>exact aj ⟨rfl,qk⟩
  |true =>
   exact aa (aa (mj qk (λx q2 q5=>aa (mj q5 (λ_ q0 q6=>aj (aj ⟨rfl,q6⟩)) λ_ _ U=>U.elim)) λ_ _ U=>U.elim))
def ad3(k:Nat)(wi:TI)(g:TG)(tc:TT)(te:TE):TE:=λU H Q=>wi U H λJ H1=>∀D,H1 D=none->∃W:Nat->Nat->Hp->Prop,(∃m,W 0 m (upd H1 D (.lst [])))/\∀i m H,W i m H ->
 (J.stop i H/\Q (.ref D) H)\/(J.go i H/\∀x H',J.yld i H x H'->g x (U++List.replicate k none) H' λZ H2=>Z.length=(U++List.replicate k none).length /\
  (∀(j:Nat) v,(U++List.replicate k none)[j]?=some (some v)->Z[j]?=some (some v))/\tc Z H2 λb H3 =>
   if b=true then te Z H3 λv H4=>∃R G,H4 D=some (.lst R)/\R.length<sizeLine/\G<m/\W (i+1) G (upd H4 D (.lst (R++[v]))) else ∃G,G<m/\W (i+1) G H3)
def PTs(X:Cx)(Z:Ya)(G:TT):Prop:=(Z=[]/\G=λ_ H Q=>Q true H)\/∃c,Z=[c]/\PT X c G
def Zo(I:Inv X pins σ H s)(U:∀b∈fp,Vr X pins H b)(J:Inv (Mx X N scope (s.heap.objs.size+1) fp s H) [] qq H3 s3):Inv X pins σ H3 s3/\∃m,s3.heap.Ns (s.heap.objs.size+1) m:=by
 refine⟨I.call' J.os J.base J.Av J.bare λb hb=>?_,?_⟩
 .obtain⟨_,f1,_,G,R,f5⟩:=U b hb
  exact⟨G,f1,R,f5⟩
 .obtain⟨m,Z,_⟩:=J.loc
  exact⟨m,Z⟩
def alu(I:Inv X pins σ H s)(I3:Inv X pins σ G s3)(hC:G (s.heap.objs.size+1)=none)(U:Heap.SameBut (s.heap.objs.size+1) s3.heap h'):Inv X pins σ G { s3 with heap:=h' }:=by
 have big:∀b o,s.heap.get? b=some o->b≠s.heap.objs.size+1:=λb o e z=>by have:=az e;rw[z] at this;exact absurd this (Nat.not_lt.mpr (vg _))
 refine I3.turned (t':=s3.toks) (λb o hb e=>U.extBut b o hb e) hC ?_ (.inr (iu I.sz (vg _))) ?_ ?_
 .intro e
  obtain⟨m,⟨o,_,_,Z,_⟩,_⟩:=I.loc;exact big _ o Z e.symm
 .intro x c R
  obtain⟨v,o,Z,_⟩:=I.cell x c R;exact big c o Z
 .intro p hp
  exact big p.1 p.2 (I.pin p hp).1
def Xd{RR:Value->Addr->Result->Shared->Prop}(B:Hi X N scope)(J0:X.calm=true)(I:Inv X pins σ H s)(hf:∀b∈G,Vr X pins H b)(T:Turn X.prog X.w X.K tg J G it tn)(h0:tn 0 s.heap)(hg:∀C s H,PG (Mx X N scope C G s H) tg g)(hc:∀C s H,PTs (Mx X N scope C G s H) ifs tc)(he:∀C s H,PE (Mx X N scope C G s H) elt te){Q:VK}(W:Nat->Nat->Hp->Prop)(w0:W 0 m0 (upd H s.heap.objs.size (.lst [])))(z3:∀i m H,W i m H->(J.stop i H/\Q (.ref s.heap.objs.size) H)\/(J.go i H/\∀x H',J.yld i H x H'->g x (σ++List.replicate (N.length-X.N.length) none) H' λq1 H2=>q1.length=(σ++List.replicate (N.length-X.N.length) none).length /\
 (∀(j:Nat) v,(σ++List.replicate (N.length-X.N.length) none)[j]?=some (some v)->q1[j]?=some (some v))/\tc q1 H2 λb H3 =>
  if b=true then te q1 H3 λv H4=>∃xs R,H4 s.heap.objs.size=some (.lst xs)/\xs.length<sizeLine/\R<m/\W (i+1) R (upd H4 s.heap.objs.size (.lst (xs++[v]))) else ∃R,R<m/\W (i+1) R H3))(z7:∀z4 H3 s3,Inv (Mx X N scope (s.heap.objs.size+1) G s H) [] z4 H3 s3->Q (.ref s.heap.objs.size) H3->RR (.ref s.heap.objs.size) (s.heap.objs.size+1) (.ok .next) s3) :
 wpAny (model X.prog X.w) X.A (newList []) (λz2 zk=>wpAny (model X.prog X.w) X.A (newFunctionEnv scope X.env.globals (Kw X.env.cells scope.names []) [] X.env.qual none .none (some X.env)) (λq2 z1 =>
  codeAny (model X.prog X.w) X.A (.compStart (.ListComp elt [⟨tg,iter,ifs,0⟩] scope pos) 0 (.ref it) z2 { q2 with scope:=relabel scope X.env }) (RR z2 q2.locals) z1) E zk) E s:=by
 refine t8 (wpAny_newFunctionEnv B.ap5 (by intro y hy;simp at hy) (λq0 U Z=>?_) B.kind);dsimp only at U Z ⊢;have zw:(s.heap.push { cls:=.type "list",dict:=none,data:=.seq ([]:Zl).toArray }).objs.size=s.heap.objs.size+1:=ju _ _;rw[zw] at U Z;have q5:∀b o,s.heap.get? b=some o->q0.get? b=some o:=λb o e=>Z.extBut b o (λz=>absurd (az e) (by rw[z];exact Nat.not_lt.mpr (vg _))) (au _ (au _ e))
 have Fp:q0.get? s.heap.objs.size=some { cls:=.type "list",data:=.seq ([]:Zl).toArray }:=Z.extBut _ _ (gh (qm _)) (au _ (bu _ rfl));have zz:∀b∈G,∃o,s.heap.get? b=some o:=λb hb=>let ⟨o,e,_⟩:=T.obj 0 _ h0 b hb;⟨o,e⟩
 have I0:=als (t:=s.toks+([]:List (Str×Value)).length) B I hf zz U q5 Fp;have q4:∀{H':Hp},(∀b∈G,H' b=none)->∀b∈G,Vr (Mx X N scope (s.heap.objs.size+1) G s H) [] H' b:=λhn b hb=>by
  obtain⟨f0,f1,f2,f3,f4,f5⟩:=hf b hb;refine⟨hn b hb,?_,?_,.inl hb,?_,λp hp=>(by simp[Mx] at hp)⟩
  .intro z
   obtain⟨o,e⟩:=zz b hb;have:=az e;rw[show b=s.heap.objs.size+1 from z] at this;exact absurd this (Nat.not_lt.mpr (vg _))
  .intro q
   rcases cj.mp (I.aa6 b q) with z|z
   .exact f1 z
   .exact f2 z
  .intro x c hc
   exact f4 x c (B.inCells I.ok hc)
 have z9:∀b∈G,upd H s.heap.objs.size (.lst []) b=none:=λb hb=>by obtain⟨o,e⟩:=zz b hb;rw[m5 (gh (az e))];exact(hf b hb).1
 have q3:∀s':Shared,s'={ s with heap:=q0,toks:=s.toks+([]:List (Str×Value)).length }->codeAny (model X.prog X.w) X.A (.compLoop (.ListComp elt [⟨tg,iter,ifs,0⟩] scope pos) 0 (.ref it) (.ref s.heap.objs.size) (compEnvC scope (Kw X.env.cells scope.names []) (s.heap.objs.size+1) X.env))
  (RR (.ref s.heap.objs.size) (s.heap.objs.size+1)) s':=by
  rintro s' rfl;refine O6 (λn s'=>∃i qk H',Inv (Mx X N scope (s.heap.objs.size+1) G s H) [] qk H' s'/\(∀(j:Nat) v,(σ++List.replicate (N.length-X.N.length) none)[j]?=some (some v)->qk[j]?=some (some v))/\tn i s'.heap/\(∀b∈G,H' b=none)/\W i n H') ?_ m0
   ⟨0,_,_,I0,λ_ _ z=>z,T.keep 0 _ _ h0 (λb _ o e=>q5 b o e),z9,w0⟩
  rintro n s3 ⟨i,z4,H3,I3,k3,z5,z0,w3⟩;have zv:=I3.weak (σ':=σ++List.replicate (N.length-X.N.length) none) (by rw[I3.len];exact I0.len) k3;rcases z3 i n H3 w3 with⟨z6,qn⟩|⟨go,step⟩
  .refine Bu (T.done (Mx X N scope (s.heap.objs.size+1) G s H) rfl rfl rfl J0 i [] s3 _ H3 (λ_ _=>False) zv (q4 z0) z5 z6) λr s4 z_=>?_
   obtain⟨hr,I4⟩:=z_;subst hr;exact z7 _ _ _ I4 qn
  .refine Bu (T.item (Mx X N scope (s.heap.objs.size+1) G s H) rfl rfl rfl J0 i [] s3 _ H3 (λ_ _=>False) zv (q4 z0) z5 go) λr s4 z_=>?_
   obtain⟨u,hr,h4⟩:=z_;subst hr;refine Bu h4 λ_ s5 z_=>?_
   obtain⟨x,H5,I5,r5,y5,q8,yx⟩:=z_;have yy:=I5.pinned (q4 yx) (T.obj _ _ q8);refine Bu (hg _ _ _ _ s5 _ H5 x u _ yy r5 (step x H5 y5)) λ_ s6 z_=>?_
   obtain⟨qq,H6,I6,l6,k6,q6⟩:=z_;have qv:∀{ai2:Zp}{H7:Hp}{s7:Shared}{m:Nat},Inv (Mx X N scope (s.heap.objs.size+1) G s H) ([]++Ug G s5.heap) qq H7 s7->m<n->W (i+1) m H7 ->
    ∃m,m<n/\∃i qk H',Inv (Mx X N scope (s.heap.objs.size+1) G s H) [] qk H' s7/\(∀(j:Nat) v,(σ++List.replicate (N.length-X.N.length) none)[j]?=some (some v)->qk[j]?=some (some v))/\tn i s7.heap/\(∀b∈G,H' b=none)/\W i m H':=fun{_ H7 s7 m} I7 hm w7=>by
    refine⟨m,hm,i+1,qq,H7,I7.O3,k6,T.keep _ _ _ q8 λb hb o e=>(I7.pin (b,o) (gw _ (gw _ (Ln hb e)))).1,λb hb=>?_,w7⟩;obtain⟨o,e,d⟩:=T.obj _ _ q8 b hb;exact(I7.pin (b,o) (gw _ (gw _ (Ln hb e)))).2.1
   have zq:wpAny (model X.prog X.w) X.A (forIn ifs true λc r=>if r=true then do let ok <- isTrue c (compEnvC scope (Kw X.env.cells scope.names []) (s.heap.objs.size+1) X.env) (eval c (compEnvC scope (Kw X.env.cells scope.names []) (s.heap.objs.size+1) X.env));pure (ForInStep.yield ok) else pure (ForInStep.yield r))
    (TP (Mx X N scope (s.heap.objs.size+1) G s H) ([]++Ug G s5.heap) qq λb H3 =>
     if b=true then te qq H3 λv H4=>∃xs R,H4 s.heap.objs.size=some (.lst xs)/\xs.length<sizeLine/\R<n/\W (i+1) R (upd H4 s.heap.objs.size (.lst (xs++[v]))) else ∃R,R<n/\W (i+1) R H3) (λ_ _=>False) s6:=by
    rcases hc (s.heap.objs.size+1) s H with⟨rfl,rfl⟩|⟨c,rfl,z8⟩
    .exact wpAny_tests_nil ⟨H6,I6,q6⟩
    .exact wpAny_tests_one (z8 _ s6 qq H6 _ I6 q6)
   refine Bu zq λok s7 z_=>?_
   obtain⟨H7,I7,q7⟩:=z_;cases ok with
   |false =>
    obtain⟨R,hm,w7⟩:=(show ∃R,R<n/\W (i+1) R H7 from q7);exact qv (ai2:=[]) I7 hm w7
   |true =>
    show wpAny _ _ _ _ _ _;refine Bu (he _ _ _ _ s7 qq H7 _ I7 q7) λx s8 z_=>?_
    obtain⟨v,H8,I8,r8,xs,R,hD,hl,hm,w8⟩:=z_;refine Bu (Zm _ s8 qq H8 (.ref s.heap.objs.size) [v] (.ref s.heap.objs.size) [x] (λ_ H'=>W (i+1) R H') I8 rfl (.cons r8 .nil) ⟨_,xs,v,rfl,rfl,hD,hl,w8⟩) λ_ s9 z_=>?_
    obtain⟨_,H9,I9,_,w9⟩:=z_;exact qv (ai2:=[]) I9 hm w9
 rw[zw];exact codeAny_compStart_list (q3 _ rfl) (T.self _ 0 _ _ _ (T.keep 0 _ _ h0 (λb _ o e=>q5 b o e)) (q3 _ rfl))
def ajb(B:Hi X N scope)(J0:X.calm=true)(hi:PI X tg iter wi)(hg:∀C Z s H,PG (Mx X N scope C Z s H) tg g)(hc:∀C Z s H,PTs (Mx X N scope C Z s H) ifs tc)(he:∀C Z s H,PE (Mx X N scope C Z s H) elt te)(hs:∀x,foldedSetIterable iter X.env x=pure x):PE X (.ListComp elt [⟨tg,iter,ifs,0⟩] scope pos) (ad3 (N.length-X.N.length) wi g tc te):=by intro G s σ H Q I h;rw[eval_ListComp];refine wpAny_comprehension_free (use:=none) rfl hs (B.clos I.ok) B.kind B.locs (Bu (hi G s σ H _ I h) λv s1 h1=>Bu h1 λq0 s2 h2=>?_);obtain⟨it,Z,tn,J,H2,rfl,R,T,qk,f2,q2⟩:=h2;obtain⟨W,⟨m0,w0⟩,U⟩:=q2 s2.heap.objs.size (R.Av.fresh (bw _));refine Xd (RR:=λqq C=>compPost (model X.prog X.w) X.A X.xe none (EP X G σ Q) qq C) B J0 R f2 T qk (λC s H=>hg C Z s H) (λC s H=>hc C Z s H) (λC s H=>he C Z s H) W w0 U ?_;intro qv H3 s3 I3 q3;obtain⟨J3,m,hn⟩:=Zo R f2 I3;exact⟨m,hn,λh' Pn=>⟨.ref s2.heap.objs.size,H3,alu R J3 I3.free Pn,rfl,q3⟩⟩
set_option tactic.hygienic true in
def ajc(B:Hi X N scope)(J0:X.calm=true)(hi:PI X tg iter wi)(hg:∀C G s H,PG (Mx X N scope C G s H) tg g)(hc:∀C G s H,PTs (Mx X N scope C G s H) ifs tc)(he:∀C G s H,PE (Mx X N scope C G s H) elt te)(hs:∀x,foldedSetIterable iter X.env x=pure x)(hN:X.N.Nodup)(hy:X.N[i]?=some y)(hl:X.env.scope.names.lookup y=some .local)(qv:swapsWith (.ListComp elt [⟨tg,iter,ifs,0⟩] scope pos) (some (.Name y py)) ap6.line X.env=pure true) :
 PS X (.Assign [.Name y py] (.ListComp elt [⟨tg,iter,ifs,0⟩] scope pos) ap6) (a2f (ad3 (N.length-X.N.length) wi g tc te) (ai3 i)):=by
 intro Z s σ H D I h;rw[exec_Assign_Name_used _ _ _ _ qv];refine aa (wpAny_standAt (aa ?_));show wpAny _ _ (do let _ <- comprehension (.ListComp elt [⟨tg,iter,ifs,0⟩] scope pos) scope X.env _ (newList []) false (eval iter X.env) (some (assign (.Name y py) X.env))) _ _ s;refine aa (mj (wpAny_comprehension_free (use:=some (assign (.Name y py) X.env)) (Q:=λ_ u=>SP X Z D .next u) rfl hs (B.clos I.ok) B.kind B.locs
  (Bu (hi Z s σ H _ I h) λv s1 h1=>Bu h1 λq7 Y h2=>?_)) (λ_ u hq=>aj (aj hq)) λ_ _ e=>e)
 obtain⟨it,G,tn,J,H2,rfl,U,T,q0,f2,q2⟩:=h2;obtain⟨W,⟨m0,w0⟩,R⟩:=q2 Y.heap.objs.size (U.Av.fresh (bw _));refine Xd (RR:=λqk C=>compPost (model X.prog X.w) X.A X.xe (some (assign (.Name y py) X.env)) (λ_ u=>SP X Z D .next u) qk C) (Q:=λx H1=>ai3 i x σ H1 D.nx) B J0 U f2 T q0 (λC s H=>hg C G s H) (λC s H=>hc C G s H) (λC s H=>he C G s H) W w0 R ?_;intro q6 H3 s3 I3 q3;obtain⟨J3,m,hn⟩:=Zo U f2 I3;have qq:=I3.free;obtain⟨oC,_,_,S,q5,_⟩:=id hn;have big:∀b o,Y.heap.get? b=some o->b≠Y.heap.objs.size+1:=λb o e z=>by have:=az e;rw[z] at this;exact absurd this (Nat.not_lt.mpr (vg _))
 have L:Y.heap.objs.size+1≠X.env.locals:=λe=>by obtain⟨m,⟨o,_,_,ho,_⟩,_⟩:=U.loc;exact big _ o ho e.symm
 have J4:Inv X (Z++[(Y.heap.objs.size+1,oC)]) σ H3 s3:=J3.Sd λp hp=>by
  rcases dw.mp hp with q|q
  .exact J3.pin p (gw _ q)
  .have e:p=(Y.heap.objs.size+1,oC):=by simpa using q
   subst e;refine⟨S,qq,L,λhb=>?_,λv z=>by rw[q5] at z;cases z⟩;exact U.a1n (vg _) hb
 show wpAny (model X.prog X.w) X.A (assign (.Name y py) X.env (.ref Y.heap.objs.size)) _ _ s3;refine Bu (aa8 (pos:=py) hN hy (.inl hl) (.inr hl) (Z++[(Y.heap.objs.size+1,oC)]) s3 σ H3 (.ref Y.heap.objs.size) (.ref Y.heap.objs.size) D.nx J4 rfl q3) λ_ s4 z_=>?_
 obtain⟨q1,H4,I4,q4⟩:=z_;have pC:=I4.pin (Y.heap.objs.size+1,oC) (gw _ (gw _ (by simp)));refine⟨m,hn.at' λo e=>by rw[S] at e;cases e;exact pC.1,λh' Pn=>⟨q1,H4,?_,q4⟩⟩;refine(I4.O3).turned (t':=s4.toks) (λb o hb e=>Pn.extBut b o hb e) pC.2.1 L (.inr (iu U.sz (vg _))) ?_ ?_
 .intro x c hc
  obtain⟨v,o,ho,_⟩:=U.cell x c hc;exact big c o ho
 .intro p hp
  exact big p.1 p.2 (U.pin p hp).1
end L2
namespace Sm
open PySem L2
open MW (Ex Ed OEx Pz Cz p7 Lv Tg Res dh MO Hh Cp Op2 Blt Bm Kx)
abbrev Dv:=MW.D
abbrev En:=MW.Env
structure Io where
 l:List Addr
 δ:List Addr
noncomputable def Io.add(Z:Io)(p:Addr):Io:=⟨Z.l++[p],Z.δ⟩
noncomputable def Io.hide(Z:Io)(p:Addr):Io:=⟨Z.l,p::Z.δ⟩
def Io.off(Z:Io)(a:Addr):Prop:=a∉Z.l/\a∉Z.δ
def abf(K:Fg)(H:Hp)(a:Addr)(G:List V):Prop :=
 (∃o,H a=some (.Oz o (.lst G))) \/
  ∃(o:Obj)(Z:U1)(n:Nat),K.lookup a=some o/\o.cls=.type "list"/\o.dict=none/\o.data=.seq Z n/\Z.size<=sizeLine/\Vals G Z.toList
def abf.sq(h:abf K H a vs):Gw K H a vs:=by
 rcases h with⟨o,h⟩|h
 .exact .inl (.inr ⟨o,h⟩)
 .exact .inr h
mutual
inductive Rep(K:Fg)(ι:Io)(H:Hp):Dv->V->Prop
 |non:Rep K ι H .non .non
 |bl (b:Bool):Rep K ι H (.bl b) (.bl b)
 |int (i:Int):Rep K ι H (.int i) (.int i)
 |str (s:Str):Rep K ι H (.str s) (.str s)
 |tup {a:Addr} {ds:List Dv} {vs:List V} (e:H a=some (.tup vs)) (r:p8 K ι H ds vs):Rep K ι H (.tup ds) (.ref a)
 |vl {a:Addr} {ds:List Dv} {vs:List V} (e:H a=some (.lst vs)) (n:ι.off a) (r:p8 K ι H ds vs):Rep K ι H (.vl ds) (.ref a)
 |fz {a:Addr} {ds:List Dv} {vs:List V} (e:abf K H a vs) (r:p8 K ι H ds vs):Rep K ι H (.fz ds) (.ref a)
 |ref {n:Nat} {a:Addr} (e:ι.l[n]?=some a):Rep K ι H (.ref n) (.ref a)
inductive p8(K:Fg)(ι:Io)(H:Hp):List Dv->List V->Prop
 |nil:p8 K ι H [] []
 |cons {d:Dv} {v:V} {ds:List Dv} {vs:List V} (h:Rep K ι H d v) (t:p8 K ι H ds vs):p8 K ι H (d::ds) (v::vs)
end
structure Le(ι:Io)(H:Hp)(ι':Io)(H':Hp):Prop where
 ext:∃Y,ι'.l=ι.l++Y/\∀a∈Y,H a=none
 del:ι'.δ=ι.δ
 tup:∀a vs,H a=some (.tup vs)->H' a=some (.tup vs)
 Oz:∀a o u,H a=some (.Oz o u)->H' a=some (.Oz o u)
 lst:∀a vs,a∉ι.l->H a=some (.lst vs)->H' a=some (.lst vs)
 dom:∀a,H' a=none->H a=none
def Le.refl(Z:Io)(H:Hp):Le Z H Z H:=⟨⟨[],by simp,by simp⟩,rfl,λ_ _ h=>h,λ_ _ _ h=>h,λ_ _ _ h=>h,λ_ h=>h⟩
def Hl{H H':Hp}(U:∀a u,H a=some u->∃Z,H' a=some Z)(h:H' a=none):H a=none:=by
 cases e:H a with
 |none=>rfl|some u=>obtain⟨Z,G⟩:=U a u e;rw[h] at G;cases G
def Le.get(l:Le G H Z U){n:Nat}(h:G.l[n]?=some a):Z.l[n]?=some a:=by obtain⟨Y,e,_⟩:=l.ext;rw[e,dz (ak.mp h).1];exact h
def Le.a3j(l:Le R H Z H')(h:a∉R.l)(G:H a=some o):a∉Z.l:=by
 obtain⟨Y,e,U⟩:=l.ext;rw[e];intro m;rcases dw.mp m with q|q
 .exact h q
 .rw[U a q] at G;cases G
def Le.out(l:Le G H Z R)(h:G.off a)(U:H a=some o):Z.off a:=⟨l.a3j h.1 U,by rw[l.del];exact h.2⟩
theorem Le.trans(a:Le ι H U H1)(b:Le U H1 R H2):Le ι H R H2:=by
 obtain⟨Y,e1,h1⟩:=a.ext;obtain⟨Z,e2,h2⟩:=b.ext;refine⟨⟨Y++Z,by rw[e2,e1,yo],λx m=>?_⟩,b.del.trans a.del,λx G h=>b.tup x G (a.tup x G h),λx o u h=>b.Oz x o u (a.Oz x o u h),λx G n h=>b.lst x G (a.a3j n h) (a.lst x G n h),λx h=>a.dom x (b.dom x h)⟩;rcases dw.mp m with q|q
 .exact h1 x q
 .exact a.dom x (h2 x q)
structure LeX(ι:Io)(H:Hp)(ι':Io)(H':Hp):Prop where
 ext:∃Y,ι'.l=ι.l++Y/\∀a∈Y,H a=none
 del:∀a∈ι'.δ,a∈ι.δ\/H a=none
 tup:∀a vs,H a=some (.tup vs)->H' a=some (.tup vs)
 Oz:∀a o u,H a=some (.Oz o u)->H' a=some (.Oz o u)
 lst:∀a vs,a∉ι.l->H a=some (.lst vs)->H' a=some (.lst vs)
def Le.toX(l:Le G H Z H'):LeX G H Z H':=⟨l.ext,λa h=>.inl (by rw[<- l.del];exact h),l.tup,l.Oz,l.lst⟩
def LeX.get(l:LeX G H Z U){n:Nat}(h:G.l[n]?=some a):Z.l[n]?=some a:=by obtain⟨Y,e,_⟩:=l.ext;rw[e,dz (ak.mp h).1];exact h
def LeX.out(l:LeX R H G H')(h:R.off a)(Z:H a=some o):G.off a:=by
 obtain⟨Y,e,U⟩:=l.ext;refine⟨λm=>?_,λm=>?_⟩
 .rw[e] at m
  rcases dw.mp m with q|q
  .exact h.1 q
  .rw[U a q] at Z;cases Z
 .rcases l.del a m with q|q
  .exact h.2 q
  .rw[q] at Z;cases Z
structure Tr(K:Fg)(ι:Io)(H:Hp)(ι':Io)(H':Hp):Prop where
 tup:∀a vs,H a=some (.tup vs)->H' a=some (.tup vs)
 vl:∀a vs,H a=some (.lst vs)->ι.off a->H' a=some (.lst vs)/\ι'.off a
 fz:∀a vs,abf K H a vs->abf K H' a vs
 rf:∀(n:Nat) a,ι.l[n]?=some a->ι'.l[n]?=some a
mutual
theorem Rep.tr{K:Fg}{U Z:Io}{H G:Hp}(l:Tr K U H Z G):∀{d:Dv}{v:V},Rep K U H d v->Rep K Z G d v
 |_,_,.non=>.non|_,_,.bl b=>.bl b|_,_,.int i=>.int i|_,_,.str s=>.str s|_,_,.tup e r=>.tup (l.tup _ _ e) (p8.tr l r)|_,_,.vl e n r=>.vl (l.vl _ _ e n).1 (l.vl _ _ e n).2 (p8.tr l r)|_,_,.fz e r=>.fz (l.fz _ _ e) (p8.tr l r)|_,_,.ref e=>.ref (l.rf _ _ e)
theorem p8.tr{K:Fg}{ι Z:Io}{H U:Hp}(l:Tr K ι H Z U):∀{G:List Dv}{R:List V},p8 K ι H G R->p8 K Z U G R
 |_,_,.nil=>.nil|_,_,.cons h t=>.cons (Rep.tr l h) (p8.tr l t)
end
def LeX.tr(l:LeX U H Z H'):Tr K U H Z H':=⟨l.tup,λa G e n=>⟨l.lst _ _ n.1 e,l.out n e⟩,λa G e=>by
 rcases e with⟨o,e⟩|e
 .exact .inl ⟨o,l.Oz _ _ _ e⟩
 .exact .inr e,λ_ _ e=>l.get e⟩
def Rep.J1(l:LeX U H Z G)(r:Rep K U H d v):Rep K Z G d v:=r.tr l.tr
def p8.J1(l:LeX U H Z G)(r:p8 K U H ds vs):p8 K Z G ds vs:=r.tr l.tr
def Rep.mono(l:Le U H Z G)(r:Rep K U H d v):Rep K Z G d v:=r.J1 l.toX
def p8.mono(l:Le U H Z G)(r:p8 K U H ds vs):p8 K Z G ds vs:=r.J1 l.toX
theorem p8.length{K:Fg}{U:Io}{H:Hp}:∀{G:List Dv}{Z:List V},p8 K U H G Z->G.length=Z.length:=by intro A B h;induction A generalizing B with|nil=>cases h;rfl|cons d A ih=>cases h with|cons _ t=>rw[il,il,ih t]
theorem p8.get{K:Fg}{U:Io}{H:Hp}:∀{Z:List Dv}{G:List V}{i:Nat}{d:Dv},p8 K U H Z G->Z[i]?=some d->∃v,G[i]?=some v/\Rep K U H d v
 |_,_,_,_,.nil,e=>by simp at e|_,_,0,_,.cons h _,e=>by simp at e;subst e;exact⟨_,rfl,h⟩
 |_,_,i+1,d,.cons _ t,e=>by
  obtain⟨v,h1,R⟩:=p8.get (i:=i) t (by simpa using e);exact⟨v,by simpa using h1,R⟩
theorem p8.set{K:Fg}{Z:Io}{H:Hp}{d:Dv}{v:V}(r:Rep K Z H d v):∀{U:List Dv}{G:List V}(i:Nat),p8 K Z H U G->p8 K Z H (U.set i d) (G.set i v)
 |_,_,_,.nil=>.nil|_,_,0,.cons _ t=>.cons r t|_,_,i+1,.cons h t=>.cons h (p8.set r i t)
theorem p8.append{K:Fg}{Z:Io}{H:Hp}:∀{U G:List Dv}{R us:List V},p8 K Z H U R->p8 K Z H G us->p8 K Z H (U++G) (R++us):=by intro A _ B _ h r;induction A generalizing B with|nil=>cases h;exact r|cons d A ih=>cases h with|cons h t=>exact .cons h (ih t)
theorem p8.drop{K:Fg}{U:Io}{H:Hp}:∀{G:List Dv}{Z:List V}(n:Nat),p8 K U H G Z->p8 K U H (G.drop n) (Z.drop n)
 |_,_,0,r=>r|_,_,_+1,.nil=>.nil|_,_,n+1,.cons _ t=>p8.drop n t
theorem p8.take{K:Fg}{U:Io}{H:Hp}:∀{G:List Dv}{Z:List V}(n:Nat),p8 K U H G Z->p8 K U H (G.take n) (Z.take n)
 |_,_,0,_=>.nil|_,_,_+1,.nil=>.nil|_,_,n+1,.cons h t=>.cons h (p8.take n t)
theorem p8.eraseIdx{K:Fg}{U:Io}{H:Hp}:∀{G:List Dv}{Z:List V}(n:Nat),p8 K U H G Z->p8 K U H (G.eraseIdx n) (Z.eraseIdx n)
 |_,_,_,.nil=>.nil|_,_,0,.cons _ t=>t|_,_,n+1,.cons h t=>.cons h (p8.eraseIdx n t)
theorem p8.ints{K:Fg}{G:Io}{H:Hp}:∀(Z:Xs),p8 K G H (Z.map MW.D.int) (Z.map V.int)
 |[]=>.nil|n::r=>.cons (.int n) (p8.ints r)
structure Nm where
 cls:Nat->Option Addr
 fld:Nat->Str
 inj:∀i j,fld i=fld j->i=j
inductive uw{κ κ':Type}(K:Fg)(ι:Io)(H:Hp)(f:κ->κ'->Prop):List (κ×Dv)->List (κ'×V)->Prop
 |nil:uw K ι H f [] []
 |cons {k:κ} {k':κ'} {d:Dv} {v:V} {l:List (κ×Dv)} {l':List (κ'×V)} (hk:f k k') (h:Rep K ι H d v) (t:uw K ι H f l l'):uw K ι H f ((k,d)::l) ((k',v)::l')
theorem uw.tr{U Z:Type}{f:U->Z->Prop}(t:Tr K ι H G R){l:List (U×Dv)}{l':List (Z×V)}(h:uw K ι H f l l'):uw K G R f l l':=by
 induction h with
 |nil=>exact .nil|cons k h _ ih=>exact .cons k (h.tr t) ih
def uw.mono(le:Le U H Z G)(h:uw K U H f l l'):uw K Z G f l l':=h.tr le.toX.tr
def Hb(U:Nm)(K:Fg)(G:Io)(H:Hp)(o:MO)(a:Addr):Prop :=
 match o with
 |.lst ds=>∃R,H a=some (.lst R)/\p8 K G H ds R|.dT ik=>∃l,H a=some (.dT l)/\uw K G H (λk Z=>k=Z) ik l
 |.dK ik=>∃l,H a=some (.dK l)/\uw K G H (λk Z=>k=Z) ik l
 |.ins c fs=>∃C dx l,U.cls c=some C/\H a=some (.ins C dx l)/\uw K G H (λk Z=>Z=U.fld k) fs l
structure lq(nm:Nm)(K:Fg)(ι:Io)(H:Hp)(M:dh):Prop where
 len:ι.l.length=M.length
 nd:ι.l.Nodup
 del:∀a∈ι.δ,a∉ι.l/\∃vs,H a=some (.lst vs)
 obj:∀(n:Nat)(o:MO)(a:Addr),M[n]?=some o->ι.l[n]?=some a->Hb nm K ι H o a
theorem Hb.some(h:Hb nm K R H o a):∃u,H a=some u/\Mut (H a):=by
 cases o with
 |lst U=>obtain⟨Z,e,_⟩:=h;exact⟨_,e,by rw[e];trivial⟩
 |dT G=>obtain⟨Z,e,_⟩:=h;exact⟨_,e,by rw[e];trivial⟩
 |dK G=>obtain⟨Z,e,_⟩:=h;exact⟨_,e,by rw[e];trivial⟩
 |ins c fs=>obtain⟨C,dx,l,_,e,_⟩:=h;exact⟨_,e,by rw[e];trivial⟩
def lq.addr(S:lq nm K Z H M){n:Nat}(h:M[n]?=some o):∃a,Z.l[n]?=some a/\Hb nm K Z H o a:=by
 have G:n < Z.l.length:=by rw[S.len];exact MW.vh h
 exact⟨Z.l[n],by simp[G],S.obj n o _ h (by simp[G])⟩
def lq.mem(S:lq nm K G H M)(h:a∈G.l):∃u,H a=some u/\Mut (H a):=by
 obtain⟨n,Z,rfl⟩:=pq h;have U:n<M.length:=by rw[<- S.len];exact Z
 exact(S.obj n M[n] G.l[n] (by simp[U]) (by simp[Z])).some
def lq.fresh(S:lq nm K Z H M)(h:H a=none):Z.off a:=by
 refine⟨λm=>?_,λm=>?_⟩
 .obtain⟨u,e,_⟩:=S.mem m
  rw[h] at e;cases e
 .obtain⟨_,G,e⟩:=S.del a m
  rw[h] at e;cases e
theorem Hb.tr(h:Hb nm K ι H o a)(t:Tr K ι H G U)(e:U a=H a):Hb nm K G U o a:=by
 cases o with
 |lst ds=>obtain⟨Z,q,r⟩:=h;exact⟨Z,e.trans q,r.tr t⟩
 |dT ik=>obtain⟨Z,q,r⟩:=h;exact⟨Z,e.trans q,r.tr t⟩
 |dK ik=>obtain⟨Z,q,r⟩:=h;exact⟨Z,e.trans q,r.tr t⟩
 |ins c fs=>obtain⟨C,dx,l,R,q,r⟩:=h;exact⟨C,dx,l,R,e.trans q,r.tr t⟩
def Hb.move(h:Hb nm K U H o a)(le:Le U H Z G)(e:G a=H a):Hb nm K Z G o a:=h.tr le.toX.tr e
def lq.laid(S:lq nm K G H M)(h:H p=none)(o:HO):lq nm K G (upd H p o) M/\Le G H G (upd H p o):=by
 have Z:∀a u,H a=some u->a≠p:=λa u e=>m9 e h
 have le:Le G H G (upd H p o):=⟨⟨[],by simp,by simp⟩,rfl,λa U e=>by rw[m5 (Z a _ e)];exact e,λa _ u e=>by rw[m5 (Z a _ e)];exact e,λa U _ e=>by rw[m5 (Z a _ e)];exact e,
  λa h'=>Hl (λb u e=>⟨u,by rw[m5 (Z b _ e)];exact e⟩) h'⟩
 refine⟨⟨S.len,S.nd,λa R=>?_,λn o' a hn R=>?_⟩,le⟩
 .obtain⟨h1,U,h2⟩:=S.del a R
  exact⟨h1,U,le.lst a U h1 h2⟩
 .have q:=S.obj n o' a hn R
  obtain⟨u,e,_⟩:=q.some;exact q.move le (by rw[m5 (Z a u e)])
def Cv{Z:Type}{l:List Z}{x y:Z}(h:(l++[x])[n]?=some y):(l[n]?=some y)\/(n=l.length/\y=x):=by
 rcases ym n l.length with q|q
 .rw[dz q] at h;exact .inl h
 .rw[jo q] at h
  have:n-l.length=0:=by
   rcases Nat.eq_zero_or_pos (n-l.length) with z|z
   .exact z
   .rw[gr (by simp;exact z)] at h;cases h
  rw[this] at h;simp at h;exact .inr ⟨by lia,h.symm⟩
def lq.new(S:lq nm K Z H M)(h:H p=none)(G:∀a u,H a=some u->H' a=some u)(ho:Le Z H (Z.add p) H'->Hb nm K (Z.add p) H' o p):lq nm K (Z.add p) H' (M++[o])/\Le Z H (Z.add p) H':=by
 have le:Le Z H (Z.add p) H':=⟨⟨[p],rfl,by simpa using h⟩,rfl,λa R e=>G _ _ e,λa _ u e=>G _ _ e,λa R _ e=>G _ _ e,λa h'=>Hl (H:=H) (H':=H') (λb u e=>⟨u,G b u e⟩) h'⟩;refine⟨⟨by simp[Io.add,S.len],?_,λa U=>?_,λn o' a hn U=>?_⟩,le⟩
 .exact yr.mpr ⟨S.nd,by simp,by
   intro x hx y hy;have:y=p:=by simpa using hy
   subst this;intro e;subst e;exact(S.fresh h).1 hx⟩
 .obtain⟨h1,R,h2⟩:=S.del a U
  exact⟨le.a3j h1 h2,R,G _ _ h2⟩
 .rcases Cv hn with q|⟨q,rfl⟩
  .rcases Cv U with r|⟨r,_⟩
   .have z:=S.obj n o' a q r
    obtain⟨u,e,_⟩:=z.some;exact z.move le ((G a u e).trans e.symm)
   .exact absurd (MW.vh q) (by rw[r,S.len];exact qy _)
  .rcases Cv U with r|⟨_,rfl⟩
   .exact absurd (ak.mp r).1 (by rw[q,S.len];exact qy _)
   .exact ho le
def lq.put(S:lq nm K G H M)(hn:M[n]?=some qq)(ha:G.l[n]?=some a)(ho:Le G H G (upd H a u)->Hb nm K G (upd H a u) o a):lq nm K G (upd H a u) (M.set n o)/\Le G H G (upd H a u):=by
 obtain⟨qk,qv,Z⟩:=(S.obj n qq a hn ha).some;have hm:a∈G.l:=ao ha;have le:Le G H G (upd H a u):=⟨⟨[],by simp,by simp⟩,rfl,λb vs e=>by rw[m5 (λz=>by subst z;rw[e] at Z;exact Z)];exact e,
  λb _ _ e=>by rw[m5 (λz=>by subst z;rw[e] at Z;exact Z)];exact e,λb vs nb e=>by rw[m5 (λz=>by subst z;exact nb hm)];exact e,λb h'=>Hl (λc w e=>by
   by_cases z:c=a
   .exact⟨u,by rw[z,xm]⟩
   .exact⟨w,by rw[m5 z];exact e⟩) h'⟩
 refine⟨⟨by rw[List.length_set];exact S.len,S.nd,λb R=>?_,λm o' b U R=>?_⟩,le⟩
 .obtain⟨h1,vs,h2⟩:=S.del b R
  exact⟨h1,vs,le.lst b vs h1 h2⟩
 by_cases q:m=n
 .subst q
  rw[MW.vo hn] at U;cases U;rw[ha] at R;cases R;exact ho le
 .rw[MW.o7 (j0 q)] at U
  have z:=S.obj m o' b U R;have nb:b≠a:=λe=>by subst e;obtain⟨l1,e1⟩:=ak.mp R;obtain⟨l2,e2⟩:=ak.mp ha;exact q ((yg S.nd).mp (e1.trans e2.symm))
  exact z.move le (by rw[m5 nb])
def awc(Z:H D=none):Tr K G H (G.hide D) (upd H D o) :=
 have k:∀{a u},H a=some u->upd H D o a=some u:=λe=>by rw[m5 (m9 e Z)];exact e
 ⟨λ_ _ e=>k e,λa U e n=>⟨k e,n.1,λm=>by
  rcases cj.mp m with q|q
  .exact m9 e Z q
  .exact n.2 q⟩,λ_ _ e=>e.imp (λ⟨q,e⟩=>⟨q,k e⟩) id,λ_ _ e=>e⟩
def ajd(Z:H D=some (.lst U))(R:D∈G.δ):Tr K G H G (upd H D (.lst ws)) :=
 have k:∀{a u},a≠D->H a=some u->upd H D (.lst ws) a=some u:=λn e=>by rw[m5 n];exact e
 ⟨λ_ _ e=>k (ao1 e Z (by intro z;cases z)) e,λa U e n=>⟨k (λz=>by subst z;exact n.2 R) e,n⟩,λ_ _ e=>e.imp (λ⟨q,e⟩=>⟨q,k (ao1 e Z (by intro z;cases z)) e⟩) id,λ_ _ e=>e⟩
def Io.show(Z:Io)(H:Hp)(D:Addr):Tr K (Z.hide D) H Z H:=⟨λ_ _ e=>e,λ_ _ e n=>⟨e,n.1,λm=>n.2 (bh _ m)⟩,λ_ _ e=>e,λ_ _ e=>e⟩
theorem Rep.show(r:Rep K (Z.hide D) H d v):Rep K Z H d v:=r.tr (Z.show H D)
theorem p8.show(r:p8 K (Z.hide D) H d v):p8 K Z H d v:=r.tr (Z.show H D)
theorem lq.hide(S:lq nm K ι H M)(Z:H D=none):lq nm K (ι.hide D) (upd H D (.lst [])) M:=by
 refine⟨S.len,S.nd,λa G=>?_,λn o a R G=>?_⟩
 .rcases cj.mp G with q|q
  .subst q;exact⟨(S.fresh Z).1,[],xm⟩
  .obtain⟨h1,vs,U⟩:=S.del a q
   exact⟨h1,vs,by rw[m5 (m9 U Z)];exact U⟩
 .have z:=S.obj n o a R G
  obtain⟨u,e,_⟩:=z.some;exact z.tr (awc Z) (by rw[m5 (m9 e Z)])
def lq.grow(S:lq nm K R H M)(hD:H D=some (.lst vs))(U:D∈R.δ):lq nm K R (upd H D (.lst ws)) M:=by
 refine⟨S.len,S.nd,λa Z=>?_,λn o a hn Z=>?_⟩
 .obtain⟨G,us,h2⟩:=S.del a Z
  by_cases z:a=D
  .subst z;exact⟨G,ws,xm⟩
  .exact⟨G,us,by rw[m5 z];exact h2⟩
 .have z:=S.obj n o a hn Z
  have ne:a≠D:=λe=>by subst e;exact(S.del a U).1 (ao Z)
  exact z.tr (ajd hD U) (by rw[m5 ne])
theorem lq.show(S:lq nm K (G.hide D) H M):lq nm K G H M :=
 ⟨S.len,S.nd,λa Z=>S.del a (bh _ Z),λn o a U Z=>(S.obj n o a U Z).tr (G.show H D) rfl⟩
structure LeD(D:Addr)(ι:Io)(H:Hp)(ι':Io)(H':Hp):Prop where
 ext:∃Y,ι'.l=ι.l++Y/\∀a∈Y,H a=none
 del:ι'.δ=D::ι.δ
 tup:∀a vs,H a=some (.tup vs)->H' a=some (.tup vs)
 Oz:∀a o u,H a=some (.Oz o u)->H' a=some (.Oz o u)
 lst:∀a vs,a∉ι.l->H a=some (.lst vs)->H' a=some (.lst vs)
 dom:∀a,H' a=none->H a=none
def LeD.toX(l:LeD D U H Z H')(G:H D=none):LeX U H Z H':=⟨l.ext,λa h=>by
 rw[l.del] at h;rcases cj.mp h with q|q
 .exact .inr (by rw[q];exact G)
 .exact .inl q,l.tup,l.Oz,l.lst⟩
def LeD.start(Z:H D=none)(o:HO):LeD D R H (R.hide D) (upd H D o) :=
 ⟨⟨[],by simp[Io.hide],by simp⟩,rfl,λa G e=>by rw[m5 (m9 e Z)];exact e,λa _ _ e=>by rw[m5 (m9 e Z)];exact e,λa G _ e=>by rw[m5 (m9 e Z)];exact e,
  λa U=>Hl (λb u e=>⟨u,by rw[m5 (m9 e Z)];exact e⟩) U⟩
def LeD.go(a:LeD D ι H G H1)(b:Le G H1 R H2):LeD D ι H R H2:=by
 obtain⟨Y,e1,h1⟩:=a.ext;obtain⟨Z,e2,h2⟩:=b.ext;have out:∀x o,x∉ι.l->H x=some o->x∉G.l:=λx o n h m=>by
  rw[e1] at m;rcases dw.mp m with q|q
  .exact n q
  .rw[h1 x q] at h;cases h
 refine⟨⟨Y++Z,by rw[e2,e1,yo],λx m=>?_⟩,b.del.trans a.del,λx U h=>b.tup x U (a.tup x U h),λx o u h=>b.Oz x o u (a.Oz x o u h),λx U n h=>b.lst x U (out x _ n h) (a.lst x U n h),λx h=>a.dom x (b.dom x h)⟩;rcases dw.mp m with q|q
 .exact h1 x q
 .exact a.dom x (h2 x q)
def LeD.grow(a:LeD D ι H Z R)(G:H D=none)(hD:R D=some (.lst vs)):LeD D ι H Z (upd R D (.lst ws)) :=
 ⟨a.ext,a.del,λx U h=>by rw[m5 (m9 h G)];exact a.tup x U h,λx o u h=>by rw[m5 (m9 h G)];exact a.Oz x o u h,λx U n h=>by rw[m5 (m9 h G)];exact a.lst x U n h,
  λx h=>a.dom x (by
   by_cases z:x=D
   .rw[z,xm] at h;cases h
   .rw[m5 z] at h;exact h)⟩
def LeD.done(a:LeD D G H ⟨Z.l,D::Z.δ⟩ H1):Le G H Z H1 :=
 ⟨a.ext,(List.cons.inj a.del).2,a.tup,a.Oz,a.lst,a.dom⟩
inductive vy(K:Fg)(ι:Io)(H:Hp):En->St->Prop
 |nil:vy K ι H [] []
 |skp {y:Option V} {ρ:En} {σ:St} (t:vy K ι H ρ σ):vy K ι H (none::ρ) (y::σ)
 |has {d:Dv} {v:V} {ρ:En} {σ:St} (h:Rep K ι H d v) (t:vy K ι H ρ σ):vy K ι H (some d::ρ) (some v::σ)
theorem vy.J1{K:Fg}{ι Z:Io}{H R:Hp}(le:LeX ι H Z R):∀{G:En}{U:St},vy K ι H G U->vy K Z R G U:=by intro _ _ h;induction h with|nil=>exact .nil|skp t ih=>exact .skp ih|has h t ih=>exact .has (h.J1 le) ih
theorem vy.mono{K:Fg}{ι Z:Io}{H R:Hp}(le:Le ι H Z R):∀{G:En}{U:St},vy K ι H G U->vy K Z R G U:=by intro _ _ h;induction h with|nil=>exact .nil|skp t ih=>exact .skp ih|has h t ih=>exact .has (h.mono le) ih
theorem vy.get{K:Fg}{ι:Io}{H:Hp}:∀{R:En}{U:St}{i:Nat}{d:Dv},vy K ι H R U->R[i]?=some (some d)->∃v,U[i]?=some (some v)/\Rep K ι H d v
 |_,_,_,_,.nil,e=>by simp at e|_,_,0,_,.skp _,e=>by simp at e|_,_,0,_,.has h _,e=>by simp at e;subst e;exact⟨_,rfl,h⟩
 |_,_,i+1,d,.skp t,e=>by
  obtain⟨v,G,Z⟩:=vy.get (i:=i) t (by simpa using e);exact⟨v,by simpa using G,Z⟩
 |_,_,i+1,d,.has _ t,e=>by
  obtain⟨v,G,Z⟩:=vy.get (i:=i) t (by simpa using e);exact⟨v,by simpa using G,Z⟩
theorem vy.set{K:Fg}{Z:Io}{H:Hp}{d:Dv}{v:V}(r:Rep K Z H d v):∀{G:En}{U:St}(i:Nat),vy K Z H G U->vy K Z H (G.set i (some d)) (U.set i (some v))
 |_,_,_,.nil=>.nil|_,_,0,.skp t=>.has r t|_,_,0,.has _ t=>.has r t|_,_,i+1,.skp t=>.skp (vy.set r i t)|_,_,i+1,.has h t=>.has h (vy.set r i t)
theorem vy.length{K:Fg}{U:Io}{H:Hp}:∀{Z:En}{G:St},vy K U H Z G->Z.length=G.length:=by intro _ _ h;induction h with|nil=>rfl|skp _ ih=>rw[il,il,ih]|has _ _ ih=>rw[il,il,ih]
theorem vy.append{K:Fg}{U:Io}{H:Hp}:∀{ρ G:En}{R Z:St},vy K U H ρ R->vy K U H G Z->vy K U H (ρ++G) (R++Z):=by intro _ _ _ _ h r;induction h with|nil=>exact r|skp t ih=>exact .skp ih|has h t ih=>exact .has h ih
theorem vy.ap7{K:Fg}{G:Io}{H:Hp}:∀(k:Nat){Z:St},Z.length=k->vy K G H (List.replicate k none) Z
 |0,[],_=>.nil|k+1,_::r,h=>.skp (vy.ap7 k (by simpa using h))
theorem vy.ap8{K:Fg}{U:Io}{H:Hp}:∀{G:List Dv}{Z:List V},p8 K U H G Z->vy K U H (G.map some) (Z.map some)
 |_,_,.nil=>.nil|_,_,.cons h t=>.has h (vy.ap8 t)
def gn{r:Res α}(h:r.bind f=.ok b M):∃a Z,r=.ok a Z/\f a Z=.ok b M:=by
 cases r with
 |ok a Z=>exact⟨a,Z,rfl,h⟩|bad=>cases h
def xq(h:Res.u5 o M=.ok a Z):o=some a/\Z=M:=by
 cases o with
 |none=>cases h|some x=>cases h;exact⟨rfl,rfl⟩
def PE.weak(h:PE X e t)(w:∀G H Q,t' G H Q->t G H Q):PE X e t':=λZ s G H Q I q=>h Z s G H Q I (w G H Q q)
def PT.weak(h:PT X e t)(w:∀G H Q,t' G H Q->t G H Q):PT X e t':=λZ s G H Q I q=>h Z s G H Q I (w G H Q q)
def PA.weak(h:PA X U t)(w:∀G H Q,t' G H Q->t G H Q):PA X U t':=λpos Z s G H Q I q=>h pos Z s G H Q I (w G H Q q)
def PS.weak(h:PS X e t)(w:∀D G H,t' D G H->t D G H):PS X e t':=λZ s G H D I q=>h Z s G H D I (w D G H q)
def Sg.weak(h:Sg X e t)(w:∀D G H,t' D G H->t D G H):Sg X e t':=λZ s G H D I q=>h Z s G H D I (w D G H q)
def Dy.weak(h:Dy X f r)(w:∀x y H Q,r' x y H Q->r x y H Q):Dy X f r':=λZ s U H x y v u Q I G R q=>h Z s U H x y v u Q I G R (w x y H Q q)
section
variable(nm:Nm)(W:Hh)(K:Fg)
def tE(e:Ex):TE:=fun σ H Q=>∃U R M d M',lq nm K U H M/\vy K U H R σ/\e.den W R M=.ok d M'/\∀Z G v,Le U H Z G->lq nm K Z G M'->Rep K Z G d v->Q v G
def tQ(e:Ex):TT:=fun σ H Q=>∃U R M b M',lq nm K U H M/\vy K U H R σ/\e.den W R M=.ok (.bl b) M'/\∀Z G,Le U H Z G->lq nm K Z G M'->Q b G
def Yd(es:Ed):TA:=fun σ H Q=>∃U ρ M R M',lq nm K U H M/\vy K U H ρ σ/\es.den W ρ M=.ok R M'/\∀Z G vs,Le U H Z G->lq nm K Z G M'->p8 K Z G R vs->Q vs G
def Xe(D:Ends)(ι:Io)(H:Hp)(fl:MW.Flow)(R:En)(M:dh):Prop :=
 ∀Z U G,Le ι H Z U->lq nm K Z U M->vy K Z U R G ->
  match fl with
  |.next=>D.nx G U|.brk=>D.bk G U|.cont=>D.ct G U|.ret d=>∀v,Rep K Z U d v->D.rt v U
def tS(st:Cz):TS:=λD σ H=>∃G U M R Z M',lq nm K G H M/\vy K G H U σ/\st.den W U M=.ok (R,Z) M'/\Xe nm K D G H R Z M'
def tSs(st:p7):TS:=λD σ H=>∃G U M R Z M',lq nm K G H M/\vy K G H U σ/\st.den W U M=.ok (R,Z) M'/\Xe nm K D G H R Z M'
end
def PE.of(h:PE X a t)(w:∀σ H Q G U M d M',lq nm X.K G H M->vy X.K G H U σ->e'.den W U M=.ok d M'->(∀Z H' v,Le G H Z H'->lq nm X.K Z H' M'->Rep X.K Z H' d v->Q v H')->t σ H Q):PE X a (tE nm W X.K e'):=PE.weak h fun σ H Q z_=>by obtain⟨G,U,M,d,M',S,R,e,q⟩:=z_;exact w σ H Q G U M d M' S R e q
def PT.of(h:PT X a t)(w:∀σ H Q G U M b M',lq nm X.K G H M->vy X.K G H U σ->e'.den W U M=.ok (.bl b) M'->(∀Z H',Le G H Z H'->lq nm X.K Z H' M'->Q b H')->t σ H Q):PT X a (tQ nm W X.K e'):=PT.weak h fun σ H Q z_=>by obtain⟨G,U,M,d,M',S,R,e,q⟩:=z_;exact w σ H Q G U M d M' S R e q
def PA.of(h:PA X es t)(w:∀U H Q G ρ M ds M',lq nm X.K G H M->vy X.K G H ρ U->qq.den W ρ M=.ok ds M'->(∀Z H' vs,Le G H Z H'->lq nm X.K Z H' M'->p8 X.K Z H' ds vs->Q vs H')->t U H Q):PA X es (Yd nm W X.K qq):=PA.weak h λU H Q z_=>by obtain⟨G,ρ,M,d,M',S,R,e,q⟩:=z_;exact w U H Q G ρ M d M' S R e q
def PS.of(h:PS X st t)(w:∀D U H G ρ M fl Z M',lq nm X.K G H M->vy X.K G H ρ U->s'.den W ρ M=.ok (fl,Z) M'->Xe nm X.K D G H fl Z M'->t D U H):PS X st (tS nm W X.K s'):=PS.weak h λD U H z_=>by obtain⟨G,ρ,M,fl,Z,M',S,R,e,q⟩:=z_;exact w D U H G ρ M fl Z M' S R e q
def Sg.of(h:Sg X st t)(w:∀D U H G ρ M fl Z M',lq nm X.K G H M->vy X.K G H ρ U->s'.den W ρ M=.ok (fl,Z) M'->Xe nm X.K D G H fl Z M'->t D U H):Sg X st (tSs nm W X.K s'):=Sg.weak h λD U H z_=>by obtain⟨G,ρ,M,fl,Z,M',S,R,e,q⟩:=z_;exact w D U H G ρ M fl Z M' S R e q
def one{X:Cx}{M1:dh}(S:lq nm X.K ι H M)(R:vy X.K ι H ρ σ)(ha:a'.den W ρ M=.ok x M1)(h:∀Z U v,Le ι H Z U->lq nm X.K Z U M1->vy X.K Z U ρ σ->Rep X.K Z U x v->G v U):tE nm W X.K a' σ H G :=
 ⟨ι,ρ,M,x,M1,S,R,ha,λqq H' v le S' r=>h qq H' v le S' (R.mono le) r⟩
theorem two{X:Cx}{M1 M2:dh}{G:V->V->Hp->Prop}(S:lq nm X.K ι H M)(R:vy X.K ι H U σ)(ha:a'.den W U M=.ok x M1)(hb:b'.den W U M1=.ok y M2)(h:∀Z H2 v u,Le ι H Z H2->lq nm X.K Z H2 M2->vy X.K Z H2 U σ->Rep X.K Z H2 x v->Rep X.K Z H2 y u->G v u H2) :
 tE nm W X.K a' σ H λv H1=>tE nm W X.K b' σ H1 λu H2=>G v u H2 :=
 one S R ha λqq H1 v V6 S1 R1 r1=>one S1 R1 hb λZ H2 u yx S2 R2 r2=>h Z H2 v u (V6.trans yx) S2 R2 (r1.mono yx) r2
set_option tactic.hygienic true in
def a93(C:X.N[i]?=some n)(U:Vis X.env.scope n)(Y:(n==("__debug__" : Str))=false)(Z:(n==("__classdict__" : Str))=false):PE X (.Name n pos) (tE nm W X.K (.var i)) :=
 PE.of (a1p C U Y Z) λy H Q L u M d M' S R e q=>by
  rw[MW.aic] at e;split at e
  .rename_i d' Y
   cases e;obtain⟨v,J,G⟩:=R.get Y;exact⟨v,J,q L H v (Le.refl _ _) S G⟩
  .cases e
def a94:PE X (.Constant (.int i) j pos) (tE nm W X.K (.cst (.int i))) :=
 PE.of a1q λU H Q Z G M d M' S R e q=>by rw[MW.aal] at e;cases e;exact q Z H _ (Le.refl _ _) S (.int i)
def bgs:PE X (.Constant (.bool i) j pos) (tE nm W X.K (.cst (.bl i))) :=
 PE.of a8r λU H Q Z G M d M' S R e q=>by rw[MW.aal] at e;cases e;exact q Z H _ (Le.refl _ _) S (.bl i)
def a3k(U:Gl X n)(Z:X.mg n=some (.int i t))(G:(n==("__debug__" : Str))=false):PE X (.Name n pos) (tE nm W X.K (.cst (.int i))) :=
 PE.of (avm (v:=.int i) U Z ⟨t,rfl⟩ G) fun σ H Q ι ρ M d M' S R e q=>by rw[MW.aal] at e;cases e;exact q ι H _ (Le.refl _ _) S (.int i)
def rOp(R:Nm)(K:Fg)(f:Dv->Dv->dh->Res Dv):R2:=λv u H Q=>∃U M x y d M',lq R K U H M/\Rep K U H x v/\Rep K U H y u/\f x y M=.ok d M' /\
 ∀Z G w,Le U H Z G->lq R K Z G M'->Rep K Z G d w->Q w G
def Dy.of(h:Dy X f r)(w:∀v u H Q G M x y d M',lq nm X.K G H M->Rep X.K G H x v->Rep X.K G H y u->g x y M=.ok d M'->(∀Z U w,Le G H Z U->lq nm X.K Z U M'->Rep X.K Z U d w->Q w U)->r v u H Q):Dy X f (rOp nm X.K g) :=
 Dy.weak h λv u H Q z_=>by obtain⟨G,M,x,y,d,M',S,rv,R,e,q⟩:=z_;exact w v u H Q G M x y d M' S rv R e q
def a95(ho:Dy X (binaryOp op) (rOp nm X.K (MW.Hk G)))(ha:PE X a (tE nm W X.K a'))(hb:PE X b (tE nm W X.K b')):PE X (.BinOp a op b pos) (tE nm W X.K (.bin G a' b')) :=
 PE.of (a87 ho ha hb) fun σ H Q ι ρ M d M' S R e q=>by rw[MW.aun] at e;obtain⟨x,M1,e1,e⟩:=gn e;obtain⟨y,M2,e2,e⟩:=gn e;exact two S R e1 e2 λU H2 v u le S2 _ rv ru=>⟨U,M2,x,y,d,M',S2,rv,ru,e,λZ H' w Ye S' r=>q Z H' w (le.trans Ye) S' r⟩
def a96:Dy X (binaryOp .Sub) (rOp nm X.K (MW.Hk .sub)) :=
 Dy.of a2m λv u H Q R M x y d M' S U G e q=>by obtain⟨i,j,rfl,rfl,Z⟩:=MW.agf e (by intro z;cases z);cases U;cases G;cases Z;exact⟨_,_,rfl,rfl,q R H _ (Le.refl _ _) S (.int _)⟩
def awe{g:Int->Int->Int}{P:Int->Int->Prop}[∀i j,Decidable (P i j)](h:Dy X (binaryOp op) r)(hb:∀x y M,MW.Hk G x y M=MW.ii x y (λi j=>if P i j then .ok (.int (g i j)) M else .bad) .bad)(w:∀i j H Q,P i j->Q (.int (g i j)) H->r (.int i) (.int j) H Q):Dy X (binaryOp op) (rOp nm X.K (MW.Hk G)) :=
 Dy.of h λv u H Q ι M x y d M' S rv R e q=>by
  rw[hb] at e;obtain⟨i,j,rfl,rfl,Z⟩:=MW.agf e (by intro z;cases z)
  by_cases U:P i j
  .rw[dg U] at Z
   cases rv;cases R;cases Z;exact w i j H Q U (q ι H _ (Le.refl _ _) S (.int _))
  .rw[bx U] at Z;cases Z
def a97:Dy X (binaryOp .Mod) (rOp nm X.K (MW.Hk .mod)):=awe a2o (λ_ _ _=>rfl) λi j H Q h q=>⟨_,_,rfl,rfl,h,q⟩
def a3l:Dy X (binaryOp .FloorDiv) (rOp nm X.K (MW.Hk .fdiv)):=awe avt (λ_ _ _=>rfl) λi j H Q h q=>⟨_,_,rfl,rfl,h,q⟩
def a98:Dy X (binaryOp .Pow) (rOp nm X.K (MW.Hk .pow)):=awe a2p (λ_ _ _=>rfl) λi j H Q h q=>⟨_,_,rfl,rfl,⟨h.1,by omega,h.2.2⟩,q⟩
set_option tactic.hygienic true in
def um{X:Cx}(S:lq nm X.K Z H M)(r:Rep X.K Z H d v)(h:MW.du M d=some ds):∃p vs,v=.ref p/\H p=some (.lst vs)/\p8 X.K Z H ds vs:=by
 cases r with
 |vl e n r=>simp[MW.du] at h;subst h;exact⟨_,_,rfl,e,r⟩
 |ref e =>
  rename_i n p;simp only[MW.du] at h;split at h<;>simp at h;rename_i J Y;subst h;obtain⟨vs,U,G⟩:=S.obj n _ p Y e;exact⟨p,vs,rfl,U,G⟩
 |_=>simp[MW.du] at h
def Ky{X:Cx}(S:lq nm X.K R H M)(r:Rep X.K R H d v)(h:MW.Al M d=some ds):∃p vs,v=.ref p/\(H p=some (.lst vs)\/H p=some (.tup vs))/\p8 X.K R H ds vs:=by
 cases r with
 |tup e r=>simp[MW.Al] at h;subst h;exact⟨_,_,rfl,.inr e,r⟩
 |vl e n r =>
  obtain⟨p,vs,Z,G,U⟩:=um S (.vl e n r) (show MW.du M _=_ from h);exact⟨p,vs,Z,.inl G,U⟩
 |ref e =>
  obtain⟨p,vs,Z,G,U⟩:=um S (.ref e) (show MW.du M _=_ from h);exact⟨p,vs,Z,.inl G,U⟩
 |_=>simp[MW.Al,MW.du] at h
def abg{X:Cx}(S:lq nm X.K Z H M)(U:H p=none)(r:p8 X.K Z H ds G):lq nm X.K Z (upd H p (.lst G)) M/\Le Z H Z (upd H p (.lst G))/\Rep X.K Z (upd H p (.lst G)) (.vl ds) (.ref p):=by obtain⟨R,le⟩:=S.laid U (.lst G);exact⟨R,le,.vl xm (S.fresh U) (r.mono le)⟩
def Ss{X:Cx}(S:lq nm X.K Z H M)(R:H p=none)(r:p8 X.K Z H ds G):lq nm X.K Z (upd H p (.tup G)) M/\Le Z H Z (upd H p (.tup G))/\Rep X.K Z (upd H p (.tup G)) (.tup ds) (.ref p):=by obtain⟨U,le⟩:=S.laid R (.tup G);exact⟨U,le,.tup xm (r.mono le)⟩
def abh{X:Cx}(S:lq nm X.K Z H M)(U:H p=none)(r:p8 X.K Z H ds G):lq nm X.K (Z.add p) (upd H p (.lst G)) (M++[.lst ds])/\Le Z H (Z.add p) (upd H p (.lst G))/\Rep X.K (Z.add p) (upd H p (.lst G)) (.ref M.length) (.ref p):=by
 obtain⟨R,le⟩:=S.new (H':=upd H p (.lst G)) (o:=.lst ds) U (λa u e=>by rw[m5 (m9 e U)];exact e) λle=>⟨G,xm,r.mono le⟩
 exact⟨R,le,.ref (by show(Z.l++[p])[M.length]?=some p;rw[<- S.len];simp)⟩
def ad5:(100000:Nat)<=sizeLine:=by decide
set_option tactic.hygienic true in
def awf(h:MW.Hk .add x y M=.ok d M'):(∃i j,x=.int i/\y=.int j/\d=.int (i+j)/\M'=M) \/
 ∃Z Y,MW.du M x=some Z/\MW.du M y=some Y/\Z.length+Y.length<=100000/\d=.vl (Z++Y)/\M'=M:=by
 have h:MW.aib x y M=.ok d M':=h;unfold MW.aib at h;split at h<;>try cases h
 .exact .inl ⟨_,_,rfl,rfl,rfl,rfl⟩
 .split at h
  .split at h<;>cases h
   rename_i U G J;exact .inr ⟨_,_,U,G,J,rfl,rfl⟩
  .cases h
def a99:Dy X (binaryOp .Mult) (rOp nm X.K (MW.Hk .mul)):=awe a2n (λ_ _ _=>rfl) λi j H Q h q=>⟨_,_,rfl,rfl,h,q⟩
def baa:Dy X (binaryOp .Add) (rOp nm X.K (MW.Hk .add)) :=
 Dy.of (a2l.or a3h) λv u H Q ι M x y d M' S rv ru e q=>by
  have Z:∀G U,MW.du M x=some G->MW.du M y=some U->G.length+U.length<=100000->d=.vl (G++U)->M'=M->a9x v u H Q:=λG U h1 h2 hl hd hm=>by
   subst hd hm;obtain⟨p,vs,rfl,e1,r1⟩:=um S rv h1;obtain⟨p2,qq,rfl,e2,r2⟩:=um S ru h2;refine⟨p,p2,vs,qq,rfl,rfl,e1,e2,?_,λp3 R=>?_⟩
   .rw[<- r1.length,<- r2.length];exact iu hl ad5
   .obtain⟨a,b,c⟩:=abg S R (r1.append r2)
    exact q ι _ _ b a c
  rcases awf e with⟨i,j,rfl,rfl,rfl,rfl⟩|⟨G,U,h1,h2,hl,R,h4⟩
  .cases rv;cases ru
   exact .inl ⟨_,_,rfl,rfl,q ι H _ (Le.refl _ _) S (.int _)⟩
  .exact .inr (Z _ _ h1 h2 hl R h4)
def awg{t:TE}(h:PT X a (λZ H Q=>t Z H λx H1=>∃c,x=.bl c/\Q c H1))(w:∀Z H Q,tE nm W X.K a' Z H Q->t Z H Q):PT X a (tQ nm W X.K a') :=
 PT.of h λZ H Q ι U M b M' S R e q=>w Z H _ ⟨ι,U,M,_,M',S,R,e,λG H' v le S' r=>by cases r;exact⟨b,rfl,q G H' le S'⟩⟩
def bac(h:PE X a (tE nm W X.K G))(U:∀Z,isTrue a X.env Z=(do let v <- Z;standAt a.pos;holding [v] (truthy v))):PT X a (tQ nm W X.K G) :=
 awg (a1t h U) λ_ _ _ q=>q
def Yg(G:Nm)(K:Fg)(U:Cp):R2:=λv u H Q=>∃Z M x y b,lq G K Z H M/\Rep K Z H x v/\Rep K Z H y u/\MW.Nb U x y M=some b/\Q (.bl b) H
def ad6{X:Cx}:∀G H Q,tE nm W X.K (.cmp U a' b') G H Q->tOp (Yg nm X.K U) (tE nm W X.K a') (tE nm W X.K b') G H Q:=λG H Q hh=>by obtain⟨ι,ρ,M,d,M',S,R,e,q⟩:=hh;rw[MW.aup] at e;obtain⟨x,M1,e1,e⟩:=gn e;obtain⟨y,M2,e2,e⟩:=gn e;obtain⟨e,rfl⟩:=xq e;obtain⟨b,e3,rfl⟩:=dq.mp e;exact two S R e1 e2 λZ H2 v u le S2 _ rv ru=>⟨Z,M',x,y,b,S2,rv,ru,e3,q Z H2 _ le S2 (.bl b)⟩
def bae(G:Dy X (compareOp op) (Yg nm X.K Z))(U:PE X a (tE nm W X.K a'))(hb:PE X b (tE nm W X.K b'))(R:behindInMarks op b=false):PE X (.Compare a [op] [b] pos) (tE nm W X.K (.cmp Z a' b')) :=
 PE.weak (avu G U hb R) ad6
def baf(R:Dy X (compareOp op) (Yg nm X.K Z))(ha:PE X a (tE nm W X.K U))(hb:PE X b (tE nm W X.K G))(hm:behindInMarks op b=false):PT X (.Compare a [op] [b] pos) (tQ nm W X.K (.cmp Z U G)) :=
 awg (t:=tOp (Yg nm X.K Z) (tE nm W X.K U) (tE nm W X.K G)) (avv R ha hb hm) ad6
def Xf{X:Cx}:∀σ H Q,tE nm W X.K (.chain op1 op2 a' b' c') σ H Q->aa9 (Yg nm X.K op1) (Yg nm X.K op2) (tE nm W X.K a') (tE nm W X.K b') (tE nm W X.K c') σ H Q:=fun σ H Q hh=>by
 obtain⟨ι,ρ,M,d,M',S,R,e,q⟩:=hh;rw[MW.aky] at e;obtain⟨x,M1,e1,e⟩:=gn e;obtain⟨y,M2,e2,e⟩:=gn e;obtain⟨k,Z,e3,e⟩:=gn e;obtain⟨e3,rfl⟩:=xq e3;refine two S R e1 e2 λU H2 v u le S2 R2 rv ru=>⟨U,Z,x,y,k,S2,rv,ru,e3,k,rfl,?_⟩
 cases k with
 |false =>
  have e:Res.ok (MW.D.bl false) Z=.ok d M':=e;cases e;exact q U H2 _ le S2 (.bl false)
 |true =>
  have e:((c'.den W ρ Z).bind λz M3=>Res.u5 ((MW.Nb op2 y z M3).map MW.D.bl) M3)=.ok d M':=e;obtain⟨z,M3,e4,e⟩:=gn e;obtain⟨e,rfl⟩:=xq e;obtain⟨b,e5,rfl⟩:=dq.mp e;show tE nm W X.K c' σ H2 _;exact one S2 R2 e4 λG H3 w Zq S3 _ rw=>⟨G,M',y,z,b,S3,ru.mono Zq,rw,e5,q G H3 _ (le.trans Zq) S3 (.bl b)⟩
def awh(h1:Dy X (compareOp G) (Yg nm X.K op1))(U:Dy X (compareOp Z) (Yg nm X.K op2))(ha:PE X a (tE nm W X.K a'))(hb:PE X b (tE nm W X.K b'))(R:PE X c (tE nm W X.K c'))(hm:lastMarks [G,Z] [b,c]=false) :
 PE X (.Compare a [G,Z] [b,c] pos) (tE nm W X.K (.chain op1 op2 a' b' c')):=PE.weak (aph h1 U ha hb R hm) Xf
def awi(h1:Dy X (compareOp G) (Yg nm X.K op1))(h2:Dy X (compareOp Z) (Yg nm X.K op2))(ha:PE X a (tE nm W X.K R))(hb:PE X b (tE nm W X.K U))(hc:PE X c (tE nm W X.K c'))(hm:lastMarks [G,Z] [b,c]=false) :
 PT X (.Compare a [G,Z] [b,c] pos) (tQ nm W X.K (.chain op1 op2 R U c')):=awg (t:=aa9 (Yg nm X.K op1) (Yg nm X.K op2) (tE nm W X.K R) (tE nm W X.K U) (tE nm W X.K c')) (api h1 h2 ha hb hc hm) Xf
def abi(h:Dy X (compareOp op) (rI0 λi j=>.bl (f i j)))(e:∀x y M,MW.Nb Z x y M=MW.acv f x y):Dy X (compareOp op) (Yg nm X.K Z) :=
 Dy.weak h λv u H Q U=>by obtain⟨ι,M,x,y,b,S,rv,ru,G,q⟩:=U;rw[e] at G;obtain⟨i,j,rfl,rfl,R⟩:=MW.agf G (by intro z;cases z);cases rv;cases ru;cases R;exact⟨_,_,rfl,rfl,q⟩
def bgu:Dy X (compareOp .Lt) (Yg nm X.K .lt):=abi a9c λ_ _ _=>rfl
def bgv:Dy X (compareOp .LtE) (Yg nm X.K .le):=abi a9d λ_ _ _=>rfl
def bgw:Dy X (compareOp .Gt) (Yg nm X.K .gt):=abi a9e λ_ _ _=>rfl
def bgx:Dy X (compareOp .GtE) (Yg nm X.K .ge):=abi a9f λ_ _ _=>rfl
set_option tactic.hygienic true in
def azq{Z:Ya}(ha:PE X a (tE nm W X.K u))(hb:PE X (.BoolOp .And (b::Z) pos) (tE nm W X.K L)):PE X (.BoolOp .And (a::b::Z) pos) (tE nm W X.K (.and u L)) :=
 PE.of (a1x ha hb) fun σ H Q ι ρ M d M' S R e q=>by
  rw[MW.aid] at e;obtain⟨x,M1,e1,e⟩:=gn e;refine one S R e1 λY C v le J R1 r=>?_
  cases r<;>try cases e
  rename_i k;refine⟨k,rfl,?_⟩;cases k with
  |false=>cases e;exact q Y C _ le J (.bl false)|true=>exact one J R1 e λG H2 w yx U _ y=>q G H2 w (le.trans yx) U y
set_option tactic.hygienic true in
def bag{Z:Ya}(ha:PE X a (tE nm W X.K u))(hb:PE X (.BoolOp .Or (b::Z) pos) (tE nm W X.K L)):PE X (.BoolOp .Or (a::b::Z) pos) (tE nm W X.K (.or u L)) :=
 PE.of (a8v ha hb) fun σ H Q ι ρ M d M' S R e q=>by
  rw[MW.anv] at e;obtain⟨x,M1,e1,e⟩:=gn e;refine one S R e1 λY C v le J R1 r=>?_
  cases r<;>try cases e
  rename_i k;refine⟨k,rfl,?_⟩;cases k with
  |true=>cases e;exact q Y C _ le J (.bl true)|false=>exact one J R1 e λG H2 w yx U _ y=>q G H2 w (le.trans yx) U y
def bah(U:PE X a (tE nm W X.K a')):PE X (.UnaryOp .Not a pos) (tE nm W X.K (.not a')) :=
 PE.of (a1y U) fun σ H Q ι ρ M d M' S R e q=>by
  rw[MW.aie] at e;obtain⟨x,M1,e1,e⟩:=gn e;refine one S R e1 λZ H1 v le G R1 r=>?_
  cases r<;>try cases e
  exact⟨_,rfl,q Z H1 _ le G (.bl _)⟩
def Ym{X:Cx}{M1:dh}(S:lq nm X.K ι H M)(R:vy X.K ι H ρ σ)(ha:a'.den W ρ M=.ok (.bl k) M1)(h:∀Z U,Le ι H Z U->lq nm X.K Z U M1->vy X.K Z U ρ σ->G k U):tQ nm W X.K a' σ H G :=
 ⟨ι,ρ,M,k,M1,S,R,ha,λqq H' le S'=>h qq H' le S' (R.mono le)⟩
set_option tactic.hygienic true in
def azr{rest:Ya}(ha:PT X a (tQ nm W X.K a'))(hb:PW X (.BoolOp .And (b::rest) pos) (tQ nm W X.K b')):PW X (.BoolOp .And (a::b::rest) pos) (tQ nm W X.K (.and a' b')) :=
 λZ Y s y H Q I ⟨ι,ρ,M,d,M',S,R,e,q⟩=>a1v ha hb Z Y s y H Q I (by
  rw[MW.aid] at e;obtain⟨x,M1,e1,e⟩:=gn e;cases x<;>try cases e
  rename_i k;refine Ym S R e1 λG H1 le U C=>?_
  cases k with
  | false=>cases e;exact q G H1 le U|true=>exact Ym U C e λJ L yx u _=>q J L (le.trans yx) u)
set_option tactic.hygienic true in
def bai{rest:Ya}(ha:PT X a (tQ nm W X.K a'))(hb:PW X (.BoolOp .Or (b::rest) pos) (tQ nm W X.K b')):PW X (.BoolOp .Or (a::b::rest) pos) (tQ nm W X.K (.or a' b')) :=
 λZ Y s y H Q I ⟨ι,ρ,M,d,M',S,R,e,q⟩=>a8s ha hb Z Y s y H Q I (by
  rw[MW.anv] at e;obtain⟨x,M1,e1,e⟩:=gn e;cases x<;>try cases e
  rename_i k;refine Ym S R e1 λG H1 le U C=>?_
  cases k with
  | true=>cases e;exact q G H1 le U|false=>exact Ym U C e λJ L yx u _=>q J L (le.trans yx) u)
def baj(U:PT X a (tQ nm W X.K a')):PT X (.UnaryOp .Not a pos) (tQ nm W X.K (.not a')) :=
 PT.of (a1w U) fun σ H Q ι ρ M d M' S R e q=>by
  rw[MW.aie] at e;obtain⟨x,M1,e1,e⟩:=gn e;cases x<;>try cases e
  exact Ym S R e1 λZ H1 le G R1=>q Z H1 le G
set_option tactic.hygienic true in
def bak(u:PT X c (tQ nm W X.K c'))(ha:PE X a (tE nm W X.K a'))(hb:PE X b (tE nm W X.K b')):PE X (.IfExp c a b pos) (tE nm W X.K (.ite c' a' b')) :=
 PE.of (ao7 u ha hb) fun σ H Q ι ρ M d M' S R e q=>by
  rw[MW.auq] at e;obtain⟨x,M1,e1,e⟩:=gn e;cases x<;>try cases e
  rename_i k;refine Ym S R e1 λy H1 le L C=>?_
  cases k with
  |true=>exact one L C e λZ J w U Y _ G=>q Z J w (le.trans U) Y G
  |false=>exact one L C e λZ J w U Y _ G=>q Z J w (le.trans U) Y G
def Vg:PA X [] (Yd nm W X.K .nil):=PA.of a2v λU H Q Z ρ M G M' S R e q=>by rw[MW.Ni] at e;cases e;exact q Z H _ (Le.refl _ _) S .nil
def Yn{X:Cx}{M1:dh}(S:lq nm X.K ι H M)(R:vy X.K ι H ρ σ)(ha:es'.den W ρ M=.ok ds M1)(h:∀Z U vs,Le ι H Z U->lq nm X.K Z U M1->vy X.K Z U ρ σ->p8 X.K Z U ds vs->G vs U):Yd nm W X.K es' σ H G :=
 ⟨ι,ρ,M,ds,M1,S,R,ha,λqq H' v le S' r=>h qq H' v le S' (R.mono le) r⟩
def O7(ha:PE X a (tE nm W X.K a'))(hr:PA X Z (Yd nm W X.K G))(hs:starEach (a::Z) X.env=(false,eval a X.env)::starEach Z X.env):PA X (a::Z) (Yd nm W X.K (.cons a' G)) :=
 PA.of (avy ha hr hs) fun σ H Q ι ρ M ds M' S R e q=>by rw[MW.Dl] at e;obtain⟨x,M1,e1,e⟩:=gn e;obtain⟨xs,M2,e2,e⟩:=gn e;cases e;exact one S R e1 λqq H1 v le S1 R1 r1=>Yn S1 R1 e2 λU H2 vs yx S2 R2 r2=>q U H2 _ (le.trans yx) S2 (.cons (r1.mono yx) r2)
noncomputable def Ed.len:Ed->Nat
 |.nil=>0|.cons _ r=>Ed.len r+1
theorem Jd{W:Hh}:∀{Z:Ed}{R:En}{M U:dh}{G:List Dv},Z.den W R M=.ok G U->G.length=Ed.len Z
 |.nil,_,_,_,_,e=>by rw[MW.Ni] at e;cases e;rfl
 |.cons _ r,_,_,_,_,e=>by
  rw[MW.Dl] at e;obtain⟨x,U,e1,e⟩:=gn e;obtain⟨xs,M2,e2,e⟩:=gn e;cases e;rw[il,Jd e2];rfl
def bal(h:PA X es (Yd nm W X.K Z))(hl:Ed.len Z<=1000):PE X (.Tuple es k pos) (tE nm W X.K (.tup Z)) :=
 PE.of (a2w h) fun σ H Q ι ρ M d M' S R e q=>by
  rw[MW.aur] at e;obtain⟨ds,M1,U,e⟩:=gn e;cases e;refine Yn S R U λG H1 vs le S1 R1 r=>⟨?_,λp hp=>?_⟩
  .rw[<- r.length,Jd U];exact iu hl (by decide)
  .obtain⟨S2,yx,r2⟩:=Ss S1 hp r
   exact q G _ _ (le.trans yx) S2 r2
def a3n(h:PA X es (Yd nm W X.K Z))(hl:Ed.len Z<=1000):PE X (.List es pos) (tE nm W X.K (.Jl Z)) :=
 PE.of (apm h) fun σ H Q ι ρ M d M' S R e q=>by
  rw[MW.anw] at e;obtain⟨ds,M1,U,e⟩:=gn e;cases e;refine Yn S R U λG H1 vs le S1 R1 r=>⟨?_,λp hp=>?_⟩
  .rw[<- r.length,Jd U];exact iu hl (by decide)
  .obtain⟨S2,yx,r2⟩:=abg S1 hp r
   exact q G _ _ (le.trans yx) S2 r2
def bam(h:PA X es (Yd nm W X.K Z))(hl:Ed.len Z<=1000):PE X (.List es pos) (tE nm W X.K (.lst Z)) :=
 PE.of (apm h) fun σ H Q ι ρ M d M' S R e q=>by
  rw[MW.aus] at e;obtain⟨ds,M1,G,e⟩:=gn e;cases e;refine Yn S R G λU H1 vs le S1 R1 r=>⟨?_,λp hp=>?_⟩
  .rw[<- r.length,Jd G];exact iu hl (by decide)
  .obtain⟨S2,yx,r2⟩:=abh S1 hp r
   exact q _ _ _ (le.trans yx) S2 r2
def ban(U:PE X a (tE nm W X.K a')):PE X (.UnaryOp .USub a pos) (tE nm W X.K (.neg a')) :=
 PE.of (a88 a2q U) fun σ H Q ι ρ M d M' S R e q=>by
  rw[MW.auo] at e;obtain⟨x,M1,e1,e⟩:=gn e;refine one S R e1 λZ H1 v le G R1 r=>?_
  cases r<;>try cases e
  exact⟨_,rfl,q Z H1 _ le G (.int _)⟩
open PyProof.Rows (subscriptTail)
section
variable{κ:Type}[DecidableEq κ]{K:Fg}{ι:Io}{H:Hp}
theorem uw.length{κ Z:Type}{f:κ->Z->Prop}:∀{l:List (κ×Dv)}{G:List (Z×V)},uw K ι H f l G->l.length=G.length:=by intro _ _ h;induction h with|nil=>rfl|cons _ _ _ ih=>rw[il,il,ih]
theorem uw.look{k:κ}:∀{G:List (κ×Dv)}{l:List (κ×V)},uw K ι H (λk U=>k=U) G l->(∀d,MW.Bh G k=some d->∃v,Q4 l k=some v/\Rep K ι H d v)/\(MW.Bh G k=none->Q4 l k=none)
 |_,_,.nil=>⟨λd h=>by simp[MW.Bh] at h,λ_=>rfl⟩
 |_,_,.cons (k:=q) (k':=q') hk h t=>by
  subst hk;obtain⟨a,b⟩:=uw.look (k:=k) t
  by_cases e:q=k
  .refine⟨λd Z=>?_,λZ=>?_⟩
   .simp[MW.Bh,qz,e] at Z
    subst Z;exact⟨_,Sh e,h⟩
   .simp[MW.Bh,qz,e] at Z
  .have z:∀(d:Dv) r,MW.Bh ((q,d)::r) k=MW.Bh r k:=λd r=>by simp[MW.Bh,qz,e]
   rw[z,Sq (by exact e)];exact⟨a,b⟩
theorem uw.any{k:κ}:∀{G:List (κ×Dv)}{l:List (κ×V)},uw K ι H (λk U=>k=U) G l->(G.any λZ=>decide (Z.1=k))=(l.any λZ=>decide (Z.1=k))
 |_,_,.nil=>rfl|_,_,.cons hk h t=>by subst hk;simp only[Bg,uw.any t]
theorem uw.Dd{k:κ}{d:Dv}{v:V}(r:Rep K ι H d v):∀{U:List (κ×Dv)}{l:List (κ×V)},uw K ι H (λk G=>k=G) U l ->
 uw K ι H (λk G=>k=G) (U.map λZ=>if Z.1=k then(Z.1,d) else Z) (l.map λZ=>if Z.1=k then(Z.1,v) else Z)
 |_,_,.nil=>.nil
 |_,_,.cons (k:=q) hk h t=>by
  subst hk;simp only[ig]
  by_cases e:q=k
  .simp only[e,ji];exact .cons rfl r (uw.Dd r t)
  .simp only[e,jk];exact .cons rfl h (uw.Dd r t)
theorem uw.snoc{κ Z:Type}{f:κ->Z->Prop}{k:κ}{G:Z}{d:Dv}{v:V}(U:f k G)(r:Rep K ι H d v):∀{l:List (κ×Dv)}{R:List (Z×V)},uw K ι H f l R->uw K ι H f (l++[(k,d)]) (R++[(G,v)])
 |_,_,.nil=>.cons U r .nil|_,_,.cons q h t=>.cons q h (uw.snoc U r t)
def uw.put{k:κ}(r:Rep K ι H d v)(t:uw K ι H (λk Z=>k=Z) U l):uw K ι H (λk Z=>k=Z) (MW.Du U k d) (putK l k v):=by
 unfold MW.Du putK;rw[t.any (k:=k)]
 by_cases e:(l.any λG=>decide (G.1=k))=true
 .rw[dg e,dg e];exact t.Dd r
 .rw[bx e,bx e];exact t.snoc rfl r
theorem uw.fld{nm:Nm}{f:Nat}:∀{fs:List (Nat×Dv)}{l:List (Str×V)},uw K ι H (λk G=>G=nm.fld k) fs l->(∀d,fs.lookup f=some d->∃v,l.lookup (nm.fld f)=some v/\Rep K ι H d v)/\(fs.lookup f=none->l.lookup (nm.fld f)=none)
 |_,_,.nil=>⟨λd h=>by simp at h,λ_=>rfl⟩
 |_,_,.cons (k:=q) (k':=q') hk h t=>by
  subst hk;obtain⟨a,b⟩:=uw.fld (nm:=nm) (f:=f) t;rw[ph,ph]
  by_cases e:f=q
  .subst e
   simp only[zu];exact⟨λd Z=>by cases Z;exact⟨_,rfl,h⟩,λZ=>by cases Z⟩
  .have R:(f==q)=false:=by simpa using e
   have U:(nm.fld f==nm.fld q)=false:=by
    cases z:nm.fld f==nm.fld q with
    |false=>rfl|true=>exact absurd (nm.inj _ _ (eq_of_beq z)) e
   rw[R,U];exact⟨a,b⟩
theorem uw.Jo{Z:Nm}{f:Nat}{d:Dv}{v:V}(r:Rep K ι H d v):∀{fs:List (Nat×Dv)}{l:List (Str×V)},uw K ι H (λk G=>G=Z.fld k) fs l->uw K ι H (λk G=>G=Z.fld k) (MW.Uy f d fs) (L2.Jo (Z.fld f) v l)
 |_,_,.nil=>.cons rfl r .nil
 |_,_,.cons (k:=q) (k':=q') hk h t=>by
  subst hk;unfold MW.Uy L2.Jo
  by_cases e:q=f
  .subst e
   simp only[ji];exact .cons rfl r t
  .have U:¬Z.fld q=Z.fld f:=λz=>e (Z.inj _ _ z)
   rw[bx e,bx U];exact .cons rfl h (uw.Jo r t)
def abj(r:Rep K ι H d v)(h:MW.Wo d=some k):v=kV k:=by cases r<;>simp[MW.Wo] at h<;>subst h<;>rfl
set_option tactic.hygienic true in
theorem ap9:∀{Z:List Dv}{Y:List V}{G:List Kx},p8 K ι H Z Y->MW.aak Z=some G->Y=G.map kV
 |_,_,_,.nil,h=>by simp[MW.aak] at h;subst h;rfl
 |_,_,_,.cons r t,h=>by
  simp only[MW.aak] at h;split at h
  .rename_i k C U J
   cases h;rw[abj r U,ap9 t J];rfl
  .cases h
def abk(r:Rep K ι H d v)(h:MW.Vo d=some Z):∃b,v=.ref b/\H b=some (.tup (Z.map kV)):=by
 cases r with
 |tup e r=>exact⟨_,rfl,by rw[<- ap9 r h];exact e⟩|_=>simp[MW.Vo] at h
end
def bgy(G:Nm)(K:Fg):R2:=λv u H Q=>∃Z M x y d,lq G K Z H M/\Rep K Z H x v/\Rep K Z H y u/\MW.zg x y M=some d/\∀w,Rep K Z H d w->Q w H
def aqa(hu:X.A.units+1<cLine):IxR X (λx y H Q=>∃a v,x=.ref a/\Q5 H a y (some v)/\Q v H):=by intro Z G U s σ H x y v u Q I R ry h hs;obtain⟨p,z,rfl,g,q⟩:=h;cases R;exact PyProof.Rows.tail_any (adx I g) PySem.F.slot_dict_getitem.lookup (aln hu I g ry λw' s' I' r=>⟨z,H,I',r,q⟩) hs
set_option tactic.hygienic true in
def a3o(hu:X.A.units+1<cLine):IxR X (bgy nm X.K):=by
 intro Y Z G s σ H v u v' u' Q I rv ru ⟨ι,M,x,y,d,S,rx,ry,e,q⟩ hs;have U:∀(p:Addr)(C:List V)(ds:List Dv),v=.ref p->(Gw X.K H p C\/Mw X.K H p C)->p8 X.K ι H ds C->(match y with|.int i=>(MW.Yi ds.length i).bind λj=>ds[j]?|_=>none)=some d ->
  wpAny (model X.prog X.w) X.A (subscriptTail Y Z v' u') (EP X G σ Q) X.xe s:=λp C ds hv hq r e=>by
  subst hv;obtain⟨i,qk⟩:∃i,y=.int i:=by cases y<;>first|exact⟨_,rfl⟩|cases e
  subst qk;cases ry;obtain⟨j,J,e2⟩:=gq.mp e;obtain⟨z,R,L⟩:=r.get e2;have qq:atI C i=some z:=by unfold atI;rw[show ixN C.length i=some j from by rw[<- r.length];exact J];exact R
  rcases hq with hq|hq
  .exact L2.Dc Y Z G s σ H _ _ v' u' Q I rv ru ⟨p,C,i,z,rfl,rfl,hq,qq,q z L⟩ hs
  .exact L2.J6 Y Z G s σ H _ _ v' u' Q I rv ru ⟨p,C,i,z,rfl,rfl,hq,qq,q z L⟩ hs
 cases rx with
 |tup J r1=>exact U _ _ _ rfl (.inr (Mw.of J)) r1 (by cases ry<;>first|exact e|(simp[MW.zg,MW.Al] at e))
 |vl J n1 r1=>exact U _ _ _ rfl (.inl (Gw.of J)) r1 (by cases ry<;>first|exact e|(simp[MW.zg,MW.Al,MW.du] at e))
 |fz J r1=>exact U _ _ _ rfl (.inl J.sq) r1 (by cases ry<;>first|exact e|(simp[MW.zg] at e))
 |ref J =>
  rename_i n p;simp only[MW.zg] at e;split at e
  .rename_i ik hn
   obtain⟨l,R,L⟩:=S.obj n _ p hn J;obtain⟨k,e2,e3⟩:=gq.mp e;obtain⟨z,h3,h4⟩:=(L.look (k:=k)).1 d e3;obtain⟨b,rfl,hb⟩:=abk ry e2;exact aqa hu Y Z G s σ H _ _ v' u' Q I rv ru ⟨p,z,rfl,by rw[<- h3];exact Q5.t R hb,q z h4⟩ hs
  .rename_i ik hn
   obtain⟨l,R,L⟩:=S.obj n _ p hn J;obtain⟨k,e2,e3⟩:=gq.mp e;obtain⟨z,h3,h4⟩:=(L.look (k:=k)).1 d e3;have hy:=abj ry e2;subst hy;exact aqa hu Y Z G s σ H _ _ v' u' Q I rv ru ⟨p,z,rfl,by rw[<- h3];exact Q5.k R,q z h4⟩ hs
  .cases hl:MW.du M (.ref n) with
   |none=>rw[hl] at e;cases e
   |some ds =>
    obtain⟨p',C,hp,R,L⟩:=um S (.ref J) hl;cases hp;rw[hl] at e;exact U _ _ _ rfl (.inl (Gw.of R)) L (by cases ry<;>first|exact e|cases e)
 |_=>simp[MW.zg,MW.Al,MW.du] at e
def bgz(hu:X.A.units+1<cLine)(ha:PE X a (tE nm W X.K a'))(hb:PE X b (tE nm W X.K b'))(U:aba b):PE X (.Subscript a b pos) (tE nm W X.K (.ix a' b')) :=
 PE.of (a9s (a3o (nm:=nm) hu) ha hb U) fun σ H Q ι ρ M d M' S R e q=>by rw[MW.a0w] at e;obtain⟨x,M1,e1,e⟩:=gn e;obtain⟨y,M2,e2,e⟩:=gn e;obtain⟨e,rfl⟩:=xq e;exact two S R e1 e2 λZ H2 v u le G _ rv ru=>⟨Z,M',x,y,d,G,rv,ru,e,λw r=>q Z H2 w le G r⟩
set_option tactic.hygienic true in
def bao(hn:n=nm.fld f)(G:∀c C,nm.cls c=some C->Cls X.K C/\G9 X.K C n)(ha:PE X a (tE nm W X.K a'))(hb:attributeBase a n X.env (eval a X.env)=eval a X.env):PE X (.Attribute a n pos) (tE nm W X.K (.fld a' f)) :=
 PE.of (a2t ha hb) fun σ H Q ι ρ M d M' S R e q=>by
  rw[MW.auu] at e;obtain⟨x,M1,e1,e⟩:=gn e;obtain⟨e,rfl⟩:=xq e;refine one S R e1 λZ H1 v le J R1 r=>?_
  obtain⟨m,Y⟩:∃m,x=.ref m:=by cases x<;>first|exact⟨_,rfl⟩|cases e
  subst Y;obtain⟨p,rfl,hp⟩:∃p,v=.ref p/\Z.l[m]?=some p:=by cases r with|ref z=>exact⟨_,rfl,z⟩
  simp only[MW.Rk] at e;split at e
  .rename_i c fs u
   obtain⟨C,dx,l,L,h2,U⟩:=J.obj m _ p u hp;obtain⟨z,y,h5⟩:=(U.fld (nm:=nm) (f:=f)).1 d e;subst hn;obtain⟨g1,g2⟩:=G c C L;exact⟨p,C,dx,l,z,rfl,h2,g1,g2,y,q Z H1 z le J h5⟩
  .cases e
open MW (Ex Ed OEx Pz Cz p7 Lv Tg Res dh MO Hh Cp Op2 Blt Bm Kx Src)
noncomputable def Uj:Expr->Bool
 |.ListComp ..=>false|.SetComp ..=>false|.DictComp ..=>false|_=>true
def O8(h:Uj e=true)(t:Option Expr)(l:Nat)(Z:Env):swapsWith e t l Z=pure false:=by cases e<;>first|rfl|(cases h)
noncomputable def Hg:Expr->Bool
 |.Set ..=>false|_=>true
def Eu(h:Hg e=true)(Z:Env)(x:Value):foldedSetIterable e Z x=pure x:=by cases e<;>first|rfl|(cases h)
def Vh(h:Hg e=true)(Z:CmpOp):behindInMarks Z e=false:=by cases e<;>first|rfl|(cases h)
noncomputable def azs:Expr->Bool
 |.Tuple ..=>false|_=>true
noncomputable def noStar:Expr->Bool
 |.Starred ..=>false|_=>true
def my(h:noStar e=true)(Z:Ya)(env:Env):starEach (e::Z) env=(false,eval e env)::starEach Z env:=by cases e<;>first|rfl|(cases h)
noncomputable def abl:Expr->Bool
 |.Slice ..=>false|_=>true
def aqb(h:abl e=true):aba e:=by intro o i;cases e<;>first|rfl|(cases h)
noncomputable def Ca:Tg->List Nat
 |.name i=>[i]|.names is=>is
def tGt(nm:Nm)(K:Fg)(t:Tg):TG:=λv R H Q=>∃U ρ M d G,lq nm K U H M/\vy K U H ρ R/\Rep K U H d v/\t.put d ρ=some G/\∀Z,vy K U H G Z->Z.length=R.length->(∀j,j∉Ca t->Z[j]?=R[j]?)->Q Z H
def PG.weak(h:PG X tg t)(w:∀v G H Q,t' v G H Q->t v G H Q):PG X tg t':=λZ s G H v u Q I r q=>h Z s G H v u Q I r (w v G H Q q)
def PG.of(h:PG X tg t)(w:∀v U H Q ι ρ M d G,lq nm X.K ι H M->vy X.K ι H ρ U->Rep X.K ι H d v->tt.put d ρ=some G->(∀Z,vy X.K ι H G Z->Z.length=U.length->(∀j,j∉Ca tt->Z[j]?=U[j]?)->Q Z H)->t v U H Q):PG X tg (tGt nm X.K tt) :=
 PG.weak h λv U H Q z_=>by obtain⟨ι,ρ,M,d,G,S,R,r,e,q⟩:=z_;exact w v U H Q ι ρ M d G S R r e q
def a3p(hN:X.N.Nodup)(U:X.N[i]?=some n)(Z:Loc X.env.scope n)(G:X.fn n=true\/X.env.scope.names.lookup n=some .local):PG X (.Name n pos) (tGt nm X.K (.name i)) :=
 PG.of (aa8 hN U Z G) λv σ H Q ι ρ M d qq S R r e q=>by cases e;exact q _ (R.set r i) (by simp) λj hj=>vf (λz=>hj (by simp[Ca,z]))
noncomputable def Lp:List Nat->List V->St->St
 |i::is,v::vs,σ=>Lp is vs (σ.set i (some v))|_,_,σ=>σ
theorem Xg{Z:Io}{H:Hp}{K:Fg}:∀{is:Y3}{G:List Dv}{vs:List V}{ρ:En}{U:St},vy K Z H ρ U->p8 K Z H G vs->vy K Z H (MW.Qu is G ρ) (Lp is vs U)
 |[],_,_,_,_,R,r=>by cases r<;>exact R|_::_,_,_,_,_,R,.nil=>R|i::is,_,_,_,_,R,.cons h t=>Xg (is:=is) (R.set h i) t
theorem Su:∀{is:Y3}{G:List V}{Z:St}{j:Nat},j∉is->(Lp is G Z)[j]?=Z[j]?
 |[],G,Z,j,_=>by cases G<;>rfl|i::is,[],Z,j,_=>rfl
 |i::is,v::G,Z,j,h=>by
  show(Lp is G (Z.set i (some v)))[j]?=_;rw[Su (λz=>h (bh _ z)),vf (λz=>h (by rw[z];exact cu))]
theorem Vi:∀{is:Y3}{G:List V}{Z:St},(Lp is G Z).length=Z.length
 |[],G,Z=>by cases G<;>rfl|_::_,[],Z=>rfl|i::is,v::G,Z=>by show(Lp is G (Z.set i (some v))).length=_;rw[Vi,List.length_set]
inductive Lq(X:Cx):List Expr->List Nat->Prop
 |nil:Lq X [] []
 |cons {n:Str} {p:Pos} {i:Nat} {ts:Ya} {is:Y3} (hi:X.N[i]?=some n) (hx:Loc X.env.scope n) (hf:X.fn n=true\/X.env.scope.names.lookup n=some .local) (t:Lq X ts is):Lq X (.Name n p::ts) (i::is)
theorem ad7{X:Cx}(hN:X.N.Nodup):∀{ts:Ya}{is:Y3},Lq X ts is->PGs X ts (λG U H Q=>G.length=is.length/\Q (Lp is G U) H)
 |_,_,.nil=>λZ s U H G us Q I r q=>by
  obtain⟨R,h2⟩:=q;have hv:G=[]:=zb.mp R;subst hv;exact avq Z s U H [] us Q I r ⟨rfl,h2⟩
 |_,_,.cons hi hx hf t=>λZ s U H G us Q I r q=>by
  obtain⟨R,h2⟩:=q;cases G with
  |nil=>simp at R|cons v G=>exact apa (aa8 hN hi hx hf) (ad7 hN t) (by rfl) Z s U H (v::G) us Q I r ⟨v,G,rfl,by simpa using R,h2⟩
theorem Gh{X:Cx}{env:Env}:∀{Z:Ya}{is:Y3},Lq X Z is->(assignEach Z env).length=is.length/\(assignEach Z env).findIdx? (·.1)=none
 |_,_,.nil=>⟨rfl,rfl⟩
 |_,_,.cons hi hx hf t=>by
  obtain⟨U,G⟩:=Gh (env:=env) t;refine⟨by simp[assignEach,U],?_⟩;simp[assignEach,List.findIdx?_cons];simpa using G
set_option tactic.hygienic true in
def awj(G:X.calm=true)(L:X.N.Nodup)(h:Lq X U is):PG X (.Tuple U k pos) (tGt nm X.K (.names is)) :=
 PG.of (a2d G (ad7 L h) (Gh h).1 (Gh h).2) λv σ H Q ι u M d C S R r e q=>by
  cases r with
  |tup J Z =>
   simp only[Tg.put] at e;split at e<;>cases e;rename_i Y;exact⟨_,_,rfl,Mw.of J,by rw[<- Z.length];exact Y,by rw[<- Z.length];exact Y,q _ (Xg R Z) Vi λj y=>Su y⟩
  |_=>simp[Tg.put] at e
def aqc(he:PE X a (tE nm W X.K a'))(hg:PG X tg (tGt nm X.K t))(hs:swapsWithSole [tg] a pos.line X.env=pure false)(hw:swappedStores [tg] a X.env=pure none)(h1:(assignEach [tg] X.env).map (·.2)=[assign tg X.env]) :
 PS X (.Assign [tg] a pos) (tS nm W X.K (.asg (.tg t) a')) :=
 PS.of (apb he hg hs hw h1) λD σ H ι ρ M fl U M' S R e q=>by rw[MW.aam] at e;obtain⟨x,M1,e1,e⟩:=gn e;obtain⟨qq,M2,e2,e⟩:=gn e;cases e;rw[MW.aod] at e2;obtain⟨e3,e4⟩:=xq e2;subst e4;exact one S R e1 λZ H1 v le S1 R1 r=>⟨Z,ρ,_,x,U,S1,R1,r,e3,λG R' _ _=>q Z H1 G le S1 R'⟩
def a3q(U:PE X a (tE nm W X.K a'))(hs:swapsWith a none pos.line X.env=pure false):PS X (.Expr a pos) (tS nm W X.K (.expr a')) :=
 PS.of (avp U hs) λD σ H ι ρ M fl qq M' S R e q=>by rw[MW.auw] at e;obtain⟨x,M1,e1,e⟩:=gn e;cases e;exact one S R e1 λZ H1 v le S1 G r=>q Z H1 σ le S1 G
def bap(U:PE X a (tE nm W X.K a')):PS X (.Return (some a) pos) (tS nm W X.K (.ret a')) :=
 PS.of (a2a U) λD σ H ι ρ M fl qq M' S R e q=>by rw[MW.a0y] at e;obtain⟨x,M1,e1,e⟩:=gn e;cases e;exact one S R e1 λZ H1 v le S1 G r=>q Z H1 σ le S1 G v r
def baq:PS X (.Break pos) (tS nm W X.K .brk) :=
 PS.of ao9 λD Z H U ρ M fl G M' S R e q=>by rw[MW.a0z] at e;cases e;exact q U H Z (Le.refl _ _) S R
def a3r:PS X (.Continue pos) (tS nm W X.K .cont) :=
 PS.of adt λD Z H U ρ M fl G M' S R e q=>by rw[MW.auy] at e;cases e;exact q U H Z (Le.refl _ _) S R
def Xe.mono{X:Cx}(le:Le ι H Z H')(q:Xe nm X.K D ι H fl R M):Xe nm X.K D Z H' fl R M:=λU H2 G yx S2 R2=>q U H2 G (le.trans yx) S2 R2
set_option tactic.hygienic true in
def bas(hc:PT X c (tQ nm W X.K c'))(ht:Sg X ts (tSs nm W X.K J))(hf:Sg X fs (tSs nm W X.K G)):PS X (.If c ts fs pos) (tS nm W X.K (.iff c' J G)) :=
 PS.of (a80 hc ht hf) λD σ H ι u M C Y L S R e q=>by
  rw[MW.a0x] at e;obtain⟨x,U,e1,e⟩:=gn e;cases x<;>try cases e
  rename_i k;refine Ym S R e1 λZ H1 le S1 y=>?_
  cases k with
  |true=>exact⟨Z,u,U,C,Y,L,S1,y,e,q.mono le⟩|false=>exact⟨Z,u,U,C,Y,L,S1,y,e,q.mono le⟩
def a3s:Sg X [] (tSs nm W X.K .nil):=Sg.of avo λD Z H U ρ M fl G M' S R e q=>by rw[MW.auz] at e;cases e;exact q U H Z (Le.refl _ _) S R
def awk{G:List Stmt}(h1:PS X st (tS nm W X.K qv))(h2:Sg X G (tSs nm W X.K rest')):Sg X (st::G) (tSs nm W X.K (.cons qv rest')) :=
 Sg.of (ao8 h1 h2) λD σ H ι ρ M fl q0 M' S R e q=>by
  rw[MW.aob] at e;obtain⟨⟨qk,qq⟩,M1,e1,e⟩:=gn e;refine⟨ι,ρ,M,qk,qq,M1,S,R,e1,λZ H1 U le S1 R1=>?_⟩;cases qk with
  |next=>exact⟨Z,qq,M1,fl,q0,M',S1,R1,e,q.mono le⟩|brk=>cases e;exact q Z H1 U le S1 R1|cont=>cases e;exact q Z H1 U le S1 R1|ret d=>cases e;exact q Z H1 U le S1 R1
set_option tactic.hygienic true in
def azt(hp:PassesOwn (model X.prog X.w) X.A X.env X.xe)(hc:PT X c (tQ nm W X.K c'))(hb:Sg X body (tSs nm W X.K Xh)):PS X (.While c body [] pos) (tS nm W X.K (.whl c' Xh)) :=
 PS.of (apc hp hc hb) λD σ H ι ρ M fl q0 M' S R e q=>by
  rw[MW.aan] at e;refine⟨λm L H1=>∃J U M1,Le ι H J H1/\lq nm X.K J H1 M1/\vy X.K J H1 U L/\MW.Gj (c'.den W) (Xh.den W) m U M1=.ok (fl,q0) M',⟨MW.Wq,ι,ρ,M,Le.refl _ _,S,R,e⟩,?_⟩;rintro m L H1 ⟨J,U,M1,V6,S1,R1,Y⟩;cases m with
  |zero=>cases Y
  |succ m =>
   simp only[MW.Gj] at Y;obtain⟨x,M2,e2,Y⟩:=gn Y;cases x<;>try cases Y
   rename_i k;refine Ym S1 R1 e2 λqv H2 yx S2 R2=>?_
   cases k with
   |false=>cases Y;exact q qv H2 L (V6.trans yx) S2 R2
   |true =>
    obtain⟨⟨qq,y⟩,M3,e3,Y⟩:=gn Y;refine⟨λG u=>∃Z qk M4,Le ι H Z u/\lq nm X.K Z u M4/\vy X.K Z u qk G/\MW.Gj (c'.den W) (Xh.den W) m qk M4=.ok (fl,q0) M',λG u h4=>⟨m,qm _,h4⟩,qv,U,M2,qq,y,M3,S2,R2,e3,λZ u G C S4 R4=>?_⟩;cases qq with
    |next=>exact⟨Z,y,M3,(V6.trans yx).trans C,S4,R4,Y⟩|cont=>exact⟨Z,y,M3,(V6.trans yx).trans C,S4,R4,Y⟩|brk=>cases Y;exact q Z u G ((V6.trans yx).trans C) S4 R4|ret d=>cases Y;exact q Z u G ((V6.trans yx).trans C) S4 R4
def aqd(nm:Nm)(K:Fg)(ι:Io)(H:Hp)(s:Src)(J:It):Prop:=∀Z G U,LeX ι H Z G->lq nm K Z G U ->
 (∀i d,i<s.len->s.item i U=some d->J.go i G/\∀v R,J.yld i G v R->Le Z G Z R/\lq nm K Z R U/\Rep K Z R d v)/\(s.fin U=true->J.stop s.len G)
def tI(U:Nm)(W:Hh)(K:Fg)(it:Pz):TI:=fun σ H R=>∃ι ρ M s M',lq U K ι H M/\vy K ι H ρ σ/\it.den W ρ M=.ok s M'/\∀Z G J,Le ι H Z G->lq U K Z G M'->aqd U K Z G s J->R J G
set_option tactic.hygienic true in
def bav(hp:PassesOwn (model X.prog X.w) X.A X.env X.xe)(hc:X.calm=true)(hi:PI X tg iter (tI nm W X.K it))(hg:PG X tg (tGt nm X.K t))(hb:Sg X body (tSs nm W X.K Xh))(hs:Hg iter=true):PS X (.For tg iter body [] pos) (tS nm W X.K (.for_ t it Xh)) :=
 PS.of (a2h hp hc hi hg hb (Eu hs X.env)) λD σ H ι ρ M fl G M' S R e q=>by
  rw[MW.T5] at e;obtain⟨s,M1,e1,e⟩:=gn e;refine⟨ι,ρ,M,s,M1,S,R,e1,λqq H1 J V6 S1 sj=>?_⟩;refine⟨λi m qk H2=>m=s.len-i/\i<=s.len/\∃Y L M2,Le qq H1 Y H2/\lq nm X.K Y H2 M2/\vy X.K Y H2 L qk/\MW.Ce s.fin s.item (λd ρ M=>match t.put d ρ with|some G=>Xh.den W G M|none=>.bad) m i L M2=.ok (fl,G) M',
   ⟨s.len,rfl,iz _,qq,ρ,M1,Le.refl _ _,S1,R.mono V6,e⟩,?_⟩
  rintro i m qk H2 ⟨hm,q6,Y,L,M2,yx,S2,R2,U⟩;obtain⟨go,q1⟩:=sj Y H2 M2 yx.toX S2;cases m with
  |zero =>
   simp only[MW.Ce] at U;split at U<;>cases U;rename_i Qv;have hi:i=s.len:=by lia
   subst hi;exact .inl ⟨q1 Qv,q Y H2 qk (V6.trans yx) S2 R2⟩
  |succ m =>
   simp only[MW.Ce] at U;split at U
   .cases U
   .rename_i d hd
    obtain⟨⟨q2,qv⟩,M3,e3,U⟩:=gn U;obtain⟨g1,g2⟩:=go i d (by omega) hd;refine .inr ⟨g1,λC H4=>∃Z y M4,Le qq H1 Z H4/\lq nm X.K Z H4 M4/\vy X.K Z H4 y C/\MW.Ce s.fin s.item (λd ρ M=>match t.put d ρ with|some G=>Xh.den W G M|none=>.bad) m (i+1) y M4=.ok (fl,G) M',
     λC H4 ⟨Z,y,M4,h4⟩=>⟨m,qm _,by omega,by omega,Z,y,M4,h4⟩,λv H3 yv=>?_⟩
    obtain⟨Zq,S3,r3⟩:=g2 v H3 yv;split at e3
    .rename_i q0 q4
     refine⟨Y,L,M2,d,q0,S3,R2.mono Zq,r3,q4,λq5 R5 _ _=>⟨Y,q0,M2,q2,qv,M3,S3,R5,e3,λZ H4 C q3 S4 R4=>?_⟩⟩;have u:=(yx.trans Zq).trans q3;cases q2 with
     |next=>exact⟨Z,qv,M3,u,S4,R4,U⟩|cont=>exact⟨Z,qv,M3,u,S4,R4,U⟩|brk=>cases U;exact q Z H4 C (V6.trans u) S4 R4|ret d=>cases U;exact q Z H4 C (V6.trans u) S4 R4
    .cases e3
section
variable{nm:Nm}{W:Hh}{X:Cx}{a b c:Expr}{a' b' c':Ex}{pos pos':Pos}{ι:Io}{H:Hp}{σ:St}{ρ:En}{M M1 M2:dh}{x y:Dv}{es:Ya}{es':Ed}{tg iter elt:Expr}
def PI.weak(h:PI X tg iter G)(w:∀σ H R,wi' σ H R->G σ H R):PI X tg iter wi':=λZ s σ H R I q=>h Z s σ H R I (w σ H R q)
def PI.of(h:PI X tg iter wi)(w:∀σ H U ι ρ M s M',lq nm X.K ι H M->vy X.K ι H ρ σ->it.den W ρ M=.ok s M'->(∀Z G J,Le ι H Z G->lq nm X.K Z G M'->aqd nm X.K Z G s J->U J G)->wi σ H U):PI X tg iter (tI nm W X.K it) :=
 PI.weak h fun σ H U z_=>by obtain⟨ι,ρ,M,s,M',S,R,e,q⟩:=z_;exact w σ H U ι ρ M s M' S R e q
def a3t(hl:PE X l tl):PI X tg l (fun σ H R=>tl σ H λx U=>∃a,x=.ref a/\((∃xs,Gw X.K U a xs)/\R (Itl X.K a) U\/(∃xs,Mw X.K U a xs)/\R (Itt X.K a) U)):=by
 intro qq s σ H R I h;refine Bu (hl qq s σ H _ I h) λv Z z_=>?_
 obtain⟨x,U,G,r1,q1⟩:=z_;obtain⟨a,e,⟨⟨xs,hq⟩,q⟩|⟨⟨xs,hq⟩,q⟩⟩:=q1
 .subst e
  cases r1;obtain⟨xf,rv,p,hz⟩:=G.list hq;refine xx p.isList ?_;refine⟨Z.heap.objs.size,[Z.heap.objs.size],_,_,U,rfl,G.kept (t':=Z.toks) λb o e=>au _ e,ald a _,⟨_,bu _ rfl,rfl,rfl⟩,λb hb=>?_,q⟩;have e:b=Z.heap.objs.size:=by simpa using hb
  subst e;exact G.apd (bw _) (G.Av.fresh (bw _))
 .subst e
  cases r1;obtain⟨xf,rv,p,hz⟩:=G.tuple hq;refine wpAny_pyIter_tuple (show Z.heap.IsTuple a xf.toArray from p) ?_;refine⟨Z.heap.objs.size,[Z.heap.objs.size],_,_,U,rfl,G.kept (t':=Z.toks) λb o e=>au _ e,agr a _,⟨_,bu _ rfl,rfl,rfl⟩,λb hb=>?_,q⟩;have e:b=Z.heap.objs.size:=by simpa using hb
  subst e;exact G.apd (bw _) (G.Av.fresh (bw _))
def Zr{p:Addr}{ds:List Dv}{s:Src}(hs:∀Z U M1,LeX ι H Z U->lq nm X.K Z U M1->(∀i d,s.item i M1=some d->∃G v,U p=some (.lst G)/\G[i]?=some v/\Rep X.K Z U d v)/\(s.fin M1=true->∃G,U p=some (.lst G)/\G.length<=s.len)) :
 aqd nm X.K ι H s (Itl X.K p):=λZ U M1 le S1=>by
 obtain⟨a,b⟩:=hs Z U M1 le S1;refine⟨λi d hi hd=>?_,λhf=>?_⟩
 .obtain⟨G,v,h1,R,h3⟩:=a i d hd
  refine⟨⟨G,v,Gw.of h1,R⟩,λu H2 ⟨e,y⟩=>?_⟩;subst e;have:=y G (Gw.of h1);rw[R] at this;cases this;exact⟨Le.refl _ _,S1,h3⟩
 .obtain⟨G,h1,R⟩:=b hf
  exact⟨G,Gw.of h1,R⟩
set_option tactic.hygienic true in
def baw(ha:PE X a (tE nm W X.K a')):PI X tg a (tI nm W X.K (.val a')) :=
 PI.of (a3t ha) fun σ H R' ι ρ M s M' S R e q=>by
  rw[MW.Pj] at e;obtain⟨x,M1,e1,e⟩:=gn e;obtain⟨e,rfl⟩:=xq e;refine one S R e1 λU H1 v le S1 R1 r=>?_
  cases r with
  |@tup p Z J h1 r1 =>
   simp only[MW.srcOf] at e;cases e;refine⟨p,rfl,.inr ⟨⟨J,Mw.of h1⟩,q U H1 _ le S1 λqk H2 M2 G S2=>⟨λi d hi Y=>?_,λ_=>⟨J,Mw.of (G.tup _ _ h1),by rw[<- r1.length];exact bw _⟩⟩⟩⟩;have Y:Z[i]?=some d:=Y;obtain⟨v,L,g2⟩:=(r1.J1 G).get Y;refine⟨⟨J,v,Mw.of (G.tup _ _ h1),L⟩,λu H3 ⟨ee,yy⟩=>?_⟩;subst ee;have:=yy J (Mw.of (G.tup _ _ h1));rw[L] at this;cases this;exact⟨Le.refl _ _,S2,g2⟩
  |@vl p Z J h1 n1 r1 =>
   simp only[MW.srcOf] at e;cases e;refine⟨p,rfl,.inl ⟨⟨J,Gw.of h1⟩,q U H1 _ le S1 (Zr (ds:=Z) λqk H2 M2 G S2=>⟨λi d Y=>?_,λ_=>⟨J,G.lst _ _ n1.1 h1,by rw[<- r1.length];exact bw _⟩⟩)⟩⟩;have Y:Z[i]?=some d:=Y;obtain⟨v,L,g2⟩:=(r1.J1 G).get Y;exact⟨J,v,G.lst _ _ n1.1 h1,L,g2⟩
  |@ref n p h1 =>
   simp only[MW.srcOf] at e;obtain⟨Z,hn,rfl⟩:∃Z,M'[n]?=some (.lst Z)/\s=.live n Z.length:=by
    split at e
    .rename_i Z hn;cases e;exact⟨Z,hn,rfl⟩
    .cases e
   obtain⟨J,L,g2⟩:=S1.obj n _ p hn h1;refine⟨p,rfl,.inl ⟨⟨J,Gw.of L⟩,q U H1 _ le S1 (Zr (ds:=Z) λqk H2 M2 G S2=>⟨λi d Y=>?_,λhf=>?_⟩)⟩⟩
   .simp only[Src.item] at Y
    split at Y
    .rename_i qq Yu
     split at Y
     .obtain⟨C,k1,k2⟩:=S2.obj n _ p Yu (G.get h1)
      obtain⟨v,k3,k4⟩:=k2.get Y;exact⟨C,v,k1,k3,k4⟩
     .cases Y
    .cases Y
   .simp only[Src.fin] at hf
    split at hf
    .rename_i qq Yu
     obtain⟨C,k1,k2⟩:=S2.obj n _ p Yu (G.get h1);refine⟨C,k1,?_⟩;rw[<- k2.length];have:qq.length=Z.length:=by simpa using hf
     rw[this];exact bw _
    .cases hf
  |_=>simp[MW.srcOf] at e
set_option tactic.hygienic true in
def bax(hg:Gl X "range")(C:X.mg "range" = none)(ha:PE X a (tE nm W X.K a'))(Y:noStar a=true):PI X tg (.Call (.Name "range" pr) [a] [] pos) (tI nm W X.K (.Qc a')) :=
 PI.of (ale hg C (O7 ha Vg (my Y _ _)) (my Y _ _)) fun σ H R' ι ρ M s M' S R e q=>by
  rw[MW.Rn] at e;obtain⟨x,M1,e1,e⟩:=gn e;refine Yn (es':=.cons a' .nil) (ds:=[x]) (M1:=M1) S R (by rw[MW.Dl,e1];simp) λG L vs le S1 R1 r=>?_
  obtain⟨i,hx⟩:∃i,x=.int i:=by cases x<;>first|exact⟨_,rfl⟩|cases e
  subst hx;have e:(if i.natAbs<=100000 then Res.ok (Src.con ((List.range i.toNat).map λ(k:Nat)=>MW.D.int (k:Int))) M1 else .bad)=.ok s M':=e;split at e<;>cases e;rename_i hi;cases r with
  |cons r1 r2 =>
   cases r1;cases r2;refine⟨i,rfl,by lia,by omega,q G L _ le S1 λqq H2 M2 yx U=>⟨λj d hj Z=>?_,λ_=>?_⟩⟩
   .have J:j<i.toNat:=by simpa[Src.len] using hj
    have Z:((List.range i.toNat).map λ(k:Nat)=>MW.D.int (k:Int))[j]?=some d:=Z;rw[ie,km J] at Z;have Z:MW.D.int (j:Int)=d:=by simpa using Z
    subst Z;refine⟨J,λu H3 ⟨ee,yy⟩=>?_⟩;subst ee yy;exact⟨Le.refl _ _,U,by rw[Int.zero_add];exact .int _⟩
   .show i.toNat<=_
    simp[Src.len]
def alw(R:vy K ι H ρ σ):vy K ι H (ρ++List.replicate k none) (σ++List.replicate k none):=R.append (vy.ap7 k (by simp))
def aqe{Z:St}(U:σ.length=n)(R:∀i∈Ca t,n<=i)(h:∀j,j∉Ca t->Z[j]?=(σ++List.replicate k none)[j]?):∀(j:Nat) v,(σ++List.replicate k none)[j]?=some (some v)->Z[j]?=some (some v):=λj v e=>by
 by_cases G:j∈Ca t
 .have:=R j G
  rw[jo (a_ (f_ U) this),List.getElem?_replicate] at e;split at e<;>simp at e
 .rw[h j G];exact e
noncomputable def azv(o:Option Dv):List Dv:=match o with|some x=>[x]|none=>[]
set_option tactic.hygienic true in
def ad8(h:MW.De fin item body (k+1) i M=.ok ds J) :
 ∃d o M1 rest,item i M=some d/\body d M=.ok o M1/\MW.De fin item body k (i+1) M1=.ok rest J/\ds=azv o++rest:=by
 simp only[MW.De] at h;split at h
 .cases h
 .rename_i d Z
  obtain⟨o,M1,G,h⟩:=gn h;obtain⟨rest,M2,Y,h⟩:=gn h;cases h;exact⟨d,o,M1,rest,Z,G,Y,by cases o<;>rfl⟩
def p8.snoc(r:p8 K ι H ds Z)(h:Rep K ι H d v):p8 K ι H (ds++[d]) (Z++[v]):=r.append (.cons h .nil)
set_option tactic.hygienic true in
def V7(e:MW.Ai s body M1=.ok ds M2):s.len<=100000/\MW.De s.fin s.item body s.len 0 M1=.ok ds M2:=by
 unfold MW.Ai at e;split at e
 .rename_i Z
  exact⟨Z,e⟩
 .cases e
def keptAs(v:Bool)(Z:List Dv)(M:dh):Res Dv:=if v=true then .ok (.vl Z) M else MW.new (.lst Z) M
def alx(h:(Ex.comp v k t it R).den W ρ M=.ok d M'):∃s M1 Z M2,it.den W ρ M=.ok s M1/\s.len<=100000 /\
 MW.De s.fin s.item (λd M=>match t.put d (ρ++List.replicate k none) with|some G=>(R.den W G M).bind λx M'=>.ok (some x) M'|none=>.bad) s.len 0 M1=.ok Z M2/\keptAs v Z M2=.ok d M':=by
 rw[MW.Nh] at h;obtain⟨s,M1,e1,h⟩:=gn h;obtain⟨Z,M2,U,h⟩:=gn h;exact⟨s,M1,Z,M2,e1,(V7 U).1,(V7 U).2,h⟩
def Io.adopt(ι:Io)(H:Hp)(D:Addr):Tr K (ι.hide D) H (ι.add D) H:=⟨λ_ _ e=>e,λ_ _ e n=>⟨e,λm=>(dw.mp m).elim n.1 λz=>n.2 (by rw[kj.mp z];exact cu),λm=>n.2 (bh _ m)⟩,λ_ _ e=>e,λn a e=>by
 have e:ι.l[n]?=some a:=e;show(ι.l++[D])[n]?=_;rw[dz (ak.mp e).1];exact e⟩
theorem Rep.adopt(r:Rep K (ι.hide D) H d v):Rep K (ι.add D) H d v:=r.tr (ι.adopt H D)
theorem p8.adopt(r:p8 K (ι.hide D) H d v):p8 K (ι.add D) H d v:=r.tr (ι.adopt H D)
theorem lq.adopt(S:lq nm K (ι.hide D) H M)(hd:H D=some (.lst U))(r:p8 K (ι.hide D) H ds U)(G:ι.off D):lq nm K (ι.add D) H (M++[.lst ds]):=by
 refine⟨by have:=S.len;simp only[Io.hide] at this;simp[Io.add,this],?_,λa Z=>?_,λn o a hn Z=>?_⟩
 .exact yr.mpr ⟨S.nd,by simp,by
   intro x R y hy;have:y=D:=by simpa using hy
   subst this;intro e;subst e;exact G.1 R⟩
 .obtain⟨h1,U,h2⟩:=S.del a (bh _ Z)
  exact⟨λm=>(dw.mp m).elim h1 λz=>G.2 (by rw[<- kj.mp z];exact Z),U,h2⟩
 .rcases Cv hn with q|⟨q,rfl⟩
  .rcases Cv Z with z|⟨z,_⟩
   .exact(S.obj n o a q z).tr (ι.adopt H D) rfl
   .exact absurd (MW.vh q) (by rw[z,<- S.len];exact qy _)
  .rcases Cv Z with z|⟨_,rfl⟩
   .exact absurd (ak.mp z).1 (by rw[q,<- S.len];exact qy _)
   .exact⟨U,hd,r.adopt⟩
def aqf(S:lq nm K (ι.hide D) H M)(R:H D=some (.lst vs))(r:p8 K (ι.hide D) H ds vs)(G:ι.off D)(le:Le U H0 ι H)(h0:H0 D=none)(h:keptAs v ds M=.ok d M') :
 ∃Z,Le U H0 Z H/\lq nm K Z H M'/\Rep K Z H d (.ref D):=by
 unfold keptAs at h;split at h
 .cases h
  exact⟨ι,le,S.show,.vl R G r.show⟩
 .cases h
  refine⟨ι.add D,⟨?_,le.del,le.tup,le.Oz,le.lst,le.dom⟩,S.adopt R r G,.ref ?_⟩
  .obtain⟨Y,e,hY⟩:=le.ext
   exact⟨Y++[D],by show ι.l++[D]=_;rw[e,yo],λa ha=>(dw.mp ha).elim (hY a) λz=>by rw[kj.mp z];exact h0⟩
  .show(ι.l++[D])[M.length]?=some D
   rw[<- S.len];simp[Io.hide]
def BodyOk(nm:Nm)(K:Fg)(Z:St)(tc:TT)(te:TE)(R:En)(M:dh)(o:Option Dv)(M':dh):Prop:=∀ι H (G1:V->Hp->Prop) (G0:Hp->Prop),lq nm K ι H M->vy K ι H R Z ->
 (∀G U v,Le ι H G U->lq nm K G U M'->(match o with|some x=>Rep K G U x v->G1 v U|none=>G0 U))->tc Z H λb H3=>if b=true then te Z H3 λv H4=>G1 v H4 else G0 H3
set_option tactic.hygienic true in
def Zt{N:Yf}(hk:N.length-X.N.length=k)(ho:∀i∈Ca t,X.N.length<=i)(z0:σ.length=X.N.length)(S:lq nm X.K ι H M)(R:vy X.K ι H ρ σ)(e1:it.den W ρ M=.ok s M1)(q7:s.len<=100000)(e2:MW.De s.fin s.item body s.len 0 M1=.ok ds M')(ek:keptAs v0 ds M'=.ok d0 M0)(q:∀q4 H' v,Le ι H q4 H'->lq nm X.K q4 H' M0->Rep X.K q4 H' d0 v->Q v H')(hb:∀d M2 o M3,body d M2=.ok o M3->∃qv,t.put d (ρ++List.replicate k none)=some qv/\∀q1,BodyOk nm X.K q1 tc te qv M2 o M3):ad3 (N.length-X.N.length) (tI nm W X.K it) (tGt nm X.K t) tc te σ H Q:=by
 refine⟨ι,ρ,M,s,M1,S,R,e1,λC H1 J V6 S1 sj D hD=>?_⟩;rw[hk];refine⟨λi m H2=>m=s.len-i/\i<=s.len/\∃Z M2 G vs U,LeD D C H1 (Io.hide Z D) H2/\lq nm X.K (Io.hide Z D) H2 M2/\H2 D=some (.lst vs)/\p8 X.K (Io.hide Z D) H2 G vs/\G.length<=i /\
  MW.De s.fin s.item body m i M2=.ok U M'/\ds=G++U,?_,?_⟩
 .exact⟨s.len,rfl,iz _,C,M1,[],[],ds,LeD.start hD _,S1.hide hD,xm,.nil,bw _,e2,rfl⟩
 .rintro i m H2 ⟨hm,z4,Z,M2,G,vs,U,yx,S2,q8,q2,Fp,e3,q0⟩
  have q5:Le C H1 Z H2:=LeD.done yx;have z2:Z.δ=C.δ:=q5.del;have z1:Z.off D:=⟨(S2.del D cu).1,λz=>by rw[z2] at z;exact(S1.fresh hD).2 z⟩;obtain⟨go,zq⟩:=sj (Io.hide Z D) H2 M2 (yx.toX hD) S2;cases m with
  |zero =>
   simp only[MW.De] at e3;split at e3<;>cases e3;rename_i Qv;refine hG λ_ _k=>?_
   have hi:i=s.len:=by lia
   subst hi;rw[Bp] at q0;subst q0;obtain⟨zk,zz,S9,r9⟩:=aqf S2 q8 q2 z1 q5 hD ek;apply _k;exact .inl ⟨zq Qv,q zk H2 _ (V6.trans zz) S9 r9⟩
  |succ m =>
   refine hG λ_ _k=>?_
   obtain⟨d,o,M3,qq,h1,h2,h3,h4⟩:=ad8 e3;obtain⟨g1,g2⟩:=go i d (by lia) h1;apply _k;refine .inr ⟨g1,λv H3 yv=>?_⟩;refine hG λ_ _k=>?_
   obtain⟨Zq,S3,r3⟩:=g2 v H3 yv;obtain⟨qv,z3,zv⟩:=hb d M2 o M3 h2;have R3:vy X.K (Io.hide Z D) H3 ρ σ:=((R.mono V6).J1 (yx.toX hD)).mono Zq;apply _k;refine⟨Io.hide Z D,ρ++List.replicate k none,M2,d,qv,S3,alw R3,r3,z3,λq1 R5 l5 k5=>⟨l5,aqe z0 ho k5,?_⟩⟩;have zw:=Zq.lst D vs (S2.del D cu).1 q8;refine zv q1 (Io.hide Z D) H3 _ _ S3 R5 (λY H6 u qk S6=>by
    have L:=qk.lst D vs (S2.del D cu).1 zw;have q3:LeD D C H1 Y H6:=(yx.go Zq).go qk;have ei:Y=Io.hide ⟨Y.l,Z.δ⟩ D:=by have:=qk.del;obtain⟨l6,z5⟩:=Y;simp only[Io.hide] at this ⊢;rw[this]
    rw[ei] at q3 S6;have q6:p8 X.K (Io.hide ⟨Y.l,Z.δ⟩ D) H6 G vs:=by rw[<- ei];exact(q2.mono Zq).mono qk
    cases o with
    |none =>
     refine⟨m,qm _,by lia,by lia,⟨Y.l,Z.δ⟩,M3,G,vs,qq,q3,S6,L,q6,a_ Fp x_,h3,?_⟩;rw[q0,h4];rfl
    |some x =>
     intro r6;rw[ei] at r6;have Jk:D∈(Io.hide ⟨Y.l,Z.δ⟩ D).δ:=cu;refine⟨vs,m,L,?_,qm _,by lia,by lia,⟨Y.l,Z.δ⟩,M3,G++[x],vs++[u],qq,q3.grow hD L,S6.grow L Jk,xm,(q6.snoc r6).tr (ajd L Jk),by simp;exact Fp,h3,?_⟩
     .rw[<- q2.length]
      exact Nat.lt_of_le_of_lt (iu Fp (iu z4 q7)) (by decide)
     .rw[q0,h4];simp[azv])
set_option tactic.hygienic true in
def Zu{N:Yf}(hk:N.length-X.N.length=k)(ho:∀i∈Ca t,X.N.length<=i):∀σ H Q,σ.length=X.N.length->tE nm W X.K (.comp v0 k t it e') σ H Q ->
 ad3 (N.length-X.N.length) (tI nm W X.K it) (tGt nm X.K t) (λ_ H Q=>Q true H) (tE nm W X.K e') σ H Q:=fun σ H Q J hh=>by
 obtain⟨ι,ρ,M,d,M',S,R,e,q⟩:=hh;obtain⟨s,M1,ds,M2,e1,Z,e2,ek⟩:=alx e;refine Zt hk ho J S R e1 Z e2 ek q λd M2 o M3 Y=>?_
 split at Y
 .rename_i G C
  obtain⟨x,M4,e5,Y⟩:=gn Y;cases Y;refine⟨G,C,λqk qq H5 G1 G0 S5 R5 g=>?_⟩;show if true=true then _ else _
  rw[dg rfl];exact one (X:=X) S5 R5 e5 λU H6 u L S6 R6 r6=>g U H6 u L S6 r6
 .cases Y
def ad9(h:(Ex.Fq v k t it c' e').den W ρ M=.ok d M'):∃s M1 G M2,it.den W ρ M=.ok s M1/\s.len<=100000 /\
 MW.De s.fin s.item (λd M=>match t.put d (ρ++List.replicate k none) with|some Z=>(c'.den W Z M).bind λb M'=>(match b with|.bl true=>(e'.den W Z M').bind λx U=>.ok (some x) U|.bl false=>.ok none M'|_=>.bad)|none=>.bad) s.len 0 M1=.ok G M2/\keptAs v G M2=.ok d M':=by
 rw[MW.Wr] at h;obtain⟨s,M1,e1,h⟩:=gn h;obtain⟨G,M2,R,h⟩:=gn h;exact⟨s,M1,G,M2,e1,(V7 R).1,(V7 R).2,h⟩
set_option tactic.hygienic true in
def Vj{N:Yf}(hk:N.length-X.N.length=k)(ho:∀i∈Ca t,X.N.length<=i):∀σ H Q,σ.length=X.N.length->tE nm W X.K (.Fq v0 k t it c' e') σ H Q ->
 ad3 (N.length-X.N.length) (tI nm W X.K it) (tGt nm X.K t) (tQ nm W X.K c') (tE nm W X.K e') σ H Q:=fun σ H Q L hh=>by
 obtain⟨ι,ρ,M,d,M',S,R,e,q⟩:=hh;obtain⟨s,M1,ds,M2,e1,G,e2,ek⟩:=ad9 e;refine Zt hk ho L S R e1 G e2 ek q λd M2 o M3 Z=>?_
 split at Z
 .rename_i U qk
  obtain⟨x,M4,e5,Z⟩:=gn Z;refine⟨U,qk,λq0 qv H5 G1 G0 S5 R5 g=>?_⟩;split at Z
  .obtain⟨y,M6,e6,Z⟩:=gn Z
   cases Z;refine Ym (X:=X) S5 R5 e5 λJ H6 Y S6 R6=>?_
   rw[dg rfl];exact one (X:=X) S6 R6 e6 λC H7 u qq S7 R7 r7=>g C H7 u (Y.trans qq) S7 r7
  .cases Z
   refine Ym (X:=X) S5 R5 e5 λJ H6 Y S6 R6=>?_
   rw[bx (by simp)];exact g J H6 .non Y S6
  .cases Z
 .cases Z
def PE.aea(h:PE X e t)(w:∀σ H Q,σ.length=X.N.length->t' σ H Q->t σ H Q):PE X e t':=λZ s σ H Q I q=>h Z s σ H Q I (w σ H Q I.len q)
def PS.aea(h:PS X st t)(w:∀D σ H,σ.length=X.N.length->t' D σ H->t D σ H):PS X st t':=λZ s σ H D I q=>h Z s σ H D I (w D σ H I.len q)
def a3w(B:Hi X N scope)(G:X.calm=true)(hi:PI X tg iter (tI nm W X.K it))(hg:∀C Z s H,PG (Mx X N scope C Z s H) tg (tGt nm X.K t))(R:∀C Z s H,PE (Mx X N scope C Z s H) elt (tE nm W X.K e'))(hs:Hg iter=true)(U:N.length-X.N.length=k)(ho:∀i∈Ca t,X.N.length<=i):PE X (.ListComp elt [⟨tg,iter,[],0⟩] scope pos) (tE nm W X.K (.comp v0 k t it e')) :=
 PE.aea (ajb B G hi hg (λ_ _ _ _=>.inl ⟨rfl,rfl⟩) R (Eu hs X.env)) (Zu U ho)
def aqg(B:Hi X N scope)(G:X.calm=true)(hi:PI X tg iter (tI nm W X.K it))(hg:∀C Z s H,PG (Mx X N scope C Z s H) tg (tGt nm X.K t))(hc:∀C Z s H,PT (Mx X N scope C Z s H) c (tQ nm W X.K c'))(R:∀C Z s H,PE (Mx X N scope C Z s H) elt (tE nm W X.K e'))(hs:Hg iter=true)(U:N.length-X.N.length=k)(ho:∀i∈Ca t,X.N.length<=i):PE X (.ListComp elt [⟨tg,iter,[c],0⟩] scope pos) (tE nm W X.K (.Fq v0 k t it c' e')) :=
 PE.aea (ajb B G hi hg (λ_ _ _ _=>.inr ⟨c,rfl,hc _ _ _ _⟩) R (Eu hs X.env)) (Vj U ho)
def aeb(h:∀σ H Q,σ.length=X.N.length->tE nm W X.K e' σ H Q->tt σ H Q):∀D σ H,σ.length=X.N.length->tS nm W X.K (.asg (.tg (.name i)) e') D σ H->a2f tt (ai3 i) D σ H:=λD σ H G hh=>by obtain⟨ι,ρ,M,fl,qk,M',S,R,e,q⟩:=hh;rw[MW.aam] at e;obtain⟨x,M1,e1,e⟩:=gn e;obtain⟨qq,M2,U,e⟩:=gn e;cases e;rw[MW.aod] at U;obtain⟨e3,e4⟩:=xq U;subst e4;cases e3;exact h σ H _ G (one S R e1 λZ H1 v le S1 R1 r=>q Z H1 _ le S1 (R1.set r i))
def aly{y:Str}(B:Hi X N scope)(U:X.calm=true)(hi:PI X tg iter (tI nm W X.K it))(hg:∀C G s H,PG (Mx X N scope C G s H) tg (tGt nm X.K t))(he:∀C G s H,PE (Mx X N scope C G s H) elt (tE nm W X.K e'))(hs:Hg iter=true)(R:N.length-X.N.length=k)(ho:∀i∈Ca t,X.N.length<=i)(hN:X.N.Nodup)(hy:X.N[i]?=some y)(hl:X.env.scope.names.lookup y=some .local)(Z:swapsWith (.ListComp elt [⟨tg,iter,[],0⟩] scope pos) (some (.Name y py)) ap6.line X.env=pure true):PS X (.Assign [.Name y py] (.ListComp elt [⟨tg,iter,[],0⟩] scope pos) ap6) (tS nm W X.K (.asg (.tg (.name i)) (.comp v0 k t it e'))) :=
 PS.aea (ajc B U hi hg (λ_ _ _ _=>.inl ⟨rfl,rfl⟩) he (Eu hs X.env) hN hy hl Z) (aeb (Zu R ho))
def aec{y:Str}(B:Hi X N scope)(U:X.calm=true)(hi:PI X tg iter (tI nm W X.K it))(hg:∀C Z s H,PG (Mx X N scope C Z s H) tg (tGt nm X.K t))(hc:∀C Z s H,PT (Mx X N scope C Z s H) c (tQ nm W X.K c'))(he:∀C Z s H,PE (Mx X N scope C Z s H) elt (tE nm W X.K e'))(hs:Hg iter=true)(R:N.length-X.N.length=k)(ho:∀i∈Ca t,X.N.length<=i)(hN:X.N.Nodup)(hy:X.N[i]?=some y)(hl:X.env.scope.names.lookup y=some .local)(G:swapsWith (.ListComp elt [⟨tg,iter,[c],0⟩] scope pos) (some (.Name y py)) ap6.line X.env=pure true):PS X (.Assign [.Name y py] (.ListComp elt [⟨tg,iter,[c],0⟩] scope pos) ap6) (tS nm W X.K (.asg (.tg (.name i)) (.Fq v0 k t it c' e'))) :=
 PS.aea (ajc B U hi hg (λ_ _ _ _=>.inr ⟨c,rfl,hc _ _ _ _⟩) he (Eu hs X.env) hN hy hl G) (aeb (Vj R ho))
end
def spF(nm:Nm)(W:Hh)(K:Fg)(n f:Nat):Sp:=λvs H Q _=>∃R M U d M',lq nm K R H M/\p8 K R H U vs/\U.length=n/\W.call f U M=.ok d M'/\∀Z G v,Le R H Z G->lq nm K Z G M'->Rep K Z G d v->Q v G
def s_call(F:Ha X.prog X.w X.K X.mg X.base CX0 k fa fd ps (spF nm W X.K n f))(hr:Aj k X.A)(hg:Gl X x)(hm:X.mg x=some (.ref fa))(hk:PySem.W.keepIn X.K (.ref fa)=true)(hb:Binds X.K fd ps [])(Z:Ed.len G=n)(ha:PA X (a::U) (Yd nm W X.K G))(Tn:(x==("__debug__" : Str))=false)(he:starEach (a::U) X.env=(false,eval a X.env)::starEach U X.env)(Jq:(backTo pos (starEach U X.env)).any (·.1)=false) :
 PE X (.Call (.Name x p) (a::U) [] pos) (tE nm W X.K (.call f G)) :=
 PE.of (avz (E:=E0) F hr hg hm hk hb .nil ap3 ha Tn he Jq) fun σ H Q ι ρ M d M' S R e q=>by
  rw[MW.an1] at e;obtain⟨ds,M1,e1,e⟩:=gn e;refine Yn S R e1 λqq H1 vs le S1 R1 r=>?_
  rw[Bp];exact⟨qq,M1,ds,d,M',S1,r,(Jd e1).trans Z,e,λqk H' v Ye S' r'=>q qk H' v (le.trans Ye) S' r'⟩
def a3x(q2:Mk X.K C fa)(F:Ha X.prog X.w X.K X.mg X.base CX0 k fa fd ps (spF nm W X.K (n+1) f))(hr:Aj (k+1) X.A)(hg:Gl X x)(hm:X.mg x=some (.ref C))(hb:Binds X.K fd ps [])(q0:W.cls[ci]?=some cl)(Tu:cl.init=f)(qk:nm.cls ci=some C)(U:Ed.len qq=n)(ha:PA X (a::es) (Yd nm W X.K qq))(Tn:(x==("__debug__" : Str))=false)(he:starEach (a::es) X.env=(false,eval a X.env)::starEach es X.env)(Jq:(backTo pos (starEach es X.env)).any (·.1)=false) :
 PE X (.Call (.Name x p) (a::es) [] pos) (tE nm W X.K (.make ci qq)) :=
 PE.of (av0 (E:=E0) q2 F hr hg hm hb .nil ap3 ha Tn he Jq) fun σ H Q ι ρ M d M' S R e q=>by
  rw[MW.acy] at e;obtain⟨ds,G,e1,e⟩:=gn e;rw[q0] at e;have e:((W.call cl.init (.ref G.length::ds) (G++[.ins ci []])).bind λr M2=>match r with|.non=>.ok (.ref G.length) M2|_=>.bad)=.ok d M':=e;obtain⟨r0,M2,e2,e⟩:=gn e;refine Yn S R e1 λZ H1 vs le S1 R1 r=>λp dx hp q1 Uw=>?_
  rw[Bp];have keep:∀a u,H1 a=some u->upd (upd H1 dx (.own p)) p (.ins C dx []) a=some u:=λa u e=>by rw[m5 (m9 e hp),m5 (m9 e q1)];exact e
  obtain⟨S2,yx⟩:=S1.new (o:=.ins ci []) hp keep λ_=>⟨C,dx,[],qk,xm,.nil⟩
  have rp:Rep X.K (Z.add p) (upd (upd H1 dx (.own p)) p (.ins C dx [])) (.ref G.length) (.ref p):=.ref (by show(Z.l++[p])[G.length]?=some p;rw[<- S1.len];simp);refine⟨Z.add p,G++[.ins ci []],.ref G.length::ds,r0,M2,S2,.cons rp (r.mono yx),by rw[il,Jd e1,U],by rw[<- Tu];exact e2,λqv H' v Ye S' r'=>?_⟩;cases r'<;>try cases e
  exact⟨rfl,q qv H' _ (le.trans (yx.trans Ye)) S' (rp.mono Ye)⟩
theorem aed{G:Nm}{R:Io}{H:Hp}{m:Str}{K:Fg}(Z:∀i,G.fld i≠m):∀{fs:List (Nat×Dv)}{l:List (Str×V)},uw K R H (λk U=>U=G.fld k) fs l->l.lookup m=none
 |_,_,.nil=>rfl
 |_,_,.cons (k:=kk) (k':=kk') hk h t=>by
  subst hk;rw[ph];have z:(m==G.fld kk)=false:=by
   cases z:m==G.fld kk with
   |false=>rfl|true=>exact absurd (eq_of_beq z).symm (Z kk)
  rw[z];exact aed Z t
def a3y:PE X (.Dict [] [] pos) (tE nm W X.K .akx):=PE.of apx fun σ H Q ι ρ M d M' S R e q=>by
 rw[MW.anx] at e;cases e;intro p Z;obtain⟨G,U⟩:=S.new (o:=.dT []) (H':=upd H p (.dT [])) Z (λa u e=>by rw[m5 (m9 e Z)];exact e) λ_=>⟨[],xm,.nil⟩
 exact q _ _ _ U G (.ref (by show(ι.l++[p])[M.length]?=some p;rw[<- S.len];simp))
def a3z:PE X (.Dict [] [] pos) (tE nm W X.K .acr):=PE.of apw fun σ H Q ι ρ M d M' S R e q=>by
 rw[MW.anz] at e;cases e;intro p Z;obtain⟨G,U⟩:=S.new (o:=.dK []) (H':=upd H p (.dK [])) Z (λa u e=>by rw[m5 (m9 e Z)];exact e) λ_=>⟨[],xm,.nil⟩
 exact q _ _ _ U G (.ref (by show(ι.l++[p])[M.length]?=some p;rw[<- S.len];simp))
def bg4(U:Nm)(K:Fg):a2b:=λo i v H Q=>∃Z M x y d R,lq U K Z H M/\Rep K Z H x o/\Rep K Z H y i/\Rep K Z H d v/\MW.setOp x y d M=some R/\∀G,Le Z H Z G->lq U K Z G R->Q G
def Sv(h:n<100000):n<sizeLine:=ir h ad5
set_option tactic.hygienic true in
def awl(hu:X.A.units+1<cLine):a2c X (bg4 nm X.K):=by
 intro J s σ H o i v ov iv u Q I ro ri rv hh;obtain⟨ι,M,x,y,d,M',S,rx,ry,rd,e,q⟩:=hh;obtain⟨j,hx⟩:∃j,x=.ref j:=by cases x<;>first|exact⟨_,rfl⟩|cases e
 subst hx;obtain⟨p,rfl,G⟩:∃p,o=.ref p/\ι.l[j]?=some p:=by cases rx with|ref z=>exact⟨_,rfl,z⟩
 simp only[MW.setOp] at e;split at e
 .rename_i xs Z
  split at e
  .rename_i k
   obtain⟨qq,L,e2⟩:=dq.mp e;subst e2;cases ry;obtain⟨vs,C,Y⟩:=S.obj j _ p Z G;refine set_list J s σ H _ _ v ov iv u Q I ro ri rv ⟨p,vs,k,qq,rfl,rfl,C,by rw[<- Y.length];exact L,?_⟩;obtain⟨U,R⟩:=S.put (u:=.lst (vs.set qq v)) (o:=.lst (xs.set qq d)) Z G λle=>⟨_,xm,(Y.mono le).set (rd.mono le) qq⟩
   exact q _ R U
  .cases e
 .rename_i ik Z
  obtain⟨k,L,e⟩:=gq.mp e;split at e<;>cases e;rename_i hl;obtain⟨l,C,Y⟩:=S.obj j _ p Z G;obtain⟨b,rfl,hb⟩:=abk ry L;cases ro;refine Zk (H':=upd H p (.dT (putK l k v))) (y:=.ref b) (v:=v) hu I (ag3.t C hb (by rw[<- Y.length];exact Sv hl)) ri rv λs' I'=>⟨_,I',?_⟩
  obtain⟨U,R⟩:=S.put (u:=.dT (putK l k v)) (o:=.dT (MW.Du ik k d)) Z G λle=>⟨_,xm,(Y.mono le).put (rd.mono le)⟩
  exact q _ R U
 .rename_i ik Z
  obtain⟨k,L,e⟩:=gq.mp e;split at e<;>cases e;rename_i hl;obtain⟨l,C,Y⟩:=S.obj j _ p Z G;have hy:=abj ry L;subst hy;cases ro;refine Zk (H':=upd H p (.dK (putK l k v))) (y:=kV k) (v:=v) hu I (ag3.k C (by rw[<- Y.length];exact Sv hl)) ri rv λs' I'=>⟨_,I',?_⟩
  obtain⟨U,R⟩:=S.put (u:=.dK (putK l k v)) (o:=.dK (MW.Du ik k d)) Z G λle=>⟨_,xm,(Y.mono le).put (rd.mono le)⟩
  exact q _ R U
 .cases e
def Xi(h:Uj e=true)(t:Expr)(l:Nat)(Z:Env):swapsWithSole [t] e l Z=pure false:=by unfold swapsWithSole;exact O8 h _ _ _
def aqh(e o b:Expr)(p:Pos)(l:Nat)(Z:Env):swapsWithSole [.Subscript o b p] e l Z=pure false:=by cases e<;>rfl
def aqi(hu:X.A.units+1<cLine)(he:PE X a (tE nm W X.K a'))(ho:PE X o (tE nm W X.K o'))(hi:PE X b (tE nm W X.K b'))(ha:∀v,assign (.Subscript o b pos') X.env v=(do
 let U <- holding [v] (eval o X.env)
 let iv <- holding [v,U] (eval b X.env)
 standAt pos'
 holding [v,U,iv] (setItem U iv v)
 release [v,U,iv] [])):PS X (.Assign [.Subscript o b pos'] a pos) (tS nm W X.K (.asg (.sub o' b') a')) :=
 PS.of (apb he (a2e ho hi (awl (nm:=nm) hu) ha) (aqh _ _ _ _ _ _) (by rfl) (by rfl)) λD σ H ι ρ M fl q0 M' S R e q=>by
  rw[MW.aam] at e;obtain⟨x,M1,e1,e⟩:=gn e;obtain⟨qk,M2,Z,e⟩:=gn e;cases e;rw[MW.au0] at Z;obtain⟨y,M3,e3,Z⟩:=gn Z;obtain⟨z,M4,e4,Z⟩:=gn Z;obtain⟨M5,M6,e5,e6⟩:=gn Z;obtain⟨e7,e8⟩:=xq e5;subst e8;cases e6;refine one S R e1 λqq H1 v le S1 R1 r=>?_
  refine one S1 R1 e3 λqv H2 v2 yx S2 R2 r2=>one S2 R2 e4 λG H3 v3 Zq S3 R3 r3=>?_
  exact⟨G,_,y,z,x,_,S3,r2.mono Zq,r3,(r.mono yx).mono Zq,e7,λH' Ye S'=>q G H' σ (((le.trans yx).trans Zq).trans Ye) S' (R3.mono Ye)⟩
set_option tactic.hygienic true in
def aqj(hn:n=nm.fld f)(J:∀c C,nm.cls c=some C->Cls X.K C/\G9 X.K C n)(he:PE X a (tE nm W X.K a'))(ho:PE X o (tE nm W X.K o'))(Jq:Uj a=true) :
 PS X (.Assign [.Attribute o n pos'] a pos) (tS nm W X.K (.asg (.fld o' f) a')) :=
 PS.of (a2u ho he (O8 Jq _ _ _)) λD σ H ι ρ M fl qv M' S R e q=>by
  rw[MW.aam] at e;obtain⟨x,M1,e1,e⟩:=gn e;obtain⟨qk,M2,G,e⟩:=gn e;cases e;rw[MW.au1] at G;obtain⟨y,M3,e3,G⟩:=gn G;obtain⟨M5,M6,e5,e6⟩:=gn G;obtain⟨Z,e8⟩:=xq e5;subst e8;cases e6;refine one S R e1 λqq H1 v le S1 R1 r=>one S1 R1 e3 λY H2 v2 yx S2 R2 r2=>?_
  obtain⟨j,hx⟩:∃j,y=.ref j:=by cases y<;>first|exact⟨_,rfl⟩|cases Z
  subst hx;obtain⟨p,rfl,hp⟩:∃p,v2=.ref p/\Y.l[j]?=some p:=by cases r2 with|ref z=>exact⟨_,rfl,z⟩
  simp only[MW.Rm] at Z;split at Z
  .rename_i c fs hM
   have hl:fs.length<1000:=by
    by_cases z:fs.length<1000
    .exact z
    .rw[bx z] at Z;cases Z
   rw[dg hl] at Z;cases Z;obtain⟨C,U,l,h1,h2,L⟩:=S2.obj j _ p hM hp;subst hn;obtain⟨g1,g2⟩:=J c C h1;refine⟨p,C,U,l,rfl,h2,g1,g2,by rw[<- L.length];exact hl,?_⟩;obtain⟨S3,Zq⟩:=S2.put (u:=.ins C U (Jo (nm.fld f) v l)) (o:=.ins c (MW.Uy f x fs)) hM hp λYe=>⟨C,U,_,h1,xm,(L.mono Ye).Jo ((r.mono yx).mono Ye)⟩
   exact q Y _ σ ((le.trans yx).trans Zq) S3 (R2.mono Zq)
  .cases Z
def Ci.weak(h:Ci X f r)(w:∀G H Q,r' G H Q->r G H Q):Ci X f r':=λZ s R H G us Q I U q=>h Z s R H G us Q I U (w G H Q q)
def rB(R:Nm)(K:Fg)(b:Blt):List V->Hp->VK->Prop:=λvs H Q=>∃U M ds d M',lq R K U H M/\p8 K U H ds vs/\MW.o8 b ds M=.ok d M'/\∀Z G v,Le U H Z G->lq R K Z G M'->Rep K Z G d v->Q v G
def Ci.of(h:Ci X f r)(w:∀vs H Q G M U d M',lq nm X.K G H M->p8 X.K G H U vs->MW.o8 bb U M=.ok d M'->(∀Z R v,Le G H Z R->lq nm X.K Z R M'->Rep X.K Z R d v->Q v R)->r vs H Q):Ci X f (rB nm X.K bb) :=
 Ci.weak h λvs H Q z_=>by obtain⟨G,M,U,d,M',S,r,e,q⟩:=z_;exact w vs H Q G M U d M' S r e q
def aee{X:Cx}:∀U H Q,tE nm W X.K (.blt t qq) U H Q->tCB (rB nm X.K t) (Yd nm W X.K qq) U H Q:=λU H Q hh=>by obtain⟨ι,ρ,M,d,M',S,R,e,q⟩:=hh;rw[MW.Vy] at e;obtain⟨ds,M1,e1,e⟩:=gn e;exact Yn S R e1 λZ H1 vs le S1 R1 r=>⟨Z,M1,ds,d,M',S1,r,e,λG H' v Ye S' r'=>q G H' v (le.trans Ye) S' r'⟩
def ajf{id:String}(hc:Ci X (.builtin id) (rB nm X.K t))(hg:Gl X x)(hm:X.mg x=none)(hv:bootBuiltins x=some (.builtin id))(ha:PA X (a::Z) (Yd nm W X.K G))(U:x≠"__name__")(R:(x==("__debug__" : Str))=false)(he:starEach (a::Z) X.env=(false,eval a X.env)::starEach Z X.env)(Jq:(backTo pos (starEach Z X.env)).any (·.1)=false):PE X (.Call (.Name x p) (a::Z) [] pos) (tE nm W X.K (.blt t G)):=PE.weak (aps hc hg hm hv ha U R he Jq) aee
def aha(hc:Ci X (.type T) (rB nm X.K t))(hg:Gl X x)(hm:X.mg x=none)(hv:bootBuiltins x=some (.type T))(ha:PA X (a::Z) (Yd nm W X.K G))(U:x≠"__name__")(R:(x==("__debug__" : Str))=false)(he:starEach (a::Z) X.env=(false,eval a X.env)::starEach Z X.env)(Jq:(backTo pos (starEach Z X.env)).any (·.1)=false):PE X (.Call (.Name x p) (a::Z) [] pos) (tE nm W X.K (.blt t G)):=PE.weak (alm hc hg hm hv ha U R he Jq) aee
def Ls(r:p8 K G H ds Z)(h:ds=[d]):∃v,Z=[v]/\Rep K G H d v:=by subst h;cases r with|cons h t=>cases t;exact⟨_,rfl,h⟩
def awm:Ci X (.type "tuple") (rB nm X.K .tuple):=Ci.of Yl λvs H Q U M ds d M' S r e q=>by
 cases r with
 |nil=>simp[MW.o8] at e
 |@cons x v _ _ h t =>
  cases t with
  |cons h2 t2=>simp[MW.o8] at e
  |nil =>
   have e:Res.u5 ((MW.Al M x).map MW.D.tup) M=.ok d M':=e;obtain⟨e1,e2⟩:=xq e;subst e2;obtain⟨xs,e3,rfl⟩:=dq.mp e1;obtain⟨p,R,rfl,Z,G⟩:=Ky S h e3;rcases Z with Z|Z
   .refine⟨p,R,rfl,.inl ⟨Gw.of Z,λl hl=>?_⟩⟩
    obtain⟨S2,yx,r2⟩:=Ss S hl G;exact q U _ _ yx S2 r2
   .exact⟨p,R,rfl,.inr ⟨Mw.of Z,q U H _ (Le.refl _ _) S (.tup Z G)⟩⟩
def a4a:Ci X (.type "list") (rB nm X.K .list):=Ci.of abe λvs H Q ι M Z d M' S r e q=>by
 cases r with
 |nil=>simp[MW.o8] at e
 |@cons x v _ _ h t =>
  cases t with
  |cons h2 t2=>simp[MW.o8] at e
  |nil =>
   have e:(match MW.Al M x with|some Z=>MW.new (.lst Z) M|none=>.bad)=Res.ok d M':=e;cases e3:MW.Al M x with
   |none=>rw[e3] at e;cases e
   |some xs =>
    rw[e3] at e;cases e;obtain⟨p,us,rfl,R,ru⟩:=Ky S h e3;refine⟨p,us,rfl,R.imp Gw.of Mw.of,λl G=>?_⟩;obtain⟨U,yx,r2⟩:=abh S G ru;exact q _ _ _ yx U r2
set_option tactic.hygienic true in
def baz:Ci X (.builtin "len") (rB nm X.K .len):=Ci.of abd λvs H Q C M Y d M' S r e q=>by
 cases r with
 |nil=>simp[MW.o8] at e
 |@cons x v _ _ h t =>
  cases t with
  |cons h2 t2=>simp[MW.o8] at e
  |nil =>
   have fin:∀G,(MW.Al M x=some G)->d=.int G.length->M'=M->∃p U,[v]=[V.ref p]/\(Gw X.K H p U\/Mw X.K H p U)/\Q (.int U.length) H:=λG L Z y=>by subst Z y;obtain⟨p,us,rfl,R,ru⟩:=Ky S h L;exact⟨p,us,rfl,R.imp Gw.of Mw.of,by rw[<- ru.length];exact q C H _ (Le.refl _ _) S (.int _)⟩
   cases h with
   |fz Z J =>
    cases e;exact⟨_,_,rfl,.inl Z.sq,by rw[<- J.length];exact q C H _ (Le.refl _ _) S (.int _)⟩
   |@ref n p Z =>
    have e:(match M[n]? with|some (.lst Y)=>Res.ok (MW.D.int Y.length) M|_=>.bad)=Res.ok d M':=e;split at e
    .rename_i Y u
     cases e;exact fin Y (by simp[MW.Al,MW.du,u]) rfl rfl
    .cases e
   |tup Z J=>cases e;exact fin _ rfl rfl rfl|vl Z n1 J=>cases e;exact fin _ rfl rfl rfl|_=>cases e
open MW
noncomputable def Hj(f:Dv->Dv->Option Bool)(Z bs:List Dv)(j:Nat):Bool:=match Z[j]?,bs[j]? with
 |some a,some b=>(f a b).getD false|_,_=>false
set_option tactic.hygienic true in
theorem Je{f:Dv->Dv->Option Bool}:∀{Z bs:List Dv}{r:Bool},MW.Qs f Z bs=some r->(∀(j:Nat) a b,Z[j]?=some a->bs[j]?=some b->∃c,f a b=some c) /\
 r=((List.range (min Z.length bs.length)).all (Hj f Z bs)&&Z.length==bs.length)
 |[],[],r,h=>by cases h;exact⟨λj a b e=>by simp at e,by simp⟩
 |[],b::bs,r,h=>by cases h;exact⟨λj a b e=>by simp at e,by simp⟩
 |a::Z,[],r,h=>by cases h;exact⟨λj a b _ e=>by simp at e,by simp⟩
 |a::Z,b::bs,r,h=>by
  simp only[MW.Qs] at h;split at h
  .rename_i x y J C
   cases h;obtain⟨R,g2⟩:=Je C;refine⟨λj u S G Y=>?_,?_⟩
   .cases j with
    |zero=>simp at G Y;subst G Y;exact⟨x,J⟩|succ j=>exact R j u S (by simpa using G) (by simpa using Y)
   .rw[il,il,Nat.succ_min_succ,List.range_succ_eq_map,List.all_cons,List.all_map]
    have z:Hj f (a::Z) (b::bs) 0=x:=by simp[Hj,J]
    have U:(Hj f (a::Z) (b::bs) ∘ Nat.succ)=Hj f Z bs:=by funext j;simp[Hj]
    rw[z,U,g2];have L:(Z.length+1==bs.length+1)=(Z.length==bs.length):=by
     by_cases q:Z.length=bs.length
     .simp[q]
     .have:¬(Z.length+1=bs.length+1):=by lia
      simp[q,this]
    rw[L,Bool.and_assoc]
  .cases h
set_option tactic.hygienic true in
theorem O9{Z:Io}{H:Hp}{K:Fg}{f:Dv->Dv->Option Bool}(G:∀x y v r,Rep K Z H x v->Rep K Z H y v->f x y=some r->r=true):∀{Y bs:List Dv}{J:List V}{r:Bool},p8 K Z H Y J->p8 K Z H bs J->MW.Qs f Y bs=some r->r=true
 |_,_,_,_,.nil,.nil,h=>by cases h;rfl
 |_,_,_,_,.cons h1 t1,.cons h2 t2,h=>by
  simp only[MW.Qs] at h;split at h
  .rename_i x y C U
   cases h;rw[G _ _ _ _ h1 h2 C,O9 G t1 t2 U];rfl
  .cases h
inductive EqI(M:dh)(f:Dv->Dv->Option Bool):Dv->Dv->Bool->Prop
 |bl (a b:Bool):EqI M f (.bl a) (.bl b) (a==b)
 |int (a b:Int):EqI M f (.int a) (.int b) (decide (a=b))
 |tup {as bs:List Dv} {r:Bool} (h:MW.Qs f as bs=some r):EqI M f (.tup as) (.tup bs) r
 |lst {x y:Dv} {as bs:List Dv} {r:Bool} (h1:MW.du M x=some as) (h2:MW.du M y=some bs) (h:(if as.length=bs.length then MW.Qs f as bs else some false)=some r):EqI M f x y r
set_option tactic.hygienic true in
def abm(h:MW.Jm M (k+1) x y=some r):EqI M (MW.Jm M k) x y r:=by
 unfold MW.Jm at h;split at h
 .cases h;exact .int _ _
 .cases h;exact .bl _ _
 .exact .tup h
 .split at h
  .rename_i Y Z;exact .lst Y Z h
  .cases h
def aef{X:Cx}(S:lq nm X.K Z H M)(U:Rep X.K Z H x v)(ry:Rep X.K Z H y v)(h1:MW.du M x=some ds)(h2:MW.du M y=some R):∃vs,p8 X.K Z H ds vs/\p8 X.K Z H R vs:=by obtain⟨p,vs,rfl,g1,g2⟩:=um S U h1;obtain⟨p',ws,hw,G,g4⟩:=um S ry h2;cases hw;rw[g1] at G;cases G;exact⟨vs,g2,g4⟩
theorem abn{nm:Nm}{U:Io}{H:Hp}{M:dh}{X:Cx}(S:lq nm X.K U H M):∀(k:Nat)(x y:Dv)(v:V)(r:Bool),Rep X.K U H x v->Rep X.K U H y v->MW.Jm M k x y=some r->r=true
 |0,_,_,_,_,_,_,h=>by cases h
 |k+1,x,y,v,r,rx,ry,h=>by
  have ih:=abn S k;cases abm h with
  |bl a b=>cases rx;cases ry;simp|int a b=>cases rx;cases ry;simp
  |tup h=>cases rx with
   |tup e1 G=>cases ry with
    |tup e2 Z=>rw[e1] at e2;cases e2;exact O9 ih G Z h
  |lst h1 h2 R =>
   obtain⟨vs,G,Z⟩:=aef S rx ry h1 h2;rw[dg (G.length.trans Z.length.symm)] at R;exact O9 ih G Z R
def Vals.aeg{j:Nat}(r:Vals G us)(R:G[j]?=some v)(U:us[j]?=some u):RelV v u:=by obtain⟨u',Z,e2⟩:=L2.Vals.get r R;rw[U] at Z;cases Z;exact e2
theorem Q7{U:Io}{H:Hp}{K:Fg}:∀{l:List (List Kx×Dv)}{Z:List (List Key×V)},uw K U H (λk G=>k=G) l Z->Z.map (·.1)=l.map (·.1)
 |_,_,.nil=>rfl|_,_,.cons k h t=>by simp[Q7 t,k]
def ajg(r:KT H l G):G.map (·.1)=l.map (·.1)/\∀x∈G,H x.2.1=some (.tup (x.1.map kV)):=by
 induction r with
 |nil=>exact⟨rfl,by simp⟩
 |@cons p q ps qs hq t ih =>
  refine⟨by simp[ih.1,hq.1],λx Z=>?_⟩;rcases cj.mp Z with rfl|Z
  .rw[<- hq.1];exact hq.2.1
  .exact ih.2 x Z
set_option tactic.hygienic true in
theorem Xj{nm:Nm}{X:Cx}{ι:Io}{H:Hp}{σ:St}{M:dh}{qv:Zp}{s:Shared}(I:Inv X qv σ H s)(S:lq nm X.K ι H M):∀(k:Nat)(A:Around)(x y:Dv)(v u:V)(v' u':Value)(r:Bool),Aj k A->Rep X.K ι H x v->Rep X.K ι H y u->RelV v v'->RelV u u'->MW.Jm M k x y=some r->SeqAt.EqAt A s v' u' r
 |0,_,_,_,_,_,_,_,_,_,_,_,_,_,h=>by cases h
 |k+1,A,x,y,v,u,v',u',r,hr,rx,ry,rv,ru,h=>by
  have ih:=Xj I S k A.in1;have q3:=hr.in1;have elems:∀(Z Y:List Dv)(vs ws:List V)(is G:Zl)(rr:Bool),p8 X.K ι H Z vs->p8 X.K ι H Y ws->Vals vs is->Vals ws G->MW.Qs (MW.Jm M k) Z Y=some rr ->
   ∀j (h1:j<is.toArray.size) (h2:j<G.toArray.size),SeqAt.EqAt A.in1 s is.toArray[j] G.toArray[j] (Hj (MW.Jm M k) Z Y j):=λZ Y vs ws is G rr rd re Uk q0 he j h1 h2=>by
   have l1:j<Z.length:=by rw[rd.length,Uk.length];simpa using h1
   have l2:j<Y.length:=by rw[re.length,q0.length];simpa using h2
   have R:Z[j]?=some Z[j]:=by simp[l1]
   have J:Y[j]?=some Y[j]:=by simp[l2]
   obtain⟨c,hc⟩:=(Je he).1 j _ _ R J;obtain⟨va,a1,a2⟩:=rd.get R;obtain⟨wa,b1,b2⟩:=re.get J;have q1:is[j]?=some is.toArray[j]:=by simp
   have q2:G[j]?=some G.toArray[j]:=by simp
   have:=ih _ _ va wa _ _ c q3 a2 b2 (Vals.aeg Uk a1 q1) (Vals.aeg q0 b1 q2) hc;have z:Hj (MW.Jm M k) Z Y j=c:=by simp[Hj,R,J,hc]
   rw[z];exact this
  have qk:∀(p p2:Addr)(Z Y:List Dv),v=.ref p->u=.ref p2->MW.du M x=some Z->MW.du M y=some Y->(if Z.length=Y.length then MW.Qs (MW.Jm M k) Z Y else some false)=some r->SeqAt.EqAt A s v' u' r:=λp p2 Z Y hv hu h1 h2 C=>by
   subst hv hu;cases rv;cases ru;obtain⟨_,vs,hv,R,J⟩:=um S rx h1;cases hv;obtain⟨_,ws,hw,g3,g4⟩:=um S ry h2;cases hw
   by_cases U:p=p2
   .subst U
    have:r=true:=by rw[R] at g3;cases g3;rw[dg (J.length.trans g4.length.symm)] at C;exact O9 (λx y v r a b c=>abn S k x y v r a b c) J g4 C
    rw[this];exact SeqAt.EqAt.same _
   .refine SeqAt.EqAt.of_refs U ?_
    obtain⟨is,r1,qq,_⟩:=I.list (Gw.of R);obtain⟨G,r2,L,_⟩:=I.list (Gw.of g3)
    by_cases hl:Z.length=Y.length
    .rw[dg hl] at C
     have q4:is.toArray.size=G.toArray.size:=by simp[<- r1.length,<- r2.length,<- J.length,<- g4.length,hl]
     have:=SeqAt.RcAt.lists (e:=Hj (MW.Jm M k) Z Y) qq.isList L.isList q4 hr.W7 (elems Z Y vs ws is G r J g4 r1 r2 C);rw[(Je C).2];have e1:is.toArray.size=min Z.length Y.length:=by simp[<- r1.length,<- J.length,hl]
     rw[e1] at this;simpa[hl] using this
    .rw[bx hl] at C
     cases C;exact SeqAt.RcAt.lists_lengths qq.isList L.isList (by simp[<- r1.length,<- r2.length,<- J.length,<- g4.length,hl]) hr.W7
  cases abm h with
  |bl a b=>cases rx;cases ry;cases rv;cases ru;exact SeqAt.EqAt.bool_bool _ _
  |int a b =>
   cases rx;cases ry;obtain⟨t,rfl⟩:=rv;obtain⟨t2,rfl⟩:=ru;rw[<- Bool.beq_eq_decide_eq];exact SeqAt.EqAt.int_int _ _ _ _
  |@tup Z Y _ h=>cases rx with
   |@tup p _ vs e1 r1=>cases ry with
    |@tup p2 _ ws e2 r2 =>
     cases rv;cases ru
     by_cases U:p=p2
     .subst U
      have:r=true:=by rw[e1] at e2;cases e2;exact O9 (λx y v r a b c=>abn S k x y v r a b c) r1 r2 h
      rw[this];exact SeqAt.EqAt.same _
     .refine SeqAt.EqAt.of_refs U ?_
      obtain⟨is,R,qq,_⟩:=I.tuple (Mw.of e1);obtain⟨G,J,L,_⟩:=I.tuple (Mw.of e2);have:=SeqAt.RcAt.tuples (e:=Hj (MW.Jm M k) Z Y) (show s.heap.IsTuple p is.toArray from qq) (show s.heap.IsTuple p2 G.toArray from L) hr.W7 (elems Z Y vs ws is G r r1 r2 R J h);rw[(Je h).2];have z1:is.toArray.size=Z.length:=by simp[<- R.length,<- r1.length]
      have z2:G.toArray.size=Y.length:=by simp[<- J.length,<- r2.length]
      rw[z1,z2] at this;exact this
  |lst h1 h2 C =>
   obtain⟨p,_,e1,_⟩:=um S rx h1;obtain⟨p2,_,e2,_⟩:=um S ry h2;exact qk p p2 _ _ e1 e2 h1 h2 C
inductive abo(A:Around)(s:Shared):Value->Value->Bool->Prop
 |W4 {p p2:Addr} {is js:U1} (e:Nat->Bool) (h1:s.heap.IsTuple p is) (h2:s.heap.IsTuple p2 js) (he:∀j (h1:j<is.size) (h2:j<js.size),SeqAt.EqAt A.in1 s is[j] js[j] (e j)):abo A s (.ref p) (.ref p2) ((List.range (min is.size js.size)).all e&&is.size==js.size)
 |ba2 {p p2:Addr} {is js:U1} (e:Nat->Bool) (h1:s.heap.IsList p is) (h2:s.heap.IsList p2 js) (hz:is.size=js.size) (he:∀j (h1:j<is.size) (h2:j<js.size),SeqAt.EqAt A.in1 s is[j] js[j] (e j)):abo A s (.ref p) (.ref p2) ((List.range is.size).all e)
 |lens {p p2:Addr} {is js:U1} (h1:s.heap.IsList p is) (h2:s.heap.IsList p2 js) (hz:(is.size != js.size)=true):abo A s (.ref p) (.ref p2) false
def Zv{A:Around}(I:Inv X pins σ H s)(S:lq nm X.K ι H M)(hr:Aj k A.in1)(rd:p8 X.K ι H ds vs)(re:p8 X.K ι H Z ws)(Uk:Vals vs is)(G:Vals ws U)(he:MW.Qs (MW.Jm M k) ds Z=some rr) :
 ∀j (h1:j<is.toArray.size) (h2:j<U.toArray.size),SeqAt.EqAt A.in1 s is.toArray[j] U.toArray[j] (Hj (MW.Jm M k) ds Z j):=λj h1 h2=>by
 have l1:j<ds.length:=by rw[rd.length,Uk.length];simpa using h1
 have l2:j<Z.length:=by rw[re.length,G.length];simpa using h2
 have R:ds[j]?=some ds[j]:=by simp[l1]
 have g2:Z[j]?=some Z[j]:=by simp[l2]
 obtain⟨c,hc⟩:=(Je he).1 j _ _ R g2;obtain⟨va,a1,a2⟩:=rd.get R;obtain⟨wa,b1,b2⟩:=re.get g2;have q1:is[j]?=some is.toArray[j]:=by simp
 have q2:U[j]?=some U.toArray[j]:=by simp
 have:=Xj I S k A.in1 _ _ va wa _ _ c hr a2 b2 (Vals.aeg Uk a1 q1) (Vals.aeg G b1 q2) hc;have z:Hj (MW.Jm M k) ds Z j=c:=by simp[Hj,R,g2,hc]
 rw[z];exact this
def ahb(I:Inv X pins σ H s)(S:lq nm X.K ι H M)(hr:Aj k A.in1)(rx:Rep X.K ι H x v)(ry:Rep X.K ι H y u)(rv:RelV v v')(ru:RelV u u')(h1:MW.du M x=some ds)(h2:MW.du M y=some R)(G:(if ds.length=R.length then MW.Qs (MW.Jm M k) ds R else some false)=some r):abo A s v' u' r:=by
 obtain⟨p,vs,rfl,g1,g2⟩:=um S rx h1;obtain⟨p2,ws,rfl,g3,g4⟩:=um S ry h2;cases rv;cases ru;obtain⟨is,r1,qq,_⟩:=I.list (Gw.of g1);obtain⟨js,r2,U,_⟩:=I.list (Gw.of g3)
 by_cases Z:ds.length=R.length
 .rw[dg Z] at G
  have qk:is.toArray.size=js.toArray.size:=by simp[<- r1.length,<- r2.length,<- g2.length,<- g4.length,Z]
  have z:=abo.ba2 (A:=A) (Hj (MW.Jm M k) ds R) qq.isList U.isList qk (Zv I S hr g2 g4 r1 r2 G);rw[(Je G).2];have e1:is.toArray.size=min ds.length R.length:=by simp[<- r1.length,<- g2.length,Z]
  rw[e1] at z;simpa[Z] using z
 .rw[bx Z] at G
  cases G;exact .lens qq.isList U.isList (by simp[<- r1.length,<- r2.length,<- g2.length,<- g4.length,Z])
set_option tactic.hygienic true in
def aeh(I:Inv X pins σ H s)(S:lq nm X.K ι H M)(C:Aj k A.in1)(Z:Rep X.K ι H x v)(Y:Rep X.K ι H y u)(R:RelV v v')(L:RelV u u')(h:MW.Jm M (k+1) x y=some r) :
 abo A s v' u' r\/(a2r v u=true/\r=decide (v=u)):=by
 cases abm h with
 |bl a b=>cases Z;cases Y;exact .inr ⟨rfl,by by_cases z:a=b<;>simp[z]⟩|int a b=>cases Z;cases Y;exact .inr ⟨rfl,by by_cases z:a=b<;>simp[z]⟩
 |@tup ds es _ h=>cases Z with
  |@tup p _ vs e1 r1=>cases Y with
   |@tup p2 _ ws e2 r2 =>
    cases R;cases L;obtain⟨is,g1,J,_⟩:=I.tuple (Mw.of e1);obtain⟨U,g2,G,_⟩:=I.tuple (Mw.of e2);have z:=abo.W4 (A:=A) (Hj (MW.Jm M k) ds es) (show s.heap.IsTuple p is.toArray from J) (show s.heap.IsTuple p2 U.toArray from G) (Zv I S C r1 r2 g1 g2 h);rw[(Je h).2];have z1:is.toArray.size=ds.length:=by simp[<- g1.length,<- r1.length]
    have z2:U.toArray.size=es.length:=by simp[<- g2.length,<- r2.length]
    rw[z1,z2] at z;exact .inl z
 |lst h1 h2 h3=>exact .inl (ahb I S C Z Y R L h1 h2 h3)
def abo.rc(h:abo A s v u r)(U:A.units<cLine):SeqAt.RcAt A s v u r/\SeqAt.RcNeAt A s v u (!r):=by
 cases h with
 |W4 e G Z R=>exact⟨SeqAt.RcAt.tuples G Z U R,SeqAt.RcNeAt.tuples G Z U R⟩|ba2 e G Z hz R=>exact⟨SeqAt.RcAt.lists G Z hz U R,SeqAt.RcNeAt.lists G Z hz U R⟩|lens G Z hz=>exact⟨SeqAt.RcAt.lists_lengths G Z hz U,SeqAt.RcNeAt.lists_lengths G Z hz U⟩
def bg5(G:Aj 6 X.A):Dy X (compareOp .Eq) (Yg nm X.K .eq):=λZ s σ H v u v' u' Q I R U hh=>by
 obtain⟨ι,M,x,y,b,S,rx,ry,e,q⟩:=hh;have e:MW.Jm M 6 x y=some b:=e;rcases aeh (A:=X.A) I S G.in1 rx ry R U e with h|⟨h1,h2⟩
 .exact(h.rc G.W7).1 X.prog X.w X.xe _ ⟨.bl b,H,I,rfl,q⟩
 .subst h2
  exact a9a Z s σ H v u v' u' Q I R U ⟨h1,q⟩
def bg6(G:Aj 6 X.A):Dy X (compareOp .NotEq) (Yg nm X.K .ne):=λZ s σ H v u v' u' Q I R U hh=>by
 obtain⟨ι,M,x,y,b,S,rx,ry,e,q⟩:=hh;obtain⟨b',e1,e2⟩:=dq.mp (show(MW.yf M x y).map not=some b from e);subst e2;rcases aeh (A:=X.A) I S G.in1 rx ry R U (show MW.Jm M 6 x y=_ from e1) with h|⟨h1,h2⟩
 .exact(h.rc G.W7).2 X.prog X.w X.xe _ ⟨.bl !b',H,I,rfl,q⟩
 .subst h2
  exact a9b Z s σ H v u v' u' Q I R U ⟨h1,q⟩
section
variable{nm:Nm}{W:Hh}{X:Cx}{a b c o:Expr}{a' b' c' o':Ex}{pos pos' apos:Pos}{ι:Io}{H:Hp}{σ:St}{ρ:En}{M M1 M2:dh}{x y:Dv}{es:Ya}{es':Ed}
set_option tactic.hygienic true in
theorem Pq:∀{Z:List Dv}{bs:List Bool},MW.Qt M x Z=some bs->bs.length=Z.length/\∀(j:Nat) d,Z[j]?=some d->∃b,bs[j]?=some b/\MW.yf M d x=some b
 |[],bs,h=>by cases h;exact⟨rfl,λj d e=>by simp at e⟩
 |y::ys,bs,h=>by
  simp only[MW.Qt] at h;split at h
  .rename_i a b G Y
   cases h;obtain⟨J,U⟩:=Pq Y;refine⟨by simp[J],λj d e=>?_⟩;cases j with
   |zero=>simp at e;subst e;exact⟨a,rfl,G⟩|succ j=>simpa using U j d (by simpa using e)
  .cases h
def Hm(I:Inv X pins σ H s)(e:abf X.K H p G):(∃o,H p=some (.Oz o (.lst G)))\/(H p=none/\∃(o:Obj)(Z:U1)(n:Nat),X.K.lookup p=some o/\o.data=.seq Z n/\Vals G Z.toList):=by
 rcases e with h|⟨o,Z,n,h1,_,_,h2,_,h3⟩
 .exact .inl h
 .exact .inr ⟨(I.bs p o (I.mod.kin p o h1)).2,o,Z,n,h1,h2,h3⟩
def a4b(I:Inv X pins σ H s)(e:abf X.K H p vs)(e2:abf X.K H p ws):vs=ws:=by
 rcases Hm I e with⟨o,h⟩|⟨h,o,xf,n,h1,h2,h3⟩
 .rcases Hm I e2 with⟨o',Z⟩|⟨Z,_⟩
  .rw[h] at Z;cases Z;rfl
  .rw[h] at Z;cases Z
 .rcases Hm I e2 with⟨o',Z⟩|⟨_,o',qq,n',G,U,R⟩
  .rw[h] at Z;cases Z
  .rw[h1] at G;cases G
   rw[h2] at U;cases U;exact Vals.inj h3 R
mutual
theorem ajh{R:Zp}{s:Shared}(I:Inv X R σ H s)(S:lq nm X.K ι H M):∀{d d':Dv}{v:V},Rep X.K ι H d v->Rep X.K ι H d' v->d=d'
 |_,_,_,.non,r=>by cases r;rfl|_,_,_,.bl b,r=>by cases r;rfl|_,_,_,.int i,r=>by cases r;rfl|_,_,_,.str z,r=>by cases r;rfl
 |_,_,_,.tup e1 r1,r=>by
  cases r with
  |tup Z G =>
   rw[e1] at Z;cases Z;rw[Sw I S r1 G]
  |vl Z n2 G=>rw[e1] at Z;cases Z
  |fz Z G =>
   rcases Hm I Z with⟨o,h⟩|⟨h,_⟩
   .rw[e1] at h;cases h
   .rw[e1] at h;cases h
  |ref Z =>
   obtain⟨u,q,U⟩:=S.mem (ao Z);rw[e1] at U;exact U.elim
 |_,_,_,.vl e1 n1 r1,r=>by
  cases r with
  |tup Z G=>rw[e1] at Z;cases Z
  |vl Z n2 G =>
   rw[e1] at Z;cases Z;rw[Sw I S r1 G]
  |fz Z G =>
   rcases Hm I Z with⟨o,h⟩|⟨h,_⟩
   .rw[e1] at h;cases h
   .rw[e1] at h;cases h
  |ref Z=>exact absurd (ao Z) n1.1
 |_,_,_,.fz e1 r1,r=>by
  cases r with
  |tup Z G =>
   rcases Hm I e1 with⟨o,h⟩|⟨h,_⟩
   .rw[Z] at h;cases h
   .rw[Z] at h;cases h
  |vl Z n2 G =>
   rcases Hm I e1 with⟨o,h⟩|⟨h,_⟩
   .rw[Z] at h;cases h
   .rw[Z] at h;cases h
  |fz Z G =>
   have:=a4b I e1 Z;subst this;rw[Sw I S r1 G]
  |ref Z =>
   obtain⟨u,q,U⟩:=S.mem (ao Z);rcases Hm I e1 with⟨o,h⟩|⟨h,_⟩
   .rw[h] at U;exact U.elim
   .rw[h] at q;cases q
 |_,_,_,.ref e1,r=>by
  cases r with
  |tup Z G =>
   obtain⟨u,q,U⟩:=S.mem (ao e1);rw[Z] at U;exact U.elim
  |vl Z n2 G=>exact absurd (ao e1) n2.1
  |fz Z G =>
   obtain⟨u,q,U⟩:=S.mem (ao e1);rcases Hm I Z with⟨o,h⟩|⟨h,_⟩
   .rw[h] at U;exact U.elim
   .rw[h] at q;cases q
  |ref Z =>
   obtain⟨l1,q1⟩:=ak.mp e1;obtain⟨l2,q2⟩:=ak.mp Z;rw[(yg S.nd).mp (q1.trans q2.symm)]
theorem Sw{Z:Zp}{s:Shared}(I:Inv X Z σ H s)(S:lq nm X.K ι H M):∀{U G:List Dv}{R:List V},p8 X.K ι H U R->p8 X.K ι H G R->U=G
 |_,_,_,.nil,r=>by cases r;rfl
 |_,_,_,.cons h t,r=>by
  cases r with
  |cons h2 t2=>rw[ajh I S h h2,Sw I S t t2]
end
def abp(I:Inv X pins σ H s)(S:lq nm X.K ι H M)(hr:Aj 6 A)(R:p8 X.K ι H ds vs)(rv:Vals vs is)(rx:Rep X.K ι H x u)(ru:RelV u u')(h:MW.Qt M x ds=some bs):∃e:Value->Bool,(∀w,w∈is.toArray->SeqAt.EqAt A s w u' (e w))/\∀(j:Nat)(w:Value),is[j]?=some w->bs[j]?=some (e w):=by
 obtain⟨g1,g2⟩:=Pq h;have U:∀(j:Nat)(w:Value),is[j]?=some w->∃b,bs[j]?=some b/\SeqAt.EqAt A s w u' b:=λj w G=>by
  have lj:j<ds.length:=by rw[R.length,rv.length];exact(ak.mp G).1
  have gd:ds[j]?=some ds[j]:=by simp[lj]
  obtain⟨b,e1,e2⟩:=g2 j _ gd;obtain⟨v,a1,a2⟩:=R.get gd;exact⟨b,e1,Xj I S 6 A _ _ v u w u' b hr a2 rx (Vals.aeg rv a1 G) ru e2⟩
 classical
 refine⟨λw=>if G:∃j:Nat,is[j]?=some w then(bs[G.choose]?).getD false else false,λw G=>?_,λj w G=>?_⟩
 .obtain⟨j,hj,e⟩:=pq (by simpa using G:w∈is)
  have Z:∃j:Nat,is[j]?=some w:=⟨j,by simp[hj,e]⟩;obtain⟨b,e1,e2⟩:=U Z.choose w Z.choose_spec;simp only[dif_pos Z,e1,qt];exact e2
 .have Z:∃j:Nat,is[j]?=some w:=⟨j,G⟩
  obtain⟨b,e1,e2⟩:=U j w G;obtain⟨b',e3,e4⟩:=U Z.choose w Z.choose_spec;simp only[dif_pos Z,e3,qt];rw[e1]
  congr 1
  have lj:j<ds.length:=by rw[R.length,rv.length];exact(ak.mp G).1
  have lk:Z.choose<ds.length:=by rw[R.length,rv.length];exact(ak.mp Z.choose_spec).1
  have gd:ds[j]?=some ds[j]:=by simp[lj]
  have gk:ds[Z.choose]?=some ds[Z.choose]:=by simp[lk]
  obtain⟨c1,q1,q2⟩:=g2 j _ gd;obtain⟨c2,q3,q4⟩:=g2 Z.choose _ gk;obtain⟨v1,p1,p2⟩:=R.get gd;obtain⟨v2,p3,p4⟩:=R.get gk;have hv:v1=v2:=RelV.inj (Vals.aeg rv p1 G) (Vals.aeg rv p3 Z.choose_spec);subst hv;rw[e1] at q1;rw[e3] at q3;cases q1;cases q3;have hd:=ajh I S p2 p4;rw[hd,q4] at q2;exact(jy q2).symm
def awn{is:Zl}{bs:List Bool}(Z:bs.length=is.length)(h:∀(j:Nat) (w:Value),is[j]?=some w->bs[j]?=some (e w)):bs=is.map e:=by
 apply uo;intro j;rw[ie];cases q:is[j]? with
 |none=>rw[gr (by rw[Z];exact List.getElem?_eq_none_iff.mp q)];rfl|some w=>rw[h j w q];rfl
def azx{b:Bool}(n:Bool)(hr:Aj 8 X.A)(S:lq nm X.K ι H M)(I:Inv X pins σ H s)(rv:RelV v v')(ru:RelV u u')(rx:Rep X.K ι H x v)(ry:Rep X.K ι H y u)(e:MW.Rj M x y=some b)(q:Q (.bl (cond n (!b) b)) H):wpAny (model X.prog X.w) X.A (compareOp (cond n .NotIn .In) v' u') (EP X pins σ Q) X.xe s:=by
 have qq:∀ds,MW.Al M y=some ds->MW.memD M x ds=some b->wpAny (model X.prog X.w) X.A (compareOp (cond n .NotIn .In) v' u') (EP X pins σ Q) X.xe s:=λds U R=>by
  obtain⟨bs,e1,e2⟩:=dq.mp (show(MW.Qt M x ds).map (·.any id)=some b from R);obtain⟨p,vs,rfl,hp,r⟩:=Ky S ry U;cases ru;have fin:∀{is:Zl}{f:Value->Bool},Vals vs is->(∀(j:Nat)(w:Value),is[j]?=some w->bs[j]?=some (f w))->is.toArray.any f=b:=fun{is f} Z g2=>by have:=awn (by rw[(Pq e1).1,r.length,Z.length]) g2;rw[this] at e2;rw[<- e2];simp[List.any_map]
  rcases hp with hp|hp
  .obtain⟨is,Z,pl,_⟩:=I.list (Gw.of hp)
   obtain⟨f,g1,g2⟩:=abp (A:=X.A.in1) I S ((hr.mono (by decide:7<=8)).in1) r Z rx rv e1;have a:=fin Z g2;subst a;cases n with
   |false=>exact SeqAt.in_listAt f pl.isList g1 ⟨.bl _,H,I,rfl,q⟩|true=>exact SeqAt.notIn_listAt f pl.isList g1 ⟨.bl _,H,I,rfl,q⟩
  .obtain⟨is,Z,pl,_⟩:=I.tuple (Mw.of hp)
   obtain⟨f,g1,g2⟩:=abp (A:=X.A.in1) I S ((hr.mono (by decide:7<=8)).in1) r Z rx rv e1;have a:=fin Z g2;subst a;cases n with
   |false=>exact SeqAt.in_tupleAt f (show s.heap.IsTuple p is.toArray from pl) g1 ⟨.bl _,H,I,rfl,q⟩
   |true=>exact SeqAt.notIn_tupleAt f (show s.heap.IsTuple p is.toArray from pl) g1 ⟨.bl _,H,I,rfl,q⟩
 have G:(MW.Al M y).bind (MW.memD M x)=some b->wpAny (model X.prog X.w) X.A (compareOp (cond n .NotIn .In) v' u') (EP X pins σ Q) X.xe s:=λe=>by obtain⟨ds,U,R⟩:=gq.mp e;exact qq ds U R
 cases y with
 |ref m =>
  cases hM:M[m]? with
  |none=>simp only[MW.Rj,hM] at e;exact G e
  |some o=>cases o with
   |dT ik =>
    simp only[MW.Rj,hM] at e;obtain⟨k,e2,e3⟩:=dq.mp e;cases ry with
    |ref e1 =>
     obtain⟨l,U,R⟩:=S.obj m _ _ hM e1;obtain⟨bb,rfl,hb⟩:=abk rx e2;cases ru;have a:b=(Q4 l k).isSome:=by
      rw[<- e3];cases hk:MW.Bh ik k with
      |none=>rw[(R.look (k:=k)).2 hk];rfl|some d=>obtain⟨z,h3,_⟩:=(R.look (k:=k)).1 d hk;rw[h3];rfl
     subst a;cases n with
     |false=>exact bgf (ad0 hr) I (Q5.t U hb) rv λs' I'=>⟨.bl _,H,I',rfl,q⟩
     |true=>exact av2 (ad0 hr) I (Q5.t U hb) rv λs' I'=>⟨.bl _,H,I',rfl,q⟩
   |_=>simp only[MW.Rj,hM] at e;exact G e
 |_=>exact G e
def bg7(hr:Aj 8 X.A):Dy X (compareOp .In) (Yg nm X.K .inn):=λZ s σ H v u v' u' Q I rv ru G=>by obtain⟨ι,M,x,y,b,S,U,R,e,q⟩:=G;exact azx false hr S I rv ru U R e q
def awo(hr:Aj 8 X.A):Dy X (compareOp .NotIn) (Yg nm X.K .Ux):=λZ s σ H v u v' u' Q I rv ru G=>by obtain⟨ι,M,x,y,c,S,U,ry,e,q⟩:=G;obtain⟨b,R,rfl⟩:=dq.mp (show(MW.Rj M x y).map not=some c from e);exact azx true hr S I rv ru U ry R q
end
open Wa (Dw Tw)
def KH(H:Hp)(x:List Key×Addr):Prop:=H x.2=some (.tup (x.1.map kV))/\∀k∈x.1,∃i,k=.inl i
def aei(P:Program)(w:World)(H:Hp):Wa.Tv (mz P w) (KH H):=λx Z k G v n U=>by
 obtain⟨i,rfl⟩:=Z.2 k G;rcases Be (show W3 (Sum.inl i) v=true from U) with⟨j,t,e,rfl⟩|⟨y,t,e,_⟩
 .unfold hashByValue;rfl
 .cases e
def Ue:∀ks:List Kx,MW.Vo (MW.anu ks)=some ks:=λks=>by
 show MW.aak (ks.map MW.ant)=some ks
 induction ks with
 |nil=>rfl|cons k ks Z=>cases k<;>simp[MW.aak,MW.ant,MW.Wo,Z]
theorem Xk:∀{l:List (List Kx×Dv)},MW.Ei (l.map λp=>MW.anu p.1)=some (l.map (·.1))
 |[]=>rfl|p::l=>by simp[MW.Ei,Ue,Xk]
set_option tactic.hygienic true in
theorem aji{y:Io}{H:Hp}{K:Fg}:∀{G:List Dv}{J:List V}{Y:List (List Kx)},p8 K y H G J->MW.Ei G=some Y->∃bs:List Addr,J=bs.map V.ref/\bs.length=Y.length/\∀x∈Y.zip bs,H x.2=some (.tup (x.1.map kV))
 |_,_,_,.nil,h=>by simp[MW.Ei] at h;subst h;exact⟨[],rfl,rfl,by simp⟩
 |_,_,_,.cons r t,h=>by
  simp only[MW.Ei] at h;split at h
  .rename_i k S L U
   cases h;obtain⟨b,rfl,e⟩:=abk r L;obtain⟨bs,rfl,C,R⟩:=aji t U;refine⟨b::bs,rfl,by simp[C],λx Z=>?_⟩;simp only[List.zip_cons_cons,cj] at Z;rcases Z with rfl|Z
   .exact e
   .exact R x Z
  .cases h
def alz(h:MW.Ej Z=true):Z.length<=30/\∀k∈Z,∀x∈k,∃i,x=Sum.inl i:=by
 simp only[MW.Ej,aq,dm,jd] at h;refine⟨h.1,λk U x G=>?_⟩;have:=h.2 k U x G;cases x with
 |inl i=>exact⟨i,rfl⟩|inr s=>cases this
set_option tactic.hygienic true in
def aqm(hr:Aj 8 X.A)(I:Inv X pins σ H s)(S:lq nm X.K ι H M)(rx:Rep X.K ι H x v)(ru:RelV v u)(Y:MW.keysOf M x=some ds)(hd:MW.Ei ds=some G)(pl:MW.Ej G=true)(h:∀p o n Z,Inv X ((p,o)::pins) σ H Z->Dw (mz X.prog X.w) (KH H) Z.heap p (λk=>k∈G) n->Z.heap.get? p=some o->Q (.ref p) Z) :
 wpAny (model X.prog X.w) X.A (call (.type "set") [u]) Q X.xe s:=by
 obtain⟨qq,U⟩:=alz pl;have hu:X.A.in1.in1.in1.units+1<cLine:=by have:=hr.un;show X.A.units+1+1+1+1<cLine;lia
 have kept:∀b o,s.heap.get? b=some o->(s.heap.push (Wa.Az X.w)).get? b=some o:=λb o e=>au _ e
 have I1:Inv X pins σ H { s with heap:=s.heap.push (Wa.Az X.w) }:=I.kept (t':=s.toks) kept;have fr:Dw (mz X.prog X.w) (KH H) (s.heap.push (Wa.Az X.w)) s.heap.objs.size (λ_=>False) 0:=Wa.at8 (bu _ rfl);have fin:∀(J:Heap)(tk y:Nat),(∀b o,b≠s.heap.objs.size->(s.heap.push (Wa.Az X.w)).get? b=some o->J.get? b=some o)->Dw (mz X.prog X.w) (KH H) J s.heap.objs.size (λk=>k∈G) y->Q (.ref s.heap.objs.size) { s with heap:=J,toks:=tk }:=λJ tk y L hS=>by
  have I2:Inv X pins σ H { s with heap:=J,toks:=tk }:=I.kept λb o e=>L b o (gh (az e)) (kept b o e)
  obtain⟨o,es,ep,t,hg,hc,q0,_⟩:=hS.get;refine h _ o y _ (I2.Sd λq hq=>?_) hS hg;rcases cj.mp hq with rfl|hq
  .refine⟨hg,I.Av.fresh (bw _),yc I.lt,I.a1n (bw _),λv hv=>?_⟩
   rw[show o.data=_ from q0] at hv;cases hv
  .exact I2.pin q (gw _ hq)
 have lst:∀p vs,v=.ref p->H p=some (.lst vs)->p8 X.K ι H ds vs->wpAny (model X.prog X.w) X.A (call (.type "set") [u]) Q X.xe s:=λp vs ev hp r=>by
  subst ev;cases ru;obtain⟨is,rv,q1,_⟩:=I1.list (Gw.of hp);obtain⟨bs,rfl,qk,hz⟩:=aji r hd;have q3:is=(G.zip bs).map λx=>Value.ref x.2:=by
   apply uo;intro j;rw[ie]
   by_cases hj:j<bs.length
   .have e1:(bs.map V.ref)[j]?=some (.ref bs[j]):=by simp[hj]
    have C:j<is.length:=by have:=rv.length;simp at this;exact b_ hj (f_ this)
    have e2:is[j]?=some is[j]:=by simp[C]
    have:=Vals.aeg rv e1 e2;rw[e2,show is[j]=Value.ref bs[j] from this];have q5:j<G.length:=b_ hj (f_ qk)
    have qv:(G.zip bs)[j]?=some (G[j],bs[j]):=by rw[bf (by simp;lia)];simp
    rw[qv];rfl
   .have C:¬j<is.length:=by have:=rv.length;simp at this;exact j_ (a_ (g_ this) (s_ hj))
    rw[gr (s_ C),gr (by simp;lia)];rfl
  refine Wa.Mz (R:=λZ=>Q (.ref s.heap.objs.size) Z) ?_ λZ h=>h
  refine Wa.anj (aei _ _ H) (ks:=G.zip bs) (items:=is.toArray) (by have:=hr.hd;exact this) hu fr q1.isList (by simpa using q3) (λx hx=>O4 I1.Av (hz x hx)) (λx hx=>⟨hz x hx,λk Y=>U x.1 (List.of_mem_zip (a:=x.1) (b:=x.2) hx).1 k Y⟩) (by simp;lia) λJ tk y L hS=>?_
  refine fin J tk y L (hS.congr λk=>?_);rw[List.map_fst_zip (g_ qk)]
 unfold MW.keysOf at Y;split at Y
 .rename_i n
  split at Y
  .rename_i ik hM
   cases Y;rw[Xk] at hd;cases hd;cases rx with
   |@ref n p e1 =>
    obtain⟨l,h1,h2⟩:=S.obj n _ p hM e1;cases ru;obtain⟨_,q4,xs,q2,dd⟩:=apt I1.Av h1;obtain⟨k1,k2⟩:=ajg q2;have k3:xs.map (·.1)=ik.map (·.1):=k1.trans (Q7 h2);have hl:xs.length=ik.length:=by have:=ud List.length k3;simpa using this
    refine Wa.Mz (R:=λZ=>Q (.ref s.heap.objs.size) Z) ?_ λZ h=>h
    refine Wa.ang (aei _ _ H) (by have:=hr.un;show X.A.units+1+1<cLine;lia) fr dd q4 (λx hx=>⟨k2 x hx,λk Y=>?_⟩) (by simp at qq;lia) λJ y sb hS=>?_
    .have:x.1∈ik.map (·.1):=by rw[<- k3];exact bc.mpr ⟨x,hx,rfl⟩
     exact U x.1 this k Y
    .refine fin J s.toks y (λb o hb e=>(sb.2 b hb).trans e) (hS.congr λk=>?_)
     rw[k3];simp
  .obtain⟨p,vs,e1,e2,r⟩:=um S rx Y
   exact lst p vs e1 e2 r
 .obtain⟨p,vs,e1,e2,r⟩:=um S rx Y
  exact lst p vs e1 e2 r
def ba3(hS:Dw (mz P w) (KH H) h p T n)(hg:h.get? p=some o)(Y7:Z.get? p=some o)(le:∀a G,H a=some (.tup G)->H' a=some (.tup G))(ok:Ql P w H' Z):Dw (mz P w) (KH H') Z p T n:=by obtain⟨xs,R,es,ep,t,D,r⟩:=hS;have e:R=o:=jy (D.get.symm.trans hg);subst e;refine⟨xs,R,es,ep,t,⟨Y7,D.exa,D.dat,D.tab,D.ent,λx hx=>?_,D.nod,D.led,D.pla⟩,r⟩;obtain⟨_,U,k2⟩:=D.keys x hx;exact⟨O4 ok (le _ _ U),le _ _ U,k2⟩
def aej:MW.Jr xs ys=true↔∀k,k∈xs↔k∈ys:=by
 simp only[MW.Jr,aq,jd,Aw,dm];constructor
 .rintro⟨R,U⟩ k
  exact⟨λh=>by obtain⟨y,Z,e⟩:=R k h;rw[<- e];exact Z,λh=>by obtain⟨y,Z,e⟩:=U k h;rw[<- e];exact Z⟩
 .exact λh=>⟨λx G=>⟨x,(h x).mp G,rfl⟩,λy Z=>⟨y,(h y).mpr Z,rfl⟩⟩
set_option tactic.hygienic true in
def awp(hr:Aj 8 X.A)(hg:Gl X C)(hm:X.mg C=none)(hv:bootBuiltins C=some (.type "set"))(hn:C≠"__name__")(Tn:(C==("__debug__" : Str))=false)(ha:PA X [a] (Yd nm W X.K (.cons a' .nil)))(hb:PA X [b] (Yd nm W X.K (.cons b' .nil)))(he:starEach [a] X.env=(false,eval a X.env)::starEach [] X.env)(qq:starEach [b] X.env=(false,eval b X.env)::starEach [] X.env)(Jq:(backTo q1 (starEach [] X.env)).any (·.1)=false)(q8:(backTo q2 (starEach [] X.env)).any (·.1)=false) :
 PC X .NotEq (.Call (.Name C p1) [a] [] q1) (.Call (.Name C p2) [b] [] q2) (tE nm W X.K (.Wm a' b')):=by
 intro L s σ H Q I hh;obtain⟨ι,ρ,M,d,M',S,R,e,q⟩:=hh;rw[MW.Yx] at e;obtain⟨x,M1,e1,e⟩:=gn e;cases hk1:(MW.keysOf M1 x).bind MW.Ei with
 |none=>rw[hk1] at e;cases e
 |some ks =>
  rw[hk1] at e;simp only at e;split at e
  .rename_i q6
   obtain⟨y,M2,e2,e⟩:=gn e;cases hk2:(MW.keysOf M2 y).bind MW.Ei with
   |none=>rw[hk2] at e;cases e
   |some ls =>
    rw[hk2] at e;simp only at e;split at e
    .rename_i qk
     cases e;obtain⟨zq,g1,q3⟩:=gq.mp hk1;obtain⟨zk,g2,qv⟩:=gq.mp hk2;refine iw (Cw I hg hm hv ?_ hn Tn);refine jh (Bu (ha q1 L s σ H (λU J=>∃Z v,U=[v]/\Le ι H Z J/\lq nm X.K Z J M1/\Rep X.K Z J x v) I ⟨ι,ρ,M,[x],M1,S,R,by simp[e1,Res.bind],λZ J U le S1 r=>?_⟩) λus s1 ⟨U,J,I1,r1,Z,v,u,V6,S1,rx⟩=>?_) he Jq
     .obtain⟨v,u,rv⟩:=Ls r rfl
      exact⟨Z,v,u,le,S1,rv⟩
     subst u;cases r1 with
     |cons rv rn =>
      cases rn;refine aqm hr I1 S1 rx rv g1 q3 q6 λp o n s2 I2 hS q4=>?_
      refine iw (Cw I2 hg hm hv ?_ hn Tn);refine jh (Bu (hb q2 _ s2 σ J (λU G=>∃Y v,U=[v]/\Le Z J Y G/\lq nm X.K Y G M'/\Rep X.K Y G y v) I2 ⟨Z,ρ,M1,[y],M',S1,R.mono V6,by simp[e2,Res.bind],λY G U le S2 r=>?_⟩) λus s3 ⟨U,G,I3,r2,Y,v2,ev2,yx,S2,ry⟩=>?_) qq q8
      .obtain⟨v,u,rv⟩:=Ls r rfl
       exact⟨Y,v,u,le,S2,rv⟩
      subst ev2;cases r2 with
      |cons q0 q5 =>
       cases q5;refine aqm hr I3 S2 ry q0 g2 qv qk λp' o' n' s4 I4 Wg zz=>?_
       have hp:s4.heap.get? p=some o:=(I4.pin (p,o) (gw _ (bh _ cu))).1;have q7:=ba3 (H':=G) hS q4 hp yx.tup I4.Av;refine Wa.anl (by have:=hr.un;show X.A.units+1<cLine;lia) (by have:=hr.un;lia) q7 Wg λc hc=>?_
       have ec:c=!MW.Jr ks ls:=by have:=aej (xs:=ks) (ys:=ls);cases c<;>cases h:MW.Jr ks ls<;>simp_all
       refine⟨.bl c,G,(I4.Sd λz hz=>I4.pin z (gw _ (bh _ (bh _ hz)))),rfl,?_⟩;rw[ec];exact q Y G _ (V6.trans yx) S2 (.bl _)
    .cases e
  .cases e
theorem p8.dropLast:∀{G:List Dv}{Z:List V},p8 K U H G Z->p8 K U H G.dropLast Z.dropLast:=by intro A B h;induction A generalizing B with|nil=>cases h;exact .nil|cons d A ih=>cases h with|cons h t=>cases t with|nil=>exact .nil|cons g t=>exact .cons h (ih (.cons g t))
def rM(R:Nm)(K:Fg)(m:Bm):V->List V->Hp->VK->Prop:=λv vs H Q=>∃U M x ds d M',lq R K U H M/\Rep K U H x v/\p8 K U H ds vs/\MW.K8 m x ds M=.ok d M'/\(∀ts,x=.tup ts->m≠.index) /\
 ∀Z G w,Le U H Z G->lq R K Z G M'->Rep K Z G d w->Q w G
set_option tactic.hygienic true in
theorem awr{id:String}(hT:∀ι H M x v,lq nm X.K ι H M->Rep X.K ι H x v->MW.K7 m x M=true->tyV X.K T v H)(pa:PlainAttrs T)(G:Slot T name id)(qq:typeOf (.builtin id)=pure (.type "method_descriptor"))(U:MtR X id (rM nm X.K m))(ho:PE X o (tE nm W X.K o'))(ha:PA X (e::Z) (Yd nm W X.K y))(W9:attributeBase o name X.env (eval o X.env)=eval o X.env)(u:((backTo J (starEach (e::Z) X.env)).all (λx=>!x.1)&&(backToKw J (keywordEach [] X.env)).all (λx=>x.1.isSome)
&&decide ((e::Z).length+([]:List Keyword).length+(if([]:List Keyword).isEmpty then 0 else 1)<30))=true)(Xa:(apos.endLine==J.line)=true)(hs:starEach (e::Z) X.env=(false,eval e X.env)::starEach Z X.env)(L:(backTo J (starEach Z X.env)).any (·.1)=false) :
 PE X (.Call (.Attribute o name apos) (e::Z) [] J) (tE nm W X.K (.bm m o' y)) :=
 PE.of (a9v pa G qq U ho ha W9 u Xa hs L) fun σ H Q ι ρ M d M' S R e q=>by
  rw[MW.agi] at e;obtain⟨x,M1,e1,e⟩:=gn e;split at e
  .rename_i ht
   obtain⟨ds,M2,e2,e⟩:=gn e;exact one S R e1 λY H1 v le S1 R1 r=>⟨hT Y H1 M1 x v S1 r ht,Y,ρ,M1,ds,M2,S1,R1,e2,λqk H2 vs yx S2 rs=>⟨qk,M2,x,ds,d,M',S2,r.mono yx,rs,e,(λts hx U=>by subst hx;subst U;cases ht),λC H' w Ye S' r'=>q C H' w ((le.trans yx).trans Ye) S' r'⟩⟩
  .cases e
def abq(h:MW.onL o M f=.ok d M'):∃n Z,o=.ref n/\M[n]?=some (.lst Z)/\f n Z=.ok d M':=by
 cases o with
 |ref n =>
  simp only[MW.onL] at h;cases e:M[n]? with
  |none=>rw[e] at h;cases h
  |some o=>cases o with
   |lst Z=>rw[e] at h;exact⟨n,Z,rfl,e,h⟩|_=>rw[e] at h;cases h
 |_=>cases h
def aws(h:MW.onK o M f=.ok d M'):∃n Z,o=.ref n/\M[n]?=some (.dK Z)/\f Z=.ok d M':=by
 cases o with
 |ref n =>
  simp only[MW.onK] at h;cases e:M[n]? with
  |none=>rw[e] at h;cases h
  |some o=>cases o with
   |dK Z=>rw[e] at h;exact⟨n,Z,rfl,e,h⟩|_=>rw[e] at h;cases h
 |_=>cases h
def ahd{Z:List Dv}(h:MW.Nf Z g=.ok d M'):∃x,Z=[x]/\g x=.ok d M':=by
 match Z,h with
 |[x],h=>exact⟨x,rfl,h⟩|[],h=>cases h|_::_::_,h=>cases h
def Xl{c:Prop}[Decidable c]{r:Res α}(h:(if c then r else .bad)=.ok d M'):c/\r=.ok d M':=by
 by_cases z:c
 .rw[dg z] at h;exact⟨z,h⟩
 .rw[bx z] at h;cases h
def ty_list{X:Cx}(S:lq nm X.K R H M)(r:Rep X.K R H x v)(h:(MW.du M x).isSome=true):tyV X.K "list" v H:=by obtain⟨ds,U⟩:=o6.mp h;obtain⟨p,Z,rfl,G,_⟩:=um S r U;exact .inl ⟨rfl,Z,Gw.of G⟩
def awt(e:MW.K8 .index x ds M=.ok d M'):∃G Z j,ds=[G]/\MW.Al M x=some Z/\MW.acu M G Z=some j/\d=.int ((j:Nat):Int)/\M'=M:=by obtain⟨G,rfl,e0⟩:=ahd e;obtain⟨e1,e2⟩:=xq e0;obtain⟨j,U,e4⟩:=dq.mp e1;obtain⟨Z,R,e7⟩:=gq.mp U;exact⟨G,Z,j,rfl,R,e7,e4.symm,e2⟩
def aqn:MtR X "list.append" (rM nm X.K .append):=λZ s σ H v vs u us Q I ru Uk hh=>by
 obtain⟨ι,M,x,ds,d,M',S,r,rs,e,_,q⟩:=hh;obtain⟨n,xs,rfl,U,e1⟩:=abq e;obtain⟨d0,rfl,e2⟩:=ahd e1;obtain⟨hl,e3⟩:=Xl e2;cases e3;cases r with
 |ref R =>
  obtain⟨ys,h3,G⟩:=S.obj n _ _ U R;cases rs with
  |cons hd ht =>
   cases ht;refine Zm Z s σ H _ _ u us Q I ru Uk ⟨_,ys,_,rfl,rfl,h3,by rw[<- G.length];exact Sv hl,?_⟩;obtain⟨S2,yx⟩:=S.put (u:=.lst (ys++[_])) (o:=.lst (xs++[_])) U R λle=>⟨_,xm,(G.mono le).append (.cons (hd.mono le) .nil)⟩
   exact q _ _ _ yx S2 .non
def aqo:MtR X "list.extend" (rM nm X.K .extend):=λZ s σ H v vs u us Q I ru Uk hh=>by
 obtain⟨ι,M,x,ds,d,M',S,r,rs,e,_,q⟩:=hh;obtain⟨n,xs,rfl,hM,e1⟩:=abq e;obtain⟨y,rfl,U⟩:=ahd e1;cases hy:MW.du M y with
 |none=>rw[hy] at U;cases U
 |some zs =>
  rw[hy] at U;obtain⟨⟨_,hl⟩,e3⟩:=Xl U;cases e3;cases r with
  |ref ha =>
   obtain⟨ys,h3,h4⟩:=S.obj n _ _ hM ha;cases rs with
   |cons hd ht =>
    cases ht;obtain⟨b,G,rfl,h5,R⟩:=um S hd hy;refine alp Z s σ H _ _ u _ Q I ru Uk ⟨_,b,ys,G,rfl,rfl,h3,h5,by rw[<- h4.length,<- R.length];exact yj (Sv hl),?_⟩;obtain⟨S2,yx⟩:=S.put (u:=.lst (ys++G)) (o:=.lst (xs++zs)) hM ha λle=>⟨_,xm,(h4.mono le).append (R.mono le)⟩
    exact q _ _ _ yx S2 .non
def ba5:MtR X "list.pop" (rM nm X.K .pop):=λZ s σ H v vs u us Q I ru Uk hh=>by
 obtain⟨ι,M,x,ds,d,M',S,r,rs,e,_,q⟩:=hh;obtain⟨n,xs,rfl,R,G⟩:=abq e;cases rs with
 |cons _ _=>cases G
 |nil =>
  cases hx:xs.getLast? with
  |none=>simp only[hx] at G;cases G
  |some d1 =>
   simp only[hx] at G;cases G;cases r with
   |ref ha =>
    obtain⟨ys,h3,U⟩:=S.obj n _ _ R ha;rw[List.getLast?_eq_getElem?] at hx;obtain⟨z,h5,h6⟩:=U.get hx;refine a3g Z s σ H _ _ u _ Q I ru Uk ⟨_,ys,z,rfl,rfl,h3,by rw[<- U.length];exact h5,?_⟩;obtain⟨S2,yx⟩:=S.put (u:=.lst ys.dropLast) (o:=.lst xs.dropLast) R ha λle=>⟨_,xm,(U.mono le).dropLast⟩
    exact q _ _ _ yx S2 (h6.mono yx)
def abr:∀{bs:List Bool}{j:Nat},bs.findIdx? id=some j->bs[j]?=some true/\∀m,m<j->bs[m]?=some false:=fun{bs j} h=>by obtain⟨G,R,U⟩:=qj.mp h;refine⟨by rw[bf G];simpa using R,λm Z=>?_⟩;have:=U m Z;rw[bf (d_ Z G)];simpa using this
def awu(hr:Aj 8 X.A):MtR X "list.index" (rM nm X.K .index):=λq0 s σ H v vs u us Q I ru Uk hh=>by
 obtain⟨ι,M,x,ds,d,M',S,r,rs,e,nt,q⟩:=hh;obtain⟨d0,xs,j,rfl,e1,e2,rfl,rfl⟩:=awt e;cases rs with
 |cons hd ht =>
  cases ht;cases Uk with
  |cons hu qk =>
   cases qk;obtain⟨bs,e3,e4⟩:=gq.mp (show(MW.Qt M' d0 xs).bind (·.findIdx? id)=some j from e2);obtain⟨p,ys,rfl,G,rl⟩:=Ky S r e1;cases ru;rcases G with G|G
   .obtain⟨z,is,n,rv,hl,hg⟩:=I.ag7 G
    obtain⟨f,g1,g2⟩:=abp (A:=X.A.in1) I S ((hr.mono (by decide:7<=8)).in1) rl rv hd hu e3;obtain⟨f1,f2⟩:=abr e4;have hb:=(Pq e3).1;have U:is.length=bs.length:=by rw[hb,rl.length,hl]
    have lj:j<is.length:=by rw[U];exact(ak.mp f1).1
    have fa:∀m (Z:m<is.length),bs[m]?=some (f is[m]):=λm Z=>g2 m _ (bf Z)
    have hT:s.TypeIs (.ref p) "list" := ⟨_,hg,rfl⟩;have qv:is.length<=sizeLine:=by rw[<- hl];exact z
    rw[qb] at qv;refine call_meetsIn F.slot_list_index hT F.entry_list_index (F.args_list_index_2 _ _) (λA R s h=>SeqAt.list_indexAt p is.toArray n none #[] _ f j (by simpa using lj) (by lia) ?_ ?_ _ _ A R s h) ⟨hg,g1,?_⟩
    .have:=fa j lj;rw[f1] at this;simpa using(jy this).symm
    .intro m Z qq
     have Z:m<is.length:=by simpa using Z
     have:=fa m Z;rw[f2 m qq] at this;simpa using(jy this).symm
    .exact⟨.int j,H,I.tok _,⟨_,rfl⟩,q ι H _ (Le.refl _ _) S (.int _)⟩
   .cases r with
    |tup e r=>exact absurd rfl (nt _ rfl)|vl e n r=>rw[G] at e;cases e|fz e r=>simp[MW.Al,MW.du] at e1
    |ref e =>
     obtain⟨u',q',mu⟩:=S.mem (ao e);rw[G] at mu;exact mu.elim
end Sm
namespace Wa
open PySem L2
def SmK(k:List Key):Prop:=∃i j:Int,-1<=i/\i<9/\-1<=j/\j<9/\k=[.inl i,.inl j]
noncomputable def ajj(i j:Int):Int:=reduceHash (Builtin.Tuple.tupleHashOf [hashInt i,hashInt j])
noncomputable def rgI:List Int:=[-1,0,1,2,3,4,5,6,7,8]
def aqp:(rgI.all λi=>rgI.all λj=>rgI.all λZ=>rgI.all λG=>(ajj i j != ajj Z G)||(i==Z&&j==G))=true:=by decide+kernel
def abt(G:-1<=i)(Z:i<9):i∈rgI:=by
 have:i=-1\/i=0\/i=1\/i=2\/i=3\/i=4\/i=5\/i=6\/i=7\/i=8:=by lia
 unfold rgI;simp only[cj,ug,Bd];exact this
def aqq{P:Program}(h:SmK k)(h':SmK k')(e:tupleKeyHash (mz P w) k=tupleKeyHash (mz P w) k'):k=k':=by obtain⟨i,j,R,a2,a3,a4,rfl⟩:=h;obtain⟨Z,j',G,b2,U,b4,rfl⟩:=h';have e:ajj i j=ajj Z j':=e;have:=jd.mp (jd.mp (jd.mp (jd.mp aqp i (abt R a2)) j (abt a3 a4)) Z (abt G b2)) j' (abt U b4);rw[e] at this;simp at this;rw[this.1,this.2]
def ahe(Z:IsTupleKey (mz prog w) s.heap G a)(h:Q false s):wpAny (model prog w) A (Builtin.Dict.quietEq (.ref a)) Q E s:=by
 unfold Builtin.Dict.quietEq;refine aa (wpAny_specialOf Z.typeIs F.slot_tuple_eq.lookup ?_);refine aj ?_;have:(some (Value.builtin "tuple.__eq__")==some (Value.builtin "object.__eq__"))=false:=by decide
 rw[this];exact h
def aqr{U:List (List Key×Addr×Value)}(hn:(U.map (·.1)).Nodup)(R:∀x∈U,SmK x.1)(Z:x∈U) :
 ((U.map (entryOfKey (tupleKind (mz prog w)))).filter (·.hash==tupleKeyHash (mz prog w) x.1)).length<=1:=by
 induction U with
 |nil=>simp
 |cons y ys ih =>
  rw[ig,q9] at hn;rw[ig]
  by_cases hy:tupleKeyHash (mz prog w) y.1=tupleKeyHash (mz prog w) x.1
  .have e:=aqq (R y cu) (R x Z) hy
   have none:(ys.map (entryOfKey (tupleKind (mz prog w)))).filter (·.hash==tupleKeyHash (mz prog w) x.1)=[]:=by rw[List.filter_eq_nil_iff];intro z hz hq;obtain⟨z',G,rfl⟩:=bc.mp hz;have hq:tupleKeyHash (mz prog w) z'.1=tupleKeyHash (mz prog w) x.1:=eq_of_beq (show(tupleKeyHash (mz prog w) z'.1==tupleKeyHash (mz prog w) x.1)=true from hq);have:=aqq (R z' (bh _ G)) (R x Z) hq;exact hn.1 (bc.mpr ⟨z',G,this.trans e.symm⟩)
   rw[List.filter_cons,none];split<;>simp
  .rw[List.filter_cons,bx (by show ¬((tupleKeyHash (mz prog w) y.1==tupleKeyHash (mz prog w) x.1)=true);simpa using hy)]
   rcases cj.mp Z with rfl|Z
   .exact absurd rfl hy
   .exact ih hn.2 (λz hz=>R z (bh _ hz)) Z
def aek{id:String}{G:List (List Key×Addr×Value)}(ho:s.heap.get? d=some o)(hd:o.data=.dict es ep)(R:es.toList=G.map (entryOfKey (tupleKind (mz prog w))))(hk:∀x∈G,IsTupleKey (mz prog w) s.heap x.1 x.2.1)(hn:(G.map (·.1)).Nodup)(hs:∀x∈G,SmK x.1)(h:Q es s) :
 wpAny (model prog w) A (Builtin.Dict.entriesForEmpty id d) Q E s:=by
 unfold Builtin.Dict.entriesForEmpty;refine aa (t7 ho hd ?_);refine aa ?_;rw[<- Array.forIn_toList];refine qi _ (λZ _ s'=>s'=s/\∀e∈Z,∃x∈G,e=entryOfKey (tupleKind (mz prog w)) x) _ ?_ ?_ _ _ ⟨rfl,λe hm=>?_⟩
 .rintro e Z r s' ⟨rfl,Eg⟩
  obtain⟨x,U,rfl⟩:=Eg e cu;show wpAny _ _ (Builtin.Dict.quietEq (.ref x.2.1) >>= _) _ _ _;refine aa (ahe (hk x U) ?_);simp only[yz,ji];have h1:=aqr (prog:=prog) (w:=w) hn hs U;rw[bx (by
   intro hc;have:(es.filter (·.hash==(entryOfKey (tupleKind (mz prog w)) x).hash)).size=((G.map (entryOfKey (tupleKind (mz prog w)))).filter (·.hash==tupleKeyHash (mz prog w) x.1)).length:=by rw[<- R,<- v5,Array.toList_filter];rfl
   exact l_ hc (a_ (f_ this) h1))]
  exact aj ⟨rfl,λe R=>Eg e (bh _ R)⟩
 .rintro b s' ⟨rfl,_⟩
  exact aj h
 .rw[R] at hm
  obtain⟨x,U,rfl⟩:=bc.mp hm;exact⟨x,U,rfl⟩
def ba6{prog:Program}{w:World}{h Z:Heap}{G:List Key}{p a:Addr}(x:IsTupleKey (mz prog w) h G p)(U:∀b o,h.get? b=some o->Z.get? b=some o):IsTupleKey (mz prog w) Z G p :=
 let ⟨o,items,n,ho,r⟩:=x;⟨o,items,n,U p o ho,r⟩
set_option tactic.hygienic true in
def ba7(q6:(d==sysModules)=false)(hd:s.heap.DictOfH (tupleKind (mz prog w)) d y)(hs:∀x∈y,SmK x.1)(q3:y.length<=sizeLine)(h:∀h',h'.DictOfH (tupleKind (mz prog w)) s.heap.objs.size y->(∀b o,s.heap.get? b=some o->h'.get? b=some o)->Q (.ref s.heap.objs.size) { s with heap:=h' }) :
 wpAny (model prog w) A (call (.type "dict") [.ref d]) Q E s:=by
 refine callType_codes (Q₁:=λobj R=>obj=.ref s.heap.objs.size/\R={ s with heap:=s.heap.push { cls:=.type "dict",data:=.dict #[] } }) F.kt_called_dict (F.kt_typeCall_dict_1 _) F.entry_dict_init (kt_code_dict_new _ ⟨rfl,rfl⟩) ?_;rintro obj R ⟨rfl,rfl⟩;have q8:=hd.typeIs;obtain⟨od,Y,q7,u,q1,L,U,q2,qq⟩:=hd;have keep:∀b o,s.heap.get? b=some o->(s.heap.push { cls:=.type "dict",data:=.dict #[] }).get? b=some o:=λb o e=>au _ e
 have J:(s.heap.push { cls:=.type "dict",data:=.dict #[] }).get? s.heap.objs.size=some { cls:=.type "dict",data:=.dict #[] }:=bu _ rfl;have qk:Shared.TypeIs { s with heap:=s.heap.push { cls:=.type "dict",data:=.dict #[] } } (.ref s.heap.objs.size) "dict" := ⟨_,J,rfl⟩;have S:Shared.TypeIs { s with heap:=s.heap.push { cls:=.type "dict",data:=.dict #[] } } (.ref d) "dict" := ⟨od,keep _ _ u,q1.1⟩;have C:=keep _ _ u;have q5:s.heap.objs.size≠d:=λe=>absurd (az u) (by rw[e];exact qy _)
 have G:Y.size=y.length:=size_of_entries U;refine⟨qk,F.args_dict_init_2 _ _,?_⟩;unfold Builtin.«dict.__init__»;refine aa ?_;unfold Builtin.Dict.selfAndRest;refine aa (wpAny_notOrdered_dict qk ?_);show wpAny _ _ (pure (s.heap.objs.size,[Value.ref d])) _ _ _;refine aj ?_;show wpAny _ _ (Builtin.Dict.updateFrom "dict.__init__" s.heap.objs.size (.ref d) [] .none) _ _ _;unfold Builtin.Dict.updateFrom;refine aa (u0 S ?_);rw[bx (by decide)];refine aa ?_;unfold Builtin.Dict.merge;refine aa ?_;unfold Builtin.Dict.readDirectly;refine aa (o5 S isSubtype_dict_dict ?_);simp only[qx,dj,jk];refine aa (wpAny_specialOf S F.slot_dict_iter.lookup (aj ?_));simp only[zu,ji];refine aa (aj ?_);unfold Builtin.Dict.mergeDict;rw[bx (by simpa using q5)];unfold Builtin.Dict.showsAll;rw[bx (by rw[q6];exact jb)];refine aa (aj ?_);refine aa (t7 C L ?_);have kk:∀{h':Heap},(∀b o,s.heap.get? b=some o->h'.get? b=some o)->∀x∈y,(tupleKind (mz prog w)).is h' x.1 x.2.1:=λhk x hx=>ba6 (a:=d) (q2 x hx) hk
 have q0:Y=#[]->∀s',s'={ s with heap:=s.heap.push { cls:=.type "dict",data:=.dict #[] } }->wpAny (model prog w) A.in1.in1 (Builtin.Dict.addKeywords s.heap.objs.size [] >>= λ_=>ret Value.none) (λfin s'=>match fin with|.done f=>wants (λr Z=>r=Value.none/\Q (.ref s.heap.objs.size) Z) E (.ok f) s'|.again c'=>c'.quiet=true/\codeAny (model prog w) A.in1 c' (wants (λr Z=>r=Value.none/\Q (.ref s.heap.objs.size) Z) E) s') (λe s'=>wants (λr Z=>r=Value.none/\Q (.ref s.heap.objs.size) Z) E (.error e) s') s':=λhe s' Pn=>by have q4:y=[]:=zb.mp (by rw[<- G,he];rfl);subst Pn;refine aa (aj (aj ⟨rfl,h _ ⟨_,#[],0,J,⟨rfl,rfl,rfl⟩,rfl,?_,kk keep,qq⟩ keep⟩));rw[q4];rfl
 dsimp only;split
 .refine aa (t7 J rfl ?_)
  rw[dg (show(#[]:Array DictEntry).isEmpty=true from rfl)];refine aa (aek C L U (kk keep) qq hs ?_);split
  .refine aa (wpAny_updateDictKeysTo J rfl (aj ?_) (by show Y.size<=_;exact a_ (f_ G) (a_ q3 x_)))
   have qv:∀b o,s.heap.get? b=some o->((s.heap.push { cls:=.type "dict",data:=.dict #[] }).update s.heap.objs.size (Obj.mapDictKeys λ_=>Y)).get? b=some o:=λb o e=>by rw[ux _ _ (j0 (gh (az e)))];exact keep b o e
   refine aa (aj (aj ⟨rfl,h _ ⟨_,Y,0+1,mq _ J (Obj.isFreed_of_dict (Obj.data_mapDictKeys rfl _)),⟨rfl,rfl,rfl⟩,Obj.data_mapDictKeys rfl _,U,kk qv,qq⟩ qv⟩))
  .rename_i Uw
   exact aj (q0 (Array.isEmpty_iff.mp (by simpa using Uw)) _ rfl)
 .rename_i hf
  have he:Y=#[]:=by
   apply yh;intro Uw;have hx:y≠[]:=λe=>Uw (Array.eq_empty_of_size_eq_zero (by rw[G,e];rfl))
   obtain⟨x,ys,rfl⟩:=List.exists_cons_of_ne_nil hx;have Eg:(Y.all λe=>(keyPart e.key).isSome)=true:=by simp only[Bool.not_eq_true',Bool.not_eq_false,aq] at hf;exact hf.2
   rw[<- Array.all_toList,U,ig,List.all_cons,aq] at Eg;exact Bool.noConfusion (Eg.1:(keyPart (.ref x.2.1)).isSome=true)
  refine aa (wpAny_dictEpoch C L ?_);refine aa (t7 C L ?_);refine aa ?_;rw[he,Std.Legacy.Range.forIn_eq_forIn_range'];simp only[Std.Legacy.Range.size,gf,List.length_nil,Nat.sub_zero,vd,Nat.sub_self,Nat.div_one,List.range'_zero,List.forIn_nil];exact aj (aj (q0 he _ rfl))
end Wa
namespace Sm
open PySem L2
open MW (Ex Ed OEx Pz Cz p7 Lv Tg Res dh MO Hh Cp Op2 Blt Bm Kx Src)
set_option tactic.hygienic true in
def awv(h:MW.agg l=true):∀k∈l.map (·.1),Wa.SmK k:=λk Z=>by
 obtain⟨p,Y,rfl⟩:=bc.mp Z;simp only[MW.agg,jd] at h;have:=h p Y;split at this
 .rename_i i j e
  simp only[aq,dm] at this;exact⟨i,j,this.1.1.1,this.1.1.2,this.1.2,this.2,e⟩
 .cases this
def a4c{X:Cx}(S:lq nm X.K Z H M)(G:H p=none)(r:uw X.K Z H (λk k'=>k=k') U l) :
 lq nm X.K (Z.add p) (upd H p (.dT l)) (M++[.dT U])/\Le Z H (Z.add p) (upd H p (.dT l))/\Rep X.K (Z.add p) (upd H p (.dT l)) (.ref M.length) (.ref p):=by
 obtain⟨R,le⟩:=S.new (H':=upd H p (.dT l)) (o:=.dT U) G (λa u e=>by rw[m5 (m9 e G)];exact e) λle=>⟨l,xm,r.mono le⟩
 exact⟨R,le,.ref (by show(Z.l++[p])[M.length]?=some p;rw[<- S.len];simp)⟩
set_option tactic.hygienic true in
def a4d:Ci X (.type "dict") (rB nm X.K .dict):=λC s σ H vs us Q I Uk hh=>by
 obtain⟨ι,M,ds,d,M',S,r,e,q⟩:=hh;cases r with
 |nil=>simp[MW.o8] at e
 |@cons x v _ _ h t =>
  cases t with
  |cons Y t2=>cases x<;>simp[MW.o8] at e
  |nil =>
   cases Uk with
   |cons ru rn =>
    cases rn;cases h with
    |@ref n p hp =>
     cases ru;have e:(match M[n]? with|some (.dT G)=>if MW.agg G then MW.new (.dT G) M else .bad|_=>.bad)=.ok d M':=e;split at e
     .rename_i G hM
      split at e
      .rename_i u
       cases e;obtain⟨l,h1,Y⟩:=S.obj n _ p hM hp;obtain⟨z,U,y,Z,dd⟩:=apt I.Av h1;obtain⟨R,k2⟩:=ajg Z;have hl:y.length=l.length:=by have:=ud List.length R;simpa using this
       refine Wa.ba7 U dd (λx hx=>?_) (by rw[hl];exact z) λh' J keep=>?_
       .refine awv u x.1 ?_
        rw[<- Q7 Y,<- R];exact bc.mpr ⟨x,hx,rfl⟩
       .have L:H s.heap.objs.size=none:=I.Av.fresh (bw _)
        obtain⟨S2,yx,r2⟩:=a4c (X:=X) S L Y;refine⟨.ref s.heap.objs.size,upd H s.heap.objs.size (.dT l),I.laid (a:=s.heap.objs.size) (o:=.dT l) (t':=s.toks) keep (bw _) ?_,rfl,q _ _ _ yx S2 r2⟩;obtain⟨o,es,ep,g1,g2,g3,g4,g5,g6⟩:=J;exact⟨z,v7.mpr (j0 (gh I.big)),y,Z.keeps (λb ys e=>by rw[m5 (m9 e L)];exact e),o,es,ep,g1,g2,g3,g4,g6⟩
      .cases e
     .cases e
    |_=>cases e
set_option tactic.hygienic true in
theorem ints_rep{ι:Io}{H:Hp}{K:Fg}:∀{G:List Dv}{J:List V}{is:Zl}{U:Xs},p8 K ι H G J->Vals J is->MW.Yw G=some U->∃Z:Array (Int×Tok),is.toArray=intItems Z/\Z.toList.map (·.1)=U
 |_,_,_,_,.nil,.nil,h=>by cases h;exact⟨#[],by simp[intItems],rfl⟩
 |_,_,_,_,.cons r t,.cons rv tv,h=>by
  cases r<;>simp only[MW.Yw] at h<;>try cases h
  rename_i i;obtain⟨C,S,L⟩:=dq.mp h;obtain⟨Z,y,u⟩:=ints_rep t tv S;obtain⟨R,rfl⟩:=rv;refine⟨#[(i,R)]++Z,?_,by simp[u,L]⟩;have Y:=ud Array.toList y;apply Array.toList_inj.mp;simp[intItems] at Y ⊢;exact Y
theorem ael:∀(l:Xs)(z m:Int),(m=z\/m∈l)->z<=m->(∀a∈l,a<=m)->l.foldl (λm x=>if m<x then x else m) z=m
 |[],z,m,h,_,_=>by rcases h with h|h;exact h.symm;cases h
 |a::l,z,m,h,hz,Eg=>by
  rw[List.foldl_cons];have U:=Eg a cu;refine ael l _ m ?_ (by split<;>lia) (λb G=>Eg b (bh _ G));rcases h with h|h
  .subst h;left;split<;>lia
  .rcases cj.mp h with h|h
   .subst h
    by_cases Z:z<m
    .left;rw[dg Z]
    .left;rw[bx Z];lia
   .exact .inr h
theorem aem:∀(l:Xs)(z m:Int),(m=z\/m∈l)->m<=z->(∀a∈l,m<=a)->l.foldl (λm x=>if x<m then x else m) z=m
 |[],z,m,h,_,_=>by rcases h with h|h;exact h.symm;cases h
 |a::l,z,m,h,hz,Eg=>by
  rw[List.foldl_cons];have U:=Eg a cu;refine aem l _ m ?_ (by split<;>lia) (λb G=>Eg b (bh _ G));rcases h with h|h
  .subst h;left;split<;>lia
  .rcases cj.mp h with h|h
   .subst h
    by_cases Z:m<z
    .left;rw[dg Z]
    .left;rw[bx Z];lia
   .exact .inr h
def aww(e:MW.two ds f g M=.ok d Z):Z=M/\((∃i j,ds=[.int i,.int j]/\d=.int (f i j))\/∃x m,ds=[x]/\g x=some m/\d=.int m):=by
 cases ds with
 |nil=>cases e
 |cons x r=>cases r with
  |nil =>
   obtain⟨R,U⟩:=xq (show Res.u5 ((g x).map MW.D.int) M=.ok d Z from e);obtain⟨m,G,e4⟩:=dq.mp R;exact⟨U,.inr ⟨x,m,rfl,G,e4.symm⟩⟩
  |cons y r=>cases r with
   |nil =>
    cases x<;>try cases e
    cases y<;>cases e;exact⟨rfl,.inl ⟨_,_,rfl,rfl⟩⟩
   |cons _ _=>cases e
def aen{h:List Int->Option Int}(e:MW.two ds f (λd=>((MW.du M d).bind MW.Yw).bind h) M=.ok d M'):M'=M/\((∃i j,ds=[.int i,.int j]/\d=.int (f i j))\/∃x G n Z m,ds=[x]/\MW.du M x=some G/\MW.Yw G=some (n::Z)/\h (n::Z)=some m/\d=.int m\/h []=some m):=by
 obtain⟨a,b|⟨x,m,h3,h4,h5⟩⟩:=aww e
 .exact⟨a,.inl b⟩
 .obtain⟨Z,R,U⟩:=gq.mp h4
  obtain⟨G,e7,e8⟩:=gq.mp R;cases Z with
  |nil=>exact⟨a,.inr ⟨x,G,0,[],m,.inr U⟩⟩|cons n Z=>exact⟨a,.inr ⟨x,G,n,Z,m,.inl ⟨h3,e7,e8,U,h5⟩⟩⟩
def Xm(h:Vals [v] Z):∃u,Z=[u]/\RelV v u:=L2.Vals.one h
def Zw(h:i<Z.size):(Z.toList.map (·.1))[i]?=some (numAt Z i):=by simp[numAt,h]
def best{Z:Array (Int×Tok)}{R:Int->Int->Prop}(g2:Z.toList.map (·.1)=n::l)(h:b<Z.size)(b2:∀i,i<Z.size->R (numAt Z i) (numAt Z b)):(numAt Z b=n\/numAt Z b∈l)/\∀a∈n::l,R a (numAt Z b):=by
 constructor
 .have:=ao (Zw h)
  rw[g2] at this;exact cj.mp this
 .intro a ha
  rw[<- g2] at ha;obtain⟨i,G⟩:=wy.mp ha;have U:i<Z.size:=by have:=(ak.mp G).1;simpa using this
  rw[Zw U] at G;cases G;exact b2 i U
def ajl(r:p8 K ι H [.int i,.int j] vs):vs=[.int i,.int j]:=by
 cases r with
 |cons R G=>cases G with
  |cons Z U=>cases U;cases R;cases Z;rfl
def ajm(I:Inv X pins σ H s)(S:lq nm X.K ι H M)(r:p8 X.K ι H [x] vs)(Uk:Vals vs us)(e1:MW.du M x=some R)(e2:MW.Yw R=some (n::ns)):∃a Z,us=[.ref a]/\s.heap.IsList a (intItems Z)/\Z.toList.map (·.1)=n::ns/\0<Z.size:=by obtain⟨v,rfl,rv⟩:=Ls r rfl;obtain⟨u,rfl,ru⟩:=Xm Uk;obtain⟨p,ws,rfl,hp,rl⟩:=um S rv e1;cases ru;obtain⟨is,G,pl,_⟩:=I.list (Gw.of hp);obtain⟨Z,g1,U⟩:=ints_rep rl G e2;refine⟨_,Z,rfl,by rw[<- g1];exact pl.isList,U,?_⟩;have:=ud List.length U;simp at this;lia
def ba9(U:X.calm=true):Ci X (.builtin "max") (rB nm X.K .max):=λZ s σ H vs us Q I Uk hh=>by
 obtain⟨ι,M,ds,d,M',S,r,e,q⟩:=hh;obtain⟨rfl,⟨i,j,rfl,rfl⟩|⟨x,xs,n,l,m,⟨rfl,e1,e2,G,rfl⟩|G⟩⟩:=aen (h:=MW.a0u) e
 .cases ajl r
  exact alg U Z s σ H _ us Q I Uk ⟨i,j,rfl,q ι H _ (Le.refl _ _) S (.int _)⟩
 .obtain⟨a,xa,rfl,pl,g2,Uw⟩:=ajm I S r Uk e1 e2
  refine max_intList (I.ok.hd U) pl Uw λw h' tk hw keep=>?_
  obtain⟨t,rfl⟩:=intItems_at hw;obtain⟨b1,b2⟩:=argBest_gt (numAt xa) (xa.size-1);obtain⟨c1,c2⟩:=best (R:=(·<=·)) g2 (by omega) λi hi=>b2 i (by lia)
  cases G;rw[ael l n _ c1 (c2 n cu) λa h=>c2 a (bh _ h)] at q;exact⟨.int _,H,I.kept keep,⟨t,rfl⟩,q ι H _ (Le.refl _ _) S (.int _)⟩
 .cases G
def aeo(n d:Nat)(o:Option Int):HT.sIx n d o=MW.clip n d o:=by
 cases o with
 |none=>rfl
 |some i =>
  show(if i<0 then(i+(n:Int)).toNat else min i.toNat n)=(if 0<=i then min i.toNat n else(i+(n:Int)).toNat)
  by_cases h:i<0
  .rw[dg h,bx (by lia)]
  .rw[bx h,dg (by lia)]
def tO(R:Nm)(W:Hh)(K:Fg)(o:OEx):TO:=fun σ H Q=>∃U ρ M d M',lq R K U H M/\vy K U H ρ σ/\o.den W ρ M=.ok d M'/\∀Z G,Le U H Z G->lq R K Z G M'->Q d G
def PO.weak(h:PO X e t)(w:∀G H Q,t' G H Q->t G H Q):PO X e t':=λZ s G H Q I q=>h Z s G H Q I (w G H Q q)
def PO.of(h:PO X e t)(w:∀σ H Q G U M d M',lq nm X.K G H M->vy X.K G H U σ->o'.den W U M=.ok d M'->(∀Z H',Le G H Z H'->lq nm X.K Z H' M'->Q d H')->t σ H Q):PO X e (tO nm W X.K o'):=PO.weak h fun σ H Q z_=>by obtain⟨G,U,M,d,M',S,R,e,q⟩:=z_;exact w σ H Q G U M d M' S R e q
def awx:PO X none (tO nm W X.K .none):=PO.of av4 λU H Q Z G M d M' S R e q=>by rw[MW.akz] at e;cases e;exact q Z H (Le.refl _ _) S
set_option tactic.hygienic true in
def awy(G:PE X a (tE nm W X.K U)):PO X (some a) (tO nm W X.K (.some U)):=PO.of (av5 G) λu H Q ι ρ M d M' S R e q=>by rw[MW.ak0] at e;obtain⟨x,y,J,e⟩:=gn e;split at e<;>cases e;rename_i i;exact one S R J λZ C v le Y L r=>by cases r;exact⟨i,rfl,q Z C le Y⟩
set_option tactic.hygienic true in
def bba(ha:PE X a (tE nm W X.K a'))(hl:PO X lo (tO nm W X.K L))(hh:PO X hi (tO nm W X.K u)):PE X (.Subscript a (.Slice lo hi none p2) pos) (tE nm W X.K (.cut a' L u)) :=
 PE.of (apy av6 ha hl hh) fun σ H Q ι ρ M d M' S R e q=>by
  rw[MW.aut] at e;obtain⟨x,M1,e1,e⟩:=gn e;obtain⟨l,M2,e2,e⟩:=gn e;obtain⟨h,M3,e3,e⟩:=gn e;obtain⟨e4,e5⟩:=xq e;subst e5;refine one S R e1 λY H1 v le S1 R1 r=>⟨Y,ρ,M1,l,M2,S1,R1,e2,λqq H2 yx S2=>⟨qq,ρ,M2,h,_,S2,R1.mono yx,e3,λG H3 Zq S3=>?_⟩⟩
  have r3:=(r.mono yx).mono Zq;have fin:=λU H' w Ye S' r'=>q U H' w (((le.trans yx).trans Zq).trans Ye) S' r'
  have lst:∀Z,MW.du M' x=some Z->d=.vl (MW.age Z l h)->a9u X.K v l h H3 Q:=λZ C y=>by
   obtain⟨p,vs,rfl,hp,rl⟩:=um S3 r3 C;refine⟨p,vs,rfl,Gw.of hp,λp' J=>?_⟩;have:p8 X.K G H3 (MW.age Z l h) (alo vs l h):=by unfold MW.age alo;rw[aeo,aeo,<- rl.length];exact(rl.drop _).take _
   obtain⟨S4,qk,r4⟩:=abg (X:=X) S3 J this;subst y;exact fin _ _ _ qk S4 r4
  obtain⟨Z,C,y⟩:=dq.mp (show(MW.du M' x).map (λZ=>MW.D.vl (MW.age Z l h))=some d from e4);exact lst Z C y.symm
def aep(K:Fg)(T:String):PySem.W.kitOne K (.type T) (.type T)=some true:=by unfold PySem.W.kitOne;rw[dg (by simp)]
def bbb{bt bi:Option Bool}(ht:∀b,bt=some b->PySem.W.kitOne X.K (.type "tuple") (.type T)=some b)(hi:∀b,bi=some b->PySem.W.kitOne X.K (.type "int") (.type T)=some b)(hb:∀d M,MW.o8 t [d] M=MW.isR bt bi M d)(hg:Gl X n)(hm:X.mg n=none)(hv:bootBuiltins n=some (.builtin "isinstance"))(hn:n≠"__name__")(Tn:(n==("__debug__" : Str))=false)(q1:Gl X G)(q2:X.mg G=none)(qv:bootBuiltins G=some (.type T))(Yu:G≠"__name__")(q0:(G==("__debug__" : Str))=false)(ha:PE X a (tE nm W X.K a'))(he:starEach [a,.Name G p'] X.env=(false,eval a X.env)::starEach [.Name G p'] X.env)(qk:starEach [.Name G p'] X.env=(false,eval (.Name G p') X.env)::starEach [] X.env)(Jq:(backTo pos (starEach [.Name G p'] X.env)).any (·.1)=false):PE X (.Call (.Name n p) [a,.Name G p'] [] pos) (tE nm W X.K (.blt t (.cons a' .nil))):=by
 intro qq s σ H Q I hh;obtain⟨ι,ρ,M,d,M',S,R,e,q⟩:=hh;rw[MW.Vy] at e;obtain⟨ds,M1,e1,e⟩:=gn e;rw[MW.Dl] at e1;obtain⟨x,M2,e2,e1⟩:=gn e1;rw[MW.Ni] at e1;cases e1;refine iw (Cw I hg hm hv ?_ hn Tn);refine wj (Q:=EP X qq σ Q) ?_ he Jq;rw[he];show wpAny _ _ (spliced ((false,eval a X.env)::backTo pos (starEach [.Name G p'] X.env))) _ _ s;refine j7 (Bu (ha qq s σ H (λv U=>∃Z,Le ι H Z U/\lq nm X.K Z U M1/\Rep X.K Z U x v) I ⟨ι,ρ,M,x,M1,S,R,e2,λZ U v le S1 r=>⟨Z,le,S1,r⟩⟩) λu s1 z_=>?_);obtain⟨v,U,I1,r1,Z,le,S1,r⟩:=z_;rw[qk];show wpAny _ _ (spliced ((false,eval (.Name G p') X.env)::backTo pos (starEach [] X.env))) _ _ s1;refine j7 (Cw I1 q1 q2 qv ?_ Yu q0);refine su ?_;have e:MW.o8 t [x] M1=.ok d M':=e;rw[hb] at e;obtain⟨e4,rfl⟩:=xq e;obtain⟨b,e3,rfl⟩:=dq.mp e4;cases r with
 |tup h r=>exact Zb I1 r1 (.tup h) (ht b e3) λtk=>⟨.bl b,U,I1.tok _,rfl,q Z U _ le S1 (.bl b)⟩
 |int i=>exact Zb I1 r1 (.int i) (hi b e3) λtk=>⟨.bl b,U,I1.tok _,rfl,q Z U _ le S1 (.bl b)⟩
 |_=>cases e3
def bbc(U:X.calm=true):Ci X (.builtin "min") (rB nm X.K .min):=λZ s σ H vs us Q I Uk hh=>by
 obtain⟨ι,M,ds,d,M',S,r,e,q⟩:=hh;obtain⟨rfl,⟨i,j,rfl,rfl⟩|⟨x,xs,n,l,m,⟨rfl,e1,e2,G,rfl⟩|G⟩⟩:=aen (h:=MW.a75) e
 .cases ajl r
  exact alh U Z s σ H _ us Q I Uk ⟨i,j,rfl,q ι H _ (Le.refl _ _) S (.int _)⟩
 .obtain⟨a,xa,rfl,pl,g2,Uw⟩:=ajm I S r Uk e1 e2
  refine min_intList (I.ok.hd U) pl Uw λw h' tk hw keep=>?_
  obtain⟨t,rfl⟩:=intItems_at hw;obtain⟨b1,b2⟩:=argBest_lt (numAt xa) (xa.size-1);obtain⟨c1,c2⟩:=best (R:=λa b=>b<=a) g2 (by omega) λi hi=>b2 i (by lia)
  cases G;rw[aem l n _ c1 (c2 n cu) λa h=>c2 a (bh _ h)] at q;exact⟨.int _,H,I.kept keep,⟨t,rfl⟩,q ι H _ (Le.refl _ _) S (.int _)⟩
 .cases G
def Yo{n:Nat}(hh:A.handled=none)(hr:IsRange s.heap r a b c t u v)(Xn:Builtin.Range.small a b c=true)(hn:Builtin.Range.rangeSize a b c=n)(qk:n<=2 ^ 24)(hQ:∀(G:Heap) (U:Nat) (Z:U1),(∀b o,s.heap.get? b=some o->G.get? b=some o)->ItemsOf (λi v=>∃t,v=.int (a+i*c) t) Z n->Q Z.toList { s with heap:=G,toks:=U }):wpAny (model prog w) A (collect (.ref r)) Q E s:=by
 unfold collect;refine aa (wpAny_runValue (m7 F.entry_proto_collect ?_));rw[j9 F.plain_proto_collect _];show wpAny _ A.in1 (newList [] >>= λl=>again (.builtin "list.__iadd__" ⟨[l,.ref r],[]⟩)) _ _ s;refine aa (t8 ?_);refine aj ⟨plainId_quiet F.plain_list_iadd _,m7 F.entry_list_iadd ?_⟩;rw[j9 F.plain_list_iadd _];show wpAny _ A.in1 (Builtin.List.listExtendWith (.ref s.heap.objs.size) (.ref r) (.ref s.heap.objs.size)) _ _ _;have keep:∀b o,s.heap.get? b=some o->(s.heap.push { cls:=.type "list",data:=.seq ([]:Zl).toArray }).get? b=some o:=λb o e=>au _ e
 have q1:(s.heap.push { cls:=.type "list",data:=.seq ([]:Zl).toArray }).get? s.heap.objs.size=some { cls:=.type "list",data:=.seq #[] 0 }:=bu _ rfl;have q0:=wpAny_extend_range (prog:=prog) (w:=w) (A:=A) (R:=λr' s'=>∃(G:Heap)(U:Nat)(Z:U1)(c':Nat),r'=.ok (.ret (.ref s.heap.objs.size))/\s'={ s with heap:=G,toks:=U }/\(∀b o,s.heap.get? b=some o->G.get? b=some o)
 /\G.get? s.heap.objs.size=some { cls:=.type "list",dict:=none,data:=.seq Z c',slots:=#[] }/\ItemsOf (λi v=>∃t,v=.int (a+i*c) t) Z n)
  (s:={ s with heap:=s.heap.push { cls:=.type "list",data:=.seq ([]:Zl).toArray } }) hh (keep _ _ hr) Xn hn qk s.heap.objs.size (.ref s.heap.objs.size) 0 q1
  λG U Z c' hk hS Fp=>⟨G,U,Z,c',rfl,rfl,λb o e=>hk b o (gh (az e)) (keep b o e),hS,Fp⟩
 have qq:∀{r':Result}{s':Shared},(∃(G:Heap)(U:Nat)(Z:U1)(c':Nat),r'=.ok (.ret (.ref s.heap.objs.size))/\s'={ s with heap:=G,toks:=U }/\(∀b o,s.heap.get? b=some o->G.get? b=some o)
 /\G.get? s.heap.objs.size=some { cls:=.type "list",dict:=none,data:=.seq Z c',slots:=#[] }/\ItemsOf (λi v=>∃t,v=.int (a+i*c) t) Z n)->∃(G:Heap)(U:Nat)(Z:U1)(c':Nat),r'=.ok (.ret (.ref s.heap.objs.size))/\s'={ s with heap:=G,toks:=U }/\G.get? s.heap.objs.size=some { cls:=.type "list",dict:=none,data:=.seq Z c',slots:=#[] }/\Q Z.toList s':=λ⟨G,U,Z,c',e1,e2,e3,e4,e5⟩=>⟨G,U,Z,c',e1,e2,e4,by rw[e2];exact hQ G U Z e3 e5⟩
 refine mj q0 (λfin s' hf=>?_) (λe s' he=>?_)
 .cases fin with
  |done f =>
   obtain⟨G,U,Z,c',e1,rfl,e4,e5⟩:=qq hf;cases e1;exact aa (wpAny_load e4 (aj e5))
  |again c' =>
   refine⟨hf.1,w6 hf.2 λr' q2 qv=>?_⟩;obtain⟨G,U,Z,c',e1,rfl,e4,e5⟩:=qq qv;subst e1;exact aa (wpAny_load e4 (aj e5))
 .obtain⟨_,_,_,_,e1,_⟩:=qq he
  cases e1
def Ul{n:Nat}(hh:A.handled=none)(hr:IsRange s.heap r a b c t u v)(Xn:Builtin.Range.small a b c=true)(hn:Builtin.Range.rangeSize a b c=n)(Z:n<=2 ^ 24)(h:∀(U:Heap) (tk:Nat) (acc:U1),(∀b o,s.heap.get? b=some o->U.get? b=some o)->ItemsOf (λi v=>∃t,v=.int (a+i*c) t) acc n->G (.ref U.objs.size) { s with heap:=U.push { cls:=.type "tuple",data:=.seq acc },toks:=tk }) :
 codeAny (model prog w) A (.call (.builtin "tuple.__new__") ⟨[.type "tuple",.ref r],[]⟩) (wants G E) s:=by
 refine codeAny_of_tree ?_;show wpAny _ A.in1 (do checkBuiltinCall "tuple.__new__" ⟨[.type "tuple",.ref r],[]⟩;again (.builtin "tuple.__new__" ⟨[.type "tuple",.ref r],[]⟩)) _ _ s;refine aa (wpAny_of_eq (F.newCall_tuple_1 _) (aj ⟨plainId_quiet F.plain_tuple_new _,m7 F.entry_tuple_new ?_⟩));rw[j9 F.plain_tuple_new _];have qv:=sub_tuple_self;have qq:=init_tuple_lookup;have qk:=madeHere_tuple;have R:s.TypeIs (.ref r) "range" := ⟨_,hr,rfl⟩
 wp_walk using u0 R,Yo (A:=A.in1) hh hr Xn hn Z
 intro U tk acc hk Fp;show wpAny _ _ (Builtin.Tuple.tupleExact acc.toList.toArray >>= λv=>ret v) _ _ _;unfold Builtin.Tuple.tupleExact;refine aa (t8 ?_ (by show acc.toList.toArray.size<=sizeLine;simp only[Array.toArray_toList];rw[Fp.1,qb];exact Z));refine aj ?_;have e:acc.toList.toArray=acc:=by simp
 rw[e];exact h U tk acc hk Fp
def Um{n:Nat}(hh:A.handled=none)(hr:IsRange s.heap r a b c t u v)(Xn:Builtin.Range.small a b c=true)(hn:Builtin.Range.rangeSize a b c=n)(R:n<=2 ^ 24)(hQ:∀(h':Heap) (tk:Nat) (U:U1),(∀b o,s.heap.get? b=some o->h'.get? b=some o)->ItemsOf (λi v=>∃t,v=.int (a+i*c) t) U n->Q (.ref h'.objs.size) { s with heap:=h'.push { cls:=.type "tuple",data:=.seq U },toks:=tk }) :
 wpAny (model prog w) A (call (.type "tuple") [.ref r]) Q E s:=by
 refine callType_codes (Q₁:=λobj Z=>Z.TypeIs obj "tuple"/\Q obj Z) F.called_tuple (F.typeCall_tuple_1 _) F.entry_object_init
  (Ul (A:=A.in1) hh hr Xn hn R λh' tk U hk Fp=>⟨⟨_,bu _ rfl,rfl⟩,hQ h' tk U hk Fp⟩) λobj Z G=>?_
 exact⟨G.1,F.args_object_init_2 obj _,object_init_meets F.called_tuple.init.lookup F.called_tuple.made (by decide) prog w A.in1 _ Z ⟨G.1,rfl,G.2⟩⟩
def Xo(h:ItemsOf (λi v=>∃t,v=.int (0+(i:Int)*1) t) acc n):Vals ((List.range n).map λ(k:Nat)=>V.int (k:Int)) acc.toList:=by
 have go:∀(l:Zl)(k:Nat),(∀(j:Nat)(v:Value),l[j]?=some v->∃t,v=Value.int ((k+j:Nat):Int) t)->Vals ((List.range' k l.length).map λ(k:Nat)=>V.int (k:Int)) l:=by
  intro l
  induction l with
  |nil=>intro k _;exact .nil
  |cons v l U =>
   intro k G;rw[il,List.range'_succ,ig];refine .cons ?_ (U (k+1) λj v Z=>?_)
   .exact G 0 v rfl
   .obtain⟨t,e⟩:=G (j+1) v (by simpa using Z)
    exact⟨t,by rw[e];congr 1;lia⟩
 have:=go acc.toList 0 (λj v Z=>by
  obtain⟨t,e⟩:=h.2 j v (by simpa using Z);exact⟨t,by rw[e];congr 1;lia⟩)
 rw[v5,h.1,<- List.range_eq_range'] at this;exact this
def Xp(n:Nat):p8 K G H ((List.range n).map λ(k:Nat)=>MW.D.int (k:Int)) ((List.range n).map λ(k:Nat)=>V.int (k:Int)):=by
 generalize List.range n=l
 induction l with
 |nil=>exact .nil|cons k l Z=>exact .cons (.int _) Z
set_option tactic.hygienic true in
def a4e(hr:Aj 8 X.A)(hg:Gl X n)(hm:X.mg n=none)(hv:bootBuiltins n=some (.type "tuple"))(hn:n≠"__name__")(Tn:(n==("__debug__" : Str))=false)(q0:Gl X G)(q4:X.mg G=none)(qk:bootBuiltins G=some (.type "range"))(Yu:G≠"__name__")(qv:(G==("__debug__" : Str))=false)(ha:PA X [a] (Yd nm W X.K (.cons a' .nil)))(he:starEach [.Call (.Name G p') [a] [] y] X.env=(false,eval (.Call (.Name G p') [a] [] y) X.env)::starEach [] X.env)(Jq:(backTo q1 (starEach [] X.env)).any (·.1)=false)(qq:starEach [a] X.env=(false,eval a X.env)::starEach [] X.env)(q3:(backTo y (starEach [] X.env)).any (·.1)=false) :
 PE X (.Call (.Name n p) [.Call (.Name G p') [a] [] y] [] q1) (tE nm W X.K (.acs a')):=by
 intro Z s σ H Q I hh;obtain⟨ι,ρ,M,d,M',S,R,e,q⟩:=hh;rw[MW.an4] at e;obtain⟨x,M1,e1,e⟩:=gn e;split at e<;>try cases e
 rename_i i;split at e<;>cases e;rename_i hi;refine iw (Cw I hg hm hv ?_ hn Tn);refine jh (Q:=EP X Z σ Q) ?_ he Jq;rw[he];show wpAny _ _ (spliced ((false,eval (.Call (.Name G p') [a] [] y) X.env)::backTo q1 (starEach [] X.env))) _ _ s;refine j7 ?_;refine iw (Cw I q0 q4 qk ?_ Yu qv);refine jh (Bu (ha y Z s σ H (λvs J=>∃Y,vs=[.int i]/\Le ι H Y J/\lq nm X.K Y J M') I ⟨ι,ρ,M,[.int i],M',S,R,by simp[e1,Res.bind],λY J vs le S1 r=>?_⟩) λus U ⟨vs,J,I1,r1,Y,ev,V6,S1⟩=>?_) qq q3
 .obtain⟨v,ev,rv⟩:=Ls r rfl
  cases rv;exact⟨Y,ev,le,S1⟩
 subst ev;obtain⟨u,rfl,ru⟩:=Xm r1;obtain⟨t,rfl⟩:=ru;refine call_range_1 ?_;show wpAny _ _ (spliced []) _ _ _;refine su ?_;have keep:∀b o,U.heap.get? b=some o->(U.heap.push { cls:=.type "range",data:=.fields #[.int 0 U.toks,.int i t,.int 1 (U.toks+1)] }).get? b=some o:=λb o e=>au _ e
 refine Um (n:=i.toNat) hr.hd (bu _ rfl) (small_one (by lia) (by lia) (by lia) (by omega)) (by rw[rangeSize_one];split<;>lia) (by lia) λC tk L hk Fp=>?_
 have I2:Inv X Z σ J { U with heap:=C,toks:=tk }:=I1.kept λb o e=>hk b o (keep b o e)
 have hz:((List.range i.toNat).map λ(k:Nat)=>V.int (k:Int)).length<=sizeLine:=by simp[qb];omega
 have hf:J C.objs.size=none:=I2.Av.fresh (bw _);have I3:Inv X Z σ (upd J C.objs.size (.tup ((List.range i.toNat).map λ(k:Nat)=>V.int (k:Int)))) { U with heap:=C.push { cls:=.type "tuple",data:=.seq L },toks:=tk } :=
  I2.laid (a:=C.objs.size) (t':=tk) (λb o e=>au _ e) (bw _) (show Ba X.prog X.w _ _ _ (.tup _) from⟨hz,L.toList,Xo Fp,by simpa using L2.aa3.new _ _⟩)
 obtain⟨S2,yx,r2⟩:=Ss (X:=X) S1 hf (Xp i.toNat);exact⟨.ref C.objs.size,_,I3,rfl,q Y _ _ (V6.trans yx) S2 r2⟩
end Sm
namespace EnT
open PySem PySem.Spec
open AutoSeq1 (wpAny_loadPart')
set_option tactic.hygienic true in
def aqt(a:s.heap.IsTupleIter it t i)(b:s.heap.IsTuple t J)(e:J[i]?=some x)(q:∀G,G.IsTupleIter it t (i+1)->Heap.SameBut it s.heap G->Q x { s with heap:=G }):wpAny (model prog w) A (Builtin.SmallTypes.nextOf (.ref it)) Q E s:=by obtain⟨o,Y,U,Z⟩:=id a;obtain⟨R,L,y,S,C⟩:=b;unfold Builtin.SmallTypes.nextOf;refine aa (kh (name:=Str.ofString "__next__") a.typeIs vq (jz vq a.typeIs F.entry_tuple_iterator_next ?_ (F.args_tuple_iterator_next_1 _)));show wpAny _ _ (field (.ref it) 0 >>= _) _ _ s;refine aa (jg Y Z (x:=.ref t) rfl ?_);show wpAny _ _ (if(Value.ref t==Value.none)=true then _ else field (.ref it) 1 >>= _) _ _ s;rw[bx (show ¬((Value.ref t==Value.none)=true) by exact jb)];refine aa (jg Y Z (x:=.int i 0) rfl (aa (uc L C ?_)));simp only[vz,e];refine aa (wpAny_setField Y Z (by simp) (aj ⟨x,rfl,aj (q _ ⟨_,mq _ Y (Obj.isFreed_of_fields (Obj.data_mapFields Z _)),(Obj.cls_mapFields ..).trans U,?_⟩ (j6 ..))⟩));rw[Obj.data_mapFields Z];simp[rawInt]
set_option tactic.hygienic true in
def aw1(U:A.handled=none)(a:s.heap.IsTupleIter it t i)(b:s.heap.IsTuple t J)(e:J[i]?=none)(q:∀Z x,Heap.ExtBut it s.heap Z->(∃o,Z.get? x=some o/\o.cls=.type "StopIteration")->E (.ref x) { s with heap:=Z }):wpAny (model prog w) A (Builtin.SmallTypes.nextOf (.ref it)) Q E s:=by obtain⟨o,Y,R,G⟩:=id a;obtain⟨S,L,u,y,C⟩:=b;unfold Builtin.SmallTypes.nextOf;refine aa (kh (name:=Str.ofString "__next__") a.typeIs vq (jz vq a.typeIs F.entry_tuple_iterator_next ?_ (F.args_tuple_iterator_next_1 _)));show wpAny _ _ (field (.ref it) 0 >>= _) _ _ s;refine aa (jg Y G (x:=.ref t) rfl ?_);show wpAny _ _ (if(Value.ref t==Value.none)=true then _ else field (.ref it) 1 >>= _) _ _ s;rw[bx (show ¬((Value.ref t==Value.none)=true) by exact jb)];refine aa (jg Y G (x:=.int i 0) rfl (aa (uc L C ?_)));simp only[vz,e];refine aa (wpAny_rule (aa (wpAny_setField Y G (by simp) ?_)));show wpAny _ _ (newExc (.type "StopIteration") [] >>= raiseNew) _ _ _;exact Wa.aia U λZ x k e=>q Z x (λb o n z=>k b o ((j6 ..).extBut b o n z)) e
def Zx(b:Bool)(h:Heap)(it a:Addr)(i:Nat):Prop:=cond b (h.IsTupleIter it a i) (h.IsListIter it a i)
def SqB(b:Bool)(h:Heap)(a:Addr)(Z:U1):Prop:=cond b (h.IsTuple a Z) (h.IsList a Z)
def Zx.at(x:Zx b h it a i)(k:∀o,h.get? it=some o->Z.get? it=some o):Zx b Z it a i:=by
 cases b with
 |true=>obtain⟨o,e,r⟩:=x;exact⟨o,k o e,r⟩
 |false=>obtain⟨o,e,r⟩:=x;exact⟨o,k o e,r⟩
def Zx.obj(x:Zx b h it a i):∃o,h.get? it=some o/\∀v,o.data≠.cell v:=by
 cases b with
 |true=>obtain⟨o,e,c,d⟩:=x;exact⟨o,e,λv z=>by rw[d] at z;cases z⟩
 |false=>obtain⟨o,e,c,d⟩:=x;exact⟨o,e,λv z=>by rw[d] at z;cases z⟩
def aeq(a:Zx b s.heap it t i)(c:SqB b s.heap t G)(e:G[i]?=some x)(q:∀Z,Zx b Z it t (i+1)->Heap.SameBut it s.heap Z->Q x { s with heap:=Z }):wpAny (model prog w) A (Builtin.SmallTypes.nextOf (.ref it)) Q E s:=by
 cases b with
 |true=>exact aqt a c e q|false=>exact wpAny_nextOf_list_item a c e q
def ajn(G:A.handled=none)(a:Zx b s.heap it t i)(c:SqB b s.heap t U)(e:U[i]?=none)(q:∀Z x,Heap.ExtBut it s.heap Z->(∃o,Z.get? x=some o/\o.cls=.type "StopIteration")->E (.ref x) { s with heap:=Z }):wpAny (model prog w) A (Builtin.SmallTypes.nextOf (.ref it)) Q E s:=by
 cases b with
 |true=>exact aw1 G a c e q|false=>exact wpAny_nextOf_list_end G a c e q
def aw2{i:Nat}{Q:Y1}(he:IsEnum s.heap e it i old)(a:Zx b s.heap it t i)(c:SqB b s.heap t xs)(ex:xs[i]?=some x)(ne:e≠it)(q:∀U,IsEnumOut U e it ((i:Int)+1) x s.heap.objs.size->Zx b U it t (i+1)->U.get? s.heap.objs.size=some { cls:=.type "tuple",data:=.seq #[.int i s.toks,x] }->U.objs.size=s.heap.objs.size+1 ->
 (∀y o,y≠e->y≠it->s.heap.get? y=some o->U.get? y=some o)->Q (.ref s.heap.objs.size) { s with heap:=U,toks:=s.toks+1 }) :
 wpAny (model prog w) A (Builtin.«enumerate.__next__» ⟨[.ref e],[]⟩) (λfin s'=>∃v,fin=.done (.ret v)/\Q v s') E s:=by
 obtain⟨R,g,d,tk,os⟩:=s;show wpAny _ _ (field (.ref e) 2 >>= _) _ _ _;refine aa (jg he rfl (x:=.ref it) rfl (aa (aeq a c ex λh1 a1 s1=>?_)));have s1:Heap.SameBut it R h1:=s1;have e1:IsEnum h1 e it i old:=(s1.2 e ne).trans he;refine aa (jg e1 rfl (x:=rawInt i) rfl (aa (jg e1 rfl (x:=.none) rfl (aa (wpAny_mkInt ?_)))));show wpAny _ _ (setField (.ref e) 3 (rawInt ((i:Int)+1)) >>= _) _ _ ⟨h1,g,d,tk+1,os⟩;refine aa (jf e1 (by simp) λh2 e2 s2=>?_);have s2:Heap.SameBut e h1 h2:=s2;have e2:IsEnum h2 e it ((i:Int)+1) old:=e2;refine aa (jf e2 (by simp) λh3 e3 s3=>?_);have s3:Heap.SameBut e h2 h3:=s3;have e3:IsEnum h3 e it ((i:Int)+1) old:=e3;refine aa (wpAny_newTuple ?_);have n3:h3.objs.size=R.objs.size:=by rw[s3.1,s2.1,s1.1]
 obtain⟨Z,d4⟩:∃Z,Z=h3.push { cls:=.type "tuple",data:=.seq #[.int i tk,x] }:=⟨_,rfl⟩;have e4:IsEnum Z e it ((i:Int)+1) old:=by rw[d4];exact au _ e3
 have t4:Z.get? R.objs.size=some { cls:=.type "tuple",data:=.seq #[.int i tk,x] }:=by rw[d4,<- n3];exact bu _ rfl
 have n4:Z.objs.size=R.objs.size+1:=by rw[d4,ju,n3]
 have k3:∀y o,y≠e->h1.get? y=some o->Z.get? y=some o:=λy o G z=>by rw[d4];exact au _ (s3.extBut y o G (s2.extBut y o G z))
 have a4:Zx b Z it t (i+1):=a1.at λo z=>k3 it o (j0 ne) z
 have lt:e<R.objs.size:=az he
 show wpAny _ _ (Builtin.SmallTypes.ownedTupleIsFree (.ref e) >>= _) _ _ ⟨h3.push _,g,d,tk+1,os⟩;rw[n3,<- d4];refine aa ?_;unfold Builtin.SmallTypes.ownedTupleIsFree;refine aa (jg e4 rfl (x:=.none) rfl (aj ?_));simp only[ji];refine aa (wpAny_rule (aa (jg e4 rfl (x:=old) rfl (aa (jf e4 (by simp) λh5 e5 s5=>?_)))));have s5:Heap.SameBut e Z h5:=s5;have e5:IsEnum h5 e it ((i:Int)+1) x:=e5;refine aa ?_;unfold Builtin.SmallTypes.ownedTupleHandOut;refine aa (jf e5 (by simp) λh6 e6 s6=>?_);have s6:Heap.SameBut e h5 h6:=s6;have e6:IsEnumOut h6 e it ((i:Int)+1) x R.objs.size:=e6;refine jf e6 (by simp) λh7 e7 s7=>?_
 have s7:Heap.SameBut e h6 h7:=s7;have k7:∀y o,y≠e->Z.get? y=some o->h7.get? y=some o:=λy o G z=>s7.extBut y o G (s6.extBut y o G (s5.extBut y o G z))
 exact aa (wpAny_letGo (aj ⟨_,rfl,q h7 e7 (a4.at λo z=>k7 it o (j0 ne) z) (k7 _ _ (yc lt) t4) (by rw[s7.1,s6.1,s5.1,n4]) λy o y1 y2 z=>k7 y o y1 (k3 y o y1 (s1.extBut y o y2 z))⟩))
set_option tactic.hygienic true in
def aw3{i:Nat}(Y:IsEnum s.heap e it i old)(a:Zx b s.heap it t i)(c:SqB b s.heap t U)(u:U[i]?=some x)(C:e≠it)(q:∀Z,IsEnumOut Z e it ((i:Int)+1) x s.heap.objs.size->Zx b Z it t (i+1)->Z.get? s.heap.objs.size=some { cls:=.type "tuple",data:=.seq #[.int i s.toks,x] }->Z.objs.size=s.heap.objs.size+1 ->
 (∀y o,y≠e->y≠it->s.heap.get? y=some o->Z.get? y=some o)->Q (some (.ref s.heap.objs.size)) { s with heap:=Z,toks:=s.toks+1 }):wpAny (model prog w) A (pyNext (.ref e)) Q E s:=by
 have G:s.TypeIs (.ref e) "enumerate" := ⟨_,Y,rfl⟩;unfold pyNext;refine aa (wpAny_attempt (kh (name:=Str.ofString "__next__") G ye (jz ye G F.entry_enumerate_next ?_ (F.args_enumerate_next_1 _))));exact aw2 Y a c u C λZ R y2 S L J=>aj (q Z R y2 S L J)
set_option tactic.hygienic true in
def aw4{i:Nat}(L:A.handled=none)(Y:IsEnum s.heap e it i old)(a:Zx b s.heap it t i)(c:SqB b s.heap t J)(R:J[i]?=none)(q:∀Z,Heap.ExtBut it s.heap Z->Q none { s with heap:=Z }):wpAny (model prog w) A (pyNext (.ref e)) Q E s:=by have G:s.TypeIs (.ref e) "enumerate" := ⟨_,Y,rfl⟩;unfold pyNext;refine aa (wpAny_attempt (kh (name:=Str.ofString "__next__") G ye (jz ye G F.entry_enumerate_next ?_ (F.args_enumerate_next_1 _))));show wpAny _ _ (field (.ref e) 2 >>= _) _ _ _;refine aa (jg Y rfl (x:=.ref it) rfl (aa (ajn L a c R λZ z k z_=>?_)));obtain⟨o,C,U⟩:=z_;exact aa (o5 (T := "StopIteration") (b:=true) ⟨o,C,U⟩ isSubtype_stop (aj (q _ k)))
set_option tactic.hygienic true in
def aw5(t:Addr)(xs:U1)(n:Nat)(Y:Option Addr)(U:Array (Option Value)) :
 Meets (Builtin.«enumerate.__new__» ⟨[.type "enumerate",.ref t],[]⟩) (λ_ R s=>s.heap.get? t=some { cls:=.type "tuple",dict:=Y,data:=.seq xs n,slots:=U } /\
  R (.ok (.ret (.ref (s.heap.push { cls:=.type "tuple_iterator",data:=.fields #[.ref t,.int 0 0] }).objs.size)))
   { s with heap:=(s.heap.push { cls:=.type "tuple_iterator",data:=.fields #[.ref t,.int 0 0] }).push { cls:=.type "enumerate",data:=.fields #[.none,.bool false,.ref s.heap.objs.size,rawInt 0,.none,.none] } }) :=
 .of_wp λprog w A R s h=>by
  obtain⟨C,g,d,L,J⟩:=s;obtain⟨Z,h⟩:=h;have S:=sub_enumerate;have G:Heap.IsTuple (Shared.heap ⟨C,g,d,L,J⟩) t xs:=⟨_,Z,rfl,n,rfl⟩
  wp_walk using wpAny_loadPart' Z
  refine wpAny_stack_any λst=>aj ?_
  split
  .rename_i c _ _ _ _ _
   cases(c==Value.type "enumerate")<;>(wp_walk using wpAny_loadPart' Z,wpAny_pyIter_tuple G)<;>exact⟨_,rfl,h⟩
  .wp_walk using wpAny_loadPart' Z,wpAny_pyIter_tuple G
   exact⟨_,rfl,h⟩
def aqu(c:s.heap.IsTuple t xs)(q:∀Z,IsEnum Z (s.heap.objs.size+1) s.heap.objs.size 0 .none->Z.IsTupleIter s.heap.objs.size t 0->Z.objs.size=s.heap.objs.size+2 ->
 (∀y o,s.heap.get? y=some o->Z.get? y=some o)->Q (.ref (s.heap.objs.size+1)) { s with heap:=Z }):wpAny (model prog w) A (call (.type "enumerate") [.ref t]) Q E s:=by
 obtain⟨⟨c0,qq,dt,sl⟩,hl,G,n,R⟩:=c;have G:c0=.type "tuple" := G;have R:dt=.seq xs n:=R;subst G R;have U:(s.heap.push { cls:=.type "tuple_iterator",data:=.fields #[.ref t,.int 0 0] }).objs.size=s.heap.objs.size+1:=ju ..;refine callType_new F.called_enumerate (by decide) (F.typeCall_enumerate_1 _) (F.newCall_enumerate_1 _) (λobj=>F.args_object_init_2 obj _) F.entry_enumerate_new (aw5 t xs n qq sl) ⟨hl,?_⟩;show _/\_;rw[U];have e1:IsEnum ((s.heap.push { cls:=.type "tuple_iterator",data:=.fields #[.ref t,.int 0 0] }).push { cls:=.type "enumerate",data:=.fields #[.none,.bool false,.ref s.heap.objs.size,rawInt 0,.none,.none] }) (s.heap.objs.size+1) s.heap.objs.size 0 .none:=by rw[<- U];exact bu _ rfl
 exact⟨⟨_,e1,rfl⟩,q _ e1 ⟨_,au _ (bu _ rfl),rfl,rfl⟩ (by rw[ju,U]) λy o z=>au _ (au _ z)⟩
end EnT
namespace L2
open PySem PySem.Spec EnT
def Inv.Zy{ch:X9}(I:Inv X pins σ H s)(G:∀b∈ch,Vr X pins H b)(k:∀b o,b∉ch->s.heap.get? b=some o->h'.get? b=some o)(hn:s.heap.objs.size<=n)(new:Ba X.prog X.w (upd H n (.tup vs)) h' n (.tup vs)):Inv X pins σ (upd H n (.tup vs)) { s with heap:=h',toks:=t' }:=by
 have U:H n=none:=I.Av.fresh hn;have R:∀b u,H b=some u->b∉ch:=λb u e z=>by rw[(G b z).1] at e;cases e
 have qq:∀b o,s.heap.get? b=some o->b≠n:=λb o e=>gh (ir (az e) hn)
 refine I.step (g':=s.gens) (d':=s.drawn) (ch:=ch) (λb hb=>⟨(G b hb).2.2.2.1,(G b hb).2.1,(G b hb).2.2.2.2.1,(G b hb).2.2.2.2.2⟩) (λb o _ _ Z e _=>k b o Z e) (λb o _ _ Z e _=>⟨o.slots,k b o Z e⟩) (λb o _ e n0=>by rw[m5 (qq b o e)];exact n0)
  (λb o Z e=>⟨o,k b o Z e⟩) (λb xs e=>by rw[m5 (m9 e U)];exact e) (λb o u e=>by rw[m5 (m9 e U)];exact e) (λb ps e=>⟨#[],by rw[m5 (m9 e U),e];simp⟩) (λm hm=>?_) (λb u e=>?_) I.bare
 .obtain⟨o,es,ep,ho,r⟩:=hm
  exact⟨o,es,ep,k _ o (λz=>(G _ z).2.1 rfl) ho,r⟩
 .by_cases z:b=n
  .subst z;rw[xm] at e;cases e;exact new
  .rw[m5 z] at e
   refine(I.Av b u e).stay (λc v Z q=>k c v ?_ q) (λc q=>by rw[m5 (m9 q U)];exact q) λc xs q=>by rw[m5 (m9 q U)];exact q
   rcases Z with y|y
   .rw[y];exact R b u e
   .exact R c _ y
def Inv.ajo{ch:X9}(I:Inv X pins σ H s)(G:∀b∈ch,Vr X pins H b)(k:∀b o,b∉ch->s.heap.get? b=some o->h'.get? b=some o):Inv X pins σ H { s with heap:=h',toks:=t' }:=by
 have U:∀b u,H b=some u->b∉ch:=λb u e z=>by rw[(G b z).1] at e;cases e
 refine I.step (g':=s.gens) (d':=s.drawn) (ch:=ch) (λb R=>⟨(G b R).2.2.2.1,(G b R).2.1,(G b R).2.2.2.2.1,(G b R).2.2.2.2.2⟩) (λb o _ _ Z e _=>k b o Z e) (λb o _ _ Z e _=>⟨o.slots,k b o Z e⟩) (λb o _ e n0=>n0)
  (λb o Z e=>⟨o,k b o Z e⟩) (λb xs e=>e) (λb o u e=>e) (λb ps e=>⟨#[],by rw[e];simp⟩) (λm hm=>?_) (λb u e=>?_) I.bare
 .obtain⟨o,es,ep,ho,r⟩:=hm
  exact⟨o,es,ep,k _ o (λz=>(G _ z).2.1 rfl) ho,r⟩
 .refine(I.Av b u e).stay (λc v Z q=>k c v ?_ q) (λ_ q=>q) λ_ _ q=>q
  rcases Z with y|y
  .rw[y];exact U b u e
  .exact U c _ y
def SqX(b:Bool)(K:Fg)(H:Hp)(a:Addr)(Z:List V):Prop:=cond b (Mw K H a Z) (Gw K H a Z)
def Inv.al0(I:Inv X pins σ H s)(h:SqX b X.K H a R):∃Z,Vals R Z/\SqB b s.heap a Z.toArray:=by
 cases b with
 |true=>obtain⟨Z,G,p,U⟩:=I.tuple h;exact⟨Z,G,show s.heap.IsTuple a Z.toArray from p⟩
 |false=>obtain⟨Z,G,p,U⟩:=I.list h;exact⟨Z,G,p.isList⟩
def Inv.aer(I:Inv X pins σ H s)(h:SqX b X.K H a Z)(g:SqX b X.K H a ys):Z=ys:=by
 cases b with
 |true=>exact I.Za h g|false=>exact I.adq h g
def Ien(b:Bool)(K:Fg)(a:Addr):It :=
 ⟨λi H=>∃Z x,SqX b K H a Z/\Z[i]?=some x,λi H v G=>∃p x,v=.ref p/\H p=none/\G=upd H p (.tup [.int (i:Nat),x])/\∀Z,SqX b K H a Z->Z[i]?=some x,λi H=>∃Z,SqX b K H a Z/\Z.length<=i⟩
set_option tactic.hygienic true in
theorem aw6(a e it:Addr)(ne:e≠it):Turn P w K (.Tuple ts k0 pt) (Ien b K a) [e,it] e (λi h=>(∃Z,IsEnum h e it ((i:Nat):Int) Z)/\Zx b h it a i) where
 mem:=by simp
 obj:=λi h st c Y=>by
  obtain⟨⟨Z,G⟩,J⟩:=st;rcases cj.mp Y with z|z
  .subst z;exact⟨_,G,λv z=>by cases z⟩
  .have z:c=it:=by simpa using z
   subst z;exact J.obj
 keep:=λi h h' st k=>by obtain⟨⟨Z,G⟩,J⟩:=st;exact⟨⟨Z,k e (by simp) _ G⟩,J.at λo z=>k it (by simp) o z⟩
 item:=by
  intro X hP hw hK Y i U s σ H E I L st hg;subst hP hw hK;obtain⟨xs,x,R,S⟩:=hg;obtain⟨xf,rv,p⟩:=I.al0 R;obtain⟨u,hu,ru⟩:=rv.get S;obtain⟨⟨Z,G⟩,J⟩:=st;have lt:e<s.heap.objs.size:=az G
  refine aw3 G J p (x:=u) (by simpa using hu) ne λh1 o1 a1 t1 n1 k1=>⟨_,rfl,?_⟩
  refine wpAny_letOwnedTupleGo_enum o1 λh2 o2 C=>?_
  have C:Heap.SameBut e h1 h2:=C;have t2:h2.get? s.heap.objs.size=some { cls:=.type "tuple",data:=.seq #[.int i s.toks,u] }:=(C.2 _ (yc lt)).trans t1;refine⟨.ref s.heap.objs.size,upd H s.heap.objs.size (.tup [.int (i:Nat),x]),I.Zy (t':=s.toks+1) L (λc o Y z=>?_) (bw _) ⟨by show 2<=sizeLine;decide,[.int i s.toks,u],.cons ⟨s.toks,rfl⟩ (.cons ru .nil),⟨_,t2,rfl,_,rfl,rfl⟩⟩,rfl,
   ⟨_,x,rfl,I.Av.fresh (bw _),rfl,λys hy=>by rw[I.aer hy R];exact S⟩,⟨⟨u,?_⟩,a1.at λo z=>C.extBut it o (j0 ne) z⟩,λc Y=>?_⟩
  .have c1:c≠e:=λz=>Y (by simp[z])
   have c2:c≠it:=λz=>Y (by simp[z])
   exact C.extBut c o c1 (k1 c o c1 c2 z)
  .have q:((i+1:Nat):Int)=(i:Int)+1:=by push_cast;rfl
   rw[q];exact o2
  .have qq:c<s.heap.objs.size:=by
    rcases cj.mp Y with z|z
    .rw[z];exact lt
    .have z:c=it:=by simpa using z
     obtain⟨o,z2,_⟩:=J.obj;rw[z];exact az z2
   rw[m5 (gh qq)];exact(L c Y).1
 done:=by intro X hP hw hK Y i U s σ H E I L st hg;subst hP hw hK;obtain⟨xs,R,S⟩:=hg;obtain⟨xf,rv,p⟩:=I.al0 R;obtain⟨⟨Z,G⟩,J⟩:=st;have hl:=rv.length;refine aw4 (I.ok.hd Y) G J p (by simp;exact a_ (g_ hl) S) λh' eb=>⟨rfl,I.ajo (t':=s.toks) L λc o Y z=>eb c o (λy=>Y (by simp[y])) z⟩
 self:=λ_ _ _ _ _ st h=>by obtain⟨⟨Z,G⟩,J⟩:=st;exact wpAny_pyIter_enum G h
def bbe(hg:Gl X "enumerate")(hm:X.mg "enumerate" = none)(ha:PA X [a] ta)(hs:starEach [a] X.env=[(false,eval a X.env)]) :
 PI X (.Tuple ts k0 pt) (.Call (.Name "enumerate" p) [a] [] pos) (fun σ H R=>ta σ H λvs H1=>∃b q,vs=[.ref q]/\(∃xs,SqX b X.K H1 q xs)/\R (Ien b X.K q) H1):=by
 intro U s σ H R I h;refine PyProof.Rows.Call_ (Cw I hg hm (show bootBuiltins "enumerate" = some (.type "enumerate") by decide+kernel) (jh (Bu (ha pos U s σ H _ I h) λus Z ⟨vs,H1,I1,r1,q1⟩=>?_) hs rfl));obtain⟨b,q,rfl,⟨xs,hq⟩,hR⟩:=q1;cases r1 with
 |cons r rr =>
  cases rr;cases r;obtain⟨xf,rv,p⟩:=I1.al0 hq;have fin:∀G,IsEnum G (Z.heap.objs.size+1) Z.heap.objs.size 0 .none->Zx b G Z.heap.objs.size q 0->(∀y o,Z.heap.get? y=some o->G.get? y=some o) ->
   wpAny (model X.prog X.w) X.A (pyIter (.ref (Z.heap.objs.size+1))) (PIE X U σ (.Tuple ts k0 pt) R) X.xe { Z with heap:=G }:=λG e1 e2 kk=>by
   refine wpAny_pyIter_enum e1 ?_;refine⟨Z.heap.objs.size+1,[Z.heap.objs.size+1,Z.heap.objs.size],_,_,H1,rfl,I1.kept (t':=Z.toks) kk,aw6 (b:=b) q _ _ (Nat.succ_ne_self _),⟨⟨.none,e1⟩,e2⟩,λc hc=>?_,hR⟩;have qq:Z.heap.objs.size<=c:=by
    rcases cj.mp hc with z|z
    .rw[z];exact vg _
    .have z:c=Z.heap.objs.size:=by simpa using z
     rw[z];exact bw _
   exact I1.apd qq (I1.Av.fresh qq)
  cases b with
  |true=>exact aqu p λG e1 e2 _ kk=>fin G e1 e2 kk
  |false=>exact call_enumerate_list p λG e1 e2 _ kk=>fin G e1 e2 kk
end L2
namespace EnT
open PySem PySem.Spec
noncomputable def tpN(Z:Zl):Obj:={ cls:=.type "tuple",data:=.seq Z.toArray }
structure ZN(b:Nat->Bool)(h0:Heap)(n:Nat)(ls:Y3)(f0:Value)(ov:Zl)(k d:Nat)(g:Heap):Prop where
 z:IsZip g (n+ls.length+2) (n+ls.length) (n+ls.length+1) f0
 o:g.get? (n+ls.length+1)=some (tpN ov)
 a:∀(j:Nat) l,ls[j]?=some l->Zx (b l) g (n+j) l (if j<d then k+1 else k)
 low:∀c o,(c<n\/c=n+ls.length\/n+ls.length+2<c)->h0.get? c=some o->g.get? c=some o
def SqB.lt(x:SqB b h a Z):a<h.objs.size:=by
 cases b with
 |true=>obtain⟨o,c,_⟩:=x;exact az c
 |false=>obtain⟨o,c,_⟩:=x;exact az c
def SqB.at(x:SqB b h a xs)(e:∀o,h.get? a=some o->Z.get? a=some o):SqB b Z a xs:=by
 cases b with
 |true=>obtain⟨o,c,d⟩:=x;exact⟨o,e o c,d⟩
 |false=>obtain⟨o,c,d⟩:=x;exact⟨o,e o c,d⟩
def aet{Z:Y3}{j:Nat}(h:Z[j]?=some l):j<Z.length:=(ak.mp h).1
def ZN.sz(H:ZN b h0 n ls f0 Z k d g)(e:Heap.ExtBut (n+ls.length+2) g g')(z:IsZip g' (n+ls.length+2) (n+ls.length) (n+ls.length+1) f1):ZN b h0 n ls f1 Z k d g' :=
 ⟨z,e _ _ (by lia) H.o,λj l h=>(H.a j l h).at λo=>e _ o (by have:=aet h;lia),λc o G z=>e _ _ (by lia) (H.low c o G z)⟩
def ZN.so(H:ZN b h0 n ls f0 U k d g)(e:Heap.ExtBut (n+ls.length+1) g g')(z:g'.get? (n+ls.length+1)=some (tpN Z)):ZN b h0 n ls f0 Z k d g' :=
 ⟨e _ _ (by lia) H.z,z,λj l h=>(H.a j l h).at λo=>e _ o (by have:=aet h;lia),λc o G z=>e _ _ (by lia) (H.low c o G z)⟩
def ZN.sa(H:ZN b h0 n ls f0 G k d g)(U:d<ls.length)(e:Heap.ExtBut (n+d) g g')(z:∀l,ls[d]?=some l->Zx (b l) g' (n+d) l (k+1)):ZN b h0 n ls f0 G k (d+1) g' :=
 ⟨e _ _ (by lia) H.z,e _ _ (by lia) H.o,λj l h=>by
  by_cases c:j=d
  .subst c;rw[dg (by lia)];exact z l h
  .have:=H.a j l h
   have i:(if j<d+1 then k+1 else k)=if j<d then k+1 else k:=by
    by_cases q:j<d
    .rw[dg q,dg (by lia)]
    .rw[bx q,bx (by lia)]
   rw[i];exact this.at λo=>e _ o (by lia),λc o Z z=>e _ _ (by lia) (H.low c o Z z)⟩
def ZN.up(H:ZN b h0 n ls f0 Z k d g)(e:∀c o,g.get? c=some o->g'.get? c=some o):ZN b h0 n ls f0 Z k d g' :=
 ⟨e _ _ H.z,e _ _ H.o,λj l h=>(H.a j l h).at (e _),λc o G z=>e _ _ (H.low c o G z)⟩
def ZN.nx(H:ZN b h0 n ls f0 Z k ls.length g):ZN b h0 n ls f0 Z (k+1) 0 g :=
 ⟨H.z,H.o,λj l h=>by have:=H.a j l h;rw[dg (aet h)] at this;exact this,H.low⟩
def aw7{T:Addr}{Q:Unit->Shared->Prop}(G:R.length<=3)(U:s.heap.get? T=some (tpN R))(h:∀Z,Z.get? T=some (tpN (R.set k x))->Heap.ExtBut T s.heap Z->Z.objs.size=s.heap.objs.size->Q () { s with heap:=Z }) :
 wpAny (model prog w) A (updateSeq T (·.setIfInBounds k x)) Q E s:=by
 have sb:Heap.SameBut T s.heap (s.heap.update T (Obj.mapSeq (·.setIfInBounds k x))):=j6 ..;refine wpAny_updateSeq U rfl (h _ ?_ sb.extBut sb.1) (hz:=iu (by simpa using G) (show 3<=sizeLine by decide)) (_hz':=iu (by simpa using G) (show 3<=sizeLine+1 by decide));rw[mq _ U rfl];simp[Obj.mapSeq,tpN]
noncomputable def Gi(n m:Nat):List Value:=(List.range m).map λj=>.ref (n+j)
def ajp(n m:Nat):(Gi n m).zipIdx=(List.range' 0 m).map λj=>(Value.ref (n+j),j):=by
 apply uo;intro i;rw[yp]
 by_cases h:i<m
 .simp[Gi,h]
 .simp[Gi,h]
def At(b:Nat->Bool)(h:Heap)(U:Y3)(k:Nat)(Z:Zl):Prop:=Z.length=U.length/\∀(j:Nat) l,U[j]?=some l->∃G x,SqB (b l) h l G/\G[k]?=some x/\Z[j]?=some x
def aw8{n k:Nat}{Q:Y1}(Uw:ls≠[])(h3:ls.length<=3)(H:ZN b s.heap n ls .none Z k 0 s.heap)(ho:Z.length=ls.length)(hI:s.heap.get? (n+ls.length)=some (tpN (Gi n ls.length)))(hl:∀l∈ls,l<n)(ha:At b s.heap ls k vs)
 (hq:∀h',ZN b s.heap n ls (rawInt s.heap.objs.size) vs (k+1) 0 h'->h'.get? s.heap.objs.size=some (tpN vs)->Q (.ref s.heap.objs.size) { s with heap:=h' }) :
 wpAny (model prog w) A (Builtin.«zip.__next__» ⟨[.ref (n+ls.length+2)],[]⟩) (λfin s'=>∃v,fin=.done (.ret v)/\Q v s') E s:=by
 have hz:=H.z;have ne:(Gi n ls.length).toArray.isEmpty=false:=by cases ls with|nil=>exact absurd rfl Uw|cons a l=>simp[Gi]
 show wpAny _ _ (field (.ref (n+ls.length+2)) 2 >>= _) _ _ _;refine aa (jg hz rfl (x:=.bool false) rfl (aa (jg hz rfl (x:=.ref (n+ls.length)) rfl (aa (uc hI rfl ?_)))));simp only[ne,dj,jk];unfold Builtin.SmallTypes.ownedTupleIsFree;refine aa (aa (jg hz rfl (x:=.none) rfl (aj ?_)));simp only[ji];refine aa (wpAny_rule (aa (jg hz rfl (x:=.ref (n+ls.length+1)) rfl (aa (jf hz (by simp) λg1 z1 s1=>?_)))));have H1:=H.sz s1.extBut (f1:=.ellipsis) z1;refine aa (qi _ (λG bb s'=>bb=(none,())/\∃d Z g,G=((List.range' d (ls.length-d)).map λj=>(Value.ref (n+j),j))/\d<=ls.length/\s'={ s with heap:=g }/\ZN b s.heap n ls .ellipsis Z k d g/\Z.length=ls.length/\(∀i,i<d->Z[i]?=vs[i]?)/\g.objs.size=s.heap.objs.size) _ (λx G bb s' hI=>?_) (λbb s' hI=>?_) _ _ ⟨rfl,0,Z,g1,?_,iz _,rfl,H1,ho,λi hi=>absurd hi (rz _),s1.1⟩)
 .obtain⟨rfl,d,Z,g,e,U,rfl,R,o2,v2,n2⟩:=hI
  have U:d<ls.length:=by
   rcases ym d ls.length with h|h
   .exact h
   .rw[Nat.sub_eq_zero_of_le h] at e;cases e
  obtain⟨c,hc⟩:∃c,ls.length-d=c+1:=⟨ls.length-d-1,by lia⟩;rw[hc,List.range'_succ,ig] at e;injection e with e1 e2
  subst e1 e2;obtain⟨l,el⟩:∃l,ls[d]?=some l:=⟨ls[d],by simp[U]⟩;obtain⟨xs,x,t1,t2,t3⟩:=ha.2 d l el;have i0:=R.a d l el;rw[bx (qy _)] at i0;have ll:=hl l (ao el);refine aa (wpAny_onRaise (aa (aeq (s:={ s with heap:=g }) i0 (t1.at λo=>R.low _ o (by lia)) t2 λg2 i2 s2=>aj ?_)));have H3:=R.sa U s2.extBut λl' h=>by rw[el] at h;cases h;exact i2
  refine aa (uc H3.o rfl (aa (aw7 (by rw[o2];exact h3) H3.o λg3 o3 s3 n3=>?_)));have H4:=H3.so s3 o3;refine aa (wpAny_letGo (aj ⟨rfl,d+1,Z.set d x,g3,by rw[show ls.length-(d+1)=c by lia],U,rfl,H4,by rw[List.length_set,o2],λi hi=>?_,by rw[n3,show g2.objs.size=g.objs.size from s2.1,n2]⟩))
  by_cases z:i=d
  .subst z
   rw[zy (by lia),t3]
  .rw[vf (j0 z)];exact v2 i (by lia)
 .obtain⟨rfl,d,Z,g,e,U,rfl,R,o2,v2,n2⟩:=hI
  have U:d=ls.length:=by
   rcases ym d ls.length with h|h
   .obtain⟨c,hc⟩:∃c,ls.length-d=c+1:=⟨ls.length-d-1,by lia⟩
    rw[hc,List.range'_succ] at e;cases e
   .exact Nat.le_antisymm U h
  subst U;obtain rfl:Z=vs:=by
   apply uo;intro i;rcases ym i ls.length with h|h
   .exact v2 i h
   .rw[gr (by lia),gr (by rw[ha.1];exact h)]
  refine aa (uc R.o rfl (aa (wpAny_newTuple ?_)));have H8:=R.nx.up (g':=g.push (tpN Z)) λc o e=>au _ e
  refine aa ?_;unfold Builtin.SmallTypes.ownedTupleHandOut;refine aa (jf H8.z (by simp) λg9 z9 s9=>?_);have H9:=H8.sz s9.extBut (f1:=rawInt g.objs.size) z9;refine jf H9.z (by simp) λqq q1 qv=>?_
  have q0:=H9.sz qv.extBut (f1:=rawInt g.objs.size) q1;have zl:n+ls.length+2<g.objs.size:=az R.z
  have qk:qq.get? g.objs.size=some (tpN Z):=qv.extBut _ _ (yc zl) (s9.extBut _ _ (yc zl) (bu _ rfl));refine aj ⟨_,rfl,?_⟩;show Q (.ref g.objs.size) _;rw[n2] at q0 qk ⊢;exact hq qq q0 qk
 .show(Gi n ls.length).zipIdx=_
  rw[ajp];rfl
def a4f{n k:Nat}{Z:Y3}(hd:A.handled=none)(h0:Z[0]?=some l)(H:ZN b s.heap n Z .none ov k 0 s.heap)(hI:s.heap.get? (n+Z.length)=some (tpN (Gi n Z.length)))(hl:l<n)(c1:SqB (b l) s.heap l xs)(e1:xs[k]?=none)
 (hE:∀h' e,(∀c o,(c<n\/n+Z.length+2<c)->s.heap.get? c=some o->h'.get? c=some o)->(∃o,h'.get? e=some o/\o.cls=.type "StopIteration")->E (.ref e) { s with heap:=h' }) :
 wpAny (model prog w) A (Builtin.«zip.__next__» ⟨[.ref (n+Z.length+2)],[]⟩) Q E s:=by
 have G:=H.z;obtain⟨c,hc⟩:∃c,Z.length=c+1:=⟨Z.length-1,by have:=aet h0;lia⟩;have ne:(Gi n Z.length).toArray.isEmpty=false:=by rw[hc];simp[Gi]
 show wpAny _ _ (field (.ref (n+Z.length+2)) 2 >>= _) _ _ _;refine aa (jg G rfl (x:=.bool false) rfl (aa (jg G rfl (x:=.ref (n+Z.length)) rfl (aa (uc hI rfl ?_)))));simp only[ne,dj,jk];unfold Builtin.SmallTypes.ownedTupleIsFree;refine aa (aa (jg G rfl (x:=.none) rfl (aj ?_)));simp only[ji];refine aa (wpAny_rule (aa (jg G rfl (x:=.ref (n+Z.length+1)) rfl (aa (jf G (by simp) λg1 z1 s1=>?_)))));have U:=H.sz s1.extBut (f1:=.ellipsis) z1;have i1:Zx (b l) g1 n l k:=U.a 0 l h0;have er:(Gi n Z.length).zipIdx=(Value.ref n,0)::(List.range' 1 c).map λj=>(Value.ref (n+j),j):=by rw[ajp,hc];rfl
 rw[er,List.forIn_cons];refine aa (aa (aa (wpAny_onRaise (aa (ajn (s:={ s with heap:=g1 }) hd i1 (c1.at λo=>U.low _ o (by lia)) e1 λg2 x s2 z_=>?_)))));obtain⟨o,R,o2⟩:=z_;have z2:IsZip g2 (n+Z.length+2) (n+Z.length) (n+Z.length+1) .ellipsis:=s2 _ _ (by lia) U.z;have ne:x≠n+Z.length+2:=λy=>by subst y;rw[z2] at R;cases R;simp at o2
 exact jf z2 (by simp) λg3 _ s3=>hE g3 x (λc o y1 e=>s3.extBut _ _ (by lia) (s2 _ _ (by lia) (s1.extBut _ _ (by lia) e))) ⟨o,s3.extBut _ _ ne R,o2⟩
noncomputable def zI(b:Bool)(a:Addr):Obj:={ cls:=.type (cond b "tuple_iterator" "list_iterator"),data:=.fields #[.ref a,.int 0 0] }
def pI(b:Nat->Bool)(h:Heap)(Z:Y3):Heap:=Z.foldl (λh l=>h.push (zI (b l) l)) h
theorem abu:∀(Z:Y3)(h:Heap),(pI b h Z).objs.size=h.objs.size+Z.length
 |[],h=>rfl
 |l::Z,h=>by
  have:=abu (b:=b) Z (h.push (zI (b l) l));rw[ju] at this;rw[il,<- Nat.add_assoc,Nat.add_right_comm];exact this
theorem ajq:∀{ls:Y3}{h:Heap},h.get? c=some o->(pI b h ls).get? c=some o
 |[],_,e=>e|x::ls,h,e=>ajq (ls:=ls) (h:=h.push (zI (b x) x)) (au _ e)
theorem aqv:∀{ls:Y3}{h:Heap}{j:Nat},ls[j]?=some l->(pI b h ls).get? (h.objs.size+j)=some (zI (b l) l)
 |x::ls,h,0,e=>by cases e;exact ajq (ls:=ls) (h:=h.push (zI (b l) l)) (bu _ rfl)
 |x::ls,h,j+1,e=>by
  have:=aqv (b:=b) (h:=h.push (zI (b x) x)) (ls:=ls) (j:=j) e;rw[ju] at this;rw[<- Nat.add_assoc,Nat.add_right_comm];exact this
def bbf(h:g.get? i=some (zI b l)):Zx b g i l 0:=by
 cases b with
 |true=>exact⟨_,h,rfl,rfl⟩|false=>exact⟨_,h,rfl,rfl⟩
def a4g{Q:Y1}(h:SqB b s.heap a Z)(q:Q (.ref s.heap.objs.size) { s with heap:=s.heap.push (zI b a) }):wpAny (model prog w) A (pyIter (.ref a)) Q E s:=by
 cases b with
 |true=>exact wpAny_pyIter_tuple h q|false=>exact xx h q
def aw9{Q:List Value->Shared->Prop}(ht:∀l∈ls,∃xs,SqB (b l) s.heap l xs)(q:Q (Gi s.heap.objs.size ls.length) { s with heap:=pI b s.heap ls }):wpAny (model prog w) A (Builtin.SmallTypes.iterAll (ls.map .ref)) Q E s:=by
 unfold Builtin.SmallTypes.iterAll;refine aa (qi _ (λG xf R=>∃d,d<=ls.length/\G=(ls.drop d).map .ref/\xf=(Gi s.heap.objs.size d).toArray/\R={ s with heap:=pI b s.heap (ls.take d) }) _ (λx G bb R U=>?_) (λbb R U=>?_) _ _ ⟨0,iz _,rfl,rfl,rfl⟩)
 .obtain⟨d,Z,e,rfl,rfl⟩:=U
  have Z:d<ls.length:=by
   rcases ym d ls.length with h|h
   .exact h
   .rw[List.drop_of_length_le h] at e;cases e
  rw[List.drop_eq_getElem_cons Z,ig] at e;injection e with e1 e2
  subst e1 e2;obtain⟨xs,hx⟩:=ht ls[d] (nq Z);refine aa (jr (a4g (hx.at λo e=>ajq e) (aj ⟨d+1,Z,rfl,?_,?_⟩)))
  .rw[abu,Ax,Nat.min_eq_left (yj Z)]
   simp[Gi,rm]
  .have:pI b s.heap (ls.take (d+1))=(pI b s.heap (ls.take d)).push (zI (b ls[d]) ls[d]):=by
    rw[List.take_succ,bf Z,pI,List.foldl_append];rfl
   rw[this]
 .obtain⟨d,Z,e,rfl,rfl⟩:=U
  have Z:d=ls.length:=by
   rcases ym d ls.length with h|h
   .rw[List.drop_eq_getElem_cons h] at e;cases e
   .exact Nat.le_antisymm Z h
  subst Z;rw[zr];exact aj (by simpa using q)
def zB(b:Nat->Bool)(h:Heap)(Z:Y3):Heap:=(pI b h Z).push (tpN (Gi h.objs.size Z.length))
def zC(b:Nat->Bool)(h:Heap)(Z:Y3):Heap:=(zB b h Z).push (tpN ((Gi h.objs.size Z.length).map λ_=>.none))
def zD(b:Nat->Bool)(h:Heap)(Z:Y3):Heap:=(zC b h Z).push { cls:=.type "zip",data:=.fields #[.none,.bool false,.bool false,.ref (pI b h Z).objs.size,.ref (zB b h Z).objs.size] }
def aqw(h3:ls.length<=3) :
 Meets (Builtin.«zip.__new__» ⟨.type "zip"::ls.map .ref,[]⟩) (λ_ R s=>(∀l∈ls,∃xs,SqB (b l) s.heap l xs)/\R (.ok (.ret (.ref (zC b s.heap ls).objs.size))) { s with heap:=zD b s.heap ls }) :=
 .of_wp λprog w A R s h=>by
  obtain⟨Z,g,d,U,G⟩:=s;obtain⟨ht,h⟩:=h;have qq:=sub_zip;have f1:∀{Q:List Value->Shared->Prop}{A E},Q (Gi Z.objs.size ls.length) ⟨pI b Z ls,g,d,U,G⟩->wpAny (model prog w) A (Builtin.SmallTypes.iterAll (ls.map .ref)) Q E ⟨Z,g,d,U,G⟩:=λq=>aw9 ht q
  have sz:∀(xs:Zl),xs.length<=3->xs.toArray.size<=sizeLine:=λxs h=>iu (by simpa using h) (show 3<=sizeLine by decide)
  have f2:∀{Q:Y1}{A E}{h:Heap},Q (.ref h.objs.size) ⟨h.push (tpN (Gi Z.objs.size ls.length)),g,d,U,G⟩->wpAny (model prog w) A (newTuple (Gi Z.objs.size ls.length)) Q E ⟨h,g,d,U,G⟩:=λq=>wpAny_newTuple q (sz _ (by simpa[Gi] using h3))
  have f3:∀{Q:Y1}{A E}{h:Heap},Q (.ref h.objs.size) ⟨h.push (tpN ((Gi Z.objs.size ls.length).map λ_=>.none)),g,d,U,G⟩->wpAny (model prog w) A (newTuple ((Gi Z.objs.size ls.length).map λ_=>.none)) Q E ⟨h,g,d,U,G⟩:=λq=>wpAny_newTuple q (sz _ (by simpa[Gi] using h3))
  wp_walk using f1,f2,f3
  exact⟨_,rfl,h⟩
def axa{n:Nat}(h3:ls.length<=3)(G:s.heap.objs.size=n)(ct:checkTypeCall "zip" ⟨ls.map .ref,[]⟩=pure ())(cb:checkBuiltinCall "zip.__new__" ⟨.type "zip"::ls.map .ref,[]⟩=pure ())(ca:∀obj,argsOk "object.__init__" ⟨obj::ls.map .ref,[]⟩)(ht:∀l∈ls,∃xs,SqB (b l) s.heap l xs)
 (h:∀Z,ZN b Z n ls .none ((Gi n ls.length).map λ_=>.none) 0 0 Z->Z.get? (n+ls.length)=some (tpN (Gi n ls.length))->(∀c o,s.heap.get? c=some o->Z.get? c=some o)->Q (.ref (n+ls.length+2)) { s with heap:=Z }):wpAny (model prog w) A (call (.type "zip") (ls.map .ref)) Q E s:=by
 refine callType_new F.called_zip (by decide) ct cb ca F.entry_zip_new (aqw h3) ⟨ht,?_⟩;have z3:(pI b s.heap ls).objs.size=n+ls.length:=by rw[abu,G]
 have U:(zB b s.heap ls).objs.size=n+ls.length+1:=by unfold zB;rw[ju,z3]
 have z5:(zC b s.heap ls).objs.size=n+ls.length+2:=by unfold zC;rw[ju,U]
 have up:∀{h:Heap}{o':Obj}{c:Addr}{o:Obj},h.get? c=some o->(h.push o').get? c=some o:=λe=>au _ e
 have R:(zD b s.heap ls).get? (zC b s.heap ls).objs.size=some _:=bu _ rfl;have g5:(zD b s.heap ls).get? (zB b s.heap ls).objs.size=some _:=up (bu _ rfl);have g4:(zD b s.heap ls).get? (pI b s.heap ls).objs.size=some _:=up (up (bu _ rfl));rw[z3,U,z5] at R;rw[U,G] at g5;rw[z3,G] at g4;show _/\_;rw[z5];exact⟨⟨_,R,rfl⟩,h _ ⟨R,g5,λj l e=>bbf (up (up (up (by rw[<- G];exact aqv e)))),λ_ _ _ e=>e⟩ g4 λc o e=>up (up (up (ajq e)))⟩
theorem al1:∀Z:List Value,Z.length=2->checkTypeCall "zip" ⟨Z,[]⟩=pure ()/\checkBuiltinCall "zip.__new__" ⟨.type "zip"::Z,[]⟩=pure ()/\∀obj,argsOk "object.__init__" ⟨obj::Z,[]⟩
 |[a,b],_=>⟨F.typeCall_zip_2 _ _,F.newCall_zip_2 _ _,λobj=>F.args_object_init_3 obj _ _⟩
end EnT
namespace L2
open PySem PySem.Spec EnT
def IzN(b:Nat->Bool)(K:Fg)(U:X9):It :=
 ⟨λi H=>∃G:List V,G.length=U.length/\∀(j:Nat) a,U[j]?=some a->∃Z x,SqX (b a) K H a Z/\Z[i]?=some x/\G[j]?=some x,
  λi H v R=>∃p G,v=.ref p/\H p=none/\R=upd H p (.tup G)/\G.length=U.length/\∀(j:Nat) a Z,U[j]?=some a->SqX (b a) K H a Z->G[j]?=Z[i]?,
  λi H=>∃a Z,U[0]?=some a/\SqX (b a) K H a Z/\Z.length<=i⟩
def TN(b:Nat->Bool)(n:Nat)(Z:X9)(i:Nat)(h:Heap):Prop:=(∃G,ZN b h n Z .none G i 0 h/\G.length=Z.length)/\h.get? (n+Z.length)=some (tpN (Gi n Z.length))
noncomputable def FN(n m:Nat):List Addr:=List.range' n (m+3)
def FN.mem{n m c:Nat}:c∈FN n m↔n<=c/\c<n+m+3:=List.mem_range'_1
theorem at_of(I:Inv X pins σ H s):∀{as:X9}{vs:List V},vs.length=as.length->(∀(j:Nat) a,as[j]?=some a->∃G x,SqX (b a) X.K H a G/\G[i]?=some x/\vs[j]?=some x)->∃Z,Vals vs Z/\At b s.heap as i Z
 |[],[],_,_=>⟨[],.nil,rfl,λj l h=>by simp at h⟩
 |a::as,v::vs,l,h=>by
  obtain⟨Z,r,e,q⟩:=at_of I (as:=as) (vs:=vs) (by simpa using l) (λj a e=>h (j+1) a e);obtain⟨G,x,q1,x1,hv⟩:=h 0 a rfl;cases hv;obtain⟨i1,r1,p1⟩:=I.al0 q1;obtain⟨U,u1,w1⟩:=r1.get x1;refine⟨U::Z,.cons w1 r,by simp[e],λj l R=>?_⟩;cases j with
  |zero=>cases R;exact⟨i1.toArray,U,p1,by simpa using u1,rfl⟩|succ j=>exact q j l R
theorem axb{n:Nat}(h3:G.length<=3)(Uw:G≠[])(hl:∀a∈G,a<n):Turn P w K (.Tuple ts k0 pt) (IzN b K G) (FN n G.length) (n+G.length+2) (TN b n G) where
 mem:=FN.mem.mpr (by lia)
 obj:=λi h st e U=>by
  obtain⟨⟨ov,H,_⟩,R⟩:=st;obtain⟨c1,c2⟩:=FN.mem.mp U
  by_cases z:e<n+G.length
  .have q:e-n<G.length:=by lia
   have z:=(H.a (e-n) G[e-n] (by simp[q])).obj;rw[show n+(e-n)=e by lia] at z;exact z
  .rcases(show e=n+G.length\/e=n+G.length+1\/e=n+G.length+2 by lia) with rfl|rfl|rfl
   .exact⟨_,R,λv z=>by cases z⟩
   .exact⟨_,H.o,λv z=>by cases z⟩
   .exact⟨_,H.z,λv z=>by cases z⟩
 keep:=λi h h' st k=>by
  obtain⟨⟨ov,H,l⟩,R⟩:=st;have kk:∀d o,n<=d->d<n+G.length+3->h.get? d=some o->h'.get? d=some o:=λd o h1 h2=>k d (FN.mem.mpr ⟨h1,h2⟩) o
  exact⟨⟨ov,⟨kk _ _ (by lia) (by lia) H.z,kk _ _ (by lia) (by lia) H.o,λj l h=>(H.a j l h).at λo=>kk _ o (by lia) (by have:=aet h;lia),λ_ _ _ e=>e⟩,l⟩,kk _ _ (by lia) (by lia) R⟩
 item:=by
  intro X hP hw hK U i qq s σ H E I hf st hg;subst hP hw hK;obtain⟨⟨ov,Z,lo⟩,R⟩:=st;have lt:n+G.length+2<s.heap.objs.size:=az Z.z
  obtain⟨vs,lv,hg⟩:=hg;obtain⟨us,r,ha⟩:=at_of I lv hg;have ty:s.TypeIs (.ref (n+G.length+2)) "zip" := ⟨_,Z.z,rfl⟩;unfold pyNext;refine aa (wpAny_attempt (kh (name:=Str.ofString "__next__") ty F.slot_zip_next (jz F.slot_zip_next ty F.entry_zip_next ?_ (F.args_zip_next_1 _))));refine aw8 Uw h3 Z lo R hl ha λh1 Z1 t1=>aj ⟨_,rfl,?_⟩
  refine wpAny_letOwnedTupleGo_zip Z1.z λh2 z2 s2=>?_
  have s2:Heap.SameBut (n+G.length+2) h1 h2:=s2;have Z2:=Z1.sz s2.extBut (f1:=.none) z2;have t2:h2.get? s.heap.objs.size=some (tpN us):=s2.extBut _ _ (yc lt) t1;refine⟨.ref s.heap.objs.size,upd H s.heap.objs.size (.tup vs),I.Zy (t':=s.toks) hf (λc o U zz=>Z2.low c o (by rw[FN.mem] at U;lia) zz) (bw _) ⟨by rw[lv];exact iu h3 (show 3<=sizeLine by decide),us,r,⟨_,t2,rfl,_,rfl,rfl⟩⟩,rfl,
   ⟨_,vs,rfl,I.Av.fresh (bw _),rfl,lv,λj a ys ja hy=>?_⟩,⟨⟨us,⟨Z2.z,Z2.o,Z2.a,λ_ _ _ e=>e⟩,ha.1⟩,Z2.low _ _ (by lia) R⟩,λc U=>?_⟩
  .obtain⟨xs,x,q1,q2,q3⟩:=hg j a ja
   rw[I.aer hy q1,q2,q3]
  .rw[FN.mem] at U
   rw[m5 (by lia)];exact(hf c (FN.mem.mpr U)).1
 done:=by
  intro X hP hw hK U i qq s σ H E I hf st hg;subst hP hw hK;obtain⟨⟨ov,Z,lo⟩,R⟩:=st;obtain⟨a,xs,a0,q1,x1⟩:=hg;obtain⟨i1,r1,p1⟩:=I.al0 q1;have qk:=r1.length;have ty:s.TypeIs (.ref (n+G.length+2)) "zip" := ⟨_,Z.z,rfl⟩;unfold pyNext;refine aa (wpAny_attempt (kh (name:=Str.ofString "__next__") ty F.slot_zip_next (jz F.slot_zip_next ty F.entry_zip_next ?_ (F.args_zip_next_1 _))));refine a4f (I.ok.hd U) a0 Z R (hl a (ao a0)) (xs:=i1.toArray) p1 (by simp;lia) λh' e k z_=>?_
  obtain⟨o,o1,o2⟩:=z_;exact aa (o5 (T := "StopIteration") (b:=true) ⟨o,o1,o2⟩ isSubtype_stop (aj ⟨rfl,I.ajo (t':=s.toks) hf λc o U zz=>k c o (by rw[FN.mem] at U;lia) zz⟩))
 self:=λ_ _ _ _ _ st h=>by obtain⟨⟨ov,Z,_⟩,_⟩:=st;exact wpAny_pyIter_zip Z.z h
theorem Zz:∀{Z:X9}{G:Zl},Vals (Z.map V.ref) G->G=Z.map Value.ref
 |[],_,h=>by cases h;rfl|_::_,_,h=>by cases h with|cons r t=>cases r;rw[Zz t];rfl
def bbg(hg:Gl X "zip")(hm:X.mg "zip" = none)(ha:PA X (a::es) ta)(hs:starEach (a::es) X.env=(false,eval a X.env)::starEach es X.env)(Jq:(backTo pos (starEach es X.env)).any (·.1)=false) :
 PI X (.Tuple ts k0 pt) (.Call (.Name "zip" p) (a::es) [] pos) (fun σ H R=>ta σ H λvs H1=>∃(b:Nat->Bool)(G:X9),vs=G.map V.ref/\G.length=2/\(∀q∈G,∃xs,SqX (b q) X.K H1 q xs)/\R (IzN b X.K G) H1):=by
 intro U s σ H R I h;refine PyProof.Rows.Call_ (Cw I hg hm (show bootBuiltins "zip" = some (.type "zip") by decide+kernel) (jh (Bu (ha pos U s σ H _ I h) λus s1 z=>?_) hs Jq));obtain⟨vs,H1,I1,r1,b,G,rfl,l,ht,hR⟩:=z;cases Zz r1;obtain⟨c1,c2,c3⟩:=al1 (G.map Value.ref) (by simpa using l);have h3:G.length<=3:=by lia
 have tp:∀q∈G,∃xs,SqB (b q) s1.heap q xs:=λq hq=>by obtain⟨xs,hx⟩:=ht q hq;obtain⟨i1,_,p1⟩:=I1.al0 hx;exact⟨_,p1⟩
 refine axa h3 rfl c1 c2 c3 tp λh' Z hI kk=>wpAny_pyIter_zip Z.z ?_
 refine⟨s1.heap.objs.size+G.length+2,_,_,_,H1,rfl,I1.kept (t':=s1.toks) kk,axb h3 (λz=>by subst z;simp at l) λq hq=>by obtain⟨xs,e⟩:=tp q hq;exact e.lt,⟨⟨_,Z,by simp[Gi]⟩,hI⟩,λc hc=>?_,hR⟩;have qq:=(FN.mem.mp hc).1;exact I1.apd qq (I1.Av.fresh qq)
end L2
namespace Sm
open PySem L2
open MW (Ex Ed OEx Pz Cz p7 Lv Tg Res dh MO Hh Cp Op2 Blt Bm Kx Src)
def al2{i:Nat}(h:(MW.Fl ds 0)[i]?=some d):∃z,ds[i]?=some z/\d=.tup [.int (i:Nat),z]:=by
 unfold MW.Fl at h;rw[ie,yp] at h;cases e:ds[i]? with
 |none=>rw[e] at h;simp at h|some z=>rw[e] at h;simp at h;exact⟨z,rfl,h.symm⟩
def ajr{X:Cx}(r:p8 X.K ι H ds U)(R:∀Z G,LeX ι H Z G->SqX bb X.K G q U):aqd nm X.K ι H (.con (MW.Fl ds 0)) (Ien bb X.K q):=λZ G M1 le S1=>by
 refine⟨λi d hi hd=>?_,λ_=>⟨U,R Z G le,?_⟩⟩
 .obtain⟨z,e1,rfl⟩:=al2 (show(MW.Fl ds 0)[i]?=some d from hd)
  obtain⟨v,g1,g2⟩:=(r.J1 le).get e1;refine⟨⟨U,v,R Z G le,g1⟩,λu H2 ⟨p,x,e2,e3,e4,e5⟩=>?_⟩;have ex:x=v:=by have:=e5 U (R Z G le);rw[g1] at this;cases this;rfl
  subst ex e2 e4;obtain⟨S2,yx,r2⟩:=Ss (X:=X) S1 e3 (.cons (.int _) (.cons g2 .nil));exact⟨yx,S2,r2⟩
 .show U.length<=(MW.Fl ds 0).length
  rw[<- r.length];simp[MW.Fl]
def bbh(hg:Gl X "enumerate")(hm:X.mg "enumerate" = none)(ha:PE X a (tE nm W X.K a'))(U:noStar a=true):PI X (.Tuple ts k0 pt) (.Call (.Name "enumerate" pr) [a] [] pos) (tI nm W X.K (.enm a')):=by
 intro G s0 σ H R' I hh;obtain⟨ι,ρ,M,s,M',S,R,e,q⟩:=hh;rw[MW.aif] at e;obtain⟨x,M1,e1,e⟩:=gn e;refine PI.weak (bbe (ts:=ts) (k0:=k0) (pt:=pt) (p:=pr) (pos:=pos) hg hm (O7 ha Vg (my U _ _)) (my U _ _)) (wi':=λqq H0 R0=>qq=σ/\H0=H/\R0=R') (λqq H0 R0 ⟨z1,z2,z3⟩=>?_) G s0 σ H R' I ⟨rfl,rfl,rfl⟩;subst z1 z2 z3;refine Yn (es':=.cons a' .nil) (ds:=[x]) (M1:=M1) S R (by rw[MW.Dl,e1];simp) λZ H1 vs le S1 R1 r=>?_
 cases r with
 |cons r1 r2 =>
  cases r2;cases r1 with
  |@tup p ds us h1 rr =>
   cases e;exact⟨true,p,rfl,⟨us,Mw.of h1⟩,q Z H1 _ le S1 (ajr rr λqk H2 yx=>Mw.of (yx.tup _ _ h1))⟩
  |@vl p ds us h1 n1 rr =>
   cases e;exact⟨false,p,rfl,⟨us,Gw.of h1⟩,q Z H1 _ le S1 (ajr rr λqk H2 yx=>Gw.of (yx.lst _ _ n1.1 h1))⟩
  |_=>cases e
def axc{nm:Nm}{W:Hh}{X:Cx}{o:Expr}{o':Ex}{pos Z:Pos}{k f:Nat}{fa C:Addr}{fd:FuncData}{ps:Yf}{m:Str}{mi ci:Nat}{cl:MW.Cl}{pl:Sem Bool}(ho:PE X o (tE nm W X.K o'))(c0:Cls X.K C)(qk:Meth X.K C m fa)(F:Ha X.prog X.w X.K X.mg X.base CX0 k fa fd ps (spF nm W X.K 1 f))(hr:Aj k X.A)(hb:Binds X.K fd ps [])
 (q1:∀c' G,W.cls[c']?=some G->∀g,G.meths.lookup mi=some g->nm.cls c'=some C/\g=f) (q0:∀i,nm.fld i≠m)
 (ht:eval (.Call (.Attribute o m Z) [] [] pos) X.env=(do
  let ov <- eval o X.env
  standAt Z.atName
  let (f,first) <- holding [ov] (getMethod ov m pl)
  callWith pos f first (backTo pos (starEach [] X.env)) (backToKw pos (keywordEach [] X.env)))) :
 PE X (.Call (.Attribute o m Z) [] [] pos) (tE nm W X.K (.meth o' mi)) :=
 PE.of (apo (E:=E0) ho c0 qk F hr hb .nil ap3 ht) fun σ H Q ι ρ M d M' S R e q=>by
  rw[MW.an3] at e;obtain⟨x,U,e1,e⟩:=gn e;refine one S R e1 λqq H1 v le S1 R1 r=>?_
  obtain⟨j,hx⟩:∃j,x=.ref j:=by cases x<;>first|exact⟨_,rfl⟩|cases e
  subst hx;obtain⟨p,rfl,hp⟩:∃p,v=.ref p/\qq.l[j]?=some p:=by cases r with|ref z=>exact⟨_,rfl,z⟩
  have e:(match U[j]? with
   | some (.ins c _)=>(match(W.cls[c]?).bind λC=>C.meths.lookup mi with
    | some f=>W.call f [.ref j] U|none=>.bad)
   | _=>.bad)=Res.ok d M':=e
  cases hM:U[j]? with
  |none=>rw[hM] at e;cases e
  |some ob =>
   rw[hM] at e;cases ob with
   |ins ci fs =>
    have e:(match(W.cls[ci]?).bind λC=>C.meths.lookup mi with|some f=>W.call f [.ref j] U|none=>.bad)=Res.ok d M':=e;cases hL:(W.cls[ci]?).bind λC=>C.meths.lookup mi with
    |none=>rw[hL] at e;cases e
    |some g =>
     rw[hL] at e;have e:W.call g [.ref j] U=.ok d M':=e;obtain⟨G,h1,h2⟩:=gq.mp hL;obtain⟨h3,rfl⟩:=q1 ci G h1 g h2;obtain⟨C',dx,l,g1,g2,g3⟩:=S1.obj j _ p hM hp;rw[h3] at g1;cases g1;exact⟨p,dx,l,rfl,g2,aed q0 g3,qq,U,[.ref j],d,M',S1,.cons r .nil,rfl,e,λqv H' v Ye S' r'=>q qv H' v (le.trans Ye) S' r'⟩
   |_=>cases e
def axd:PS X st (tS nm W X.K .raise):=λZ s σ H D I G=>by obtain⟨ι,ρ,M,fl,U,M',S,R,e,q⟩:=G;rw[MW.aoa] at e;cases e
def azz(h:PE X a t):PE X (.BoolOp op [a] pos) t:=λZ s G H Q I q=>PyProof.Rows.BoolOp_one (h Z s G H Q I q)
noncomputable def bt(H:Hp)(a:Addr):Bool:=match H a with|some (.tup _)=>true|_=>false
def aeu(h:MW.Vp d=some l)(r:Rep K U H d v):∃p us,v=.ref p/\p8 K U H l us/\∀Z G,LeX U H Z G->SqX (bt H p) K G p us:=by
 cases r with
 |tup e r=>cases h;exact⟨_,_,rfl,r,λZ G le=>by simp only[bt,e];exact Mw.of (le.tup _ _ e)⟩
 |vl e n r=>cases h;exact⟨_,_,rfl,r,λZ G le=>by simp only[bt,e];exact Gw.of (le.lst _ _ n.1 e)⟩
 |_=>cases h
def aev{X:Cx}{s:Src}(h:∀Z U R,LeX ι H Z U->lq nm X.K Z U R->(∀i d,s.item i R=some d->∃x y G vs u v,d=.tup [x,y]/\SqX (b p) X.K U p G/\SqX (b q) X.K U q vs/\G[i]?=some u/\vs[i]?=some v/\Rep X.K Z U x u/\Rep X.K Z U y v)/\(s.fin R=true->∃G,SqX (b p) X.K U p G/\G.length<=s.len)) :
 aqd nm X.K ι H s (IzN b X.K [p,q]):=λZ U R le S1=>by
 obtain⟨h1,h2⟩:=h Z U R le S1;refine⟨λi d hi hd=>?_,λhf=>?_⟩
 .obtain⟨x,y,G,vs,u,v,rfl,e1,e2,e3,e4,r1,r2⟩:=h1 i d hd
  refine⟨⟨[u,v],rfl,λj a hj=>?_⟩,λu' H2 z=>?_⟩
  .match j,hj with
   |0,hj=>cases hj;exact⟨G,u,e1,e3,rfl⟩|1,hj=>cases hj;exact⟨vs,v,e2,e4,rfl⟩
  .obtain⟨t,ws,rfl,e6,rfl,e8,e9⟩:=z
   have a1:=e9 0 p G rfl e1;have a2:=e9 1 q vs rfl e2
   match ws,e8,a1,a2 with
   |[w1,w2],_,a1,a2 =>
    rw[e3] at a1;rw[e4] at a2;cases a1;cases a2;obtain⟨S2,yx,r3⟩:=Ss (X:=X) S1 e6 (.cons r1 (.cons r2 .nil));exact⟨yx,S2,r3⟩
 .obtain⟨G,e1,e2⟩:=h2 hf
  exact⟨p,G,rfl,e1,e2⟩
def axe(e:MW.agh [x,y] M=.ok s M'):M'=M/\∃Z,MW.Vp y=some Z/\((∃G,MW.Vp x=some G/\G.length=Z.length/\s=.con (MW.Ng [G,Z] Z.length))\/∃n G,x=.ref n/\M[n]?=some (.lst G)/\G.length=Z.length/\s=.zl n Z):=by
 have e:(match MW.Vp y with|some Z=>MW.acx x Z M|none=>.bad)=Res.ok s M':=e;cases hy:MW.Vp y with
 |none=>rw[hy] at e;cases e
 |some Z =>
  rw[hy] at e;have e:MW.acx x Z M=.ok s M':=e;unfold MW.acx at e;cases hx:MW.Vp x with
  |some G =>
   rw[hx] at e;obtain⟨R,U⟩:=Xl e;cases U;exact⟨rfl,Z,rfl,.inl ⟨G,rfl,R,rfl⟩⟩
  |none =>
   rw[hx] at e;cases x with
   |ref n =>
    cases hM:M[n]? with
    |none=>simp only[hM] at e;cases e
    |some o=>cases o with
     |lst G =>
      simp only[hM] at e;obtain⟨R,U⟩:=Xl e;cases U;exact⟨rfl,Z,rfl,.inr ⟨n,G,rfl,hM,R,rfl⟩⟩
     |_=>simp only[hM] at e;cases e
   |_=>cases e
def bbi(hg:Gl X "zip")(hm:X.mg "zip" = none)(ha:PA X (a::es) (Yd nm W X.K q2))(hs:starEach (a::es) X.env=(false,eval a X.env)::starEach es X.env)(Jq:(backTo pos (starEach es X.env)).any (·.1)=false)(h2:Ed.len q2=2) :
 PI X (.Tuple ts k0 pt) (.Call (.Name "zip" pr) (a::es) [] pos) (tI nm W X.K (.zip q2)):=by
 intro qv s0 σ H R' I hh;obtain⟨ι,ρ,M,s,M',S,R,e,q⟩:=hh;rw[MW.aih] at e;obtain⟨ds,N1,e1,e⟩:=gn e;have Z:=Jd e1;rw[h2] at Z
 match ds,Z,e1,e with
 |[x,y],_,e1,e =>
  obtain⟨rfl,ys,hy,hx⟩:=axe e;refine PI.weak (bbg (ts:=ts) (k0:=k0) (pt:=pt) (p:=pr) (pos:=pos) hg hm ha hs Jq) (wi':=λq3 H0 R0=>q3=σ/\H0=H/\R0=R') (λq3 H0 R0 z=>?_) qv s0 σ H R' I ⟨rfl,rfl,rfl⟩;obtain⟨rfl,rfl,rfl⟩:=z;refine Yn S R e1 λqq H1 vs le S1 R1 rr=>?_
  cases rr with
  |cons r1 rr=>cases rr with
   |cons r2 rr =>
    cases rr;obtain⟨p2,q0,rfl,l2,k2⟩:=aeu hy r2;have x0:=(Le.refl qq H1).toX;rcases hx with⟨xs,hx,hl,rfl⟩|⟨n,xs,rfl,hn,hl,rfl⟩
    .obtain⟨p1,qk,rfl,l1,k1⟩:=aeu hx r1
     refine⟨bt H1,[p1,p2],rfl,rfl,λa ha=>?_,q qq H1 _ le S1 (aev λG H2 M2 U S2=>⟨λi d Z=>?_,λ_=>⟨qk,k1 _ _ U,?_⟩⟩)⟩
     .simp only[cj,ug,Bd] at ha
      rcases ha with rfl|rfl
      .exact⟨_,k1 _ _ x0⟩
      .exact⟨_,k2 _ _ x0⟩
     .have Z:(MW.Ng [xs,ys] ys.length)[i]?=some d:=Z
      have hi:i<ys.length:=by simpa[MW.Ng] using(ak.mp Z).1
      have q1:i<xs.length:=b_ hi (g_ hl)
      obtain⟨u,g1,g2⟩:=(l1.J1 U).get (bf q1);obtain⟨v,g3,g4⟩:=(l2.J1 U).get (bf hi);refine⟨xs[i],ys[i],qk,q0,u,v,?_,k1 _ _ U,k2 _ _ U,g1,g3,g2,g4⟩;rw[MW.Ng,ie,km hi] at Z;cases Z;simp[hi,q1]
     .show qk.length<=(MW.Ng [xs,ys] ys.length).length
      rw[<- l1.length];simp[MW.Ng,hl]
    .cases r1 with
     |@ref _ p1 h1 =>
      have get:∀{G H2 M2 zs},LeX qq H1 G H2->lq nm X.K G H2 M2->M2[n]?=some (.lst zs)->∃us,SqX (bt H1 p1) X.K H2 p1 us/\p8 X.K G H2 zs us:=fun{G H2 M2 zs} U S2 hz=>by obtain⟨ws,w1,_⟩:=S1.obj n _ p1 hn h1;obtain⟨us,k1,k3⟩:=S2.obj n _ p1 hz (U.get h1);exact⟨us,by simp only[bt,w1];exact Gw.of k1,k3⟩
      refine⟨bt H1,[p1,p2],rfl,rfl,λa ha=>?_,q qq H1 _ le S1 (aev λG H2 M2 U S2=>⟨λi d Z=>?_,λhf=>?_⟩)⟩
      .simp only[cj,ug,Bd] at ha
       rcases ha with rfl|rfl
       .obtain⟨us,k,_⟩:=get x0 S1 hn
        exact⟨_,k⟩
       .exact⟨_,k2 _ _ x0⟩
      .cases hM:M2[n]? with
       |none=>simp only[Src.item,hM] at Z;cases Z
       |some o=>cases o with
        |lst zs =>
         simp only[Src.item,hM] at Z
         by_cases hz:zs.length=ys.length
         .rw[dg hz] at Z
          obtain⟨x,a1,Z⟩:=gq.mp Z;obtain⟨y,a2,rfl⟩:=dq.mp Z;obtain⟨us,k1,l1⟩:=get U S2 hM;obtain⟨u,g1,g2⟩:=l1.get a1;obtain⟨v,g3,g4⟩:=(l2.J1 U).get a2;exact⟨x,y,us,q0,u,v,rfl,k1,k2 _ _ U,g1,g3,g2,g4⟩
         .rw[bx hz] at Z;cases Z
        |_=>simp only[Src.item,hM] at Z;cases Z
      .cases hM:M2[n]? with
       |none=>simp only[Src.fin,hM] at hf;cases hf
       |some o=>cases o with
        |lst zs =>
         simp only[Src.fin,hM] at hf;obtain⟨us,k1,l1⟩:=get U S2 hM;exact⟨us,k1,by rw[<- l1.length];exact f_ (show zs.length=ys.length by simpa using hf)⟩
        |_=>simp only[Src.fin,hM] at hf;cases hf
theorem aew:∀{Z:List Dv}{b:Bool},MW.allB Z=some b->∃bs:List Bool,Z=bs.map MW.D.bl/\b=bs.all id
 |[],b,e=>by cases e;exact⟨[],rfl,rfl⟩
 |.bl k::r,b,e=>by
  obtain⟨c,G,rfl⟩:=dq.mp (show(MW.allB r).map (k&&·)=some b from e);obtain⟨bs,rfl,rfl⟩:=aew G;exact⟨k::bs,rfl,by simp⟩
theorem Z0{ι:Io}{H:Hp}{K:Fg}:∀{bs:List Bool}{Z:List V}{is:Zl},p8 K ι H (bs.map MW.D.bl) Z->Vals Z is->is=bs.map Value.bool
 |[],_,_,r,h=>by cases r;cases h;rfl
 |k::bs,_,_,r,h=>by
  cases r with
  |cons r1 R =>
   cases h with
   |cons U G =>
    cases r1;cases U;rw[Z0 R G];rfl
def bbj(hc:X.calm=true):Ci X (.builtin "all") (rB nm X.K .all):=λqk s σ H vs us Q I Uk hh=>by
 obtain⟨ι,M,ds,d,M',S,r,e,q⟩:=hh;obtain⟨x,rfl,e⟩:∃x,ds=[x]/\Res.u5 (((MW.du M x).bind MW.allB).map MW.D.bl) M=.ok d M':=by
  cases ds with
  |nil=>cases e
  |cons x l=>cases l with
   |nil=>exact⟨x,rfl,e⟩|cons _ _=>cases e
 obtain⟨e1,rfl⟩:=xq e;obtain⟨b,e2,rfl⟩:=dq.mp e1;obtain⟨xs,e3,e4⟩:=gq.mp e2;obtain⟨bs,rfl,rfl⟩:=aew e4;obtain⟨v,rfl,rv⟩:=Ls r rfl;obtain⟨u,rfl,ru⟩:=Xm Uk;obtain⟨p,ws,rfl,hp,rl⟩:=um S rv e3;cases ru;obtain⟨is,qq,pl,_⟩:=I.list (Gw.of hp);have G:=Z0 rl qq;have Jp:p<s.heap.objs.size:=by obtain⟨_,e,_⟩:=pl.isList;exact az e
 refine call_all_walk (xx pl.isList ?_);refine⟨_,_,_,_,_,_,λi=>bs.getD i true,rfl,Walks.list (A:=X.A.in1) (I.ok.hd hc) s.heap.objs.size p (gh Jp) is.toArray,⟨⟨_,bu _ rfl,rfl,rfl⟩,pl.isList.push _⟩,λi v s Q E hP R=>?_,λh' tk U=>?_⟩
 .have hv:is[i]?=some v:=by simpa using hP
  rw[G,ie] at hv;obtain⟨k,U,rfl⟩:=dq.mp hv;refine j5 ?_;have R:Q (bs.getD i true) s:=R;rw[bz,U] at R;exact R
 .have ha:(List.range is.toArray.size).all (λi=>bs.getD i true)=bs.all id:=by
   rw[G];simp only[gf,cz];rw[Ad,jd,jd];constructor
   .intro h k U
    obtain⟨i,hi,rfl⟩:=pq U;have:=h i (fc.mpr hi);simpa[bz,hi] using this
   .intro h i hi
    have Z:=fc.mp hi;have:=h bs[i] (nq Z);simpa[bz,Z] using this
  rw[ha];exact⟨.bl _,H,I.kept (t':=tk) (old_kept U),rfl,q ι H _ (Le.refl _ _) S (.bl _)⟩
def axf(hT:PySem.W.kitAny X.K (.type "tuple") [.type "tuple",.type "list"]=some true)(qk:PySem.W.kitAny X.K (.type "int") [.type "tuple",.type "list"]=some false)(hg:Gl X n)(hm:X.mg n=none)(hv:bootBuiltins n=some (.builtin "isinstance"))(hn:n≠"__name__")(Tn:(n==("__debug__" : Str))=false)(q0:Gl X "tuple")(qv:X.mg "tuple" = none)(q1:Gl X "list")(q2:X.mg "list" = none)(ha:PE X a (tE nm W X.K a'))(he:starEach [a,.Tuple [.Name "tuple" p1,.Name "list" p2] k pt] X.env=(false,eval a X.env)::starEach [.Tuple [.Name "tuple" p1,.Name "list" p2] k pt] X.env)(Jq:(backTo pos (starEach [.Tuple [.Name "tuple" p1,.Name "list" p2] k pt] X.env)).any (·.1)=false):PE X (.Call (.Name n p) [a,.Tuple [.Name "tuple" p1,.Name "list" p2] k pt] [] pos) (tE nm W X.K (.blt .isSeq (.cons a' .nil))):=by
 intro G s σ H Q I hh;obtain⟨ι,ρ,M,d,M',S,R,e,q⟩:=hh;rw[MW.Vy] at e;obtain⟨ds,M1,e1,e⟩:=gn e;rw[MW.Dl] at e1;obtain⟨x,M2,e2,e1⟩:=gn e1;rw[MW.Ni] at e1;cases e1;refine iw (Cw I hg hm hv ?_ hn Tn);refine wj (Q:=EP X G σ Q) ?_ he Jq;rw[he];show wpAny _ _ (spliced ((false,eval a X.env)::backTo pos (starEach [.Tuple [.Name "tuple" p1,.Name "list" p2] k pt] X.env))) _ _ s;refine j7 (Bu (ha G s σ H (λv H1=>∃Z,Le ι H Z H1/\lq nm X.K Z H1 M1/\Rep X.K Z H1 x v) I ⟨ι,ρ,M,x,M1,S,R,e2,λZ H1 v le S1 r=>⟨Z,le,S1,r⟩⟩) λu U z_=>?_);obtain⟨v,H1,I1,r1,Z,le,S1,r⟩:=z_;show wpAny _ _ (spliced ((false,eval (.Tuple [.Name "tuple" p1,.Name "list" p2] k pt) X.env)::backTo pos (starEach [] X.env))) _ _ U;refine j7 (wpAny_Tuple ?_);show wpAny _ _ (spliced ((false,eval (.Name "tuple" p1) X.env)::backTo pt (starEach [.Name "list" p2] X.env))) _ _ U;refine j7 (Cw I1 q0 qv (show bootBuiltins "tuple" = some (.type "tuple") by decide+kernel) ?_ (by decide+kernel) (by decide+kernel));show wpAny _ _ (spliced ((false,eval (.Name "list" p2) X.env)::backTo pt (starEach [] X.env))) _ _ U;refine j7 (Cw I1 q1 q2 (show bootBuiltins "list" = some (.type "list") by decide+kernel) ?_ (by decide+kernel) (by decide+kernel));refine su ⟨by show 2<=sizeLine;decide,?_⟩;refine su ?_;have I2:Inv X G σ H1 { U with heap:=U.heap.push { cls:=.type "tuple",data:=.seq #[.type "tuple",.type "list"] } }:=I1.kept (t':=U.toks) λb u e=>au _ e
 have qq:(U.heap.push { cls:=.type "tuple",data:=.seq #[.type "tuple",.type "list"] }).get? U.heap.objs.size=some { cls:=.type "tuple",data:=.seq #[.type "tuple",.type "list"] }:=bu _ rfl;have e:Res.u5 ((MW.isX (some true) (some false) x).map MW.D.bl) M1=.ok d M':=e;obtain⟨e4,e5⟩:=xq e;subst e5;obtain⟨b,e3,rfl⟩:=dq.mp e4;have fin:∀tk,EP X G σ Q (.bool b) { U with heap:=U.heap.push { cls:=.type "tuple",data:=.seq #[.type "tuple",.type "list"] },toks:=tk }:=λtk=>⟨.bl b,H1,I2.tok _,rfl,q Z H1 _ le S1 (.bl b)⟩
 cases r with
 |int i=>cases e3;obtain⟨t,q⟩:=(show ∃t,u=Value.int i t from r1);cases q;exact PySem.W.kia_tup PySem.W.kitx_int I2.U9 True.intro qq qk (λz=>nomatch z) fin
 |@tup p ds us h1 rr =>
  cases e3;cases(show u=Value.ref p from r1);obtain⟨_,_,_,h1⟩:=(show Ba X.prog X.w H1 _ p (.tup us) from I2.Av p _ h1);obtain⟨o,g1,g2,_⟩:=h1;exact PySem.W.kia_tup PySem.W.kitx_tuple I2.U9 ⟨o,g1,g2⟩ qq hT (λz=>nomatch z) fin
 |_=>cases e3
def axh(e:MW.K8 .get x ds M=.ok d M'):∃n k d0,x=.ref n/\ds=[k,d0]/\M'=M/\∃G q,M[n]?=some (.dK G)/\MW.Wo k=some q/\d=(MW.Bh G q).getD d0:=by
 obtain⟨n,G,rfl,hM,Z⟩:=aws e
 match ds,Z with
 |[k,d0],Z =>
  obtain⟨e2,R⟩:=xq Z;obtain⟨q,h1,U⟩:=dq.mp e2;exact⟨n,k,d0,rfl,rfl,R,G,q,hM,h1,U.symm⟩
 |[],Z=>cases Z|[_],Z=>cases Z|_::_::_::_,Z=>cases Z
set_option tactic.hygienic true in
def ty_dict{X:Cx}(S:lq nm X.K Y H M)(r:Rep X.K Y H x v)(h:MW.K7 .get x M=true):tyV X.K "dict" v H:=by
 cases r with
 |@ref n p hp =>
  have h:(match M[n]? with|some (.dK _)=>true|_=>false)=true:=h;split at h
  .rename_i Z
   obtain⟨l,G,_⟩:=S.obj n _ p Z hp;exact .inr (.inr (.inl ⟨rfl,.inl ⟨_,G⟩⟩))
  .cases h
 |_=>cases h
def bbk(hu:X.A.units+1<cLine):MtR X "dict.get" (rM nm X.K .get):=λqk s σ H v vs u us Q I ru Uk hh=>by
 obtain⟨ι,M,x,ds,d,M',S,r,rs,e,_,q⟩:=hh;obtain⟨n,k,d0,rfl,rfl,rfl,ik,k0,hM,hk,rfl⟩:=axh e;cases rs with
 |cons rk R =>
  cases R with
  |cons rd R =>
   cases R;cases Uk with
   |cons qq Z =>
    cases Z with
    |cons U Z =>
     cases Z;cases r with
     |ref ha =>
      cases ru;obtain⟨l,h1,h2⟩:=S.obj n _ _ hM ha;have hy:=abj rk hk;subst hy;refine a3b hu I (Q5.k h1) qq U λw' s' I' G=>⟨_,H,I',G,q ι H _ (Le.refl _ _) S ?_⟩
      cases hl:MW.Bh ik k0 with
      |none=>rw[(h2.look (k:=k0)).2 hl];exact rd|some d=>obtain⟨z,h3,h4⟩:=(h2.look (k:=k0)).1 d hl;rw[h3];exact h4
set_option tactic.hygienic true in
def a4h(hr:Aj 8 X.A)(hg:Gl X n)(hm:X.mg n=none)(hv:bootBuiltins n=some (.type "list"))(hn:n≠"__name__")(Tn:(n==("__debug__" : Str))=false)(q3:Gl X J)(q5:X.mg J=none)(qk:bootBuiltins J=some (.type "range"))(Yu:J≠"__name__")(qv:(J==("__debug__" : Str))=false)(ha:PA X [a] (Yd nm W X.K (.cons a' .nil)))(he:starEach [.Call (.Name J p') [a] [] L] X.env=(false,eval (.Call (.Name J p') [a] [] L) X.env)::starEach [] X.env)(Jq:(backTo q1 (starEach [] X.env)).any (·.1)=false)(qq:starEach [a] X.env=(false,eval a X.env)::starEach [] X.env)(q4:(backTo L (starEach [] X.env)).any (·.1)=false) :
 PE X (.Call (.Name n p) [.Call (.Name J p') [a] [] L] [] q1) (tE nm W X.K (.Wn a')):=by
 intro Y s σ H Q I hh;obtain⟨ι,ρ,M,d,M',S,R,e,q⟩:=hh;rw[MW.an5] at e;obtain⟨x,M1,e1,e⟩:=gn e;split at e<;>try cases e
 rename_i i;split at e<;>cases e;rename_i hi;refine iw (Cw I hg hm hv ?_ hn Tn);refine jh (Q:=EP X Y σ Q) ?_ he Jq;rw[he];show wpAny _ _ (spliced ((false,eval (.Call (.Name J p') [a] [] L) X.env)::backTo q1 (starEach [] X.env))) _ _ s;refine j7 ?_;refine iw (Cw I q3 q5 qk ?_ Yu qv);refine jh (Bu (ha L Y s σ H (λvs U=>∃G,vs=[.int i]/\Le ι H G U/\lq nm X.K G U M1) I ⟨ι,ρ,M,[.int i],M1,S,R,by simp[e1,Res.bind],λG U vs le S1 r=>?_⟩) λus Z ⟨vs,U,I1,r1,G,ev,V6,S1⟩=>?_) qq q4
 .obtain⟨v,ev,rv⟩:=Ls r rfl
  cases rv;exact⟨G,ev,le,S1⟩
 subst ev;obtain⟨u,rfl,ru⟩:=Xm r1;obtain⟨t,rfl⟩:=ru;refine call_range_1 ?_;show wpAny _ _ (spliced []) _ _ _;refine su ?_;have keep:∀b o,Z.heap.get? b=some o->(Z.heap.push { cls:=.type "range",data:=.fields #[.int 0 Z.toks,.int i t,.int 1 (Z.toks+1)] }).get? b=some o:=λb o e=>au _ e
 refine call_list_range (n:=i.toNat) hr.hd (bu _ rfl) (small_one (by lia) (by lia) (by lia) (by omega)) (by rw[rangeSize_one];split<;>lia) (by lia) λh' tk C c' hk hS Fp=>?_
 have q0:(Z.heap.push { cls:=.type "range",data:=.fields #[.int 0 Z.toks,.int i t,.int 1 (Z.toks+1)] }).objs.size=Z.heap.objs.size+1:=ju ..;have hS:h'.get? (Z.heap.push { cls:=.type "range",data:=.fields #[.int 0 Z.toks,.int i t,.int 1 (Z.toks+1)] }).objs.size=some { cls:=.type "list",dict:=none,data:=.seq C c',slots:=#[] }:=hS;show EP X Y σ Q (.ref (Z.heap.push { cls:=.type "range",data:=.fields #[.int 0 Z.toks,.int i t,.int 1 (Z.toks+1)] }).objs.size) _;rw[q0] at hS ⊢;have hz:((List.range i.toNat).map λ(k:Nat)=>V.int (k:Int)).length<=sizeLine:=by simp[qb];omega
 have y:Z.heap.objs.size<=Z.heap.objs.size+1:=vg _
 have hf:U (Z.heap.objs.size+1)=none:=I1.Av.fresh y;have I3:Inv X Y σ (upd U (Z.heap.objs.size+1) (.lst ((List.range i.toNat).map λ(k:Nat)=>V.int (k:Int)))) { Z with heap:=h',toks:=tk } :=
  I1.laid (a:=Z.heap.objs.size+1) (t':=tk) (λb o e=>hk b o (keep b o e)) y (show Ba X.prog X.w _ _ _ (.lst _) from⟨hz,C.toList,c',Xo Fp,by simpa using hS⟩)
 obtain⟨S2,yx,r2⟩:=abh (X:=X) S1 hf (Xp i.toNat);exact⟨.ref (Z.heap.objs.size+1),_,I3,rfl,q _ _ _ (V6.trans yx) S2 r2⟩
def s_pop(ho:PE X o (tE nm W X.K o'))(W9:attributeBase o "pop" X.env (eval o X.env)=eval o X.env)(Xa:(apos.endLine==Q6.line)=true) :
 PE X (.Call (.Attribute o "pop" apos) [] [] Q6) (tE nm W X.K (.bm .pop o' .nil)) :=
 PE.of (a3d zc PySem.F.slot_list_pop PySem.F.type_list_pop (ba5 (nm:=nm)) ho W9 Xa) fun σ H Q ι ρ M d M' S R e q=>by rw[MW.agi] at e;obtain⟨x,M1,e1,e2⟩:=gn e;obtain⟨ht,U⟩:=Xl e2;rw[MW.Ni] at U;exact one S R e1 λZ H1 v le S1 R1 r=>⟨ty_list S1 r ht,Z,M1,x,[],d,M',S1,r,.nil,U,nofun,λG H' w Ye S' r'=>q G H' w (le.trans Ye) S' r'⟩
def bbl(ha:PE X a (tE nm W X.K a'))(he:∀Z,isTrue a X.env Z=(do let v <- Z;standAt a.pos;holding [v] (truthy v))):PT X a (tQ nm W X.K (.tru a')):=by intro G s σ H Q I hh;obtain⟨ι,ρ,M,b,M',S,R,e,q⟩:=hh;rw[MW.auv] at e;obtain⟨x,M1,e1,e2⟩:=gn e;obtain⟨e3,rfl⟩:=xq e2;obtain⟨ds,e4,e5⟩:=dq.mp e3;cases e5;refine apj ha he G s σ H Q I ⟨ι,ρ,M,x,M',S,R,e1,λU H1 v le S1 r=>?_⟩;obtain⟨p,vs,rfl,h1,h2⟩:=um S1 r e4;refine⟨!ds.isEmpty,.inl ⟨vs,Gw.of h1,?_⟩,q U H1 le S1⟩;cases h2<;>rfl
end Sm
namespace Sm
open PySem L2
open MW (Ex Ed OEx Pz Cz p7 Lv Tg Res dh MO Hh Cp Op2 Blt Bm Kx Src)
theorem aex{ι:Io}{H:Hp}{K:Fg}:∀{Z:List Dv}{G:List V}{is:Zl}{U:Xs},p8 K ι H Z G->Vals G is->MW.Yw Z=some U->PyProof.Rows.IntsAre is U
 |_,_,_,_,.nil,.nil,h=>by cases h;exact .nil
 |_,_,_,_,.cons r t,.cons rv tv,h=>by
  cases r<;>simp only[MW.Yw] at h<;>try cases h
  obtain⟨R,e1,e2⟩:=dq.mp h;subst e2;obtain⟨tk,rfl⟩:=rv;exact .cons _ _ (aex t tv e1)
theorem aey:∀{is:Zl}{Z:Xs},PyProof.Rows.IntsAre is Z->Vals (Z.map V.int) is
 |_,_,.nil=>.nil|_,_,.cons n t h=>.cons ⟨t,rfl⟩ (aey h)
theorem Z3{G:Io}{H:Hp}{K:Fg}:∀Z:List Int,p8 K G H (Z.map MW.D.int) (Z.map V.int)
 |[]=>.nil|n::Z=>.cons (.int n) (Z3 Z)
set_option tactic.hygienic true in
def aez(e:MW.o8 .By ds M=.ok d M'):∃x Y Z,ds=[x]/\MW.du M x=some Y/\MW.Yw Y=some Z/\(MW.Am Z).length<31/\d=.vl ((MW.sortI (MW.Am Z)).map MW.D.int)/\M'=M:=by
 match ds,e with
 |[x],e =>
  have e:Res.u5 (((MW.du M x).bind MW.Yw).bind λis=>if(MW.Am is).length<31 then some (MW.D.vl ((MW.sortI (MW.Am is)).map MW.D.int)) else none) M=.ok d M':=e;obtain⟨S,R⟩:=xq e;obtain⟨Z,J,G⟩:=gq.mp S;obtain⟨Y,U,L⟩:=gq.mp J;split at G
  .rename_i C
   exact⟨x,Y,Z,rfl,U,L,C,(jy G).symm,R⟩
  .cases G
 |[],e=>cases e|_::_::_,e=>cases e
def a4i(hr:Aj 8 X.A)(I:Inv X pins σ H s)(S:lq nm X.K ι H M)(R:Rep X.K ι H x v)(ru:RelV v u)(e2:MW.du M x=some xs)(e3:MW.Yw xs=some ns)(hl:(MW.Am ns).length<31)(h:∀Z tk U,(∀b o,s.heap.get? b=some o->Z.get? b=some o)->Wa.Cq X.w Z s.heap.objs.size (λk=>k∈ns) U->U<=(MW.Am ns).length->Q (.ref s.heap.objs.size) { s with heap:=Z,toks:=tk }) :
 wpAny (model X.prog X.w) X.A (call (.type "set") [u]) Q X.xe s:=by
 obtain⟨p,ws,rfl,hp,rl⟩:=um S R e2;cases ru;obtain⟨is,G,pl,_⟩:=I.list (Gw.of hp);exact Wa.akv hr.hd pl.isList (by simpa using aex rl G e3) (λk hk=>(MW.T6 k ns).mpr hk) hl h
def al3(hr:Aj 8 X.A)(I1:Inv X pins σ H1 s1)(S1:lq nm X.K qq H1 M')(hS:Wa.Cq X.w h' a (λk=>k∈ns) n')(ha:s1.heap.objs.size<=a)(keep:∀b o,s1.heap.get? b=some o->h'.get? b=some o)(hn:n'<31)(q:∀Z R v,Le qq H1 Z R->lq nm X.K Z R M'->Rep X.K Z R (.vl ((MW.sortI (MW.Am ns)).map MW.D.int)) v->Q v R) :
 wpAny (model X.prog X.w) X.A (call (.builtin "sorted") [.ref a]) (EP X pins σ Q) X.xe { s1 with heap:=h',toks:=tk }:=by
 refine Wa.acq (s:={ s1 with heap:=h',toks:=tk }) hr.hd hS hn λh2 G p2 out ms qv q0 q1 so nd mem z_=>?_
 obtain⟨c,g⟩:=z_;have q2:(MW.Am ns).length<=n':=by
  obtain⟨xs,o,es,ep,t,X,hm,rfl,_⟩:=hS;have:=Wa.af8 (MW.aaq ns) λk hk=>(hm k).mp ((MW.T6 k ns).mp hk)
  rw[cz] at this;exact this
 obtain rfl:=MW.aij so nd mem;obtain⟨o9,_,_,_,g9,_⟩:=hS.get;have U:s1.heap.objs.size<=p2:=iu (iu ha (yj (az g9))) q0
 have hf:H1 p2=none:=I1.Av.fresh U;have qk:((MW.sortI (MW.Am ns)).map V.int).length<=sizeLine:=by rw[cz,(MW.Kg _).length_eq,qb];exact e_ (c_ q2 (b_ hn (by decide)))
 have I3:Inv X pins σ (upd H1 p2 (.lst ((MW.sortI (MW.Am ns)).map V.int))) { s1 with heap:=h2,toks:=G } :=
  I1.laid (a:=p2) (t':=G) (λb o e=>qv b o (keep b o e)) U (show Ba X.prog X.w _ _ _ (.lst _) from⟨qk,out.toList,c,aey q1,by simpa using g⟩)
 obtain⟨S2,yx,r2⟩:=abg (X:=X) S1 hf (Z3 _);exact⟨.ref p2,_,I3,rfl,q _ _ _ yx S2 r2⟩
def al4(hr:Aj 8 X.A)(hg:Gl X n)(hm:X.mg n=none)(hv:bootBuiltins n=some (.builtin "sorted"))(hn:n≠"__name__")(Tn:(n==("__debug__" : Str))=false)(q3:Gl X U)(q5:X.mg U=none)(qk:bootBuiltins U=some (.type "set"))(Yu:U≠"__name__")(q0:(U==("__debug__" : Str))=false)(ha:PA X [a] (Yd nm W X.K (.cons a' .nil)))(he:starEach [.Call (.Name U p') [a] [] q2] X.env=(false,eval (.Call (.Name U p') [a] [] q2) X.env)::starEach [] X.env)(Jq:(backTo q1 (starEach [] X.env)).any (·.1)=false)(qq:starEach [a] X.env=(false,eval a X.env)::starEach [] X.env)(q4:(backTo q2 (starEach [] X.env)).any (·.1)=false) :
 PE X (.Call (.Name n p) [.Call (.Name U p') [a] [] q2] [] q1) (tE nm W X.K (.blt .By (.cons a' .nil))):=by
 intro G s σ H Q I hh;obtain⟨ι,ρ,M,d,M',S,R,e,q⟩:=hh;rw[MW.Vy] at e;obtain⟨ds,M1,e1,e⟩:=gn e;obtain⟨x,xs,ns,rfl,e2,e3,hl,rfl,rfl⟩:=aez e;refine iw (Cw I hg hm hv ?_ hn Tn);refine wj (Q:=EP X G σ Q) ?_ he Jq;rw[he];show wpAny _ _ (spliced ((false,eval (.Call (.Name U p') [a] [] q2) X.env)::backTo q1 (starEach [] X.env))) _ _ s;refine j7 ?_;refine iw (Cw I q3 q5 qk ?_ Yu q0);refine jh (Bu (ha q2 G s σ H (λvs H1=>∃Z v,vs=[v]/\Rep X.K Z H1 x v/\Le ι H Z H1/\lq nm X.K Z H1 M') I ⟨ι,ρ,M,[x],M',S,R,e1,λZ H1 vs le S1 r=>?_⟩) λus s1 ⟨vs,H1,I1,r1,Z,v,ev,rx,V6,S1⟩=>?_) qq q4
 .obtain⟨v,ev,rv⟩:=Ls r rfl
  exact⟨Z,v,ev,rv,le,S1⟩
 subst ev;obtain⟨u,rfl,ru⟩:=Xm r1;refine a4i hr I1 S1 rx ru e2 e3 hl λh' tk n' keep hS Py=>?_
 show wpAny _ _ (spliced []) _ _ _;refine su ?_;exact al3 hr I1 S1 hS (bw _) keep (c_ Py hl) λqv H' v le=>q qv H' v (V6.trans le)
end Sm
namespace Ck
open PySem L2 Sm
open MW (Ex Ed OEx Pz Cz p7 Lv Tg Res dh MO Hh Cp Op2 Blt Bm Kx Src)
structure Tab where
 fns:List (Option (Str×Nat))
 cls:List (Option (Str×Nat))
 mts:List (Str×Nat)
 Q8:List Str
 axi:List (Str×Int)
noncomputable def Pa:List Str:=["len", "tuple", "list", "dict", "max", "min", "isinstance", "range", "enumerate", "set", "zip", "all", "bool", "int", "sum", "sorted"]
structure aqx(T:Tab)(nm:Nm)(W:Hh)(k:Nat)(P:Program)(w:World)(K:Fg)(mg:Zs)(base:Heap):Prop where
 fn:∀f x n,T.fns[f]?=some (some (x,n))->∃fa fd ps,Ha P w K mg base CX0 k fa fd ps (spF nm W K n f)/\mg x=some (.ref fa)/\PySem.W.keepIn K (.ref fa)=true/\Binds K fd ps []
 cl:∀c x n,T.cls[c]?=some (some (x,n))->∃C fa fd ps cl,Mk K C fa/\Ha P w K mg base CX0 k fa fd ps (spF nm W K (n+1) cl.init)/\mg x=some (.ref C)/\Binds K fd ps []/\W.cls[c]?=some cl/\nm.cls c=some C
 mt:∀m x n,T.mts[m]?=some (x,n)->∃C fa fd ps f,Cls K C/\Meth K C x fa/\Ha P w K mg base CX0 k fa fd ps (spF nm W K (n+1) f)/\Binds K fd ps [] /\
  (∀c' cl',W.cls[c']?=some cl'->∀g,cl'.meths.lookup m=some g->nm.cls c'=some C/\g=f)/\∀i,nm.fld i≠x
 fl:∀f x,T.Q8[f]?=some x->x=nm.fld f/\∀c C,nm.cls c=some C->Cls K C/\G9 K C x
 cs:∀x i,(x,i)∈T.axi->∃t,mg x=some (.int i t)
 bt:∀x∈Pa,mg x=none
structure Ctx where
 N:List Str
 sc:List (Str×NameKind)
 fn:Bool
structure Fi(T:Tab)(nm:Nm)(W:Hh)(k:Nat)(c:Ctx)(X:Cx):Prop where
 N:X.N=c.N
 nd:c.N.Nodup
 sc:X.env.scope.names=c.sc
 kd:X.env.scope.kind=.function
 calm:X.calm=true
 room:Aj (k+16) X.A
 fnl:c.fn=true->(∀n,X.fn n=true)/\PassesOwn (model X.prog X.w) X.A X.env X.xe
 tab:aqx T nm W k X.prog X.w X.K X.mg X.base
def Uo{Z U:String}(K:Fg)(h:(if(Value.type Z==Value.type U)=true then some true else if PySem.W.kitMeta U=true then(fastBuiltinMro Z).map (·.contains (.type U)) else none)=some b):PySem.W.kitOne K (.type Z) (.type U)=some b:=h
def ae0(G:PySem.W.kitOne K (.type Ty) (.type "tuple")=some a)(Z:PySem.W.kitOne K (.type Ty) (.type "list")=some b):PySem.W.kitAny K (.type Ty) [.type "tuple",.type "list"]=some (a||b):=by cases a<;>cases b<;>simp[PySem.W.kitAny,G,Z]
noncomputable def Xq(n:Str):Bool:=!(n==("__debug__" : Str))&&(!(n==("__classdict__" : Str))&&!(n==("__name__" : Str)))
noncomputable def al5(c:Ctx)(n:Str):Bool:=match c.sc.lookup n with|some .local=>true|some .cell=>true|some .free=>true|_=>false
noncomputable def a4j(c:Ctx)(n:Str):Bool:=match c.sc.lookup n with|some .local=>true|some .cell=>c.fn|_=>false
def Tp(c:Ctx)(n:Str):Bool:=Xq n&&(match c.sc.lookup n with|some .globalImplicit=>true|_=>false)
noncomputable def ajt(c:Ctx)(i:Nat)(n:Str):Bool:=match c.N[i]? with|some m=>m==n|none=>false
def Bk:List Expr->Bool
 |[]=>true|e::r=>noStar e&&Bk r
noncomputable def Pb:Expr->Bool
 |.Name ..=>true|.Attribute ..=>true|.Subscript ..=>true|.Call (.Attribute ..) ..=>true|_=>false
def ue(h:Xq n=true):(n==("__debug__" : Str))=false/\(n==("__classdict__" : Str))=false/\n≠"__name__" := by simp only[Xq,aq,Bool.not_eq_true'] at h;exact⟨h.1,h.2.1,λz=>by have:=h.2.2;rw[z] at this;simp at this⟩
set_option tactic.hygienic true in
def a4k(h:Fi T nm W k c X)(Z:al5 c n=true):Vis X.env.scope n:=by unfold Vis;rw[h.sc];unfold al5 at Z;split at Z<;>rename_i e<;>first|exact .inl e|exact .inr (.inl e)|exact .inr (.inr e)|cases Z
set_option tactic.hygienic true in
def a4l(h:Fi T nm W k c X)(Z:a4j c n=true):L2.Loc X.env.scope n/\(X.fn n=true\/X.env.scope.names.lookup n=some .local):=by
 unfold L2.Loc;rw[h.sc];unfold a4j at Z;split at Z
 .rename_i e;exact⟨.inl e,.inr e⟩
 .rename_i e;exact⟨.inr e,.inl ((h.fnl Z).1 n)⟩
 .cases Z
set_option tactic.hygienic true in
def Ew(h:Fi T nm W k c X)(Z:Tp c n=true):Gl X n/\Xq n=true:=by
 unfold Tp at Z;rw[aq] at Z;refine⟨?_,Z.1⟩;have Z:=Z.2;unfold Gl Env.kindOf;rw[h.sc];split at Z
 .rename_i e;exact e
 .cases Z
set_option tactic.hygienic true in
def slot_of(h:Fi T nm W k c X)(Z:ajt c i n=true):X.N[i]?=some n:=by
 rw[h.N];unfold ajt at Z;split at Z
 .rename_i m e;rw[e,eq_of_beq Z]
 .cases Z
theorem Xr{Z:Env}:∀{G:Ya},Bk G=true->starEach G Z=G.map λe=>(false,eval e Z)
 |[],_=>rfl
 |e::r,h=>by
  simp only[Bk,aq] at h;rw[my h.1,Xr h.2];rfl
def xg(h:Bk Z=true):(backTo pos (starEach Z env)).any (·.1)=false:=by rw[Xr h];simp[backTo]
def ahg(h:Bk Z=true):(backTo pos (starEach Z env)).all (λx=>!x.1)=true:=by rw[Xr h];simp[backTo]
set_option tactic.hygienic true in
def Gp(h:Pb o=true):attributeBase o n env (eval o env)=eval o env:=by
 cases o<;>try first|rfl|(cases h;done)
 rename_i f Y Z p;cases f<;>first|rfl|(cases h)
def axj(h:Pb o=true)(R:(apos.endLine==pos.line)=true) :
 eval (.Call (.Attribute o m apos) [] [] pos) env=(do
  let Z <- eval o env
  standAt apos.atName
  let (f,first) <- holding [Z] (getMethod Z m (do return (<- importBound o env).getD true))
  callWith pos f first (backTo pos (starEach [] env)) (backToKw pos (keywordEach [] env))):=by
 have G:methodCallForm 0 (backTo pos (starEach [] env)) (backToKw pos (keywordEach [] env))=true:=rfl;show(do
  let Z <- attributeBase o m env (eval o env)
  standAt apos.atName
  methodCall o m apos pos env Z 0 (backTo pos (starEach [] env)) (backToKw pos (keywordEach [] env)))=_
 rw[Gp h];unfold methodCall;rw[G];have U:methodCallPos true o env apos pos=pure pos:=by unfold methodCallPos;rw[R];rfl
 rw[U];simp only[calleeOf,ji,pure_bind]
noncomputable def Cm{Z:Type}(o:Option Z)(f:Z->Bool):Bool:=match o with|some x=>f x|none=>false
def jt(h:Cm o f=true):∃x,o=some x/\f x=true:=by
 cases o with
 |none=>cases h|some x=>exact⟨x,rfl,h⟩
noncomputable def Q9{α:Type}(l:List α):Option α:=match l with|[x]=>some x|_=>none
def Bv(h:Q9 l=some x):l=[x]:=by
 cases l with
 |nil=>cases h
 |cons y r=>cases r with
  |nil=>cases h;rfl|cons _ _=>cases h
def Yh{Z:Type}{P:Z->Prop}{o:Option {x // P x}}{q:Z}(h:o.map Subtype.val=some q):P q:=by
 cases o with
 |none=>cases h|some x=>cases h;exact x.2
noncomputable def Kz(a:Expr):Option Str:=Option.map Subtype.val (α:={q:Str // ∃p,a=.Name q p}) (match a with|.Name n p=>some ⟨n,p,rfl⟩|_=>none)
noncomputable def a4m(a:Expr):Option Const:=Option.map Subtype.val (α:={q:Const // ∃k p,a=.Constant q k p}) (match a with|.Constant n k p=>some ⟨n,k,p,rfl⟩|_=>none)
noncomputable def bbn(a:Expr):Option (Expr×Operator×Expr):=Option.map Subtype.val (α:={q:Expr×Operator×Expr // ∃p,a=.BinOp q.1 q.2.1 q.2.2 p}) (match a with|.BinOp l o r p=>some ⟨(l,o,r),p,rfl⟩|_=>none)
noncomputable def dUn(a:Expr):Option (UnaryOp×Expr):=Option.map Subtype.val (α:={q:UnaryOp×Expr // ∃p,a=.UnaryOp q.1 q.2 p}) (match a with|.UnaryOp o l p=>some ⟨(o,l),p,rfl⟩|_=>none)
noncomputable def axk(a:Expr):Option (Expr×List CmpOp×List Expr):=Option.map Subtype.val (α:={q:Expr×List CmpOp×List Expr // ∃p,a=.Compare q.1 q.2.1 q.2.2 p}) (match a with|.Compare l o r p=>some ⟨(l,o,r),p,rfl⟩|_=>none)
noncomputable def az0(a:Expr):Option (BoolOp×List Expr×Pos):=Option.map Subtype.val (α:={q:BoolOp×List Expr×Pos // a=.BoolOp q.1 q.2.1 q.2.2}) (match a with|.BoolOp o l p=>some ⟨(o,l,p),rfl⟩|_=>none)
noncomputable def a4n(a:Expr):Option (Expr×Expr×Expr):=Option.map Subtype.val (α:={q:Expr×Expr×Expr // ∃p,a=.IfExp q.1 q.2.1 q.2.2 p}) (match a with|.IfExp t l r p=>some ⟨(t,l,r),p,rfl⟩|_=>none)
noncomputable def ae1(a:Expr):Option (List Expr):=Option.map Subtype.val (α:={q:List Expr // ∃k p,a=.Tuple q k p}) (match a with|.Tuple l k p=>some ⟨l,k,p,rfl⟩|_=>none)
noncomputable def a4o(a:Expr):Option (List Expr):=Option.map Subtype.val (α:={q:List Expr // ∃p,a=.List q p}) (match a with|.List l p=>some ⟨l,p,rfl⟩|_=>none)
noncomputable def a4p(a:Expr):Option (List (Option Expr)×List Expr):=Option.map Subtype.val (α:={q:List (Option Expr)×List Expr // ∃p,a=.Dict q.1 q.2 p}) (match a with|.Dict k v p=>some ⟨(k,v),p,rfl⟩|_=>none)
noncomputable def aqy(a:Expr):Option (Expr×Expr):=Option.map Subtype.val (α:={q:Expr×Expr // ∃p,a=.Subscript q.1 q.2 p}) (match a with|.Subscript l r p=>some ⟨(l,r),p,rfl⟩|_=>none)
noncomputable def dSl(a:Expr):Option (Option Expr×Option Expr×Option Expr):=Option.map Subtype.val (α:={q:Option Expr×Option Expr×Option Expr // ∃p,a=.Slice q.1 q.2.1 q.2.2 p}) (match a with|.Slice l r s p=>some ⟨(l,r,s),p,rfl⟩|_=>none)
noncomputable def aqz(a:Expr):Option (Expr×List Expr×List Keyword×Pos):=Option.map Subtype.val (α:={q:Expr×List Expr×List Keyword×Pos // a=.Call q.1 q.2.1 q.2.2.1 q.2.2.2}) (match a with|.Call f l k p=>some ⟨(f,l,k,p),rfl⟩|_=>none)
noncomputable def aq0(a:Expr):Option (Expr×Str×Pos):=Option.map Subtype.val (α:={q:Expr×Str×Pos // a=.Attribute q.1 q.2.1 q.2.2}) (match a with|.Attribute l n p=>some ⟨(l,n,p),rfl⟩|_=>none)
noncomputable def ae2(a:Expr):Option (Expr×List Comprehension×Scope):=Option.map Subtype.val (α:={q:Expr×List Comprehension×Scope // ∃p,a=.ListComp q.1 q.2.1 q.2.2 p}) (match a with|.ListComp e g s p=>some ⟨(e,g,s),p,rfl⟩|_=>none)
def Ey(h:Kz a=some n):∃p,a=.Name n p:=(Yh h :)
def aju(h:a4m a=some n):∃k p,a=.Constant n k p:=(Yh h :)
def axl(h:bbn a=some (l,o,r)):∃p,a=.BinOp l o r p:=(Yh h :)
def aq1(h:dUn a=some (o,l)):∃p,a=.UnaryOp o l p:=(Yh h :)
def abv(h:axk a=some (l,o,r)):∃p,a=.Compare l o r p:=(Yh h :)
def aq2(h:az0 a=some (o,r,p)):a=.BoolOp o r p:=(Yh h :)
def axm(h:a4n a=some (t,l,r)):∃p,a=.IfExp t l r p:=(Yh h :)
def Pr(h:ae1 a=some l):∃k p,a=.Tuple l k p:=(Yh h :)
def ajv(h:a4o a=some l):∃p,a=.List l p:=(Yh h :)
def ajw(h:a4p a=some (k,l)):∃p,a=.Dict k l p:=(Yh h :)
def abw(h:aqy a=some (l,r)):∃p,a=.Subscript l r p:=(Yh h :)
def a4q(h:dSl a=some (l,r,s)):∃p,a=.Slice l r s p:=(Yh h :)
def ae3(h:aqz a=some (f,l,k,p)):a=.Call f l k p:=(Yh h :)
def abx(h:aq0 a=some (l,n,p)):a=.Attribute l n p:=(Yh h :)
def Xu(h:ae2 a=some (e,g,s)):∃p,a=.ListComp e g s p:=(Yh h :)
def dCN(a:Expr):Option (Str×List Expr):=(aqz a).bind λq=>if q.2.2.1.isEmpty then(Kz q.1).map λn=>(n,q.2.1) else none
set_option tactic.hygienic true in
def Hc(h:dCN a=some (n,l)):∃p p',a=.Call (.Name n p) l [] p':=by
 obtain⟨⟨f,C,k,p⟩,J,Z⟩:=gq.mp h;split at Z
 .rename_i Y
  obtain⟨L,G,U⟩:=dq.mp Z;obtain⟨p',e⟩:=Ey G;have e:f=_:=e;have Y:k=[]:=ou.mp Y;cases U;exact⟨p',p,by rw[ae3 J,e,Y]⟩
 .cases Z
def dCA(a:Expr):Option (Expr×Str×Pos×List Expr×Pos):=(aqz a).bind λq=>if q.2.2.1.isEmpty then(aq0 q.1).map λn=>(n.1,n.2.1,n.2.2,q.2.1,q.2.2.2) else none
set_option tactic.hygienic true in
def ahh(h:dCA a=some (o,n,J,l,p)):a=.Call (.Attribute o n J) l [] p:=by
 obtain⟨⟨f,R,k,S⟩,U,Z⟩:=gq.mp h;split at Z
 .rename_i Y
  obtain⟨⟨y,u,C⟩,G,L⟩:=dq.mp Z;have e:f=_:=abx G;have Y:k=[]:=ou.mp Y;cases L;rw[ae3 U,e,Y]
 .cases Z
noncomputable def bbo(l:Ya):List Str:=l.filterMap Kz
noncomputable def Ez(e:Expr):List Str:=match ae1 e with|some l=>bbo l|none=>bbo [e]
noncomputable def hid(i:Nat):Str:=⟨#[0,i]⟩
def al6(Z:Yf)(p:Str×Nat):Str:=if Z.contains p.1=true then hid p.2 else p.1
noncomputable def Vu(N Z:Yf):List Str:=N.zipIdx.map (al6 Z)++Z
noncomputable def axn(c:Ctx)(Z:X0):List (Str×NameKind):=Z.map λy=>if(y.2==NameKind.free&&c.sc.lookup y.1==some .cell) then(y.1,NameKind.cell) else(y.1,y.2)
def ae4(c:Ctx)(G:Scope)(Z:Yf):Ctx:=⟨Vu c.N Z,axn c G.names,false⟩
def a4s(c:Ctx)(Z:Scope)(G:Yf):Bool :=
 decide (Z.kind=.function)&&(Z.names.all (λy=>!(y.2==NameKind.cell))&&(Z.names.all (λy=>Z.names.lookup y.1==some y.2) &&
 (Z.names.all (λy=>!(y.2==NameKind.free)||(c.sc.lookup y.1==some .cell||c.sc.lookup y.1==some .free))&&(decide ((Vu c.N G).Nodup) &&
 c.N.zipIdx.all (λp=>!(al5 (ae4 c Z G) (al6 G p))||(al6 G p==p.1&&Z.names.lookup (al6 G p)==some .free))))))
noncomputable def bbp:Op2->Operator
 |.add=>.Add|.sub=>.Sub|.mul=>.Mult|.fdiv=>.FloorDiv|.mod=>.Mod|.pow=>.Pow
noncomputable def axo:Cp->Option CmpOp
 |.eq=>some .Eq|.ne=>some .NotEq|.lt=>some .Lt|.le=>some .LtE|.gt=>some .Gt|.ge=>some .GtE|.inn=>some .In|.Ux=>some .NotIn
noncomputable def a4t:Blt->Option Str
 |.len=>some "len"|.tuple=>some "tuple"|.list=>some "list"|.dict=>some "dict"|.max=>some "max"|.min=>some "min"
 |.all=>some "all"|_=>none
noncomputable def bmN:Bm->Option Str
 |.append=>some "append"|.extend=>some "extend"|.index=>some "index"|.get=>some "get"|.pop=>none
def a4u(T:Tab)(c:Ctx)(d:MW.D)(a:Expr):Bool :=
 match d with
 |.int i=>Cm (a4m a) (λk=>decide (k=.int i))||Cm (Kz a) λn=>Tp c n&&T.axi.contains (n,i)
 |.bl i=>Cm (a4m a) λk=>decide (k=.bool i)
 |_=>false
def tg1(c:Ctx)(Z i:Nat)(e:Expr):Bool:=Cm (Kz e) λn=>ajt c i n&&(a4j c n&&decide (Z<=i))
def al7(c:Ctx)(Z:Nat):List Nat->List Expr->Bool
 |[],[]=>true|i::is,e::ts=>tg1 c Z i e&&al7 c Z is ts|_,_=>false
def tgB(c:Ctx)(Z:Nat)(t:Tg)(e:Expr):Bool :=
 match t with
 |.name i=>tg1 c Z i e|.names is=>Cm (ae1 e) λG=>al7 c Z is G
def Ra(e:Expr):Bool:=(a4n e).isNone
noncomputable def fnB(l:List (Option (Str×Nat)))(f:Nat)(n:Str)(k:Nat):Bool:=decide (l[f]?=some (some (n,k)))
noncomputable def mtB(l:List (Str×Nat))(f:Nat)(n:Str)(k:Nat):Bool:=decide (l[f]?=some (n,k))
noncomputable def flB(l:Yf)(f:Nat)(n:Str):Bool:=decide (l[f]?=some n)
def ajy(c:Ctx)(k:Nat)(t:Tg)(g:Comprehension)(Z:Scope):Bool :=
 a4s c Z (Ez g.target)&&((k==(Ez g.target).length)&&(tgB (ae4 c Z (Ez g.target)) c.N.length t g.target&&(Hg g.iter&&decide (g.is_async=0))))
def aq3(o:BoolOp)(a:Expr)(x y:Expr->Bool):Bool :=
 Cm (az0 a) λq=>decide (q.1=o)&&(match q.2.1 with
  |l::r::rest=>(Ra l&&x l)&&(match rest with|[]=>Ra r&&y r|_::_=>y (.BoolOp o (r::rest) q.2.2))
  | _=>false)
def aq4(c:Ctx)(G:Str)(a:Expr)(f:Expr->Bool):Bool:=Cm (dCN a) λq=>match q.2 with
 |[l,t]=>Cm (Kz t) λZ=>(decide (q.1 = "isinstance")&&decide (Z=G))&&((Tp c q.1&&Tp c Z)&&(noStar l&&f l))
 |_=>false
def a4v(c:Ctx)(a:Expr)(f:Expr->Bool):Bool:=Cm (dCN a) λq=>match q.2 with
 |[l,t]=>Cm (ae1 t) λU=>match U with
  |[u,v]=>Cm (Kz u) λZ=>Cm (Kz v) λG=>(decide (q.1 = "isinstance")&&(decide (Z = "tuple")&&decide (G = "list")))&&((Tp c q.1&&(Tp c Z&&Tp c G))&&(noStar l&&f l))
  |_=>false
 |_=>false
def axp(h:aq4 c ty a f=true):∃l p p1 G,a=.Call (.Name "isinstance" p) [l,.Name ty p1] [] G/\Tp c "isinstance" = true/\Tp c ty=true/\noStar l=true/\f l=true:=by
 obtain⟨⟨n,ls⟩,U,h0⟩:=jt h;clear h;obtain⟨p,p',rfl⟩:=Hc U
 match ls,U,h0 with
 |[l,t],U,h =>
  replace h:=jt (f:=λZ=>(decide (n = "isinstance")&&decide (Z=ty))&&((Tp c n&&Tp c Z)&&(noStar l&&f l))) h;obtain⟨Z,R,h⟩:=h;obtain⟨G,rfl⟩:=Ey R;simp only[aq,dm] at h;obtain⟨⟨rfl,rfl⟩,⟨h3,h4⟩,h5,h6⟩:=h;exact⟨l,p,G,p',rfl,h3,h4,h5,h6⟩
 |[],_,h=>cases h|[_],_,h=>cases h|_::_::_::_,_,h=>cases h
def axq(h:a4v c a f=true):∃l p p1 p2 Z k p4,a=.Call (.Name "isinstance" p) [l,.Tuple [.Name "tuple" p1,.Name "list" p2] k Z] [] p4/\Tp c "isinstance" = true/\Tp c "tuple" = true/\Tp c "list" = true/\noStar l=true/\f l=true:=by
 obtain⟨⟨n,ls⟩,G,h0⟩:=jt h;clear h;obtain⟨p,p',rfl⟩:=Hc G
 match ls,G,h0 with
 |[l,t],G,h =>
  replace h:=jt (o:=ae1 t) h;obtain⟨tl,U,h⟩:=h;obtain⟨k,Z,rfl⟩:=Pr U
  match tl,U,h with
  |[u,v],U,h =>
   replace h:=jt (o:=Kz u) h;obtain⟨n1,h7,h⟩:=h;replace h:=jt (o:=Kz v) h;obtain⟨n2,h8,h⟩:=h;obtain⟨q1,rfl⟩:=Ey h7;obtain⟨q2,rfl⟩:=Ey h8;simp only[aq,dm] at h;obtain⟨⟨rfl,rfl,rfl⟩,⟨h3,h4,h9⟩,h5,R⟩:=h;exact⟨l,p,q1,q2,Z,k,p',rfl,h3,h4,h9,h5,R⟩
  |[],_,h=>cases h|[_],_,h=>cases h|_::_::_::_,_,h=>cases h
 |[],_,h=>cases h|[_],_,h=>cases h|_::_::_::_,_,h=>cases h
def aq5(c:Ctx)(Z G:Str)(a:Expr)(f:Expr->Bool):Bool:=Cm (dCN a) λq=>Cm (Q9 q.2) λr=>Cm (dCN r) λu=>Cm (Q9 u.2) λl=>((decide (q.1=Z)&&decide (u.1=G))&&(Tp c q.1&&Tp c u.1))&&(noStar l&&f l)
def aby(h:aq5 c ty G a f=true):∃l p p1 Z p3,a=.Call (.Name ty p) [.Call (.Name G p1) [l] [] Z] [] p3/\Tp c ty=true/\Tp c G=true/\noStar l=true/\f l=true:=by replace h:=jt h;obtain⟨⟨n,ls⟩,h1,h⟩:=h;obtain⟨p,p',rfl⟩:=Hc h1;replace h:=jt h;obtain⟨r,U,h⟩:=h;cases Bv U;replace h:=jt h;obtain⟨⟨m,ms⟩,h3,h⟩:=h;obtain⟨Z,q2,rfl⟩:=Hc h3;replace h:=jt h;obtain⟨l,h4,h⟩:=h;cases Bv h4;simp only[aq,dm] at h;obtain⟨⟨⟨rfl,rfl⟩,h5,R⟩,h7,h8⟩:=h;exact⟨l,p,Z,q2,p',rfl,h5,R,h7,h8⟩
mutual
def yu(T:Tab):Ex->Ctx->Expr->Bool
 |.var i,c,a=>Cm (Kz a) λn=>ajt c i n&&(al5 c n&&Xq n)
 |.tru _,_,_=>false|.cst d,c,a=>a4u T c d a|.bin op x y,c,a=>Cm (bbn a) λq=>decide (q.2.1=bbp op)&&(yu T x c q.1&&yu T y c q.2.2)
 |.neg x,c,a=>Cm (dUn a) λq=>decide (q.1=.USub)&&yu T x c q.2
 |.cmp op x y,c,a=>Cm (axk a) λq=>Cm (Q9 q.2.1) λo=>Cm (Q9 q.2.2) λr=>decide (axo op=some o)&&(Hg r&&(yu T x c q.1&&yu T y c r))
 |.chain o1 o2 x y z,c,a=>Cm (axk a) λq=>match q.2.1,q.2.2 with
  |[p1,p2],[r,s]=>(decide (axo o1=some p1)&&decide (axo o2=some p2))&&(Hg s&&(yu T x c q.1&&(yu T y c r&&yu T z c s)))|_,_=>false
 |.and x y,c,a=>aq3 .And a (yu T x c) (yu T y c)|.or x y,c,a=>aq3 .Or a (yu T x c) (yu T y c)|.not x,c,a=>Cm (dUn a) λq=>decide (q.1=.Not)&&(Ra q.2&&yu T x c q.2)
 |.ite t x y,c,a=>Cm (a4n a) λq=>Ra q.1&&(yu T t c q.1&&(yu T x c q.2.1&&yu T y c q.2.2))
 |.tup es,c,a=>Cm (ae1 a) λl=>decide (Ed.len es<=1000)&&J2 T es c l
 |.lst es,c,a=>Cm (a4o a) λl=>decide (Ed.len es<=1000)&&J2 T es c l
 |.Jl es,c,a=>Cm (a4o a) λl=>decide (Ed.len es<=1000)&&J2 T es c l
 |.akx,_,a=>Cm (a4p a) λq=>q.1.isEmpty&&q.2.isEmpty
 |.acr,_,a=>Cm (a4p a) λq=>q.1.isEmpty&&q.2.isEmpty
 |.ix x y,c,a=>Cm (aqy a) λq=>abl q.2&&(yu T x c q.1&&yu T y c q.2)
 |.cut x lo hi,c,a=>Cm (aqy a) λq=>Cm (dSl q.2) λs=>s.2.2.isNone&&(yu T x c q.1&&(a4w T lo c s.1&&a4w T hi c s.2.1))
 |.call f es,c,a=>Cm (dCN a) λq=>(fnB T.fns f q.1 (Ed.len es)&&(Tp c q.1&&!q.2.isEmpty))&&J2 T es c q.2
 |.make f es,c,a=>Cm (dCN a) λq=>(fnB T.cls f q.1 (Ed.len es)&&(Tp c q.1&&!q.2.isEmpty))&&J2 T es c q.2
 |.meth o m,c,a=>Cm (dCA a) λq=>((mtB T.mts m q.2.1 0&&Pb q.1)&&((q.2.2.1.endLine==q.2.2.2.2.line)&&q.2.2.2.1.isEmpty))&&yu T o c q.1
 |.fld o f,c,a=>Cm (aq0 a) λq=>(flB T.Q8 f q.2.1&&Pb q.1)&&yu T o c q.1
 |.blt .By (.cons x .nil),c,a=>aq5 c "sorted" "set" a (yu T x c)|.blt .isTuple (.cons x .nil),c,a=>aq4 c "tuple" a (yu T x c)|.blt .isList (.cons x .nil),c,a=>aq4 c "list" a (yu T x c)|.blt .isBool (.cons x .nil),c,a=>aq4 c "bool" a (yu T x c)|.blt .isSeq (.cons x .nil),c,a=>a4v c a (yu T x c)|.blt b es,c,a=>Cm (dCN a) λq=>(decide (a4t b=some q.1)&&(Tp c q.1&&!q.2.isEmpty))&&J2 T es c q.2
 |.bm .pop o .nil,c,a=>Cm (dCA a) λq=>((decide (q.2.1 = "pop")&&Pb q.1)&&((q.2.2.1.endLine==q.2.2.2.2.line)&&q.2.2.2.1.isEmpty))&&yu T o c q.1
 |.bm m o es,c,a=>Cm (dCA a) λq=>((decide (bmN m=some q.2.1)&&Pb q.1)&&(decide (q.2.2.2.1.length<29)&&((q.2.2.1.endLine==q.2.2.2.2.line)&&!q.2.2.2.1.isEmpty)))&&(yu T o c q.1&&J2 T es c q.2.2.2.1)
 |.comp v k t it e,c,a=>Cm (ae2 a) λq=>Cm (Q9 q.2.1) λg=>(ajy c k t g q.2.2&&g.ifs.isEmpty)&&(axr T it c g.target g.iter&&yu T e (ae4 c q.2.2 (Ez g.target)) q.1)
 |.Fq v k t it i e,c,a=>Cm (ae2 a) λq=>Cm (Q9 q.2.1) λg=>Cm (Q9 g.ifs) λd=>(ajy c k t g q.2.2&&Ra d)&&(axr T it c g.target g.iter&&(yu T i (ae4 c q.2.2 (Ez g.target)) d&&yu T e (ae4 c q.2.2 (Ez g.target)) q.1))
 |.Wm x y,c,a=>Cm (axk a) λq=>Cm (Q9 q.2.1) λo=>Cm (Q9 q.2.2) λr=>Cm (dCN q.1) λu=>Cm (dCN r) λv=>Cm (Q9 u.2) λl=>Cm (Q9 v.2) λm =>
  ((decide (o=.NotEq)&&decide (u.1 = "set"))&&(decide (v.1 = "set")&&Tp c u.1))&&((noStar l&&noStar m)&&(yu T x c l&&yu T y c m))
 |.acs x,c,a=>aq5 c "tuple" "range" a (yu T x c)|.Wn x,c,a=>aq5 c "list" "range" a (yu T x c)
def J2(T:Tab):Ed->Ctx->List Expr->Bool
 |.nil,_,a=>a.isEmpty|.cons e es,c,a=>match a with|l::ls=>noStar l&&(yu T e c l&&J2 T es c ls)|_=>false
def a4w(T:Tab):OEx->Ctx->Option Expr->Bool
 |.none,_,a=>a.isNone|.some e,c,a=>Cm a (yu T e c)
def axr(T:Tab):Pz->Ctx->Expr->Expr->Bool
 |.val e,c,_,a=>yu T e c a|.Qc e,c,_,a=>Cm (dCN a) λq=>Cm (Q9 q.2) λl=>(decide (q.1 = "range")&&Tp c q.1)&&(noStar l&&yu T e c l)
 |.enm e,c,tg,a=>Cm (dCN a) λq=>Cm (Q9 q.2) λl=>((ae1 tg).isSome&&(decide (q.1 = "enumerate")&&Tp c q.1))&&(noStar l&&yu T e c l)
 |.zip es,c,tg,a=>Cm (dCN a) λq=>((ae1 tg).isSome&&(decide (q.1 = "zip")&&(Tp c q.1&&!q.2.isEmpty)))&&(decide (Ed.len es=2)&&J2 T es c q.2)
end
def Qm(h:Fi T nm W k c X)(G:Scope):(relabel G X.env).names=axn c G.names:=by
 unfold relabel axn;refine jc λy _=>?_
 obtain⟨n,Z⟩:=y;show(if(Z==NameKind.free&&X.env.scope.kind==.function&&X.env.kindOf n==some .cell)=true then _ else _)=_;have e:(Z==NameKind.free&&X.env.scope.kind==.function&&X.env.kindOf n==some .cell)=(Z==NameKind.free&&c.sc.lookup n==some .cell):=by unfold Env.kindOf;rw[h.kd,h.sc];simp
 rw[e]
def a4x(h:Fi T nm W k c X)(hb:a4s c sc G=true):Hi X (Vu c.N G) sc/\∀C fp s H,Fi T nm W k (ae4 c sc G) (Mx X (Vu c.N G) sc C fp s H):=by
 simp only[a4s,aq,dm,jd] at hb;obtain⟨h1,h2,h3,h4,h5,h6⟩:=hb;have uniq:∀x kd,(x,kd)∈sc.names->sc.names.lookup x=some kd:=λx kd m=>by have:=h3 (x,kd) m;simpa using this
 refine⟨⟨h1,λy m=>by have:=h2 y m;simpa using this,λy m e=>by rw[uniq y.1 y.2 m,e],λy m e=>?_,uniq,?_,λi x R Z hv=>?_⟩,λC fp s H=>⟨rfl,h5,Qm h sc,h1,h.calm,h.room,(λz=>by cases z),h.tab⟩⟩
 .have:=h4 y m
  rw[e] at this;unfold Env.kindOf;rw[h.sc];simpa using this
 .rw[h.N];simp[Vu]
 .rw[h.N] at R
  have hl:i<(c.N.zipIdx.map (al6 G)).length:=by simpa using R
  unfold Vu at Z;rw[dz hl,ie,yp] at Z;obtain⟨n,U⟩:∃n,c.N[i]?=some n:=⟨c.N[i],by simp[R]⟩;rw[U] at Z;have Z:al6 G (n,i)=x:=by simpa using Z
  have m:(n,i)∈c.N.zipIdx:=by rw[wy];exact⟨i,by rw[yp,U];simp⟩
  have q:=h6 (n,i) m;rw[Z] at q;have v:al5 (ae4 c sc G) x=true:=by unfold Vis at hv;rw[Qm h] at hv;unfold al5;show(match(axn c sc.names).lookup x with|some .local=>true|some .cell=>true|some .free=>true|_=>false)=true;rcases hv with e|e|e<;>rw[e]
  rw[v] at q;simp only[qx,Bool.false_or,aq] at q;rw[h.N,U];have e1:x=n:=eq_of_beq q.1;exact⟨by rw[e1],by have:=q.2;simpa using this⟩
def bbq(h:o=bbp op):Dy X (binaryOp o) (rOp nm X.K (MW.Hk op)):=by
 subst h;cases op with
 |add=>exact baa|sub=>exact a96|mul=>exact a99|fdiv=>exact a3l|mod=>exact a97|pow=>exact a98
def aq6(Z:Aj 8 X.A)(h:axo op=some o):Dy X (compareOp o) (Yg nm X.K op):=by
 have G:Aj 6 X.A:=Z.mono (by decide);cases op with
 |eq=>cases h;exact bg5 G|ne=>cases h;exact bg6 G|lt=>cases h;exact bgu|le=>cases h;exact bgv|gt=>cases h;exact bgw|ge=>cases h;exact bgx|inn=>cases h;exact bg7 Z|Ux=>cases h;exact awo Z
def ahi(h:Fi T nm W k c X)(U:tg1 c lo i e=true):∃n p,e=.Name n p/\X.N[i]?=some n/\L2.Loc X.env.scope n/\(X.fn n=true\/X.env.scope.names.lookup n=some .local)/\lo<=i:=by obtain⟨n,G,Z⟩:=jt U;obtain⟨p,rfl⟩:=Ey G;simp only[aq,dm] at Z;obtain⟨R,l2⟩:=a4l h Z.2.1;exact⟨n,p,rfl,slot_of h Z.1,R,l2,Z.2.2⟩
theorem aq7{T:Tab}{nm:Nm}{W:Hh}{k:Nat}{c:Ctx}{X:Cx}(h:Fi T nm W k c X){G:Nat}:∀{is:Y3}{Z:Ya},al7 c G is Z=true->Lq X Z is/\∀i∈is,G<=i
 |[],[],_=>⟨.nil,by simp⟩|[],_::_,e=>by cases e|_::_,[],e=>by cases e
 |i::is,a::Z,e=>by
  unfold al7 at e;rw[aq] at e;obtain⟨n,p,rfl,e1,e2,R,U⟩:=ahi h e.1;obtain⟨g1,g2⟩:=aq7 h e.2;refine⟨.cons e1 e2 R g1,λj hj=>?_⟩;rcases cj.mp hj with z|z
  .rw[z];exact U
  .exact g2 j z
def ajz(h:Fi T nm W k c X)(Z:tgB c lo t e=true):PG X e (tGt nm X.K t)/\∀i∈Ca t,lo<=i:=by
 have G:X.N.Nodup:=by rw[h.N];exact h.nd
 cases t with
 |name i =>
  obtain⟨n,p,rfl,e1,e2,R,e4⟩:=ahi h Z;exact⟨a3p G e1 e2 R,λi hi=>by rw[kj.mp hi];exact e4⟩
 |names is =>
  obtain⟨ts,h1,U⟩:=jt Z;obtain⟨k0,p,rfl⟩:=Pr h1;obtain⟨g1,g2⟩:=aq7 h U;exact⟨awj h.calm G g1,g2⟩
structure Got(nm:Nm)(W:Hh)(X:Cx)(a:Expr)(e:Ex):Prop where
 v:PE X a (tE nm W X.K e)
 q:Ra a=true->PT X a (tQ nm W X.K e)
 w:∀op ls p,a=.BoolOp op ls p->PW X a (tQ nm W X.K e)
noncomputable def bbr:Expr->Bool
 |.BoolOp ..=>false|.UnaryOp .Not _ _=>false|.IfExp ..=>false|.Compare ..=>false|_=>true
set_option tactic.hygienic true in
def xr(h:PE X a (tE nm W X.K e))(Y:bbr a=true):Got nm W X a e:=by
 refine⟨h,λJ=>bac h λZ=>?_,λG U p z=>by subst z;cases Y⟩;cases a<;>first|rfl|(cases Y)|skip
 rename_i G x p;cases G<;>first|rfl|cases Y
def a4y(h:Fi T nm W k c X)(Z:a4u T c d a=true):PE X a (tE nm W X.K (.cst d))/\bbr a=true:=by
 cases d with
 |int i =>
  simp only[a4u,Bool.or_eq_true] at Z;rcases Z with Z|Z
  .obtain⟨k,U,G⟩:=jt Z
   obtain⟨j,p,rfl⟩:=aju U;rw[qd G];exact⟨a94,rfl⟩
  .obtain⟨n,U,G⟩:=jt Z
   obtain⟨p,rfl⟩:=Ey U;rw[aq] at G;obtain⟨g1,g2⟩:=Ew h G.1;obtain⟨t,R⟩:=h.tab.cs _ _ (List.contains_iff_mem.mp G.2);exact⟨a3k g1 R (ue g2).1,rfl⟩
 |bl i =>
  obtain⟨k,U,G⟩:=jt Z;obtain⟨j,p,rfl⟩:=aju U;rw[qd G];exact⟨bgs,rfl⟩
 |_=>cases Z
section
variable{T:Tab}{nm:Nm}{W:Hh}{k:Nat}
def Fi.r8(h:Fi T nm W k c X):Aj 8 X.A:=h.room.mono (by lia)
theorem Fi.mg(h:Fi T nm W k c X)(m:n∈Pa):X.mg n=none:=h.tab.bt n m
theorem Vk{c:Ctx}{G:Nat}:∀{is:Y3}{U:Ya},al7 c G is U=true->∀i∈is,G<=i
 |[],_,_=>by simp|_::_,[],e=>by cases e
 |i::is,a::U,e=>by
  unfold al7 at e;rw[aq] at e;intro j R;rcases cj.mp R with z|z
  .obtain⟨n,h1,Z⟩:=jt e.1
   simp only[aq,dm] at Z;rw[z];exact Z.2.2
  .exact Vk e.2 j z
def ahj(h:tgB c lo t e=true):∀i∈Ca t,lo<=i:=by
 cases t with
 |name j =>
  obtain⟨n,U,Z⟩:=jt h;simp only[aq,dm] at Z;intro i G;rw[kj.mp G];exact Z.2.2
 |names is =>
  obtain⟨R,U,Z⟩:=jt h;exact Vk Z
def aq8:(Vu N Z).length-N.length=Z.length:=by simp[Vu]
def Sx(G:Fi T nm W k c X)(h:ajy c j t g sc=true) :
 Hg g.iter=true/\g.is_async=0/\Hi X (Vu c.N (Ez g.target)) sc/\(∀C Z s H,Fi T nm W k (ae4 c sc (Ez g.target)) (Mx X (Vu c.N (Ez g.target)) sc C Z s H)) /\
 (∀C Z s H,PG (Mx X (Vu c.N (Ez g.target)) sc C Z s H) g.target (tGt nm X.K t))/\(Vu c.N (Ez g.target)).length-X.N.length=j/\∀i∈Ca t,X.N.length<=i:=by
 simp only[ajy,aq,dm] at h;obtain⟨h2,h3,U,h5,h6⟩:=h;obtain⟨B,R⟩:=a4x G h2;exact⟨h5,h6,B,R,λC Z s H=>(ajz (R C Z s H) U).1,by rw[G.N,aq8];exact(eq_of_beq h3).symm,λi hi=>by rw[G.N];exact ahj U i hi⟩
def aj0(h:aq3 o a x y=true):(∃l r p,a=.BoolOp o [l,r] p/\Ra l=true/\x l=true/\Ra r=true/\y r=true) \/
 ∃l r s Z p,a=.BoolOp o (l::r::s::Z) p/\Ra l=true/\x l=true/\y (.BoolOp o (r::s::Z) p)=true:=by
 obtain⟨⟨o',U,p⟩,h1,G⟩:=jt h;cases aq2 h1;rw[aq] at G;obtain⟨R,G⟩:=G;cases qd R;cases U with
 |nil=>cases G
 |cons l U=>cases U with
  |nil=>cases G
  |cons r Z =>
   cases Z with
   |nil =>
    have G:((Ra l&&x l)&&(Ra r&&y r))=true:=G;simp only[aq] at G;exact .inl ⟨l,r,p,rfl,G.1.1,G.1.2,G.2.1,G.2.2⟩
   |cons s Z =>
    have G:((Ra l&&x l)&&y (.BoolOp o' (r::s::Z) p))=true:=G;simp only[aq] at G;exact .inr ⟨l,r,s,Z,p,rfl,G.1.1,G.1.2,G.2⟩
def a4z(hc:Fi T nm W k c X)(Z:a4t b=some n)(hg:Tp c n=true)(e1:PA X (l::ls) (Yd nm W X.K es))(e2:Bk (l::ls)=true):PE X (.Call (.Name n p) (l::ls) [] p') (tE nm W X.K (.blt b es)):=by
 obtain⟨g1,g2⟩:=Ew hc hg;obtain⟨R,d2,G⟩:=ue g2;simp only[Bk,aq] at e2;have st:=my e2.1 ls X.env;have U:=xg (env:=X.env) (pos:=p') e2.2;have mg:n∈Pa->X.mg n=none:=hc.mg;cases b with
 |len=>cases Z;exact ajf (id := "len") baz g1 (mg (by decide+kernel)) (by decide+kernel) e1 G R st U|max=>cases Z;exact ajf (id := "max") (ba9 hc.calm) g1 (mg (by decide+kernel)) (by decide+kernel) e1 G R st U|all=>cases Z;exact ajf (id := "all") (bbj hc.calm) g1 (mg (by decide+kernel)) (by decide+kernel) e1 G R st U|min=>cases Z;exact ajf (id := "min") (bbc hc.calm) g1 (mg (by decide+kernel)) (by decide+kernel) e1 G R st U|tuple=>cases Z;exact aha (T := "tuple") awm g1 (mg (by decide+kernel)) (by decide+kernel) e1 G R st U|list=>cases Z;exact aha (T := "list") a4a g1 (mg (by decide+kernel)) (by decide+kernel) e1 G R st U|dict=>cases Z;exact aha (T := "dict") a4d g1 (mg (by decide+kernel)) (by decide+kernel) e1 G R st U|_=>cases Z
def Xv{Z:Type}{l:List Z}(h:(!l.isEmpty)=true):∃x r,l=x::r:=by
 cases l with
 |nil=>cases h|cons x r=>exact⟨x,r,rfl⟩
set_option maxHeartbeats 2000000 in
def axs(G:¬(m=.pop/\Z=.nil))(h:yu T (.bm m o Z) c a=true):Cm (dCA a) (λq=>((decide (bmN m=some q.2.1)&&Pb q.1)&&(decide (q.2.2.2.1.length<29)&&((q.2.2.1.endLine==q.2.2.2.2.line)&&!q.2.2.2.1.isEmpty)))&&(yu T o c q.1&&J2 T Z c q.2.2.2.1))=true:=by cases m<;>cases Z<;>first|exact h|exact absurd ⟨rfl,rfl⟩ G
set_option tactic.hygienic true in
mutual
theorem jm:∀(e:Ex){c:Ctx}{X:Cx}{a:Expr},Fi T nm W k c X->yu T e c a=true->Got nm W X a e
 |.var i,c,X,a,hc,h=>by
  replace h:=jt h;obtain⟨n,G,h⟩:=h;obtain⟨p,rfl⟩:=Ey G;simp only[aq] at h;exact xr (a93 (slot_of hc h.1) (a4k hc h.2.1) (ue h.2.2).1 (ue h.2.2).2.1) rfl
 |.tru e,c,X,a,hc,h=>by cases h
 |.cst d,c,X,a,hc,h=>by
  obtain⟨G,R⟩:=a4y hc h;exact xr G R
 |.bin op x y,c,X,a,hc,h=>by
  replace h:=jt h;obtain⟨⟨l,o,r⟩,G,h⟩:=h;obtain⟨p,rfl⟩:=axl G;simp only[aq,dm] at h;exact xr (a95 (bbq h.1) (jm x hc h.2.1).v (jm y hc h.2.2).v) rfl
 |.neg x,c,X,a,hc,h=>by
  replace h:=jt h;obtain⟨⟨o,l⟩,G,h⟩:=h;obtain⟨p,rfl⟩:=aq1 G;simp only[aq,dm] at h;obtain⟨rfl,h⟩:=h;exact xr (ban (jm x hc h).v) rfl
 |.cmp op x y,c,X,a,hc,h=>by
  replace h:=jt h;obtain⟨⟨l,o,r⟩,G,h⟩:=h;obtain⟨p,rfl⟩:=abv G;replace h:=jt h;obtain⟨o1,R,h⟩:=h;replace h:=jt h;obtain⟨r1,h3,h⟩:=h;cases Bv R;cases Bv h3;simp only[aq,dm] at h;have g:=aq6 (nm:=nm) hc.r8 h.1;have m:=Vh h.2.1 o1;exact⟨bae g (jm x hc h.2.2.1).v (jm y hc h.2.2.2).v m,λ_=>baf g (jm x hc h.2.2.1).v (jm y hc h.2.2.2).v m,λ_ _ _ z=>by cases z⟩
 |.chain o1 o2 x y z,c,X,a,hc,h=>by
  replace h:=jt h;obtain⟨⟨l,o,r⟩,G,h⟩:=h;obtain⟨p,rfl⟩:=abv G;dsimp only at h;split at h
  .rename_i p1 p2 r s
   simp only[aq,dm] at h;have g1:=aq6 (nm:=nm) hc.r8 h.1.1;have U:=aq6 (nm:=nm) hc.r8 h.1.2;have m:lastMarks [p1,p2] [r,s]=false:=Vh h.2.1 p2;exact⟨awh g1 U (jm x hc h.2.2.1).v (jm y hc h.2.2.2.1).v (jm z hc h.2.2.2.2).v m,λ_=>awi g1 U (jm x hc h.2.2.1).v (jm y hc h.2.2.2.1).v (jm z hc h.2.2.2.2).v m,λ_ _ _ z=>by cases z⟩
  .cases h
 |.and x y,c,X,a,hc,h=>by
  rcases aj0 h with⟨l,r,p,rfl,G,R,h3,h4⟩|⟨l,r,s,qq,p,rfl,G,R,h3⟩
  .have g1:=jm x hc R
   have U:=jm y hc h4;have w:=azr (pos:=p) (rest:=[]) (g1.q G) (avn (U.q h3));exact⟨azq g1.v (azz U.v),λ_=>w.pt,λ_ _ _ _=>w⟩
  .have g1:=jm x hc R
   have U:=jm y hc h3;have w:=azr (g1.q G) (U.w _ _ _ rfl);exact⟨azq g1.v U.v,λ_=>w.pt,λ_ _ _ _=>w⟩
 |.or x y,c,X,a,hc,h=>by
  rcases aj0 h with⟨l,r,p,rfl,G,R,h3,h4⟩|⟨l,r,s,qq,p,rfl,G,R,h3⟩
  .have g1:=jm x hc R
   have U:=jm y hc h4;have w:=bai (pos:=p) (rest:=[]) (g1.q G) (a1u (U.q h3));exact⟨bag g1.v (azz U.v),λ_=>w.pt,λ_ _ _ _=>w⟩
  .have g1:=jm x hc R
   have U:=jm y hc h3;have w:=bai (g1.q G) (U.w _ _ _ rfl);exact⟨bag g1.v U.v,λ_=>w.pt,λ_ _ _ _=>w⟩
 |.not x,c,X,a,hc,h=>by
  replace h:=jt h;obtain⟨⟨o,l⟩,G,h⟩:=h;obtain⟨p,rfl⟩:=aq1 G;simp only[aq,dm] at h;obtain⟨rfl,h⟩:=h;have g:=jm x hc h.2;exact⟨bah g.v,λ_=>baj (g.q h.1),λ_ _ _ z=>by cases z⟩
 |.ite t x y,c,X,a,hc,h=>by
  replace h:=jt h;obtain⟨⟨t',l,r⟩,G,h⟩:=h;obtain⟨p,rfl⟩:=axm G;simp only[aq] at h;exact⟨bak ((jm t hc h.2.1).q h.1) (jm x hc h.2.2.1).v (jm y hc h.2.2.2).v,(λz=>by cases z),λ_ _ _ z=>by cases z⟩
 |.tup es,c,X,a,hc,h=>by
  replace h:=jt h;obtain⟨l,G,h⟩:=h;obtain⟨k0,p,rfl⟩:=Pr G;simp only[aq,dm] at h;exact xr (bal (Fb es hc h.2).1 h.1) rfl
 |.lst es,c,X,a,hc,h=>by
  replace h:=jt h;obtain⟨l,G,h⟩:=h;obtain⟨p,rfl⟩:=ajv G;simp only[aq,dm] at h;exact xr (bam (Fb es hc h.2).1 h.1) rfl
 |.Jl es,c,X,a,hc,h=>by
  replace h:=jt h;obtain⟨l,G,h⟩:=h;obtain⟨p,rfl⟩:=ajv G;simp only[aq,dm] at h;exact xr (a3n (Fb es hc h.2).1 h.1) rfl
 |.akx,c,X,a,hc,h=>by
  replace h:=jt h;obtain⟨⟨q,l⟩,G,h⟩:=h;obtain⟨p,rfl⟩:=ajw G;simp only[aq,ou] at h;obtain⟨rfl,rfl⟩:=h;exact xr a3y rfl
 |.acr,c,X,a,hc,h=>by
  replace h:=jt h;obtain⟨⟨q,l⟩,G,h⟩:=h;obtain⟨p,rfl⟩:=ajw G;simp only[aq,ou] at h;obtain⟨rfl,rfl⟩:=h;exact xr a3z rfl
 |.ix x y,c,X,a,hc,h=>by
  replace h:=jt h;obtain⟨⟨l,r⟩,G,h⟩:=h;obtain⟨p,rfl⟩:=abw G;simp only[aq] at h;exact xr (bgz (ad0 hc.room) (jm x hc h.2.1).v (jm y hc h.2.2).v (aqb h.1)) rfl
 |.cut x lo hi,c,X,a,hc,h=>by
  replace h:=jt h;obtain⟨⟨l,r⟩,G,h⟩:=h;obtain⟨p,rfl⟩:=abw G;replace h:=jt h;obtain⟨⟨u,v,st⟩,R,h⟩:=h;obtain⟨p2,e⟩:=a4q R;have e:r=_:=e;subst e;simp only[aq,Option.isNone_iff_eq_none] at h;obtain⟨rfl,h⟩:=h;exact xr (bba (jm x hc h.1).v (aj1 lo hc h.2.1) (aj1 hi hc h.2.2)) rfl
 |.call f es,c,X,a,hc,h=>by
  replace h:=jt h;obtain⟨⟨n,ls⟩,G,h⟩:=h;obtain⟨p,p',rfl⟩:=Hc G;simp only[aq] at h;obtain⟨⟨R,h3,h4⟩,h5⟩:=h;obtain⟨l,ls,rfl⟩:=Xv h4;obtain⟨fa,fd,ps,F,m,kp,b⟩:=hc.tab.fn _ _ _ (qd R);obtain⟨g1,U⟩:=Ew hc h3;obtain⟨e1,e2⟩:=Fb es hc h5;simp only[Bk,aq] at e2;exact xr (s_call F (hc.room.mono x_) g1 m kp b rfl e1 (ue U).1 (my e2.1 _ _) (xg e2.2)) rfl
 |.make f es,c,X,a,hc,h=>by
  replace h:=jt h;obtain⟨⟨n,ls⟩,G,h⟩:=h;obtain⟨p,p',rfl⟩:=Hc G;simp only[aq] at h;obtain⟨⟨R,h3,h4⟩,h5⟩:=h;obtain⟨l,ls,rfl⟩:=Xv h4;obtain⟨C,fa,fd,ps,cl,M0,F,m,b,d1,d2⟩:=hc.tab.cl _ _ _ (qd R);obtain⟨g1,U⟩:=Ew hc h3;obtain⟨e1,e2⟩:=Fb es hc h5;simp only[Bk,aq] at e2;exact xr (a3x M0 F (hc.room.mono (w_ (by decide))) g1 m b d1 rfl d2 rfl e1 (ue U).1 (my e2.1 _ _) (xg e2.2)) rfl
 |.meth o m,c,X,a,hc,h=>by
  replace h:=jt h;obtain⟨⟨lo,n,ap,ls,p⟩,h0,h⟩:=h;cases ahh h0;simp only[aq,ou] at h;obtain⟨⟨⟨G,R⟩,h4,rfl⟩,h5⟩:=h;obtain⟨C,fa,fd,ps,f,C0,Me,F,b,u,nf⟩:=hc.tab.mt _ _ _ (qd G);exact xr (axc (ci:=0) (cl:=⟨0,[]⟩) (jm o hc h5).v C0 Me F (hc.room.mono x_) b u nf (axj R h4)) rfl
 |.fld o f,c,X,a,hc,h=>by
  replace h:=jt h;obtain⟨⟨l,n,p⟩,G,h⟩:=h;cases abx G;simp only[aq] at h;obtain⟨t1,t2⟩:=hc.tab.fl _ _ (qd h.1.1);exact xr (bao t1 t2 (jm o hc h.2).v (Gp h.1.2)) rfl
 |.blt b es,c,X,a,hc,h=>by
  have Z:(Cm (dCN a) λq=>(decide (a4t b=some q.1)&&(Tp c q.1&&!q.2.isEmpty))&&J2 T es c q.2)=true->Got nm W X a (.blt b es):=λhh=>by clear h;replace hh:=jt hh;obtain⟨⟨n,ls⟩,G,h⟩:=hh;obtain⟨p,p',rfl⟩:=Hc G;simp only[aq] at h;obtain⟨⟨R,h3,h4⟩,h5⟩:=h;obtain⟨l,ls,rfl⟩:=Xv h4;obtain⟨e1,e2⟩:=Fb es hc h5;exact xr (a4z hc (qd R) h3 e1 e2) rfl
  have qv:∀{bb:Blt}{ty:Str}{T0:String}{x:Ex}{bt bi:Option Bool},(∀b,bt=some b->PySem.W.kitOne X.K (.type "tuple") (.type T0)=some b)->(∀b,bi=some b->PySem.W.kitOne X.K (.type "int") (.type T0)=some b)->(∀d M,MW.o8 bb [d] M=MW.isR bt bi M d)->X.mg ty=none->bootBuiltins ty=some (.type T0)->(∀l,yu T x c l=true->PE X l (tE nm W X.K x))->aq4 c ty a (yu T x c)=true->Got nm W X a (.blt bb (.cons x .nil)):=λk1 k2 k3 hm hv q7 hi=>by obtain⟨l,p,p1,p2,rfl,h3,h4,h5,h6⟩:=axp hi;obtain⟨g1,U⟩:=Ew hc h3;obtain⟨g3,g4⟩:=Ew hc h4;exact xr (bbb k1 k2 k3 g1 (hc.mg (by decide+kernel)) (by decide+kernel) (ue U).2.2 (ue U).1 g3 hm hv (ue g4).2.2 (ue g4).1 (q7 l h6) (my h5 _ _) (my rfl _ _) (xg rfl)) rfl
  match b,es,h,Z with
  |.isList,.cons x .nil,h,_=>exact qv (T0 := "list") (bt:=some false) (bi:=none) (λ_ z=>by cases z;exact Uo _ (by decide+kernel)) (λ_ z=>by cases z) (λ_ _=>rfl) (hc.mg (by decide+kernel)) (by decide+kernel) (λl q=>(jm x hc q).v) h
  |.isTuple,.cons x .nil,h,_=>exact qv (T0 := "tuple") (bt:=some true) (bi:=some false) (λ_ z=>by cases z;exact aep _ _) (λ_ z=>by cases z;exact Uo _ (by decide+kernel)) (λ_ _=>rfl) (hc.mg (by decide+kernel)) (by decide+kernel) (λl q=>(jm x hc q).v) h
  |.isBool,.cons x .nil,h,_=>exact qv (T0 := "bool") (bt:=none) (bi:=some false) (λ_ z=>by cases z) (λ_ z=>by cases z;exact Uo _ (by decide+kernel)) (λ_ _=>rfl) (hc.mg (by decide+kernel)) (by decide+kernel) (λl q=>(jm x hc q).v) h
  |.isSeq,.cons x .nil,h,_ =>
   obtain⟨l,p,p1,p2,p3,k0,p4,rfl,h3,h4,h5,h6,h7⟩:=axq (show a4v c a (yu T x c)=true from h);obtain⟨g1,U⟩:=Ew hc h3;exact xr (axf (ae0 (aep _ _) (b:=false) (Uo _ (by decide+kernel))) (ae0 (a:=false) (b:=false) (Uo _ (by decide+kernel)) (Uo _ (by decide+kernel))) g1 (hc.mg (by decide+kernel)) (by decide+kernel) (ue U).2.2 (ue U).1 (Ew hc h4).1 (hc.mg (by decide+kernel)) (Ew hc h5).1 (hc.mg (by decide+kernel)) (jm x hc h7).v (my h6 _ _) (xg rfl)) rfl
  |.isList,.nil,h,Z=>exact Z h|.isTuple,.nil,h,Z=>exact Z h|.isBool,.nil,h,Z=>exact Z h|.isSeq,.nil,h,Z=>exact Z h|.isList,.cons _ (.cons _ _),h,Z=>exact Z h|.isTuple,.cons _ (.cons _ _),h,Z=>exact Z h|.isBool,.cons _ (.cons _ _),h,Z=>exact Z h|.isSeq,.cons _ (.cons _ _),h,Z=>exact Z h|.len,_,h,Z=>exact Z h|.tuple,_,h,Z=>exact Z h|.list,_,h,Z=>exact Z h|.max,_,h,Z=>exact Z h|.min,_,h,Z=>exact Z h|.dict,_,h,Z=>exact Z h|.all,_,h,Z=>exact Z h|.By,.nil,h,Z=>exact Z h|.By,.cons _ (.cons _ _),h,Z=>exact Z h
  |.By,.cons x .nil,h,_ =>
   obtain⟨l,p,p1,p2,p3,rfl,h5,h6,h7,h8⟩:=aby (show aq5 c "sorted" "set" a (yu T x c)=true from h);obtain⟨g1,U⟩:=Ew hc h5;obtain⟨g3,g4⟩:=Ew hc h6;exact xr (al4 hc.r8 g1 (hc.mg (by decide+kernel)) (by decide+kernel) (ue U).2.2 (ue U).1 g3 (hc.mg (by decide+kernel)) (by decide+kernel) (ue g4).2.2 (ue g4).1
    (O7 (jm x hc h8).v Vg (my h7 _ _)) (my rfl _ _) (xg rfl) (my h7 _ _) (xg rfl)) rfl
 |.bm m o es,c,X,a,hc,h=>by
  by_cases hp:m=.pop/\es=.nil
  .obtain⟨rfl,rfl⟩:=hp
   replace h:=jt (show Cm (dCA a) _=true from h);obtain⟨⟨lo,n,ap,ls,p⟩,h0,h⟩:=h;cases ahh h0;simp only[aq,dm,ou] at h;obtain⟨⟨⟨rfl,R⟩,h3,rfl⟩,h5⟩:=h;exact xr (s_pop (jm o hc h5).v (Gp R) h3) rfl
  replace h:Cm (dCA a) (λq=>((decide (bmN m=some q.2.1)&&Pb q.1)&&(decide (q.2.2.2.1.length<29)&&((q.2.2.1.endLine==q.2.2.2.2.line)&&!q.2.2.2.1.isEmpty)))&&(yu T o c q.1&&J2 T es c q.2.2.2.1))=true:=axs hp h;replace h:=jt h;obtain⟨⟨lo,n,ap,ls,p⟩,h0,h⟩:=h;cases ahh h0;simp only[aq,dm] at h;obtain⟨⟨⟨G,R⟩,h3,h4,q6⟩,h5,h6⟩:=h;obtain⟨l,ls,rfl⟩:=Xv q6;obtain⟨e1,e2⟩:=Fb es hc h6;have e3:=e2;simp only[Bk,aq] at e3;have qk:((backTo p (starEach (l::ls) X.env)).all (λx=>!x.1)&&(backToKw p (keywordEach [] X.env)).all (λx=>x.1.isSome)&&decide ((l::ls).length+([]:List Keyword).length+(if([]:List Keyword).isEmpty then 0 else 1)<30))=true:=by rw[ahg e2];simp[keywordEach,backToKw];simp at h3;exact b_ h3 (by decide)
  have g:=jm o hc h5;cases m with
  |append=>cases G;exact xr (awr (T := "list") (id := "list.append") (fun ι H M x v S r t=>ty_list S r t) zc PySem.F.slot_list_append PySem.F.type_list_append aqn g.v e1 (Gp R) qk h4 (my e3.1 _ _) (xg e3.2)) rfl
  |extend=>cases G;exact xr (awr (T := "list") (id := "list.extend") (fun ι H M x v S r t=>ty_list S r t) zc PySem.F.slot_list_extend PySem.F.type_list_extend aqo g.v e1 (Gp R) qk h4 (my e3.1 _ _) (xg e3.2)) rfl
  |index=>cases G;exact xr (awr (T := "list") (id := "list.index") (fun ι H M x v S r t=>ty_list S r t) zc PySem.F.slot_list_index PySem.F.type_list_index (awu hc.r8) g.v e1 (Gp R) qk h4 (my e3.1 _ _) (xg e3.2)) rfl
  |pop=>cases G|get=>cases G;exact xr (awr (T := "dict") (id := "dict.get") (fun ι H M x v S r t=>ty_dict S r t) PySem.F.plainAttrs_dict PySem.F.slot_dict_get PySem.F.type_dict_get (bbk (ad0 hc.room)) g.v e1 (Gp R) qk h4 (my e3.1 _ _) (xg e3.2)) rfl
 |.comp v j t it e,c,X,a,hc,h=>by
  replace h:=jt h;obtain⟨⟨q8,gs,sc⟩,G,h⟩:=h;obtain⟨p,rfl⟩:=Xu G;replace h:=jt h;obtain⟨⟨tg,q0,zq,as⟩,R,h⟩:=h;cases Bv R;simp only[aq,ou] at h;obtain⟨⟨h3,rfl⟩,h4,h5⟩:=h;obtain⟨q1,q2,B,hB,hg,q3,q4⟩:=Sx hc h3;cases q2;exact xr (a3w B hc.calm (Sy it hc h4) hg (λC fp s H=>(jm e (hB C fp s H) h5).v) q1 q3 q4) rfl
 |.Fq v j t it i e,c,X,a,hc,h=>by
  replace h:=jt h;obtain⟨⟨q8,gs,sc⟩,G,h⟩:=h;obtain⟨p,rfl⟩:=Xu G;replace h:=jt h;obtain⟨⟨tg,q0,zq,as⟩,R,h⟩:=h;cases Bv R;replace h:=jt h;obtain⟨d,h6,h⟩:=h;cases Bv h6;simp only[aq] at h;obtain⟨⟨h3,h7⟩,h4,h8,h5⟩:=h;obtain⟨q1,q2,B,hB,hg,q3,q4⟩:=Sx hc h3;cases q2;exact xr (aqg B hc.calm (Sy it hc h4) hg (λC fp s H=>(jm i (hB C fp s H) h8).q h7) (λC fp s H=>(jm e (hB C fp s H) h5).v) q1 q3 q4) rfl
 |.Wm x y,c,X,a,hc,h=>by
  replace h:=jt h;obtain⟨⟨l0,o,r0⟩,G,h⟩:=h;obtain⟨p,rfl⟩:=abv G;replace h:=jt h;obtain⟨o1,R,h⟩:=h;replace h:=jt h;obtain⟨r1,h3,h⟩:=h;cases Bv R;cases Bv h3;replace h:=jt h;obtain⟨⟨n,ls⟩,h4,h⟩:=h;replace h:=jt h;obtain⟨⟨m,ms⟩,h5,h⟩:=h;replace h:=jt h;obtain⟨l,h6,h⟩:=h;replace h:=jt h;obtain⟨r,h7,h⟩:=h;cases Bv h6;cases Bv h7;obtain⟨p1,q1,e1⟩:=Hc h4;obtain⟨p2,q2,e2⟩:=Hc h5;have e1:l0=_:=e1;subst e1 e2;simp only[aq,dm] at h;obtain⟨⟨⟨rfl,rfl⟩,rfl,h8⟩,⟨h9,q5⟩,zk,zz⟩:=h;obtain⟨g1,U⟩:=Ew hc h8;have z:=awp (nm:=nm) (W:=W) (p1:=p1) (p2:=p2) (q1:=q1) (q2:=q2) hc.r8 g1 (hc.mg (by decide+kernel)) (by decide+kernel) (ue U).2.2 (ue U).1 (O7 (jm x hc zk).v Vg (my h9 _ _)) (O7 (jm y hc zz).v Vg (my q5 _ _)) (my h9 _ _) (my q5 _ _) (xg rfl) (xg rfl);exact⟨a1r z,λ_=>awg (a1s z) λ_ _ _ q=>q,λ_ _ _ z=>by cases z⟩
 |.acs x,c,X,a,hc,h=>by
  obtain⟨l,p,p1,p2,p3,rfl,h5,h6,h7,h8⟩:=aby h;obtain⟨g1,U⟩:=Ew hc h5;obtain⟨g3,g4⟩:=Ew hc h6;exact xr (a4e hc.r8 g1 (hc.mg (by decide+kernel)) (by decide+kernel) (ue U).2.2 (ue U).1 g3 (hc.mg (by decide+kernel)) (by decide+kernel) (ue g4).2.2 (ue g4).1
   (O7 (jm x hc h8).v Vg (my h7 _ _)) (my rfl _ _) (xg rfl) (my h7 _ _) (xg rfl)) rfl
 |.Wn x,c,X,a,hc,h=>by
  obtain⟨l,p,p1,p2,p3,rfl,h5,h6,h7,h8⟩:=aby h;obtain⟨g1,U⟩:=Ew hc h5;obtain⟨g3,g4⟩:=Ew hc h6;exact xr (a4h hc.r8 g1 (hc.mg (by decide+kernel)) (by decide+kernel) (ue U).2.2 (ue U).1 g3 (hc.mg (by decide+kernel)) (by decide+kernel) (ue g4).2.2 (ue g4).1
   (O7 (jm x hc h8).v Vg (my h7 _ _)) (my rfl _ _) (xg rfl) (my h7 _ _) (xg rfl)) rfl
theorem Fb:∀(Z:Ed){c:Ctx}{X:Cx}{a:Ya},Fi T nm W k c X->J2 T Z c a=true->PA X a (Yd nm W X.K Z)/\Bk a=true
 |.nil,c,X,a,hc,h=>by
  cases ou.mp h;exact⟨Vg,rfl⟩
 |.cons e Z,c,X,a,hc,h=>by
  cases a with
  |nil=>cases h
  |cons l U =>
   replace h:(noStar l&&(yu T e c l&&J2 T Z c U))=true:=h;simp only[aq] at h;obtain⟨R,G⟩:=Fb Z hc h.2.2;exact⟨O7 (jm e hc h.2.1).v R (my h.1 _ _),by simp only[Bk,aq];exact⟨h.1,G⟩⟩
theorem aj1:∀(e:OEx){c:Ctx}{X:Cx}{a:Option Expr},Fi T nm W k c X->a4w T e c a=true->PO X a (tO nm W X.K e)
 |.none,c,X,a,hc,h=>by
  cases Option.isNone_iff_eq_none.mp h;exact awx
 |.some e,c,X,a,hc,h=>by
  replace h:=jt h;obtain⟨l,rfl,h⟩:=h;exact awy (jm e hc h).v
theorem Sy:∀(it:Pz){c:Ctx}{X:Cx}{Z a:Expr},Fi T nm W k c X->axr T it c Z a=true->PI X Z a (tI nm W X.K it)
 |.val e,c,X,Z,a,hc,h=>baw (jm e hc h).v
 |.Qc e,c,X,Z,a,hc,h=>by
  replace h:=jt h;obtain⟨⟨n,ls⟩,U,h⟩:=h;obtain⟨p,p',rfl⟩:=Hc U;replace h:=jt h;obtain⟨l,h2,h⟩:=h;cases Bv h2;simp only[aq,dm] at h;obtain⟨⟨rfl,G⟩,R,h5⟩:=h;exact bax (Ew hc G).1 (hc.mg (by decide+kernel)) (jm e hc h5).v R
 |.enm e,c,X,Z,a,hc,h=>by
  replace h:=jt h;obtain⟨⟨n,ls⟩,U,h⟩:=h;obtain⟨p,p',rfl⟩:=Hc U;replace h:=jt h;obtain⟨l,h2,h⟩:=h;cases Bv h2;simp only[aq,dm] at h;obtain⟨⟨h6,rfl,G⟩,R,h5⟩:=h;obtain⟨ts,h7⟩:=o6.mp h6;obtain⟨k0,pt,rfl⟩:=Pr h7;exact bbh (Ew hc G).1 (hc.mg (by decide+kernel)) (jm e hc h5).v R
 |.zip es,c,X,Z,a,hc,h=>by
  replace h:=jt h;obtain⟨⟨n,ls⟩,U,h⟩:=h;obtain⟨p,p',rfl⟩:=Hc U;simp only[aq,dm] at h;obtain⟨⟨h6,rfl,G,R⟩,h5,h7⟩:=h;obtain⟨l,ls,rfl⟩:=Xv R;obtain⟨e1,e2⟩:=Fb es hc h7;obtain⟨ts,h9⟩:=o6.mp h6;obtain⟨k0,pt,rfl⟩:=Pr h9;simp only[Bk,aq] at e2;obtain⟨f1,f2⟩:=e2;exact bbi (Ew hc G).1 (hc.mg (by decide+kernel)) e1 (my f1 _ _) (xg f2) h5
end
end
noncomputable def bbs(e:Ex):Option {b:Bool // (∃v j t it x,e=.comp v j t it x)\/∃v j t it i x,e=.Fq v j t it i x}:=match e with|.comp ..=>some ⟨true,.inl ⟨_,_,_,_,_,rfl⟩⟩|.Fq ..=>some ⟨true,.inr ⟨_,_,_,_,_,_,rfl⟩⟩|_=>none
def a5a(T:Tab)(c:Ctx)(l:Lv)(e:Ex)(Z v:Expr):Bool :=
 match l with
 |.tg t=>(tgB c 0 t Z&&((Uj v&&((Kz Z).isSome||azs v))||(match t with|.name _=>(ae2 v).isSome&&(bbs e).isSome|_=>false)))&&yu T e c v
 |.sub o i=>Cm (aqy Z) λq=>abl q.2&&(yu T e c v&&(yu T o c q.1&&yu T i c q.2))
 |.fld o f=>Cm (aq0 Z) λq=>(Uj v&&flB T.Q8 f q.2.1)&&(yu T e c v&&yu T o c q.1)
noncomputable def bbt(a:Stmt):Option (List Expr×Expr):=Option.map Subtype.val (α:={q:List Expr×Expr // ∃p,a=.Assign q.1 q.2 p}) (match a with|.Assign t v p=>some ⟨(t,v),p,rfl⟩|_=>none)
noncomputable def bbu(a:Stmt):Option Expr:=Option.map Subtype.val (α:={q:Expr // ∃p,a=.Expr q p}) (match a with|.Expr v p=>some ⟨v,p,rfl⟩|_=>none)
noncomputable def bbv(a:Stmt):Option (Expr×List Stmt×List Stmt):=Option.map Subtype.val (α:={q:Expr×List Stmt×List Stmt // ∃p,a=.If q.1 q.2.1 q.2.2 p}) (match a with|.If t l r p=>some ⟨(t,l,r),p,rfl⟩|_=>none)
noncomputable def aq9(a:Stmt):Option (Expr×List Stmt×List Stmt):=Option.map Subtype.val (α:={q:Expr×List Stmt×List Stmt // ∃p,a=.While q.1 q.2.1 q.2.2 p}) (match a with|.While t l r p=>some ⟨(t,l,r),p,rfl⟩|_=>none)
noncomputable def bbw(a:Stmt):Option (Expr×Expr×List Stmt×List Stmt):=Option.map Subtype.val (α:={q:Expr×Expr×List Stmt×List Stmt // ∃p,a=.For q.1 q.2.1 q.2.2.1 q.2.2.2 p}) (match a with|.For t i l r p=>some ⟨(t,i,l,r),p,rfl⟩|_=>none)
noncomputable def bbx(a:Stmt):Option (Option Expr):=Option.map Subtype.val (α:={q:Option Expr // ∃p,a=.Return q p}) (match a with|.Return v p=>some ⟨v,p,rfl⟩|_=>none)
noncomputable def a5b(a:Stmt):Option Nat:=Option.map Subtype.val (α:={n:Nat // (n=0/\∃p,a=.Break p)\/(n=1/\∃p,a=.Continue p)\/(n=2/\∃p,a=.Pass p)}) (match a with|.Break p=>some ⟨0,.inl ⟨rfl,p,rfl⟩⟩|.Continue p=>some ⟨1,.inr (.inl ⟨rfl,p,rfl⟩)⟩|.Pass p=>some ⟨2,.inr (.inr ⟨rfl,p,rfl⟩)⟩|_=>none)
def axt(h:bbt a=some (t,v)):∃p,a=.Assign t v p:=(Yh h :)
def axu(h:bbu a=some v):∃p,a=.Expr v p:=(Yh h :)
def axv(h:bbv a=some (t,l,r)):∃p,a=.If t l r p:=(Yh h :)
def aj2(h:aq9 a=some (t,l,r)):∃p,a=.While t l r p:=(Yh h :)
def axw(h:bbw a=some (t,i,l,r)):∃p,a=.For t i l r p:=(Yh h :)
def axx(h:bbx a=some v):∃p,a=.Return v p:=(Yh h :)
def aj3(h:a5b a=some n):(n=0/\∃p,a=.Break p)\/(n=1/\∃p,a=.Continue p)\/(n=2/\∃p,a=.Pass p):=(Yh h :)
mutual
def a5c(T:Tab):Cz->Ctx->Stmt->Bool
 |.asg l e,c,a=>Cm (bbt a) λq=>Cm (Q9 q.1) λt=>a5a T c l e t q.2
 |.expr e,c,a=>Cm (bbu a) λv=>Uj v&&yu T e c v
 |.iff t x y,c,a=>Cm (bbv a) λq=>Ra q.1&&(yu T t c q.1&&(Qn T x c q.2.1&&Qn T y c q.2.2))
 |.whl (.tru y) x,c,a=>Cm (aq9 a) λq=>((Kz q.1).isSome&&q.2.2.isEmpty)&&(yu T y c q.1&&Qn T x c q.2.1)
 |.whl t x,c,a=>Cm (aq9 a) λq=>(Ra q.1&&q.2.2.isEmpty)&&(yu T t c q.1&&Qn T x c q.2.1)
 |.for_ t it x,c,a=>Cm (bbw a) λq=>(tgB c 0 t q.1&&(Hg q.2.1&&q.2.2.2.isEmpty))&&(axr T it c q.1 q.2.1&&Qn T x c q.2.2.1)
 |.ret e,c,a=>Cm (bbx a) λv=>Cm v (yu T e c)
 |.brk,_,a=>decide (a5b a=some 0)|.cont,_,a=>decide (a5b a=some 1)|.raise,_,_=>true
def Qn(T:Tab):p7->Ctx->List Stmt->Bool
 |.nil,_,a=>a.isEmpty|.cons s r,c,a=>match a with|st::rest=>a5c T s c st&&Qn T r c rest|_=>false
end
noncomputable def swB(c:Ctx)(t:Str)(pt Z:Pos)(G:Scope):Bool:=(c.sc.lookup t==some NameKind.local&&pt.line==Z.line)&&!(G.names.any λy=>y.1==t&&(y.2==.local||y.2==.cell))
def ahk(Z:Fi T nm W k c X):swapsWith (.ListComp elt gs sc vp) (some (.Name t pt)) l X.env=pure (swB c t pt vp sc):=by
 have b:X.env.blockKind=.function:=by unfold Env.blockKind;rw[Z.kd];rfl
 show(pure (X.env.blockKind==.function&&X.env.kindOf t==some .local&&pt.line==vp.line&&!(sc.names.any λ(n,k)=>n==t&&(k==.local||k==.cell))):Sem Bool)=_;rw[b];unfold Env.kindOf;rw[Z.sc];simp[swB]
def ara(Z:Fi T nm W k c X)(ht:tgB c 0 (.name i) tg=true)(hv:(ae2 v).isSome=true)(hw:(bbs e).isSome=true)(h:yu T e c v=true):PS X (.Assign [tg] v p) (tS nm W X.K (.asg (.tg (.name i)) e)):=by
 have nd:X.N.Nodup:=by rw[Z.N];exact Z.nd
 obtain⟨⟨R,gs,sc⟩,hq⟩:=o6.mp hv;obtain⟨y,py,rfl,hy,_⟩:=ahi (nm:=nm) (W:=W) (k:=k) (T:=T) Z ht;obtain⟨⟨_,co⟩,_⟩:=o6.mp hw;obtain⟨vp,rfl⟩:=Xu hq;have sw:=λl=>ahk (T:=T) (nm:=nm) (W:=W) (k:=k) Z (elt:=R) (gs:=gs) (sc:=sc) (vp:=vp) (pt:=py) (t:=y) (l:=l)
 cases hs:swB c y py vp sc with
 |false =>
  rw[hs] at sw;exact aqc (jm e Z h).v (ajz Z ht).1 (sw p.line) rfl rfl
 |true =>
  rw[hs] at sw;simp only[swB,aq] at hs;have hl:X.env.scope.names.lookup y=some .local:=by rw[Z.sc];have:=hs.1.1;simpa using this
  rcases co with⟨v,j,t,it,x,rfl⟩|⟨v,j,t,it,i',x,rfl⟩
  .replace h:=jt h
   obtain⟨⟨q0,qk,qq⟩,h1,h⟩:=h;cases h1;replace h:=jt h;obtain⟨⟨tg,G,qv,as⟩,h2,h⟩:=h;cases Bv h2;simp only[aq,ou] at h;obtain⟨⟨h3,rfl⟩,h4,h5⟩:=h;obtain⟨q1,q2,B,hB,hg,q3,q4⟩:=Sx Z h3;cases q2;exact aly B Z.calm (Sy it Z h4) hg (λC U s H=>(jm x (hB C U s H) h5).v) q1 q3 q4 nd hy hl (sw p.line)
  .replace h:=jt h
   obtain⟨⟨q0,qk,qq⟩,h1,h⟩:=h;cases h1;replace h:=jt h;obtain⟨⟨tg,G,qv,as⟩,h2,h⟩:=h;cases Bv h2;replace h:=jt h;obtain⟨d,h6,h⟩:=h;cases Bv h6;simp only[aq] at h;obtain⟨⟨h3,h7⟩,h4,h8,h5⟩:=h;obtain⟨q1,q2,B,hB,hg,q3,q4⟩:=Sx Z h3;cases q2;exact aec B Z.calm (Sy it Z h4) hg (λC U s H=>(jm i' (hB C U s H) h8).q h7) (λC U s H=>(jm x (hB C U s H) h5).v) q1 q3 q4 nd hy hl (sw p.line)
section
variable{T:Tab}{nm:Nm}{W:Hh}{k:Nat}
def axy(Z:Fi T nm W k c X)(h:a5a T c l e tg v=true):PS X (.Assign [tg] v p) (tS nm W X.K (.asg l e)):=by
 cases l with
 |tg t =>
  simp only[a5a,aq,Bool.or_eq_true] at h;obtain⟨⟨h1,h2⟩,U⟩:=h;rcases h2 with⟨G,R⟩|G
  .have g:=ajz (nm:=nm) Z h1
   have sh:(∃n q,tg=.Name n q)\/∃ts k0 q,tg=.Tuple ts k0 q:=by
    cases t with
    |name i =>
     obtain⟨n,z1,_⟩:=jt h1;exact .inl ⟨n,Ey z1⟩
    |names is =>
     obtain⟨ts,z1,_⟩:=jt h1;exact .inr ⟨ts,Pr z1⟩
   rcases sh with⟨n,q,rfl⟩|⟨ts,k0,q,rfl⟩
   .exact aqc (jm e Z U).v g.1 (Xi G _ _ _) rfl rfl
   .have w:azs v=true:=by
     rcases R with R|R
     .cases R
     .exact R
    have w2:swappedStores [.Tuple ts k0 q] v X.env=pure none:=by cases v<;>first|rfl|(cases w;done)
    exact aqc (jm e Z U).v g.1 (Xi G _ _ _) w2 rfl
  .cases t with
   |name i=>rw[aq] at G;exact ara Z h1 G.1 G.2 U|names _=>cases G
 |sub o i =>
  replace h:=jt (show Cm (aqy tg) _=true from h);obtain⟨⟨lo,li⟩,h0,h⟩:=h;obtain⟨p',rfl⟩:=abw h0;simp only[aq] at h;obtain⟨h2,U,G,R⟩:=h;refine aqi (ad0 Z.room) (jm e Z U).v (jm o Z G).v (jm i Z R).v λv=>?_
  cases li<;>first|rfl|(cases h2;done)
 |fld o f =>
  replace h:=jt (show Cm (aq0 tg) _=true from h);obtain⟨⟨lo,n,p'⟩,h0,h⟩:=h;cases abx h0;simp only[aq] at h;obtain⟨⟨h1,h2⟩,U,G⟩:=h;obtain⟨t1,t2⟩:=Z.tab.fl _ _ (qd h2);exact aqj t1 t2 (jm e Z U).v (jm o Z G).v h1
mutual
theorem axz:∀(s:Cz){c:Ctx}{X:Cx}{a:Stmt},Fi T nm W k c X->c.fn=true->a5c T s c a=true->PS X a (tS nm W X.K s)
 |.asg l e,c,X,a,hc,hf,h=>by
  replace h:=jt h;obtain⟨⟨ts,v⟩,Z,h⟩:=h;obtain⟨p,rfl⟩:=axt Z;replace h:=jt h;obtain⟨t,G,h⟩:=h;cases Bv G;exact axy hc h
 |.expr e,c,X,a,hc,hf,h=>by
  replace h:=jt h;obtain⟨v,Z,h⟩:=h;obtain⟨p,rfl⟩:=axu Z;simp only[aq] at h;exact a3q (jm e hc h.2).v (O8 h.1 _ _ _)
 |.iff t x y,c,X,a,hc,hf,h=>by
  replace h:=jt h;obtain⟨⟨q,l,r⟩,Z,h⟩:=h;obtain⟨p,rfl⟩:=axv Z;simp only[aq] at h;exact bas ((jm t hc h.2.1).q h.1) (Jf x hc hf h.2.2.1) (Jf y hc hf h.2.2.2)
 |.whl t x,c,X,a,hc,hf,h=>by
  by_cases ht:∃y,t=.tru y
  .obtain⟨y,rfl⟩:=ht
   replace h:=jt (show Cm (aq9 a) _=true from h);obtain⟨⟨q,l,r⟩,Z,h⟩:=h;obtain⟨p,rfl⟩:=aj2 Z;simp only[aq,ou] at h;obtain⟨⟨G,rfl⟩,U,R⟩:=h;obtain⟨z,G⟩:=o6.mp G;obtain⟨p',rfl⟩:=Ey G;exact azt (hc.fnl hf).2 (bbl (jm y hc U).v λ_=>rfl) (Jf x hc hf R)
  replace h:Cm (aq9 a) (λq=>(Ra q.1&&q.2.2.isEmpty)&&(yu T t c q.1&&Qn T x c q.2.1))=true:=by cases t<;>first|exact h|exact absurd ⟨_,rfl⟩ ht
  replace h:=jt h;obtain⟨⟨q,l,r⟩,Z,h⟩:=h;obtain⟨p,rfl⟩:=aj2 Z;simp only[aq,ou] at h;obtain⟨⟨G,rfl⟩,U,R⟩:=h;exact azt (hc.fnl hf).2 ((jm t hc U).q G) (Jf x hc hf R)
 |.for_ t it x,c,X,a,hc,hf,h=>by
  replace h:=jt h;obtain⟨⟨tg,qq,l,r⟩,Z,h⟩:=h;obtain⟨p,rfl⟩:=axw Z;simp only[aq,ou] at h;obtain⟨⟨G,U,rfl⟩,R,h5⟩:=h;exact bav (hc.fnl hf).2 hc.calm (Sy it hc R) (ajz hc G).1 (Jf x hc hf h5) U
 |.ret e,c,X,a,hc,hf,h=>by
  replace h:=jt h;obtain⟨v,Z,h⟩:=h;obtain⟨p,rfl⟩:=axx Z;replace h:=jt h;obtain⟨w,rfl,h⟩:=h;exact bap (jm e hc h).v
 |.brk,c,X,a,hc,hf,h=>by
  rcases aj3 (qd h) with⟨_,p,rfl⟩|⟨z,_⟩|⟨z,_⟩
  .exact baq
  .cases z
  .cases z
 |.cont,c,X,a,hc,hf,h=>by
  rcases aj3 (qd h) with⟨z,_⟩|⟨_,p,rfl⟩|⟨z,_⟩
  .cases z
  .exact a3r
  .cases z
 |.raise,c,X,a,hc,hf,h=>axd
theorem Jf:∀(s:p7){c:Ctx}{X:Cx}{a:List Stmt},Fi T nm W k c X->c.fn=true->Qn T s c a=true->Sg X a (tSs nm W X.K s)
 |.nil,c,X,a,hc,hf,h=>by
  cases ou.mp h;exact a3s
 |.cons s r,c,X,a,hc,hf,h=>by
  cases a with
  |nil=>cases h
  |cons st Z =>
   replace h:(a5c T s c st&&Qn T r c Z)=true:=h;simp only[aq] at h;exact awk (axz s hc hf h.1) (Jf r hc hf h.2)
end
end
structure Def where
 x:Str
 qual:Str
 N:List Str
 ps:List Str
noncomputable def scB(N G:Yf)(Z:Scope):Bool :=
 (decide (Z.kind=.function)&&(!Z.isCoroutine&&!Z.isGenerator))&&((decide N.Nodup&&decide (N.take G.length=G)) &&
 (G.all (λx=>Z.names.lookup x==some .local||Z.names.lookup x==some .cell)&&Z.names.all (λy=>!(y.2==NameKind.free))))
def a5d(h:scB N ps sc=true):V5 N ps sc:=by simp only[scB,aq,dm,Bool.not_eq_true',jd] at h;obtain⟨⟨R,Z,U⟩,⟨h4,h5⟩,G,h7⟩:=h;exact⟨R,Z,U,h4,h5,λx m=>by have:=G x m;simpa using this,λy m=>by have:=h7 y m;simpa using this⟩
def al8(T:Tab)(d:Def)(F:MW.Fn)(st:Stmt):Bool :=
 (scB d.N d.ps (Bq st)&&(decide (F.np=d.ps.length)&&decide (F.ns=d.N.length)))&&Qn T F.body ⟨d.N,(Bq st).names,true⟩ (Gq st)
set_option tactic.hygienic true in
def ax0{F:MW.Fn}(h:F.run W ds M=.ok d U):ds.length=F.np/\∃Y Z,F.body.den W (ds.map some++List.replicate (F.ns-F.np) none) M=.ok (Y,Z) U/\(Y=.ret d\/(Y=.next/\d=.non)):=by
 unfold MW.Fn.run at h;split at h
 .rename_i J
  obtain⟨⟨Y,Z⟩,C,G,e⟩:=gn h;refine⟨J,Y,Z,?_⟩;cases Y with
  |ret z=>cases e;exact⟨G,.inl rfl⟩|next=>cases e;exact⟨G,.inr ⟨rfl,rfl⟩⟩|brk=>cases e|cont=>cases e
 .cases h
def a5e{Z:MW.Prog}(U:Fun K d.x d.qual st f fd)(hF:Z.fns[i]?=some F)(h:al8 T d F st=true)(hT:aqx T nm ⟨Z.call n,Z.cls⟩ k P w K mg base):Ha P w K mg base CX0 (k+17) f fd d.ps (spF nm ⟨Z.call (n+1),Z.cls⟩ K F.np i):=by
 simp only[al8,aq,dm] at h;obtain⟨⟨h1,h2,h3⟩,h4⟩:=h;have S:=a5d h1;have go:∀R M d' M',MW.Hh.call ⟨Z.call (n+1),Z.cls⟩ i R M=.ok d' M'->F.run ⟨Z.call n,Z.cls⟩ R M=.ok d' M':=λR M d' M' e=>by have e:Z.call (n+1) i R M=.ok d' M':=e;unfold MW.Prog.call at e;rw[hF] at e;exact e
 refine U.ok (k:=k+16) S (λvs H Q E ⟨ι,M,R,d',M',_,r,l,e,_⟩=>by rw[<- r.length,l,h2]) (λqk A G s H vs Q E hr z_=>?_);obtain⟨ι,M,R,d',M',SM,r,l,e,q⟩:=z_;have hc:Fi T nm ⟨Z.call n,Z.cls⟩ k ⟨d.N,(Bq st).names,true⟩ (ag2 CX0 P w K mg base d.N d.qual (Bq st) f qk A G s H E).nox :=
  ⟨rfl,S.nd,rfl,S.kind,rfl,hr,λ_=>⟨λ_=>rfl,PassesOwn.never⟩,hT⟩
 refine⟨_,Jf F.body hc rfl h4,?_⟩;obtain⟨hl,fl,qv,e1,e2⟩:=ax0 (go _ _ _ _ e);refine⟨ι,_,M,fl,qv,M',SM,?_,e1,λqq H' q0 le S' R'=>?_⟩
 .unfold L2.start
  exact(vy.ap8 r).append (vy.ap7 _ (by rw[List.length_replicate,h3,<- r.length,l]))
 .rcases e2 with rfl|⟨rfl,rfl⟩
  .exact λv rv=>q qq H' v le S' rv
  .exact q qq H' _ le S' .non
theorem aj4{nm:Nm}{P:Program}{w:World}{K:Fg}{mg:Zs}{base:Heap}{IR:MW.Prog}{T:Tab}{D:Nat->Def}{st:Nat->Stmt}{fa:Nat->Addr}{fd:Nat->FuncData}
 (U:∀i,i<IR.fns.length->Fun K (D i).x (D i).qual (st i) (fa i) (fd i)) (h:∀i F,IR.fns[i]?=some F->al8 T (D i) F (st i)=true)
 (R:∀n,(∀i F,IR.fns[i]?=some F->Ha P w K mg base CX0 (17*n) (fa i) (fd i) (D i).ps (spF nm ⟨IR.call n,IR.cls⟩ K F.np i))->aqx T nm ⟨IR.call n,IR.cls⟩ (17*n) P w K mg base) :
 ∀n i F,IR.fns[i]?=some F->Ha P w K mg base CX0 (17*n) (fa i) (fd i) (D i).ps (spF nm ⟨IR.call n,IR.cls⟩ K F.np i)
 |0,i,F,hF=>⟨(λvs H Q E ⟨ι,M,ds,d',M',_,r,l,e,_⟩=>by cases e),λA Z s H G us vs Q E hr he hb hv ⟨ι,M,ds,d',M',_,r,l,e,_⟩=>by cases e⟩
 |n+1,i,F,hF=>a5e (U i (ak.mp hF).1) hF (h i F hF) (R n (aj4 U h R n))
noncomputable def a5f(s:Str):Bool:=s.cps[0]?==some 0
def arb(Z:Yf):Bool:=decide Z.Nodup&&Z.all λs=>!a5f s
noncomputable def ae5(Z:Yf)(i:Nat):Str:=match Z[i]? with|some s=>s|none=>⟨#[0,0,i]⟩
def arc(h:arb Q8=true)(i j:Nat)(e:ae5 Q8 i=ae5 Q8 j):i=j:=by
 simp only[arb,aq,dm,jd] at h;have Z:∀k,a5f ⟨#[0,0,k]⟩=true:=λk=>rfl
 unfold ae5 at e;cases hi:Q8[i]? with
 |some a =>
  rw[hi] at e;cases hj:Q8[j]? with
  |some b =>
   rw[hj] at e;have e:a=b:=e;subst e;obtain⟨R,U⟩:=ak.mp hi;obtain⟨l2,G⟩:=ak.mp hj;exact(yg h.1).mp (U.trans G.symm)
  |none =>
   rw[hj] at e;have e:a=⟨#[0,0,j]⟩:=e;have:=h.2 a (ao hi);rw[e,Z] at this;cases this
 |none =>
  rw[hi] at e;cases hj:Q8[j]? with
  |some b =>
   rw[hj] at e;have e:(⟨#[0,0,i]⟩:Str)=b:=e;have:=h.2 b (ao hj);rw[<- e,Z] at this;cases this
  |none =>
   rw[hj] at e;have e:(⟨#[0,0,i]⟩:Str)=⟨#[0,0,j]⟩:=e;simpa using e
def a5g(Z:List (Option Addr))(G:Yf)(h:arb G=true):Nm:=⟨λc=>(Z[c]?).join,ae5 G,arc h⟩
def ard(Z:Yf)(x:Str):Bool:=!(Z.contains x)&&!a5f x
def arf(h:ard Q8 x=true)(i:Nat):ae5 Q8 i≠x:=λe=>by
 simp only[ard,aq,Bool.not_eq_true'] at h;unfold ae5 at e;cases hi:Q8[i]? with
 |some a =>
  rw[hi] at e;have e:a=x:=e;rw[<- e] at h;have:=List.contains_iff_mem.mpr (ao hi);rw[this] at h;cases h.1
 |none =>
  rw[hi] at e;have e:(⟨#[0,0,i]⟩:Str)=x:=e;rw[<- e] at h;cases h.2
section
variable(K:Fg)(mg:Zs)
def abz:List Def->List Stmt->List Addr->List FuncData->Prop
 |d::ds,s::ss,a::as,f::fs=>(Fun K d.x d.qual s a f/\Binds K f d.ps [])/\abz ds ss as fs|[],[],[],[]=>True|_,_,_,_=>False
def Uq:List (Option (Str×Nat))->List Addr->Prop
 |some p::r,a::as=>mg p.1=some (.ref a)/\Uq r as|none::r,_::as=>Uq r as|_,_=>True
def ae6(C:Addr)(Z:List (Str×Nat))(G:X9):List (Nat×Nat)->Prop
 |q::r=>(∃p a,Z[q.1]?=some p/\G[q.2]?=some a/\Meth K C p.1 a)/\ae6 C Z G r|[]=>True
def ab0(C:Addr):List Str->Prop
 |x::r=>G9 K C x/\ab0 C r|[]=>True
structure ClF(T:Tab)(Mu:X9)(x:Str)(C:Addr)(cl:MW.Cl):Prop where
 mg:mg x=some (.ref C)
 cs:Cls K C
 ini:∃f,Mu[cl.init]?=some f/\Mk K C f
 me:ae6 K C T.mts Mu cl.meths
 na:ab0 K C T.Q8
def Pg(T:Tab)(Z:X9):List (Option (Str×Nat))->List (Option Addr)->List MW.Cl->Prop
 |some p::r,some C::cs,cl::cls=>ClF K mg T Z p.1 C cl/\Pg T Z r cs cls|none::r,none::cs,_::cls=>Pg T Z r cs cls|[],[],[]=>True|_,_,_=>False
def ab1:List (Str×Int)->Prop
 |p::r=>(∃t,mg p.1=some (.int p.2 t))/\ab1 r|[]=>True
def AllB:List Str->Prop
 |x::r=>mg x=none/\AllB r|[]=>True
end
theorem abz.get{K:Fg}:∀{Z:List Def}{G:List Stmt}{as:X9}{fs:List FuncData}{i:Nat}{d:Def},abz K Z G as fs->Z[i]?=some d->∃s a f,G[i]?=some s/\as[i]?=some a/\fs[i]?=some f/\Fun K d.x d.qual s a f/\Binds K f d.ps []
 |d::Z,s::G,a::as,f::fs,0,d',h,e=>by cases e;exact⟨s,a,f,rfl,rfl,rfl,h.1⟩
 |d::Z,s::G,a::as,f::fs,i+1,d',h,e=>by
  obtain⟨R,a',f',h1,U,h3,h4⟩:=abz.get (i:=i) h.2 (by simpa using e);exact⟨R,a',f',by simpa using h1,by simpa using U,by simpa using h3,h4⟩
theorem Uq.get{mg:Zs}:∀{l:List (Option (Str×Nat))}{as:X9}{i:Nat}{p:Str×Nat}{a:Addr},Uq mg l as->l[i]?=some (some p)->as[i]?=some a->mg p.1=some (.ref a)
 |some q::l,b::as,0,p,a,h,e,e2=>by cases e;cases e2;exact h.1|none::l,b::as,0,p,a,h,e,e2=>by cases e|some q::l,b::as,i+1,p,a,h,e,e2=>Uq.get (i:=i) h.2 (by simpa using e) (by simpa using e2)|none::l,b::as,i+1,p,a,h,e,e2=>Uq.get (i:=i) (l:=l) (as:=as) h (by simpa using e) (by simpa using e2)
theorem ae6.get{K:Fg}{C:Addr}{Z:List (Str×Nat)}{G:X9}:∀{l:List (Nat×Nat)}{q:Nat×Nat},ae6 K C Z G l->q∈l->∃p a,Z[q.1]?=some p/\G[q.2]?=some a/\Meth K C p.1 a
 |q'::l,q,h,m=>by
  rcases cj.mp m with z|z
  .rw[z];exact h.1
  .exact ae6.get h.2 z
theorem ab0.get{K:Fg}{C:Addr}:∀{l:Yf}{x:Str},ab0 K C l->x∈l->G9 K C x
 |y::l,x,h,m=>by
  rcases cj.mp m with z|z
  .rw[z];exact h.1
  .exact ab0.get h.2 z
theorem Pg.get{K:Fg}{mg:Zs}{T:Tab}{Mu:X9}:∀{l:List (Option (Str×Nat))}{cs:List (Option Addr)}{cls:List MW.Cl}{c:Nat}{p:Str×Nat},Pg K mg T Mu l cs cls->l[c]?=some (some p)->∃C G,cs[c]?=some (some C)/\cls[c]?=some G/\ClF K mg T Mu p.1 C G
 |some q::l,some C::cs,G::cls,0,p,h,e=>by cases e;exact⟨C,G,rfl,rfl,h.1⟩
 |some q::l,some C::cs,G::cls,c+1,p,h,e=>by
  obtain⟨C',Z,h1,U,R⟩:=Pg.get (c:=c) h.2 (by simpa using e);exact⟨C',Z,by simpa using h1,by simpa using U,R⟩
 |none::l,none::cs,G::cls,0,p,h,e=>by cases e
 |none::l,none::cs,G::cls,c+1,p,h,e=>by
  obtain⟨C',Z,h1,U,R⟩:=Pg.get (l:=l) (cs:=cs) (cls:=cls) (c:=c) h (by simpa using e);exact⟨C',Z,by simpa using h1,by simpa using U,R⟩
theorem Pg.at{K:Fg}{mg:Zs}{T:Tab}{Z:X9}:∀{l:List (Option (Str×Nat))}{cs:List (Option Addr)}{cls:List MW.Cl}{c:Nat}{C:Addr},Pg K mg T Z l cs cls->cs[c]?=some (some C)->Cls K C/\ab0 K C T.Q8
 |some q::l,some C::cs,cl::cls,0,p,h,e=>by cases e;exact⟨h.1.cs,h.1.na⟩|some q::l,some C::cs,cl::cls,c+1,p,h,e=>Pg.at (c:=c) h.2 (by simpa using e)|none::l,none::cs,cl::cls,0,p,h,e=>by cases e|[],[],_,_,_,_,e=>by simp at e|[],_::_,[],_,_,h,_=>h.elim|[],_::_,_::_,_,_,h,_=>h.elim|none::l,none::cs,cl::cls,c+1,p,h,e=>Pg.at (l:=l) (cs:=cs) (cls:=cls) (c:=c) h (by simpa using e)
theorem ab1.get{mg:Zs}:∀{l:List (Str×Int)}{x:Str}{i:Int},ab1 mg l->(x,i)∈l->∃t,mg x=some (.int i t)
 |q::l,x,i,h,m=>by
  rcases cj.mp m with z|z
  .rw[<- z] at h;exact h.1
  .exact ab1.get h.2 z
theorem AllB.get{mg:Zs}:∀{l:Yf}{x:Str},AllB mg l->x∈l->mg x=none
 |q::l,x,h,m=>by
  rcases cj.mp m with z|z
  .rw[z];exact h.1
  .exact AllB.get h.2 z
def ax1(T:Tab):List MW.Fn->List Def->List Stmt->Bool
 |F::Fs,d::ds,s::ss=>al8 T d F s&&ax1 T Fs ds ss|[],[],[]=>true|_,_,_=>false
noncomputable def npB(Z:List MW.Fn)(f n:Nat):Bool:=match Z[f]? with|some F=>F.np==n|none=>false
def tfB(Z:List MW.Fn)(l:List (Option (Str×Nat))):Bool:=l.zipIdx.all λq=>match q.1 with|some p=>npB Z q.2 p.2|none=>true
def tcB(Z:MW.Prog)(l:List (Option (Str×Nat))):Bool:=l.zipIdx.all λq=>match q.1 with|some p=>(match Z.cls[q.2]? with|some G=>npB Z.fns G.init (p.2+1)|none=>false)|none=>true
noncomputable def bhm(Z:List MW.Cl)(m c f:Nat):Bool:=Z.zipIdx.all λq=>match q.1.meths.lookup m with|none=>true|some g=>q.2==c&&g==f
def tmB(G:MW.Prog)(T:Tab)(mcs:List (Nat×Nat)):Bool:=T.mts.zipIdx.all λq=>match mcs[q.2]? with
 |some Z=>(bhm G.cls q.2 Z.1 Z.2&&(npB G.fns Z.2 (q.1.2+1)&&ard T.Q8 q.1.1))&&((match T.cls[Z.1]? with|some (some _)=>true|_=>false)&&(match G.cls[Z.1]? with|some U=>U.meths.lookup q.2==some Z.2|none=>false))
 |none=>false
def Lx{Z:Type}{l:List Z}{g:Z×Nat->Bool}(h:l.zipIdx.all g=true){x:Z}(e:l[i]?=some x):g (x,i)=true:=by rw[jd] at h;exact h (x,i) (by rw[wy];exact⟨i,by rw[yp,e];simp⟩)
set_option tactic.hygienic true in
def ahl(h:npB fns f n=true):∃F,fns[f]?=some F/\F.np=n:=by
 unfold npB at h;split at h
 .rename_i F e;exact⟨F,e,eq_of_beq h⟩
 .cases h
theorem Xw{T:Tab}:∀{Z:List MW.Fn}{G:List Def}{U:List Stmt}{i:Nat}{F:MW.Fn},ax1 T Z G U=true->Z[i]?=some F->∃d s,G[i]?=some d/\U[i]?=some s/\al8 T d F s=true
 |F::Z,d::G,s::U,0,F',h,e=>by
  replace h:=Bool.and_eq_true_iff.mp h;cases e;exact⟨d,s,rfl,rfl,h.1⟩
 |F::Z,d::G,s::U,i+1,F',h,e=>by
  replace h:=Bool.and_eq_true_iff.mp h;obtain⟨d',s',h1,R,h3⟩:=Xw (i:=i) h.2 (by simpa using e);exact⟨d',s',by simpa using h1,by simpa using R,h3⟩
 |[],_,_,_,_,_,e=>by simp at e|_::_,[],_,_,_,h,_=>by cases h|_::_,_::_,[],_,_,h,_=>by cases h
set_option tactic.hygienic true in
def a5h(qk:arb T.Q8=true)(hP:ax1 T IR.fns Ds ss=true)(h1:tfB IR.fns T.fns=true)(h2:tcB IR T.cls=true)(h3:tmB IR T mcs=true)(aF:abz K Ds ss R fds)(aG:Uq mg T.fns R)(aC:Pg K mg T R T.cls cas IR.cls)(aV:ab1 mg T.axi)(aB:AllB mg Pa)(hF:IR.fns[i]?=some F) :
 ∃d a f,Ds[i]?=some d/\R[i]?=some a/\fds[i]?=some f/\Binds K f d.ps []/\Ha P w K mg base CX0 (17*n) a f d.ps (spF (a5g cas T.Q8 qk) ⟨IR.call n,IR.cls⟩ K F.np i):=by
 let dd:Def:=⟨Str.empty,Str.empty,[],[]⟩
 let sd:Stmt:=.Pass ⟨0,0,0,0⟩
 obtain⟨d,s,g1,g2,g3⟩:=Xw hP hF;have all:∀(i:Nat)(F:MW.Fn),IR.fns[i]?=some F->∃d s a f,Ds[i]?=some d/\ss[i]?=some s/\R[i]?=some a/\fds[i]?=some f/\Fun K d.x d.qual s a f/\Binds K f d.ps []/\al8 T d F s=true:=λi F e=>by
  refine hG λ_ _k=>?_
  obtain⟨d,s,g1,g2,g3⟩:=Xw hP e;obtain⟨s',a,f,Z,S,Y,L,k5⟩:=aF.get g1;rw[g2] at Z;cases Z;apply _k;exact⟨d,s,a,f,g1,g2,S,Y,L,k5,g3⟩
 have df:∀{j:Nat}{a:Addr}{f:FuncData}{d:Def},R[j]?=some a->fds[j]?=some f->Ds[j]?=some d->(R[j]?).getD 0=a/\Ds[j]?.getD dd=d:=λJ U e3=>⟨by rw[J];rfl,by rw[e3];rfl⟩
 obtain⟨qv,q7⟩:∃qv:FuncData,True:=by obtain⟨s',a,f,_⟩:=aF.get g1;exact⟨f,trivial⟩
 have q0:=aj4 (nm:=a5g cas T.Q8 qk) (P:=P) (w:=w) (K:=K) (mg:=mg) (base:=base) (IR:=IR) (T:=T) (D:=λi=>Ds[i]?.getD dd) (st:=λi=>ss[i]?.getD sd) (fa:=λi=>(R[i]?).getD 0) (fd:=λi=>(fds[i]?).getD qv)
  (λi hi=>by
   refine hG λ_ _k=>?_
   obtain⟨d,s,a,f,Z,S,Y,L,k5,k6,k7⟩:=all i IR.fns[i] (by simp[hi]);apply _k;rw[Z,S,Y,L];exact k5)
  (λi F e=>by
   refine hG λ_ _k=>?_
   obtain⟨d,s,a,f,Z,S,Y,L,k5,k6,k7⟩:=all i F e;apply _k;rw[Z,S];exact k7)
  (λn G=>?_) n i F hF
 .refine hG λ_ _k=>?_
  obtain⟨d',s',a,f,Z,S,Y,L,k5,k6,k7⟩:=all i F hF;apply _k;refine⟨d',a,f,Z,Y,L,k6,?_⟩;have:=q0;rw[Z,Y,L] at this;exact this
 ·
  have qq:∀{j:Nat}{F:MW.Fn}{a:Addr},IR.fns[j]?=some F->R[j]?=some a->∃(f:FuncData)(d:Def),Binds K f d.ps []/\Ha P w K mg base CX0 (17*n) a f d.ps (spF (a5g cas T.Q8 qk) ⟨IR.call n,IR.cls⟩ K F.np j)/\PySem.W.keepIn K (.ref a)=true:=fun{j F a} J U=>by
   refine hG λ_ _k=>?_
   obtain⟨d,s,a',f,Z,S,Y,L,k5,k6,k7⟩:=all j F J;rw[U] at Y;cases Y;have g:=G j F J;rw[Z,U,L] at g;apply _k;exact⟨f,d,k6,g,k5.kp⟩
  have addr:∀{j:Nat}{F:MW.Fn},IR.fns[j]?=some F->∃a,R[j]?=some a:=fun{j F} e=>by
   refine hG λ_ _k=>?_
   obtain⟨d,s,a',f,Z,S,Y,_⟩:=all j F e;apply _k;exact⟨a',Y⟩
  refine⟨λf x m e=>?_,λc x m e=>?_,λm x j e=>?_,λf x e=>?_,λx i m=>aV.get m,λx m=>aB.get m⟩
  .refine hG λ_ _k=>?_
   obtain⟨F,J,U⟩:=ahl (Lx h1 e);obtain⟨a,e3⟩:=addr J;obtain⟨fd,d,b,g,kp⟩:=qq J e3;rw[U] at g;apply _k;exact⟨a,fd,d.ps,g,aG.get e e3,kp,b⟩
  .refine hG λ_ _k=>?_
   obtain⟨C,cl,q1,q2,q3⟩:=aC.get e;have z:=Lx h2 e;simp only[q2] at z;obtain⟨F,J,U⟩:=ahl z;obtain⟨f,f1,f2⟩:=q3.ini;obtain⟨fd,d,b,g,kp⟩:=qq J f1;rw[U] at g;apply _k;exact⟨C,f,fd,d.ps,cl,f2,g,q3.mg,b,q2,by show(cas[c]?).join=some C;rw[q1];rfl⟩
  .have z:=Lx h3 e
   simp only at z;split at z
   .rename_i cf q8
    simp only[aq] at z;refine hG λ_ _k=>?_
    obtain⟨⟨z1,z2,z3⟩,z4,z5⟩:=z;obtain⟨F,J,U⟩:=ahl z2;apply _k;split at z4
    .rename_i p hp
     refine hG λ_ _k=>?_
     obtain⟨C,cl,q1,q2,q3⟩:=aC.get hp;rw[q2] at z5;simp only at z5;have mem:(m,cf.2)∈cl.meths:=mem_of_lookup (eq_of_beq z5);obtain⟨p',a,r1,r2,r3⟩:=q3.me.get mem;rw[e] at r1;cases r1;obtain⟨fd,d,b,g,kp⟩:=qq J r2;rw[U] at g;apply _k;refine⟨C,a,fd,d.ps,cf.2,q3.cs,r3,g,b,λc' q6 q4 g' Y7=>?_,arf z3⟩;have y:=Lx z1 q4;simp only[Y7,aq] at y;have y1:c'=cf.1:=eq_of_beq y.1;exact⟨by show(cas[c']?).join=some C;rw[y1,q1];rfl,eq_of_beq y.2⟩
    .cases z4
   .cases z
  .refine⟨by show x=ae5 T.Q8 f;unfold ae5;rw[e],λc C u=>?_⟩
   have u:(cas[c]?).join=some C:=u;have q5:cas[c]?=some (some C):=by
    cases q:cas[c]? with
    |none=>rw[q] at u;cases u
    |some o=>rw[q] at u;cases o with
     |none=>cases u|some C'=>cases u;rfl
   obtain⟨y1,y2⟩:=aC.at q5;exact⟨y1,y2.get (ao e)⟩
def fN:abz K [] [] [] []:=trivial
def gN:Uq mg [] as:=trivial
def gS(h:mg p.1=some (.ref a))(t:Uq mg r Z):Uq mg (some p::r) (a::Z):=⟨h,t⟩
def gO(t:Uq mg r Z):Uq mg (none::r) (a::Z):=t
def mN:ae6 K C mts Z []:=trivial
def mC(U:mts[q.1]?=some p)(G:Z[q.2]?=some a)(m:Meth K C p.1 a)(t:ae6 K C mts Z r):ae6 K C mts Z (q::r):=⟨⟨p,a,U,G,m⟩,t⟩
def nN:ab0 K C []:=trivial
def nC(h:G9 K C x)(t:ab0 K C r):ab0 K C (x::r):=⟨h,t⟩
def cN:Pg K mg T Z [] [] []:=trivial
def cO(t:Pg K mg T Z r cs cls):Pg K mg T Z (none::r) (none::cs) (cl::cls):=t
def cS(h:ClF K mg T Z p.1 C cl)(t:Pg K mg T Z r cs cls):Pg K mg T Z (some p::r) (some C::cs) (cl::cls):=⟨h,t⟩
def vN:ab1 mg []:=trivial
def vC(h:mg p.1=some (.int p.2 t))(q:ab1 mg r):ab1 mg (p::r):=⟨⟨t,h⟩,q⟩
def bN:AllB mg []:=trivial
def bC(h:mg x=none)(q:AllB mg r):AllB mg (x::r):=⟨h,q⟩
abbrev Lk(K:Fg)(f:Addr)(x q:Str)(st:Stmt)(oc:Value)(od:Option Addr)(kV dc pm:Value)(an:Option Addr)(cd ct:Value)(sl:Array (Option Value)):Prop :=
 K.lookup f=some ⟨oc,od,.func (PySem.W.fnOf x q (Jz st) (Gq st) (Bq st) .none kV dc pm an cd ct),sl⟩/\PySem.W.codeIn K cd q=true/\PySem.W.keepIn K (.ref f)=true
noncomputable def a5i:Nat->(List Value->Prop)->Prop|0,P=>P []|n+1,P=>∀a,a5i n λZ=>P (a::Z)
theorem aj5:∀{us:Zl}{P:List Value->Prop},a5i us.length P->P us|[],_,h=>h|a::us,_,h=>aj5 (us:=us) (h a)
def fE{kV:Value}(l:Lk K a d.x d.qual s oc od kV dc Z G cd R sl)(r:abz K ds ss as fs)
 (b:∀(kV qq Z:Value)(G:Option Addr)(U R:Value),a5i d.ps.length λus=>bindArgs (PySem.W.fnOf d.x d.qual (Jz s) (Gq s) (Bq s) .none kV qq Z G U R) ⟨us,[]⟩=pure (d.ps.zip us):=by(repeat intro _);rfl) :
 abz K (d::ds) (s::ss) (a::as) (PySem.W.fnOf d.x d.qual (Jz s) (Gq s) (Bq s) .none kV dc Z G cd R::fs):=⟨⟨ap4 l.1 l.2.1 l.2.2,(ap4 l.1 l.2.1 l.2.2).binds λ_ _ _ _ _ _ _ e=>aj5 (e▸b _ _ _ _ _ _)⟩,r⟩
noncomputable def aj6(K:Fg):Sp:=λU H Q _=>∃(a:Addr)(Z:Xs),U=[.ref a]/\Only H/\Gw K H a (Z.map V.int)/\Z.length<=63/\∀G,Q (.bl true) G
def ax2(o:Only H)(h:Gw K H a vs):abf K H a vs:=by
 rcases h with(h|h)|h
 .rcases o a with z|⟨ob,xs,z⟩<;>rw[z] at h<;>cases h
 .exact .inl h
 .exact .inr h
def ax3(run:∀(Z:Xs),Z.length<=63->∃G,W.call i [.fz (Z.map MW.D.int)] []=.ok (.bl true) G)(h:aj6 K vs H Q E):spF nm W K 1 i vs H Q E:=by obtain⟨a,Z,rfl,o,U,hl,k⟩:=h;obtain⟨G,e⟩:=run Z hl;refine⟨⟨[],[]⟩,[],_,_,G,⟨rfl,Ao,by simp,λn o a h=>by simp at h⟩,.cons (.fz (ax2 o U) (p8.ints Z)) .nil,rfl,e,λR H' v le S' r=>?_⟩;cases r;exact k H'
def walk{l:PySem.W.OpenLaw}{K:Params->Fg}(hn:l.most=some 63)(G:d.params.defaults=[])(hY:∀(w:World) (h:Heap),YP w h->(K w.params).In h)(F:∀(w:World) (mg:Zs) (U:Addr) (h:Heap),(K w.params).In h->h.Ns mainGlobals mg->mg d.name=some (.ref U) ->
 ∃R:FuncData,(∀(s:Shared) (u:Value),BindsTo s R ⟨[u],[]⟩ [("script",u)])/\∀Z:Heap,(K w.params).In Z->Z.Ns mainGlobals mg->Ha l.prog w (K w.params) mg Z CX0 170 U R ["script"] (aj6 (K w.params))) :
 PySem.W.WalkO q loose XP YP l.row.toRowW d [] (λf vs=>PySem.call f vs) :=
 L2.awa (n:=63) (k:=170) (x := "script") (CX:=λ_=>CX0) (sp:=λw=>aj6 (K w.params)) hn (by decide) G ⟨rfl,by decide,by decide⟩ hY F (λ_ _ a ns hl ho hS=>⟨a,ns,rfl,ho,hS,hl,λ_=>rfl⟩) λ_ _ _ _ _ z=>z
end Ck
namespace K36
open PySem L2
noncomputable def top(i:Nat):Stmt:=PySem.Challenge.pw_mapwright_k36_drawn_together.main.body.getD i (.Pass ⟨0,0,0,0⟩)
def sts:List Stmt:=[inClass (top 8) 0,inClass (top 8) 2,inClass (top 8) 2,inClass (top 8) 2,inClass (top 8) 2,inClass (top 8) 2,top 9,top 10,top 11,top 12,top 13,top 14,top 24,top 25,top 26,top 27,top 28,top 29,top 30,top 31,top 32,inClass (top 8) 2,top 16,top 18,top 19,top 20,top 21,top 22,top 33,top 34,top 35,top 36,top 37,top 38,top 39,top 40,top 41]
noncomputable def Ds:List Ck.Def:=[⟨"__init__", "Pattern.__init__",["self", "kinds", "doings", "table"],["self", "kinds", "doings", "table"]⟩,⟨"doings", "Pattern.doings",["self"],["self"]⟩,⟨"doings", "Pattern.doings",["self"],["self"]⟩,⟨"doings", "Pattern.doings",["self"],["self"]⟩,⟨"doings", "Pattern.doings",["self"],["self"]⟩,⟨"doings", "Pattern.doings",["self"],["self"]⟩,⟨"both_ways", "both_ways",["table", "one", "other"],["table", "one", "other"]⟩,⟨"meeting_pairs", "meeting_pairs",["doings", "pairs", "one", "ends", "other", "more"],["doings"]⟩,⟨"is_way_between", "is_way_between",["doings", "way", "start", "goal"],["doings", "way", "start", "goal"]⟩,⟨"check_doings", "check_doings",["kinds", "doings", "ends"],["kinds", "doings"]⟩,⟨"check_table", "check_table",["doings", "table", "pairs", "one", "other"],["doings", "table"]⟩,⟨"check_threes", "check_threes",["doings", "table", "pairs", "one", "other", "last", "ahead", "after"],["doings", "table"]⟩,⟨"_law_cell_at", "_law_cell_at",["script", "k"],["script", "k"]⟩,⟨"_law_state", "_law_state",["script", "k", "cell"],["script", "k"]⟩,⟨"_law_take", "_law_take",["state", "many", "found", "mixed"],["state", "many"]⟩,⟨"_law_begun", "_law_begun",["state", "way", "graph", "loops", "swap", "known", "kinds", "sizes", "found", "k", "one", "other"],["state"]⟩,⟨"_law_closed", "_law_closed",["begun", "found", "one", "other", "row", "k", "j", "first", "second", "more"],["begun"]⟩,⟨"_law_pattern", "_law_pattern",["state", "begun", "closed", "kinds", "table", "j", "k", "more"],["state"]⟩,⟨"_law_ways", "_law_ways",["pat", "kind"],["pat", "kind"]⟩,⟨"_law_end", "_law_end",["pat", "kind", "way"],["pat", "kind", "way"]⟩,⟨"_law_behind", "_law_behind",["pat", "one", "other"],["pat", "one", "other"]⟩,⟨"doings", "Pattern.doings",["self"],["self"]⟩,⟨"numbered", "numbered",["row", "numbers", "number", "some"],["row"]⟩,⟨"image", "image",["some"],["some"]⟩,⟨"drawn", "drawn",["pattern", "world", "pairs", "leasts", "firsts", "onto", "acts", "act", "ends", "sizes"],["pattern", "world", "pairs"]⟩,⟨"renamed", "renamed",["row", "names"],["row", "names"]⟩,⟨"least_rows", "least_rows",["pattern", "world", "pairs", "rows", "ahead", "pair", "kind", "found"],["pattern", "world", "pairs"]⟩,⟨"led_pairs", "led_pairs",["pattern", "world", "pair", "told", "act", "ends"],["pattern", "world", "pair"]⟩,⟨"_law_merged", "_law_merged",["pat", "marks", "acts", "changed", "k", "one", "other", "first", "thing", "mark", "end", "low", "high"],["pat", "marks", "acts"]⟩,⟨"_law_world", "_law_world",["state", "pat", "most", "rows", "number", "kind", "some", "end", "way", "acts", "k", "one", "other", "marks", "low", "high", "heads", "told", "row"],["state", "pat", "most"]⟩,⟨"_law_led", "_law_led",["world", "thing", "way"],["world", "thing", "way"]⟩,⟨"_law_same", "_law_same",["found", "due"],["found", "due"]⟩,⟨"_law_pairs_by", "_law_pairs_by",["state", "pat", "world", "most", "pairs", "turn", "kind", "one"],["state", "pat", "world", "most"]⟩,⟨"_law_heads", "_law_heads",["pat", "world", "pairs", "heads", "changed", "before", "kind", "one", "other", "way", "end", "some"],["pat", "world", "pairs"]⟩,⟨"_law_drawn", "_law_drawn",["pat", "world", "pairs", "heads", "firsts", "acts", "k", "one", "other", "ends", "some", "row", "first"],["pat", "world", "pairs"]⟩,⟨"_law_in_turn", "_law_in_turn",["state", "pat", "pattern", "world", "pairs", "fresh", "some", "more", "later"],["state", "pat", "pattern", "world", "pairs"]⟩,⟨"law", "law",["script", "state", "pat", "pattern", "worlds", "rows", "turn", "world", "pairs", "handed", "found", "stays"],["script"]⟩]
noncomputable def tab:Ck.Tab:=⟨[none,none,none,none,none,none,(some ("both_ways",3):Y2),(some ("meeting_pairs",1):Y2),(some ("is_way_between",4):Y2),(some ("check_doings",2):Y2),(some ("check_table",2):Y2),(some ("check_threes",2):Y2),(some ("_law_cell_at",2):Y2),(some ("_law_state",2):Y2),(some ("_law_take",2):Y2),(some ("_law_begun",1):Y2),(some ("_law_closed",1):Y2),(some ("_law_pattern",1):Y2),(some ("_law_ways",2):Y2),(some ("_law_end",3):Y2),(some ("_law_behind",3):Y2),none,(some ("numbered",1):Y2),(some ("image",1):Y2),(some ("drawn",3):Y2),(some ("renamed",2):Y2),(some ("least_rows",3):Y2),(some ("led_pairs",3):Y2),(some ("_law_merged",3):Y2),(some ("_law_world",3):Y2),(some ("_law_led",3):Y2),(some ("_law_same",2):Y2),(some ("_law_pairs_by",4):Y2),(some ("_law_heads",3):Y2),(some ("_law_drawn",3):Y2),(some ("_law_in_turn",5):Y2),(some ("law",1):Y2)],[none,none,some ("Pattern",3)],[("doings",0)],["together", "doing_ends", "kind_count"],[("STAYING",-1),("MOST_KINDS",3),("MOST_DOINGS",5)]⟩
noncomputable def mcs:List (Nat×Nat):=[(2,2)]
def chk:Ck.ax1 tab prog.fns Ds sts=true:=by decide+kernel
def bho:Ck.arb tab.Q8=true:=by decide+kernel
def bhp:Ck.tfB prog.fns tab.fns=true:=by decide+kernel
def bhq:Ck.tcB prog tab.cls=true:=by decide+kernel
def bhr:Ck.tmB prog tab mcs=true:=by decide+kernel
open MW
noncomputable def Dj(Z:List F)(k i:Nat):Bool:=match Z[i]? with|some f=>decide (f.a=k)|none=>false
def uq(Z:List F)(k:Nat):List D:=.int (-1)::((List.range Z.length).filter (Dj Z k)).map nD
def Dk(h:d∈uq Z k):d=.int (-1)\/∃(i:Nat)(f:F),d=.int i/\Z[i]?=some f/\f.a=k:=by
 rcases cj.mp h with q|q
 .exact .inl q
 .obtain⟨i,hi,rfl⟩:=bc.mp q
  obtain⟨R,U⟩:=ur.mp hi;have G:=fc.mp R;have e:Z[i]?=some Z[i]:=by simp[G]
  rw[Dj,e] at U;exact .inr ⟨i,Z[i],rfl,e,by simpa using U⟩
def arh(h:d∈uq Z k):∃i:Int,d=.int i:=by rcases Dk h with rfl|⟨i,f,rfl,_⟩<;>exact⟨_,rfl⟩
def ae7(G:Z.length<=5):(uq Z k).length<=6:=by have:=wu (Dj Z k) (List.range Z.length);simp at this;simp[uq];exact a_ this G
def Bw(K r:Nat)(Z:List F):D:=.tup [.int K,Hr Z,.ref r]
abbrev sP(K r:Nat)(hs:List F):Option D:=some (Bw K r hs)
def S8(K r:Nat)(Z:List F)(M:dh):zg (Bw K r Z) (.int 0) M=some (.int K):=rfl
def Mr(K r:Nat)(Z:List F)(M:dh):zg (Bw K r Z) (.int 1) M=some (Hr Z):=rfl
def az1(K r:Nat)(Z:List F)(M:dh):zg (Bw K r Z) (.int 2) M=some (.ref r):=rfl
def Made.keep(h:Made n r K Z G M)(k:yd M M'):Made n r K Z G M':=⟨k _ _ h.1,k _ _ h.2⟩
def Made.f2(h:Made n r K Z G M):Rk (.ref n) 2 M=some (.int K):=by simp[Rk,h.1,List.lookup]
def Made.f1(h:Made n r K Z G M):Rk (.ref n) 1 M=some (Hr Z):=by simp[Rk,h.1,List.lookup]
def Made.f0(h:Made n r K Z G M):Rk (.ref n) 0 M=some (.ref r):=by simp[Rk,h.1,List.lookup]
def al9(Z:1<=m)(h:Made n r K G U M):prog.call m 2 [.ref n] M=.ok (Hr G) M:=by rw[call_of Z rfl];simp[Fn.run,Ah,Km,h.f1]
def ae8(hm:1<=m)(R:Z.length<=5){k:Nat}:prog.call m 18 [Bw K r Z,.int k] M=.ok (.vl (uq Z k)) M:=by
 rw[call_of hm rfl];have U:J8.den (PW (m-1)) [sP K r Z,sI k] M=.ok (.vl (((List.range Z.length).filter (Dj Z k)).map nD)) M:=by
  unfold J8;rw[Wu (n:=Z.length) (M1:=M) (q:=Dj Z k) (g:=nD) (by simp[Mr,Ow]) (a_ R (by decide)) (λi G=>by
   have e:Z[i]?=some Z[i]:=by simp[G]
   refine⟨_,rfl,?_,λ_=>?_⟩
   .simp[-eq_int,Mr,R9 e,U8,Bt,Dj,G]
   .simp[nD])]
  simp
 have:=Yz (M:=M) [.int (-1)] (((List.range Z.length).filter (Dj Z k)).map nD) (by
  have:=wu (Dj Z k) (List.range Z.length);simp at this ⊢
  lia)
 simp[Fn.run,U3,U0,U,this,uq]
def ax4(Z:1<=m){k i:Nat}(G:R[i]?=some f):prog.call m 19 [Bw K r R,.int k,.int i] M=.ok (.int f.b) M:=by
 rw[call_of Z rfl];have U:¬((i:Int)<0):=by lia
 simp[Fn.run,Qx,Qw,U,Mr,R9 G,W2]
def ama(Z:1<=m){k:Nat}:prog.call m 19 [Bw K r G,.int k,.int (-1)] M=.ok (.int k) M:=by rw[call_of Z rfl];simp[Fn.run,Qx,Qw]
def ahm(hm:1<=m)(hr:M[R]?=some (.dT ik))(hx:-1<=x)(hy:-1<=y)(Z:bothW hs ik x y=some v):prog.call m 20 [Bw K R hs,.int x,.int y] M=.ok v M:=by
 rw[call_of hm rfl];unfold bothW at Z
 by_cases U:x=-1
 .rw[dg U] at Z;cases Z
  subst U;have:(-1:Int)+y+1=y:=by lia
  simp[Fn.run,Gm,Gk,this]
 .rw[bx U] at Z
  have nx:¬x<0:=by lia
  by_cases G:y=-1
  .rw[dg G] at Z;cases Z
   subst G;have:x+(-1:Int)+1=x:=by lia
   simp[Fn.run,Gm,Gk,nx,this]
  .rw[bx G] at Z
   have ny:¬y<0:=by lia
   simp[Fn.run,Gm,Gk,nx,ny,az1,acz hr (Y0 x y),Z]
end K36
namespace MW
end MW
namespace K36
open MW
noncomputable def zj(Z:List F)(k:Nat):D->Nat
 |.int i=>if i=-1 then k else match Z[i.toNat]? with|some f=>f.b|none=>0
 |_=>0
def wT(Z:List F)(k g:Nat):List D:=(uq Z k).filter λd=>decide (zj Z k d=g)
def ahn(h:d∈wT Z k g):d∈uq Z k/\zj Z k d=g:=by have:=ur.mp h;exact⟨this.1,by simpa using this.2⟩
def Dr{i:Nat}(h:Z[i]?=some f):zj Z k (.int i)=f.b:=by
 have:¬((i:Int)=-1):=by lia
 simp[zj,this,h]
def ab2{i:Nat}(h:Z[i]?=some f)(e:f.a=k):.int i∈uq Z k:=by refine bh _ (bc.mpr ⟨i,ur.mpr ⟨fc.mpr (ak.mp h).1,?_⟩,rfl⟩);simp[Dj,h,e]
def az2{i:Nat}(h:Z[i]?=some f)(e:f.a=k):.int i∈wT Z k f.b :=
 ur.mpr ⟨ab2 h e,by simp[Dr h]⟩
def a5j(h:d∈wT Z k g):∃i:Int,d=.int i:=arh (ahn h).1
def bv(Z:List F)(G:List (List Kx×D))(j:Nat):D->Int
 |.int x=>match bothW Z G x j with|some (.int v)=>v|_=>0
 |_=>0
def ax5(P:Ef sz K Z G){j:Nat}(hj:Z[j]?=some f)(hd:d∈wT Z k f.a) :
 ∃x:Int,d=.int x/\-1<=x/\bothW Z G x j=some (.int (bv Z G j d))/\.int (bv Z G j d)∈wT Z k f.b:=by
 obtain⟨h1,U⟩:=ahn hd;have nj:¬((j:Int)=-1):=by lia
 rcases Dk h1 with rfl|⟨i,g,rfl,hg,e⟩
 .have e:k=f.a:=by simpa[zj] using U
  have:bothW Z G (-1) j=some (.int j):=by simp[bothW]
  refine⟨-1,rfl,by lia,by simp[bv,this],?_⟩;simp only[bv,this];exact az2 hj e.symm
 .rw[Dr hg] at U
  have ni:¬((i:Int)=-1):=by lia
  have:bothW Z G i j=some (.int (ent Z g f)):=by rw[bothW,bx ni,bx nj];exact P.look hg hj U
  refine⟨i,rfl,by lia,by simp[bv,this],?_⟩;simp only[bv,this];have mg:=ao hg;have mf:=ao hj;rw[Lj];rcases P.Eb (P.cl g mg f mf U) with⟨R,i1⟩|⟨u,hu,R⟩
  .rw[R]
   refine ur.mpr ⟨by simp[uq],?_⟩;have:g.a=f.b:=i1.1;simp[zj,<- e,this]
  .rw[R]
   exact az2 (f:=g.comp f) hu e
noncomputable def ixI(v:Int)(Z:List D):Nat:=(Z.findIdx? λd=>match d with|.int i=>decide (i=v)|_=>false).getD 0
theorem ae9(M:dh)(v:Int):∀Z:List D,(∀d∈Z,∃i:Int,d=.int i)->Qt M (.int v) Z=some (Z.map λd=>match d with|.int i=>decide (i=v)|_=>false)
 |[],_=>rfl
 |d::l,h=>by
  obtain⟨i,rfl⟩:=h d (by simp);simp[Qt,ae9 M v l (λx G=>h x (bh _ G))]
theorem afa{Z:Type}(f:Z->Bool):∀l:List Z,(l.map f).findIdx? id=l.findIdx? f
 |[]=>rfl|a::l=>by simp[List.findIdx?_cons,afa f l]
def afb(Z:∀d∈ds,∃i:Int,d=.int i)(h:.int v∈ds):K8 .index (.vl ds) [.int v] M=.ok (.int (ixI v ds)) M:=by
 have e:acu M (.int v) ds=some (ixI v ds):=by
  rw[acu,ae9 M v ds Z,qp,afa];unfold ixI;cases q:ds.findIdx? (λd=>match d with|.int i=>decide (i=v)|_=>false) with
  |some j=>rfl
  |none =>
   rw[wg] at q;have:=q _ h;simp at this
 simp[K8,onL,onK,e]
end K36
namespace K36
open MW
def afc(Z:1<=m)(U:d∈uq G k):prog.call m 19 [Bw K r G,.int k,d] M=.ok (.int (zj G k d)) M:=by
 rcases Dk U with rfl|⟨i,f,rfl,hf,_⟩
 .rw[ama Z];simp[zj]
 .rw[ax4 Z hf,Dr hf]
def RS(p K:Nat)(Z:Nat->List D)(M:dh):Prop:=∀i,i<K->M[p+i]?=some (.lst (Z i))
noncomputable def uf(p K:Nat):List D:=(List.range K).map λi=>.ref (p+i)
theorem RS.keep(h:RS p K rs M)(s:St t f M M')(Z:t<p):RS p K rs M':=λi G=>s.keep _ _ (i_ (b_ Z x_)) (h i G)
def ab3(Z:i<K):zg (.vl (uf p K)) (.int i) M=some (.ref (p+i)):=Dc rfl q_ (by simp[uf,Z])
def ari(hy:y=ρ.length)(R:e.den W ρ M=.ok (.int K) M)(hK:K<=100000) :
 (Ex.comp true 1 (.name y) (.Qc e) (.lst .nil)).den W ρ M=.ok (.vl (uf M.length K)) (M++List.replicate K (.lst [])):=by
 subst hy;obtain⟨ys,Z,g,h1,U⟩:=aau (v:=true) (k:=1) (t:=.name ρ.length) (e:=.lst .nil) R hK (λi G Z=>G=uf M.length i/\Z=M++List.replicate i (.lst [])) ⟨rfl,by simp⟩
  (λi G Z hi hI=>by
   obtain⟨rfl,rfl⟩:=hI;refine⟨_,.ref (M.length+i),M++List.replicate i (MO.lst [])++[MO.lst []],rfl,by simp[MW.new],?_,?_⟩
   .simp[uf,rm]
   .simp[List.replicate_succ'])
 rw[g,h1,U];rfl
def rowsOf(Z:List F)(G:List (Nat×Nat))(e:Nat):List D:=G.flatMap λp=>(wT Z p.2 e).map λw=>.tup [.int p.1,.int p.2,w]
def Xx(Z:List F)(G:List (Nat×Nat))(p:Nat×Nat)(e:Nat):rowsOf Z (G++[p]) e=rowsOf Z G e++(wT Z p.2 e).map λw=>.tup [.int p.1,.int p.2,w]:=by simp[rowsOf]
def ax6(P:Ef sz K Z R)(U:k<K)(G:d∈uq Z k):zj Z k d<K:=by
 rcases Dk G with rfl|⟨i,f,rfl,hf,_⟩
 .simpa[zj] using U
 .rw[Dr hf];exact P.Li f (ao hf)
def ax7{k:Nat}(R:1<=m)(G:hs.length<=5)(U:ρ[1]?=some (sP K r hs))(h5:ρ[5]?=some (sI k))(Z:ρ.length=19) :
 Il.den (PW m) ρ M=.ok (.vl ((uq hs k).map λw=>.tup [.int (zj hs k w),w])) M:=by
 unfold Il;rw[wz (d:=.vl (uq hs k)) (ds:=uq hs k) (M1:=M) (g:=λw=>.tup [.int (zj hs k w),w]) (by simp[U,h5,ae8 R G]) rfl (iu (ae7 G) (by decide)) (λx hx=>by
  refine⟨_,rfl,?_⟩;have e1:(ρ++List.replicate 1 none).set 19 (some x)=ρ++[some x]:=by rw[Ag];simp[Z]
  rw[e1];have g1:(ρ++[some x])[1]?=some (sP K r hs):=by rw[dz (b_ (by decide) (g_ Z))];exact U
  have g5:(ρ++[some x])[5]?=some (sI k):=by rw[dz (b_ (by decide) (g_ Z))];exact h5
  have g9:(ρ++[some x])[19]?=some (some x):=by rw[<- Z];simp
  simp[g1,g5,g9,afc R hx])]
 rfl
def Rb(p:Nat)(M Z:dh):Prop:=∀(a:Nat)(o:MO),a<p->M[a]?=some o->Z[a]?=some o
def Rb.refl(p:Nat)(M:dh):Rb p M M:=λ_ _ _ h=>h
def Rb.trans(a:Rb p M Z)(b:Rb p Z M2):Rb p M M2:=λx o h e=>b x o h (a x o h e)
theorem Rb.set(h:p<=q):Rb p M (M.set q o):=λa u Z e=>by rw[o7 (i_ (b_ Z h))];exact e
noncomputable def Z4(n k:Nat)(w:D):D:=.tup [.int n,.int k,w]
def az3(n k:Nat)(w:D):D.tup [.int n,.int k,w]=Z4 n k w:=rfl
def ab4(Z:List F)(G:Nat->List D)(n k j:Nat)(e:Nat):List D:=G e++(((uq Z k).take j).filter λw=>decide (zj Z k w=e)).map (Z4 n k)
def arj(Z:List F)(G:Nat->List D)(n k e:Nat):ab4 Z G n k (uq Z k).length e=G e++(wT Z k e).map (Z4 n k):=by unfold ab4 wT;rw[zr]
def ark(G:Z.length<=5)(h7:(rs e).length<=7):(ab4 Z rs n k j e).length<=13:=by
 have h1:=wu (λw=>decide (zj Z k w=e)) ((uq Z k).take j);have U:=ae7 (k:=k) G;have R:((uq Z k).take j).length<=(uq Z k).length:=by simp;lia
 simp only[ab4,uy,cz]
 lia
def aag{n:Nat}(P:Ef sz K Z ik)(hk:k<K)(h:RS p K rs M)(h7:∀e,e<K->(rs e).length<=7)(hr:rest.length=10) :
 ∃b7 R G,Ob.den W ([a0,a1,a2,some (.vl (uf p K)),sI n,sI k,some (.vl ((uq Z k).map λw=>.tup [.int (zj Z k w),w])),b7',b8']++rest) M
  = .ok (.next,[a0,a1,a2,some (.vl (uf p K)),sI n,sI k,some (.vl ((uq Z k).map λw=>.tup [.int (zj Z k w),w])),b7,R]++rest) G/\RS p K (λe=>rs e++(wT Z k e).map (Z4 n k)) G/\Rb p M G/\G.length=M.length:=by
 have hl:=P.len;obtain⟨qk,G,e,⟨c7,c8,rfl⟩,r1,r2,r3⟩:=Ek (W:=W) (t:=.names [7,8]) (b:=Ep) (it:=.v 6) (d:=.vl ((uq Z k).map λw=>.tup [.int (zj Z k w),w])) (ds:=(uq Z k).map λw=>.tup [.int (zj Z k w),w])
  (ρ:=[a0,a1,a2,some (.vl (uf p K)),sI n,sI k,some (.vl ((uq Z k).map λw=>.tup [.int (zj Z k w),w])),b7',b8']++rest) (M:=M) (M1:=M) (by simp) rfl
  (λj ρ G=>(∃b7 R:Option D,ρ=[a0,a1,a2,some (.vl (uf p K)),sI n,sI k,some (.vl ((uq Z k).map λw=>.tup [.int (zj Z k w),w])),b7,R]++rest)/\RS p K (ab4 Z rs n k j) G/\Rb p M G/\G.length=M.length)
  ⟨⟨b7',b8',rfl⟩,λi U=>by rw[h i U];simp[ab4],Rb.refl _ _,rfl⟩ (λ_ _ _ _=>rfl)
  (λj x ρ M1 hx hI=>by
   obtain⟨⟨c7,c8,rfl⟩,q1,q2,q3⟩:=hI;obtain⟨w,hw,rfl⟩:∃w,(uq Z k)[j]?=some w/\D.tup [.int (zj Z k w),w]=x:=by simpa using hx
   have qq:=ao hw;have he:=ax6 P hk qq;have g:=q1 _ he;have ap:=Dm (d:=Z4 n k w) g (by have:=ark (n:=n) (k:=k) (j:=j) hl (h7 _ he);exact c_ this (by decide));refine⟨_,.next,_,M1.set (p+zj Z k w) (.lst (ab4 Z rs n k j (zj Z k w)++[Z4 n k w])),Ox _ _ _ _ _,?_,.inl rfl,⟨some (.int (zj Z k w)),some w,rfl⟩,?_,q2.trans (Rb.set x_),by simp[q3]⟩
   .show Ep.den W (a0::a1::a2::some (.vl (uf p K))::some (.int n)::some (.int k)::some (.vl ((uq Z k).map λw=>.tup [.int (zj Z k w),w]))::some (.int (zj Z k w))::some w::rest) M1=_
    simp[Ep,ab3 he,Ea g,az3,ap]
   .intro i U
    have e1:(uq Z k).take (j+1)=(uq Z k).take j++[w]:=by rw[List.take_succ,hw];rfl
    by_cases z:i=zj Z k w
    .subst z
     rw[vo g];simp[ab4,e1,List.filter_append]
    .rw[o7 (by lia),q1 i U]
     simp[ab4,e1,List.filter_append,j0 z])
 refine⟨c7,c8,G,e,λi U=>?_,r2,r3⟩;rw[r1 i U];simp only[cz];rw[arj]
structure Gs(t:Nat)(f:Bool)(p:Nat)(M M':dh):Prop where
 has:Q0 t f M'
 low:∀(a:Nat)(o:MO),a<p->a≠t->M[a]?=some o->M'[a]?=some o
 len:M.length<=M'.length
def Gs.trans(a:Gs t f p M Z)(b:Gs t f p Z M2):Gs t f p M M2:=⟨b.has,λx o h n e=>b.low x o h n (a.low x o h n e),iu a.len b.len⟩
def Gs.afd(s:St t f M M1):Gs t f p M M1:=⟨s.has,λa o _ n e=>s.keep a o n e,s.len⟩
def Rb.has(h:Q0 t f M)(l:Rb p M M1)(Z:t<p):Q0 t f M1:=by obtain⟨n,e,o⟩:=h;exact⟨n,l _ _ Z e,o⟩
def Gs.arl(h:Q0 t f M)(l:Rb p M M1)(Z:t<p)(G:M.length<=M1.length):Gs t f p M M1:=⟨l.has h Z,λa o x _ e=>l a o x e,G⟩
def Gs.refl(h:Q0 t f M):Gs t f p M M:=⟨h,λ_ _ _ _ e=>e,bw _⟩
def Gs.st(g:Gs t f M.length M M1):St t f M M1:=⟨g.len,g.has,λa o n e=>g.low a o (vh e) n e⟩
def Gs.app(h:Q0 t f M)(Z:p<=M.length)(X:dh):Gs t f p M (M++X):=⟨by obtain⟨n,e,o⟩:=h;exact⟨n,qu e,o⟩,λa o _ _ e=>qu e,by simp⟩
def ax8(hy:ρ.length=y)(G:ρ[3]?=some (some (.vl (uf p K))))(h:RS p K rs M)(U:K<=3) :
 (Ex.comp true 1 (.name y) (.val (.v 3)) (.blt .len (.o (.var y)))).den W ρ M=.ok (.vl (((List.range K).map λi=>(rs i).length).map nD)) M:=by
 subst hy;rw[wz (d:=.vl (uf p K)) (ds:=uf p K) (M1:=M) (g:=λd=>match o8 .len [d] M with|.ok x _=>x|_=>.non) (by simp[G]) rfl (by simp[uf];exact a_ U (by decide)) (λd R=>by
  refine hG λ_ _k=>?_
  obtain⟨i,Z,rfl⟩:=bc.mp R;apply _k;refine⟨_,rfl,?_⟩;simp[len_list (jx (h i (fc.mp Z)))])]
 simp only[ji,uf,o4]
 congr 2
 apply jc;intro i Z;simp[len_list (jx (h i (fc.mp Z))),nD]
structure Rw(hs:List F)(K p:Nat)(ad:List (Nat×Nat))(M:dh):Prop where
 rs:RS p K (rowsOf hs ad) M
 kd:∀q∈ad,q.2<K
 le:∀e,e<K->(rowsOf hs ad e).length<=7
 nd:(ad.map (·.1)).Nodup
def ax9(hm:1<=m)(P:Ef sz K Z ik)(hh:Q0 t f M)(ht:t<p)(h:Rw Z K p ad M)(hn:∀q∈ad,q.1<n)(hr:rest.length=10) :
 ∃c5 c6 c7 U qq M',Di.den (PW m) ([sR t,sP K r Z,sI 4,some (.vl (uf p K)),sI n,b5,b6,b7,b8]++rest) M
  = .ok (.next,[sR t,sP K r Z,sI 4,some (.vl (uf p K)),sI n,c5,c6,c7,U]++rest) M'/\Rw Z K p qq M'/\(∀q∈qq,q.1<n+1)/\Gs t f p M M'/\M'.length=M.length:=by
 refine hG λ_ _k=>?_
 have hl:=P.len;have h3:=P.k3;obtain⟨k,M1,e1,l1,s1,n1⟩:=Bb (many:=K) hm hh (by have:=P.k1;exact m_ this) (m_ (c_ h3 (by decide)));have hk:k<K:=o_ l1
 have r1:=h.rs.keep s1 ht;have c9:=ax7 (M:=M1) (r:=r) (K:=K) (hs:=Z) (ρ:=[sR t,sP K r Z,sI 4,some (.vl (uf p K)),sI n,sI k,b6,b7,b8]++rest) (k:=k) hm hl rfl rfl (by simp[hr]);have U:=ax8 (W:=PW m) (M:=M1) (ρ:=[sR t,sP K r Z,sI 4,some (.vl (uf p K)),sI n,sI k,some (.vl ((uq Z k).map λw=>.tup [.int (zj Z k w),w])),b7,b8]++rest) (y:=19) (by simp[hr]) rfl r1 h3;obtain⟨v,e3,v1,v2⟩:=aox (M:=M1) (xs:=(List.range K).map λi=>(rowsOf Z ad i).length) (by have:=P.k1;intro z;have:=ud List.length z;simp at this;exact l_ (o_ l1) (a_ (f_ this) (iz _)));generalize hL:(D.vl (((List.range K).map λi=>(rowsOf Z ad i).length).map nD))=L at e3 U;have G:o8 .len [.vl ((uq Z k).map λw=>D.tup [.int (zj Z k w),w])] M1=.ok (.int (uq Z k).length) M1:=by simp[o8,T4]
 apply _k
 by_cases q:v+(uq Z k).length<8
 .refine hG λ_ _k=>?_
  have q':(v:Int)+((uq Z k).length:Int)<8:=by lia
  obtain⟨d7,d8,M2,e4,r2,lo,n2⟩:=aag (W:=PW m) (M:=M1) P (n:=n) hk r1 h.le (a0:=some (.ref t)) (a1:=some (Bw K r Z)) (a2:=some (.int 4)) (b7':=b7) (b8':=b8) (rest:=rest) hr;apply _k;refine⟨some (.int k),some (.vl ((uq Z k).map λw=>D.tup [.int (zj Z k w),w])),d7,d8,ad++[(n,k)],M2,?_,⟨λi hi=>?_,λq R=>?_,λe he=>?_,?_⟩,λq R=>?_,(Gs.afd s1).trans (Gs.arl s1.has lo ht (g_ n2)),n2.trans n1⟩
  .simp only[zm,Af] at c9 U e4 ⊢
   simp[Di,S8,e1,c9,Ik,U,e3,G,q',e4]
  .rw[r2 i hi,Xx];rfl
  .rcases dw.mp R with z|z
   .exact h.kd q z
   .have:q=(n,k):=by simpa using z
    rw[this];exact hk
  .rw[Xx,uy,cz]
   have a1:=v1 (rowsOf Z ad e).length (bc.mpr ⟨e,fc.mpr he,rfl⟩);have a2:(wT Z k e).length<=(uq Z k).length:=wu _ _
   simp only
   lia
  .rw[j4]
   refine yr.mpr ⟨h.nd,by simp,λa ha b hb=>?_⟩;refine hG λ_ _k=>?_
   obtain⟨q,R,rfl⟩:=bc.mp ha;have:b=n:=by simpa using hb
   have:=hn q R;apply _k
   lia
  .rcases dw.mp R with z|z
   .have:=hn q z;exact A_ (e_ this)
   .have:q=(n,k):=by simpa using z
    rw[this];exact qm n
 .have q':¬(v:Int)+((uq Z k).length:Int)<8:=by lia
  refine⟨some (.int k),some (.vl ((uq Z k).map λw=>D.tup [.int (zj Z k w),w])),b7,b8,ad,M1,?_,⟨r1,h.kd,h.le,h.nd⟩,λq R=>by have:=hn q R;exact A_ (e_ this),Gs.afd s1,n1⟩;simp only[zm,Af] at c9 U ⊢;simp[Di,S8,e1,c9,Ik,U,e3,G,q']
theorem aj7{M:dh}{x:D}:∀{G:List D},(∀y∈G,∃b,yf M y x=some b)->∃bs:List Bool,Qt M x G=some bs/\bs.length=G.length/\∀(i:Nat)(y:D),G[i]?=some y->(bs[i]?).map some=some (yf M y x)
 |[],_=>⟨[],rfl,rfl,λi y h=>by simp at h⟩
 |y::l,h=>by
  obtain⟨b,U⟩:=h y (by simp);obtain⟨bs,h1,R,h3⟩:=aj7 (λz Z=>h z (bh _ Z));refine⟨b::bs,by simp[Qt,U,h1],by simp[R],λi z Z=>?_⟩;cases i with
  |zero=>simp at Z;subst Z;simp[U]|succ i=>simpa using h3 i z (by simpa using Z)
def a5k(h:∀y∈ds,∃b,yf M y x=some b)(hx:x∈ds)(he:yf M x x=some true):∃j y,acu M x ds=some j/\ds[j]?=some y/\yf M y x=some true:=by
 obtain⟨bs,h1,U,R⟩:=aj7 h;obtain⟨i,hi,ei⟩:=pq hx;have h4:=R i x (by simp[hi,ei]);rw[he] at h4;obtain⟨b,e1,e2⟩:=dq.mp h4;cases e2;rw[acu,h1,qp];cases q:bs.findIdx? id with
 |some j =>
  obtain⟨G,g2,_⟩:=qj.mp q;have g3:ds[j]?=some (ds[j]'(b_ G (f_ U))):=bf (b_ G (f_ U));have Z:=R j _ g3;rw[bf G] at Z;simp only[m8,Ak] at Z;exact⟨j,_,rfl,g3,by rw[<- Z];simpa using g2⟩
 |none =>
  rw[wg] at q;have:=q true (ao e1);simp at this
def aya(hp:M[p]?=some (.lst ds))(h:∀y∈ds,∃b,yf M y x=some b)(Z:x∈ds)(U:yf M x x=some true):∃(j:Nat)(y:D),K8 .index (.ref p) [x] M=.ok (.int j) M/\ds[j]?=some y/\yf M y x=some true:=by obtain⟨j,y,h1,G,R⟩:=a5k h Z U;exact⟨j,y,by simp[K8,onL,onK,Kf (jx hp),h1],G,R⟩
def ayb(Z:M[p]?=some (.lst ds)):K7 .index (.ref p) M=true:=by simp[K7,jx Z]
def arn(M:dh)(n k U G:Nat)(a Z:Int):yf M (Z4 n k (.int a)) (Z4 U G (.int Z))=some (decide (n=U)&&(decide (k=G)&&(decide (a=Z)&&true))):=by show Qs (Jm M 5) [.int n,.int k,.int a] [.int U,.int G,.int Z]=_;rw[Df (Lf M 4 n U) (Df (Lf M 4 k G) (Df (aao 4 a Z) (show Qs (Jm M 5) [] []=some true from rfl)))]
def Jg(h:d∈rowsOf R ad e):∃(n k:Nat)(x:Int),(n,k)∈ad/\.int x∈wT R k e/\d=Z4 n k (.int x):=by obtain⟨q,U,G⟩:=List.mem_flatMap.mp h;obtain⟨w,Z,rfl⟩:=bc.mp G;obtain⟨x,rfl⟩:=a5j Z;exact⟨q.1,q.2,x,U,Z,rfl⟩
def amb(h:(n,k)∈ad)(Z:w∈wT G k e):Z4 n k w∈rowsOf G ad e :=
 List.mem_flatMap.mpr ⟨(n,k),h,bc.mpr ⟨w,Z,rfl⟩⟩
structure Ae(hs:List F)(ik:List (List Kx×D))(ad:List (Nat×Nat))(j:Nat)(g:F)(js:Y3):Prop where
 len:js.length=(rowsOf hs ad g.a).length
 go:∀(i n k:Nat)(x:Int),(rowsOf hs ad g.a)[i]?=some (Z4 n k (.int x))->(rowsOf hs ad g.b)[js.getD i 0]?=some (Z4 n k (.int (bv hs ik j (.int x))))
def aro(h:i<l.length):(l++[x]).getD i 0=l.getD i 0:=by rw[bz,dz h,bz]
def Ae.lt(h:Ae G ik ad j g js):∀x∈js,x<(rowsOf G ad g.b).length:=λx R=>by
 obtain⟨i,U,rfl⟩:=pq R;have Z:i<(rowsOf G ad g.a).length:=by rw[<- h.len];exact U
 obtain⟨n,k,y,_,_,e⟩:=Jg (nq Z);have:=h.go i n k y (by rw[bf Z,e]);rw[bz,bf U] at this;exact(ak.mp this).1
def a5l(hm:1<=m)(P:Ef sz K Z ik)(hr:M[r]?=some (.dT ik)){j:Nat}(h:Rw Z K p ad M)(hj:Z[j]?=some g)(qq:rest.length=6) :
 ∃js:List Nat,Ii.den (PW m) ([a0,sP K r Z,a2,some (.vl (uf p K)),a4,a5,a6,a7,a8,a9,sI j,sI g.a,sI g.b]++rest) M=.ok (.vl (js.map nD)) M /\
  Ae Z ik ad j g js:=by
 have hg:=ao hj;have ha:=P.R8 g hg;have hb:=P.Li g hg;have ga:=h.rs _ ha;have gb:=h.rs _ hb;unfold Ii;obtain⟨ys,R,e,hI⟩:=J7 (W:=PW m) (v:=true) (k:=3) (t:=.names [19,20,21]) (it:=.ix (.v 3) (.v 11)) (e:=.bm .index (.ix (.v 3) (.v 12)) (.o (.tup (.q (.v 19) (.v 20) (.call 20 (.q (.v 1) (.v 21) (.v 10)))))))
  (ρ:=[a0,sP K r Z,a2,some (.vl (uf p K)),a4,a5,a6,a7,a8,a9,sI j,sI g.a,sI g.b]++rest) (M:=M) (M1:=M) (d:=.ref (p+g.a)) (ds:=rowsOf Z ad g.a) (by simp[ab3 ha]) (jx ga) (by have:=h.le _ ha;exact a_ this (by decide))
  (λi xs R=>R=M/\∃js:List Nat,xs=js.map nD/\js.length=i/\∀(U n k:Nat)(x:Int),U<i->(rowsOf Z ad g.a)[U]?=some (Z4 n k (.int x))->(rowsOf Z ad g.b)[js.getD U 0]?=some (Z4 n k (.int (bv Z ik j (.int x))))) ⟨rfl,[],rfl,rfl,by simp⟩ (λi xs R h=>by rw[h.1];exact jx ga)
  (λi y xs R hy hI=>by
   obtain⟨rfl,js,rfl,q1,q2⟩:=hI;obtain⟨n,k,x,h1,h2,rfl⟩:=Jg (ao hy);obtain⟨x',z,hx,hv,Tu⟩:=ax5 P hj h2;cases z;obtain⟨jj,yy,e1,e2,e3⟩:=aya (x:=Z4 n k (.int (bv Z ik j (.int x)))) gb (λy hy=>by obtain⟨n',k',qv,_,_,rfl⟩:=Jg hy;exact⟨_,arn _ _ _ _ _ _ _⟩) (amb h1 Tu) (by rw[arn];simp);refine⟨_,.int jj,R,rfl,?_,rfl,js++[jj],by simp[nD],by simp[q1],λU n' k' x' qk G=>?_⟩
   .have hl:rest.length=6:=qq
    match rest,hl with
    |[r0,r1,r2,r3,r4,r5],_ =>
     show(Ex.bm .index (.ix (.v 3) (.v 12)) (.o (.tup (.q (.v 19) (.v 20) (.call 20 (.q (.v 1) (.v 21) (.v 10))))))).den _ [a0,sP K r Z,a2,D.vl (uf p K),a4,a5,a6,a7,a8,a9,sI j,sI g.a,sI g.b,r0,r1,r2,r3,r4,r5,sI n,sI k,sI x] R=_;simp[ab3 hb,ayb gb,ahm hm hr hx (show(-1:Int)<=j by lia) hv,az3,e1]
   .by_cases z:U<i
    .rw[aro (b_ z (g_ q1))];exact q2 U n' k' x' z G
    .have z:U=i:=u_ (z_ qk) (s_ z)
     subst z;rw[hy] at G;simp only[Z4,Ak,D.tup.injEq,List.cons.injEq,D.int.injEq,Bf,and_true] at G;obtain⟨rfl,rfl,rfl⟩:=G;have ej:(js++[jj]).getD U 0=jj:=by rw[<- q1];simp[bz]
     rw[ej,e2];obtain⟨n3,k3,x3,_,_,rfl⟩:=Jg (ao e2);rw[arn] at e3;simp only[Ak,aq,dm,and_true] at e3;obtain⟨rfl,rfl,rfl⟩:=e3;rfl)
 obtain⟨rfl,js,rfl,q1,q2⟩:=hI;exact⟨js,by rw[e];rfl,q1,λi n k x h=>q2 i n k x (ak.mp h).1 h⟩
noncomputable def up(G:Nat->List Nat)(i:Nat)(Z:Y3):Nat->List Nat:=λe=>if e=i then Z else G e
noncomputable def Dd(G Z:Nat)(l:Y3):List Nat:=l.map λo=>if o=Z then G else o
theorem aj8{G Z:Nat}(h:G<Z):∀l:List Nat,(Dd G Z l).sum<=l.sum
 |[]=>bw _
 |a::l=>by
  have:=aj8 h l;simp only[Dd,ig,List.sum_cons] at this ⊢;split<;>omega
theorem ab5{G Z:Nat}(h:G<Z):∀{l:Y3},Z∈l->(Dd G Z l).sum<l.sum
 |a::l,hm=>by
  have U:=aj8 h l;simp only[Dd,ig,List.sum_cons] at U ⊢
  by_cases z:a=Z
  .rw[dg z];exact b_ (G_ h) (a_ (v_ (g_ z)) (w_ U))
  .have:=ab5 h (show Z∈l from by simpa[j0 z] using hm)
   simp only[Dd] at this;rw[bx z];exact H_ this
noncomputable def K1(K:Nat)(Z:Nat->List Nat):Nat:=((List.range K).map λi=>(Z i).sum).sum
theorem aho{Z:Nat->List Nat}{b:Nat}{ns:Y3}(h:ns.sum<(Z b).sum):∀K,K1 K (up Z b ns)<=K1 K Z/\(b<K->K1 K (up Z b ns)<K1 K Z)
 |0=>⟨bw _,λz=>absurd z (rz _)⟩
 |K+1=>by
  obtain⟨G,U⟩:=aho h K;simp only[K1,rm,j4,List.sum_append,ig,List.map_nil,List.sum_cons,List.sum_nil] at G U ⊢
  by_cases z:K=b
  .subst z
   have e:up Z K ns K=ns:=by simp[up]
   rw[e];constructor
   .exact e_ (c_ (v_ G) (H_ (G_ h)))
   .intro _;exact c_ (v_ G) (H_ (G_ h))
  .have e:up Z b ns K=Z K:=by simp[up,z]
   rw[e];constructor
   .exact v_ G
   .intro q;have:=U (by lia);exact G_ this
structure Mk(t pm K:Nat)(L:Nat->Nat)(ms:Nat->List Nat)(M:dh):Prop where
 ex:∃Z5:List D,M[pm]?=some (.lst Z5)/\Z5.length=K/\∀i,i<K->∃d,Z5[i]?=some d/\du M d=some ((ms i).map nD)/\∀a,d=.ref a->t<a/\a<pm
 len:∀i,i<K->(ms i).length=L i
 lt:∀i,i<K->∀x∈ms i,x<L i
 fx:∀i,i<K->∀x∈ms i,(ms i).getD x 0=x
def Rc(h:du M d=some ds)(k:∀a o,d=.ref a->M[a]?=some o->Z[a]?=some o):du Z d=some ds:=by
 cases d with
 |ref a =>
  simp only[du] at h ⊢;cases e:M[a]? with
  |none=>rw[e] at h;cases h|some o=>rw[e] at h;rw[k a o rfl e];exact h
 |vl G=>exact h|_=>cases h
def Mk.frame(h:Mk t Z K L R M)(k:∀(a:Nat) (o:MO),t<a->a<=Z->M[a]?=some o->M'[a]?=some o)(ht:t<Z):Mk t Z K L R M':=by obtain⟨Z5,h1,U,h3⟩:=h.ex;refine⟨⟨Z5,k _ _ ht (bw _) h1,U,λi hi=>?_⟩,h.len,h.lt,h.fx⟩;obtain⟨d,g1,g2,G⟩:=h3 i hi;exact⟨d,g1,Rc g2 λa o e q=>k a o (G a e).1 (yj (G a e).2) q,G⟩
def Mk.row(h:Mk t U K L Z M)(hi:i<K):∃d,zg (.ref U) (.int i) M=some d/\du M d=some ((Z i).map nD):=by obtain⟨Z5,R,h2,G⟩:=h.ex;obtain⟨d,g1,g2,_⟩:=G i hi;exact⟨d,Dc (jx R) q_ (by simpa using g1),g2⟩
def Jh{l:Y3}(h:du M d=some (l.map nD))(Z:x<l.length):zg d (.int x) M=some (.int (l.getD x 0)) :=
 Dc h q_ (by simp[Z,nD])
def getD_mem'{l:Y3}(Z:x<l.length):l.getD x 0∈l:=by rw[bz,bf Z];exact nq Z
set_option tactic.hygienic true in
theorem Mk.set(h:Mk t G K L J M)(hi:i<K)(h1:ns.length=L i)(y:∀x∈ns,x<L i)(h4:∀x∈ns,ns.getD x 0=x)(ht:t<G) :
 ∃o,setOp (.ref G) (.int i) (.vl (ns.map nD)) M=some (M.set G o)/\Mk t G K L (up J i ns) (M.set G o):=by
 obtain⟨R,S,U,g3⟩:=h.ex;refine⟨.lst (R.set i (.vl (ns.map nD))),?_,⟨R.set i (.vl (ns.map nD)),vo S,by simp[U],λe Y=>?_⟩,λe Y=>?_,λe Y x Z=>?_,λe Y x Z=>?_⟩
 .have:=aap (d:=.vl (ns.map nD)) (i:=i) S q_ (m_ (b_ hi (g_ U)))
  simpa using this
 .by_cases z:e=i
  .subst z
   exact⟨.vl (ns.map nD),by simp[U,Y],by simp[up],λa q=>by cases q⟩
  .obtain⟨d,k1,u,C⟩:=g3 e Y
   refine⟨d,by rw[vf (j0 z)];exact k1,?_,C⟩;have:up J i ns e=J e:=by simp[up,z]
   rw[this];exact Rc u λa o q w=>by rw[o7 (by have:=(C a q).2;exact i_ this)];exact w
 .unfold up;split
  .rename_i z;rw[z];exact h1
  .exact h.len e Y
 .unfold up at Z;split at Z
  .rename_i z;rw[z];exact y x Z
  .exact h.lt e Y x Z
 .unfold up at Z ⊢;split at Z
  .rename_i z;rw[dg z];exact h4 x Z
  .rename_i z;rw[bx z];exact h.fx e Y x Z
def getD_map{α:Type}{l:Y3}{f:Nat->Nat}{x:Nat}(h:x<l.length):(l.map f).getD x 0=f (l.getD x 0):=by simp[bz,ie,bf h]
set_option tactic.hygienic true in
def aj9(U:∀x∈l,l.getD x 0=x)(lt:∀x∈l,x<l.length)(Z:lo∈l):∀x∈Dd lo G l,(Dd lo G l).getD x 0=x:=λx J=>by
 obtain⟨o,C,e⟩:=bc.mp J;have Y:x∈l:=by
  split at e
  .rw[<- e];exact Z
  .rw[<- e];exact C
 unfold Dd;rw[getD_map (α:=Nat) (lt x Y),U x Y]
 by_cases z:x=G
 .rw[dg z]
  split at e
  .exact e
  .rename_i w;exact absurd (e.trans z) w
 .rw[bx z]
def Cg(Z:Nat->List Nat)(g:F)(G:Y3):Prop:=∀x y,x<G.length->y<G.length->(Z g.a).getD x 0=(Z g.a).getD y 0->(Z g.b).getD (G.getD x 0) 0=(Z g.b).getD (G.getD y 0) 0
structure Ac(q:Nat)(hs:List F)(L:Nat->Nat)(as:List (List Nat))(M:dh):Prop where
 at_:M[q]?=some (.lst (as.map λjs=>.vl (js.map nD)))
 len:as.length=hs.length
 ok:∀(j:Nat)(g:F)(js:Y3),hs[j]?=some g->as[j]?=some js->js.length=L g.a/\∀x∈js,x<L g.b
def Ac.get(h:Ac q R L as M){j:Nat}(U:R[j]?=some g):∃Z,as[j]?=some Z/\zg (.ref q) (.int j) M=some (.vl (Z.map nD))/\Z.length=L g.a/\∀x∈Z,x<L g.b:=by
 have hl:=(ak.mp U).1;have G:j<as.length:=by rw[h.len];exact hl
 have e:as[j]?=some as[j]:=bf G;exact⟨_,e,Dc (jx h.at_) q_ (by simp[e]),h.ok j g _ U e⟩
def a5m(h:M[n]?=some (.dK Z)):K8 .get (.ref n) [.int k,d] M=.ok ((Bh Z (.inl k)).getD d) M:=by simp[K8,onL,onK,h]
def bb0(h:M[n]?=some (.dK Z)):K7 .get (.ref n) M=true:=by simp[K7,du,h]
def arp(h:M[n]?=some (.dK Z))(G:Z.length<100000):setOp (.ref n) (.int k) d M=some (M.set n (.dK (Du Z (.inl k) d))):=by simp[setOp,h,G]
def arq[DecidableEq G]{Z:List (G×D)}(h:Bh Z k=some v):∃p∈Z,p.2=v:=by unfold Bh at h;obtain⟨p,R,U⟩:=dq.mp h;exact⟨p,List.mem_of_find?_eq_some R,U⟩
def ayc[DecidableEq U]{G:List (U×D)}(h:p∈Du G k v):p∈G\/p.2=v:=by
 unfold Du at h;split at h
 .obtain⟨q,R,Z⟩:=bc.mp h
  split at Z
  .rw[<- Z];exact .inr rfl
  .rw[<- Z];exact .inl R
 .rcases dw.mp h with z|z
  .exact .inl z
  .have:p=(k,v):=by simpa using z
   rw[this];exact .inr rfl
def K3[DecidableEq Z](p:Z×D)(r:List (Z×D))(k:Z):Bh (p::r) k=if p.1=k then some p.2 else Bh r k:=by
 unfold Bh
 by_cases h:p.1=k
 .simp[qz,h]
 .simp[qz,h]
theorem Xy{U:Type}[DecidableEq U]{k k':U}{v:D}:∀{Z:List (U×D)},(∃p∈Z,p.1=k)->Bh (Z.map λp=>if p.1=k then(p.1,v) else p) k'=if k'=k then some v else Bh Z k'
 |p::r,h=>by
  rw[ig,K3,K3]
  by_cases a:p.1=k
  .rw[dg a]
   by_cases b:k'=k
   .simp[a,b]
   .have c:¬p.1=k':=λz=>b (z.symm.trans a)
    rw[bx c,bx b,bx c]
    by_cases d:∃p∈r,p.1=k
    .rw[Xy d,bx b]
    .congr 1
     conv=>rhs;rw[<- List.map_id r]
     apply jc;intro q hq;rw[bx λz=>d ⟨q,hq,z⟩];rfl
  .rw[bx a]
   have d:∃p∈r,p.1=k:=by
    obtain⟨q,G,R⟩:=h;rcases cj.mp G with rfl|G
    .exact absurd R a
    .exact⟨q,G,R⟩
   rw[Xy d]
   by_cases b:k'=k
   .have c:¬p.1=k':=λz=>a (z.trans b)
    rw[bx c];simp[b]
   .simp[b]
theorem Xz{G:Type}[DecidableEq G]{k k':G}{v:D}:∀{Z:List (G×D)},(∀p∈Z,p.1≠k)->Bh (Z++[(k,v)]) k'=if k'=k then some v else Bh Z k'
 |[],_=>by
  rw[Af,K3]
  by_cases b:k'=k
  .simp[b]
  .simp[b,j0 b]
 |p::r,h=>by
  rw[zm,K3,K3,Xz (λq U=>h q (bh _ U))];have a:=h p (by simp)
  by_cases b:k'=k
  .have c:¬p.1=k':=λz=>a (z.trans b)
   rw[bx c];simp[b]
  .simp[b]
def ars[DecidableEq G](Z:List (G×D))(k k':G)(v:D):Bh (Du Z k v) k'=if k'=k then some v else Bh Z k':=by
 unfold Du
 by_cases h:(Z.any λp=>decide (p.1=k))=true
 .rw[dg h]
  exact Xy (by simpa using h)
 .rw[bx h]
  exact Xz (λp U z=>h (Aw.mpr ⟨p,U,by simpa using z⟩))
def ayd[DecidableEq Z](G:List (Z×D))(k:Z)(v:D):(Du G k v).length<=G.length+1:=by unfold Du;split<;>simp
def ab6(M:dh)(a b:Nat):yf M (.int a) (.int b)=some (decide (a=b)):=Bt M a b
def Fm(G n:Nat)(M Z:dh):Prop:=∀(a:Nat)(o:MO),a≠G->a<n->M[a]?=some o->Z[a]?=some o
def aka(M:dh)(a b:Nat):o8 .min [.int a,.int b] M=.ok (.int (min a b:Nat)) M:=by
 show Res.ok (D.int (if(b:Int)<(a:Int) then(b:Int) else(a:Int))) M=_
 by_cases h:b<a
 .rw[dg (m_ h),Nat.min_eq_right (e_ h)]
 .rw[bx (by lia),Nat.min_eq_left (s_ h)]
def ab7(M:dh)(a b:Nat):o8 .max [.int a,.int b] M=.ok (.int (max a b:Nat)) M:=by
 show Res.ok (D.int (if(a:Int)<(b:Int) then(b:Int) else(a:Int))) M=_
 by_cases h:a<b
 .rw[dg (m_ h),Nat.max_eq_right (e_ h)]
 .rw[bx (by lia),Nat.max_eq_left (s_ h)]
def afe{lo hi:Nat}(hx:(Ex.ix (.var v) (.var x)).den W ρ M=.ok d M)(hd:du M d=some (l.map nD))(hl:l.length<=100000)(hy:y=ρ.length)(G:ρ[a]?=some (sI lo))(Z:ρ[b]?=some (sI hi)) :
 (Ex.comp true 1 (.name y) (.val (.ix (.var v) (.var x))) (.ite (.cmp .eq (.var y) (.var b)) (.var a) (.var y))).den W ρ M=.ok (.vl ((Dd lo hi l).map nD)) M:=by
 subst hy;have ha:=(ak.mp G).1;have hb:=(ak.mp Z).1;rw[wz (d:=d) (ds:=l.map nD) (M1:=M) (g:=λd=>match d with|.int o=>nD (if o.toNat=hi then lo else o.toNat)|_=>.non) hx hd (by simpa using hl) (λz hz=>by
  obtain⟨o,ho,rfl⟩:=bc.mp hz;refine⟨_,rfl,?_⟩;have e1:(ρ++List.replicate 1 none).set ρ.length (some (nD o))=ρ++[sI o]:=by rw[Ag];simp[nD]
  have U:(ρ++[some (D.int o)])[a]?=some (sI lo):=by rw[dz ha];exact G
  have g2:(ρ++[some (D.int o)])[b]?=some (sI hi):=by rw[dz hb];exact Z
  have R:(ρ++[some (D.int o)])[ρ.length]?=some (sI o):=by simp
  rw[e1]
  by_cases z:o=hi
  .subst z;simp[-eq_int,U,g2,R,ab6,nD]
  .simp[-eq_int,U,g2,R,ab6,z,nD])]
 simp[Dd,nD]
def aye{lo hi:Nat}(G:(Ex.ix (.v 1) (.var x)).den W ρ M=.ok d M)(hd:du M d=some (l.map nD))(R:l.length<=100000)(hy:y=ρ.length)(Z:12<y)(h1:ρ[11]?=some (sI lo))(U:ρ[12]?=some (sI hi)) :
 (Ex.comp true 1 (.name y) (.val (.ix (.v 1) (.var x))) (.ite (.cmp .eq (.var y) (.v 12)) (.v 11) (.var y))).den W ρ M=.ok (.vl ((Dd lo hi l).map nD)) M:=afe G hd R hy h1 U
structure Fd(dd:Nat)(a b js:Y3)(n:Nat)(M:dh):Prop where
 ex:∃kv:List (Kx×D),M[dd]?=some (.dK kv)/\kv.length<=n/\(∀p∈kv,∃e:Nat,p.2=.int e/\e∈b)/\∀i,i<n->Bh kv (.inl ((a.getD i 0:Nat):Int))=some (.int ((b.getD (js.getD i 0) 0:Nat):Int))
def art{j:Nat}(mk:Mk t U K L G M)(ac:Ac q hs L as M)(hj:hs[j]?=some g)(ga:g.a<K)(gb:g.b<K)(hd:M[dd]?=some (.dK []))(zk:U<dd)(zq:q<dd)(z1:q≠U)(ht:t<U)(hL:∀e,e<K->L e<=7) :
 ∃R Z,Mj.den W [sP K r hs,sR U,sR q,b3,sI j,sI g.a,sI g.b,sR dd,b8,b9,b10,Cd,Ji] M=.ok (.next,R) Z /\
  ∃c3 c7 c8 c9 Fj J5 qq,R=[sP K r hs,sR U,sR q,c3,sI j,sI g.a,sI g.b,c7,c8,c9,Fj,J5,qq]/\Fm U dd M Z/\M.length<=Z.length /\
   ((c3=b3/\Mk t U K L G Z/\∀js,as[j]?=some js->Cg G g js)\/(c3=some (.bl true)/\∃Bl,Mk t U K L Bl Z/\K1 K Bl<K1 K G)):=by
 obtain⟨js,ej,_,lj,rj⟩:=ac.get hj;obtain⟨da,fa,la⟩:=mk.row ga;have q7:=mk.len _ ga;have q4:=hL _ ga;refine adb (W:=W) (t:=.name 8) (b:=Cu) (it:=.blt .len (.o (.ix (.v 1) (.v 5)))) (n:=L g.a) (M1:=M) ?_ (a_ q4 (by decide))
  (λi ρ Z=>(∃b8 b9 b10,ρ=[sP K r hs,sR U,sR q,b3,sI j,sI g.a,sI g.b,sR dd,b8,b9,b10,Cd,Ji])/\Mk t U K L G Z/\Fd dd (G g.a) (G g.b) js i Z/\Rb dd M Z/\Z.length=M.length)
  (λR Z=>∃c3 c7 c8 c9 Fj J5 qq,R=[sP K r hs,sR U,sR q,c3,sI j,sI g.a,sI g.b,c7,c8,c9,Fj,J5,qq]/\Fm U dd M Z/\M.length<=Z.length /\
   ((c3=b3/\Mk t U K L G Z/\∀js,as[j]?=some js->Cg G g js)\/(c3=some (.bl true)/\∃Bl,Mk t U K L Bl Z/\K1 K Bl<K1 K G)))
  ⟨⟨b8,b9,b10,rfl⟩,mk,⟨[],hd,bw _,by simp,by simp⟩,Rb.refl _ _,rfl⟩ (fun ρ Z h=>?_) (λi ρ M1 hi hI=>?_)
 .have e:=len_list la
  simp only[cz,q7] at e;simp[fa,e]
 .obtain⟨⟨c8,c9,Fj,rfl⟩,h1,⟨kv,_,_,_,k4⟩,h3,h4⟩:=h
  refine⟨b3,_,c8,c9,Fj,Cd,Ji,rfl,λa o _ x e=>h3 a o x e,g_ h4,.inl ⟨rfl,h1,λzv e' x y hx hy zw=>?_⟩⟩;rw[ej] at e';cases e';have g1:=k4 x (b_ hx (f_ lj));have g2:=k4 y (b_ hy (f_ lj));rw[zw,g2] at g1;simp only[Ak,D.int.injEq] at g1;exact(Bf.mp g1).symm
 .obtain⟨⟨c8,c9,Fj,rfl⟩,h1,⟨kv,k1,k2,k3,k4⟩,h3,h4⟩:=hI
  obtain⟨da,fa,la⟩:=h1.row ga;obtain⟨db,fb,lb⟩:=h1.row gb;have zz:Ac q hs L as M1:=⟨h3 _ _ zq ac.at_,ac.len,ac.ok⟩;obtain⟨zv,q3,fj,_,_⟩:=zz.get hj;rw[ej] at q3;cases q3;have qv:=Jh la (show i<(G g.a).length by rw[q7];exact hi);have q1:zg (.vl (js.map nD)) (.int i) M1=some (.int (js.getD i 0)):=Jh rfl (b_ hi (g_ lj));have hy:js.getD i 0<(G g.b).length:=by rw[h1.len _ gb];exact rj _ (getD_mem' (b_ hi (g_ lj)))
  generalize hy0:js.getD i 0=y at q1 hy;have q0:=Jh lb hy;have hz:=getD_mem' hy;generalize hx0:(G g.a).getD i 0=x at qv;generalize hz0:(G g.b).getD y 0=z at q0 hz;have gt:=a5m (k:=(x:Int)) (d:=.int z) k1;have ty:=bb0 k1;have qk:((Bh kv (.inl (x:Int))).getD (.int z)=.int z)->∃q5 fl R Z,(Tg.name 8).put (.int i) [sP K r hs,sR U,sR q,b3,sI j,sI g.a,sI g.b,sR dd,c8,c9,Fj,Cd,Ji]=some q5/\Cu.den W q5 M1=.ok (fl,R) Z /\
   (((fl=.next\/fl=.cont)/\(∃b8 b9 b10,R=[sP K r hs,sR U,sR q,b3,sI j,sI g.a,sI g.b,sR dd,b8,b9,b10,Cd,Ji])/\Mk t U K L G Z/\Fd dd (G g.a) (G g.b) js (i+1) Z/\Rb dd M Z/\Z.length=M.length) \/
     (fl=.brk/\∃c3 c7 c8 c9 Fj J5 qq,R=[sP K r hs,sR U,sR q,c3,sI j,sI g.a,sI g.b,c7,c8,c9,Fj,J5,qq]/\Fm U dd M Z/\M.length<=Z.length /\
      ((c3=b3/\Mk t U K L G Z/\∀js,as[j]?=some js->Cg G g js)\/(c3=some (.bl true)/\∃Bl,Mk t U K L Bl Z/\K1 K Bl<K1 K G)))):=λhg=>by
   rw[hg] at gt;have st:=arp (k:=(x:Int)) (d:=.int z) k1 (by have:=hL _ ga;exact c_ k2 (b_ hi (a_ q4 (by decide))));refine⟨_,.next,_,M1.set dd (.dK (Du kv (.inl (x:Int)) (.int z))),rfl,?_,.inl ⟨.inl rfl,⟨some (.int i),sI x,sI z,rfl⟩,h1.frame (λa o _ ha e=>by rw[o7 (i_ (c_ ha zk))];exact e) ht,⟨_,vo k1,?_,?_,λi' z2=>?_⟩,h3.trans (Rb.set (bw _)),by simp[h4]⟩⟩
   .simp[-eq_int,Cu,fa,qv,fb,fj,q1,q0,ty,gt,ab6,st]
   .have:=ayd kv (.inl (x:Int)) (.int z);exact a_ this (v_ k2)
   .intro p hp
    rcases ayc hp with w|w
    .exact k3 p w
    .exact⟨z,w,hz⟩
   .rw[ars]
    by_cases w:(G g.a).getD i' 0=x
    .rw[w,dg rfl]
     by_cases w2:i'=i
     .subst w2;rw[hy0,hz0]
     .have g1:=k4 i' (by lia)
      rw[w] at g1;rw[g1] at hg;simp only[qt] at hg;rw[hg]
    .have w2:i'≠i:=λq=>w (by rw[q,hx0])
     have:¬((Sum.inl (((G g.a).getD i' 0:Nat):Int):Kx)=.inl (x:Int)):=λq=>w (by injection q with q;exact Bf.mp q)
     rw[bx this];exact k4 i' (by lia)
  cases hlk:Bh kv (.inl (x:Int)) with
  |none=>exact qk (by rw[hlk];rfl)
  |some v =>
   obtain⟨p,hp,rfl⟩:=arq hlk;obtain⟨e,he,q8⟩:=k3 p hp;rw[he] at hlk
   by_cases q6:e=z
   .exact qk (by rw[hlk,q6];rfl)
   .rw[hlk] at gt
    have ix:=aze (b:=.int x) k1 rfl;rw[show(Sum.inl (x:Int):Kx)=.inl (x:Int) from rfl,hlk] at ix;have lh:min e z<max e z:=by lia
    have hm:max e z∈G g.b:=by
     rcases Nat.le_total e z with w|w
     .rw[Nat.max_eq_right w];exact hz
     .rw[Nat.max_eq_left w];exact q8
    have q2:min e z∈G g.b:=by
     rcases Nat.le_total e z with w|w
     .rw[Nat.min_eq_left w];exact q8
     .rw[Nat.min_eq_right w];exact hz
    have rp:=aye (W:=W) (M:=M1) (ρ:=[sP K r hs,sR U,sR q,b3,sI j,sI g.a,sI g.b,sR dd,sI i,sI x,sI z,sI (min e z:Nat),sI (max e z:Nat)]) (x:=6) (y:=13) (lo:=min e z) (hi:=max e z) (by simp[fb]) lb (by rw[h1.len _ gb];have:=hL _ gb;exact a_ this (by decide)) rfl (by decide) rfl rfl;obtain⟨o,so,z0⟩:=h1.set gb (ns:=Dd (min e z) (max e z) (G g.b)) (by simp[Dd,h1.len _ gb]) (λy hy=>by
     obtain⟨w,hw,rfl⟩:=bc.mp hy;split
     .exact h1.lt _ gb _ q2
     .exact h1.lt _ gb _ hw) (aj9 (h1.fx _ gb) (λx hx=>by rw[h1.len _ gb];exact h1.lt _ gb x hx) q2) ht
    have ne:¬((e:Nat)=z):=q6;refine⟨_,.brk,_,M1.set U o++[.dK []],rfl,?_,.inr ⟨rfl,some (.bl true),sR (M1.set U o).length,sI i,sI x,sI z,sI (min e z:Nat),sI (max e z:Nat),rfl,λa u na ha q=>?_,by simp;exact a_ (g_ h4) x_,.inr ⟨rfl,_,z0.frame (λa u _ _ q=>qu q) ht,(aho (ab5 lh hm) K).2 gb⟩⟩⟩
    .simp only[qt] at gt
     simp[-eq_int,Cu,fa,qv,fb,fj,q1,q0,ty,gt,ab6,ne,ix,aka,ab7,Mi,rp,so,MW.new]
    .refine qu ?_
     rw[o7 (j0 na)];exact h3 a u ha q
def Fm.trans(a:Fm Z n M G)(b:Fm Z n G M2):Fm Z n M M2:=λx o h l e=>b x o h l (a x o h l e)
def Fm.le(a:Fm Z n M M1)(h:G<=n):Fm Z G M M1:=λx o q l e=>a x o q (b_ l h) e
theorem ahq:∀{l:Y3}{c:Nat},(∀x∈l,x<=c)->l.sum<=l.length*c
 |[],_,_=>by simp
 |a::l,c,h=>by
  have U:=h a (by simp);have G:=ahq (λx Z=>h x (bh _ Z));simp only[List.sum_cons,il,Nat.succ_mul]
  lia
def ahr(mk:Mk t pm K L G M)(R:∀e,e<K->L e<=7)(hK:K<=3):K1 K G<=200:=by
 have:∀x∈(List.range K).map λi=>(G i).sum,x<=49:=λx U=>by
  obtain⟨i,Z,rfl⟩:=bc.mp U;have Z:=fc.mp Z;have h1:=ahq (l:=G i) (c:=7) (λx U=>by have:=mk.lt i Z x U;have:=R i Z;lia);have h2:=mk.len i Z;have h3:=R i Z;have h4:(G i).length*7<=7*7:=Nat.mul_le_mul_right 7 (a_ (f_ h2) h3)
  lia
 have h:=ahq this;simp only[cz,yq] at h;have h5:K*49<=3*49:=Nat.mul_le_mul_right 49 hK
 unfold K1
 lia
def Cgs(R:List F)(U:List (List Nat))(n:Nat)(G:Nat->List Nat):Prop:=∀(j:Nat)(g:F)(Z:Y3),j<n->R[j]?=some g->U[j]?=some Z->Cg G g Z
def arw(P:Ef sz K Z ik)(mk:Mk t G K L ms M)(ac:Ac q Z L as M)(q6:G<M.length)(qv:q<M.length)(q0:q≠G)(ht:t<G)(hL:∀e,e<K->L e<=7) :
 ∃qk M',Ml.den W [sP K r Z,sR G,sR q,b3,b4,b5,b6,b7,b8,b9,b10,Cd,Ji] M=.ok (.next,qk) M' /\
  ∃R c4 c5 c6 c7 c8 c9 Fj J5 U Bl,qk=[sP K r Z,sR G,sR q,R,c4,c5,c6,c7,c8,c9,Fj,J5,U]/\Fm G M.length M M'/\M.length<=M'.length/\Mk t G K L Bl M'/\((R=b3/\Bl=ms/\Cgs Z as Z.length ms)\/(R=some (.bl true)/\K1 K Bl<K1 K ms)):=by
 have hl:=P.len;refine An (W:=W) (t:=.name 4) (b:=Dz) (it:=.blt .len (.o (.ix (.v 0) (.i 1)))) (n:=Z.length) (M1:=M) (by simp[Mr,Ow]) (a_ hl (by decide))
  (λn qk M'=>∃R c4 c5 c6 c7 c8 c9 Fj J5 U Bl,qk=[sP K r Z,sR G,sR q,R,c4,c5,c6,c7,c8,c9,Fj,J5,U]/\Fm G M.length M M'/\M.length<=M'.length/\Mk t G K L Bl M'/\((R=b3/\Bl=ms/\Cgs Z as n ms)\/(R=some (.bl true)/\K1 K Bl<K1 K ms)))
  ⟨b3,b4,b5,b6,b7,b8,b9,b10,Cd,Ji,ms,rfl,λ_ _ _ _ e=>e,bw _,mk,.inl ⟨rfl,rfl,λj g js h=>absurd h (rz _)⟩⟩ (λj ρ M1 hj hI=>?_)
 obtain⟨R,c4,c5,c6,c7,c8,c9,Fj,J5,U,m1,rfl,f1,l1,k1,o1⟩:=hI;have qq:Z[j]?=some Z[j]:=by simp[hj]
 have hg:=ao qq;have k2:Mk t G K L m1 (M1++[.dK []]):=k1.frame (λa o _ _ e=>qu e) ht;have q5:Ac q Z L as (M1++[.dK []]):=⟨qu (f1 _ _ q0 qv ac.at_),ac.len,ac.ok⟩;obtain⟨q7,M2,e2,d3,d7,d8,d9,q4,q3,q2,rfl,f2,l2,o2⟩:=art (W:=W) (r:=r) (dd:=M1.length) (b3:=R) (b8:=c8) (b9:=c9) (b10:=Fj) (Cd:=J5) (Ji:=U) k2 q5 qq (P.R8 _ hg) (P.Li _ hg) (by simp) (b_ q6 l1) (b_ qv l1) q0 ht hL;have f3:Fm G M.length M M2:=λa o na ha e=>f2 a o na (b_ ha l1) (qu (f1 a o na ha e))
 have l3:M.length<=M2.length:=by simp at l2;lia
 have pe:∀ρ,(Tg.names [5,6]).put (eD Z[j]) ρ=some ((ρ.set 5 (some (.int Z[j].a))).set 6 (some (.int Z[j].b))):=λ_=>rfl
 have run:Dz.den W [sP K r Z,sR G,sR q,R,sI j,c5,c6,c7,c8,c9,Fj,J5,U] M1=.ok (.next,[sP K r Z,sR G,sR q,d3,sI j,some (.int Z[j].a),some (.int Z[j].b),d7,d8,d9,q4,q3,q2]) M2:=by simp[Dz,Mr,R9 qq,pe,MW.new,e2]
 refine⟨_,.next,_,M2,rfl,run,.inl rfl,?_⟩;rcases o2 with⟨rfl,k3,cg⟩|⟨rfl,m2,k3,t3⟩
 .rcases o1 with⟨rfl,rfl,cs⟩|⟨rfl,t1⟩
  .refine⟨_,_,_,_,_,_,_,_,_,_,m1,rfl,f3,l3,k3,.inl ⟨rfl,rfl,λj' g' q1 h1 h2 h3=>?_⟩⟩
   by_cases z:j'=j
   .subst z
    rw[qq] at h2;cases h2;exact cg _ h3
   .exact cs j' g' q1 (by lia) h2 h3
  .exact⟨_,_,_,_,_,_,_,_,_,_,m1,rfl,f3,l3,k3,.inr ⟨rfl,t1⟩⟩
 .refine⟨_,_,_,_,_,_,_,_,_,_,m2,rfl,f3,l3,k3,.inr ⟨rfl,?_⟩⟩
  rcases o1 with⟨_,rfl,_⟩|⟨_,t1⟩<;>omega
def amc(hm:1<=m)(P:Ef sz K U ik)(mk:Mk t Z K L ms M)(ac:Ac q U L as M)(q4:Z<M.length)(q1:q<M.length)(q2:q≠Z)(ht:t<Z)(hL:∀e,e<K->L e<=7) :
 ∃R G,prog.call m 28 [Bw K r U,.ref Z,.ref q] M=.ok (.ref Z) G/\Mk t Z K L R G/\Cgs U as U.length R/\Fm Z M.length M G/\M.length<=G.length:=by
 rw[call_of hm rfl];obtain⟨qq,G,e,R,k1,cg,f1,l1,c,q3⟩:∃qq G,G8.den ⟨prog.call (m-1),prog.cls⟩ [sP K r U,sR Z,sR q,D.bl true,none,none,none,none,none,none,none,none,none] M=.ok (.next,qq) G /\
  ∃R,Mk t Z K L R G/\Cgs U as U.length R/\Fm Z M.length M G/\M.length<=G.length/\∃c:Env,qq=[sP K r U,sR Z]++c:=by
  unfold G8;rw[aan];refine Ho (λm ρ G=>∃(R:Nat->List Nat)(b:Bool)(c:Env),ρ=[sP K r U,sR Z,sR q,some (.bl b)]++c/\c.length=9/\Mk t Z K L R G/\(b=false->Cgs U as U.length R)/\Fm Z M.length M G/\M.length<=G.length/\m=(if b then K1 K R+1 else 0))
   (λqq G=>∃R,Mk t Z K L R G/\Cgs U as U.length R/\Fm Z M.length M G/\M.length<=G.length/\∃c:Env,qq=[sP K r U,sR Z]++c) (λn ρ M1 hI=>?_) Wq (K1 K ms+1) _ M (by have:=ahr mk hL P.k3;show K1 K ms+1<1000000;lia)
   ⟨ms,true,[none,none,none,none,none,none,none,none,none],rfl,rfl,mk,by simp,λ_ _ _ _ e=>e,bw _,rfl⟩
  obtain⟨m1,b,c,rfl,hc,k1,cg,f1,l1,rfl⟩:=hI
  match c,hc with
  |[c4,c5,c6,c7,c8,c9,Fj,J5,c12],_ =>
  cases b with
  |false=>exact .inl ⟨M1,rfl,m1,k1,cg rfl,f1,l1,_,rfl⟩
  |true =>
   right
   obtain⟨q5,M2,e2,d3,d4,d5,d6,d7,d8,d9,q0,qv,qk,m2,rfl,f2,l2,k2,o2⟩:=arw (W:=⟨prog.call (m-1),prog.cls⟩) (r:=r) (as:=as) P k1 (⟨f1 _ _ q2 q1 ac.at_,ac.len,ac.ok⟩:Ac q U L as M1) (b_ q4 l1) (b_ q1 l1) q2 ht hL (b3:=some (.bl false)) (b4:=c4) (b5:=c5) (b6:=c6) (b7:=c7) (b8:=c8) (b9:=c9) (b10:=Fj) (Cd:=J5) (Ji:=c12);have f3:Fm Z M.length M M2:=f1.trans (f2.le l1);have run:G7.den ⟨prog.call (m-1),prog.cls⟩ [sP K r U,sR Z,sR q,D.bl true,c4,c5,c6,c7,c8,c9,Fj,J5,c12] M1=.ok (.next,[sP K r U,sR Z,sR q,d3,d4,d5,d6,d7,d8,d9,q0,qv,qk]) M2:=by simp[G7,e2]
   rcases o2 with⟨rfl,rfl,cs⟩|⟨rfl,t3⟩
   .exact⟨M1,.next,_,M2,0,rfl,run,.inl rfl,by simp,m2,false,[d4,d5,d6,d7,d8,d9,q0,qv,qk],rfl,rfl,k2,λ_=>cs,f3,a_ l1 l2,rfl⟩
   .exact⟨M1,.next,_,M2,K1 K m2+1,rfl,run,.inl rfl,by simp;exact t3,m2,true,[d4,d5,d6,d7,d8,d9,q0,qv,qk],rfl,rfl,k2,by simp,f3,a_ l1 l2,rfl⟩
 subst q3;refine⟨R,G,?_,k1,cg,f1,l1⟩;simp only[zm,Af] at e;simp[Fn.run,Qj,Qi,e]
theorem akd:∀l:List Nat,Yw (l.map nD)=some (l.map λ(x:Nat)=>(x:Int))
 |[]=>rfl|a::l=>by show(Yw (l.map nD)).map _=_;rw[akd l];rfl
noncomputable def fil(b:Nat)(f:Nat->Bool):List Nat:=(List.range b).filter f
def ake(b:Nat)(f:Nat->Bool):(fil b f).length<=b:=by have:=wu f (List.range b);rw[yq] at this;exact this
def Pu:x∈fil b f↔x<b/\f x=true:=by rw[fil,ur,fc]
def X3(b:Nat)(f:Nat->Bool):(fil b f).Pairwise (· < ·):=List.pairwise_lt_range.filter f
def srt{is:Xs}{f:Nat->Bool}(h:∀y,y∈is↔∃z:Nat,z<b/\f z=true/\y=z):sortI (Am is)=(fil b f).map λ(x:Nat)=>(x:Int) :=
 (aij (xu.mpr ((X3 b f).imp λh=>by lia)) (j8.mpr (xu.mpr ((X3 b f).imp λh=>by lia))) λy=>by
  rw[h,bc];constructor
  .rintro⟨z,U,G,rfl⟩;exact⟨z,Pu.mpr ⟨U,G⟩,rfl⟩
  .rintro⟨z,Z,rfl⟩;exact⟨z,(Pu.mp Z).1,(Pu.mp Z).2,rfl⟩).symm
def ayh(l:Y3):(l.map λ(x:Nat)=>(x:Int)).map D.int=l.map nD:=by rw[o4];rfl
def mem_cast{l:Y3}{y:Int}:y∈l.map (λ(x:Nat)=>(x:Int))↔∃z:Nat,z∈l/\y=z:=by rw[bc];constructor<;>rintro⟨z,h,e⟩<;>exact⟨z,h,e.symm⟩
def ab8{M:dh}{l:Y3}(h:du M d=some (l.map nD))(R:b<=7\/l.length<31)(G:∀z,z∈l↔z<b/\f z=true):o8 .By [d] M=.ok (.vl ((fil b f).map nD)) M/\(fil b f).length<=l.length:=by
 have e:=srt (is:=l.map λ(x:Nat)=>(x:Int)) (b:=b) (f:=f) λy=>by
  rw[mem_cast];constructor
  .rintro⟨z,Z,rfl⟩;exact⟨z,((G z).mp Z).1,((G z).mp Z).2,rfl⟩
  .rintro⟨z,Z,U,rfl⟩;exact⟨z,(G z).mpr ⟨Z,U⟩,rfl⟩
 have q:=(Kg (Am (l.map λ(x:Nat)=>(x:Int)))).length_eq;have n:=aog (l.map λ(x:Nat)=>(x:Int));rw[e,cz] at q;rw[<- q,cz] at n;have le:(Am (l.map λ(x:Nat)=>(x:Int))).length<31:=by have:=ake b f;rw[<- q];lia
 refine⟨?_,n⟩;show Res.u5 (((du M d).bind Yw).bind λis=>if(Am is).length<31 then some (D.vl ((sortI (Am is)).map D.int)) else none) M=_;rw[h,qp,akd,qp,dg le,e,ayh];rfl
theorem bnd:∀l:List Nat,∃b,∀z∈l,z<b
 |[]=>⟨0,by simp⟩
 |a::l=>by
  obtain⟨b,h⟩:=bnd l;refine⟨a+b+1,λz Z=>?_⟩;rcases cj.mp Z with rfl|Z
  .lia
  .have:=h z Z;lia
def ahs{M:dh}{l:Y3}(h:du M d=some (l.map nD))(U:l.length<31):∃Z:List Nat,o8 .By [d] M=.ok (.vl (Z.map nD)) M/\Z.length<=l.length/\Z.Nodup/\∀x,x∈Z↔x∈l:=by
 obtain⟨b,hb⟩:=bnd l;have G:∀z,z∈l↔z<b/\decide (z∈l)=true:=λz=>by rw[dm];exact⟨λq=>⟨hb z q,q⟩,λq=>q.2⟩
 obtain⟨e1,R⟩:=ab8 (f:=λz=>decide (z∈l)) h (.inr U) G;exact⟨_,e1,R,j8.mpr ((X3 b _).imp λh=>by lia),λx=>by rw[Pu];exact(G x).symm⟩
def amd(U:ρ.length=19)(h3:ρ[3]?=some (some (.vl (uf p K))))(h:RS p K rs M)(hK:K<=3)(h7:∀e,e<K->(rs e).length<=7)(ht:t<M.length) :
 ∃Z,Ih.den W ρ M=.ok (.ref (M.length+K)) Z/\Mk t (M.length+K) K (λe=>(rs e).length) (λe=>List.range (rs e).length) Z/\yd M Z/\Z.length=M.length+K+1:=by
 unfold Ih;obtain⟨ys,M1,e,r1,r2,r3,R⟩:=J7 (W:=W) (v:=false) (k:=1) (t:=.name 19) (it:=.v 3) (e:=.Wn (.l (.v 19))) (ρ:=ρ) (M:=M) (M1:=M) (d:=.vl (uf p K)) (ds:=uf p K) (by simp[h3]) rfl (by simp[uf];exact a_ hK (by decide))
  (λi xs Z=>xs=uf M.length i/\(∀e,e<i->Z[M.length+e]?=some (.lst ((List.range (rs e).length).map nD)))/\yd M Z/\Z.length=M.length+i) ⟨rfl,λe he=>absurd he (rz _),yd.refl M,rfl⟩ (λ_ _ _ _=>rfl)
  (λi y xs Z hy hI=>by
   obtain⟨rfl,q1,q2,q3⟩:=hI;have G:i<K:=by have:=(ak.mp hy).1;simpa[uf] using this
   obtain rfl:D.ref (p+i)=y:=by simpa[uf,G] using hy
   have ln:=len_list (jx (q2 _ _ (h i G)));have e1:(ρ++List.replicate 1 none).set 19 (sR (p+i))=ρ++[sR (p+i)]:=by rw[Ag];simp[U]
   have g9:(ρ++[some (D.ref (p+i))])[19]?=some (sR (p+i)):=by rw[<- U];simp
   refine⟨_,.ref Z.length,Z++[.lst ((List.range (rs i).length).map nD)],rfl,?_,?_,λe he=>?_,q2.trans (yd.app _ _),by simp[q3];exact rfl⟩
   .have h8:=h7 i G
    have h9:(rs i).length<=100000:=a_ h8 (by decide)
    rw[e1];simp[g9,ln,h9,MW.new,nD]
   .simp[uf,rm,q3]
   .by_cases z:e=i
    .subst z;rw[<- q3];simp
    .exact qu (q1 e (by lia)))
 have qq:(uf p K).length=K:=by simp[uf]
 rw[qq] at r1 r2 R;refine⟨M1++[.lst ys],by rw[e];simp[MW.new,R],⟨⟨ys,by rw[<- R];simp,by rw[r1];simp[uf],λi G=>?_⟩,λi G=>by simp,λi G x hx=>fc.mp hx,λi G x hx=>by simp[fc.mp hx]⟩,r3.trans (yd.app _ _),by simp[R]⟩;refine⟨.ref (M.length+i),by rw[r1];simp[uf,G],jx (qu (r2 i G)),λa q=>?_⟩;cases q;exact⟨b_ ht x_,H_ G⟩
def Mk.st(h:Mk t Z K L U M)(s:St t f M M')(G:t<Z):Mk t Z K L U M':=h.frame (λa o R _ e=>s.keep a o (i_ R) e) G
def Ac.of(h:Ac q G L Z M)(k:∀o,M[q]?=some o->M'[q]?=some o):Ac q G L Z M':=⟨k _ h.at_,h.len,h.ok⟩
def ayi(hm:1<=m)(P:Ef sz K U ik)(hh:Q0 t f M)(mk:Mk t pm K L ms M)(ac:Ac q U L as M)(G:t<p)(hp:p<=pm)(zv:pm<M.length)(hq:p<=q)(qk:q≠pm)(qv:q<M.length)(hL:∀e,e<K->L e<=7)(hc:Cgs U as U.length ms) :
 ∃c5 J5 q8 q7 q6 Bl M',Dh.den ⟨prog.call m,prog.cls⟩ [sR t,sP K r U,a2,a3,b4,b5,b6,b7,b8,sR q,b10,Cd,Ji,sR pm,b14,b15,n16,n17,n18] M =
  .ok (.next,[sR t,sP K r U,a2,a3,b4,c5,b6,b7,b8,sR q,b10,J5,q8,sR pm,q7,q6,n16,n17,n18]) M'/\Mk t pm K L Bl M'/\Cgs U as U.length Bl/\Ac q U L as M'/\Gs t f p M M':=by
 have h3:=P.k3;obtain⟨k,M1,e1,l1,s1,n1⟩:=Bb (many:=K) hm hh (by have:=P.k1;exact m_ this) (m_ (c_ h3 (by decide)));obtain⟨x,M2,e2,l2,s2,n2⟩:=Bb (many:=7) hm s1.has (by decide) (by decide);obtain⟨y,M3,e3,l3,s3,n3⟩:=Bb (many:=7) hm s2.has (by decide) (by decide);have hk:k<K:=o_ l1
 have s:=s1.trans (s2.trans s3);have Z:=mk.st s (b_ G hp);have q1:Ac q U L as M3:=ac.of λo e=>s.keep _ _ (i_ (b_ G hq)) e
 obtain⟨dk,fk,lk⟩:=Z.row hk;have qq:=Z.len _ hk;have ln:=len_list lk;simp only[cz,qq] at ln;have mx:=ab7 M3 x y
 by_cases c:max x y<L k
 .have c':((max x y:Nat):Int)<(L k:Int):=m_ c
  have hx:x<(ms k).length:=by lia
  have hy:y<(ms k).length:=by lia
  have ix:=Jh lk hx;have iy:=Jh lk hy;have q0:=getD_mem' hx;have q3:=getD_mem' hy;generalize hx0:(ms k).getD x 0=u at ix q0;generalize hy0:(ms k).getD y 0=w at iy q3;have q4:min u w∈ms k:=by
   rcases Nat.le_total u w with z|z
   .rw[Nat.min_eq_left z];exact q0
   .rw[Nat.min_eq_right z];exact q3
  have rp:=afe (W:=⟨prog.call m,prog.cls⟩) (M:=M3) (ρ:=[sR t,sP K r U,a2,a3,b4,sI k,b6,b7,b8,sR q,b10,sI x,sI y,sR pm,sI (min u w:Nat),sI (max u w:Nat),n16,n17,n18]) (v:=13) (x:=5) (y:=19) (a:=14) (b:=15) (lo:=min u w) (hi:=max u w) (by simp[fk]) lk (by have:=hL _ hk;exact a_ (f_ qq) (a_ this (by decide))) rfl rfl rfl;obtain⟨o,so,zk⟩:=Z.set hk (ns:=Dd (min u w) (max u w) (ms k)) (by simp[Dd,qq]) (λz hz=>by
   obtain⟨v,hv,rfl⟩:=bc.mp hz;split
   .exact Z.lt _ hk _ q4
   .exact Z.lt _ hk _ hv) (aj9 (Z.fx _ hk) (λx hx=>by rw[qq];exact Z.lt _ hk x hx) q4) (b_ G hp)
  have q2:Ac q U L as (M3.set pm o):=q1.of λo e=>by rw[o7 (j0 qk)];exact e
  have R:M3.length=M.length:=u_ (a_ (f_ n3) (a_ (f_ n2) (f_ n1))) (a_ (g_ n1) (a_ (g_ n2) (g_ n3)));obtain⟨Bl,M5,e5,zq,q5,f5,l5⟩:=amc (r:=r) (M:=M3.set pm o) hm P zk q2 (by simp;exact b_ zv (g_ R)) (by simp;exact b_ qv (g_ R)) qk (b_ G hp) hL;have zz:Ac q U L as M5:=q2.of λo e=>f5 _ _ qk (by simp;exact b_ qv (g_ R)) e
  refine⟨some (.int k),sI x,sI y,sI (min u w:Nat),sI (max u w:Nat),Bl,M5,?_,zq,q5,zz,⟨?_,λa v ha na e=>?_,by simp at l5;exact a_ (g_ R) l5⟩⟩
  .simp[Dh,S8,e1,e2,e3,mx,fk,ln,c',ix,iy,aka,ab7,N7,rp,so,e5]
  .obtain⟨n,hn,ho⟩:=s.has
   exact⟨n,f5 _ _ (h_ (b_ G hp)) (by have:=vh hn;simp;exact this) (by rw[o7 (i_ (b_ G hp))];exact hn),ho⟩
  .refine f5 _ _ (h_ (b_ ha hp)) (by have:=vh e;simp;exact b_ this (g_ R)) ?_
   rw[o7 (i_ (b_ ha hp))];exact s.keep a v na e
 .have c':¬((max x y:Nat):Int)<(L k:Int):=by lia
  refine⟨some (.int k),sI x,sI y,b14,b15,ms,M3,?_,Z,hc,q1,Gs.afd s⟩;simp[Dh,S8,e1,e2,e3,mx,fk,ln,c']
def je(U:Y3)(Z:List (List Nat)):D:=.tup [.tup (U.map nD),.tup (Z.map λG=>.tup (G.map nD))]
def arx(h:.int v∈ds):ixI v ds<ds.length:=by
 unfold ixI;cases q:ds.findIdx? (λd=>match d with|.int i=>decide (i=v)|_=>false) with
 |some j=>exact(qj.mp q).1
 |none =>
  rw[wg] at q;have:=q _ h;simp at this
def ayj:∀{Z:List D},(∀d∈Z,∃i:Int,d=.int i)->.int v∈Z->Z[ixI v Z]?=some (.int v):=fun{Z} hi h=>by
 unfold ixI;cases q:Z.findIdx? (λd=>match d with|.int i=>decide (i=v)|_=>false) with
 |some j =>
  obtain⟨R,G,_⟩:=qj.mp q;obtain⟨i,U⟩:=hi Z[j] (nq R);rw[U] at G;have:i=v:=by simpa using G
  simp[R,U,this]
 |none =>
  rw[wg] at q;have:=q _ h;simp at this
def afg(l:Y3):∀d∈l.map nD,∃i:Int,d=.int i:=λd Z=>by obtain⟨x,_,rfl⟩:=bc.mp Z;exact⟨_,rfl⟩
def aht{l:Y3}(h:x∈l):.int (x:Int)∈l.map nD:=bc.mpr ⟨x,h,rfl⟩
def Rf(l:Y3)(x:Nat):Nat:=ixI (x:Int) (l.map nD)
def X4(h:x∈l):Rf l x<l.length:=by have:=arx (aht h);simpa[Rf] using this
def Td{l:Y3}(h:x∈l):l.getD (Rf l x) 0=x:=by have G:=ayj (afg l) (aht h);have Z:=X4 h;unfold Rf at Z ⊢;rw[ie,bf Z] at G;simp[nD] at G;rw[bz,bf Z];simp only[qt];exact D_ G
def Te(Z:Nat->List Nat)(g:F)(js G R:Y3):List Nat:=G.map λU=>Rf R ((Z g.b).getD (js.getD U 0) 0)
noncomputable def a5n(Z:List (List Nat))(x:Nat)(w:Int):Nat:=if w=-1 then x else(Z.getD w.toNat []).getD x 0
structure Gv(K:Nat)(hs:List F)(Tc:Y3)(Vv:List (List Nat)):Prop where
 ls:Tc.length=K
 la:Vv.length=hs.length
 sm:∀x∈Tc,x<=7
 ok:∀(j:Nat)(g:F)(js:Y3),hs[j]?=some g->Vv[j]?=some js->js.length=Tc.getD g.a 0/\∀x∈js,x<Tc.getD g.b 0
 fu:∀(j1 j2:Nat)(g1 g2:F)(a1 a2:Y3),hs[j1]?=some g1->hs[j2]?=some g2->g1.b=g2.a->Vv[j1]?=some a1->Vv[j2]?=some a2->∀x,x<a1.length->a2.getD (a1.getD x 0) 0=a5n Vv x (ent hs g1 g2)
def Bx(l:Y3):D:=.vl (l.map nD)
def arz(R:ρ.length=19)(qq:ρ[13]?=some (sR pm))(mk:Mk t pm K L ms M)(hK:K<=3)(h7:∀i,i<K->L i<=7) :
 ∃Z:List (List Nat),Ig.den W ρ M=.ok (.vl (Z.map Bx)) M/\Z.length=K/\∀e l,Z[e]?=some l->l.length<=L e/\l.Nodup/\∀x,x∈l↔x∈ms e:=by
 obtain⟨Z5,h1,h2,h3⟩:=mk.ex;unfold Ig;obtain⟨ys,U,e,rfl,Z,r1,r2,r3⟩:=J7 (W:=W) (v:=true) (k:=1) (t:=.name 19) (it:=.v 13) (e:=.blt .By (.o (.v 19))) (ρ:=ρ) (M:=M) (M1:=M) (d:=.ref pm) (ds:=Z5) (by simp[qq]) (jx h1) (a_ (f_ h2) (a_ hK (by decide)))
  (λi xs U=>U=M/\∃Z:List (List Nat),xs=Z.map Bx/\Z.length=i/\∀e l,Z[e]?=some l->l.length<=L e/\l.Nodup/\∀x,x∈l↔x∈ms e) ⟨rfl,[],rfl,rfl,by simp⟩ (λi xs U h=>by rw[h.1];exact jx h1)
  (λi y xs U hy hI=>by
   obtain⟨rfl,Z,rfl,q1,q2⟩:=hI;have hi:i<K:=by have:=(ak.mp hy).1;exact b_ this (f_ h2)
   obtain⟨d,g1,g2,_⟩:=h3 i hi;rw[hy] at g1;cases g1;obtain⟨l,k1,k2,k4,k3⟩:=ahs g2 (by have:=h7 i hi;have:=mk.len i hi;lia);have e1:(ρ++List.replicate 1 none).set 19 (some y)=ρ++[some y]:=by rw[Ag];simp[R]
   have g9:(ρ++[some y])[19]?=some (some y):=by rw[<- R];simp
   refine⟨_,Bx l,U,rfl,by rw[e1];simp[g9,k1,Bx],rfl,Z++[l],by simp,by simp[q1],λe l' G=>?_⟩
   by_cases z:e<Z.length
   .rw[dz z] at G;exact q2 e l' G
   .have ze:e=i:=by have:=(ak.mp G).1;simp at this;lia
    subst ze;rw[jo (s_ z),q1] at G;simp at G;subst G;rw[<- mk.len e hi];exact⟨k2,k4,k3⟩)
 refine⟨Z,by rw[e,r1];rfl,r2.trans h2,r3⟩
def ahu{Z:List (List Nat)}{i:Nat}(h:Z[i]?=some l):zg (.vl (Z.map Bx)) (.int i) M=some (Bx l):=Dc rfl q_ (by simp[h])
def amg{hl:List (List Nat)}(mk:Mk t pm K L R M)(ac:Ac q hs L as M){j:Nat}(hj:hs[j]?=some g)(ej:as[j]?=some G)(ga:g.a<K)(gb:g.b<K)(h1:hl[g.a]?=some la)(h2:hl[g.b]?=some lb)(q3:∀x,x∈la↔x∈R g.a)(q1:∀x,x∈lb↔x∈R g.b)(h7:la.length<=7)(hw:M[w]?=some (.lst td))(q0:td.length<100000) :
 ∃(q4:Option D)(zs:Y3),Eo.den W [a0,sP K r hs,a2,a3,b4,b5,b6,b7,b8,sR q,sI j,Cd,Ji,sR pm,b14,b15,D.vl (hl.map Bx),sR w,b18] M =
  .ok (.next,[a0,sP K r hs,a2,a3,b4,b5,b6,b7,b8,sR q,sI j,sI g.a,sI g.b,sR pm,b14,b15,some (.vl (hl.map Bx)),sR w,q4]) (M.set w (.lst (td++[.tup (zs.map nD)])))/\zs=Te R g G la lb/\zs.length=la.length/\∀x∈zs,x<lb.length:=by
 obtain⟨q5,qv,fj,lj,rj⟩:=ac.get hj;rw[ej] at qv;cases qv;obtain⟨db,fb,q2⟩:=mk.row gb;have hz:∀Z∈la,G.getD Z 0<(R g.b).length/\Z<G.length:=λZ h=>by
  have h3:=mk.lt _ ga Z ((q3 Z).mp h);have h4:Z<G.length:=b_ h3 (g_ lj)
  exact⟨by rw[mk.len _ gb];exact rj _ (getD_mem' h4),h4⟩
 have c3:Ie.den W [a0,sP K r hs,a2,a3,b4,b5,b6,b7,b8,sR q,sI j,sI g.a,sI g.b,sR pm,b14,b15,D.vl (hl.map Bx),sR w,b18] M=.ok (Bx (la.map λZ=>(R g.b).getD (G.getD Z 0) 0)) M:=by
  unfold Ie;rw[wz (d:=Bx la) (ds:=la.map nD) (M1:=M) (g:=λd=>match d with|.int o=>nD ((R g.b).getD (G.getD o.toNat 0) 0)|_=>.non) (by simp[ahu h1]) rfl (by simp;exact a_ h7 (by decide)) (λz U=>by
   obtain⟨Z,qq,rfl⟩:=bc.mp U;obtain⟨k1,k2⟩:=hz Z qq;refine⟨_,rfl,?_⟩;have i1:zg (.vl (G.map nD)) (.int Z) M=some (.int (G.getD Z 0)):=Jh rfl k2;have i2:=Jh q2 k1;show(Ex.ix (.ix (.v 13) (.v 12)) (.ix (.ix (.v 9) (.v 10)) (.v 19))).den W [a0,sP K r hs,a2,a3,b4,b5,b6,b7,b8,sR q,sI j,sI g.a,sI g.b,sR pm,b14,b15,D.vl (hl.map Bx),sR w,b18,sI Z] M=.ok (nD ((R g.b).getD (G.getD (Z:Int).toNat 0) 0)) M;rw[vz];generalize G.getD Z 0=yy at i1 i2;generalize(R g.b).getD yy 0=zz at i2;simp[fb,fj,i1,i2,nD])]
  simp[Bx,nD]
 have Tu:∀z∈la.map (λZ=>(R g.b).getD (G.getD Z 0) 0),.int (z:Int)∈lb.map nD:=λz h=>by obtain⟨Z,qq,rfl⟩:=bc.mp h;exact bc.mpr ⟨_,(q1 _).mpr (getD_mem' (hz Z qq).1),rfl⟩
 generalize bb3:la.map (λZ=>(R g.b).getD (G.getD Z 0) 0)=row at c3 Tu;have qk:row.length=la.length:=by rw[<- bb3];simp
 have c2:Ib.den W [a0,sP K r hs,a2,a3,b4,b5,b6,b7,b8,sR q,sI j,sI g.a,sI g.b,sR pm,b14,b15,D.vl (hl.map Bx),sR w,Bx row] M=.ok (.vl ((row.map λ(z:Nat)=>ixI (z:Int) (lb.map nD)).map nD)) M:=by
  unfold Ib;rw[wz (d:=Bx row) (ds:=row.map nD) (M1:=M) (g:=λd=>match d with|.int o=>nD (ixI o (lb.map nD))|_=>.non) (by simp) rfl (by simp;exact a_ (f_ qk) (a_ h7 (by decide))) (λz U=>by
   obtain⟨o,ho,rfl⟩:=bc.mp U;refine⟨_,rfl,?_⟩;have i1:=afb (M:=M) (ds:=lb.map nD) (v:=(o:Int)) (λd hd=>by obtain⟨x,_,rfl⟩:=bc.mp hd;exact⟨_,rfl⟩) (Tu o ho);show(Ex.bm .index (.ix (.v 16) (.v 12)) (.o (.v 19))).den W [a0,sP K r hs,a2,a3,b4,b5,b6,b7,b8,sR q,sI j,sI g.a,sI g.b,sR pm,b14,b15,D.vl (hl.map Bx),sR w,Bx row,sI o] M=_;simp[ahu h2,Bx,K7,i1,nD])]
  simp[nD]
 refine⟨some (Bx row),row.map λ(z:Nat)=>ixI (z:Int) (lb.map nD),?_,by rw[<- bb3,o4];rfl,by simp[qk],λx hx=>?_⟩
 .have pe:∀ρ,(Tg.names [11,12]).put (eD g) ρ=some ((ρ.set 11 (sI g.a)).set 12 (sI g.b)):=λ_=>rfl
  have ap:=Dm (d:=.tup ((row.map λ(z:Nat)=>ixI (z:Int) (lb.map nD)).map nD)) hw q0;simp only[o4] at c2 ap ⊢;simp[-List.map_map,Eo,Mr,R9 hj,pe,c3,c2,Ea hw,Wy,ap]
 .obtain⟨z,U,rfl⟩:=bc.mp hx
  have:=arx (Tu z U);simpa using this
def a5p(h:nD a=nD b):a=b:=by simp only[nD,D.int.injEq,Bf] at h;exact h
def ahv(Z:List F)(k:Nat):(uq Z k).Nodup:=by
 refine q9.mpr ⟨λh=>?_,?_⟩
 .obtain⟨x,_,e⟩:=bc.mp h
  simp[nD] at e
 .rw[j8,xu]
  exact((j8.mp List.nodup_range).filter _).imp λh e=>h (a5p e)
def ar0(Z:List F)(k g:Nat):(wT Z k g).Nodup:=(ahv Z k).filter _
def akf(h:Z4 n k w=Z4 G Z w'):n=G/\k=Z/\w=w':=by simp only[Z4,D.tup.injEq,List.cons.injEq,D.int.injEq,Bf,and_true] at h;exact h
def X5(Z:(ad.map (·.1)).Nodup)(e:Nat):(rowsOf R ad e).Nodup:=by
 rw[j8];unfold rowsOf;rw[List.pairwise_flatMap];refine⟨λp _=>?_,?_⟩
 .rw[xu]
  exact(j8.mp (ar0 R p.2 e)).imp λh q=>h (akf q).2.2
 .rw[j8,xu] at Z
  exact Z.imp λh x G y U q=>by obtain⟨u,_,rfl⟩:=bc.mp G;obtain⟨v,_,rfl⟩:=bc.mp U;exact h (akf q).1
def Ku{Z:Type}{l:List Z}(h:l.Nodup){i:Nat}{x:Z}(G:l[i]?=some x)(R:l[j]?=some x):i=j:=by have U:=(ak.mp G).1;exact(List.getElem?_inj U h).mp (G.trans R.symm)
def Z6{j:Nat}(h:bothW Z G x j=some (.int v)):bv Z G j (.int x)=v:=by simp[bv,h]
def ayk(P:Ef sz K Z U)(h1:Z[R]?=some g1)(h2:Z[j2]?=some g2)(e:g1.b=g2.a)(hx:.int x∈wT Z k g1.a) :
 (ent Z g1 g2=-1/\(g1.comp g2).P0/\bv Z U j2 (.int (bv Z U R (.int x)))=x)\/∃j3:Nat,ent Z g1 g2=j3/\Z[j3]?=some (g1.comp g2)/\bv Z U j2 (.int (bv Z U R (.int x)))=bv Z U j3 (.int x):=by
 have n1:¬((R:Int)=-1):=by lia
 have n2:¬((j2:Int)=-1):=by lia
 have m1:=ao h1;have m2:=ao h2;have Ji:bothW Z U R j2=some (.int (ent Z g1 g2)):=by rw[bothW,bx n1,bx n2];exact P.look h1 h2 e
 obtain⟨w1,w2⟩:=ahn hx;rcases Dk w1 with q|⟨i,f,q,hf,ef⟩
 .cases q
  have c1:bothW Z U (-1) R=some (.int R):=by simp[bothW]
  rw[Z6 c1,Z6 Ji,Lj];rcases P.Eb (P.cl g1 m1 g2 m2 e) with⟨G,i1⟩|⟨u,hu,G⟩
  .exact .inl ⟨G,i1,G⟩
  .refine .inr ⟨u,G,hu,?_⟩
   rw[G,Z6 (v:=u) (by simp[bothW])]
 .cases q
  have ni:¬((i:Int)=-1):=by lia
  rw[Dr hf] at w2;have c1:bothW Z U i R=some (.int (ent Z f g1)):=by rw[bothW,bx ni,bx n1];exact P.look hf h1 w2
  obtain⟨v,v1,v2⟩:=P.ao0 hf h1 h2 w2 e;rw[Z6 c1,Z6 v1];rw[Lj] at v2 ⊢;rcases P.Eb (P.cl g1 m1 g2 m2 e) with⟨G,i1⟩|⟨u,hu,G⟩
  .rw[G] at v2
   rw[bothW,bx ni,dg rfl] at v2;cases v2;exact .inl ⟨G,i1,rfl⟩
  .rw[G] at v2
   exact .inr ⟨u,G,hu,(Z6 v2).symm⟩
def Px(h:l.Nodup)(Z:x<l.length):Rf l (l.getD x 0)=x:=by
 have m:l.getD x 0∈l:=getD_mem' Z;have U:=Td m;have G:=X4 m;refine Ku h (x:=l.getD x 0) ?_ ?_
 .rw[bf G]
  rw[bz,bf G] at U;simpa using U
 .rw[bf Z,bz,bf Z];rfl
def X6(Z:x<la.length):(Te G g R la U).getD x 0=Rf U ((G g.b).getD (R.getD (la.getD x 0) 0) 0):=getD_map (α:=Nat) Z
def func(P:Ef sz K G ik){hd:List (List Nat)}(nd:(ad.map (·.1)).Nodup)(ml:∀e,e<K->(Z e).length=(rowsOf G ad e).length)(R:∀e,e<K->∀x∈Z e,x<(rowsOf G ad e).length)(fx:∀e,e<K->∀x∈Z e,(Z e).getD x 0=x)(cg:Cgs G as G.length Z)(ae:∀(j:Nat) (g:F) (js:Y3),G[j]?=some g->as[j]?=some js->Ae G ik ad j g js)(hh:∀e l,hd[e]?=some l->l.Nodup/\∀x,x∈l↔x∈Z e){j1 j2:Nat}(h1:G[j1]?=some g1)(h2:G[j2]?=some g2)(e:g1.b=g2.a)(q1:as[j1]?=some s1)(q2:as[j2]?=some s2)(qq:hd[g1.a]?=some la)(qk:hd[g1.b]?=some lb)(U:hd[g2.b]?=some lc)(hx:x<la.length) :
 (ent G g1 g2=-1/\(Te Z g2 s2 lb lc).getD ((Te Z g1 s1 la lb).getD x 0) 0=x) \/
  ∃j3:Nat,ent G g1 g2=j3/\G[j3]?=some (g1.comp g2)/\∀s3,as[j3]?=some s3->(Te Z g2 s2 lb lc).getD ((Te Z g1 s1 la lb).getD x 0) 0=(Te Z (g1.comp g2) s3 la lc).getD x 0:=by
 have m1:=ao h1;have m2:=ao h2;have ka:=P.R8 g1 m1;have kb:=P.Li g1 m1;have kc:=P.Li g2 m2;obtain⟨na,ma⟩:=hh _ _ qq;obtain⟨_,mb⟩:=hh _ _ qk;have A1:=ae _ _ _ h1 q1;have A2:=ae _ _ _ h2 q2;have hm:=(ma _).mp (getD_mem' hx);generalize hh0:la.getD x 0=h at hm;have Jp:=R _ ka h hm;obtain⟨n,k,w,_,hw,er⟩:=Jg (nq Jp);have r0:(rowsOf G ad g1.a)[h]?=some (Z4 n k (.int w)):=by rw[bf Jp,er]
 have r1:=A1.go _ _ _ _ r0;have r2:=A2.go _ _ _ _ (by rw[<- e];exact r1);have l1:s1.getD h 0<(Z g1.b).length:=by rw[ml _ kb];exact(ak.mp r1).1
 have v1:=getD_mem' l1;have yl:=X4 ((mb _).mpr v1);rw[X6 hx,hh0,X6 yl,Td ((mb _).mpr v1)];have c1:(Z g2.b).getD (s2.getD ((Z g1.b).getD (s1.getD h 0) 0) 0) 0=(Z g2.b).getD (s2.getD (s1.getD h 0) 0) 0:=by
  have qv:=(ak.mp h2).1;refine cg j2 g2 s2 qv h2 q2 _ _ ?_ ?_ ?_
  .rw[A2.len,<- e];exact R _ kb _ v1
  .rw[A2.len,<- e,<- ml _ kb];exact l1
  .rw[<- e];exact fx _ kb _ v1
 rw[c1];rcases ayk P h1 h2 e hw with⟨e1,i1,b1⟩|⟨j3,e1,h3,b1⟩
 .left
  refine⟨e1,?_⟩;have ab:g1.a=g2.b:=i1.1;rw[b1,<- ab] at r2;rw[<- ab] at U;rw[qq] at U;cases U;rw[Ku (X5 nd _) r2 r0,<- ab,fx _ ka h hm,<- hh0,Px na hx]
 .right
  refine⟨j3,e1,h3,λs3 q3=>?_⟩;have A3:=ae _ _ _ h3 q3;have r3:=A3.go h n k w r0;rw[X6 hx,hh0];rw[b1] at r2;have:s2.getD (s1.getD h 0) 0=s3.getD h 0:=Ku (X5 nd g2.b) r2 r3;rw[this];rfl
def afh(hm:2<=m)(P:Ef sz K Z ik)(hh:Q0 t f M)(hr:M[r]?=some (.dT ik))(y7:r≠t) :
 ∃Tc Vv M',prog.call m 29 [.ref t,Bw K r Z,.int 4] M=.ok (je Tc Vv) M'/\Gv K Z Tc Vv/\St t f M M':=by
 rw[call_of (a_ (by decide) hm) rfl];have h3:=P.k3;have hl:=P.len;have ht:t<M.length:=by obtain⟨n,h,_⟩:=hh;exact vh h
 have xv:=vh hr;have r0:=ari (W:=⟨prog.call (m-1),prog.cls⟩) (M:=M) (K:=K) (y:=19) (e:=.ix (.v 1) (.i 0)) (ρ:=[sR t,sP K r Z,sI 4,none,none,none,none,none,none,none,none,none,none,none,none,none,none,none,none]) rfl (by simp[S8]) (a_ h3 (by decide));have g0:Gs t f M.length M (M++List.replicate K (.lst [])):=Gs.app hh (bw _) _;have w0:Rw Z K M.length [] (M++List.replicate K (.lst [])):=⟨λi hi=>by
  rw[jo x_];simp[rowsOf,hi],by simp,by simp[rowsOf],Ao⟩
 obtain⟨v,M1,e1,l1,s1,n1⟩:=Bb (many:=5) (m:=m-1) (r_ hm) g0.has (by decide) (by decide);obtain⟨x7,M2,e2,⟨b4,b5,b6,b7,b8,rfl⟩,ad,w2,Yu,g2,n2⟩:=An (W:=⟨prog.call (m-1),prog.cls⟩) (t:=.name 4) (b:=Di) (it:=.call 14 (.p (.v 0) (.bin .add (.v 2) (.i 1)))) (n:=v)
  (ρ:=[sR t,sP K r Z,sI 4,some (.vl (uf M.length K)),none,none,none,none,none]++[none,none,none,none,none,none,none,none,none,none]) (M:=M++List.replicate K (.lst [])) (M1:=M1) (by simp[e1]) (e_ (b_ (o_ l1) (by decide)))
  (λi R M'=>(∃b4 b5 b6 b7 b8:Option D,R=[sR t,sP K r Z,sI 4,some (.vl (uf M.length K)),b4,b5,b6,b7,b8]++[none,none,none,none,none,none,none,none,none,none])/\∃ad,Rw Z K M.length ad M'/\(∀q∈ad,q.1<i)/\Gs t f M.length M M'/\M'.length=M.length+K)
  ⟨⟨none,none,none,none,none,rfl⟩,[],⟨w0.rs.keep s1 ht,w0.kd,w0.le,w0.nd⟩,by simp,g0.trans (Gs.afd s1),by simp at n1;exact n1⟩
  (λi R M2 hi hI=>by
   obtain⟨⟨b4,b5,b6,b7,b8,rfl⟩,ad,q1,hn,q2,q3⟩:=hI;obtain⟨c5,c6,c7,c8,y8,M3,e3,k1,Py,k2,k3⟩:=ax9 (m:=m-1) (r:=r) (n:=i) (r_ hm) P q2.has ht q1 hn (b5:=b5) (b6:=b6) (b7:=b7) (b8:=b8) (rest:=[none,none,none,none,none,none,none,none,none,none]) rfl;exact⟨_,.next,_,M3,rfl,e3,.inl rfl,⟨some (.int i),c5,c6,c7,c8,rfl⟩,y8,k1,Py,q2.trans k2,k3.trans q3⟩)
 have x6:=n2;obtain⟨xw,M3,e3,⟨G,Cd,Ji,rfl⟩,as,a3,a4,a5,w3,g3,n3⟩:=An (W:=⟨prog.call (m-1),prog.cls⟩) (t:=.name 10) (b:=Ij) (it:=.blt .len (.o (.ix (.v 1) (.i 1)))) (n:=Z.length)
  (ρ:=[sR t,sP K r Z,sI 4,D.vl (uf M.length K),b4,b5,b6,b7,b8,sR M2.length,none,none,none,none,none,none,none,none,none]) (M:=M2++[.lst []]) (M1:=M2++[.lst []]) (by simp[Mr,Ow]) (a_ hl (by decide))
  (λj R M'=>(∃G Cd Ji:Option D,R=[sR t,sP K r Z,sI 4,some (.vl (uf M.length K)),b4,b5,b6,b7,b8,sR M2.length,G,Cd,Ji,none,none,none,none,none,none]) /\
   ∃as:List (List Nat),M'[M2.length]?=some (.lst (as.map λU=>.vl (U.map nD)))/\as.length=j/\(∀(j:Nat)(g:F)(U:Y3),Z[j]?=some g->as[j]?=some U->Ae Z ik ad j g U)/\Rw Z K M.length ad M'/\Gs t f M.length M M'/\M'.length=M2.length+1)
  ⟨⟨none,none,none,rfl⟩,[],by simp,rfl,by simp,⟨λi hi=>qu (w2.rs i hi),w2.kd,w2.le,w2.nd⟩,g2.trans (Gs.app g2.has (by lia) _),by simp⟩
  (λj R M3 hj hI=>by
   obtain⟨⟨G,Cd,Ji,rfl⟩,as,q1,q2,q3,q4,q5,q6⟩:=hI;have qq:Z[j]?=some Z[j]:=by simp[hj]
   obtain⟨U,c7,k1⟩:=a5l (m:=m-1) (M:=M3) (r:=r) (r_ hm) P (q5.low _ _ xv y7 hr) q4 qq (a0:=some (.ref t)) (a2:=some (.int 4)) (a4:=b4) (a5:=b5) (a6:=b6) (a7:=b7) (a8:=b8) (a9:=some (.ref M2.length)) (rest:=[none,none,none,none,none,none]) rfl;have ap:=Dm (d:=.vl (U.map nD)) q1 (by simp;exact c_ (f_ q2) (b_ hj (a_ hl (by decide))));have pe:∀R,(Tg.names [11,12]).put (eD Z[j]) R=some ((R.set 11 (some (.int Z[j].a))).set 12 (some (.int Z[j].b))):=λ_=>rfl
   simp only[zm,Af] at c7;refine⟨_,.next,_,M3.set M2.length (.lst ((as.map λU=>.vl (U.map nD))++[.vl (U.map nD)])),rfl,by simp[Ij,Mr,R9 qq,pe,Ea q1,c7,ap],.inl rfl,⟨some (.int j),some (.int Z[j].a),some (.int Z[j].b),rfl⟩,as++[U],by rw[vo q1];simp,by simp[q2],λj' g qv hg Z7=>?_,⟨λi hi=>?_,q4.kd,q4.le,q4.nd⟩,q5.trans (Gs.arl q5.has (Rb.set (by lia)) ht (by simp)),by simp[q6]⟩
   .by_cases z:j'<as.length
    .rw[dz z] at Z7;exact q3 j' g qv hg Z7
    .have ze:j'=j:=by have:=(ak.mp Z7).1;simp at this;lia
     subst ze;rw[jo (s_ z),q2] at Z7;simp at Z7;subst Z7;rw[qq] at hg;cases hg;exact k1
   .rw[o7 (by lia)];exact q4.rs i hi)
 obtain⟨M4,e4,y9,zv,n4⟩:=amd (W:=⟨prog.call (m-1),prog.cls⟩) (t:=t) (M:=M3) (ρ:=[sR t,sP K r Z,sI 4,D.vl (uf M.length K),b4,b5,b6,b7,b8,sR M2.length,G,Cd,Ji,none,none,none,none,none,none]) rfl rfl w3.rs h3 w3.le (by lia);have g4:Gs t f M.length M M4:=g3.trans ⟨by obtain⟨n,h,o⟩:=g3.has;exact⟨n,zv _ _ h,o⟩,λa o _ _ e=>zv a o e,by lia⟩;have u4:Ac M2.length Z (λe=>(rowsOf Z ad e).length) as M4:=⟨zv _ _ a3,a4,λj g U h1 h2=>⟨(a5 j g U h1 h2).len,(a5 j g U h1 h2).lt⟩⟩;have xk:Cgs Z as Z.length (λe=>List.range (rowsOf Z ad e).length):=λj g U _ h1 h2 x y hx hy e=>by
  have hl:=(a5 j g U h1 h2).len;have ex:(List.range (rowsOf Z ad g.a).length).getD x 0=x:=by simp[<- hl,hx]
  have ey:(List.range (rowsOf Z ad g.a).length).getD y 0=y:=by simp[<- hl,hy]
  simp only[ex,ey] at e;rw[e]
 obtain⟨u,M5,e5,l5,s5,n5⟩:=Bb (many:=4) (m:=m-1) (r_ hm) g4.has (by decide) (by decide);obtain⟨x5,M6,e6,⟨d5,z3,z4,z0,q8,qk,rfl⟩,ms,zq,u6,z7,g6,n6⟩:=An (W:=⟨prog.call (m-1),prog.cls⟩) (t:=.name 10) (b:=Dh) (it:=.call 14 (.p (.v 0) (.i 4))) (n:=u)
  (ρ:=[sR t,sP K r Z,sI 4,D.vl (uf M.length K),b4,b5,b6,b7,b8,sR M2.length,G,Cd,Ji,sR (M3.length+K),none,none,none,none,none]) (M:=M4) (M1:=M5) (by simp[e5]) (e_ (b_ (o_ l5) (by decide)))
  (λ_ R M'=>(∃b5 G Cd Ji q0 q7:Option D,R=[sR t,sP K r Z,sI 4,some (.vl (uf M.length K)),b4,b5,b6,b7,b8,sR M2.length,G,Cd,Ji,sR (M3.length+K),q0,q7,none,none,none]) /\
   ∃ms,Mk t (M3.length+K) K (λe=>(rowsOf Z ad e).length) ms M'/\Cgs Z as Z.length ms/\Ac M2.length Z (λe=>(rowsOf Z ad e).length) as M'/\Gs t f M.length M M'/\M3.length+K<M'.length)
  ⟨⟨b5,G,Cd,Ji,none,none,rfl⟩,_,y9.st s5 (by lia),xk,u4.of λo e=>s5.keep _ _ (by lia) e,g4.trans (Gs.afd s5),by lia⟩
  (λi R M6 hi hI=>by
   obtain⟨⟨b5,G,Cd,Ji,q0,q7,rfl⟩,ms,q1,qc,q2,q3,q4⟩:=hI;obtain⟨c5,J5,yk,u7,yy,Bl,M7,e7,k1,kc,k2,k3⟩:=ayi (m:=m-1) (r:=r) (p:=M.length) (r_ hm) P q3.has q1 q2 ht (by lia) q4 (by lia) (by lia) (by lia) w3.le qc (a2:=some (.int 4)) (a3:=some (.vl (uf M.length K))) (b4:=b4) (b5:=b5) (b6:=b6) (b7:=b7) (b8:=b8) (b10:=some (.int i)) (Cd:=Cd) (Ji:=Ji) (b14:=q0) (b15:=q7) (n16:=none) (n17:=none) (n18:=none);exact⟨_,.next,_,M7,rfl,e7,.inl rfl,⟨c5,sI i,J5,yk,u7,yy,rfl⟩,Bl,k1,kc,k2,q3.trans k3,by have:=k3.len;exact b_ q4 this⟩)
 obtain⟨hd,e7,zz,z6⟩:=arz (W:=⟨prog.call (m-1),prog.cls⟩) (M:=M6) (ρ:=[sR t,sP K r Z,sI 4,D.vl (uf M.length K),b4,d5,b6,b7,b8,sR M2.length,z3,z4,z0,sR (M3.length+K),q8,qk,none,none,none]) rfl rfl zq h3 w3.le;have zw:∀e,e<K->∃l,hd[e]?=some l/\l.length<=7/\∀x,x∈l↔x∈ms e:=λe he=>by have z:hd[e]?=some hd[e]:=bf (b_ he (g_ zz));obtain⟨y1,_,y2⟩:=z6 e _ z;have:=w3.le e he;exact⟨_,z,a_ y1 this,y2⟩
 obtain⟨x8,M8,e8,⟨yv,jv,yx,z9,rfl⟩,td,t1,t2,t3,t4,g8,n8⟩:=An (W:=⟨prog.call (m-1),prog.cls⟩) (t:=.name 10) (b:=Eo) (it:=.blt .len (.o (.ix (.v 1) (.i 1)))) (n:=Z.length)
  (ρ:=[sR t,sP K r Z,sI 4,D.vl (uf M.length K),b4,d5,b6,b7,b8,sR M2.length,z3,z4,z0,sR (M3.length+K),q8,qk,D.vl (hd.map Bx),sR M6.length,none]) (M:=M6++[.lst []]) (M1:=M6++[.lst []]) (by simp[Mr,Ow]) (a_ hl (by decide))
  (λj R M'=>(∃G Cd Ji zk:Option D,R=[sR t,sP K r Z,sI 4,some (.vl (uf M.length K)),b4,d5,b6,b7,b8,sR M2.length,G,Cd,Ji,sR (M3.length+K),q8,qk,some (.vl (hd.map Bx)),sR M6.length,zk]) /\
   ∃td:List (List Nat),M'[M6.length]?=some (.lst (td.map λU=>.tup (U.map nD)))/\td.length=j/\(∀(j:Nat)(g:F)(U:Y3),Z[j]?=some g->td[j]?=some U->U.length=(hd.map List.length).getD g.a 0/\∀x∈U,x<(hd.map List.length).getD g.b 0)/\(∀(j:Nat)(g:F)(U:Y3),Z[j]?=some g->td[j]?=some U->∃s la lb,as[j]?=some s/\hd[g.a]?=some la/\hd[g.b]?=some lb/\U=Te ms g s la lb)/\yd M6 M'/\M'.length=M6.length+1)
  ⟨⟨z3,z4,z0,none,rfl⟩,[],by simp,rfl,by simp,by simp,yd.app _ _,by simp⟩
  (λj R M7 hj hI=>by
   obtain⟨⟨G,Cd,Ji,zk,rfl⟩,td,q1,q2,q3,qe,q4,q5⟩:=hI;have qq:Z[j]?=some Z[j]:=by simp[hj]
   obtain⟨sj,ej,_⟩:=z7.get qq;have hg:=ao qq;obtain⟨la,x1,x2,x3⟩:=zw _ (P.R8 _ hg);obtain⟨lb,y1,y2,y3⟩:=zw _ (P.Li _ hg);have y5:=zq.frame (M':=M7) (λa o _ _ e=>q4 a o e) (by lia);have y6:=z7.of (M':=M7) λo e=>q4 _ _ e
   obtain⟨jj,zs,e9,kz,k1,k2⟩:=amg (W:=⟨prog.call (m-1),prog.cls⟩) (r:=r) y5 y6 (hl:=hd) qq ej (P.R8 _ hg) (P.Li _ hg) x1 y1 x3 y3 x2 q1 (by simp;exact c_ (f_ q2) (b_ hj (a_ hl (by decide)))) (a0:=some (.ref t)) (a2:=some (.int 4)) (a3:=some (.vl (uf M.length K))) (b4:=b4) (b5:=d5) (b6:=b6) (b7:=b7) (b8:=b8) (Cd:=Cd) (Ji:=Ji) (b14:=q8) (b15:=qk) (b18:=zk);refine⟨_,.next,_,_,rfl,e9,.inl rfl,⟨some (.int j),some (.int Z[j].a),some (.int Z[j].b),jj,rfl⟩,td++[zs],by rw[vo q1];simp,by simp[q2],λj' g qv Y7 Z7=>?_,λj' g qv Y7 Z7=>?_,λa o e=>?_,by simp[q5]⟩
   .by_cases z:j'<td.length
    .rw[dz z] at Z7;exact q3 j' g qv Y7 Z7
    .have ze:j'=j:=by have:=(ak.mp Z7).1;simp at this;lia
     subst ze;rw[jo (s_ z),q2] at Z7;simp at Z7;subst Z7;rw[qq] at Y7;cases Y7;have u1:(hd.map List.length).getD Z[j'].a 0=la.length:=by simp[bz,x1]
     have u2:(hd.map List.length).getD Z[j'].b 0=lb.length:=by simp[bz,y1]
     rw[u1,u2];exact⟨k1,k2⟩
   .by_cases z:j'<td.length
    .rw[dz z] at Z7;exact qe j' g qv Y7 Z7
    .have ze:j'=j:=by have:=(ak.mp Z7).1;simp at this;lia
     subst ze;rw[jo (s_ z),q2] at Z7;simp at Z7;subst Z7;rw[qq] at Y7;cases Y7;exact⟨sj,la,lb,ej,x1,y1,kz⟩
   .rw[o7 (by have:=vh e;exact i_ this)];exact q4 a o e)
 have c1:Ia.den ⟨prog.call (m-1),prog.cls⟩ [sR t,sP K r Z,sI 4,D.vl (uf M.length K),b4,d5,b6,b7,b8,sR M2.length,yv,jv,yx,sR (M3.length+K),q8,qk,D.vl (hd.map Bx),sR M6.length,z9] M8=.ok (.vl ((hd.map List.length).map nD)) M8:=by
  unfold Ia;rw[wz (d:=.vl (hd.map Bx)) (ds:=hd.map Bx) (M1:=M8) (g:=λd=>match d with|.vl l=>.int l.length|_=>.non) (by simp) rfl (by simp;exact a_ (f_ zz) (a_ h3 (by decide))) (λz hz=>by
   obtain⟨l,z5,rfl⟩:=bc.mp hz;refine⟨_,rfl,?_⟩;simp[Bx,o8,T4])]
  simp[Bx,nD]
 refine⟨hd.map List.length,td,M8,?_,⟨by simp[zz],t2,λx hx=>?_,t3,λj1 j2 g1 g2 z1 z2 h1 h2 eg q1 q2 x hx=>?_⟩,?_⟩
 .simp only[zm,Af] at e2
  have uj:Oc.den ⟨prog.call (m-1),prog.cls⟩ _ _=_:=e2;have z8:Oa.den ⟨prog.call (m-1),prog.cls⟩ _ _=_:=e3;have y4:N8.den ⟨prog.call (m-1),prog.cls⟩ _ _=_:=e6;have uk:N6.den ⟨prog.call (m-1),prog.cls⟩ _ _=_:=e8;have xy:Mm.den ⟨prog.call (m-1),prog.cls⟩ _ _=_:=r0;simp[-List.map_map,Fn.run,Rt,Rr,xy,uj,MW.new,z8,e4,y4,e7,uk,c1,Wy,o8,Kf (jx t1),je]
 .obtain⟨l,z5,rfl⟩:=bc.mp hx
  obtain⟨i,hi,rfl⟩:=pq z5;obtain⟨l2,y1,y2,_⟩:=zw i (b_ hi (f_ zz));rw[bf hi] at y1;cases y1;exact y2
 .obtain⟨s1,la,lb,i1,i2,i3,rfl⟩:=t4 _ _ _ h1 q1
  obtain⟨s2,x4,lc,i4,i5,i6,rfl⟩:=t4 _ _ _ h2 q2;rw[<- eg,i3] at i5;cases i5;have uu:x<la.length:=by simpa[Te] using hx
  rcases func P w3.nd zq.len zq.lt zq.fx u6 a5 (λe l he=>(z6 e l he).2) h1 h2 eg i1 i4 i2 i3 i6 uu with⟨e1,e2⟩|⟨j3,e1,e2,e3⟩
  .rw[e2,a5n,dg e1]
  .have l3:=(ak.mp e2).1
   have u3:td[j3]?=some td[j3]:=bf (b_ l3 (g_ t2));obtain⟨s3,la',lc',i7,i8,i9,y0⟩:=t4 _ _ _ e2 u3;have i8:hd[g1.a]?=some la':=i8;have i9:hd[g2.b]?=some lc':=i9;rw[i2] at i8;cases i8;rw[i6] at i9;cases i9;have nj:¬((j3:Int)=-1):=by lia
   rw[e3 _ i7,<- y0,a5n,e1,bx nj];simp[bz,u3]
 .have:Gs t f M.length M M8:=g6.trans ⟨by obtain⟨n,h,o⟩:=g6.has;exact⟨n,g8 _ _ h,o⟩,λa o _ _ e=>g8 a o e,by lia⟩
  exact this.st
def u9(l:Y3):D:=.tup (l.map nD)
def afi(s:Y3)(a:List (List Nat))(M:dh):zg (je s a) (.int 0) M=some (u9 s):=rfl
def ar3(s:Y3)(a:List (List Nat))(M:dh):zg (je s a) (.int 1) M=some (.tup (a.map u9)):=rfl
def Qo{l:Y3}(h:i<l.length):zg (u9 l) (.int i) M=some (.int (l.getD i 0)):=J6 q_ (by simp[h,nD])
def az4{a:List (List Nat)}{j:Nat}(h:a[j]?=some Z):zg (.tup (a.map u9)) (.int j) M=some (u9 Z):=J6 q_ (by simp[h])
def Fe{Z:Type}{l:List Z}{i:Nat}(h:i<l.length):∃x,l[i]?=some x:=⟨l[i],by simp[h]⟩
def Aa{Z:Type}{l:List Z}{i:Nat}{x d:Z}(h:l[i]?=some x):l.getD i d=x:=by simp[bz,h]
def Gv.get(w:Gv K G s1 a1){k:Nat}{g:F}(h:G[k]?=some g):∃Z,a1[k]?=some Z/\Z.length=s1.getD g.a 0/\∀x∈Z,x<s1.getD g.b 0:=by obtain⟨Z,e⟩:=Fe (l:=a1) (i:=k) (by rw[w.la];exact(ak.mp h).1);exact⟨Z,e,w.ok k g Z h e⟩
def Gv.s7(w:Gv K Z s1 a1)(k:Nat):s1.getD k 0<=7:=by
 rw[bz];cases e:s1[k]? with
 |none=>exact iz _|some x=>exact w.sm x (ao e)
noncomputable def Ec(a:List (List Nat))(x:Nat)(d:D):Nat:=match d with
 |.int w=>if w=-1 then x else(a.getD w.toNat []).getD x 0
 |_=>0
def Gr{a:List (List Nat)}{i:Nat}(h:a[i]?=some G):Ec a x (.int i)=G.getD x 0:=by
 have Z:¬((i:Int)=-1):=by lia
 simp only[Ec,bx Z,vz,Aa h]
def ar4(Z:List F)(k:Nat):.int (-1)∈uq Z k:=cu
noncomputable abbrev Tr:=Nat×Nat×Nat
def Lies(K:Nat)(s:Y3)(p:Tr):Prop:=p.1<K/\p.2.1<s.getD p.1 0/\p.2.2<s.getD p.1 0
abbrev V8(K:Nat)(s:Y3)(ps:List Tr):Prop:=∀p∈ps,Lies K s p
inductive Rg(hs:List F)(a:List (List Nat))(ps:List Tr):Nat->Nat->Nat->Prop where
 |rf (e x:Nat):Rg hs a ps e x x
 |bs {p:Tr} {d:D} (h:p∈ps) (k:d∈uq hs p.1):Rg hs a ps (zj hs p.1 d) (Ec a p.2.1 d) (Ec a p.2.2 d)
 |sy {e x y:Nat} (h:Rg hs a ps e x y):Rg hs a ps e y x
 |tr {e x y z:Nat} (h:Rg hs a ps e x y) (k:Rg hs a ps e y z):Rg hs a ps e x z
def Jj(w:Gv K G s a)(hd:d∈uq G k)(Z:x<s.getD k 0):Ec a x d<s.getD (zj G k d) 0:=by
 rcases Dk hd with rfl|⟨i,g,rfl,hg,rfl⟩
 .exact Z
 .obtain⟨js,h1,U,R⟩:=w.get hg
  rw[Gr h1,Dr hg];exact R _ (getD_mem' (b_ Z (g_ U)))
def ar5(P:Ef sz K Z R)(G:d∈uq Z k)(U:k<K):zj Z k d<K:=by
 rcases Dk G with rfl|⟨i,g,rfl,hg,rfl⟩
 .exact U
 .rw[Dr hg];exact P.Li _ (ao hg)
def akg(P:Ef sz K Z ik){i j:Nat}(U:Z[i]?=some f)(R:Z[j]?=some g)(e:f.b=g.a):.int (ent Z f g)∈uq Z f.a/\zj Z f.a (.int (ent Z f g))=g.b:=by
 by_cases z:f.comp g∈Z
 .have G:=V3 (f.comp g) z
  simp only[ent,dg z];exact⟨ab2 G rfl,(show zj Z f.a _=(f.comp g).b from Dr G)⟩
 .have id:=(P.cl f (ao U) g (ao R) e).resolve_left z
  simp only[ent,bx z];exact⟨ar4 _ _,id.1⟩
def ar6(P:Ef sz K Z ik)(w:Gv K Z s a)(hd:d∈uq Z k){j:Nat}(G:Z[j]?=some g)(ej:a[j]?=some R)(e:zj Z k d=g.a) :
 ∃U∈uq Z k,zj Z k U=g.b/\∀x,x<s.getD k 0->Ec a x U=R.getD (Ec a x d) 0:=by
 rcases Dk hd with rfl|⟨i,f,rfl,hf,rfl⟩
 .have e:k=g.a:=e
  exact⟨.int j,ab2 G e.symm,Dr G,λx _=>Gr ej⟩
 .rw[Dr hf] at e
  obtain⟨ai,h1,h2,_⟩:=w.get hf;obtain⟨w1,w2⟩:=akg P hf G e;exact⟨_,w1,w2,λx hx=>by rw[Gr h1,w.fu i j f g ai R hf G e h1 ej x (b_ hx (g_ h2))];rfl⟩
def Rg.ac(P:Ef sz K Z ik)(w:Gv K Z s a)(ok:V8 K s ps){j:Nat}(hj:Z[j]?=some g)(ej:a[j]?=some U)(h:Rg Z a ps e x y):e=g.a->Rg Z a ps g.b (U.getD x 0) (U.getD y 0):=by
 induction h with
 |rf e x=>exact λ_=>.rf _ _
 |@bs p d hp hd =>
  intro z;obtain⟨d',h1,h2,G⟩:=ar6 P w hd hj ej z;have:=Rg.bs (a:=a) hp h1;rw[h2,G _ (ok p hp).2.1,G _ (ok p hp).2.2] at this;exact this
 |sy _ ih=>exact λz=>(ih z).sy
 |tr _ _ R i2=>exact λz=>(R z).tr (i2 z)
def Rg.lt(P:Ef sz K U ik)(w:Gv K U s a)(ok:V8 K s ps)(h:Rg U a ps e x y):x=y\/(x<s.getD e 0/\y<s.getD e 0):=by
 induction h with
 |rf e x=>exact .inl rfl|bs R hd=>exact .inr ⟨Jj w hd (ok _ R).2.1,Jj w hd (ok _ R).2.2⟩|sy _ ih=>exact ih.imp Eq.symm And.symm
 |tr _ _ Z G =>
  rcases Z with rfl|Z
  .exact G
  .rcases G with rfl|G
   .exact .inr Z
   .exact .inr ⟨Z.1,G.2⟩
def Rg.more(h:Rg G a ps e x y)(k:∀p∈ps,p∈qs):Rg G a qs e x y:=by
 induction h with
 |rf e x=>exact .rf _ _|bs R hd=>exact .bs (k _ R) hd|sy _ ih=>exact ih.sy|tr _ _ Z U=>exact Z.tr U
noncomputable abbrev vm(ms:Nat->List Nat)(e x:Nat):Nat:=(ms e).getD x 0
structure Cn(K:Nat)(s:Y3)(ms:Nat->List Nat):Prop where
 len:∀e,e<K->(ms e).length=s.getD e 0
 dn:∀e,e<K->∀x,vm ms e x<=x
 fx:∀e,e<K->∀x,x<s.getD e 0->vm ms e (vm ms e x)=vm ms e x
def Cn.mem(c:Cn K s Z)(G:e<K)(z:Nat):z∈Z e↔z<s.getD e 0/\decide (vm Z e z=z)=true:=by
 rw[dm];constructor
 .intro h
  obtain⟨x,U,rfl⟩:=pq h;have e1:vm Z e x=(Z e)[x]:=by simp[vm,U]
  have l:=c.len e G;have d:=c.dn e G x;rw[<- e1];exact⟨by lia,c.fx e G x (by lia)⟩
 .intro h
  have:=getD_mem' (l:=Z e) (x:=z) (by rw[c.len e G];exact h.1);have R:(Z e).getD z 0=z:=h.2;rw[R] at this;exact this
def Cn.uniq(c:Cn K s G)(c':Cn K s Z)(U:e<K)(h:∀x y,x<s.getD e 0->y<s.getD e 0->(vm G e x=vm G e y↔vm Z e x=vm Z e y)):G e=Z e:=by
 apply uo;intro x
 by_cases R:x<s.getD e 0
 .have le:∀{G Z:Nat->List Nat},Cn K s G->Cn K s Z->(∀x y,x<s.getD e 0->y<s.getD e 0->(vm G e x=vm G e y->vm Z e x=vm Z e y))->vm Z e x<=vm G e x:=fun{G Z} c c' h=>by
   have d:=c.dn e U x;have:=h _ x (by lia) R (c.fx e U x R);rw[<- this];exact c'.dn e U _
  have e1:=u_ (le c' c λx y a b=>(h x y a b).mpr) (le c c' λx y a b=>(h x y a b).mp);have l1:x<(G e).length:=by rw[c.len e U];exact R
  have l2:x<(Z e).length:=by rw[c'.len e U];exact R
  simp only[vm,bz,bf l1,bf l2,qt] at e1;rw[bf l1,bf l2,e1]
 .rw[gr (by rw[c.len e U];exact s_ R),gr (by rw[c'.len e U];exact s_ R)]
def Mv(Z:Nat->List Nat)(e x y:Nat):Nat->List Nat:=up Z e (Dd (min (vm Z e x) (vm Z e y)) (max (vm Z e x) (vm Z e y)) (Z e))
def Vl(h:e'≠e):Mv Z e x y e'=Z e':=by simp[Mv,up,h]
def ar7{l:Y3}(h:z<l.length):(Dd lo Z l).getD z 0=if l.getD z 0=Z then lo else l.getD z 0:=by unfold Dd;rw[getD_map (α:=Nat) h]
def Ur(Z:Nat->List Nat)(e x y z:Nat):vm (Mv Z e x y) e z=if vm Z e z=max (vm Z e x) (vm Z e y) then min (vm Z e x) (vm Z e y) else vm Z e z:=by
 have:Mv Z e x y e=Dd (min (vm Z e x) (vm Z e y)) (max (vm Z e x) (vm Z e y)) (Z e):=by simp[Mv,up]
 by_cases h:z<(Z e).length
 .show(Mv Z e x y e).getD z 0=_
  rw[this,ar7 h]
 .have G:vm Z e z=0:=by
   simp only[vm,bz];rw[gr (s_ h)];rfl
  have U:vm (Mv Z e x y) e z=0:=by simp only[vm,bz] at this ⊢;rw[this,gr (by simpa[Dd] using h)];rfl
  rw[G,U];split<;>lia
def ar8(c:Cn K s Z)(R:e<K)(hx:x<s.getD e 0)(hy:y<s.getD e 0):Cn K s (Mv Z e x y):=by
 have ma:max (vm Z e x) (vm Z e y)=vm Z e x\/max (vm Z e x) (vm Z e y)=vm Z e y:=by lia
 have mi:min (vm Z e x) (vm Z e y)=vm Z e x\/min (vm Z e x) (vm Z e y)=vm Z e y:=by lia
 have le:min (vm Z e x) (vm Z e y)<=max (vm Z e x) (vm Z e y):=by lia
 have fl:vm Z e (min (vm Z e x) (vm Z e y))=min (vm Z e x) (vm Z e y):=by
  rcases mi with h|h<;>rw[h]
  .exact c.fx e R x hx
  .exact c.fx e R y hy
 have lo:min (vm Z e x) (vm Z e y)<s.getD e 0:=by have:=c.dn e R x;have:=c.dn e R y;lia
 refine⟨λG U=>?_,λG U z=>?_,λG U z hz=>?_⟩
 .by_cases q:G=e
  .subst q;simp[Mv,up,Dd,c.len G U]
  .rw[Vl q];exact c.len G U
 .by_cases q:G=e
  .subst q
   by_cases hz:z<s.getD G 0
   .rw[Ur]
    have:=c.dn G R z;split<;>lia
   .have:(Mv Z G x y G).length=s.getD G 0:=by simp[Mv,up,Dd,c.len G U]
    simp only[vm,bz];rw[gr (by rw[this];exact s_ hz)];exact iz _
  .simp only[vm];rw[Vl q];exact c.dn G U z
 .by_cases q:G=e
  .subst q
   rw[Ur (z:=z)]
   by_cases h:vm Z G z=max (vm Z G x) (vm Z G y)
   .rw[dg h,Ur,fl]
    split<;>lia
   .rw[bx h]
    have d:=c.dn G R z;rw[Ur,c.fx G R z hz,bx h]
  .simp only[vm];rw[Vl q];exact c.fx G U z hz
def akh:vm (Mv Z e x y) e u=vm (Mv Z e x y) e v↔(vm Z e u=vm Z e v\/(vm Z e u=vm Z e x/\vm Z e v=vm Z e y)\/(vm Z e u=vm Z e y/\vm Z e v=vm Z e x)):=by rw[Ur,Ur];split<;>split<;>lia
def bb8(h:vm Z e u=vm Z e v):vm (Mv Z G x y) e u=vm (Mv Z G x y) e v:=by
 by_cases q:e=G
 .subst q;exact akh.mpr (.inl h)
 .simp only[vm];rw[Vl q];exact h
def ayl(h:vm ms e x=vm ms e y):Mv ms e x y=ms:=by
 funext e'
 by_cases q:e'=e
 .subst q
  simp only[Mv,up,dg,h,Nat.max_self,Nat.min_self,Dd]
  conv=>rhs;rw[<- List.map_id (ms e')]
  apply jc;intro o _;split<;>simp_all
 .exact Vl q
def ar9(c:Cn K s ms)(Z:e<K)(G:x<s.getD e 0)(U:y<s.getD e 0)(h:vm ms e x≠vm ms e y):K1 K (Mv ms e x y)<K1 K ms:=by
 refine(aho ?_ K).2 Z;refine ab5 (by lia) ?_;have R:max (vm ms e x) (vm ms e y)=vm ms e x\/max (vm ms e x) (vm ms e y)=vm ms e y:=by lia
 rcases R with q|q<;>rw[q]
 .exact getD_mem' (by rw[c.len e Z];exact G)
 .exact getD_mem' (by rw[c.len e Z];exact U)
def Snd(K:Nat)(U:List F)(s:Y3)(a:List (List Nat))(G:List Tr)(Z:Nat->List Nat):Prop:=∀e,e<K->∀x y,x<s.getD e 0->y<s.getD e 0->vm Z e x=vm Z e y->Rg U a G e x y
def asa(c:Cn K s ms)(Z:e<K)(hx:x<s.getD e 0)(hy:y<s.getD e 0)(h:Snd K hs s a ps ms)(r:Rg hs a ps e x y):Snd K hs s a ps (Mv ms e x y):=λe' R u v G U z=>by
 by_cases q:e'=e
 .subst q
  rcases akh.mp z with z|⟨z1,z2⟩|⟨z1,z2⟩
  .exact h _ Z u v G U z
  .exact((h _ Z u x G hx z1).tr r).tr (h _ Z y v hy U z2.symm)
  .exact((h _ Z u y G hy z1).tr r.sy).tr (h _ Z x v hx U z2.symm)
 .refine h _ R u v G U ?_
  simp only[vm] at z;rw[Vl q] at z;exact z
def Ker(K:Nat)(U:List F)(s:Y3)(a:List (List Nat))(G:List Tr)(Z:Nat->List Nat):Prop:=∀e,e<K->∀x y,x<s.getD e 0->y<s.getD e 0->(vm Z e x=vm Z e y↔Rg U a G e x y)
theorem Ker.uniq(h:Ker K hs s a ps R)(c:Cn K s R)(h':Ker K hs s a ps U)(c':Cn K s U)(Z:e<K):R e=U e :=
 c.uniq c' Z λx y G hy=>(h e Z x y G hy).trans (h' e Z x y G hy).symm
def asb(P:Ef sz K Z ik)(w:Gv K Z s a)(ok:V8 K s ps)(h:Snd K Z s a ps ms)(cl:∀p∈ps,∀d∈uq Z p.1,vm ms (zj Z p.1 d) (Ec a p.2.1 d)=vm ms (zj Z p.1 d) (Ec a p.2.2 d)):Ker K Z s a ps ms:=λe G x y U R=>by
 refine⟨h e G x y U R,λr=>?_⟩;clear U R
 induction r with
 |rf e x=>rfl|bs hp hd=>exact cl _ hp _ hd|sy _ ih=>exact(ih G).symm|tr _ _ i1 i2=>exact(i1 G).trans (i2 G)
noncomputable abbrev idm(s:Y3):Nat->List Nat:=λe=>List.range (s.getD e 0)
def Gu(s:Y3)(e x:Nat):vm (idm s) e x<=x/\(x<s.getD e 0->vm (idm s) e x=x):=by
 simp only[vm,idm];generalize s.getD e 0=n;rw[bz]
 by_cases h:x<n
 .rw[km h];simp
 .rw[gr (by simpa using h)]
  exact⟨iz _,λz=>absurd z h⟩
def ahw(K:Nat)(s:Y3):Cn K s (idm s):=⟨λe _=>by simp,λe _ x=>(Gu s e x).1,λe _ x Z=>by rw[(Gu s e x).2 Z,(Gu s e x).2 Z]⟩
def ab9:Snd K U s a ps (idm s):=λe _ x y Z G h=>by rw[(Gu s e x).2 Z,(Gu s e y).2 G] at h;rw[h];exact .rf _ _
inductive Jn(ms:Nat->List Nat)(A:List Tr):Nat->Nat->Nat->Prop where
 |m {e x y:Nat} (h:vm ms e x=vm ms e y):Jn ms A e x y
 |p {q:Tr} (h:q∈A):Jn ms A q.1 q.2.1 q.2.2
 |sy {e x y:Nat} (h:Jn ms A e x y):Jn ms A e y x
 |tr {e x y z:Nat} (h:Jn ms A e x y) (k:Jn ms A e y z):Jn ms A e x z
def Jn.mono(h:Jn G A e x y)(k1:∀e x y,vm G e x=vm G e y->Jn Z U e x y)(k2:∀q∈A,Jn Z U q.1 q.2.1 q.2.2):Jn Z U e x y:=by
 induction h with
 |m h=>exact k1 _ _ _ h|p h=>exact k2 _ h|sy _ ih=>exact ih.sy|tr _ _ R i2=>exact R.tr i2
def Jn.nil(h:Jn Z [] e x y):vm Z e x=vm Z e y:=by
 induction h with
 |m h=>exact h|p h=>cases h|sy _ R=>exact R.symm|tr _ _ U G=>exact U.trans G
def K4(Z:List F)(a:List (List Nat))(p:Tr)(n:Nat):List Tr:=((List.range n).filter (Dj Z p.1)).map λj=>((Z.getD j ⟨0,0,[]⟩).b,(a.getD j []).getD p.2.1 0,(a.getD j []).getD p.2.2 0)
def asd(h:q∈K4 G a p n):∃(j:Nat)(g:F),G[j]?=some g/\g.a=p.1/\q=(g.b,(a.getD j []).getD p.2.1 0,(a.getD j []).getD p.2.2 0):=by
 obtain⟨j,U,rfl⟩:=bc.mp h;have Z:=(ur.mp U).2;unfold Dj at Z;cases e:G[j]? with
 |none=>rw[e] at Z;cases Z|some g=>rw[e] at Z;exact⟨j,g,e,by simpa using Z,by rw[Aa e]⟩
def aym{j:Nat}{g:F}{G:Y3}{p:Tr}(Z:U[j]?=some g)(R:a[j]?=some G)(e:g.a=p.1):(g.b,G.getD p.2.1 0,G.getD p.2.2 0)∈K4 U a p U.length:=by refine bc.mpr ⟨j,ur.mpr ⟨fc.mpr (ak.mp Z).1,by simp[Dj,Z,e]⟩,by rw[Aa Z,Aa R]⟩
def afk:(K4 hs a p n).length<=n:=by have:=wu (Dj hs p.1) (List.range n);simpa[K4] using this
structure Wk(K:Nat)(hs:List F)(s:Y3)(a:List (List Nat))(ps:List Tr)(ms:Nat->List Nat)(A:List Tr):Prop where
 cn:Cn K s ms
 snd:Snd K hs s a ps ms
 stk:∀q∈A,Lies K s q/\Rg hs a ps q.1 q.2.1 q.2.2
 prs:∀q∈ps,Jn ms A q.1 q.2.1 q.2.2
 cng:∀(j:Nat)(g:F)(js:Y3),hs[j]?=some g->a[j]?=some js->∀x y,x<js.length->y<js.length->vm ms g.a x=vm ms g.a y->Jn ms A g.b (js.getD x 0) (js.getD y 0)
def Wk.init(ok:V8 K s ps)(w:Gv K G s a):Wk K G s a ps (idm s) ps :=
 ⟨ahw K s,ab9,λq Z=>⟨ok q Z,Rg.bs (a:=a) Z (ar4 G q.1)⟩,λq Z=>.p Z,λj g R hj ej x y U hy z=>by
  have l:=(w.ok j g R hj ej).1;rw[(Gu s g.a x).2 (by rw[<- l];exact U),(Gu s g.a y).2 (by rw[<- l];exact hy)] at z;rw[z];exact .m rfl⟩
def Wk.skip(h:Wk K R s a ps G (A++[q]))(z:vm G q.1 q.2.1=vm G q.1 q.2.2):Wk K R s a ps G A:=by
 have k:∀{e x y},Jn G (A++[q]) e x y->Jn G A e x y:=λj=>j.mono (λ_ _ _=>.m) λp Z=>by
  rcases dw.mp Z with Z|Z
  .exact .p Z
  .rw[kj.mp Z];exact .m z
 exact⟨h.cn,h.snd,λp Z=>h.stk p (qg _ Z),λp Z=>k (h.prs p Z),λj g js hj ej x y U hy w=>k (h.cng j g js hj ej x y U hy w)⟩
def Wk.join(P:Ef sz K G ik)(w:Gv K G s a)(ok:V8 K s ps)(h:Wk K G s a ps ms (A++[q])):Wk K G s a ps (Mv ms q.1 q.2.1 q.2.2) (A++K4 G a q G.length):=by
 obtain⟨⟨l1,l2,l3⟩,r⟩:=h.stk q (gw _ (List.mem_singleton_self _));have k0:vm (Mv ms q.1 q.2.1 q.2.2) q.1 q.2.1=vm (Mv ms q.1 q.2.1 q.2.2) q.1 q.2.2:=akh.mpr (.inr (.inl ⟨rfl,rfl⟩));have k:∀{e x y},Jn ms (A++[q]) e x y->Jn (Mv ms q.1 q.2.1 q.2.2) (A++K4 G a q G.length) e x y:=λj=>j.mono (λ_ _ _ z=>.m (bb8 z)) λp Z=>by
  rcases dw.mp Z with Z|Z
  .exact .p (qg _ Z)
  .rw[kj.mp Z];exact .m k0
 refine⟨ar8 h.cn l1 l2 l3,asa h.cn l1 l2 l3 h.snd r,λp Z=>?_,λp Z=>k (h.prs p Z),λj g U R ej x y hx hy z=>?_⟩
 .rcases dw.mp Z with Z|Z
  .exact h.stk p (qg _ Z)
  .obtain⟨j,g,R,e,rfl⟩:=asd Z
   obtain⟨U,ej,h1,h2⟩:=w.get R;rw[Aa ej];rw[<- e] at l2 l3;exact⟨⟨P.Li _ (ao R),h2 _ (getD_mem' (b_ l2 (g_ h1))),h2 _ (getD_mem' (b_ l3 (g_ h1)))⟩,r.ac P w ok R ej e.symm⟩
 .have l:=(w.ok j g U R ej).1
  by_cases e:g.a=q.1
  .have c:=h.cng j g U R ej
   rw[e] at z c l;have i1:q.2.1<U.length:=b_ l2 (g_ l)
   have i2:q.2.2<U.length:=b_ l3 (g_ l)
   have new:Jn (Mv ms q.1 q.2.1 q.2.2) (A++K4 G a q G.length) g.b (U.getD q.2.1 0) (U.getD q.2.2 0):=.p (gw _ (aym R ej e));rcases akh.mp z with z|⟨z1,z2⟩|⟨z1,z2⟩
   .exact k (c x y hx hy z)
   .exact((k (c x _ hx i1 z1)).tr new).tr (k (c _ y i2 hy z2.symm))
   .exact((k (c x _ hx i2 z1)).tr new.sy).tr (k (c _ y i1 hy z2.symm))
  .simp only[vm] at z
   rw[Vl e] at z;exact k (h.cng j g U R ej x y hx hy z)
def Wk.done(P:Ef sz K Z ik)(w:Gv K Z s a)(ok:V8 K s ps)(h:Wk K Z s a ps ms []):Ker K Z s a ps ms :=
 asb P w ok h.snd λp R d hd=>by
  have z:=(h.prs p R).nil;rcases Dk hd with rfl|⟨i,g,rfl,hg,e⟩
  .exact z
  .obtain⟨js,G,U,_⟩:=w.get hg
   obtain⟨_,l2,l3⟩:=ok p R;rw[<- e] at l2 l3 z;rw[Dr hg,Gr G,Gr G];exact(h.cng i g js hg G _ _ (b_ l2 (g_ U)) (b_ l3 (g_ U)) z).nil
def fi(s:Y3)(Z:Nat->List Nat)(e:Nat):List Nat:=fil (s.getD e 0) λx=>decide (vm Z e x=x)
def on(s:Y3)(Z:Nat->List Nat)(e x:Nat):Nat:=Rf (fi s Z e) (vm Z e x)
def qs(K:Nat)(s:Y3)(Z:Nat->List Nat):List Nat:=(List.range K).map λe=>(fi s Z e).length
def Hn(s:Y3)(Z:Nat->List Nat)(g:F)(G:Y3):List Nat:=(fi s Z g.a).map λU=>on s Z g.b (G.getD U 0)
def qa(Z:List F)(s:Y3)(a:List (List Nat))(G:Nat->List Nat):List (List Nat):=(List.range Z.length).map λj=>Hn s G (Z.getD j ⟨0,0,[]⟩) (a.getD j [])
def qo(K:Nat)(s:Y3)(Z:Nat->List Nat):List (List Nat):=(List.range K).map λe=>(Z e).map (Rf (fi s Z e))
def Hd:z∈fi s Z e↔z<s.getD e 0/\vm Z e z=z:=by rw[fi,Pu,dm]
def aki(s:Y3)(Z:Nat->List Nat)(e:Nat):(fi s Z e).Pairwise (· < ·):=X3 _ _
def akj(s:Y3)(Z:Nat->List Nat)(e:Nat):(fi s Z e).Nodup:=j8.mpr ((aki s Z e).imp λh=>h_ h)
def aca(s:Y3)(Z:Nat->List Nat)(e:Nat):(fi s Z e).length<=s.getD e 0:=ake _ _
def Us(h:i<(fi s Z e).length):(fi s Z e).getD i 0<s.getD e 0/\vm Z e ((fi s Z e).getD i 0)=(fi s Z e).getD i 0:=Hd.mp (getD_mem' h)
def az6(h:i<j)(G:j<(fi s Z e).length):(fi s Z e).getD i 0<(fi s Z e).getD j 0:=by have U:=d_ h G;simp only[bz,bf U,bf G,qt];exact List.pairwise_iff_getElem.mp (aki s Z e) i j U G h
def bb9(h:i<=j)(G:j<(fi s Z e).length):(fi s Z e).getD i 0<=(fi s Z e).getD j 0:=by
 rcases ym i j with q|q
 .exact e_ (az6 q G)
 .rw[u_ h q];exact bw _
section
variable{K:Nat}{s:Y3}{ms:Nat->List Nat}{e:Nat}(c:Cn K s ms)(he:e<K)
include c he
theorem afl(Z:x<s.getD e 0):vm ms e x∈fi s ms e:=Hd.mpr ⟨c_ (c.dn e he x) Z,c.fx e he x Z⟩
theorem Tf(Z:x<s.getD e 0):on s ms e x<(fi s ms e).length:=X4 (afl c he Z)
theorem afm(Z:x<s.getD e 0):(fi s ms e).getD (on s ms e x) 0=vm ms e x:=Td (afl c he Z)
theorem az7(Z:i<(fi s ms e).length):on s ms e ((fi s ms e).getD i 0)=i:=by unfold on;rw[(Us Z).2];exact Px (akj s ms e) Z
theorem az8(h:vm ms e x=vm ms e y):on s ms e x=on s ms e y:=by unfold on;rw[h]
end
def Hf(Z:e<K):(qs K s ms).getD e 0=(fi s ms e).length:=by simp[qs,Z]
def Rh{j:Nat}(Z:U[j]?=some g)(ej:a[j]?=some R):(qa U s a G)[j]?=some (Hn s G g R):=by have l:=(ak.mp Z).1;simp only[qa,ie,km l,m8,Aa Z,Aa ej]
def Th(h:i<(fi s Z g.a).length):(Hn s Z g js).getD i 0=on s Z g.b (js.getD ((fi s Z g.a).getD i 0) 0):=by unfold Hn;rw[getD_map (α:=Nat) h]
def a5r(U:List F)(a:List (List Nat))(G:Nat->List Nat):Prop:=∀(j:Nat)(g:F)(Z:Y3),U[j]?=some g->a[j]?=some Z->∀x y,x<Z.length->y<Z.length->vm G g.a x=vm G g.a y->vm G g.b (Z.getD x 0)=vm G g.b (Z.getD y 0)
def Ker.ase(P:Ef sz K Z ik)(w:Gv K Z s a)(ok:V8 K s ps)(h:Ker K Z s a ps ms):a5r Z a ms:=λj g js G ej x y U hy z=>by obtain⟨R,l2⟩:=w.ok j g js G ej;have hg:=ao G;have r:=(h g.a (P.R8 g hg) x y (b_ U (f_ R)) (b_ hy (f_ R))).mp z;exact(h g.b (P.Li g hg) _ _ (l2 _ (getD_mem' U)) (l2 _ (getD_mem' hy))).mpr (r.ac P w ok G ej rfl)
def Ut(P:Ef sz K Z ik)(w:Gv K Z s a)(c:Cn K s U)(cg:a5r Z a U)(hd:d∈uq Z k)(G:k<K)(R:x<s.getD k 0):Ec (qa Z s a U) (on s U k x) d=on s U (zj Z k d) (Ec a x d):=by
 rcases Dk hd with rfl|⟨i,g,rfl,hg,rfl⟩
 .rfl
 .obtain⟨js,ej,l1,l2⟩:=w.get hg
  rw[Gr (Rh hg ej),Gr ej,Dr hg,Th (Tf c G R),afm c G R];have d:=c.dn g.a G x;exact az8 c (P.Li g (ao hg)) (cg i g js hg ej _ _ (by lia) (by lia) (c.fx g.a G x R))
def ahx(P:Ef sz K hs ik)(w:Gv K hs s a)(c:Cn K s G)(cg:a5r hs a G):Gv K hs (qs K s G) (qa hs s a G):=by
 have qq:∀{j:Nat}{g:F}{r:Y3},hs[j]?=some g->(qa hs s a G)[j]?=some r->∃R,a[j]?=some R/\r=Hn s G g R/\R.length=s.getD g.a 0/\∀x∈R,x<s.getD g.b 0:=fun{j g r} hj h=>by obtain⟨R,ej,l1,l2⟩:=w.get hj;rw[Rh hj ej] at h;cases h;exact⟨R,ej,rfl,l1,l2⟩
 refine⟨by simp[qs],by simp[qa],λx Z=>?_,λj g r hj h=>?_,λj1 j2 g1 g2 r1 r2 h1 U e e1 e2 x Z=>?_⟩
 .obtain⟨e,_,rfl⟩:=bc.mp Z
  exact a_ (aca s G e) (w.s7 e)
 .obtain⟨R,ej,rfl,l1,l2⟩:=qq hj h
  have hg:=ao hj;rw[Hf (P.R8 g hg),Hf (P.Li g hg)];refine⟨by simp[Hn],λx Z=>?_⟩;obtain⟨th,ht,rfl⟩:=bc.mp Z;exact Tf c (P.Li g hg) (l2 _ (getD_mem' (b_ (Hd.mp ht).1 (g_ l1))))
 .obtain⟨s1,q1,rfl,l1,qk⟩:=qq h1 e1
  obtain⟨s2,q2,rfl,l2,qv⟩:=qq U e2;have ha:=P.R8 g1 (ao h1);have hb:=P.R8 g2 (ao U);have Z:x<(fi s G g1.a).length:=by simpa[Hn] using Z
  have hz:=(Us Z).1;have hy:=qk _ (getD_mem' (b_ hz (g_ l1)));rw[e] at hy;rw[Th Z,e];have a1:=Ut P w c cg (ab2 U rfl) hb hy;rw[Gr (Rh U q2),Gr q2,Dr U] at a1;rw[a1,w.fu j1 j2 g1 g2 s1 s2 h1 U e q1 q2 _ (b_ hz (g_ l1))];obtain⟨w1,w2⟩:=akg P h1 U e;have a2:=Ut P w c cg w1 ha hz;rw[az7 c ha Z,w2] at a2;exact a2.symm
def akk{l k:Y3}(R:l.Pairwise (· < ·))(U:k.Pairwise (· < ·))(h:∀x,x∈l↔x∈k):l=k:=by
 induction l generalizing k with
 |nil=>cases k with
  |nil=>rfl|cons y k=>exact nomatch(h y).mpr cu
 |cons x l ih=>cases k with
  |nil=>exact nomatch(h x).mp cu
  |cons y k =>
   obtain⟨G,a2⟩:=w5.mp R;obtain⟨Z,b2⟩:=w5.mp U;have e:x=y:=by
    rcases cj.mp ((h x).mp cu) with q|q
    .exact q
    .rcases cj.mp ((h y).mpr cu) with r|r
     .exact r.symm
     .exact l_ (Z x q) (e_ (G y r))
   subst e;rw[ih a2 b2 λz=>?_];constructor
   .intro q
    exact(cj.mp ((h z).mp (bh _ q))).resolve_left (i_ (G z q))
   .intro q
    exact(cj.mp ((h z).mpr (bh _ q))).resolve_left (i_ (Z z q))
def akl(P:Ef sz K U ik)(h:∀e,e<K->G e=Bl e):qs K s G=qs K s Bl/\qa U s a G=qa U s a Bl/\qo K s G=qo K s Bl:=by
 have f:∀e,e<K->fi s G e=fi s Bl e:=λe Z=>by simp only[fi,vm,h e Z]
 refine⟨jc λe Z=>by rw[f e (fc.mp Z)],jc λj hj=>?_,jc λe Z=>by rw[f e (fc.mp Z),h e (fc.mp Z)]⟩;obtain⟨g,R⟩:=Fe (fc.mp hj);have m:=ao R;rw[Aa R];simp only[Hn,on,vm,f g.a (P.R8 g m),f g.b (P.Li g m),h g.b (P.Li g m)]
def lat(s:Y3)(Z:Nat->List Nat)(G:List Tr):List Tr:=G.map λp=>(p.1,on s Z p.1 p.2.1,on s Z p.1 p.2.2)
def a5s(c:Cn K s G)(ok:V8 K s ps):∀p∈lat s G ps,Lies K (qs K s G) p:=λp U=>by
 obtain⟨q,h,rfl⟩:=bc.mp U;obtain⟨Z,l2,R⟩:=ok q h;refine⟨Z,?_,?_⟩
 .show _<(qs K s G).getD q.1 0
  rw[Hf Z];exact Tf c Z l2
 .show _<(qs K s G).getD q.1 0
  rw[Hf Z];exact Tf c Z R
section
variable{sz:Nat->Nat}{K:Nat}{hs:List F}{ik:List (List Kx×D)}{s:Y3}{a:List (List Nat)}{ps more:List Tr}{ms:Nat->List Nat}(P:Ef sz K hs ik)(w:Gv K hs s a)(ok1:V8 K s ps)(ok2:V8 K s more)(c:Cn K s ms)(k:Ker K hs s a ps ms)
include P w ok1 ok2 c k
theorem bca(h:Rg hs a (ps++more) e x y):e<K->Rg hs (qa hs s a ms) (lat s ms more) e (on s ms e x) (on s ms e y):=by
 have cg:=k.ase P w ok1
 induction h with
 |rf e x=>exact λ_=>.rf _ _
 |@bs p d hp hd =>
  intro R;rcases dw.mp hp with q|q
  .obtain⟨G,U,Z⟩:=ok1 p q
   rw[az8 c R ((k _ R _ _ (Jj w hd U) (Jj w hd Z)).mpr (.bs q hd))];exact .rf _ _
  .obtain⟨G,U,Z⟩:=ok2 p q
   have:=Rg.bs (hs:=hs) (a:=qa hs s a ms) (ps:=lat s ms more) (p:=(p.1,on s ms p.1 p.2.1,on s ms p.1 p.2.2)) (d:=d) (bc.mpr ⟨p,q,rfl⟩) hd;rw[Ut P w c cg hd G U,Ut P w c cg hd G Z] at this;exact this
 |sy _ ih=>exact λz=>(ih z).sy
 |tr _ _ i1 i2=>exact λz=>(i1 z).tr (i2 z)
theorem asf(G:e<K)(Z:x<s.getD e 0):Rg hs a (ps++more) e (vm ms e x) x :=
 ((k e G _ _ (c_ (c.dn e G x) Z) Z).mp (c.fx e G x Z)).more λp U=>qg _ U
theorem a5t(h:Rg hs (qa hs s a ms) (lat s ms more) e x y):e<K->Rg hs a (ps++more) e ((fi s ms e).getD x 0) ((fi s ms e).getD y 0):=by
 have U:=k.ase P w ok1
 induction h with
 |rf e x=>exact λ_=>.rf _ _
 |@bs p d hp hd =>
  intro Z;obtain⟨q,hq,rfl⟩:=bc.mp hp;obtain⟨l1,l2,l3⟩:=ok2 q hq;have G:=Jj w hd l2;have R:=Jj w hd l3;have r:=((asf P w ok1 ok2 c k Z G).tr (Rg.bs (a:=a) (gw _ hq) hd)).tr (asf P w ok1 ok2 c k Z R).sy;rw[<- afm c Z G,<- afm c Z R,<- Ut P w c U hd l1 l2,<- Ut P w c U hd l1 l3] at r;exact r
 |sy _ ih=>exact λz=>(ih z).sy
 |tr _ _ i1 G=>exact λz=>(i1 z).tr (G z)
variable{mt m':Nat->List Nat}(ct:Cn K s mt)(kt:Ker K hs s a (ps++more) mt)(c':Cn K (qs K s ms) m')(k':Ker K hs (qs K s ms) (qa hs s a ms) (lat s ms more) m')
include ct kt c' k'
theorem ahy(Z:e<K)(G:x<s.getD e 0):vm mt e x=(fi s ms e).getD (vm m' e (on s ms e x)) 0:=by
 have R:on s ms e x<(qs K s ms).getD e 0:=by rw[Hf Z];exact Tf c Z G
 have li:vm m' e (on s ms e x)<(qs K s ms).getD e 0:=c_ (c'.dn e Z _) R
 have qq:vm m' e (on s ms e x)<(fi s ms e).length:=by rw[<- Hf (s:=s) (ms:=ms) Z];exact li
 have lt:=ct.dn e Z x;have lm:vm mt e x<s.getD e 0:=c_ lt G
 apply u_
 .have r:=a5t P w ok1 ok2 c k ((k' e Z _ _ li R).mp (c'.fx e Z _ R)) Z
  rw[afm c Z G] at r;have r:=r.tr (asf P w ok1 ok2 c k Z G);rw[<- (kt e Z _ _ (Us qq).1 G).mpr r];exact ct.dn e Z _
 .have r:=bca P w ok1 ok2 c k ((kt e Z _ _ lm G).mp (ct.fx e Z x G)) Z
  have U:=Tf c Z lm;have e1:=(k' e Z _ _ (by rw[Hf Z];exact U) R).mpr r;have d:=c'.dn e Z (on s ms e (vm mt e x));rw[e1] at d;have:=bb9 d U;rw[afm c Z lm] at this;exact a_ this (c.dn e Z _)
theorem ash(Z:e<K):fi s mt e=(fi (qs K s ms) m' e).map λi=>(fi s ms e).getD i 0:=by
 refine akk (aki _ _ _) (xu.mpr ((aki (qs K s ms) m' e).imp_of_mem fun{x y} _ hb h=>?_)) λz=>?_
 .exact az6 h (by have:=(Hd.mp hb).1;rw[Hf Z] at this;exact this)
 .rw[bc]
  constructor
  .intro h
   obtain⟨U,G⟩:=Hd.mp h;have lo:on s ms e z<(qs K s ms).getD e 0:=by rw[Hf Z];exact Tf c Z U
   exact⟨_,afl c' Z lo,by rw[<- ahy P w ok1 ok2 c k ct kt c' k' Z U];exact G⟩
  .intro h
   obtain⟨i,U,rfl⟩:=h;obtain⟨G,h3⟩:=Hd.mp U;rw[Hf Z] at G;obtain⟨R,_⟩:=Us G;refine Hd.mpr ⟨R,?_⟩;rw[ahy P w ok1 ok2 c k ct kt c' k' Z R,az7 c Z G,h3]
theorem a5u(Z:e<K)(G:x<s.getD e 0):on s mt e x=on (qs K s ms) m' e (on s ms e x):=by
 have U:on s ms e x<(qs K s ms).getD e 0:=by rw[Hf Z];exact Tf c Z G
 have l:Rf (fi (qs K s ms) m' e) (vm m' e (on s ms e x))<(fi (qs K s ms) m' e).length:=Tf c' Z U
 have f2:=ash P w ok1 ok2 c k ct kt c' k' Z;show Rf (fi s mt e) (vm mt e x)=Rf (fi (qs K s ms) m' e) (vm m' e (on s ms e x));rw[show vm mt e x=_ from ahy P w ok1 ok2 c k ct kt c' k' Z G];have g:=Px (akj s mt e) (x:=Rf (fi (qs K s ms) m' e) (vm m' e (on s ms e x))) (by rw[f2,cz];exact l);rw[f2] at g ⊢;rw[getD_map (α:=Nat) l,Td (afl c' Z U)] at g;exact g
theorem ayn:qs K (qs K s ms) m'=qs K s mt/\qa hs (qs K s ms) (qa hs s a ms) m'=qa hs s a mt:=by
 have f2:∀e,e<K->_:=λe G=>ash P w ok1 ok2 c k ct kt c' k' (e:=e) G
 refine⟨jc λe G=>by rw[f2 e (fc.mp G),cz],jc λj hj=>?_⟩;obtain⟨g,Z⟩:=Fe (fc.mp hj);have m:=ao Z;obtain⟨R,ej,l1,l2⟩:=w.get Z;rw[Aa Z,Aa ej,Aa (Rh Z ej)];have ha:=P.R8 g m;unfold Hn;rw[f2 _ ha,o4];refine jc λi hi=>?_
 have U:i<(fi s ms g.a).length:=by have:=(Hd.mp hi).1;rw[Hf ha] at this;exact this
 have e1:=Th (js:=R) (g:=g) U;unfold Hn at e1;rw[e1];exact(a5u P w ok1 ok2 c k ct kt c' k' (P.Li g m) (l2 _ (getD_mem' (b_ (Us U).1 (g_ l1))))).symm
end
def a5v(h:Rg R a [] e x y):x=y:=by
 induction h with
 |rf e x=>rfl|bs h=>cases h|sy _ U=>exact U.symm|tr _ _ G Z=>exact G.trans Z
def ayo:Ker K hs s a [] (idm s):=λe U x y Z G=>⟨ab9 e U x y Z G,λh=>by rw[a5v h]⟩
def acb(s:Y3)(e:Nat):fi s (idm s) e=List.range (s.getD e 0):=by unfold fi fil;rw[List.filter_eq_self];intro x Z;rw[dm];exact(Gu s e x).2 (fc.mp Z)
def Z8(h:x<n):Rf (List.range n) x=x:=by have:=Px (l:=List.range n) (x:=x) List.nodup_range (by simpa using h);rw[show(List.range n).getD x 0=x by simp[h]] at this;exact this
def ayp(P:Ef sz K G ik)(w:Gv K G s a):qs K s (idm s)=s/\qa G s a (idm s)=a/\qo K s (idm s)=(List.range K).map λe=>List.range (s.getD e 0):=by
 refine⟨?_,?_,jc λe _=>?_⟩
 .simp only[qs,acb,yq]
  have:=Jx s;rw[w.ls] at this;exact this
 .apply uo
  intro j
  by_cases U:j<G.length
  .obtain⟨g,R⟩:=Fe U
   obtain⟨js,ej,l1,l2⟩:=w.get R;rw[Rh R ej,ej]
   congr 1
   unfold Hn;rw[acb,<- l1];refine(jc λx Z=>?_).trans (Jx js);have q:=l2 _ (getD_mem' (fc.mp Z));unfold on;rw[acb,(Gu s g.b _).2 q];exact Z8 q
  .rw[gr (by simpa[qa] using U),gr (by rw[w.la];exact s_ U)]
 .rw[acb]
  conv=>rhs;rw[<- List.map_id (List.range (s.getD e 0))]
  exact jc λx Z=>Z8 (fc.mp Z)
section
variable{W:Hh}{ρ:Env}{M M1:dh}{t:Tg}{it:Pz}{s:Src}{n:Nat}
def V9(R:it.den W ρ M=.ok s M1)(hn:s.len=n)(hl:n<=100000)(I:Nat->List D->dh->Prop)(h0:I 0 [] M1)(hf:∀G M,I n G M->s.fin M=true)
 (step:∀i G M,i<n->I i G M->∃d Z x M',s.item i M=some d/\t.put d (ρ++List.replicate k none)=some Z/\e.den W Z M=.ok x M'/\I (i+1) (G++[x]) M') :
 ∃U M',(Ex.comp v k t it e).den W ρ M=(if v then .ok (.vl U) M' else new (.lst U) M')/\I n U M':=by
 obtain⟨U,M',g,h⟩:=Ht (fin:=s.fin) (item:=s.item) (body:=λd M=>(Res.u5 (t.put d (ρ++List.replicate k none)) M).bind λqq M=>(e.den W qq M).bind λx M'=>.ok (some x) M') I (n:=n) (λi G M hi h=>by
  obtain⟨d,Z,x,M',a,b,c,e⟩:=step i G M hi h;exact⟨d,some x,M',a,by rw[b];simp[c],e⟩) hf n 0 [] M1 (vd _) h0
 refine⟨U,M',?_,by simpa using h⟩;rw[Hq,R,Res.Cy,Ai,hn,dg hl,g];rfl
def Dt{g:Nat->D}(U:it.den W ρ M=.ok s M1)(hn:s.len=n)(hl:n<=100000)(hf:s.fin M1=true)(h:∀i,i<n->∃d Z,s.item i M1=some d/\t.put d (ρ++List.replicate k none)=some Z/\e.den W Z M1=.ok (g i) M1) :
 (Ex.comp true k t it e).den W ρ M=.ok (.vl ((List.range n).map g)) M1:=by
 obtain⟨ys,M',e,rfl,rfl⟩:=V9 (v:=true) U hn hl (λi G R=>G=(List.range i).map g/\R=M1) ⟨rfl,rfl⟩ (λG R h=>by rw[h.2];exact hf) (λi G R hi hI=>by
  obtain⟨q1,q2⟩:=hI;obtain⟨d,Z,a,b,c⟩:=h i hi;rw[q2];exact⟨d,Z,g i,M1,a,b,c,by rw[q1];simp[rm],rfl⟩)
 exact e
end
def rD(r:List (List Nat)):D:=.tup (r.map u9)
def asi{j:Nat}(h:r[j]?=some Z):zg (rD r) (.int j) M=some (u9 Z):=J6 q_ (by simp[h])
def Ti(M:dh)(a b:MO):(M++[a]).set M.length b=M++[b]:=by simp
def Bc(M:dh)(a:MO):(M++[a])[M.length]?=some a:=by simp
def take_one{Z:Type}{l:List Z}{x:Z}(h:l[i]?=some x):l.take (i+1)=l.take i++[x]:=by rw[List.take_succ,h];rfl
noncomputable def Cj(p:Tr):D:=.tup [.int p.1,.int p.2.1,.int p.2.2]
def akm(p:Tr)(M:dh):zg (Cj p) (.int 0) M=some (.int p.1):=rfl
def asj(p:Tr)(M:dh):zg (Cj p) (.int 1) M=some (.int p.2.1):=rfl
def asl(p:Tr)(M:dh):zg (Cj p) (.int 2) M=some (.int p.2.2):=rfl
section
variable{W:Hh}{M:dh}{K:Nat}{hs:List F}{s:Y3}{a:List (List Nat)}
abbrev Ms(t pm K:Nat)(s:Y3)(ms:Nat->List Nat)(M:dh):Prop:=Mk t pm K (λe=>s.getD e 0) ms M
def X7{ρ:Env}{y:Nat}(U:ρ.length=y)(h1:ρ[1]?=some (some (je s a)))(w:Gv K hs s a)(hK:K<=3)(ht:t<M.length) :
 ∃Z,(Ex.comp false 1 (.name y) (.val (.ix (.v 1) (.i 0))) (.Wn (.v y))).den W ρ M=.ok (.ref (M.length+K)) Z/\Ms t (M.length+K) K s (idm s) Z/\yd M Z/\Z.length=M.length+K+1:=by
 obtain⟨ys,M1,e,r1,r2,r3,r4⟩:=V9 (W:=W) (v:=false) (k:=1) (t:=.name y) (it:=.val (.ix (.v 1) (.i 0))) (e:=.Wn (.v y)) (ρ:=ρ) (M:=M) (M1:=M) (s:=.con (s.map nD)) (n:=K) (by simp[h1,afi,u9,srcOf]) (by simp[Src.len,w.ls]) (a_ hK (by decide))
  (λi xs Z=>xs=uf M.length i/\(∀e,e<i->Z[M.length+e]?=some (.lst ((List.range (s.getD e 0)).map nD)))/\yd M Z/\Z.length=M.length+i) ⟨rfl,λe he=>absurd he (rz _),yd.refl M,rfl⟩ (λ_ _ _=>rfl)
  (λi xs Z G hI=>by
   obtain⟨rfl,q1,q2,q3⟩:=hI;obtain⟨z,R⟩:=Fe (l:=s) (i:=i) (by rw[w.ls];exact G);have h7:=w.s7 i;rw[Aa R] at h7;have h9:z<=100000:=a_ h7 (by decide)
   have e1:(ρ++List.replicate 1 none).set y (sI z)=ρ++[sI z]:=by rw[Ag];simp[U]
   have g9:(ρ++[some (D.int z)])[y]?=some (sI z):=by rw[<- U];simp
   refine⟨.int z,ρ++[sI z],.ref Z.length,Z++[.lst ((List.range z).map nD)],by simp[Src.item,R,nD],by rw[<- e1];rfl,by simp[g9,h9,MW.new,nD],by simp[uf,rm,q3],λe he=>?_,q2.trans (yd.app _ _),by simp[q3];exact rfl⟩
   by_cases q:e=i
   .subst q;rw[<- q3,Aa R];simp
   .exact qu (q1 e (by lia)))
 refine⟨M1++[.lst ys],by rw[e];simp[MW.new,r4],⟨⟨ys,by rw[<- r4];simp,by rw[r1];simp[uf],λi G=>?_⟩,λi G=>by simp,λi G x hx=>fc.mp hx,λi G x hx=>(Gu s i x).2 (fc.mp hx)⟩,r3.trans (yd.app _ _),by simp[r4]⟩;refine⟨.ref (M.length+i),by rw[r1];simp[uf,G],jx (qu (r2 i G)),λa q=>?_⟩;cases q;exact⟨b_ ht x_,H_ G⟩
def asm(mk:Ms t U K s Z M)(c:Cn K s Z)(G:e<K)(hx:x<s.getD e 0)(hy:y<s.getD e 0)(ht:t<U) :
 ∃o,setOp (.ref U) (.int e) (Bx (Mv Z e x y e)) M=some (M.set U o)/\Ms t U K s (Mv Z e x y) (M.set U o):=by
 have c':=ar8 c G hx hy;have e1:Mv Z e x y=up Z e (Mv Z e x y e):=by
  funext z
  by_cases q:z=e
  .subst q;simp[up]
  .rw[Vl q];simp[up,q]
 have:=mk.set (i:=e) (ns:=Mv Z e x y e) G (c'.len e G) (λz R=>((c'.mem G z).mp R).1) (λz R=>by simpa using((c'.mem G z).mp R).2) ht;rw[<- e1] at this;exact this
end
def Rb.app(b:Nat)(M X:dh):Rb b M (M++X):=λx o _ e=>qu e
def Rb.keep(h:Rb b M M')(k:M.length<=b):yd M M':=λx o e=>h x o (b_ (vh e) k) e
def amh(n:Nat):K4 Z a p (n+1)=K4 Z a p n++if Dj Z p.1 n then[((Z.getD n ⟨0,0,[]⟩).b,(a.getD n []).getD p.2.1 0,(a.getD n []).getD p.2.2 0)] else[]:=by
 simp only[K4,rm,List.filter_append,j4]
 congr 1
 by_cases h:Dj Z p.1 n=true<;>simp[h]
section
variable{m:Nat}{M:dh}{sz:Nat->Nat}{K n r:Nat}{hs:List F}{ik:List (List Kx×D)}{s:Y3}{a:List (List Nat)}
def asn(R:1<=m)(h:Made n r K hs ik M)(w:Gv K hs s a)(Z:Env):(Pz.zip (.p (.ix (.v 1) (.i 1)) (.meth (.v 0) 0))).den (PW m) (some (.ref n)::some (je s a)::Z) M=.ok (.con (Ng [a.map u9,hs.map eD] hs.length)) M:=by
 have mt:(Ex.meth (.v 0) 0).den (PW m) (some (.ref n)::some (je s a)::Z) M=.ok (Hr hs) M:=by have G:=h.1;have cl:(prog.cls)[2]?=some ⟨0,[(0,2)]⟩:=rfl;simp[G,cl,List.lookup,al9 R h]
 have G:(Ex.ix (.v 1) (.i 1)).den (PW m) (some (.ref n)::some (je s a)::Z) M=.ok (.tup (a.map u9)) M:=by simp[ar3]
 have U:(Ed.p (.ix (.v 1) (.i 1)) (.meth (.v 0) 0)).den (PW m) (some (.ref n)::some (je s a)::Z) M=.ok [.tup (a.map u9),Hr hs] M:=by rw[Dl,G,Res.Cy,Dl,mt];rfl
 rw[aih,U];simp[agh,Vp,acx,Hr,w.la]
def afn(w:Gv K hs s a){j:Nat}(Z:hs[j]?=some g)(U:a[j]?=some G)(M:dh):(Src.con (Ng [a.map u9,hs.map eD] hs.length)).item j M=some (.tup [u9 G,eD g]):=by have l:=(ak.mp Z).1;simp only[Src.item,Ng,ie,km l,m8,ig,List.map_nil,bz,U,Z,qt]
def afo(hm:2<=m)(h:Made n r K hs ik M)(P:Ef sz K hs ik)(w:Gv K hs s a)(hp:Lies K s p):prog.call m 27 [.ref n,je s a,Cj p] M=.ok (.ref M.length) (M++[.lst ((K4 hs a p hs.length).map Cj)]):=by
 rw[call_of (a_ (by decide) hm) rfl];have l5:=P.len;obtain⟨qq,R,e,⟨b4,b5,rfl⟩,rfl⟩:=Wv (W:=PW (m-1)) (n:=hs.length) (t:=.names [4,5]) (b:=Gn) (ρ:=[sR n,je s a,Cj p,sR M.length,none,none]) (M:=M++[.lst []]) (M1:=M++[.lst []]) (asn (r_ hm) (h.keep (yd.app _ _)) w _) (by simp[Src.len,Ng])
  (λi ρ R=>(∃b4 b5,ρ=[sR n,some (je s a),some (Cj p),sR M.length,b4,b5])/\R=M++[.lst ((K4 hs a p i).map Cj)]) ⟨⟨none,none,rfl⟩,by simp[K4]⟩ (λ_ _ _=>rfl) (λi ρ R hi hI=>by
   obtain⟨⟨b4,b5,rfl⟩,rfl⟩:=hI;obtain⟨g,U⟩:=Fe hi;obtain⟨Z,ej,l1,l2⟩:=w.get U;refine⟨_,[sR n,some (je s a),some (Cj p),sR M.length,some (u9 Z),some (eD g)],afn w U ej _,rfl,[sR n,some (je s a),some (Cj p),sR M.length,some (u9 Z),some (eD g)],_,?_,⟨_,_,rfl⟩,rfl⟩;rw[amh,Aa U,Aa ej];have hf:Dj hs p.1 i=decide (g.a=p.1):=by simp[Dj,U]
   rw[hf]
   by_cases q:g.a=p.1
   .obtain⟨_,p2,p3⟩:=hp
    rw[<- q] at p2 p3;have i1:=Qo (M:=M++[.lst ((K4 hs a p i).map Cj)]) (l:=Z) (i:=p.2.1) (b_ p2 (g_ l1));have i2:=Qo (M:=M++[.lst ((K4 hs a p i).map Cj)]) (l:=Z) (i:=p.2.2) (b_ p3 (g_ l1));have ll:=afk (hs:=hs) (a:=a) (p:=p) (n:=i);have G:=Dm (d:=Cj (g.b,Z.getD p.2.1 0,Z.getD p.2.2 0)) (Bc M (.lst ((K4 hs a p i).map Cj))) (by rw[cz];lia);rw[Ti] at G;rw[dg (Aq q)];generalize Z.getD p.2.1 0=u at i1 G;generalize Z.getD p.2.2 0=v at i2 G;have q':((g.a:Int)=(p.1:Int)):=by rw[q]
    simp only[Cj] at G;simp[Gn,U8,W2,akm,asj,asl,q',i1,i2,Ea (Bc M _),G,Cj]
   .rw[bx (by simpa using q),Bp]
    have q':¬((g.a:Int)=(p.1:Int)):=λz=>q (D_ z)
    simp[Gn,U8,akm,q'])
 have e:Qh.den (PW (m-1)) _ _=_:=e;simp[Fn.run,U5,U4,MW.new,e]
def ayq(u v:Nat)(M:dh):o8 .By [.vl [.int u,.int v]] M=.ok (Bx (if u=v then[u] else[min u v,max u v])) M:=by
 have h:=(ab8 (M:=M) (d:=.vl [.int u,.int v]) (l:=[u,v]) (b:=max u v+1) (f:=λz=>decide (z=u\/z=v)) rfl (.inr (by simp)) (λz=>by simp;lia)).1;rw[h,Bx]
 congr 2
 congr 1
 refine akk (X3 _ _) ?_ λz=>?_
 .split
  .exact List.pairwise_singleton _ _
  .simp;lia
 .rw[Pu,dm]
  split
  .simp;lia
  .simp;lia
end
def a5w(h:M[n]?=some (.lst Z)):K7 .extend (.ref n) M=true:=by simp[K7,du,h]
def ayr{G Z:List D}(h:M[n]?=some (.lst G))(k:M[j]?=some (.lst Z))(R:j≠n)(U:G.length+Z.length<100000):K8 .extend (.ref n) [.ref j] M=.ok .non (M.set n (.lst (G++Z))):=by simp[K8,onL,du,h,k,a79,R,U]
def a5x(h:M[n]?=some (.lst Z)):K7 .pop (.ref n) M=true:=by simp[K7,du,h]
def aso(h:M[n]?=some (.lst (xs++[d]))):K8 .pop (.ref n) [] M=.ok d (M.set n (.lst xs)):=by simp[K8,onL,h]
abbrev ELR(n:Nat)(w pd:D)(pm q:Nat)(b5 b6 b7:Option D):Env:=[sR n,some w,some pd,sR pm,sR q,b5,b6,b7]
section
variable{m:Nat}{M:dh}{sz:Nat->Nat}{K n r:Nat}{hs:List F}{ik:List (List Kx×D)}{s:Y3}{a:List (List Nat)}
def ays{W:Hh}{w:D}(wk:Gv K hs s a)(mk:Ms t R K s G M)(U:e<K){lo hi:Nat}:Hz.den W (ELR n w pd R q b5 (sI e) (some (Bx [lo,hi]))) M=.ok (Bx (Dd lo hi (G e))) M:=by
 obtain⟨d,h1,h2⟩:=mk.row U;unfold Hz;rw[wz (d:=d) (ds:=(G e).map nD) (M1:=M) (g:=λd=>match d with|.int o=>nD (if o.toNat=hi then lo else o.toNat)|_=>.non) (by simp[h1]) h2 (by
  rw[cz,mk.len e U];exact a_ (wk.s7 e) (by decide)) (λz hz=>by
  obtain⟨x,_,rfl⟩:=bc.mp hz;refine⟨ELR n w pd R q b5 (sI e) (some (Bx [lo,hi]))++[some (nD x)],rfl,?_⟩;have i0:zg (Bx [lo,hi]) (.int 0) M=some (.int lo):=rfl;have Z:zg (Bx [lo,hi]) (.int 1) M=some (.int hi):=rfl
  by_cases q:x=hi
  .subst q
   simp[nD,i0,Z]
  .have q':¬((x:Int)=(hi:Int)):=λz=>q (D_ z)
   simp[nD,i0,Z,q,q'])]
 simp only[Bx,Dd,ji,o4]
 congr 2
structure Lr(n pm q t K:Nat)(hs:List F)(s:Y3)(a:List (List Nat))(ps:List Tr)(M0:dh)(ms:Nat->List Nat)(A:List Tr)(M:dh):Prop where
 mr:Ms t pm K s ms M
 ah:M[q]?=some (.lst (A.map Cj))
 wk:Wk K hs s a ps ms A
 lo:Rb M0.length M0 M
def ayt(hm:2<=m)(P:Ef sz K hs ik)(w:Gv K hs s a)(ok:V8 K s ps){M0:dh}(hM:Made n r K hs ik M0)(ht:t<U)(hq:q=U+1)(q0:M0.length<=U)(h:Lr n U q t K hs s a ps M0 ms (B++[p]) M)(hB:B.length<=5000) :
 ∃c6 c7 Bl A M',Dg.den (PW m) (ELR n (je s a) pd U q b5 b6 b7) M=.ok (.next,ELR n (je s a) pd U q (some (Cj p)) c6 c7) M'/\Lr n U q t K hs s a ps M0 Bl A M'/\A.length+6*K1 K Bl<B.length+1+6*K1 K ms:=by
 have l5:=P.len;obtain⟨⟨R,p2,p3⟩,_⟩:=h.wk.stk p (gw _ (List.mem_singleton_self _));have a1:=h.ah;rw[j4] at a1;have pp:=aso (xs:=B.map Cj) (d:=Cj p) a1;have qq:Rb M0.length M (M.set q (.lst (B.map Cj))):=Rb.set (by lia);have qs:=vo (o:=.lst (B.map Cj)) h.ah;have G:=h.mr.frame (M':=M.set q (.lst (B.map Cj))) (λx o h1 h2 e=>by rw[o7 (by lia)];exact e) ht;have hp:=a5x h.ah;generalize M.set q (.lst (B.map Cj))=M1 at pp qq qs G;have q3:=hM.1;obtain⟨d,r1,r2⟩:=G.row R;have u1:=Jh r2 (x:=p.2.1) (by rw[h.wk.cn.len _ R];exact p2);have u2:=Jh r2 (x:=p.2.2) (by rw[h.wk.cn.len _ R];exact p3);have Z:=ayq (vm ms p.1 p.2.1) (vm ms p.1 p.2.2) M1
 by_cases z:vm ms p.1 p.2.1=vm ms p.1 p.2.2
 .rw[dg z] at Z
  refine⟨some (.int p.1),some (Bx [vm ms p.1 p.2.1]),ms,B,M1,?_,⟨G,qs,h.wk.skip z,h.lo.trans qq⟩,by lia⟩;have ln:o8 .len [Bx [vm ms p.1 p.2.1]] M1=.ok (.int 1) M1:=rfl;simp only[vm] at Z ln ⊢;generalize(ms p.1).getD p.2.1 0=u at u1 Z ln ⊢;generalize(ms p.1).getD p.2.2 0=v at u2 Z ⊢;simp[Dg,hp,pp,akm,asj,asl,r1,u1,u2,Z,ln]
 .rw[bx z] at Z
  have rd:=ays (W:=PW m) (n:=n) (w:=je s a) (pd:=pd) (q:=q) (b5:=some (Cj p)) w G R (lo:=min (vm ms p.1 p.2.1) (vm ms p.1 p.2.2)) (hi:=max (vm ms p.1 p.2.1) (vm ms p.1 p.2.2));have e1:Dd (min (vm ms p.1 p.2.1) (vm ms p.1 p.2.2)) (max (vm ms p.1 p.2.1) (vm ms p.1 p.2.2)) (ms p.1)=Mv ms p.1 p.2.1 p.2.2 p.1:=by simp[Mv,up]
  rw[e1] at rd;obtain⟨o,so,qv⟩:=asm G h.wk.cn R p2 p3 ht;have qk:Rb M0.length M1 (M1.set U o):=Rb.set q0;have q2:(M1.set U o)[q]?=some (.lst (B.map Cj)):=by rw[o7 (by lia)];exact qs
  have l2:=h.lo.trans (qq.trans qk);generalize M1.set U o=M2 at so qv qk q2 l2;have q1:Made n r K hs ik M2:=⟨l2 _ _ (vh hM.1) hM.1,l2 _ _ (vh hM.2) hM.2⟩;have lp:=afo (m:=m) (p:=p) hm q1 P w ⟨R,p2,p3⟩;have ql:=vh q2;have ll:=afk (hs:=hs) (a:=a) (p:=p) (n:=hs.length);have ex:=ayr (M:=M2++[.lst ((K4 hs a p hs.length).map Cj)]) (n:=q) (j:=M2.length) (qu q2) (Bc _ _) (by lia) (by simp;lia);have et:=a5w q2;refine⟨some (.int p.1),some (Bx [min (vm ms p.1 p.2.1) (vm ms p.1 p.2.2),max (vm ms p.1 p.2.1) (vm ms p.1 p.2.2)]),Mv ms p.1 p.2.1 p.2.2,B++K4 hs a p hs.length,(M2++[MO.lst ((K4 hs a p hs.length).map Cj)]).set q (.lst (B.map Cj++(K4 hs a p hs.length).map Cj)),?_,⟨?_,?_,h.wk.join P w ok,?_⟩,?_⟩
  .have ln:o8 .len [Bx [min (vm ms p.1 p.2.1) (vm ms p.1 p.2.2),max (vm ms p.1 p.2.1) (vm ms p.1 p.2.2)]] M1=.ok (.int 2) M1:=rfl
   generalize min (vm ms p.1 p.2.1) (vm ms p.1 p.2.2)=lo at Z ln rd ⊢;generalize max (vm ms p.1 p.2.1) (vm ms p.1 p.2.2)=hi at Z ln rd ⊢;simp only[vm] at Z;generalize(ms p.1).getD p.2.1 0=u at u1 Z;generalize(ms p.1).getD p.2.2 0=v at u2 Z;simp[Dg,hp,pp,akm,asj,asl,r1,u1,u2,Z,ln,rd,Lv.put,so,et,lp,ex]
  .exact qv.frame (λx o' h1 h2 e=>by rw[o7 (by lia)];exact qu e) ht
  .rw[<- j4];exact vo (qu q2)
  .exact l2.trans ((Rb.app _ _ _).trans (Rb.set (by lia)))
  .have:=ar9 h.wk.cn R p2 p3 z
   simp;lia
def asp(hm:3<=m)(P:Ef sz K hs ik)(w:Gv K hs s a)(ok:V8 K s ps)(hl:ps.length<=100)(hM:Made n r K hs ik M)(hp:Al M Z=some (ps.map Cj))(ht:t<M.length) :
 ∃G M',prog.call m 26 [.ref n,je s a,Z] M=.ok (.ref (M.length+K)) M'/\Ms t (M.length+K) K s G M'/\Cn K s G/\Ker K hs s a ps G/\yd M M':=by
 rw[call_of (a_ (by decide) hm) rfl];have h3:=P.k3;obtain⟨M1,e1,qq,k1,n1⟩:=X7 (W:=PW (m-1)) (t:=t) (y:=8) (ρ:=[sR n,je s a,some Z,none,none,none,none,none]) rfl rfl w h3 ht;have e1:N5.den (PW (m-1)) [sR n,some (je s a),some Z,none,none,none,none,none] M=_:=e1;have qk:Al M1 Z=some (ps.map Cj):=by
  cases Z with
  |tup _=>exact hp|_=>exact Kf (k1.du hp)
 have tt:=ahr qq (λe _=>w.s7 e) h3;have ls:o8 .list [Z] M1=.ok (.ref (M.length+K+1)) (M1++[.lst (ps.map Cj)]):=by show(match Al M1 Z with|some xs=>MW.new (.lst xs) M1|none=>.bad)=_;rw[qk,<- n1];rfl
 obtain⟨qv,M',e,G,b5,R,U,h1,h2⟩:=Ho (c:=(Ex.tru (.v 4)).den (PW (m-1))) (body:=Dg.den (PW (m-1)))
  (λk ρ M'=>∃G A b5 R U,ρ=ELR n (je s a) Z (M.length+K) (M.length+K+1) b5 R U/\Lr n (M.length+K) (M.length+K+1) t K hs s a ps M G A M'/\k=A.length+6*K1 K G/\k<=2000)
  (fun ρ M'=>∃G b5 R U,ρ=ELR n (je s a) Z (M.length+K) (M.length+K+1) b5 R U/\Lr n (M.length+K) (M.length+K+1) t K hs s a ps M G [] M')
  (λk ρ M' hI=>by
   obtain⟨G,A,b5,R,U,rfl,g1,g2,g3⟩:=hI;have al:du M' (.ref (M.length+K+1))=some (A.map Cj):=by simp[du,g1.ah]
   rcases List.eq_nil_or_concat A with rfl|⟨B,p,rfl⟩
   .exact .inl ⟨M',by simp[al],G,b5,R,U,rfl,g1⟩
   .rw[List.concat_eq_append] at *
    simp at g2;obtain⟨c6,c7,Bl,A',M2,e2,f1,f2⟩:=ayt (m:=m-1) (pd:=Z) (b5:=b5) (b6:=R) (b7:=U) (r_ hm) P w ok hM (by lia) rfl x_ g1 (by lia);exact .inr ⟨M',.next,_,M2,_,by simp[al],e2,.inl rfl,by rw[g2];exact f2,Bl,A',_,c6,c7,rfl,f1,rfl,by lia⟩)
  Wq (ps.length+6*K1 K (idm s)) (ELR n (je s a) Z (M.length+K) (M.length+K+1) none none none) (M1++[.lst (ps.map Cj)]) (by unfold Wq;lia)
  ⟨idm s,ps,none,none,none,rfl,⟨qq.frame (λx o _ _ e=>qu e) (by lia),by rw[<- n1];exact Bc _ _,Wk.init ok w,λx o l h=>qu (k1 x o h)⟩,rfl,by lia⟩
 have e:Nz.den (PW (m-1)) (ELR n (je s a) Z (M.length+K) (M.length+K+1) none none none) (M1++[.lst (ps.map Cj)])=_:=e;subst h1;refine⟨G,M',?_,h2.mr,h2.wk.cn,h2.wk.done P w ok,h2.lo.keep (bw _)⟩;simp[Fn.run,Rq,Rp,e1,ls,e]
end
abbrev fsT(K:Nat)(s:Y3)(ms:Nat->List Nat):D:=rD ((List.range K).map (fi s ms))
noncomputable def Qa(l:Y3)(n:Nat):List (Kx×D):=(List.range n).map λj=>(.inl (l.getD j 0:Int),.int j)
def Z9(l:Y3)(n:Nat):Qa l (n+1)=Qa l n++[(.inl (l.getD n 0:Int),.int n)]:=by simp[Qa,rm]
def asq(l:Y3)(n:Nat):(Qa l n).length=n:=by simp[Qa]
def afp(R:l.Nodup)(U:n<=i)(G:i<l.length):∀p∈Qa l n,p.1≠.inl (l.getD i 0:Int):=λp hp e=>by
 obtain⟨j,Z,rfl⟩:=bc.mp hp;have Z:=fc.mp Z;have hl:=b_ Z (a_ U (e_ G));have e:(l.getD j 0:Int)=(l.getD i 0:Int):=by simpa using e
 have e:=D_ e;simp only[bz,bf hl,bf G,qt] at e;have:=(yg R).mp e
 lia
def asr(R:l.Nodup)(G:i<l.length):Du (Qa l i) (.inl (l.getD i 0:Int)) (.int i)=Qa l (i+1):=by
 have:((Qa l i).any λZ=>decide (Z.1=.inl (l.getD i 0:Int)))=false:=by rw[List.any_eq_false];intro p U;simpa using afp R (bw _) G p U
 rw[Z9,Du,this];rfl
def ass(G:l.Nodup){n i:Nat}(h:i<n)(Z:n<=l.length):Bh (Qa l n) (.inl (l.getD i 0:Int))=some (.int i):=by
 induction n with
 |zero=>exact absurd h (rz _)
 |succ n ih =>
  rw[Z9,Xz (afp G (bw _) Z)]
  by_cases q:i=n
  .subst q;rw[dg rfl]
  .have U:i<n:=by lia
   have R:i<l.length:=by lia
   rw[bx (λz=>?_),ih U (by lia)];have z:(l.getD i 0:Int)=(l.getD n 0:Int):=by simpa using z
   have z:=D_ z;simp only[bz,bf R,bf Z,qt] at z;exact q ((yg G).mp z)
def ayu{l:Y3}{x:Nat}(Z:l.Nodup)(h:x∈l):Bh (Qa l l.length) (.inl (x:Int))=some (.int (Rf l x)):=by have:=ass Z (X4 h) (bw _);rw[Td h] at this;exact this
section
variable{m:Nat}{M:dh}{sz:Nat->Nat}{K n r:Nat}{hs:List F}{ik:List (List Kx×D)}{s:Y3}{a:List (List Nat)}
def afq(hm:1<=m)(nd:l.Nodup)(hl:l.length<=7):prog.call m 22 [u9 l] M=.ok (.ref M.length) (M++[.dK (Qa l l.length)]):=by
 rw[call_of hm rfl];obtain⟨qq,R,e,⟨U,Z,rfl⟩,rfl⟩:=Wv (W:=PW (m-1)) (s:=.con (Fl (l.map nD) 0)) (n:=l.length) (t:=.names [2,3]) (b:=Ld) (it:=.enm (.v 0)) (ρ:=[u9 l,sR M.length,none,none]) (M:=M++[.dK []]) (M1:=M++[.dK []]) (by simp[u9]) (by simp[Src.len,Fl])
  (λi G R=>(∃U Z,G=[some (u9 l),sR M.length,U,Z])/\R=M++[.dK (Qa l i)]) ⟨⟨none,none,rfl⟩,rfl⟩ (λ_ _ _=>rfl) (λi G R hi hI=>by
   obtain⟨⟨U,Z,rfl⟩,rfl⟩:=hI;have st:=arp (k:=(l.getD i 0:Int)) (d:=.int i) (Bc M (.dK (Qa l i))) (by rw[asq];lia);rw[asr nd hi,Ti] at st;obtain⟨y,hy⟩:=Fe hi;rw[Aa hy] at st;exact⟨.tup [.int i,.int y],[some (u9 l),sR M.length,sI i,sI y],by simp[Src.item,Fl,hy,nD],rfl,_,_,by simp[Ld,Lv.put,st],⟨some (.int i),sI y,rfl⟩,rfl⟩)
 have e:Ro.den (PW (m-1)) _ _=_:=e;simp[Fn.run,Wx,Ww,MW.new,e]
def ahz{l k:Y3}(hm:1<=m)(nd:l.Nodup)(hd:du M d=some (k.map nD))(U:k.length<=7)(R:∀x∈k,x∈l)(hp:M[p]?=some (.dK (Qa l l.length))):prog.call m 25 [d,.ref p] M=.ok (u9 (k.map (Rf l))) M:=by
 rw[call_of hm rfl];have c1:Ny.den (PW (m-1)) [some d,sR p] M=.ok (Bx (k.map (Rf l))) M:=by
  unfold Ny;rw[wz (d:=d) (ds:=k.map nD) (M1:=M) (g:=λd=>match d with|.int o=>nD (Rf l o.toNat)|_=>.non) (by simp) hd (by rw[cz];exact a_ U (by decide)) (λz hz=>by
   obtain⟨x,G,rfl⟩:=bc.mp hz;have Z:=aze (b:=.int x) (k:=.inl (x:Int)) hp rfl;rw[ayu nd (R x G)] at Z;exact⟨[some d,sR p,some (nD x)],rfl,by simp[nD,Z]⟩)]
  simp only[Bx,o4,ji]
  congr 2
 simp[Fn.run,Y6,Y5,c1];rfl
def afr(w:Gv K hs s a)(c:Cn K s Z)(U:e<K)(G:du M d=some ((Z e).map nD)):o8 .By [d] M=.ok (Bx (fi s Z e)) M :=
 (ab8 G (.inl (w.s7 e)) (c.mem U)).1
def asu(hm:1<=m)(w:Gv K hs s a)(hK:K<=3)(mk:Ms t Z K s U M)(c:Cn K s U):prog.call m 23 [.ref Z] M=.ok (fsT K s U) M:=by
 rw[call_of hm rfl];obtain⟨Z5,R,G,h3⟩:=mk.ex;have c1:T9.den (PW (m-1)) [sR Z] M=.ok (.vl ((List.range K).map λe=>u9 (fi s U e))) M:=by unfold T9;refine Dt (s:=.live Z K) (n:=K) (by simp[srcOf,R,G]) rfl (a_ hK (by decide)) (by simp[Src.fin,R,G]) (λi hi=>?_);obtain⟨d,g1,g2,_⟩:=h3 i hi;have f:=afr w c hi g2;exact⟨d,[sR Z,some d],by simp[Src.item,R,G,g1],rfl,by simp[f];rfl⟩
 simp[Fn.run,aio,ain,c1,Wy,rD]
abbrev EDr(n:Nat)(w pd:D)(pm:Nat)(fs on:D)(ac:Nat)(b7 b8 b9:Option D):Env:=[sR n,some w,some pd,sR pm,some fs,some on,sR ac,b7,b8,b9]
abbrev EDq(n:Nat)(s:Y3)(a:List (List Nat))(pd:D)(pm K:Nat)(ms:Nat->List Nat)(ac:Nat)(b7 b8 b9:Option D):Env:=EDr n (je s a) pd pm (fsT K s ms) (rD (qo K s ms)) ac b7 b8 b9
def asw{j:Nat}(h:j<K):((List.range K).map (fi s ms))[j]?=some (fi s ms j):=by simp[h]
def asx{j:Nat}(h:j<K):(qo K s ms)[j]?=some ((ms j).map (Rf (fi s ms j))):=by simp[qo,h]
def ayv(hm:1<=m)(w:Gv K hs s a)(hK:K<=3)(mk:Ms t G K s Z M)(c:Cn K s Z)(ht:t<G) :
 ∃M',Ud.den (PW m) [sR n,some (je s a),some pd,sR G,some (fsT K s Z),none,none,none,none,none] M=.ok (.vl ((qo K s Z).map u9)) M'/\yd M M':=by
 obtain⟨Z5,R,h2,h3⟩:=mk.ex;unfold Ud;obtain⟨ys,M',e,rfl,k⟩:=V9 (W:=PW m) (v:=true) (k:=2) (t:=.names [10,11]) (it:=.zip (.p (.v 3) (.v 4))) (e:=.call 25 (.p (.v 10) (.call 22 (.o (.v 11))))) (ρ:=[sR n,je s a,some pd,sR G,fsT K s Z,none,none,none,none,none]) (M:=M) (M1:=M) (s:=.zl G (((List.range K).map (fi s Z)).map u9)) (n:=K)
  (by simp[agh,Vp,acx,R,h2,rD]) (by simp[Src.len]) (a_ hK (by decide))
  (λi xs M'=>xs=(qo i s Z).map u9/\yd M M') ⟨rfl,yd.refl _⟩ (λxs M' h=>by simp[Src.fin,h.2 _ _ R,h2]) (λi xs M' U hI=>by
   obtain⟨rfl,k⟩:=hI;obtain⟨d,g1,g2,_⟩:=h3 i U;have nb:=afq (m:=m) (M:=M') hm (akj s Z i) (a_ (aca s Z i) (w.s7 i));have rn:=ahz (m:=m) (M:=M'++[.dK (Qa (fi s Z i) (fi s Z i).length)]) (d:=d) (l:=fi s Z i) (k:=Z i) (p:=M'.length) hm (akj s Z i) ((k.trans (yd.app _ _)).du g2) (by rw[c.len i U];exact w.s7 i) (λx hx=>Hd.mpr (by simpa using(c.mem U x).mp hx)) (Bc _ _);refine⟨.tup [d,u9 (fi s Z i)],[sR n,some (je s a),some pd,sR G,some (fsT K s Z),none,none,none,none,none,some d,some (u9 (fi s Z i))],_,_,?_,rfl,by simp[nb,rn];exact⟨rfl,rfl⟩,by simp[qo,rm],k.trans (yd.app _ _)⟩;have qq:Z5[i]?=some d:=g1;simp only[Src.item,k _ _ R,cz,yq,h2,ji,qq,qp,ie,km U,m8])
 exact⟨M',e,k⟩
def ayw(hm:1<=m)(P:Ef sz K hs ik)(w:Gv K hs s a)(c:Cn K s Z)(hM:Made n r K hs ik M) :
 ∃b7 R,Y4.den (PW m) (EDq n s a pd pm K Z M.length none none none) (M++[.lst []])=.ok (.next,EDq n s a pd pm K Z M.length b7 R none) (M++[.lst ((qa hs s a Z).map u9)]):=by
 have l5:=P.len;obtain⟨qq,M',e,⟨b7,R,rfl⟩,rfl⟩:=Wv (W:=PW m) (n:=hs.length) (t:=.names [7,8]) (b:=Uc) (ρ:=EDq n s a pd pm K Z M.length none none none) (M:=M++[.lst []]) (M1:=M++[.lst []]) (asn hm (hM.keep (yd.app _ _)) w _) (by simp[Src.len,Ng])
  (λi ρ M'=>(∃b7 R,ρ=EDq n s a pd pm K Z M.length b7 R none)/\M'=M++[.lst (((qa hs s a Z).take i).map u9)]) ⟨⟨none,none,rfl⟩,by simp⟩ (λ_ _ _=>rfl) (λi ρ M' hi hI=>by
   obtain⟨⟨b7,R,rfl⟩,rfl⟩:=hI;obtain⟨g,hg⟩:=Fe hi;obtain⟨G,ej,l1,l2⟩:=w.get hg;have ga:=P.R8 g (ao hg);have gb:=P.Li g (ao hg);have f7:=a_ (aca s Z g.a) (w.s7 g.a);generalize hX:M++[MO.lst (((qa hs s a Z).take i).map u9)]=MX;have c2:Ub.den (PW m) (EDq n s a pd pm K Z M.length (some (u9 G)) (some (eD g)) none) MX=.ok (Bx (Hn s Z g G)) MX:=by
    unfold Ub;have it:(Pz.val (.ix (.v 4) (.ix (.v 8) (.i 0)))).den (PW m) (EDq n s a pd pm K Z M.length (some (u9 G)) (some (eD g)) none) MX=.ok (.con ((fi s Z g.a).map nD)) MX:=by simp[U8,asi (asw (s:=s) (ms:=Z) ga),srcOf,u9]
    rw[Dt (s:=.con ((fi s Z g.a).map nD)) (n:=(fi s Z g.a).length) (g:=λi=>nD ((Hn s Z g G).getD i 0)) it (by simp[Src.len]) (a_ f7 (by decide)) rfl (λi hi=>by
     obtain⟨x,hx⟩:=Fe hi;have U:=(Us hi).1;rw[Aa hx] at U;have i1:=Qo (M:=MX) (l:=G) (i:=x) (b_ U (g_ l1));have ly:=l2 _ (getD_mem' (b_ U (g_ l1)));have i2:=Qo (M:=MX) (l:=(Z g.b).map (Rf (fi s Z g.b))) (i:=G.getD x 0) (by rw[cz,c.len g.b gb];exact ly);rw[getD_map (α:=Nat) (by rw[c.len g.b gb];exact ly)] at i2;refine⟨nD x,EDq n s a pd pm K Z M.length (some (u9 G)) (some (eD g)) none++[some (nD x)],by simp[Src.item,hx],rfl,?_⟩;rw[Th hi,Aa hx];show _=Res.ok (D.int ((Rf (fi s Z g.b) ((Z g.b).getD (G.getD x 0) 0):Nat):Int)) MX;generalize G.getD x 0=u at i1 i2 ⊢;generalize Rf (fi s Z g.b) ((Z g.b).getD u 0)=v at i2 ⊢;simp[nD,W2,asi (asx (s:=s) (ms:=Z) gb),i1,i2])]
    congr 1
    have:=Jx (Hn s Z g G);rw[show(Hn s Z g G).length=(fi s Z g.a).length by simp[Hn]] at this
    conv=>rhs;rw[Bx,<- this,o4]
    rfl
   have tl:((qa hs s a Z).take i).length<=5:=by rw[Ax];lia
   have ap:=Dm (d:=u9 (Hn s Z g G)) (Bc M (.lst (((qa hs s a Z).take i).map u9))) (by rw[cz];lia);have ba:=Ea (Bc M (.lst (((qa hs s a Z).take i).map u9)));rw[Ti] at ap;rw[hX] at ap ba;refine⟨_,EDq n s a pd pm K Z M.length (some (u9 G)) (some (eD g)) none,afn w hg ej _,rfl,EDq n s a pd pm K Z M.length (some (u9 G)) (some (eD g)) none,_,?_,⟨_,_,rfl⟩,rfl⟩;rw[take_one (Rh hg ej),j4];have tv:o8 .tuple [Bx (Hn s Z g G)] MX=.ok (u9 (Hn s Z g G)) MX:=rfl;simp[Uc,c2,tv,ba,ap])
 rw[show hs.length=(qa hs s a Z).length by simp[qa],zr] at e;exact⟨b7,R,e⟩
abbrev qw(K:Nat)(hs:List F)(s:Y3)(a:List (List Nat))(ms:Nat->List Nat):D:=je (qs K s ms) (qa hs s a ms)
def drD(K:Nat)(hs:List F)(s:Y3)(a:List (List Nat))(Z:Nat->List Nat):D:=.tup [qw K hs s a Z,rD (qo K s Z)]
def X8(G:4<=m)(P:Ef sz K hs ik)(w:Gv K hs s a)(ok:V8 K s ps)(hl:ps.length<=100)(R:Made n r K hs ik M)(hp:Al M pd=some (ps.map Cj)) :
 ∃Z M',prog.call m 24 [.ref n,je s a,pd] M=.ok (drD K hs s a Z) M'/\Cn K s Z/\Ker K hs s a ps Z/\yd M M':=by
 rw[call_of (a_ (by decide) G) rfl];have U:=P.k3;have hn:=vh R.1;obtain⟨Z,M1,e1,mk,c,kr,k1⟩:=asp (m:=m-1) (t:=n) (r_ G) P w ok hl R hp hn;have e2:=asu (m:=m-1) (a_ (by decide) (r_ (c:=1) G)) w U mk c;obtain⟨M2,e3,k2⟩:=ayv (m:=m-1) (n:=n) (pd:=pd) (a_ (by decide) (r_ (c:=1) G)) w U mk c (b_ hn x_);obtain⟨b7,b8,e4⟩:=ayw (m:=m-1) (pm:=M.length+K) (pd:=pd) (a_ (by decide) (r_ (c:=1) G)) P w c (R.keep (k1.trans k2));generalize hX:M2++[MO.lst ((qa hs s a Z).map u9)]=MX at e4;have c1:Ua.den (PW (m-1)) (EDq n s a pd (M.length+K) K Z M2.length b7 b8 none) MX=.ok (Bx (qs K s Z)) MX:=by
  unfold Ua;rw[Dt (s:=.con (((List.range K).map (fi s Z)).map u9)) (n:=K) (M1:=MX) (g:=λi=>nD (fi s Z i).length) (by simp[srcOf,rD]) (by simp[Src.len]) (a_ U (by decide)) rfl (λi hi=>by
   have ln:o8 .len [u9 (fi s Z i)] MX=.ok (nD (fi s Z i).length) MX:=by simp[u9,au4,nD]
   exact⟨u9 (fi s Z i),EDq n s a pd (M.length+K) K Z M2.length b7 b8 none++[some (u9 (fi s Z i))],by simp[Src.item,hi],rfl,by simp[ln]⟩)]
  simp only[Bx,qs,o4]
  congr 2
 have tv:o8 .tuple [Bx (qs K s Z)] MX=.ok (u9 (qs K s Z)) MX:=rfl;have ta:o8 .tuple [.ref M2.length] MX=.ok (.tup ((qa hs s a Z).map u9)) MX:=by rw[<- hX];show Res.u5 ((du _ (.ref M2.length)).map D.tup) _=_;simp[du]
 have to:o8 .tuple [.vl ((qo K s Z).map u9)] M2=.ok (rD (qo K s Z)) M2:=rfl;refine⟨Z,MX,?_,c,kr,k1.trans (k2.trans (hX▸yd.app _ _))⟩;simp[Fn.run,aiq,aip,e1,e2,e3,to,MW.new,e4,c1,tv,ta];rfl
end
abbrev EPb(t:Nat)(pt w:D)(mo:Int)(G:Nat)(b5 b6 b7:Option D):Env:=[sR t,some pt,some w,sI mo,sR G,b5,b6,b7]
def Prs(K:Nat)(s:Y3)(G c:Nat)(M:dh):Prop:=∃Z:List Tr,M[G]?=some (.lst (Z.map Cj))/\(V8 K s Z)/\Z.length<=c
section
variable{m:Nat}{M:dh}{sz:Nat->Nat}{K n r:Nat}{hs:List F}{ik:List (List Kx×D)}{s:Y3}{a:List (List Nat)}
def Prs.st(h:Prs K s G c M)(k:St t f M M')(n:G≠t):Prs K s G c M':=by obtain⟨U,Z,R,h3⟩:=h;exact⟨U,k.keep _ _ n Z,R,h3⟩
def Prs.add(h:Prs K s G c M)(hp:Lies K s p)(hc:c<=1000):∃U,M[G]?=some (.lst U)/\U.length<100000/\Prs K s G (c+1) (M.set G (.lst (U++[Cj p])))/\∃q,Lies K s q/\∃ys,U++[Cj p]=Cj q::ys:=by
 obtain⟨R,h1,h2,h3⟩:=h;refine⟨_,h1,by rw[cz];lia,⟨R++[p],by rw[vo h1,j4];rfl,λq Z=>?_,by simp;exact h3⟩,?_⟩
 .rcases dw.mp Z with Z|Z
  .exact h2 q Z
  .rw[kj.mp Z];exact hp
 .cases R with
  |nil=>exact⟨p,hp,[],rfl⟩|cons q R=>exact⟨q,h2 q cu,R.map Cj++[Cj p],rfl⟩
def Prs.le(h:Prs K s G c M)(k:c<=d):Prs K s G d M:=by obtain⟨U,Z,R,h3⟩:=h;exact⟨U,Z,R,a_ h3 k⟩
def ayx(hm:1<=m)(P:Ef sz K hs ik)(w:Gv K hs s a)(hh:Q0 t f M)(hG:t<G)(h:Prs K s G c M)(hc:c<=500) :
 ∃c6 c7 M',Ar.den (PW m) (EPb t (Bw K r hs) (je s a) mo G b5 b6 b7) M=.ok (.next,EPb t (Bw K r hs) (je s a) mo G b5 c6 c7) M'/\Q0 t f M'/\(∀(x:Nat)(o:MO),x≠t->x≠G->M[x]?=some o->M'[x]?=some o)/\Prs K s G (c+2) M'/\M.length<=M'.length:=by
 have k1:=P.k1;have k3:=P.k3;obtain⟨k,M1,e1,l1,s1,n1⟩:=Bb (m:=m) (many:=K) hm hh (by lia) (by lia);have hk:k<K:=o_ l1
 have x0:=Qo (M:=M1) (l:=s) (i:=k) (by rw[w.ls];exact hk);have h7:=w.s7 k
 by_cases z:s.getD k 0=0
 .refine⟨some (.int k),b7,M1,?_,s1.has,λx o q _ e=>s1.keep x o q e,(h.st s1 (i_ hG)).le (by lia),g_ n1⟩
  rw[z] at x0;simp[Ar,S8,e1,afi,x0]
 .have zn:0<s.getD k 0:=by lia
  have zp:(0:Int)<(s.getD k 0:Int):=by lia
  have zq:(s.getD k 0:Int)<1073741824:=by lia
  obtain⟨x,M2,e2,l2,s2,n2⟩:=Bb (m:=m) (many:=(s.getD k 0:Nat)) hm s1.has zp zq;obtain⟨y,M3,e3,l3,s3,n3⟩:=Bb (m:=m) (many:=(s.getD k 0:Nat)) hm s2.has zp zq;have x2:=Qo (M:=M2) (l:=s) (i:=k) (by rw[w.ls];exact hk);have qk:=s1.trans (s2.trans s3);have p2:=h.st (s1.trans s2) (i_ hG);have p3:=h.st qk (i_ hG);obtain⟨xs,g1,g2,g3,p0,lp,ys,ey⟩:=p3.add (p:=(k,x,y)) ⟨hk,o_ l2,o_ l3⟩ (by lia);have ty:K7 .append (.ref G) M2=true:=by obtain⟨_,q,_⟩:=p2;exact Ea q
  have ap:=Dm (d:=Cj (k,x,y)) g1 g2;have qq:Q0 t f (M3.set G (.lst (xs++[Cj (k,x,y)]))):=by obtain⟨v,Z,U⟩:=s3.has;exact⟨v,by rw[o7 (i_ hG)];exact Z,U⟩
  have kp:∀(R:Nat)(o:MO),R≠t->R≠G->M[R]?=some o->(M3.set G (.lst (xs++[Cj (k,x,y)])))[R]?=some o:=λR o Z U e=>by rw[o7 (j0 U)];exact qk.keep _ _ Z e
  have gg:=vo (o:=.lst (xs++[Cj (k,x,y)])) g1;have ll:(M3.set G (.lst (xs++[Cj (k,x,y)]))).length=M3.length:=by simp
  generalize M3.set G (.lst (xs++[Cj (k,x,y)]))=M4 at g3 ap qq kp ll gg;obtain⟨v,M5,e5,l5,s5,n5⟩:=Bb (m:=m) (many:=5) hm qq (by decide) (by decide);have p5:=g3.st s5 (i_ hG);simp only[Cj] at ap;generalize s.getD k 0=S at *
  by_cases q:v=0
  .subst q
   rw[ey] at gg;have g5:=s5.keep _ _ (i_ hG) gg;have i0:zg (.ref G) (.int 0) M5=some (Cj p0):=Dc (jx g5) (Int.le_refl 0) rfl;obtain⟨zs,r1,r2,r3,_⟩:=p5.add (p:=p0) lp (by lia);have qv:=Dm (d:=Cj p0) r1 r2;refine⟨some (.int k),sI x,M5.set G (.lst (zs++[Cj p0])),?_,?_,λR o Z U e=>by rw[o7 (j0 U)];exact s5.keep _ _ Z (kp R o Z U e),r3,by simp;lia⟩
   .simp[Ar,S8,e1,afi,x0,x2,zn,e2,e3,ty,ap,e5,i0,Ea r1,qv]
   .obtain⟨v,Z,U⟩:=s5.has
    exact⟨v,by rw[o7 (i_ hG)];exact Z,U⟩
  .refine⟨some (.int k),sI x,M5,?_,s5.has,λR o Z U e=>s5.keep _ _ Z (kp R o Z U e),p5.le (by lia),by lia⟩
   simp[Ar,S8,e1,afi,x0,x2,zn,e2,e3,ty,ap,e5,q]
def asy(hm:2<=m)(P:Ef sz K hs ik)(w:Gv K hs s a)(hh:Q0 t f M)(h0:0<mo)(h9:mo<=10) :
 ∃(U:List Tr)(M':dh),prog.call m 32 [.ref t,Bw K r hs,je s a,.int mo] M=.ok (.ref M.length) M'/\M'[M.length]?=some (.lst (U.map Cj))/\(V8 K s U)/\U.length<=20/\St t f M M':=by
 rw[call_of (a_ (by decide) hm) rfl];have ht:t<M.length:=by obtain⟨_,h,_⟩:=hh;exact vh h
 have qq:Q0 t f (M++[.lst []]):=by obtain⟨v,h,o⟩:=hh;exact⟨v,qu h,o⟩
 obtain⟨v,M1,e1,l1,s1,n1⟩:=Bb (m:=m-1) (many:=mo) (r_ hm) qq h0 (by lia);have p1:Prs K s M.length 0 M1:=⟨[],s1.keep _ _ (i_ ht) (Bc _ _),by simp,bw _⟩;obtain⟨qk,M2,e2,⟨R,G,Z,rfl⟩,g1,g2,⟨U,g3,g4,g5⟩,g6⟩:=An (W:=PW (m-1)) (t:=.name 5) (b:=Ar) (it:=.call 14 (.p (.v 0) (.v 3))) (n:=v) (ρ:=EPb t (Bw K r hs) (je s a) mo M.length none none none) (M:=M++[.lst []]) (M1:=M1) (by simp[e1]) (by lia)
  (λi ρ M'=>(∃R G Z,ρ=EPb t (Bw K r hs) (je s a) mo M.length R G Z)/\Q0 t f M'/\(∀(x:Nat)(o:MO),x≠t->M[x]?=some o->M'[x]?=some o)/\Prs K s M.length (2*i) M'/\M.length<=M'.length) ⟨⟨none,none,none,rfl⟩,s1.has,λx o q e=>s1.keep _ _ q (qu e),p1,by rw[n1];simp⟩
  (λi ρ M' hi hI=>by
   obtain⟨⟨R,G,Z,rfl⟩,g1,g2,g3,g4⟩:=hI;obtain⟨c6,c7,M3,e3,f1,f2,f3,f4⟩:=ayx (m:=m-1) (r:=r) (mo:=mo) (b5:=some (.int i)) (b6:=G) (b7:=Z) (r_ hm) P w g1 ht g3 (by lia);exact⟨EPb t (Bw K r hs) (je s a) mo M.length (sI i) G Z,.next,_,M3,rfl,e3,.inl rfl,⟨some (.int i),c6,c7,rfl⟩,f1,λx o q e=>f2 x o q (h_ (vh e)) (g2 x o q e),f3,by lia⟩)
 have e2:Jw.den (PW (m-1)) _ _=_:=e2;refine⟨U,M2,?_,g3,g4,by lia,⟨g6,g1,g2⟩⟩;simp[Fn.run,Mq,Mp,MW.new,e2]
end
section
variable{m:Nat}{M:dh}{sz:Nat->Nat}{K n r:Nat}{hs:List F}{ik:List (List Kx×D)}{s:Y3}{a:List (List Nat)}
def asz(hm:1<=m)(w:Gv K hs s a)(hd:d∈uq hs k)(R:x<s.getD k 0):prog.call m 30 [je s a,.int x,d] M=.ok (.int (Ec a x d:Nat)) M:=by
 rw[call_of hm rfl];rcases Dk hd with rfl|⟨i,g,rfl,hg,rfl⟩
 .simp[Fn.run,Qz,Qy,Ec]
 .obtain⟨G,U,h2,_⟩:=w.get hg
  have Z:=Qo (M:=M) (l:=G) (i:=x) (b_ R (g_ h2));have ni:¬((i:Int)<0):=by lia
  rw[Gr U];generalize G.getD x 0=y at Z;simp[Fn.run,Qz,Qy,ni,ar3,az4 U,Z]
def a5y(u v z:Nat)(M:dh):Rj M (.int z) (Bx [u,v])=some (decide (z=u\/z=v)):=by
 show memD M (.int z) [.int u,.int v]=_;simp only[memD,Qt,eq_int,m8,Bg,List.any_nil,id,Bool.or_false]
 congr 1
 rw[Ad,Bool.or_eq_true,dm,dm,dm]
 lia
def min_two(u v:Nat)(M:dh):o8 .min [Bx [u,v]] M=.ok (.int (min u v:Nat)) M:=by
 show Res.ok (D.int (if(v:Int)<(u:Int) then(v:Int) else(u:Int))) M=_
 congr 2
 split<;>lia
abbrev EH(pt w pd:D)(pm:Nat)(c:D)(b5 b6 b7 b8 b9 b10 Cd:Option D):Env:=[some pt,some w,some pd,sR pm,some c,b5,b6,b7,b8,b9,b10,Cd]
def a5z{c b5 b6:Option D}{pd':D}(hm:1<=m)(w:Gv K hs s a)(mk:Ms t R K s Z M)(cn:Cn K s Z)(hd:d∈uq hs k)(U:zj hs k d<K)(hx:x<s.getD k 0)(hy:y<s.getD k 0) :
 Ip.den (PW m) [some pt,some (je s a),some pd',sR R,c,b5,b6,sI x,sI y,some d,sI (zj hs k d),Cd] M=.ok (Bx [vm Z (zj hs k d) (Ec a x d),vm Z (zj hs k d) (Ec a y d)]) M:=by
 obtain⟨row,r1,r2⟩:=mk.row U;have one:∀z,z<s.getD k 0->(Ex.ix (.ix (.v 3) (.v 10)) (.call 30 (.q (.v 1) (.v 12) (.v 9)))).den (PW m) ([some pt,some (je s a),some pd',sR R,c,b5,b6,sI x,sI y,some d,sI (zj hs k d),Cd]++[sI z]) M=.ok (nD (vm Z (zj hs k d) (Ec a z d))) M:=λz hz=>by have e1:=asz (m:=m) (M:=M) hm w hd hz;have G:=Jh r2 (x:=Ec a z d) (by rw[cn.len _ U];exact Jj w hd hz);simp only[vm];generalize zj hs k d=e at *;generalize Ec a z d=u at e1 G ⊢;generalize(Z e).getD u 0=v at G ⊢;simp[r1,e1,G,nD]
 unfold Ip;rw[Dt (s:=.con [.int x,.int y]) (n:=2) (M1:=M) (g:=λi=>nD (vm Z (zj hs k d) (Ec a ([x,y].getD i 0) d))) rfl rfl (by decide) rfl (λi hi=>match i,hi with
  | 0,_=>⟨.int x,_,rfl,rfl,one x hx⟩|1,_=>⟨.int y,_,rfl,rfl,one y hy⟩)]
 rfl
def a6b{W:Hh}{pt pd':D}{c b5 b6 b7 b8 b9:Option D}(w:Gv K hs s a)(mk:Ms t R K s Z M)(U:e<K)(X Y:Nat) :
 Im.den W [some pt,je s a,some pd',sR R,c,b5,b6,b7,b8,b9,sI e,Bx [vm Z e X,vm Z e Y]] M=.ok (Bx (Mv Z e X Y e)) M:=by
 obtain⟨row,r1,r2⟩:=mk.row U;unfold Im;rw[wz (d:=row) (ds:=(Z e).map nD) (M1:=M) (g:=λd=>match d with|.int o=>nD (if o.toNat=max (vm Z e X) (vm Z e Y) then min (vm Z e X) (vm Z e Y) else o.toNat)|_=>.non) (by simp[r1]) r2 (by
  rw[cz,mk.len e U];exact a_ (w.s7 e) (by decide)) (λz hz=>by
  obtain⟨x,_,rfl⟩:=bc.mp hz;refine⟨[some pt,some (je s a),some pd',sR R,c,b5,b6,b7,b8,b9,sI e,some (Bx [vm Z e X,vm Z e Y]),some (nD x)],rfl,?_⟩;have G:=a5y (vm Z e X) (vm Z e Y) x M;have i2:=min_two (vm Z e X) (vm Z e Y) M;generalize vm Z e X=u at *;generalize vm Z e Y=v at *;show _=Res.ok (nD (if x=max u v then min u v else x)) M
  by_cases q:x=u\/x=v
  .rw[Aq q] at G
   have:(if x=max u v then min u v else x)=min u v:=by split<;>lia
   rw[this];generalize min u v=mi at *;simp[nD] at G ⊢;simp[G,i2]
  .rw[v8 q] at G
   have:(if x=max u v then min u v else x)=x:=by split<;>lia
   rw[this];simp[nD] at G ⊢;simp[G])]
 have e1:Mv Z e X Y e=Dd (min (vm Z e X) (vm Z e Y)) (max (vm Z e X) (vm Z e Y)) (Z e):=by simp[Mv,up]
 rw[e1];simp only[Bx,Dd,ji,o4]
 congr 2
end
structure Lw(K:Nat)(hs:List F)(s:Y3)(a:List (List Nat))(ps:List Tr)(Vm ms:Nat->List Nat)(Dn:Tr->D->Prop):Prop where
 cn:Cn K s ms
 snd:Snd K hs s a ps ms
 le:K1 K ms<=K1 K Vm
 eq:K1 K ms=K1 K Vm->ms=Vm/\∀p d,Dn p d->vm Vm (zj hs p.1 d) (Ec a p.2.1 d)=vm Vm (zj hs p.1 d) (Ec a p.2.2 d)
def Lw.imp(h:Lw K U s a ps G Z R)(k:∀p d,Dn' p d->R p d):Lw K U s a ps G Z Dn':=⟨h.cn,h.snd,h.le,λz=>⟨(h.eq z).1,λp d q=>(h.eq z).2 p d (k p d q)⟩⟩
def Lw.step(P:Ef sz K Z ik)(w:Gv K Z s a)(ok:V8 K s ps)(h:Lw K Z s a ps Vm R Dn)(hp:p∈ps)(G:d∈uq Z p.1):Lw K Z s a ps Vm (Mv R (zj Z p.1 d) (Ec a p.2.1 d) (Ec a p.2.2 d)) λU d'=>Dn U d'\/(U=p/\d'=d):=by
 obtain⟨l1,l2,l3⟩:=ok p hp;have he:=ar5 P G l1;have i2:=Jj w G l2;have i3:=Jj w G l3
 by_cases z:vm R (zj Z p.1 d) (Ec a p.2.1 d)=vm R (zj Z p.1 d) (Ec a p.2.2 d)
 .rw[ayl z]
  refine⟨h.cn,h.snd,h.le,λq=>?_⟩;obtain⟨e1,e2⟩:=h.eq q;refine⟨e1,λU d' k=>?_⟩;rcases k with k|⟨rfl,rfl⟩
  .exact e2 U d' k
  .rw[<- e1];exact z
 .have lt:=ar9 h.cn he i2 i3 z
  have:=h.le;exact⟨ar8 h.cn he i2 i3,asa h.cn he i2 i3 h.snd (.bs hp G),by lia,λq=>by lia⟩
abbrev EHp(K r:Nat)(hs:List F)(s:Y3)(a:List (List Nat))(pd:D)(pm:Nat)(c:D)(b5:Option D)(p:Tr)(b9 b10 Cd:Option D):Env:=EH (Bw K r hs) (je s a) pd pm c b5 (sI p.1) (sI p.2.1) (sI p.2.2) b9 b10 Cd
def But(p:Nat)(M Z:dh):Prop:=∀(x:Nat)(o:MO),x≠p->M[x]?=some o->Z[x]?=some o
def But.trans(h:But p M Z)(k:But p Z M2):But p M M2:=λx o n e=>k x o n (h x o n e)
section
variable{m:Nat}{M:dh}{sz:Nat->Nat}{K n r:Nat}{hs:List F}{ik:List (List Kx×D)}{s:Y3}{a:List (List Nat)}{ps:List Tr}{Vm ms:Nat->List Nat}
def a6c(hm:1<=m)(P:Ef sz K hs ik)(w:Gv K hs s a)(ok:V8 K s ps)(ht:t<Z)(hp:p∈ps)(G:d∈uq hs p.1)(mk:Ms t Z K s ms M)(h:Lw K hs s a ps Vm ms Dn) :
 ∃Fj J5 Bl M',Er.den (PW m) (EHp K r hs s a pd Z c b5 p (some d) b10 Cd) M=.ok (.next,EHp K r hs s a pd Z c b5 p (some d) Fj J5) M' /\
  Ms t Z K s Bl M'/\Lw K hs s a ps Vm Bl (λp' d'=>Dn p' d'\/(p'=p/\d'=d))/\But Z M M':=by
 obtain⟨l1,l2,l3⟩:=ok p hp;have U:=ar5 P G l1;have e1:=afc (m:=m) (M:=M) (K:=K) (r:=r) hm G;have e2:=a5z (m:=m) (pt:=Bw K r hs) (pd':=pd) (c:=some c) (b5:=b5) (b6:=some (.int p.1)) (Cd:=Cd) hm w mk h.cn G U l2 l3;have R:=a6b (W:=PW m) (pt:=Bw K r hs) (pd':=pd) (c:=some c) (b5:=b5) (b6:=some (.int p.1)) (b7:=some (.int p.2.1)) (b8:=some (.int p.2.2)) (b9:=some d) w mk U (Ec a p.2.1 d) (Ec a p.2.2 d);obtain⟨o,e4,qq⟩:=asm mk h.cn U (Jj w G l2) (Jj w G l3) ht;generalize Bx [vm ms (zj hs p.1 d) (Ec a p.2.1 d),vm ms (zj hs p.1 d) (Ec a p.2.2 d)]=two at e2 R;generalize Bx (Mv ms (zj hs p.1 d) (Ec a p.2.1 d) (Ec a p.2.2 d) (zj hs p.1 d))=row at R e4;exact⟨some (.int (zj hs p.1 d)),some two,_,M.set Z o,by simp[Er,e1,e2,R,Lv.put,e4],qq,h.step P w ok hp G,λx o n e=>by rw[o7 (j0 n)];exact e⟩
def ayz(hm:1<=m)(P:Ef sz K hs ik)(w:Gv K hs s a)(ok:V8 K s ps)(ht:t<Z)(hp:p∈ps)(mk:Ms t Z K s ms M)(h:Lw K hs s a ps Vm ms Dn) :
 ∃c9 R G U M',Og.den (PW m) (EHp K r hs s a pd Z c b5 p b9 b10 Cd) M=.ok (.next,EHp K r hs s a pd Z c b5 p c9 R G) M' /\
  Ms t Z K s U M'/\Lw K hs s a ps Vm U (λp' d'=>Dn p' d'\/(p'=p/\d'∈uq hs p.1))/\But Z M M':=by
 have lw:=ae8 (m:=m) (M:=M) (K:=K) (r:=r) (k:=p.1) hm P.len;obtain⟨q0,M',e,c9,R,G,U,rfl,h1,h2,h3⟩:=Ek (W:=PW m) (t:=.name 9) (b:=Er) (it:=.call 18 (.p (.v 0) (.v 6))) (ρ:=EHp K r hs s a pd Z c b5 p b9 b10 Cd) (M:=M) (M1:=M) (d:=.vl (uq hs p.1)) (ds:=uq hs p.1) (by simp[lw]) rfl
  (λi ρ M'=>∃c9 R G U,ρ=EHp K r hs s a pd Z c b5 p c9 R G/\Ms t Z K s U M'/\Lw K hs s a ps Vm U (λp' d'=>Dn p' d'\/(p'=p/\d'∈(uq hs p.1).take i))/\But Z M M')
  ⟨b9,b10,Cd,ms,rfl,mk,h.imp λp' d' k=>k.elim id λz=>by simp at z,λ_ _ _ e=>e⟩ (λ_ _ _ _=>rfl) (λi d ρ M' hd hI=>by
   obtain⟨c9,R,G,U,rfl,h1,h2,h3⟩:=hI;obtain⟨qv,qq,qk,M2,e2,k1,k2,k3⟩:=a6c (m:=m) (r:=r) (pd:=pd) (c:=c) (b5:=b5) (b10:=R) (Cd:=G) hm P w ok ht hp (ao hd) h1 h2;refine⟨EHp K r hs s a pd Z c b5 p (some d) R G,.next,_,M2,rfl,e2,.inl rfl,some d,qv,qq,qk,rfl,k1,k2.imp λp' d' k=>?_,h3.trans k3⟩;rw[take_one hd] at k;rcases k with k|⟨k4,k5⟩
   .exact .inl (.inl k)
   .rcases dw.mp k5 with k5|k5
    .exact .inl (.inr ⟨k4,k5⟩)
    .exact .inr ⟨k4,kj.mp k5⟩)
 rw[zr] at h2;exact⟨c9,R,G,U,M',e,h1,h2,h3⟩
def as3(hm:1<=m)(P:Ef sz K hs ik)(w:Gv K hs s a)(ok:V8 K s ps)(ht:t<Z)(qv:du M pd=some (ps.map Cj))(q0:pd≠.ref Z)(mk:Ms t Z K s Vm M)(cn:Cn K s Vm)(sn:Snd K hs s a ps Vm) :
 ∃c6 c7 c8 G Fj U R M',Oh.den (PW m) (EH (Bw K r hs) (je s a) pd Z c b5 b6 b7 b8 b9 b10 Cd) M=.ok (.next,EH (Bw K r hs) (je s a) pd Z c b5 c6 c7 c8 G Fj U) M' /\
  Ms t Z K s R M'/\Lw K hs s a ps Vm R (λp' d'=>p'∈ps/\d'∈uq hs p'.1)/\But Z M M':=by
 have stay:∀M',But Z M M'->du M' pd=some (ps.map Cj):=λM' k=>Rc qv λx o e q=>k x o (λz=>q0 (by rw[e,z])) q
 obtain⟨q2,M',e,c6,c7,c8,G,Fj,U,R,rfl,h1,h2,h3⟩:=Ek (W:=PW m) (t:=.names [6,7,8]) (b:=Ir) (it:=.v 2) (ρ:=EH (Bw K r hs) (je s a) pd Z c b5 b6 b7 b8 b9 b10 Cd) (M:=M) (M1:=M) (d:=pd) (ds:=ps.map Cj) rfl qv
  (λi ρ M'=>∃c6 c7 c8 G Fj U R,ρ=EH (Bw K r hs) (je s a) pd Z c b5 c6 c7 c8 G Fj U/\Ms t Z K s R M'/\Lw K hs s a ps Vm R (λp' d'=>p'∈ps.take i/\d'∈uq hs p'.1)/\But Z M M')
  ⟨b6,b7,b8,b9,b10,Cd,Vm,rfl,mk,⟨cn,sn,bw _,λ_=>⟨rfl,λp d k=>by simp at k⟩⟩,λ_ _ _ e=>e⟩ (λi ρ M' hI=>by
   obtain⟨_,_,_,_,_,_,_,_,_,_,k⟩:=hI;exact stay M' k) (λi d ρ M' hd hI=>by
   obtain⟨c6,c7,c8,G,Fj,U,R,rfl,h1,h2,h3⟩:=hI;rw[ie] at hd;obtain⟨p,hp,rfl⟩:=dq.mp hd;obtain⟨d9,qk,qq,q1,M2,e2,k1,k2,k3⟩:=ayz (m:=m) (r:=r) (pd:=pd) (c:=c) (b5:=b5) (b9:=G) (b10:=Fj) (Cd:=U) hm P w ok ht (ao hp) h1 h2;refine⟨EHp K r hs s a pd Z c b5 p G Fj U,.next,EHp K r hs s a pd Z c b5 p d9 qk qq,M2,rfl,by simp[Ir,e2],.inl rfl,_,_,_,d9,qk,qq,q1,rfl,k1,k2.imp λp' d' k=>?_,h3.trans k3⟩;rw[take_one hp] at k;obtain⟨k4,k5⟩:=k;rcases dw.mp k4 with k4|k4
   .exact .inl ⟨k4,k5⟩
   .have:=kj.mp k4
    subst this;exact .inr ⟨rfl,k5⟩)
 have hl:(ps.map Cj).length=ps.length:=by simp
 rw[hl,zr] at h2;exact⟨c6,c7,c8,G,Fj,U,R,M',e,h1,h2,h3⟩
end
def Yb(h:du M d=some l)(Z:du M G=some l'):Jm M (n+1) d G=if l.length=l'.length then Qs (Jm M n) l l' else some false:=by
 cases d with
 |ref x=>cases G with
  |ref y=>simp only[Jm,h,Z]|vl y=>simp only[Jm,h,Z]|_=>cases Z
 |vl x=>cases G with
  |ref y=>simp only[Jm,h,Z]|vl y=>simp only[Jm,h,Z]|_=>cases Z
 |_=>cases h
def as4{u v:Y3}(h:du M d=some (u.map nD))(G:du M Z=some (v.map nD)):Jm M (n+2) d Z=some (decide (u=v)):=by
 rw[Yb h G,V2];split
 .rfl
 .rw[v8 (λz=>by subst z;simp_all)]
def ay0{f:D->D->Option Bool}{G Z:List D}{b:Nat->Bool}(R:G.length=Z.length)(h:∀(i:Nat) d U,G[i]?=some d->Z[i]?=some U->f d U=some (b i)):Qs f G Z=some ((List.range G.length).all b):=by
 induction G generalizing Z b with
 |nil=>cases Z with
  |nil=>rfl|cons _ _=>cases R
 |cons x G ih=>cases Z with
  |nil=>cases R
  |cons y Z =>
   rw[Df (h 0 x y rfl rfl) (ih (b:=λi=>b (i+1)) (by simpa using R) λi d U h1 h2=>h (i+1) d U h1 h2),il,List.range_succ_eq_map,List.all_cons,List.all_map];rfl
def amk(h:∀e,e<K->Z e=Bl e):K1 K Z=K1 K Bl:=by unfold K1;rw[jc λe G=>by rw[h e (fc.mp G)]]
section
variable{m:Nat}{M:dh}{sz:Nat->Nat}{K n r:Nat}{hs:List F}{ik:List (List Kx×D)}{s:Y3}{a:List (List Nat)}{ps:List Tr}{Vm ms:Nat->List Nat}
def aml{W:Hh}{pt w pd c:D}{b5 b6 b7 b8 b9 b10 Cd:Option D}(hK:K<=3)(mk:Ms t U K s ms M) :
 ∃Z,Iu.den W (EH pt w pd U c b5 b6 b7 b8 b9 b10 Cd) M=.ok (.vl (uf M.length K)) Z/\yd M Z/\∀e,e<K->Z[M.length+e]?=some (.lst ((ms e).map nD)):=by
 obtain⟨Z5,h1,h2,h3⟩:=mk.ex;unfold Iu;obtain⟨ys,Z,e,rfl,k,g,R⟩:=V9 (W:=W) (v:=true) (k:=1) (t:=.name 12) (it:=.val (.v 3)) (e:=.blt .list (.o (.v 12))) (ρ:=EH pt w pd U c b5 b6 b7 b8 b9 b10 Cd) (M:=M) (M1:=M) (s:=.live U K) (n:=K) (by simp[srcOf,h1,h2]) rfl (a_ hK (by decide))
  (λi G Z=>G=uf M.length i/\yd M Z/\(∀e,e<i->Z[M.length+e]?=some (.lst ((ms e).map nD)))/\Z.length=M.length+i) ⟨rfl,yd.refl _,λe he=>absurd he (rz _),rfl⟩ (λG Z h=>by simp[Src.fin,h.2.1 _ _ h1,h2]) (λi G Z hi hI=>by
   obtain⟨rfl,k,g,R⟩:=hI;obtain⟨d,g1,g2,_⟩:=h3 i hi;have ls:o8 .list [d] Z=.ok (.ref (M.length+i)) (Z++[.lst ((ms i).map nD)]):=by show(match Al Z d with|some G=>MW.new (.lst G) Z|none=>.bad)=_;rw[Kf (k.du g2),<- R];rfl
   refine⟨d,EH pt w pd U c b5 b6 b7 b8 b9 b10 Cd++[some d],.ref (M.length+i),Z++[.lst ((ms i).map nD)],by simp[Src.item,k _ _ h1,h2,g1],rfl,by simp[ls],by simp[uf,rm],k.trans (yd.app _ _),λe he=>?_,by simp[R];exact rfl⟩
   by_cases q:e=i
   .subst q;rw[<- R];exact Bc _ _
   .exact qu (g e (by lia)))
 exact⟨Z,e,k,g⟩
def anl(mk:Ms t pm K s ms M)(h:∀e,e<K->M[B+e]?=some (.lst ((Vm e).map nD))):yf M (.vl (uf B K)) (.ref pm)=some ((List.range K).all λe=>decide (Vm e=ms e)):=by
 obtain⟨Z5,h1,R,h3⟩:=mk.ex;unfold yf;have Z:(uf B K).length=K:=by simp[uf]
 rw[Yb (l:=uf B K) (l':=Z5) rfl (jx h1),dg (by rw[Z,R]),ay0 (b:=λe=>decide (Vm e=ms e)) (by rw[Z,R]) λi d d' q1 G=>?_,Z];have U:i<K:=by have:=(ak.mp G).1;lia
 obtain⟨d2,g1,g2,_⟩:=h3 i U;rw[g1] at G;cases G;obtain rfl:D.ref (B+i)=d:=by simpa[uf,U] using q1
 exact as4 (jx (h i U)) g2
def amm(hm:2<=m)(P:Ef sz K hs ik)(w:Gv K hs s a)(ok:V8 K s ps)(qk:du M G=some (ps.map Cj))(ht:t<M.length) :
 ∃ms M',prog.call m 33 [Bw K r hs,je s a,G] M=.ok (.ref (M.length+K)) M'/\Ms t (M.length+K) K s ms M'/\Cn K s ms/\Ker K hs s a ps ms/\yd M M':=by
 rw[call_of (a_ (by decide) hm) rfl];have h3:=P.k3;obtain⟨M1,e1,qq,k1,n1⟩:=X7 (W:=PW (m-1)) (t:=t) (y:=12) (ρ:=[sP K r hs,je s a,some G,none,none,none,none,none,none,none,none,none]) rfl rfl w h3 ht;have e1:Oj.den (PW (m-1)) [sP K r hs,some (je s a),some G,none,none,none,none,none,none,none,none,none] M=_:=e1;have tt:=ahr qq (λe _=>w.s7 e) h3;have qv:G≠.ref (M.length+K):=λz=>by subst z;simp[du,gr (show M.length<=M.length+K from x_)] at qk
 obtain⟨q4,M',e,ms,b5,b6,R,U,b9,Z,Cd,rfl,g1,g2,g3,g4⟩:=Ho (c:=(Ex.v 4).den (PW (m-1))) (body:=Es.den (PW (m-1)))
  (λk ρ M'=>∃ms c b5 b6 R U b9 Z Cd,ρ=EH (Bw K r hs) (je s a) G (M.length+K) (.bl c) b5 b6 R U b9 Z Cd/\Ms t (M.length+K) K s ms M'/\Cn K s ms/\Snd K hs s a ps ms/\yd M M'/\((c=true/\k=K1 K ms+1)\/(c=false/\k=K1 K ms/\Ker K hs s a ps ms)))
  (fun ρ M'=>∃ms b5 b6 R U b9 Z Cd,ρ=EH (Bw K r hs) (je s a) G (M.length+K) (.bl false) b5 b6 R U b9 Z Cd/\Ms t (M.length+K) K s ms M'/\Cn K s ms/\Ker K hs s a ps ms/\yd M M')
  (λk ρ M2 hI=>by
   obtain⟨ms,c,b5,b6,R,U,b9,Z,Cd,rfl,f1,f2,f3,f4,⟨rfl,f5⟩|⟨rfl,f5,f6⟩⟩:=hI
   .obtain⟨M3,q1,q2,q3⟩:=aml (W:=PW (m-1)) (pt:=Bw K r hs) (w:=je s a) (pd:=G) (c:=.bl true) (b5:=b5) (b6:=b6) (b7:=R) (b8:=U) (b9:=b9) (b10:=Z) (Cd:=Cd) h3 f1
    have q0:=f1.frame (M':=M3) (λx o _ _ e=>q2 x o e) (b_ ht x_);obtain⟨c6,c7,c8,c9,Fj,J5,Bl,M4,p1,p2,p3,p4⟩:=as3 (m:=m-1) (r:=r) (pd:=G) (c:=.bl true) (b5:=some (.vl (uf M2.length K))) (b6:=b6) (b7:=R) (b8:=U) (b9:=b9) (b10:=Z) (Cd:=Cd) (r_ hm) P w ok (b_ ht x_) ((f4.trans q2).du qk) qv q0 f2 f3;have lm:M.length+K<M2.length:=by obtain⟨Z5,z,_⟩:=f1.ex;exact vh z
    have ne:=anl (Vm:=ms) (B:=M2.length) p2 λe he=>p4 _ _ (by lia) (q3 e he)
    have kp:yd M M4:=λx o e=>p4 _ _ (by have:=vh e;lia) (q2 _ _ (f4 _ _ e))
    have le:=p3.le
    by_cases z:K1 K Bl=K1 K ms
    .obtain⟨z1,z2⟩:=p3.eq z
     have al:((List.range K).all λe=>decide (ms e=Bl e))=true:=by rw[z1];simp
     rw[al] at ne;refine .inr ⟨M2,.next,EH (Bw K r hs) (je s a) G (M.length+K) (.bl false) (some (.vl (uf M2.length K))) c6 c7 c8 c9 Fj J5,M4,K1 K Bl,rfl,by simp[Es,q1,p1,ne],.inl rfl,by lia,Bl,false,_,c6,c7,c8,c9,Fj,J5,rfl,p2,p3.cn,p3.snd,kp,.inr ⟨rfl,rfl,?_⟩⟩;rw[z1];exact asb P w ok f3 λp hp d hd=>z2 p d ⟨hp,hd⟩
    .have al:((List.range K).all λe=>decide (ms e=Bl e))=false:=by
      rw[Bool.eq_false_iff];intro q;refine z (amk λe he=>?_).symm;simpa using jd.mp q e (fc.mpr he)
     rw[al] at ne;exact .inr ⟨M2,.next,EH (Bw K r hs) (je s a) G (M.length+K) (.bl true) (some (.vl (uf M2.length K))) c6 c7 c8 c9 Fj J5,M4,K1 K Bl+1,rfl,by simp[Es,q1,p1,ne],.inl rfl,by lia,Bl,true,_,c6,c7,c8,c9,Fj,J5,rfl,p2,p3.cn,p3.snd,kp,.inl ⟨rfl,rfl⟩⟩
   .exact .inl ⟨M2,rfl,ms,b5,b6,R,U,b9,Z,Cd,rfl,f1,f2,f6,f4⟩)
  Wq (K1 K (idm s)+1) (EH (Bw K r hs) (je s a) G (M.length+K) (.bl true) none none none none none none none) M1 (by unfold Wq;lia)
  ⟨idm s,true,none,none,none,none,none,none,none,rfl,qq,ahw K s,ab9,k1,.inl ⟨rfl,rfl⟩⟩
 have e:Oi.den (PW (m-1)) (EH (Bw K r hs) (je s a) G (M.length+K) (.bl true) none none none none none none none) M1=_:=e;refine⟨ms,M',?_,g1,g2,g3,g4⟩;simp[Fn.run,Rv,Ru,e1,e]
end
abbrev EDw(pt w pd:D)(pm:Nat)(fs:D)(ac:Nat)(b6 b7 b8 b9 b10 Cd Ji:Option D):Env:=[some pt,some w,some pd,sR pm,some fs,sR ac,b6,b7,b8,b9,b10,Cd,Ji]
abbrev fsD(K:Nat)(s:Y3)(ms:Nat->List Nat):D:=.vl (((List.range K).map (fi s ms)).map Bx)
abbrev EDv(K r:Nat)(hs:List F)(s:Y3)(a:List (List Nat))(pd:D)(pm:Nat)(ms:Nat->List Nat)(ac:Nat)(b6 b7 b8 b9 b10 Cd Ji:Option D):Env:=EDw (Bw K r hs) (je s a) pd pm (fsD K s ms) ac b6 b7 b8 b9 b10 Cd Ji
def aaa{W:Hh}{ρ:Env}{y:Nat}{it fe:Ex}{l k:Y3}(G:ρ.length=y)(Z:it.den W ρ M=.ok d M)(hd:du M d=some (k.map nD))(hk:k.length<=7)(hf:∀z,fe.den W (ρ++[z]) M=.ok (Bx l) M)(Tu:∀x∈k,x∈l):(Ex.comp true 1 (.name y) (.val it) (.bm .index fe (.o (.v y)))).den W ρ M=.ok (Bx (k.map (Rf l))) M:=by
 rw[wz (d:=d) (ds:=k.map nD) (M1:=M) (g:=λd=>match d with|.int o=>nD (Rf l o.toNat)|_=>.non) Z hd (by rw[cz];exact a_ hk (by decide)) (λz hz=>by
  obtain⟨x,U,rfl⟩:=bc.mp hz;have R:=afb (M:=M) (ds:=l.map nD) (v:=(x:Int)) (afg l) (aht (Tu x U));have e1:(ρ++List.replicate 1 none).set y (some (nD x))=ρ++[some (nD x)]:=by rw[Ag];simp[G]
  have g9:(ρ++[some (nD x)])[y]?=some (some (nD x)):=by rw[<- G];simp
  have ty:K7 .index (Bx l) M=true:=rfl;refine⟨ρ++[some (nD x)],by rw[<- e1];rfl,?_⟩;have v9:(Ex.v y).den W (ρ++[some (nD x)]) M=.ok (nD x) M:=by simp[g9]
  rw[agi,hf,Res.Cy,dg ty,Dl,v9];exact R)]
 simp only[Bx,o4,ji]
 congr 2
section
variable{m:Nat}{M:dh}{sz:Nat->Nat}{K n r:Nat}{hs:List F}{ik:List (List Kx×D)}{s:Y3}{a:List (List Nat)}{ps:List Tr}{ms:Nat->List Nat}
def a0b{j:Nat}(h:j<K):zg (fsD K s ms) (.int j) M=some (Bx (fi s ms j)):=ahu (asw h)
def Mk.keep(h:Mk t Z K L ms M)(k:yd M M')(G:t<Z):Mk t Z K L ms M':=h.frame (λx o _ _ e=>k x o e) G
def ah0{W:Hh}{b5 b6 b7 b8 b9 b10 Cd Ji:Option D}{pt wd pd:D}(w:Gv K hs s a)(hK:K<=3)(mk:Ms t G K s ms M)(c:Cn K s ms):Jc.den W [some pt,some wd,some pd,sR G,none,b5,b6,b7,b8,b9,b10,Cd,Ji] M=.ok (fsD K s ms) M:=by
 obtain⟨Z5,U,Z,h3⟩:=mk.ex;unfold Jc;rw[Dt (s:=.live G K) (n:=K) (M1:=M) (g:=λe=>Bx (fi s ms e)) (by simp[srcOf,U,Z]) rfl (a_ hK (by decide)) (by simp[Src.fin,U,Z]) (λi R=>by
  obtain⟨d,g1,g2,_⟩:=h3 i R;have f:=afr w c R g2;exact⟨d,[some pt,some wd,some pd,sR G,none,b5,b6,b7,b8,b9,b10,Cd,Ji,some d],by simp[Src.item,U,Z,g1],rfl,by simp[f]⟩)]
 simp only[fsD,o4];rfl
def ah1{W:Hh}(P:Ef sz K hs ik)(w:Gv K hs s a)(c:Cn K s ms)(mk:Ms t U K s ms M){j:Nat}(hg:hs[j]?=some g)(ej:a[j]?=some Z)(R:M[ac]?=some (.lst xs))(hl:xs.length<=100) :
 ∃c9,Et.den W (EDv K r hs s a pd U ms ac (sI j) b7 b8 b9 none none none) M=.ok (.next,EDv K r hs s a pd U ms ac (sI j) (sI g.a) (sI g.b) c9 none none none) (M.set ac (.lst (xs++[u9 (Hn s ms g Z)]))):=by
 obtain⟨l1,l2⟩:=w.ok j g Z hg ej;have ga:=P.R8 g (ao hg);have gb:=P.Li g (ao hg);have f7:=a_ (aca s ms g.a) (w.s7 g.a);obtain⟨row,r1,r2⟩:=mk.row gb;have c4:Jb.den W (EDv K r hs s a pd U ms ac (sI j) (sI g.a) (sI g.b) b9 none none none) M=.ok (Bx ((fi s ms g.a).map λG=>vm ms g.b (Z.getD G 0))) M:=by
  unfold Jb;rw[wz (d:=Bx (fi s ms g.a)) (ds:=(fi s ms g.a).map nD) (M1:=M) (g:=λd=>match d with|.int o=>nD (vm ms g.b (Z.getD o.toNat 0))|_=>.non) (by simp[a0b ga]) rfl (by rw[cz];exact a_ f7 (by decide)) (λz hz=>by
   obtain⟨x,hx,rfl⟩:=bc.mp hz;have qq:=(Hd.mp hx).1;have i1:=Qo (M:=M) (l:=Z) (i:=x) (b_ qq (g_ l1));have ly:=l2 _ (getD_mem' (b_ qq (g_ l1)));have i2:=Jh r2 (x:=Z.getD x 0) (by rw[c.len g.b gb];exact ly);refine⟨EDv K r hs s a pd U ms ac (sI j) (sI g.a) (sI g.b) b9 none none none++[some (nD x)],rfl,?_⟩;show _=Res.ok (nD ((ms g.b).getD (Z.getD x 0) 0)) M;generalize Z.getD x 0=u at i1 i2 ⊢;generalize(ms g.b).getD u 0=v at i2 ⊢;simp[nD,r1,ar3,az4 ej,i1,i2])]
  simp only[Bx,o4,ji]
  congr 2
 have Tu:∀x∈(fi s ms g.a).map (λG=>vm ms g.b (Z.getD G 0)),x∈fi s ms g.b:=λx hx=>by obtain⟨G,ht,rfl⟩:=bc.mp hx;exact afl c gb (l2 _ (getD_mem' (b_ (Hd.mp ht).1 (g_ l1))))
 have c3:Ja.den W (EDv K r hs s a pd U ms ac (sI j) (sI g.a) (sI g.b) (some (Bx ((fi s ms g.a).map λG=>vm ms g.b (Z.getD G 0)))) none none none) M=.ok (Bx (Hn s ms g Z)) M:=by unfold Ja;have:=aaa (M:=M) (W:=W) (y:=13) (it:=.v 9) (fe:=.ix (.v 4) (.v 8)) (l:=fi s ms g.b) (d:=Bx ((fi s ms g.a).map λG=>vm ms g.b (Z.getD G 0))) (ρ:=EDv K r hs s a pd U ms ac (sI j) (sI g.a) (sI g.b) (some (Bx ((fi s ms g.a).map λG=>vm ms g.b (Z.getD G 0)))) none none none) rfl rfl rfl (by rw[cz];exact f7) (λz=>by simp[a0b gb]) Tu;rw[this,o4];rfl
 generalize Bx ((fi s ms g.a).map λG=>vm ms g.b (Z.getD G 0))=en at c4 c3;have tv:o8 .tuple [Bx (Hn s ms g Z)] M=.ok (u9 (Hn s ms g Z)) M:=rfl;have ap:=Dm (d:=u9 (Hn s ms g Z)) R (by lia);have pe:∀ρ,(Tg.names [7,8]).put (eD g) ρ=some ((ρ.set 7 (sI g.a)).set 8 (sI g.b)):=λ_=>rfl
 exact⟨some en,by simp[Et,Mr,R9 hg,pe,c4,c3,tv,Ea R,ap]⟩
def as6{W:Hh}(P:Ef sz K hs ik)(w:Gv K hs s a)(c:Cn K s ms)(mk:Ms t R K s ms M)(ht:t<R) :
 ∃b6 G Z U,Om.den W (EDv K r hs s a pd R ms M.length none none none none none none none) (M++[.lst []])=.ok (.next,EDv K r hs s a pd R ms M.length b6 G Z U none none none) (M++[.lst ((qa hs s a ms).map u9)]):=by
 have l5:=P.len;obtain⟨qq,M',e,⟨b6,G,Z,U,rfl⟩,rfl⟩:=An (W:=W) (t:=.name 6) (b:=Et) (it:=.blt .len (.o (.ix (.v 0) (.i 1)))) (n:=hs.length) (ρ:=EDv K r hs s a pd R ms M.length none none none none none none none) (M:=M++[.lst []]) (M1:=M++[.lst []]) (by simp[Mr,Ow]) (a_ l5 (by decide))
  (λi ρ M'=>(∃b6 G Z U,ρ=EDv K r hs s a pd R ms M.length b6 G Z U none none none)/\M'=M++[.lst (((qa hs s a ms).take i).map u9)]) ⟨⟨none,none,none,none,rfl⟩,by simp⟩ (λi ρ M' hi hI=>by
   obtain⟨⟨b6,G,Z,U,rfl⟩,rfl⟩:=hI;obtain⟨g,hg⟩:=Fe hi;obtain⟨js,ej,l1,l2⟩:=w.get hg;have tl:((qa hs s a ms).take i).length<=5:=by rw[Ax];lia
   obtain⟨c9,e⟩:=ah1 (W:=W) (r:=r) (pd:=pd) (b7:=G) (b8:=Z) (b9:=U) P w c (mk.keep (yd.app M [.lst (((qa hs s a ms).take i).map u9)]) ht) hg ej (Bc M _) (by rw[cz];lia);rw[Ti] at e;refine⟨EDv K r hs s a pd R ms M.length (sI i) G Z U none none none,.next,_,_,rfl,e,.inl rfl,⟨_,_,_,c9,rfl⟩,?_⟩;rw[take_one (Rh hg ej),j4];rfl)
 rw[show hs.length=(qa hs s a ms).length by simp[qa],zr] at e;exact⟨b6,G,Z,U,e⟩
def as7{W:Hh}(w:Gv K hs s a)(hK:K<=3)(c:Cn K s ms)(mk:Ms t Z K s ms M)(ht:t<Z) :
 ∃G U,Ol.den W (EDw pt wd pd Z (fsD K s ms) ac b6 b7 b8 b9 (sR M.length) none none) (M++[.lst []])=.ok (.next,EDw pt wd pd Z (fsD K s ms) ac b6 b7 b8 b9 (sR M.length) G U) (M++[.lst ((qo K s ms).map u9)]):=by
 obtain⟨Z5,h1,h2,h3⟩:=mk.ex;obtain⟨qq,M',e,⟨G,U,rfl⟩,rfl⟩:=Wv (W:=W) (n:=K) (t:=.names [11,12]) (b:=Iz) (it:=.zip (.p (.v 3) (.v 4))) (s:=.zl Z (((List.range K).map (fi s ms)).map Bx)) (ρ:=EDw pt wd pd Z (fsD K s ms) ac b6 b7 b8 b9 (sR M.length) none none) (M:=M++[.lst []]) (M1:=M++[.lst []]) (by simp[agh,Vp,acx,qu h1,h2]) (by simp[Src.len])
  (λi ρ M'=>(∃G U,ρ=EDw pt wd pd Z (fsD K s ms) ac b6 b7 b8 b9 (sR M.length) G U)/\M'=M++[.lst ((qo i s ms).map u9)]) ⟨⟨none,none,rfl⟩,rfl⟩ (λ_ M' h=>by obtain⟨_,rfl⟩:=h;simp[Src.fin,qu h1,h2]) (λi ρ M' R hI=>by
   obtain⟨⟨G,U,rfl⟩,rfl⟩:=hI;obtain⟨d,g1,g2,_⟩:=h3 i R;have hd:du (M++[.lst ((qo i s ms).map u9)]) d=some ((ms i).map nD):=(yd.app _ _).du g2;have c2:Iw.den W (EDw pt wd pd Z (fsD K s ms) ac b6 b7 b8 b9 (sR M.length) (some d) (some (Bx (fi s ms i)))) (M++[.lst ((qo i s ms).map u9)])=.ok (Bx ((ms i).map (Rf (fi s ms i)))) (M++[.lst ((qo i s ms).map u9)]):=by unfold Iw;exact aaa (y:=13) (it:=.v 11) (fe:=.v 12) (l:=fi s ms i) (d:=d) rfl rfl hd (by rw[c.len i R];exact w.s7 i) (λz=>rfl) (λx hx=>Hd.mpr (by simpa using(c.mem R x).mp hx))
   have tv:∀l M,o8 .tuple [Bx l] M=.ok (u9 l) M:=λ_ _=>rfl
   have ap:=Dm (d:=u9 ((ms i).map (Rf (fi s ms i)))) (Bc M (.lst ((qo i s ms).map u9))) (by simp[qo];lia);rw[Ti] at ap;refine⟨.tup [d,Bx (fi s ms i)],EDw pt wd pd Z (fsD K s ms) ac b6 b7 b8 b9 (sR M.length) (some d) (some (Bx (fi s ms i))),?_,rfl,EDw pt wd pd Z (fsD K s ms) ac b6 b7 b8 b9 (sR M.length) (some d) (some (Bx (fi s ms i))),_,?_,⟨_,_,rfl⟩,rfl⟩
   .simp only[Src.item,qu (X:=[MO.lst ((qo i s ms).map u9)]) h1,cz,yq,h2,ji,g1,qp,ie,km R,m8]
   .have q:(qo i s ms).map u9++[u9 ((ms i).map (Rf (fi s ms i)))]=(qo (i+1) s ms).map u9:=by simp[qo,rm]
    rw[q] at ap;simp[Iz,c2,tv,Ea (Bc M _),ap])
 exact⟨G,U,e⟩
def Uu(hm:3<=m)(P:Ef sz K hs ik)(w:Gv K hs s a)(ok:V8 K s ps)(qq:du M pd=some (ps.map Cj))(ht:0<M.length) :
 ∃ms M',prog.call m 34 [Bw K r hs,je s a,pd] M=.ok (drD K hs s a ms) M'/\Cn K s ms/\Ker K hs s a ps ms/\yd M M':=by
 rw[call_of (a_ (by decide) hm) rfl];have h3:=P.k3;obtain⟨ms,Z,e1,mk,c,kr,k1⟩:=amm (m:=m-1) (r:=r) (r_ hm) P w ok qq ht;have tp:0<M.length+K:=b_ ht x_
 have e2:=ah0 (W:=PW (m-1)) (pt:=Bw K r hs) (wd:=je s a) (pd:=pd) (b5:=none) (b6:=none) (b7:=none) (b8:=none) (b9:=none) (b10:=none) (Cd:=none) (Ji:=none) w h3 mk c;obtain⟨R,U,G,b9,e3⟩:=as6 (W:=PW (m-1)) (r:=r) (pd:=pd) P w c mk tp;obtain⟨Cd,Ji,e4⟩:=as7 (W:=PW (m-1)) (M:=Z++[.lst ((qa hs s a ms).map u9)]) (pt:=Bw K r hs) (wd:=je s a) (pd:=pd) (ac:=Z.length) (b6:=R) (b7:=U) (b8:=G) (b9:=b9) w h3 c (mk.keep (yd.app _ _) tp) tp;generalize hX:Z++[MO.lst ((qa hs s a ms).map u9)]++[.lst ((qo K s ms).map u9)]=MX at e4;have kx:yd Z MX:=hX▸(yd.app _ _).trans (yd.app _ _);have l1:(Z++[MO.lst ((qa hs s a ms).map u9)]).length=Z.length+1:=by simp
 rw[l1] at e4;have c1:Iv.den (PW (m-1)) (EDv K r hs s a pd (M.length+K) ms Z.length R U G b9 (sR (Z.length+1)) Cd Ji) MX=.ok (Bx (qs K s ms)) MX:=by
  unfold Iv;rw[Dt (s:=.con (((List.range K).map (fi s ms)).map Bx)) (n:=K) (M1:=MX) (g:=λi=>nD (fi s ms i).length) (by simp[srcOf]) (by simp[Src.len]) (a_ h3 (by decide)) rfl (λi hi=>by
   have ln:o8 .len [Bx (fi s ms i)] MX=.ok (nD (fi s ms i).length) MX:=by rw[len_list (ds:=(fi s ms i).map nD) rfl];simp[nD]
   exact⟨Bx (fi s ms i),EDv K r hs s a pd (M.length+K) ms Z.length R U G b9 (sR (Z.length+1)) Cd Ji++[some (Bx (fi s ms i))],by simp[Src.item,hi],rfl,by simp[ln]⟩)]
  simp only[Bx,qs,o4]
  congr 2
 have tv:o8 .tuple [Bx (qs K s ms)] MX=.ok (u9 (qs K s ms)) MX:=rfl;have ta:o8 .tuple [.ref Z.length] MX=.ok (.tup ((qa hs s a ms).map u9)) MX:=by
  have:MX[Z.length]?=some (.lst ((qa hs s a ms).map u9)):=by rw[<- hX];exact qu (Bc _ _)
  show Res.u5 ((du MX (.ref Z.length)).map D.tup) MX=_;simp[du,this]
 have to:o8 .tuple [.ref (Z.length+1)] MX=.ok (rD (qo K s ms)) MX:=by
  have:MX[Z.length+1]?=some (.lst ((qo K s ms).map u9)):=by rw[<- hX,<- l1];exact Bc _ _
  show Res.u5 ((du MX (.ref (Z.length+1))).map D.tup) MX=_;simp[du,this,rD]
 refine⟨ms,MX,?_,c,kr,k1.trans kx⟩;simp at e4;simp[Fn.run,Ry,Rx,e1,e2,MW.new,e3,e4,c1,tv,ta,to];rfl
end
def ay1(n:Nat):allB (List.replicate n (.bl true))=some true:=by
 induction n with
 |zero=>rfl|succ n Z=>rw[List.replicate_succ,allB,Z];rfl
def afs{f:D->D->Option Bool}{l:List D}(h:∀d∈l,f d d=some true):Qs f l l=some true:=by
 induction l with
 |nil=>rfl|cons x l G=>exact Df (h x cu) (G λd Z=>h d (bh _ Z))
section
variable{m:Nat}{M:dh}{sz:Nat->Nat}{K n r:Nat}{hs:List F}{ik:List (List Kx×D)}{s:Y3}{a:List (List Nat)}{ps:List Tr}{ms:Nat->List Nat}
def same_int(G:1<=m)(i:Nat):prog.call m 31 [nD i,nD i] M=.ok (.bl true) M:=by
 rw[call_of G rfl];have R:o8 .isSeq [nD i] M=.ok (.bl false) M:=rfl;have U:o8 .isBool [nD i] M=.ok (.bl false) M:=rfl;have Z:yf M (nD i) (nD i)=some true:=by simp[nD]
 have e4:yf M (.bl false) (.bl false)=some true:=rfl;simp[Fn.run,Oe,Od,R,U,Z,e4]
def Tj(hm:1<=m){ds:List D}(R:ds.length<=100000)(h:∀d∈ds,prog.call (m-1) 31 [d,d] M=.ok (.bl true) M):prog.call m 31 [.tup ds,.tup ds] M=.ok (.bl true) M:=by
 rw[call_of hm rfl];have e1:o8 .isSeq [.tup ds] M=.ok (.bl true) M:=rfl;have e2:o8 .isTuple [.tup ds] M=.ok (.bl true) M:=rfl;have G:o8 .isList [.tup ds] M=.ok (.bl false) M:=rfl;have e4:∀b,yf M (.bl b) (.bl b)=some true:=λb=>by cases b<;>rfl
 have U:o8 .len [.tup ds] M=.ok (.int ds.length) M:=rfl;have c:J9.den (PW (m-1)) [some (.tup ds),some (.tup ds)] M=.ok (.vl (List.replicate ds.length (.bl true))) M:=by unfold J9;rw[Dt (s:=.con (Ng [ds,ds] ds.length)) (n:=ds.length) (M1:=M) (g:=λ_=>.bl true) (by simp[agh,Vp,acx]) (by simp[Src.len,Ng]) R rfl (λi Z=>⟨.tup [ds[i],ds[i]],[some (.tup ds),some (.tup ds),some ds[i],some ds[i]],by simp[Src.item,Ng,Z],rfl,by simp[h _ (nq Z)]⟩)];simp[List.map_const']
 have al:o8 .all [.vl (List.replicate ds.length (.bl true))] M=.ok (.bl true) M:=by show Res.u5 ((allB _).map D.bl) M=_;rw[ay1];rfl
 simp[Fn.run,Oe,Od,c,e1,e2,G,e4,U,al]
def aft(Z:2<=m)(l:Y3)(U:l.length<=100000):prog.call m 31 [u9 l,u9 l] M=.ok (.bl true) M :=
 Tj (a_ (by decide) Z) (by rw[cz];exact U) λd G=>by obtain⟨i,_,rfl⟩:=bc.mp G;exact same_int (r_ Z) i
def aab(Z:3<=m)(q:List (List Nat))(R:q.length<=100000)(U:∀l∈q,l.length<=100000):prog.call m 31 [rD q,rD q] M=.ok (.bl true) M :=
 Tj (a_ (by decide) Z) (by rw[cz];exact R) λd G=>by obtain⟨i,h,rfl⟩:=bc.mp G;exact aft (r_ Z) i (U i h)
def bh6(w:Gv K hs s a)(h:l∈a):l.length<=7:=by obtain⟨j,Z⟩:=wy.mp h;obtain⟨g,G⟩:=Fe (l:=hs) (i:=j) (by rw[<- w.la];exact(ak.mp Z).1);rw[(w.ok j g l G Z).1];exact w.s7 g.a
def afu(Z:4<=m)(P:Ef sz K hs ik)(w:Gv K hs s a):prog.call m 31 [je s a,je s a] M=.ok (.bl true) M:=by
 have U:=P.len;have R:=P.k3;refine Tj (ds:=[u9 s,rD a]) (a_ (by decide) Z) (by show 2<=100000;decide) λd G=>?_
 rcases cj.mp G with rfl|G
 .exact aft (a_ (by decide) (r_ (c:=1) Z)) s (by rw[w.ls];lia)
 .rw[kj.mp G]
  exact aab (r_ Z) a (by rw[w.la];lia) λl h=>a_ (bh6 w h) (by decide)
def akn(Z:5<=m)(P:Ef sz K hs ik)(w:Gv K hs s a)(R:q.length<=100000)(U:∀l∈q,l.length<=100000):prog.call m 31 [.tup [je s a,rD q],.tup [je s a,rD q]] M=.ok (.bl true) M:=by
 refine Tj (a_ (by decide) Z) (by show 2<=100000;decide) λd G=>?_
 rcases cj.mp G with rfl|G
 .exact afu (r_ Z) P w
 .rw[kj.mp G]
  exact aab (a_ (by decide) (r_ (c:=1) Z)) q R U
def a6d(P:Ef sz K hs ik)(w:Gv K hs s a)(c:Cn K s ms):(qo K s ms).length<=100000/\∀l∈qo K s ms,l.length<=100000:=by have G:=P.k3;refine⟨by simp[qo];lia,λl h=>?_⟩;obtain⟨e,Z,rfl⟩:=bc.mp h;rw[cz,c.len e (fc.mp Z)];exact a_ (w.s7 e) (by decide)
abbrev EI(t:Nat)(pt:D)(n:Nat)(w:D)(p:Nat)(b5 b6 b7 b8:Option D):Env:=[sR t,some pt,sR n,some w,sR p,b5,b6,b7,b8]
def amo(hm:6<=m)(P:Ef sz K hs ik)(w:Gv K hs s a)(ok:V8 K s ps)(hl:ps.length<=20)(hM:Made n r' K hs ik M)(nt:n≠t)(rt:r'≠t)(hh:Q0 t f M)(hp:M[p]?=some (.lst (ps.map Cj)))(pt:p≠t) :
 ∃M',prog.call m 35 [.ref t,Bw K r hs,.ref n,je s a,.ref p] M=.ok (.bl true) M'/\St t f M M':=by
 rw[call_of (a_ (by decide) hm) rfl];have ml:0<M.length:=c_ (iz _) (vh hp)
 obtain⟨ms,M1,e1,c,k,k1⟩:=Uu (m:=m-1) (r:=r) (a_ (by decide) (r_ (c:=1) hm)) P w ok (jx hp) ml;have s1:St t f M M1:=St.of hh k1;obtain⟨more,M2,e2,g2,U,l2,s2⟩:=asy (m:=m-1) (r:=r) (mo:=2) (a_ (by decide) (r_ (c:=1) hm)) P w s1.has (by decide) (by decide);have Z:=s1.trans s2;have cg:=k.ase P w ok;have w':=ahx P w c cg;have c1:Gg.den (PW (m-1)) (EI t (Bw K r hs) n (je s a) p (some (qw K hs s a ms)) (some (rD (qo K s ms))) (sR M1.length) none) M2=.ok (.vl ((lat s ms more).map Cj)) M2:=by
  unfold Gg;rw[Dt (s:=.live M1.length more.length) (n:=more.length) (M1:=M2) (g:=λi=>Cj ((lat s ms more).getD i (0,0,0))) (by simp[srcOf,g2]) rfl (a_ l2 (by decide)) (by simp[Src.fin,g2]) (λi hi=>by
   obtain⟨q,R⟩:=Fe hi;obtain⟨q1,q2,q3⟩:=U q (ao R);have i1:=asi (M:=M2) (asx (s:=s) (ms:=ms) q1);have i2:=Qo (M:=M2) (l:=(ms q.1).map (Rf (fi s ms q.1))) (i:=q.2.1) (by rw[cz,c.len _ q1];exact q2);have i3:=Qo (M:=M2) (l:=(ms q.1).map (Rf (fi s ms q.1))) (i:=q.2.2) (by rw[cz,c.len _ q1];exact q3);rw[getD_map (α:=Nat) (by rw[c.len _ q1];exact q2)] at i2;rw[getD_map (α:=Nat) (by rw[c.len _ q1];exact q3)] at i3;have G:(lat s ms more)[i]?=some (q.1,on s ms q.1 q.2.1,on s ms q.1 q.2.2):=by simp[lat,R]
   rw[Aa G];refine⟨Cj q,EI t (Bw K r hs) n (je s a) p (some (qw K hs s a ms)) (some (rD (qo K s ms))) (sR M1.length) none++[sI q.1,sI q.2.1,sI q.2.2],by simp[Src.item,g2,R],rfl,?_⟩;simp only[Cj,on,vm];generalize Rf (fi s ms q.1) ((ms q.1).getD q.2.1 0)=u at i2 ⊢;generalize Rf (fi s ms q.1) ((ms q.1).getD q.2.2 0)=v at i3 ⊢;simp[i1,i2,i3])]
  congr 2
  apply uo;intro i;rw[ie,ie]
  by_cases hi:i<more.length
  .obtain⟨q,R⟩:=Fe hi
   have G:(lat s ms more)[i]?=some (q.1,on s ms q.1 q.2.1,on s ms q.1 q.2.2):=by simp[lat,R]
   rw[km hi,G,m8,Aa G];rfl
  .rw[gr (by simpa using hi),gr (by simpa[lat] using hi)]
   rfl
 have qv:Made n r' K hs ik M2:=⟨Z.keep _ _ nt hM.1,Z.keep _ _ rt hM.2⟩;obtain⟨m',M3,e3,c',k',k3⟩:=X8 (m:=m-1) (a_ (by decide) (r_ (c:=1) hm)) P w' (a5s c U) (by simp[lat];lia) qv (pd:=.vl ((lat s ms more).map Cj)) rfl;have qk:=k3 _ _ (Z.keep _ _ pt hp);have g3:=k3 _ _ g2;have ad:aib (.ref p) (.ref M1.length) M3=.ok (.vl ((ps++more).map Cj)) M3:=by show(match du M3 (.ref p),du M3 (.ref M1.length) with|some xs,some ys=>if xs.length+ys.length<=100000 then Res.ok (D.vl (xs++ys)) M3 else .bad|_,_=>.bad)=_;rw[jx qk,jx g3];simp only[cz,j4];rw[dg (by lia)]
 have qq:∀q∈ps++more,Lies K s q:=λq R=>(dw.mp R).elim (ok q) (U q)
 obtain⟨mt,M4,e4,ct,kt,k4⟩:=Uu (m:=m-1) (r:=r) (M:=M3) (pd:=.vl ((ps++more).map Cj)) (a_ (by decide) (r_ (c:=1) hm)) P w qq rfl (c_ (iz _) (vh qk));obtain⟨t1,t2⟩:=ayn P w ok U c k ct kt c' k';have sm:=afu (m:=m-1) (M:=M4) (a_ (by decide) (r_ (c:=1) hm)) P (ahx P w ct (kt.ase P w qq));refine⟨M4,?_,Z.trans (St.of Z.has (k3.trans k4))⟩;have i3:zg (drD K hs (qs K s ms) (qa hs s a ms) m') (.int 0) M3=some (qw K hs s a mt):=by unfold qw;rw[<- t1,<- t2];rfl
 have i4:zg (drD K hs s a mt) (.int 0) M4=some (qw K hs s a mt):=rfl;have pu:∀ρ,(Tg.names [5,6]).put (drD K hs s a ms) ρ=some ((ρ.set 5 (some (qw K hs s a ms))).set 6 (some (rD (qo K s ms)))):=λ_=>rfl
 have ad:Hk .add (.ref p) (.ref M1.length) M3=.ok (.vl ((ps++more).map Cj)) M3:=ad;simp[-List.map_append,Fn.run,Oq,Oo,e1,pu,e2,c1,e3,i3,ad,e4,i4,sm]
end
abbrev EL(sc st pt:D)(n:Nat)(ws rs:D)(b6 b7 b8 b9 b10:Option D):Env:=[some sc,some st,some pt,sR n,some ws,some rs,b6,b7,b8,b9,b10,none]
abbrev EW(ns:Xs)(M:dh)(K r:Nat)(hs:List F)(n:Nat)(s1:Y3)(a1:List (List Nat))(s2:Y3)(a2:List (List Nat))(M5 M6:dh)(b6 b7 b8 b9 b10:Option D):Env:=EL (.fz (ns.map D.int)) (.ref M.length) (Bw K r hs) n (.vl [je s1 a1,je s2 a2]) (.vl [.ref M5.length,.ref M6.length]) b6 b7 b8 b9 b10
def bcf(M:dh)(p:Tr):Jm M 5 (Cj p) (Cj p)=some true:=by unfold Cj;rw[au2];exact afs λd Z=>by simp only[cj,ug,Bd] at Z;rcases Z with rfl|rfl|rfl<;>exact(aao _ _ _).trans (by simp)
def a6e{Z:List Tr}(R:M[i]?=some (.lst (Z.map Cj)))(U:M[j]?=some (.lst (Z.map Cj))):yf M (.ref i) (.ref j)=some true:=by unfold yf;rw[Yb (jx R) (jx U),dg rfl];exact afs λd G=>by obtain⟨p,_,rfl⟩:=bc.mp G;exact bcf M p
section
variable{m:Nat}{M:dh}{sz:Nat->Nat}{K n r:Nat}{hs:List F}{ik:List (List Kx×D)}{s:Y3}{a:List (List Nat)}{ps:List Tr}{ms:Nat->List Nat}
def as8(Z:6<=m)(P:Ef sz K hs ik)(w:Gv K hs s a)(ok:V8 K s ps)(hl:ps.length<=20)(hM:Made n r' K hs ik M)(nt:n≠t)(rt:r'≠t)(hh:Q0 t f M)(hp:M[p]?=some (.lst (ps.map Cj)))(pt:p≠t) :
 ∃c9 Fj M',V0.den (PW m) (EL sc (.ref t) (Bw K r hs) n ws rs b6 (some (je s a)) (sR p) b9 b10) M=.ok (.next,EL sc (.ref t) (Bw K r hs) n ws rs b6 (some (je s a)) (sR p) c9 Fj) M'/\St t f M M':=by
 have ls:o8 .list [.ref p] M=.ok (.ref M.length) (M++[.lst (ps.map Cj)]):=by show(match du M (.ref p) with|some xs=>MW.new (.lst xs) M|none=>.bad)=_;rw[jx hp];rfl
 have k0:yd M (M++[.lst (ps.map Cj)]):=yd.app _ _;obtain⟨ms,M1,e1,c,k,G⟩:=X8 (m:=m) (pd:=.ref M.length) (a_ (by decide) Z) P w ok (by lia) (hM.keep k0) (Kf (jx (Bc _ _)));have R:=G _ _ (k0 _ _ hp);obtain⟨mt,M2,e2,U,kt,k2⟩:=Uu (m:=m) (r:=r) (M:=M1) (a_ (by decide) Z) P w ok (jx R) (c_ (iz _) (vh R));obtain⟨q1,q2,q3⟩:=akl (s:=s) (a:=a) P λe he=>k.uniq c kt U he
 have ed:drD K hs s a ms=drD K hs s a mt:=by unfold drD qw;rw[q1,q2,q3]
 rw[ed] at e1;obtain⟨l1,l2⟩:=a6d P w U;have sm:prog.call m 31 [drD K hs s a mt,drD K hs s a mt] M2=.ok (.bl true) M2:=akn (a_ (by decide) Z) P (ahx P w U (kt.ase P w ok)) l1 l2;have h1:=k2 _ _ (G _ _ (Bc M (.lst (ps.map Cj))));have h2:=k2 _ _ R;have ne:=a6e h1 h2;have kk:=k0.trans (G.trans k2);have s2:St t f M M2:=St.of hh kk;obtain⟨M3,e3,s3⟩:=amo (m:=m) (r:=r) (M:=M2) Z P w ok hl (hM.keep kk) nt rt s2.has h2 pt;exact⟨some (.ref M.length),some (drD K hs s a mt),M3,by simp[V0,ls,e1,e2,sm,ne,e3],s2.trans s3⟩
end
def a6f{m:Nat}{ns:Xs}{M:dh}(hm:7<=m):∃M',prog.call m 36 [.fz (ns.map D.int)] M=.ok (.bl true) M':=by
 rw[call_of (a_ (by decide) hm) rfl];obtain⟨n0,f0,s0,o0⟩:=aom (m:=m-1) (k:=0) (ns:=ns) (M:=M) (r_ (a_ (by decide) hm));have s0:prog.call (m-1) 13 [.fz (ns.map D.int),.int 0] M=_:=s0;have zq:Q0 M.length f0 (M++[.lst [.int n0,.bl f0]]):=⟨n0,by simp,o0⟩;obtain⟨K,r,sz,R,ik,M1,e0,p0,lr,P,t0⟩:=agq (m:=m-1) (r_ (a_ (by decide) hm)) zq;have e0:prog.call (m-1) 17 [.ref M.length] (M++[.lst [.int n0,.bl f0]])=.ok (Bw K r R) M1:=e0;have q0:r≠M.length:=by have:=lr;simp at this;lia
 have di:o8 .dict [.ref r] M1=.ok (.ref M1.length) (M1++[.dT ik]):=by show Vx M1 (.ref r)=_;simp[Vx,p0,P.sm,MW.new]
 have nn:(M1++[.dT ik]++[.ins 2 []])[(M1++[MO.dT ik]).length]?=some (.ins 2 []):=Bc _ _;obtain⟨M2,a0,i0,md,la,lb,k0⟩:=avh (M:=M1++[.dT ik]++[.ins 2 []]) (m:=m-1) (r:=M1.length) (n:=(M1++[MO.dT ik]).length) (r_ (a_ (by decide) hm)) P (qu (Bc _ _)) nn;have q4:yd M1 M2:=λa o h=>k0 a o (by have:=vh h;simp;lia) (qu (qu h))
 have z7:M.length<M1.length:=by obtain⟨k,h,o⟩:=t0.has;exact vh h
 have mk:(Ex.make 2 (.q (.ix (.v 2) (.i 0)) (.ix (.v 2) (.i 1)) (.blt .dict (.o (.ix (.v 2) (.i 2)))))).den (PW (m-1)) [some (.fz (ns.map D.int)),sR M.length,sP K r R,none,none,none,none,none,none,none,none,none] M1=.ok (.ref (M1++[MO.dT ik]).length) M2:=by have cl:(prog.cls)[2]?=some ⟨0,[(0,2)]⟩:=rfl;generalize hq:(M1++[MO.dT ik]).length=q at i0;simp only[yo] at i0;simp[S8,Mr,az1,di,cl,<- hq] at i0 ⊢;simp[i0]
 have nt:(M1++[MO.dT ik]).length≠M.length:=by simp;lia
 generalize(M1++[MO.dT ik]).length=n at mk md nt;have z0:Q0 M.length f0 M2:=by obtain⟨k,h,o⟩:=t0.has;exact⟨k,q4 _ _ h,o⟩
 have qq:a0≠M.length:=by have:=la;simp at this;lia
 have h3:=P.k3;obtain⟨Z,U,M4,e4,w1,s4⟩:=afh (m:=m-1) (r:=r) (r_ (a_ (by decide) hm)) P z0 (q4 _ _ p0) q0;obtain⟨s2,a2,M5,e5,w2,s5⟩:=afh (m:=m-1) (r:=r) (r_ (a_ (by decide) hm)) P s4.has (s4.keep _ _ q0 (q4 _ _ p0)) q0;have m1:2<=m-1:=r_ (a_ (by decide) hm)
 obtain⟨zz,M6,e6,g6,z2,l6,s6⟩:=asy (m:=m-1) (r:=r) (mo:=6) m1 P w1 s5.has (by decide) (by decide);obtain⟨zw,M7,e7,g7,z5,l7,s7⟩:=asy (m:=m-1) (r:=r) (mo:=6) m1 P w2 s6.has (by decide) (by decide);have qv:M.length<M5.length:=by obtain⟨k,h,o⟩:=s5.has;exact vh h
 have q7:M.length<M6.length:=by obtain⟨k,h,o⟩:=s6.has;exact vh h
 have q5:=s4.trans (s5.trans (s6.trans s7));have qk:Made n a0 K R ik M7:=⟨q5.keep _ _ nt md.1,q5.keep _ _ qq md.2⟩;have z6:=s7.keep _ _ (i_ qv) g6;have c2:aaw.den (PW (m-1)) [some (.fz (ns.map D.int)),sR M.length,sP K r R,sR n,some (.vl [je Z U,je s2 a2]),none,none,none,none,none,none,none] M5=.ok (.vl [.ref M5.length,.ref M6.length]) M7:=by unfold aaw;rw[Hq];simp[srcOf,Ai,Src.len,De,Src.item,Src.fin,Tg.put,e6,e7]
 have q6:∀M8,St M.length f0 M7 M8->∀b6 b7 b8 b9 G,∃c7 c8 c9 Fj M9,V1.den (PW (m-1)) (EW ns M K r R n Z U s2 a2 M5 M6 b6 b7 b8 b9 G) M8=.ok (.next,EW ns M K r R n Z U s2 a2 M5 M6 b6 c7 c8 c9 Fj) M9/\St M.length f0 M7 M9:=λM8 s8 b6 b7 b8 b9 G=>by
  obtain⟨z8,M9,e9,⟨c7,c8,c9,Fj,rfl⟩,s9⟩:=Wv (W:=PW (m-1)) (s:=.con (Ng [[je Z U,je s2 a2],[.ref M5.length,.ref M6.length]] 2)) (n:=2) (t:=.names [7,8]) (b:=V0) (it:=.zip (.p (.v 4) (.v 5))) (ρ:=EW ns M K r R n Z U s2 a2 M5 M6 b6 b7 b8 b9 G) (M:=M8) (M1:=M8) rfl rfl
   (λ_ ρ M'=>(∃c7 c8 c9 Fj,ρ=EW ns M K r R n Z U s2 a2 M5 M6 b6 c7 c8 c9 Fj)/\St M.length f0 M7 M') ⟨⟨b7,b8,b9,G,rfl⟩,s8⟩ (λ_ _ _=>rfl) (λj ρ M9 hj hI=>by
    obtain⟨⟨c7,c8,c9,Fj,rfl⟩,s9⟩:=hI;have zk:Made n a0 K R ik M9:=⟨s9.keep _ _ nt qk.1,s9.keep _ _ qq qk.2⟩;obtain⟨s,a,p,ps,w,ok,l,it,gp,pt⟩:∃s a p,∃ps:List Tr,Gv K R s a/\(V8 K s ps)/\ps.length<=20/\(Src.con (Ng [[je Z U,je s2 a2],[.ref M5.length,.ref M6.length]] 2)).item j M9=some (.tup [je s a,.ref p])/\M9[p]?=some (.lst (ps.map Cj))/\p≠M.length:=match j,hj with
     |0,_=>⟨Z,U,M5.length,zz,w1,z2,l6,rfl,s9.keep _ _ (i_ qv) z6,i_ qv⟩|1,_=>⟨s2,a2,M6.length,zw,w2,z5,l7,rfl,s9.keep _ _ (i_ q7) g7,i_ q7⟩
    obtain⟨d9,zv,z1,z4,z3⟩:=as8 (m:=m-1) (r:=r) (sc:=.fz (ns.map D.int)) (ws:=.vl [je Z U,je s2 a2]) (rs:=.vl [.ref M5.length,.ref M6.length]) (b6:=b6) (b9:=c9) (b10:=Fj) (r_ hm) P w ok l zk nt qq s9.has gp pt;exact⟨_,EW ns M K r R n Z U s2 a2 M5 M6 b6 (some (je s a)) (sR p) c9 Fj,it,rfl,_,z1,z4,⟨_,_,d9,zv,rfl⟩,s9.trans z3⟩)
  have e9:air.den (PW (m-1)) _ _=_:=e9;exact⟨c7,c8,c9,Fj,M9,by simp[V1,e9],s9⟩
 obtain⟨z9,M8,e8,⟨b6,b7,b8,b9,G,rfl⟩,s8⟩:=An (W:=PW (m-1)) (t:=.name 6) (b:=V1) (it:=.i 2) (n:=2) (ρ:=EW ns M K r R n Z U s2 a2 M5 M6 none none none none none) (M:=M7) (M1:=M7) rfl (by decide)
  (λ_ ρ M'=>(∃b6 b7 b8 b9 G,ρ=EW ns M K r R n Z U s2 a2 M5 M6 b6 b7 b8 b9 G)/\St M.length f0 M7 M') ⟨⟨none,none,none,none,none,rfl⟩,St.of s7.has (yd.refl _)⟩
  (λi ρ M8 hi hI=>by
   obtain⟨⟨b6,b7,b8,b9,G,rfl⟩,s8⟩:=hI;obtain⟨c7,c8,c9,Fj,M9,e9,s9⟩:=q6 M8 s8 (sI i) b7 b8 b9 G;exact⟨_,.next,_,M9,rfl,e9,.inl rfl,⟨some (.int i),c7,c8,c9,Fj,rfl⟩,s9⟩)
 have e8:ais.den (PW (m-1)) _ _=_:=e8;have c1:aav.den (PW (m-1)) (EW ns M K r R n Z U s2 a2 M5 M6 b6 b7 b8 b9 G) M8=.ok (.vl (((List.range K).map λe=>List.range (Z.getD e 0)).map u9)) M8:=by
  unfold aav;rw[Dt (s:=.con (Z.map nD)) (n:=K) (M1:=M8) (g:=λe=>u9 (List.range (Z.getD e 0))) (by
   have i0:zg (.vl [je Z U,je s2 a2]) (.int 0) M8=some (je Z U):=rfl;simp[i0,afi,srcOf,u9]) (by simp[Src.len,w1.ls]) (a_ h3 (by decide)) rfl (λi hi=>by
   obtain⟨z,hz⟩:=Fe (l:=Z) (i:=i) (by rw[w1.ls];exact hi);have h9:z<=100000:=by have:=w1.s7 i;rw[Aa hz] at this;lia
   exact⟨.int z,EW ns M K r R n Z U s2 a2 M5 M6 b6 b7 b8 b9 G++[sI z],by simp[Src.item,hz,nD],rfl,by rw[Aa hz];simp[h9,u9,nD]⟩)]
  simp
 have q8:Made n a0 K R ik M8:=⟨s8.keep _ _ nt qk.1,s8.keep _ _ qq qk.2⟩;obtain⟨ms,M9,e9,c9,k9,_⟩:=X8 (m:=m-1) (ps:=[]) (pd:=.vl []) (r_ (a_ (by decide) hm)) P w1 (by simp) (by simp) q8 rfl;obtain⟨q1,q2,q3⟩:=akl (s:=Z) (a:=U) P λe he=>k9.uniq c9 (ayo (K:=K) (hs:=R) (a:=U)) (ahw K Z) he
 obtain⟨t1,t2,t3⟩:=ayp P w1;have ed:drD K R Z U ms=.tup [je Z U,rD ((List.range K).map λe=>List.range (Z.getD e 0))]:=by unfold drD qw;rw[q1,q2,q3,t1,t2,t3]
 rw[ed] at e9;have sm:=akn (m:=m-1) (M:=M9) (q:=(List.range K).map λe=>List.range (Z.getD e 0)) (r_ (a_ (by decide) hm)) P w1 (by simp;lia) (λl h=>by
  obtain⟨e,_,rfl⟩:=bc.mp h;have:=w1.s7 e;rw[yq];lia)
 have tv:o8 .tuple [.vl (((List.range K).map λe=>List.range (Z.getD e 0)).map u9)] M8=.ok (rD ((List.range K).map λe=>List.range (Z.getD e 0))) M8:=rfl;have i0:∀M,zg (.vl [je Z U,je s2 a2]) (.int 0) M=some (je Z U):=λ_=>rfl
 generalize rD ((List.range K).map λe=>List.range (Z.getD e 0))=rr at *;generalize((List.range K).map λe=>List.range (Z.getD e 0)).map u9=rv at *;exact⟨M9,by simp[-acy,Fn.run,aoj,azh,s0,e0,mk,e4,e5,c2,e8,c1,tv,i0,e9,sm]⟩
open PySem L2
open PySem.W
set_option maxHeartbeats 0 in
def all_mk{l:OpenLaw}{K:Frag}{h:Heap}(X:K.In h)(G:h.Ns mainGlobals mg)(yv:mg "law" = some (.ref fa))
 (u6:nsIn K mainGlobals "Pattern" = some (some (.ref U)))
 (a0:findIn K (.ref U) "__init__" = some (some (.ref f0)))
 (i0:isFn K (.ref f0)=true)
 (l0:Ck.Lk K f0 "__init__" "Pattern.__init__" (inClass (top 8) 0) oc0 od0 kV0 dc0 pm0 an0 cd0 ct0 sl0)
 (a2:findIn K (.ref U) "doings" = some (some (.ref f2)))
 (i2:isFn K (.ref f2)=true)
 (R:Ck.Lk K f2 "doings" "Pattern.doings" (inClass (top 8) 2) oc2 od2 kV2 dc2 pm2 an2 cd2 ct2 sl2)
 (a6:nsIn K mainGlobals "both_ways" = some (some (.ref f6)))
 (l6:Ck.Lk K f6 "both_ways" "both_ways" (top 9) oc6 od6 kV6 dc6 pm6 an6 cd6 ct6 sl6)
 (a7:nsIn K mainGlobals "meeting_pairs" = some (some (.ref f7)))
 (l7:Ck.Lk K f7 "meeting_pairs" "meeting_pairs" (top 10) oc7 od7 kV7 dc7 pm7 an7 cd7 ct7 sl7)
 (a8:nsIn K mainGlobals "is_way_between" = some (some (.ref f8)))
 (l8:Ck.Lk K f8 "is_way_between" "is_way_between" (top 11) oc8 od8 kV8 dc8 pm8 an8 cd8 ct8 sl8)
 (a9:nsIn K mainGlobals "check_doings" = some (some (.ref f9)))
 (l9:Ck.Lk K f9 "check_doings" "check_doings" (top 12) oc9 od9 kV9 dc9 pm9 an9 cd9 ct9 sl9)
 (y5:nsIn K mainGlobals "check_table" = some (some (.ref f10)))
 (x7:Ck.Lk K f10 "check_table" "check_table" (top 13) bpc bpd bpe bpf bpg bph bpi bpj bpk)
 (y7:nsIn K mainGlobals "check_threes" = some (some (.ref f11)))
 (zv:Ck.Lk K f11 "check_threes" "check_threes" (top 14) bpm bpn bpo bpp bpq bpr bps bpt bpu)
 (zz:nsIn K mainGlobals "_law_cell_at" = some (some (.ref f12)))
 (y3:Ck.Lk K f12 "_law_cell_at" "_law_cell_at" (top 24) bpw bpx bpy bpz bp0 bp1 bp2 bp3 bp4)
 (a13:nsIn K mainGlobals "_law_state" = some (some (.ref f13)))
 (jj:Ck.Lk K f13 "_law_state" "_law_state" (top 25) bp6 bp7 bp8 bp9 bqa bqb bqc bqd bqe)
 (a14:nsIn K mainGlobals "_law_take" = some (some (.ref f14)))
 (j2:Ck.Lk K f14 "_law_take" "_law_take" (top 26) bqg bqh bqi bqj bqk bql bqm bqn bqo)
 (uk:nsIn K mainGlobals "_law_begun" = some (some (.ref f15)))
 (q2:Ck.Lk K f15 "_law_begun" "_law_begun" (top 27) bqq bqr bqs bqt bqu bqv bqw bqx bqy)
 (zq:nsIn K mainGlobals "_law_closed" = some (some (.ref f16)))
 (u7:Ck.Lk K f16 "_law_closed" "_law_closed" (top 28) bq0 bq1 bq2 bq3 bq4 bq5 bq6 bq7 bq8)
 (y8:nsIn K mainGlobals "_law_pattern" = some (some (.ref f17)))
 (u2:Ck.Lk K f17 "_law_pattern" "_law_pattern" (top 29) bra brb brc brd bre brf brg brh bri)
 (x4:nsIn K mainGlobals "_law_ways" = some (some (.ref f18)))
 (q6:Ck.Lk K f18 "_law_ways" "_law_ways" (top 30) brl brm brn bro brp brq brr brs brt)
 (y2:nsIn K mainGlobals "_law_end" = some (some (.ref f19)))
 (qv:Ck.Lk K f19 "_law_end" "_law_end" (top 31) brv brw brx bry brz br0 br1 br2 br3)
 (q1:nsIn K mainGlobals "_law_behind" = some (some (.ref f20)))
 (j1:Ck.Lk K f20 "_law_behind" "_law_behind" (top 32) br5 br6 br7 br8 br9 bsa bsb bsc bsd)
 (zw:nsIn K mainGlobals "numbered" = some (some (.ref f22)))
 (l22:Ck.Lk K f22 "numbered" "numbered" (top 16) bsf bsg bsh bsi bsj bsk bsl bsm bsn)
 (x8:nsIn K mainGlobals "image" = some (some (.ref f23)))
 (yx:Ck.Lk K f23 "image" "image" (top 18) bsp bsq bsr bss bst bsu bsv bsw bsx)
 (u1:nsIn K mainGlobals "drawn" = some (some (.ref f24)))
 (x6:Ck.Lk K f24 "drawn" "drawn" (top 19) bs0 bs1 bs2 bs3 bs4 bs5 bs6 bs7 bs8)
 (yk:nsIn K mainGlobals "renamed" = some (some (.ref f25)))
 (x1:Ck.Lk K f25 "renamed" "renamed" (top 20) bta btb btc btd bte btf btg bth bti)
 (q4:nsIn K mainGlobals "least_rows" = some (some (.ref f26)))
 (l26:Ck.Lk K f26 "least_rows" "least_rows" (top 21) btk btl btm btn bto btp btq btr bts)
 (a27:nsIn K mainGlobals "led_pairs" = some (some (.ref f27)))
 (xy:Ck.Lk K f27 "led_pairs" "led_pairs" (top 22) btu btv btw btx bty btz bt0 bt1 bt2)
 (a28:nsIn K mainGlobals "_law_merged" = some (some (.ref f28)))
 (x2:Ck.Lk K f28 "_law_merged" "_law_merged" (top 33) bt4 bt5 bt6 bt7 bt8 bt9 bua bub buc)
 (a29:nsIn K mainGlobals "_law_world" = some (some (.ref f29)))
 (xw:Ck.Lk K f29 "_law_world" "_law_world" (top 34) bue buh bui buj buk bul bum bun buo)
 (y0:nsIn K mainGlobals "_law_led" = some (some (.ref f30)))
 (y4:Ck.Lk K f30 "_law_led" "_law_led" (top 35) buq bur bus buu buv buw bux buy buz)
 (u4:nsIn K mainGlobals "_law_same" = some (some (.ref f31)))
 (u3:Ck.Lk K f31 "_law_same" "_law_same" (top 36) bu1 bu2 bu3 bu4 bu5 bu6 bu7 bu8 bu9)
 (zk:nsIn K mainGlobals "_law_pairs_by" = some (some (.ref f32)))
 (xk:Ck.Lk K f32 "_law_pairs_by" "_law_pairs_by" (top 37) bvb bvc bvd bve bvf bvg bvh bvi bvj)
 (j3:nsIn K mainGlobals "_law_heads" = some (some (.ref f33)))
 (l33:Ck.Lk K f33 "_law_heads" "_law_heads" (top 38) bvl bvm bvn bvo bvp bvq bvr bvs bvt)
 (y9:nsIn K mainGlobals "_law_drawn" = some (some (.ref f34)))
 (xv:Ck.Lk K f34 "_law_drawn" "_law_drawn" (top 39) bvv bvw bvx bvy bvz bv0 bv1 bv2 bv3)
 (uu:nsIn K mainGlobals "_law_in_turn" = some (some (.ref f35)))
 (y1:Ck.Lk K f35 "_law_in_turn" "_law_in_turn" (top 40) bv5 bv6 bv7 bv8 bv9 bwa bwb bwc bwe)
 (qq:nsIn K mainGlobals "law" = some (some (.ref f36)))
 (jv:Ck.Lk K f36 "law" "law" (top 41) bwh bwi bh9 bia bib bic bid bie bwj)
 (x9:plainGet K U Str.empty=true)
 (x3:hasDictIn K U=true)
 (q8:plainOver K U=true)
 (qk:findIn K (.ref U) "__setattr__" = some (some (.builtin "object.__setattr__")))
 (mk2:makesIn K U=true)
 (kc2:keepIn K (.ref U)=true)
 (yy:findIn K (.ref U) "together" = some none)
 (bii:findIn K (.ref U) "doing_ends" = some none)
 (q3:findIn K (.ref U) "kind_count" = some none)
 (v0:nsIn K mainGlobals "STAYING" = some (some (.int (-1) tk0)))
 (v1:nsIn K mainGlobals "MOST_KINDS" = some (some (.int (3) tk1)))
 (v2:nsIn K mainGlobals "MOST_DOINGS" = some (some (.int (5) tk2)))
 (z0:nsIn K mainGlobals "len" = some none)
 (z1:nsIn K mainGlobals "tuple" = some none)
 (z2:nsIn K mainGlobals "list" = some none)
 (z3:nsIn K mainGlobals "dict" = some none)
 (z4:nsIn K mainGlobals "max" = some none)
 (z5:nsIn K mainGlobals "min" = some none)
 (z6:nsIn K mainGlobals "isinstance" = some none)
 (z7:nsIn K mainGlobals "range" = some none)
 (z8:nsIn K mainGlobals "enumerate" = some none)
 (z9:nsIn K mainGlobals "set" = some none)
 (q0:nsIn K mainGlobals "zip" = some none)
 (uj:nsIn K mainGlobals "all" = some none)
 (x5:nsIn K mainGlobals "bool" = some none)
 (y6:nsIn K mainGlobals "int" = some none)
 (q5:nsIn K mainGlobals "sum" = some none)
 (q7:nsIn K mainGlobals "sorted" = some none)
 : ∃fd:FuncData,(∀(s:Shared)(v:Value),BindsTo s fd ⟨[v],[]⟩ [("script",v)])/\∀Z:Heap,K.In Z->Z.Ns mainGlobals mg->Ha l.prog w K mg Z CX0 170 fa fd ["script"] (Ck.aj6 K):=by
 have e:=(gm X G qq).symm.trans yv;cases e;have aF:Ck.abz K Ds sts [f0,f2,f2,f2,f2,f2,f6,f7,f8,f9,f10,f11,f12,f13,f14,f15,f16,f17,f18,f19,f20,f2,f22,f23,f24,f25,f26,f27,f28,f29,f30,f31,f32,f33,f34,f35,fa] [_,_,_,_,_,_,_,_,_,_,_,_,_,_,_,_,_,_,_,_,_,_,_,_,_,_,_,_,_,_,_,_,_,_,_,_,_]:=(Ck.fE l0 (Ck.fE R (Ck.fE R (Ck.fE R (Ck.fE R (Ck.fE R (Ck.fE l6 (Ck.fE l7 (Ck.fE l8 (Ck.fE l9 (Ck.fE x7 (Ck.fE zv (Ck.fE y3 (Ck.fE jj (Ck.fE j2 (Ck.fE q2 (Ck.fE u7 (Ck.fE u2 (Ck.fE q6 (Ck.fE qv (Ck.fE j1 (Ck.fE R (Ck.fE l22 (Ck.fE yx (Ck.fE x6 (Ck.fE x1 (Ck.fE l26 (Ck.fE xy (Ck.fE x2 (Ck.fE xw (Ck.fE y4 (Ck.fE u3 (Ck.fE xk (Ck.fE l33 (Ck.fE xv (Ck.fE y1 (Ck.fE jv Ck.fN)))))))))))))))))))))))))))))))))))));have aG:Ck.Uq mg tab.fns [f0,f2,f2,f2,f2,f2,f6,f7,f8,f9,f10,f11,f12,f13,f14,f15,f16,f17,f18,f19,f20,f2,f22,f23,f24,f25,f26,f27,f28,f29,f30,f31,f32,f33,f34,f35,fa]:=(Ck.gO (Ck.gO (Ck.gO (Ck.gO (Ck.gO (Ck.gO (Ck.gS (gm X G a6) (Ck.gS (gm X G a7) (Ck.gS (gm X G a8) (Ck.gS (gm X G a9) (Ck.gS (gm X G y5) (Ck.gS (gm X G y7) (Ck.gS (gm X G zz) (Ck.gS (gm X G a13) (Ck.gS (gm X G a14) (Ck.gS (gm X G uk) (Ck.gS (gm X G zq) (Ck.gS (gm X G y8) (Ck.gS (gm X G x4) (Ck.gS (gm X G y2) (Ck.gS (gm X G q1) (Ck.gO (Ck.gS (gm X G zw) (Ck.gS (gm X G x8) (Ck.gS (gm X G u1) (Ck.gS (gm X G yk) (Ck.gS (gm X G q4) (Ck.gS (gm X G a27) (Ck.gS (gm X G a28) (Ck.gS (gm X G a29) (Ck.gS (gm X G y0) (Ck.gS (gm X G u4) (Ck.gS (gm X G zk) (Ck.gS (gm X G j3) (Ck.gS (gm X G y9) (Ck.gS (gm X G uu) (Ck.gS (gm X G qq) Ck.gN)))))))))))))))))))))))))))))))))))));have aC:Ck.Pg K mg tab [f0,f2,f2,f2,f2,f2,f6,f7,f8,f9,f10,f11,f12,f13,f14,f15,f16,f17,f18,f19,f20,f2,f22,f23,f24,f25,f26,f27,f28,f29,f30,f31,f32,f33,f34,f35,fa] tab.cls [none,none,some U] prog.cls:=(Ck.cO (Ck.cO (Ck.cS ⟨gm X G u6,⟨x9,x3,q8,qk⟩,⟨_,rfl,⟨mk2,a0,i0,kc2⟩⟩,(Ck.mC rfl rfl ⟨a2,i2,R.2.2⟩ Ck.mN),(Ck.nC yy (Ck.nC bii (Ck.nC q3 Ck.nN)))⟩ Ck.cN)));have aV:Ck.ab1 mg tab.axi:=(Ck.vC (gm X G v0) (Ck.vC (gm X G v1) (Ck.vC (gm X G v2) Ck.vN)));have aB:Ck.AllB mg Ck.Pa:=(Ck.bC (jq X G z0) (Ck.bC (jq X G z1) (Ck.bC (jq X G z2) (Ck.bC (jq X G z3) (Ck.bC (jq X G z4) (Ck.bC (jq X G z5) (Ck.bC (jq X G z6) (Ck.bC (jq X G z7) (Ck.bC (jq X G z8) (Ck.bC (jq X G z9) (Ck.bC (jq X G q0) (Ck.bC (jq X G uj) (Ck.bC (jq X G x5) (Ck.bC (jq X G y6) (Ck.bC (jq X G q5) (Ck.bC (jq X G q7) Ck.bN))))))))))))))));refine⟨fnOf "law" "law" (Jz (top 41)) (Gq (top 41)) (Bq (top 41)) .none bh9 bia bib bic bid bie,λs v=>.of_eq rfl,λZ _ _=>?_⟩;obtain⟨d,a,f,g1,g2,g3,g4,g5⟩:=Ck.a5h (P:=l.prog) (w:=w) (base:=Z) (n:=10) (i:=36) (F:=aoj) bho chk bhp bhq bhr aF aG aC aV aB rfl;cases g1;cases g2;cases g3;exact g5.imp λvs H Q E hh=>Ck.ax3 (λns hl=>a6f (by decide)) hh
end K36
open PySem PySem.W PyProof.Rows
namespace PySem.W.Fast
def tw13681527096544494506:=Nat
def tw2573149414392453521:=Nat
def tw2695773461416931375:=Nat
def tw5049252250659962769:=Nat
def tw1042104709244127634:=Nat
def tw4960114877282232694:=Nat
def tw15734591722613035093:=Nat
def tw2803099530275534954:=Nat
def tw14597306668529222664:=Nat
def tw17106774226796093747:=Nat
def tw6626873654410112957:=Nat
def tw7640263615918625166:=Nat
def tw5728694335114721190:=Nat
def tw18084993172565778798:=Nat
def tw8091052786507815960:=Nat
def tw15216864811268084021:=Nat
def tw4905989241746595434:=Nat
def tw6186477269134335371:=Nat
def tw9045618009840427315:=Nat
def tw17810275400707581517:=Nat
def tw11682742115964949983:=Nat
def tw13523054384593645985:=Nat
def tw8849947334160485336:=Nat
def tw17182032664235869388:=Nat
def tw4650508948160454266:=Nat
def tw8586998023331768127:=Nat
def tw678679066317116147:=Nat
def tw6237897994064971830:=Nat
def tw7044233528029740140:=Nat
def tw5055423555450298521:=Nat
def tw5821320804586560942:=Nat
def tw3480752963006348787:=Nat
def tw2048204774890058507:=Nat
def tw5537652331076564423:=Nat
def tw18002726173198900473:=Nat
def tw17691521679421262110:=Nat
def tw17848555729376525138:=Nat
def tw11142652777617235904:=Nat
def tw17033848794136072342:=Nat
def tw6484443248858416001:=Nat
def tw9919713564812712323:=Nat
def tw5730973896532334102:=Nat
def tw2303939678173902820:=Nat
def tw3430361823672289409:=Nat
def tw17699313584715576611:=Nat
def tw13902667728666442217:=Nat
def tw1659071372822771667:=Nat
def tw10241865665934814908:=Nat
def tw10722968852804540301:=Nat
def tw9355233480340773097:=Nat
def tw6285137365487443646:=Nat
def tw7519133590865871322:=Nat
def tw12517258401558046759:=Nat
def tw17748843025247071807:=Nat
def tw1495536739530890555:=Nat
def tw5286241652488678161:=Nat
def tw14471866130771273410:=Nat
def tw6137559028016977613:=Nat
def tw13896386555810244948:=Nat
def tw6810460746267775916:=Nat
def tw14476846144753136891:=Nat
def tw318852296314782228:=Nat
def tw431897576415823384:=Nat
def tw2588175053606560802:=Nat
def tw14527053501044777481:=Nat
def tw14196853099670194638:=Nat
def tw15336965620927436831:=Nat
def tw16576443577380360325:=Nat
def tw7920720048505800094:=Nat
def tw10455305810532865012:=Nat
def tw5312904197119546471:=Nat
def tw10259854955825318853:=Nat
def tw15931197116976516646:=Nat
def tw15571287837400266527:=Nat
def tw18133844245161794452:=Nat
def tw12904002167161716637:=Nat
def tw7938514165251077556:=Nat
def tw11198553662188695546:=Nat
def tw16957494904071549094:=Nat
def tw406131968931579382:=Nat
def tw16731590344795027237:=Nat
def tw5987943884263154197:=Nat
def tw13932992346305576886:=Nat
def tw11946647264711087693:=Nat
def tw16463776216241744279:=Nat
def tw3705860339943029197:=Nat
def tw2861784538954807691:=Nat
def tw2499009722495655270:=Nat
def tw10976615691624616011:=Nat
def tw226913673409431507:=Nat
def tw946113696439564269:=Nat
def tw10027200822475262815:=Nat
def tw6108048859551722643:=Nat
def tw2984402181972496666:=Nat
def tw18325746210714605199:=Nat
def tw10935722465751020515:=Nat
def tw3611561923644308649:=Nat
def tw7003590819670574524:=Nat
def tw8571151638770817235:=Nat
def tw11305715684451182089:=Nat
def tw2285449216793949050:=Nat
def tw14008542376088025220:=Nat
def tw14031867907135702014:=Nat
def tw5668317556492578664:=Nat
def tw5081892116331445342:=Nat
def tw13195330569504870136:=Nat
def tw11108342912613471143:=Nat
def tw2233789357051401719:=Nat
def tw16461127702138380270:=Nat
def tw7296391711570648598:=Nat
def tw14063062061611345701:=Nat
def tw12594072081742759923:=Nat
def tw3389769859650598367:=Nat
def tw4664727289580999417:=Nat
def tw2760744903612703356:=Nat
def tw5505836626780078872:=Nat
def tw17891590504712949220:=Nat
def tw12781820123041433363:=Nat
def tw16427462239899172311:=Nat
def tw8337245563904708386:=Nat
def tw14361250185519235014:=Nat
def tw2996737614210609946:=Nat
def tw7798470590212338268:=Nat
def tw13588268167625999636:=Nat
def tw4320912710793216293:=Nat
def tw2572198841595523094:=Nat
def tw12497964989727460374:=Nat
def tw638895778560158050:=Nat
def tw9898494535126330630:=Nat
def tw6260564843535106329:=Nat
def tw5768385322814299375:=Nat
def tw17552471279984530768:=Nat
def tw3031390574107969406:=Nat
def tw10881631251478954790:=Nat
def tw13812552636869072805:=Nat
def tw3758026035625282529:=Nat
def tw17328329349260407370:=Nat
def tw10376304189011849688:=Nat
def tw15607783529281951641:=Nat
def tw15301273005699325425:=Nat
def tw12003532592288054903:=Nat
def tw18226127717737469631:=Nat
def tw10258369252915613023:=Nat
def tw10418430398228133180:=Nat
def tw11408134475715267186:=Nat
def tw14737932407797622829:=Nat
def tw18400977714366295289:=Nat
def tw15592569622048810807:=Nat
def tw9700968430135475465:=Nat
def tw6392803300611810118:=Nat
def tw3045345065092459565:=Nat
def tw12833168801019459216:=Nat
def tw7276572496814889518:=Nat
def tw4152669924108873694:=Nat
def tw13744743854256477338:=Nat
def tw8446684785256230932:=Nat
def tw11089669389889159826:=Nat
def tw1718744751122752778:=Nat
def tw11371990351197249183:=Nat
def tw15275133183245854450:=Nat
def tw13140048438600306834:=Nat
def tw10443961117220938676:=Nat
def tw3798124031707228863:=Nat
def tw3435588301010629312:=Nat
def tw11792728408913059153:=Nat
def tw8510484947161999586:=Nat
def tw14725761590148215192:=Nat
def tw16510974323622774887:=Nat
def tw1901850046015172985:=Nat
def tw12269688648431877222:=Nat
def tw3663802878678347004:=Nat
def tw17296351083325527304:=Nat
def tw17626653915366045022:=Nat
def tw17338356794887873777:=Nat
def tw723831059699301802:=Nat
def tw10013104195643365856:=Nat
def tw17951233279008365812:=Nat
def tw13583749447523344408:=Nat
def tw14075741694549819006:=Nat
def tw4505405919959999399:=Nat
def tw3316069098759770105:=Nat
def tw18376533517430655801:=Nat
def tw10658942049739776284:=Nat
def tw9536505737716775542:=Nat
def tw8947029979181865573:=Nat
def tw15302611243406427875:=Nat
def tw8868109323503020586:=Nat
def tw13992093595715303447:=Nat
def tw7690287576486499084:=Nat
def tw3114748924724360519:=Nat
def tw16121227531255756818:=Nat
def tw9750507631771592946:=Nat
def tw9683874096199985227:=Nat
def tw9153849622377077884:=Nat
def tw8535761685524969023:=Nat
def tw8283040272177870344:=Nat
def tw8225199719687350753:=Nat
def tw8114505712228548024:=Nat
def tw8083539260077858131:=Nat
end PySem.W.Fast
set_option maxRecDepth 100000 in
set_option maxHeartbeats 0 in
theorem PySem.Challenge.cw_mapwright_k36_drawn_together_holds : PySem.Challenge.rw_mapwright_k36_drawn_together.Holds := by
 w_on;o_law;k_head;(case hw=>w_witness2)
 k_fill
 refine Ck.walk (l:=PySem.Challenge.rw_mapwright_k36_drawn_together) rfl rfl (λw h Y=>PySem.W.kIn_of Y) ?F
 case F =>
  intro w mg fa h KX G hmg;apply K36.all_mk KX G hmg<;>(try refine⟨?_,?_,?_⟩)<;>k_is
