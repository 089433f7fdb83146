import PyProof.Rows.All
import Wide.All
import OpenK.AllK
import Wide.FinOn
import Lean
import PyProof.EqAt
import PyProof.EqKinds
import PyProof.TupleCall
import PyProof.StationsW
import OpenK.KOwn
import KE.KIsAll
import PyProof.ExcArgsOwn
import PyProof.ExcAttrAll.ValueError
import PyProof.RulesAs
import KE.KLam
import KE.KNestM
import PyProof.NsDelKeeps
import PyProof.Rows.ListMul
import PyProof.NeKinds
import PyProof.Rows.MinMaxN
import PyProof.ListRange
import PyProof.TupleOfGen
import PyProof.EnumMake
import PyProof.ZipIter
import PyProof.Rows.ZipGen
import PyProof.SetScanFacts
import PyProof.TupleKey
import PyProof.SetKind
import PyProof.IsRules
import PyProof.Rules
import PyProof.Rows.SetFrom
import PyProof.SetRoads
import PyProof.CollectWalk
import PyProof.ForAny
import PyProof.Rows.SortWalk
import PyProof.CollectIter
import PyProof.ExcBaseAll.ValueError
import PySem.Challenge.RW_mapwright_k13_apart_onto_back
set_option Elab.async false
set_option linter.all false
set_option tactic.hygienic false
set_option genSizeOf false
set_option genInjectivity false
set_option maxRecDepth 100000
abbrev Zl:=List PySem.Value
abbrev Zp:=List (PySem.Addr×PySem.Obj)
abbrev Zs:=PySem.Str->Option PySem.Value
abbrev Y1:=PySem.Value->PySem.Shared->Prop
abbrev Y2:=List Nat
abbrev Y3:=List PySem.Expr
abbrev Ya:=List PySem.Str
abbrev Yf:=List (PySem.Str×PySem.NameKind)
abbrev X0:=List PySem.Addr
abbrev X9:=List Int
abbrev Xs:=List (PySem.Str×PySem.Addr)
abbrev Xt:=Array PySem.Value
def jf:=@Array.getElem?_eq_some_iff
def m6:=@Array.getElem?_toList
def zf:=@Array.length_toList
def az:=@Bool.and_eq_true
def Bc:=@Bool.eq_iff_iff
def dq:=@Bool.false_eq_true
def dw:=@Bool.false_ne_true
def ye:=@Bool.not_true
def Ad:=@Int.emod_lt_of_pos
def Bd:=@Int.emod_nonneg
def Az:=@Int.ofNat_inj
def um:=@Int.toNat_natCast
def v5:=@List.all_eq_true
def qd:=@List.append_assoc
def lg:=@List.append_nil
def zu:=@List.cons_append
def yw:=@List.ext_getElem?
def Aw:=@List.filterMap_cons
def su:=@List.find?_cons
def vq:=@List.findIdx?_eq_none_iff
def qp:=@List.findIdx?_eq_some_iff_getElem
def Be:=@List.foldl_cons
def aq:=@List.getD_eq_getElem?_getD
def dj:=@List.getElem?_append_left
def iu:=@List.getElem?_append_right
def bu:=@List.getElem?_eq_getElem
def m7:=@List.getElem?_eq_none
def aj:=@List.getElem?_eq_some_iff
def je:=@List.getElem?_map
def qx:=@List.getElem?_range
def w5:=@List.getElem?_replicate
def uc:=@List.getElem?_set_ne
def yg:=@List.getElem?_set_self
def yx:=@List.getElem?_zipIdx
def Aq:=@List.getElem_inj
def ux:=@List.getElem_mem
def qy:=@List.getElem_of_mem
def qt:=@List.isEmpty_iff
def v7:=@List.length_append
def jw:=@List.length_cons
def Ag:=@List.length_filter_le
def gf:=@List.length_map
def yq:=@List.length_replicate
def ue:=@List.lookup_cons
def w6:=@List.map_append
def ph:=@List.map_congr_left
def iz:=@List.map_cons
def yt:=@List.map_map
def dz:=@List.mem_append
def o7:=@List.mem_append_left
def iw:=@List.mem_append_right
def cj:=@List.mem_cons
def bx:=@List.mem_cons_of_mem
def di:=@List.mem_cons_self
def xf:=@List.mem_filter
def uo:=@List.mem_iff_getElem?
def bz:=@List.mem_map
def au:=@List.mem_of_getElem?
def gw:=@List.mem_range
def yp:=@List.mem_singleton
def Af:=@List.nil_append
def yz:=@List.nodup_append
def j8:=@List.nodup_cons
def j9:=@List.nodup_iff_pairwise_ne
def zg:=@List.nodup_nil
def t8:=@List.pairwise_cons
def za:=@List.pairwise_map
def Ar:=@List.range'_succ
def xg:=@List.range_succ
def Bf:=@List.set_append
def ie:=@List.size_toArray
def Av:=@Nat.le_add_right
def yu:=@Nat.le_of_lt
def bf:=@Nat.le_refl
def vy:=@Nat.le_succ
def ig:=@Nat.le_trans
def jr:=@Nat.lt_irrefl
def Bg:=@Nat.lt_of_le_of_lt
def dm:=@Nat.lt_of_lt_of_le
def uy:=@Nat.lt_or_ge
def qg:=@Nat.lt_succ_of_lt
def uf:=@Nat.lt_succ_self
def yc:=@Nat.ne_of_gt
def gh:=@Nat.ne_of_lt
def tu:=@Nat.not_lt_zero
def q9:=@Nat.zero_add
def jy:=@Nat.zero_le
def j0:=@Ne.symm
def fc:=@Option.bind_eq_some_iff
def qu:=@Option.bind_some
def zx:=@Option.getD_some
def jc:=@Option.isSome_iff_exists
def bw:=@Option.map_eq_some_iff
def xj:=@Option.map_some
def jd:=@Option.some.inj
def Ai:=@Option.some.injEq
def qb:=@PyProof.Rows.callWith_builtin1
def jt:=@PyProof.Rows.callWith_type1
def qi:=@PySem.Around.under_plainId
def jm:=@PySem.Calls.spliced_cons
def m8:=@PySem.Calls.spliced_nil
def uv:=@PySem.F.called_set
def yf:=@PySem.F.slot_enumerate_next
def vd:=@PySem.F.slot_tuple_iterator_next
def yh:=@PySem.F.slot_tuple_mul
def xq:=@PySem.Heap.IsCell.keeps
def jz:=@PySem.Heap.SameBut.update
def ao:=@PySem.Heap.get?_push_of_some
def bh:=@PySem.Heap.get?_push_size
def ur:=@PySem.Heap.get?_update_other
def mq:=@PySem.Heap.get?_update_self
def bc:=@PySem.Heap.lt_size
def jk:=@PySem.Heap.size_push
def o8:=@PySem.W.kia_one
def Ax:=@PySem.W.looks_subIn
def jx:=@PySem.W.mg_none_of
def gr:=@PySem.W.mg_of
def pq:=@PySem.codeAny_builtin
def yo:=@PySem.codeAny_call_builtin
def uw:=@PySem.codeAny_mono
def zj:=@PySem.mem_of_lookup
def qz:=@PySem.sizeLine_eq
def wu:=@PySem.tupleKind_room_in1
def ik:=@PySem.wpAny_Call_Name_kw
def aa:=@PySem.wpAny_bind
def kh:=@PySem.wpAny_callSpecial?_slot
def j7:=@PySem.wpAny_call_entry
def jh:=@PySem.wpAny_field
def vh:=@PySem.wpAny_forIn_list
def m9:=@PySem.wpAny_holding
def vm:=@PySem.wpAny_isInstance
def vz:=@PySem.wpAny_ite_false
def uz:=@PySem.wpAny_loadPart_at
def ji:=@PySem.wpAny_mono
def t7:=@PySem.wpAny_newObj_type
def uq:=@PySem.wpAny_passesOwn
def ak:=@PySem.wpAny_pure
def wy:=@PySem.wpAny_pyIter_tuple
def ud:=@PySem.wpAny_seqItems
def jg:=@PySem.wpAny_setField_rec
def nq:=@PySem.wpAny_setState_of
def u0:=@PySem.wpAny_truthy_bool
def zm:=@beq_eq_false_iff_ne
def ql:=@congrArg
def ou:=@decide_eq_false
def Al:=@decide_eq_true
def gq:=@decide_eq_true_eq
def kj:=@if_false
def cu:=@if_neg
def dh:=@if_pos
def o5:=@if_true
def qj:=@of_decide_eq_true
abbrev Fg:=PySem.W.Frag
def a_{a b c:Nat}(h:a<=b)(k:b<=c):a<=c:=ig h k
def b_{a b c:Nat}(h:a<b)(k:b<=c):a<c:=dm h k
def c_{a b c:Nat}(h:a<=b)(k:b<c):a<c:=Bg h k
def d_{a b c:Nat}(h:a<b)(k:b<c):a<c:=Nat.lt_trans h k
def e_{a b:Nat}(h:a<b):a<=b:=yu h
def f_{a b:Nat}(h:a=b):a<=b:=Nat.le_of_eq h
def g_{a b:Nat}(h:a=b):b<=a:=Nat.le_of_eq h.symm
def h_{a b:Nat}(h:a<b):a≠b:=gh h
def i_{a b:Nat}(h:b<a):a≠b:=yc h
def j_{a b:Nat}(h:b<=a):¬a<b:=Nat.not_lt_of_le h
def l_{p:Prop}{a b:Nat}(h:a<b)(k:b<=a):p:=absurd h (Nat.not_lt_of_le k)
def m_{a b:Nat}(h:a<b):(a:Int)<(b:Int):=Int.ofNat_lt.mpr h
def o_{a b:Nat}(h:(a:Int)<(b:Int)):a<b:=Int.ofNat_lt.mp h
def q_{a:Nat}:(0:Int)<=(a:Int):=Int.natCast_nonneg a
def r_{a b c:Nat}(h:a+c<=b):a<=b-c:=Nat.le_sub_of_add_le h
def s_{a b:Nat}(h:¬a<b):b<=a:=Nat.le_of_not_lt h
def t_{a b:Nat}(h:¬a<=b):b<a:=Nat.lt_of_not_le h
def u_{a b:Nat}(h:a<=b)(k:b<=a):a=b:=Nat.le_antisymm h k
def v_{a b c:Nat}(h:a<=b):a+c<=b+c:=Nat.add_le_add_right h c
def w_{a b c:Nat}(h:a<=b):c+a<=c+b:=Nat.add_le_add_left h c
def x_{a b:Nat}:a<=a+b:=Av a b
def z_{a b:Nat}(h:a<b+1):a<=b:=Nat.le_of_lt_succ h
def A_{a b:Nat}(h:a<=b):a<b+1:=Nat.lt_succ_of_le h
def B_{a:Nat}:a<a+1:=uf a
def C_{a b:Nat}:a-b<=a:=Nat.sub_le a b
def D_{a b:Nat}(h:(a:Int)=(b:Int)):a=b:=Az.mp h
def G_{a b c:Nat}(h:a<b):a+c<b+c:=Nat.add_lt_add_right h c
def H_{a b c:Nat}(h:a<b):c+a<c+b:=Nat.add_lt_add_left h c
def hG{P:Prop}(h:∀G:Prop,(P->G)->G):P:=h P id
noncomputable section
namespace STb
open PySem
def af6{prog:Program}{w:World}{A:Around}{G:Type}{Q:G->Shared->Prop}{E:Y1}{s:Shared}(R:A.handled=none)(q:∀Z x,(∀b o,s.heap.get? b=some o->Z.get? b=some o)->(∃o,Z.get? x=some o/\o.cls=.type "StopIteration")->E (.ref x) { s with heap:=Z }):wpAny (model prog w) A (newExc (.type "StopIteration") [] >>= raiseNew) Q E s:=by simp only[newExc,newTuple];refine aa (aa (t7 (aa (m:=firstArgMember _ _) (wpAny_of_eq (a:=Value.none) (by first|rfl|(simp only[firstArgMember];rfl)) (t7 ?_ (by size_fits)))) (by size_fits)));simp only[raiseNew];refine aa (wpAny_handled ?_);rw[R];exact aa (ak (wpAny_throw (q _ _ (λb o e=>ao _ (ao _ e)) ⟨_,bh _ rfl,rfl⟩)))
open PySem SetTable
def Srt(Z:Array Nat):Prop:=∀(i j a b:Nat),Z[i]?=some a->Z[j]?=some b->i<j->a<b
def aqw(hs:Srt R):∀(Z G hi:Nat),G<=hi->hi<=R.size->hi-G<=Z ->
 (∀(i a:Nat),R[i]?=some a->i<G->a<j)->(∀(i a:Nat),R[i]?=some a->hi<=i->j<=a) ->
 below.go R j Z G hi<=R.size/\(∀(i a:Nat),R[i]?=some a->i<below.go R j Z G hi->a<j)/\(∀(i a:Nat),R[i]?=some a->below.go R j Z G hi<=i->j<=a):=by
 intro Z
 induction Z with
 |zero =>
  intro G hi h1 h2 h3 h4 h5;unfold below.go;have:G=hi:=by lia
  subst this;exact⟨h2,h4,h5⟩
 |succ Z ih =>
  intro G hi h1 h2 h3 h4 h5;unfold below.go
  by_cases Jd:G<hi
  .simp only[dh Jd]
   have hm:(G+hi) / 2<R.size:=by lia
   have hg:R[(G+hi) / 2]?=some R[(G+hi) / 2]:=by simp[hm]
   have qq:R.getD ((G+hi) / 2) j=R[(G+hi) / 2]:=by simp[Array.getD,hm]
   rw[qq]
   by_cases hc:R[(G+hi) / 2]<j
   .rw[dh hc]
    refine ih _ _ (by lia) h2 (by omega) (λi a e l=>?_) h5
    by_cases W3:i=(G+hi) / 2
    .subst W3;rw[hg] at e;cases e;exact hc
    .exact Nat.lt_trans (hs _ _ _ _ e hg (by lia)) hc
   .rw[cu hc]
    refine ih _ _ (by lia) (e_ hm) (by omega) h4 (λi a e l=>?_)
    by_cases W3:i=(G+hi) / 2
    .subst W3;rw[hg] at e;cases e;exact s_ hc
    .have:=hs _ _ _ _ hg e (by lia);exact e_ (c_ (s_ hc) this)
  .rw[cu Jd]
   have:G=hi:=u_ h1 (s_ Jd);subst this;exact⟨h2,h4,h5⟩
def Eu(G:Srt Z):below Z j<=Z.size/\(∀(i a:Nat),Z[i]?=some a->i<below Z j->a<j)/\(∀(i a:Nat),Z[i]?=some a->below Z j<=i->j<=a) :=
 aqw G _ _ _ (jy _) (bf _) C_ (λi a _ h=>absurd h (tu _)) (λi a e h=>by
  have:=(jf.mp e).1;lia)
def below_at(R:Srt Z)(h:Z[i]?=some j):below Z j=i:=by
 obtain⟨h1,h2,h3⟩:=Eu (j:=j) R;rcases Nat.lt_trichotomy (below Z j) i with l|l|l
 .have li:=(jf.mp h).1
  have G:Z[below Z j]?=some Z[below Z j]:=by simp
  have a:=h3 _ _ G (bf _);have b:=R _ _ _ _ G h l
  lia
 .exact l
 .have:=h2 _ _ h l;lia
def Xk(j:Nat):has #[] j=false:=by simp[has]
set_option tactic.hygienic true in
def Rx{t:SetTable}(Z:Srt t.place):t.slot j=.live i↔t.place[i]?=some j:=by
 unfold slot;constructor
 .intro h
  dsimp only at h;split at h
  .rename_i e;cases h;simpa using e
  .split at h<;>cases h
 .intro h
  dsimp only;rw[below_at Z h,h];simp
def aec{t:SetTable}(Z:Srt t.place)(G:t.dummies=#[]):t.slot j=.empty↔∀i:Nat,t.place[i]?≠some j:=by
 constructor
 .intro h i e
  rw[(Rx Z).mpr e] at h;cases h
 .intro h
  unfold slot;dsimp only;rw[G,Xk,cu (by simpa using h _)];rfl
def Uy(G:Array α)(p:Nat)(x:α)(hp:p<=G.size)(i:Nat):(insertAt G p x)[i]?=if i<p then G[i]? else if i=p then some x else G[i-1]?:=by
 rw[<- m6,toList_insertAt];have R:(G.toList.take p).length=p:=by simp;lia
 by_cases Z:i<p
 .rw[dh Z,dj (b_ Z (g_ R)),List.getElem?_take,dh Z,m6]
 .rw[cu Z,iu (a_ (f_ R) (s_ Z)),R]
  by_cases h2:i=p
  .subst h2;simp
  .rw[cu h2]
   obtain⟨q,hq⟩:∃q,i=p+q+1:=⟨i-p-1,by lia⟩;subst hq;rw[show p+q+1-p=q+1 by lia,List.getElem?_cons_succ,List.getElem?_drop,show p+q+1-1=p+q by lia,m6]
def Mp(Z:Array α)(p:Nat)(x:α):(insertAt Z p x).size=Z.size+1:=by have:=(insertAt_perm Z p x).length_eq;simpa using this
noncomputable def up(p i:Nat):Nat:=if i<p then i else i+1
def Pr(Z:Array α)(p:Nat)(x:α)(G:p<=Z.size)(i:Nat):(insertAt Z p x)[up p i]?=Z[i]?:=by
 rw[Uy Z p x G];unfold up
 by_cases h:i<p
 .simp[h]
 .rw[cu h,cu (j_ (a_ (s_ h) x_)),cu (i_ (A_ (s_ h)))];rfl
def Ju(Z:Array α)(p:Nat)(x:α)(G:p<=Z.size):(insertAt Z p x)[p]?=some x:=by rw[Uy Z p x G];simp
def Oc(p i:Nat):i=p\/∃k,i=up p k:=by
 unfold up;rcases Nat.lt_trichotomy i p with h|h|h
 .exact .inr ⟨i,by simp[h]⟩
 .exact .inl h
 .exact .inr ⟨i-1,by rw[cu (by omega)];lia⟩
def aqx(hs:Srt R)(hn:∀i:Nat,R[i]?≠some j):Srt (insertAt R (below R j) j):=by
 obtain⟨h1,h2,h3⟩:=Eu (j:=j) hs;intro a b x y G Z l;rcases Oc (below R j) a with rfl|⟨a',rfl⟩<;>rcases Oc (below R j) b with hb|⟨b',rfl⟩
 .subst hb;lia
 .rw[Ju _ _ _ h1] at G
  rw[Pr _ _ _ h1] at Z;cases G;have:below R j<=b':=by unfold up at l;split at l<;>omega
  have g:=h3 _ _ Z this;rcases Nat.lt_or_eq_of_le g with g|g
  .exact g
  .subst g;exact absurd Z (hn _)
 .subst hb
  rw[Ju _ _ _ h1] at Z;rw[Pr _ _ _ h1] at G;cases Z;exact h2 _ _ G (by unfold up at l;split at l<;>omega)
 .rw[Pr _ _ _ h1] at G Z
  exact hs _ _ _ _ G Z (by unfold up at l;split at l<;>split at l<;>omega)
noncomputable def adv(m:Nat)(p:Probe):Probe:=({ SetTable.fresh 0 0 true with mask:=m }:SetTable).advance p
def aw9(t:SetTable)(p:Probe):t.advance p=adv t.mask p:=rfl
def Y5(h:p.more > 0):adv m p={ p with j:=p.j+1,more:=p.more-1 }:=dh h
def Ve(h:¬p.more > 0):adv m p={ p with j:=(leap m p.i p.perturb).1,more:=runEnd m (leap m p.i p.perturb).1-(leap m p.i p.perturb).1,i:=(leap m p.i p.perturb).1,perturb:=(leap m p.i p.perturb).2 }:=cu h
noncomputable def beg(m i pt:Nat):Probe:={ j:=i,more:=runEnd m i-i,i:=i,perturb:=pt,dummy:=none }
def P(m:Nat)(h:Int):Nat->Probe
 |0=>beg m (bits h%(m+1)) (bits h)|n+1=>adv m (P m h n)
def aaz(t:SetTable)(h:Int):t.probeStart h=P t.mask h 0:=rfl
theorem Y6(m:Nat)(h:Int):∀n,(P m h n).dummy=none
 |0=>rfl
 |n+1=>by
  show(adv m (P m h n)).dummy=none
  by_cases q:(P m h n).more > 0
  .rw[Y5 q];exact Y6 m h n
  .rw[Ve q];exact Y6 m h n
noncomputable def I(m:Nat)(h:Int):Nat->Nat
 |0=>bits h%(m+1)|T+1=>(I m h T*5+1+bits h / 32 ^ (T+1))%(m+1)
def aqy(m i:Nat):runEnd m i-i<=9:=by unfold runEnd;split<;>lia
theorem aa0{m:Nat}{h:Int}{n i pt:Nat}(e:P m h n=beg m i pt):∀c,c<=runEnd m i-i->P m h (n+c)={ j:=i+c,more:=runEnd m i-i-c,i:=i,perturb:=pt,dummy:=none }
 |0,_=>by rw[Nat.add_zero,e];rfl
 |c+1,hc=>by
  have:=aa0 e c (by lia);show adv m (P m h (n+c))=_;rw[this,Y5 (by show 0<runEnd m i-i-c;lia)];simp only
  congr 1
def akq(e:P m h n=beg m i pt):P m h (n+(runEnd m i-i)+1)=beg m ((i*5+1+pt / 32)%(m+1)) (pt / 32):=by show adv m (P m h (n+(runEnd m i-i)))=_;rw[aa0 e _ (bf _),Ve (by simp)];rfl
theorem akr(m:Nat)(h:Int):∀T,∃n,n<=10*T/\P m h n=beg m (I m h T) (bits h / 32 ^ T)
 |0=>⟨0,jy _,by simp[P,I]⟩
 |T+1=>by
  obtain⟨n,G,Z⟩:=akr m h T;have:=aqy m (I m h T);refine⟨_,?_,(akq Z).trans ?_⟩
  .lia
  .rw[Nat.div_div_eq_div_mul,<- Nat.pow_succ];rfl
noncomputable def f5(m x:Nat):Nat:=(x*5+1)%(m+1)
def it(m:Nat):Nat->Nat->Nat
 |0,x=>x|k+1,x=>f5 m (it m k x)
theorem Vf(m a x:Nat):∀k,it m (a+k) x=it m k (it m a x)
 |0=>rfl|k+1=>by show f5 m (it m (a+k) x)=_;rw[Vf m a x k];rfl
def Cov(m:Nat):Prop:=∀i j,i<=m->j<=m->∃k,k<=m/\it m k i=j
def axa(R:it m (m+1) 0=0)(h:∀j,j<=m->∃k,k<=m/\it m k 0=j):Cov m:=λi j hi hj=>by
 obtain⟨a,la,Z⟩:=h i hi;obtain⟨b,lb,G⟩:=h j hj
 by_cases qq:a<=b
 .refine⟨b-a,a_ C_ lb,?_⟩
  rw[<- Z,<- Vf,show a+(b-a)=b by lia,G]
 .refine⟨m+1+b-a,by omega,?_⟩
  rw[<- Z,<- Vf,show a+(m+1+b-a)=(m+1)+b by lia,Vf,R,G]
def orb(m:Nat):Nat->Nat->List Nat
 |0,_=>[]|k+1,x=>x::orb m k (f5 m x)
theorem af7{m:Nat}:∀{k x j:Nat},j∈orb m k x->∃q,q<k/\it m q x=j
 |0,_,_,h=>by simp[orb] at h
 |k+1,x,j,h=>by
  simp only[orb,cj] at h;rcases h with rfl|h
  .exact⟨0,A_ (jy _),rfl⟩
  .obtain⟨q,l,e⟩:=af7 h
   refine⟨1+q,by lia,?_⟩;rw[Vf];exact e
def Qm(Z:it m (m+1) 0=0)(h:((List.range (m+1)).all λj=>(orb m (m+1) 0).contains j)=true):Cov m :=
 axa Z λj G=>by have:=v5.mp h j (by simp;exact A_ G);obtain⟨q,l,e⟩:=af7 (by simpa using this);exact⟨q,z_ l,e⟩
def Msk(m:Nat):Prop:=m=7\/m=15\/m=31\/m=63\/m=127
def baz:Cov 7:=Qm (by decide+kernel) (by decide+kernel)
def a2x:Cov 15:=Qm (by decide+kernel) (by decide+kernel)
def a2y:Cov 31:=Qm (by decide+kernel) (by decide+kernel)
def a2z:Cov 63:=Qm (by decide+kernel) (by decide+kernel)
def axc:Cov 127:=Qm (by decide+kernel) (by decide+kernel)
def Msk.cov(h:Msk m):Cov m:=by
 rcases h with rfl|rfl|rfl|rfl|rfl
 .exact baz
 .exact a2x
 .exact a2y
 .exact a2z
 .exact axc
def aqz(h:Int):bits h<2 ^ 64:=by
 unfold bits;have G:=Bd h (b:=2 ^ 64) (by decide);have Z:=Ad h (b:=2 ^ 64) (by decide)
 lia
theorem a3a(m:Nat)(h:Int):∀T,I m h T<=m
 |0=>Nat.le_of_lt_succ (Nat.mod_lt (bits h) (Nat.succ_pos m))|T+1=>Nat.le_of_lt_succ (Nat.mod_lt (I m h T*5+1+bits h / 32 ^ (T+1)) (Nat.succ_pos m))
theorem aks(m:Nat)(h:Int):∀k,I m h (13+k)=it m k (I m h 13)
 |0=>rfl
 |k+1=>by
  show(I m h (13+k)*5+1+bits h / 32 ^ (13+k+1))%(m+1)=f5 m (it m k (I m h 13));have:bits h / 32 ^ (13+k+1)=0:=by
   apply Nat.div_eq_of_lt;refine dm (aqz h) ?_
   calc 2 ^ 64<=32 ^ 13:=by decide
    _<=32 ^ (13+k+1):=Nat.pow_le_pow_right (by decide) (a_ x_ x_)
  rw[this,aks m h k];rfl
def cover(R:Msk m)(h:Int)(j:Nat)(Z:j<=m):∃T,T<=13+m/\I m h T=j:=by obtain⟨k,G,e⟩:=R.cov (I m h 13) j (a3a m h 13) Z;exact⟨13+k,w_ G,(aks m h k).trans e⟩
def aq0(R:Msk m)(h:Int)(j:Nat)(G:j<=m):∃n,n<10*turns m/\(P m h n).j=j:=by obtain⟨T,lT,e⟩:=cover R h j G;obtain⟨n,ln,Z⟩:=akr m h T;exact⟨n,by unfold turns;lia,by rw[Z];exact e⟩
def mod_le(a m:Nat):a%(m+1)<=m:=Nat.le_of_lt_succ (Nat.mod_lt a (Nat.succ_pos m))
def Ry(h:i<=m):i<=runEnd m i/\runEnd m i<=m:=by unfold runEnd;split<;>omega
theorem a3b(m:Nat)(h:Int):∀n,(P m h n).j+(P m h n).more<=m
 |0=>by
  have:=Ry (mod_le (bits h) m);show bits h%(m+1)+(runEnd m (bits h%(m+1))-bits h%(m+1))<=m
  omega
 |n+1=>by
  have Z:=a3b m h n;show(adv m (P m h n)).j+(adv m (P m h n)).more<=m
  by_cases q:(P m h n).more > 0
  .rw[Y5 q];simp only;lia
  .rw[Ve q]
   have:=Ry (mod_le ((P m h n).i*5+1+(P m h n).perturb / 32) m);show(leap m (P m h n).i (P m h n).perturb).1+(runEnd m (leap m (P m h n).i (P m h n).perturb).1-(leap m (P m h n).i (P m h n).perturb).1)<=m
   have e:(leap m (P m h n).i (P m h n).perturb).1=((P m h n).i*5+1+(P m h n).perturb / 32)%(m+1):=rfl;rw[e];omega
def ba0(m:Nat)(h:Int)(n:Nat):(P m h n).j<=m:=by have:=a3b m h n;lia
def Occ(t:SetTable)(j:Nat):Prop:=∃i:Nat,t.place[i]?=some j
structure Xl(t:SetTable)(es:Array (Int×Value)):Prop where
 msk:Msk t.mask
 dum:t.dummies=#[]
 Y7:t.place.size=es.size
 srt:Srt t.place
 bnd:∀(i j:Nat),t.place[i]?=some j->j<=t.mask
 ful:t.place.size<=t.mask
 rch:∀(i j:Nat) e,t.place[i]?=some j->es[i]?=some e->∃n,(P t.mask e.1 n).j=j/\∀m,m<n->Occ t (P t.mask e.1 m).j
theorem Xl.fits(k:Xl t Z):t.fits Z.size=true:=by unfold SetTable.fits fill;rw[k.dum];simp[k.Y7];have:=k.ful;have:=k.Y7;lia
def Msk.odd(h:Msk m):m%2=1:=by rcases h with rfl|rfl|rfl|rfl|rfl<;>rfl
def Xl.way(k:Xl t Z):t.gaveWay=false:=by unfold gaveWay;rw[k.msk.odd];rfl
def akt(hs:Srt G)(h:G.size<=m):∃j,j<=m/\∀i:Nat,G[i]?≠some j:=by
 apply Classical.byContradiction;intro hn;have all:∀j,j<=m->∃i:Nat,G[i]?=some j:=λj R=>by apply Classical.byContradiction;intro hc;exact hn ⟨j,R,λi e=>hc ⟨i,e⟩⟩
 have:∀j,j<=m->∀i:Nat,G[i]?=some j->j<=i:=by
  intro j
  induction j with
  |zero=>intro _ i _;exact jy _
  |succ j ih =>
   intro R i e;obtain⟨i',Z⟩:=all j (by lia);have:=ih (by lia) i' Z;rcases Nat.lt_trichotomy i i' with l|l|l
   .have:=hs _ _ _ _ e Z l;lia
   .subst l;rw[e] at Z;injection Z with Z;exact a_ (f_ Z) this
   .exact a_ (v_ this) l
 obtain⟨i,e⟩:=all m (bf _);have h1:=this m (bf _) i e;have h2:=(jf.mp e).1;exact l_ h2 (a_ h h1)
structure Fst(t:SetTable)(h:Int)(N:Nat):Prop where
 lt:N<10*turns t.mask
 emp:¬Occ t (P t.mask h N).j
 occ:∀m,m<N->Occ t (P t.mask h m).j
def least{p:Nat->Prop}:∀{n:Nat},p n->∃k,k<=n/\p k/\∀m,m<k->¬p m:=by
 intro n
 induction n using Nat.strongRecOn with
 |ind n R =>
  intro h
  by_cases G:∃m,m<n/\p m
  .obtain⟨m,l,Z⟩:=G
   obtain⟨k,l2,a,b⟩:=R m l Z;exact⟨k,e_ (c_ l2 l),a,b⟩
  .exact⟨n,bf _,h,λm l Z=>G ⟨m,l,Z⟩⟩
def Xl.fst(k:Xl t es)(h:Int):∃N,Fst t h N:=by obtain⟨j,R,e⟩:=akt k.srt k.ful;obtain⟨n,Z,G⟩:=aq0 k.msk h j R;obtain⟨N,l,a,b⟩:=least (p:=λn=>¬Occ t (P t.mask h n).j) (n:=n) (λ⟨i,c⟩=>e i (by rw[G] at c;exact c));exact⟨N,c_ l Z,a,λm hm=>Classical.not_not.mp (b m hm)⟩
theorem aku(k:Xl t es)(F:Fst t h N)(G:Nat->Int):∀(Z n:Nat),n<=N->N-n<Z ->
 (probe.go t G h Z (P t.mask h n)=some (.empty (P t.mask h N).j none)/\∀m,n<=m->m<N->∀i:Nat,t.place[i]?=some (P t.mask h m).j->G i≠h)
\/∃m i:Nat,n<=m/\m<N/\t.place[i]?=some (P t.mask h m).j/\G i=h/\(∀q,n<=q->q<m->∀i:Nat,t.place[i]?=some (P t.mask h q).j->G i≠h)
 /\probe.go t G h Z (P t.mask h n)=some (.candidate (P t.mask h m).j i (P t.mask h (m+1))):=by
 intro Z
 induction Z with
 |zero=>intro n _ l;omega
 |succ Z ih =>
  intro n hn l;unfold probe.go
  by_cases e:n=N
  .subst e
   left
   rw[(aec k.srt k.dum).mpr (λi c=>F.emp ⟨i,c⟩)];simp only;rw[Y6];exact⟨rfl,λm a b=>by lia⟩
  .obtain⟨i,hi⟩:=F.occ n (by lia)
   rw[(Rx k.srt).mpr hi];simp only[aw9];have qq:adv t.mask (P t.mask h n)=P t.mask h (n+1):=rfl;rw[qq]
   by_cases hh:G i=h
   .right
    refine⟨n,i,bf _,by lia,hi,hh,λq a b=>by lia,?_⟩;rw[dh (by simp[hh])]
   .rw[cu (by simp[hh])]
    have un:∀R:Nat,t.place[R]?=some (P t.mask h n).j->G R≠h:=λR e'=>by have a:=below_at k.srt e';have b:=below_at k.srt hi;rw[<- a,b];exact hh
    rcases ih (n+1) (by lia) (by lia) with⟨a,b⟩|⟨m,R,a,b,c,d,e1,e2⟩
    .left
     refine⟨a,λm x y=>?_⟩
     by_cases q:m=n
     .subst q;exact un
     .exact b m (by lia) y
    .right
     refine⟨m,R,by lia,b,c,d,λq x y=>?_,e2⟩
     by_cases z:q=n
     .subst z;exact un
     .exact e1 q (by lia) y
def Xl.ahead(k:Xl t R)(F:Fst t h N){i:Nat}(G:R[i]?=some e)(hh:e.1=h):∃m,m<N/\t.place[i]?=some (P t.mask h m).j:=by
 have li:i<t.place.size:=by rw[k.Y7];exact(jf.mp G).1
 have Z:t.place[i]?=some t.place[i]:=by simp[li]
 obtain⟨n,a,b⟩:=k.rch i _ e Z G;subst hh;refine⟨n,?_,by rw[a];exact Z⟩;rcases Nat.lt_trichotomy n N with l|l|l
 .exact l
 .subst l;exact absurd ⟨i,by rw[a];exact Z⟩ F.emp
 .exact absurd (b N l) F.emp
def Y8(G:Srt t.place)(q:Nat):Occ (t.put j).1 q↔q=j\/Occ t q:=by
 obtain⟨Z,h2,R⟩:=Eu (j:=j) G;constructor
 .rintro⟨i,e⟩
  have e:(insertAt t.place (below t.place j) j)[i]?=some q:=e;rcases Oc (below t.place j) i with rfl|⟨i',rfl⟩
  .rw[Ju _ _ _ Z] at e;cases e;exact .inl rfl
  .rw[Pr _ _ _ Z] at e;exact .inr ⟨i',e⟩
 .rintro(rfl|⟨i,e⟩)
  .exact⟨_,Ju _ _ _ Z⟩
  .exact⟨up (below t.place j) i,(Pr _ _ _ Z i).trans e⟩
theorem Xl.put(k:Xl t es)(F:Fst t h N)(room:t.place.size+1<=t.mask) :
 Xl (t.put (P t.mask h N).j).1 (insertAt es (t.put (P t.mask h N).j).2 (h,x)):=by
 obtain⟨h1,h2,h3⟩:=Eu (j:=(P t.mask h N).j) k.srt;have R:below t.place (P t.mask h N).j<=es.size:=by rw[<- k.Y7];exact h1
 refine⟨k.msk,?_,?_,?_,?_,?_,?_⟩
 .show(if has t.dummies _ then _ else t.dummies)=#[]
  rw[k.dum,Xk];rfl
 .show(insertAt t.place _ _).size=(insertAt es _ _).size
  rw[Mp,Mp,k.Y7]
 .exact aqx k.srt (λi e=>F.emp ⟨i,e⟩)
 .intro i j e
  rcases(Y8 k.srt j).mp ⟨i,e⟩ with rfl|⟨i',e'⟩
  .exact ba0 _ _ _
  .exact k.bnd i' j e'
 .show(insertAt t.place _ _).size<=t.mask
  rw[Mp];exact room
 .intro i j e Z G
  have Z:(insertAt t.place (below t.place (P t.mask h N).j) (P t.mask h N).j)[i]?=some j:=Z;have G:(insertAt es (below t.place (P t.mask h N).j) (h,x))[i]?=some e:=G;show ∃n,(P t.mask e.1 n).j=j/\∀m,m<n->Occ (t.put (P t.mask h N).j).1 (P t.mask e.1 m).j
  rcases Oc (below t.place (P t.mask h N).j) i with rfl|⟨i',rfl⟩
  .rw[Ju _ _ _ h1] at Z
   rw[Ju _ _ _ R] at G;cases Z;cases G;exact⟨N,rfl,λm l=>(Y8 k.srt _).mpr (.inr (F.occ m l))⟩
  .rw[Pr _ _ _ h1] at Z
   rw[Pr _ _ _ R] at G;obtain⟨n,a,b⟩:=k.rch i' j e Z G;exact⟨n,a,λm l=>(Y8 k.srt _).mpr (.inr (b m l))⟩
abbrev OcO(ow:Array (Option Nat))(j:Nat):Prop:=∃i,ow[j]?=some (some i)
structure Own(m:Nat)(ow:Array (Option Nat))(hs:X9):Prop where
 Y7:ow.size=m+1
 cnt:ow.toList.countP Option.isSome=hs.length
 lt:∀(j i:Nat),ow[j]?=some (some i)->i<hs.length
 inj:∀(j j' i:Nat),ow[j]?=some (some i)->ow[j']?=some (some i)->j=j'
 at':∀(i:Nat) h,hs[i]?=some h->∃j n,ow[j]?=some (some i)/\(P m h n).j=j/\∀q,q<n->OcO ow (P m h q).j
def getD_none{Z:Array (Option Nat)}(G:Z.size=m+1)(h:(Z.getD j (some 0)).isNone=true):Z[j]?=some none:=by
 by_cases l:j<Z.size
 .simp[Array.getD,l] at h;simp[l,h]
 .simp[Array.getD,l] at h
def getD_some(G:ow.size=m+1)(Z:j<=m)(h:¬(ow.getD j (some 0)).isNone=true):OcO ow j:=by
 have l:j<ow.size:=by lia
 simp[Array.getD,l] at h;unfold OcO;rw[show ow[j]?=some ow[j] by simp[l]];cases e:ow[j] with
 |none=>exact absurd e h|some i=>exact⟨i,rfl⟩
def ah8(hz:ow.size=m+1)(h:Int):∀(Z T n:Nat),P m h n=beg m (I m h T) (bits h / 32 ^ T)->(∀q,q<n->OcO ow (P m h q).j) ->
 (∃k,k<Z/\ow[I m h (T+k)]?=some none)->∃j R,layClean.free m ow Z (I m h T) (bits h / 32 ^ T)=some j/\(P m h R).j=j/\ow[j]?=some none/\∀q,q<R->OcO ow (P m h q).j:=by
 intro Z
 induction Z with
 |zero=>rintro T n _ _ ⟨k,l,_⟩;lia
 |succ Z ih =>
  rintro T n e hq ⟨k,lk,ek⟩;have hI:=a3a m h T;obtain⟨r1,r2⟩:=Ry hI;unfold layClean.free;cases hf:(List.range (runEnd m (I m h T)+1-I m h T)).find? λk=>(ow.getD (I m h T+k) (some 0)).isNone with
  |some c =>
   obtain⟨a,b,d⟩:=List.find?_range_eq_some.mp hf;have b:=gw.mp b;refine⟨_,n+c,rfl,by rw[aa0 e c (by omega)],getD_none hz a,λq l=>?_⟩
   by_cases hn:q<n
   .exact hq q hn
   .obtain⟨c',rfl⟩:∃c',q=n+c':=⟨q-n,by lia⟩
    rw[aa0 e c' (by lia)];show OcO ow (I m h T+c');exact getD_some hz (by lia) (λhh=>by
     have:=d c' (by lia);simp only[hh] at this;cases this)
  |none =>
   have Jv:=List.find?_eq_none.mp hf;have G:∀c,c<=runEnd m (I m h T)-I m h T->OcO ow (I m h T+c):=λc hc=>getD_some hz (by lia) (Jv c (gw.mpr (by lia)))
   cases k with
   |zero =>
    obtain⟨i,ei⟩:=G 0 (jy _);rw[Nat.add_zero] at ek ei;rw[ek] at ei;cases ei
   |succ k =>
    have pe:bits h / 32 ^ T / 32=bits h / 32 ^ (T+1):=by rw[Nat.div_div_eq_div_mul,<- Nat.pow_succ]
    have:=ih (T+1) (n+(runEnd m (I m h T)-I m h T)+1) (by rw[akq e,pe];rfl) (λq l=>?_) ⟨k,by lia,by rw[show T+1+k=T+(k+1) by lia];exact ek⟩
    .obtain⟨j,R,e1,e2⟩:=this
     refine⟨j,R,?_,e2⟩;rw[<- e1];show layClean.free m ow Z ((I m h T*5+1+bits h / 32 ^ T / 32)%(m+1)) (bits h / 32 ^ T / 32)=_;rw[pe];rfl
    .by_cases hn:q<n
     .exact hq q hn
     .obtain⟨c',rfl⟩:∃c',q=n+c':=⟨q-n,by lia⟩
      rw[aa0 e c' (by lia)];show OcO ow (I m h T+c');exact G c' (by lia)
def Own.room(k:Own m ow hs)(h:hs.length<=m):∃j,j<=m/\ow[j]?=some none:=by
 apply Classical.byContradiction;intro R;have:ow.toList.countP Option.isSome=ow.toList.length:=List.countP_eq_length.mpr λa ha=>by
  obtain⟨j,G,e⟩:=qy ha;cases a with
  |some i=>rfl
  |none =>
   have Z:j<ow.size:=by simpa using G
   refine absurd ⟨j,by have:=k.Y7;exact z_ (b_ Z (f_ this)),?_⟩ R;rw[<- m6,bu G,e]
 rw[k.cnt] at this;have:=k.Y7;simp at *
 lia
theorem Own.free(hm:Msk m)(k:Own m ow G)(hl:G.length<=m)(h:Int):∃j Z,layClean.free m ow (turns m) (bits h%(m+1)) (bits h)=some j/\(P m h Z).j=j/\ow[j]?=some none/\∀q,q<Z->OcO ow (P m h q).j:=by obtain⟨j,R,e⟩:=k.room hl;obtain⟨T,lT,eT⟩:=cover hm h j R;have:=ah8 k.Y7 h (turns m) 0 0 (by simp[P,I]) (λq l=>by lia) ⟨T,by unfold turns;lia,by rw[q9,eT];exact e⟩;simpa[I] using this
def Own.lay(k:Own m ow Z)(e1:(P m h n').j=j)(e2:ow[j]?=some none)(e3:∀q,q<n'->OcO ow (P m h q).j) :
 Own m (ow.setIfInBounds j (some Z.length)) (Z++[h]):=by
 have lj:j<ow.size:=(jf.mp e2).1
 have get:∀q:Nat,(ow.setIfInBounds j (some Z.length))[q]?=if j=q then some (some Z.length) else ow[q]?:=λq=>by rw[Array.getElem?_setIfInBounds];split<;>simp_all
 have R:∀q,OcO ow q->OcO (ow.setIfInBounds j (some Z.length)) q:=λq ⟨i,e⟩=>by refine⟨i,?_⟩;rw[get,cu (λh=>by subst h;rw[e2] at e;cases e)];exact e
 refine⟨by simp[k.Y7],?_,λq i e=>?_,λq q' i e G=>?_,λi h' e=>?_⟩
 .rw[Array.toList_setIfInBounds,List.countP_set (by simpa using lj),k.cnt]
  have:ow.toList[j]'(by simpa using lj)=none:=by have:=(jf.mp e2).2;simpa using this
  rw[this];simp
 .rw[get] at e
  split at e
  .cases e;simp
  .have:=k.lt q i e;simp;exact A_ (e_ this)
 .rw[get] at e G
  split at e<;>split at G
  .lia
  .cases e;have:=k.lt _ _ G;lia
  .cases G;have:=k.lt _ _ e;lia
  .exact k.inj q q' i e G
 .by_cases l:i<Z.length
  .rw[dj l] at e
   obtain⟨j',n,a,b,c⟩:=k.at' i h' e;refine⟨j',n,?_,b,λq l=>R _ (c q l)⟩;rw[get,cu (λh=>by subst h;rw[e2] at a;cases a)];exact a
  .have hi:i=Z.length:=by
    have:=(aj.mp e).1;simp at this;exact u_ (z_ this) (s_ l)
   subst hi;simp at e;subst e;exact⟨j,n',by rw[get,dh rfl],e1,λq l=>R _ (e3 q l)⟩
theorem af8{m:Nat}(hm:Msk m):∀(Z G:X9)(ow:Array (Option Nat)),Own m ow G->G.length+Z.length<=m+1 ->
 ∃R,Z.foldl (λqq h=>do
  let (owner,k) <- qq
  let j <- layClean.free m owner (turns m) (bits h%(m+1)) (bits h)
  pure (owner.setIfInBounds j (some k),k+1)) (some (ow,G.length))=some (R,G.length+Z.length)/\Own m R (G++Z)
 |[],G,ow,k,_=>⟨ow,rfl,by simpa using k⟩
 |h::Z,G,ow,k,l=>by
  obtain⟨j,n',e0,e1,e2,e3⟩:=k.free hm (by simp at l;lia) h;have k':=k.lay e1 e2 e3;obtain⟨R,a,b⟩:=af8 hm Z (G++[h]) _ k' (by simp at l ⊢;lia);refine⟨R,?_,by simpa using b⟩;rw[Be];have:(do
   let (owner,k) <- some (ow,G.length)
   let j <- layClean.free m owner (turns m) (bits h%(m+1)) (bits h)
   pure (owner.setIfInBounds j (some k),k+1))=some (ow.setIfInBounds j (some G.length),(G++[h]).length):=by
   show(layClean.free m ow (turns m) (bits h%(m+1)) (bits h) >>= _)=_;rw[e0];simp
  rw[this,a]
  simp;lia
def akv(hm:Msk m)(Z:Array Int)(l:Z.size<=m+1):∃G,layClean m Z=some G/\Own m G Z.toList:=by have R:Own m (Array.replicate (m+1) none) []:=⟨by simp,by simp,λj i e=>by simp[Array.getElem?_replicate] at e,λj j' i e=>by simp[Array.getElem?_replicate] at e,λi h e=>by simp at e⟩;obtain⟨G,a,b⟩:=af8 hm Z.toList [] _ R (by simpa using l);refine⟨G,?_,by simpa using b⟩;unfold layClean;rw[<- Array.foldl_toList];exact(ql (Option.map (·.1)) a).trans rfl
noncomputable def lv(m:Nat)(Z:Array (Option Nat)):List (Nat×Nat):=(List.range (m+1)).filterMap λj=>(Z.getD j none).map (j,·)
def Pu(k:Own m ow R):(j,i)∈lv m ow↔ow[j]?=some (some i):=by
 unfold lv;rw[List.mem_filterMap];constructor
 .rintro⟨q,a,b⟩
  obtain⟨i',Z,G⟩:=bw.mp b;cases G;have:j<ow.size:=by rw[k.Y7];exact gw.mp a
  simp[Array.getD,this] at Z;simp[this,Z]
 .intro e
  have l:=(jf.mp e).1;refine⟨j,gw.mpr (by rw[<- k.Y7];exact l),?_⟩;have:ow.getD j none=some i:=by simp[Array.getD,l,(jf.mp e).2]
  rw[this];rfl
def akx(m:Nat)(G:Array (Option Nat)):(lv m G).Pairwise λa b=>a.1<b.1:=by unfold lv;refine List.Pairwise.filterMap _ (λa a' Jd b R b' Z=>?_) List.pairwise_lt_range;obtain⟨_,_,rfl⟩:=bw.mp R;obtain⟨_,_,rfl⟩:=bw.mp Z;exact Jd
def aq2(k:Own m ow G):((lv m ow).map (·.2)).Perm (List.range G.length):=by
 refine(List.perm_ext_iff_of_nodup ?_ List.nodup_range).mpr λi=>?_
 .rw[j9,za]
  refine(akx m ow).imp_of_mem fun{a b} Z hb Jd e=>?_
  have:=k.inj a.1 b.1 a.2 ((Pu k).mp Z) (by rw[e];exact(Pu k).mp hb);exact l_ Jd (g_ this)
 .rw[bz,gw]
  constructor
  .rintro⟨a,Z,rfl⟩;exact k.lt _ _ ((Pu k).mp Z)
  .intro l
   obtain⟨j,n,a,_⟩:=k.at' i _ (bu l);exact⟨(j,i),(Pu k).mpr a,rfl⟩
theorem aky{G R:Type}{g:G->Option R}:∀{l:List G},(∀x∈l,(g x).isSome=true)->∀q:Nat,(l.filterMap g)[q]?=l[q]?.bind g
 |[],_,q=>by simp
 |x::l,h,q=>by
  have Z:=h x (di ..);obtain⟨y,e⟩:=jc.mp Z;rw[List.filterMap_cons_some e];cases q with
  |zero=>simp[e]|succ q=>simpa using aky (λx Z=>h x (bx _ Z)) q
def af9(hm:Msk m)(fg mv:Nat)(ld pl:Bool)(G:Array (Int×Value))(l:G.size<=m) :
 ∃t Z,laid m fg mv ld pl (G.map (·.1))=some (t,Z)/\t.mask=m/\Xl t (Z.filterMap (G[·]?))/\(Z.filterMap (G[·]?)).toList.Perm G.toList/\(Z.filterMap (G[·]?)).size=G.size
 /\t.led=ld/\t.plain=pl/\t.finger=fg/\Z.toList.Perm (List.range G.size):=by
 obtain⟨R,e,k⟩:=akv hm (G.map (·.1)) (by simp;exact a_ l x_);have Xm:=aq2 k;simp at Xm;have qk:(lv m R).length=G.size:=by have:=Xm.length_eq;simpa using this
 have qv:((((lv m R).map (·.2)).toArray).filterMap (G[·]?)).size=G.size:=by have:=(Xm.filterMap (G[·]?)).length_eq;rw[filterMap_getElem?_range] at this;rw[<- zf,Array.toList_filterMap,this];simp
 refine⟨{ mask:=m,place:=((lv m R).map (·.1)).toArray,dummies:=#[],finger:=fg,led:=ld,moves:=mv,plain:=pl },((lv m R).map (·.2)).toArray,?_,rfl,?_,?_,?_,rfl,rfl,rfl,Xm⟩
 .unfold laid;rw[e];rfl
 .have q0:∀x∈(lv m R).map (·.2),(G[x]?).isSome=true:=λx hx=>by
   have:=gw.mp (Xm.mem_iff.mp hx)
   simp;exact this
  have get:∀q:Nat,((((lv m R).map (·.2)).toArray).filterMap (G[·]?))[q]?=((lv m R)[q]?).bind λa=>G[a.2]?:=λq=>by rw[<- m6,Array.toList_filterMap,aky q0,je];cases(lv m R)[q]?<;>rfl
  have qq:∀q j:Nat,(((lv m R).map (·.1)).toArray)[q]?=some j↔∃i,(lv m R)[q]?=some (j,i):=λq j=>by
   simp only[List.getElem?_toArray,je,bw];constructor
   .rintro⟨a,h,rfl⟩;exact⟨a.2,h⟩
   .rintro⟨i,h⟩;exact⟨_,h,rfl⟩
  refine⟨hm,rfl,?_,?_,?_,?_,?_⟩
  .show(((lv m R).map (·.1)).toArray).size=_
   rw[qv];simp[qk]
  .intro i j a b ea eb lt
   obtain⟨i1,e1⟩:=(qq i a).mp ea;obtain⟨i2,e2⟩:=(qq j b).mp eb;obtain⟨l1,g1⟩:=aj.mp e1;obtain⟨l2,g2⟩:=aj.mp e2;have:=List.pairwise_iff_getElem.mp (akx m R) i j l1 l2 lt;rw[g1,g2] at this;exact this
  .intro i j e
   obtain⟨i1,e1⟩:=(qq i j).mp e;have:=(Pu k).mp (au e1);have:=(jf.mp this).1;rw[k.Y7] at this;show j<=m
   exact z_ this
  .show(((lv m R).map (·.1)).toArray).size<=m
   simp[qk];exact l
  .intro q j e' hp he
   obtain⟨i,e1⟩:=(qq q j).mp hp;rw[get,e1] at he;have he:G[i]?=some e':=he;obtain⟨j',n,a,b,c⟩:=k.at' i e'.1 (by simp[he]);have hj:=k.inj j j' i ((Pu k).mp (au e1)) a;subst hj;refine⟨n,b,λw lw=>?_⟩;obtain⟨i',q1⟩:=c w lw;obtain⟨z,hz⟩:=uo.mp ((Pu k).mpr q1);exact⟨z,(qq z _).mpr ⟨i',hz⟩⟩
 .rw[Array.toList_filterMap]
  have:=Xm.filterMap (G[·]?);rw[filterMap_getElem?_range] at this;exact this
 .exact qv
def Xn:∀n,n<32->Msk (sizeAbove (grown n)-1)/\n<=sizeAbove (grown n)-1/\n+1<=sizeAbove (grown n)-1/\¬(n*5 >= (sizeAbove (grown n)-1)*3)/\sizeAbove (grown n)<=128:=by unfold Msk;decide+kernel
section
variable{prog:Program}{w:World}{K:Type}[DecidableEq K]{knd:KeyKind prog w K}{A:Around}{E:Y1}{s:Shared}
def aee(n:Nat)(h:carriedByValue v=true):ofAClassStatement n v=pure false:=by cases v<;>first|(simp[carriedByValue] at h;done)|(unfold ofAClassStatement;rfl)
def Vg(hk:IsTupleKey knd s.heap ks a)(h:Q false s):wpAny (model prog w) A (ofAClassStatement 8 (.ref a)) Q E s:=by
 have hT:=hk.typeIs;obtain⟨o,G,n,ho,_,hd,hi⟩:=hk;unfold ofAClassStatement;refine aa (wpAny_typeOf hT ?_);show wpAny _ _ (if("tuple"=="tuple")=true then _ else _) _ _ s;rw[dh (by decide)];refine aa (ak ?_);simp only[ye,dq,kj];refine aa (ud ho hd ?_);refine aa ?_;show wpAny _ _ (forIn G _ _) _ _ s;rw[<- Array.forIn_toList];refine vh _ (λZ r s'=>r.1=none/\s'=s/\∀v∈Z,carriedByValue v=true) _ ?_ ?_ _ _ ⟨rfl,rfl,hi.byValue⟩
 .rintro v Z r s' ⟨R,rfl,Jv⟩
  rw[aee _ (Jv v di)];refine aa (ak ?_);simp only[dq,kj];exact ak ⟨rfl,rfl,λu qq=>Jv u (bx _ qq)⟩
 .rintro⟨r1,r2⟩ s' ⟨R,rfl,_⟩
  simp only at R;subst R;exact ak h
def akz(hk:IsTupleKey knd s.heap G a)(hs:∀v∈st,∃G b,v=.ref b/\IsTupleKey knd s.heap G b)(h:Q false s) :
 wpAny (model prog w) A (searchCouldBeSeen (.ref a) st) Q E s:=by
 unfold searchCouldBeSeen;refine aa ?_;refine vh _ (λZ r s'=>r.1=none/\s'=s/\∀v∈Z,∃G b,v=.ref b/\IsTupleKey knd s.heap G b) _ ?_ ?_ _ _ ⟨rfl,rfl,hs⟩
 .rintro v Z r s' ⟨hr,rfl,Jv⟩
  obtain⟨qq,b,rfl,hb⟩:=Jv v di;have R:∀v∈Z,∃G b,v=.ref b/\IsTupleKey knd s'.heap G b:=λv hv=>Jv v (bx _ hv)
  dsimp only;split
  .exact ak ⟨rfl,rfl,R⟩
  .refine aa (wpAny_eqIsQuiet_tuple hk ?_)
   simp only[ye,dq,kj];refine aa (wpAny_eqIsQuiet_tuple hb ?_);simp only[ye,dq,kj];refine aa (Vg hk ?_);simp only[dq,kj];refine aa (Vg hb ?_);simp only[dq,kj];exact ak ⟨rfl,rfl,R⟩
 .rintro⟨r1,r2⟩ s' ⟨hr,rfl,_⟩
  simp only at hr;subst hr;exact ak h
def ent(knd:KeyKind prog w K)(x:List K×Addr):Int×Value:=(tupleKeyHash knd x.1,.ref x.2)
def aef{Z:Array (Int×Value)}{G:List (List K×Addr)}(R:Z.toList=G.map (ent knd))(j:Nat):Z[j]?=(G[j]?).map (ent knd):=by rw[<- m6,R,je]
def ah9{xs:List (List K×Addr)}(hu:A.units<cLine)(hk:IsTupleKey knd s.heap k p)(ho:s.heap.get? a=some o)(hd:o.data=.set es ep t)(T:Xl t es)(he:es.toList=xs.map (ent knd))(hx:∀x∈xs,IsTupleKey knd s.heap x.1 x.2)(hn:(xs.map (·.1)).Nodup)(F:Fst t (tupleKeyHash knd k) N)(zz:∀(i:Nat) x,xs[i]?=some x->x.1=k->Q (.there (if adding then none else some i)) s)(zw:(∀x∈xs,x.1≠k)->Q (.free (P t.mask (tupleKeyHash knd k) N).j false) s) :
 ∀(Z n:Nat)(st:Option Probe),n<=N->N-n<Z->st.getD (t.probeStart (tupleKeyHash knd k))=P t.mask (tupleKeyHash knd k) n ->
  (∀m,m<n->∀(i:Nat) x,t.place[i]?=some (P t.mask (tupleKeyHash knd k) m).j->xs[i]?=some x->x.1≠k) ->
  wpAny (model prog w) A (setSearchFrom a (.ref p) (tupleKeyHash knd k) adding Z st) Q E s:=by
 intro Z
 induction Z with
 |zero=>intro n st _ l;omega
 |succ Z ih =>
  intro n st q8 l Rz q6;unfold setSearchFrom;refine aa (nq ho hd T.fits ?_);dsimp only;rw[T.way,Rz];simp only[dq,kj];have zk:=aku T F (λi=>(es[i]?.map (·.1)).getD 0) (10*turns t.mask) n q8 (by have:=F.lt;exact c_ C_ this);generalize qv:t.probe _ (tupleKeyHash knd k) (P t.mask (tupleKeyHash knd k) n)=pr;have qv:t.probe (λi=>(es[i]?.map (·.1)).getD 0) (tupleKeyHash knd k) (P t.mask (tupleKeyHash knd k) n)=pr:=qv;have atI:∀(i j:Nat),t.place[i]?=some j->∃x,xs[i]?=some x/\es[i]?=some (ent knd x):=λi j e=>by
   have li:i<es.size:=by rw[<- T.Y7];exact(jf.mp e).1
   have lx:i<xs.length:=by have:=ql List.length he;simp at this;exact b_ li (f_ this)
   refine⟨xs[i],by simp[lx],?_⟩;rw[aef he];simp[lx]
  rcases zk with⟨e,z0⟩|⟨m,i,h1,h2,h3,h4,h5,e⟩
  .have e:pr=_:=qv.symm.trans e
   subst e;dsimp only;refine ak (zw λx q7 G=>?_);obtain⟨i,hi⟩:=uo.mp q7;have qq:es[i]?=some (ent knd x):=by rw[aef he,hi];rfl
   obtain⟨m,lm,hp⟩:=T.ahead F qq (by unfold ent;rw[G])
   by_cases q5:m<n
   .exact q6 m q5 i x hp hi G
   .refine z0 m (s_ q5) lm i hp ?_
    rw[qq];show tupleKeyHash knd x.1=_;rw[G]
  .have e:pr=_:=qv.symm.trans e
   subst e;dsimp only;obtain⟨x,q2,qq⟩:=atI i _ h3;have zv:=hx x (au q2);have q4:∀{R:Bool->Shared->Prop},R false s->wpAny (model prog w) A (searchCouldBeSeen (.ref p) ((es.filter (·.1==tupleKeyHash knd k)).toList.map (·.2))) R E s:=λhR=>akz hk (λv hv=>by
    obtain⟨y,hy,rfl⟩:=bz.mp hv;have q3:y∈es.toList:=by simp at hy;simpa using hy.1
    rw[he] at q3;obtain⟨z,hz,rfl⟩:=bz.mp q3;exact⟨z.1,z.2,rfl,hx z hz⟩) hR
   rcases Bool.eq_false_or_eq_true t.led with a3g|a3g
   all_goals
    simp only[a3g,ye,Bool.not_false,dq,kj,o5]
    first
    |(rw[qq];show wpAny _ _ (holding [.ref x.2] (eqBool (.ref x.2) (.ref p)) >>= _) _ _ _)
    |(refine aa (q4 ?_);simp only[dq,kj];rw[qq];show wpAny _ _ (holding [.ref x.2] (eqBool (.ref x.2) (.ref p)) >>= _) _ _ _)
    refine aa (m9 (wpAny_eqBool_tuple hu zv hk ?_));refine aa (nq ho hd T.fits ?_);dsimp only;have zq:t.sameMemory t.moves t.mask=some true:=by unfold sameMemory;simp
    rw[zq];dsimp only;rw[dh rfl,(Rx T.srt).mpr h3];dsimp only;rw[qq]
    by_cases G:x.1=k
    .have q0:decide (x.1=k)=true:=by simp[G]
     rw[q0];have hq:=zz i x q2 G;cases adding
     .simp only[Bool.false_and,dq,kj]
      refine aa (wpAny_isSame_ref_self ?_);refine aa (ak ?_);simpa using ak hq
     .simp only[Bool.and_self,o5]
      exact ak hq
    .have q0:decide (x.1=k)=false:=by simp[G]
     rw[q0];simp only[Bool.and_false,dq,kj];refine aa (wpAny_isSame_ref_self ?_);refine aa (ak ?_);simp only[o5];refine ih (m+1) _ h2 (by lia) rfl λm' z3 i' x' q1 qk=>?_
     by_cases hc:m'<n
     .exact q6 m' hc i' x' q1 qk
     .by_cases hm:m'=m
      .subst hm
       have ei:i'=i:=by rw[<- below_at T.srt q1,<- below_at T.srt h3]
       subst ei;rw[q2] at qk;cases qk;exact G
      .intro z2
       have z1:es[i']?=some (ent knd x'):=by rw[aef he,qk];rfl
       refine h5 m' (s_ hc) (by lia) i' q1 ?_;rw[z1];show tupleKeyHash knd x'.1=_;rw[z2]
end
section
variable{prog:Program}{w:World}{K:Type}[DecidableEq K]{knd:KeyKind prog w K}{pk:List K×Addr->Prop}{A:Around}{E:Y1}{s:Shared}
noncomputable abbrev bt(w:World):Bool:=w.params.followText "set-order"
def Y9(h:Q (bt w) s):wpAny (model prog w) A setsByText Q E s:=by unfold setsByText;exact aa (wpAny_askSetting (ak h))
def ak2(knd:KeyKind prog w K)(pk:List K×Addr->Prop):Prop:=∀x,pk x->∀k∈x.1,∀v n,knd.is k v=true->hashByValue n v=pure true
theorem Tw:∀{Z:List K}{G:Zl},ItemsAre knd Z G->(∀k∈Z,∀v n,knd.is k v=true->hashByValue n v=pure true)->∀v∈G,∀n,hashByValue n v=pure true
 |_,_,.nil,_,v,h=>by simp at h
 |_,_,.cons h t,hp,v,hv=>by
  rcases cj.mp hv with rfl|hv
  .exact λn=>hp _ di _ n h
  .exact Tw t (λk R=>hp k (bx _ R)) v hv
def aeh(qq:ak2 knd pk)(hk:IsTupleKey knd s.heap ks a)(hp:pk (ks,a))(h:Q true s):wpAny (model prog w) A (hashByValue 8 (.ref a)) Q E s:=by
 have hT:=hk.typeIs;obtain⟨o,G,n,ho,_,hd,hi⟩:=hk;unfold hashByValue;refine aa (wpAny_specialOf hT F.slot_tuple_hash.lookup ?_);dsimp only;refine aa (ud ho hd ?_);refine aa ?_;show wpAny _ _ (forIn G _ _) _ _ s;rw[<- Array.forIn_toList];refine vh _ (λZ r s'=>r.1=none/\s'=s/\∀v∈Z,∀n,hashByValue n v=pure true) _ ?_ ?_ _ _ ⟨rfl,rfl,Tw hi (qq _ hp)⟩
 .rintro v Z r s' ⟨R,rfl,Jv⟩
  rw[Jv v di];refine aa (ak ?_);simp only[ye,dq,kj];exact ak ⟨rfl,rfl,λu qk=>Jv u (bx _ qk)⟩
 .rintro⟨r1,r2⟩ s' ⟨R,rfl,_⟩
  simp only at R;subst R;exact ak h
structure aa1(knd:KeyKind prog w K)(pk:List K×Addr->Prop)(h:Heap)(a:Addr)(xs:List (List K×Addr))(o:Obj)(es:Array (Int×Value))(ep:Nat)(t:SetTable):Prop where
 get:h.get? a=some o
 exa:o.ExactSet
 dat:o.data=.set es ep t
 tab:Xl t es
 ent:es.toList=xs.map (ent knd)
 keys:∀x∈xs,IsTupleKey knd h x.1 x.2/\pk x
 nod:(xs.map (·.1)).Nodup
 led:t.led=!bt w
 pla:t.plain=true
def Ul(knd:KeyKind prog w K)(pk:List K×Addr->Prop)(h:Heap)(a:Addr)(S:List K->Prop)(n:Nat):Prop:=∃Z o G R t,aa1 knd pk h a Z o G R t/\(∀k,S k↔k∈Z.map (·.1))/\Z.length=n/\t.place.size*5<t.mask*3
theorem aa1.size(X:aa1 knd pk h a G o Z R t):Z.size=G.length:=by have:=ql List.length X.ent;simpa using this
def axj(p:Addr)(Z:Array (Int×Value)):byScan (.ref p) Z=false:=by unfold byScan;simp[Value.scannable]
def ak5(h:Msk m):10*turns m<100000:=by rcases h with rfl|rfl|rfl|rfl|rfl<;>decide
def aei(hu:A.units<cLine)(hk:IsTupleKey knd s.heap k p)(X:aa1 knd pk s.heap a R o es ep t)(F:Fst t (tupleKeyHash knd k) N)(Z:∀(i:Nat) x,R[i]?=some x->x.1=k->Q (.there (if adding then none else some i)) s)(G:(∀x∈R,x.1≠k)->Q (.free (P t.mask (tupleKeyHash knd k) N).j false) s) :
 wpAny (model prog w) A (setSearch a (.ref p) (tupleKeyHash knd k) adding) Q E s:=by
 unfold setSearch;exact ah9 hu hk X.get X.dat X.tab X.ent (λx hx=>(X.keys x hx).1) X.nod F Z G 100000 0 none (jy _) (by have:=F.lt;have:=ak5 X.tab.msk;lia) (aaz _ _) (λm l=>by lia)
end
def Ea{α β:Type}{f:α->β}:∀{l R:List β},l.Perm R->∀{xs:List α},R=xs.map f->∃Z:List α,l=Z.map f/\Z.Perm xs:=by
 intro l R p
 induction p with
 |nil=>intro xs e;cases xs with
  |nil=>exact⟨[],rfl,.nil⟩|cons _ _=>cases e
 |cons a p ih =>
  intro xs e;cases xs with
  |nil=>cases e
  |cons x xs =>
   simp only[iz,List.cons.injEq] at e;obtain⟨Z,G,p1⟩:=ih e.2;exact⟨x::Z,by simp[G,e.1],p1.cons x⟩
 |swap a b l =>
  intro xs e
  match xs,e with
  |x::y::xs,e =>
   simp only[iz,List.cons.injEq] at e;obtain⟨rfl,rfl,rfl⟩:=e;exact⟨y::x::xs,rfl,.swap x y xs⟩
 |trans p q qq qk =>
  intro xs e;obtain⟨ys,G,p1⟩:=qk e;obtain⟨zs,e2,p2⟩:=qq G;exact⟨zs,e2,p2.trans p1⟩
section
variable{prog:Program}{w:World}{K:Type}[DecidableEq K]{knd:KeyKind prog w K}{pk:List K×Addr->Prop}{A:Around}{E:Y1}{s:Shared}
def a3i(x:IsTupleKey knd h ks p)(ho:h.get? a=some o)(hd:o.data=.set es ep t)(hs:Heap.SameBut a h h'):IsTupleKey knd h' ks p:=by
 obtain⟨o',G,n,R,hc,Z,hi⟩:=x;have qq:p≠a:=by rintro rfl;obtain rfl:o'=o:=jd (R.symm.trans ho);rw[hd] at Z;exact nomatch Z
 exact⟨o',G,n,(hs.2 p qq).trans R,hc,Z,hi⟩
def newX(X:aa1 knd pk h a xs o es R t)(T':Xl t' Z)(he:Z.toList=G.map (ent knd))(hk:∀x∈G,IsTupleKey knd h x.1 x.2/\pk x)(hn:(G.map (·.1)).Nodup)(hl:t'.led=!bt w)(hp:t'.plain=true) :
 aa1 knd pk (h.update a (Obj.putSet Z t')) a G { o with data:=.set Z (R+1) t' } Z (R+1) t':=by
 have hg:(h.update a (Obj.putSet Z t')).get? a=some { o with data:=.set Z (R+1) t' }:=by have:=mq (Obj.putSet Z t') X.get (by rw[putSet_of Z t' X.dat];rfl);rw[putSet_of Z t' X.dat] at this;exact this
 exact⟨hg,X.exa,rfl,T',he,λx hx=>⟨a3i (hk x hx).1 X.get X.dat (jz h a _),(hk x hx).2⟩,hn,hl,hp⟩
def Jw(h:n<=128):n<=sizeLine:=by rw[qz];exact a_ h (by decide)
def ak6(X:aa1 knd pk s.heap a xs o G ep t)(hm:Msk (sizeAbove wanted-1))(hz:G.size<=sizeAbove wanted-1)(hb:sizeAbove wanted<=128)(h:∀h' R o' qv qk t',Heap.SameBut a s.heap h'->aa1 knd pk h' a R o' qv qk t'->R.Perm xs->t'.mask=sizeAbove wanted-1->t'.place.size=G.size->Q () { s with heap:=h' }) :
 wpAny (model prog w) A (setRelay a wanted) Q E s:=by
 obtain⟨t',Z,e,e1,T',p,sz,hl,hp,_⟩:=af9 hm t.finger (t.movedTo (sizeAbove wanted-1)) t.led t.plain G hz;unfold setRelay;refine aa (nq X.get X.dat X.tab.fits ?_);dsimp only;rw[cu (by have:=Jw hb;exact j_ this)];have er:t.relaid (G.map (·.1)) wanted=some (t',Z):=e;rw[er];refine aa ?_;have qq:wpAny (model prog w) A (if((Z.filterMap (G[·]?)).size != G.size)=true then(do unsupported "internal:set-table-lost-an-element";pure (Z.filterMap (G[·]?),t')) else pure (Z.filterMap (G[·]?),t'))
  (λr s'=>wpAny (model prog w) A (storeSet a r.1 r.2) Q E s') E s:=by
  rw[cu (by simp[sz])];refine ak ?_;obtain⟨R,ex,px⟩:=Ea p X.ent;have hX:=newX X T' ex (λx hx=>X.keys x (px.mem_iff.mp hx)) ((px.map _).nodup_iff.mpr X.nod) (hl.trans X.led) (hp.trans X.pla);refine wpAny_storeSet_of X.get X.dat (h _ _ _ _ _ _ (jz s.heap a _) hX px e1 (by rw[T'.Y7,sz])) (Jw (by rw[sz];exact a_ hz (a_ C_ hb)))
 exact qq
def ak7(q1:ak2 knd pk)(hu:A.units<cLine)(hk:IsTupleKey knd s.heap k p)(hp:pk (k,p))(hS:Ul knd pk s.heap a S n)(hn:n+1<32)(h:∀h' n' b,Heap.SameBut a s.heap h'->Ul knd pk h' a (λG=>S G\/G=k) n'->n'<=n+1->Q b { s with heap:=h' }) :
 wpAny (model prog w) A (setAddHashed a (.ref p) (tupleKeyHash knd k)) Q E s:=by
 obtain⟨xs,o,es,ep,t,X,hm,hl,nf⟩:=hS;obtain⟨N,F⟩:=X.tab.fst (tupleKeyHash knd k);have q0:=X.size;unfold setAddHashed setAddHashedIn;refine m9 (aa (nq X.get X.dat X.tab.fits ?_));dsimp only;rw[axj];simp only[dq,kj];refine aa (aei hu hk X F (λi x hi hx=>?_) (λq5=>?_))
 .dsimp only
  refine ak ?_;have q3:S k:=(hm k).mpr (bz.mpr ⟨x,au hi,hx⟩);have:=h s.heap n false (Heap.SameBut.refl a s.heap) ⟨xs,o,es,ep,t,X,λG=>by
   rw[<- hm G];exact⟨λh=>h.elim id (λe=>e▸q3),.inl⟩,hl,nf⟩ x_
  exact this
 .dsimp only
  refine aa (nq X.get X.dat X.tab.fits ?_);dsimp only;have room:t.place.size+1<=t.mask:=by have:=X.tab.msk;rcases this with e|e|e|e|e<;>lia
  have T':=X.tab.put (x:=.ref p) F room;have Lh:(t.put (P t.mask (tupleKeyHash knd k) N).j).1.plain=true:=X.pla;rw[Lh];simp only[o5];refine aa (aeh q1 hk hp ?_);simp only[o5];obtain⟨R,ex,px⟩:=Ea (f:=ent knd) (insertAt_perm es (t.put (P t.mask (tupleKeyHash knd k) N).j).2 (tupleKeyHash knd k,.ref p)) (xs:=xs++[(k,p)]) (by rw[Array.toList_push,X.ent,w6];rfl);have pm:=px.map (·.1);have q7:(R.map (·.1)).Nodup:=pm.nodup_iff.mpr (by
   rw[w6,yz];refine⟨X.nod,by simp,λa ha b hb=>?_⟩;simp at hb;subst hb;rintro rfl;obtain⟨x,hx,e⟩:=bz.mp ha;exact q5 x hx e)
  have q8:∀x∈R,IsTupleKey knd s.heap x.1 x.2/\pk x:=λx hx=>by
   rcases dz.mp (px.mem_iff.mp hx) with hx|hx
   .exact X.keys x hx
   .simp at hx;subst hx;exact⟨hk,hp⟩
  have hX:=newX X T' ex q8 q7 X.led X.pla;have Jf:∀G,(S G\/G=k)↔G∈R.map (·.1):=λG=>by rw[pm.mem_iff,w6,dz,hm G];simp
  have qk:R.length=n+1:=by rw[px.length_eq];simp[hl]
  have qq:(insertAt es (t.put (P t.mask (tupleKeyHash knd k) N).j).2 (tupleKeyHash knd k,.ref p)).size=es.size+1:=Mp _ _ _;refine aa (wpAny_storeSet_of X.get X.dat ?_ (Jw (by rw[qq];exact e_ (c_ (v_ (f_ q0)) (c_ (v_ (f_ hl)) (b_ hn (by decide)))))));have qv:(t.put (P t.mask (tupleKeyHash knd k) N).j).1.place.size=es.size+1:=by rw[T'.Y7,qq]
  by_cases Z:(t.put (P t.mask (tupleKeyHash knd k) N).j).1.tooFull=true
  .rw[Z]
   simp only[Bool.not_false,Bool.and_self,o5];obtain⟨g1,g2,g3,g4,g5⟩:=Xn (es.size+1) (c_ (v_ (f_ q0)) (c_ (v_ (f_ hl)) hn));refine aa (ak6 hX g1 (by rw[qq];exact g2) g5 λh' q4 o2 q2 q6 t2 sb X2 p2 em ps=>?_);refine ak (h h' (n+1) true ((jz s.heap a _).trans sb) ⟨q4,o2,q2,q6,t2,X2,λG=>?_,by rw[p2.length_eq,qk],?_⟩ (bf _))
   .exact(Jf G).trans (p2.map (·.1)).mem_iff.symm
   .rw[ps,em,qq];exact t_ g4
  .rw[Bool.not_eq_true] at Z
   rw[Z];simp only[Bool.and_false,dq,kj];refine ak (h _ (n+1) true (jz s.heap a _) ⟨R,_,_,_,_,hX,Jf,qk,?_⟩ (bf _));unfold tooFull at Z;have hf:(t.put (P t.mask (tupleKeyHash knd k) N).j).1.fill=es.size+1:=by unfold fill;rw[qv,T'.dum];rfl
   rw[hf] at Z;rw[qv];simp at Z;exact Z
end
section
variable{prog:Program}{w:World}{K:Type}[DecidableEq K]{knd:KeyKind prog w K}{pk:List K×Addr->Prop}{A:Around}{E:Y1}{s:Shared}
def Jx(Z:s.TypeIs v T)(R:isSubtype (.type T) (.type "set")=pure false)(G:isSubtype (.type T) (.type "frozenset")=pure false)(h:Q false s) :
 wpAny (model prog w) A (Builtin.Frozenset.isAnySet v) Q E s:=by
 unfold Builtin.Frozenset.isAnySet;refine aa (vm Z R ?_);exact vm Z G h
def Cy(w:World):Obj:={ cls:=.type "set",dict:=none,data:=.set #[] 0 (.fresh 0 0 (!bt w)) }
theorem Ul.get(R:Ul knd pk h a S n):∃o Z G t,h.get? a=some o/\o.ExactSet/\o.data=.set Z G t/\t.fits Z.size=true :=
 let ⟨_,o,Z,G,t,X,_⟩:=R;⟨o,Z,G,t,X.get,X.exa,X.dat,X.tab.fits⟩
def Ul.typeIs(Z:Ul knd pk s.heap a S n):s.TypeIs (.ref a) "set" :=
 let ⟨o,_,_,_,ho,hc,_⟩:=Z.get;⟨o,ho,hc.1⟩
def Ul.congr(G:Ul knd pk h a S n)(e:∀k,S k↔Z k):Ul knd pk h a Z n :=
 let ⟨xs,o,es,ep,t,X,hm,r⟩:=G;⟨xs,o,es,ep,t,X,λk=>(e k).symm.trans (hm k),r⟩
end
section
variable{prog:Program}{w:World}{K:Type}[DecidableEq K]{knd:KeyKind prog w K}{pk:List K×Addr->Prop}{A:Around}{E:Y1}{s:Shared}
def aq5(Z:R (.ref s.heap.objs.size) { s with heap:=s.heap.push (Cy w) }) :
 codeAny (model prog w) A (.call (.builtin "set.__new__") ⟨[.type "set",v],[]⟩) (wants R E) s:=by
 refine yo F.plain_set_new F.entry_set_new (wpAny_of_eq (F.newCall_set_1 v) ?_);have G:=sub_set_self;unfold Builtin.«set.__new__» Builtin.Frozenset.newClass
 wp_walk
 exact wpAny_askSetting (ak (aa (wpAny_alloc (ak (ak Z)))))
set_option maxHeartbeats 3200000 in
def Tz{R:Shared->Prop}(qk:wpAny (model prog w) A.in1.in1 (Builtin.Frozenset.updateFrom "set.__init__" s.heap.objs.size x) (λ_ s'=>R s') E { s with heap:=s.heap.push (Cy w) })(h:∀s',R s'->Q (.ref s.heap.objs.size) s') :
 wpAny (model prog w) A (call (.type "set") [x]) Q E s:=by
 obtain⟨c,tl,q5⟩:=uv.mro;have q1:=uv.made;have q3:=uv.sub;refine wpAny_call (codeAny_of_tree ?_);show wpAny _ _ (callAny (.type "set") _) _ _ _;refine ak ⟨Code.quiet_builtin _ (by decide+kernel),pq F.entry_type_call ?_⟩;rw[Around.under_plain (weight_type_call_type "set" [x] []) rfl];have h1:=uv.notType;have h2:=uv.canCreate;have q4:=F.typeCall_set_1 x
 repeat (any_goals (first|assumption|wp_step))
 refine uw (aq5 (v:=x) (E:=E) (R:=λobj qq=>obj=.ref s.heap.objs.size/\qq={ s with heap:=s.heap.push (Cy w) }) ⟨rfl,rfl⟩) λr qq hr=>?_
 cases r with
 |error e=>exact hr
 |ok fl =>
  cases fl with
  |ret obj =>
   obtain⟨rfl,rfl⟩:=hr;have hS:(s.heap.push (Cy w)).get? s.heap.objs.size=some (Cy w):=bh _ rfl;have hT:Shared.TypeIs { s with heap:=s.heap.push (Cy w) } (.ref s.heap.objs.size) "set" := ⟨_,hS,rfl⟩;have q2:=uv.init.lookup;have q6:=uv.init.bind (.ref s.heap.objs.size)
   repeat (any_goals (first|assumption|wp_step))
   refine uw (yo (R:=wants (λr G=>r=.none/\R G) E) uv.init.plain F.entry_set_init (check_set_init_1 hT ?_)) λq0 G Z=>?_
   .unfold Builtin.«set.__init__» noKeywords
    generalize hUF:Builtin.Frozenset.updateFrom=UF at qk ⊢;unfold Cy at hS hT qk ⊢
    wp_walk
    exact ji qk (λ_ s' hr=>ak ⟨rfl,hr⟩) (λe s' he=>he)
   .cases q0 with
    |error e=>exact Z
    |ok qv =>
     cases qv with
     |ret r =>
      obtain⟨rfl,hq⟩:=Z
      repeat (any_goals (first|assumption|wp_step))
      exact h _ hq
     |_=>exact Z.elim
  |_=>exact hr.elim
end
open PyProof.Rows (F.entry_set_update_loop F.plain_set_update_loop)
section
variable{prog:Program}{w:World}{K:Type}[DecidableEq K]{knd:KeyKind prog w K}{pk:List K×Addr->Prop}{A:Around}{E:Y1}{s:Shared}
def aib{Z:X0}(R:IsTupleKey knd h G p)(hp:p∉Z)(hm:∀b o,b∉Z->h.get? b=some o->h'.get? b=some o):IsTupleKey knd h' G p :=
 let ⟨o,items,n,ho,r⟩:=R;⟨o,items,n,hm p o hp ho,r⟩
def Ul.moved{G:X0}(hS:Ul knd pk h a S n)(ha:a∉G)(hw:∀(b:Addr) (ks:List K),b∈G->¬IsTupleKey knd h ks b)(R:∀b o,b∉G->h.get? b=some o->h'.get? b=some o):Ul knd pk h' a S n :=
 let ⟨xs,o,es,ep,t,X,r⟩:=hS
 ⟨xs,o,es,ep,t,⟨R a o ha X.get,X.exa,X.dat,X.tab,X.ent,λx Z=>⟨aib (X.keys x Z).1 (λhc=>hw _ _ hc (X.keys x Z).1) R,(X.keys x Z).2⟩,X.nod,X.led,X.pla⟩,r⟩
end
def aq6(k:Xl t Z)(F:Fst t h N)(room:t.place.size+1<=t.mask) :
 layNew t Z h x=(insertAt Z (t.put (P t.mask h N).j).2 (h,x),(t.put (P t.mask h N).j).1,false,false):=by
 have e:t.freeSlot h=some ((P t.mask h N).j,false):=by
  unfold freeSlot probe;rw[aaz];rcases aku k F (λ_=>h+1) (10*turns t.mask) 0 (jy _) (by have:=F.lt;exact c_ C_ this) with⟨a,_⟩|⟨m,i,_,_,_,c,_⟩
  .rw[a];rfl
  .lia
 have f:=(k.put (x:=x) F room).fits;unfold layNew;rw[e];show(insertAt Z (t.put (P t.mask h N).j).2 (h,x),(t.put (P t.mask h N).j).1.orStandIn (insertAt Z (t.put (P t.mask h N).j).2 (h,x)).size,false,!(t.put (P t.mask h N).j).1.fits (insertAt Z (t.put (P t.mask h N).j).2 (h,x)).size)=_;unfold orStandIn;rw[dh f,f];rfl
def aic(hm:Msk (sizeAbove wanted-1))(hz:es.size<=sizeAbove wanted-1) :
 ∃G t',relayAll t es wanted=(G,t',false)/\t'.mask=sizeAbove wanted-1/\Xl t' G/\G.toList.Perm es.toList/\t'.led=t.led/\t'.plain=t.plain:=by
 obtain⟨t',Z,e,e1,T',p,sz,hl,hp,_,R⟩:=af9 hm t.finger (t.movedTo (sizeAbove wanted-1)) t.led t.plain es hz;have er:t.relaid (es.map (·.1)) wanted=some (t',Z):=e;refine⟨Z.filterMap (es[·]?),t',?_,e1,T',p,hl,hp⟩;unfold relayAll;rw[er];dsimp only;rw[dh];rw[az];exact⟨by unfold coversAll;exact List.isPerm_iff.mpr R,T'.fits⟩
noncomputable def enI(x:Int×Tok):Int×Value:=(hashInt x.1,.int x.1 x.2)
structure Kp(w:World)(h:Heap)(a:Addr)(xs:List (Int×Tok))(o:Obj)(es:Array (Int×Value))(ep:Nat)(t:SetTable):Prop where
 get:h.get? a=some o
 exa:o.ExactSet
 dat:o.data=.set es ep t
 tab:Xl t es
 ent:es.toList=xs.map enI
 nod:(xs.map (·.1)).Nodup
 led:t.led=!bt w
 pla:t.plain=true
def Bp(w:World)(h:Heap)(a:Addr)(S:Int->Prop)(n:Nat):Prop:=∃Z o G R t,Kp w h a Z o G R t/\(∀k,S k↔k∈Z.map (·.1))/\Z.length=n/\t.place.size*5<t.mask*3
theorem Kp.size(X:Kp w h a G o Z R t):Z.size=G.length:=by have:=ql List.length X.ent;simpa using this
def Kp.elems(X:Kp w h a R o G ep t):ElemsOf (intKind prog w) G.toList:=λe Z=>by rw[X.ent] at Z;obtain⟨x,_,rfl⟩:=bz.mp Z;exact⟨⟨x.1,by simp[enI,intKind,Value.isInt],rfl⟩,rfl⟩
def a3l(X:Kp w h a xs o es R t)(T':Xl t' Z)(he:Z.toList=G.map enI)(hn:(G.map (·.1)).Nodup)(hl:t'.led=!bt w)(hp:t'.plain=true) :
 Kp w (h.update a (Obj.putSet Z t')) a G { o with data:=.set Z (R+1) t' } Z (R+1) t':=by
 have hg:(h.update a (Obj.putSet Z t')).get? a=some { o with data:=.set Z (R+1) t' }:=by have:=mq (Obj.putSet Z t') X.get (by rw[putSet_of Z t' X.dat];rfl);rw[putSet_of Z t' X.dat] at this;exact this
 exact⟨hg,X.exa,rfl,T',he,hn,hl,hp⟩
theorem Bp.get(R:Bp w h a S n):∃o Z G t,h.get? a=some o/\o.ExactSet/\o.data=.set Z G t/\t.fits Z.size=true :=
 let ⟨_,o,Z,G,t,X,_⟩:=R;⟨o,Z,G,t,X.get,X.exa,X.dat,X.tab.fits⟩
theorem R8:∀{a b:X9},a.Nodup->(∀x∈a,x∈b)->a.length<=b.length
 |[],_,_,_=>jy _
 |x::a,b,h,s=>by
  obtain⟨R,G⟩:=j8.mp h;have:=R8 (b:=b.erase x) G λy Z=>(List.mem_erase_of_ne (λe:y=x=>R (e▸Z))).mpr (s y (.tail _ Z))
  rw[List.length_erase_of_mem (s x (.head _))] at this;have:=List.length_pos_of_mem (s x (.head _));rw[jw];lia
def Bp.le(hS:Bp w h a S n){B:X9}(G:∀k,S k->k∈B):n<=B.length:=by obtain⟨xs,o,es,ep,t,X,R,rfl,_⟩:=hS;rw[<- gf (f:=(·.1))];exact R8 X.nod λk Z=>G k ((R k).mpr Z)
def Bp.congr(G:Bp w h a S n)(e:∀k,S k↔Z k):Bp w h a Z n :=
 let ⟨xs,o,es,ep,t,X,hm,r⟩:=G;⟨xs,o,es,ep,t,X,λk=>(e k).symm.trans (hm k),r⟩
def Bp.moved(R:Bp w h a S n)(G:∀o,h.get? a=some o->Z.get? a=some o):Bp w Z a S n :=
 let ⟨xs,o,es,ep,t,X,r⟩:=R
 ⟨xs,o,es,ep,t,⟨G o X.get,X.exa,X.dat,X.tab,X.ent,X.nod,X.led,X.pla⟩,r⟩
def aa3(Z:h.get? a=some (Cy w)):Bp w h a (λ_=>False) 0 :=
 ⟨[],Cy w,#[],0,_,⟨Z,⟨rfl,rfl,rfl⟩,rfl,⟨.inl rfl,rfl,rfl,λi j a b e=>by simp[SetTable.fresh] at e,λi j e=>by simp[SetTable.fresh] at e,by simp[SetTable.fresh],λi j e a=>by simp[SetTable.fresh] at a⟩,
  rfl,zg,rfl,rfl⟩,λk=>by simp,rfl,by simp[SetTable.fresh]⟩
def aq7(hS:Bp w s.heap a S n)(hn:n+1<32)(h:∀h' n' b,Heap.SameBut a s.heap h'->Bp w h' a (λR=>S R\/R=k) n'->n'<=n+1->Q b { s with heap:=h' }) :
 wpAny (model prog w) A (setAddHashed a (.int k tk) (hashInt k)) Q E s:=by
 obtain⟨xs,o,G,ep,t,X,hm,hl,nf⟩:=hS;obtain⟨N,F⟩:=X.tab.fst (hashInt k);have z3:=X.size;have q4:=X.elems (prog:=prog);have zq:(intKind prog w).is k (.int k tk)=true:=by simp[intKind,Value.isInt]
 unfold setAddHashed setAddHashedIn;refine m9 (aa (nq X.get X.dat X.tab.fits ?_));dsimp only;rw[byScan_of (knd:=intKind prog w) (x:=.int k tk) rfl (by unfold scanBound;lia) q4];simp only[↓reduceIte];unfold setAddByScan;refine aa ?_;refine aa (wpAny_rule ?_);refine aa (wpAny_setScan_of (knd:=intKind prog w) (k:=k) zq X.get X.dat X.tab.fits q4 ?_);cases hr:List.findIdx? (λe=>(intKind prog w).is k e.2) G.toList with
 |some j =>
  dsimp only;obtain⟨hj,q8,_⟩:=qp.mp hr;have zw:S k:=by
   obtain⟨x,hx,ex⟩:∃x∈xs,enI x=G.toList[j]:=by have Jf:=ux hj;generalize G.toList[j]=e at Jf;rw[X.ent] at Jf;exact bz.mp Jf
   have zv:(intKind prog w).is k (enI x).2=true:=by rw[ex];exact q8
   refine(hm k).mpr (bz.mpr ⟨x,hx,?_⟩);have:(intKind prog w).is x.1 (enI x).2=true:=by simp[enI,intKind,Value.isInt]
   exact(intKind prog w).inj _ _ _ this zv
  refine ak (ak ?_);have:=h s.heap n false (Heap.SameBut.refl a s.heap) ⟨xs,o,G,ep,t,X,λR=>by
   rw[<- hm R];exact⟨λh=>h.elim id (λe=>e▸zw),.inl⟩,hl,nf⟩ x_
  exact this
 |none =>
  dsimp only;have z1:∀x∈xs,x.1≠k:=λx hx e=>by have:=vq.mp hr (enI x) (by rw[X.ent];exact bz.mpr ⟨x,hx,rfl⟩);subst e;simp[enI,intKind,Value.isInt] at this
  have room:t.place.size+1<=t.mask:=by have:=X.tab.msk;rcases this with e|e|e|e|e<;>lia
  have T':=X.tab.put (x:=.int k tk) F room;rw[aq6 X.tab F room];have Lh:(t.put (P t.mask (hashInt k) N).j).1.plain=true:=X.pla;have q6:(t.put (P t.mask (hashInt k) N).j).1.led=!bt w:=X.led;obtain⟨qk,ex,px⟩:=Ea (f:=enI) (insertAt_perm G (t.put (P t.mask (hashInt k) N).j).2 (hashInt k,.int k tk)) (xs:=xs++[(k,tk)]) (by rw[Array.toList_push,X.ent,w6];rfl);have pm:=px.map (·.1);have q7:(qk.map (·.1)).Nodup:=pm.nodup_iff.mpr (by
   rw[w6,yz];refine⟨X.nod,by simp,λa ha b hb=>?_⟩;simp at hb;subst hb;rintro rfl;obtain⟨x,hx,e⟩:=bz.mp ha;exact z1 x hx e)
  have hX:=a3l X T' ex q7 q6 Lh;have Jf:∀R,(S R\/R=k)↔R∈qk.map (·.1):=λR=>by rw[pm.mem_iff,w6,dz,hm R];simp
  have qv:qk.length=n+1:=by rw[px.length_eq];simp[hl]
  have qq:(insertAt G (t.put (P t.mask (hashInt k) N).j).2 (hashInt k,Value.int k tk)).size=G.size+1:=Mp _ _ _;have q5:(t.put (P t.mask (hashInt k) N).j).1.place.size=G.size+1:=by rw[T'.Y7,qq]
  have hf:(t.put (P t.mask (hashInt k) N).j).1.fill=G.size+1:=by unfold fill;rw[q5,T'.dum];rfl
  generalize insertAt G (t.put (P t.mask (hashInt k) N).j).2 (hashInt k,Value.int k tk)=es1 at *;generalize(t.put (P t.mask (hashInt k) N).j).1=t1 at *;dsimp only;refine aa (ak ?_);rw[Lh];simp only[o5];refine aa ?_;rw[hashByValue_scannable 8 (x:=.int k tk) rfl];refine ak ?_;have z2:plainKind (.int k tk)=true:=rfl;simp only[z2,o5];refine aa (wpAny_storeSet_of X.get X.dat ?_ (Jw (by lia)))
  by_cases Z:t1.tooFull=true
  .rw[Z]
   simp only[Bool.not_false,Bool.and_self,o5];obtain⟨g1,g2,g3,g4,g5⟩:=Xn (G.size+1) (c_ (v_ (f_ z3)) (c_ (v_ (f_ hl)) hn));obtain⟨q3,t2,e2,m2,T2,p2,l2,q2⟩:=aic (t:=t1) (es:=es1) (wanted:=grown (G.size+1)) g1 (a_ (f_ qq) g2);rw[qq,e2];dsimp only;refine aa (ak ?_);obtain⟨z0,zk,q0⟩:=Ea p2 ex;have zz:=a3l hX T2 zk ((q0.map _).nodup_iff.mpr q7) (l2.trans q6) (q2.trans Lh);have q1:q3.size=G.size+1:=by have:=p2.length_eq;simp at this;exact this.trans qq
   refine aa (wpAny_storeSet_of hX.get rfl ?_ (Jw (a_ (f_ q1) (a_ g2 (a_ C_ g5)))));refine ak (ak (h _ (n+1) true ((jz s.heap a _).trans (jz _ a _)) ⟨z0,_,q3,_,t2,zz,λR=>?_,by rw[q0.length_eq,qv],?_⟩ (bf _)))
   .exact(Jf R).trans (q0.map (·.1)).mem_iff.symm
   .rw[T2.Y7,m2,q1];exact t_ g4
  .rw[Bool.not_eq_true] at Z
   rw[Z];simp only[Bool.and_false,dq,kj];refine ak (ak (h _ (n+1) true (jz s.heap a _) ⟨qk,_,_,_,_,hX,Jf,qv,?_⟩ (bf _)));unfold tooFull at Z;rw[hf] at Z;rw[q5];simp at Z;exact Z
def ala{I:Addr}{P:Nat->Value->Prop}(W:WalksS prog w A.in1 I fp wr G n P St)(a:Addr)(qv:a∉fp)(ks:X9)(q0:ks.length=n)(zq:∀i v x,P i v->ks[i]?=some x->∃tk,v=.int x tk){B:X9}(hB:∀k∈ks,k∈B)(hb:B.length<31) :
 ∀(k i n':Nat)(s:Shared),n-i=k->i<=n->St i s ->
  Bp w s.heap a (λk'=>k'∈ks.take i) n'->n'<=B.length ->
  (∀Z q1,Moved (a::wr) G s Z->Bp w Z.heap a (λk'=>k'∈ks) q1->q1<=B.length->R (.ok (.ret .none)) Z) ->
  codeAny (model prog w) A (.builtin "set.update.loop" ⟨[.ref a,.ref I],[]⟩) R s:=by
 have q3:a∉wr:=λh=>qv (W.sub _ h)
 have q2:∀b∈wr,b∈a::wr:=λb hb=>bx _ hb
 intro k
 induction k with
 |zero =>
  intro i n' s hk hi Rz hS R9 hR;have q7:i=n:=by lia
  subst q7;refine pq F.entry_set_update_loop ?_;rw[qi F.plain_set_update_loop _];show wpAny _ A.in1 (pyNext (.ref I) >>= _) _ _ s;refine aa (W.done s _ _ Rz λZ hm=>?_);show wpAny _ A.in1 (ret Value.none) _ _ Z;refine ak (hR Z n' (hm.mono q2) ((hS.moved λo=>hm.heap a o q3).congr λk=>?_) R9);rw[List.take_of_length_le (f_ q0)]
 |succ k ih =>
  intro i n' s hk hi Rz hS R9 hR;have Jd:i<n:=by lia
  refine pq F.entry_set_update_loop ?_;rw[qi F.plain_set_update_loop _];show wpAny _ A.in1 (pyNext (.ref I) >>= _) _ _ s;refine aa (W.item i s _ _ Jd Rz λv Z hP zk hm=>?_);have lx:i<ks.length:=b_ Jd (g_ q0)
  have qq:ks[i]?=some ks[i]:=by simp[lx]
  obtain⟨tk,rfl⟩:=zq i v _ hP qq;have zz:=hS.moved λo=>hm.heap a o q3
  show wpAny _ A.in1 (holding [Value.int ks[i] tk] (setAdd a (.int ks[i] tk)) >>= _) _ _ Z;refine aa (m9 ?_);unfold setAdd;refine m9 ?_;refine aa (wpAny_pyHash_int ?_);refine aq7 (s:={ Z with toks:=Z.toks+1 }) zz (by lia) λh' n2 b qk q6 T3=>?_
  have q4:Bp w h' a (λk=>k∈ks.take (i+1)) n2:=q6.congr λk=>by rw[List.take_add_one,dz,qq];simp
  refine ak ⟨plainId_quiet F.plain_set_update_loop _,ih (i+1) n2 _ (by lia) Jd (W.frame _ Z _ _ zk (Av _ _) λb hb o e=>?_) q4 (q4.le λk hk=>hB k (List.mem_of_mem_take hk)) λq5 n3 zv zw q8=>?_⟩
  .rw[qk.2 b (λh:b=a=>qv (by rw[<- h];exact hb))];exact e
  .refine hR q5 n3 (Moved.trans W.gtrans ((hm.mono q2).then_heap (Av _ _) λb o hb e=>?_) zv) zw q8
   rw[qk.2 b (λh:b=a=>hb (by rw[h];exact di))];exact e
def agb{id T:String}{io lo:Obj}{Z:Xt}{St:Nat->Heap->Prop}(hS:Bp w s.heap a (λ_=>False) 0)(G:s.heap.get? l=some lo)(hc:lo.cls=.type T)(q1:∀es ep t,lo.data≠.set es ep t)(n1:isSubtype (.type T) (.type "set")=pure false)(n2:isSubtype (.type T) (.type "frozenset")=pure false)(nd:(Value.type T==.type "dict")=false)
 (hi:∀{Q:Y1},Q (.ref s.heap.objs.size) { s with heap:=s.heap.push io }->wpAny (model prog w) A (pyIter (.ref l)) Q E s) (W:l≠s.heap.objs.size->Walks prog w A.in1 s.heap.objs.size [s.heap.objs.size,l] [s.heap.objs.size] Z.size (λi v=>Z[i]?=some v) St) (h0:St 0 (s.heap.push io))
 (qk:PyProof.Rows.IntsAre Z.toList ks) {B:X9} (hB:∀k∈ks,k∈B) (qq:B.length<31) (h:∀h' tk n',(∀b o,b≠a->s.heap.get? b=some o->h'.get? b=some o)->Bp w h' a (λk=>k∈ks) n'->n'<=B.length->Q () { s with heap:=h',toks:=tk }) :
 wpAny (model prog w) A (Builtin.Frozenset.updateFrom id a (.ref l)) Q E s:=by
 have hT:s.TypeIs (.ref l) T:=⟨lo,G,hc⟩;have zq:Z.size=ks.length:=by rw[<- zf];exact PyProof.Rows.IntsAre.length qk
 obtain⟨oa,zv,zk,ta,R,zw,q4,zz⟩:=hS.get;unfold Builtin.Frozenset.updateFrom;refine aa (Jx hT n1 n2 ?_);simp only[dq,kj];refine aa (wpAny_typeOf hT ?_);rw[cu (by rw[nd];simp)];refine aa (hi ?_);refine aa (wpAny_runValue ?_);have Jd:l<s.heap.objs.size:=bc G
 have q3:a<s.heap.objs.size:=bc R
 have q6:l≠a:=by rintro rfl;rw[G] at R;cases R;exact q1 _ _ _ q4
 have q0:a∉[s.heap.objs.size,l]:=by simp only[cj,List.not_mem_nil,or_false,not_or];exact⟨gh q3,λe=>q6 e.symm⟩
 have keep:∀b o,s.heap.get? b=some o->(s.heap.push io).get? b=some o:=λb o e=>ao _ e
 refine ala ((W (gh Jd)).toS) a q0 ks zq.symm (λi v x hv hx=>?_) hB qq Z.size 0 0 _ rfl (jy _)
  h0 ?_ (jy _) ?_
 .obtain⟨tk,e⟩:=PyProof.Rows.IntsAre.int_at qk i v (by rw[m6];exact hv)
  rw[aq,hx] at e;exact⟨tk,e⟩
 .refine(hS.moved λo e=>keep a o e).congr λk=>by simp
 .intro s' q2 hm q7 q8
  obtain⟨h',g',d',qv,q5⟩:=s';have eg:g'=s.gens:=hm.gens;have ed:d'=s.drawn:=hm.drawn;have eo:q5=s.os:=hm.os;subst eg;subst ed;subst eo;show wpAny _ _ _ _ _ _;refine ak (h h' qv q2 (λb o hb e=>?_) q7 q8);refine hm.heap b o ?_ (keep b o e);simp only[cj,List.not_mem_nil,or_false,not_or];exact⟨hb,gh (bc e)⟩
def aid{id:String}(hh:A.handled=none)(hS:Bp w s.heap a (λ_=>False) 0)(hl:s.heap.IsList l items)(G:PyProof.Rows.IntsAre items.toList ks){B:X9}(hB:∀k∈ks,k∈B)(Z:B.length<31)(h:∀h' tk n',(∀b o,b≠a->s.heap.get? b=some o->h'.get? b=some o)->Bp w h' a (λk=>k∈ks) n'->n'<=B.length->Q () { s with heap:=h',toks:=tk }) :
 wpAny (model prog w) A (Builtin.Frozenset.updateFrom id a (.ref l)) Q E s:=by
 have R:=hl;obtain⟨o,ho,hc,n,hd⟩:=R;exact agb hS ho hc (λ_ _ _ z=>by rw[hd] at z;cases z) F.sub_list_set F.sub_list_frozenset (by decide) (wpAny_pyIter_list hl) (λne=>Walks.list (by simp[hh]) _ l ne items) ⟨⟨_,bh _ rfl,rfl,rfl⟩,hl.push _⟩ G hB Z h
def alb{id:String}(hh:A.handled=none)(hS:Bp w s.heap a (λ_=>False) 0)(hl:s.heap.IsTuple l items)(G:PyProof.Rows.IntsAre items.toList ks){B:X9}(hB:∀k∈ks,k∈B)(Z:B.length<31)(h:∀h' tk n',(∀b o,b≠a->s.heap.get? b=some o->h'.get? b=some o)->Bp w h' a (λk=>k∈ks) n'->n'<=B.length->Q () { s with heap:=h',toks:=tk }) :
 wpAny (model prog w) A (Builtin.Frozenset.updateFrom id a (.ref l)) Q E s:=by
 have R:=hl;obtain⟨o,ho,hc,n,hd⟩:=R;exact agb hS ho hc (λ_ _ _ z=>by rw[hd] at z;cases z) (by rw[isSubtype_type];kernel_rfl) (by rw[isSubtype_type];kernel_rfl) (by decide) (wy hl) (λne=>Walks.tuple (by simp[hh]) _ l ne items) ⟨⟨_,bh _ rfl,rfl,rfl⟩,o,ao _ ho,hc,n,hd⟩ G hB Z h
def aie(hh:A.handled=none)(hl:s.heap.IsList l items)(qv:PyProof.Rows.IntsAre items.toList ks){B:X9}(hB:∀k∈ks,k∈B)(qk:B.length<31)(h:∀Z tk G,(∀b o,s.heap.get? b=some o->Z.get? b=some o)->Bp w Z s.heap.objs.size (λk=>k∈ks) G->G<=B.length->Q (.ref s.heap.objs.size) { s with heap:=Z,toks:=tk }) :
 wpAny (model prog w) A (call (.type "set") [.ref l]) Q E s:=by
 refine Tz (R:=λs'=>∃Z tk G,s'={ s with heap:=Z,toks:=tk }/\(∀b o,s.heap.get? b=some o->Z.get? b=some o)/\Bp w Z s.heap.objs.size (λk=>k∈ks) G/\G<=B.length)
  (aid (s:={ s with heap:=s.heap.push (Cy w) }) (by simp[hh]) (aa3 (bh _ rfl)) (hl.push _) qv hB qk λZ tk G hk qq R9=>⟨Z,tk,G,rfl,λb o e=>hk b o (gh (bc e)) (ao _ e),qq,R9⟩)
  λs' ⟨Z,tk,G,e,hk,qq,R9⟩=>by subst e;exact h Z tk G hk qq R9
def aif(hh:A.handled=none)(hl:s.heap.IsTuple l items)(qv:PyProof.Rows.IntsAre items.toList ks){B:X9}(hB:∀k∈ks,k∈B)(qk:B.length<31)(h:∀Z tk G,(∀b o,s.heap.get? b=some o->Z.get? b=some o)->Bp w Z s.heap.objs.size (λk=>k∈ks) G->G<=B.length->Q (.ref s.heap.objs.size) { s with heap:=Z,toks:=tk }) :
 wpAny (model prog w) A (call (.type "set") [.ref l]) Q E s:=by
 refine Tz (R:=λs'=>∃Z tk G,s'={ s with heap:=Z,toks:=tk }/\(∀b o,s.heap.get? b=some o->Z.get? b=some o)/\Bp w Z s.heap.objs.size (λk=>k∈ks) G/\G<=B.length)
  (alb (s:={ s with heap:=s.heap.push (Cy w) }) (by simp[hh]) (aa3 (bh _ rfl)) (let ⟨o,ho,r⟩:=hl;⟨o,ao _ ho,r⟩) qv hB qk λZ tk G hk qq R9=>⟨Z,tk,G,rfl,λb o e=>hk b o (gh (bc e)) (ao _ e),qq,R9⟩)
  λs' ⟨Z,tk,G,e,hk,qq,R9⟩=>by subst e;exact h Z tk G hk qq R9
theorem Hn{G:Type}:∀{l:List G}{i:Nat}(h:i<l.length),(l[i]::l.eraseIdx i).Perm l
 |x::l,0,_=>List.Perm.refl _
 |x::l,i+1,h=>by
  have Z:=Hn (l:=l) (i:=i) (by simpa using h);simp only[List.getElem_cons_succ,List.eraseIdx_cons_succ];exact(List.Perm.swap x _ _).trans (Z.cons x)
theorem agc{α:Type}(nx:Nat->Nat):∀(G k:Nat)(Z:List α)(out:Array α),Z.length=G->(pickOrder.go nx G k Z out).toList.Perm (out.toList++Z)
 |0,k,Z,out,h=>by
  have:Z=[]:=List.length_eq_zero_iff.mp h;subst this;unfold pickOrder.go;simp
 |G+1,k,Z,out,h=>by
  unfold pickOrder.go;have R:nx k%Z.length<Z.length:=Nat.mod_lt _ (by lia)
  rw[bu R];dsimp only;refine(agc nx G (k+1) _ _ (by rw[List.length_eraseIdx];split<;>lia)).trans ?_;rw[Array.toList_push,qd];refine List.Perm.append_left _ ?_;exact Hn R
def aih(nx:Nat->Nat)(Z:Array α):(pickOrder nx Z).toList.Perm Z.toList:=by unfold pickOrder;simpa using agc nx Z.size 0 Z.toList #[] (by simp)
def Vh:entryFor table "set.__iter__" = some Builtin.«frozenset.__iter__» :=
 entryFor_alias (id' := "frozenset.__iter__") (by kernel_rfl) rfl (by decide+kernel) (by kernel_rfl)
def Bj:Slot "set_iterator" "__next__" "set_iterator.__next__" :=
 .of (owner := "set_iterator") (n := "__next__") (by rw[typeLookup_type,builtinLookup_eq_fast];kernel_rfl) (by decide+kernel) (by decide+kernel) (by decide+kernel)
  (by first|exact .inl (by decide+kernel)|exact .inr (by decide+kernel)) (by rw[isSubtype_type];kernel_rfl)
def Li:Slot "set_iterator" "__iter__" "set_iterator.__iter__" :=
 .of (owner := "set_iterator") (n := "__iter__") (by rw[typeLookup_type,builtinLookup_eq_fast];kernel_rfl) (by decide+kernel) (by decide+kernel) (by decide+kernel)
  (by first|exact .inl (by decide+kernel)|exact .inr (by decide+kernel)) (by rw[isSubtype_type];kernel_rfl)
def Jy:entryFor table "set_iterator.__next__" = some Builtin.«set_iterator.__next__»:=entryFor_of_fast (by kernel_rfl)
def Sd:entryFor table "set_iterator.__iter__" = some Builtin.«dict_keyiterator.__iter__» :=
 entryFor_alias (id' := "dict_keyiterator.__iter__") (by kernel_rfl) rfl (by decide+kernel) (by kernel_rfl)
def Lj(a:Value):argsOk "set_iterator.__next__" ⟨[a],[]⟩:=by unfold argsOk;kernel_rfl
def Um(a:Value):argsOk "set_iterator.__iter__" ⟨[a],[]⟩:=by unfold argsOk;kernel_rfl
def ael(R:Srt Z):below Z 0=0:=by
 obtain⟨G,h2,h3⟩:=Eu (j:=0) R;rcases Nat.eq_zero_or_pos (below Z 0) with e|e
 .exact e
 .have l:0<Z.size:=b_ e G
  have:=h2 0 Z[0] (by simp[l]) e
  lia
def aem(R:Srt Z)(h:Z[i]?=some j):below Z (j+1)=i+1:=by
 obtain⟨h1,h2,h3⟩:=Eu (j:=j+1) R;have a1:i<below Z (j+1):=by
  rcases uy i (below Z (j+1)) with l|l
  .exact l
  .have:=h3 i j h l;lia
 have a2:¬i+1<below Z (j+1):=λl=>by
  have l2:i+1<Z.size:=b_ l h1
  have G:Z[i+1]?=some Z[i+1]:=by simp[l2]
  have:=h2 (i+1) _ G l;have:=R i (i+1) j _ h G B_
  lia
 exact u_ (s_ a2) a1
def wkN(w:World)(a:Addr)(Z:Array (Int×Value))(G:Nat):Array (Int×Value):=if bt w then pickOrder (w.params.setOrder a G) Z else Z
def aa5:(wkN w a es ep).toList.Perm es.toList:=by
 unfold wkN;split
 .exact aih _ _
 .exact List.Perm.refl _
def Vi:(wkN w a Z G).size=Z.size:=by have:=(aa5 (w:=w) (a:=a) (es:=Z) (ep:=G)).length_eq;simpa using this
noncomputable def itN(a:Addr)(Z i n G:Nat):Obj:={ cls:=.type "set_iterator",data:=.fields #[.int Z 0,.int i 0,.ref a,.int n 0,.int G 0] }
set_option tactic.hygienic true in
def avy(X:Kp w s.heap a xs o es Y t){Z:Nat}(u:bt w=false->below t.place Z=i)(L:∀e S,(wkN w a es Y)[i]?=some e->(bt w=false->below t.place S=i+1)->Q (some (e.2,S)) s)(C:(wkN w a es Y)[i]?=none->Q none s) :
 wpAny (model prog w) A (setNext a Z i Y) Q E s:=by
 unfold setNext;refine aa (nq X.get X.dat X.tab.fits ?_);dsimp only;refine aa (Y9 ?_);cases hbt:bt w with
 |true =>
  simp only[o5,bne_self_eq_false,dq,kj];refine aa ?_;unfold setWalk;refine aa (nq X.get X.dat X.tab.fits ?_);dsimp only;refine aa (Y9 ?_);rw[hbt];simp only[o5];refine aa (wpAny_askSetting (ak (ak ?_)));have G:wkN w a es Y=pickOrder (w.params.setOrder a Y) es:=by unfold wkN;rw[hbt];rfl
  show Q (((pickOrder (w.params.setOrder a Y) es)[i]?).map _) s;rw[<- G];cases hg:(wkN w a es Y)[i]? with
  |none=>exact C hg|some e=>exact L e Z hg (λc=>by rw[hbt] at c;cases c)
 |false =>
  have G:wkN w a es Y=es:=by unfold wkN;rw[hbt];rfl
  simp only[dq,kj];split
  .rename_i J
   have J:(!t.plain&&decide (es.size > 1))=true:=J;rw[X.pla] at J;cases J
  .refine aa ?_
   have fin:Q (match es[below t.place Z]?,t.place[below t.place Z]? with|some (_,x),some j=>some (x,j+1)|_,_=>none) s:=by
    rw[u hbt];cases hg:es[i]? with
    |none=>exact C (by rw[G];exact hg)
    |some e =>
     have li:i<t.place.size:=by rw[X.tab.Y7];exact(jf.mp hg).1
     have R:t.place[i]?=some t.place[i]:=by simp[li]
     rw[R];exact L e _ (by rw[G];exact hg) (λ_=>aem X.tab.srt R)
   have:wpAny (model prog w) A (if(!t.led&&!es.isEmpty)=true then unsupported "set:maker-not-led" else pure ()) (λ_ y=>wpAny (model prog w) A (pure (match es[below t.place Z]?,t.place[below t.place Z]? with|some (_,x),some j=>some (x,j+1)|_,_=>none)) Q E y) E s:=by rw[X.led,hbt];simp only[Bool.not_false,ye,Bool.false_and,dq,kj];exact ak (ak fin)
   exact this
set_option tactic.hygienic true in
def alc{I:Addr}(X:Kp w s.heap a xs o R J t){Z:Nat}(y:s.heap.get? I=some (itN a Z i R.size J))(hb:bt w=false->below t.place Z=i)(G:(wkN w a R J)[i]?=some e)(hQ:∀u Y,u.get? I=some (itN a Y (i+1) R.size J)->(bt w=false->below t.place Y=i+1)->Heap.SameBut I s.heap u->Q (some e.2) { s with heap:=u }) :
 wpAny (model prog w) A (pyNext (.ref I)) Q E s:=by
 have hT:s.TypeIs (.ref I) "set_iterator" := ⟨_,y,rfl⟩;unfold pyNext;refine aa (wpAny_attempt (kh (name:=Str.ofString "__next__") hT Bj
  (j7 Bj hT Jy ?_ (Lj _))))
 unfold Builtin.«set_iterator.__next__»;refine aa (m:=slotArgs "__next__" 0 _) (ak ?_);refine aa (wpAny_fieldsOf y rfl ?_);show wpAny _ _ (setEntries a >>= _) _ _ s;refine aa (wpAny_setEntries_of X.get X.dat X.tab.fits ?_);rw[bne_self_eq_false];simp only[dq,kj];show wpAny _ _ (setNext a Z i J >>= _) _ _ s;refine aa (avy X hb (λe' Y qq C=>?_) (λhn=>by rw[hn] at G;cases G));rw[qq] at G;cases G;dsimp only;refine aa (jg y (by simp) λh1 g1 S=>?_);refine aa (jg (s:={ s with heap:=h1 }) g1 (by simp) λh2 g2 L=>?_);exact ak ⟨_,rfl,ak (hQ h2 Y (by rw[g2];rfl) C (S.trans L))⟩
set_option tactic.hygienic true in
def aq9{I:Addr}(hh:A.handled=none)(X:Kp w s.heap a xs o S G t){Z:Nat}(J:s.heap.get? I=some (itN a Z i S.size G))(hb:bt w=false->below t.place Z=i)(y:(wkN w a S G)[i]?=none)(hQ:∀C,Heap.ExtBut I s.heap C->Q none { s with heap:=C }) :
 wpAny (model prog w) A (pyNext (.ref I)) Q E s:=by
 have R:s.TypeIs (.ref I) "set_iterator" := ⟨_,J,rfl⟩;unfold pyNext;refine aa (wpAny_attempt (kh (name:=Str.ofString "__next__") R Bj
  (j7 Bj R Jy ?_ (Lj _))))
 unfold Builtin.«set_iterator.__next__»;refine aa (m:=slotArgs "__next__" 0 _) (ak ?_);refine aa (wpAny_fieldsOf J rfl ?_);show wpAny _ _ (setEntries a >>= _) _ _ s;refine aa (wpAny_setEntries_of X.get X.dat X.tab.fits ?_);rw[bne_self_eq_false];simp only[dq,kj];show wpAny _ _ (setNext a Z i G >>= _) _ _ s;refine aa (avy X hb (λe' sl L u=>by rw[L] at y;cases y) (λhn=>?_));dsimp only;refine aa (jg J (by simp) λh1 g1 Y=>?_);show wpAny _ _ (newExc (.type "StopIteration") [] >>= _) _ _ _;refine af6 (show A.in1.handled=none from hh) λC x k z_=>?_
 obtain⟨o,e1,e2⟩:=z_;exact aa (vm (T := "StopIteration") (b:=true) ⟨o,e1,e2⟩ isSubtype_stop (ak (hQ _ λb o n z=>k b o (Y.extBut b o n z))))
def ItS(w:World)(a I:Addr)(xs:List (Int×Tok))(o:Obj)(G:Array (Int×Value))(R:Nat)(t:SetTable)(i:Nat)(h:Heap):Prop :=
 Kp w h a xs o G R t/\∃Z,h.get? I=some (itN a Z i G.size R)/\(bt w=false->below t.place Z=i)
def Kp.at(X:Kp w h a G o Z R t)(e:h'.get? a=some o):Kp w h' a G o Z R t:=⟨e,X.exa,X.dat,X.tab,X.ent,X.nod,X.led,X.pla⟩
theorem Walks.bbj{I:Addr}(hh:A.handled=none)(qq:a≠I)(xs:List (Int×Tok))(o:Obj)(es:Array (Int×Value))(ep:Nat)(t:SetTable) :
 Walks prog w A I [I,a] [I] es.size (λi v=>((wkN w a es ep)[i]?).map (·.2)=some v) (ItS w a I xs o es ep t) where
 sub:=λb Z=>by simp at Z;simp[Z]
 frame:=λ_ _ _ st hk=>⟨st.1.at (hk a (by simp) o st.1.get),let ⟨sl,e,r⟩:=st.2;⟨sl,hk I (by simp) _ e,r⟩⟩
 item:=λi s Q E hi st R=>by
  obtain⟨X,G,hI,Z⟩:=st;have he:(wkN w a es ep)[i]?=some ((wkN w a es ep)[i]'(by rw[Vi];exact hi)):=by simp[Vi,hi]
  refine alc X hI Z he λh' sl g r sb=>R _ h' s.toks (by rw[he];rfl) ⟨X.at ((sb.2 a qq).trans X.get),sl,g,r⟩ λb o Z e=>(sb.2 b (λh=>Z (by simp[h]))).trans e
 done:=λs Q E st R=>by obtain⟨X,G,hI,Z⟩:=st;exact aq9 hh X hI Z (by simp[Vi]) λh' qk=>R h' s.toks λb o Z e=>qk b o (λh=>Z (by simp[h])) e
 self:=λ_ s _ _ st R=>by obtain⟨X,G,hI,Z⟩:=st;have hT:s.TypeIs (.ref I) "set_iterator" := ⟨_,hI,rfl⟩;refine wpAny_pyIter_slot hT Li (j7 Li hT Sd ?_ (Um _));show wpAny _ _ (ret (.ref I)) _ _ s;exact ak ⟨_,rfl, "set_iterator",_,hT,Bj.lookup,R⟩
def a3p(X:Kp w s.heap a xs o Z ep t)(R:Q (.ref s.heap.objs.size) { s with heap:=s.heap.push (itN a 0 0 Z.size ep) }):wpAny (model prog w) A (pyIter (.ref a)) Q E s:=by
 have G:s.TypeIs (.ref a) "set" := ⟨o,X.get,X.exa.1⟩;refine wpAny_pyIter_slot G F.slot_set_iter (j7 F.slot_set_iter G Vh ?_ (F.args_set_iter_1 _));unfold Builtin.«frozenset.__iter__» Builtin.Frozenset.slot0 slotArgs;simp only[List.isEmpty_nil,ye,dq,↓reduceIte,bind_assoc,List.length_nil,bne_self_eq_false];unfold Builtin.Frozenset.addrOf Builtin.Frozenset.sizeOf;refine aa (ak ?_)
 try dsimp only
 refine aa (ak ?_);refine aa (aa (wpAny_setEntries_of X.get X.dat X.tab.fits (ak ?_)));refine aa ?_;unfold setDrawn;refine aa (nq X.get X.dat X.tab.fits ?_);dsimp only;refine aa (Y9 (ak ?_));have hd:(!bt w&&(!t.plain&&decide (Z.size > 1)))=false:=by rw[X.pla];simp
 show wpAny _ _ (if(!bt w&&(!t.plain&&decide (Z.size > 1)))=true then _ else _) _ _ s;rw[hd];simp only[dq,kj];refine aa (ak (aa (wpAny_setEpoch_of X.get X.dat X.tab.fits ?_)));exact aa (t7 (ak ⟨_,rfl, "set_iterator",_,⟨_,bh _ rfl,rfl⟩,Bj.lookup,R⟩))
def a3q(Z:s.TypeIs (.ref a) "set")(h:Q false s):wpAny (model prog w) A (Builtin.List.listLengthHint (.ref a)) Q E s:=by
 unfold Builtin.List.listLengthHint;refine aa (wpAny_specialOf Z F.slot_set_len.lookup ?_)
 (generalize hid:("set.__len__" : String)=id0;(fail_if_success (clear hid id0));wp_delta;rw[show splitId id0=some ("set", "__len__") from by subst hid;decide+kernel];subst hid)
 refine aa (vm (b:=true) Z sub_set_self ?_);refine aa (wpAny_typeOf Z ?_);exact ak h
def ald(hh:A.handled=none)(X:Kp w s.heap a xs o Z G t)(hz:Z.size<=sizeLine)(h:∀h' tk q1,(∀b o,s.heap.get? b=some o->h'.get? b=some o)->s.heap.objs.size<=h'.objs.size->ItemsOf (λi v=>((wkN w a Z G)[i]?).map (·.2)=some v) q1 Z.size->Q q1.toList { s with heap:=h',toks:=tk }) :
 wpAny (model prog w) A (collect (.ref a)) Q E s:=by
 have Jd:a<s.heap.objs.size:=bc X.get
 have qk:s.heap.objs.size≠a:=yc Jd;unfold collect;refine aa (wpAny_runValue (pq F.entry_proto_collect ?_));rw[qi F.plain_proto_collect _];show wpAny _ A.in1 (newList [] >>= λl=>again (.builtin "list.__iadd__" ⟨[l,.ref a],[]⟩)) _ _ s;refine aa (t7 ?_);refine ak ⟨plainId_quiet F.plain_list_iadd _,pq F.entry_list_iadd ?_⟩;rw[qi F.plain_list_iadd _];have X1:Kp w (s.heap.push { cls:=.type "list",data:=.seq ([]:Zl).toArray }) a xs o Z G t:=X.at (ao _ X.get);have q7:Shared.TypeIs { s with heap:=s.heap.push { cls:=.type "list",data:=.seq ([]:Zl).toArray } } (.ref a) "set" := ⟨o,X1.get,X1.exa.1⟩;have h1:Builtin.List.listSameRef (.ref s.heap.objs.size) (.ref a)=false:=by simp[Builtin.List.listSameRef,qk]
 show wpAny _ A.in1 (Builtin.List.listExtendWith (.ref s.heap.objs.size) (.ref a) (.ref s.heap.objs.size)) _ _ _;unfold Builtin.List.listExtendWith;refine aa (wpAny_typeOf q7 ?_);rw[cu (by rw[h1];decide)];refine aa (a3p (s:={ s with heap:=s.heap.push { cls:=.type "list",data:=.seq ([]:Zl).toArray } }) X1 ?_);have q3:(s.heap.push { cls:=.type "list",data:=.seq ([]:Zl).toArray }).objs.size=s.heap.objs.size+1:=jk ..;show wpAny _ A.in1 (holding [.ref (s.heap.push { cls:=.type "list",data:=.seq ([]:Zl).toArray }).objs.size] (Builtin.List.listLengthHint (.ref a)) >>= _) _ _ { s with heap:=(s.heap.push { cls:=.type "list",data:=.seq ([]:Zl).toArray }).push (itN a 0 0 Z.size G) };have gI:((s.heap.push { cls:=.type "list",data:=.seq ([]:Zl).toArray }).push (itN a 0 0 Z.size G)).get? (s.heap.push { cls:=.type "list",data:=.seq ([]:Zl).toArray }).objs.size=some (itN a 0 0 Z.size G):=bh _ rfl;have gS:((s.heap.push { cls:=.type "list",data:=.seq ([]:Zl).toArray }).push (itN a 0 0 Z.size G)).get? s.heap.objs.size=some { cls:=.type "list",data:=.seq ([]:Zl).toArray }:=ao _ (bh _ rfl);have qq:∀b o,s.heap.get? b=some o->((s.heap.push { cls:=.type "list",data:=.seq ([]:Zl).toArray }).push (itN a 0 0 Z.size G)).get? b=some o:=λb o e=>ao _ (ao _ e)
 have q8:s.heap.objs.size<=((s.heap.push { cls:=.type "list",data:=.seq ([]:Zl).toArray }).push (itN a 0 0 Z.size G)).objs.size:=by rw[jk,q3];exact a_ x_ x_
 generalize(s.heap.push { cls:=.type "list",data:=.seq ([]:Zl).toArray }).push (itN a 0 0 Z.size G)=hp at *;rw[q3] at gI ⊢;have X2:Kp w hp a xs o Z G t:=X.at (qq a o X.get);refine aa (m9 (a3q ⟨o,X2.get,X2.exa.1⟩ ?_));rw[dh (by decide+kernel)];refine aa (wpAny_rule ?_);refine aa ?_;show wpAny _ A.in1 (updateSeq s.heap.objs.size (·.push .none) >>= λ_=>updateSeq s.heap.objs.size (·.pop)) _ _ _;refine aa (wpAny_updateSeq gS rfl ?_);have R:=mq (Obj.mapSeq (·.push Value.none)) gS rfl;refine wpAny_updateSeq (hz:=by seq_fits) R rfl ?_;have q0:=mq (Obj.mapSeq (·.pop)) R rfl;have qv:∀b o,b≠s.heap.objs.size->hp.get? b=some o->((hp.update s.heap.objs.size (Obj.mapSeq (·.push Value.none))).update s.heap.objs.size (Obj.mapSeq (·.pop))).get? b=some o :=
  λb o hb e=>(ur _ _ (j0 hb)).trans ((ur _ _ (j0 hb)).trans e)
 have zq:((hp.update s.heap.objs.size (Obj.mapSeq (·.push Value.none))).update s.heap.objs.size (Obj.mapSeq (·.pop))).objs.size=hp.objs.size:=by rw[Heap.size_update,Heap.size_update]
 generalize(hp.update s.heap.objs.size (Obj.mapSeq (·.push Value.none))).update s.heap.objs.size (Obj.mapSeq (·.pop))=h3 at *;have W:=(Walks.bbj (prog:=prog) (w:=w) (A:=A.in1) (I:=s.heap.objs.size+1) (a:=a) hh (gh (qg Jd)) xs o Z G t).toS;refine ak ⟨plainId_quiet F.plain_extend_loop _,codeAny_extend_loopS W hz _ (by simp only[cj,List.not_mem_nil,or_false,not_or];exact⟨gh (uf _),qk⟩) _ Z.size 0 _ _ _ rfl (jy _)
  ⟨X.at (qv a o (j0 qk) (qq a o X.get)),0,qv _ _ (yc (uf _)) gI,λ_=>ael X.tab.srt⟩ q0 (ItemsOf.nil _) λs' q4 c' hm q2 Ew=>?_⟩
 show wpAny _ A (load s.heap.objs.size >>= _) _ _ s';refine aa (wpAny_load q2 ?_);obtain⟨h',g',d',q5,q6⟩:=s';have eg:g'=s.gens:=hm.gens;have ed:d'=s.drawn:=hm.drawn;have eo:q6=s.os:=hm.os;subst eg;subst ed;subst eo;refine ak (h h' q5 q4 (λb o e=>?_) ?_ Ew)
 .have hb:=bc e
  exact hm.heap b o (by simp only[cj,List.not_mem_nil,or_false,not_or];exact⟨gh hb,gh (qg hb)⟩) (qv b o (gh hb) (qq b o e))
 .have:=bc q2
  exact yu this
def aen{s:Shared}(X:Kp w s.heap a xs o Z ep t)(Ew:ItemsOf (λi v=>((wkN w a Z ep)[i]?).map (·.2)=some v) acc Z.size) :
 ∃ns:List Int,PyProof.Rows.IntsAre acc.toList ns/\ns.Perm (xs.map (·.1)):=by
 obtain⟨G,ey,py⟩:=Ea (f:=enI) (aa5 (w:=w) (a:=a) (es:=Z) (ep:=ep)) X.ent;have e1:acc.toList=G.map λy=>Value.int y.1 y.2:=by
  apply yw;intro i;have hz:acc.toList.length=Z.size:=by simpa using Ew.1
  have hy:G.length=Z.size:=by rw[py.length_eq,<- X.size]
  by_cases R:i<Z.size
  .have e2:acc.toList[i]?=some (acc.toList[i]'(b_ R (g_ hz))):=by simp[hz,R]
   have e3:=Ew.2 i _ (by rw[<- m6];exact e2);rw[e2,<- e3,<- m6,ey,je,je];cases G[i]?<;>rfl
  .rw[m7 (a_ (f_ hz) (s_ R)),m7 (by simp;exact a_ (f_ hy) (s_ R))]
 refine⟨G.map (·.1),?_,py.map _⟩;rw[e1];clear e1 py ey Ew
 induction G with
 |nil=>exact .nil|cons y G ih=>exact .cons _ _ ih
def aa6(hh:A.handled=none)(hS:Bp w s.heap a S n)(hn:n<31)(h:∀(h':Heap) (tk:Nat) (p:Addr) (out:Xt) (ns:X9),(∀b o,s.heap.get? b=some o->h'.get? b=some o)->s.heap.objs.size<=p->PyProof.Rows.IntsAre out.toList ns->ns.Pairwise (·<=·)->ns.Nodup->(∀k,S k↔k∈ns) ->
 (∃c,h'.get? p=some (PyProof.Rows.seqObj "list" out c))->Q (.ref p) { s with heap:=h',toks:=tk }) :
 wpAny (model prog w) A (call (.builtin "sorted") [.ref a]) Q E s:=by
 obtain⟨xs,o,es,ep,t,X,hm,hl,nf⟩:=hS;have qq:=X.size;refine Calls.call_function_entry PyProof.Rows.kind_sorted PyProof.Rows.plain_sorted PyProof.Rows.entry_sorted (PyProof.Rows.args_sorted1 _) ?_;unfold Builtin.«sorted»;refine aa (m:=checkCount "sorted" 1 1 _) (ak ?_);refine aa (ald (by simpa using hh) X (by rw[qz];exact e_ (c_ (f_ qq) (c_ (f_ hl) (b_ hn (by decide))))) λh1 tk Z keep q0 Ew=>?_);obtain⟨ns,hI,pn⟩:=aen X Ew;have G:Z.toList.length=n:=by have:=Ew.1;simp;exact u_ (a_ (f_ this) (a_ (f_ qq) (f_ hl))) (a_ (g_ hl) (a_ (g_ qq) (g_ this)))
 have q1:Z=Z.toList.toArray:=by simp
 refine aa (wpAny_newList ?_ (by rw[qz];exact e_ (c_ (f_ G) (b_ hn (by decide)))));have R:(h1.push (PyProof.Rows.seqObj "list" Z.toList.toArray 0)).get? h1.objs.size=some (PyProof.Rows.seqObj "list" Z.toList.toArray 0):=bh _ rfl;refine aa (m9 (j7 PyProof.Rows.slot_list_sort ⟨_,R,rfl⟩ PyProof.Rows.entry_list_sort (PyProof.Rows.list_sort_tree (s:={ s with heap:=h1.push (PyProof.Rows.seqObj "list" Z.toList.toArray 0),toks:=tk }) R hI (c_ (f_ G) (b_ hn (by decide))) λout qv a1 a2 a3=>⟨_,rfl,?_⟩) (PyProof.Rows.args_list_sort _)));have p2:=a2.trans pn;refine ak ⟨_,rfl,h _ tk h1.objs.size out qv (λb o e=>?_) q0 a1 a3 (p2.nodup_iff.mpr X.nod) (λk=>(hm k).trans p2.mem_iff.symm) (PyProof.Rows.sortedHeap_at R)⟩;have qk:=keep b o e;have Jd:=bc qk;rw[PyProof.Rows.sortedHeap_old (gh Jd) (by rw[jk];exact qg Jd),Heap.get?_push_ne _ _ _ (gh Jd)];exact qk
end STb
namespace MW
open PySem (Str)
set_option genInjectivity true in
inductive D where
 |non|bl (b:Bool)|int (i:Int)|str (s:Str)|tup (ds:List D)|vl (ds:List D)|fz (ds:List D)|ref (n:Nat)
noncomputable abbrev Kx:=Sum Int Str
set_option genInjectivity true in
inductive MO where
 |lst (ds:List D)|dT (jn:List (List Kx×D))|dK (jn:List (Kx×D))|exc (c:Nat)
noncomputable abbrev dg:=List MO
noncomputable abbrev Env:=List (Option D)
set_option genInjectivity true in
inductive Res(α:Type) where
 |ok (a:α) (M:dg)|bad
namespace Res
noncomputable def bind{Z β:Type}(r:Res Z)(f:Z->dg->Res β):Res β :=
 match r with|ok a M=>f a M|bad=>bad
@[simp] def Cm(a:α)(M:dg)(f:α->dg->Res β):(ok a M).bind f=f a M:=rfl
@[simp] def a3t(f:α->dg->Res β):(bad:Res α).bind f=bad:=rfl
noncomputable def vo{α:Type}(o:Option α)(M:dg):Res α:=match o with|some a=>ok a M|none=>bad
@[simp] def Ho(a:α)(M:dg):vo (some a) M=ok a M:=rfl
@[simp] def axn(M:dg):vo (none:Option α) M=bad:=rfl
end Res
inductive Op2 where|add|sub|mul|fdiv|mod|pow
inductive Cp where|eq|ne|lt|le|gt|ge|is|Xo|inn|T4
inductive Blt where
 |len|tuple|list|max|min|dict|all|isTuple|isBool|De|Gn|isE (k:Nat)
inductive Bm where|append|pop|index|get|Hq
inductive Tg where
 |name (i:Nat)|names (is:Y2)
mutual
inductive Ex where
 |var (i:Nat)|cst (d:D)
 |bin (op:Op2) (a b:Ex)|neg (a:Ex)
 |cmp (op:Cp) (a b:Ex)
 |and (a b:Ex)|or (a b:Ex)|not (a:Ex)|ite (c a b:Ex)
 |tup (es:Dn)|lst (es:Dn)|Hr (es:Dn)|aij|Za
 |ix (a b:Ex)|cut (a:Ex) (lo hi:OEx)
 |call (f:Nat) (es:Dn)|aik (f:Nat) (es:Dn)
 |blt (b:Blt) (es:Dn)|bm (m:Bm) (o:Ex) (es:Dn)
 |comp (v:Bool) (k:Nat) (t:Tg) (it:Mq) (e:Ex)|Eb (v:Bool) (k:Nat) (t:Tg) (it:Mq) (c:Ex) (e:Ex)
 |aeo (e:Ex)|Uo (e:Ex)
inductive Dn where
 |nil|cons (e:Ex) (es:Dn)
inductive OEx where
 |none|some (e:Ex)
inductive Mq where
 |val (e:Ex)|Jg (e:Ex)|enm (e:Ex)|zip (es:Dn)
end
noncomputable abbrev Ex.v:=Ex.var
noncomputable abbrev Ex.i(n:Int):Ex:=.cst (.int n)
noncomputable abbrev Ex.l(e:Ex):Ex:=.blt .len (.cons e .nil)
noncomputable abbrev Dn.z:=Dn.nil
noncomputable abbrev Dn.c:=Dn.cons
noncomputable abbrev Dn.o(a:Ex):Dn:=.cons a .nil
noncomputable abbrev Dn.p(a b:Ex):Dn:=.cons a (.cons b .nil)
noncomputable abbrev Dn.q(a b c:Ex):Dn:=.cons a (.cons b (.cons c .nil))
inductive Lv where
 |tg (t:Tg)|sub (o i:Ex)
mutual
inductive Cu where
 |asg (l:Lv) (e:Ex)|expr (e:Ex)|iff (c:Ex) (a b:rm)|whl (c:Ex) (b:rm)|for_ (t:Tg) (it:Mq) (b:rm)
 |ret (e:Ex)|brk|raise (c:Nat)
inductive rm where
 |nil|cons (s:Cu) (r:rm)
end
noncomputable abbrev Cu.a(i:Nat)(e:Ex):Cu:=.asg (.tg (.name i)) e
noncomputable abbrev Cu.f(c:Ex)(b:rm):Cu:=.iff c b .nil
noncomputable abbrev rm.z:=rm.nil
noncomputable abbrev rm.c:=rm.cons
noncomputable abbrev rm.o(a:Cu):rm:=.cons a .nil
noncomputable abbrev rm.p(a b:Cu):rm:=.cons a (.cons b .nil)
noncomputable abbrev rm.q(a b c:Cu):rm:=.cons a (.cons b (.cons c .nil))
structure Fn where
 np:Nat
 ns:Nat
 body:rm
noncomputable def gm(M:dg):D->Option (List D)
 |.vl ds=>some ds|.ref n=>match M[n]? with|some (.lst ds)=>some ds|_=>none
 |_=>none
def yd(M:dg):D->Option (List D)
 |.tup ds=>some ds|d=>gm M d
noncomputable def Vj:D->Option Kx
 |.int i=>some (.inl i)|.str s=>some (.inr s)|_=>none
def ale:List D->Option (List Kx)
 |[]=>some []
 |d::ds=>match Vj d,ale ds with
  |some k,some ks=>some (k::ks)|_,_=>none
def aa7:D->Option (List Kx)
 |.tup ds=>ale ds|_=>none
noncomputable def Qn(f:D->D->Option Bool):List D->List D->Option Bool
 |[],[]=>some true
 |a::as,b::bs=>match f a b,Qn f as bs with
  |some x,some y=>some (x&&y)|_,_=>none
 |_,_=>some false
instance:DecidableEq Kx:=inferInstanceAs (DecidableEq (Sum Int Str))
noncomputable def wg{Z:Type}[DecidableEq Z](G:List (Z×D))(k:Z):Option D:=(G.find? λp=>decide (p.1=k)).map (·.2)
def Ko(M:dg):Nat->D->D->Option Bool
 |0,_,_=>none
 |n+1,a,b=>match a,b with
  |.int i,.int j=>some (decide (i=j))|.bl i,.bl j=>some (i==j)|.str i,.str j=>some (decide (i=j))|.non,.non=>some true|.tup as,.tup bs=>Qn (Ko M n) as bs
  |a,b=>match gm M a,gm M b with
   |some as,some bs=>if as.length=bs.length then Qn (Ko M n) as bs else some false
   |_,_=>none
def ym(M:dg)(a b:D):Option Bool:=Ko M 6 a b
def Ot(M:dg)(x:D):List D->Option (List Bool)
 |[]=>some []
 |y::ys=>match ym M y x,Ot M x ys with
  |some a,some b=>some (a::b)|_,_=>none
def memD(M:dg)(x:D)(Z:List D):Option Bool:=(Ot M x Z).map (·.any id)
def Qo(M:dg)(x:D)(Z:List D):Option Nat:=(Ot M x Z).bind (·.findIdx? id)
noncomputable def Uq:List D->Option (List Int)
 |[]=>some []|.int i::r=>(Uq r).map (i::·)|_::_=>none
noncomputable def Mi(n:Nat)(i:Int):Option Nat:=if 0<=i then(if i<n then some i.toNat else none) else if -(n:Int)<=i then some (i+n).toNat else none
noncomputable def clip(n:Nat)(d:Nat):Option Int->Nat
 |none=>d|some i=>if 0<=i then min i.toNat n else(i+n).toNat
def aep(Z:List D)(G R:Option Int):List D:=(Z.drop (clip Z.length 0 G)).take (clip Z.length Z.length R-clip Z.length 0 G)
noncomputable def axp:List Int->Option Int
 |[]=>none|a::r=>some (r.foldl (λm x=>if m<x then x else m) a)
noncomputable def a3u:List Int->Option Int
 |[]=>none|a::r=>some (r.foldl (λm x=>if x<m then x else m) a)
noncomputable def insI(x:Int):List Int->List Int
 |[]=>[x]|y::ys=>if x<y then x::y::ys else y::insI x ys
def sortI(Z:X9):List Int:=Z.foldr insI []
noncomputable def ug:List Int->List Int
 |[]=>[]|x::xs=>if x∈xs then ug xs else x::ug xs
noncomputable def Cz{G:Type}[DecidableEq G](R:List (G×D))(k:G)(v:D):List (G×D) :=
 if(R.any λZ=>decide (Z.1=k))=true then R.map (λZ=>if Z.1=k then(Z.1,v) else Z) else R++[(k,v)]
noncomputable def new(o:MO)(M:dg):Res D:=.ok (.ref M.length) (M++[o])
def alf(a b:D)(M:dg):Res D :=
 match a,b with
 |.int i,.int j=>.ok (.int (i+j)) M
 |x,y=>match gm M x,gm M y with
  |some xs,some ys=>if xs.length+ys.length<=100000 then .ok (.vl (xs++ys)) M else .bad
  |_,_=>.bad
noncomputable def ii{α:Type}(x y:D)(f:Int->Int->α)(z:α):α:=match x with|.int i=>(match y with|.int j=>f i j|_=>z)|_=>z
def Zb(h:ii x y f z=r)(Z:z≠r):∃i j,x=.int i/\y=.int j/\f i j=r:=by
 cases x with
 |int i=>cases y with
  |int j=>exact⟨i,j,rfl,rfl,h⟩|_=>exact absurd h Z
 |_=>exact absurd h Z
@[simp] def bbm(i j:Int)(f:Int->Int->α)(z:α):ii (.int i) (.int j) f z=f i j:=rfl
def a3v(a b:D)(M:dg):Res D:=ii a b (λi j=>.ok (.int (i-j)) M) .bad
def alg(a b:D)(M:dg):Res D:=match a with
 |.tup [d]=>(match b with|.int n=>if 0<=n/\n<=100000 then .ok (.tup (List.replicate n.toNat d)) M else .bad|_=>.bad)
 |_=>ii a b (λi j=>if(-(2 ^ 64)<i/\i<2 ^ 64)\/(-(2 ^ 64)<j/\j<2 ^ 64) then .ok (.int (i*j)) M else .bad) .bad
def axq(a b:D)(M:dg):Res D:=ii a b (λi j=>if 0<j/\j<1073741824 then .ok (.int (i / j)) M else .bad) .bad
def a3w(a b:D)(M:dg):Res D:=ii a b (λi j=>if 0<j then .ok (.int (i%j)) M else .bad) .bad
def avz(a b:D)(M:dg):Res D:=ii a b (λi j=>if 0<=j/\j<=64/\i.natAbs<2 ^ 64 then .ok (.int (i ^ j.toNat)) M else .bad) .bad
def Ey(Z:Op2):D->D->dg->Res D :=
 match Z with
 |.add=>alf|.sub=>a3v|.mul=>alg|.fdiv=>axq|.mod=>a3w|.pow=>avz
def Qp(M:dg)(a b:D):Option Bool :=
 match b with
 |.ref n=>match M[n]? with
  |some (.dT jn)=>(aa7 a).map λk=>(wg jn k).isSome
  |some (.dK jn)=>(Vj a).map λk=>(wg jn k).isSome
  |_=>(yd M b).bind (memD M a)
 |_=>(yd M b).bind (memD M a)
noncomputable def aeq(a b:D):Option Bool:=match b with
 |.non=>(match a with|.non=>some true|.tup _=>some false|.vl _=>some false|_=>none)
 |.bl y=>(match a with|.bl x=>some (x==y)|_=>none)
 |_=>none
def aa8(f:Int->Int->Bool)(a b:D):Option Bool:=ii a b (λi j=>some (f i j)) none
def Hb(Z:Cp)(a b:D)(M:dg):Option Bool :=
 match Z with
 |.lt=>aa8 (λi j=>decide (i<j)) a b
 |.le=>aa8 (λi j=>decide (i<=j)) a b
 |.gt=>aa8 (λi j=>decide (j<i)) a b
 |.ge=>aa8 (λi j=>decide (j<=i)) a b
 |.eq=>ym M a b|.ne=>(ym M a b).map not|.inn=>Qp M a b|.T4=>(Qp M a b).map not|.is=>aeq a b|.Xo=>(aeq a b).map not
def Ak(a b:D)(M:dg):Option D :=
 match a with
 |.ref n=>match M[n]? with
  |some (.dT jn)=>(aa7 b).bind (wg jn)|some (.dK jn)=>(Vj b).bind (wg jn)
  |_=>match gm M a,b with
   |some ds,.int i=>(Mi ds.length i).bind λj=>ds[j]?
   |_,_=>none
 |.fz ds=>match b with
  |.int i=>(Mi ds.length i).bind λj=>ds[j]?
  |_=>none
 |_=>match yd M a,b with
  |some ds,.int i=>(Mi ds.length i).bind λj=>ds[j]?
  |_,_=>none
def aa9(a:D)(Z G:Option Int)(M:dg):Option D:=(gm M a).map λR=>.vl (aep R Z G)
noncomputable def allB:List D->Option Bool
 |[]=>some true|.bl b::r=>(allB r).map (b&&·)|_::_=>none
noncomputable def Mr(M:dg):D->Res D
 |.ref n=>match M[n]? with
  |some (.lst ds)=>.ok (.int ds.length) M|_=>.bad
 |.fz ds=>.ok (.int ds.length) M|.tup ds=>.ok (.int ds.length) M|.vl ds=>.ok (.int ds.length) M|_=>.bad
def age(M:dg):D->Res D
 |.ref n=>match M[n]? with
  |some (.dK jn)=>new (.dK jn) M|_=>.bad
 |_=>.bad
noncomputable def isT:D->Option Bool
 |.tup _=>some true|_=>none
def two(Z:List D)(f:Int->Int->Int)(g:D->Option Int)(M:dg):Res D :=
 match Z with
 |[a,b]=>(match a,b with|.int i,.int j=>.ok (.int (f i j)) M|_,_=>.bad)
 |[d]=>Res.vo ((g d).map D.int) M|_=>.bad
noncomputable def Mj(Z:List D)(g:D->Res D):Res D :=
 match Z with
 |[d]=>g d|_=>.bad
def qm(b:Blt)(Z:List D)(M:dg):Res D :=
 match b with
 |.len=>Mj Z (Mr M)|.tuple=>Mj Z λd=>Res.vo ((yd M d).map D.tup) M
 |.max=>two Z (λi j=>if i<j then j else i) (λd=>((gm M d).bind Uq).bind axp) M
 |.min=>two Z (λi j=>if j<i then j else i) (λd=>((gm M d).bind Uq).bind a3u) M
 |.De=>Mj Z λd=>Res.vo (((yd M d).bind Uq).bind λis=>if is.length<31 then some (D.vl ((sortI (ug is)).map D.int)) else none) M
 |.Gn=>Mj Z λd=>Res.vo (((yd M d).bind Uq).bind λis=>if is.length<31 then some (D.int ((ug is).length:Nat)) else none) M
 |.list=>Mj Z λd=>match yd M d with
  |some G=>new (.lst G) M|none=>.bad
 |.isBool=>Mj Z λd=>match d with|.bl _=>.ok (.bl true) M|_=>.bad
 |.isE k=>Mj Z λd=>match d with
  |.ref n=>match M[n]? with
   |some (.exc c)=>.ok (.bl (k==0||c==k)) M
   |_=>.bad
  |_=>.bad
 |.dict=>Mj Z (age M)|.all=>Mj Z λd=>Res.vo (((gm M d).bind allB).map D.bl) M
 |.isTuple=>Mj Z λd=>Res.vo ((isT d).map D.bl) M
def Jo(m:Bm)(x:D)(M:dg):Bool :=
 match m,x with
 |.append,.ref n=>match M[n]? with|some (.lst _)=>true|_=>false
 |.pop,.ref n=>match M[n]? with|some (.lst _)=>true|_=>false
 |.index,x=>(gm M x).isSome|.Hq,.tup _=>true|.get,.ref n=>match M[n]? with|some (.dK _)=>true|_=>false
 |_,_=>false
def Ep(m:Bm)(o:D)(Z:List D)(M:dg):Res D :=
 match m,o,Z with
 |.append,.ref n,[d]=>match M[n]? with
  |some (.lst xs)=>if xs.length<100000 then .ok .non (M.set n (.lst (xs++[d]))) else .bad
  |_=>.bad
 |.pop,.ref n,[.int i]=>match M[n]? with
  |some (.lst xs)=>match(Mi xs.length i).bind λj=>(xs[j]?).map λd=>(j,d) with
   |some (j,d)=>.ok d (M.set n (.lst (xs.eraseIdx j)))|none=>.bad
  |_=>.bad
 |.index,o,[d]=>Res.vo (((yd M o).bind (Qo M d)).map λj=>D.int (j:Int)) M
 |.Hq,.tup xs,[d]=>Res.vo ((Qo M d xs).map λj=>D.int (j:Int)) M
 |.get,.ref n,[k,d]=>match M[n]? with
  |some (.dK jn)=>Res.vo ((Vj k).map λq=>(wg jn q).getD d) M
  |_=>.bad
 |_,_,_=>.bad
def setOp(o i v:D)(M:dg):Option dg :=
 match o with
 |.ref n=>match M[n]? with
  |some (.lst xs)=>match i with
   |.int j=>(Mi xs.length j).map λq=>M.set n (.lst (xs.set q v))
   |_=>none
  |some (.dT jn)=>(aa7 i).bind λk=>if jn.length<100000 then some (M.set n (.dT (Cz jn k v))) else none
  |some (.dK jn)=>(Vj i).bind λk=>if jn.length<100000 then some (M.set n (.dK (Cz jn k v))) else none
  |_=>none
 |_=>none
inductive Src where
 |con (ds:List D)|live (n:Nat) (len:Nat)
noncomputable def Src.len:Src->Nat
 |.con ds=>ds.length|.live _ k=>k
noncomputable def Src.item(s:Src)(i:Nat)(M:dg):Option D :=
 match s with
 |.con ds=>ds[i]?
 |.live n k=>match M[n]? with
  |some (.lst ds)=>if ds.length=k then ds[i]? else none
  |_=>none
noncomputable def Src.fin(s:Src)(M:dg):Bool :=
 match s with
 |.con _=>true
 |.live n k=>match M[n]? with
  |some (.lst ds)=>ds.length==k|_=>false
noncomputable def srcOf(M:dg)(d:D):Option Src :=
 match d with
 |.tup ds=>some (.con ds)|.vl ds=>some (.con ds)
 |.ref n=>match M[n]? with
  |some (.lst ds)=>some (.live n ds.length)|_=>none
 |_=>none
inductive Flow where
 |next|brk|cont|ret (d:D)|err (c:Nat)
noncomputable def Px:List Nat->List D->Env->Env
 |i::is,d::ds,ρ=>Px is ds (ρ.set i (some d))|_,_,ρ=>ρ
def Tg.put(t:Tg)(d:D)(Z:Env):Option Env :=
 match t with
 |.name i=>some (Z.set i (some d))
 |.names is=>match d with
  |.tup ds=>if ds.length=is.length then some (Px is ds Z) else none
  |_=>none
structure Gf where
 call:Nat->List D->dg->Res D
 cae:Nat->List D->dg->Option (Nat×dg)
 rfd:Nat->dg->Res D
def Bu(fin:dg->Bool)(item:Nat->dg->Option D)(Z:D->Env->dg->Res (Flow×Env)):Nat->Nat->Env->dg->Res (Flow×Env)
 |0,_,ρ,M=>if fin M then .ok (.next,ρ) M else .bad
 |k+1,i,ρ,M=>match item i M with
  |none=>.bad
  |some d=>(Z d ρ M).bind λr G=>match r.1 with
   |.next=>Bu fin item Z k (i+1) r.2 G|.cont=>Bu fin item Z k (i+1) r.2 G|.brk=>.ok (.next,r.2) G|.ret v=>.ok (.ret v,r.2) G|.err c=>.ok (.err c,r.2) G
def Dm(fin:dg->Bool)(item:Nat->dg->Option D)(Z:D->dg->Res (Option D)):Nat->Nat->dg->Res (List D)
 |0,_,M=>if fin M then .ok [] M else .bad
 |k+1,i,M=>match item i M with
  |none=>.bad|some d=>(Z d M).bind λo M1=>(Dm fin item Z k (i+1) M1).bind λG R=>.ok (match o with|some x=>x::G|none=>G) R
def zp(s:Src)(Z:D->dg->Res (Option D))(M:dg):Res (List D):=if s.len<=100000 then Dm s.fin s.item Z s.len 0 M else .bad
def Ft(c:Env->dg->Res D)(Z:Env->dg->Res (Flow×Env)):Nat->Env->dg->Res (Flow×Env)
 |0,_,_=>.bad
 |k+1,ρ,M=>(c ρ M).bind λb R=>match b with
  |.bl false=>.ok (.next,ρ) R
  |.bl true=>(Z ρ R).bind λr G=>match r.1 with
   |.next=>Ft c Z k r.2 G|.cont=>Ft c Z k r.2 G|.brk=>.ok (.next,r.2) G|.ret v=>.ok (.ret v,r.2) G|.err c=>.ok (.err c,r.2) G
  |_=>.bad
noncomputable def aer:Nat:=1000000
noncomputable def Py:List D->Option (List (List D))
 |[]=>some []|.tup l::r=>(Py r).map (l::·)|_::_=>none
noncomputable def Ms(Z:List (List D))(n:Nat):List D:=(List.range n).map λi=>.tup (Z.map λl=>l.getD i .non)
noncomputable def Hs(Z:List D):Nat->List D:=λn=>(Z.zipIdx n).map λp=>D.tup [.int p.2,p.1]
mutual
def Ex.den(W:Gf):Ex->Env->dg->Res D
 |.var i,ρ,M=>match ρ[i]? with
  |some (some d)=>.ok d M|_=>.bad
 |.cst d,_,M=>.ok d M|.bin op a b,ρ,M=>(a.den W ρ M).bind λx Z=>(b.den W ρ Z).bind λy G=>Ey op x y G
 |.neg a,ρ,M=>(a.den W ρ M).bind λx Z=>match x with|.int i=>.ok (.int (-i)) Z|_=>.bad
 |.cmp op a b,ρ,M=>(a.den W ρ M).bind λx Z=>(b.den W ρ Z).bind λy G=>Res.vo ((Hb op x y G).map D.bl) G
 |.and a b,ρ,M=>(a.den W ρ M).bind λx Z=>match x with|.bl true=>b.den W ρ Z|.bl false=>.ok (.bl false) Z|_=>.bad
 |.or a b,ρ,M=>(a.den W ρ M).bind λx Z=>match x with|.bl true=>.ok (.bl true) Z|.bl false=>b.den W ρ Z|_=>.bad
 |.not a,ρ,M=>(a.den W ρ M).bind λx Z=>match x with|.bl b=>.ok (.bl !b) Z|_=>.bad
 |.ite c a b,ρ,M=>(c.den W ρ M).bind λx Z=>match x with|.bl true=>a.den W ρ Z|.bl false=>b.den W ρ Z|_=>.bad
 |.tup es,ρ,M=>(es.den W ρ M).bind λR Z=>.ok (.tup R) Z
 |.lst es,ρ,M=>(es.den W ρ M).bind λR Z=>new (.lst R) Z
 |.Hr es,ρ,M=>(es.den W ρ M).bind λR Z=>.ok (.vl R) Z
 |.aij,_,M=>new (.dT []) M|.Za,_,M=>new (.dK []) M|.ix a b,ρ,M=>(a.den W ρ M).bind λx Z=>(b.den W ρ Z).bind λy G=>Res.vo (Ak x y G) G
 |.cut a lo hi,ρ,M=>(a.den W ρ M).bind λx Z=>(lo.den W ρ Z).bind λl G=>(hi.den W ρ G).bind λh M3=>Res.vo (aa9 x l h M3) M3
 |.call f es,ρ,M=>(es.den W ρ M).bind λR Z=>W.call f R Z
 |.aik f es,ρ,M=>(es.den W ρ M).bind λR Z=>match W.cae f R Z with
  |some (c,G)=>W.rfd c G|none=>.bad
 |.blt b es,ρ,M=>(es.den W ρ M).bind λR Z=>qm b R Z
 |.bm m o es,ρ,M=>(o.den W ρ M).bind λx Z=>if Jo m x Z then(es.den W ρ Z).bind λR G=>Ep m x R G else .bad
 |.comp v k t it e,ρ,M=>(it.den W ρ M).bind λs Z =>
  (zp s (λd M=>match t.put d (ρ++List.replicate k none) with
   |some qq=>(e.den W qq M).bind λx M'=>.ok (some x) M'
   | none=>.bad) Z).bind λR G=>if v then .ok (.vl R) G else new (.lst R) G
 |.Eb v k t it c e,ρ,M=>(it.den W ρ M).bind λs Z =>
  (zp s (λd M=>match t.put d (ρ++List.replicate k none) with
   |some qq=>(c.den W qq M).bind λb M'=>match b with
    |.bl true=>(e.den W qq M').bind λx qk=>.ok (some x) qk
    |.bl false=>.ok none M'|_=>.bad
   | none=>.bad) Z).bind λR G=>if v then .ok (.vl R) G else new (.lst R) G
 |.aeo e,ρ,M=>(e.den W ρ M).bind λx Z=>match x with
  |.int i=>if i.natAbs<=100000 then .ok (.tup ((List.range i.toNat).map λ(k:Nat)=>D.int (k:Int))) Z else .bad
  |_=>.bad
 |.Uo e,ρ,M=>(e.den W ρ M).bind λx Z=>match x with
  |.int i=>if i.natAbs<=100000 then new (.lst ((List.range i.toNat).map λ(k:Nat)=>D.int (k:Int))) Z else .bad
  |_=>.bad
def Dn.den(W:Gf):Dn->Env->dg->Res (List D)
 |.nil,_,M=>.ok [] M|.cons e es,ρ,M=>(e.den W ρ M).bind λx G=>(es.den W ρ G).bind λR Z=>.ok (x::R) Z
def OEx.den(W:Gf):OEx->Env->dg->Res (Option Int)
 |.none,_,M=>.ok none M|.some e,ρ,M=>(e.den W ρ M).bind λx Z=>match x with|.int i=>.ok (some i) Z|_=>.bad
def Mq.den(W:Gf):Mq->Env->dg->Res Src
 |.val e,ρ,M=>(e.den W ρ M).bind λx Z=>Res.vo (srcOf Z x) Z
 |.Jg e,ρ,M=>(e.den W ρ M).bind λx Z=>match x with
  |.int i=>if i.natAbs<=100000 then .ok (.con ((List.range i.toNat).map λ(k:Nat)=>D.int (k:Int))) Z else .bad
  |_=>.bad
 |.enm e,ρ,M=>(e.den W ρ M).bind λx Z=>match x with
  |.tup G=>.ok (.con (Hs G 0)) Z|.vl G=>.ok (.con (Hs G 0)) Z|_=>.bad
 |.zip es,ρ,M=>(es.den W ρ M).bind λG Z=>match Py G with
  |some (l::r)=>if(r.all λx=>x.length==l.length)=true then .ok (.con (Ms (l::r) l.length)) Z else .bad
  |_=>.bad
end
def Lv.put(W:Gf)(l:Lv)(d:D)(Z:Env)(M:dg):Res Env :=
 match l with
 |.tg t=>Res.vo (t.put d Z) M|.sub o i=>(o.den W Z M).bind λx M1=>(i.den W Z M1).bind λy G=>(Res.vo (setOp x y d G) G).bind λR _=>.ok Z R
mutual
def Cu.den(W:Gf):Cu->Env->dg->Res (Flow×Env)
 |.asg l e,Z,M=>(e.den W Z M).bind λx G=>(l.put W x Z G).bind λR M2=>.ok (.next,R) M2
 |.expr e,Z,M=>(e.den W Z M).bind λ_ G=>.ok (.next,Z) G
 |.iff c a b,Z,M=>(c.den W Z M).bind λx G=>match x with|.bl true=>a.den W Z G|.bl false=>b.den W Z G|_=>.bad
 |.whl c b,Z,M=>Ft (c.den W) (b.den W) aer Z M
 | .for_ t it b,Z,M=>(it.den W Z M).bind λs G=>Bu s.fin s.item (λd Z M=>match t.put d Z with
  | some R=>b.den W R M|none=>.bad) s.len 0 Z G
 |.ret e,Z,M=>(e.den W Z M).bind λx G=>.ok (.ret x,Z) G
 |.brk,Z,M=>.ok (.brk,Z) M|.raise c,Z,M=>.ok (.err c,Z) M
def rm.den(W:Gf):rm->Env->dg->Res (Flow×Env)
 |.nil,ρ,M=>.ok (.next,ρ) M
 |.cons s r,ρ,M=>(s.den W ρ M).bind λp Z=>match p.1 with
  |.next=>r.den W p.2 Z|.brk=>.ok (.brk,p.2) Z|.cont=>.ok (.cont,p.2) Z|.ret d=>.ok (.ret d,p.2) Z|.err c=>.ok (.err c,p.2) Z
end
structure Prog where
 fns:List Fn
 rf:Fn
def Fn.run(W:Gf)(f:Fn)(Z:List D)(M:dg):Res D :=
 if Z.length=f.np then
  (f.body.den W (Z.map some++List.replicate (f.ns-f.np) none) M).bind λp G=>match p.1 with
   |.ret d=>.ok d G|.next=>.ok .non G|_=>.bad
 else .bad
def Fn.aba(W:Gf)(f:Fn)(Z:List D)(M:dg):Option (Nat×dg) :=
 if Z.length=f.np then
  match f.body.den W (Z.map some++List.replicate (f.ns-f.np) none) M with
  |.ok (.err c,_) M1=>some (c,M1)|_=>none
 else none
def Fn.aim(W:Gf)(f:Fn)(c:Nat)(M:dg):Res D :=
 (f.body.den W (none::some (.ref M.length)::List.replicate (f.ns-2) none) (M++[.exc c])).bind λp Z=>match p.1 with
  |.ret d=>.ok d Z|_=>.bad
def Prog.Ql(P:Prog):Nat->Gf
 |0=>⟨λ_ _ _=>.bad,λ_ _ _=>none,λ_ _=>.bad⟩
 | n+1=>⟨λf Z M=>match P.fns[f]? with
  |some F=>F.run (P.Ql n) Z M|none=>.bad,λf Z M=>match P.fns[f]? with
  | some F=>F.aba (P.Ql n) Z M|none=>none,λc M=>P.rf.aim (P.Ql n) c M⟩
def Prog.call(P:Prog)(n:Nat):Nat->List D->dg->Res D:=(P.Ql n).call
def Prog.cae(P:Prog)(n:Nat):Nat->List D->dg->Option (Nat×dg):=(P.Ql n).cae
def Prog.rfd(P:Prog)(n:Nat):Nat->dg->Res D:=(P.Ql n).rfd
@[simp] def agf(i:Nat):(Ex.var i).den W Z M=match Z[i]? with|some (some d)=>.ok d M|_=>.bad:=rfl
@[simp high] theorem bbn(d:D)(r:Env):(Ex.var 0).den W (some d::r) M=.ok d M:=rfl
@[simp high] theorem bbo(Z:Option D)(d:D)(r:Env):(Ex.var 1).den W (Z::some d::r) M=.ok d M:=rfl
@[simp high] theorem bbp(G Z:Option D)(d:D)(r:Env):(Ex.var 2).den W (G::Z::some d::r) M=.ok d M:=rfl
@[simp high] theorem bbq(G Z R:Option D)(d:D)(r:Env):(Ex.var 3).den W (G::Z::R::some d::r) M=.ok d M:=rfl
@[simp high] theorem bbr(R Z a2 G:Option D)(d:D)(r:Env):(Ex.var 4).den W (R::Z::a2::G::some d::r) M=.ok d M:=rfl
@[simp high] theorem bbs(a0 R G Z a4:Option D)(d:D)(r:Env):(Ex.var 5).den W (a0::R::G::Z::a4::some d::r) M=.ok d M:=rfl
@[simp high] theorem bbt(a0 R G Z a4 a5:Option D)(d:D)(r:Env):(Ex.var 6).den W (a0::R::G::Z::a4::a5::some d::r) M=.ok d M:=rfl
@[simp high] theorem bbu(a0 a1 G Z a4 a5 R:Option D)(d:D)(r:Env):(Ex.var 7).den W (a0::a1::G::Z::a4::a5::R::some d::r) M=.ok d M:=rfl
@[simp high] theorem bbv(a0 a1 R G a4 a5 a6 Z:Option D)(d:D)(r:Env):(Ex.var 8).den W (a0::a1::R::G::a4::a5::a6::Z::some d::r) M=.ok d M:=rfl
@[simp high] theorem bbw(a0 a1 R G a4 a5 a6 Z a8:Option D)(d:D)(r:Env):(Ex.var 9).den W (a0::a1::R::G::a4::a5::a6::Z::a8::some d::r) M=.ok d M:=rfl
@[simp high] theorem a93(a0 a1 R G a4 a5 a6 Z a8 a9:Option D)(d:D)(r:Env):(Ex.var 10).den W (a0::a1::R::G::a4::a5::a6::Z::a8::a9::some d::r) M=.ok d M:=rfl
@[simp high] theorem a94(a0 a1 a2 R a4 a5 a6 G a8 a9 Z:Option D)(d:D)(r:Env):(Ex.var 11).den W (a0::a1::a2::R::a4::a5::a6::G::a8::a9::Z::some d::r) M=.ok d M:=rfl
@[simp high] theorem a95(a0 a1 a2 a3 a4 a5 a6 R a8 a9 G Z:Option D)(d:D)(r:Env):(Ex.var 12).den W (a0::a1::a2::a3::a4::a5::a6::R::a8::a9::G::Z::some d::r) M=.ok d M:=rfl
@[simp] def Qq(d:D):(Ex.cst d).den W Z M=.ok d M:=rfl
@[simp] def ara(Z:Op2)(a b:Ex):(Ex.bin Z a b).den W G M=(a.den W G M).bind λx R=>(b.den W G R).bind λy M2=>Ey Z x y M2:=rfl
@[simp] def arb(a:Ex):(Ex.neg a).den W Z M=(a.den W Z M).bind λx G=>match x with|.int i=>.ok (.int (-i)) G|_=>.bad:=rfl
@[simp] def agg(Z:Cp)(a b:Ex):(Ex.cmp Z a b).den W G M=(a.den W G M).bind λx R=>(b.den W G R).bind λy M2=>Res.vo ((Hb Z x y M2).map D.bl) M2:=rfl
def agh(a b:Ex):(Ex.and a b).den W Z M=(a.den W Z M).bind λx G=>match x with|.bl true=>b.den W Z G|.bl false=>.ok (.bl false) G|_=>.bad:=rfl
def alh(a b:Ex):(Ex.or a b).den W Z M=(a.den W Z M).bind λx G=>match x with|.bl true=>.ok (.bl true) G|.bl false=>b.den W Z G|_=>.bad:=rfl
@[simp] def agi(a:Ex):(Ex.not a).den W Z M=(a.den W Z M).bind λx G=>match x with|.bl b=>.ok (.bl !b) G|_=>.bad:=rfl
def arc(c a b:Ex):(Ex.ite c a b).den W Z M=(c.den W Z M).bind λx G=>match x with|.bl true=>a.den W Z G|.bl false=>b.den W Z G|_=>.bad:=rfl
@[simp] def ard(Z:Dn):(Ex.tup Z).den W R M=(Z.den W R M).bind λG M1=>.ok (.tup G) M1:=rfl
@[simp] def arf(Z:Dn):(Ex.lst Z).den W R M=(Z.den W R M).bind λG M1=>new (.lst G) M1:=rfl
@[simp] def ali(Z:Dn):(Ex.Hr Z).den W R M=(Z.den W R M).bind λG M1=>.ok (.vl G) M1:=rfl
@[simp] def alj:Ex.aij.den W Z M=new (.dT []) M:=rfl
@[simp] def alk:Ex.Za.den W Z M=new (.dK []) M:=rfl
@[simp] def axr(a b:Ex):(Ex.ix a b).den W Z M=(a.den W Z M).bind λx G=>(b.den W Z G).bind λy M2=>Res.vo (Ak x y M2) M2:=rfl
@[simp] def arh(a:Ex)(G R:OEx):(Ex.cut a G R).den W Z M=(a.den W Z M).bind λx M1=>(G.den W Z M1).bind λl M2=>(R.den W Z M2).bind λh M3=>Res.vo (aa9 x l h M3) M3:=rfl
@[simp] def alm(f:Nat)(Z:Dn):(Ex.call f Z).den W R M=(Z.den W R M).bind λG M1=>W.call f G M1:=rfl
@[simp] theorem aln(f:Nat)(Z:Dn):(Ex.aik f Z).den W R M=(Z.den W R M).bind λG M1=>match W.cae f G M1 with
 |some (c,M2)=>W.rfd c M2|none=>.bad:=rfl
@[simp] def Jh(b:Blt)(Z:Dn):(Ex.blt b Z).den W R M=(Z.den W R M).bind λG M1=>qm b G M1:=rfl
@[simp] def aes(m:Bm)(o:Ex)(Z:Dn):(Ex.bm m o Z).den W G M=(o.den W G M).bind λx R=>if Jo m x R then(Z.den W G R).bind λds M2=>Ep m x ds M2 else .bad:=rfl
@[simp] theorem alo{W:Gf}{Z:Env}{M:dg}(e:Ex):(Ex.aeo e).den W Z M=(e.den W Z M).bind λx G=>match x with
 |.int i=>if i.natAbs<=100000 then .ok (.tup ((List.range i.toNat).map λ(k:Nat)=>D.int (k:Int))) G else .bad
 |_=>.bad:=rfl
@[simp] theorem abb{W:Gf}{Z:Env}{M:dg}(e:Ex):(Ex.Uo e).den W Z M=(e.den W Z M).bind λx G=>match x with
 |.int i=>if i.natAbs<=100000 then new (.lst ((List.range i.toNat).map λ(k:Nat)=>D.int (k:Int))) G else .bad
 |_=>.bad:=rfl
def Mt(v:Bool)(k:Nat)(t:Tg)(it:Mq)(e:Ex):(Ex.comp v k t it e).den W G M=(it.den W G M).bind λs M1 =>
 (zp s (λd M=>match t.put d (G++List.replicate k none) with
  |some Z=>(e.den W Z M).bind λx M'=>.ok (some x) M'
  | none=>.bad) M1).bind λR M2=>if v then .ok (.vl R) M2 else new (.lst R) M2:=rfl
def Vk(v:Bool)(k:Nat)(t:Tg)(it:Mq)(c e:Ex):(Ex.Eb v k t it c e).den W ρ M=(it.den W ρ M).bind λs M1 =>
 (zp s (λd M=>match t.put d (ρ++List.replicate k none) with
  |some Z=>(c.den W Z M).bind λb R=>match b with
   |.bl true=>(e.den W Z R).bind λx G=>.ok (some x) G
   |.bl false=>.ok none R|_=>.bad
  | none=>.bad) M1).bind λds M2=>if v then .ok (.vl ds) M2 else new (.lst ds) M2:=rfl
@[simp] def Mu:Dn.nil.den W Z M=.ok [] M:=rfl
@[simp] def Bl(e:Ex)(Z:Dn):(Dn.cons e Z).den W G M=(e.den W G M).bind λx R=>(Z.den W G R).bind λxs M2=>.ok (x::xs) M2:=rfl
@[simp] def ain:OEx.none.den W Z M=.ok none M:=rfl
@[simp] def aio(e:Ex):(OEx.some e).den W Z M=(e.den W Z M).bind λx G=>match x with|.int i=>.ok (some i) G|_=>.bad:=rfl
@[simp] def Ji(e:Ex):(Mq.val e).den W Z M=(e.den W Z M).bind λx M1=>Res.vo (srcOf M1 x) M1:=rfl
@[simp] theorem Kq{W:Gf}{Z:Env}{M:dg}(e:Ex):(Mq.Jg e).den W Z M=(e.den W Z M).bind λx G=>match x with
 |.int i=>if i.natAbs<=100000 then .ok (.con ((List.range i.toNat).map λ(k:Nat)=>D.int (k:Int))) G else .bad
 |_=>.bad:=rfl
@[simp] theorem agj{W:Gf}{Z:Env}{M:dg}(e:Ex):(Mq.enm e).den W Z M=(e.den W Z M).bind λx G=>match x with
 |.tup ds=>.ok (.con (Hs ds 0)) G|.vl ds=>.ok (.con (Hs ds 0)) G|_=>.bad:=rfl
@[simp] theorem ari(Z:Dn):(Mq.zip Z).den W R M=(Z.den W R M).bind λG M1=>match Py G with
 |some (l::r)=>if(r.all λx=>x.length==l.length)=true then .ok (.con (Ms (l::r) l.length)) M1 else .bad
 |_=>.bad:=rfl
@[simp] def Vl(l:Lv)(e:Ex):(Cu.asg l e).den W G M=(e.den W G M).bind λx R=>(l.put W x G R).bind λZ M2=>.ok (.next,Z) M2:=rfl
@[simp] def arj(e:Ex):(Cu.expr e).den W Z M=(e.den W Z M).bind λ_ M1=>.ok (.next,Z) M1:=rfl
def axs(c:Ex)(a b:rm):(Cu.iff c a b).den W Z M=(c.den W Z M).bind λx G=>match x with|.bl true=>a.den W Z G|.bl false=>b.den W Z G|_=>.bad:=rfl
@[simp] def axt(e:Ex):(Cu.ret e).den W Z M=(e.den W Z M).bind λx M1=>.ok (.ret x,Z) M1:=rfl
@[simp] def axu:Cu.brk.den W Z M=.ok (.brk,Z) M:=rfl
@[simp] def alp(c:Nat):(Cu.raise c).den W Z M=.ok (.err c,Z) M:=rfl
def Zc(c:Ex)(b:rm):(Cu.whl c b).den W Z M=Ft (c.den W) (b.den W) aer Z M:=rfl
def Sg(t:Tg)(it:Mq)(b:rm):(Cu.for_ t it b).den W Z M=(it.den W Z M).bind λs M1=>Bu s.fin s.item (λd Z M=>match t.put d Z with
 | some G=>b.den W G M|none=>.bad) s.len 0 Z M1:=rfl
@[simp] def ark:rm.nil.den W Z M=.ok (.next,Z) M:=rfl
theorem alq{W:Gf}{Z:Env}{M:dg}(s:Cu)(r:rm):(rm.cons s r).den W Z M=(s.den W Z M).bind λp M1=>match p.1 with
 |.next=>r.den W p.2 M1|.brk=>.ok (.brk,p.2) M1|.cont=>.ok (.cont,p.2) M1|.ret d=>.ok (.ret d,p.2) M1|.err c=>.ok (.err c,p.2) M1:=rfl
def aet(W:Gf)(r:rm)(x:Res (Flow×Env)):Res (Flow×Env):=x.bind λp Z=>match p.1 with
 |.next=>r.den W p.2 Z|.brk=>.ok (.brk,p.2) Z|.cont=>.ok (.cont,p.2) Z|.ret d=>.ok (.ret d,p.2) Z|.err c=>.ok (.err c,p.2) Z
@[simp] def Kr(s:Cu)(r:rm):(rm.cons s r).den W Z M=aet W r (s.den W Z M):=rfl
@[simp] def Jz(r:rm):aet W r (.ok (.next,Z) M)=r.den W Z M:=rfl
@[simp] def a96(r:rm):aet W r (.ok (.brk,Z) M)=.ok (.brk,Z) M:=rfl
@[simp] def a3x(r:rm):aet W r (.ok (.cont,Z) M)=.ok (.cont,Z) M:=rfl
@[simp] def a97(r:rm)(d:D):aet W r (.ok (.ret d,Z) M)=.ok (.ret d,Z) M:=rfl
@[simp] def a98(r:rm)(c:Nat):aet W r (.ok (.err c,Z) M)=.ok (.err c,Z) M:=rfl
def ifK{α:Type}(a b:dg->Res α)(x:Res D):Res α:=x.bind λx Z=>match x with|.bl true=>a Z|.bl false=>b Z|_=>.bad
@[simp] def a3y(c:Ex)(a b:rm):(Cu.iff c a b).den W Z M=ifK (a.den W Z) (b.den W Z) (c.den W Z M):=rfl
@[simp] def bbx(c a b:Ex):(Ex.ite c a b).den W Z M=ifK (a.den W Z) (b.den W Z) (c.den W Z M):=rfl
@[simp] def alr(a b:Ex):(Ex.and a b).den W Z M=ifK (b.den W Z) (.ok (.bl false)) (a.den W Z M):=rfl
@[simp] def bf4(a b:Ex):(Ex.or a b).den W Z M=ifK (.ok (.bl true)) (b.den W Z) (a.den W Z M):=rfl
@[simp] def av1(a b:dg->Res α):ifK a b (.ok (.bl true) M)=a M:=rfl
@[simp] def bf5(a b:dg->Res α):ifK a b (.ok (.bl false) M)=b M:=rfl
@[simp] def als(t:Tg)(d:D):(Lv.tg t).put W d Z M=Res.vo (t.put d Z) M:=rfl
@[simp] def arl(o i:Ex)(d:D):(Lv.sub o i).put W d Z M=(o.den W Z M).bind λx R=>(i.den W Z R).bind λy G=>(Res.vo (setOp x y d G) G).bind λM3 _=>.ok Z M3:=rfl
@[simp] def axv(i:Nat)(d:D):(Tg.name i).put d Z=some (Z.set i (some d)):=rfl
@[simp] def av2(is:Y2)(Z:List D)(h:Z.length=is.length):(Tg.names is).put (.tup Z) G=some (Px is Z G):=by simp[Tg.put,h]
@[simp] def av3(i:Nat)(is:Y2)(d:D)(Z:List D):Px (i::is) (d::Z) G=Px is Z (G.set i (some d)):=rfl
@[simp] def axw(Z:List D):Px [] Z ρ=ρ:=by cases Z<;>rfl
@[simp] def a3z(i j:Int):Ey .add (.int i) (.int j) M=.ok (.int (i+j)) M:=rfl
@[simp] def a4a(i j:Int):Ey .sub (.int i) (.int j) M=.ok (.int (i-j)) M:=rfl
def Mv(i j:Int)(h:(-(2 ^ 64)<i/\i<2 ^ 64)\/(-(2 ^ 64)<j/\j<2 ^ 64)):Ey .mul (.int i) (.int j) M=.ok (.int (i*j)) M:=dh h
def Xp(i j:Int)(h:0<j)(Z:j<1073741824):Ey .fdiv (.int i) (.int j) M=.ok (.int (i / j)) M:=dh ⟨h,Z⟩
@[simp] def alu(i j:Int)(h:0<j):Ey .mod (.int i) (.int j) M=.ok (.int (i%j)) M:=dh h
@[simp] def axx:Ey .pow (.int 10) (.int 18) M=.ok (.int (10 ^ 18)) M:=by simp[Ey,avz]
def Xq(xs ys:List D)(h:xs.length+ys.length<=100000):Ey .add (.vl xs) (.vl ys) M=.ok (.vl (xs++ys)) M:=dh h
@[simp] def bby(i j:Int):Hb .lt (.int i) (.int j) M=some (decide (i<j)):=rfl
@[simp] def bbz(i j:Int):Hb .le (.int i) (.int j) M=some (decide (i<=j)):=rfl
@[simp] def cmp_gt(i j:Int):Hb .gt (.int i) (.int j) M=some (decide (j<i)):=rfl
@[simp] def bb0(i j:Int):Hb .ge (.int i) (.int j) M=some (decide (j<=i)):=rfl
@[simp] def bb1(a b:D):Hb .eq a b M=ym M a b:=rfl
@[simp] def bb2(a b:D):Hb .ne a b M=(ym M a b).map not:=rfl
@[simp] def bb3(a b:D):Hb .inn a b M=Qp M a b:=rfl
@[simp] def a2c(a b:D):Hb .T4 a b M=(Qp M a b).map not:=rfl
def agk(n:Nat)(i j:Int):Ko M (n+1) (.int i) (.int j)=some (decide (i=j)):=rfl
def Ht(G:f a b=some x)(Z:Qn f R bs=some y):Qn f (a::R) (b::bs)=some (x&&y):=by simp[Qn,G,Z]
@[simp] def eq_int(i j:Int):ym M (.int i) (.int j)=some (decide (i=j)):=rfl
@[simp] def bf6(i j:Bool):ym M (.bl i) (.bl j)=some (i==j):=rfl
@[simp] def Xr(ds:List D):gm M (.vl ds)=some ds:=rfl
@[simp] def a4b(ds:List D):yd M (.vl ds)=some ds:=rfl
@[simp] def a2d(ds:List D):yd M (.tup ds)=some ds:=rfl
def o6(h:M[n]?=some (.lst ds)):gm M (.ref n)=some ds:=by simp[gm,h]
def Gg(h:gm M d=some ds):yd M d=some ds:=by cases d<;>first|exact h|(simp[gm] at h)
set_option tactic.hygienic true in
def len_list(h:gm M d=some ds):qm .len [d] M=.ok (.int ds.length) M:=by
 show Mr M d=_;cases d with
 |vl Z=>simp[gm] at h;subst h;rfl
 |ref n =>
  simp only[gm] at h;split at h<;>simp at h;rename_i Z Y;subst h;simp[Mr,Y]
 |_=>simp[gm] at h
@[simp] def a4c(d:D)(g:D->Res D):Mj [d] g=g d:=rfl
@[simp] def a4d(g:D->Res D):Mj [] g=.bad:=rfl
@[simp] def a2e(a b:D)(l:List D)(g:D->Res D):Mj (a::b::l) g=.bad:=rfl
@[simp] def bb4(i j:Int)(f:Int->Int->Int)(g:D->Option Int):two [.int i,.int j] f g M=.ok (.int (f i j)) M:=rfl
@[simp] def arn(d:D)(f:Int->Int->Int)(g:D->Option Int):two [d] f g M=Res.vo ((g d).map D.int) M:=rfl
@[simp] def axy(Z:List D):Mr M (.tup Z)=.ok (.int Z.length) M:=rfl
@[simp] theorem av4{M:dg}(n:Nat):age M (.ref n)=match M[n]? with
 |some (.dK jn)=>new (.dK jn) M|_=>.bad:=rfl
def Df(h:gm M d=some ds)(G:0<=i)(hx:ds[i.toNat]?=some x):Ak d (.int i) M=some x:=by
 obtain⟨hl,Z⟩:=aj.mp hx;have R:i<ds.length:=by lia
 cases d with
 |vl xs=>simp[gm] at h;subst h;simp[Ak,yd,Mi,G,R,hl,Z]
 |ref n =>
  simp only[gm] at h;cases e:M[n]? with
  |none=>rw[e] at h;simp at h|some o=>rw[e] at h;cases o<;>simp at h<;>subst h<;>simp[Ak,gm,e,Mi,G,R,hl,Z]
 |_=>simp[gm] at h
def Jp(G:0<=i)(R:ds[i.toNat]?=some x):Ak (.tup ds) (.int i) M=some x:=by
 obtain⟨hl,Z⟩:=aj.mp R;have hi:i<ds.length:=by lia
 simp[Ak,yd,Mi,G,hi,hl,Z]
def a4e(G:0<=i)(R:ds[i.toNat]?=some x):Ak (.fz ds) (.int i) M=some x:=by
 obtain⟨hl,Z⟩:=aj.mp R;have hi:i<ds.length:=by lia
 simp[Ak,Mi,G,hi,hl,Z]
def alv:qm .len [.fz ds] M=.ok (.int ds.length) M:=rfl
@[simp] def a99(x:D)(r:List D):Ak (.tup (x::r)) (.int 0) M=some x:=Jp (by decide) rfl
@[simp] def baa(x y:D)(r:List D):Ak (.tup (x::y::r)) (.int 1) M=some y:=Jp (by decide) rfl
@[simp] def bab(x y z:D)(r:List D):Ak (.tup (x::y::z::r)) (.int 2) M=some z:=Jp (by decide) rfl
def a4f(h:M[n]?=some (.dT G))(Z:aa7 b=some k):Ak (.ref n) b M=wg G k:=by simp[Ak,h,Z]
def av5(h:M[n]?=some (.dK G))(Z:Vj b=some k):Ak (.ref n) b M=wg G k:=by simp[Ak,h,Z]
@[simp] def a4g(i j:Int):aa7 (.tup [.int i,.int j])=some [.inl i,.inl j]:=rfl
@[simp] def bf7(i:Int):Vj (.int i)=some (.inl i):=rfl
def Hu(h:M[n]?=some (.lst Z)):Jo .append (.ref n) M=true:=by simp[Jo,h]
def Hc(h:M[n]?=some (.lst Z))(G:Z.length<100000):Ep .append (.ref n) [d] M=.ok .non (M.set n (.lst (Z++[d]))):=by simp[Ep,h,G]
def Uz(h:M[n]?=some (.lst Z))(G:0<=i)(R:i<Z.length):setOp (.ref n) (.int i) d M=some (M.set n (.lst (Z.set i.toNat d))):=by simp[setOp,h,Mi,G,R]
def axz(h:M[n]?=some (.dT Z))(R:aa7 b=some k)(G:Z.length<100000):setOp (.ref n) b d M=some (M.set n (.dT (Cz Z k d))):=by simp[setOp,h,R,G]
def zr{M:dg}(h:M[a]?=some o):a<M.length:=(aj.mp h).1
def wj{M:dg}(h:M[a]?=some p):(M.set a o)[a]?=some o:=by rw[yg (zr h)]
def uh{M:dg}(h:b≠a):(M.set b o)[a]?=M[a]?:=uc h
def Ab{M:dg}{a:Nat}(h:M[a]?=some o):(M++X)[a]?=some o:=by rw[dj (zr h)];exact h
@[simp] def bac{M:dg}:(M++[o])[M.length]?=some o:=by simp
theorem Vm(x:Int):∀l,(insI x l).Perm (x::l)
 |[]=>List.Perm.refl _
 |y::l=>by
  unfold insI;split
  .exact List.Perm.refl _
  .exact((Vm x l).cons y).trans (List.Perm.swap x y l)
theorem Oe:∀l,(sortI l).Perm l
 |[]=>List.Perm.refl _|x::l=>(Vm x _).trans ((Oe l).cons x)
theorem alw(x:Int):∀{l:X9},l.Pairwise (·<=·)->(insI x l).Pairwise (·<=·)
 |[],_=>List.pairwise_singleton _ _
 |y::l,h=>by
  obtain⟨G,R⟩:=t8.mp h;unfold insI;split
  .refine t8.mpr ⟨λz Z=>?_,h⟩
   rcases cj.mp Z with rfl|Z
   .lia
   .have:=G z Z;lia
  .refine t8.mpr ⟨λz Z=>?_,alw x R⟩
   rcases cj.mp ((Vm x l).mem_iff.mp Z) with rfl|Z
   .lia
   .exact G z Z
theorem agl:∀l,(sortI l).Pairwise (·<=·)
 |[]=>List.Pairwise.nil|x::l=>alw x (agl l)
set_option tactic.hygienic true in
theorem Jq(k:Int):∀l,k∈ug l↔k∈l
 |[]=>Iff.rfl
 |x::l=>by
  unfold ug;split
  .rename_i h
   rw[Jq k l,cj];exact⟨.inr,λz=>z.elim (λe=>e▸h) id⟩
  .rw[cj,cj,Jq k l]
set_option tactic.hygienic true in
theorem Sh:∀l,(ug l).Nodup
 |[]=>zg
 |x::l=>by
  unfold ug;split
  .exact Sh l
  .rename_i h
   exact j8.mpr ⟨λz=>h ((Jq x l).mp z),Sh l⟩
theorem av6:∀{a b:X9},a.Pairwise (·<=·)->b.Pairwise (·<=·)->a.Nodup->b.Nodup->(∀k,k∈a↔k∈b)->a=b
 |[],[],_,_,_,_,_=>rfl|[],y::b,_,_,_,_,h=>nomatch(h y).mpr di|x::a,[],_,_,_,_,h=>nomatch(h x).mp di
 |x::a,y::b,ha,hb,na,nb,h=>by
  obtain⟨a1,G⟩:=t8.mp ha;obtain⟨b1,Z⟩:=t8.mp hb;obtain⟨c1,c2⟩:=j8.mp na;obtain⟨d1,R⟩:=j8.mp nb;have e:x=y:=by
   rcases cj.mp ((h x).mp di) with e|m
   .exact e
   .rcases cj.mp ((h y).mpr di) with e|m'
    .exact e.symm
    .have:=b1 x m;have:=a1 y m';lia
  subst e
  congr 1
  refine av6 G Z c2 R λk=>⟨λm=>?_,λm=>?_⟩
  .rcases cj.mp ((h k).mp (bx _ m)) with rfl|m'
   .exact absurd m c1
   .exact m'
  .rcases cj.mp ((h k).mpr (bx _ m)) with rfl|m'
   .exact absurd m d1
   .exact m'
def aro(G:ns.Pairwise (·<=·))(Z:ns.Nodup)(R:∀k,k∈l↔k∈ns):ns=sortI (ug l) :=
 av6 G (agl _) Z ((Oe _).nodup_iff.mpr (Sh l)) λk=>by rw[(Oe _).mem_iff,Jq,R]
theorem Zd{fin:dg->Bool}{item:Nat->dg->Option D}{R:D->Env->dg->Res (Flow×Env)}(I:Nat->Env->dg->Prop){n:Nat}
 (step:∀i Z M,i<n->I i Z M->∃d fl G M',item i M=some d/\R d Z M=.ok (fl,G) M'/\(fl=.next\/fl=.cont)/\I (i+1) G M') (Pz:∀Z M,I n Z M->fin M=true) :
 ∀(k i:Nat)(Z:Env)(M:dg),i+k=n->I i Z M->∃G M',Bu fin item R k i Z M=.ok (.next,G) M'/\I n G M'
 |0,i,Z,M,e,h=>by
  have q:i=n:=by lia
  rw[q] at h;exact⟨Z,M,by simp[Bu,Pz Z M h],h⟩
 |k+1,i,Z,M,e,h=>by
  obtain⟨d,fl,qk,M1,h1,h2,h3,h4⟩:=step i Z M (by lia) h;obtain⟨qq,M2,g1,g2⟩:=Zd I step Pz k (i+1) qk M1 (by lia) h4;refine⟨qq,M2,?_,g2⟩;rcases h3 with rfl|rfl<;>simp[Bu,h1,h2,g1]
def U0(I:Nat->Env->dg->Prop)(h0:I 0 G M)(step:∀i d G M,ds[i]?=some d->I i G M->∃R Z M',body d G M=.ok (R,Z) M'/\(R=.next\/R=.cont)/\I (i+1) Z M') :
 ∃Z M',Bu (Src.con ds).fin (Src.con ds).item body (Src.con ds).len 0 G M=.ok (.next,Z) M'/\I ds.length Z M':=by
 refine Zd I (λi G M hi h=>?_) (λ_ _ _=>rfl) ds.length 0 G M (q9 _) h0;obtain⟨R,Z,M',a,b,c⟩:=step i ds[i] G M (by simp[hi]) h;exact⟨ds[i],R,Z,M',by simp[Src.item,hi],a,b,c⟩
def Ze(I:Nat->Env->dg->Prop)(h0:I 0 ρ M)(step:∀i ρ M,i<n->I i ρ M->∃R Z M',body (.int i) ρ M=.ok (R,Z) M'/\(R=.next\/R=.cont)/\I (i+1) Z M') :
 ∃Z M',Bu (Src.con ((List.range n).map λ(k:Nat)=>D.int (k:Int))).fin (Src.con ((List.range n).map λ(k:Nat)=>D.int (k:Int))).item body (Src.con ((List.range n).map λ(k:Nat)=>D.int (k:Int))).len 0 ρ M=.ok (.next,Z) M'/\I n Z M':=by
 have:=U0 (ds:=(List.range n).map λ(k:Nat)=>D.int (k:Int)) (body:=body) I h0 (λi d ρ M G h=>by
  have hi:i<n:=by have:=(aj.mp G).1;simpa using this
  rw[je,qx hi] at G;have G:D.int (i:Int)=d:=by simpa using G
  subst G;exact step i ρ M hi h)
 simpa using this
def alx(I:Nat->Env->dg->Prop)(h0:I 0 G M)(stay:∀i G M,I i G M->M[p]?=some (.lst ds))(step:∀i d G M,ds[i]?=some d->I i G M->∃R Z M',body d G M=.ok (R,Z) M'/\(R=.next\/R=.cont)/\I (i+1) Z M') :
 ∃Z M',Bu (Src.live p ds.length).fin (Src.live p ds.length).item body (Src.live p ds.length).len 0 G M=.ok (.next,Z) M'/\I ds.length Z M':=by
 refine Zd I (λi G M hi h=>?_) (λG M h=>by simp[Src.fin,stay _ G M h]) ds.length 0 G M (q9 _) h0;obtain⟨R,Z,M',a,b,c⟩:=step i ds[i] G M (by simp[hi]) h;exact⟨ds[i],R,Z,M',by simp[Src.item,stay i G M h,hi],a,b,c⟩
theorem Gh{fin:dg->Bool}{item:Nat->dg->Option D}{body:D->dg->Res (Option D)}(I:Nat->List D->dg->Prop){n:Nat}
 (step:∀i Z M,i<n->I i Z M->∃d o G,item i M=some d/\body d M=.ok o G/\I (i+1) (Z++o.toList) G) (Pz:∀Z M,I n Z M->fin M=true) :
 ∀(k i:Nat)(Z:List D)(M:dg),i+k=n->I i Z M->∃R G,Dm fin item body k i M=.ok R G/\I n (Z++R) G
 |0,i,Z,M,e,h=>by
  have q:i=n:=by lia
  rw[q] at h;exact⟨[],M,by simp[Dm,Pz Z M h],by simpa using h⟩
 |k+1,i,Z,M,e,h=>by
  obtain⟨d,o,M1,h1,h2,h3⟩:=step i Z M (by lia) h;obtain⟨R,M2,g1,g2⟩:=Gh I step Pz k (i+1) (Z++o.toList) M1 (by lia) h3;refine⟨o.toList++R,M2,?_,by rw[<- qd];exact g2⟩;cases o<;>simp[Dm,h1,h2,g1]
def Sq{s:Src}{ds:List D}(Pz:s.fin M=true)(hl:s.len=ds.length)(hi:∀i,i<ds.length->s.item i M=ds[i]?)(h:∀d∈ds,body d M=.ok (g d) M) :
 Dm s.fin s.item body s.len 0 M=.ok (ds.filterMap g) M:=by
 obtain⟨ys,Z,e,h1,h2⟩:=Gh (fin:=s.fin) (item:=s.item) (body:=body) (λi R Z=>Z=M/\R=(ds.take i).filterMap g) (n:=ds.length) (λi R Z G hI=>by
  obtain⟨rfl,rfl⟩:=hI;refine⟨ds[i],g ds[i],Z,by rw[hi i G];simp[G],h _ (ux G),rfl,?_⟩;rw[List.take_succ,List.filterMap_append];simp[G];cases e:g ds[i]<;>simp[e]) (λR Z h=>by rw[h.1];exact Pz) ds.length 0 [] M (q9 _) ⟨rfl,rfl⟩
 rw[hl,e,h1];simp at h2;rw[h2]
def aly(h:∀d∈ds,body d M=.ok (some (g d)) M) :
 Dm (Src.con ds).fin (Src.con ds).item body (Src.con ds).len 0 M=.ok (ds.map g) M:=by
 rw[Sq (s:=.con ds) (ds:=ds) (g:=λd=>some (g d)) rfl rfl (λi _=>rfl) h,List.filterMap_eq_map']
end MW
namespace MW
theorem Og{c:Env->dg->Res D}{qq:Env->dg->Res (Flow×Env)}(I:Nat->Env->dg->Prop)(Ss:Env->dg->Prop)
 (step:∀m Z M,I m Z M->(∃R,c Z M=.ok (.bl false) R/\Ss Z R) \/
  ∃R fl G M2 m',c Z M=.ok (.bl true) R/\qq Z R=.ok (fl,G) M2/\(fl=.next\/fl=.cont)/\m'<m/\I m' G M2) :
 ∀(k m:Nat)(Z:Env)(M:dg),m<k->I m Z M->∃G M',Ft c qq k Z M=.ok (.next,G) M'/\Ss G M'
 |0,m,_,_,h,_=>absurd h (tu _)
 |k+1,m,Z,M,h,hI=>by
  rcases step m Z M hI with⟨R,h1,h2⟩|⟨R,fl,qk,M2,m',h1,h2,h3,h4,h5⟩
  .exact⟨Z,R,by simp[Ft,h1],h2⟩
  .obtain⟨qv,M3,g1,g2⟩:=Og I Ss step k m' qk M2 (b_ h4 (z_ h)) h5
   refine⟨qv,M3,?_,g2⟩;rcases h3 with rfl|rfl<;>simp[Ft,h1,h2,g1]
end MW
namespace MW
def zc(M Z:dg):Prop:=∀(a:Nat)(o:MO),M[a]?=some o->Z[a]?=some o
def zc.refl(M:dg):zc M M:=λ_ _ h=>h
def zc.trans(a:zc M Z)(b:zc Z M2):zc M M2:=λx o h=>b x o (a x o h)
def zc.app(M X:dg):zc M (M++X):=λ_ _ h=>Ab h
def zc.len(k:zc M Z):M.length<=Z.length:=by
 rcases Nat.eq_zero_or_pos M.length with h|h
 .exact a_ (f_ h) (jy _)
 .have:=zr (k (M.length-1) M[M.length-1] (by simp))
  lia
theorem zc.gm(k:zc M Z)(h:gm M d=some ds):MW.gm Z d=some ds:=by
 cases d with
 |vl G=>exact h
 |ref n =>
  simp only[MW.gm] at h ⊢;cases e:M[n]? with
  |none=>rw[e] at h;simp at h|some o=>rw[e] at h;rw[k n o e];exact h
 |_=>simp[MW.gm] at h
def Vn(I:Nat->Env->dg->Prop)(G:gm M d=some ds)(h0:I 0 ρ M)(stay:∀i ρ M,I i ρ M->gm M d=some ds)(step:∀i x ρ M,ds[i]?=some x->I i ρ M->∃R Z M',body x ρ M=.ok (R,Z) M'/\(R=.next\/R=.cont)/\I (i+1) Z M') :
 ∃s,srcOf M d=some s/\∃Z M',Bu s.fin s.item body s.len 0 ρ M=.ok (.next,Z) M'/\I ds.length Z M':=by
 cases d with
 |vl xs=>simp[gm] at G;subst G;exact⟨_,rfl,U0 I h0 step⟩
 |ref n =>
  cases e:M[n]? with
  |none=>simp[gm,e] at G
  |some o =>
   cases o with
   |lst xs =>
    simp[gm,e] at G;subst G;refine⟨.live n xs.length,by simp[srcOf,e],alx I h0 (λi ρ M h=>?_) step⟩;have:=stay i ρ M h;simp only[gm] at this;split at this<;>simp_all
   |_=>simp[gm,e] at G
 |_=>simp[gm] at G
def agm(Z:ds.length<=100000)(h:∀d∈ds,body d M=.ok (some (g d)) M):zp (.con ds) body M=.ok (ds.map g) M:=by rw[zp,dh (show(Src.con ds).len<=100000 from Z)];exact aly h
def abd(Z:ds.length<=100000)(h:∀d∈ds,body d M=.ok (g d) M):zp (.con ds) body M=.ok (ds.filterMap g) M:=by rw[zp,dh (show(Src.con ds).len<=100000 from Z)];exact Sq (s:=.con ds) rfl rfl (λ_ _=>rfl) h
def abe(Z:gm M d=some ds)(R:ds.length<=100000)(h:∀x∈ds,body x M=.ok (g x) M) :
 ∃s,srcOf M d=some s/\zp s body M=.ok (ds.filterMap g) M:=by
 cases d with
 |vl G=>simp[gm] at Z;subst Z;exact⟨_,rfl,abd R h⟩
 |ref n =>
  cases e:M[n]? with
  |none=>simp[gm,e] at Z
  |some o =>
   cases o with
   |lst G =>
    simp[gm,e] at Z;subst Z;exact⟨.live n G.length,by simp[srcOf,e],by rw[zp,dh (show(Src.live n G.length).len<=100000 from R)];exact Sq (s:=.live n G.length) (by simp[Src.fin,e]) rfl (λi _=>by simp[Src.item,e]) h⟩
   |_=>simp[gm,e] at Z
 |_=>simp[gm] at Z
def Hk(v:Bool)(k:Nat)(t:Tg)(it:Mq)(e:Ex):(Ex.comp v k t it e).den W G M=(it.den W G M).bind λs M1 =>
 (zp s (λd M=>(Res.vo (t.put d (G++List.replicate k none)) M).bind λZ M=>(e.den W Z M).bind λx M'=>.ok (some x) M') M1).bind λR M2=>if v then .ok (.vl R) M2 else new (.lst R) M2:=by
 rw[Mt]
 congr 1;funext s M1;congr 2;funext d M
 cases t.put d (G++List.replicate k none)<;>rfl
def abf(v:Bool)(k:Nat)(t:Tg)(it:Mq)(c e:Ex):(Ex.Eb v k t it c e).den W G M=(it.den W G M).bind λs M1 =>
 (zp s (λd M=>(Res.vo (t.put d (G++List.replicate k none)) M).bind λZ M=>(c.den W Z M).bind λb M' =>
  match b with
   |.bl true=>(e.den W Z M').bind λx R=>.ok (some x) R
   | .bl false=>.ok none M'|_=>.bad) M1).bind λds M2=>if v then .ok (.vl ds) M2 else new (.lst ds) M2:=by
 rw[Vk]
 congr 1;funext s M1;congr 2;funext d M
 cases t.put d (G++List.replicate k none)<;>rfl
def Oh(t:Tg)(it:Mq)(b:rm):(Cu.for_ t it b).den W Z M=(it.den W Z M).bind λs M1=>Bu s.fin s.item (λd Z M=>(Res.vo (t.put d Z) M).bind λG M=>b.den W G M) s.len 0 Z M1:=by
 rw[Sg]
 congr 1;funext s M1;congr 1;funext d Z M
 cases t.put d Z<;>rfl
def zy(qq:it.den W ρ M=.ok (.int (n:Int)) M1)(hn:n<=100000)(I:Nat->Env->dg->Prop)(h0:I 0 ρ M1)(step:∀i ρ M,i<n->I i ρ M->∃G R Z M',t.put (.int i) ρ=some G/\b.den W G M=.ok (R,Z) M'/\(R=.next\/R=.cont)/\I (i+1) Z M') :
 ∃Z M',(Cu.for_ t (.Jg it) b).den W ρ M=.ok (.next,Z) M'/\I n Z M':=by
 rw[Oh,Kq,qq];have R9:((n:Int)).natAbs<=100000:=by lia
 simp only[Res.Cm,R9,o5,um];exact Ze I h0 (λi ρ M hi h=>by
  obtain⟨G,R,Z,M',a,b,c,d⟩:=step i ρ M hi h;exact⟨R,Z,M',by rw[a];exact b,c,d⟩)
def Zf(qq:it.den W ρ M=.ok d M1)(hd:gm M1 d=some ds)(I:Nat->Env->dg->Prop)(h0:I 0 ρ M1)(stay:∀i ρ M,I i ρ M->gm M d=some ds)(step:∀i x ρ M,ds[i]?=some x->I i ρ M->∃G R Z M',t.put x ρ=some G/\b.den W G M=.ok (R,Z) M'/\(R=.next\/R=.cont)/\I (i+1) Z M') :
 ∃Z M',(Cu.for_ t (.val it) b).den W ρ M=.ok (.next,Z) M'/\I ds.length Z M':=by
 rw[Oh,Ji,qq];obtain⟨s,h1,h2⟩:=Vn (body:=λd ρ M=>(Res.vo (t.put d ρ) M).bind λZ M=>b.den W Z M) I hd h0 stay (λi x ρ M hx h=>by
  obtain⟨G,R,Z,M',a,b,c,d⟩:=step i x ρ M hx h;exact⟨R,Z,M',by rw[a];exact b,c,d⟩)
 simp only[Res.Cm,h1,Res.Ho];exact h2
def abg(qq:it.den W ρ M=.ok (.tup ds) M1)(I:Nat->Env->dg->Prop)(h0:I 0 ρ M1)(step:∀i x ρ M,ds[i]?=some x->I i ρ M->∃G R Z M',t.put x ρ=some G/\b.den W G M=.ok (R,Z) M'/\(R=.next\/R=.cont)/\I (i+1) Z M') :
 ∃Z M',(Cu.for_ t (.val it) b).den W ρ M=.ok (.next,Z) M'/\I ds.length Z M':=by
 rw[Oh,Ji,qq];exact U0 I h0 (λi x ρ M hx h=>by
  obtain⟨G,R,Z,M',a,b,c,d⟩:=step i x ρ M hx h;exact⟨R,Z,M',by rw[a];exact b,c,d⟩)
def abh(qq:it.den W ρ M=.ok (.tup ds) M1)(I:Nat->Env->dg->Prop)(h0:I 0 ρ M1)(step:∀i x ρ M,ds[i]?=some x->I i ρ M->∃G fl Z M',t.put (.tup [.int i,x]) ρ=some G/\b.den W G M=.ok (fl,Z) M'/\(fl=.next\/fl=.cont)/\I (i+1) Z M') :
 ∃Z M',(Cu.for_ t (.enm it) b).den W ρ M=.ok (.next,Z) M'/\I ds.length Z M':=by
 rw[Oh,agj,qq];have:=U0 (ds:=Hs ds 0) (body:=λd ρ M=>(Res.vo (t.put d ρ) M).bind λZ M=>b.den W Z M) I h0 (λi x ρ M hx h=>by
  have R:i<ds.length:=by have:=(aj.mp hx).1;simpa[Hs] using this
  have qk:x=.tup [.int i,ds[i]]:=by simp[Hs,R] at hx;exact hx.symm
  subst qk;obtain⟨G,fl,Z,M',a,b,c,d⟩:=step i ds[i] ρ M (by simp[R]) h;exact⟨fl,Z,M',by rw[a];exact b,c,d⟩)
 have e:(Hs ds 0).length=ds.length:=by simp[Hs]
 rw[e] at this;exact this
def Ay(R:it.den W ρ M=.ok d M1)(hd:gm M1 d=some ds)(hl:ds.length<=100000)(h:∀x∈ds,∃Z,t.put x (ρ++List.replicate k none)=some Z/\e.den W Z M1=.ok (g x) M1) :
 (Ex.comp v k t (.val it) e).den W ρ M=if v then .ok (.vl (ds.map g)) M1 else new (.lst (ds.map g)) M1:=by
 rw[Hk,Ji,R];obtain⟨s,h1,h2⟩:=abe (g:=λx=>some (g x)) (body:=λd M=>(Res.vo (t.put d (ρ++List.replicate k none)) M).bind λG M=>(e.den W G M).bind λx M'=>.ok (some x) M') hd hl (λx hx=>by
  obtain⟨Z,a,b⟩:=h x hx;rw[a];simp[b])
 simp only[Res.Cm,h1,Res.Ho,h2,List.filterMap_eq_map']
def Zg(R:it.den W ρ M=.ok (.tup ds) M1)(hl:ds.length<=100000)(h:∀x∈ds,∃Z,t.put x (ρ++List.replicate k none)=some Z/\e.den W Z M1=.ok (g x) M1) :
 (Ex.comp v k t (.val it) e).den W ρ M=if v then .ok (.vl (ds.map g)) M1 else new (.lst (ds.map g)) M1:=by
 rw[Hk,Ji,R];have h2:=agm (g:=g) (M:=M1) (body:=λd M=>(Res.vo (t.put d (ρ++List.replicate k none)) M).bind λG M=>(e.den W G M).bind λx M'=>.ok (some x) M') hl (λx hx=>by
  obtain⟨Z,a,b⟩:=h x hx;rw[a];simp[b])
 show(zp (.con ds) _ M1).bind _=_;rw[h2];rfl
def Mw(G:it.den W R M=.ok (.int (n:Int)) M1)(hl:n<=100000)(h:∀i,i<n->∃Z,t.put (.int i) (R++List.replicate k none)=some Z/\c.den W Z M1=.ok (.bl (q i)) M1/\(q i=true->e.den W Z M1=.ok (g i) M1)) :
 (Ex.Eb v k t (.Jg it) c e).den W R M=if v then .ok (.vl (((List.range n).filter q).map g)) M1 else new (.lst (((List.range n).filter q).map g)) M1:=by
 rw[abf,Kq,G];have R9:((n:Int)).natAbs<=100000:=by lia
 simp only[Res.Cm,R9,o5,um];rw[abd (ds:=(List.range n).map λ(k:Nat)=>D.int (k:Int)) (g:=λd=>match d with|.int i=>if q i.toNat then some (g i.toNat) else none|_=>none) (by simpa using hl) (λx hx=>by
  obtain⟨i,hi,rfl⟩:=bz.mp hx;obtain⟨Z,a,b,c⟩:=h i (gw.mp hi);rw[a,Res.Ho,Res.Cm,b,Res.Cm];cases e:q i with
  | true=>simp[e,c e]|false=>simp[e])]
 have:(((List.range n).map λ(k:Nat)=>D.int (k:Int)).filterMap λd=>match d with|.int i=>if q i.toNat then some (g i.toNat) else none|_=>none)=((List.range n).filter q).map g:=by
  rw[List.filterMap_map]
  induction List.range n with
  |nil=>rfl|cons a l ih=>by_cases e:q a=true<;>simp[e,ih]
 rw[this];rfl
theorem agn{fin:dg->Bool}{item:Nat->dg->Option D}{body:D->Env->dg->Res (Flow×Env)}(I:Nat->Env->dg->Prop)(Ss:Env->dg->Prop){n:Nat}
 (step:∀i Z M,i<n->I i Z M->∃d fl G R,item i M=some d/\body d Z M=.ok (fl,G) R/\(((fl=.next\/fl=.cont)/\I (i+1) G R)\/(fl=.brk/\Ss G R))) (Pz:∀Z M,I n Z M->fin M=true/\Ss Z M) :
 ∀(k i:Nat)(Z:Env)(M:dg),i+k=n->I i Z M->∃G R,Bu fin item body k i Z M=.ok (.next,G) R/\Ss G R
 |0,i,Z,M,e,h=>by
  have q:i=n:=by lia
  rw[q] at h;exact⟨Z,M,by simp[Bu,(Pz Z M h).1],(Pz Z M h).2⟩
 |k+1,i,Z,M,e,h=>by
  obtain⟨d,fl,qq,M1,h1,h2,⟨h3,h4⟩|⟨rfl,h4⟩⟩:=step i Z M (by lia) h
  .obtain⟨qk,M2,g1,g2⟩:=agn I Ss step Pz k (i+1) qq M1 (by lia) h4
   refine⟨qk,M2,?_,g2⟩;rcases h3 with rfl|rfl<;>simp[Bu,h1,h2,g1]
  .exact⟨qq,M1,by simp[Bu,h1,h2],h4⟩
def abi(qq:it.den W G M=.ok (.int (n:Int)) M1)(hn:n<=100000)(I:Nat->Env->dg->Prop)(Ss:Env->dg->Prop)(h0:I 0 G M1)(hp:∀G M,I n G M->Ss G M)(step:∀i G M,i<n->I i G M->∃R fl Z M',t.put (.int i) G=some R/\b.den W R M=.ok (fl,Z) M'/\(((fl=.next\/fl=.cont)/\I (i+1) Z M')\/(fl=.brk/\Ss Z M'))) :
 ∃Z M',(Cu.for_ t (.Jg it) b).den W G M=.ok (.next,Z) M'/\Ss Z M':=by
 rw[Oh,Kq,qq];have R9:((n:Int)).natAbs<=100000:=by lia
 simp only[Res.Cm,R9,o5,um];obtain⟨Z,M',e,h⟩:=agn (fin:=(Src.con ((List.range n).map λ(k:Nat)=>D.int (k:Int))).fin) (item:=(Src.con ((List.range n).map λ(k:Nat)=>D.int (k:Int))).item) (body:=λd G M=>(Res.vo (t.put d G) M).bind λZ M=>b.den W Z M) I Ss (n:=n) (λi G M hi h=>by
  obtain⟨R,fl,Z,M',a,b,c⟩:=step i G M hi h;exact⟨.int i,fl,Z,M',by simp[Src.item,hi],by rw[a];exact b,c⟩) (λG M h=>⟨rfl,hp G M h⟩) n 0 G M1 (q9 _) h0
 have hl:(Src.con ((List.range n).map λ(k:Nat)=>D.int (k:Int))).len=n:=by simp[Src.len]
 rw[hl];exact⟨Z,M',e,h⟩
def Ks(qk:it.den W ρ M=.ok (.int (n:Int)) M1)(hn:n<=100000)(I:Nat->List D->dg->Prop)(h0:I 0 [] M1)(step:∀i R M,i<n->I i R M->∃Z x M',t.put (.int i) (ρ++List.replicate k none)=some Z/\e.den W Z M=.ok x M'/\I (i+1) (R++[x]) M') :
 ∃G M',(Ex.comp v k t (.Jg it) e).den W ρ M=(if v then .ok (.vl G) M' else new (.lst G) M')/\I n G M':=by
 rw[Hk,Kq,qk];have R9:((n:Int)).natAbs<=100000:=by lia
 simp only[Res.Cm,R9,o5,um];obtain⟨G,M',g,h⟩:=Gh (fin:=(Src.con ((List.range n).map λ(k:Nat)=>D.int (k:Int))).fin) (item:=(Src.con ((List.range n).map λ(k:Nat)=>D.int (k:Int))).item) (body:=λd M=>(Res.vo (t.put d (ρ++List.replicate k none)) M).bind λqq M=>(e.den W qq M).bind λx M'=>.ok (some x) M') I (n:=n) (λi R M hi h=>by
  obtain⟨Z,x,M',a,b,c⟩:=step i R M hi h;exact⟨.int i,some x,M',by simp[Src.item,hi],by rw[a];simp[b],by simpa using c⟩) (λ_ _ _=>rfl) n 0 [] M1 (q9 _) h0
 have hl:(Src.con ((List.range n).map λ(k:Nat)=>D.int (k:Int))).len=n:=by simp[Src.len]
 refine⟨G,M',?_,by simpa using h⟩;rw[zp,hl,dh hn,g];rfl
set_option tactic.hygienic true in
def Fv(C:it.den W ρ M=.ok d M1)(L:gm M1 d=some ds)(hn:ds.length<=100000)(I:Nat->List D->dg->Prop)(S:I 0 [] M1)(stay:∀i Z M,I i Z M->gm M d=some ds)(step:∀i y Z M,ds[i]?=some y->I i Z M->∃Y x M',t.put y (ρ++List.replicate k none)=some Y/\e.den W Y M=.ok x M'/\I (i+1) (Z++[x]) M') :
 ∃G M',(Ex.comp v k t (.val it) e).den W ρ M=(if v then .ok (.vl G) M' else new (.lst G) M')/\I ds.length G M':=by
 rw[Hk,Ji,C];obtain⟨s,hs,hl,hi,u⟩:∃s,srcOf M1 d=some s/\s.len=ds.length/\(∀M i,gm M d=some ds->s.item i M=ds[i]?)/\∀M,gm M d=some ds->s.fin M=true:=by
  cases d with
  |vl zs=>cases L;exact⟨.con ds,rfl,rfl,λ_ _ _=>rfl,λ_ _=>rfl⟩
  |ref p =>
   have get:∀{M:dg},gm M (.ref p)=some ds->M[p]?=some (.lst ds):=fun{M} h=>by
    simp only[gm] at h;split at h
    .rename_i z;cases h;exact z
    .cases h
   refine⟨.live p ds.length,by simp[srcOf,get L],rfl,λM i h=>by simp[Src.item,get h],λM h=>by simp[Src.fin,get h]⟩
  |_=>cases L
 simp only[Res.Cm,hs,Res.Ho];obtain⟨G,M',g,h⟩:=Gh (fin:=s.fin) (item:=s.item) (body:=λd M=>(Res.vo (t.put d (ρ++List.replicate k none)) M).bind λJ M=>(e.den W J M).bind λx M'=>.ok (some x) M') I (n:=ds.length) (λi Z M R h=>by
  obtain⟨Y,x,M',a,b,c⟩:=step i ds[i] Z M (by simp[R]) h;exact⟨ds[i],some x,M',by rw[hi M i (stay i Z M h)];simp[R],by rw[a];simp[b],by simpa using c⟩) (λZ M h=>u M (stay _ Z M h)) ds.length 0 [] M1 (q9 _) S
 refine⟨G,M',?_,by simpa using h⟩;rw[zp,hl,dh hn,g];rfl
abbrev Goes(I:Nat->Env->dg->Prop)(R:D->dg->Prop)(i:Nat)(r:Res (Flow×Env)):Prop:=∃fl ρ' M',r=.ok (fl,ρ') M'/\((fl=.next/\I i ρ' M')\/∃v,fl=.ret v/\R v M')
theorem ago{fin:dg->Bool}{item:Nat->dg->Option D}{G:D->Env->dg->Res (Flow×Env)}(I:Nat->Env->dg->Prop)(R:D->dg->Prop){n:Nat}
 (step:∀i Z M,i<n->I i Z M->∃d,item i M=some d/\Goes I R (i+1) (G d Z M)) (hf:∀Z M,I n Z M->fin M=true) :
 ∀k i Z M,i+k=n->I i Z M->Goes I R n (Bu fin item G k i Z M)
 |0,i,Z,M,e,h=>by
  obtain rfl:i=n:=by lia
  exact⟨_,Z,M,by simp[Bu,hf Z M h],.inl ⟨rfl,h⟩⟩
 |k+1,i,Z,M,e,h=>by
  obtain⟨d,h1,fl,qq,M',h2,⟨rfl,h4⟩|⟨v,rfl,h4⟩⟩:=step i Z M (by lia) h
  .have:=ago I R step hf k (i+1) qq M' (by lia) h4
   simpa[Bu,h1,h2] using this
  .exact⟨.ret v,qq,M',by simp[Bu,h1,h2],.inr ⟨v,rfl,h4⟩⟩
section
variable{W:Gf}{ρ:Env}{M M1:dg}{t:Tg}{b:rm}
def agp{it:Mq}{s:Src}{n:Nat}(G:it.den W ρ M=.ok s M1)(hn:s.len=n)(I:Nat->Env->dg->Prop)(R:D->dg->Prop)(h0:I 0 ρ M1)(hf:∀ρ M,I n ρ M->s.fin M=true)
 (step:∀i ρ M,i<n->I i ρ M->∃d Z,s.item i M=some d/\t.put d ρ=some Z/\Goes I R (i+1) (b.den W Z M)):Goes I R n ((Cu.for_ t it b).den W ρ M):=by
 rw[Oh,G,Res.Cm,hn];exact ago I R (λi ρ M hi h=>by
  obtain⟨d,Z,a,b,c⟩:=step i ρ M hi h;exact⟨d,a,by rw[b];exact c⟩) hf n 0 ρ M1 (q9 n) h0
def T5{it:Ex}{n:Nat}(G:it.den W ρ M=.ok (.int (n:Int)) M1)(hn:n<=100000)(I:Nat->Env->dg->Prop)(R:D->dg->Prop)(h0:I 0 ρ M1)
 (step:∀i ρ M,i<n->I i ρ M->∃Z,t.put (.int i) ρ=some Z/\Goes I R (i+1) (b.den W Z M)):Goes I R n ((Cu.for_ t (.Jg it) b).den W ρ M):=by
 exact agp (s:=.con ((List.range n).map λ(k:Nat)=>D.int (k:Int))) (by rw[Kq,G];simp[hn]) (by simp[Src.len]) I R h0 (λ_ _ _=>rfl) (λi ρ M hi h=>by
  obtain⟨Z,a⟩:=step i ρ M hi h;exact⟨.int i,Z,by simp[Src.item,hi],a⟩)
end
end MW
namespace K13
open MW
noncomputable section
def Hv:rm:=.p (.f (.cmp .lt (.v 1) (.l (.v 0))) (.o (.ret (.ix (.v 0) (.v 1))))) (.ret (.i 0))
def Hw:Fn:=⟨2,2,Hv⟩
def Ku:rm:=.q (.a 2 (.call 0 (.p (.v 0) (.v 1)))) (.f (.cmp .ge (.v 2) (.bin .pow (.i 10) (.i 18))) (.o (.ret (.lst (.p (.bin .sub (.v 2) (.bin .pow (.i 10) (.i 18))) (.cst (.bl true))))))) (.ret (.lst (.p (.bin .mod (.v 2) (.i 2147483647)) (.cst (.bl false)))))
def Kv:Fn:=⟨2,3,Ku⟩
def Mx:rm:=.c (.f (.ix (.v 0) (.i 1)) (.q (.a 2 (.bin .mod (.ix (.v 0) (.i 0)) (.v 1))) (.asg (.sub (.v 0) (.i 0)) (.bin .fdiv (.ix (.v 0) (.i 0)) (.v 1))) (.ret (.v 2)))) (.c (.asg (.sub (.v 0) (.i 0)) (.bin .mod (.bin .add (.bin .mul (.ix (.v 0) (.i 0)) (.i 48271)) (.i 29)) (.i 2147483647))) (.q (.a 3 (.bin .mod (.bin .add (.bin .add (.bin .mul (.ix (.v 0) (.i 0)) (.ix (.v 0) (.i 0))) (.bin .mul (.i 39373) (.ix (.v 0) (.i 0)))) (.i 7)) (.i 2147483629))) (.a 3 (.bin .mod (.bin .add (.bin .mul (.v 3) (.v 3)) (.bin .mul (.i 16807) (.v 3))) (.i 2147483587))) (.ret (.bin .mod (.bin .fdiv (.v 3) (.i 8)) (.v 1)))))
def My:Fn:=⟨2,4,Mx⟩
def Hx:Ex:=.comp true 1 (.name 12) (.Jg (.ix (.v 7) (.v 10))) (.call 2 (.p (.v 0) (.ix (.v 7) (.v 11))))
def Ec:rm:=.q (.a 10 (.call 2 (.p (.v 0) (.v 6)))) (.a 11 (.call 2 (.p (.v 0) (.v 6)))) (.expr (.bm .append (.v 8) (.o (.tup (.q (.v 10) (.v 11) (.blt .tuple (.o Hx)))))))
def Hy:Cu:=.for_ (.name 9) (.Jg (.call 2 (.p (.v 0) (.i 4)))) Ec
def Hz:Ex:=.comp true 1 (.name 12) (.Jg (.v 6)) (.bin .add (.i 1) (.call 2 (.p (.v 0) (.i 3))))
def Kw:rm:=.c (.a 1 (.call 2 (.p (.v 0) (.i 12)))) (.c (.f (.cmp .lt (.v 1) (.i 7)) (.c (.a 2 (.Hr (.p (.tup (.q (.i 0) (.i 1) (.tup (.p (.i 0) (.i 1))))) (.tup (.q (.i 0) (.i 1) (.tup (.p (.i 1) (.i 0)))))))) (.c (.a 3 (.Hr (.q (.tup (.q (.i 0) (.i 1) (.tup (.c (.i 0) (.q (.i 0) (.i 1) (.i 1)))))) (.tup (.q (.i 0) (.i 1) (.tup (.c (.i 0) (.q (.i 1) (.i 0) (.i 1)))))) (.tup (.q (.i 1) (.i 0) (.tup (.p (.i 0) (.i 3)))))))) (.q (.a 4 (.Hr (.o (.tup (.q (.i 0) (.i 0) (.tup (.p (.i 1) (.i 0)))))))) (.a 5 (.Hr (.c (.v 2) (.c (.v 3) (.c (.v 4) (.c (.Hr (.o (.tup (.q (.i 0) (.i 0) (.tup (.q (.i 1) (.i 2) (.i 0))))))) (.q (.Hr (.o (.tup (.q (.i 0) (.i 0) (.tup (.p (.i 0) (.i 0))))))) (.Hr .z) (.Hr (.p (.tup (.q (.i 0) (.i 1) (.tup (.p (.i 0) (.i 1))))) (.tup (.q (.i 1) (.i 2) (.tup (.q (.i 0) (.i 0) (.i 1)))))))))))))) (.ret (.ix (.v 5) (.v 1))))))) (.c (.a 6 (.bin .add (.i 1) (.call 2 (.p (.v 0) (.i 3))))) (.c (.a 7 Hz) (.q (.a 8 (.lst .z)) Hy (.ret (.v 8))))))
def Dg:Fn:=⟨1,12,Kw⟩
def Gp:Ex:=.comp true 1 (.name 10) (.val (.ix (.v 7) (.i 2))) (.ix (.ix (.v 8) (.i 2)) (.v 10))
def Cd:rm:=.c (.a 4 (.tup .z)) (.q (.f (.cmp .eq (.ix (.v 7) (.i 1)) (.ix (.v 8) (.i 0))) (.o (.a 4 (.blt .tuple (.o Gp))))) (.a 9 (.tup (.q (.ix (.v 7) (.i 0)) (.ix (.v 8) (.i 1)) (.v 4)))) (.f (.and (.cmp .ne (.v 4) (.tup .z)) (.and (.cmp .T4 (.v 9) (.v 1)) (.or (.cmp .ne (.ix (.v 9) (.i 0)) (.ix (.v 9) (.i 1))) (.cmp .ne (.v 4) (.aeo (.l (.v 4))))))) (.o (.expr (.bm .append (.v 1) (.o (.v 9)))))))
def Gq:Cu:=.for_ (.names [7,8]) (.val (.Hr (.p (.tup (.p (.ix (.v 1) (.v 5)) (.ix (.v 1) (.v 6)))) (.tup (.p (.ix (.v 1) (.v 6)) (.ix (.v 1) (.v 5))))))) Cd
def Gr:rm:=.o Gq
def Gu:Cu:=.for_ (.name 6) (.Jg (.l (.v 1))) Gr
def Ln:rm:=.p Gu (.a 5 (.bin .add (.v 5) (.i 1)))
def Gv:Cu:=.whl (.and (.cmp .lt (.v 5) (.l (.v 1))) (.cmp .lt (.l (.v 1)) (.i 6))) Ln
def Aa:rm:=.o (.f (.and (.or (.cmp .ne (.v 2) (.v 3)) (.cmp .ne (.v 4) (.aeo (.l (.v 4))))) (.cmp .T4 (.tup (.q (.v 2) (.v 3) (.v 4))) (.v 1))) (.o (.expr (.bm .append (.v 1) (.o (.tup (.q (.v 2) (.v 3) (.v 4))))))))
def Gw:Cu:=.for_ (.names [2,3,4]) (.val (.v 0)) Aa
def Oz:rm:=.c (.a 1 (.lst .z)) (.c Gw (.q (.a 5 (.i 0)) Gv (.ret (.v 1))))
def O1:Fn:=⟨1,10,Oz⟩
def Ez:Ex:=.comp true 3 (.names [8,9,10]) (.val (.v 2)) (.tup (.p (.v 8) (.v 9)))
def Fb:Ex:=.comp true 1 (.name 8) (.val (.ix (.ix (.v 2) (.v 5)) (.i 2))) (.ix (.ix (.ix (.v 2) (.v 6)) (.i 2)) (.v 8))
def Ba:rm:=.o (.f (.cmp .eq (.ix (.ix (.v 2) (.v 5)) (.i 1)) (.ix (.ix (.v 2) (.v 6)) (.i 0))) (.p (.a 7 (.tup (.q (.ix (.ix (.v 2) (.v 5)) (.i 0)) (.ix (.ix (.v 2) (.v 6)) (.i 1)) (.blt .tuple (.o Fb))))) (.asg (.sub (.v 4) (.tup (.p (.v 5) (.v 6)))) (.ite (.cmp .inn (.v 7) (.v 2)) (.bm .index (.v 2) (.o (.v 7))) (.neg (.i 1))))))
def J0:Cu:=.for_ (.name 6) (.Jg (.l (.v 2))) Ba
def Fe:rm:=.o J0
def Ff:Cu:=.for_ (.name 5) (.Jg (.l (.v 2))) Fe
def Fi:Ex:=.comp true 3 (.names [8,9,10]) (.val (.v 2)) (.blt .max (.p (.v 8) (.v 9)))
def Ka:rm:=.p (.a 1 (.cut (.v 1) .none (.some (.neg (.i 1))))) (.a 2 (.call 4 (.o (.v 1))))
def Fj:Cu:=.whl (.cmp .gt (.l (.v 2)) (.i 5)) Ka
def Mz:rm:=.c (.a 1 (.call 3 (.o (.v 0)))) (.c (.a 2 (.call 4 (.o (.v 1)))) (.c Fj (.c (.a 3 (.bin .add (.i 1) (.blt .max (.o (.bin .add Fi (.Hr (.o (.i 0)))))))) (.c (.f (.cmp .eq (.v 2) (.Hr .z)) (.o (.a 3 (.bin .add (.i 1) (.call 2 (.p (.v 0) (.i 3))))))) (.q (.a 4 .aij) Ff (.ret (.tup (.q (.v 3) (.blt .tuple (.o Ez)) (.v 4)))))))))
def M9:Fn:=⟨1,8,Mz⟩
def Jr:Ex:=.Eb true 1 (.name 2) (.Jg (.l (.ix (.v 0) (.i 1)))) (.cmp .eq (.ix (.ix (.ix (.v 0) (.i 1)) (.v 2)) (.i 0)) (.v 1)) (.v 2)
def T6:rm:=.o (.ret (.bin .add (.Hr (.o (.neg (.i 1)))) Jr))
def T7:Fn:=⟨2,2,T6⟩
def P0:rm:=.o (.ret (.ite (.cmp .lt (.v 2) (.i 0)) (.v 1) (.ix (.ix (.ix (.v 0) (.i 1)) (.v 2)) (.i 1))))
def Qa:Fn:=⟨3,3,P0⟩
def Fw:rm:=.p (.f (.or (.cmp .lt (.v 1) (.i 0)) (.cmp .lt (.v 2) (.i 0))) (.o (.ret (.bin .add (.bin .add (.v 1) (.v 2)) (.i 1))))) (.ret (.ix (.ix (.v 0) (.i 2)) (.tup (.p (.v 1) (.v 2)))))
def Fy:Fn:=⟨3,3,Fw⟩
def Ky:Ex:=.comp true 1 (.name 1) (.val (.v 0)) (.cmp .eq (.blt .Gn (.o (.v 1))) (.l (.v 1)))
def Vo:rm:=.o (.ret (.blt .all (.o Ky)))
def Vp:Fn:=⟨1,1,Vo⟩
def Nb:Ex:=.comp true 2 (.names [2,3]) (.zip (.p (.v 1) (.ix (.v 0) (.i 0)))) (.cmp .eq (.blt .Gn (.o (.v 2))) (.v 3))
def Xu:rm:=.o (.ret (.blt .all (.o Nb)))
def Xv:Fn:=⟨2,2,Xu⟩
def Lp:Ex:=.comp true 1 (.name 2) (.val (.v 1)) (.call 12 (.o (.v 2)))
def Fz:rm:=.p (.f (.not (.and (.call 9 (.o (.v 1))) (.call 10 (.p (.v 0) (.v 1))))) (.o (.raise 2))) (.ret (.blt .tuple (.o Lp)))
def Ga:Fn:=⟨2,2,Fz⟩
def Ed:rm:=.o (.asg (.sub (.v 1) (.v 3)) (.v 2))
def Nf:Cu:=.for_ (.names [2,3]) (.enm (.v 0)) Ed
def Qs:rm:=.q (.a 1 (.blt .list (.o (.v 0)))) Nf (.ret (.blt .tuple (.o (.v 1))))
def Qt:Fn:=⟨1,4,Qs⟩
def Lq:Ex:=.comp true 1 (.name 13) (.val (.ix (.v 1) (.v 6))) (.ite (.cmp .eq (.v 13) (.v 12)) (.v 11) (.v 13))
def Ce:rm:=.c (.a 9 (.ix (.ix (.v 1) (.v 5)) (.v 8))) (.q (.a 10 (.ix (.ix (.v 1) (.v 6)) (.ix (.ix (.v 2) (.v 4)) (.v 8)))) (.f (.cmp .ne (.bm .get (.v 7) (.p (.v 9) (.v 10))) (.v 10)) (.c (.a 11 (.blt .min (.p (.ix (.v 7) (.v 9)) (.v 10)))) (.c (.a 12 (.blt .max (.p (.ix (.v 7) (.v 9)) (.v 10)))) (.c (.asg (.sub (.v 1) (.v 6)) Lq) (.q (.a 3 (.cst (.bl true))) (.a 7 .Za) .brk))))) (.asg (.sub (.v 7) (.v 9)) (.v 10)))
def Lr:Cu:=.for_ (.name 8) (.Jg (.l (.ix (.v 1) (.v 5)))) Ce
def Dq:rm:=.q (.asg (.tg (.names [5,6])) (.ix (.ix (.v 0) (.i 1)) (.v 4))) (.a 7 .Za) Lr
def Ls:Cu:=.for_ (.name 4) (.Jg (.l (.ix (.v 0) (.i 1)))) Dq
def Gx:rm:=.p (.a 3 (.cst (.bl false))) Ls
def Gy:Cu:=.whl (.v 3) Gx
def O2:rm:=.q (.a 3 (.cst (.bl true))) Gy (.ret (.v 1))
def O3:Fn:=⟨3,13,O2⟩
def Ia:Ex:=.comp true 1 (.name 19) (.val (.v 16)) (.l (.v 19))
def Ib:Ex:=.comp true 1 (.name 19) (.val (.v 18)) (.bm .index (.ix (.v 16) (.v 12)) (.o (.v 19)))
def Ie:Ex:=.comp true 1 (.name 19) (.val (.ix (.v 16) (.v 11))) (.ix (.ix (.v 13) (.v 12)) (.ix (.ix (.v 9) (.v 10)) (.v 19)))
def Ef:rm:=.q (.asg (.tg (.names [11,12])) (.ix (.ix (.v 1) (.i 1)) (.v 10))) (.a 18 Ie) (.expr (.bm .append (.v 17) (.o (.blt .tuple (.o Ib)))))
def Ng:Cu:=.for_ (.name 10) (.Jg (.l (.ix (.v 1) (.i 1)))) Ef
def Ig:Ex:=.comp true 1 (.name 19) (.val (.v 13)) (.blt .De (.o (.v 19)))
def Nh:Ex:=.comp true 1 (.name 19) (.val (.ix (.v 13) (.v 5))) (.ite (.cmp .eq (.v 19) (.v 15)) (.v 14) (.v 19))
def Dc:rm:=.c (.a 5 (.call 2 (.p (.v 0) (.ix (.v 1) (.i 0))))) (.q (.a 11 (.call 2 (.p (.v 0) (.i 7)))) (.a 12 (.call 2 (.p (.v 0) (.i 7)))) (.f (.cmp .lt (.blt .max (.p (.v 11) (.v 12))) (.l (.ix (.v 13) (.v 5)))) (.c (.a 14 (.blt .min (.p (.ix (.ix (.v 13) (.v 5)) (.v 11)) (.ix (.ix (.v 13) (.v 5)) (.v 12))))) (.q (.a 15 (.blt .max (.p (.ix (.ix (.v 13) (.v 5)) (.v 11)) (.ix (.ix (.v 13) (.v 5)) (.v 12))))) (.asg (.sub (.v 13) (.v 5)) Nh) (.a 13 (.call 13 (.q (.v 1) (.v 13) (.v 9))))))))
def Ni:Cu:=.for_ (.name 10) (.Jg (.call 2 (.p (.v 0) (.i 4)))) Dc
def Ih:Ex:=.comp false 1 (.name 19) (.val (.v 3)) (.Uo (.l (.v 19)))
def Ii:Ex:=.comp true 3 (.names [19,20,21]) (.val (.ix (.v 3) (.v 11))) (.bm .index (.ix (.v 3) (.v 12)) (.o (.tup (.q (.v 19) (.v 20) (.call 8 (.q (.v 1) (.v 21) (.v 10)))))))
def Ij:rm:=.p (.asg (.tg (.names [11,12])) (.ix (.ix (.v 1) (.i 1)) (.v 10))) (.expr (.bm .append (.v 9) (.o Ii)))
def Nj:Cu:=.for_ (.name 10) (.Jg (.l (.ix (.v 1) (.i 1)))) Ij
def Ik:Ex:=.comp true 1 (.name 19) (.val (.v 3)) (.l (.v 19))
def Eg:rm:=.o (.expr (.bm .append (.ix (.v 3) (.v 7)) (.o (.tup (.q (.v 4) (.v 5) (.v 8))))))
def Nk:Cu:=.for_ (.names [7,8]) (.val (.v 6)) Eg
def Il:Ex:=.comp true 1 (.name 19) (.val (.call 6 (.p (.v 1) (.v 5)))) (.tup (.p (.call 7 (.q (.v 1) (.v 5) (.v 19))) (.v 19)))
def Dd:rm:=.q (.a 5 (.call 2 (.p (.v 0) (.ix (.v 1) (.i 0))))) (.a 6 Il) (.f (.cmp .lt (.bin .add (.blt .max (.o Ik)) (.l (.v 6))) (.i 8)) (.o Nk))
def Np:Cu:=.for_ (.name 4) (.Jg (.call 2 (.p (.v 0) (.bin .add (.v 2) (.i 1))))) Dd
def Lw:Ex:=.comp true 1 (.name 19) (.Jg (.ix (.v 1) (.i 0))) (.lst .z)
def Qu:rm:=.c (.a 3 Lw) (.c Np (.c (.a 9 (.lst .z)) (.c Nj (.c (.a 13 Ih) (.c Ni (.c (.a 16 Ig) (.q (.a 17 (.lst .z)) Ng (.ret (.tup (.p (.blt .tuple (.o Ia)) (.blt .tuple (.o (.v 17)))))))))))))
def Qv:Fn:=⟨3,19,Qu⟩
def Qc:rm:=.o (.ret (.ite (.cmp .lt (.v 2) (.i 0)) (.v 1) (.ix (.ix (.ix (.v 0) (.i 1)) (.v 2)) (.v 1))))
def Qd:Fn:=⟨3,3,Qc⟩
def Eh:rm:=.c (.a 9 (.call 7 (.q (.v 0) (.v 4) (.v 8)))) (.c (.a 10 (.call 15 (.q (.v 1) (.v 5) (.v 8)))) (.q (.a 11 (.call 15 (.q (.v 2) (.v 6) (.v 8)))) (.f (.cmp .ne (.bm .get (.ix (.v 7) (.v 9)) (.p (.v 10) (.v 11))) (.v 11)) (.o (.ret (.cst .non)))) (.asg (.sub (.ix (.v 7) (.v 9)) (.v 10)) (.v 11))))
def Im:Cu:=.for_ (.name 8) (.val (.call 6 (.p (.v 0) (.v 4)))) Eh
def Ip:Ex:=.comp true 1 (.name 12) (.val (.v 3)) (.blt .dict (.o (.v 12)))
def Kz:rm:=.q (.a 7 Ip) Im (.ret (.v 7))
def K1:Fn:=⟨7,12,Kz⟩
def Ei:Ex:=.comp true 1 (.name 11) (.Jg (.ix (.ix (.v 2) (.i 0)) (.v 10))) (.ix (.ix (.v 4) (.v 10)) (.v 11))
def Ej:Ex:=.comp true 1 (.name 10) (.Jg (.ix (.v 1) (.i 0))) (.blt .tuple (.o Ei))
def Cq:rm:=.o (.f (.cmp .is (.v 7) (.cst .non)) (.o (.a 7 (.call 16 (.c (.v 1) (.c (.v 2) (.c (.v 3) (.c (.v 4) (.q (.v 5) (.v 6) (.bin .mod (.bin .add (.v 9) (.v 8)) (.ix (.ix (.v 3) (.i 0)) (.v 5))))))))))))
def Jj:Cu:=.for_ (.name 9) (.Jg (.ix (.ix (.v 3) (.i 0)) (.v 5))) Cq
def Am:rm:=.o (.f (.cmp .T4 (.v 6) (.ix (.v 4) (.v 5))) (.c (.a 7 (.cst .non)) (.c (.a 8 (.call 2 (.p (.v 0) (.blt .max (.p (.i 1) (.ix (.ix (.v 3) (.i 0)) (.v 5))))))) (.q Jj (.f (.cmp .is (.v 7) (.cst .non)) (.o (.ret (.cst .non)))) (.a 4 (.v 7))))))
def Jk:Cu:=.for_ (.name 6) (.Jg (.ix (.ix (.v 2) (.i 0)) (.v 5))) Am
def Cr:rm:=.o Jk
def Jl:Cu:=.for_ (.name 5) (.Jg (.ix (.v 1) (.i 0))) Cr
def Ek:Ex:=.comp true 1 (.name 10) (.Jg (.ix (.v 1) (.i 0))) .Za
def Gz:rm:=.q (.a 4 Ek) Jl (.ret (.blt .tuple (.o Ej)))
def G3:Fn:=⟨4,10,Gz⟩
def G4:Ex:=.comp true 1 (.name 5) (.Jg (.v 3)) (.bm .pop (.v 4) (.o (.call 2 (.p (.v 0) (.l (.v 4))))))
def Dr:rm:=.p (.a 4 (.Uo (.v 3))) (.expr (.bm .append (.v 2) (.o (.blt .tuple (.o G4)))))
def Lx:Cu:=.for_ (.name 3) (.val (.ix (.v 1) (.i 0))) Dr
def O4:rm:=.q (.a 2 (.lst .z)) Lx (.ret (.blt .tuple (.o (.v 2))))
def O5:Fn:=⟨2,5,O4⟩
def G5:rm:=.p (.a 9 (.bm .Hq (.ix (.v 2) (.v 5)) (.o (.v 8)))) (.expr (.bm .append (.v 7) (.o (.ix (.ix (.v 2) (.v 6)) (.ix (.ix (.ix (.v 1) (.i 1)) (.v 4)) (.v 9))))))
def Ly:Cu:=.for_ (.name 8) (.Jg (.ix (.ix (.v 1) (.i 0)) (.v 5))) G5
def G6:rm:=.c (.asg (.tg (.names [5,6])) (.ix (.ix (.v 0) (.i 1)) (.v 4))) (.q (.a 7 (.lst .z)) Ly (.expr (.bm .append (.v 3) (.o (.blt .tuple (.o (.v 7)))))))
def Lz:Cu:=.for_ (.name 4) (.Jg (.l (.ix (.v 0) (.i 1)))) G6
def O6:rm:=.q (.a 3 (.lst .z)) Lz (.ret (.tup (.p (.ix (.v 1) (.i 0)) (.blt .tuple (.o (.v 3))))))
def O7:Fn:=⟨3,10,O6⟩
def G7:Ex:=.comp true 1 (.name 9) (.Jg (.l (.v 8))) (.bm .Hq (.v 8) (.o (.v 9)))
def G8:Ex:=.comp true 1 (.name 8) (.val (.v 2)) (.blt .tuple (.o G7))
def Ci:rm:=.p (.a 3 (.and (.v 3) (.cmp .eq (.blt .Gn (.o (.ix (.v 2) (.v 5)))) (.l (.ix (.v 2) (.v 5)))))) (.a 4 (.and (.v 4) (.cmp .eq (.blt .De (.o (.ix (.v 2) (.v 5)))) (.Uo (.ix (.ix (.v 1) (.i 0)) (.v 5))))))
def Ma:Cu:=.for_ (.name 5) (.Jg (.l (.v 2))) Ci
def Gb:rm:=.c (.a 3 (.cst (.bl true))) (.c (.a 4 (.cst (.bl true))) (.c Ma (.c (.a 6 (.Hr (.p (.call 9 (.o (.v 2))) (.call 10 (.p (.v 1) (.v 2)))))) (.c (.f (.or (.cmp .ne (.v 6) (.Hr (.p (.v 3) (.v 4)))) (.or (.not (.blt .isBool (.o (.ix (.v 6) (.i 0))))) (.not (.blt .isBool (.o (.ix (.v 6) (.i 1))))))) (.o (.ret (.cst (.bl false))))) (.c (.f (.or (.not (.v 3)) (.not (.v 4))) (.o (.ret (.cmp .eq (.aik 11 (.p (.v 1) (.v 2))) (.Hr (.o (.i 1))))))) (.q (.a 7 (.blt .tuple (.o G8))) (.a 6 (.call 11 (.p (.v 1) (.v 2)))) (.ret (.and (.blt .isTuple (.o (.v 6))) (.and (.cmp .eq (.v 6) (.v 7)) (.cmp .eq (.call 11 (.p (.v 0) (.v 6))) (.v 2)))))))))))
def Ge:Fn:=⟨3,8,Gb⟩
def U3:rm:=.c (.a 4 (.call 14 (.q (.v 1) (.v 2) (.i 3)))) (.c (.a 5 (.call 14 (.q (.v 1) (.v 2) (.i 3)))) (.c (.a 6 (.call 17 (.c (.v 1) (.q (.v 2) (.v 4) (.v 5))))) (.q (.f (.and (.cmp .Xo (.v 6) (.cst .non)) (.not (.call 20 (.q (.v 4) (.v 5) (.v 6))))) (.o (.ret (.cst (.bl false))))) (.a 7 (.call 18 (.p (.v 1) (.v 4)))) (.f (.not (.call 20 (.q (.v 4) (.call 19 (.q (.v 2) (.v 4) (.v 7))) (.v 7)))) (.o (.ret (.cst (.bl false))))))))
def agq:Cu:=.for_ (.name 3) (.Jg (.i 3)) U3
def av7:rm:=.c (.a 1 (.call 1 (.p (.v 0) (.i 0)))) (.c (.a 2 (.call 5 (.o (.v 1)))) (.q agq (.a 8 (.tup (.p (.bin .mul (.tup (.o (.i 0))) (.ix (.v 2) (.i 0))) (.bin .mul (.tup (.o (.tup .z))) (.l (.ix (.v 2) (.i 1))))))) (.ret (.call 20 (.q (.v 8) (.v 8) (.bin .mul (.tup (.o (.tup .z))) (.ix (.v 2) (.i 0))))))))
def al0:Fn:=⟨1,9,av7⟩
def Fl:Ex:=.Eb true 1 (.name 4) (.Jg (.i 6)) (.ix (.v 3) (.v 4)) (.v 4)
def Nq:rm:=.c (.a 3 (.Hr (.q (.blt (.isE 1) (.o (.v 1))) (.blt (.isE 2) (.o (.v 1))) (.blt (.isE 3) (.o (.v 1)))))) (.q (.a 3 (.bin .add (.v 3) (.Hr (.q (.blt (.isE 4) (.o (.v 1))) (.blt (.isE 5) (.o (.v 1))) (.blt (.isE 6) (.o (.v 1))))))) (.f (.not (.blt (.isE 0) (.o (.v 1)))) (.o (.ret (.cst .non)))) (.ret Fl))
def Ir:Fn:=⟨1,4,Nq⟩
def prog:Prog:=⟨[Hw,Kv,My,Dg,O1,M9,T7,Qa,Fy,Vp,Xv,Ga,Qt,O3,Qv,Qd,K1,G3,O5,O7,Ge,al0],Ir⟩
end
abbrev PW(m:Nat):Gf:=⟨prog.call m,prog.cae m,prog.rfd m⟩
set_option genInjectivity true in
structure F where
 a:Nat
 b:Nat
 r:List Nat
 deriving DecidableEq
noncomputable def nD(x:Nat):D:=.int (x:Int)
def Er(r:Y2):D:=.tup (r.map nD)
def F.toD(f:F):D:=.tup [.int f.a,.int f.b,Er f.r]
def agr(x y:Nat):decide ((x:Int)=(y:Int))=decide (x=y):=by
 by_cases h:x=y
 .simp[h]
 .have:¬((x:Int)=(y:Int)):=by lia
  simp[h,this]
def Qw(M:dg)(n x y:Nat):Ko M (n+1) (.int x) (.int y)=some (decide (x=y)):=by rw[agk,agr]
theorem U4(M:dg)(n:Nat):∀r s:List Nat,Qn (Ko M (n+1)) (r.map nD) (s.map nD)=some (decide (r=s))
 |[],[]=>by simp[Qn]|[],_::_=>by simp[Qn]|_::_,[]=>by simp[Qn]
 |x::r,y::s=>by
  rw[iz,iz,Ht (a:=nD x) (b:=nD y) (Qw M n x y) (U4 M n r s)]
  by_cases h:x=y<;>simp[h]
def aeu(M:dg)(r s:Y2):ym M (Er r) (Er s)=some (decide (r=s)):=U4 M 4 r s
def bb5(M:dg)(f g:F):ym M f.toD g.toD=some (decide (f=g)):=by obtain⟨a,b,r⟩:=f;obtain⟨c,d,s⟩:=g;have e:Ko M 5 (Er r) (Er s)=some (decide (r=s)):=U4 M 3 r s;show Qn (Ko M 5) [.int a,.int b,Er r] [.int c,.int d,Er s]=_;rw[Ht (Qw M 4 a c) (Ht (Qw M 4 b d) (Ht e (show Qn (Ko M 5) [] []=some true from rfl)))];simp
theorem al1(M:dg)(g:F):∀fs:List F,Ot M g.toD (fs.map F.toD)=some (fs.map λf=>decide (f=g))
 |[]=>rfl|f::fs=>by simp only[iz,Ot,bb5,al1 M g fs]
def al2(M:dg)(g:F)(fs:List F):memD M g.toD (fs.map F.toD)=some (decide (g∈fs)):=by
 rw[memD,al1,xj]
 congr 1
 induction fs with
 |nil=>simp
 |cons f fs Z =>
  by_cases h:f=g
  .simp[h]
  .simp only[iz,List.any_cons,Z,cj,id]
   simp[h,j0 h]
noncomputable def pos(g:F):List F->Nat
 |[]=>0|f::fs=>if f=g then 0 else pos g fs+1
def a4h(M:dg)(g:F)(fs:List F):Qo M g.toD (fs.map F.toD)=if g∈fs then some (pos g fs) else none:=by
 rw[Qo,al1,qu]
 induction fs with
 |nil=>simp
 |cons f fs G =>
  rw[iz,List.findIdx?_cons,G,pos]
  by_cases h:f=g
  .simp[h]
  .by_cases Z:g∈fs<;>simp[h,j0 h,Z]
theorem Zh(g:F):∀{fs:List F},g∈fs->fs[pos g fs]?=some g
 |f::fs,h=>by
  by_cases e:f=g
  .simp[pos,e]
  .have:g∈fs:=by
    rcases cj.mp h with q|q
    .exact absurd q.symm e
    .exact q
   simp[pos,e,Zh g this]
def aev(R:fs.Nodup)(h:fs[i]?=some f):pos f fs=i:=by have m:f∈fs:=au h;have g:=Zh f m;obtain⟨l1,Z⟩:=aj.mp h;obtain⟨l2,G⟩:=aj.mp g;exact(Aq R).mp (G.trans Z.symm)
noncomputable def F.comp(f g:F):F:=⟨f.a,g.b,f.r.map λx=>g.r.getD x 0⟩
def F.Ou(f:F):Prop:=f.a=f.b/\f.r=List.range f.r.length
instance (f:F):Decidable f.Ou:=inferInstanceAs (Decidable (_/\_))
structure Wy(sz:Nat->Nat)(f:F):Prop where
 a:f.a<3
 b:f.b<3
 len:f.r.length=sz f.a
 ran:∀x∈f.r,x<sz f.b
def Sz(sz:Nat->Nat):Prop:=∀k,1<=sz k/\sz k<=4
def Good(sz:Nat->Nat)(fs:List F):Prop:=∀f∈fs,Wy sz f
def getD_mem{r:Y2}(h:x<r.length):r.getD x 0∈r:=by rw[aq,bu h];exact ux h
theorem Wy.comp(Z:Wy sz f)(G:Wy sz g)(h:f.b=g.a):Wy sz (f.comp g):=by
 refine⟨Z.a,G.b,by simp[F.comp,Z.len],λx R=>?_⟩;obtain⟨y,hy,rfl⟩:=bz.mp R;have:y<g.r.length:=by rw[G.len,<- h];exact Z.ran y hy
 exact G.ran _ (getD_mem this)
def abj(r:Y2):(List.range r.length).map (λx=>r.getD x 0)=r:=by
 apply yw;intro i
 by_cases h:i<r.length
 .simp[h,qx h]
 .simp[Nat.le_of_not_lt h,m7]
def aew(R:Wy sz f)(hg:Wy sz g)(Z:f.b=g.a):(f.comp g).comp h=f.comp (g.comp h):=by
 simp only[F.comp,yt,F.mk.injEq,true_and];apply ph;intro x G;have:x<g.r.length:=by rw[hg.len,<- Z];exact R.ran x G
 simp[this]
noncomputable def idF(sz:Nat->Nat)(k:Nat):F:=⟨k,k,List.range (sz k)⟩
def Zi(G:Wy sz f)(h:f.Ou):f=idF sz f.a:=by obtain⟨a,b,r⟩:=f;obtain⟨R,Z⟩:=h;have:=G.len;simp only[idF] at *;subst R;rw[<- this,<- Z]
def id_comp(Z:Wy sz f):(idF sz f.a).comp f=f:=by obtain⟨a,b,r⟩:=f;have:=Z.len;simp only[idF,F.comp] at *;rw[<- this,abj]
def comp_id(Z:Wy sz f):f.comp (idF sz f.b)=f:=by
 obtain⟨a,b,r⟩:=f;have:=Z.ran;simp only[idF,F.comp,F.mk.injEq,true_and] at *
 conv=>rhs;rw[<- List.map_id r]
 apply ph;intro x G;simp[qx (this x G)]
def Nr(fs:List F):Prop:=∀f∈fs,∀g∈fs,f.b=g.a->f.comp g∈fs\/(f.comp g).Ou
def call_of(R:1<=m)(G:prog.fns[f]?=some Z):prog.call m f ds M=Z.run (PW (m-1)) ds M:=by obtain⟨n,rfl⟩:∃n,m=n+1:=⟨m-1,by lia⟩;simp only[Prog.call,Prog.Ql,G];rfl
def ax0(R:1<=m)(G:prog.fns[f]?=some Z):prog.cae m f ds M=Z.aba (PW (m-1)) ds M:=by obtain⟨n,rfl⟩:∃n,m=n+1:=⟨m-1,by lia⟩;simp only[Prog.cae,Prog.Ql,G];rfl
def ax1(Z:1<=m):prog.rfd m c M=prog.rf.aim (PW (m-1)) c M:=by obtain⟨n,rfl⟩:∃n,m=n+1:=⟨m-1,by lia⟩;rfl
def ax2(n:Int)(f:Bool):Prop:=0<=n/\(f=false->n<2147483647)
def Su(t:Nat)(f:Bool)(M:dg):Prop:=∃n,M[t]?=some (.lst [.int n,.bl f])/\ax2 n f
structure St(t:Nat)(f:Bool)(M M':dg):Prop where
 len:M.length<=M'.length
 has:Su t f M'
 keep:∀(a:Nat)(o:MO),a≠t->M[a]?=some o->M'[a]?=some o
def St.trans(a:St t f M Z)(b:St t f Z M2):St t f M M2 :=
 ⟨ig a.len b.len,b.has,λx o n h=>b.keep x o n (a.keep x o n h)⟩
def St.of(h:Su t f M)(k:zc M M'):St t f M M' :=
 ⟨k.len,let ⟨n,a,b⟩:=h;⟨n,k _ _ a,b⟩,λa o _ e=>k a o e⟩
def Br(hm:1<=m)(hs:Su t f M)(Z:0<many)(hq:many<1073741824) :
 ∃(v:Nat)(R:dg),prog.call m 2 [.ref t,.int many] M=.ok (.int v) R/\(v:Int)<many/\St t f M R/\R.length=M.length:=by
 obtain⟨n,h,G⟩:=hs;rw[call_of hm rfl];have hl:=o6 h;have g0:=Df hl (i:=0) (by decide) rfl;have g1:=Df hl (i:=1) (by decide) rfl;have fin:∀n':Int,ax2 n' f->St t f M (M.set t (.lst [.int n',.bl f])):=λn' o=>⟨by simp,⟨n',wj h,o⟩,λa u e q=>by rw[uh (j0 e)];exact q⟩
 have qq:many≠0:=by lia
 have c1:∀y:Int,∃v:Nat,y%many=(v:Int)/\(v:Int)<many:=λy=>by have a:=Bd y qq;have b:=Ad y Z;exact⟨(y%many).toNat,by lia,by lia⟩
 cases f with
 |true =>
  obtain⟨v,e,l⟩:=c1 n;refine⟨v,_,?_,l,fin (n / many) ⟨Int.ediv_nonneg G.1 (by lia),by simp⟩,by simp⟩;simp[Fn.run,My,Mx,g0,g1,Z,Xp _ _ Z hq,Uz h,e]
 |false =>
  have h1:=G.1;have h2:=G.2 rfl;obtain⟨n',en⟩:∃n',(n*48271+29)%2147483647=n':=⟨_,rfl⟩;have e1:0<=n':=en▸Bd _ (by decide)
  have e2:n'<2147483647:=en▸Ad _ (by decide)
  obtain⟨x,ex⟩:∃x,(n'*n'+39373*n'+7)%2147483629=x:=⟨_,rfl⟩;have x1:0<=x:=ex▸Bd _ (by decide)
  have x2:x<2147483629:=ex▸Ad _ (by decide)
  obtain⟨y,ey⟩:∃y,(x*x+16807*x)%2147483587=y:=⟨_,rfl⟩;obtain⟨v,e,l⟩:=c1 (y / 8);refine⟨v,_,?_,l,fin n' ⟨e1,λ_=>e2⟩,by simp⟩;have k:=wj (o:=.lst [.int n',.bl false]) h;have k0:=Df (o6 k) (i:=0) (by decide) rfl;simp[Fn.run,My,Mx,g0,g1,Z,Uz h,Mv n 48271 (.inr (by decide)),en,k0,Mv n' n' (.inl (by lia)),Mv 39373 n' (.inl (by decide)),ex,Mv x x (.inl (by lia)),Mv 16807 x (.inl (by decide)),ey,Xp _ 8 (by decide) (by decide),e]
def ags{k:Nat}{Z:X9}(R:1<=m):prog.call m 0 [.fz (Z.map D.int),.int k] M=.ok (.int (Z.getD k 0)) M:=by
 rw[call_of R rfl]
 by_cases G:k<Z.length
 .simp[Fn.run,Hw,Hv,alv,G,a4e (ds:=Z.map D.int) (i:=k) (x:=.int (Z.getD k 0)) q_ (by simp[G])]
 .simp[Fn.run,Hw,Hv,alv,G]
def al3{k:Nat}{ns:X9}(G:2<=m):∃n f,prog.call m 1 [.fz (ns.map D.int),.int k] M=.ok (.ref M.length) (M++[.lst [.int n,.bl f]])/\ax2 n f:=by
 rw[call_of (a_ (by decide) G) rfl]
 by_cases h:(10:Int) ^ 18<=ns.getD k 0
 .refine⟨ns.getD k 0-10 ^ 18,true,?_,by lia,by simp⟩
  have Z:(1000000000000000000:Int)<=ns[k]?.getD 0:=by simpa using h
  simp[Fn.run,Kv,Ku,ags (show 1<=m-1 by exact r_ G),Z,MW.new]
 .refine⟨ns.getD k 0%2147483647,false,?_,Bd _ (by decide),λ_=>Ad _ (by decide)⟩
  have Z:¬(1000000000000000000:Int)<=ns[k]?.getD 0:=by simpa using h
  simp[Fn.run,Kv,Ku,ags (show 1<=m-1 by exact r_ G),Z,MW.new]
def agt(n:Nat)(i:Nat)(M:dg)(h:i<n):(Src.con ((List.range n).map λ(k:Nat)=>D.int (k:Int))).item i M=some (.int i):=by simp[Src.item,qx h]
def agu(n:Nat):(Src.con ((List.range n).map λ(k:Nat)=>D.int (k:Int))).len=n:=by simp[Src.len]
def al4{K:Nat}(hm:1<=m)(hs:Su t f M)(hK:K<=3) :
 ∃(Z:Y2)(G:dg),Hz.den (PW m) [some (.ref t),a1,a2,a3,a4,a5,some (.int K),a7,a8,a9,a10,a11] M=.ok (.vl (Z.map nD)) G/\Z.length=K/\(∀x∈Z,1<=x/\x<=3)/\St t f M G/\G.length=M.length:=by
 unfold Hz;rw[Mt];have R:K<=100000:=a_ hK (by decide)
 simp[R];refine hG λ_ _k=>?_
 have h:=Gh (fin:=λ_=>true) (item:=(Src.con ((List.range K).map λ(k:Nat)=>D.int (k:Int))).item)
  (body:=λd M=>((prog.call m 2 [D.ref t,D.int 3] M).bind λy M2=>Ey .add (.int 1) y M2).bind λx G=>Res.ok (some x) G)
  (λi xs G=>∃Z:List Nat,xs=Z.map nD/\Z.length=i/\(∀x∈Z,1<=x/\x<=3)/\St t f M G/\G.length=M.length) (n:=K)
  (λi xs G hi hI=>by
   refine hG λ_ _k=>?_
   obtain⟨Z,rfl,rfl,h1,h2,h3⟩:=hI;obtain⟨v,M2,e,l,s2,l2⟩:=Br hm h2.has (many:=3) (by decide) (by decide);apply _k;refine⟨.int Z.length,some (.int (1+v)),M2,agt K _ G hi,by simp[e],Z++[1+v],by simp[nD],by simp,λx hx=>?_,h2.trans s2,l2.trans h3⟩;rcases dz.mp hx with q|q
   .exact h1 x q
   .have:x=1+v:=by simpa using q
    lia) (λ_ _ _=>rfl) K 0 [] M (q9 _) ⟨[],rfl,rfl,by simp,St.of hs (zc.refl M),rfl⟩
 obtain⟨ys,G,e,Z,h1,h2,h3,h4,h5⟩:=h;apply _k;refine⟨Z,G,?_,h2,h3,h4,h5⟩;rw[zp,agu,dh R,show(Src.con ((List.range _).map λ(k:Nat)=>D.int (k:Int))).fin=λ_=>true from rfl,e];simp at h1;simp[h1]
def ax3{G:Y2}(hm:1<=m)(hs:Su t f M)(R:∀x∈G,1<=x/\x<=3)(hi:i<G.length)(hj:j<G.length) :
 ∃(r:Y2)(Z:dg),Hx.den (PW m) [some (.ref t),a1,a2,a3,a4,a5,a6,some (.vl (G.map nD)),a8,a9,some (.int i),some (.int j)] M=.ok (.vl (r.map nD)) Z /\
  r.length=G.getD i 0/\(∀x∈r,x<G.getD j 0)/\St t f M Z/\Z.length=M.length:=by
 unfold Hx;rw[Mt];have gi:=Df (M:=M) (d:=.vl (G.map nD)) (i:=i) (x:=.int ((G.getD i 0:Nat):Int)) rfl q_ (by simp[hi,nD]);have gj:∀Z,Ak (.vl (G.map nD)) (.int j) Z=some (.int ((G.getD j 0:Nat):Int)):=λZ=>Df rfl q_ (by simp[hj,nD])
 have bi:=R _ (getD_mem hi);have bj:=R _ (getD_mem hj);generalize ea:G.getD i 0=a at *;generalize eb:G.getD j 0=b at *;have ha:a<=100000:=a_ bi.2 (by decide)
 simp[gi,gj,ha];refine hG λ_ _k=>?_
 have h:=Gh (fin:=λ_=>true) (item:=(Src.con ((List.range a).map λ(k:Nat)=>D.int (k:Int))).item)
  (body:=λd M=>(prog.call m 2 [D.ref t,D.int b] M).bind λx Z=>Res.ok (some x) Z)
  (λi xs Z=>∃r:List Nat,xs=r.map nD/\r.length=i/\(∀x∈r,x<b)/\St t f M Z/\Z.length=M.length) (n:=a)
  (λi xs Z hi hI=>by
   refine hG λ_ _k=>?_
   obtain⟨r,rfl,rfl,h1,h2,R⟩:=hI;obtain⟨v,M2,e,l,s2,l2⟩:=Br hm h2.has (many:=b) (m_ bj.1) (m_ (c_ bj.2 (by decide)));apply _k;refine⟨.int r.length,some (.int v),M2,agt a _ Z hi,by simp[e],r++[v],by simp[nD],by simp,λx hx=>?_,h2.trans s2,l2.trans R⟩;rcases dz.mp hx with q|q
   .exact h1 x q
   .have:x=v:=by simpa using q
    exact c_ (f_ this) (o_ l)) (λ_ _ _=>rfl) a 0 [] M (q9 _) ⟨[],rfl,rfl,by simp,St.of hs (zc.refl M),rfl⟩
 obtain⟨ys,Z,e,r,h1,h2,R,h4,h5⟩:=h;apply _k;refine⟨r,Z,?_,h2,R,h4,h5⟩;rw[zp,agu,dh ha,show(Src.con ((List.range _).map λ(k:Nat)=>D.int (k:Int))).fin=λ_=>true from rfl,e];simp at h1;simp[h1]
def Zj{v:Nat}{G:Y2}(hm:1<=m)(hs:Su t f M)(hK:G.length=K)(q0:1<=K)(qk:K<=3)(h3:∀x∈G,1<=x/\x<=3)(hp:M[p]?=some (.lst []))(Z:p≠t) :
 ∃(fs:List F)(qv:Env)(R:dg),Hy.den (PW m) [some (.ref t),some (.int v),none,none,none,none,some (.int K),some (.vl (G.map nD)),some (.ref p),a9,a10,a11] M=.ok (.next,qv) R /\
  qv[8]?=some (some (.ref p))/\R[p]?=some (.lst (fs.map F.toD))/\fs.length<=3/\Good (λk=>G.getD k 1) fs/\M.length<=R.length/\Su t f R/\(∀(a:Nat)(o:MO),a≠t->a≠p->M[a]?=some o->R[a]?=some o):=by
 obtain⟨w,M1,e1,l1,s1,q6⟩:=Br hm hs (many:=4) (by decide) (by decide);unfold Hy;rw[Sg];have hw:w<=100000:=e_ (b_ (o_ l1) (by decide))
 simp[e1,hw];refine hG λ_ _k=>?_
 obtain⟨qv,R,e,fs,b9,qq,K3,rfl,h1,h2,h4,h5,h6,h7⟩:=Ze (n:=w) (body:=λd ρ M=>Ec.den (PW m) (ρ.set 9 (some d)) M)
  (λi ρ R=>∃(fs:List F)(b9 qq K3:Option D),ρ=[some (.ref t),some (.int v),none,none,none,none,some (.int K),some (.vl (G.map nD)),some (.ref p),b9,qq,K3] /\
   R[p]?=some (.lst (fs.map F.toD))/\fs.length=i/\Good (λk=>G.getD k 1) fs/\M.length<=R.length/\Su t f R/\(∀(a:Nat)(o:MO),a≠t->a≠p->M[a]?=some o->R[a]?=some o))
  (M:=M1) ⟨[],a9,a10,a11,rfl,by simpa using s1.keep p _ Z hp,rfl,by intro f hf;simp at hf,s1.len,s1.has,λa o na _ h=>s1.keep a o na h⟩
  (λi ρ M2 hi hI=>by
   refine hG λ_ _k=>?_
   obtain⟨fs,b9,qq,K3,rfl,g1,g2,g3,g4,g5,g6⟩:=hI;obtain⟨x,M3,ex,lx,sx,q5⟩:=Br hm g5 (many:=K) (m_ q0) (m_ (c_ qk (by decide)));obtain⟨y,M4,ey,ly,sy,q4⟩:=Br hm sx.has (many:=K) (m_ q0) (m_ (c_ qk (by decide)));obtain⟨r,M5,er,lr,rr,sr,q3⟩:=ax3 (a1:=some (.int v)) (a2:=none) (a3:=none) (a4:=none) (a5:=none) (a6:=some (.int K)) (a8:=some (.ref p)) (a9:=some (.int i)) (i:=x) (j:=y) hm sy.has h3 (b_ (o_ lx) (g_ hK)) (b_ (o_ ly) (g_ hK));have gp:=sr.keep p _ Z (sy.keep p _ Z (sx.keep p _ Z g1));apply _k;have hl:(fs.map F.toD).length<100000:=by rw[gf];exact c_ (f_ g2) (b_ hi hw)
   refine⟨.next,_,M5.set p (.lst (fs.map F.toD++[F.toD ⟨x,y,r⟩])),?_,.inl rfl,fs++[⟨x,y,r⟩],some (.int i),some (.int x),some (.int y),rfl,?_,by simp[g2],?_,?_,?_,?_⟩
   .simp[Ec,ex,ey,er,Hc gp hl,Hu (sy.keep p _ Z (sx.keep p _ Z g1)),qm,F.toD,Er]
   .rw[wj gp];simp
   .intro f hf
    rcases dz.mp hf with q|q
    .exact g3 f q
    .have:f=⟨x,y,r⟩:=by simpa using q
     subst this;refine⟨by show x<3;exact b_ (o_ lx) qk,by show y<3;exact b_ (o_ ly) qk,?_,?_⟩
     .show r.length=G.getD x 1
      rw[lr];simp[aq,bu (show x<G.length by exact b_ (o_ lx) (g_ hK))]
     .intro z hz
      have:=rr z hz;show z<G.getD y 1
      simp[aq,bu (show y<G.length by exact b_ (o_ ly) (g_ hK))] at this ⊢;exact this
   .have:=sr.len;have:=sy.len;have:=sx.len;simp;exact a_ g4 (a_ (g_ q5) (a_ (g_ q4) (g_ q3)))
   .obtain⟨n',q1,q2⟩:=sr.has
    exact⟨n',by rw[uh Z];exact q1,q2⟩
   .intro a o na nb h
    rw[uh (j0 nb)];exact sr.keep a o na (sy.keep a o na (sx.keep a o na (g6 a o na nb h))))
 have e':Bu (Src.con ((List.range w).map λ(k:Nat)=>D.int (k:Int))).fin (Src.con ((List.range w).map λ(k:Nat)=>D.int (k:Int))).item (λd ρ M=>Ec.den (PW m) (ρ.set 9 (some d)) M) (Src.con ((List.range w).map λ(k:Nat)=>D.int (k:Int))).len 0 [some (.ref t),some (.int v),none,none,none,none,some (.int K),some (.vl (G.map nD)),some (.ref p),a9,a10,a11] M1=_:=e;apply _k;exact⟨fs,[some (.ref t),some (.int v),none,none,none,none,some (.int K),some (.vl (G.map nD)),some (.ref p),b9,qq,K3],R,e',rfl,h1,by lia,h4,h5,h6,h7⟩
def al5(hm:2<=m)(hs:Su t f M):∃(d:D)(M':dg)(fs:List F)(sz:Nat->Nat),prog.call m 3 [.ref t] M=.ok d M'/\gm M' d=some (fs.map F.toD)/\(∀n,d=.ref n->n≠t)/\Sz sz/\Good sz fs/\fs.length<=3/\St t f M M':=by
 have R:1<=m-1:=r_ hm
 obtain⟨v,M1,e1,l1,s1,qv⟩:=Br R hs (many:=12) (by decide) (by decide);rw[call_of (a_ R C_) rfl]
 by_cases hv:v<7
 .have qq:(v:Int)<7:=m_ hv
  have G:∀(fs:List F)(sz:Nat->Nat),Dg.run (PW (m-1)) [.ref t] M=.ok (.vl (fs.map F.toD)) M1->Sz sz->Good sz fs->fs.length<=3 ->
   ∃(d:D)(M':dg)(fs:List F)(sz:Nat->Nat),Dg.run (PW (m-1)) [.ref t] M=.ok d M'/\gm M' d=some (fs.map F.toD)/\(∀n,d=.ref n->n≠t)/\Sz sz/\Good sz fs/\fs.length<=3/\St t f M M' :=
   λfs sz a b c d=>⟨_,M1,fs,sz,a,rfl,λn h=>(by cases h),b,c,d,s1⟩
  have run:∀d,Ak (.vl [.vl [.tup [.int 0,.int 1,.tup [.int 0,.int 1]],.tup [.int 0,.int 1,.tup [.int 1,.int 0]]],.vl [.tup [.int 0,.int 1,.tup [.int 0,.int 0,.int 1,.int 1]],.tup [.int 0,.int 1,.tup [.int 0,.int 1,.int 0,.int 1]],.tup [.int 1,.int 0,.tup [.int 0,.int 3]]],
   .vl [.tup [.int 0,.int 0,.tup [.int 1,.int 0]]],.vl [.tup [.int 0,.int 0,.tup [.int 1,.int 2,.int 0]]],.vl [.tup [.int 0,.int 0,.tup [.int 0,.int 0]]],.vl [],.vl [.tup [.int 0,.int 1,.tup [.int 0,.int 1]],.tup [.int 1,.int 2,.tup [.int 0,.int 0,.int 1]]]]) (.int v) M1=some d ->
   Dg.run (PW (m-1)) [.ref t] M=.ok d M1:=λd hd=>by simp[Fn.run,Dg,Kw,e1,qq,hd]
  have cs:v=0\/v=1\/v=2\/v=3\/v=4\/v=5\/v=6:=by lia
  rcases cs with rfl|rfl|rfl|rfl|rfl|rfl|rfl
  .refine G [⟨0,1,[0,1]⟩,⟨0,1,[1,0]⟩] (λ_=>2) ?_ (λk=>by simp) (λf Z=>?_) (by decide)
   .exact run _ rfl
   .simp at Z;rcases Z with rfl|rfl<;>exact⟨by decide,by decide,by decide,by decide⟩
  .refine G [⟨0,1,[0,0,1,1]⟩,⟨0,1,[0,1,0,1]⟩,⟨1,0,[0,3]⟩] (λk=>if k=0 then 4 else 2) ?_ (λk=>by dsimp only;split<;>omega) (λf Z=>?_) (by decide)
   .exact run _ rfl
   .simp at Z;rcases Z with rfl|rfl|rfl<;>exact⟨by decide,by decide,by decide,by decide⟩
  .refine G [⟨0,0,[1,0]⟩] (λ_=>2) ?_ (λk=>by simp) (λf Z=>?_) (by decide)
   .exact run _ rfl
   .simp at Z;subst Z;exact⟨by decide,by decide,by decide,by decide⟩
  .refine G [⟨0,0,[1,2,0]⟩] (λ_=>3) ?_ (λk=>by simp) (λf Z=>?_) (by decide)
   .exact run _ rfl
   .simp at Z;subst Z;exact⟨by decide,by decide,by decide,by decide⟩
  .refine G [⟨0,0,[0,0]⟩] (λ_=>2) ?_ (λk=>by simp) (λf Z=>?_) (by decide)
   .exact run _ rfl
   .simp at Z;subst Z;exact⟨by decide,by decide,by decide,by decide⟩
  .refine G [] (λ_=>1) ?_ (λk=>by simp) (λf Z=>?_) (by decide)
   .exact run _ rfl
   .simp at Z
  .refine G [⟨0,1,[0,1]⟩,⟨1,2,[0,0,1]⟩] (λk=>if k=1 then 3 else 2) ?_ (λk=>by dsimp only;split<;>exact⟨by decide,by decide⟩) (λf Z=>?_) (by decide)
   .exact run _ rfl
   .simp at Z;rcases Z with rfl|rfl<;>exact⟨by decide,by decide,by decide,by decide⟩
 .refine hG λ_ _k=>?_
  have qq:¬(v:Int)<7:=by lia
  obtain⟨u,M2,e2,l2,s2,zz⟩:=Br R s1.has (many:=3) (by decide) (by decide);obtain⟨K,eK,q7⟩:∃K:Nat,(1:Int)+(u:Int)=(K:Int)/\K=1+u:=⟨1+u,by lia,rfl⟩;obtain⟨Js,M3,e3,l3,r3,s3,q0⟩:=al4 (a1:=some (.int v)) (a2:=none) (a3:=none) (a4:=none) (a5:=none) (a7:=none) (a8:=none) (a9:=none) (a10:=none) (a11:=none) (K:=K) R s2.has (by lia);apply _k;have qk:t<M3.length:=by obtain⟨n,h,_⟩:=s3.has;exact zr h
  have h4:Su t f (M3++[.lst []]):=by obtain⟨n,h,o⟩:=s3.has;exact⟨n,Ab h,o⟩
  refine hG λ_ _k=>?_
  obtain⟨fs,zq,M5,e5,q8,q1,q2,q3,q4,q5,q6⟩:=Zj (v:=v) (K:=K) (p:=M3.length) (a9:=none) (a10:=none) (a11:=none) R h4 l3 (by lia) (by lia) r3 (by simp) (i_ qk);apply _k;refine⟨.ref M3.length,M5,fs,λk=>Js.getD k 1,?_,o6 q1,λn h=>by cases h;exact i_ qk,λk=>?_,q3,q2,?_⟩
  .simp[Fn.run,Dg,Kw,e1,qq,e2,eK,e3,MW.new,e5,q8]
  .show 1<=Js.getD k 1/\Js.getD k 1<=4
   by_cases h:k<Js.length
   .have:=r3 _ (getD_mem h)
    simp[aq,h] at this ⊢;exact⟨this.1,a_ this.2 (by decide)⟩
   .simp[aq,h]
  .refine s1.trans (s2.trans (s3.trans ⟨?_,q5,λa o na h=>q6 a o na ?_ (Ab h)⟩))
   .have:=q4;simp at this;lia
   .have:=zr h;exact h_ this
structure Up(p:Nat)(M M':dg):Prop where
 len:M'.length=M.length
 oth:∀a:Nat,a≠p->M'[a]?=M[a]?
def Up.refl(p:Nat)(M:dg):Up p M M:=⟨rfl,λ_ _=>rfl⟩
theorem Up.trans(a:Up p M Z)(b:Up p Z M2):Up p M M2:=⟨b.len.trans a.len,λx h=>(b.oth x h).trans (a.oth x h)⟩
theorem Up.set(p:Nat)(M:dg)(o:MO):Up p M (M.set p o):=⟨by simp,λa h=>uh (j0 h)⟩
def Qe(h:M[p]?=some (.lst ds)):Qp M x (.ref p)=memD M x ds:=by simp[Qp,h,yd,gm]
def T8(f:F)(M:dg):Ak f.toD (.int 0) M=some (.int f.a):=rfl
def T9(f:F)(M:dg):Ak f.toD (.int 1) M=some (.int f.b):=rfl
def al6(f:F)(M:dg):Ak f.toD (.int 2) M=some (Er f.r):=rfl
def Nt(M:dg)(r:Y2)(n:Nat):ym M (Er r) (.tup ((List.range n).map λ(k:Nat)=>D.int (k:Int)))=some (decide (r=List.range n)):=aeu M r (List.range n)
def eq_nil(M:dg)(r:Y2):ym M (Er r) (.tup [])=some (decide (r=[])):=aeu M r []
def Bw(M:dg)(a b:Nat):ym M (.int a) (.int b)=some (decide (a=b)):=by rw[eq_int,agr]
def Jm(M:dg)(r:Y2):qm .len [Er r] M=.ok (.int r.length) M:=by simp[qm,yd,Er]
def K4(M:dg)(Z:List D):qm .tuple [.vl Z] M=.ok (.tup Z) M:=by simp[qm,yd]
def U5(M:dg)(r:Y2):qm .tuple [.vl (r.map nD)] M=.ok (Er r) M:=K4 M _
def aex(Z:Sz sz)(h:Wy sz f):1<=f.r.length/\f.r.length<=4:=by rw[h.len];exact Z _
def ars(M:dg)(r:Y2):srcOf M (Er r)=some (.con (r.map nD)):=rfl
def al7(M:dg)(r:Y2)(h:x<r.length):Ak (Er r) (.int x) M=some (.int (r.getD x 0)):=Jp q_ (by simp[h,nD])
def al8(hz:Sz sz)(R:Wy sz f)(hg:Wy sz g)(h:f.b=g.a) :
 Gp.den W [a0,a1,a2,a3,a4,a5,a6,some f.toD,some g.toD,a9] M=.ok (.vl ((f.comp g).r.map nD)) M:=by
 have G:(f.r.map nD).length<=100000:=by rw[gf,R.len];have:=hz f.a;exact a_ this.2 (by decide)
 unfold Gp;rw[Mt];simp[al6,ars];have:=agm (M:=M) (ds:=f.r.map nD) (g:=λd=>match d with|.int i=>nD (g.r.getD i.toNat 0)|_=>.non)
  (body:=λd M=>((Res.vo (Ak (Er g.r) d M) M).bind λx M'=>Res.ok (some x) M')) G (λd hd=>by
   obtain⟨x,hx,rfl⟩:=bz.mp hd;have Z:x<g.r.length:=by rw[hg.len,<- h];exact R.ran x hx
   rw[show nD x=D.int (x:Int) from rfl,al7 M g.r Z];simp[nD])
 rw[this];simp[F.comp,nD]
def K5(Z:List F)(f g:F):List F:=if f.b=g.a/\f.comp g∉Z/\¬(f.comp g).Ou then Z++[f.comp g] else Z
def aey(f g:F):D.tup [.int f.a,.int g.b,Er (f.comp g).r]=(f.comp g).toD:=rfl
def Vq(hz:Sz sz)(hf:Wy sz f)(hg:Wy sz g)(G:M[p]?=some (.lst (R.map F.toD)))(hl:R.length<100000) :
 ∃(b4 b9:Option D)(M':dg),Cd.den W [a0,D.ref p,a2,a3,a4,a5,a6,some f.toD,some g.toD,a9] M=.ok (.next,[a0,some (.ref p),a2,a3,b4,a5,a6,some f.toD,some g.toD,b9]) M' /\
  M'[p]?=some (.lst ((K5 R f g).map F.toD))/\Up p M M':=by
 by_cases h:f.b=g.a
 .have hc:=al8 (W:=W) (M:=M) (a0:=a0) (a1:=some (.ref p)) (a2:=a2) (a3:=a3) (a4:=some (.tup [])) (a5:=a5) (a6:=a6) (a9:=a9) hz hf hg h
  have hr:(f.comp g).r≠[]:=λe=>by have:=(aex hz (hf.comp hg h)).1;rw[e] at this;simp at this
  have Z:(f.comp g).r.length<=100000:=by have:=(aex hz (hf.comp hg h)).2;exact a_ this (by decide)
  have Jf:=al2 M (f.comp g) R;have e0:(f.comp g).a=f.a:=rfl;have e1:(f.comp g).b=g.b:=rfl;have ap:=Hc (d:=(f.comp g).toD) G (by rw[gf];exact hl);have qq:∃T:Res (Flow×Env),Cd.den W [a0,D.ref p,a2,a3,a4,a5,a6,some f.toD,some g.toD,a9] M=T/\(f.comp g∈R->T=.ok (.next,[a0,some (.ref p),a2,a3,some (Er (f.comp g).r),a5,a6,some f.toD,some g.toD,some (f.comp g).toD]) M)/\(f.comp g∉R->(f.comp g).Ou->T=.ok (.next,[a0,some (.ref p),a2,a3,some (Er (f.comp g).r),a5,a6,some f.toD,some g.toD,some (f.comp g).toD]) M) /\
   (f.comp g∉R->¬(f.comp g).Ou->T=.ok (.next,[a0,some (.ref p),a2,a3,some (Er (f.comp g).r),a5,a6,some f.toD,some g.toD,some (f.comp g).toD]) (M.set p (.lst ((R++[f.comp g]).map F.toD)))):=by
   refine⟨_,(by simp[-eq_int,Cd,T8,T9,Bw,h,hc,U5,aey,eq_nil,hr,Qe G,Jf];exact rfl),?_,?_,?_⟩
   .intro m;simp[m]
   .intro m i;simp[-eq_int,m,T8,T9,Bw,i.1,Jm,Z,Nt,Al i.2]
   .intro m i
    by_cases i1:(f.comp g).a=(f.comp g).b
    .have i2:¬(f.comp g).r=List.range (f.comp g).r.length:=λq=>i ⟨i1,q⟩
     simp[-eq_int,T8,T9,Bw,m,i1,Jm,Z,Nt,i2,Hu G,ap]
    .simp[-eq_int,T8,T9,Bw,m,i1,Jm,Z,Nt,Hu G,ap]
  obtain⟨T,e,k1,k2,k3⟩:=qq
  by_cases m:f.comp g∈R
  .exact⟨_,_,M,e.trans (k1 m),by rw[K5,cu (λq=>q.2.1 m)];exact G,Up.refl p M⟩
  .by_cases i:(f.comp g).Ou
   .exact⟨_,_,M,e.trans (k2 m i),by rw[K5,cu (λq=>q.2.2 i)];exact G,Up.refl p M⟩
   .exact⟨_,_,_,e.trans (k3 m i),by rw[K5,dh ⟨h,m,i⟩,wj G],Up.set _ _ _⟩
 .refine⟨some (.tup []),some (.tup [.int f.a,.int g.b,.tup []]),M,?_,by rw[K5,cu (λq=>h q.1)];exact G,Up.refl p M⟩
  have:=aeu M [] [];simp[Er] at this;simp[-eq_int,Cd,T8,T9,Bw,h,this]
structure Inv(sz:Nat->Nat)(gs:List F):Prop where
 good:Good sz gs
 nd:gs.Nodup
 nid:∀f∈gs,¬f.Ou
def Inv.snoc{sz:Nat->Nat}(h:Inv sz G)(R:Wy sz f)(hm:f∉G)(hi:¬f.Ou):Inv sz (G++[f]):=by
 refine⟨λx Z=>?_,?_,λx Z=>?_⟩
 .rcases dz.mp Z with q|q
  .exact h.good x q
  .have:x=f:=by simpa using q
   exact this▸R
 .rw[yz]
  refine⟨h.nd,by simp,λa ha b hb=>?_⟩;have:b=f:=by simpa using hb
  exact λe=>hm (by rw[<- this,<- e];exact ha)
 .rcases dz.mp Z with q|q
  .exact h.nid x q
  .have:x=f:=by simpa using q
   exact this▸hi
def Cl2(Z:List F)(f g:F):Prop:=f.b=g.a->f.comp g∈Z\/(f.comp g).Ou
def Cl2.mono(h:Cl2 Z f g)(s:Z <+: G):Cl2 G f g:=λe=>(h e).imp (λm=>s.subset m) id
def Nu(Z:List F)(f g:F):Z <+: K5 Z f g:=by
 unfold K5;split
 .exact List.prefix_append _ _
 .exact List.prefix_rfl
def Vr(Z:List F)(f g:F):(K5 Z f g).length<=Z.length+1:=by unfold K5;split<;>simp
set_option tactic.hygienic true in
def abk(h:Inv sz Z)(Y:Wy sz f)(G:Wy sz g):Inv sz (K5 Z f g):=by
 unfold K5;split
 .rename_i q;exact h.snoc (Y.comp G q.1) q.2.1 q.2.2
 .exact h
def agv(Z:List F)(f g:F):Cl2 (K5 Z f g) f g:=by
 intro e;unfold K5
 by_cases m:f.comp g∈Z
 .left;split
  .exact o7 _ m
  .exact m
 .by_cases i:(f.comp g).Ou
  .exact .inr i
  .left;rw[dh ⟨e,m,i⟩];simp
def Qx{Z:List F}{i:Nat}(s:Z <+: G)(h:Z[i]?=some f):G[i]?=some f:=by obtain⟨t,rfl⟩:=s;rw[dj (aj.mp h).1];exact h
def O8{Z:List F}{i:Nat}(G:M[p]?=some (.lst (Z.map F.toD)))(h:Z[i]?=some f):Ak (.ref p) (.int i) M=some f.toD:=Df (o6 G) q_ (by simp[h])
def K6{Z:List F}(G:M[p]?=some (.lst (Z.map F.toD))):qm .len [.ref p] M=.ok (.int Z.length) M:=by rw[len_list (o6 G)];simp
def ax4{k j:Nat}(hz:Sz sz)(hi:Inv sz Z)(R:M[p]?=some (.lst (Z.map F.toD)))(hl:Z.length<90000)(hk:Z[k]?=some f)(hj:Z[j]?=some g) :
 ∃(G b7 b8 b9:Option D)(M':dg),Gq.den W [a0,D.ref p,a2,a3,a4,D.int k,D.int j,a7,a8,a9] M=.ok (.next,[a0,some (.ref p),a2,a3,G,some (.int k),some (.int j),b7,b8,b9]) M' /\
  M'[p]?=some (.lst ((K5 (K5 Z f g) g f).map F.toD))/\Up p M M':=by
 refine hG λ_ _k=>?_
 have hf:=hi.good f (au hk);have hg:=hi.good g (au hj);have l1:=Vr Z f g;obtain⟨G,b9,M1,e1,p1,u1⟩:=Vq (W:=W) (M:=M) (a0:=a0) (a2:=a2) (a3:=a3) (a4:=a4) (a5:=some (.int k)) (a6:=some (.int j)) (a9:=a9) hz hf hg R (b_ hl (by decide));obtain⟨c4,c9,M2,e2,p2,u2⟩:=Vq (W:=W) (M:=M1) (a0:=a0) (a2:=a2) (a3:=a3) (a4:=G) (a5:=some (.int k)) (a6:=some (.int j)) (a9:=b9) hz hg hf p1 (by lia);apply _k;refine⟨c4,some g.toD,some f.toD,c9,M2,?_,p2,u1.trans u2⟩;unfold Gq;rw[Sg];simp[O8 R hk,O8 R hj,srcOf,Src.len,Src.fin,Bu,Src.item,e1,e2]
def aru{k:Nat}(hz:Sz sz)(hi:Inv sz Z)(hp:M[p]?=some (.lst (Z.map F.toD)))(hl:Z.length<10000)(hk:Z[k]?=some f) :
 ∃(G:List F)(b4 b6 b7 b8 b9:Option D)(M':dg),Gu.den W [a0,D.ref p,a2,a3,a4,D.int k,a6,a7,a8,a9] M=.ok (.next,[a0,some (.ref p),a2,a3,b4,some (.int k),b6,b7,b8,b9]) M' /\
  M'[p]?=some (.lst (G.map F.toD))/\Up p M M'/\Z <+: G/\Inv sz G/\G.length<=3*Z.length/\∀(j:Nat)(g:F),Z[j]?=some g->Cl2 G f g/\Cl2 G g f:=by
 unfold Gu;rw[Sg];have qq:Z.length<=100000:=e_ (b_ hl (by decide))
 simp[K6 hp,qq];refine hG λ_ _k=>?_
 obtain⟨qk,M',e,G,b4,b6,b7,b8,b9,rfl,h1,h2,h3,h4,h5,h6⟩:=Ze (n:=Z.length) (body:=λd ρ M=>Gr.den W (ρ.set 6 (some d)) M)
  (λi ρ M'=>∃(G:List F)(b4 b6 b7 b8 b9:Option D),ρ=[a0,some (.ref p),a2,a3,b4,some (.int k),b6,b7,b8,b9]/\M'[p]?=some (.lst (G.map F.toD))/\Up p M M'/\Z <+: G/\Inv sz G/\G.length<=Z.length+2*i /\
   ∀(j:Nat)(g:F),j<i->Z[j]?=some g->Cl2 G f g/\Cl2 G g f) (ρ:=[a0,D.ref p,a2,a3,a4,D.int k,a6,a7,a8,a9]) (M:=M)
  ⟨Z,a4,a6,a7,a8,a9,rfl,hp,Up.refl p M,List.prefix_rfl,hi,x_,λj g h=>absurd h (tu _)⟩
  (λi ρ M2 Jd hI=>by
   refine hG λ_ _k=>?_
   obtain⟨G,b4,b6,b7,b8,b9,rfl,g1,g2,g3,g4,g5,g6⟩:=hI;have gi:Z[i]?=some Z[i]:=by simp[Jd]
   obtain⟨c4,c7,c8,c9,M3,e3,p3,u3⟩:=ax4 (W:=W) (M:=M2) (a0:=a0) (a2:=a2) (a3:=a3) (a4:=b4) (a7:=b7) (a8:=b8) (a9:=b9) hz g4 g1 (by lia) (Qx g3 hk) (Qx g3 gi);have hf:=g4.good f (au (Qx g3 hk));have hg:=g4.good Z[i] (au (Qx g3 gi));apply _k;refine⟨.next,_,M3,?_,.inl rfl,K5 (K5 G f Z[i]) Z[i] f,c4,some (.int i),c7,c8,c9,rfl,p3,g2.trans u3,(g3.trans (Nu _ _ _)).trans (Nu _ _ _),abk (abk g4 hf hg) hg hf,?_,?_⟩
   .simp[Gr,e3]
   .have:=Vr G f Z[i]
    have:=Vr (K5 G f Z[i]) Z[i] f
    lia
   .intro j g hj R
    have pr:=(Nu G f Z[i]).trans (Nu (K5 G f Z[i]) Z[i] f);rcases Nat.lt_succ_iff_lt_or_eq.mp hj with q|q
    .exact⟨(g6 j g q R).1.mono pr,(g6 j g q R).2.mono pr⟩
    .subst q
     have:g=Z[j]:=by rw[gi] at R;exact(jd R).symm
     subst this;exact⟨(agv _ _ _).mono (Nu _ _ _),agv _ _ _⟩)
 apply _k;refine⟨G,b4,b6,b7,b8,b9,M',e,h1,h2,h3,h4,by lia,λj g hg=>h6 j g (aj.mp hg).1 hg⟩
def al9(f:F)(i j k:Nat)(Z:Env):(Tg.names [i,j,k]).put f.toD Z=some (((Z.set i (some (.int f.a))).set j (some (.int f.b))).set k (some (Er f.r))):=rfl
noncomputable def Zk(Z:List F)(f:F):List F:=if ¬f.Ou/\f∉Z then Z++[f] else Z
def ClK(Z:List F)(k:Nat):Prop:=∀(i j:Nat)(f g:F),i<k->j<k->Z[i]?=some f->Z[j]?=some g->Cl2 Z f g
def aip(hz:Sz sz)(hf:Wy sz f)(G:M[p]?=some (.lst (gs.map F.toD)))(hl:gs.length<100000) :
 ∃M',Aa.den W [a0,D.ref p,D.int f.a,D.int f.b,Er f.r,a5,a6,a7,a8,a9] M=.ok (.next,[a0,some (.ref p),some (.int f.a),some (.int f.b),some (Er f.r),a5,a6,a7,a8,a9]) M' /\
  M'[p]?=some (.lst ((Zk gs f).map F.toD))/\Up p M M':=by
 have Z:f.r.length<=100000:=by have:=(aex hz hf).2;exact a_ this (by decide)
 have Jf:=al2 M f gs;have hD:D.tup [.int f.a,.int f.b,Er f.r]=f.toD:=rfl;have ap:=Hc (d:=f.toD) G (by rw[gf];exact hl)
 by_cases i:f.Ou
 .refine⟨M,?_,by rw[Zk,cu (λq=>q.1 i)];exact G,Up.refl p M⟩
  simp[-eq_int,Aa,Bw,i.1,Jm,Z,Nt,Al i.2]
 .by_cases m:f∈gs
  .refine⟨M,?_,by rw[Zk,cu (λq=>q.2 m)];exact G,Up.refl p M⟩
   by_cases R:f.a=f.b
   .have i2:¬f.r=List.range f.r.length:=λq=>i ⟨R,q⟩
    simp[R] at hD;simp[-eq_int,Aa,Bw,R,i2,Jm,Z,Nt,hD,Qe G,Jf,m]
   .simp[-eq_int,Aa,Bw,R,Jm,Z,Nt,hD,Qe G,Jf,m]
  .refine⟨M.set p (.lst ((gs++[f]).map F.toD)),?_,by rw[Zk,dh ⟨i,m⟩,wj G],Up.set _ _ _⟩
   by_cases R:f.a=f.b
   .have i2:¬f.r=List.range f.r.length:=λq=>i ⟨R,q⟩
    simp[R] at hD;simp[-eq_int,Aa,Bw,R,i2,Jm,Z,Nt,hD,Qe G,Jf,m,Hu G,ap]
   .simp[-eq_int,Aa,Bw,R,Jm,Z,Nt,hD,Qe G,Jf,m,Hu G,ap]
set_option tactic.hygienic true in
def ama(h:Inv sz Z)(Y:Wy sz f):Inv sz (Zk Z f):=by
 unfold Zk;split
 .rename_i q;exact h.snoc Y q.2 q.1
 .exact h
def amb(Z:List F)(f:F):(Zk Z f).length<=Z.length+1:=by unfold Zk;split<;>simp
def aiq(hz:Sz sz)(hi:Inv sz gs)(hp:M[p]?=some (.lst (gs.map F.toD)))(hl:gs.length<=3) :
 ∃(qk:Env)(G:dg),Gv.den W [a0,D.ref p,a2,a3,a4,D.int 0,a6,a7,a8,a9] M=.ok (.next,qk) G/\qk[1]?=some (some (.ref p))/\∃Z:List F,G[p]?=some (.lst (Z.map F.toD))/\Up p M G/\Inv sz Z/\Z.length<=15 /\
  (Z.length<6->Nr Z)/\(gs=[]->Z=[]):=by
 unfold Gv;rw[Zc];refine Og (λm ρ G=>∃(Z:List F)(k:Nat)(b4 b6 b7 b8 b9:Option D),ρ=[a0,some (.ref p),a2,a3,b4,some (.int k),b6,b7,b8,b9]/\G[p]?=some (.lst (Z.map F.toD))/\Up p M G/\Inv sz Z/\Z.length<=15/\ClK Z k/\k<=5/\m=10-k/\(gs=[]->Z=[]))
  (λqk G=>qk[1]?=some (some (.ref p))/\∃Z:List F,G[p]?=some (.lst (Z.map F.toD))/\Up p M G/\Inv sz Z/\Z.length<=15/\(Z.length<6->Nr Z)/\(gs=[]->Z=[])) ?_ aer 10 _ M (by decide)
  ⟨gs,0,a4,a6,a7,a8,a9,rfl,hp,Up.refl p M,hi,a_ hl (by decide),λi j f g h=>absurd h (tu _),jy _,rfl,id⟩
 intro m ρ M1 hI;refine hG λ_ _k=>?_
 obtain⟨Z,k,b4,b6,b7,b8,b9,rfl,g1,g2,g3,g4,g5,g6,g7,g8⟩:=hI;apply _k
 by_cases c1:k<Z.length
 .have qq:(k:Int)<(Z.length:Int):=m_ c1
  by_cases c2:Z.length<6
  .have q0:(Z.length:Int)<6:=m_ c2
   right
   refine hG λ_ _k=>?_
   obtain⟨is,d4,d6,d7,d8,d9,M2,e,p2,u2,pr,q4,l2,q3⟩:=aru (W:=W) (M:=M1) (a0:=a0) (a2:=a2) (a3:=a3) (a4:=b4) (a6:=b6) (a7:=b7) (a8:=b8) (a9:=b9) (k:=k) hz g3 g1 (c_ g4 (by decide)) (show Z[k]?=some Z[k] by simp[c1]);apply _k;refine⟨M1,.next,_,M2,10-(k+1),?_,?_,.inl rfl,by lia,is,k+1,d4,d6,d7,d8,d9,rfl,p2,g2.trans u2,q4,by lia,?_,by lia,rfl,?_⟩
   .simp[K6 g1,qq,q0]
   .simp[Ln,e]
   .intro i j f g W3 R hf hg
    have qv:∀(i:Nat)(f:F),i<k+1->is[i]?=some f->Z[i]?=some f:=λi f hi hf=>by
     have Jd:i<Z.length:=b_ hi c1
     have:=Qx pr (show Z[i]?=some Z[i] by simp[Jd]);rw[hf] at this;rw[this];simp[Jd]
    have q1:=qv i f W3 hf;have q2:=qv j g R hg
    by_cases ei:i=k
    .subst ei
     have:f=Z[i]:=by have:=q1;simp[c1] at this;exact this.symm
     subst this;exact(q3 j g q2).1
    .by_cases ej:j=k
     .subst ej
      have:g=Z[j]:=by have:=q2;simp[c1] at this;exact this.symm
      subst this;exact(q3 i f q1).2
     .exact(g5 i j f g (by lia) (by lia) q1 q2).mono pr
   .intro e0
    have:=g8 e0;subst this;simp at c1
  .left
   have q0:¬(Z.length:Int)<6:=by lia
   exact⟨M1,by simp[K6 g1,qq,q0],rfl,Z,g1,g2,g3,g4,λq=>absurd q c2,g8⟩
 .left
  have qq:¬(k:Int)<(Z.length:Int):=by lia
  refine⟨M1,by simp[K6 g1,qq],rfl,Z,g1,g2,g3,g4,λ_=>?_,g8⟩;intro f hf g hg;obtain⟨i,W3,ei⟩:=qy hf;obtain⟨j,R,ej⟩:=qy hg;exact g5 i j f g (b_ W3 (s_ c1)) (b_ R (s_ c1)) (by simp[W3,ei]) (by simp[R,ej])
def Xw(hm:1<=m)(hz:Sz sz)(hg:Good sz fs)(hl:fs.length<=3)(hd:gm M d=some (fs.map F.toD)) :
 ∃(R:List F)(Z:dg),prog.call m 4 [d] M=.ok (.ref M.length) Z/\Z[M.length]?=some (.lst (R.map F.toD))/\zc M Z/\Z.length=M.length+1/\Inv sz R/\R.length<=15/\(R.length<6->Nr R)/\(fs=[]->R=[]):=by
 rw[call_of hm rfl];refine hG λ_ _k=>?_
 have qq:gm (M++[.lst []]) d=some (fs.map F.toD):=(zc.app M _).gm hd;obtain⟨s,q0,q7,M1,e1,G,b2,b3,b4,rfl,h1,h2,h3,h4,h5⟩:=Vn (body:=λd ρ M=>match(Tg.names [2,3,4]).put d ρ with
  | some q5=>Aa.den (PW (m-1)) q5 M|none=>.bad)
  (λi ρ Z=>∃(G:List F)(b2 b3 b4:Option D),ρ=[some d,some (.ref M.length),b2,b3,b4,none,none,none,none,none]/\Z[M.length]?=some (.lst (G.map F.toD))/\Up M.length (M++[.lst []]) Z/\Inv sz G/\G.length<=i/\(fs=[]->G=[]))
  (ρ:=[some d,D.ref M.length,none,none,none,none,none,none,none,none]) (M:=M++[.lst []]) qq
  ⟨[],none,none,none,rfl,by simp,Up.refl _ _,⟨λf hf=>by simp at hf,by simp,λf hf=>by simp at hf⟩,by simp,λ_=>rfl⟩
  (λi ρ Z hI=>by
   refine hG λ_ _k=>?_
   obtain⟨G,b2,b3,b4,rfl,g1,g2,g3,g4,g5⟩:=hI;apply _k;cases d with
   |vl xs=>exact hd
   |ref n =>
    have hn:n≠M.length:=by
     simp only[gm] at hd;cases e:M[n]? with
     |none=>rw[e] at hd;simp at hd|some o=>have:=zr e;exact h_ this
    simp only[gm] at qq ⊢;rw[g2.oth n hn];exact qq
   | _=>simp[gm] at hd)
  (λi x ρ Z hx hI=>by
   refine hG λ_ _k=>?_
   obtain⟨G,b2,b3,b4,rfl,g1,g2,g3,g4,g5⟩:=hI;obtain⟨f,hf,rfl⟩:∃f,fs[i]?=some f/\f.toD=x:=by simpa using hx
   have qv:=au hf;have q2:=(aj.mp hf).1;obtain⟨M2,e2,p2,u2⟩:=aip (W:=(PW (m-1))) (M:=Z) (a0:=some d) (a5:=none) (a6:=none) (a7:=none) (a8:=none) (a9:=none) hz (hg f qv) g1 (c_ g4 (b_ q2 (a_ hl (by decide))));apply _k;refine⟨.next,_,M2,?_,.inl rfl,Zk G f,some (.int f.a),some (.int f.b),some (Er f.r),rfl,p2,g2.trans u2,ama g3 (hg f qv),?_,λe=>?_⟩
   .rw[al9];exact e2
   .have:=amb G f;exact a_ this (v_ g4)
   .subst e;simp at hf)
 apply _k;have q3:G.length<=3:=by simp at h4;exact a_ h4 hl
 refine hG λ_ _k=>?_
 obtain⟨q6,M2,e2,q1,R,p2,u2,qk,l2,c2,z2⟩:=aiq (W:=(PW (m-1))) (M:=M1) (a0:=some d) (a2:=b2) (a3:=b3) (a4:=b4) (a6:=none) (a7:=none) (a8:=none) (a9:=none) hz h3 h1 q3;have up:=h2.trans u2;apply _k;refine⟨R,M2,?_,p2,λa o h=>?_,?_,qk,l2,c2,λe=>z2 (h5 e)⟩
 .have q4:Gw.den (PW (m-1)) [some d,some (.ref M.length),none,none,none,none,none,none,none,none] (M++[.lst []])=.ok (.next,[some d,some (.ref M.length),b2,b3,b4,none,none,none,none,none]) M1:=by
   unfold Gw;rw[Sg];simp[q0];exact e1
  simp[Fn.run,O1,Oz,MW.new,q4,e2,q1]
 .have:=zr h
  rw[up.oth a (h_ this)];exact Ab h
 .rw[up.len];simp
noncomputable def eD(f:F):D:=.tup [.int f.a,.int f.b]
def dsD(Z:List F):D:=.tup (Z.map eD)
def ent(Z:List F)(f g:F):Int:=if f.comp g∈Z then(pos (f.comp g) Z:Int) else -1
noncomputable def ky(j k:Nat):List Kx:=[.inl (j:Int),.inl (k:Int)]
def aez(h:ky j k=ky Z k'):j=Z/\k=k':=by simp[ky] at h;exact⟨D_ h.1,D_ h.2⟩
def Zm(j k Z G:Nat):Prop:=Z<j\/(Z=j/\G<k)
structure Tb(hs:List F)(j k:Nat)(jn:List (List Kx×D)):Prop where
 keys:∀p∈jn,∃(j' k':Nat)(f g:F),p=(ky j' k',.int (ent hs f g))/\hs[j']?=some f/\hs[k']?=some g/\f.b=g.a/\Zm j k j' k'
 look:∀(j' k':Nat)(f g:F),hs[j']?=some f->hs[k']?=some g->f.b=g.a->Zm j k j' k'->wg jn (ky j' k')=some (.int (ent hs f g))
 len:jn.length<=j*hs.length+k
def air{Z:List (List Kx×D)}(h:∀p∈Z,p.1≠q):wg Z q=none:=by unfold wg;rw[List.find?_eq_none.mpr (λp G=>by simpa using h p G)];rfl
def ais{Z:List (List Kx×D)}(h:∀p∈Z,p.1≠q):Cz Z q v=Z++[(q,v)]:=by unfold Cz;rw[cu];simp only[List.any_eq_true,gq,not_exists,not_and];exact h
def Zn{Z:List (List Kx×D)}(h:q≠q'):wg (Z++[(q,v)]) q'=wg Z q':=by
 unfold wg;rw[List.find?_append];cases e:Z.find? (λp=>decide (p.1=q')) with
 |some p=>rfl|none=>simp[h]
def Zo{Z:List (List Kx×D)}(h:∀p∈Z,p.1≠q):wg (Z++[(q,v)]) q=some v:=by unfold wg;rw[List.find?_append,List.find?_eq_none.mpr (λp G=>by simpa using h p G)];simp
def Tb.skip(h:Tb hs j k jn)(hf:hs[j]?=some f)(hg:hs[k]?=some g)(n:f.b≠g.a):Tb hs j (k+1) jn:=by
 refine⟨λp hp=>?_,λZ G R g' a b c d=>?_,by have:=h.len;exact a_ this (w_ x_)⟩
 .refine hG λ_ _k=>?_
  obtain⟨Z,G,R,g',e,a,b,c,d⟩:=h.keys p hp;apply _k;exact⟨Z,G,R,g',e,a,b,c,by unfold Zm at *;lia⟩
 .by_cases q:Z=j/\G=k
  .obtain⟨rfl,rfl⟩:=q
   rw[hf] at a;rw[hg] at b;cases a;cases b;exact absurd c n
  .exact h.look Z G R g' a b c (by unfold Zm at *;lia)
def Tb.fresh(h:Tb hs j k Z):∀p∈Z,p.1≠ky j k:=by
 intro p G e;refine hG λ_ _k=>?_
 obtain⟨j',k',R,g',rfl,a,b,c,d⟩:=h.keys p G;have:=aez e;unfold Zm at d;apply _k
 lia
def Tb.put(h:Tb Z j k jn)(hf:Z[j]?=some f)(hg:Z[k]?=some g)(n:f.b=g.a):Tb Z j (k+1) (Cz jn (ky j k) (.int (ent Z f g))):=by
 rw[ais h.fresh];refine⟨λp hp=>?_,λG R f' g' a b c d=>?_,by have:=h.len;simp;lia⟩
 .rcases dz.mp hp with q|q
  .refine hG λ_ _k=>?_
   obtain⟨G,R,f',g',e,a,b,c,d⟩:=h.keys p q;apply _k;exact⟨G,R,f',g',e,a,b,c,by unfold Zm at *;lia⟩
  .have:p=(ky j k,.int (ent Z f g)):=by simpa using q
   exact⟨j,k,f,g,this,hf,hg,n,by unfold Zm;lia⟩
 .by_cases q:G=j/\R=k
  .obtain⟨rfl,rfl⟩:=q
   rw[hf] at a;rw[hg] at b;cases a;cases b;exact Zo h.fresh
  .rw[Zn (λe=>q (by have:=aez e;exact⟨this.1.symm,this.2.symm⟩))]
   exact h.look G R f' g' a b c (by unfold Zm at *;lia)
def Tb.next(h:Tb Z j Z.length jn):Tb Z (j+1) 0 jn:=by
 refine⟨λp hp=>?_,λR k' G g' a b c d=>?_,by have:=h.len;have e:(j+1)*Z.length=j*Z.length+Z.length:=Nat.succ_mul _ _;exact a_ this (a_ (g_ e) x_)⟩
 .refine hG λ_ _k=>?_
  obtain⟨R,k',G,g',e,a,b,c,d⟩:=h.keys p hp;apply _k;exact⟨R,k',G,g',e,a,b,c,by unfold Zm at *;lia⟩
 .have:=(aj.mp b).1
  exact h.look R k' G g' a b c (by unfold Zm at *;lia)
def amc{Z:List F}{j k:Nat}(hz:Sz sz)(hf:Wy sz f)(hg:Wy sz g)(h:f.b=g.a)(hq:M[q]?=some (.lst (Z.map F.toD)))(hj:Z[j]?=some f)(hk:Z[k]?=some g) :
 Fb.den W [a0,a1,D.ref q,a3,a4,D.int j,D.int k,a7] M=.ok (.vl ((f.comp g).r.map nD)) M:=by
 have R:(f.r.map nD).length<=100000:=by rw[gf,hf.len];have:=hz f.a;exact a_ this.2 (by decide)
 unfold Fb;rw[Zg (ds:=f.r.map nD) (M1:=M) (g:=λd=>match d with|.int i=>nD (g.r.getD i.toNat 0)|_=>.non) (by simp[O8 hq hj,al6,Er]) R (λx hx=>by
  obtain⟨y,hy,rfl⟩:=bz.mp hx;have G:y<g.r.length:=by rw[hg.len,<- h];exact hf.ran y hy
  exact⟨_,rfl,by simp[O8 hq hk,al6,nD,al7 M g.r G]⟩)]
 simp[F.comp,nD]
def ae0(hz:Sz sz)(hi:Inv sz Z)(hl:Z.length<=5)(G:M[q]?=some (.lst (Z.map F.toD)))(hr:M[r]?=some (.dT jn))(R:Z[j]?=some f)(hk:Z[k]?=some g)(ht:Tb Z j k jn) :
 ∃(b7:Option D)(M':dg)(qq:List (List Kx×D)),Ba.den W [a0,a1,D.ref q,a3,D.ref r,D.int j,D.int k,a7] M=.ok (.next,[a0,a1,some (.ref q),a3,some (.ref r),some (.int j),some (.int k),b7]) M' /\
  M'[r]?=some (.dT qq)/\Tb Z j (k+1) qq/\Up r M M':=by
 have q1:=(aj.mp R).1;have q2:=(aj.mp hk).1;have hf:=hi.good f (au R);have hg:=hi.good g (au hk)
 by_cases h:f.b=g.a
 .have hc:=amc (W:=W) (M:=M) (a0:=a0) (a1:=a1) (a3:=a3) (a4:=some (.ref r)) (a7:=a7) hz hf hg h G R hk
  have Jf:=al2 M (f.comp g) Z;have qk:jn.length<100000:=by
   have:=ht.len;have:j*Z.length<=5*5:=Nat.mul_le_mul (e_ (b_ q1 hl)) hl
   lia
  have st:=axz (d:=.int (ent Z f g)) (b:=.tup [.int j,.int k]) hr rfl qk;refine⟨some (f.comp g).toD,_,Cz jn (ky j k) (.int (ent Z f g)),?_,wj (o:=.dT (Cz jn (ky j k) (.int (ent Z f g)))) hr,ht.put R hk h,Up.set _ _ _⟩
  by_cases m:f.comp g∈Z
  .have qv:Ep .index (.ref q) [(f.comp g).toD] M=.ok (.int (pos (f.comp g) Z)) M:=by simp[Ep,Gg (o6 G),a4h,m]
   have q0:Jo .index (.ref q) M=true:=by simp[Jo,o6 G]
   have he:ent Z f g=(pos (f.comp g) Z:Int):=dh m;rw[he] at st;simp[-eq_int,Ba,O8 G R,O8 G hk,T8,T9,Bw,h,hc,U5,aey,Qe G,Jf,m,q0,qv,st,he,ky]
  .have he:ent Z f g=-1:=cu m
   rw[he] at st;simp[-eq_int,Ba,O8 G R,O8 G hk,T8,T9,Bw,h,hc,U5,aey,Qe G,Jf,m,st,he,ky]
 .refine⟨a7,M,jn,?_,hr,ht.skip R hk h,Up.refl r M⟩
  simp[-eq_int,Ba,O8 G R,O8 G hk,T8,T9,Bw,h]
def ax7(hz:Sz sz)(hi:Inv sz Z)(hl:Z.length<=5)(hq:M[q]?=some (.lst (Z.map F.toD)))(hr:M[r]?=some (.dT []))(qq:q≠r) :
 ∃(R:Env)(M':dg)(G:List (List Kx×D)),Ff.den W [a0,a1,D.ref q,a3,D.ref r,a5,a6,a7] M=.ok (.next,R) M'/\R[2]?=some (some (.ref q))/\R[3]?=some a3/\R[4]?=some (some (.ref r))/\R.length=8 /\
  M'[r]?=some (.dT G)/\Tb Z Z.length 0 G/\Up r M M':=by
 unfold Ff;refine hG λ_ _k=>?_
 have q2:∀(M':dg),Up r M M'->qm .len [.ref q] M'=.ok (.int Z.length) M':=λM' u=>K6 (by rw[u.oth q qq];exact hq)
 obtain⟨R,M',e,b5,b6,b7,G,rfl,h1,h2,h3⟩:=zy (W:=W) (t:=.name 5) (b:=Fe) (it:=.blt .len (.o (.v 2))) (n:=Z.length) (ρ:=[a0,a1,D.ref q,a3,D.ref r,a5,a6,a7]) (M:=M) (M1:=M) (by simp[K6 hq]) (a_ hl (by decide))
  (λj ρ M'=>∃(b5 b6 b7:Option D)(G:List (List Kx×D)),ρ=[a0,a1,some (.ref q),a3,some (.ref r),b5,b6,b7]/\M'[r]?=some (.dT G)/\Tb Z j 0 G/\Up r M M')
  ⟨a5,a6,a7,[],rfl,hr,⟨λp hp=>by simp at hp,λj' k' f g a b c d=>by unfold Zm at d;lia,by simp⟩,Up.refl r M⟩
  (λj ρ M1 hj hI=>by
   refine hG λ_ _k=>?_
   obtain⟨b5,b6,b7,G,rfl,g1,g2,g3⟩:=hI;apply _k;have qk:M1[q]?=some (.lst (Z.map F.toD)):=by rw[g3.oth q qq];exact hq
   refine hG λ_ _k=>?_
   obtain⟨q3,M2,e2,c6,c7,q0,rfl,k1,k2,k3⟩:=zy (W:=W) (t:=.name 6) (b:=Ba) (it:=.blt .len (.o (.v 2))) (n:=Z.length) (ρ:=[a0,a1,D.ref q,a3,D.ref r,D.int j,b6,b7]) (M:=M1) (M1:=M1) (by simp[K6 qk]) (a_ hl (by decide))
    (λk ρ M'=>∃(b6 b7:Option D)(G:List (List Kx×D)),ρ=[a0,a1,some (.ref q),a3,some (.ref r),some (.int j),b6,b7]/\M'[r]?=some (.dT G)/\Tb Z j k G/\Up r M1 M')
    ⟨b6,b7,G,rfl,g1,g2,Up.refl r M1⟩
    (λk ρ M2 hk hI=>by
     refine hG λ_ _k=>?_
     obtain⟨b6,b7,G,rfl,k1,k2,k3⟩:=hI;apply _k;have q1:M2[q]?=some (.lst (Z.map F.toD)):=by rw[k3.oth q qq];exact qk
     obtain⟨c7,M3,qv,e3,p3,t3,u3⟩:=ae0 (W:=W) (M:=M2) (a0:=a0) (a1:=a1) (a3:=a3) (a7:=b7) hz hi hl q1 k1 (show Z[j]?=some Z[j] by simp[hj]) (show Z[k]?=some Z[k] by simp[hk]) k2;exact⟨_,.next,_,M3,rfl,e3,.inl rfl,_,c7,qv,rfl,p3,t3,k3.trans u3⟩)
   apply _k;exact⟨_,.next,_,M2,rfl,by simp[Fe,J0,e2],  .inl rfl,some (.int j),c6,c7,q0,rfl,k1,k2.next,g3.trans k3⟩)
 apply _k;exact⟨_,M',G,e,rfl,rfl,rfl,rfl,h1,h2,h3⟩
structure Ua(sz:Nat->Nat)(K:Nat)(hs:List F)(jn:List (List Kx×D)):Prop where
 hz:Sz sz
 inv:Inv sz hs
 cl:Nr hs
 len:hs.length<=5
 k1:1<=K
 k3:K<=3
 ait:∀f∈hs,f.a<K
 Zq:∀f∈hs,f.b<K
 tb:Tb hs hs.length 0 jn
theorem abl:∀(Z:Y2)(a:Nat),∃v:Nat,(Z.map λ(x:Nat)=>(x:Int)).foldl (λm x=>if m<x then x else m) (a:Int)=(v:Int)/\a<=v/\(∀x∈Z,x<=v)/\(v=a\/v∈Z)
 |[],a=>⟨a,rfl,bf _,by simp,.inl rfl⟩
 |x::Z,a=>by
  obtain⟨v,e,G,h2,h3⟩:=abl Z (if a<x then x else a);refine⟨v,?_,?_,λy R=>?_,?_⟩
  .rw[iz,Be,<- e]
   congr 1
   by_cases q:a<x
   .have:(a:Int)<(x:Int):=m_ q
    simp[q]
   .have:¬(a:Int)<(x:Int):=by lia
    simp[q]
  .split at G<;>omega
  .rcases cj.mp R with q|q
   .subst q;split at G<;>omega
   .exact h2 y q
  .rcases h3 with q|q
   .by_cases w:a<x
    .right;rw[dh w] at q;subst q;simp
    .left;rw[cu w] at q;exact q
   .right;exact bx _ q
theorem abm:∀Z:List Nat,Uq (Z.map nD)=some (Z.map λ(x:Nat)=>(x:Int))
 |[]=>rfl|x::Z=>by simp[nD,Uq,show Uq (Z.map nD)=_ from abm Z]
def amd(h:xs≠[]):∃v:Nat,qm .max [.vl (xs.map nD)] M=.ok (.int v) M/\(∀x∈xs,x<=v)/\v∈xs:=by
 refine hG λ_ _k=>?_
 obtain⟨a,r,rfl⟩:∃a r,xs=a::r:=List.exists_cons_of_ne_nil h;obtain⟨v,e,G,Z,R⟩:=abl r a;apply _k;refine⟨v,?_,λx hx=>?_,?_⟩
 .have:=abm (a::r)
  simp only[qm,arn,Xr,qu,this];simp only[iz,axp,qu,xj,Res.Ho,e]
 .rcases cj.mp hx with q|q
  .subst q;exact G
  .exact Z x q
 .rcases R with q|q
  .rw[q];simp
  .exact bx _ q
def max2(a b:Nat):qm .max [.int a,.int b] M=.ok (nD (max a b)) M:=by
 by_cases h:a<b
 .have Z:(a:Int)<b:=m_ h
  have e:max a b=b:=by lia
  simp[qm,h,nD,e]
 .have Z:¬(a:Int)<b:=by lia
  have e:max a b=a:=by lia
  simp[qm,h,nD,e]
noncomputable def toF:D->F
 |.tup [.int a,.int b,.tup r]=>⟨a.toNat,b.toNat,r.map λd=>match d with|.int i=>i.toNat|_=>0⟩
 |_=>⟨0,0,[]⟩
def U6(f:F):toF f.toD=f:=by
 obtain⟨a,b,r⟩:=f;show F.mk a b ((r.map nD).map λd=>match d with|.int i=>i.toNat|_=>0)=F.mk a b r;rw[yt]
 conv=>rhs;rw[<- List.map_id r]
 exact ql _ (ph λx _=>rfl)
def ame{Z:List F}(hl:Z.length<=100000)(R:M[q]?=some (.lst (Z.map F.toD))) :
 Fi.den W [a0,a1,D.ref q,a3,a4,a5,a6,a7] M=.ok (.vl ((Z.map λf=>max f.a f.b).map nD)) M:=by
 unfold Fi;rw[Ay (d:=.ref q) (ds:=Z.map F.toD) (M1:=M) (g:=λd=>nD (max (toF d).a (toF d).b)) (by simp) (o6 R) (by simpa using hl) (λx G=>by
  obtain⟨f,hf,rfl⟩:=bz.mp G;exact⟨_,al9 _ _ _ _ _,by simp[max2,U6]⟩)]
 simp[U6]
def aiu{G:List F}(R:ρ[2]?=some (some (.ref q)))(Z:ρ.length=8)(hl:G.length<=100000)(hq:M[q]?=some (.lst (G.map F.toD))) :
 Ez.den W ρ M=.ok (.vl (G.map eD)) M:=by
 unfold Ez;rw[Ay (d:=.ref q) (ds:=G.map F.toD) (M1:=M) (g:=λd=>eD (toF d)) (by simp[R]) (o6 hq) (by simpa using hl) (λx hx=>by
  obtain⟨f,hf,rfl⟩:=bz.mp hx;refine⟨_,al9 _ _ _ _ _,?_⟩;rw[U6];simp[eD,List.getElem?_set,Z])]
 simp[U6]
def aiv(hm:1<=m)(hz:Sz sz)(q0:Su t f M)(hg:Good sz fs)(hl:fs.length<=3)(hd:gm M d=some (fs.map F.toD))(hq:M[q]?=some (.lst (hs.map F.toD)))(q3:q≠t)(hi:Inv sz hs)(q1:hs.length<=15)(hc:hs.length<6->Nr hs)(h0:fs=[]->hs=[]) :
 ∃(G:Env)(M':dg),Fj.den (PW m) [some (.ref t),some d,some (.ref q),a3,a4,a5,a6,a7] M=.ok (.next,G) M'/\∃(d':D)(R:Nat)(Z:List F),G=[some (.ref t),some d',some (.ref R),a3,a4,a5,a6,a7] /\
  M'[R]?=some (.lst (Z.map F.toD))/\R≠t/\Inv sz Z/\Z.length<=5/\Nr Z/\zc M M':=by
 unfold Fj;rw[Zc];refine Og (λn ρ M'=>∃(d:D)(fs hs:List F)(q:Nat),ρ=[some (.ref t),some d,some (.ref q),a3,a4,a5,a6,a7]/\fs.length=n/\Good sz fs/\fs.length<=3/\gm M' d=some (fs.map F.toD)/\M'[q]?=some (.lst (hs.map F.toD))/\q≠t /\
  Inv sz hs/\hs.length<=15/\(hs.length<6->Nr hs)/\(fs=[]->hs=[])/\zc M M')
  (λG M'=>∃(d':D)(R:Nat)(Z:List F),G=[some (.ref t),some d',some (.ref R),a3,a4,a5,a6,a7]/\M'[R]?=some (.lst (Z.map F.toD))/\R≠t/\Inv sz Z/\Z.length<=5/\Nr Z/\zc M M') ?_ aer fs.length _ M (by unfold aer;exact c_ hl (by decide))
  ⟨d,fs,hs,q,rfl,rfl,hg,hl,hd,hq,q3,hi,q1,hc,h0,zc.refl M⟩
 intro n ρ M1 hI;refine hG λ_ _k=>?_
 obtain⟨d,fs,hs,q,rfl,rfl,g1,g2,g3,g4,g5,g6,g7,g8,g9,qq⟩:=hI;apply _k
 by_cases c:5<hs.length
 .right
  refine hG λ_ _k=>?_
  have c':(5:Int)<(hs.length:Int):=m_ c
  have qv:fs≠[]:=λe=>by rw[g9 e] at c;simp at c
  have q5:1<=fs.length:=List.length_pos_iff.mpr qv
  have q2:aa9 d none (some (-1)) M1=some (.vl (fs.dropLast.map F.toD)):=by
   have qk:aep (fs.map F.toD) none (some (-1))=fs.dropLast.map F.toD:=by
    have e2:((-1:Int)+(fs.length:Int)).toNat=fs.length-1:=by lia
    simp[aep,clip,e2,List.map_dropLast,List.dropLast_eq_take]
   cases d with
   |tup ds=>simp[gm] at g3|vl ds=>simp only[aa9,g3,xj,qk]|ref n=>simp only[aa9,g3,xj,qk]|_=>simp[gm] at g3
  have gd:Good sz fs.dropLast:=λf hf=>g1 f (List.dropLast_subset fs hf)
  obtain⟨Z,M2,e,p2,k2,l2,i2,b2,c2,z2⟩:=Xw (M:=M1) (m:=m) (d:=.vl (fs.dropLast.map F.toD)) hm hz gd (by simp;exact a_ g2 (by decide)) rfl;have q4:t<M1.length:=by obtain⟨n,h,_⟩:=q0;exact zr (qq t _ h)
  apply _k;refine⟨M1,.next,_,M2,fs.length-1,?_,?_,.inl rfl,by lia,.vl (fs.dropLast.map F.toD),fs.dropLast,Z,M1.length,rfl,by simp,gd,by simp;exact a_ g2 (by decide),rfl,p2,i_ q4,i2,b2,c2,z2,qq.trans k2⟩
  .simp[K6 g4,c']
  .simp[-List.map_dropLast,Ka,q2,e]
 .left
  have c':¬(5:Int)<(hs.length:Int):=by lia
  exact⟨M1,by simp[K6 g4,c'],d,q,hs,rfl,g4,g5,g6,s_ c,g8 (c_ (s_ c) (by decide)),qq⟩
def ae1(hm:3<=m)(qv:Su t f M):∃(K r:Nat)(sz:Nat->Nat)(hs:List F)(jn:List (List Kx×D))(M':dg),prog.call m 5 [.ref t] M=.ok (.tup [.int K,dsD hs,.ref r]) M'/\M'[r]?=some (.dT jn)/\M.length<=r/\Ua sz K hs jn/\St t f M M':=by
 rw[call_of (a_ (by decide) hm) rfl];have zv:t<M.length:=by obtain⟨n,h,_⟩:=qv;exact zr h
 refine hG λ_ _k=>?_
 obtain⟨d,M1,fs,sz,e1,d1,n1,hz,g1,l1,s1⟩:=al5 (m:=m-1) (r_ hm) qv;obtain⟨hs,M2,e2,p2,k2,z1,i2,b2,c2,z2⟩:=Xw (M:=M1) (m:=m-1) (d:=d) (r_ (a_ (by decide) hm)) hz g1 l1 d1;apply _k;have zq:t<M1.length:=by obtain⟨n,h,_⟩:=s1.has;exact zr h
 refine hG λ_ _k=>?_
 have s2:St t f M1 M2:=St.of s1.has k2;obtain⟨z0,M3,e3,d',q,Z,rfl,p3,q3,i3,l3,c3,k3⟩:=aiv (M:=M2) (m:=m-1) (t:=t) (f:=f) (d:=d) (fs:=fs) (hs:=hs) (q:=M1.length) (a3:=none) (a4:=none) (a5:=none) (a6:=none) (a7:=none) (r_ (a_ (by decide) hm)) hz s2.has g1 l1 (k2.gm d1) p2 (i_ zq) i2 b2 c2 z2;have s3:St t f M2 M3:=St.of s2.has k3;have q7:=s1.trans (s2.trans s3);apply _k;have q1:=ame (W:=(PW (m-1))) (M:=M3) (a0:=some (.ref t)) (a1:=some d') (a3:=none) (a4:=none) (a5:=none) (a6:=none) (a7:=none) (by exact a_ l3 (by decide):Z.length<=100000) p3;obtain⟨v,ev,qk,zz⟩:=amd (M:=M3) (xs:=(Z.map λf:F=>max f.a f.b)++[0]) (by simp);have R:Ey .add (.vl ((Z.map λf:F=>max f.a f.b).map nD)) (.vl [.int 0]) M3=.ok (.vl (((Z.map λf:F=>max f.a f.b)++[0]).map nD)) M3:=by rw[Xq _ _ (by simp;exact a_ l3 (by decide))];simp[nD]
 generalize hX:(D.vl ((Z.map λf:F=>max f.a f.b).map nD))=X at q1 R;generalize hY:(D.vl (((Z.map λf:F=>max f.a f.b)++[0]).map nD))=Y at ev R;have zw:v<=2:=by
  rcases dz.mp zz with w|w
  .obtain⟨x,hx,rfl⟩:=bz.mp w
   have:=(i3.good x hx).a;have:=(i3.good x hx).b;lia
  .simp at w;exact a_ (f_ w) (jy _)
 have q2:ym M3 (.ref q) (.vl [])=some (decide (Z=[])):=by
  simp only[ym];cases Z with
  |nil=>simp[Ko,gm,p3,Qn]|cons a l=>simp[Ko,gm,p3]
 refine hG λ_ _k=>?_
 obtain⟨K,G,hK,k1,q6,ka,kb,p4,s4,l4⟩:∃(K:Nat)(G:dg),
  (Cu.iff (.cmp .eq (.v 2) (.Hr .nil)) (.o (.asg (.tg (.name 3)) (.bin .add (.i 1) (.call 2 (.p (.v 0) (.i 3)))))) .nil).den (PW (m-1)) [some (.ref t),some d',some (.ref q),some (.int (1+(v:Int))),none,none,none,none] M3
   = .ok (.next,[some (.ref t),some d',some (.ref q),some (.int K),none,none,none,none]) G/\1<=K/\K<=3/\(∀f∈Z,f.a<K)/\(∀f∈Z,f.b<K)/\G[q]?=some (.lst (Z.map F.toD))/\St t f M3 G/\G.length=M3.length:=by
  by_cases he:Z=[]
  .obtain⟨w,G,ew,lw,sw,q8⟩:=Br (m:=m-1) (r_ (a_ (by decide) hm)) s3.has (many:=3) (by decide) (by decide)
   refine⟨1+w,G,?_,x_,by lia,by simp[he],by simp[he],sw.keep q _ q3 p3,sw,q8⟩;simp[q2,he,ew]
  .refine⟨1+v,M3,?_,x_,by lia,λx hx=>?_,λx hx=>?_,p3,St.of s3.has (zc.refl _),rfl⟩
   .simp[q2,he]
   .have:=qk (max x.a x.b) (o7 _ (bz.mpr ⟨x,hx,rfl⟩));lia
   .have:=qk (max x.a x.b) (o7 _ (bz.mpr ⟨x,hx,rfl⟩));lia
 have p5:(G++[.dT []])[q]?=some (.lst (Z.map F.toD)):=Ab p4;have q0:=zr p4;obtain⟨zk,M6,jn,e6,r2,r3,r4,r8,p6,t6,u6⟩:=ax7 (W:=(PW (m-1))) (M:=G++[.dT []]) (q:=q) (r:=G.length) (a0:=some (.ref t)) (a1:=some d') (a3:=some (.int K)) (a5:=none) (a6:=none) (a7:=none) hz i3 l3 p5 (by simp) (h_ q0);apply _k;have q5:M6[q]?=some (.lst (Z.map F.toD)):=by rw[u6.oth q (h_ q0)];exact p5
 have q4:=aiu (W:=(PW (m-1))) (M:=M6) r2 r8 (by exact a_ l3 (by decide):Z.length<=100000) q5;have qq:=q7.trans s4;refine⟨K,G.length,sz,Z,jn,M6,?_,p6,qq.len,⟨hz,i3,c3,l3,k1,q6,ka,kb,t6⟩,?_⟩
 .simp only[Fn.run,M9,Mz]
  simp[-a3y,e1,e2,e3,q1,R,ev,hK,MW.new,e6,r3,r4,q4,K4,dsD]
 .refine qq.trans ⟨?_,?_,λa o na h=>?_⟩
  .rw[u6.len];simp
  .obtain⟨n,h,o⟩:=s4.has
   exact⟨n,by rw[u6.oth t (by have:=zr h;exact h_ this)];exact Ab h,o⟩
  .rw[u6.oth a (by have:=zr h;exact h_ this)];exact Ab h
def Meet(Z:List F)(j k:Nat):Prop:=∃f g,Z[j]?=some f/\Z[k]?=some g/\f.b=g.a
structure Ps(hs:List F)(j k:Nat)(ps:List (Nat×Nat)):Prop where
 all:∀p:Nat×Nat,p∈ps↔Meet hs p.1 p.2/\Zm j k p.1 p.2
 len:ps.length<=j*hs.length+k
def Ps.skip(h:Ps Z j k ps)(G:Z[j]?=some f)(R:Z[k]?=some g)(n:f.b≠g.a):Ps Z j (k+1) ps:=by
 refine⟨λp=>?_,by have:=h.len;exact a_ this (w_ x_)⟩;rw[h.all p];constructor
 .exact λq=>⟨q.1,by have:=q.2;unfold Zm at *;lia⟩
 .intro q
  refine⟨q.1,?_⟩;have hb:=q.2
  by_cases e:p.1=j/\p.2=k
  .obtain⟨f',g',a,b,c⟩:=q.1
   rw[e.1,G] at a;rw[e.2,R] at b;cases a;cases b;exact absurd c n
  .unfold Zm at *;lia
def Ps.put(h:Ps Z j k ps)(G:Z[j]?=some f)(R:Z[k]?=some g)(n:f.b=g.a):Ps Z j (k+1) (ps++[(j,k)]):=by
 refine⟨λp=>?_,by have:=h.len;simp;lia⟩;rw[dz,h.all p,yp];constructor
 .rintro(q|q)
  .exact⟨q.1,by have:=q.2;unfold Zm at *;lia⟩
  .subst q;exact⟨⟨f,g,G,R,n⟩,by unfold Zm;lia⟩
 .intro q
  by_cases e:p.1=j/\p.2=k
  .right;exact Prod.ext e.1 e.2
  .left;exact⟨q.1,by have:=q.2;unfold Zm at *;lia⟩
def Ps.next(h:Ps Z j Z.length ps):Ps Z (j+1) 0 ps:=by
 refine⟨λp=>?_,by have:=h.len;have e:(j+1)*Z.length=j*Z.length+Z.length:=Nat.succ_mul _ _;exact a_ this (a_ (g_ e) x_)⟩;rw[h.all p];constructor
 .exact λq=>⟨q.1,by have:=q.2;unfold Zm at *;lia⟩
 .intro q
  refine⟨q.1,?_⟩;obtain⟨f,g,a,b,c⟩:=q.1;have:=(aj.mp b).1;have:=q.2;unfold Zm at *;lia
def a4k(f:F)(M:dg):Ak (eD f) (.int 0) M=some (.int f.a):=rfl
def a4l(f:F)(M:dg):Ak (eD f) (.int 1) M=some (.int f.b):=rfl
def Xx{i:Nat}(h:Z[i]?=some f):Ak (dsD Z) (.int i) M=some (eD f):=Jp q_ (by simp[h])
def Sv:qm .len [dsD Z] M=.ok (.int Z.length) M:=by simp[qm,yd,dsD]
def abn(x y:D)(i j:Nat)(Z:Env):(Tg.names [i,j]).put (.tup [x,y]) Z=some ((Z.set i (some x)).set j (some y)):=rfl
def bothW(G:List F)(Z:List (List Kx×D))(x y:Int):Option D:=if x=-1 then some (.int y) else if y=-1 then some (.int x) else wg Z [.inl x,.inl y]
def aiw(Z:List F)(c:F):Int:=if c∈Z then(pos c Z:Int) else -1
def K7(Z:List F)(f g:F):ent Z f g=aiw Z (f.comp g):=rfl
def agw(Z:hs.Nodup){i:Nat}(h:hs[i]?=some f):aiw hs f=i:=by have m:f∈hs:=au h;rw[aiw,dh m,aev Z h]
section
variable{sz:Nat->Nat}{K:Nat}{hs:List F}{jn:List (List Kx×D)}(P:Ua sz K hs jn)
include P
theorem Ua.look(Z:hs[j]?=some f)(G:hs[k]?=some g)(h:f.b=g.a):wg jn (ky j k)=some (.int (ent hs f g)) :=
 P.tb.look j k f g Z G h (.inl (aj.mp Z).1)
theorem Ua.no(h:¬Meet hs j k):wg jn (ky j k)=none:=by
 apply air;intro p Z e;refine hG λ_ _k=>?_
 obtain⟨G,R,f,g,rfl,a,b,c,_⟩:=P.tb.keys p Z;obtain⟨rfl,rfl⟩:=aez e;apply _k;exact h ⟨f,g,a,b,c⟩
theorem Ua.Du(h:c∈hs\/c.Ou):(aiw hs c=-1/\c.Ou)\/∃i:Nat,hs[i]?=some c/\aiw hs c=i:=by
 by_cases m:c∈hs
 .exact .inr ⟨pos c hs,Zh c m,dh m⟩
 .exact .inl ⟨cu m,h.resolve_left m⟩
theorem Ua.aya{j k l:Nat}(hj:hs[j]?=some f)(hk:hs[k]?=some g)(hl:hs[l]?=some h)(e1:f.b=g.a)(e2:g.b=h.a) :
 ∃v:Int,bothW hs jn (ent hs f g) l=some (.int v)/\bothW hs jn j (ent hs g h)=some (.int v):=by
 have mf:=au hj;have mg:=au hk;have mh:=au hl;have of:=P.inv.good f mf;have og:=P.inv.good g mg;have oh:=P.inv.good h mh;have as:=aew (h:=h) of og e1;rw[K7,K7];have nj:¬((j:Int)=-1):=by lia
 have nl:¬((l:Int)=-1):=by lia
 rcases P.Du (P.cl f mf g mg e1) with⟨x1,i1⟩|⟨u,hu,x1⟩
 .have c1:=Zi (of.comp og e1) i1
  have ha:f.a=g.b:=i1.1;have G:(f.comp g).comp h=h:=by rw[c1];show(idF sz f.a).comp h=h;rw[ha,e2];exact id_comp oh
  rcases P.Du (P.cl g mg h mh e2) with⟨R,i2⟩|⟨w,hw,R⟩
  .have c2:=Zi (og.comp oh e2) i2
   have Z:f.comp (g.comp h)=f:=by rw[c2];show f.comp (idF sz g.a)=f;rw[<- e1];exact comp_id of
   have fh:f=h:=by rw[<- Z,<- as,G]
   have jl:j=l:=by rw[<- aev P.inv.nd hj,<- aev P.inv.nd hl,fh]
   refine⟨l,by simp[bothW,x1],?_⟩;rw[R,bothW,cu nj,dh rfl,jl]
  .have nw:¬((w:Int)=-1):=by lia
   refine⟨l,by simp[bothW,x1],?_⟩;rw[R,bothW,cu nj,cu nw];have:=P.look hj hw (show f.b=(g.comp h).a from e1);rw[K7,<- as,G,agw P.inv.nd hl] at this;exact this
 .have nu:¬((u:Int)=-1):=by lia
  have lu:=P.look hu hl (show(f.comp g).b=h.a from e2);rcases P.Du (P.cl g mg h mh e2) with⟨R,i2⟩|⟨w,hw,R⟩
  .have c2:=Zi (og.comp oh e2) i2
   have Z:f.comp (g.comp h)=f:=by rw[c2];show f.comp (idF sz g.a)=f;rw[<- e1];exact comp_id of
   refine⟨j,?_,?_⟩
   .rw[x1,bothW,cu nu,cu nl]
    rw[K7,as,Z,agw P.inv.nd hj] at lu;exact lu
   .rw[R,bothW,cu nj,dh rfl]
  .have nw:¬((w:Int)=-1):=by lia
   refine⟨aiw hs ((f.comp g).comp h),?_,?_⟩
   .rw[x1,bothW,cu nu,cu nl];exact lu
   .rw[R,bothW,cu nj,cu nw]
    have:=P.look hj hw (show f.b=(g.comp h).a from e1);rw[K7,<- as] at this;exact this
end
end K13
namespace L2
open PySem PySem.Spec PyProof.Rows
abbrev Key:=Sum Int Str
noncomputable def Xy:Key->Value->Bool
 |.inl k,v=>Value.isInt k v|.inr x,v=>Value.isStrOf x v
noncomputable def bcf(w:World):Key->Int
 |.inl k=>hashInt k|.inr x=>hashStr w x
theorem Bq:∀{k:Key}{v:Value},Xy k v=true->(∃i t,k=Sum.inl i/\v=Value.int i t)\/(∃x t,k=Sum.inr x/\v=Value.str x t)
 |.inl i,v,h=>by
  obtain⟨t,e⟩:=Value.isInt_shape (k:=i) (v:=v) h;exact .inl ⟨i,t,rfl,e⟩
 |.inr x,v,h=>by
  obtain⟨t,e⟩:=Value.isStrOf_shape (x:=x) (v:=v) h;exact .inr ⟨x,t,rfl,e⟩
def aix(i:Int)(t:Tok):Xy (.inl i) (.int i t)=true:=by simp[Xy,Value.isInt]
def aiy(x:Str)(t:Tok):Xy (.inr x) (.str x t)=true:=by simp[Xy,Value.isStrOf]
def ayb(a b:Int):decide ((Sum.inl a:Key)=Sum.inl b)=(a==b):=by
 by_cases e:a=b
 .subst e;simp
 .have h:¬(Sum.inl a:Key)=Sum.inl b:=λq=>e (Sum.inl.inj q)
  rw[ou h];exact(zm.mpr e).symm
def ayc(a b:Str):decide ((Sum.inr a:Key)=Sum.inr b)=decide (a=b):=by
 by_cases e:a=b
 .subst e;simp
 .have h:¬(Sum.inr a:Key)=Sum.inr b:=λq=>e (Sum.inr.inj q)
  rw[ou h,ou e]
def ayd(a:Int)(b:Str):decide ((Sum.inl a:Key)=Sum.inr b)=false:=ou (λq=>nomatch q)
def aye(a:Str)(b:Int):decide ((Sum.inr a:Key)=Sum.inl b)=false:=ou (λq=>nomatch q)
def Bx(prog:Program)(w:World):PySem.KeyKind prog w Key where
 is:=Xy
 hash:=bcf w
 inj:=λv a b R G=>by
  rcases Bq R with⟨i,t,rfl,rfl⟩|⟨x,t,rfl,rfl⟩
  .rcases Bq G with⟨j,u,rfl,e⟩|⟨y,u,rfl,e⟩
   .injection e with e1 _;rw[e1]
   .exact nomatch e
  .rcases Bq G with⟨j,u,rfl,e⟩|⟨y,u,rfl,e⟩
   .exact nomatch e
   .injection e with e1 _;rw[e1]
 byValue:=λk v h=>by rcases Bq h with⟨i,t,rfl,rfl⟩|⟨x,t,rfl,rfl⟩<;>rfl
 pyHash:=λZ h=>by
  rcases Bq Z with⟨i,t,rfl,rfl⟩|⟨x,t,rfl,rfl⟩
  .exact wpAny_pyHash_int h
  .exact wpAny_pyHash_str h
 eqBool:=λhu Z h=>by
  rcases Bq hu with⟨i,t,rfl,rfl⟩|⟨x,t,rfl,rfl⟩
  .rcases Bq Z with⟨j,u,rfl,rfl⟩|⟨y,u,rfl,rfl⟩
   .rw[ayb] at h;exact wpAny_eqBool_int h
   .rw[ayd] at h;exact SeqAt.EqAt.int_str i t y u _ _ _ _ h
  .rcases Bq Z with⟨j,u,rfl,rfl⟩|⟨y,u,rfl,rfl⟩
   .rw[aye] at h;exact SeqAt.EqAt.str_int x t j u _ _ _ _ h
   .rw[ayc] at h;exact wpAny_eqBool_str h
 «strs»:=λk x t v h=>by
  rcases Bq h with⟨i,u,rfl,e⟩|⟨y,u,rfl,e⟩
  .exact nomatch e
  .injection e with e1 _
   subst e1;cases v<;>rfl
def abo(prog:Program)(w:World)(i:Int)(t:Tok):(Bx prog w).is (.inl i) (.int i t)=true:=aix i t
def abp(prog:Program)(w:World)(x:Str)(t:Tok):(Bx prog w).is (.inr x) (.str x t)=true:=aiy x t
end L2
namespace L2
open PySem PySem.Spec PyProof.Rows
set_option genInjectivity true in
inductive V where
 |non|bl (b:Bool)|int (i:Int)|str (x:Str)|byt (b:Array UInt8)|flt (b:UInt64)|ref (a:Addr)|ty (n:String)
 deriving DecidableEq
def RelV:V->Value->Prop
 |.non,u=>u=Value.none|.bl b,u=>u=Value.bool b|.int i,u=>∃t,u=Value.int i t|.str x,u=>∃t,u=Value.str x t|.byt b,u=>∃t,u=Value.bytes b t|.flt b,u=>∃t,u=Value.float b t|.ref a,u=>u=Value.ref a|.ty n,u=>u=Value.type n
abbrev Vals:List V->List Value->Prop:=Paired RelV
theorem Vals.length(r:Vals Z G):Z.length=G.length:=Paired.length r
theorem Vals.get:∀{Z:List V}{G:Zl}{i:Nat}{x:V},Vals Z G->Z[i]?=some x->∃u,G[i]?=some u/\RelV x u
 |_,_,_,_,.nil,e=>by simp at e|_,_,0,_,.cons r _,e=>by simp at e;subst e;exact⟨_,rfl,r⟩
 |_,_,i+1,x,.cons _ t,e=>by
  obtain⟨u,h1,R⟩:=Vals.get (i:=i) (x:=x) t (by simpa using e);exact⟨u,by simpa using h1,R⟩
theorem Vals.set{x:V}{u:Value}(r:RelV x u):∀{Z:List V}{G:Zl}(i:Nat),Vals Z G->Vals (Z.set i x) (G.set i u)
 |_,_,_,.nil=>.nil|_,_,0,.cons _ t=>.cons r t|_,_,i+1,.cons q t=>.cons q (Vals.set r i t)
theorem Vals.append:∀{G Z:List V}{R ws:Zl},Vals G R->Vals Z ws->Vals (G++Z) (R++ws):=by intro _ _ _ _ h r;induction h with|nil=>exact r|cons q t ih=>exact .cons q ih
theorem Vals.take:∀{Z:List V}{G:Zl}(n:Nat),Vals Z G->Vals (Z.take n) (G.take n)
 |_,_,0,_=>.nil|_,_,_+1,.nil=>.nil|_,_,n+1,.cons r t=>.cons r (Vals.take n t)
theorem Vals.drop:∀{Z:List V}{G:Zl}(n:Nat),Vals Z G->Vals (Z.drop n) (G.drop n)
 |_,_,0,r=>r|_,_,_+1,.nil=>.nil|_,_,n+1,.cons _ t=>Vals.drop n t
def Sw:Option V->Option Value->Prop
 |some v,some u=>RelV v u|none,none=>True|_,_=>False
def KV{Z:Type}:List (Z×V)->List (Z×Value)->Prop:=Paired λ(p:Z×V) (q:Z×Value)=>p.1=q.1/\RelV p.2 q.2
noncomputable def kV:Key->V
 |.inl i=>.int i|.inr x=>.str x
inductive HO where
 |lst (xs:List V)
 |tup (xs:List V)
 |dK (jn:List (Key×V))|dT (jn:List (List Key×V))
 |set (S:Int->Bool) (n:Nat)
 |ins (C dx:Addr) (fs:List (Str×V))
 |own (x:Addr)
 |xd (fs:List (Str×V))
 |met (f x:Addr)
 |Jg (lo hi:Int)
 |Je (o:Obj) (u:HO)
 |W4 (ps:Xt)
 |ext (φ:Heap->Prop)
abbrev Hp:=Addr->Option HO
noncomputable def upd(H:Hp)(a:Addr)(o:HO):Hp:=λb=>if b=a then some o else H b
def qw:upd H a o a=some o:=by unfold upd;rw[dh rfl]
def jb(h:b≠a):upd H a o b=H b:=by unfold upd;rw[cu h]
def amg{H:Hp}(h:H a=some o)(Z:H b=some u)(d:o≠u):a≠b:=by intro e;subst e;rw[h] at Z;exact d (jd Z)
def mz{H:Hp}(h:H a=some o)(Z:H b=none):a≠b:=by intro e;subst e;rw[h] at Z;cases Z
section
variable(P:Program)(w:World)
def W5(h:Heap)(a:Addr)(Z:Xt):Prop:=∃o,h.get? a=some o/\o.cls=.type "tuple"/\∃n,o.data=.seq Z n/\o.dict=none
def W5.is(x:W5 h a items):IsTup h a items:=let ⟨o,h1,h2,n,h3,_⟩:=x;⟨o,h1,h2,n,h3⟩
def W5.new(h:Heap)(items:Xt):W5 (h.push { cls:=.type "tuple",data:=.seq items }) h.objs.size items:=⟨_,bh _ rfl,rfl,_,rfl,rfl⟩
def Aj(H:Hp)(h:Heap)(a:Addr):HO->Prop
 |.lst Z=>Z.length<=sizeLine/\∃(R:Zl)(n:Nat),Vals Z R/\h.get? a=some { cls:=.type "list",data:=.seq R.toArray n }|.tup Z=>Z.length<=sizeLine/\∃R:List Value,Vals Z R/\W5 h a R.toArray|.dK jn=>jn.length<=sizeLine/\(a==sysModules)=false/\∃vs,KV jn vs/\h.DictOf (Bx P w) a vs
 |.dT jn=>jn.length<=sizeLine/\(a==sysModules)=false/\∃Z:List (List Key×Addr×Value),
  Paired (λ(p:List Key×V) (q:List Key×Addr×Value)=>p.1=q.1/\H q.2.1=some (.tup (p.1.map kV))/\RelV p.2 q.2.2) jn Z /\
  ∃o es ep,h.get? a=some o/\o.ExactDict/\o.data=.dict es ep/\es.toList=Z.map (entryOfKey (tupleKind (Bx P w)))/\(Z.map (·.1)).Nodup
 |.set S n=>h.SetOf (intKind P w) a S n
 |.ins C dx fs=>H dx=some (.own a)/\fs.length<=1000/\dx≠a/\h.get? a=some (PySem.W.instObj C dx) /\
  ∃G,h.Ns1 dx G/\(∀f,Sw (fs.lookup f) (G f))/\PySem.Within G (fs.map (·.1))
 |.own _=>∃o,h.get? a=some o|.xd fs=>∃G,h.Ns1 a G/\∀f,Sw (fs.lookup f) (G f)|.Jg lo hi=>∃t u v,h.get? a=some { cls:=.type "range",data:=.fields #[.int lo t,.int hi u,.int 1 v] }|.Je o u=>h.get? a=some o/\Aj H h a u|.W4 ps=>h.get? a=some { cls:=.none,data:=.fields ps }|.met f x=>h.get? a=some (PySem.W.methodObj (.ref f) (.ref x))|.ext φ=>φ h/\(∃o,h.get? a=some o)/\∀h1 h2:Heap,φ h1->(∀o,h1.get? a=some o->h2.get? a=some o)->φ h2
def Ml(H:Hp)(h:Heap):Prop:=∀a o,H a=some o->Aj P w H h a o
end
theorem Aj.lt(x:Aj P w H h a o):a<h.objs.size:=by
 cases o with
 |lst G=>obtain⟨_,_,_,_,e⟩:=x;exact bc e
 |tup G=>obtain⟨_,_,_,p⟩:=x;exact(W5.is p).lt
 |dK Z=>obtain⟨_,_,_,_,o,_,_,e,_⟩:=x;exact bc e
 |dT Z=>obtain⟨_,_,_,_,o,_,_,e,_⟩:=x;exact bc e
 |set S n=>obtain⟨o,_,_,_,e,_⟩:=x;exact bc e
 |ins C dx fs=>obtain⟨_,_,_,e,_⟩:=x;exact bc e
 |own y=>obtain⟨_,e⟩:=x;exact bc e
 |xd fs=>obtain⟨_,⟨_,_,_,e,_⟩,_⟩:=x;exact bc e
 |Jg lo hi=>obtain⟨_,_,_,e⟩:=x;exact bc e
 |Je ob u=>obtain⟨e,_⟩:=x;exact bc e
 |W4 R=>exact bc (show h.get? a=some _ from x)
 |met f y=>exact bc (show h.get? a=some _ from x)
 |ext φ=>obtain⟨_,⟨_,e⟩,_⟩:=x;exact bc e
theorem Paired.ayf{α β:Type}{F G:α->β->Prop}:∀{Z:List α}{R:List β},Paired F Z R->(∀a b,F a b->G a b)->Paired G Z R:=by intro _ _ h f;induction h with|nil=>exact .nil|cons r t ih=>exact .cons (f _ _ r) ih
def Aj.stay(x:Aj P w H h a o)(k:∀b u,(b=a\/H b=some (.own a))->h.get? b=some u->h'.get? b=some u)(ho:∀b,H b=some (.own a)->H' b=some (.own a))(ht:∀b xs,H b=some (.tup xs)->H' b=some (.tup xs)):Aj P w H' h' a o:=by
 induction o with
 |lst xs=>obtain⟨z,yj,n,r,e⟩:=x;exact⟨z,yj,n,r,k _ _ (.inl rfl) e⟩
 |tup xs=>obtain⟨z,yj,r,Z,e,c⟩:=x;exact⟨z,yj,r,Z,k _ _ (.inl rfl) e,c⟩
 |dK jn=>obtain⟨z,y,vs,r,Z,G,R,e,c⟩:=x;exact⟨z,y,vs,r,Z,G,R,k _ _ (.inl rfl) e,c⟩
 |dT jn =>
  obtain⟨z,y,xs,r,Z,G,R,e,c⟩:=x;exact⟨z,y,xs,Paired.ayf r λp q z=>⟨z.1,ht _ _ z.2.1,z.2.2⟩,Z,G,R,k _ _ (.inl rfl) e,c⟩
 |set S n=>obtain⟨Z,G,R,t,e,c⟩:=x;exact⟨Z,G,R,t,k _ _ (.inl rfl) e,c⟩
 |ins C dx fs =>
  obtain⟨d,z,ne,e,mA,⟨od,G,R,e2,c⟩,r⟩:=x;exact⟨ho _ d,z,ne,k _ _ (.inl rfl) e,mA,⟨od,G,R,k _ _ (.inr d) e2,c⟩,r⟩
 |own y=>obtain⟨Z,e⟩:=x;exact⟨Z,k _ _ (.inl rfl) e⟩
 |xd fs=>obtain⟨mA,⟨od,G,R,e,c⟩,r⟩:=x;exact⟨mA,⟨od,G,R,k _ _ (.inl rfl) e,c⟩,r⟩
 |Jg lo hi=>obtain⟨t,u,v,e⟩:=x;exact⟨t,u,v,k _ _ (.inl rfl) e⟩
 |Je Z u ih=>obtain⟨e,q⟩:=x;exact⟨k _ _ (.inl rfl) e,ih q⟩
 |W4 ps =>
  have e:h.get? a=some { cls:=.none,data:=.fields ps }:=x;show h'.get? a=some { cls:=.none,data:=.fields ps };exact k a _ (.inl rfl) e
 |met f y =>
  have e:h.get? a=some (PySem.W.methodObj (.ref f) (.ref y)):=x;show h'.get? a=some (PySem.W.methodObj (.ref f) (.ref y));exact k a _ (.inl rfl) e
 |ext φ=>obtain⟨p,⟨o,e⟩,st⟩:=x;exact⟨st _ _ p λo q=>k _ _ (.inl rfl) q,⟨o,k _ _ (.inl rfl) e⟩,st⟩
theorem Ml.lt(x:Ml P w H h)(e:H a=some o):a<h.objs.size:=(x a o e).lt
def Ml.fresh(x:Ml P w H h)(e:h.objs.size<=a):H a=none:=by
 cases q:H a with
 |none=>rfl|some u=>exact absurd (dm (x.lt q) e) (jr _)
def Ml.kept(x:Ml P w H h)(k:∀b u,h.get? b=some u->h'.get? b=some u):Ml P w H h':=λa o e =>
 (x a o e).stay (λb u _ q=>k b u q) (λ_ q=>q) λ_ _ q=>q
def Ml.laid(x:Ml P w H h)(k:∀b u,h.get? b=some u->h'.get? b=some u)(R:h.objs.size<=a)(new:Aj P w (upd H a o) h' a o):Ml P w (upd H a o) h':=λb u e=>by
 have G:=x.fresh R
 by_cases Z:b=a
 .subst Z;rw[qw] at e;cases e;exact new
 .rw[jb Z] at e
  exact(x b u e).stay (λc v _ q=>k c v q) (λc q=>by rw[jb (mz q G)];exact q) λc xs q=>by rw[jb (mz q G)];exact q
def Rd(H:Hp)(a:Addr)(u:HO):Prop:=H a=some u\/∃o,H a=some (.Je o u)
def Rd.ok(r:Rd H a u)(x:Ml P w H h):Aj P w H h a u:=by
 rcases r with r|⟨o,r⟩
 .exact x a u r
 .obtain⟨_,q⟩:=x a _ r
  exact q
def Mut:Option HO->Prop
 |some (.lst _)=>True|some (.dK _)=>True|some (.dT _)=>True|some (.set _ _)=>True|some (.ins _ _ _)=>True|some (.ext _)=>True|_=>False
def Ml.write(ok:Ml P w H h)(mu:Mut (H x))(he:e=x\/H e=some (.own x))(k:∀b u,b≠e->h.get? b=some u->h'.get? b=some u)(qq:∃u,h'.get? e=some u)(new:Aj P w (upd H x o') h' x o'):Ml P w (upd H x o') h':=λb u q=>by
 have G:∀c y,H c=some (.own y)->c≠x:=λc y r z=>by subst z;rw[r] at mu;exact mu
 have qk:∀c xs,H c=some (.tup xs)->c≠x:=λc xs r z=>by subst z;rw[r] at mu;exact mu
 by_cases hb:b=x
 .subst hb;rw[qw] at q;cases q;exact new
 .rw[jb hb] at q
  by_cases Z:b=e
  .have q':H b=some (.own x):=by
    rcases he with z|z
    .exact absurd (Z.trans z) hb
    .rw[Z];exact z
   rw[q] at q';cases q';obtain⟨v,hv⟩:=qq;exact⟨v,by rw[Z];exact hv⟩
  .refine(ok b u q).stay (λc v R r=>k c v ?_ r) (λc r=>by rw[jb (G c b r)];exact r) λc xs r=>by rw[jb (qk c xs r)];exact r
   rcases R with rfl|R
   .exact Z
   .rintro rfl
    rcases he with z|z
    .exact G c b R z
    .rw[R] at z;cases z;exact hb rfl
structure Un(fs ex:X0)(H H':Hp)(h h':Heap):Prop where
 keep:∀b o,h.get? b=some o->H b=none->b∉fs->b∉ex->h'.get? b=some o
 slot:∀b o,h.get? b=some o->H b=none->b∈fs->b∉ex->∃sl,h'.get? b=some { o with slots:=sl }
 free:∀b o,h.get? b=some o->H b=none->b∉ex->H' b=none
 there:∀b o,h.get? b=some o->b∉ex->∃o',h'.get? b=some o'
 Ov:∀b xs,H b=some (.tup xs)->H' b=some (.tup xs)
 Qf:∀b o u,H b=some (.Je o u)->H' b=some (.Je o u)
 Qy:∀b ps,H b=some (.W4 ps)->∃more,H' b=some (.W4 (ps++more))
def Un.any(u:Un fs ex H H1 h h1)(q:h.get? b=some Z)(n:H b=none)(G:b∉ex):∃sl,h1.get? b=some { Z with slots:=sl }:=by
 by_cases R:b∈fs
 .exact u.slot b Z q n R G
 .exact⟨Z.slots,u.keep b Z q n R G⟩
def Un.kept(k:∀b u,h.get? b=some u->h'.get? b=some u):Un fs ex H H h h' :=
 ⟨λb Z q _ _ _=>k b Z q,λb Z q _ _ _=>⟨Z.slots,k b Z q⟩,λ_ _ _ n _=>n,λb Z q _=>⟨Z,k b Z q⟩,λ_ _ q=>q,λ_ _ _ q=>q,λ_ G q=>⟨#[],by rw[q];simp⟩⟩
def Un.refl:Un fs ex H H h h:=Un.kept λ_ _ q=>q
theorem Un.laid(k:∀b u,h.get? b=some u->R.get? b=some u)(G:h.objs.size<=a)(Z:H a=none):Un fs ex H (upd H a o) h R where
 keep:=λb u q _ _ _=>k b u q
 slot:=λb u q _ _ _=>⟨u.slots,k b u q⟩
 free:=λb u q n _=>by rw[jb (gh (dm (bc q) G))];exact n
 there:=λb u q _=>⟨u,k b u q⟩
 Ov:=λb xs q=>by rw[jb (mz q Z)];exact q
 Qf:=λb u xs q=>by rw[jb (mz q Z)];exact q
 Qy:=λb ps q=>⟨#[],by rw[jb (mz q Z),q];simp⟩
def Un.write(G:Mut (H x))(he:e=x\/H e=some (.own x))(k:∀b u,b≠e->h.get? b=some u->h'.get? b=some u)(R:∃u,h'.get? e=some u):Un fs ex H (upd H x o) h h':=by
 have hx:∀b,H b=none->b≠x:=λb n z=>by subst z;rw[n] at G;exact G
 have hb:∀b,H b=none->b≠e:=λb n z=>by
  subst z;rcases he with r|r
  .exact hx b n r
  .rw[n] at r;cases r
 have hm:∀b u,H b=some u->¬Mut (some u)->b≠x:=λb u q nm z=>by subst z;rw[q] at G;exact nm G
 refine⟨λb u q n _ _=>k b u (hb b n) q,λb u q n _ _=>⟨u.slots,k b u (hb b n) q⟩,λb u q n _=>by rw[jb (hx b n)];exact n,λb u q _=>?_,
  λb xs q=>by rw[jb (hm b _ q λz=>z)];exact q,λb u xs q=>by rw[jb (hm b _ q λz=>z)];exact q,λb ps q=>⟨#[],by rw[jb (hm b _ q λz=>z),q];simp⟩⟩
 by_cases Z:b=e
 .subst Z;exact R
 .exact⟨u,k b u Z q⟩
noncomputable def trk(h:Heap)(H:Hp):List Addr:=(List.range h.objs.size).filter λa=>(H a).isSome
def W6(h:Heap)(H:Hp):Heap:=PySem.W.hideAll h (trk h H)
def aiz(h:Heap)(H:Hp):(W6 h H).objs.size=h.objs.size:=PySem.W.hideAll_size _ _
def amh(e:h.get? b=some o)(n:H b=none):(W6 h H).get? b=some o :=
 PySem.W.hideAll_get _ e λZ=>by have q:(H b).isSome=true:=(xf.mp Z).2;rw[n] at q;simp at q
def arw(e:(W6 h H).get? b=some o):h.get? b=some o/\H b=none:=by
 have Z:h.get? b=some o:=PySem.W.of_hideAll (trk h H) e;refine⟨Z,?_⟩;cases q:H b with
 |none=>rfl
 |some x =>
  have G:b∈trk h H:=xf.mpr ⟨gw.mpr (bc Z),by simp[q]⟩;have z:(W6 h H).get? b=none:=PySem.W.hideAll_none (trk h H) G;rw[z] at e;cases e
end L2
namespace L2
open PySem PySem.Spec PyProof.Rows
structure Mod(K:Fg)(mg:Zs)(base:Heap):Prop where
 kin:K.In base
 glob:base.Ns mainGlobals mg
 blt:∃mb,base.Ns builtinsNs mb/\∀x:Str,x≠"__name__" -> mb x=bootBuiltins x
 nolimit:base.NoLimit
structure Cx where
 prog:Program
 w:World
 K:Fg
 mg:Str->Option Value
 base:Heap
 A:Around
 N:List Str
 s₀:Shared
 H₀:Hp
 env:Env
 outer:List Env
 stack:List Env
 ex:List Addr
 fn:Str->Bool
 calm:Bool
 pn:List (Addr×Obj)
 xe:Value->Shared->Prop
noncomputable def Hl(l:List Env):List Addr:=l.filterMap (·.frame)
abbrev Cx.fs(X:Cx):List Addr:=Hl X.outer
def Vis(Z:Scope)(x:Str):Prop:=Z.names.lookup x=some .local\/Z.names.lookup x=some .cell\/Z.names.lookup x=some .free
def Loc(Z:Scope)(x:Str):Prop:=Z.names.lookup x=some .local\/Z.names.lookup x=some .cell
def Look(Z:Env)(h:Heap)(m:Zs)(x:Str)(u:Value):Prop :=
 (Z.kindOf x=some .local/\m x=some u)\/((Z.kindOf x=some .cell\/Z.kindOf x=some .free)/\∃c,Z.cells.lookup x=some c/\h.IsCell c (some u))
structure Cx.Ok(X:Cx):Prop where
 mod:Mod X.K X.mg X.base
 kind:X.env.scope.kind=.function
 glob:X.env.globals=mainGlobals
 blt:X.env.builtins=builtinsNs
 above:X.s₀.heap.objs.size<=X.env.locals
 inj:∀x y c,X.env.cells.lookup x=some c->X.env.cells.lookup y=some c->x=y
 has:∀x,(X.env.kindOf x=some .cell\/X.env.kindOf x=some .free)->∃c,X.env.cells.lookup x=some c
 cab:∀x c,X.fn x=true->X.env.cells.lookup x=some c->X.s₀.heap.objs.size<=c
 hd:X.calm=true->X.A.handled=none
 frames:X.A.frames=some X.stack
 stk:X.stack=X.outer\/(X.stack=X.env::X.outer/\X.env.frame=some X.env.locals)
 exf:∀b∈X.ex,b≠X.env.locals/\∀x c,X.env.cells.lookup x=some c->c≠b
 bs:∀b o,X.base.get? b=some o->X.s₀.heap.get? b=some o/\X.H₀ b=none
 bsz:X.base.objs.size<=X.s₀.heap.objs.size
 abq:∀b o,X.base.get? b=some o->b∉X.ex
 ae3:∀b∈X.ex,b∉X.fs
 Ow:X.s₀.heap.FunFrames X.base X.outer
 frf:∀b∈X.fs,X.H₀ b=none
structure Inv(X:Cx)(pins:Zp)(σ:List (Option V))(H:Hp)(s:Shared):Prop where
 ok:X.Ok
 os:s.os=X.s₀.os
 bare:AllBare s.gens
 base:Un X.fs X.ex X.H₀ H X.s₀.heap s.heap
 loc:∃m,s.heap.Ns X.env.locals m/\∀(i:Nat)(x:Str)(v:V),X.N[i]?=some x->σ[i]?=some (some v)->Vis X.env.scope x->∃u,RelV v u/\Look X.env s.heap m x u
 cell:∀x c,X.env.cells.lookup x=some c->∃v,s.heap.IsCell c v
 free:H X.env.locals=none
 Dk:∀x c,X.env.cells.lookup x=some c->H c=none
 pin:∀p∈X.pn++pins,s.heap.get? p.1=some p.2/\H p.1=none/\p.1≠X.env.locals/\p.1∉X.fs/\∀v,p.2.data≠.cell v
 zb:Ml X.prog X.w H s.heap
 len:σ.length=X.N.length
def Cx.Ok.ami{X:Cx}(ok:X.Ok)(e:X.base.get? b=some o):b∉X.fs:=λZ=>by have:=(ok.Ow.mem Z).1;rw[e] at this;cases this
theorem Inv.bs(I:Inv X pins σ H s):∀b o,X.base.get? b=some o->s.heap.get? b=some o/\H b=none:=λb o e =>
 ⟨I.base.keep b o (I.ok.bs b o e).1 (I.ok.bs b o e).2 (I.ok.ami e) (I.ok.abq b o e),I.base.free b o (I.ok.bs b o e).1 (I.ok.bs b o e).2 (I.ok.abq b o e)⟩
def Inv.bk(I:Inv X pins σ H s):∀b o,X.base.get? b=some o->s.heap.get? b=some o:=λb o e=>(I.bs b o e).1
theorem Inv.mod(I:Inv X pins σ H s):Mod X.K X.mg X.base:=I.ok.mod
def Inv.Wz(I:Inv X pins σ H s):X.K.In s.heap:=I.ok.mod.kin.keeps I.bk
theorem Inv.lt(I:Inv X pins σ H s):X.env.locals<s.heap.objs.size:=let ⟨_,hn,_⟩:=I.loc;hn.lt
def Inv.sz(I:Inv X pins σ H s):X.s₀.heap.objs.size<=s.heap.objs.size:=ig I.ok.above (yu I.lt)
def Inv.ayi(I:Inv X pins σ H s)(h:s.heap.objs.size<=a):a∉X.fs:=λZ=>by obtain⟨_,o,G,_⟩:=I.ok.Ow.mem Z;exact absurd (dm (bc G) (ig I.sz h)) (jr _)
def Inv.cne(I:Inv X pins σ H s):∀x c,X.env.cells.lookup x=some c->c≠X.env.locals:=λx c e z=>by obtain⟨v,o,R,hd⟩:=I.cell x c e;obtain⟨m,⟨o',es,ep,Z,G,_⟩,_⟩:=I.loc;rw[z,Z] at R;cases R;rw[G] at hd;cases hd
theorem Inv.Ow(I:Inv X pins σ H s):s.heap.FunFrames X.base X.outer:=by
 have all:∀(l:List Env),(∀b∈Hl l,b∈X.fs)->X.s₀.heap.FunFrames X.base l->s.heap.FunFrames X.base l:=by
  intro l
  induction l with
  |nil=>intro _ _;trivial
  |cons qq r ih =>
   intro hs hl;obtain⟨hk,⟨L,o,Z,hn,ho,hd⟩,hr⟩:=hl;have G:L∈X.fs:=hs L (by unfold Hl;rw[Aw,Z];exact di);obtain⟨sl,e⟩:=I.base.slot L o ho (I.ok.frf L G) G λz=>I.ok.ae3 L z G
   exact⟨hk,⟨L,_,Z,hn,e,hd⟩,ih (λb R=>hs b (by unfold Hl;rw[Aw,Z];exact bx _ R)) hr⟩
 exact all X.outer (λ_ R=>R) I.ok.Ow
theorem Inv.stack(I:Inv X pins σ H s):s.heap.FunFrames X.base X.stack:=by
 rcases I.ok.stk with e|⟨e,hf⟩
 .rw[e];exact I.Ow
 .rw[e]
  obtain⟨m,Z,_⟩:=I.loc;refine .cons (by rw[I.ok.kind];decide) hf Z ?_ I.Ow;exact Heap.get?_none_of_le (ig I.ok.bsz I.ok.above)
def Inv.K8(I:Inv X pins σ H s):∀b∈Hl X.stack,b∈X.env.locals::X.fs:=λb Z=>by
 rcases I.ok.stk with e|⟨e,hf⟩
 .rw[e] at Z;exact bx _ Z
 .rw[e] at Z
  unfold Hl at Z;rw[Aw,hf] at Z;exact Z
def Inv.Qz(I:Inv X pins σ H s):∀b∈Hl X.stack,H b=none:=λb Z=>by
 rcases cj.mp (I.K8 b Z) with e|Z
 .rw[e];exact I.free
 .obtain⟨_,o,G,_⟩:=I.ok.Ow.mem Z
  exact I.base.free b o G (I.ok.frf b Z) λz=>I.ok.ae3 b z Z
def Inv.step{ch:X0}(I:Inv X pins σ H s)(G:∀b∈ch,(b∈X.ex\/X.s₀.heap.objs.size<=b)/\b≠X.env.locals/\(∀x c,X.env.cells.lookup x=some c->c≠b)/\∀p∈X.pn++pins,p.1≠b)(keep:∀b o,b≠X.env.locals->b∉X.fs->b∉ch->s.heap.get? b=some o->H b=none->h'.get? b=some o)(qv:∀b o,b≠X.env.locals->b∈X.fs->b∉ch->s.heap.get? b=some o->H b=none->∃sl,h'.get? b=some { o with slots:=sl })(free:∀b o,b∉ch->s.heap.get? b=some o->H b=none->H' b=none)(q0:∀b o,b∉ch->s.heap.get? b=some o->∃o',h'.get? b=some o')(Ov:∀b xs,H b=some (.tup xs)->H' b=some (.tup xs))(Qf:∀b o u,H b=some (.Je o u)->H' b=some (.Je o u))(Qy:∀b ps,H b=some (.W4 ps)->∃q1,H' b=some (.W4 (ps++q1)))(ns:∀m,s.heap.Ns X.env.locals m->h'.Ns X.env.locals m)(zb:Ml X.prog X.w H' h')(hg:AllBare g') :
 Inv X pins σ H' { s with heap:=h',gens:=g',drawn:=d',toks:=t' }:=by
 have q2:∀b o,X.s₀.heap.get? b=some o->b≠X.env.locals:=λb o e=>gh (dm (bc e) I.ok.above)
 have qk:∀b o,X.s₀.heap.get? b=some o->b∉X.ex->b∉ch:=λb o e Z hb=>by
  rcases(G b hb).1 with z|z
  .exact Z z
  .exact absurd (dm (bc e) z) (jr _)
 have R:∀x c,X.env.cells.lookup x=some c->∀v,s.heap.IsCell c v->h'.IsCell c v:=λx c e v ⟨o,ho,hd⟩=>by
  have qq:c∉ch:=λz=>(G c z).2.2.1 x c e rfl
  by_cases hc:c∈X.fs
  .obtain⟨sl,q⟩:=qv c o (I.cne x c e) hc qq ho (I.Dk x c e)
   exact⟨_,q,hd⟩
  .exact⟨o,keep c o (I.cne x c e) hc qq ho (I.Dk x c e),hd⟩
 refine⟨I.ok,I.os,hg,⟨λb o e n hb Z=>?_,λb o e n hb Z=>?_,λb o e n Z=>?_,λb o e Z=>?_,λb xs e=>Ov b xs (I.base.Ov b xs e),λb o xs e=>Qf b o xs (I.base.Qf b o xs e),λb ps e=>?_⟩,?_,λx c e=>?_,?_,λx c e=>?_,λp hp=>?_,zb,I.len⟩
 .exact keep b o (q2 b o e) hb (qk b o e Z) (I.base.keep b o e n hb Z) (I.base.free b o e n Z)
 .obtain⟨sl,e1⟩:=I.base.slot b o e n hb Z
  obtain⟨q3,e2⟩:=qv b _ (q2 b o e) hb (qk b o e Z) e1 (I.base.free b o e n Z);exact⟨q3,e2⟩
 .obtain⟨o',e1⟩:=I.base.there b o e Z
  exact free b o' (qk b o e Z) e1 (I.base.free b o e n Z)
 .obtain⟨o',e1⟩:=I.base.there b o e Z
  exact q0 b o' (qk b o e Z) e1
 .obtain⟨m1,e1⟩:=I.base.Qy b ps e
  obtain⟨m2,e2⟩:=Qy b _ e1;exact⟨m1++m2,by rw[e2,Array.append_assoc]⟩
 .obtain⟨m,hn,hl⟩:=I.loc
  refine⟨m,ns m hn,λi x v e1 e2 e3=>?_⟩;obtain⟨u,r,l⟩:=hl i x v e1 e2 e3;refine⟨u,r,?_⟩;rcases l with l|⟨k,c,e,z⟩
  .exact .inl l
  .exact .inr ⟨k,c,e,R x c e _ z⟩
 .obtain⟨v,z⟩:=I.cell x c e
  exact⟨v,R x c e v z⟩
 .obtain⟨m,⟨o,_,_,ho,_⟩,_⟩:=I.loc
  exact free _ o (λz=>(G _ z).2.1 rfl) ho I.free
 .obtain⟨v,o,ho,hd⟩:=I.cell x c e
  exact free c o (λz=>(G c z).2.2.1 x c e rfl) ho (I.Dk x c e)
 .obtain⟨e,n,ne,nf,d⟩:=I.pin p hp
  have qq:p.1∉ch:=λz=>(G p.1 z).2.2.2 p hp rfl
  exact⟨keep p.1 p.2 ne nf qq e n,free p.1 p.2 qq e n,ne,nf,d⟩
def Inv.un(I:Inv X pins σ H s)(u:Un X.fs [] H H' s.heap h')(zb:Ml X.prog X.w H' h'):Inv X pins σ H' { s with heap:=h',toks:=t' }:=by
 obtain⟨m,⟨o,es,ep,ho,r⟩,_⟩:=id I.loc;obtain⟨sl,hL⟩:=u.any ho I.free (by simp);exact I.step (g':=s.gens) (d':=s.drawn) (ch:=[]) (λ_ z=>nomatch z) (λb o _ R _ e n=>u.keep b o e n R (by simp)) (λb o _ R _ e n=>u.slot b o e n R (by simp)) (λb o _ e n=>u.free b o e n (by simp)) (λb o _ e=>u.there b o e (by simp)) u.Ov u.Qf u.Qy (λm' hm=>by
  obtain⟨o',G,qq,Z,r'⟩:=hm;rw[ho] at Z;cases Z;exact⟨_,G,qq,hL,r'⟩) zb I.bare
def Inv.call(I:Inv X pins σ H s)(u:Un (Hl X.stack) ch H H' s.heap h')(zb:Ml X.prog X.w H' h')(hg:AllBare g')(R:∀b∈ch,(b∈X.ex\/X.s₀.heap.objs.size<=b)/\b≠X.env.locals/\(∀x c,X.env.cells.lookup x=some c->c≠b)/\∀p∈X.pn++pins,p.1≠b) :
 Inv X pins σ H' { s with heap:=h',gens:=g',drawn:=d',toks:=t' }:=by
 obtain⟨m,⟨o,es,ep,ho,r⟩,_⟩:=id I.loc;obtain⟨sl,hL⟩:=u.any ho I.free λz=>(R _ z).2.1 rfl
 exact I.step (ch:=ch) R (λb o hL hb Z e n=>u.keep b o e n (λz=>(cj.mp (I.K8 b z)).elim hL hb) Z) (λb o _ _ Z e n=>u.any e n Z) (λb o Z e n=>u.free b o e n Z) (λb o Z e=>u.there b o e Z) u.Ov u.Qf u.Qy (λm' hm=>by
  obtain⟨o',qq,qk,G,r'⟩:=hm;rw[ho] at G;cases G;exact⟨_,qq,qk,hL,r'⟩) zb hg
def Inv.turned(I:Inv X pins σ H s)(k:∀b o,b≠it->s.heap.get? b=some o->h'.get? b=some o)(hn:H it=none)(R:it≠X.env.locals)(h1:it∈X.ex\/X.s₀.heap.objs.size<=it)(h2:∀x c,X.env.cells.lookup x=some c->c≠it)(h3:∀p∈X.pn++pins,p.1≠it):Inv X pins σ H { s with heap:=h',toks:=t' }:=by
 have G:∀b u,H b=some u->b≠it:=λb u e z=>by rw[z,hn] at e;cases e
 refine I.step (g':=s.gens) (d':=s.drawn) (ch:=[it]) (λb hb=>?_) (λb o _ _ Z e _=>k b o (λz=>Z (by simp[z])) e) (λb o _ _ Z e _=>⟨o.slots,k b o (λz=>Z (by simp[z])) e⟩) (λ_ _ _ _ n=>n)
  (λb o Z e=>⟨o,k b o (λz=>Z (by simp[z])) e⟩) (λ_ _ e=>e) (λ_ _ _ e=>e) (λb ps e=>⟨#[],by rw[e];simp⟩) (λm hm=>?_) (λb u e=>?_) I.bare
 .have e:b=it:=by simpa using hb
  subst e;exact⟨h1,R,h2,h3⟩
 .obtain⟨o,es,ep,ho,r⟩:=hm
  exact⟨o,es,ep,k _ o (j0 R) ho,r⟩
 .refine(I.zb b u e).stay (λc v Z q=>k c v ?_ q) (λ_ q=>q) λ_ _ q=>q
  rcases Z with z|z
  .rw[z];exact G b u e
  .exact G c _ z
def Inv.tok(I:Inv X pins σ H s)(t:Nat):Inv X pins σ H { s with toks:=t }:=I.un (h':=s.heap) (t':=t) Un.refl I.zb
theorem Inv.kept(I:Inv X pins σ H s)(k:∀b u,s.heap.get? b=some u->Z.get? b=some u):Inv X pins σ H { s with heap:=Z,toks:=t' }:=I.un (Un.kept k) (I.zb.kept k)
theorem Inv.laid(I:Inv X pins σ H s)(k:∀b u,s.heap.get? b=some u->G.get? b=some u)(Z:s.heap.objs.size<=a)(new:Aj X.prog X.w (upd H a o) G a o) :
 Inv X pins σ (upd H a o) { s with heap:=G,toks:=t' }:=I.un (Un.laid k Z (I.zb.fresh Z)) (I.zb.laid k Z new)
theorem Inv.write(I:Inv X pins σ H s)(R:Mut (H x))(he:e=x\/H e=some (.own x))(k:∀b u,b≠e->s.heap.get? b=some u->G.get? b=some u)(Z:∃u,G.get? e=some u)(new:Aj X.prog X.w (upd H x o) G x o):Inv X pins σ (upd H x o) { s with heap:=G,toks:=t' }:=I.un (Un.write R he k Z) (I.zb.write R he k Z new)
def Inv.weak(I:Inv X pins σ H s)(hl:σ'.length=σ.length)(w:∀(i:Nat) v,σ'[i]?=some (some v)->σ[i]?=some (some v)):Inv X pins σ' H s :=
 ⟨I.ok,I.os,I.bare,I.base,let ⟨m,hn,hl'⟩:=I.loc;⟨m,hn,λi x v G R Z=>hl' i x v G (w i v R) Z⟩,I.cell,I.free,I.Dk,I.pin,I.zb,hl.trans I.len⟩
def Inv.U7(I:Inv X pins σ H s)(h:∀p∈Z,s.heap.get? p.1=some p.2/\H p.1=none/\p.1≠X.env.locals/\p.1∉X.fs/\∀v,p.2.data≠.cell v):Inv X Z σ H s :=
 ⟨I.ok,I.os,I.bare,I.base,I.loc,I.cell,I.free,I.Dk,λp G=>(dz.mp G).elim (λz=>I.pin p (o7 _ z)) (h p),I.zb,I.len⟩
def Kc{N:Ya}(R:N.Nodup){i:Nat}(a:N[i]?=some x)(b:N[j]?=some x):i=j:=by obtain⟨h1,Z⟩:=aj.mp a;obtain⟨h2,G⟩:=aj.mp b;exact(Aq R).mp (Z.trans G.symm)
def ai0(I:Inv X pins σ H s)(hN:X.N.Nodup)(hi:X.N[i]?=some x)(hx:Loc X.env.scope x)(r:RelV v u)(h:∀s',Inv X pins (σ.set i (some v)) H s'->(∃a,Heap.SameBut a s.heap s'.heap/\(a=X.env.locals\/X.env.cells.lookup x=some a))->Q () s')(hf:X.fn x=true\/X.env.scope.names.lookup x=some .local:=by first|exact .inl rfl|exact .inr rfl|assumption):wpAny M A (storeName X.env x u) Q E s:=by
 obtain⟨m,hn,hl⟩:=id I.loc;have q4:(X.env.scope.kind==.class||(X.env.scope.kind==.module&&X.env.locals != X.env.globals))=false:=by rw[I.ok.kind];rfl
 have qq:i < σ.length:=by rw[I.len];exact(aj.mp hi).1
 have cne:=I.cne;have G:∀{a:Addr}{h':Heap},(∃o,s.heap.get? a=some o/\H a=none)->Heap.SameBut a s.heap h'->Ml X.prog X.w H h':=fun{a h'} ha Z b ob e=>by
  obtain⟨_,_,Pa⟩:=ha;refine(I.zb b ob e).stay (λc w' hc q=>(Z.2 c ?_).trans q) (λ_ q=>q) λ_ _ q=>q
  rintro rfl;rcases hc with rfl|hc
  .rw[Pa] at e;cases e
  .rw[Pa] at hc;cases hc
 rcases hx with hk|hk
 .refine wpAny_storeName_local hk hn (λh' R9 Z=>?_) q4
  obtain⟨oL,_,_,q2,_⟩:=id hn;refine h _ ⟨I.ok,I.os,I.bare,⟨λb o e n hb hx=>?_,λb o e n hb hx=>?_,I.base.free,λb o e hx=>?_,I.base.Ov,I.base.Qf,I.base.Qy⟩,⟨_,R9,λj y v' R e2 e3=>?_⟩,λy c e=>?_,I.free,I.Dk,λp hp=>?_,G ⟨oL,q2,I.free⟩ Z,by simpa using I.len⟩ ⟨_,Z,.inl rfl⟩
  .exact(Z.2 b (gh (dm (bc e) I.ok.above))).trans (I.base.keep b o e n hb hx)
  .obtain⟨sl,R⟩:=I.base.slot b o e n hb hx
   exact⟨sl,(Z.2 b (gh (dm (bc e) I.ok.above))).trans R⟩
  .obtain⟨o',R⟩:=I.base.there b o e hx
   exact⟨o',(Z.2 b (gh (dm (bc e) I.ok.above))).trans R⟩
  .by_cases hj:j=i
   .subst hj
    rw[hi] at R;cases R;rw[yg qq] at e2;cases e2;exact⟨u,r,.inl ⟨hk,by simp⟩⟩
   .rw[uc (j0 hj)] at e2
    obtain⟨u',r',q⟩:=hl j y v' R e2 e3;refine⟨u',r',?_⟩;rcases q with⟨k,e⟩|⟨k,c,e,z⟩
    .refine .inl ⟨k,?_⟩
     have:y≠x:=λe=>hj (Kc hN R (e▸hi))
     simp[this,e]
    .exact .inr ⟨k,c,e,z.sameBut Z (cne y c e)⟩
  .obtain⟨w',z⟩:=I.cell y c e
   exact⟨w',z.sameBut Z (cne y c e)⟩
  .obtain⟨e,n,ne,nf,d⟩:=I.pin p hp
   exact⟨(Z.2 p.1 ne).trans e,n,ne,nf,d⟩
 .have qk:X.fn x=true:=by
   rcases hf with z|z
   .exact z
   .rw[z] at hk;cases hk
  obtain⟨c,hc⟩:=I.ok.has x (.inl hk);obtain⟨w',z⟩:=I.cell x c hc;refine wpAny_storeName_cell I.ok.kind hk hc z (λh' qv Z=>?_);obtain⟨oc,q0,q3⟩:=id z;refine h { s with heap:=h' } ⟨I.ok,I.os,I.bare,⟨λb o e n hb hx=>?_,λb o e n hb hx=>?_,I.base.free,λb o e hx=>?_,I.base.Ov,I.base.Qf,I.base.Qy⟩,⟨m,hn.sameBut Z (j0 (cne x c hc)),λj y v' R e2 e3=>?_⟩,λy c' e=>?_,I.free,I.Dk,λp hp=>?_,G ⟨oc,q0,I.Dk x c hc⟩ Z,by simpa using I.len⟩ ⟨c,Z,.inr hc⟩
  .exact(Z.2 b (gh (dm (bc e) (I.ok.cab x c qk hc)))).trans (I.base.keep b o e n hb hx)
  .obtain⟨sl,R⟩:=I.base.slot b o e n hb hx
   exact⟨sl,(Z.2 b (gh (dm (bc e) (I.ok.cab x c qk hc)))).trans R⟩
  .obtain⟨o',R⟩:=I.base.there b o e hx
   exact⟨o',(Z.2 b (gh (dm (bc e) (I.ok.cab x c qk hc)))).trans R⟩
  .by_cases hj:j=i
   .subst hj
    rw[hi] at R;cases R;rw[yg qq] at e2;cases e2;exact⟨u,r,.inr ⟨.inl hk,c,hc,qv⟩⟩
   .rw[uc (j0 hj)] at e2
    obtain⟨u',r',q⟩:=hl j y v' R e2 e3;refine⟨u',r',?_⟩;rcases q with q|⟨k,c',e,z'⟩
    .exact .inl q
    .refine .inr ⟨k,c',e,z'.sameBut Z ?_⟩
     rintro rfl;exact hj (Kc hN R (I.ok.inj _ _ _ e hc▸hi))
  .by_cases q1:c'=c
   .subst q1;exact⟨_,qv⟩
   .obtain⟨w2,z2⟩:=I.cell y c' e
    exact⟨w2,z2.sameBut Z q1⟩
  .obtain⟨e,n,ne,nf,d⟩:=I.pin p hp
   refine⟨(Z.2 p.1 ?_).trans e,n,ne,nf,d⟩;intro q;rw[q,q0] at e;have q':oc=p.2:=jd e;exact d w' (by rw[<- q'];exact q3)
def abr(I:Inv X pins σ H s)(hN:X.N.Nodup)(hi:X.N[i]?=some x)(hx:Loc X.env.scope x)(r:RelV v u)(h:∀Z,Inv X pins (σ.set i (some v)) H Z->Q () Z)(G:X.fn x=true\/X.env.scope.names.lookup x=some .local:=by first|exact .inl rfl|exact .inr rfl|assumption):wpAny M A (storeName X.env x u) Q E s :=
 ai0 I hN hi hx r (λZ R _=>h Z R) G
def Inv.call'(I:Inv X pins σ H s)(ho:s'.os=s.os)(u:Un (Hl X.stack) ch H R s.heap s'.heap)(zb:Ml X.prog X.w R s'.heap)(hg:AllBare s'.gens)(Z:∀b∈ch,(b∈X.ex\/X.s₀.heap.objs.size<=b)/\b≠X.env.locals/\(∀x c,X.env.cells.lookup x=some c->c≠b)/\∀p∈X.pn++pins,p.1≠b):Inv X pins σ R s':=by obtain⟨h',g',G,t',o'⟩:=s';have e:o'=s.os:=ho;subst e;exact I.call (g':=g') (t':=t') (d':=G) u zb hg Z
abbrev XK:=Value->Option Addr->Hp->Prop
abbrev St:=List (Option V)
abbrev VK:=V->Hp->Prop
abbrev TE:=St->Hp->VK->Prop
abbrev TT:=St->Hp->(Bool->Hp->Prop)->Prop
abbrev TA:=St->Hp->(List V->Hp->Prop)->Prop
structure Ends where
 nx:St->Hp->Prop
 rt:VK
 bk:St->Hp->Prop:=λ_ _=>False
 ct:St->Hp->Prop:=λ_ _=>False
abbrev TS:=Ends->St->Hp->Prop
def EP(X:Cx)(Z:Zp)(σ:St)(Q:VK)(u:Value)(R:Shared):Prop:=∃v G,Inv X Z σ G R/\RelV v u/\Q v G
def TP(X:Cx)(Z:Zp)(σ:St)(Q:Bool->Hp->Prop)(b:Bool)(R:Shared):Prop:=∃G,Inv X Z σ G R/\Q b G
def AP(X:Cx)(Z:Zp)(σ:St)(Q:List V->Hp->Prop)(us:Zl)(s':Shared):Prop:=∃G R,Inv X Z σ R s'/\Vals G us/\Q G R
def SP(X:Cx)(G:Zp)(D:Ends)(f:Flow)(s':Shared):Prop :=
 match f with
 |.next=>∃Z R,Inv X G Z R s'/\D.nx Z R|.brk=>∃Z R,Inv X G Z R s'/\D.bk Z R|.cont=>∃Z R,Inv X G Z R s'/\D.ct Z R|.ret u=>∃v Z R,Inv X G Z R s'/\RelV v u/\D.rt v R
def PE(X:Cx)(e:Expr)(t:TE):Prop :=
 ∀(Z:Zp)(s:Shared)(G:St)(H:Hp)(Q:VK),Inv X Z G H s->t G H Q->wpAny (model X.prog X.w) X.A (eval e X.env) (EP X Z G Q) X.xe s
def PT(X:Cx)(e:Expr)(t:TT):Prop :=
 ∀(Z:Zp)(s:Shared)(G:St)(H:Hp)(Q:Bool->Hp->Prop),Inv X Z G H s->t G H Q->wpAny (model X.prog X.w) X.A (isTrue e X.env (eval e X.env)) (TP X Z G Q) X.xe s
def PW(X:Cx)(e:Expr)(t:TT):Prop :=
 ∀(G:Sem Value)(Z:Zp)(s:Shared)(R:St)(H:Hp)(Q:Bool->Hp->Prop),Inv X Z R H s->t R H Q->wpAny (model X.prog X.w) X.A (isTrue e X.env G) (TP X Z R Q) X.xe s
def PW.pt(h:PW X e t):PT X e t:=h _
def PA(X:Cx)(R:Y3)(t:TA):Prop :=
 ∀(pos:Pos)(Z:Zp)(s:Shared)(G:St)(H:Hp)(Q:List V->Hp->Prop),Inv X Z G H s->t G H Q->wpAny (model X.prog X.w) X.A (spliced (backTo pos (starEach R X.env))) (AP X Z G Q) X.xe s
def PS(X:Cx)(st:Stmt)(t:TS):Prop :=
 ∀(Z:Zp)(s:Shared)(G:St)(H:Hp)(D:Ends),Inv X Z G H s->t D G H->wpAny (model X.prog X.w) X.A (exec st X.env) (SP X Z D) X.xe s
def Pb(X:Cx)(st:List Stmt)(t:TS):Prop :=
 ∀(Z:Zp)(s:Shared)(G:St)(H:Hp)(D:Ends),Inv X Z G H s->t D G H->wpAny (model X.prog X.w) X.A (execs st X.env) (SP X Z D) X.xe s
def Cv(h:wpAny M A t Q E s)(Z:∀a s,Q a s->G a s):wpAny M A t G E s:=ji h Z λ_ _ x=>x
end L2
namespace L2
open PySem PySem.Spec PyProof.Rows
def ayk(i:Nat):TE:=λZ H Q=>∃v,Z[i]?=some (some v)/\Q v H
def tC(v:V):TE:=λ_ H Q=>Q v H
def Vs(hN:X.N[i]?=some x)(hv:Vis X.env.scope x)(hd:(x==("__debug__" : Str))=false:=by decide)(Xz:(x==("__classdict__" : Str))=false:=by decide):PE X (.Name x pos) (ayk i):=by
 intro G s σ H Q I h;obtain⟨v,e,h⟩:=h;obtain⟨m,hn,hl⟩:=I.loc;obtain⟨u,r,l⟩:=hl i x v hN e hv;have fin:EP X G σ Q u s:=⟨v,H,I,r,h⟩;rcases l with⟨Z,hm⟩|⟨Z,c,hc,R⟩
 .exact wpAny_Name (wpAny_loadName_local I.ok.kind Z hn hm fin) hd
 .rcases Z with Z|Z
  .exact wpAny_Name (wpAny_loadName_cell I.ok.kind Z hc R fin) hd
  .exact wpAny_Name (wpAny_loadName_free I.ok.kind Z hc R fin Xz) hd
def ayl:PE X (.Constant (.int i) j pos) (tC (.int i)):=λ_ _ _ H _ I h=>wpAny_Constant_int ⟨.int i,H,I.tok _,⟨_,rfl⟩,h⟩
def a4p:PE X (.Constant (.bool b) j pos) (tC (.bl b)):=λ_ _ _ H _ I h=>Constant_bool ⟨.bl b,H,I,rfl,h⟩
def amk:PE X (.Constant .none j pos) (tC .non):=λ_ _ _ H _ I h=>Constant_none ⟨.non,H,I,rfl,h⟩
def aml:PE X (.Constant (.str x) j pos) (tC (.str x)):=λ_ _ _ H _ I h=>Calls.Constant_str ⟨.str x,H,I.tok _,⟨_,rfl⟩,h⟩
def Gl(X:Cx)(x:Str):Prop:=X.env.kindOf x=some .globalImplicit
def Oi(I:Inv X pins σ H s)(R:Gl X x)(Z:X.mg x=some u)(h:Q u s)(G:(x==("__debug__" : Str))=false:=by decide):wpAny (model X.prog X.w) X.A (eval (.Name x pos) X.env) Q E s :=
 Calls.Name_function_global I.ok.kind R (Calls.loadGlobal_global (by rw[I.ok.glob];exact I.mod.glob.keeps I.bk) Z h) G
def By(I:Inv X pins σ H s)(R:Gl X x)(hm:X.mg x=none)(hv:bootBuiltins x=some u)(h:Q u s)(G:x≠"__name__" := by decide)(hd:(x==("__debug__" : Str))=false:=by decide):wpAny (model X.prog X.w) X.A (eval (.Name x pos) X.env) Q E s:=by obtain⟨mb,Z,h2⟩:=I.mod.blt;exact Calls.Name_function_global I.ok.kind R (Calls.loadGlobal_builtin (by rw[I.ok.glob];exact I.mod.glob.keeps I.bk) hm (by rw[I.ok.blt];exact Z.keeps I.bk) ((h2 x G).trans hv) h) hd
def arz(R:Gl X x)(Z:X.mg x=some u)(r:RelV v u)(G:(x==("__debug__" : Str))=false:=by decide):PE X (.Name x pos) (tC v) :=
 λ_ _ _ H _ I h=>Oi I R Z ⟨v,H,I,r,h⟩ G
def tB(t:TE):TT:=λZ H Q=>t Z H λx G=>∃c,x=.bl c/\Q c G
def aym(h:PE X e t)(R:∀Z,isTrue e X.env Z=(do let v <- Z;standAt e.pos;holding [v] (truthy v)):=by intro _;rfl):PT X e (tB t):=by intro G s σ H Q I hw;refine isTrue_plain (Cv (h G s σ H _ I hw) λv s1 ⟨x,H1,I1,r1,q1⟩=>?_) (R _);obtain⟨d,rfl,q⟩:=q1;cases r1;exact u0 ⟨H1,I1,q⟩
def bci(t u:TT):TT:=λZ H Q=>t Z H λc G=>if c=true then u Z G Q else Q false G
def tOr(t u:TT):TT:=λZ H Q=>t Z H λc G=>if c=true then Q true G else u Z G Q
def bck(t:TT):TT:=λZ H Q=>t Z H λc G=>Q (!c) G
def ar0(G:PT X a tA):PW X (.BoolOp .And [a] pos) tA:=by
 intro wh Z s R H Q I h;refine isTrue_and (Cv (G Z s R H Q I h) λc s1 e=>?_);cases c with
 |true=>exact isTrue_and_nil e|false=>exact e
def ayn(G:PT X a tA):PW X (.BoolOp .Or [a] pos) tA:=by
 intro wh Z s R H Q I h;refine isTrue_or (Cv (G Z s R H Q I h) λc s1 e=>?_);cases c with
 |false=>exact isTrue_or_nil e|true=>exact e
def ayo{Z:Y3}(ha:PT X a tA)(hb:PW X (.BoolOp .And (b::Z) pos) tB'):PW X (.BoolOp .And (a::b::Z) pos) (bci tA tB'):=by
 intro wh G s σ H Q I h;refine isTrue_and (Cv (ha G s σ H _ I h) λc s1 z_=>?_);obtain⟨H1,R,q1⟩:=z_;cases c with
 |true=>exact hb wh G s1 σ H1 Q R q1|false=>exact⟨H1,R,q1⟩
def a4q{Z:Y3}(ha:PT X a tA)(hb:PW X (.BoolOp .Or (b::Z) pos) tB'):PW X (.BoolOp .Or (a::b::Z) pos) (tOr tA tB'):=by
 intro wh G s σ H Q I h;refine isTrue_or (Cv (ha G s σ H _ I h) λc s1 z_=>?_);obtain⟨H1,R,q1⟩:=z_;cases c with
 |true=>exact⟨H1,R,q1⟩|false=>exact hb wh G s1 σ H1 Q R q1
def ayp(R:PT X a tA):PT X (.UnaryOp .Not a pos) (bck tA):=by intro Z s G H Q I h;exact isTrue_not (R Z s G H (λc H1=>Q (!c) H1) I h)
def a4r(R tb:TE):TE:=λZ H Q=>R Z H λx G=>∃c,x=.bl c/\if c=true then tb Z G Q else Q (.bl false) G
def bcm(R tb:TE):TE:=λZ H Q=>R Z H λx G=>∃c,x=.bl c/\if c=true then Q (.bl true) G else tb Z G Q
def a4s(Z:TE):TE:=λG H Q=>Z G H λx R=>∃c,x=.bl c/\Q (.bl (!c)) R
def ayq{Z:Y3}(ha:PE X a ta)(hb:PE X (.BoolOp .And (b::Z) pos) tb):PE X (.BoolOp .And (a::b::Z) pos) (a4r ta tb):=by
 intro G s σ H Q I h;refine BoolOp_and (Cv (ha G s σ H _ I h) λv s1 z_=>?_);obtain⟨x,H1,I1,r1,R⟩:=z_;obtain⟨c,rfl,R⟩:=R;cases r1;refine u0 ?_;cases c with
 |true=>exact hb G s1 σ H1 Q I1 R|false=>exact⟨.bl false,H1,I1,rfl,R⟩
def a4t{Z:Y3}(ha:PE X a ta)(hb:PE X (.BoolOp .Or (b::Z) pos) tb):PE X (.BoolOp .Or (a::b::Z) pos) (bcm ta tb):=by
 intro G s σ H Q I h;refine BoolOp_or (Cv (ha G s σ H _ I h) λv s1 z_=>?_);obtain⟨x,H1,I1,r1,R⟩:=z_;obtain⟨c,rfl,R⟩:=R;cases r1;refine u0 ?_;cases c with
 |false=>exact hb G s1 σ H1 Q I1 R|true=>exact⟨.bl true,H1,I1,rfl,R⟩
def ayr(ha:PE X a ta):PE X (.UnaryOp .Not a pos) (a4s ta):=by intro Z s σ H Q I h;refine UnaryOp_ (Cv (ha Z s σ H _ I h) λv s1 z_=>?_);obtain⟨x,H1,R,r1,G⟩:=z_;obtain⟨c,rfl,G⟩:=G;cases r1;exact not_of (u0 ⟨.bl (!c),H1,R,rfl,G⟩)
def tIf(t:TT)(R tb:TE):TE:=λZ H Q=>t Z H λc G=>if c=true then R Z G Q else tb Z G Q
def amm(hc:PT X c tA)(ha:PE X a ta)(hb:PE X b tb):PE X (.IfExp c a b pos) (tIf tA ta tb):=by
 intro Z s G H Q I h;refine wpAny_IfExp (Cv (hc Z s G H _ I h) λd s1 z_=>?_);obtain⟨H1,R,q1⟩:=z_;cases d with
 |true=>exact ha Z s1 G H1 Q R q1|false=>exact hb Z s1 G H1 Q R q1
end L2
namespace L2
open PySem PySem.Spec PyProof.Rows
def Hm(K:Fg)(H:Hp)(a:Addr)(G:List V):Prop :=
 Rd H a (.lst G) \/
  ∃(o:Obj)(Z:Xt)(n:Nat),K.lookup a=some o/\o.cls=.type "list"/\o.dict=none/\o.data=.seq Z n/\Z.size<=sizeLine/\Vals G Z.toList
def Iu(K:Fg)(H:Hp)(a:Addr)(G:List V):Prop :=
 Rd H a (.tup G) \/
  ∃(o:Obj)(Z:Xt)(n:Nat),K.lookup a=some o/\o.cls=.type "tuple"/\o.data=.seq Z n/\Z.size<=sizeLine/\Vals G Z.toList
noncomputable def bcn:Value->Option V
 |.none=>some .non|.bool b=>some (.bl b)|.int i _=>some (.int i)|.str x _=>some (.str x)|.bytes b _=>some (.byt b)|.float b _=>some (.flt b)|.ref a=>some (.ref a)|.type n=>some (.ty n)|_=>none
def RelV.abs(r:RelV x u):bcn u=some x:=by
 cases x with
 |non=>cases r;rfl|bl _=>cases r;rfl|int _=>obtain⟨t,rfl⟩:=r;rfl
 |str _=>obtain⟨t,rfl⟩:=r;rfl
 |byt _=>obtain⟨t,rfl⟩:=r;rfl
 |flt _=>obtain⟨t,rfl⟩:=r;rfl
 |ref _=>cases r;rfl|ty _=>cases r;rfl
def RelV.inj(r:RelV x u)(q:RelV y u):x=y:=jd (r.abs.symm.trans q.abs)
theorem Vals.inj:∀{G Z:List V}{R:Zl},Vals G R->Vals Z R->G=Z
 |_,_,_,.nil,.nil=>rfl|_,_,_,.cons r t,.cons r' t'=>by rw[r.inj r',Vals.inj t t']
def Hm.of{K:Fg}(h:H a=some (.lst xs)):Hm K H a xs:=.inl (.inl h)
def Iu.of{K:Fg}(h:H a=some (.tup xs)):Iu K H a xs:=.inl (.inl h)
def Inv.list(I:Inv X pins σ H s)(h:Hm X.K H a G):∃Z:List Value,Vals G Z/\PlainL s.heap a Z.toArray/\G.length<=sizeLine:=by
 rcases h with h|⟨o,Z,n,hk,hc,hd,hs,hz,r⟩
 .obtain⟨z,Z,n,r,e⟩:=h.ok I.zb
  exact⟨Z,r,⟨_,n,e,rfl,rfl,rfl⟩,z⟩
 .refine⟨Z.toList,r,⟨o,n,I.Wz a o hk,hc,hd,by simpa using hs⟩,?_⟩
  have e:=r.length;simp only[zf] at e;exact a_ (f_ e) hz
def Inv.tuple(I:Inv X pins σ H s)(h:Iu X.K H a G):∃Z:List Value,Vals G Z/\IsTup s.heap a Z.toArray/\G.length<=sizeLine:=by
 rcases h with h|⟨o,Z,n,hk,hc,hs,hz,r⟩
 .obtain⟨z,Z,r,p⟩:=h.ok I.zb
  exact⟨Z,r,p.is,z⟩
 .refine⟨Z.toList,r,⟨o,I.Wz a o hk,hc,n,by simpa using hs⟩,?_⟩
  have e:=r.length;simp only[zf] at e;exact a_ (f_ e) hz
def Inv.abu(I:Inv X pins σ H s)(h:Hm X.K H a xs)(h':Hm X.K H a ys):xs=ys:=by
 obtain⟨R,r,⟨o,n,e,_,_,d⟩,_⟩:=I.list h;obtain⟨its',r',⟨o',n',Z,_,_,G⟩,_⟩:=I.list h';rw[e] at Z;cases Z;rw[d] at G;injection G with d1 _
 have:R=its':=by simpa using ql Array.toList d1
 subst this;exact r.inj r'
def Inv.Sx(I:Inv X pins σ H s)(h:Iu X.K H a xs)(h':Iu X.K H a ys):xs=ys:=by
 obtain⟨R,r,⟨o,e,_,n,d⟩,_⟩:=I.tuple h;obtain⟨its',r',⟨o',Z,_,n',G⟩,_⟩:=I.tuple h';rw[e] at Z;cases Z;rw[d] at G;injection G with d1 _
 have:R=its':=by simpa using ql Array.toList d1
 subst this;exact r.inj r'
noncomputable abbrev Cx.W7(X:Cx)(E:Y1):Cx:={ X with xe:=E }
abbrev Cx.nox(X:Cx):Cx:=X.W7 λ_ _=>False
theorem Cx.Ok.W7{X:Cx}(ok:X.Ok)(E:Y1):(X.W7 E).Ok :=
 ⟨ok.mod,ok.kind,ok.glob,ok.blt,ok.above,ok.inj,ok.has,ok.cab,ok.hd,ok.frames,ok.stk,ok.exf,ok.bs,ok.bsz,ok.abq,ok.ae3,ok.Ow,ok.frf⟩
def Cx.Ok.Nv{X:Cx}(ok:(X.W7 E).Ok):X.Ok :=
 ⟨ok.mod,ok.kind,ok.glob,ok.blt,ok.above,ok.inj,ok.has,ok.cab,ok.hd,ok.frames,ok.stk,ok.exf,ok.bs,ok.bsz,ok.abq,ok.ae3,ok.Ow,ok.frf⟩
theorem Inv.W7(I:Inv X pins σ H s)(E:Y1):Inv (X.W7 E) pins σ H s:=⟨I.ok.W7 E,I.os,I.bare,I.base,I.loc,I.cell,I.free,I.Dk,I.pin,I.zb,I.len⟩
theorem Inv.Nv(I:Inv (X.W7 E) pins σ H s):Inv X pins σ H s:=⟨I.ok.Nv,I.os,I.bare,I.base,I.loc,I.cell,I.free,I.Dk,I.pin,I.zb,I.len⟩
theorem SP.Nv(h:SP (X.W7 E) pins D f s'):SP X pins D f s':=by
 cases f with
 |next=>obtain⟨Z,G,I,q⟩:=h;exact⟨Z,G,I.Nv,q⟩
 |brk=>obtain⟨Z,G,I,q⟩:=h;exact⟨Z,G,I.Nv,q⟩
 |cont=>obtain⟨Z,G,I,q⟩:=h;exact⟨Z,G,I.Nv,q⟩
 |ret u=>obtain⟨v,Z,G,I,r,q⟩:=h;exact⟨v,Z,G,I.Nv,r,q⟩
theorem Pb.nox{st:List Stmt}(h:Pb X.nox st t):Pb X st t:=λZ s G H D I R =>
 ji (h Z s G H D (I.W7 _) R) (λ_ _ q=>q.Nv) λ_ _ z=>False.elim z
def agy:TS:=λD Z H=>D.nx Z H
def ar4(t u:TS):TS:=λD Z H=>t { D with nx:=u D } Z H
def U8:Pb X [] agy:=λ_ _ Z H _ I h=>wpAny_execs_nil ⟨Z,H,I,h⟩
def Nx{st:Stmt}{Z:List Stmt}(h1:PS X st t)(h2:Pb X Z u):Pb X (st::Z) (ar4 t u):=by
 intro G s σ H D I h;refine wpAny_execs_cons (Cv (h1 G s σ H { D with nx:=u D } I h) λf s1 q=>?_);cases f with
 |next =>
  obtain⟨R,H',I',q⟩:=q;exact h2 G s1 R H' D I' q
 |ret v=>exact q|brk=>exact q|cont=>exact q
def ays:TS:=λD Z H=>D.bk Z H
def amn:PS X (.Break pos) ays:=λ_ _ Z H _ I h=>wpAny_Break ⟨Z,H,I,h⟩
def Inv.quiet(I:Inv X pins σ H s):interactive X.env=false:=by simp[interactive,I.ok.kind]
def amo(G:TE):TS:=λD Z H=>G Z H λ_ R=>D.nx Z R
def agz(he:PE X e te)(R:swapsWith e none pos.line X.env=pure false:=by rfl):PS X (.Expr e pos) (amo te):=by intro Z s G H D I h;exact wpAny_Expr_any (Cv (he Z s G H _ I h) λv s1 ⟨x,H1,I1,r1,q1⟩=>⟨G,H1,I1,q1⟩) I.quiet R
def bco(G:TE):TS:=λD Z H=>G Z H D.rt
def ayt(R:PE X e te):PS X (.Return (some e) pos) (bco te):=by intro Z s G H D I h;exact wpAny_Return_some (Cv (R Z s G H _ I h) λv s1 ⟨x,H1,I1,r1,q1⟩=>⟨x,G,H1,I1,r1,q1⟩)
def bcp(c:TT)(t u:TS):TS:=λD Z H=>c Z H λb G=>if b=true then t D Z G else u D Z G
def a4u(hc:PT X c tc)(ha:Pb X a t)(hb:Pb X b u):PS X (.If c a b pos) (bcp tc t u):=by
 intro Z s G H D I h;refine wpAny_If (Cv (hc Z s G H _ I h) λd s1 z_=>?_);obtain⟨H1,R,q1⟩:=z_;cases d with
 |true=>exact ha Z s1 G H1 D R q1|false=>exact hb Z s1 G H1 D R q1
abbrev TG:=V->St->Hp->(St->Hp->Prop)->Prop
abbrev TGs:=List V->St->Hp->(St->Hp->Prop)->Prop
def PG(X:Cx)(Z:Expr)(t:TG):Prop :=
 ∀(G:Zp)(s:Shared)(σ:St)(H:Hp)(v:V)(u:Value)(Q:St->Hp->Prop),Inv X G σ H s->RelV v u->t v σ H Q ->
  wpAny (model X.prog X.w) X.A (assign Z X.env u) (λ_ s'=>∃R H',Inv X G R H' s'/\Q R H') X.xe s
def PGs(X:Cx)(ts:Y3)(t:TGs):Prop :=
 ∀(Z:Zp)(s:Shared)(σ:St)(H:Hp)(R:List V)(us:Zl)(Q:St->Hp->Prop),Inv X Z σ H s->Vals R us->t R σ H Q ->
  wpAny (model X.prog X.w) X.A (assignInOrder ((assignEach ts X.env).map (·.2)) us) (λ_ s'=>∃G H',Inv X Z G H' s'/\Q G H') X.xe s
abbrev ayu:=V->V->V->Hp->(Hp->Prop)->Prop
def ayv(X:Cx)(t:ayu):Prop :=
 ∀(Z:Zp)(s:Shared)(R:St)(H:Hp)(o i v:V)(ov iv u:Value)(Q:Hp->Prop),Inv X Z R H s->RelV o ov->RelV i iv->RelV v u->t o i v H Q ->
  wpAny (model X.prog X.w) X.A (setItem ov iv u) (λ_ s'=>∃G,Inv X Z R G s'/\Q G) X.xe s
def Vt(i:Nat):TG:=λv Z H Q=>Q (Z.set i (some v)) H
def Q0(hN:X.N.Nodup)(hi:X.N[i]?=some x)(hx:Loc X.env.scope x)(G:X.fn x=true\/X.env.scope.names.lookup x=some .local:=by first|exact .inl rfl|exact .inr rfl|assumption):PG X (.Name x pos) (Vt i):=by intro Z s σ H v u Q I r h;exact wpAny_assign_Name (abr I hN hi hx r (λs' R=>⟨_,H,R,h⟩) G)
def bcq:TGs:=λG Z H Q=>G=[]/\Q Z H
def a4x(t:TG)(u:TGs):TGs:=λvs R H Q=>∃v r,vs=v::r/\t v R H λZ G=>u r Z G Q
def ar5:PGs X [] bcq:=by intro Z s G H vs R Q I r h;obtain⟨e,h⟩:=h;subst e;cases r;exact assignInOrder_nil ⟨G,H,I,h⟩
def amq(h1:PG X e t)(h2:PGs X R u)(hs:(assignEach (e::R) X.env).map (·.2)=assign e X.env::(assignEach R X.env).map (·.2):=by rfl):PGs X (e::R) (a4x t u):=by
 intro Z s σ H vs us Q I r h;obtain⟨v,vr,e1,h⟩:=h;subst e1;cases r with
 |cons r rr =>
  rw[hs];refine assignInOrder_cons (Cv (h1 Z s σ H _ _ _ I r h) λ_ s1 z_=>?_);obtain⟨G,H1,I1,q1⟩:=z_;exact h2 Z s1 G H1 _ _ Q I1 rr q1
def bcr(K:Fg)(n:Nat)(t:TGs):TG:=λv G H Q=>∃a Z,v=.ref a/\Iu K H a Z/\Z.length=n/\t Z G H Q
def ayw(hc:X.calm=true)(h:PGs X G t)(hn:(assignEach G X.env).length=n:=by rfl)(Rz:(assignEach G X.env).findIdx? (·.1)=none:=by rfl):PG X (.Tuple G k pos) (bcr X.K n t):=by
 intro Z s σ H v u Q I r R;obtain⟨a,xs,e1,hq,hl,R⟩:=R;subst e1;cases r;obtain⟨yj,rv,ht,hz⟩:=I.tuple hq;refine assign_Tuple_tuple (I.ok.hd hc) ht (by simp[hn,<- hl,rv.length]) Rz λh' hx=>?_
 have I1:Inv X Z σ H { s with heap:=h' }:=I.kept (t':=s.toks) λb o e=>hx b o (gh (bc e)) e
 exact h Z _ σ H xs _ Q I1 (by simpa using rv) R
def bcs(to G:TE)(t:ayu):TG:=λv Z H Q=>to Z H λo H1=>G Z H1 λi R=>t o i v R λH3=>Q Z H3
def ayx(ho:PE X o to)(hi:PE X i ti)(hs:ayv X t)(ha:∀v,assign (.Subscript o i pos) X.env v=(do
 let G <- holding [v] (eval o X.env)
 let R <- holding [v,G] (eval i X.env)
 standAt pos
 holding [v,G,R] (setItem G R v)
 release [v,G,R] []):=by intro _;rfl):PG X (.Subscript o i pos) (bcs to ti t):=by
 intro Z s σ H v u Q I r h;rw[ha];refine aa (m9 (Cv (ho Z s σ H _ I h) λG s1 z_=>?_));obtain⟨x,H1,I1,r1,q1⟩:=z_;refine aa (m9 (Cv (hi Z s1 σ H1 _ I1 q1) λR s2 z_=>?_));obtain⟨y,H2,I2,r2,q2⟩:=z_;refine aa (wpAny_standAt (aa (m9 (Cv (hs Z s2 σ H2 x y v G R u _ I2 r1 r2 r q2) λ_ s3 z_=>?_))));obtain⟨H3,I3,q3⟩:=z_;exact wpAny_release ⟨σ,H3,I3,q3⟩
def ai1(G:TE)(g:TG):TS:=λD Z H=>G Z H λx R=>g x Z R D.nx
def Zr(he:PE X e te)(hg:PG X tg g)(hs:swapsWithSole [tg] e pos.line X.env=pure false:=by rfl)(hw:swappedStores [tg] e X.env=pure none:=by rfl)(R:(assignEach [tg] X.env).map (·.2)=[assign tg X.env]:=by rfl):PS X (.Assign [tg] e pos) (ai1 te g):=by intro Z s G H D I h;refine wpAny_Assign_stores (Cv (he Z s G H _ I h) λv s1 ⟨x,H1,I1,r1,q1⟩=>?_) hs hw;rw[R];exact Cv (hg Z s1 G H1 x v _ I1 r1 q1) λ_ s2 q=>q
def ayy(c:TT)(tb:TS):TS:=λD Z H=>∃W:Nat->St->Hp->Prop,(∃m,W m Z H)/\∀m Z H,W m Z H ->
 c Z H λb H1=>if b=true then ∃N:St->Hp->Prop,(∀G H',N G H'->∃R,R<m/\W R G H')/\tb { D with nx:=N,ct:=N,bk:=D.nx } Z H1 else D.nx Z H1
def amr(hp:PassesOwn (model X.prog X.w) X.A X.env X.xe)(hc:PT X c tc)(hb:Pb X body tb):PS X (.While c body [] pos) (ayy tc tb):=by
 intro G s σ H D I h;obtain⟨W,⟨m0,w0⟩,qk⟩:=h;refine wpAny_While (codeAny_whileLoop (λn s'=>∃qq H',Inv X G qq H' s'/\W n qq H') ?_ m0 ⟨σ,H,I,w0⟩);rintro n s1 ⟨R,H1,I1,w1⟩;refine uq hp (Cv (hc G s1 R H1 _ I1 (qk n R H1 w1)) λb s2 z_=>?_);obtain⟨H2,I2,q2⟩:=z_;cases b with
 |true =>
  obtain⟨N,hN,q2⟩:=q2;rw[dh rfl];refine uq hp (Cv (hb G s2 R H2 _ I2 q2) λf s3 q3=>?_);cases f with
  |next =>
   obtain⟨Z,H3,I3,n3⟩:=q3;obtain⟨m',hm,w3⟩:=hN Z H3 n3;exact⟨m',hm,Z,H3,I3,w3⟩
  |cont =>
   obtain⟨Z,H3,I3,n3⟩:=q3;obtain⟨m',hm,w3⟩:=hN Z H3 n3;exact⟨m',hm,Z,H3,I3,w3⟩
  |brk=>exact q3|ret v=>exact q3
 |false =>
  rw[cu dw];exact wpAny_execs_nil ⟨R,H2,I2,q2⟩
structure It where
 go:Nat->Hp->Prop
 yld:Nat->Hp->V->Hp->Prop
 stop:Nat->Hp->Prop
def Ur(X:Cx)(Z:Zp)(H:Hp)(b:Addr):Prop :=
 H b=none/\b≠X.env.locals/\b∉X.fs/\(b∈X.ex\/X.s₀.heap.objs.size<=b)/\(∀x c,X.env.cells.lookup x=some c->c≠b)/\∀p∈X.pn++Z,p.1≠b
def Inv.ams(I:Inv X pins σ H s)(Z:s.heap.objs.size<=b)(R:G b=none):Ur X pins G b:=by
 refine⟨R,yc (dm I.lt Z),I.ayi Z,.inr (ig I.sz Z),λx c e z=>?_,λp hp z=>?_⟩
 .obtain⟨v,q⟩:=I.cell x c e
  exact absurd (dm q.lt (by rw[z];exact Z)) (jr _)
 .exact absurd (dm (bc (I.pin p hp).1) (by rw[z];exact Z)) (jr _)
structure Turn(P:Program)(w:World)(K:Fg)(tg:Expr)(J:It)(fp:X0)(it:Addr)(tn:Nat->Heap->Prop):Prop where
 mem:it∈fp
 obj:∀i h,tn i h->∀b∈fp,∃o,h.get? b=some o/\∀v,o.data≠.cell v
 keep:∀i h h',tn i h->(∀b∈fp,∀o,h.get? b=some o->h'.get? b=some o)->tn i h'
 item:∀(X:Cx),X.prog=P->X.w=w->X.K=K->X.calm=true->∀(i:Nat)(pins:Zp)(s:Shared)(σ:St)(H:Hp)(E:Y1),Inv X pins σ H s->(∀b∈fp,Ur X pins H b)->tn i s.heap->J.go i H ->
  wpAny (model P w) X.A (pyNext (.ref it)) (λr s1=>∃u,r=some u /\
   wpAny (model P w) X.A (letOwnedTupleGo tg (.ref it) u) (λ_ s2=>∃x H',Inv X pins σ H' s2/\RelV x u/\J.yld i H x H'/\tn (i+1) s2.heap/\∀b∈fp,H' b=none) E s1) E s
 done:∀(X:Cx),X.prog=P->X.w=w->X.K=K->X.calm=true->∀(i:Nat)(pins:Zp)(s:Shared)(σ:St)(H:Hp)(E:Y1),Inv X pins σ H s->(∀b∈fp,Ur X pins H b)->tn i s.heap->J.stop i H ->
  wpAny (model P w) X.A (pyNext (.ref it)) (λr s1=>r=none/\Inv X pins σ H s1) E s
 self:∀(A:Around)(i:Nat)(s:Shared)(Q:Y1)(E:Y1),tn i s.heap->Q (.ref it) s->wpAny (model P w) A (pyIter (.ref it)) Q E s
abbrev TI:=St->Hp->(It->Hp->Prop)->Prop
def PIE(X:Cx)(Z:Zp)(σ:St)(tg:Expr)(R:It->Hp->Prop)(G:Value)(s2:Shared):Prop :=
 ∃(it:Addr)(fp:X0)(tn:Nat->Heap->Prop)(J:It)(H':Hp),G=.ref it/\Inv X Z σ H' s2/\Turn X.prog X.w X.K tg J fp it tn/\tn 0 s2.heap/\(∀b∈fp,Ur X Z H' b)/\R J H'
def PI(X:Cx)(tg G:Expr)(wi:TI):Prop :=
 ∀(Z:Zp)(s:Shared)(σ:St)(H:Hp)(R:It->Hp->Prop),Inv X Z σ H s->wi σ H R ->
  wpAny (model X.prog X.w) X.A (eval G X.env) (λv s1=>wpAny (model X.prog X.w) X.A (pyIter v) (PIE X Z σ tg R) X.xe s1) X.xe s
def amt(R:s.heap.get? it=some o)(hc:o.cls=.type n)(hd:o.data=.fields vs)(G:["enumerate", "zip", "dict_itemiterator", "dict_reverseitemiterator", "odict_iterator", "itertools.zip_longest", "itertools.pairwise"].contains n=false)(Z:Q () s):wpAny M A (letOwnedTupleGo tg (.ref it) u) Q E s:=by
 unfold letOwnedTupleGo;cases tg<;>first
  |exact ak Z
  | (cases u<;>first
   |exact ak Z
   | (refine aa (wpAny_load R ?_)
      rw[hc,hd];show wpAny M A (if(["enumerate", "zip", "dict_itemiterator", "dict_reverseitemiterator", "odict_iterator", "itertools.zip_longest", "itertools.pairwise"].contains n&&vs[0]?==some (rawInt _))=true then _ else _) Q E s;rw[cu (by intro h;rw[G,Bool.false_and] at h;cases h)];exact ak Z))
noncomputable def Itl(K:Fg)(a:Addr):It :=
 ⟨λi H=>∃Z x,Hm K H a Z/\Z[i]?=some x,λi H x G=>G=H/\∀Z,Hm K H a Z->Z[i]?=some x,λi H=>∃Z,Hm K H a Z/\Z.length<=i⟩
noncomputable def Itt(K:Fg)(a:Addr):It :=
 ⟨λi H=>∃Z x,Iu K H a Z/\Z[i]?=some x,λi H x G=>G=H/\∀Z,Iu K H a Z->Z[i]?=some x,λi H=>∃Z,Iu K H a Z/\Z.length<=i⟩
noncomputable def Mq(Z:Int)(n:Nat):It:=⟨λi _=>i<n,λi H x G=>G=H/\x=.int (Z+i),λi _=>n<=i⟩
theorem ai2{K:Fg}(a it:Addr):Turn P w K tg (Itl K a) [it] it (λi h=>h.IsListIter it a i) where
 mem:=by simp
 obj:=λi h st b G=>by
  have e:b=it:=by simpa using G
  subst e;obtain⟨o,e,c,d⟩:=st;exact⟨o,e,λv z=>by rw[d] at z;cases z⟩
 keep:=λi h h' st k=>st.at λo e=>k it (by simp) o e
 item:=by
  intro X hP hw hK hc i Z s σ H E I hf st hg;subst hP hw hK;obtain⟨xs,x,hq,hx⟩:=hg;obtain⟨yj,rv,p,hz⟩:=I.list hq;obtain⟨u,hu,ru⟩:=rv.get hx;obtain⟨f0,f1,f2,f3,f4,f5⟩:=hf it (by simp);refine wpAny_pyNext_list_item st p.isList (x:=u) (by simpa using hu) λh' R sb=>?_
  have I1:Inv X Z σ H { s with heap:=h' }:=I.turned (t':=s.toks) (λb o G e=>(sb.2 b G).trans e) f0 f1 f3 f4 f5;obtain⟨o,e,c,d⟩:=id R;exact⟨u,rfl,amt (s:={ s with heap:=h' }) e c d (by decide) ⟨x,H,I1,ru,⟨rfl,λys hy=>by rw[I.abu hy hq];exact hx⟩,R,λb G=>(hf b G).1⟩⟩
 done:=by intro X hP hw hK hc i Z s σ H E I hf st hg;subst hP hw hK;obtain⟨xs,hq,hx⟩:=hg;obtain⟨yj,rv,p,hz⟩:=I.list hq;obtain⟨f0,f1,f2,f3,f4,f5⟩:=hf it (by simp);have hl:=rv.length;exact wpAny_pyNext_list_end (I.ok.hd hc) st p.isList (by simp;exact a_ (g_ hl) hx) λh' eb=>⟨rfl,I.turned (t':=s.toks) (λb o G e=>eb b o G e) f0 f1 f3 f4 f5⟩
 self:=λ_ _ _ _ _ st h=>wpAny_pyIter_listiter st h
theorem ae4{K:Fg}(a it:Addr):Turn P w K tg (Itt K a) [it] it (λi h=>h.IsTupleIter it a i) where
 mem:=by simp
 obj:=λi h st b G=>by
  have e:b=it:=by simpa using G
  subst e;obtain⟨o,e,c,d⟩:=st;exact⟨o,e,λv z=>by rw[d] at z;cases z⟩
 keep:=λi h h' st k=>st.at λo e=>k it (by simp) o e
 item:=by
  intro X hP hw hK hc i Z s σ H E I hf st hg;subst hP hw hK;obtain⟨xs,x,hq,hx⟩:=hg;obtain⟨yj,rv,p,hz⟩:=I.tuple hq;obtain⟨u,hu,ru⟩:=rv.get hx;obtain⟨f0,f1,f2,f3,f4,f5⟩:=hf it (by simp);refine wpAny_pyNext_tuple_item st (show s.heap.IsTuple a yj.toArray from p) (x:=u) (by simpa using hu) λh' R sb=>?_
  have I1:Inv X Z σ H { s with heap:=h' }:=I.turned (t':=s.toks) (λb o G e=>(sb.2 b G).trans e) f0 f1 f3 f4 f5;obtain⟨o,e,c,d⟩:=id R;exact⟨u,rfl,amt (s:={ s with heap:=h' }) e c d (by decide) ⟨x,H,I1,ru,⟨rfl,λys hy=>by rw[I.Sx hy hq];exact hx⟩,R,λb G=>(hf b G).1⟩⟩
 done:=by intro X hP hw hK hc i Z s σ H E I hf st hg;subst hP hw hK;obtain⟨xs,hq,hx⟩:=hg;obtain⟨yj,rv,p,hz⟩:=I.tuple hq;obtain⟨f0,f1,f2,f3,f4,f5⟩:=hf it (by simp);have hl:=rv.length;exact wpAny_pyNext_tuple_end (I.ok.hd hc) st (show s.heap.IsTuple a yj.toArray from p) (by simp;exact a_ (g_ hl) hx) λh' eb=>⟨rfl,I.turned (t':=s.toks) (λb o G e=>eb b o G e) f0 f1 f3 f4 f5⟩
 self:=λ_ _ _ _ _ st h=>wpAny_pyIter_tupleiter st h
theorem ae5{K:Fg}(it:Addr)(lo:Int)(n:Nat):Turn P w K tg (Mq lo n) [it] it (λi h=>IsRangeIter h it (lo+(i:Nat)*1) ((n:Int)-(i:Nat)) 1) where
 mem:=by simp
 obj:=λi h st b G=>by
  have e:b=it:=by simpa using G
  subst e;exact⟨_,st,λv z=>by
   have z':Data.fields _=Data.cell v:=z;cases z'⟩
 keep:=λi h h' st k=>k it (by simp) _ st
 item:=by
  intro X hP hw hK hc i Z s σ H E I hf st hg;subst hP hw hK;obtain⟨f0,f1,f2,f3,f4,f5⟩:=hf it (by simp);have W:=Walks.range (prog:=X.prog) (w:=X.w) (I.ok.hd hc) it lo 1 n;refine W.item i s _ _ hg st λv h' tk hv R kk=>?_
  obtain⟨t,rfl⟩:=hv;have I1:Inv X Z σ H { s with heap:=h',toks:=tk }:=I.turned (λb o G e=>kk b o (by simpa using G) e) f0 f1 f3 f4 f5;refine⟨_,rfl,amt (s:={ s with heap:=h',toks:=tk }) (n := "range_iterator") R rfl rfl (by decide) ⟨.int (lo+i),H,I1,⟨t,?_⟩,⟨rfl,rfl⟩,R,λb G=>(hf b G).1⟩⟩;rw[Int.mul_one]
 done:=by intro X hP hw hK hc i Z s σ H E I hf st hg;subst hP hw hK;obtain⟨f0,f1,f2,f3,f4,f5⟩:=hf it (by simp);exact wpAny_pyNext_range_end (I.ok.hd hc) st (by have:n<=i:=hg;lia) λh' eb=>⟨rfl,I.turned (t':=s.toks) (λb o G e=>eb b o G e) f0 f1 f3 f4 f5⟩
 self:=λ_ _ _ _ _ st h=>wpAny_pyIter_rangeiter st h
end L2
namespace L2
open PySem PySem.Spec PyProof.Rows
def amu{lo:Int}(I:Inv X pins σ H s)(h1:-(2 ^ 62)<=lo)(h2:lo<2 ^ 62)(h3:-(2 ^ 62)<=Z)(h4:Z<2 ^ 62)(q:R (Mq lo (Z-lo).toNat) H):wpAny (model X.prog X.w) X.A (pyIter (.ref s.heap.objs.size)) (PIE X pins σ tg R) E { s with heap:=s.heap.push { cls:=.type "range",data:=.fields #[.int lo t,.int Z u,.int 1 v] },toks:=tk }:=by
 refine wpAny_pyIter_range (IsRange.new ..) (small_one h1 h2 h3 h4) ?_;have G:Inv X pins σ H { s with heap:=s.heap.push { cls:=.type "range",data:=.fields #[.int lo t,.int Z u,.int 1 v] },toks:=tk }:=I.kept λb o e=>ao _ e
 refine⟨(s.heap.push { cls:=.type "range",data:=.fields #[.int lo t,.int Z u,.int 1 v] }).objs.size,[(s.heap.push { cls:=.type "range",data:=.fields #[.int lo t,.int Z u,.int 1 v] }).objs.size],_,_,H,rfl,
  G.kept (t':=tk) λb o e=>ao _ e,ae5 _ lo (Z-lo).toNat,?_,λb hb=>?_,q⟩
 .have e1:lo+((0:Nat):Int)*1=lo:=by simp
  have e2:(((Z-lo).toNat:Nat):Int)-((0:Nat):Int)=Builtin.Range.rangeSize lo Z 1:=by rw[rangeSize_one];split<;>lia
  show IsRangeIter _ _ (lo+((0:Nat):Int)*1) ((((Z-lo).toNat:Nat):Int)-((0:Nat):Int)) 1;rw[e1,e2];exact bh _ rfl
 .have e:b=(s.heap.push { cls:=.type "range",data:=.fields #[.int lo t,.int Z u,.int 1 v] }).objs.size:=by simpa using hb
  subst e;exact G.ams (bf _) (G.zb.fresh (bf _))
def a4z(Z:TA):TI:=λG H R=>Z G H λvs H1=>∃j:Int,vs=[.int j]/\-(2 ^ 62)<=j/\j<2 ^ 62/\R (Mq 0 j.toNat) H1
def ai3{X:Cx}{tg:Expr}(hg:Gl X "range")(hm:X.mg "range" = none)(ha:PA X [a] ta)(hs:starEach [a] X.env=[(false,eval a X.env)]:=by rfl):PI X tg (.Call (.Name "range" p) [a] [] pos) (a4z ta):=by
 intro Z s σ H R I h;refine Call_ (By I hg hm boot_range (jt (Cv (ha pos Z s σ H _ I h) λus s1 ⟨vs,H1,I1,r1,G⟩=>?_) hs rfl));obtain⟨j,e,G,q2,q⟩:=G;subst e;cases r1 with
 |cons r rr =>
  cases rr;obtain⟨t,rfl⟩:=r;exact call_range_1 (amu I1 (by lia) (by lia) G q2 (by simpa using q))
def bcu(wi:TI)(g:TG)(tb:TS):TS:=λD Z H=>wi Z H λJ H1=>∃W:Nat->Nat->St->Hp->Prop,(∃m,W 0 m Z H1)/\∀i m Z H,W i m Z H ->
 (J.stop i H/\D.nx Z H)\/(J.go i H/\∃N:St->Hp->Prop,(∀R G,N R G->∃m',m'<m/\W (i+1) m' R G)/\∀x G,J.yld i H x G->g x Z G λqq H2=>tb { D with nx:=N,ct:=N,bk:=D.nx } qq H2)
noncomputable def Sy(Z:X0)(h:Heap):List (Addr×Obj):=Z.filterMap λb=>(h.get? b).map λo=>(b,o)
def K9(Z:b∈G)(e:h.get? b=some o):(b,o)∈Sy G h:=List.mem_filterMap.mpr ⟨b,Z,by rw[e];rfl⟩
def ai4(hp:p∈Sy G h):p.1∈G/\h.get? p.1=some p.2:=by
 obtain⟨b,Z,e⟩:=List.mem_filterMap.mp hp;cases q:h.get? b with
 |none=>rw[q] at e;cases e
 |some o =>
  rw[q] at e;have R:(b,o)=p:=jd e;subst R;exact⟨Z,q⟩
def Inv.pinned{X:Cx}(I:Inv X pins σ H s)(hf:∀b∈G,Ur X pins H b)(ho:∀b∈G,∃o,s.heap.get? b=some o/\∀v,o.data≠.cell v):Inv X (pins++Sy G s.heap) σ H s :=
 I.U7 λp hp=>(dz.mp hp).elim (λz=>I.pin p (iw _ z)) λz=>by obtain⟨R,e⟩:=ai4 z;obtain⟨f0,f1,f2,_⟩:=hf p.1 R;obtain⟨o,Z,d⟩:=ho p.1 R;rw[e] at Z;cases Z;exact⟨e,f0,f1,f2,d⟩
def Inv.Ny{X:Cx}(I:Inv X (pins++G) σ H s):Inv X pins σ H s:=I.U7 λp Z=>I.pin p (iw _ (o7 _ Z))
def ayz{X:Cx}{tg:Expr}(hp:PassesOwn (model X.prog X.w) X.A X.env X.xe)(hc:X.calm=true)(hi:PI X tg iter wi)(hg:PG X tg g)(hb:Pb X body tb)(hs:∀x,foldedSetIterable iter X.env x=pure x:=by intro _;rfl):PS X (.For tg iter body [] pos) (bcu wi g tb):=by
 intro G s σ H D I h;refine wpAny_For (Cv (hi G s σ H _ I h) λv s1 h1=>Cv h1 λzv s2 h2=>?_) hs;obtain⟨it,fp,tn,J,H2,e,I2,T,q8,f2,W,⟨m0,w0⟩,q4⟩:=h2;subst e;have q1:∀{H':Hp},(∀b∈fp,H' b=none)->∀b∈fp,Ur X G H' b:=λhn b hb=>⟨hn b hb,(f2 b hb).2⟩
 refine codeAny_forLoop_any (λn s'=>∃i qq H',Inv X G qq H' s'/\tn i s'.heap/\(∀b∈fp,H' b=none)/\W i n qq H') ?_ m0 ⟨0,σ,H2,I2,q8,λb hb=>(f2 b hb).1,w0⟩;rintro n s3 ⟨i,qk,H3,I3,q5,q3,w3⟩;rcases q4 i n qk H3 w3 with⟨q2,qn⟩|⟨go,N,hN,step⟩
 .refine uq hp (Cv (T.done X rfl rfl rfl hc i G s3 qk H3 X.xe I3 (q1 q3) q5 q2) λr s4 z_=>?_)
  obtain⟨hr,I4⟩:=z_;subst hr;exact wpAny_execs_nil ⟨qk,H3,I4,qn⟩
 .refine uq hp (Cv (T.item X rfl rfl rfl hc i G s3 qk H3 X.xe I3 (q1 q3) q5 go) λr s4 z_=>?_)
  obtain⟨u,hr,h4⟩:=z_;subst hr;refine uq hp (Cv h4 λ_ s5 z_=>?_);obtain⟨x,H5,I5,r5,y5,q0,zq⟩:=z_;have zk:=I5.pinned (q1 zq) (T.obj _ _ q0);refine uq hp (Cv (hg _ s5 qk H5 x u _ zk r5 (step x H5 y5)) λ_ s6 z_=>?_);obtain⟨zz,H6,I6,q6⟩:=z_;refine uq hp (Cv (hb _ s6 zz H6 _ I6 q6) λf s7 q7=>?_);have qv:∀{Z:St}{R:Hp},Inv X (G++Sy fp s5.heap) Z R s7->N Z R->∃m,m<n/\∃i qq H',Inv X G qq H' s7/\tn i s7.heap/\(∀b∈fp,H' b=none)/\W i m qq H':=fun{Z R} I7 n7=>by obtain⟨m',hm,w7⟩:=hN Z R n7;refine⟨m',hm,i+1,Z,R,I7.Ny,T.keep _ _ _ q0 λb hb o e=>(I7.pin (b,o) (iw _ (iw _ (K9 hb e)))).1,λb hb=>?_,w7⟩;obtain⟨o,e,d⟩:=T.obj _ _ q0 b hb;exact(I7.pin (b,o) (iw _ (iw _ (K9 hb e)))).2.1
  cases f with
  |next=>obtain⟨Z,R,I7,n7⟩:=q7;exact qv I7 n7
  |cont=>obtain⟨Z,R,I7,n7⟩:=q7;exact qv I7 n7
  |brk=>obtain⟨Z,R,I7,q7⟩:=q7;exact⟨Z,R,I7.Ny,q7⟩
  |ret v=>obtain⟨x7,Z,R,I7,r7,q7⟩:=q7;exact⟨x7,Z,R,I7.Ny,r7,q7⟩
end L2
namespace L2
open PySem PySem.Spec PyProof.Rows
abbrev R2:=V->V->Hp->VK->Prop
def Dz(X:Cx)(f:Value->Value->Sem Value)(r:R2):Prop :=
 ∀(Z:Zp)(s:Shared)(G:St)(H:Hp)(x y:V)(v u:Value)(Q:VK),Inv X Z G H s->RelV x v->RelV y u->r x y H Q ->
  wpAny (model X.prog X.w) X.A (f v u) (EP X Z G Q) X.xe s
def UnR(X:Cx)(f:Value->Sem Value)(r:V->Hp->VK->Prop):Prop :=
 ∀(Z:Zp)(s:Shared)(G:St)(H:Hp)(x:V)(v:Value)(Q:VK),Inv X Z G H s->RelV x v->r x H Q ->
  wpAny (model X.prog X.w) X.A (f v) (EP X Z G Q) X.xe s
def Bv(X:Cx)(f:Value)(r:List V->Hp->VK->Prop):Prop :=
 ∀(Z:Zp)(s:Shared)(G:St)(H:Hp)(R:List V)(us:Zl)(Q:VK),Inv X Z G H s->Vals R us->r R H Q ->
  wpAny (model X.prog X.w) X.A (call f us) (EP X Z G Q) X.xe s
def tOp(r:R2)(ta tb:TE):TE:=λZ H Q=>ta Z H λx R=>tb Z R λy G=>r x y G Q
def tUn(r:V->Hp->VK->Prop)(Z:TE):TE:=λG H Q=>Z G H λx R=>r x R Q
def rI(C:Int->Int->Prop)(g:Int->Int->V):R2:=λx y H Q=>∃i j,x=.int i/\y=.int j/\C i j/\Q (g i j) H
def rI0(g:Int->Int->V):R2:=λx y H Q=>∃i j,x=.int i/\y=.int j/\Q (g i j) H
def rU(g:Int->V):V->Hp->VK->Prop:=λx H Q=>∃i,x=.int i/\Q (g i) H
def ay1{X:Cx}{a b:Expr}{ta tb:TE}(ha:PE X a ta)(hb:PE X b tb){Z:Zp}{s:Shared}{G:St}{H:Hp}{R:V->V->Hp->Prop}(I:Inv X Z G H s)
 (h:ta G H λx H1=>tb G H1 λy H2=>R x y H2) {Q:Y1} {f:Value->Value->Sem Value}
 (hf:∀v u s2 x y H2,Inv X Z G H2 s2->RelV x v->RelV y u->R x y H2->wpAny (model X.prog X.w) X.A (f v u) Q X.xe s2) :
 wpAny (model X.prog X.w) X.A (eval a X.env) (λv qk=>wpAny (model X.prog X.w) X.A (eval b X.env) (λu qq=>wpAny (model X.prog X.w) X.A (f v u) Q X.xe qq) X.xe qk) X.xe s:=by
 refine Cv (ha Z s G H _ I h) λv s1 z_=>?_
 obtain⟨x,H1,I1,r1,q1⟩:=z_;refine Cv (hb Z s1 G H1 _ I1 q1) λu s2 z_=>?_
 obtain⟨y,H2,I2,r2,q2⟩:=z_;exact hf v u s2 x y H2 I2 r1 r2 q2
def a5b{X:Cx}{a b:Expr}{R tb:TE}{pos:Pos}{G:Operator}{r:R2}(ho:Dz X (binaryOp G) r)(ha:PE X a R)(hb:PE X b tb):PE X (.BinOp a G b pos) (tOp r R tb):=by intro Z s σ H Q I h;exact wpAny_BinOp (ay1 ha hb I h λv u s2 x y H2 I2 rx ry q=>ho Z s2 σ H2 x y v u Q I2 rx ry q)
def a5c{X:Cx}{a:Expr}{R:TE}{pos:Pos}{G:UnaryOp}{r:V->Hp->VK->Prop}(ho:UnR X (unaryOp G) r)(ha:PE X a R):PE X (.UnaryOp G a pos) (tUn r R):=by intro Z s σ H Q I h;exact UnaryOp_ (Cv (ha Z s σ H _ I h) λv s1 ⟨x,H1,I1,r1,q1⟩=>ho Z s1 σ H1 x v Q I1 r1 q1)
def opI{X:Cx}{f:Value->Value->Sem Value}{C:Int->Int->Prop}{g:Int->Int->Int}
 (Z:∀(i j:Int)(t u:Tok)(s:Shared)(Q:Y1)(E:Y1),C i j->Q (.int (g i j) s.toks) { s with toks:=s.toks+1 }->wpAny (model X.prog X.w) X.A (f (.int i t) (.int j u)) Q E s) :
 Dz X f (rI C λi j=>.int (g i j)):=by
 intro G s σ H x y v u Q I R ry h;obtain⟨i,j,rfl,rfl,hc,q⟩:=h;obtain⟨t,rfl⟩:=R;obtain⟨t',rfl⟩:=ry;exact Z i j t t' s _ _ hc ⟨.int (g i j),H,I.tok _,⟨_,rfl⟩,q⟩
def a5d{X:Cx}{f:Value->Value->Sem Value}{g:Int->Int->Int}
 (Z:∀(i j:Int)(t u:Tok)(s:Shared)(Q:Y1)(E:Y1),Q (.int (g i j) s.toks) { s with toks:=s.toks+1 }->wpAny (model X.prog X.w) X.A (f (.int i t) (.int j u)) Q E s) :
 Dz X f (rI0 λi j=>.int (g i j)):=by
 intro G s σ H x y v u Q I R ry h;obtain⟨i,j,rfl,rfl,q⟩:=h;obtain⟨t,rfl⟩:=R;obtain⟨t',rfl⟩:=ry;exact Z i j t t' s _ _ ⟨.int (g i j),H,I.tok _,⟨_,rfl⟩,q⟩
def ar7{X:Cx}{f:Value->Value->Sem Value}{g:Int->Int->Bool}
 (Z:∀(i j:Int)(t u:Tok)(s:Shared)(Q:Y1)(E:Y1),Q (.bool (g i j)) s->wpAny (model X.prog X.w) X.A (f (.int i t) (.int j u)) Q E s) :
 Dz X f (rI0 λi j=>.bl (g i j)):=by
 intro G s σ H x y v u Q I R ry h;obtain⟨i,j,rfl,rfl,q⟩:=h;obtain⟨t,rfl⟩:=R;obtain⟨t',rfl⟩:=ry;exact Z i j t t' s _ _ ⟨.bl (g i j),H,I,rfl,q⟩
def bcy(i j:Int):Prop:=0<j/\j<1073741824
def bcz(i j:Int):Prop:=0<=j/\j<=1000000/\i.natAbs<2 ^ 64
def ar8(i j:Int):Prop:=(-(2 ^ 64)<i/\i<2 ^ 64)\/(-(2 ^ 64)<j/\j<2 ^ 64)
def ar8.ok{i j:Int}(h:ar8 i j):IntMulOk i j:=by
 rcases h with⟨G,Z⟩|⟨G,Z⟩
 .exact .of_left (intBits_le_64 G Z)
 .exact .of_right (intBits_le_64 G Z)
def ay2{X:Cx}:Dz X (binaryOp .Add) (rI0 λi j=>.int (i+j)):=a5d λ_ _ _ _ _ _ _ q=>add_int q
def ay3{X:Cx}:Dz X (binaryOp .Sub) (rI0 λi j=>.int (i-j)):=a5d λ_ _ _ _ _ _ _ q=>sub_int q
def ay4{X:Cx}:Dz X (binaryOp .Mult) (rI ar8 λi j=>.int (i*j)):=opI λ_ _ _ _ _ _ _ Z q=>mul_int q Z.ok
def ar9{X:Cx}:Dz X (binaryOp .FloorDiv) (rI bcy λi j=>.int (i / j)):=opI λi j _ _ _ _ _ Z q=>by
 have R:(0:Int)<j:=Z.1
 have G:j<1073741824:=Z.2
 exact floordiv_int (by lia) (by rw[Int.fdiv_eq_ediv_of_nonneg i (by lia)];exact q) (.inl (PyProof.noPylong_small (by omega)))
def ay5{X:Cx}:Dz X (binaryOp .Mod) (rI (λ_ j=>0<j) λi j=>.int (i%j)):=opI λi j _ _ _ _ _ Z q=>by
 have G:(0:Int)<j:=Z
 exact mod_int' (by lia) (by rw[Int.fmod_eq_emod_of_nonneg i (by lia)];exact q)
def ay6{X:Cx}:Dz X (binaryOp .Pow) (rI bcz λi j=>.int (i ^ j.toNat)):=opI λ_ _ _ _ _ _ _ Z q=>pow_int_small Z.1 Z.2.1 Z.2.2 q
def unI{X:Cx}{f:Value->Sem Value}{g:Int->Int}
 (Z:∀(i:Int)(t:Tok)(s:Shared)(Q:Y1)(E:Y1),Q (.int (g i) s.toks) { s with toks:=s.toks+1 }->wpAny (model X.prog X.w) X.A (f (.int i t)) Q E s) :
 UnR X f (rU λi=>.int (g i)):=by
 intro G s σ H x v Q I R h;obtain⟨i,rfl,q⟩:=h;obtain⟨t,rfl⟩:=R;exact Z i t s _ _ ⟨.int (g i),H,I.tok _,⟨_,rfl⟩,q⟩
def ay7{X:Cx}:UnR X (unaryOp .USub) (rU λi=>.int (-i)):=unI λ_ _ _ _ _ q=>neg_int q
noncomputable def ay8:V->V->Bool
 |.non,.non=>true|.non,.int _=>true|.int _,.non=>true|.non,.bl _=>true|.bl _,.non=>true|.non,.str _=>true|.str _,.non=>true
 |.int _,.int _=>true|.bl _,.bl _=>true|.str _,.str _=>true|.byt _,.byt _=>true
 |.int _,.str _=>true|.str _,.int _=>true|.bl _,.str _=>true|.str _,.bl _=>true
 |_,_=>false
def rEq:R2:=λx y H Q=>ay8 x y=true/\Q (.bl (decide (x=y))) H
def rNe:R2:=λx y H Q=>ay8 x y=true/\Q (.bl (!decide (x=y))) H
def ag0{i j:Int}:decide (V.int i=V.int j)=(i==j):=by rw[Bc];simp
def amv{i j:Bool}:decide (V.bl i=V.bl j)=(i==j):=by rw[Bc];simp
def ag1{i j:Str}:decide (V.str i=V.str j)=(i==j):=by rw[Bc];simp
def ag2{i j:Array UInt8}:decide (V.byt i=V.byt j)=(i.toList==j.toList):=by rw[Bc];cases i;cases j;simp
def yr{X:Cx}{Z:Zp}{G:St}{H:Hp}{s:Shared}{Q:VK}{k R:Bool}(I:Inv X Z G H s)(q:Q (.bl k) H)(e:k=R):EP X Z G Q (.bool R) s:=by subst e;exact⟨.bl k,H,I,rfl,q⟩
def a5e{X:Cx}:Dz X (compareOp .Eq) rEq:=by
 intro qq s σ H x y v u Q I rx Z h;obtain⟨R,q⟩:=h;cases x with
 |non =>
  cases rx;cases y with
  |non=>cases Z;exact PySem.EqNone.eq_none_none (yr I q (by simp))|bl j=>cases Z;exact PySem.EqNone.eq_none_bool (yr I q (by simp))|int j=>obtain⟨G,rfl⟩:=Z;exact PySem.EqNone.eq_none_int (yr I q (by simp))
  |str j=>obtain⟨G,rfl⟩:=Z;exact PySem.EqNone.eq_none_str (yr I q (by simp))
  |_=>exact absurd (show false=true from R) dw
 |bl i =>
  cases rx;cases y with
  |non=>cases Z;exact PySem.EqNone.eq_bool_none (yr I q (by simp))|bl j=>cases Z;exact eq_bool (yr I q amv)|str j=>obtain⟨G,rfl⟩:=Z;exact PySem.EqMixed.eq_bool_str (yr I q (by simp))
  |_=>exact absurd (show false=true from R) dw
 |int i =>
  obtain⟨t,rfl⟩:=rx;cases y with
  |non=>cases Z;exact PySem.EqNone.eq_int_none (yr I q (by simp))|int j=>obtain⟨G,rfl⟩:=Z;exact eq_int (yr I q ag0)
  |str j=>obtain⟨G,rfl⟩:=Z;exact PySem.EqMixed.eq_int_str (yr I q (by simp))
  |_=>exact absurd (show false=true from R) dw
 |str i =>
  obtain⟨t,rfl⟩:=rx;cases y with
  |non=>cases Z;exact PySem.EqNone.eq_str_none (yr I q (by simp))|bl j=>cases Z;exact PySem.EqMixed.eq_str_bool (yr I q (by simp))|int j=>obtain⟨G,rfl⟩:=Z;exact PySem.EqMixed.eq_str_int (yr I q (by simp))
  |str j=>obtain⟨G,rfl⟩:=Z;exact eq_str (yr I q ag1)
  |_=>exact absurd (show false=true from R) dw
 |byt i =>
  obtain⟨t,rfl⟩:=rx;cases y with
  |byt j=>obtain⟨G,rfl⟩:=Z;exact PySem.W.eq_bytes (yr I q ag2)
  |_=>exact absurd (show false=true from R) dw
 |_=>cases y<;>exact absurd (show false=true from R) dw
def a5f{X:Cx}:Dz X (compareOp .NotEq) rNe:=by
 intro qq s σ H x y v u Q I rx Z h;obtain⟨R,q⟩:=h;cases x with
 |non =>
  cases rx;cases y with
  |non=>cases Z;exact PySem.EqNone.ne_none_none (yr I q (by simp))|bl j=>cases Z;exact PySem.EqNone.ne_none_bool (yr I q (by simp))|int j=>obtain⟨G,rfl⟩:=Z;exact PySem.EqNone.ne_none_int (yr I q (by simp))
  |str j=>obtain⟨G,rfl⟩:=Z;exact PySem.EqNone.ne_none_str (yr I q (by simp))
  |_=>exact absurd (show false=true from R) dw
 |bl i =>
  cases rx;cases y with
  |non=>cases Z;exact PySem.EqNone.ne_bool_none (yr I q (by simp))|bl j=>cases Z;exact ne_bool (yr I q (ql not amv))|str j=>obtain⟨G,rfl⟩:=Z;exact PySem.EqMixed.ne_bool_str (yr I q (by simp))
  |_=>exact absurd (show false=true from R) dw
 |int i =>
  obtain⟨t,rfl⟩:=rx;cases y with
  |non=>cases Z;exact PySem.EqNone.ne_int_none (yr I q (by simp))|int j=>obtain⟨G,rfl⟩:=Z;exact ne_int (yr I q (ql not ag0))
  |str j=>obtain⟨G,rfl⟩:=Z;exact PySem.EqMixed.ne_int_str (yr I q (by simp))
  |_=>exact absurd (show false=true from R) dw
 |str i =>
  obtain⟨t,rfl⟩:=rx;cases y with
  |non=>cases Z;exact PySem.EqNone.ne_str_none (yr I q (by simp))|bl j=>cases Z;exact PySem.EqMixed.ne_str_bool (yr I q (by simp))|int j=>obtain⟨G,rfl⟩:=Z;exact PySem.EqMixed.ne_str_int (yr I q (by simp))
  |str j=>obtain⟨G,rfl⟩:=Z;exact ne_str (yr I q (ql not ag1))
  |_=>exact absurd (show false=true from R) dw
 |byt i =>
  obtain⟨t,rfl⟩:=rx;cases y with
  |byt j=>obtain⟨G,rfl⟩:=Z;exact PySem.W.ne_bytes (yr I q (ql not ag2))
  |_=>exact absurd (show false=true from R) dw
 |_=>cases y<;>exact absurd (show false=true from R) dw
def a5g{X:Cx}:Dz X (compareOp .Lt) (rI0 λi j=>.bl (decide (i<j))):=ar7 λ_ _ _ _ _ _ _ q=>lt_int q
def a5h{X:Cx}:Dz X (compareOp .LtE) (rI0 λi j=>.bl (decide (i<=j))):=ar7 λ_ _ _ _ _ _ _ q=>le_int q
def a5i{X:Cx}:Dz X (compareOp .Gt) (rI0 λi j=>.bl (decide (j<i))):=ar7 λ_ _ _ _ _ _ _ q=>gt_int q
def a5j{X:Cx}:Dz X (compareOp .GtE) (rI0 λi j=>.bl (decide (j<=i))):=ar7 λ_ _ _ _ _ _ _ q=>ge_int q
def Dz.or{X:Cx}{f:Value->Value->Sem Value}{r G:R2}(h:Dz X f r)(h':Dz X f G):Dz X f (λx y H Q=>r x y H Q\/G x y H Q):=by
 intro Z s σ H x y v u Q I R ry q;rcases q with q|q
 .exact h Z s σ H x y v u Q I R ry q
 .exact h' Z s σ H x y v u Q I R ry q
def asa{X:Cx}{a b:Expr}{R tb:TE}{pos:Pos}{G:CmpOp}{r:R2}(ho:Dz X (compareOp G) r)(ha:PE X a R)(hb:PE X b tb)(hm:behindInMarks G b=false):PE X (.Compare a [G] [b] pos) (tOp r R tb):=by intro Z s σ H Q I h;exact wpAny_Compare1 (ay1 ha hb I h λv u s2 x y H2 I2 rx ry q=>ho Z s2 σ H2 x y v u Q I2 rx ry q) hm
def a5k(t:TE):TT:=λG H Q=>t G H λx Z=>∃k,x=.bl k/\Q k Z
def asb{X:Cx}{a b:Expr}{ta tb:TE}{pos:Pos}{G:CmpOp}{r:R2}(ho:Dz X (compareOp G) r)(ha:PE X a ta)(hb:PE X b tb)(hm:behindInMarks G b=false):PT X (.Compare a [G] [b] pos) (a5k (tOp r ta tb)):=by
 intro Z s R H Q I h;refine wpAny_isTrue_Compare1 (Cv (ha Z s R H _ I h) λv s1 ⟨x,H1,I1,r1,q1⟩=>Cv (hb Z s1 R H1 _ I1 q1) λu s2 ⟨y,H2,I2,r2,q2⟩ =>
  Cv (ho Z s2 R H2 x y v u _ I2 r1 r2 q2) λc s3 ⟨z,H3,I3,r3,k,e,q3⟩=>?_) hm
 subst e;cases r3;exact u0 ⟨H3,I3,q3⟩
def Zt:(sizeLine:Nat)<2 ^ 63:=by rw[qz];decide
def vals1{x:V}{Z:Zl}(r:Vals [x] Z):∃u,Z=[u]/\RelV x u:=by
 cases r with
 |cons R G=>cases G;exact⟨_,rfl,R⟩
def vals2{x y:V}{Z:Zl}(r:Vals [x,y] Z):∃u w',Z=[u,w']/\RelV x u/\RelV y w':=by
 cases r with
 |cons G r2 =>
  cases r2 with
  |cons R r4=>cases r4;exact⟨_,_,rfl,G,R⟩
def ai5{X:Cx}(hc:X.calm=true):Bv X (.builtin "max") (λG H Q=>∃i j,G=[.int i,.int j]/\Q (.int (if j > i then j else i)) H):=by
 intro R s σ H G us Q I r h;obtain⟨i,j,rfl,q⟩:=h;obtain⟨u,w',rfl,⟨t,rfl⟩,⟨t',rfl⟩⟩:=vals2 r;refine max_two_ints (I.ok.hd hc) λh' tk k=>⟨_,H,I.kept k,?_,q⟩
 by_cases Z:j > i
 .rw[dh Z,dh Z];exact⟨_,rfl⟩
 .rw[cu Z,cu Z];exact⟨_,rfl⟩
def ai6{X:Cx}(hc:X.calm=true):Bv X (.builtin "min") (λG H Q=>∃i j,G=[.int i,.int j]/\Q (.int (if j<i then j else i)) H):=by
 intro R s σ H G us Q I r h;obtain⟨i,j,rfl,q⟩:=h;obtain⟨u,w',rfl,⟨t,rfl⟩,⟨t',rfl⟩⟩:=vals2 r;refine min_two_ints (I.ok.hd hc) λh' tk k=>⟨_,H,I.kept k,?_,q⟩
 by_cases Z:j<i
 .rw[dh Z,dh Z];exact⟨_,rfl⟩
 .rw[cu Z,cu Z];exact⟨_,rfl⟩
end L2
namespace L2
open PySem PySem.Spec PyProof.Rows
structure ay9(h:Heap)(x dx C:Addr)(mA:Zs):Prop where
 obj:h.get? x=some (PySem.W.instObj C dx)
 ns:h.Ns1 dx mA
 ne:dx≠x
set_option tactic.hygienic true in
def ai7{h:Heap}{J:Addr}{L:Zs}(n:h.Ns1 J L):∃G,h.get? J=some G/\∀Z,PySem.W.lookIn Z G=some (L Z):=by
 obtain⟨o,C,ep,S,u,hk,_,hm⟩:=n;refine⟨o,S,λZ=>?_⟩;have e:=hm Z;unfold nsFind findBy at e;rw[<- Array.find?_toList] at e;unfold PySem.W.lookIn;rw[u];dsimp only;split
 .rename_i y q
  rw[q] at e;exact ql some e
 .rename_i q
  rw[q] at e;have a:C.toList.any (·.refKey)=false:=by rw[List.any_eq_false];intro y R;obtain⟨z,t,Y⟩:=hk y (Array.mem_toList_iff.mp R);simp[DictEntry.refKey,Y]
  have a':¬C.toList.any (·.refKey)=true:=by rw[a];exact dw
  rw[cu a'];exact ql some e
def ay9.look{h:Heap}{x dx C:Addr}{R:Zs}(I:ay9 h x dx C R):∃G,PySem.W.InstAt h x (PySem.W.instObj C dx) C (some G)/\∀Z,PySem.W.lookIn Z G=some (R Z) :=
 let ⟨G,ho,hl⟩:=ai7 I.ns
 ⟨G,⟨I.obj,rfl,rfl,ho⟩,hl⟩
def Sw.some_of{v:V}{o:Option Value}(r:Sw (some v) o):∃u,o=some u/\RelV v u:=by
 cases o with
 |none=>exact(show False from r).elim
 |some u=>exact⟨u,rfl,r⟩
def Uy{P:Program}{w:World}{H:Hp}{h:Heap}{a C G:Addr}{fs:List (Str×V)}(zb:Ml P w H h)(e:H a=some (.ins C G fs)):∃Z,ay9 h a G C Z/\(∀f,Sw (fs.lookup f) (Z f))/\PySem.Within Z (fs.map (·.1))/\fs.length<=1000/\H G=some (.own a):=by obtain⟨d,z,ne,R,Z,n,r,q⟩:=(show Aj P w H h a (.ins C G fs) from zb a _ e);exact⟨Z,⟨R,n,ne⟩,r,q,z,d⟩
structure Cls(K:Fg)(C:Addr):Prop where
 pg:PySem.W.plainGet K C Str.empty=true
 hd:PySem.W.hasDictIn K C=true
 po:PySem.W.plainOver K C=true
 sa:PySem.W.findIn K (.ref C) "__setattr__" = some (some (.builtin "object.__setattr__"))
def Cls.get{K:Fg}{C:Addr}(c:Cls K C)(f:Str):PySem.W.plainGet K C f=true:=c.pg
inductive Us(K:Fg)(H:Hp):V->Value->Prop where
 |non:Us K H .non (.type "NoneType")
 |bl (x:Bool):Us K H (.bl x) (.type "bool")
 |int (i:Int):Us K H (.int i) (.type "int")
 |str (x:Str):Us K H (.str x) (.type "str")
 |flt (x:UInt64):Us K H (.flt x) (.type "float")
 |lst {a:Addr} {xs:List V} (e:H a=some (.lst xs)):Us K H (.ref a) (.type "list")
 |Je {a:Addr} {o:Obj} {xs:List V} (e:H a=some (.Je o (.lst xs))):Us K H (.ref a) (.type "list")
 |tup {a:Addr} {xs:List V} (e:H a=some (.tup xs)):Us K H (.ref a) (.type "tuple")
 |dK {a:Addr} {jn:List (Key×V)} (e:H a=some (.dK jn)):Us K H (.ref a) (.type "dict")
 |dT {a:Addr} {jn:List (List Key×V)} (e:H a=some (.dT jn)):Us K H (.ref a) (.type "dict")
 |ins {a C dx:Addr} {fs:List (Str×V)} (e:H a=some (.ins C dx fs)) (cl:Cls K C) (ha:PySem.W.findIn K (.ref C) "__class__" = some (some (.builtin "object.__class__")))
  (hn:PySem.W.specialIn K (.builtin "object.__class__") "__get__" = some (some (.builtin "getset_descriptor.__get__"))) (htk:PySem.W.takesIn K (.builtin "object.__class__")=some true)
  (hm:PySem.W.mroIn K C (.type "object")=some true):Us K H (.ref a) (.ref C)
def ai8{X:Cx}{qq:Zp}{σ:St}{H:Hp}{s:Shared}{A:Around}{E Q:Y1}{c:Value}{b:Bool}{x:V}{u t:Value}(I:Inv X qq σ H s)(Z:RelV x u)(ty:Us X.K H x t)(e:PySem.W.kitOne X.K t c=some b)(h:∀tk,Q (.bool b) { s with toks:=tk }) :
 wpAny (model X.prog X.w) A (call (.builtin "isinstance") [u,c]) Q E s:=by
 cases ty with
 |non=>cases(show u=Value.none from Z);exact o8 PySem.W.kitx_none I.Wz True.intro e (λz=>nomatch z) h
 |bl y=>cases(show u=Value.bool y from Z);exact o8 PySem.W.kitx_bool I.Wz True.intro e (λz=>nomatch z) h
 |int i=>obtain⟨t,q⟩:=(show ∃t,u=Value.int i t from Z);cases q;exact o8 PySem.W.kitx_int I.Wz True.intro e (λz=>nomatch z) h
 |str y=>obtain⟨t,q⟩:=(show ∃t,u=Value.str y t from Z);cases q;exact o8 PySem.W.kitx_str I.Wz True.intro e (λz=>nomatch z) h
 |flt y=>obtain⟨t,q⟩:=(show ∃t,u=Value.float y t from Z);cases q;exact o8 PySem.W.kitx_float I.Wz True.intro e (λz=>nomatch z) h
 |@lst a R ea =>
  cases(show u=Value.ref a from Z);obtain⟨_,_,n,_,G⟩:=(show Aj X.prog X.w H s.heap a (.lst R) from I.zb a _ ea);exact o8 PySem.W.kitx_list I.Wz ⟨_,G,rfl⟩ e (λz=>nomatch z) h
 |@Je a ob R ea =>
  cases(show u=Value.ref a from Z);obtain⟨_,_,_,n,_,G⟩:=(show Aj X.prog X.w H s.heap a (.Je ob (.lst R)) from I.zb a _ ea);exact o8 PySem.W.kitx_list I.Wz ⟨_,G,rfl⟩ e (λz=>nomatch z) h
 |@tup a R ea =>
  cases(show u=Value.ref a from Z);obtain⟨_,_,_,p⟩:=(show Aj X.prog X.w H s.heap a (.tup R) from I.zb a _ ea);obtain⟨o,G,h2,_⟩:=p;exact o8 PySem.W.kitx_tuple I.Wz ⟨o,G,h2⟩ e (λz=>nomatch z) h
 |@dK a jn ea =>
  cases(show u=Value.ref a from Z);obtain⟨_,_,vs,_,p⟩:=(show Aj X.prog X.w H s.heap a (.dK jn) from I.zb a _ ea);obtain⟨o,es,ep,G,h2,_⟩:=p;exact o8 PySem.W.kitx_dict I.Wz ⟨o,G,h2.1⟩ e (λz=>nomatch z) h
 |@dT a jn ea =>
  cases(show u=Value.ref a from Z);obtain⟨_,_,R,_,o,es,ep,G,h2,_⟩:=(show Aj X.prog X.w H s.heap a (.dT jn) from I.zb a _ ea);exact o8 PySem.W.kitx_dict I.Wz ⟨o,G,h2.1⟩ e (λz=>nomatch z) h
 |@ins a C dx fs ea cl ha hn htk hm =>
  cases(show u=Value.ref a from Z);obtain⟨mA,O,_⟩:=Uy I.zb ea;obtain⟨od,J,_⟩:=O.look;exact o8 (PySem.W.kitx_own (cl.get _) cl.hd ha hn htk hm) I.Wz J e (λz=>nomatch z) h
end L2
namespace L2
open PySem PySem.Spec PyProof.Rows
structure Ah(k:Nat)(A:Around):Prop where
 hd:A.handled=none
 dp:A.depth+3*k+5<recursionLimit
 un:A.units+16*k+200<cLine
def Ah.mono{j k:Nat}{A:Around}(r:Ah k A)(h:j<=k):Ah j A:=⟨r.hd,by have:=r.dp;lia,by have:=r.un;lia⟩
theorem Ah.deeper{k:Nat}{A:Around}(r:Ah (k+1) A)(Z:Env):Ah k (A.deeper Z) :=
 ⟨r.hd,by have:=r.dp;show A.depth+1+3*k+5<_;lia,by have:=r.un;show A.units+3+16*k+200<_;lia⟩
theorem Ah.in1{k:Nat}{A:Around}(r:Ah (k+1) A):Ah k A.in1 :=
 ⟨r.hd,by have:=r.dp;show A.depth+3*k+5<_;lia,by have:=r.un;show A.units+1+16*k+200<_;lia⟩
theorem Ah.depth{k:Nat}{A:Around}(r:Ah k A):A.depth<recursionLimit:=by have:=r.dp;lia
theorem Ah.units{k:Nat}{A:Around}(r:Ah k A):A.units+64<cLine:=by have:=r.un;lia
def Ah.S8{k:Nat}{A:Around}(r:Ah k A):A.units<cLine:=by have:=r.un;lia
def bc1:TA:=λ_ H Q=>Q [] H
def a5l(ta:TE)(tr:TA):TA:=λZ H Q=>ta Z H λx R=>tr Z R λxs G=>Q (x::xs) G
def ae7{X:Cx}:PA X [] bc1:=λ_ _ _ _ H Q I h=>m8 ⟨[],H,I,.nil,h⟩
def U9{X:Cx}{e:Expr}{G:Y3}{R:TE}{t:TA}(ha:PE X e R)(hr:PA X G t)(hs:starEach (e::G) X.env=(false,eval e X.env)::starEach G X.env:=by rfl):PA X (e::G) (a5l R t):=by intro pos Z s σ H Q I h;rw[hs];show wpAny _ _ (spliced ((false,eval e X.env)::backTo pos (starEach G X.env))) _ _ s;refine jm (Cv (ha Z s σ H _ I h) λu s1 z_=>?_);obtain⟨x,H1,I1,r1,q1⟩:=z_;exact Cv (hr pos Z s1 σ H1 _ I1 q1) λus s2 ⟨xs,H2,I2,r2,q2⟩=>⟨x::xs,H2,I2,.cons r1 r2,q2⟩
def bc2(t:TA):TE:=λR H Q=>t R H λZ G=>Z.length<=sizeLine/\∀p,G p=none->Q (.ref p) (upd G p (.tup Z))
def bc3(t:TA):TE:=λR H Q=>t R H λZ G=>Z.length<=sizeLine/\∀p,G p=none->Q (.ref p) (upd G p (.lst Z))
def aza{X:Cx}{R:Y3}{t:TA}{pos:Pos}{x1}(h:PA X R t):PE X (.Tuple R x1 pos) (bc2 t):=by intro Z s σ H Q I hq;refine wpAny_Tuple_spliced (Cv (h pos Z s σ H _ I hq) λus G ⟨xs,H1,I1,r,z,q⟩=>⟨by rw[<- r.length];exact z,?_⟩);have hf:H1 G.heap.objs.size=none:=I1.zb.fresh (bf _);refine⟨.ref G.heap.objs.size,upd H1 G.heap.objs.size (.tup xs),I1.laid (t':=G.toks) (λb u e=>ao _ e) (bf _) ?_,rfl,q _ hf⟩;exact⟨z,us,r,W5.new _ _⟩
def amw{X:Cx}{R:Y3}{t:TA}{pos:Pos}(h:PA X R t):PE X (.List R pos) (bc3 t):=by intro Z s σ H Q I hq;refine wpAny_List_spliced (Cv (h pos Z s σ H _ I hq) λus G ⟨xs,H1,I1,r,z,q⟩=>⟨by rw[<- r.length];exact z,?_⟩);have hf:H1 G.heap.objs.size=none:=I1.zb.fresh (bf _);refine⟨.ref G.heap.objs.size,upd H1 G.heap.objs.size (.lst xs),I1.laid (t':=G.toks) (λb u e=>ao _ e) (bf _) ?_,rfl,q _ hf⟩;exact⟨z,us,0,r,bh _ rfl⟩
abbrev Sp:=List V->Hp->VK->XK->Prop
abbrev CXT:=List Env->Hp->Shared->XK->Value->Shared->Prop
structure Zu(P:Program)(w:World)(K:Fg)(mg:Zs)(base:Heap)(A:Around)(outer:List Env)(s:Shared)(H:Hp):Prop where
 frames:A.frames=some outer
 mod:Mod K mg base
 bs:∀b o,base.get? b=some o->s.heap.get? b=some o/\H b=none
 bsz:base.objs.size<=s.heap.objs.size
 Ow:s.heap.FunFrames base outer
 frf:∀b∈Hl outer,H b=none
 zb:Ml P w H s.heap
 bare:AllBare s.gens
def CE(Z:List Env)(P:Program)(w:World)(H:Hp)(s:Shared)(Q:VK)(u:Value)(G:Shared):Prop :=
 ∃v R,G.os=s.os/\AllBare G.gens/\Un (Hl Z) [] H R s.heap G.heap/\Ml P w R G.heap/\RelV v u/\Q v R
def CR(R:CXT)(Z:List Env)(P:Program)(w:World)(H:Hp)(s:Shared)(Q:VK)(E:XK)(r:Result)(G:Shared):Prop :=
 match r with
 |.ok (.ret u)=>CE Z P w H s Q u G|.ok _=>False|.error e=>R Z H s E e G
structure Jt(P:Program)(w:World)(K:Fg)(mg:Zs)(base:Heap)(CX:CXT)(k:Nat)(f:Addr)(fd:FuncData)(ps:Ya)(sp:Sp):Prop where
 len:∀vs H Q E,sp vs H Q E->vs.length=ps.length
 run:∀(A:Around)(outer:List Env)(s:Shared)(H:Hp)(args:Args)(us:Zl)(vs:List V)(Q:VK)(E:XK),Ah k A->Zu P w K mg base A outer s H->BindsTo s fd args (ps.zip us)->Vals vs us->sp vs H Q E ->
  codeAny (model P w) A (.call (.ref f) args) (CR CX outer P w H s Q E) s
def Jt.imp{P:Program}{w:World}{K:Fg}{mg:Zs}{Z:Heap}{CX:CXT}{k:Nat}{f:Addr}{fd:FuncData}{ps:Ya}{sp sp':Sp}(F:Jt P w K mg Z CX k f fd ps sp)
 (h:∀R H Q E,sp' R H Q E->sp R H Q E):Jt P w K mg Z CX k f fd ps sp' :=
 ⟨λR H Q E q=>F.len R H Q E (h _ _ _ _ q),λA G s H qq us R Q E hr he hb hv hs=>F.run A G s H qq us R Q E hr he hb hv (h _ _ _ _ hs)⟩
def Inv.env0{X:Cx}{Z:Zp}{G:St}{H:Hp}{s:Shared}(I:Inv X Z G H s):Zu X.prog X.w X.K X.mg X.base X.A X.stack s H :=
 ⟨I.ok.frames,I.ok.mod,I.bs,ig I.ok.bsz I.sz,I.stack,I.Qz,I.zb,I.bare⟩
def Inv.after{X:Cx}{Z:Zp}{σ:St}{H:Hp}{s s':Shared}{Q:VK}{u:Value}(I:Inv X Z σ H s)(h:CE X.stack X.prog X.w H s Q u s'):EP X Z σ Q u s':=by obtain⟨v,H',os,G,un,zb,r,q⟩:=h;obtain⟨hh,g,d,t,R⟩:=s';obtain rfl:R=s.os:=os;exact⟨v,H',I.call (h':=hh) (g':=g) (d':=d) (t':=t) (ch:=[]) un zb G (λb z=>absurd z (by simp)),r,q⟩
def a5m(sp:Sp)(Z:List V)(E:XK)(t:TA):TE:=fun σ H Q=>t σ H λG R=>sp (G++Z) R Q E
def Binds(K:Fg)(fd:FuncData)(G:Ya)(R:Zl):Prop :=
 ∀(s:Shared)(Z:Zl),K.In s.heap->(Z++R).length=G.length->BindsTo s fd ⟨Z,[]⟩ (G.zip (Z++R))
def Binds.all{K:Fg}{fd:FuncData}{G:Ya}(h:∀Z:List Value,Z.length=G.length->bindArgs fd ⟨Z,[]⟩=pure (G.zip Z)):Binds K fd G []:=λs Z _ R=>by rw[lg] at R ⊢;exact .of_eq (h Z R)
def Passes(CX:CXT)(X:Cx)(E:XK):Prop:=∀(Z:Zp)(R:St)(H:Hp)(s:Shared)(e:Value)(G:Shared),Inv X Z R H s->CX X.stack H s E e G->X.xe e G
def azb{X:Cx}{CX:CXT}{k:Nat}{f:Addr}{fd:FuncData}{ps:Ya}{sp:Sp}{G:List V}{ds:Zl}{E:XK}{Z:Zp}{σ:St}{H:Hp}{s:Shared}{Q:VK}{R:Zl}{vs:List V}(F:Jt X.prog X.w X.K X.mg X.base CX k f fd ps sp)(hr:Ah k X.A)(hb:Binds X.K fd ps ds)(hd:Vals G ds)(hx:Passes CX X E)
 (I:Inv X Z σ H s) (r:Vals vs R) (h:sp (vs++G) H Q E):wpAny (model X.prog X.w) X.A (call (.ref f) R) (EP X Z σ Q) X.xe s:=by
 have r2:Vals (vs++G) (R++ds):=r.append hd;have hl:(R++ds).length=ps.length:=by rw[<- r2.length];exact F.len _ _ _ _ h
 refine wpAny_call (uw (F.run X.A X.stack s H ⟨R,[]⟩ (R++ds) (vs++G) Q E hr I.env0 (hb s R I.Wz hl) r2 h) λr s' hq=>?_);cases r with
 |error e=>exact hx Z σ H s e s' I hq
 |ok fl =>
  cases fl with
  |ret u=>exact I.after hq|next=>exact False.elim hq|brk=>exact False.elim hq|cont=>exact False.elim hq
def ag3{X:Cx}{CX:CXT}{k:Nat}{f:Addr}{fd:FuncData}{ps:Ya}{sp:Sp}{G:List V}{ds:Zl}{E:XK}{x:Str}{p pos:Pos}{e:Expr}{Z:Y3}{t:TA}(F:Jt X.prog X.w X.K X.mg X.base CX k f fd ps sp)(hr:Ah k X.A)(hg:Gl X x)(hm:X.mg x=some (.ref f))(hk:PySem.W.keepIn X.K (.ref f)=true)(hb:Binds X.K fd ps ds)(hd:Vals G ds)(hx:Passes CX X E)
 (ha:PA X (e::Z) t) (Ox:(x==("__debug__" : Str))=false:=by decide) (he:starEach (e::Z) X.env=(false,eval e X.env)::starEach Z X.env:=by rfl) (Lh:(backTo pos (starEach Z X.env)).any (·.1)=false:=by rfl) :
 PE X (.Call (.Name x p) (e::Z) [] pos) (a5m sp G E t):=by
 intro R s σ H Q I h;refine ik (Oi I hg hm ?_ Ox);refine PySem.W.callWith_K (h₀:=X.base) I.ok.mod.kin hk (Cv (ha pos R s σ H _ I h) λus s1 ⟨vs,H1,I1,r,q⟩=>⟨I1.Wz,?_⟩) he Lh;exact azb F hr hb hd hx I1 r q
structure Q3(N P:Ya)(sc:Scope):Prop where
 kind:sc.kind=.function
 co:sc.isCoroutine=false
 gen:sc.isGenerator=false
 nd:N.Nodup
 pre:N.take P.length=P
 par:∀x∈P,sc.names.lookup x=some .local\/sc.names.lookup x=some .cell
 azc:∀y∈sc.names,y.2≠.free
theorem X3{Z:Str->Option NameKind}{x:Str}:∀{binds:List (Str×Value)}{m:Zs},(∀v,(x,v)∉binds)->bindL Z binds m x=m x
 |[],_,_=>rfl
 |(n,v)::r,m,h=>by
  unfold bindL;rw[X3 λw G=>h w (bx _ G)];split
  .have:x≠n:=by rintro rfl;exact h v di
   simp[this]
  .rfl
theorem X4{Z:Str->Option NameKind}{x:Str}:∀{binds:List (Str×Value)}{m:Zs},(∀v,(x,v)∉binds)->bindC Z binds m x=m x
 |[],_,_=>rfl
 |(n,v)::r,m,h=>by
  unfold bindC;rw[X4 λw G=>h w (bx _ G)];split
  .rfl
  .have:x≠n:=by rintro rfl;exact h v di
   simp[this]
theorem X5{Z:Str->Option NameKind}{x:Str}{v:Value}:∀{P:Ya}{G:Zl}{i:Nat}{m:Zs},P.Nodup->P[i]?=some x->G[i]?=some v->Z x=some .local ->
 bindL Z (P.zip G) m x=some v
 |[],_,_,_,_,h,_,_=>by simp at h|_::_,[],_,_,_,_,h,_=>by simp at h
 |p::P,w::G,0,m,nd,h1,h2,hk=>by
  simp at h1 h2;subst h1;subst h2;show bindL Z ((p,w)::P.zip G) m p=_;unfold bindL;rw[X3 λv R=>(j8.mp nd).1 (List.of_mem_zip R).1,dh hk];simp
 |p::P,w::G,i+1,m,nd,h1,h2,hk=>by
  show bindL Z ((p,w)::P.zip G) m x=_;unfold bindL;exact X5 (i:=i) (j8.mp nd).2 (by simpa using h1) (by simpa using h2) hk
theorem X6{Z:Str->Option NameKind}{x:Str}{v:Value}:∀{P:Ya}{G:Zl}{i:Nat}{m:Zs},P.Nodup->P[i]?=some x->G[i]?=some v->Z x≠some .local ->
 bindC Z (P.zip G) m x=some v
 |[],_,_,_,_,h,_,_=>by simp at h|_::_,[],_,_,_,_,h,_=>by simp at h
 |p::P,w::G,0,m,nd,h1,h2,hk=>by
  simp at h1 h2;subst h1;subst h2;show bindC Z ((p,w)::P.zip G) m p=_;unfold bindC;rw[X4 λv R=>(j8.mp nd).1 (List.of_mem_zip R).1,cu hk];simp
 |p::P,w::G,i+1,m,nd,h1,h2,hk=>by
  show bindC Z ((p,w)::P.zip G) m x=_;unfold bindC;exact X6 (i:=i) (j8.mp nd).2 (by simpa using h1) (by simpa using h2) hk
noncomputable def start(N:Ya)(Z:List V):St:=Z.map some++List.replicate (N.length-Z.length) none
noncomputable def Kd(CX:CXT)(P:Program)(w:World)(K:Fg)(mg:Zs)(base:Heap)(N:Ya)(G:Str)(Z:Scope)(f:Addr)(cd:Value)(A:Around)(outer:List Env)(s:Shared)(H:Hp)(E:XK):Cx where
 prog:=P
 w:=w
 K:=K
 mg:=mg
 base:=base
 A:=A.deeper (envOfC G Z s.heap.objs.size f cd)
 N:=N
 s₀:=s
 H₀:=H
 env:=envOfC G Z s.heap.objs.size f cd
 outer:=outer
 stack:=envOfC G Z s.heap.objs.size f cd::outer
 ex:=[]
 calm:=true
 fn:=λ_=>true
 pn:=[]
 xe:=λe s'=>wpAny (model P w) (A.deeper (envOfC G Z s.heap.objs.size f cd)) (leaving (envOfC G Z s.heap.objs.size f cd) e) (λ_ R=>CX outer H s E e R) (λe' R=>CX outer H s E e' R) s'
def abv{Z:Scope}{n:Nat}{x:Str}(h:Z.names.lookup x=some .cell):∃c,(cellsFrom n Z.names []).lookup x=some c:=by have q:=PySem.W.cellsFrom_some Z.names n [] (.inl h);exact jc.mp q
def X7{CX:CXT}{P:Program}{w:World}{K:Fg}{mg:Zs}{qq:Heap}{N ps:Ya}{R:Str}{Z:Scope}{f:Addr}{cd:Value}{A:Around}{G:List Env}{s s1:Shared}{H:Hp}{E:XK}{us:Zl}{vs:List V}
 (S:Q3 N ps Z) (hd:A.handled=none) (e0:Zu P w K mg qq A G s H) (hl:vs.length=ps.length) (r:Vals vs us)
 (x:InCallC s s.heap.objs.size (bindL (envOfC R Z s.heap.objs.size f cd).kindOf (ps.zip us) λ_=>none) (cellsFrom (s.heap.objs.size+1) Z.names []) (bindC (envOfC R Z s.heap.objs.size f cd).kindOf (ps.zip us) λ_=>none) s1) :
 Inv (Kd CX P w K mg qq N R Z f cd A G s H E) [] (start N vs) H s1:=by
 have Lh:ps.length<=N.length:=by have:=ql List.length S.pre;rw[List.length_take] at this;lia
 obtain⟨h1,tk,rfl,hk⟩:=x.done;have noA:∀b:Addr,b∉(Kd CX P w K mg qq N R Z f cd A G s H E).ex:=λb z=>absurd (show b∈([]:X0) from z) (by simp)
 refine⟨⟨e0.mod,S.kind,rfl,rfl,bf _,λy z c h1 h2=>?_,λy hy=>?_,λy c _ h=>?_,λ_=>hd,Around.frames_deeper e0.frames,.inr ⟨rfl,rfl⟩,λb z=>absurd z (noA b),e0.bs,e0.bsz,λb _ _=>noA b,λb z=>absurd z (noA b),e0.Ow,e0.frf⟩,
  rfl,e0.bare,Un.kept hk,⟨_,x.toInCall.ns,λi y v h1 h2 h3=>?_⟩,λy c h=>⟨_,x.cell y c h⟩,e0.zb.fresh (bf _),λy c h=>?_,λp hp=>absurd (show p∈([]:Zp) from hp) (by simp),e0.zb.kept hk,?_⟩
 .exact name_of_addr x.apart (zj h1) (zj h2)
 .have hy:Z.names.lookup y=some .cell\/Z.names.lookup y=some .free:=hy
  rcases hy with hy|hy
  .exact abv hy
  .exact absurd rfl (S.azc _ (zj hy))
 .exact yu (x.above y c (zj h))
 .have hi:i<vs.length:=by
   unfold start at h2
   by_cases hi:i<vs.length
   .exact hi
   .rw[iu (by simpa using hi)] at h2
    rw[w5] at h2;split at h2<;>cases h2
  have ha:vs[i]?=some v:=by
   unfold start at h2;rw[dj (by simpa using hi),je] at h2;cases e:vs[i]? with
   |none=>rw[e] at h2;cases h2|some a=>rw[e] at h2;cases h2;rfl
  obtain⟨u,hu,rv⟩:=r.get ha;have hp:ps[i]?=some y:=by rw[<- S.pre,List.getElem?_take_of_lt (b_ hi (f_ hl))];exact h1
  have qk:ps.Nodup:=by rw[<- S.pre];exact S.nd.sublist (List.take_sublist _ _)
  refine⟨u,rv,?_⟩;rcases S.par y (au hp) with k|k
  .exact .inl ⟨k,X5 qk hp hu k⟩
  .obtain⟨c,e⟩:=abv (n:=s.heap.objs.size+1) k
   refine .inr ⟨.inl k,c,e,?_⟩;have q:=x.cell y c e;rw[X6 qk hp hu (by show Z.names.lookup y≠_;rw[k];decide)] at q;exact q
 .exact e0.zb.fresh (yu (x.above y c (zj h)))
 .unfold start
  show _=N.length;rw[v7,gf,yq]
  lia
def awc{CX:CXT}{P:Program}{w:World}{K:Fg}{mg:Zs}{qk:Heap}{k:Nat}{f:Addr}{q2 R:Str}{qv:Arguments}{q0:List Stmt}{Z:Scope}{dV kV q3 pm qq ct oc:Value}{an od:Option Addr}
 {q6:Array (Option Value)} {N ps:Ya} {sp:Sp} (lk:K.lookup f=some ⟨oc,od,.func (PySem.W.fnOf q2 R qv q0 Z dV kV q3 pm an qq ct),q6⟩) (Xz:PySem.W.codeIn K qq R=true) (S:Q3 N ps Z)
 (len:∀vs H Q E,sp vs H Q E->vs.length=ps.length)
 (Vu:∀(A:Around)(G:List Env)(s:Shared)(H:Hp)(vs:List V)(Q:VK)(E:XK),Ah k (A.deeper (envOfC R Z s.heap.objs.size f qq))->sp vs H Q E ->
  ∃t,Pb (Kd CX P w K mg qk N R Z f qq A G s H E) q0 t/\t { nx:=λ_ H'=>Q .non H',rt:=Q } (start N vs) H) :
 Jt P w K mg qk CX (k+1) f (PySem.W.fnOf q2 R qv q0 Z dV kV q3 pm an qq ct) ps sp:=by
 refine⟨len,λA G s H q8 us vs Q E hr e0 hb r q4=>?_⟩;have hl:=len _ _ _ _ q4;have KX:K.In s.heap:=e0.mod.kin.keeps λb o e=>(e0.bs b o e).1
 have q5:s.heap.NoLimit:=e0.mod.nolimit.keeps λb o e=>(e0.bs b o e).1
 have q7:∀y∈ps.zip us,Z.names.lookup y.1=some .local\/(Z.names.lookup y.1=some .cell/\((cellsFrom (s.heap.objs.size+1) Z.names []).lookup y.1).isSome=true):=λ⟨n,v⟩ hy=>by
  rcases S.par n (List.of_mem_zip hy).1 with q|q
  .exact .inl q
  .exact .inr ⟨q,PySem.W.cellsFrom_some _ _ _ (.inl q)⟩
 refine codeAny_call_function hr.depth (KX _ _ lk) rfl S.co S.gen rfl (PySem.W.codeRec_of KX Xz) (hb _ _ _ _ ?_);refine wpAny_newFunctionEnv_cells S.kind q7 λzq he s1 x=>?_
 subst he;refine⟨q5.keeps x.toInCall.keep,codeAny_func ?_⟩;obtain⟨t,ht,hq⟩:=Vu A G s H vs Q E (hr.deeper _) q4;have I:Inv (Kd CX P w K mg qk N R Z f qq A G s H E) [] (start N vs) H s1:=X7 S hr.hd e0 hl r x;refine ji (ht [] s1 (start N vs) H _ I hq) (λfl s' hs=>?_) λe s' hs=>hs
 have fin:∀{q1:St}{H':Hp}{v:V}{u:Value},Inv (Kd CX P w K mg qk N R Z f qq A G s H E) [] q1 H' s'->RelV v u->Q v H'->CE G P w H s Q u s' :=
  fun{q1 H' v u} J rv q=>⟨v,H',J.os,J.bare,J.base,J.zb,rv,q⟩
 cases fl with
 |ret u =>
  obtain⟨v,q1,H',J,rv,q⟩:=hs;exact fin J rv q
 |next =>
  obtain⟨q1,H',J,q⟩:=hs;exact fin (v:=V.non) (u:=Value.none) J rfl q
 |brk =>
  obtain⟨_,_,_,q⟩:=hs;exact False.elim q
 |cont =>
  obtain⟨_,_,_,q⟩:=hs;exact False.elim q
end L2
namespace L2
open PySem PySem.Spec PyProof.Rows
def tCB(r:List V->Hp->VK->Prop)(t:TA):TE:=λZ H Q=>t Z H λR G=>r R G Q
def amy{X:Cx}{x:Str}{p pos:Pos}{e:Expr}{G:Y3}{t:TA}{id:String}{r:List V->Hp->VK->Prop}(hc:Bv X (.builtin id) r)(hg:Gl X x)(hm:X.mg x=none)(hv:bootBuiltins x=some (.builtin id))(ha:PA X (e::G) t)(hn:x≠"__name__" := by decide)(Ox:(x==("__debug__" : Str))=false:=by decide)
 (he:starEach (e::G) X.env=(false,eval e X.env)::starEach G X.env:=by rfl) (Lh:(backTo pos (starEach G X.env)).any (·.1)=false:=by rfl):PE X (.Call (.Name x p) (e::G) [] pos) (tCB r t):=by
 intro Z s R H Q I h;refine ik (By I hg hm hv ?_ hn Ox);exact qb (Cv (ha pos Z s R H _ I h) λus s1 ⟨vs,H1,I1,r1,q1⟩=>hc Z s1 R H1 vs us Q I1 r1 q1) he Lh
def ai9{X:Cx}{x:Str}{p pos:Pos}{e:Expr}{G:Y3}{t:TA}{T:String}{r:List V->Hp->VK->Prop}(hc:Bv X (.type T) r)(hg:Gl X x)(hm:X.mg x=none)(hv:bootBuiltins x=some (.type T))(ha:PA X (e::G) t)(hn:x≠"__name__" := by decide)(Ox:(x==("__debug__" : Str))=false:=by decide)
 (he:starEach (e::G) X.env=(false,eval e X.env)::starEach G X.env:=by rfl) (Lh:(backTo pos (starEach G X.env)).any (·.1)=false:=by rfl):PE X (.Call (.Name x p) (e::G) [] pos) (tCB r t):=by
 intro Z s R H Q I h;refine ik (By I hg hm hv ?_ hn Ox);exact jt (Cv (ha pos Z s R H _ I h) λus s1 ⟨vs,H1,I1,r1,q1⟩=>hc Z s1 R H1 vs us Q I1 r1 q1) he Lh
section
variable{κ:Type}[DecidableEq κ]
noncomputable def Q4(G:List (κ×V))(k:κ):Option V:=(G.find? λZ=>decide (Z.1=k)).map (·.2)
noncomputable def putK(G:List (κ×V))(k:κ)(v:V):List (κ×V) :=
 if(G.any λZ=>decide (Z.1=k))=true then G.map (λZ=>if Z.1=k then(Z.1,v) else Z) else G++[(k,v)]
def Q5{p:κ×V}(e:p.1=k):Q4 (p::r) k=some p.2:=by simp[Q4,su,e]
def Q6{p:κ×V}(e:¬p.1=k):Q4 (p::r) k=Q4 r k:=by simp[Q4,su,e]
theorem abw(k:κ):∀Z:List (κ×V),(Z.any λG=>decide (G.1=k))=(Q4 Z k).isSome
 |[]=>rfl
 |p::r=>by
  rw[List.any_cons]
  by_cases e:p.1=k
  .simp only[Q5 e,Al e,Bool.true_or,Option.isSome_some]
  .rw[Q6 e,ou e,Bool.false_or];exact abw k r
def Ub(Z:List (κ×V))(k:κ)(v:V):(putK Z k v).length<=Z.length+1:=by
 unfold putK;split
 .rw[gf];exact x_
 .rw[v7,jw,List.length_nil];exact bf _
def Sw.Ke(r:Sw o u):o.isSome=u.isSome:=by
 cases o with
 |none=>cases u with
  |none=>rfl|some _=>exact(show False from r).elim
 |some _=>cases u with
  |none=>exact(show False from r).elim
  |some _=>rfl
theorem Sw.getD(r:Sw o u)(Z:RelV d G):RelV (o.getD d) (u.getD G):=by
 cases o with
 |none=>cases u with
  |none=>exact Z|some _=>exact(show False from r).elim
 |some _=>cases u with
  |none=>exact(show False from r).elim
  |some _=>exact r
def KV.val(r:KV R vs)(k:κ):Sw (Q4 R k) (valueAt vs k):=by
 unfold KV at r
 induction r with
 |nil=>exact True.intro
 |@cons p q ps qs h t ih =>
  obtain⟨G,h2⟩:=h
  by_cases e:p.1=k
  .have Z:q.1=k:=G.symm.trans e
   have b:valueAt (q::qs) k=some q.2:=by simp[valueAt,su,Z]
   rw[Q5 e,b];exact h2
  .have Z:¬q.1=k:=λz=>e (G.trans z)
   have b:valueAt (q::qs) k=valueAt qs k:=by simp[valueAt,su,Z]
   rw[Q6 e,b];exact ih
theorem KV.any(r:KV R vs)(k:κ):(R.any λZ=>decide (Z.1=k))=vs.any λZ=>decide (Z.1=k):=by
 unfold KV at r
 induction r with
 |nil=>rfl|cons h t G=>rw[List.any_cons,List.any_cons,G,h.1]
def KV.Iv(r:KV R vs)(k:κ)(ry:RelV y u) :
 KV (R.map λZ=>if Z.1=k then(Z.1,y) else Z) (vs.map λZ=>if Z.1=k then(Z.1,u) else Z):=by
 unfold KV at r ⊢
 induction r with
 |nil=>exact .nil
 |@cons p q ps qs h t ih =>
  rw[iz,iz];refine .cons ?_ ih;obtain⟨G,h2⟩:=h
  by_cases e:p.1=k
  .rw[dh e,dh (G.symm.trans e)];exact⟨G,ry⟩
  .rw[cu e,cu (λz=>e (G.trans z))];exact⟨G,h2⟩
def KV.put(r:KV jn G)(k:κ)(Z:RelV y u):KV (putK jn k y) (stored G k u):=by
 unfold putK stored;rw[r.any k]
 by_cases e:(G.any λR=>decide (R.1=k))=true
 .rw[dh e,dh e];exact r.Iv k Z
 .rw[cu e,cu e];exact Paired.snoc r ⟨rfl,Z⟩
theorem KV.length{Z:List (κ×V)}{G:List (κ×Value)}(r:KV Z G):Z.length=G.length:=Paired.length r
end
def X8(r:RelV (kV k) u):(Bx P w).is k u=true:=by
 cases k with
 |inl i=>obtain⟨t,e⟩:=(show ∃t,u=Value.int i t from r);subst e;exact abo P w i t
 |inr x=>obtain⟨t,e⟩:=(show ∃t,u=Value.str x t from r);subst e;exact abp P w x t
theorem Yb{P:Program}{w:World}:∀{Z:List Key}{G:Zl},Vals (Z.map kV) G->ItemsAre (Bx P w) Z G
 |[],_,r=>by rw[List.map_nil] at r;cases r;exact .nil
 |k::Z,_,r=>by
  rw[iz] at r;cases r with
  |cons h t=>exact .cons (X8 h) (Yb t)
abbrev KT(H:Hp):List (List Key×V)->List (List Key×Addr×Value)->Prop:=Paired λp q=>p.1=q.1/\H q.2.1=some (.tup (p.1.map kV))/\RelV p.2 q.2.2
def KT.val(r:KT H R xs)(k:List Key):Sw (Q4 R k) ((atKey xs k).map (·.2)):=by
 induction r with
 |nil=>exact True.intro
 |@cons p q ps qs h t ih =>
  obtain⟨G,_,h2⟩:=h
  by_cases e:p.1=k
  .have Z:q.1=k:=G.symm.trans e
   have b:atKey (q::qs) k=some q.2:=by simp[atKey,su,Z]
   rw[Q5 e,b];exact h2
  .have Z:¬q.1=k:=λz=>e (G.trans z)
   have b:atKey (q::qs) k=atKey qs k:=by simp[atKey,su,Z]
   rw[Q6 e,b];exact ih
def KT.Iv(r:KT H jn xs)(k:List Key)(ry:RelV y u) :
 KT H (jn.map λG=>if G.1=k then(G.1,y) else G) (xs.map (putAt k u)):=by
 induction r with
 |nil=>exact .nil
 |@cons p q ps qs h t ih =>
  rw[iz,iz];refine .cons ?_ ih;obtain⟨Z,R,h3⟩:=h;unfold putAt
  by_cases e:p.1=k
  .rw[dh e,dh (Z.symm.trans e)];exact⟨Z,R,ry⟩
  .rw[cu e,cu (λz=>e (Z.trans z))];exact⟨Z,R,h3⟩
def KT.put(r:KT H G Z)(k:List Key)(hb:H b=some (.tup (k.map kV)))(R:RelV y u) :
 KT H (putK G k y) (storedH Z k b u):=by
 have e:(G.any λkv=>decide (kv.1=k))=(atKey Z k).isSome:=by rw[abw,(r.val k).Ke,Option.isSome_map]
 unfold putK storedH;rw[e]
 by_cases q:(atKey Z k).isSome=true
 .rw[dh q,dh q];exact r.Iv k R
 .rw[cu q,cu q];exact Paired.snoc r ⟨rfl,hb,R⟩
def KT.keeps(r:KT H R xs)(ht:∀b Z,H b=some (.tup Z)->G b=some (.tup Z)):KT G R xs :=
 Paired.ayf r λ_ _ z=>⟨z.1,ht _ _ z.2.1,z.2.2⟩
def awd(ok:Ml P w H h)(e:Rd H a u):Aj P w H h a u:=e.ok ok
def Vv(ok:Ml P w H h)(e:Rd H a (.dK Z)):Z.length<=sizeLine/\(a==sysModules)=false/\∃vs,KV Z vs/\h.DictOf (Bx P w) a vs :=
 show Aj P w H h a (.dK Z) from awd ok e
def a5n(ok:Ml P w H h)(e:H a=some (.dK Z)):Z.length<=sizeLine/\(a==sysModules)=false/\∃vs,KV Z vs/\h.DictOf (Bx P w) a vs:=Vv ok (.inl e)
def Tc(ok:Ml P w H h)(e:H a=some (.tup (Z.map kV))):(tupleKind (Bx P w)).is h Z a:=by obtain⟨_,R,r,o,G,h2,n,h3,_⟩:=(show Aj P w H h a (.tup (Z.map kV)) from ok a _ e);exact⟨o,R.toArray,n,G,h2,h3,by simpa using Yb r⟩
def Yc(ok:Ml P w H h)(e:Rd H a (.dT G)):G.length<=sizeLine/\(a==sysModules)=false /\
 ∃xs,KT H G xs/\h.DictOfH (tupleKind (Bx P w)) a xs:=by
 obtain⟨z,y,xs,r,o,es,ep,R,h2,h3,h4,h5⟩:=(show Aj P w H h a (.dT G) from awd ok e);refine⟨z,y,xs,r,o,es,ep,R,h2,h3,h4,λx Z=>?_,h5⟩;have all:∀{l:List (List Key×V)}{m:List (List Key×Addr×Value)},KT H l m->∀x∈m,(tupleKind (Bx P w)).is h x.1 x.2.1:=by
  intro l m q
  induction q with
  |nil=>intro x Z;exact nomatch Z
  |@cons p q ps qs hq t ih =>
   intro x Z;rcases cj.mp Z with e|Z
   .subst e
    exact Tc ok (by rw[<- hq.1];exact hq.2.1)
   .exact ih x Z
 exact all r x Z
def a5o(ok:Ml P w H h)(e:H a=some (.dT Z)):Z.length<=sizeLine/\(a==sysModules)=false /\
 ∃xs,KT H Z xs/\h.DictOfH (tupleKind (Bx P w)) a xs:=Yc ok (.inl e)
def Nz(H:Hp)(a:Addr)(y:V)(r:Option V):Prop :=
 (∃Z k,Rd H a (.dK Z)/\y=kV k/\r=Q4 Z k)\/∃Z k b,Rd H a (.dT Z)/\y=.ref b/\H b=some (.tup (k.map kV))/\r=Q4 Z k
def ae8(H:Hp)(a:Addr)(y v:V)(G:Hp):Prop :=
 (∃Z k,H a=some (.dK Z)/\y=kV k/\Z.length<sizeLine/\G=upd H a (.dK (putK Z k v))) \/
 ∃Z k b,H a=some (.dT Z)/\y=.ref b/\H b=some (.tup (k.map kV))/\Z.length<sizeLine/\G=upd H a (.dT (putK Z k v))
theorem Nz.k{k:Key}(e:H a=some (.dK Z)):Nz H a (kV k) (Q4 Z k):=.inl ⟨Z,k,.inl e,rfl,rfl⟩
def Nz.t{k:List Key}(e:H a=some (.dT Z))(G:H b=some (.tup (k.map kV))):Nz H a (.ref b) (Q4 Z k):=.inr ⟨Z,k,b,.inl e,rfl,G,rfl⟩
theorem ae8.k{k:Key}(e:H a=some (.dK Z))(G:Z.length<sizeLine):ae8 H a (kV k) v (upd H a (.dK (putK Z k v))):=.inl ⟨Z,k,e,rfl,G,rfl⟩
def ae8.t{k:List Key}(e:H a=some (.dT Z))(G:H b=some (.tup (k.map kV)))(R:Z.length<sizeLine) :
 ae8 H a (.ref b) v (upd H a (.dT (putK Z k v))):=.inr ⟨Z,k,b,e,rfl,G,R,rfl⟩
def Inv.big(I:Inv X pins σ H s):sysModules<s.heap.objs.size:=by
 have h:mainGlobals<s.heap.objs.size:=(I.mod.glob.keeps I.bk).lt
 exact Nat.lt_trans (by decide) h
def aja(hu:A.units+1<cLine)(I:Inv X pins σ H s)(g:Nz H a y (some v))(ry:RelV y u)(h:∀R s',Inv X pins σ H s'->RelV v R->Q R s') :
 wpAny (model X.prog X.w) A (getItem (.ref a) u) Q E s:=by
 rcases g with⟨jn,k,e,ey,l⟩|⟨jn,k,b,e,ey,eb,l⟩
 .subst ey
  obtain⟨z,hd,vs,G,dd⟩:=Vv I.zb e;obtain⟨R,hw,Z⟩:=Sw.some_of (v:=v) (o:=valueAt vs k) (by rw[l];exact G.val k);exact wpAny_getItem_of (X8 ry) dd.mapOf hw (h R _ (I.tok _) Z)
 .subst ey
  cases(show u=Value.ref b from ry);obtain⟨z,hd,xs,G,dd⟩:=Yc I.zb e;obtain⟨R,hw,Z⟩:=Sw.some_of (v:=v) (o:=(atKey xs k).map (·.2)) (by rw[l];exact G.val k);obtain⟨p,hp,qq⟩:=bw.mp hw;refine wpAny_getItem_heap (wu hu) (Tc I.zb eb) dd hp ?_;rw[qq];exact h R _ (I.tok _) Z
def a5p(hu:A.units+1<cLine)(I:Inv X pins σ H s)(g:Nz H a y o)(ry:RelV y u)(h:∀s',Inv X pins σ H s'->Q (.bool o.isSome) s') :
 wpAny (model X.prog X.w) A (compareOp .In u (.ref a)) Q E s:=by
 rcases g with⟨jn,k,e,R,l⟩|⟨jn,k,b,e,R,eb,l⟩
 .subst R
  obtain⟨z,hd,vs,Z,G⟩:=Vv I.zb e;refine wpAny_in_of (X8 ry) hd G.mapOf ?_;rw[<- (Z.val k).Ke,<- l];exact h _ (I.tok _)
 .subst R
  cases(show u=Value.ref b from ry);obtain⟨z,hd,xs,Z,G⟩:=Yc I.zb e;refine wpAny_in_heap (wu hu) (Tc I.zb eb) hd G ?_;have q:=(Z.val k).Ke;rw[Option.isSome_map] at q;rw[<- q,<- l];exact h _ (I.tok _)
def ag4(hu:A.units+1<cLine)(I:Inv X pins σ H s)(g:Nz H a y o)(ry:RelV y u)(h:∀s',Inv X pins σ H s'->Q (.bool (!o.isSome)) s') :
 wpAny (model X.prog X.w) A (compareOp .NotIn u (.ref a)) Q E s:=by
 rcases g with⟨jn,k,e,R,l⟩|⟨jn,k,b,e,R,eb,l⟩
 .subst R
  obtain⟨z,hd,vs,Z,G⟩:=Vv I.zb e;refine wpAny_notIn_of (X8 ry) hd G.mapOf ?_;rw[<- (Z.val k).Ke,<- l];exact h _ (I.tok _)
 .subst R
  cases(show u=Value.ref b from ry);obtain⟨z,hd,xs,Z,G⟩:=Yc I.zb e;refine wpAny_notIn_heap (wu hu) (Tc I.zb eb) hd G ?_;have q:=(Z.val k).Ke;rw[Option.isSome_map] at q;rw[<- q,<- l];exact h _ (I.tok _)
def ag5(I:Inv X pins σ H s)(mu:Mut (H a))(R:Heap.SameBut a s.heap Z)(he:∃q,Z.get? a=some q)(new:Aj X.prog X.w (upd H a G) Z a G) :
 Inv X pins σ (upd H a G) { s with heap:=Z,toks:=t' } :=
 I.write (x:=a) (e:=a) mu (.inl rfl) (λb q hb z=>(R.2 b hb).trans z) he new
def am0(z:G.length<=sizeLine)(hd:(a==sysModules)=false)(Z:KV G R)(dd:h'.DictOf (Bx P w) a R) :
 Aj P w H' h' a (.dK G):=⟨z,hd,R,Z,dd⟩
def Yd(hu:A.units+1<cLine)(I:Inv X pins σ H s)(g:ae8 H a y v H')(ry:RelV y u)(rv:RelV v r)(h:∀s',Inv X pins σ H' s'->Q () s') :
 wpAny (model X.prog X.w) A (setItem (.ref a) u r) Q E s:=by
 rcases g with⟨R,k,e,ey,l,eH⟩|⟨R,k,b,e,ey,eb,l,eH⟩
 .subst ey eH
  obtain⟨z,hd,vs,Z,dd⟩:=a5n I.zb e;have hz:vs.length<=sizeLine:=by rw[<- Z.length];exact z
  have hl:(putK R k v).length<=sizeLine:=by have:=Ub R k v;exact a_ this l
  refine wpAny_setItem_pairs (hsz:=hz) (X8 ry) dd λh' G hs=>h _ ?_
  have he:∃q,h'.get? a=some q:=let ⟨q,_,_,hq,_⟩:=G;⟨q,hq⟩;exact ag5 I (by rw[e];exact True.intro) hs he (am0 hl hd (Z.put k rv) G)
 .subst ey eH
  cases(show u=Value.ref b from ry);obtain⟨z,hd,xs,Z,dd⟩:=a5o I.zb e;have hz:xs.length<=sizeLine:=by rw[<- Paired.length Z];exact z
  have hl:(putK R k v).length<=sizeLine:=by have:=Ub R k v;exact a_ this l
  refine wpAny_setItem_heap (hsz:=hz) (wu hu) (Tc I.zb eb) dd λh' G hs=>h _ ?_
  obtain⟨q,es,ep,hq,h2,h3,h4,_,h5⟩:=G;refine ag5 I (by rw[e];exact True.intro) hs ⟨q,hq⟩ ⟨hl,hd,_,(Z.put k eb rv).keeps λc ys ec=>?_,q,es,ep,hq,h2,h3,h4,h5⟩;rw[jb (amg ec e (λz=>nomatch z))];exact ec
def abx(I:Inv X pins σ H s)(g:Nz H a y o):s.TypeIs (.ref a) "dict" := by
 rcases g with⟨G,k,e,_,_⟩|⟨G,k,b,e,_,_,_⟩
 .obtain⟨_,_,vs,_,Z⟩:=Vv I.zb e
  exact Z.typeIs
 .obtain⟨_,_,R,_,Z⟩:=Yc I.zb e
  exact Z.typeIs
def am1(h:Heap)(Z:sysModules<h.objs.size):Aj P w H (h.push { cls:=.type "dict",data:=.dict #[] }) h.objs.size (.dK []) :=
 ⟨jy _,zm.mpr (j0 (gh Z)),[],.nil,Heap.DictOf.new h⟩
def am2(h:Heap)(Z:sysModules<h.objs.size):Aj P w H (h.push { cls:=.type "dict",data:=.dict #[] }) h.objs.size (.dT []) :=
 ⟨jy _,zm.mpr (j0 (gh Z)),[],.nil,_,#[],0,bh _ rfl,⟨rfl,rfl,rfl⟩,rfl,rfl,zg⟩
def azd:TE:=λ_ H Q=>∀p,H p=none->Q (.ref p) (upd H p (.dK []))
def aze:TE:=λ_ H Q=>∀p,H p=none->Q (.ref p) (upd H p (.dT []))
def am3:PE X (.Dict [] [] pos) azd:=λZ s G H Q I h =>
 wpAny_Dict_empty ⟨.ref s.heap.objs.size,_,I.laid (a:=s.heap.objs.size) (o:=.dK []) (t':=s.toks) (λ_ _ q=>ao _ q) (bf _) (am1 s.heap I.big),rfl,h _ (I.zb.fresh (bf _))⟩
def am4:PE X (.Dict [] [] pos) aze:=λZ s G H Q I h =>
 wpAny_Dict_empty ⟨.ref s.heap.objs.size,_,I.laid (a:=s.heap.objs.size) (o:=.dT []) (t':=s.toks) (λ_ _ q=>ao _ q) (bf _) (am2 s.heap I.big),rfl,h _ (I.zb.fresh (bf _))⟩
def azf(hu:A.units+1<cLine)(I:Inv X pins σ H s)(g:Nz H a y o)(ry:RelV y u)(rd:RelV d r)(h:∀w' s',Inv X pins σ H s'->RelV (o.getD d) w'->Q w' s') :
 wpAny (model X.prog X.w) A (call (.builtin "dict.get") [.ref a,u,r]) Q E s:=by
 rcases g with⟨jn,k,e,R,l⟩|⟨jn,k,b,e,R,eb,l⟩
 .subst R
  obtain⟨z,hd,vs,Z,G⟩:=Vv I.zb e;refine call_meetsIn PySem.F.slot_dict_get G.typeIs PySem.F.entry_dict_get (PySem.F.args_dict_get_3 _ _ _) (meets_dict_get_default (Bx X.prog X.w) a (X8 ry) hd r) ⟨_,G.mapOf,h _ _ (I.tok _) ?_⟩;rw[l];exact(Z.val k).getD rd
 .subst R
  cases(show u=Value.ref b from ry);obtain⟨z,hd,xs,Z,G⟩:=Yc I.zb e;refine call_meetsIn PySem.F.slot_dict_get G.typeIs PySem.F.entry_dict_get (PySem.F.args_dict_get_3 _ _ _) (meetsH_dict_get_default (tupleKind (Bx X.prog X.w)) a b hd r) ⟨wu hu,k,xs,Tc I.zb eb,G,h _ _ (I.tok _) ?_⟩;rw[l];exact(Z.val k).getD rd
def am5(I:Inv X pins σ H s)(e:Rd H a (.dK R))(h:∀p s',H p=none->Inv X pins σ (upd H p (.dK R)) s'->Q (.ref p) s'):wpAny (model X.prog X.w) A (call (.type "dict") [.ref a]) Q E s:=by
 obtain⟨z,hd,vs,Z,dd⟩:=Vv I.zb e;refine kt_call_dict hd dd (by rw[<- Z.length];exact z) λh' G hs=>?_
 refine h _ _ (I.zb.fresh (bf _)) (I.laid (a:=s.heap.objs.size) (o:=.dK R) (t':=s.toks) (λb q hq=>?_) (bf _) (am0 z (zm.mpr (j0 (gh I.big))) Z G));exact(hs.2 b (gh (bc hq))).trans (ao _ hq)
end L2
namespace HT
open PySem PyProof.Rows
noncomputable def sIx(n d:Nat):Option Int->Nat
 |none=>d|some v=>if v<0 then(v+(n:Int)).toNat else min v.toNat n
end HT
namespace L2
open PySem PySem.Spec PyProof.Rows
abbrev TO:=St->Hp->(Option Int->Hp->Prop)->Prop
def PO(X:Cx)(e:Option Expr)(t:TO):Prop :=
 ∀(Z:Zp)(s:Shared)(G:St)(H:Hp)(Q:Option Int->Hp->Prop),Inv X Z G H s->t G H Q ->
  wpAny (model X.prog X.w) X.A (evalPart e X.env) (λu s'=>∃o R,Inv X Z G R s'/\IsPart u o/\Q o R) X.xe s
def asf:TO:=λ_ H Q=>Q none H
def a5q(t:TE):TO:=λZ H Q=>t Z H λx G=>∃i,x=.int i/\Q (some i) G
def ash:PO X none asf:=by intro Z s G H Q I h;rw[evalPart_none];exact ak ⟨none,H,I,.none,h⟩
def asi(h:PE X e te):PO X (some e) (a5q te):=by
 intro Z s σ H Q I hw;rw[evalPart_some];refine Cv (h Z s σ H _ I hw) λu s1 z_=>?_
 obtain⟨x,H1,G,R,q1⟩:=z_;obtain⟨i,rfl,q⟩:=q1;obtain⟨t,rfl⟩:=R;exact⟨some i,H1,G,.int i t,q⟩
def SlR(X:Cx)(r:V->Option Int->Option Int->Hp->VK->Prop):Prop :=
 ∀(Z:Zp)(s:Shared)(σ:St)(H:Hp)(x:V)(v vl vu:Value)(G R:Option Int)(sl:Addr)(Q:VK),Inv X Z σ H s->RelV x v->s.heap.IsSliceOf sl vl vu .none->IsPart vl G->IsPart vu R->r x G R H Q ->
  ∃T id,typeLookup (.type T) "__getitem__" = pure (some (.builtin id))/\s.TypeIs v T/\wpAny (model X.prog X.w) X.A (getItem v (.ref sl)) (EP X Z σ Q) X.xe s
def tSl(r:V->Option Int->Option Int->Hp->VK->Prop)(te:TE)(tl R:TO):TE:=λZ H Q=>te Z H λx H1=>tl Z H1 λl G=>R Z G λu H3=>r x l u H3 Q
def am6{lo:Option Expr}(hr:SlR X r)(he:PE X e te)(hl:PO X lo tl)(hu:PO X hi th):PE X (.Subscript e (.Slice lo hi none p2) pos) (tSl r te tl th):=by
 intro Z s R H Q I h;refine Subscript_ (Cv (he Z s R H _ I h) λv s1 z_=>?_);obtain⟨x,H1,I1,r1,q1⟩:=z_;refine wpAny_Slice (Cv (hl Z s1 R H1 _ I1 q1) λvl s2 ⟨l,H2,I2,pl,q2⟩=>Cv (hu Z s2 R H2 _ I2 q2) λvu G z_=>?_);obtain⟨u,H3,I3,pu,q3⟩:=z_;rw[evalPart_none];refine ak ?_;have I4:Inv X Z R H3 { G with heap:=G.heap.push { cls:=.type "slice",data:=.fields #[vl,vu,.none] } }:=I3.kept (t':=G.toks) λb ob q=>ao _ q
 obtain⟨T,id,hT,ht,hg⟩:=hr Z { G with heap:=G.heap.push { cls:=.type "slice",data:=.fields #[vl,vu,.none] } } R H3 x v vl vu l u G.heap.objs.size Q I4 r1 (Heap.IsSliceOf.new ..) pl pu q3;show wpAny (model X.prog X.w) X.A (subscriptTail e (.Slice lo hi none p2) v (.ref G.heap.objs.size)) (EP X Z R Q) X.xe { G with heap:=G.heap.push { cls:=.type "slice",data:=.fields #[vl,vu,.none] } };exact tail_any (ops:=[.ref G.heap.objs.size,v]) ht hT hg (by with_unfolding_all rfl)
def ajb(Z:List V)(G R:Option Int):List V:=(Z.drop (HT.sIx Z.length 0 G)).take (HT.sIx Z.length Z.length R-HT.sIx Z.length 0 G)
def aby(Z:List V)(G R:Option Int):(ajb Z G R).length<=Z.length:=by
 unfold ajb;rw[List.length_take,List.length_drop]
 lia
end L2
namespace L2
open PySem PySem.Spec PyProof.Rows
noncomputable def ixN(n:Nat)(i:Int):Option Nat:=if 0<=i then(if i<n then some i.toNat else none) else if -(n:Int)<=i then some (i+n).toNat else none
def atI{α:Type}(Z:List α)(i:Int):Option α:=(ixN Z.length i).bind λj=>Z[j]?
def Zv(h:ixN n i=some j):seqIndex? i n=some j/\j<n/\-(n:Int)<=i/\i<n:=by
 unfold ixN at h
 by_cases G:0<=i
 .rw[dh G] at h
  by_cases Z:i<n
  .rw[dh Z] at h
   have e:i.toNat=j:=jd h;exact⟨by rw[seqIndex_of G Z,e],by lia,by lia,Z⟩
  .rw[cu Z] at h;cases h
 .rw[cu G] at h
  by_cases Z:-(n:Int)<=i
  .rw[dh Z] at h
   have e:(i+n).toNat=j:=jd h;exact⟨by rw[seqIndex_neg (by lia) Z,e],by lia,Z,by lia⟩
  .rw[cu Z] at h;cases h
def ag6(h:atI Z i=some v):∃j,seqIndex? i Z.length=some j/\Z[j]?=some v/\j<Z.length/\-(Z.length:Int)<=i/\i<Z.length:=by
 unfold atI at h;cases e:ixN Z.length i with
 |none=>rw[e] at h;cases h
 |some j =>
  rw[e] at h;obtain⟨G,h2,h3,R⟩:=Zv e;exact⟨j,G,h,h2,h3,R⟩
def Zw(b:Expr):Prop:=∀o i,subscripted b false o i=operate [o,i] (getItem o i)
def IxR(X:Cx)(r:R2):Prop :=
 ∀(R Z:Expr)(G:Zp)(s:Shared)(σ:St)(H:Hp)(x y:V)(v u:Value)(Q:VK),Inv X G σ H s->RelV x v->RelV y u->r x y H Q ->
  subscripted Z false v u=operate [v,u] (getItem v u)->wpAny (model X.prog X.w) X.A (subscriptTail R Z v u) (EP X G σ Q) X.xe s
def MtR(X:Cx)(id:String)(r:V->List V->Hp->VK->Prop):Prop :=
 ∀(Z:Zp)(s:Shared)(G:St)(H:Hp)(x:V)(R:List V)(v:Value)(us:Zl)(Q:VK),Inv X Z G H s->RelV x v->Vals R us->r x R H Q ->
  wpAny (model X.prog X.w) X.A (call (.builtin id) (v::us)) (EP X Z G Q) X.xe s
def a5s(G:IxR X r)(ha:PE X a ta)(hb:PE X b tb)(hs:Zw b):PE X (.Subscript a b pos) (tOp r ta tb):=by intro Z s σ H Q I h;exact Subscript_ (ay1 ha hb I h λv u s2 x y R I2 rx ry q=>G a b Z s2 σ R x y v u Q I2 rx ry q (hs _ _))
def bc5(K:Fg):R2:=λx y H Q=>∃p Z i v,x=.ref p/\y=.int i/\Hm K H p Z/\atI Z i=some v/\Q v H
def bc6(K:Fg):R2:=λx y H Q=>∃p Z i v,x=.ref p/\y=.int i/\Iu K H p Z/\atI Z i=some v/\Q v H
def Df:IxR X (bc5 X.K):=by
 intro qq R Z s σ H x y v u Q I rx ry h hs;obtain⟨p,xs,i,z,rfl,rfl,hq,he,q⟩:=h;cases rx;obtain⟨t,rfl⟩:=ry;obtain⟨yj,r,pl,hz⟩:=I.list hq;obtain⟨j,G,h2,h3,h4,h5⟩:=ag6 he;obtain⟨w,ew,qk⟩:=r.get h2;have hl:=r.length;have hn:=Zt;have fin:EP X Z σ Q w s:=⟨z,H,I,qk,q⟩
 by_cases h0:0<=i
 .have hj:i.toNat=j:=by
   rw[seqIndex_of h0 h5] at G;exact jd G
  exact item_listR pl.isList h0 (by lia) (by rw[hj];simpa using ew) fin hs
 .have hj:(i+(yj.toArray.size:Int)).toNat=j:=by
   rw[seqIndex_neg (by lia) h4] at G;rw[ie,<- hl];exact jd G
  exact subscriptTail_builtinR (x:=w) pl.isList.typeIs slot_list_getitem.lookup
   (wpAny_getItem_list_neg (Q:=λr s'=>r=w/\EP X Z σ Q r s') pl.isList (by lia) (by rw[ie]<;>lia) (by lia) (by rw[hj];simpa using ew) ⟨rfl,fin⟩) hs
def Jp:IxR X (bc6 X.K):=by
 intro R G Z s σ H x y v u Q I rx ry h hs;obtain⟨p,xs,i,z,rfl,rfl,hq,he,q⟩:=h;cases rx;obtain⟨t,rfl⟩:=ry;obtain⟨yj,r,pl,hz⟩:=I.tuple hq;obtain⟨j,h1,h2,h3,h4,h5⟩:=ag6 he;obtain⟨w,ew,qq⟩:=r.get h2;have hl:=r.length;have hn:=Zt;have fin:EP X Z σ Q w s:=⟨z,H,I,qq,q⟩;exact subscriptTail_builtinR (x:=w) pl.typeIs slot_tuple_getitem.lookup
  (getItem_tuple (j:=j) (Q:=λr s'=>r=w/\EP X Z σ Q r s') pl (by lia) (by lia) (by rw[ie,<- hl];exact h1) (by simpa using ew) ⟨rfl,fin⟩) hs
def ae9(Z:Zl)(n j:Nat)(u:Value):Obj.mapSeq (·.setIfInBounds j u) { cls:=.type "list",data:=.seq Z.toArray n }={ cls:=.type "list",data:=.seq (Z.set j u).toArray n }:=by simp[Obj.mapSeq]
theorem Inv.lst{X:Cx}{Z:Zp}{σ:St}{H:Hp}{s:Shared}{p:Addr}{R:List V}(I:Inv X Z σ H s)(h:H p=some (.lst R)) :
 ∃(G:Zl)(n:Nat),Vals R G/\s.heap.get? p=some { cls:=.type "list",data:=.seq G.toArray n }/\R.length<=sizeLine:=by
 obtain⟨z,G,n,r,e⟩:=I.zb p _ h;exact⟨G,n,r,e,z⟩
def Inv.azh{G:Zl}(I:Inv X pins σ H s)(h:H p=some (.lst xs))(ho:s.heap.get? p=some { cls:=.type "list",data:=.seq G.toArray n })(Z:f { cls:=.type "list",data:=.seq G.toArray n }={ cls:=.type "list",data:=.seq its'.toArray R })(r:Vals ys its')(hz:ys.length<=sizeLine)(t:Nat) :
 Inv X pins σ (upd H p (.lst ys)) { s with heap:=s.heap.update p f,toks:=t }:=by
 have e:(s.heap.update p f).get? p=some { cls:=.type "list",data:=.seq its'.toArray R }:=by rw[mq f ho (by rw[Z]<;>rfl),Z]
 refine I.write (x:=p) (e:=p) (by rw[h];trivial) (.inl rfl) (λb u hb q=>(ur _ _ (j0 hb)).trans q) ⟨_,e⟩ ?_;exact⟨hz,its',R,r,e⟩
def a5t:V->V->V->Hp->(Hp->Prop)->Prop:=λo i v H Q=>∃p Z k j,o=.ref p/\i=.int k/\H p=some (.lst Z)/\ixN Z.length k=some j/\Q (upd H p (.lst (Z.set j v)))
def set_list:ayv X a5t:=by
 intro Z s σ H o i v ov iv u Q I ro ri rv h;obtain⟨p,xs,k,j,rfl,rfl,hp,hj,q⟩:=h;cases ro;obtain⟨t,rfl⟩:=ri;obtain⟨yj,n,r,ho,hz⟩:=I.lst hp;obtain⟨G,h2,h3,h4⟩:=Zv hj;have R:=r.length;have hn:=Zt;have I':Inv X Z σ (upd H p (.lst (xs.set j v))) { s with heap:=s.heap.update p (Obj.mapSeq (·.setIfInBounds j u)) } :=
  I.azh hp ho (ae9 yj n j u) (r.set rv j) (by rw[List.length_set];exact hz) s.toks
 by_cases h0:0<=k
 .have hk:k.toNat=j:=by
   rw[seqIndex_of h0 h4] at G;exact jd G
  exact PySem.W.ki_setAt ho h0 (by lia) (by rw[ie,<- R];exact h4) (by rw[hk];exact⟨_,I',q⟩)
 .have hk:(k+(yj.toArray.size:Int)).toNat=j:=by
   rw[seqIndex_neg (by lia) h3] at G;rw[ie,<- R];exact jd G
  exact PySem.W.ki_setBack ho (by lia) (by rw[ie,<- R];exact h3) (by lia) (by rw[hk];exact⟨_,I',q⟩)
def Zx(Z G:Option Int)(n:Nat):(sliceBounds Z G none n).1=((HT.sIx n 0 Z:Nat):Int)/\(sliceBounds Z G none n).2.1=((HT.sIx n n G:Nat):Int)/\(sliceBounds Z G none n).2.2=1:=by
 refine⟨?_,?_,rfl⟩
 .cases Z with
  |none=>simp[sliceBounds,HT.sIx]
  |some i =>
   simp only[sliceBounds,HT.sIx,Option.getD_none,show(1:Int) > 0 by decide,o5]
   by_cases h:i<0
   .simp only[h,o5]<;>lia
   .simp only[h,kj]<;>lia
 .cases G with
  |none=>simp[sliceBounds,HT.sIx]
  |some i =>
   simp only[sliceBounds,HT.sIx,Option.getD_none,show(1:Int) > 0 by decide,o5]
   by_cases h:i<0
   .simp only[h,o5]<;>lia
   .simp only[h,kj]<;>lia
def W8(Z:Zl)(G R:Option Int):slicePick Z.toArray G R none=((Z.drop (HT.sIx Z.length 0 G)).take (HT.sIx Z.length Z.length R-HT.sIx Z.length 0 G)).toArray:=by obtain⟨h1,h2,h3⟩:=Zx G R Z.toArray.size;unfold slicePick;rw[h1,h2,h3];simp only[sliceRange_one,pick_run,ie]<;>rfl
def a5u(K:Fg):V->Option Int->Option Int->Hp->VK->Prop:=λx G R H Q=>∃a Z,x=.ref a/\Hm K H a Z/\∀p,H p=none->Q (.ref p) (upd H p (.lst (ajb Z G R)))
def asj:SlR X (a5u X.K):=by intro qq s σ H x v vl vu R hi sl Q I rx hs pl pu h;obtain⟨a,G,rfl,hx,q⟩:=h;cases rx;obtain⟨yj,r,ht,hz⟩:=I.list hx;have Z:=r.length;refine⟨"list",_,slot_list_getitem.lookup,ht.isList.typeIs,?_⟩;refine wpAny_getItem_list_slice ht.isList hs pl pu .none (by simp) ?_ (by rw[ie]<;>exact a_ (g_ Z) hz);rw[W8,<- Z];refine⟨.ref s.heap.objs.size,_,I.laid (t':=s.toks) (o:=.lst (ajb G R hi)) (λb ob q=>ao _ q) (bf _) ?_,rfl,q _ (I.zb.fresh (bf _))⟩;exact⟨ig (aby G R hi) hz,_,0,(r.drop (HT.sIx G.length 0 R)).take (HT.sIx G.length G.length hi-HT.sIx G.length 0 R),bh _ rfl⟩
def Zy:Bv X (.builtin "len") (λxs H Q=>∃p G,xs=[.ref p]/\(Hm X.K H p G\/Iu X.K H p G)/\Q (.int G.length) H):=by
 intro qq s σ H xs us Q I r h;obtain⟨p,G,rfl,R,q⟩:=h;obtain⟨u,rfl,rx⟩:=vals1 r;cases rx;have hn:=Zt;rcases R with R|R
 .obtain⟨yj,r',pl,hz⟩:=I.list R
  have Z:=r'.length;exact Calls.call_len_list pl.isList (by simp only[ie]<;>lia) ⟨.int G.length,H,I.tok _,⟨s.toks+1,by rw[ie,Z]⟩,q⟩
 .obtain⟨yj,r',pl,hz⟩:=I.tuple R
  have Z:=r'.length;exact len_tuple pl (by simp only[ie]<;>lia) ⟨.int G.length,H,I.tok _,⟨s.toks+1,by rw[ie,Z]⟩,q⟩
def Zz:Bv X (.type "list") (λxs H Q=>∃p ys,xs=[.ref p]/\(Hm X.K H p ys\/Iu X.K H p ys)/\∀l,H l=none->Q (.ref l) (upd H l (.lst ys))):=by
 intro qq s σ H xs us Q I r h;obtain⟨p,ys,rfl,hq,q⟩:=h;obtain⟨u,rfl,rx⟩:=vals1 r;cases rx;have fin:∀(R:Zl),Vals ys R->ys.length<=sizeLine->∀(G:Heap)(c':Nat),(∀b o',s.heap.get? b=some o'->G.get? b=some o') ->
  G.get? s.heap.objs.size=some { cls:=.type "list",dict:=none,data:=.seq R.toArray c',slots:=#[] }->EP X qq σ Q (.ref s.heap.objs.size) { s with heap:=G }:=λR r' hz G c' kp e =>
  ⟨.ref s.heap.objs.size,_,I.laid (t':=s.toks) kp (bf _) (show Aj X.prog X.w _ G _ (.lst ys) from⟨hz,R,c',r',e⟩),rfl,q _ (I.zb.fresh (bf _))⟩
 rcases hq with hq|hq
 .obtain⟨R,r',pl,hz⟩:=I.list hq
  have Z:=r'.length;obtain⟨o,ho,hc,n,hd⟩:=pl.isList;exact call_list_seq p (.inl rfl) ho hc hd (λG c' kp e=>fin R r' hz G c' kp e) (by simp only[ie]<;>exact a_ (g_ Z) hz)
 .obtain⟨R,r',pl,hz⟩:=I.tuple hq
  have Z:=r'.length;obtain⟨o,ho,hc,n,hd⟩:=pl;exact call_list_seq p (.inr rfl) ho hc hd (λG c' kp e=>fin R r' hz G c' kp e) (by simp only[ie]<;>exact a_ (g_ Z) hz)
def W9:Bv X (.type "tuple") (λxs H Q=>∃p G,xs=[.ref p]/\((Hm X.K H p G/\∀l,H l=none->Q (.ref l) (upd H l (.tup G)))\/(Iu X.K H p G/\Q (.ref p) H))):=by
 intro Z s σ H xs us Q I r h;obtain⟨p,G,rfl,h⟩:=h;obtain⟨u,rfl,rx⟩:=vals1 r;cases rx;rcases h with⟨hq,q⟩|⟨hq,q⟩
 .obtain⟨yj,r',pl,hz⟩:=I.list hq
  have R:=r'.length;refine call_tuple_list pl.isList (λh' kp=>?_) (by simp only[ie]<;>exact a_ (g_ R) hz);have I1:Inv X Z σ H { s with heap:=h' }:=I.kept (t':=s.toks) kp;have I2:Inv X Z σ (upd H h'.objs.size (.tup G)) { s with heap:=h'.push { cls:=.type "tuple",data:=.seq yj.toArray } } :=
   I1.laid (t':=s.toks) (λb o e=>ao _ e) (bf _) (show Aj X.prog X.w _ _ _ (.tup G) from⟨hz,yj,r',W5.new _ _⟩)
  exact⟨.ref h'.objs.size,_,I2,rfl,q _ (I1.zb.fresh (bf _))⟩
 .obtain⟨yj,r',pl,hz⟩:=I.tuple hq
  exact call_tuple_same pl ⟨.ref p,H,I,rfl,q⟩
def tyV(K:Fg)(T:String)(x:V)(H:Hp):Prop:=match x with
 |.str _=>T = "str"|.int _=>T = "int"
 |.ref p=>(T = "list"/\∃G,Hm K H p G)\/(T = "tuple"/\∃o,K.lookup p=some o/\o.cls=.type "tuple"/\o.dict=none) \/
  (T = "dict"/\((∃Z,H p=some (.dK Z))\/∃Z,H p=some (.dT Z)))\/(T = "set"/\∃S n,H p=some (.set S n))
 |_=>False
def azi(I:Inv X pins σ H s)(r:RelV x v)(R:tyV X.K T x H) :
 s.TypeIs v T/\∀a,v=.ref a->∃ob,s.heap.get? a=some ob/\ob.dict=none:=by
 cases x with
 |str z =>
  obtain⟨t,rfl⟩:=r;cases(show T = "str" from R);exact⟨typeIs_str s z t,λ_ e=>nomatch e⟩
 |int i =>
  obtain⟨t,rfl⟩:=r;cases(show T = "int" from R);exact⟨typeIs_int s i t,λ_ e=>nomatch e⟩
 |ref p =>
  cases r;rcases R with⟨rfl,xs,hq⟩|⟨rfl,o,Z,hc,hd⟩|⟨rfl,Z⟩|⟨rfl,S,n,Z⟩
  .obtain⟨yj,_,pl,_⟩:=I.list hq
   refine⟨pl.isList.typeIs,λa e=>?_⟩;cases e;obtain⟨o,n,e,c,hd,_⟩:=pl;exact⟨o,e,hd⟩
  .refine⟨⟨o,I.Wz p o Z,hc⟩,λa e=>?_⟩
   cases e;exact⟨o,I.Wz _ o Z,hd⟩
  .have z:∃o,s.heap.get? p=some o/\o.ExactDict:=by
    rcases Z with⟨jn,Z⟩|⟨jn,Z⟩
    .obtain⟨_,_,_,_,o,_,_,e,G,_⟩:=I.zb p _ Z
     exact⟨o,e,G⟩
    .obtain⟨_,_,_,_,o,_,_,e,G,_⟩:=I.zb p _ Z
     exact⟨o,e,G⟩
   obtain⟨o,e,G⟩:=z;refine⟨⟨o,e,G.1⟩,λa e2=>?_⟩;cases e2;exact⟨o,e,G.2.1⟩
  .obtain⟨o,_,_,_,e,G,_⟩:=I.zb p _ Z
   refine⟨⟨o,e,G.1⟩,λa e2=>?_⟩;cases e2;exact⟨o,e,G.2.1⟩
 |_=>exact False.elim R
def tBM(K:Fg)(T:String)(r:V->List V->Hp->VK->Prop)(to:TE)(t:TA):TE:=λG H Q=>to G H λx Z=>tyV K T x Z/\t G Z λxs R=>r x xs R Q
theorem a5v{id:String}(pa:PlainAttrs T)(qq:Slot T name id)(q0:typeOf (.builtin id)=pure (.type "method_descriptor"))(hm:MtR X id r)(ho:PE X o to)(ha:PA X (e::G) t)(qv:attributeBase o name X.env (eval o X.env)=eval o X.env:=by rfl)(q3:((backTo R (starEach (e::G) X.env)).all (λx=>!x.1)&&(backToKw R (keywordEach [] X.env)).all (λx=>x.1.isSome)
&&decide ((e::G).length+([]:List Keyword).length+(if([]:List Keyword).isEmpty then 0 else 1)<30))=true:=by rfl)(qk:(apos.endLine==R.line)=true:=by rfl)(hs:starEach (e::G) X.env=(false,eval e X.env)::starEach G X.env:=by rfl)(Vw:(backTo R (starEach G X.env)).any (·.1)=false:=by rfl) :
 PE X (.Call (.Attribute o name apos) (e::G) [] R) (tBM X.K T r to t):=by
 intro Z s σ H Q I h;refine wpAny_Call_method_late qv q3 qk rfl (Cv (ho Z s σ H _ I h) λv s1 z_=>?_);obtain⟨x,H1,I1,r1,ty,q1⟩:=z_;obtain⟨h1,h2⟩:=azi I1 r1 ty;refine⟨T,id,pa,qq,q0,h1,h2,?_⟩;have hA:=ha R Z s1 σ H1 _ I1 q1;rw[hs] at hA ⊢;refine Calls.callWith_builtin (by show(false||(backTo R (starEach G X.env)).any (·.1))=false;rw[Vw]<;>rfl) (Calls.evalArgs_plain ?_);exact Cv hA λus s2 ⟨vs,H2,I2,r2,q2⟩=>hm Z s2 σ H2 x vs v us Q I2 r1 r2 q2
end L2
namespace L2
open PySem PySem.Spec PyProof.Rows
def MtM(X:Cx)(id:String)(r:V->List V->Hp->VK->Prop):Prop :=
 ∀(Z:Zp)(s:Shared)(G:St)(H:Hp)(x:V)(R:List V)(v:Value)(us:Zl)(Q:VK),Inv X Z G H s->RelV x v->Vals R us->r x R H Q ->
  wpAny (model X.prog X.w) X.A (call (.builtin id) (v::us)) (EP X Z G Q) X.xe s
theorem Vals.one:∀{x:V}{Z:Zl},Vals [x] Z->∃u,Z=[u]/\RelV x u
 |_,_,.cons r .nil=>⟨_,rfl,r⟩
theorem Vals.eraseIdx:∀{Z:List V}{G:Zl}(i:Nat),Vals Z G->Vals (Z.eraseIdx i) (G.eraseIdx i)
 |_,_,_,.nil=>.nil|_,_,0,.cons _ t=>t|_,_,i+1,.cons r t=>.cons r (Vals.eraseIdx i t)
theorem Ye{Z:Type}:∀(l:List Z)(i:Nat),(l.eraseIdx i).length<=l.length
 |[],_=>bf _|_::_,0=>vy _|_::r,i+1=>Nat.succ_le_succ (Ye r i)
def Inv.a5w{Z:Zl}(I:Inv X pins σ H s)(hH:H l=some (.lst xs))(e:s.heap.get? l=some { cls:=.type "list",data:=.seq Z.toArray n })(R:f Z.toArray=its'.toArray)(hv:Vals G its')(hz:G.length<=sizeLine) :
 Inv X pins σ (upd H l (.lst G)) { s with heap:=s.heap.update l (Obj.mapSeq f),toks:=t' }:=by
 have q:=PySem.IsL.update e f;rw[R] at q;refine I.write (x:=l) (e:=l) (by rw[hH];exact trivial) (.inl rfl) (λb' u hb hu=>(ur s.heap (Obj.mapSeq f) (j0 hb)).trans hu) ⟨_,q⟩ ?_;exact⟨hz,its',_,hv,q⟩
def Inv.bc7(I:Inv X pins σ H s)(hv:Vals Z G)(R:Z.length<=sizeLine) :
 Inv X pins σ (upd H s.heap.objs.size (.lst Z)) { s with heap:=s.heap.push { cls:=.type "list",data:=.seq G.toArray },toks:=t' } :=
 I.laid (λ_ _ q=>ao _ q) (bf _) ⟨R,G,0,hv,bh _ rfl⟩
theorem Inv.fresh(I:Inv X pins σ H s):H s.heap.objs.size=none:=I.zb.fresh (bf _)
def Inv.ajc(I:Inv X pins σ H s)(R:H l=some (.lst G)):G.length<=sizeLine/\∃(Z:Zl)(n:Nat),Vals G Z/\G.length=Z.length/\s.heap.get? l=some { cls:=.type "list",data:=.seq Z.toArray n }:=by obtain⟨z,Z,n,r,e⟩:=I.zb l _ R;exact⟨z,Z,n,r,r.length,e⟩
def asl:V->List V->Hp->VK->Prop:=λx G H Q=>∃l Z y,x=.ref l/\G=[y]/\H l=some (.lst Z)/\Z.length<sizeLine/\Q .non (upd H l (.lst (Z++[y])))
def Yg:MtM X "list.append" asl:=by intro qq s σ H x vs v us Q I rx rv h;obtain⟨l,xs,y,rfl,rfl,G,R,q⟩:=h;cases rx;obtain⟨u,rfl,ru⟩:=rv.one;obtain⟨z,Z,n,r,hl,e⟩:=I.ajc G;refine call_meets F.slot_list_append ⟨_,e,rfl⟩ F.entry_list_append (F.args_list_append_2 _ _) (PySem.list_append l Z.toArray n u (by rw[ie];exact e_ (c_ (g_ hl) R))) ⟨e,?_⟩;refine⟨.non,_,I.a5w (its':=Z++[u]) G e (by simp) (r.append (.cons ru .nil)) ?_,rfl,q⟩;rw[v7,List.length_singleton];exact R
def azj:V->List V->Hp->VK->Prop:=λx G H Q=>∃l Z i k y,x=.ref l/\G=[.int i]/\H l=some (.lst Z)/\-(2 ^ 63)<=i/\i<2 ^ 63/\seqIndex? i Z.length=some k/\Z[k]?=some y/\Q y (upd H l (.lst (Z.eraseIdx k)))
def am8:MtM X "list.pop" azj:=by
 intro qq s σ H x vs v us Q I rx rv h;obtain⟨l,xs,i,k,y,rfl,rfl,R,h1,h2,hk,hy,q⟩:=h;cases rx;obtain⟨u,rfl,ru⟩:=rv.one;obtain⟨t,rfl⟩:=ru;obtain⟨z,Z,n,r,hl,e⟩:=I.ajc R;obtain⟨w,hw,G⟩:=r.get hy;refine call_meets F.slot_list_pop ⟨_,e,rfl⟩ F.entry_list_pop (F.args_list_pop_2 _ _)
  (MeetsSeq.list_pop_at l Z.toArray n i t k w (fitsIndex_both h1 h2) (by rw[ie,<- hl];exact hk) (by rw[<- m6];exact hw) (by rw[ie];exact a_ (g_ hl) z)) ⟨e,?_⟩
 refine⟨y,_,I.a5w (its':=Z.eraseIdx k) R e ?_ (r.eraseIdx k) ?_,G,q⟩
 .show Z.toArray.eraseIdxIfInBounds k=(Z.eraseIdx k).toArray
  rw[List.eraseIdxIfInBounds_toArray]
 .have:=Ye xs k
  exact a_ this z
def a5x:R2:=λx y H Q=>∃l b Z G,x=.ref l/\y=.ref b/\H l=some (.lst Z)/\H b=some (.lst G)/\Z.length+G.length<=sizeLine/\∀p,H p=none->Q (.ref p) (upd H p (.lst (Z++G)))
def azk:Dz X (binaryOp .Add) a5x:=by
 intro R s σ H x y v u Q I rx ry h;obtain⟨l,b,xs,zs,rfl,rfl,hH,hB,hz,q⟩:=h;cases rx;cases ry;obtain⟨z,G,n,r,hl,e⟩:=I.ajc hH;obtain⟨z2,Z,n2,r2,qq,e2⟩:=I.ajc hB;refine PySem.P.add_list e e2 ?_ (by rw[ie,ie];lia);have ea:G.toArray++Z.toArray=(G++Z).toArray:=by simp
 rw[ea];exact⟨.ref _,_,I.bc7 (t':=s.toks) (r.append r2) (by rw[v7];exact hz),rfl,q _ I.fresh⟩
end L2
namespace Att
open PySem PySem.W PySem.Calls PyProof.Rows
def Ut:∀(ns:X9)(Z:Zl),WellAll P h Z (ns.map WData.int)->IntsAre Z ns:=by
 intro ns
 induction ns with
 |nil =>
  intro Z w;rw[List.map_nil] at w;cases w;exact .nil
 |cons n ns G =>
  intro Z w;rw[iz] at w;cases w with
  |cons a b =>
   cases a;exact .cons _ _ (G _ b)
def ajd{l:OpenLaw}(hn:l.most=some n)(R:l.row.toRowW.claim.pre args=true)(qk:WellAll P h vals args) :
 ∃a vs Z,vals=[Value.ref a]/\args=[WData.list (Z.map WData.int)]/\h.get? a=some { cls:=.type "list",data:=.seq vs.toArray }/\IntsAre vs Z/\Z.length<=n:=by
 have qq:WShape.hasAll [] args [.list .int]=true:=(pre_splitW R).1;have hc:l.pre.holds [] { args:=args }=true:=(pre_splitW R).2;obtain⟨d,r,rfl,h1,h2⟩:=hasAllW_cons qq;obtain rfl:=hasAllW_nil h2;obtain⟨xs,rfl,h3⟩:=hasW_list h1;obtain⟨Z,rfl⟩:=items_int h3;have G:Z.length<=n:=by
  unfold OpenLaw.pre at hc;have h4:(WTm.not (.lt (.lit (.int (n:Int))) (.len (.arg 0)))).holds [] { args:=[.list (Z.map .int)] }=true:=by have h4:=(holds_andW hc).1;rw[hn] at h4;exact h4
  have h5:=condW_of h4 (w_not (w_lt w_lit (w_len_list (w_arg rfl))));rw[gf] at h5;refine Nat.le_of_not_lt λq=>?_
  have q':(n:Int)<((Z.length:Nat):Int):=m_ q
  first
   |(rw[Al q'] at h5;exact absurd h5 (by decide))
   |(simp at h5;omega)
 cases qk with
 |cons w1 w2 =>
  cases w2;cases w1 with
  |list ho Jv=>exact⟨_,_,Z,rfl,rfl,ho,Ut Z _ Jv,G⟩
def aje(l:OpenLaw)(Z:List WData):l.row.toRowW.claim.post Z (.bool true) Z=true :=
 postW_of (r:=l.row.toRowW) (X:=(true==true))
  (show WShape.has [] (.bool true) .bool=true by first|rfl|decide|simp[WShape.has,WShape.arms,WShape.armsAll])
  (show(WTm.eq .res (.lit (.bool true))).value [] { args:=Z,res:=some (.bool true),after:=Z }=some (.bool (true==true)) from w_eq_bool (w_res rfl) w_lit) rfl
def ab1{l:OpenLaw}(hn:l.most=some n)(q2:d.params.defaults=[])(call:∀(w:World) (R Z:Shared) (mg mb:Zs) (fa:Addr) (o:Obj) (pm cd qq:Value) (a:Addr) (vs:Zl) (ns:X9),
 Ground q loose [] XP w R mg mb Z.heap->YP w Z.heap ->
 Z.heap.get? fa=some o->o.data=.func (docDef d.name d.params d.body d.scope pm cd qq)->Z.heap.CodeRec cd d.name->mg d.name=some (.ref fa) ->
 Z.heap.get? a=some { cls:=.type "list",data:=.seq vs.toArray }->IntsAre vs ns->ns.length<=n->Z.gens=#[] ->
 codeAny (model l.prog w) callerA (.call (.ref fa) ⟨[.ref a],[]⟩) (λr s'=>r=.ok (.ret (.bool true))/\OldK Z.heap s'.heap/\s'.os=Z.os/\AllBare s'.gens) Z) :
 WalkO q loose XP YP l.row.toRowW d [] (λf vs=>PySem.call f vs):=by
 intro w R Z mg mb G Y fa o pm cd qq dV kV ho hd Xz hD q3 hg q6 q5 as q0 zq q8 q4 q7;obtain rfl:dV=.none:=Dflts.none hD q2;obtain rfl:kV=.none:=Dflts.noKw hD;obtain⟨a,vs,ns,rfl,rfl,q1,qk,qv⟩:=ajd hn q0 q4;refine enter_call (uw (call w R Z mg mb fa o pm cd qq a vs ns G Y ho (fd_plain hd) Xz q3 q1 qk qv hg) λr s' hq=>?_);obtain⟨rfl,h2,h3,h4⟩:=hq;exact⟨.inl ⟨.bool true,.bool true,[],rfl,λ_=>rfl,.bool true,aje l _,λ_=>⟨List.Pairwise.nil,λ_ hm=>(nomatch hm)⟩⟩,h2,h3,h4⟩
end Att
namespace L2
open PySem PySem.Spec PyProof.Rows
theorem Yh:∀{G:Zl}{Z:X9},IntsAre G Z->Vals (Z.map V.int) G
 |_,_,.nil=>.nil|_,_,.cons n t h=>.cons ⟨t,rfl⟩ (Yh h)
end L2
namespace L2
open PySem PySem.Spec PyProof.Rows
end L2
namespace L2
open PySem PySem.Spec PyProof.Rows
noncomputable def Dt(s:Stmt):Arguments:=match s with
 |.FunctionDef _ a _ _ _ _ _ _ _ _=>a|_=>{ posonlyargs:=[],args:=[],vararg:=none,kwonlyargs:=[],kw_defaults:=[],kwarg:=none,defaults:=[] }
noncomputable def Bs(s:Stmt):List Stmt:=match s with
 |.FunctionDef _ _ b _ _ _ _ _ _ _=>b|_=>[]
noncomputable def my(s:Stmt):Scope:=match s with
 |.FunctionDef _ _ _ _ _ _ sc _ _ _=>sc|_=>{ kind:=.function,names:=[],isGenerator:=false,isCoroutine:=false }
abbrev CX0:CXT:=λ_ _ _ _ _ _=>False
abbrev E0:XK:=λ_ _ _=>False
def a6a:Passes CX0 X E0:=λ_ _ _ _ _ _ _ h=>h.elim
structure Fun(K:Fg)(x qual:Str)(st:Stmt)(f:Addr)(fd:FuncData):Prop where
 ex:∃(oc:Value)(od:Option Addr)(kV doc pm:Value)(an:Option Addr)(cdv ct:Value)(osl:Array (Option Value)),
  fd=PySem.W.fnOf x qual (Dt st) (Bs st) (my st) .none kV doc pm an cdv ct/\K.lookup f=some ⟨oc,od,.func fd,osl⟩/\PySem.W.codeIn K cdv qual=true
 kp:PySem.W.keepIn K (.ref f)=true
def Fun.binds{K:Fg}{st:Stmt}(F:Fun K x qual st f fd)(h:∀(kV G R:Value) (an:Option Addr) (Z ct:Value) (us:Zl),us.length=ps.length->bindArgs (PySem.W.fnOf x qual (Dt st) (Bs st) (my st) .none kV G R an Z ct) ⟨us,[]⟩=pure (ps.zip us)):Binds K fd ps []:=by obtain⟨oc,od,kV,G,R,an,Z,ct,qq,rfl,lk,Xz⟩:=F.ex;exact .all (h kV G R an Z ct)
def Z0{K:Fg}{st:Stmt}{f:Addr}{oc:Value}{od an:Option Addr}{R:Array (Option Value)}{kV G pm Z ct:Value}(l:K.lookup f=some ⟨oc,od,.func (PySem.W.fnOf x qual (Dt st) (Bs st) (my st) .none kV G pm an Z ct),R⟩)(c:PySem.W.codeIn K Z qual=true)(k:PySem.W.keepIn K (.ref f)=true):Fun K x qual st f (PySem.W.fnOf x qual (Dt st) (Bs st) (my st) .none kV G pm an Z ct):=⟨⟨oc,od,kV,G,pm,an,Z,ct,R,rfl,l,c⟩,k⟩
def ab2{A:Around}{k:Nat}(Z:Ah k A):A.units+1<cLine:=Bg (Nat.add_le_add_left (by decide:1<=64) _) Z.units
end L2
namespace L2
open PySem PySem.Spec PyProof.Rows
noncomputable def grd(h:Heap)(S:X0):Heap:=⟨h.objs.mapIdx λi o=>if i∈S then{ o with data:=.freed } else o,h.life⟩
def Td{h:Heap}{S:X0}{b:Addr}(Z:b∈S):(grd h S).get? b=none:=by
 unfold Heap.get? grd;rw[Array.getElem?_mapIdx];cases h.objs[b]? with
 |none=>rfl|some o=>simp[Z]
def Z3{h:Heap}{S:X0}{b:Addr}(Z:b∉S):(grd h S).get? b=h.get? b:=by
 unfold Heap.get? grd;rw[Array.getElem?_mapIdx];cases h.objs[b]? with
 |none=>rfl|some o=>simp[Z]
def Te(h:Heap)(S:X0):(grd h S).StaysIn h:=λb o e=>by
 by_cases Z:b∈S
 .rw[Td Z] at e;cases e
 .rw[Z3 Z] at e;exact e
def Vx{h:Heap}{S:X0}{b:Addr}(e:(grd h S).get? b=none):b∈S\/h.get? b=none:=by
 by_cases Z:b∈S
 .exact .inl Z
 .rw[Z3 Z] at e;exact .inr e
theorem Q7{h Z:Heap}{S:X0}:∀{l:List Env},(∀b∈Hl l,b∈S)->h.FunFrames Z l->h.FunFrames (grd h S) l
 |[],_,_=>trivial
 |env::l,hs,⟨hk,⟨L,o,hf,hn,ho,hd⟩,hr⟩=>by
  have R:L∈S:=hs L (by simp[Hl,hf]);refine⟨hk,⟨L,o,hf,Td R,ho,hd⟩,Q7 (λb G=>hs b ?_) hr⟩;simp only[Hl,Aw,hf];exact bx _ G
structure Trc(h:Heap)(e T:Addr)(cls a0:Value):Prop where
 x:∃oe vs oT ts,h.get? e=some oe/\(oe.cls=cls/\vs[0]?=some a0)/\oe.data=.fields vs/\vs[1]?=some (.ref T)/\T≠e/\h.get? T=some oT/\oT.data=.fields ts/\ts[3]?=some .none
structure Lv(fr S:X0)(h h':Heap):Prop where
 keep:∀b o,h.get? b=some o->b∉fr->b∉S->h'.get? b=some o
 slot:∀b o,h.get? b=some o->b∈fr->∃sl,h'.get? b=some { o with slots:=sl }
def Vy{h Z:Heap}{l:List Env}(R:h.FunFrames Z l){b:Addr}(G:b∈Hl l):∃o,h.get? b=some o/\∀vs,o.data≠.fields vs:=(R.mem G).2
section
variable{M:Model}{A:Around}{E:Y1}{s:Shared}
theorem anb{Z h R:Heap}{l:List Env}{S:X0}(hl:h.FunFrames Z l)(st:(grd h (Hl l++S)).StaysIn R)(up:h.UpToSlots R):Lv (Hl l) S h R where
 keep:=λb o e G h2=>st b o (by rw[Z3];exact e;intro q;rcases dz.mp q with q|q;exact G q;exact h2 q)
 slot:=λb o e G=>by obtain⟨o',e',nf⟩:=Vy hl G;rw[e] at e';cases e';exact up b o e nf
def afa{R h:Heap}{G:Env}{Z:List Env}{L e:Addr}{qq:Value}{qv:Zl}{Q:Unit->Shared->Prop}
 (q3:A.frames=some (G::Z)) (hf:G.frame=some L) (hl:h.FunFrames R (G::Z)) (hx:Heap.MadeExcOf h s.heap e qq qv)
 (hQ:∀h' T t,Trc h' e T qq (.ref t)->h.get? T=none->h'.FunFrames (grd h (Hl (G::Z))) Z->Lv (Hl (G::Z)) [] h h'->Q () { s with heap:=h' }):wpAny M A (leaving G (.ref e)) Q E s:=by
 have q4:=Q7 (S:=Hl (G::Z)) (λb hb=>hb) hl;refine wpAny_leaves_madeW q3 hf (Te h (Hl (G::Z))) q4 hx λh' t q0 q6 _ up=>?_
 obtain⟨k1,k2,k3,oe,vs,T,oT,ts,he,hc,hd,h1,q5,q1,hT,qk,h3⟩:=q0;refine hQ h' T t ⟨oe,vs,oT,ts,he,hc,hd,h1,q1,hT,qk,h3⟩ ?_ k3 ?_
 .rcases Vx q5 with q|q
  .exfalso
   obtain⟨o,ho,nf⟩:=Vy hl q;obtain⟨sl,e2⟩:=up T o (hx.keeps T o ho) nf;rw[hT] at e2;cases e2;exact nf ts qk
  .exact q
 .have q2:h.UpToSlots h':=λb o e nf=>up b o (hx.keeps b o e) nf
  exact anb (S:=[]) hl (by rw[lg];exact k1) q2
def ane{q0:Heap}{G:Env}{Z:List Env}{L e T:Addr}{q1 a0:Value}{Q:Unit->Shared->Prop}
 (zk:A.frames=some (G::Z)) (hf:G.frame=some L) (hl:s.heap.FunFrames q0 (G::Z)) (F:Trc s.heap e T q1 a0)
 (hQ:∀R T',Trc R e T' q1 a0->(T'=T\/s.heap.get? T'=none)->R.FunFrames (grd s.heap (Hl (G::Z)++[e,T])) Z->Lv (Hl (G::Z)) [e,T] s.heap R->Q () { s with heap:=R }):wpAny M A (leaving G (.ref e)) Q E s:=by
 obtain⟨oe,vs,oT,ts,he,hc,hd,h1,q6,hT,zw,h3⟩:=F.x;have z0:=Q7 (S:=Hl (G::Z)++[e,T]) (λb hb=>o7 _ hb) hl;refine wpAny_leaves_onW zk hf ⟨Te _ _,Td (by simp),z0,oe,vs,T,oT,ts,he,hc,hd,h1,Td (by simp),q6,hT,zw,h3⟩ λR q4 up=>?_
 obtain⟨k1,k2,k3,z2,q5,T',zq,qk,z1,q7,q8,zv,zz,qv,q2,qq,q3⟩:=q4;refine hQ R T' ⟨z2,q5,zq,qk,z1,q7,q8,zv,qv,q2,qq,q3⟩ ?_ k3 (anb hl k1 up);rcases Vx zz with q|q
 .rcases dz.mp q with q|q
  .exfalso
   obtain⟨o,ho,nf⟩:=Vy hl q;obtain⟨sl,e2⟩:=up T' o ho nf;rw[q2] at e2;cases e2;exact nf qk qq
  .simp at q
   rcases q with q|q
   .exact absurd q qv
   .exact .inl q
 .exact .inr q
end
structure Flt(h₀:Heap)(H:Hp)(h:Heap)(e T:Addr)(cls a0:Value):Prop where
 t:Trc h e T cls a0
 ne:h₀.get? e=none
 nT:h₀.get? T=none
 he:H e=none
 hT:H T=none
def CXE(P:Program)(w:World):CXT:=λZ H s E v G=>∃e T R a0 H',v=.ref e/\G.os=s.os/\AllBare G.gens/\Un (Hl Z) [] H H' s.heap G.heap/\Ml P w H' G.heap/\Flt s.heap H' G.heap e T R a0/\E R none H'
def XOn(X:Cx)(E:XK):Prop:=∀(Z:Zp)(R:St)(H:Hp)(s:Shared)(e T:Addr)(G a0:Value),Inv X Z R H s->Flt X.s₀.heap H s.heap e T G a0->(∀p∈X.pn++Z,p.1≠e/\p.1≠T)->E G none H->X.xe (.ref e) s
def ani(X:Cx)(E:XK):Prop:=∀(G:Zp)(σ:St)(H:Hp)(s:Shared)(h':Heap)(e:Addr)(R:Value)(Z:Zl),Inv X G σ H s->Heap.MadeExcOf s.heap h' e R Z->E R none H->X.xe (.ref e) { s with heap:=h' }
def Kf{X:Cx}{Z:Zp}{G:St}{H:Hp}{s:Shared}(I:Inv X Z G H s)(R:X.ex=[])(h:s.heap.get? b=none):X.s₀.heap.get? b=none:=by
 cases q:X.s₀.heap.get? b with
 |none=>rfl
 |some o =>
  obtain⟨o',e⟩:=I.base.there b o q (by rw[R];simp);rw[h] at e;cases e
def awf{X:Cx}{E:XK}(hx:X.ex=[])(h:XOn X E):Passes (CXE X.prog X.w) X E:=λZ σ H s v s' I hh=>by
 obtain⟨e,T,R,a0,H',rfl,os,G,un,zb,F,q⟩:=hh;have J:Inv X Z σ H' s':=I.call' (ch:=[]) os un zb G (λb z=>absurd z (by simp));exact h Z σ H' s' e T R a0 J ⟨F.t,Kf I hx F.ne,Kf I hx F.nT,F.he,F.hT⟩ (λp hp=>by
  have z:=(I.pin p hp).1;refine⟨λq=>?_,λq=>?_⟩
  .rw[q,F.ne] at z;cases z
  .rw[q,F.nT] at z;cases z) q
def anj{P:Program}{w:World}{H:Hp}{h:Heap}{a:Addr}{o:HO}(x:Aj P w H h a o):∃u,h.get? a=some u:=by
 cases o with
 |lst G=>obtain⟨_,_,_,_,e⟩:=x;exact⟨_,e⟩
 |tup G=>obtain⟨_,_,_,_,e,_⟩:=x;exact⟨_,e⟩
 |dK Z=>obtain⟨_,_,_,_,_,_,_,e,_⟩:=x;exact⟨_,e⟩
 |dT Z=>obtain⟨_,_,_,_,_,_,_,e,_⟩:=x;exact⟨_,e⟩
 |set S n=>obtain⟨_,_,_,_,e,_⟩:=x;exact⟨_,e⟩
 |ins C dx fs=>obtain⟨_,_,_,e,_⟩:=x;exact⟨_,e⟩
 |own y=>obtain⟨_,e⟩:=x;exact⟨_,e⟩
 |xd fs=>obtain⟨_,⟨_,_,_,e,_⟩,_⟩:=x;exact⟨_,e⟩
 |Jg lo hi=>obtain⟨_,_,_,e⟩:=x;exact⟨_,e⟩
 |Je ob u=>obtain⟨e,_⟩:=x;exact⟨_,e⟩
 |W4 R=>exact⟨_,(show h.get? a=some _ from x)⟩
 |met f y=>exact⟨_,(show h.get? a=some _ from x)⟩
 |ext φ=>obtain⟨_,e,_⟩:=x;exact e
def Q8{P:Program}{w:World}{H:Hp}{h:Heap}{a:Addr}(x:Ml P w H h)(n:h.get? a=none):H a=none:=by
 cases z:H a with
 |none=>rfl
 |some o =>
  obtain⟨u,e⟩:=anj (x a o z);rw[n] at e;cases e
def afb{P:Program}{w:World}{H:Hp}{h h':Heap}{G S:X0}(x:Ml P w H h)(l:Lv G S h h')(R:∀b∈G,H b=none)(hS:∀b∈S,H b=none):Ml P w H h':=λa o e =>
 (x a o e).stay (λb u Z q=>l.keep b u q (λz=>by
  have:=R b z;rcases Z with rfl|Z
  .rw[e] at this;cases this
  .rw[Z] at this;cases this) (λz=>by
  have:=hS b z;rcases Z with rfl|Z
  .rw[e] at this;cases this
  .rw[Z] at this;cases this)) (λ_ q=>q) λ_ _ q=>q
section
variable{P:Program}{w:World}{K:Fg}{mg:Zs}{base:Heap}{N:Ya}{qual:Str}{scope:Scope}{f:Addr}{cd:Value}{A:Around}{outer:List Env}{s:Shared}{H:Hp}{E:XK}
def asp{R:CXT}{qq:Zp}{σ:St}{H1:Hp}{s1:Shared}{h':Heap}{S:X0}(I:Inv (Kd R P w K mg base N qual scope f cd A outer s H E) qq σ H1 s1)
 (l:Lv (Hl (Kd R P w K mg base N qual scope f cd A outer s H E).stack) S s1.heap h') (hS:∀b∈S,s.heap.get? b=none):Un (Hl outer) [] H H1 s.heap h':=by
 have G:Un (Hl outer) [] H H1 s.heap s1.heap:=I.base;have lo:∀b o,s.heap.get? b=some o->b∉S:=λb o e z=>by rw[hS b z] at e;cases e
 have ab:s.heap.objs.size<=s.heap.objs.size:=bf _
 have nf:∀b o,s.heap.get? b=some o->b∉Hl outer->b∉Hl (Kd R P w K mg base N qual scope f cd A outer s H E).stack:=λb o e Z z=>by
  rcases cj.mp (I.K8 b z) with q|q
  .have:=bc e
   have h2:s.heap.objs.size<=(Kd R P w K mg base N qual scope f cd A outer s H E).env.locals:=I.ok.above
   rw[q] at this;exact absurd (dm this h2) (jr _)
  .exact Z q
 have any:∀b o,s1.heap.get? b=some o->b∉S->∃o',h'.get? b=some o'/\∃sl,o'={ o with slots:=sl }:=λb o e Z=>by
  by_cases q:b∈Hl (Kd R P w K mg base N qual scope f cd A outer s H E).stack
  .obtain⟨sl,e2⟩:=l.slot b o e q
   exact⟨_,e2,sl,rfl⟩
  .exact⟨o,l.keep b o e q Z,o.slots,rfl⟩
 refine⟨λb o e n Z hx=>?_,λb o e n Z hx=>?_,G.free,λb o e hx=>?_,G.Ov,G.Qf,G.Qy⟩
 .exact l.keep b o (G.keep b o e n Z hx) (nf b o e Z) (lo b o e)
 .obtain⟨sl,e1⟩:=G.slot b o e n Z hx
  obtain⟨o',e2,qk,rfl⟩:=any b _ e1 (lo b o e);exact⟨qk,e2⟩
 .obtain⟨o1,e1⟩:=G.there b o e hx
  obtain⟨o',e2,_⟩:=any b o1 e1 (lo b o e);exact⟨o',e2⟩
def asq:ani (Kd (CXE P w) P w K mg base N qual scope f cd A outer s H E) E:=λqq σ H1 s1 h1 e G R I M q=>by
 refine afa (s:={ s1 with heap:=h1 }) (L:=s.heap.objs.size) I.ok.frames rfl I.stack M λh' T t t' Z _ l=>?_
 exact⟨e,T,G,.ref t,H1,rfl,I.os,I.bare,asp I l (λb z=>absurd z (by simp)),afb I.zb l I.Qz (λb z=>absurd z (by simp)),⟨t',Kf I rfl M.new,Kf I rfl Z,Q8 I.zb M.new,Q8 I.zb Z⟩,q⟩
end
structure afc(K:Fg)(C:Addr)(bmB:Zl)(newId:String):Prop where
 i:PySem.W.excIn K C bmB newId=true
set_option tactic.hygienic true in
def afc.obj{K:Fg}{C:Addr}{Y:Zl}{Z:String}(c:afc K C Y Z){h:Heap}(X:K.In h) :
 ∃bm N nm q bs G sn L ab S dd k0 k1 k2 k3 k5 mN,h.get? C=some (excClassObj nm q C N bs bm G sn L ab S dd k0 k1 k2 k3 k5 Z)/\h.Ns N mN/\mN "__init__" = none/\OwnTail h Y bm:=by
 have z:=c.i;unfold PySem.W.excIn at z;split at z
 .rename_i od y sl hl
  split at z
  .rename_i C2 tl x0 x1 x2 x3 n x5 u J
   simp only[az,beq_iff_eq,Bool.not_eq_true'] at z;obtain⟨⟨⟨⟨⟨y1,y2⟩,y3⟩,y4⟩,y5⟩,y6⟩:=z;cases y with
   |mk c1 c2 c3 c4 c5 c6 c7 c8 c9 Xa Xb =>
    have e3:c3=.ref C2::tl:=u;have R:Xb=false:=y3;cases sl with
    |mk ls =>
     have e:ls=[x0,x1,x2,x3,some (.builtin n),x5]:=J;subst e3 R e y1 y2;exact⟨tl,c4,c1,c5,c2,c6,c7,c8,c9,Xa,od,x0,x1,x2,x3,x5,_,X _ _ hl,.of_isNs (PySem.W.isNs_of_in X y5),PySem.W.nsMap_none_of_in X y5 y6,PySem.W.tail_of_in X y4⟩
  .cases z
 .cases z
def azo(C:Addr)(E:XK)(t:TA):TS:=λ_ Z H=>t Z H λR G=>R.length<=sizeLine/\E (.ref C) none G
section
variable{bmB bmN:Zl}{B Bn newId nid initId inN:String}
def ank{X:Cx}{E:XK}{C:Addr}{x:Str}{np G9 pos:Pos}{e:Expr}{R:Y3}{t:TA}(Fn:ExcBaseFacts Bn newId inN bmN)(q3:bmB.contains (.type Bn)=true)(FB:ExcBaseFacts B nid initId bmB)
 (hc:afc X.K C bmB newId) (hn:ani X E) (Es:X.calm=true) (hg:Gl X x) (hm:X.mg x=some (.ref C)) (ha:PA X (e::R) t) (Ox:(x==("__debug__" : Str))=false)
 (he:starEach (e::R) X.env=(false,eval e X.env)::starEach R X.env) (Lh:(backTo G9 (starEach R X.env)).any (·.1)=false) :
 PS X (.Raise (some (.Call (.Name x np) (e::R) [] G9)) none pos) (azo C E t):=by
 intro G s σ H D I h;obtain⟨tl,N,nm,q,bs,Z,sn,qk,ab,q0,dd,k0,k1,k2,k3,k5,mN,hC,hN,q2,T⟩:=hc.obj I.ok.mod.kin;refine wpAny_Raise_call_subU (C:=C) (nm:=nm) (q:=q) (N:=N) (bs:=bs) (bm:=tl) (hdct:=Z) (sn:=sn) (sub:=qk) (ab:=ab) (col:=q0) (dd:=dd) (k0:=k0) (k1:=k1) (k2:=k2) (k3:=k3) (k5:=k5)
  Fn q3 FB (mN:=mN) (T.hasType FB.hasBase) (I.ok.hd Es) (by rw[he];show(false||(backTo G9 (starEach R X.env)).any (·.1))=false;rw[Lh];rfl) q2 (Oi I hg hm ⟨rfl,?_⟩ Ox)
 have z:=ha G9 G s σ H _ I h;rw[he] at z ⊢;refine Calls.evalArgs_plain (ji z (λvs qq qv=>?_) λ_ _ y=>y);obtain⟨ws,H1,I1,r1,hl,q1⟩:=qv;exact⟨rfl,by rw[<- Vals.length r1];exact hl,I1.bk _ _ hC,hN.keeps I1.bk,T.keeps I1.bk,λh' e hm=>hn G σ H1 qq h' e _ _ I1 hm q1⟩
end
open PySem PySem.Spec PySem.Calls PyProof.Rows
noncomputable def afd(K:Fg)(C:Addr):Bool :=
 (PySem.W.findIn K (.ref C) "__getattribute__"==some (some (.builtin "BaseException.__getattribute__"))&&PySem.W.findIn K (.ref C) "__getattr__"==some none) &&
 ((PySem.W.findIn K (.ref C) "__class__"==some (some (.builtin "object.__class__"))&&PySem.W.subIn K (.ref C) (.type "BaseException")==some true)&&(PySem.W.subIn K (.ref C) (.type "object")==some true&&(PySem.W.clsIn K C).isSome))
structure afe(K:Fg)(C:Addr):Prop where
 ga:PySem.W.findIn K (.ref C) "__getattribute__" = some (some (.builtin "BaseException.__getattribute__"))
 nh:PySem.W.findIn K (.ref C) "__getattr__" = some none
 cl:PySem.W.findIn K (.ref C) "__class__" = some (some (.builtin "object.__class__"))
 sB:PySem.W.subIn K (.ref C) (.type "BaseException")=some true
 sO:PySem.W.subIn K (.ref C) (.type "object")=some true
 is:(PySem.W.clsIn K C).isSome=true
def asr{K:Fg}{C:Addr}(h:afd K C=true):afe K C:=by simp only[afd,az,beq_iff_eq] at h;exact⟨h.1.1,h.1.2,h.2.1.1,h.2.1.2,h.2.2.1,h.2.2.2⟩
section
variable{prog:Program}{w:World}{A:Around}{E:Y1}{h:Heap}{g:Array GenState}{d:Drawn}{t:Nat}{os:OsState}{a C:Addr}{o:Obj}{K:Fg}
set_option tactic.hygienic true in
def azp{R:Result->Shared->Prop}(X:K.In h)(L:afe K C)(Y:h.get? a=some o)(J:o.cls=.ref C)(S:R (.ok (.ret (.ref C))) ⟨h,g,d,t,os⟩) :
 codeAny (model prog w) A (.call (.builtin "getset_descriptor.__get__") ⟨[.builtin "object.__class__",.ref a,.ref C],[]⟩) R ⟨h,g,d,t,os⟩:=by
 have Z:(⟨h,g,d,t,os⟩:Shared).TypeIs (.builtin "object.__class__") "getset_descriptor" := F.typeOf_object_class;have G:=Ax (M:=model prog w) X L.sO;rw[<- F.owner_object_class] at G;refine yo F.slot_gs_get.plain F.entry_gs_get (F.slot_gs_get.check _ _ _ _ _ _ _ _ Z (F.args_gs_get _ _ _) ?_)
 repeat (any_goals (first|assumption|(with_reducible refine uz Y ?_;rw[J])|with_reducible refine G.at ?_|wp_step))
 refine⟨Code.quiet_builtin _ (by decide+kernel),pq F.entry_object_class ?_⟩
 repeat (any_goals (first|assumption|(with_reducible refine uz Y ?_;rw[J])|wp_step))
set_option tactic.hygienic true in
def anl{L:Tok}{Q:Fin->Shared->Prop}(X:K.In h)(Y:afe K C)(Z:h.get? a=some o)(G:o.cls=.ref C)(y:Q (.done (.ret (.ref C))) ⟨h,g,d,t,os⟩) :
 wpAny (model prog w) A (Builtin.«object.__getattribute__» ⟨[.ref a,.str "__class__" L],[]⟩) Q E ⟨h,g,d,t,os⟩:=by
 have R:(⟨h,g,d,t,os⟩:Shared).TypeIs (.builtin "object.__class__") "getset_descriptor" := F.typeOf_object_class;have f5:=F.typeOf_object_class;have S:=F.slot_gs_get.lookup;have u:=F.slot_gs_set.lookup;have J:=PySem.W.looks_findIn (M:=model prog w) X Y.cl
 repeat (any_goals (first|assumption|(with_reducible refine uz Z ?_;rw[G])|with_reducible refine J.at ?_|wp_step))
 refine azp X Y Z G ?_
 repeat (any_goals (first|assumption|wp_step))
set_option tactic.hygienic true in
def anm{M:Model}{Z:Value}{Q:Unit->Shared->Prop}(X:K.In h)(R:afe K C)(G:h.get? a=some o)(y:o.cls=.ref C)(L:Q () ⟨h,g,d,t,os⟩):wpAny M A (checkBuiltinCall "BaseException.__getattribute__" ⟨[.ref a,Z],[]⟩) Q E ⟨h,g,d,t,os⟩:=by
 have J:builtinKind "BaseException.__getattribute__" = some .slot:=by decide+kernel
 have Y:splitId "BaseException.__getattribute__" = some ("BaseException", "__getattribute__"):=by decide+kernel
 have S:=Ax (M:=M) X R.sB;have u:=F.args_bexc_ga (.ref a) Z;simp only[checkBuiltinCall,J,Y];refine aa ?_;unfold isInstance
 repeat (first|(with_reducible refine uz G ?_;rw[y])|with_reducible refine S.at ?_|wp_step)
 exact L
set_option tactic.hygienic true in
def a6d{tk:Tok}{Y Z:Bool}{Q:Y1}(X:K.In h)(G:afe K C)(J:h.get? a=some o)(R:o.cls=.ref C)(hq:Q (.ref C) ⟨h,g,d,t,os⟩) :
 wpAny (model prog w) A (getAttrBy (.ref a) (.str "__class__" tk) Y Z) Q E ⟨h,g,d,t,os⟩:=by
 have f3:bindSpecial (.builtin "BaseException.__getattribute__") (.ref a)=pure (.builtin "BaseException.__getattribute__",[.ref a]):=F.attr_ValueError.ga.bind _;have u:(Z&&onTheHeap (Value.builtin "BaseException.__getattribute__"))=false:=by cases Z<;>rfl
 have L:(Value.builtin "BaseException.__getattribute__"==Value.builtin "object.__getattribute__")=false:=by decide+kernel
 have y:(onTheHeap (Value.ref C)&&Value.builtin "BaseException.__getattribute__"==Value.builtin "object.__getattribute__")=false:=by rw[L];rfl
 have f1:=PySem.W.looks_findIn (M:=model prog w) X G.ga;have S:=PySem.W.looks_findIn (M:=model prog w) X G.nh
 repeat (any_goals (first|assumption|(with_reducible refine uz J ?_;rw[R])|with_reducible refine f1.at ?_|with_reducible refine S.at ?_|wp_step))
 refine yo F.attr_ValueError.ga.plain F.entry_bexc_ga (anm X G J R (anl X G J R ?_))
 repeat (any_goals (first|assumption|wp_step))
def ass{Q:Option Value->Shared->Prop}(X:K.In h)(R:afe K C)(G:h.get? a=some o)(Z:o.cls=.ref C)(hq:Q (some (.ref C)) ⟨h,g,d,t+1,os⟩):wpAny (model prog w) A (getAttr? (.ref a) "__class__") Q E ⟨h,g,d,t,os⟩:=by
 unfold getAttr? getAttrBy?
 repeat (any_goals (first|assumption|with_reducible apply a6d X R G Z|wp_step))
end
def XAt(a C:Addr)(h:Heap):Prop:=∃o,h.get? a=some o/\o.cls=.ref C
set_option tactic.hygienic true in
theorem ano{K:Fg}{a C:Addr}(R:afe K C):PySem.W.KitX K (.ref a) (.ref C) (XAt a C) where
 ty:=λM h _ p=>by obtain⟨o,Y,L⟩:=p;exact L▸(PySem.W.Looks.ld Y).andThen .now
 it:=λ_ _ X _=>by
  obtain⟨G,Z⟩:=jc.mp R.is;unfold PySem.W.clsIn at Z;split at Z
  .rename_i J
   intro y Q' E' s' k q;unfold isType loadHead;exact aa (wpAny_loadPart (k _ _ (X _ _ J)) (ak q))
  .cases Z
 ne:=λh tp dd u n sl X S=>by
  obtain⟨G,Z⟩:=jc.mp R.is;refine Bool.eq_false_iff.mpr λq=>?_
  have e:C=tp:=Value.ref.inj (beq_iff_eq.mp q);subst e;unfold PySem.W.clsIn at Z;split at Z
  .rename_i J
   have z:=(X _ _ J).symm.trans S;cases z
  .cases Z
 ca:=fun{_ _ _ _ _ s} X p k=>by obtain⟨h,g,d,t,os⟩:=s;obtain⟨o,Y,L⟩:=p;exact ass X R Y L k
def Inv.lv{X:Cx}{qq:Zp}{σ:St}{H:Hp}{s:Shared}{h':Heap}{S:X0}(I:Inv X qq σ H s)(l:Lv (Hl X.stack) S s.heap h')
 (hS:∀b∈S,X.s₀.heap.get? b=none/\H b=none/\(∃o vs,s.heap.get? b=some o/\o.data=.fields vs)/\∀p∈X.pn++qq,p.1≠b):Inv X qq σ H { s with heap:=h' }:=by
 have nS:∀b o,X.s₀.heap.get? b=some o->b∉S:=λb o e z=>by rw[(hS b z).1] at e;cases e
 have nL:∀b o,X.s₀.heap.get? b=some o->b∉X.fs->b∉Hl X.stack:=λb o e hb z=>by
  rcases cj.mp (I.K8 b z) with q|q
  .have:=bc e
   rw[q] at this;exact absurd (dm this I.ok.above) (jr _)
  .exact hb q
 have any:∀b o,s.heap.get? b=some o->b∉S->∃sl,h'.get? b=some { o with slots:=sl }:=λb o e hb=>by
  by_cases q:b∈Hl X.stack
  .exact l.slot b o e q
  .exact⟨o.slots,l.keep b o e q hb⟩
 have G:∀x c,X.env.cells.lookup x=some c->∀v,s.heap.IsCell c v->h'.IsCell c v:=λx c e v ⟨o,ho,hd⟩=>by
  have nc:c∉S:=λz=>by obtain⟨o',vs,R,Z⟩:=(hS c z).2.2.1;rw[ho] at R;cases R;rw[hd] at Z;cases Z
  obtain⟨sl,q⟩:=any c o ho nc;exact⟨_,q,hd⟩
 have qv:X.env.locals∉S:=λz=>by obtain⟨m,⟨o,es,ep,ho,hd,_⟩,_⟩:=I.loc;obtain⟨o',vs,R,Z⟩:=(hS _ z).2.2.1;rw[ho] at R;cases R;rw[hd] at Z;cases Z
 refine⟨I.ok,I.os,I.bare,⟨λb o e n hb hx=>?_,λb o e n hb hx=>?_,I.base.free,λb o e hx=>?_,I.base.Ov,I.base.Qf,I.base.Qy⟩,?_,λx c e=>?_,I.free,I.Dk,λp hp=>?_,afb I.zb l I.Qz (λb hb=>(hS b hb).2.1),I.len⟩
 .exact l.keep b o (I.base.keep b o e n hb hx) (nL b o e hb) (nS b o e)
 .obtain⟨sl,R⟩:=I.base.slot b o e n hb hx
  obtain⟨qk,Z⟩:=any b _ R (nS b o e);exact⟨qk,Z⟩
 .obtain⟨o1,R⟩:=I.base.there b o e hx
  obtain⟨qk,Z⟩:=any b _ R (nS b o e);exact⟨_,Z⟩
 .obtain⟨m,⟨o,es,ep,ho,r⟩,hl⟩:=I.loc
  obtain⟨sl,Z⟩:=any _ o ho qv;refine⟨m,⟨_,es,ep,Z,r⟩,λi x v R Z e3=>?_⟩;obtain⟨u,r,l⟩:=hl i x v R Z e3;refine⟨u,r,?_⟩;rcases l with l|⟨k,c,e,z⟩
  .exact .inl l
  .exact .inr ⟨k,c,e,G x c e _ z⟩
 .obtain⟨v,z⟩:=I.cell x c e
  exact⟨v,G x c e v z⟩
 .obtain⟨e,n,ne,nf,d⟩:=I.pin p hp
  refine⟨l.keep p.1 p.2 e (λz=>?_) (λz=>(hS p.1 z).2.2.2 p hp rfl),n,ne,nf,d⟩;rcases cj.mp (I.K8 _ z) with q|q
  .exact ne q
  .exact nf q
def Inv.track{X:Cx}{G:Zp}{σ:St}{H:Hp}{s:Shared}{e:Addr}{C:Addr}{oe:Obj}{vs:Xt}(I:Inv X G σ H s)(he:s.heap.get? e=some oe)(hc:oe.cls=.ref C)(hd:oe.data=.fields vs)(hn:X.s₀.heap.get? e=none)(hH:H e=none)(hp:∀p∈X.pn++G,p.1≠e) :
 Inv X G σ (upd H e (.ext (XAt e C))) s:=by
 have ne:∀b o,H b=some o->b≠e:=λb o q z=>by rw[z,hH] at q;cases q
 have nL:X.env.locals≠e:=λz=>by obtain⟨m,⟨o,es,ep,R,Z,_⟩,_⟩:=I.loc;rw[z,he] at R;cases R;rw[hd] at Z;cases Z
 have nC:∀x c,X.env.cells.lookup x=some c->c≠e:=λx c q z=>by obtain⟨v,o,R,Z⟩:=I.cell x c q;rw[z,he] at R;cases R;rw[hd] at Z;cases Z
 refine⟨I.ok,I.os,I.bare,⟨I.base.keep,I.base.slot,λb o q n hx=>?_,I.base.there,λb xs q=>?_,λb o xs q=>?_,λb ps q=>?_⟩,I.loc,I.cell,?_,λx c q=>?_,λp h=>?_,λb o q=>?_,I.len⟩
 .rw[jb (λz=>by rw[z,hn] at q;cases q)];exact I.base.free b o q n hx
 .have:=I.base.Ov b xs q;rw[jb (ne _ _ this)];exact this
 .have:=I.base.Qf b o xs q;rw[jb (ne _ _ this)];exact this
 .obtain⟨m,z⟩:=I.base.Qy b ps q;exact⟨m,by rw[jb (ne _ _ z)];exact z⟩
 .rw[jb nL];exact I.free
 .rw[jb (nC x c q)];exact I.Dk x c q
 .obtain⟨e1,n,r⟩:=I.pin p h
  exact⟨e1,by rw[jb (hp p h)];exact n,r⟩
 .by_cases hb:b=e
  .subst hb
   rw[qw] at q;cases q;exact⟨⟨oe,he,hc⟩,⟨oe,he⟩,λh1 h2 z k=>let ⟨o,q1,q2⟩:=z;⟨o,k o q1,q2⟩⟩
  .rw[jb hb] at q
   exact(I.zb b o q).stay (λ_ _ _ z=>z) (λc z=>by rw[jb (ne _ _ z)];exact z) λc xs z=>by rw[jb (ne _ _ z)];exact z
section
variable{M:Model}{A:Around}{E:Y1}{s:Shared}
def anq{q1:Heap}{G:Env}{Z:List Env}{L e T:Addr}{q2 a0:Value}{Q:Shared->Prop}
 (z1:A.frames=some (G::Z)) (hf:G.frame=some L) (hl:s.heap.FunFrames q1 (G::Z)) (F:Trc s.heap e T q2 a0)
 (hQ:∀h' R,Trc h' e R q2 a0->(R=T\/s.heap.get? R=none)->h'.FunFrames (grd s.heap (Hl (G::Z)++[e,T])) (G::Z)->Lv (Hl (G::Z)) [e,T] s.heap h'->Q { s with heap:=h' }) :
 wpAny M A (noteFrame (.ref e) G) (λ_ qq=>wpAny M A (setFlight (.ref e) none) (λ_ q5=>Q q5) E qq) E s:=by
 obtain⟨oe,vs,oT,ts,he,hc,hd,h1,zq,hT,z3,h3⟩:=F.x;have z4:=Q7 (S:=Hl (G::Z)++[e,T]) (λb hb=>o7 _ hb) hl;refine wpAny_looks_onW z1 hf ⟨Te _ _,Td (by simp),z4,oe,vs,T,oT,ts,he,hc,hd,h1,Td (by simp),zq,hT,z3,h3⟩ λh1 q4 zv=>?_
 refine wpAny_landsW (s:={ s with heap:=h1 }) q4 λh' q7 z7=>?_
 have up:s.heap.UpToSlots h':=zv.trans z7;obtain⟨k1,k2,k3,z6,q8,R,zw,qv,z5,zz,zk,z2,z0,q0,q3,qk,q6⟩:=q7;refine hQ h' R ⟨z6,q8,zw,qv,z5,zz,zk,z2,q0,q3,qk,q6⟩ ?_ k3 (anb hl k1 up);rcases Vx z0 with q|q
 .rcases dz.mp q with q|q
  .exfalso
   obtain⟨o,ho,nf⟩:=Vy hl q;obtain⟨sl,e2⟩:=up R o ho nf;rw[q3] at e2;cases e2;exact nf qv qk
  .simp at q
   rcases q with q|q
   .exact absurd q q0
   .exact .inl q
 .exact .inr q
def afg{qq:Heap}{l:List Env}{e T:Addr}{qk a0:Value}{Q:Unit->Shared->Prop}(hl:s.heap.FunFrames qq l)(F:Trc s.heap e T qk a0)
 (hQ:∀h',Trc h' e T qk a0->Lv (Hl l) [e,T] s.heap h'->Q () { s with heap:=h' }):wpAny M A (setFlight (.ref e) none) Q E s:=by
 obtain⟨oe,vs,oT,ts,he,hc,hd,h1,R,hT,G,h3⟩:=F.x;have qv:3<ts.size:=(jf.mp h3).1
 refine wpAny_setFlight_none he hd h1 hT G qv ?_;have Z:∀b,b≠T->(s.heap.update T (Obj.mapFields (·.setIfInBounds 3 Value.none))).get? b=s.heap.get? b:=λb hb=>ur _ _ (j0 hb)
 refine hQ _ ⟨oe,vs,_,_,(Z e (j0 R)).trans he,hc,hd,h1,R,mq _ hT (Obj.isFreed_of_fields (Obj.data_mapFields G _)),Obj.data_mapFields G _,by simp[qv]⟩ ⟨λb o q _ n=>(Z b (λz=>n (by simp[z]))).trans q,λb o q m=>?_⟩;refine⟨o.slots,(Z b λz=>?_).trans q⟩;obtain⟨o',e',nf⟩:=Vy hl m;rw[z,hT] at e';cases e';exact nf ts G
end
section
variable{M:Model}{A:Around}{E:Y1}{h:Heap}{g:Array GenState}{d:Drawn}{t:Nat}{os:OsState}{e C B:Addr}{K:Fg}
noncomputable def ab3(K:Fg)(C B:Addr):Bool:=(PySem.W.subIn K (.ref C) (.ref B)==some true&&PySem.W.subIn K (.ref B) (.type "BaseException")==some true)&&(PySem.W.typeIn K (.ref B)==some (.type "type")&&(PySem.W.clsIn K B).isSome)
set_option tactic.hygienic true in
def ab4{J:Obj}{Q:Bool->Shared->Prop}(X:K.In h)(G:ab3 K C B=true)(he:h.get? e=some J)(Y:J.cls=.ref C)(hq:Q true ⟨h,g,d,t,os⟩):wpAny M A (excMatches (.ref e) (.ref B)) Q E ⟨h,g,d,t,os⟩:=by
 simp only[ab3,az,beq_iff_eq] at G;obtain⟨⟨L,S⟩,h3,u⟩:=G;have f1:=Ax (M:=M) X L;have R:=Ax (M:=M) X S;have f3:=PySem.W.looks_typeIn (M:=M) X h3;obtain⟨qk,Z⟩:=jc.mp u;have f4:PySem.W.Looks M h (isType (.ref B)) true:=by
  unfold PySem.W.clsIn at Z;split at Z
  .rename_i c' d' qq y ho
   intro A' Q' E' s' k q;unfold isType loadHead;exact aa (wpAny_loadPart (k _ _ (X _ _ ho)) (ak q))
  .cases Z
 have f:=tc_notTuple;unfold excMatches isInstance
 repeat (first|with_reducible refine f3.at ?_|with_reducible refine f4.at ?_|with_reducible refine R.at ?_|with_reducible refine f1.at ?_|(with_reducible refine uz he ?_;rw[Y])|wp_step)
 exact hq
end
structure Roo(k:Nat)(A:PySem.Around):Prop where
 un:A.units+16*k+200<PySem.cLine
def Roo.mono{j k:Nat}(r:Roo k A)(h:j<=k):Roo j A:=⟨by have:=r.un;lia⟩
theorem Roo.in1{k:Nat}(r:Roo (k+1) A):Roo k A.in1:=⟨by have:=r.un;show A.units+1+16*k+200<_;lia⟩
def Roo.S8{k:Nat}(r:Roo k A):A.units<PySem.cLine:=by have:=r.un;lia
def Roo.hu{k:Nat}(r:Roo k A):A.units+1<PySem.cLine:=by have:=r.un;lia
open PySem PySem.Spec PySem.Calls PyProof.Rows
noncomputable def xb(X:Cx)(G:Zp)(Z:Y1):Cx:={ X with pn:=X.pn++G,xe:=Z }
noncomputable def xh(X:Cx)(Z:Zp)(e:Addr):Cx:={ X with A:=X.A.mark (some (.ref e)),calm:=false,pn:=X.pn++Z,xe:=λ_ _=>False }
section
variable{X:Cx}{pn pins:Zp}{σ:St}{H:Hp}{s:Shared}{xe:Y1}{e:Addr}
def Inv.toB(I:Inv X (pn++pins) σ H s):Inv (xb X pn xe) pins σ H s :=
 ⟨⟨I.ok.mod,I.ok.kind,I.ok.glob,I.ok.blt,I.ok.above,I.ok.inj,I.ok.has,I.ok.cab,I.ok.hd,I.ok.frames,I.ok.stk,I.ok.exf,I.ok.bs,I.ok.bsz,I.ok.abq,I.ok.ae3,I.ok.Ow,I.ok.frf⟩,I.os,I.bare,I.base,I.loc,I.cell,I.free,I.Dk,λp Z=>I.pin p (by rw[<- qd];exact Z),I.zb,I.len⟩
def Inv.ofB(I:Inv (xb X pn xe) pins σ H s):Inv X (pn++pins) σ H s :=
 ⟨⟨I.ok.mod,I.ok.kind,I.ok.glob,I.ok.blt,I.ok.above,I.ok.inj,I.ok.has,I.ok.cab,I.ok.hd,I.ok.frames,I.ok.stk,I.ok.exf,I.ok.bs,I.ok.bsz,I.ok.abq,I.ok.ae3,I.ok.Ow,I.ok.frf⟩,I.os,I.bare,I.base,I.loc,I.cell,I.free,I.Dk,λp Z=>I.pin p (by rw[<- qd] at Z;exact Z),I.zb,I.len⟩
def Inv.toH(I:Inv X (pn++pins) σ H s):Inv (xh X pn e) pins σ H s :=
 ⟨⟨I.ok.mod,I.ok.kind,I.ok.glob,I.ok.blt,I.ok.above,I.ok.inj,I.ok.has,I.ok.cab,λz=>(dw z).elim,I.ok.frames,I.ok.stk,I.ok.exf,I.ok.bs,I.ok.bsz,I.ok.abq,I.ok.ae3,I.ok.Ow,I.ok.frf⟩,I.os,I.bare,I.base,I.loc,I.cell,I.free,I.Dk,λp Z=>I.pin p (by rw[<- qd];exact Z),I.zb,I.len⟩
def Inv.less(I:Inv X (pn++pins) σ H s):Inv X pn σ H s :=
 ⟨I.ok,I.os,I.bare,I.base,I.loc,I.cell,I.free,I.Dk,λp Z=>I.pin p (by
  rcases dz.mp Z with q|q
  .exact o7 _ q
  .exact iw _ (o7 _ q)),I.zb,I.len⟩
def Inv.ofH(ok:X.Ok)(I:Inv (xh X pn e) pins σ H s):Inv X (pn++pins) σ H s :=
 ⟨ok,I.os,I.bare,I.base,I.loc,I.cell,I.free,I.Dk,λp Z=>I.pin p (by rw[<- qd] at Z;exact Z),I.zb,I.len⟩
end
def BMain(mg:Zs)(h:Heap):Prop:=∃G Z,mg "__builtins__" = some (.ref G)/\G≠builtinsNs/\h.get? G=some Z/\Z.cls=.type "module"/\Z.dict=some builtinsNs/\Z.data=.plain
def awh(o:Obj)(q:Str):Prop:=∃Z t,o.data=.fields Z/\Z[1]?=some (.str q t)
def anr(P:Addr)(pos:Pos)(q:Str)(H:Hp):Prop:=∃Z,H P=some (.W4 Z)/\(Z=#[]\/∃G o,Z=#[rawInt pos.line,rawInt pos.col,.ref G]/\H G=some (.Je o (.own 0))/\awh o q)
section
variable{X:Cx}{pins:Zp}{σ:St}{H:Hp}{s:Shared}
def Inv.bat(I:Inv X pins σ H s)(bm:BMain X.mg X.base)(hP:H P=some (.W4 ps)):s.heap.BuiltinsAt X.mg P:=by
 obtain⟨b,ob,e1,e2,G,e4,e5,Z⟩:=bm;have g:=I.bs b ob G;refine⟨b,ob,e1,e2,λz=>?_,λz=>?_,g.1,e4,e5,Z⟩
 .obtain⟨o,es,ep,R,hd,_⟩:=I.mod.glob
  rw[<- z,G] at R;cases R;rw[hd] at Z;cases Z
 .rw[z,hP] at g;cases g.2
def Inv.gNs(I:Inv X pins σ H s):s.heap.Ns mainGlobals X.mg:=I.mod.glob.keeps I.bk
def Inv.gP(I:Inv X pins σ H s)(Z:H P=some (.W4 ps)):mainGlobals≠P:=λz=>by obtain⟨o,R,ep,G,_⟩:=I.mod.glob;have:=(I.bs _ _ G).2;rw[z,Z] at this;cases this
def Inv.ant(I:Inv X pins σ H { s with heap:=h,toks:=Z })(R:s.heap.objs.size<=h.objs.size)(I0:Inv X bgt qq H0 s)(hd:∀v,o.data≠.cell v)(G:o.isFreed=false):Inv X ((h.objs.size,o)::pins) σ H { s with heap:=h.push o,toks:=Z }:=by
 have J:Inv X pins σ H { s with heap:=h.push o,toks:=Z }:=Inv.kept (s:={ s with heap:=h,toks:=Z }) I λb u e=>ao _ e
 refine⟨J.ok,J.os,J.bare,J.base,J.loc,J.cell,J.free,J.Dk,λp hp=>?_,J.zb,J.len⟩;rcases dz.mp hp with q|q
 .exact J.pin p (o7 _ q)
 .rcases cj.mp q with rfl|q
  .refine⟨bh _ G,I.zb.fresh (bf _),λz=>?_,λz=>I0.ayi (a:=h.objs.size) R z,hd⟩
   have:=I.lt;exact absurd this (by show ¬X.env.locals<h.objs.size;rw[<- show h.objs.size=X.env.locals from z];exact jr _)
  .exact J.pin p (iw _ q)
end
set_option tactic.hygienic true in
def anu{X:Cx}{L:Zp}{σ:St}{H:Hp}{s:Shared}{c P:Addr}{pos:Pos}{Y:Arguments}{qq:Expr}{G:Scope}{clos:Xs}{Q:Y1}{E:Y1}
 (I:Inv X L σ H s) (bm:BMain X.mg X.base) (q5:X.env.code=.ref c) (hC:PySem.W.codeHdIn X.K c P=true) (T:anr P pos (X.env.qual++"<lambda>") H) (q3:closureFor G X.env=pure clos) (q8:defaultsOf Y X.env=([],[]))
 (k:∀f Z y H' h' tk,Inv X ((f,PySem.W.kla_obj "<lambda>" (X.env.qual++"<lambda>") Y qq G clos ((X.mg "__name__").getD .none) Z y)::L) σ H' { s with heap:=h',toks:=tk }->anr P pos (X.env.qual++"<lambda>") H'->(∀b u,b≠P->H b=some u->H' b=some u) ->
  (∃o,H' Z=some (.Je o (.own 0))/\awh o (X.env.qual++"<lambda>"))->(∀x c,X.env.cells.lookup x=some c->∀v,s.heap.IsCell c v->h'.IsCell c v)->(∀b o,s.heap.get? b=some o->∃o',h'.get? b=some o')->Q (.ref f) { s with heap:=h',toks:=tk }) :
 wpAny (model X.prog X.w) X.A (eval (.Lambda Y qq G pos) X.env) Q E s:=by
 obtain⟨ps,C,q7⟩:=T;have q2:s.heap.get? P=some (PySem.W.tabObj ps):=I.zb P _ C;have q4:=PySem.W.codeHd_of_K I.Wz hC;have zq:∀{h':Heap},Heap.ExtBut P s.heap h'->∀x c,X.env.cells.lookup x=some c->∀v,s.heap.IsCell c v->h'.IsCell c v:=λhx x c e v z=>by obtain⟨o,h1,h2⟩:=z;refine⟨o,hx _ _ (λz=>?_) h1,h2⟩;have:=I.Dk x c e;rw[z,C] at this;cases this
 refine PySem.W.kla_eval q8 ?_;rcases q7 with rfl|⟨Z,o,rfl,hc',hq⟩
 .refine PySem.W.kla_makeFunction (mg:=X.mg) (P:=P) (ps:=#[]) q3 I.ok.glob I.gNs q5 q4 q2 trivial rfl (I.gP C) (I.bat bm C) λZ y h' tk hx q1 Jd q6 qv=>?_
  obtain⟨c2,oc,vs,t,e2,q0,S,hv⟩:=q6;cases e2;have qk:H Z=none:=I.zb.fresh q1;have cP:Z≠P:=λz=>by rw[z,C] at qk;cases qk
  have R:∀b o,b≠P->s.heap.get? b=some o->h'.get? b=some o:=hx;have nP:∀b,H b=none->b≠P:=λb n z=>by rw[z,C] at n;cases n
  have hH:∀b u,b≠P->H b=some u->upd (upd H P (.W4 (#[]++#[rawInt pos.line,rawInt pos.col,.ref Z]))) Z (.Je oc (.own 0)) b=some u:=λb u hb e=>by rw[jb (λz=>by rw[z,qk] at e;cases e),jb hb];exact e
  have ok:Ml X.prog X.w (upd (upd H P (.W4 (#[]++#[rawInt pos.line,rawInt pos.col,.ref Z]))) Z (.Je oc (.own 0))) h':=λb u e=>by
   by_cases h1:b=Z
   .subst h1
    rw[qw] at e;cases e;exact⟨q0,oc,q0⟩
   .rw[jb h1] at e
    by_cases h2:b=P
    .subst h2
     rw[qw] at e;cases e;exact qv
    .rw[jb h2] at e
     refine(I.zb b u e).stay (λd v S q=>R d v (λz=>?_) q) (λd q=>hH d _ (λz=>?_) q) λd xs q=>hH d _ (λz=>?_) q
     .rcases S with S|S
      .exact h2 (S.symm.trans z)
      .rw[z,C] at S;cases S
     .rw[z,C] at q;cases q
     .rw[z,C] at q;cases q
  have J:Inv X L σ (upd (upd H P (.W4 (#[]++#[rawInt pos.line,rawInt pos.col,.ref Z]))) Z (.Je oc (.own 0))) { s with heap:=h',toks:=tk }:=by
   refine I.step (g':=s.gens) (d':=s.drawn) (ch:=[]) (λ_ z=>nomatch z) (λb o _ _ _ e n=>R b o (nP b n) e) (λb o _ _ _ e n=>⟨o.slots,R b o (nP b n) e⟩) (λb o _ e n=>?_) (λb o _ e=>?_) (λb xs e=>hH b _ (λz=>?_) e) (λb o u e=>hH b _ (λz=>?_) e) (λb ps e=>?_) (λm hm=>?_) ok I.bare
   .rw[jb (gh (dm (bc e) q1)),jb (nP b n)];exact n
   .by_cases hb:b=P
    .exact⟨_,hb▸qv⟩
    .exact⟨o,R b o hb e⟩
   .rw[z,C] at e;cases e
   .rw[z,C] at e;cases e
   .by_cases hb:b=P
    .subst hb
     rw[C] at e;cases e;exact⟨_,by rw[jb (j0 cP),qw]⟩
    .exact⟨#[],by rw[hH b _ hb e];simp⟩
   .obtain⟨o,es,ep,ho,r⟩:=hm
    exact⟨o,es,ep,R _ _ (nP _ I.free) ho,r⟩
  have sz:s.heap.objs.size<=h'.objs.size:=ig q1 (yu Jd)
  refine k _ Z y _ _ tk (J.ant sz I (by intro v z;cases z) rfl) ⟨_,by rw[jb (j0 cP),qw],.inr ⟨Z,oc,by simp,by rw[qw],⟨vs,t,S,hv⟩⟩⟩ hH ⟨oc,qw,vs,t,S,hv⟩ (λx c e v z=>xq (zq hx x c e v z) λb u q=>ao _ q) λb o e=>?_
  by_cases hb:b=P
  .exact⟨_,ao _ (hb▸qv)⟩
  .exact⟨o,ao _ (R b o hb e)⟩
 .refine PySem.W.kla_makeFunctionHit (mg:=X.mg) (P:=P) (cv:=.ref Z) q3 I.ok.glob I.gNs q5 q4 q2 trivial (by simp[codeAmong,rawInt]) (I.bat bm C) λy h' tk hk zz=>?_
  have J:Inv X L σ H { s with heap:=h',toks:=tk }:=I.kept hk;obtain⟨vs,t,S,hv⟩:=hq;have q0:s.heap.get? Z=some o:=(I.zb _ _ hc').1;exact k _ Z y H _ tk (J.ant zz I (by intro v z;cases z) rfl) ⟨_,C,.inr ⟨Z,o,rfl,hc',⟨vs,t,S,hv⟩⟩⟩ (λb u _ e=>e) ⟨o,hc',vs,t,S,hv⟩ (λx c e v z=>xq (xq z hk) λb u q=>ao _ q) λb o e=>⟨o,ao _ (hk b o e)⟩
noncomputable def awk(CX:CXT)(P:Program)(w:World)(K:Fg)(mg:Zs)(base:Heap)(N:Ya)(G:Str)(Z:Scope)(f:Addr)(cd:Value)(cl:Xs)(A:Around)(outer:List Env)(s:Shared)(H:Hp)(E:XK):Cx where
 prog:=P
 w:=w
 K:=K
 mg:=mg
 base:=base
 A:=A.deeper (PySem.W.envX G Z s.heap.objs.size f cd cl)
 N:=N
 s₀:=s
 H₀:=H
 env:=PySem.W.envX G Z s.heap.objs.size f cd cl
 outer:=outer
 stack:=PySem.W.envX G Z s.heap.objs.size f cd cl::outer
 ex:=[]
 calm:=true
 fn:=λ_=>false
 pn:=[]
 xe:=λe s'=>wpAny (model P w) (A.deeper (PySem.W.envX G Z s.heap.objs.size f cd cl)) (leaving (PySem.W.envX G Z s.heap.objs.size f cd cl) e) (λ_ R=>CX outer H s E e R) (λe' R=>CX outer H s E e' R) s'
section
variable{X:Cx}{E:XK}
def anv(qk:X.ex=[])(I:Inv X pins σ H1 s1)(l:Lv (Hl X.stack) S s1.heap h')(hS:∀b∈S,X.s₀.heap.get? b=none):Un X.fs [] X.H₀ H1 X.s₀.heap h':=by
 have G:Un X.fs [] X.H₀ H1 X.s₀.heap s1.heap:=by have:=I.base;rw[qk] at this;exact this
 have lo:∀b o,X.s₀.heap.get? b=some o->b∉S:=λb o e z=>by rw[hS b z] at e;cases e
 have nf:∀b o,X.s₀.heap.get? b=some o->b∉X.fs->b∉Hl X.stack:=λb o e Z z=>by
  rcases cj.mp (I.K8 b z) with q|q
  .have:=bc e
   have h2:=I.ok.above;rw[q] at this;exact absurd (dm this h2) (jr _)
  .exact Z q
 have any:∀b o,s1.heap.get? b=some o->b∉S->∃o',h'.get? b=some o'/\∃sl,o'={ o with slots:=sl }:=λb o e Z=>by
  by_cases q:b∈Hl X.stack
  .obtain⟨sl,e2⟩:=l.slot b o e q
   exact⟨_,e2,sl,rfl⟩
  .exact⟨o,l.keep b o e q Z,o.slots,rfl⟩
 refine⟨λb o e n Z R=>?_,λb o e n Z R=>?_,G.free,λb o e R=>?_,G.Ov,G.Qf,G.Qy⟩
 .exact l.keep b o (G.keep b o e n Z R) (nf b o e Z) (lo b o e)
 .obtain⟨sl,e1⟩:=G.slot b o e n Z R
  obtain⟨o',e2,qq,rfl⟩:=any b _ e1 (lo b o e);exact⟨qq,e2⟩
 .obtain⟨o1,e1⟩:=G.there b o e R
  obtain⟨o',e2,_⟩:=any b o1 e1 (lo b o e);exact⟨o',e2⟩
def asu(qq:X.ex=[])(Rz:X.stack=X.env::X.outer)(hf:X.env.frame=some X.env.locals)(qv:X.xe=λe s'=>wpAny (model X.prog X.w) X.A (leaving X.env e) (λ_ Z=>CXE X.prog X.w X.outer X.H₀ X.s₀ E e Z) (λe' Z=>CXE X.prog X.w X.outer X.H₀ X.s₀ E e' Z) s'):XOn X E:=λq0 σ H1 s1 e T qk a0 I F _ q=>by
 have ne:∀b∈[e,T],X.s₀.heap.get? b=none:=λb R=>by
  simp at R;rcases R with rfl|rfl
  .exact F.ne
  .exact F.nT
 have nH:∀b∈[e,T],H1 b=none:=λb R=>by
  simp at R;rcases R with rfl|rfl
  .exact F.he
  .exact F.hT
 rw[qv];refine ane (L:=X.env.locals) (by rw[<- Rz];exact I.ok.frames) hf (by rw[<- Rz];exact I.stack) F.t λh' T' t' G _ l=>?_
 rw[<- Rz] at l;refine⟨e,T',qk,a0,H1,rfl,I.os,I.bare,anv qq I l ne,afb I.zb l I.Qz nH,⟨t',F.ne,?_,F.he,?_⟩,q⟩
 .rcases G with rfl|hn
  .exact F.nT
  .exact Kf I qq hn
 .rcases G with rfl|hn
  .exact F.hT
  .exact Q8 I.zb hn
end
noncomputable abbrev noArgs:Arguments:={ posonlyargs:=[],args:=[],vararg:=none,kwonlyargs:=[],kw_defaults:=[],kwarg:=none,defaults:=[] }
structure Thk(h:Heap)(fa:Addr)(body:Expr)(scope:Scope)(cl:Xs)(q:Str):Prop where
 x:∃nm pm c ctv,h.get? fa=some (PySem.W.kla_obj nm q noArgs body scope cl pm c ctv)/\h.CodeRec (.ref c) q
structure Vz(N:Ya)(scope:Scope):Prop where
 kind:scope.kind=.function
 co:scope.isCoroutine=false
 gen:scope.isGenerator=false
 nd:N.Nodup
 free:∀x,Vis scope x->x∈N/\scope.names.lookup x=some .free
 vis:∀x,x∈N->Vis scope x
 azs:∀x∈scope.names,x.2≠.cell
def ajg{CX:CXT}{P:Program}{w:World}{K:Fg}{mg:Zs}{qq:Heap}{A:Around}{G:List Env}{s:Shared}{H:Hp}{Q:VK}{E:XK}{k:Nat}{fa:Addr}{qv:Expr}{Z:Scope}{cl:Xs}{q:Str}{N:Ya}{vs:List V}
 (e0:Zu P w K mg qq A G s H) (hr:Ah (k+1) A) (T:Thk s.heap fa qv Z cl q) (S:Vz N Z) (q3:∀x y c,cl.lookup x=some c->cl.lookup y=some c->x=y) (q2:∀x c,cl.lookup x=some c->(∃v,s.heap.IsCell c v)/\H c=none)
 (hl:vs.length=N.length) (hv:∀(i:Nat) x,N[i]?=some x->∃v u c,vs[i]?=some v/\RelV v u/\cl.lookup x=some c/\s.heap.IsCell c (some u))
 (Vu:∀q1,Ah k (A.deeper (PySem.W.envX q Z s.heap.objs.size fa q1 cl))->∃t,PE (awk CX P w K mg qq N q Z fa q1 cl A G s H E) qv t/\t (vs.map some) H Q) :
 codeAny (model P w) A (.call (.ref fa) ⟨[],[]⟩) (CR CX G P w H s Q E) s:=by
 obtain⟨nm,pm,c,q6,ho,Xz⟩:=T.x;have q4:s.heap.NoLimit:=e0.mod.nolimit.keeps λb o e=>(e0.bs b o e).1
 refine PySem.W.kla_callFunE hr.depth ho rfl S.co S.gen rfl Xz ?_;refine ak (wpAny_newFunctionEnv S.azs (λ_ z=>nomatch z) (λqk Z4 q0=>⟨q4.fresh _ q0,?_⟩) S.kind);have R:∀b o,s.heap.get? b=some o->qk.get? b=some o:=λb o e=>q0.extBut b o (gh (bc e)) (ao _ e)
 refine PySem.W.kla_codeExpr ?_;obtain⟨t,ht,hq⟩:=Vu (.ref c) (hr.deeper _);have q5:∀x,Vis Z x->∃(i:Nat)(v:V)(u:Value)(c:Addr),N[i]?=some x/\vs[i]?=some v/\RelV v u/\cl.lookup x=some c/\s.heap.IsCell c (some u):=λx hx=>by obtain⟨i,hi⟩:=uo.mp (S.free x hx).1;obtain⟨v,u,c,h1⟩:=hv i x hi;exact⟨i,v,u,c,hi,h1⟩
 have I:Inv (awk CX P w K mg qq N q Z fa (.ref c) cl A G s H E) [] (vs.map some) H { s with heap:=qk,toks:=s.toks+0 }:=by
  refine⟨⟨e0.mod,S.kind,rfl,rfl,bf _,q3,λx hx=>?_,λx c z=>(dw z).elim,λ_=>hr.hd,Around.frames_deeper e0.frames,.inr ⟨rfl,rfl⟩,(λb z=>nomatch(show b∈([]:X0) from z)),e0.bs,e0.bsz,(λb _ _ z=>nomatch(show b∈([]:X0) from z)),(λb z=>nomatch(show b∈([]:X0) from z)),e0.Ow,e0.frf⟩,rfl,e0.bare,Un.kept R,
   ⟨_,Z4,λi x v h1 h2 h3=>?_⟩,λx c z=>?_,e0.zb.fresh (bf _),λx c z=>(q2 x c z).2,(λp hp=>nomatch(show p∈([]:Zp) from hp)),e0.zb.kept R,?_⟩
  .have hx:Vis Z x:=.inr hx
   obtain⟨i,v,u,c,_,_,_,h,_⟩:=q5 x hx;exact⟨c,h⟩
  .obtain⟨v',u,c,e1,r,e2,e3⟩:=hv i x h1
   rw[je,e1] at h2;cases h2;exact⟨u,r,.inr ⟨.inr (S.free x h3).2,c,e2,xq e3 R⟩⟩
  .obtain⟨v,z⟩:=(q2 x c z).1
   exact⟨v,xq z R⟩
  .rw[gf];exact hl
 refine ji (ht [] _ _ H Q I hq) (λv s' z=>?_) λe s' z=>z
 obtain⟨x,H',J,r,z⟩:=z;exact⟨x,H',J.os,J.bare,J.base,J.zb,r,z⟩
section
variable{X:Cx}{pn pins:Zp}{σ:St}{H:Hp}{s:Shared}{xe:Y1}{e:Addr}
def Inv.awl{h':Heap}{m m':Zs}{t':Nat}(I:Inv X pins σ H s)(hN:X.N.Nodup)(hi:X.N[i]?=some n)(hm:s.heap.Ns X.env.locals m)(R9:h'.Ns X.env.locals m')(he:∀x,x≠n->m' x=m x)(Z:Heap.SameBut X.env.locals s.heap h'):Inv X pins (σ.set i none) H { s with heap:=h',toks:=t' }:=by
 have G:∀b o,X.s₀.heap.get? b=some o->b≠X.env.locals:=λb o e=>gh (dm (bc e) I.ok.above)
 refine⟨I.ok,I.os,I.bare,⟨λb o e n hb hx=>?_,λb o e n hb hx=>?_,I.base.free,λb o e hx=>?_,I.base.Ov,I.base.Qf,I.base.Qy⟩,⟨_,R9,λj y v' R e2 e3=>?_⟩,λy c e=>?_,I.free,I.Dk,λp hp=>?_,λb ob e=>?_,by simpa using I.len⟩
 .exact(Z.2 b (G b o e)).trans (I.base.keep b o e n hb hx)
 .obtain⟨sl,R⟩:=I.base.slot b o e n hb hx
  exact⟨sl,(Z.2 b (G b o e)).trans R⟩
 .obtain⟨o',R⟩:=I.base.there b o e hx
  exact⟨o',(Z.2 b (G b o e)).trans R⟩
 .have hj:j≠i:=λz=>by
   subst z
   by_cases hl:j < σ.length
   .rw[yg hl] at e2;cases e2
   .rw[m7 (by simpa using hl)] at e2;cases e2
  rw[uc (j0 hj)] at e2;obtain⟨m0,qq,hl⟩:=I.loc;have em:m0=m:=(Heap.Ns.eq_nsMap qq).trans (Heap.Ns.eq_nsMap hm).symm;subst em;obtain⟨u,r,l⟩:=hl j y v' R e2 e3;refine⟨u,r,?_⟩;have yn:y≠n:=λz=>by subst z;obtain⟨l1,g1⟩:=aj.mp R;obtain⟨l2,g2⟩:=aj.mp hi;exact hj ((Aq hN).mp (g1.trans g2.symm))
  rcases l with⟨k1,k2⟩|⟨k,c,e,z⟩
  .exact .inl ⟨k1,by rw[he y yn];exact k2⟩
  .exact .inr ⟨k,c,e,Heap.IsCell.sameBut z Z (I.cne y c e)⟩
 .obtain⟨w',z⟩:=I.cell y c e
  exact⟨w',z.sameBut Z (I.cne y c e)⟩
 .obtain⟨e,n,G,nf,d⟩:=I.pin p hp
  exact⟨(Z.2 p.1 G).trans e,n,G,nf,d⟩
 .refine(I.zb b ob e).stay (λc w' hc q=>(Z.2 c ?_).trans q) (λ_ q=>q) λ_ _ q=>q
  rintro rfl;rcases hc with hc|hc
  .rw[<- hc,I.free] at e;cases e
  .rw[I.free] at hc;cases hc
end
def awm(K:Fg)(B:Addr)(i:Nat)(tb:XK->TS)(th:TS):TS:=λD σ H =>
 tb (λR _ Z=>∃C,R=.ref C/\ab3 K C B=true/\∀e,Z e=none->th ⟨λG Z=>D.nx (G.set i none) Z,D.rt,λ_ _=>False,λ_ _=>False⟩ ((List.replicate σ.length none).set i (some (.ref e))) (upd Z e (.ext (XAt e C)))) D σ H
def asv{X:Cx}{body:List Stmt}{b0:Stmt}{suite:List Stmt}{mx n:Str}{np hp pos:Pos}{B:Addr}{i:Nat}{tb:XK->TS}{th:TS}(q7:X.ex=[])(Rz:X.stack=X.env::X.outer/\X.env.frame=some X.env.locals)
 (hN:X.N.Nodup) (hi:X.N[i]?=some n) (hl:X.env.scope.names.lookup n=some .local) (hg:Gl X mx) (hm:X.mg mx=some (.ref B)) (Ox:(mx==("__debug__" : Str))=false)
 (hb:∀pn xe E,XOn (xb X pn xe) E->Pb (xb X pn xe) body (tb E)) (hh:∀pn e,Pb (xh X pn e) (b0::suite) th) :
 PS X (.Try body [.ExceptHandler (some (.Name mx np)) (some n) (b0::suite) hp] [] [] pos) (awm X.K B i tb th):=by
 intro Z s σ H D I h;refine wpAny_Try_except ?_;have I':∀xe,Inv (xb X Z xe) [] σ H s:=λxe=>Inv.toB (by rw[lg];exact I)
 refine ji (hb Z _ _ ?_ [] s σ H D (I' _) h) (λf s1 z=>?_) (λ_ _ z=>z)
 ·
  intro R qv H1 s1 e T zw a0 J F zq q;obtain⟨C,rfl,q6,q⟩:=q;have J1:Inv X (Z++R) qv H1 s1:=J.ofB;have qq:∀p∈X.pn++(Z++R),p.1≠e/\p.1≠T:=λp m=>zq p (by show p∈(X.pn++Z)++R;rw[qd];exact m)
  have fr:X.A.frames=some (X.env::X.outer):=by rw[<- Rz.1];exact J1.ok.frames
  have fl:s1.heap.FunFrames X.base (X.env::X.outer):=by rw[<- Rz.1];exact J1.stack
  have qk:∀{h:Heap}{T:Addr},Trc h e T (.ref C) a0->(∃o vs,h.get? e=some o/\o.data=.fields vs)/\∃o vs,h.get? T=some o/\o.data=.fields vs:=λt=>by obtain⟨oe,vs,oT,ts,he,hc,hd,h1,zv,hT,zz,h3⟩:=t.x;exact⟨⟨oe,vs,he,hd⟩,⟨oT,ts,hT,zz⟩⟩
  have n1:X.s₀.heap.get? e=none:=F.ne;have n2:X.s₀.heap.get? T=none:=F.nT;refine anq fr Rz.2 fl F.t λh1 T1 t1 q4 ff l=>?_
  have J2:Inv X (Z++R) qv H1 { s1 with heap:=h1 }:=J1.lv (S:=[e,T]) (by rw[Rz.1];exact l) λb hb=>by
   simp at hb;rcases hb with rfl|rfl
   .exact⟨n1,F.he,(qk F.t).1,λp m=>(qq p m).1⟩
   .exact⟨n2,F.hT,(qk F.t).2,λp m=>(qq p m).2⟩
  have n3:X.s₀.heap.get? T1=none/\H1 T1=none/\∀p∈X.pn++(Z++R),p.1≠T1:=by
   rcases q4 with rfl|z
   .exact⟨n2,F.hT,λp m=>(qq p m).2⟩
   .refine⟨?_,Q8 J1.zb z,λp m w=>?_⟩
    .cases q0:X.s₀.heap.get? T1 with
     |none=>rfl
     |some o =>
      by_cases hx:T1∈X.ex
      .rw[q7] at hx;cases hx
      .obtain⟨o',e'⟩:=J1.base.there T1 o q0 hx
       rw[z] at e';cases e'
    .have:=(J1.pin p m).1
     rw[w,z] at this;cases this
  refine wpAny_handleBy_cons (codeAny_handlers_test (Oi (X:=xh X (Z++R) e) (pins:=[]) (Inv.toH (by rw[lg];exact J2)) hg hm ?_ Ox)) (by intro z;cases z);obtain⟨z4,z0,z3,z2,q5,zk,z1,-⟩:=t1.x;refine ab4 (K:=X.K) (C:=C) J2.Wz q6 q5 zk.1 ?_;show codeAny _ _ _ _ _;refine codeAny_handlers_suite_as ?_;have q3:h1.FunFrames X.base (X.env::X.outer):=by rw[<- Rz.1];exact J2.stack
  refine afg (s:={ s1 with heap:=h1 }) q3 t1 λh2 t2 l2=>?_
  have J3:Inv X (Z++R) qv H1 { s1 with heap:=h2 }:=Inv.lv (s:={ s1 with heap:=h1 }) J2 (S:=[e,T1]) (by rw[Rz.1];exact l2) λb hb=>by
   simp at hb;rcases hb with rfl|rfl
   .exact⟨n1,F.he,(qk t1).1,λp m=>(qq p m).1⟩
   .exact⟨n3.1,n3.2.1,(qk t1).2,n3.2.2⟩
  obtain⟨oe,vs,oT,ts,he,hc,hd,-⟩:=t2.x;have J4:=J3.track he hc.1 hd n1 F.he λp m=>(qq p m).1
  have J5:Inv X (Z++R) (List.replicate σ.length none) _ _:=J4.weak (by simp[I.len,J4.len]) λi v z=>by rw[w5] at z;split at z<;>cases z
  have J6:Inv (xh X (Z++R) e) [] (List.replicate σ.length none) _ _:=Inv.toH (e:=e) (pn:=Z++R) (pins:=[]) (by rw[lg];exact J5);refine abr (X:=xh X (Z++R) e) (v:=.ref e) (u:=.ref e) J6 hN hi (.inl hl) rfl (λs' J7=>?_) (.inr hl);refine ji (hh (Z++R) e [] s' _ _ _ J7 (q e F.he)) (λf s2 z=>?_) (λ_ _ z=>False.elim z);cases f with
  |next =>
   obtain⟨q8,H2,J8,z⟩:=z;obtain⟨m2,T3,_⟩:=J8.loc;show wpAny _ _ _ _ _ _;refine wpAny_nameGoes_keeps (m:=m2) hl T3 (by rw[J1.ok.kind];rfl) λh3 v3 q1 q2=>?_
   have J9:=(J8.awl (t':=s2.toks+1) hN hi T3 q1 (λx hx=>cu hx) q2).ofH J1.ok;rw[lg] at J9;exact⟨_,H2,J9.less,z⟩
  |brk=>obtain⟨_,_,_,z⟩:=z;exact z.elim
  |cont=>obtain⟨_,_,_,z⟩:=z;exact z.elim
  |ret u =>
   obtain⟨v,q8,H2,J8,r,z⟩:=z;obtain⟨m2,T3,_⟩:=J8.loc;show wpAny _ _ _ _ _ _;refine wpAny_nameGoes_keeps (m:=m2) hl T3 (by rw[J1.ok.kind];rfl) λh3 v3 q1 q2=>?_
   have J9:=(J8.awl (t':=s2.toks+1) hN hi T3 q1 (λx hx=>cu hx) q2).ofH J1.ok;rw[lg] at J9;exact⟨v,_,H2,J9.less,r,z⟩
 .cases f with
  |next =>
   obtain⟨G,H',J,q⟩:=z;have J:=J.ofB;rw[lg] at J;exact U8 Z s1 G H' D J q
  |brk=>obtain⟨G,H',J,q⟩:=z;have J:=J.ofB;rw[lg] at J;exact⟨G,H',J,q⟩
  |cont=>obtain⟨G,H',J,q⟩:=z;have J:=J.ofB;rw[lg] at J;exact⟨G,H',J,q⟩
  |ret u=>obtain⟨v,G,H',J,r,q⟩:=z;have J:=J.ofB;rw[lg] at J;exact⟨v,G,H',J,r,q⟩
def ab5(Z:Addr)(H:Hp):Prop:=H Z=some (.W4 #[])/\∀b,b≠Z->H b=none\/∃o G,H b=some (.Je o (.lst G))
def ajh{K:Fg}(q7:BMain mg s₁.heap)(hP:s₁.heap.get? Pt=some (PySem.W.tabObj #[]))(zk:K.lookup Pt=none)(q6:PySem.W.codeHdIn K ct Pt=true)(KX:K.In s₁.heap)(Z4:s₁.heap.Ns mainGlobals mg)(Z:s₁.heap.Ns builtinsNs mb)(q4:∀x:Str,x≠"__name__" -> mb x=bootBuiltins x)(zz:s₁.heap.NoLimit)(hg:s₁.gens=#[])(ha:s₁.heap.get? a=some { cls:=.type "list",data:=.seq vs.toArray })(hi:IntsAre vs ns)(hl:ns.length<=sizeLine)(hr:Ah k callerA)(F:∀G:Heap,K.In G->G.Ns mainGlobals mg->BMain mg G->Jt P w K mg G CX k fa fd [x] sp)(q8:∀(s:Shared) (u:Value),BindsTo s fd ⟨[u],[]⟩ [(x,u)])(q5:∀H:Hp,ab5 Pt H->Hm K H a (ns.map V.int)->sp [.ref a] H (λv _=>v=.bl true) λ_ _ _=>False)(zq:∀H e s',CX [] H s₁ (λ_ _ _=>False) e s'->False) :
 codeAny (model P w) callerA (.call (.ref fa) ⟨[.ref a],[]⟩) (λr s'=>r=.ok (.ret (.bool true))/\OldK s₁.heap s'.heap/\s'.os=s₁.os/\AllBare s'.gens) s₁:=by
 have rv:=Yh hi;have q0:=hi.length;have qk:∀H:Hp,ab5 Pt H->Hm K H a (ns.map V.int)->Ml P w H s₁.heap->(∀b,H b≠none->b=a\/b=Pt)->(H a≠none->K.lookup a=none) ->
  codeAny (model P w) callerA (.call (.ref fa) ⟨[.ref a],[]⟩) (λr s'=>r=.ok (.ret (.bool true))/\OldK s₁.heap s'.heap/\s'.os=s₁.os/\AllBare s'.gens) s₁:=by
  intro H hO hS zb hA hK;have Hd:∀{b:Addr}{o:Obj},s₁.heap.get? b=some o->H b=none->(W6 s₁.heap H).get? b=some o:=λe n=>amh e n
  have noA:∀{b:Addr}{o:Obj}{es:Array DictEntry}{ep:Nat},s₁.heap.get? b=some o->o.data=.dict es ep->H b=none:=fun{b o es ep} e d=>by
   cases q:H b with
   |none=>rfl
   |some u =>
    rcases hA b (by rw[q];simp) with R|R
    .subst R
     rw[ha] at e;cases e;have d':Data.seq vs.toArray _=Data.dict es ep:=d;cases d'
    .subst R
     rw[hP] at e;cases e;cases d
  have qq:∀{b:Addr}{m:Zs},s₁.heap.Ns b m->(W6 s₁.heap H).Ns b m:=fun{b m} ⟨o,es,ep,e,d,r⟩=>⟨o,es,ep,Hd e (noA e d),d,r⟩
  have q1:K.In (W6 s₁.heap H):=λb o e=>Hd (KX b o e) (by
   cases q:H b with
   |none=>rfl
   |some u =>
    rcases hA b (by rw[q];simp) with R|R
    .subst R
     rw[hK (by rw[q];simp)] at e;cases e
    .subst R
     rw[zk] at e;cases e)
  have hB:BMain mg (W6 s₁.heap H):=by
   obtain⟨bm,ob,e1,e2,e3,e4,e5,e6⟩:=q7;refine⟨bm,ob,e1,e2,Hd e3 ?_,e4,e5,e6⟩;cases q:H bm with
   |none=>rfl
   |some u =>
    rcases hA bm (by rw[q];simp) with R|R
    .subst R
     rw[ha] at e3;cases e3;cases e6
    .subst R
     rw[hP] at e3;cases e3;cases e6
  have hM:Mod K mg (W6 s₁.heap H):=⟨q1,qq Z4,⟨mb,qq Z,q4⟩,let ⟨mc,h1,h2⟩:=zz;⟨mc,qq h1,h2⟩⟩;have e0:Zu P w K mg (W6 s₁.heap H) callerA [] s₁ H:=⟨rfl,hM,λb o e=>arw e,Nat.le_of_eq (aiz _ _),trivial,λb Z=>absurd (show b∈([]:X0) from Z) (by simp),zb,.of_eq hg⟩;refine uw ((F _ q1 (qq Z4) hB).run callerA [] s₁ H ⟨[.ref a],[]⟩ [.ref a] [.ref a] _ _ hr e0 (q8 s₁ (.ref a)) (.cons rfl .nil) (q5 H hO hS)) λr s' h=>?_
  cases r with
  |error e=>exact(zq H e s' h).elim
  |ok fl =>
   cases fl with
   |next=>exact False.elim h|brk=>exact False.elim h|cont=>exact False.elim h
   |ret u =>
    obtain⟨v,H',os,q2,un,q3,r',q⟩:=h;have q':v=.bl true:=q;subst q';obtain rfl:u=Value.bool true:=r';have all:∀b o,s₁.heap.get? b=some o->asItWas s₁.heap s'.heap b o:=λb o e=>by
     by_cases Z:b=Pt
     .subst Z
      rw[hP] at e;cases e;obtain⟨qv,z⟩:=un.Qy b #[] hO.1;exact .inr (.inl ⟨((PySem.W.codeHd_of_K KX q6).tab hP).isCodeTable,rfl,#[],qv,rfl,q3 b _ z⟩)
     .left
      cases q:H b with
      |none=>exact un.keep b o e q (by intro z;exact absurd (show b∈([]:X0) from z) (by simp)) (by simp)
      |some u =>
       rcases hO.2 b Z with z|⟨ob,xs,z⟩
       .rw[q] at z;cases z
       .have z2:=un.Qf b ob _ z
        obtain⟨e1,_⟩:=zb b _ z;obtain⟨e2,_⟩:=q3 b _ z2;rw[e] at e1;cases e1;exact e2
    exact⟨rfl,⟨all,λb o e=>by
     obtain⟨o',R⟩:=un.there b o e (by simp);exact⟨o',R⟩⟩,os,q2⟩
 have aP:a≠Pt:=λz=>by rw[z,hP] at ha;cases ha
 cases hk:K.lookup a with
 |some o =>
  have e:=KX a o hk;rw[ha] at e;cases e;refine qk (upd (λ_=>none) Pt (.W4 #[])) ⟨qw,λb Z=>.inl (jb Z)⟩ (.inr ⟨_,vs.toArray,_,hk,rfl,rfl,rfl,by rw[ie,q0];exact hl,by simpa using rv⟩) (λb u z=>?_) (λb z=>?_) λz=>absurd (jb aP) z
  .by_cases Z:b=Pt
   .subst Z;rw[qw] at z;cases z;exact hP
   .rw[jb Z] at z;cases z
  .by_cases Z:b=Pt
   .exact .inr Z
   .exact absurd (jb Z) z
 |none =>
  have ea:upd (upd (λ_=>none) Pt (.W4 #[])) a (.Je { cls:=.type "list",data:=.seq vs.toArray } (.lst (ns.map V.int))) a=_:=qw;refine qk (upd (upd (λ_=>none) Pt (.W4 #[])) a (.Je { cls:=.type "list",data:=.seq vs.toArray } (.lst (ns.map V.int)))) ⟨(jb (j0 aP)).trans qw,λb Z=>?_⟩ (.inl (.inr ⟨{ cls:=.type "list",data:=.seq vs.toArray },ea⟩)) (λb u z=>?_) (λb z=>?_) λ_=>hk
  .by_cases h1:b=a
   .subst h1;exact .inr ⟨_,_,ea⟩
   .exact .inl ((jb h1).trans (jb Z))
  .by_cases h1:b=a
   .subst h1
    rw[ea] at z;cases z;exact⟨ha,by rw[gf];exact hl,vs,_,rv,ha⟩
   .rw[jb h1] at z
    by_cases Z:b=Pt
    .subst Z;rw[qw] at z;cases z;exact hP
    .rw[jb Z] at z;cases z
  .by_cases h1:b=a
   .exact .inl h1
   .by_cases Z:b=Pt
    .exact .inr Z
    .exact absurd ((jb h1).trans (jb Z)) z
def anx{l:PySem.W.OpenLaw}{K:Params->Fg}{CX:World->CXT}{sp:World->Sp}(hn:l.most=some n)(T3:n<=sizeLine)(q3:d.params.defaults=[])(hr:Ah k callerA)(hY:∀(w:World) (h:Heap),YP w h->(K w.params).In h/\h.get? Pt=some (PySem.W.tabObj #[]))(q5:∀w:World,(K w.params).lookup Pt=none)(q0:∀w:World,PySem.W.codeHdIn (K w.params) ct Pt=true)(F:∀(w:World) (mg:Zs) (fa:Addr) (h:Heap),(K w.params).In h->h.Ns mainGlobals mg->mg d.name=some (.ref fa) ->
 ∃fd:FuncData,(∀(s:Shared) (u:Value),BindsTo s fd ⟨[u],[]⟩ [(x,u)]) /\
  ∀Z:Heap,(K w.params).In Z->Z.Ns mainGlobals mg->BMain mg Z->Jt l.prog w (K w.params) mg Z (CX w) k fa fd [x] (sp w))(qv:∀(w:World) (H:Hp) (a:Addr) (ns:X9),ns.length<=n->ab5 Pt H->Hm (K w.params) H a (ns.map V.int)->sp w [.ref a] H (λv _=>v=.bl true) λ_ _ _=>False)(q1:∀(w:World) (H:Hp) (s:Shared) (e:Value) (s':Shared),CX w [] H s (λ_ _ _=>False) e s'->False) :
 PySem.W.WalkO q loose XP YP l.row.toRowW d [] (λf vs=>PySem.call f vs):=by
 refine Att.ab1 hn q3 λw q6 qk mg mb fa o pm cd q7 a vs ns G Y ho hd Xz q4 q2 qq R hg=>?_
 obtain⟨KX,hP⟩:=hY w _ Y;obtain⟨fd,hb,hF⟩:=F w mg fa _ KX G.T.g q4;exact ajh G.T.bmain hP (q5 w) (q0 w) KX G.T.g G.T.b G.T.builtins G.T.nolimit hg q2 qq (ig R T3) hr hF hb (λH hO hS=>qv w H a ns R hO hS) λH e s'=>q1 w H qk e s'
def ab6:fillsNumberSlot (.type "tuple") "mul" = pure false :=
 PySem.fillsNumberSlot_seq (id := "tuple.__mul__") (r:=some (.builtin "tuple.__rmul__")) yh.lookup (by decide+kernel) F.slot_tuple_rmul.lookup (by decide+kernel)
def anz:seqRepeat? (.type "tuple")=pure (some (.builtin "tuple.__mul__")):=by unfold seqRepeat?;rw[PySem.seqSlot_of (T := "tuple") (name := "__mul__") (id := "tuple.__mul__") yh.lookup (by decide+kernel),PySem.seqSlot_of (T := "tuple") (name := "__rmul__") (id := "tuple.__rmul__") F.slot_tuple_rmul.lookup (by decide+kernel)];rfl
def azt(a:Int)(t:Tok)(l:Addr)(Z:Xt)(n:Nat)(G:Option Addr)(sl:Array (Option Value)) :
 Meets (Builtin.«int.__rmul__» ⟨[.int a t,.ref l],[]⟩) (λ_ R s=>s.heap.get? l=some { cls:=.type "tuple",dict:=G,data:=.seq Z n,slots:=sl }/\R (.ok (.ret Value.notImplemented)) s) :=
 .of_wp λprog w A R s h=>by obtain⟨hp,g,d,tk,os⟩:=s;obtain⟨hl,h⟩:=h;wp_walk;exact⟨_,rfl,h⟩
def a6i(l:Addr)(Z:Xt)(n:Nat)(G:Option Addr)(sl:Array (Option Value))(u:Tok) :
 Meets (Builtin.«tuple.__mul__» ⟨[.ref l,.int 1 u],[]⟩) (λ_ R s=>s.heap.get? l=some { cls:=.type "tuple",dict:=G,data:=.seq Z n,slots:=sl }/\R (.ok (.ret (.ref l))) s) :=
 .of_wp λprog w A R s h=>by obtain⟨hp,g,d,tk,os⟩:=s;obtain⟨hl,h⟩:=h;wp_walk;exact⟨_,rfl,h⟩
def a6j(l:Addr)(x:Value)(n:Nat)(Z:Option Addr)(G:Array (Option Value))(u:Tok) :
 Meets (Builtin.«tuple.__mul__» ⟨[.ref l,.int 0 u],[]⟩) (λ_ R s=>s.heap.get? l=some { cls:=.type "tuple",dict:=Z,data:=.seq #[x] n,slots:=G }/\R (.ok (.ret (.ref s.heap.objs.size))) { s with heap:=s.heap.push { cls:=.type "tuple",data:=.seq #[] } }) :=
 .of_wp λprog w A R s h=>by obtain⟨hp,g,d,tk,os⟩:=s;obtain⟨hl,h⟩:=h;wp_walk;exact⟨_,rfl,h⟩
theorem ab7(x:Value):∀(k:Nat)(a:Xt),List.foldl (λZ G=>Z++G) a (List.replicate k #[x])=a++(List.replicate k x).toArray
 |0,a=>by simp|k+1,a=>by rw[List.replicate_succ,Be,ab7 x k,Array.append_assoc,List.replicate_succ];congr 1;apply Array.ext';simp
theorem awn(r:RelV d v):∀k:Nat,Vals (List.replicate k d) (List.replicate k v)
 |0=>.nil|k+1=>.cons r (awn r k)
def a6k(l:Addr)(x:Value)(k n:Nat)(dd:Option Addr)(sl:Array (Option Value))(u:Tok)(h2:2<=k)(hk:k<=100000) :
 Meets (Builtin.«tuple.__mul__» ⟨[.ref l,.int k u],[]⟩) (λ_ R s=>s.heap.get? l=some { cls:=.type "tuple",dict:=dd,data:=.seq #[x] n,slots:=sl }/\R (.ok (.ret (.ref s.heap.objs.size))) { s with heap:=s.heap.push { cls:=.type "tuple",data:=.seq (List.replicate k x).toArray } }) :=
 .of_wp λprog w A R s h=>by
  obtain⟨hp,g,d,tk,os⟩:=s;obtain⟨hl,h⟩:=h;have e:=ab7 x k #[];rw[Array.empty_append] at e;rw[<- e] at h;have a1:¬(decide ((k:Int) < -2 ^ 63)||decide ((k:Int) >= 2 ^ 63))=true:=by simp;omega
  have G:¬(Array.isEmpty #[x]||(k:Int)==1)=true:=by simp;omega
  have Z:¬(decide ((k:Int)<=0)||Array.isEmpty #[x])=true:=by simp;omega
  have a4:¬((Array.size #[x]:Nat):Int)*(k:Int) > (2 ^ 63-1) / 8:=by simp;omega
  have a5:¬Builtin.Tuple.tupleTooMany (((Array.size #[x]:Nat):Int)*(k:Int))=true:=by simp[Builtin.Tuple.tupleTooMany,sizeLine];omega
  wp_walk;refine vz (ou a1) ?_
  wp_walk;refine vz (ou G) ?_
  wp_walk;refine vz (ou Z) ?_
  wp_walk;refine vz (ou a4) ?_
  wp_walk;refine vz (ou a5) ?_
  wp_walk;refine vz (ou (Nat.not_lt.mpr (by show Array.size (List.foldl _ _ (List.replicate k _))<=_;rw[e,ie,yq];exact ig hk (by decide)))) ?_
  wp_walk
  exact⟨_,rfl,h⟩
def asx:Dz X (binaryOp .Mult) (λx y H Q=>∃a v,∃k:Nat,x=.ref a/\y=.int k/\Iu X.K H a [v]/\k<=100000/\(k=1->Q (.ref a) H)/\∀p,H p=none->Q (.ref p) (upd H p (.tup (List.replicate k v)))):=by
 intro qq s σ H x y v u Q I rx ry h;obtain⟨a,d,k,rfl,rfl,ha,hk,q1,q2⟩:=h;cases rx;obtain⟨t,rfl⟩:=ry;obtain⟨yj,r1,p1,_⟩:=I.tuple ha;cases r1 with
 |cons r1 r2 =>
  cases r2;obtain⟨⟨qk,dd,R,sl⟩,G,hc,n,hd⟩:=id p1;simp only at hc hd;subst hc hd;refine wpAny_binaryOp_repeat_ref (T := "tuple") (U := "int") (by decide) ⟨_,G,rfl⟩ (λs'=>typeIs_int s' _ _) ab6 F.fills_int_mul F.slot_int_rmul anz F.slot_int_index.lookup
   (call_meets F.slot_int_rmul (typeIs_int s _ _) F.entry_int_rmul (F.args_int_rmul_2 _ _) (azt _ _ a _ n dd sl) ⟨G,rfl,⟨_,G,rfl⟩,?_⟩)
  have go:∀Z:List Value,Z=List.replicate k _->Inv X qq σ (upd H s.heap.objs.size (.tup (List.replicate k d))) { s with heap:=s.heap.push { cls:=.type "tuple",data:=.seq Z.toArray } }:=λZ e=>I.laid (t':=s.toks) (o:=.tup (List.replicate k d)) (λb ob q=>ao _ q) (bf _) ⟨by rw[yq];exact ig hk (by decide),_,by rw[e];exact awn r1 k,W5.new _ _⟩
  by_cases h1:k=1
  .subst h1
   exact call_meets yh ⟨_,G,rfl⟩ F.entry_tuple_mul (F.args_tuple_mul_2 _ _) (a6i a _ n dd sl t) ⟨G,.ref a,H,I,rfl,q1 rfl⟩
  by_cases h0:k=0
  .subst h0
   exact call_meets yh ⟨_,G,rfl⟩ F.entry_tuple_mul (F.args_tuple_mul_2 _ _) (a6j a _ n dd sl t) ⟨G,.ref s.heap.objs.size,_,go [] rfl,rfl,q2 _ (I.zb.fresh (bf _))⟩
  .exact call_meets yh ⟨_,G,rfl⟩ F.entry_tuple_mul (F.args_tuple_mul_2 _ _) (a6k a _ k n dd sl t (by omega) hk) ⟨G,.ref s.heap.objs.size,_,go _ rfl,rfl,q2 _ (I.zb.fresh (bf _))⟩
noncomputable def Dp(cells:Xs):List (Str×NameKind)->List (Str×Addr)->List (Str×Addr)
 |[],cs=>cs|(n,k)::r,cs=>Dp cells r (if k==.free then(n,(cells.lookup n).getD 0)::cs else cs)
theorem Uc{G Z:Type}{f:G->Z->Sem (ForInStep Z)}{g:G->Z->Z}:∀{l:List G}(c:Z),(∀x∈l,∀c,f x c=pure (.yield (g x c)))->forIn l c f=pure (l.foldl (λc x=>g x c) c)
 |[],c,_=>rfl
 |x::l,c,h=>by
  rw[List.forIn_cons,h x di,pure_bind];exact Uc (g x c) λy R=>h y (bx _ R)
theorem Ud(cells:Xs):∀(l:Yf)(Z:Xs),Dp cells l Z=l.foldl (λc x=>if x.2==.free then(x.1,(cells.lookup x.1).getD 0)::c else c) Z
 |[],_=>rfl|(n,k)::r,Z=>Ud cells r _
def N5(h:∀y∈scope.names,y.2=.free->∃c,env.cells.lookup y.1=some c):closureFor scope env=pure (Dp env.cells scope.names []):=by
 simp only[closureFor];rw[Uc (g:=λx c=>if x.2==.free then(x.1,(env.cells.lookup x.1).getD 0)::c else c) [] (λx hx c=>by
  obtain⟨n,k⟩:=x
  by_cases G:k=.free
  .subst G
   obtain⟨c',Z⟩:=h (n,.free) hx rfl;have Z:env.cells.lookup n=some c':=Z;simp[cellOf,Z]
  .have R:(k==NameKind.free)=false:=by simpa using G
   simp[R]),Ud]
 rfl
theorem V0(cells:Xs):∀(l:Yf)(Z:Xs)(x:Str)(c:Addr),(∀y∈l,y.2=.free->∃c,cells.lookup y.1=some c)->(Dp cells l Z).lookup x=some c ->
 Z.lookup x=some c\/cells.lookup x=some c
 |[],Z,x,c,_,h=>.inl h
 |(n,k)::r,Z,x,c,hy,h=>by
  rcases V0 cells r _ x c (λz hz=>hy z (bx _ hz)) h with q|q
  .by_cases R:k=.free
   .subst R
    simp only[beq_self_eq_true,o5,ue] at q;cases e:x==n with
    |true =>
     rw[e] at q;obtain⟨c',G⟩:=hy (n,.free) di rfl;have G:cells.lookup n=some c':=G;simp only[G,zx,Ai] at q;subst q;rw[eq_of_beq e];exact .inr G
    |false=>rw[e] at q;exact .inl q
   .have hb:(k==NameKind.free)=false:=by simpa using R
    simp only[hb,dq,kj] at q;exact .inl q
  .exact .inr q
theorem V1(cells:Xs):∀(l:Yf)(Z:Xs)(x:Str),(∃c,Z.lookup x=some c)->∃c,(Dp cells l Z).lookup x=some c
 |[],Z,x,h=>h
 |(n,k)::r,Z,x,h=>by
  refine V1 cells r _ x ?_
  by_cases G:(k==NameKind.free)=true
  .rw[dh G,ue]
   cases e:x==n with
   |true=>exact⟨_,rfl⟩|false=>exact h
  .rw[cu G];exact h
theorem Kg(cells:Xs):∀(l:Yf)(Z:Xs)(x:Str),(x,NameKind.free)∈l->∃c,(Dp cells l Z).lookup x=some c
 |(n,k)::r,Z,x,h=>by
  rcases cj.mp h with q|q
  .obtain⟨rfl,rfl⟩:=Prod.mk.inj q
   refine V1 cells r _ x ⟨(cells.lookup x).getD 0,?_⟩;rw[dh (by simp),ue,beq_self_eq_true]
  .exact Kg cells r _ x q
theorem N6{Z:Env}:∀{G:Yf}{x:Str},
 (G.map λ(y:Str×NameKind)=>if(y.2==NameKind.free&&Z.scope.kind==.function&&Z.kindOf y.1==some .cell) then(y.1,NameKind.cell) else(y.1,y.2)).lookup x
  = (G.lookup x).map λk=>if(k==NameKind.free&&Z.scope.kind==.function&&Z.kindOf x==some .cell) then NameKind.cell else k
 |[],_=>rfl
 |(n,k)::r,x=>by
  have ih:=@N6 Z r x;rw[iz];cases hx:x==n with
  |true =>
   have e:=eq_of_beq hx;subst e;clear hx
   by_cases R:(k==NameKind.free&&Z.scope.kind==.function&&Z.kindOf x==some .cell)=true
   .simp only[R,o5,ue,beq_self_eq_true,xj]
   .have hb:(k==NameKind.free&&Z.scope.kind==.function&&Z.kindOf x==some .cell)=false:=by simpa using R
    simp only[hb,dq,kj,ue,beq_self_eq_true,xj]
  |false =>
   by_cases R:(k==NameKind.free&&Z.scope.kind==.function&&Z.kindOf n==some .cell)=true
   .simp only[R,o5,ue,hx];exact ih
   .simp only[R,ue,hx];simpa[ue,hx] using ih
theorem mem_of_lookup{Z G:Type}[BEq Z][LawfulBEq Z]:∀{l:List (Z×G)}{x:Z}{y:G},l.lookup x=some y->(x,y)∈l
 |(a,b)::r,x,y,h=>by
  rw[ue] at h;cases e:x==a with
  |true=>rw[e] at h;cases h;rw[eq_of_beq e];exact di|false=>rw[e] at h;exact bx _ (mem_of_lookup h)
def Dw{Z:Type}{v:Z}{r:List (Str×Z)}:((k,v)::r).lookup x=if x=k then some v else r.lookup x:=by
 rw[ue]
 by_cases h:x=k
 .rw[dh h,show(x==k)=true from beq_iff_eq.mpr h]
 .rw[cu h,show(x==k)=false from zm.mpr h]
set_option tactic.hygienic true in
theorem ag8:∀(l:Yf)(n:Nat)(Z:Xs)(x:Str)(c:Addr),(cellsFrom n l Z).lookup x=some c->((x,NameKind.cell)∈l/\n<=c)\/Z.lookup x=some c
 |[],_,_,_,_,h=>.inr h
 |(k,kd)::r,n,Z,x,c,h=>by
  unfold cellsFrom at h;split at h
  .rename_i e
   rcases ag8 r _ _ x c h with⟨q,l⟩|q
   .exact .inl ⟨bx _ q,by omega⟩
   .rw[Dw] at q
    split at q
    .rename_i z
     cases q;exact .inl ⟨by rw[z,eq_of_beq e];exact di,bf _⟩
    .exact .inr q
  .rcases ag8 r _ _ x c h with⟨q,l⟩|q
   .exact .inl ⟨bx _ q,l⟩
   .exact .inr q
set_option tactic.hygienic true in
theorem Z5:∀(l:Yf)(n:Nat)(Z:Xs)(x:Str),((x,NameKind.cell)∈l\/∃c,Z.lookup x=some c)->∃c,(cellsFrom n l Z).lookup x=some c
 |[],_,_,_,h=>by rcases h with q|q;cases q;exact q
 |(k,kd)::r,n,Z,x,h=>by
  unfold cellsFrom;split
  .refine Z5 r _ _ x ?_
   by_cases z:x=k
   .exact .inr ⟨n,by rw[Dw,dh z]⟩
   .rcases h with q|q
    .rcases cj.mp q with q|q
     .cases q;exact absurd rfl z
     .exact .inl q
    .exact .inr (by rw[Dw,cu z];exact q)
  .rename_i e
   refine Z5 r _ _ x ?_;rcases h with q|q
   .rcases cj.mp q with q|q
    .cases q;exact absurd rfl e
    .exact .inl q
   .exact .inr q
set_option tactic.hygienic true in
theorem aoa:∀(l:Yf)(n:Nat)(Z:Xs)(x:Str),(x,NameKind.cell)∉l->(cellsFrom n l Z).lookup x=Z.lookup x
 |[],_,_,_,_=>rfl
 |(k,kd)::r,n,Z,x,h=>by
  have Y:(x,NameKind.cell)∉r:=λq=>h (bx _ q)
  unfold cellsFrom;split
  .rename_i e
   rw[aoa r _ _ x Y,Dw,cu];intro z;exact h (by rw[z,eq_of_beq e];exact di)
  .exact aoa r _ _ x Y
set_option tactic.hygienic true in
theorem afh:∀(l:Yf)(n:Nat)(Z:Xs),(∀x c,Z.lookup x=some c->c<n)->(∀x y c,Z.lookup x=some c->Z.lookup y=some c->x=y)->∀x y c,(cellsFrom n l Z).lookup x=some c->(cellsFrom n l Z).lookup y=some c->x=y
 |[],_,_,_,h=>h
 |(k,kd)::r,n,Z,lt,h=>by
  unfold cellsFrom;split
  .refine afh r _ _ (λx c q=>?_) (λx y c Y G=>?_)
   .rw[Dw] at q
    split at q
    .cases q;exact uf n
    .exact qg (lt x c q)
   .rw[Dw] at Y G
    split at Y<;>split at G
    .rename_i a b;rw[a,b]
    .cases Y;exact absurd (lt y _ G) (jr _)
    .cases G;exact absurd (lt x _ Y) (jr _)
    .exact h x y c Y G
  .exact afh r _ _ lt h
set_option tactic.hygienic true in
theorem Z6:∀(l:Yf)(h:Heap)(Z:Xs),(∀x c,Z.lookup x=some c->∃v,h.IsCell c v)->∀x c,(cellsFrom h.objs.size l Z).lookup x=some c->∃v,(pushCells h l).IsCell c v
 |[],_,_,k,x,c,q=>k x c q
 |(n,kd)::r,h,Z,k,x,c,q=>by
  unfold cellsFrom at q;unfold pushCells;split at q
  .rename_i e
   rw[dh e];have sz:(h.push { cls:=.type "cell",data:=.cell none }).objs.size=h.objs.size+1:=jk _ _;rw[<- sz] at q;refine Z6 r _ _ (λx c q=>?_) x c q;rw[Dw] at q;split at q
   .cases q;exact⟨none,_,bh _ rfl,rfl⟩
   .obtain⟨v,Y⟩:=k x c q
    exact⟨v,Y.keeps λb o e=>ao _ e⟩
  .rename_i e
   rw[cu e];exact Z6 r _ _ k x c q
set_option tactic.hygienic true in
theorem V2(cells:Xs):∀(l:Yf)(Z:Xs)(x:Str)(c:Addr),(Dp cells l Z).lookup x=some c->(x,NameKind.free)∈l\/Z.lookup x=some c
 |[],_,_,_,h=>.inr h
 |(k,kd)::r,Z,x,c,h=>by
  unfold Dp at h;rcases V2 cells r _ x c h with q|q
  .exact .inl (bx _ q)
  .split at q
   .rename_i e
    rw[Dw] at q;split at q
    .rename_i z
     exact .inl (by rw[z,eq_of_beq e];exact di)
    .exact .inr q
   .exact .inr q
def aji(h:Q { scope:=scope,locals:=s.heap.objs.size,globals:=globals,cells:=cellsFrom (s.heap.objs.size+1) scope.names cl,qual:=qual,func:=none,code:=around.code,frame:=around.frame,builtins:=around.builtins } { s with heap:=pushCells (s.heap.push { cls:=.type "dict",data:=.dict #[] }) scope.names }) :
 wpAny M A (newFunctionEnv scope globals cl [] qual none .none (some around)) Q E s:=by
 simp only[newFunctionEnv,Option.isSome_some,o5];refine aa (wpAny_alloc ?_);refine aa (wpAny_layCells _ (λG Z cells=>by cases hkc:Z==NameKind.cell<;>simp[hkc]) _ _ _ _ ?_);rw[show({ s with heap:=s.heap.push { cls:=.type "dict",data:=.dict #[] } }:Shared).heap.objs.size=s.heap.objs.size+1 from jk ..];exact aa (ak (ak h))
def Mm(X:Cx)(N:Ya)(Z:Scope)(C:Addr)(G:X0)(s:Shared)(H:Hp):Cx where
 prog:=X.prog
 w:=X.w
 K:=X.K
 mg:=X.mg
 base:=X.base
 A:=X.A
 N:=N
 s₀:=s
 H₀:=H
 env:=compEnvC Z (cellsFrom (C+1) Z.names (Dp X.env.cells Z.names [])) C X.env
 outer:=X.stack
 stack:=X.stack
 ex:=G
 fn:=λx=>Z.names.lookup x==some .cell
 calm:=X.calm
 pn:=[]
 xe:=λ_ _=>False
structure Et(X:Cx)(N:Ya)(scope:Scope):Prop where
 kind:scope.kind=.function
 locs:∀y∈scope.names,y.2=.local->scope.names.lookup y.1=some .local
 frees:∀y∈scope.names,y.2=.free->X.env.kindOf y.1=some .cell\/X.env.kindOf y.1=some .free
 uniq:∀x k,(x,k)∈scope.names->scope.names.lookup x=some k
 long:X.N.length<=N.length
 vis:∀i x,i<X.N.length->N[i]?=some x->Vis (relabel scope X.env) x->X.N[i]?=some x/\scope.names.lookup x=some .free
theorem Et.cells(B:Et X N scope)(ok:X.Ok):∀y∈scope.names,y.2=.free->∃c,X.env.cells.lookup y.1=some c:=λy G Z=>ok.has y.1 (B.frees y G Z)
def Et.clos(B:Et X N scope)(ok:X.Ok):closureFor scope X.env=pure (Dp X.env.cells scope.names []):=N5 (B.cells ok)
def Et.inCells(B:Et X N scope)(ok:X.Ok)(h:(Dp X.env.cells scope.names []).lookup x=some c):X.env.cells.lookup x=some c:=by
 rcases V0 _ _ _ _ _ (B.cells ok) h with q|q
 .simp at q
 .exact q
def ab8{X:Cx}(x:Str):(compEnvC scope cl C X.env).kindOf x=(scope.names.lookup x).map λk=>if(k==NameKind.free&&X.env.scope.kind==.function&&X.env.kindOf x==some .cell) then NameKind.cell else k:=by show(relabel scope X.env).names.lookup x=_;exact N6
def Et.afi(B:Et X N scope)(ok:X.Ok)(h:(cellsFrom (C+1) scope.names (Dp X.env.cells scope.names [])).lookup x=some c):(scope.names.lookup x=some .cell/\C+1<=c)\/X.env.cells.lookup x=some c:=by
 rcases ag8 _ _ _ _ _ h with⟨q,l⟩|q
 .exact .inl ⟨B.uniq _ _ q,l⟩
 .exact .inr (B.inCells ok q)
def ajj(B:Et X N scope)(I:Inv X pins σ H s)(hf:∀b∈fp,Ur X pins H b)(q0:∀b∈fp,∃o,s.heap.get? b=some o)(Z4:Z.Ns (s.heap.objs.size+1) λ_=>none)(hk:∀b o,s.heap.get? b=some o->Z.get? b=some o)(Ew:Z.get? s.heap.objs.size=some { cls:=.type "list",data:=.seq ([]:Zl).toArray })(qv:∀x c,(cellsFrom (s.heap.objs.size+1+1) scope.names (Dp X.env.cells scope.names [])).lookup x=some c->∃v,Z.IsCell c v) :
 Inv (Mm X N scope (s.heap.objs.size+1) fp s H) [] (σ++List.replicate (N.length-X.N.length) none) (upd H s.heap.objs.size (.lst [])) { s with heap:=Z,toks:=t }:=by
 have ok:=I.ok;have hD:H s.heap.objs.size=none:=I.zb.fresh (bf _);have hC:H (s.heap.objs.size+1)=none:=I.zb.fresh (vy _);have q4:s.heap.objs.size+1≠s.heap.objs.size:=Nat.succ_ne_self _;have lt:∀b∈fp,b<s.heap.objs.size:=λb hb=>by obtain⟨o,e⟩:=q0 b hb;exact bc e
 have qk:∀x c,X.env.cells.lookup x=some c->c<s.heap.objs.size:=λx c e=>by obtain⟨v,o,ho,_⟩:=I.cell x c e;exact bc ho
 refine⟨⟨ok.mod,B.kind,ok.glob,ok.blt,vy _,?_,?_,?_,ok.hd,ok.frames,.inl rfl,?_,λb o e=>I.bs b o e,ig ok.bsz I.sz,?_,?_,I.stack,I.Qz⟩,rfl,I.bare,?_,?_,?_,?_,?_,?_,?_,?_⟩
 .intro x y c hx hy
  refine afh scope.names (s.heap.objs.size+1+1) (Dp X.env.cells scope.names []) (λx c q=>?_) (λx y c q1 q2=>ok.inj x y c (B.inCells ok q1) (B.inCells ok q2)) x y c hx hy;exact qg (qg (qk x c (B.inCells ok q)))
 .intro x hx
  rw[show(Mm X N scope (s.heap.objs.size+1) fp s H).env.kindOf x=_ from ab8 x] at hx;cases e:scope.names.lookup x with
  |none=>rw[e] at hx;rcases hx with q|q<;>simp at q
  |some k =>
   have Pa:k=.free\/k=.cell:=by
    rw[e] at hx;cases k with
    |free=>exact .inl rfl|cell=>exact .inr rfl|«local»=>rcases hx with q|q<;>simp at q
    |globalExplicit=>rcases hx with q|q<;>simp at q
    |globalImplicit=>rcases hx with q|q<;>simp at q
   rcases Pa with rfl|rfl
   .exact Z5 _ _ _ _ (.inr (Kg _ _ _ _ (mem_of_lookup e)))
   .exact Z5 _ _ _ _ (.inl (mem_of_lookup e))
 .intro x c h hc
  have h:scope.names.lookup x=some .cell:=eq_of_beq h;show s.heap.objs.size<=c
  rcases ag8 _ _ _ _ _ hc with⟨_,l⟩|q
  .exact ig (Av _ 2) l
  .rcases V2 _ _ _ _ _ q with z|z
   .rw[B.uniq _ _ z] at h;cases h
   .cases z
 .intro b hb
  refine⟨λe=>?_,λx c hc e=>?_⟩
  .have q:=lt b hb
   have e:b=s.heap.objs.size+1:=e;rw[e] at q;exact absurd q (Nat.not_lt.mpr (vy _))
  .obtain⟨_,_,_,_,f4,_⟩:=hf b hb
   rcases B.afi ok hc with⟨_,l⟩|hc
   .have q:=lt b hb
    rw[<- e] at q;exact absurd (dm (qg (qg q)) l) (jr _)
   .exact f4 x c hc e
 .intro b o e hb
  obtain⟨_,_,_,f3,_⟩:=hf b hb;rcases f3 with q|q
  .exact ok.abq b o e q
  .exact jr _ (dm (bc e) (ig ok.bsz q))
 .intro b hb q
  obtain⟨_,f1,f2,_⟩:=hf b hb;rcases cj.mp (I.K8 b q) with z|z
  .exact f1 z
  .exact f2 z
 .exact Un.laid hk (bf _) hD
 .refine⟨_,Z4,λi x v hN G hv=>?_⟩
  have hi:i<X.N.length:=by
   rcases uy i σ.length with q|q
   .rw[I.len] at q;exact q
   .rw[iu q] at G
    rw[w5] at G;split at G<;>simp at G
  rw[dj (by rw[I.len];exact hi)] at G;obtain⟨hx,Pa⟩:=B.vis i x hi hN hv;obtain⟨m,_,hl⟩:=I.loc;have qq:=B.frees _ (mem_of_lookup Pa) rfl;have q3:Vis X.env.scope x:=by
   rcases qq with q|q
   .exact .inr (.inl q)
   .exact .inr (.inr q)
  obtain⟨u,ru,lu⟩:=hl i x v hx G q3;refine⟨u,ru,.inr ⟨?_,?_⟩⟩
  .rw[show(Mm X N scope (s.heap.objs.size+1) fp s H).env.kindOf x=_ from ab8 x,Pa]
   simp only[xj];split
   .exact .inl rfl
   .exact .inr rfl
  .rcases lu with⟨q,_⟩|⟨_,c,hc,ic⟩
   .rcases qq with z|z<;>rw[q] at z<;>cases z
   .obtain⟨c',R⟩:=Kg X.env.cells scope.names [] x (mem_of_lookup Pa)
    have:=B.inCells ok R;rw[hc] at this;cases this;refine⟨c,?_,ic.keeps hk⟩;show(cellsFrom (s.heap.objs.size+1+1) scope.names (Dp X.env.cells scope.names [])).lookup x=some c;rw[aoa _ _ _ _ λz=>by rw[B.uniq _ _ z] at Pa;cases Pa];exact R
 .exact qv
 .show upd H s.heap.objs.size (.lst []) (s.heap.objs.size+1)=none
  rw[jb q4];exact hC
 .intro x c hc
  rcases B.afi ok hc with⟨_,l⟩|R
  .have l:s.heap.objs.size+1+1<=c:=l
   rw[jb (yc (dm (qg (uf _)) l))];exact I.zb.fresh (ig (Av _ 2) l)
  .rw[jb (gh (qk x c R))]
   exact I.Dk x c R
 .intro p hp;simp[Mm] at hp
 .exact Ml.laid I.zb hk (bf _) ⟨jy _,[],0,.nil,Ew⟩
 .show(σ++List.replicate (N.length-X.N.length) none).length=N.length
  rw[v7,yq,I.len];have:=B.long;omega
def N7(I:Nat->Shared->Prop)(q7:∀n s,I n s->wpAny (model prog w) A (pyNext it) (λr Z=>match r with
 |none=>R (.ok .next) Z
 | some v=>wpAny (model prog w) A (letOwnedTupleGo target it v) (λ_ qk=>wpAny (model prog w) A (assign target env v) (λ_ qv =>
  wpAny (model prog w) A (forIn ifs true λc r=>if r=true then do let ok <- isTrue c env (eval c env);pure (ForInStep.yield ok) else pure (ForInStep.yield r)) (λok qq =>
   if ok=true then wpAny (model prog w) A (eval elt env) (λx q1 =>
    wpAny (model prog w) A (call (.builtin "list.append") [acc,x]) (λ_ q3=>∃m,m<n/\I m q3) (λ_ _=>False) q1) (λ_ _=>False) qq
   else ∃m,m<n/\I m qq) (λ_ _=>False) qv) (λ_ _=>False) qk) (λ_ _=>False) Z) (λ_ _=>False) s)(n:Nat)(h:I n s) :
 codeAny (model prog w) A (.compLoop (.ListComp elt [⟨target,iter,ifs,0⟩] scope pos) 0 it acc env) R s:=by
 have nv:∀{α:Type}{t:Sem α}{Q:α->Shared->Prop}{E:Y1}{s:Shared},wpAny (model prog w) A t Q (λ_ _=>False) s->wpAny (model prog w) A t Q E s:=λh=>ji h (λ_ _ q=>q) λ_ _ f=>f.elim
 refine codeAny_loop rfl I (λn s hI=>?_) n h;show wpAny _ A ((compTurn (.ListComp elt [⟨target,iter,ifs,0⟩] scope pos) 0 it acc env).onRaise (λx=>do noteFrame x env;theTreesLotGoes x)) _ _ s;refine wpAny_noted ?_;rw[compTurn_list];refine aa (wpAny_standAt (aa (ji (q7 n s hI) (λr Z q0=>?_) λ_ _ G=>G.elim)));cases r with
 |none=>exact ak q0
 |some v =>
  refine aa (ji q0 (λ_ qk q4=>?_) λ_ _ G=>G.elim);refine aa (ji q4 (λ_ qv q8=>aa (ji q8 (λok qq q2=>?_) λ_ _ G=>G.elim)) λ_ _ G=>G.elim);cases ok with
  |false=>exact ak ⟨rfl,q2⟩
  |true =>
   exact aa (aa (ji q2 (λx q1 q5=>aa (ji q5 (λ_ q3 q6=>ak (ak ⟨rfl,q6⟩)) λ_ _ G=>G.elim)) λ_ _ G=>G.elim))
def ab9(k:Nat)(wi:TI)(g:TG)(tc:TT)(te:TE):TE:=λR H Q=>wi R H λJ H1=>∀D,H1 D=none->∃W:Nat->Nat->Hp->Prop,(∃m,W 0 m (upd H1 D (.lst [])))/\∀i m H,W i m H ->
 (J.stop i H/\Q (.ref D) H)\/(J.go i H/\∀x H',J.yld i H x H'->g x (R++List.replicate k none) H' λZ H2=>Z.length=(R++List.replicate k none).length /\
  (∀(j:Nat) v,(R++List.replicate k none)[j]?=some (some v)->Z[j]?=some (some v))/\tc Z H2 λb H3 =>
   if b=true then te Z H3 λv H4=>∃xs G,H4 D=some (.lst xs)/\xs.length<sizeLine/\G<m/\W (i+1) G (upd H4 D (.lst (xs++[v]))) else ∃G,G<m/\W (i+1) G H3)
def PTs(X:Cx)(Z:Y3)(G:TT):Prop:=(Z=[]/\G=λ_ H Q=>Q true H)\/∃c,Z=[c]/\PT X c G
def Yi(I:Inv X pins σ H s)(Z:∀b∈fp,Ur X pins H b)(J:Inv (Mm X N scope (s.heap.objs.size+1) fp s H) [] R H3 s3):Inv X pins σ H3 s3/\∃m,s3.heap.Ns (s.heap.objs.size+1) m:=by
 refine⟨I.call' J.os J.base J.zb J.bare λb hb=>?_,?_⟩
 .obtain⟨_,f1,_,f3,f4,f5⟩:=Z b hb
  exact⟨f3,f1,f4,f5⟩
 .obtain⟨m,G,_⟩:=J.loc
  exact⟨m,G⟩
def ajk(I:Inv X pins σ H s)(I3:Inv X pins σ G s3)(R:G (s.heap.objs.size+1)=none)(hs:Heap.SameBut (s.heap.objs.size+1) s3.heap h'):Inv X pins σ G { s3 with heap:=h' }:=by
 have big:∀b o,s.heap.get? b=some o->b≠s.heap.objs.size+1:=λb o e z=>by have:=bc e;rw[z] at this;exact absurd this (Nat.not_lt.mpr (vy _))
 refine I3.turned (t':=s3.toks) (λb o hb e=>hs.extBut b o hb e) R ?_ (.inr (ig I.sz (vy _))) ?_ ?_
 .intro e
  obtain⟨m,⟨o,_,_,Z,_⟩,_⟩:=I.loc;exact big _ o Z e.symm
 .intro x c hc
  obtain⟨v,o,Z,_⟩:=I.cell x c hc;exact big c o Z
 .intro p hp
  exact big p.1 p.2 (I.pin p hp).1
def V3{RR:Value->Addr->Result->Shared->Prop}(B:Et X N scope)(Es:X.calm=true)(I:Inv X pins σ H s)(hf:∀b∈G,Ur X pins H b)(T:Turn X.prog X.w X.K tg J G it tn)(h0:tn 0 s.heap)(hg:∀C s H,PG (Mm X N scope C G s H) tg g)(hc:∀C s H,PTs (Mm X N scope C G s H) ifs tc)(he:∀C s H,PE (Mm X N scope C G s H) elt te){Q:VK}(W:Nat->Nat->Hp->Prop)(w0:W 0 m0 (upd H s.heap.objs.size (.lst [])))(zw:∀i m H,W i m H->(J.stop i H/\Q (.ref s.heap.objs.size) H)\/(J.go i H/\∀x H',J.yld i H x H'->g x (σ++List.replicate (N.length-X.N.length) none) H' λq0 H2=>q0.length=(σ++List.replicate (N.length-X.N.length) none).length /\
 (∀(j:Nat) v,(σ++List.replicate (N.length-X.N.length) none)[j]?=some (some v)->q0[j]?=some (some v))/\tc q0 H2 λb H3 =>
  if b=true then te q0 H3 λv H4=>∃xs R,H4 s.heap.objs.size=some (.lst xs)/\xs.length<sizeLine/\R<m/\W (i+1) R (upd H4 s.heap.objs.size (.lst (xs++[v]))) else ∃R,R<m/\W (i+1) R H3))(z9:∀z3 H3 s3,Inv (Mm X N scope (s.heap.objs.size+1) G s H) [] z3 H3 s3->Q (.ref s.heap.objs.size) H3->RR (.ref s.heap.objs.size) (s.heap.objs.size+1) (.ok .next) s3) :
 wpAny (model X.prog X.w) X.A (newList []) (λz0 z5=>wpAny (model X.prog X.w) X.A (newFunctionEnv scope X.env.globals (Dp X.env.cells scope.names []) [] X.env.qual none .none (some X.env)) (λq4 z4 =>
  codeAny (model X.prog X.w) X.A (.compStart (.ListComp elt [⟨tg,iter,ifs,0⟩] scope pos) 0 (.ref it) z0 { q4 with scope:=relabel scope X.env }) (RR z0 q4.locals) z4) E z5) E s:=by
 refine t7 (aji ?_);have zk:(s.heap.push { cls:=.type "list",dict:=none,data:=.seq ([]:Zl).toArray }).objs.size=s.heap.objs.size+1:=jk _ _;obtain⟨Z,eh⟩:∃Z,Z=pushCells ((s.heap.push { cls:=.type "list",dict:=none,data:=.seq ([]:Zl).toArray }).push { cls:=.type "dict",data:=.dict #[] }) scope.names:=⟨_,rfl⟩;have up:∀b o,(s.heap.push { cls:=.type "list",dict:=none,data:=.seq ([]:Zl).toArray }).get? b=some o->Z.get? b=some o:=λb o e=>by rw[eh];exact pushCells_keeps _ _ b o (ao _ e)
 have q5:∀b o,s.heap.get? b=some o->Z.get? b=some o:=λb o e=>up b o (ao _ e)
 have Ew:Z.get? s.heap.objs.size=some { cls:=.type "list",data:=.seq ([]:Zl).toArray }:=up _ _ (bh _ rfl);have q2:Z.Ns (s.heap.objs.size+1) λ_=>none:=by rw[eh,<- zk];exact(Heap.Ns.new _ (.type "dict")).keeps (pushCells_keeps _ _)
 have yj:∀x c,(cellsFrom (s.heap.objs.size+1+1) scope.names (Dp X.env.cells scope.names [])).lookup x=some c->∃v,Z.IsCell c v:=by
  have z8:((s.heap.push { cls:=.type "list",dict:=none,data:=.seq ([]:Zl).toArray }).push { cls:=.type "dict",data:=.dict #[] }).objs.size=s.heap.objs.size+1+1:=by rw[jk,zk]
  rw[eh,<- z8];refine Z6 _ _ _ λx c q=>?_
  obtain⟨v,hv⟩:=I.cell x c (B.inCells I.ok q);exact⟨v,hv.keeps λb o e=>ao _ (ao _ e)⟩
 have q1:∀b∈G,∃o,s.heap.get? b=some o:=λb hb=>let ⟨o,e,_⟩:=T.obj 0 _ h0 b hb;⟨o,e⟩
 have I0:=ajj (t:=s.toks) B I hf q1 q2 q5 Ew yj;have zz:∀{H':Hp},(∀b∈G,H' b=none)->∀b∈G,Ur (Mm X N scope (s.heap.objs.size+1) G s H) [] H' b:=λhn b hb=>by
  obtain⟨f0,f1,f2,f3,f4,f5⟩:=hf b hb;refine⟨hn b hb,?_,?_,.inl hb,?_,λp hp=>(by simp[Mm] at hp)⟩
  .intro z
   obtain⟨o,e⟩:=q1 b hb;have:=bc e;rw[show b=s.heap.objs.size+1 from z] at this;exact absurd this (Nat.not_lt.mpr (vy _))
  .intro q
   rcases cj.mp (I.K8 b q) with z|z
   .exact f1 z
   .exact f2 z
  .intro x c hc
   rcases B.afi I.ok hc with⟨_,l⟩|hc
   .intro z
    obtain⟨o,e⟩:=q1 b hb;have q:=bc e;rw[<- z] at q;exact absurd (dm (qg (qg q)) l) (jr _)
   .exact f4 x c hc
 have z7:∀b∈G,upd H s.heap.objs.size (.lst []) b=none:=λb hb=>by obtain⟨o,e⟩:=q1 b hb;rw[jb (gh (bc e))];exact(hf b hb).1
 have q3:∀s':Shared,s'={ s with heap:=Z }->codeAny (model X.prog X.w) X.A (.compLoop (.ListComp elt [⟨tg,iter,ifs,0⟩] scope pos) 0 (.ref it) (.ref s.heap.objs.size) (compEnvC scope (cellsFrom (s.heap.objs.size+1+1) scope.names (Dp X.env.cells scope.names [])) (s.heap.objs.size+1) X.env))
  (RR (.ref s.heap.objs.size) (s.heap.objs.size+1)) s':=by
  rintro s' rfl;refine N7 (λn s'=>∃i qk H',Inv (Mm X N scope (s.heap.objs.size+1) G s H) [] qk H' s'/\(∀(j:Nat) v,(σ++List.replicate (N.length-X.N.length) none)[j]?=some (some v)->qk[j]?=some (some v))/\tn i s'.heap/\(∀b∈G,H' b=none)/\W i n H') ?_ m0
   ⟨0,_,_,I0,λ_ _ z=>z,T.keep 0 _ _ h0 (λb _ o e=>q5 b o e),z7,w0⟩
  rintro n s3 ⟨i,z3,H3,I3,k3,z1,z6,w3⟩;have z2:=I3.weak (σ':=σ++List.replicate (N.length-X.N.length) none) (by rw[I3.len];exact I0.len) k3;rcases zw i n H3 w3 with⟨zv,qn⟩|⟨go,step⟩
  .refine Cv (T.done (Mm X N scope (s.heap.objs.size+1) G s H) rfl rfl rfl Es i [] s3 _ H3 (λ_ _=>False) z2 (zz z6) z1 zv) λr s4 z_=>?_
   obtain⟨hr,I4⟩:=z_;subst hr;exact z9 _ _ _ I4 qn
  .refine Cv (T.item (Mm X N scope (s.heap.objs.size+1) G s H) rfl rfl rfl Es i [] s3 _ H3 (λ_ _=>False) z2 (zz z6) z1 go) λr s4 z_=>?_
   obtain⟨u,hr,h4⟩:=z_;subst hr;refine Cv h4 λ_ s5 z_=>?_
   obtain⟨x,H5,I5,r5,y5,zq,yk⟩:=z_;have yv:=I5.pinned (zz yk) (T.obj _ _ zq);refine Cv (hg _ _ _ _ s5 _ H5 x u _ yv r5 (step x H5 y5)) λ_ s6 z_=>?_
   obtain⟨qq,H6,I6,l6,k6,q6⟩:=z_;have qv:∀{Gi:Zp}{H7:Hp}{s7:Shared}{m:Nat},Inv (Mm X N scope (s.heap.objs.size+1) G s H) ([]++Sy G s5.heap) qq H7 s7->m<n->W (i+1) m H7 ->
    ∃m,m<n/\∃i qk H',Inv (Mm X N scope (s.heap.objs.size+1) G s H) [] qk H' s7/\(∀(j:Nat) v,(σ++List.replicate (N.length-X.N.length) none)[j]?=some (some v)->qk[j]?=some (some v))/\tn i s7.heap/\(∀b∈G,H' b=none)/\W i m H':=fun{_ H7 s7 m} I7 hm w7=>by
    refine⟨m,hm,i+1,qq,H7,I7.Ny,k6,T.keep _ _ _ zq λb hb o e=>(I7.pin (b,o) (iw _ (iw _ (K9 hb e)))).1,λb hb=>?_,w7⟩;obtain⟨o,e,d⟩:=T.obj _ _ zq b hb;exact(I7.pin (b,o) (iw _ (iw _ (K9 hb e)))).2.1
   have q8:wpAny (model X.prog X.w) X.A (forIn ifs true λc r=>if r=true then do let ok <- isTrue c (compEnvC scope (cellsFrom (s.heap.objs.size+1+1) scope.names (Dp X.env.cells scope.names [])) (s.heap.objs.size+1) X.env) (eval c (compEnvC scope (cellsFrom (s.heap.objs.size+1+1) scope.names (Dp X.env.cells scope.names [])) (s.heap.objs.size+1) X.env));pure (ForInStep.yield ok) else pure (ForInStep.yield r))
    (TP (Mm X N scope (s.heap.objs.size+1) G s H) ([]++Sy G s5.heap) qq λb H3 =>
     if b=true then te qq H3 λv H4=>∃xs R,H4 s.heap.objs.size=some (.lst xs)/\xs.length<sizeLine/\R<n/\W (i+1) R (upd H4 s.heap.objs.size (.lst (xs++[v]))) else ∃R,R<n/\W (i+1) R H3) (λ_ _=>False) s6:=by
    rcases hc (s.heap.objs.size+1) s H with⟨rfl,rfl⟩|⟨c,rfl,yy⟩
    .exact wpAny_tests_nil ⟨H6,I6,q6⟩
    .exact wpAny_tests_one (yy _ s6 qq H6 _ I6 q6)
   refine Cv q8 λok s7 z_=>?_
   obtain⟨H7,I7,q7⟩:=z_;cases ok with
   |false =>
    obtain⟨R,hm,w7⟩:=(show ∃R,R<n/\W (i+1) R H7 from q7);exact qv (Gi:=[]) I7 hm w7
   |true =>
    show wpAny _ _ _ _ _ _;refine Cv (he _ _ _ _ s7 qq H7 _ I7 q7) λx s8 z_=>?_
    obtain⟨v,H8,I8,r8,xs,R,hD,hl,hm,w8⟩:=z_;refine Cv (Yg _ s8 qq H8 (.ref s.heap.objs.size) [v] (.ref s.heap.objs.size) [x] (λ_ H'=>W (i+1) R H') I8 rfl (.cons r8 .nil) ⟨_,xs,v,rfl,rfl,hD,hl,w8⟩) λ_ s9 z_=>?_
    obtain⟨_,H9,I9,_,w9⟩:=z_;exact qv (Gi:=[]) I9 hm w9
 rw[<- eh,zk];exact codeAny_compStart_list (q3 _ rfl) (T.self _ 0 _ _ _ (T.keep 0 _ _ h0 (λb _ o e=>q5 b o e)) (q3 _ rfl))
def ag9(B:Et X N scope)(Es:X.calm=true)(hi:PI X tg iter wi)(hg:∀C Z s H,PG (Mm X N scope C Z s H) tg g)(hc:∀C Z s H,PTs (Mm X N scope C Z s H) ifs tc)(he:∀C Z s H,PE (Mm X N scope C Z s H) elt te)(hs:∀x,foldedSetIterable iter X.env x=pure x):PE X (.ListComp elt [⟨tg,iter,ifs,0⟩] scope pos) (ab9 (N.length-X.N.length) wi g tc te):=by intro G s σ H Q I h;rw[eval_ListComp];refine wpAny_comprehension_free (use:=none) rfl hs (B.clos I.ok) B.kind B.locs (Cv (hi G s σ H _ I h) λv s1 h1=>Cv h1 λqv s2 h2=>?_);obtain⟨it,Z,tn,J,H2,rfl,I2,T,qq,f2,q2⟩:=h2;obtain⟨W,⟨m0,w0⟩,R⟩:=q2 s2.heap.objs.size (I2.zb.fresh (bf _));refine V3 (RR:=λqk C=>compPost (model X.prog X.w) X.A X.xe none (EP X G σ Q) qk C) B Es I2 f2 T qq (λC s H=>hg C Z s H) (λC s H=>hc C Z s H) (λC s H=>he C Z s H) W w0 R ?_;intro q0 H3 s3 I3 q3;obtain⟨J3,m,hn⟩:=Yi I2 f2 I3;exact⟨m,hn,λh' O9=>⟨.ref s2.heap.objs.size,H3,ajk I2 J3 I3.free O9,rfl,q3⟩⟩
set_option tactic.hygienic true in
def aha(B:Et X N scope)(Es:X.calm=true)(hi:PI X tg iter wi)(hg:∀C G s H,PG (Mm X N scope C G s H) tg g)(hc:∀C G s H,PTs (Mm X N scope C G s H) ifs tc)(he:∀C G s H,PE (Mm X N scope C G s H) elt te)(hs:∀x,foldedSetIterable iter X.env x=pure x)(hN:X.N.Nodup)(hy:X.N[i]?=some y)(hl:X.env.scope.names.lookup y=some .local)(qq:swapsWith (.ListComp elt [⟨tg,iter,ifs,0⟩] scope pos) (some (.Name y py)) aob.line X.env=pure true) :
 PS X (.Assign [.Name y py] (.ListComp elt [⟨tg,iter,ifs,0⟩] scope pos) aob) (ai1 (ab9 (N.length-X.N.length) wi g tc te) (Vt i)):=by
 intro Z s σ H D I h;rw[exec_Assign_Name_used _ _ _ _ qq];refine aa (wpAny_standAt (aa ?_));show wpAny _ _ (do let _ <- comprehension (.ListComp elt [⟨tg,iter,ifs,0⟩] scope pos) scope X.env _ (newList []) false (eval iter X.env) (some (assign (.Name y py) X.env))) _ _ s;refine aa (ji (wpAny_comprehension_free (use:=some (assign (.Name y py) X.env)) (Q:=λ_ s'=>SP X Z D .next s') rfl hs (B.clos I.ok) B.kind B.locs
  (Cv (hi Z s σ H _ I h) λv s1 h1=>Cv h1 λq6 Y h2=>?_)) (λ_ s' hq=>ak (ak hq)) λ_ _ e=>e)
 obtain⟨it,G,tn,J,H2,rfl,L,T,qk,f2,q2⟩:=h2;obtain⟨W,⟨m0,w0⟩,R⟩:=q2 Y.heap.objs.size (L.zb.fresh (bf _));refine V3 (RR:=λq0 C=>compPost (model X.prog X.w) X.A X.xe (some (assign (.Name y py) X.env)) (λ_ s'=>SP X Z D .next s') q0 C) (Q:=λx H1=>Vt i x σ H1 D.nx) B Es L f2 T qk (λC s H=>hg C G s H) (λC s H=>hc C G s H) (λC s H=>he C G s H) W w0 R ?_;intro q7 H3 s3 I3 q3;obtain⟨J3,m,hn⟩:=Yi L f2 I3;have q1:=I3.free;obtain⟨oC,_,_,u,q5,_⟩:=id hn;have big:∀b o,Y.heap.get? b=some o->b≠Y.heap.objs.size+1:=λb o e z=>by have:=bc e;rw[z] at this;exact absurd this (Nat.not_lt.mpr (vy _))
 have S:Y.heap.objs.size+1≠X.env.locals:=λe=>by obtain⟨m,⟨o,_,_,ho,_⟩,_⟩:=L.loc;exact big _ o ho e.symm
 have J4:Inv X (Z++[(Y.heap.objs.size+1,oC)]) σ H3 s3:=J3.U7 λp hp=>by
  rcases dz.mp hp with q|q
  .exact J3.pin p (iw _ q)
  .have e:p=(Y.heap.objs.size+1,oC):=by simpa using q
   subst e;refine⟨u,q1,S,λhb=>?_,λv z=>by rw[q5] at z;cases z⟩;exact L.ayi (vy _) hb
 show wpAny (model X.prog X.w) X.A (assign (.Name y py) X.env (.ref Y.heap.objs.size)) _ _ s3;refine Cv (Q0 (pos:=py) hN hy (.inl hl) (.inr hl) (Z++[(Y.heap.objs.size+1,oC)]) s3 σ H3 (.ref Y.heap.objs.size) (.ref Y.heap.objs.size) D.nx J4 rfl q3) λ_ s4 z_=>?_
 obtain⟨qv,H4,I4,q4⟩:=z_;have pC:=I4.pin (Y.heap.objs.size+1,oC) (iw _ (iw _ (by simp)));refine⟨m,hn.at' λo e=>by rw[u] at e;cases e;exact pC.1,λh' O9=>⟨qv,H4,?_,q4⟩⟩;refine(I4.Ny).turned (t':=s4.toks) (λb o hb e=>O9.extBut b o hb e) pC.2.1 S (.inr (ig L.sz (vy _))) ?_ ?_
 .intro x c hc
  obtain⟨v,o,ho,_⟩:=L.cell x c hc;exact big c o ho
 .intro p hp
  exact big p.1 p.2 (L.pin p hp).1
def azu{CX:CXT}{P:Program}{w:World}{K:Fg}{mg:Zs}{qk:Heap}{k:Nat}{f:Addr}{q2 R:Str}{qv:Arguments}{q0:List Stmt}{Z:Scope}{dV kV q4 pm qq ct oc:Value}{an od:Option Addr}
 {q6:Array (Option Value)} {N ps:Ya} {A:Around} {G:List Env} {s:Shared} {H:Hp} {q3:Args} {us:Zl} {vs:List V} {Q:VK} {E:XK} (lk:K.lookup f=some ⟨oc,od,.func (PySem.W.fnOf q2 R qv q0 Z dV kV q4 pm an qq ct),q6⟩) (Xz:PySem.W.codeIn K qq R=true) (S:Q3 N ps Z)
 (hl:vs.length=ps.length) (hr:Ah (k+1) A) (e0:Zu P w K mg qk A G s H) (hb:BindsTo s (PySem.W.fnOf q2 R qv q0 Z dV kV q4 pm an qq ct) q3 (ps.zip us)) (r:Vals vs us)
 (Vu:Ah k (A.deeper (envOfC R Z s.heap.objs.size f qq))->∃t,Pb (Kd CX P w K mg qk N R Z f qq A G s H E) q0 t/\t { nx:=λ_ H'=>Q .non H',rt:=Q } (start N vs) H) :
 codeAny (model P w) A (.call (.ref f) q3) (CR CX G P w H s Q E) s:=by
 have KX:K.In s.heap:=e0.mod.kin.keeps λb o e=>(e0.bs b o e).1
 have q5:s.heap.NoLimit:=e0.mod.nolimit.keeps λb o e=>(e0.bs b o e).1
 have q7:∀y∈ps.zip us,Z.names.lookup y.1=some .local\/(Z.names.lookup y.1=some .cell/\((cellsFrom (s.heap.objs.size+1) Z.names []).lookup y.1).isSome=true):=λ⟨n,v⟩ hy=>by
  rcases S.par n (List.of_mem_zip hy).1 with q|q
  .exact .inl q
  .exact .inr ⟨q,PySem.W.cellsFrom_some _ _ _ (.inl q)⟩
 refine codeAny_call_function hr.depth (KX _ _ lk) rfl S.co S.gen rfl (PySem.W.codeRec_of KX Xz) (hb _ _ _ _ ?_);refine wpAny_newFunctionEnv_cells S.kind q7 λq8 he s1 x=>?_
 subst he;refine⟨q5.keeps x.toInCall.keep,codeAny_func ?_⟩;obtain⟨t,ht,hq⟩:=Vu (hr.deeper _);have I:Inv (Kd CX P w K mg qk N R Z f qq A G s H E) [] (start N vs) H s1:=X7 S hr.hd e0 hl r x;refine ji (ht [] s1 (start N vs) H _ I hq) (λfl s' hs=>?_) λe s' hs=>hs
 have fin:∀{q1:St}{H':Hp}{v:V}{u:Value},Inv (Kd CX P w K mg qk N R Z f qq A G s H E) [] q1 H' s'->RelV v u->Q v H'->CE G P w H s Q u s' :=
  fun{q1 H' v u} J rv q=>⟨v,H',J.os,J.bare,J.base,J.zb,rv,q⟩
 cases fl with
 |ret u =>
  obtain⟨v,q1,H',J,rv,q⟩:=hs;exact fin J rv q
 |next =>
  obtain⟨q1,H',J,q⟩:=hs;exact fin (v:=V.non) (u:=Value.none) J rfl q
 |brk =>
  obtain⟨_,_,_,q⟩:=hs;exact False.elim q
 |cont =>
  obtain⟨_,_,_,q⟩:=hs;exact False.elim q
end L2
namespace Sm
open PySem L2
open MW (Ex Dn OEx Mq Cu rm Lv Tg Res dg MO Gf Cp Op2 Blt Bm Kx)
abbrev Dv:=MW.D
abbrev En:=MW.Env
structure Io where
 l:List Addr
 δ:List Addr
noncomputable def Io.add(Z:Io)(p:Addr):Io:=⟨Z.l++[p],Z.δ⟩
noncomputable def Io.hide(Z:Io)(p:Addr):Io:=⟨Z.l,p::Z.δ⟩
def Io.off(Z:Io)(a:Addr):Prop:=a∉Z.l/\a∉Z.δ
def Z7(K:Fg)(H:Hp)(a:Addr)(G:List V):Prop :=
 (∃o,H a=some (.Je o (.lst G))) \/
  ∃(o:Obj)(Z:Xt)(n:Nat),K.lookup a=some o/\o.cls=.type "list"/\o.dict=none/\o.data=.seq Z n/\Z.size<=sizeLine/\Vals G Z.toList
def Z7.sq(h:Z7 K H a vs):Hm K H a vs:=by
 rcases h with⟨o,h⟩|h
 .exact .inl (.inr ⟨o,h⟩)
 .exact .inr h
mutual
inductive Rep(K:Fg)(ι:Io)(H:Hp):Dv->V->Prop
 |non:Rep K ι H .non .non
 |bl (b:Bool):Rep K ι H (.bl b) (.bl b)
 |int (i:Int):Rep K ι H (.int i) (.int i)
 |str (s:Str):Rep K ι H (.str s) (.str s)
 |tup {a:Addr} {ds:List Dv} {vs:List V} (e:H a=some (.tup vs)) (r:mj K ι H ds vs):Rep K ι H (.tup ds) (.ref a)
 |vl {a:Addr} {ds:List Dv} {vs:List V} (e:H a=some (.lst vs)) (n:ι.off a) (r:mj K ι H ds vs):Rep K ι H (.vl ds) (.ref a)
 |fz {a:Addr} {ds:List Dv} {vs:List V} (e:Z7 K H a vs) (r:mj K ι H ds vs):Rep K ι H (.fz ds) (.ref a)
 |ref {n:Nat} {a:Addr} (e:ι.l[n]?=some a):Rep K ι H (.ref n) (.ref a)
inductive mj(K:Fg)(ι:Io)(H:Hp):List Dv->List V->Prop
 |nil:mj K ι H [] []
 |cons {d:Dv} {v:V} {ds:List Dv} {vs:List V} (h:Rep K ι H d v) (t:mj K ι H ds vs):mj K ι H (d::ds) (v::vs)
end
structure Le(ι:Io)(H:Hp)(ι':Io)(H':Hp):Prop where
 ext:∃Y,ι'.l=ι.l++Y/\∀a∈Y,H a=none
 del:ι'.δ=ι.δ
 tup:∀a vs,H a=some (.tup vs)->H' a=some (.tup vs)
 Je:∀a o u,H a=some (.Je o u)->H' a=some (.Je o u)
 lst:∀a vs,a∉ι.l->H a=some (.lst vs)->H' a=some (.lst vs)
 dom:∀a,H' a=none->H a=none
def Le.refl(Z:Io)(H:Hp):Le Z H Z H:=⟨⟨[],by simp,by simp⟩,rfl,λ_ _ h=>h,λ_ _ _ h=>h,λ_ _ _ h=>h,λ_ h=>h⟩
def Hf{H H':Hp}(R:∀a u,H a=some u->∃G,H' a=some G)(h:H' a=none):H a=none:=by
 cases e:H a with
 |none=>rfl|some u=>obtain⟨G,Z⟩:=R a u e;rw[h] at Z;cases Z
def Le.get(l:Le G H Z R){n:Nat}(h:G.l[n]?=some a):Z.l[n]?=some a:=by obtain⟨Y,e,_⟩:=l.ext;rw[e,dj (aj.mp h).1];exact h
def Le.azv(l:Le ι H Z H')(h:a∉ι.l)(G:H a=some o):a∉Z.l:=by
 obtain⟨Y,e,R⟩:=l.ext;rw[e];intro m;rcases dz.mp m with q|q
 .exact h q
 .rw[R a q] at G;cases G
def Le.out(l:Le R H Z H')(h:R.off a)(G:H a=some o):Z.off a:=⟨l.azv h.1 G,by rw[l.del];exact h.2⟩
theorem Le.trans(a:Le ι H qq H1)(b:Le qq H1 R H2):Le ι H R H2:=by
 obtain⟨Y,e1,h1⟩:=a.ext;obtain⟨Z,e2,h2⟩:=b.ext;refine⟨⟨Y++Z,by rw[e2,e1,qd],λx m=>?_⟩,b.del.trans a.del,λx G h=>b.tup x G (a.tup x G h),λx o u h=>b.Je x o u (a.Je x o u h),λx G n h=>b.lst x G (a.azv n h) (a.lst x G n h),λx h=>a.dom x (b.dom x h)⟩;rcases dz.mp m with q|q
 .exact h1 x q
 .exact a.dom x (h2 x q)
structure LeX(ι:Io)(H:Hp)(ι':Io)(H':Hp):Prop where
 ext:∃Y,ι'.l=ι.l++Y/\∀a∈Y,H a=none
 del:∀a∈ι'.δ,a∈ι.δ\/H a=none
 tup:∀a vs,H a=some (.tup vs)->H' a=some (.tup vs)
 Je:∀a o u,H a=some (.Je o u)->H' a=some (.Je o u)
 lst:∀a vs,a∉ι.l->H a=some (.lst vs)->H' a=some (.lst vs)
def Le.toX(l:Le G H Z H'):LeX G H Z H':=⟨l.ext,λa h=>.inl (by rw[<- l.del];exact h),l.tup,l.Je,l.lst⟩
def LeX.get(l:LeX G H Z R){n:Nat}(h:G.l[n]?=some a):Z.l[n]?=some a:=by obtain⟨Y,e,_⟩:=l.ext;rw[e,dj (aj.mp h).1];exact h
def LeX.out(l:LeX ι H G H')(h:ι.off a)(Z:H a=some o):G.off a:=by
 obtain⟨Y,e,R⟩:=l.ext;refine⟨λm=>?_,λm=>?_⟩
 .rw[e] at m
  rcases dz.mp m with q|q
  .exact h.1 q
  .rw[R a q] at Z;cases Z
 .rcases l.del a m with q|q
  .exact h.2 q
  .rw[q] at Z;cases Z
structure Tr(K:Fg)(ι:Io)(H:Hp)(ι':Io)(H':Hp):Prop where
 tup:∀a vs,H a=some (.tup vs)->H' a=some (.tup vs)
 vl:∀a vs,H a=some (.lst vs)->ι.off a->H' a=some (.lst vs)/\ι'.off a
 fz:∀a vs,Z7 K H a vs->Z7 K H' a vs
 rf:∀(n:Nat) a,ι.l[n]?=some a->ι'.l[n]?=some a
mutual
theorem Rep.tr{K:Fg}{R Z:Io}{H G:Hp}(l:Tr K R H Z G):∀{d:Dv}{v:V},Rep K R H d v->Rep K Z G d v
 |_,_,.non=>.non|_,_,.bl b=>.bl b|_,_,.int i=>.int i|_,_,.str s=>.str s|_,_,.tup e r=>.tup (l.tup _ _ e) (mj.tr l r)|_,_,.vl e n r=>.vl (l.vl _ _ e n).1 (l.vl _ _ e n).2 (mj.tr l r)|_,_,.fz e r=>.fz (l.fz _ _ e) (mj.tr l r)|_,_,.ref e=>.ref (l.rf _ _ e)
theorem mj.tr{K:Fg}{ι Z:Io}{H R:Hp}(l:Tr K ι H Z R):∀{ds:List Dv}{G:List V},mj K ι H ds G->mj K Z R ds G
 |_,_,.nil=>.nil|_,_,.cons h t=>.cons (Rep.tr l h) (mj.tr l t)
end
def LeX.tr(l:LeX G H Z H'):Tr K G H Z H':=⟨l.tup,λa R e n=>⟨l.lst _ _ n.1 e,l.out n e⟩,λa R e=>by
 rcases e with⟨o,e⟩|e
 .exact .inl ⟨o,l.Je _ _ _ e⟩
 .exact .inr e,λ_ _ e=>l.get e⟩
def Rep.Mf(l:LeX R H Z G)(r:Rep K R H d v):Rep K Z G d v:=r.tr l.tr
def mj.Mf(l:LeX R H Z G)(r:mj K R H ds vs):mj K Z G ds vs:=r.tr l.tr
def Rep.mono(l:Le R H Z G)(r:Rep K R H d v):Rep K Z G d v:=r.Mf l.toX
def mj.mono(l:Le R H Z G)(r:mj K R H ds vs):mj K Z G ds vs:=r.Mf l.toX
theorem mj.length{K:Fg}{R:Io}{H:Hp}:∀{Z:List Dv}{G:List V},mj K R H Z G->Z.length=G.length:=by intro A B h;induction A generalizing B with|nil=>cases h;rfl|cons d A ih=>cases h with|cons _ t=>rw[jw,jw,ih t]
theorem mj.get{K:Fg}{G:Io}{H:Hp}:∀{R:List Dv}{Z:List V}{i:Nat}{d:Dv},mj K G H R Z->R[i]?=some d->∃v,Z[i]?=some v/\Rep K G H d v
 |_,_,_,_,.nil,e=>by simp at e|_,_,0,_,.cons h _,e=>by simp at e;subst e;exact⟨_,rfl,h⟩
 |_,_,i+1,d,.cons _ t,e=>by
  obtain⟨v,h1,h2⟩:=mj.get (i:=i) t (by simpa using e);exact⟨v,by simpa using h1,h2⟩
theorem mj.set{K:Fg}{Z:Io}{H:Hp}{d:Dv}{v:V}(r:Rep K Z H d v):∀{G:List Dv}{R:List V}(i:Nat),mj K Z H G R->mj K Z H (G.set i d) (R.set i v)
 |_,_,_,.nil=>.nil|_,_,0,.cons _ t=>.cons r t|_,_,i+1,.cons h t=>.cons h (mj.set r i t)
theorem mj.append{K:Fg}{Z:Io}{H:Hp}:∀{ds es:List Dv}{G R:List V},mj K Z H ds G->mj K Z H es R->mj K Z H (ds++es) (G++R):=by intro A _ B _ h r;induction A generalizing B with|nil=>cases h;exact r|cons d A ih=>cases h with|cons h t=>exact .cons h (ih t)
theorem mj.drop{K:Fg}{G:Io}{H:Hp}:∀{Z:List Dv}{R:List V}(n:Nat),mj K G H Z R->mj K G H (Z.drop n) (R.drop n)
 |_,_,0,r=>r|_,_,_+1,.nil=>.nil|_,_,n+1,.cons _ t=>mj.drop n t
theorem mj.take{K:Fg}{G:Io}{H:Hp}:∀{Z:List Dv}{R:List V}(n:Nat),mj K G H Z R->mj K G H (Z.take n) (R.take n)
 |_,_,0,_=>.nil|_,_,_+1,.nil=>.nil|_,_,n+1,.cons h t=>.cons h (mj.take n t)
theorem mj.eraseIdx{K:Fg}{G:Io}{H:Hp}:∀{Z:List Dv}{R:List V}(n:Nat),mj K G H Z R->mj K G H (Z.eraseIdx n) (R.eraseIdx n)
 |_,_,_,.nil=>.nil|_,_,0,.cons _ t=>t|_,_,n+1,.cons h t=>.cons h (mj.eraseIdx n t)
theorem mj.ints{K:Fg}{G:Io}{H:Hp}:∀(Z:X9),mj K G H (Z.map MW.D.int) (Z.map V.int)
 |[]=>.nil|n::r=>.cons (.int n) (mj.ints r)
structure Nm where
 xc:Nat->Option Addr
 tb:Option (Addr×PySem.Pos×PySem.Str)
inductive xu{κ κ':Type}(K:Fg)(ι:Io)(H:Hp)(f:κ->κ'->Prop):List (κ×Dv)->List (κ'×V)->Prop
 |nil:xu K ι H f [] []
 |cons {k:κ} {k':κ'} {d:Dv} {v:V} {l:List (κ×Dv)} {l':List (κ'×V)} (hk:f k k') (h:Rep K ι H d v) (t:xu K ι H f l l'):xu K ι H f ((k,d)::l) ((k',v)::l')
theorem xu.mono{κ G:Type}{K:Fg}{ι Z:Io}{H H':Hp}{f:κ->G->Prop}(le:Le ι H Z H'):∀{l:List (κ×Dv)}{R:List (G×V)},xu K ι H f l R->xu K Z H' f l R:=by intro _ _ h;induction h with|nil=>exact .nil|cons k h t ih=>exact .cons k (h.mono le) ih
def Iw(nm:Nm)(K:Fg)(Z:Io)(H:Hp)(o:MO)(a:Addr):Prop :=
 match o with
 |.lst ds=>∃R,H a=some (.lst R)/\mj K Z H ds R|.dT jn=>∃l,H a=some (.dT l)/\xu K Z H (λk G=>k=G) jn l
 |.dK jn=>∃l,H a=some (.dK l)/\xu K Z H (λk G=>k=G) jn l
 |.exc c=>∃C,H a=some (.ext (XAt a C))/\nm.xc c=some C
def tab_keep(h:anr P p q H)(k:∀b u,H b=some u->¬Mut (some u)->H' b=some u):anr P p q H':=by
 obtain⟨G,R,Z⟩:=h;refine⟨G,k _ _ R (λz=>z),?_⟩;rcases Z with Z|⟨c,o,e,h3,h4⟩
 .exact .inl Z
 .exact .inr ⟨c,o,e,k _ _ h3 (λz=>z),h4⟩
structure lq(nm:Nm)(K:Fg)(ι:Io)(H:Hp)(M:dg):Prop where
 len:ι.l.length=M.length
 nd:ι.l.Nodup
 del:∀a∈ι.δ,a∉ι.l/\∃vs,H a=some (.lst vs)
 obj:∀(n:Nat)(o:MO)(a:Addr),M[n]?=some o->ι.l[n]?=some a->Iw nm K ι H o a
 tb:∀t,nm.tb=some t->anr t.1 t.2.1 t.2.2 H
theorem Iw.some(h:Iw nm K R H o a):∃u,H a=some u/\Mut (H a):=by
 cases o with
 |lst ds=>obtain⟨Z,e,_⟩:=h;exact⟨_,e,by rw[e];trivial⟩
 |dT G=>obtain⟨Z,e,_⟩:=h;exact⟨_,e,by rw[e];trivial⟩
 |dK G=>obtain⟨Z,e,_⟩:=h;exact⟨_,e,by rw[e];trivial⟩
 |exc c=>obtain⟨C,e,_⟩:=h;exact⟨_,e,by rw[e];trivial⟩
def lq.mem(S:lq nm K G H M)(h:a∈G.l):∃u,H a=some u/\Mut (H a):=by
 obtain⟨n,Z,rfl⟩:=qy h;have R:n<M.length:=by rw[<- S.len];exact Z
 exact(S.obj n M[n] G.l[n] (by simp[R]) (by simp[Z])).some
def lq.fresh(S:lq nm K Z H M)(h:H a=none):Z.off a:=by
 refine⟨λm=>?_,λm=>?_⟩
 .obtain⟨u,e,_⟩:=S.mem m
  rw[h] at e;cases e
 .obtain⟨_,G,e⟩:=S.del a m
  rw[h] at e;cases e
def Iw.move(h:Iw nm K ι H o a)(le:Le ι H G R)(e:R a=H a):Iw nm K G R o a:=by
 cases o with
 |lst ds=>obtain⟨Z,q,r⟩:=h;exact⟨Z,e.trans q,r.mono le⟩
 |dT jn=>obtain⟨Z,q,r⟩:=h;exact⟨Z,e.trans q,r.mono le⟩
 |dK jn=>obtain⟨Z,q,r⟩:=h;exact⟨Z,e.trans q,r.mono le⟩
 |exc c=>obtain⟨C,q,r⟩:=h;exact⟨C,e.trans q,r⟩
def lq.laid(S:lq nm K G H M)(h:H p=none)(o:HO):lq nm K G (upd H p o) M/\Le G H G (upd H p o):=by
 have Z:∀a u,H a=some u->a≠p:=λa u e=>mz e h
 have le:Le G H G (upd H p o):=⟨⟨[],by simp,by simp⟩,rfl,λa R e=>by rw[jb (Z a _ e)];exact e,λa _ u e=>by rw[jb (Z a _ e)];exact e,λa R _ e=>by rw[jb (Z a _ e)];exact e,
  λa h'=>Hf (λb u e=>⟨u,by rw[jb (Z b _ e)];exact e⟩) h'⟩
 refine⟨⟨S.len,S.nd,λa ha=>?_,λn o' a hn ha=>?_,λt ht=>tab_keep (S.tb t ht) λb u e _=>by rw[jb (Z b u e)];exact e⟩,le⟩
 .obtain⟨h1,R,h2⟩:=S.del a ha
  exact⟨h1,R,le.lst a R h1 h2⟩
 .have q:=S.obj n o' a hn ha
  obtain⟨u,e,_⟩:=q.some;exact q.move le (by rw[jb (Z a u e)])
def Cj{Z:Type}{l:List Z}{x y:Z}(h:(l++[x])[n]?=some y):(l[n]?=some y)\/(n=l.length/\y=x):=by
 rcases uy n l.length with q|q
 .rw[dj q] at h;exact .inl h
 .rw[iu q] at h
  have:n-l.length=0:=by
   rcases Nat.eq_zero_or_pos (n-l.length) with z|z
   .exact z
   .rw[m7 (by simp;exact z)] at h;cases h
  rw[this] at h;simp at h;exact .inr ⟨by lia,h.symm⟩
def lq.new(S:lq nm K Z H M)(h:H p=none)(G:∀a u,H a=some u->H' a=some u)(ho:Le Z H (Z.add p) H'->Iw nm K (Z.add p) H' o p):lq nm K (Z.add p) H' (M++[o])/\Le Z H (Z.add p) H':=by
 have le:Le Z H (Z.add p) H':=⟨⟨[p],rfl,by simpa using h⟩,rfl,λa vs e=>G _ _ e,λa _ u e=>G _ _ e,λa vs _ e=>G _ _ e,λa h'=>Hf (H:=H) (H':=H') (λb u e=>⟨u,G b u e⟩) h'⟩;refine⟨⟨by simp[Io.add,S.len],?_,λa R=>?_,λn o' a hn R=>?_,λt ht=>tab_keep (S.tb t ht) λb u e _=>G b u e⟩,le⟩
 .exact yz.mpr ⟨S.nd,by simp,by
   intro x hx y hy;have:y=p:=by simpa using hy
   subst this;intro e;subst e;exact(S.fresh h).1 hx⟩
 .obtain⟨h1,vs,h2⟩:=S.del a R
  exact⟨le.azv h1 h2,vs,G _ _ h2⟩
 .rcases Cj hn with q|⟨q,rfl⟩
  .rcases Cj R with r|⟨r,_⟩
   .have z:=S.obj n o' a q r
    obtain⟨u,e,_⟩:=z.some;exact z.move le ((G a u e).trans e.symm)
   .exact absurd (MW.zr q) (by rw[r,S.len];exact jr _)
  .rcases Cj R with r|⟨_,rfl⟩
   .exact absurd (aj.mp r).1 (by rw[q,S.len];exact jr _)
   .exact ho le
def lq.put(S:lq nm K G H M)(hn:M[n]?=some qq)(ha:G.l[n]?=some a)(ho:Le G H G (upd H a u)->Iw nm K G (upd H a u) o a):lq nm K G (upd H a u) (M.set n o)/\Le G H G (upd H a u):=by
 obtain⟨qv,qk,Z⟩:=(S.obj n qq a hn ha).some;have hm:a∈G.l:=au ha;have le:Le G H G (upd H a u):=⟨⟨[],by simp,by simp⟩,rfl,λb vs e=>by rw[jb (λz=>by subst z;rw[e] at Z;exact Z)];exact e,
  λb _ _ e=>by rw[jb (λz=>by subst z;rw[e] at Z;exact Z)];exact e,λb vs nb e=>by rw[jb (λz=>by subst z;exact nb hm)];exact e,λb h'=>Hf (λc w e=>by
   by_cases z:c=a
   .exact⟨u,by rw[z,qw]⟩
   .exact⟨w,by rw[jb z];exact e⟩) h'⟩
 refine⟨⟨by rw[List.length_set];exact S.len,S.nd,λb hb=>?_,λm o' b R hb=>?_,λt ht=>tab_keep (S.tb t ht) λb w e nm=>by rw[jb (λz=>by subst z;rw[e] at Z;exact nm Z)];exact e⟩,le⟩
 .obtain⟨h1,vs,h2⟩:=S.del b hb
  exact⟨h1,vs,le.lst b vs h1 h2⟩
 by_cases q:m=n
 .subst q
  rw[MW.wj hn] at R;cases R;rw[ha] at hb;cases hb;exact ho le
 .rw[MW.uh (j0 q)] at R
  have z:=S.obj m o' b R hb;have nb:b≠a:=λe=>by subst e;obtain⟨l1,e1⟩:=aj.mp hb;obtain⟨l2,e2⟩:=aj.mp ha;exact q ((Aq S.nd).mp (e1.trans e2.symm))
  exact z.move le (by rw[jb nb])
mutual
theorem Rep.hide{K:Fg}{G:Io}{H:Hp}{D:Addr}{o:HO}(Z:H D=none):∀{d:Dv}{v:V},Rep K G H d v->Rep K (G.hide D) (upd H D o) d v
 |_,_,.non=>.non|_,_,.bl b=>.bl b|_,_,.int i=>.int i|_,_,.str s=>.str s|_,_,.tup e r=>.tup (by rw[jb (mz e Z)];exact e) (mj.hide Z r)
 | _,_,.vl e n r=>.vl (by rw[jb (mz e Z)];exact e) ⟨n.1,λm=>by
  rcases cj.mp m with q|q
  .exact mz e Z q
  .exact n.2 q⟩ (mj.hide Z r)
 | _,_,.fz e r=>.fz (by
  rcases e with⟨q,e⟩|e
  .exact .inl ⟨q,by rw[jb (mz e Z)];exact e⟩
  .exact .inr e) (mj.hide Z r)
 |_,_,.ref e=>.ref e
theorem mj.hide{K:Fg}{R:Io}{H:Hp}{D:Addr}{o:HO}(Z:H D=none):∀{G:List Dv}{vs:List V},mj K R H G vs->mj K (R.hide D) (upd H D o) G vs
 |_,_,.nil=>.nil|_,_,.cons h t=>.cons (Rep.hide Z h) (mj.hide Z t)
end
mutual
theorem Rep.grow{K:Fg}{R:Io}{H:Hp}{D:Addr}{vs ws:List V}(Z:H D=some (.lst vs))(G:D∈R.δ):∀{d:Dv}{v:V},Rep K R H d v->Rep K R (upd H D (.lst ws)) d v
 |_,_,.non=>.non|_,_,.bl b=>.bl b|_,_,.int i=>.int i|_,_,.str s=>.str s|_,_,.tup e r=>.tup (by rw[jb (amg e Z (by intro z;cases z))];exact e) (mj.grow Z G r)|_,_,.vl e n r=>.vl (by rw[jb (λz=>by subst z;exact n.2 G)];exact e) n (mj.grow Z G r)
 | _,_,.fz e r=>.fz (by
  rcases e with⟨q,e⟩|e
  .exact .inl ⟨q,by rw[jb (amg e Z (by intro z;cases z))];exact e⟩
  .exact .inr e) (mj.grow Z G r)
 |_,_,.ref e=>.ref e
theorem mj.grow{K:Fg}{Z:Io}{H:Hp}{D:Addr}{vs ws:List V}(R:H D=some (.lst vs))(hm:D∈Z.δ):∀{ds:List Dv}{G:List V},mj K Z H ds G->mj K Z (upd H D (.lst ws)) ds G
 |_,_,.nil=>.nil|_,_,.cons h t=>.cons (Rep.grow R hm h) (mj.grow R hm t)
end
def Io.show(Z:Io)(H:Hp)(D:Addr):Tr K (Z.hide D) H Z H:=⟨λ_ _ e=>e,λ_ _ e n=>⟨e,n.1,λm=>n.2 (bx _ m)⟩,λ_ _ e=>e,λ_ _ e=>e⟩
theorem Rep.show(r:Rep K (Z.hide D) H d v):Rep K Z H d v:=r.tr (Z.show H D)
theorem mj.show(r:mj K (Z.hide D) H d v):mj K Z H d v:=r.tr (Z.show H D)
theorem xu.map{κ G:Type}{K:Fg}{ι Z:Io}{H H':Hp}{f:κ->G->Prop}(g:∀d v,Rep K ι H d v->Rep K Z H' d v):∀{l:List (κ×Dv)}{R:List (G×V)},xu K ι H f l R->xu K Z H' f l R:=by intro _ _ h;induction h with|nil=>exact .nil|cons k h t ih=>exact .cons k (g _ _ h) ih
theorem mj.map{K:Fg}{R Z:Io}{H G:Hp}(g:∀d v,Rep K R H d v->Rep K Z G d v):∀{l:List Dv}{l':List V},mj K R H l l'->mj K Z G l l':=by intro A B h;induction A generalizing B with|nil=>cases h;exact .nil|cons d A ih=>cases h with|cons h t=>exact .cons (g _ _ h) (ih t)
theorem Iw.map(g:∀d v,Rep K ι H d v->Rep K G R d v)(h:Iw nm K ι H o a)(e:R a=H a):Iw nm K G R o a:=by
 cases o with
 |lst ds=>obtain⟨Z,q,r⟩:=h;exact⟨Z,e.trans q,r.map g⟩
 |dT jn=>obtain⟨Z,q,r⟩:=h;exact⟨Z,e.trans q,r.map g⟩
 |dK jn=>obtain⟨Z,q,r⟩:=h;exact⟨Z,e.trans q,r.map g⟩
 |exc c=>obtain⟨C,q,r⟩:=h;exact⟨C,e.trans q,r⟩
theorem lq.hide(S:lq nm K ι H M)(Z:H D=none):lq nm K (ι.hide D) (upd H D (.lst [])) M:=by
 refine⟨S.len,S.nd,λa G=>?_,λn o a hn G=>?_,λt ht=>tab_keep (S.tb t ht) λb u e _=>by rw[jb (mz e Z)];exact e⟩
 .rcases cj.mp G with q|q
  .subst q;exact⟨(S.fresh Z).1,[],qw⟩
  .obtain⟨h1,vs,R⟩:=S.del a q
   exact⟨h1,vs,by rw[jb (mz R Z)];exact R⟩
 .have z:=S.obj n o a hn G
  obtain⟨u,e,_⟩:=z.some;exact z.map (λd v r=>r.hide Z) (by rw[jb (mz e Z)])
theorem lq.grow(S:lq nm K ι H M)(R:H D=some (.lst vs))(hm:D∈ι.δ):lq nm K ι (upd H D (.lst ws)) M:=by
 refine⟨S.len,S.nd,λa Z=>?_,λn o a hn Z=>?_,λt ht=>tab_keep (S.tb t ht) λb u e n=>by rw[jb (λz=>by subst z;rw[R] at e;cases e;exact n trivial)];exact e⟩
 .obtain⟨G,us,h2⟩:=S.del a Z
  by_cases z:a=D
  .subst z;exact⟨G,ws,qw⟩
  .exact⟨G,us,by rw[jb z];exact h2⟩
 .have z:=S.obj n o a hn Z
  have ne:a≠D:=λe=>by subst e;exact(S.del a hm).1 (au Z)
  exact z.map (λd v r=>r.grow R hm) (by rw[jb ne])
theorem lq.show(S:lq nm K (G.hide D) H M):lq nm K G H M :=
 ⟨S.len,S.nd,λa Z=>S.del a (bx _ Z),λn o a R Z=>(S.obj n o a R Z).map (λd v r=>r.show) rfl,S.tb⟩
structure LeD(D:Addr)(ι:Io)(H:Hp)(ι':Io)(H':Hp):Prop where
 ext:∃Y,ι'.l=ι.l++Y/\∀a∈Y,H a=none
 del:ι'.δ=D::ι.δ
 tup:∀a vs,H a=some (.tup vs)->H' a=some (.tup vs)
 Je:∀a o u,H a=some (.Je o u)->H' a=some (.Je o u)
 lst:∀a vs,a∉ι.l->H a=some (.lst vs)->H' a=some (.lst vs)
 dom:∀a,H' a=none->H a=none
def LeD.toX(l:LeD D G H Z H')(R:H D=none):LeX G H Z H':=⟨l.ext,λa h=>by
 rw[l.del] at h;rcases cj.mp h with q|q
 .exact .inr (by rw[q];exact R)
 .exact .inl q,l.tup,l.Je,l.lst⟩
def LeD.start(Z:H D=none)(o:HO):LeD D G H (G.hide D) (upd H D o) :=
 ⟨⟨[],by simp[Io.hide],by simp⟩,rfl,λa vs e=>by rw[jb (mz e Z)];exact e,λa _ _ e=>by rw[jb (mz e Z)];exact e,λa vs _ e=>by rw[jb (mz e Z)];exact e,
  λa R=>Hf (λb u e=>⟨u,by rw[jb (mz e Z)];exact e⟩) R⟩
def LeD.go(a:LeD D ι H R H1)(b:Le R H1 qq H2):LeD D ι H qq H2:=by
 obtain⟨Y,e1,h1⟩:=a.ext;obtain⟨Z,e2,h2⟩:=b.ext;have out:∀x o,x∉ι.l->H x=some o->x∉R.l:=λx o n h m=>by
  rw[e1] at m;rcases dz.mp m with q|q
  .exact n q
  .rw[h1 x q] at h;cases h
 refine⟨⟨Y++Z,by rw[e2,e1,qd],λx m=>?_⟩,b.del.trans a.del,λx G h=>b.tup x G (a.tup x G h),λx o u h=>b.Je x o u (a.Je x o u h),λx G n h=>b.lst x G (out x _ n h) (a.lst x G n h),λx h=>a.dom x (b.dom x h)⟩;rcases dz.mp m with q|q
 .exact h1 x q
 .exact a.dom x (h2 x q)
def LeD.grow(a:LeD D ι H R H1)(Z:H D=none)(hD:H1 D=some (.lst vs)):LeD D ι H R (upd H1 D (.lst ws)) :=
 ⟨a.ext,a.del,λx G h=>by rw[jb (mz h Z)];exact a.tup x G h,λx o u h=>by rw[jb (mz h Z)];exact a.Je x o u h,λx G n h=>by rw[jb (mz h Z)];exact a.lst x G n h,
  λx h=>a.dom x (by
   by_cases z:x=D
   .rw[z,qw] at h;cases h
   .rw[jb z] at h;exact h)⟩
def LeD.done(a:LeD D G H ⟨Z.l,D::Z.δ⟩ H1):Le G H Z H1 :=
 ⟨a.ext,(List.cons.inj a.del).2,a.tup,a.Je,a.lst,a.dom⟩
inductive u9(K:Fg)(ι:Io)(H:Hp):En->St->Prop
 |nil:u9 K ι H [] []
 |skp {y:Option V} {ρ:En} {σ:St} (t:u9 K ι H ρ σ):u9 K ι H (none::ρ) (y::σ)
 |has {d:Dv} {v:V} {ρ:En} {σ:St} (h:Rep K ι H d v) (t:u9 K ι H ρ σ):u9 K ι H (some d::ρ) (some v::σ)
theorem u9.Mf{K:Fg}{ι Z:Io}{H R:Hp}(le:LeX ι H Z R):∀{ρ:En}{G:St},u9 K ι H ρ G->u9 K Z R ρ G:=by intro _ _ h;induction h with|nil=>exact .nil|skp t ih=>exact .skp ih|has h t ih=>exact .has (h.Mf le) ih
theorem u9.mono{K:Fg}{ι Z:Io}{H R:Hp}(le:Le ι H Z R):∀{ρ:En}{G:St},u9 K ι H ρ G->u9 K Z R ρ G:=by intro _ _ h;induction h with|nil=>exact .nil|skp t ih=>exact .skp ih|has h t ih=>exact .has (h.mono le) ih
theorem u9.get{K:Fg}{ι:Io}{H:Hp}:∀{ρ:En}{R:St}{i:Nat}{d:Dv},u9 K ι H ρ R->ρ[i]?=some (some d)->∃v,R[i]?=some (some v)/\Rep K ι H d v
 |_,_,_,_,.nil,e=>by simp at e|_,_,0,_,.skp _,e=>by simp at e|_,_,0,_,.has h _,e=>by simp at e;subst e;exact⟨_,rfl,h⟩
 |_,_,i+1,d,.skp t,e=>by
  obtain⟨v,Z,G⟩:=u9.get (i:=i) t (by simpa using e);exact⟨v,by simpa using Z,G⟩
 |_,_,i+1,d,.has _ t,e=>by
  obtain⟨v,Z,G⟩:=u9.get (i:=i) t (by simpa using e);exact⟨v,by simpa using Z,G⟩
theorem u9.set{K:Fg}{Z:Io}{H:Hp}{d:Dv}{v:V}(r:Rep K Z H d v):∀{R:En}{G:St}(i:Nat),u9 K Z H R G->u9 K Z H (R.set i (some d)) (G.set i (some v))
 |_,_,_,.nil=>.nil|_,_,0,.skp t=>.has r t|_,_,0,.has _ t=>.has r t|_,_,i+1,.skp t=>.skp (u9.set r i t)|_,_,i+1,.has h t=>.has h (u9.set r i t)
theorem u9.length{K:Fg}{R:Io}{H:Hp}:∀{G:En}{Z:St},u9 K R H G Z->G.length=Z.length:=by intro _ _ h;induction h with|nil=>rfl|skp _ ih=>rw[jw,jw,ih]|has _ _ ih=>rw[jw,jw,ih]
theorem u9.append{K:Fg}{R:Io}{H:Hp}:∀{ρ Z:En}{σ G:St},u9 K R H ρ σ->u9 K R H Z G->u9 K R H (ρ++Z) (σ++G):=by intro _ _ _ _ h r;induction h with|nil=>exact r|skp t ih=>exact .skp ih|has h t ih=>exact .has h ih
theorem u9.aoc{K:Fg}{G:Io}{H:Hp}:∀(k:Nat){Z:St},Z.length=k->u9 K G H (List.replicate k none) Z
 |0,[],_=>.nil|k+1,_::r,h=>.skp (u9.aoc k (by simpa using h))
theorem u9.aod{K:Fg}{G:Io}{H:Hp}:∀{Z:List Dv}{R:List V},mj K G H Z R->u9 K G H (Z.map some) (R.map some)
 |_,_,.nil=>.nil|_,_,.cons h t=>.has h (u9.aod t)
def gn{r:Res α}(h:r.bind f=.ok b M):∃a Z,r=.ok a Z/\f a Z=.ok b M:=by
 cases r with
 |ok a Z=>exact⟨a,Z,rfl,h⟩|bad=>cases h
def An(h:Res.vo o M=.ok a Z):o=some a/\Z=M:=by
 cases o with
 |none=>cases h|some x=>cases h;exact⟨rfl,rfl⟩
def PE.weak(h:PE X e t)(w:∀Z H Q,t' Z H Q->t Z H Q):PE X e t':=λG s Z H Q I q=>h G s Z H Q I (w Z H Q q)
def PT.weak(h:PT X e t)(w:∀Z H Q,t' Z H Q->t Z H Q):PT X e t':=λG s Z H Q I q=>h G s Z H Q I (w Z H Q q)
def PA.weak(h:PA X R t)(w:∀Z H Q,t' Z H Q->t Z H Q):PA X R t':=λpos G s Z H Q I q=>h pos G s Z H Q I (w Z H Q q)
def PS.weak(h:PS X e t)(w:∀D Z H,t' D Z H->t D Z H):PS X e t':=λG s Z H D I q=>h G s Z H D I (w D Z H q)
def Pb.weak(h:Pb X e t)(w:∀D Z H,t' D Z H->t D Z H):Pb X e t':=λG s Z H D I q=>h G s Z H D I (w D Z H q)
def Dz.weak(h:Dz X f r)(w:∀x y H Q,r' x y H Q->r x y H Q):Dz X f r':=λZ s R H x y v u Q I G ry q=>h Z s R H x y v u Q I G ry (w x y H Q q)
section
variable(nm:Nm)(W:Gf)(K:Fg)
def tE(e:Ex):TE:=fun σ H Q=>∃R ρ M d M',lq nm K R H M/\u9 K R H ρ σ/\e.den W ρ M=.ok d M'/\∀Z G v,Le R H Z G->lq nm K Z G M'->Rep K Z G d v->Q v G
def tQ(e:Ex):TT:=fun σ H Q=>∃G ρ M b M',lq nm K G H M/\u9 K G H ρ σ/\e.den W ρ M=.ok (.bl b) M'/\∀Z R,Le G H Z R->lq nm K Z R M'->Q b R
def W0(es:Dn):TA:=fun σ H Q=>∃R ρ M ds M',lq nm K R H M/\u9 K R H ρ σ/\es.den W ρ M=.ok ds M'/\∀Z G vs,Le R H Z G->lq nm K Z G M'->mj K Z G ds vs->Q vs G
def V4(E:XK)(D:Ends)(ι:Io)(H:Hp)(fl:MW.Flow)(ρ:En)(M:dg):Prop :=
 ∀Z G R,Le ι H Z G->lq nm K Z G M->u9 K Z G ρ R ->
  match fl with
  |.next=>D.nx R G|.brk=>D.bk R G|.cont=>D.ct R G|.ret d=>∀v,Rep K Z G d v->D.rt v G|.err c=>∀C,nm.xc c=some C->E (.ref C) none G
def tS(E:XK)(st:Cu):TS:=λD σ H=>∃G ρ M fl Z R,lq nm K G H M/\u9 K G H ρ σ/\st.den W ρ M=.ok (fl,Z) R/\V4 nm K E D G H fl Z R
def tSs(E:XK)(st:rm):TS:=λD σ H=>∃G ρ M fl Z R,lq nm K G H M/\u9 K G H ρ σ/\st.den W ρ M=.ok (fl,Z) R/\V4 nm K E D G H fl Z R
end
def PE.of(h:PE X a t)(w:∀σ H Q G ρ M d M',lq nm X.K G H M->u9 X.K G H ρ σ->e'.den W ρ M=.ok d M'->(∀Z H' v,Le G H Z H'->lq nm X.K Z H' M'->Rep X.K Z H' d v->Q v H')->t σ H Q):PE X a (tE nm W X.K e'):=PE.weak h fun σ H Q z_=>by obtain⟨G,ρ,M,d,M',S,R,e,q⟩:=z_;exact w σ H Q G ρ M d M' S R e q
def PT.of(h:PT X a t)(w:∀σ H Q G ρ M b M',lq nm X.K G H M->u9 X.K G H ρ σ->e'.den W ρ M=.ok (.bl b) M'->(∀Z H',Le G H Z H'->lq nm X.K Z H' M'->Q b H')->t σ H Q):PT X a (tQ nm W X.K e'):=PT.weak h fun σ H Q z_=>by obtain⟨G,ρ,M,d,M',S,R,e,q⟩:=z_;exact w σ H Q G ρ M d M' S R e q
def PA.of(h:PA X es t)(w:∀σ H Q G ρ M ds M',lq nm X.K G H M->u9 X.K G H ρ σ->qq.den W ρ M=.ok ds M'->(∀Z H' vs,Le G H Z H'->lq nm X.K Z H' M'->mj X.K Z H' ds vs->Q vs H')->t σ H Q):PA X es (W0 nm W X.K qq):=PA.weak h fun σ H Q z_=>by obtain⟨G,ρ,M,d,M',S,R,e,q⟩:=z_;exact w σ H Q G ρ M d M' S R e q
def PS.of(h:PS X st t)(w:∀D σ H G ρ M fl Z M',lq nm X.K G H M->u9 X.K G H ρ σ->s'.den W ρ M=.ok (fl,Z) M'->V4 nm X.K EX D G H fl Z M'->t D σ H):PS X st (tS nm W X.K EX s'):=PS.weak h λD σ H z_=>by obtain⟨G,ρ,M,fl,Z,M',S,R,e,q⟩:=z_;exact w D σ H G ρ M fl Z M' S R e q
def Pb.of(h:Pb X st t)(w:∀D σ H G ρ M fl Z M',lq nm X.K G H M->u9 X.K G H ρ σ->s'.den W ρ M=.ok (fl,Z) M'->V4 nm X.K EX D G H fl Z M'->t D σ H):Pb X st (tSs nm W X.K EX s'):=Pb.weak h λD σ H z_=>by obtain⟨G,ρ,M,fl,Z,M',S,R,e,q⟩:=z_;exact w D σ H G ρ M fl Z M' S R e q
def one{X:Cx}{M1:dg}(S:lq nm X.K ι H M)(R:u9 X.K ι H ρ σ)(ha:a'.den W ρ M=.ok x M1)(h:∀Z H1 v,Le ι H Z H1->lq nm X.K Z H1 M1->u9 X.K Z H1 ρ σ->Rep X.K Z H1 x v->G v H1):tE nm W X.K a' σ H G :=
 ⟨ι,ρ,M,x,M1,S,R,ha,λqq H' v le S' r=>h qq H' v le S' (R.mono le) r⟩
theorem two{X:Cx}{M1 M2:dg}{G:V->V->Hp->Prop}(S:lq nm X.K ι H M)(R:u9 X.K ι H ρ σ)(ha:a'.den W ρ M=.ok x M1)(hb:b'.den W ρ M1=.ok y M2)(h:∀Z H2 v u,Le ι H Z H2->lq nm X.K Z H2 M2->u9 X.K Z H2 ρ σ->Rep X.K Z H2 x v->Rep X.K Z H2 y u->G v u H2) :
 tE nm W X.K a' σ H λv H1=>tE nm W X.K b' σ H1 λu H2=>G v u H2 :=
 one S R ha λqq H1 v Uu S1 R1 r1=>one S1 R1 hb λZ H2 u Ao S2 R2 r2=>h Z H2 v u (Uu.trans Ao) S2 R2 (r1.mono Ao) r2
set_option tactic.hygienic true in
def a6m(y:X.N[i]?=some n)(L:Vis X.env.scope n)(Z:(n==("__debug__" : Str))=false)(J:(n==("__classdict__" : Str))=false):PE X (.Name n pos) (tE nm W X.K (.var i)) :=
 PE.of (Vs y L Z J) fun σ H Q C ρ M d u S R e q=>by
  rw[MW.agf] at e;split at e
  .rename_i d' Z
   cases e;obtain⟨v,Y,G⟩:=R.get Z;exact⟨v,Y,q C H v (Le.refl _ _) S G⟩
  .cases e
def a6n:PE X (.Constant (.int i) j pos) (tE nm W X.K (.cst (.int i))) :=
 PE.of ayl fun σ H Q Z ρ M d G S R e q=>by rw[MW.Qq] at e;cases e;exact q Z H _ (Le.refl _ _) S (.int i)
def bdo:PE X (.Constant (.bool i) j pos) (tE nm W X.K (.cst (.bl i))) :=
 PE.of a4p fun σ H Q Z ρ M d G S R e q=>by rw[MW.Qq] at e;cases e;exact q Z H _ (Le.refl _ _) S (.bl i)
def a6o:PE X (.Constant .none j pos) (tE nm W X.K (.cst .non)) :=
 PE.of amk fun σ H Q Z ρ M d G S R e q=>by rw[MW.Qq] at e;cases e;exact q Z H _ (Le.refl _ _) S .non
def a6p:PE X (.Constant (.str i) j pos) (tE nm W X.K (.cst (.str i))) :=
 PE.of aml fun σ H Q Z ρ M d G S R e q=>by rw[MW.Qq] at e;cases e;exact q Z H _ (Le.refl _ _) S (.str i)
def azw(Z:Gl X n)(hm:X.mg n=some (.int i t))(hd:(n==("__debug__" : Str))=false):PE X (.Name n pos) (tE nm W X.K (.cst (.int i))) :=
 PE.of (arz (v:=.int i) Z hm ⟨t,rfl⟩ hd) fun σ H Q G ρ M d M' S R e q=>by rw[MW.Qq] at e;cases e;exact q G H _ (Le.refl _ _) S (.int i)
def rOp(nm:Nm)(K:Fg)(f:Dv->Dv->dg->Res Dv):R2:=λv u H Q=>∃R M x y d M',lq nm K R H M/\Rep K R H x v/\Rep K R H y u/\f x y M=.ok d M' /\
 ∀Z G w,Le R H Z G->lq nm K Z G M'->Rep K Z G d w->Q w G
def Dz.of(h:Dz X f r)(w:∀v u H Q G M x y d M',lq nm X.K G H M->Rep X.K G H x v->Rep X.K G H y u->g x y M=.ok d M'->(∀Z R w,Le G H Z R->lq nm X.K Z R M'->Rep X.K Z R d w->Q w R)->r v u H Q):Dz X f (rOp nm X.K g) :=
 Dz.weak h λv u H Q z_=>by obtain⟨G,M,x,y,d,M',S,rv,ru,e,q⟩:=z_;exact w v u H Q G M x y d M' S rv ru e q
def a6q(ho:Dz X (binaryOp op) (rOp nm X.K (MW.Ey Z)))(ha:PE X a (tE nm W X.K a'))(hb:PE X b (tE nm W X.K b')):PE X (.BinOp a op b pos) (tE nm W X.K (.bin Z a' b')) :=
 PE.of (a5b ho ha hb) fun σ H Q ι ρ M d M' S R e q=>by rw[MW.ara] at e;obtain⟨x,M1,e1,e⟩:=gn e;obtain⟨y,M2,e2,e⟩:=gn e;exact two S R e1 e2 λqq H2 v u le S2 _ rv ru=>⟨qq,M2,x,y,d,M',S2,rv,ru,e,λqk H' w G S' r=>q qk H' w (le.trans G) S' r⟩
def a6r:Dz X (binaryOp .Sub) (rOp nm X.K (MW.Ey .sub)) :=
 Dz.of ay3 λv u H Q ι M x y d M' S R G e q=>by obtain⟨i,j,rfl,rfl,Z⟩:=MW.Zb e (by intro z;cases z);cases R;cases G;cases Z;exact⟨_,_,rfl,rfl,q ι H _ (Le.refl _ _) S (.int _)⟩
def azx{g:Int->Int->Int}{P:Int->Int->Prop}[∀i j,Decidable (P i j)](h:Dz X (binaryOp op) r)(hb:∀x y M,MW.Ey R x y M=MW.ii x y (λi j=>if P i j then .ok (.int (g i j)) M else .bad) .bad)(w:∀i j H Q,P i j->Q (.int (g i j)) H->r (.int i) (.int j) H Q):Dz X (binaryOp op) (rOp nm X.K (MW.Ey R)) :=
 Dz.of h λv u H Q ι M x y d M' S rv ru e q=>by
  rw[hb] at e;obtain⟨i,j,rfl,rfl,Z⟩:=MW.Zb e (by intro z;cases z)
  by_cases G:P i j
  .rw[dh G] at Z
   cases rv;cases ru;cases Z;exact w i j H Q G (q ι H _ (Le.refl _ _) S (.int _))
  .rw[cu G] at Z;cases Z
def a6s:Dz X (binaryOp .Mod) (rOp nm X.K (MW.Ey .mod)):=azx ay5 (λ_ _ _=>rfl) λi j H Q h q=>⟨_,_,rfl,rfl,h,q⟩
def azy:Dz X (binaryOp .FloorDiv) (rOp nm X.K (MW.Ey .fdiv)):=azx ar9 (λ_ _ _=>rfl) λi j H Q h q=>⟨_,_,rfl,rfl,h,q⟩
def a6t:Dz X (binaryOp .Pow) (rOp nm X.K (MW.Ey .pow)):=azx ay6 (λ_ _ _=>rfl) λi j H Q h q=>⟨_,_,rfl,rfl,⟨h.1,by omega,h.2.2⟩,q⟩
set_option tactic.hygienic true in
def wk{X:Cx}(S:lq nm X.K Z H M)(r:Rep X.K Z H d v)(h:MW.gm M d=some ds):∃p vs,v=.ref p/\H p=some (.lst vs)/\mj X.K Z H ds vs:=by
 cases r with
 |vl e n r=>simp[MW.gm] at h;subst h;exact⟨_,_,rfl,e,r⟩
 |ref e =>
  rename_i n p;simp only[MW.gm] at h;split at h<;>simp at h;rename_i C G;subst h;obtain⟨vs,Y,J⟩:=S.obj n _ p G e;exact⟨p,vs,rfl,Y,J⟩
 |_=>simp[MW.gm] at h
def Fo{X:Cx}(S:lq nm X.K ι H M)(r:Rep X.K ι H d v)(h:MW.yd M d=some ds):∃p vs,v=.ref p/\(H p=some (.lst vs)\/H p=some (.tup vs))/\mj X.K ι H ds vs:=by
 cases r with
 |tup e r=>simp[MW.yd] at h;subst h;exact⟨_,_,rfl,.inr e,r⟩
 |vl e n r =>
  obtain⟨p,vs,G,Z,R⟩:=wk S (.vl e n r) (show MW.gm M _=_ from h);exact⟨p,vs,G,.inl Z,R⟩
 |ref e =>
  obtain⟨p,vs,G,Z,R⟩:=wk S (.ref e) (show MW.gm M _=_ from h);exact⟨p,vs,G,.inl Z,R⟩
 |_=>simp[MW.yd,MW.gm] at h
def Z8{X:Cx}(S:lq nm X.K Z H M)(R:H p=none)(r:mj X.K Z H ds G):lq nm X.K Z (upd H p (.lst G)) M/\Le Z H Z (upd H p (.lst G))/\Rep X.K Z (upd H p (.lst G)) (.vl ds) (.ref p):=by obtain⟨S1,le⟩:=S.laid R (.lst G);exact⟨S1,le,.vl qw (S.fresh R) (r.mono le)⟩
def Oj{X:Cx}(S:lq nm X.K Z H M)(hp:H p=none)(r:mj X.K Z H ds G):lq nm X.K Z (upd H p (.tup G)) M/\Le Z H Z (upd H p (.tup G))/\Rep X.K Z (upd H p (.tup G)) (.tup ds) (.ref p):=by obtain⟨R,le⟩:=S.laid hp (.tup G);exact⟨R,le,.tup qw (r.mono le)⟩
def Z9{X:Cx}(S:lq nm X.K Z H M)(R:H p=none)(r:mj X.K Z H ds G):lq nm X.K (Z.add p) (upd H p (.lst G)) (M++[.lst ds])/\Le Z H (Z.add p) (upd H p (.lst G))/\Rep X.K (Z.add p) (upd H p (.lst G)) (.ref M.length) (.ref p):=by
 obtain⟨S1,le⟩:=S.new (H':=upd H p (.lst G)) (o:=.lst ds) R (λa u e=>by rw[jb (mz e R)];exact e) λle=>⟨G,qw,r.mono le⟩
 exact⟨S1,le,.ref (by show(Z.l++[p])[M.length]?=some p;rw[<- S.len];simp)⟩
def aca:(100000:Nat)<=sizeLine:=by decide
set_option tactic.hygienic true in
def asy(h:MW.Ey .add x y M=.ok d M'):(∃i j,x=.int i/\y=.int j/\d=.int (i+j)/\M'=M) \/
 ∃Y Z,MW.gm M x=some Y/\MW.gm M y=some Z/\Y.length+Z.length<=100000/\d=.vl (Y++Z)/\M'=M:=by
 have h:MW.alf x y M=.ok d M':=h;unfold MW.alf at h;split at h<;>try cases h
 .exact .inl ⟨_,_,rfl,rfl,rfl,rfl⟩
 .split at h
  .split at h<;>cases h
   rename_i G J C;exact .inr ⟨_,_,G,J,C,rfl,rfl⟩
  .cases h
set_option tactic.hygienic true in
def asz(h:MW.alg x y M=.ok d Y):(∃i j,x=.int i/\y=.int j/\ar8 i j/\d=.int (i*j)/\Y=M)\/∃z,∃k:Nat,x=.tup [z]/\y=.int k/\k<=100000/\d=.tup (List.replicate k z)/\Y=M:=by
 unfold MW.alg at h;split at h
 .split at h
  .rename_i n
   split at h
   .rename_i G
    cases h;exact .inr ⟨_,n.toNat,rfl,by rw[Int.toNat_of_nonneg G.1],by omega,rfl,rfl⟩
   .cases h
  .cases h
 .obtain⟨i,j,rfl,rfl,Z⟩:=MW.Zb h (by intro z;cases z)
  split at Z
  .rename_i J
   cases Z;exact .inl ⟨i,j,rfl,rfl,J,rfl,rfl⟩
  .cases Z
theorem acb(r:Rep K Z H d v):∀k:Nat,mj K Z H (List.replicate k d) (List.replicate k v)
 |0=>.nil|k+1=>.cons r (acb r k)
def a6u:Dz X (binaryOp .Mult) (rOp nm X.K (MW.Ey .mul)) :=
 Dz.of (ay4.or asx) λv u H Q G M x y d M' S rv ru e q=>by
  rcases asz e with⟨i,j,rfl,rfl,hc,rfl,rfl⟩|⟨z,k,rfl,rfl,hk,rfl,rfl⟩
  .cases rv;cases ru
   exact .inl ⟨_,_,rfl,rfl,hc,q G H _ (Le.refl _ _) S (.int _)⟩
  .cases ru
   cases rv with
   |tup R Z =>
    cases Z with
    |cons Z r2 =>
     cases r2;refine .inr ⟨_,_,k,rfl,rfl,Iu.of R,hk,λh1=>?_,λp hp=>?_⟩
     .subst h1
      exact q G H _ (Le.refl _ _) S (.tup R (.cons Z .nil))
     .obtain⟨a,b,c⟩:=Oj S hp (acb Z k)
      exact q G _ _ b a c
def a6v:Dz X (binaryOp .Add) (rOp nm X.K (MW.Ey .add)) :=
 Dz.of (ay2.or azk) λv u H Q ι M x y d M' S rv ru e q=>by
  have Z:∀R G,MW.gm M x=some R->MW.gm M y=some G->R.length+G.length<=100000->d=.vl (R++G)->M'=M->a5x v u H Q:=λR G h1 h2 hl hd hm=>by
   subst hd hm;obtain⟨p,vs,rfl,e1,r1⟩:=wk S rv h1;obtain⟨p2,qq,rfl,e2,r2⟩:=wk S ru h2;refine⟨p,p2,vs,qq,rfl,rfl,e1,e2,?_,λp3 h3=>?_⟩
   .rw[<- r1.length,<- r2.length];exact ig hl aca
   .obtain⟨a,b,c⟩:=Z8 S h3 (r1.append r2)
    exact q ι _ _ b a c
  rcases asy e with⟨i,j,rfl,rfl,rfl,rfl⟩|⟨R,G,h1,h2,hl,h3,h4⟩
  .cases rv;cases ru
   exact .inl ⟨_,_,rfl,rfl,q ι H _ (Le.refl _ _) S (.int _)⟩
  .exact .inr (Z _ _ h1 h2 hl h3 h4)
def a6x{t:TE}(h:PT X a (λZ H Q=>t Z H λx H1=>∃c,x=.bl c/\Q c H1))(w:∀Z H Q,tE nm W X.K a' Z H Q->t Z H Q):PT X a (tQ nm W X.K a') :=
 PT.of h λZ H Q ι ρ M b M' S R e q=>w Z H _ ⟨ι,ρ,M,_,M',S,R,e,λG H' v le S' r=>by cases r;exact⟨b,rfl,q G H' le S'⟩⟩
def a6y(h:PE X a (tE nm W X.K G))(R:∀Z,isTrue a X.env Z=(do let v <- Z;standAt a.pos;holding [v] (truthy v))):PT X a (tQ nm W X.K G) :=
 a6x (aym h R) λ_ _ _ q=>q
def rCp(G:Nm)(K:Fg)(R:Cp):R2:=λv u H Q=>∃Z M x y b,lq G K Z H M/\Rep K Z H x v/\Rep K Z H y u/\MW.Hb R x y M=some b/\Q (.bl b) H
def acd{X:Cx}:∀G H Q,tE nm W X.K (.cmp qq a' b') G H Q->tOp (rCp nm X.K qq) (tE nm W X.K a') (tE nm W X.K b') G H Q:=λG H Q hh=>by obtain⟨ι,ρ,M,d,M',S,R,e,q⟩:=hh;rw[MW.agg] at e;obtain⟨x,M1,e1,e⟩:=gn e;obtain⟨y,M2,e2,e⟩:=gn e;obtain⟨e,rfl⟩:=An e;obtain⟨b,e3,rfl⟩:=bw.mp e;exact two S R e1 e2 λZ H2 v u le S2 _ rv ru=>⟨Z,M',x,y,b,S2,rv,ru,e3,q Z H2 _ le S2 (.bl b)⟩
def a6z(G:Dz X (compareOp op) (rCp nm X.K Z))(R:PE X a (tE nm W X.K a'))(hb:PE X b (tE nm W X.K b'))(hm:behindInMarks op b=false):PE X (.Compare a [op] [b] pos) (tE nm W X.K (.cmp Z a' b')) :=
 PE.weak (asa G R hb hm) acd
def a65(ho:Dz X (compareOp op) (rCp nm X.K Z))(ha:PE X a (tE nm W X.K R))(hb:PE X b (tE nm W X.K G))(hm:behindInMarks op b=false):PT X (.Compare a [op] [b] pos) (tQ nm W X.K (.cmp Z R G)) :=
 a6x (t:=tOp (rCp nm X.K Z) (tE nm W X.K R) (tE nm W X.K G)) (asb ho ha hb hm) acd
def aaa(h:Dz X (compareOp op) (rI0 λi j=>.bl (f i j)))(e:∀x y M,MW.Hb Z x y M=MW.aa8 f x y):Dz X (compareOp op) (rCp nm X.K Z) :=
 Dz.weak h λv u H Q hh=>by obtain⟨ι,M,x,y,b,S,rv,ru,G,q⟩:=hh;rw[e] at G;obtain⟨i,j,rfl,rfl,R⟩:=MW.Zb G (by intro z;cases z);cases rv;cases ru;cases R;exact⟨_,_,rfl,rfl,q⟩
def bdp:Dz X (compareOp .Lt) (rCp nm X.K .lt):=aaa a5g λ_ _ _=>rfl
def bdq:Dz X (compareOp .LtE) (rCp nm X.K .le):=aaa a5h λ_ _ _=>rfl
def bdr:Dz X (compareOp .Gt) (rCp nm X.K .gt):=aaa a5i λ_ _ _=>rfl
def bds:Dz X (compareOp .GtE) (rCp nm X.K .ge):=aaa a5j λ_ _ _=>rfl
set_option tactic.hygienic true in
def awo{Z:Y3}(ha:PE X a (tE nm W X.K a'))(u:PE X (.BoolOp .And (b::Z) pos) (tE nm W X.K C)):PE X (.BoolOp .And (a::b::Z) pos) (tE nm W X.K (.and a' C)) :=
 PE.of (ayq ha u) fun σ H Q ι ρ M d M' S R e q=>by
  rw[MW.agh] at e;obtain⟨x,M1,e1,e⟩:=gn e;refine one S R e1 λG H1 v le J R1 r=>?_
  cases r<;>try cases e
  rename_i k;refine⟨k,rfl,?_⟩;cases k with
  |false=>cases e;exact q G H1 _ le J (.bl false)|true=>exact one J R1 e λY H2 w y L _ r2=>q Y H2 w (le.trans y) L r2
set_option tactic.hygienic true in
def a66{Z:Y3}(ha:PE X a (tE nm W X.K a'))(u:PE X (.BoolOp .Or (b::Z) pos) (tE nm W X.K C)):PE X (.BoolOp .Or (a::b::Z) pos) (tE nm W X.K (.or a' C)) :=
 PE.of (a4t ha u) fun σ H Q ι ρ M d M' S R e q=>by
  rw[MW.alh] at e;obtain⟨x,M1,e1,e⟩:=gn e;refine one S R e1 λG H1 v le J R1 r=>?_
  cases r<;>try cases e
  rename_i k;refine⟨k,rfl,?_⟩;cases k with
  |true=>cases e;exact q G H1 _ le J (.bl true)|false=>exact one J R1 e λY H2 w y L _ r2=>q Y H2 w (le.trans y) L r2
def a67(ha:PE X a (tE nm W X.K a')):PE X (.UnaryOp .Not a pos) (tE nm W X.K (.not a')) :=
 PE.of (ayr ha) fun σ H Q ι ρ M d M' S R e q=>by
  rw[MW.agi] at e;obtain⟨x,M1,G,e⟩:=gn e;refine one S R G λZ H1 v le S1 R1 r=>?_
  cases r<;>try cases e
  exact⟨_,rfl,q Z H1 _ le S1 (.bl _)⟩
def Xc{X:Cx}{M1:dg}(S:lq nm X.K ι H M)(R:u9 X.K ι H ρ σ)(ha:a'.den W ρ M=.ok (.bl k) M1)(h:∀Z H1,Le ι H Z H1->lq nm X.K Z H1 M1->u9 X.K Z H1 ρ σ->G k H1):tQ nm W X.K a' σ H G :=
 ⟨ι,ρ,M,k,M1,S,R,ha,λqq H' le S'=>h qq H' le S' (R.mono le)⟩
set_option tactic.hygienic true in
def awp{rest:Y3}(u:PT X a (tQ nm W X.K a'))(hb:PW X (.BoolOp .And (b::rest) pos) (tQ nm W X.K b')):PW X (.BoolOp .And (a::b::rest) pos) (tQ nm W X.K (.and a' b')) :=
 λZ Y s σ H Q I ⟨ι,ρ,M,d,M',S,R,e,q⟩=>ayo u hb Z Y s σ H Q I (by
  rw[MW.agh] at e;obtain⟨x,M1,L,e⟩:=gn e;cases x<;>try cases e
  rename_i k;refine Xc S R L λJ H1 le C R1=>?_
  cases k with
  | false=>cases e;exact q J H1 le C|true=>exact Xc C R1 e λG y Ao S2 _=>q G y (le.trans Ao) S2)
set_option tactic.hygienic true in
def a68{rest:Y3}(u:PT X a (tQ nm W X.K a'))(hb:PW X (.BoolOp .Or (b::rest) pos) (tQ nm W X.K b')):PW X (.BoolOp .Or (a::b::rest) pos) (tQ nm W X.K (.or a' b')) :=
 λZ Y s σ H Q I ⟨ι,ρ,M,d,M',S,R,e,q⟩=>a4q u hb Z Y s σ H Q I (by
  rw[MW.alh] at e;obtain⟨x,M1,L,e⟩:=gn e;cases x<;>try cases e
  rename_i k;refine Xc S R L λJ H1 le C R1=>?_
  cases k with
  | true=>cases e;exact q J H1 le C|false=>exact Xc C R1 e λG y Ao S2 _=>q G y (le.trans Ao) S2)
def a69(ha:PT X a (tQ nm W X.K a')):PT X (.UnaryOp .Not a pos) (tQ nm W X.K (.not a')) :=
 PT.of (ayp ha) fun σ H Q ι ρ M d M' S R e q=>by
  rw[MW.agi] at e;obtain⟨x,M1,G,e⟩:=gn e;cases x<;>try cases e
  exact Xc S R G λZ H1 le S1 R1=>q Z H1 le S1
set_option tactic.hygienic true in
def a7a(hc:PT X c (tQ nm W X.K c'))(ha:PE X a (tE nm W X.K a'))(hb:PE X b (tE nm W X.K u)):PE X (.IfExp c a b pos) (tE nm W X.K (.ite c' a' u)) :=
 PE.of (amm hc ha hb) fun σ H Q ι ρ M d M' S R e q=>by
  rw[MW.arc] at e;obtain⟨x,M1,e1,e⟩:=gn e;cases x<;>try cases e
  rename_i k;refine Xc S R e1 λqq H1 le L y=>?_
  cases k with
  |true=>exact one L y e λZ J w G Y _ C=>q Z J w (le.trans G) Y C
  |false=>exact one L y e λZ J w G Y _ C=>q Z J w (le.trans G) Y C
def V5:PA X [] (W0 nm W X.K .nil):=PA.of ae7 fun σ H Q Z ρ M ds G S R e q=>by rw[MW.Mu] at e;cases e;exact q Z H _ (Le.refl _ _) S .nil
def aab{X:Cx}{M1:dg}(S:lq nm X.K ι H M)(R:u9 X.K ι H ρ σ)(ha:es'.den W ρ M=.ok ds M1)(h:∀Z H1 vs,Le ι H Z H1->lq nm X.K Z H1 M1->u9 X.K Z H1 ρ σ->mj X.K Z H1 ds vs->G vs H1):W0 nm W X.K es' σ H G :=
 ⟨ι,ρ,M,ds,M1,S,R,ha,λqq H' v le S' r=>h qq H' v le S' (R.mono le) r⟩
def Qg(ha:PE X a (tE nm W X.K a'))(hr:PA X Z (W0 nm W X.K G))(hs:starEach (a::Z) X.env=(false,eval a X.env)::starEach Z X.env):PA X (a::Z) (W0 nm W X.K (.cons a' G)) :=
 PA.of (U9 ha hr hs) fun σ H Q ι ρ M ds M' S R e q=>by rw[MW.Bl] at e;obtain⟨x,M1,e1,e⟩:=gn e;obtain⟨xs,M2,e2,e⟩:=gn e;cases e;exact one S R e1 λqk H1 v le S1 R1 r1=>aab S1 R1 e2 λqq H2 vs Ao S2 R2 r2=>q qq H2 _ (le.trans Ao) S2 (.cons (r1.mono Ao) r2)
noncomputable def Dn.len:Dn->Nat
 |.nil=>0|.cons _ r=>Dn.len r+1
theorem Kh{W:Gf}:∀{Z:Dn}{ρ:En}{M R:dg}{G:List Dv},Z.den W ρ M=.ok G R->G.length=Dn.len Z
 |.nil,_,_,_,_,e=>by rw[MW.Mu] at e;cases e;rfl
 |.cons _ r,_,_,_,_,e=>by
  rw[MW.Bl] at e;obtain⟨x,R,e1,e⟩:=gn e;obtain⟨xs,M2,e2,e⟩:=gn e;cases e;rw[jw,Kh e2];rfl
def a7b(h:PA X es (W0 nm W X.K Z))(hl:Dn.len Z<=1000):PE X (.Tuple es k pos) (tE nm W X.K (.tup Z)) :=
 PE.of (aza h) fun σ H Q ι ρ M d M' S R e q=>by
  rw[MW.ard] at e;obtain⟨ds,M1,e1,e⟩:=gn e;cases e;refine aab S R e1 λG H1 vs le S1 R1 r=>⟨?_,λp hp=>?_⟩
  .rw[<- r.length,Kh e1];exact ig hl (by decide)
  .obtain⟨S2,Ao,r2⟩:=Oj S1 hp r
   exact q G _ _ (le.trans Ao) S2 r2
def azz(h:PA X es (W0 nm W X.K Z))(hl:Dn.len Z<=1000):PE X (.List es pos) (tE nm W X.K (.Hr Z)) :=
 PE.of (amw h) fun σ H Q ι ρ M d M' S R e q=>by
  rw[MW.ali] at e;obtain⟨ds,M1,e1,e⟩:=gn e;cases e;refine aab S R e1 λG H1 vs le S1 R1 r=>⟨?_,λp hp=>?_⟩
  .rw[<- r.length,Kh e1];exact ig hl (by decide)
  .obtain⟨S2,Ao,r2⟩:=Z8 S1 hp r
   exact q G _ _ (le.trans Ao) S2 r2
def a7c(h:PA X es (W0 nm W X.K Z))(hl:Dn.len Z<=1000):PE X (.List es pos) (tE nm W X.K (.lst Z)) :=
 PE.of (amw h) fun σ H Q ι ρ M d M' S R e q=>by
  rw[MW.arf] at e;obtain⟨ds,M1,G,e⟩:=gn e;cases e;refine aab S R G λqq H1 vs le S1 R1 r=>⟨?_,λp hp=>?_⟩
  .rw[<- r.length,Kh G];exact ig hl (by decide)
  .obtain⟨S2,Ao,r2⟩:=Z9 S1 hp r
   exact q _ _ _ (le.trans Ao) S2 r2
def a7d(ha:PE X a (tE nm W X.K a')):PE X (.UnaryOp .USub a pos) (tE nm W X.K (.neg a')) :=
 PE.of (a5c ay7 ha) fun σ H Q ι ρ M d M' S R e q=>by
  rw[MW.arb] at e;obtain⟨x,M1,G,e⟩:=gn e;refine one S R G λZ H1 v le S1 R1 r=>?_
  cases r<;>try cases e
  exact⟨_,rfl,q Z H1 _ le S1 (.int _)⟩
open PyProof.Rows (subscriptTail)
section
variable{κ:Type}[DecidableEq κ]{K:Fg}{ι:Io}{H:Hp}
theorem xu.length{κ Z:Type}{f:κ->Z->Prop}:∀{l:List (κ×Dv)}{G:List (Z×V)},xu K ι H f l G->l.length=G.length:=by intro _ _ h;induction h with|nil=>rfl|cons _ _ _ ih=>rw[jw,jw,ih]
theorem xu.look{k:κ}:∀{G:List (κ×Dv)}{l:List (κ×V)},xu K ι H (λk R=>k=R) G l->(∀d,MW.wg G k=some d->∃v,Q4 l k=some v/\Rep K ι H d v)/\(MW.wg G k=none->Q4 l k=none)
 |_,_,.nil=>⟨λd h=>by simp[MW.wg] at h,λ_=>rfl⟩
 |_,_,.cons (k:=q) (k':=q') hk h t=>by
  subst hk;obtain⟨a,b⟩:=xu.look (k:=k) t
  by_cases e:q=k
  .refine⟨λd Z=>?_,λZ=>?_⟩
   .simp[MW.wg,su,e] at Z
    subst Z;exact⟨_,Q5 e,h⟩
   .simp[MW.wg,su,e] at Z
  .have z:∀(d:Dv) r,MW.wg ((q,d)::r) k=MW.wg r k:=λd r=>by simp[MW.wg,su,e]
   rw[z,Q6 (by exact e)];exact⟨a,b⟩
theorem xu.any{k:κ}:∀{G:List (κ×Dv)}{l:List (κ×V)},xu K ι H (λk R=>k=R) G l->(G.any λZ=>decide (Z.1=k))=(l.any λZ=>decide (Z.1=k))
 |_,_,.nil=>rfl|_,_,.cons hk h t=>by subst hk;simp only[List.any_cons,xu.any t]
theorem xu.Iv{k:κ}{d:Dv}{v:V}(r:Rep K ι H d v):∀{R:List (κ×Dv)}{l:List (κ×V)},xu K ι H (λk G=>k=G) R l ->
 xu K ι H (λk G=>k=G) (R.map λZ=>if Z.1=k then(Z.1,d) else Z) (l.map λZ=>if Z.1=k then(Z.1,v) else Z)
 |_,_,.nil=>.nil
 |_,_,.cons (k:=q) hk h t=>by
  subst hk;simp only[iz]
  by_cases e:q=k
  .simp only[e,o5];exact .cons rfl r (xu.Iv r t)
  .simp only[e,kj];exact .cons rfl h (xu.Iv r t)
theorem xu.snoc{κ Z:Type}{f:κ->Z->Prop}{k:κ}{R:Z}{d:Dv}{v:V}(G:f k R)(r:Rep K ι H d v):∀{l:List (κ×Dv)}{l':List (Z×V)},xu K ι H f l l'->xu K ι H f (l++[(k,d)]) (l'++[(R,v)])
 |_,_,.nil=>.cons G r .nil|_,_,.cons q h t=>.cons q h (xu.snoc G r t)
def xu.put{k:κ}(r:Rep K ι H d v)(t:xu K ι H (λk Z=>k=Z) R l):xu K ι H (λk Z=>k=Z) (MW.Cz R k d) (putK l k v):=by
 unfold MW.Cz putK;rw[t.any (k:=k)]
 by_cases e:(l.any λG=>decide (G.1=k))=true
 .rw[dh e,dh e];exact t.Iv r
 .rw[cu e,cu e];exact t.snoc rfl r
def Tf(r:Rep K ι H d v)(h:MW.Vj d=some k):v=kV k:=by cases r<;>simp[MW.Vj] at h<;>subst h<;>rfl
set_option tactic.hygienic true in
theorem aoe:∀{G:List Dv}{Z:List V}{Y:List Kx},mj K ι H G Z->MW.ale G=some Y->Z=Y.map kV
 |_,_,_,.nil,h=>by simp[MW.ale] at h;subst h;rfl
 |_,_,_,.cons r t,h=>by
  simp only[MW.ale] at h;split at h
  .rename_i k L J C
   cases h;rw[Tf r J,aoe t C];rfl
  .cases h
def aac(r:Rep K ι H d v)(h:MW.aa7 d=some Z):∃b,v=.ref b/\H b=some (.tup (Z.map kV)):=by
 cases r with
 |tup e r=>exact⟨_,rfl,by rw[<- aoe r h];exact e⟩|_=>simp[MW.aa7] at h
end
def as3{G:Type}{Z:List G}(h:MW.Mi Z.length i=some j):ixN Z.length i=some j:=h
def bdt(G:Nm)(K:Fg):R2:=λv u H Q=>∃Z M x y d,lq G K Z H M/\Rep K Z H x v/\Rep K Z H y u/\MW.Ak x y M=some d/\∀w,Rep K Z H d w->Q w H
def aof(hu:X.A.units+1<cLine):IxR X (λx y H Q=>∃a v,x=.ref a/\Nz H a y (some v)/\Q v H):=by intro G Z R s σ H x y v u Q I rx ry h hs;obtain⟨p,z,rfl,g,q⟩:=h;cases rx;exact PyProof.Rows.tail_any (abx I g) PySem.F.slot_dict_getitem.lookup (aja hu I g ry λw' s' I' r=>⟨z,H,I',r,q⟩) hs
set_option tactic.hygienic true in
def az0(hu:X.A.units+1<cLine):IxR X (bdt nm X.K):=by
 intro Y Z G s σ H v u v' u' Q I rv ru ⟨ι,M,x,y,d,S,rx,ry,e,q⟩ hs;have C:∀(p:Addr)(L:List V)(ds:List Dv),v=.ref p->(Hm X.K H p L\/Iu X.K H p L)->mj X.K ι H ds L->(match y with|.int i=>(MW.Mi ds.length i).bind λj=>ds[j]?|_=>none)=some d ->
  wpAny (model X.prog X.w) X.A (subscriptTail Y Z v' u') (EP X G σ Q) X.xe s:=λp L ds hv hq r e=>by
  subst hv;obtain⟨i,qk⟩:∃i,y=.int i:=by cases y<;>first|exact⟨_,rfl⟩|cases e
  subst qk;cases ry;obtain⟨j,J,e2⟩:=fc.mp e;obtain⟨z,h1,R⟩:=r.get e2;have qq:atI L i=some z:=by unfold atI;rw[show ixN L.length i=some j from by rw[<- r.length];exact J];exact h1
  rcases hq with hq|hq
  .exact L2.Df Y Z G s σ H _ _ v' u' Q I rv ru ⟨p,L,i,z,rfl,rfl,hq,qq,q z R⟩ hs
  .exact L2.Jp Y Z G s σ H _ _ v' u' Q I rv ru ⟨p,L,i,z,rfl,rfl,hq,qq,q z R⟩ hs
 cases rx with
 |tup J r1=>exact C _ _ _ rfl (.inr (Iu.of J)) r1 (by cases ry<;>first|exact e|(simp[MW.Ak,MW.yd] at e))
 |vl J n1 r1=>exact C _ _ _ rfl (.inl (Hm.of J)) r1 (by cases ry<;>first|exact e|(simp[MW.Ak,MW.yd,MW.gm] at e))
 |fz J r1=>exact C _ _ _ rfl (.inl J.sq) r1 (by cases ry<;>first|exact e|(simp[MW.Ak] at e))
 |ref J =>
  rename_i n p;simp only[MW.Ak] at e;split at e
  .rename_i jn hn
   obtain⟨l,h1,R⟩:=S.obj n _ p hn J;obtain⟨k,e2,e3⟩:=fc.mp e;obtain⟨z,h3,h4⟩:=(R.look (k:=k)).1 d e3;obtain⟨b,rfl,hb⟩:=aac ry e2;exact aof hu Y Z G s σ H _ _ v' u' Q I rv ru ⟨p,z,rfl,by rw[<- h3];exact Nz.t h1 hb,q z h4⟩ hs
  .rename_i jn hn
   obtain⟨l,h1,R⟩:=S.obj n _ p hn J;obtain⟨k,e2,e3⟩:=fc.mp e;obtain⟨z,h3,h4⟩:=(R.look (k:=k)).1 d e3;have hy:=Tf ry e2;subst hy;exact aof hu Y Z G s σ H _ _ v' u' Q I rv ru ⟨p,z,rfl,by rw[<- h3];exact Nz.k h1,q z h4⟩ hs
  .cases hl:MW.gm M (.ref n) with
   |none=>rw[hl] at e;cases e
   |some ds =>
    obtain⟨p',L,hp,h1,R⟩:=wk S (.ref J) hl;cases hp;rw[hl] at e;exact C _ _ _ rfl (.inl (Hm.of h1)) R (by cases ry<;>first|exact e|cases e)
 |_=>simp[MW.Ak,MW.yd,MW.gm] at e
def bdu(hu:X.A.units+1<cLine)(ha:PE X a (tE nm W X.K a'))(hb:PE X b (tE nm W X.K b'))(hs:Zw b):PE X (.Subscript a b pos) (tE nm W X.K (.ix a' b')) :=
 PE.of (a5s (az0 (nm:=nm) hu) ha hb hs) fun σ H Q ι ρ M d M' S R e q=>by rw[MW.axr] at e;obtain⟨x,M1,e1,e⟩:=gn e;obtain⟨y,M2,e2,e⟩:=gn e;obtain⟨e,rfl⟩:=An e;exact two S R e1 e2 λZ H2 v u le G _ rv ru=>⟨Z,M',x,y,d,G,rv,ru,e,λw r=>q Z H2 w le G r⟩
open MW (Ex Dn OEx Mq Cu rm Lv Tg Res dg MO Gf Cp Op2 Blt Bm Kx Src)
noncomputable def aad:Expr->Bool
 |.ListComp ..=>false|.SetComp ..=>false|.DictComp ..=>false|_=>true
def Ue(h:aad e=true)(t:Option Expr)(l:Nat)(Z:Env):swapsWith e t l Z=pure false:=by cases e<;>first|rfl|(cases h)
noncomputable def Jx:Expr->Bool
 |.Set ..=>false|_=>true
def El(h:Jx e=true)(Z:Env)(x:Value):foldedSetIterable e Z x=pure x:=by cases e<;>first|rfl|(cases h)
def ace(h:Jx e=true)(Z:CmpOp):behindInMarks Z e=false:=by cases e<;>first|rfl|(cases h)
noncomputable def awq:Expr->Bool
 |.Tuple ..=>false|_=>true
noncomputable def noStar:Expr->Bool
 |.Starred ..=>false|_=>true
def j6(h:noStar e=true)(Z:Y3)(env:Env):starEach (e::Z) env=(false,eval e env)::starEach Z env:=by cases e<;>first|rfl|(cases h)
noncomputable def aae:Expr->Bool
 |.Slice ..=>false|_=>true
def aog(h:aae e=true):Zw e:=by intro o i;cases e<;>first|rfl|(cases h)
noncomputable def Bt:Tg->List Nat
 |.name i=>[i]|.names is=>is
def tGt(nm:Nm)(K:Fg)(t:Tg):TG:=λv σ H Q=>∃R ρ M d G,lq nm K R H M/\u9 K R H ρ σ/\Rep K R H d v/\t.put d ρ=some G/\∀Z,u9 K R H G Z->Z.length=σ.length->(∀j,j∉Bt t->Z[j]?=σ[j]?)->Q Z H
def PG.weak(h:PG X tg t)(w:∀v Z H Q,t' v Z H Q->t v Z H Q):PG X tg t':=λG s Z H v u Q I r q=>h G s Z H v u Q I r (w v Z H Q q)
def PG.of(h:PG X tg t)(w:∀v σ H Q ι ρ M d Z,lq nm X.K ι H M->u9 X.K ι H ρ σ->Rep X.K ι H d v->tt.put d ρ=some Z->(∀G,u9 X.K ι H Z G->G.length=σ.length->(∀j,j∉Bt tt->G[j]?=σ[j]?)->Q G H)->t v σ H Q):PG X tg (tGt nm X.K tt) :=
 PG.weak h λv σ H Q z_=>by obtain⟨ι,ρ,M,d,Z,S,R,r,e,q⟩:=z_;exact w v σ H Q ι ρ M d Z S R r e q
def az1(hN:X.N.Nodup)(hi:X.N[i]?=some n)(G:Loc X.env.scope n)(Z:X.fn n=true\/X.env.scope.names.lookup n=some .local):PG X (.Name n pos) (tGt nm X.K (.name i)) :=
 PG.of (Q0 hN hi G Z) λv σ H Q ι ρ M d qq S R r e q=>by cases e;exact q _ (R.set r i) (by simp) λj hj=>uc (λz=>hj (by simp[Bt,z]))
noncomputable def La:List Nat->List V->St->St
 |i::is,v::vs,σ=>La is vs (σ.set i (some v))|_,_,σ=>σ
theorem V6{Z:Io}{H:Hp}{K:Fg}:∀{is:Y2}{ds:List Dv}{G:List V}{ρ:En}{σ:St},u9 K Z H ρ σ->mj K Z H ds G->u9 K Z H (MW.Px is ds ρ) (La is G σ)
 |[],_,_,_,_,R,r=>by cases r<;>exact R|_::_,_,_,_,_,R,.nil=>R|i::is,_,_,_,_,R,.cons h t=>V6 (is:=is) (R.set h i) t
theorem Q9:∀{is:Y2}{G:List V}{Z:St}{j:Nat},j∉is->(La is G Z)[j]?=Z[j]?
 |[],G,Z,j,_=>by cases G<;>rfl|i::is,[],Z,j,_=>rfl
 |i::is,v::G,Z,j,h=>by
  show(La is G (Z.set i (some v)))[j]?=_;rw[Q9 (λz=>h (bx _ z)),uc (λz=>h (by rw[z];exact di))]
theorem Ug:∀{is:Y2}{G:List V}{Z:St},(La is G Z).length=Z.length
 |[],G,Z=>by cases G<;>rfl|_::_,[],Z=>rfl|i::is,v::G,Z=>by show(La is G (Z.set i (some v))).length=_;rw[Ug,List.length_set]
inductive Lb(X:Cx):List Expr->List Nat->Prop
 |nil:Lb X [] []
 |cons {n:Str} {p:Pos} {i:Nat} {ts:Y3} {is:Y2} (hi:X.N[i]?=some n) (hx:Loc X.env.scope n) (hf:X.fn n=true\/X.env.scope.names.lookup n=some .local) (t:Lb X ts is):Lb X (.Name n p::ts) (i::is)
theorem acf{X:Cx}(hN:X.N.Nodup):∀{ts:Y3}{is:Y2},Lb X ts is->PGs X ts (λG R H Q=>G.length=is.length/\Q (La is G R) H)
 |_,_,.nil=>λZ s R H G us Q I r q=>by
  obtain⟨h1,h2⟩:=q;have hv:G=[]:=List.length_eq_zero_iff.mp h1;subst hv;exact ar5 Z s R H [] us Q I r ⟨rfl,h2⟩
 |_,_,.cons hi hx hf t=>λZ s R H G us Q I r q=>by
  obtain⟨h1,h2⟩:=q;cases G with
  |nil=>simp at h1|cons v G=>exact amq (Q0 hN hi hx hf) (acf hN t) (by rfl) Z s R H (v::G) us Q I r ⟨v,G,rfl,by simpa using h1,h2⟩
theorem Fp{X:Cx}{env:Env}:∀{Z:Y3}{is:Y2},Lb X Z is->(assignEach Z env).length=is.length/\(assignEach Z env).findIdx? (·.1)=none
 |_,_,.nil=>⟨rfl,rfl⟩
 |_,_,.cons hi hx hf t=>by
  obtain⟨G,R⟩:=Fp (env:=env) t;refine⟨by simp[assignEach,G],?_⟩;simp[assignEach,List.findIdx?_cons];simpa using R
set_option tactic.hygienic true in
def as4(y:X.calm=true)(u:X.N.Nodup)(h:Lb X L is):PG X (.Tuple L k pos) (tGt nm X.K (.names is)) :=
 PG.of (ayw y (acf u h) (Fp h).1 (Fp h).2) λv σ H Q ι ρ M d J S R r e q=>by
  cases r with
  |tup G Z =>
   simp only[Tg.put] at e;split at e<;>cases e;rename_i Y;exact⟨_,_,rfl,Iu.of G,by rw[<- Z.length];exact Y,by rw[<- Z.length];exact Y,q _ (V6 R Z) Ug λj C=>Q9 C⟩
  |_=>simp[Tg.put] at e
def aoh(he:PE X a (tE nm W X.K a'))(hg:PG X tg (tGt nm X.K t))(hs:swapsWithSole [tg] a pos.line X.env=pure false)(hw:swappedStores [tg] a X.env=pure none)(h1:(assignEach [tg] X.env).map (·.2)=[assign tg X.env]) :
 PS X (.Assign [tg] a pos) (tS nm W X.K EX (.asg (.tg t) a')) :=
 PS.of (Zr he hg hs hw h1) λD σ H ι ρ M fl qq M' S R e q=>by rw[MW.Vl] at e;obtain⟨x,M1,e1,e⟩:=gn e;obtain⟨qk,M2,e2,e⟩:=gn e;cases e;rw[MW.als] at e2;obtain⟨e3,e4⟩:=An e2;subst e4;exact one S R e1 λZ H1 v le S1 R1 r=>⟨Z,ρ,_,x,qq,S1,R1,r,e3,λG R' _ _=>q Z H1 G le S1 R'⟩
def az2(he:PE X a (tE nm W X.K a'))(hs:swapsWith a none pos.line X.env=pure false):PS X (.Expr a pos) (tS nm W X.K EX (.expr a')) :=
 PS.of (agz he hs) λD σ H ι ρ M fl qq M' S R e q=>by rw[MW.arj] at e;obtain⟨x,M1,G,e⟩:=gn e;cases e;exact one S R G λZ H1 v le S1 R1 r=>q Z H1 σ le S1 R1
def a7e(he:PE X a (tE nm W X.K a')):PS X (.Return (some a) pos) (tS nm W X.K EX (.ret a')) :=
 PS.of (ayt he) λD σ H ι ρ M fl qq M' S R e q=>by rw[MW.axt] at e;obtain⟨x,M1,G,e⟩:=gn e;cases e;exact one S R G λZ H1 v le S1 R1 r=>q Z H1 σ le S1 R1 v r
def a7f:PS X (.Break pos) (tS nm W X.K EX .brk) :=
 PS.of amn λD G H ι ρ M fl Z M' S R e q=>by rw[MW.axu] at e;cases e;exact q ι H G (Le.refl _ _) S R
def V4.mono{X:Cx}(le:Le ι H R H')(q:V4 nm X.K EX D ι H fl ρ M):V4 nm X.K EX D R H' fl ρ M:=λG H2 Z Ao S2 R2=>q G H2 Z (le.trans Ao) S2 R2
set_option tactic.hygienic true in
def a7g(hc:PT X c (tQ nm W X.K c'))(ht:Pb X ts (tSs nm W X.K EX G))(hf:Pb X fs (tSs nm W X.K EX J)):PS X (.If c ts fs pos) (tS nm W X.K EX (.iff c' G J)) :=
 PS.of (a4u hc ht hf) λD σ H ι u M C Z y S R e q=>by
  rw[MW.axs] at e;obtain⟨x,L,e1,e⟩:=gn e;cases x<;>try cases e
  rename_i k;refine Xc S R e1 λY H1 le S1 R1=>?_
  cases k with
  |true=>exact⟨Y,u,L,C,Z,y,S1,R1,e,q.mono le⟩|false=>exact⟨Y,u,L,C,Z,y,S1,R1,e,q.mono le⟩
def az3:Pb X [] (tSs nm W X.K EX .nil):=Pb.of U8 λD G H ι ρ M fl Z M' S R e q=>by rw[MW.ark] at e;cases e;exact q ι H G (Le.refl _ _) S R
def as5{qq:List Stmt}(h1:PS X st (tS nm W X.K EX q0))(h2:Pb X qq (tSs nm W X.K EX rest')):Pb X (st::qq) (tSs nm W X.K EX (.cons q0 rest')) :=
 Pb.of (Nx h1 h2) λD σ H ι ρ M fl q1 M' S R e q=>by
  rw[MW.alq] at e;obtain⟨⟨qv,qk⟩,M1,e1,e⟩:=gn e;refine⟨ι,ρ,M,qv,qk,M1,S,R,e1,λZ H1 G le S1 R1=>?_⟩;cases qv with
  |next=>exact⟨Z,qk,M1,fl,q1,M',S1,R1,e,q.mono le⟩|brk=>cases e;exact q Z H1 G le S1 R1|cont=>cases e;exact q Z H1 G le S1 R1|ret d=>cases e;exact q Z H1 G le S1 R1|err c=>cases e;exact q Z H1 G le S1 R1
set_option tactic.hygienic true in
def a7h(hp:PassesOwn (model X.prog X.w) X.A X.env X.xe)(hc:PT X c (tQ nm W X.K c'))(hb:Pb X body (tSs nm W X.K EX V7)):PS X (.While c body [] pos) (tS nm W X.K EX (.whl c' V7)) :=
 PS.of (amr hp hc hb) λD σ H ι ρ M fl q0 M' S R e q=>by
  rw[MW.Zc] at e;refine⟨λm u H1=>∃L C M1,Le ι H L H1/\lq nm X.K L H1 M1/\u9 X.K L H1 C u/\MW.Ft (c'.den W) (V7.den W) m C M1=.ok (fl,q0) M',⟨MW.aer,ι,ρ,M,Le.refl _ _,S,R,e⟩,?_⟩;rintro m u H1 ⟨L,C,M1,Uu,S1,R1,G⟩;cases m with
  |zero=>cases G
  |succ m =>
   simp only[MW.Ft] at G;obtain⟨x,M2,e2,G⟩:=gn G;cases x<;>try cases G
   rename_i k;refine Xc S1 R1 e2 λq1 H2 Ao S2 R2=>?_
   cases k with
   |false=>cases G;exact q q1 H2 u (Uu.trans Ao) S2 R2
   |true =>
    obtain⟨⟨qk,qq⟩,M3,e3,G⟩:=gn G;refine⟨λY y=>∃Z qv M4,Le ι H Z y/\lq nm X.K Z y M4/\u9 X.K Z y qv Y/\MW.Ft (c'.den W) (V7.den W) m qv M4=.ok (fl,q0) M',λY y h4=>⟨m,uf _,h4⟩,q1,C,M2,qk,qq,M3,S2,R2,e3,λZ y Y J S4 R4=>?_⟩;cases qk with
    |next=>exact⟨Z,qq,M3,(Uu.trans Ao).trans J,S4,R4,G⟩|cont=>exact⟨Z,qq,M3,(Uu.trans Ao).trans J,S4,R4,G⟩|brk=>cases G;exact q Z y Y ((Uu.trans Ao).trans J) S4 R4|ret d=>cases G;exact q Z y Y ((Uu.trans Ao).trans J) S4 R4|err c=>cases G;exact q Z y Y ((Uu.trans Ao).trans J) S4 R4
def aoi(nm:Nm)(K:Fg)(ι:Io)(H:Hp)(s:Src)(J:It):Prop:=∀Z G M1,LeX ι H Z G->lq nm K Z G M1 ->
 (∀i d,i<s.len->s.item i M1=some d->J.go i G/\∀v R,J.yld i G v R->Le Z G Z R/\lq nm K Z R M1/\Rep K Z R d v)/\(s.fin M1=true->J.stop s.len G)
def tI(nm:Nm)(W:Gf)(K:Fg)(it:Mq):TI:=fun σ H R=>∃ι ρ M s M',lq nm K ι H M/\u9 K ι H ρ σ/\it.den W ρ M=.ok s M'/\∀Z G J,Le ι H Z G->lq nm K Z G M'->aoi nm K Z G s J->R J G
set_option tactic.hygienic true in
def a7j(hp:PassesOwn (model X.prog X.w) X.A X.env X.xe)(hc:X.calm=true)(hi:PI X tg iter (tI nm W X.K it))(hg:PG X tg (tGt nm X.K t))(hb:Pb X body (tSs nm W X.K EX V7))(hs:Jx iter=true):PS X (.For tg iter body [] pos) (tS nm W X.K EX (.for_ t it V7)) :=
 PS.of (ayz hp hc hi hg hb (El hs X.env)) λD σ H ι ρ M fl L M' S R e q=>by
  rw[MW.Sg] at e;obtain⟨s,M1,e1,e⟩:=gn e;refine⟨ι,ρ,M,s,M1,S,R,e1,λqv H1 J Uu S1 sj=>?_⟩;refine⟨λi m qk H2=>m=s.len-i/\i<=s.len/\∃Y u M2,Le qv H1 Y H2/\lq nm X.K Y H2 M2/\u9 X.K Y H2 u qk/\MW.Bu s.fin s.item (λd ρ M=>match t.put d ρ with|some L=>V7.den W L M|none=>.bad) m i u M2=.ok (fl,L) M',
   ⟨s.len,rfl,jy _,qv,ρ,M1,Le.refl _ _,S1,R.mono Uu,e⟩,?_⟩
  rintro i m qk H2 ⟨hm,q7,Y,u,M2,Ao,S2,R2,C⟩;obtain⟨go,q2⟩:=sj Y H2 M2 Ao.toX S2;cases m with
  |zero =>
   simp only[MW.Bu] at C;split at C<;>cases C;rename_i Pz;have hi:i=s.len:=by lia
   subst hi;exact .inl ⟨q2 Pz,q Y H2 qk (Uu.trans Ao) S2 R2⟩
  |succ m =>
   simp only[MW.Bu] at C;split at C
   .cases C
   .rename_i d hd
    obtain⟨⟨q3,q0⟩,M3,e3,C⟩:=gn C;obtain⟨g1,g2⟩:=go i d (by omega) hd;refine .inr ⟨g1,λG H4=>∃Z qq M4,Le qv H1 Z H4/\lq nm X.K Z H4 M4/\u9 X.K Z H4 qq G/\MW.Bu s.fin s.item (λd ρ M=>match t.put d ρ with|some L=>V7.den W L M|none=>.bad) m (i+1) qq M4=.ok (fl,L) M',
     λG H4 ⟨Z,qq,M4,h4⟩=>⟨m,uf _,by omega,by omega,Z,qq,M4,h4⟩,λv H3 yv=>?_⟩
    obtain⟨q1,S3,r3⟩:=g2 v H3 yv;split at e3
    .rename_i q4 q6
     refine⟨Y,u,M2,d,q4,S3,R2.mono q1,r3,q6,λq8 R5 _ _=>⟨Y,q4,M2,q3,q0,M3,S3,R5,e3,λZ H4 G q5 S4 R4=>?_⟩⟩;have y:=(Ao.trans q1).trans q5;cases q3 with
     |next=>exact⟨Z,q0,M3,y,S4,R4,C⟩|cont=>exact⟨Z,q0,M3,y,S4,R4,C⟩|brk=>cases C;exact q Z H4 G (Uu.trans y) S4 R4|ret d=>cases C;exact q Z H4 G (Uu.trans y) S4 R4|err c=>cases C;exact q Z H4 G (Uu.trans y) S4 R4
    .cases e3
section
variable{nm:Nm}{W:Gf}{X:Cx}{a b c:Expr}{a' b' c':Ex}{pos pos':Pos}{ι:Io}{H:Hp}{σ:St}{ρ:En}{M M1 M2:dg}{x y:Dv}{es:Y3}{es':Dn}{tg iter elt:Expr}
def PI.weak(h:PI X tg iter G)(w:∀σ H R,wi' σ H R->G σ H R):PI X tg iter wi':=λZ s σ H R I q=>h Z s σ H R I (w σ H R q)
def PI.of(h:PI X tg iter wi)(w:∀σ H R' ι ρ M s M',lq nm X.K ι H M->u9 X.K ι H ρ σ->it.den W ρ M=.ok s M'->(∀Z G J,Le ι H Z G->lq nm X.K Z G M'->aoi nm X.K Z G s J->R' J G)->wi σ H R'):PI X tg iter (tI nm W X.K it) :=
 PI.weak h fun σ H R' z_=>by obtain⟨ι,ρ,M,s,M',S,R,e,q⟩:=z_;exact w σ H R' ι ρ M s M' S R e q
def az4(hl:PE X l tl):PI X tg l (fun σ H R=>tl σ H λx H1=>∃a,x=.ref a/\((∃xs,Hm X.K H1 a xs)/\R (Itl X.K a) H1\/(∃xs,Iu X.K H1 a xs)/\R (Itt X.K a) H1)):=by
 intro qq s σ H R I h;refine Cv (hl qq s σ H _ I h) λv Z z_=>?_
 obtain⟨x,H1,G,r1,q1⟩:=z_;obtain⟨a,e,⟨⟨xs,hq⟩,q⟩|⟨⟨xs,hq⟩,q⟩⟩:=q1
 .subst e
  cases r1;obtain⟨yj,rv,p,hz⟩:=G.list hq;refine wpAny_pyIter_list p.isList ?_;refine⟨Z.heap.objs.size,[Z.heap.objs.size],_,_,H1,rfl,G.kept (t':=Z.toks) λb o e=>ao _ e,ai2 a _,⟨_,bh _ rfl,rfl,rfl⟩,λb hb=>?_,q⟩;have e:b=Z.heap.objs.size:=by simpa using hb
  subst e;exact G.ams (bf _) (G.zb.fresh (bf _))
 .subst e
  cases r1;obtain⟨yj,rv,p,hz⟩:=G.tuple hq;refine wy (show Z.heap.IsTuple a yj.toArray from p) ?_;refine⟨Z.heap.objs.size,[Z.heap.objs.size],_,_,H1,rfl,G.kept (t':=Z.toks) λb o e=>ao _ e,ae4 a _,⟨_,bh _ rfl,rfl,rfl⟩,λb hb=>?_,q⟩;have e:b=Z.heap.objs.size:=by simpa using hb
  subst e;exact G.ams (bf _) (G.zb.fresh (bf _))
def Yj{p:Addr}{ds:List Dv}{s:Src}(hs:∀Z R M1,LeX ι H Z R->lq nm X.K Z R M1->(∀i d,s.item i M1=some d->∃G v,R p=some (.lst G)/\G[i]?=some v/\Rep X.K Z R d v)/\(s.fin M1=true->∃G,R p=some (.lst G)/\G.length<=s.len)) :
 aoi nm X.K ι H s (Itl X.K p):=λZ R M1 le S1=>by
 obtain⟨a,b⟩:=hs Z R M1 le S1;refine⟨λi d hi hd=>?_,λhf=>?_⟩
 .obtain⟨G,v,h1,h2,h3⟩:=a i d hd
  refine⟨⟨G,v,Hm.of h1,h2⟩,λu H2 ⟨e,y⟩=>?_⟩;subst e;have:=y G (Hm.of h1);rw[h2] at this;cases this;exact⟨Le.refl _ _,S1,h3⟩
 .obtain⟨G,h1,h2⟩:=b hf
  exact⟨G,Hm.of h1,h2⟩
set_option tactic.hygienic true in
def a7l(ha:PE X a (tE nm W X.K a')):PI X tg a (tI nm W X.K (.val a')) :=
 PI.of (az4 ha) fun σ H R' ι ρ M s M' S R e q=>by
  rw[MW.Ji] at e;obtain⟨x,M1,e1,e⟩:=gn e;obtain⟨e,rfl⟩:=An e;refine one S R e1 λL H1 v le S1 R1 r=>?_
  cases r with
  |@tup p Z J h1 r1 =>
   simp only[MW.srcOf] at e;cases e;refine⟨p,rfl,.inr ⟨⟨J,Iu.of h1⟩,q L H1 _ le S1 λqk H2 M2 G S2=>⟨λi d hi Y=>?_,λ_=>⟨J,Iu.of (G.tup _ _ h1),by rw[<- r1.length];exact bf _⟩⟩⟩⟩;have Y:Z[i]?=some d:=Y;obtain⟨v,g1,g2⟩:=(r1.Mf G).get Y;refine⟨⟨J,v,Iu.of (G.tup _ _ h1),g1⟩,λu H3 ⟨ee,yy⟩=>?_⟩;subst ee;have:=yy J (Iu.of (G.tup _ _ h1));rw[g1] at this;cases this;exact⟨Le.refl _ _,S2,g2⟩
  |@vl p Z J h1 n1 r1 =>
   simp only[MW.srcOf] at e;cases e;refine⟨p,rfl,.inl ⟨⟨J,Hm.of h1⟩,q L H1 _ le S1 (Yj (ds:=Z) λqk H2 M2 G S2=>⟨λi d Y=>?_,λ_=>⟨J,G.lst _ _ n1.1 h1,by rw[<- r1.length];exact bf _⟩⟩)⟩⟩;have Y:Z[i]?=some d:=Y;obtain⟨v,g1,g2⟩:=(r1.Mf G).get Y;exact⟨J,v,G.lst _ _ n1.1 h1,g1,g2⟩
  |@ref n p h1 =>
   simp only[MW.srcOf] at e;obtain⟨Z,hn,rfl⟩:∃Z,M'[n]?=some (.lst Z)/\s=.live n Z.length:=by
    split at e
    .rename_i Z hn;cases e;exact⟨Z,hn,rfl⟩
    .cases e
   obtain⟨J,g1,g2⟩:=S1.obj n _ p hn h1;refine⟨p,rfl,.inl ⟨⟨J,Hm.of g1⟩,q L H1 _ le S1 (Yj (ds:=Z) λqk H2 M2 G S2=>⟨λi d Y=>?_,λhf=>?_⟩)⟩⟩
   .simp only[Src.item] at Y
    split at Y
    .rename_i qq T3
     split at Y
     .obtain⟨C,k1,k2⟩:=S2.obj n _ p T3 (G.get h1)
      obtain⟨v,k3,k4⟩:=k2.get Y;exact⟨C,v,k1,k3,k4⟩
     .cases Y
    .cases Y
   .simp only[Src.fin] at hf
    split at hf
    .rename_i qq T3
     obtain⟨C,k1,k2⟩:=S2.obj n _ p T3 (G.get h1);refine⟨C,k1,?_⟩;rw[<- k2.length];have:qq.length=Z.length:=by simpa using hf
     rw[this];exact bf _
    .cases hf
  |_=>simp[MW.srcOf] at e
set_option tactic.hygienic true in
def a7m(hg:Gl X "range")(hm:X.mg "range" = none)(ha:PE X a (tE nm W X.K a'))(J:noStar a=true):PI X tg (.Call (.Name "range" pr) [a] [] pos) (tI nm W X.K (.Jg a')) :=
 PI.of (ai3 hg hm (Qg ha V5 (j6 J _ _)) (j6 J _ _)) fun σ H R' ι ρ M s M' S R e q=>by
  rw[MW.Kq] at e;obtain⟨x,M1,e1,e⟩:=gn e;refine aab (es':=.cons a' .nil) (ds:=[x]) (M1:=M1) S R (by rw[MW.Bl,e1];simp) λY H1 vs le S1 R1 r=>?_
  obtain⟨i,hx⟩:∃i,x=.int i:=by cases x<;>first|exact⟨_,rfl⟩|cases e
  subst hx;have e:(if i.natAbs<=100000 then Res.ok (Src.con ((List.range i.toNat).map λ(k:Nat)=>MW.D.int (k:Int))) M1 else .bad)=.ok s M':=e;split at e<;>cases e;rename_i hi;cases r with
  |cons C r2 =>
   cases C;cases r2;refine⟨i,rfl,by lia,by omega,q Y H1 _ le S1 λqq H2 M2 Ao L=>⟨λj d hj Z=>?_,λ_=>?_⟩⟩
   .have G:j<i.toNat:=by simpa[Src.len] using hj
    have Z:((List.range i.toNat).map λ(k:Nat)=>MW.D.int (k:Int))[j]?=some d:=Z;rw[je,qx G] at Z;have Z:MW.D.int (j:Int)=d:=by simpa using Z
    subst Z;refine⟨G,λu H3 ⟨ee,yy⟩=>?_⟩;subst ee yy;exact⟨Le.refl _ _,L,by rw[Int.zero_add];exact .int _⟩
   .show i.toNat<=_
    simp[Src.len]
def ajl(R:u9 K ι H ρ σ):u9 K ι H (ρ++List.replicate k none) (σ++List.replicate k none):=R.append (u9.aoc k (by simp))
def aoj{Z:St}(R:σ.length=n)(ho:∀i∈Bt t,n<=i)(h:∀j,j∉Bt t->Z[j]?=(σ++List.replicate k none)[j]?):∀(j:Nat) v,(σ++List.replicate k none)[j]?=some (some v)->Z[j]?=some (some v):=λj v e=>by
 by_cases G:j∈Bt t
 .have:=ho j G
  rw[iu (a_ (f_ R) this),w5] at e;split at e<;>simp at e
 .rw[h j G];exact e
noncomputable def awr(o:Option Dv):List Dv:=match o with|some x=>[x]|none=>[]
set_option tactic.hygienic true in
def acg(h:MW.Dm fin item body (k+1) i M=.ok ds Z) :
 ∃d o M1 rest,item i M=some d/\body d M=.ok o M1/\MW.Dm fin item body k (i+1) M1=.ok rest Z/\ds=awr o++rest:=by
 simp only[MW.Dm] at h;split at h
 .cases h
 .rename_i d J
  obtain⟨o,M1,Y,h⟩:=gn h;obtain⟨rest,M2,G,h⟩:=gn h;cases h;exact⟨d,o,M1,rest,J,Y,G,by cases o<;>rfl⟩
def mj.snoc(r:mj K ι H ds Z)(h:Rep K ι H d v):mj K ι H (ds++[d]) (Z++[v]):=r.append (.cons h .nil)
set_option tactic.hygienic true in
def Va(e:MW.zp s body M1=.ok ds M2):s.len<=100000/\MW.Dm s.fin s.item body s.len 0 M1=.ok ds M2:=by
 unfold MW.zp at e;split at e
 .rename_i Z
  exact⟨Z,e⟩
 .cases e
def keptAs(v:Bool)(Z:List Dv)(M:dg):Res Dv:=if v=true then .ok (.vl Z) M else MW.new (.lst Z) M
def ajm(h:(Ex.comp v k t it e').den W ρ M=.ok d M'):∃s M1 Z M2,it.den W ρ M=.ok s M1/\s.len<=100000 /\
 MW.Dm s.fin s.item (λd M=>match t.put d (ρ++List.replicate k none) with|some G=>(e'.den W G M).bind λx M'=>.ok (some x) M'|none=>.bad) s.len 0 M1=.ok Z M2/\keptAs v Z M2=.ok d M':=by
 rw[MW.Mt] at h;obtain⟨s,M1,e1,h⟩:=gn h;obtain⟨Z,M2,R,h⟩:=gn h;exact⟨s,M1,Z,M2,e1,(Va R).1,(Va R).2,h⟩
def Io.adopt(ι:Io)(H:Hp)(D:Addr):Tr K (ι.hide D) H (ι.add D) H:=⟨λ_ _ e=>e,λ_ _ e n=>⟨e,λm=>(dz.mp m).elim n.1 λz=>n.2 (by rw[yp.mp z];exact di),λm=>n.2 (bx _ m)⟩,λ_ _ e=>e,λn a e=>by
 have e:ι.l[n]?=some a:=e;show(ι.l++[D])[n]?=_;rw[dj (aj.mp e).1];exact e⟩
theorem Rep.adopt(r:Rep K (ι.hide D) H d v):Rep K (ι.add D) H d v:=r.tr (ι.adopt H D)
theorem mj.adopt(r:mj K (ι.hide D) H d v):mj K (ι.add D) H d v:=r.tr (ι.adopt H D)
theorem lq.adopt(S:lq nm K (ι.hide D) H M)(hd:H D=some (.lst R))(r:mj K (ι.hide D) H ds R)(G:ι.off D):lq nm K (ι.add D) H (M++[.lst ds]):=by
 refine⟨by have:=S.len;simp only[Io.hide] at this;simp[Io.add,this],?_,λa Z=>?_,λn o a hn Z=>?_,S.tb⟩
 .exact yz.mpr ⟨S.nd,by simp,by
   intro x hx y hy;have:y=D:=by simpa using hy
   subst this;intro e;subst e;exact G.1 hx⟩
 .obtain⟨h1,R,h2⟩:=S.del a (bx _ Z)
  exact⟨λm=>(dz.mp m).elim h1 λz=>G.2 (by rw[<- yp.mp z];exact Z),R,h2⟩
 .rcases Cj hn with q|⟨q,rfl⟩
  .rcases Cj Z with z|⟨z,_⟩
   .exact(S.obj n o a q z).map (λd v r=>r.adopt) rfl
   .exact absurd (MW.zr q) (by rw[z,<- S.len];exact jr _)
  .rcases Cj Z with z|⟨_,rfl⟩
   .exact absurd (aj.mp z).1 (by rw[q,<- S.len];exact jr _)
   .exact⟨R,hd,r.adopt⟩
def aok(S:lq nm K (ι.hide D) H M)(hd:H D=some (.lst vs))(r:mj K (ι.hide D) H ds vs)(G:ι.off D)(le:Le R H0 ι H)(h0:H0 D=none)(h:keptAs v ds M=.ok d M') :
 ∃Z,Le R H0 Z H/\lq nm K Z H M'/\Rep K Z H d (.ref D):=by
 unfold keptAs at h;split at h
 .cases h
  exact⟨ι,le,S.show,.vl hd G r.show⟩
 .cases h
  refine⟨ι.add D,⟨?_,le.del,le.tup,le.Je,le.lst,le.dom⟩,S.adopt hd r G,.ref ?_⟩
  .obtain⟨Y,e,hY⟩:=le.ext
   exact⟨Y++[D],by show ι.l++[D]=_;rw[e,qd],λa ha=>(dz.mp ha).elim (hY a) λz=>by rw[yp.mp z];exact h0⟩
  .show(ι.l++[D])[M.length]?=some D
   rw[<- S.len];simp[Io.hide]
def BodyOk(nm:Nm)(K:Fg)(Z:St)(tc:TT)(te:TE)(qq:En)(M:dg)(o:Option Dv)(M':dg):Prop:=∀ι H (G1:V->Hp->Prop) (G0:Hp->Prop),lq nm K ι H M->u9 K ι H qq Z ->
 (∀G R v,Le ι H G R->lq nm K G R M'->(match o with|some x=>Rep K G R x v->G1 v R|none=>G0 R))->tc Z H λb H3=>if b=true then te Z H3 λv H4=>G1 v H4 else G0 H3
set_option tactic.hygienic true in
def Yk{N:Ya}(hk:N.length-X.N.length=k)(ho:∀i∈Bt t,X.N.length<=i)(z4:σ.length=X.N.length)(S:lq nm X.K ι H M)(R:u9 X.K ι H ρ σ)(e1:it.den W ρ M=.ok s M1)(zq:s.len<=100000)(e2:MW.Dm s.fin s.item body s.len 0 M1=.ok ds M')(ek:keptAs v0 ds M'=.ok d0 M0)(q:∀q6 H' v,Le ι H q6 H'->lq nm X.K q6 H' M0->Rep X.K q6 H' d0 v->Q v H')(hb:∀d M2 o M3,body d M2=.ok o M3->∃q2,t.put d (ρ++List.replicate k none)=some q2/\∀q5,BodyOk nm X.K q5 tc te q2 M2 o M3):ab9 (N.length-X.N.length) (tI nm W X.K it) (tGt nm X.K t) tc te σ H Q:=by
 refine⟨ι,ρ,M,s,M1,S,R,e1,λqk H1 J Uu S1 sj D hD=>?_⟩;rw[hk];refine⟨λi m H2=>m=s.len-i/\i<=s.len/\∃Z M2 G vs C,LeD D qk H1 (Io.hide Z D) H2/\lq nm X.K (Io.hide Z D) H2 M2/\H2 D=some (.lst vs)/\mj X.K (Io.hide Z D) H2 G vs/\G.length<=i /\
  MW.Dm s.fin s.item body m i M2=.ok C M'/\ds=G++C,?_,?_⟩
 .exact⟨s.len,rfl,jy _,qk,M1,[],[],ds,LeD.start hD _,S1.hide hD,qw,.nil,bf _,e2,rfl⟩
 .rintro i m H2 ⟨hm,z0,Z,M2,G,vs,C,Ao,S2,zk,q4,Ew,e3,q1⟩
  have zz:Le qk H1 Z H2:=LeD.done Ao;have z1:Z.δ=qk.δ:=zz.del;have z6:Z.off D:=⟨(S2.del D di).1,λz=>by rw[z1] at z;exact(S1.fresh hD).2 z⟩;obtain⟨go,q7⟩:=sj (Io.hide Z D) H2 M2 (Ao.toX hD) S2;cases m with
  |zero =>
   simp only[MW.Dm] at e3;split at e3<;>cases e3;rename_i Pz;refine hG λ_ _k=>?_
   have hi:i=s.len:=by lia
   subst hi;rw[lg] at q1;subst q1;obtain⟨zv,z5,S9,r9⟩:=aok S2 zk q4 z6 zz hD ek;apply _k;exact .inl ⟨q7 Pz,q zv H2 _ (Uu.trans z5) S9 r9⟩
  |succ m =>
   refine hG λ_ _k=>?_
   obtain⟨d,o,M3,qq,h1,h2,h3,h4⟩:=acg e3;obtain⟨g1,g2⟩:=go i d (by lia) h1;apply _k;refine .inr ⟨g1,λv H3 yv=>?_⟩;refine hG λ_ _k=>?_
   obtain⟨q0,S3,r3⟩:=g2 v H3 yv;obtain⟨q2,z2,zw⟩:=hb d M2 o M3 h2;have R3:u9 X.K (Io.hide Z D) H3 ρ σ:=((R.mono Uu).Mf (Ao.toX hD)).mono q0;apply _k;refine⟨Io.hide Z D,ρ++List.replicate k none,M2,d,q2,S3,ajl R3,r3,z2,λq5 R5 l5 k5=>⟨l5,aoj z4 ho k5,?_⟩⟩;have z3:=q0.lst D vs (S2.del D di).1 zk;refine zw q5 (Io.hide Z D) H3 _ _ S3 R5 (λY H6 u qv S6=>by
    have L:=qv.lst D vs (S2.del D di).1 z3;have q3:LeD D qk H1 Y H6:=(Ao.go q0).go qv;have ei:Y=Io.hide ⟨Y.l,Z.δ⟩ D:=by have:=qv.del;obtain⟨l6,z7⟩:=Y;simp only[Io.hide] at this ⊢;rw[this]
    rw[ei] at q3 S6;have q8:mj X.K (Io.hide ⟨Y.l,Z.δ⟩ D) H6 G vs:=by rw[<- ei];exact(q4.mono q0).mono qv
    cases o with
    |none =>
     refine⟨m,uf _,by lia,by lia,⟨Y.l,Z.δ⟩,M3,G,vs,qq,q3,S6,L,q8,a_ Ew x_,h3,?_⟩;rw[q1,h4];rfl
    |some x =>
     intro r6;rw[ei] at r6;have Jf:D∈(Io.hide ⟨Y.l,Z.δ⟩ D).δ:=di;refine⟨vs,m,L,?_,uf _,by lia,by lia,⟨Y.l,Z.δ⟩,M3,G++[x],vs++[u],qq,q3.grow hD L,S6.grow L Jf,qw,(q8.snoc r6).grow L Jf,by simp;exact Ew,h3,?_⟩
     .rw[<- q4.length]
      exact Bg (ig Ew (ig z0 zq)) (by decide)
     .rw[q1,h4];simp[awr])
set_option tactic.hygienic true in
def Yl{N:Ya}(hk:N.length-X.N.length=k)(ho:∀i∈Bt t,X.N.length<=i):∀σ H Q,σ.length=X.N.length->tE nm W X.K (.comp v0 k t it e') σ H Q ->
 ab9 (N.length-X.N.length) (tI nm W X.K it) (tGt nm X.K t) (λ_ H Q=>Q true H) (tE nm W X.K e') σ H Q:=fun σ H Q G hh=>by
 obtain⟨ι,ρ,M,d,M',S,R,e,q⟩:=hh;obtain⟨s,M1,ds,M2,e1,Y,e2,ek⟩:=ajm e;refine Yk hk ho G S R e1 Y e2 ek q λd M2 o M3 Z=>?_
 split at Z
 .rename_i qq L
  obtain⟨x,M4,e5,Z⟩:=gn Z;cases Z;refine⟨qq,L,λqk qv H5 G1 G0 S5 R5 g=>?_⟩;show if true=true then _ else _
  rw[dh rfl];exact one (X:=X) S5 R5 e5 λJ H6 u C S6 R6 r6=>g J H6 u C S6 r6
 .cases Z
def ach(h:(Ex.Eb v k t it c' e').den W ρ M=.ok d M'):∃s M1 G M2,it.den W ρ M=.ok s M1/\s.len<=100000 /\
 MW.Dm s.fin s.item (λd M=>match t.put d (ρ++List.replicate k none) with|some Z=>(c'.den W Z M).bind λb M'=>(match b with|.bl true=>(e'.den W Z M').bind λx R=>.ok (some x) R|.bl false=>.ok none M'|_=>.bad)|none=>.bad) s.len 0 M1=.ok G M2/\keptAs v G M2=.ok d M':=by
 rw[MW.Vk] at h;obtain⟨s,M1,e1,h⟩:=gn h;obtain⟨G,M2,e2,h⟩:=gn h;exact⟨s,M1,G,M2,e1,(Va e2).1,(Va e2).2,h⟩
set_option tactic.hygienic true in
def Uh{N:Ya}(hk:N.length-X.N.length=k)(ho:∀i∈Bt t,X.N.length<=i):∀σ H Q,σ.length=X.N.length->tE nm W X.K (.Eb v0 k t it c' e') σ H Q ->
 ab9 (N.length-X.N.length) (tI nm W X.K it) (tGt nm X.K t) (tQ nm W X.K c') (tE nm W X.K e') σ H Q:=fun σ H Q L hh=>by
 obtain⟨ι,ρ,M,d,M',S,R,e,q⟩:=hh;obtain⟨s,M1,ds,M2,e1,J,e2,ek⟩:=ach e;refine Yk hk ho L S R e1 J e2 ek q λd M2 o M3 Z=>?_
 split at Z
 .rename_i qv qk
  obtain⟨x,M4,e5,Z⟩:=gn Z;refine⟨qv,qk,λq0 q1 H5 G1 G0 S5 R5 g=>?_⟩;split at Z
  .obtain⟨y,M6,e6,Z⟩:=gn Z
   cases Z;refine Xc (X:=X) S5 R5 e5 λG H6 Y S6 R6=>?_
   rw[dh rfl];exact one (X:=X) S6 R6 e6 λC H7 u qq S7 R7 r7=>g C H7 u (Y.trans qq) S7 r7
  .cases Z
   refine Xc (X:=X) S5 R5 e5 λG H6 Y S6 R6=>?_
   rw[cu (by simp)];exact g G H6 .non Y S6
  .cases Z
 .cases Z
def PE.aci(h:PE X e t)(w:∀σ H Q,σ.length=X.N.length->t' σ H Q->t σ H Q):PE X e t':=λZ s σ H Q I q=>h Z s σ H Q I (w σ H Q I.len q)
def PS.aci(h:PS X st t)(w:∀D σ H,σ.length=X.N.length->t' D σ H->t D σ H):PS X st t':=λZ s σ H D I q=>h Z s σ H D I (w D σ H I.len q)
def az7(B:Et X N scope)(Es:X.calm=true)(hi:PI X tg iter (tI nm W X.K it))(hg:∀C Z s H,PG (Mm X N scope C Z s H) tg (tGt nm X.K t))(he:∀C Z s H,PE (Mm X N scope C Z s H) elt (tE nm W X.K G))(hs:Jx iter=true)(hk:N.length-X.N.length=k)(R:∀i∈Bt t,X.N.length<=i):PE X (.ListComp elt [⟨tg,iter,[],0⟩] scope pos) (tE nm W X.K (.comp v0 k t it G)) :=
 PE.aci (ag9 B Es hi hg (λ_ _ _ _=>.inl ⟨rfl,rfl⟩) he (El hs X.env)) (Yl hk R)
def aol(B:Et X N scope)(Es:X.calm=true)(hi:PI X tg iter (tI nm W X.K it))(hg:∀C Z s H,PG (Mm X N scope C Z s H) tg (tGt nm X.K t))(hc:∀C Z s H,PT (Mm X N scope C Z s H) c (tQ nm W X.K c'))(he:∀C Z s H,PE (Mm X N scope C Z s H) elt (tE nm W X.K G))(hs:Jx iter=true)(hk:N.length-X.N.length=k)(R:∀i∈Bt t,X.N.length<=i):PE X (.ListComp elt [⟨tg,iter,[c],0⟩] scope pos) (tE nm W X.K (.Eb v0 k t it c' G)) :=
 PE.aci (ag9 B Es hi hg (λ_ _ _ _=>.inr ⟨c,rfl,hc _ _ _ _⟩) he (El hs X.env)) (Uh hk R)
def acj(h:∀σ H Q,σ.length=X.N.length->tE nm W X.K e' σ H Q->tt σ H Q):∀D σ H,σ.length=X.N.length->tS nm W X.K EX (.asg (.tg (.name i)) e') D σ H->ai1 tt (Vt i) D σ H:=λD σ H Z hh=>by obtain⟨ι,ρ,M,fl,qq,M',S,R,e,q⟩:=hh;rw[MW.Vl] at e;obtain⟨x,M1,e1,e⟩:=gn e;obtain⟨qk,M2,e2,e⟩:=gn e;cases e;rw[MW.als] at e2;obtain⟨e3,e4⟩:=An e2;subst e4;cases e3;exact h σ H _ Z (one S R e1 λG H1 v le S1 R1 r=>q G H1 _ le S1 (R1.set r i))
def ajn{y:Str}(B:Et X N scope)(Es:X.calm=true)(hi:PI X tg iter (tI nm W X.K it))(hg:∀C G s H,PG (Mm X N scope C G s H) tg (tGt nm X.K t))(he:∀C G s H,PE (Mm X N scope C G s H) elt (tE nm W X.K R))(hs:Jx iter=true)(hk:N.length-X.N.length=k)(ho:∀i∈Bt t,X.N.length<=i)(hN:X.N.Nodup)(hy:X.N[i]?=some y)(hl:X.env.scope.names.lookup y=some .local)(Z:swapsWith (.ListComp elt [⟨tg,iter,[],0⟩] scope pos) (some (.Name y py)) aob.line X.env=pure true):PS X (.Assign [.Name y py] (.ListComp elt [⟨tg,iter,[],0⟩] scope pos) aob) (tS nm W X.K EX (.asg (.tg (.name i)) (.comp v0 k t it R))) :=
 PS.aci (aha B Es hi hg (λ_ _ _ _=>.inl ⟨rfl,rfl⟩) he (El hs X.env) hN hy hl Z) (acj (Yl hk ho))
def ack{y:Str}(B:Et X N scope)(Es:X.calm=true)(hi:PI X tg iter (tI nm W X.K it))(hg:∀C Z s H,PG (Mm X N scope C Z s H) tg (tGt nm X.K t))(hc:∀C Z s H,PT (Mm X N scope C Z s H) c (tQ nm W X.K c'))(he:∀C Z s H,PE (Mm X N scope C Z s H) elt (tE nm W X.K R))(hs:Jx iter=true)(hk:N.length-X.N.length=k)(ho:∀i∈Bt t,X.N.length<=i)(hN:X.N.Nodup)(hy:X.N[i]?=some y)(hl:X.env.scope.names.lookup y=some .local)(G:swapsWith (.ListComp elt [⟨tg,iter,[c],0⟩] scope pos) (some (.Name y py)) aob.line X.env=pure true):PS X (.Assign [.Name y py] (.ListComp elt [⟨tg,iter,[c],0⟩] scope pos) aob) (tS nm W X.K EX (.asg (.tg (.name i)) (.Eb v0 k t it c' R))) :=
 PS.aci (aha B Es hi hg (λ_ _ _ _=>.inr ⟨c,rfl,hc _ _ _ _⟩) he (El hs X.env) hN hy hl G) (acj (Uh hk ho))
end
def spF(nm:Nm)(W:Gf)(K:Fg)(n f:Nat):Sp:=λvs H Q _=>∃R M ds d M',lq nm K R H M/\mj K R H ds vs/\ds.length=n/\W.call f ds M=.ok d M'/\∀Z G v,Le R H Z G->lq nm K Z G M'->Rep K Z G d v->Q v G
def s_call(F:Jt X.prog X.w X.K X.mg X.base CX0 k fa fd ps (spF nm W X.K n f))(hr:Ah k X.A)(hg:Gl X x)(hm:X.mg x=some (.ref fa))(hk:PySem.W.keepIn X.K (.ref fa)=true)(hb:Binds X.K fd ps [])(Z:Dn.len G=n)(ha:PA X (a::es) (W0 nm W X.K G))(Ox:(x==("__debug__" : Str))=false)(he:starEach (a::es) X.env=(false,eval a X.env)::starEach es X.env)(Lh:(backTo pos (starEach es X.env)).any (·.1)=false) :
 PE X (.Call (.Name x p) (a::es) [] pos) (tE nm W X.K (.call f G)) :=
 PE.of (ag3 (E:=E0) F hr hg hm hk hb .nil a6a ha Ox he Lh) fun σ H Q ι ρ M d M' S R e q=>by
  rw[MW.alm] at e;obtain⟨ds,M1,e1,e⟩:=gn e;refine aab S R e1 λqv H1 vs le S1 R1 r=>?_
  rw[lg];exact⟨qv,M1,ds,d,M',S1,r,(Kh e1).trans Z,e,λqk H' v qq S' r'=>q qk H' v (le.trans qq) S' r'⟩
def az9:PE X (.Dict [] [] pos) (tE nm W X.K .aij):=PE.of am4 fun σ H Q ι ρ M d M' S R e q=>by
 rw[MW.alj] at e;cases e;intro p Z;obtain⟨G,Ao⟩:=S.new (o:=.dT []) (H':=upd H p (.dT [])) Z (λa u e=>by rw[jb (mz e Z)];exact e) λ_=>⟨[],qw,.nil⟩
 exact q _ _ _ Ao G (.ref (by show(ι.l++[p])[M.length]?=some p;rw[<- S.len];simp))
def a0a:PE X (.Dict [] [] pos) (tE nm W X.K .Za):=PE.of am3 fun σ H Q ι ρ M d M' S R e q=>by
 rw[MW.alk] at e;cases e;intro p Z;obtain⟨G,Ao⟩:=S.new (o:=.dK []) (H':=upd H p (.dK [])) Z (λa u e=>by rw[jb (mz e Z)];exact e) λ_=>⟨[],qw,.nil⟩
 exact q _ _ _ Ao G (.ref (by show(ι.l++[p])[M.length]?=some p;rw[<- S.len];simp))
def bd1(R:Nm)(K:Fg):ayu:=λo i v H Q=>∃Z M x y d M',lq R K Z H M/\Rep K Z H x o/\Rep K Z H y i/\Rep K Z H d v/\MW.setOp x y d M=some M'/\∀G,Le Z H Z G->lq R K Z G M'->Q G
def V8(h:n<100000):n<sizeLine:=dm h aca
set_option tactic.hygienic true in
def as7(hu:X.A.units+1<cLine):ayv X (bd1 nm X.K):=by
 intro qk s σ H o i v ov iv u Q I ro ri rv hh;obtain⟨ι,M,x,y,d,M',S,rx,ry,rd,e,q⟩:=hh;obtain⟨j,hx⟩:∃j,x=.ref j:=by cases x<;>first|exact⟨_,rfl⟩|cases e
 subst hx;obtain⟨p,rfl,G⟩:∃p,o=.ref p/\ι.l[j]?=some p:=by cases rx with|ref z=>exact⟨_,rfl,z⟩
 simp only[MW.setOp] at e;split at e
 .rename_i xs Y
  split at e
  .rename_i k
   obtain⟨qq,R,e2⟩:=bw.mp e;subst e2;cases ry;obtain⟨vs,J,Z⟩:=S.obj j _ p Y G;refine set_list qk s σ H _ _ v ov iv u Q I ro ri rv ⟨p,vs,k,qq,rfl,rfl,J,by rw[<- Z.length];exact R,?_⟩;obtain⟨C,L⟩:=S.put (u:=.lst (vs.set qq v)) (o:=.lst (xs.set qq d)) Y G λle=>⟨_,qw,(Z.mono le).set (rd.mono le) qq⟩
   exact q _ L C
  .cases e
 .rename_i jn Y
  obtain⟨k,R,e⟩:=fc.mp e;split at e<;>cases e;rename_i hl;obtain⟨l,J,Z⟩:=S.obj j _ p Y G;obtain⟨b,rfl,hb⟩:=aac ry R;cases ro;refine Yd (H':=upd H p (.dT (putK l k v))) (y:=.ref b) (v:=v) hu I (ae8.t J hb (by rw[<- Z.length];exact V8 hl)) ri rv λs' I'=>⟨_,I',?_⟩
  obtain⟨C,L⟩:=S.put (u:=.dT (putK l k v)) (o:=.dT (MW.Cz jn k d)) Y G λle=>⟨_,qw,(Z.mono le).put (rd.mono le)⟩
  exact q _ L C
 .rename_i jn Y
  obtain⟨k,R,e⟩:=fc.mp e;split at e<;>cases e;rename_i hl;obtain⟨l,J,Z⟩:=S.obj j _ p Y G;have hy:=Tf ry R;subst hy;cases ro;refine Yd (H':=upd H p (.dK (putK l k v))) (y:=kV k) (v:=v) hu I (ae8.k J (by rw[<- Z.length];exact V8 hl)) ri rv λs' I'=>⟨_,I',?_⟩
  obtain⟨C,L⟩:=S.put (u:=.dK (putK l k v)) (o:=.dK (MW.Cz jn k d)) Y G λle=>⟨_,qw,(Z.mono le).put (rd.mono le)⟩
  exact q _ L C
 .cases e
def V9(h:aad e=true)(t:Expr)(l:Nat)(Z:Env):swapsWithSole [t] e l Z=pure false:=by unfold swapsWithSole;exact Ue h _ _ _
def aom(e o b:Expr)(p:Pos)(l:Nat)(Z:Env):swapsWithSole [.Subscript o b p] e l Z=pure false:=by cases e<;>rfl
def aon(hu:X.A.units+1<cLine)(he:PE X a (tE nm W X.K a'))(ho:PE X o (tE nm W X.K o'))(hi:PE X b (tE nm W X.K b'))(ha:∀v,assign (.Subscript o b pos') X.env v=(do
 let ov <- holding [v] (eval o X.env)
 let iv <- holding [v,ov] (eval b X.env)
 standAt pos'
 holding [v,ov,iv] (setItem ov iv v)
 release [v,ov,iv] [])):PS X (.Assign [.Subscript o b pos'] a pos) (tS nm W X.K EX (.asg (.sub o' b') a')) :=
 PS.of (Zr he (ayx ho hi (as7 (nm:=nm) hu) ha) (aom _ _ _ _ _ _) (by rfl) (by rfl)) λD σ H ι ρ M fl q0 M' S R e q=>by
  rw[MW.Vl] at e;obtain⟨x,M1,e1,e⟩:=gn e;obtain⟨qv,M2,G,e⟩:=gn e;cases e;rw[MW.arl] at G;obtain⟨y,M3,e3,G⟩:=gn G;obtain⟨z,M4,e4,G⟩:=gn G;obtain⟨M5,M6,e5,e6⟩:=gn G;obtain⟨e7,e8⟩:=An e5;subst e8;cases e6;refine one S R e1 λq2 H1 v le S1 R1 r=>?_
  refine one S1 R1 e3 λq1 H2 v2 Ao S2 R2 r2=>one S2 R2 e4 λqk H3 v3 Z S3 R3 r3=>?_
  exact⟨qk,_,y,z,x,_,S3,r2.mono Z,r3,(r.mono Ao).mono Z,e7,λH' qq S'=>q qk H' σ (((le.trans Ao).trans Z).trans qq) S' (R3.mono qq)⟩
def Bv.weak(h:Bv X f r)(w:∀Z H Q,r' Z H Q->r Z H Q):Bv X f r':=λG s σ H Z us Q I R q=>h G s σ H Z us Q I R (w Z H Q q)
def rB(nm:Nm)(K:Fg)(b:Blt):List V->Hp->VK->Prop:=λvs H Q=>∃R M ds d M',lq nm K R H M/\mj K R H ds vs/\MW.qm b ds M=.ok d M'/\∀Z G v,Le R H Z G->lq nm K Z G M'->Rep K Z G d v->Q v G
def Bv.of(h:Bv X f r)(w:∀R H Q G M ds d M',lq nm X.K G H M->mj X.K G H ds R->MW.qm bb ds M=.ok d M'->(∀Z H' v,Le G H Z H'->lq nm X.K Z H' M'->Rep X.K Z H' d v->Q v H')->r R H Q):Bv X f (rB nm X.K bb) :=
 Bv.weak h λR H Q z_=>by obtain⟨G,M,ds,d,M',S,r,e,q⟩:=z_;exact w R H Q G M ds d M' S r e q
def acn{X:Cx}:∀Z H Q,tE nm W X.K (.blt t qq) Z H Q->tCB (rB nm X.K t) (W0 nm W X.K qq) Z H Q:=λZ H Q hh=>by obtain⟨ι,ρ,M,d,M',S,R,e,q⟩:=hh;rw[MW.Jh] at e;obtain⟨ds,M1,e1,e⟩:=gn e;exact aab S R e1 λqv H1 vs le S1 R1 r=>⟨qv,M1,ds,d,M',S1,r,e,λqk H' v G S' r'=>q qk H' v (le.trans G) S' r'⟩
def ahd{id:String}(hc:Bv X (.builtin id) (rB nm X.K t))(hg:Gl X x)(hm:X.mg x=none)(hv:bootBuiltins x=some (.builtin id))(ha:PA X (a::Z) (W0 nm W X.K G))(R:x≠"__name__")(Ox:(x==("__debug__" : Str))=false)(he:starEach (a::Z) X.env=(false,eval a X.env)::starEach Z X.env)(Lh:(backTo pos (starEach Z X.env)).any (·.1)=false):PE X (.Call (.Name x p) (a::Z) [] pos) (tE nm W X.K (.blt t G)):=PE.weak (amy hc hg hm hv ha R Ox he Lh) acn
def afk(hc:Bv X (.type T) (rB nm X.K t))(hg:Gl X x)(hm:X.mg x=none)(hv:bootBuiltins x=some (.type T))(ha:PA X (a::Z) (W0 nm W X.K G))(R:x≠"__name__")(Ox:(x==("__debug__" : Str))=false)(he:starEach (a::Z) X.env=(false,eval a X.env)::starEach Z X.env)(Lh:(backTo pos (starEach Z X.env)).any (·.1)=false):PE X (.Call (.Name x p) (a::Z) [] pos) (tE nm W X.K (.blt t G)):=PE.weak (ai9 hc hg hm hv ha R Ox he Lh) acn
def Ld(r:mj K Z H ds G)(h:ds=[d]):∃v,G=[v]/\Rep K Z H d v:=by subst h;cases r with|cons h t=>cases t;exact⟨_,rfl,h⟩
def as8:Bv X (.type "tuple") (rB nm X.K .tuple):=Bv.of W9 λvs H Q ι M ds d M' S r e q=>by
 cases r with
 |nil=>simp[MW.qm] at e
 |@cons x v _ _ h t =>
  cases t with
  |cons h2 t2=>simp[MW.qm] at e
  |nil =>
   have e:Res.vo ((MW.yd M x).map MW.D.tup) M=.ok d M':=e;obtain⟨e1,e2⟩:=An e;subst e2;obtain⟨xs,e3,rfl⟩:=bw.mp e1;obtain⟨p,R,rfl,Z,G⟩:=Fo S h e3;rcases Z with Z|Z
   .refine⟨p,R,rfl,.inl ⟨Hm.of Z,λl hl=>?_⟩⟩
    obtain⟨S2,Ao,r2⟩:=Oj S hl G;exact q ι _ _ Ao S2 r2
   .exact⟨p,R,rfl,.inr ⟨Iu.of Z,q ι H _ (Le.refl _ _) S (.tup Z G)⟩⟩
set_option tactic.hygienic true in
def a0b:Bv X (.type "list") (rB nm X.K .list):=Bv.of Zz λu H Q ι M Z d M' S r e q=>by
 cases r with
 |nil=>simp[MW.qm] at e
 |@cons x v _ _ h t =>
  cases t with
  |cons h2 t2=>simp[MW.qm] at e
  |nil =>
   have e:(match MW.yd M x with|some Z=>MW.new (.lst Z) M|none=>.bad)=Res.ok d M':=e;cases e3:MW.yd M x with
   |none=>rw[e3] at e;cases e
   |some xs =>
    rw[e3] at e;cases e;obtain⟨p,G,rfl,J,Y⟩:=Fo S h e3;refine⟨p,G,rfl,J.imp Hm.of Iu.of,λl y=>?_⟩;obtain⟨L,R,C⟩:=Z9 S y Y;exact q _ _ _ R L C
set_option tactic.hygienic true in
def a7o:Bv X (.builtin "len") (rB nm X.K .len):=Bv.of Zy λvs H Q L M Y d M' S r e q=>by
 cases r with
 |nil=>simp[MW.qm] at e
 |@cons x v _ _ h t =>
  cases t with
  |cons h2 t2=>simp[MW.qm] at e
  |nil =>
   have fin:∀C,(MW.yd M x=some C)->d=.int C.length->M'=M->∃p J,[v]=[V.ref p]/\(Hm X.K H p J\/Iu X.K H p J)/\Q (.int J.length) H:=λC R Z y=>by subst Z y;obtain⟨p,us,rfl,hp,u⟩:=Fo S h R;exact⟨p,us,rfl,hp.imp Hm.of Iu.of,by rw[<- u.length];exact q L H _ (Le.refl _ _) S (.int _)⟩
   cases h with
   |fz Z G =>
    cases e;exact⟨_,_,rfl,.inl Z.sq,by rw[<- G.length];exact q L H _ (Le.refl _ _) S (.int _)⟩
   |@ref n p Z =>
    have e:(match M[n]? with|some (.lst Y)=>Res.ok (MW.D.int Y.length) M|_=>.bad)=Res.ok d M':=e;split at e
    .rename_i Y hM
     cases e;exact fin Y (by simp[MW.yd,MW.gm,hM]) rfl rfl
    .cases e
   |tup Z G=>cases e;exact fin _ rfl rfl rfl|vl Z n1 G=>cases e;exact fin _ rfl rfl rfl|_=>cases e
open MW
noncomputable def Ha(f:Dv->Dv->Option Bool)(Z bs:List Dv)(j:Nat):Bool:=match Z[j]?,bs[j]? with
 |some a,some b=>(f a b).getD false|_,_=>false
set_option tactic.hygienic true in
theorem Iz{f:Dv->Dv->Option Bool}:∀{Z bs:List Dv}{r:Bool},MW.Qn f Z bs=some r->(∀(j:Nat) a b,Z[j]?=some a->bs[j]?=some b->∃c,f a b=some c) /\
 r=((List.range (min Z.length bs.length)).all (Ha f Z bs)&&Z.length==bs.length)
 |[],[],r,h=>by cases h;exact⟨λj a b e=>by simp at e,by simp⟩
 |[],b::bs,r,h=>by cases h;exact⟨λj a b e=>by simp at e,by simp⟩
 |a::Z,[],r,h=>by cases h;exact⟨λj a b _ e=>by simp at e,by simp⟩
 |a::Z,b::bs,r,h=>by
  simp only[MW.Qn] at h;split at h
  .rename_i x y J L
   cases h;obtain⟨C,g2⟩:=Iz L;refine⟨λj a' u Y G=>?_,?_⟩
   .cases j with
    |zero=>simp at Y G;subst Y G;exact⟨x,J⟩|succ j=>exact C j a' u (by simpa using Y) (by simpa using G)
   .rw[jw,jw,Nat.succ_min_succ,List.range_succ_eq_map,List.all_cons,List.all_map]
    have z:Ha f (a::Z) (b::bs) 0=x:=by simp[Ha,J]
    have R:(Ha f (a::Z) (b::bs) ∘ Nat.succ)=Ha f Z bs:=by funext j;simp[Ha]
    rw[z,R,g2];have S:(Z.length+1==bs.length+1)=(Z.length==bs.length):=by
     by_cases q:Z.length=bs.length
     .simp[q]
     .have:¬(Z.length+1=bs.length+1):=by lia
      simp[q,this]
    rw[S,Bool.and_assoc]
  .cases h
set_option tactic.hygienic true in
theorem N8{Z:Io}{H:Hp}{K:Fg}{f:Dv->Dv->Option Bool}(Y:∀x y v r,Rep K Z H x v->Rep K Z H y v->f x y=some r->r=true):∀{J bs:List Dv}{G:List V}{r:Bool},mj K Z H J G->mj K Z H bs G->MW.Qn f J bs=some r->r=true
 |_,_,_,_,.nil,.nil,h=>by cases h;rfl
 |_,_,_,_,.cons h1 t1,.cons h2 t2,h=>by
  simp only[MW.Qn] at h;split at h
  .rename_i x y C L
   cases h;rw[Y _ _ _ _ h1 h2 C,N8 Y t1 t2 L];rfl
  .cases h
inductive EqI(M:dg)(f:Dv->Dv->Option Bool):Dv->Dv->Bool->Prop
 |non:EqI M f .non .non true
 |bl (a b:Bool):EqI M f (.bl a) (.bl b) (a==b)
 |int (a b:Int):EqI M f (.int a) (.int b) (decide (a=b))
 |str (a b:Str):EqI M f (.str a) (.str b) (decide (a=b))
 |tup {as bs:List Dv} {r:Bool} (h:MW.Qn f as bs=some r):EqI M f (.tup as) (.tup bs) r
 |lst {x y:Dv} {as bs:List Dv} {r:Bool} (h1:MW.gm M x=some as) (h2:MW.gm M y=some bs) (h:(if as.length=bs.length then MW.Qn f as bs else some false)=some r):EqI M f x y r
set_option tactic.hygienic true in
def aaf(h:MW.Ko M (k+1) x y=some r):EqI M (MW.Ko M k) x y r:=by
 unfold MW.Ko at h;split at h
 .cases h;exact .int _ _
 .cases h;exact .bl _ _
 .cases h;exact .str _ _
 .cases h;exact .non
 .exact .tup h
 .split at h
  .rename_i Y Z;exact .lst Y Z h
  .cases h
def aco{X:Cx}(S:lq nm X.K Z H M)(rx:Rep X.K Z H x v)(ry:Rep X.K Z H y v)(R:MW.gm M x=some ds)(h2:MW.gm M y=some es):∃vs,mj X.K Z H ds vs/\mj X.K Z H es vs:=by obtain⟨p,vs,rfl,g1,g2⟩:=wk S rx R;obtain⟨p',ws,hw,G,g4⟩:=wk S ry h2;cases hw;rw[g1] at G;cases G;exact⟨vs,g2,g4⟩
theorem aag{nm:Nm}{R:Io}{H:Hp}{M:dg}{X:Cx}(S:lq nm X.K R H M):∀(k:Nat)(x y:Dv)(v:V)(r:Bool),Rep X.K R H x v->Rep X.K R H y v->MW.Ko M k x y=some r->r=true
 |0,_,_,_,_,_,_,h=>by cases h
 |k+1,x,y,v,r,rx,ry,h=>by
  have ih:=aag S k;cases aaf h with
  |non=>rfl|bl a b=>cases rx;cases ry;simp|int a b=>cases rx;cases ry;simp|str a b=>cases rx;cases ry;simp
  |tup h=>cases rx with
   |tup e1 Z=>cases ry with
    |tup e2 G=>rw[e1] at e2;cases e2;exact N8 ih Z G h
  |lst h1 h2 h3 =>
   obtain⟨vs,Z,G⟩:=aco S rx ry h1 h2;rw[dh (Z.length.trans G.length.symm)] at h3;exact N8 ih Z G h3
def Vals.afl{j:Nat}(r:Vals xs us)(G:xs[j]?=some v)(h2:us[j]?=some u):RelV v u:=by obtain⟨u',Z,R⟩:=L2.Vals.get r G;rw[h2] at Z;cases Z;exact R
set_option tactic.hygienic true in
theorem Wa{nm:Nm}{X:Cx}{ι:Io}{H:Hp}{σ:St}{M:dg}{q0:Zp}{s:Shared}(I:Inv X q0 σ H s)(S:lq nm X.K ι H M):∀(k:Nat)(A:Around)(x y:Dv)(v u:V)(v' u':Value)(r:Bool),Ah k A->Rep X.K ι H x v->Rep X.K ι H y u->RelV v v'->RelV u u'->MW.Ko M k x y=some r->SeqAt.EqAt A s v' u' r
 |0,_,_,_,_,_,_,_,_,_,_,_,_,_,h=>by cases h
 |k+1,A,x,y,v,u,v',u',r,hr,rx,ry,rv,ru,h=>by
  have ih:=Wa I S k A.in1;have q3:=hr.in1;have elems:∀(Y Z:List Dv)(vs ws:List V)(is J:Zl)(rr:Bool),mj X.K ι H Y vs->mj X.K ι H Z ws->Vals vs is->Vals ws J->MW.Qn (MW.Ko M k) Y Z=some rr ->
   ∀j (h1:j<is.toArray.size) (h2:j<J.toArray.size),SeqAt.EqAt A.in1 s is.toArray[j] J.toArray[j] (Ha (MW.Ko M k) Y Z j):=λY Z vs ws is J rr rd re Uv qv he j h1 h2=>by
   have l1:j<Y.length:=by rw[rd.length,Uv.length];simpa using h1
   have l2:j<Z.length:=by rw[re.length,qv.length];simpa using h2
   have R:Y[j]?=some Y[j]:=by simp[l1]
   have G:Z[j]?=some Z[j]:=by simp[l2]
   obtain⟨c,hc⟩:=(Iz he).1 j _ _ R G;obtain⟨va,a1,a2⟩:=rd.get R;obtain⟨wa,b1,b2⟩:=re.get G;have q1:is[j]?=some is.toArray[j]:=by simp
   have q2:J[j]?=some J.toArray[j]:=by simp
   have:=ih _ _ va wa _ _ c q3 a2 b2 (Vals.afl Uv a1 q1) (Vals.afl qv b1 q2) hc;have z:Ha (MW.Ko M k) Y Z j=c:=by simp[Ha,R,G,hc]
   rw[z];exact this
  have qk:∀(p p2:Addr)(Y Z:List Dv),v=.ref p->u=.ref p2->MW.gm M x=some Y->MW.gm M y=some Z->(if Y.length=Z.length then MW.Qn (MW.Ko M k) Y Z else some false)=some r->SeqAt.EqAt A s v' u' r:=λp p2 Y Z hv hu h1 h2 h3=>by
   subst hv hu;cases rv;cases ru;obtain⟨_,vs,hv,R,G⟩:=wk S rx h1;cases hv;obtain⟨_,ws,hw,g3,g4⟩:=wk S ry h2;cases hw
   by_cases C:p=p2
   .subst C
    have:r=true:=by rw[R] at g3;cases g3;rw[dh (G.length.trans g4.length.symm)] at h3;exact N8 (λx y v r a b c=>aag S k x y v r a b c) G g4 h3
    rw[this];exact SeqAt.EqAt.same _
   .refine SeqAt.EqAt.of_refs C ?_
    obtain⟨is,r1,qq,_⟩:=I.list (Hm.of R);obtain⟨J,r2,L,_⟩:=I.list (Hm.of g3)
    by_cases hl:Y.length=Z.length
    .rw[dh hl] at h3
     have q4:is.toArray.size=J.toArray.size:=by simp[<- r1.length,<- r2.length,<- G.length,<- g4.length,hl]
     have:=SeqAt.RcAt.lists (e:=Ha (MW.Ko M k) Y Z) qq.isList L.isList q4 hr.S8 (elems Y Z vs ws is J r G g4 r1 r2 h3);rw[(Iz h3).2];have e1:is.toArray.size=min Y.length Z.length:=by simp[<- r1.length,<- G.length,hl]
     rw[e1] at this;simpa[hl] using this
    .rw[cu hl] at h3
     cases h3;exact SeqAt.RcAt.lists_lengths qq.isList L.isList (by simp[<- r1.length,<- r2.length,<- G.length,<- g4.length,hl]) hr.S8
  cases aaf h with
  |non=>cases rx;cases ry;cases rv;cases ru;exact SeqAt.EqAt.same _|bl a b=>cases rx;cases ry;cases rv;cases ru;exact SeqAt.EqAt.bool_bool _ _
  |int a b =>
   cases rx;cases ry;obtain⟨t,rfl⟩:=rv;obtain⟨t2,rfl⟩:=ru;rw[<- Bool.beq_eq_decide_eq];exact SeqAt.EqAt.int_int _ _ _ _
  |str a b =>
   cases rx;cases ry;obtain⟨t,rfl⟩:=rv;obtain⟨t2,rfl⟩:=ru;rw[<- Bool.beq_eq_decide_eq];exact SeqAt.EqAt.str_str _ _ _ _
  |@tup Y Z _ h=>cases rx with
   |@tup p _ vs e1 r1=>cases ry with
    |@tup p2 _ ws e2 r2 =>
     cases rv;cases ru
     by_cases C:p=p2
     .subst C
      have:r=true:=by rw[e1] at e2;cases e2;exact N8 (λx y v r a b c=>aag S k x y v r a b c) r1 r2 h
      rw[this];exact SeqAt.EqAt.same _
     .refine SeqAt.EqAt.of_refs C ?_
      obtain⟨is,R,qq,_⟩:=I.tuple (Iu.of e1);obtain⟨J,G,L,_⟩:=I.tuple (Iu.of e2);have:=SeqAt.RcAt.tuples (e:=Ha (MW.Ko M k) Y Z) (show s.heap.IsTuple p is.toArray from qq) (show s.heap.IsTuple p2 J.toArray from L) hr.S8 (elems Y Z vs ws is J r r1 r2 R G h);rw[(Iz h).2];have z1:is.toArray.size=Y.length:=by simp[<- R.length,<- r1.length]
      have z2:J.toArray.size=Z.length:=by simp[<- G.length,<- r2.length]
      rw[z1,z2] at this;exact this
  |lst h1 h2 h3 =>
   obtain⟨p,_,e1,_⟩:=wk S rx h1;obtain⟨p2,_,e2,_⟩:=wk S ry h2;exact qk p p2 _ _ e1 e2 h1 h2 h3
inductive aah(A:Around)(s:Shared):Value->Value->Bool->Prop
 |Ov {p p2:Addr} {is js:Xt} (e:Nat->Bool) (h1:s.heap.IsTuple p is) (h2:s.heap.IsTuple p2 js) (he:∀j (h1:j<is.size) (h2:j<js.size),SeqAt.EqAt A.in1 s is[j] js[j] (e j)):aah A s (.ref p) (.ref p2) ((List.range (min is.size js.size)).all e&&is.size==js.size)
 |a7q {p p2:Addr} {is js:Xt} (e:Nat->Bool) (h1:s.heap.IsList p is) (h2:s.heap.IsList p2 js) (hz:is.size=js.size) (he:∀j (h1:j<is.size) (h2:j<js.size),SeqAt.EqAt A.in1 s is[j] js[j] (e j)):aah A s (.ref p) (.ref p2) ((List.range is.size).all e)
 |lens {p p2:Addr} {is js:Xt} (h1:s.heap.IsList p is) (h2:s.heap.IsList p2 js) (hz:(is.size != js.size)=true):aah A s (.ref p) (.ref p2) false
def Ym{A:Around}(I:Inv X pins σ H s)(S:lq nm X.K ι H M)(hr:Ah k A.in1)(rd:mj X.K ι H ds vs)(re:mj X.K ι H Z ws)(Uv:Vals vs is)(G:Vals ws R)(he:MW.Qn (MW.Ko M k) ds Z=some rr) :
 ∀j (h1:j<is.toArray.size) (h2:j<R.toArray.size),SeqAt.EqAt A.in1 s is.toArray[j] R.toArray[j] (Ha (MW.Ko M k) ds Z j):=λj h1 h2=>by
 have l1:j<ds.length:=by rw[rd.length,Uv.length];simpa using h1
 have l2:j<Z.length:=by rw[re.length,G.length];simpa using h2
 have g1:ds[j]?=some ds[j]:=by simp[l1]
 have g2:Z[j]?=some Z[j]:=by simp[l2]
 obtain⟨c,hc⟩:=(Iz he).1 j _ _ g1 g2;obtain⟨va,a1,a2⟩:=rd.get g1;obtain⟨wa,b1,b2⟩:=re.get g2;have q1:is[j]?=some is.toArray[j]:=by simp
 have q2:R[j]?=some R.toArray[j]:=by simp
 have:=Wa I S k A.in1 _ _ va wa _ _ c hr a2 b2 (Vals.afl Uv a1 q1) (Vals.afl G b1 q2) hc;have z:Ha (MW.Ko M k) ds Z j=c:=by simp[Ha,g1,g2,hc]
 rw[z];exact this
def afm(I:Inv X pins σ H s)(S:lq nm X.K ι H M)(hr:Ah k A.in1)(rx:Rep X.K ι H x v)(ry:Rep X.K ι H y u)(rv:RelV v v')(ru:RelV u u')(h1:MW.gm M x=some ds)(h2:MW.gm M y=some R)(h3:(if ds.length=R.length then MW.Qn (MW.Ko M k) ds R else some false)=some r):aah A s v' u' r:=by
 obtain⟨p,vs,rfl,g1,g2⟩:=wk S rx h1;obtain⟨p2,ws,rfl,g3,g4⟩:=wk S ry h2;cases rv;cases ru;obtain⟨is,r1,qq,_⟩:=I.list (Hm.of g1);obtain⟨js,r2,G,_⟩:=I.list (Hm.of g3)
 by_cases Z:ds.length=R.length
 .rw[dh Z] at h3
  have qk:is.toArray.size=js.toArray.size:=by simp[<- r1.length,<- r2.length,<- g2.length,<- g4.length,Z]
  have z:=aah.a7q (A:=A) (Ha (MW.Ko M k) ds R) qq.isList G.isList qk (Ym I S hr g2 g4 r1 r2 h3);rw[(Iz h3).2];have e1:is.toArray.size=min ds.length R.length:=by simp[<- r1.length,<- g2.length,Z]
  rw[e1] at z;simpa[Z] using z
 .rw[cu Z] at h3
  cases h3;exact .lens qq.isList G.isList (by simp[<- r1.length,<- r2.length,<- g2.length,<- g4.length,Z])
set_option tactic.hygienic true in
def acp(I:Inv X pins σ H s)(S:lq nm X.K ι H M)(L:Ah k A.in1)(Z:Rep X.K ι H x v)(Y:Rep X.K ι H y u)(rv:RelV v v')(R:RelV u u')(h:MW.Ko M (k+1) x y=some r) :
 aah A s v' u' r\/(ay8 v u=true/\r=decide (v=u)):=by
 cases aaf h with
 |non=>cases Z;cases Y;exact .inr ⟨rfl,by simp⟩|bl a b=>cases Z;cases Y;exact .inr ⟨rfl,by by_cases z:a=b<;>simp[z]⟩|int a b=>cases Z;cases Y;exact .inr ⟨rfl,by by_cases z:a=b<;>simp[z]⟩|str a b=>cases Z;cases Y;exact .inr ⟨rfl,by by_cases z:a=b<;>simp[z]⟩
 |@tup ds es _ h=>cases Z with
  |@tup p _ vs e1 r1=>cases Y with
   |@tup p2 _ ws e2 r2 =>
    cases rv;cases R;obtain⟨is,C,J,_⟩:=I.tuple (Iu.of e1);obtain⟨js,g2,G,_⟩:=I.tuple (Iu.of e2);have z:=aah.Ov (A:=A) (Ha (MW.Ko M k) ds es) (show s.heap.IsTuple p is.toArray from J) (show s.heap.IsTuple p2 js.toArray from G) (Ym I S L r1 r2 C g2 h);rw[(Iz h).2];have z1:is.toArray.size=ds.length:=by simp[<- C.length,<- r1.length]
    have z2:js.toArray.size=es.length:=by simp[<- g2.length,<- r2.length]
    rw[z1,z2] at z;exact .inl z
 |lst h1 h2 h3=>exact .inl (afm I S L Z Y rv R h1 h2 h3)
def aah.rc(h:aah A s v u r)(hu:A.units<cLine):SeqAt.RcAt A s v u r/\SeqAt.RcNeAt A s v u (!r):=by
 cases h with
 |Ov e G Z he=>exact⟨SeqAt.RcAt.tuples G Z hu he,SeqAt.RcNeAt.tuples G Z hu he⟩|a7q e G Z R he=>exact⟨SeqAt.RcAt.lists G Z R hu he,SeqAt.RcNeAt.lists G Z R hu he⟩|lens G Z R=>exact⟨SeqAt.RcAt.lists_lengths G Z R hu,SeqAt.RcNeAt.lists_lengths G Z R hu⟩
def bd2(G:Ah 6 X.A):Dz X (compareOp .Eq) (rCp nm X.K .eq):=λZ s σ H v u v' u' Q I rv R hh=>by
 obtain⟨ι,M,x,y,b,S,rx,ry,e,q⟩:=hh;have e:MW.Ko M 6 x y=some b:=e;rcases acp (A:=X.A) I S G.in1 rx ry rv R e with h|⟨h1,h2⟩
 .exact(h.rc G.S8).1 X.prog X.w X.xe _ ⟨.bl b,H,I,rfl,q⟩
 .subst h2
  exact a5e Z s σ H v u v' u' Q I rv R ⟨h1,q⟩
def bd3(G:Ah 6 X.A):Dz X (compareOp .NotEq) (rCp nm X.K .ne):=λZ s σ H v u v' u' Q I rv R hh=>by
 obtain⟨ι,M,x,y,b,S,rx,ry,e,q⟩:=hh;obtain⟨b',e1,e2⟩:=bw.mp (show(MW.ym M x y).map not=some b from e);subst e2;rcases acp (A:=X.A) I S G.in1 rx ry rv R (show MW.Ko M 6 x y=_ from e1) with h|⟨h1,h2⟩
 .exact(h.rc G.S8).2 X.prog X.w X.xe _ ⟨.bl !b',H,I,rfl,q⟩
 .subst h2
  exact a5f Z s σ H v u v' u' Q I rv R ⟨h1,q⟩
section
variable{nm:Nm}{W:Gf}{X:Cx}{a b c o:Expr}{a' b' c' o':Ex}{pos pos' apos:Pos}{ι:Io}{H:Hp}{σ:St}{ρ:En}{M M1 M2:dg}{x y:Dv}{es:Y3}{es':Dn}
set_option tactic.hygienic true in
theorem Dy:∀{Z:List Dv}{bs:List Bool},MW.Ot M x Z=some bs->bs.length=Z.length/\∀(j:Nat) d,Z[j]?=some d->∃b,bs[j]?=some b/\MW.ym M d x=some b
 |[],bs,h=>by cases h;exact⟨rfl,λj d e=>by simp at e⟩
 |y::ys,bs,h=>by
  simp only[MW.Ot] at h;split at h
  .rename_i a b Y J
   cases h;obtain⟨G,C⟩:=Dy J;refine⟨by simp[G],λj d e=>?_⟩;cases j with
   |zero=>simp at e;subst e;exact⟨a,rfl,Y⟩|succ j=>simpa using C j d (by simpa using e)
  .cases h
def Hg(I:Inv X pins σ H s)(e:Z7 X.K H p G):(∃o,H p=some (.Je o (.lst G)))\/(H p=none/\∃(o:Obj)(Z:Xt)(n:Nat),X.K.lookup p=some o/\o.data=.seq Z n/\Vals G Z.toList):=by
 rcases e with h|⟨o,Z,n,h1,_,_,h2,_,h3⟩
 .exact .inl h
 .exact .inr ⟨(I.bs p o (I.mod.kin p o h1)).2,o,Z,n,h1,h2,h3⟩
def a0d(I:Inv X pins σ H s)(e:Z7 X.K H p vs)(e2:Z7 X.K H p ws):vs=ws:=by
 rcases Hg I e with⟨o,h⟩|⟨h,o,yj,n,h1,h2,h3⟩
 .rcases Hg I e2 with⟨o',Z⟩|⟨Z,_⟩
  .rw[h] at Z;cases Z;rfl
  .rw[h] at Z;cases Z
 .rcases Hg I e2 with⟨o',Z⟩|⟨_,o',qk,n',G,R,qq⟩
  .rw[h] at Z;cases Z
  .rw[h1] at G;cases G
   rw[h2] at R;cases R;exact Vals.inj h3 qq
mutual
theorem ahe{qq:Zp}{s:Shared}(I:Inv X qq σ H s)(S:lq nm X.K ι H M):∀{d d':Dv}{v:V},Rep X.K ι H d v->Rep X.K ι H d' v->d=d'
 |_,_,_,.non,r=>by cases r;rfl|_,_,_,.bl b,r=>by cases r;rfl|_,_,_,.int i,r=>by cases r;rfl|_,_,_,.str z,r=>by cases r;rfl
 |_,_,_,.tup e1 r1,r=>by
  cases r with
  |tup Z G =>
   rw[e1] at Z;cases Z;rw[Ra I S r1 G]
  |vl Z n2 G=>rw[e1] at Z;cases Z
  |fz Z G =>
   rcases Hg I Z with⟨o,h⟩|⟨h,_⟩
   .rw[e1] at h;cases h
   .rw[e1] at h;cases h
  |ref Z =>
   obtain⟨u,q,R⟩:=S.mem (au Z);rw[e1] at R;exact R.elim
 |_,_,_,.vl e1 n1 r1,r=>by
  cases r with
  |tup Z G=>rw[e1] at Z;cases Z
  |vl Z n2 G =>
   rw[e1] at Z;cases Z;rw[Ra I S r1 G]
  |fz Z G =>
   rcases Hg I Z with⟨o,h⟩|⟨h,_⟩
   .rw[e1] at h;cases h
   .rw[e1] at h;cases h
  |ref Z=>exact absurd (au Z) n1.1
 |_,_,_,.fz e1 r1,r=>by
  cases r with
  |tup Z G =>
   rcases Hg I e1 with⟨o,h⟩|⟨h,_⟩
   .rw[Z] at h;cases h
   .rw[Z] at h;cases h
  |vl Z n2 G =>
   rcases Hg I e1 with⟨o,h⟩|⟨h,_⟩
   .rw[Z] at h;cases h
   .rw[Z] at h;cases h
  |fz Z G =>
   have:=a0d I e1 Z;subst this;rw[Ra I S r1 G]
  |ref Z =>
   obtain⟨u,q,R⟩:=S.mem (au Z);rcases Hg I e1 with⟨o,h⟩|⟨h,_⟩
   .rw[h] at R;exact R.elim
   .rw[h] at q;cases q
 |_,_,_,.ref e1,r=>by
  cases r with
  |tup Z G =>
   obtain⟨u,q,R⟩:=S.mem (au e1);rw[Z] at R;exact R.elim
  |vl Z n2 G=>exact absurd (au e1) n2.1
  |fz Z G =>
   obtain⟨u,q,R⟩:=S.mem (au e1);rcases Hg I Z with⟨o,h⟩|⟨h,_⟩
   .rw[h] at R;exact R.elim
   .rw[h] at q;cases q
  |ref Z =>
   obtain⟨l1,q1⟩:=aj.mp e1;obtain⟨l2,q2⟩:=aj.mp Z;rw[(Aq S.nd).mp (q1.trans q2.symm)]
theorem Ra{Z:Zp}{s:Shared}(I:Inv X Z σ H s)(S:lq nm X.K ι H M):∀{ds G:List Dv}{R:List V},mj X.K ι H ds R->mj X.K ι H G R->ds=G
 |_,_,_,.nil,r=>by cases r;rfl
 |_,_,_,.cons h t,r=>by
  cases r with
  |cons h2 t2=>rw[ahe I S h h2,Ra I S t t2]
end
def Ol(I:Inv X pins σ H s)(S:lq nm X.K ι H M)(hr:Ah 6 A)(rd:mj X.K ι H ds vs)(rv:Vals vs is)(rx:Rep X.K ι H x u)(ru:RelV u u')(h:MW.Ot M x ds=some bs):∃e:Value->Bool,(∀w,w∈is.toArray->SeqAt.EqAt A s w u' (e w))/\∀(j:Nat)(w:Value),is[j]?=some w->bs[j]?=some (e w):=by
 obtain⟨g1,g2⟩:=Dy h;have R:∀(j:Nat)(w:Value),is[j]?=some w->∃b,bs[j]?=some b/\SeqAt.EqAt A s w u' b:=λj w G=>by
  have lj:j<ds.length:=by rw[rd.length,rv.length];exact(aj.mp G).1
  have gd:ds[j]?=some ds[j]:=by simp[lj]
  obtain⟨b,e1,e2⟩:=g2 j _ gd;obtain⟨v,a1,a2⟩:=rd.get gd;exact⟨b,e1,Wa I S 6 A _ _ v u w u' b hr a2 rx (Vals.afl rv a1 G) ru e2⟩
 classical
 refine⟨λw=>if G:∃j:Nat,is[j]?=some w then(bs[G.choose]?).getD false else false,λw G=>?_,λj w G=>?_⟩
 .obtain⟨j,hj,e⟩:=qy (by simpa using G:w∈is)
  have Z:∃j:Nat,is[j]?=some w:=⟨j,by simp[hj,e]⟩;obtain⟨b,e1,e2⟩:=R Z.choose w Z.choose_spec;simp only[dif_pos Z,e1,zx];exact e2
 .have Z:∃j:Nat,is[j]?=some w:=⟨j,G⟩
  obtain⟨b,e1,e2⟩:=R j w G;obtain⟨b',e3,e4⟩:=R Z.choose w Z.choose_spec;simp only[dif_pos Z,e3,zx];rw[e1]
  congr 1
  have lj:j<ds.length:=by rw[rd.length,rv.length];exact(aj.mp G).1
  have lk:Z.choose<ds.length:=by rw[rd.length,rv.length];exact(aj.mp Z.choose_spec).1
  have gd:ds[j]?=some ds[j]:=by simp[lj]
  have gk:ds[Z.choose]?=some ds[Z.choose]:=by simp[lk]
  obtain⟨c1,q1,q2⟩:=g2 j _ gd;obtain⟨c2,q3,q4⟩:=g2 Z.choose _ gk;obtain⟨v1,p1,p2⟩:=rd.get gd;obtain⟨v2,p3,p4⟩:=rd.get gk;have hv:v1=v2:=RelV.inj (Vals.afl rv p1 G) (Vals.afl rv p3 Z.choose_spec);subst hv;rw[e1] at q1;rw[e3] at q3;cases q1;cases q3;have hd:=ahe I S p2 p4;rw[hd,q4] at q2;exact(jd q2).symm
def Vb{is:Zl}{bs:List Bool}(Z:bs.length=is.length)(h:∀(j:Nat) (w:Value),is[j]?=some w->bs[j]?=some (e w)):bs=is.map e:=by
 apply yw;intro j;rw[je];cases q:is[j]? with
 |none=>rw[m7 (by rw[Z];exact List.getElem?_eq_none_iff.mp q)];rfl|some w=>rw[h j w q];rfl
set_option tactic.hygienic true in
def bd4(hr:Ah 8 X.A):Dz X (compareOp .In) (rCp nm X.K .inn):=λqq s σ H v u v' u' Q I rv ru hh=>by
 obtain⟨ι,M,x,y,b,S,rx,ry,e,q⟩:=hh;have e:MW.Qp M x y=some b:=e;have hu:X.A.units+1<cLine:=ab2 hr
 have R:∀J,MW.yd M y=some J->MW.memD M x J=some b->wpAny (model X.prog X.w) X.A (compareOp .In v' u') (EP X qq σ Q) X.xe s:=λJ Y Z=>by
  obtain⟨bs,C,G⟩:=bw.mp (show(MW.Ot M x J).map (·.any id)=some b from Z);obtain⟨p,vs,rfl,hp,r⟩:=Fo S ry Y;cases ru;rcases hp with hp|hp
  .obtain⟨is,L,pl,_⟩:=I.list (Hm.of hp)
   obtain⟨f,g1,g2⟩:=Ol (A:=X.A.in1) I S ((hr.mono (by decide:7<=8)).in1) r L rx rv C;refine SeqAt.in_listAt f pl.isList g1 ?_;have:=Vb (by rw[(Dy C).1,r.length,L.length]) g2;rw[this] at G;rw[show is.toArray.any f=b by rw[<- G];simp[List.any_map]];exact⟨.bl b,H,I,rfl,q⟩
  .obtain⟨is,L,pl,_⟩:=I.tuple (Iu.of hp)
   obtain⟨f,g1,g2⟩:=Ol (A:=X.A.in1) I S ((hr.mono (by decide:7<=8)).in1) r L rx rv C;refine SeqAt.in_tupleAt f (show s.heap.IsTuple p is.toArray from pl) g1 ?_;have:=Vb (by rw[(Dy C).1,r.length,L.length]) g2;rw[this] at G;rw[show is.toArray.any f=b by rw[<- G];simp[List.any_map]];exact⟨.bl b,H,I,rfl,q⟩
 cases ry with
 |@ref n p C =>
  simp only[MW.Qp] at e;split at e
  .rename_i jn hM
   obtain⟨k,G,e3⟩:=bw.mp e;obtain⟨l,Y,Z⟩:=S.obj n _ p hM C;obtain⟨bb,rfl,hb⟩:=aac rx G;cases ru;refine a5p hu I (Nz.t Y hb) rv λs' I'=>⟨.bl b,H,I',?_,q⟩
   rw[<- e3];cases hk:MW.wg jn k with
   |none=>rw[(Z.look (k:=k)).2 hk];rfl|some d=>obtain⟨z,h3,_⟩:=(Z.look (k:=k)).1 d hk;rw[h3];rfl
  .rename_i jn hM
   obtain⟨k,G,e3⟩:=bw.mp e;obtain⟨l,Y,Z⟩:=S.obj n _ p hM C;have hy:=Tf rx G;subst hy;cases ru;refine a5p hu I (Nz.k Y) rv λs' I'=>⟨.bl b,H,I',?_,q⟩
   rw[<- e3];cases hk:MW.wg jn k with
   |none=>rw[(Z.look (k:=k)).2 hk];rfl|some d=>obtain⟨z,h3,_⟩:=(Z.look (k:=k)).1 d hk;rw[h3];rfl
  .obtain⟨J,Y,Z⟩:=fc.mp e
   exact R J Y Z
 |_ =>
  simp only[MW.Qp] at e;obtain⟨J,Y,Z⟩:=fc.mp e;exact R J Y Z
set_option tactic.hygienic true in
def atb(hr:Ah 8 X.A):Dz X (compareOp .NotIn) (rCp nm X.K .T4):=λqk s σ H v u v' u' Q I rv ru hh=>by
 obtain⟨ι,M,x,y,b0,S,rx,ry,e,q⟩:=hh;obtain⟨b,C,eb⟩:=bw.mp (show(MW.Qp M x y).map not=some b0 from e);subst eb;have hu:X.A.units+1<cLine:=ab2 hr
 have qq:∀J,MW.yd M y=some J->MW.memD M x J=some b->wpAny (model X.prog X.w) X.A (compareOp .NotIn v' u') (EP X qk σ Q) X.xe s:=λJ Y Z=>by
  obtain⟨bs,L,G⟩:=bw.mp (show(MW.Ot M x J).map (·.any id)=some b from Z);obtain⟨p,vs,rfl,hp,r⟩:=Fo S ry Y;cases ru;rcases hp with hp|hp
  .obtain⟨is,R,pl,_⟩:=I.list (Hm.of hp)
   obtain⟨f,g1,g2⟩:=Ol (A:=X.A.in1) I S ((hr.mono (by decide:7<=8)).in1) r R rx rv L;refine SeqAt.notIn_listAt f pl.isList g1 ?_;have:=Vb (by rw[(Dy L).1,r.length,R.length]) g2;rw[this] at G;rw[show is.toArray.any f=b by rw[<- G];simp[List.any_map]];exact⟨.bl !b,H,I,rfl,q⟩
  .obtain⟨is,R,pl,_⟩:=I.tuple (Iu.of hp)
   obtain⟨f,g1,g2⟩:=Ol (A:=X.A.in1) I S ((hr.mono (by decide:7<=8)).in1) r R rx rv L;refine SeqAt.notIn_tupleAt f (show s.heap.IsTuple p is.toArray from pl) g1 ?_;have:=Vb (by rw[(Dy L).1,r.length,R.length]) g2;rw[this] at G;rw[show is.toArray.any f=b by rw[<- G];simp[List.any_map]];exact⟨.bl !b,H,I,rfl,q⟩
 cases ry with
 |@ref n p L =>
  clear e;simp only[MW.Qp] at C;split at C
  .rename_i jn hM
   obtain⟨k,G,e3⟩:=bw.mp C;obtain⟨l,Y,Z⟩:=S.obj n _ p hM L;obtain⟨bb,rfl,hb⟩:=aac rx G;cases ru;refine ag4 hu I (Nz.t Y hb) rv λs' I'=>⟨.bl !b,H,I',?_,q⟩
   rw[<- e3];cases hk:MW.wg jn k with
   |none=>rw[(Z.look (k:=k)).2 hk];rfl|some d=>obtain⟨z,h3,_⟩:=(Z.look (k:=k)).1 d hk;rw[h3];rfl
  .rename_i jn hM
   obtain⟨k,G,e3⟩:=bw.mp C;obtain⟨l,Y,Z⟩:=S.obj n _ p hM L;have hy:=Tf rx G;subst hy;cases ru;refine ag4 hu I (Nz.k Y) rv λs' I'=>⟨.bl !b,H,I',?_,q⟩
   rw[<- e3];cases hk:MW.wg jn k with
   |none=>rw[(Z.look (k:=k)).2 hk];rfl|some d=>obtain⟨z,h3,_⟩:=(Z.look (k:=k)).1 d hk;rw[h3];rfl
  .obtain⟨J,Y,Z⟩:=fc.mp C
   exact qq J Y Z
 |_ =>
  simp only[MW.Qp] at C;obtain⟨J,Y,Z⟩:=fc.mp C;exact qq J Y Z
end
def rM(nm:Nm)(K:Fg)(m:Bm):V->List V->Hp->VK->Prop:=λv vs H Q=>∃R M x ds d M',lq nm K R H M/\Rep K R H x v/\mj K R H ds vs/\MW.Ep m x ds M=.ok d M'/\(∀ts,x=.tup ts->m≠.index) /\
 ∀Z G w,Le R H Z G->lq nm K Z G M'->Rep K Z G d w->Q w G
set_option tactic.hygienic true in
theorem atc{id:String}(hT:∀ι H M x v,lq nm X.K ι H M->Rep X.K ι H x v->MW.Jo m x M=true->tyV X.K T v H)(pa:PlainAttrs T)(Y:Slot T name id)(y:typeOf (.builtin id)=pure (.type "method_descriptor"))(hm:MtR X id (rM nm X.K m))(ho:PE X o (tE nm W X.K o'))(ha:PA X (e::Z) (W0 nm W X.K qk))(L:attributeBase o name X.env (eval o X.env)=eval o X.env)(qq:((backTo J (starEach (e::Z) X.env)).all (λx=>!x.1)&&(backToKw J (keywordEach [] X.env)).all (λx=>x.1.isSome)
&&decide ((e::Z).length+([]:List Keyword).length+(if([]:List Keyword).isEmpty then 0 else 1)<30))=true)(C:(apos.endLine==J.line)=true)(hs:starEach (e::Z) X.env=(false,eval e X.env)::starEach Z X.env)(Vw:(backTo J (starEach Z X.env)).any (·.1)=false) :
 PE X (.Call (.Attribute o name apos) (e::Z) [] J) (tE nm W X.K (.bm m o' qk)) :=
 PE.of (a5v pa Y y hm ho ha L qq C hs Vw) fun σ H Q ι ρ M d M' S R e q=>by
  rw[MW.aes] at e;obtain⟨x,M1,e1,e⟩:=gn e;split at e
  .rename_i ht
   obtain⟨ds,M2,e2,e⟩:=gn e;exact one S R e1 λG H1 v le S1 R1 r=>⟨hT G H1 M1 x v S1 r ht,G,ρ,M1,ds,M2,S1,R1,e2,λqv H2 vs Ao S2 rs=>⟨qv,M2,x,ds,d,M',S2,r.mono Ao,rs,e,(λts hx hm=>by subst hx;subst hm;cases ht),λq0 H' w u S' r'=>q q0 H' w ((le.trans Ao).trans u) S' r'⟩⟩
  .cases e
set_option tactic.hygienic true in
def ty_list{X:Cx}(R:m=.append\/m=.pop\/m=.index)(S:lq nm X.K L H M)(r:Rep X.K L H x v)(h:MW.Jo m x M=true):tyV X.K "list" v H:=by
 have go:∀Z,MW.gm M x=some Z->tyV X.K "list" v H:=λZ G=>by obtain⟨p,C,rfl,J,_⟩:=wk S r G;exact .inl ⟨rfl,C,Hm.of J⟩
 rcases R with rfl|rfl|rfl
 .cases x<;>simp only[MW.Jo] at h<;>try cases h
  split at h
  .rename_i n Z Y
   exact go Z (by simp only[MW.gm,Y])
  .cases h
 .cases x<;>simp only[MW.Jo] at h<;>try cases h
  split at h
  .rename_i n Z Y
   exact go Z (by simp only[MW.gm,Y])
  .cases h
 .have h:(MW.gm M x).isSome=true:=h
  obtain⟨Z,G⟩:=jc.mp h;exact go Z G
set_option tactic.hygienic true in
def atd(e:MW.Ep .append x ds M=.ok d G):∃n Y Z,x=.ref n/\ds=[Y]/\M[n]?=some (.lst Z)/\Z.length<100000/\d=.non/\G=M.set n (.lst (Z++[Y])):=by
 unfold MW.Ep at e;split at e
 .rename_i n Y
  split at e
  .rename_i Z C
   split at e
   .rename_i J
    cases e;exact⟨_,_,_,rfl,rfl,C,J,rfl,rfl⟩
   .cases e
  .cases e
 .rename_i h;cases h
 .rename_i h;cases h
 .rename_i h;cases h
 .rename_i h;cases h
 .cases e
def ate(e:MW.Ep .index x ds M=.ok d M'):∃Z G j,ds=[Z]/\MW.yd M x=some G/\MW.Qo M Z G=some j/\d=.int ((j:Nat):Int)/\M'=M:=by
 match ds,e with
 |[Z],e =>
  have e:Res.vo (((MW.yd M x).bind (MW.Qo M Z)).map λj=>MW.D.int ((j:Nat):Int)) M=.ok d M':=by rw[<- e];cases x<;>simp only[MW.Ep]<;>first|rfl|(generalize(MW.yd M _).bind (MW.Qo M Z)=z;cases z<;>rfl)
  obtain⟨e1,e2⟩:=An e;obtain⟨j,R,e4⟩:=bw.mp e1;obtain⟨G,e6,e7⟩:=fc.mp R;exact⟨Z,G,j,rfl,e6,e7,e4.symm,e2⟩
 |[],e=>cases x<;>simp[MW.Ep] at e|_::_::_,e=>cases x<;>simp[MW.Ep] at e
def aoo:MtR X "list.append" (rM nm X.K .append):=λZ s σ H v vs u us Q I ru Uv hh=>by
 obtain⟨ι,M,x,ds,d,M',S,r,rs,e,_,q⟩:=hh;obtain⟨n,d0,xs,rfl,rfl,hM,hl,rfl,rfl⟩:=atd e;cases r with
 |ref ha =>
  obtain⟨R,h3,G⟩:=S.obj n _ _ hM ha;cases rs with
  |cons hd ht =>
   cases ht;refine Yg Z s σ H _ _ u us Q I ru Uv ⟨_,R,_,rfl,rfl,h3,by rw[<- G.length];exact V8 hl,?_⟩;obtain⟨S2,Ao⟩:=S.put (u:=.lst (R++[_])) (o:=.lst (xs++[_])) hM ha λle=>⟨_,qw,(G.mono le).append (.cons (hd.mono le) .nil)⟩
   exact q _ _ _ Ao S2 .non
def Rb:∀{bs:List Bool}{j:Nat},bs.findIdx? id=some j->bs[j]?=some true/\∀m,m<j->bs[m]?=some false:=fun{bs j} h=>by obtain⟨Z,h2,R⟩:=qp.mp h;refine⟨by rw[bu Z];simpa using h2,λm G=>?_⟩;have:=R m G;rw[bu (d_ G Z)];simpa using this
def atf(hr:Ah 8 X.A):MtR X "list.index" (rM nm X.K .index):=λq1 s σ H v vs u us Q I ru Uv hh=>by
 obtain⟨ι,M,x,ds,d,M',S,r,rs,e,nt,q⟩:=hh;obtain⟨d0,xs,j,rfl,e1,e2,rfl,rfl⟩:=ate e;cases rs with
 |cons hd ht =>
  cases ht;cases Uv with
  |cons hu qv =>
   cases qv;obtain⟨bs,e3,e4⟩:=fc.mp (show(MW.Ot M' d0 xs).bind (·.findIdx? id)=some j from e2);obtain⟨p,ys,rfl,Z,rl⟩:=Fo S r e1;cases ru;rcases Z with Z|Z
   .obtain⟨z,is,n,rv,hl,hg⟩:=I.ajc Z
    obtain⟨f,g1,g2⟩:=Ol (A:=X.A.in1) I S ((hr.mono (by decide:7<=8)).in1) rl rv hd hu e3;obtain⟨f1,f2⟩:=Rb e4;have hb:=(Dy e3).1;have qq:is.length=bs.length:=by rw[hb,rl.length,hl]
    have lj:j<is.length:=by rw[qq];exact(aj.mp f1).1
    have fa:∀m (G:m<is.length),bs[m]?=some (f is[m]):=λm G=>g2 m _ (bu G)
    have hT:s.TypeIs (.ref p) "list" := ⟨_,hg,rfl⟩;have q0:is.length<=sizeLine:=by rw[<- hl];exact z
    rw[qz] at q0;refine call_meetsIn F.slot_list_index hT F.entry_list_index (F.args_list_index_2 _ _) (λA R s h=>SeqAt.list_indexAt p is.toArray n none #[] _ f j (by simpa using lj) (by lia) ?_ ?_ _ _ A R s h) ⟨hg,g1,?_⟩
    .have:=fa j lj;rw[f1] at this;simpa using(jd this).symm
    .intro m G qk
     have G:m<is.length:=by simpa using G
     have:=fa m G;rw[f2 m qk] at this;simpa using(jd this).symm
    .exact⟨.int j,H,I.tok _,⟨_,rfl⟩,q ι H _ (Le.refl _ _) S (.int _)⟩
   .cases r with
    |tup e r=>exact absurd rfl (nt _ rfl)|vl e n r=>rw[Z] at e;cases e|fz e r=>simp[MW.yd,MW.gm] at e1
    |ref e =>
     obtain⟨u',q',mu⟩:=S.mem (au e);rw[Z] at mu;exact mu.elim
def a0e{X:Cx}(S:lq nm X.K Z H M)(R:H p=none)(r:xu X.K Z H (λk k'=>k=k') G l) :
 lq nm X.K (Z.add p) (upd H p (.dK l)) (M++[.dK G])/\Le Z H (Z.add p) (upd H p (.dK l))/\Rep X.K (Z.add p) (upd H p (.dK l)) (.ref M.length) (.ref p):=by
 obtain⟨S1,le⟩:=S.new (H':=upd H p (.dK l)) (o:=.dK G) R (λa u e=>by rw[jb (mz e R)];exact e) λle=>⟨l,qw,r.mono le⟩
 exact⟨S1,le,.ref (by show(Z.l++[p])[M.length]?=some p;rw[<- S.len];simp)⟩
set_option tactic.hygienic true in
def a0f:Bv X (.type "dict") (rB nm X.K .dict):=λJ s σ H vs us Q I Uv hh=>by
 obtain⟨ι,M,ds,d,M',S,r,e,q⟩:=hh;cases r with
 |nil=>simp[MW.qm] at e
 |@cons x v _ _ h t =>
  cases t with
  |cons G t2=>cases x<;>simp[MW.qm] at e
  |nil =>
   cases Uv with
   |cons u C =>
    cases C;cases h with
    |@ref n p hp =>
     cases u;have e:(match M[n]? with|some (.dK Y)=>MW.new (.dK Y) M|_=>.bad)=.ok d M':=e;split at e
     .rename_i Y hM
      cases e;obtain⟨l,L,G⟩:=S.obj n _ p hM hp;refine am5 I (.inl L) λp' s' Z I'=>?_
      obtain⟨R,y,r2⟩:=a0e (X:=X) S Z G;exact⟨.ref p',_,I',rfl,q _ _ _ y R r2⟩
     .cases e
    |_=>cases e
set_option tactic.hygienic true in
theorem ints_rep{ι:Io}{H:Hp}{K:Fg}:∀{C:List Dv}{Y:List V}{is:Zl}{G:X9},mj K ι H C Y->Vals Y is->MW.Uq C=some G->∃Z:Array (Int×Tok),is.toArray=intItems Z/\Z.toList.map (·.1)=G
 |_,_,_,_,.nil,.nil,h=>by cases h;exact⟨#[],by simp[intItems],rfl⟩
 |_,_,_,_,.cons r t,.cons rv tv,h=>by
  cases r<;>simp only[MW.Uq] at h<;>try cases h
  rename_i i;obtain⟨u,L,S⟩:=bw.mp h;obtain⟨Z,R,y⟩:=ints_rep t tv L;obtain⟨tk,rfl⟩:=rv;refine⟨#[(i,tk)]++Z,?_,by simp[y,S]⟩;have J:=ql Array.toList R;apply Array.toList_inj.mp;simp[intItems] at J ⊢;exact J
theorem acq:∀(l:X9)(z m:Int),(m=z\/m∈l)->z<=m->(∀a∈l,a<=m)->l.foldl (λm x=>if m<x then x else m) z=m
 |[],z,m,h,_,_=>by rcases h with h|h;exact h.symm;cases h
 |a::l,z,m,h,hz,Jv=>by
  rw[Be];have R:=Jv a di;refine acq l _ m ?_ (by split<;>lia) (λb G=>Jv b (bx _ G));rcases h with h|h
  .subst h;left;split<;>lia
  .rcases cj.mp h with h|h
   .subst h
    by_cases Z:z<m
    .left;rw[dh Z]
    .left;rw[cu Z];lia
   .exact .inr h
theorem acr:∀(l:X9)(z m:Int),(m=z\/m∈l)->m<=z->(∀a∈l,m<=a)->l.foldl (λm x=>if x<m then x else m) z=m
 |[],z,m,h,_,_=>by rcases h with h|h;exact h.symm;cases h
 |a::l,z,m,h,hz,Jv=>by
  rw[Be];have R:=Jv a di;refine acr l _ m ?_ (by split<;>lia) (λb G=>Jv b (bx _ G));rcases h with h|h
  .subst h;left;split<;>lia
  .rcases cj.mp h with h|h
   .subst h
    by_cases Z:m<z
    .left;rw[dh Z]
    .left;rw[cu Z];lia
   .exact .inr h
def ahf(e:MW.two ds f g M=.ok d Z):Z=M/\((∃i j,ds=[.int i,.int j]/\d=.int (f i j))\/∃x m,ds=[x]/\g x=some m/\d=.int m):=by
 cases ds with
 |nil=>cases e
 |cons x r=>cases r with
  |nil =>
   obtain⟨R,e2⟩:=An (show Res.vo ((g x).map MW.D.int) M=.ok d Z from e);obtain⟨m,G,e4⟩:=bw.mp R;exact⟨e2,.inr ⟨x,m,rfl,G,e4.symm⟩⟩
  |cons y r=>cases r with
   |nil =>
    cases x<;>try cases e
    cases y<;>cases e;exact⟨rfl,.inl ⟨_,_,rfl,rfl⟩⟩
   |cons _ _=>cases e
def Yn{h:List Int->Option Int}(e:((MW.gm M x).bind MW.Uq).bind h=some m):∃G Z,MW.gm M x=some G/\MW.Uq G=some Z/\h Z=some m:=by obtain⟨Z,e5,R⟩:=fc.mp e;obtain⟨G,e7,e8⟩:=fc.mp e5;exact⟨G,Z,e7,e8,R⟩
def atg(e:MW.qm .max ds M=.ok d M'):M'=M/\((∃i j,ds=[.int i,.int j]/\d=.int (if i<j then j else i))\/∃x G Z m,ds=[x]/\MW.gm M x=some G/\MW.Uq G=some Z/\MW.axp Z=some m/\d=.int m):=by
 obtain⟨h,h2|⟨x,m,h3,h4,h5⟩⟩:=ahf e
 .exact⟨h,.inl h2⟩
 .obtain⟨G,Z,R,g2,g3⟩:=Yn h4
  exact⟨h,.inr ⟨x,G,Z,m,h3,R,g2,g3,h5⟩⟩
def ath(e:MW.qm .min ds M=.ok d M'):M'=M/\((∃i j,ds=[.int i,.int j]/\d=.int (if j<i then j else i))\/∃x G Z m,ds=[x]/\MW.gm M x=some G/\MW.Uq G=some Z/\MW.a3u Z=some m/\d=.int m):=by
 obtain⟨h,h2|⟨x,m,h3,h4,h5⟩⟩:=ahf e
 .exact⟨h,.inl h2⟩
 .obtain⟨G,Z,R,g2,g3⟩:=Yn h4
  exact⟨h,.inr ⟨x,G,Z,m,h3,R,g2,g3,h5⟩⟩
def Qh(h:Vals [v] Z):∃u,Z=[u]/\RelV v u:=L2.Vals.one h
def Om(h:i<Z.size):(Z.toList.map (·.1))[i]?=some (numAt Z i):=by simp[numAt,h]
def a7r(hc:X.calm=true):Bv X (.builtin "max") (rB nm X.K .max):=λqq s σ H vs us Q I Uv hh=>by
 obtain⟨ι,M,ds,d,M',S,r,e,q⟩:=hh;obtain⟨rfl,⟨i,j,rfl,rfl⟩|⟨x,xs,ns,m,rfl,e1,e2,G,rfl⟩⟩:=atg e
 .cases r with
  |cons h1 t1 =>
   cases t1 with
   |cons h2 t2 =>
    cases t2;cases h1;cases h2;refine ai5 hc qq s σ H _ us Q I Uv ⟨i,j,rfl,?_⟩;have:=q ι H _ (Le.refl _ _) S (.int (if i<j then j else i));exact this
 .obtain⟨v,rfl,rv⟩:=Ld r rfl
  obtain⟨u,rfl,ru⟩:=Qh Uv;obtain⟨p,ws,rfl,hp,rl⟩:=wk S rv e1;cases ru;obtain⟨is,qv,pl,_⟩:=I.list (Hm.of hp);obtain⟨Z,g1,g2⟩:=ints_rep rl qv e2;have qk:0<Z.size:=by
   cases ns with
   |nil=>cases G|cons n ns=>have:=ql List.length g2;simp at this;lia
  refine max_intList (I.ok.hd hc) (by rw[<- g1];exact pl.isList) qk λw h' tk hw keep=>?_
  obtain⟨t,rfl⟩:=intItems_at hw;obtain⟨b1,b2⟩:=argBest_gt (numAt Z) (Z.size-1);have hm:m=numAt Z (argBest (λi j=>decide (numAt Z i > numAt Z j)) (Z.size-1)):=by
   cases Z4:ns with
   |nil=>rw[Z4] at G;cases G
   |cons n ns' =>
    rw[Z4] at G;cases G;have mem:∀i,i<Z.size->numAt Z i∈n::ns':=λi R=>by rw[<- Z4,<- g2];exact au (Om R)
    have le:∀a∈n::ns',a<=numAt Z (argBest (λi j=>decide (numAt Z i > numAt Z j)) (Z.size-1)):=λa ha=>by
     rw[<- Z4,<- g2] at ha;obtain⟨i,R⟩:=uo.mp ha;have li:i<Z.size:=by have:=(aj.mp R).1;simpa using this
     rw[Om li] at R;cases R;exact b2 i (by lia)
    exact acq ns' n _ (cj.mp (mem _ (by omega))) (le n di) (λa ha=>le a (bx _ ha))
  subst hm;exact⟨.int _,H,I.kept keep,⟨t,rfl⟩,q ι H _ (Le.refl _ _) S (.int _)⟩
def acs(n d:Nat)(o:Option Int):HT.sIx n d o=MW.clip n d o:=by
 cases o with
 |none=>rfl
 |some i =>
  show(if i<0 then(i+(n:Int)).toNat else min i.toNat n)=(if 0<=i then min i.toNat n else(i+(n:Int)).toNat)
  by_cases h:i<0
  .rw[dh h,cu (by lia)]
  .rw[cu h,dh (by lia)]
def tO(nm:Nm)(W:Gf)(K:Fg)(o:OEx):TO:=fun σ H Q=>∃G ρ M d M',lq nm K G H M/\u9 K G H ρ σ/\o.den W ρ M=.ok d M'/\∀Z R,Le G H Z R->lq nm K Z R M'->Q d R
def PO.weak(h:PO X e t)(w:∀Z H Q,t' Z H Q->t Z H Q):PO X e t':=λG s Z H Q I q=>h G s Z H Q I (w Z H Q q)
def PO.of(h:PO X e t)(w:∀σ H Q G ρ M d M',lq nm X.K G H M->u9 X.K G H ρ σ->o'.den W ρ M=.ok d M'->(∀Z H',Le G H Z H'->lq nm X.K Z H' M'->Q d H')->t σ H Q):PO X e (tO nm W X.K o'):=PO.weak h fun σ H Q z_=>by obtain⟨G,ρ,M,d,M',S,R,e,q⟩:=z_;exact w σ H Q G ρ M d M' S R e q
def atj:PO X none (tO nm W X.K .none):=PO.of ash fun σ H Q Z ρ M d G S R e q=>by rw[MW.ain] at e;cases e;exact q Z H (Le.refl _ _) S
set_option tactic.hygienic true in
def atk(G:PE X a (tE nm W X.K C)):PO X (some a) (tO nm W X.K (.some C)):=PO.of (asi G) λu H Q ι ρ M d y S R e q=>by rw[MW.aio] at e;obtain⟨x,M1,Y,e⟩:=gn e;split at e<;>cases e;rename_i i;exact one S R Y λZ J v le L R1 r=>by cases r;exact⟨i,rfl,q Z J le L⟩
set_option tactic.hygienic true in
def a7s(ha:PE X a (tE nm W X.K a'))(hl:PO X lo (tO nm W X.K u))(hh:PO X hi (tO nm W X.K W3)):PE X (.Subscript a (.Slice lo hi none p2) pos) (tE nm W X.K (.cut a' u W3)) :=
 PE.of (am6 asj ha hl hh) fun σ H Q ι ρ M d M' S R e q=>by
  rw[MW.arh] at e;obtain⟨x,M1,e1,e⟩:=gn e;obtain⟨l,M2,e2,e⟩:=gn e;obtain⟨h,M3,e3,e⟩:=gn e;obtain⟨e4,e5⟩:=An e;subst e5;refine one S R e1 λq0 H1 v le S1 R1 r=>⟨q0,ρ,M1,l,M2,S1,R1,e2,λqk H2 C S2=>⟨qk,ρ,M2,h,_,S2,R1.mono C,e3,λqq H3 Y S3=>?_⟩⟩
  have r3:=(r.mono C).mono Y;have fin:=λqv H' w y S' r'=>q qv H' w (((le.trans C).trans Y).trans y) S' r'
  have lst:∀Z,MW.gm M' x=some Z->d=.vl (MW.aep Z l h)->a5u X.K v l h H3 Q:=λZ hd J=>by
   obtain⟨p,vs,rfl,hp,rl⟩:=wk S3 r3 hd;refine⟨p,vs,rfl,Hm.of hp,λp' L=>?_⟩;have:mj X.K qq H3 (MW.aep Z l h) (ajb vs l h):=by unfold MW.aep ajb;rw[acs,acs,<- rl.length];exact(rl.drop _).take _
   obtain⟨S4,G,r4⟩:=Z8 (X:=X) S3 L this;subst J;exact fin _ _ _ G S4 r4
  obtain⟨Z,hd,J⟩:=bw.mp (show(MW.gm M' x).map (λZ=>MW.D.vl (MW.aep Z l h))=some d from e4);exact lst Z hd J.symm
def Rc(K:Fg)(T:String):PySem.W.kitOne K (.type T) (.type T)=some true:=by unfold PySem.W.kitOne;rw[dh (by simp)]
def ajo(hg:Gl X n)(hm:X.mg n=none)(hv:bootBuiltins n=some (.builtin "isinstance"))(hn:n≠"__name__")(Ox:(n==("__debug__" : Str))=false)(qk:Gl X G)(q0:X.mg G=none)(q1:bootBuiltins G=some (.type "tuple"))(T3:G≠"__name__")(Wb:(G==("__debug__" : Str))=false)(ha:PE X a (tE nm W X.K a'))(he:starEach [a,.Name G p'] X.env=(false,eval a X.env)::starEach [.Name G p'] X.env)(qv:starEach [.Name G p'] X.env=(false,eval (.Name G p') X.env)::starEach [] X.env)(Lh:(backTo pos (starEach [.Name G p'] X.env)).any (·.1)=false):PE X (.Call (.Name n p) [a,.Name G p'] [] pos) (tE nm W X.K (.blt .isTuple (.cons a' .nil))):=by
 intro qq s σ H Q I hh;obtain⟨ι,ρ,M,d,M',S,R,e,q⟩:=hh;rw[MW.Jh] at e;obtain⟨ds,M1,e1,e⟩:=gn e;rw[MW.Bl] at e1;obtain⟨x,M2,e2,e1⟩:=gn e1;rw[MW.Mu] at e1;cases e1;refine ik (By I hg hm hv ?_ hn Ox);refine qb (Q:=EP X qq σ Q) ?_ he Lh;rw[he];show wpAny _ _ (spliced ((false,eval a X.env)::backTo pos (starEach [.Name G p'] X.env))) _ _ s;refine jm (Cv (ha qq s σ H (λv H1=>∃Z,Le ι H Z H1/\lq nm X.K Z H1 M1/\Rep X.K Z H1 x v) I ⟨ι,ρ,M,x,M1,S,R,e2,λZ H1 v le S1 r=>⟨Z,le,S1,r⟩⟩) λu s1 z_=>?_);obtain⟨v,H1,I1,r1,Z,le,S1,r⟩:=z_;rw[qv];show wpAny _ _ (spliced ((false,eval (.Name G p') X.env)::backTo pos (starEach [] X.env))) _ _ s1;refine jm (By I1 qk q0 q1 ?_ T3 Wb);refine m8 ?_;cases r with
 |tup h r =>
  cases e;exact ai8 I1 r1 (.tup h) (Rc _ _) λtk=>⟨.bl true,H1,I1.tok _,rfl,q Z H1 _ le S1 (.bl true)⟩
 |_=>cases e
def aor(hg:Gl X n)(hm:X.mg n=none)(hv:bootBuiltins n=some (.builtin "isinstance"))(hn:n≠"__name__")(Ox:(n==("__debug__" : Str))=false)(qk:Gl X G)(q0:X.mg G=none)(q1:bootBuiltins G=some (.type "bool"))(T3:G≠"__name__")(Wb:(G==("__debug__" : Str))=false)(ha:PE X a (tE nm W X.K a'))(he:starEach [a,.Name G p'] X.env=(false,eval a X.env)::starEach [.Name G p'] X.env)(qv:starEach [.Name G p'] X.env=(false,eval (.Name G p') X.env)::starEach [] X.env)(Lh:(backTo pos (starEach [.Name G p'] X.env)).any (·.1)=false):PE X (.Call (.Name n p) [a,.Name G p'] [] pos) (tE nm W X.K (.blt .isBool (.cons a' .nil))):=by
 intro qq s σ H Q I hh;obtain⟨ι,ρ,M,d,M',S,R,e,q⟩:=hh;rw[MW.Jh] at e;obtain⟨ds,M1,e1,e⟩:=gn e;rw[MW.Bl] at e1;obtain⟨x,M2,e2,e1⟩:=gn e1;rw[MW.Mu] at e1;cases e1;refine ik (By I hg hm hv ?_ hn Ox);refine qb (Q:=EP X qq σ Q) ?_ he Lh;rw[he];show wpAny _ _ (spliced ((false,eval a X.env)::backTo pos (starEach [.Name G p'] X.env))) _ _ s;refine jm (Cv (ha qq s σ H (λv H1=>∃Z,Le ι H Z H1/\lq nm X.K Z H1 M1/\Rep X.K Z H1 x v) I ⟨ι,ρ,M,x,M1,S,R,e2,λZ H1 v le S1 r=>⟨Z,le,S1,r⟩⟩) λu s1 z_=>?_);obtain⟨v,H1,I1,r1,Z,le,S1,r⟩:=z_;rw[qv];show wpAny _ _ (spliced ((false,eval (.Name G p') X.env)::backTo pos (starEach [] X.env))) _ _ s1;refine jm (By I1 qk q0 q1 ?_ T3 Wb);refine m8 ?_;cases r with
 |bl b =>
  cases e;cases(show u=Value.bool b from r1);exact o8 PySem.W.kitx_bool I1.Wz True.intro (Rc _ _) (λz=>nomatch z) λtk=>⟨.bl true,H1,I1.tok _,rfl,q Z H1 _ le S1 (.bl true)⟩
 |_=>cases e
def a7t(hc:X.calm=true):Bv X (.builtin "min") (rB nm X.K .min):=λqq s σ H vs us Q I Uv hh=>by
 obtain⟨ι,M,ds,d,M',S,r,e,q⟩:=hh;obtain⟨rfl,⟨i,j,rfl,rfl⟩|⟨x,xs,ns,m,rfl,e1,e2,G,rfl⟩⟩:=ath e
 .cases r with
  |cons h1 t1 =>
   cases t1 with
   |cons h2 t2 =>
    cases t2;cases h1;cases h2;refine ai6 hc qq s σ H _ us Q I Uv ⟨i,j,rfl,?_⟩;have:=q ι H _ (Le.refl _ _) S (.int (if j<i then j else i));exact this
 .obtain⟨v,rfl,rv⟩:=Ld r rfl
  obtain⟨u,rfl,ru⟩:=Qh Uv;obtain⟨p,ws,rfl,hp,rl⟩:=wk S rv e1;cases ru;obtain⟨is,qv,pl,_⟩:=I.list (Hm.of hp);obtain⟨Z,g1,g2⟩:=ints_rep rl qv e2;have qk:0<Z.size:=by
   cases ns with
   |nil=>cases G|cons n ns=>have:=ql List.length g2;simp at this;lia
  refine min_intList (I.ok.hd hc) (by rw[<- g1];exact pl.isList) qk λw h' tk hw keep=>?_
  obtain⟨t,rfl⟩:=intItems_at hw;obtain⟨b1,b2⟩:=argBest_lt (numAt Z) (Z.size-1);have hm:m=numAt Z (argBest (λi j=>decide (numAt Z i<numAt Z j)) (Z.size-1)):=by
   cases Z4:ns with
   |nil=>rw[Z4] at G;cases G
   |cons n ns' =>
    rw[Z4] at G;cases G;have mem:∀i,i<Z.size->numAt Z i∈n::ns':=λi R=>by rw[<- Z4,<- g2];exact au (Om R)
    have le:∀a∈n::ns',numAt Z (argBest (λi j=>decide (numAt Z i<numAt Z j)) (Z.size-1))<=a:=λa ha=>by
     rw[<- Z4,<- g2] at ha;obtain⟨i,R⟩:=uo.mp ha;have li:i<Z.size:=by have:=(aj.mp R).1;simpa using this
     rw[Om li] at R;cases R;exact b2 i (by lia)
    exact acr ns' n _ (cj.mp (mem _ (by omega))) (le n di) (λa ha=>le a (bx _ ha))
  subst hm;exact⟨.int _,H,I.kept keep,⟨t,rfl⟩,q ι H _ (Le.refl _ _) S (.int _)⟩
def Xd{n:Nat}(hh:A.handled=none)(hr:IsRange s.heap r a b c t u v)(Wc:Builtin.Range.small a b c=true)(hn:Builtin.Range.rangeSize a b c=n)(qk:n<=2 ^ 24)(hQ:∀(G:Heap) (tk:Nat) (Z:Xt),(∀b o,s.heap.get? b=some o->G.get? b=some o)->ItemsOf (λi v=>∃t,v=.int (a+i*c) t) Z n->Q Z.toList { s with heap:=G,toks:=tk }):wpAny (model prog w) A (collect (.ref r)) Q E s:=by
 unfold collect;refine aa (wpAny_runValue (pq F.entry_proto_collect ?_));rw[qi F.plain_proto_collect _];show wpAny _ A.in1 (newList [] >>= λl=>again (.builtin "list.__iadd__" ⟨[l,.ref r],[]⟩)) _ _ s;refine aa (t7 ?_);refine ak ⟨plainId_quiet F.plain_list_iadd _,pq F.entry_list_iadd ?_⟩;rw[qi F.plain_list_iadd _];show wpAny _ A.in1 (Builtin.List.listExtendWith (.ref s.heap.objs.size) (.ref r) (.ref s.heap.objs.size)) _ _ _;have keep:∀b o,s.heap.get? b=some o->(s.heap.push { cls:=.type "list",data:=.seq ([]:Zl).toArray }).get? b=some o:=λb o e=>ao _ e
 have q0:(s.heap.push { cls:=.type "list",data:=.seq ([]:Zl).toArray }).get? s.heap.objs.size=some { cls:=.type "list",data:=.seq #[] 0 }:=bh _ rfl;have q1:=wpAny_extend_range (prog:=prog) (w:=w) (A:=A) (R:=λr' s'=>∃(G:Heap)(tk:Nat)(Z:Xt)(c':Nat),r'=.ok (.ret (.ref s.heap.objs.size))/\s'={ s with heap:=G,toks:=tk }/\(∀b o,s.heap.get? b=some o->G.get? b=some o)
 /\G.get? s.heap.objs.size=some { cls:=.type "list",dict:=none,data:=.seq Z c',slots:=#[] }/\ItemsOf (λi v=>∃t,v=.int (a+i*c) t) Z n)
  (s:={ s with heap:=s.heap.push { cls:=.type "list",data:=.seq ([]:Zl).toArray } }) hh (keep _ _ hr) Wc hn qk s.heap.objs.size (.ref s.heap.objs.size) 0 q0
  λG tk Z c' hk hS Ew=>⟨G,tk,Z,c',rfl,rfl,λb o e=>hk b o (gh (bc e)) (keep b o e),hS,Ew⟩
 have qq:∀{r':Result}{s':Shared},(∃(G:Heap)(tk:Nat)(Z:Xt)(c':Nat),r'=.ok (.ret (.ref s.heap.objs.size))/\s'={ s with heap:=G,toks:=tk }/\(∀b o,s.heap.get? b=some o->G.get? b=some o)
 /\G.get? s.heap.objs.size=some { cls:=.type "list",dict:=none,data:=.seq Z c',slots:=#[] }/\ItemsOf (λi v=>∃t,v=.int (a+i*c) t) Z n)->∃(G:Heap)(tk:Nat)(Z:Xt)(c':Nat),r'=.ok (.ret (.ref s.heap.objs.size))/\s'={ s with heap:=G,toks:=tk }/\G.get? s.heap.objs.size=some { cls:=.type "list",dict:=none,data:=.seq Z c',slots:=#[] }/\Q Z.toList s':=λ⟨G,tk,Z,c',e1,e2,e3,e4,e5⟩=>⟨G,tk,Z,c',e1,e2,e4,by rw[e2];exact hQ G tk Z e3 e5⟩
 refine ji q1 (λfin s' hf=>?_) (λe s' he=>?_)
 .cases fin with
  |done f =>
   obtain⟨G,tk,Z,c',e1,rfl,e4,e5⟩:=qq hf;cases e1;exact aa (wpAny_load e4 (ak e5))
  |again c' =>
   refine⟨hf.1,uw hf.2 λr' q2 qv=>?_⟩;obtain⟨G,tk,Z,c',e1,rfl,e4,e5⟩:=qq qv;subst e1;exact aa (wpAny_load e4 (ak e5))
 .obtain⟨_,_,_,_,e1,_⟩:=qq he
  cases e1
def Th{n:Nat}(hh:A.handled=none)(hr:IsRange s.heap r a b c t u v)(Wc:Builtin.Range.small a b c=true)(hn:Builtin.Range.rangeSize a b c=n)(Z:n<=2 ^ 24)(h:∀(R:Heap) (tk:Nat) (acc:Xt),(∀b o,s.heap.get? b=some o->R.get? b=some o)->ItemsOf (λi v=>∃t,v=.int (a+i*c) t) acc n->G (.ref R.objs.size) { s with heap:=R.push { cls:=.type "tuple",data:=.seq acc },toks:=tk }) :
 codeAny (model prog w) A (.call (.builtin "tuple.__new__") ⟨[.type "tuple",.ref r],[]⟩) (wants G E) s:=by
 refine codeAny_of_tree ?_;show wpAny _ A.in1 (do checkBuiltinCall "tuple.__new__" ⟨[.type "tuple",.ref r],[]⟩;again (.builtin "tuple.__new__" ⟨[.type "tuple",.ref r],[]⟩)) _ _ s;refine aa (wpAny_of_eq (F.newCall_tuple_1 _) (ak ⟨plainId_quiet F.plain_tuple_new _,pq F.entry_tuple_new ?_⟩));rw[qi F.plain_tuple_new _];have qv:=sub_tuple_self;have q0:=init_tuple_lookup;have qk:=madeHere_tuple;have qq:s.TypeIs (.ref r) "range" := ⟨_,hr,rfl⟩
 wp_walk using wpAny_typeOf qq,Xd (A:=A.in1) hh hr Wc hn Z
 intro R tk acc hk Ew;show wpAny _ _ (Builtin.Tuple.tupleExact acc.toList.toArray >>= λv=>ret v) _ _ _;unfold Builtin.Tuple.tupleExact;refine aa (t7 ?_ (by show acc.toList.toArray.size<=sizeLine;simp only[Array.toArray_toList];rw[Ew.1,qz];exact Z));refine ak ?_;have e:acc.toList.toArray=acc:=by simp
 rw[e];exact h R tk acc hk Ew
def Ti{n:Nat}(hh:A.handled=none)(hr:IsRange s.heap r a b c t u v)(Wc:Builtin.Range.small a b c=true)(hn:Builtin.Range.rangeSize a b c=n)(qq:n<=2 ^ 24)(hQ:∀(h':Heap) (tk:Nat) (R:Xt),(∀b o,s.heap.get? b=some o->h'.get? b=some o)->ItemsOf (λi v=>∃t,v=.int (a+i*c) t) R n->Q (.ref h'.objs.size) { s with heap:=h'.push { cls:=.type "tuple",data:=.seq R },toks:=tk }) :
 wpAny (model prog w) A (call (.type "tuple") [.ref r]) Q E s:=by
 refine callType_codes (Q₁:=λobj Z=>Z.TypeIs obj "tuple"/\Q obj Z) F.called_tuple (F.typeCall_tuple_1 _) F.entry_object_init
  (Th (A:=A.in1) hh hr Wc hn qq λh' tk R hk Ew=>⟨⟨_,bh _ rfl,rfl⟩,hQ h' tk R hk Ew⟩) λobj Z G=>?_
 exact⟨G.1,F.args_object_init_2 obj _,object_init_meets F.called_tuple.init.lookup F.called_tuple.made (by decide) prog w A.in1 _ Z ⟨G.1,rfl,G.2⟩⟩
def Wd(h:ItemsOf (λi v=>∃t,v=.int (0+(i:Int)*1) t) acc n):Vals ((List.range n).map λ(k:Nat)=>V.int (k:Int)) acc.toList:=by
 have go:∀(l:Zl)(k:Nat),(∀(j:Nat)(v:Value),l[j]?=some v->∃t,v=Value.int ((k+j:Nat):Int) t)->Vals ((List.range' k l.length).map λ(k:Nat)=>V.int (k:Int)) l:=by
  intro l
  induction l with
  |nil=>intro k _;exact .nil
  |cons v l R =>
   intro k G;rw[jw,Ar,iz];refine .cons ?_ (R (k+1) λj v Z=>?_)
   .exact G 0 v rfl
   .obtain⟨t,e⟩:=G (j+1) v (by simpa using Z)
    exact⟨t,by rw[e];congr 1;lia⟩
 have:=go acc.toList 0 (λj v Z=>by
  obtain⟨t,e⟩:=h.2 j v (by simpa using Z);exact⟨t,by rw[e];congr 1;lia⟩)
 rw[zf,h.1,<- List.range_eq_range'] at this;exact this
def We(n:Nat):mj K G H ((List.range n).map λ(k:Nat)=>MW.D.int (k:Int)) ((List.range n).map λ(k:Nat)=>V.int (k:Int)):=by
 generalize List.range n=l
 induction l with
 |nil=>exact .nil|cons k l Z=>exact .cons (.int _) Z
set_option tactic.hygienic true in
def a0g(hr:Ah 8 X.A)(hg:Gl X n)(hm:X.mg n=none)(hv:bootBuiltins n=some (.type "tuple"))(hn:n≠"__name__")(Ox:(n==("__debug__" : Str))=false)(qk:Gl X G)(q3:X.mg G=none)(q4:bootBuiltins G=some (.type "range"))(T3:G≠"__name__")(Wb:(G==("__debug__" : Str))=false)(ha:PA X [a] (W0 nm W X.K (.cons a' .nil)))(he:starEach [.Call (.Name G p') [a] [] y] X.env=(false,eval (.Call (.Name G p') [a] [] y) X.env)::starEach [] X.env)(Lh:(backTo q1 (starEach [] X.env)).any (·.1)=false)(qv:starEach [a] X.env=(false,eval a X.env)::starEach [] X.env)(q0:(backTo y (starEach [] X.env)).any (·.1)=false) :
 PE X (.Call (.Name n p) [.Call (.Name G p') [a] [] y] [] q1) (tE nm W X.K (.aeo a')):=by
 intro Z s σ H Q I hh;obtain⟨ι,ρ,M,d,M',S,R,e,q⟩:=hh;rw[MW.alo] at e;obtain⟨x,M1,e1,e⟩:=gn e;split at e<;>try cases e
 rename_i i;split at e<;>cases e;rename_i hi;refine ik (By I hg hm hv ?_ hn Ox);refine jt (Q:=EP X Z σ Q) ?_ he Lh;rw[he];show wpAny _ _ (spliced ((false,eval (.Call (.Name G p') [a] [] y) X.env)::backTo q1 (starEach [] X.env))) _ _ s;refine jm ?_;refine ik (By I qk q3 q4 ?_ T3 Wb);refine jt (Cv (ha y Z s σ H (λvs J=>∃Y,vs=[.int i]/\Le ι H Y J/\lq nm X.K Y J M') I ⟨ι,ρ,M,[.int i],M',S,R,by simp[e1,Res.bind],λY J vs le S1 r=>?_⟩) λus C ⟨vs,J,I1,r1,Y,ev,Uu,S1⟩=>?_) qv q0
 .obtain⟨v,ev,rv⟩:=Ld r rfl
  cases rv;exact⟨Y,ev,le,S1⟩
 subst ev;obtain⟨u,rfl,ru⟩:=Qh r1;obtain⟨t,rfl⟩:=ru;refine call_range_1 ?_;show wpAny _ _ (spliced []) _ _ _;refine m8 ?_;have keep:∀b o,C.heap.get? b=some o->(C.heap.push { cls:=.type "range",data:=.fields #[.int 0 C.toks,.int i t,.int 1 (C.toks+1)] }).get? b=some o:=λb o e=>ao _ e
 refine Ti (n:=i.toNat) hr.hd (bh _ rfl) (small_one (by lia) (by lia) (by lia) (by omega)) (by rw[rangeSize_one];split<;>lia) (by lia) λL tk qq hk Ew=>?_
 have I2:Inv X Z σ J { C with heap:=L,toks:=tk }:=I1.kept λb o e=>hk b o (keep b o e)
 have hz:((List.range i.toNat).map λ(k:Nat)=>V.int (k:Int)).length<=sizeLine:=by simp[qz];omega
 have hf:J L.objs.size=none:=I2.zb.fresh (bf _);have I3:Inv X Z σ (upd J L.objs.size (.tup ((List.range i.toNat).map λ(k:Nat)=>V.int (k:Int)))) { C with heap:=L.push { cls:=.type "tuple",data:=.seq qq },toks:=tk } :=
  I2.laid (a:=L.objs.size) (t':=tk) (λb o e=>ao _ e) (bf _) (show Aj X.prog X.w _ _ _ (.tup _) from⟨hz,qq.toList,Wd Ew,by simpa using L2.W5.new _ _⟩)
 obtain⟨S2,Ao,r2⟩:=Oj (X:=X) S1 hf (We i.toNat);exact⟨.ref L.objs.size,_,I3,rfl,q Y _ _ (Uu.trans Ao) S2 r2⟩
end Sm
namespace EnT
open PySem PySem.Spec
open AutoSeq1 (wpAny_loadPart')
set_option tactic.hygienic true in
def acu(a:s.heap.IsTupleIter it t i)(b:s.heap.IsTuple t L)(e:L[i]?=some x)(q:∀G,G.IsTupleIter it t (i+1)->Heap.SameBut it s.heap G->Q x { s with heap:=G }):wpAny (model prog w) A (Builtin.SmallTypes.nextOf (.ref it)) Q E s:=by obtain⟨o,Y,R,Z⟩:=id a;obtain⟨y,C,S,u,J⟩:=b;unfold Builtin.SmallTypes.nextOf;refine aa (kh (name:=Str.ofString "__next__") a.typeIs vd (j7 vd a.typeIs F.entry_tuple_iterator_next ?_ (F.args_tuple_iterator_next_1 _)));show wpAny _ _ (field (.ref it) 0 >>= _) _ _ s;refine aa (jh Y Z (x:=.ref t) rfl ?_);show wpAny _ _ (if(Value.ref t==Value.none)=true then _ else field (.ref it) 1 >>= _) _ _ s;rw[cu (show ¬((Value.ref t==Value.none)=true) by exact dw)];refine aa (jh Y Z (x:=.int i 0) rfl (aa (ud C J ?_)));simp only[um,e];refine aa (wpAny_setField Y Z (by simp) (ak ⟨x,rfl,ak (q _ ⟨_,mq _ Y (Obj.isFreed_of_fields (Obj.data_mapFields Z _)),(Obj.cls_mapFields ..).trans R,?_⟩ (jz ..))⟩));rw[Obj.data_mapFields Z];simp[rawInt]
set_option tactic.hygienic true in
def ahg(J:A.handled=none)(a:s.heap.IsTupleIter it t i)(b:s.heap.IsTuple t R)(e:R[i]?=none)(q:∀Z x,Heap.ExtBut it s.heap Z->(∃o,Z.get? x=some o/\o.cls=.type "StopIteration")->E (.ref x) { s with heap:=Z }):wpAny (model prog w) A (Builtin.SmallTypes.nextOf (.ref it)) Q E s:=by obtain⟨o,G,o2,Y⟩:=id a;obtain⟨y,L,S,u,C⟩:=b;unfold Builtin.SmallTypes.nextOf;refine aa (kh (name:=Str.ofString "__next__") a.typeIs vd (j7 vd a.typeIs F.entry_tuple_iterator_next ?_ (F.args_tuple_iterator_next_1 _)));show wpAny _ _ (field (.ref it) 0 >>= _) _ _ s;refine aa (jh G Y (x:=.ref t) rfl ?_);show wpAny _ _ (if(Value.ref t==Value.none)=true then _ else field (.ref it) 1 >>= _) _ _ s;rw[cu (show ¬((Value.ref t==Value.none)=true) by exact dw)];refine aa (jh G Y (x:=.int i 0) rfl (aa (ud L C ?_)));simp only[um,e];refine aa (wpAny_rule (aa (wpAny_setField G Y (by simp) ?_)));show wpAny _ _ (newExc (.type "StopIteration") [] >>= raiseNew) _ _ _;exact STb.af6 J λZ x k e=>q Z x (λb o n z=>k b o ((jz ..).extBut b o n z)) e
def ItB(b:Bool)(h:Heap)(it a:Addr)(i:Nat):Prop:=cond b (h.IsTupleIter it a i) (h.IsListIter it a i)
def SqB(b:Bool)(h:Heap)(a:Addr)(Z:Xt):Prop:=cond b (h.IsTuple a Z) (h.IsList a Z)
def ItB.at(x:ItB b h it a i)(k:∀o,h.get? it=some o->Z.get? it=some o):ItB b Z it a i:=by
 cases b with
 |true=>obtain⟨o,e,r⟩:=x;exact⟨o,k o e,r⟩
 |false=>obtain⟨o,e,r⟩:=x;exact⟨o,k o e,r⟩
def ItB.obj(x:ItB b h it a i):∃o,h.get? it=some o/\∀v,o.data≠.cell v:=by
 cases b with
 |true=>obtain⟨o,e,c,d⟩:=x;exact⟨o,e,λv z=>by rw[d] at z;cases z⟩
 |false=>obtain⟨o,e,c,d⟩:=x;exact⟨o,e,λv z=>by rw[d] at z;cases z⟩
def aos(a:ItB b s.heap it t i)(c:SqB b s.heap t G)(e:G[i]?=some x)(q:∀Z,ItB b Z it t (i+1)->Heap.SameBut it s.heap Z->Q x { s with heap:=Z }):wpAny (model prog w) A (Builtin.SmallTypes.nextOf (.ref it)) Q E s:=by
 cases b with
 |true=>exact acu a c e q|false=>exact wpAny_nextOf_list_item a c e q
def atl(G:A.handled=none)(a:ItB b s.heap it t i)(c:SqB b s.heap t R)(e:R[i]?=none)(q:∀Z x,Heap.ExtBut it s.heap Z->(∃o,Z.get? x=some o/\o.cls=.type "StopIteration")->E (.ref x) { s with heap:=Z }):wpAny (model prog w) A (Builtin.SmallTypes.nextOf (.ref it)) Q E s:=by
 cases b with
 |true=>exact ahg G a c e q|false=>exact wpAny_nextOf_list_end G a c e q
def atm{i:Nat}{Q:Y1}(he:IsEnum s.heap e it i old)(a:ItB b s.heap it t i)(c:SqB b s.heap t xs)(ex:xs[i]?=some x)(ne:e≠it)(q:∀R,IsEnumOut R e it ((i:Int)+1) x s.heap.objs.size->ItB b R it t (i+1)->R.get? s.heap.objs.size=some { cls:=.type "tuple",data:=.seq #[.int i s.toks,x] }->R.objs.size=s.heap.objs.size+1 ->
 (∀y o,y≠e->y≠it->s.heap.get? y=some o->R.get? y=some o)->Q (.ref s.heap.objs.size) { s with heap:=R,toks:=s.toks+1 }) :
 wpAny (model prog w) A (Builtin.«enumerate.__next__» ⟨[.ref e],[]⟩) (λfin s'=>∃v,fin=.done (.ret v)/\Q v s') E s:=by
 obtain⟨G,g,d,tk,os⟩:=s;show wpAny _ _ (field (.ref e) 2 >>= _) _ _ _;refine aa (jh he rfl (x:=.ref it) rfl (aa (aos a c ex λh1 a1 s1=>?_)));have s1:Heap.SameBut it G h1:=s1;have e1:IsEnum h1 e it i old:=(s1.2 e ne).trans he;refine aa (jh e1 rfl (x:=rawInt i) rfl (aa (jh e1 rfl (x:=.none) rfl (aa (wpAny_mkInt ?_)))));show wpAny _ _ (setField (.ref e) 3 (rawInt ((i:Int)+1)) >>= _) _ _ ⟨h1,g,d,tk+1,os⟩;refine aa (jg e1 (by simp) λh2 e2 s2=>?_);have s2:Heap.SameBut e h1 h2:=s2;have e2:IsEnum h2 e it ((i:Int)+1) old:=e2;refine aa (jg e2 (by simp) λh3 e3 s3=>?_);have s3:Heap.SameBut e h2 h3:=s3;have e3:IsEnum h3 e it ((i:Int)+1) old:=e3;refine aa (wpAny_newTuple ?_);have n3:h3.objs.size=G.objs.size:=by rw[s3.1,s2.1,s1.1]
 obtain⟨Z,d4⟩:∃Z,Z=h3.push { cls:=.type "tuple",data:=.seq #[.int i tk,x] }:=⟨_,rfl⟩;have e4:IsEnum Z e it ((i:Int)+1) old:=by rw[d4];exact ao _ e3
 have t4:Z.get? G.objs.size=some { cls:=.type "tuple",data:=.seq #[.int i tk,x] }:=by rw[d4,<- n3];exact bh _ rfl
 have n4:Z.objs.size=G.objs.size+1:=by rw[d4,jk,n3]
 have k3:∀y o,y≠e->h1.get? y=some o->Z.get? y=some o:=λy o hy z=>by rw[d4];exact ao _ (s3.extBut y o hy (s2.extBut y o hy z))
 have a4:ItB b Z it t (i+1):=a1.at λo z=>k3 it o (j0 ne) z
 have lt:e<G.objs.size:=bc he
 show wpAny _ _ (Builtin.SmallTypes.ownedTupleIsFree (.ref e) >>= _) _ _ ⟨h3.push _,g,d,tk+1,os⟩;rw[n3,<- d4];refine aa ?_;unfold Builtin.SmallTypes.ownedTupleIsFree;refine aa (jh e4 rfl (x:=.none) rfl (ak ?_));simp only[o5];refine aa (wpAny_rule (aa (jh e4 rfl (x:=old) rfl (aa (jg e4 (by simp) λh5 e5 s5=>?_)))));have s5:Heap.SameBut e Z h5:=s5;have e5:IsEnum h5 e it ((i:Int)+1) x:=e5;refine aa ?_;unfold Builtin.SmallTypes.ownedTupleHandOut;refine aa (jg e5 (by simp) λh6 e6 s6=>?_);have s6:Heap.SameBut e h5 h6:=s6;have e6:IsEnumOut h6 e it ((i:Int)+1) x G.objs.size:=e6;refine jg e6 (by simp) λh7 e7 s7=>?_
 have s7:Heap.SameBut e h6 h7:=s7;have k7:∀y o,y≠e->Z.get? y=some o->h7.get? y=some o:=λy o hy z=>s7.extBut y o hy (s6.extBut y o hy (s5.extBut y o hy z))
 exact aa (wpAny_letGo (ak ⟨_,rfl,q h7 e7 (a4.at λo z=>k7 it o (j0 ne) z) (k7 _ _ (yc lt) t4) (by rw[s7.1,s6.1,s5.1,n4]) λy o y1 y2 z=>k7 y o y1 (k3 y o y1 (s1.extBut y o y2 z))⟩))
set_option tactic.hygienic true in
def atn{i:Nat}(G:IsEnum s.heap e it i old)(a:ItB b s.heap it t i)(c:SqB b s.heap t xs)(L:xs[i]?=some x)(R:e≠it)(q:∀Z,IsEnumOut Z e it ((i:Int)+1) x s.heap.objs.size->ItB b Z it t (i+1)->Z.get? s.heap.objs.size=some { cls:=.type "tuple",data:=.seq #[.int i s.toks,x] }->Z.objs.size=s.heap.objs.size+1 ->
 (∀y o,y≠e->y≠it->s.heap.get? y=some o->Z.get? y=some o)->Q (some (.ref s.heap.objs.size)) { s with heap:=Z,toks:=s.toks+1 }):wpAny (model prog w) A (pyNext (.ref e)) Q E s:=by
 have Y:s.TypeIs (.ref e) "enumerate" := ⟨_,G,rfl⟩;unfold pyNext;refine aa (wpAny_attempt (kh (name:=Str.ofString "__next__") Y yf (j7 yf Y F.entry_enumerate_next ?_ (F.args_enumerate_next_1 _))));exact atm G a c L R λZ S C u y4 J=>ak (q Z S C u y4 J)
set_option tactic.hygienic true in
def ato{i:Nat}(J:A.handled=none)(G:IsEnum s.heap e it i old)(a:ItB b s.heap it t i)(c:SqB b s.heap t R)(C:R[i]?=none)(q:∀Z,Heap.ExtBut it s.heap Z->Q none { s with heap:=Z }):wpAny (model prog w) A (pyNext (.ref e)) Q E s:=by have Y:s.TypeIs (.ref e) "enumerate" := ⟨_,G,rfl⟩;unfold pyNext;refine aa (wpAny_attempt (kh (name:=Str.ofString "__next__") Y yf (j7 yf Y F.entry_enumerate_next ?_ (F.args_enumerate_next_1 _))));show wpAny _ _ (field (.ref e) 2 >>= _) _ _ _;refine aa (jh G rfl (x:=.ref it) rfl (aa (atl J a c C λZ z k z_=>?_)));obtain⟨o,L,S⟩:=z_;exact aa (vm (T := "StopIteration") (b:=true) ⟨o,L,S⟩ isSubtype_stop (ak (q _ k)))
set_option tactic.hygienic true in
def atp(t:Addr)(xs:Xt)(n:Nat)(Y:Option Addr)(y:Array (Option Value)) :
 Meets (Builtin.«enumerate.__new__» ⟨[.type "enumerate",.ref t],[]⟩) (λ_ R s=>s.heap.get? t=some { cls:=.type "tuple",dict:=Y,data:=.seq xs n,slots:=y } /\
  R (.ok (.ret (.ref (s.heap.push { cls:=.type "tuple_iterator",data:=.fields #[.ref t,.int 0 0] }).objs.size)))
   { s with heap:=(s.heap.push { cls:=.type "tuple_iterator",data:=.fields #[.ref t,.int 0 0] }).push { cls:=.type "enumerate",data:=.fields #[.none,.bool false,.ref s.heap.objs.size,rawInt 0,.none,.none] } }) :=
 .of_wp λprog w A R s h=>by
  obtain⟨L,g,d,S,C⟩:=s;obtain⟨Z,h⟩:=h;have J:=sub_enumerate;have G:Heap.IsTuple (Shared.heap ⟨L,g,d,S,C⟩) t xs:=⟨_,Z,rfl,n,rfl⟩
  wp_walk using wpAny_loadPart' Z
  refine wpAny_stack_any λst=>ak ?_
  split
  .rename_i c _ _ _ _ _
   cases(c==Value.type "enumerate")<;>(wp_walk using wpAny_loadPart' Z,wy G)<;>exact⟨_,rfl,h⟩
  .wp_walk using wpAny_loadPart' Z,wy G
   exact⟨_,rfl,h⟩
def aot(c:s.heap.IsTuple t xs)(q:∀Z,IsEnum Z (s.heap.objs.size+1) s.heap.objs.size 0 .none->Z.IsTupleIter s.heap.objs.size t 0->Z.objs.size=s.heap.objs.size+2 ->
 (∀y o,s.heap.get? y=some o->Z.get? y=some o)->Q (.ref (s.heap.objs.size+1)) { s with heap:=Z }):wpAny (model prog w) A (call (.type "enumerate") [.ref t]) Q E s:=by
 obtain⟨⟨c0,qq,dt,sl⟩,hl,hc,n,G⟩:=c;have hc:c0=.type "tuple" := hc;have G:dt=.seq xs n:=G;subst hc G;have R:(s.heap.push { cls:=.type "tuple_iterator",data:=.fields #[.ref t,.int 0 0] }).objs.size=s.heap.objs.size+1:=jk ..;refine callType_new F.called_enumerate (by decide) (F.typeCall_enumerate_1 _) (F.newCall_enumerate_1 _) (λobj=>F.args_object_init_2 obj _) F.entry_enumerate_new (atp t xs n qq sl) ⟨hl,?_⟩;show _/\_;rw[R];have e1:IsEnum ((s.heap.push { cls:=.type "tuple_iterator",data:=.fields #[.ref t,.int 0 0] }).push { cls:=.type "enumerate",data:=.fields #[.none,.bool false,.ref s.heap.objs.size,rawInt 0,.none,.none] }) (s.heap.objs.size+1) s.heap.objs.size 0 .none:=by rw[<- R];exact bh _ rfl
 exact⟨⟨_,e1,rfl⟩,q _ e1 ⟨_,ao _ (bh _ rfl),rfl,rfl⟩ (by rw[jk,R]) λy o z=>ao _ (ao _ z)⟩
end EnT
namespace L2
open PySem PySem.Spec EnT
def Inv.Yo{ch:X0}(I:Inv X pins σ H s)(G:∀b∈ch,Ur X pins H b)(k:∀b o,b∉ch->s.heap.get? b=some o->h'.get? b=some o)(hn:s.heap.objs.size<=n)(new:Aj X.prog X.w (upd H n (.tup vs)) h' n (.tup vs)):Inv X pins σ (upd H n (.tup vs)) { s with heap:=h',toks:=t' }:=by
 have R:H n=none:=I.zb.fresh hn;have qq:∀b u,H b=some u->b∉ch:=λb u e z=>by rw[(G b z).1] at e;cases e
 have qk:∀b o,s.heap.get? b=some o->b≠n:=λb o e=>gh (dm (bc e) hn)
 refine I.step (g':=s.gens) (d':=s.drawn) (ch:=ch) (λb hb=>⟨(G b hb).2.2.2.1,(G b hb).2.1,(G b hb).2.2.2.2.1,(G b hb).2.2.2.2.2⟩) (λb o _ _ Z e _=>k b o Z e) (λb o _ _ Z e _=>⟨o.slots,k b o Z e⟩) (λb o _ e n0=>by rw[jb (qk b o e)];exact n0)
  (λb o Z e=>⟨o,k b o Z e⟩) (λb xs e=>by rw[jb (mz e R)];exact e) (λb o u e=>by rw[jb (mz e R)];exact e) (λb ps e=>⟨#[],by rw[jb (mz e R),e];simp⟩) (λm hm=>?_) (λb u e=>?_) I.bare
 .obtain⟨o,es,ep,ho,r⟩:=hm
  exact⟨o,es,ep,k _ o (λz=>(G _ z).2.1 rfl) ho,r⟩
 .by_cases z:b=n
  .subst z;rw[qw] at e;cases e;exact new
  .rw[jb z] at e
   refine(I.zb b u e).stay (λc v Z q=>k c v ?_ q) (λc q=>by rw[jb (mz q R)];exact q) λc xs q=>by rw[jb (mz q R)];exact q
   rcases Z with y|y
   .rw[y];exact qq b u e
   .exact qq c _ y
def Inv.ahh{ch:X0}(I:Inv X pins σ H s)(G:∀b∈ch,Ur X pins H b)(k:∀b o,b∉ch->s.heap.get? b=some o->h'.get? b=some o):Inv X pins σ H { s with heap:=h',toks:=t' }:=by
 have R:∀b u,H b=some u->b∉ch:=λb u e z=>by rw[(G b z).1] at e;cases e
 refine I.step (g':=s.gens) (d':=s.drawn) (ch:=ch) (λb hb=>⟨(G b hb).2.2.2.1,(G b hb).2.1,(G b hb).2.2.2.2.1,(G b hb).2.2.2.2.2⟩) (λb o _ _ Z e _=>k b o Z e) (λb o _ _ Z e _=>⟨o.slots,k b o Z e⟩) (λb o _ e n0=>n0)
  (λb o Z e=>⟨o,k b o Z e⟩) (λb xs e=>e) (λb o u e=>e) (λb ps e=>⟨#[],by rw[e];simp⟩) (λm hm=>?_) (λb u e=>?_) I.bare
 .obtain⟨o,es,ep,ho,r⟩:=hm
  exact⟨o,es,ep,k _ o (λz=>(G _ z).2.1 rfl) ho,r⟩
 .refine(I.zb b u e).stay (λc v Z q=>k c v ?_ q) (λ_ q=>q) λ_ _ q=>q
  rcases Z with y|y
  .rw[y];exact R b u e
  .exact R c _ y
def SqX(b:Bool)(K:Fg)(H:Hp)(a:Addr)(Z:List V):Prop:=cond b (Iu K H a Z) (Hm K H a Z)
def Inv.a0h(I:Inv X pins σ H s)(h:SqX b X.K H a xs):∃Z,Vals xs Z/\SqB b s.heap a Z.toArray:=by
 cases b with
 |true=>obtain⟨Z,G,p,R⟩:=I.tuple h;exact⟨Z,G,show s.heap.IsTuple a Z.toArray from p⟩
 |false=>obtain⟨Z,G,p,R⟩:=I.list h;exact⟨Z,G,p.isList⟩
def Inv.aou(I:Inv X pins σ H s)(h:SqX b X.K H a Z)(g:SqX b X.K H a ys):Z=ys:=by
 cases b with
 |true=>exact I.Sx h g|false=>exact I.abu h g
def Ien(b:Bool)(K:Fg)(a:Addr):It :=
 ⟨λi H=>∃Z x,SqX b K H a Z/\Z[i]?=some x,λi H v G=>∃p x,v=.ref p/\H p=none/\G=upd H p (.tup [.int (i:Nat),x])/\∀Z,SqX b K H a Z->Z[i]?=some x,λi H=>∃Z,SqX b K H a Z/\Z.length<=i⟩
set_option tactic.hygienic true in
theorem atq(a e it:Addr)(ne:e≠it):Turn P w K (.Tuple ts k0 pt) (Ien b K a) [e,it] e (λi h=>(∃Z,IsEnum h e it ((i:Nat):Int) Z)/\ItB b h it a i) where
 mem:=by simp
 obj:=λi h st c Y=>by
  obtain⟨⟨Z,G⟩,J⟩:=st;rcases cj.mp Y with z|z
  .subst z;exact⟨_,G,λv z=>by cases z⟩
  .have z:c=it:=by simpa using z
   subst z;exact J.obj
 keep:=λi h h' st k=>by obtain⟨⟨Z,G⟩,J⟩:=st;exact⟨⟨Z,k e (by simp) _ G⟩,J.at λo z=>k it (by simp) o z⟩
 item:=by
  intro X hP hw hK Y i L s σ H E I hf st hg;subst hP hw hK;obtain⟨xs,x,R,S⟩:=hg;obtain⟨yj,rv,p⟩:=I.a0h R;obtain⟨u,hu,ru⟩:=rv.get S;obtain⟨⟨Z,G⟩,J⟩:=st;have lt:e<s.heap.objs.size:=bc G
  refine atn G J p (x:=u) (by simpa using hu) ne λh1 o1 a1 t1 n1 k1=>⟨_,rfl,?_⟩
  refine wpAny_letOwnedTupleGo_enum o1 λh2 o2 C=>?_
  have C:Heap.SameBut e h1 h2:=C;have t2:h2.get? s.heap.objs.size=some { cls:=.type "tuple",data:=.seq #[.int i s.toks,u] }:=(C.2 _ (yc lt)).trans t1;refine⟨.ref s.heap.objs.size,upd H s.heap.objs.size (.tup [.int (i:Nat),x]),I.Yo (t':=s.toks+1) hf (λc o Y z=>?_) (bf _) ⟨by show 2<=sizeLine;decide,[.int i s.toks,u],.cons ⟨s.toks,rfl⟩ (.cons ru .nil),⟨_,t2,rfl,_,rfl,rfl⟩⟩,rfl,
   ⟨_,x,rfl,I.zb.fresh (bf _),rfl,λys hy=>by rw[I.aou hy R];exact S⟩,⟨⟨u,?_⟩,a1.at λo z=>C.extBut it o (j0 ne) z⟩,λc Y=>?_⟩
  .have c1:c≠e:=λz=>Y (by simp[z])
   have c2:c≠it:=λz=>Y (by simp[z])
   exact C.extBut c o c1 (k1 c o c1 c2 z)
  .have q:((i+1:Nat):Int)=(i:Int)+1:=by push_cast;rfl
   rw[q];exact o2
  .have qq:c<s.heap.objs.size:=by
    rcases cj.mp Y with z|z
    .rw[z];exact lt
    .have z:c=it:=by simpa using z
     obtain⟨o,z2,_⟩:=J.obj;rw[z];exact bc z2
   rw[jb (gh qq)];exact(hf c Y).1
 done:=by intro X hP hw hK Y i L s σ H E I hf st hg;subst hP hw hK;obtain⟨xs,R,S⟩:=hg;obtain⟨yj,rv,p⟩:=I.a0h R;obtain⟨⟨Z,G⟩,J⟩:=st;have hl:=rv.length;refine ato (I.ok.hd Y) G J p (by simp;exact a_ (g_ hl) S) λh' eb=>⟨rfl,I.ahh (t':=s.toks) hf λc o Y z=>eb c o (λy=>Y (by simp[y])) z⟩
 self:=λ_ _ _ _ _ st h=>by obtain⟨⟨Z,G⟩,J⟩:=st;exact wpAny_pyIter_enum G h
def a7w(hg:Gl X "enumerate")(hm:X.mg "enumerate" = none)(ha:PA X [a] ta)(hs:starEach [a] X.env=[(false,eval a X.env)]) :
 PI X (.Tuple ts k0 pt) (.Call (.Name "enumerate" p) [a] [] pos) (fun σ H R=>ta σ H λvs H1=>∃b q,vs=[.ref q]/\(∃xs,SqX b X.K H1 q xs)/\R (Ien b X.K q) H1):=by
 intro qq s σ H R I h;refine PyProof.Rows.Call_ (By I hg hm (show bootBuiltins "enumerate" = some (.type "enumerate") by decide+kernel) (jt (Cv (ha pos qq s σ H _ I h) λus Z ⟨vs,H1,I1,r1,q1⟩=>?_) hs rfl));obtain⟨b,q,rfl,⟨xs,hq⟩,hR⟩:=q1;cases r1 with
 |cons r rr =>
  cases rr;cases r;obtain⟨yj,rv,p⟩:=I1.a0h hq;have fin:∀G,IsEnum G (Z.heap.objs.size+1) Z.heap.objs.size 0 .none->ItB b G Z.heap.objs.size q 0->(∀y o,Z.heap.get? y=some o->G.get? y=some o) ->
   wpAny (model X.prog X.w) X.A (pyIter (.ref (Z.heap.objs.size+1))) (PIE X qq σ (.Tuple ts k0 pt) R) X.xe { Z with heap:=G }:=λG e1 e2 kk=>by
   refine wpAny_pyIter_enum e1 ?_;refine⟨Z.heap.objs.size+1,[Z.heap.objs.size+1,Z.heap.objs.size],_,_,H1,rfl,I1.kept (t':=Z.toks) kk,atq (b:=b) q _ _ (Nat.succ_ne_self _),⟨⟨.none,e1⟩,e2⟩,λc hc=>?_,hR⟩;have qk:Z.heap.objs.size<=c:=by
    rcases cj.mp hc with z|z
    .rw[z];exact vy _
    .have z:c=Z.heap.objs.size:=by simpa using z
     rw[z];exact bf _
   exact I1.ams qk (I1.zb.fresh qk)
  cases b with
  |true=>exact aot p λG e1 e2 _ kk=>fin G e1 e2 kk
  |false=>exact call_enumerate_list p λG e1 e2 _ kk=>fin G e1 e2 kk
end L2
namespace EnT
open PySem PySem.Spec
noncomputable def tpN(Z:Zl):Obj:={ cls:=.type "tuple",data:=.seq Z.toArray }
structure ZN(h0:Heap)(n:Nat)(ls:Y2)(f0:Value)(ov:Zl)(k d:Nat)(g:Heap):Prop where
 z:IsZip g (n+ls.length+2) (n+ls.length) (n+ls.length+1) f0
 o:g.get? (n+ls.length+1)=some (tpN ov)
 a:∀(j:Nat) l,ls[j]?=some l->g.IsTupleIter (n+j) l (if j<d then k+1 else k)
 low:∀c o,(c<n\/c=n+ls.length\/n+ls.length+2<c)->h0.get? c=some o->g.get? c=some o
def acw{h Z:Heap}{i l k:Nat}(x:h.IsTupleIter i l k)(e:∀o,h.get? i=some o->Z.get? i=some o):Z.IsTupleIter i l k:=let ⟨o,a,b⟩:=x;⟨o,e o a,b⟩
def aov{h Z:Heap}{a:Nat}{xs:Xt}(x:h.IsTuple a xs)(e:∀o,h.get? a=some o->Z.get? a=some o):Z.IsTuple a xs:=let ⟨o,a,b⟩:=x;⟨o,e o a,b⟩
def acx{Z:Y2}{j:Nat}(h:Z[j]?=some l):j<Z.length:=(aj.mp h).1
def ZN.sz(H:ZN h0 n ls f0 G k d g)(e:Heap.ExtBut (n+ls.length+2) g g')(z:IsZip g' (n+ls.length+2) (n+ls.length) (n+ls.length+1) f1):ZN h0 n ls f1 G k d g' :=
 ⟨z,e _ _ (by lia) H.o,λj l h=>acw (H.a j l h) λo=>e _ o (by have:=acx h;lia),λc o Z z=>e _ _ (by lia) (H.low c o Z z)⟩
def ZN.so(H:ZN h0 n ls f0 G k d g)(e:Heap.ExtBut (n+ls.length+1) g g')(z:g'.get? (n+ls.length+1)=some (tpN ow)):ZN h0 n ls f0 ow k d g' :=
 ⟨e _ _ (by lia) H.z,z,λj l h=>acw (H.a j l h) λo=>e _ o (by have:=acx h;lia),λc o Z z=>e _ _ (by lia) (H.low c o Z z)⟩
def ZN.sa(H:ZN h0 n ls f0 G k d g)(R:d<ls.length)(e:Heap.ExtBut (n+d) g g')(z:∀l,ls[d]?=some l->g'.IsTupleIter (n+d) l (k+1)):ZN h0 n ls f0 G k (d+1) g' :=
 ⟨e _ _ (by lia) H.z,e _ _ (by lia) H.o,λj l h=>by
  by_cases c:j=d
  .subst c;rw[dh (by lia)];exact z l h
  .have:=H.a j l h
   have i:(if j<d+1 then k+1 else k)=if j<d then k+1 else k:=by
    by_cases q:j<d
    .rw[dh q,dh (by lia)]
    .rw[cu q,cu (by lia)]
   rw[i];exact acw this λo=>e _ o (by lia),λc o Z z=>e _ _ (by lia) (H.low c o Z z)⟩
def ZN.up(H:ZN h0 n ls f0 G k d g)(e:∀c o,g.get? c=some o->g'.get? c=some o):ZN h0 n ls f0 G k d g' :=
 ⟨e _ _ H.z,e _ _ H.o,λj l h=>acw (H.a j l h) (e _),λc o Z z=>e _ _ (H.low c o Z z)⟩
def ZN.nx(H:ZN h0 n ls f0 Z k ls.length g):ZN h0 n ls f0 Z (k+1) 0 g :=
 ⟨H.z,H.o,λj l h=>by have:=H.a j l h;rw[dh (acx h)] at this;exact this,H.low⟩
def atr{T:Addr}{Q:Unit->Shared->Prop}(G:ov.length<=3)(hT:s.heap.get? T=some (tpN ov))(h:∀Z,Z.get? T=some (tpN (ov.set k x))->Heap.ExtBut T s.heap Z->Z.objs.size=s.heap.objs.size->Q () { s with heap:=Z }) :
 wpAny (model prog w) A (updateSeq T (·.setIfInBounds k x)) Q E s:=by
 have R:Heap.SameBut T s.heap (s.heap.update T (Obj.mapSeq (·.setIfInBounds k x))):=jz ..;refine wpAny_updateSeq hT rfl (h _ ?_ R.extBut R.1) (hz:=ig (by simpa using G) (show 3<=sizeLine by decide)) (_hz':=ig (by simpa using G) (show 3<=sizeLine+1 by decide));rw[mq _ hT rfl];simp[Obj.mapSeq,tpN]
noncomputable def Fq(n m:Nat):List Value:=(List.range m).map λj=>.ref (n+j)
def ahi(n m:Nat):(Fq n m).zipIdx=(List.range' 0 m).map λj=>(Value.ref (n+j),j):=by
 apply yw;intro i;rw[yx]
 by_cases h:i<m
 .simp[Fq,h]
 .simp[Fq,h]
def At(h:Heap)(Z:Y2)(k:Nat)(R:Zl):Prop:=R.length=Z.length/\∀(j:Nat) l,Z[j]?=some l->∃G x,h.IsTuple l G/\G[k]?=some x/\R[j]?=some x
def atu{n k:Nat}{Q:Y1}(q1:ls≠[])(h3:ls.length<=3)(H:ZN s.heap n ls .none Z k 0 s.heap)(ho:Z.length=ls.length)(hI:s.heap.get? (n+ls.length)=some (tpN (Fq n ls.length)))(hl:∀l∈ls,l<n)(ha:At s.heap ls k vs)
 (hq:∀h',ZN s.heap n ls (rawInt s.heap.objs.size) vs (k+1) 0 h'->h'.get? s.heap.objs.size=some (tpN vs)->Q (.ref s.heap.objs.size) { s with heap:=h' }) :
 wpAny (model prog w) A (Builtin.«zip.__next__» ⟨[.ref (n+ls.length+2)],[]⟩) (λfin s'=>∃v,fin=.done (.ret v)/\Q v s') E s:=by
 have hz:=H.z;have ne:(Fq n ls.length).toArray.isEmpty=false:=by cases ls with|nil=>exact absurd rfl q1|cons a l=>simp[Fq]
 show wpAny _ _ (field (.ref (n+ls.length+2)) 2 >>= _) _ _ _;refine aa (jh hz rfl (x:=.bool false) rfl (aa (jh hz rfl (x:=.ref (n+ls.length)) rfl (aa (ud hI rfl ?_)))));simp only[ne,dq,kj];unfold Builtin.SmallTypes.ownedTupleIsFree;refine aa (aa (jh hz rfl (x:=.none) rfl (ak ?_)));simp only[o5];refine aa (wpAny_rule (aa (jh hz rfl (x:=.ref (n+ls.length+1)) rfl (aa (jg hz (by simp) λg1 z1 s1=>?_)))));have H1:=H.sz s1.extBut (f1:=.ellipsis) z1;refine aa (vh _ (λR b s'=>b=(none,())/\∃d Z g,R=((List.range' d (ls.length-d)).map λj=>(Value.ref (n+j),j))/\d<=ls.length/\s'={ s with heap:=g }/\ZN s.heap n ls .ellipsis Z k d g/\Z.length=ls.length/\(∀i,i<d->Z[i]?=vs[i]?)/\g.objs.size=s.heap.objs.size) _ (λx R b s' hI=>?_) (λb s' hI=>?_) _ _ ⟨rfl,0,Z,g1,?_,jy _,rfl,H1,ho,λi hi=>absurd hi (tu _),s1.1⟩)
 .obtain⟨rfl,d,Z,g,e,G,rfl,H2,o2,v2,n2⟩:=hI
  have G:d<ls.length:=by
   rcases uy d ls.length with h|h
   .exact h
   .rw[Nat.sub_eq_zero_of_le h] at e;cases e
  obtain⟨c,hc⟩:∃c,ls.length-d=c+1:=⟨ls.length-d-1,by lia⟩;rw[hc,Ar,iz] at e;injection e with e1 e2
  subst e1 e2;obtain⟨l,el⟩:∃l,ls[d]?=some l:=⟨ls[d],by simp[G]⟩;obtain⟨xs,x,t1,t2,t3⟩:=ha.2 d l el;have i0:=H2.a d l el;rw[cu (jr _)] at i0;have ll:=hl l (au el);refine aa (wpAny_onRaise (aa (acu (s:={ s with heap:=g }) i0 (aov t1 λo=>H2.low _ o (by lia)) t2 λg2 i2 s2=>ak ?_)));have H3:=H2.sa G s2.extBut λl' h=>by rw[el] at h;cases h;exact i2
  refine aa (ud H3.o rfl (aa (atr (by rw[o2];exact h3) H3.o λg3 o3 s3 n3=>?_)));have H4:=H3.so s3 o3;refine aa (wpAny_letGo (ak ⟨rfl,d+1,Z.set d x,g3,by rw[show ls.length-(d+1)=c by lia],G,rfl,H4,by rw[List.length_set,o2],λi hi=>?_,by rw[n3,show g2.objs.size=g.objs.size from s2.1,n2]⟩))
  by_cases z:i=d
  .subst z
   rw[yg (by lia),t3]
  .rw[uc (j0 z)];exact v2 i (by lia)
 .obtain⟨rfl,d,Z,g,e,G,rfl,H2,o2,v2,n2⟩:=hI
  have G:d=ls.length:=by
   rcases uy d ls.length with h|h
   .obtain⟨c,hc⟩:∃c,ls.length-d=c+1:=⟨ls.length-d-1,by lia⟩
    rw[hc,Ar] at e;cases e
   .exact Nat.le_antisymm G h
  subst G;obtain rfl:Z=vs:=by
   apply yw;intro i;rcases uy i ls.length with h|h
   .exact v2 i h
   .rw[m7 (by lia),m7 (by rw[ha.1];exact h)]
  refine aa (ud H2.o rfl (aa (wpAny_newTuple ?_)));have H8:=H2.nx.up (g':=g.push (tpN Z)) λc o e=>ao _ e
  refine aa ?_;unfold Builtin.SmallTypes.ownedTupleHandOut;refine aa (jg H8.z (by simp) λg9 z9 s9=>?_);have H9:=H8.sz s9.extBut (f1:=rawInt g.objs.size) z9;refine jg H9.z (by simp) λq0 q2 qv=>?_
  have qk:=H9.sz qv.extBut (f1:=rawInt g.objs.size) q2;have zl:n+ls.length+2<g.objs.size:=bc H2.z
  have qq:q0.get? g.objs.size=some (tpN Z):=qv.extBut _ _ (yc zl) (s9.extBut _ _ (yc zl) (bh _ rfl));refine ak ⟨_,rfl,?_⟩;show Q (.ref g.objs.size) _;rw[n2] at qk qq ⊢;exact hq q0 qk qq
 .show(Fq n ls.length).zipIdx=_
  rw[ahi];rfl
def a0i{n k:Nat}{Z:Y2}(hd:A.handled=none)(h0:Z[0]?=some l)(H:ZN s.heap n Z .none ov k 0 s.heap)(hI:s.heap.get? (n+Z.length)=some (tpN (Fq n Z.length)))(hl:l<n)(c1:s.heap.IsTuple l xs)(e1:xs[k]?=none)
 (hE:∀h' e,(∀c o,(c<n\/n+Z.length+2<c)->s.heap.get? c=some o->h'.get? c=some o)->(∃o,h'.get? e=some o/\o.cls=.type "StopIteration")->E (.ref e) { s with heap:=h' }) :
 wpAny (model prog w) A (Builtin.«zip.__next__» ⟨[.ref (n+Z.length+2)],[]⟩) Q E s:=by
 have G:=H.z;obtain⟨c,hc⟩:∃c,Z.length=c+1:=⟨Z.length-1,by have:=acx h0;lia⟩;have ne:(Fq n Z.length).toArray.isEmpty=false:=by rw[hc];simp[Fq]
 show wpAny _ _ (field (.ref (n+Z.length+2)) 2 >>= _) _ _ _;refine aa (jh G rfl (x:=.bool false) rfl (aa (jh G rfl (x:=.ref (n+Z.length)) rfl (aa (ud hI rfl ?_)))));simp only[ne,dq,kj];unfold Builtin.SmallTypes.ownedTupleIsFree;refine aa (aa (jh G rfl (x:=.none) rfl (ak ?_)));simp only[o5];refine aa (wpAny_rule (aa (jh G rfl (x:=.ref (n+Z.length+1)) rfl (aa (jg G (by simp) λg1 z1 s1=>?_)))));have H1:=H.sz s1.extBut (f1:=.ellipsis) z1;have i1:g1.IsTupleIter n l k:=H1.a 0 l h0;have er:(Fq n Z.length).zipIdx=(Value.ref n,0)::(List.range' 1 c).map λj=>(Value.ref (n+j),j):=by rw[ahi,hc];rfl
 rw[er,List.forIn_cons];refine aa (aa (aa (wpAny_onRaise (aa (ahg (s:={ s with heap:=g1 }) hd i1 (aov c1 λo=>H1.low _ o (by lia)) e1 λg2 x s2 z_=>?_)))));obtain⟨o,R,o2⟩:=z_;have z2:IsZip g2 (n+Z.length+2) (n+Z.length) (n+Z.length+1) .ellipsis:=s2 _ _ (by lia) H1.z;have ne:x≠n+Z.length+2:=λy=>by subst y;rw[z2] at R;cases R;simp at o2
 exact jg z2 (by simp) λg3 _ s3=>hE g3 x (λc o y1 e=>s3.extBut _ _ (by lia) (s2 _ _ (by lia) (s1.extBut _ _ (by lia) e))) ⟨o,s3.extBut _ _ ne R,o2⟩
noncomputable def zI(a:Addr):Obj:={ cls:=.type "tuple_iterator",data:=.fields #[.ref a,.int 0 0] }
def pI(h:Heap)(Z:Y2):Heap:=Z.foldl (λh l=>h.push (zI l)) h
theorem aai:∀(Z:Y2)(h:Heap),(pI h Z).objs.size=h.objs.size+Z.length
 |[],h=>rfl
 |l::Z,h=>by
  have:=aai Z (h.push (zI l));rw[jk] at this;rw[jw,<- Nat.add_assoc,Nat.add_right_comm];exact this
theorem ahj:∀{ls:Y2}{h:Heap},h.get? c=some o->(pI h ls).get? c=some o
 |[],_,e=>e|x::ls,h,e=>ahj (ls:=ls) (h:=h.push (zI x)) (ao _ e)
theorem aow:∀{ls:Y2}{h:Heap}{j:Nat},ls[j]?=some l->(pI h ls).get? (h.objs.size+j)=some (zI l)
 |x::ls,h,0,e=>by cases e;exact ahj (ls:=ls) (h:=h.push (zI l)) (bh _ rfl)
 |x::ls,h,j+1,e=>by
  have:=aow (h:=h.push (zI x)) (ls:=ls) (j:=j) e;rw[jk] at this;rw[<- Nat.add_assoc,Nat.add_right_comm];exact this
def atv{Q:List Value->Shared->Prop}(ht:∀l∈ls,∃xs,s.heap.IsTuple l xs)(q:Q (Fq s.heap.objs.size ls.length) { s with heap:=pI s.heap ls }):wpAny (model prog w) A (Builtin.SmallTypes.iterAll (ls.map .ref)) Q E s:=by
 unfold Builtin.SmallTypes.iterAll;refine aa (vh _ (λG yj R=>∃d,d<=ls.length/\G=(ls.drop d).map .ref/\yj=(Fq s.heap.objs.size d).toArray/\R={ s with heap:=pI s.heap (ls.take d) }) _ (λx G b R hI=>?_) (λb R hI=>?_) _ _ ⟨0,jy _,rfl,rfl,rfl⟩)
 .obtain⟨d,Z,e,rfl,rfl⟩:=hI
  have Z:d<ls.length:=by
   rcases uy d ls.length with h|h
   .exact h
   .rw[List.drop_of_length_le h] at e;cases e
  rw[List.drop_eq_getElem_cons Z,iz] at e;injection e with e1 e2
  subst e1 e2;obtain⟨xs,hx⟩:=ht ls[d] (ux Z);refine aa (m9 (wy (aov hx λo e=>ahj e) (ak ⟨d+1,Z,rfl,?_,?_⟩)))
  .rw[aai,List.length_take,Nat.min_eq_left (yu Z)]
   simp[Fq,xg]
  .have:pI s.heap (ls.take (d+1))=(pI s.heap (ls.take d)).push (zI ls[d]):=by
    rw[List.take_succ,bu Z,pI,List.foldl_append];rfl
   rw[this];rfl
 .obtain⟨d,Z,e,rfl,rfl⟩:=hI
  have Z:d=ls.length:=by
   rcases uy d ls.length with h|h
   .rw[List.drop_eq_getElem_cons h] at e;cases e
   .exact Nat.le_antisymm Z h
  subst Z;rw[List.take_length];exact ak (by simpa using q)
def zB(h:Heap)(Z:Y2):Heap:=(pI h Z).push (tpN (Fq h.objs.size Z.length))
def zC(h:Heap)(Z:Y2):Heap:=(zB h Z).push (tpN ((Fq h.objs.size Z.length).map λ_=>.none))
def zD(h:Heap)(Z:Y2):Heap:=(zC h Z).push { cls:=.type "zip",data:=.fields #[.none,.bool false,.bool false,.ref (pI h Z).objs.size,.ref (zB h Z).objs.size] }
def aox(h3:ls.length<=3) :
 Meets (Builtin.«zip.__new__» ⟨.type "zip"::ls.map .ref,[]⟩) (λ_ R s=>(∀l∈ls,∃xs,s.heap.IsTuple l xs)/\R (.ok (.ret (.ref (zC s.heap ls).objs.size))) { s with heap:=zD s.heap ls }) :=
 .of_wp λprog w A R s h=>by
  obtain⟨Z,g,d,tk,G⟩:=s;obtain⟨ht,h⟩:=h;have qq:=sub_zip;have f1:∀{Q:List Value->Shared->Prop}{A E},Q (Fq Z.objs.size ls.length) ⟨pI Z ls,g,d,tk,G⟩->wpAny (model prog w) A (Builtin.SmallTypes.iterAll (ls.map .ref)) Q E ⟨Z,g,d,tk,G⟩:=λq=>atv ht q
  have sz:∀(xs:Zl),xs.length<=3->xs.toArray.size<=sizeLine:=λxs h=>ig (by simpa using h) (show 3<=sizeLine by decide)
  have f2:∀{Q:Y1}{A E}{h:Heap},Q (.ref h.objs.size) ⟨h.push (tpN (Fq Z.objs.size ls.length)),g,d,tk,G⟩->wpAny (model prog w) A (newTuple (Fq Z.objs.size ls.length)) Q E ⟨h,g,d,tk,G⟩:=λq=>wpAny_newTuple q (sz _ (by simpa[Fq] using h3))
  have f3:∀{Q:Y1}{A E}{h:Heap},Q (.ref h.objs.size) ⟨h.push (tpN ((Fq Z.objs.size ls.length).map λ_=>.none)),g,d,tk,G⟩->wpAny (model prog w) A (newTuple ((Fq Z.objs.size ls.length).map λ_=>.none)) Q E ⟨h,g,d,tk,G⟩:=λq=>wpAny_newTuple q (sz _ (by simpa[Fq] using h3))
  wp_walk using f1,f2,f3
  exact⟨_,rfl,h⟩
def atw{n:Nat}(h3:ls.length<=3)(G:s.heap.objs.size=n)(ct:checkTypeCall "zip" ⟨ls.map .ref,[]⟩=pure ())(cb:checkBuiltinCall "zip.__new__" ⟨.type "zip"::ls.map .ref,[]⟩=pure ())(ca:∀obj,argsOk "object.__init__" ⟨obj::ls.map .ref,[]⟩)(ht:∀l∈ls,∃xs,s.heap.IsTuple l xs)
 (h:∀Z,ZN Z n ls .none ((Fq n ls.length).map λ_=>.none) 0 0 Z->Z.get? (n+ls.length)=some (tpN (Fq n ls.length))->(∀c o,s.heap.get? c=some o->Z.get? c=some o)->Q (.ref (n+ls.length+2)) { s with heap:=Z }):wpAny (model prog w) A (call (.type "zip") (ls.map .ref)) Q E s:=by
 refine callType_new F.called_zip (by decide) ct cb ca F.entry_zip_new (aox h3) ⟨ht,?_⟩;have z3:(pI s.heap ls).objs.size=n+ls.length:=by rw[aai,G]
 have z4:(zB s.heap ls).objs.size=n+ls.length+1:=by unfold zB;rw[jk,z3]
 have z5:(zC s.heap ls).objs.size=n+ls.length+2:=by unfold zC;rw[jk,z4]
 have up:∀{h:Heap}{o':Obj}{c:Addr}{o:Obj},h.get? c=some o->(h.push o').get? c=some o:=λe=>ao _ e
 have R:(zD s.heap ls).get? (zC s.heap ls).objs.size=some _:=bh _ rfl;have g5:(zD s.heap ls).get? (zB s.heap ls).objs.size=some _:=up (bh _ rfl);have g4:(zD s.heap ls).get? (pI s.heap ls).objs.size=some _:=up (up (bh _ rfl));rw[z3,z4,z5] at R;rw[z4,G] at g5;rw[z3,G] at g4;show _/\_;rw[z5];exact⟨⟨_,R,rfl⟩,h _ ⟨R,g5,λj l e=>⟨_,up (up (up (by rw[<- G];exact aow e))),rfl,rfl⟩,λ_ _ _ e=>e⟩ g4 λc o e=>up (up (up (ahj e)))⟩
def Wf(a b c:Value):checkTypeCall "zip" ⟨[a,b,c],[]⟩=pure ():=by kernel_rfl
def Xe(a b c:Value):checkBuiltinCall "zip.__new__" ⟨[.type "zip",a,b,c],[]⟩=pure ():=by kernel_rfl
def acy(a b c d:Value):argsOk "object.__init__" ⟨[a,b,c,d],[]⟩:=by unfold argsOk;rw[signature?_of (id := "object.__init__") (n := "__tini__".toList) (o := "tcejbo".toList) (by kernel_rfl) F.owner_object];kernel_rfl
theorem ajq:∀Z:List Value,Z.length=2\/Z.length=3->checkTypeCall "zip" ⟨Z,[]⟩=pure ()/\checkBuiltinCall "zip.__new__" ⟨.type "zip"::Z,[]⟩=pure ()/\∀obj,argsOk "object.__init__" ⟨obj::Z,[]⟩
 |[a,b],_=>⟨F.typeCall_zip_2 _ _,F.newCall_zip_2 _ _,λobj=>F.args_object_init_3 obj _ _⟩
 |[a,b,c],_=>⟨Wf _ _ _,Xe _ _ _,λobj=>acy obj _ _ _⟩
 |[],h=>by simp at h|[_],h=>by simp at h|_::_::_::_::_,h=>by simp at h
end EnT
namespace L2
open PySem PySem.Spec EnT
def IzN(K:Fg)(R:X0):It :=
 ⟨λi H=>∃G:List V,G.length=R.length/\∀(j:Nat) a,R[j]?=some a->∃Z x,Iu K H a Z/\Z[i]?=some x/\G[j]?=some x,
  λi H v H'=>∃p G,v=.ref p/\H p=none/\H'=upd H p (.tup G)/\G.length=R.length/\∀(j:Nat) a Z,R[j]?=some a->Iu K H a Z->G[j]?=Z[i]?,
  λi H=>∃a Z,R[0]?=some a/\Iu K H a Z/\Z.length<=i⟩
def TN(n:Nat)(Z:X0)(i:Nat)(h:Heap):Prop:=(∃G,ZN h n Z .none G i 0 h/\G.length=Z.length)/\h.get? (n+Z.length)=some (tpN (Fq n Z.length))
noncomputable def FN(n m:Nat):List Addr:=List.range' n (m+3)
def FN.mem{n m c:Nat}:c∈FN n m↔n<=c/\c<n+m+3:=List.mem_range'_1
theorem at_of(I:Inv X pins σ H s):∀{as:X0}{vs:List V},vs.length=as.length->(∀(j:Nat) a,as[j]?=some a->∃G x,Iu X.K H a G/\G[i]?=some x/\vs[j]?=some x)->∃Z,Vals vs Z/\At s.heap as i Z
 |[],[],_,_=>⟨[],.nil,rfl,λj l h=>by simp at h⟩
 |a::as,v::vs,l,h=>by
  obtain⟨Z,r,e,q⟩:=at_of I (as:=as) (vs:=vs) (by simpa using l) (λj a e=>h (j+1) a e);obtain⟨G,x,q1,x1,hv⟩:=h 0 a rfl;cases hv;obtain⟨i1,r1,p1,_⟩:=I.tuple q1;obtain⟨R,u1,w1⟩:=r1.get x1;refine⟨R::Z,.cons w1 r,by simp[e],λj l hj=>?_⟩;cases j with
  |zero=>cases hj;exact⟨i1.toArray,R,p1,by simpa using u1,rfl⟩|succ j=>exact q j l hj
theorem atx{n:Nat}(h3:G.length<=3)(qk:G≠[])(hl:∀a∈G,a<n):Turn P w K (.Tuple ts k0 pt) (IzN K G) (FN n G.length) (n+G.length+2) (TN n G) where
 mem:=FN.mem.mpr (by lia)
 obj:=λi h st e R=>by
  obtain⟨⟨ov,H,_⟩,hI⟩:=st;obtain⟨c1,c2⟩:=FN.mem.mp R
  by_cases z:e<n+G.length
  .have q:e-n<G.length:=by lia
   obtain⟨o,e1,d1,f1⟩:=H.a (e-n) G[e-n] (by simp[q]);rw[show n+(e-n)=e by lia] at e1;exact⟨_,e1,λv z=>by rw[f1] at z;cases z⟩
  .rcases(show e=n+G.length\/e=n+G.length+1\/e=n+G.length+2 by lia) with rfl|rfl|rfl
   .exact⟨_,hI,λv z=>by cases z⟩
   .exact⟨_,H.o,λv z=>by cases z⟩
   .exact⟨_,H.z,λv z=>by cases z⟩
 keep:=λi h h' st k=>by
  obtain⟨⟨ov,H,l⟩,hI⟩:=st;have kk:∀d o,n<=d->d<n+G.length+3->h.get? d=some o->h'.get? d=some o:=λd o h1 h2=>k d (FN.mem.mpr ⟨h1,h2⟩) o
  exact⟨⟨ov,⟨kk _ _ (by lia) (by lia) H.z,kk _ _ (by lia) (by lia) H.o,λj l h=>acw (H.a j l h) λo=>kk _ o (by lia) (by have:=acx h;lia),λ_ _ _ e=>e⟩,l⟩,kk _ _ (by lia) (by lia) hI⟩
 item:=by
  intro X hP hw hK R i qq s σ H E I hf st hg;subst hP hw hK;obtain⟨⟨ov,Z,lo⟩,hI⟩:=st;have lt:n+G.length+2<s.heap.objs.size:=bc Z.z
  obtain⟨vs,lv,hg⟩:=hg;obtain⟨us,r,ha⟩:=at_of I lv hg;have ty:s.TypeIs (.ref (n+G.length+2)) "zip" := ⟨_,Z.z,rfl⟩;unfold pyNext;refine aa (wpAny_attempt (kh (name:=Str.ofString "__next__") ty F.slot_zip_next (j7 F.slot_zip_next ty F.entry_zip_next ?_ (F.args_zip_next_1 _))));refine atu qk h3 Z lo hI hl ha λh1 Z1 t1=>ak ⟨_,rfl,?_⟩
  refine wpAny_letOwnedTupleGo_zip Z1.z λh2 z2 s2=>?_
  have s2:Heap.SameBut (n+G.length+2) h1 h2:=s2;have Z2:=Z1.sz s2.extBut (f1:=.none) z2;have t2:h2.get? s.heap.objs.size=some (tpN us):=s2.extBut _ _ (yc lt) t1;refine⟨.ref s.heap.objs.size,upd H s.heap.objs.size (.tup vs),I.Yo (t':=s.toks) hf (λc o R zz=>Z2.low c o (by rw[FN.mem] at R;lia) zz) (bf _) ⟨by rw[lv];exact ig h3 (show 3<=sizeLine by decide),us,r,⟨_,t2,rfl,_,rfl,rfl⟩⟩,rfl,
   ⟨_,vs,rfl,I.zb.fresh (bf _),rfl,lv,λj a ys ja hy=>?_⟩,⟨⟨us,⟨Z2.z,Z2.o,Z2.a,λ_ _ _ e=>e⟩,ha.1⟩,Z2.low _ _ (by lia) hI⟩,λc R=>?_⟩
  .obtain⟨xs,x,q1,q2,q3⟩:=hg j a ja
   rw[I.Sx hy q1,q2,q3]
  .rw[FN.mem] at R
   rw[jb (by lia)];exact(hf c (FN.mem.mpr R)).1
 done:=by
  intro X hP hw hK R i qq s σ H E I hf st hg;subst hP hw hK;obtain⟨⟨ov,Z,lo⟩,hI⟩:=st;obtain⟨a,xs,a0,q1,x1⟩:=hg;obtain⟨i1,r1,p1,_⟩:=I.tuple q1;have qv:=r1.length;have ty:s.TypeIs (.ref (n+G.length+2)) "zip" := ⟨_,Z.z,rfl⟩;unfold pyNext;refine aa (wpAny_attempt (kh (name:=Str.ofString "__next__") ty F.slot_zip_next (j7 F.slot_zip_next ty F.entry_zip_next ?_ (F.args_zip_next_1 _))));refine a0i (I.ok.hd R) a0 Z hI (hl a (au a0)) (xs:=i1.toArray) p1 (by simp;lia) λh' e k z_=>?_
  obtain⟨o,o1,o2⟩:=z_;exact aa (vm (T := "StopIteration") (b:=true) ⟨o,o1,o2⟩ isSubtype_stop (ak ⟨rfl,I.ahh (t':=s.toks) hf λc o R zz=>k c o (by rw[FN.mem] at R;lia) zz⟩))
 self:=λ_ _ _ _ _ st h=>by obtain⟨⟨ov,Z,_⟩,_⟩:=st;exact wpAny_pyIter_zip Z.z h
theorem Yp:∀{Z:X0}{G:Zl},Vals (Z.map V.ref) G->G=Z.map Value.ref
 |[],_,h=>by cases h;rfl|_::_,_,h=>by cases h with|cons r t=>cases r;rw[Yp t];rfl
def a7x(hg:Gl X "zip")(hm:X.mg "zip" = none)(ha:PA X (a::es) ta)(hs:starEach (a::es) X.env=(false,eval a X.env)::starEach es X.env)(Lh:(backTo pos (starEach es X.env)).any (·.1)=false) :
 PI X (.Tuple ts k0 pt) (.Call (.Name "zip" p) (a::es) [] pos) (fun σ H R=>ta σ H λvs H1=>∃G:List Addr,vs=G.map V.ref/\(G.length=2\/G.length=3)/\(∀q∈G,∃xs,Iu X.K H1 q xs)/\R (IzN X.K G) H1):=by
 intro qk s σ H R I h;refine PyProof.Rows.Call_ (By I hg hm (show bootBuiltins "zip" = some (.type "zip") by decide+kernel) (jt (Cv (ha pos qk s σ H _ I h) λus s1 z=>?_) hs Lh));obtain⟨vs,H1,I1,r1,G,rfl,l,ht,hR⟩:=z;cases Yp r1;obtain⟨c1,c2,c3⟩:=ajq (G.map Value.ref) (by simpa using l);have h3:G.length<=3:=by lia
 have tp:∀q∈G,∃xs,s1.heap.IsTuple q xs:=λq hq=>by obtain⟨xs,hx⟩:=ht q hq;obtain⟨i1,_,p1,_⟩:=I1.tuple hx;exact⟨_,p1⟩
 refine atw h3 rfl c1 c2 c3 tp λh' Z hI kk=>wpAny_pyIter_zip Z.z ?_
 refine⟨s1.heap.objs.size+G.length+2,_,_,_,H1,rfl,I1.kept (t':=s1.toks) kk,atx h3 (λz=>by subst z;simp at l) λq hq=>by obtain⟨xs,o,e,_⟩:=tp q hq;exact bc e,⟨⟨_,Z,by simp[Fq]⟩,hI⟩,λc hc=>?_,hR⟩;have qq:=(FN.mem.mp hc).1;exact I1.ams qq (I1.zb.fresh qq)
end L2
namespace Sm
open PySem L2
open MW (Ex Dn OEx Mq Cu rm Lv Tg Res dg MO Gf Cp Op2 Blt Bm Kx Src)
def ajr{i:Nat}(h:(MW.Hs ds 0)[i]?=some d):∃z,ds[i]?=some z/\d=.tup [.int (i:Nat),z]:=by
 unfold MW.Hs at h;rw[je,yx] at h;cases e:ds[i]? with
 |none=>rw[e] at h;simp at h|some z=>rw[e] at h;simp at h;exact⟨z,rfl,h.symm⟩
def ahk{X:Cx}(r:mj X.K ι H ds R)(hk:∀Z G,LeX ι H Z G->SqX bb X.K G q R):aoi nm X.K ι H (.con (MW.Hs ds 0)) (Ien bb X.K q):=λZ G M1 le S1=>by
 refine⟨λi d hi hd=>?_,λ_=>⟨R,hk Z G le,?_⟩⟩
 .obtain⟨z,e1,rfl⟩:=ajr (show(MW.Hs ds 0)[i]?=some d from hd)
  obtain⟨v,g1,g2⟩:=(r.Mf le).get e1;refine⟨⟨R,v,hk Z G le,g1⟩,λu H2 ⟨p,x,e2,e3,e4,e5⟩=>?_⟩;have ex:x=v:=by have:=e5 R (hk Z G le);rw[g1] at this;cases this;rfl
  subst ex e2 e4;obtain⟨S2,Ao,r2⟩:=Oj (X:=X) S1 e3 (.cons (.int _) (.cons g2 .nil));exact⟨Ao,S2,r2⟩
 .show R.length<=(MW.Hs ds 0).length
  rw[<- r.length];simp[MW.Hs]
def a7y(hg:Gl X "enumerate")(hm:X.mg "enumerate" = none)(ha:PE X a (tE nm W X.K a'))(Rz:noStar a=true):PI X (.Tuple ts k0 pt) (.Call (.Name "enumerate" pr) [a] [] pos) (tI nm W X.K (.enm a')):=by
 intro qq s0 σ H R' I hh;obtain⟨ι,ρ,M,s,M',S,R,e,q⟩:=hh;rw[MW.agj] at e;obtain⟨x,M1,e1,e⟩:=gn e;refine PI.weak (a7w (ts:=ts) (k0:=k0) (pt:=pt) (p:=pr) (pos:=pos) hg hm (Qg ha V5 (j6 Rz _ _)) (j6 Rz _ _)) (wi':=λZ H0 R0=>Z=σ/\H0=H/\R0=R') (λZ H0 R0 ⟨z1,z2,z3⟩=>?_) qq s0 σ H R' I ⟨rfl,rfl,rfl⟩;subst z1 z2 z3;refine aab (es':=.cons a' .nil) (ds:=[x]) (M1:=M1) S R (by rw[MW.Bl,e1];simp) λG H1 vs le S1 R1 r=>?_
 cases r with
 |cons r1 r2 =>
  cases r2;cases r1 with
  |@tup p ds us h1 rr =>
   cases e;exact⟨true,p,rfl,⟨us,Iu.of h1⟩,q G H1 _ le S1 (ahk rr λqk H2 Ao=>Iu.of (Ao.tup _ _ h1))⟩
  |@vl p ds us h1 n1 rr =>
   cases e;exact⟨false,p,rfl,⟨us,Hm.of h1⟩,q G H1 _ le S1 (ahk rr λqk H2 Ao=>Hm.of (Ao.lst _ _ n1.1 h1))⟩
  |_=>cases e
def awu(h:PE X a t):PE X (.BoolOp op [a] pos) t:=λZ s G H Q I q=>PyProof.Rows.BoolOp_one (h Z s G H Q I q)
theorem acz{K:Fg}{ι:Io}{H:Hp}:∀{ds:List Dv}{vs:List V}{Z:List (List Dv)},MW.Py ds=some Z->mj K ι H ds vs->∃G:List Addr,vs=G.map V.ref/\G.length=Z.length/\∀(j:Nat) l,Z[j]?=some l->∃a R,G[j]?=some a/\H a=some (.tup R)/\mj K ι H l R
 |[],_,_,e,r=>by cases e;cases r;exact⟨[],rfl,rfl,λj l h=>by simp at h⟩
 |d::ds,_,_,e,r=>by
  cases r with
  |cons r1 r2 =>
   cases d with
   |tup l =>
    obtain⟨Z,e1,rfl⟩:=bw.mp (show(MW.Py ds).map (l::·)=_ from e);obtain⟨G,rfl,h1,h2⟩:=acz e1 r2;cases r1 with
    |@tup p _ R hp ru =>
     refine⟨p::G,rfl,by simp[h1],λj l h=>?_⟩;cases j with
     |zero=>cases h;exact⟨p,R,rfl,hp,ru⟩|succ j=>exact h2 j l h
   |_=>cases e
theorem ac0{K:Fg}{ι:Io}{H:Hp}:∀{dss:List (List Dv)}{as:X0},as.length=dss.length->(∀(j:Nat) l,dss[j]?=some l->i<l.length/\∃a G,as[j]?=some a/\Iu K H a G/\mj K ι H l G)->∃Z:List V,Z.length=as.length/\mj K ι H (dss.map λl=>l.getD i .non) Z/\∀(j:Nat) a,as[j]?=some a->∃xs x,Iu K H a xs/\xs[i]?=some x/\Z[j]?=some x
 |[],as,l,_=>by cases as with
  |nil=>exact⟨[],rfl,.nil,λj a h=>by simp at h⟩
  |cons _ _=>cases l
 |l::dss,as,hl,h=>by cases as with
  |nil=>cases hl
  |cons a as =>
   obtain⟨Z,g1,g2,g3⟩:=ac0 (i:=i) (dss:=dss) (as:=as) (by simpa using hl) (λj l e=>h (j+1) l e);obtain⟨lt,_,G,e1,q,r⟩:=h 0 l rfl;cases e1;obtain⟨v,x1,x2⟩:=r.get (bu lt);refine⟨v::Z,by simp[g1],.cons (by show Rep K ι H (l.getD i .non) v;rw[aq,bu lt];exact x2) g2,λj b R=>?_⟩;cases j with
   |zero=>cases R;exact⟨G,v,q,x1,rfl⟩|succ j=>exact g3 j b R
def aty{X:Cx}{n:Nat}{l:List Dv}{r:List (List Dv)}(hn:∀(j:Nat) k,(l::r)[j]?=some k->k.length=n)(hl:G.length=(l::r).length)(h:∀(j:Nat) k,(l::r)[j]?=some k->∃a Z,G[j]?=some a/\H a=some (.tup Z)/\mj X.K ι H k Z) :
 aoi nm X.K ι H (.con (MW.Ms (l::r) n)) (IzN X.K G):=λqk H1 M1 le S1=>by
 refine⟨λi d hi R=>?_,λ_=>?_⟩
 .have R:(MW.Ms (l::r) n)[i]?=some d:=R
  have hi:i<n:=by simpa[MW.Ms] using(aj.mp R).1
  have ed:d=.tup ((l::r).map λl=>l.getD i .non):=by rw[MW.Ms,je,qx hi] at R;cases R;rfl
  subst ed;obtain⟨vs,g1,g2,g3⟩:=ac0 (i:=i) (K:=X.K) (ι:=qk) (H:=H1) hl λj k e=>by obtain⟨a,Z,a1,a2,a3⟩:=h j k e;exact⟨by rw[hn j k e];exact hi,a,Z,a1,Iu.of (le.tup _ _ a2),a3.Mf le⟩
  refine⟨⟨vs,g1,g3⟩,λu' H2 z=>?_⟩;obtain⟨p,qq,e5,e6,e7,e8,e9⟩:=z;have:qq=vs:=by
   apply yw;intro j;rcases uy j G.length with q|q
   .obtain⟨xs,x,x1,x2,x3⟩:=g3 j G[j] (by simp[q])
    rw[e9 j G[j] xs (by simp[q]) x1,x2,x3]
   .rw[m7 (by rw[e8];exact q),m7 (by rw[g1];exact q)]
  subst this e5 e7;obtain⟨S2,Ao,r2⟩:=Oj (X:=X) S1 e6 g2;exact⟨Ao,S2,r2⟩
 .obtain⟨a,Z,a1,a2,a3⟩:=h 0 l rfl
  refine⟨a,Z,a1,Iu.of (le.tup _ _ a2),?_⟩;show Z.length<=(MW.Ms (l::r) n).length
  have:=a3.length;have:=hn 0 l rfl;simp[MW.Ms]
  lia
def a7z(hg:Gl X "zip")(hm:X.mg "zip" = none)(ha:PA X (a::es) (W0 nm W X.K Z))(hs:starEach (a::es) X.env=(false,eval a X.env)::starEach es X.env)(Lh:(backTo pos (starEach es X.env)).any (·.1)=false)(h2:Dn.len Z=2\/Dn.len Z=3) :
 PI X (.Tuple ts k0 pt) (.Call (.Name "zip" pr) (a::es) [] pos) (tI nm W X.K (.zip Z)):=by
 intro qq s0 σ H R' I hh;obtain⟨ι,ρ,M,s,M',S,R,e,q⟩:=hh;rw[MW.ari] at e;obtain⟨ds,N1,e1,e⟩:=gn e;have hd:=Kh e1;cases et:MW.Py ds with
 |none=>rw[et] at e;cases e
 |some qk=>cases qk with
  |nil=>rw[et] at e;cases e
  |cons l r =>
   rw[et] at e
   by_cases hc:(r.all λx=>x.length==l.length)=true
   .have e:(if(r.all λx=>x.length==l.length)=true then Res.ok (Src.con (MW.Ms (l::r) l.length)) N1 else .bad)=.ok s M':=e
    rw[dh hc] at e;cases e;refine PI.weak (a7x (ts:=ts) (k0:=k0) (pt:=pt) (p:=pr) (pos:=pos) hg hm ha hs Lh) (wi':=λG H0 R0=>G=σ/\H0=H/\R0=R') (λG H0 R0 z=>?_) qq s0 σ H R' I ⟨rfl,rfl,rfl⟩;obtain⟨rfl,rfl,rfl⟩:=z;refine aab S R e1 λqv H1 vs le S1 R1 rr=>?_
    obtain⟨as,rfl,g1,g2⟩:=acz et rr;have gl:=rr.length;rw[gf] at gl;refine⟨as,rfl,by rw[<- gl,hd];exact h2,λa ha=>?_,q qv H1 _ le S1 (aty (λj k hk=>?_) g1 g2)⟩
    .obtain⟨j,hj⟩:=List.getElem?_of_mem ha
     have lt:=(aj.mp hj).1;rw[g1] at lt;obtain⟨a',us,x1,x2,_⟩:=g2 j _ (bu lt);rw[hj] at x1;cases x1;exact⟨us,Iu.of x2⟩
    .cases j with
     |zero=>cases hk;rfl|succ j=>simpa using v5.mp hc k (au hk)
   .have e:(if(r.all λx=>x.length==l.length)=true then Res.ok (Src.con (MW.Ms (l::r) l.length)) N1 else .bad)=.ok s M':=e
    rw[cu hc] at e;cases e
theorem ac8:∀{Z:List Dv}{b:Bool},MW.allB Z=some b->∃bs:List Bool,Z=bs.map MW.D.bl/\b=bs.all id
 |[],b,e=>by cases e;exact⟨[],rfl,rfl⟩
 |.bl k::r,b,e=>by
  obtain⟨c,G,rfl⟩:=bw.mp (show(MW.allB r).map (k&&·)=some b from e);obtain⟨bs,rfl,rfl⟩:=ac8 G;exact⟨k::bs,rfl,by simp⟩
theorem Yq{ι:Io}{H:Hp}{K:Fg}:∀{bs:List Bool}{Z:List V}{is:Zl},mj K ι H (bs.map MW.D.bl) Z->Vals Z is->is=bs.map Value.bool
 |[],_,_,r,h=>by cases r;cases h;rfl
 |k::bs,_,_,r,h=>by
  cases r with
  |cons R r2 =>
   cases h with
   |cons G h2 =>
    cases R;cases G;rw[Yq r2 h2];rfl
def a70(hc:X.calm=true):Bv X (.builtin "all") (rB nm X.K .all):=λqk s σ H vs us Q I Uv hh=>by
 obtain⟨ι,M,ds,d,M',S,r,e,q⟩:=hh;obtain⟨x,rfl,e⟩:∃x,ds=[x]/\Res.vo (((MW.gm M x).bind MW.allB).map MW.D.bl) M=.ok d M':=by
  cases ds with
  |nil=>cases e
  |cons x l=>cases l with
   |nil=>exact⟨x,rfl,e⟩|cons _ _=>cases e
 obtain⟨e1,rfl⟩:=An e;obtain⟨b,e2,rfl⟩:=bw.mp e1;obtain⟨xs,e3,e4⟩:=fc.mp e2;obtain⟨bs,rfl,rfl⟩:=ac8 e4;obtain⟨v,rfl,rv⟩:=Ld r rfl;obtain⟨u,rfl,ru⟩:=Qh Uv;obtain⟨p,ws,rfl,hp,rl⟩:=wk S rv e3;cases ru;obtain⟨is,qq,pl,_⟩:=I.list (Hm.of hp);have Z:=Yq rl qq;have Jd:p<s.heap.objs.size:=by obtain⟨_,e,_⟩:=pl.isList;exact bc e
 refine call_all_walk (wpAny_pyIter_list pl.isList ?_);refine⟨_,_,_,_,_,_,λi=>bs.getD i true,rfl,Walks.list (A:=X.A.in1) (I.ok.hd hc) s.heap.objs.size p (gh Jd) is.toArray,⟨⟨_,bh _ rfl,rfl,rfl⟩,pl.isList.push _⟩,λi v s Q E hP R=>?_,λh' tk G=>?_⟩
 .have hv:is[i]?=some v:=by simpa using hP
  rw[Z,je] at hv;obtain⟨k,G,rfl⟩:=bw.mp hv;refine u0 ?_;have R:Q (bs.getD i true) s:=R;rw[aq,G] at R;exact R
 .have ha:(List.range is.toArray.size).all (λi=>bs.getD i true)=bs.all id:=by
   rw[Z];simp only[ie,gf];rw[Bc,v5,v5];constructor
   .intro h k G
    obtain⟨i,hi,rfl⟩:=qy G;have:=h i (gw.mpr hi);simpa[aq,hi] using this
   .intro h i hi
    have W3:=gw.mp hi;have:=h bs[i] (ux W3);simpa[aq,W3] using this
  rw[ha];exact⟨.bl _,H,I.kept (t':=tk) (old_kept G),rfl,q ι H _ (Le.refl _ _) S (.bl _)⟩
end Sm
namespace Sm
open PySem L2
open MW (Ex Dn OEx Mq Cu rm Lv Tg Res dg MO Gf Cp Op2 Blt Bm Kx Src)
set_option tactic.hygienic true in
def atz(e:MW.Ep .pop x ds M=.ok d C):∃n i Z j,x=.ref n/\ds=[.int i]/\M[n]?=some (.lst Z)/\MW.Mi Z.length i=some j/\Z[j]?=some d/\C=M.set n (.lst (Z.eraseIdx j)):=by
 unfold MW.Ep at e;split at e
 .rename_i h;cases h
 .rename_i n i
  split at e
  .rename_i Z S
   split at e
   .rename_i j d0 L
    cases e;obtain⟨y,Y,J⟩:=fc.mp L;obtain⟨u,R,G⟩:=bw.mp J;cases G;exact⟨_,_,_,_,rfl,rfl,S,Y,R,rfl⟩
   .cases e
  .cases e
 .rename_i h;cases h
 .rename_i h;cases h
 .rename_i h;cases h
 .cases e
def a71:MtR X "list.pop" (rM nm X.K .pop):=λZ s σ H v vs u us Q I ru Uv hh=>by
 obtain⟨ι,M,x,ds,d,M',S,r,rs,e,_,q⟩:=hh;obtain⟨n,i,xs,j,rfl,rfl,hM,h1,h2,rfl⟩:=atz e;cases r with
 |ref ha =>
  obtain⟨R,h3,G⟩:=S.obj n _ _ hM ha;cases rs with
  |cons hd ht =>
   cases ht;cases hd;obtain⟨w,g1,g2⟩:=G.get h2;obtain⟨k1,k2,k3,k4⟩:=Zv (as3 h1);obtain⟨z,_⟩:=I.ajc h3;have hl:xs.length=R.length:=G.length;rw[hl] at k1 k3 k4;have z':=z;rw[qz] at z';refine am8 Z s σ H _ _ u us Q I ru Uv ⟨_,R,i,j,w,rfl,rfl,h3,by lia,by lia,k1,g1,?_⟩;obtain⟨S2,Ao⟩:=S.put (u:=.lst (R.eraseIdx j)) (o:=.lst (xs.eraseIdx j)) hM ha λle=>⟨_,qw,(G.mono le).eraseIdx j⟩
   exact q _ _ _ Ao S2 (g2.mono Ao)
set_option tactic.hygienic true in
def at3(e:MW.Ep .get x ds M=.ok d M'):∃n k d0,x=.ref n/\ds=[k,d0]/\M'=M/\∃Z q,M[n]?=some (.dK Z)/\MW.Vj k=some q/\d=(MW.wg Z q).getD d0:=by
 cases x with
 |ref n =>
  match ds,e with
  |[k,d0],e =>
   have e:(match M[n]? with
    |some (.dK Z)=>Res.vo ((MW.Vj k).map λq=>(MW.wg Z q).getD d0) M
    | _=>.bad)=.ok d M':=e
   refine⟨n,k,d0,rfl,rfl,?_⟩;split at e
   .rename_i Z L
    obtain⟨Y,J⟩:=An e;obtain⟨q,G,C⟩:=bw.mp Y;exact⟨J,Z,q,L,G,C.symm⟩
   .cases e
  |[],e=>cases e|[_],e=>cases e|_::_::_::_,e=>cases e
 |_=>cases e
set_option tactic.hygienic true in
def ty_dict{X:Cx}(S:lq nm X.K G H M)(r:Rep X.K G H x v)(h:MW.Jo .get x M=true):tyV X.K "dict" v H:=by
 cases r with
 |@ref n p hp =>
  have h:(match M[n]? with|some (.dK _)=>true|_=>false)=true:=h;split at h
  .rename_i Y
   obtain⟨l,Z,_⟩:=S.obj n _ p Y hp;exact .inr (.inr (.inl ⟨rfl,.inl ⟨_,Z⟩⟩))
  .cases h
 |_=>cases h
def a72(hu:X.A.units+1<cLine):MtR X "dict.get" (rM nm X.K .get):=λqk s σ H v vs u us Q I ru Uv hh=>by
 obtain⟨ι,M,x,ds,d,M',S,r,rs,e,_,q⟩:=hh;obtain⟨n,k,d0,rfl,rfl,rfl,jn,k0,hM,hk,rfl⟩:=at3 e;cases rs with
 |cons rk rt =>
  cases rt with
  |cons rd rt =>
   cases rt;cases Uv with
   |cons G Z =>
    cases Z with
    |cons R Z =>
     cases Z;cases r with
     |ref ha =>
      cases ru;obtain⟨l,h1,h2⟩:=S.obj n _ _ hM ha;have hy:=Tf rk hk;subst hy;refine azf hu I (Nz.k h1) G R λw' s' I' qq=>⟨_,H,I',qq,q ι H _ (Le.refl _ _) S ?_⟩
      cases hl:MW.wg jn k0 with
      |none=>rw[(h2.look (k:=k0)).2 hl];exact rd|some d=>obtain⟨z,h3,h4⟩:=(h2.look (k:=k0)).1 d hl;rw[h3];exact h4
set_option tactic.hygienic true in
def a0j(hr:Ah 8 X.A)(hg:Gl X n)(hm:X.mg n=none)(hv:bootBuiltins n=some (.type "list"))(hn:n≠"__name__")(Ox:(n==("__debug__" : Str))=false)(qk:Gl X J)(q3:X.mg J=none)(q4:bootBuiltins J=some (.type "range"))(T3:J≠"__name__")(Wb:(J==("__debug__" : Str))=false)(ha:PA X [a] (W0 nm W X.K (.cons a' .nil)))(he:starEach [.Call (.Name J p') [a] [] L] X.env=(false,eval (.Call (.Name J p') [a] [] L) X.env)::starEach [] X.env)(Lh:(backTo q1 (starEach [] X.env)).any (·.1)=false)(qv:starEach [a] X.env=(false,eval a X.env)::starEach [] X.env)(q0:(backTo L (starEach [] X.env)).any (·.1)=false) :
 PE X (.Call (.Name n p) [.Call (.Name J p') [a] [] L] [] q1) (tE nm W X.K (.Uo a')):=by
 intro Y s σ H Q I hh;obtain⟨ι,ρ,M,d,M',S,R,e,q⟩:=hh;rw[MW.abb] at e;obtain⟨x,M1,e1,e⟩:=gn e;split at e<;>try cases e
 rename_i i;split at e<;>cases e;rename_i hi;refine ik (By I hg hm hv ?_ hn Ox);refine jt (Q:=EP X Y σ Q) ?_ he Lh;rw[he];show wpAny _ _ (spliced ((false,eval (.Call (.Name J p') [a] [] L) X.env)::backTo q1 (starEach [] X.env))) _ _ s;refine jm ?_;refine ik (By I qk q3 q4 ?_ T3 Wb);refine jt (Cv (ha L Y s σ H (λvs C=>∃G,vs=[.int i]/\Le ι H G C/\lq nm X.K G C M1) I ⟨ι,ρ,M,[.int i],M1,S,R,by simp[e1,Res.bind],λG C vs le S1 r=>?_⟩) λus Z ⟨vs,C,I1,r1,G,ev,Uu,S1⟩=>?_) qv q0
 .obtain⟨v,ev,rv⟩:=Ld r rfl
  cases rv;exact⟨G,ev,le,S1⟩
 subst ev;obtain⟨u,rfl,ru⟩:=Qh r1;obtain⟨t,rfl⟩:=ru;refine call_range_1 ?_;show wpAny _ _ (spliced []) _ _ _;refine m8 ?_;have keep:∀b o,Z.heap.get? b=some o->(Z.heap.push { cls:=.type "range",data:=.fields #[.int 0 Z.toks,.int i t,.int 1 (Z.toks+1)] }).get? b=some o:=λb o e=>ao _ e
 refine call_list_range (n:=i.toNat) hr.hd (bh _ rfl) (small_one (by lia) (by lia) (by lia) (by omega)) (by rw[rangeSize_one];split<;>lia) (by lia) λh' tk qq c' hk hS Ew=>?_
 have q5:(Z.heap.push { cls:=.type "range",data:=.fields #[.int 0 Z.toks,.int i t,.int 1 (Z.toks+1)] }).objs.size=Z.heap.objs.size+1:=jk ..;have hS:h'.get? (Z.heap.push { cls:=.type "range",data:=.fields #[.int 0 Z.toks,.int i t,.int 1 (Z.toks+1)] }).objs.size=some { cls:=.type "list",dict:=none,data:=.seq qq c',slots:=#[] }:=hS;show EP X Y σ Q (.ref (Z.heap.push { cls:=.type "range",data:=.fields #[.int 0 Z.toks,.int i t,.int 1 (Z.toks+1)] }).objs.size) _;rw[q5] at hS ⊢;have hz:((List.range i.toNat).map λ(k:Nat)=>V.int (k:Int)).length<=sizeLine:=by simp[qz];omega
 have y:Z.heap.objs.size<=Z.heap.objs.size+1:=vy _
 have hf:C (Z.heap.objs.size+1)=none:=I1.zb.fresh y;have I3:Inv X Y σ (upd C (Z.heap.objs.size+1) (.lst ((List.range i.toNat).map λ(k:Nat)=>V.int (k:Int)))) { Z with heap:=h',toks:=tk } :=
  I1.laid (a:=Z.heap.objs.size+1) (t':=tk) (λb o e=>hk b o (keep b o e)) y (show Aj X.prog X.w _ _ _ (.lst _) from⟨hz,qq.toList,c',Wd Ew,by simpa using hS⟩)
 obtain⟨S2,Ao,r2⟩:=Z9 (X:=X) S1 hf (We i.toNat);exact⟨.ref (Z.heap.objs.size+1),_,I3,rfl,q _ _ _ (Uu.trans Ao) S2 r2⟩
end Sm
namespace Sm
open PySem L2
open MW (Ex Dn OEx Mq Cu rm Lv Tg Res dg MO Gf Cp Op2 Blt Bm Kx Src)
def tup_is(I:Inv X pins σ H s)(r:RelV (.ref p) v)(h:H p=some (.tup R)):s.TypeIs v "tuple"/\∀a,v=.ref a->∃G,s.heap.get? a=some G/\G.dict=none:=by cases r;obtain⟨_,_,_,o,Z,h2,_,_,h3⟩:=(show Aj X.prog X.w H s.heap p (.tup R) from I.zb p _ h);exact⟨⟨o,Z,h2⟩,λa e=>by cases e;exact⟨o,Z,h3⟩⟩
set_option tactic.hygienic true in
theorem a73{id:String}(hT:∀x M,MW.Jo m x M=true->∃ds,x=.tup ds)(hi:m≠.index)(pa:PlainAttrs "tuple")(y:Slot "tuple" name id)(qv:typeOf (.builtin id)=pure (.type "method_descriptor"))(hm:MtR X id (rM nm X.K m))(ho:PE X o (tE nm W X.K o'))(ha:PA X (e::G) (W0 nm W X.K L))(qk:attributeBase o name X.env (eval o X.env)=eval o X.env)(q3:((backTo C (starEach (e::G) X.env)).all (λx=>!x.1)&&(backToKw C (keywordEach [] X.env)).all (λx=>x.1.isSome)
&&decide ((e::G).length+([]:List Keyword).length+(if([]:List Keyword).isEmpty then 0 else 1)<30))=true)(qq:(apos.endLine==C.line)=true)(hs:starEach (e::G) X.env=(false,eval e X.env)::starEach G X.env)(Vw:(backTo C (starEach G X.env)).any (·.1)=false) :
 PE X (.Call (.Attribute o name apos) (e::G) [] C) (tE nm W X.K (.bm m o' L)):=by
 intro Z s σ H Q I hh;obtain⟨ι,ρ,M,d,M',S,R,Y,q⟩:=hh;rw[MW.aes] at Y;obtain⟨x,M1,e1,Y⟩:=gn Y;split at Y
 .rename_i ht
  obtain⟨ds,M2,e2,Y⟩:=gn Y;obtain⟨ts,rfl⟩:=hT _ _ ht;refine wpAny_Call_method_late qk q3 qq rfl (Cv (ho Z s σ H (λv u=>(∃p J,v=.ref p/\u p=some (.tup J))/\W0 nm W X.K L σ u λJ H2=>rM nm X.K m v J H2 Q) I (one S R e1 λq6 u v le S1 R1 r=>?_)) λv s1 ⟨xv,u,I1,r1,⟨p,J,ev,hp⟩,q1⟩=>?_)
  .refine⟨?_,q6,ρ,M1,ds,M2,S1,R1,e2,λq4 H2 J Ao S2 rs=>⟨q4,M2,.tup ts,ds,d,M',S2,r.mono Ao,rs,Y,λ_ _=>hi,λq5 H' w q0 S' r'=>q q5 H' w ((le.trans Ao).trans q0) S' r'⟩⟩
   cases r with
   |tup h1 h2=>exact⟨_,_,rfl,h1⟩
  .subst ev
   obtain⟨h1,h2⟩:=tup_is I1 r1 hp;refine⟨"tuple",id,pa,y,qv,h1,h2,?_⟩;have hA:=ha C Z s1 σ u _ I1 q1;rw[hs] at hA ⊢;refine Calls.callWith_builtin (by show(false||(backTo C (starEach G X.env)).any (·.1))=false;rw[Vw]<;>rfl) (Calls.evalArgs_plain ?_);exact Cv hA λus s2 ⟨J,H2,I2,r2,q2⟩=>hm Z s2 σ H2 _ J v us Q I2 r1 r2 q2
 .cases Y
end Sm
namespace PySem.SeqAt
open AutoSeq1 (wpAny_loadPart')
open MeetsSeq MeetsSeq2 MeetsSeq3 SeqRoads2
def aoy(I:Nat->β->Shared->Prop)(qq:∀i c s,i<b->I i c s->wpAny M A (f i c) (λr s'=>match r with|.yield R=>I (i+1) R s'|.done R=>Q R s') E s)(fin:∀c s,I b c s->Q c s)(G:I 0 c s):wpAny M A (forIn [:b] c f) Q E s:=by
 rw[Std.Legacy.Range.forIn_eq_forIn_range'];have qk:([:b]:Std.Legacy.Range).size=b:=by simp[Std.Legacy.Range.size]
 show wpAny M A (forIn (List.range' 0 ([:b]:Std.Legacy.Range).size 1) c f) Q E s;rw[qk];refine vh f (λl c s=>∃i,i<=b/\l=List.range' i (b-i) 1/\I i c s) Q ?_ ?_ _ c ⟨0,jy _,by simp,G⟩
 .rintro x qv c s ⟨i,hi,Z,h⟩
  have Jd:i<b:=by
   rcases uy i b with z|z
   .exact z
   .rw[show b-i=0 by lia] at Z;simp at Z
  obtain⟨n,hn⟩:∃n,b-i=n+1:=⟨b-i-1,by lia⟩;rw[hn,Ar] at Z;obtain⟨rfl,rfl⟩:=List.cons.inj Z;refine ji (qq x c s Jd h) (λr s' h'=>?_) λ_ _ z=>z
  cases r with
  |done R=>exact h'|yield R=>exact⟨x+1,Jd,by congr 1;lia,h'⟩
 .rintro c s ⟨i,hi,Z,h⟩
  have:i=b:=by
   rcases uy i b with z|z
   .obtain⟨n,hn⟩:∃n,b-i=n+1:=⟨b-i-1,by lia⟩
    rw[hn,Ar] at Z;simp at Z
   .exact u_ hi z
  subst this;exact fin _ _ h
def Xf(l:Addr)(Z:Xt)(n:Nat)(dd:Option Addr)(sl:Array (Option Value))(x:Value)(e:Value->Bool)(j:Nat)(hj:j<Z.size)
 (qq:e Z[j]=true) (qk:∀m (hm:m<Z.size),m<j->e Z[m]=false) :
 Meets (Builtin.«tuple.index» ⟨[.ref l,x],[]⟩)
  (λA R s=>s.heap.get? l=some { cls:=.type "tuple",dict:=dd,data:=.seq Z n,slots:=sl }/\(∀y,y∈Z->EqAt A.in1 s y x (e y))/\R (.ok (.ret (.int j s.toks))) { s with toks:=s.toks+1 }) :=
 .of_wp λprog w A R s h=>by
  obtain⟨hp,g,d,tk,os⟩:=s;obtain⟨hl,he,h⟩:=h
  wp_walk using wpAny_loadPart' hl,aoy (λi b s'=>b.1=none/\s'=⟨hp,g,d,tk,os⟩/\i<=j)
  ·
   rintro i b s' hi ⟨hb,rfl,G⟩;have W3:i<Z.size:=c_ G hj
   rw[show Z[i]?=some Z[i] from Array.getElem?_eq_getElem W3];refine aa (he _ (Array.getElem_mem W3) prog w _ _ ?_);rcases uy i j with z|z
   .rw[qk i W3 z]
    wp_walk
    exact⟨rfl,rfl,z⟩
   .obtain rfl:i=j:=u_ G z
    rw[qq]
    wp_walk
    exact⟨_,rfl,h⟩
  ·
   rintro b s' ⟨hb,rfl,G⟩
   lia
  .exact⟨rfl,rfl,jy _⟩
end PySem.SeqAt
namespace Sm
open PySem L2
open MW (Ex Dn OEx Mq Cu rm Lv Tg Res dg MO Gf Cp Op2 Blt Bm Kx Src)
def aoz(e:MW.Ep .Hq x ds M=.ok d M'):∃Z G j,ds=[Z]/\x=.tup G/\MW.Qo M Z G=some j/\d=.int ((j:Nat):Int)/\M'=M:=by
 cases x with
 |tup G =>
  match ds,e with
  |[Z],e =>
   have e:Res.vo ((MW.Qo M Z G).map λj=>MW.D.int ((j:Nat):Int)) M=.ok d M':=by rw[<- e];simp only[MW.Ep];generalize MW.Qo M Z G=z;cases z<;>rfl
   obtain⟨e1,e2⟩:=An e;obtain⟨j,R,e4⟩:=bw.mp e1;exact⟨Z,G,j,rfl,rfl,R,e4.symm,e2⟩
  |[],e=>cases e|_::_::_,e=>cases e
 |_=>cases e
def ao0(hr:Ah 8 X.A):MtR X "tuple.index" (rM nm X.K .Hq):=λq0 s σ H v vs u us Q I ru Uv hh=>by
 obtain⟨ι,M,x,ds,d,M',S,r,rs,e,nt,q⟩:=hh;obtain⟨d0,xs,j,rfl,rfl,e2,rfl,rfl⟩:=aoz e;cases rs with
 |cons hd ht =>
  cases ht;cases Uv with
  |cons hu qv =>
   cases qv;obtain⟨bs,e3,e4⟩:=fc.mp (show(MW.Ot M' d0 xs).bind (·.findIdx? id)=some j from e2);cases r with
   |tup hp rl =>
    cases ru;obtain⟨z,is,rv,⟨q2,dd,q1,sl⟩,hg,hc,n,qq,q3⟩:=(show Aj X.prog X.w H s.heap _ (.tup _) from I.zb _ _ hp);simp only at hc qq;subst hc qq;obtain⟨f,g1,g2⟩:=Ol (A:=X.A.in1) I S ((hr.mono (by decide:7<=8)).in1) rl rv hd hu e3;obtain⟨f1,f2⟩:=Rb e4;have G:is.length=bs.length:=by rw[(Dy e3).1,rl.length,rv.length]
    have lj:j<is.length:=by rw[G];exact(aj.mp f1).1
    have fa:∀m (Z:m<is.length),bs[m]?=some (f is[m]):=λm Z=>g2 m _ (bu Z)
    refine call_meetsIn F.slot_tuple_index ⟨_,hg,rfl⟩ F.entry_tuple_index (F.args_tuple_index_2 _ _) (λA R s h=>SeqAt.Xf _ is.toArray n dd sl _ f j (by simpa using lj) ?_ ?_ _ _ A R s h) ⟨hg,g1,?_⟩
    .have:=fa j lj;rw[f1] at this;simpa using(jd this).symm
    .intro m Z qk
     have Z:m<is.length:=by simpa using Z
     have:=fa m Z;rw[f2 m qk] at this;simpa using(jd this).symm
    .exact⟨.int j,H,I.tok _,⟨_,rfl⟩,q ι H _ (Le.refl _ _) S (.int _)⟩
end Sm
namespace Sm
open PySem L2
open MW (Ex Dn OEx Mq Cu rm Lv Tg Res dg MO Gf Cp Op2 Blt Bm Kx Src)
theorem Wg{ι:Io}{H:Hp}{K:Fg}:∀{R:List Dv}{Z:List V}{is:Zl}{G:X9},mj K ι H R Z->Vals Z is->MW.Uq R=some G->PyProof.Rows.IntsAre is G
 |_,_,_,_,.nil,.nil,h=>by cases h;exact .nil
 |_,_,_,_,.cons r t,.cons rv tv,h=>by
  cases r<;>simp only[MW.Uq] at h<;>try cases h
  obtain⟨qq,e1,e2⟩:=bw.mp h;subst e2;obtain⟨tk,rfl⟩:=rv;exact .cons _ _ (Wg t tv e1)
theorem ac9:∀{is:Zl}{Z:X9},PyProof.Rows.IntsAre is Z->Vals (Z.map V.int) is
 |_,_,.nil=>.nil|_,_,.cons n t h=>.cons ⟨t,rfl⟩ (ac9 h)
theorem Yr{G:Io}{H:Hp}{K:Fg}:∀Z:List Int,mj K G H (Z.map MW.D.int) (Z.map V.int)
 |[]=>.nil|n::Z=>.cons (.int n) (Yr Z)
set_option tactic.hygienic true in
def ada{g:List Int->Dv}(e:(MW.Mj ds λd=>Res.vo (((MW.yd M d).bind MW.Uq).bind λis=>if is.length<31 then some (g is) else none) M)=.ok d M'):∃x Y Z,ds=[x]/\MW.yd M x=some Y/\MW.Uq Y=some Z/\(MW.ug Z).length<31/\d=g Z/\M'=M:=by
 match ds,e with
 |[x],e =>
  have e:Res.vo (((MW.yd M x).bind MW.Uq).bind λis=>if is.length<31 then some (g is) else none) M=.ok d M':=e;obtain⟨C,R⟩:=An e;obtain⟨Z,J,G⟩:=fc.mp C;obtain⟨Y,S,L⟩:=fc.mp J;split at G
  .rename_i u
   exact⟨x,Y,Z,rfl,S,L,Bg (STb.R8 (MW.Sh Z) λk y=>(MW.Jq k Z).mp y) u,(jd G).symm,R⟩
  .cases G
 |[],e=>cases e|_::_::_,e=>cases e
def ao1(hr:Ah 8 X.A)(I:Inv X pins σ H s)(S:lq nm X.K ι H M)(rx:Rep X.K ι H x v)(ru:RelV v u)(e2:MW.yd M x=some xs)(e3:MW.Uq xs=some ns)(hl:(MW.ug ns).length<31)(h:∀h' tk n',(∀b o,s.heap.get? b=some o->h'.get? b=some o)->STb.Bp X.w h' s.heap.objs.size (λk=>k∈ns) n'->n'<=(MW.ug ns).length->Q (.ref s.heap.objs.size) { s with heap:=h',toks:=tk }) :
 wpAny (model X.prog X.w) X.A (call (.type "set") [u]) Q X.xe s:=by
 obtain⟨p,ws,rfl,G,rl⟩:=Fo S rx e2;cases ru;rcases G with G|G
 .obtain⟨is,Z,pl,_⟩:=I.list (Hm.of G)
  exact STb.aie hr.hd pl.isList (by simpa using Wg rl Z e3) (λk R=>(MW.Jq k ns).mpr R) hl h
 .obtain⟨is,Z,pl,_⟩:=I.tuple (Iu.of G)
  exact STb.aif hr.hd (show s.heap.IsTuple p is.toArray from pl) (by simpa using Wg rl Z e3) (λk R=>(MW.Jq k ns).mpr R) hl h
def ajt(hr:Ah 8 X.A)(I1:Inv X pins σ H1 s1)(S1:lq nm X.K q0 H1 M')(hS:STb.Bp X.w h' a (λk=>k∈ns) n')(ha:s1.heap.objs.size<=a)(keep:∀b o,s1.heap.get? b=some o->h'.get? b=some o)(hn:n'<31)(q:∀Z H' v,Le q0 H1 Z H'->lq nm X.K Z H' M'->Rep X.K Z H' (.vl ((MW.sortI (MW.ug ns)).map MW.D.int)) v->Q v H') :
 wpAny (model X.prog X.w) X.A (call (.builtin "sorted") [.ref a]) (EP X pins σ Q) X.xe { s1 with heap:=h',toks:=tk }:=by
 refine STb.aa6 (s:={ s1 with heap:=h',toks:=tk }) hr.hd hS hn λh2 G p2 out ms qq q2 qv so nd mem z_=>?_
 obtain⟨c,g⟩:=z_;have qk:(MW.ug ns).length<=n':=by
  obtain⟨xs,o,es,ep,t,X,hm,rfl,_⟩:=hS;have:=STb.R8 (MW.Sh ns) λk hk=>(hm k).mp ((MW.Jq k ns).mp hk)
  rw[gf] at this;exact this
 obtain rfl:=MW.aro so nd mem;obtain⟨o9,_,_,_,g9,_⟩:=hS.get;have R:s1.heap.objs.size<=p2:=ig (ig ha (yu (bc g9))) q2
 have hf:H1 p2=none:=I1.zb.fresh R;have q1:((MW.sortI (MW.ug ns)).map V.int).length<=sizeLine:=by rw[gf,(MW.Oe _).length_eq,qz];exact e_ (c_ qk (b_ hn (by decide)))
 have I3:Inv X pins σ (upd H1 p2 (.lst ((MW.sortI (MW.ug ns)).map V.int))) { s1 with heap:=h2,toks:=G } :=
  I1.laid (a:=p2) (t':=G) (λb o e=>qq b o (keep b o e)) R (show Aj X.prog X.w _ _ _ (.lst _) from⟨q1,out.toList,c,ac9 qv,by simpa using g⟩)
 obtain⟨S2,Ao,r2⟩:=Z8 (X:=X) S1 hf (Yr _);exact⟨.ref p2,_,I3,rfl,q _ _ _ Ao S2 r2⟩
def aju(hr:Ah 8 X.A)(hg:Gl X n)(hm:X.mg n=none)(hv:bootBuiltins n=some (.builtin "sorted"))(hn:n≠"__name__")(Ox:(n==("__debug__" : Str))=false)(qk:Gl X G)(q3:X.mg G=none)(q5:bootBuiltins G=some (.type "set"))(T3:G≠"__name__")(Wb:(G==("__debug__" : Str))=false)(ha:PA X [a] (W0 nm W X.K (.cons a' .nil)))(he:starEach [.Call (.Name G p') [a] [] q2] X.env=(false,eval (.Call (.Name G p') [a] [] q2) X.env)::starEach [] X.env)(Lh:(backTo q1 (starEach [] X.env)).any (·.1)=false)(qv:starEach [a] X.env=(false,eval a X.env)::starEach [] X.env)(q0:(backTo q2 (starEach [] X.env)).any (·.1)=false) :
 PE X (.Call (.Name n p) [.Call (.Name G p') [a] [] q2] [] q1) (tE nm W X.K (.blt .De (.cons a' .nil))):=by
 intro qq s σ H Q I hh;obtain⟨ι,ρ,M,d,M',S,R,e,q⟩:=hh;rw[MW.Jh] at e;obtain⟨ds,M1,e1,e⟩:=gn e;obtain⟨x,xs,ns,rfl,e2,e3,hl,rfl,rfl⟩:=ada (g:=λis=>MW.D.vl ((MW.sortI (MW.ug is)).map MW.D.int)) e;refine ik (By I hg hm hv ?_ hn Ox);refine qb (Q:=EP X qq σ Q) ?_ he Lh;rw[he];show wpAny _ _ (spliced ((false,eval (.Call (.Name G p') [a] [] q2) X.env)::backTo q1 (starEach [] X.env))) _ _ s;refine jm ?_;refine ik (By I qk q3 q5 ?_ T3 Wb);refine jt (Cv (ha q2 qq s σ H (λvs H1=>∃Z v,vs=[v]/\Rep X.K Z H1 x v/\Le ι H Z H1/\lq nm X.K Z H1 M') I ⟨ι,ρ,M,[x],M',S,R,e1,λZ H1 vs le S1 r=>?_⟩) λus s1 ⟨vs,H1,I1,r1,Z,v,ev,rx,Uu,S1⟩=>?_) qv q0
 .obtain⟨v,ev,rv⟩:=Ld r rfl
  exact⟨Z,v,ev,rv,le,S1⟩
 subst ev;obtain⟨u,rfl,ru⟩:=Qh r1;refine ao1 hr I1 S1 rx ru e2 e3 hl λh' tk n' keep hS R9=>?_
 show wpAny _ _ (spliced []) _ _ _;refine m8 ?_;exact ajt hr I1 S1 hS (bf _) keep (c_ R9 hl) λq4 H' v le=>q q4 H' v (Uu.trans le)
def ao2(hr:Ah 8 X.A)(hg:Gl X n)(hm:X.mg n=none)(hv:bootBuiltins n=some (.builtin "len"))(hn:n≠"__name__")(Ox:(n==("__debug__" : Str))=false)(q0:Gl X G)(q5:X.mg G=none)(q6:bootBuiltins G=some (.type "set"))(T3:G≠"__name__")(Wb:(G==("__debug__" : Str))=false)(ha:PA X [a] (W0 nm W X.K (.cons a' .nil)))(he:starEach [.Call (.Name G p') [a] [] q2] X.env=(false,eval (.Call (.Name G p') [a] [] q2) X.env)::starEach [] X.env)(Lh:(backTo q1 (starEach [] X.env)).any (·.1)=false)(q3:starEach [a] X.env=(false,eval a X.env)::starEach [] X.env)(q4:(backTo q2 (starEach [] X.env)).any (·.1)=false) :
 PE X (.Call (.Name n p) [.Call (.Name G p') [a] [] q2] [] q1) (tE nm W X.K (.blt .Gn (.cons a' .nil))):=by
 intro qq s σ H Q I hh;obtain⟨ι,ρ,M,d,M',S,R,e,q⟩:=hh;rw[MW.Jh] at e;obtain⟨ds,M1,e1,e⟩:=gn e;obtain⟨x,xs,ns,rfl,e2,e3,hl,rfl,rfl⟩:=ada (g:=λis=>MW.D.int ((MW.ug is).length:Nat)) e;refine ik (By I hg hm hv ?_ hn Ox);refine qb (Q:=EP X qq σ Q) ?_ he Lh;rw[he];show wpAny _ _ (spliced ((false,eval (.Call (.Name G p') [a] [] q2) X.env)::backTo q1 (starEach [] X.env))) _ _ s;refine jm ?_;refine ik (By I q0 q5 q6 ?_ T3 Wb);refine jt (Cv (ha q2 qq s σ H (λvs H1=>∃Z v,vs=[v]/\Rep X.K Z H1 x v/\Le ι H Z H1/\lq nm X.K Z H1 M') I ⟨ι,ρ,M,[x],M',S,R,e1,λZ H1 vs le S1 r=>?_⟩) λus s1 z=>?_) q3 q4
 .obtain⟨v,ev,rv⟩:=Ld r rfl
  exact⟨Z,v,ev,rv,le,S1⟩
 obtain⟨vs,H1,I1,r1,Z,v,rfl,rx,Uu,S1⟩:=z;obtain⟨u,rfl,ru⟩:=Qh r1;refine ao1 hr I1 S1 rx ru e2 e3 hl λh' tk n' keep hS R9=>?_
 refine(?_:wpAny _ _ (spliced []) _ _ _);refine m8 ?_;obtain⟨o,es,ep,t,g1,g2,g3,g4⟩:=hS.get;obtain⟨ys,o',qv,q7,t',SN,qk,T3,_⟩:=hS;have eo:o'=o:=jd (SN.get.symm.trans g1);subst eo;have ed:qv=es:=by have:=SN.dat.symm.trans g3;injection this
 subst ed;have sz:qv.size=(MW.ug ns).length:=by
  rw[SN.size];refine Nat.le_antisymm ?_ ?_
  .have:=STb.R8 SN.nod (b:=MW.ug ns) λk hk=>(MW.Jq k ns).mpr ((qk k).mpr hk)
   rwa [gf] at this
  .have:=STb.R8 (MW.Sh ns) (b:=ys.map (·.1)) λk hk=>(qk k).mp ((MW.Jq k ns).mp hk)
   rwa [gf] at this
 refine call_len_set (s:={ s1 with heap:=h',toks:=tk }) g1 g2 g3 g4 (by lia) ?_;rw[sz];exact⟨.int _,H1,I1.kept keep,⟨_,rfl⟩,q Z H1 _ Uu S1 (.int _)⟩
set_option tactic.hygienic true in
def at4(h:MW.qm (.isE k) [x] M=.ok d Z):∃n c,x=.ref n/\M[n]?=some (.exc c)/\d=.bl (k==0||c==k)/\Z=M:=by
 cases x with
 |ref n =>
  simp only[MW.qm,MW.Mj] at h;cases hM:M[n]? with
  |none=>rw[hM] at h;cases h
  |some o =>
   rw[hM] at h;cases o with
   |exc c=>cases h;exact⟨n,c,rfl,hM,rfl,rfl⟩|_=>cases h
 |_=>cases h
set_option tactic.hygienic true in
def awv{X:Cx}{cv:Value}{kk:Nat}(qk:∀{Y σ H s} {Q:Y1} {E:Y1},Inv X Y σ H s->Q cv s->wpAny (model X.prog X.w) X.A (eval (.Name G J) X.env) Q E s)(hk:∀c C,nm.xc c=some C->PySem.W.kitOne X.K (.ref C) cv=some (kk==0||c==kk)/\afd X.K C=true)
 (hg:Gl X n) (hm:X.mg n=none) (hv:bootBuiltins n=some (.builtin "isinstance")) (hn:n≠"__name__") (Ox:(n==("__debug__" : Str))=false) (ha:PE X a (tE nm W X.K a')) (he:starEach [a,.Name G J] X.env=(false,eval a X.env)::starEach [.Name G J] X.env) (qq:starEach [.Name G J] X.env=(false,eval (.Name G J) X.env)::starEach [] X.env) (Lh:(backTo pos (starEach [.Name G J] X.env)).any (·.1)=false):PE X (.Call (.Name n p) [a,.Name G J] [] pos) (tE nm W X.K (.blt (.isE kk) (.cons a' .nil))):=by
 intro Y s σ H Q I hh;obtain⟨ι,ρ,M,d,M',S,R,e,q⟩:=hh;rw[MW.Jh] at e;obtain⟨ds,M1,y,e⟩:=gn e;rw[MW.Bl] at y;obtain⟨x,M2,e2,y⟩:=gn y;rw[MW.Mu] at y;cases y;refine ik (By I hg hm hv ?_ hn Ox);refine qb (Q:=EP X Y σ Q) ?_ he Lh;rw[he];show wpAny _ _ (spliced ((false,eval a X.env)::backTo pos (starEach [.Name G J] X.env))) _ _ s;refine jm (Cv (ha Y s σ H (λv L=>∃Z,Le ι H Z L/\lq nm X.K Z L M1/\Rep X.K Z L x v) I ⟨ι,ρ,M,x,M1,S,R,e2,λZ L v le S1 r=>⟨Z,le,S1,r⟩⟩) λu s1 z_=>?_);obtain⟨v,L,I1,r1,Z,le,S1,r⟩:=z_;rw[qq];show wpAny _ _ (spliced ((false,eval (.Name G J) X.env)::backTo pos (starEach [] X.env))) _ _ s1;refine jm (qk I1 ?_);refine m8 ?_;obtain⟨n',c,rfl,hc,rfl,rfl⟩:=at4 e;cases r with
 |ref ea =>
  cases r1;obtain⟨C,h1,h2⟩:=S1.obj _ _ _ hc ea;obtain⟨k1,k2⟩:=hk c C h2;have xa:=(I1.zb _ _ h1).1;exact o8 (ano (asr k2)) I1.Wz xa k1 (by intro z;cases z) λtk=>⟨.bl _,L,I1.tok _,rfl,q Z L _ le S1 (.bl _)⟩
open MW (Ex Dn OEx Mq Cu rm Lv Tg Res dg MO Gf Cp Op2 Blt Bm Kx)
section
variable{nm:Nm}{X:Cx}
set_option tactic.hygienic true in
def adb(Y:Rep K L H x v)(R:Rep K L H y u)(G:RelV v J)(Z:RelV u C)(e:MW.aeq x y=some k):plainIs J C=true/\(J==C)=k:=by
 cases R<;>try(cases e;done)
 .cases Z
  cases Y<;>first|(cases e;done)|(cases G;cases e;exact⟨rfl,rfl⟩)
 .cases Z
  cases Y<;>try(cases e;done)
  rename_i b c;cases G;cases e;cases b<;>cases c<;>exact⟨rfl,rfl⟩
def bec:Dz X (compareOp .Is) (rCp nm X.K .is):=λZ s σ H v u v' u' Q I rv G hh=>by obtain⟨ι,M,x,y,b,S,rx,ry,e,q⟩:=hh;have e:MW.aeq x y=some b:=e;obtain⟨p,R⟩:=adb rx ry rv G e;exact wpAny_is_plain p (yr I q R.symm)
def at5:Dz X (compareOp .IsNot) (rCp nm X.K .Xo):=λZ s σ H v u v' u' Q I rv R hh=>by obtain⟨ι,M,x,y,b,S,rx,ry,e,q⟩:=hh;have e:(MW.aeq x y).map not=some b:=e;obtain⟨c,G,rfl⟩:=bw.mp e;obtain⟨p,ev⟩:=adb rx ry rv R G;exact wpAny_isNot_plain p (yr I q (by rw[ev]))
end
def spE(G:Nm)(W:Gf)(K:Fg)(n f:Nat):Sp:=λvs H _ E=>∃ι M ds c M',lq G K ι H M/\mj K ι H ds vs/\ds.length=n/\W.cae f ds M=some (c,M')/\∀C,G.xc c=some C->∀Z R,Le ι H Z R->lq G K Z R M'->E (.ref C) none R
structure ajv(nm:Nm)(P:Program)(w:World)(K:Fg)(mg:Zs)(base:Heap)(W:Gf)(k:Nat)(fr:Addr):Prop where
 run:∀(A:Around)(outer:List Env)(s:Shared)(H:Hp)(Q:VK)(fa:Addr)(vs:List V)(n f:Nat),Ah (k+4) A->Zu P w K mg base A outer s H->PySem.W.FnAt fa s.heap->H fa=none->fa∉Hl outer ->
  (∀(A':Around)(Tj:List Env)(s':Shared)(H':Hp)(Q':VK)(E':XK),Ah (k+1) A'->Zu P w K mg base A' Tj s' H'->(∀b o,s.heap.get? b=some o->H b=none->b∉Hl outer->s'.heap.get? b=some o/\H' b=none)->(∀b o u,H b=some (.Je o u)->H' b=some (.Je o u)) ->
   spE nm W K n f vs H' Q' E'->codeAny (model P w) A' (.call (.ref fa) ⟨[],[]⟩) (CR (CXE P w) Tj P w H' s' Q' E') s') ->
  (∃ι M ds c M1 d M2,lq nm K ι H M/\mj K ι H ds vs/\ds.length=n/\W.cae f ds M=some (c,M1)/\W.rfd c M1=.ok d M2/\∀ι' H' v,Le ι H ι' H'->lq nm K ι' H' M2->Rep K ι' H' d v->Q v H') ->
  codeAny (model P w) A (.call (.ref fr) ⟨[.ref fa],[]⟩) (CR CX0 outer P w H s Q E0) s
def at6{X:Cx}{qq bmN:Zl}{B Bn Z q1 G q2:String}{C:Addr}{np G9 pos cp:Pos}{j:Nat}{qk:Str}(Fn:ExcBaseFacts Bn Z q2 bmN)(qv:qq.contains (.type Bn)=true)(FB:ExcBaseFacts B q1 G qq)(hc:afc X.K C qq Z)(hn:ani X EX)(Es:X.calm=true)(hg:Gl X x)(hm:X.mg x=some (.ref C))(Ox:(x==("__debug__" : Str))=false)(q0:nm.xc c=some C) :
 PS X (.Raise (some (.Call (.Name x np) [.Constant (.str qk) j cp] [] G9)) none pos) (tS nm W X.K EX (.raise c)) :=
 PS.of (ank Fn qv FB hc hn Es hg hm (U9 aml ae7) Ox rfl rfl) λD σ H ι ρ M fl q3 M' S R e q=>by rw[MW.alp] at e;cases e;exact⟨by show 1<=sizeLine;decide,q ι H σ (Le.refl _ _) S R C q0⟩
set_option tactic.hygienic true in
def a0k{nm:Nm}{W:Gf}{X:Cx}{k f i j:Nat}{fr ga c P:Addr}{fd:FuncData}{ps:Ya}{rx gx x y:Str}{p pf px py pb lp pos:Pos}{Z:Scope}
 (RF:ajv nm X.prog X.w X.K X.mg X.base W k fr) (FE:Jt X.prog X.w X.K X.mg X.base (CXE X.prog X.w) k ga fd ps (spE nm W X.K 2 f)) (hb:Binds X.K fd ps []) (q8:PySem.W.keepIn X.K (.ref ga)=true) (y4:X.mg gx=some (.ref ga)) (yy:Z.names.lookup gx=some .globalImplicit) (jj:(gx==("__debug__" : Str))=false)
 (hg:Gl X rx) (hm:X.mg rx=some (.ref fr)) (hk:PySem.W.keepIn X.K (.ref fr)=true) (Ox:(rx==("__debug__" : Str))=false) (bm:BMain X.mg X.base) (z6:X.env.code=.ref c) (hC:PySem.W.codeHdIn X.K c P=true) (qk:nm.tb=some (P,lp,X.env.qual++"<lambda>"))
 (hi:X.N[i]?=some x) (hj:X.N[j]?=some y) (y6:X.env.scope.names.lookup x=some .cell) (y2:X.env.scope.names.lookup y=some .cell) (y5:∀n,X.fn n=true) (LS:Vz [x,y] Z) (y1:(x,NameKind.free)∈Z.names) (y8:(y,NameKind.free)∈Z.names) (Jv:∀z∈Z.names,z.2=.free->z.1=x\/z.1=y)
 (q0:(x==("__debug__" : Str))=false/\(x==("__classdict__" : Str))=false) (qv:(y==("__debug__" : Str))=false/\(y==("__classdict__" : Str))=false) (hr:Ah (k+16) X.A) :
 PE X (.Call (.Name rx p) [.Lambda noArgs (.Call (.Name gx pf) [.Name x px,.Name y py] [] pb) Z lp] [] pos) (tE nm W X.K (.aik f (.cons (.var i) (.cons (.var j) .nil)))):=by
 intro j1 s σ H Q I hh;obtain⟨ι,ρ,M,d,M',S,R,e,q⟩:=hh;rw[MW.aln] at e;obtain⟨ds,M1,e1,e⟩:=gn e;rw[MW.Bl] at e1;obtain⟨d1,M2,e2,e7⟩:=gn e1;obtain⟨j3,M3,e3,e8⟩:=gn e7;rw[MW.Bl] at e3;obtain⟨d2,M4,e4,e5⟩:=gn e3;clear e1 e7 e3;rw[MW.agf] at e2 e4;have g1:ρ[i]?=some (some d1)/\M=M2:=by
  split at e2
  .rename_i z;cases e2;exact⟨z,rfl⟩
  .cases e2
 obtain⟨g1,rfl⟩:=g1;have g2:ρ[j]?=some (some d2)/\M=M4:=by
  split at e4
  .rename_i z;cases e4;exact⟨z,rfl⟩
  .cases e4
 obtain⟨g2,rfl⟩:=g2;cases e5;cases e8;cases hc:W.cae f [d1,d2] M with
 |none=>rw[hc] at e;cases e
 |some cM =>
  obtain⟨c0,M5⟩:=cM;rw[hc] at e;have e:W.rfd c0 M5=.ok d M':=e;obtain⟨v1,y3,r1⟩:=R.get g1;obtain⟨v2,y0,r2⟩:=R.get g2;obtain⟨m,Z4,zk⟩:=I.loc;have C:∀{n z v},X.N[n]?=some z->σ[n]?=some (some v)->X.env.scope.names.lookup z=some .cell->∃u cz,RelV v u/\X.env.cells.lookup z=some cz/\s.heap.IsCell cz (some u):=fun{n z v} G h2 h3=>by
   obtain⟨u,r,l⟩:=zk n z v G h2 (.inr (.inl h3));rcases l with⟨l,_⟩|⟨_,cz,l1,l2⟩
   .have l:X.env.scope.names.lookup z=some .local:=l
    rw[h3] at l;cases l
   .exact⟨u,cz,r,l1,l2⟩
  obtain⟨u1,cx,y9,lx,ix⟩:=C hi y3 y6;obtain⟨u2,cy,z7,ly,iy⟩:=C hj y0 y2;have q4:∀z∈Z.names,z.2=.free->∃c,X.env.cells.lookup z.1=some c:=λz hz h=>by
   rcases Jv z hz h with w|w<;>rw[w]
   .exact⟨cx,lx⟩
   .exact⟨cy,ly⟩
  have L:∀z c,(Dp X.env.cells Z.names []).lookup z=some c->X.env.cells.lookup z=some c:=λz c h=>by
   rcases V0 X.env.cells Z.names [] z c q4 h with w|w
   .cases w
   .exact w
  have Rz:starEach [.Lambda noArgs (.Call (.Name gx pf) [.Name x px,.Name y py] [] pb) Z lp] X.env=(false,eval (.Lambda noArgs (.Call (.Name gx pf) [.Name x px,.Name y py] [] pb) Z lp) X.env)::starEach [] X.env:=rfl;refine ik (Oi I hg hm ?_ Ox);refine PySem.W.callWith_K (h₀:=X.base) I.ok.mod.kin hk ?_ Rz rfl;rw[Rz];show wpAny _ _ (spliced ((false,eval (.Lambda noArgs (.Call (.Name gx pf) [.Name x px,.Name y py] [] pb) Z lp) X.env)::backTo pos (starEach [] X.env))) _ _ s;refine jm (anu I bm z6 hC (S.tb _ qk) (N5 q4) rfl λf' c' z5 H' h' tk I' T' kp z8 yj th=>?_);refine m8 ⟨I'.Wz,?_⟩;obtain⟨zv,q7,_⟩:=S.tb _ qk;have nP:∀b u,H b=some u->(∀ps,u≠.W4 ps)->b≠P:=λb u G h2 z=>by rw[z,show H P=some (.W4 zv) from q7] at G;cases G;exact h2 _ rfl
  have le:Le ι H ι H':=⟨⟨[],by simp,by simp⟩,rfl,λa vs h=>kp a _ (nP a _ h (by intro _ z;cases z)) h,λa o u h=>kp a _ (nP a _ h (by intro _ z;cases z)) h,λa vs _ h=>kp a _ (nP a _ h (by intro _ z;cases z)) h,λa h=>by
   cases z:H a with
   |none=>rfl
   |some u =>
    by_cases w:a=P
    .obtain⟨z9,G,_⟩:=T'
     rw[w,show H' P=some (.W4 z9) from G] at h;cases h
    .rw[kp a u w z] at h;cases h⟩
  have S':lq nm X.K ι H' M:=⟨S.len,S.nd,λa ha=>by
   obtain⟨G,vs,h2⟩:=S.del a ha;exact⟨G,vs,le.lst a vs G h2⟩,λn o a hn ha=>by
   have z:=S.obj n o a hn ha;obtain⟨u,e,mu⟩:=z.some;exact z.move le ((kp a u (nP a u e (by intro ps w;rw[w] at e;rw[e] at mu;exact mu)) e).trans e.symm),λt ht=>by
   rw[qk] at ht;cases ht;exact T'⟩
  have Y:=I'.pin (f',_) (iw _ di);have ami:∀b,b≠X.env.locals->b∉X.fs->b∉Hl X.stack:=λb G h2 z=>by
   rcases cj.mp (I'.K8 b z) with w|w
   .exact G w
   .exact h2 w
  have z2:∀z c,X.env.cells.lookup z=some c->c∉X.fs:=λz c h w=>by obtain⟨_,o,ho,_⟩:=I'.ok.Ow.mem w;exact absurd (dm (bc ho) (I'.ok.cab z c (y5 z) h)) (jr _)
  refine wpAny_call (uw (RF.run X.A X.stack _ H' Q f' [v1,v2] 2 f (hr.mono (by lia)) I'.env0 ⟨_,_,_,_,Y.1⟩ Y.2.1 (ami _ Y.2.2.1 Y.2.2.2.1) (λA' Tj s2 H2 Q2 E2 y7 q1 q3 zq z3=>?_) ⟨ι,M,[d1,d2],c0,M5,d,M',S',.cons (r1.mono le) (.cons (r2.mono le) .nil),rfl,hc,e,λyv z4 v z0 q6 r=>q yv z4 v (le.trans z0) q6 r⟩) λr s' hq=>?_)
  ·
   obtain⟨o,yk,zw,tq,z1,zz⟩:=z8;have ko:=zq _ _ _ yk;have kf:=(q3 f' _ Y.1 Y.2.1 (ami _ Y.2.2.1 Y.2.2.2.1)).1;have qq:∀z c v,X.env.cells.lookup z=some c->s.heap.IsCell c v->s2.heap.IsCell c v/\H2 c=none:=λz c v h hc=>by obtain⟨oc,G,h2⟩:=yj z c h v hc;have:=q3 c oc G (I'.Dk z c h) (ami c (I'.cne z c h) (z2 z c h));exact⟨⟨oc,this.1,h2⟩,this.2⟩
   obtain⟨kx,q2⟩:=Kg X.env.cells Z.names [] x y1;obtain⟨ky,q5⟩:=Kg X.env.cells Z.names [] y y8;have ex:kx=cx:=jd ((L _ _ q2).symm.trans lx);have ey:ky=cy:=jd ((L _ _ q5).symm.trans ly);subst ex ey;refine ajg (k:=k) (N:=[x,y]) (vs:=[v1,v2]) q1 y7 ⟨_,_,c',z5,kf,c',o,zw,tq,rfl,(q1.zb _ _ ko).1,z1,zz⟩ LS (λa b c G h2=>I'.ok.inj a b c (L _ _ G) (L _ _ h2)) (λz c h=>?_) rfl (λn z h=>?_) (λj2 jv=>?_)
   .obtain⟨v,hv⟩:=I.cell z c (L z c h)
    obtain⟨k1,k2⟩:=qq z c v (L z c h) hv;exact⟨⟨v,k1⟩,k2⟩
   .match n,h with
    |0,h=>cases h;exact⟨v1,u1,kx,rfl,y9,q2,(qq _ _ _ lx ix).1⟩|1,h=>cases h;exact⟨v2,u2,ky,rfl,z7,q5,(qq _ _ _ ly iy).1⟩|n+2,h=>simp at h
   .have fx:∀z,(z,NameKind.free)∈Z.names->Vis Z z->True:=λ_ _ _=>trivial
    refine⟨_,ag3 (E:=E2) FE jv yy y4 q8 hb .nil (awf rfl (asu rfl rfl rfl rfl)) (U9 (Vs (i:=0) rfl (LS.vis x (by simp)) q0.1 q0.2) (U9 (Vs (i:=1) rfl (LS.vis y (by simp)) qv.1 qv.2) ae7)) jj rfl rfl,?_⟩;exact⟨v1,rfl,v2,rfl,z3⟩
  .cases r with
   |error e=>exact hq.elim
   |ok fl =>
    cases fl with
    |ret u =>
     obtain⟨v,H3,J,r,z⟩:=I'.after hq;exact⟨v,H3,J.U7 λp hp=>J.pin p (iw _ (bx _ hp)),r,z⟩
    |next=>exact hq.elim|brk=>exact hq.elim|cont=>exact hq.elim
set_option tactic.hygienic true in
def ao5{nm:Nm}{W:Gf}{X:Cx}{k n f:Nat}{G:Addr}{vs:List V}{E:XK}{x:Str}{p pos:Pos}{sA:Shared}{HA:Hp}{oA:List Env}(hN:X.N[0]?=some x)(hv:Vis X.env.scope x)(hd:(x==("__debug__" : Str))=false)(Xz:(x==("__classdict__" : Str))=false)(hr:Ah (k+1) X.A)(Y:X.ex=[])(q2:XOn X E)(qq:X.s₀=sA)(S:X.H₀=HA)(q0:X.fs=Hl oA)
 (qk:PySem.W.FnAt G sA.heap) (qv:HA G=none) (q1:G∉Hl oA)
 (th:∀(A':Around)(Tj:List Env)(C:Shared)(R:Hp)(Q':VK)(E':XK),Ah (k+1) A'->Zu X.prog X.w X.K X.mg X.base A' Tj C R->(∀b o,sA.heap.get? b=some o->HA b=none->b∉Hl oA->C.heap.get? b=some o/\R b=none)->(∀b o u,HA b=some (.Je o u)->R b=some (.Je o u)) ->
  spE nm W X.K n f vs R Q' E'->codeAny (model X.prog X.w) A' (.call (.ref G) ⟨[],[]⟩) (CR (CXE X.prog X.w) Tj X.prog X.w R C Q' E') C) :
 PE X (.Call (.Name x p) [] [] pos) (fun σ H Q=>σ[0]?=some (some (.ref G))/\spE nm W X.K n f vs H Q E):=by
 intro Z s σ H Q I hh;obtain⟨h0,sp⟩:=hh;refine ik (Cv (Vs (i:=0) hN hv hd Xz Z s σ H (λv y=>v=.ref G/\spE nm W X.K n f vs y Q E) I ⟨_,h0,rfl,sp⟩) λu s1 z=>?_);obtain⟨v,y,J,r,rfl,sp⟩:=z;cases r;have keep:∀b o,sA.heap.get? b=some o->HA b=none->b∉Hl oA->s1.heap.get? b=some o/\y b=none:=λb o h1 h2 h3=>by rw[<- qq] at h1;rw[<- S] at h2;rw[<- q0] at h3;exact⟨J.base.keep b o h1 h2 h3 (by rw[Y];simp),J.base.free b o h1 h2 (by rw[Y];simp)⟩
 obtain⟨oc,od,fd,sl,e⟩:=qk;refine PySem.W.callWith_F0 ⟨oc,od,fd,sl,(keep _ _ e qv q1).1⟩ ?_;refine wpAny_call (uw (th X.A X.stack s1 y Q E hr J.env0 keep (λb o u h=>J.base.Qf b o u (by rw[S];exact h)) sp) λr C L=>?_);cases r with
 |error e=>exact awf Y q2 Z σ y s1 e C J L
 |ok fl =>
  cases fl with
  |ret u=>exact J.after L|next=>exact L.elim|brk=>exact L.elim|cont=>exact L.elim
set_option tactic.hygienic true in
def a76{nm:Nm}{W W':Gf}{P:Program}{w:World}{K:Fg}{mg:Zs}{G:Heap}{k:Nat}{fr B:Addr}{fd:FuncData}{st:Stmt}{xn Y:Str}{L:List Stmt}{rf:MW.Fn}{j1:Nat}{p1 p2 p3 p4 p5 p6 p7 p8 p9 q0 qk qq:Pos}(U:Fun K xn Y st fr fd)(hb:Binds K fd ["call"] [])
 (Vu:Bs st=.Assign [.Name "error" p1] (.Constant .none j1 p2) p3::.Try [.Expr (.Call (.Name "call" p4) [] [] p5) p6] [.ExceptHandler (some (.Name "MapError" p7)) (some "e") [.Assign [.Name "error" p8] (.Name "e" p9) q0] qk] [] [] qq::L)
 (S:Q3 ["call", "error", "e", "kinds"] ["call"] (my st)) (n0:(my st).names.lookup ("call" : Str)=some .local) (n1:(my st).names.lookup ("error" : Str)=some .local) (n2:(my st).names.lookup ("e" : Str)=some .local) (nB:(my st).names.lookup ("MapError" : Str)=some .globalImplicit)
 (mB:mg "MapError" = some (.ref B)) (q6:∀c C,nm.xc c=some C->ab3 K C B=true) (zz:∀c M,W.rfd c M=rf.aim W' c M) (Z4:rf.ns=4)
 (q4:∀(J:Value)(A:Around)(Z:List Env)(s:Shared)(H:Hp)(E:XK),Ah (k+3) (A.deeper (PyProof.Rows.envOfC Y (my st) s.heap.objs.size fr J))->Pb (Kd CX0 P w K mg G ["call", "error", "e", "kinds"] Y (my st) fr J A Z s H E).nox L (tSs nm W' K (λ_ _ _=>False) rf.body)) :
 ajv nm P w K mg G W k fr:=by
 refine⟨λA Z s H Q fa vs n f hr e0 q3 q7 q5 th hq=>?_⟩;obtain⟨ι,M,ds,c,M1,d,M2,SM,r,l,hc,R,q⟩:=hq;have KX:K.In s.heap:=e0.mod.kin.keeps λb o e=>(e0.bs b o e).1
 have bd:=hb s [.ref fa] KX rfl;obtain⟨oc,od,kV,zv,pm,an,J,ct,zw,rfl,lk,Xz⟩:=U.ex;refine azu (k:=k+3) (vs:=[.ref fa]) (us:=[.ref fa]) (E:=E0) lk Xz S rfl hr e0 bd (.cons rfl .nil) (λqv=>?_);rw[Vu];have a1:PS (Kd CX0 P w K mg G ["call", "error", "e", "kinds"] Y (my st) fr J A Z s H E0).nox (.Assign [.Name "error" p1] (.Constant .none j1 p2) p3) (ai1 (tC .non) (Vt 1)):=Zr amk (Q0 S.nd rfl (.inl n1) (.inr n1));have a2:=asv (X:=(Kd CX0 P w K mg G ["call", "error", "e", "kinds"] Y (my st) fr J A Z s H E0).nox) (body:=[.Expr (.Call (.Name "call" p4) [] [] p5) p6]) (b0:=.Assign [.Name "error" p8] (.Name "e" p9) q0) (suite:=[]) (mx := "MapError") (n := "e") (np:=p7) (hp:=qk) (pos:=qq) (B:=B) (i:=2)
  (tb:=λE=>ar4 (amo (fun σ H Q=>σ[0]?=some (some (.ref fa))/\spE nm W K n f vs H Q E)) agy) (th:=ar4 (ai1 (ayk 2) (Vt 1)) agy) rfl ⟨rfl,rfl⟩ S.nd rfl n2 nB mB (by decide)
  (λpn xe E q8=>Nx (agz (ao5 (k:=k) (X:=xb (Kd CX0 P w K mg G ["call", "error", "e", "kinds"] Y (my st) fr J A Z s H E0).nox pn xe) (sA:=s) (HA:=H) (oA:=Z) rfl (.inl n0) (by decide) (by decide) (qv.mono (by lia)) rfl q8 rfl rfl rfl q3 q7 q5 th)) U8)
  (λpn e=>Nx (Zr (Vs (i:=2) rfl (.inl n2) (by decide) (by decide)) (Q0 S.nd rfl (.inl n1) (.inr n1))) U8)
 have a3:=q4 J A Z s H E0 qv;refine⟨_,(Nx a1 (Nx a2 a3)).nox,?_⟩;dsimp only[ar4,ai1,tC,Vt,awm,amo,agy,ayk];refine⟨rfl,ι,M,ds,c,M1,SM,r,l,hc,λC hC y H1 le S1=>⟨C,rfl,q6 c C hC,λe he=>⟨.ref e,rfl,?_⟩⟩⟩;rw[zz] at R;unfold MW.Fn.aim at R;obtain⟨⟨fl,zq⟩,M3,e1,e2⟩:=gn R;obtain⟨S2,Ao⟩:=S1.new (o:=.exc c) (H':=upd H1 e (.ext (XAt e C))) he (λa u z=>by rw[jb (mz z he)];exact z) λ_=>⟨C,qw,hC⟩
 have rp:Rep K (y.add e) (upd H1 e (.ext (XAt e C))) (.ref M1.length) (.ref e):=.ref (by show(y.l++[e])[M1.length]?=some e;rw[<- S1.len];simp);refine⟨y.add e,_,_,fl,zq,M3,S2,?_,e1,λq1 H3 zk q2 S3 R3=>?_⟩
 .rw[Z4]
  exact .skp (.has rp (.skp (.skp .nil)))
 .cases fl with
  |ret d'=>cases e2;exact λv rv=>q q1 H3 v ((le.trans Ao).trans q2) S3 rv
  |_=>cases e2
end Sm
namespace Ck
open PySem L2 Sm
open MW (Ex Dn OEx Mq Cu rm Lv Tg Res dg MO Gf Cp Op2 Blt Bm Kx Src)
structure Tab where
 fns:List (Option (Str×Nat))
 at7:List (Str×Int)
 xcs:List (Str×Bool)
 rx:Str
 lp:Pos
noncomputable abbrev at8:List Value:=[.type "ValueError",.type "Exception",.type "BaseException",.type "object"]
noncomputable def Oa:List Str:=["len", "tuple", "list", "max", "min", "isinstance", "range", "enumerate", "set", "zip", "all", "bool", "sorted", "dict", "ValueError"]
structure ahm(T:Tab)(nm:Nm)(W:Gf)(k:Nat)(P:Program)(w:World)(K:Fg)(mg:Zs)(base:Heap):Prop where
 fn:∀f x n,T.fns[f]?=some (some (x,n))->∃fa fd ps,Jt P w K mg base CX0 k fa fd ps (spF nm W K n f)/\Jt P w K mg base (CXE P w) k fa fd ps (spE nm W K n f)/\mg x=some (.ref fa)/\PySem.W.keepIn K (.ref fa)=true/\Binds K fd ps []
 cs:∀x i,(x,i)∈T.at7->∃t,mg x=some (.int i t)
 bt:∀x∈Oa,mg x=none
 xr:∀j x,T.xcs[j]?=some (x,true)->∃C,mg x=some (.ref C)/\nm.xc (j+1)=some C/\afc K C at8 "ValueError.__new__"
 xt:∀j x b,T.xcs[j]?=some (x,b)->∃D,mg x=some (.ref D)/\∀c C,nm.xc c=some C->PySem.W.kitOne K (.ref C) (.ref D)=some (c==j+1)
 xv:∀c C,nm.xc c=some C->afd K C=true/\PySem.W.kitOne K (.ref C) (.type "ValueError")=some true
 rf:∃fr,ajv nm P w K mg base W k fr/\mg T.rx=some (.ref fr)/\PySem.W.keepIn K (.ref fr)=true
 bm:BMain mg base
structure Ctx where
 N:List Str
 sc:List (Str×NameKind)
 fn:Bool
 own:List Str
 lm:Bool
structure Em(T:Tab)(nm:Nm)(W:Gf)(k:Nat)(c:Ctx)(X:Cx):Prop where
 N:X.N=c.N
 nd:c.N.Nodup
 sc:X.env.scope.names=c.sc
 kd:X.env.scope.kind=.function
 calm:X.calm=true
 room:Ah (k+16) X.A
 fnl:c.fn=true->(∀n,X.fn n=true)/\PassesOwn (model X.prog X.w) X.A X.env X.xe
 tab:ahm T nm W k X.prog X.w X.K X.mg X.base
 ow:∀n,c.own.contains n=true->X.fn n=true
 lam:c.lm=true->∃cc P,X.env.code=.ref cc/\PySem.W.codeHdIn X.K cc P=true/\nm.tb=some (P,T.lp,X.env.qual++"<lambda>")
noncomputable def Lf(n:Str):Bool:=!(n==("__debug__" : Str))&&(!(n==("__classdict__" : Str))&&!(n==("__name__" : Str)))
noncomputable def ajy(c:Ctx)(n:Str):Bool:=match c.sc.lookup n with|some .local=>true|some .cell=>true|some .free=>true|_=>false
noncomputable def a0l(c:Ctx)(n:Str):Bool:=match c.sc.lookup n with|some .local=>true|some .cell=>c.fn||c.own.contains n|_=>false
def W2(c:Ctx)(n:Str):Bool:=Lf n&&(match c.sc.lookup n with|some .globalImplicit=>true|_=>false)
noncomputable def Ys(c:Ctx)(i:Nat)(n:Str):Bool:=match c.N[i]? with|some m=>m==n|none=>false
def Bo:List Expr->Bool
 |[]=>true|e::r=>noStar e&&Bo r
noncomputable def ao7:Expr->Bool
 |.Name ..=>true|.Attribute ..=>true|.Subscript ..=>true|.Call (.Attribute ..) ..=>true|_=>false
def ju(h:Lf n=true):(n==("__debug__" : Str))=false/\(n==("__classdict__" : Str))=false/\n≠"__name__" := by simp only[Lf,az,Bool.not_eq_true'] at h;exact⟨h.1,h.2.1,λz=>by have:=h.2.2;rw[z] at this;simp at this⟩
set_option tactic.hygienic true in
def a0m(h:Em T nm W k c X)(Z:ajy c n=true):Vis X.env.scope n:=by unfold Vis;rw[h.sc];unfold ajy at Z;split at Z<;>rename_i e<;>first|exact .inl e|exact .inr (.inl e)|exact .inr (.inr e)|cases Z
set_option tactic.hygienic true in
def a0n(h:Em T nm W k c X)(Z:a0l c n=true):L2.Loc X.env.scope n/\(X.fn n=true\/X.env.scope.names.lookup n=some .local):=by
 unfold L2.Loc;rw[h.sc];unfold a0l at Z;split at Z
 .rename_i e;exact⟨.inl e,.inr e⟩
 .rename_i e;rcases(Bool.or_eq_true _ _).mp Z with z|z
  .exact⟨.inr e,.inl ((h.fnl z).1 n)⟩
  .exact⟨.inr e,.inl (h.ow n z)⟩
 .cases Z
set_option tactic.hygienic true in
def Dl(h:Em T nm W k c X)(Z:W2 c n=true):Gl X n/\Lf n=true:=by
 unfold W2 at Z;rw[az] at Z;refine⟨?_,Z.1⟩;have Z:=Z.2;unfold Gl Env.kindOf;rw[h.sc];split at Z
 .rename_i e;exact e
 .cases Z
set_option tactic.hygienic true in
def slot_of(h:Em T nm W k c X)(Z:Ys c i n=true):X.N[i]?=some n:=by
 rw[h.N];unfold Ys at Z;split at Z
 .rename_i m e;rw[e,eq_of_beq Z]
 .cases Z
theorem Wh{Z:Env}:∀{G:Y3},Bo G=true->starEach G Z=G.map λe=>(false,eval e Z)
 |[],_=>rfl
 |e::r,h=>by
  simp only[Bo,az] at h;rw[j6 h.1,Wh h.2];rfl
def u5(h:Bo Z=true):(backTo pos (starEach Z env)).any (·.1)=false:=by rw[Wh h];simp[backTo]
def afo(h:Bo Z=true):(backTo pos (starEach Z env)).all (λx=>!x.1)=true:=by rw[Wh h];simp[backTo]
set_option tactic.hygienic true in
def Hd(h:ao7 o=true):attributeBase o n env (eval o env)=eval o env:=by
 cases o<;>try first|rfl|(cases h;done)
 rename_i f Y Z p;cases f<;>first|rfl|(cases h)
noncomputable def Cw{Z:Type}(o:Option Z)(f:Z->Bool):Bool:=match o with|some x=>f x|none=>false
def jo(h:Cw o f=true):∃x,o=some x/\f x=true:=by
 cases o with
 |none=>cases h|some x=>exact⟨x,rfl,h⟩
noncomputable def Tn{α:Type}(l:List α):Option α:=match l with|[x]=>some x|_=>none
def Ca(h:Tn l=some x):l=[x]:=by
 cases l with
 |nil=>cases h
 |cons y r=>cases r with
  |nil=>cases h;rfl|cons _ _=>cases h
def Ui{Z:Type}{P:Z->Prop}{o:Option {x // P x}}{q:Z}(h:o.map Subtype.val=some q):P q:=by
 cases o with
 |none=>cases h|some x=>cases h;exact x.2
noncomputable def Pg(a:Expr):Option Str:=Option.map Subtype.val (α:={q:Str // ∃p,a=.Name q p}) (match a with|.Name n p=>some ⟨n,p,rfl⟩|_=>none)
noncomputable def ajz(a:Expr):Option Const:=Option.map Subtype.val (α:={q:Const // ∃k p,a=.Constant q k p}) (match a with|.Constant n k p=>some ⟨n,k,p,rfl⟩|_=>none)
noncomputable def a8a(a:Expr):Option (Expr×Operator×Expr):=Option.map Subtype.val (α:={q:Expr×Operator×Expr // ∃p,a=.BinOp q.1 q.2.1 q.2.2 p}) (match a with|.BinOp l o r p=>some ⟨(l,o,r),p,rfl⟩|_=>none)
noncomputable def dUn(a:Expr):Option (UnaryOp×Expr):=Option.map Subtype.val (α:={q:UnaryOp×Expr // ∃p,a=.UnaryOp q.1 q.2 p}) (match a with|.UnaryOp o l p=>some ⟨(o,l),p,rfl⟩|_=>none)
noncomputable def a8b(a:Expr):Option (Expr×List CmpOp×List Expr):=Option.map Subtype.val (α:={q:Expr×List CmpOp×List Expr // ∃p,a=.Compare q.1 q.2.1 q.2.2 p}) (match a with|.Compare l o r p=>some ⟨(l,o,r),p,rfl⟩|_=>none)
noncomputable def aww(a:Expr):Option (BoolOp×List Expr×Pos):=Option.map Subtype.val (α:={q:BoolOp×List Expr×Pos // a=.BoolOp q.1 q.2.1 q.2.2}) (match a with|.BoolOp o l p=>some ⟨(o,l,p),rfl⟩|_=>none)
noncomputable def a0o(a:Expr):Option (Expr×Expr×Expr):=Option.map Subtype.val (α:={q:Expr×Expr×Expr // ∃p,a=.IfExp q.1 q.2.1 q.2.2 p}) (match a with|.IfExp t l r p=>some ⟨(t,l,r),p,rfl⟩|_=>none)
noncomputable def aj0(a:Expr):Option (List Expr):=Option.map Subtype.val (α:={q:List Expr // ∃k p,a=.Tuple q k p}) (match a with|.Tuple l k p=>some ⟨l,k,p,rfl⟩|_=>none)
noncomputable def a0p(a:Expr):Option (List Expr):=Option.map Subtype.val (α:={q:List Expr // ∃p,a=.List q p}) (match a with|.List l p=>some ⟨l,p,rfl⟩|_=>none)
noncomputable def a0q(a:Expr):Option (List (Option Expr)×List Expr):=Option.map Subtype.val (α:={q:List (Option Expr)×List Expr // ∃p,a=.Dict q.1 q.2 p}) (match a with|.Dict k v p=>some ⟨(k,v),p,rfl⟩|_=>none)
noncomputable def ao8(a:Expr):Option (Expr×Expr):=Option.map Subtype.val (α:={q:Expr×Expr // ∃p,a=.Subscript q.1 q.2 p}) (match a with|.Subscript l r p=>some ⟨(l,r),p,rfl⟩|_=>none)
noncomputable def dSl(a:Expr):Option (Option Expr×Option Expr×Option Expr):=Option.map Subtype.val (α:={q:Option Expr×Option Expr×Option Expr // ∃p,a=.Slice q.1 q.2.1 q.2.2 p}) (match a with|.Slice l r s p=>some ⟨(l,r,s),p,rfl⟩|_=>none)
noncomputable def ao9(a:Expr):Option (Expr×List Expr×List Keyword×Pos):=Option.map Subtype.val (α:={q:Expr×List Expr×List Keyword×Pos // a=.Call q.1 q.2.1 q.2.2.1 q.2.2.2}) (match a with|.Call f l k p=>some ⟨(f,l,k,p),rfl⟩|_=>none)
noncomputable def a8c(a:Expr):Option (Expr×Str×Pos):=Option.map Subtype.val (α:={q:Expr×Str×Pos // a=.Attribute q.1 q.2.1 q.2.2}) (match a with|.Attribute l n p=>some ⟨(l,n,p),rfl⟩|_=>none)
noncomputable def a8d(a:Expr):Option (Arguments×Expr×Scope×Pos):=Option.map Subtype.val (α:={q:Arguments×Expr×Scope×Pos // a=.Lambda q.1 q.2.1 q.2.2.1 q.2.2.2}) (match a with|.Lambda l e s p=>some ⟨(l,e,s,p),rfl⟩|_=>none)
noncomputable def adf(a:Expr):Option (Expr×List Comprehension×Scope):=Option.map Subtype.val (α:={q:Expr×List Comprehension×Scope // ∃p,a=.ListComp q.1 q.2.1 q.2.2 p}) (match a with|.ListComp e g s p=>some ⟨(e,g,s),p,rfl⟩|_=>none)
def Gj(h:Pg a=some n):∃p,a=.Name n p:=(Ui h :)
def Rf(h:ajz a=some n):∃k p,a=.Constant n k p:=(Ui h :)
def at9(h:a8a a=some (l,o,r)):∃p,a=.BinOp l o r p:=(Ui h :)
def apa(h:dUn a=some (o,l)):∃p,a=.UnaryOp o l p:=(Ui h :)
def aua(h:a8b a=some (l,o,r)):∃p,a=.Compare l o r p:=(Ui h :)
def apb(h:aww a=some (o,r,p)):a=.BoolOp o r p:=(Ui h :)
def aub(h:a0o a=some (t,l,r)):∃p,a=.IfExp t l r p:=(Ui h :)
def Rg(h:aj0 a=some l):∃k p,a=.Tuple l k p:=(Ui h :)
def ahn(h:a0p a=some l):∃p,a=.List l p:=(Ui h :)
def aho(h:a0q a=some (k,l)):∃p,a=.Dict k l p:=(Ui h :)
def aaj(h:ao8 a=some (l,r)):∃p,a=.Subscript l r p:=(Ui h :)
def a0r(h:dSl a=some (l,r,s)):∃p,a=.Slice l r s p:=(Ui h :)
def adg(h:ao9 a=some (f,l,k,p)):a=.Call f l k p:=(Ui h :)
def auc(h:a8c a=some (l,n,p)):a=.Attribute l n p:=(Ui h :)
def aud(h:a8d a=some (l,e,s,p)):a=.Lambda l e s p:=(Ui h :)
def Wi(h:adf a=some (e,g,s)):∃p,a=.ListComp e g s p:=(Ui h :)
def dCN(a:Expr):Option (Str×List Expr):=(ao9 a).bind λq=>if q.2.2.1.isEmpty then(Pg q.1).map λn=>(n,q.2.1) else none
set_option tactic.hygienic true in
def Ja(h:dCN a=some (n,l)):∃p p',a=.Call (.Name n p) l [] p':=by
 obtain⟨⟨f,L,k,p⟩,G,Z⟩:=fc.mp h;split at Z
 .rename_i Y
  obtain⟨R,C,J⟩:=bw.mp Z;obtain⟨p',e⟩:=Gj C;have e:f=_:=e;have Y:k=[]:=qt.mp Y;cases J;exact⟨p',p,by rw[adg G,e,Y]⟩
 .cases Z
def dCA(a:Expr):Option (Expr×Str×Pos×List Expr×Pos):=(ao9 a).bind λq=>if q.2.2.1.isEmpty then(a8c q.1).map λn=>(n.1,n.2.1,n.2.2,q.2.1,q.2.2.2) else none
set_option tactic.hygienic true in
def a0s(h:dCA a=some (o,n,L,l,p)):a=.Call (.Attribute o n L) l [] p:=by
 obtain⟨⟨f,y,k,p'⟩,G,Z⟩:=fc.mp h;split at Z
 .rename_i Y
  obtain⟨⟨S,u,C⟩,R,J⟩:=bw.mp Z;have e:f=_:=auc R;have Y:k=[]:=qt.mp Y;cases J;rw[adg G,e,Y]
 .cases Z
noncomputable def a8e(l:Y3):List Str:=l.filterMap Pg
noncomputable def Eo(e:Expr):List Str:=match aj0 e with|some l=>a8e l|none=>a8e [e]
noncomputable def hid(i:Nat):Str:=⟨#[0,i]⟩
def aj2(Z:Ya)(p:Str×Nat):Str:=if Z.contains p.1=true then hid p.2 else p.1
noncomputable def Uw(N Z:Ya):List Str:=N.zipIdx.map (aj2 Z)++Z
noncomputable def aue(c:Ctx)(Z:Yf):List (Str×NameKind):=Z.map λy=>if(y.2==NameKind.free&&c.sc.lookup y.1==some .cell) then(y.1,NameKind.cell) else(y.1,y.2)
def adh(c:Ctx)(Z:Scope)(G:Ya):Ctx:=⟨Uw c.N G,aue c Z.names,false,(Z.names.filter λy=>y.2==NameKind.cell).map (·.1),false⟩
def a0t(c:Ctx)(Z:Scope)(G:Ya):Bool :=
 decide (Z.kind=.function)&&(Z.names.all (λy=>Z.names.lookup y.1==some y.2) &&
 (Z.names.all (λy=>!(y.2==NameKind.free)||(c.sc.lookup y.1==some .cell||c.sc.lookup y.1==some .free))&&(decide ((Uw c.N G).Nodup) &&
 c.N.zipIdx.all (λp=>!(ajy (adh c Z G) (aj2 G p))||(aj2 G p==p.1&&Z.names.lookup (aj2 G p)==some .free)))))
noncomputable def a8f:Op2->Operator
 |.add=>.Add|.sub=>.Sub|.mul=>.Mult|.fdiv=>.FloorDiv|.mod=>.Mod|.pow=>.Pow
noncomputable def a8g:Cp->Option CmpOp
 |.eq=>some .Eq|.ne=>some .NotEq|.lt=>some .Lt|.le=>some .LtE|.gt=>some .Gt|.ge=>some .GtE|.inn=>some .In|.T4=>some .NotIn
 |.is=>some .Is|.Xo=>some .IsNot
noncomputable def a0u:Blt->Option Str
 |.len=>some "len"|.tuple=>some "tuple"|.list=>some "list"|.dict=>some "dict"|.max=>some "max"|.min=>some "min"
 |.all=>some "all"|_=>none
noncomputable def bmN:Bm->Option Str
 |.append=>some "append"|.index=>some "index"|.get=>some "get"|.pop=>some "pop"|.Hq=>some "index"
def a0v(T:Tab)(c:Ctx)(d:MW.D)(a:Expr):Bool :=
 match d with
 |.int i=>Cw (ajz a) (λk=>decide (k=.int i))||Cw (Pg a) λn=>W2 c n&&T.at7.contains (n,i)
 |.bl i=>Cw (ajz a) λk=>decide (k=.bool i)
 |.non=>Cw (ajz a) λk=>decide (k=.none)
 |.str s=>Cw (ajz a) λk=>decide (k=.str s)
 |_=>false
def tg1(c:Ctx)(Z i:Nat)(e:Expr):Bool:=Cw (Pg e) λn=>Ys c i n&&(a0l c n&&decide (Z<=i))
def aj3(c:Ctx)(Z:Nat):List Nat->List Expr->Bool
 |[],[]=>true|i::is,e::ts=>tg1 c Z i e&&aj3 c Z is ts|_,_=>false
def tgB(c:Ctx)(Z:Nat)(t:Tg)(e:Expr):Bool :=
 match t with
 |.name i=>tg1 c Z i e|.names is=>Cw (aj0 e) λG=>aj3 c Z is G
def Rh(e:Expr):Bool:=(a0o e).isNone
noncomputable def fnB(l:List (Option (Str×Nat)))(f:Nat)(n:Str)(k:Nat):Bool:=decide (l[f]?=some (some (n,k)))
def ahp(c:Ctx)(k:Nat)(t:Tg)(g:Comprehension)(Z:Scope):Bool :=
 a0t c Z (Eo g.target)&&((k==(Eo g.target).length)&&(tgB (adh c Z (Eo g.target)) c.N.length t g.target&&(Jx g.iter&&decide (g.is_async=0))))
def apc(o:BoolOp)(a:Expr)(x y:Expr->Bool):Bool :=
 Cw (aww a) λq=>decide (q.1=o)&&(match q.2.1 with
  |l::r::rest=>(Rh l&&x l)&&(match rest with|[]=>Rh r&&y r|_::_=>y (.BoolOp o (r::rest) q.2.2))
  | _=>false)
def apd(c:Ctx)(G:Str)(a:Expr)(f:Expr->Bool):Bool:=Cw (dCN a) λq=>match q.2 with
 |[l,t]=>Cw (Pg t) λZ=>(decide (q.1 = "isinstance")&&decide (Z=G))&&((W2 c q.1&&W2 c Z)&&(noStar l&&f l))
 |_=>false
def aak(h:apd c ty a f=true):∃l p p1 R,a=.Call (.Name "isinstance" p) [l,.Name ty p1] [] R/\W2 c "isinstance" = true/\W2 c ty=true/\noStar l=true/\f l=true:=by
 obtain⟨⟨n,ls⟩,Z,h0⟩:=jo h;clear h;obtain⟨p,p',rfl⟩:=Ja Z
 match ls,Z,h0 with
 |[l,t],Z,h =>
  replace h:=jo (f:=λG=>(decide (n = "isinstance")&&decide (G=ty))&&((W2 c n&&W2 c G)&&(noStar l&&f l))) h;obtain⟨G,h2,h⟩:=h;obtain⟨R,rfl⟩:=Gj h2;simp only[az,gq] at h;obtain⟨⟨rfl,rfl⟩,⟨h3,h4⟩,h5,h6⟩:=h;exact⟨l,p,R,p',rfl,h3,h4,h5,h6⟩
 |[],_,h=>cases h|[_],_,h=>cases h|_::_::_::_,_,h=>cases h
def afp(c:Ctx)(Z G:Str)(a:Expr)(f:Expr->Bool):Bool:=Cw (dCN a) λq=>Cw (Tn q.2) λr=>Cw (dCN r) λu=>Cw (Tn u.2) λl=>((decide (q.1=Z)&&decide (u.1=G))&&(W2 c q.1&&W2 c u.1))&&(noStar l&&f l)
def Vc(h:afp c ty G a f=true):∃l p p1 Z p3,a=.Call (.Name ty p) [.Call (.Name G p1) [l] [] Z] [] p3/\W2 c ty=true/\W2 c G=true/\noStar l=true/\f l=true:=by replace h:=jo h;obtain⟨⟨n,ls⟩,R,h⟩:=h;obtain⟨p,p',rfl⟩:=Ja R;replace h:=jo h;obtain⟨r,h2,h⟩:=h;cases Ca h2;replace h:=jo h;obtain⟨⟨m,ms⟩,h3,h⟩:=h;obtain⟨Z,q2,rfl⟩:=Ja h3;replace h:=jo h;obtain⟨l,h4,h⟩:=h;cases Ca h4;simp only[az,gq] at h;obtain⟨⟨⟨rfl,rfl⟩,h5,h6⟩,h7,h8⟩:=h;exact⟨l,p,Z,q2,p',rfl,h5,h6,h7,h8⟩
noncomputable def xnO(T:Tab)(k:Nat):Option Str:=match k with|0=>some "ValueError"|k+1=>(T.xcs[k]?).map (·.1)
noncomputable def noA(a:Arguments):Bool:=(a.posonlyargs.isEmpty&&(a.args.isEmpty&&a.vararg.isNone))&&((a.kwonlyargs.isEmpty&&a.kw_defaults.isEmpty)&&(a.kwarg.isNone&&a.defaults.isEmpty))
def a0w(h:noA a=true):a=noArgs:=by obtain⟨a1,R,G,a4,a5,a6,Z⟩:=a;simp only[noA,az,qt,Option.isNone_iff_eq_none] at h;obtain⟨⟨rfl,rfl,rfl⟩,⟨rfl,rfl⟩,rfl,rfl⟩:=h;rfl
noncomputable def two{Z:Type}(l:List Z):Option (Z×Z):=match l with|[x,y]=>some (x,y)|_=>none
def a0x(h:two l=some (x,y)):l=[x,y]:=by
 match l,h with
 |[_,_],h=>cases h;rfl|[],h=>cases h|[_],h=>cases h|_::_::_::_,h=>cases h
noncomputable def dV(e:Ex):Option Nat:=Option.map Subtype.val (α:={i:Nat // e=.var i}) (match e with|.var i=>some ⟨i,rfl⟩|_=>none)
def awx(h:dV e=some i):e=.var i:=(Ui h :)
noncomputable def a8h(l:Dn):Option (Ex×Ex):=match l with|.cons x (.cons y .nil)=>some (x,y)|_=>none
def auf(h:a8h l=some (x,y)):l=.cons x (.cons y .nil):=by
 match l,h with
 |.cons _ (.cons _ .nil),h=>cases h;rfl|.nil,h=>cases h|.cons _ .nil,h=>cases h|.cons _ (.cons _ (.cons _ _)),h=>cases h
def a0y(x y g:Str)(Z:Scope):Bool :=
 (decide (Z.kind=.function)&&(!Z.isCoroutine&&(!Z.isGenerator&&!(x==y))))&&((Z.names.all (λz=>!(z.2==NameKind.cell)&&!(z.2==NameKind.local))&&Z.names.all (λz=>!(z.2==NameKind.free)||(z.1==x||z.1==y))) &&
 ((Z.names.lookup x==some NameKind.free&&Z.names.lookup y==some NameKind.free)&&(Z.names.lookup g==some NameKind.globalImplicit&&Lf g)))
def auh(h:a0y x y g sc=true):Vz [x,y] sc/\(x,NameKind.free)∈sc.names/\(y,NameKind.free)∈sc.names/\(∀z∈sc.names,z.2=.free->z.1=x\/z.1=y)/\sc.names.lookup g=some .globalImplicit/\Lf g=true:=by
 simp only[a0y,az,gq,Bool.not_eq_true',v5] at h;obtain⟨⟨h1,h2,h3,h4⟩,⟨h5,h6⟩,⟨Z,G⟩,h9,R⟩:=h;have Z:=eq_of_beq Z;have G:=eq_of_beq G;have fr:∀z∈sc.names,z.2=.free->z.1=x\/z.1=y:=λz m e=>by have:=h6 z m;rw[e] at this;simpa using this
 have nl:∀z,(z,NameKind.local)∉sc.names:=λz m=>by have:=(h5 _ m).2;simp at this
 have nc:∀z,(z,NameKind.cell)∉sc.names:=λz m=>by have:=(h5 _ m).1;simp at this
 refine⟨⟨h1,h2,h3,?_,λz v=>?_,λz m=>?_,λz m e=>nc z.1 (e▸m)⟩,L2.mem_of_lookup Z,L2.mem_of_lookup G,fr,eq_of_beq h9,R⟩
 .have:x≠y:=λe=>by rw[e] at h4;simp at h4
  simp[this]
 .rcases v with e|e|e
  .exact absurd (L2.mem_of_lookup e) (nl z)
  .exact absurd (L2.mem_of_lookup e) (nc z)
  .exact⟨by have:=fr _ (L2.mem_of_lookup e) rfl;simpa using this,e⟩
 .have m:z=x\/z=y:=by simpa using m
  rcases m with e|e<;>rw[e]
  .exact .inr (.inr Z)
  .exact .inr (.inr G)
def rfB(T:Tab)(c:Ctx)(f:Nat)(G:Dn)(a:Expr):Bool:=Cw (a8h G) λe=>Cw (dV e.1) λi=>Cw (dV e.2) λj=>Cw (dCN a) λq=>Cw (Tn q.2) λl=>Cw (a8d l) λm=>Cw (dCN m.2.1) λu=>Cw (two u.2) λZ=>Cw (Pg Z.1) λx=>Cw (Pg Z.2) λy =>
 (((c.lm&&c.fn)&&(decide (q.1=T.rx)&&W2 c q.1))&&(noA m.1&&decide (m.2.2.2=T.lp)))&&(((Ys c i x&&Ys c j y)&&(c.sc.lookup x==some NameKind.cell&&c.sc.lookup y==some NameKind.cell))&&((Lf x&&Lf y)&&(fnB T.fns f u.1 2&&a0y x y u.1 m.2.2.1)))
mutual
def Bh(T:Tab):Ex->Ctx->Expr->Bool
 |.var i,c,a=>Cw (Pg a) λn=>Ys c i n&&(ajy c n&&Lf n)
 |.cst d,c,a=>a0v T c d a|.bin op x y,c,a=>Cw (a8a a) λq=>decide (q.2.1=a8f op)&&(Bh T x c q.1&&Bh T y c q.2.2)
 |.neg x,c,a=>Cw (dUn a) λq=>decide (q.1=.USub)&&Bh T x c q.2
 |.cmp op x y,c,a=>Cw (a8b a) λq=>Cw (Tn q.2.1) λo=>Cw (Tn q.2.2) λr=>decide (a8g op=some o)&&(Jx r&&(Bh T x c q.1&&Bh T y c r))
 |.and x y,c,a=>apc .And a (Bh T x c) (Bh T y c)|.or x y,c,a=>apc .Or a (Bh T x c) (Bh T y c)|.not x,c,a=>Cw (dUn a) λq=>decide (q.1=.Not)&&(Rh q.2&&Bh T x c q.2)
 |.ite t x y,c,a=>Cw (a0o a) λq=>Rh q.1&&(Bh T t c q.1&&(Bh T x c q.2.1&&Bh T y c q.2.2))
 |.tup es,c,a=>Cw (aj0 a) λl=>decide (Dn.len es<=1000)&&Ob T es c l
 |.lst es,c,a=>Cw (a0p a) λl=>decide (Dn.len es<=1000)&&Ob T es c l
 |.Hr es,c,a=>Cw (a0p a) λl=>decide (Dn.len es<=1000)&&Ob T es c l
 |.aij,_,a=>Cw (a0q a) λq=>q.1.isEmpty&&q.2.isEmpty
 |.Za,_,a=>Cw (a0q a) λq=>q.1.isEmpty&&q.2.isEmpty
 |.ix x y,c,a=>Cw (ao8 a) λq=>aae q.2&&(Bh T x c q.1&&Bh T y c q.2)
 |.cut x lo hi,c,a=>Cw (ao8 a) λq=>Cw (dSl q.2) λs=>s.2.2.isNone&&(Bh T x c q.1&&(a0z T lo c s.1&&a0z T hi c s.2.1))
 |.call f es,c,a=>Cw (dCN a) λq=>(fnB T.fns f q.1 (Dn.len es)&&(W2 c q.1&&!q.2.isEmpty))&&Ob T es c q.2
 |.aik f es,c,a=>rfB T c f es a|.blt .Gn (.cons x .nil),c,a=>afp c "len" "set" a (Bh T x c)|.blt .isBool (.cons x .nil),c,a=>apd c "bool" a (Bh T x c)|.blt (.isE k) (.cons x .nil),c,a=>Cw (xnO T k) λn=>apd c n a (Bh T x c)
 |.blt .De (.cons x .nil),c,a=>afp c "sorted" "set" a (Bh T x c)|.blt .isTuple (.cons x .nil),c,a=>apd c "tuple" a (Bh T x c)|.blt b es,c,a=>Cw (dCN a) λq=>(decide (a0u b=some q.1)&&(W2 c q.1&&!q.2.isEmpty))&&Ob T es c q.2
 |.bm m o es,c,a=>Cw (dCA a) λq=>((decide (bmN m=some q.2.1)&&ao7 q.1)&&(decide (q.2.2.2.1.length<29)&&((q.2.2.1.endLine==q.2.2.2.2.line)&&!q.2.2.2.1.isEmpty)))&&(Bh T o c q.1&&Ob T es c q.2.2.2.1)
 |.comp v k t it e,c,a=>Cw (adf a) λq=>Cw (Tn q.2.1) λg=>(ahp c k t g q.2.2&&g.ifs.isEmpty)&&(aui T it c g.target g.iter&&Bh T e (adh c q.2.2 (Eo g.target)) q.1)
 |.Eb v k t it i e,c,a=>Cw (adf a) λq=>Cw (Tn q.2.1) λg=>Cw (Tn g.ifs) λd=>(ahp c k t g q.2.2&&Rh d)&&(aui T it c g.target g.iter&&(Bh T i (adh c q.2.2 (Eo g.target)) d&&Bh T e (adh c q.2.2 (Eo g.target)) q.1))
 |.aeo x,c,a=>afp c "tuple" "range" a (Bh T x c)|.Uo x,c,a=>afp c "list" "range" a (Bh T x c)
def Ob(T:Tab):Dn->Ctx->List Expr->Bool
 |.nil,_,a=>a.isEmpty|.cons e es,c,a=>match a with|l::ls=>noStar l&&(Bh T e c l&&Ob T es c ls)|_=>false
def a0z(T:Tab):OEx->Ctx->Option Expr->Bool
 |.none,_,a=>a.isNone|.some e,c,a=>Cw a (Bh T e c)
def aui(T:Tab):Mq->Ctx->Expr->Expr->Bool
 |.val e,c,_,a=>Bh T e c a|.Jg e,c,_,a=>Cw (dCN a) λq=>Cw (Tn q.2) λl=>(decide (q.1 = "range")&&W2 c q.1)&&(noStar l&&Bh T e c l)
 |.enm e,c,tg,a=>Cw (dCN a) λq=>Cw (Tn q.2) λl=>((aj0 tg).isSome&&(decide (q.1 = "enumerate")&&W2 c q.1))&&(noStar l&&Bh T e c l)
 |.zip es,c,tg,a=>Cw (dCN a) λq=>((aj0 tg).isSome&&(decide (q.1 = "zip")&&(W2 c q.1&&!q.2.isEmpty)))&&(decide (Dn.len es=2\/Dn.len es=3)&&Ob T es c q.2)
end
def Ph(h:Em T nm W k c X)(G:Scope):(relabel G X.env).names=aue c G.names:=by
 unfold relabel aue;refine ph λy _=>?_
 obtain⟨n,Z⟩:=y;show(if(Z==NameKind.free&&X.env.scope.kind==.function&&X.env.kindOf n==some .cell)=true then _ else _)=_;have e:(Z==NameKind.free&&X.env.scope.kind==.function&&X.env.kindOf n==some .cell)=(Z==NameKind.free&&c.sc.lookup n==some .cell):=by unfold Env.kindOf;rw[h.kd,h.sc];simp
 rw[e]
def a00(h:Em T nm W k c X)(hb:a0t c sc R=true):Et X (Uw c.N R) sc/\∀C fp s H,Em T nm W k (adh c sc R) (Mm X (Uw c.N R) sc C fp s H):=by
 simp only[a0t,az,gq,v5] at hb;obtain⟨h1,h3,h4,h5,h6⟩:=hb;have Z:∀x kd,(x,kd)∈sc.names->sc.names.lookup x=some kd:=λx kd m=>by have:=h3 (x,kd) m;simpa using this
 refine⟨⟨h1,λy m e=>by rw[Z y.1 y.2 m,e],λy m e=>?_,Z,?_,λi x hi G hv=>?_⟩,λC fp s H=>⟨rfl,h5,Ph h sc,h1,h.calm,h.room,(λz=>by cases z),h.tab,(λn m=>?_),(λz=>by cases z)⟩⟩
 .have:=h4 y m
  rw[e] at this;unfold Env.kindOf;rw[h.sc];simpa using this
 .rw[h.N];simp[Uw]
 .rw[h.N] at hi
  have hl:i<(c.N.zipIdx.map (aj2 R)).length:=by simpa using hi
  unfold Uw at G;rw[dj hl,je,yx] at G;obtain⟨n,hn⟩:∃n,c.N[i]?=some n:=⟨c.N[i],by simp[hi]⟩;rw[hn] at G;have G:aj2 R (n,i)=x:=by simpa using G
  have m:(n,i)∈c.N.zipIdx:=by rw[uo];exact⟨i,by rw[yx,hn];simp⟩
  have q:=h6 (n,i) m;rw[G] at q;have v:ajy (adh c sc R) x=true:=by unfold Vis at hv;rw[Ph h] at hv;unfold ajy;show(match(aue c sc.names).lookup x with|some .local=>true|some .cell=>true|some .free=>true|_=>false)=true;rcases hv with e|e|e<;>rw[e]
  rw[v] at q;simp only[ye,Bool.false_or,az] at q;rw[h.N,hn];have e1:x=n:=eq_of_beq q.1;exact⟨by rw[e1],by have:=q.2;simpa using this⟩
 .obtain⟨y,hy,rfl⟩:=bz.mp (List.contains_iff_mem.mp m)
  obtain⟨h7,h8⟩:=xf.mp hy;show(sc.names.lookup y.1==some .cell)=true;rw[Z y.1 y.2 h7,eq_of_beq h8];rfl
def a8i(h:o=a8f op):Dz X (binaryOp o) (rOp nm X.K (MW.Ey op)):=by
 subst h;cases op with
 |add=>exact a6v|sub=>exact a6r|mul=>exact a6u|fdiv=>exact azy|mod=>exact a6s|pow=>exact a6t
def a8j(Z:Ah 8 X.A)(h:a8g op=some o):Dz X (compareOp o) (rCp nm X.K op):=by
 have G:Ah 6 X.A:=Z.mono (by decide);cases op with
 |eq=>cases h;exact bd2 G|ne=>cases h;exact bd3 G|lt=>cases h;exact bdp|le=>cases h;exact bdq|gt=>cases h;exact bdr|ge=>cases h;exact bds|inn=>cases h;exact bd4 Z|T4=>cases h;exact atb Z|is=>cases h;exact bec|Xo=>cases h;exact at5
def afq(h:Em T nm W k c X)(hb:tg1 c lo i e=true):∃n p,e=.Name n p/\X.N[i]?=some n/\L2.Loc X.env.scope n/\(X.fn n=true\/X.env.scope.names.lookup n=some .local)/\lo<=i:=by obtain⟨n,G,Z⟩:=jo hb;obtain⟨p,rfl⟩:=Gj G;simp only[az,gq] at Z;obtain⟨R,l2⟩:=a0n h Z.2.1;exact⟨n,p,rfl,slot_of h Z.1,R,l2,Z.2.2⟩
theorem ape{T:Tab}{nm:Nm}{W:Gf}{k:Nat}{c:Ctx}{X:Cx}(h:Em T nm W k c X){G:Nat}:∀{is:Y2}{Z:Y3},aj3 c G is Z=true->Lb X Z is/\∀i∈is,G<=i
 |[],[],_=>⟨.nil,by simp⟩|[],_::_,e=>by cases e|_::_,[],e=>by cases e
 |i::is,a::Z,e=>by
  unfold aj3 at e;rw[az] at e;obtain⟨n,p,rfl,e1,e2,R,e4⟩:=afq h e.1;obtain⟨g1,g2⟩:=ape h e.2;refine⟨.cons e1 e2 R g1,λj hj=>?_⟩;rcases cj.mp hj with z|z
  .rw[z];exact e4
  .exact g2 j z
def ahq(h:Em T nm W k c X)(G:tgB c lo t e=true):PG X e (tGt nm X.K t)/\∀i∈Bt t,lo<=i:=by
 have Z:X.N.Nodup:=by rw[h.N];exact h.nd
 cases t with
 |name i =>
  obtain⟨n,p,rfl,e1,e2,R,e4⟩:=afq h G;exact⟨az1 Z e1 e2 R,λi hi=>by rw[yp.mp hi];exact e4⟩
 |names is =>
  obtain⟨ts,h1,h2⟩:=jo G;obtain⟨k0,p,rfl⟩:=Rg h1;obtain⟨g1,g2⟩:=ape h h2;exact⟨as4 h.calm Z g1,g2⟩
structure Got(nm:Nm)(W:Gf)(X:Cx)(a:Expr)(e:Ex):Prop where
 v:PE X a (tE nm W X.K e)
 q:Rh a=true->PT X a (tQ nm W X.K e)
 w:∀op ls p,a=.BoolOp op ls p->PW X a (tQ nm W X.K e)
noncomputable def a8k:Expr->Bool
 |.BoolOp ..=>false|.UnaryOp .Not _ _=>false|.IfExp ..=>false|.Compare ..=>false|_=>true
set_option tactic.hygienic true in
def wz(h:PE X a (tE nm W X.K e))(Y:a8k a=true):Got nm W X a e:=by
 refine⟨h,λC=>a6y h λZ=>?_,λG J p z=>by subst z;cases Y⟩;cases a<;>first|rfl|(cases Y)|skip
 rename_i G x p;cases G<;>first|rfl|cases Y
def a01(h:Em T nm W k c X)(G:a0v T c d a=true):PE X a (tE nm W X.K (.cst d))/\a8k a=true:=by
 cases d with
 |int i =>
  simp only[a0v,Bool.or_eq_true] at G;rcases G with G|G
  .obtain⟨k,R,Z⟩:=jo G
   obtain⟨j,p,rfl⟩:=Rf R;rw[qj Z];exact⟨a6n,rfl⟩
  .obtain⟨n,R,Z⟩:=jo G
   obtain⟨p,rfl⟩:=Gj R;rw[az] at Z;obtain⟨g1,g2⟩:=Dl h Z.1;obtain⟨t,ht⟩:=h.tab.cs _ _ (List.contains_iff_mem.mp Z.2);exact⟨azw g1 ht (ju g2).1,rfl⟩
 |bl i =>
  obtain⟨k,R,Z⟩:=jo G;obtain⟨j,p,rfl⟩:=Rf R;rw[qj Z];exact⟨bdo,rfl⟩
 |non =>
  obtain⟨k,R,Z⟩:=jo G;obtain⟨j,p,rfl⟩:=Rf R;rw[qj Z];exact⟨a6o,rfl⟩
 |str s =>
  obtain⟨k,R,Z⟩:=jo G;obtain⟨j,p,rfl⟩:=Rf R;rw[qj Z];exact⟨a6p,rfl⟩
 |_=>cases G
section
variable{T:Tab}{nm:Nm}{W:Gf}{k:Nat}
def Em.r8(h:Em T nm W k c X):Ah 8 X.A:=h.room.mono (by lia)
theorem Em.mg(h:Em T nm W k c X)(m:n∈Oa):X.mg n=none:=h.tab.bt n m
theorem Uj{c:Ctx}{Z:Nat}:∀{is:Y2}{R:Y3},aj3 c Z is R=true->∀i∈is,Z<=i
 |[],_,_=>by simp|_::_,[],e=>by cases e
 |i::is,a::R,e=>by
  unfold aj3 at e;rw[az] at e;intro j hj;rcases cj.mp hj with z|z
  .obtain⟨n,h1,G⟩:=jo e.1
   simp only[az,gq] at G;rw[z];exact G.2.2
  .exact Uj e.2 j z
def afr(h:tgB c lo t e=true):∀i∈Bt t,lo<=i:=by
 cases t with
 |name j =>
  obtain⟨n,G,Z⟩:=jo h;simp only[az,gq] at Z;intro i R;rw[yp.mp R];exact Z.2.2
 |names is =>
  obtain⟨ts,G,Z⟩:=jo h;exact Uj Z
def apf:(Uw N Z).length-N.length=Z.length:=by simp[Uw]
def Ri(G:Em T nm W k c X)(h:ahp c j t g sc=true) :
 Jx g.iter=true/\g.is_async=0/\Et X (Uw c.N (Eo g.target)) sc/\(∀C Z s H,Em T nm W k (adh c sc (Eo g.target)) (Mm X (Uw c.N (Eo g.target)) sc C Z s H)) /\
 (∀C Z s H,PG (Mm X (Uw c.N (Eo g.target)) sc C Z s H) g.target (tGt nm X.K t))/\(Uw c.N (Eo g.target)).length-X.N.length=j/\∀i∈Bt t,X.N.length<=i:=by
 simp only[ahp,az,gq] at h;obtain⟨h2,h3,R,h5,h6⟩:=h;obtain⟨B,hB⟩:=a00 G h2;exact⟨h5,h6,B,hB,λC Z s H=>(ahq (hB C Z s H) R).1,by rw[G.N,apf];exact(eq_of_beq h3).symm,λi hi=>by rw[G.N];exact afr R i hi⟩
def ahr(h:apc o a x y=true):(∃l r p,a=.BoolOp o [l,r] p/\Rh l=true/\x l=true/\Rh r=true/\y r=true) \/
 ∃l r s Z p,a=.BoolOp o (l::r::s::Z) p/\Rh l=true/\x l=true/\y (.BoolOp o (r::s::Z) p)=true:=by
 obtain⟨⟨o',R,p⟩,h1,G⟩:=jo h;cases apb h1;rw[az] at G;obtain⟨h3,G⟩:=G;cases qj h3;cases R with
 |nil=>cases G
 |cons l R=>cases R with
  |nil=>cases G
  |cons r Z =>
   cases Z with
   |nil =>
    have G:((Rh l&&x l)&&(Rh r&&y r))=true:=G;simp only[az] at G;exact .inl ⟨l,r,p,rfl,G.1.1,G.1.2,G.2.1,G.2.2⟩
   |cons s Z =>
    have G:((Rh l&&x l)&&y (.BoolOp o' (r::s::Z) p))=true:=G;simp only[az] at G;exact .inr ⟨l,r,s,Z,p,rfl,G.1.1,G.1.2,G.2⟩
def a02(hc:Em T nm W k c X)(Z:a0u b=some n)(hg:W2 c n=true)(G:PA X (l::ls) (W0 nm W X.K es))(e2:Bo (l::ls)=true):PE X (.Call (.Name n p) (l::ls) [] p') (tE nm W X.K (.blt b es)):=by
 obtain⟨R,g2⟩:=Dl hc hg;obtain⟨d1,d2,d3⟩:=ju g2;simp only[Bo,az] at e2;have st:=j6 e2.1 ls X.env;have an:=u5 (env:=X.env) (pos:=p') e2.2;have mg:n∈Oa->X.mg n=none:=hc.mg;cases b with
 |len=>cases Z;exact ahd (id := "len") a7o R (mg (by decide+kernel)) (by decide+kernel) G d3 d1 st an|max=>cases Z;exact ahd (id := "max") (a7r hc.calm) R (mg (by decide+kernel)) (by decide+kernel) G d3 d1 st an|all=>cases Z;exact ahd (id := "all") (a70 hc.calm) R (mg (by decide+kernel)) (by decide+kernel) G d3 d1 st an|min=>cases Z;exact ahd (id := "min") (a7t hc.calm) R (mg (by decide+kernel)) (by decide+kernel) G d3 d1 st an|tuple=>cases Z;exact afk (T := "tuple") as8 R (mg (by decide+kernel)) (by decide+kernel) G d3 d1 st an|list=>cases Z;exact afk (T := "list") a0b R (mg (by decide+kernel)) (by decide+kernel) G d3 d1 st an|dict=>cases Z;exact afk (T := "dict") a0f R (mg (by decide+kernel)) (by decide+kernel) G d3 d1 st an|_=>cases Z
def aal{Z:Type}{l:List Z}(h:(!l.isEmpty)=true):∃x r,l=x::r:=by
 cases l with
 |nil=>cases h|cons x r=>exact⟨x,r,rfl⟩
set_option maxHeartbeats 2000000 in
set_option tactic.hygienic true in
mutual
theorem km:∀(e:Ex){c:Ctx}{X:Cx}{a:Expr},Em T nm W k c X->Bh T e c a=true->Got nm W X a e
 |.var i,c,X,a,hc,h=>by
  replace h:=jo h;obtain⟨n,G,h⟩:=h;obtain⟨p,rfl⟩:=Gj G;simp only[az] at h;exact wz (a6m (slot_of hc h.1) (a0m hc h.2.1) (ju h.2.2).1 (ju h.2.2).2.1) rfl
 |.cst d,c,X,a,hc,h=>by
  obtain⟨G,h2⟩:=a01 hc h;exact wz G h2
 |.bin op x y,c,X,a,hc,h=>by
  replace h:=jo h;obtain⟨⟨l,o,r⟩,G,h⟩:=h;obtain⟨p,rfl⟩:=at9 G;simp only[az,gq] at h;exact wz (a6q (a8i h.1) (km x hc h.2.1).v (km y hc h.2.2).v) rfl
 |.neg x,c,X,a,hc,h=>by
  replace h:=jo h;obtain⟨⟨o,l⟩,G,h⟩:=h;obtain⟨p,rfl⟩:=apa G;simp only[az,gq] at h;obtain⟨rfl,h⟩:=h;exact wz (a7d (km x hc h).v) rfl
 |.cmp op x y,c,X,a,hc,h=>by
  replace h:=jo h;obtain⟨⟨l,o,r⟩,G,h⟩:=h;obtain⟨p,rfl⟩:=aua G;replace h:=jo h;obtain⟨o1,h2,h⟩:=h;replace h:=jo h;obtain⟨r1,h3,h⟩:=h;cases Ca h2;cases Ca h3;simp only[az,gq] at h;have g:=a8j (nm:=nm) hc.r8 h.1;have m:=ace h.2.1 o1;exact⟨a6z g (km x hc h.2.2.1).v (km y hc h.2.2.2).v m,λ_=>a65 g (km x hc h.2.2.1).v (km y hc h.2.2.2).v m,λ_ _ _ z=>by cases z⟩
 |.and x y,c,X,a,hc,h=>by
  rcases ahr h with⟨l,r,p,rfl,G,h2,h3,h4⟩|⟨l,r,s,qq,p,rfl,G,h2,h3⟩
  .have g1:=km x hc h2
   have R:=km y hc h4;have w:=awp (pos:=p) (rest:=[]) (g1.q G) (ar0 (R.q h3));exact⟨awo g1.v (awu R.v),λ_=>w.pt,λ_ _ _ _=>w⟩
  .have g1:=km x hc h2
   have R:=km y hc h3;have w:=awp (g1.q G) (R.w _ _ _ rfl);exact⟨awo g1.v R.v,λ_=>w.pt,λ_ _ _ _=>w⟩
 |.or x y,c,X,a,hc,h=>by
  rcases ahr h with⟨l,r,p,rfl,G,h2,h3,h4⟩|⟨l,r,s,qq,p,rfl,G,h2,h3⟩
  .have g1:=km x hc h2
   have R:=km y hc h4;have w:=a68 (pos:=p) (rest:=[]) (g1.q G) (ayn (R.q h3));exact⟨a66 g1.v (awu R.v),λ_=>w.pt,λ_ _ _ _=>w⟩
  .have g1:=km x hc h2
   have R:=km y hc h3;have w:=a68 (g1.q G) (R.w _ _ _ rfl);exact⟨a66 g1.v R.v,λ_=>w.pt,λ_ _ _ _=>w⟩
 |.not x,c,X,a,hc,h=>by
  replace h:=jo h;obtain⟨⟨o,l⟩,G,h⟩:=h;obtain⟨p,rfl⟩:=apa G;simp only[az,gq] at h;obtain⟨rfl,h⟩:=h;have g:=km x hc h.2;exact⟨a67 g.v,λ_=>a69 (g.q h.1),λ_ _ _ z=>by cases z⟩
 |.ite t x y,c,X,a,hc,h=>by
  replace h:=jo h;obtain⟨⟨t',l,r⟩,G,h⟩:=h;obtain⟨p,rfl⟩:=aub G;simp only[az] at h;exact⟨a7a ((km t hc h.2.1).q h.1) (km x hc h.2.2.1).v (km y hc h.2.2.2).v,(λz=>by cases z),λ_ _ _ z=>by cases z⟩
 |.tup es,c,X,a,hc,h=>by
  replace h:=jo h;obtain⟨l,G,h⟩:=h;obtain⟨k0,p,rfl⟩:=Rg G;simp only[az,gq] at h;exact wz (a7b (Gk es hc h.2).1 h.1) rfl
 |.lst es,c,X,a,hc,h=>by
  replace h:=jo h;obtain⟨l,G,h⟩:=h;obtain⟨p,rfl⟩:=ahn G;simp only[az,gq] at h;exact wz (a7c (Gk es hc h.2).1 h.1) rfl
 |.Hr es,c,X,a,hc,h=>by
  replace h:=jo h;obtain⟨l,G,h⟩:=h;obtain⟨p,rfl⟩:=ahn G;simp only[az,gq] at h;exact wz (azz (Gk es hc h.2).1 h.1) rfl
 |.aij,c,X,a,hc,h=>by
  replace h:=jo h;obtain⟨⟨q,l⟩,G,h⟩:=h;obtain⟨p,rfl⟩:=aho G;simp only[az,qt] at h;obtain⟨rfl,rfl⟩:=h;exact wz az9 rfl
 |.Za,c,X,a,hc,h=>by
  replace h:=jo h;obtain⟨⟨q,l⟩,G,h⟩:=h;obtain⟨p,rfl⟩:=aho G;simp only[az,qt] at h;obtain⟨rfl,rfl⟩:=h;exact wz a0a rfl
 |.ix x y,c,X,a,hc,h=>by
  replace h:=jo h;obtain⟨⟨l,r⟩,G,h⟩:=h;obtain⟨p,rfl⟩:=aaj G;simp only[az] at h;exact wz (bdu (ab2 hc.room) (km x hc h.2.1).v (km y hc h.2.2).v (aog h.1)) rfl
 |.cut x lo hi,c,X,a,hc,h=>by
  replace h:=jo h;obtain⟨⟨l,r⟩,G,h⟩:=h;obtain⟨p,rfl⟩:=aaj G;replace h:=jo h;obtain⟨⟨u,v,st⟩,h2,h⟩:=h;obtain⟨p2,e⟩:=a0r h2;have e:r=_:=e;subst e;simp only[az,Option.isNone_iff_eq_none] at h;obtain⟨rfl,h⟩:=h;exact wz (a7s (km x hc h.1).v (ahs lo hc h.2.1) (ahs hi hc h.2.2)) rfl
 |.call f es,c,X,a,hc,h=>by
  replace h:=jo h;obtain⟨⟨n,ls⟩,G,h⟩:=h;obtain⟨p,p',rfl⟩:=Ja G;simp only[az] at h;obtain⟨⟨h2,h3,h4⟩,h5⟩:=h;obtain⟨l,ls,rfl⟩:=aal h4;obtain⟨fa,fd,ps,F,_,m,kp,b⟩:=hc.tab.fn _ _ _ (qj h2);obtain⟨g1,R⟩:=Dl hc h3;obtain⟨e1,e2⟩:=Gk es hc h5;simp only[Bo,az] at e2;exact wz (s_call F (hc.room.mono x_) g1 m kp b rfl e1 (ju R).1 (j6 e2.1 _ _) (u5 e2.2)) rfl
 |.aik f es,c,X,a,hc,h=>by
  replace h:=jo h;obtain⟨⟨e1,e2⟩,G,h⟩:=h;cases auf G;replace h:=jo h;obtain⟨i,h2,h⟩:=h;replace h:=jo h;obtain⟨j,h3,h⟩:=h;cases awx h2;cases awx h3;replace h:=jo h;obtain⟨⟨rx,ls⟩,h4,h⟩:=h;obtain⟨p,pos,rfl⟩:=Ja h4;replace h:=jo h;obtain⟨l,h5,h⟩:=h;cases Ca h5;replace h:=jo h;obtain⟨⟨ar,bd,zw,lp⟩,h6,h⟩:=h;cases aud h6;replace h:=jo h;obtain⟨⟨gx,us⟩,h7,h⟩:=h;obtain⟨pf,pb,e⟩:=Ja h7;have e:bd=_:=e;subst e;replace h:=jo h;obtain⟨⟨v,w⟩,h8,h⟩:=h;cases a0x h8;replace h:=jo h;obtain⟨x,h9,h⟩:=h;replace h:=jo h;obtain⟨y,zk,h⟩:=h;obtain⟨px,e⟩:=Gj h9;have e:v=_:=e;subst e;obtain⟨py,e⟩:=Gj zk;have e:w=_:=e;subst e;simp only[az,gq] at h;obtain⟨⟨⟨⟨k1,k2⟩,rfl,k4⟩,k5,rfl⟩,⟨⟨k7,k8⟩,k9,q8⟩,⟨q0,qv⟩,q7,zv⟩:=h;cases a0w k5;obtain⟨g1,R⟩:=Dl hc k4;obtain⟨LS,m1,m2,m3,m4,m5⟩:=auh zv;obtain⟨fa,fd,ps,_,FE,m,kp,b⟩:=hc.tab.fn _ _ _ (qj q7);obtain⟨fr,RF,mr,kr⟩:=hc.tab.rf;obtain⟨cc,P,q1,q2,q3⟩:=hc.lam k1;exact wz (a0k RF FE b kp m m4 (ju m5).1 g1 mr kr (ju R).1 hc.tab.bm q1 q2 q3 (slot_of hc k7) (slot_of hc k8) (by rw[hc.sc];exact eq_of_beq k9) (by rw[hc.sc];exact eq_of_beq q8) (hc.fnl k2).1 LS m1 m2 m3 ⟨(ju q0).1,(ju q0).2.1⟩ ⟨(ju qv).1,(ju qv).2.1⟩ hc.room) rfl
 |.blt b es,c,X,a,hc,h=>by
  have Z:(Cw (dCN a) λq=>(decide (a0u b=some q.1)&&(W2 c q.1&&!q.2.isEmpty))&&Ob T es c q.2)=true->Got nm W X a (.blt b es):=λhh=>by clear h;replace hh:=jo hh;obtain⟨⟨n,ls⟩,G,h⟩:=hh;obtain⟨p,p',rfl⟩:=Ja G;simp only[az] at h;obtain⟨⟨h2,h3,h4⟩,h5⟩:=h;obtain⟨l,ls,rfl⟩:=aal h4;obtain⟨e1,e2⟩:=Gk es hc h5;exact wz (a02 hc (qj h2) h3 e1 e2) rfl
  match b,es,h,Z with
  |.isTuple,.cons x .nil,h,_ =>
   obtain⟨l,p,p1,p2,rfl,h3,h4,h5,h6⟩:=aak h;obtain⟨g1,R⟩:=Dl hc h3;obtain⟨g3,g4⟩:=Dl hc h4;exact wz (ajo g1 (hc.mg (by decide+kernel)) (by decide+kernel) (ju R).2.2 (ju R).1 g3 (hc.mg (by decide+kernel)) (by decide+kernel) (ju g4).2.2 (ju g4).1 (km x hc h6).v (j6 h5 _ _) (j6 rfl _ _) (u5 rfl)) rfl
  |.isBool,.cons x .nil,h,_ =>
   obtain⟨l,p,p1,p2,rfl,h3,h4,h5,h6⟩:=aak h;obtain⟨g1,R⟩:=Dl hc h3;obtain⟨g3,g4⟩:=Dl hc h4;exact wz (aor g1 (hc.mg (by decide+kernel)) (by decide+kernel) (ju R).2.2 (ju R).1 g3 (hc.mg (by decide+kernel)) (by decide+kernel) (ju g4).2.2 (ju g4).1 (km x hc h6).v (j6 h5 _ _) (j6 rfl _ _) (u5 rfl)) rfl
  |.isBool,.nil,h,Z=>exact Z h|.isBool,.cons _ (.cons _ _),h,Z=>exact Z h|.list,_,h,Z=>exact Z h|.isE _,.nil,h,Z=>exact Z h|.isE _,.cons _ (.cons _ _),h,Z=>exact Z h
  |.isE kk,.cons x .nil,h,_ =>
   obtain⟨ty,h0,h⟩:=jo (show Cw (xnO T kk) (λn=>apd c n a (Bh T x c))=true from h);obtain⟨l,p,p1,p2,rfl,h3,h4,h5,h6⟩:=aak h;obtain⟨g1,R⟩:=Dl hc h3;obtain⟨g3,g4⟩:=Dl hc h4
   match kk,h0 with
   |0,h0 =>
    cases h0;exact wz (awv (cv:=.type "ValueError") (λI q=>By I g3 (hc.mg (by decide+kernel)) (by decide+kernel) q (ju g4).2.2 (ju g4).1) (λc C z=>⟨(hc.tab.xv c C z).2,(hc.tab.xv c C z).1⟩) g1 (hc.mg (by decide+kernel)) (by decide+kernel) (ju R).2.2 (ju R).1 (km x hc h6).v (j6 h5 _ _) (j6 rfl _ _) (u5 rfl)) rfl
   |j+1,h0 =>
    obtain⟨⟨y,b⟩,e1,e2⟩:=bw.mp h0;cases e2;obtain⟨D,m,z⟩:=hc.tab.xt j _ b e1;exact wz (awv (cv:=.ref D) (λI q=>Oi I g3 m q (ju g4).1) (λc C w=>⟨by rw[z c C w];simp,(hc.tab.xv c C w).1⟩) g1 (hc.mg (by decide+kernel)) (by decide+kernel) (ju R).2.2 (ju R).1 (km x hc h6).v (j6 h5 _ _) (j6 rfl _ _) (u5 rfl)) rfl
  |.Gn,.nil,h,Z=>exact Z h|.Gn,.cons _ (.cons _ _),h,Z=>exact Z h
  |.Gn,.cons x .nil,h,_ =>
   obtain⟨l,p,p1,p2,p3,rfl,h5,h6,h7,h8⟩:=Vc (show afp c "len" "set" a (Bh T x c)=true from h);obtain⟨g1,R⟩:=Dl hc h5;obtain⟨g3,g4⟩:=Dl hc h6;exact wz (ao2 hc.r8 g1 (hc.mg (by decide+kernel)) (by decide+kernel) (ju R).2.2 (ju R).1 g3 (hc.mg (by decide+kernel)) (by decide+kernel) (ju g4).2.2 (ju g4).1
    (Qg (km x hc h8).v V5 (j6 h7 _ _)) (j6 rfl _ _) (u5 rfl) (j6 h7 _ _) (u5 rfl)) rfl
  |.isTuple,.nil,h,Z=>exact Z h|.isTuple,.cons _ (.cons _ _),h,Z=>exact Z h|.len,_,h,Z=>exact Z h|.tuple,_,h,Z=>exact Z h|.max,_,h,Z=>exact Z h|.min,_,h,Z=>exact Z h|.dict,_,h,Z=>exact Z h|.all,_,h,Z=>exact Z h|.De,.nil,h,Z=>exact Z h|.De,.cons _ (.cons _ _),h,Z=>exact Z h
  |.De,.cons x .nil,h,_ =>
   obtain⟨l,p,p1,p2,p3,rfl,h5,h6,h7,h8⟩:=Vc (show afp c "sorted" "set" a (Bh T x c)=true from h);obtain⟨g1,R⟩:=Dl hc h5;obtain⟨g3,g4⟩:=Dl hc h6;exact wz (aju hc.r8 g1 (hc.mg (by decide+kernel)) (by decide+kernel) (ju R).2.2 (ju R).1 g3 (hc.mg (by decide+kernel)) (by decide+kernel) (ju g4).2.2 (ju g4).1
    (Qg (km x hc h8).v V5 (j6 h7 _ _)) (j6 rfl _ _) (u5 rfl) (j6 h7 _ _) (u5 rfl)) rfl
 |.bm m o es,c,X,a,hc,h=>by
  replace h:=jo h;obtain⟨⟨lo,n,ap,ls,p⟩,h0,h⟩:=h;cases a0s h0;simp only[az,gq] at h;obtain⟨⟨⟨G,h2⟩,h3,h4,zz⟩,h5,h6⟩:=h;obtain⟨l,ls,rfl⟩:=aal zz;obtain⟨e1,e2⟩:=Gk es hc h6;have e3:=e2;simp only[Bo,az] at e3;have qk:((backTo p (starEach (l::ls) X.env)).all (λx=>!x.1)&&(backToKw p (keywordEach [] X.env)).all (λx=>x.1.isSome)&&decide ((l::ls).length+([]:List Keyword).length+(if([]:List Keyword).isEmpty then 0 else 1)<30))=true:=by rw[afo e2];simp[keywordEach,backToKw];simp at h3;exact b_ h3 (by decide)
  have g:=km o hc h5;cases m with
  |append=>cases G;exact wz (atc (T := "list") (id := "list.append") (fun ι H M x v S r t=>ty_list (.inl rfl) S r t) PySem.F.plainAttrs_list PySem.F.slot_list_append PySem.F.type_list_append aoo g.v e1 (Hd h2) qk h4 (j6 e3.1 _ _) (u5 e3.2)) rfl
  |index=>cases G;exact wz (atc (T := "list") (id := "list.index") (fun ι H M x v S r t=>ty_list (.inr (.inr rfl)) S r t) PySem.F.plainAttrs_list PySem.F.slot_list_index PySem.F.type_list_index (atf hc.r8) g.v e1 (Hd h2) qk h4 (j6 e3.1 _ _) (u5 e3.2)) rfl
  |pop=>cases G;exact wz (atc (T := "list") (id := "list.pop") (fun ι H M x v S r t=>ty_list (.inr (.inl rfl)) S r t) PySem.F.plainAttrs_list PySem.F.slot_list_pop PySem.F.type_list_pop a71 g.v e1 (Hd h2) qk h4 (j6 e3.1 _ _) (u5 e3.2)) rfl
  |Hq=>cases G;exact wz (a73 (id := "tuple.index") (λx M t=>by cases x with|tup ds=>exact⟨ds,rfl⟩|_=>cases t) (λz=>by cases z) PySem.F.plainAttrs_tuple PySem.F.slot_tuple_index PySem.F.type_tuple_index (ao0 hc.r8) g.v e1 (Hd h2) qk h4 (j6 e3.1 _ _) (u5 e3.2)) rfl
  |get=>cases G;exact wz (atc (T := "dict") (id := "dict.get") (fun ι H M x v S r t=>ty_dict S r t) PySem.F.plainAttrs_dict PySem.F.slot_dict_get PySem.F.type_dict_get (a72 (ab2 hc.room)) g.v e1 (Hd h2) qk h4 (j6 e3.1 _ _) (u5 e3.2)) rfl
 |.comp v j t it e,c,X,a,hc,h=>by
  replace h:=jo h;obtain⟨⟨zq,gs,sc⟩,G,h⟩:=h;obtain⟨p,rfl⟩:=Wi G;replace h:=jo h;obtain⟨⟨tg,q5,q6,as⟩,h2,h⟩:=h;cases Ca h2;simp only[az,qt] at h;obtain⟨⟨h3,rfl⟩,h4,h5⟩:=h;obtain⟨q1,q2,B,hB,hg,q3,q4⟩:=Ri hc h3;cases q2;exact wz (az7 B hc.calm (Rj it hc h4) hg (λC fp s H=>(km e (hB C fp s H) h5).v) q1 q3 q4) rfl
 |.Eb v j t it i e,c,X,a,hc,h=>by
  replace h:=jo h;obtain⟨⟨zq,gs,sc⟩,G,h⟩:=h;obtain⟨p,rfl⟩:=Wi G;replace h:=jo h;obtain⟨⟨tg,q5,q6,as⟩,h2,h⟩:=h;cases Ca h2;replace h:=jo h;obtain⟨d,h6,h⟩:=h;cases Ca h6;simp only[az] at h;obtain⟨⟨h3,h7⟩,h4,h8,h5⟩:=h;obtain⟨q1,q2,B,hB,hg,q3,q4⟩:=Ri hc h3;cases q2;exact wz (aol B hc.calm (Rj it hc h4) hg (λC fp s H=>(km i (hB C fp s H) h8).q h7) (λC fp s H=>(km e (hB C fp s H) h5).v) q1 q3 q4) rfl
 |.aeo x,c,X,a,hc,h=>by
  obtain⟨l,p,p1,p2,p3,rfl,h5,h6,h7,h8⟩:=Vc h;obtain⟨g1,R⟩:=Dl hc h5;obtain⟨g3,g4⟩:=Dl hc h6;exact wz (a0g hc.r8 g1 (hc.mg (by decide+kernel)) (by decide+kernel) (ju R).2.2 (ju R).1 g3 (hc.mg (by decide+kernel)) (by decide+kernel) (ju g4).2.2 (ju g4).1
   (Qg (km x hc h8).v V5 (j6 h7 _ _)) (j6 rfl _ _) (u5 rfl) (j6 h7 _ _) (u5 rfl)) rfl
 |.Uo x,c,X,a,hc,h=>by
  obtain⟨l,p,p1,p2,p3,rfl,h5,h6,h7,h8⟩:=Vc h;obtain⟨g1,R⟩:=Dl hc h5;obtain⟨g3,g4⟩:=Dl hc h6;exact wz (a0j hc.r8 g1 (hc.mg (by decide+kernel)) (by decide+kernel) (ju R).2.2 (ju R).1 g3 (hc.mg (by decide+kernel)) (by decide+kernel) (ju g4).2.2 (ju g4).1
   (Qg (km x hc h8).v V5 (j6 h7 _ _)) (j6 rfl _ _) (u5 rfl) (j6 h7 _ _) (u5 rfl)) rfl
theorem Gk:∀(Z:Dn){c:Ctx}{X:Cx}{a:Y3},Em T nm W k c X->Ob T Z c a=true->PA X a (W0 nm W X.K Z)/\Bo a=true
 |.nil,c,X,a,hc,h=>by
  cases qt.mp h;exact⟨V5,rfl⟩
 |.cons e Z,c,X,a,hc,h=>by
  cases a with
  |nil=>cases h
  |cons l G =>
   replace h:(noStar l&&(Bh T e c l&&Ob T Z c G))=true:=h;simp only[az] at h;obtain⟨g1,R⟩:=Gk Z hc h.2.2;exact⟨Qg (km e hc h.2.1).v g1 (j6 h.1 _ _),by simp only[Bo,az];exact⟨h.1,R⟩⟩
theorem ahs:∀(e:OEx){c:Ctx}{X:Cx}{a:Option Expr},Em T nm W k c X->a0z T e c a=true->PO X a (tO nm W X.K e)
 |.none,c,X,a,hc,h=>by
  cases Option.isNone_iff_eq_none.mp h;exact atj
 |.some e,c,X,a,hc,h=>by
  replace h:=jo h;obtain⟨l,rfl,h⟩:=h;exact atk (km e hc h).v
theorem Rj:∀(it:Mq){c:Ctx}{X:Cx}{Z a:Expr},Em T nm W k c X->aui T it c Z a=true->PI X Z a (tI nm W X.K it)
 |.val e,c,X,Z,a,hc,h=>a7l (km e hc h).v
 |.Jg e,c,X,Z,a,hc,h=>by
  replace h:=jo h;obtain⟨⟨n,ls⟩,G,h⟩:=h;obtain⟨p,p',rfl⟩:=Ja G;replace h:=jo h;obtain⟨l,h2,h⟩:=h;cases Ca h2;simp only[az,gq] at h;obtain⟨⟨rfl,h3⟩,R,h5⟩:=h;exact a7m (Dl hc h3).1 (hc.mg (by decide+kernel)) (km e hc h5).v R
 |.enm e,c,X,Z,a,hc,h=>by
  replace h:=jo h;obtain⟨⟨n,ls⟩,G,h⟩:=h;obtain⟨p,p',rfl⟩:=Ja G;replace h:=jo h;obtain⟨l,h2,h⟩:=h;cases Ca h2;simp only[az,gq] at h;obtain⟨⟨h6,rfl,h3⟩,R,h5⟩:=h;obtain⟨ts,h7⟩:=jc.mp h6;obtain⟨k0,pt,rfl⟩:=Rg h7;exact a7y (Dl hc h3).1 (hc.mg (by decide+kernel)) (km e hc h5).v R
 |.zip es,c,X,Z,a,hc,h=>by
  replace h:=jo h;obtain⟨⟨n,ls⟩,G,h⟩:=h;obtain⟨p,p',rfl⟩:=Ja G;simp only[az,gq] at h;obtain⟨⟨h6,rfl,h3,R⟩,h5,h7⟩:=h;obtain⟨l,ls,rfl⟩:=aal R;obtain⟨e1,e2⟩:=Gk es hc h7;obtain⟨ts,h9⟩:=jc.mp h6;obtain⟨k0,pt,rfl⟩:=Rg h9;simp only[Bo,az] at e2;obtain⟨f1,f2⟩:=e2;exact a7z (Dl hc h3).1 (hc.mg (by decide+kernel)) e1 (j6 f1 _ _) (u5 f2) h5
end
end
noncomputable def a8l(e:Ex):Option {b:Bool // (∃v j t it x,e=.comp v j t it x)\/∃v j t it i x,e=.Eb v j t it i x}:=match e with|.comp ..=>some ⟨true,.inl ⟨_,_,_,_,_,rfl⟩⟩|.Eb ..=>some ⟨true,.inr ⟨_,_,_,_,_,_,rfl⟩⟩|_=>none
def a03(T:Tab)(c:Ctx)(l:Lv)(e:Ex)(Z v:Expr):Bool :=
 match l with
 |.tg t=>(tgB c 0 t Z&&((aad v&&((Pg Z).isSome||awq v))||(match t with|.name _=>(adf v).isSome&&(a8l e).isSome|_=>false)))&&Bh T e c v
 |.sub o i=>Cw (ao8 Z) λq=>aae q.2&&(Bh T e c v&&(Bh T o c q.1&&Bh T i c q.2))
noncomputable def a8m(a:Stmt):Option (List Expr×Expr):=Option.map Subtype.val (α:={q:List Expr×Expr // ∃p,a=.Assign q.1 q.2 p}) (match a with|.Assign t v p=>some ⟨(t,v),p,rfl⟩|_=>none)
noncomputable def a8n(a:Stmt):Option Expr:=Option.map Subtype.val (α:={q:Expr // ∃p,a=.Expr q p}) (match a with|.Expr v p=>some ⟨v,p,rfl⟩|_=>none)
noncomputable def a8o(a:Stmt):Option (Expr×List Stmt×List Stmt):=Option.map Subtype.val (α:={q:Expr×List Stmt×List Stmt // ∃p,a=.If q.1 q.2.1 q.2.2 p}) (match a with|.If t l r p=>some ⟨(t,l,r),p,rfl⟩|_=>none)
noncomputable def a8p(a:Stmt):Option (Expr×List Stmt×List Stmt):=Option.map Subtype.val (α:={q:Expr×List Stmt×List Stmt // ∃p,a=.While q.1 q.2.1 q.2.2 p}) (match a with|.While t l r p=>some ⟨(t,l,r),p,rfl⟩|_=>none)
noncomputable def a8q(a:Stmt):Option (Expr×Expr×List Stmt×List Stmt):=Option.map Subtype.val (α:={q:Expr×Expr×List Stmt×List Stmt // ∃p,a=.For q.1 q.2.1 q.2.2.1 q.2.2.2 p}) (match a with|.For t i l r p=>some ⟨(t,i,l,r),p,rfl⟩|_=>none)
noncomputable def a8r(a:Stmt):Option (Option Expr):=Option.map Subtype.val (α:={q:Option Expr // ∃p,a=.Return q p}) (match a with|.Return v p=>some ⟨v,p,rfl⟩|_=>none)
noncomputable def awy(a:Stmt):Option Nat:=Option.map Subtype.val (α:={n:Nat // ∃p,a=.Break p}) (match a with|.Break p=>some ⟨0,p,rfl⟩|_=>none)
noncomputable def a8s(a:Stmt):Option Expr:=Option.map Subtype.val (α:={q:Expr // ∃p,a=.Raise (some q) none p}) (match a with|.Raise (some v) none p=>some ⟨v,p,rfl⟩|_=>none)
def apg(h:(awy a).isSome=true):∃p,a=.Break p:=by obtain⟨n,e⟩:=jc.mp h;exact(Ui (P:=λ_=>∃p,a=.Break p) e :)
def auj(h:a8s a=some v):∃p,a=.Raise (some v) none p:=(Ui h :)
noncomputable def isStr(k:Const):Option Str:=Option.map Subtype.val (α:={q:Str // k=.str q}) (match k with|.str s=>some ⟨s,rfl⟩|_=>none)
noncomputable def xrB(T:Tab)(k:Nat)(x:Str):Bool:=match k with|0=>false|k+1=>decide (T.xcs[k]?=some (x,true))
def auk(h:a8m a=some (t,v)):∃p,a=.Assign t v p:=(Ui h :)
def aul(h:a8n a=some v):∃p,a=.Expr v p:=(Ui h :)
def aum(h:a8o a=some (t,l,r)):∃p,a=.If t l r p:=(Ui h :)
def aun(h:a8p a=some (t,l,r)):∃p,a=.While t l r p:=(Ui h :)
def auo(h:a8q a=some (t,i,l,r)):∃p,a=.For t i l r p:=(Ui h :)
def aup(h:a8r a=some v):∃p,a=.Return v p:=(Ui h :)
mutual
def a04(T:Tab):Cu->Ctx->Stmt->Bool
 |.asg l e,c,a=>Cw (a8m a) λq=>Cw (Tn q.1) λt=>a03 T c l e t q.2
 |.expr e,c,a=>Cw (a8n a) λv=>aad v&&Bh T e c v
 |.iff t x y,c,a=>Cw (a8o a) λq=>Rh q.1&&(Bh T t c q.1&&(Pj T x c q.2.1&&Pj T y c q.2.2))
 |.whl t x,c,a=>Cw (a8p a) λq=>(Rh q.1&&q.2.2.isEmpty)&&(Bh T t c q.1&&Pj T x c q.2.1)
 |.for_ t it x,c,a=>Cw (a8q a) λq=>(tgB c 0 t q.1&&(Jx q.2.1&&q.2.2.2.isEmpty))&&(aui T it c q.1 q.2.1&&Pj T x c q.2.2.1)
 |.ret e,c,a=>Cw (a8r a) λv=>Cw v (Bh T e c)
 |.brk,_,a=>(awy a).isSome|.raise k,c,a=>Cw (a8s a) λe=>Cw (dCN e) λq=>Cw (Tn q.2) λs=>Cw (ajz s) λt=>(isStr t).isSome&&(W2 c q.1&&xrB T k q.1)
def Pj(T:Tab):rm->Ctx->List Stmt->Bool
 |.nil,_,a=>a.isEmpty|.cons s r,c,a=>match a with|st::rest=>a04 T s c st&&Pj T r c rest|_=>false
end
noncomputable def swB(c:Ctx)(t:Str)(pt Z:Pos)(G:Scope):Bool:=(c.sc.lookup t==some NameKind.local&&pt.line==Z.line)&&!(G.names.any λy=>y.1==t&&(y.2==.local||y.2==.cell))
def afs(Z:Em T nm W k c X):swapsWith (.ListComp elt gs sc vp) (some (.Name t pt)) l X.env=pure (swB c t pt vp sc):=by
 have b:X.env.blockKind=.function:=by unfold Env.blockKind;rw[Z.kd];rfl
 show(pure (X.env.blockKind==.function&&X.env.kindOf t==some .local&&pt.line==vp.line&&!(sc.names.any λ(n,k)=>n==t&&(k==.local||k==.cell))):Sem Bool)=_;rw[b];unfold Env.kindOf;rw[Z.sc];simp[swB]
def aph(Z:Em T nm W k c X)(ht:tgB c 0 (.name i) tg=true)(hv:(adf v).isSome=true)(hw:(a8l e).isSome=true)(h:Bh T e c v=true):PS X (.Assign [tg] v p) (tS nm W X.K EX (.asg (.tg (.name i)) e)):=by
 have nd:X.N.Nodup:=by rw[Z.N];exact Z.nd
 obtain⟨⟨qq,gs,sc⟩,hq⟩:=jc.mp hv;obtain⟨y,py,rfl,hy,_⟩:=afq (nm:=nm) (W:=W) (k:=k) (T:=T) Z ht;obtain⟨⟨_,co⟩,_⟩:=jc.mp hw;obtain⟨vp,rfl⟩:=Wi hq;have R:=λl=>afs (T:=T) (nm:=nm) (W:=W) (k:=k) Z (elt:=qq) (gs:=gs) (sc:=sc) (vp:=vp) (pt:=py) (t:=y) (l:=l)
 cases hs:swB c y py vp sc with
 |false =>
  rw[hs] at R;exact aoh (km e Z h).v (ahq Z ht).1 (R p.line) rfl rfl
 |true =>
  rw[hs] at R;simp only[swB,az] at hs;have hl:X.env.scope.names.lookup y=some .local:=by rw[Z.sc];have:=hs.1.1;simpa using this
  rcases co with⟨v,j,t,it,x,rfl⟩|⟨v,j,t,it,i',x,rfl⟩
  .replace h:=jo h
   obtain⟨⟨qv,q5,q0⟩,h1,h⟩:=h;cases h1;replace h:=jo h;obtain⟨⟨tg,G,qk,as⟩,h2,h⟩:=h;cases Ca h2;simp only[az,qt] at h;obtain⟨⟨h3,rfl⟩,h4,h5⟩:=h;obtain⟨q1,q2,B,hB,hg,q3,q4⟩:=Ri Z h3;cases q2;exact ajn B Z.calm (Rj it Z h4) hg (λC fp s H=>(km x (hB C fp s H) h5).v) q1 q3 q4 nd hy hl (R p.line)
  .replace h:=jo h
   obtain⟨⟨qv,q5,q0⟩,h1,h⟩:=h;cases h1;replace h:=jo h;obtain⟨⟨tg,G,qk,as⟩,h2,h⟩:=h;cases Ca h2;replace h:=jo h;obtain⟨d,h6,h⟩:=h;cases Ca h6;simp only[az] at h;obtain⟨⟨h3,h7⟩,h4,h8,h5⟩:=h;obtain⟨q1,q2,B,hB,hg,q3,q4⟩:=Ri Z h3;cases q2;exact ack B Z.calm (Rj it Z h4) hg (λC fp s H=>(km i' (hB C fp s H) h8).q h7) (λC fp s H=>(km x (hB C fp s H) h5).v) q1 q3 q4 nd hy hl (R p.line)
section
variable{T:Tab}{nm:Nm}{W:Gf}{k:Nat}
def auq(G:Em T nm W k c X)(h:a03 T c l e tg v=true):PS X (.Assign [tg] v p) (tS nm W X.K EX (.asg l e)):=by
 cases l with
 |tg t =>
  simp only[a03,az,Bool.or_eq_true] at h;obtain⟨⟨h1,h2⟩,h3⟩:=h;rcases h2 with⟨Z,R⟩|Z
  .have g:=ahq (nm:=nm) G h1
   have sh:(∃n q,tg=.Name n q)\/∃ts k0 q,tg=.Tuple ts k0 q:=by
    cases t with
    |name i =>
     obtain⟨n,z1,_⟩:=jo h1;exact .inl ⟨n,Gj z1⟩
    |names is =>
     obtain⟨ts,z1,_⟩:=jo h1;exact .inr ⟨ts,Rg z1⟩
   rcases sh with⟨n,q,rfl⟩|⟨ts,k0,q,rfl⟩
   .exact aoh (km e G h3).v g.1 (V9 Z _ _ _) rfl rfl
   .have w:awq v=true:=by
     rcases R with R|R
     .cases R
     .exact R
    have w2:swappedStores [.Tuple ts k0 q] v X.env=pure none:=by cases v<;>first|rfl|(cases w;done)
    exact aoh (km e G h3).v g.1 (V9 Z _ _ _) w2 rfl
  .cases t with
   |name i=>rw[az] at Z;exact aph G h1 Z.1 Z.2 h3|names _=>cases Z
 |sub o i =>
  replace h:=jo (show Cw (ao8 tg) _=true from h);obtain⟨⟨lo,li⟩,h0,h⟩:=h;obtain⟨p',rfl⟩:=aaj h0;simp only[az] at h;obtain⟨h2,h3,Z,R⟩:=h;refine aon (ab2 G.room) (km e G h3).v (km o G Z).v (km i G R).v λv=>?_
  cases li<;>first|rfl|(cases h2;done)
def api(h:(isStr t).isSome=true):∃s,t=.str s:=by obtain⟨s,e⟩:=jc.mp h;exact⟨s,(Ui (P:=λq=>t=.str q) e :)⟩
mutual
theorem aur:∀(s:Cu){c:Ctx}{X:Cx}{a:Stmt}{R:XK},Em T nm W k c X->c.fn=true->ani X R->a04 T s c a=true->PS X a (tS nm W X.K R s)
 |.asg l e,c,X,a,R,hc,hf,nw,h=>by
  replace h:=jo h;obtain⟨⟨ts,v⟩,Z,h⟩:=h;obtain⟨p,rfl⟩:=auk Z;replace h:=jo h;obtain⟨t,h2,h⟩:=h;cases Ca h2;exact auq hc h
 |.expr e,c,X,a,R,hc,hf,nw,h=>by
  replace h:=jo h;obtain⟨v,Z,h⟩:=h;obtain⟨p,rfl⟩:=aul Z;simp only[az] at h;exact az2 (km e hc h.2).v (Ue h.1 _ _ _)
 |.iff t x y,c,X,a,R,hc,hf,nw,h=>by
  replace h:=jo h;obtain⟨⟨q,l,r⟩,Z,h⟩:=h;obtain⟨p,rfl⟩:=aum Z;simp only[az] at h;exact a7g ((km t hc h.2.1).q h.1) (Gm x hc hf nw h.2.2.1) (Gm y hc hf nw h.2.2.2)
 |.whl t x,c,X,a,R,hc,hf,nw,h=>by
  replace h:=jo h;obtain⟨⟨q,l,r⟩,Z,h⟩:=h;obtain⟨p,rfl⟩:=aun Z;simp only[az,qt] at h;obtain⟨⟨h2,rfl⟩,h3,h4⟩:=h;exact a7h (hc.fnl hf).2 ((km t hc h3).q h2) (Gm x hc hf nw h4)
 |.for_ t it x,c,X,a,R,hc,hf,nw,h=>by
  replace h:=jo h;obtain⟨⟨tg,qq,l,r⟩,Z,h⟩:=h;obtain⟨p,rfl⟩:=auo Z;simp only[az,qt] at h;obtain⟨⟨h2,h3,rfl⟩,h4,h5⟩:=h;exact a7j (hc.fnl hf).2 hc.calm (Rj it hc h4) (ahq hc h2).1 (Gm x hc hf nw h5) h3
 |.ret e,c,X,a,R,hc,hf,nw,h=>by
  replace h:=jo h;obtain⟨v,Z,h⟩:=h;obtain⟨p,rfl⟩:=aup Z;replace h:=jo h;obtain⟨w,rfl,h⟩:=h;exact a7e (km e hc h).v
 |.brk,c,X,a,R,hc,hf,nw,h=>by
  obtain⟨p,rfl⟩:=apg h;exact a7f
 |.raise j,c,X,a,R,hc,hf,nw,h=>by
  replace h:=jo h;obtain⟨e,Z,h⟩:=h;obtain⟨p,rfl⟩:=auj Z;replace h:=jo h;obtain⟨⟨x,ls⟩,h2,h⟩:=h;obtain⟨p1,p2,G⟩:=Ja h2;have G:e=_:=G;subst G;replace h:=jo h;obtain⟨l,h3,h⟩:=h;have G:=Ca h3;have G:ls=_:=G;subst G;replace h:=jo h;obtain⟨t,h4,h⟩:=h;obtain⟨k0,p3,G⟩:=Rf h4;have G:l=_:=G;subst G;simp only[az] at h;obtain⟨h5,h6,h7⟩:=h;obtain⟨qk,G⟩:=api h5;subst G;obtain⟨g1,g2⟩:=Dl hc h6
  match j,h7 with
  |0,h7=>cases h7
  |j+1,h7 =>
   obtain⟨C,m,z,xc⟩:=hc.tab.xr j x (qj h7);exact at6 F.excBase_ValueError (by decide) F.excBase_ValueError xc nw hc.calm g1 m (ju g2).1 z
theorem Gm:∀(s:rm){c:Ctx}{X:Cx}{a:List Stmt}{EX:XK},Em T nm W k c X->c.fn=true->ani X EX->Pj T s c a=true->Pb X a (tSs nm W X.K EX s)
 |.nil,c,X,a,EX,hc,hf,nw,h=>by
  cases qt.mp h;exact az3
 |.cons s r,c,X,a,EX,hc,hf,nw,h=>by
  cases a with
  |nil=>cases h
  |cons st Z =>
   replace h:(a04 T s c st&&Pj T r c Z)=true:=h;simp only[az] at h;exact as5 (aur s hc hf nw h.1) (Gm r hc hf nw h.2)
end
end
structure Def where
 x:Str
 qual:Str
 N:List Str
 ps:List Str
 lm:Bool
noncomputable def scB(N G:Ya)(Z:Scope):Bool :=
 (decide (Z.kind=.function)&&(!Z.isCoroutine&&!Z.isGenerator))&&((decide N.Nodup&&decide (N.take G.length=G)) &&
 (G.all (λx=>Z.names.lookup x==some .local||Z.names.lookup x==some .cell)&&Z.names.all (λy=>!(y.2==NameKind.free))))
def apj(h:scB N ps sc=true):Q3 N ps sc:=by simp only[scB,az,gq,Bool.not_eq_true',v5] at h;obtain⟨⟨Z,h2,h3⟩,⟨G,h5⟩,h6,R⟩:=h;exact⟨Z,h2,h3,G,h5,λx m=>by have:=h6 x m;simpa using this,λy m=>by have:=R y m;simpa using this⟩
def aj4(T:Tab)(d:Def)(F:MW.Fn)(st:Stmt):Bool :=
 (scB d.N d.ps (my st)&&(decide (F.np=d.ps.length)&&decide (F.ns=d.N.length)))&&Pj T F.body ⟨d.N,(my st).names,true,[],d.lm⟩ (Bs st)
def aus(K:Fg)(nm:Nm)(T:Tab)(d:Def)(st:Stmt)(f:Addr):Prop:=d.lm=true->∃(oc:Value)(od:Option Addr)(kV Z pm:Value)(an:Option Addr)(ct:Value)(G:Array (Option Value))(R P:Addr),
 K.lookup f=some ⟨oc,od,.func (PySem.W.fnOf d.x d.qual (Dt st) (Bs st) (my st) .none kV Z pm an (.ref R) ct),G⟩/\PySem.W.codeHdIn K R P=true/\nm.tb=some (P,T.lp,d.qual++".<locals>."++"<lambda>")
set_option tactic.hygienic true in
def aut{F:MW.Fn}(h:F.run W ds M=.ok d J):ds.length=F.np/\∃Y Z,F.body.den W (ds.map some++List.replicate (F.ns-F.np) none) M=.ok (Y,Z) J/\(Y=.ret d\/(Y=.next/\d=.non)):=by
 unfold MW.Fn.run at h;split at h
 .rename_i C
  obtain⟨⟨Y,Z⟩,L,G,e⟩:=gn h;refine⟨C,Y,Z,?_⟩;cases Y with
  |ret z=>cases e;exact⟨G,.inl rfl⟩|next=>cases e;exact⟨G,.inr ⟨rfl,rfl⟩⟩|brk=>cases e|cont=>cases e|err=>cases e
 .cases h
set_option tactic.hygienic true in
def apk{F:MW.Fn}(h:F.aba W ds M=some (c,M')):ds.length=F.np/\∃Z,F.body.den W (ds.map some++List.replicate (F.ns-F.np) none) M=.ok (.err c,Z) M':=by
 unfold MW.Fn.aba at h;split at h
 .rename_i Y
  refine⟨Y,?_⟩;split at h
  .rename_i e
   cases h;exact⟨_,e⟩
  .cases h
 .cases h
def a05{R:MW.Prog}(U:Fun K d.x d.qual st f fd)(L:aus K nm T d st f)(hF:R.fns[i]?=some F)(h:aj4 T d F st=true)(hT:ahm T nm (R.Ql n) k P w K mg base):Jt P w K mg base CX0 (k+17) f fd d.ps (spF nm (R.Ql (n+1)) K F.np i)/\Jt P w K mg base (CXE P w) (k+17) f fd d.ps (spE nm (R.Ql (n+1)) K F.np i):=by
 simp only[aj4,az,gq] at h;obtain⟨⟨h1,h2,h3⟩,h4⟩:=h;have S:=apj h1;have go:∀Z M d' M',MW.Gf.call (R.Ql (n+1)) i Z M=.ok d' M'->F.run (R.Ql n) Z M=.ok d' M':=λZ M d' M' e=>by have e:(match R.fns[i]? with|some F=>F.run (R.Ql n) Z M|none=>.bad)=Res.ok d' M':=e;rw[hF] at e;exact e
 have q2:∀Z M c M',MW.Gf.cae (R.Ql (n+1)) i Z M=some (c,M')->F.aba (R.Ql n) Z M=some (c,M'):=λZ M c M' e=>by have e:(match R.fns[i]? with|some F=>F.aba (R.Ql n) Z M|none=>none)=some (c,M'):=e;rw[hF] at e;exact e
 have q0:∀{ι H Z vs},mj K ι H Z vs->Z.length=F.np->u9 K ι H (Z.map some++List.replicate (F.ns-F.np) none) (L2.start d.N vs):=λr l=>by unfold L2.start;exact(u9.aod r).append (u9.aoc _ (by rw[yq,h3,<- r.length,l]))
 obtain⟨oc,od,kV,q3,pm,an,qk,ct,q5,rfl,lk,Xz⟩:=U.ex;have lm:d.lm=true->∃cc P,qk=.ref cc/\PySem.W.codeHdIn K cc P=true/\nm.tb=some (P,T.lp,d.qual++".<locals>."++"<lambda>"):=λz=>by obtain⟨q8,zz,zv,q4,zq,q6,q7,zk,cc,P,e,q⟩:=L z;rw[lk] at e;have e:=(Data.func.inj (Obj.mk.inj (jd e)).2.2.1 :);exact⟨cc,P,(ql FuncData.code e :),q⟩
 constructor
 .refine awc (k:=k+16) lk Xz S (λvs H Q E ⟨ι,M,Z,d',M',_,r,l,e,_⟩=>by rw[<- r.length,l,h2]) (λA G s H vs Q E hr z_=>?_)
  obtain⟨ι,M,Z,d',M',SM,r,l,e,q⟩:=z_;have hc:Em T nm (R.Ql n) k ⟨d.N,(my st).names,true,[],d.lm⟩ (Kd CX0 P w K mg base d.N d.qual (my st) f qk A G s H E).nox :=
   ⟨rfl,S.nd,rfl,S.kind,rfl,hr,λ_=>⟨λ_=>rfl,PassesOwn.never⟩,hT,λ_ z=>(dw z).elim,lm⟩
  refine⟨_,(Gm F.body (EX:=λ_ _ _=>False) hc rfl (λ_ _ _ _ _ _ _ _ _ _ z=>z.elim) h4).nox,?_⟩;obtain⟨hl,fl,qv,e1,e2⟩:=aut (go _ _ _ _ e);refine⟨ι,_,M,fl,qv,M',SM,q0 r l,e1,λqq H' q1 le S' R'=>?_⟩;rcases e2 with rfl|⟨rfl,rfl⟩
  .exact λv rv=>q qq H' v le S' rv
  .exact q qq H' _ le S' .non
 .refine awc (k:=k+16) lk Xz S (λvs H Q E ⟨ι,M,Z,c,M',_,r,l,e,_⟩=>by rw[<- r.length,l,h2]) (λA G s H vs Q E hr z_=>?_)
  obtain⟨ι,M,Z,c,M',SM,r,l,e,q⟩:=z_;have hc:Em T nm (R.Ql n) k ⟨d.N,(my st).names,true,[],d.lm⟩ (Kd (CXE P w) P w K mg base d.N d.qual (my st) f qk A G s H E) :=
   ⟨rfl,S.nd,rfl,S.kind,rfl,hr,λ_=>⟨λ_=>rfl,PassesOwn.leaving⟩,hT,λ_ z=>(dw z).elim,lm⟩
  refine⟨_,Gm F.body (EX:=E) hc rfl asq h4,?_⟩;obtain⟨hl,qv,e1⟩:=apk (q2 _ _ _ _ e);exact⟨ι,_,M,_,qv,M',SM,q0 r l,e1,λqq H' q1 le S' R' C hC=>q C hC qq H' le S'⟩
noncomputable def rN:List Str:=["call", "error", "e", "kinds"]
structure Ask(K:Fg)(mg:Zs)(nm:Nm)(T:Tab)(rf:MW.Fn)(xn qual:Str)(st:Stmt)(fr:Addr)(fd:FuncData):Prop where
 U:Fun K xn qual st fr fd
 b:Binds K fd ["call"] []
 sc:(scB rN ["call"] (my st)&&(((my st).names.lookup ("call" : Str)==some NameKind.local&&(my st).names.lookup ("error" : Str)==some NameKind.local)&&((my st).names.lookup ("e" : Str)==some NameKind.local&&((my st).names.lookup ("MapError" : Str)==some NameKind.globalImplicit&&rf.ns==4))))=true
 ex:∃(rest:List Stmt)(j1:Nat)(p1 p2 p3 p4 p5 p6 p7 p8 p9 p10 p11 p12:Pos),Bs st=.Assign [.Name "error" p1] (.Constant .none j1 p2) p3::.Try [.Expr (.Call (.Name "call" p4) [] [] p5) p6] [.ExceptHandler (some (.Name "MapError" p7)) (some "e") [.Assign [.Name "error" p8] (.Name "e" p9) p10] p11] [] [] p12::rest /\
  Pj T rf.body ⟨rN,(my st).names,true,[],false⟩ rest=true
 xb:∃B,mg "MapError" = some (.ref B)/\∀c C,nm.xc c=some C->ab3 K C B=true
def a06{Z:MW.Prog}(a:Ask K mg nm T Z.rf xn qual st fr fd)(hT:ahm T nm (Z.Ql n) k P w K mg base):ajv nm P w K mg base (Z.Ql (n+1)) (k+17) fr:=by
 obtain⟨U,b,R,⟨qq,j1,p1,p2,p3,p4,p5,p6,p7,p8,p9,qk,q1,q0,e,h⟩,B,mB,xs⟩:=a;simp only[az] at R;obtain⟨h1,⟨h2,h3⟩,h4,h5,h6⟩:=R;have S:=apj h1;refine a76 (W':=Z.Ql n) (rf:=Z.rf) U b e S (eq_of_beq h2) (eq_of_beq h3) (eq_of_beq h4) (eq_of_beq h5) mB xs (λ_ _=>rfl) (eq_of_beq h6) λqv A G s H E hr=>?_
 refine Gm Z.rf.body (T:=T) (k:=k) (c:=⟨rN,(my st).names,true,[],false⟩) ⟨rfl,S.nd,rfl,S.kind,rfl,hr.mono (by lia),λ_=>⟨λ_=>rfl,PassesOwn.never⟩,hT,λ_ z=>(dw z).elim,λz=>(dw z).elim⟩ rfl (λ_ _ _ _ _ _ _ _ _ _ z=>z.elim) h
theorem aht{nm:Nm}{P:Program}{w:World}{K:Fg}{mg:Zs}{base:Heap}{IR:MW.Prog}{T:Tab}{D:Nat->Def}{st:Nat->Stmt}{fa:Nat->Addr}{fd:Nat->FuncData}{qv:Stmt}{xn qq:Str}{fr:Addr}{rfd:FuncData}
 (U:∀i,i<IR.fns.length->Fun K (D i).x (D i).qual (st i) (fa i) (fd i)/\aus K nm T (D i) (st i) (fa i)) (h:∀i F,IR.fns[i]?=some F->aj4 T (D i) F (st i)=true) (G:Ask K mg nm T IR.rf xn qq qv fr rfd)
 (mk:∀n,(∀i F,IR.fns[i]?=some F->Jt P w K mg base CX0 (17*n) (fa i) (fd i) (D i).ps (spF nm (IR.Ql n) K F.np i)/\Jt P w K mg base (CXE P w) (17*n) (fa i) (fd i) (D i).ps (spE nm (IR.Ql n) K F.np i))->ajv nm P w K mg base (IR.Ql n) (17*n) fr->ahm T nm (IR.Ql n) (17*n) P w K mg base) :
 ∀n,(∀i F,IR.fns[i]?=some F->Jt P w K mg base CX0 (17*n) (fa i) (fd i) (D i).ps (spF nm (IR.Ql n) K F.np i)/\Jt P w K mg base (CXE P w) (17*n) (fa i) (fd i) (D i).ps (spE nm (IR.Ql n) K F.np i))/\ajv nm P w K mg base (IR.Ql n) (17*n) fr
 | 0=>⟨λi F R=>⟨⟨(λvs H Q E ⟨ι,M,ds,d',M',_,r,l,e,_⟩=>by cases e),λA Z s H qk us vs Q E hr he hb hv ⟨ι,M,ds,d',M',_,r,l,e,_⟩=>by cases e⟩,
  ⟨(λvs H Q E ⟨ι,M,ds,c,M',_,r,l,e,_⟩=>by cases e),λA Z s H qk us vs Q E hr he hb hv ⟨ι,M,ds,c,M',_,r,l,e,_⟩=>by cases e⟩⟩,⟨λA Z s H Q fa vs n f hr e0 h1 h2 h3 th ⟨ι,M,ds,c,M1,d,M2,_,_,_,e,_⟩=>by cases e⟩⟩
 |n+1=>by
  obtain⟨g1,g2⟩:=aht U h G mk n;have T:=mk n g1 g2;exact⟨λi F R=>a05 (U i (aj.mp R).1).1 (U i (aj.mp R).1).2 R (h i F R) T,a06 G T⟩
section
variable(K:Fg)(mg:Zs)
def aam:List Def->List Stmt->List Addr->List FuncData->Prop
 |d::ds,s::ss,a::as,f::fs=>(Fun K d.x d.qual s a f/\Binds K f d.ps [])/\aam ds ss as fs|[],[],[],[]=>True|_,_,_,_=>False
def Wj:List (Option (Str×Nat))->List Addr->Prop
 |some p::r,a::as=>mg p.1=some (.ref a)/\Wj r as|none::r,_::as=>Wj r as|_,_=>True
def AllK(D:Addr)(j:Nat):List (Nat×Addr)->Prop
 |p::r=>PySem.W.kitOne K (.ref p.2) (.ref D)=some (p.1==j+1)/\AllK D j r|[]=>True
def aan(Z:List (Nat×Addr)):List (Str×Bool)->List Addr->Nat->Prop
 |p::r,D::ds,j=>(mg p.1=some (.ref D)/\(p.2=true->Z.lookup (j+1)=some D)/\AllK K D j Z)/\aan Z r ds (j+1)|[],_,_=>True|_::_,[],_=>False
def aap(B:Addr):List (Nat×Addr)->Prop
 |p::r=>(afc K p.2 at8 "ValueError.__new__"/\afd K p.2=true/\PySem.W.kitOne K (.ref p.2) (.type "ValueError")=some true/\ab3 K p.2 B=true)/\aap B r|[]=>True
def aft:List (Str×Int)->Prop
 |p::r=>(∃t,mg p.1=some (.int p.2 t))/\aft r|[]=>True
def AllB:List Str->Prop
 |x::r=>mg x=none/\AllB r|[]=>True
end
theorem aam.get{K:Fg}:∀{G:List Def}{Z:List Stmt}{as:X0}{fs:List FuncData}{i:Nat}{d:Def},aam K G Z as fs->G[i]?=some d->∃s a f,Z[i]?=some s/\as[i]?=some a/\fs[i]?=some f/\Fun K d.x d.qual s a f/\Binds K f d.ps []
 |d::G,s::Z,a::as,f::fs,0,d',h,e=>by cases e;exact⟨s,a,f,rfl,rfl,rfl,h.1⟩
 |d::G,s::Z,a::as,f::fs,i+1,d',h,e=>by
  obtain⟨s',a',f',R,h2,h3,h4⟩:=aam.get (i:=i) h.2 (by simpa using e);exact⟨s',a',f',by simpa using R,by simpa using h2,by simpa using h3,h4⟩
theorem Wj.get{mg:Zs}:∀{l:List (Option (Str×Nat))}{as:X0}{i:Nat}{p:Str×Nat}{a:Addr},Wj mg l as->l[i]?=some (some p)->as[i]?=some a->mg p.1=some (.ref a)
 |some q::l,b::as,0,p,a,h,e,e2=>by cases e;cases e2;exact h.1|none::l,b::as,0,p,a,h,e,e2=>by cases e|some q::l,b::as,i+1,p,a,h,e,e2=>Wj.get (i:=i) h.2 (by simpa using e) (by simpa using e2)|none::l,b::as,i+1,p,a,h,e,e2=>Wj.get (i:=i) (l:=l) (as:=as) h (by simpa using e) (by simpa using e2)
theorem AllK.get{K:Fg}{D:Addr}{j:Nat}:∀{l:List (Nat×Addr)}{p:Nat×Addr},AllK K D j l->p∈l->PySem.W.kitOne K (.ref p.2) (.ref D)=some (p.1==j+1)
 |q::l,p,h,m=>by
  rcases cj.mp m with z|z
  .rw[z];exact h.1
  .exact AllK.get h.2 z
theorem aap.get{K:Fg}{B:Addr}:∀{l:List (Nat×Addr)}{p:Nat×Addr},aap K B l->p∈l->afc K p.2 at8 "ValueError.__new__"/\afd K p.2=true/\PySem.W.kitOne K (.ref p.2) (.type "ValueError")=some true/\ab3 K p.2 B=true
 |q::l,p,h,m=>by
  rcases cj.mp m with z|z
  .rw[z];exact h.1
  .exact aap.get h.2 z
theorem aan.get{K:Fg}{mg:Zs}{Z:List (Nat×Addr)}:∀{l:List (Str×Bool)}{G:X0}{j i:Nat}{p:Str×Bool},aan K mg Z l G j->l[i]?=some p->∃D,mg p.1=some (.ref D)/\(p.2=true->Z.lookup (j+i+1)=some D)/\AllK K D (j+i) Z
 |q::l,D::G,j,0,p,h,e=>by cases e;exact⟨D,h.1⟩
 |q::l,D::G,j,i+1,p,h,e=>by
  obtain⟨D',R⟩:=aan.get (i:=i) h.2 (by simpa using e);exact⟨D',by rw[show j+(i+1)=j+1+i by lia];exact R⟩
 |_::_,[],_,_,_,h,_=>h.elim|[],_,_,_,_,_,e=>by simp at e
theorem aft.get{mg:Zs}:∀{l:List (Str×Int)}{x:Str}{i:Int},aft mg l->(x,i)∈l->∃t,mg x=some (.int i t)
 |q::l,x,i,h,m=>by
  rcases cj.mp m with z|z
  .rw[<- z] at h;exact h.1
  .exact aft.get h.2 z
theorem AllB.get{mg:Zs}:∀{l:Ya}{x:Str},AllB mg l->x∈l->mg x=none
 |q::l,x,h,m=>by
  rcases cj.mp m with z|z
  .rw[z];exact h.1
  .exact AllB.get h.2 z
def auu(T:Tab):List MW.Fn->List Def->List Stmt->Bool
 |F::Fs,d::ds,s::ss=>aj4 T d F s&&auu T Fs ds ss|[],[],[]=>true|_,_,_=>false
noncomputable def npB(Z:List MW.Fn)(f n:Nat):Bool:=match Z[f]? with|some F=>F.np==n|none=>false
def tfB(Z:List MW.Fn)(l:List (Option (Str×Nat))):Bool:=l.zipIdx.all λq=>match q.1 with|some p=>npB Z q.2 p.2|none=>true
def Wk{Z:Type}{l:List Z}{g:Z×Nat->Bool}(h:l.zipIdx.all g=true){x:Z}(e:l[i]?=some x):g (x,i)=true:=by rw[v5] at h;exact h (x,i) (by rw[uo];exact⟨i,by rw[yx,e];simp⟩)
set_option tactic.hygienic true in
def a07(h:npB fns f n=true):∃F,fns[f]?=some F/\F.np=n:=by
 unfold npB at h;split at h
 .rename_i F e;exact⟨F,e,eq_of_beq h⟩
 .cases h
theorem Wl{T:Tab}:∀{R:List MW.Fn}{G:List Def}{Z:List Stmt}{i:Nat}{F:MW.Fn},auu T R G Z=true->R[i]?=some F->∃d s,G[i]?=some d/\Z[i]?=some s/\aj4 T d F s=true
 |F::R,d::G,s::Z,0,F',h,e=>by
  replace h:=Bool.and_eq_true_iff.mp h;cases e;exact⟨d,s,rfl,rfl,h.1⟩
 |F::R,d::G,s::Z,i+1,F',h,e=>by
  replace h:=Bool.and_eq_true_iff.mp h;obtain⟨d',s',h1,h2,h3⟩:=Wl (i:=i) h.2 (by simpa using e);exact⟨d',s',by simpa using h1,by simpa using h2,h3⟩
 |[],_,_,_,_,_,e=>by simp at e|_::_,[],_,_,_,h,_=>by cases h|_::_,_::_,[],_,_,h,_=>by cases h
noncomputable def a08(Z:List (Nat×Addr))(R:Addr)(G:Pos)(q:Str):Nm:=⟨λc=>Z.lookup c,some (R,G,q)⟩
set_option tactic.hygienic true in
def a09{IR:MW.Prog}{F:MW.Fn}(hP:auu T IR.fns Ds ss=true)(h1:tfB IR.fns T.fns=true)(aF:aam K Ds ss fas fds)(aG:Wj mg T.fns fas)(aV:aft mg T.at7)(aB:AllB mg Oa)(aX:aan K mg xas T.xcs xds 0)(aE:aap K B xas)(S:Ask K mg nm T IR.rf xn qual rst fr rfd)(mR:mg T.rx=some (.ref fr))(bm:BMain mg base)(hn:nm.xc=λc=>xas.lookup c)
 (hl:(Ds.zipIdx.all λq=>!q.1.lm||q.2==jl)=true) (q1:Ds[jl]?=some dl) (q2:ss[jl]?=some sl) (q3:fas[jl]?=some al) (aL:aus K nm T dl sl al) (hF:IR.fns[i]?=some F) :
 ∃d a f,Ds[i]?=some d/\fas[i]?=some a/\fds[i]?=some f/\Binds K f d.ps []/\Jt P w K mg base CX0 (17*n) a f d.ps (spF nm (IR.Ql n) K F.np i):=by
 let dd:Def:=⟨Str.empty,Str.empty,[],[],false⟩
 let sd:Stmt:=.Pass ⟨0,0,0,0⟩
 obtain⟨d,s,g1,g2,g3⟩:=Wl hP hF;have all:∀(i:Nat)(F:MW.Fn),IR.fns[i]?=some F->∃d s a f,Ds[i]?=some d/\ss[i]?=some s/\fas[i]?=some a/\fds[i]?=some f/\Fun K d.x d.qual s a f/\Binds K f d.ps []/\aj4 T d F s=true:=λi F e=>by
  refine hG λ_ _k=>?_
  obtain⟨d,s,g1,g2,g3⟩:=Wl hP e;obtain⟨s',a,f,Z,L,Y,J,R⟩:=aF.get g1;rw[g2] at Z;cases Z;apply _k;exact⟨d,s,a,f,g1,g2,L,Y,J,R,g3⟩
 obtain⟨qq,qk⟩:∃qq:FuncData,True:=by obtain⟨s',a,f,_⟩:=aF.get g1;exact⟨f,trivial⟩
 have u:=(aht (nm:=nm) (P:=P) (w:=w) (K:=K) (mg:=mg) (base:=base) (IR:=IR) (T:=T) (D:=λi=>Ds[i]?.getD dd) (st:=λi=>ss[i]?.getD sd) (fa:=λi=>(fas[i]?).getD 0) (fd:=λi=>(fds[i]?).getD qq)
  (λi hi=>by
   refine hG λ_ _k=>?_
   obtain⟨d,s,a,f,Z,L,Y,J,R,k6,k7⟩:=all i IR.fns[i] (by simp[hi]);have k8:aus K nm T d s a:=λz=>by have y:=Wk hl Z;simp only[z,ye,Bool.false_or] at y;have y:i=jl:=eq_of_beq y;subst y;rw[Z] at q1;cases q1;rw[L] at q2;cases q2;rw[Y] at q3;cases q3;exact aL z
   apply _k;rw[Z,L,Y,J];exact⟨R,k8⟩)
  (λi F e=>by
   refine hG λ_ _k=>?_
   obtain⟨d,s,a,f,Z,L,Y,J,R,k6,k7⟩:=all i F e;apply _k;rw[Z,L];exact k7)
  S (λn G RF=>?_) n).1 i F hF
 .refine hG λ_ _k=>?_
  obtain⟨d',s',a,f,Z,L,Y,J,R,k6,k7⟩:=all i F hF;apply _k;refine⟨d',a,f,Z,Y,J,k6,?_⟩;have:=u.1;rw[Z,Y,J] at this;exact this
 ·
  have xe:∀{c C},nm.xc c=some C->xas.lookup c=some C:=λe=>by rw[hn] at e;exact e
  refine⟨λf x m e=>?_,λx i m=>aV.get m,λx m=>aB.get m,λj x e=>?_,λj x b e=>?_,λc C e=>?_,⟨fr,RF,mR,S.U.kp⟩,bm⟩
  .refine hG λ_ _k=>?_
   obtain⟨F,e1,e2⟩:=a07 (Wk h1 e);obtain⟨d,s,a,fd,Z,L,Y,J,R,k6,k7⟩:=all f F e1;have g:=G f F e1;rw[Z,Y,J,e2] at g;apply _k;exact⟨a,fd,d.ps,g.1,g.2,aG.get e Y,R.kp,k6⟩
  .obtain⟨D,m,z,_⟩:=aX.get e
   have z:=z rfl;rw[q9] at z;exact⟨D,m,by rw[hn];exact z,(aE.get (L2.mem_of_lookup z)).1⟩
  .obtain⟨D,m,_,z⟩:=aX.get e
   rw[q9] at z;exact⟨D,m,λc C e=>z.get (L2.mem_of_lookup (xe e))⟩
  .have:=aE.get (L2.mem_of_lookup (xe e))
   exact⟨this.2.1,this.2.2.1⟩
def fN:aam K [] [] [] []:=trivial
def gN:Wj mg [] as:=trivial
def gS(h:mg p.1=some (.ref a))(t:Wj mg r Z):Wj mg (some p::r) (a::Z):=⟨h,t⟩
def kN:AllK K D j []:=trivial
def kC(h:PySem.W.kitOne K (.ref p.2) (.ref D)=some (p.1==j+1))(t:AllK K D j r):AllK K D j (p::r):=⟨h,t⟩
def xN:aan K mg xas [] ds j:=trivial
def xC(m:mg p.1=some (.ref D))(z:p.2=true->xas.lookup (j+1)=some D)(h:AllK K D j xas)(t:aan K mg xas r ds (j+1)):aan K mg xas (p::r) (D::ds) j:=⟨⟨m,z,h⟩,t⟩
def eN:aap K B []:=trivial
def Rk(c:PySem.W.clsIn K D=some q)(t:PySem.W.typeIn K (.ref D)=some (.type "type"))(h:PySem.W.subIn K (.ref C) (.ref D)=some b)(e:(C==D)=false):PySem.W.kitOne K (.ref C) (.ref D)=some b:=by
 unfold PySem.W.kitOne;split
 .rename_i z
  rw[Value.ref.inj (beq_iff_eq.mp z)] at e;simp at e
 .unfold PySem.W.kitCls
  dsimp only;rw[c,t,h];rfl
def Rc(h:C=D):PySem.W.kitOne K (.ref C) (.ref D)=some true:=by subst h;unfold PySem.W.kitOne;simp
def auv(h:PySem.W.subIn K (.ref C) (.type "ValueError")=some true):PySem.W.kitOne K (.ref C) (.type "ValueError")=some true:=by
 unfold PySem.W.kitOne;split
 .rfl
 .unfold PySem.W.kitCls
  have:PySem.W.kitMeta "ValueError" = true:=by decide+kernel
  simp only[this,h];rfl
def eC(x:PySem.W.excIn K p.2 at8 "ValueError.__new__" = true)(ga:PySem.W.findIn K (.ref p.2) "__getattribute__" = some (some (.builtin "BaseException.__getattribute__")))(nh:PySem.W.findIn K (.ref p.2) "__getattr__" = some none)(cl:PySem.W.findIn K (.ref p.2) "__class__" = some (some (.builtin "object.__class__")))
 (sB:PySem.W.subIn K (.ref p.2) (.type "BaseException")=some true) (sO:PySem.W.subIn K (.ref p.2) (.type "object")=some true) (is:PySem.W.clsIn K p.2=some q) (R:PySem.W.subIn K (.ref p.2) (.type "ValueError")=some true)
 (G:PySem.W.subIn K (.ref p.2) (.ref B)=some true) (m2:PySem.W.subIn K (.ref B) (.type "BaseException")=some true) (m3:PySem.W.typeIn K (.ref B)=some (.type "type")) (Z:PySem.W.clsIn K B=some q') (t:aap K B r):aap K B (p::r) :=
 ⟨⟨⟨x⟩,by unfold afd;rw[ga,nh,cl,sB,sO,is];rfl,auv R,by unfold ab3;rw[G,m2,m3,Z];rfl⟩,t⟩
def vN:aft mg []:=trivial
def bN:AllB mg []:=trivial
def bC(h:mg x=none)(q:AllB mg r):AllB mg (x::r):=⟨h,q⟩
abbrev Lk(K:Fg)(f:Addr)(x q:Str)(st:Stmt)(oc:Value)(od:Option Addr)(kV dc pm:Value)(an:Option Addr)(cd ct:Value)(sl:Array (Option Value)):Prop :=
 K.lookup f=some ⟨oc,od,.func (PySem.W.fnOf x q (Dt st) (Bs st) (my st) .none kV dc pm an cd ct),sl⟩/\PySem.W.codeIn K cd q=true/\PySem.W.keepIn K (.ref f)=true
noncomputable def a1a:Nat->(List Value->Prop)->Prop|0,P=>P []|n+1,P=>∀a,a1a n λZ=>P (a::Z)
theorem ahu:∀{us:Zl}{P:List Value->Prop},a1a us.length P->P us|[],_,h=>h|a::us,_,h=>ahu (us:=us) (h a)
def fE{kV:Value}(l:Lk K a d.x d.qual s oc od kV dc Z R cd G sl)(r:aam K ds ss as fs)
 (b:∀(kV qq Z:Value)(R:Option Addr)(qk G:Value),a1a d.ps.length λus=>bindArgs (PySem.W.fnOf d.x d.qual (Dt s) (Bs s) (my s) .none kV qq Z R qk G) ⟨us,[]⟩=pure (d.ps.zip us):=by(repeat intro _);rfl) :
 aam K (d::ds) (s::ss) (a::as) (PySem.W.fnOf d.x d.qual (Dt s) (Bs s) (my s) .none kV dc Z R cd G::fs):=⟨⟨Z0 l.1 l.2.1 l.2.2,(Z0 l.1 l.2.1 l.2.2).binds λ_ _ _ _ _ _ _ e=>ahu (e▸b _ _ _ _ _ _)⟩,r⟩
def a8v{kV:Value}(l:Lk K fr R qual s oc od kV dc Z G cd ct sl)
 (b:∀(kV qq Z:Value)(G:Option Addr)(qk ct:Value)(u:Value),bindArgs (PySem.W.fnOf R qual (Dt s) (Bs s) (my s) .none kV qq Z G qk ct) ⟨[u],[]⟩=pure [(("call" : Str),u)]:=by(repeat intro _);rfl) :
 Fun K R qual s fr (PySem.W.fnOf R qual (Dt s) (Bs s) (my s) .none kV dc Z G cd ct)/\Binds K (PySem.W.fnOf R qual (Dt s) (Bs s) (my s) .none kV dc Z G cd ct) ["call"] [] :=
 ⟨Z0 l.1 l.2.1 l.2.2,(Z0 l.1 l.2.1 l.2.2).binds λ_ _ _ _ _ _ us e=>match us,e with|[u],_=>b _ _ _ _ _ _ u⟩
noncomputable def ahv(R:Addr)(K:Fg):Sp:=λvs H Q _=>∃(a:Addr)(Z:X9),vs=[.ref a]/\ab5 R H/\Hm K H a (Z.map V.int)/\Z.length<=63/\∀G,Q (.bl true) G
def auw(o:ab5 Z H)(h:Hm K H a vs):Z7 K H a vs:=by
 rcases h with(h|h)|h
 .by_cases z:a=Z
  .rw[z,show H Z=_ from o.1] at h;cases h
  .rcases o.2 a z with z|⟨ob,xs,z⟩<;>rw[z] at h<;>cases h
 .exact .inl h
 .exact .inr h
def auy(run:∀(Z:X9),Z.length<=63->∃G,W.call i [.fz (Z.map MW.D.int)] []=.ok (.bl true) G)(h:ahv Pt K vs H Q E):spF (a08 xas Pt lp q) W K 1 i vs H Q E:=by
 obtain⟨a,Z,rfl,o,hS,hl,k⟩:=h;obtain⟨G,e⟩:=run Z hl;refine⟨⟨[],[]⟩,[],_,_,G,⟨rfl,zg,by simp,λn o a h=>by simp at h,λt R=>?_⟩,.cons (.fz (auw o hS) (mj.ints Z)) .nil,rfl,e,λqq H' v le S' r=>?_⟩
 .cases R
  exact⟨#[],o.1,.inl rfl⟩
 .cases r
  exact k H'
def walk{l:PySem.W.OpenLaw}{K:Params->Fg}(hn:l.most=some 63)(G:d.params.defaults=[])(hY:∀(w:World) (h:Heap),YP w h->(K w.params).In h/\h.get? Pt=some (PySem.W.tabObj #[]))(qq:∀w:World,(K w.params).lookup Pt=none)(R:∀w:World,PySem.W.codeHdIn (K w.params) ct Pt=true)(F:∀(w:World) (mg:Zs) (fa:Addr) (h:Heap),(K w.params).In h->h.Ns mainGlobals mg->mg d.name=some (.ref fa) ->
 ∃fd:FuncData,(∀(s:Shared) (u:Value),BindsTo s fd ⟨[u],[]⟩ [("script",u)])/\∀Z:Heap,(K w.params).In Z->Z.Ns mainGlobals mg->BMain mg Z->Jt l.prog w (K w.params) mg Z CX0 170 fa fd ["script"] (ahv Pt (K w.params))) :
 PySem.W.WalkO q loose XP YP l.row.toRowW d [] (λf vs=>PySem.call f vs) :=
 L2.anx (n:=63) (k:=170) (x := "script") (CX:=λ_=>CX0) (sp:=λw=>ahv Pt (K w.params)) hn (by decide) G ⟨rfl,by decide,by decide⟩ hY qq R F (λ_ _ a ns hl ho hS=>⟨a,ns,rfl,ho,hS,hl,λ_=>rfl⟩) λ_ _ _ _ _ z=>z
end Ck
namespace K13
open PySem L2
noncomputable def top(i:Nat):Stmt:=PySem.Challenge.pw_mapwright_k13_apart_onto_back.main.body.getD i (.Pass ⟨0,0,0,0⟩)
def sts:List Stmt:=[top 14,top 15,top 16,top 17,top 18,top 19,top 20,top 21,top 22,top 9,top 10,top 11,top 12,top 23,top 24,top 25,top 26,top 27,top 29,top 30,top 31,top 32]
noncomputable def Ds:List Ck.Def:=[⟨"_law_cell_at", "_law_cell_at",["script", "k"],["script", "k"],false⟩,⟨"_law_state", "_law_state",["script", "k", "cell"],["script", "k"],false⟩,⟨"_law_take", "_law_take",["state", "many", "found", "mixed"],["state", "many"],false⟩,⟨"_law_begun", "_law_begun",["state", "way", "graph", "loops", "swap", "known", "kinds", "sizes", "found", "k", "one", "other"],["state"],false⟩,⟨"_law_closed", "_law_closed",["begun", "found", "one", "other", "row", "k", "j", "first", "second", "more"],["begun"],false⟩,⟨"_law_pattern", "_law_pattern",["state", "begun", "closed", "kinds", "table", "j", "k", "more"],["state"],false⟩,⟨"_law_ways", "_law_ways",["pat", "kind"],["pat", "kind"],false⟩,⟨"_law_end", "_law_end",["pat", "kind", "way"],["pat", "kind", "way"],false⟩,⟨"_law_behind", "_law_behind",["pat", "one", "other"],["pat", "one", "other"],false⟩,⟨"is_apart", "is_apart",["some"],["some"],false⟩,⟨"is_onto", "is_onto",["other", "some"],["other", "some"],false⟩,⟨"turned_back", "turned_back",["other", "some"],["other", "some"],false⟩,⟨"turned_row", "turned_row",["row", "back", "thing", "goal"],["row"],false⟩,⟨"_law_merged", "_law_merged",["pat", "marks", "acts", "changed", "k", "one", "other", "first", "thing", "mark", "end", "low", "high"],["pat", "marks", "acts"],false⟩,⟨"_law_world", "_law_world",["state", "pat", "most", "rows", "number", "kind", "some", "end", "way", "acts", "k", "one", "other", "marks", "low", "high", "heads", "told", "row"],["state", "pat", "most"],false⟩,⟨"_law_led", "_law_led",["world", "thing", "way"],["world", "thing", "way"],false⟩,⟨"_law_known", "_law_known",["pat", "one", "other", "known", "kind", "thing", "end", "more", "way", "far", "here", "there"],["pat", "one", "other", "known", "kind", "thing", "end"],false⟩,⟨"_law_some_map", "_law_some_map",["state", "pat", "one", "other", "known", "kind", "thing", "more", "turn", "k"],["state", "pat", "one", "other"],false⟩,⟨"_law_orders", "_law_orders",["state", "world", "found", "size", "left"],["state", "world"],false⟩,⟨"_law_turned", "_law_turned",["pat", "world", "orders", "acts", "k", "one", "other", "row", "thing", "old"],["pat", "world", "orders"],false⟩,⟨"_law_looked", "_law_looked",["one", "other", "some", "apart", "onto", "kind", "found", "due"],["one", "other", "some"],true⟩,⟨"law", "law",["script", "state", "pat", "k", "one", "other", "some", "orders", "nought"],["script"],false⟩]
noncomputable def tab:Ck.Tab:=⟨[some ("_law_cell_at",2),some ("_law_state",2),some ("_law_take",2),some ("_law_begun",1),some ("_law_closed",1),some ("_law_pattern",1),some ("_law_ways",2),some ("_law_end",3),some ("_law_behind",3),some ("is_apart",1),some ("is_onto",2),some ("turned_back",2),some ("turned_row",1),some ("_law_merged",3),some ("_law_world",3),some ("_law_led",3),some ("_law_known",7),some ("_law_some_map",4),some ("_law_orders",2),some ("_law_turned",3),some ("_law_looked",3),some ("law",1)],[],[("NoPattern",false),("NoMap",true),("TooMany",false),("NoSaying",false),("NoName",false),("BadNote",false)], "_law_refused",⟨217,28,217,60⟩⟩
def chk:Ck.auu tab prog.fns Ds sts=true:=by decide+kernel
def ben:Ck.tfB prog.fns tab.fns=true:=by decide+kernel
def beo:(Ds.zipIdx.all λq=>!q.1.lm||q.2==20)=true:=by decide+kernel
def bep:(Ck.scB Ck.rN ["call"] (my (top 28))&&(((my (top 28)).names.lookup ("call" : Str)==some NameKind.local&&(my (top 28)).names.lookup ("error" : Str)==some NameKind.local)&&((my (top 28)).names.lookup ("e" : Str)==some NameKind.local&&((my (top 28)).names.lookup ("MapError" : Str)==some NameKind.globalImplicit&&prog.rf.ns==4))))=true:=by decide+kernel
def a8w:List Stmt:=(Bs (top 28)).drop 2
def ber:Ck.Pj tab prog.rf.body ⟨Ck.rN,(my (top 28)).names,true,[],false⟩ a8w=true:=by decide+kernel
open MW
noncomputable def Lg(Z:List F)(k i:Nat):Bool:=match Z[i]? with|some f=>decide (f.a=k)|none=>false
def vg(Z:List F)(k:Nat):List D:=.int (-1)::((List.range Z.length).filter (Lg Z k)).map nD
def Jb(h:d∈vg Z k):d=.int (-1)\/∃(i:Nat)(f:F),d=.int i/\Z[i]?=some f/\f.a=k:=by
 rcases cj.mp h with q|q
 .exact .inl q
 .obtain⟨i,hi,rfl⟩:=bz.mp q
  obtain⟨h1,R⟩:=xf.mp hi;have G:=gw.mp h1;have e:Z[i]?=some Z[i]:=by simp[G]
  rw[Lg,e] at R;exact .inr ⟨i,Z[i],rfl,e,by simpa using R⟩
def adi(h:d∈vg Z k):∃i:Int,d=.int i:=by rcases Jb h with rfl|⟨i,f,rfl,_⟩<;>exact⟨_,rfl⟩
def Wm(Z:hs.length<=5):(vg hs k).length<=6:=by have:=Ag (Lg hs k) (List.range hs.length);simp at this;simp[vg];exact a_ this Z
def rz(K r:Nat)(Z:List F):D:=.tup [.int K,dsD Z,.ref r]
def Rm(K r:Nat)(Z:List F)(M:dg):Ak (rz K r Z) (.int 0) M=some (.int K):=rfl
def Mg(K r:Nat)(Z:List F)(M:dg):Ak (rz K r Z) (.int 1) M=some (dsD Z):=rfl
def a8x(K r:Nat)(Z:List F)(M:dg):Ak (rz K r Z) (.int 2) M=some (.ref r):=rfl
def adk(hm:1<=m)(hl:Z.length<=5){k:Nat}:prog.call m 6 [rz K r Z,.int k] M=.ok (.vl (vg Z k)) M:=by
 rw[call_of hm rfl];have R:Jr.den (PW (m-1)) [some (rz K r Z),some (.int k)] M=.ok (.vl (((List.range Z.length).filter (Lg Z k)).map nD)) M:=by
  unfold Jr;rw[Mw (n:=Z.length) (M1:=M) (q:=Lg Z k) (g:=nD) (by simp[Mg,Sv]) (a_ hl (by decide)) (λi G=>by
   have e:Z[i]?=some Z[i]:=by simp[G]
   refine⟨_,rfl,?_,λ_=>?_⟩
   .simp[-eq_int,Mg,Xx e,a4k,Bw,Lg,G]
   .simp[nD])]
  simp
 have:=Xq (M:=M) [.int (-1)] (((List.range Z.length).filter (Lg Z k)).map nD) (by
  have:=Ag (Lg Z k) (List.range Z.length);simp at this ⊢
  lia)
 simp[Fn.run,T7,T6,R,this,vg]
def auz(R:1<=m){k i:Nat}(G:Z[i]?=some f):prog.call m 7 [rz K r Z,.int k,.int i] M=.ok (.int f.b) M:=by
 rw[call_of R rfl];have ni:¬((i:Int)<0):=by lia
 simp[Fn.run,Qa,P0,ni,Mg,Xx G,a4l]
def aj5(Z:1<=m){k:Nat}:prog.call m 7 [rz K r G,.int k,.int (-1)] M=.ok (.int k) M:=by rw[call_of Z rfl];simp[Fn.run,Qa,P0]
def afu(hm:1<=m)(hr:M[r']?=some (.dT jn))(hx:-1<=x)(hy:-1<=y)(Z:bothW hs jn x y=some v):prog.call m 8 [rz K r' hs,.int x,.int y] M=.ok v M:=by
 rw[call_of hm rfl];unfold bothW at Z
 by_cases G:x=-1
 .rw[dh G] at Z;cases Z
  subst G;have:(-1:Int)+y+1=y:=by lia
  simp[Fn.run,Fy,Fw,this]
 .rw[cu G] at Z
  have nx:¬x<0:=by lia
  by_cases R:y=-1
  .rw[dh R] at Z;cases Z
   subst R;have:x+(-1:Int)+1=x:=by lia
   simp[Fn.run,Fy,Fw,nx,this]
  .rw[cu R] at Z
   have ny:¬y<0:=by lia
   simp[Fn.run,Fy,Fw,nx,ny,a8x,a4f hr (a4g x y),Z]
end K13
namespace MW
end MW
namespace K13
open MW
noncomputable def Bb(Z:List F)(k:Nat):D->Nat
 |.int i=>if i=-1 then k else match Z[i.toNat]? with|some f=>f.b|none=>0
 |_=>0
def wT(Z:List F)(k g:Nat):List D:=(vg Z k).filter λd=>decide (Bb Z k d=g)
def afv(h:d∈wT Z k g):d∈vg Z k/\Bb Z k d=g:=by have:=xf.mp h;exact⟨this.1,by simpa using this.2⟩
def Hh{i:Nat}(h:Z[i]?=some f):Bb Z k (.int i)=f.b:=by
 have:¬((i:Int)=-1):=by lia
 simp[Bb,this,h]
def afw{i:Nat}(h:Z[i]?=some f)(e:f.a=k):.int i∈vg Z k:=by refine bx _ (bz.mpr ⟨i,xf.mpr ⟨gw.mpr (aj.mp h).1,?_⟩,rfl⟩);simp[Lg,h,e]
def awz{i:Nat}(h:Z[i]?=some f)(e:f.a=k):.int i∈wT Z k f.b :=
 xf.mpr ⟨afw h e,by simp[Hh h]⟩
def a1b(h:d∈wT Z k g):∃i:Int,d=.int i:=adi (afv h).1
def bv(Z:List F)(G:List (List Kx×D))(j:Nat):D->Int
 |.int x=>match bothW Z G x j with|some (.int v)=>v|_=>0
 |_=>0
def au0(P:Ua sz K Z G){j:Nat}(hj:Z[j]?=some f)(hd:d∈wT Z k f.a) :
 ∃x:Int,d=.int x/\-1<=x/\bothW Z G x j=some (.int (bv Z G j d))/\.int (bv Z G j d)∈wT Z k f.b:=by
 obtain⟨h1,R⟩:=afv hd;have nj:¬((j:Int)=-1):=by lia
 rcases Jb h1 with rfl|⟨i,g,rfl,hg,e⟩
 .have e:k=f.a:=by simpa[Bb] using R
  have:bothW Z G (-1) j=some (.int j):=by simp[bothW]
  refine⟨-1,rfl,by lia,by simp[bv,this],?_⟩;simp only[bv,this];exact awz hj e.symm
 .rw[Hh hg] at R
  have ni:¬((i:Int)=-1):=by lia
  have:bothW Z G i j=some (.int (ent Z g f)):=by rw[bothW,cu ni,cu nj];exact P.look hg hj R
  refine⟨i,rfl,by lia,by simp[bv,this],?_⟩;simp only[bv,this];have mg:=au hg;have mf:=au hj;rw[K7];rcases P.Du (P.cl g mg f mf R) with⟨x1,i1⟩|⟨u,hu,x1⟩
  .rw[x1]
   refine xf.mpr ⟨by simp[vg],?_⟩;have:g.a=f.b:=i1.1;simp[Bb,<- e,this]
  .rw[x1]
   exact awz (f:=g.comp f) hu e
noncomputable def ixI(v:Int)(Z:List D):Nat:=(Z.findIdx? λd=>match d with|.int i=>decide (i=v)|_=>false).getD 0
theorem adl(M:dg)(v:Int):∀Z:List D,(∀d∈Z,∃i:Int,d=.int i)->Ot M (.int v) Z=some (Z.map λd=>match d with|.int i=>decide (i=v)|_=>false)
 |[],_=>rfl
 |d::l,h=>by
  obtain⟨i,rfl⟩:=h d (by simp);simp[Ot,adl M v l (λx G=>h x (bx _ G))]
theorem adm{Z:Type}(f:Z->Bool):∀l:List Z,(l.map f).findIdx? id=l.findIdx? f
 |[]=>rfl|a::l=>by simp[List.findIdx?_cons,adm f l]
def adn(Z:∀d∈ds,∃i:Int,d=.int i)(h:.int v∈ds):Ep .index (.vl ds) [.int v] M=.ok (.int (ixI v ds)) M:=by
 have e:Qo M (.int v) ds=some (ixI v ds):=by
  rw[Qo,adl M v ds Z,qu,adm];unfold ixI;cases q:ds.findIdx? (λd=>match d with|.int i=>decide (i=v)|_=>false) with
  |some j=>rfl
  |none =>
   rw[vq] at q;have:=q _ h;simp at this
 simp[Ep,e]
end K13
namespace K13
open MW
def ado(G:1<=m)(R:d∈vg Z k):prog.call m 7 [rz K r Z,.int k,d] M=.ok (.int (Bb Z k d)) M:=by
 rcases Jb R with rfl|⟨i,f,rfl,hf,_⟩
 .rw[aj5 G];simp[Bb]
 .rw[auz G hf,Hh hf]
def RS(p K:Nat)(Z:Nat->List D)(M:dg):Prop:=∀i,i<K->M[p+i]?=some (.lst (Z i))
noncomputable def lz(p K:Nat):List D:=(List.range K).map λi=>.ref (p+i)
theorem RS.keep(h:RS p K rs M)(s:St t f M M')(G:t<p):RS p K rs M':=λi Z=>s.keep _ _ (i_ (b_ G x_)) (h i Z)
def Oo(Z:i<K):Ak (.vl (lz p K)) (.int i) M=some (.ref (p+i)):=Df rfl q_ (by simp[lz,Z])
def apl(hy:y=ρ.length)(he:e.den W ρ M=.ok (.int K) M)(hK:K<=100000) :
 (Ex.comp true 1 (.name y) (.Jg e) (.lst .nil)).den W ρ M=.ok (.vl (lz M.length K)) (M++List.replicate K (.lst [])):=by
 subst hy;obtain⟨ys,Z,g,R,h2⟩:=Ks (v:=true) (k:=1) (t:=.name ρ.length) (e:=.lst .nil) he hK (λi G Z=>G=lz M.length i/\Z=M++List.replicate i (.lst [])) ⟨rfl,by simp⟩
  (λi G Z hi hI=>by
   obtain⟨rfl,rfl⟩:=hI;refine⟨_,.ref (M.length+i),M++List.replicate i (MO.lst [])++[MO.lst []],rfl,by simp[MW.new],?_,?_⟩
   .simp[lz,xg]
   .simp[List.replicate_succ'])
 rw[g,R,h2];rfl
def rowsOf(Z:List F)(G:List (Nat×Nat))(e:Nat):List D:=G.flatMap λp=>(wT Z p.2 e).map λw=>.tup [.int p.1,.int p.2,w]
def Wn(Z:List F)(G:List (Nat×Nat))(p:Nat×Nat)(e:Nat):rowsOf Z (G++[p]) e=rowsOf Z G e++(wT Z p.2 e).map λw=>.tup [.int p.1,.int p.2,w]:=by simp[rowsOf]
def aaq(P:Ua sz K Z jn)(G:k<K)(R:d∈vg Z k):Bb Z k d<K:=by
 rcases Jb R with rfl|⟨i,f,rfl,hf,_⟩
 .simpa[Bb] using G
 .rw[Hh hf];exact P.Zq f (au hf)
def au1(hm:1<=m)(hl:hs.length<=5)(G:ρ[1]?=some (some (rz K r hs)))(R:ρ[5]?=some (some (.int k)))(Z:ρ.length=19) :
 Il.den (PW m) ρ M=.ok (.vl ((vg hs k).map λw=>.tup [.int (Bb hs k w),w])) M:=by
 unfold Il;rw[Ay (d:=.vl (vg hs k)) (ds:=vg hs k) (M1:=M) (g:=λw=>.tup [.int (Bb hs k w),w]) (by simp[G,R,adk hm hl]) rfl (ig (Wm hl) (by decide)) (λx hx=>by
  refine⟨_,rfl,?_⟩;have e1:(ρ++List.replicate 1 none).set 19 (some x)=ρ++[some x]:=by rw[Bf];simp[Z]
  rw[e1];have g1:(ρ++[some x])[1]?=some (some (rz K r hs)):=by rw[dj (b_ (by decide) (g_ Z))];exact G
  have g5:(ρ++[some x])[5]?=some (some (.int k)):=by rw[dj (b_ (by decide) (g_ Z))];exact R
  have g9:(ρ++[some x])[19]?=some (some x):=by rw[<- Z];simp
  simp[g1,g5,g9,ado hm hx])]
 rfl
def Xg(p:Nat)(M Z:dg):Prop:=∀(a:Nat)(o:MO),a<p->M[a]?=some o->Z[a]?=some o
def Xg.refl(p:Nat)(M:dg):Xg p M M:=λ_ _ _ h=>h
def Xg.trans(a:Xg p M Z)(b:Xg p Z M2):Xg p M M2:=λx o h e=>b x o h (a x o h e)
theorem Xg.set(h:p<=q):Xg p M (M.set q o):=λa u Z e=>by rw[uh (i_ (b_ Z h))];exact e
noncomputable def Yt(n k:Nat)(w:D):D:=.tup [.int n,.int k,w]
def aw0(n k:Nat)(w:D):D.tup [.int n,.int k,w]=Yt n k w:=rfl
def aar(Z:List F)(G:Nat->List D)(n k j:Nat)(e:Nat):List D:=G e++(((vg Z k).take j).filter λw=>decide (Bb Z k w=e)).map (Yt n k)
def apm(Z:List F)(G:Nat->List D)(n k e:Nat):aar Z G n k (vg Z k).length e=G e++(wT Z k e).map (Yt n k):=by unfold aar wT;rw[List.take_length]
def apn(G:Z.length<=5)(h7:(rs e).length<=7):(aar Z rs n k j e).length<=13:=by
 have R:=Ag (λw=>decide (Bb Z k w=e)) ((vg Z k).take j);have h2:=Wm (k:=k) G;have h3:((vg Z k).take j).length<=(vg Z k).length:=by simp;lia
 simp only[aar,v7,gf]
 lia
def ak7(P:Ua sz K Z jn)(hk:k<K)(h:RS p K rs M)(h7:∀e,e<K->(rs e).length<=7)(hr:rest.length=10) :
 ∃b7 b8 G,Nk.den W ([a0,a1,a2,some (.vl (lz p K)),some (.int n),some (.int k),some (.vl ((vg Z k).map λw=>.tup [.int (Bb Z k w),w])),b7',b8']++rest) M
  = .ok (.next,[a0,a1,a2,some (.vl (lz p K)),some (.int n),some (.int k),some (.vl ((vg Z k).map λw=>.tup [.int (Bb Z k w),w])),b7,b8]++rest) G/\RS p K (λe=>rs e++(wT Z k e).map (Yt n k)) G/\Xg p M G/\G.length=M.length:=by
 refine hG λ_ _k=>?_
 have hl:=P.len;obtain⟨qk,G,e,⟨c7,c8,rfl⟩,r1,r2,r3⟩:=Zf (W:=W) (t:=.names [7,8]) (b:=Eg) (it:=.v 6) (d:=.vl ((vg Z k).map λw=>.tup [.int (Bb Z k w),w])) (ds:=(vg Z k).map λw=>.tup [.int (Bb Z k w),w])
  (ρ:=[a0,a1,a2,some (.vl (lz p K)),some (.int n),some (.int k),some (.vl ((vg Z k).map λw=>.tup [.int (Bb Z k w),w])),b7',b8']++rest) (M:=M) (M1:=M) (by simp) rfl
  (λj ρ G=>(∃b7 b8:Option D,ρ=[a0,a1,a2,some (.vl (lz p K)),some (.int n),some (.int k),some (.vl ((vg Z k).map λw=>.tup [.int (Bb Z k w),w])),b7,b8]++rest)/\RS p K (aar Z rs n k j) G/\Xg p M G/\G.length=M.length)
  ⟨⟨b7',b8',rfl⟩,λi R=>by rw[h i R];simp[aar],Xg.refl _ _,rfl⟩ (λ_ _ _ _=>rfl)
  (λj x ρ M1 hx hI=>by
   refine hG λ_ _k=>?_
   obtain⟨⟨c7,c8,rfl⟩,q1,q2,q3⟩:=hI;obtain⟨w,hw,rfl⟩:∃w,(vg Z k)[j]?=some w/\D.tup [.int (Bb Z k w),w]=x:=by simpa using hx
   have qq:=au hw;have he:=aaq P hk qq;have g:=q1 _ he;have ap:=Hc (d:=Yt n k w) g (by have:=apn (n:=n) (k:=k) (j:=j) hl (h7 _ he);exact c_ this (by decide));apply _k;refine⟨_,.next,_,M1.set (p+Bb Z k w) (.lst (aar Z rs n k j (Bb Z k w)++[Yt n k w])),abn _ _ _ _ _,?_,.inl rfl,⟨some (.int (Bb Z k w)),some w,rfl⟩,?_,q2.trans (Xg.set x_),by simp[q3]⟩
   .show Eg.den W (a0::a1::a2::some (.vl (lz p K))::some (.int n)::some (.int k)::some (.vl ((vg Z k).map λw=>.tup [.int (Bb Z k w),w]))::some (.int (Bb Z k w))::some w::rest) M1=_
    simp[Eg,Oo he,Hu g,aw0,ap]
   .intro i R
    have e1:(vg Z k).take (j+1)=(vg Z k).take j++[w]:=by rw[List.take_succ,hw];rfl
    by_cases z:i=Bb Z k w
    .subst z
     rw[wj g];simp[aar,e1,List.filter_append]
    .rw[uh (by lia),q1 i R]
     simp[aar,e1,List.filter_append,j0 z])
 apply _k;refine⟨c7,c8,G,e,λi R=>?_,r2,r3⟩;rw[r1 i R];simp only[gf];rw[apm]
structure Gs(t:Nat)(f:Bool)(p:Nat)(M M':dg):Prop where
 has:Su t f M'
 low:∀(a:Nat)(o:MO),a<p->a≠t->M[a]?=some o->M'[a]?=some o
 len:M.length<=M'.length
def Gs.trans(a:Gs t f p M Z)(b:Gs t f p Z M2):Gs t f p M M2:=⟨b.has,λx o h n e=>b.low x o h n (a.low x o h n e),ig a.len b.len⟩
def Gs.Yu(s:St t f M M1):Gs t f p M M1:=⟨s.has,λa o _ n e=>s.keep a o n e,s.len⟩
def Xg.has(h:Su t f M)(l:Xg p M M1)(Z:t<p):Su t f M1:=by obtain⟨n,e,o⟩:=h;exact⟨n,l _ _ Z e,o⟩
def Gs.afx(h:Su t f M)(l:Xg p M M1)(G:t<p)(Z:M.length<=M1.length):Gs t f p M M1:=⟨l.has h G,λa o x _ e=>l a o x e,Z⟩
def Gs.refl(h:Su t f M):Gs t f p M M:=⟨h,λ_ _ _ _ e=>e,bf _⟩
def Gs.st(g:Gs t f M.length M M1):St t f M M1:=⟨g.len,g.has,λa o n e=>g.low a o (zr e) n e⟩
def Gs.app(h:Su t f M)(Z:p<=M.length)(X:dg):Gs t f p M (M++X):=⟨by obtain⟨n,e,o⟩:=h;exact⟨n,Ab e,o⟩,λa o _ _ e=>Ab e,by simp⟩
def au2(R:ρ.length=y)(h3:ρ[3]?=some (some (.vl (lz p K))))(h:RS p K rs M)(G:K<=3) :
 (Ex.comp true 1 (.name y) (.val (.v 3)) (.blt .len (.o (.var y)))).den W ρ M=.ok (.vl (((List.range K).map λi=>(rs i).length).map nD)) M:=by
 subst R;rw[Ay (d:=.vl (lz p K)) (ds:=lz p K) (M1:=M) (g:=λd=>match qm .len [d] M with|.ok x _=>x|_=>.non) (by simp[h3]) rfl (by simp[lz];exact a_ G (by decide)) (λd hd=>by
  obtain⟨i,Z,rfl⟩:=bz.mp hd;refine⟨_,rfl,?_⟩;simp[len_list (o6 (h i (gw.mp Z)))])]
 simp only[o5,lz,yt]
 congr 2
 apply ph;intro i Z;simp[len_list (o6 (h i (gw.mp Z))),nD]
structure Rw(hs:List F)(K p:Nat)(ad:List (Nat×Nat))(M:dg):Prop where
 rs:RS p K (rowsOf hs ad) M
 kd:∀q∈ad,q.2<K
 le:∀e,e<K->(rowsOf hs ad e).length<=7
 nd:(ad.map (·.1)).Nodup
def au3(hm:1<=m)(P:Ua sz K Z jn)(hh:Su t f M)(ht:t<p)(h:Rw Z K p ad M)(hn:∀q∈ad,q.1<n)(hr:rest.length=10) :
 ∃c5 c6 c7 R qq M',Dd.den (PW m) ([some (.ref t),some (rz K r Z),some (.int 3),some (.vl (lz p K)),some (.int n),b5,b6,b7,b8]++rest) M
  = .ok (.next,[some (.ref t),some (rz K r Z),some (.int 3),some (.vl (lz p K)),some (.int n),c5,c6,c7,R]++rest) M'/\Rw Z K p qq M'/\(∀q∈qq,q.1<n+1)/\Gs t f p M M'/\M'.length=M.length:=by
 refine hG λ_ _k=>?_
 have hl:=P.len;have h3:=P.k3;obtain⟨k,M1,e1,l1,s1,n1⟩:=Br (many:=K) hm hh (by have:=P.k1;exact m_ this) (m_ (c_ h3 (by decide)));have hk:k<K:=o_ l1
 have r1:=h.rs.keep s1 ht;have c9:=au1 (M:=M1) (r:=r) (K:=K) (hs:=Z) (ρ:=[some (.ref t),some (rz K r Z),some (.int 3),some (.vl (lz p K)),some (.int n),some (.int k),b6,b7,b8]++rest) (k:=k) hm hl rfl rfl (by simp[hr]);have R:=au2 (W:=(PW m)) (M:=M1) (ρ:=[some (.ref t),some (rz K r Z),some (.int 3),some (.vl (lz p K)),some (.int n),some (.int k),some (.vl ((vg Z k).map λw=>.tup [.int (Bb Z k w),w])),b7,b8]++rest) (y:=19) (by simp[hr]) rfl r1 h3;obtain⟨v,e3,v1,v2⟩:=amd (M:=M1) (xs:=(List.range K).map λi=>(rowsOf Z ad i).length) (by have:=P.k1;intro z;have:=ql List.length z;simp at this;exact l_ (o_ l1) (a_ (f_ this) (jy _)));generalize hL:(D.vl (((List.range K).map λi=>(rowsOf Z ad i).length).map nD))=L at e3 R;have G:qm .len [.vl ((vg Z k).map λw=>D.tup [.int (Bb Z k w),w])] M1=.ok (.int (vg Z k).length) M1:=by simp[qm,Mr]
 apply _k
 by_cases q:v+(vg Z k).length<8
 .have q':(v:Int)+((vg Z k).length:Int)<8:=by lia
  obtain⟨d7,d8,M2,e4,r2,lo,n2⟩:=ak7 (W:=(PW m)) (M:=M1) P (n:=n) hk r1 h.le (a0:=some (.ref t)) (a1:=some (rz K r Z)) (a2:=some (.int 3)) (b7':=b7) (b8':=b8) (rest:=rest) hr;refine⟨some (.int k),some (.vl ((vg Z k).map λw=>D.tup [.int (Bb Z k w),w])),d7,d8,ad++[(n,k)],M2,?_,⟨λi hi=>?_,λq hq=>?_,λe he=>?_,?_⟩,λq hq=>?_,(Gs.Yu s1).trans (Gs.afx s1.has lo ht (g_ n2)),n2.trans n1⟩
  .simp only[zu,Af] at c9 R e4 ⊢
   simp[Dd,Rm,e1,c9,Ik,R,e3,G,q',e4]
  .rw[r2 i hi,Wn];rfl
  .rcases dz.mp hq with z|z
   .exact h.kd q z
   .have:q=(n,k):=by simpa using z
    rw[this];exact hk
  .rw[Wn,v7,gf]
   have a1:=v1 (rowsOf Z ad e).length (bz.mpr ⟨e,gw.mpr he,rfl⟩);have a2:(wT Z k e).length<=(vg Z k).length:=Ag _ _
   simp only
   lia
  .rw[w6]
   refine yz.mpr ⟨h.nd,by simp,λa ha b hb=>?_⟩;obtain⟨q,hq,rfl⟩:=bz.mp ha;have:b=n:=by simpa using hb
   have:=hn q hq
   lia
  .rcases dz.mp hq with z|z
   .have:=hn q z;exact A_ (e_ this)
   .have:q=(n,k):=by simpa using z
    rw[this];exact uf n
 .have q':¬(v:Int)+((vg Z k).length:Int)<8:=by lia
  refine⟨some (.int k),some (.vl ((vg Z k).map λw=>D.tup [.int (Bb Z k w),w])),b7,b8,ad,M1,?_,⟨r1,h.kd,h.le,h.nd⟩,λq hq=>by have:=hn q hq;exact A_ (e_ this),Gs.Yu s1,n1⟩;simp only[zu,Af] at c9 R ⊢;simp[Dd,Rm,e1,c9,Ik,R,e3,G,q']
theorem ahw{M:dg}{x:D}:∀{G:List D},(∀y∈G,∃b,ym M y x=some b)->∃bs:List Bool,Ot M x G=some bs/\bs.length=G.length/\∀(i:Nat)(y:D),G[i]?=some y->(bs[i]?).map some=some (ym M y x)
 |[],_=>⟨[],rfl,rfl,λi y h=>by simp at h⟩
 |y::l,h=>by
  obtain⟨b,R⟩:=h y (by simp);obtain⟨bs,h1,h2,h3⟩:=ahw (λz Z=>h z (bx _ Z));refine⟨b::bs,by simp[Ot,R,h1],by simp[h2],λi z Z=>?_⟩;cases i with
  |zero=>simp at Z;subst Z;simp[R]|succ i=>simpa using h3 i z (by simpa using Z)
def a1c(h:∀y∈ds,∃b,ym M y x=some b)(hx:x∈ds)(he:ym M x x=some true):∃j y,Qo M x ds=some j/\ds[j]?=some y/\ym M y x=some true:=by
 refine hG λ_ _k=>?_
 obtain⟨bs,h1,h2,h3⟩:=ahw h;obtain⟨i,hi,ei⟩:=qy hx;have R:=h3 i x (by simp[hi,ei]);rw[he] at R;obtain⟨b,e1,e2⟩:=bw.mp R;cases e2;apply _k;rw[Qo,h1,qu];cases q:bs.findIdx? id with
 |some j =>
  obtain⟨Z,g2,_⟩:=qp.mp q;have g3:ds[j]?=some (ds[j]'(b_ Z (f_ h2))):=bu (b_ Z (f_ h2));have G:=h3 j _ g3;rw[bu Z] at G;simp only[xj,Ai] at G;exact⟨j,_,rfl,g3,by rw[<- G];simpa using g2⟩
 |none =>
  rw[vq] at q;have:=q true (au e1);simp at this
def au4(hp:M[p]?=some (.lst ds))(h:∀y∈ds,∃b,ym M y x=some b)(G:x∈ds)(he:ym M x x=some true):∃(j:Nat)(y:D),Ep .index (.ref p) [x] M=.ok (.int j) M/\ds[j]?=some y/\ym M y x=some true:=by obtain⟨j,y,Z,R,h3⟩:=a1c h G he;exact⟨j,y,by simp[Ep,Gg (o6 hp),Z],R,h3⟩
def au5(Z:M[p]?=some (.lst ds)):Jo .index (.ref p) M=true:=by simp[Jo,o6 Z]
def apo(M:dg)(n k Z R:Nat)(a G:Int):ym M (Yt n k (.int a)) (Yt Z R (.int G))=some (decide (n=Z)&&(decide (k=R)&&(decide (a=G)&&true))):=by show Qn (Ko M 5) [.int n,.int k,.int a] [.int Z,.int R,.int G]=_;rw[Ht (Qw M 4 n Z) (Ht (Qw M 4 k R) (Ht (agk 4 a G) (show Qn (Ko M 5) [] []=some true from rfl)))]
def Jc(h:d∈rowsOf G ad e):∃(n k:Nat)(x:Int),(n,k)∈ad/\.int x∈wT G k e/\d=Yt n k (.int x):=by
 refine hG λ_ _k=>?_
 obtain⟨q,R,hd⟩:=List.mem_flatMap.mp h;obtain⟨w,Z,rfl⟩:=bz.mp hd;obtain⟨x,rfl⟩:=a1b Z;apply _k;exact⟨q.1,q.2,x,R,Z,rfl⟩
def aj6(h:(n,k)∈ad)(G:w∈wT Z k e):Yt n k w∈rowsOf Z ad e :=
 List.mem_flatMap.mpr ⟨(n,k),h,bz.mpr ⟨w,G,rfl⟩⟩
structure Ae(hs:List F)(jn:List (List Kx×D))(ad:List (Nat×Nat))(j:Nat)(g:F)(js:Y2):Prop where
 len:js.length=(rowsOf hs ad g.a).length
 go:∀(i n k:Nat)(x:Int),(rowsOf hs ad g.a)[i]?=some (Yt n k (.int x))->(rowsOf hs ad g.b)[js.getD i 0]?=some (Yt n k (.int (bv hs jn j (.int x))))
def apq(h:i<l.length):(l++[x]).getD i 0=l.getD i 0:=by rw[aq,dj h,aq]
def Ae.lt(h:Ae G jn ad j g js):∀x∈js,x<(rowsOf G ad g.b).length:=λx hx=>by
 obtain⟨i,R,rfl⟩:=qy hx;have Z:i<(rowsOf G ad g.a).length:=by rw[<- h.len];exact R
 obtain⟨n,k,y,_,_,e⟩:=Jc (ux Z);have:=h.go i n k y (by rw[bu Z,e]);rw[aq,bu R] at this;exact(aj.mp this).1
def a1d(hm:1<=m)(P:Ua sz K Z jn)(hr:M[r]?=some (.dT jn)){j:Nat}(h:Rw Z K p ad M)(hj:Z[j]?=some g)(qk:rest.length=6) :
 ∃js:List Nat,Ii.den (PW m) ([a0,some (rz K r Z),a2,some (.vl (lz p K)),a4,a5,a6,a7,a8,a9,some (.int j),some (.int g.a),some (.int g.b)]++rest) M=.ok (.vl (js.map nD)) M /\
  Ae Z jn ad j g js:=by
 have hg:=au hj;have ha:=P.ait g hg;have hb:=P.Zq g hg;have ga:=h.rs _ ha;have gb:=h.rs _ hb;unfold Ii;refine hG λ_ _k=>?_
 obtain⟨ys,M',e,hI⟩:=Fv (W:=(PW m)) (v:=true) (k:=3) (t:=.names [19,20,21]) (it:=.ix (.v 3) (.v 11)) (e:=.bm .index (.ix (.v 3) (.v 12)) (.o (.tup (.q (.v 19) (.v 20) (.call 8 (.q (.v 1) (.v 21) (.v 10)))))))
  (ρ:=[a0,some (rz K r Z),a2,some (.vl (lz p K)),a4,a5,a6,a7,a8,a9,some (.int j),some (.int g.a),some (.int g.b)]++rest) (M:=M) (M1:=M) (d:=.ref (p+g.a)) (ds:=rowsOf Z ad g.a) (by simp[Oo ha]) (o6 ga) (by have:=h.le _ ha;exact a_ this (by decide))
  (λi xs M'=>M'=M/\∃js:List Nat,xs=js.map nD/\js.length=i/\∀(R n k:Nat)(x:Int),R<i->(rowsOf Z ad g.a)[R]?=some (Yt n k (.int x))->(rowsOf Z ad g.b)[js.getD R 0]?=some (Yt n k (.int (bv Z jn j (.int x))))) ⟨rfl,[],rfl,rfl,by simp⟩ (λi xs M' h=>by rw[h.1];exact o6 ga)
  (λi y xs M' hy hI=>by
   refine hG λ_ _k=>?_
   obtain⟨rfl,js,rfl,q1,q2⟩:=hI;obtain⟨n,k,x,h1,h2,rfl⟩:=Jc (au hy);obtain⟨x',z,hx,hv,qq⟩:=au0 P hj h2;cases z;obtain⟨jj,yy,e1,e2,e3⟩:=au4 (x:=Yt n k (.int (bv Z jn j (.int x)))) gb (λy hy=>by obtain⟨n',k',qv,_,_,rfl⟩:=Jc hy;exact⟨_,apo _ _ _ _ _ _ _⟩) (aj6 h1 qq) (by rw[apo];simp);apply _k;refine⟨_,.int jj,M',rfl,?_,rfl,js++[jj],by simp[nD],by simp[q1],λR n' k' x' W3 G=>?_⟩
   .have hl:rest.length=6:=qk
    match rest,hl with
    |[r0,r1,r2,r3,r4,r5],_ =>
     show(Ex.bm .index (.ix (.v 3) (.v 12)) (.o (.tup (.q (.v 19) (.v 20) (.call 8 (.q (.v 1) (.v 21) (.v 10))))))).den _ [a0,rz K r Z,a2,D.vl (lz p K),a4,a5,a6,a7,a8,a9,D.int j,D.int g.a,D.int g.b,r0,r1,r2,r3,r4,r5,D.int n,D.int k,D.int x] M'=_;simp[Oo hb,au5 gb,afu hm hr hx (show(-1:Int)<=j by lia) hv,aw0,e1]
   .by_cases z:R<i
    .rw[apq (b_ z (g_ q1))];exact q2 R n' k' x' z G
    .have z:R=i:=u_ (z_ W3) (s_ z)
     subst z;rw[hy] at G;simp only[Yt,Ai,D.tup.injEq,List.cons.injEq,D.int.injEq,Az,and_true] at G;obtain⟨rfl,rfl,rfl⟩:=G;have ej:(js++[jj]).getD R 0=jj:=by rw[<- q1];simp[aq]
     rw[ej,e2];refine hG λ_ _k=>?_
     obtain⟨n3,k3,x3,_,_,rfl⟩:=Jc (au e2);rw[apo] at e3;simp only[Ai,az,gq,and_true] at e3;obtain⟨rfl,rfl,rfl⟩:=e3;apply _k;rfl)
 obtain⟨rfl,js,rfl,q1,q2⟩:=hI;apply _k;exact⟨js,by rw[e];rfl,q1,λi n k x h=>q2 i n k x (aj.mp h).1 h⟩
noncomputable def up(G:Nat->List Nat)(i:Nat)(Z:Y2):Nat->List Nat:=λe=>if e=i then Z else G e
noncomputable def Iv(Z G:Nat)(l:Y2):List Nat:=l.map λo=>if o=G then Z else o
theorem ahx{Z G:Nat}(h:Z<G):∀l:List Nat,(Iv Z G l).sum<=l.sum
 |[]=>bf _
 |a::l=>by
  have:=ahx h l;simp only[Iv,iz,List.sum_cons] at this ⊢;split<;>omega
theorem ahy{G Z:Nat}(h:G<Z):∀{l:Y2},Z∈l->(Iv G Z l).sum<l.sum
 |a::l,hm=>by
  have R:=ahx h l;simp only[Iv,iz,List.sum_cons] at R ⊢
  by_cases z:a=Z
  .rw[dh z];exact b_ (G_ h) (a_ (v_ (g_ z)) (w_ R))
  .have:=ahy h (show Z∈l from by simpa[j0 z] using hm)
   simp only[Iv] at this;rw[cu z];exact H_ this
noncomputable def Xh(K:Nat)(Z:Nat->List Nat):Nat:=((List.range K).map λi=>(Z i).sum).sum
theorem apr{Z:Nat->List Nat}{b:Nat}{ns:Y2}(h:ns.sum<(Z b).sum):∀K,Xh K (up Z b ns)<=Xh K Z/\(b<K->Xh K (up Z b ns)<Xh K Z)
 |0=>⟨bf _,λz=>absurd z (tu _)⟩
 |K+1=>by
  obtain⟨G,R⟩:=apr h K;simp only[Xh,xg,w6,List.sum_append,iz,List.map_nil,List.sum_cons,List.sum_nil] at G R ⊢
  by_cases z:K=b
  .subst z
   have e:up Z K ns K=ns:=by simp[up]
   rw[e];constructor
   .exact e_ (c_ (v_ G) (H_ (G_ h)))
   .intro _;exact c_ (v_ G) (H_ (G_ h))
  .have e:up Z b ns K=Z K:=by simp[up,z]
   rw[e];constructor
   .exact v_ G
   .intro q;have:=R (by lia);exact G_ this
structure Mk(t pm K:Nat)(L:Nat->Nat)(ms:Nat->List Nat)(M:dg):Prop where
 ex:∃mds:List D,M[pm]?=some (.lst mds)/\mds.length=K/\∀i,i<K->∃d,mds[i]?=some d/\gm M d=some ((ms i).map nD)/\∀a,d=.ref a->t<a/\a<pm
 len:∀i,i<K->(ms i).length=L i
 lt:∀i,i<K->∀x∈ms i,x<L i
 fx:∀i,i<K->∀x∈ms i,(ms i).getD x 0=x
def Wo(h:gm M d=some ds)(k:∀a o,d=.ref a->M[a]?=some o->Z[a]?=some o):gm Z d=some ds:=by
 cases d with
 |ref a =>
  simp only[gm] at h ⊢;cases e:M[a]? with
  |none=>rw[e] at h;cases h|some o=>rw[e] at h;rw[k a o rfl e];exact h
 |vl G=>exact h|_=>cases h
def Mk.frame(h:Mk t pm K L ms M)(k:∀(a:Nat) (o:MO),t<a->a<=pm->M[a]?=some o->M'[a]?=some o)(ht:t<pm):Mk t pm K L ms M':=by obtain⟨Z,R,h2,h3⟩:=h.ex;refine⟨⟨Z,k _ _ ht (bf _) R,h2,λi hi=>?_⟩,h.len,h.lt,h.fx⟩;obtain⟨d,g1,g2,G⟩:=h3 i hi;exact⟨d,g1,Wo g2 λa o e q=>k a o (G a e).1 (yu (G a e).2) q,G⟩
def Mk.row(h:Mk t pm K L ms M)(hi:i<K):∃d,Ak (.ref pm) (.int i) M=some d/\gm M d=some ((ms i).map nD):=by obtain⟨R,Z,h2,h3⟩:=h.ex;obtain⟨d,G,g2,_⟩:=h3 i hi;exact⟨d,Df (o6 Z) q_ (by simpa using G),g2⟩
def Qi{l:Y2}(h:gm M d=some (l.map nD))(Z:x<l.length):Ak d (.int x) M=some (.int (l.getD x 0)) :=
 Df h q_ (by simp[Z,nD])
def getD_mem'{l:Y2}(Z:x<l.length):l.getD x 0∈l:=by rw[aq,bu Z];exact ux Z
set_option tactic.hygienic true in
theorem Mk.set(h:Mk t pm K L J M)(hi:i<K)(y:ns.length=L i)(h2:∀x∈ns,x<L i)(u:∀x∈ns,ns.getD x 0=x)(ht:t<pm) :
 ∃o,setOp (.ref pm) (.int i) (.vl (ns.map nD)) M=some (M.set pm o)/\Mk t pm K L (up J i ns) (M.set pm o):=by
 obtain⟨G,R,C,g3⟩:=h.ex;refine⟨.lst (G.set i (.vl (ns.map nD))),?_,⟨G.set i (.vl (ns.map nD)),wj R,by simp[C],λe Y=>?_⟩,λe Y=>?_,λe Y x Z=>?_,λe Y x Z=>?_⟩
 .have:=Uz (d:=.vl (ns.map nD)) (i:=i) R q_ (m_ (b_ hi (g_ C)))
  simpa using this
 .by_cases z:e=i
  .subst z
   exact⟨.vl (ns.map nD),by simp[C,Y],by simp[up],λa q=>by cases q⟩
  .obtain⟨d,k1,k2,S⟩:=g3 e Y
   refine⟨d,by rw[uc (j0 z)];exact k1,?_,S⟩;have:up J i ns e=J e:=by simp[up,z]
   rw[this];exact Wo k2 λa o q w=>by rw[uh (by have:=(S a q).2;exact i_ this)];exact w
 .unfold up;split
  .rename_i z;rw[z];exact y
  .exact h.len e Y
 .unfold up at Z;split at Z
  .rename_i z;rw[z];exact h2 x Z
  .exact h.lt e Y x Z
 .unfold up at Z ⊢;split at Z
  .rename_i z;rw[dh z];exact u x Z
  .rename_i z;rw[cu z];exact h.fx e Y x Z
def getD_map{α:Type}{l:Y2}{f:Nat->Nat}{x:Nat}(h:x<l.length):(l.map f).getD x 0=f (l.getD x 0):=by simp[aq,je,bu h]
set_option tactic.hygienic true in
def ahz(L:∀x∈l,l.getD x 0=x)(lt:∀x∈l,x<l.length)(Z:lo∈l):∀x∈Iv lo G l,(Iv lo G l).getD x 0=x:=λx J=>by
 obtain⟨o,C,e⟩:=bz.mp J;have Y:x∈l:=by
  split at e
  .rw[<- e];exact Z
  .rw[<- e];exact C
 unfold Iv;rw[getD_map (α:=Nat) (lt x Y),L x Y]
 by_cases z:x=G
 .rw[dh z]
  split at e
  .exact e
  .rename_i w;exact absurd (e.trans z) w
 .rw[cu z]
def Cg(Z:Nat->List Nat)(g:F)(G:Y2):Prop:=∀x y,x<G.length->y<G.length->(Z g.a).getD x 0=(Z g.a).getD y 0->(Z g.b).getD (G.getD x 0) 0=(Z g.b).getD (G.getD y 0) 0
structure Ac(q:Nat)(hs:List F)(L:Nat->Nat)(as:List (List Nat))(M:dg):Prop where
 at_:M[q]?=some (.lst (as.map λjs=>.vl (js.map nD)))
 len:as.length=hs.length
 ok:∀(j:Nat)(g:F)(js:Y2),hs[j]?=some g->as[j]?=some js->js.length=L g.a/\∀x∈js,x<L g.b
def Ac.get(h:Ac q hs L as M){j:Nat}(R:hs[j]?=some g):∃Z,as[j]?=some Z/\Ak (.ref q) (.int j) M=some (.vl (Z.map nD))/\Z.length=L g.a/\∀x∈Z,x<L g.b:=by
 have hl:=(aj.mp R).1;have G:j<as.length:=by rw[h.len];exact hl
 have e:as[j]?=some as[j]:=bu G;exact⟨_,e,Df (o6 h.at_) q_ (by simp[e]),h.ok j g _ R e⟩
def apt(h:M[n]?=some (.dK Z)):Ep .get (.ref n) [.int k,d] M=.ok ((wg Z (.inl k)).getD d) M:=by simp[Ep,h]
def aw1(h:M[n]?=some (.dK Z)):Jo .get (.ref n) M=true:=by simp[Jo,h]
def apu(h:M[n]?=some (.dK Z))(G:Z.length<100000):setOp (.ref n) (.int k) d M=some (M.set n (.dK (Cz Z (.inl k) d))):=by simp[setOp,h,G]
def apv[DecidableEq κ]{Z:List (κ×D)}(h:wg Z k=some v):∃p∈Z,p.2=v:=by unfold wg at h;obtain⟨p,R,G⟩:=bw.mp h;exact⟨p,List.mem_of_find?_eq_some R,G⟩
def au6[DecidableEq κ]{G:List (κ×D)}(h:p∈Cz G k v):p∈G\/p.2=v:=by
 unfold Cz at h;split at h
 .obtain⟨q,R,Z⟩:=bz.mp h
  split at Z
  .rw[<- Z];exact .inr rfl
  .rw[<- Z];exact .inl R
 .rcases dz.mp h with z|z
  .exact .inl z
  .have:p=(k,v):=by simpa using z
   rw[this];exact .inr rfl
def Kl[DecidableEq Z](p:Z×D)(r:List (Z×D))(k:Z):wg (p::r) k=if p.1=k then some p.2 else wg r k:=by
 unfold wg
 by_cases h:p.1=k
 .simp[su,h]
 .simp[su,h]
theorem Wq{R:Type}[DecidableEq R]{k k':R}{v:D}:∀{G:List (R×D)},(∃p∈G,p.1=k)->wg (G.map λp=>if p.1=k then(p.1,v) else p) k'=if k'=k then some v else wg G k'
 |p::r,h=>by
  rw[iz,Kl,Kl]
  by_cases a:p.1=k
  .rw[dh a]
   by_cases b:k'=k
   .simp[a,b]
   .have c:¬p.1=k':=λz=>b (z.symm.trans a)
    rw[cu c,cu b,cu c]
    by_cases d:∃p∈r,p.1=k
    .rw[Wq d,cu b]
    .congr 1
     conv=>rhs;rw[<- List.map_id r]
     apply ph;intro q hq;rw[cu λz=>d ⟨q,hq,z⟩];rfl
  .rw[cu a]
   have d:∃p∈r,p.1=k:=by
    obtain⟨q,Z,h2⟩:=h;rcases cj.mp Z with rfl|Z
    .exact absurd h2 a
    .exact⟨q,Z,h2⟩
   rw[Wq d]
   by_cases b:k'=k
   .have c:¬p.1=k':=λz=>a (z.trans b)
    rw[cu c];simp[b]
   .simp[b]
theorem adp{G:Type}[DecidableEq G]{k k':G}{v:D}:∀{Z:List (G×D)},(∀p∈Z,p.1≠k)->wg (Z++[(k,v)]) k'=if k'=k then some v else wg Z k'
 |[],_=>by
  rw[Af,Kl]
  by_cases b:k'=k
  .simp[b]
  .simp[b,j0 b]
 |p::r,h=>by
  rw[zu,Kl,Kl,adp (λq R=>h q (bx _ R))];have a:=h p (by simp)
  by_cases b:k'=k
  .have c:¬p.1=k':=λz=>a (z.trans b)
   rw[cu c];simp[b]
  .simp[b]
def Rn[DecidableEq G](Z:List (G×D))(k k':G)(v:D):wg (Cz Z k v) k'=if k'=k then some v else wg Z k':=by
 unfold Cz
 by_cases h:(Z.any λp=>decide (p.1=k))=true
 .rw[dh h]
  exact Wq (by simpa using h)
 .rw[cu h]
  exact adp (λp R z=>h (List.any_eq_true.mpr ⟨p,R,by simpa using z⟩))
def ah0[DecidableEq G](Z:List (G×D))(k:G)(v:D):(Cz Z k v).length<=Z.length+1:=by unfold Cz;split<;>simp
def Qj(M:dg)(a b:Nat):ym M (.int a) (.int b)=some (decide (a=b)):=Bw M a b
def Fm(G n:Nat)(M Z:dg):Prop:=∀(a:Nat)(o:MO),a≠G->a<n->M[a]?=some o->Z[a]?=some o
def ah1(M:dg)(a b:Nat):qm .min [.int a,.int b] M=.ok (.int (min a b:Nat)) M:=by
 show Res.ok (D.int (if(b:Int)<(a:Int) then(b:Int) else(a:Int))) M=_
 by_cases h:b<a
 .rw[dh (m_ h),Nat.min_eq_right (e_ h)]
 .rw[cu (by lia),Nat.min_eq_left (s_ h)]
def aas(M:dg)(a b:Nat):qm .max [.int a,.int b] M=.ok (.int (max a b:Nat)) M:=by
 show Res.ok (D.int (if(a:Int)<(b:Int) then(b:Int) else(a:Int))) M=_
 by_cases h:a<b
 .rw[dh (m_ h),Nat.max_eq_right (e_ h)]
 .rw[cu (by lia),Nat.max_eq_left (s_ h)]
def adq(hx:(Ex.ix (.var v) (.var x)).den W ρ M=.ok d M)(hd:gm M d=some (l.map nD))(hl:l.length<=100000)(hy:y=ρ.length)(Z:ρ[a]?=some (some (.int lo)))(R:ρ[b]?=some (some (.int hi))) :
 (Ex.comp true 1 (.name y) (.val (.ix (.var v) (.var x))) (.ite (.cmp .eq (.var y) (.var b)) (.var a) (.var y))).den W ρ M=.ok (.vl ((Iv lo hi l).map nD)) M:=by
 subst hy;have ha:=(aj.mp Z).1;have hb:=(aj.mp R).1;rw[Ay (d:=d) (ds:=l.map nD) (M1:=M) (g:=λd=>match d with|.int o=>nD (if o.toNat=hi then lo else o.toNat)|_=>.non) hx hd (by simpa using hl) (λz hz=>by
  obtain⟨o,ho,rfl⟩:=bz.mp hz;refine⟨_,rfl,?_⟩;have e1:(ρ++List.replicate 1 none).set ρ.length (some (nD o))=ρ++[some (.int o)]:=by rw[Bf];simp[nD]
  have G:(ρ++[some (D.int o)])[a]?=some (some (.int lo)):=by rw[dj ha];exact Z
  have g2:(ρ++[some (D.int o)])[b]?=some (some (.int hi)):=by rw[dj hb];exact R
  have g3:(ρ++[some (D.int o)])[ρ.length]?=some (some (.int o)):=by simp
  rw[e1]
  by_cases z:o=hi
  .subst z;simp[-eq_int,G,g2,g3,Qj,nD]
  .simp[-eq_int,G,g2,g3,Qj,z,nD])]
 simp[Iv,nD]
def au7(G:(Ex.ix (.v 1) (.var x)).den W ρ M=.ok d M)(hd:gm M d=some (l.map nD))(hl:l.length<=100000)(R:y=ρ.length)(qq:12<y)(Z:ρ[11]?=some (some (.int lo)))(h2:ρ[12]?=some (some (.int hi))) :
 (Ex.comp true 1 (.name y) (.val (.ix (.v 1) (.var x))) (.ite (.cmp .eq (.var y) (.v 12)) (.v 11) (.var y))).den W ρ M=.ok (.vl ((Iv lo hi l).map nD)) M:=adq G hd hl R Z h2
structure Fd(dd:Nat)(a b js:Y2)(n:Nat)(M:dg):Prop where
 ex:∃kv:List (Kx×D),M[dd]?=some (.dK kv)/\kv.length<=n/\(∀p∈kv,∃e:Nat,p.2=.int e/\e∈b)/\∀i,i<n->wg kv (.inl ((a.getD i 0:Nat):Int))=some (.int ((b.getD (js.getD i 0) 0:Nat):Int))
def apw{j:Nat}(mk:Mk t pm K L G M)(ac:Ac q hs L as M)(hj:hs[j]?=some g)(ga:g.a<K)(gb:g.b<K)(hd:M[dd]?=some (.dK []))(zv:pm<dd)(zz:q<dd)(z1:q≠pm)(ht:t<pm)(hL:∀e,e<K->L e<=7) :
 ∃R Z,Lr.den W [rz K r hs,D.ref pm,D.ref q,b3,D.int j,D.int g.a,D.int g.b,D.ref dd,b8,b9,b10,K3,Ro] M=.ok (.next,R) Z /\
  ∃c3 c7 c8 c9 Xa Xb qq,R=[some (rz K r hs),some (.ref pm),some (.ref q),c3,some (.int j),some (.int g.a),some (.int g.b),c7,c8,c9,Xa,Xb,qq]/\Fm pm dd M Z/\M.length<=Z.length /\
   ((c3=b3/\Mk t pm K L G Z/\∀js,as[j]?=some js->Cg G g js)\/(c3=some (.bl true)/\∃Mh,Mk t pm K L Mh Z/\Xh K Mh<Xh K G)):=by
 obtain⟨js,ej,_,lj,rj⟩:=ac.get hj;obtain⟨da,fa,la⟩:=mk.row ga;have q3:=mk.len _ ga;have q8:=hL _ ga;refine abi (W:=W) (t:=.name 8) (b:=Ce) (it:=.blt .len (.o (.ix (.v 1) (.v 5)))) (n:=L g.a) (M1:=M) ?_ (a_ q8 (by decide))
  (λi ρ Z=>(∃b8 b9 b10,ρ=[some (rz K r hs),some (.ref pm),some (.ref q),b3,some (.int j),some (.int g.a),some (.int g.b),some (.ref dd),b8,b9,b10,K3,Ro])/\Mk t pm K L G Z/\Fd dd (G g.a) (G g.b) js i Z/\Xg dd M Z/\Z.length=M.length)
  (λR Z=>∃c3 c7 c8 c9 Xa Xb qq,R=[some (rz K r hs),some (.ref pm),some (.ref q),c3,some (.int j),some (.int g.a),some (.int g.b),c7,c8,c9,Xa,Xb,qq]/\Fm pm dd M Z/\M.length<=Z.length /\
   ((c3=b3/\Mk t pm K L G Z/\∀js,as[j]?=some js->Cg G g js)\/(c3=some (.bl true)/\∃Mh,Mk t pm K L Mh Z/\Xh K Mh<Xh K G)))
  ⟨⟨b8,b9,b10,rfl⟩,mk,⟨[],hd,bf _,by simp,by simp⟩,Xg.refl _ _,rfl⟩ (fun ρ Z h=>?_) (λi ρ M1 hi hI=>?_)
 .have e:=len_list la
  simp only[gf,q3] at e;simp[fa,e]
 .refine hG λ_ _k=>?_
  obtain⟨⟨c8,c9,Xa,rfl⟩,h1,⟨kv,_,_,_,k4⟩,h3,h4⟩:=h;apply _k;refine⟨b3,_,c8,c9,Xa,K3,Ro,rfl,λa o _ x e=>h3 a o x e,g_ h4,.inl ⟨rfl,h1,λzk e' x y hx hy zw=>?_⟩⟩;rw[ej] at e';cases e';have g1:=k4 x (b_ hx (f_ lj));have g2:=k4 y (b_ hy (f_ lj));rw[zw,g2] at g1;simp only[Ai,D.int.injEq] at g1;exact(Az.mp g1).symm
 .refine hG λ_ _k=>?_
  obtain⟨⟨c8,c9,Xa,rfl⟩,h1,⟨kv,k1,k2,k3,k4⟩,h3,h4⟩:=hI;obtain⟨da,fa,la⟩:=h1.row ga;obtain⟨db,fb,lb⟩:=h1.row gb;have z0:Ac q hs L as M1:=⟨h3 _ _ zz ac.at_,ac.len,ac.ok⟩;obtain⟨zk,q6,fj,_,_⟩:=z0.get hj;rw[ej] at q6;cases q6;have qv:=Qi la (show i<(G g.a).length by rw[q3];exact hi);have q0:Ak (.vl (js.map nD)) (.int i) M1=some (.int (js.getD i 0)):=Qi rfl (b_ hi (g_ lj));apply _k;have hy:js.getD i 0<(G g.b).length:=by rw[h1.len _ gb];exact rj _ (getD_mem' (b_ hi (g_ lj)))
  generalize hy0:js.getD i 0=y at q0 hy;have q1:=Qi lb hy;have hz:=getD_mem' hy;generalize hx0:(G g.a).getD i 0=x at qv;generalize hz0:(G g.b).getD y 0=z at q1 hz;have gt:=apt (k:=(x:Int)) (d:=.int z) k1;have ty:=aw1 k1;have qk:((wg kv (.inl (x:Int))).getD (.int z)=.int z)->∃q5 fl R Z,(Tg.name 8).put (.int i) [some (rz K r hs),some (.ref pm),some (.ref q),b3,some (.int j),some (.int g.a),some (.int g.b),some (.ref dd),c8,c9,Xa,K3,Ro]=some q5/\Ce.den W q5 M1=.ok (fl,R) Z /\
   (((fl=.next\/fl=.cont)/\(∃b8 b9 b10,R=[some (rz K r hs),some (.ref pm),some (.ref q),b3,some (.int j),some (.int g.a),some (.int g.b),some (.ref dd),b8,b9,b10,K3,Ro])/\Mk t pm K L G Z/\Fd dd (G g.a) (G g.b) js (i+1) Z/\Xg dd M Z/\Z.length=M.length) \/
     (fl=.brk/\∃c3 c7 c8 c9 Xa Xb qq,R=[some (rz K r hs),some (.ref pm),some (.ref q),c3,some (.int j),some (.int g.a),some (.int g.b),c7,c8,c9,Xa,Xb,qq]/\Fm pm dd M Z/\M.length<=Z.length /\
      ((c3=b3/\Mk t pm K L G Z/\∀js,as[j]?=some js->Cg G g js)\/(c3=some (.bl true)/\∃Mh,Mk t pm K L Mh Z/\Xh K Mh<Xh K G)))):=λhg=>by
   rw[hg] at gt;have st:=apu (k:=(x:Int)) (d:=.int z) k1 (by have:=hL _ ga;exact c_ k2 (b_ hi (a_ q8 (by decide))));refine⟨_,.next,_,M1.set dd (.dK (Cz kv (.inl (x:Int)) (.int z))),rfl,?_,.inl ⟨.inl rfl,⟨some (.int i),some (.int x),some (.int z),rfl⟩,h1.frame (λa o _ ha e=>by rw[uh (i_ (c_ ha zv))];exact e) ht,⟨_,wj k1,?_,?_,λi' W3=>?_⟩,h3.trans (Xg.set (bf _)),by simp[h4]⟩⟩
   .simp[-eq_int,Ce,fa,qv,fb,fj,q0,q1,ty,gt,Qj,st]
   .have:=ah0 kv (.inl (x:Int)) (.int z);exact a_ this (v_ k2)
   .intro p hp
    rcases au6 hp with w|w
    .exact k3 p w
    .exact⟨z,w,hz⟩
   .rw[Rn]
    by_cases w:(G g.a).getD i' 0=x
    .rw[w,dh rfl]
     by_cases w2:i'=i
     .subst w2;rw[hy0,hz0]
     .have g1:=k4 i' (by lia)
      rw[w] at g1;rw[g1] at hg;simp only[zx] at hg;rw[hg]
    .have w2:i'≠i:=λq=>w (by rw[q,hx0])
     have:¬((Sum.inl (((G g.a).getD i' 0:Nat):Int):Kx)=.inl (x:Int)):=λq=>w (by injection q with q;exact Az.mp q)
     rw[cu this];exact k4 i' (by lia)
  cases hlk:wg kv (.inl (x:Int)) with
  |none=>exact qk (by rw[hlk];rfl)
  |some v =>
   obtain⟨p,hp,rfl⟩:=apv hlk;obtain⟨e,he,q7⟩:=k3 p hp;rw[he] at hlk
   by_cases q2:e=z
   .exact qk (by rw[hlk,q2];rfl)
   .rw[hlk] at gt
    have ix:=av5 (b:=.int x) k1 rfl;rw[show(Sum.inl (x:Int):Kx)=.inl (x:Int) from rfl,hlk] at ix;have lh:min e z<max e z:=by lia
    have hm:max e z∈G g.b:=by
     rcases Nat.le_total e z with w|w
     .rw[Nat.max_eq_right w];exact hz
     .rw[Nat.max_eq_left w];exact q7
    have q4:min e z∈G g.b:=by
     rcases Nat.le_total e z with w|w
     .rw[Nat.min_eq_left w];exact q7
     .rw[Nat.min_eq_right w];exact hz
    have rp:=au7 (W:=W) (M:=M1) (ρ:=[rz K r hs,D.ref pm,D.ref q,b3,D.int j,D.int g.a,D.int g.b,D.ref dd,D.int i,D.int x,D.int z,D.int (min e z:Nat),D.int (max e z:Nat)]) (x:=6) (y:=13) (lo:=min e z) (hi:=max e z) (by simp[fb]) lb (by rw[h1.len _ gb];have:=hL _ gb;exact a_ this (by decide)) rfl (by decide) rfl rfl;obtain⟨o,so,zq⟩:=h1.set gb (ns:=Iv (min e z) (max e z) (G g.b)) (by simp[Iv,h1.len _ gb]) (λy hy=>by
     obtain⟨w,hw,rfl⟩:=bz.mp hy;split
     .exact h1.lt _ gb _ q4
     .exact h1.lt _ gb _ hw) (ahz (h1.fx _ gb) (λx hx=>by rw[h1.len _ gb];exact h1.lt _ gb x hx) q4) ht
    have ne:¬((e:Nat)=z):=q2;refine⟨_,.brk,_,M1.set pm o++[.dK []],rfl,?_,.inr ⟨rfl,some (.bl true),some (.ref (M1.set pm o).length),some (.int i),some (.int x),some (.int z),some (.int (min e z:Nat)),some (.int (max e z:Nat)),rfl,λa u na ha q=>?_,by simp;exact a_ (g_ h4) x_,.inr ⟨rfl,_,zq.frame (λa u _ _ q=>Ab q) ht,(apr (ahy lh hm) K).2 gb⟩⟩⟩
    .simp only[zx] at gt
     simp[-eq_int,Ce,fa,qv,fb,fj,q0,q1,ty,gt,Qj,ne,ix,ah1,aas,Lq,rp,so,MW.new]
    .refine Ab ?_
     rw[uh (j0 na)];exact h3 a u ha q
def Fm.trans(a:Fm pm n M Z)(b:Fm pm n Z M2):Fm pm n M M2:=λx o h l e=>b x o h l (a x o h l e)
def Fm.le(a:Fm pm n M M1)(h:Z<=n):Fm pm Z M M1:=λx o q l e=>a x o q (b_ l h) e
theorem afy:∀{l:Y2}{c:Nat},(∀x∈l,x<=c)->l.sum<=l.length*c
 |[],_,_=>by simp
 |a::l,c,h=>by
  have R:=h a (by simp);have G:=afy (λx Z=>h x (bx _ Z));simp only[List.sum_cons,jw,Nat.succ_mul]
  lia
def a1f(mk:Mk t pm K L G M)(hL:∀e,e<K->L e<=7)(hK:K<=3):Xh K G<=200:=by
 have:∀x∈(List.range K).map λi=>(G i).sum,x<=49:=λx R=>by
  obtain⟨i,Z,rfl⟩:=bz.mp R;have Z:=gw.mp Z;have h1:=afy (l:=G i) (c:=7) (λx R=>by have:=mk.lt i Z x R;have:=hL i Z;lia);have h2:=mk.len i Z;have h3:=hL i Z;have h4:(G i).length*7<=7*7:=Nat.mul_le_mul_right 7 (a_ (f_ h2) h3)
  lia
 have h:=afy this;simp only[gf,List.length_range] at h;have h5:K*49<=3*49:=Nat.mul_le_mul_right 49 hK
 unfold Xh
 lia
def Cgs(G:List F)(as:List (List Nat))(n:Nat)(R:Nat->List Nat):Prop:=∀(j:Nat)(g:F)(Z:Y2),j<n->G[j]?=some g->as[j]?=some Z->Cg R g Z
def apy(P:Ua sz K Z jn)(mk:Mk t pm K L ms M)(ac:Ac q Z L as M)(q3:pm<M.length)(qv:q<M.length)(q0:q≠pm)(ht:t<pm)(hL:∀e,e<K->L e<=7) :
 ∃qk M',Ls.den W [rz K r Z,D.ref pm,D.ref q,b3,b4,b5,b6,b7,b8,b9,b10,K3,Ro] M=.ok (.next,qk) M' /\
  ∃R c4 c5 c6 c7 c8 c9 Xa Xb G Mh,qk=[some (rz K r Z),some (.ref pm),some (.ref q),R,c4,c5,c6,c7,c8,c9,Xa,Xb,G]/\Fm pm M.length M M'/\M.length<=M'.length/\Mk t pm K L Mh M'/\((R=b3/\Mh=ms/\Cgs Z as Z.length ms)\/(R=some (.bl true)/\Xh K Mh<Xh K ms)):=by
 have hl:=P.len;refine zy (W:=W) (t:=.name 4) (b:=Dq) (it:=.blt .len (.o (.ix (.v 0) (.i 1)))) (n:=Z.length) (M1:=M) (by simp[Mg,Sv]) (a_ hl (by decide))
  (λn qk M'=>∃R c4 c5 c6 c7 c8 c9 Xa Xb G Mh,qk=[some (rz K r Z),some (.ref pm),some (.ref q),R,c4,c5,c6,c7,c8,c9,Xa,Xb,G]/\Fm pm M.length M M'/\M.length<=M'.length/\Mk t pm K L Mh M'/\((R=b3/\Mh=ms/\Cgs Z as n ms)\/(R=some (.bl true)/\Xh K Mh<Xh K ms)))
  ⟨b3,b4,b5,b6,b7,b8,b9,b10,K3,Ro,ms,rfl,λ_ _ _ _ e=>e,bf _,mk,.inl ⟨rfl,rfl,λj g js h=>absurd h (tu _)⟩⟩ (λj ρ M1 hj hI=>?_)
 refine hG λ_ _k=>?_
 obtain⟨R,c4,c5,c6,c7,c8,c9,Xa,Xb,G,m1,rfl,f1,l1,k1,o1⟩:=hI;have qq:Z[j]?=some Z[j]:=by simp[hj]
 have hg:=au qq;have k2:Mk t pm K L m1 (M1++[.dK []]):=k1.frame (λa o _ _ e=>Ab e) ht;have q5:Ac q Z L as (M1++[.dK []]):=⟨Ab (f1 _ _ q0 qv ac.at_),ac.len,ac.ok⟩;obtain⟨q7,M2,e2,d3,d7,d8,d9,q4,q6,q2,rfl,f2,l2,o2⟩:=apw (W:=W) (r:=r) (dd:=M1.length) (b3:=R) (b8:=c8) (b9:=c9) (b10:=Xa) (K3:=Xb) (Ro:=G) k2 q5 qq (P.ait _ hg) (P.Zq _ hg) (by simp) (b_ q3 l1) (b_ qv l1) q0 ht hL;have f3:Fm pm M.length M M2:=λa o na ha e=>f2 a o na (b_ ha l1) (Ab (f1 a o na ha e))
 apply _k;have l3:M.length<=M2.length:=by simp at l2;lia
 have pe:∀ρ,(Tg.names [5,6]).put (eD Z[j]) ρ=some ((ρ.set 5 (some (.int Z[j].a))).set 6 (some (.int Z[j].b))):=λ_=>rfl
 have run:Dq.den W [rz K r Z,D.ref pm,D.ref q,R,D.int j,c5,c6,c7,c8,c9,Xa,Xb,G] M1=.ok (.next,[some (rz K r Z),some (.ref pm),some (.ref q),d3,some (.int j),some (.int Z[j].a),some (.int Z[j].b),d7,d8,d9,q4,q6,q2]) M2:=by simp[Dq,Mg,Xx qq,pe,MW.new,e2]
 refine⟨_,.next,_,M2,rfl,run,.inl rfl,?_⟩;rcases o2 with⟨rfl,k3,cg⟩|⟨rfl,m2,k3,t3⟩
 .rcases o1 with⟨rfl,rfl,cs⟩|⟨rfl,t1⟩
  .refine⟨_,_,_,_,_,_,_,_,_,_,m1,rfl,f3,l3,k3,.inl ⟨rfl,rfl,λj' g' q1 h1 h2 h3=>?_⟩⟩
   by_cases z:j'=j
   .subst z
    rw[qq] at h2;cases h2;exact cg _ h3
   .exact cs j' g' q1 (by lia) h2 h3
  .exact⟨_,_,_,_,_,_,_,_,_,_,m1,rfl,f3,l3,k3,.inr ⟨rfl,t1⟩⟩
 .refine⟨_,_,_,_,_,_,_,_,_,_,m2,rfl,f3,l3,k3,.inr ⟨rfl,?_⟩⟩
  rcases o1 with⟨_,rfl,_⟩|⟨_,t1⟩<;>omega
def aj7(hm:1<=m)(P:Ua sz K G jn)(mk:Mk t pm K L ms M)(ac:Ac q G L as M)(q4:pm<M.length)(q1:q<M.length)(q2:q≠pm)(ht:t<pm)(hL:∀e,e<K->L e<=7) :
 ∃R Z,prog.call m 13 [rz K r G,.ref pm,.ref q] M=.ok (.ref pm) Z/\Mk t pm K L R Z/\Cgs G as G.length R/\Fm pm M.length M Z/\M.length<=Z.length:=by
 rw[call_of hm rfl];refine hG λ_ _k=>?_
 obtain⟨qq,Z,e,R,k1,cg,f1,l1,c,q3⟩:∃qq Z,Gy.den (PW (m-1)) [some (rz K r G),some (.ref pm),some (.ref q),some (.bl true),none,none,none,none,none,none,none,none,none] M=.ok (.next,qq) Z /\
  ∃R,Mk t pm K L R Z/\Cgs G as G.length R/\Fm pm M.length M Z/\M.length<=Z.length/\∃c:Env,qq=[some (rz K r G),some (.ref pm)]++c:=by
  unfold Gy;rw[Zc];refine Og (λm ρ Z=>∃(R:Nat->List Nat)(b:Bool)(c:Env),ρ=[some (rz K r G),some (.ref pm),some (.ref q),some (.bl b)]++c/\c.length=9/\Mk t pm K L R Z/\(b=false->Cgs G as G.length R)/\Fm pm M.length M Z/\M.length<=Z.length/\m=(if b then Xh K R+1 else 0))
   (λqq Z=>∃R,Mk t pm K L R Z/\Cgs G as G.length R/\Fm pm M.length M Z/\M.length<=Z.length/\∃c:Env,qq=[some (rz K r G),some (.ref pm)]++c) (λn ρ M1 hI=>?_) aer (Xh K ms+1) _ M (by have:=a1f mk hL P.k3;show Xh K ms+1<1000000;lia)
   ⟨ms,true,[none,none,none,none,none,none,none,none,none],rfl,rfl,mk,by simp,λ_ _ _ _ e=>e,bf _,rfl⟩
  refine hG λ_ _k=>?_
  obtain⟨m1,b,c,rfl,hc,k1,cg,f1,l1,rfl⟩:=hI;apply _k
  match c,hc with
  |[c4,c5,c6,c7,c8,c9,Xa,Xb,c12],_ =>
  cases b with
  |false=>exact .inl ⟨M1,rfl,m1,k1,cg rfl,f1,l1,_,rfl⟩
  |true =>
   right
   refine hG λ_ _k=>?_
   obtain⟨q5,M2,e2,d3,d4,d5,d6,d7,d8,d9,qv,q0,qk,m2,rfl,f2,l2,k2,o2⟩:=apy (W:=(PW (m-1))) (r:=r) (as:=as) P k1 (⟨f1 _ _ q2 q1 ac.at_,ac.len,ac.ok⟩:Ac q G L as M1) (b_ q4 l1) (b_ q1 l1) q2 ht hL (b3:=some (.bl false)) (b4:=c4) (b5:=c5) (b6:=c6) (b7:=c7) (b8:=c8) (b9:=c9) (b10:=Xa) (K3:=Xb) (Ro:=c12);have f3:Fm pm M.length M M2:=f1.trans (f2.le l1);have run:Gx.den (PW (m-1)) [some (rz K r G),some (.ref pm),some (.ref q),some (.bl true),c4,c5,c6,c7,c8,c9,Xa,Xb,c12] M1=.ok (.next,[some (rz K r G),some (.ref pm),some (.ref q),d3,d4,d5,d6,d7,d8,d9,qv,q0,qk]) M2:=by simp[Gx,e2]
   apply _k;rcases o2 with⟨rfl,rfl,cs⟩|⟨rfl,t3⟩
   .exact⟨M1,.next,_,M2,0,rfl,run,.inl rfl,by simp,m2,false,[d4,d5,d6,d7,d8,d9,qv,q0,qk],rfl,rfl,k2,λ_=>cs,f3,a_ l1 l2,rfl⟩
   .exact⟨M1,.next,_,M2,Xh K m2+1,rfl,run,.inl rfl,by simp;exact t3,m2,true,[d4,d5,d6,d7,d8,d9,qv,q0,qk],rfl,rfl,k2,by simp,f3,a_ l1 l2,rfl⟩
 subst q3;apply _k;refine⟨R,Z,?_,k1,cg,f1,l1⟩;simp only[zu,Af] at e;simp[Fn.run,O3,O2,e]
theorem Rp{x y:Int}:∀{l:X9},x∈insI y l↔x=y\/x∈l
 |[]=>by simp[insI]
 |a::l=>by
  unfold insI;split
  .simp
  .simp only[cj,Rp]
   constructor
   .rintro(h|h|h)
    .exact .inr (.inl h)
    .exact .inl h
    .exact .inr (.inr h)
   .rintro(h|h|h)
    .exact .inr (.inl h)
    .exact .inl h
    .exact .inr (.inr h)
theorem Dh{x:Int}:∀{l:X9},x∈sortI l↔x∈l
 |[]=>by simp[sortI]
 |a::l=>by
  have h:=Dh (x:=x) (l:=l);show x∈insI a (sortI l)↔_;rw[Rp,h];simp
set_option tactic.hygienic true in
theorem Di{x:Int}:∀{l:X9},x∈ug l↔x∈l
 |[]=>by simp[ug]
 |a::l=>by
  have h:=Di (x:=x) (l:=l);unfold ug;split
  .rename_i z
   rw[h];simp only[cj];exact⟨.inr,λq=>q.elim (λe=>e▸z) id⟩
  .simp only[cj,h]
theorem adt(y:Int):∀l:List Int,(insI y l).length=l.length+1
 |[]=>rfl|a::l=>by unfold insI;split<;>simp[adt y l]
theorem Km:∀l:List Int,(sortI l).length=l.length
 |[]=>rfl|a::l=>by show(insI a (sortI l)).length=_;rw[adt,Km l];rfl
theorem Tp:∀l:List Int,(ug l).length<=l.length
 |[]=>bf _|a::l=>by have:=Tp l;unfold ug;split<;>simp<;>omega
theorem Vd:∀l:List Nat,Uq (l.map nD)=some (l.map λ(x:Nat)=>(x:Int))
 |[]=>rfl|a::l=>by show(Uq (l.map nD)).map _=_;rw[Vd l];rfl
theorem ah3{y:Int}:∀{l:X9},l.Nodup->y∉l->(insI y l).Nodup
 |[],_,_=>by simp[insI]
 |a::l,h,hy=>by
  have G:=j8.mp h;have Z:y≠a/\y∉l:=by simpa using hy
  unfold insI;split
  .exact j8.mpr ⟨hy,h⟩
  .refine j8.mpr ⟨λz=>?_,ah3 G.2 Z.2⟩
   rcases Rp.mp z with z|z
   .exact Z.1 z.symm
   .exact G.1 z
theorem Wr:∀{l:X9},l.Nodup->(sortI l).Nodup
 |[],_=>zg
 |a::l,h=>by
  have Z:=j8.mp h;exact ah3 (Wr Z.2) (λz=>Z.1 (Dh.mp z))
set_option tactic.hygienic true in
theorem Rq:∀l:List Int,(ug l).Nodup
 |[]=>zg
 |a::l=>by
  unfold ug;split
  .exact Rq l
  .rename_i h
   exact j8.mpr ⟨λz=>h (Di.mp z),Rq l⟩
def afz{l:Y2}(h:yd M d=some (l.map nD))(R:l.length<31):∃G:List Nat,qm .De [d] M=.ok (.vl (G.map nD)) M/\G.length<=l.length/\G.Nodup/\∀x,x∈G↔x∈l:=by
 refine⟨(sortI (ug (l.map λ(x:Nat)=>(x:Int)))).map Int.toNat,?_,?_,?_,λx=>?_⟩
 .show Res.vo (((yd M d).bind Uq).bind λis=>if is.length<31 then some (D.vl ((sortI (ug is)).map D.int)) else none) M=_
  rw[h,qu,Vd,qu,dh (by simpa using R)];have:((sortI (ug (l.map λ(x:Nat)=>(x:Int)))).map Int.toNat).map nD=(sortI (ug (l.map λ(x:Nat)=>(x:Int)))).map D.int:=by rw[yt];apply ph;intro y Z;rw[Dh,Di] at Z;obtain⟨z,_,rfl⟩:=bz.mp Z;simp[nD]
  rw[this];rfl
 .rw[gf,Km]
  have:=Tp (l.map λ(x:Nat)=>(x:Int));simpa using this
 .have nd:=Wr (Rq (l.map λ(x:Nat)=>(x:Int)))
  rw[j9,za];refine List.Pairwise.imp_of_mem (fun{a b} ha hb hab e=>hab ?_) (j9.mp nd);rw[Dh,Di] at ha hb;obtain⟨x,_,rfl⟩:=bz.mp ha;obtain⟨y,_,rfl⟩:=bz.mp hb;simp only[um] at e;rw[e]
 .constructor
  .intro h
   obtain⟨y,Z,rfl⟩:=bz.mp h;rw[Dh,Di] at Z;obtain⟨z,R,rfl⟩:=bz.mp Z;simpa using R
  .intro h
   refine bz.mpr ⟨(x:Int),?_,by simp⟩;rw[Dh,Di];exact bz.mpr ⟨x,h,rfl⟩
def aj8(R:ρ.length=19)(h3:ρ[3]?=some (some (.vl (lz p K))))(h:RS p K rs M)(hK:K<=3)(h7:∀e,e<K->(rs e).length<=7)(ht:t<M.length) :
 ∃Z,Ih.den W ρ M=.ok (.ref (M.length+K)) Z/\Mk t (M.length+K) K (λe=>(rs e).length) (λe=>List.range (rs e).length) Z/\zc M Z/\Z.length=M.length+K+1:=by
 unfold Ih;obtain⟨ys,M1,e,r1,r2,r3,r4⟩:=Fv (W:=W) (v:=false) (k:=1) (t:=.name 19) (it:=.v 3) (e:=.Uo (.l (.v 19))) (ρ:=ρ) (M:=M) (M1:=M) (d:=.vl (lz p K)) (ds:=lz p K) (by simp[h3]) rfl (by simp[lz];exact a_ hK (by decide))
  (λi xs Z=>xs=lz M.length i/\(∀e,e<i->Z[M.length+e]?=some (.lst ((List.range (rs e).length).map nD)))/\zc M Z/\Z.length=M.length+i) ⟨rfl,λe he=>absurd he (tu _),zc.refl M,rfl⟩ (λ_ _ _ _=>rfl)
  (λi y xs Z hy hI=>by
   obtain⟨rfl,q1,q2,q3⟩:=hI;have G:i<K:=by have:=(aj.mp hy).1;simpa[lz] using this
   obtain rfl:D.ref (p+i)=y:=by simpa[lz,G] using hy
   have ln:=len_list (o6 (q2 _ _ (h i G)));have e1:(ρ++List.replicate 1 none).set 19 (some (.ref (p+i)))=ρ++[some (.ref (p+i))]:=by rw[Bf];simp[R]
   have g9:(ρ++[some (D.ref (p+i))])[19]?=some (some (.ref (p+i))):=by rw[<- R];simp
   refine⟨_,.ref Z.length,Z++[.lst ((List.range (rs i).length).map nD)],rfl,?_,?_,λe he=>?_,q2.trans (zc.app _ _),by simp[q3];exact rfl⟩
   .have h8:=h7 i G
    have h9:(rs i).length<=100000:=a_ h8 (by decide)
    rw[e1];simp[g9,ln,h9,MW.new,nD]
   .simp[lz,xg,q3]
   .by_cases z:e=i
    .subst z;rw[<- q3];simp
    .exact Ab (q1 e (by lia)))
 have qq:(lz p K).length=K:=by simp[lz]
 rw[qq] at r1 r2 r4;refine⟨M1++[.lst ys],by rw[e];simp[MW.new,r4],⟨⟨ys,by rw[<- r4];simp,by rw[r1];simp[lz],λi G=>?_⟩,λi G=>by simp,λi G x hx=>gw.mp hx,λi G x hx=>by simp[gw.mp hx]⟩,r3.trans (zc.app _ _),by simp[r4]⟩;refine⟨.ref (M.length+i),by rw[r1];simp[lz,G],o6 (Ab (r2 i G)),λa q=>?_⟩;cases q;exact⟨b_ ht x_,H_ G⟩
def Mk.st(h:Mk t pm K L R M)(s:St t f M M')(G:t<pm):Mk t pm K L R M':=h.frame (λa o Z _ e=>s.keep a o (i_ Z) e) G
def Ac.of(h:Ac q Z L G M)(k:∀o,M[q]?=some o->M'[q]?=some o):Ac q Z L G M':=⟨k _ h.at_,h.len,h.ok⟩
def avb(hm:1<=m)(P:Ua sz K R jn)(hh:Su t f M)(mk:Mk t pm K L ms M)(ac:Ac q R L as M)(G:t<p)(hp:p<=pm)(q8:pm<M.length)(hq:p<=q)(qv:q≠pm)(q3:q<M.length)(hL:∀e,e<K->L e<=7)(hc:Cgs R as R.length ms) :
 ∃c5 Xb zv zq zk Mh M',Dc.den (PW m) [some (.ref t),some (rz K r R),a2,a3,b4,b5,b6,b7,b8,some (.ref q),b10,K3,Ro,some (.ref pm),b14,b15,n16,n17,n18] M =
  .ok (.next,[some (.ref t),some (rz K r R),a2,a3,b4,c5,b6,b7,b8,some (.ref q),b10,Xb,zv,some (.ref pm),zq,zk,n16,n17,n18]) M'/\Mk t pm K L Mh M'/\Cgs R as R.length Mh/\Ac q R L as M'/\Gs t f p M M':=by
 refine hG λ_ _k=>?_
 have h3:=P.k3;obtain⟨k,M1,e1,l1,s1,n1⟩:=Br (many:=K) hm hh (by have:=P.k1;exact m_ this) (m_ (c_ h3 (by decide)));obtain⟨x,M2,e2,l2,s2,n2⟩:=Br (many:=7) hm s1.has (by decide) (by decide);obtain⟨y,M3,e3,l3,s3,n3⟩:=Br (many:=7) hm s2.has (by decide) (by decide);have hk:k<K:=o_ l1
 have s:=s1.trans (s2.trans s3);have Z:=mk.st s (b_ G hp);have q4:Ac q R L as M3:=ac.of λo e=>s.keep _ _ (i_ (b_ G hq)) e
 obtain⟨dk,fk,lk⟩:=Z.row hk;have qk:=Z.len _ hk;have ln:=len_list lk;simp only[gf,qk] at ln;have mx:=aas M3 x y;apply _k
 by_cases c:max x y<L k
 .have c':((max x y:Nat):Int)<(L k:Int):=m_ c
  have hx:x<(ms k).length:=by lia
  have hy:y<(ms k).length:=by lia
  have ix:=Qi lk hx;have iy:=Qi lk hy;have q0:=getD_mem' hx;have q1:=getD_mem' hy;generalize hx0:(ms k).getD x 0=u at ix q0;generalize hy0:(ms k).getD y 0=w at iy q1;have q2:min u w∈ms k:=by
   rcases Nat.le_total u w with z|z
   .rw[Nat.min_eq_left z];exact q0
   .rw[Nat.min_eq_right z];exact q1
  have rp:=adq (W:=(PW m)) (M:=M3) (ρ:=[D.ref t,rz K r R,a2,a3,b4,D.int k,b6,b7,b8,D.ref q,b10,D.int x,D.int y,D.ref pm,D.int (min u w:Nat),D.int (max u w:Nat),n16,n17,n18]) (v:=13) (x:=5) (y:=19) (a:=14) (b:=15) (lo:=min u w) (hi:=max u w) (by simp[fk]) lk (by have:=hL _ hk;exact a_ (f_ qk) (a_ this (by decide))) rfl rfl rfl;obtain⟨o,so,zw⟩:=Z.set hk (ns:=Iv (min u w) (max u w) (ms k)) (by simp[Iv,qk]) (λz hz=>by
   obtain⟨v,hv,rfl⟩:=bz.mp hz;split
   .exact Z.lt _ hk _ q2
   .exact Z.lt _ hk _ hv) (ahz (Z.fx _ hk) (λx hx=>by rw[qk];exact Z.lt _ hk x hx) q2) (b_ G hp)
  have q5:Ac q R L as (M3.set pm o):=q4.of λo e=>by rw[uh (j0 qv)];exact e
  have qq:M3.length=M.length:=u_ (a_ (f_ n3) (a_ (f_ n2) (f_ n1))) (a_ (g_ n1) (a_ (g_ n2) (g_ n3)));obtain⟨Mh,M5,e5,q6,zz,f5,l5⟩:=aj7 (r:=r) (M:=M3.set pm o) hm P zw q5 (by simp;exact b_ q8 (g_ qq)) (by simp;exact b_ q3 (g_ qq)) qv (b_ G hp) hL;have q7:Ac q R L as M5:=q5.of λo e=>f5 _ _ qv (by simp;exact b_ q3 (g_ qq)) e
  refine⟨some (.int k),some (.int x),some (.int y),some (.int (min u w:Nat)),some (.int (max u w:Nat)),Mh,M5,?_,q6,zz,q7,⟨?_,λa v ha na e=>?_,by simp at l5;exact a_ (g_ qq) l5⟩⟩
  .simp[Dc,Rm,e1,e2,e3,mx,fk,ln,c',ix,iy,ah1,aas,Nh,rp,so,e5]
  .obtain⟨n,hn,ho⟩:=s.has
   exact⟨n,f5 _ _ (h_ (b_ G hp)) (by have:=zr hn;simp;exact this) (by rw[uh (i_ (b_ G hp))];exact hn),ho⟩
  .refine f5 _ _ (h_ (b_ ha hp)) (by have:=zr e;simp;exact b_ this (g_ qq)) ?_
   rw[uh (i_ (b_ ha hp))];exact s.keep a v na e
 .have c':¬((max x y:Nat):Int)<(L k:Int):=by lia
  refine⟨some (.int k),some (.int x),some (.int y),b14,b15,ms,M3,?_,Z,hc,q4,Gs.Yu s⟩;simp[Dc,Rm,e1,e2,e3,mx,fk,ln,c']
def jq(Z:Y2)(G:List (List Nat)):D:=.tup [.tup (Z.map nD),.tup (G.map λR=>.tup (R.map nD))]
def apz(h:.int v∈ds):ixI v ds<ds.length:=by
 unfold ixI;cases q:ds.findIdx? (λd=>match d with|.int i=>decide (i=v)|_=>false) with
 |some j=>exact(qp.mp q).1
 |none =>
  rw[vq] at q;have:=q _ h;simp at this
def avc:∀{Z:List D},(∀d∈Z,∃i:Int,d=.int i)->.int v∈Z->Z[ixI v Z]?=some (.int v):=fun{Z} hi h=>by
 unfold ixI;cases q:Z.findIdx? (λd=>match d with|.int i=>decide (i=v)|_=>false) with
 |some j =>
  obtain⟨R,G,_⟩:=qp.mp q;obtain⟨i,ei⟩:=hi Z[j] (ux R);rw[ei] at G;have:i=v:=by simpa using G
  simp[R,ei,this]
 |none =>
  rw[vq] at q;have:=q _ h;simp at this
def adu(l:Y2):∀d∈l.map nD,∃i:Int,d=.int i:=λd Z=>by obtain⟨x,_,rfl⟩:=bz.mp Z;exact⟨_,rfl⟩
def af0{l:Y2}(h:x∈l):.int (x:Int)∈l.map nD:=bz.mpr ⟨x,h,rfl⟩
def Xi(l:Y2)(x:Nat):Nat:=ixI (x:Int) (l.map nD)
def Tq(h:x∈l):Xi l x<l.length:=by have:=apz (af0 h);simpa[Xi] using this
def Rr{l:Y2}(h:x∈l):l.getD (Xi l x) 0=x:=by have G:=avc (adu l) (af0 h);have Z:=Tq h;unfold Xi at Z ⊢;rw[je,bu Z] at G;simp[nD] at G;rw[aq,bu Z];simp only[zx];exact D_ G
def Rt(G:Nat->List Nat)(g:F)(js R lb:Y2):List Nat:=R.map λZ=>Xi lb ((G g.b).getD (js.getD Z 0) 0)
noncomputable def Dj(Z:List (List Nat))(x:Nat)(w:Int):Nat:=if w=-1 then x else(Z.getD w.toNat []).getD x 0
structure Yv(K:Nat)(hs:List F)(sizes:Y2)(acts:List (List Nat)):Prop where
 ls:sizes.length=K
 la:acts.length=hs.length
 sm:∀x∈sizes,x<=7
 ok:∀(j:Nat)(g:F)(js:Y2),hs[j]?=some g->acts[j]?=some js->js.length=sizes.getD g.a 0/\∀x∈js,x<sizes.getD g.b 0
 fu:∀(j1 j2:Nat)(g1 g2:F)(a1 a2:Y2),hs[j1]?=some g1->hs[j2]?=some g2->g1.b=g2.a->acts[j1]?=some a1->acts[j2]?=some a2->∀x,x<a1.length->a2.getD (a1.getD x 0) 0=Dj acts x (ent hs g1 g2)
def Tt(l:Y2):D:=.vl (l.map nD)
def ap0(R:ρ.length=19)(qk:ρ[13]?=some (some (.ref pm)))(mk:Mk t pm K L ms M)(hK:K<=3)(h7:∀i,i<K->L i<=7) :
 ∃Z:List (List Nat),Ig.den W ρ M=.ok (.vl (Z.map Tt)) M/\Z.length=K/\∀e l,Z[e]?=some l->l.length<=L e/\l.Nodup/\∀x,x∈l↔x∈ms e:=by
 obtain⟨qq,h1,h2,h3⟩:=mk.ex;unfold Ig;refine hG λ_ _k=>?_
 obtain⟨ys,M',e,rfl,Z,r1,r2,r3⟩:=Fv (W:=W) (v:=true) (k:=1) (t:=.name 19) (it:=.v 13) (e:=.blt .De (.o (.v 19))) (ρ:=ρ) (M:=M) (M1:=M) (d:=.ref pm) (ds:=qq) (by simp[qk]) (o6 h1) (a_ (f_ h2) (a_ hK (by decide)))
  (λi xs M'=>M'=M/\∃Z:List (List Nat),xs=Z.map Tt/\Z.length=i/\∀e l,Z[e]?=some l->l.length<=L e/\l.Nodup/\∀x,x∈l↔x∈ms e) ⟨rfl,[],rfl,rfl,by simp⟩ (λi xs M' h=>by rw[h.1];exact o6 h1)
  (λi y xs M' hy hI=>by
   obtain⟨rfl,Z,rfl,q1,q2⟩:=hI;have hi:i<K:=by have:=(aj.mp hy).1;exact b_ this (f_ h2)
   refine hG λ_ _k=>?_
   obtain⟨d,g1,g2,_⟩:=h3 i hi;rw[hy] at g1;cases g1;obtain⟨l,k1,k2,k4,k3⟩:=afz (Gg g2) (by have:=h7 i hi;have:=mk.len i hi;lia);apply _k;have e1:(ρ++List.replicate 1 none).set 19 (some y)=ρ++[some y]:=by rw[Bf];simp[R]
   have g9:(ρ++[some y])[19]?=some (some y):=by rw[<- R];simp
   refine⟨_,Tt l,M',rfl,by rw[e1];simp[g9,k1,Tt],rfl,Z++[l],by simp,by simp[q1],λe l' G=>?_⟩
   by_cases z:e<Z.length
   .rw[dj z] at G;exact q2 e l' G
   .have ze:e=i:=by have:=(aj.mp G).1;simp at this;lia
    subst ze;rw[iu (s_ z),q1] at G;simp at G;subst G;rw[<- mk.len e hi];exact⟨k2,k4,k3⟩)
 apply _k;refine⟨Z,by rw[e,r1];rfl,r2.trans h2,r3⟩
def ap1{Z:List (List Nat)}{i:Nat}(h:Z[i]?=some l):Ak (.vl (Z.map Tt)) (.int i) M=some (Tt l):=Df rfl q_ (by simp[h])
def akb{hl:List (List Nat)}(mk:Mk t pm K L ms M)(ac:Ac q hs L as M){j:Nat}(hj:hs[j]?=some g)(ej:as[j]?=some G)(ga:g.a<K)(gb:g.b<K)(h1:hl[g.a]?=some la)(h2:hl[g.b]?=some lb)(q2:∀x,x∈la↔x∈ms g.a)(q3:∀x,x∈lb↔x∈ms g.b)(h7:la.length<=7)(hw:M[w]?=some (.lst td))(q4:td.length<100000) :
 ∃(q5:Option D)(zs:Y2),Ef.den W [a0,rz K r hs,a2,a3,b4,b5,b6,b7,b8,D.ref q,D.int j,K3,Ro,D.ref pm,b14,b15,D.vl (hl.map Tt),D.ref w,b18] M =
  .ok (.next,[a0,some (rz K r hs),a2,a3,b4,b5,b6,b7,b8,some (.ref q),some (.int j),some (.int g.a),some (.int g.b),some (.ref pm),b14,b15,some (.vl (hl.map Tt)),some (.ref w),q5]) (M.set w (.lst (td++[.tup (zs.map nD)])))/\zs=Rt ms g G la lb/\zs.length=la.length/\∀x∈zs,x<lb.length:=by
 refine hG λ_ _k=>?_
 obtain⟨q6,q0,fj,lj,rj⟩:=ac.get hj;rw[ej] at q0;cases q0;obtain⟨db,fb,q1⟩:=mk.row gb;have hz:∀Z∈la,G.getD Z 0<(ms g.b).length/\Z<G.length:=λZ h=>by
  have h3:=mk.lt _ ga Z ((q2 Z).mp h);have h4:Z<G.length:=b_ h3 (g_ lj)
  exact⟨by rw[mk.len _ gb];exact rj _ (getD_mem' h4),h4⟩
 apply _k;have c3:Ie.den W [a0,rz K r hs,a2,a3,b4,b5,b6,b7,b8,D.ref q,D.int j,D.int g.a,D.int g.b,D.ref pm,b14,b15,D.vl (hl.map Tt),D.ref w,b18] M=.ok (Tt (la.map λZ=>(ms g.b).getD (G.getD Z 0) 0)) M:=by
  unfold Ie;rw[Ay (d:=Tt la) (ds:=la.map nD) (M1:=M) (g:=λd=>match d with|.int o=>nD ((ms g.b).getD (G.getD o.toNat 0) 0)|_=>.non) (by simp[ap1 h1]) rfl (by simp;exact a_ h7 (by decide)) (λz R=>by
   obtain⟨Z,qq,rfl⟩:=bz.mp R;obtain⟨k1,k2⟩:=hz Z qq;refine⟨_,rfl,?_⟩;have i1:Ak (.vl (G.map nD)) (.int Z) M=some (.int (G.getD Z 0)):=Qi rfl k2;have i2:=Qi q1 k1;show(Ex.ix (.ix (.v 13) (.v 12)) (.ix (.ix (.v 9) (.v 10)) (.v 19))).den W [a0,rz K r hs,a2,a3,b4,b5,b6,b7,b8,D.ref q,D.int j,D.int g.a,D.int g.b,D.ref pm,b14,b15,D.vl (hl.map Tt),D.ref w,b18,D.int Z] M=.ok (nD ((ms g.b).getD (G.getD (Z:Int).toNat 0) 0)) M;rw[um];generalize G.getD Z 0=yy at i1 i2;generalize(ms g.b).getD yy 0=zz at i2;simp[fb,fj,i1,i2,nD])]
  simp[Tt,nD]
 have qk:∀z∈la.map (λZ=>(ms g.b).getD (G.getD Z 0) 0),.int (z:Int)∈lb.map nD:=λz h=>by obtain⟨Z,qq,rfl⟩:=bz.mp h;exact bz.mpr ⟨_,(q3 _).mpr (getD_mem' (hz Z qq).1),rfl⟩
 generalize a81:la.map (λZ=>(ms g.b).getD (G.getD Z 0) 0)=row at c3 qk;have qv:row.length=la.length:=by rw[<- a81];simp
 have c2:Ib.den W [a0,rz K r hs,a2,a3,b4,b5,b6,b7,b8,D.ref q,D.int j,D.int g.a,D.int g.b,D.ref pm,b14,b15,D.vl (hl.map Tt),D.ref w,Tt row] M=.ok (.vl ((row.map λ(z:Nat)=>ixI (z:Int) (lb.map nD)).map nD)) M:=by
  unfold Ib;rw[Ay (d:=Tt row) (ds:=row.map nD) (M1:=M) (g:=λd=>match d with|.int o=>nD (ixI o (lb.map nD))|_=>.non) (by simp) rfl (by simp;exact a_ (f_ qv) (a_ h7 (by decide))) (λz R=>by
   obtain⟨o,ho,rfl⟩:=bz.mp R;refine⟨_,rfl,?_⟩;have i1:=adn (M:=M) (ds:=lb.map nD) (v:=(o:Int)) (λd hd=>by obtain⟨x,_,rfl⟩:=bz.mp hd;exact⟨_,rfl⟩) (qk o ho);show(Ex.bm .index (.ix (.v 16) (.v 12)) (.o (.v 19))).den W [a0,rz K r hs,a2,a3,b4,b5,b6,b7,b8,D.ref q,D.int j,D.int g.a,D.int g.b,D.ref pm,b14,b15,D.vl (hl.map Tt),D.ref w,Tt row,D.int o] M=_;simp[ap1 h2,Tt,Jo,i1,nD])]
  simp[nD]
 refine⟨some (Tt row),row.map λ(z:Nat)=>ixI (z:Int) (lb.map nD),?_,by rw[<- a81,yt];rfl,by simp[qv],λx hx=>?_⟩
 .have pe:∀ρ,(Tg.names [11,12]).put (eD g) ρ=some ((ρ.set 11 (some (.int g.a))).set 12 (some (.int g.b))):=λ_=>rfl
  have ap:=Hc (d:=.tup ((row.map λ(z:Nat)=>ixI (z:Int) (lb.map nD)).map nD)) hw q4;simp only[yt] at c2 ap ⊢;simp[-List.map_map,Ef,Mg,Xx hj,pe,c3,c2,Hu hw,K4,ap]
 .obtain⟨z,R,rfl⟩:=bz.mp hx
  have:=apz (qk z R);simpa using this
def a1h(h:nD a=nD b):a=b:=by simp only[nD,D.int.injEq,Az] at h;exact h
def af1(Z:List F)(k:Nat):(vg Z k).Nodup:=by
 refine j8.mpr ⟨λh=>?_,?_⟩
 .obtain⟨x,_,e⟩:=bz.mp h
  simp[nD] at e
 .rw[j9,za]
  exact((j9.mp List.nodup_range).filter _).imp λh e=>h (a1h e)
def ap3(Z:List F)(k g:Nat):(wT Z k g).Nodup:=(af1 Z k).filter _
def ah4(h:Yt n k w=Yt Z G w'):n=Z/\k=G/\w=w':=by simp only[Yt,D.tup.injEq,List.cons.injEq,D.int.injEq,Az,and_true] at h;exact h
def Ws(Z:(ad.map (·.1)).Nodup)(e:Nat):(rowsOf G ad e).Nodup:=by
 rw[j9];unfold rowsOf;rw[List.pairwise_flatMap];refine⟨λp _=>?_,?_⟩
 .rw[za]
  exact(j9.mp (ap3 G p.2 e)).imp λh q=>h (ah4 q).2.2
 .rw[j9,za] at Z
  exact Z.imp λh x R y hy q=>by obtain⟨u,_,rfl⟩:=bz.mp R;obtain⟨v,_,rfl⟩:=bz.mp hy;exact h (ah4 q).1
def Kc{G:Type}{l:List G}(h:l.Nodup){i:Nat}{x:G}(Z:l[i]?=some x)(R:l[j]?=some x):i=j:=by have hi:=(aj.mp Z).1;exact(List.getElem?_inj hi h).mp (Z.trans R.symm)
def Yw{j:Nat}(h:bothW Z G x j=some (.int v)):bv Z G j (.int x)=v:=by simp[bv,h]
def avd(P:Ua sz K Z R)(h1:Z[j1]?=some g1)(h2:Z[j2]?=some g2)(e:g1.b=g2.a)(hx:.int x∈wT Z k g1.a) :
 (ent Z g1 g2=-1/\(g1.comp g2).Ou/\bv Z R j2 (.int (bv Z R j1 (.int x)))=x)\/∃j3:Nat,ent Z g1 g2=j3/\Z[j3]?=some (g1.comp g2)/\bv Z R j2 (.int (bv Z R j1 (.int x)))=bv Z R j3 (.int x):=by
 have n1:¬((j1:Int)=-1):=by lia
 have n2:¬((j2:Int)=-1):=by lia
 have m1:=au h1;have m2:=au h2;have Ro:bothW Z R j1 j2=some (.int (ent Z g1 g2)):=by rw[bothW,cu n1,cu n2];exact P.look h1 h2 e
 obtain⟨w1,w2⟩:=afv hx;rcases Jb w1 with q|⟨i,f,q,hf,ef⟩
 .cases q
  have c1:bothW Z R (-1) j1=some (.int j1):=by simp[bothW]
  rw[Yw c1,Yw Ro,K7];rcases P.Du (P.cl g1 m1 g2 m2 e) with⟨G,i1⟩|⟨u,hu,G⟩
  .exact .inl ⟨G,i1,G⟩
  .refine .inr ⟨u,G,hu,?_⟩
   rw[G,Yw (v:=u) (by simp[bothW])]
 .cases q
  have ni:¬((i:Int)=-1):=by lia
  rw[Hh hf] at w2;have c1:bothW Z R i j1=some (.int (ent Z f g1)):=by rw[bothW,cu ni,cu n1];exact P.look hf h1 w2
  obtain⟨v,v1,v2⟩:=P.aya hf h1 h2 w2 e;rw[Yw c1,Yw v1];rw[K7] at v2 ⊢;rcases P.Du (P.cl g1 m1 g2 m2 e) with⟨G,i1⟩|⟨u,hu,G⟩
  .rw[G] at v2
   rw[bothW,cu ni,dh rfl] at v2;cases v2;exact .inl ⟨G,i1,rfl⟩
  .rw[G] at v2
   exact .inr ⟨u,G,hu,(Yw v2).symm⟩
def Yx(h:l.Nodup)(Z:x<l.length):Xi l (l.getD x 0)=x:=by
 have m:l.getD x 0∈l:=getD_mem' Z;have R:=Rr m;have G:=Tq m;refine Kc h (x:=l.getD x 0) ?_ ?_
 .rw[bu G]
  rw[aq,bu G] at R;simpa using R
 .rw[bu Z,aq,bu Z];rfl
def Wt(hx:x<la.length):(Rt G g Z la R).getD x 0=Xi R ((G g.b).getD (Z.getD (la.getD x 0) 0) 0):=getD_map (α:=Nat) hx
def func(P:Ua sz K G jn){hd:List (List Nat)}(nd:(ad.map (·.1)).Nodup)(ml:∀e,e<K->(Z e).length=(rowsOf G ad e).length)(qq:∀e,e<K->∀x∈Z e,x<(rowsOf G ad e).length)(fx:∀e,e<K->∀x∈Z e,(Z e).getD x 0=x)(cg:Cgs G as G.length Z)(ae:∀(j:Nat) (g:F) (js:Y2),G[j]?=some g->as[j]?=some js->Ae G jn ad j g js)(hh:∀e l,hd[e]?=some l->l.Nodup/\∀x,x∈l↔x∈Z e){j1 j2:Nat}(h1:G[j1]?=some g1)(h2:G[j2]?=some g2)(e:g1.b=g2.a)(q1:as[j1]?=some s1)(q2:as[j2]?=some s2)(qk:hd[g1.a]?=some la)(qv:hd[g1.b]?=some lb)(R:hd[g2.b]?=some lc)(hx:x<la.length) :
 (ent G g1 g2=-1/\(Rt Z g2 s2 lb lc).getD ((Rt Z g1 s1 la lb).getD x 0) 0=x) \/
  ∃j3:Nat,ent G g1 g2=j3/\G[j3]?=some (g1.comp g2)/\∀s3,as[j3]?=some s3->(Rt Z g2 s2 lb lc).getD ((Rt Z g1 s1 la lb).getD x 0) 0=(Rt Z (g1.comp g2) s3 la lc).getD x 0:=by
 have m1:=au h1;have m2:=au h2;have ka:=P.ait g1 m1;have kb:=P.Zq g1 m1;have kc:=P.Zq g2 m2;obtain⟨na,ma⟩:=hh _ _ qk;obtain⟨_,mb⟩:=hh _ _ qv;have A1:=ae _ _ _ h1 q1;have A2:=ae _ _ _ h2 q2;have hm:=(ma _).mp (getD_mem' hx);generalize hh0:la.getD x 0=h at hm;have Jd:=qq _ ka h hm;obtain⟨n,k,w,_,hw,er⟩:=Jc (ux Jd);have r0:(rowsOf G ad g1.a)[h]?=some (Yt n k (.int w)):=by rw[bu Jd,er]
 have r1:=A1.go _ _ _ _ r0;have r2:=A2.go _ _ _ _ (by rw[<- e];exact r1);have l1:s1.getD h 0<(Z g1.b).length:=by rw[ml _ kb];exact(aj.mp r1).1
 have v1:=getD_mem' l1;have yl:=Tq ((mb _).mpr v1);rw[Wt hx,hh0,Wt yl,Rr ((mb _).mpr v1)];have c1:(Z g2.b).getD (s2.getD ((Z g1.b).getD (s1.getD h 0) 0) 0) 0=(Z g2.b).getD (s2.getD (s1.getD h 0) 0) 0:=by
  have q0:=(aj.mp h2).1;refine cg j2 g2 s2 q0 h2 q2 _ _ ?_ ?_ ?_
  .rw[A2.len,<- e];exact qq _ kb _ v1
  .rw[A2.len,<- e,<- ml _ kb];exact l1
  .rw[<- e];exact fx _ kb _ v1
 rw[c1];rcases avd P h1 h2 e hw with⟨e1,i1,b1⟩|⟨j3,e1,h3,b1⟩
 .left
  refine⟨e1,?_⟩;have ab:g1.a=g2.b:=i1.1;rw[b1,<- ab] at r2;rw[<- ab] at R;rw[qk] at R;cases R;rw[Kc (Ws nd _) r2 r0,<- ab,fx _ ka h hm,<- hh0,Yx na hx]
 .right
  refine⟨j3,e1,h3,λs3 q3=>?_⟩;have A3:=ae _ _ _ h3 q3;have r3:=A3.go h n k w r0;rw[Wt hx,hh0];rw[b1] at r2;have:s2.getD (s1.getD h 0) 0=s3.getD h 0:=Kc (Ws nd g2.b) r2 r3;rw[this];rfl
def adw(hm:2<=m)(P:Ua sz K Z jn)(hh:Su t f M)(hr:M[r]?=some (.dT jn))(u6:r≠t) :
 ∃q8 z0 M',prog.call m 14 [.ref t,rz K r Z,.int 3] M=.ok (jq q8 z0) M'/\Yv K Z q8 z0/\St t f M M':=by
 rw[call_of (a_ (by decide) hm) rfl];have h3:=P.k3;have hl:=P.len;have ht:t<M.length:=by obtain⟨n,h,_⟩:=hh;exact zr h
 have yj:=zr hr;have r0:=apl (W:=(PW (m-1))) (M:=M) (K:=K) (y:=19) (e:=.ix (.v 1) (.i 0)) (ρ:=[D.ref t,rz K r Z,D.int 3,none,none,none,none,none,none,none,none,none,none,none,none,none,none,none,none]) rfl (by simp[Rm]) (a_ h3 (by decide));have g0:Gs t f M.length M (M++List.replicate K (.lst [])):=Gs.app hh (bf _) _;have w0:Rw Z K M.length [] (M++List.replicate K (.lst [])):=⟨λi hi=>by
  rw[iu x_];simp[rowsOf,hi],by simp,by simp[rowsOf],zg⟩
 refine hG λ_ _k=>?_
 obtain⟨v,M1,e1,l1,s1,n1⟩:=Br (many:=4) (m:=m-1) (r_ hm) g0.has (by decide) (by decide);obtain⟨x4,M2,e2,⟨b4,b5,b6,b7,b8,rfl⟩,ad,w2,T3,g2,n2⟩:=zy (W:=(PW (m-1))) (t:=.name 4) (b:=Dd) (it:=.call 2 (.p (.v 0) (.bin .add (.v 2) (.i 1)))) (n:=v)
  (ρ:=[some (.ref t),some (rz K r Z),some (.int 3),some (.vl (lz M.length K)),none,none,none,none,none]++[none,none,none,none,none,none,none,none,none,none]) (M:=M++List.replicate K (.lst [])) (M1:=M1) (by simp[e1]) (e_ (b_ (o_ l1) (by decide)))
  (λi ρ M'=>(∃b4 b5 b6 b7 b8:Option D,ρ=[some (.ref t),some (rz K r Z),some (.int 3),some (.vl (lz M.length K)),b4,b5,b6,b7,b8]++[none,none,none,none,none,none,none,none,none,none])/\∃ad,Rw Z K M.length ad M'/\(∀q∈ad,q.1<i)/\Gs t f M.length M M'/\M'.length=M.length+K)
  ⟨⟨none,none,none,none,none,rfl⟩,[],⟨w0.rs.keep s1 ht,w0.kd,w0.le,w0.nd⟩,by simp,g0.trans (Gs.Yu s1),by simp at n1;exact n1⟩
  (λi ρ M2 hi hI=>by
   refine hG λ_ _k=>?_
   obtain⟨⟨b4,b5,b6,b7,b8,rfl⟩,ad,q1,hn,q2,q3⟩:=hI;obtain⟨c5,c6,c7,c8,j5,M3,e3,k1,R9,k2,k3⟩:=au3 (m:=m-1) (r:=r) (n:=i) (r_ hm) P q2.has ht q1 hn (b5:=b5) (b6:=b6) (b7:=b7) (b8:=b8) (rest:=[none,none,none,none,none,none,none,none,none,none]) rfl;apply _k;exact⟨_,.next,_,M3,rfl,e3,.inl rfl,⟨some (.int i),c5,c6,c7,c8,rfl⟩,j5,k1,R9,q2.trans k2,k3.trans q3⟩)
 apply _k;refine hG λ_ _k=>?_
 have x7:=n2;obtain⟨x9,M3,e3,⟨G,K3,Ro,rfl⟩,as,a3,a4,a5,w3,g3,n3⟩:=zy (W:=(PW (m-1))) (t:=.name 10) (b:=Ij) (it:=.blt .len (.o (.ix (.v 1) (.i 1)))) (n:=Z.length)
  (ρ:=[D.ref t,rz K r Z,D.int 3,D.vl (lz M.length K),b4,b5,b6,b7,b8,D.ref M2.length,none,none,none,none,none,none,none,none,none]) (M:=M2++[.lst []]) (M1:=M2++[.lst []]) (by simp[Mg,Sv]) (a_ hl (by decide))
  (λj ρ M'=>(∃G K3 Ro:Option D,ρ=[some (.ref t),some (rz K r Z),some (.int 3),some (.vl (lz M.length K)),b4,b5,b6,b7,b8,some (.ref M2.length),G,K3,Ro,none,none,none,none,none,none]) /\
   ∃as:List (List Nat),M'[M2.length]?=some (.lst (as.map λR=>.vl (R.map nD)))/\as.length=j/\(∀(j:Nat)(g:F)(R:Y2),Z[j]?=some g->as[j]?=some R->Ae Z jn ad j g R)/\Rw Z K M.length ad M'/\Gs t f M.length M M'/\M'.length=M2.length+1)
  ⟨⟨none,none,none,rfl⟩,[],by simp,rfl,by simp,⟨λi hi=>Ab (w2.rs i hi),w2.kd,w2.le,w2.nd⟩,g2.trans (Gs.app g2.has (by lia) _),by simp⟩
  (λj ρ M3 hj hI=>by
   refine hG λ_ _k=>?_
   obtain⟨⟨G,K3,Ro,rfl⟩,as,q1,q2,q3,q4,q5,q6⟩:=hI;have qq:Z[j]?=some Z[j]:=by simp[hj]
   obtain⟨R,c7,k1⟩:=a1d (m:=m-1) (M:=M3) (r:=r) (r_ hm) P (q5.low _ _ yj u6 hr) q4 qq (a0:=some (.ref t)) (a2:=some (.int 3)) (a4:=b4) (a5:=b5) (a6:=b6) (a7:=b7) (a8:=b8) (a9:=some (.ref M2.length)) (rest:=[none,none,none,none,none,none]) rfl;have ap:=Hc (d:=.vl (R.map nD)) q1 (by simp;exact c_ (f_ q2) (b_ hj (a_ hl (by decide))));have pe:∀ρ,(Tg.names [11,12]).put (eD Z[j]) ρ=some ((ρ.set 11 (some (.int Z[j].a))).set 12 (some (.int Z[j].b))):=λ_=>rfl
   simp only[zu,Af] at c7;apply _k;refine⟨_,.next,_,M3.set M2.length (.lst ((as.map λR=>.vl (R.map nD))++[.vl (R.map nD)])),rfl,by simp[Ij,Mg,Xx qq,pe,Hu q1,c7,ap],.inl rfl,⟨some (.int j),some (.int Z[j].a),some (.int Z[j].b),rfl⟩,as++[R],by rw[wj q1];simp,by simp[q2],λj' g q0 hg Yy=>?_,⟨λi hi=>?_,q4.kd,q4.le,q4.nd⟩,q5.trans (Gs.afx q5.has (Xg.set (by lia)) ht (by simp)),by simp[q6]⟩
   .by_cases z:j'<as.length
    .rw[dj z] at Yy;exact q3 j' g q0 hg Yy
    .have ze:j'=j:=by have:=(aj.mp Yy).1;simp at this;lia
     subst ze;rw[iu (s_ z),q2] at Yy;simp at Yy;subst Yy;rw[qq] at hg;cases hg;exact k1
   .rw[uh (by lia)];exact q4.rs i hi)
 apply _k;refine hG λ_ _k=>?_
 obtain⟨M4,e4,u7,z5,n4⟩:=aj8 (W:=(PW (m-1))) (t:=t) (M:=M3) (ρ:=[D.ref t,rz K r Z,D.int 3,D.vl (lz M.length K),b4,b5,b6,b7,b8,D.ref M2.length,G,K3,Ro,none,none,none,none,none,none]) rfl rfl w3.rs h3 w3.le (by lia);have g4:Gs t f M.length M M4:=g3.trans ⟨by obtain⟨n,h,o⟩:=g3.has;exact⟨n,z5 _ _ h,o⟩,λa o _ _ e=>z5 a o e,by lia⟩;have yv:Ac M2.length Z (λe=>(rowsOf Z ad e).length) as M4:=⟨z5 _ _ a3,a4,λj g R h1 h2=>⟨(a5 j g R h1 h2).len,(a5 j g R h1 h2).lt⟩⟩;have y5:Cgs Z as Z.length (λe=>List.range (rowsOf Z ad e).length):=λj g R _ h1 h2 x y hx hy e=>by
  have hl:=(a5 j g R h1 h2).len;have ex:(List.range (rowsOf Z ad g.a).length).getD x 0=x:=by simp[<- hl,hx]
  have ey:(List.range (rowsOf Z ad g.a).length).getD y 0=y:=by simp[<- hl,hy]
  simp only[ex,ey] at e;rw[e]
 obtain⟨u,M5,e5,l5,s5,n5⟩:=Br (many:=4) (m:=m-1) (r_ hm) g4.has (by decide) (by decide);obtain⟨x5,M6,e6,⟨d5,z6,z7,z4,zk,zz,rfl⟩,ms,q7,y0,z8,g6,n6⟩:=zy (W:=(PW (m-1))) (t:=.name 10) (b:=Dc) (it:=.call 2 (.p (.v 0) (.i 4))) (n:=u)
  (ρ:=[D.ref t,rz K r Z,D.int 3,D.vl (lz M.length K),b4,b5,b6,b7,b8,D.ref M2.length,G,K3,Ro,D.ref (M3.length+K),none,none,none,none,none]) (M:=M4) (M1:=M5) (by simp[e5]) (e_ (b_ (o_ l5) (by decide)))
  (λ_ ρ M'=>(∃b5 G K3 Ro zq qv:Option D,ρ=[some (.ref t),some (rz K r Z),some (.int 3),some (.vl (lz M.length K)),b4,b5,b6,b7,b8,some (.ref M2.length),G,K3,Ro,some (.ref (M3.length+K)),zq,qv,none,none,none]) /\
   ∃ms,Mk t (M3.length+K) K (λe=>(rowsOf Z ad e).length) ms M'/\Cgs Z as Z.length ms/\Ac M2.length Z (λe=>(rowsOf Z ad e).length) as M'/\Gs t f M.length M M'/\M3.length+K<M'.length)
  ⟨⟨b5,G,K3,Ro,none,none,rfl⟩,_,u7.st s5 (by lia),y5,yv.of λo e=>s5.keep _ _ (by lia) e,g4.trans (Gs.Yu s5),by lia⟩
  (λi ρ M6 hi hI=>by
   refine hG λ_ _k=>?_
   obtain⟨⟨b5,G,K3,Ro,zq,qv,rfl⟩,ms,q1,qc,q2,q3,q4⟩:=hI;obtain⟨c5,Xb,y4,u4,jj,Mh,M7,e7,k1,kc,k2,k3⟩:=avb (m:=m-1) (r:=r) (p:=M.length) (r_ hm) P q3.has q1 q2 ht (by lia) q4 (by lia) (by lia) (by lia) w3.le qc (a2:=some (.int 3)) (a3:=some (.vl (lz M.length K))) (b4:=b4) (b5:=b5) (b6:=b6) (b7:=b7) (b8:=b8) (b10:=some (.int i)) (K3:=K3) (Ro:=Ro) (b14:=zq) (b15:=qv) (n16:=none) (n17:=none) (n18:=none);apply _k;exact⟨_,.next,_,M7,rfl,e7,.inl rfl,⟨c5,some (.int i),Xb,y4,u4,jj,rfl⟩,Mh,k1,kc,k2,q3.trans k3,by have:=k3.len;exact b_ q4 this⟩)
 apply _k;obtain⟨hd,e7,zw,yy⟩:=ap0 (W:=(PW (m-1))) (M:=M6) (ρ:=[D.ref t,rz K r Z,D.int 3,D.vl (lz M.length K),b4,d5,b6,b7,b8,D.ref M2.length,z6,z7,z4,D.ref (M3.length+K),zk,zz,none,none,none]) rfl rfl q7 h3 w3.le;have z3:∀e,e<K->∃l,hd[e]?=some l/\l.length<=7/\∀x,x∈l↔x∈ms e:=λe he=>by have z:hd[e]?=some hd[e]:=bu (b_ he (g_ zw));obtain⟨y1,_,y2⟩:=yy e _ z;have:=w3.le e he;exact⟨_,z,a_ y1 this,y2⟩
 refine hG λ_ _k=>?_
 obtain⟨x8,M8,e8,⟨uk,y8,xv,y7,rfl⟩,td,t1,t2,t3,t4,g8,n8⟩:=zy (W:=(PW (m-1))) (t:=.name 10) (b:=Ef) (it:=.blt .len (.o (.ix (.v 1) (.i 1)))) (n:=Z.length)
  (ρ:=[D.ref t,rz K r Z,D.int 3,D.vl (lz M.length K),b4,d5,b6,b7,b8,D.ref M2.length,z6,z7,z4,D.ref (M3.length+K),zk,zz,D.vl (hd.map Tt),D.ref M6.length,none]) (M:=M6++[.lst []]) (M1:=M6++[.lst []]) (by simp[Mg,Sv]) (a_ hl (by decide))
  (λj ρ M'=>(∃G K3 Ro zv:Option D,ρ=[some (.ref t),some (rz K r Z),some (.int 3),some (.vl (lz M.length K)),b4,d5,b6,b7,b8,some (.ref M2.length),G,K3,Ro,some (.ref (M3.length+K)),zk,zz,some (.vl (hd.map Tt)),some (.ref M6.length),zv]) /\
   ∃td:List (List Nat),M'[M6.length]?=some (.lst (td.map λR=>.tup (R.map nD)))/\td.length=j/\(∀(j:Nat)(g:F)(R:Y2),Z[j]?=some g->td[j]?=some R->R.length=(hd.map List.length).getD g.a 0/\∀x∈R,x<(hd.map List.length).getD g.b 0)/\(∀(j:Nat)(g:F)(R:Y2),Z[j]?=some g->td[j]?=some R->∃s la lb,as[j]?=some s/\hd[g.a]?=some la/\hd[g.b]?=some lb/\R=Rt ms g s la lb)/\zc M6 M'/\M'.length=M6.length+1)
  ⟨⟨z6,z7,z4,none,rfl⟩,[],by simp,rfl,by simp,by simp,zc.app _ _,by simp⟩
  (λj ρ M7 hj hI=>by
   refine hG λ_ _k=>?_
   obtain⟨⟨G,K3,Ro,zv,rfl⟩,td,q1,q2,q3,qe,q4,q5⟩:=hI;have qq:Z[j]?=some Z[j]:=by simp[hj]
   obtain⟨sj,ej,_⟩:=z8.get qq;have hg:=au qq;obtain⟨la,x1,x2,x3⟩:=z3 _ (P.ait _ hg);obtain⟨lb,y1,y2,y3⟩:=z3 _ (P.Zq _ hg);have xk:=q7.frame (M':=M7) (λa o _ _ e=>q4 a o e) (by lia);have y9:=z8.of (M':=M7) λo e=>q4 _ _ e
   obtain⟨xy,zs,e9,kz,k1,k2⟩:=akb (W:=(PW (m-1))) (r:=r) xk y9 (hl:=hd) qq ej (P.ait _ hg) (P.Zq _ hg) x1 y1 x3 y3 x2 q1 (by simp;exact c_ (f_ q2) (b_ hj (a_ hl (by decide)))) (a0:=some (.ref t)) (a2:=some (.int 3)) (a3:=some (.vl (lz M.length K))) (b4:=b4) (b5:=d5) (b6:=b6) (b7:=b7) (b8:=b8) (K3:=K3) (Ro:=Ro) (b14:=zk) (b15:=zz) (b18:=zv);apply _k;refine⟨_,.next,_,_,rfl,e9,.inl rfl,⟨some (.int j),some (.int Z[j].a),some (.int Z[j].b),xy,rfl⟩,td++[zs],by rw[wj q1];simp,by simp[q2],λj' g q0 qk Yy=>?_,λj' g q0 qk Yy=>?_,λa o e=>?_,by simp[q5]⟩
   .by_cases z:j'<td.length
    .rw[dj z] at Yy;exact q3 j' g q0 qk Yy
    .have ze:j'=j:=by have:=(aj.mp Yy).1;simp at this;lia
     subst ze;rw[iu (s_ z),q2] at Yy;simp at Yy;subst Yy;rw[qq] at qk;cases qk;have u1:(hd.map List.length).getD Z[j'].a 0=la.length:=by simp[aq,x1]
     have u2:(hd.map List.length).getD Z[j'].b 0=lb.length:=by simp[aq,y1]
     rw[u1,u2];exact⟨k1,k2⟩
   .by_cases z:j'<td.length
    .rw[dj z] at Yy;exact qe j' g q0 qk Yy
    .have ze:j'=j:=by have:=(aj.mp Yy).1;simp at this;lia
     subst ze;rw[iu (s_ z),q2] at Yy;simp at Yy;subst Yy;rw[qq] at qk;cases qk;exact⟨sj,la,lb,ej,x1,y1,kz⟩
   .rw[uh (by have:=zr e;exact i_ this)];exact q4 a o e)
 have c1:Ia.den (PW (m-1)) [some (.ref t),some (rz K r Z),some (.int 3),some (.vl (lz M.length K)),b4,d5,b6,b7,b8,some (.ref M2.length),uk,y8,xv,some (.ref (M3.length+K)),zk,zz,some (.vl (hd.map Tt)),some (.ref M6.length),y7] M8=.ok (.vl ((hd.map List.length).map nD)) M8:=by
  unfold Ia;rw[Ay (d:=.vl (hd.map Tt)) (ds:=hd.map Tt) (M1:=M8) (g:=λd=>match d with|.vl l=>.int l.length|_=>.non) (by simp) rfl (by simp;exact a_ (f_ zw) (a_ h3 (by decide))) (λz hz=>by
   obtain⟨l,z9,rfl⟩:=bz.mp hz;refine⟨_,rfl,?_⟩;simp[Tt,qm,Mr])]
  simp[Tt,nD]
 apply _k;refine⟨hd.map List.length,td,M8,?_,⟨by simp[zw],t2,λx hx=>?_,t3,λj1 j2 g1 g2 z1 z2 h1 h2 eg q1 q2 x hx=>?_⟩,?_⟩
 .simp only[zu,Af] at e2
  have j4:Np.den (PW (m-1)) _ _=_:=e2;have yk:Nj.den (PW (m-1)) _ _=_:=e3;have uj:Ni.den (PW (m-1)) _ _=_:=e6;have uu:Ng.den (PW (m-1)) _ _=_:=e8;have xw:Lw.den (PW (m-1)) _ _=_:=r0;simp[-List.map_map,Fn.run,Qv,Qu,xw,j4,MW.new,yk,e4,uj,e7,uu,c1,K4,qm,Gg (o6 t1),jq]
 .refine hG λ_ _k=>?_
  obtain⟨l,z9,rfl⟩:=bz.mp hx;obtain⟨i,hi,rfl⟩:=qy z9;obtain⟨l2,y1,y2,_⟩:=z3 i (b_ hi (f_ zw));rw[bu hi] at y1;cases y1;apply _k;exact y2
 .refine hG λ_ _k=>?_
  obtain⟨s1,la,lb,i1,i2,i3,rfl⟩:=t4 _ _ _ h1 q1;obtain⟨s2,x6,lc,i4,i5,i6,rfl⟩:=t4 _ _ _ h2 q2;rw[<- eg,i3] at i5;cases i5;have y6:x<la.length:=by simpa[Rt] using hx
  apply _k;rcases func P w3.nd q7.len q7.lt q7.fx y0 a5 (λe l he=>(yy e l he).2) h1 h2 eg i1 i4 i2 i3 i6 y6 with⟨e1,e2⟩|⟨j3,e1,e2,e3⟩
  .rw[e2,Dj,dh e1]
  .refine hG λ_ _k=>?_
   have l3:=(aj.mp e2).1;have u3:td[j3]?=some td[j3]:=bu (b_ l3 (g_ t2));obtain⟨s3,la',lc',i7,i8,i9,jv⟩:=t4 _ _ _ e2 u3;have i8:hd[g1.a]?=some la':=i8;have i9:hd[g2.b]?=some lc':=i9;rw[i2] at i8;cases i8;rw[i6] at i9;cases i9;have nj:¬((j3:Int)=-1):=by lia
   apply _k;rw[e3 _ i7,<- jv,Dj,e1,cu nj];simp[aq,u3]
 .have:Gs t f M.length M M8:=g6.trans ⟨by obtain⟨n,h,o⟩:=g6.has;exact⟨n,g8 _ _ h,o⟩,λa o _ _ e=>g8 a o e,by lia⟩
  exact this.st
def xx(l:Y2):D:=.tup (l.map nD)
def Pk(s:Y2)(a:List (List Nat))(M:dg):Ak (jq s a) (.int 0) M=some (xx s):=rfl
def aw3(s:Y2)(a:List (List Nat))(M:dg):Ak (jq s a) (.int 1) M=some (.tup (a.map xx)):=rfl
def Pn{l:Y2}(h:i<l.length):Ak (xx l) (.int i) M=some (.int (l.getD i 0)):=Jp q_ (by simp[h,nD])
def ah5{a:List (List Nat)}{j:Nat}(h:a[j]?=some Z):Ak (.tup (a.map xx)) (.int j) M=some (xx Z):=Jp q_ (by simp[h])
section
variable{W:Gf}{ρ:Env}{M:dg}{t:Tg}{it:Mq}{ds:List D}
def Oq{g:Nat->D}(qq:it.den W ρ M=.ok (.con ds) M)(hl:ds.length<=100000)(h:∀(i:Nat) d,ds[i]?=some d->∃G,t.put d (ρ++List.replicate k none)=some G/\e.den W G M=.ok (g i) M) :
 (Ex.comp true k t it e).den W ρ M=.ok (.vl ((List.range ds.length).map g)) M:=by
 rw[Hk,qq];obtain⟨ys,Z,e1,e2,rfl⟩:=Gh (fin:=(Src.con ds).fin) (item:=(Src.con ds).item) (body:=λd M=>(Res.vo (t.put d (ρ++List.replicate k none)) M).bind λR M=>(e.den W R M).bind λx Z=>.ok (some x) Z) (λi xs Z=>xs=(List.range i).map g/\Z=M) (n:=ds.length) (λi xs Z hi h1=>by
  obtain⟨rfl,rfl⟩:=h1;obtain⟨G,a,b⟩:=h i ds[i] (by simp[hi]);exact⟨_,some (g i),Z,by simp[Src.item,hi];rfl,by rw[a];simp[b],by simp[xg],rfl⟩) (λ_ _ _=>rfl) ds.length 0 [] M (q9 _) ⟨rfl,rfl⟩
 show(zp (.con ds) _ Z).bind _=_;rw[zp,show(Src.con ds).len=ds.length from rfl,dh hl,e1,<- e2];rfl
def aat{e:Ex}{n:Nat}(h:e.den W ρ M=.ok (.int (n:Nat)) M)(Z:n<=100000):(Mq.Jg e).den W ρ M=.ok (.con ((List.range n).map nD)) M:=by rw[Kq,h,Res.Cm];show(if(n:Int).natAbs<=100000 then _ else _)=_;rw[dh (by lia)];rfl
end
structure Fits(s1 s2:Y2)(r:List (List Nat)):Prop where
 len:r.length=s1.length
 ok:∀(k:Nat)(js:Y2),r[k]?=some js->js.length=s1.getD k 0/\∀x∈js,x<s2.getD k 0
def rD(r:List (List Nat)):D:=.tup (r.map xx)
def a89{j:Nat}(h:r[j]?=some Z):Ak (rD r) (.int j) M=some (xx Z):=Jp q_ (by simp[h])
def Qk{Z:Type}{l:List Z}{i:Nat}(h:i<l.length):∃x,l[i]?=some x:=⟨l[i],by simp[h]⟩
def Hi{Z:Type}{l:List Z}{i:Nat}{x d:Z}(h:l[i]?=some x):l.getD i d=x:=by simp[aq,h]
def af2(M:dg)(l:Y2):qm .len [xx l] M=.ok (.int l.length) M:=by simp[qm,Mr,xx]
def a1i(M:dg)(r:List (List Nat)):qm .len [rD r] M=.ok (.int r.length) M:=by simp[qm,Mr,rD]
def zip_get{i:Nat}(h:(Ms ls n)[i]?=some d):i<n/\d=.tup (ls.map λl=>l.getD i .non):=by
 have Z:i<n:=by simpa[Ms] using(aj.mp h).1
 simp[Ms,Z] at h;exact⟨Z,h.symm⟩
def af3{l:Y2}{i:Nat}(h:(l.map nD)[i]?=some d):∃y,l[i]?=some y/\d=.int y/\y∈l:=by rw[je] at h;obtain⟨y,Z,rfl⟩:=bw.mp h;exact⟨y,Z,rfl,au Z⟩
def Fits.get(f:Fits s1 s2 G){k:Nat}(h:k<s1.length):∃Z,G[k]?=some Z/\Z.length=s1.getD k 0/\∀x∈Z,x<s2.getD k 0:=by obtain⟨Z,e⟩:=Qk (l:=G) (i:=k) (by rw[f.len];exact h);exact⟨Z,e,f.ok k Z e⟩
def Yv.get(w:Yv K G s1 a1){k:Nat}{g:F}(h:G[k]?=some g):∃Z,a1[k]?=some Z/\Z.length=s1.getD g.a 0/\∀x∈Z,x<s1.getD g.b 0:=by obtain⟨Z,e⟩:=Qk (l:=a1) (i:=k) (by rw[w.la];exact(aj.mp h).1);exact⟨Z,e,w.ok k g Z h e⟩
def Yv.s7(w:Yv K Z s1 a1)(k:Nat):s1.getD k 0<=7:=by
 rw[aq];cases e:s1[k]? with
 |none=>simp|some y=>exact w.sm y (au e)
def DS(p K:Nat)(f:Nat->List (Kx×D))(M:dg):Prop:=∀i,i<K->M[p+i]?=some (.dK (f i))
noncomputable def upK(f:Nat->List (Kx×D))(i:Nat)(x:List (Kx×D))(j:Nat):List (Kx×D):=if j=i then x else f j
def Wu(f:Nat->List (Kx×D))(i:Nat)(x:List (Kx×D)):upK f i x i=x:=dh rfl
def aau(h:j≠i):upK f i x j=f j:=cu h
structure Gd(K c:Nat)(hs:List F)(s1 s2:Y2)(a1 a2:List (List Nat))(f:Nat->List (Kx×D)):Prop where
 len:∀i,i<K->(f i).length<=c
 val:∀i q d,i<K->wg (f i) q=some d->∃x y:Nat,q=.inl (x:Int)/\d=.int y/\x<s1.getD i 0/\y<s2.getD i 0/\∀(j:Nat)(g:F),hs[j]?=some g->g.a=i->wg (f g.b) (.inl (Dj a1 x j:Nat))=some (.int (Dj a2 y j:Nat))
section
variable{m:Nat}{M:dg}{sz:Nat->Nat}{K n r p c:Nat}{hs:List F}{jn:List (List Kx×D)}{s1 s2:Y2}{a1 a2:List (List Nat)}{f:Nat->List (Kx×D)}
def aav(a:List (List Nat))(x i:Nat):Dj a x (i:Int)=(a.getD i []).getD x 0:=by
 have:¬((i:Int)=-1):=by lia
 simp[Dj,this]
def Ru(hm:1<=m)(w:Yv K hs s1 a1)(hx:.int x∈vg hs k)(Z:G<s1.getD k 0):prog.call m 15 [jq s1 a1,.int G,.int x] M=.ok (.int (Dj a1 G x:Nat)) M/\Dj a1 G x<s1.getD (Bb hs k (.int x)) 0:=by
 rw[call_of hm rfl];rcases Jb hx with q|⟨i,g,q,hg,rfl⟩
 .cases q
  exact⟨by simp[Fn.run,Qd,Qc,Dj],by simpa[Dj,Bb] using Z⟩
 .cases q
  obtain⟨js,R,h2,h3⟩:=w.get hg;have i1:=Pn (M:=M) (l:=js) (i:=G) (b_ Z (g_ h2));have ni:¬((i:Int)<0):=by lia
  rw[aav,Hi R,Hh hg];refine⟨?_,h3 _ (getD_mem' (b_ Z (g_ h2)))⟩;generalize js.getD G 0=y at i1;simp[Fn.run,Qd,Qc,ni,aw3,ah5 R,i1]
def ave(P:Ua sz K hs jn)(R:.int w∈vg hs k){j:Nat}(G:hs[j]?=some g)(e:g.a=Bb hs k (.int w)) :
 ∃w':Int,.int w'∈vg hs k/\Bb hs k (.int w')=g.b/\∀{s a},Yv K hs s a->∀x,x<s.getD k 0->Dj a (Dj a x w) j=Dj a x w':=by
 rcases Jb R with q|⟨i,g1,q,hg,rfl⟩
 .cases q
  have e:g.a=k:=by simpa[Bb] using e
  exact⟨j,afw G e,Hh G,λ_ x _=>by simp[Dj]⟩
 .cases q
  rw[Hh hg] at e;have Z:∀{s a},Yv K hs s a->∀x,x<s.getD g1.a 0->Dj a (Dj a x i) j=Dj a x (ent hs g1 g):=fun{s a} W x R=>by obtain⟨b1,h1,h2,_⟩:=W.get hg;obtain⟨b2,h3,_⟩:=W.get G;rw[aav,aav,Hi h1,Hi h3];exact W.fu i j g1 g b1 b2 hg G e.symm h1 h3 x (b_ R (g_ h2))
  rw[K7] at Z;rcases P.Du (P.cl g1 (au hg) g (au G) e.symm) with⟨x1,i1⟩|⟨u,hu,x1⟩
  .rw[x1] at Z
   have:g1.a=g.b:=i1.1;exact⟨-1,by simp[vg],by simpa[Bb] using this,Z⟩
  .rw[x1] at Z
   exact⟨u,afw hu rfl,(Hh hu:_=(g1.comp g).b),Z⟩
def avf(Z:ρ.length=12)(h3:ρ[3]?=some (some (.vl (lz p K))))(h:DS p K f M)(hK:K<=3) :
 ∃M',Ip.den W ρ M=.ok (.vl (lz M.length K)) M'/\DS M.length K f M'/\zc M M':=by
 unfold Ip;refine hG λ_ _k=>?_
 obtain⟨ys,M1,e,r1,r2,r3,r4⟩:=Fv (W:=W) (v:=true) (k:=1) (t:=.name 12) (it:=.v 3) (e:=.blt .dict (.o (.v 12))) (ρ:=ρ) (M:=M) (M1:=M) (d:=.vl (lz p K)) (ds:=lz p K) (by simp[h3]) rfl (by simp[lz];exact a_ hK (by decide))
  (λi xs M'=>xs=lz M.length i/\(∀e,e<i->M'[M.length+e]?=some (.dK (f e)))/\zc M M'/\M'.length=M.length+i) ⟨rfl,λe he=>absurd he (tu _),zc.refl M,rfl⟩ (λ_ _ _ _=>rfl)
  (λi y xs M' hy hI=>by
   obtain⟨rfl,q1,q2,R⟩:=hI;have G:i<K:=by have:=(aj.mp hy).1;simpa[lz] using this
   obtain rfl:D.ref (p+i)=y:=by simpa[lz,G] using hy
   have hp:=q2 _ _ (h i G);have e1:(ρ++List.replicate 1 none).set 12 (some (.ref (p+i)))=ρ++[some (.ref (p+i))]:=by rw[Bf];simp[Z]
   have g9:(ρ++[some (D.ref (p+i))])[12]?=some (some (.ref (p+i))):=by rw[<- Z];simp
   refine⟨_,.ref M'.length,M'++[.dK (f i)],rfl,?_,?_,λe he=>?_,q2.trans (zc.app _ _),by simp[R];exact rfl⟩
   .rw[e1]
    simp[g9,qm,hp,MW.new]
   .simp[lz,xg,R]
   .by_cases z:e=i
    .subst z;rw[<- R];simp
    .exact Ab (q1 e (by lia)))
 have qq:(lz p K).length=K:=by simp[lz]
 rw[qq] at r1 r2 r4;subst r1;apply _k;exact⟨M1,e,λi G=>r2 i G,r3⟩
noncomputable abbrev EK(pt w1 w2 kn:D)(kd th e:Nat)(mo:D)(b8 b9 b10 K3:Option D):Env:=[some pt,some w1,some w2,some kn,some (.int kd),some (.int th),some (.int e),some mo,b8,b9,b10,K3]
def Xj(K:Nat)(f Z:Nat->List (Kx×D)):Prop:=∀i q d,i<K->wg (f i) q=some d->wg (Z i) q=some d
def a9a(K:Nat)(hs:List F)(Z G e:Nat)(a1 a2:List (List Nat))(f R:Nat->List (Kx×D)):Prop:=∀i q d,i<K->wg (R i) q=some d->wg (f i) q=some d\/∃w:Int,.int w∈vg hs Z/\i=Bb hs Z (.int w)/\q=.inl (Dj a1 G w:Nat)/\d=.int (Dj a2 e w:Nat)
def In1(hs:List F)(Z G e:Nat)(a1 a2:List (List Nat))(R:Nat->List (Kx×D))(n:Nat):Prop:=∀(j:Nat)(w:Int),j<n->(vg hs Z)[j]?=some (.int w)->wg (R (Bb hs Z (.int w))) (.inl (Dj a1 G w:Nat))=some (.int (Dj a2 e w:Nat))
def ap4(P:Ua sz K hs jn)(w1:Yv K hs s1 a1)(w2:Yv K hs s2 a2)(g:Gd K c hs s1 s2 a1 a2 f)(hk:kd<K)(ht:th<s1.getD kd 0)(he:e<s2.getD kd 0)(hl:∀i,i<K->(f' i).length<=c')(mo:Xj K f f')(sr:a9a K hs kd th e a1 a2 f f')(ii:In1 hs kd th e a1 a2 f' (vg hs kd).length):Gd K c' hs s1 s2 a1 a2 f' :=
 ⟨hl,λi q d Z h=>by
  rcases sr i q d Z h with h|⟨w,h1,rfl,rfl,rfl⟩
  .refine hG λ_ _k=>?_
   obtain⟨x,y,rfl,rfl,x1,x2,x3⟩:=g.val i q d Z h;apply _k;exact⟨x,y,rfl,rfl,x1,x2,λj o G R=>mo _ _ _ (P.Zq o (au G)) (x3 j o G R)⟩
  .refine⟨_,_,rfl,rfl,(Ru (m:=1) (M:=[]) (bf _) w1 h1 ht).2,(Ru (m:=1) (M:=[]) (bf _) w2 h1 he).2,λj o G R=>?_⟩
   obtain⟨w',y1,y2,y3⟩:=ave P h1 G R;obtain⟨i,Z⟩:=List.getElem?_of_mem y1;rw[y3 w1 _ ht,y3 w2 _ he,<- y2];exact ii i w' (aj.mp Z).1 Z⟩
def ap5(hm:2<=m)(P:Ua sz K hs jn)(w1:Yv K hs s1 a1)(w2:Yv K hs s2 a2)(hd:DS p K f M)(hg:Gd K c hs s1 s2 a1 a2 f)(hc:c<=1000)(hk:kd<K)(ht:G<s1.getD kd 0)(he:e<s2.getD kd 0) :
 ∃v M',prog.call m 16 [rz K r hs,jq s1 a1,jq s2 a2,.vl (lz p K),.int kd,.int G,.int e] M=.ok v M'/\zc M M' /\
  ((v=.non/\¬∀i,i<K->s2.getD i 0=1)\/∃Z,v=.vl (lz M.length K)/\DS M.length K Z M'/\Gd K (c+6) hs s1 s2 a1 a2 Z/\Xj K f Z/\(wg (Z kd) (.inl (G:Int))).isSome=true):=by
 rw[call_of (a_ (by decide) hm) rfl];have q0:=P.len;have h3:=P.k3;have m1:1<=m-1:=r_ hm
 obtain⟨M0,e0,d0,k0⟩:=avf (W:=(PW (m-1))) (ρ:=[rz K r hs,jq s1 a1,jq s2 a2,D.vl (lz p K),D.int kd,D.int G,D.int e,none,none,none,none,none]) rfl rfl hd h3;have wl:=Wm (hs:=hs) (k:=kd) q0;have qv:=agp (W:=(PW (m-1))) (t:=.name 8) (b:=Eh) (it:=.val (.call 6 (.p (.v 0) (.v 4)))) (s:=.con (vg hs kd)) (n:=(vg hs kd).length) (ρ:=EK (rz K r hs) (jq s1 a1) (jq s2 a2) (.vl (lz p K)) kd G e (.vl (lz M.length K)) none none none none) (M:=M0) (M1:=M0) (by simp[adk m1 q0,srcOf]) rfl
  (λi ρ M'=>(∃b8 b9 qk K3,ρ=EK (rz K r hs) (jq s1 a1) (jq s2 a2) (.vl (lz p K)) kd G e (.vl (lz M.length K)) b8 b9 qk K3)/\zc M M'/\∃Z,DS M.length K Z M'/\(∀j,j<K->(Z j).length<=c+i)/\Xj K f Z/\a9a K hs kd G e a1 a2 f Z/\In1 hs kd G e a1 a2 Z i)
  (λv M'=>(v=.non/\¬∀i,i<K->s2.getD i 0=1)/\zc M M') ⟨⟨none,none,none,none,rfl⟩,k0,f,d0,hg.len,λ_ _ _ _ h=>h,λ_ _ _ _ h=>.inl h,λ_ _ h=>absurd h (tu _)⟩ (λ_ _ _=>rfl)
  (λi ρ M1 hi hI=>by
   refine hG λ_ _k=>?_
   obtain⟨⟨b8,b9,qk,K3,rfl⟩,k1,Z,d1,g1,mo,sr,ii⟩:=hI;obtain⟨x,hx⟩:=Qk hi;have R:=au hx;obtain⟨xi,rfl⟩:=adi R;apply _k;refine⟨_,EK (rz K r hs) (jq s1 a1) (jq s2 a2) (.vl (lz p K)) kd G e (.vl (lz M.length K)) (some (.int xi)) b9 qk K3,hx,rfl,?_⟩;have ee:=ado (K:=K) (r:=r) (M:=M1) m1 R;have fl:=aaq P hk R;obtain⟨l1,_⟩:=Ru (M:=M1) m1 w1 R ht;obtain⟨l2,q1⟩:=Ru (M:=M1) m1 w2 R he;have nw:∀j w,j<i+1->(vg hs kd)[j]?=some (.int w)->j<i\/w=xi:=λj w h1 h2=>by
    by_cases z:j<i
    .exact .inl z
    .have:j=i:=by lia
     subst this;rw[hx] at h2;cases h2;exact .inr rfl
   have so:∀(q:Kx)(d:D),q=.inl (Dj a1 G xi:Nat)->d=.int (Dj a2 e xi:Nat)->∃w:Int,.int w∈vg hs kd/\Bb hs kd (.int xi)=Bb hs kd (.int w)/\q=.inl (Dj a1 G w:Nat)/\d=.int (Dj a2 e w:Nat):=λq d h1 h2=>⟨xi,R,rfl,h1,h2⟩
   have ir:=Oo (p:=M.length) (K:=K) (M:=M1) fl;have dk:=d1 _ fl;have vl:∀d,wg (Z (Bb hs kd (.int xi))) (.inl (Dj a1 G xi:Nat))=some d->∃u:Nat,d=.int u/\u<s2.getD (Bb hs kd (.int xi)) 0:=λd h=>by
    rcases sr _ _ d fl h with h|⟨w,z1,z2,_,rfl⟩
    .refine hG λ_ _k=>?_
     obtain⟨_,y,_,rfl,_,h2,_⟩:=hg.val _ _ d fl h;apply _k;exact⟨y,rfl,h2⟩
    .rw[z2];exact⟨_,rfl,(Ru (M:=M1) m1 w2 z1 he).2⟩
   have one:(∀i,i<K->s2.getD i 0=1)->s2.getD (Bb hs kd (.int xi)) 0=1:=λh=>h _ fl
   have pi:∀j w,j<i+1->(vg hs kd)[j]?=some (.int w)->w=xi\/wg (Z (Bb hs kd (.int w))) (.inl (Dj a1 G w:Nat))=some (.int (Dj a2 e w:Nat)):=λj w h1 h2=>by
    rcases nw j w h1 h2 with z|z
    .exact .inr (ii j w z h2)
    .exact .inl z
   have pz:∀qq,wg (qq (Bb hs kd (.int xi))) (.inl (Dj a1 G xi:Nat))=some (.int (Dj a2 e xi:Nat))->Xj K Z qq->In1 hs kd G e a1 a2 qq (i+1):=λqq h1 h2 j w h3 h4=>by
    rcases pi j w h3 h4 with rfl|z
    .exact h1
    .exact h2 _ _ _ (aaq P hk (au h4)) z
   generalize Bb hs kd (.int xi)=far at *;generalize Dj a1 G xi=y1 at *;generalize Dj a2 e xi=y2 at *;have gt:=apt (k:=(y1:Int)) (d:=.int (y2:Int)) dk;have ty:=aw1 dk;have st:=apu (k:=(y1:Int)) (d:=.int (y2:Int)) dk (by have:=g1 far fl;lia);obtain⟨u,hu,hn,hv⟩:∃u:Nat,(wg (Z far) (.inl (y1:Int))).getD (.int (y2:Int))=.int u/\u<s2.getD far 0/\∀d,wg (Z far) (.inl (y1:Int))=some d->d=.int u:=by
    cases el:wg (Z far) (.inl (y1:Int)) with
    |none=>exact⟨y2,rfl,q1,λd h=>by cases h⟩
    |some d =>
     obtain⟨u,rfl,h⟩:=vl d el;exact⟨u,rfl,h,λd h=>by cases h;rfl⟩
   rw[hu] at gt
   by_cases cq:u=y2
   .subst cq
    have m2:Xj K Z (upK Z far (Cz (Z far) (.inl (y1:Int)) (.int (u:Int)))):=λj q d hj h=>by
     by_cases z:j=far
     .subst z
      rw[Wu,Rn]
      by_cases zq:q=.inl (y1:Int)
      .subst zq;rw[dh rfl,hv d h]
      .rw[cu zq];exact h
     .rw[aau z];exact h
    refine⟨.next,_,M1.set (M.length+far) (.dK (Cz (Z far) (.inl (y1:Int)) (.int (u:Int)))),by simp[Eh,ee,l1,l2,ir,ty,gt,st],.inl ⟨rfl,⟨some (.int xi),some (.int far),some (.int y1),some (.int u),rfl⟩,λa o h=>?_,upK Z far (Cz (Z far) (.inl (y1:Int)) (.int (u:Int))),λj hj=>?_,λj hj=>?_,λj q d hj h=>m2 j q d hj (mo j q d hj h),λj q d hj h=>?_,pz _ (by rw[Wu,Rn,dh rfl]) m2⟩⟩
    .rw[uh (by have:=zr h;exact i_ (b_ this x_))];exact k1 a o h
    .by_cases z:j=far
     .subst z
      rw[Wu,wj dk]
     .rw[aau z,uh (by lia)];exact d1 j hj
    .by_cases z:j=far
     .subst z
      rw[Wu];have:=ah0 (Z j) (.inl (y1:Int)) (.int (u:Int));have:=g1 j fl
      lia
     .rw[aau z]
      have:=g1 j hj;exact a_ this (w_ x_)
    .by_cases z:j=far
     .subst z
      rw[Wu,Rn] at h
      by_cases zq:q=.inl (y1:Int)
      .rw[dh zq] at h;cases h
       exact .inr (so q _ zq rfl)
      .rw[cu zq] at h;exact sr j q d hj h
     .rw[aau z] at h;exact sr j q d hj h
   .have q2:¬((u:Int)=(y2:Int)):=by lia
    exact⟨.ret .non,_,M1,by simp[Eh,ee,l1,l2,ir,ty,gt,q2];rfl,.inr ⟨_,rfl,⟨rfl,λh=>by have:=one h;lia⟩,k1⟩⟩)
 rcases qv with⟨_,q3,M',e2,⟨rfl,⟨b8,b9,qk,K3,rfl⟩,kk,Z,d1,g1,mo,sr,ii⟩|⟨_,rfl,⟨rfl,no⟩,kk⟩⟩
 .have e2:Im.den (PW (m-1)) _ _=_:=e2
  refine⟨_,M',by simp[Fn.run,K1,Kz,e0,e2],kk,.inr ⟨Z,rfl,d1,ap4 P w1 w2 hg hk ht he (λi hi=>by have:=g1 i hi;exact a_ this (w_ wl)) mo sr ii,mo,?_⟩⟩;have:=ii 0 (-1) (by simp[vg]) (by simp[vg]);simp[Bb,Dj] at this;rw[this];rfl
 .have e2:Im.den (PW (m-1)) _ _=_:=e2
  exact⟨_,M',by simp[Fn.run,K1,Kz,e0,e2],kk,.inl ⟨rfl,no⟩⟩
end
noncomputable def avh(n:Int):Int:=if 1<n then n else 1
def avi(h:n<1073741824):0<avh n/\avh n<1073741824:=by unfold avh;split<;>omega
def max_1(M:dg)(n:Int):qm .max [.int 1,.int n] M=.ok (.int (avh n)) M:=rfl
noncomputable abbrev ET(t:Nat)(pt w1 w2 kn:D)(b5 b6 b7 b8 b9:Option D):Env:=[some (.ref t),some pt,some w1,some w2,some kn,b5,b6,b7,b8,b9]
section
variable{m t:Nat}{f0:Bool}{M:dg}{sz:Nat->Nat}{K r p c:Nat}{hs:List F}{jn:List (List Kx×D)}{s1 s2:Y2}{a1 a2:List (List Nat)}{f:Nat->List (Kx×D)}
def akc(qq:ρ.length=10)(he:(Ex.ix (.v 1) (.i 0)).den W ρ M=.ok (.int K) M)(hK:K<=100000) :
 Ek.den W ρ M=.ok (.vl (lz M.length K)) (M++List.replicate K (.dK [])):=by
 obtain⟨ys,Z,g,R,h2⟩:=Ks (v:=true) (k:=1) (t:=.name 10) (e:=.Za) he hK (λi G Z=>G=lz M.length i/\Z=M++List.replicate i (.dK [])) ⟨rfl,by simp⟩
  (λi G Z hi hI=>by
   obtain⟨rfl,rfl⟩:=hI;refine⟨_,.ref (M.length+i),M++List.replicate i (MO.dK [])++[MO.dK []],rfl,by simp[MW.new],?_,?_⟩
   .simp[lz,xg]
   .simp[List.replicate_succ'])
 have g:Ek.den W ρ M=_:=g;rw[g,R,h2];rfl
structure Kn(t:Nat)(f0:Bool)(M:dg)(K p c:Nat)(hs:List F)(s1 s2:Y2)(a1 a2:List (List Nat))(f:Nat->List (Kx×D))(M':dg):Prop where
 st:St t f0 M M'
 tp:t<p
 ds:DS p K f M'
 gd:Gd K c hs s1 s2 a1 a2 f
def Kn.keep(h:Kn t f0 M K p c hs s1 s2 a1 a2 f G)(k:zc G M2):Kn t f0 M K p c hs s1 s2 a1 a2 f M2:=⟨h.st.trans (St.of h.st.has k),h.tp,λi Z=>k _ _ (h.ds i Z),h.gd⟩
def Kn.go(h:Kn t f0 M K p c hs s1 s2 a1 a2 f G)(k:St t f0 G M2):Kn t f0 M K p c hs s1 s2 a1 a2 f M2:=⟨h.st.trans k,h.tp,λi Z=>k.keep _ _ (by have:=h.tp;exact i_ (b_ this x_)) (h.ds i Z),h.gd⟩
def Kn.up(h:Kn t f0 M K p c hs s1 s2 a1 a2 f M1)(l:c<=G):Kn t f0 M K p G hs s1 s2 a1 a2 f M1:=⟨h.st,h.tp,h.ds,λi Z=>a_ (h.gd.len i Z) l,h.gd.val⟩
def ap6(hm:3<=m)(P:Ua sz K hs jn)(w1:Yv K hs s1 a1)(w2:Yv K hs s2 a2)(h:Kn t f0 M K p c hs s1 s2 a1 a2 f M1)(hc:c<=900)(hk:kd<K)(ht:th<s1.getD kd 0) :
 Goes (λ_ ρ M'=>∃c7 c8 c9 R G,ρ=ET t (rz K r hs) (jq s1 a1) (jq s2 a2) (.vl (lz R K)) (some (.int kd)) (some (.int th)) c7 c8 c9/\Kn t f0 M K R (c+6) hs s1 s2 a1 a2 G M'/\Xj K f G/\(wg (G kd) (.inl (th:Int))).isSome=true)
  (λv M'=>(v=.non/\¬∀i,i<K->s2.getD i 0=1)/\St t f0 M M') 0 (Am.den (PW m) (ET t (rz K r hs) (jq s1 a1) (jq s2 a2) (.vl (lz p K)) (some (.int kd)) (some (.int th)) b7 b8 b9) M1):=by
 have ir:=Oo (p:=p) (K:=K) (M:=M1) hk;have dk:=h.ds kd hk;have qq:Qp M1 (.int th) (.ref (p+kd))=some (wg (f kd) (.inl (th:Int))).isSome:=by simp[Qp,dk]
 cases c0:(wg (f kd) (.inl (th:Int))).isSome with
 |true =>
  rw[c0] at qq;exact⟨.next,_,M1,by simp[Am,ir,qq],.inl ⟨rfl,b7,b8,b9,p,f,rfl,h.up x_,λ_ _ _ _ h=>h,c0⟩⟩
 |false =>
  rw[c0] at qq;refine hG λ_ _k=>?_
  have j3:=Pn (l:=s2) (i:=kd) (M:=M1) (by rw[w2.ls];exact hk);have qk:=w2.s7 kd;obtain⟨q1,q2⟩:=avi (n:=(s2.getD kd 0:Nat)) (m_ (c_ qk (by decide)));obtain⟨v,M2,e2,l2,q0,n2⟩:=Br (m:=m) (a_ (by decide) hm) h.st.has q1 q2;have h2:=h.go q0;have j4:=Pn (l:=s2) (i:=kd) (M:=M2) (by rw[w2.ls];exact hk);have one:(∀i,i<K->s2.getD i 0=1)->s2.getD kd 0=1:=λh=>h _ hk
  generalize hB:s2.getD kd 0=B at j3 qk q1 q2 e2 j4 one l2;obtain⟨q3,M3,e3,⟨c9,mo,rfl,h3,qv⟩⟩:=zy (W:=(PW m)) (t:=.name 9) (b:=Cq) (it:=.ix (.ix (.v 3) (.i 0)) (.v 5)) (n:=B) (ρ:=ET t (rz K r hs) (jq s1 a1) (jq s2 a2) (.vl (lz p K)) (some (.int kd)) (some (.int th)) (some .non) (some (.int v)) b9) (M:=M2) (M1:=M2) (by simp[Pk,j4]) (a_ qk (by decide))
   (λi ρ M'=>∃b9 mo,ρ=ET t (rz K r hs) (jq s1 a1) (jq s2 a2) (.vl (lz p K)) (some (.int kd)) (some (.int th)) (some mo) (some (.int v)) b9/\Kn t f0 M K p c hs s1 s2 a1 a2 f M'/\((mo=.non/\(0<i->¬∀i,i<K->s2.getD i 0=1))\/∃R G,mo=.vl (lz R K)/\Kn t f0 M K R (c+6) hs s1 s2 a1 a2 G M'/\Xj K f G/\(wg (G kd) (.inl (th:Int))).isSome=true))
   ⟨b9,.non,rfl,h2,.inl ⟨rfl,λh=>absurd h (jr _)⟩⟩
   (λi ρ M3 hi hI=>by
    obtain⟨b9,mo,rfl,k3,qv⟩:=hI;rcases qv with⟨rfl,_⟩|⟨R,G,rfl,z1,z2,z3⟩
    .have j5:=Pn (l:=s2) (i:=kd) (M:=M3) (by rw[w2.ls];exact hk)
     rw[hB] at j5;have md:Ey .mod (.int ((i:Int)+(v:Int))) (.int (B:Int)) M3=.ok (.int (((i+v)%B:Nat):Int)) M3:=by rw[alu _ _ (by lia)];simp
     have lt:(i+v)%B<s2.getD kd 0:=by rw[hB];exact Nat.mod_lt _ (by lia)
     obtain⟨u,M4,e4,k4,h4⟩:=ap5 (m:=m) (M:=M3) (r:=r) (a_ (by decide) hm) P w1 w2 k3.ds k3.gd (a_ hc (by decide)) hk ht lt;generalize(i+v)%B=x at md e4;have Z:Hb .is .non .non M3=some true:=rfl;refine⟨_,.next,_,M4,rfl,by simp[Cq,Z,Pk,j5,md,e4],.inl rfl,some (.int i),u,rfl,k3.keep k4,?_⟩;rcases h4 with⟨rfl,no⟩|⟨G,rfl,d1,g1,mo,pr⟩
     .exact .inl ⟨rfl,λ_=>no⟩
     .exact .inr ⟨M3.length,G,rfl,⟨(k3.keep k4).st,by obtain⟨_,y,_⟩:=k3.st.has;exact zr y,d1,g1⟩,mo,pr⟩
    .have Z:Hb .is (.vl (lz R K)) .non M3=some false:=rfl
     exact⟨_,.next,_,M3,rfl,by simp[Cq,Z],.inl rfl,some (.int i),_,rfl,k3,.inr ⟨R,G,rfl,z1,z2,z3⟩⟩)
  have e3:Jj.den (PW m) _ _=_:=e3;apply _k;rcases qv with⟨rfl,no⟩|⟨R,G,rfl,z1,z2,z3⟩
  .have Z:Hb .is .non .non M3=some true:=rfl
   exact⟨.ret .non,_,M3,by simp[Am,ir,qq,Pk,j3,max_1,e2,e3,Z];rfl,.inr ⟨_,rfl,⟨rfl,λh=>no (by rw[one h];decide) h⟩,h3.st⟩⟩
  .have Z:Hb .is (.vl (lz R K)) .non M3=some false:=rfl
   exact⟨.next,_,M3,by simp[Am,ir,qq,Pk,j3,max_1,e2,e3,Z],.inl ⟨rfl,some (.vl (lz R K)),some (.int v),c9,R,G,rfl,z1,z2,z3⟩⟩
def vf(f:Nat->List (Kx×D))(k x:Nat):Nat:=match wg (f k) (.inl (x:Int)) with|some (.int y)=>y.toNat|_=>0
def Uk(f:Nat->List (Kx×D))(s1:Y2)(K:Nat):List (List Nat):=(List.range K).map λk=>(List.range (s1.getD k 0)).map (vf f k)
def avj(Z:k<K):(Uk f s1 K)[k]?=some ((List.range (s1.getD k 0)).map (vf f k)):=by simp[Uk,Z]
def aw4{x:Nat}(g:Gd K c hs s1 s2 a1 a2 f)(R:k<K)(h:(wg (f k) (.inl (x:Int))).isSome=true):wg (f k) (.inl ((x:Nat):Int))=some (.int (vf f k x:Nat))/\vf f k x<s2.getD k 0:=by
 refine hG λ_ _k=>?_
 obtain⟨d,Z⟩:=jc.mp h;obtain⟨_,y,_,rfl,_,G,_⟩:=g.val k _ d R Z;have:vf f k x=y:=by simp[vf,Z]
 apply _k;rw[this];exact⟨Z,G⟩
def ap7(P:Ua sz K hs jn)(G:Yv K hs s1 a1)(g:Gd K c hs s1 s2 a1 a2 f)(ha:∀k x,k<K->x<s1.getD k 0->(wg (f k) (.inl (x:Int))).isSome=true):Fits s1 s2 (Uk f s1 K) :=
 ⟨by simp[Uk,G.ls],λk js h=>by
  have Z:k<K:=by simpa[Uk] using(aj.mp h).1
  rw[avj Z] at h;cases h;refine⟨by simp,λx R=>?_⟩;obtain⟨y,hy,rfl⟩:=bz.mp R;exact(aw4 g Z (ha k y Z (gw.mp hy))).2⟩
def avk(P:Ua sz K hs jn)(w1:Yv K hs s1 a1)(h:Kn t f0 M K p c hs s1 s2 a1 a2 f M1)(ha:∀k x,k<K->x<s1.getD k 0->(wg (f k) (.inl (x:Int))).isSome=true) :
 Ej.den W (ET t (rz K r hs) (jq s1 a1) w2 (.vl (lz p K)) b5 b6 b7 b8 b9) M1=.ok (.vl ((Uk f s1 K).map xx)) M1:=by
 have h3:=P.k3;unfold Ej;rw[Oq (g:=λk=>xx ((List.range (s1.getD k 0)).map (vf f k))) (ds:=(List.range K).map nD) (aat (by simp[Rm]) (a_ h3 (by decide))) (by simp;exact a_ h3 (by decide)) (λk d hd=>by
  obtain⟨y,Z,rfl,G⟩:=af3 hd;have G:=gw.mp G;have:k=y:=by rw[qx (by simpa using(aj.mp Z).1)] at Z;cases Z;rfl
  subst this;have j2:=Pn (l:=s1) (i:=k) (M:=M1) (by rw[w1.ls];exact G);have R:=w1.s7 k;have qq:=ha k;generalize s1.getD k 0=A at j2 R qq;have ir:=Oo (p:=p) (K:=K) (M:=M1) G;have dk:=h.ds k G;have c1:Ei.den W [D.ref t,rz K r hs,jq s1 a1,some w2,D.vl (lz p K),b5,b6,b7,b8,b9,D.int k] M1=.ok (.vl (((List.range A).map (vf f k)).map nD)) M1:=by
   unfold Ei;rw[Oq (g:=λx=>nD (vf f k x)) (ds:=(List.range A).map nD) (aat (by simp[Pk,j2]) (a_ R (by decide))) (by simp;exact a_ R (by decide)) (λx d hd=>by
    obtain⟨y,Z,rfl,hx⟩:=af3 hd;have hx:=gw.mp hx;have:x=y:=by rw[qx (by simpa using(aj.mp Z).1)] at Z;cases Z;rfl
    subst this;have ix:=(av5 (b:=.int x) dk rfl).trans (aw4 h.gd G (qq x G hx)).1;exact⟨_,rfl,by simp[ir,ix];rfl⟩)]
   simp
  exact⟨_,rfl,by simp[c1,K4];simp[xx]⟩)]
 simp[Uk]
def Xj.some(h:Xj K f G)(Z:i<K)(k:(wg (f i) q).isSome=true):(wg (G i) q).isSome=true:=by obtain⟨d,R⟩:=jc.mp k;rw[h i q d Z R];rfl
def avl(hm:4<=m)(P:Ua sz K hs jn)(hh:Su t f0 M)(w1:Yv K hs s1 a1)(w2:Yv K hs s2 a2) :
 ∃v Z,prog.call m 17 [.ref t,rz K r hs,jq s1 a1,jq s2 a2] M=.ok v Z/\St t f0 M Z/\((v=.non/\¬∀i,i<K->s2.getD i 0=1)\/∃rr,v=rD rr/\Fits s1 s2 rr):=by
 rw[call_of (a_ (by decide) hm) rfl];have h3:=P.k3;have ht:t<M.length:=by obtain⟨_,h,_⟩:=hh;exact zr h
 have e0:=akc (W:=(PW (m-1))) (ρ:=[D.ref t,rz K r hs,jq s1 a1,jq s2 a2,none,none,none,none,none,none]) (M:=M) (K:=K) rfl (by simp[Rm]) (a_ h3 (by decide));have k0:Kn t f0 M K M.length 0 hs s1 s2 a1 a2 (λ_=>[]) (M++List.replicate K (.dK [])):=⟨St.of hh (zc.app _ _),ht,λi hi=>by rw[iu x_];simp[hi],λ_ _=>bf _,λ_ _ _ _ h=>by cases h⟩;have q1:=T5 (W:=(PW (m-1))) (t:=.name 5) (b:=Cr) (it:=.ix (.v 1) (.i 0)) (n:=K) (ρ:=ET t (rz K r hs) (jq s1 a1) (jq s2 a2) (.vl (lz M.length K)) none none none none none) (M:=M++List.replicate K (.dK [])) (M1:=M++List.replicate K (.dK [])) (by simp[Rm]) (a_ h3 (by decide))
  (λkd ρ Z=>∃b5 b6 G b8 R p f,ρ=ET t (rz K r hs) (jq s1 a1) (jq s2 a2) (.vl (lz p K)) b5 b6 G b8 R/\Kn t f0 M K p (42*kd) hs s1 s2 a1 a2 f Z/\∀k x,k<kd->x<s1.getD k 0->(wg (f k) (.inl (x:Int))).isSome=true)
  (λv Z=>(v=.non/\¬∀i,i<K->s2.getD i 0=1)/\St t f0 M Z) ⟨none,none,none,none,none,M.length,_,rfl,k0,by simp⟩
  (λkd ρ M1 hk hI=>by
   refine hG λ_ _k=>?_
   obtain⟨b5,b6,G,b8,R,p,f,rfl,k1,al⟩:=hI;have j2:=Pn (l:=s1) (i:=kd) (M:=M1) (by rw[w1.ls];exact hk);have q3:=w1.s7 kd;apply _k;refine⟨_,rfl,?_⟩;have q0:=T5 (W:=(PW (m-1))) (t:=.name 6) (b:=Am) (it:=.ix (.ix (.v 2) (.i 0)) (.v 5)) (n:=s1.getD kd 0) (ρ:=ET t (rz K r hs) (jq s1 a1) (jq s2 a2) (.vl (lz p K)) (some (.int kd)) b6 G b8 R) (M:=M1) (M1:=M1) (by simp[Pk,j2]) (a_ q3 (by decide))
    (λth ρ Z=>∃b6 G b8 R p f',ρ=ET t (rz K r hs) (jq s1 a1) (jq s2 a2) (.vl (lz p K)) (some (.int kd)) b6 G b8 R/\Kn t f0 M K p (42*kd+6*th) hs s1 s2 a1 a2 f' Z/\Xj K f f'/\∀x,x<th->(wg (f' kd) (.inl (x:Int))).isSome=true)
    (λv Z=>(v=.non/\¬∀i,i<K->s2.getD i 0=1)/\St t f0 M Z) ⟨b6,G,b8,R,p,f,rfl,k1,λ_ _ _ _ h=>h,by simp⟩
    (λth ρ M2 q2 hI=>by
     refine hG λ_ _k=>?_
     obtain⟨b6,G,b8,R,p',f',rfl,k2,mo,pr⟩:=hI;apply _k;refine⟨_,rfl,?_⟩;obtain⟨fl,qk,Z,e,q⟩:=ap6 (m:=m-1) (r:=r) (r_ hm) P w1 w2 k2 (by lia) hk q2 (b7:=G) (b8:=b8) (b9:=R);refine⟨fl,qk,Z,e,?_⟩;rcases q with⟨rfl,c7,c8,c9,p2,f2,rfl,k3,qq,qv⟩|q
     .refine .inl ⟨rfl,some (.int th),c7,c8,c9,p2,f2,rfl,k3,λi q d hi hq=>qq i q d hi (mo i q d hi hq),λx hx=>?_⟩
      by_cases z:x=th
      .rw[z];exact qv
      .exact qq.some hk (pr x (by lia))
     .exact .inr q)
   obtain⟨fl,qk,Z,e,q⟩:=q0;have e:Jk.den (PW (m-1)) _ _=_:=e;rcases q with⟨rfl,c6,c7,c8,c9,p2,f2,rfl,k3,qq,qv⟩|⟨v,rfl,q⟩
   .refine⟨.next,_,Z,by simp[Cr,e],.inl ⟨rfl,some (.int kd),c6,c7,c8,c9,p2,f2,rfl,k3.up (by lia),λk x q4 hx=>?_⟩⟩
    by_cases z:k=kd
    .subst z;exact qv x hx
    .exact qq.some (by lia) (al k x (by lia) hx)
   .exact⟨.ret v,qk,Z,by simp[Cr,e],.inr ⟨v,rfl,q⟩⟩)
 obtain⟨fl,qk,Z,e,q⟩:=q1;have e:Jl.den (PW (m-1)) _ _=_:=e;rcases q with⟨rfl,b5,b6,G,b8,R,p,f,rfl,k1,al⟩|⟨v,rfl,⟨rfl,no⟩,q⟩
 .have e2:=avk (W:=(PW (m-1))) (r:=r) P w1 k1 al (b5:=b5) (b6:=b6) (b7:=G) (b8:=b8) (b9:=R) (w2:=jq s2 a2)
  exact⟨rD (Uk f s1 K),Z,by simp[Fn.run,G3,Gz,e0,e,e2,K4];rfl,k1.st,.inr ⟨_,rfl,ap7 P w1 k1.gd al⟩⟩
 .exact⟨.non,Z,by simp[Fn.run,G3,Gz,e0,e],q,.inl ⟨rfl,no⟩⟩
end
theorem Yz{Z G:Type}(f:Z->G):∀(l:List Z)(i:Nat),(l.map f).eraseIdx i=(l.eraseIdx i).map f
 |[],_=>by simp|a::l,0=>rfl|a::l,i+1=>by simp[List.eraseIdx,Yz f l i]
theorem Hn:∀(l:Y2)(i:Nat)(h:i<l.length),(l[i]::l.eraseIdx i).Perm l
 |a::l,0,_=>by simp
 |a::l,i+1,h=>by
  have:=Hn l i (by simpa using h);simp only[List.getElem_cons_succ,List.eraseIdx_cons_succ];exact(List.Perm.swap _ _ _).trans (this.cons a)
def a1k{l:Y2}(h:M[n]?=some (.lst (l.map nD)))(Z:i<l.length):Ep .pop (.ref n) [.int i] M=.ok (.int (l.getD i 0)) (M.set n (.lst ((l.eraseIdx i).map nD))):=by
 have e:Mi (l.map nD).length (i:Int)=some i:=by simp[Mi,Z]
 simp[Ep,h,Mi,Z,Yz];rfl
def a1l(h:M[n]?=some (.lst ds)):Jo .pop (.ref n) M=true:=by simp[Jo,h]
def ap8(hm:1<=m)(hh:Su t f M){n:Nat}(hn:n<=7)(hl:M[lf]?=some (.lst ((List.range n).map nD)))(R:t<lf) :
 ∃(o:Y2)(Z:dg),G4.den (PW m) [some (.ref t),a1,a2,some (.int n),some (.ref lf)] M=.ok (.vl (o.map nD)) Z/\o.Perm (List.range n)/\Gs t f lf M Z/\Z.length=M.length:=by
 unfold G4;refine hG λ_ _k=>?_
 obtain⟨ys,Z,e,o,lt,r1,r2,r3,r4,r5,r6⟩:=Ks (W:=(PW m)) (v:=true) (k:=1) (t:=.name 5) (it:=.v 3) (e:=.bm .pop (.v 4) (.o (.call 2 (.p (.v 0) (.l (.v 4)))))) (ρ:=[D.ref t,a1,a2,D.int n,D.ref lf]) (M:=M) (M1:=M) (n:=n) (by simp) (a_ hn (by decide))
  (λi xs Z=>∃(o lt:Y2),xs=o.map nD/\o.length=i/\Z[lf]?=some (.lst (lt.map nD))/\(o++lt).Perm (List.range n)/\Gs t f lf M Z/\Z.length=M.length) ⟨[],List.range n,rfl,rfl,hl,by simp,Gs.refl hh,rfl⟩
  (λi xs M1 hi hI=>by
   refine hG λ_ _k=>?_
   obtain⟨o,lt,rfl,q1,q2,q3,q4,q5⟩:=hI;apply _k;have G:o.length+lt.length=n:=by have:=q3.length_eq;simpa using this
   have ln:=len_list (o6 q2);simp only[gf] at ln;obtain⟨v,M2,e1,l1,s1,n1⟩:=Br (many:=lt.length) hm q4.has (by lia) (by lia);have hv:v<lt.length:=o_ l1
   have g2:=s1.keep _ _ (i_ R) q2;have po:=a1k g2 hv;refine⟨_,.int (lt.getD v 0),M2.set lf (.lst ((lt.eraseIdx v).map nD)),rfl,?_,o++[lt.getD v 0],lt.eraseIdx v,by simp[nD],by simp[q1],wj g2,?_,q4.trans ((Gs.Yu s1).trans (Gs.afx s1.has (Xg.set (bf _)) R (by simp))),by simp;exact n1.trans q5⟩
   .show(Ex.bm .pop (.v 4) (.o (.call 2 (.p (.v 0) (.l (.v 4)))))).den _ [D.ref t,a1,a2,D.int n,D.ref lf,D.int i] M1=_
    simp[-List.getD_eq_getElem?_getD,a1l q2,ln,e1,po]
   .have e2:lt.getD v 0=lt[v]:=by simp[aq,hv]
    rw[e2,qd];refine List.Perm.trans (List.Perm.append_left o ?_) q3;exact Hn lt v hv)
 apply _k;refine⟨o,Z,by rw[e,r1];rfl,?_,r5,r6⟩;have G:o.length+lt.length=n:=by have:=r4.length_eq;simpa using this
 have:lt=[]:=List.eq_nil_of_length_eq_zero (by lia);rw[this,lg] at r4;exact r4
def Pq(Z:List (List Nat)):D:=.tup (Z.map λo=>.tup (o.map nD))
def akd(hm:2<=m)(hh:Su t f M)(qv:∀x∈sizes,x<=7)(qk:sizes.length<=3) :
 ∃(Z:List (List Nat))(M':dg),prog.call m 18 [.ref t,jq sizes acts] M=.ok (Pq Z) M'/\Z.length=sizes.length/\(∀(i:Nat)(o:Y2),Z[i]?=some o->o.Perm (List.range (sizes.getD i 0)))/\St t f M M':=by
 rw[call_of (a_ (by decide) hm) rfl];have ht:t<M.length:=by obtain⟨n,h,_⟩:=hh;exact zr h
 refine hG λ_ _k=>?_
 obtain⟨q7,M',e,⟨b3,b4,rfl⟩,Z,r1,r2,r3,r4⟩:=abg (W:=(PW (m-1))) (t:=.name 3) (b:=Dr) (it:=.ix (.v 1) (.i 0)) (ds:=sizes.map nD) (ρ:=[D.ref t,jq sizes acts,D.ref M.length,none,none]) (M:=M++[.lst []]) (M1:=M++[.lst []]) (by simp[jq])
  (λi ρ M'=>(∃b3 b4:Option D,ρ=[some (.ref t),some (jq sizes acts),some (.ref M.length),b3,b4])/\∃Z:List (List Nat),M'[M.length]?=some (.lst (Z.map λo=>.tup (o.map nD)))/\Z.length=i/\(∀(i:Nat)(o:Y2),Z[i]?=some o->o.Perm (List.range (sizes.getD i 0)))/\Gs t f M.length M M')
  ⟨⟨none,none,rfl⟩,[],by simp,rfl,by simp,Gs.app hh (bf _) _⟩
  (λi x ρ G hx hI=>by
   refine hG λ_ _k=>?_
   obtain⟨⟨b3,b4,rfl⟩,Z,q1,q2,q3,q4⟩:=hI;obtain⟨n,hn,rfl⟩:∃n,sizes[i]?=some n/\nD n=x:=by simpa using hx
   have qq:=qv n (au hn);have R:=zr q1;apply _k;have h2:Su t f (G++[.lst ((List.range n).map nD)]):=by obtain⟨k,h,o⟩:=q4.has;exact⟨k,Ab h,o⟩
   obtain⟨o,M2,e2,p2,g2,n2⟩:=ap8 (m:=m-1) (M:=G++[.lst ((List.range n).map nD)]) (n:=n) (lf:=G.length) (r_ hm) h2 qq (by simp) (d_ ht R) (a1:=some (jq sizes acts)) (a2:=some (.ref M.length));have f2:M2[M.length]?=some (.lst (Z.map λo=>.tup (o.map nD))):=g2.low _ _ R (i_ ht) (Ab q1);have q5:i<sizes.length:=(aj.mp hn).1
   have ap:=Hc (d:=.tup (o.map nD)) f2 (by simp;exact c_ (f_ q2) (b_ q5 (a_ qk (by decide))));have n9:n<=100000:=a_ qq (by decide)
   refine⟨_,.next,_,M2.set M.length (.lst ((Z.map λo=>.tup (o.map nD))++[.tup (o.map nD)])),rfl,?_,.inl rfl,⟨some (nD n),some (.ref G.length),rfl⟩,Z++[o],by rw[wj f2];simp,by simp[q2],λi' o' ho=>?_,q4.trans ⟨?_,λa u ha na e=>?_,?_⟩⟩
   .have q6:=e2
    have rg:(List.range n).map (λ(k:Nat)=>D.int (k:Int))=(List.range n).map nD:=rfl;have q0:=Ab (X:=[.lst ((List.range n).map nD)]) q1;show Dr.den (PW (m-1)) [some (.ref t),some (jq sizes acts),some (.ref M.length),some (.int n),b4] G=_;have run:(Ex.Uo (.v 3)).den (PW (m-1)) [some (.ref t),some (jq sizes acts),some (.ref M.length),some (.int n),b4] G=.ok (.ref G.length) (G++[.lst ((List.range n).map nD)]):=by simp[n9,MW.new];intro a _;rfl
    simp[-abb,Dr,run,Hu q0,e2,K4,ap];rfl
   .by_cases z:i'<Z.length
    .rw[dj z] at ho;exact q3 i' o' ho
    .have ze:i'=i:=by have:=(aj.mp ho).1;simp at this;lia
     subst ze;rw[iu (s_ z),q2] at ho;simp at ho;subst ho;simpa[aq,hn] using p2
   .obtain⟨k,h,o⟩:=g2.has
    exact⟨k,by rw[uh (i_ ht)];exact h,o⟩
   .rw[uh (i_ ha)]
    exact g2.low a u (d_ ha R) na (Ab e)
   .simp at n2 ⊢;lia)
 have hl:(sizes.map nD).length=sizes.length:=by simp
 rw[hl] at r2;apply _k;refine⟨Z,M',?_,r2,r3,r4.st⟩;have e':Lx.den (PW (m-1)) _ _=_:=e;simp[Fn.run,O5,O4,MW.new,e',qm,Gg (o6 r1),Pq]
def Tu(G R Z:Y2):List Nat:=(List.range G.length).map λp=>Z.getD (G.getD (Xi R p) 0) 0
def Wv(R:List F)(Z G:List (List Nat)):List (List Nat):=(R.zip Z).map λp=>Tu p.2 (G.getD p.1.a []) (G.getD p.1.b [])
structure Od(sizes:Y2)(os:List (List Nat)):Prop where
 len:os.length=sizes.length
 pm:∀(i:Nat)(o:Y2),os[i]?=some o->o.Perm (List.range (sizes.getD i 0))
def Od.get{Z:Y2}{G:List (List Nat)}(h:Od Z G){i:Nat}(R:i<Z.length):∃o,G[i]?=some o/\G.getD i []=o/\o.Perm (List.range (Z.getD i 0))/\o.length=Z.getD i 0:=by
 have hl:i<G.length:=by rw[h.len];exact R
 have e:G[i]?=some G[i]:=bu hl;have p:=h.pm i _ e;exact⟨_,e,by simp[aq,e],p,by have:=p.length_eq;simpa using this⟩
def a1m(Z:List (List Nat)):Pq Z=.tup (Z.map xx):=rfl
def ap9{G:List F}{Z R:List (List Nat)}(h:Z.length=G.length):(Wv G Z R).length=G.length:=by simp[Wv,h]
def aqa{G:List F}{Z os:List (List Nat)}{i:Nat}{g:F}{R:Y2}(h1:G[i]?=some g)(h2:Z[i]?=some R):(Wv G Z os)[i]?=some (Tu R (os.getD g.a []) (os.getD g.b [])):=by unfold Wv;have e:(G.zip Z)[i]?=some (g,R):=List.getElem?_zip_eq_some.mpr ⟨h1,h2⟩;rw[je,e];rfl
def take_one{Z:Type}{l:List Z}{i:Nat}{x:Z}(h:l[i]?=some x):l.take (i+1)=l.take i++[x]:=by rw[List.take_succ,h];rfl
def Y0{M:dg}{l:Y2}{x:Nat}(h:x∈l):Ep .Hq (xx l) [.int x] M=.ok (.int (Xi l x)) M:=by have:=adn (M:=M) (adu l) (af0 h);unfold xx Xi;simpa[Ep] using this
section
variable{m:Nat}{M:dg}{sz:Nat->Nat}{K n r r':Nat}{hs:List F}{jn:List (List Kx×D)}{sizes:Y2}{acts os:List (List Nat)}
def ake(hm:1<=m)(P:Ua sz K hs jn)(w:Yv K hs sizes acts)(o:Od sizes os) :
 ∃M',prog.call m 19 [rz K r hs,jq sizes acts,Pq os] M=.ok (jq sizes (Wv hs acts os)) M'/\zc M M'/\M.length<=M'.length:=by
 rw[call_of hm rfl];refine hG λ_ _k=>?_
 have hl:=P.len;obtain⟨q6,M',e,⟨b4,b5,b6,b7,b8,b9,rfl⟩,r1,r2,r3⟩:=zy (W:=(PW (m-1))) (t:=.name 4) (b:=G6) (it:=.blt .len (.cons (.ix (.var 0) (.cst (.int 1))) .nil)) (n:=hs.length)
  (ρ:=[rz K r hs,jq sizes acts,Pq os,D.ref M.length,none,none,none,none,none,none]) (M:=M++[.lst []]) (M1:=M++[.lst []]) (by simp[Mg,Sv]) (by omega)
  (λi G M'=>(∃b4 b5 b6 b7 b8 b9:Option D,G=[some (rz K r hs),some (jq sizes acts),some (Pq os),some (.ref M.length),b4,b5,b6,b7,b8,b9])/\M'[M.length]?=some (.lst (((Wv hs acts os).take i).map xx))/\zc M M'/\M.length<M'.length) ⟨⟨none,none,none,none,none,none,rfl⟩,by simp,zc.app _ _,by simp⟩
  (λi G Z hi hI=>by
   refine hG λ_ _k=>?_
   obtain⟨⟨b4,b5,b6,b7,b8,b9,rfl⟩,q1,q2,q3⟩:=hI;have hg:hs[i]?=some hs[i]:=by simp[hi]
   have qq:=au hg;have hj:acts[i]?=some (acts[i]'(by rw[w.la];exact hi)):=bu _;apply _k;generalize acts[i]'(by rw[w.la];exact hi)=js at hj;refine hG λ_ _k=>?_
   obtain⟨k1,k2⟩:=w.ok i _ js hg hj;have ha:=P.ait _ qq;obtain⟨oa,o1,o2,o3,o4⟩:=o.get (i:=hs[i].a) (by rw[w.ls];exact ha);obtain⟨ob,p1,p2,p3,p4⟩:=o.get (i:=hs[i].b) (by rw[w.ls];exact P.Zq _ qq);have h7:sizes.getD hs[i].a 0<=7:=w.sm _ (getD_mem' (by rw[w.ls];exact ha))
   have q4:=Pn (M:=Z++[.lst []]) (l:=sizes) (i:=hs[i].a) (by rw[w.ls];exact ha);apply _k;refine hG λ_ _k=>?_
   obtain⟨q5,M2,e2,⟨c8,c9,rfl⟩,s1,s2,s3⟩:=zy (W:=(PW (m-1))) (t:=.name 8) (b:=G5) (it:=.ix (.ix (.var 1) (.cst (.int 0))) (.var 5)) (n:=js.length)
    (ρ:=[rz K r hs,jq sizes acts,Pq os,D.ref M.length,D.int i,D.int hs[i].a,D.int hs[i].b,D.ref Z.length,b8,b9]) (M:=Z++[.lst []]) (M1:=Z++[.lst []]) (by simp[-List.getD_eq_getElem?_getD,Pk,q4,k1]) (by omega)
    (λt G M'=>(∃b8 b9:Option D,G=[some (rz K r hs),some (jq sizes acts),some (Pq os),some (.ref M.length),some (.int i),some (.int hs[i].a),some (.int hs[i].b),some (.ref Z.length),b8,b9])/\M'[Z.length]?=some (.lst (((Tu js oa ob).take t).map nD))/\zc Z M'/\M'.length=Z.length+1) ⟨⟨b8,b9,rfl⟩,by simp,zc.app _ _,by simp⟩
    (λR G M2 q0 hI=>by
     obtain⟨⟨c8,c9,rfl⟩,t1,t2,t3⟩:=hI;have qk:R∈oa:=o3.mem_iff.mpr (gw.mpr (by omega));have q7:=Tq qk;have i1:=Y0 (M:=M2) qk;have i2:=Pn (M:=M2) (l:=js) (i:=Xi oa R) (by omega);have hy:js.getD (Xi oa R) 0<ob.length:=by rw[p4];exact k2 _ (getD_mem' (by omega))
     have i3:=Pn (M:=M2) (l:=ob) (i:=js.getD (Xi oa R) 0) hy;have er:(Tu js oa ob)[R]?=some (ob.getD (js.getD (Xi oa R) 0) 0):=by simp[Tu,q0]
     generalize Xi oa R=x at i1 i2 i3 er;generalize js.getD x 0=y at i2 i3 er;generalize ob.getD y 0=z at i3 er;have ap:=Hc (d:=.int z) t1 (by simp[Tu];omega);refine⟨_,.next,_,M2.set Z.length (.lst (((Tu js oa ob).take R).map nD++[.int z])),rfl,?_,.inl rfl,⟨some (.int R),some (.int x),rfl⟩,?_,λa u q=>?_,by simp[t3]⟩
     .have bt:Jo .Hq (xx oa) M2=true:=rfl
      simp[G5,a1m,ah5 o1,bt,i1,Hu t1,ah5 p1,aw3,ah5 hj,i2,i3,ap]
     .rw[wj t1,take_one er];simp[nD]
     .rw[uh (by have:=zr q;omega)];exact t2 a u q)
   apply _k;have er:(Tu js oa ob).take js.length=Tu js oa ob:=by rw[List.take_of_length_le];simp[Tu]
   rw[er] at s1;have f2:=s2 _ _ q1;have ap:=Hc (d:=xx (Tu js oa ob)) f2 (by simp;omega);have tp:qm .tuple [.ref Z.length] M2=.ok (xx (Tu js oa ob)) M2:=by simp[qm,Gg (o6 s1),xx]
   have pe:∀G,(Tg.names [5,6]).put (eD hs[i]) G=some ((G.set 5 (some (.int hs[i].a))).set 6 (some (.int hs[i].b))):=λ_=>rfl
   have qv:Ly.den (PW (m-1)) _ _=_:=e2;refine⟨_,.next,_,M2.set M.length (.lst (((Wv hs acts os).take i).map xx++[xx (Tu js oa ob)])),rfl,?_,.inl rfl,⟨some (.int i),some (.int hs[i].a),some (.int hs[i].b),some (.ref Z.length),c8,c9,rfl⟩,?_,λa u q=>?_,by simp;omega⟩
   .simp[G6,Mg,Xx hg,pe,MW.new,qv,Hu f2,tp,ap]
   .rw[wj f2,take_one (aqa (os:=os) hg hj),o2,p2];simp
   .rw[uh (by have:=zr q;omega)];exact s2 _ _ (q2 a u q))
 have el:hs.length=(Wv hs acts os).length:=by rw[ap9 w.la]
 rw[el,List.take_length] at r1;apply _k;refine⟨M',?_,r2,by omega⟩;have e':Lz.den (PW (m-1)) _ _=_:=e;have tp:qm .tuple [.ref M.length] M'=.ok (.tup ((Wv hs acts os).map xx)) M':=by simp[qm,Gg (o6 r1)]
 simp[Fn.run,O7,O6,MW.new,e',Pk,tp];rfl
end
noncomputable def il(l:Y2):List Int:=l.map λ(x:Nat)=>(x:Int)
def dl(l:Y2):Nat:=(ug (il l)).length
def a1n{x:Int}{S:X9}(h:S.Pairwise (·<=·)):(insI x S).Pairwise (·<=·):=by
 induction S with
 |nil=>simp[insI]
 |cons y r ih =>
  obtain⟨G,R⟩:=t8.mp h;unfold insI;split
  .refine t8.mpr ⟨λz Z=>?_,h⟩
   rcases cj.mp Z with e|e
   .rw[e];lia
   .have:=G z e;lia
  .refine t8.mpr ⟨λz Z=>?_,ih R⟩
   rcases Rp.mp Z with e|e
   .rw[e];lia
   .exact G z e
def avm(S:X9):(sortI S).Pairwise (·<=·):=by
 induction S with
 |nil=>simp[sortI]|cons y r Z=>exact a1n Z
def avn(S:X9)(a:Int)(h:S.Pairwise (· < ·))(R:∀x∈S,a<=x/\x<a+S.length):S=(List.range S.length).map λ(k:Nat)=>a+k:=by
 induction S generalizing a with
 |nil=>rfl
 |cons x r ih =>
  obtain⟨Z,h2⟩:=t8.mp h;have hx:=R x (by simp);have e:=ih (a+1) h2 (λy G=>by
   have:=R y (by simp[G]);have:=Z y G;simp at *
   lia)
  have ex:x=a:=by
   cases r with
   |nil=>simp at hx;lia
   |cons y q =>
    have:=Z y (by simp);have e0:y=a+1:=by have:=ql (·[0]?) e;simpa[List.range_succ_eq_map] using this
    lia
  rw[ex,jw,List.range_succ_eq_map,iz,yt]
  congr 1
  .simp
  .rw[e,gf,List.length_range]
   apply ph;intro k _
   simp;lia
def adx{l:Y2}{n:Nat}(hl:∀x∈l,x<n):sortI (ug (il l))=(List.range n).map (λ(k:Nat)=>(k:Int))↔dl l=n:=by
 constructor
 .intro h
  have:=ql List.length h;rw[Km] at this;simpa[dl] using this
 .intro h
  have hn:=Wr (Rq (il l));have hp:(sortI (ug (il l))).Pairwise (· < ·):=by
   refine(List.pairwise_and_iff.mpr ⟨avm _,hn⟩).imp ?_;intro a b G;have:a≠b:=G.2;have:=G.1
   lia
  have Z:(sortI (ug (il l))).length=n:=by rw[Km];exact h
  have:=avn _ 0 hp (λx R=>by
   rw[Dh,Di] at R;obtain⟨y,hy,rfl⟩:=bz.mp R;have:=hl y hy;rw[Z]
   lia)
  rw[Z] at this;rw[this];apply ph;intro k _;lia
def a1o{l:Y2}{n:Nat}(Z:∀x∈l,x<n)(h:dl l=n){x:Nat}(G:x<n):x∈l:=by
 have e:=(adx Z).mpr h;have:(x:Int)∈sortI (ug (il l)):=by rw[e];exact bz.mpr ⟨x,gw.mpr G,rfl⟩
 rw[Dh,Di] at this;obtain⟨y,R,e⟩:=bz.mp this;have:y=x:=by lia
 rw[<- this];exact R
def a1p{S:X9}(h:(ug S).length=S.length):S.Nodup:=by
 induction S with
 |nil=>simp
 |cons x r Z =>
  have:=Tp r;unfold ug at h;split at h
  .simp at h;lia
  .rename_i G
   simp at h;exact j8.mpr ⟨G,Z h⟩
def a1q{S:X9}(h:S.Nodup):ug S=S:=by
 induction S with
 |nil=>rfl
 |cons x r R =>
  obtain⟨G,Z⟩:=j8.mp h;unfold ug;rw[cu G,R Z]
def aw5{l:Y2}:(il l).Nodup↔l.Nodup:=by
 unfold il
 induction l with
 |nil=>simp
 |cons x r Z =>
  simp[Z];intro _;constructor
  .intro h m
   exact h x m rfl
  .intro h y m e
   have:y=x:=by lia
   exact h (by rw[<- this];exact m)
structure Pm(l:Y2)(n:Nat):Prop where
 nd:l.Nodup
 len:l.length=n
 lt:∀x∈l,x<n
 all:∀x,x<n->x∈l
def a9c{l:Y2}{n:Nat}(R:∀x∈l,x<n)(G:dl l=l.length)(Z:dl l=n):Pm l n :=
 ⟨aw5.mp (a1p (by rw[show(ug (il l)).length=dl l from rfl,G];simp[il])),by rw[<- G,Z],R,λx hx=>a1o R Z hx⟩
theorem Pm.dl(p:Pm l n):K13.dl l=n:=by unfold K13.dl;rw[a1q (aw5.mpr p.nd)];simp[il,p.len]
def inv(l:Y2):List Nat:=(List.range l.length).map (Xi l)
def ah6(l:Y2):(inv l).length=l.length:=by simp[inv]
def Ww(p:Pm l n){i:Nat}(Z:i<n):Xi l (l.getD i 0)=i:=Yx p.nd (by rw[p.len];exact Z)
def avo(p:Pm l n){x:Nat}(Z:x<n):(inv l).getD x 0=Xi l x:=by simp[inv,aq,p.len,Z]
theorem Pm.inv(p:Pm l n):Pm (inv l) n:=by
 refine⟨?_,by rw[ah6,p.len],λx Z=>?_,λx Z=>?_⟩
 .unfold K13.inv
  rw[j9,za];have nr:(List.range l.length).Pairwise (·≠·):=List.nodup_range;refine List.Pairwise.imp_of_mem (fun{a b} G R hab e=>hab ?_) nr;have G:=p.all a (by rw[<- p.len];exact gw.mp G);have R:=p.all b (by rw[<- p.len];exact gw.mp R);rw[<- Rr G,<- Rr R,e]
 .obtain⟨y,hy,rfl⟩:=bz.mp Z
  rw[<- p.len];exact Tq (p.all y (by rw[<- p.len];exact gw.mp hy))
 .exact bz.mpr ⟨l.getD x 0,gw.mpr (by rw[p.len];exact p.lt _ (getD_mem' (by rw[p.len];exact Z))),Ww p Z⟩
def inv_inv(p:Pm l n):inv (inv l)=l:=by
 apply List.ext_getElem
 .simp[inv]
 .intro x h1 Z
  have R:x<n:=by rw[<- p.len];exact Z
  have e:l[x]=l.getD x 0:=by simp[aq,Z]
  have hm:l.getD x 0∈l:=getD_mem' Z;have G:=p.lt _ hm;have:Xi (inv l) x=l.getD x 0:=by have q:=Ww p.inv G;rw[avo p G,Ww p R] at q;exact q
  rw[e,<- this];simp[inv]
def af4{l:Y2}(h:l.length<=7):qm .Gn [xx l] M=.ok (.int (dl l)) M:=by show Res.vo (((yd M (xx l)).bind Uq).bind λis=>if is.length<31 then some (D.int ((ug is).length:Nat)) else none) M=_;rw[show yd M (xx l)=some (l.map nD) from rfl,qu,Vd,qu,dh (by simp;lia)];rfl
def sn(l:Y2):List Nat:=(sortI (ug (il l))).map Int.toNat
def aqb{l:Y2}(h:l.length<=7):qm .De [xx l] M=.ok (.vl ((sn l).map nD)) M:=by
 show Res.vo (((yd M (xx l)).bind Uq).bind λis=>if is.length<31 then some (D.vl ((sortI (ug is)).map D.int)) else none) M=_;rw[show yd M (xx l)=some (l.map nD) from rfl,qu,Vd,qu,dh (by simp;lia)];have:(sn l).map nD=(sortI (ug (il l))).map D.int:=by unfold sn;rw[yt];apply ph;intro y Z;rw[Dh,Di] at Z;obtain⟨z,_,rfl⟩:=bz.mp Z;simp[nD]
 rw[this];rfl
def a1r{l:Y2}{n:Nat}(Z:∀x∈l,x<n):sn l=List.range n↔dl l=n:=by
 constructor
 .intro h
  have:=ql List.length h;simpa[sn,Km,dl] using this
 .intro h
  unfold sn;rw[(adx Z).mpr h,yt];have:(Int.toNat ∘ λ(k:Nat)=>(k:Int))=id:=by funext k;simp
  rw[this,List.map_id]
def Sm(Z:List (List Nat)):Prop:=Z.length<=3/\∀i,(Z.getD i []).length<=7
noncomputable def Hj(q:Nat->Bool)(n:Nat):Bool:=(List.range n).all q
def Y4:Hj q (n+1)=(Hj q n&&q n):=by simp[Hj,xg]
def Rv:Hj q n=true↔∀i,i<n->q i=true:=by simp[Hj]
def ady(q:Nat->Bool)(l:Y2):allB (l.map λi=>.bl (q i))=some (l.all q):=by
 induction l with
 |nil=>rfl|cons a l Z=>rw[iz,allB,Z];rfl
def qa(Z:List (List Nat))(i:Nat):Bool:=decide (dl (Z.getD i [])=(Z.getD i []).length)
def qo(Z:List (List Nat))(s:Y2)(i:Nat):Bool:=decide (dl (Z.getD i [])=s.getD i 0)
def af5{Z:List (List Nat)}{i:Nat}{d:D}(h:(Z.map xx)[i]?=some d):d=xx (Z.getD i [])/\i<Z.length:=by rw[je] at h;obtain⟨y,G,rfl⟩:=bw.mp h;exact⟨by rw[Hi G],(aj.mp G).1⟩
section
variable{rr:List (List Nat)}{s s1 s2:Y2}{a1 a2:List (List Nat)}{m:Nat}{M:dg}
def Wx(hm:1<=m)(Z:Sm rr):prog.call m 9 [rD rr] M=.ok (.bl (Hj (qa rr) rr.length)) M:=by
 rw[call_of hm rfl];have c:Ky.den (PW (m-1)) [some (rD rr)] M=.ok (.vl ((List.range rr.length).map λi=>.bl (qa rr i))) M:=by unfold Ky;refine(Oq (ds:=rr.map xx) (g:=λi=>.bl (qa rr i)) rfl (by have:=Z.1;simp;lia) λi d hd=>?_).trans (by rw[gf]);obtain⟨rfl,hi⟩:=af5 hd;refine⟨_,rfl,?_⟩;have:=af4 (M:=M) (Z.2 i);have R:=af2 M (rr.getD i []);simp[-List.getD_eq_getElem?_getD,this,R,Hb,Qj,qa];exact Int.natCast_inj
 have G:qm .all [.vl ((List.range rr.length).map λi=>.bl (qa rr i))] M=.ok (.bl (Hj (qa rr) rr.length)) M:=by show Res.vo ((allB _).map D.bl) M=_;rw[ady];rfl
 simp[Fn.run,Vp,Vo,c,G]
def aaw(hm:1<=m)(Z:Sm rr)(R:s.length=rr.length):prog.call m 10 [jq s a1,rD rr] M=.ok (.bl (Hj (qo rr s) rr.length)) M:=by
 rw[call_of hm rfl];have c:Nb.den (PW (m-1)) [some (jq s a1),some (rD rr)] M=.ok (.vl ((List.range rr.length).map λi=>.bl (qo rr s i))) M:=by
  unfold Nb;refine(Oq (ds:=Ms [rr.map xx,s.map nD] rr.length) (g:=λi=>.bl (qo rr s i)) ?_ (by have:=Z.1;simp[Ms];lia) λi d hd=>?_).trans (by rw[show(Ms [rr.map xx,s.map nD] rr.length).length=rr.length by simp[Ms]])
  .simp[Pk,rD,xx,Py,R]
  obtain⟨G,rfl⟩:=zip_get hd;refine⟨_,rfl,?_⟩;have e1:(rr.map xx).getD i .non=xx (rr.getD i []):=by simp[aq,G]
  have e2:(s.map nD).getD i .non=.int (s.getD i 0):=by simp[aq,R,G,nD]
  have:=af4 (M:=M) (Z.2 i);simp only[iz,List.map_nil,e1,e2];simp[-List.getD_eq_getElem?_getD,this,Hb,Qj,qo];exact Int.natCast_inj
 have al:qm .all [.vl ((List.range rr.length).map λi=>.bl (qo rr s i))] M=.ok (.bl (Hj (qo rr s) rr.length)) M:=by show Res.vo ((allB _).map D.bl) M=_;rw[ady];rfl
 simp[Fn.run,Xv,Xu,c,al]
end
def aax{W:Gf}{ρ:Env}{M:dg}{it e:Ex}{ds:List D}(qk:it.den W ρ M=.ok (.tup ds) M)(hn:ds.length<=100000)(I:Nat->List D->dg->Prop)(h0:I 0 [] M)(step:∀i y R M,ds[i]?=some y->I i R M->∃Z x M',t.put y (ρ++List.replicate k none)=some Z/\e.den W Z M=.ok x M'/\I (i+1) (R++[x]) M') :
 ∃G M',(Ex.comp true k t (.val it) e).den W ρ M=.ok (.vl G) M'/\I ds.length G M':=by
 rw[Hk,Ji,qk];obtain⟨G,M',e1,h⟩:=Gh (fin:=(Src.con ds).fin) (item:=(Src.con ds).item) (body:=λd M=>(Res.vo (t.put d (ρ++List.replicate k none)) M).bind λqq M=>(e.den W qq M).bind λx M'=>.ok (some x) M') I (n:=ds.length) (λi R M' hi h1=>by
  obtain⟨Z,x,M2,a,b,c⟩:=step i ds[i] R M' (by simp[hi]) h1;exact⟨_,some x,M2,by simp[Src.item,hi];rfl,by rw[a];simp[b],by simpa using c⟩) (λ_ _ _=>rfl) ds.length 0 [] M (q9 _) h0
 refine⟨G,M',?_,h⟩;show(zp (.con ds) _ M).bind _=_;rw[zp,show(Src.con ds).len=ds.length from rfl,dh hn,e1];rfl
section
variable{rr:List (List Nat)}{l s s1 s2:Y2}{a1 a2:List (List Nat)}{m n:Nat}{M:dg}
def aqc{l:Y2}:(l.set i v).getD j 0=if i=j/\j<l.length then v else l.getD j 0:=by
 simp only[aq,List.getElem?_set]
 by_cases h:i=j
 .subst h
  by_cases z:i<l.length<;>simp[z]
 .simp[h]
def avp(hm:1<=m)(p:Pm l n)(hn:n<=7):∃M',prog.call m 12 [xx l] M=.ok (xx (inv l)) M'/\zc M M':=by
 rw[call_of hm rfl];refine hG λ_ _k=>?_
 obtain⟨q0,M',e,⟨b4,b5,rfl⟩,Z,r1,r2,r3,r4⟩:=abh (W:=PW (m-1)) (t:=.names [2,3]) (b:=Ed) (it:=.v 0) (ds:=l.map nD) (ρ:=[xx l,D.ref M.length,none,none]) (M:=M++[.lst (l.map nD)]) (M1:=M++[.lst (l.map nD)]) (by simp[xx])
  (λi ρ M'=>(∃b4 b5:Option D,ρ=[some (xx l),some (.ref M.length),b4,b5])/\∃Z:List Nat,M'[M.length]?=some (.lst (Z.map nD))/\Z.length=n/\(∀G,G<i->Z.getD (l.getD G 0) 0=G)/\zc M M')
  ⟨⟨none,none,rfl⟩,l,by simp,p.len,λG h=>absurd h (tu _),zc.app _ _⟩
  (λi x ρ M1 hx hI=>by
   refine hG λ_ _k=>?_
   obtain⟨⟨b4,b5,rfl⟩,Z,q1,q2,q3,q4⟩:=hI;obtain⟨y,hy,rfl⟩:∃y,l[i]?=some y/\nD y=x:=by simpa using hx
   have qv:=(aj.mp hy).1;have R:=p.lt y (au hy);have ay:l.getD i 0=y:=Hi hy;have st:=Uz (i:=(y:Int)) (d:=.int i) q1 q_ (by simp[q2];exact R);apply _k;have em:(Z.map nD).set y (D.int (i:Int))=(Z.set y i).map nD:=by rw[List.map_set];rfl
   rw[um,em] at st;refine⟨_,.next,_,M1.set M.length (.lst ((Z.set y i).map nD)),abn _ _ _ _ _,?_,.inl rfl,⟨some (.int i),some (nD y),rfl⟩,Z.set y i,wj q1,by simp[q2],λG W3=>?_,λa o e=>?_⟩
   .show Ed.den (PW (m-1)) [some (xx l),some (.ref M.length),some (.int i),some (.int y)] M1=_
    simp[Ed,st];rfl
   .rw[aqc]
    by_cases z:G=i
    .subst z
     rw[ay,dh ⟨rfl,by rw[q2];exact R⟩]
    .have qq:G<i:=by lia
     rw[cu (λw=>z ?_)]
     .exact q3 G qq
     .have w:=w.1
      rw[<- Ww p (i:=G) (by have:=p.len;lia),<- Ww p (i:=i) (by have:=p.len;lia),ay,w]
   .rw[uh (by have:=zr e;exact i_ this)];exact q4 a o e)
 have qk:Z=inv l:=by
  apply List.ext_getElem
  .simp[inv,r2,p.len]
  .intro x h1 h2
   have hx:x<n:=by rw[<- r2];exact h1
   have hm:=p.all x hx;have:=r3 (Xi l x) (by simp;exact Tq hm);rw[Rr hm,aq,bu h1] at this;simp[inv] at this ⊢;exact this
 rw[qk] at r1;apply _k;refine⟨M',?_,r4⟩;have e':Nf.den (PW (m-1)) _ _=_:=e;have ls:qm .list [xx l] M=.ok (.ref M.length) (M++[.lst (l.map nD)]):=rfl;have tp:qm .tuple [.ref M.length] M'=.ok (xx (inv l)) M':=by simp[qm,Gg (o6 r1),xx]
 simp[Fn.run,Qt,Qs,ls,e',tp]
def Bk(rr:List (List Nat))(s:Y2):Prop:=∀i,i<rr.length->Pm (rr.getD i []) (s.getD i 0)
def ah7(hm:2<=m)(R:Sm rr)(hl:s.length=rr.length)(hb:Bk rr s):∃M',prog.call m 11 [jq s a1,rD rr] M=.ok (rD (rr.map inv)) M'/\zc M M':=by
 rw[call_of (a_ (by decide) hm) rfl];have A:Hj (qa rr) rr.length=true:=Rv.mpr λi Z=>by have:=hb i Z;simp only[qa,this.dl,this.len,decide_true]
 have O:Hj (qo rr s) rr.length=true:=Rv.mpr λi Z=>by have:=hb i Z;simp only[qo,this.dl,decide_true]
 have e1:=Wx (m:=m-1) (M:=M) (r_ hm) R;have e2:=aaw (m:=m-1) (M:=M) (a1:=a1) (r_ hm) R hl;rw[A] at e1;rw[O] at e2;obtain⟨ys,M',G,rfl,k⟩:=aax (W:=PW (m-1)) (t:=.name 2) (k:=1) (it:=.v 1) (e:=.call 12 (.o (.v 2))) (ρ:=[some (jq s a1),some (rD rr)]) (M:=M) (ds:=rr.map xx) rfl (by have:=R.1;simp;lia)
  (λi xs M'=>xs=((rr.take i).map inv).map xx/\zc M M') ⟨by simp,zc.refl _⟩ (λi y xs M1 hy hI=>by
   obtain⟨rfl,k1⟩:=hI;obtain⟨rfl,Z⟩:=af5 hy;have h7:=R.2 i;have pm:=hb i Z;obtain⟨M2,e,k2⟩:=avp (m:=m-1) (M:=M1) (r_ hm) pm (by rw[<- pm.len];exact h7);refine⟨_,xx (inv (rr.getD i [])),M2,rfl,?_,?_,k1.trans k2⟩
   .show(Ex.call 12 (.o (.v 2))).den (PW (m-1)) [some (jq s a1),some (rD rr),some (xx (rr.getD i []))] M1=_
    simp[-List.getD_eq_getElem?_getD,e]
   .have:rr[i]?=some (rr.getD i []):=by simp[aq,Z]
    rw[take_one this];simp)
 refine⟨M',?_,k⟩;have G:Lp.den (PW (m-1)) _ _=_:=G;rw[gf,List.take_length] at G;have tp:qm .tuple [.vl ((rr.map inv).map xx)] M'=.ok (rD (rr.map inv)) M':=K4 _ _;simp[-List.map_map,Fn.run,Ga,Fz,e1,e2,G,tp]
def avq(G:2<=m)(R:Sm rr)(hl:s.length=rr.length)(h:(Hj (qa rr) rr.length&&Hj (qo rr s) rr.length)=false):prog.cae m 11 [jq s a1,rD rr] M=some (2,M):=by
 rw[ax0 (a_ (by decide) G) rfl];have Z:=Wx (m:=m-1) (M:=M) (r_ G) R;have e2:=aaw (m:=m-1) (M:=M) (a1:=a1) (r_ G) R hl;cases A:Hj (qa rr) rr.length with
 |false =>
  rw[A] at Z;simp[Fn.aba,Ga,Fz,Z]
 |true =>
  rw[A] at Z h;simp at h;rw[h] at e2;simp[Fn.aba,Ga,Fz,Z,e2]
def a1s(k:Nat):qm (.isE k) [.ref M.length] (M++[MO.exc c]++X)=.ok (.bl (k==0||c==k)) (M++[MO.exc c]++X):=by
 have:(M++[MO.exc c]++X)[M.length]?=some (.exc c):=by simp
 simp only[qm,Mj,this]
def a1t(G:1<=m):prog.rfd m 2 M=.ok (.vl [.int 1]) (M++[MO.exc 2]):=by
 rw[ax1 G];have e:∀k,qm (.isE k) [.ref M.length] (M++[MO.exc 2])=.ok (.bl (k==0||2==k)) (M++[MO.exc 2]):=λk=>by have:=a1s (M:=M) (c:=2) (X:=[]) k;simpa using this
 have c:Fl.den (PW (m-1)) [none,some (.ref M.length),none,some (.vl [.bl false,.bl true,.bl false,.bl false,.bl false,.bl false])] (M++[MO.exc 2])=.ok (.vl [.int 1]) (M++[MO.exc 2]):=by
  unfold Fl;refine(Mw (n:=6) (q:=λi=>i==1) (g:=λi=>.int (i:Nat)) rfl (by decide) λi Z=>⟨_,rfl,?_,λ_=>rfl⟩).trans rfl
  match i,Z with
  |0,_=>rfl|1,_=>rfl|2,_=>rfl|3,_=>rfl|4,_=>rfl|5,_=>rfl
 have R:Ey .add (.vl [.bl false,.bl true,.bl false]) (.vl [.bl false,.bl false,.bl false]) (M++[MO.exc 2])=.ok (.vl [.bl false,.bl true,.bl false,.bl false,.bl false,.bl false]) (M++[MO.exc 2]):=rfl;show Ir.aim _ _ _=_;simp[Fn.aim,Ir,Nq,e,R,c]
end
def aqd{f:D->D->Option Bool}{l:List D}(h:∀x∈l,f x x=some true):Qn f l l=some true:=by
 induction l with
 |nil=>rfl|cons x l Z=>simp[Qn,h x (by simp),Z λy G=>h y (bx _ G)]
def aw6(M:dg)(r:List (List Nat)):ym M (rD r) (rD r)=some true :=
 aqd (f:=Ko M 5) λx Z=>by obtain⟨l,_,rfl⟩:=bz.mp Z;exact aqd (f:=Ko M 4) λx Z=>by obtain⟨i,_,rfl⟩:=bz.mp Z;simp[Ko,nD]
def a9d{x y:Y2}(h:M[n]?=some (.lst (y.map nD))):ym M (.vl (x.map nD)) (.ref n)=some (decide (x=y)):=by
 show Ko M 6 _ _=_;have a:=o6 h;simp only[Ko,Xr,a,gf];split
 .exact U4 M 4 x y
 .rename_i Z
  have:x≠y:=λz=>Z (by rw[z])
  simp[this]
section
variable{rr:List (List Nat)}{s1 s2:Y2}{a1 a2:List (List Nat)}{m:Nat}{M:dg}
abbrev EL(s1:Y2)(a1:List (List Nat))(s2:Y2)(a2 rr:List (List Nat))(a o:Bool)(b5 b6 b7:Option D):Env:=[some (jq s1 a1),some (jq s2 a2),some (rD rr),some (.bl a),some (.bl o),b5,b6,b7]
def aqe{W:Gf}(hr:Sm rr)(f:Fits s1 s2 rr)(h2:s2.length=s1.length)(h7:∀k,s2.getD k 0<=7){i:Nat}(hi:i<rr.length)(A O:Bool) :
 ∃M',Ci.den W (EL s1 a1 s2 a2 rr A O (some (.int i)) none none) M=.ok (.next,EL s1 a1 s2 a2 rr (A&&qa rr i) (O&&qo rr s2 i) (some (.int i)) none none) M'/\zc M M':=by
 obtain⟨l,hl⟩:=Qk (l:=rr) (i:=i) hi;have e0:rr.getD i []=l:=Hi hl;have sm:=hr.2 i;rw[e0] at sm;have ix:=a89 (M:=M) hl;have d1:=af4 (M:=M) sm;have d2:=af2 M l;have d3:=aqb (M:=M) sm;have qq:i<s2.length:=by rw[h2,<- f.len];exact hi
 have R:=Pn (M:=M) (l:=s2) (i:=i) qq;have Jd:=(f.ok i l hl).2;have n7:=h7 i;generalize hk:s2.getD i 0=k at R Jd n7;have q1:qa rr i=decide (dl l=l.length):=by unfold qa;rw[e0]
 have q2:qo rr s2 i=decide (dl l=k):=by unfold qo;rw[e0,hk]
 have q3:decide (sn l=List.range k)=qo rr s2 i:=by
  rw[q2];have:=a1r Jd
  by_cases z:dl l=k
  .rw[Al z,Al (this.mpr z)]
  .rw[ou z,ou λw=>z (this.mp w)]
 have c1:(Ex.cmp .eq (.blt .Gn (.o (.ix (.v 2) (.v 5)))) (.l (.ix (.v 2) (.v 5)))).den W (EL s1 a1 s2 a2 rr A O (some (.int i)) none none) M=.ok (.bl (qa rr i)) M:=by rw[q1];simp[ix,d1,d2,Hb,Qj];exact Int.natCast_inj
 have G:(Cu.a 3 (.and (.v 3) (.cmp .eq (.blt .Gn (.o (.ix (.v 2) (.v 5)))) (.l (.ix (.v 2) (.v 5)))))).den W (EL s1 a1 s2 a2 rr A O (some (.int i)) none none) M=.ok (.next,EL s1 a1 s2 a2 rr (A&&qa rr i) O (some (.int i)) none none) M:=by
  rw[Vl,alr];cases A with
  |false=>rfl
  |true =>
   show(ifK _ _ (Res.ok (.bl true) M)).bind _=_;rw[av1,c1];rfl
 cases O with
 |false =>
  refine⟨M,?_,zc.refl _⟩;unfold Ci;rw[Kr,G,Jz];rfl
 |true =>
  refine⟨M++[.lst ((List.range k).map nD)],?_,zc.app _ _⟩;have rg:∀Z:Bool,(Ex.Uo (.ix (.ix (.v 1) (.i 0)) (.v 5))).den W (EL s1 a1 s2 a2 rr Z true (some (.int i)) none none) M=.ok (.ref M.length) (M++[.lst ((List.range k).map nD)]):=λZ=>by
   have k9:k<=100000:=by lia
   simp[Pk,R,k9,MW.new];intro a _;rfl
  have ev:=a9d (M:=M++[.lst ((List.range k).map nD)]) (n:=M.length) (x:=sn l) (y:=List.range k) (by simp);have c2:∀Z:Bool,(Ex.cmp .eq (.blt .De (.o (.ix (.v 2) (.v 5)))) (.Uo (.ix (.ix (.v 1) (.i 0)) (.v 5)))).den W (EL s1 a1 s2 a2 rr Z true (some (.int i)) none none) M=.ok (.bl (qo rr s2 i)) (M++[.lst ((List.range k).map nD)]):=λZ=>by
   have rg:=rg Z;rw[agg];have e1:(Ex.blt .De (.o (.ix (.v 2) (.v 5)))).den W (EL s1 a1 s2 a2 rr Z true (some (.int i)) none none) M=.ok (.vl ((sn l).map nD)) M:=by simp[ix,d3]
   rw[e1,Res.Cm,rg,Res.Cm];show Res.vo ((ym _ _ _).map D.bl) _=_;rw[ev,q3];rfl
  unfold Ci;rw[Kr,G,Jz,Kr,Vl,alr];show aet _ _ ((ifK _ _ (Res.ok (.bl true) M)).bind _)=_;rw[av1,c2];rfl
def aqf{W:Gf}(R:Sm rr)(f:Fits s1 s2 rr)(h2:s2.length=s1.length)(h7:∀k,s2.getD k 0<=7) :
 ∃Z M',Ma.den W (EL s1 a1 s2 a2 rr true true none none none) M=.ok (.next,EL s1 a1 s2 a2 rr (Hj (qa rr) rr.length) (Hj (qo rr s2) rr.length) Z none none) M'/\zc M M':=by
 obtain⟨qq,M',e,⟨Z,rfl⟩,k⟩:=zy (W:=W) (t:=.name 5) (b:=Ci) (it:=.l (.v 2)) (n:=rr.length) (ρ:=EL s1 a1 s2 a2 rr true true none none none) (M:=M) (M1:=M) (by simp[a1i]) (by have:=R.1;lia)
  (λi G M'=>(∃Z,G=EL s1 a1 s2 a2 rr (Hj (qa rr) i) (Hj (qo rr s2) i) Z none none)/\zc M M') ⟨⟨none,rfl⟩,zc.refl _⟩
  (λi G M1 hi hI=>by
   obtain⟨⟨Z,rfl⟩,k1⟩:=hI;obtain⟨M2,e,k2⟩:=aqe (W:=W) (M:=M1) (a1:=a1) (a2:=a2) R f h2 h7 hi (Hj (qa rr) i) (Hj (qo rr s2) i);exact⟨_,.next,_,M2,rfl,e,.inl rfl,⟨some (.int i),by rw[Y4,Y4]⟩,k1.trans k2⟩)
 exact⟨Z,M',e,k⟩
end
section
variable{rr:List (List Nat)}{s1 s2:Y2}{a1 a2:List (List Nat)}{m:Nat}{M:dg}
def aw7(M:dg)(a o:Bool):ym M (.vl [.bl a,.bl o]) (.vl [.bl a,.bl o])=some true:=by simp[ym,Ko,gm,Qn]
def aqg(b:Bk rr s2):(rr.map inv).map inv=rr:=by
 apply List.ext_getElem
 .simp
 .intro i G Z
  have p:=b i Z;rw[show rr.getD i []=rr[i] by simp[aq,Z]] at p;simp[inv_inv p]
def a1u{W:Gf}{ρ:Env}(Z:ρ.length=8)(h2:ρ[2]?=some (some (rD rr)))(hr:Sm rr)(b:Bk rr s2):G8.den W ρ M=.ok (.vl ((rr.map inv).map xx)) M:=by
 unfold G8;have qq:(Mq.val (.v 2)).den W ρ M=.ok (.con (rr.map xx)) M:=by rw[Ji];show((match ρ[2]? with|some (some d)=>Res.ok d M|_=>.bad).bind _)=_;rw[h2];rfl
 refine(Oq (ds:=rr.map xx) (g:=λi=>xx (inv (rr.getD i []))) qq (by have:=hr.1;simp;lia) λi d hd=>?_).trans ?_
 .obtain⟨rfl,hi⟩:=af5 hd
  have p:=b i hi;have l7:=hr.2 i;refine⟨_,rfl,?_⟩;generalize rr.getD i []=l at p l7;have e8:((ρ++List.replicate 1 none).set 8 (some (xx l)))=ρ++[some (xx l)]:=by rw[List.set_append_right _ _ (by rw[Z];decide),Z];rfl
  rw[e8];have c1:G7.den W (ρ++[some (xx l)]) M=.ok (.vl ((inv l).map nD)) M:=by
   unfold G7;have v8:∀X:Env,(Ex.v 8).den W ((ρ++[some (xx l)])++X) M=.ok (xx l) M:=λX=>by show(match((ρ++[some (xx l)])++X)[8]? with|some (some d)=>Res.ok d M|_=>.bad)=_;rw[dj (by simp[Z]),iu (by rw[Z];decide),Z];rfl
   have R:=v8 [];rw[lg] at R;refine(Oq (ds:=(List.range l.length).map nD) (g:=λx=>nD (Xi l x)) (aat (by rw[Jh,Bl,R];simp[af2]) (by lia)) (by simp;lia) λx d hd=>?_).trans (by simp[inv]);obtain⟨y,G,rfl,hx⟩:=af3 hd;have hx:=gw.mp hx;have:x=y:=by rw[qx (by simpa using(aj.mp G).1)] at G;cases G;rfl
   subst this;refine⟨_,rfl,?_⟩;have e9:(((ρ++[some (xx l)])++List.replicate 1 none).set 9 (some (.int (x:Int))))=(ρ++[some (xx l)])++[some (.int x)]:=by rw[List.set_append_right _ _ (by simp[Z])];simp[Z]
   rw[e9];have v9:(Ex.v 9).den W ((ρ++[some (xx l)])++[some (.int (x:Int))]) M=.ok (.int x) M:=by show(match((ρ++[some (xx l)])++[some (.int (x:Int))])[9]? with|some (some d)=>Res.ok d M|_=>.bad)=_;rw[iu (by simp[Z])];simp[Z]
   rw[aes,v8];simp only[Res.Cm];rw[dh (show Jo .Hq (xx l) M=true from rfl),Bl,v9];have:=Y0 (M:=M) (l:=l) (x:=x) (p.all x (by rw[<- p.len];exact hx));simp[this,nD]
  rw[Jh,Bl,c1];simp[U5];rfl
 .rw[gf]
  congr 2
  apply List.ext_getElem
  .simp
  .intro i G h3
   simp at G;simp[aq,G]
def Tv(hm:3<=m)(R:Sm rr)(f:Fits s1 s2 rr)(h2:s2.length=s1.length)(h7:∀k,s2.getD k 0<=7):∃M',prog.call m 20 [jq s1 a1,jq s2 a2,rD rr] M=.ok (.bl true) M'/\zc M M':=by
 rw[call_of (a_ (by decide) hm) rfl];have hl:s2.length=rr.length:=by rw[h2,f.len]
 obtain⟨b5,M1,e1,k1⟩:=aqf (W:=PW (m-1)) (M:=M) (a1:=a1) (a2:=a2) R f h2 h7;have e9:=Wx (m:=m-1) (M:=M1) (by lia) R;have G:=aaw (m:=m-1) (M:=M1) (a1:=a2) (by lia) R hl;have rf:=λh=>avq (m:=m-1) (M:=M1) (a1:=a2) (by lia) R hl h
 have rd:=a1t (m:=m-1) (M:=M1) (by lia);cases q:(Hj (qa rr) rr.length&&Hj (qo rr s2) rr.length) with
 |false =>
  have rf:=rf q;generalize Hj (qa rr) rr.length=A at e1 e9 q;generalize Hj (qo rr s2) rr.length=O at e1 G q;have eb:=aw7 M1 A O;have eo:ym (M1++[MO.exc 2]) (.vl [.int 1]) (.vl [.int 1])=some true:=by simp[ym,Ko,gm,Qn]
  refine⟨M1++[MO.exc 2],?_,k1.trans (zc.app _ _)⟩;cases A with
  |false=>simp[Fn.run,Ge,Gb,e1,e9,G,Hb,eb,Ak,yd,gm,Mi,qm,Mj,rf,rd,eo]
  |true =>
   simp at q;subst q;simp[Fn.run,Ge,Gb,e1,e9,G,Hb,eb,Ak,yd,gm,Mi,qm,Mj,rf,rd,eo]
 |true =>
  rw[az] at q;have b:Bk rr s2:=λi Z=>by obtain⟨l,h⟩:=Qk (l:=rr) (i:=i) Z;have w1:=Rv.mp q.1 i Z;have w2:=Rv.mp q.2 i Z;unfold qa at w1;unfold qo at w2;refine a9c (λx hx=>?_) (qj w1) (qj w2);rw[Hi h] at hx;exact(f.ok i l h).2 x hx
  rw[q.1] at e1 e9;rw[q.2] at e1 G;obtain⟨M2,qv,k2⟩:=ah7 (m:=m-1) (M:=M1) (a1:=a2) (by lia) R hl b;have sz:∀i,i<rr.length->s2.getD i 0=s1.getD i 0:=λi Z=>by obtain⟨l,h⟩:=Qk (l:=rr) (i:=i) Z;have p:=b i Z;have w:=(f.ok i l h).1;rw[Hi h] at p;rw[<- p.len,w]
  have b2:Bk (rr.map inv) s1:=λi Z=>by
   have Z:i<rr.length:=by simpa using Z
   have p:=(b i Z).inv;rw[sz i Z] at p;rw[show(rr.map inv).getD i []=inv (rr.getD i []) by simp[aq,Z]];exact p
  have qk:Sm (rr.map inv):=⟨by simpa using R.1,λi=>by
   by_cases Z:i<rr.length
   .rw[show(rr.map inv).getD i []=inv (rr.getD i []) by simp[aq,Z],ah6];exact R.2 i
   .rw[show(rr.map inv).getD i []=[] by simp[aq,Z]];simp⟩
  obtain⟨M3,qq,k3⟩:=ah7 (m:=m-1) (M:=M2) (a1:=a1) (rr:=rr.map inv) (by lia) qk (by simp[f.len]) b2;rw[aqg b] at qq;have eb:=aw7 M1 true true;have du:=a1u (W:=PW (m-1)) (M:=M1) (ρ:=EL s1 a1 s2 a2 rr true true b5 (some (.vl [.bl true,.bl true])) none) rfl rfl R b;have tp:qm .tuple [.vl ((rr.map inv).map xx)] M1=.ok (rD (rr.map inv)) M1:=K4 _ _;have it:qm .isTuple [rD (rr.map inv)] M2=.ok (.bl true) M2:=rfl;have q1:=aw6 M2 (rr.map inv);have q2:=aw6 M3 rr;refine⟨M3,?_,(k1.trans k2).trans k3⟩;have i0:∀M:dg,Ak (.vl [.bl true,.bl true]) (.int 0) M=some (.bl true):=λ_=>rfl
  have i1:∀M:dg,Ak (.vl [.bl true,.bl true]) (.int 1) M=some (.bl true):=λ_=>rfl
  have ib:∀M:dg,qm .isBool [.bl true] M=.ok (.bl true) M:=λ_=>rfl
  simp[-List.map_map,Fn.run,Ge,Gb,e1,e9,G,Hb,eb,i0,i1,ib,du,tp,qv,it,q1,qq,q2]
end
section
variable{rr:List (List Nat)}{s1 s2:Y2}{a1 a2:List (List Nat)}{m:Nat}{M:dg}
def aw8(w:Yv K R s1 a1)(G:K<=3)(f:Fits s1 s2 rr):Sm rr:=by
 refine⟨by rw[f.len,w.ls];exact G,λi=>?_⟩
 by_cases Z:i<rr.length
 .obtain⟨l,h⟩:=Qk (l:=rr) (i:=i) Z
  rw[Hi h,(f.ok i l h).1];exact w.s7 i
 .rw[show rr.getD i []=[] by simp[aq,Z]];simp
def avr(o:Od s1 os):Fits s1 s1 os :=
 ⟨o.len,λk Z h=>by
  have p:=o.pm k Z h;exact⟨by have:=p.length_eq;simpa using this,λx G=>by have:=p.mem_iff.mp G;simpa using this⟩⟩
noncomputable abbrev EW(sc st pa:D)(b3 b4 b5 b6 b7:Option D):Env:=[some sc,some st,some pa,b3,b4,b5,b6,b7,none]
def aqh(hm:4<=m)(P:Ua sz K Z jn)(hh:Su t f0 M)(hr:M[r]?=some (.dT jn))(R:r≠t) :
 ∃b4 b5 b6 b7 M',U3.den (PW m) (EW sc (.ref t) (rz K r Z) b3 c4 c5 c6 c7) M=.ok (.next,EW sc (.ref t) (rz K r Z) b3 b4 b5 b6 b7) M'/\St t f0 M M':=by
 refine hG λ_ _k=>?_
 obtain⟨s1,a1,M1,e1,G,t1⟩:=adw (m:=m) (r:=r) (by lia) P hh hr R;obtain⟨s2,a2,M2,e2,w2,t2⟩:=adw (m:=m) (r:=r) (by lia) P t1.has (t1.keep _ _ R hr) R;obtain⟨v,M3,e3,t3,h⟩:=avl (m:=m) (r:=r) hm P t2.has G w2;have k3:=P.k3;have qq:s2.length=s1.length:=by rw[G.ls,w2.ls]
 have look:∃M4,(Cu.f (.and (.cmp .Xo (.v 6) (.cst .non)) (.not (.call 20 (.q (.v 4) (.v 5) (.v 6))))) (.o (.ret (.cst (.bl false))))).den (PW m) (EW sc (.ref t) (rz K r Z) b3 (some (jq s1 a1)) (some (jq s2 a2)) (some v) c7) M3=.ok (.next,EW sc (.ref t) (rz K r Z) b3 (some (jq s1 a1)) (some (jq s2 a2)) (some v) c7) M4/\zc M3 M4:=by
  rcases h with⟨rfl,_⟩|⟨rr,rfl,f⟩
  .exact⟨M3,by simp[Hb,aeq],zc.refl _⟩
  .obtain⟨M4,e,k⟩:=Tv (m:=m) (M:=M3) (a1:=a1) (a2:=a2) (by lia) (aw8 G k3 f) f qq w2.s7
   have i1:aeq (rD rr) .non=some false:=rfl;exact⟨M4,by simp[Hb,i1,e],k⟩
 obtain⟨M4,e4,k4⟩:=look;have t4:=t3.trans (St.of t3.has k4);obtain⟨os,M5,e5,l5,p5,t5⟩:=akd (m:=m) (M:=M4) (sizes:=s1) (acts:=a1) (by lia) t4.has G.sm (by rw[G.ls];exact k3);have od:Od s1 os:=⟨l5,p5⟩;obtain⟨M6,e6,k6,_⟩:=ake (m:=m) (M:=M5) (r:=r) (by lia) P G od;have f:=avr od;obtain⟨M7,e7,k7⟩:=Tv (m:=m) (M:=M6) (a1:=a1) (a2:=Wv Z a1 os) (by lia) (aw8 G k3 f) f rfl G.s7;have e7:prog.call m 20 [jq s1 a1,jq s1 (Wv Z a1 os),Pq os] M6=.ok (.bl true) M7:=e7;apply _k;refine⟨some (jq s1 a1),some (jq s2 a2),some v,some (Pq os),M7,?_,((t1.trans t2).trans (t4.trans t5)).trans (St.of t5.has (k6.trans k7))⟩;unfold U3;rw[Kr,show(Cu.a 4 (.call 14 (.q (.v 1) (.v 2) (.i 3)))).den (PW m) (EW sc (.ref t) (rz K r Z) b3 c4 c5 c6 c7) M=.ok (.next,EW sc (.ref t) (rz K r Z) b3 (some (jq s1 a1)) c5 c6 c7) M1 by simp[e1],Jz,
  Kr,show(Cu.a 5 (.call 14 (.q (.v 1) (.v 2) (.i 3)))).den (PW m) (EW sc (.ref t) (rz K r Z) b3 (some (jq s1 a1)) c5 c6 c7) M1=.ok (.next,EW sc (.ref t) (rz K r Z) b3 (some (jq s1 a1)) (some (jq s2 a2)) c6 c7) M2 by simp[e2],Jz,
  Kr,show(Cu.a 6 (.call 17 (.c (.v 1) (.q (.v 2) (.v 4) (.v 5))))).den (PW m) (EW sc (.ref t) (rz K r Z) b3 (some (jq s1 a1)) (some (jq s2 a2)) c6 c7) M2=.ok (.next,EW sc (.ref t) (rz K r Z) b3 (some (jq s1 a1)) (some (jq s2 a2)) (some v) c7) M3 by simp[e3],Jz,
  Kr,e4,Jz]
 simp[e5,e6,e7]
def a1v{ns:X9}(hm:6<=m):∃M',prog.call m 21 [.fz (ns.map D.int)] M=.ok (.bl true) M':=by
 rw[call_of (a_ (by decide) hm) rfl];refine hG λ_ _k=>?_
 obtain⟨n0,f0,s0,o0⟩:=al3 (m:=m-1) (k:=0) (ns:=ns) (M:=M) (r_ (a_ (by decide) hm));have s0:prog.call (m-1) 1 [.fz (ns.map D.int),.int 0] M=_:=s0;have qq:Su M.length f0 (M++[.lst [.int n0,.bl f0]]):=⟨n0,by simp,o0⟩;obtain⟨K,r,sz,Z,jn,M1,e0,p0,lr,P,t0⟩:=ae1 (m:=m-1) (r_ (a_ (by decide) hm)) qq;have e0:prog.call (m-1) 5 [.ref M.length] (M++[.lst [.int n0,.bl f0]])=.ok (rz K r Z) M1:=e0;apply _k;have G:r≠M.length:=by have:=lr;simp at this;lia
 refine hG λ_ _k=>?_
 obtain⟨qk,M2,e2,⟨R,b4,b5,b6,b7,rfl⟩,t2⟩:=zy (W:=PW (m-1)) (t:=.name 3) (b:=U3) (it:=.i 3) (n:=3) (ρ:=EW (.fz (ns.map D.int)) (.ref M.length) (rz K r Z) none none none none none) (M:=M1) (M1:=M1) rfl (by decide)
  (λi ρ M'=>(∃R b4 b5 b6 b7,ρ=EW (.fz (ns.map D.int)) (.ref M.length) (rz K r Z) R b4 b5 b6 b7)/\St M.length f0 M1 M') ⟨⟨none,none,none,none,none,rfl⟩,St.of t0.has (zc.refl _)⟩
  (λi ρ M' hi hI=>by
   refine hG λ_ _k=>?_
   obtain⟨⟨R,b4,b5,b6,b7,rfl⟩,t1⟩:=hI;obtain⟨c4,c5,c6,c7,M3,e,t3⟩:=aqh (m:=m-1) (r:=r) (M:=M') (sc:=.fz (ns.map D.int)) (b3:=some (.int (i:Int))) (c4:=b4) (c5:=b5) (c6:=b6) (c7:=b7) (by lia) P t1.has (t1.keep _ _ G p0) G;apply _k;exact⟨_,.next,_,M3,rfl,e,.inl rfl,⟨_,c4,c5,c6,c7,rfl⟩,t1.trans t3⟩)
 have k3:=P.k3;have hl:=P.len;have f:Fits (List.replicate K 0) (List.replicate K 0) (List.replicate K []):=⟨by simp,λk js h=>by
  rw[w5] at h;split at h
  .cases h;simp[aq, *]
  .cases h⟩
 obtain⟨M3,e3,_⟩:=Tv (m:=m-1) (M:=M2) (a1:=List.replicate Z.length []) (a2:=List.replicate Z.length []) (by lia) ⟨by simpa using k3,λi=>by
  by_cases hi:i<K<;>simp[aq,hi]⟩ f rfl (λk=>by
  by_cases hi:k<K<;>simp[aq,hi])
 have m1:Ey .mul (.tup [.int 0]) (.int (K:Int)) M2=.ok (xx (List.replicate K 0)) M2:=by show(if 0<=(K:Int)/\(K:Int)<=100000 then Res.ok (D.tup (List.replicate (K:Int).toNat (.int 0))) M2 else .bad)=_;rw[dh (by lia)];simp[xx,nD]
 have m2:∀n:Nat,n<=5->Ey .mul (.tup [.tup []]) (.int (n:Int)) M2=.ok (rD (List.replicate n [])) M2:=λn hn=>by show(if 0<=(n:Int)/\(n:Int)<=100000 then Res.ok (D.tup (List.replicate (n:Int).toNat (.tup []))) M2 else .bad)=_;rw[dh (by lia)];simp[rD,xx]
 have wd:D.tup [xx (List.replicate K 0),rD (List.replicate Z.length [])]=jq (List.replicate K 0) (List.replicate Z.length []):=rfl;have e2:agq.den (PW (m-1)) _ _=_:=e2;apply _k;refine⟨M3,?_⟩;simp[Fn.run,al0,av7,s0,e0,e2,Rm,Mg,Sv,m1,m2 _ hl,m2 K (by lia),wd,e3]
end
open PySem L2
open PySem.W
set_option maxHeartbeats 0 in
def all_mk{l:OpenLaw}{K:Frag}{h:Heap}{Pt:Addr}(X:K.In h)(G:h.Ns mainGlobals mg)(y3:mg "law" = some (.ref fa))
 (a0:nsIn K mainGlobals "_law_cell_at" = some (some (.ref f0)))
 (l0:Ck.Lk K f0 "_law_cell_at" "_law_cell_at" (top 14) oc0 od0 kV0 dc0 pm0 an0 cd0 ct0 sl0)
 (a1:nsIn K mainGlobals "_law_state" = some (some (.ref f1)))
 (l1:Ck.Lk K f1 "_law_state" "_law_state" (top 15) oc1 od1 kV1 dc1 pm1 an1 cd1 ct1 sl1)
 (a2:nsIn K mainGlobals "_law_take" = some (some (.ref f2)))
 (l2:Ck.Lk K f2 "_law_take" "_law_take" (top 16) oc2 od2 kV2 dc2 pm2 an2 cd2 ct2 sl2)
 (a3:nsIn K mainGlobals "_law_begun" = some (some (.ref f3)))
 (l3:Ck.Lk K f3 "_law_begun" "_law_begun" (top 17) oc3 od3 kV3 dc3 pm3 an3 cd3 ct3 sl3)
 (a4:nsIn K mainGlobals "_law_closed" = some (some (.ref f4)))
 (l4:Ck.Lk K f4 "_law_closed" "_law_closed" (top 18) oc4 od4 kV4 dc4 pm4 an4 cd4 ct4 sl4)
 (a5:nsIn K mainGlobals "_law_pattern" = some (some (.ref f5)))
 (l5:Ck.Lk K f5 "_law_pattern" "_law_pattern" (top 19) oc5 od5 kV5 dc5 pm5 an5 cd5 ct5 sl5)
 (a6:nsIn K mainGlobals "_law_ways" = some (some (.ref f6)))
 (l6:Ck.Lk K f6 "_law_ways" "_law_ways" (top 20) oc6 od6 kV6 dc6 pm6 an6 cd6 ct6 sl6)
 (a7:nsIn K mainGlobals "_law_end" = some (some (.ref f7)))
 (l7:Ck.Lk K f7 "_law_end" "_law_end" (top 21) oc7 od7 kV7 dc7 pm7 an7 cd7 ct7 sl7)
 (a8:nsIn K mainGlobals "_law_behind" = some (some (.ref f8)))
 (l8:Ck.Lk K f8 "_law_behind" "_law_behind" (top 22) oc8 od8 kV8 dc8 pm8 an8 cd8 ct8 sl8)
 (a9:nsIn K mainGlobals "is_apart" = some (some (.ref f9)))
 (l9:Ck.Lk K f9 "is_apart" "is_apart" (top 9) oc9 od9 kV9 dc9 pm9 an9 cd9 ct9 sl9)
 (x9:nsIn K mainGlobals "is_onto" = some (some (.ref f10)))
 (yv:Ck.Lk K f10 "is_onto" "is_onto" (top 10) blz bl0 bl3 bl4 bl5 bl6 bl7 bl8 bl9)
 (q0:nsIn K mainGlobals "turned_back" = some (some (.ref f11)))
 (u3:Ck.Lk K f11 "turned_back" "turned_back" (top 11) bmb bmc bmd bme bmf bmg bmh bmi bmj)
 (yj:nsIn K mainGlobals "turned_row" = some (some (.ref f12)))
 (j2:Ck.Lk K f12 "turned_row" "turned_row" (top 12) bml bmm bmo bmp bmq bmr bms bmt bmu)
 (a13:nsIn K mainGlobals "_law_merged" = some (some (.ref f13)))
 (j4:Ck.Lk K f13 "_law_merged" "_law_merged" (top 23) bmw bmx bmy bmz bm0 bm1 bm2 bm3 bm4)
 (x7:nsIn K mainGlobals "_law_world" = some (some (.ref f14)))
 (u1:Ck.Lk K f14 "_law_world" "_law_world" (top 24) bm6 bm7 bm8 bm9 bna bnb bnc bnf bng)
 (uj:nsIn K mainGlobals "_law_led" = some (some (.ref f15)))
 (xk:Ck.Lk K f15 "_law_led" "_law_led" (top 25) bni bnj bnk bnl bnm bnn bno bnp bnq)
 (a16:nsIn K mainGlobals "_law_known" = some (some (.ref f16)))
 (y4:Ck.Lk K f16 "_law_known" "_law_known" (top 26) bns bnt bnu bnv bnw bnx bny bnz bn0)
 (zw:nsIn K mainGlobals "_law_some_map" = some (some (.ref f17)))
 (l17:Ck.Lk K f17 "_law_some_map" "_law_some_map" (top 27) bn2 bn3 bn4 bn5 bn6 bn7 bn8 bn9 boa)
 (q3:nsIn K mainGlobals "_law_orders" = some (some (.ref f18)))
 (jj:Ck.Lk K f18 "_law_orders" "_law_orders" (top 29) boc bod boe bof bog boh boi boj bon)
 (y9:nsIn K mainGlobals "_law_turned" = some (some (.ref f19)))
 (y0:Ck.Lk K f19 "_law_turned" "_law_turned" (top 30) bop boq bos bou bov bow boy boz bo0)
 (q5:nsIn K mainGlobals "_law_looked" = some (some (.ref f20)))
 (qq:Ck.Lk K f20 "_law_looked" "_law_looked" (top 31) bo1 bo2 bo3 bo4 bo5 bo6 (.ref cc) bo7 bo8)
 (qk:nsIn K mainGlobals "law" = some (some (.ref f21)))
 (x4:Ck.Lk K f21 "law" "law" (top 32) bpb bpc bff bfg bfh bfi bfj bfk bpd)
 (aR:nsIn K mainGlobals "_law_refused" = some (some (.ref fR)))
 (lR:Ck.Lk K fR "_law_refused" "_law_refused" (top 28) ocR odR kVR dcR pmR anR cdR ctR slR)
 (hC:codeHdIn K cc Pt=true)
 (z0:nsIn K mainGlobals "len" = some none)
 (z1:nsIn K mainGlobals "tuple" = some none)
 (z2:nsIn K mainGlobals "list" = some none)
 (z3:nsIn K mainGlobals "max" = some none)
 (z4:nsIn K mainGlobals "min" = some none)
 (z5:nsIn K mainGlobals "isinstance" = some none)
 (z6:nsIn K mainGlobals "range" = some none)
 (z7:nsIn K mainGlobals "enumerate" = some none)
 (z8:nsIn K mainGlobals "set" = some none)
 (z9:nsIn K mainGlobals "zip" = some none)
 (u2:nsIn K mainGlobals "all" = some none)
 (xw:nsIn K mainGlobals "bool" = some none)
 (x2:nsIn K mainGlobals "sorted" = some none)
 (zk:nsIn K mainGlobals "dict" = some none)
 (yy:nsIn K mainGlobals "ValueError" = some none)
 (q1:nsIn K mainGlobals "MapError" = some (some (.ref Ea0)))
 (jv:nsIn K mainGlobals "NoPattern" = some (some (.ref Ea1)))
 (y7:nsIn K mainGlobals "NoMap" = some (some (.ref Z)))
 (y8:nsIn K mainGlobals "TooMany" = some (some (.ref Ea3)))
 (xv:nsIn K mainGlobals "NoSaying" = some (some (.ref Ea4)))
 (x8:nsIn K mainGlobals "NoName" = some (some (.ref Ea5)))
 (xa6:nsIn K mainGlobals "BadNote" = some (some (.ref Ea6)))
 (zv:typeIn K (.ref Ea0)=some (.type "type"))
 (j1:clsIn K Ea0=some xq0)
 (u7:typeIn K (.ref Ea1)=some (.type "type"))
 (y1:clsIn K Ea1=some xq1)
 (xt2:typeIn K (.ref Z)=some (.type "type"))
 (xc2:clsIn K Z=some xq2)
 (x6:typeIn K (.ref Ea3)=some (.type "type"))
 (q2:clsIn K Ea3=some xq3)
 (zq:typeIn K (.ref Ea4)=some (.type "type"))
 (j3:clsIn K Ea4=some xq4)
 (q6:typeIn K (.ref Ea5)=some (.type "type"))
 (y5:clsIn K Ea5=some xq5)
 (q8:typeIn K (.ref Ea6)=some (.type "type"))
 (qv:clsIn K Ea6=some xq6)
 (xm:subIn K (.ref Ea0) (.type "BaseException")=some true)
 (u4:excIn K Z [.type "ValueError",.type "Exception",.type "BaseException",.type "object"] "ValueError.__new__" = true)
 (bfm:findIn K (.ref Z) "__getattribute__" = some (some (.builtin "BaseException.__getattribute__")))
 (j5:findIn K (.ref Z) "__getattr__" = some none)
 (yk:findIn K (.ref Z) "__class__" = some (some (.builtin "object.__class__")))
 (y2:subIn K (.ref Z) (.type "BaseException")=some true)
 (q4:subIn K (.ref Z) (.type "object")=some true)
 (uk:subIn K (.ref Z) (.type "ValueError")=some true)
 (q7:subIn K (.ref Z) (.ref Ea0)=some true)
 (xy:subIn K (.ref Z) (.ref Ea1)=some false)
 (x1:(Z==Ea1)=false)
 (y6:subIn K (.ref Z) (.ref Ea3)=some false)
 (a9m:(Z==Ea3)=false)
 (u6:subIn K (.ref Z) (.ref Ea4)=some false)
 (zz:(Z==Ea4)=false)
 (a9p:subIn K (.ref Z) (.ref Ea5)=some false)
 (x3:(Z==Ea5)=false)
 (uu:subIn K (.ref Z) (.ref Ea6)=some false)
 (x5:(Z==Ea6)=false)
 : ∃fd:FuncData,(∀(s:Shared)(v:Value),BindsTo s fd ⟨[v],[]⟩ [("script",v)])/\∀R:Heap,K.In R->R.Ns mainGlobals mg->BMain mg R->Jt l.prog w K mg R CX0 170 fa fd ["script"] (Ck.ahv Pt K):=by
 have e:=(gr X G qk).symm.trans y3;cases e;have aF:Ck.aam K Ds sts [f0,f1,f2,f3,f4,f5,f6,f7,f8,f9,f10,f11,f12,f13,f14,f15,f16,f17,f18,f19,f20,fa] [_,_,_,_,_,_,_,_,_,_,_,_,_,_,_,_,_,_,_,_,_,_]:=(Ck.fE l0 (Ck.fE l1 (Ck.fE l2 (Ck.fE l3 (Ck.fE l4 (Ck.fE l5 (Ck.fE l6 (Ck.fE l7 (Ck.fE l8 (Ck.fE l9 (Ck.fE yv (Ck.fE u3 (Ck.fE j2 (Ck.fE j4 (Ck.fE u1 (Ck.fE xk (Ck.fE y4 (Ck.fE l17 (Ck.fE jj (Ck.fE y0 (Ck.fE qq (Ck.fE x4 Ck.fN))))))))))))))))))))));have aG:Ck.Wj mg tab.fns [f0,f1,f2,f3,f4,f5,f6,f7,f8,f9,f10,f11,f12,f13,f14,f15,f16,f17,f18,f19,f20,fa]:=(Ck.gS (gr X G a0) (Ck.gS (gr X G a1) (Ck.gS (gr X G a2) (Ck.gS (gr X G a3) (Ck.gS (gr X G a4) (Ck.gS (gr X G a5) (Ck.gS (gr X G a6) (Ck.gS (gr X G a7) (Ck.gS (gr X G a8) (Ck.gS (gr X G a9) (Ck.gS (gr X G x9) (Ck.gS (gr X G q0) (Ck.gS (gr X G yj) (Ck.gS (gr X G a13) (Ck.gS (gr X G x7) (Ck.gS (gr X G uj) (Ck.gS (gr X G a16) (Ck.gS (gr X G zw) (Ck.gS (gr X G q3) (Ck.gS (gr X G y9) (Ck.gS (gr X G q5) (Ck.gS (gr X G qk) Ck.gN))))))))))))))))))))));have aV:Ck.aft mg tab.at7:=Ck.vN;have aB:Ck.AllB mg Ck.Oa:=(Ck.bC (jx X G z0) (Ck.bC (jx X G z1) (Ck.bC (jx X G z2) (Ck.bC (jx X G z3) (Ck.bC (jx X G z4) (Ck.bC (jx X G z5) (Ck.bC (jx X G z6) (Ck.bC (jx X G z7) (Ck.bC (jx X G z8) (Ck.bC (jx X G z9) (Ck.bC (jx X G u2) (Ck.bC (jx X G xw) (Ck.bC (jx X G x2) (Ck.bC (jx X G zk) (Ck.bC (jx X G yy) Ck.bN)))))))))))))));have aE:Ck.aap K Ea0 [(2,Z)]:=(Ck.eC u4 bfm j5 yk y2 q4 xc2 uk q7 xm zv j1 Ck.eN);have aX:Ck.aan K mg [(2,Z)] tab.xcs [Ea1,Z,Ea3,Ea4,Ea5,Ea6] 0:=(Ck.xC (gr X G jv) (λz=>(dw z).elim) (Ck.kC (Ck.Rk y1 u7 xy x1) Ck.kN) (Ck.xC (gr X G y7) (λ_=>rfl) (Ck.kC (Ck.Rc rfl) Ck.kN) (Ck.xC (gr X G y8) (λz=>(dw z).elim) (Ck.kC (Ck.Rk q2 x6 y6 a9m) Ck.kN) (Ck.xC (gr X G xv) (λz=>(dw z).elim) (Ck.kC (Ck.Rk j3 zq u6 zz) Ck.kN) (Ck.xC (gr X G x8) (λz=>(dw z).elim) (Ck.kC (Ck.Rk y5 q6 a9p x3) Ck.kN) (Ck.xC (gr X G xa6) (λz=>(dw z).elim) (Ck.kC (Ck.Rk qv q8 uu x5) Ck.kN) Ck.xN))))));have kR:Ck.Ask K mg (Ck.a08 [(2,Z)] Pt tab.lp ("_law_looked"++".<locals>."++"<lambda>")) tab prog.rf "_law_refused" "_law_refused" (top 28) fR _:=⟨(Ck.a8v lR).1,(Ck.a8v lR).2,bep,⟨a8w,_,_,_,_,_,_,_,_,_,_,_,_,_,rfl,ber⟩,⟨Ea0,gr X G q1,λc C e=>(aE.get (L2.mem_of_lookup e)).2.2.2⟩⟩;refine⟨fnOf "law" "law" (Dt (top 32)) (Bs (top 32)) (my (top 32)) .none bff bfg bfh bfi bfj bfk,λs v=>.of_eq rfl,λR _ _ bm=>?_⟩;obtain⟨d,a,f,g1,g2,g3,g4,g5⟩:=Ck.a09 (P:=l.prog) (w:=w) (base:=R) (nm:=(Ck.a08 [(2,Z)] Pt tab.lp ("_law_looked"++".<locals>."++"<lambda>"))) (n:=10) (i:=21) (F:=al0) chk ben aF aG aV aB aX aE kR (gr X G aR) bm rfl beo (jl:=20) rfl rfl rfl (λ_=>⟨_,_,_,_,_,_,_,_,cc,Pt,qq.1,hC,rfl⟩) rfl;cases g1;cases g2;cases g3;exact g5.imp λvs H Q E hh=>Ck.auy (λns hl=>a1v (m:=10) (by decide)) hh
end K13
open PySem PySem.W PyProof.Rows
namespace PySem.W.Fast
def tw15245509506477113573:=Nat
def tw1010670256666349474:=Nat
def tw2067537588340631456:=Nat
def tw13075793579855921537:=Nat
def tw7162598112576868210:=Nat
def tw12290567233857311323:=Nat
def tw13720471180942143750:=Nat
def tw18317199791352196040:=Nat
def tw774486375749217616:=Nat
def tw3818728453470292370:=Nat
def tw3758410858096756487:=Nat
def tw7440054012699529203:=Nat
def tw11578011596701192830:=Nat
def tw14889357108246330901:=Nat
def tw8333517573840582850:=Nat
def tw10874705596222058373:=Nat
def tw1092503717751862878:=Nat
def tw7899415292115679696:=Nat
def tw11842424108908329818:=Nat
def tw5440777025014584916:=Nat
def tw8096007211798571734:=Nat
def tw12336705452375977640:=Nat
def tw954724936063611927:=Nat
def tw7420996624324128203:=Nat
def tw11998799305567256202:=Nat
def tw17780079344638024369:=Nat
def tw16965587073847429956:=Nat
def tw10272573081117237492:=Nat
def tw14741564186181944877:=Nat
def tw17405095419580955955:=Nat
def tw17788990476290098619:=Nat
def tw7880469114133488441:=Nat
def tw7995155109554300093:=Nat
def tw2495428257675674111:=Nat
def tw13573967336757548187:=Nat
def tw494968848469489498:=Nat
def tw13917685352681440773:=Nat
def tw3426568082784620546:=Nat
def tw17365401779263266641:=Nat
def tw5181639828073183383:=Nat
def tw17440225395381512350:=Nat
def tw16698240645035242748:=Nat
def tw14219873256317728864:=Nat
def tw7186700937149572051:=Nat
def tw226097899764947368:=Nat
def tw1302886470797929633:=Nat
def tw17401117933742478546:=Nat
def tw14964932966580406310:=Nat
def tw16657593399590025568:=Nat
def tw8245639549079723236:=Nat
def tw10585728593065072504:=Nat
def tw7842469667047398078:=Nat
def tw2281776346681814479:=Nat
def tw14049715018074590430:=Nat
def tw726842767356958355:=Nat
def tw2544949709252222318:=Nat
def tw13284050460966597694:=Nat
def tw13925152521685419336:=Nat
def tw13186005869102127142:=Nat
def tw18412483079583918441:=Nat
def tw12659708831584860323:=Nat
def tw3554224554818390889:=Nat
def tw3037367481793670431:=Nat
def tw16258265026162643438:=Nat
def tw16983095303016736047:=Nat
def tw12616330145252339367:=Nat
def tw9236678638673041978:=Nat
def tw2266841667773365429:=Nat
def tw9251231825833032850:=Nat
def tw14194690082178851783:=Nat
def tw8208816357304082887:=Nat
def tw2777808839495241762:=Nat
def tw2955235830916754623:=Nat
def tw7011734422466835128:=Nat
def tw7975642099855211145:=Nat
def tw16560376821948275829:=Nat
def tw9382331070545953787:=Nat
def tw7001379508807737529:=Nat
def tw16250955192201692082:=Nat
def tw6711940311079213645:=Nat
def tw2555267356482871843:=Nat
def tw6932297697325985697:=Nat
def tw17861239859119038561:=Nat
def tw16259959890598875390:=Nat
def tw14972446035871706558:=Nat
def tw10239807734640271157:=Nat
def tw2263473921918296368:=Nat
def tw5446884035775084586:=Nat
def tw562265679346139326:=Nat
def tw11047894150838461827:=Nat
def tw1276912010577865556:=Nat
def tw11466168914795972812:=Nat
def tw1646075951986712560:=Nat
def tw5589496348031205692:=Nat
def tw6940969095751224224:=Nat
def tw17309401899630809877:=Nat
def tw9665773797744446976:=Nat
def tw8851485948905509424:=Nat
def tw15067287579115184545:=Nat
def tw4707700559417527566:=Nat
def tw9179573191336470180:=Nat
def tw8046107960408779242:=Nat
def tw8414233821969909571:=Nat
def tw7301858660339928623:=Nat
def tw13861989038428036336:=Nat
def tw9944091357617750617:=Nat
def tw7007246510305291702:=Nat
def tw4815491205875890507:=Nat
def tw14156653595211842170:=Nat
def tw4276813821868051587:=Nat
def tw18377666292320802128:=Nat
def tw16483118668576572349:=Nat
def tw3493852912745140740:=Nat
def tw11415824294098947964:=Nat
def tw9740031621967337369:=Nat
def tw2104392592038272035:=Nat
def tw9580540597191809123:=Nat
def tw10991887768576765028:=Nat
def tw5508274754652909648:=Nat
def tw14648088785822343089:=Nat
def tw9099893920407717509:=Nat
def tw3260973819378502518:=Nat
def tw16226304840929231470:=Nat
def tw1343864554670430028:=Nat
def tw11054086293370187598:=Nat
def tw2480875571435161413:=Nat
def tw17750776626968021890:=Nat
def tw14540107233492791026:=Nat
def tw13675740467595765355:=Nat
def tw5749319317427320669:=Nat
def tw12158658250721663730:=Nat
def tw12039653416075882753:=Nat
def tw16678800680693697173:=Nat
def tw4677038619847588552:=Nat
def tw10761740538415522513:=Nat
def tw1112901746050414052:=Nat
def tw15688938789656596191:=Nat
def tw2743264044097336338:=Nat
def tw1862403003089721320:=Nat
def tw5735074847638340477:=Nat
def tw15704165249703613173:=Nat
def tw8441548091502360508:=Nat
def tw5534018893417663759:=Nat
def tw12509534916865563958:=Nat
def tw9712298507959324109:=Nat
def tw6118530132429461003:=Nat
def tw13971523408715888528:=Nat
def tw12921446539670835345:=Nat
def tw11812106035959755368:=Nat
def tw11364026294263540262:=Nat
def tw10238264986128016119:=Nat
def tw15716270087213668339:=Nat
def tw7115022773276164517:=Nat
def tw9344925287701416774:=Nat
def tw10053541012492192485:=Nat
def tw3072873505188434543:=Nat
def tw7982953241576600971:=Nat
def tw5855702273925490201:=Nat
def tw3784627333945394347:=Nat
def tw2383481765672216704:=Nat
def tw15525848142735358858:=Nat
def tw1505580363706177943:=Nat
def tw129420597748339001:=Nat
def tw1123749291971968627:=Nat
def tw8243947618624375408:=Nat
def tw6481671694106997093:=Nat
def tw5914287201605565721:=Nat
def tw2907560806038387839:=Nat
def tw17582722366637328263:=Nat
def tw17295019257815442104:=Nat
def tw14458481521045403566:=Nat
def tw7501912573298435629:=Nat
def tw4263756520705390056:=Nat
def tw213660320147424878:=Nat
def tw2078226101440340536:=Nat
def tw17200667586180577421:=Nat
def tw13959412637002829465:=Nat
def tw12909002780848619574:=Nat
def tw9398119324066670531:=Nat
def tw7881997180626412451:=Nat
def tw6426084838350159281:=Nat
def tw601150840518945139:=Nat
def tw17814135479013456023:=Nat
def tw17634660259728279048:=Nat
def tw16856164896916732669:=Nat
def tw9826501440991375541:=Nat
def tw9738897087255772734:=Nat
def tw9564588706666783779:=Nat
def tw9297121055420055733:=Nat
def tw8564468243645469560:=Nat
def tw7397307420128193577:=Nat
def tw6984675754378162520:=Nat
def tw693854038019260009:=Nat
def tw6488135236291921416:=Nat
def tw5410810044768511395:=Nat
def tw4945058459414840138:=Nat
def tw4757916459711223218:=Nat
def tw46706143148600752:=Nat
def tw4320296573528040912:=Nat
def tw4097163523067797400:=Nat
def tw3972629221208391664:=Nat
def tw3931616563103792229:=Nat
def tw3369357461246726155:=Nat
def tw2972140116125762020:=Nat
def tw2345163536481168177:=Nat
def tw223334004650747471:=Nat
def tw18392471735131292684:=Nat
def tw18270367990163394338:=Nat
def tw18173979225039715476:=Nat
def tw18123318148976668801:=Nat
def tw18061359022623952468:=Nat
def tw18020387336681544209:=Nat
def tw17927834353445439236:=Nat
def tw17889266898402446583:=Nat
def tw17678988815418297934:=Nat
def tw17282672893535832317:=Nat
def tw17207304698598758101:=Nat
def tw16439000835783663268:=Nat
def tw1634698677239270342:=Nat
def tw16339826217366451874:=Nat
def tw14739164261668308077:=Nat
def tw14713050116780642113:=Nat
def tw13645079571218005896:=Nat
def tw1334167554735032644:=Nat
def tw12833950174609931774:=Nat
def tw12495677900516249863:=Nat
def tw12305996773145448030:=Nat
def tw12268367610916633947:=Nat
def tw12030156714803515905:=Nat
def tw10795824148704082606:=Nat
def tw10518634560567425514:=Nat
def tw10515271461391206994:=Nat
end PySem.W.Fast
set_option maxRecDepth 100000 in
set_option maxHeartbeats 0 in
theorem PySem.Challenge.cw_mapwright_k13_apart_onto_back_holds : PySem.Challenge.rw_mapwright_k13_apart_onto_back.Holds := by
 w_on;o_law;k_head;(case hw=>w_witness2)
 k_fill
 refine Ck.walk (l:=PySem.Challenge.rw_mapwright_k13_apart_onto_back) (Pt:=222) (ct:=224) rfl rfl (λw h Y=>⟨PySem.W.km_in_of Y,PySem.W.km_tabs_of Y 222 di⟩) (λw=>by kernel_rfl) (λw=>by kernel_rfl) ?F
 case F =>
  intro w mg fa h KX G hmg;apply K13.all_mk (cc:=224) (Pt:=222) KX G hmg<;>(try refine⟨?_,?_,?_⟩)<;>first|k_is|k_exc|kernel_rfl|rfl
