import PyProof.Rows.All
import Wide.All
import OpenK.AllK
import Wide.FinOn
import Lean
import PyProof.EqAt
import PyProof.EqKinds
import PyProof.TupleCall
import PySem.Builtin.Str.Common
import PyProof.NeKinds
import PyProof.SetScanFacts
import PyProof.TupleKey
import PyProof.SetKind
import PyProof.IsRules
import PyProof.Rules
import PyProof.Rows.SetFrom
import PyProof.SetRoads
import KE.KDictOf
import PyProof.Rows.MinMaxN
import PyProof.ListRange
import PyProof.TupleOfGen
import PyProof.EnumMake
import PyProof.ZipIter
import PyProof.Rows.ZipGen
import PyProof.CollectWalk
import PyProof.ForAny
import PyProof.Rows.SortWalk
import PyProof.CollectIter
import PyProof.StrCalls2
import PyProof.StrLoop
import PyProof.StrWalks
import KE.KIntText
import PySem.Challenge.RW_mapwright_k81_worlds_and_maps_written
set_option Elab.async false
set_option linter.all false
set_option tactic.hygienic false
set_option genSizeOf false
set_option genInjectivity false
set_option maxRecDepth 100000
abbrev Zl:=List PySem.Value
abbrev Zp:=List (PySem.Addr×PySem.Obj)
abbrev Zs:=PySem.Str->Option PySem.Value
abbrev Y1:=PySem.Value->PySem.Shared->Prop
abbrev Y2:=Option (PySem.Str×Nat)
abbrev Y3:=List Nat
abbrev Ya:=List PySem.Expr
abbrev Yf:=List PySem.Str
abbrev X0:=List (PySem.Str×PySem.NameKind)
abbrev X9:=List PySem.Addr
abbrev Xs:=List Int
abbrev Xt:=List (PySem.Str×PySem.Addr)
abbrev U1:=Array PySem.Value
def jc:=@Array.getElem?_eq_some_iff
def m8:=@Array.getElem?_toList
def ql:=@Array.length_toList
def aq:=@Bool.and_eq_true
def Ag:=@Bool.eq_iff_iff
def cz:=@Bool.false_eq_true
def jf:=@Bool.false_ne_true
def Am:=@Bool.not_eq_true'
def za:=@Bool.not_false
def qt:=@Bool.not_true
def yf:=@Classical.byContradiction
def Aa:=@Int.emod_lt_of_pos
def Bh:=@Int.emod_nonneg
def Bf:=@Int.ofNat_inj
def wk:=@Int.toNat_natCast
def zb:=@List.Perm.refl
def jb:=@List.all_eq_true
def Ax:=@List.any_eq_true
def yq:=@List.append_assoc
def Ah:=@List.append_nil
def xm:=@List.cons_append
def Ak:=@List.contains_iff_mem
def wu:=@List.ext_getElem?
def yc:=@List.filter_append
def xj:=@List.filter_eq_nil_iff
def qu:=@List.find?_cons
def vh:=@List.findIdx?_eq_none_iff
def qg:=@List.findIdx?_eq_some_iff_getElem
def yj:=@List.foldl_cons
def dj:=@List.getD_eq_getElem?_getD
def Aq:=@List.getElem?_append
def dq:=@List.getElem?_append_left
def il:=@List.getElem?_append_right
def bz:=@List.getElem?_eq_getElem
def kh:=@List.getElem?_eq_none
def ak:=@List.getElem?_eq_some_iff
def iz:=@List.getElem?_map
def uc:=@List.getElem?_range
def uz:=@List.getElem?_set_ne
def z6:=@List.getElem?_set_self
def yr:=@List.getElem?_zipIdx
def Ay:=@List.getElem_inj
def o7:=@List.getElem_mem
def qm:=@List.getElem_of_mem
def qi:=@List.isEmpty_iff
def o6:=@List.length_append
def gn:=@List.length_cons
def u0:=@List.length_eq_zero_iff
def vy:=@List.length_filter_le
def du:=@List.length_map
def zg:=@List.length_take
def nq:=@List.lookup_cons
def qw:=@List.map_append
def qp:=@List.map_congr_left
def gr:=@List.map_cons
def o8:=@List.map_map
def dw:=@List.mem_append
def yt:=@List.mem_append_left
def iw:=@List.mem_append_right
def cu:=@List.mem_cons
def bc:=@List.mem_cons_of_mem
def dh:=@List.mem_cons_self
def ue:=@List.mem_filter
def yd:=@List.mem_iff_getElem?
def bf:=@List.mem_map
def ao:=@List.mem_of_getElem?
def ik:=@List.mem_range
def uv:=@List.mem_singleton
def wy:=@List.nil_append
def yu:=@List.nodup_append
def qx:=@List.nodup_cons
def m7:=@List.nodup_iff_pairwise_ne
def Ar:=@List.nodup_nil
def xq:=@List.not_mem_nil
def Ab:=@List.pairwise_cons
def yw:=@List.pairwise_map
def vd:=@List.range_succ
def Bj:=@List.set_append
def gq:=@List.size_toArray
def z7:=@List.take_of_length_le
def zc:=@Nat.add_sub_cancel_left
def xr:=@Nat.le_add_right
def zr:=@Nat.le_of_lt
def bh:=@Nat.le_refl
def vm:=@Nat.le_succ
def dz:=@Nat.le_trans
def j9:=@Nat.lt_irrefl
def Ad:=@Nat.lt_of_le_of_lt
def gw:=@Nat.lt_of_lt_of_le
def yg:=@Nat.lt_or_ge
def p7:=@Nat.lt_succ_of_lt
def ph:=@Nat.lt_succ_self
def vo:=@Nat.ne_of_gt
def f9:=@Nat.ne_of_lt
def uf:=@Nat.not_lt_zero
def uy:=@Nat.zero_add
def jq:=@Nat.zero_le
def j0:=@Ne.symm
def gf:=@Option.bind_eq_some_iff
def su:=@Option.bind_some
def zj:=@Option.getD_some
def j6:=@Option.isSome_iff_exists
def cj:=@Option.map_eq_some_iff
def wz:=@Option.map_some
def jk:=@Option.some.inj
def An:=@Option.some.injEq
def tu:=@PyProof.Rows.F.entry_set_update_loop
def lg:=@PyProof.Rows.F.plain_set_update_loop
def yz:=@PyProof.Rows.callWith_builtin1
def jm:=@PyProof.Rows.callWith_type1
def ym:=@PyProof.Rows.slot_tuple_getitem
def j8:=@PySem.Around.under_plainId
def uq:=@PySem.Calls.spliced_cons
def w5:=@PySem.Calls.spliced_nil
def uw:=@PySem.F.called_set
def xg:=@PySem.F.slot_enumerate_next
def u5:=@PySem.F.slot_tuple_iterator_next
def jz:=@PySem.Heap.SameBut.update
def au:=@PySem.Heap.get?_push_of_some
def bu:=@PySem.Heap.get?_push_size
def ur:=@PySem.Heap.get?_update_other
def mj:=@PySem.Heap.get?_update_self
def az:=@PySem.Heap.lt_size
def iu:=@PySem.Heap.size_push
def qy:=@PySem.W.kia_one
def m9:=@PySem.codeAny_builtin
def v5:=@PySem.codeAny_mono
def zf:=@PySem.mem_of_lookup
def p8:=@PySem.sizeLine_eq
def v8:=@PySem.tupleKind_room_in1
def jd:=@PySem.wpAny_Call_Name_kw
def aa:=@PySem.wpAny_bind
def ju:=@PySem.wpAny_callSpecial?_slot
def jr:=@PySem.wpAny_call_entry
def qz:=@PySem.wpAny_dictEntries
def ig:=@PySem.wpAny_field
def qd:=@PySem.wpAny_forIn_list
def ji:=@PySem.wpAny_holding
def o5:=@PySem.wpAny_isInstance
def j7:=@PySem.wpAny_mono
def jx:=@PySem.wpAny_newObj_type
def ug:=@PySem.wpAny_passesOwn
def aj:=@PySem.wpAny_pure
def q9:=@PySem.wpAny_seqItems
def kj:=@PySem.wpAny_setEntries_of
def je:=@PySem.wpAny_setField_rec
def jt:=@PySem.wpAny_setState_of
def jy:=@PySem.wpAny_truthy_bool
def qb:=@PySem.wpAny_typeOf
def vq:=@Std.Legacy.Range.forIn_eq_forIn_range'
def pq:=@beq_eq_false_iff_ne
def zp:=@beq_self_eq_true
def yx:=@bne_self_eq_false
def mq:=@congrArg
def uh:=@decide_eq_false
def xx:=@decide_eq_true
def dm:=@decide_eq_true_eq
def jg:=@if_false
def bw:=@if_neg
def bx:=@if_pos
def jw:=@if_true
def jh:=@of_decide_eq_true
abbrev Fg:=PySem.W.Frag
def a_{a b c:Nat}(h:a<=b)(k:b<=c):a<=c:=dz h k
def b_{a b c:Nat}(h:a<b)(k:b<=c):a<c:=gw h k
def c_{a b c:Nat}(h:a<=b)(k:b<c):a<c:=Ad h k
def d_{a b c:Nat}(h:a<b)(k:b<c):a<c:=Nat.lt_trans h k
def e_{a b:Nat}(h:a<b):a<=b:=zr h
def f_{a b:Nat}(h:a=b):a<=b:=Nat.le_of_eq h
def g_{a b:Nat}(h:a=b):b<=a:=Nat.le_of_eq h.symm
def h_{a b:Nat}(h:a<b):a≠b:=f9 h
def i_{a b:Nat}(h:b<a):a≠b:=vo h
def j_{a b:Nat}(h:b<=a):¬a<b:=Nat.not_lt_of_le h
def l_{p:Prop}{a b:Nat}(h:a<b)(k:b<=a):p:=absurd h (Nat.not_lt_of_le k)
def m_{a b:Nat}(h:a<b):(a:Int)<(b:Int):=Int.ofNat_lt.mpr h
def n_{a b:Nat}(h:a<=b):(a:Int)<=(b:Int):=Int.ofNat_le.mpr h
def o_{a b:Nat}(h:(a:Int)<(b:Int)):a<b:=Int.ofNat_lt.mp h
def q_{a:Nat}:(0:Int)<=(a:Int):=Int.natCast_nonneg a
def r_{a b c:Nat}(h:a+c<=b):a<=b-c:=Nat.le_sub_of_add_le h
def s_{a b:Nat}(h:¬a<b):b<=a:=Nat.le_of_not_lt h
def t_{a b:Nat}(h:¬a<=b):b<a:=Nat.lt_of_not_le h
def u_{a b:Nat}(h:a<=b)(k:b<=a):a=b:=Nat.le_antisymm h k
def v_{a b c:Nat}(h:a<=b):a+c<=b+c:=Nat.add_le_add_right h c
def w_{a b c:Nat}(h:a<=b):c+a<=c+b:=Nat.add_le_add_left h c
def x_{a b:Nat}:a<=a+b:=xr a b
def z_{a b:Nat}(h:a<b+1):a<=b:=Nat.le_of_lt_succ h
def A_{a b:Nat}(h:a<=b):a<b+1:=Nat.lt_succ_of_le h
def B_{a:Nat}:a<a+1:=ph a
def C_{a b:Nat}:a-b<=a:=Nat.sub_le a b
def D_{a b:Nat}(h:(a:Int)=(b:Int)):a=b:=Bf.mp h
def G_{a b c:Nat}(h:a<b):a+c<b+c:=Nat.add_lt_add_right h c
def H_{a b c:Nat}(h:a<b):c+a<c+b:=Nat.add_lt_add_left h c
def hG{P:Prop}(h:∀G:Prop,(P->G)->G):P:=h P id
noncomputable section
namespace Wq
open PySem SetTable
def Srt(Z:Array Nat):Prop:=∀(i j a b:Nat),Z[i]?=some a->Z[j]?=some b->i<j->a<b
def at7(hs:Srt U):∀(Z G hi:Nat),G<=hi->hi<=U.size->hi-G<=Z ->
 (∀(i a:Nat),U[i]?=some a->i<G->a<j)->(∀(i a:Nat),U[i]?=some a->hi<=i->j<=a) ->
 below.go U j Z G hi<=U.size/\(∀(i a:Nat),U[i]?=some a->i<below.go U j Z G hi->a<j)/\(∀(i a:Nat),U[i]?=some a->below.go U j Z G hi<=i->j<=a):=by
 intro Z
 induction Z with
 |zero =>
  intro G hi h1 h2 h3 h4 h5;unfold below.go;have:G=hi:=by lia
  subst this;exact⟨h2,h4,h5⟩
 |succ Z ih =>
  intro G hi h1 h2 h3 h4 h5;unfold below.go
  by_cases Jk:G<hi
  .simp only[bx Jk]
   have hm:(G+hi)/2<U.size:=by lia
   have hg:U[(G+hi)/2]?=some U[(G+hi)/2]:=by simp[hm]
   have qq:U.getD ((G+hi)/2) j=U[(G+hi)/2]:=by simp[Array.getD,hm]
   rw[qq]
   by_cases hc:U[(G+hi)/2]<j
   .rw[bx hc]
    refine ih _ _ (by lia) h2 (by omega) (λi a e l=>?_) h5
    by_cases R:i=(G+hi)/2
    .subst R;rw[hg]at e;cases e;exact hc
    .exact Nat.lt_trans (hs _ _ _ _ e hg (by lia)) hc
   .rw[bw hc]
    refine ih _ _ (by lia) (e_ hm) (by omega) h4 (λi a e l=>?_)
    by_cases R:i=(G+hi)/2
    .subst R;rw[hg]at e;cases e;exact s_ hc
    .have:=hs _ _ _ _ hg e (by lia);exact e_ (c_ (s_ hc) this)
  .rw[bw Jk]
   have:G=hi:=u_ h1 (s_ Jk);subst this;exact⟨h2,h4,h5⟩
def Fj(G:Srt Z):below Z j<=Z.size/\(∀(i a:Nat),Z[i]?=some a->i<below Z j->a<j)/\(∀(i a:Nat),Z[i]?=some a->below Z j<=i->j<=a):=
 at7 G _ _ _ (jq _) (bh _) C_ (λi a _ h=>absurd h (uf _)) (λi a e h=>by
  have:=(jc.mp e).1;lia)
def below_at(U:Srt Z)(h:Z[i]?=some j):below Z j=i:=by
 obtain⟨h1,R,h3⟩:=Fj (j:=j) U;rcases Nat.lt_trichotomy (below Z j) i with l|l|l
 .have li:=(jc.mp h).1
  have G:Z[below Z j]?=some Z[below Z j]:=by simp
  have a:=h3 _ _ G (bh _);have b:=U _ _ _ _ G h l
  lia
 .exact l
 .have:=R _ _ h l;lia
def Zx(j:Nat):has #[] j=false:=by simp[has]
set_option tactic.hygienic true in
def T4{t:SetTable}(Z:Srt t.place):t.slot j=.live i↔t.place[i]?=some j:=by
 unfold slot;constructor
 .intro h
  dsimp only at h;split at h
  .rename_i e;cases h;simpa using e
  .split at h<;>cases h
 .intro h
  dsimp only;rw[below_at Z h,h];simp
def af9{t:SetTable}(G:Srt t.place)(Z:t.dummies=#[]):t.slot j=.empty↔∀i:Nat,t.place[i]?≠some j:=by
 constructor
 .intro h i e
  rw[(T4 G).mpr e]at h;cases h
 .intro h
  unfold slot;dsimp only;rw[Z,Zx,bw (by simpa using h _)];rfl
def K6(G:Array α)(p:Nat)(x:α)(hp:p<=G.size)(i:Nat):(insertAt G p x)[i]?=if i<p then G[i]? else if i=p then some x else G[i-1]?:=by
 rw[<-m8,toList_insertAt];have U:(G.toList.take p).length=p:=by simp;lia
 by_cases Z:i<p
 .rw[bx Z,dq (b_ Z (g_ U)),List.getElem?_take,bx Z,m8]
 .rw[bw Z,il (a_ (f_ U) (s_ Z)),U]
  by_cases R:i=p
  .subst R;simp
  .rw[bw R]
   obtain⟨q,hq⟩:∃q,i=p+q+1:=⟨i-p-1,by lia⟩;subst hq;rw[show p+q+1-p=q+1 by lia,List.getElem?_cons_succ,List.getElem?_drop,show p+q+1-1=p+q by lia,m8]
def Nq(Z:Array α)(p:Nat)(x:α):(insertAt Z p x).size=Z.size+1:=by have:=(insertAt_perm Z p x).length_eq;simpa using this
noncomputable def up(p i:Nat):Nat:=if i<p then i else i+1
def Q0(Z:Array α)(p:Nat)(x:α)(G:p<=Z.size)(i:Nat):(insertAt Z p x)[up p i]?=Z[i]?:=by
 rw[K6 Z p x G];unfold up
 by_cases h:i<p
 .simp[h]
 .rw[bw h,bw (j_ (a_ (s_ h) x_)),bw (i_ (A_ (s_ h)))];rfl
def Kc(Z:Array α)(p:Nat)(x:α)(G:p<=Z.size):(insertAt Z p x)[p]?=some x:=by rw[K6 Z p x G];simp
def Pb(p i:Nat):i=p\/∃k,i=up p k:=by
 unfold up;rcases Nat.lt_trichotomy i p with h|h|h
 .exact .inr ⟨i,by simp[h]⟩
 .exact .inl h
 .exact .inr ⟨i-1,by rw[bw (by omega)];lia⟩
def at8(hs:Srt G)(hn:∀i:Nat,G[i]?≠some j):Srt (insertAt G (below G j) j):=by
 obtain⟨R,h2,h3⟩:=Fj (j:=j) hs;intro a b x y U Z l;rcases Pb (below G j) a with rfl|⟨a',rfl⟩<;>rcases Pb (below G j) b with hb|⟨b',rfl⟩
 .subst hb;lia
 .rw[Kc _ _ _ R]at U
  rw[Q0 _ _ _ R]at Z;cases U;have:below G j<=b':=by unfold up at l;split at l<;>omega
  have g:=h3 _ _ Z this;rcases Nat.lt_or_eq_of_le g with g|g
  .exact g
  .subst g;exact absurd Z (hn _)
 .subst hb
  rw[Kc _ _ _ R]at Z;rw[Q0 _ _ _ R]at U;cases Z;exact h2 _ _ U (by unfold up at l;split at l<;>omega)
 .rw[Q0 _ _ _ R]at U Z
  exact hs _ _ _ _ U Z (by unfold up at l;split at l<;>split at l<;>omega)
noncomputable def adv(m:Nat)(p:Probe):Probe:=({ SetTable.fresh 0 0 true with mask:=m }:SetTable).advance p
def a0a(t:SetTable)(p:Probe):t.advance p=adv t.mask p:=rfl
def aa4(h:p.more > 0):adv m p={ p with j:=p.j+1,more:=p.more-1 }:=bx h
def Wr(h:¬p.more > 0):adv m p={ p with j:=(leap m p.i p.perturb).1,more:=runEnd m (leap m p.i p.perturb).1-(leap m p.i p.perturb).1,i:=(leap m p.i p.perturb).1,perturb:=(leap m p.i p.perturb).2 }:=bw h
noncomputable def beg(m i pt:Nat):Probe:={ j:=i,more:=runEnd m i-i,i:=i,perturb:=pt,dummy:=none }
def P(m:Nat)(h:Int):Nat->Probe
 |0=>beg m (bits h%(m+1)) (bits h)|n+1=>adv m (P m h n)
def adk(t:SetTable)(h:Int):t.probeStart h=P t.mask h 0:=rfl
theorem aa5(m:Nat)(h:Int):∀n,(P m h n).dummy=none
 |0=>rfl
 |n+1=>by
  show(adv m (P m h n)).dummy=none
  by_cases q:(P m h n).more > 0
  .rw[aa4 q];exact aa5 m h n
  .rw[Wr q];exact aa5 m h n
noncomputable def I(m:Nat)(h:Int):Nat->Nat
 |0=>bits h%(m+1)|T+1=>(I m h T*5+1+bits h/32^(T+1))%(m+1)
def at9(m i:Nat):runEnd m i-i<=9:=by unfold runEnd;split<;>lia
theorem adl{m:Nat}{h:Int}{n i pt:Nat}(e:P m h n=beg m i pt):∀c,c<=runEnd m i-i->P m h (n+c)={ j:=i+c,more:=runEnd m i-i-c,i:=i,perturb:=pt,dummy:=none }
 |0,_=>by rw[Nat.add_zero,e];rfl
 |c+1,hc=>by
  have:=adl e c (by lia);show adv m (P m h (n+c))=_;rw[this,aa4 (by show 0<runEnd m i-i-c;lia)];simp only
  congr 1
def ani(e:P m h n=beg m i pt):P m h (n+(runEnd m i-i)+1)=beg m ((i*5+1+pt/32)%(m+1)) (pt/32):=by show adv m (P m h (n+(runEnd m i-i)))=_;rw[adl e _ (bh _),Wr (by simp)];rfl
theorem anj(m:Nat)(h:Int):∀T,∃n,n<=10*T/\P m h n=beg m (I m h T) (bits h/32^T)
 |0=>⟨0,jq _,by simp[P,I]⟩
 |T+1=>by
  obtain⟨n,G,Z⟩:=anj m h T;have:=at9 m (I m h T);refine⟨_,?_,(ani Z).trans ?_⟩
  .lia
  .rw[Nat.div_div_eq_div_mul,<-Nat.pow_succ];rfl
noncomputable def f5(m x:Nat):Nat:=(x*5+1)%(m+1)
def it(m:Nat):Nat->Nat->Nat
 |0,x=>x|k+1,x=>f5 m (it m k x)
theorem Ws(m a x:Nat):∀k,it m (a+k) x=it m k (it m a x)
 |0=>rfl|k+1=>by show f5 m (it m (a+k) x)=_;rw[Ws m a x k];rfl
def Cov(m:Nat):Prop:=∀i j,i<=m->j<=m->∃k,k<=m/\it m k i=j
def a0b(h0:it m (m+1) 0=0)(h:∀j,j<=m->∃k,k<=m/\it m k 0=j):Cov m:=λi j hi hj=>by
 obtain⟨a,la,G⟩:=h i hi;obtain⟨b,R,Z⟩:=h j hj
 by_cases U:a<=b
 .refine⟨b-a,a_ C_ R,?_⟩
  rw[<-G,<-Ws,show a+(b-a)=b by lia,Z]
 .refine⟨m+1+b-a,by omega,?_⟩
  rw[<-G,<-Ws,show a+(m+1+b-a)=(m+1)+b by lia,Ws,h0,Z]
def orb(m:Nat):Nat->Nat->List Nat
 |0,_=>[]|k+1,x=>x::orb m k (f5 m x)
theorem ah6{m:Nat}:∀{k x j:Nat},j∈orb m k x->∃q,q<k/\it m q x=j
 |0,_,_,h=>by simp[orb]at h
 |k+1,x,j,h=>by
  simp only[orb,cu]at h;rcases h with rfl|h
  .exact⟨0,A_ (jq _),rfl⟩
  .obtain⟨q,l,e⟩:=ah6 h
   refine⟨1+q,by lia,?_⟩;rw[Ws];exact e
def Rn(G:it m (m+1) 0=0)(h:((List.range (m+1)).all λj=>(orb m (m+1) 0).contains j)=true):Cov m:=
 a0b G λj Z=>by have:=jb.mp h j (by simp;exact A_ Z);obtain⟨q,l,e⟩:=ah6 (by simpa using this);exact⟨q,z_ l,e⟩
def Msk(m:Nat):Prop:=m=7\/m=15\/m=31\/m=63\/m=127
def bdq:Cov 7:=Rn (by decide+kernel) (by decide+kernel)
def a7g:Cov 15:=Rn (by decide+kernel) (by decide+kernel)
def a7h:Cov 31:=Rn (by decide+kernel) (by decide+kernel)
def a7i:Cov 63:=Rn (by decide+kernel) (by decide+kernel)
def a0c:Cov 127:=Rn (by decide+kernel) (by decide+kernel)
def Msk.cov(h:Msk m):Cov m:=by
 rcases h with rfl|rfl|rfl|rfl|rfl
 .exact bdq
 .exact a7g
 .exact a7h
 .exact a7i
 .exact a0c
def aua(h:Int):bits h<2^64:=by
 unfold bits;have Z:=Bh h (b:=2^64) (by decide);have G:=Aa h (b:=2^64) (by decide)
 lia
theorem a7j(m:Nat)(h:Int):∀T,I m h T<=m
 |0=>Nat.le_of_lt_succ (Nat.mod_lt (bits h) (Nat.succ_pos m))|T+1=>Nat.le_of_lt_succ (Nat.mod_lt (I m h T*5+1+bits h/32^(T+1)) (Nat.succ_pos m))
theorem ank(m:Nat)(h:Int):∀k,I m h (13+k)=it m k (I m h 13)
 |0=>rfl
 |k+1=>by
  show(I m h (13+k)*5+1+bits h/32^(13+k+1))%(m+1)=f5 m (it m k (I m h 13));have:bits h/32^(13+k+1)=0:=by
   apply Nat.div_eq_of_lt;refine gw (aua h) ?_
   calc 2^64<=32^13:=by decide
    _<=32^(13+k+1):=Nat.pow_le_pow_right (by decide) (a_ x_ x_)
  rw[this,ank m h k];rfl
def cover(U:Msk m)(h:Int)(j:Nat)(G:j<=m):∃T,T<=13+m/\I m h T=j:=by obtain⟨k,Z,e⟩:=U.cov (I m h 13) j (a7j m h 13) G;exact⟨13+k,w_ Z,(ank m h k).trans e⟩
def aub(G:Msk m)(h:Int)(j:Nat)(Z:j<=m):∃n,n<10*turns m/\(P m h n).j=j:=by obtain⟨T,lT,e⟩:=cover G h j Z;obtain⟨n,R,U⟩:=anj m h T;exact⟨n,by unfold turns;lia,by rw[U];exact e⟩
def mod_le(a m:Nat):a%(m+1)<=m:=Nat.le_of_lt_succ (Nat.mod_lt a (Nat.succ_pos m))
def T5(h:i<=m):i<=runEnd m i/\runEnd m i<=m:=by unfold runEnd;split<;>omega
theorem a7k(m:Nat)(h:Int):∀n,(P m h n).j+(P m h n).more<=m
 |0=>by
  have:=T5 (mod_le (bits h) m);show bits h%(m+1)+(runEnd m (bits h%(m+1))-bits h%(m+1))<=m
  omega
 |n+1=>by
  have Z:=a7k m h n;show(adv m (P m h n)).j+(adv m (P m h n)).more<=m
  by_cases q:(P m h n).more > 0
  .rw[aa4 q];simp only;lia
  .rw[Wr q]
   have:=T5 (mod_le ((P m h n).i*5+1+(P m h n).perturb/32) m);show(leap m (P m h n).i (P m h n).perturb).1+(runEnd m (leap m (P m h n).i (P m h n).perturb).1-(leap m (P m h n).i (P m h n).perturb).1)<=m
   have e:(leap m (P m h n).i (P m h n).perturb).1=((P m h n).i*5+1+(P m h n).perturb/32)%(m+1):=rfl;rw[e];omega
def bdr(m:Nat)(h:Int)(n:Nat):(P m h n).j<=m:=by have:=a7k m h n;lia
def Occ(t:SetTable)(j:Nat):Prop:=∃i:Nat,t.place[i]?=some j
structure Zy(t:SetTable)(es:Array (Int×Value)):Prop where
 msk:Msk t.mask
 dum:t.dummies=#[]
 Zz:t.place.size=es.size
 srt:Srt t.place
 bnd:∀(i j:Nat),t.place[i]?=some j->j<=t.mask
 ful:t.place.size<=t.mask
 rch:∀(i j:Nat) e,t.place[i]?=some j->es[i]?=some e->∃n,(P t.mask e.1 n).j=j/\∀m,m<n->Occ t (P t.mask e.1 m).j
theorem Zy.fits(k:Zy t Z):t.fits Z.size=true:=by unfold SetTable.fits fill;rw[k.dum];simp[k.Zz];have:=k.ful;have:=k.Zz;lia
def Msk.odd(h:Msk m):m%2=1:=by rcases h with rfl|rfl|rfl|rfl|rfl<;>rfl
def Zy.way(k:Zy t Z):t.gaveWay=false:=by unfold gaveWay;rw[k.msk.odd];rfl
def anl(hs:Srt G)(h:G.size<=m):∃j,j<=m/\∀i:Nat,G[i]?≠some j:=by
 apply yf;intro hn;have all:∀j,j<=m->∃i:Nat,G[i]?=some j:=λj U=>by apply yf;intro hc;exact hn ⟨j,U,λi e=>hc ⟨i,e⟩⟩
 have:∀j,j<=m->∀i:Nat,G[i]?=some j->j<=i:=by
  intro j
  induction j with
  |zero=>intro _ i _;exact jq _
  |succ j ih =>
   intro U i e;obtain⟨R,Z⟩:=all j (by lia);have:=ih (by lia) R Z;rcases Nat.lt_trichotomy i R with l|l|l
   .have:=hs _ _ _ _ e Z l;lia
   .subst l;rw[e]at Z;injection Z with Z;exact a_ (f_ Z) this
   .exact a_ (v_ this) l
 obtain⟨i,e⟩:=all m (bh _);have h1:=this m (bh _) i e;have h2:=(jc.mp e).1;exact l_ h2 (a_ h h1)
structure Fst(t:SetTable)(h:Int)(N:Nat):Prop where
 lt:N<10*turns t.mask
 emp:¬Occ t (P t.mask h N).j
 occ:∀m,m<N->Occ t (P t.mask h m).j
def least{p:Nat->Prop}:∀{n:Nat},p n->∃k,k<=n/\p k/\∀m,m<k->¬p m:=by
 intro n
 induction n using Nat.strongRecOn with
 |ind n R =>
  intro h
  by_cases G:∃m,m<n/\p m
  .obtain⟨m,l,Z⟩:=G
   obtain⟨k,U,a,b⟩:=R m l Z;exact⟨k,e_ (c_ U l),a,b⟩
  .exact⟨n,bh _,h,λm l Z=>G ⟨m,l,Z⟩⟩
def Zy.fst(k:Zy t es)(h:Int):∃N,Fst t h N:=by obtain⟨j,G,e⟩:=anl k.srt k.ful;obtain⟨n,Z,U⟩:=aub k.msk h j G;obtain⟨N,l,a,b⟩:=least (p:=λn=>¬Occ t (P t.mask h n).j) (n:=n) (λ⟨i,c⟩=>e i (by rw[U]at c;exact c));exact⟨N,c_ l Z,a,λm R=>Classical.not_not.mp (b m R)⟩
theorem anm(k:Zy t es)(F:Fst t h N)(G:Nat->Int):∀(Z n:Nat),n<=N->N-n<Z ->
 (probe.go t G h Z (P t.mask h n)=some (.empty (P t.mask h N).j none)/\∀m,n<=m->m<N->∀i:Nat,t.place[i]?=some (P t.mask h m).j->G i≠h)
\/∃m i:Nat,n<=m/\m<N/\t.place[i]?=some (P t.mask h m).j/\G i=h/\(∀q,n<=q->q<m->∀i:Nat,t.place[i]?=some (P t.mask h q).j->G i≠h)
 /\probe.go t G h Z (P t.mask h n)=some (.candidate (P t.mask h m).j i (P t.mask h (m+1))):=by
 intro Z
 induction Z with
 |zero=>intro n _ l;omega
 |succ Z ih =>
  intro n hn l;unfold probe.go
  by_cases e:n=N
  .subst e
   left
   rw[(af9 k.srt k.dum).mpr (λi c=>F.emp ⟨i,c⟩)];simp only;rw[aa5];exact⟨rfl,λm a b=>by lia⟩
  .obtain⟨i,hi⟩:=F.occ n (by lia)
   rw[(T4 k.srt).mpr hi];simp only[a0a];have qq:adv t.mask (P t.mask h n)=P t.mask h (n+1):=rfl;rw[qq]
   by_cases R:G i=h
   .right
    refine⟨n,i,bh _,by lia,hi,R,λq a b=>by lia,?_⟩;rw[bx (by simp[R])]
   .rw[bw (by simp[R])]
    have un:∀U:Nat,t.place[U]?=some (P t.mask h n).j->G U≠h:=λU e'=>by have a:=below_at k.srt e';have b:=below_at k.srt hi;rw[<-a,b];exact R
    rcases ih (n+1) (by lia) (by lia)with⟨a,b⟩|⟨m,U,a,b,c,d,e1,e2⟩
    .left
     refine⟨a,λm x y=>?_⟩
     by_cases q:m=n
     .subst q;exact un
     .exact b m (by lia) y
    .right
     refine⟨m,U,by lia,b,c,d,λq x y=>?_,e2⟩
     by_cases z:q=n
     .subst z;exact un
     .exact e1 q (by lia) y
def Zy.ahead(k:Zy t U)(F:Fst t h N){i:Nat}(G:U[i]?=some e)(hh:e.1=h):∃m,m<N/\t.place[i]?=some (P t.mask h m).j:=by
 have R:i<t.place.size:=by rw[k.Zz];exact(jc.mp G).1
 have Z:t.place[i]?=some t.place[i]:=by simp[R]
 obtain⟨n,a,b⟩:=k.rch i _ e Z G;subst hh;refine⟨n,?_,by rw[a];exact Z⟩;rcases Nat.lt_trichotomy n N with l|l|l
 .exact l
 .subst l;exact absurd ⟨i,by rw[a];exact Z⟩ F.emp
 .exact absurd (b N l) F.emp
def aa6(G:Srt t.place)(q:Nat):Occ (t.put j).1 q↔q=j\/Occ t q:=by
 obtain⟨Z,R,U⟩:=Fj (j:=j) G;constructor
 .rintro⟨i,e⟩
  have e:(insertAt t.place (below t.place j) j)[i]?=some q:=e;rcases Pb (below t.place j) i with rfl|⟨i',rfl⟩
  .rw[Kc _ _ _ Z]at e;cases e;exact .inl rfl
  .rw[Q0 _ _ _ Z]at e;exact .inr ⟨i',e⟩
 .rintro(rfl|⟨i,e⟩)
  .exact⟨_,Kc _ _ _ Z⟩
  .exact⟨up (below t.place j) i,(Q0 _ _ _ Z i).trans e⟩
theorem Zy.put(k:Zy t R)(F:Fst t h N)(room:t.place.size+1<=t.mask) :
 Zy (t.put (P t.mask h N).j).1 (insertAt R (t.put (P t.mask h N).j).2 (h,x)):=by
 obtain⟨h1,h2,h3⟩:=Fj (j:=(P t.mask h N).j) k.srt;have U:below t.place (P t.mask h N).j<=R.size:=by rw[<-k.Zz];exact h1
 refine⟨k.msk,?_,?_,?_,?_,?_,?_⟩
 .show(if has t.dummies _ then _ else t.dummies)=#[]
  rw[k.dum,Zx];rfl
 .show(insertAt t.place _ _).size=(insertAt R _ _).size
  rw[Nq,Nq,k.Zz]
 .exact at8 k.srt (λi e=>F.emp ⟨i,e⟩)
 .intro i j e
  rcases(aa6 k.srt j).mp ⟨i,e⟩with rfl|⟨i',e'⟩
  .exact bdr _ _ _
  .exact k.bnd i' j e'
 .show(insertAt t.place _ _).size<=t.mask
  rw[Nq];exact room
 .intro i j e Z G
  have Z:(insertAt t.place (below t.place (P t.mask h N).j) (P t.mask h N).j)[i]?=some j:=Z;have G:(insertAt R (below t.place (P t.mask h N).j) (h,x))[i]?=some e:=G;show ∃n,(P t.mask e.1 n).j=j/\∀m,m<n->Occ (t.put (P t.mask h N).j).1 (P t.mask e.1 m).j
  rcases Pb (below t.place (P t.mask h N).j) i with rfl|⟨i',rfl⟩
  .rw[Kc _ _ _ h1]at Z
   rw[Kc _ _ _ U]at G;cases Z;cases G;exact⟨N,rfl,λm l=>(aa6 k.srt _).mpr (.inr (F.occ m l))⟩
  .rw[Q0 _ _ _ h1]at Z
   rw[Q0 _ _ _ U]at G;obtain⟨n,a,b⟩:=k.rch i' j e Z G;exact⟨n,a,λm l=>(aa6 k.srt _).mpr (.inr (b m l))⟩
abbrev OcO(ow:Array (Option Nat))(j:Nat):Prop:=∃i,ow[j]?=some (some i)
structure Own(m:Nat)(ow:Array (Option Nat))(hs:Xs):Prop where
 Zz:ow.size=m+1
 cnt:ow.toList.countP Option.isSome=hs.length
 lt:∀(j i:Nat),ow[j]?=some (some i)->i<hs.length
 inj:∀(j j' i:Nat),ow[j]?=some (some i)->ow[j']?=some (some i)->j=j'
 at':∀(i:Nat) h,hs[i]?=some h->∃j n,ow[j]?=some (some i)/\(P m h n).j=j/\∀q,q<n->OcO ow (P m h q).j
def getD_none{Z:Array (Option Nat)}(G:Z.size=m+1)(h:(Z.getD j (some 0)).isNone=true):Z[j]?=some none:=by
 by_cases l:j<Z.size
 .simp[Array.getD,l]at h;simp[l,h]
 .simp[Array.getD,l]at h
def getD_some(G:ow.size=m+1)(Z:j<=m)(h:¬(ow.getD j (some 0)).isNone=true):OcO ow j:=by
 have l:j<ow.size:=by lia
 simp[Array.getD,l]at h;unfold OcO;rw[show ow[j]?=some ow[j]by simp[l]];cases e:ow[j]with
 |none=>exact absurd e h|some i=>exact⟨i,rfl⟩
def ak0(hz:ow.size=m+1)(h:Int):∀(Z T n:Nat),P m h n=beg m (I m h T) (bits h/32^T)->(∀q,q<n->OcO ow (P m h q).j) ->
 (∃k,k<Z/\ow[I m h (T+k)]?=some none)->∃j U,layClean.free m ow Z (I m h T) (bits h/32^T)=some j/\(P m h U).j=j/\ow[j]?=some none/\∀q,q<U->OcO ow (P m h q).j:=by
 intro Z
 induction Z with
 |zero=>rintro T n _ _ ⟨k,l,_⟩;lia
 |succ Z ih =>
  rintro T n e hq ⟨k,lk,ek⟩;have hI:=a7j m h T;obtain⟨r1,r2⟩:=T5 hI;unfold layClean.free;cases hf:(List.range (runEnd m (I m h T)+1-I m h T)).find? λk=>(ow.getD (I m h T+k) (some 0)).isNone with
  |some c =>
   obtain⟨a,b,d⟩:=List.find?_range_eq_some.mp hf;have b:=ik.mp b;refine⟨_,n+c,rfl,by rw[adl e c (by omega)],getD_none hz a,λq l=>?_⟩
   by_cases R:q<n
   .exact hq q R
   .obtain⟨c',rfl⟩:∃c',q=n+c':=⟨q-n,by lia⟩
    rw[adl e c' (by lia)];show OcO ow (I m h T+c');exact getD_some hz (by lia) (λhh=>by
     have:=d c' (by lia);simp only[hh]at this;cases this)
  |none =>
   have Eb:=List.find?_eq_none.mp hf;have G:∀c,c<=runEnd m (I m h T)-I m h T->OcO ow (I m h T+c):=λc hc=>getD_some hz (by lia) (Eb c (ik.mpr (by lia)))
   cases k with
   |zero =>
    obtain⟨i,ei⟩:=G 0 (jq _);rw[Nat.add_zero]at ek ei;rw[ek]at ei;cases ei
   |succ k =>
    have pe:bits h/32^T/32=bits h/32^(T+1):=by rw[Nat.div_div_eq_div_mul,<-Nat.pow_succ]
    have:=ih (T+1) (n+(runEnd m (I m h T)-I m h T)+1) (by rw[ani e,pe];rfl) (λq l=>?_) ⟨k,by lia,by rw[show T+1+k=T+(k+1)by lia];exact ek⟩
    .obtain⟨j,U,e1,e2⟩:=this
     refine⟨j,U,?_,e2⟩;rw[<-e1];show layClean.free m ow Z ((I m h T*5+1+bits h/32^T/32)%(m+1)) (bits h/32^T/32)=_;rw[pe];rfl
    .by_cases R:q<n
     .exact hq q R
     .obtain⟨c',rfl⟩:∃c',q=n+c':=⟨q-n,by lia⟩
      rw[adl e c' (by lia)];show OcO ow (I m h T+c');exact G c' (by lia)
def Own.room(k:Own m ow R)(h:R.length<=m):∃j,j<=m/\ow[j]?=some none:=by
 apply yf;intro U;have:ow.toList.countP Option.isSome=ow.toList.length:=List.countP_eq_length.mpr λa ha=>by
  obtain⟨j,G,e⟩:=qm ha;cases a with
  |some i=>rfl
  |none =>
   have Z:j<ow.size:=by simpa using G
   refine absurd ⟨j,by have:=k.Zz;exact z_ (b_ Z (f_ this)),?_⟩ U;rw[<-m8,bz G,e]
 rw[k.cnt]at this;have:=k.Zz;simp at *
 lia
theorem Own.free(hm:Msk m)(k:Own m ow hs)(G:hs.length<=m)(h:Int):∃j Z,layClean.free m ow (turns m) (bits h%(m+1)) (bits h)=some j/\(P m h Z).j=j/\ow[j]?=some none/\∀q,q<Z->OcO ow (P m h q).j:=by obtain⟨j,U,e⟩:=k.room G;obtain⟨T,lT,R⟩:=cover hm h j U;have:=ak0 k.Zz h (turns m) 0 0 (by simp[P,I]) (λq l=>by lia) ⟨T,by unfold turns;lia,by rw[uy,R];exact e⟩;simpa[I]using this
def Own.lay(k:Own m ow Z)(e1:(P m h n').j=j)(R:ow[j]?=some none)(e3:∀q,q<n'->OcO ow (P m h q).j) :
 Own m (ow.setIfInBounds j (some Z.length)) (Z++[h]):=by
 have lj:j<ow.size:=(jc.mp R).1
 have get:∀q:Nat,(ow.setIfInBounds j (some Z.length))[q]?=if j=q then some (some Z.length)else ow[q]?:=λq=>by rw[Array.getElem?_setIfInBounds];split<;>simp_all
 have G:∀q,OcO ow q->OcO (ow.setIfInBounds j (some Z.length)) q:=λq ⟨i,e⟩=>by refine⟨i,?_⟩;rw[get,bw (λh=>by subst h;rw[R]at e;cases e)];exact e
 refine⟨by simp[k.Zz],?_,λq i e=>?_,λq q' i e U=>?_,λi h' e=>?_⟩
 .rw[Array.toList_setIfInBounds,List.countP_set (by simpa using lj),k.cnt]
  have:ow.toList[j]'(by simpa using lj)=none:=by have:=(jc.mp R).2;simpa using this
  rw[this];simp
 .rw[get]at e
  split at e
  .cases e;simp
  .have:=k.lt q i e;simp;exact A_ (e_ this)
 .rw[get]at e U
  split at e<;>split at U
  .lia
  .cases e;have:=k.lt _ _ U;lia
  .cases U;have:=k.lt _ _ e;lia
  .exact k.inj q q' i e U
 .by_cases l:i<Z.length
  .rw[dq l]at e
   obtain⟨j',n,a,b,c⟩:=k.at' i h' e;refine⟨j',n,?_,b,λq l=>G _ (c q l)⟩;rw[get,bw (λh=>by subst h;rw[R]at a;cases a)];exact a
  .have hi:i=Z.length:=by
    have:=(ak.mp e).1;simp at this;exact u_ (z_ this) (s_ l)
   subst hi;simp at e;subst e;exact⟨j,n',by rw[get,bx rfl],e1,λq l=>G _ (e3 q l)⟩
theorem ah7{m:Nat}(hm:Msk m):∀(Z G:Xs)(R:Array (Option Nat)),Own m R G->G.length+Z.length<=m+1 ->
 ∃U,Z.foldl (λqq h=>do
  let (owner,k) <-qq
  let j<-layClean.free m owner (turns m) (bits h%(m+1)) (bits h)
  pure (owner.setIfInBounds j (some k),k+1)) (some (R,G.length))=some (U,G.length+Z.length)/\Own m U (G++Z)
 |[],G,R,k,_=>⟨R,rfl,by simpa using k⟩
 |h::Z,G,R,k,l=>by
  obtain⟨j,n',e0,e1,e2,e3⟩:=k.free hm (by simp at l;lia) h;have k':=k.lay e1 e2 e3;obtain⟨U,a,b⟩:=ah7 hm Z (G++[h]) _ k' (by simp at l⊢;lia);refine⟨U,?_,by simpa using b⟩;rw[yj];have:(do
   let (owner,k) <-some (R,G.length)
   let j<-layClean.free m owner (turns m) (bits h%(m+1)) (bits h)
   pure (owner.setIfInBounds j (some k),k+1))=some (R.setIfInBounds j (some G.length),(G++[h]).length):=by
   show(layClean.free m R (turns m) (bits h%(m+1)) (bits h)>>=_)=_;rw[e0];simp
  rw[this,a]
  simp;lia
def ano(R:Msk m)(G:Array Int)(l:G.size<=m+1):∃Z,layClean m G=some Z/\Own m Z G.toList:=by have U:Own m (Array.replicate (m+1) none) []:=⟨by simp,by simp,λj i e=>by simp[Array.getElem?_replicate]at e,λj j' i e=>by simp[Array.getElem?_replicate]at e,λi h e=>by simp at e⟩;obtain⟨Z,a,b⟩:=ah7 R G.toList [] _ U (by simpa using l);refine⟨Z,?_,by simpa using b⟩;unfold layClean;rw[<-Array.foldl_toList];exact(mq (Option.map (·.1)) a).trans rfl
noncomputable def lv(m:Nat)(Z:Array (Option Nat)):List (Nat×Nat):=(List.range (m+1)).filterMap λj=>(Z.getD j none).map (j,·)
def Q3(k:Own m ow R):(j,i)∈lv m ow↔ow[j]?=some (some i):=by
 unfold lv;rw[List.mem_filterMap];constructor
 .rintro⟨q,a,b⟩
  obtain⟨U,Z,G⟩:=cj.mp b;cases G;have:j<ow.size:=by rw[k.Zz];exact ik.mp a
  simp[Array.getD,this]at Z;simp[this,Z]
 .intro e
  have l:=(jc.mp e).1;refine⟨j,ik.mpr (by rw[<-k.Zz];exact l),?_⟩;have:ow.getD j none=some i:=by simp[Array.getD,l,(jc.mp e).2]
  rw[this];rfl
def anp(m:Nat)(R:Array (Option Nat)):(lv m R).Pairwise λa b=>a.1<b.1:=by unfold lv;refine List.Pairwise.filterMap _ (λa a' U b G b' Z=>?_) List.pairwise_lt_range;obtain⟨_,_,rfl⟩:=cj.mp G;obtain⟨_,_,rfl⟩:=cj.mp Z;exact U
def auc(k:Own m ow G):((lv m ow).map (·.2)).Perm (List.range G.length):=by
 refine(List.perm_ext_iff_of_nodup ?_ List.nodup_range).mpr λi=>?_
 .rw[m7,yw]
  refine(anp m ow).imp_of_mem fun{a b} Z hb Jk e=>?_
  have:=k.inj a.1 b.1 a.2 ((Q3 k).mp Z) (by rw[e];exact(Q3 k).mp hb);exact l_ Jk (g_ this)
 .rw[bf,ik]
  constructor
  .rintro⟨a,Z,rfl⟩;exact k.lt _ _ ((Q3 k).mp Z)
  .intro l
   obtain⟨j,n,a,_⟩:=k.at' i _ (bz l);exact⟨(j,i),(Q3 k).mpr a,rfl⟩
theorem anq{G U:Type}{g:G->Option U}:∀{l:List G},(∀x∈l,(g x).isSome=true)->∀q:Nat,(l.filterMap g)[q]?=l[q]?.bind g
 |[],_,q=>by simp
 |x::l,h,q=>by
  have Z:=h x (dh ..);obtain⟨y,e⟩:=j6.mp Z;rw[List.filterMap_cons_some e];cases q with
  |zero=>simp[e]|succ q=>simpa using anq (λx Z=>h x (bc _ Z)) q
def ah8(hm:Msk m)(fg mv:Nat)(ld pl:Bool)(G:Array (Int×Value))(l:G.size<=m) :
 ∃t Z,laid m fg mv ld pl (G.map (·.1))=some (t,Z)/\t.mask=m/\Zy t (Z.filterMap (G[·]?))/\(Z.filterMap (G[·]?)).toList.Perm G.toList/\(Z.filterMap (G[·]?)).size=G.size
 /\t.led=ld/\t.plain=pl/\t.finger=fg/\Z.toList.Perm (List.range G.size):=by
 obtain⟨U,e,k⟩:=ano hm (G.map (·.1)) (by simp;exact a_ l x_);have Z0:=auc k;simp at Z0;have qq:(lv m U).length=G.size:=by have:=Z0.length_eq;simpa using this
 have qj:((((lv m U).map (·.2)).toArray).filterMap (G[·]?)).size=G.size:=by have:=(Z0.filterMap (G[·]?)).length_eq;rw[filterMap_getElem?_range]at this;rw[<-ql,Array.toList_filterMap,this];simp
 refine⟨{ mask:=m,place:=((lv m U).map (·.1)).toArray,dummies:=#[],finger:=fg,led:=ld,moves:=mv,plain:=pl },((lv m U).map (·.2)).toArray,?_,rfl,?_,?_,?_,rfl,rfl,rfl,Z0⟩
 .unfold laid;rw[e];rfl
 .have qk:∀x∈(lv m U).map (·.2),(G[x]?).isSome=true:=λx hx=>by
   have:=ik.mp (Z0.mem_iff.mp hx)
   simp;exact this
  have get:∀q:Nat,((((lv m U).map (·.2)).toArray).filterMap (G[·]?))[q]?=((lv m U)[q]?).bind λa=>G[a.2]?:=λq=>by rw[<-m8,Array.toList_filterMap,anq qk,iz];cases(lv m U)[q]?<;>rfl
  have R:∀q j:Nat,(((lv m U).map (·.1)).toArray)[q]?=some j↔∃i,(lv m U)[q]?=some (j,i):=λq j=>by
   simp only[List.getElem?_toArray,iz,cj];constructor
   .rintro⟨a,h,rfl⟩;exact⟨a.2,h⟩
   .rintro⟨i,h⟩;exact⟨_,h,rfl⟩
  refine⟨hm,rfl,?_,?_,?_,?_,?_⟩
  .show(((lv m U).map (·.1)).toArray).size=_
   rw[qj];simp[qq]
  .intro i j a b ea eb lt
   obtain⟨i1,e1⟩:=(R i a).mp ea;obtain⟨i2,e2⟩:=(R j b).mp eb;obtain⟨l1,g1⟩:=ak.mp e1;obtain⟨l2,g2⟩:=ak.mp e2;have:=List.pairwise_iff_getElem.mp (anp m U) i j l1 l2 lt;rw[g1,g2]at this;exact this
  .intro i j e
   obtain⟨i1,e1⟩:=(R i j).mp e;have:=(Q3 k).mp (ao e1);have:=(jc.mp this).1;rw[k.Zz]at this;show j<=m
   exact z_ this
  .show(((lv m U).map (·.1)).toArray).size<=m
   simp[qq];exact l
  .intro q j e' hp he
   obtain⟨i,e1⟩:=(R q j).mp hp;rw[get,e1]at he;have he:G[i]?=some e':=he;obtain⟨j',n,a,b,c⟩:=k.at' i e'.1 (by simp[he]);have hj:=k.inj j j' i ((Q3 k).mp (ao e1)) a;subst hj;refine⟨n,b,λw lw=>?_⟩;obtain⟨i',qv⟩:=c w lw;obtain⟨z,hz⟩:=yd.mp ((Q3 k).mpr qv);exact⟨z,(R z _).mpr ⟨i',hz⟩⟩
 .rw[Array.toList_filterMap]
  have:=Z0.filterMap (G[·]?);rw[filterMap_getElem?_range]at this;exact this
 .exact qj
def Z3:∀n,n<32->Msk (sizeAbove (grown n)-1)/\n<=sizeAbove (grown n)-1/\n+1<=sizeAbove (grown n)-1/\¬(n*5 >= (sizeAbove (grown n)-1)*3)/\sizeAbove (grown n)<=128:=by unfold Msk;decide+kernel
def anr:∀n,n<64->Msk (sizeAbove (n*2)-1)/\n<=sizeAbove (n*2)-1/\¬(n*5 >= (sizeAbove (n*2)-1)*3)/\sizeAbove (n*2)<=128:=by unfold Msk;decide+kernel
section
variable{prog:Program}{w:World}{K:Type}[DecidableEq K]{knd:KeyKind prog w K}{A:Around}{E:Y1}{s:Shared}
def aga(n:Nat)(h:carriedByValue v=true):ofAClassStatement n v=pure false:=by cases v<;>first|(simp[carriedByValue]at h;done)|(unfold ofAClassStatement;rfl)
def Wt(hk:IsTupleKey knd s.heap ks a)(h:Q false s):wpAny (model prog w) A (ofAClassStatement 8 (.ref a)) Q E s:=by
 have hT:=hk.typeIs;obtain⟨o,G,n,ho,_,hd,hi⟩:=hk;unfold ofAClassStatement;refine aa (qb hT ?_);show wpAny _ _ (if("tuple"=="tuple")=true then _ else _) _ _ s;rw[bx (by decide)];refine aa (aj ?_);simp only[qt,cz,jg];refine aa (q9 ho hd ?_);refine aa ?_;show wpAny _ _ (forIn G _ _) _ _ s;rw[<-Array.forIn_toList];refine qd _ (λZ r R=>r.1=none/\R=s/\∀v∈Z,carriedByValue v=true) _ ?_ ?_ _ _ ⟨rfl,rfl,hi.byValue⟩
 .rintro v Z r R ⟨hr,rfl,Eb⟩
  rw[aga _ (Eb v dh)];refine aa (aj ?_);simp only[cz,jg];exact aj ⟨rfl,rfl,λu U=>Eb u (bc _ U)⟩
 .rintro⟨r1,r2⟩ R ⟨hr,rfl,_⟩
  simp only at hr;subst hr;exact aj h
def ant(hk:IsTupleKey knd s.heap G a)(hs:∀v∈st,∃G b,v=.ref b/\IsTupleKey knd s.heap G b)(h:Q false s) :
 wpAny (model prog w) A (searchCouldBeSeen (.ref a) st) Q E s:=by
 unfold searchCouldBeSeen;refine aa ?_;refine qd _ (λZ r R=>r.1=none/\R=s/\∀v∈Z,∃G b,v=.ref b/\IsTupleKey knd s.heap G b) _ ?_ ?_ _ _ ⟨rfl,rfl,hs⟩
 .rintro v Z r R ⟨hr,rfl,Eb⟩
  obtain⟨qq,b,rfl,hb⟩:=Eb v dh;have U:∀v∈Z,∃G b,v=.ref b/\IsTupleKey knd R.heap G b:=λv hv=>Eb v (bc _ hv)
  dsimp only;split
  .exact aj ⟨rfl,rfl,U⟩
  .refine aa (wpAny_eqIsQuiet_tuple hk ?_)
   simp only[qt,cz,jg];refine aa (wpAny_eqIsQuiet_tuple hb ?_);simp only[qt,cz,jg];refine aa (Wt hk ?_);simp only[cz,jg];refine aa (Wt hb ?_);simp only[cz,jg];exact aj ⟨rfl,rfl,U⟩
 .rintro⟨r1,r2⟩ R ⟨hr,rfl,_⟩
  simp only at hr;subst hr;exact aj h
noncomputable def ent(knd:KeyKind prog w K)(x:List K×Addr):Int×Value:=(tupleKeyHash knd x.1,.ref x.2)
def agb{G:Array (Int×Value)}{Z:List (List K×Addr)}(U:G.toList=Z.map (ent knd))(j:Nat):G[j]?=(Z[j]?).map (ent knd):=by rw[<-m8,U,iz]
def ak1{xs:List (List K×Addr)}(hu:A.units<cLine)(hk:IsTupleKey knd s.heap k p)(ho:s.heap.get? a=some o)(hd:o.data=.set es ep t)(T:Zy t es)(he:es.toList=xs.map (ent knd))(hx:∀x∈xs,IsTupleKey knd s.heap x.1 x.2)(hn:(xs.map (·.1)).Nodup)(F:Fst t (tupleKeyHash knd k) N)(Zi:∀(i:Nat) x,xs[i]?=some x->x.1=k->Q (.there (if adding then none else some i)) s)(q6:(∀x∈xs,x.1≠k)->Q (.free (P t.mask (tupleKeyHash knd k) N).j false) s) :
 ∀(Z n:Nat)(st:Option Probe),n<=N->N-n<Z->st.getD (t.probeStart (tupleKeyHash knd k))=P t.mask (tupleKeyHash knd k) n ->
  (∀m,m<n->∀(i:Nat) x,t.place[i]?=some (P t.mask (tupleKeyHash knd k) m).j->xs[i]?=some x->x.1≠k) ->
  wpAny (model prog w) A (setSearchFrom a (.ref p) (tupleKeyHash knd k) adding Z st) Q E s:=by
 intro Z
 induction Z with
 |zero=>intro n st _ l;omega
 |succ Z ih =>
  intro n st zk l Zj q2;unfold setSearchFrom;refine aa (jt ho hd T.fits ?_);dsimp only;rw[T.way,Zj];simp only[cz,jg];have zq:=anm T F (λi=>(es[i]?.map (·.1)).getD 0) (10*turns t.mask) n zk (by have:=F.lt;exact c_ C_ this);generalize qq:t.probe _ (tupleKeyHash knd k) (P t.mask (tupleKeyHash knd k) n)=pr;have qq:t.probe (λi=>(es[i]?.map (·.1)).getD 0) (tupleKeyHash knd k) (P t.mask (tupleKeyHash knd k) n)=pr:=qq;have atI:∀(i j:Nat),t.place[i]?=some j->∃x,xs[i]?=some x/\es[i]?=some (ent knd x):=λi j e=>by
   have li:i<es.size:=by rw[<-T.Zz];exact(jc.mp e).1
   have lx:i<xs.length:=by have:=mq List.length he;simp at this;exact b_ li (f_ this)
   refine⟨xs[i],by simp[lx],?_⟩;rw[agb he];simp[lx]
  rcases zq with⟨e,Z4⟩|⟨m,i,h1,h2,h3,h4,h5,e⟩
  .have e:pr=_:=qq.symm.trans e
   subst e;dsimp only;refine aj (q6 λx q5 G=>?_);obtain⟨i,hi⟩:=yd.mp q5;have U:es[i]?=some (ent knd x):=by rw[agb he,hi];rfl
   obtain⟨m,lm,hp⟩:=T.ahead F U (by unfold ent;rw[G])
   by_cases q3:m<n
   .exact q2 m q3 i x hp hi G
   .refine Z4 m (s_ q3) lm i hp ?_
    rw[U];show tupleKeyHash knd x.1=_;rw[G]
  .have e:pr=_:=qq.symm.trans e
   subst e;dsimp only;obtain⟨x,q0,U⟩:=atI i _ h3;have q7:=hx x (ao q0);have q4:∀{R:Bool->Shared->Prop},R false s->wpAny (model prog w) A (searchCouldBeSeen (.ref p) ((es.filter (·.1==tupleKeyHash knd k)).toList.map (·.2))) R E s:=λhR=>ant hk (λv hv=>by
    obtain⟨y,hy,rfl⟩:=bf.mp hv;have q1:y∈es.toList:=by simp at hy;simpa using hy.1
    rw[he]at q1;obtain⟨z,hz,rfl⟩:=bf.mp q1;exact⟨z.1,z.2,rfl,hx z hz⟩) hR
   rcases Bool.eq_false_or_eq_true t.led with a7p|a7p
   all_goals
    simp only[a7p,qt,za,cz,jg,jw]
    first
    |(rw[U];show wpAny _ _ (holding [.ref x.2] (eqBool (.ref x.2) (.ref p))>>=_) _ _ _)
    |(refine aa (q4 ?_);simp only[cz,jg];rw[U];show wpAny _ _ (holding [.ref x.2] (eqBool (.ref x.2) (.ref p))>>=_) _ _ _)
    refine aa (ji (wpAny_eqBool_tuple hu q7 hk ?_));refine aa (jt ho hd T.fits ?_);dsimp only;have zz:t.sameMemory t.moves t.mask=some true:=by unfold sameMemory;simp
    rw[zz];dsimp only;rw[bx rfl,(T4 T.srt).mpr h3];dsimp only;rw[U]
    by_cases G:x.1=k
    .have qv:decide (x.1=k)=true:=by simp[G]
     rw[qv];have hq:=Zi i x q0 G;cases adding
     .simp only[Bool.false_and,cz,jg]
      refine aa (wpAny_isSame_ref_self ?_);refine aa (aj ?_);simpa using aj hq
     .simp only[Bool.and_self,jw]
      exact aj hq
    .have qv:decide (x.1=k)=false:=by simp[G]
     rw[qv];simp only[Bool.and_false,cz,jg];refine aa (wpAny_isSame_ref_self ?_);refine aa (aj ?_);simp only[jw];refine ih (m+1) _ h2 (by lia) rfl λm' zw i' x' qk qj=>?_
     by_cases hc:m'<n
     .exact q2 m' hc i' x' qk qj
     .by_cases hm:m'=m
      .subst hm
       have ei:i'=i:=by rw[<-below_at T.srt qk,<-below_at T.srt h3]
       subst ei;rw[q0]at qj;cases qj;exact G
      .intro q8
       have zv:es[i']?=some (ent knd x'):=by rw[agb he,qj];rfl
       refine h5 m' (s_ hc) (by lia) i' qk ?_;rw[zv];show tupleKeyHash knd x'.1=_;rw[q8]
end
section
variable{prog:Program}{w:World}{K:Type}[DecidableEq K]{knd:KeyKind prog w K}{pk:List K×Addr->Prop}{A:Around}{E:Y1}{s:Shared}
noncomputable abbrev bt(w:World):Bool:=w.params.followText "set-order"
def Wa(h:Q (bt w) s):wpAny (model prog w) A setsByText Q E s:=by unfold setsByText;exact aa (wpAny_askSetting (aj h))
def T6(knd:KeyKind prog w K)(pk:List K×Addr->Prop):Prop:=∀x,pk x->∀k∈x.1,∀v n,knd.is k v=true->hashByValue n v=pure true
theorem Ux:∀{Z:List K}{G:Zl},ItemsAre knd Z G->(∀k∈Z,∀v n,knd.is k v=true->hashByValue n v=pure true)->∀v∈G,∀n,hashByValue n v=pure true
 |_,_,.nil,_,v,h=>by simp at h
 |_,_,.cons h t,hp,v,hv=>by
  rcases cu.mp hv with rfl|hv
  .exact λn=>hp _ dh _ n h
  .exact Ux t (λk U=>hp k (bc _ U)) v hv
def agc(qq:T6 knd pk)(hk:IsTupleKey knd s.heap ks a)(hp:pk (ks,a))(h:Q true s):wpAny (model prog w) A (hashByValue 8 (.ref a)) Q E s:=by
 have hT:=hk.typeIs;obtain⟨o,G,n,ho,_,hd,hi⟩:=hk;unfold hashByValue;refine aa (wpAny_specialOf hT F.slot_tuple_hash.lookup ?_);dsimp only;refine aa (q9 ho hd ?_);refine aa ?_;show wpAny _ _ (forIn G _ _) _ _ s;rw[<-Array.forIn_toList];refine qd _ (λZ r R=>r.1=none/\R=s/\∀v∈Z,∀n,hashByValue n v=pure true) _ ?_ ?_ _ _ ⟨rfl,rfl,Ux hi (qq _ hp)⟩
 .rintro v Z r R ⟨hr,rfl,Eb⟩
  rw[Eb v dh];refine aa (aj ?_);simp only[qt,cz,jg];exact aj ⟨rfl,rfl,λu U=>Eb u (bc _ U)⟩
 .rintro⟨r1,r2⟩ R ⟨hr,rfl,_⟩
  simp only at hr;subst hr;exact aj h
structure T7(knd:KeyKind prog w K)(pk:List K×Addr->Prop)(h:Heap)(a:Addr)(xs:List (List K×Addr))(o:Obj)(es:Array (Int×Value))(ep:Nat)(t:SetTable):Prop where
 get:h.get? a=some o
 exa:o.ExactSet
 dat:o.data=.set es ep t
 tab:Zy t es
 ent:es.toList=xs.map (ent knd)
 keys:∀x∈xs,IsTupleKey knd h x.1 x.2/\pk x
 nod:(xs.map (·.1)).Nodup
 led:t.led=!bt w
 pla:t.plain=true
def Dl(knd:KeyKind prog w K)(pk:List K×Addr->Prop)(h:Heap)(a:Addr)(S:List K->Prop)(n:Nat):Prop:=∃Z o U G t,T7 knd pk h a Z o U G t/\(∀k,S k↔k∈Z.map (·.1))/\Z.length=n/\t.place.size*5<t.mask*3
theorem T7.size(X:T7 knd pk h a Z o G U t):G.size=Z.length:=by have:=mq List.length X.ent;simpa using this
def anu(p:Addr)(Z:Array (Int×Value)):byScan (.ref p) Z=false:=by unfold byScan;simp[Value.scannable]
def anv(h:Msk m):10*turns m<100000:=by rcases h with rfl|rfl|rfl|rfl|rfl<;>decide
def Wu(hu:A.units<cLine)(U:IsTupleKey knd s.heap k p)(X:T7 knd pk s.heap a G o es ep t)(F:Fst t (tupleKeyHash knd k) N)(R:∀(i:Nat) x,G[i]?=some x->x.1=k->Q (.there (if adding then none else some i)) s)(Z:(∀x∈G,x.1≠k)->Q (.free (P t.mask (tupleKeyHash knd k) N).j false) s) :
 wpAny (model prog w) A (setSearch a (.ref p) (tupleKeyHash knd k) adding) Q E s:=by
 unfold setSearch;exact ak1 hu U X.get X.dat X.tab X.ent (λx hx=>(X.keys x hx).1) X.nod F R Z 100000 0 none (jq _) (by have:=F.lt;have:=anv X.tab.msk;lia) (adk _ _) (λm l=>by lia)
def aui(hu:A.units<cLine)(U:IsTupleKey knd s.heap k p)(hS:Dl knd pk s.heap a S n)(h:∀r:Option Nat,(r.isSome=true↔S k)->Q r s):wpAny (model prog w) A (setFind a (.ref p) (tupleKeyHash knd k)) Q E s:=by
 obtain⟨xs,o,es,ep,t,X,G,_,_⟩:=hS;obtain⟨N,F⟩:=X.tab.fst (tupleKeyHash knd k);unfold setFind setFindIn;refine aa (jt X.get X.dat X.tab.fits ?_);dsimp only;rw[anu];simp only[cz,jg];refine aa (Wu hu U X F (λi x R Z=>?_) (λZ4=>?_))
 .simp only[cz,jg]
  exact aj (h _ (by simp;exact(G k).mpr (bf.mpr ⟨x,ao R,Z⟩)))
 .dsimp only
  refine aj (h _ ?_);simp only[Option.isSome_none,cz,false_iff];intro hs;obtain⟨x,Z,e⟩:=bf.mp ((G k).mp hs);exact Z4 x Z e
end
def Ec{α β:Type}{f:α->β}:∀{l R:List β},l.Perm R->∀{xs:List α},R=xs.map f->∃Z:List α,l=Z.map f/\Z.Perm xs:=by
 intro l R p
 induction p with
 |nil=>intro xs e;cases xs with
  |nil=>exact⟨[],rfl,.nil⟩|cons _ _=>cases e
 |cons a p ih =>
  intro xs e;cases xs with
  |nil=>cases e
  |cons x xs =>
   simp only[gr,List.cons.injEq]at e;obtain⟨Z,G,p1⟩:=ih e.2;exact⟨x::Z,by simp[G,e.1],p1.cons x⟩
 |swap a b l =>
  intro xs e
  match xs,e with
  |x::y::xs,e =>
   simp only[gr,List.cons.injEq]at e;obtain⟨rfl,rfl,rfl⟩:=e;exact⟨y::x::xs,rfl,.swap x y xs⟩
 |trans p q qq U =>
  intro xs e;obtain⟨ys,G,p1⟩:=U e;obtain⟨zs,e2,p2⟩:=qq G;exact⟨zs,e2,p2.trans p1⟩
section
variable{prog:Program}{w:World}{K:Type}[DecidableEq K]{knd:KeyKind prog w K}{pk:List K×Addr->Prop}{A:Around}{E:Y1}{s:Shared}
def anw(x:IsTupleKey knd h ks p)(ho:h.get? a=some o)(hd:o.data=.set es ep t)(hs:Heap.SameBut a h h'):IsTupleKey knd h' ks p:=by
 obtain⟨R,G,n,U,hc,Z,hi⟩:=x;have Uy:p≠a:=by rintro rfl;obtain rfl:R=o:=jk (U.symm.trans ho);rw[hd]at Z;exact nomatch Z
 exact⟨R,G,n,(hs.2 p Uy).trans U,hc,Z,hi⟩
def newX(X:T7 knd pk h a xs o es U t)(T':Zy t' Z)(he:Z.toList=G.map (ent knd))(R:∀x∈G,IsTupleKey knd h x.1 x.2/\pk x)(hn:(G.map (·.1)).Nodup)(hl:t'.led=!bt w)(hp:t'.plain=true) :
 T7 knd pk (h.update a (Obj.putSet Z t')) a G { o with data:=.set Z (U+1) t' } Z (U+1) t':=by
 have hg:(h.update a (Obj.putSet Z t')).get? a=some { o with data:=.set Z (U+1) t' }:=by have:=mj (Obj.putSet Z t') X.get (by rw[putSet_of Z t' X.dat];rfl);rw[putSet_of Z t' X.dat]at this;exact this
 exact⟨hg,X.exa,rfl,T',he,λx hx=>⟨anw (R x hx).1 X.get X.dat (jz h a _),(R x hx).2⟩,hn,hl,hp⟩
def Kd(h:n<=128):n<=sizeLine:=by rw[p8];exact a_ h (by decide)
def adp(X:T7 knd pk s.heap a xs o G ep t)(hm:Msk (sizeAbove wanted-1))(hz:G.size<=sizeAbove wanted-1)(hb:sizeAbove wanted<=128)(h:∀h' U o' R qj t',Heap.SameBut a s.heap h'->T7 knd pk h' a U o' R qj t'->U.Perm xs->t'.mask=sizeAbove wanted-1->t'.place.size=G.size->Q () { s with heap:=h' }) :
 wpAny (model prog w) A (setRelay a wanted) Q E s:=by
 obtain⟨t',Z,e,e1,T',p,sz,hl,hp,_⟩:=ah8 hm t.finger (t.movedTo (sizeAbove wanted-1)) t.led t.plain G hz;unfold setRelay;refine aa (jt X.get X.dat X.tab.fits ?_);dsimp only;rw[bw (by have:=Kd hb;exact j_ this)];have er:t.relaid (G.map (·.1)) wanted=some (t',Z):=e;rw[er];refine aa ?_;have qq:wpAny (model prog w) A (if((Z.filterMap (G[·]?)).size != G.size)=true then(do unsupported "internal:set-table-lost-an-element";pure (Z.filterMap (G[·]?),t'))else pure (Z.filterMap (G[·]?),t'))
  (λr s'=>wpAny (model prog w) A (storeSet a r.1 r.2) Q E s') E s:=by
  rw[bw (by simp[sz])];refine aj ?_;obtain⟨U,ex,px⟩:=Ec p X.ent;have hX:=newX X T' ex (λx hx=>X.keys x (px.mem_iff.mp hx)) ((px.map _).nodup_iff.mpr X.nod) (hl.trans X.led) (hp.trans X.pla);refine wpAny_storeSet_of X.get X.dat (h _ _ _ _ _ _ (jz s.heap a _) hX px e1 (by rw[T'.Zz,sz])) (Kd (by rw[sz];exact a_ hz (a_ C_ hb)))
 exact qq
def aa7(q2:T6 knd pk)(hu:A.units<cLine)(hk:IsTupleKey knd s.heap k p)(hp:pk (k,p))(hS:Dl knd pk s.heap a S n)(hn:n+1<32)(h:∀h' n' b,Heap.SameBut a s.heap h'->Dl knd pk h' a (λG=>S G\/G=k) n'->n'<=n+1->Q b { s with heap:=h' }) :
 wpAny (model prog w) A (setAddHashed a (.ref p) (tupleKeyHash knd k)) Q E s:=by
 obtain⟨xs,o,es,ep,t,X,hm,hl,nf⟩:=hS;obtain⟨N,F⟩:=X.tab.fst (tupleKeyHash knd k);have qv:=X.size;unfold setAddHashed setAddHashedIn;refine ji (aa (jt X.get X.dat X.tab.fits ?_));dsimp only;rw[anu];simp only[cz,jg];refine aa (Wu hu hk X F (λi x hi R=>?_) (λZ4=>?_))
 .dsimp only
  refine aj ?_;have q3:S k:=(hm k).mpr (bf.mpr ⟨x,ao hi,R⟩);have:=h s.heap n false (Heap.SameBut.refl a s.heap) ⟨xs,o,es,ep,t,X,λG=>by
   rw[<-hm G];exact⟨λh=>h.elim id (λe=>e▸q3),.inl⟩,hl,nf⟩ x_
  exact this
 .dsimp only
  refine aa (jt X.get X.dat X.tab.fits ?_);dsimp only;have room:t.place.size+1<=t.mask:=by have:=X.tab.msk;rcases this with e|e|e|e|e<;>lia
  have T':=X.tab.put (x:=.ref p) F room;have Jg:(t.put (P t.mask (tupleKeyHash knd k) N).j).1.plain=true:=X.pla;rw[Jg];simp only[jw];refine aa (agc q2 hk hp ?_);simp only[jw];obtain⟨U,ex,px⟩:=Ec (f:=ent knd) (insertAt_perm es (t.put (P t.mask (tupleKeyHash knd k) N).j).2 (tupleKeyHash knd k,.ref p)) (xs:=xs++[(k,p)]) (by rw[Array.toList_push,X.ent,qw];rfl);have pm:=px.map (·.1);have q5:(U.map (·.1)).Nodup:=pm.nodup_iff.mpr (by
   rw[qw,yu];refine⟨X.nod,by simp,λa ha b hb=>?_⟩;simp at hb;subst hb;rintro rfl;obtain⟨x,R,e⟩:=bf.mp ha;exact Z4 x R e)
  have Wv:∀x∈U,IsTupleKey knd s.heap x.1 x.2/\pk x:=λx R=>by
   rcases dw.mp (px.mem_iff.mp R)with R|R
   .exact X.keys x R
   .simp at R;subst R;exact⟨hk,hp⟩
  have hX:=newX X T' ex Wv q5 X.led X.pla;have Jh:∀G,(S G\/G=k)↔G∈U.map (·.1):=λG=>by rw[pm.mem_iff,qw,dw,hm G];simp
  have qj:U.length=n+1:=by rw[px.length_eq];simp[hl]
  have qq:(insertAt es (t.put (P t.mask (tupleKeyHash knd k) N).j).2 (tupleKeyHash knd k,.ref p)).size=es.size+1:=Nq _ _ _;refine aa (wpAny_storeSet_of X.get X.dat ?_ (Kd (by rw[qq];exact e_ (c_ (v_ (f_ qv)) (c_ (v_ (f_ hl)) (b_ hn (by decide)))))));have qk:(t.put (P t.mask (tupleKeyHash knd k) N).j).1.place.size=es.size+1:=by rw[T'.Zz,qq]
  by_cases Z:(t.put (P t.mask (tupleKeyHash knd k) N).j).1.tooFull=true
  .rw[Z]
   simp only[za,Bool.and_self,jw];obtain⟨g1,g2,g3,g4,g5⟩:=Z3 (es.size+1) (c_ (v_ (f_ qv)) (c_ (v_ (f_ hl)) hn));refine aa (adp hX g1 (by rw[qq];exact g2) g5 λh' q0 o2 q4 q1 t2 sb X2 p2 em ps=>?_);refine aj (h h' (n+1) true ((jz s.heap a _).trans sb) ⟨q0,o2,q4,q1,t2,X2,λG=>?_,by rw[p2.length_eq,qj],?_⟩ (bh _))
   .exact(Jh G).trans (p2.map (·.1)).mem_iff.symm
   .rw[ps,em,qq];exact t_ g4
  .rw[Bool.not_eq_true]at Z
   rw[Z];simp only[Bool.and_false,cz,jg];refine aj (h _ (n+1) true (jz s.heap a _) ⟨U,_,_,_,_,hX,Jh,qj,?_⟩ (bh _));unfold tooFull at Z;have hf:(t.put (P t.mask (tupleKeyHash knd k) N).j).1.fill=es.size+1:=by unfold fill;rw[qk,T'.dum];rfl
   rw[hf]at Z;rw[qk];simp at Z;exact Z
end
open PySem
def upto(J:Nat->β->Shared->Prop)(G:∀i b z,i<n->J i b z->wpAny M A (f i b) (λr R=>match r with|.yield Z=>J (i+1) Z R|.done Z=>Q Z R) E z)(fin:∀b z,J n b z->Q b z)(start:J 0 b s) :
 wpAny M A (forIn [:n] b f) Q E s:=by
 have go:∀(k i:Nat)(b:β)(z:Shared),n=i+k->J i b z->wpAny M A (forIn (List.range' i k) b f) Q E z:=by
  intro k
  induction k with
  |zero=>intro i b z e hj;subst e;exact aj (fin b z hj)
  |succ k ih =>
   intro i b z e hj;show wpAny M A (forIn (i::List.range' (i+1) k) b f) Q E z;rw[List.forIn_cons];refine aa (j7 (G i b z (by lia) hj) (λr R U=>?_) λ_ _ x=>x)
   match r,U with
   |.done Z,U=>exact aj U|.yield Z,U=>exact ih (i+1) Z R (by lia) U
 have e:(forIn [:n] b f:Sem β)=forIn (List.range' 0 n) b f:=by rw[vq];simp[Std.Legacy.Range.size]
 rw[e];exact go n 0 b s (by lia) start
def sub_dict_set:isSubtype (.type "dict") (.type "set")=pure false:=by rw[isSubtype_type];kernel_rfl
def sub_dict_frozenset:isSubtype (.type "dict") (.type "frozenset")=pure false:=by rw[isSubtype_type];kernel_rfl
section
variable{prog:Program}{w:World}{K:Type}[DecidableEq K]{knd:KeyKind prog w K}{pk:List K×Addr->Prop}{A:Around}{E:Y1}{s:Shared}
def Hj(Z:s.TypeIs v T)(G:isSubtype (.type T) (.type "set")=pure false)(U:isSubtype (.type T) (.type "frozenset")=pure false)(h:Q false s) :
 wpAny (model prog w) A (Builtin.Frozenset.isAnySet v) Q E s:=by
 unfold Builtin.Frozenset.isAnySet;refine aa (o5 Z G ?_);exact o5 Z U h
def bdz(Z:s.TypeIs v "set")(h:Q true s):wpAny (model prog w) A (Builtin.Frozenset.isAnySet v) Q E s:=by unfold Builtin.Frozenset.isAnySet;refine aa (o5 Z sub_set_self ?_);exact aj h
def Az(w:World):Obj:={ cls:=.type "set",dict:=none,data:=.set #[] 0 (.fresh 0 0 (!bt w)) }
def aul(G:h.get? a=some (Az w)):Dl knd pk h a (λ_=>False) 0:=
 ⟨[],Az w,#[],0,_,⟨G,⟨rfl,rfl,rfl⟩,rfl,⟨.inl rfl,rfl,rfl,λi j a b e=>by simp[SetTable.fresh]at e,λi j e=>by simp[SetTable.fresh]at e,by simp[SetTable.fresh],λi j e a=>by simp[SetTable.fresh]at a⟩,
  rfl,λx Z=>by simp at Z,Ar,rfl,rfl⟩,λk=>by simp,rfl,by simp[SetTable.fresh]⟩
set_option tactic.hygienic true in
def aum(hS:Dl knd pk s.heap a S n)(hl:n+m<64)(h:∀Z,Heap.SameBut a s.heap Z->Dl knd pk Z a S n->Q () { s with heap:=Z }):wpAny (model prog w) A (setRoomFor a m) Q E s:=by
 obtain⟨xs,o,es,ep,t,X,u,C,nf⟩:=hS;have G:=X.size;unfold setRoomFor;refine aa (jt X.get X.dat X.tab.fits ?_);dsimp only;unfold roomFor;have R:=X.tab.Zz;split
 .rename_i Y e
  split at e
  .cases e
   obtain⟨g1,g2,g3,g4⟩:=anr (t.place.size+m) (c_ (v_ (f_ R)) (c_ (v_ (f_ G)) (c_ (v_ (f_ C)) hl)));refine adp X g1 (by lia) g4 λZ J o2 L U t2 sb X2 y em ps=>h Z sb ⟨J,o2,L,U,t2,X2,λk'=>?_,by rw[y.length_eq,C],?_⟩
   .exact(u k').trans (y.map (·.1)).mem_iff.symm
   .rw[ps,em];lia
  .cases e
 .exact aj (h s.heap (Heap.SameBut.refl _ _) ⟨xs,o,es,ep,t,X,u,C,nf⟩)
theorem Dl.get(U:Dl knd pk h a S n):∃o Z G t,h.get? a=some o/\o.ExactSet/\o.data=.set Z G t/\t.fits Z.size=true:=
 let ⟨_,o,Z,G,t,X,_⟩:=U;⟨o,Z,G,t,X.get,X.exa,X.dat,X.tab.fits⟩
def Dl.typeIs(Z:Dl knd pk s.heap a S n):s.TypeIs (.ref a) "set":=
 let ⟨o,_,_,_,ho,hc,_⟩:=Z.get;⟨o,ho,hc.1⟩
def Dl.congr(G:Dl knd pk h a S n)(e:∀k,S k↔Z k):Dl knd pk h a Z n:=
 let ⟨xs,o,es,ep,t,X,hm,r⟩:=G;⟨xs,o,es,ep,t,X,λk=>(e k).symm.trans (hm k),r⟩
def anz(zz:T6 knd pk){id:String}(hu:A.units<cLine)(hS:Dl knd pk s.heap a S n)(hd:s.heap.DictOfH (tupleKind knd) d Z)(zw:(d==sysModules)=false)(z0:∀x∈Z,pk (x.1,x.2.1))(hl:n+Z.length<31)(h:∀U n',Heap.SameBut a s.heap U->Dl knd pk U a (λk=>S k\/k∈Z.map (·.1)) n'->Q () { s with heap:=U }) :
 wpAny (model prog w) A (Builtin.Frozenset.updateFrom id a (.ref d)) Q E s:=by
 have hT:=hd.typeIs;obtain⟨od,q2,z2,qq,z5,G,q5,zq,yv⟩:=hd;obtain⟨o0,yy,z4,t0,qv,z3,q0,yk⟩:=hS.get;have Uy:d≠a:=by rintro rfl;rw[qq]at qv;cases qv;rw[G]at q0;cases q0
 have qj:q2.size=Z.length:=size_of_entries q5;unfold Builtin.Frozenset.updateFrom;refine aa (Hj hT sub_dict_set sub_dict_frozenset ?_);simp only[cz,jg];refine aa (qb hT ?_);rw[bx (by decide)];refine aa (wpAny_rule ?_);refine aa (m:=Builtin.Frozenset.addrOf (.ref d)) (aj ?_);rw[bw (by rw[zw];decide)];refine aa (wpAny_dictEpoch qq G ?_);refine aa (qz qq G ?_);refine aa (aum hS (by lia) λh1 q4 q6=>?_);have q8:h1.get? d=some od:=(q4.2 d Uy).trans qq;refine aa (qz q8 G ?_);refine aa ?_;refine upto (λi _ z=>∃U n',z={ s with heap:=U }/\Dl knd pk U a (λk=>S k\/k∈(Z.take i).map (·.1)) n'/\n'<=n+i/\Heap.SameBut a s.heap U) (λi _ z lt qk=>?_) (λ_ z qk=>?_) ⟨h1,n,rfl,q6.congr (λk=>by simp),x_,q4⟩
 .obtain⟨U,n',rfl,Ww,Py,R⟩:=qk
  have q3:U.get? d=some od:=(R.2 d Uy).trans qq;refine aa (qz q3 G ?_);have lx:i<Z.length:=b_ lt (f_ qj)
  have he:q2[i]?=some (entryOfKey (tupleKind knd) Z[i]):=by rw[entry_at q5];simp[lx]
  rw[he];have zv:IsTupleKey knd U Z[i].1 Z[i].2.1:=anw (zq _ (o7 lx)) qv q0 R;show wpAny _ _ (holding [.ref Z[i].2.1] (setAddHashed a (.ref Z[i].2.1) (tupleKeyHash knd Z[i].1))>>=_) _ _ _;refine aa (ji (aa7 (s:={ s with heap:=U }) zz hu zv (z0 _ (o7 lx)) Ww (by lia) λz1 zk b q1 q7 z9=>?_));refine aa (wpAny_dictEpoch ((q1.2 d Uy).trans q3) G ?_);rw[yx];refine aj ⟨z1,zk,rfl,q7.congr (λk=>?_),by lia,R.trans q1⟩;rw[List.take_add_one,qw,dw,show Z[i]?=some Z[i]by simp[lx]];simp[or_assoc]
 .obtain⟨U,n',rfl,Ww,Py,R⟩:=qk
  refine aj (h U n' R (Ww.congr λk=>?_));rw[z7 (g_ qj)]
end
section
variable{prog:Program}{w:World}{K:Type}[DecidableEq K]{knd:KeyKind prog w K}{pk:List K×Addr->Prop}{A:Around}{E:Y1}{s:Shared}
def auo(Z:R (.ref s.heap.objs.size) { s with heap:=s.heap.push (Az w) }) :
 codeAny (model prog w) A (.call (.builtin "set.__new__") ⟨[.type "set",v],[]⟩) (wants R E) s:=by
 refine codeAny_call_builtin F.plain_set_new F.entry_set_new (wpAny_of_eq (F.newCall_set_1 v) ?_);have G:=sub_set_self;unfold Builtin.«set.__new__» Builtin.Frozenset.newClass
 wp_walk
 exact wpAny_askSetting (aj (aa (wpAny_alloc (aj (aj Z)))))
set_option maxHeartbeats 3200000 in
def Nr{R:Shared->Prop}(qj:wpAny (model prog w) A.in1.in1 (Builtin.Frozenset.updateFrom "set.__init__" s.heap.objs.size x) (λ_ s'=>R s') E { s with heap:=s.heap.push (Az w) })(h:∀s',R s'->Q (.ref s.heap.objs.size) s') :
 wpAny (model prog w) A (call (.type "set") [x]) Q E s:=by
 obtain⟨c,tl,q0⟩:=uw.mro;have qv:=uw.made;have q1:=uw.sub;refine wpAny_call (codeAny_of_tree ?_);show wpAny _ _ (callAny (.type "set") _) _ _ _;refine aj ⟨Code.quiet_builtin _ (by decide+kernel),m9 F.entry_type_call ?_⟩;rw[Around.under_plain (weight_type_call_type "set" [x] []) rfl];have h1:=uw.notType;have h2:=uw.canCreate;have q3:=F.typeCall_set_1 x
 repeat (any_goals (first|assumption|wp_step))
 refine v5 (auo (v:=x) (E:=E) (R:=λobj U=>obj=.ref s.heap.objs.size/\U={ s with heap:=s.heap.push (Az w) }) ⟨rfl,rfl⟩) λr U hr=>?_
 cases r with
 |error e=>exact hr
 |ok fl =>
  cases fl with
  |ret obj =>
   obtain⟨rfl,rfl⟩:=hr;have hS:(s.heap.push (Az w)).get? s.heap.objs.size=some (Az w):=bu _ rfl;have hT:Shared.TypeIs { s with heap:=s.heap.push (Az w) } (.ref s.heap.objs.size) "set":= ⟨_,hS,rfl⟩;have q4:=uw.init.lookup;have q2:=uw.init.bind (.ref s.heap.objs.size)
   repeat (any_goals (first|assumption|wp_step))
   refine v5 (codeAny_call_builtin (R:=wants (λr G=>r=.none/\R G) E) uw.init.plain F.entry_set_init (check_set_init_1 hT ?_)) λqk G Z=>?_
   .unfold Builtin.«set.__init__» noKeywords
    generalize hUF:Builtin.Frozenset.updateFrom=UF at qj⊢;unfold Az at hS hT qj⊢
    wp_walk
    exact j7 qj (λ_ s' hr=>aj ⟨rfl,hr⟩) (λe s' he=>he)
   .cases qk with
    |error e=>exact Z
    |ok qq =>
     cases qq with
     |ret r =>
      obtain⟨rfl,hq⟩:=Z
      repeat (any_goals (first|assumption|wp_step))
      exact h _ hq
     |_=>exact Z.elim
  |_=>exact hr.elim
end
open PyProof.Rows (F.entry_set_update_loop F.plain_set_update_loop)
section
variable{prog:Program}{w:World}{K:Type}[DecidableEq K]{knd:KeyKind prog w K}{pk:List K×Addr->Prop}{A:Around}{E:Y1}{s:Shared}
def T8{wr:X9}(U:IsTupleKey knd h Z p)(R:p∉wr)(hm:∀b o,b∉wr->h.get? b=some o->G.get? b=some o):IsTupleKey knd G Z p:=
 let ⟨o,items,n,ho,r⟩:=U;⟨o,items,n,hm p o R ho,r⟩
def Dl.moved{wr:X9}(hS:Dl knd pk h a S n)(ha:a∉wr)(hw:∀(b:Addr) (U:List K),b∈wr->¬IsTupleKey knd h U b)(G:∀b o,b∉wr->h.get? b=some o->R.get? b=some o):Dl knd pk R a S n:=
 let ⟨xs,o,es,ep,t,X,r⟩:=hS
 ⟨xs,o,es,ep,t,⟨G a o ha X.get,X.exa,X.dat,X.tab,X.ent,λx Z=>⟨T8 (X.keys x Z).1 (λhc=>hw _ _ hc (X.keys x Z).1) G,(X.keys x Z).2⟩,X.nod,X.led,X.pla⟩,r⟩
def aup(zz:T6 knd pk){I:Addr}{P:Nat->Value->Prop}(hu:A.in1.units<cLine)(W:WalksS prog w A.in1 I fp wr G n P St)(a:Addr)(q4:a∉fp)(Z:List (List K×Addr))(q2:Z.length=n)(zk:∀i v x,P i v->Z[i]?=some x->v=.ref x.2)(z0:∀x∈Z,pk x)(hb:n<31)(z2:∀x∈Z,x.2∉wr)(q0:∀i (s:Shared),St i s->∀(b:Addr) (Z:List K),b∈wr->¬IsTupleKey knd s.heap Z b) :
 ∀(k i n':Nat)(s:Shared),n-i=k->i<=n->St i s->(∀x∈Z,IsTupleKey knd s.heap x.1 x.2) ->
  Dl knd pk s.heap a (λk'=>k'∈(Z.take i).map (·.1)) n'->n'<=i ->
  (∀U zv,Moved (a::wr) G s U->Dl knd pk U.heap a (λk'=>k'∈Z.map (·.1)) zv->R (.ok (.ret .none)) U) ->
  codeAny (model prog w) A (.builtin "set.update.loop" ⟨[.ref a,.ref I],[]⟩) R s:=by
 have qv:a∉wr:=λh=>q4 (W.sub _ h)
 have q1:∀b∈wr,b∈a::wr:=λb hb=>bc _ hb
 intro k
 induction k with
 |zero =>
  intro i n' s hk hi Zj Wv hS Py hR;have Zi:i=n:=by lia
  subst Zi;refine m9 tu ?_;rw[j8 lg _];show wpAny _ A.in1 (pyNext (.ref I)>>=_) _ _ s;refine aa (W.done s _ _ Zj λU hm=>?_);show wpAny _ A.in1 (ret Value.none) _ _ U;refine aj (hR U n' (hm.mono q1) ((hS.moved qv (q0 _ s Zj) hm.heap).congr λk=>?_));rw[z7 (f_ q2)]
 |succ k ih =>
  intro i n' s hk hi Zj Wv hS Py hR;have Jk:i<n:=by lia
  refine m9 tu ?_;rw[j8 lg _];show wpAny _ A.in1 (pyNext (.ref I)>>=_) _ _ s;refine aa (W.item i s _ _ Jk Zj λv U hP q5 hm=>?_);have lx:i<Z.length:=b_ Jk (g_ q2)
  have q3:Z[i]?=some Z[i]:=by simp[lx]
  obtain rfl:=zk i v _ hP q3;have qq:=o7 lx;have Ww:=hS.moved qv (q0 _ s Zj) hm.heap;have qk:∀x∈Z,IsTupleKey knd U.heap x.1 x.2:=λx hx=>T8 (Wv x hx) (z2 x hx) hm.heap
  show wpAny _ A.in1 (holding [Value.ref Z[i].2] (setAdd a (.ref Z[i].2))>>=_) _ _ U;refine aa (ji ?_);unfold setAdd;refine ji ?_;refine aa (wpAny_pyHash_tuple hu (qk _ qq) ?_);refine aa7 (s:={ U with toks:=U.toks+(Z[i].1.length+1) }) zz hu (qk _ qq) (z0 _ qq) Ww (by lia) λh' n2 b qj z1 Z5=>?_
  obtain⟨oa,z3,z9,ta,q8,z5,q6,z4⟩:=Ww.get;refine aj ⟨plainId_quiet lg _,ih (i+1) n2 _ (by lia) Jk (W.frame _ U _ _ q5 (xr _ _) λb hb o e=>?_) (λx hx=>anw (qk x hx) q8 q6 qj) (z1.congr λk=>?_) (a_ Z5 (v_ Py)) λzq n3 zw q7=>?_⟩
  .rw[qj.2 b (λh:b=a=>q4 (by rw[<-h];exact hb))];exact e
  .rw[List.take_add_one,qw,dw,q3];simp
  .refine hR zq n3 (Moved.trans W.gtrans ((hm.mono q1).then_heap (xr _ _) λb o hb e=>?_) zw) q7
   rw[qj.2 b (λh:b=a=>hb (by rw[h];exact dh))];exact e
def an2(q5:T6 knd pk){id:String}{ks:List (List K×Addr)}(hh:A.handled=none)(hu:A.in1.units+1<cLine)(hS:Dl knd pk s.heap a (λ_=>False) 0)(R:s.heap.IsList l items)(q1:items.toList=ks.map λx=>.ref x.2)(Wv:∀x∈ks,IsTupleKey knd s.heap x.1 x.2)(q7:∀x∈ks,pk x)(qj:ks.length<31)(h:∀h' tk n',(∀b o,b≠a->s.heap.get? b=some o->h'.get? b=some o)->Dl knd pk h' a (λk=>k∈ks.map (·.1)) n'->Q () { s with heap:=h',toks:=tk }) :
 wpAny (model prog w) A (Builtin.Frozenset.updateFrom id a (.ref l)) Q E s:=by
 have hT:s.TypeIs (.ref l) "list":= let ⟨o,Z,U,_⟩:=R;⟨o,Z,U⟩;have qk:items.size=ks.length:=by rw[<-ql,q1];simp
 obtain⟨oa,zv,z1,ta,G,z0,qq,zw⟩:=hS.get;unfold Builtin.Frozenset.updateFrom;refine aa (Hj hT F.sub_list_set F.sub_list_frozenset ?_);simp only[cz,jg];refine aa (qb hT ?_);rw[bw (by decide)];refine aa (wpAny_pyIter_list R ?_);refine aa (wpAny_runValue ?_);have Jk:l<s.heap.objs.size:=let ⟨o,Z,_⟩:=R;az Z
 have q4:a<s.heap.objs.size:=az G
 have zk:l≠a:=by rintro rfl;obtain⟨o,Z,_,n,hd⟩:=R;rw[Z]at G;cases G;rw[hd]at qq;cases qq
 have q3:l≠s.heap.objs.size:=f9 Jk;have zq:a∉[s.heap.objs.size,l]:=by simp only[cu,xq,or_false,not_or];exact⟨f9 q4,λe=>zk e.symm⟩
 have keep:∀b o,s.heap.get? b=some o->(s.heap.push { cls:=.type "list_iterator",data:=.fields #[.ref l,.int 0 0] }).get? b=some o:=λb o e=>au _ e
 refine aup q5 (by lia) ((Walks.list (by simp[hh]) _ l q3 items).toS) a zq ks qk.symm (λi v x hv hx=>?_) q7 (c_ (f_ qk) qj) (λx hx U=>?_) (λi s' st b kk hb q8=>?_) items.size 0 0 _ rfl (jq _)
  ⟨⟨_,bu _ rfl,rfl,rfl⟩,R.push _⟩ (λx hx=>T8 (wr:=[]) (Wv x hx) (by simp) λb o _ e=>keep b o e) ?_ (bh _) ?_
 .have:items.toList[i]?=some v:=by simpa using hv
  rw[q1,iz,hx]at this;exact(jk this).symm
 .simp at U
  obtain⟨o,_,_,Z,_⟩:=Wv x hx;have:=az Z;rw[U]at this;exact j9 _ this
 .simp at hb
  subst hb;obtain⟨o,_,_,Z,U,_⟩:=q8;obtain⟨⟨o',qv,q0,_⟩,_⟩:=st;rw[Z]at qv;cases qv;rw[U]at q0;exact absurd q0 (by decide)
 .refine(hS.moved (wr:=[]) (by simp) (by simp) λb o _ e=>keep b o e).congr λk=>by simp
 .intro s' q6 hm Ww
  obtain⟨h',g',d',zz,q2⟩:=s';have eg:g'=s.gens:=hm.gens;have ed:d'=s.drawn:=hm.drawn;have eo:q2=s.os:=hm.os;subst eg;subst ed;subst eo;show wpAny _ _ _ _ _ _;refine aj (h h' zz q6 (λb o hb e=>?_) Ww);refine hm.heap b o ?_ (keep b o e);simp only[cu,xq,or_false,not_or];exact⟨hb,f9 (az e)⟩
end
theorem Wx{Z:Type}:∀{l:List Z}{i:Nat}(h:i<l.length),(l[i]::l.eraseIdx i).Perm l
 |x::l,0,_=>zb _
 |x::l,i+1,h=>by
  have G:=Wx (l:=l) (i:=i) (by simpa using h);simp only[List.getElem_cons_succ,List.eraseIdx_cons_succ];exact(List.Perm.swap x _ _).trans (G.cons x)
theorem aic{R:Type}(nx:Nat->Nat):∀(G k:Nat)(Z:List R)(out:Array R),Z.length=G->(pickOrder.go nx G k Z out).toList.Perm (out.toList++Z)
 |0,k,Z,out,h=>by
  have:Z=[]:=u0.mp h;subst this;unfold pickOrder.go;simp
 |G+1,k,Z,out,h=>by
  unfold pickOrder.go;have U:nx k%Z.length<Z.length:=Nat.mod_lt _ (by lia)
  rw[bz U];dsimp only;refine(aic nx G (k+1) _ _ (by rw[List.length_eraseIdx];split<;>lia)).trans ?_;rw[Array.toList_push,yq];refine List.Perm.append_left _ ?_;exact Wx U
def Z6(nx:Nat->Nat)(Z:Array α):(pickOrder nx Z).toList.Perm Z.toList:=by unfold pickOrder;simpa using aic nx Z.size 0 Z.toList #[] (by simp)
theorem Wy{R:Type}[DecidableEq R]:∀{Z l2:List R},Z.Nodup->Z ⊆ l2->l2.length<=Z.length->∀x∈l2,x∈Z
 |[],l2,_,_,h,x,hx=>by
  have:l2=[]:=u0.mp (by simpa using h);subst this;simp at hx
 |a::Z,l2,hn,hs,h,x,hx=>by
  by_cases e:x=a
  .subst e;exact dh
  .refine bc _ ?_
   have ha:a∈l2:=hs dh;have U:=qx.mp hn;refine Wy (l2:=l2.erase a) U.2 (λy G=>?_) ?_ x ((List.mem_erase_of_ne e).mpr hx)
   .exact(List.mem_erase_of_ne (λ(e:y=a)=>U.1 (by rw[<-e];exact G))).mpr (hs (bc _ G))
   .rw[List.length_erase_of_mem ha];simp at h;omega
def aa9:entryFor table "set.__ne__"= some Builtin.«frozenset.__ne__»:=
 entryFor_alias (id' :="frozenset.__ne__") (by kernel_rfl) rfl (by decide+kernel) (by kernel_rfl)
def sub_set_frozenset:isSubtype (.type "set") (.type "frozenset")=pure false:=by rw[isSubtype_type];kernel_rfl
section
variable{prog:Program}{w:World}{K:Type}[DecidableEq K]{knd:KeyKind prog w K}{pk:List K×Addr->Prop}{A:Around}{E:Y1}{s:Shared}
set_option tactic.hygienic true in
def aut(X:T7 knd pk s.heap a U o Z C t)(h:∀l,l.toList.Perm Z.toList->Q l s):wpAny (model prog w) A (setWalk a) Q E s:=by
 unfold setWalk;refine aa (jt X.get X.dat X.tab.fits ?_);dsimp only;refine aa (Wa ?_);split
 .exact aa (wpAny_askSetting (aj (h _ (Z6 _ _))))
 .rename_i G
  have G:bt w=false:=by simpa using G
  split
  .rename_i Y
   have Y:(!t.plain&&decide (Z.size > 1))=true:=Y;rw[X.pla]at Y;cases Y
  .refine aa ?_
   have:wpAny (model prog w) A (if(!t.led&&decide (Z.size > 1))=true then unsupported "set:maker-not-led" else pure ()) (λ_ J=>wpAny (model prog w) A (pure Z) Q E J) E s:=by rw[X.led,G];simp only[za,qt,Bool.false_and,cz,jg];exact aj (aj (h Z (zb _)))
   exact this
def ak3(Z:IsTupleKey knd s.heap G a)(h:Q false s):wpAny (model prog w) A (Builtin.Frozenset.quietEq (.ref a)) Q E s:=by
 unfold Builtin.Frozenset.quietEq;refine aa (wpAny_specialOf Z.typeIs F.slot_tuple_eq.lookup ?_);refine aj ?_;have:(some (Value.builtin "tuple.__eq__")==some (Value.builtin "object.__eq__"))=false:=by decide
 rw[this];exact h
def aba(X:T7 knd pk h a U o G ep t)(Z:e∈G.toList):∃x∈U,e=ent knd x:=by rw[X.ent]at Z;obtain⟨x,R,rfl⟩:=bf.mp Z;exact⟨x,R,rfl⟩
def ak4(X:T7 knd pk s.heap a xs o es ep t)(Y:T7 knd pk s.heap b ys o' qj qk t')(h:∀l:List (Int×Value),l.Perm es.toList->Q l s):wpAny (model prog w) A (Builtin.Frozenset.walkUnseen a b) Q E s:=by
 unfold Builtin.Frozenset.walkUnseen;refine aa (kj X.get X.dat X.tab.fits ?_);refine aa (kj Y.get Y.dat Y.tab.fits ?_);refine aa ?_;refine qd _ (λZ r U=>r.1=none/\U=s/\∀e∈Z,∃ks p,e.2=.ref p/\IsTupleKey knd s.heap ks p) _ ?_ ?_ _ _ ⟨rfl,rfl,λe G=>?_⟩
 .rintro e Z r U ⟨R,rfl,Eb⟩
  obtain⟨ks,p,qq,hk⟩:=Eb e dh;obtain⟨h0,x0⟩:=e;subst qq;dsimp only;refine aa (ak3 hk ?_);simp only[za,jw];unfold Builtin.Frozenset.walk;refine aa (aa (aut X λl hl=>aj ?_));exact aj (aj (h _ hl))
 .rintro⟨r1,r2⟩ U ⟨R,rfl,_⟩
  simp only at R;subst R;exact aj (h _ (zb _))
 .rcases dw.mp G with G|G
  .obtain⟨x,hx,rfl⟩:=aba X G
   exact⟨x.1,x.2,rfl,(X.keys x hx).1⟩
  .obtain⟨x,hx,rfl⟩:=aba Y G
   exact⟨x.1,x.2,rfl,(Y.keys x hx).1⟩
def a0n{id:String}(hu:A.units<cLine)(hS:Dl knd pk s.heap a S n)(hT:Dl knd pk s.heap b T m)(h:∀c:Bool,(c=true↔n<=m/\∀k,S k->T k)->Q c s):wpAny (model prog w) A (Builtin.Frozenset.subsetOf id a b) Q E s:=by
 have qj:=hT;obtain⟨xs,o,es,ep,t,X,hm,hn,_⟩:=hS;obtain⟨ys,o',qk,q0,t',Y,qv,Py,_⟩:=hT;have h1:=X.size;have h2:=Y.size;unfold Builtin.Frozenset.subsetOf Builtin.Frozenset.sizeOf;refine aa (aa (kj X.get X.dat X.tab.fits (aj ?_)));refine aa (aa (kj Y.get Y.dat Y.tab.fits (aj ?_)));split
 .exact aj (h false (by simp;lia))
 .refine aa (wpAny_setEpoch_of X.get X.dat X.tab.fits ?_)
  refine aa (ak4 X Y λl hl=>?_);refine aa ?_;refine qd _ (λG r s'=>r.1=none/\s'=s/\(∀e∈G,∃x∈xs,e=ent knd x)/\∀x∈xs,ent knd x∈G\/T x.1) _ ?_ ?_ _ _ ⟨rfl,rfl,λe he=>aba X (hl.mem_iff.mp he),λx R=>.inl (hl.mem_iff.mpr (by rw[X.ent];exact bf.mpr ⟨x,R,rfl⟩))⟩
  .rintro e G r s' ⟨hr,rfl,Eb,U⟩
   obtain⟨x,R,rfl⟩:=Eb e dh;show wpAny _ _ (holding [.ref x.2] (setFind b (.ref x.2) (tupleKeyHash knd x.1))>>=_) _ _ _;refine aa (ji (aui hu (X.keys x R).1 qj λr hr=>?_));cases r with
   |none =>
    simp only[Option.isNone_none,jw];refine aj (aj (h false ?_));simp only[cz,false_iff,not_and,Classical.not_forall];intro _;refine⟨x.1,(hm x.1).mpr (bf.mpr ⟨x,R,rfl⟩),λZ=>?_⟩;have:=hr.mpr Z;cases this
   |some i =>
    simp only[Option.isNone_some,cz,jg];unfold Builtin.Frozenset.unchanged;refine aa (aa (wpAny_setEpoch_of X.get X.dat X.tab.fits ?_));rw[bw (by simp)];refine aj (aj ⟨rfl,rfl,λe he=>Eb e (bc _ he),λy hy=>?_⟩);rcases U y hy with Z|Z
    .rcases cu.mp Z with Z|Z
     .right
      have qq:T x.1:=hr.mp rfl;have e2:y.2=x.2:=by have:=mq Prod.snd Z;unfold ent at this;injection this
      have:y.1=x.1:=IsTupleKey.inj (X.keys y hy).1 (by rw[e2];exact(X.keys x R).1);rw[this];exact qq
     .exact .inl Z
    .exact .inr Z
  .rintro⟨r1,r2⟩ s' ⟨hr,rfl,_,U⟩
   simp only at hr;subst hr;refine aj (h true ?_);simp only[true_iff];refine⟨by lia,λk hk=>?_⟩;obtain⟨x,R,rfl⟩:=bf.mp ((hm k).mp hk);rcases U x R with Z|Z
   .simp at Z
   .exact Z
set_option tactic.hygienic true in
def a7x(hu:A.in1.units<cLine)(u:A.units<cLine)(U:Dl knd pk s.heap a S n)(C:Dl knd pk s.heap b T m)(h:∀c:Bool,(c=true↔¬∀k,S k↔T k)->Q (.bool c) s):wpAny (model prog w) A (compareOp .NotEq (.ref a) (.ref b)) Q E s:=by
 show wpAny _ _ (richCompare .NotEq (.ref a) (.ref b)) _ _ _;refine wpAny_richCompare_same_room (op:=.NotEq) U.typeIs C.typeIs F.slot_set_ne (jr F.slot_set_ne U.typeIs aa9 ?_ (F.args_set_ne_2 _ _)) u;have fin:∀c:Bool,(c=true↔∀k,S k↔T k)->Q (.bool !c) s:=λc hc=>h _ (by cases c<;>simp_all)
 have Ww:=U;have qq:=C;obtain⟨xs,o,es,ep,t,X,hm,hn,_⟩:=Ww;obtain⟨ys,o',qj,qk,t',Y,Z,L,_⟩:=qq;have h1:=X.size;have h2:=Y.size;have same:(∀k,S k↔T k)->n=m:=λe=>by
  have:(xs.map (·.1)).Perm (ys.map (·.1)):=(List.perm_ext_iff_of_nodup X.nod Y.nod).mpr λk=>by rw[<-hm k,<-Z k];exact e k
  have:=this.length_eq;simp at this;exact u_ (a_ (g_ hn) (a_ (f_ this) (f_ L))) (a_ (g_ L) (a_ (g_ this) (f_ hn)))
 have J:n=m->(∀k,S k->T k)->∀k,S k↔T k:=λe hs k=>⟨hs k,λR=>(hm k).mpr (Wy X.nod (λk R=>(Z k).mp (hs k ((hm k).mpr R))) (by simp;exact a_ (f_ L) (a_ (g_ e) (g_ hn))) k ((Z k).mp R))⟩
 show wpAny _ _ (Builtin.Frozenset.slot1 "__ne__" ⟨[.ref a,.ref b],[]⟩>>=_) _ _ _;unfold Builtin.Frozenset.slot1 slotArgs;simp only[List.isEmpty_nil,qt,cz,↓reduceIte,bind_assoc,gn,List.length_nil,yx];refine aa (aj ?_)
 try dsimp only
 refine aa (aj ?_)
 try dsimp only
 refine aa (bdz C.typeIs ?_);simp only[qt,cz,↓reduceIte];refine aa (m:=Builtin.Frozenset.addrOf (.ref a)) (aj ?_);refine aa (m:=Builtin.Frozenset.addrOf (.ref b)) (aj ?_);unfold Builtin.Frozenset.sizeOf;refine aa (aa (kj X.get X.dat X.tab.fits (aj ?_)));refine aa (aa (kj Y.get Y.dat Y.tab.fits (aj ?_)));refine aa ?_;split
 .rename_i y
  refine aj ?_;refine aj ⟨_,rfl,(λe=>nomatch e),fin false ?_⟩;simp only[cz,false_iff];intro e;have:=same e;simp at y;lia
 .rename_i y
  have G:n=m:=by simp at y;lia
  refine aa (aa (o5 U.typeIs sub_set_frozenset ?_));refine aj ?_;simp only[cz,↓reduceIte];refine a0n hu U C λc hc=>?_
  exact aj ⟨_,rfl,(λe=>nomatch e),fin c (hc.trans ⟨λe=>J G e.2,λe=>⟨f_ G,λk=>(e k).mp⟩⟩)⟩
end
def aid{prog:Program}{w:World}{A:Around}{U:Type}{Q:U->Shared->Prop}{E:Y1}{s:Shared}(G:A.handled=none)(q:∀Z x,(∀b o,s.heap.get? b=some o->Z.get? b=some o)->(∃o,Z.get? x=some o/\o.cls=.type "StopIteration")->E (.ref x) { s with heap:=Z }):wpAny (model prog w) A (newExc (.type "StopIteration") []>>=raiseNew) Q E s:=by simp only[newExc,newTuple];refine aa (aa (jx (aa (m:=firstArgMember _ _) (wpAny_of_eq (a:=Value.none) (by first|rfl|(simp only[firstArgMember];rfl)) (jx ?_ (by size_fits)))) (by size_fits)));simp only[raiseNew];refine aa (wpAny_handled ?_);rw[G];exact aa (aj (wpAny_throw (q _ _ (λb o e=>au _ (au _ e)) ⟨_,bu _ rfl,rfl⟩)))
def auu(k:Zy t Z)(F:Fst t h N)(room:t.place.size+1<=t.mask) :
 layNew t Z h x=(insertAt Z (t.put (P t.mask h N).j).2 (h,x),(t.put (P t.mask h N).j).1,false,false):=by
 have e:t.freeSlot h=some ((P t.mask h N).j,false):=by
  unfold freeSlot probe;rw[adk];rcases anm k F (λ_=>h+1) (10*turns t.mask) 0 (jq _) (by have:=F.lt;exact c_ C_ this)with⟨a,_⟩|⟨m,i,_,_,_,c,_⟩
  .rw[a];rfl
  .lia
 have f:=(k.put (x:=x) F room).fits;unfold layNew;rw[e];show(insertAt Z (t.put (P t.mask h N).j).2 (h,x),(t.put (P t.mask h N).j).1.orStandIn (insertAt Z (t.put (P t.mask h N).j).2 (h,x)).size,false,!(t.put (P t.mask h N).j).1.fits (insertAt Z (t.put (P t.mask h N).j).2 (h,x)).size)=_;unfold orStandIn;rw[bx f,f];rfl
def ak5(hm:Msk (sizeAbove wanted-1))(hz:es.size<=sizeAbove wanted-1) :
 ∃G t',relayAll t es wanted=(G,t',false)/\t'.mask=sizeAbove wanted-1/\Zy t' G/\G.toList.Perm es.toList/\t'.led=t.led/\t'.plain=t.plain:=by
 obtain⟨t',Z,e,e1,R,p,sz,hl,hp,_,U⟩:=ah8 hm t.finger (t.movedTo (sizeAbove wanted-1)) t.led t.plain es hz;have er:t.relaid (es.map (·.1)) wanted=some (t',Z):=e;refine⟨Z.filterMap (es[·]?),t',?_,e1,R,p,hl,hp⟩;unfold relayAll;rw[er];dsimp only;rw[bx];rw[aq];exact⟨by unfold coversAll;exact List.isPerm_iff.mpr U,R.fits⟩
noncomputable def enI(x:Int×Tok):Int×Value:=(hashInt x.1,.int x.1 x.2)
structure K7(w:World)(h:Heap)(a:Addr)(xs:List (Int×Tok))(o:Obj)(es:Array (Int×Value))(ep:Nat)(t:SetTable):Prop where
 get:h.get? a=some o
 exa:o.ExactSet
 dat:o.data=.set es ep t
 tab:Zy t es
 ent:es.toList=xs.map enI
 nod:(xs.map (·.1)).Nodup
 led:t.led=!bt w
 pla:t.plain=true
def Ci(w:World)(h:Heap)(a:Addr)(S:Int->Prop)(n:Nat):Prop:=∃Z o U G t,K7 w h a Z o U G t/\(∀k,S k↔k∈Z.map (·.1))/\Z.length=n/\t.place.size*5<t.mask*3
theorem K7.size(X:K7 w h a Z o G U t):G.size=Z.length:=by have:=mq List.length X.ent;simpa using this
def K7.elems(X:K7 w h a R o G U t):ElemsOf (intKind prog w) G.toList:=λe Z=>by rw[X.ent]at Z;obtain⟨x,_,rfl⟩:=bf.mp Z;exact⟨⟨x.1,by simp[enI,intKind,Value.isInt],rfl⟩,rfl⟩
def a7y(X:K7 w h a xs o es U t)(T':Zy t' Z)(he:Z.toList=G.map enI)(R:(G.map (·.1)).Nodup)(hl:t'.led=!bt w)(hp:t'.plain=true) :
 K7 w (h.update a (Obj.putSet Z t')) a G { o with data:=.set Z (U+1) t' } Z (U+1) t':=by
 have hg:(h.update a (Obj.putSet Z t')).get? a=some { o with data:=.set Z (U+1) t' }:=by have:=mj (Obj.putSet Z t') X.get (by rw[putSet_of Z t' X.dat];rfl);rw[putSet_of Z t' X.dat]at this;exact this
 exact⟨hg,X.exa,rfl,T',he,R,hl,hp⟩
theorem Ci.get(U:Ci w h a S n):∃o Z G t,h.get? a=some o/\o.ExactSet/\o.data=.set Z G t/\t.fits Z.size=true:=
 let ⟨_,o,Z,G,t,X,_⟩:=U;⟨o,Z,G,t,X.get,X.exa,X.dat,X.tab.fits⟩
theorem agg:∀{a b:Xs},a.Nodup->(∀x∈a,x∈b)->a.length<=b.length
 |[],_,_,_=>jq _
 |x::a,b,h,s=>by
  obtain⟨G,U⟩:=qx.mp h;have:=agg (b:=b.erase x) U λy Z=>(List.mem_erase_of_ne (λe:y=x=>G (e▸Z))).mpr (s y (.tail _ Z))
  rw[List.length_erase_of_mem (s x (.head _))]at this;have:=List.length_pos_of_mem (s x (.head _));rw[gn];lia
def Ci.le(U:Ci w h a S n){B:Xs}(G:∀k,S k->k∈B):n<=B.length:=by obtain⟨xs,o,es,ep,t,X,R,rfl,_⟩:=U;rw[<-du (f:=(·.1))];exact agg X.nod λk Z=>G k ((R k).mpr Z)
def Ci.congr(G:Ci w h a S n)(e:∀k,S k↔Z k):Ci w h a Z n:=
 let ⟨xs,o,es,ep,t,X,hm,r⟩:=G;⟨xs,o,es,ep,t,X,λk=>(e k).symm.trans (hm k),r⟩
def Ci.moved(G:Ci w h a S n)(Z:∀o,h.get? a=some o->U.get? a=some o):Ci w U a S n:=
 let ⟨xs,o,es,ep,t,X,r⟩:=G
 ⟨xs,o,es,ep,t,⟨Z o X.get,X.exa,X.dat,X.tab,X.ent,X.nod,X.led,X.pla⟩,r⟩
def an5(Z:h.get? a=some (Az w)):Ci w h a (λ_=>False) 0:=
 ⟨[],Az w,#[],0,_,⟨Z,⟨rfl,rfl,rfl⟩,rfl,⟨.inl rfl,rfl,rfl,λi j a b e=>by simp[SetTable.fresh]at e,λi j e=>by simp[SetTable.fresh]at e,by simp[SetTable.fresh],λi j e a=>by simp[SetTable.fresh]at a⟩,
  rfl,Ar,rfl,rfl⟩,λk=>by simp,rfl,by simp[SetTable.fresh]⟩
def auv(hS:Ci w s.heap a S n)(hn:n+1<32)(h:∀h' n' b,Heap.SameBut a s.heap h'->Ci w h' a (λU=>S U\/U=k) n'->n'<=n+1->Q b { s with heap:=h' }) :
 wpAny (model prog w) A (setAddHashed a (.int k R) (hashInt k)) Q E s:=by
 obtain⟨xs,o,G,ep,t,X,hm,hl,nf⟩:=hS;obtain⟨N,F⟩:=X.tab.fst (hashInt k);have zq:=X.size;have q1:=X.elems (prog:=prog);have zk:(intKind prog w).is k (.int k R)=true:=by simp[intKind,Value.isInt]
 unfold setAddHashed setAddHashedIn;refine ji (aa (jt X.get X.dat X.tab.fits ?_));dsimp only;rw[byScan_of (knd:=intKind prog w) (x:=.int k R) rfl (by unfold scanBound;lia) q1];simp only[↓reduceIte];unfold setAddByScan;refine aa ?_;refine aa (wpAny_rule ?_);refine aa (wpAny_setScan_of (knd:=intKind prog w) (k:=k) zk X.get X.dat X.tab.fits q1 ?_);cases hr:List.findIdx? (λe=>(intKind prog w).is k e.2) G.toList with
 |some j =>
  dsimp only;obtain⟨hj,zv,_⟩:=qg.mp hr;have z0:S k:=by
   obtain⟨x,hx,ex⟩:∃x∈xs,enI x=G.toList[j]:=by have Jh:=o7 hj;generalize G.toList[j]=e at Jh;rw[X.ent]at Jh;exact bf.mp Jh
   have q8:(intKind prog w).is k (enI x).2=true:=by rw[ex];exact zv
   refine(hm k).mpr (bf.mpr ⟨x,hx,?_⟩);have:(intKind prog w).is x.1 (enI x).2=true:=by simp[enI,intKind,Value.isInt]
   exact(intKind prog w).inj _ _ _ this q8
  refine aj (aj ?_);have:=h s.heap n false (Heap.SameBut.refl a s.heap) ⟨xs,o,G,ep,t,X,λU=>by
   rw[<-hm U];exact⟨λh=>h.elim id (λe=>e▸z0),.inl⟩,hl,nf⟩ x_
  exact this
 |none =>
  dsimp only;have Z4:∀x∈xs,x.1≠k:=λx hx e=>by have:=vh.mp hr (enI x) (by rw[X.ent];exact bf.mpr ⟨x,hx,rfl⟩);subst e;simp[enI,intKind,Value.isInt]at this
  have room:t.place.size+1<=t.mask:=by have:=X.tab.msk;rcases this with e|e|e|e|e<;>lia
  have T':=X.tab.put (x:=.int k R) F room;rw[auu X.tab F room];have Jg:(t.put (P t.mask (hashInt k) N).j).1.plain=true:=X.pla;have q3:(t.put (P t.mask (hashInt k) N).j).1.led=!bt w:=X.led;obtain⟨qq,ex,px⟩:=Ec (f:=enI) (insertAt_perm G (t.put (P t.mask (hashInt k) N).j).2 (hashInt k,.int k R)) (xs:=xs++[(k,R)]) (by rw[Array.toList_push,X.ent,qw];rfl);have pm:=px.map (·.1);have q5:(qq.map (·.1)).Nodup:=pm.nodup_iff.mpr (by
   rw[qw,yu];refine⟨X.nod,by simp,λa ha b hb=>?_⟩;simp at hb;subst hb;rintro rfl;obtain⟨x,hx,e⟩:=bf.mp ha;exact Z4 x hx e)
  have hX:=a7y X T' ex q5 q3 Jg;have Jh:∀U,(S U\/U=k)↔U∈qq.map (·.1):=λU=>by rw[pm.mem_iff,qw,dw,hm U];simp
  have qk:qq.length=n+1:=by rw[px.length_eq];simp[hl]
  have qj:(insertAt G (t.put (P t.mask (hashInt k) N).j).2 (hashInt k,Value.int k R)).size=G.size+1:=Nq _ _ _;have q0:(t.put (P t.mask (hashInt k) N).j).1.place.size=G.size+1:=by rw[T'.Zz,qj]
  have hf:(t.put (P t.mask (hashInt k) N).j).1.fill=G.size+1:=by unfold fill;rw[q0,T'.dum];rfl
  generalize insertAt G (t.put (P t.mask (hashInt k) N).j).2 (hashInt k,Value.int k R)=es1 at *;generalize(t.put (P t.mask (hashInt k) N).j).1=t1 at *;dsimp only;refine aa (aj ?_);rw[Jg];simp only[jw];refine aa ?_;rw[hashByValue_scannable 8 (x:=.int k R) rfl];refine aj ?_;have zw:plainKind (.int k R)=true:=rfl;simp only[zw,jw];refine aa (wpAny_storeSet_of X.get X.dat ?_ (Kd (by lia)))
  by_cases Z:t1.tooFull=true
  .rw[Z]
   simp only[za,Bool.and_self,jw];obtain⟨g1,g2,g3,g4,g5⟩:=Z3 (G.size+1) (c_ (v_ (f_ zq)) (c_ (v_ (f_ hl)) hn));obtain⟨q4,t2,e2,m2,T2,p2,l2,q2⟩:=ak5 (t:=t1) (es:=es1) (wanted:=grown (G.size+1)) g1 (a_ (f_ qj) g2);rw[qj,e2];dsimp only;refine aa (aj ?_);obtain⟨zz,z1,qv⟩:=Ec p2 ex;have q7:=a7y hX T2 z1 ((qv.map _).nodup_iff.mpr q5) (l2.trans q3) (q2.trans Jg);have q6:q4.size=G.size+1:=by have:=p2.length_eq;simp at this;exact this.trans qj
   refine aa (wpAny_storeSet_of hX.get rfl ?_ (Kd (a_ (f_ q6) (a_ g2 (a_ C_ g5)))));refine aj (aj (h _ (n+1) true ((jz s.heap a _).trans (jz _ a _)) ⟨zz,_,q4,_,t2,q7,λU=>?_,by rw[qv.length_eq,qk],?_⟩ (bh _)))
   .exact(Jh U).trans (qv.map (·.1)).mem_iff.symm
   .rw[T2.Zz,m2,q6];exact t_ g4
  .rw[Bool.not_eq_true]at Z
   rw[Z];simp only[Bool.and_false,cz,jg];refine aj (aj (h _ (n+1) true (jz s.heap a _) ⟨qq,_,_,_,_,hX,Jh,qk,?_⟩ (bh _)));unfold tooFull at Z;rw[hf]at Z;rw[q0];simp at Z;exact Z
def an6{I:Addr}{P:Nat->Value->Prop}(W:WalksS prog w A.in1 I fp wr G n P St)(a:Addr)(q3:a∉fp)(U:Xs)(q1:U.length=n)(q7:∀i v x,P i v->U[i]?=some x->∃tk,v=.int x tk){B:Xs}(hB:∀k∈U,k∈B)(hb:B.length<31) :
 ∀(k i n':Nat)(s:Shared),n-i=k->i<=n->St i s ->
  Ci w s.heap a (λk'=>k'∈U.take i) n'->n'<=B.length ->
  (∀Z qv,Moved (a::wr) G s Z->Ci w Z.heap a (λk'=>k'∈U) qv->qv<=B.length->R (.ok (.ret .none)) Z) ->
  codeAny (model prog w) A (.builtin "set.update.loop" ⟨[.ref a,.ref I],[]⟩) R s:=by
 have qq:a∉wr:=λh=>q3 (W.sub _ h)
 have q0:∀b∈wr,b∈a::wr:=λb hb=>bc _ hb
 intro k
 induction k with
 |zero =>
  intro i n' s hk hi Zj hS Py hR;have Zi:i=n:=by lia
  subst Zi;refine m9 tu ?_;rw[j8 lg _];show wpAny _ A.in1 (pyNext (.ref I)>>=_) _ _ s;refine aa (W.done s _ _ Zj λZ hm=>?_);show wpAny _ A.in1 (ret Value.none) _ _ Z;refine aj (hR Z n' (hm.mono q0) ((hS.moved λo=>hm.heap a o qq).congr λk=>?_) Py);rw[z7 (f_ q1)]
 |succ k ih =>
  intro i n' s hk hi Zj hS Py hR;have Jk:i<n:=by lia
  refine m9 tu ?_;rw[j8 lg _];show wpAny _ A.in1 (pyNext (.ref I)>>=_) _ _ s;refine aa (W.item i s _ _ Jk Zj λv Z hP q4 hm=>?_);have lx:i<U.length:=b_ Jk (g_ q1)
  have q2:U[i]?=some U[i]:=by simp[lx]
  obtain⟨tk,rfl⟩:=q7 i v _ hP q2;have Ww:=hS.moved λo=>hm.heap a o qq
  show wpAny _ A.in1 (holding [Value.int U[i] tk] (setAdd a (.int U[i] tk))>>=_) _ _ Z;refine aa (ji ?_);unfold setAdd;refine ji ?_;refine aa (wpAny_pyHash_int ?_);refine auv (s:={ Z with toks:=Z.toks+1 }) Ww (by lia) λh' n2 b qk zq Z5=>?_
  have qj:Ci w h' a (λk=>k∈U.take (i+1)) n2:=zq.congr λk=>by rw[List.take_add_one,dw,q2];simp
  refine aj ⟨plainId_quiet lg _,ih (i+1) n2 _ (by lia) Jk (W.frame _ Z _ _ q4 (xr _ _) λb hb o e=>?_) qj (qj.le λk hk=>hB k (List.mem_of_mem_take hk)) λq6 n3 q8 q5 zz=>?_⟩
  .rw[qk.2 b (λh:b=a=>q3 (by rw[<-h];exact hb))];exact e
  .refine hR q6 n3 (Moved.trans W.gtrans ((hm.mono q0).then_heap (xr _ _) λb o hb e=>?_) q8) q5 zz
   rw[qk.2 b (λh:b=a=>hb (by rw[h];exact dh))];exact e
def auw{id T:String}{io lo:Obj}{Z:U1}{St:Nat->Heap->Prop}(hS:Ci w s.heap a (λ_=>False) 0)(G:s.heap.get? l=some lo)(hc:lo.cls=.type T)(qv:∀es ep t,lo.data≠.set es ep t)(n1:isSubtype (.type T) (.type "set")=pure false)(n2:isSubtype (.type T) (.type "frozenset")=pure false)(nd:(Value.type T==.type "dict")=false)
 (hi:∀{Q:Y1},Q (.ref s.heap.objs.size) { s with heap:=s.heap.push io }->wpAny (model prog w) A (pyIter (.ref l)) Q E s) (W:l≠s.heap.objs.size->Walks prog w A.in1 s.heap.objs.size [s.heap.objs.size,l] [s.heap.objs.size] Z.size (λi v=>Z[i]?=some v) St) (h0:St 0 (s.heap.push io))
 (qq:PyProof.Rows.IntsAre Z.toList ks) {B:Xs} (hB:∀k∈ks,k∈B) (R:B.length<31) (h:∀h' tk n',(∀b o,b≠a->s.heap.get? b=some o->h'.get? b=some o)->Ci w h' a (λk=>k∈ks) n'->n'<=B.length->Q () { s with heap:=h',toks:=tk }) :
 wpAny (model prog w) A (Builtin.Frozenset.updateFrom id a (.ref l)) Q E s:=by
 have hT:s.TypeIs (.ref l) T:=⟨lo,G,hc⟩;have q1:Z.size=ks.length:=by rw[<-ql];exact PyProof.Rows.IntsAre.length qq
 obtain⟨oa,q7,zz,ta,U,zq,qk,q8⟩:=hS.get;unfold Builtin.Frozenset.updateFrom;refine aa (Hj hT n1 n2 ?_);simp only[cz,jg];refine aa (qb hT ?_);rw[bw (by rw[nd];simp)];refine aa (hi ?_);refine aa (wpAny_runValue ?_);have Jk:l<s.heap.objs.size:=az G
 have q0:a<s.heap.objs.size:=az U
 have q6:l≠a:=by rintro rfl;rw[G]at U;cases U;exact qv _ _ _ qk
 have q4:a∉[s.heap.objs.size,l]:=by simp only[cu,xq,or_false,not_or];exact⟨f9 q0,λe=>q6 e.symm⟩
 have keep:∀b o,s.heap.get? b=some o->(s.heap.push io).get? b=some o:=λb o e=>au _ e
 refine an6 ((W (f9 Jk)).toS) a q4 ks q1.symm (λi v x hv hx=>?_) hB R Z.size 0 0 _ rfl (jq _)
  h0 ?_ (jq _) ?_
 .obtain⟨tk,e⟩:=PyProof.Rows.IntsAre.int_at qq i v (by rw[m8];exact hv)
  rw[dj,hx]at e;exact⟨tk,e⟩
 .refine(hS.moved λo e=>keep a o e).congr λk=>by simp
 .intro s' q2 hm Ww q3
  obtain⟨h',g',d',q5,qj⟩:=s';have eg:g'=s.gens:=hm.gens;have ed:d'=s.drawn:=hm.drawn;have eo:qj=s.os:=hm.os;subst eg;subst ed;subst eo;show wpAny _ _ _ _ _ _;refine aj (h h' q5 q2 (λb o hb e=>?_) Ww q3);refine hm.heap b o ?_ (keep b o e);simp only[cu,xq,or_false,not_or];exact⟨hb,f9 (az e)⟩
def ak6{id:String}(hh:A.handled=none)(hS:Ci w s.heap a (λ_=>False) 0)(hl:s.heap.IsList l items)(R:PyProof.Rows.IntsAre items.toList ks){B:Xs}(hB:∀k∈ks,k∈B)(Z:B.length<31)(h:∀U tk n',(∀b o,b≠a->s.heap.get? b=some o->U.get? b=some o)->Ci w U a (λk=>k∈ks) n'->n'<=B.length->Q () { s with heap:=U,toks:=tk }) :
 wpAny (model prog w) A (Builtin.Frozenset.updateFrom id a (.ref l)) Q E s:=by
 have G:=hl;obtain⟨o,ho,hc,n,hd⟩:=G;exact auw hS ho hc (λ_ _ _ z=>by rw[hd]at z;cases z) F.sub_list_set F.sub_list_frozenset (by decide) (wpAny_pyIter_list hl) (λne=>Walks.list (by simp[hh]) _ l ne items) ⟨⟨_,bu _ rfl,rfl,rfl⟩,hl.push _⟩ R hB Z h
def ak7(hh:A.handled=none)(hl:s.heap.IsList l items)(qj:PyProof.Rows.IntsAre items.toList ks){B:Xs}(hB:∀k∈ks,k∈B)(qq:B.length<31)(h:∀Z U G,(∀b o,s.heap.get? b=some o->Z.get? b=some o)->Ci w Z s.heap.objs.size (λk=>k∈ks) G->G<=B.length->Q (.ref s.heap.objs.size) { s with heap:=Z,toks:=U }) :
 wpAny (model prog w) A (call (.type "set") [.ref l]) Q E s:=by
 refine Nr (R:=λs'=>∃Z U G,s'={ s with heap:=Z,toks:=U }/\(∀b o,s.heap.get? b=some o->Z.get? b=some o)/\Ci w Z s.heap.objs.size (λk=>k∈ks) G/\G<=B.length)
  (ak6 (s:={ s with heap:=s.heap.push (Az w) }) (by simp[hh]) (an5 (bu _ rfl)) (hl.push _) qj hB qq λZ U G hk Ww Py=>⟨Z,U,G,rfl,λb o e=>hk b o (f9 (az e)) (au _ e),Ww,Py⟩)
  λs' ⟨Z,U,G,e,hk,Ww,Py⟩=>by subst e;exact h Z U G hk Ww Py
def Wz:entryFor table "set.__iter__"= some Builtin.«frozenset.__iter__»:=
 entryFor_alias (id' :="frozenset.__iter__") (by kernel_rfl) rfl (by decide+kernel) (by kernel_rfl)
def Bq:Slot "set_iterator" "__next__" "set_iterator.__next__":=
 .of (owner :="set_iterator") (n :="__next__") (by rw[typeLookup_type,builtinLookup_eq_fast];kernel_rfl) (by decide+kernel) (by decide+kernel) (by decide+kernel)
  (by first|exact .inl (by decide+kernel)|exact .inr (by decide+kernel)) (by rw[isSubtype_type];kernel_rfl)
def Ml:Slot "set_iterator" "__iter__" "set_iterator.__iter__":=
 .of (owner :="set_iterator") (n :="__iter__") (by rw[typeLookup_type,builtinLookup_eq_fast];kernel_rfl) (by decide+kernel) (by decide+kernel) (by decide+kernel)
  (by first|exact .inl (by decide+kernel)|exact .inr (by decide+kernel)) (by rw[isSubtype_type];kernel_rfl)
def Ke:entryFor table "set_iterator.__next__"= some Builtin.«set_iterator.__next__»:=entryFor_of_fast (by kernel_rfl)
def T9:entryFor table "set_iterator.__iter__"= some Builtin.«dict_keyiterator.__iter__»:=
 entryFor_alias (id' :="dict_keyiterator.__iter__") (by kernel_rfl) rfl (by decide+kernel) (by kernel_rfl)
def Mm(a:Value):argsOk "set_iterator.__next__" ⟨[a],[]⟩:=by unfold argsOk;kernel_rfl
def Vz(a:Value):argsOk "set_iterator.__iter__" ⟨[a],[]⟩:=by unfold argsOk;kernel_rfl
def agh(R:Srt Z):below Z 0=0:=by
 obtain⟨G,U,h3⟩:=Fj (j:=0) R;rcases Nat.eq_zero_or_pos (below Z 0)with e|e
 .exact e
 .have l:0<Z.size:=b_ e G
  have:=U 0 Z[0] (by simp[l]) e
  lia
def agi(G:Srt Z)(h:Z[i]?=some j):below Z (j+1)=i+1:=by
 obtain⟨h1,h2,h3⟩:=Fj (j:=j+1) G;have R:i<below Z (j+1):=by
  rcases yg i (below Z (j+1))with l|l
  .exact l
  .have:=h3 i j h l;lia
 have a2:¬i+1<below Z (j+1):=λl=>by
  have l2:i+1<Z.size:=b_ l h1
  have U:Z[i+1]?=some Z[i+1]:=by simp[l2]
  have:=h2 (i+1) _ U l;have:=G i (i+1) j _ h U B_
  lia
 exact u_ (s_ a2) R
def wkN(w:World)(a:Addr)(Z:Array (Int×Value))(G:Nat):Array (Int×Value):=if bt w then pickOrder (w.params.setOrder a G) Z else Z
def adt:(wkN w a es ep).toList.Perm es.toList:=by
 unfold wkN;split
 .exact Z6 _ _
 .exact zb _
def W0:(wkN w a Z G).size=Z.size:=by have:=(adt (w:=w) (a:=a) (es:=Z) (ep:=G)).length_eq;simpa using this
noncomputable def itN(a:Addr)(Z i n G:Nat):Obj:={ cls:=.type "set_iterator",data:=.fields #[.int Z 0,.int i 0,.ref a,.int n 0,.int G 0] }
set_option tactic.hygienic true in
def ay8(X:K7 w s.heap a xs o es Y t){Z:Nat}(y:bt w=false->below t.place Z=i)(L:∀e R,(wkN w a es Y)[i]?=some e->(bt w=false->below t.place R=i+1)->Q (some (e.2,R)) s)(U:(wkN w a es Y)[i]?=none->Q none s) :
 wpAny (model prog w) A (setNext a Z i Y) Q E s:=by
 unfold setNext;refine aa (jt X.get X.dat X.tab.fits ?_);dsimp only;refine aa (Wa ?_);cases hbt:bt w with
 |true =>
  simp only[jw,yx,cz,jg];refine aa ?_;unfold setWalk;refine aa (jt X.get X.dat X.tab.fits ?_);dsimp only;refine aa (Wa ?_);rw[hbt];simp only[jw];refine aa (wpAny_askSetting (aj (aj ?_)));have G:wkN w a es Y=pickOrder (w.params.setOrder a Y) es:=by unfold wkN;rw[hbt];rfl
  show Q (((pickOrder (w.params.setOrder a Y) es)[i]?).map _) s;rw[<-G];cases hg:(wkN w a es Y)[i]? with
  |none=>exact U hg|some e=>exact L e Z hg (λc=>by rw[hbt]at c;cases c)
 |false =>
  have G:wkN w a es Y=es:=by unfold wkN;rw[hbt];rfl
  simp only[cz,jg];split
  .rename_i J
   have J:(!t.plain&&decide (es.size > 1))=true:=J;rw[X.pla]at J;cases J
  .refine aa ?_
   have fin:Q (match es[below t.place Z]?,t.place[below t.place Z]? with|some (_,x),some j=>some (x,j+1)|_,_=>none) s:=by
    rw[y hbt];cases hg:es[i]? with
    |none=>exact U (by rw[G];exact hg)
    |some e =>
     have u:i<t.place.size:=by rw[X.tab.Zz];exact(jc.mp hg).1
     have C:t.place[i]?=some t.place[i]:=by simp[u]
     rw[C];exact L e _ (by rw[G];exact hg) (λ_=>agi X.tab.srt C)
   have:wpAny (model prog w) A (if(!t.led&&!es.isEmpty)=true then unsupported "set:maker-not-led" else pure ()) (λ_ S=>wpAny (model prog w) A (pure (match es[below t.place Z]?,t.place[below t.place Z]? with|some (_,x),some j=>some (x,j+1)|_,_=>none)) Q E S) E s:=by rw[X.led,hbt];simp only[za,qt,Bool.false_and,cz,jg];exact aj (aj fin)
   exact this
set_option tactic.hygienic true in
def an7{I:Addr}(X:K7 w s.heap a xs o U G t){Z:Nat}(C:s.heap.get? I=some (itN a Z i U.size G))(hb:bt w=false->below t.place Z=i)(J:(wkN w a U G)[i]?=some e)(hQ:∀S Y,S.get? I=some (itN a Y (i+1) U.size G)->(bt w=false->below t.place Y=i+1)->Heap.SameBut I s.heap S->Q (some e.2) { s with heap:=S }) :
 wpAny (model prog w) A (pyNext (.ref I)) Q E s:=by
 have hT:s.TypeIs (.ref I) "set_iterator":= ⟨_,C,rfl⟩;unfold pyNext;refine aa (wpAny_attempt (ju (name:=Str.ofString "__next__") hT Bq
  (jr Bq hT Ke ?_ (Mm _))))
 unfold Builtin.«set_iterator.__next__»;refine aa (m:=slotArgs "__next__" 0 _) (aj ?_);refine aa (wpAny_fieldsOf C rfl ?_);show wpAny _ _ (setEntries a>>=_) _ _ s;refine aa (kj X.get X.dat X.tab.fits ?_);rw[yx];simp only[cz,jg];show wpAny _ _ (setNext a Z i G>>=_) _ _ s;refine aa (ay8 X hb (λe' Y y R=>?_) (λhn=>by rw[hn]at J;cases J));rw[y]at J;cases J;dsimp only;refine aa (je C (by simp) λh1 g1 L=>?_);refine aa (je (s:={ s with heap:=h1 }) g1 (by simp) λh2 g2 u=>?_);exact aj ⟨_,rfl,aj (hQ h2 Y (by rw[g2];rfl) R (L.trans u))⟩
set_option tactic.hygienic true in
def auy{I:Addr}(hh:A.handled=none)(X:K7 w s.heap a xs o L G t){Z:Nat}(Y:s.heap.get? I=some (itN a Z i L.size G))(hb:bt w=false->below t.place Z=i)(S:(wkN w a L G)[i]?=none)(u:∀U,Heap.ExtBut I s.heap U->Q none { s with heap:=U }) :
 wpAny (model prog w) A (pyNext (.ref I)) Q E s:=by
 have R:s.TypeIs (.ref I) "set_iterator":= ⟨_,Y,rfl⟩;unfold pyNext;refine aa (wpAny_attempt (ju (name:=Str.ofString "__next__") R Bq
  (jr Bq R Ke ?_ (Mm _))))
 unfold Builtin.«set_iterator.__next__»;refine aa (m:=slotArgs "__next__" 0 _) (aj ?_);refine aa (wpAny_fieldsOf Y rfl ?_);show wpAny _ _ (setEntries a>>=_) _ _ s;refine aa (kj X.get X.dat X.tab.fits ?_);rw[yx];simp only[cz,jg];show wpAny _ _ (setNext a Z i G>>=_) _ _ s;refine aa (ay8 X hb (λe' sl C qq=>by rw[C]at S;cases S) (λhn=>?_));dsimp only;refine aa (je Y (by simp) λh1 g1 J=>?_);show wpAny _ _ (newExc (.type "StopIteration") []>>=_) _ _ _;refine aid (show A.in1.handled=none from hh) λU x k z_=>?_
 obtain⟨o,y,e2⟩:=z_;exact aa (o5 (T :="StopIteration") (b:=true) ⟨o,y,e2⟩ isSubtype_stop (aj (u _ λb o n z=>k b o (J.extBut b o n z))))
def ItS(w:World)(a I:Addr)(R:List (Int×Tok))(o:Obj)(U:Array (Int×Value))(G:Nat)(t:SetTable)(i:Nat)(h:Heap):Prop:=
 K7 w h a R o U G t/\∃Z,h.get? I=some (itN a Z i U.size G)/\(bt w=false->below t.place Z=i)
def K7.at(X:K7 w h a U o R Z t)(e:G.get? a=some o):K7 w G a U o R Z t:=⟨e,X.exa,X.dat,X.tab,X.ent,X.nod,X.led,X.pla⟩
theorem Walks.bea{I:Addr}(hh:A.handled=none)(Uy:a≠I)(xs:List (Int×Tok))(o:Obj)(U:Array (Int×Value))(ep:Nat)(t:SetTable) :
 Walks prog w A I [I,a] [I] U.size (λi v=>((wkN w a U ep)[i]?).map (·.2)=some v) (ItS w a I xs o U ep t)where
 sub:=λb Z=>by simp at Z;simp[Z]
 frame:=λ_ _ _ st hk=>⟨st.1.at (hk a (by simp) o st.1.get),let ⟨sl,e,r⟩:=st.2;⟨sl,hk I (by simp) _ e,r⟩⟩
 item:=λi s Q E hi st hQ=>by
  obtain⟨X,G,R,Z⟩:=st;have he:(wkN w a U ep)[i]?=some ((wkN w a U ep)[i]'(by rw[W0];exact hi)):=by simp[W0,hi]
  refine an7 X R Z he λh' sl g r sb=>hQ _ h' s.toks (by rw[he];rfl) ⟨X.at ((sb.2 a Uy).trans X.get),sl,g,r⟩ λb o Z e=>(sb.2 b (λh=>Z (by simp[h]))).trans e
 done:=λs Q E st hQ=>by obtain⟨X,G,R,Z⟩:=st;exact auy hh X R Z (by simp[W0]) λh' qq=>hQ h' s.toks λb o Z e=>qq b o (λh=>Z (by simp[h])) e
 self:=λ_ s _ _ st hQ=>by obtain⟨X,G,R,Z⟩:=st;have hT:s.TypeIs (.ref I) "set_iterator":= ⟨_,R,rfl⟩;refine wpAny_pyIter_slot hT Ml (jr Ml hT T9 ?_ (Vz _));show wpAny _ _ (ret (.ref I)) _ _ s;exact aj ⟨_,rfl,"set_iterator",_,hT,Bq.lookup,hQ⟩
def a71(X:K7 w s.heap a xs o Z U t)(hQ:Q (.ref s.heap.objs.size) { s with heap:=s.heap.push (itN a 0 0 Z.size U) }):wpAny (model prog w) A (pyIter (.ref a)) Q E s:=by
 have G:s.TypeIs (.ref a) "set":= ⟨o,X.get,X.exa.1⟩;refine wpAny_pyIter_slot G F.slot_set_iter (jr F.slot_set_iter G Wz ?_ (F.args_set_iter_1 _));unfold Builtin.«frozenset.__iter__» Builtin.Frozenset.slot0 slotArgs;simp only[List.isEmpty_nil,qt,cz,↓reduceIte,bind_assoc,List.length_nil,yx];unfold Builtin.Frozenset.addrOf Builtin.Frozenset.sizeOf;refine aa (aj ?_)
 try dsimp only
 refine aa (aj ?_);refine aa (aa (kj X.get X.dat X.tab.fits (aj ?_)));refine aa ?_;unfold setDrawn;refine aa (jt X.get X.dat X.tab.fits ?_);dsimp only;refine aa (Wa (aj ?_));have R:(!bt w&&(!t.plain&&decide (Z.size > 1)))=false:=by rw[X.pla];simp
 show wpAny _ _ (if(!bt w&&(!t.plain&&decide (Z.size > 1)))=true then _ else _) _ _ s;rw[R];simp only[cz,jg];refine aa (aj (aa (wpAny_setEpoch_of X.get X.dat X.tab.fits ?_)));exact aa (jx (aj ⟨_,rfl,"set_iterator",_,⟨_,bu _ rfl,rfl⟩,Bq.lookup,hQ⟩))
def a72(Z:s.TypeIs (.ref a) "set")(h:Q false s):wpAny (model prog w) A (Builtin.List.listLengthHint (.ref a)) Q E s:=by
 unfold Builtin.List.listLengthHint;refine aa (wpAny_specialOf Z F.slot_set_len.lookup ?_)
 (generalize hid:("set.__len__": String)=id0;(fail_if_success (clear hid id0));wp_delta;rw[show splitId id0=some ("set","__len__")from by subst hid;decide+kernel];subst hid)
 refine aa (o5 (b:=true) Z sub_set_self ?_);refine aa (qb Z ?_);exact aj h
def an8(hh:A.handled=none)(X:K7 w s.heap a xs o Z U t)(hz:Z.size<=sizeLine)(h:∀h' tk q0,(∀b o,s.heap.get? b=some o->h'.get? b=some o)->s.heap.objs.size<=h'.objs.size->ItemsOf (λi v=>((wkN w a Z U)[i]?).map (·.2)=some v) q0 Z.size->Q q0.toList { s with heap:=h',toks:=tk }) :
 wpAny (model prog w) A (collect (.ref a)) Q E s:=by
 have Jk:a<s.heap.objs.size:=az X.get
 have qj:s.heap.objs.size≠a:=vo Jk;unfold collect;refine aa (wpAny_runValue (m9 F.entry_proto_collect ?_));rw[j8 F.plain_proto_collect _];show wpAny _ A.in1 (newList []>>=λl=>again (.builtin "list.__iadd__" ⟨[l,.ref a],[]⟩)) _ _ s;refine aa (jx ?_);refine aj ⟨plainId_quiet F.plain_list_iadd _,m9 F.entry_list_iadd ?_⟩;rw[j8 F.plain_list_iadd _];have X1:K7 w (s.heap.push { cls:=.type "list",data:=.seq ([]:Zl).toArray }) a xs o Z U t:=X.at (au _ X.get);have q3:Shared.TypeIs { s with heap:=s.heap.push { cls:=.type "list",data:=.seq ([]:Zl).toArray } } (.ref a) "set":= ⟨o,X1.get,X1.exa.1⟩;have h1:Builtin.List.listSameRef (.ref s.heap.objs.size) (.ref a)=false:=by simp[Builtin.List.listSameRef,qj]
 show wpAny _ A.in1 (Builtin.List.listExtendWith (.ref s.heap.objs.size) (.ref a) (.ref s.heap.objs.size)) _ _ _;unfold Builtin.List.listExtendWith;refine aa (qb q3 ?_);rw[bw (by rw[h1];decide)];refine aa (a71 (s:={ s with heap:=s.heap.push { cls:=.type "list",data:=.seq ([]:Zl).toArray } }) X1 ?_);have q1:(s.heap.push { cls:=.type "list",data:=.seq ([]:Zl).toArray }).objs.size=s.heap.objs.size+1:=iu ..;show wpAny _ A.in1 (holding [.ref (s.heap.push { cls:=.type "list",data:=.seq ([]:Zl).toArray }).objs.size] (Builtin.List.listLengthHint (.ref a))>>=_) _ _ { s with heap:=(s.heap.push { cls:=.type "list",data:=.seq ([]:Zl).toArray }).push (itN a 0 0 Z.size U) };have gI:((s.heap.push { cls:=.type "list",data:=.seq ([]:Zl).toArray }).push (itN a 0 0 Z.size U)).get? (s.heap.push { cls:=.type "list",data:=.seq ([]:Zl).toArray }).objs.size=some (itN a 0 0 Z.size U):=bu _ rfl;have gS:((s.heap.push { cls:=.type "list",data:=.seq ([]:Zl).toArray }).push (itN a 0 0 Z.size U)).get? s.heap.objs.size=some { cls:=.type "list",data:=.seq ([]:Zl).toArray }:=au _ (bu _ rfl);have qk:∀b o,s.heap.get? b=some o->((s.heap.push { cls:=.type "list",data:=.seq ([]:Zl).toArray }).push (itN a 0 0 Z.size U)).get? b=some o:=λb o e=>au _ (au _ e)
 have q5:s.heap.objs.size<=((s.heap.push { cls:=.type "list",data:=.seq ([]:Zl).toArray }).push (itN a 0 0 Z.size U)).objs.size:=by rw[iu,q1];exact a_ x_ x_
 generalize(s.heap.push { cls:=.type "list",data:=.seq ([]:Zl).toArray }).push (itN a 0 0 Z.size U)=hp at *;rw[q1]at gI⊢;have X2:K7 w hp a xs o Z U t:=X.at (qk a o X.get);refine aa (ji (a72 ⟨o,X2.get,X2.exa.1⟩ ?_));rw[bx (by decide+kernel)];refine aa (wpAny_rule ?_);refine aa ?_;show wpAny _ A.in1 (updateSeq s.heap.objs.size (·.push .none)>>=λ_=>updateSeq s.heap.objs.size (·.pop)) _ _ _;refine aa (wpAny_updateSeq gS rfl ?_);have G:=mj (Obj.mapSeq (·.push Value.none)) gS rfl;refine wpAny_updateSeq (hz:=by seq_fits) G rfl ?_;have qq:=mj (Obj.mapSeq (·.pop)) G rfl;have R:∀b o,b≠s.heap.objs.size->hp.get? b=some o->((hp.update s.heap.objs.size (Obj.mapSeq (·.push Value.none))).update s.heap.objs.size (Obj.mapSeq (·.pop))).get? b=some o:=
  λb o hb e=>(ur _ _ (j0 hb)).trans ((ur _ _ (j0 hb)).trans e)
 have q6:((hp.update s.heap.objs.size (Obj.mapSeq (·.push Value.none))).update s.heap.objs.size (Obj.mapSeq (·.pop))).objs.size=hp.objs.size:=by rw[Heap.size_update,Heap.size_update]
 generalize(hp.update s.heap.objs.size (Obj.mapSeq (·.push Value.none))).update s.heap.objs.size (Obj.mapSeq (·.pop))=h3 at *;have W:=(Walks.bea (prog:=prog) (w:=w) (A:=A.in1) (I:=s.heap.objs.size+1) (a:=a) hh (f9 (p7 Jk)) xs o Z U t).toS;refine aj ⟨plainId_quiet F.plain_extend_loop _,codeAny_extend_loopS W hz _ (by simp only[cu,xq,or_false,not_or];exact⟨f9 (ph _),qj⟩) _ Z.size 0 _ _ _ rfl (jq _)
  ⟨X.at (R a o (j0 qj) (qk a o X.get)),0,R _ _ (vo (ph _)) gI,λ_=>agh X.tab.srt⟩ qq (ItemsOf.nil _) λs' qv c' hm Ww Fl=>?_⟩
 show wpAny _ A (load s.heap.objs.size>>=_) _ _ s';refine aa (wpAny_load Ww ?_);obtain⟨h',g',d',q4,q2⟩:=s';have eg:g'=s.gens:=hm.gens;have ed:d'=s.drawn:=hm.drawn;have eo:q2=s.os:=hm.os;subst eg;subst ed;subst eo;refine aj (h h' q4 qv (λb o e=>?_) ?_ Fl)
 .have hb:=az e
  exact hm.heap b o (by simp only[cu,xq,or_false,not_or];exact⟨f9 hb,f9 (p7 hb)⟩) (R b o (f9 hb) (qk b o e))
 .have:=az Ww
  exact zr this
def agj{s:Shared}(X:K7 w s.heap a xs o Z R t)(Fl:ItemsOf (λi v=>((wkN w a Z R)[i]?).map (·.2)=some v) acc Z.size) :
 ∃ns:List Int,PyProof.Rows.IntsAre acc.toList ns/\ns.Perm (xs.map (·.1)):=by
 obtain⟨G,ey,py⟩:=Ec (f:=enI) (adt (w:=w) (a:=a) (es:=Z) (ep:=R)) X.ent;have e1:acc.toList=G.map λy=>Value.int y.1 y.2:=by
  apply wu;intro i;have hz:acc.toList.length=Z.size:=by simpa using Fl.1
  have hy:G.length=Z.size:=by rw[py.length_eq,<-X.size]
  by_cases U:i<Z.size
  .have e2:acc.toList[i]?=some (acc.toList[i]'(b_ U (g_ hz))):=by simp[hz,U]
   have e3:=Fl.2 i _ (by rw[<-m8];exact e2);rw[e2,<-e3,<-m8,ey,iz,iz];cases G[i]?<;>rfl
  .rw[kh (a_ (f_ hz) (s_ U)),kh (by simp;exact a_ (f_ hy) (s_ U))]
 refine⟨G.map (·.1),?_,py.map _⟩;rw[e1];clear e1 py ey Fl
 induction G with
 |nil=>exact .nil|cons y G ih=>exact .cons _ _ ih
def adu(hh:A.handled=none)(hS:Ci w s.heap a S n)(hn:n<31)(h:∀(h':Heap) (tk:Nat) (p:Addr) (out:U1) (ns:Xs),(∀b o,s.heap.get? b=some o->h'.get? b=some o)->s.heap.objs.size<=p->PyProof.Rows.IntsAre out.toList ns->ns.Pairwise (·<=·)->ns.Nodup->(∀k,S k↔k∈ns) ->
 (∃c,h'.get? p=some (PyProof.Rows.seqObj "list" out c))->Q (.ref p) { s with heap:=h',toks:=tk }) :
 wpAny (model prog w) A (call (.builtin "sorted") [.ref a]) Q E s:=by
 obtain⟨xs,o,es,ep,t,X,hm,hl,nf⟩:=hS;have U:=X.size;refine Calls.call_function_entry PyProof.Rows.kind_sorted PyProof.Rows.plain_sorted PyProof.Rows.entry_sorted (PyProof.Rows.args_sorted1 _) ?_;unfold Builtin.«sorted»;refine aa (m:=checkCount "sorted" 1 1 _) (aj ?_);refine aa (an8 (by simpa using hh) X (by rw[p8];exact e_ (c_ (f_ U) (c_ (f_ hl) (b_ hn (by decide))))) λh1 tk Z keep qk Fl=>?_);obtain⟨ns,hI,pn⟩:=agj X Fl;have G:Z.toList.length=n:=by have:=Fl.1;simp;exact u_ (a_ (f_ this) (a_ (f_ U) (f_ hl))) (a_ (g_ hl) (a_ (g_ U) (g_ this)))
 have qv:Z=Z.toList.toArray:=by simp
 refine aa (wpAny_newList ?_ (by rw[p8];exact e_ (c_ (f_ G) (b_ hn (by decide)))));have R:(h1.push (PyProof.Rows.seqObj "list" Z.toList.toArray 0)).get? h1.objs.size=some (PyProof.Rows.seqObj "list" Z.toList.toArray 0):=bu _ rfl;refine aa (ji (jr PyProof.Rows.slot_list_sort ⟨_,R,rfl⟩ PyProof.Rows.entry_list_sort (PyProof.Rows.list_sort_tree (s:={ s with heap:=h1.push (PyProof.Rows.seqObj "list" Z.toList.toArray 0),toks:=tk }) R hI (c_ (f_ G) (b_ hn (by decide))) λout qj a1 a2 a3=>⟨_,rfl,?_⟩) (PyProof.Rows.args_list_sort _)));have p2:=a2.trans pn;refine aj ⟨_,rfl,h _ tk h1.objs.size out qj (λb o e=>?_) qk a1 a3 (p2.nodup_iff.mpr X.nod) (λk=>(hm k).trans p2.mem_iff.symm) (PyProof.Rows.sortedHeap_at R)⟩;have qq:=keep b o e;have Jk:=az qq;rw[PyProof.Rows.sortedHeap_old (f9 Jk) (by rw[iu];exact p7 Jk),Heap.get?_push_ne _ _ _ (f9 Jk)];exact qq
end Wq
namespace MW
open PySem PySem.Builtin.Str
noncomputable def gl(y:Y3):List (List Nat)->List Nat
 |[]=>[]|[p]=>p|p::q::ps=>p++(y++gl y (q::ps))
noncomputable def Ua(x y:Y3)(i:Nat):Bool:=decide ((x.drop i).take y.length=y)
def cuts(x y:Y3):List Nat:=(List.range (x.length+1)).filter (Ua x y)
noncomputable def between(x:Y3)(Z:Y3)(w:Nat):List (List Nat):=((0::Z.map (·+w)).zip (Z++[x.length])).map λq=>(x.drop q.1).take (q.2-q.1)
structure Cln(y:Y3)(c o:Nat)(ps:List (List Nat)):Prop where
 at_:y[o]?=some c
 one:∀i,y[i]?=some c->i=o
 no:∀p∈ps,c∉p
def aie(h:Ua x y i=true)(e:y[o]?=some c):x[i+o]?=some c:=by have h:=jh h;have Z:=(ak.mp e).1;rw[<-h,List.getElem?_take_of_lt Z,List.getElem?_drop]at e;exact e
def an9{Z:List (List Nat)}(C:Cln y c o Z){k:Nat}(G:k<o):(gl y Z)[k]?≠some c:=by
 intro e;cases Z with
 |nil=>simp[gl]at e
 |cons p Z=>cases Z with
  |nil=>exact C.no p (by simp) (ao e)
  |cons q Z =>
   rw[gl]at e;rw[Aq]at e;split at e
   .exact C.no p (by simp) (ao e)
   .rw[Aq]at e
    split at e
    .have:=C.one _ e;exact l_ G (a_ (g_ this) C_)
    .have:=(ak.mp C.at_).1;omega
def aoa(p y Z:Y3)(i:Nat):(p++(y++Z)).drop (p.length+y.length+i)=Z.drop i:=by rw[<-List.drop_drop,<-yq,<-o6,List.drop_left]
def Ro(C:Cln y c o (p::ps))(R:∀{k},k<o->G[k]?≠some c)(h:Ua (p++(y++G)) y i=true):i=p.length\/∃Z,i=p.length+y.length+Z/\Ua G y Z=true:=by
 by_cases U:p.length+y.length<=i
 .obtain⟨Z,rfl⟩:=Nat.exists_eq_add_of_le U
  refine .inr ⟨Z,rfl,?_⟩;unfold Ua at h⊢
  rwa [aoa]at h
 .refine .inl ?_
  have e:=aie h C.at_;rw[Aq]at e;split at e
  .exact absurd (ao e) (C.no p (by simp))
  .rw[Aq]at e
   split at e
   .have:=C.one _ e;omega
   .exact absurd e (R (show i+o-p.length-y.length<o by omega))
def a0r{ps:List (List Nat)}(hn:ps≠[])(C:Cln y c o ps):between (gl y ps) (cuts (gl y ps) y) y.length=ps:=by
 induction ps with
 |nil=>exact absurd rfl hn
 |cons p ps R=>cases ps with
  |nil =>
   have:cuts p y=[]:=by unfold cuts;rw[xj];intro i _ h;exact C.no p (by simp) (ao (aie h C.at_))
   show between p (cuts p y) y.length=[p];rw[this];simp[between]
  |cons q ps =>
   have C':Cln y c o (q::ps):=⟨C.at_,C.one,λr hr=>C.no r (bc _ hr)⟩;have R:=R (by simp) C';have ho:=(ak.mp C.at_).1;have hx:gl y (p::q::ps)=p++(y++gl y (q::ps)):=rfl;have lx:∀{k},k<o->(gl y (q::ps))[k]?≠some c:=an9 C'
   generalize gl y (q::ps)=x' at *;rw[hx];have hd:=aoa p y x';have e:cuts (p++(y++x')) y=p.length::(cuts x' y).map (p.length+y.length+·):=by
    unfold cuts;rw[show(p++(y++x')).length+1=(p.length+y.length)+(x'.length+1)by simp;lia,List.range_add,yc];have U:(List.range (p.length+y.length)).filter (Ua (p++(y++x')) y)=[p.length]:=by
     rw[show p.length+y.length=p.length+(1+(y.length-1))by lia,List.range_add,yc,List.range_add];have no:∀i,i<p.length+y.length->i≠p.length->¬Ua (p++(y++x')) y i=true:=λi h1 h2 h=>by rcases Ro C lx h with e|⟨_,e,_⟩<;>lia
     have f1:(List.range p.length).filter (Ua (p++(y++x')) y)=[]:=xj.mpr λi Z=>no i (by have:=ik.mp Z;exact b_ this x_) (by have:=ik.mp Z;exact h_ this)
     have G:Ua (p++(y++x')) y p.length=true:=xx (by rw[List.drop_left,List.take_left]);rw[f1,wy,qw,yc];have f2:(((List.range (y.length-1)).map (1+·)).map (p.length+·)).filter (Ua (p++(y++x')) y)=[]:=xj.mpr λi Z=>by simp only[bf,ik]at Z;obtain⟨_,⟨j,hj,rfl⟩,rfl⟩:=Z;exact no _ (by lia) (by lia)
     rw[f2];simp[G]
    rw[U,List.filter_map];have:(Ua (p++(y++x')) y ∘ λx=>p.length+y.length+x)=Ua x' y:=funext λi=>by show decide _=decide _;rw[hd]
    rw[this];rfl
   rw[e];have b:between (p++(y++x')) (p.length::(cuts x' y).map (p.length+y.length+·)) y.length=p::between x' (cuts x' y) y.length:=by
    unfold between;simp only[gr,xm,List.zip_cons_cons,o8]
    congr 1
    .simp
    .have U:(p.length+y.length)::(cuts x' y).map ((λx=>x+y.length) ∘ λx=>p.length+y.length+x)=(0::(cuts x' y).map (·+y.length)).map (p.length+y.length+·):=by
      simp[Function.comp_def,Nat.add_assoc]
     have e2:(cuts x' y).map (λx=>p.length+y.length+x)++[(p++(y++x')).length]=(cuts x' y++[x'.length]).map (p.length+y.length+·):=by simp[Nat.add_assoc]
     rw[U,e2,List.zip_map,o8];apply qp;intro q _;show((p++(y++x')).drop (p.length+y.length+q.1)).take (p.length+y.length+q.2-(p.length+y.length+q.1))=_;rw[hd,Nat.add_sub_add_left]
   rw[b,R]
def Ed(g:Str)(Z:Yf):(glued g Z).cps.toList=gl g.cps.toList (Z.map (·.cps.toList)):=by
 cases Z with
 |nil=>rfl
 |cons p Z =>
  show((Z.foldl (λG q=>G++g.cps++q.cps) p.cps).toList)=_;have U:∀(Z:Yf)(a:Array Nat)(l:Y3),a.toList=l->(Z.foldl (λG q=>G++g.cps++q.cps) a).toList=l++(match Z with|[]=>[]|_::_=>g.cps.toList++gl g.cps.toList (Z.map (·.cps.toList))):=λZ=>by
   induction Z with
   |nil=>intro a l h;simp[h]
   |cons q Z R =>
    intro a l h;rw[yj,R _ (l++g.cps.toList++q.cps.toList) (by simp[h])];cases Z with
    |nil=>simp[gl]|cons r Z=>simp[gl]
  rw[U Z p.cps _ rfl];cases Z with
  |nil=>simp[gl]|cons q Z=>simp[gl]
def a0s(s y:Str)(i:Nat)(h:i+y.length<=s.length):subAt s y i=Ua s.cps.toList y.cps.toList i:=by
 unfold subAt Ua;rw[Ag,beq_iff_eq,dm];constructor
 .intro e
  have:=mq Array.toList e;rw[Array.toList_extract,List.extract_eq_take_drop,zc]at this;exact this
 .intro e
  apply Array.ext';rw[Array.toList_extract,List.extract_eq_take_drop,zc];exact e
def occ_eq(s y:Str)(hy:0<y.length)(qj:∀i j,Ua s.cps.toList y.cps.toList i=true->Ua s.cps.toList y.cps.toList j=true->i<j->i+y.length<=j) :
 occurrences s y 0 s.length (s.length+1)=cuts s.cps.toList y.cps.toList:=by
 have bd:∀i,Ua s.cps.toList y.cps.toList i=true->i+y.length<=s.length:=λi h=>by have:=mq List.length (jh h);rw[zg,List.length_drop]at this;have G:s.cps.toList.length=s.length:=rfl;have Z:y.cps.toList.length=y.length:=rfl;rw[G,Z]at this;lia
 have C:∀i,(decide (i+y.length<=s.length)&&subAt s y i)=Ua s.cps.toList y.cps.toList i:=λi=>by
  by_cases h:i+y.length<=s.length
  .rw[xx h,Bool.true_and,a0s s y i h]
  .rw[uh h,Bool.false_and]
   cases e:Ua s.cps.toList y.cps.toList i with
   |false=>rfl|true=>exact absurd (bd i e) h
 have R:∀(l:Y3)(b:Array Nat×Nat),(forIn (m:=Id) l b λi q=>if(decide (q.1.size<s.length+1)&&decide (q.2<=i)&&decide (i+y.length<=s.length)&&subAt s y i)=true then pure (ForInStep.yield (q.1.push i,i+y.length))else pure (ForInStep.yield (q.1,q.2)))=(pure (l.foldl (λq i=>if(decide (q.1.size<s.length+1)&&decide (q.2<=i)&&Ua s.cps.toList y.cps.toList i)=true then(q.1.push i,i+y.length)else q) b):Id _):=λl=>by
  induction l with
  |nil=>intro b;rfl
  |cons i l ih =>
   intro b;rw[List.forIn_cons,yj,Bool.and_assoc (_&&_),C i];split
   .show forIn (m:=Id) l _ _=_
    rw[ih]
   .show forIn (m:=Id) l _ _=_
    rw[ih]
 have qq:∀n,n<=s.length+1->∃a U,(List.range n).foldl (λq i=>if(decide (q.1.size<s.length+1)&&decide (q.2<=i)&&Ua s.cps.toList y.cps.toList i)=true then(q.1.push i,i+y.length)else q) ((#[],0):Array Nat×Nat)=(a,U)/\a.toList=(List.range n).filter (Ua s.cps.toList y.cps.toList)/\∀j,n<=j->Ua s.cps.toList y.cps.toList j=true->U<=j:=λn=>by
  induction n with
  |zero=>intro _;exact⟨#[],0,rfl,rfl,λ_ _ _=>jq _⟩
  |succ n ih =>
   intro hn;obtain⟨a,U,G,Z,e3⟩:=ih (by lia);rw[vd,List.foldl_append,G,yc];have hs:a.size<=n:=by have:=mq List.length Z;rw[ql]at this;have l:=vy (Ua s.cps.toList y.cps.toList) (List.range n);rw[List.length_range]at l;exact a_ (f_ this) l
   cases o:Ua s.cps.toList y.cps.toList n with
   |false=>exact⟨a,U,by simp[o],by simp[o,Z],λj hj h=>e3 j (by lia) h⟩
   |true=>exact⟨a.push n,n+y.length,by simp[o,e3 n (bh _) o,show a.size<s.length+1 by lia],by simp[o,Z],λj hj h=>qj n j o h (by lia)⟩
 obtain⟨a,U,G,Z,_⟩:=qq (s.length+1) (bh _);unfold occurrences;simp only[Id.run,vq,Std.Legacy.Range.size,bind_pure_comp];rw[show(s.length+1-0+1-1)/1=s.length+1 by lia,<-List.range_eq_range',R,G];exact Z
def a0t{Z:List (List Nat)}(C:Cln y c o Z)(i j:Nat)(G:Ua (gl y Z) y i=true)(R:Ua (gl y Z) y j=true)(qq:i<j):i+y.length<=j:=by
 induction Z generalizing i j with
 |nil=>have:=aie G C.at_;simp[gl]at this
 |cons p Z ih=>cases Z with
  |nil=>exact absurd (ao (aie G C.at_)) (C.no p (by simp))
  |cons q Z =>
   have C':Cln y c o (q::Z):=⟨C.at_,C.one,λr hr=>C.no r (bc _ hr)⟩;have U:∀{k},k<o->(gl y (q::Z))[k]?≠some c:=an9 C'
   rcases Ro C U G with rfl|⟨i',rfl,k1⟩
   .rcases Ro C U R with rfl|⟨j',rfl,k2⟩<;>omega
   .rcases Ro C U R with rfl|⟨j',rfl,k2⟩
    .lia
    .have:=ih C' i' j' k1 k2 (by lia);lia
noncomputable def Fo(x y:Str):List Str:=if x.length<y.length\/(occurrences x y 0 x.length (x.length+1)).isEmpty=true then[x]else partsBetween x (occurrences x y 0 x.length (x.length+1)) y.length
def a0u(x:Str)(Z:Y3)(w:Nat):(partsBetween x Z w).map (·.cps.toList)=between x.cps.toList Z w:=by unfold partsBetween between;rw[o8];apply qp;intro q _;show(x.cps.extract q.1 q.2).toList=_;rw[Array.toList_extract,List.extract_eq_take_drop]
def Uz{y:Str}{ps:Yf}(U:ps≠[])(C:Cln y.cps.toList c o (ps.map (·.cps.toList))):Fo (glued y ps) y=ps:=by
 have R:0<y.length:=Ad (jq _) (ak.mp C.at_).1
 have G:=occ_eq (glued y ps) y R (by rw[Ed];exact a0t C);have Z:=a0r (by simpa using U) C;have inj:∀{a b:Yf},a.map (·.cps.toList)=b.map (·.cps.toList)->a=b:=fun{a b} h=>by
  refine List.map_inj_right (λp q e=>?_) |>.mp h
  obtain⟨p⟩:=p;obtain⟨q⟩:=q;exact mq Str.mk (Array.ext' e)
 apply inj;have one:cuts (glued y ps).cps.toList y.cps.toList=[]->[glued y ps].map (·.cps.toList)=ps.map (·.cps.toList):=λe=>by rw[Ed]at e;rw[e]at Z;rw[<-Z];simp[between,Ed]
 unfold Fo;split
 .rename_i h
  refine one ?_;rcases h with h|h
  .unfold cuts
   rw[xj];intro i _ hi;have:=mq List.length (jh hi);rw[zg,List.length_drop]at this;have e1:(glued y ps).cps.toList.length=(glued y ps).length:=rfl;have e2:y.cps.toList.length=y.length:=rfl;rw[e1,e2]at this;lia
  .rw[G]at h;exact qi.mp h
 .rw[a0u,G,Ed];exact Z
open PySem (Str)
set_option genInjectivity true in
inductive D where
 |non|bl (b:Bool)|int (i:Int)|str (s:Str)|tup (ds:List D)|vl (ds:List D)|fz (ds:List D)|ref (n:Nat)
noncomputable abbrev Kx:=Sum Int Str
set_option genInjectivity true in
inductive MO where
 |lst (ds:List D)|dT (ie:List (List Kx×D))|dK (ie:List (Kx×D))|ins (c:Nat) (fs:List (Nat×D))
noncomputable abbrev di:=List MO
noncomputable abbrev Env:=List (Option D)
set_option genInjectivity true in
inductive Res(α:Type)where
 |ok (a:α) (M:di)|bad
namespace Res
noncomputable def bind{Z β:Type}(r:Res Z)(f:Z->di->Res β):Res β:=
 match r with|ok a M=>f a M|bad=>bad
@[simp] def Br(a:α)(M:di)(f:α->di->Res β):(ok a M).bind f=f a M:=rfl
@[simp] def a75(f:α->di->Res β):(bad:Res α).bind f=bad:=rfl
noncomputable def ux{α:Type}(o:Option α)(M:di):Res α:=match o with|some a=>ok a M|none=>bad
@[simp] def Dt(a:α)(M:di):ux (some a) M=ok a M:=rfl
@[simp] def a0v(M:di):ux (none:Option α) M=bad:=rfl
end Res
inductive Op2 where|add|sub|mul|fdiv|mod|pow
inductive Cp where|eq|ne|lt|le|gt|ge|inn|Rp|is|inS
inductive Blt where
 |len|tuple|max|min|dict|all|isTuple|Ef|str|toInt|isStr
inductive Bm where|append|index|get|join|split
inductive Tg where
 |name (i:Nat)|names (is:Y3)
mutual
inductive Ex where
 |var (i:Nat)|cst (d:D)
 |bin (op:Op2) (a b:Ex)|neg (a:Ex)
 |cmp (op:Cp) (a b:Ex)|chain (o1 o2:Cp) (a b c:Ex)
 |and (a b:Ex)|or (a b:Ex)|not (a:Ex)|ite (c a b:Ex)
 |tup (es:Df)|lst (es:Df)|K8 (es:Df)|ak8|abb
 |ix (a b:Ex)|cut (a:Ex) (lo hi:OEx)
 |call (f:Nat) (es:Df)|make (c:Nat) (es:Df)|meth (o:Ex) (m:Nat) (es:Df)|fld (o:Ex) (f:Nat)
 |blt (b:Blt) (es:Df)|bm (m:Bm) (o:Ex) (es:Df)
 |comp (v:Bool) (k:Nat) (t:Tg) (it:Nt) (e:Ex)|Du (v:Bool) (k:Nat) (t:Tg) (it:Nt) (c:Ex) (e:Ex)
 |W2 (a b:Ex)|sx (a:Ex)|ntr (e:Ex)|agk (e:Ex)|agl (e:Ex)
inductive Df where
 |nil|cons (e:Ex) (es:Df)
inductive OEx where
 |none|some (e:Ex)
inductive Nt where
 |val (e:Ex)|sgn (e:Ex)|Mp (e:Ex)|enm (e:Ex)|zip (es:Df)
end
noncomputable abbrev Ex.v:=Ex.var
noncomputable abbrev Ex.i(n:Int):Ex:=.cst (.int n)
noncomputable abbrev Ex.l(e:Ex):Ex:=.blt .len (.cons e .nil)
noncomputable abbrev Df.z:=Df.nil
noncomputable abbrev Df.c:=Df.cons
noncomputable abbrev Df.o(a:Ex):Df:=.cons a .nil
noncomputable abbrev Df.p(a b:Ex):Df:=.cons a (.cons b .nil)
noncomputable abbrev Df.q(a b c:Ex):Df:=.cons a (.cons b (.cons c .nil))
inductive Lv where
 |tg (t:Tg)|sub (o i:Ex)|fld (o:Ex) (f:Nat)
mutual
inductive Ce where
 |asg (l:Lv) (e:Ex)|expr (e:Ex)|iff (c:Ex) (a b:mz)|whl (c:Ex) (b:mz)|for_ (t:Tg) (it:Nt) (b:mz)
 |ret (e:Ex)|brk|cont|raise|ala (e:Ex)
inductive mz where
 |nil|cons (s:Ce) (r:mz)
end
noncomputable abbrev Ce.a(i:Nat)(e:Ex):Ce:=.asg (.tg (.name i)) e
noncomputable abbrev Ce.f(c:Ex)(b:mz):Ce:=.iff c b .nil
noncomputable abbrev mz.z:=mz.nil
noncomputable abbrev mz.c:=mz.cons
noncomputable abbrev mz.o(a:Ce):mz:=.cons a .nil
noncomputable abbrev mz.p(a b:Ce):mz:=.cons a (.cons b .nil)
noncomputable abbrev mz.q(a b c:Ce):mz:=.cons a (.cons b (.cons c .nil))
structure Fn where
 np:Nat
 ns:Nat
 body:mz
structure Cl where
 init:Nat
 meths:List (Nat×Nat)
noncomputable def gm(M:di):D->Option (List D)
 |.vl ds=>some ds|.ref n=>match M[n]? with|some (.lst ds)=>some ds|_=>none
 |_=>none
def Bk(M:di):D->Option (List D)
 |.tup ds=>some ds|d=>gm M d
noncomputable def V0:D->Option Kx
 |.int i=>some (.inl i)|.str s=>some (.inr s)|_=>none
def abd:List D->Option (List Kx)
 |[]=>some []
 |d::ds=>match V0 d,abd ds with
  |some k,some ks=>some (k::ks)|_,_=>none
def V1:D->Option (List Kx)
 |.tup ds=>abd ds|_=>none
noncomputable def aob:Kx->D
 |.inl i=>.int i|.inr s=>.str s
def aoc(Z:List Kx):D:=.tup (Z.map aob)
def Eg:List D->Option (List (List Kx))
 |[]=>some []
 |d::ds=>match V1 d,Eg ds with
  |some k,some ks=>some (k::ks)|_,_=>none
noncomputable def Rq(f:D->D->Option Bool):List D->List D->Option Bool
 |[],[]=>some true
 |a::as,b::bs=>match f a b,Rq f as bs with
  |some x,some y=>some (x&&y)|_,_=>none
 |_,_=>some false
instance:DecidableEq Kx:=inferInstanceAs (DecidableEq (Sum Int Str))
noncomputable def v7{Z:Type}[DecidableEq Z](G:List (Z×D))(k:Z):Option D:=(G.find? λp=>decide (p.1=k)).map (·.2)
def Nj(M:di):Nat->D->D->Option Bool
 |0,_,_=>none
 |n+1,a,b=>match a,b with
  |.int i,.int j=>some (decide (i=j))|.bl i,.bl j=>some (i==j)|.str i,.str j=>some (decide (i=j))|.tup as,.tup bs=>Rq (Nj M n) as bs
  |a,b=>match gm M a,gm M b with
   |some as,some bs=>if as.length=bs.length then Rq (Nj M n) as bs else some false
   |_,_=>none
def wj(M:di)(a b:D):Option Bool:=Nj M 6 a b
def Rr(M:di)(x:D):List D->Option (List Bool)
 |[]=>some []
 |y::ys=>match wj M y x,Rr M x ys with
  |some a,some b=>some (a::b)|_,_=>none
def memD(M:di)(x:D)(Z:List D):Option Bool:=(Rr M x Z).map (·.any id)
def adx(M:di)(x:D)(Z:List D):Option Nat:=(Rr M x Z).bind (·.findIdx? id)
noncomputable def Z7:List D->Option (List Int)
 |[]=>some []|.int i::r=>(Z7 r).map (i::·)|_::_=>none
noncomputable def Zk(n:Nat)(i:Int):Option Nat:=if 0<=i then(if i<n then some i.toNat else none)else if -(n:Int)<=i then some (i+n).toNat else none
noncomputable def clip(n:Nat)(d:Nat):Option Int->Nat
 |none=>d|some i=>if 0<=i then min i.toNat n else(i+n).toNat
def W3(Z:List D)(G U:Option Int):List D:=(Z.drop (clip Z.length 0 G)).take (clip Z.length Z.length U-clip Z.length 0 G)
noncomputable def a0x:List Int->Option Int
 |[]=>none|a::r=>some (r.foldl (λm x=>if m<x then x else m) a)
noncomputable def a76:List Int->Option Int
 |[]=>none|a::r=>some (r.foldl (λm x=>if x<m then x else m) a)
noncomputable def insI(x:Int):List Int->List Int
 |[]=>[x]|y::ys=>if x<y then x::y::ys else y::insI x ys
def sortI(Z:Xs):List Int:=Z.foldr insI []
noncomputable def Ao:List Int->List Int
 |[]=>[]|x::xs=>if x∈xs then Ao xs else x::Ao xs
def keysOf(M:di)(d:D):Option (List D):=
 match d with
 |.ref n=>match M[n]? with
  |some (.dT ie)=>some (ie.map λp=>aoc p.1)
  |_=>gm M d
 |_=>gm M d
noncomputable def Cw{G:Type}[DecidableEq G](U:List (G×D))(k:G)(v:D):List (G×D):=
 if(U.any λZ=>decide (Z.1=k))=true then U.map (λZ=>if Z.1=k then(Z.1,v)else Z)else U++[(k,v)]
noncomputable def Eh(Z:List (List Kx)):Bool:=decide (Z.length<=30)&&Z.all λk=>k.all λx=>match x with|.inl _=>true|.inr _=>false
noncomputable def Jl(Z G:List (List Kx)):Bool:=Z.all (λx=>G.any λy=>decide (y=x))&&G.all (λy=>Z.any λx=>decide (x=y))
noncomputable def new(o:MO)(M:di):Res D:=.ok (.ref M.length) (M++[o])
def aih(a b:D)(M:di):Res D:=
 match a,b with
 |.int i,.int j=>.ok (.int (i+j)) M|.tup xs,.tup ys=>if xs.length+ys.length<=100000 then .ok (.tup (xs++ys)) M else .bad
 |x,y=>match gm M x,gm M y with
  |some xs,some ys=>if xs.length+ys.length<=100000 then .ok (.vl (xs++ys)) M else .bad
  |_,_=>.bad
noncomputable def ii{α:Type}(x y:D)(f:Int->Int->α)(z:α):α:=match x with|.int i=>(match y with|.int j=>f i j|_=>z)|_=>z
def agm(h:ii x y f z=r)(Z:z≠r):∃i j,x=.int i/\y=.int j/\f i j=r:=by
 cases x with
 |int i=>cases y with
  |int j=>exact⟨i,j,rfl,rfl,h⟩|_=>exact absurd h Z
 |_=>exact absurd h Z
@[simp] def bec(i j:Int)(f:Int->Int->α)(z:α):ii (.int i) (.int j) f z=f i j:=rfl
def a77(a b:D)(M:di):Res D:=ii a b (λi j=>.ok (.int (i-j)) M) .bad
def a78(a b:D)(M:di):Res D:=ii a b (λi j=>if(-(2^64)<i/\i<2^64)\/(-(2^64)<j/\j<2^64)then .ok (.int (i*j)) M else .bad) .bad
def a0y(a b:D)(M:di):Res D:=ii a b (λi j=>if 0<j/\j<1073741824 then .ok (.int (i/j)) M else .bad) .bad
def a79(a b:D)(M:di):Res D:=ii a b (λi j=>if 0<j then .ok (.int (i%j)) M else .bad) .bad
def ay9(a b:D)(M:di):Res D:=ii a b (λi j=>if 0<=j/\j<=64/\i.natAbs<2^64 then .ok (.int (i^j.toNat)) M else .bad) .bad
def Gp(Z:Op2):D->D->di->Res D:=
 match Z with
 |.add=>aih|.sub=>a77|.mul=>a78|.fdiv=>a0y|.mod=>a79|.pow=>ay9
noncomputable def plainS(x:Str):Bool:=x.cps.all (· < 128)&&decide (x.length<=100000)
noncomputable def sgn(c:Nat):D:=.str ⟨#[c]⟩
def signs(x:Str):List D:=x.cps.toList.map sgn
noncomputable def agn:List D->Option (List Str)
 |[]=>some []|.str x::r=>(agn r).map (x::·)|_::_=>none
noncomputable def inS(a b:Str):Bool:=!(PySem.Builtin.Str.occurrences b a 0 b.length 1).isEmpty
def Pz(M:di)(a b:D):Option Bool:=
 match b with
 |.ref n=>match M[n]? with
  |some (.dT ie)=>(V1 a).map λk=>(v7 ie k).isSome
  |some (.dK ie)=>(V0 a).map λk=>(v7 ie k).isSome
  |_=>(Bk M b).bind (memD M a)
 |_=>(Bk M b).bind (memD M a)
def ady(f:Int->Int->Bool)(a b:D):Option Bool:=ii a b (λi j=>some (f i j)) none
def Fe(Z:Cp)(a b:D)(M:di):Option Bool:=
 match Z with
 |.lt=>ady (λi j=>decide (i<j)) a b
 |.le=>ady (λi j=>decide (i<=j)) a b
 |.gt=>ady (λi j=>decide (j<i)) a b
 |.ge=>ady (λi j=>decide (j<=i)) a b
 |.eq=>wj M a b|.ne=>(wj M a b).map not|.inn=>Pz M a b|.Rp=>(Pz M a b).map not
 |.is=>match b with
  |.non=>(match a with|.non=>some true|.tup _=>some false|.vl _=>some false|_=>none)
  |_=>none
 |.inS=>match a,b with
  |.str x,.str y=>if plainS x=true/\plainS y=true then some (inS x y)else none
  |_,_=>none
def Aw(a b:D)(M:di):Option D:=
 match a with
 |.ref n=>match M[n]? with
  |some (.dT ie)=>(V1 b).bind (v7 ie)|some (.dK ie)=>(V0 b).bind (v7 ie)
  |_=>match gm M a,b with
   |some ds,.int i=>(Zk ds.length i).bind λj=>ds[j]?
   |_,_=>none
 |.fz ds=>match b with
  |.int i=>(Zk ds.length i).bind λj=>ds[j]?
  |_=>none
 |_=>match Bk M a,b with
  |some ds,.int i=>(Zk ds.length i).bind λj=>ds[j]?
  |_,_=>none
noncomputable def allB:List D->Option Bool
 |[]=>some true|.bl b::r=>(allB r).map (b&&·)|_::_=>none
def U0(a:D)(G U:Option Int)(M:di):Option D:=match a with
 |.tup Z=>some (.tup (W3 Z G U))|_=>(gm M a).map λZ=>.vl (W3 Z G U)
noncomputable def ago(Z:List (List Kx×D)):Bool:=Z.all λp=>match p.1 with
 |[.inl i,.inl j]=>decide (-1<=i)&&decide (i<9)&&decide (-1<=j)&&decide (j<9)|_=>false
noncomputable def Hv(M:di):D->Res D
 |.ref n=>match M[n]? with
  |some (.lst ds)=>.ok (.int ds.length) M|_=>.bad
 |.fz ds=>.ok (.int ds.length) M|.tup ds=>.ok (.int ds.length) M|.vl ds=>.ok (.int ds.length) M|_=>.bad
def aii(M:di):D->Res D
 |.ref n=>match M[n]? with
  |some (.dT ie)=>if ago ie then new (.dT ie) M else .bad
  |some (.dK ie)=>new (.dK ie) M|_=>.bad
 |_=>.bad
def isX(bt Z:Option Bool)(d:D):Option Bool:=match d with
 |.tup _=>bt|.int _=>Z|_=>none
def isR(bt Z:Option Bool)(M:di)(d:D):Res D:=Res.ux ((isX bt Z d).map D.bl) M
def two(Z:List D)(f:Int->Int->Int)(g:D->Option Int)(M:di):Res D:=
 match Z with
 |[a,b]=>(match a,b with|.int i,.int j=>.ok (.int (f i j)) M|_,_=>.bad)
 |[d]=>Res.ux ((g d).map D.int) M|_=>.bad
noncomputable def K9(Z:List D)(g:D->Res D):Res D:=
 match Z with
 |[d]=>g d|_=>.bad
def rm(b:Blt)(Z:List D)(M:di):Res D:=
 match b with
 |.len=>K9 Z (Hv M)|.tuple=>K9 Z λd=>Res.ux ((Bk M d).map D.tup) M
 |.max=>two Z (λi j=>if i<j then j else i) (λd=>((gm M d).bind Z7).bind a0x) M
 |.min=>two Z (λi j=>if j<i then j else i) (λd=>((gm M d).bind Z7).bind a76) M
 |.Ef=>K9 Z λd=>Res.ux (((gm M d).bind Z7).bind λis=>if(Ao is).length<31 then some (D.vl ((sortI (Ao is)).map D.int))else none) M
 |.dict=>K9 Z (aii M)|.all=>K9 Z λd=>Res.ux (((gm M d).bind allB).map D.bl) M
 |.isTuple=>K9 Z (isR (some true) (some false) M)
 |.isStr=>K9 Z λd=>match d with
  |.str _=>.ok (.bl true) M|_=>.bad
 |.str=>K9 Z λd=>match d with
  |.int i=>if 0<=i/\i<10 then .ok (sgn (48+i.toNat)) M else .bad
  |_=>.bad
 |.toInt=>K9 Z λd=>match d with
  |.str x=>(match x.cps.toList with|[c]=>if 48<=c/\c<58 then .ok (.int ((c-48:Nat):Int)) M else .bad|_=>.bad)
  |_=>.bad
def P0(m:Bm)(x:D)(M:di):Bool:=
 match m with
 |.get=>(match x with|.ref n=>(match M[n]? with|some (.dK _)=>true|_=>false)|_=>false)
 |.join=>(match x with|.str _=>true|_=>false)
 |.split=>(match x with|.str _=>true|_=>false)
 |_=>(gm M x).isSome
noncomputable def onL(o:D)(M:di)(f:Nat->List D->Res D):Res D:=match o with
 |.ref n=>match M[n]? with|some (.lst xs)=>f n xs|_=>.bad
 |_=>.bad
noncomputable def onK(o:D)(M:di)(f:List (Kx×D)->Res D):Res D:=match o with
 |.ref n=>match M[n]? with|some (.dK ie)=>f ie|_=>.bad
 |_=>.bad
def Hw(m:Bm)(o:D)(Z:List D)(M:di):Res D:=
 match m with
 |.append=>onL o M λn G=>K9 Z λd=>if G.length<100000 then .ok .non (M.set n (.lst (G++[d])))else .bad
 |.index=>K9 Z λd=>Res.ux (((Bk M o).bind (adx M d)).map λ(j:Nat)=>D.int (j:Int)) M
 |.get=>onK o M λU=>match Z with
  |[k,d]=>Res.ux ((V0 k).map λq=>(v7 U q).getD d) M
  |_=>.bad
 | .join=>(match o with
  | .str y=>K9 Z λd=>(match(gm M d).bind agn with
   |some G=>if plainS y=true/\G.foldl (λn p=>n+p.length+y.length) 0<=100000 then .ok (.str (PySem.Builtin.Str.glued y G)) M else .bad
   | none=>.bad)
  | _=>.bad)
 | .split=>(match o with
  | .str x=>K9 Z λd=>(match d with
   |.str y=>if plainS x=true/\plainS y=true/\0<y.length/\(Fo x y).length<=100000 then .ok (.vl ((Fo x y).map .str)) M else .bad
   | _=>.bad)
  | _=>.bad)
def setOp(o i v:D)(M:di):Option di:=
 match o with
 |.ref n=>match M[n]? with
  |some (.lst xs)=>match i with
   |.int j=>(Zk xs.length j).map λq=>M.set n (.lst (xs.set q v))
   |_=>none
  |some (.dT ie)=>(V1 i).bind λk=>if ie.length<100000 then some (M.set n (.dT (Cw ie k v)))else none
  |some (.dK ie)=>(V0 i).bind λk=>if ie.length<100000 then some (M.set n (.dK (Cw ie k v)))else none
  |_=>none
 |_=>none
noncomputable def U3(f:Nat)(v:D):List (Nat×D)->List (Nat×D)
 |[]=>[(f,v)]|(g,x)::r=>if g=f then(g,v)::r else(g,x)::U3 f v r
noncomputable def Rt(o:D)(f:Nat)(M:di):Option D:=
 match o with
 |.ref n=>match M[n]? with
  |some (.ins _ fs)=>fs.lookup f|_=>none
 |_=>none
def Ru(o:D)(f:Nat)(v:D)(M:di):Option di:=
 match o with
 |.ref n=>match M[n]? with
  |some (.ins c fs)=>if fs.length<1000 then some (M.set n (.ins c (U3 f v fs)))else none
  |_=>none
 |_=>none
inductive Src where
 |con (ds:List D)|live (n:Nat) (len:Nat)
noncomputable def Src.len:Src->Nat
 |.con ds=>ds.length|.live _ k=>k
noncomputable def Src.item(s:Src)(i:Nat)(M:di):Option D:=
 match s with
 |.con ds=>ds[i]?
 |.live n k=>match M[n]? with
  |some (.lst ds)=>if ds.length=k then ds[i]? else none
  |_=>none
noncomputable def Src.fin(s:Src)(M:di):Bool:=
 match s with
 |.con _=>true
 |.live n k=>match M[n]? with
  |some (.lst ds)=>ds.length==k|_=>false
noncomputable def srcOf(M:di)(d:D):Option Src:=
 match d with
 |.tup ds=>some (.con ds)|.vl ds=>some (.con ds)
 |.ref n=>match M[n]? with
  |some (.lst ds)=>some (.live n ds.length)|_=>none
 |_=>none
inductive Flow where
 |next|brk|cont|ret (d:D)
noncomputable def J1:List Nat->List D->Env->Env
 |i::is,d::ds,ρ=>J1 is ds (ρ.set i (some d))|_,_,ρ=>ρ
def Tg.put(t:Tg)(d:D)(Z:Env):Option Env:=
 match t with
 |.name i=>some (Z.set i (some d))
 |.names is=>match d with
  |.tup ds=>if ds.length=is.length then some (J1 is ds Z)else none
  |_=>none
structure Jm where
 call:Nat->List D->di->Res D
 cls:List Cl
def Ca(fin:di->Bool)(item:Nat->di->Option D)(Z:D->Env->di->Res (Flow×Env)):Nat->Nat->Env->di->Res (Flow×Env)
 |0,_,ρ,M=>if fin M then .ok (.next,ρ) M else .bad
 |k+1,i,ρ,M=>match item i M with
  |none=>.bad
  |some d=>(Z d ρ M).bind λr G=>match r.1 with
   |.next=>Ca fin item Z k (i+1) r.2 G|.cont=>Ca fin item Z k (i+1) r.2 G|.brk=>.ok (.next,r.2) G|.ret v=>.ok (.ret v,r.2) G
def Cy(fin:di->Bool)(item:Nat->di->Option D)(Z:D->di->Res (Option D)):Nat->Nat->di->Res (List D)
 |0,_,M=>if fin M then .ok [] M else .bad
 |k+1,i,M=>match item i M with
  |none=>.bad|some d=>(Z d M).bind λo U=>(Cy fin item Z k (i+1) U).bind λG R=>.ok (match o with|some x=>x::G|none=>G) R
def z8(s:Src)(Z:D->di->Res (Option D))(M:di):Res (List D):=if s.len<=100000 then Cy s.fin s.item Z s.len 0 M else .bad
def Gi(c:Env->di->Res D)(Z:Env->di->Res (Flow×Env)):Nat->Env->di->Res (Flow×Env)
 |0,_,_=>.bad
 |k+1,ρ,M=>(c ρ M).bind λb U=>match b with
  |.bl false=>.ok (.next,ρ) U
  |.bl true=>(Z ρ U).bind λr G=>match r.1 with
   |.next=>Gi c Z k r.2 G|.cont=>Gi c Z k r.2 G|.brk=>.ok (.next,r.2) G|.ret v=>.ok (.ret v,r.2) G
  |_=>.bad
noncomputable def agp:Nat:=1000000
noncomputable def Nu:List D->Option (List (List D))
 |[]=>some []|.tup l::r=>(Nu r).map (l::·)|_::_=>none
noncomputable def Q4(Z:List (List D))(n:Nat):List D:=(List.range n).map λi=>.tup (Z.map λl=>l.getD i .non)
noncomputable def Ei(Z:List D):Nat->List D:=λn=>(Z.zipIdx n).map λp=>D.tup [.int p.2,p.1]
mutual
def Ex.den(W:Jm):Ex->Env->di->Res D
 |.var i,ρ,M=>match ρ[i]? with
  |some (some d)=>.ok d M|_=>.bad
 |.cst d,_,M=>.ok d M|.bin op a b,ρ,M=>(a.den W ρ M).bind λx Z=>(b.den W ρ Z).bind λy G=>Gp op x y G
 |.neg a,ρ,M=>(a.den W ρ M).bind λx Z=>match x with|.int i=>.ok (.int (-i)) Z|_=>.bad
 |.cmp op a b,ρ,M=>(a.den W ρ M).bind λx Z=>(b.den W ρ Z).bind λy G=>Res.ux ((Fe op x y G).map D.bl) G
 |.chain o1 o2 a b c,ρ,M=>(a.den W ρ M).bind λx Z=>(b.den W ρ Z).bind λy G=>(Res.ux (Fe o1 x y G) G).bind λq G=>if q then(c.den W ρ G).bind λz M3=>Res.ux ((Fe o2 y z M3).map D.bl) M3 else .ok (.bl false) G
 |.and a b,ρ,M=>(a.den W ρ M).bind λx Z=>match x with|.bl true=>b.den W ρ Z|.bl false=>.ok (.bl false) Z|_=>.bad
 |.or a b,ρ,M=>(a.den W ρ M).bind λx Z=>match x with|.bl true=>.ok (.bl true) Z|.bl false=>b.den W ρ Z|_=>.bad
 |.not a,ρ,M=>(a.den W ρ M).bind λx Z=>match x with|.bl b=>.ok (.bl !b) Z|_=>.bad
 |.ite c a b,ρ,M=>(c.den W ρ M).bind λx Z=>match x with|.bl true=>a.den W ρ Z|.bl false=>b.den W ρ Z|_=>.bad
 |.tup es,ρ,M=>(es.den W ρ M).bind λU Z=>.ok (.tup U) Z
 |.lst es,ρ,M=>(es.den W ρ M).bind λU Z=>new (.lst U) Z
 |.K8 es,ρ,M=>(es.den W ρ M).bind λU Z=>.ok (.vl U) Z
 |.ak8,_,M=>new (.dT []) M|.abb,_,M=>new (.dK []) M|.ix a b,ρ,M=>(a.den W ρ M).bind λx Z=>(b.den W ρ Z).bind λy G=>Res.ux (Aw x y G) G
 |.cut a lo hi,ρ,M=>(a.den W ρ M).bind λx Z=>(lo.den W ρ Z).bind λl G=>(hi.den W ρ G).bind λh M3=>Res.ux (U0 x l h M3) M3
 |.call f es,ρ,M=>(es.den W ρ M).bind λU Z=>W.call f U Z
 |.make c es,ρ,M=>(es.den W ρ M).bind λU Z=>match W.cls[c]? with
  |some C=>(W.call C.init (.ref Z.length::U) (Z++[.ins c []])).bind λr G=>match r with|.non=>.ok (.ref Z.length) G|_=>.bad
  |none=>.bad
 |.meth o m es,ρ,M=>(o.den W ρ M).bind λx Z=>(es.den W ρ Z).bind λU G=>match x with
  |.ref n=>match Z[n]? with
   |some (.ins c _)=>match(W.cls[c]?).bind λC=>C.meths.lookup m with
    |some f=>W.call f (.ref n::U) G|none=>.bad
   |_=>.bad
  |_=>.bad
 |.fld o f,ρ,M=>(o.den W ρ M).bind λx Z=>Res.ux (Rt x f Z) Z
 |.blt b es,ρ,M=>(es.den W ρ M).bind λU Z=>rm b U Z
 |.bm m o es,ρ,M=>(o.den W ρ M).bind λx Z=>if P0 m x Z then(es.den W ρ Z).bind λU G=>Hw m x U G else .bad
 |.comp v k t it e,ρ,M=>(it.den W ρ M).bind λs Z =>
  (z8 s (λd M=>match t.put d (ρ++List.replicate k none)with
   |some R=>(e.den W R M).bind λx M'=>.ok (some x) M'
   | none=>.bad) Z).bind λU G=>if v then .ok (.vl U) G else new (.lst U) G
 |.Du v k t it c e,ρ,M=>(it.den W ρ M).bind λs Z =>
  (z8 s (λd M=>match t.put d (ρ++List.replicate k none)with
   |some R=>(c.den W R M).bind λb M'=>match b with
    |.bl true=>(e.den W R M').bind λx qq=>.ok (some x) qq
    |.bl false=>.ok none M'|_=>.bad
   | none=>.bad) Z).bind λU G=>if v then .ok (.vl U) G else new (.lst U) G
 |.W2 a b,ρ,M=>(a.den W ρ M).bind λx Z =>
  match(keysOf Z x).bind Eg with
  |some xs=>if Eh xs then(b.den W ρ Z).bind λy G =>
   match(keysOf G y).bind Eg with
   |some ys=>if Eh ys then .ok (.bl !Jl xs ys) G else .bad
   |none=>.bad
   else .bad
  |none=>.bad
 |.sx a,ρ,M=>(a.den W ρ M).bind λx Z=>match x with
  |.str s=>if plainS s=true then Res.ux ((s.cps.toList[0]?).map sgn) Z else .bad
  |_=>.bad
 |.ntr e,ρ,M=>(e.den W ρ M).bind λx Z=>Res.ux ((Bk Z x).map λU=>D.bl U.isEmpty) Z
 |.agk e,ρ,M=>(e.den W ρ M).bind λx Z=>match x with
  |.int i=>if i.natAbs<=100000 then .ok (.tup ((List.range i.toNat).map λ(k:Nat)=>D.int (k:Int))) Z else .bad
  |_=>.bad
 |.agl e,ρ,M=>(e.den W ρ M).bind λx Z=>match x with
  |.int i=>if i.natAbs<=100000 then new (.lst ((List.range i.toNat).map λ(k:Nat)=>D.int (k:Int))) Z else .bad
  |_=>.bad
def Df.den(W:Jm):Df->Env->di->Res (List D)
 |.nil,_,M=>.ok [] M|.cons e es,ρ,M=>(e.den W ρ M).bind λx Z=>(es.den W ρ Z).bind λG U=>.ok (x::G) U
def OEx.den(W:Jm):OEx->Env->di->Res (Option Int)
 |.none,_,M=>.ok none M|.some e,ρ,M=>(e.den W ρ M).bind λx Z=>match x with|.int i=>.ok (some i) Z|_=>.bad
def Nt.den(W:Jm):Nt->Env->di->Res Src
 |.val e,ρ,M=>(e.den W ρ M).bind λx Z=>Res.ux (srcOf Z x) Z
 |.sgn e,ρ,M=>(e.den W ρ M).bind λx Z=>match x with
  |.str x=>if plainS x=true then .ok (.con (signs x)) Z else .bad
  |_=>.bad
 |.Mp e,ρ,M=>(e.den W ρ M).bind λx Z=>match x with
  |.int i=>if i.natAbs<=100000 then .ok (.con ((List.range i.toNat).map λ(k:Nat)=>D.int (k:Int))) Z else .bad
  |_=>.bad
 |.enm e,ρ,M=>(e.den W ρ M).bind λx Z=>match x with
  |.tup G=>.ok (.con (Ei G 0)) Z|.vl G=>.ok (.con (Ei G 0)) Z|_=>.bad
 |.zip es,ρ,M=>(es.den W ρ M).bind λG Z=>match Nu G with
  |some (l::r)=>if(r.all λx=>x.length==l.length)=true then .ok (.con (Q4 (l::r) l.length)) Z else .bad
  |_=>.bad
end
def Lv.put(W:Jm)(l:Lv)(d:D)(Z:Env)(M:di):Res Env:=
 match l with
 |.tg t=>Res.ux (t.put d Z) M|.sub o i=>(o.den W Z M).bind λx G=>(i.den W Z G).bind λy U=>(Res.ux (setOp x y d U) U).bind λR _=>.ok Z R
 |.fld o f=>(o.den W Z M).bind λx G=>(Res.ux (Ru x f d G) G).bind λU _=>.ok Z U
mutual
def Ce.den(W:Jm):Ce->Env->di->Res (Flow×Env)
 |.asg l e,Z,M=>(e.den W Z M).bind λx G=>(l.put W x Z G).bind λU R=>.ok (.next,U) R
 |.expr e,Z,M=>(e.den W Z M).bind λ_ G=>.ok (.next,Z) G
 |.iff c a b,Z,M=>(c.den W Z M).bind λx G=>match x with|.bl true=>a.den W Z G|.bl false=>b.den W Z G|_=>.bad
 |.whl c b,Z,M=>Gi (c.den W) (b.den W) agp Z M
 | .for_ t it b,Z,M=>(it.den W Z M).bind λs G=>Ca s.fin s.item (λd Z M=>match t.put d Z with
  | some U=>b.den W U M|none=>.bad) s.len 0 Z G
 |.ret e,Z,M=>(e.den W Z M).bind λx G=>.ok (.ret x,Z) G
 |.brk,Z,M=>.ok (.brk,Z) M|.cont,Z,M=>.ok (.cont,Z) M|.raise,_,_=>.bad|.ala e,Z,M=>(e.den W Z M).bind λx G=>.ok (.ret x,Z) G
def mz.den(W:Jm):mz->Env->di->Res (Flow×Env)
 |.nil,ρ,M=>.ok (.next,ρ) M
 |.cons s r,ρ,M=>(s.den W ρ M).bind λp Z=>match p.1 with
  |.next=>r.den W p.2 Z|.brk=>.ok (.brk,p.2) Z|.cont=>.ok (.cont,p.2) Z|.ret d=>.ok (.ret d,p.2) Z
end
structure Prog where
 fns:List Fn
 cls:List Cl
def Fn.run(W:Jm)(f:Fn)(G:List D)(M:di):Res D:=
 if G.length=f.np then
  (f.body.den W (G.map some++List.replicate (f.ns-f.np) none) M).bind λp Z=>match p.1 with
   |.ret d=>.ok d Z|.next=>.ok .non Z|_=>.bad
 else .bad
def Prog.call(P:Prog):Nat->Nat->List D->di->Res D
 |0,_,_,_=>.bad
 |n+1,f,ds,M=>match P.fns[f]? with
  |some F=>F.run ⟨P.call n,P.cls⟩ ds M|none=>.bad
@[simp] def aij(i:Nat):(Ex.var i).den W Z M=match Z[i]? with|some (some d)=>.ok d M|_=>.bad:=rfl
@[simp high] theorem bed(d:D)(r:Env):(Ex.var 0).den W (some d::r) M=.ok d M:=rfl
@[simp high] theorem bee(Z:Option D)(d:D)(r:Env):(Ex.var 1).den W (Z::some d::r) M=.ok d M:=rfl
@[simp high] theorem bef(G Z:Option D)(d:D)(r:Env):(Ex.var 2).den W (G::Z::some d::r) M=.ok d M:=rfl
@[simp high] theorem beh(Z G U:Option D)(d:D)(r:Env):(Ex.var 3).den W (Z::G::U::some d::r) M=.ok d M:=rfl
@[simp high] theorem bei(Z U R G:Option D)(d:D)(r:Env):(Ex.var 4).den W (Z::U::R::G::some d::r) M=.ok d M:=rfl
@[simp high] theorem bej(G Z U a3 R:Option D)(d:D)(r:Env):(Ex.var 5).den W (G::Z::U::a3::R::some d::r) M=.ok d M:=rfl
@[simp high] theorem bek(G Z U a3 a4 R:Option D)(d:D)(r:Env):(Ex.var 6).den W (G::Z::U::a3::a4::R::some d::r) M=.ok d M:=rfl
@[simp high] theorem bel(G Z U a3 a4 R a6:Option D)(d:D)(r:Env):(Ex.var 7).den W (G::Z::U::a3::a4::R::a6::some d::r) M=.ok d M:=rfl
@[simp high] theorem bem(G Z U a3 a4 R a6 a7:Option D)(d:D)(r:Env):(Ex.var 8).den W (G::Z::U::a3::a4::R::a6::a7::some d::r) M=.ok d M:=rfl
@[simp high] theorem ben(G Z U a3 a4 a5 a6 a7 R:Option D)(d:D)(r:Env):(Ex.var 9).den W (G::Z::U::a3::a4::a5::a6::a7::R::some d::r) M=.ok d M:=rfl
@[simp high] theorem bct(G Z U a3 a4 a5 a6 a7 a8 R:Option D)(d:D)(r:Env):(Ex.var 10).den W (G::Z::U::a3::a4::a5::a6::a7::a8::R::some d::r) M=.ok d M:=rfl
@[simp high] theorem bcu(R G U a3 a4 a5 a6 a7 a8 a9 Z:Option D)(d:D)(r:Env):(Ex.var 11).den W (R::G::U::a3::a4::a5::a6::a7::a8::a9::Z::some d::r) M=.ok d M:=rfl
@[simp high] theorem bcv(a0 U R a3 a4 a5 a6 a7 a8 a9 Z G:Option D)(d:D)(r:Env):(Ex.var 12).den W (a0::U::R::a3::a4::a5::a6::a7::a8::a9::Z::G::some d::r) M=.ok d M:=rfl
@[simp] def La(d:D):(Ex.cst d).den W Z M=.ok d M:=rfl
@[simp] def auz(Z:Op2)(a b:Ex):(Ex.bin Z a b).den W G M=(a.den W G M).bind λx U=>(b.den W G U).bind λy M2=>Gp Z x y M2:=rfl
@[simp] def au0(a:Ex):(Ex.neg a).den W G M=(a.den W G M).bind λx Z=>match x with|.int i=>.ok (.int (-i)) Z|_=>.bad:=rfl
@[simp] def au1(Z:Cp)(a b:Ex):(Ex.cmp Z a b).den W G M=(a.den W G M).bind λx U=>(b.den W G U).bind λy M2=>Res.ux ((Fe Z x y M2).map D.bl) M2:=rfl
@[simp] def alb(G U:Cp)(a b c:Ex):(Ex.chain G U a b c).den W Z M=(a.den W Z M).bind λx M1=>(b.den W Z M1).bind λy M2=>(Res.ux (Fe G x y M2) M2).bind λq M2=>if q then(c.den W Z M2).bind λz R=>Res.ux ((Fe U y z R).map D.bl) R else .ok (.bl false) M2:=rfl
def aik(a b:Ex):(Ex.and a b).den W G M=(a.den W G M).bind λx Z=>match x with|.bl true=>b.den W G Z|.bl false=>.ok (.bl false) Z|_=>.bad:=rfl
def aod(a b:Ex):(Ex.or a b).den W G M=(a.den W G M).bind λx Z=>match x with|.bl true=>.ok (.bl true) Z|.bl false=>b.den W G Z|_=>.bad:=rfl
@[simp] def ail(a:Ex):(Ex.not a).den W G M=(a.den W G M).bind λx Z=>match x with|.bl b=>.ok (.bl !b) Z|_=>.bad:=rfl
def au2(c a b:Ex):(Ex.ite c a b).den W Z M=(c.den W Z M).bind λx G=>match x with|.bl true=>a.den W Z G|.bl false=>b.den W Z G|_=>.bad:=rfl
@[simp] def au3(Z:Df):(Ex.tup Z).den W U M=(Z.den W U M).bind λG M1=>.ok (.tup G) M1:=rfl
@[simp] def au4(Z:Df):(Ex.lst Z).den W U M=(Z.den W U M).bind λG M1=>new (.lst G) M1:=rfl
@[simp] def aoe(Z:Df):(Ex.K8 Z).den W U M=(Z.den W U M).bind λG M1=>.ok (.vl G) M1:=rfl
@[simp] def aof:Ex.ak8.den W Z M=new (.dT []) M:=rfl
@[simp] def aog:Ex.abb.den W Z M=new (.dK []) M:=rfl
@[simp] def a0z(a b:Ex):(Ex.ix a b).den W Z M=(a.den W Z M).bind λx G=>(b.den W Z G).bind λy M2=>Res.ux (Aw x y M2) M2:=rfl
@[simp] def au5(a:Ex)(U G:OEx):(Ex.cut a U G).den W Z M=(a.den W Z M).bind λx M1=>(U.den W Z M1).bind λl R=>(G.den W Z R).bind λh M3=>Res.ux (U0 x l h M3) M3:=rfl
@[simp] def aoh(f:Nat)(Z:Df):(Ex.call f Z).den W U M=(Z.den W U M).bind λG M1=>W.call f G M1:=rfl
@[simp] theorem W4{W:Jm}{U:Env}{M:di}(c:Nat)(G:Df):(Ex.make c G).den W U M=(G.den W U M).bind λR Z=>match W.cls[c]? with
 |some C=>(W.call C.init (.ref Z.length::R) (Z++[.ins c []])).bind λr M2=>match r with|.non=>.ok (.ref Z.length) M2|_=>.bad
 |none=>.bad:=rfl
@[simp] theorem Gq{W:Jm}{Z:Env}{M:di}(o:Ex)(m:Nat)(G:Df):(Ex.meth o m G).den W Z M=(o.den W Z M).bind λx U=>(G.den W Z U).bind λR M2=>match x with
 |.ref n=>match U[n]? with
  |some (.ins c _)=>match(W.cls[c]?).bind λC=>C.meths.lookup m with
   |some f=>W.call f (.ref n::R) M2|none=>.bad
  |_=>.bad
 |_=>.bad:=rfl
@[simp] def au6(o:Ex)(f:Nat):(Ex.fld o f).den W Z M=(o.den W Z M).bind λx M1=>Res.ux (Rt x f M1) M1:=rfl
@[simp] def abe(b:Blt)(Z:Df):(Ex.blt b Z).den W U M=(Z.den W U M).bind λG M1=>rm b G M1:=rfl
@[simp] def a00(m:Bm)(o:Ex)(Z:Df):(Ex.bm m o Z).den W U M=(o.den W U M).bind λx G=>if P0 m x G then(Z.den W U G).bind λR M2=>Hw m x R M2 else .bad:=rfl
@[simp] theorem aoi{W:Jm}{Z:Env}{M:di}(e:Ex):(Ex.agk e).den W Z M=(e.den W Z M).bind λx G=>match x with
 |.int i=>if i.natAbs<=100000 then .ok (.tup ((List.range i.toNat).map λ(k:Nat)=>D.int (k:Int))) G else .bad
 |_=>.bad:=rfl
@[simp] theorem aoj{W:Jm}{Z:Env}{M:di}(e:Ex):(Ex.agl e).den W Z M=(e.den W Z M).bind λx G=>match x with
 |.int i=>if i.natAbs<=100000 then new (.lst ((List.range i.toNat).map λ(k:Nat)=>D.int (k:Int))) G else .bad
 |_=>.bad:=rfl
def Nv(v:Bool)(k:Nat)(t:Tg)(it:Nt)(e:Ex):(Ex.comp v k t it e).den W U M=(it.den W U M).bind λs M1 =>
 (z8 s (λd M=>match t.put d (U++List.replicate k none)with
  |some Z=>(e.den W Z M).bind λx R=>.ok (some x) R
  | none=>.bad) M1).bind λG M2=>if v then .ok (.vl G) M2 else new (.lst G) M2:=rfl
def W5(v:Bool)(k:Nat)(t:Tg)(it:Nt)(c e:Ex):(Ex.Du v k t it c e).den W ρ M=(it.den W ρ M).bind λs M1 =>
 (z8 s (λd M=>match t.put d (ρ++List.replicate k none)with
  |some Z=>(c.den W Z M).bind λb R=>match b with
   |.bl true=>(e.den W Z R).bind λx G=>.ok (some x) G
   |.bl false=>.ok none R|_=>.bad
  | none=>.bad) M1).bind λU M2=>if v then .ok (.vl U) M2 else new (.lst U) M2:=rfl
@[simp] def Rv:Df.nil.den W Z M=.ok [] M:=rfl
@[simp] def Kf(e:Ex)(G:Df):(Df.cons e G).den W Z M=(e.den W Z M).bind λx U=>(G.den W Z U).bind λR M2=>.ok (x::R) M2:=rfl
@[simp] def alc:OEx.none.den W Z M=.ok none M:=rfl
@[simp] def ald(e:Ex):(OEx.some e).den W G M=(e.den W G M).bind λx Z=>match x with|.int i=>.ok (some i) Z|_=>.bad:=rfl
@[simp] def Lb(e:Ex):(Nt.val e).den W Z M=(e.den W Z M).bind λx M1=>Res.ux (srcOf M1 x) M1:=rfl
@[simp] theorem Ld{W:Jm}{Z:Env}{M:di}(e:Ex):(Nt.Mp e).den W Z M=(e.den W Z M).bind λx G=>match x with
 |.int i=>if i.natAbs<=100000 then .ok (.con ((List.range i.toNat).map λ(k:Nat)=>D.int (k:Int))) G else .bad
 |_=>.bad:=rfl
@[simp] theorem aim{W:Jm}{G:Env}{M:di}(e:Ex):(Nt.enm e).den W G M=(e.den W G M).bind λx Z=>match x with
 |.tup ds=>.ok (.con (Ei ds 0)) Z|.vl ds=>.ok (.con (Ei ds 0)) Z|_=>.bad:=rfl
@[simp] theorem au7(Z:Df):(Nt.zip Z).den W R M=(Z.den W R M).bind λU G=>match Nu U with
 |some (l::r)=>if(r.all λx=>x.length==l.length)=true then .ok (.con (Q4 (l::r) l.length)) G else .bad
 |_=>.bad:=rfl
@[simp] theorem agq(a:Ex):(Ex.sx a).den W G M=(a.den W G M).bind λx Z=>match x with
 |.str s=>if plainS s=true then Res.ux ((s.cps.toList[0]?).map sgn) Z else .bad
 |_=>.bad:=rfl
@[simp] theorem au8(e:Ex):(Nt.sgn e).den W G M=(e.den W G M).bind λx Z=>match x with
 |.str x=>if plainS x=true then .ok (.con (signs x)) Z else .bad
 |_=>.bad:=rfl
@[simp] def a8a(e:Ex):(Ce.ala e).den W Z M=(e.den W Z M).bind λx M1=>.ok (.ret x,Z) M1:=rfl
@[simp] def ain(e:Ex):(Ex.ntr e).den W G M=(e.den W G M).bind λx M1=>Res.ux ((Bk M1 x).map λZ=>D.bl Z.isEmpty) M1:=rfl
@[simp] def abf(l:Lv)(e:Ex):(Ce.asg l e).den W G M=(e.den W G M).bind λx U=>(l.put W x G U).bind λZ M2=>.ok (.next,Z) M2:=rfl
@[simp] def au9(e:Ex):(Ce.expr e).den W Z M=(e.den W Z M).bind λ_ M1=>.ok (.next,Z) M1:=rfl
def a01(c:Ex)(a b:mz):(Ce.iff c a b).den W Z M=(c.den W Z M).bind λx G=>match x with|.bl true=>a.den W Z G|.bl false=>b.den W Z G|_=>.bad:=rfl
@[simp] def aok(e:Ex):(Ce.ret e).den W Z M=(e.den W Z M).bind λx M1=>.ok (.ret x,Z) M1:=rfl
@[simp] def a02:Ce.brk.den W Z M=.ok (.brk,Z) M:=rfl
@[simp] def ava:Ce.cont.den W Z M=.ok (.cont,Z) M:=rfl
@[simp] def aol:Ce.raise.den W Z M=.bad:=rfl
def abg(c:Ex)(b:mz):(Ce.whl c b).den W Z M=Gi (c.den W) (b.den W) agp Z M:=rfl
def Ub(t:Tg)(it:Nt)(b:mz):(Ce.for_ t it b).den W Z M=(it.den W Z M).bind λs M1=>Ca s.fin s.item (λd Z M=>match t.put d Z with
 | some G=>b.den W G M|none=>.bad) s.len 0 Z M1:=rfl
@[simp] def avb:mz.nil.den W Z M=.ok (.next,Z) M:=rfl
theorem aom{W:Jm}{Z:Env}{M:di}(s:Ce)(r:mz):(mz.cons s r).den W Z M=(s.den W Z M).bind λp M1=>match p.1 with
 |.next=>r.den W p.2 M1|.brk=>.ok (.brk,p.2) M1|.cont=>.ok (.cont,p.2) M1|.ret d=>.ok (.ret d,p.2) M1:=rfl
def aon(W:Jm)(r:mz)(x:Res (Flow×Env)):Res (Flow×Env):=x.bind λp Z=>match p.1 with
 |.next=>r.den W p.2 Z|.brk=>.ok (.brk,p.2) Z|.cont=>.ok (.cont,p.2) Z|.ret d=>.ok (.ret d,p.2) Z
@[simp] def avc(s:Ce)(r:mz):(mz.cons s r).den W Z M=aon W r (s.den W Z M):=rfl
@[simp] def a8b(r:mz):aon W r (.ok (.next,Z) M)=r.den W Z M:=rfl
@[simp] def bcw(r:mz):aon W r (.ok (.brk,Z) M)=.ok (.brk,Z) M:=rfl
@[simp] def a8c(r:mz):aon W r (.ok (.cont,Z) M)=.ok (.cont,Z) M:=rfl
@[simp] def bcx(r:mz)(d:D):aon W r (.ok (.ret d,Z) M)=.ok (.ret d,Z) M:=rfl
def ifK{α:Type}(a b:di->Res α)(x:Res D):Res α:=x.bind λx Z=>match x with|.bl true=>a Z|.bl false=>b Z|_=>.bad
@[simp] def a8d(c:Ex)(a b:mz):(Ce.iff c a b).den W Z M=ifK (a.den W Z) (b.den W Z) (c.den W Z M):=rfl
@[simp] def beo(c a b:Ex):(Ex.ite c a b).den W Z M=ifK (a.den W Z) (b.den W Z) (c.den W Z M):=rfl
@[simp] def bep(a b:Ex):(Ex.and a b).den W Z M=ifK (b.den W Z) (.ok (.bl false)) (a.den W Z M):=rfl
@[simp] def bid(a b:Ex):(Ex.or a b).den W Z M=ifK (.ok (.bl true)) (b.den W Z) (a.den W Z M):=rfl
@[simp] def bie(a b:di->Res α):ifK a b (.ok (.bl true) M)=a M:=rfl
@[simp] def bih(a b:di->Res α):ifK a b (.ok (.bl false) M)=b M:=rfl
theorem Z8{W:Jm}{Z:Env}{M:di}(a b:Ex):(Ex.W2 a b).den W Z M=(a.den W Z M).bind λx U =>
 match(keysOf U x).bind Eg with
 |some R=>if Eh R then(b.den W Z U).bind λy G =>
  match(keysOf G y).bind Eg with
  |some ys=>if Eh ys then .ok (.bl !Jl R ys) G else .bad
  |none=>.bad
  else .bad
 |none=>.bad:=rfl
@[simp] def aoo(t:Tg)(d:D):(Lv.tg t).put W d Z M=Res.ux (t.put d Z) M:=rfl
@[simp] def avd(o i:Ex)(d:D):(Lv.sub o i).put W d Z M=(o.den W Z M).bind λx U=>(i.den W Z U).bind λy G=>(Res.ux (setOp x y d G) G).bind λM3 _=>.ok Z M3:=rfl
@[simp] def ave(o:Ex)(f:Nat)(d:D):(Lv.fld o f).put W d G M=(o.den W G M).bind λx Z=>(Res.ux (Ru x f d Z) Z).bind λM2 _=>.ok G M2:=rfl
@[simp] def a03(i:Nat)(d:D):(Tg.name i).put d Z=some (Z.set i (some d)):=rfl
@[simp] def azc(is:Y3)(Z:List D)(h:Z.length=is.length):(Tg.names is).put (.tup Z) G=some (J1 is Z G):=by simp[Tg.put,h]
@[simp] def azd(i:Nat)(is:Y3)(d:D)(Z:List D):J1 (i::is) (d::Z) G=J1 is Z (G.set i (some d)):=rfl
@[simp] def a04(Z:List D):J1 [] Z ρ=ρ:=by cases Z<;>rfl
@[simp] def a8e(i j:Int):Gp .add (.int i) (.int j) M=.ok (.int (i+j)) M:=rfl
@[simp] def a8f(i j:Int):Gp .sub (.int i) (.int j) M=.ok (.int (i-j)) M:=rfl
def Nx(i j:Int)(h:(-(2^64)<i/\i<2^64)\/(-(2^64)<j/\j<2^64)):Gp .mul (.int i) (.int j) M=.ok (.int (i*j)) M:=bx h
def Z9(i j:Int)(h:0<j)(Z:j<1073741824):Gp .fdiv (.int i) (.int j) M=.ok (.int (i/j)) M:=bx ⟨h,Z⟩
@[simp] def aop(i j:Int)(h:0<j):Gp .mod (.int i) (.int j) M=.ok (.int (i%j)) M:=bx h
@[simp] def a05:Gp .pow (.int 10) (.int 18) M=.ok (.int (10^18)) M:=by simp[Gp,ay9]
def aaa(xs ys:List D)(h:xs.length+ys.length<=100000):Gp .add (.vl xs) (.vl ys) M=.ok (.vl (xs++ys)) M:=bx h
@[simp] def ber(i j:Int):Fe .lt (.int i) (.int j) M=some (decide (i<j)):=rfl
@[simp] def bes(i j:Int):Fe .le (.int i) (.int j) M=some (decide (i<=j)):=rfl
@[simp] def cmp_gt(i j:Int):Fe .gt (.int i) (.int j) M=some (decide (j<i)):=rfl
@[simp] def bet(i j:Int):Fe .ge (.int i) (.int j) M=some (decide (j<=i)):=rfl
@[simp] def beu(a b:D):Fe .eq a b M=wj M a b:=rfl
@[simp] def bev(a b:D):Fe .ne a b M=(wj M a b).map not:=rfl
@[simp] def bew(a b:D):Fe .inn a b M=Pz M a b:=rfl
@[simp] def a6p(a b:D):Fe .Rp a b M=(Pz M a b).map not:=rfl
def aio(n:Nat)(i j:Int):Nj M (n+1) (.int i) (.int j)=some (decide (i=j)):=rfl
def Ej(G:f a b=some x)(U:Rq f Z bs=some y):Rq f (a::Z) (b::bs)=some (x&&y):=by simp[Rq,G,U]
@[simp] def eq_int(i j:Int):wj M (.int i) (.int j)=some (decide (i=j)):=rfl
@[simp] def bii(i j:Bool):wj M (.bl i) (.bl j)=some (i==j):=rfl
@[simp] def ale(ds:List D):gm M (.vl ds)=some ds:=rfl
@[simp] def a8g(ds:List D):Bk M (.vl ds)=some ds:=rfl
@[simp] def a6q(ds:List D):Bk M (.tup ds)=some ds:=rfl
def ou(h:M[n]?=some (.lst ds)):gm M (.ref n)=some ds:=by simp[gm,h]
def W6(h:gm M d=some ds):Bk M d=some ds:=by cases d<;>first|exact h|(simp[gm]at h)
set_option tactic.hygienic true in
def len_list(h:gm M d=some ds):rm .len [d] M=.ok (.int ds.length) M:=by
 show Hv M d=_;cases d with
 |vl Y=>simp[gm]at h;subst h;rfl
 |ref n =>
  simp only[gm]at h;split at h<;>simp at h;rename_i Y Z;subst h;simp[Hv,Z]
 |_=>simp[gm]at h
@[simp] def a8h(d:D)(g:D->Res D):K9 [d] g=g d:=rfl
@[simp] def a8i(g:D->Res D):K9 [] g=.bad:=rfl
@[simp] def a6r(a b:D)(l:List D)(g:D->Res D):K9 (a::b::l) g=.bad:=rfl
@[simp] def bex(i j:Int)(f:Int->Int->Int)(g:D->Option Int):two [.int i,.int j] f g M=.ok (.int (f i j)) M:=rfl
@[simp] def avf(d:D)(f:Int->Int->Int)(g:D->Option Int):two [d] f g M=Res.ux ((g d).map D.int) M:=rfl
@[simp] def a06(Z:List D):Hv M (.tup Z)=.ok (.int Z.length) M:=rfl
@[simp] theorem aze{M:di}(n:Nat):aii M (.ref n)=match M[n]? with
 |some (.dT ie)=>if ago ie then new (.dT ie) M else .bad
 |some (.dK ie)=>new (.dK ie) M|_=>.bad:=rfl
def Dg(h:gm M d=some ds)(R:0<=i)(hx:ds[i.toNat]?=some x):Aw d (.int i) M=some x:=by
 obtain⟨U,Z⟩:=ak.mp hx;have G:i<ds.length:=by lia
 cases d with
 |vl xs=>simp[gm]at h;subst h;simp[Aw,Bk,Zk,R,G,U,Z]
 |ref n =>
  simp only[gm]at h;cases e:M[n]? with
  |none=>rw[e]at h;simp at h|some o=>rw[e]at h;cases o<;>simp at h<;>subst h<;>simp[Aw,gm,e,Zk,R,G,U,Z]
 |_=>simp[gm]at h
def J2(R:0<=i)(hx:ds[i.toNat]?=some x):Aw (.tup ds) (.int i) M=some x:=by
 obtain⟨U,Z⟩:=ak.mp hx;have G:i<ds.length:=by lia
 simp[Aw,Bk,Zk,R,G,U,Z]
def a8j(R:0<=i)(hx:ds[i.toNat]?=some x):Aw (.fz ds) (.int i) M=some x:=by
 obtain⟨U,Z⟩:=ak.mp hx;have G:i<ds.length:=by lia
 simp[Aw,Zk,R,G,U,Z]
def aoq:rm .len [.fz ds] M=.ok (.int ds.length) M:=rfl
@[simp] def bcy(x:D)(r:List D):Aw (.tup (x::r)) (.int 0) M=some x:=J2 (by decide) rfl
@[simp] def bcz(x y:D)(r:List D):Aw (.tup (x::y::r)) (.int 1) M=some y:=J2 (by decide) rfl
@[simp] def bc0(x y z:D)(r:List D):Aw (.tup (x::y::z::r)) (.int 2) M=some z:=J2 (by decide) rfl
def adz(h:M[n]?=some (.dT Z))(G:V1 b=some k):Aw (.ref n) b M=v7 Z k:=by simp[Aw,h,G]
def a8k(h:M[n]?=some (.dT Z))(G:V1 b=some k):Pz M b (.ref n)=some (v7 Z k).isSome:=by simp[Pz,h,G]
def azf(h:M[n]?=some (.dK Z))(G:V0 b=some k):Aw (.ref n) b M=v7 Z k:=by simp[Aw,h,G]
@[simp] def aab(i j:Int):V1 (.tup [.int i,.int j])=some [.inl i,.inl j]:=rfl
@[simp] def bij(i:Int):V0 (.int i)=some (.inl i):=rfl
def Lf(h:M[n]?=some (.lst Z)):P0 .append (.ref n) M=true:=by simp[P0,gm,h]
def Lg(h:M[n]?=some (.lst Z))(G:Z.length<100000):Hw .append (.ref n) [d] M=.ok .non (M.set n (.lst (Z++[d]))):=by simp[Hw,onL,onK,h,G]
def abh(h:M[n]?=some (.lst Z))(G:0<=i)(U:i<Z.length):setOp (.ref n) (.int i) d M=some (M.set n (.lst (Z.set i.toNat d))):=by simp[setOp,h,Zk,G,U]
def a07(h:M[n]?=some (.dT Z))(U:V1 b=some k)(G:Z.length<100000):setOp (.ref n) b d M=some (M.set n (.dT (Cw Z k d))):=by simp[setOp,h,U,G]
def yo{M:di}(h:M[a]?=some o):a<M.length:=(ak.mp h).1
def w6{M:di}(h:M[a]?=some p):(M.set a o)[a]?=some o:=by rw[z6 (yo h)]
def um{M:di}(h:b≠a):(M.set b o)[a]?=M[a]?:=uz h
def yh{M:di}{a:Nat}(h:M[a]?=some o):(M++X)[a]?=some o:=by rw[dq (yo h)];exact h
@[simp] def bc1{M:di}:(M++[o])[M.length]?=some o:=by simp
theorem W7(x:Int):∀l,(insI x l).Perm (x::l)
 |[]=>zb _
 |y::l=>by
  unfold insI;split
  .exact zb _
  .exact((W7 x l).cons y).trans (List.Perm.swap x y l)
theorem Kg:∀l,(sortI l).Perm l
 |[]=>zb _|x::l=>(W7 x _).trans ((Kg l).cons x)
theorem aor(x:Int):∀{l:Xs},l.Pairwise (·<=·)->(insI x l).Pairwise (·<=·)
 |[],_=>List.pairwise_singleton _ _
 |y::l,h=>by
  obtain⟨G,U⟩:=Ab.mp h;unfold insI;split
  .refine Ab.mpr ⟨λz Z=>?_,h⟩
   rcases cu.mp Z with rfl|Z
   .lia
   .have:=G z Z;lia
  .refine Ab.mpr ⟨λz Z=>?_,aor x U⟩
   rcases cu.mp ((W7 x l).mem_iff.mp Z)with rfl|Z
   .lia
   .exact G z Z
theorem aip:∀l,(sortI l).Pairwise (·<=·)
 |[]=>List.Pairwise.nil|x::l=>aor x (aip l)
set_option tactic.hygienic true in
theorem Uc(k:Int):∀l,k∈Ao l↔k∈l
 |[]=>Iff.rfl
 |x::l=>by
  unfold Ao;split
  .rename_i h
   rw[Uc k l,cu];exact⟨.inr,λz=>z.elim (λe=>e▸h) id⟩
  .rw[cu,cu,Uc k l]
set_option tactic.hygienic true in
theorem abi:∀l,(Ao l).Nodup
 |[]=>Ar
 |x::l=>by
  unfold Ao;split
  .exact abi l
  .rename_i h
   exact qx.mpr ⟨λz=>h ((Uc x l).mp z),abi l⟩
theorem aos:∀l,(Ao l).length<=l.length
 |[]=>bh _
 |x::l=>by
  have:=aos l;unfold Ao;split<;>simp<;>omega
theorem azg:∀{a b:Xs},a.Pairwise (·<=·)->b.Pairwise (·<=·)->a.Nodup->b.Nodup->(∀k,k∈a↔k∈b)->a=b
 |[],[],_,_,_,_,_=>rfl|[],y::b,_,_,_,_,h=>nomatch(h y).mpr dh|x::a,[],_,_,_,_,h=>nomatch(h x).mp dh
 |x::a,y::b,ha,hb,na,nb,h=>by
  obtain⟨Z,G⟩:=Ab.mp ha;obtain⟨b1,R⟩:=Ab.mp hb;obtain⟨c1,c2⟩:=qx.mp na;obtain⟨U,d2⟩:=qx.mp nb;have e:x=y:=by
   rcases cu.mp ((h x).mp dh)with e|m
   .exact e
   .rcases cu.mp ((h y).mpr dh)with e|m'
    .exact e.symm
    .have:=b1 x m;have:=Z y m';lia
  subst e
  congr 1
  refine azg G R c2 d2 λk=>⟨λm=>?_,λm=>?_⟩
  .rcases cu.mp ((h k).mp (bc _ m))with rfl|m'
   .exact absurd m c1
   .exact m'
  .rcases cu.mp ((h k).mpr (bc _ m))with rfl|m'
   .exact absurd m U
   .exact m'
def aiq(Z:ns.Pairwise (·<=·))(U:ns.Nodup)(G:∀k,k∈l↔k∈ns):ns=sortI (Ao l):=
 azg Z (aip _) U ((Kg _).nodup_iff.mpr (abi l)) λk=>by rw[(Kg _).mem_iff,Uc,G]
theorem abj{fin:di->Bool}{item:Nat->di->Option D}{U:D->Env->di->Res (Flow×Env)}(I:Nat->Env->di->Prop){n:Nat}
 (step:∀i Z M,i<n->I i Z M->∃d fl G R,item i M=some d/\U d Z M=.ok (fl,G) R/\(fl=.next\/fl=.cont)/\I (i+1) G R) (Q5:∀Z M,I n Z M->fin M=true) :
 ∀(k i:Nat)(Z:Env)(M:di),i+k=n->I i Z M->∃G R,Ca fin item U k i Z M=.ok (.next,G) R/\I n G R
 |0,i,Z,M,e,h=>by
  have q:i=n:=by lia
  rw[q]at h;exact⟨Z,M,by simp[Ca,Q5 Z M h],h⟩
 |k+1,i,Z,M,e,h=>by
  obtain⟨d,fl,qj,M1,h1,h2,h3,h4⟩:=step i Z M (by lia) h;obtain⟨qq,M2,g1,g2⟩:=abj I step Q5 k (i+1) qj M1 (by lia) h4;refine⟨qq,M2,?_,g2⟩;rcases h3 with rfl|rfl<;>simp[Ca,h1,h2,g1]
def Wb(I:Nat->Env->di->Prop)(h0:I 0 G M)(step:∀i d G M,ds[i]?=some d->I i G M->∃U Z M',body d G M=.ok (U,Z) M'/\(U=.next\/U=.cont)/\I (i+1) Z M') :
 ∃Z M',Ca (Src.con ds).fin (Src.con ds).item body (Src.con ds).len 0 G M=.ok (.next,Z) M'/\I ds.length Z M':=by
 refine abj I (λi G M R h=>?_) (λ_ _ _=>rfl) ds.length 0 G M (uy _) h0;obtain⟨U,Z,M',a,b,c⟩:=step i ds[i] G M (by simp[R]) h;exact⟨ds[i],U,Z,M',by simp[Src.item,R],a,b,c⟩
def abk(I:Nat->Env->di->Prop)(h0:I 0 ρ M)(step:∀i ρ M,i<n->I i ρ M->∃U Z M',body (.int i) ρ M=.ok (U,Z) M'/\(U=.next\/U=.cont)/\I (i+1) Z M') :
 ∃Z M',Ca (Src.con ((List.range n).map λ(k:Nat)=>D.int (k:Int))).fin (Src.con ((List.range n).map λ(k:Nat)=>D.int (k:Int))).item body (Src.con ((List.range n).map λ(k:Nat)=>D.int (k:Int))).len 0 ρ M=.ok (.next,Z) M'/\I n Z M':=by
 have:=Wb (ds:=(List.range n).map λ(k:Nat)=>D.int (k:Int)) (body:=body) I h0 (λi d ρ M G h=>by
  have R:i<n:=by have:=(ak.mp G).1;simpa using this
  rw[iz,uc R]at G;have G:D.int (i:Int)=d:=by simpa using G
  subst G;exact step i ρ M R h)
 simpa using this
def aot(I:Nat->Env->di->Prop)(h0:I 0 G M)(stay:∀i G M,I i G M->M[p]?=some (.lst ds))(step:∀i d G M,ds[i]?=some d->I i G M->∃U Z M',body d G M=.ok (U,Z) M'/\(U=.next\/U=.cont)/\I (i+1) Z M') :
 ∃Z M',Ca (Src.live p ds.length).fin (Src.live p ds.length).item body (Src.live p ds.length).len 0 G M=.ok (.next,Z) M'/\I ds.length Z M':=by
 refine abj I (λi G M R h=>?_) (λG M h=>by simp[Src.fin,stay _ G M h]) ds.length 0 G M (uy _) h0;obtain⟨U,Z,M',a,b,c⟩:=step i ds[i] G M (by simp[R]) h;exact⟨ds[i],U,Z,M',by simp[Src.item,stay i G M h,R],a,b,c⟩
theorem Hx{fin:di->Bool}{item:Nat->di->Option D}{body:D->di->Res (Option D)}(I:Nat->List D->di->Prop){n:Nat}
 (step:∀i Z M,i<n->I i Z M->∃d o G,item i M=some d/\body d M=.ok o G/\I (i+1) (Z++o.toList) G) (R:∀Z M,I n Z M->fin M=true) :
 ∀(k i:Nat)(Z:List D)(M:di),i+k=n->I i Z M->∃U G,Cy fin item body k i M=.ok U G/\I n (Z++U) G
 |0,i,Z,M,e,h=>by
  have q:i=n:=by lia
  rw[q]at h;exact⟨[],M,by simp[Cy,R Z M h],by simpa using h⟩
 |k+1,i,Z,M,e,h=>by
  obtain⟨d,o,M1,h1,h2,h3⟩:=step i Z M (by lia) h;obtain⟨U,M2,g1,g2⟩:=Hx I step R k (i+1) (Z++o.toList) M1 (by lia) h3;refine⟨o.toList++U,M2,?_,by rw[<-yq];exact g2⟩;cases o<;>simp[Cy,h1,h2,g1]
def Ud{s:Src}{ds:List D}(Q5:s.fin M=true)(hl:s.len=ds.length)(hi:∀i,i<ds.length->s.item i M=ds[i]?)(h:∀d∈ds,body d M=.ok (g d) M) :
 Cy s.fin s.item body s.len 0 M=.ok (ds.filterMap g) M:=by
 obtain⟨ys,Z,e,h1,R⟩:=Hx (fin:=s.fin) (item:=s.item) (body:=body) (λi U Z=>Z=M/\U=(ds.take i).filterMap g) (n:=ds.length) (λi U Z G hI=>by
  obtain⟨rfl,rfl⟩:=hI;refine⟨ds[i],g ds[i],Z,by rw[hi i G];simp[G],h _ (o7 G),rfl,?_⟩;rw[List.take_succ,List.filterMap_append];simp[G];cases e:g ds[i]<;>simp[e]) (λU Z h=>by rw[h.1];exact Q5) ds.length 0 [] M (uy _) ⟨rfl,rfl⟩
 rw[hl,e,h1];simp at R;rw[R]
def aou(h:∀d∈ds,body d M=.ok (some (g d)) M) :
 Cy (Src.con ds).fin (Src.con ds).item body (Src.con ds).len 0 M=.ok (ds.map g) M:=by
 rw[Ud (s:=.con ds) (ds:=ds) (g:=λd=>some (g d)) rfl rfl (λi _=>rfl) h,List.filterMap_eq_map']
end MW
namespace MW
theorem Pg{c:Env->di->Res D}{U:Env->di->Res (Flow×Env)}(I:Nat->Env->di->Prop)(Ue:Env->di->Prop)
 (step:∀m G M,I m G M->(∃R,c G M=.ok (.bl false) R/\Ue G R) \/
  ∃R fl Z M2 m',c G M=.ok (.bl true) R/\U G R=.ok (fl,Z) M2/\(fl=.next\/fl=.cont)/\m'<m/\I m' Z M2) :
 ∀(k m:Nat)(G:Env)(M:di),m<k->I m G M->∃Z M',Gi c U k G M=.ok (.next,Z) M'/\Ue Z M'
 |0,m,_,_,h,_=>absurd h (uf _)
 |k+1,m,G,M,h,hI=>by
  rcases step m G M hI with⟨R,h1,h2⟩|⟨R,fl,qj,M2,m',h1,h2,h3,h4,h5⟩
  .exact⟨G,R,by simp[Gi,h1],h2⟩
  .obtain⟨qq,M3,g1,g2⟩:=Pg I Ue step k m' qj M2 (b_ h4 (z_ h)) h5
   refine⟨qq,M3,?_,g2⟩;rcases h3 with rfl|rfl<;>simp[Gi,h1,h2,g1]
end MW
namespace MW
def Ba(M Z:di):Prop:=∀(a:Nat)(o:MO),M[a]?=some o->Z[a]?=some o
def Ba.refl(M:di):Ba M M:=λ_ _ h=>h
def Ba.trans(a:Ba M Z)(b:Ba Z M2):Ba M M2:=λx o h=>b x o (a x o h)
def Ba.app(M X:di):Ba M (M++X):=λ_ _ h=>yh h
def Ba.len(k:Ba M Z):M.length<=Z.length:=by
 rcases Nat.eq_zero_or_pos M.length with h|h
 .exact a_ (f_ h) (jq _)
 .have:=yo (k (M.length-1) M[M.length-1] (by simp))
  lia
theorem Ba.gm(k:Ba M Z)(h:gm M d=some ds):MW.gm Z d=some ds:=by
 cases d with
 |vl G=>exact h
 |ref n =>
  simp only[MW.gm]at h⊢;cases e:M[n]? with
  |none=>rw[e]at h;simp at h|some o=>rw[e]at h;rw[k n o e];exact h
 |_=>simp[MW.gm]at h
def W8(I:Nat->Env->di->Prop)(G:gm M d=some ds)(h0:I 0 ρ M)(stay:∀i ρ M,I i ρ M->gm M d=some ds)(step:∀i x ρ M,ds[i]?=some x->I i ρ M->∃U Z M',body x ρ M=.ok (U,Z) M'/\(U=.next\/U=.cont)/\I (i+1) Z M') :
 ∃s,srcOf M d=some s/\∃Z M',Ca s.fin s.item body s.len 0 ρ M=.ok (.next,Z) M'/\I ds.length Z M':=by
 cases d with
 |vl R=>simp[gm]at G;subst G;exact⟨_,rfl,Wb I h0 step⟩
 |ref n =>
  cases e:M[n]? with
  |none=>simp[gm,e]at G
  |some o =>
   cases o with
   |lst R =>
    simp[gm,e]at G;subst G;refine⟨.live n R.length,by simp[srcOf,e],aot I h0 (λi ρ M h=>?_) step⟩;have:=stay i ρ M h;simp only[gm]at this;split at this<;>simp_all
   |_=>simp[gm,e]at G
 |_=>simp[gm]at G
def air(Z:ds.length<=100000)(h:∀d∈ds,body d M=.ok (some (g d)) M):z8 (.con ds) body M=.ok (ds.map g) M:=by rw[z8,bx (show(Src.con ds).len<=100000 from Z)];exact aou h
def W9(Z:ds.length<=100000)(h:∀d∈ds,body d M=.ok (g d) M):z8 (.con ds) body M=.ok (ds.filterMap g) M:=by rw[z8,bx (show(Src.con ds).len<=100000 from Z)];exact Ud (s:=.con ds) rfl rfl (λ_ _=>rfl) h
def ad0(Z:gm M d=some ds)(U:ds.length<=100000)(h:∀x∈ds,body x M=.ok (g x) M) :
 ∃s,srcOf M d=some s/\z8 s body M=.ok (ds.filterMap g) M:=by
 cases d with
 |vl G=>simp[gm]at Z;subst Z;exact⟨_,rfl,W9 U h⟩
 |ref n =>
  cases e:M[n]? with
  |none=>simp[gm,e]at Z
  |some o =>
   cases o with
   |lst G =>
    simp[gm,e]at Z;subst Z;exact⟨.live n G.length,by simp[srcOf,e],by rw[z8,bx (show(Src.live n G.length).len<=100000 from U)];exact Ud (s:=.live n G.length) (by simp[Src.fin,e]) rfl (λi _=>by simp[Src.item,e]) h⟩
   |_=>simp[gm,e]at Z
 |_=>simp[gm]at Z
def Hu(v:Bool)(k:Nat)(t:Tg)(it:Nt)(e:Ex):(Ex.comp v k t it e).den W G M=(it.den W G M).bind λs R =>
 (z8 s (λd M=>(Res.ux (t.put d (G++List.replicate k none)) M).bind λZ M=>(e.den W Z M).bind λx M'=>.ok (some x) M') R).bind λU M2=>if v then .ok (.vl U) M2 else new (.lst U) M2:=by
 rw[Nv]
 congr 1;funext s R;congr 2;funext d M
 cases t.put d (G++List.replicate k none)<;>rfl
def U4(v:Bool)(k:Nat)(t:Tg)(it:Nt)(c e:Ex):(Ex.Du v k t it c e).den W G M=(it.den W G M).bind λs M1 =>
 (z8 s (λd M=>(Res.ux (t.put d (G++List.replicate k none)) M).bind λZ M=>(c.den W Z M).bind λb M' =>
  match b with
   |.bl true=>(e.den W Z M').bind λx U=>.ok (some x) U
   | .bl false=>.ok none M'|_=>.bad) M1).bind λR M2=>if v then .ok (.vl R) M2 else new (.lst R) M2:=by
 rw[W5]
 congr 1;funext s M1;congr 2;funext d M
 cases t.put d (G++List.replicate k none)<;>rfl
def Ph(t:Tg)(it:Nt)(b:mz):(Ce.for_ t it b).den W Z M=(it.den W Z M).bind λs M1=>Ca s.fin s.item (λd Z M=>(Res.ux (t.put d Z) M).bind λG M=>b.den W G M) s.len 0 Z M1:=by
 rw[Ub]
 congr 1;funext s M1;congr 1;funext d Z M
 cases t.put d Z<;>rfl
def Bs(R:it.den W ρ M=.ok (.int (n:Int)) M1)(hn:n<=100000)(I:Nat->Env->di->Prop)(h0:I 0 ρ M1)(step:∀i ρ M,i<n->I i ρ M->∃G U Z M',t.put (.int i) ρ=some G/\b.den W G M=.ok (U,Z) M'/\(U=.next\/U=.cont)/\I (i+1) Z M') :
 ∃Z M',(Ce.for_ t (.Mp it) b).den W ρ M=.ok (.next,Z) M'/\I n Z M':=by
 rw[Ph,Ld,R];have Py:((n:Int)).natAbs<=100000:=by lia
 simp only[Res.Br,Py,jw,wk];exact abk I h0 (λi ρ M hi h=>by
  obtain⟨G,U,Z,M',a,b,c,d⟩:=step i ρ M hi h;exact⟨U,Z,M',by rw[a];exact b,c,d⟩)
def Hn(R:it.den W ρ M=.ok d M1)(hd:gm M1 d=some ds)(I:Nat->Env->di->Prop)(h0:I 0 ρ M1)(stay:∀i ρ M,I i ρ M->gm M d=some ds)(step:∀i x ρ M,ds[i]?=some x->I i ρ M->∃G U Z M',t.put x ρ=some G/\b.den W G M=.ok (U,Z) M'/\(U=.next\/U=.cont)/\I (i+1) Z M') :
 ∃Z M',(Ce.for_ t (.val it) b).den W ρ M=.ok (.next,Z) M'/\I ds.length Z M':=by
 rw[Ph,Lb,R];obtain⟨s,h1,h2⟩:=W8 (body:=λd ρ M=>(Res.ux (t.put d ρ) M).bind λZ M=>b.den W Z M) I hd h0 stay (λi x ρ M hx h=>by
  obtain⟨G,U,Z,M',a,b,c,d⟩:=step i x ρ M hx h;exact⟨U,Z,M',by rw[a];exact b,c,d⟩)
 simp only[Res.Br,h1,Res.Dt];exact h2
def ad1(R:it.den W ρ M=.ok (.tup ds) M1)(I:Nat->Env->di->Prop)(h0:I 0 ρ M1)(step:∀i x ρ M,ds[i]?=some x->I i ρ M->∃G U Z M',t.put x ρ=some G/\b.den W G M=.ok (U,Z) M'/\(U=.next\/U=.cont)/\I (i+1) Z M') :
 ∃Z M',(Ce.for_ t (.val it) b).den W ρ M=.ok (.next,Z) M'/\I ds.length Z M':=by
 rw[Ph,Lb,R];exact Wb I h0 (λi x ρ M hx h=>by
  obtain⟨G,U,Z,M',a,b,c,d⟩:=step i x ρ M hx h;exact⟨U,Z,M',by rw[a];exact b,c,d⟩)
def Ny(qq:it.den W ρ M=.ok (.tup ds) M1)(I:Nat->Env->di->Prop)(h0:I 0 ρ M1)(step:∀i x ρ M,ds[i]?=some x->I i ρ M->∃G U Z M',t.put (.tup [.int i,x]) ρ=some G/\b.den W G M=.ok (U,Z) M'/\(U=.next\/U=.cont)/\I (i+1) Z M') :
 ∃Z M',(Ce.for_ t (.enm it) b).den W ρ M=.ok (.next,Z) M'/\I ds.length Z M':=by
 rw[Ph,aim,qq];have:=Wb (ds:=Ei ds 0) (body:=λd ρ M=>(Res.ux (t.put d ρ) M).bind λZ M=>b.den W Z M) I h0 (λi x ρ M hx h=>by
  have R:i<ds.length:=by have:=(ak.mp hx).1;simpa[Ei]using this
  have qj:x=.tup [.int i,ds[i]]:=by simp[Ei,R]at hx;exact hx.symm
  subst qj;obtain⟨G,U,Z,M',a,b,c,d⟩:=step i ds[i] ρ M (by simp[R]) h;exact⟨U,Z,M',by rw[a];exact b,c,d⟩)
 have e:(Ei ds 0).length=ds.length:=by simp[Ei]
 rw[e]at this;exact this
def Bc(U:it.den W R M=.ok d M1)(hd:gm M1 d=some ds)(hl:ds.length<=100000)(h:∀x∈ds,∃Z,t.put x (R++List.replicate k none)=some Z/\e.den W Z M1=.ok (g x) M1) :
 (Ex.comp v k t (.val it) e).den W R M=if v then .ok (.vl (ds.map g)) M1 else new (.lst (ds.map g)) M1:=by
 rw[Hu,Lb,U];obtain⟨s,h1,h2⟩:=ad0 (g:=λx=>some (g x)) (body:=λd M=>(Res.ux (t.put d (R++List.replicate k none)) M).bind λG M=>(e.den W G M).bind λx M'=>.ok (some x) M') hd hl (λx hx=>by
  obtain⟨Z,a,b⟩:=h x hx;rw[a];simp[b])
 simp only[Res.Br,h1,Res.Dt,h2,List.filterMap_eq_map']
def Ek(U:it.den W R M=.ok (.tup ds) M1)(hl:ds.length<=100000)(h:∀x∈ds,∃Z,t.put x (R++List.replicate k none)=some Z/\e.den W Z M1=.ok (g x) M1) :
 (Ex.comp v k t (.val it) e).den W R M=if v then .ok (.vl (ds.map g)) M1 else new (.lst (ds.map g)) M1:=by
 rw[Hu,Lb,U];have h2:=air (g:=g) (M:=M1) (body:=λd M=>(Res.ux (t.put d (R++List.replicate k none)) M).bind λG M=>(e.den W G M).bind λx M'=>.ok (some x) M') hl (λx hx=>by
  obtain⟨Z,a,b⟩:=h x hx;rw[a];simp[b])
 show(z8 (.con ds) _ M1).bind _=_;rw[h2];rfl
def Xa(G:it.den W U M=.ok (.int (n:Int)) M1)(hl:n<=100000)(h:∀i,i<n->∃Z,t.put (.int i) (U++List.replicate k none)=some Z/\c.den W Z M1=.ok (.bl (q i)) M1/\(q i=true->e.den W Z M1=.ok (g i) M1)) :
 (Ex.Du v k t (.Mp it) c e).den W U M=if v then .ok (.vl (((List.range n).filter q).map g)) M1 else new (.lst (((List.range n).filter q).map g)) M1:=by
 rw[U4,Ld,G];have Py:((n:Int)).natAbs<=100000:=by lia
 simp only[Res.Br,Py,jw,wk];rw[W9 (ds:=(List.range n).map λ(k:Nat)=>D.int (k:Int)) (g:=λd=>match d with|.int i=>if q i.toNat then some (g i.toNat)else none|_=>none) (by simpa using hl) (λx hx=>by
  obtain⟨i,R,rfl⟩:=bf.mp hx;obtain⟨Z,a,b,c⟩:=h i (ik.mp R);rw[a,Res.Dt,Res.Br,b,Res.Br];cases e:q i with
  | true=>simp[e,c e]|false=>simp[e])]
 have:(((List.range n).map λ(k:Nat)=>D.int (k:Int)).filterMap λd=>match d with|.int i=>if q i.toNat then some (g i.toNat)else none|_=>none)=((List.range n).filter q).map g:=by
  rw[List.filterMap_map]
  induction List.range n with
  |nil=>rfl|cons a l ih=>by_cases e:q a=true<;>simp[e,ih]
 rw[this];rfl
theorem ais{fin:di->Bool}{item:Nat->di->Option D}{body:D->Env->di->Res (Flow×Env)}(I:Nat->Env->di->Prop)(Ue:Env->di->Prop){n:Nat}
 (step:∀i Z M,i<n->I i Z M->∃d R G U,item i M=some d/\body d Z M=.ok (R,G) U/\(((R=.next\/R=.cont)/\I (i+1) G U)\/(R=.brk/\Ue G U))) (Q5:∀Z M,I n Z M->fin M=true/\Ue Z M) :
 ∀(k i:Nat)(Z:Env)(M:di),i+k=n->I i Z M->∃G U,Ca fin item body k i Z M=.ok (.next,G) U/\Ue G U
 |0,i,Z,M,e,h=>by
  have q:i=n:=by lia
  rw[q]at h;exact⟨Z,M,by simp[Ca,(Q5 Z M h).1],(Q5 Z M h).2⟩
 |k+1,i,Z,M,e,h=>by
  obtain⟨d,R,qq,M1,h1,h2,⟨h3,h4⟩|⟨rfl,h4⟩⟩:=step i Z M (by lia) h
  .obtain⟨qj,M2,g1,g2⟩:=ais I Ue step Q5 k (i+1) qq M1 (by lia) h4
   refine⟨qj,M2,?_,g2⟩;rcases h3 with rfl|rfl<;>simp[Ca,h1,h2,g1]
  .exact⟨qq,M1,by simp[Ca,h1,h2],h4⟩
def ad2(qq:it.den W G M=.ok (.int (n:Int)) M1)(hn:n<=100000)(I:Nat->Env->di->Prop)(Ue:Env->di->Prop)(h0:I 0 G M1)(hp:∀G M,I n G M->Ue G M)(step:∀i G M,i<n->I i G M->∃U R Z M',t.put (.int i) G=some U/\b.den W U M=.ok (R,Z) M'/\(((R=.next\/R=.cont)/\I (i+1) Z M')\/(R=.brk/\Ue Z M'))) :
 ∃Z M',(Ce.for_ t (.Mp it) b).den W G M=.ok (.next,Z) M'/\Ue Z M':=by
 rw[Ph,Ld,qq];have Py:((n:Int)).natAbs<=100000:=by lia
 simp only[Res.Br,Py,jw,wk];obtain⟨Z,M',e,h⟩:=ais (fin:=(Src.con ((List.range n).map λ(k:Nat)=>D.int (k:Int))).fin) (item:=(Src.con ((List.range n).map λ(k:Nat)=>D.int (k:Int))).item) (body:=λd G M=>(Res.ux (t.put d G) M).bind λZ M=>b.den W Z M) I Ue (n:=n) (λi G M hi h=>by
  obtain⟨U,R,Z,M',a,b,c⟩:=step i G M hi h;exact⟨.int i,R,Z,M',by simp[Src.item,hi],by rw[a];exact b,c⟩) (λG M h=>⟨rfl,hp G M h⟩) n 0 G M1 (uy _) h0
 have hl:(Src.con ((List.range n).map λ(k:Nat)=>D.int (k:Int))).len=n:=by simp[Src.len]
 rw[hl];exact⟨Z,M',e,h⟩
def Rx(qq:it.den W ρ M=.ok (.int (n:Int)) M1)(hn:n<=100000)(I:Nat->List D->di->Prop)(h0:I 0 [] M1)(step:∀i U M,i<n->I i U M->∃Z x M',t.put (.int i) (ρ++List.replicate k none)=some Z/\e.den W Z M=.ok x M'/\I (i+1) (U++[x]) M') :
 ∃G M',(Ex.comp v k t (.Mp it) e).den W ρ M=(if v then .ok (.vl G) M' else new (.lst G) M')/\I n G M':=by
 rw[Hu,Ld,qq];have Py:((n:Int)).natAbs<=100000:=by lia
 simp only[Res.Br,Py,jw,wk];obtain⟨G,M',g,h⟩:=Hx (fin:=(Src.con ((List.range n).map λ(k:Nat)=>D.int (k:Int))).fin) (item:=(Src.con ((List.range n).map λ(k:Nat)=>D.int (k:Int))).item) (body:=λd M=>(Res.ux (t.put d (ρ++List.replicate k none)) M).bind λR M=>(e.den W R M).bind λx M'=>.ok (some x) M') I (n:=n) (λi U M hi h=>by
  obtain⟨Z,x,M',a,b,c⟩:=step i U M hi h;exact⟨.int i,some x,M',by simp[Src.item,hi],by rw[a];simp[b],by simpa using c⟩) (λ_ _ _=>rfl) n 0 [] M1 (uy _) h0
 have hl:(Src.con ((List.range n).map λ(k:Nat)=>D.int (k:Int))).len=n:=by simp[Src.len]
 refine⟨G,M',?_,by simpa using h⟩;rw[z8,hl,bx hn,g];rfl
set_option tactic.hygienic true in
def Gj(U:it.den W ρ M=.ok d M1)(C:gm M1 d=some ds)(R:ds.length<=100000)(I:Nat->List D->di->Prop)(h0:I 0 [] M1)(stay:∀i Z M,I i Z M->gm M d=some ds)(step:∀i y Z M,ds[i]?=some y->I i Z M->∃Y x M',t.put y (ρ++List.replicate k none)=some Y/\e.den W Y M=.ok x M'/\I (i+1) (Z++[x]) M') :
 ∃G M',(Ex.comp v k t (.val it) e).den W ρ M=(if v then .ok (.vl G) M' else new (.lst G) M')/\I ds.length G M':=by
 rw[Hu,Lb,U];obtain⟨s,hs,u,S,hf⟩:∃s,srcOf M1 d=some s/\s.len=ds.length/\(∀M i,gm M d=some ds->s.item i M=ds[i]?)/\∀M,gm M d=some ds->s.fin M=true:=by
  cases d with
  |vl zs=>cases C;exact⟨.con ds,rfl,rfl,λ_ _ _=>rfl,λ_ _=>rfl⟩
  |ref p =>
   have get:∀{M:di},gm M (.ref p)=some ds->M[p]?=some (.lst ds):=fun{M} h=>by
    simp only[gm]at h;split at h
    .rename_i z;cases h;exact z
    .cases h
   refine⟨.live p ds.length,by simp[srcOf,get C],rfl,λM i h=>by simp[Src.item,get h],λM h=>by simp[Src.fin,get h]⟩
  |_=>cases C
 simp only[Res.Br,hs,Res.Dt];obtain⟨G,M',g,h⟩:=Hx (fin:=s.fin) (item:=s.item) (body:=λd M=>(Res.ux (t.put d (ρ++List.replicate k none)) M).bind λJ M=>(e.den W J M).bind λx M'=>.ok (some x) M') I (n:=ds.length) (λi Z M L h=>by
  obtain⟨Y,x,M',a,b,c⟩:=step i ds[i] Z M (by simp[L]) h;exact⟨ds[i],some x,M',by rw[S M i (stay i Z M h)];simp[L],by rw[a];simp[b],by simpa using c⟩) (λZ M h=>hf M (stay _ Z M h)) ds.length 0 [] M1 (uy _) h0
 refine⟨G,M',?_,by simpa using h⟩;rw[z8,u,bx R,g];rfl
abbrev Goes(I:Nat->Env->di->Prop)(R:D->di->Prop)(i:Nat)(r:Res (Flow×Env)):Prop:=∃fl ρ' M',r=.ok (fl,ρ') M'/\((fl=.next/\I i ρ' M')\/∃v,fl=.ret v/\R v M')
theorem ait{fin:di->Bool}{item:Nat->di->Option D}{G:D->Env->di->Res (Flow×Env)}(I:Nat->Env->di->Prop)(R:D->di->Prop){n:Nat}
 (step:∀i Z M,i<n->I i Z M->∃d,item i M=some d/\Goes I R (i+1) (G d Z M)) (hf:∀Z M,I n Z M->fin M=true) :
 ∀k i Z M,i+k=n->I i Z M->Goes I R n (Ca fin item G k i Z M)
 |0,i,Z,M,e,h=>by
  obtain rfl:i=n:=by lia
  exact⟨_,Z,M,by simp[Ca,hf Z M h],.inl ⟨rfl,h⟩⟩
 |k+1,i,Z,M,e,h=>by
  obtain⟨d,h1,fl,U,M',h2,⟨rfl,h4⟩|⟨v,rfl,h4⟩⟩:=step i Z M (by lia) h
  .have:=ait I R step hf k (i+1) U M' (by lia) h4
   simpa[Ca,h1,h2]using this
  .exact⟨.ret v,U,M',by simp[Ca,h1,h2],.inr ⟨v,rfl,h4⟩⟩
section
variable{W:Jm}{ρ:Env}{M M1:di}{t:Tg}{b:mz}
def Wc{it:Nt}{s:Src}{n:Nat}(G:it.den W ρ M=.ok s M1)(U:s.len=n)(I:Nat->Env->di->Prop)(R:D->di->Prop)(h0:I 0 ρ M1)(hf:∀ρ M,I n ρ M->s.fin M=true)
 (step:∀i ρ M,i<n->I i ρ M->∃d Z,s.item i M=some d/\t.put d ρ=some Z/\Goes I R (i+1) (b.den W Z M)):Goes I R n ((Ce.for_ t it b).den W ρ M):=by
 rw[Ph,G,Res.Br,U];exact ait I R (λi ρ M hi h=>by
  obtain⟨d,Z,a,b,c⟩:=step i ρ M hi h;exact⟨d,a,by rw[b];exact c⟩) hf n 0 ρ M1 (uy n) h0
def a08{it:Nt}{s:Src}{n:Nat}(U:it.den W ρ M=.ok s M1)(R:s.len=n)(I:Nat->Env->di->Prop)(h0:I 0 ρ M1)(hf:∀ρ M,I n ρ M->s.fin M=true)
 (step:∀i ρ M,i<n->I i ρ M->∃d G,s.item i M=some d/\t.put d ρ=some G/\∃Z M',b.den W G M=.ok (.next,Z) M'/\I (i+1) Z M'):∃Z M',(Ce.for_ t it b).den W ρ M=.ok (.next,Z) M'/\I n Z M':=by
 obtain⟨fl,Z,M',e,⟨rfl,h⟩|⟨v,rfl,h⟩⟩:=Wc U R I (λ_ _=>False) h0 hf λi ρ M hi h=>by obtain⟨d,G,a,b,Z,M',c,e⟩:=step i ρ M hi h;exact⟨d,G,a,b,.next,Z,M',c,.inl ⟨rfl,e⟩⟩
 .exact⟨Z,M',e,h⟩
 .exact h.elim
def U5{it:Ex}{n:Nat}(G:it.den W ρ M=.ok (.int (n:Int)) M1)(hn:n<=100000)(I:Nat->Env->di->Prop)(R:D->di->Prop)(h0:I 0 ρ M1)
 (step:∀i ρ M,i<n->I i ρ M->∃Z,t.put (.int i) ρ=some Z/\Goes I R (i+1) (b.den W Z M)):Goes I R n ((Ce.for_ t (.Mp it) b).den W ρ M):=by
 exact Wc (s:=.con ((List.range n).map λ(k:Nat)=>D.int (k:Int))) (by rw[Ld,G];simp[hn]) (by simp[Src.len]) I R h0 (λ_ _ _=>rfl) (λi ρ M U h=>by
  obtain⟨Z,a⟩:=step i ρ M U h;exact⟨.int i,Z,by simp[Src.item,U],a⟩)
end
end MW
namespace K81
open MW
noncomputable section
def Kh:mz:=.c (.expr (.call 9 (.p (.v 1) (.v 2)))) (.c (.expr (.call 10 (.p (.v 2) (.v 3)))) (.c (.expr (.call 11 (.p (.v 2) (.v 3)))) (.q (.asg (.fld (.v 0) 2) (.v 1)) (.asg (.fld (.v 0) 1) (.v 2)) (.asg (.fld (.v 0) 0) (.blt .dict (.o (.v 3)))))))
def Kl:Fn:=⟨4,4,Kh⟩
def Mq:mz:=.o (.ret (.fld (.v 0) 2))
def Mr:Fn:=⟨1,1,Mq⟩
def Km:mz:=.o (.ret (.fld (.v 0) 1))
def Dh:Fn:=⟨1,1,Km⟩
def Ko:mz:=.o (.ret (.call 6 (.q (.fld (.v 0) 0) (.v 1) (.v 2))))
def Kp:Fn:=⟨3,3,Ko⟩
def Jo:mz:=.q (.f (.cmp .eq (.v 1) (.i (-1))) (.o (.ret (.v 2)))) (.f (.cmp .eq (.v 2) (.i (-1))) (.o (.ret (.v 1)))) (.ret (.ix (.v 0) (.tup (.p (.v 1) (.v 2)))))
def Jp:Fn:=⟨3,3,Jo⟩
def Bt:mz:=.o (.f (.cmp .eq (.ix (.v 3) (.i 1)) (.ix (.v 5) (.i 0))) (.o (.expr (.bm .append (.v 1) (.o (.tup (.p (.v 2) (.v 4))))))))
def Jq:Ce:=.for_ (.names [4,5]) (.enm (.v 0)) Bt
def El:mz:=.o Jq
def Jr:Ce:=.for_ (.names [2,3]) (.enm (.v 0)) El
def Ms:mz:=.q (.a 1 (.lst .z)) Jr (.ret (.v 1))
def Mt:Fn:=⟨1,6,Ms⟩
def Fp:mz:=.p (.f (.cmp .eq (.v 1) (.i (-1))) (.o (.ret (.cmp .eq (.v 2) (.v 3))))) (.ret (.and (.chain .le .lt (.i 0) (.v 1) (.l (.v 0))) (.cmp .eq (.ix (.v 0) (.v 1)) (.tup (.p (.v 2) (.v 3))))))
def Fq:Fn:=⟨4,4,Fp⟩
def Ft:mz:=.o (.f (.not (.and (.chain .le .lt (.i 0) (.ix (.v 2) (.i 0)) (.v 0)) (.chain .le .lt (.i 0) (.ix (.v 2) (.i 1)) (.v 0)))) (.o .raise))
def Kq:Ce:=.for_ (.name 2) (.val (.v 1)) Ft
def Nz:mz:=.q (.f (.not (.chain .le .le (.i 1) (.v 0) (.i 3))) (.o .raise)) (.f (.cmp .gt (.l (.v 1)) (.i 5)) (.o .raise)) Kq
def N5:Fn:=⟨2,3,Nz⟩
def Gz:mz:=.o (.f (.not (.call 8 (.c (.v 0) (.q (.ix (.v 1) (.tup (.p (.v 3) (.v 4)))) (.ix (.ix (.v 0) (.v 3)) (.i 0)) (.ix (.ix (.v 0) (.v 4)) (.i 1)))))) (.o .raise))
def Mu:Ce:=.for_ (.names [3,4]) (.val (.v 2)) Gz
def Qg:mz:=.q (.a 2 (.call 7 (.o (.v 0)))) (.f (.W2 (.v 1) (.v 2)) (.o .raise)) Mu
def Qh:Fn:=⟨2,5,Qg⟩
def Di:mz:=.c (.f (.cmp .Rp (.tup (.p (.v 4) (.v 5))) (.v 1)) (.o .cont)) (.q (.a 6 (.call 6 (.q (.v 1) (.ix (.v 1) (.tup (.p (.v 3) (.v 4)))) (.v 5)))) (.a 7 (.call 6 (.q (.v 1) (.v 3) (.ix (.v 1) (.tup (.p (.v 4) (.v 5))))))) (.f (.cmp .ne (.v 6) (.v 7)) (.o .raise)))
def Kr:Ce:=.for_ (.name 5) (.Mp (.l (.v 0))) Di
def Fv:mz:=.o Kr
def Ks:Ce:=.for_ (.names [3,4]) (.val (.v 2)) Fv
def N6:mz:=.p (.a 2 (.call 7 (.o (.v 0)))) Ks
def N7:Fn:=⟨2,8,N6⟩
def Hy:mz:=.p (.f (.cmp .lt (.v 1) (.l (.v 0))) (.o (.ret (.ix (.v 0) (.v 1))))) (.ret (.i 0))
def Hz:Fn:=⟨2,2,Hy⟩
def Lh:mz:=.q (.a 2 (.call 12 (.p (.v 0) (.v 1)))) (.f (.cmp .ge (.v 2) (.bin .pow (.i 10) (.i 18))) (.o (.ret (.lst (.p (.bin .sub (.v 2) (.bin .pow (.i 10) (.i 18))) (.cst (.bl true))))))) (.ret (.lst (.p (.bin .mod (.v 2) (.i 2147483647)) (.cst (.bl false)))))
def Li:Fn:=⟨2,3,Lh⟩
def N8:mz:=.c (.f (.ix (.v 0) (.i 1)) (.q (.a 2 (.bin .mod (.ix (.v 0) (.i 0)) (.v 1))) (.asg (.sub (.v 0) (.i 0)) (.bin .fdiv (.ix (.v 0) (.i 0)) (.v 1))) (.ret (.v 2)))) (.c (.asg (.sub (.v 0) (.i 0)) (.bin .mod (.bin .add (.bin .mul (.ix (.v 0) (.i 0)) (.i 48271)) (.i 29)) (.i 2147483647))) (.q (.a 3 (.bin .mod (.bin .add (.bin .add (.bin .mul (.ix (.v 0) (.i 0)) (.ix (.v 0) (.i 0))) (.bin .mul (.i 39373) (.ix (.v 0) (.i 0)))) (.i 7)) (.i 2147483629))) (.a 3 (.bin .mod (.bin .add (.bin .mul (.v 3) (.v 3)) (.bin .mul (.i 16807) (.v 3))) (.i 2147483587))) (.ret (.bin .mod (.bin .fdiv (.v 3) (.i 8)) (.v 1)))))
def Oa:Fn:=⟨2,4,N8⟩
def Ia:Ex:=.comp true 1 (.name 12) (.Mp (.ix (.v 7) (.v 10))) (.call 14 (.p (.v 0) (.ix (.v 7) (.v 11))))
def Em:mz:=.q (.a 10 (.call 14 (.p (.v 0) (.v 6)))) (.a 11 (.call 14 (.p (.v 0) (.v 6)))) (.expr (.bm .append (.v 8) (.o (.tup (.q (.v 10) (.v 11) (.blt .tuple (.o Ia)))))))
def Ib:Ce:=.for_ (.name 9) (.Mp (.call 14 (.p (.v 0) (.i 4)))) Em
def Ie:Ex:=.comp true 1 (.name 12) (.Mp (.v 6)) (.bin .add (.i 1) (.call 14 (.p (.v 0) (.i 3))))
def Lj:mz:=.c (.a 1 (.call 14 (.p (.v 0) (.i 12)))) (.c (.f (.cmp .lt (.v 1) (.i 7)) (.c (.a 2 (.K8 (.p (.tup (.q (.i 0) (.i 1) (.tup (.p (.i 0) (.i 1))))) (.tup (.q (.i 0) (.i 1) (.tup (.p (.i 1) (.i 0)))))))) (.c (.a 3 (.K8 (.q (.tup (.q (.i 0) (.i 1) (.tup (.c (.i 0) (.q (.i 0) (.i 1) (.i 1)))))) (.tup (.q (.i 0) (.i 1) (.tup (.c (.i 0) (.q (.i 1) (.i 0) (.i 1)))))) (.tup (.q (.i 1) (.i 0) (.tup (.p (.i 0) (.i 3)))))))) (.q (.a 4 (.K8 (.o (.tup (.q (.i 0) (.i 0) (.tup (.p (.i 1) (.i 0)))))))) (.a 5 (.K8 (.c (.v 2) (.c (.v 3) (.c (.v 4) (.c (.K8 (.o (.tup (.q (.i 0) (.i 0) (.tup (.q (.i 1) (.i 2) (.i 0))))))) (.q (.K8 (.o (.tup (.q (.i 0) (.i 0) (.tup (.p (.i 0) (.i 0))))))) (.K8 .z) (.K8 (.p (.tup (.q (.i 0) (.i 1) (.tup (.p (.i 0) (.i 1))))) (.tup (.q (.i 1) (.i 2) (.tup (.q (.i 0) (.i 0) (.i 1)))))))))))))) (.ret (.ix (.v 5) (.v 1))))))) (.c (.a 6 (.bin .add (.i 1) (.call 14 (.p (.v 0) (.i 3))))) (.c (.a 7 Ie) (.q (.a 8 (.lst .z)) Ib (.ret (.v 8))))))
def Dj:Fn:=⟨1,12,Lj⟩
def G3:Ex:=.comp true 1 (.name 10) (.val (.ix (.v 7) (.i 2))) (.ix (.ix (.v 8) (.i 2)) (.v 10))
def Cj:mz:=.c (.a 4 (.tup .z)) (.q (.f (.cmp .eq (.ix (.v 7) (.i 1)) (.ix (.v 8) (.i 0))) (.o (.a 4 (.blt .tuple (.o G3))))) (.a 9 (.tup (.q (.ix (.v 7) (.i 0)) (.ix (.v 8) (.i 1)) (.v 4)))) (.f (.and (.cmp .ne (.v 4) (.tup .z)) (.and (.cmp .Rp (.v 9) (.v 1)) (.or (.cmp .ne (.ix (.v 9) (.i 0)) (.ix (.v 9) (.i 1))) (.cmp .ne (.v 4) (.agk (.l (.v 4))))))) (.o (.expr (.bm .append (.v 1) (.o (.v 9)))))))
def G4:Ce:=.for_ (.names [7,8]) (.val (.K8 (.p (.tup (.p (.ix (.v 1) (.v 5)) (.ix (.v 1) (.v 6)))) (.tup (.p (.ix (.v 1) (.v 6)) (.ix (.v 1) (.v 5))))))) Cj
def G5:mz:=.o G4
def G6:Ce:=.for_ (.name 6) (.Mp (.l (.v 1))) G5
def Mv:mz:=.p G6 (.a 5 (.bin .add (.v 5) (.i 1)))
def G7:Ce:=.whl (.and (.cmp .lt (.v 5) (.l (.v 1))) (.cmp .lt (.l (.v 1)) (.i 6))) Mv
def zu:mz:=.o (.f (.and (.or (.cmp .ne (.v 2) (.v 3)) (.cmp .ne (.v 4) (.agk (.l (.v 4))))) (.cmp .Rp (.tup (.q (.v 2) (.v 3) (.v 4))) (.v 1))) (.o (.expr (.bm .append (.v 1) (.o (.tup (.q (.v 2) (.v 3) (.v 4))))))))
def G8:Ce:=.for_ (.names [2,3,4]) (.val (.v 0)) zu
def Qi:mz:=.c (.a 1 (.lst .z)) (.c G8 (.q (.a 5 (.i 0)) G7 (.ret (.v 1))))
def Qj:Fn:=⟨1,10,Qi⟩
def Fw:Ex:=.comp true 3 (.names [8,9,10]) (.val (.v 2)) (.tup (.p (.v 8) (.v 9)))
def Fy:Ex:=.comp true 1 (.name 8) (.val (.ix (.ix (.v 2) (.v 5)) (.i 2))) (.ix (.ix (.ix (.v 2) (.v 6)) (.i 2)) (.v 8))
def Bg:mz:=.o (.f (.cmp .eq (.ix (.ix (.v 2) (.v 5)) (.i 1)) (.ix (.ix (.v 2) (.v 6)) (.i 0))) (.p (.a 7 (.tup (.q (.ix (.ix (.v 2) (.v 5)) (.i 0)) (.ix (.ix (.v 2) (.v 6)) (.i 1)) (.blt .tuple (.o Fy))))) (.asg (.sub (.v 4) (.tup (.p (.v 5) (.v 6)))) (.ite (.cmp .inn (.v 7) (.v 2)) (.bm .index (.v 2) (.o (.v 7))) (.neg (.i 1))))))
def Ku:Ce:=.for_ (.name 6) (.Mp (.l (.v 2))) Bg
def Fz:mz:=.o Ku
def Ga:Ce:=.for_ (.name 5) (.Mp (.l (.v 2))) Fz
def Gb:Ex:=.comp true 3 (.names [8,9,10]) (.val (.v 2)) (.blt .max (.p (.v 8) (.v 9)))
def Kv:mz:=.p (.a 1 (.cut (.v 1) .none (.some (.neg (.i 1))))) (.a 2 (.call 16 (.o (.v 1))))
def Ge:Ce:=.whl (.cmp .gt (.l (.v 2)) (.i 5)) Kv
def Ob:mz:=.c (.a 1 (.call 15 (.o (.v 0)))) (.c (.a 2 (.call 16 (.o (.v 1)))) (.c Ge (.c (.a 3 (.bin .add (.i 1) (.blt .max (.o (.bin .add Gb (.K8 (.o (.i 0)))))))) (.c (.f (.cmp .eq (.v 2) (.K8 .z)) (.o (.a 3 (.bin .add (.i 1) (.call 14 (.p (.v 0) (.i 3))))))) (.q (.a 4 .ak8) Ga (.ret (.tup (.q (.v 3) (.blt .tuple (.o Fw)) (.v 4)))))))))
def Oc:Fn:=⟨1,8,Ob⟩
def J5:Ex:=.Du true 1 (.name 2) (.Mp (.l (.ix (.v 0) (.i 1)))) (.cmp .eq (.ix (.ix (.ix (.v 0) (.i 1)) (.v 2)) (.i 0)) (.v 1)) (.v 2)
def U6:mz:=.o (.ret (.bin .add (.K8 (.o (.neg (.i 1)))) J5))
def U7:Fn:=⟨2,2,U6⟩
def Q6:mz:=.o (.ret (.ite (.cmp .lt (.v 2) (.i 0)) (.v 1) (.ix (.ix (.ix (.v 0) (.i 1)) (.v 2)) (.i 1))))
def Q7:Fn:=⟨3,3,Q6⟩
def Gk:mz:=.p (.f (.or (.cmp .lt (.v 1) (.i 0)) (.cmp .lt (.v 2) (.i 0))) (.o (.ret (.bin .add (.bin .add (.v 1) (.v 2)) (.i 1))))) (.ret (.ix (.ix (.v 0) (.i 2)) (.tup (.p (.v 1) (.v 2)))))
def Gm:Fn:=⟨3,3,Gk⟩
def Xb:mz:=.o (.ret (.and (.call 22 (.p (.v 0) (.v 1))) (.and (.call 23 (.p (.v 0) (.v 1))) (.call 24 (.p (.v 0) (.v 1))))))
def Xc:Fn:=⟨2,2,Xb⟩
def J6:Ex:=.comp true 1 (.name 3) (.val (.v 2)) (.cmp .ge (.v 3) (.i 0))
def U8:mz:=.p (.a 2 (.ix (.v 1) (.i 0))) (.ret (.and (.cmp .eq (.l (.v 2)) (.meth (.v 0) 0 .z)) (.blt .all (.o J6))))
def U9:Fn:=⟨2,3,U8⟩
def Ln:Ex:=.comp true 1 (.name 7) (.val (.v 5)) (.chain .le .lt (.i 0) (.v 7) (.ix (.v 2) (.ix (.v 6) (.i 1))))
def Ho:mz:=.p (.f (.cmp .ne (.l (.v 5)) (.ix (.v 2) (.ix (.v 6) (.i 0)))) (.o (.ret (.cst (.bl false))))) (.f (.not (.blt .all (.o Ln))) (.o (.ret (.cst (.bl false)))))
def Ry:Ce:=.for_ (.names [5,6]) (.zip (.p (.v 3) (.v 4))) Ho
def Xd:mz:=.c (.a 2 (.ix (.v 1) (.i 0))) (.c (.a 3 (.ix (.v 1) (.i 1))) (.c (.a 4 (.meth (.v 0) 1 .z)) (.q (.f (.cmp .ne (.l (.v 3)) (.l (.v 4))) (.o (.ret (.cst (.bl false))))) Ry (.ret (.cst (.bl true))))))
def Xe:Fn:=⟨2,7,Xd⟩
def Dn:mz:=.o (.f (.cmp .ne (.call 25 (.q (.v 1) (.v 6) (.v 3))) (.call 25 (.q (.v 1) (.v 5) (.v 4)))) (.o (.ret (.cst (.bl false)))))
def Mw:Ce:=.for_ (.names [5,6]) (.enm (.ix (.ix (.v 1) (.i 1)) (.v 2))) Dn
def Dp:mz:=.p (.a 4 (.meth (.v 0) 2 (.p (.v 2) (.v 3)))) Mw
def Mx:Ce:=.for_ (.names [2,3]) (.val (.call 7 (.o (.meth (.v 0) 1 .z)))) Dp
def Qk:mz:=.p Mx (.ret (.cst (.bl true)))
def Ql:Fn:=⟨2,7,Qk⟩
def aiu:mz:=.p (.f (.cmp .eq (.v 2) (.i (-1))) (.o (.ret (.v 1)))) (.ret (.ix (.ix (.ix (.v 0) (.i 1)) (.v 2)) (.v 1)))
def aiv:Fn:=⟨3,3,aiu⟩
def ad3:mz:=.o (.ret (.and (.call 27 (.q (.v 1) (.v 2) (.v 3))) (.cmp .is (.call 28 (.c (.v 0) (.q (.v 1) (.v 2) (.v 3)))) (.cst .non))))
def ad4:Fn:=⟨4,4,ad3⟩
def Lp:Ex:=.comp true 1 (.name 6) (.val (.v 3)) (.chain .le .lt (.i 0) (.v 6) (.v 5))
def Lq:mz:=.p (.f (.cmp .ne (.l (.v 3)) (.v 4)) (.o (.ret (.cst (.bl false))))) (.f (.not (.blt .all (.o Lp))) (.o (.ret (.cst (.bl false)))))
def Rz:Ce:=.for_ (.names [3,4,5]) (.zip (.q (.v 2) (.ix (.v 0) (.i 0)) (.ix (.v 1) (.i 0)))) Lq
def Xf:mz:=.q (.f (.cmp .ne (.l (.v 2)) (.l (.ix (.v 0) (.i 0)))) (.o (.ret (.cst (.bl false))))) Rz (.ret (.cst (.bl true)))
def Xg:Fn:=⟨3,6,Xf⟩
def Ig:mz:=.o (.f (.cmp .ne (.call 25 (.q (.v 2) (.ix (.v 6) (.v 8)) (.v 4))) (.ix (.v 7) (.v 9))) (.o (.ret (.tup (.p (.v 4) (.v 8))))))
def Od:Ce:=.for_ (.names [8,9]) (.enm (.ix (.ix (.v 1) (.i 1)) (.v 4))) Ig
def Ih:mz:=.q (.a 6 (.ix (.v 3) (.ix (.v 5) (.i 0)))) (.a 7 (.ix (.v 3) (.ix (.v 5) (.i 1)))) Od
def Oe:Ce:=.for_ (.names [4,5]) (.enm (.meth (.v 0) 1 .z)) Ih
def R8:mz:=.p Oe (.ret (.cst .non))
def R9:Fn:=⟨4,10,R8⟩
def Sd:mz:=.o (.ret (.call 31 (.o (.bin .add (.tup (.o (.ix (.v 0) (.i 0)))) (.ix (.v 0) (.i 1))))))
def Sg:Fn:=⟨1,1,Sd⟩
def Xh:mz:=.o (.ret (.call 31 (.o (.v 0))))
def Xi:Fn:=⟨1,1,Xh⟩
def Qm:Ex:=.comp true 1 (.name 1) (.val (.v 0)) (.call 32 (.o (.v 1)))
def Va:mz:=.o (.ret (.bm .join (.cst (.str (PySem.Str.ofString " ; "))) (.o Qm)))
def Vb:Fn:=⟨1,1,Va⟩
def Sh:Ex:=.comp true 1 (.name 1) (.val (.v 0)) (.blt .str (.o (.v 1)))
def Q8:mz:=.p (.f (.ntr (.v 0)) (.o (.ret (.cst (.str (PySem.Str.ofString "-")))))) (.ret (.bm .join (.cst (.str (PySem.Str.ofString " "))) (.o Sh)))
def Q9:Fn:=⟨1,1,Q8⟩
def Sq:mz:=.c (.a 2 (.call 35 (.o (.v 1)))) (.q (.a 3 (.tup (.p (.ix (.v 2) (.i 0)) (.cut (.v 2) (.some (.i 1)) .none)))) (.f (.not (.call 21 (.p (.v 0) (.v 3)))) (.o .raise)) (.ret (.v 3)))
def Ss:Fn:=⟨2,4,Sq⟩
def Xj:mz:=.q (.a 4 (.call 35 (.o (.v 3)))) (.f (.not (.call 26 (.c (.v 0) (.q (.v 1) (.v 2) (.v 4))))) (.o .raise)) (.ret (.v 4))
def Xk:Fn:=⟨4,5,Xj⟩
def J7:Ex:=.comp true 1 (.name 1) (.val (.bm .split (.v 0) (.o (.cst (.str (PySem.Str.ofString " ; ")))))) (.call 36 (.o (.v 1)))
def Vc:mz:=.p (.f (.not (.blt .isStr (.o (.v 0)))) (.o .raise)) (.ret (.blt .tuple (.o J7)))
def Vd:Fn:=⟨1,1,Vc⟩
def Lr:Ex:=.comp true 1 (.name 1) (.val (.bm .split (.v 0) (.o (.cst (.str (PySem.Str.ofString " ")))))) (.call 37 (.o (.v 1)))
def Ra:mz:=.p (.f (.cmp .eq (.v 0) (.cst (.str (PySem.Str.ofString "-")))) (.o (.ret (.tup .z)))) (.ret (.blt .tuple (.o Lr)))
def Rb:Fn:=⟨1,1,Ra⟩
def G9:Ex:=.comp true 1 (.name 1) (.sgn (.v 0)) (.cmp .inS (.v 1) (.cst (.str (PySem.Str.ofString "0123456789"))))
def Qn:mz:=.q (.f (.or (.cmp .eq (.v 0) (.cst (.str (PySem.Str.ofString "")))) (.not (.blt .all (.o G9)))) (.o .raise)) (.f (.and (.cmp .eq (.sx (.v 0)) (.cst (.str (PySem.Str.ofString "0")))) (.cmp .ne (.v 0) (.cst (.str (PySem.Str.ofString "0"))))) (.o .raise)) (.ala (.blt .toInt (.o (.v 0))))
def Qo:Fn:=⟨1,1,Qn⟩
def My:Ex:=.comp true 1 (.name 13) (.val (.ix (.v 1) (.v 6))) (.ite (.cmp .eq (.v 13) (.v 12)) (.v 11) (.v 13))
def Cm:mz:=.c (.a 9 (.ix (.ix (.v 1) (.v 5)) (.v 8))) (.q (.a 10 (.ix (.ix (.v 1) (.v 6)) (.ix (.ix (.v 2) (.v 4)) (.v 8)))) (.f (.cmp .ne (.bm .get (.v 7) (.p (.v 9) (.v 10))) (.v 10)) (.c (.a 11 (.blt .min (.p (.ix (.v 7) (.v 9)) (.v 10)))) (.c (.a 12 (.blt .max (.p (.ix (.v 7) (.v 9)) (.v 10)))) (.c (.asg (.sub (.v 1) (.v 6)) My) (.q (.a 3 (.cst (.bl true))) (.a 7 .abb) .brk))))) (.asg (.sub (.v 7) (.v 9)) (.v 10)))
def Mz:Ce:=.for_ (.name 8) (.Mp (.l (.ix (.v 1) (.v 5)))) Cm
def Dq:mz:=.q (.asg (.tg (.names [5,6])) (.ix (.ix (.v 0) (.i 1)) (.v 4))) (.a 7 .abb) Mz
def M9:Ce:=.for_ (.name 4) (.Mp (.l (.ix (.v 0) (.i 1)))) Dq
def Ha:mz:=.p (.a 3 (.cst (.bl false))) M9
def Hb:Ce:=.whl (.v 3) Ha
def Qp:mz:=.q (.a 3 (.cst (.bl true))) Hb (.ret (.v 1))
def Qq:Fn:=⟨3,13,Qp⟩
def Ii:Ex:=.comp true 1 (.name 19) (.val (.v 16)) (.l (.v 19))
def Ij:Ex:=.comp true 1 (.name 19) (.val (.v 18)) (.bm .index (.ix (.v 16) (.v 12)) (.o (.v 19)))
def Ik:Ex:=.comp true 1 (.name 19) (.val (.ix (.v 16) (.v 11))) (.ix (.ix (.v 13) (.v 12)) (.ix (.ix (.v 9) (.v 10)) (.v 19)))
def Eo:mz:=.q (.asg (.tg (.names [11,12])) (.ix (.ix (.v 1) (.i 1)) (.v 10))) (.a 18 Ik) (.expr (.bm .append (.v 17) (.o (.blt .tuple (.o Ij)))))
def Og:Ce:=.for_ (.name 10) (.Mp (.l (.ix (.v 1) (.i 1)))) Eo
def Il:Ex:=.comp true 1 (.name 19) (.val (.v 13)) (.blt .Ef (.o (.v 19)))
def Oh:Ex:=.comp true 1 (.name 19) (.val (.ix (.v 13) (.v 5))) (.ite (.cmp .eq (.v 19) (.v 15)) (.v 14) (.v 19))
def Cz:mz:=.c (.a 5 (.call 14 (.p (.v 0) (.ix (.v 1) (.i 0))))) (.q (.a 11 (.call 14 (.p (.v 0) (.i 7)))) (.a 12 (.call 14 (.p (.v 0) (.i 7)))) (.f (.cmp .lt (.blt .max (.p (.v 11) (.v 12))) (.l (.ix (.v 13) (.v 5)))) (.c (.a 14 (.blt .min (.p (.ix (.ix (.v 13) (.v 5)) (.v 11)) (.ix (.ix (.v 13) (.v 5)) (.v 12))))) (.q (.a 15 (.blt .max (.p (.ix (.ix (.v 13) (.v 5)) (.v 11)) (.ix (.ix (.v 13) (.v 5)) (.v 12))))) (.asg (.sub (.v 13) (.v 5)) Oh) (.a 13 (.call 38 (.q (.v 1) (.v 13) (.v 9))))))))
def Oi:Ce:=.for_ (.name 10) (.Mp (.call 14 (.p (.v 0) (.i 4)))) Cz
def Im:Ex:=.comp false 1 (.name 19) (.val (.v 3)) (.agl (.l (.v 19)))
def Ip:Ex:=.comp true 3 (.names [19,20,21]) (.val (.ix (.v 3) (.v 11))) (.bm .index (.ix (.v 3) (.v 12)) (.o (.tup (.q (.v 19) (.v 20) (.call 20 (.q (.v 1) (.v 21) (.v 10)))))))
def Ir:mz:=.p (.asg (.tg (.names [11,12])) (.ix (.ix (.v 1) (.i 1)) (.v 10))) (.expr (.bm .append (.v 9) (.o Ip)))
def Oj:Ce:=.for_ (.name 10) (.Mp (.l (.ix (.v 1) (.i 1)))) Ir
def Iu:Ex:=.comp true 1 (.name 19) (.val (.v 3)) (.l (.v 19))
def Ep:mz:=.o (.expr (.bm .append (.ix (.v 3) (.v 7)) (.o (.tup (.q (.v 4) (.v 5) (.v 8))))))
def Ol:Ce:=.for_ (.names [7,8]) (.val (.v 6)) Ep
def Iv:Ex:=.comp true 1 (.name 19) (.val (.call 18 (.p (.v 1) (.v 5)))) (.tup (.p (.call 19 (.q (.v 1) (.v 5) (.v 19))) (.v 19)))
def Dc:mz:=.q (.a 5 (.call 14 (.p (.v 0) (.ix (.v 1) (.i 0))))) (.a 6 Iv) (.f (.cmp .lt (.bin .add (.blt .max (.o Iu)) (.l (.v 6))) (.i 8)) (.o Ol))
def Om:Ce:=.for_ (.name 4) (.Mp (.call 14 (.p (.v 0) (.bin .add (.v 2) (.i 1))))) Dc
def Nb:Ex:=.comp true 1 (.name 19) (.Mp (.ix (.v 1) (.i 0))) (.lst .z)
def Su:mz:=.c (.a 3 Nb) (.c Om (.c (.a 9 (.lst .z)) (.c Oj (.c (.a 13 Im) (.c Oi (.c (.a 16 Il) (.q (.a 17 (.lst .z)) Og (.ret (.tup (.p (.blt .tuple (.o Ii)) (.blt .tuple (.o (.v 17)))))))))))))
def Sv:Fn:=⟨3,19,Su⟩
def Rc:mz:=.o (.ret (.ite (.cmp .lt (.v 2) (.i 0)) (.v 1) (.ix (.ix (.ix (.v 0) (.i 1)) (.v 2)) (.v 1))))
def Rf:Fn:=⟨3,3,Rc⟩
def Er:mz:=.c (.a 9 (.call 19 (.q (.v 0) (.v 4) (.v 8)))) (.c (.a 10 (.call 40 (.q (.v 1) (.v 5) (.v 8)))) (.q (.a 11 (.call 40 (.q (.v 2) (.v 6) (.v 8)))) (.f (.cmp .ne (.bm .get (.ix (.v 7) (.v 9)) (.p (.v 10) (.v 11))) (.v 11)) (.o (.ret (.cst .non)))) (.asg (.sub (.ix (.v 7) (.v 9)) (.v 10)) (.v 11))))
def Iw:Ce:=.for_ (.name 8) (.val (.call 18 (.p (.v 0) (.v 4)))) Er
def Iz:Ex:=.comp true 1 (.name 12) (.val (.v 3)) (.blt .dict (.o (.v 12)))
def Ls:mz:=.q (.a 7 Iz) Iw (.ret (.v 7))
def Lw:Fn:=⟨7,12,Ls⟩
def Es:Ex:=.comp true 1 (.name 11) (.Mp (.ix (.ix (.v 2) (.i 0)) (.v 10))) (.ix (.ix (.v 4) (.v 10)) (.v 11))
def Et:Ex:=.comp true 1 (.name 10) (.Mp (.ix (.v 1) (.i 0))) (.blt .tuple (.o Es))
def Cu:mz:=.o (.f (.cmp .is (.v 7) (.cst .non)) (.o (.a 7 (.call 41 (.c (.v 1) (.c (.v 2) (.c (.v 3) (.c (.v 4) (.q (.v 5) (.v 6) (.bin .mod (.bin .add (.v 9) (.v 8)) (.ix (.ix (.v 3) (.i 0)) (.v 5))))))))))))
def Js:Ce:=.for_ (.name 9) (.Mp (.ix (.ix (.v 3) (.i 0)) (.v 5))) Cu
def Av:mz:=.o (.f (.cmp .Rp (.v 6) (.ix (.v 4) (.v 5))) (.c (.a 7 (.cst .non)) (.c (.a 8 (.call 14 (.p (.v 0) (.blt .max (.p (.i 1) (.ix (.ix (.v 3) (.i 0)) (.v 5))))))) (.q Js (.f (.cmp .is (.v 7) (.cst .non)) (.o (.ret (.cst .non)))) (.a 4 (.v 7))))))
def Jt:Ce:=.for_ (.name 6) (.Mp (.ix (.ix (.v 2) (.i 0)) (.v 5))) Av
def Cv:mz:=.o Jt
def Ju:Ce:=.for_ (.name 5) (.Mp (.ix (.v 1) (.i 0))) Cv
def Eu:Ex:=.comp true 1 (.name 10) (.Mp (.ix (.v 1) (.i 0))) .abb
def Hc:mz:=.q (.a 4 Eu) Ju (.ret (.blt .tuple (.o Et)))
def Hd:Fn:=⟨4,10,Hc⟩
def Jv:Ex:=.comp true 1 (.name 1) (.val (.v 0)) (.blt .str (.o (.v 1)))
def Hf:mz:=.o (.ret (.ite (.cmp .eq (.v 0) (.tup .z)) (.cst (.str (PySem.Str.ofString "-"))) (.bm .join (.cst (.str (PySem.Str.ofString " "))) (.o Jv))))
def Hg:Fn:=⟨1,1,Hf⟩
def Hk:Ex:=.comp true 1 (.name 1) (.val (.bin .add (.tup (.o (.ix (.v 0) (.i 0)))) (.ix (.v 0) (.i 1)))) (.call 43 (.o (.v 1)))
def Jw:mz:=.o (.ret (.bm .join (.cst (.str (PySem.Str.ofString " ; "))) (.o Hk)))
def Jx:Fn:=⟨1,1,Jw⟩
def Hh:Ex:=.Du true 1 (.name 1) (.val (.v 0)) (.not (.blt .isTuple (.o (.v 1)))) (.v 1)
def Qs:mz:=.o (.ret (.and (.blt .isTuple (.o (.v 0))) (.cmp .eq Hh (.K8 .z))))
def Qt:Fn:=⟨1,1,Qs⟩
def aiw:Ex:=.comp true 1 (.name 9) (.val (.v 8)) (.call 43 (.o (.v 9)))
def Wd:mz:=.c (.a 6 (.call 44 (.o (.v 5)))) (.q (.f (.cmp .ne (.call 29 (.o (.v 5))) (.v 6)) (.o (.ret (.cst (.bl false))))) (.a 7 (.call 33 (.p (.v 3) (.v 6)))) (.f (.or (.not (.call 45 (.o (.v 7)))) (.or (.not (.call 45 (.o (.ix (.v 7) (.i 1))))) (.cmp .ne (.v 7) (.v 5)))) (.o (.ret (.cst (.bl false))))))
def aix:Ce:=.for_ (.name 5) (.val (.v 4)) Wd
def abl:Ex:=.comp true 1 (.name 9) (.Mp (.i 2)) (.call 39 (.q (.v 1) (.v 2) (.i 4)))
def aov:mz:=.c (.a 1 (.call 13 (.p (.v 0) (.i 0)))) (.c (.a 2 (.call 17 (.o (.v 1)))) (.c (.a 3 (.make 3 (.q (.ix (.v 2) (.i 0)) (.ix (.v 2) (.i 1)) (.ix (.v 2) (.i 2))))) (.c (.a 4 abl) (.c aix (.c (.a 8 (.call 42 (.c (.v 1) (.q (.v 2) (.ix (.v 4) (.i 0)) (.ix (.v 4) (.i 1)))))) (.c (.f (.cmp .is (.v 8) (.cst .non)) (.o (.ret (.cst (.bl true))))) (.q (.a 6 (.bm .join (.cst (.str (PySem.Str.ofString " ; "))) (.o aiw))) (.a 7 (.call 34 (.c (.v 3) (.q (.ix (.v 4) (.i 0)) (.ix (.v 4) (.i 1)) (.v 6))))) (.ret (.and (.cmp .eq (.call 30 (.o (.v 8))) (.v 6)) (.and (.call 45 (.o (.v 7))) (.cmp .eq (.v 7) (.v 8))))))))))))
def aiy:Fn:=⟨1,9,aov⟩
def prog:Prog:=⟨[Kl,Mr,Dh,Kp,Dh,Dh,Jp,Mt,Fq,N5,Qh,N7,Hz,Li,Oa,Dj,Qj,Oc,U7,Q7,Gm,Xc,U9,Xe,Ql,aiv,ad4,Xg,R9,Sg,Xi,Vb,Q9,Ss,Xk,Vd,Rb,Qo,Qq,Sv,Rf,Lw,Hd,Hg,Jx,Qt,aiy],[⟨0,[]⟩,⟨0,[]⟩,⟨0,[]⟩,⟨0,[(0,1),(1,2),(2,3)]⟩]⟩
end
abbrev PW(m:Nat):Jm:=⟨prog.call m,prog.cls⟩
noncomputable abbrev sR(n:Nat):Option D:=some (.ref n)
noncomputable abbrev sI(i:Int):Option D:=some (.int i)
set_option genInjectivity true in
structure F where
 a:Nat
 b:Nat
 r:List Nat
 deriving DecidableEq
noncomputable def nD(x:Nat):D:=.int (x:Int)
def Ff(r:Y3):D:=.tup (r.map nD)
def F.toD(f:F):D:=.tup [.int f.a,.int f.b,Ff f.r]
def aiz(x y:Nat):decide ((x:Int)=(y:Int))=decide (x=y):=by
 by_cases h:x=y
 .simp[h]
 .have:¬((x:Int)=(y:Int)):=by lia
  simp[h,this]
def Jy(M:di)(n x y:Nat):Nj M (n+1) (.int x) (.int y)=some (decide (x=y)):=by rw[aio,aiz]
theorem abm(M:di)(n:Nat):∀r s:List Nat,Rq (Nj M (n+1)) (r.map nD) (s.map nD)=some (decide (r=s))
 |[],[]=>by simp[Rq]|[],_::_=>by simp[Rq]|_::_,[]=>by simp[Rq]
 |x::r,y::s=>by
  rw[gr,gr,Ej (a:=nD x) (b:=nD y) (Jy M n x y) (abm M n r s)]
  by_cases h:x=y<;>simp[h]
def agr(M:di)(r s:Y3):wj M (Ff r) (Ff s)=some (decide (r=s)):=abm M 4 r s
def bey(M:di)(f g:F):wj M f.toD g.toD=some (decide (f=g)):=by obtain⟨a,b,r⟩:=f;obtain⟨c,d,s⟩:=g;have e:Nj M 5 (Ff r) (Ff s)=some (decide (r=s)):=abm M 3 r s;show Rq (Nj M 5) [.int a,.int b,Ff r] [.int c,.int d,Ff s]=_;rw[Ej (Jy M 4 a c) (Ej (Jy M 4 b d) (Ej e (show Rq (Nj M 5) [] []=some true from rfl)))];simp
theorem aow(M:di)(g:F):∀fs:List F,Rr M g.toD (fs.map F.toD)=some (fs.map λf=>decide (f=g))
 |[]=>rfl|f::fs=>by simp only[gr,Rr,bey,aow M g fs]
def aox(M:di)(g:F)(fs:List F):memD M g.toD (fs.map F.toD)=some (decide (g∈fs)):=by
 rw[memD,aow,wz]
 congr 1
 induction fs with
 |nil=>simp
 |cons f fs Z =>
  by_cases h:f=g
  .simp[h]
  .simp only[gr,List.any_cons,Z,cu,id]
   simp[h,j0 h]
noncomputable def pos(g:F):List F->Nat
 |[]=>0|f::fs=>if f=g then 0 else pos g fs+1
def a8l(M:di)(g:F)(fs:List F):adx M g.toD (fs.map F.toD)=if g∈fs then some (pos g fs)else none:=by
 rw[adx,aow,su]
 induction fs with
 |nil=>simp
 |cons f fs G =>
  rw[gr,List.findIdx?_cons,G,pos]
  by_cases h:f=g
  .simp[h]
  .by_cases Z:g∈fs<;>simp[h,j0 h,Z]
theorem abn(g:F):∀{fs:List F},g∈fs->fs[pos g fs]?=some g
 |f::fs,h=>by
  by_cases e:f=g
  .simp[pos,e]
  .have:g∈fs:=by
    rcases cu.mp h with q|q
    .exact absurd q.symm e
    .exact q
   simp[pos,e,abn g this]
def ags(G:fs.Nodup)(h:fs[i]?=some f):pos f fs=i:=by have m:f∈fs:=ao h;have g:=abn f m;obtain⟨l1,Z⟩:=ak.mp h;obtain⟨R,U⟩:=ak.mp g;exact(Ay G).mp (U.trans Z.symm)
noncomputable def F.comp(f g:F):F:=⟨f.a,g.b,f.r.map λx=>g.r.getD x 0⟩
def F.Qa(f:F):Prop:=f.a=f.b/\f.r=List.range f.r.length
instance (f:F):Decidable f.Qa:=inferInstanceAs (Decidable (_/\_))
structure Zf(sz:Nat->Nat)(f:F):Prop where
 a:f.a<3
 b:f.b<3
 len:f.r.length=sz f.a
 ran:∀x∈f.r,x<sz f.b
def Sz(sz:Nat->Nat):Prop:=∀k,1<=sz k/\sz k<=4
def Good(sz:Nat->Nat)(fs:List F):Prop:=∀f∈fs,Zf sz f
def getD_mem{r:Y3}(h:x<r.length):r.getD x 0∈r:=by rw[dj,bz h];exact o7 h
theorem Zf.comp(G:Zf sz f)(Z:Zf sz g)(h:f.b=g.a):Zf sz (f.comp g):=by
 refine⟨G.a,Z.b,by simp[F.comp,G.len],λx U=>?_⟩;obtain⟨y,R,rfl⟩:=bf.mp U;have:y<g.r.length:=by rw[Z.len,<-h];exact G.ran y R
 exact Z.ran _ (getD_mem this)
def ad5(r:Y3):(List.range r.length).map (λx=>r.getD x 0)=r:=by
 apply wu;intro i
 by_cases h:i<r.length
 .simp[h,uc h]
 .simp[Nat.le_of_not_lt h,kh]
def agt(R:Zf sz f)(G:Zf sz g)(U:f.b=g.a):(f.comp g).comp h=f.comp (g.comp h):=by
 simp only[F.comp,o8,F.mk.injEq,true_and];apply qp;intro x Z;have:x<g.r.length:=by rw[G.len,<-U];exact R.ran x Z
 simp[this]
noncomputable def idF(sz:Nat->Nat)(k:Nat):F:=⟨k,k,List.range (sz k)⟩
def abo(G:Zf sz f)(h:f.Qa):f=idF sz f.a:=by obtain⟨a,b,r⟩:=f;obtain⟨Z,U⟩:=h;have:=G.len;simp only[idF]at *;subst Z;rw[<-this,<-U]
def id_comp(Z:Zf sz f):(idF sz f.a).comp f=f:=by obtain⟨a,b,r⟩:=f;have:=Z.len;simp only[idF,F.comp]at *;rw[<-this,ad5]
def comp_id(G:Zf sz f):f.comp (idF sz f.b)=f:=by
 obtain⟨a,b,r⟩:=f;have:=G.ran;simp only[idF,F.comp,F.mk.injEq,true_and]at *
 conv=>rhs;rw[<-List.map_id r]
 apply qp;intro x Z;simp[uc (this x Z)]
def Oo(fs:List F):Prop:=∀f∈fs,∀g∈fs,f.b=g.a->f.comp g∈fs\/(f.comp g).Qa
def call_of(U:1<=m)(G:prog.fns[f]?=some Z):prog.call m f ds M=Z.run (PW (m-1)) ds M:=by obtain⟨n,rfl⟩:∃n,m=n+1:=⟨m-1,by lia⟩;simp[Prog.call,G]
def a09(n:Int)(f:Bool):Prop:=0<=n/\(f=false->n<2147483647)
def V2(t:Nat)(f:Bool)(M:di):Prop:=∃n,M[t]?=some (.lst [.int n,.bl f])/\a09 n f
structure St(t:Nat)(f:Bool)(M M':di):Prop where
 len:M.length<=M'.length
 has:V2 t f M'
 keep:∀(a:Nat)(o:MO),a≠t->M[a]?=some o->M'[a]?=some o
def St.trans(a:St t f M Z)(b:St t f Z M2):St t f M M2:=
 ⟨dz a.len b.len,b.has,λx o n h=>b.keep x o n (a.keep x o n h)⟩
def St.of(h:V2 t f M)(k:Ba M M'):St t f M M':=
 ⟨k.len,let ⟨n,a,b⟩:=h;⟨n,k _ _ a,b⟩,λa o _ e=>k a o e⟩
def Cd(hm:1<=m)(hs:V2 t f M)(Z:0<many)(hq:many<1073741824) :
 ∃(v:Nat)(U:di),prog.call m 14 [.ref t,.int many] M=.ok (.int v) U/\(v:Int)<many/\St t f M U/\U.length=M.length:=by
 obtain⟨n,h,R⟩:=hs;rw[call_of hm rfl];have hl:=ou h;have g0:=Dg hl (i:=0) (by decide) rfl;have g1:=Dg hl (i:=1) (by decide) rfl;have fin:∀n':Int,a09 n' f->St t f M (M.set t (.lst [.int n',.bl f])):=λn' o=>⟨by simp,⟨n',w6 h,o⟩,λa u e q=>by rw[um (j0 e)];exact q⟩
 have qq:many≠0:=by lia
 have c1:∀y:Int,∃v:Nat,y%many=(v:Int)/\(v:Int)<many:=λy=>by have a:=Bh y qq;have b:=Aa y Z;exact⟨(y%many).toNat,by lia,by lia⟩
 cases f with
 |true =>
  obtain⟨v,e,l⟩:=c1 n;refine⟨v,_,?_,l,fin (n/many) ⟨Int.ediv_nonneg R.1 (by lia),by simp⟩,by simp⟩;simp[Fn.run,Oa,N8,g0,g1,Z,Z9 _ _ Z hq,abh h,e]
 |false =>
  have h1:=R.1;have h2:=R.2 rfl;obtain⟨n',G⟩:∃n',(n*48271+29)%2147483647=n':=⟨_,rfl⟩;have e1:0<=n':=G▸Bh _ (by decide)
  have e2:n'<2147483647:=G▸Aa _ (by decide)
  obtain⟨x,ex⟩:∃x,(n'*n'+39373*n'+7)%2147483629=x:=⟨_,rfl⟩;have x1:0<=x:=ex▸Bh _ (by decide)
  have x2:x<2147483629:=ex▸Aa _ (by decide)
  obtain⟨y,ey⟩:∃y,(x*x+16807*x)%2147483587=y:=⟨_,rfl⟩;obtain⟨v,e,l⟩:=c1 (y/8);refine⟨v,_,?_,l,fin n' ⟨e1,λ_=>e2⟩,by simp⟩;have k:=w6 (o:=.lst [.int n',.bl false]) h;have k0:=Dg (ou k) (i:=0) (by decide) rfl;simp[Fn.run,Oa,N8,g0,g1,Z,abh h,Nx n 48271 (.inr (by decide)),G,k0,Nx n' n' (.inl (by lia)),Nx 39373 n' (.inl (by decide)),ex,Nx x x (.inl (by lia)),Nx 16807 x (.inl (by decide)),ey,Z9 _ 8 (by decide) (by decide),e]
def ai0{k:Nat}{Z:Xs}(U:1<=m):prog.call m 12 [.fz (Z.map D.int),.int k] M=.ok (.int (Z.getD k 0)) M:=by
 rw[call_of U rfl]
 by_cases G:k<Z.length
 .simp[Fn.run,Hz,Hy,aoq,G,a8j (ds:=Z.map D.int) (i:=k) (x:=.int (Z.getD k 0)) q_ (by simp[G])]
 .simp[Fn.run,Hz,Hy,aoq,G]
def aoy{k:Nat}{ns:Xs}(Z:2<=m):∃n f,prog.call m 13 [.fz (ns.map D.int),.int k] M=.ok (.ref M.length) (M++[.lst [.int n,.bl f]])/\a09 n f:=by
 rw[call_of (a_ (by decide) Z) rfl]
 by_cases h:(10:Int)^18<=ns.getD k 0
 .refine⟨ns.getD k 0-10^18,true,?_,by lia,by simp⟩
  have G:(1000000000000000000:Int)<=ns[k]?.getD 0:=by simpa using h
  simp[Fn.run,Li,Lh,ai0 (show 1<=m-1 by exact r_ Z),G,MW.new]
 .refine⟨ns.getD k 0%2147483647,false,?_,Bh _ (by decide),λ_=>Aa _ (by decide)⟩
  have G:¬(1000000000000000000:Int)<=ns[k]?.getD 0:=by simpa using h
  simp[Fn.run,Li,Lh,ai0 (show 1<=m-1 by exact r_ Z),G,MW.new]
def ai1(n:Nat)(i:Nat)(M:di)(h:i<n):(Src.con ((List.range n).map λ(k:Nat)=>D.int (k:Int))).item i M=some (.int i):=by simp[Src.item,uc h]
def ai2(n:Nat):(Src.con ((List.range n).map λ(k:Nat)=>D.int (k:Int))).len=n:=by simp[Src.len]
def aoz{K:Nat}(hm:1<=m)(hs:V2 t f M)(hK:K<=3) :
 ∃(Z:Y3)(G:di),Ie.den (PW m) [sR t,a1,a2,a3,a4,a5,sI K,a7,a8,a9,a10,a11] M=.ok (.vl (Z.map nD)) G/\Z.length=K/\(∀x∈Z,1<=x/\x<=3)/\St t f M G/\G.length=M.length:=by
 unfold Ie;rw[Nv];have U:K<=100000:=a_ hK (by decide)
 simp[U];refine hG λ_ _k=>?_
 have h:=Hx (fin:=λ_=>true) (item:=(Src.con ((List.range K).map λ(k:Nat)=>D.int (k:Int))).item)
  (body:=λd M=>((prog.call m 14 [D.ref t,D.int 3] M).bind λy M2=>Gp .add (.int 1) y M2).bind λx G=>Res.ok (some x) G)
  (λi xs G=>∃Z:List Nat,xs=Z.map nD/\Z.length=i/\(∀x∈Z,1<=x/\x<=3)/\St t f M G/\G.length=M.length) (n:=K)
  (λi xs G hi hI=>by
   refine hG λ_ _k=>?_
   obtain⟨Z,rfl,rfl,R,h2,h3⟩:=hI;obtain⟨v,M2,e,l,s2,l2⟩:=Cd hm h2.has (many:=3) (by decide) (by decide);apply _k;refine⟨.int Z.length,sI (1+v),M2,ai1 K _ G hi,by simp[e],Z++[1+v],by simp[nD],by simp,λx hx=>?_,h2.trans s2,l2.trans h3⟩;rcases dw.mp hx with q|q
   .exact R x q
   .have:x=1+v:=by simpa using q
    lia) (λ_ _ _=>rfl) K 0 [] M (uy _) ⟨[],rfl,rfl,by simp,St.of hs (Ba.refl M),rfl⟩
 obtain⟨ys,G,e,Z,R,h2,h3,h4,h5⟩:=h;apply _k;refine⟨Z,G,?_,h2,h3,h4,h5⟩;rw[z8,ai2,bx U,show(Src.con ((List.range _).map λ(k:Nat)=>D.int (k:Int))).fin=λ_=>true from rfl,e];simp at R;simp[R]
def a1a{G:Y3}(hm:1<=m)(hs:V2 t f M)(U:∀x∈G,1<=x/\x<=3)(hi:i<G.length)(hj:j<G.length) :
 ∃(r:Y3)(Z:di),Ia.den (PW m) [sR t,a1,a2,a3,a4,a5,a6,some (.vl (G.map nD)),a8,a9,sI i,sI j] M=.ok (.vl (r.map nD)) Z /\
  r.length=G.getD i 0/\(∀x∈r,x<G.getD j 0)/\St t f M Z/\Z.length=M.length:=by
 unfold Ia;rw[Nv];have gi:=Dg (M:=M) (d:=.vl (G.map nD)) (i:=i) (x:=.int ((G.getD i 0:Nat):Int)) rfl q_ (by simp[hi,nD]);have gj:∀Z,Aw (.vl (G.map nD)) (.int j) Z=some (.int ((G.getD j 0:Nat):Int)):=λZ=>Dg rfl q_ (by simp[hj,nD])
 have bi:=U _ (getD_mem hi);have bj:=U _ (getD_mem hj);generalize ea:G.getD i 0=a at *;generalize eb:G.getD j 0=b at *;have ha:a<=100000:=a_ bi.2 (by decide)
 simp[gi,gj,ha];refine hG λ_ _k=>?_
 have h:=Hx (fin:=λ_=>true) (item:=(Src.con ((List.range a).map λ(k:Nat)=>D.int (k:Int))).item)
  (body:=λd M=>(prog.call m 14 [D.ref t,D.int b] M).bind λx Z=>Res.ok (some x) Z)
  (λi xs Z=>∃r:List Nat,xs=r.map nD/\r.length=i/\(∀x∈r,x<b)/\St t f M Z/\Z.length=M.length) (n:=a)
  (λi xs Z hi hI=>by
   refine hG λ_ _k=>?_
   obtain⟨r,rfl,rfl,R,h2,U⟩:=hI;obtain⟨v,M2,e,l,s2,l2⟩:=Cd hm h2.has (many:=b) (m_ bj.1) (m_ (c_ bj.2 (by decide)));apply _k;refine⟨.int r.length,sI v,M2,ai1 a _ Z hi,by simp[e],r++[v],by simp[nD],by simp,λx hx=>?_,h2.trans s2,l2.trans U⟩;rcases dw.mp hx with q|q
   .exact R x q
   .have:x=v:=by simpa using q
    exact c_ (f_ this) (o_ l)) (λ_ _ _=>rfl) a 0 [] M (uy _) ⟨[],rfl,rfl,by simp,St.of hs (Ba.refl M),rfl⟩
 obtain⟨ys,Z,e,r,R,h2,U,h4,h5⟩:=h;apply _k;refine⟨r,Z,?_,h2,U,h4,h5⟩;rw[z8,ai2,bx ha,show(Src.con ((List.range _).map λ(k:Nat)=>D.int (k:Int))).fin=λ_=>true from rfl,e];simp at R;simp[R]
def abp{v:Nat}{G:Y3}(hm:1<=m)(hs:V2 t f M)(hK:G.length=K)(qk:1<=K)(qq:K<=3)(h3:∀x∈G,1<=x/\x<=3)(hp:M[p]?=some (.lst []))(Z:p≠t) :
 ∃(fs:List F)(qj:Env)(U:di),Ib.den (PW m) [sR t,sI v,none,none,none,none,sI K,some (.vl (G.map nD)),sR p,a9,a10,a11] M=.ok (.next,qj) U /\
  qj[8]?=some (sR p)/\U[p]?=some (.lst (fs.map F.toD))/\fs.length<=3/\Good (λk=>G.getD k 1) fs/\M.length<=U.length/\V2 t f U/\(∀(a:Nat)(o:MO),a≠t->a≠p->M[a]?=some o->U[a]?=some o):=by
 refine hG λ_ _k=>?_
 obtain⟨w,M1,e1,l1,s1,q4⟩:=Cd hm hs (many:=4) (by decide) (by decide);apply _k;unfold Ib;rw[Ub];have hw:w<=100000:=e_ (b_ (o_ l1) (by decide))
 simp[e1,hw];refine hG λ_ _k=>?_
 obtain⟨qj,U,e,fs,b9,R,Lx,rfl,h1,h2,h4,h5,h6,h7⟩:=abk (n:=w) (body:=λd ρ M=>Em.den (PW m) (ρ.set 9 (some d)) M)
  (λi ρ U=>∃(fs:List F)(b9 R Lx:Option D),ρ=[sR t,sI v,none,none,none,none,sI K,some (.vl (G.map nD)),sR p,b9,R,Lx] /\
   U[p]?=some (.lst (fs.map F.toD))/\fs.length=i/\Good (λk=>G.getD k 1) fs/\M.length<=U.length/\V2 t f U/\(∀(a:Nat)(o:MO),a≠t->a≠p->M[a]?=some o->U[a]?=some o))
  (M:=M1) ⟨[],a9,a10,a11,rfl,by simpa using s1.keep p _ Z hp,rfl,by intro f hf;simp at hf,s1.len,s1.has,λa o na _ h=>s1.keep a o na h⟩
  (λi ρ M2 hi hI=>by
   refine hG λ_ _k=>?_
   obtain⟨fs,b9,R,Lx,rfl,g1,g2,g3,g4,g5,g6⟩:=hI;obtain⟨x,M3,ex,lx,sx,q0⟩:=Cd hm g5 (many:=K) (m_ qk) (m_ (c_ qq (by decide)));obtain⟨y,M4,ey,ly,sy,qv⟩:=Cd hm sx.has (many:=K) (m_ qk) (m_ (c_ qq (by decide)));obtain⟨r,M5,er,lr,rr,sr,q3⟩:=a1a (a1:=some (.int v)) (a2:=none) (a3:=none) (a4:=none) (a5:=none) (a6:=some (.int K)) (a8:=some (.ref p)) (a9:=some (.int i)) (i:=x) (j:=y) hm sy.has h3 (b_ (o_ lx) (g_ hK)) (b_ (o_ ly) (g_ hK));have gp:=sr.keep p _ Z (sy.keep p _ Z (sx.keep p _ Z g1));apply _k;have hl:(fs.map F.toD).length<100000:=by rw[du];exact c_ (f_ g2) (b_ hi hw)
   refine⟨.next,_,M5.set p (.lst (fs.map F.toD++[F.toD ⟨x,y,r⟩])),?_,.inl rfl,fs++[⟨x,y,r⟩],sI i,sI x,sI y,rfl,?_,by simp[g2],?_,?_,?_,?_⟩
   .simp[Em,ex,ey,er,Lg gp hl,Lf (sy.keep p _ Z (sx.keep p _ Z g1)),rm,F.toD,Ff]
   .rw[w6 gp];simp
   .intro f hf
    rcases dw.mp hf with q|q
    .exact g3 f q
    .have:f=⟨x,y,r⟩:=by simpa using q
     subst this;refine⟨by show x<3;exact b_ (o_ lx) qq,by show y<3;exact b_ (o_ ly) qq,?_,?_⟩
     .show r.length=G.getD x 1
      rw[lr];simp[dj,bz (show x<G.length by exact b_ (o_ lx) (g_ hK))]
     .intro z hz
      have:=rr z hz;show z<G.getD y 1
      simp[dj,bz (show y<G.length by exact b_ (o_ ly) (g_ hK))]at this⊢;exact this
   .have:=sr.len;have:=sy.len;have:=sx.len;simp;exact a_ g4 (a_ (g_ q0) (a_ (g_ qv) (g_ q3)))
   .obtain⟨n',q1,q2⟩:=sr.has
    exact⟨n',by rw[um Z];exact q1,q2⟩
   .intro a o na nb h
    rw[um (j0 nb)];exact sr.keep a o na (sy.keep a o na (sx.keep a o na (g6 a o na nb h))))
 have e':Ca (Src.con ((List.range w).map λ(k:Nat)=>D.int (k:Int))).fin (Src.con ((List.range w).map λ(k:Nat)=>D.int (k:Int))).item (λd ρ M=>Em.den (PW m) (ρ.set 9 (some d)) M) (Src.con ((List.range w).map λ(k:Nat)=>D.int (k:Int))).len 0 [sR t,sI v,none,none,none,none,sI K,some (.vl (G.map nD)),sR p,a9,a10,a11] M1=_:=e;apply _k;exact⟨fs,[sR t,sI v,none,none,none,none,sI K,some (.vl (G.map nD)),sR p,b9,R,Lx],U,e',rfl,h1,by lia,h4,h5,h6,h7⟩
def ao0(hm:2<=m)(hs:V2 t f M):∃(d:D)(M':di)(fs:List F)(sz:Nat->Nat),prog.call m 15 [.ref t] M=.ok d M'/\gm M' d=some (fs.map F.toD)/\(∀n,d=.ref n->n≠t)/\Sz sz/\Good sz fs/\fs.length<=3/\St t f M M':=by
 have U:1<=m-1:=r_ hm
 obtain⟨v,M1,e1,l1,s1,q7⟩:=Cd U hs (many:=12) (by decide) (by decide);rw[call_of (a_ U C_) rfl]
 by_cases hv:v<7
 .have R:(v:Int)<7:=m_ hv
  have G:∀(fs:List F)(sz:Nat->Nat),Dj.run (PW (m-1)) [.ref t] M=.ok (.vl (fs.map F.toD)) M1->Sz sz->Good sz fs->fs.length<=3 ->
   ∃(d:D)(M':di)(fs:List F)(sz:Nat->Nat),Dj.run (PW (m-1)) [.ref t] M=.ok d M'/\gm M' d=some (fs.map F.toD)/\(∀n,d=.ref n->n≠t)/\Sz sz/\Good sz fs/\fs.length<=3/\St t f M M':=
   λfs sz a b c d=>⟨_,M1,fs,sz,a,rfl,λn h=>(by cases h),b,c,d,s1⟩
  have run:∀d,Aw (.vl [.vl [.tup [.int 0,.int 1,.tup [.int 0,.int 1]],.tup [.int 0,.int 1,.tup [.int 1,.int 0]]],.vl [.tup [.int 0,.int 1,.tup [.int 0,.int 0,.int 1,.int 1]],.tup [.int 0,.int 1,.tup [.int 0,.int 1,.int 0,.int 1]],.tup [.int 1,.int 0,.tup [.int 0,.int 3]]],
   .vl [.tup [.int 0,.int 0,.tup [.int 1,.int 0]]],.vl [.tup [.int 0,.int 0,.tup [.int 1,.int 2,.int 0]]],.vl [.tup [.int 0,.int 0,.tup [.int 0,.int 0]]],.vl [],.vl [.tup [.int 0,.int 1,.tup [.int 0,.int 1]],.tup [.int 1,.int 2,.tup [.int 0,.int 0,.int 1]]]]) (.int v) M1=some d ->
   Dj.run (PW (m-1)) [.ref t] M=.ok d M1:=λd hd=>by simp[Fn.run,Dj,Lj,e1,R,hd]
  have cs:v=0\/v=1\/v=2\/v=3\/v=4\/v=5\/v=6:=by lia
  rcases cs with rfl|rfl|rfl|rfl|rfl|rfl|rfl
  .refine G [⟨0,1,[0,1]⟩,⟨0,1,[1,0]⟩] (λ_=>2) ?_ (λk=>by simp) (λf Z=>?_) (by decide)
   .exact run _ rfl
   .simp at Z;rcases Z with rfl|rfl<;>exact⟨by decide,by decide,by decide,by decide⟩
  .refine G [⟨0,1,[0,0,1,1]⟩,⟨0,1,[0,1,0,1]⟩,⟨1,0,[0,3]⟩] (λk=>if k=0 then 4 else 2) ?_ (λk=>by dsimp only;split<;>omega) (λf Z=>?_) (by decide)
   .exact run _ rfl
   .simp at Z;rcases Z with rfl|rfl|rfl<;>exact⟨by decide,by decide,by decide,by decide⟩
  .refine G [⟨0,0,[1,0]⟩] (λ_=>2) ?_ (λk=>by simp) (λf Z=>?_) (by decide)
   .exact run _ rfl
   .simp at Z;subst Z;exact⟨by decide,by decide,by decide,by decide⟩
  .refine G [⟨0,0,[1,2,0]⟩] (λ_=>3) ?_ (λk=>by simp) (λf Z=>?_) (by decide)
   .exact run _ rfl
   .simp at Z;subst Z;exact⟨by decide,by decide,by decide,by decide⟩
  .refine G [⟨0,0,[0,0]⟩] (λ_=>2) ?_ (λk=>by simp) (λf Z=>?_) (by decide)
   .exact run _ rfl
   .simp at Z;subst Z;exact⟨by decide,by decide,by decide,by decide⟩
  .refine G [] (λ_=>1) ?_ (λk=>by simp) (λf Z=>?_) (by decide)
   .exact run _ rfl
   .simp at Z
  .refine G [⟨0,1,[0,1]⟩,⟨1,2,[0,0,1]⟩] (λk=>if k=1 then 3 else 2) ?_ (λk=>by dsimp only;split<;>exact⟨by decide,by decide⟩) (λf Z=>?_) (by decide)
   .exact run _ rfl
   .simp at Z;rcases Z with rfl|rfl<;>exact⟨by decide,by decide,by decide,by decide⟩
 .have R:¬(v:Int)<7:=by lia
  obtain⟨u,M2,e2,l2,s2,qk⟩:=Cd U s1.has (many:=3) (by decide) (by decide);obtain⟨K,eK,q0⟩:∃K:Nat,(1:Int)+(u:Int)=(K:Int)/\K=1+u:=⟨1+u,by lia,rfl⟩;obtain⟨J8,M3,e3,l3,r3,s3,qj⟩:=aoz (a1:=some (.int v)) (a2:=none) (a3:=none) (a4:=none) (a5:=none) (a7:=none) (a8:=none) (a9:=none) (a10:=none) (a11:=none) (K:=K) U s2.has (by lia);have qq:t<M3.length:=by obtain⟨n,h,_⟩:=s3.has;exact yo h
  have h4:V2 t f (M3++[.lst []]):=by obtain⟨n,h,o⟩:=s3.has;exact⟨n,yh h,o⟩
  obtain⟨fs,qv,M5,e5,q8,q1,q2,q3,q4,q5,q6⟩:=abp (v:=v) (K:=K) (p:=M3.length) (a9:=none) (a10:=none) (a11:=none) U h4 l3 (by lia) (by lia) r3 (by simp) (i_ qq);refine⟨.ref M3.length,M5,fs,λk=>J8.getD k 1,?_,ou q1,λn h=>by cases h;exact i_ qq,λk=>?_,q3,q2,?_⟩
  .simp[Fn.run,Dj,Lj,e1,R,e2,eK,e3,MW.new,e5,q8]
  .show 1<=J8.getD k 1/\J8.getD k 1<=4
   by_cases h:k<J8.length
   .have:=r3 _ (getD_mem h)
    simp[dj,h]at this⊢;exact⟨this.1,a_ this.2 (by decide)⟩
   .simp[dj,h]
  .refine s1.trans (s2.trans (s3.trans ⟨?_,q5,λa o na h=>q6 a o na ?_ (yh h)⟩))
   .have:=q4;simp at this;lia
   .have:=yo h;exact h_ this
structure Up(p:Nat)(M M':di):Prop where
 len:M'.length=M.length
 oth:∀a:Nat,a≠p->M'[a]?=M[a]?
def Up.refl(p:Nat)(M:di):Up p M M:=⟨rfl,λ_ _=>rfl⟩
theorem Up.trans(a:Up p M Z)(b:Up p Z M2):Up p M M2:=⟨b.len.trans a.len,λx h=>(b.oth x h).trans (a.oth x h)⟩
theorem Up.set(p:Nat)(M:di)(o:MO):Up p M (M.set p o):=⟨by simp,λa h=>um (j0 h)⟩
def Rg(h:M[p]?=some (.lst ds)):Pz M x (.ref p)=memD M x ds:=by simp[Pz,h,Bk,gm]
def Ve(f:F)(M:di):Aw f.toD (.int 0) M=some (.int f.a):=rfl
def Vf(f:F)(M:di):Aw f.toD (.int 1) M=some (.int f.b):=rfl
def ao1(f:F)(M:di):Aw f.toD (.int 2) M=some (Ff f.r):=rfl
def Oq(M:di)(r:Y3)(n:Nat):wj M (Ff r) (.tup ((List.range n).map λ(k:Nat)=>D.int (k:Int)))=some (decide (r=List.range n)):=agr M r (List.range n)
def eq_nil(M:di)(r:Y3):wj M (Ff r) (.tup [])=some (decide (r=[])):=agr M r []
def Bu(M:di)(a b:Nat):wj M (.int a) (.int b)=some (decide (a=b)):=by rw[eq_int,aiz]
def Jz(M:di)(r:Y3):rm .len [Ff r] M=.ok (.int r.length) M:=by simp[rm,Bk,Ff]
def Ot(M:di)(Z:List D):rm .tuple [.vl Z] M=.ok (.tup Z) M:=by simp[rm,Bk]
def abq(M:di)(r:Y3):rm .tuple [.vl (r.map nD)] M=.ok (Ff r) M:=Ot M _
def agu(Z:Sz sz)(h:Zf sz f):1<=f.r.length/\f.r.length<=4:=by rw[h.len];exact Z _
def avj(M:di)(r:Y3):srcOf M (Ff r)=some (.con (r.map nD)):=rfl
def ao2(M:di)(r:Y3)(h:x<r.length):Aw (Ff r) (.int x) M=some (.int (r.getD x 0)):=J2 q_ (by simp[h,nD])
def ao3(hz:Sz sz)(U:Zf sz f)(hg:Zf sz g)(h:f.b=g.a) :
 G3.den W [a0,a1,a2,a3,a4,a5,a6,some f.toD,some g.toD,a9] M=.ok (.vl ((f.comp g).r.map nD)) M:=by
 have Z:(f.r.map nD).length<=100000:=by rw[du,U.len];have:=hz f.a;exact a_ this.2 (by decide)
 unfold G3;rw[Nv];simp[ao1,avj];have:=air (M:=M) (ds:=f.r.map nD) (g:=λd=>match d with|.int i=>nD (g.r.getD i.toNat 0)|_=>.non)
  (body:=λd M=>((Res.ux (Aw (Ff g.r) d M) M).bind λx R=>Res.ok (some x) R)) Z (λd hd=>by
   obtain⟨x,hx,rfl⟩:=bf.mp hd;have G:x<g.r.length:=by rw[hg.len,<-h];exact U.ran x hx
   rw[show nD x=D.int (x:Int)from rfl,ao2 M g.r G];simp[nD])
 rw[this];simp[F.comp,nD]
def Ly(Z:List F)(f g:F):List F:=if f.b=g.a/\f.comp g∉Z/\¬(f.comp g).Qa then Z++[f.comp g]else Z
def agv(f g:F):D.tup [.int f.a,.int g.b,Ff (f.comp g).r]=(f.comp g).toD:=rfl
def Xl(hz:Sz sz)(hf:Zf sz f)(R:Zf sz g)(G:M[p]?=some (.lst (U.map F.toD)))(hl:U.length<100000) :
 ∃(b4 b9:Option D)(M':di),Cj.den W [a0,sR p,a2,a3,a4,a5,a6,some f.toD,some g.toD,a9] M=.ok (.next,[a0,sR p,a2,a3,b4,a5,a6,some f.toD,some g.toD,b9]) M' /\
  M'[p]?=some (.lst ((Ly U f g).map F.toD))/\Up p M M':=by
 by_cases h:f.b=g.a
 .have hc:=ao3 (W:=W) (M:=M) (a0:=a0) (a1:=some (.ref p)) (a2:=a2) (a3:=a3) (a4:=some (.tup [])) (a5:=a5) (a6:=a6) (a9:=a9) hz hf R h
  have hr:(f.comp g).r≠[]:=λe=>by have:=(agu hz (hf.comp R h)).1;rw[e]at this;simp at this
  have Z:(f.comp g).r.length<=100000:=by have:=(agu hz (hf.comp R h)).2;exact a_ this (by decide)
  have Jh:=aox M (f.comp g) U;have e0:(f.comp g).a=f.a:=rfl;have e1:(f.comp g).b=g.b:=rfl;have ap:=Lg (d:=(f.comp g).toD) G (by rw[du];exact hl);have qq:∃T:Res (Flow×Env),Cj.den W [a0,sR p,a2,a3,a4,a5,a6,some f.toD,some g.toD,a9] M=T/\(f.comp g∈U->T=.ok (.next,[a0,sR p,a2,a3,some (Ff (f.comp g).r),a5,a6,some f.toD,some g.toD,some (f.comp g).toD]) M)/\(f.comp g∉U->(f.comp g).Qa->T=.ok (.next,[a0,sR p,a2,a3,some (Ff (f.comp g).r),a5,a6,some f.toD,some g.toD,some (f.comp g).toD]) M) /\
   (f.comp g∉U->¬(f.comp g).Qa->T=.ok (.next,[a0,sR p,a2,a3,some (Ff (f.comp g).r),a5,a6,some f.toD,some g.toD,some (f.comp g).toD]) (M.set p (.lst ((U++[f.comp g]).map F.toD)))):=by
   refine⟨_,(by simp[-eq_int,Cj,Ve,Vf,Bu,h,hc,abq,agv,eq_nil,hr,Rg G,Jh];exact rfl),?_,?_,?_⟩
   .intro m;simp[m]
   .intro m i;simp[-eq_int,m,Ve,Vf,Bu,i.1,Jz,Z,Oq,xx i.2]
   .intro m i
    by_cases i1:(f.comp g).a=(f.comp g).b
    .have i2:¬(f.comp g).r=List.range (f.comp g).r.length:=λq=>i ⟨i1,q⟩
     simp[-eq_int,Ve,Vf,Bu,m,i1,Jz,Z,Oq,i2,Lf G,ap]
    .simp[-eq_int,Ve,Vf,Bu,m,i1,Jz,Z,Oq,Lf G,ap]
  obtain⟨T,e,k1,k2,k3⟩:=qq
  by_cases m:f.comp g∈U
  .exact⟨_,_,M,e.trans (k1 m),by rw[Ly,bw (λq=>q.2.1 m)];exact G,Up.refl p M⟩
  .by_cases i:(f.comp g).Qa
   .exact⟨_,_,M,e.trans (k2 m i),by rw[Ly,bw (λq=>q.2.2 i)];exact G,Up.refl p M⟩
   .exact⟨_,_,_,e.trans (k3 m i),by rw[Ly,bx ⟨h,m,i⟩,w6 G],Up.set _ _ _⟩
 .refine⟨some (.tup []),some (.tup [.int f.a,.int g.b,.tup []]),M,?_,by rw[Ly,bw (λq=>h q.1)];exact G,Up.refl p M⟩
  have:=agr M [] [];simp[Ff]at this;simp[-eq_int,Cj,Ve,Vf,Bu,h,this]
structure Inv(sz:Nat->Nat)(gs:List F):Prop where
 good:Good sz gs
 nd:gs.Nodup
 nid:∀f∈gs,¬f.Qa
def Inv.snoc{sz:Nat->Nat}(h:Inv sz G)(hf:Zf sz f)(hm:f∉G)(R:¬f.Qa):Inv sz (G++[f]):=by
 refine⟨λx Z=>?_,?_,λx Z=>?_⟩
 .rcases dw.mp Z with q|q
  .exact h.good x q
  .have:x=f:=by simpa using q
   exact this▸hf
 .rw[yu]
  refine⟨h.nd,by simp,λa ha b U=>?_⟩;have:b=f:=by simpa using U
  exact λe=>hm (by rw[<-this,<-e];exact ha)
 .rcases dw.mp Z with q|q
  .exact h.nid x q
  .have:x=f:=by simpa using q
   exact this▸R
def Cl2(Z:List F)(f g:F):Prop:=f.b=g.a->f.comp g∈Z\/(f.comp g).Qa
def Cl2.mono(h:Cl2 G f g)(s:G <+: Z):Cl2 Z f g:=λe=>(h e).imp (λm=>s.subset m) id
def Ou(Z:List F)(f g:F):Z <+: Ly Z f g:=by
 unfold Ly;split
 .exact List.prefix_append _ _
 .exact List.prefix_rfl
def Xm(Z:List F)(f g:F):(Ly Z f g).length<=Z.length+1:=by unfold Ly;split<;>simp
set_option tactic.hygienic true in
def ad6(h:Inv sz Y)(G:Zf sz f)(Z:Zf sz g):Inv sz (Ly Y f g):=by
 unfold Ly;split
 .rename_i q;exact h.snoc (G.comp Z q.1) q.2.1 q.2.2
 .exact h
def ai3(Z:List F)(f g:F):Cl2 (Ly Z f g) f g:=by
 intro e;unfold Ly
 by_cases m:f.comp g∈Z
 .left;split
  .exact yt _ m
  .exact m
 .by_cases i:(f.comp g).Qa
  .exact .inr i
  .left;rw[bx ⟨e,m,i⟩];simp
def Sw{Z:List F}{i:Nat}(s:Z <+: G)(h:Z[i]?=some f):G[i]?=some f:=by obtain⟨t,rfl⟩:=s;rw[dq (ak.mp h).1];exact h
def Qu{Z:List F}{i:Nat}(G:M[p]?=some (.lst (Z.map F.toD)))(h:Z[i]?=some f):Aw (.ref p) (.int i) M=some f.toD:=Dg (ou G) q_ (by simp[h])
def Lz{Z:List F}(G:M[p]?=some (.lst (Z.map F.toD))):rm .len [.ref p] M=.ok (.int Z.length) M:=by rw[len_list (ou G)];simp
def a1c{k j:Nat}(hz:Sz sz)(hi:Inv sz Z)(U:M[p]?=some (.lst (Z.map F.toD)))(hl:Z.length<90000)(hk:Z[k]?=some f)(hj:Z[j]?=some g) :
 ∃(R b7 b8 G:Option D)(M':di),G4.den W [a0,sR p,a2,a3,a4,sI k,sI j,a7,a8,a9] M=.ok (.next,[a0,sR p,a2,a3,R,sI k,sI j,b7,b8,G]) M' /\
  M'[p]?=some (.lst ((Ly (Ly Z f g) g f).map F.toD))/\Up p M M':=by
 refine hG λ_ _k=>?_
 have hf:=hi.good f (ao hk);have hg:=hi.good g (ao hj);have l1:=Xm Z f g;obtain⟨R,G,M1,e1,p1,u1⟩:=Xl (W:=W) (M:=M) (a0:=a0) (a2:=a2) (a3:=a3) (a4:=a4) (a5:=some (.int k)) (a6:=some (.int j)) (a9:=a9) hz hf hg U (b_ hl (by decide));obtain⟨c4,c9,M2,e2,p2,u2⟩:=Xl (W:=W) (M:=M1) (a0:=a0) (a2:=a2) (a3:=a3) (a4:=R) (a5:=some (.int k)) (a6:=some (.int j)) (a9:=G) hz hg hf p1 (by lia);apply _k;refine⟨c4,some g.toD,some f.toD,c9,M2,?_,p2,u1.trans u2⟩;unfold G4;rw[Ub];simp[Qu U hk,Qu U hj,srcOf,Src.len,Src.fin,Ca,Src.item,e1,e2]
def avl{k:Nat}(hz:Sz sz)(hi:Inv sz Z)(hp:M[p]?=some (.lst (Z.map F.toD)))(hl:Z.length<10000)(hk:Z[k]?=some f) :
 ∃(G:List F)(b4 b6 b7 b8 b9:Option D)(R:di),G6.den W [a0,sR p,a2,a3,a4,sI k,a6,a7,a8,a9] M=.ok (.next,[a0,sR p,a2,a3,b4,sI k,b6,b7,b8,b9]) R /\
  R[p]?=some (.lst (G.map F.toD))/\Up p M R/\Z <+: G/\Inv sz G/\G.length<=3*Z.length/\∀(j:Nat)(g:F),Z[j]?=some g->Cl2 G f g/\Cl2 G g f:=by
 unfold G6;rw[Ub];have qq:Z.length<=100000:=e_ (b_ hl (by decide))
 simp[Lz hp,qq];refine hG λ_ _k=>?_
 obtain⟨qj,R,e,G,b4,b6,b7,b8,b9,rfl,h1,h2,h3,h4,h5,h6⟩:=abk (n:=Z.length) (body:=λd ρ M=>G5.den W (ρ.set 6 (some d)) M)
  (λi ρ R=>∃(G:List F)(b4 b6 b7 b8 b9:Option D),ρ=[a0,sR p,a2,a3,b4,sI k,b6,b7,b8,b9]/\R[p]?=some (.lst (G.map F.toD))/\Up p M R/\Z <+: G/\Inv sz G/\G.length<=Z.length+2*i /\
   ∀(j:Nat)(g:F),j<i->Z[j]?=some g->Cl2 G f g/\Cl2 G g f) (ρ:=[a0,sR p,a2,a3,a4,sI k,a6,a7,a8,a9]) (M:=M)
  ⟨Z,a4,a6,a7,a8,a9,rfl,hp,Up.refl p M,List.prefix_rfl,hi,x_,λj g h=>absurd h (uf _)⟩
  (λi ρ M2 Jk hI=>by
   refine hG λ_ _k=>?_
   obtain⟨G,b4,b6,b7,b8,b9,rfl,g1,g2,g3,g4,g5,g6⟩:=hI;have gi:Z[i]?=some Z[i]:=by simp[Jk]
   obtain⟨c4,c7,c8,c9,M3,e3,p3,u3⟩:=a1c (W:=W) (M:=M2) (a0:=a0) (a2:=a2) (a3:=a3) (a4:=b4) (a7:=b7) (a8:=b8) (a9:=b9) hz g4 g1 (by lia) (Sw g3 hk) (Sw g3 gi);have hf:=g4.good f (ao (Sw g3 hk));have hg:=g4.good Z[i] (ao (Sw g3 gi));apply _k;refine⟨.next,_,M3,?_,.inl rfl,Ly (Ly G f Z[i]) Z[i] f,c4,sI i,c7,c8,c9,rfl,p3,g2.trans u3,(g3.trans (Ou _ _ _)).trans (Ou _ _ _),ad6 (ad6 g4 hf hg) hg hf,?_,?_⟩
   .simp[G5,e3]
   .have:=Xm G f Z[i]
    have:=Xm (Ly G f Z[i]) Z[i] f
    lia
   .intro j g hj U
    have pr:=(Ou G f Z[i]).trans (Ou (Ly G f Z[i]) Z[i] f);rcases Nat.lt_succ_iff_lt_or_eq.mp hj with q|q
    .exact⟨(g6 j g q U).1.mono pr,(g6 j g q U).2.mono pr⟩
    .subst q
     have:g=Z[j]:=by rw[gi]at U;exact(jk U).symm
     subst this;exact⟨(ai3 _ _ _).mono (Ou _ _ _),ai3 _ _ _⟩)
 apply _k;refine⟨G,b4,b6,b7,b8,b9,R,e,h1,h2,h3,h4,by lia,λj g hg=>h6 j g (ak.mp hg).1 hg⟩
def ao4(f:F)(i j k:Nat)(Z:Env):(Tg.names [i,j,k]).put f.toD Z=some (((Z.set i (sI f.a)).set j (sI f.b)).set k (some (Ff f.r))):=rfl
noncomputable def abr(Z:List F)(f:F):List F:=if ¬f.Qa/\f∉Z then Z++[f]else Z
def ClK(Z:List F)(k:Nat):Prop:=∀(i j:Nat)(f g:F),i<k->j<k->Z[i]?=some f->Z[j]?=some g->Cl2 Z f g
def alg(hz:Sz sz)(hf:Zf sz f)(G:M[p]?=some (.lst (gs.map F.toD)))(hl:gs.length<100000) :
 ∃M',zu.den W [a0,sR p,sI f.a,sI f.b,Ff f.r,a5,a6,a7,a8,a9] M=.ok (.next,[a0,sR p,sI f.a,sI f.b,some (Ff f.r),a5,a6,a7,a8,a9]) M' /\
  M'[p]?=some (.lst ((abr gs f).map F.toD))/\Up p M M':=by
 have Z:f.r.length<=100000:=by have:=(agu hz hf).2;exact a_ this (by decide)
 have Jh:=aox M f gs;have R:D.tup [.int f.a,.int f.b,Ff f.r]=f.toD:=rfl;have ap:=Lg (d:=f.toD) G (by rw[du];exact hl)
 by_cases i:f.Qa
 .refine⟨M,?_,by rw[abr,bw (λq=>q.1 i)];exact G,Up.refl p M⟩
  simp[-eq_int,zu,Bu,i.1,Jz,Z,Oq,xx i.2]
 .by_cases m:f∈gs
  .refine⟨M,?_,by rw[abr,bw (λq=>q.2 m)];exact G,Up.refl p M⟩
   by_cases U:f.a=f.b
   .have i2:¬f.r=List.range f.r.length:=λq=>i ⟨U,q⟩
    simp[U]at R;simp[-eq_int,zu,Bu,U,i2,Jz,Z,Oq,R,Rg G,Jh,m]
   .simp[-eq_int,zu,Bu,U,Jz,Z,Oq,R,Rg G,Jh,m]
  .refine⟨M.set p (.lst ((gs++[f]).map F.toD)),?_,by rw[abr,bx ⟨i,m⟩,w6 G],Up.set _ _ _⟩
   by_cases U:f.a=f.b
   .have i2:¬f.r=List.range f.r.length:=λq=>i ⟨U,q⟩
    simp[U]at R;simp[-eq_int,zu,Bu,U,i2,Jz,Z,Oq,R,Rg G,Jh,m,Lf G,ap]
   .simp[-eq_int,zu,Bu,U,Jz,Z,Oq,R,Rg G,Jh,m,Lf G,ap]
set_option tactic.hygienic true in
def ao5(h:Inv sz Z)(Y:Zf sz f):Inv sz (abr Z f):=by
 unfold abr;split
 .rename_i q;exact h.snoc Y q.2 q.1
 .exact h
def ao6(Z:List F)(f:F):(abr Z f).length<=Z.length+1:=by unfold abr;split<;>simp
def alh(hz:Sz sz)(hi:Inv sz gs)(hp:M[p]?=some (.lst (gs.map F.toD)))(hl:gs.length<=3) :
 ∃(qq:Env)(R:di),G7.den W [a0,sR p,a2,a3,a4,sI 0,a6,a7,a8,a9] M=.ok (.next,qq) R/\qq[1]?=some (sR p)/\∃Z:List F,R[p]?=some (.lst (Z.map F.toD))/\Up p M R/\Inv sz Z/\Z.length<=15 /\
  (Z.length<6->Oo Z)/\(gs=[]->Z=[]):=by
 unfold G7;rw[abg];refine Pg (λm ρ R=>∃(Z:List F)(k:Nat)(b4 b6 b7 b8 b9:Option D),ρ=[a0,sR p,a2,a3,b4,sI k,b6,b7,b8,b9]/\R[p]?=some (.lst (Z.map F.toD))/\Up p M R/\Inv sz Z/\Z.length<=15/\ClK Z k/\k<=5/\m=10-k/\(gs=[]->Z=[]))
  (λqq R=>qq[1]?=some (sR p)/\∃Z:List F,R[p]?=some (.lst (Z.map F.toD))/\Up p M R/\Inv sz Z/\Z.length<=15/\(Z.length<6->Oo Z)/\(gs=[]->Z=[])) ?_ agp 10 _ M (by decide)
  ⟨gs,0,a4,a6,a7,a8,a9,rfl,hp,Up.refl p M,hi,a_ hl (by decide),λi j f g h=>absurd h (uf _),jq _,rfl,id⟩
 intro m ρ M1 hI;refine hG λ_ _k=>?_
 obtain⟨Z,k,b4,b6,b7,b8,b9,rfl,g1,g2,g3,g4,g5,g6,g7,g8⟩:=hI;apply _k
 by_cases c1:k<Z.length
 .have qj:(k:Int)<(Z.length:Int):=m_ c1
  by_cases c2:Z.length<6
  .have q0:(Z.length:Int)<6:=m_ c2
   right
   refine hG λ_ _k=>?_
   obtain⟨is,d4,d6,d7,d8,d9,M2,e,p2,u2,pr,q2,l2,q3⟩:=avl (W:=W) (M:=M1) (a0:=a0) (a2:=a2) (a3:=a3) (a4:=b4) (a6:=b6) (a7:=b7) (a8:=b8) (a9:=b9) (k:=k) hz g3 g1 (c_ g4 (by decide)) (show Z[k]?=some Z[k]by simp[c1]);apply _k;refine⟨M1,.next,_,M2,10-(k+1),?_,?_,.inl rfl,by lia,is,k+1,d4,d6,d7,d8,d9,rfl,p2,g2.trans u2,q2,by lia,?_,by lia,rfl,?_⟩
   .simp[Lz g1,qj,q0]
   .simp[Mv,e]
   .intro i j f g U G hf hg
    have qk:∀(i:Nat)(f:F),i<k+1->is[i]?=some f->Z[i]?=some f:=λi f hi hf=>by
     have Jk:i<Z.length:=b_ hi c1
     have:=Sw pr (show Z[i]?=some Z[i]by simp[Jk]);rw[hf]at this;rw[this];simp[Jk]
    have qv:=qk i f U hf;have q1:=qk j g G hg
    by_cases ei:i=k
    .subst ei
     have:f=Z[i]:=by have:=qv;simp[c1]at this;exact this.symm
     subst this;exact(q3 j g q1).1
    .by_cases ej:j=k
     .subst ej
      have:g=Z[j]:=by have:=q1;simp[c1]at this;exact this.symm
      subst this;exact(q3 i f qv).2
     .exact(g5 i j f g (by lia) (by lia) qv q1).mono pr
   .intro e0
    have:=g8 e0;subst this;simp at c1
  .left
   have q0:¬(Z.length:Int)<6:=by lia
   exact⟨M1,by simp[Lz g1,qj,q0],rfl,Z,g1,g2,g3,g4,λq=>absurd q c2,g8⟩
 .left
  have qj:¬(k:Int)<(Z.length:Int):=by lia
  refine⟨M1,by simp[Lz g1,qj],rfl,Z,g1,g2,g3,g4,λ_=>?_,g8⟩;intro f hf g hg;refine hG λ_ _k=>?_
  obtain⟨i,U,ei⟩:=qm hf;obtain⟨j,G,ej⟩:=qm hg;apply _k;exact g5 i j f g (b_ U (s_ c1)) (b_ G (s_ c1)) (by simp[U,ei]) (by simp[G,ej])
def aad(hm:1<=m)(hz:Sz sz)(hg:Good sz fs)(hl:fs.length<=3)(hd:gm M d=some (fs.map F.toD)) :
 ∃(U:List F)(Z:di),prog.call m 16 [d] M=.ok (.ref M.length) Z/\Z[M.length]?=some (.lst (U.map F.toD))/\Ba M Z/\Z.length=M.length+1/\Inv sz U/\U.length<=15/\(U.length<6->Oo U)/\(fs=[]->U=[]):=by
 rw[call_of hm rfl];refine hG λ_ _k=>?_
 have qq:gm (M++[.lst []]) d=some (fs.map F.toD):=(Ba.app M _).gm hd;obtain⟨s,q3,q6,M1,e1,G,b2,b3,b4,rfl,h1,h2,h3,h4,h5⟩:=W8 (body:=λd ρ M=>match(Tg.names [2,3,4]).put d ρ with
  | some q2=>zu.den (PW (m-1)) q2 M|none=>.bad)
  (λi ρ Z=>∃(G:List F)(b2 b3 b4:Option D),ρ=[some d,sR M.length,b2,b3,b4,none,none,none,none,none]/\Z[M.length]?=some (.lst (G.map F.toD))/\Up M.length (M++[.lst []]) Z/\Inv sz G/\G.length<=i/\(fs=[]->G=[]))
  (ρ:=[some d,sR M.length,none,none,none,none,none,none,none,none]) (M:=M++[.lst []]) qq
  ⟨[],none,none,none,rfl,by simp,Up.refl _ _,⟨λf R=>by simp at R,by simp,λf R=>by simp at R⟩,by simp,λ_=>rfl⟩
  (λi ρ Z hI=>by
   refine hG λ_ _k=>?_
   obtain⟨G,b2,b3,b4,rfl,g1,g2,g3,g4,g5⟩:=hI;apply _k;cases d with
   |vl xs=>exact hd
   |ref n =>
    have hn:n≠M.length:=by
     simp only[gm]at hd;cases e:M[n]? with
     |none=>rw[e]at hd;simp at hd|some o=>have:=yo e;exact h_ this
    simp only[gm]at qq⊢;rw[g2.oth n hn];exact qq
   | _=>simp[gm]at hd)
  (λi x ρ Z hx hI=>by
   refine hG λ_ _k=>?_
   obtain⟨G,b2,b3,b4,rfl,g1,g2,g3,g4,g5⟩:=hI;obtain⟨f,R,rfl⟩:∃f,fs[i]?=some f/\f.toD=x:=by simpa using hx
   have qj:=ao R;have q4:=(ak.mp R).1;obtain⟨M2,e2,p2,u2⟩:=alg (W:=PW (m-1)) (M:=Z) (a0:=some d) (a5:=none) (a6:=none) (a7:=none) (a8:=none) (a9:=none) hz (hg f qj) g1 (c_ g4 (b_ q4 (a_ hl (by decide))));apply _k;refine⟨.next,_,M2,?_,.inl rfl,abr G f,sI f.a,sI f.b,some (Ff f.r),rfl,p2,g2.trans u2,ao5 g3 (hg f qj),?_,λe=>?_⟩
   .rw[ao4];exact e2
   .have:=ao6 G f;exact a_ this (v_ g4)
   .subst e;simp at R)
 apply _k;have qv:G.length<=3:=by simp at h4;exact a_ h4 hl
 refine hG λ_ _k=>?_
 obtain⟨q5,M2,e2,q1,U,p2,u2,qk,l2,c2,z2⟩:=alh (W:=PW (m-1)) (M:=M1) (a0:=some d) (a2:=b2) (a3:=b3) (a4:=b4) (a6:=none) (a7:=none) (a8:=none) (a9:=none) hz h3 h1 qv;have up:=h2.trans u2;apply _k;refine⟨U,M2,?_,p2,λa o h=>?_,?_,qk,l2,c2,λe=>z2 (h5 e)⟩
 .have q0:G8.den (PW (m-1)) [some d,sR M.length,none,none,none,none,none,none,none,none] (M++[.lst []])=.ok (.next,[some d,sR M.length,b2,b3,b4,none,none,none,none,none]) M1:=by
   unfold G8;rw[Ub];simp[q3];exact e1
  simp[Fn.run,Qj,Qi,MW.new,q0,e2,q1]
 .have:=yo h
  rw[up.oth a (h_ this)];exact yh h
 .rw[up.len];simp
noncomputable def eD(f:F):D:=.tup [.int f.a,.int f.b]
def Gr(Z:List F):D:=.tup (Z.map eD)
def ent(Z:List F)(f g:F):Int:=if f.comp g∈Z then(pos (f.comp g) Z:Int)else -1
noncomputable def ky(j k:Nat):List Kx:=[.inl (j:Int),.inl (k:Int)]
def agw(h:ky j k=ky Z k'):j=Z/\k=k':=by simp[ky]at h;exact⟨D_ h.1,D_ h.2⟩
def Bef(j k Z G:Nat):Prop:=Z<j\/(Z=j/\G<k)
structure Tb(hs:List F)(j k:Nat)(ie:List (List Kx×D)):Prop where
 keys:∀p∈ie,∃(j' k':Nat)(f g:F),p=(ky j' k',.int (ent hs f g))/\hs[j']?=some f/\hs[k']?=some g/\f.b=g.a/\Bef j k j' k'
 look:∀(j' k':Nat)(f g:F),hs[j']?=some f->hs[k']?=some g->f.b=g.a->Bef j k j' k'->v7 ie (ky j' k')=some (.int (ent hs f g))
 len:ie.length<=j*hs.length+k
def ali{Z:List (List Kx×D)}(h:∀p∈Z,p.1≠q):v7 Z q=none:=by unfold v7;rw[List.find?_eq_none.mpr (λp G=>by simpa using h p G)];rfl
def alj{Z:List (List Kx×D)}(h:∀p∈Z,p.1≠q):Cw Z q v=Z++[(q,v)]:=by unfold Cw;rw[bw];simp only[Ax,dm,not_exists,not_and];exact h
def abt{Z:List (List Kx×D)}(h:q≠q'):v7 (Z++[(q,v)]) q'=v7 Z q':=by
 unfold v7;rw[List.find?_append];cases e:Z.find? (λp=>decide (p.1=q'))with
 |some p=>rfl|none=>simp[h]
def abu{Z:List (List Kx×D)}(h:∀p∈Z,p.1≠q):v7 (Z++[(q,v)]) q=some v:=by unfold v7;rw[List.find?_append,List.find?_eq_none.mpr (λp G=>by simpa using h p G)];simp
def Tb.skip(h:Tb hs j k ie)(hf:hs[j]?=some f)(hg:hs[k]?=some g)(n:f.b≠g.a):Tb hs j (k+1) ie:=by
 refine⟨λp hp=>?_,λZ G U R a b c d=>?_,by have:=h.len;exact a_ this (w_ x_)⟩
 .obtain⟨Z,G,U,R,e,a,b,c,d⟩:=h.keys p hp
  exact⟨Z,G,U,R,e,a,b,c,by unfold Bef at *;lia⟩
 .by_cases q:Z=j/\G=k
  .obtain⟨rfl,rfl⟩:=q
   rw[hf]at a;rw[hg]at b;cases a;cases b;exact absurd c n
  .exact h.look Z G U R a b c (by unfold Bef at *;lia)
def Tb.fresh(h:Tb hs j k G):∀p∈G,p.1≠ky j k:=by
 intro p Z e;obtain⟨U,k',R,g',rfl,a,b,c,d⟩:=h.keys p Z;have:=agw e;unfold Bef at d
 lia
def Tb.put(h:Tb Z j k ie)(hf:Z[j]?=some f)(hg:Z[k]?=some g)(n:f.b=g.a):Tb Z j (k+1) (Cw ie (ky j k) (.int (ent Z f g))):=by
 rw[alj h.fresh];refine⟨λp hp=>?_,λG U R g' a b c d=>?_,by have:=h.len;simp;lia⟩
 .rcases dw.mp hp with q|q
  .obtain⟨G,U,R,g',e,a,b,c,d⟩:=h.keys p q
   exact⟨G,U,R,g',e,a,b,c,by unfold Bef at *;lia⟩
  .have:p=(ky j k,.int (ent Z f g)):=by simpa using q
   exact⟨j,k,f,g,this,hf,hg,n,by unfold Bef;lia⟩
 .by_cases q:G=j/\U=k
  .obtain⟨rfl,rfl⟩:=q
   rw[hf]at a;rw[hg]at b;cases a;cases b;exact abu h.fresh
  .rw[abt (λe=>q (by have:=agw e;exact⟨this.1.symm,this.2.symm⟩))]
   exact h.look G U R g' a b c (by unfold Bef at *;lia)
def Tb.next(h:Tb Z j Z.length ie):Tb Z (j+1) 0 ie:=by
 refine⟨λp hp=>?_,λG k' U R a b c d=>?_,by have:=h.len;have e:(j+1)*Z.length=j*Z.length+Z.length:=Nat.succ_mul _ _;exact a_ this (a_ (g_ e) x_)⟩
 .obtain⟨G,k',U,R,e,a,b,c,d⟩:=h.keys p hp
  exact⟨G,k',U,R,e,a,b,c,by unfold Bef at *;lia⟩
 .have:=(ak.mp b).1
  exact h.look G k' U R a b c (by unfold Bef at *;lia)
def ao7{Z:List F}{j k:Nat}(hz:Sz sz)(hf:Zf sz f)(hg:Zf sz g)(h:f.b=g.a)(R:M[q]?=some (.lst (Z.map F.toD)))(hj:Z[j]?=some f)(hk:Z[k]?=some g) :
 Fy.den W [a0,a1,sR q,a3,a4,sI j,sI k,a7] M=.ok (.vl ((f.comp g).r.map nD)) M:=by
 have G:(f.r.map nD).length<=100000:=by rw[du,hf.len];have:=hz f.a;exact a_ this.2 (by decide)
 unfold Fy;rw[Ek (ds:=f.r.map nD) (M1:=M) (g:=λd=>match d with|.int i=>nD (g.r.getD i.toNat 0)|_=>.non) (by simp[Qu R hj,ao1,Ff]) G (λx hx=>by
  obtain⟨y,hy,rfl⟩:=bf.mp hx;have U:y<g.r.length:=by rw[hg.len,<-h];exact hf.ran y hy
  exact⟨_,rfl,by simp[Qu R hk,ao1,nD,ao2 M g.r U]⟩)]
 simp[F.comp,nD]
def agx(hz:Sz sz)(hi:Inv sz Z)(hl:Z.length<=5)(G:M[q]?=some (.lst (Z.map F.toD)))(hr:M[r]?=some (.dT ie))(hj:Z[j]?=some f)(R:Z[k]?=some g)(ht:Tb Z j k ie) :
 ∃(b7:Option D)(M':di)(U:List (List Kx×D)),Bg.den W [a0,a1,sR q,a3,sR r,sI j,sI k,a7] M=.ok (.next,[a0,a1,sR q,a3,sR r,sI j,sI k,b7]) M' /\
  M'[r]?=some (.dT U)/\Tb Z j (k+1) U/\Up r M M':=by
 have qq:=(ak.mp hj).1;have q0:=(ak.mp R).1;have hf:=hi.good f (ao hj);have hg:=hi.good g (ao R)
 by_cases h:f.b=g.a
 .have hc:=ao7 (W:=W) (M:=M) (a0:=a0) (a1:=a1) (a3:=a3) (a4:=some (.ref r)) (a7:=a7) hz hf hg h G hj R
  have Jh:=aox M (f.comp g) Z;have qv:ie.length<100000:=by
   have:=ht.len;have:j*Z.length<=5*5:=Nat.mul_le_mul (e_ (b_ qq hl)) hl
   lia
  have st:=a07 (d:=.int (ent Z f g)) (b:=.tup [.int j,.int k]) hr rfl qv;refine⟨some (f.comp g).toD,_,Cw ie (ky j k) (.int (ent Z f g)),?_,w6 (o:=.dT (Cw ie (ky j k) (.int (ent Z f g)))) hr,ht.put hj R h,Up.set _ _ _⟩
  by_cases m:f.comp g∈Z
  .have qj:Hw .index (.ref q) [(f.comp g).toD] M=.ok (.int (pos (f.comp g) Z)) M:=by simp[Hw,onL,onK,W6 (ou G),a8l,m]
   have qk:P0 .index (.ref q) M=true:=by simp[P0,ou G]
   have he:ent Z f g=(pos (f.comp g) Z:Int):=bx m;rw[he]at st;simp[-eq_int,Bg,Qu G hj,Qu G R,Ve,Vf,Bu,h,hc,abq,agv,Rg G,Jh,m,qk,qj,st,he,ky]
  .have he:ent Z f g=-1:=bw m
   rw[he]at st;simp[-eq_int,Bg,Qu G hj,Qu G R,Ve,Vf,Bu,h,hc,abq,agv,Rg G,Jh,m,st,he,ky]
 .refine⟨a7,M,ie,?_,hr,ht.skip hj R h,Up.refl r M⟩
  simp[-eq_int,Bg,Qu G hj,Qu G R,Ve,Vf,Bu,h]
def a1d(hz:Sz sz)(hi:Inv sz Z)(hl:Z.length<=5)(hq:M[q]?=some (.lst (Z.map F.toD)))(hr:M[r]?=some (.dT []))(qq:q≠r) :
 ∃(G:Env)(M':di)(U:List (List Kx×D)),Ga.den W [a0,a1,sR q,a3,sR r,a5,a6,a7] M=.ok (.next,G) M'/\G[2]?=some (sR q)/\G[3]?=some a3/\G[4]?=some (sR r)/\G.length=8 /\
  M'[r]?=some (.dT U)/\Tb Z Z.length 0 U/\Up r M M':=by
 unfold Ga;have q1:∀(M':di),Up r M M'->rm .len [.ref q] M'=.ok (.int Z.length) M':=λM' u=>Lz (by rw[u.oth q qq];exact hq)
 obtain⟨G,M',e,b5,b6,R,U,rfl,h1,h2,h3⟩:=Bs (W:=W) (t:=.name 5) (b:=Fz) (it:=.blt .len (.o (.v 2))) (n:=Z.length) (ρ:=[a0,a1,sR q,a3,sR r,a5,a6,a7]) (M:=M) (M1:=M) (by simp[Lz hq]) (a_ hl (by decide))
  (λj ρ M'=>∃(b5 b6 R:Option D)(U:List (List Kx×D)),ρ=[a0,a1,sR q,a3,sR r,b5,b6,R]/\M'[r]?=some (.dT U)/\Tb Z j 0 U/\Up r M M')
  ⟨a5,a6,a7,[],rfl,hr,⟨λp hp=>by simp at hp,λj' k' f g a b c d=>by unfold Bef at d;lia,by simp⟩,Up.refl r M⟩
  (λj ρ M1 hj hI=>by
   obtain⟨b5,b6,R,U,rfl,g1,g2,g3⟩:=hI;have qj:M1[q]?=some (.lst (Z.map F.toD)):=by rw[g3.oth q qq];exact hq
   obtain⟨q2,M2,e2,c6,c7,qk,rfl,k1,k2,k3⟩:=Bs (W:=W) (t:=.name 6) (b:=Bg) (it:=.blt .len (.o (.v 2))) (n:=Z.length) (ρ:=[a0,a1,sR q,a3,sR r,sI j,b6,R]) (M:=M1) (M1:=M1) (by simp[Lz qj]) (a_ hl (by decide))
    (λk ρ M'=>∃(b6 R:Option D)(U:List (List Kx×D)),ρ=[a0,a1,sR q,a3,sR r,sI j,b6,R]/\M'[r]?=some (.dT U)/\Tb Z j k U/\Up r M1 M')
    ⟨b6,R,U,rfl,g1,g2,Up.refl r M1⟩
    (λk ρ M2 hk hI=>by
     obtain⟨b6,R,U,rfl,k1,k2,k3⟩:=hI;have q0:M2[q]?=some (.lst (Z.map F.toD)):=by rw[k3.oth q qq];exact qj
     obtain⟨c7,M3,qv,e3,p3,t3,u3⟩:=agx (W:=W) (M:=M2) (a0:=a0) (a1:=a1) (a3:=a3) (a7:=R) hz hi hl q0 k1 (show Z[j]?=some Z[j]by simp[hj]) (show Z[k]?=some Z[k]by simp[hk]) k2;exact⟨_,.next,_,M3,rfl,e3,.inl rfl,_,c7,qv,rfl,p3,t3,k3.trans u3⟩)
   exact⟨_,.next,_,M2,rfl,by simp[Fz,Ku,e2],  .inl rfl,sI j,c6,c7,qk,rfl,k1,k2.next,g3.trans k3⟩)
 exact⟨_,M',U,e,rfl,rfl,rfl,rfl,h1,h2,h3⟩
structure Ji(sz:Nat->Nat)(K:Nat)(hs:List F)(ie:List (List Kx×D)):Prop where
 hz:Sz sz
 inv:Inv sz hs
 cl:Oo hs
 len:hs.length<=5
 k1:1<=K
 k3:K<=3
 abv:∀f∈hs,f.a<K
 V3:∀f∈hs,f.b<K
 tb:Tb hs hs.length 0 ie
theorem ad7:∀(Z:Y3)(a:Nat),∃v:Nat,(Z.map λ(x:Nat)=>(x:Int)).foldl (λm x=>if m<x then x else m) (a:Int)=(v:Int)/\a<=v/\(∀x∈Z,x<=v)/\(v=a\/v∈Z)
 |[],a=>⟨a,rfl,bh _,by simp,.inl rfl⟩
 |x::Z,a=>by
  refine hG λ_ _k=>?_
  obtain⟨v,e,G,R,h3⟩:=ad7 Z (if a<x then x else a);apply _k;refine⟨v,?_,?_,λy U=>?_,?_⟩
  .rw[gr,yj,<-e]
   congr 1
   by_cases q:a<x
   .have:(a:Int)<(x:Int):=m_ q
    simp[q]
   .have:¬(a:Int)<(x:Int):=by lia
    simp[q]
  .split at G<;>omega
  .rcases cu.mp U with q|q
   .subst q;split at G<;>omega
   .exact R y q
  .rcases h3 with q|q
   .by_cases w:a<x
    .right;rw[bx w]at q;subst q;simp
    .left;rw[bw w]at q;exact q
   .right;exact bc _ q
theorem ad8:∀Z:List Nat,Z7 (Z.map nD)=some (Z.map λ(x:Nat)=>(x:Int))
 |[]=>rfl|x::Z=>by simp[nD,Z7,show Z7 (Z.map nD)=_ from ad8 Z]
def ao8(h:xs≠[]):∃v:Nat,rm .max [.vl (xs.map nD)] M=.ok (.int v) M/\(∀x∈xs,x<=v)/\v∈xs:=by
 refine hG λ_ _k=>?_
 obtain⟨a,r,rfl⟩:∃a r,xs=a::r:=List.exists_cons_of_ne_nil h;obtain⟨v,e,G,R,U⟩:=ad7 r a;apply _k;refine⟨v,?_,λx Z=>?_,?_⟩
 .have:=ad8 (a::r)
  simp only[rm,avf,ale,su,this];simp only[gr,a0x,su,wz,Res.Dt,e]
 .rcases cu.mp Z with q|q
  .subst q;exact G
  .exact R x q
 .rcases U with q|q
  .rw[q];simp
  .exact bc _ q
def max2(a b:Nat):rm .max [.int a,.int b] M=.ok (nD (max a b)) M:=by
 by_cases h:a<b
 .have Z:(a:Int)<b:=m_ h
  have e:max a b=b:=by lia
  simp[rm,h,nD,e]
 .have Z:¬(a:Int)<b:=by lia
  have e:max a b=a:=by lia
  simp[rm,h,nD,e]
noncomputable def toF:D->F
 |.tup [.int a,.int b,.tup r]=>⟨a.toNat,b.toNat,r.map λd=>match d with|.int i=>i.toNat|_=>0⟩
 |_=>⟨0,0,[]⟩
def We(f:F):toF f.toD=f:=by
 obtain⟨a,b,r⟩:=f;show F.mk a b ((r.map nD).map λd=>match d with|.int i=>i.toNat|_=>0)=F.mk a b r;rw[o8]
 conv=>rhs;rw[<-List.map_id r]
 exact mq _ (qp λx _=>rfl)
def ao9{Z:List F}(U:Z.length<=100000)(G:M[q]?=some (.lst (Z.map F.toD))) :
 Gb.den W [a0,a1,sR q,a3,a4,a5,a6,a7] M=.ok (.vl ((Z.map λf=>max f.a f.b).map nD)) M:=by
 unfold Gb;rw[Bc (d:=.ref q) (ds:=Z.map F.toD) (M1:=M) (g:=λd=>nD (max (toF d).a (toF d).b)) (by simp) (ou G) (by simpa using U) (λx R=>by
  refine hG λ_ _k=>?_
  obtain⟨f,hf,rfl⟩:=bf.mp R;apply _k;exact⟨_,ao4 _ _ _ _ _,by simp[max2,We]⟩)]
 simp[We]
def alk{G:List F}(U:R[2]?=some (sR q))(Z:R.length=8)(hl:G.length<=100000)(hq:M[q]?=some (.lst (G.map F.toD))) :
 Fw.den W R M=.ok (.vl (G.map eD)) M:=by
 unfold Fw;rw[Bc (d:=.ref q) (ds:=G.map F.toD) (M1:=M) (g:=λd=>eD (toF d)) (by simp[U]) (ou hq) (by simpa using hl) (λx hx=>by
  refine hG λ_ _k=>?_
  obtain⟨f,hf,rfl⟩:=bf.mp hx;apply _k;refine⟨_,ao4 _ _ _ _ _,?_⟩;rw[We];simp[eD,List.getElem?_set,Z])]
 simp[We]
def alm(hm:1<=m)(hz:Sz sz)(qj:V2 t f M)(hg:Good sz fs)(hl:fs.length<=3)(hd:gm M d=some (fs.map F.toD))(hq:M[q]?=some (.lst (hs.map F.toD)))(q1:q≠t)(hi:Inv sz hs)(qk:hs.length<=15)(hc:hs.length<6->Oo hs)(h0:fs=[]->hs=[]) :
 ∃(G:Env)(M':di),Ge.den (PW m) [sR t,some d,sR q,a3,a4,a5,a6,a7] M=.ok (.next,G) M'/\∃(d':D)(R:Nat)(Z:List F),G=[sR t,some d',sR R,a3,a4,a5,a6,a7] /\
  M'[R]?=some (.lst (Z.map F.toD))/\R≠t/\Inv sz Z/\Z.length<=5/\Oo Z/\Ba M M':=by
 unfold Ge;rw[abg];refine Pg (λn ρ M'=>∃(d:D)(fs hs:List F)(q:Nat),ρ=[sR t,some d,sR q,a3,a4,a5,a6,a7]/\fs.length=n/\Good sz fs/\fs.length<=3/\gm M' d=some (fs.map F.toD)/\M'[q]?=some (.lst (hs.map F.toD))/\q≠t /\
  Inv sz hs/\hs.length<=15/\(hs.length<6->Oo hs)/\(fs=[]->hs=[])/\Ba M M')
  (λG M'=>∃(d':D)(R:Nat)(Z:List F),G=[sR t,some d',sR R,a3,a4,a5,a6,a7]/\M'[R]?=some (.lst (Z.map F.toD))/\R≠t/\Inv sz Z/\Z.length<=5/\Oo Z/\Ba M M') ?_ agp fs.length _ M (by unfold agp;exact c_ hl (by decide))
  ⟨d,fs,hs,q,rfl,rfl,hg,hl,hd,hq,q1,hi,qk,hc,h0,Ba.refl M⟩
 intro n ρ M1 hI;refine hG λ_ _k=>?_
 obtain⟨d,fs,hs,q,rfl,rfl,g1,g2,g3,g4,g5,g6,g7,g8,g9,U⟩:=hI;apply _k
 by_cases c:5<hs.length
 .right
  refine hG λ_ _k=>?_
  have c':(5:Int)<(hs.length:Int):=m_ c
  have Uy:fs≠[]:=λe=>by rw[g9 e]at c;simp at c
  have q2:1<=fs.length:=List.length_pos_iff.mpr Uy
  have q0:U0 d none (some (-1)) M1=some (.vl (fs.dropLast.map F.toD)):=by
   have qq:W3 (fs.map F.toD) none (some (-1))=fs.dropLast.map F.toD:=by
    have e2:((-1:Int)+(fs.length:Int)).toNat=fs.length-1:=by lia
    simp[W3,clip,e2,List.map_dropLast,List.dropLast_eq_take]
   cases d with
   |tup ds=>simp[gm]at g3|vl ds=>simp only[U0,g3,wz,qq]|ref n=>simp only[U0,g3,wz,qq]|_=>simp[gm]at g3
  have gd:Good sz fs.dropLast:=λf hf=>g1 f (List.dropLast_subset fs hf)
  obtain⟨Z,M2,e,p2,k2,l2,i2,b2,c2,z2⟩:=aad (M:=M1) (m:=m) (d:=.vl (fs.dropLast.map F.toD)) hm hz gd (by simp;exact a_ g2 (by decide)) rfl;have qv:t<M1.length:=by obtain⟨n,h,_⟩:=qj;exact yo (U t _ h)
  apply _k;refine⟨M1,.next,_,M2,fs.length-1,?_,?_,.inl rfl,by lia,.vl (fs.dropLast.map F.toD),fs.dropLast,Z,M1.length,rfl,by simp,gd,by simp;exact a_ g2 (by decide),rfl,p2,i_ qv,i2,b2,c2,z2,U.trans k2⟩
  .simp[Lz g4,c']
  .simp[-List.map_dropLast,Kv,q0,e]
 .left
  have c':¬(5:Int)<(hs.length:Int):=by lia
  exact⟨M1,by simp[Lz g4,c'],d,q,hs,rfl,g4,g5,g6,s_ c,g8 (c_ (s_ c) (by decide)),U⟩
def agy(hm:3<=m)(qj:V2 t f M):∃(K r:Nat)(sz:Nat->Nat)(hs:List F)(ie:List (List Kx×D))(M':di),prog.call m 17 [.ref t] M=.ok (.tup [.int K,Gr hs,.ref r]) M'/\M'[r]?=some (.dT ie)/\M.length<=r/\Ji sz K hs ie/\St t f M M':=by
 rw[call_of (a_ (by decide) hm) rfl];have zw:t<M.length:=by obtain⟨n,h,_⟩:=qj;exact yo h
 refine hG λ_ _k=>?_
 obtain⟨d,M1,fs,sz,e1,d1,n1,hz,g1,l1,s1⟩:=ao0 (m:=m-1) (r_ hm) qj;obtain⟨hs,M2,e2,p2,k2,zk,i2,b2,c2,z2⟩:=aad (M:=M1) (m:=m-1) (d:=d) (r_ (a_ (by decide) hm)) hz g1 l1 d1;apply _k;have q7:t<M1.length:=by obtain⟨n,h,_⟩:=s1.has;exact yo h
 refine hG λ_ _k=>?_
 have s2:St t f M1 M2:=St.of s1.has k2;obtain⟨z0,M3,e3,d',q,Z,rfl,p3,q3,i3,l3,c3,k3⟩:=alm (M:=M2) (m:=m-1) (t:=t) (f:=f) (d:=d) (fs:=fs) (hs:=hs) (q:=M1.length) (a3:=none) (a4:=none) (a5:=none) (a6:=none) (a7:=none) (r_ (a_ (by decide) hm)) hz s2.has g1 l1 (k2.gm d1) p2 (i_ q7) i2 b2 c2 z2;have s3:St t f M2 M3:=St.of s2.has k3;have q5:=s1.trans (s2.trans s3);apply _k;refine hG λ_ _k=>?_
 have qk:=ao9 (W:=PW (m-1)) (M:=M3) (a0:=some (.ref t)) (a1:=some d') (a3:=none) (a4:=none) (a5:=none) (a6:=none) (a7:=none) (by exact a_ l3 (by decide):Z.length<=100000) p3;obtain⟨v,ev,q0,zq⟩:=ao8 (M:=M3) (xs:=(Z.map λf:F=>max f.a f.b)++[0]) (by simp);have U:Gp .add (.vl ((Z.map λf:F=>max f.a f.b).map nD)) (.vl [.int 0]) M3=.ok (.vl (((Z.map λf:F=>max f.a f.b)++[0]).map nD)) M3:=by rw[aaa _ _ (by simp;exact a_ l3 (by decide))];simp[nD]
 generalize hX:(D.vl ((Z.map λf:F=>max f.a f.b).map nD))=X at qk U;generalize hY:(D.vl (((Z.map λf:F=>max f.a f.b)++[0]).map nD))=Y at ev U;have zv:v<=2:=by
  rcases dw.mp zq with w|w
  .refine hG λ_ _k=>?_
   obtain⟨x,R,rfl⟩:=bf.mp w;apply _k;have:=(i3.good x R).a;have:=(i3.good x R).b;lia
  .simp at w;exact a_ (f_ w) (jq _)
 have qv:wj M3 (.ref q) (.vl [])=some (decide (Z=[])):=by
  simp only[wj];cases Z with
  |nil=>simp[Nj,gm,p3,Rq]|cons a l=>simp[Nj,gm,p3]
 apply _k;refine hG λ_ _k=>?_
 obtain⟨K,G,hK,k1,q6,ka,kb,p4,s4,l4⟩:∃(K:Nat)(G:di),
  (Ce.iff (.cmp .eq (.v 2) (.K8 .nil)) (.o (.asg (.tg (.name 3)) (.bin .add (.i 1) (.call 14 (.p (.v 0) (.i 3)))))) .nil).den (PW (m-1)) [sR t,some d',sR q,sI (1+(v:Int)),none,none,none,none] M3
   = .ok (.next,[sR t,some d',sR q,sI K,none,none,none,none]) G/\1<=K/\K<=3/\(∀f∈Z,f.a<K)/\(∀f∈Z,f.b<K)/\G[q]?=some (.lst (Z.map F.toD))/\St t f M3 G/\G.length=M3.length:=by
  by_cases he:Z=[]
  .refine hG λ_ _k=>?_
   obtain⟨w,G,ew,lw,sw,q2⟩:=Cd (m:=m-1) (r_ (a_ (by decide) hm)) s3.has (many:=3) (by decide) (by decide);apply _k;refine⟨1+w,G,?_,x_,by lia,by simp[he],by simp[he],sw.keep q _ q3 p3,sw,q2⟩;simp[qv,he,ew]
  .refine⟨1+v,M3,?_,x_,by lia,λx R=>?_,λx R=>?_,p3,St.of s3.has (Ba.refl _),rfl⟩
   .simp[qv,he]
   .have:=q0 (max x.a x.b) (yt _ (bf.mpr ⟨x,R,rfl⟩));lia
   .have:=q0 (max x.a x.b) (yt _ (bf.mpr ⟨x,R,rfl⟩));lia
 have p5:(G++[.dT []])[q]?=some (.lst (Z.map F.toD)):=yh p4;have qq:=yo p4;obtain⟨zz,M6,ie,e6,r2,r3,r4,r8,p6,t6,u6⟩:=a1d (W:=PW (m-1)) (M:=G++[.dT []]) (q:=q) (r:=G.length) (a0:=some (.ref t)) (a1:=some d') (a3:=some (.int K)) (a5:=none) (a6:=none) (a7:=none) hz i3 l3 p5 (by simp) (h_ qq);apply _k;have q4:M6[q]?=some (.lst (Z.map F.toD)):=by rw[u6.oth q (h_ qq)];exact p5
 have q8:=alk (W:=PW (m-1)) (M:=M6) r2 r8 (by exact a_ l3 (by decide):Z.length<=100000) q4;have q1:=q5.trans s4;refine⟨K,G.length,sz,Z,ie,M6,?_,p6,q1.len,⟨hz,i3,c3,l3,k1,q6,ka,kb,t6⟩,?_⟩
 .simp only[Fn.run,Oc,Ob]
  simp[-a8d,e1,e2,e3,qk,U,ev,hK,MW.new,e6,r3,r4,q8,Ot,Gr]
 .refine q1.trans ⟨?_,?_,λa o na h=>?_⟩
  .rw[u6.len];simp
  .obtain⟨n,h,o⟩:=s4.has
   exact⟨n,by rw[u6.oth t (by have:=yo h;exact h_ this)];exact yh h,o⟩
  .rw[u6.oth a (by have:=yo h;exact h_ this)];exact yh h
noncomputable def pD(p:Nat×Nat):D:=.tup [.int p.1,.int p.2]
def Meet(Z:List F)(j k:Nat):Prop:=∃f g,Z[j]?=some f/\Z[k]?=some g/\f.b=g.a
structure Ps(hs:List F)(j k:Nat)(ps:List (Nat×Nat)):Prop where
 all:∀p:Nat×Nat,p∈ps↔Meet hs p.1 p.2/\Bef j k p.1 p.2
 len:ps.length<=j*hs.length+k
def Ps.skip(h:Ps Z j k ps)(U:Z[j]?=some f)(G:Z[k]?=some g)(n:f.b≠g.a):Ps Z j (k+1) ps:=by
 refine⟨λp=>?_,by have:=h.len;exact a_ this (w_ x_)⟩;rw[h.all p];constructor
 .exact λq=>⟨q.1,by have:=q.2;unfold Bef at *;lia⟩
 .intro q
  refine⟨q.1,?_⟩;have R:=q.2
  by_cases e:p.1=j/\p.2=k
  .refine hG λ_ _k=>?_
   obtain⟨f',g',a,b,c⟩:=q.1;rw[e.1,U]at a;rw[e.2,G]at b;cases a;cases b;apply _k;exact absurd c n
  .unfold Bef at *;lia
def Ps.put(h:Ps Z j k ps)(U:Z[j]?=some f)(G:Z[k]?=some g)(n:f.b=g.a):Ps Z j (k+1) (ps++[(j,k)]):=by
 refine⟨λp=>?_,by have:=h.len;simp;lia⟩;rw[dw,h.all p,uv];constructor
 .rintro(q|q)
  .exact⟨q.1,by have:=q.2;unfold Bef at *;lia⟩
  .subst q;exact⟨⟨f,g,U,G,n⟩,by unfold Bef;lia⟩
 .intro q
  by_cases e:p.1=j/\p.2=k
  .right;exact Prod.ext e.1 e.2
  .left;exact⟨q.1,by have:=q.2;unfold Bef at *;lia⟩
def Ps.next(h:Ps Z j Z.length ps):Ps Z (j+1) 0 ps:=by
 refine⟨λp=>?_,by have:=h.len;have e:(j+1)*Z.length=j*Z.length+Z.length:=Nat.succ_mul _ _;exact a_ this (a_ (g_ e) x_)⟩;rw[h.all p];constructor
 .exact λq=>⟨q.1,by have:=q.2;unfold Bef at *;lia⟩
 .intro q
  refine⟨q.1,?_⟩;refine hG λ_ _k=>?_
  obtain⟨f,g,a,b,c⟩:=q.1;have:=(ak.mp b).1;have:=q.2;apply _k;unfold Bef at *;lia
def Xn(f:F)(M:di):Aw (eD f) (.int 0) M=some (.int f.a):=rfl
def Xo(f:F)(M:di):Aw (eD f) (.int 1) M=some (.int f.b):=rfl
def Vg{i:Nat}(h:Z[i]?=some f):Aw (Gr Z) (.int i) M=some (eD f):=J2 q_ (by simp[h])
def Ov:rm .len [Gr Z] M=.ok (.int Z.length) M:=by simp[rm,Bk,Gr]
def Ja(x y:D)(i j:Nat)(Z:Env):(Tg.names [i,j]).put (.tup [x,y]) Z=some ((Z.set i (some x)).set j (some y)):=rfl
def ad9(hl:G.length<=5)(U:M[q]?=some (.lst (ps.map pD)))(hj:G[j]?=some f)(R:G[k]?=some g)(hp:Ps G j k ps) :
 ∃(M':di)(Z:List (Nat×Nat)),Bt.den W [a0,sR q,sI j,eD f,sI k,eD g] M=.ok (.next,[a0,sR q,sI j,some (eD f),sI k,some (eD g)]) M' /\
  M'[q]?=some (.lst (Z.map pD))/\Ps G j (k+1) Z/\Up q M M':=by
 have qq:=(ak.mp hj).1;have qj:=(ak.mp R).1
 by_cases h:f.b=g.a
 .have Jg:(ps.map pD).length<100000:=by
   have:=hp.len;have:j*G.length<=5*5:=Nat.mul_le_mul (e_ (b_ qq hl)) hl
   rw[du];lia
  have ap:=Lg (d:=.tup [.int j,.int k]) U Jg;refine⟨M.set q (.lst ((ps++[(j,k)]).map pD)),ps++[(j,k)],?_,w6 U,hp.put hj R h,Up.set _ _ _⟩;simp[-eq_int,Bt,Xn,Xo,Bu,h,Lf U,ap,pD]
 .refine⟨M,ps,?_,U,hp.skip hj R h,Up.refl q M⟩
  simp[-eq_int,Bt,Xn,Xo,Bu,h]
def Xp(hm:1<=m)(hl:hs.length<=5) :
 ∃(M':di)(Z:List (Nat×Nat)),prog.call m 7 [Gr hs] M=.ok (.ref M.length) M'/\M'[M.length]?=some (.lst (Z.map pD))/\Ps hs hs.length 0 Z/\Up M.length (M++[.lst []]) M':=by
 rw[call_of hm rfl];refine hG λ_ _k=>?_
 obtain⟨qk,M',e,b2,b3,U,G,Z,rfl,h1,h2,h3⟩:=Ny (W:=PW (m-1)) (t:=.names [2,3]) (b:=El) (it:=.v 0) (ds:=hs.map eD) (ρ:=[Gr hs,sR M.length,none,none,none,none]) (M:=M++[.lst []]) (M1:=M++[.lst []]) (by simp[Gr])
  (λj R M'=>∃(b2 b3 U G:Option D)(Z:List (Nat×Nat)),R=[some (Gr hs),sR M.length,b2,b3,U,G]/\M'[M.length]?=some (.lst (Z.map pD))/\Ps hs j 0 Z/\Up M.length (M++[.lst []]) M')
  ⟨none,none,none,none,[],rfl,by simp,⟨λp=>by simp[Bef],by simp⟩,Up.refl _ _⟩
  (λj x R M1 hj hI=>by
   refine hG λ_ _k=>?_
   obtain⟨b2,b3,U,G,Z,rfl,g1,g2,g3⟩:=hI;obtain⟨f,hf,rfl⟩:∃f,hs[j]?=some f/\eD f=x:=by simpa using hj
   obtain⟨qv,M2,e2,c4,c5,qq,rfl,k1,k2,k3⟩:=Ny (W:=PW (m-1)) (t:=.names [4,5]) (b:=Bt) (it:=.v 0) (ds:=hs.map eD) (ρ:=[Gr hs,sR M.length,sI j,eD f,U,G]) (M:=M1) (M1:=M1) (by simp[Gr])
    (λk R M'=>∃(U G:Option D)(Z:List (Nat×Nat)),R=[some (Gr hs),sR M.length,sI j,some (eD f),U,G]/\M'[M.length]?=some (.lst (Z.map pD))/\Ps hs j k Z/\Up M.length M1 M')
    ⟨U,G,Z,rfl,g1,g2,Up.refl _ _⟩
    (λk y R M2 hk hI=>by
     refine hG λ_ _k=>?_
     obtain⟨U,G,Z,rfl,k1,k2,k3⟩:=hI;obtain⟨g,hg,rfl⟩:∃g,hs[k]?=some g/\eD g=y:=by simpa using hk
     obtain⟨M3,qj,e3,p3,t3,u3⟩:=ad9 (W:=PW (m-1)) (M:=M2) (a0:=some (Gr hs)) hl k1 hf hg k2;apply _k;exact⟨_,.next,_,M3,Ja _ _ _ _ _,e3,.inl rfl,sI k,some (eD g),qj,rfl,p3,t3,k3.trans u3⟩)
   rw[du]at k2;apply _k;exact⟨_,.next,_,M2,Ja _ _ _ _ _,by simp[El,Jq,e2],.inl rfl,sI j,some (eD f),c4,c5,qq,rfl,k1,k2.next,g3.trans k3⟩)
 rw[du]at h2;apply _k;refine⟨M',Z,?_,h1,h2,h3⟩;simp[Fn.run,Mt,Ms,MW.new,Jr,e]
def bothW(G:List F)(Z:List (List Kx×D))(x y:Int):Option D:=if x=-1 then some (.int y)else if y=-1 then some (.int x)else v7 Z [.inl x,.inl y]
def abw(hm:1<=m)(R:M[r]?=some (.dT U))(h:bothW hs U x y=some v):prog.call m 6 [.ref r,.int x,.int y] M=.ok v M:=by
 rw[call_of hm rfl];unfold bothW at h
 by_cases Z:x=-1
 .rw[bx Z]at h;cases h
  simp[Fn.run,Jp,Jo,Z]
 .rw[bw Z]at h
  by_cases G:y=-1
  .rw[bx G]at h;cases h
   simp[Fn.run,Jp,Jo,Z,G]
  .rw[bw G]at h
   simp[Fn.run,Jp,Jo,Z,G,adz R (aab x y),h]
def aln(Z:List F)(c:F):Int:=if c∈Z then(pos c Z:Int)else -1
def J9(Z:List F)(f g:F):ent Z f g=aln Z (f.comp g):=rfl
def ai4(Z:hs.Nodup){i:Nat}(h:hs[i]?=some f):aln hs f=i:=by have m:f∈hs:=ao h;rw[aln,bx m,ags Z h]
def Ug:∀k:List Kx,V1 (aoc k)=some k:=by
 intro k;show abd (k.map aob)=some k
 induction k with
 |nil=>rfl|cons a l Z=>cases a<;>simp[abd,aob,V0,Z]
theorem aea:∀Z:List (List Kx×D),Eg (Z.map λp=>aoc p.1)=some (Z.map (·.1))
 |[]=>rfl|p::l=>by simp[Eg,Ug,aea l]
theorem aeb:∀Z:List (Nat×Nat),Eg (Z.map pD)=some (Z.map λp=>ky p.1 p.2)
 |[]=>rfl|p::l=>by simp[Eg,pD,aeb l,ky]
def apa{Z:List (List Kx×D)}(h:v7 Z q=some v):∃p∈Z,p.1=q:=by
 unfold v7 at h;cases e:Z.find? (λp=>decide (p.1=q))with
 |none=>rw[e]at h;cases h|some p=>exact⟨p,List.mem_of_find?_eq_some e,by simpa using List.find?_some e⟩
section
variable{sz:Nat->Nat}{K:Nat}{hs:List F}{ie:List (List Kx×D)}(P:Ji sz K hs ie)
include P
theorem Ji.look(Z:hs[j]?=some f)(G:hs[k]?=some g)(h:f.b=g.a):v7 ie (ky j k)=some (.int (ent hs f g)):=
 P.tb.look j k f g Z G h (.inl (ak.mp Z).1)
theorem Ji.no(h:¬Meet hs j k):v7 ie (ky j k)=none:=by apply ali;intro p Z e;obtain⟨U,G,f,g,rfl,a,b,c,_⟩:=P.tb.keys p Z;obtain⟨rfl,rfl⟩:=agw e;exact h ⟨f,g,a,b,c⟩
theorem Ji.kl:ie.length<=25:=by
 have:=P.tb.len;have:hs.length*hs.length<=5*5:=Nat.mul_le_mul P.len P.len
 lia
theorem Ji.plain:Eh (ie.map (·.1))=true:=by have:=P.kl;simp only[Eh,du,aq,dm];refine⟨a_ this (by decide),?_⟩;rw[jb];intro k G;obtain⟨p,Z,rfl⟩:=bf.mp G;obtain⟨j,k,f,g,rfl,_⟩:=P.tb.keys p Z;simp[ky]
theorem Ji.sm:ago ie=true:=by
 unfold ago;rw[jb];intro p Z;obtain⟨j,k,f,g,rfl,a,b,_⟩:=P.tb.keys p Z;have:=(ak.mp a).1;have:=(ak.mp b).1;have:=P.len;simp[ky]
 lia
theorem Ji.same(h:Ps hs hs.length 0 ps):Jl (ie.map (·.1)) (ps.map λp=>ky p.1 p.2)=true:=by
 unfold Jl;rw[aq,jb,jb];constructor
 .intro x R
  obtain⟨p,Z,rfl⟩:=bf.mp R;obtain⟨j,k,f,g,rfl,a,b,c,d⟩:=P.tb.keys p Z;rw[Ax];exact⟨ky j k,bf.mpr ⟨(j,k),(h.all (j,k)).mpr ⟨⟨f,g,a,b,c⟩,d⟩,rfl⟩,by simp⟩
 .intro y U
  obtain⟨p,Z,rfl⟩:=bf.mp U;obtain⟨⟨f,g,a,b,c⟩,d⟩:=(h.all p).mp Z;obtain⟨q,G,e⟩:=apa (P.look a b c);rw[Ax];exact⟨q.1,bf.mpr ⟨q,G,rfl⟩,by simp[e]⟩
theorem Ji.Dd(h:c∈hs\/c.Qa):(aln hs c=-1/\c.Qa)\/∃i:Nat,hs[i]?=some c/\aln hs c=i:=by
 by_cases m:c∈hs
 .exact .inr ⟨pos c hs,abn c m,bx m⟩
 .exact .inl ⟨bw m,h.resolve_left m⟩
theorem Ji.apb{j k l:Nat}(hj:hs[j]?=some f)(hk:hs[k]?=some g)(hl:hs[l]?=some h)(U:f.b=g.a)(e2:g.b=h.a) :
 ∃v:Int,bothW hs ie (ent hs f g) l=some (.int v)/\bothW hs ie j (ent hs g h)=some (.int v):=by
 have mf:=ao hj;have mg:=ao hk;have mh:=ao hl;have of:=P.inv.good f mf;have og:=P.inv.good g mg;have oh:=P.inv.good h mh;have as:=agt (h:=h) of og U;rw[J9,J9];have nj:¬((j:Int)=-1):=by lia
 have nl:¬((l:Int)=-1):=by lia
 rcases P.Dd (P.cl f mf g mg U)with⟨x1,i1⟩|⟨u,hu,x1⟩
 .have c1:=abo (of.comp og U) i1
  have ha:f.a=g.b:=i1.1;have G:(f.comp g).comp h=h:=by rw[c1];show(idF sz f.a).comp h=h;rw[ha,e2];exact id_comp oh
  rcases P.Dd (P.cl g mg h mh e2)with⟨R,i2⟩|⟨w,hw,R⟩
  .have c2:=abo (og.comp oh e2) i2
   have Z:f.comp (g.comp h)=f:=by rw[c2];show f.comp (idF sz g.a)=f;rw[<-U];exact comp_id of
   have fh:f=h:=by rw[<-Z,<-as,G]
   have jl:j=l:=by rw[<-ags P.inv.nd hj,<-ags P.inv.nd hl,fh]
   refine⟨l,by simp[bothW,x1],?_⟩;rw[R,bothW,bw nj,bx rfl,jl]
  .have nw:¬((w:Int)=-1):=by lia
   refine⟨l,by simp[bothW,x1],?_⟩;rw[R,bothW,bw nj,bw nw];have:=P.look hj hw (show f.b=(g.comp h).a from U);rw[J9,<-as,G,ai4 P.inv.nd hl]at this;exact this
 .have nu:¬((u:Int)=-1):=by lia
  have lu:=P.look hu hl (show(f.comp g).b=h.a from e2);rcases P.Dd (P.cl g mg h mh e2)with⟨R,i2⟩|⟨w,hw,R⟩
  .have c2:=abo (og.comp oh e2) i2
   have Z:f.comp (g.comp h)=f:=by rw[c2];show f.comp (idF sz g.a)=f;rw[<-U];exact comp_id of
   refine⟨j,?_,?_⟩
   .rw[x1,bothW,bw nu,bw nl]
    rw[J9,as,Z,ai4 P.inv.nd hj]at lu;exact lu
   .rw[R,bothW,bw nj,bx rfl]
  .have nw:¬((w:Int)=-1):=by lia
   refine⟨aln hs ((f.comp g).comp h),?_,?_⟩
   .rw[x1,bothW,bw nu,bw nl];exact lu
   .rw[R,bothW,bw nj,bw nw]
    have:=P.look hj hw (show f.b=(g.comp h).a from U);rw[J9,<-as]at this;exact this
end
def avn(hm:1<=m)(P:Ji sz K Z ie):prog.call m 9 [.int K,Gr Z] M=.ok .non M:=by
 rw[call_of hm rfl];obtain⟨qq,M',e,⟨G,rfl⟩,rfl⟩:=ad1 (W:=PW (m-1)) (t:=.name 2) (b:=Ft) (it:=.v 1) (ds:=Z.map eD) (ρ:=[sI K,Gr Z,none]) (M:=M) (M1:=M) (by simp[Gr])
  (λj ρ M'=>(∃G:Option D,ρ=[sI K,some (Gr Z),G])/\M'=M) ⟨⟨none,rfl⟩,rfl⟩
  (λj x ρ M1 hj hI=>by
   obtain⟨⟨G,rfl⟩,rfl⟩:=hI;obtain⟨f,hf,rfl⟩:∃f,Z[j]?=some f/\eD f=x:=by simpa using hj
   have mf:=ao hf;have h1:=P.abv f mf;have h2:=P.V3 f mf;refine⟨_,.next,_,M1,rfl,?_,.inl rfl,⟨some (eD f),rfl⟩,rfl⟩;have R:(f.a:Int)<K:=m_ h1
   have U:(f.b:Int)<K:=m_ h2
   have z1:(0:Int)<=(f.a:Int):=q_
   have z2:(0:Int)<=(f.b:Int):=q_
   simp[Ft,Xn,Xo,h1,h2,R,U,z1,z2])
 have k1:(1:Int)<=K:=by have:=P.k1;exact n_ this
 have k3:(K:Int)<=3:=by have:=P.k3;exact n_ this
 have l5:¬(5:Int)<(Z.length:Int):=by have:=P.len;lia
 simp[Fn.run,N5,Nz,k1,k3,Ov,l5,Kq,e]
def a1g{j k:Nat}(hm:1<=m)(P:Ji sz K G ie)(hj:G[j]?=some f)(hk:G[k]?=some g)(h:f.b=g.a):prog.call m 8 [Gr G,.int (ent G f g),.int f.a,.int g.b] M=.ok (.bl true) M:=by
 rw[call_of hm rfl,J9];have mf:=ao hj;have mg:=ao hk;rcases P.Dd (P.cl f mf g mg h)with⟨R,i1⟩|⟨u,hu,R⟩
 .have ha:f.a=g.b:=i1.1
  simp[Fn.run,Fq,Fp,R,ha]
 .have Z:=(ak.mp hu).1
  have nu:¬((u:Int)=-1):=by lia
  have z:(0:Int)<=(u:Int):=q_
  have U:(u:Int)<(G.length:Int):=m_ Z
  have e:wj M (eD (f.comp g)) (.tup [.int f.a,.int g.b])=some true:=by show Rq (Nj M 5) [.int f.a,.int g.b] [.int f.a,.int g.b]=some true;rw[Ej (Jy M 4 _ _) (Ej (Jy M 4 _ _) (show Rq (Nj M 5) [] []=some true from rfl))];simp
  simp[Fn.run,Fq,Fp,R,nu,z,Z,U,Ov,Vg hu,e]
def avo(hm:2<=m)(P:Ji sz K Z ie)(hr:M[r]?=some (.dT ie)):∃G,prog.call m 10 [Gr Z,.ref r] M=.ok .non G/\Ba M G/\G.length=M.length+1:=by
 rw[call_of (a_ (by decide) hm) rfl];obtain⟨M1,U,e1,p1,t1,u1⟩:=Xp (M:=M) (m:=m-1) (hs:=Z) (r_ hm) P.len;have k1:Ba M M1:=λa o h=>by rw[u1.oth a (by have:=yo h;exact h_ this)];exact yh h
 have r1:=k1 r _ hr;have qj:(keysOf M1 (.ref r)).bind Eg=some (ie.map (·.1)):=by simp only[keysOf,r1,su,aea]
 have qk:(keysOf M1 (.ref M.length)).bind Eg=some (U.map λp=>ky p.1 p.2):=by simp only[keysOf,p1,gm,su,aeb]
 have Jg:Eh (U.map λp=>ky p.1 p.2)=true:=by
  have:=t1.len;have:Z.length*Z.length<=5*5:=Nat.mul_le_mul P.len P.len
  simp only[Eh,du,aq,dm];refine⟨by lia,?_⟩;rw[jb];intro k hk;obtain⟨p,hp,rfl⟩:=bf.mp hk;simp[ky]
 have qq:(Ex.W2 (.v 1) (.v 2)).den (PW (m-1)) [some (Gr Z),sR r,sR M.length,none,none] M1=.ok (.bl false) M1:=by rw[Z8];simp only[aij,List.getElem?_cons_succ,List.getElem?_cons_zero,Res.Br,qj,P.plain,qk,Jg,P.same t1,jw,qt]
 obtain⟨qv,G,e,⟨b3,b4,rfl⟩,rfl⟩:=Hn (W:=PW (m-1)) (t:=.names [3,4]) (b:=Gz) (it:=.v 2) (d:=.ref M.length) (ds:=U.map pD) (ρ:=[Gr Z,sR r,sR M.length,none,none]) (M:=M1) (M1:=M1) (by simp) (ou p1)
  (λj R G=>(∃b3 b4:Option D,R=[some (Gr Z),sR r,sR M.length,b3,b4])/\G=M1) ⟨⟨none,none,rfl⟩,rfl⟩ (λi R M h=>by rw[h.2];exact ou p1)
  (λi x R M2 hx hI=>by
   obtain⟨⟨b3,b4,rfl⟩,rfl⟩:=hI;obtain⟨p,hp,rfl⟩:∃p,U[i]?=some p/\pD p=x:=by simpa using hx
   obtain⟨⟨f,g,a,b,c⟩,d⟩:=(t1.all p).mp (ao hp);refine⟨_,.next,_,M2,Ja _ _ _ _ _,?_,.inl rfl,⟨some (.int p.1),sI p.2,rfl⟩,rfl⟩;have lk:=adz r1 (aab p.1 p.2);rw[show([.inl (p.1:Int),.inl (p.2:Int)]:List Kx)=ky p.1 p.2 from rfl,P.look a b c]at lk;simp[Gz,lk,Vg a,Vg b,Xn,Xo,a1g (show 1<=m-1 by exact r_ hm) P a b c])
 refine⟨G,?_,k1,by rw[u1.len];simp⟩;simp[Fn.run,Qh,Qg,e1,qq,Mu,e]
def avp(hm:2<=m)(P:Ji sz K Z ie)(hr:M[r]?=some (.dT ie)):∃R,prog.call m 11 [Gr Z,.ref r] M=.ok .non R/\Ba M R/\R.length=M.length+1:=by
 rw[call_of (a_ (by decide) hm) rfl];obtain⟨M1,ps,e1,p1,t1,u1⟩:=Xp (M:=M) (m:=m-1) (hs:=Z) (r_ hm) P.len;have k1:Ba M M1:=λa o h=>by rw[u1.oth a (by have:=yo h;exact h_ this)];exact yh h
 have r1:=k1 r _ hr;have hl:=P.len;obtain⟨qv,R,e,⟨b3,b4,b5,U,b7,rfl⟩,rfl⟩:=Hn (W:=PW (m-1)) (t:=.names [3,4]) (b:=Fv) (it:=.v 2) (d:=.ref M.length) (ds:=ps.map pD) (ρ:=[Gr Z,sR r,sR M.length,none,none,none,none,none]) (M:=M1) (M1:=M1) (by simp) (ou p1)
  (λj ρ R=>(∃b3 b4 b5 U b7:Option D,ρ=[some (Gr Z),sR r,sR M.length,b3,b4,b5,U,b7])/\R=M1) ⟨⟨none,none,none,none,none,rfl⟩,rfl⟩ (λi ρ M h=>by rw[h.2];exact ou p1)
  (λi x ρ M2 hx hI=>by
   obtain⟨⟨b3,b4,b5,U,b7,rfl⟩,rfl⟩:=hI;obtain⟨p,hp,rfl⟩:∃p,ps[i]?=some p/\pD p=x:=by simpa using hx
   obtain⟨⟨f,g,a,b,c⟩,d⟩:=(t1.all p).mp (ao hp);obtain⟨q0,M3,e3,⟨c5,c6,c7,rfl⟩,rfl⟩:=Bs (W:=PW (m-1)) (t:=.name 5) (b:=Di) (it:=.blt .len (.o (.v 0))) (n:=Z.length) (ρ:=[Gr Z,sR r,sR M.length,sI p.1,sI p.2,b5,U,b7]) (M:=M2) (M1:=M2) (by simp[Ov]) (a_ hl (by decide))
    (λj ρ R=>(∃b5 U b7:Option D,ρ=[some (Gr Z),sR r,sR M.length,sI p.1,sI p.2,b5,U,b7])/\R=M2) ⟨⟨b5,U,b7,rfl⟩,rfl⟩
    (λl ρ M4 qk hI=>by
     obtain⟨⟨b5,U,b7,rfl⟩,rfl⟩:=hI;have G:Z[l]?=some Z[l]:=by simp[qk]
     have Zi:=a8k r1 (aab p.2 l);rw[show([.inl (p.2:Int),.inl (l:Int)]:List Kx)=ky p.2 l from rfl]at Zi
     by_cases q:g.b=Z[l].a
     .rw[P.look b G q]at Zi
      obtain⟨v,v1,v2⟩:=P.apb a b G c q;have qq:=adz r1 (aab p.1 p.2);rw[show([.inl (p.1:Int),.inl (p.2:Int)]:List Kx)=ky p.1 p.2 from rfl,P.look a b c]at qq;have qj:=adz r1 (aab p.2 l);rw[show([.inl (p.2:Int),.inl (l:Int)]:List Kx)=ky p.2 l from rfl,P.look b G q]at qj;refine⟨_,.next,_,M4,rfl,?_,.inl rfl,⟨some (.int l),sI v,sI v,rfl⟩,rfl⟩;simp[Di,Zi,qq,qj,abw (show 1<=m-1 by exact r_ hm) r1 v1,abw (show 1<=m-1 by exact r_ hm) r1 v2]
     .rw[P.no (λ⟨g',h',x,y,z⟩=>by rw[b]at x;rw[G]at y;cases x;cases y;exact q z)]at Zi
      refine⟨_,.cont,_,M4,rfl,?_,.inr rfl,⟨some (.int l),U,b7,rfl⟩,rfl⟩;simp[Di,Zi])
   refine⟨_,.next,_,M3,Ja _ _ _ _ _,?_,.inl rfl,⟨some (.int p.1),sI p.2,c5,c6,c7,rfl⟩,rfl⟩;simp[Fv,Kr,e3])
 refine⟨R,?_,k1,by rw[u1.len];simp⟩;simp[Fn.run,N7,N6,e1,Ks,e]
def Made(n r K:Nat)(G:List F)(Z:List (List Kx×D))(M:di):Prop:=M[n]?=some (.ins 3 [(2,.int K),(1,Gr G),(0,.ref r)])/\M[r]?=some (.dT Z)
def avq(hm:3<=m)(P:Ji sz K G U)(R:M[r]?=some (.dT U))(hn:M[n]?=some (.ins 3 [])) :
 ∃M' r',prog.call m 0 [.ref n,.int K,Gr G,.ref r] M=.ok .non M'/\Made n r' K G U M'/\M.length<=r'/\r'<M'.length/\(∀(a:Nat)(o:MO),a≠n->M[a]?=some o->M'[a]?=some o):=by
 rw[call_of (a_ (by decide) hm) rfl];have d1:=avn (M:=M) (m:=m-1) (r_ (a_ (by decide) hm)) P;obtain⟨M1,e1,k1,l1⟩:=avo (M:=M) (m:=m-1) (r_ hm) P R;obtain⟨Z,e2,k2,l2⟩:=avp (M:=M1) (m:=m-1) (r_ hm) P (k1 r _ R);have k:=k1.trans k2;have n2:=k n _ hn;have r2:=k r _ R;have qj:r≠n:=λe=>by rw[e,hn]at R;cases R
 have s1:Ru (.ref n) 2 (.int K) Z=some (Z.set n (.ins 3 [(2,.int K)])):=by simp[Ru,n2,U3]
 have n3:=w6 (o:=.ins 3 [(2,.int K)]) n2;have s2:Ru (.ref n) 1 (Gr G) (Z.set n (.ins 3 [(2,.int K)]))=some (Z.set n (.ins 3 [(2,.int K),(1,Gr G)])):=by simp[Ru,n3,U3]
 have n4:=w6 (o:=.ins 3 [(2,.int K),(1,Gr G)]) n2;have r4:(Z.set n (.ins 3 [(2,.int K),(1,Gr G)]))[r]?=some (.dT U):=by rw[um (j0 qj)];exact r2
 have dc:rm .dict [.ref r] (Z.set n (.ins 3 [(2,.int K),(1,Gr G)]))=.ok (.ref Z.length) (Z.set n (.ins 3 [(2,.int K),(1,Gr G)])++[.dT U]):=by simp[rm,r4,P.sm,MW.new]
 have n5:(Z.set n (.ins 3 [(2,.int K),(1,Gr G)])++[.dT U])[n]?=some (.ins 3 [(2,.int K),(1,Gr G)]):=yh n4;have s3:Ru (.ref n) 0 (.ref Z.length) (Z.set n (.ins 3 [(2,.int K),(1,Gr G)])++[.dT U])=some ((List.set Z n (MO.ins 3 [(2,.int K),(1,Gr G)])++[MO.dT U]).set n (MO.ins 3 [(2,.int K),(1,Gr G),(0,.ref Z.length)])):=by simp[Ru,n5,U3]
 have qq:=yo n2;refine⟨_,Z.length,?_,⟨w6 (o:=.ins 3 [(2,.int K),(1,Gr G),(0,.ref Z.length)]) n5,?_⟩,by lia,by simp,λa o na h=>?_⟩
 .simp[Fn.run,Kl,Kh,d1,e1,e2,s1,s2,dc,s3]
 .rw[um (h_ qq)]
  rw[il (by simp)];simp
 .rw[um (j0 na)]
  exact yh (by rw[um (j0 na)];exact k a o h)
end K81
namespace L2
open PySem PySem.Spec PyProof.Rows
abbrev Key:=Sum Int Str
noncomputable def Xq:Key->Value->Bool
 |.inl k,v=>Value.isInt k v|.inr x,v=>Value.isStrOf x v
noncomputable def be7(w:World):Key->Int
 |.inl k=>hashInt k|.inr x=>hashStr w x
theorem Bd:∀{k:Key}{v:Value},Xq k v=true->(∃i t,k=Sum.inl i/\v=Value.int i t)\/(∃x t,k=Sum.inr x/\v=Value.str x t)
 |.inl i,v,h=>by
  obtain⟨t,e⟩:=Value.isInt_shape (k:=i) (v:=v) h;exact .inl ⟨i,t,rfl,e⟩
 |.inr x,v,h=>by
  obtain⟨t,e⟩:=Value.isStrOf_shape (x:=x) (v:=v) h;exact .inr ⟨x,t,rfl,e⟩
def alo(i:Int)(t:Tok):Xq (.inl i) (.int i t)=true:=by simp[Xq,Value.isInt]
def alp(x:Str)(t:Tok):Xq (.inr x) (.str x t)=true:=by simp[Xq,Value.isStrOf]
def a1h(a b:Int):decide ((Sum.inl a:Key)=Sum.inl b)=(a==b):=by
 by_cases e:a=b
 .subst e;simp
 .have h:¬(Sum.inl a:Key)=Sum.inl b:=λq=>e (Sum.inl.inj q)
  rw[uh h];exact(pq.mpr e).symm
def a1i(a b:Str):decide ((Sum.inr a:Key)=Sum.inr b)=decide (a=b):=by
 by_cases e:a=b
 .subst e;simp
 .have h:¬(Sum.inr a:Key)=Sum.inr b:=λq=>e (Sum.inr.inj q)
  rw[uh h,uh e]
def a1j(a:Int)(b:Str):decide ((Sum.inl a:Key)=Sum.inr b)=false:=uh (λq=>nomatch q)
def a1k(a:Str)(b:Int):decide ((Sum.inr a:Key)=Sum.inl b)=false:=uh (λq=>nomatch q)
def m6(prog:Program)(w:World):PySem.KeyKind prog w Key where
 is:=Xq
 hash:=be7 w
 inj:=λv a b U G=>by
  rcases Bd U with⟨i,t,rfl,rfl⟩|⟨x,t,rfl,rfl⟩
  .rcases Bd G with⟨j,u,rfl,e⟩|⟨y,u,rfl,e⟩
   .injection e with e1 _;rw[e1]
   .exact nomatch e
  .rcases Bd G with⟨j,u,rfl,e⟩|⟨y,u,rfl,e⟩
   .exact nomatch e
   .injection e with e1 _;rw[e1]
 byValue:=λk v h=>by rcases Bd h with⟨i,t,rfl,rfl⟩|⟨x,t,rfl,rfl⟩<;>rfl
 pyHash:=λZ h=>by
  rcases Bd Z with⟨i,t,rfl,rfl⟩|⟨x,t,rfl,rfl⟩
  .exact wpAny_pyHash_int h
  .exact wpAny_pyHash_str h
 eqBool:=λR Z h=>by
  rcases Bd R with⟨i,t,rfl,rfl⟩|⟨x,t,rfl,rfl⟩
  .rcases Bd Z with⟨j,u,rfl,rfl⟩|⟨y,u,rfl,rfl⟩
   .rw[a1h]at h;exact wpAny_eqBool_int h
   .rw[a1j]at h;exact SeqAt.EqAt.int_str i t y u _ _ _ _ h
  .rcases Bd Z with⟨j,u,rfl,rfl⟩|⟨y,u,rfl,rfl⟩
   .rw[a1k]at h;exact SeqAt.EqAt.str_int x t j u _ _ _ _ h
   .rw[a1i]at h;exact wpAny_eqBool_str h
 «strs»:=λk x t v h=>by
  rcases Bd h with⟨i,u,rfl,e⟩|⟨y,u,rfl,e⟩
  .exact nomatch e
  .injection e with e1 _
   subst e1;cases v<;>rfl
def aec(prog:Program)(w:World)(i:Int)(t:Tok):(m6 prog w).is (.inl i) (.int i t)=true:=alo i t
def aed(prog:Program)(w:World)(x:Str)(t:Tok):(m6 prog w).is (.inr x) (.str x t)=true:=alp x t
end L2
namespace L2
open PySem PySem.Spec PyProof.Rows
set_option genInjectivity true in
inductive V where
 |non|bl (b:Bool)|int (i:Int)|str (x:Str)|byt (b:Array UInt8)|flt (b:UInt64)|ref (a:Addr)|ty (n:String)
 deriving DecidableEq
def RelV:V->Value->Prop
 |.non,u=>u=Value.none|.bl b,u=>u=Value.bool b|.int i,u=>∃t,u=Value.int i t|.str x,u=>∃t,u=Value.str x t|.byt b,u=>∃t,u=Value.bytes b t|.flt b,u=>∃t,u=Value.float b t|.ref a,u=>u=Value.ref a|.ty n,u=>u=Value.type n
abbrev Vals:List V->List Value->Prop:=Paired RelV
theorem Vals.length(r:Vals G Z):G.length=Z.length:=Paired.length r
theorem Vals.get:∀{G:List V}{Z:Zl}{i:Nat}{x:V},Vals G Z->G[i]?=some x->∃u,Z[i]?=some u/\RelV x u
 |_,_,_,_,.nil,e=>by simp at e|_,_,0,_,.cons r _,e=>by simp at e;subst e;exact⟨_,rfl,r⟩
 |_,_,i+1,x,.cons _ t,e=>by
  obtain⟨u,U,R⟩:=Vals.get (i:=i) (x:=x) t (by simpa using e);exact⟨u,by simpa using U,R⟩
theorem Vals.set{x:V}{u:Value}(r:RelV x u):∀{Z:List V}{G:Zl}(i:Nat),Vals Z G->Vals (Z.set i x) (G.set i u)
 |_,_,_,.nil=>.nil|_,_,0,.cons _ t=>.cons r t|_,_,i+1,.cons q t=>.cons q (Vals.set r i t)
theorem Vals.append:∀{G R:List V}{U Z:Zl},Vals G U->Vals R Z->Vals (G++R) (U++Z):=by intro _ _ _ _ h r;induction h with|nil=>exact r|cons q t ih=>exact .cons q ih
theorem Vals.take:∀{G:List V}{Z:Zl}(n:Nat),Vals G Z->Vals (G.take n) (Z.take n)
 |_,_,0,_=>.nil|_,_,_+1,.nil=>.nil|_,_,n+1,.cons r t=>.cons r (Vals.take n t)
theorem Vals.drop:∀{G:List V}{Z:Zl}(n:Nat),Vals G Z->Vals (G.drop n) (Z.drop n)
 |_,_,0,r=>r|_,_,_+1,.nil=>.nil|_,_,n+1,.cons _ t=>Vals.drop n t
def Nk:Option V->Option Value->Prop
 |some v,some u=>RelV v u|none,none=>True|_,_=>False
def KV{Z:Type}:List (Z×V)->List (Z×Value)->Prop:=Paired λ(p:Z×V) (q:Z×Value)=>p.1=q.1/\RelV p.2 q.2
noncomputable def kV:Key->V
 |.inl i=>.int i|.inr x=>.str x
inductive HO where
 |lst (xs:List V)
 |tup (xs:List V)
 |dK (ie:List (Key×V))|dT (ie:List (List Key×V))
 |set (S:Int->Bool) (n:Nat)
 |ins (C dx:Addr) (fs:List (Str×V))
 |own (x:Addr)
 |xd (fs:List (Str×V))
 |met (f x:Addr)
 |Mp (lo hi:Int)
 |Ow (o:Obj) (u:HO)
 |tbl (ps:U1)
 |ext (φ:Heap->Prop)
abbrev Hp:=Addr->Option HO
noncomputable def upd(H:Hp)(a:Addr)(o:HO):Hp:=λb=>if b=a then some o else H b
def xf:upd H a o a=some o:=by unfold upd;rw[bx rfl]
def my(h:b≠a):upd H a o b=H b:=by unfold upd;rw[bw h]
def apc{H:Hp}(h:H a=some o)(Z:H b=some u)(d:o≠u):a≠b:=by intro e;subst e;rw[h]at Z;exact d (jk Z)
def m5{H:Hp}(h:H a=some o)(Z:H b=none):a≠b:=by intro e;subst e;rw[h]at Z;cases Z
section
variable(P:Program)(w:World)
def Xr(h:Heap)(a:Addr)(Z:U1):Prop:=∃o,h.get? a=some o/\o.cls=.type "tuple"/\∃n,o.data=.seq Z n/\o.dict=none
def Xr.is(x:Xr h a items):IsTup h a items:=let ⟨o,h1,h2,n,h3,_⟩:=x;⟨o,h1,h2,n,h3⟩
def Xr.new(h:Heap)(items:U1):Xr (h.push { cls:=.type "tuple",data:=.seq items }) h.objs.size items:=⟨_,bu _ rfl,rfl,_,rfl,rfl⟩
def Be(H:Hp)(h:Heap)(a:Addr):HO->Prop
 |.lst Z=>Z.length<=sizeLine/\∃(U:Zl)(n:Nat),Vals Z U/\h.get? a=some { cls:=.type "list",data:=.seq U.toArray n }|.tup Z=>Z.length<=sizeLine/\∃U:List Value,Vals Z U/\Xr h a U.toArray|.dK ie=>ie.length<=sizeLine/\(a==sysModules)=false/\∃vs,KV ie vs/\h.DictOf (m6 P w) a vs
 |.dT ie=>ie.length<=sizeLine/\(a==sysModules)=false/\∃Z:List (List Key×Addr×Value),
  Paired (λ(p:List Key×V) (q:List Key×Addr×Value)=>p.1=q.1/\H q.2.1=some (.tup (p.1.map kV))/\RelV p.2 q.2.2) ie Z /\
  ∃o es ep,h.get? a=some o/\o.ExactDict/\o.data=.dict es ep/\es.toList=Z.map (entryOfKey (tupleKind (m6 P w)))/\(Z.map (·.1)).Nodup
 |.set S n=>h.SetOf (intKind P w) a S n
 |.ins C dx fs=>H dx=some (.own a)/\fs.length<=1000/\dx≠a/\h.get? a=some (PySem.W.instObj C dx) /\
  ∃G,h.Ns1 dx G/\(∀f,Nk (fs.lookup f) (G f))/\PySem.Within G (fs.map (·.1))
 |.own _=>∃o,h.get? a=some o|.xd fs=>∃G,h.Ns1 a G/\∀f,Nk (fs.lookup f) (G f)|.Mp lo hi=>∃t u v,h.get? a=some { cls:=.type "range",data:=.fields #[.int lo t,.int hi u,.int 1 v] }|.Ow o u=>h.get? a=some o/\Be H h a u|.tbl ps=>h.get? a=some { cls:=.none,data:=.fields ps }|.met f x=>h.get? a=some (PySem.W.methodObj (.ref f) (.ref x))|.ext φ=>φ h/\(∃o,h.get? a=some o)/\∀R h2:Heap,φ R->(∀o,R.get? a=some o->h2.get? a=some o)->φ h2
def Qv(H:Hp)(h:Heap):Prop:=∀a o,H a=some o->Be P w H h a o
end
theorem Be.lt(x:Be P w H h a o):a<h.objs.size:=by
 cases o with
 |lst Z=>obtain⟨_,_,_,_,e⟩:=x;exact az e
 |tup Z=>obtain⟨_,_,_,p⟩:=x;exact(Xr.is p).lt
 |dK G=>obtain⟨_,_,_,_,o,_,_,e,_⟩:=x;exact az e
 |dT G=>obtain⟨_,_,_,_,o,_,_,e,_⟩:=x;exact az e
 |set S n=>obtain⟨o,_,_,_,e,_⟩:=x;exact az e
 |ins C dx fs=>obtain⟨_,_,_,e,_⟩:=x;exact az e
 |own y=>obtain⟨_,e⟩:=x;exact az e
 |xd fs=>obtain⟨_,⟨_,_,_,e,_⟩,_⟩:=x;exact az e
 |Mp lo hi=>obtain⟨_,_,_,e⟩:=x;exact az e
 |Ow ob u=>obtain⟨e,_⟩:=x;exact az e
 |tbl U=>exact az (show h.get? a=some _ from x)
 |met f y=>exact az (show h.get? a=some _ from x)
 |ext R=>obtain⟨_,⟨_,e⟩,_⟩:=x;exact az e
theorem Paired.a1m{α R:Type}{F G:α->R->Prop}:∀{Z:List α}{U:List R},Paired F Z U->(∀a b,F a b->G a b)->Paired G Z U:=by intro _ _ h f;induction h with|nil=>exact .nil|cons r t ih=>exact .cons (f _ _ r) ih
def Be.stay(x:Be P w H h a o)(k:∀b u,(b=a\/H b=some (.own a))->h.get? b=some u->h'.get? b=some u)(ho:∀b,H b=some (.own a)->H' b=some (.own a))(ht:∀b R,H b=some (.tup R)->H' b=some (.tup R)):Be P w H' h' a o:=by
 induction o with
 |lst R=>obtain⟨z,ye,n,r,e⟩:=x;exact⟨z,ye,n,r,k _ _ (.inl rfl) e⟩
 |tup R=>obtain⟨z,ye,r,Z,e,c⟩:=x;exact⟨z,ye,r,Z,k _ _ (.inl rfl) e,c⟩
 |dK ie=>obtain⟨z,y,vs,r,Z,G,U,e,c⟩:=x;exact⟨z,y,vs,r,Z,G,U,k _ _ (.inl rfl) e,c⟩
 |dT ie =>
  obtain⟨z,y,R,r,Z,G,U,e,c⟩:=x;exact⟨z,y,R,Paired.a1m r λp q z=>⟨z.1,ht _ _ z.2.1,z.2.2⟩,Z,G,U,k _ _ (.inl rfl) e,c⟩
 |set S n=>obtain⟨Z,G,U,t,e,c⟩:=x;exact⟨Z,G,U,t,k _ _ (.inl rfl) e,c⟩
 |ins C dx fs =>
  obtain⟨d,z,ne,e,mA,⟨od,G,U,e2,c⟩,r⟩:=x;exact⟨ho _ d,z,ne,k _ _ (.inl rfl) e,mA,⟨od,G,U,k _ _ (.inr d) e2,c⟩,r⟩
 |own y=>obtain⟨Z,e⟩:=x;exact⟨Z,k _ _ (.inl rfl) e⟩
 |xd fs=>obtain⟨mA,⟨od,G,U,e,c⟩,r⟩:=x;exact⟨mA,⟨od,G,U,k _ _ (.inl rfl) e,c⟩,r⟩
 |Mp lo hi=>obtain⟨t,u,v,e⟩:=x;exact⟨t,u,v,k _ _ (.inl rfl) e⟩
 |Ow Z u ih=>obtain⟨e,q⟩:=x;exact⟨k _ _ (.inl rfl) e,ih q⟩
 |tbl ps =>
  have e:h.get? a=some { cls:=.none,data:=.fields ps }:=x;show h'.get? a=some { cls:=.none,data:=.fields ps };exact k a _ (.inl rfl) e
 |met f y =>
  have e:h.get? a=some (PySem.W.methodObj (.ref f) (.ref y)):=x;show h'.get? a=some (PySem.W.methodObj (.ref f) (.ref y));exact k a _ (.inl rfl) e
 |ext φ=>obtain⟨p,⟨o,e⟩,st⟩:=x;exact⟨st _ _ p λo q=>k _ _ (.inl rfl) q,⟨o,k _ _ (.inl rfl) e⟩,st⟩
theorem Qv.lt(x:Qv P w H h)(e:H a=some o):a<h.objs.size:=(x a o e).lt
def Qv.fresh(x:Qv P w H h)(e:h.objs.size<=a):H a=none:=by
 cases q:H a with
 |none=>rfl|some u=>exact absurd (gw (x.lt q) e) (j9 _)
def Qv.kept(x:Qv P w H h)(k:∀b u,h.get? b=some u->h'.get? b=some u):Qv P w H h':=λa o e =>
 (x a o e).stay (λb u _ q=>k b u q) (λ_ q=>q) λ_ _ q=>q
def Qv.laid(x:Qv P w H h)(k:∀b u,h.get? b=some u->h'.get? b=some u)(U:h.objs.size<=a)(new:Be P w (upd H a o) h' a o):Qv P w (upd H a o) h':=λb u e=>by
 have Z:=x.fresh U
 by_cases G:b=a
 .subst G;rw[xf]at e;cases e;exact new
 .rw[my G]at e
  exact(x b u e).stay (λc v _ q=>k c v q) (λc q=>by rw[my (m5 q Z)];exact q) λc R q=>by rw[my (m5 q Z)];exact q
def Rd(H:Hp)(a:Addr)(u:HO):Prop:=H a=some u\/∃o,H a=some (.Ow o u)
def Rd.ok(r:Rd H a u)(x:Qv P w H h):Be P w H h a u:=by
 rcases r with r|⟨o,r⟩
 .exact x a u r
 .obtain⟨_,q⟩:=x a _ r
  exact q
def Mut:Option HO->Prop
 |some (.lst _)=>True|some (.dK _)=>True|some (.dT _)=>True|some (.set _ _)=>True|some (.ins _ _ _)=>True|some (.ext _)=>True|_=>False
def Qv.write(ok:Qv P w H h)(mu:Mut (H x))(he:e=x\/H e=some (.own x))(k:∀b u,b≠e->h.get? b=some u->h'.get? b=some u)(qq:∃u,h'.get? e=some u)(new:Be P w (upd H x o') h' x o'):Qv P w (upd H x o') h':=λb u q=>by
 have G:∀c y,H c=some (.own y)->c≠x:=λc y r z=>by subst z;rw[r]at mu;exact mu
 have qj:∀c R,H c=some (.tup R)->c≠x:=λc R r z=>by subst z;rw[r]at mu;exact mu
 by_cases U:b=x
 .subst U;rw[xf]at q;cases q;exact new
 .rw[my U]at q
  by_cases Z:b=e
  .have q':H b=some (.own x):=by
    rcases he with z|z
    .exact absurd (Z.trans z) U
    .rw[Z];exact z
   rw[q]at q';cases q';obtain⟨v,hv⟩:=qq;exact⟨v,by rw[Z];exact hv⟩
  .refine(ok b u q).stay (λc v hc r=>k c v ?_ r) (λc r=>by rw[my (G c b r)];exact r) λc R r=>by rw[my (qj c R r)];exact r
   rcases hc with rfl|hc
   .exact Z
   .rintro rfl
    rcases he with z|z
    .exact G c b hc z
    .rw[hc]at z;cases z;exact U rfl
structure Un(fs ex:X9)(H H':Hp)(h h':Heap):Prop where
 keep:∀b o,h.get? b=some o->H b=none->b∉fs->b∉ex->h'.get? b=some o
 slot:∀b o,h.get? b=some o->H b=none->b∈fs->b∉ex->∃sl,h'.get? b=some { o with slots:=sl }
 free:∀b o,h.get? b=some o->H b=none->b∉ex->H' b=none
 there:∀b o,h.get? b=some o->b∉ex->∃o',h'.get? b=some o'
 Xu:∀b xs,H b=some (.tup xs)->H' b=some (.tup xs)
 abx:∀b o u,H b=some (.Ow o u)->H' b=some (.Ow o u)
 aee:∀b ps,H b=some (.tbl ps)->∃more,H' b=some (.tbl (ps++more))
def Un.any(u:Un fs ex H H1 h R)(q:h.get? b=some Z)(n:H b=none)(U:b∉ex):∃sl,R.get? b=some { Z with slots:=sl }:=by
 by_cases G:b∈fs
 .exact u.slot b Z q n G U
 .exact⟨Z.slots,u.keep b Z q n G U⟩
def Un.kept(k:∀b u,h.get? b=some u->h'.get? b=some u):Un fs ex H H h h':=
 ⟨λb Z q _ _ _=>k b Z q,λb Z q _ _ _=>⟨Z.slots,k b Z q⟩,λ_ _ _ n _=>n,λb Z q _=>⟨Z,k b Z q⟩,λ_ _ q=>q,λ_ _ _ q=>q,λ_ G q=>⟨#[],by rw[q];simp⟩⟩
def Un.refl:Un fs ex H H h h:=Un.kept λ_ _ q=>q
theorem Un.laid(k:∀b u,h.get? b=some u->h'.get? b=some u)(U:h.objs.size<=a)(Z:H a=none):Un fs ex H (upd H a o) h h' where
 keep:=λb u q _ _ _=>k b u q
 slot:=λb u q _ _ _=>⟨u.slots,k b u q⟩
 free:=λb u q n _=>by rw[my (f9 (gw (az q) U))];exact n
 there:=λb u q _=>⟨u,k b u q⟩
 Xu:=λb G q=>by rw[my (m5 q Z)];exact q
 abx:=λb u G q=>by rw[my (m5 q Z)];exact q
 aee:=λb R q=>⟨#[],by rw[my (m5 q Z),q];simp⟩
def Un.write(G:Mut (H x))(he:e=x\/H e=some (.own x))(k:∀b u,b≠e->h.get? b=some u->h'.get? b=some u)(U:∃u,h'.get? e=some u):Un fs ex H (upd H x o) h h':=by
 have hx:∀b,H b=none->b≠x:=λb n z=>by subst z;rw[n]at G;exact G
 have hb:∀b,H b=none->b≠e:=λb n z=>by
  subst z;rcases he with r|r
  .exact hx b n r
  .rw[n]at r;cases r
 have R:∀b u,H b=some u->¬Mut (some u)->b≠x:=λb u q nm z=>by subst z;rw[q]at G;exact nm G
 refine⟨λb u q n _ _=>k b u (hb b n) q,λb u q n _ _=>⟨u.slots,k b u (hb b n) q⟩,λb u q n _=>by rw[my (hx b n)];exact n,λb u q _=>?_,
  λb xs q=>by rw[my (R b _ q λz=>z)];exact q,λb u xs q=>by rw[my (R b _ q λz=>z)];exact q,λb ps q=>⟨#[],by rw[my (R b _ q λz=>z),q];simp⟩⟩
 by_cases Z:b=e
 .subst Z;exact U
 .exact⟨u,k b u Z q⟩
noncomputable def trk(h:Heap)(H:Hp):List Addr:=(List.range h.objs.size).filter λa=>(H a).isSome
def aby(h:Heap)(H:Hp):Heap:=PySem.W.hideAll h (trk h H)
def alq(h:Heap)(H:Hp):(aby h H).objs.size=h.objs.size:=PySem.W.hideAll_size _ _
def apd(e:h.get? b=some o)(n:H b=none):(aby h H).get? b=some o:=
 PySem.W.hideAll_get _ e λZ=>by have q:(H b).isSome=true:=(ue.mp Z).2;rw[n]at q;simp at q
def avr(e:(aby h H).get? b=some o):h.get? b=some o/\H b=none:=by
 have Z:h.get? b=some o:=PySem.W.of_hideAll (trk h H) e;refine⟨Z,?_⟩;cases q:H b with
 |none=>rfl
 |some x =>
  have G:b∈trk h H:=ue.mpr ⟨ik.mpr (az Z),by simp[q]⟩;have z:(aby h H).get? b=none:=PySem.W.hideAll_none (trk h H) G;rw[z]at e;cases e
end L2
namespace L2
open PySem PySem.Spec PyProof.Rows
structure Mod(K:Fg)(mg:Zs)(base:Heap):Prop where
 kin:K.In base
 glob:base.Ns mainGlobals mg
 blt:∃mb,base.Ns builtinsNs mb/\∀x:Str,x≠"__name__"-> mb x=bootBuiltins x
 nolimit:base.NoLimit
structure Cx where
 prog:Program
 w:World
 K:Fg
 mg:Str->Option Value
 base:Heap
 A:Around
 N:List Str
 s₀:Shared
 H₀:Hp
 env:Env
 outer:List Env
 stack:List Env
 ex:List Addr
 fn:Str->Bool
 calm:Bool
 pn:List (Addr×Obj)
 xe:Value->Shared->Prop
noncomputable def frs(l:List Env):List Addr:=l.filterMap (·.frame)
abbrev Cx.fs(X:Cx):List Addr:=frs X.outer
def Vis(Z:Scope)(x:Str):Prop:=Z.names.lookup x=some .local\/Z.names.lookup x=some .cell\/Z.names.lookup x=some .free
def Loc(Z:Scope)(x:Str):Prop:=Z.names.lookup x=some .local\/Z.names.lookup x=some .cell
def Look(Z:Env)(h:Heap)(m:Zs)(x:Str)(u:Value):Prop:=
 (Z.kindOf x=some .local/\m x=some u)\/((Z.kindOf x=some .cell\/Z.kindOf x=some .free)/\∃c,Z.cells.lookup x=some c/\h.IsCell c (some u))
structure Cx.Ok(X:Cx):Prop where
 mod:Mod X.K X.mg X.base
 kind:X.env.scope.kind=.function
 glob:X.env.globals=mainGlobals
 blt:X.env.builtins=builtinsNs
 above:X.s₀.heap.objs.size<=X.env.locals
 inj:∀x y c,X.env.cells.lookup x=some c->X.env.cells.lookup y=some c->x=y
 has:∀x,(X.env.kindOf x=some .cell\/X.env.kindOf x=some .free)->∃c,X.env.cells.lookup x=some c
 cab:∀x c,X.fn x=true->X.env.cells.lookup x=some c->X.s₀.heap.objs.size<=c
 hd:X.calm=true->X.A.handled=none
 frames:X.A.frames=some X.stack
 stk:X.stack=X.outer\/(X.stack=X.env::X.outer/\X.env.frame=some X.env.locals)
 exf:∀b∈X.ex,b≠X.env.locals/\∀x c,X.env.cells.lookup x=some c->c≠b
 bs:∀b o,X.base.get? b=some o->X.s₀.heap.get? b=some o/\X.H₀ b=none
 bsz:X.base.objs.size<=X.s₀.heap.objs.size
 apf:∀b o,X.base.get? b=some o->b∉X.ex
 avt:∀b∈X.ex,b∉X.fs
 V4:X.s₀.heap.FunFrames X.base X.outer
 frf:∀b∈X.fs,X.H₀ b=none
structure Inv(X:Cx)(pins:Zp)(σ:List (Option V))(H:Hp)(s:Shared):Prop where
 ok:X.Ok
 os:s.os=X.s₀.os
 bare:AllBare s.gens
 base:Un X.fs X.ex X.H₀ H X.s₀.heap s.heap
 loc:∃m,s.heap.Ns X.env.locals m/\∀(i:Nat)(x:Str)(v:V),X.N[i]?=some x->σ[i]?=some (some v)->Vis X.env.scope x->∃u,RelV v u/\Look X.env s.heap m x u
 cell:∀x c,X.env.cells.lookup x=some c->∃v,s.heap.IsCell c v
 free:H X.env.locals=none
 Ox:∀x c,X.env.cells.lookup x=some c->H c=none
 pin:∀p∈X.pn++pins,s.heap.get? p.1=some p.2/\H p.1=none/\p.1≠X.env.locals/\p.1∉X.fs/\∀v,p.2.data≠.cell v
 Al:Qv X.prog X.w H s.heap
 len:σ.length=X.N.length
def Cx.Ok.be9{X:Cx}(ok:X.Ok)(e:X.base.get? b=some o):b∉X.fs:=λZ=>by have:=(ok.V4.mem Z).1;rw[e]at this;cases this
theorem Inv.bs(I:Inv X pins σ H s):∀b o,X.base.get? b=some o->s.heap.get? b=some o/\H b=none:=λb o e =>
 ⟨I.base.keep b o (I.ok.bs b o e).1 (I.ok.bs b o e).2 (I.ok.be9 e) (I.ok.apf b o e),I.base.free b o (I.ok.bs b o e).1 (I.ok.bs b o e).2 (I.ok.apf b o e)⟩
def Inv.bk(I:Inv X pins σ H s):∀b o,X.base.get? b=some o->s.heap.get? b=some o:=λb o e=>(I.bs b o e).1
theorem Inv.mod(I:Inv X pins σ H s):Mod X.K X.mg X.base:=I.ok.mod
def Inv.V5(I:Inv X pins σ H s):X.K.In s.heap:=I.ok.mod.kin.keeps I.bk
theorem Inv.lt(I:Inv X pins σ H s):X.env.locals<s.heap.objs.size:=let ⟨_,hn,_⟩:=I.loc;hn.lt
def Inv.sz(I:Inv X pins σ H s):X.s₀.heap.objs.size<=s.heap.objs.size:=dz I.ok.above (zr I.lt)
def Inv.a1q(I:Inv X pins σ H s)(h:s.heap.objs.size<=a):a∉X.fs:=λZ=>by obtain⟨_,o,G,_⟩:=I.ok.V4.mem Z;exact absurd (gw (az G) (dz I.sz h)) (j9 _)
def Inv.cne(I:Inv X pins σ H s):∀x c,X.env.cells.lookup x=some c->c≠X.env.locals:=λx c e z=>by obtain⟨v,o,R,U⟩:=I.cell x c e;obtain⟨m,⟨o',es,ep,G,Z,_⟩,_⟩:=I.loc;rw[z,G]at R;cases R;rw[Z]at U;cases U
theorem Inv.V4(I:Inv X pins σ H s):s.heap.FunFrames X.base X.outer:=by
 have all:∀(l:List Env),(∀b∈frs l,b∈X.fs)->X.s₀.heap.FunFrames X.base l->s.heap.FunFrames X.base l:=by
  intro l
  induction l with
  |nil=>intro _ _;trivial
  |cons qq r ih =>
   intro R hl;obtain⟨hk,⟨L,o,U,hn,ho,hd⟩,hr⟩:=hl;have G:L∈X.fs:=R L (by unfold frs;rw[List.filterMap_cons,U];exact dh);obtain⟨sl,e⟩:=I.base.slot L o ho (I.ok.frf L G) G λz=>I.ok.avt L z G
   exact⟨hk,⟨L,_,U,hn,e,hd⟩,ih (λb Z=>R b (by unfold frs;rw[List.filterMap_cons,U];exact bc _ Z)) hr⟩
 exact all X.outer (λ_ Z=>Z) I.ok.V4
theorem Inv.stack(I:Inv X pins σ H s):s.heap.FunFrames X.base X.stack:=by
 rcases I.ok.stk with e|⟨e,hf⟩
 .rw[e];exact I.V4
 .rw[e]
  obtain⟨m,Z,_⟩:=I.loc;refine .cons (by rw[I.ok.kind];decide) hf Z ?_ I.V4;exact Heap.get?_none_of_le (dz I.ok.bsz I.ok.above)
def Inv.abz(I:Inv X pins σ H s):∀b∈frs X.stack,b∈X.env.locals::X.fs:=λb Z=>by
 rcases I.ok.stk with e|⟨e,hf⟩
 .rw[e]at Z;exact bc _ Z
 .rw[e]at Z
  unfold frs at Z;rw[List.filterMap_cons,hf]at Z;exact Z
def Inv.ai6(I:Inv X pins σ H s):∀b∈frs X.stack,H b=none:=λb Z=>by
 rcases cu.mp (I.abz b Z)with e|Z
 .rw[e];exact I.free
 .obtain⟨_,o,G,_⟩:=I.ok.V4.mem Z
  exact I.base.free b o G (I.ok.frf b Z) λz=>I.ok.avt b z Z
def Inv.step{ch:X9}(I:Inv X pins σ H s)(R:∀b∈ch,(b∈X.ex\/X.s₀.heap.objs.size<=b)/\b≠X.env.locals/\(∀x c,X.env.cells.lookup x=some c->c≠b)/\∀p∈X.pn++pins,p.1≠b)(keep:∀b o,b≠X.env.locals->b∉X.fs->b∉ch->s.heap.get? b=some o->H b=none->h'.get? b=some o)(qj:∀b o,b≠X.env.locals->b∈X.fs->b∉ch->s.heap.get? b=some o->H b=none->∃sl,h'.get? b=some { o with slots:=sl })(free:∀b o,b∉ch->s.heap.get? b=some o->H b=none->H' b=none)(qk:∀b o,b∉ch->s.heap.get? b=some o->∃o',h'.get? b=some o')(Xu:∀b xs,H b=some (.tup xs)->H' b=some (.tup xs))(q2:∀b o u,H b=some (.Ow o u)->H' b=some (.Ow o u))(q3:∀b ps,H b=some (.tbl ps)->∃qv,H' b=some (.tbl (ps++qv)))(ns:∀m,s.heap.Ns X.env.locals m->h'.Ns X.env.locals m)(Al:Qv X.prog X.w H' h')(hg:AllBare g') :
 Inv X pins σ H' { s with heap:=h',gens:=g',drawn:=d',toks:=t' }:=by
 have q0:∀b o,X.s₀.heap.get? b=some o->b≠X.env.locals:=λb o e=>f9 (gw (az e) I.ok.above)
 have qq:∀b o,X.s₀.heap.get? b=some o->b∉X.ex->b∉ch:=λb o e Z hb=>by
  rcases(R b hb).1 with z|z
  .exact Z z
  .exact absurd (gw (az e) z) (j9 _)
 have U:∀x c,X.env.cells.lookup x=some c->∀v,s.heap.IsCell c v->h'.IsCell c v:=λx c e v ⟨o,ho,hd⟩=>by
  have G:c∉ch:=λz=>(R c z).2.2.1 x c e rfl
  by_cases hc:c∈X.fs
  .obtain⟨sl,q⟩:=qj c o (I.cne x c e) hc G ho (I.Ox x c e)
   exact⟨_,q,hd⟩
  .exact⟨o,keep c o (I.cne x c e) hc G ho (I.Ox x c e),hd⟩
 refine⟨I.ok,I.os,hg,⟨λb o e n hb Z=>?_,λb o e n hb Z=>?_,λb o e n Z=>?_,λb o e Z=>?_,λb xs e=>Xu b xs (I.base.Xu b xs e),λb o xs e=>q2 b o xs (I.base.abx b o xs e),λb ps e=>?_⟩,?_,λx c e=>?_,?_,λx c e=>?_,λp hp=>?_,Al,I.len⟩
 .exact keep b o (q0 b o e) hb (qq b o e Z) (I.base.keep b o e n hb Z) (I.base.free b o e n Z)
 .obtain⟨sl,e1⟩:=I.base.slot b o e n hb Z
  obtain⟨q1,e2⟩:=qj b _ (q0 b o e) hb (qq b o e Z) e1 (I.base.free b o e n Z);exact⟨q1,e2⟩
 .obtain⟨o',e1⟩:=I.base.there b o e Z
  exact free b o' (qq b o e Z) e1 (I.base.free b o e n Z)
 .obtain⟨o',e1⟩:=I.base.there b o e Z
  exact qk b o' (qq b o e Z) e1
 .obtain⟨m1,e1⟩:=I.base.aee b ps e
  obtain⟨m2,e2⟩:=q3 b _ e1;exact⟨m1++m2,by rw[e2,Array.append_assoc]⟩
 .obtain⟨m,hn,hl⟩:=I.loc
  refine⟨m,ns m hn,λi x v e1 e2 e3=>?_⟩;obtain⟨u,r,l⟩:=hl i x v e1 e2 e3;refine⟨u,r,?_⟩;rcases l with l|⟨k,c,e,z⟩
  .exact .inl l
  .exact .inr ⟨k,c,e,U x c e _ z⟩
 .obtain⟨v,z⟩:=I.cell x c e
  exact⟨v,U x c e v z⟩
 .obtain⟨m,⟨o,_,_,ho,_⟩,_⟩:=I.loc
  exact free _ o (λz=>(R _ z).2.1 rfl) ho I.free
 .obtain⟨v,o,ho,hd⟩:=I.cell x c e
  exact free c o (λz=>(R c z).2.2.1 x c e rfl) ho (I.Ox x c e)
 .obtain⟨e,n,ne,nf,d⟩:=I.pin p hp
  have G:p.1∉ch:=λz=>(R p.1 z).2.2.2 p hp rfl
  exact⟨keep p.1 p.2 ne nf G e n,free p.1 p.2 G e n,ne,nf,d⟩
def Inv.un(I:Inv X pins σ H s)(u:Un X.fs [] H H' s.heap h')(Al:Qv X.prog X.w H' h'):Inv X pins σ H' { s with heap:=h',toks:=t' }:=by
 obtain⟨m,⟨o,es,ep,ho,r⟩,_⟩:=id I.loc;obtain⟨sl,hL⟩:=u.any ho I.free (by simp);exact I.step (g':=s.gens) (d':=s.drawn) (ch:=[]) (λ_ z=>nomatch z) (λb o _ R _ e n=>u.keep b o e n R (by simp)) (λb o _ R _ e n=>u.slot b o e n R (by simp)) (λb o _ e n=>u.free b o e n (by simp)) (λb o _ e=>u.there b o e (by simp)) u.Xu u.abx u.aee (λm' hm=>by
  obtain⟨o',G,U,Z,r'⟩:=hm;rw[ho]at Z;cases Z;exact⟨_,G,U,hL,r'⟩) Al I.bare
def Inv.call(I:Inv X pins σ H s)(u:Un (frs X.stack) ch H H' s.heap h')(Al:Qv X.prog X.w H' h')(hg:AllBare g')(U:∀b∈ch,(b∈X.ex\/X.s₀.heap.objs.size<=b)/\b≠X.env.locals/\(∀x c,X.env.cells.lookup x=some c->c≠b)/\∀p∈X.pn++pins,p.1≠b) :
 Inv X pins σ H' { s with heap:=h',gens:=g',drawn:=d',toks:=t' }:=by
 obtain⟨m,⟨o,es,ep,ho,r⟩,_⟩:=id I.loc;obtain⟨sl,hL⟩:=u.any ho I.free λz=>(U _ z).2.1 rfl
 exact I.step (ch:=ch) U (λb o hL hb Z e n=>u.keep b o e n (λz=>(cu.mp (I.abz b z)).elim hL hb) Z) (λb o _ _ Z e n=>u.any e n Z) (λb o Z e n=>u.free b o e n Z) (λb o Z e=>u.there b o e Z) u.Xu u.abx u.aee (λm' hm=>by
  obtain⟨o',R,qq,G,r'⟩:=hm;rw[ho]at G;cases G;exact⟨_,R,qq,hL,r'⟩) Al hg
def Inv.turned(I:Inv X pins σ H s)(k:∀b o,b≠it->s.heap.get? b=some o->h'.get? b=some o)(hn:H it=none)(U:it≠X.env.locals)(R:it∈X.ex\/X.s₀.heap.objs.size<=it)(h2:∀x c,X.env.cells.lookup x=some c->c≠it)(h3:∀p∈X.pn++pins,p.1≠it):Inv X pins σ H { s with heap:=h',toks:=t' }:=by
 have G:∀b u,H b=some u->b≠it:=λb u e z=>by rw[z,hn]at e;cases e
 refine I.step (g':=s.gens) (d':=s.drawn) (ch:=[it]) (λb hb=>?_) (λb o _ _ Z e _=>k b o (λz=>Z (by simp[z])) e) (λb o _ _ Z e _=>⟨o.slots,k b o (λz=>Z (by simp[z])) e⟩) (λ_ _ _ _ n=>n)
  (λb o Z e=>⟨o,k b o (λz=>Z (by simp[z])) e⟩) (λ_ _ e=>e) (λ_ _ _ e=>e) (λb ps e=>⟨#[],by rw[e];simp⟩) (λm hm=>?_) (λb u e=>?_) I.bare
 .have e:b=it:=by simpa using hb
  subst e;exact⟨R,U,h2,h3⟩
 .obtain⟨o,es,ep,ho,r⟩:=hm
  exact⟨o,es,ep,k _ o (j0 U) ho,r⟩
 .refine(I.Al b u e).stay (λc v Z q=>k c v ?_ q) (λ_ q=>q) λ_ _ q=>q
  rcases Z with z|z
  .rw[z];exact G b u e
  .exact G c _ z
def Inv.tok(I:Inv X pins σ H s)(t:Nat):Inv X pins σ H { s with toks:=t }:=I.un (h':=s.heap) (t':=t) Un.refl I.Al
theorem Inv.kept(I:Inv X pins σ H s)(k:∀b u,s.heap.get? b=some u->Z.get? b=some u):Inv X pins σ H { s with heap:=Z,toks:=t' }:=I.un (Un.kept k) (I.Al.kept k)
theorem Inv.laid(I:Inv X pins σ H s)(k:∀b u,s.heap.get? b=some u->h'.get? b=some u)(Z:s.heap.objs.size<=a)(new:Be X.prog X.w (upd H a o) h' a o) :
 Inv X pins σ (upd H a o) { s with heap:=h',toks:=t' }:=I.un (Un.laid k Z (I.Al.fresh Z)) (I.Al.laid k Z new)
theorem Inv.write(I:Inv X pins σ H s)(R:Mut (H x))(U:e=x\/H e=some (.own x))(k:∀b u,b≠e->s.heap.get? b=some u->G.get? b=some u)(Z:∃u,G.get? e=some u)(new:Be X.prog X.w (upd H x o) G x o):Inv X pins σ (upd H x o) { s with heap:=G,toks:=t' }:=I.un (Un.write R U k Z) (I.Al.write R U k Z new)
def Inv.weak(I:Inv X pins σ H s)(Z:σ'.length=σ.length)(w:∀(i:Nat) v,σ'[i]?=some (some v)->σ[i]?=some (some v)):Inv X pins σ' H s:=
 ⟨I.ok,I.os,I.bare,I.base,let ⟨m,hn,hl'⟩:=I.loc;⟨m,hn,λi x v G R U=>hl' i x v G (w i v R) U⟩,I.cell,I.free,I.Ox,I.pin,I.Al,Z.trans I.len⟩
def Inv.Sx(I:Inv X pins σ H s)(h:∀p∈ai7,s.heap.get? p.1=some p.2/\H p.1=none/\p.1≠X.env.locals/\p.1∉X.fs/\∀v,p.2.data≠.cell v):Inv X ai7 σ H s:=
 ⟨I.ok,I.os,I.bare,I.base,I.loc,I.cell,I.free,I.Ox,λp Z=>(dw.mp Z).elim (λz=>I.pin p (yt _ z)) (h p),I.Al,I.len⟩
def Kw{N:Yf}(G:N.Nodup){i:Nat}(a:N[i]?=some x)(b:N[j]?=some x):i=j:=by obtain⟨R,Z⟩:=ak.mp a;obtain⟨h2,U⟩:=ak.mp b;exact(Ay G).mp (Z.trans U.symm)
def alr(I:Inv X pins σ H s)(hN:X.N.Nodup)(hi:X.N[i]?=some x)(hx:Loc X.env.scope x)(r:RelV v u)(h:∀s',Inv X pins (σ.set i (some v)) H s'->(∃a,Heap.SameBut a s.heap s'.heap/\(a=X.env.locals\/X.env.cells.lookup x=some a))->Q () s')(hf:X.fn x=true\/X.env.scope.names.lookup x=some .local:=by first|exact .inl rfl|exact .inr rfl|assumption):wpAny M A (storeName X.env x u) Q E s:=by
 obtain⟨m,hn,hl⟩:=id I.loc;have q1:(X.env.scope.kind==.class||(X.env.scope.kind==.module&&X.env.locals != X.env.globals))=false:=by rw[I.ok.kind];rfl
 have qq:i < σ.length:=by rw[I.len];exact(ak.mp hi).1
 have cne:=I.cne;have U:∀{a:Addr}{h':Heap},(∃o,s.heap.get? a=some o/\H a=none)->Heap.SameBut a s.heap h'->Qv X.prog X.w H h':=fun{a h'} ha Z b ob e=>by
  obtain⟨_,_,Qw⟩:=ha;refine(I.Al b ob e).stay (λc w' R q=>(Z.2 c ?_).trans q) (λ_ q=>q) λ_ _ q=>q
  rintro rfl;rcases R with rfl|R
  .rw[Qw]at e;cases e
  .rw[Qw]at R;cases R
 rcases hx with hk|hk
 .refine wpAny_storeName_local hk hn (λh' Py Z=>?_) q1
  obtain⟨oL,_,_,q3,_⟩:=id hn;refine h _ ⟨I.ok,I.os,I.bare,⟨λb o e n hb hx=>?_,λb o e n hb hx=>?_,I.base.free,λb o e hx=>?_,I.base.Xu,I.base.abx,I.base.aee⟩,⟨_,Py,λj y v' G e2 e3=>?_⟩,λy c e=>?_,I.free,I.Ox,λp hp=>?_,U ⟨oL,q3,I.free⟩ Z,by simpa using I.len⟩ ⟨_,Z,.inl rfl⟩
  .exact(Z.2 b (f9 (gw (az e) I.ok.above))).trans (I.base.keep b o e n hb hx)
  .obtain⟨sl,G⟩:=I.base.slot b o e n hb hx
   exact⟨sl,(Z.2 b (f9 (gw (az e) I.ok.above))).trans G⟩
  .obtain⟨o',G⟩:=I.base.there b o e hx
   exact⟨o',(Z.2 b (f9 (gw (az e) I.ok.above))).trans G⟩
  .by_cases hj:j=i
   .subst hj
    rw[hi]at G;cases G;rw[z6 qq]at e2;cases e2;exact⟨u,r,.inl ⟨hk,by simp⟩⟩
   .rw[uz (j0 hj)]at e2
    obtain⟨u',r',q⟩:=hl j y v' G e2 e3;refine⟨u',r',?_⟩;rcases q with⟨k,e⟩|⟨k,c,e,z⟩
    .refine .inl ⟨k,?_⟩
     have:y≠x:=λe=>hj (Kw hN G (e▸hi))
     simp[this,e]
    .exact .inr ⟨k,c,e,z.sameBut Z (cne y c e)⟩
  .obtain⟨w',z⟩:=I.cell y c e
   exact⟨w',z.sameBut Z (cne y c e)⟩
  .obtain⟨e,n,ne,nf,d⟩:=I.pin p hp
   exact⟨(Z.2 p.1 ne).trans e,n,ne,nf,d⟩
 .have qj:X.fn x=true:=by
   rcases hf with z|z
   .exact z
   .rw[z]at hk;cases hk
  obtain⟨c,R⟩:=I.ok.has x (.inl hk);obtain⟨w',z⟩:=I.cell x c R;refine wpAny_storeName_cell I.ok.kind hk R z (λh' qk Z=>?_);obtain⟨oc,qv,q2⟩:=id z;refine h { s with heap:=h' } ⟨I.ok,I.os,I.bare,⟨λb o e n hb hx=>?_,λb o e n hb hx=>?_,I.base.free,λb o e hx=>?_,I.base.Xu,I.base.abx,I.base.aee⟩,⟨m,hn.sameBut Z (j0 (cne x c R)),λj y v' G e2 e3=>?_⟩,λy c' e=>?_,I.free,I.Ox,λp hp=>?_,U ⟨oc,qv,I.Ox x c R⟩ Z,by simpa using I.len⟩ ⟨c,Z,.inr R⟩
  .exact(Z.2 b (f9 (gw (az e) (I.ok.cab x c qj R)))).trans (I.base.keep b o e n hb hx)
  .obtain⟨sl,G⟩:=I.base.slot b o e n hb hx
   exact⟨sl,(Z.2 b (f9 (gw (az e) (I.ok.cab x c qj R)))).trans G⟩
  .obtain⟨o',G⟩:=I.base.there b o e hx
   exact⟨o',(Z.2 b (f9 (gw (az e) (I.ok.cab x c qj R)))).trans G⟩
  .by_cases hj:j=i
   .subst hj
    rw[hi]at G;cases G;rw[z6 qq]at e2;cases e2;exact⟨u,r,.inr ⟨.inl hk,c,R,qk⟩⟩
   .rw[uz (j0 hj)]at e2
    obtain⟨u',r',q⟩:=hl j y v' G e2 e3;refine⟨u',r',?_⟩;rcases q with q|⟨k,c',e,z'⟩
    .exact .inl q
    .refine .inr ⟨k,c',e,z'.sameBut Z ?_⟩
     rintro rfl;exact hj (Kw hN G (I.ok.inj _ _ _ e R▸hi))
  .by_cases q0:c'=c
   .subst q0;exact⟨_,qk⟩
   .obtain⟨w2,z2⟩:=I.cell y c' e
    exact⟨w2,z2.sameBut Z q0⟩
  .obtain⟨e,n,ne,nf,d⟩:=I.pin p hp
   refine⟨(Z.2 p.1 ?_).trans e,n,ne,nf,d⟩;intro q;rw[q,qv]at e;have q':oc=p.2:=jk e;exact d w' (by rw[<-q'];exact q2)
def aph(I:Inv X pins σ H s)(U:X.N.Nodup)(G:X.N[i]?=some x)(hx:Loc X.env.scope x)(r:RelV v u)(h:∀Z,Inv X pins (σ.set i (some v)) H Z->Q () Z)(hf:X.fn x=true\/X.env.scope.names.lookup x=some .local:=by first|exact .inl rfl|exact .inr rfl|assumption):wpAny M A (storeName X.env x u) Q E s:=
 alr I U G hx r (λZ R _=>h Z R) hf
def Inv.call'(I:Inv X pins σ H s)(ho:s'.os=s.os)(u:Un (frs X.stack) ch H G s.heap s'.heap)(Al:Qv X.prog X.w G s'.heap)(hg:AllBare s'.gens)(Z:∀b∈ch,(b∈X.ex\/X.s₀.heap.objs.size<=b)/\b≠X.env.locals/\(∀x c,X.env.cells.lookup x=some c->c≠b)/\∀p∈X.pn++pins,p.1≠b):Inv X pins σ G s':=by obtain⟨h',U,d',R,o'⟩:=s';have e:o'=s.os:=ho;subst e;exact I.call (g':=U) (t':=R) (d':=d') u Al hg Z
abbrev XK:=Value->Option Addr->Hp->Prop
abbrev St:=List (Option V)
abbrev VK:=V->Hp->Prop
abbrev TE:=St->Hp->VK->Prop
abbrev TT:=St->Hp->(Bool->Hp->Prop)->Prop
abbrev TA:=St->Hp->(List V->Hp->Prop)->Prop
structure Ends where
 nx:St->Hp->Prop
 rt:VK
 bk:St->Hp->Prop:=λ_ _=>False
 ct:St->Hp->Prop:=λ_ _=>False
abbrev TS:=Ends->St->Hp->Prop
def EP(X:Cx)(Z:Zp)(R:St)(Q:VK)(u:Value)(U:Shared):Prop:=∃v G,Inv X Z R G U/\RelV v u/\Q v G
def TP(X:Cx)(Z:Zp)(R:St)(Q:Bool->Hp->Prop)(b:Bool)(U:Shared):Prop:=∃G,Inv X Z R G U/\Q b G
def AP(X:Cx)(Z:Zp)(σ:St)(Q:List V->Hp->Prop)(us:Zl)(R:Shared):Prop:=∃U G,Inv X Z σ G R/\Vals U us/\Q U G
def SP(X:Cx)(G:Zp)(D:Ends)(f:Flow)(R:Shared):Prop:=
 match f with
 |.next=>∃Z U,Inv X G Z U R/\D.nx Z U|.brk=>∃Z U,Inv X G Z U R/\D.bk Z U|.cont=>∃Z U,Inv X G Z U R/\D.ct Z U|.ret u=>∃v Z U,Inv X G Z U R/\RelV v u/\D.rt v U
def PE(X:Cx)(e:Expr)(t:TE):Prop:=
 ∀(Z:Zp)(s:Shared)(G:St)(H:Hp)(Q:VK),Inv X Z G H s->t G H Q->wpAny (model X.prog X.w) X.A (eval e X.env) (EP X Z G Q) X.xe s
def PT(X:Cx)(e:Expr)(t:TT):Prop:=
 ∀(Z:Zp)(s:Shared)(G:St)(H:Hp)(Q:Bool->Hp->Prop),Inv X Z G H s->t G H Q->wpAny (model X.prog X.w) X.A (isTrue e X.env (eval e X.env)) (TP X Z G Q) X.xe s
def PW(X:Cx)(e:Expr)(t:TT):Prop:=
 ∀(G:Sem Value)(Z:Zp)(s:Shared)(U:St)(H:Hp)(Q:Bool->Hp->Prop),Inv X Z U H s->t U H Q->wpAny (model X.prog X.w) X.A (isTrue e X.env G) (TP X Z U Q) X.xe s
def PW.pt(h:PW X e t):PT X e t:=h _
def PA(X:Cx)(U:Ya)(t:TA):Prop:=
 ∀(pos:Pos)(Z:Zp)(s:Shared)(G:St)(H:Hp)(Q:List V->Hp->Prop),Inv X Z G H s->t G H Q->wpAny (model X.prog X.w) X.A (spliced (backTo pos (starEach U X.env))) (AP X Z G Q) X.xe s
def PS(X:Cx)(st:Stmt)(t:TS):Prop:=
 ∀(Z:Zp)(s:Shared)(G:St)(H:Hp)(D:Ends),Inv X Z G H s->t D G H->wpAny (model X.prog X.w) X.A (exec st X.env) (SP X Z D) X.xe s
def Sy(X:Cx)(st:List Stmt)(t:TS):Prop:=
 ∀(Z:Zp)(s:Shared)(G:St)(H:Hp)(D:Ends),Inv X Z G H s->t D G H->wpAny (model X.prog X.w) X.A (execs st X.env) (SP X Z D) X.xe s
def Bp(h:wpAny M A t Q E s)(Z:∀a s,Q a s->G a s):wpAny M A t G E s:=j7 h Z λ_ _ x=>x
end L2
namespace L2
open PySem PySem.Spec PyProof.Rows
def bfd(i:Nat):TE:=λZ H Q=>∃v,Z[i]?=some (some v)/\Q v H
def tC(v:V):TE:=λ_ H Q=>Q v H
def a1s(hN:X.N[i]?=some x)(hv:Vis X.env.scope x)(hd:(x==("__debug__": Str))=false:=by decide)(R:(x==("__classdict__": Str))=false:=by decide):PE X (.Name x pos) (bfd i):=by
 intro G s σ H Q I h;obtain⟨v,e,h⟩:=h;obtain⟨m,hn,hl⟩:=I.loc;obtain⟨u,r,l⟩:=hl i x v hN e hv;have fin:EP X G σ Q u s:=⟨v,H,I,r,h⟩;rcases l with⟨Z,hm⟩|⟨Z,c,hc,U⟩
 .exact wpAny_Name (wpAny_loadName_local I.ok.kind Z hn hm fin) hd
 .rcases Z with Z|Z
  .exact wpAny_Name (wpAny_loadName_cell I.ok.kind Z hc U fin) hd
  .exact wpAny_Name (wpAny_loadName_free I.ok.kind Z hc U fin R) hd
def a1t:PE X (.Constant (.int i) j pos) (tC (.int i)):=λ_ _ _ H _ I h=>wpAny_Constant_int ⟨.int i,H,I.tok _,⟨_,rfl⟩,h⟩
def a8r:PE X (.Constant (.bool b) j pos) (tC (.bl b)):=λ_ _ _ H _ I h=>Constant_bool ⟨.bl b,H,I,rfl,h⟩
def a1u:PE X (.Constant .none j pos) (tC .non):=λ_ _ _ H _ I h=>Constant_none ⟨.non,H,I,rfl,h⟩
def a1v:PE X (.Constant (.str x) j pos) (tC (.str x)):=λ_ _ _ H _ I h=>Calls.Constant_str ⟨.str x,H,I.tok _,⟨_,rfl⟩,h⟩
def Gl(X:Cx)(x:Str):Prop:=X.env.kindOf x=some .globalImplicit
def ab0(I:Inv X pins σ H s)(U:Gl X x)(G:X.mg x=some u)(h:Q u s)(Z:(x==("__debug__": Str))=false:=by decide):wpAny (model X.prog X.w) X.A (eval (.Name x pos) X.env) Q E s:=
 Calls.Name_function_global I.ok.kind U (Calls.loadGlobal_global (by rw[I.ok.glob];exact I.mod.glob.keeps I.bk) G h) Z
def Dw(I:Inv X pins σ H s)(hg:Gl X x)(hm:X.mg x=none)(hv:bootBuiltins x=some u)(h:Q u s)(G:x≠"__name__":= by decide)(R:(x==("__debug__": Str))=false:=by decide):wpAny (model X.prog X.w) X.A (eval (.Name x pos) X.env) Q E s:=by obtain⟨mb,Z,U⟩:=I.mod.blt;exact Calls.Name_function_global I.ok.kind hg (Calls.loadGlobal_builtin (by rw[I.ok.glob];exact I.mod.glob.keeps I.bk) hm (by rw[I.ok.blt];exact Z.keeps I.bk) ((U x G).trans hv) h) R
def ai8(U:Gl X x)(G:X.mg x=some u)(r:RelV v u)(Z:(x==("__debug__": Str))=false:=by decide):PE X (.Name x pos) (tC v):=
 λ_ _ _ H _ I h=>ab0 I U G ⟨v,H,I,r,h⟩ Z
def PC(X:Cx)(op:CmpOp)(a b:Expr)(t:TE):Prop:=
 ∀(Z:Zp)(s:Shared)(R:St)(H:Hp)(Q:VK),Inv X Z R H s->t R H Q ->
  wpAny (model X.prog X.w) X.A (eval a X.env) (λv U=>wpAny (model X.prog X.w) X.A (eval b X.env) (λu G=>wpAny (model X.prog X.w) X.A (compareOp op v u) (EP X Z R Q) X.xe G) X.xe U) X.xe s
def aef(b:Expr)(h:op≠.In)(G:op≠.NotIn):behindInMarks op b=false:=by
 have Z:(op==CmpOp.In)=false:=by cases op<;>first|rfl|exact absurd rfl h
 have U:(op==CmpOp.NotIn)=false:=by cases op<;>first|rfl|exact absurd rfl G
 cases b<;>simp[behindInMarks,Z,U]
def tB(t:TE):TT:=λZ H Q=>t Z H λx G=>∃c,x=.bl c/\Q c G
def a1w(h:PC X op a b t)(U:behindInMarks op b=false:=by first|exact aef _ (by decide) (by decide)|rfl):PE X (.Compare a [op] [b] pos) t:=λZ s G H Q I R=>wpAny_Compare1 (h Z s G H Q I R) U
def a1x(h:PC X op a b t)(G:behindInMarks op b=false:=by first|exact aef _ (by decide) (by decide)|rfl):PT X (.Compare a [op] [b] pos) (tB t):=by intro Z s U H Q I hw;refine wpAny_isTrue_Compare1 (Bp (h Z s U H _ I hw) λv s1 G=>Bp G λu s2 R=>Bp R λc s3 ⟨x,H1,I1,r1,q1⟩=>?_) G;obtain⟨d,rfl,q⟩:=q1;cases r1;exact jy ⟨H1,I1,q⟩
def a1y(h:PE X e t)(R:∀Z,isTrue e X.env Z=(do let v<-Z;standAt e.pos;holding [v] (truthy v)):=by intro _;rfl):PT X e (tB t):=by intro G s U H Q I hw;refine isTrue_plain (Bp (h G s U H _ I hw) λv s1 ⟨x,H1,I1,r1,q1⟩=>?_) (R _);obtain⟨d,rfl,q⟩:=q1;cases r1;exact jy ⟨H1,I1,q⟩
def bfe(t u:TT):TT:=λZ H Q=>t Z H λc G=>if c=true then u Z G Q else Q false G
def tOr(t u:TT):TT:=λZ H Q=>t Z H λc G=>if c=true then Q true G else u Z G Q
def bff(t:TT):TT:=λZ H Q=>t Z H λc G=>Q (!c) G
def avu(U:PT X a tA):PW X (.BoolOp .And [a] pos) tA:=by
 intro wh Z s G H Q I h;refine isTrue_and (Bp (U Z s G H Q I h) λc R e=>?_);cases c with
 |true=>exact isTrue_and_nil e|false=>exact e
def a1z(U:PT X a tA):PW X (.BoolOp .Or [a] pos) tA:=by
 intro wh Z s G H Q I h;refine isTrue_or (Bp (U Z s G H Q I h) λc R e=>?_);cases c with
 |false=>exact isTrue_or_nil e|true=>exact e
def a2a{G:Ya}(ha:PT X a tA)(hb:PW X (.BoolOp .And (b::G) pos) tB'):PW X (.BoolOp .And (a::b::G) pos) (bfe tA tB'):=by
 intro wh Z s U H Q I h;refine isTrue_and (Bp (ha Z s U H _ I h) λc s1 z_=>?_);obtain⟨H1,R,q1⟩:=z_;cases c with
 |true=>exact hb wh Z s1 U H1 Q R q1|false=>exact⟨H1,R,q1⟩
def a8s{G:Ya}(ha:PT X a tA)(hb:PW X (.BoolOp .Or (b::G) pos) tB'):PW X (.BoolOp .Or (a::b::G) pos) (tOr tA tB'):=by
 intro wh Z s U H Q I h;refine isTrue_or (Bp (ha Z s U H _ I h) λc s1 z_=>?_);obtain⟨H1,R,q1⟩:=z_;cases c with
 |true=>exact⟨H1,R,q1⟩|false=>exact hb wh Z s1 U H1 Q R q1
def api(G:PT X a tA):PT X (.UnaryOp .Not a pos) (bff tA):=by intro Z s U H Q I h;exact isTrue_not (G Z s U H (λc R=>Q (!c) R) I h)
def a8t(U R:TE):TE:=λZ H Q=>U Z H λx G=>∃c,x=.bl c/\if c=true then R Z G Q else Q (.bl false) G
def bfh(U R:TE):TE:=λZ H Q=>U Z H λx G=>∃c,x=.bl c/\if c=true then Q (.bl true) G else R Z G Q
def a8u(Z:TE):TE:=λG H Q=>Z G H λx U=>∃c,x=.bl c/\Q (.bl (!c)) U
def a2b{G:Ya}(ha:PE X a ta)(hb:PE X (.BoolOp .And (b::G) pos) tb):PE X (.BoolOp .And (a::b::G) pos) (a8t ta tb):=by
 intro Z s R H Q I h;refine BoolOp_and (Bp (ha Z s R H _ I h) λv s1 z_=>?_);obtain⟨x,H1,I1,r1,U⟩:=z_;obtain⟨c,rfl,U⟩:=U;cases r1;refine jy ?_;cases c with
 |true=>exact hb Z s1 R H1 Q I1 U|false=>exact⟨.bl false,H1,I1,rfl,U⟩
def a8v{G:Ya}(ha:PE X a ta)(hb:PE X (.BoolOp .Or (b::G) pos) tb):PE X (.BoolOp .Or (a::b::G) pos) (bfh ta tb):=by
 intro Z s R H Q I h;refine BoolOp_or (Bp (ha Z s R H _ I h) λv s1 z_=>?_);obtain⟨x,H1,I1,r1,U⟩:=z_;obtain⟨c,rfl,U⟩:=U;cases r1;refine jy ?_;cases c with
 |false=>exact hb Z s1 R H1 Q I1 U|true=>exact⟨.bl true,H1,I1,rfl,U⟩
def a2c(ha:PE X a R):PE X (.UnaryOp .Not a pos) (a8u R):=by intro Z s U H Q I h;refine UnaryOp_ (Bp (ha Z s U H _ I h) λv s1 z_=>?_);obtain⟨x,H1,I1,r1,G⟩:=z_;obtain⟨c,rfl,G⟩:=G;cases r1;exact not_of (jy ⟨.bl (!c),H1,I1,rfl,G⟩)
def tIf(t:TT)(U R:TE):TE:=λZ H Q=>t Z H λc G=>if c=true then U Z G Q else R Z G Q
def apj(hc:PT X c tA)(ha:PE X a ta)(hb:PE X b tb):PE X (.IfExp c a b pos) (tIf tA ta tb):=by
 intro Z s G H Q I h;refine wpAny_IfExp (Bp (hc Z s G H _ I h) λd R z_=>?_);obtain⟨H1,U,q1⟩:=z_;cases d with
 |true=>exact ha Z R G H1 Q U q1|false=>exact hb Z R G H1 Q U q1
end L2
namespace L2
open PySem PySem.Spec PyProof.Rows
def Hq(K:Fg)(H:Hp)(a:Addr)(G:List V):Prop:=
 Rd H a (.lst G) \/
  ∃(o:Obj)(Z:U1)(n:Nat),K.lookup a=some o/\o.cls=.type "list"/\o.dict=none/\o.data=.seq Z n/\Z.size<=sizeLine/\Vals G Z.toList
def Hl(K:Fg)(H:Hp)(a:Addr)(G:List V):Prop:=
 Rd H a (.tup G) \/
  ∃(o:Obj)(Z:U1)(n:Nat),K.lookup a=some o/\o.cls=.type "tuple"/\o.data=.seq Z n/\Z.size<=sizeLine/\Vals G Z.toList
noncomputable def bfi:Value->Option V
 |.none=>some .non|.bool b=>some (.bl b)|.int i _=>some (.int i)|.str x _=>some (.str x)|.bytes b _=>some (.byt b)|.float b _=>some (.flt b)|.ref a=>some (.ref a)|.type n=>some (.ty n)|_=>none
def RelV.abs(r:RelV x u):bfi u=some x:=by
 cases x with
 |non=>cases r;rfl|bl _=>cases r;rfl|int _=>obtain⟨t,rfl⟩:=r;rfl
 |str _=>obtain⟨t,rfl⟩:=r;rfl
 |byt _=>obtain⟨t,rfl⟩:=r;rfl
 |flt _=>obtain⟨t,rfl⟩:=r;rfl
 |ref _=>cases r;rfl|ty _=>cases r;rfl
def RelV.inj(r:RelV x u)(q:RelV y u):x=y:=jk (r.abs.symm.trans q.abs)
theorem Vals.inj:∀{G U:List V}{Z:Zl},Vals G Z->Vals U Z->G=U
 |_,_,_,.nil,.nil=>rfl|_,_,_,.cons r t,.cons r' t'=>by rw[r.inj r',Vals.inj t t']
def Hq.of{K:Fg}(h:H a=some (.lst xs)):Hq K H a xs:=.inl (.inl h)
def Hl.of{K:Fg}(h:H a=some (.tup xs)):Hl K H a xs:=.inl (.inl h)
def Inv.list(I:Inv X pins σ H s)(h:Hq X.K H a G):∃Z:List Value,Vals G Z/\PlainL s.heap a Z.toArray/\G.length<=sizeLine:=by
 rcases h with h|⟨o,Z,n,hk,hc,hd,hs,hz,r⟩
 .obtain⟨z,Z,n,r,e⟩:=h.ok I.Al
  exact⟨Z,r,⟨_,n,e,rfl,rfl,rfl⟩,z⟩
 .refine⟨Z.toList,r,⟨o,n,I.V5 a o hk,hc,hd,by simpa using hs⟩,?_⟩
  have e:=r.length;simp only[ql]at e;exact a_ (f_ e) hz
def Inv.tuple(I:Inv X pins σ H s)(h:Hl X.K H a G):∃Z:List Value,Vals G Z/\IsTup s.heap a Z.toArray/\G.length<=sizeLine:=by
 rcases h with h|⟨o,Z,n,hk,hc,hs,hz,r⟩
 .obtain⟨z,Z,r,p⟩:=h.ok I.Al
  exact⟨Z,r,p.is,z⟩
 .refine⟨Z.toList,r,⟨o,I.V5 a o hk,hc,n,by simpa using hs⟩,?_⟩
  have e:=r.length;simp only[ql]at e;exact a_ (f_ e) hz
def Inv.aeg(I:Inv X pins σ H s)(h:Hq X.K H a R)(U:Hq X.K H a ys):R=ys:=by
 obtain⟨ye,r,⟨o,n,e,_,_,d⟩,_⟩:=I.list h;obtain⟨its',r',⟨o',n',G,_,_,Z⟩,_⟩:=I.list U;rw[e]at G;cases G;rw[d]at Z;injection Z with d1 _
 have:ye=its':=by simpa using mq Array.toList d1
 subst this;exact r.inj r'
def Inv.Uh(I:Inv X pins σ H s)(h:Hl X.K H a R)(U:Hl X.K H a ys):R=ys:=by
 obtain⟨ye,r,⟨o,e,_,n,d⟩,_⟩:=I.tuple h;obtain⟨its',r',⟨o',G,_,n',Z⟩,_⟩:=I.tuple U;rw[e]at G;cases G;rw[d]at Z;injection Z with d1 _
 have:ye=its':=by simpa using mq Array.toList d1
 subst this;exact r.inj r'
noncomputable abbrev Cx.Zm(X:Cx)(E:Y1):Cx:={ X with xe:=E }
abbrev Cx.nox(X:Cx):Cx:=X.Zm λ_ _=>False
theorem Cx.Ok.Zm{X:Cx}(ok:X.Ok)(E:Y1):(X.Zm E).Ok:=
 ⟨ok.mod,ok.kind,ok.glob,ok.blt,ok.above,ok.inj,ok.has,ok.cab,ok.hd,ok.frames,ok.stk,ok.exf,ok.bs,ok.bsz,ok.apf,ok.avt,ok.V4,ok.frf⟩
def Cx.Ok.Oz{X:Cx}(ok:(X.Zm E).Ok):X.Ok:=
 ⟨ok.mod,ok.kind,ok.glob,ok.blt,ok.above,ok.inj,ok.has,ok.cab,ok.hd,ok.frames,ok.stk,ok.exf,ok.bs,ok.bsz,ok.apf,ok.avt,ok.V4,ok.frf⟩
theorem Inv.Zm(I:Inv X pins σ H s)(E:Y1):Inv (X.Zm E) pins σ H s:=⟨I.ok.Zm E,I.os,I.bare,I.base,I.loc,I.cell,I.free,I.Ox,I.pin,I.Al,I.len⟩
theorem Inv.Oz(I:Inv (X.Zm E) pins σ H s):Inv X pins σ H s:=⟨I.ok.Oz,I.os,I.bare,I.base,I.loc,I.cell,I.free,I.Ox,I.pin,I.Al,I.len⟩
theorem SP.Oz(h:SP (X.Zm E) pins D f s'):SP X pins D f s':=by
 cases f with
 |next=>obtain⟨Z,G,I,q⟩:=h;exact⟨Z,G,I.Oz,q⟩
 |brk=>obtain⟨Z,G,I,q⟩:=h;exact⟨Z,G,I.Oz,q⟩
 |cont=>obtain⟨Z,G,I,q⟩:=h;exact⟨Z,G,I.Oz,q⟩
 |ret u=>obtain⟨v,Z,G,I,r,q⟩:=h;exact⟨v,Z,G,I.Oz,r,q⟩
theorem Sy.nox{st:List Stmt}(h:Sy X.nox st t):Sy X st t:=λZ s G H D I U =>
 j7 (h Z s G H D (I.Zm _) U) (λ_ _ q=>q.Oz) λ_ _ z=>False.elim z
def a8x:TS:=λD Z H=>D.nx Z H
def bfj(t u:TS):TS:=λD Z H=>t { D with nx:=u D } Z H
def avv:Sy X [] a8x:=λ_ _ Z H _ I h=>wpAny_execs_nil ⟨Z,H,I,h⟩
def apk{st:Stmt}{G:List Stmt}(R:PS X st t)(h2:Sy X G u):Sy X (st::G) (bfj t u):=by
 intro Z s σ H D I h;refine wpAny_execs_cons (Bp (R Z s σ H { D with nx:=u D } I h) λf s1 q=>?_);cases f with
 |next =>
  obtain⟨U,H',I',q⟩:=q;exact h2 Z s1 U H' D I' q
 |ret v=>exact q|brk=>exact q|cont=>exact q
def a2d:TS:=λD Z H=>D.bk Z H
def a8y:TS:=λD Z H=>D.ct Z H
def apl:PS X (.Break pos) a2d:=λ_ _ Z H _ I h=>wpAny_Break ⟨Z,H,I,h⟩
def aeh:PS X (.Continue pos) a8y:=λ_ _ Z H _ I h=>wpAny_Continue ⟨Z,H,I,h⟩
def Inv.quiet(I:Inv X pins σ H s):interactive X.env=false:=by simp[interactive,I.ok.kind]
def a8z(G:TE):TS:=λD Z H=>G Z H λ_ U=>D.nx Z U
def avw(R:PE X e U)(hs:swapsWith e none pos.line X.env=pure false:=by rfl):PS X (.Expr e pos) (a8z U):=by intro Z s G H D I h;exact wpAny_Expr_any (Bp (R Z s G H _ I h) λv s1 ⟨x,H1,I1,r1,q1⟩=>⟨G,H1,I1,q1⟩) I.quiet hs
def bfk(Z:TE):TS:=λD G H=>Z G H D.rt
def a2e(R:PE X e U):PS X (.Return (some e) pos) (bfk U):=by intro Z s G H D I h;exact wpAny_Return_some (Bp (R Z s G H _ I h) λv s1 ⟨x,H1,I1,r1,q1⟩=>⟨x,G,H1,I1,r1,q1⟩)
def bfl(c:TT)(t u:TS):TS:=λD Z H=>c Z H λb G=>if b=true then t D Z G else u D Z G
def a80(hc:PT X c tc)(ha:Sy X a t)(hb:Sy X b u):PS X (.If c a b pos) (bfl tc t u):=by
 intro Z s G H D I h;refine wpAny_If (Bp (hc Z s G H _ I h) λd R z_=>?_);obtain⟨H1,U,q1⟩:=z_;cases d with
 |true=>exact ha Z R G H1 D U q1|false=>exact hb Z R G H1 D U q1
abbrev TG:=V->St->Hp->(St->Hp->Prop)->Prop
abbrev TGs:=List V->St->Hp->(St->Hp->Prop)->Prop
def PG(X:Cx)(Z:Expr)(t:TG):Prop:=
 ∀(G:Zp)(s:Shared)(R:St)(H:Hp)(v:V)(u:Value)(Q:St->Hp->Prop),Inv X G R H s->RelV v u->t v R H Q ->
  wpAny (model X.prog X.w) X.A (assign Z X.env u) (λ_ s'=>∃U H',Inv X G U H' s'/\Q U H') X.xe s
def PGs(X:Cx)(ts:Ya)(t:TGs):Prop:=
 ∀(Z:Zp)(s:Shared)(U:St)(H:Hp)(vs:List V)(us:Zl)(Q:St->Hp->Prop),Inv X Z U H s->Vals vs us->t vs U H Q ->
  wpAny (model X.prog X.w) X.A (assignInOrder ((assignEach ts X.env).map (·.2)) us) (λ_ s'=>∃G R,Inv X Z G R s'/\Q G R) X.xe s
abbrev a2f:=V->V->V->Hp->(Hp->Prop)->Prop
def a2g(X:Cx)(t:a2f):Prop:=
 ∀(Z:Zp)(s:Shared)(U:St)(H:Hp)(o i v:V)(G iv u:Value)(Q:Hp->Prop),Inv X Z U H s->RelV o G->RelV i iv->RelV v u->t o i v H Q ->
  wpAny (model X.prog X.w) X.A (setItem G iv u) (λ_ s'=>∃R,Inv X Z U R s'/\Q R) X.xe s
def ai9(i:Nat):TG:=λv Z H Q=>Q (Z.set i (some v)) H
def ab1(U:X.N.Nodup)(G:X.N[i]?=some x)(hx:Loc X.env.scope x)(hf:X.fn x=true\/X.env.scope.names.lookup x=some .local:=by first|exact .inl rfl|exact .inr rfl|assumption):PG X (.Name x pos) (ai9 i):=by intro Z s σ H v u Q I r h;exact wpAny_assign_Name (aph I U G hx r (λs' R=>⟨_,H,R,h⟩) hf)
def bfm:TGs:=λG Z H Q=>G=[]/\Q Z H
def a83(t:TG)(u:TGs):TGs:=λU G H Q=>∃v r,U=v::r/\t v G H λZ R=>u r Z R Q
def avx:PGs X [] bfm:=by intro Z s G H R U Q I r h;obtain⟨e,h⟩:=h;subst e;cases r;exact assignInOrder_nil ⟨G,H,I,h⟩
def apm(R:PG X e t)(h2:PGs X U u)(hs:(assignEach (e::U) X.env).map (·.2)=assign e X.env::(assignEach U X.env).map (·.2):=by rfl):PGs X (e::U) (a83 t u):=by
 intro Z s σ H vs us Q I r h;obtain⟨v,vr,e1,h⟩:=h;subst e1;cases r with
 |cons r rr =>
  rw[hs];refine assignInOrder_cons (Bp (R Z s σ H _ _ _ I r h) λ_ s1 z_=>?_);obtain⟨G,H1,I1,q1⟩:=z_;exact h2 Z s1 G H1 _ _ Q I1 rr q1
def bfn(K:Fg)(n:Nat)(t:TGs):TG:=λv G H Q=>∃a Z,v=.ref a/\Hl K H a Z/\Z.length=n/\t Z G H Q
def a2h(hc:X.calm=true)(h:PGs X G t)(hn:(assignEach G X.env).length=n:=by rfl)(Zj:(assignEach G X.env).findIdx? (·.1)=none:=by rfl):PG X (.Tuple G k pos) (bfn X.K n t):=by
 intro Z s R H v u Q I r U;obtain⟨a,xs,e1,hq,hl,U⟩:=U;subst e1;cases r;obtain⟨ye,rv,ht,hz⟩:=I.tuple hq;refine assign_Tuple_tuple (I.ok.hd hc) ht (by simp[hn,<-hl,rv.length]) Zj λh' hx=>?_
 have I1:Inv X Z R H { s with heap:=h' }:=I.kept (t':=s.toks) λb o e=>hx b o (f9 (az e)) e
 exact h Z _ R H xs _ Q I1 (by simpa using rv) U
def bfo(to G:TE)(t:a2f):TG:=λv Z H Q=>to Z H λo R=>G Z R λi H2=>t o i v H2 λU=>Q Z U
def a2i(ho:PE X o to)(hi:PE X i ti)(hs:a2g X t)(ha:∀v,assign (.Subscript o i pos) X.env v=(do
 let G<-holding [v] (eval o X.env)
 let U<-holding [v,G] (eval i X.env)
 standAt pos
 holding [v,G,U] (setItem G U v)
 release [v,G,U] []):=by intro _;rfl):PG X (.Subscript o i pos) (bfo to ti t):=by
 intro Z s R H v u Q I r h;rw[ha];refine aa (ji (Bp (ho Z s R H _ I h) λG s1 z_=>?_));obtain⟨x,H1,I1,r1,q1⟩:=z_;refine aa (ji (Bp (hi Z s1 R H1 _ I1 q1) λU s2 z_=>?_));obtain⟨y,H2,I2,r2,q2⟩:=z_;refine aa (wpAny_standAt (aa (ji (Bp (hs Z s2 R H2 x y v G U u _ I2 r1 r2 r q2) λ_ s3 z_=>?_))));obtain⟨H3,I3,q3⟩:=z_;exact wpAny_release ⟨R,H3,I3,q3⟩
def a2j(G:TE)(g:TG):TS:=λD Z H=>G Z H λx U=>g x Z U D.nx
def apn(he:PE X e R)(hg:PG X tg g)(hs:swapsWithSole [tg] e pos.line X.env=pure false:=by rfl)(hw:swappedStores [tg] e X.env=pure none:=by rfl)(U:(assignEach [tg] X.env).map (·.2)=[assign tg X.env]:=by rfl):PS X (.Assign [tg] e pos) (a2j R g):=by intro Z s G H D I h;refine wpAny_Assign_stores (Bp (he Z s G H _ I h) λv s1 ⟨x,H1,I1,r1,q1⟩=>?_) hs hw;rw[U];exact Bp (hg Z s1 G H1 x v _ I1 r1 q1) λ_ s2 q=>q
def a2k(c:TT)(tb:TS):TS:=λD Z H=>∃W:Nat->St->Hp->Prop,(∃m,W m Z H)/\∀m Z H,W m Z H ->
 c Z H λb H1=>if b=true then ∃N:St->Hp->Prop,(∀G U,N G U->∃R,R<m/\W R G U)/\tb { D with nx:=N,ct:=N,bk:=D.nx } Z H1 else D.nx Z H1
def apo(hp:PassesOwn (model X.prog X.w) X.A X.env X.xe)(hc:PT X c tc)(hb:Sy X body tb):PS X (.While c body [] pos) (a2k tc tb):=by
 intro Z s σ H D I h;obtain⟨W,⟨m0,w0⟩,qj⟩:=h;refine wpAny_While (codeAny_whileLoop (λn s'=>∃qq H',Inv X Z qq H' s'/\W n qq H') ?_ m0 ⟨σ,H,I,w0⟩);rintro n s1 ⟨U,H1,I1,w1⟩;refine ug hp (Bp (hc Z s1 U H1 _ I1 (qj n U H1 w1)) λb s2 z_=>?_);obtain⟨H2,I2,q2⟩:=z_;cases b with
 |true =>
  obtain⟨N,hN,q2⟩:=q2;rw[bx rfl];refine ug hp (Bp (hb Z s2 U H2 _ I2 q2) λf s3 q3=>?_);cases f with
  |next =>
   obtain⟨G,R,I3,n3⟩:=q3;obtain⟨m',hm,w3⟩:=hN G R n3;exact⟨m',hm,G,R,I3,w3⟩
  |cont =>
   obtain⟨G,R,I3,n3⟩:=q3;obtain⟨m',hm,w3⟩:=hN G R n3;exact⟨m',hm,G,R,I3,w3⟩
  |brk=>exact q3|ret v=>exact q3
 |false =>
  rw[bw jf];exact wpAny_execs_nil ⟨U,H2,I2,q2⟩
structure It where
 go:Nat->Hp->Prop
 yld:Nat->Hp->V->Hp->Prop
 stop:Nat->Hp->Prop
def V6(X:Cx)(Z:Zp)(H:Hp)(b:Addr):Prop:=
 H b=none/\b≠X.env.locals/\b∉X.fs/\(b∈X.ex\/X.s₀.heap.objs.size<=b)/\(∀x c,X.env.cells.lookup x=some c->c≠b)/\∀p∈X.pn++Z,p.1≠b
def Inv.als(I:Inv X pins σ H s)(Z:s.heap.objs.size<=b)(U:R b=none):V6 X pins R b:=by
 refine⟨U,vo (gw I.lt Z),I.a1q Z,.inr (dz I.sz Z),λx c e z=>?_,λp G z=>?_⟩
 .obtain⟨v,q⟩:=I.cell x c e
  exact absurd (gw q.lt (by rw[z];exact Z)) (j9 _)
 .exact absurd (gw (az (I.pin p G).1) (by rw[z];exact Z)) (j9 _)
structure Turn(P:Program)(w:World)(K:Fg)(tg:Expr)(J:It)(fp:X9)(it:Addr)(tn:Nat->Heap->Prop):Prop where
 mem:it∈fp
 obj:∀i h,tn i h->∀b∈fp,∃o,h.get? b=some o/\∀v,o.data≠.cell v
 keep:∀i h h',tn i h->(∀b∈fp,∀o,h.get? b=some o->h'.get? b=some o)->tn i h'
 item:∀(X:Cx),X.prog=P->X.w=w->X.K=K->X.calm=true->∀(i:Nat)(pins:Zp)(s:Shared)(σ:St)(H:Hp)(E:Y1),Inv X pins σ H s->(∀b∈fp,V6 X pins H b)->tn i s.heap->J.go i H ->
  wpAny (model P w) X.A (pyNext (.ref it)) (λr s1=>∃u,r=some u /\
   wpAny (model P w) X.A (letOwnedTupleGo tg (.ref it) u) (λ_ s2=>∃x H',Inv X pins σ H' s2/\RelV x u/\J.yld i H x H'/\tn (i+1) s2.heap/\∀b∈fp,H' b=none) E s1) E s
 done:∀(X:Cx),X.prog=P->X.w=w->X.K=K->X.calm=true->∀(i:Nat)(pins:Zp)(s:Shared)(σ:St)(H:Hp)(E:Y1),Inv X pins σ H s->(∀b∈fp,V6 X pins H b)->tn i s.heap->J.stop i H ->
  wpAny (model P w) X.A (pyNext (.ref it)) (λr s1=>r=none/\Inv X pins σ H s1) E s
 self:∀(A:Around)(i:Nat)(s:Shared)(Q:Y1)(E:Y1),tn i s.heap->Q (.ref it) s->wpAny (model P w) A (pyIter (.ref it)) Q E s
abbrev TI:=St->Hp->(It->Hp->Prop)->Prop
def PIE(X:Cx)(Z:Zp)(σ:St)(tg:Expr)(R:It->Hp->Prop)(U:Value)(s2:Shared):Prop:=
 ∃(it:Addr)(fp:X9)(tn:Nat->Heap->Prop)(J:It)(G:Hp),U=.ref it/\Inv X Z σ G s2/\Turn X.prog X.w X.K tg J fp it tn/\tn 0 s2.heap/\(∀b∈fp,V6 X Z G b)/\R J G
def PI(X:Cx)(tg G:Expr)(wi:TI):Prop:=
 ∀(Z:Zp)(s:Shared)(U:St)(H:Hp)(R:It->Hp->Prop),Inv X Z U H s->wi U H R ->
  wpAny (model X.prog X.w) X.A (eval G X.env) (λv s1=>wpAny (model X.prog X.w) X.A (pyIter v) (PIE X Z U tg R) X.xe s1) X.xe s
def aja(ho:s.heap.get? it=some o)(hc:o.cls=.type n)(R:o.data=.fields U)(G:["enumerate","zip","dict_itemiterator","dict_reverseitemiterator","odict_iterator","itertools.zip_longest","itertools.pairwise"].contains n=false)(Z:Q () s):wpAny M A (letOwnedTupleGo tg (.ref it) u) Q E s:=by
 unfold letOwnedTupleGo;cases tg<;>first
  |exact aj Z
  | (cases u<;>first
   |exact aj Z
   | (refine aa (wpAny_load ho ?_)
      rw[hc,R];show wpAny M A (if(["enumerate","zip","dict_itemiterator","dict_reverseitemiterator","odict_iterator","itertools.zip_longest","itertools.pairwise"].contains n&&U[0]?==some (rawInt _))=true then _ else _) Q E s;rw[bw (by intro h;rw[G,Bool.false_and]at h;cases h)];exact aj Z))
noncomputable def Itl(K:Fg)(a:Addr):It:=
 ⟨λi H=>∃Z x,Hq K H a Z/\Z[i]?=some x,λi H x G=>G=H/\∀Z,Hq K H a Z->Z[i]?=some x,λi H=>∃Z,Hq K H a Z/\Z.length<=i⟩
noncomputable def Itt(K:Fg)(a:Addr):It:=
 ⟨λi H=>∃Z x,Hl K H a Z/\Z[i]?=some x,λi H x G=>G=H/\∀Z,Hl K H a Z->Z[i]?=some x,λi H=>∃Z,Hl K H a Z/\Z.length<=i⟩
noncomputable def Nt(Z:Int)(n:Nat):It:=⟨λi _=>i<n,λi H x G=>G=H/\x=.int (Z+i),λi _=>n<=i⟩
theorem alu{K:Fg}(a it:Addr):Turn P w K tg (Itl K a) [it] it (λi h=>h.IsListIter it a i)where
 mem:=by simp
 obj:=λi h st b G=>by
  have e:b=it:=by simpa using G
  subst e;obtain⟨o,e,c,d⟩:=st;exact⟨o,e,λv z=>by rw[d]at z;cases z⟩
 keep:=λi h h' st k=>st.at λo e=>k it (by simp) o e
 item:=by
  intro X hP hw hK hc i Z s σ H E I R st hg;subst hP hw hK;obtain⟨xs,x,hq,hx⟩:=hg;obtain⟨ye,rv,p,hz⟩:=I.list hq;obtain⟨u,hu,ru⟩:=rv.get hx;obtain⟨f0,f1,f2,f3,f4,f5⟩:=R it (by simp);refine wpAny_pyNext_list_item st p.isList (x:=u) (by simpa using hu) λh' U sb=>?_
  have I1:Inv X Z σ H { s with heap:=h' }:=I.turned (t':=s.toks) (λb o G e=>(sb.2 b G).trans e) f0 f1 f3 f4 f5;obtain⟨o,e,c,d⟩:=id U;exact⟨u,rfl,aja (s:={ s with heap:=h' }) e c d (by decide) ⟨x,H,I1,ru,⟨rfl,λys hy=>by rw[I.aeg hy hq];exact hx⟩,U,λb G=>(R b G).1⟩⟩
 done:=by intro X hP hw hK hc i Z s σ H E I R st hg;subst hP hw hK;obtain⟨xs,hq,hx⟩:=hg;obtain⟨ye,rv,p,hz⟩:=I.list hq;obtain⟨f0,f1,f2,f3,f4,f5⟩:=R it (by simp);have hl:=rv.length;exact wpAny_pyNext_list_end (I.ok.hd hc) st p.isList (by simp;exact a_ (g_ hl) hx) λh' eb=>⟨rfl,I.turned (t':=s.toks) (λb o G e=>eb b o G e) f0 f1 f3 f4 f5⟩
 self:=λ_ _ _ _ _ st h=>wpAny_pyIter_listiter st h
theorem agz{K:Fg}(a it:Addr):Turn P w K tg (Itt K a) [it] it (λi h=>h.IsTupleIter it a i)where
 mem:=by simp
 obj:=λi h st b G=>by
  have e:b=it:=by simpa using G
  subst e;obtain⟨o,e,c,d⟩:=st;exact⟨o,e,λv z=>by rw[d]at z;cases z⟩
 keep:=λi h h' st k=>st.at λo e=>k it (by simp) o e
 item:=by
  intro X hP hw hK hc i Z s σ H E I R st hg;subst hP hw hK;obtain⟨xs,x,hq,hx⟩:=hg;obtain⟨ye,rv,p,hz⟩:=I.tuple hq;obtain⟨u,hu,ru⟩:=rv.get hx;obtain⟨f0,f1,f2,f3,f4,f5⟩:=R it (by simp);refine wpAny_pyNext_tuple_item st (show s.heap.IsTuple a ye.toArray from p) (x:=u) (by simpa using hu) λh' U sb=>?_
  have I1:Inv X Z σ H { s with heap:=h' }:=I.turned (t':=s.toks) (λb o G e=>(sb.2 b G).trans e) f0 f1 f3 f4 f5;obtain⟨o,e,c,d⟩:=id U;exact⟨u,rfl,aja (s:={ s with heap:=h' }) e c d (by decide) ⟨x,H,I1,ru,⟨rfl,λys hy=>by rw[I.Uh hy hq];exact hx⟩,U,λb G=>(R b G).1⟩⟩
 done:=by intro X hP hw hK hc i Z s σ H E I R st hg;subst hP hw hK;obtain⟨xs,hq,hx⟩:=hg;obtain⟨ye,rv,p,hz⟩:=I.tuple hq;obtain⟨f0,f1,f2,f3,f4,f5⟩:=R it (by simp);have hl:=rv.length;exact wpAny_pyNext_tuple_end (I.ok.hd hc) st (show s.heap.IsTuple a ye.toArray from p) (by simp;exact a_ (g_ hl) hx) λh' eb=>⟨rfl,I.turned (t':=s.toks) (λb o G e=>eb b o G e) f0 f1 f3 f4 f5⟩
 self:=λ_ _ _ _ _ st h=>wpAny_pyIter_tupleiter st h
theorem ag0{K:Fg}(it:Addr)(lo:Int)(n:Nat):Turn P w K tg (Nt lo n) [it] it (λi h=>IsRangeIter h it (lo+(i:Nat)*1) ((n:Int)-(i:Nat)) 1)where
 mem:=by simp
 obj:=λi h st b G=>by
  have e:b=it:=by simpa using G
  subst e;exact⟨_,st,λv z=>by
   have z':Data.fields _=Data.cell v:=z;cases z'⟩
 keep:=λi h h' st k=>k it (by simp) _ st
 item:=by
  intro X hP hw hK hc i Z s σ H E I R st hg;subst hP hw hK;obtain⟨f0,f1,f2,f3,f4,f5⟩:=R it (by simp);have W:=Walks.range (prog:=X.prog) (w:=X.w) (I.ok.hd hc) it lo 1 n;refine W.item i s _ _ hg st λv h' tk hv U kk=>?_
  obtain⟨t,rfl⟩:=hv;have I1:Inv X Z σ H { s with heap:=h',toks:=tk }:=I.turned (λb o G e=>kk b o (by simpa using G) e) f0 f1 f3 f4 f5;refine⟨_,rfl,aja (s:={ s with heap:=h',toks:=tk }) (n :="range_iterator") U rfl rfl (by decide) ⟨.int (lo+i),H,I1,⟨t,?_⟩,⟨rfl,rfl⟩,U,λb G=>(R b G).1⟩⟩;rw[Int.mul_one]
 done:=by intro X hP hw hK hc i Z s σ H E I R st hg;subst hP hw hK;obtain⟨f0,f1,f2,f3,f4,f5⟩:=R it (by simp);exact wpAny_pyNext_range_end (I.ok.hd hc) st (by have:n<=i:=hg;lia) λh' eb=>⟨rfl,I.turned (t':=s.toks) (λb o G e=>eb b o G e) f0 f1 f3 f4 f5⟩
 self:=λ_ _ _ _ _ st h=>wpAny_pyIter_rangeiter st h
end L2
namespace L2
open PySem PySem.Spec PyProof.Rows
def apq{lo:Int}(I:Inv X pins σ H s)(h1:-(2^62)<=lo)(h2:lo<2^62)(h3:-(2^62)<=Z)(h4:Z<2^62)(q:R (Nt lo (Z-lo).toNat) H):wpAny (model X.prog X.w) X.A (pyIter (.ref s.heap.objs.size)) (PIE X pins σ tg R) E { s with heap:=s.heap.push { cls:=.type "range",data:=.fields #[.int lo t,.int Z u,.int 1 v] },toks:=U }:=by
 refine wpAny_pyIter_range (IsRange.new ..) (small_one h1 h2 h3 h4) ?_;have G:Inv X pins σ H { s with heap:=s.heap.push { cls:=.type "range",data:=.fields #[.int lo t,.int Z u,.int 1 v] },toks:=U }:=I.kept λb o e=>au _ e
 refine⟨(s.heap.push { cls:=.type "range",data:=.fields #[.int lo t,.int Z u,.int 1 v] }).objs.size,[(s.heap.push { cls:=.type "range",data:=.fields #[.int lo t,.int Z u,.int 1 v] }).objs.size],_,_,H,rfl,
  G.kept (t':=U) λb o e=>au _ e,ag0 _ lo (Z-lo).toNat,?_,λb hb=>?_,q⟩
 .have e1:lo+((0:Nat):Int)*1=lo:=by simp
  have e2:(((Z-lo).toNat:Nat):Int)-((0:Nat):Int)=Builtin.Range.rangeSize lo Z 1:=by rw[rangeSize_one];split<;>lia
  show IsRangeIter _ _ (lo+((0:Nat):Int)*1) ((((Z-lo).toNat:Nat):Int)-((0:Nat):Int)) 1;rw[e1,e2];exact bu _ rfl
 .have e:b=(s.heap.push { cls:=.type "range",data:=.fields #[.int lo t,.int Z u,.int 1 v] }).objs.size:=by simpa using hb
  subst e;exact G.als (bh _) (G.Al.fresh (bh _))
def a85(G:TA):TI:=λU H R=>G U H λvs Z=>∃j:Int,vs=[.int j]/\-(2^62)<=j/\j<2^62/\R (Nt 0 j.toNat) Z
def alv{X:Cx}{tg:Expr}(hg:Gl X "range")(hm:X.mg "range"= none)(ha:PA X [a] ta)(hs:starEach [a] X.env=[(false,eval a X.env)]:=by rfl):PI X tg (.Call (.Name "range" p) [a] [] pos) (a85 ta):=by
 intro Z s U H R I h;refine Call_ (Dw I hg hm boot_range (jm (Bp (ha pos Z s U H _ I h) λus s1 ⟨vs,H1,I1,r1,G⟩=>?_) hs rfl));obtain⟨j,e,G,q2,q⟩:=G;subst e;cases r1 with
 |cons r rr =>
  cases rr;obtain⟨t,rfl⟩:=r;exact call_range_1 (apq I1 (by lia) (by lia) G q2 (by simpa using q))
def bfq(wi:TI)(g:TG)(tb:TS):TS:=λD Z H=>wi Z H λJ H1=>∃W:Nat->Nat->St->Hp->Prop,(∃m,W 0 m Z H1)/\∀i m Z H,W i m Z H ->
 (J.stop i H/\D.nx Z H)\/(J.go i H/\∃N:St->Hp->Prop,(∀U G,N U G->∃m',m'<m/\W (i+1) m' U G)/\∀x G,J.yld i H x G->g x Z G λR H2=>tb { D with nx:=N,ct:=N,bk:=D.nx } R H2)
noncomputable def Ui(Z:X9)(h:Heap):List (Addr×Obj):=Z.filterMap λb=>(h.get? b).map λo=>(b,o)
def Ma(G:b∈Z)(e:h.get? b=some o):(b,o)∈Ui Z h:=List.mem_filterMap.mpr ⟨b,G,by rw[e];rfl⟩
def alw(U:p∈Ui G h):p.1∈G/\h.get? p.1=some p.2:=by
 obtain⟨b,R,e⟩:=List.mem_filterMap.mp U;cases q:h.get? b with
 |none=>rw[q]at e;cases e
 |some o =>
  rw[q]at e;have Z:(b,o)=p:=jk e;subst Z;exact⟨R,q⟩
def Inv.pinned{X:Cx}(I:Inv X pins σ H s)(hf:∀b∈G,V6 X pins H b)(ho:∀b∈G,∃o,s.heap.get? b=some o/\∀v,o.data≠.cell v):Inv X (pins++Ui G s.heap) σ H s:=
 I.Sx λp R=>(dw.mp R).elim (λz=>I.pin p (iw _ z)) λz=>by obtain⟨Z,e⟩:=alw z;obtain⟨f0,f1,f2,_⟩:=hf p.1 Z;obtain⟨o,U,d⟩:=ho p.1 Z;rw[e]at U;cases U;exact⟨e,f0,f1,f2,d⟩
def Inv.O1{X:Cx}(I:Inv X (pins++G) σ H s):Inv X pins σ H s:=I.Sx λp Z=>I.pin p (iw _ (yt _ Z))
def a2l{X:Cx}{tg:Expr}(hp:PassesOwn (model X.prog X.w) X.A X.env X.xe)(hc:X.calm=true)(hi:PI X tg iter wi)(hg:PG X tg g)(hb:Sy X body tb)(hs:∀x,foldedSetIterable iter X.env x=pure x:=by intro _;rfl):PS X (.For tg iter body [] pos) (bfq wi g tb):=by
 intro Z s σ H D I h;refine wpAny_For (Bp (hi Z s σ H _ I h) λv s1 h1=>Bp h1 λzq s2 h2=>?_) hs;obtain⟨it,fp,tn,J,H2,e,I2,T,q3,f2,W,⟨m0,w0⟩,q2⟩:=h2;subst e;have qk:∀{H':Hp},(∀b∈fp,H' b=none)->∀b∈fp,V6 X Z H' b:=λhn b hb=>⟨hn b hb,(f2 b hb).2⟩
 refine codeAny_forLoop_any (λn s'=>∃i U H',Inv X Z U H' s'/\tn i s'.heap/\(∀b∈fp,H' b=none)/\W i n U H') ?_ m0 ⟨0,σ,H2,I2,q3,λb hb=>(f2 b hb).1,w0⟩;rintro n s3 ⟨i,qq,H3,I3,qv,q1,w3⟩;rcases q2 i n qq H3 w3 with⟨q0,qn⟩|⟨go,N,hN,step⟩
 .refine ug hp (Bp (T.done X rfl rfl rfl hc i Z s3 qq H3 X.xe I3 (qk q1) qv q0) λr s4 z_=>?_)
  obtain⟨hr,I4⟩:=z_;subst hr;exact wpAny_execs_nil ⟨qq,H3,I4,qn⟩
 .refine ug hp (Bp (T.item X rfl rfl rfl hc i Z s3 qq H3 X.xe I3 (qk q1) qv go) λr s4 z_=>?_)
  obtain⟨u,hr,h4⟩:=z_;subst hr;refine ug hp (Bp h4 λ_ s5 z_=>?_);obtain⟨x,H5,I5,r5,y5,qj,q8⟩:=z_;have q4:=I5.pinned (qk q8) (T.obj _ _ qj);refine ug hp (Bp (hg _ s5 qq H5 x u _ q4 r5 (step x H5 y5)) λ_ s6 z_=>?_);obtain⟨q5,H6,I6,q6⟩:=z_;refine ug hp (Bp (hb _ s6 q5 H6 _ I6 q6) λf s7 q7=>?_);have R:∀{G:St}{H7:Hp},Inv X (Z++Ui fp s5.heap) G H7 s7->N G H7->∃m,m<n/\∃i U H',Inv X Z U H' s7/\tn i s7.heap/\(∀b∈fp,H' b=none)/\W i m U H':=fun{G H7} I7 n7=>by obtain⟨m',hm,w7⟩:=hN G H7 n7;refine⟨m',hm,i+1,G,H7,I7.O1,T.keep _ _ _ qj λb hb o e=>(I7.pin (b,o) (iw _ (iw _ (Ma hb e)))).1,λb hb=>?_,w7⟩;obtain⟨o,e,d⟩:=T.obj _ _ qj b hb;exact(I7.pin (b,o) (iw _ (iw _ (Ma hb e)))).2.1
  cases f with
  |next=>obtain⟨G,H7,I7,n7⟩:=q7;exact R I7 n7
  |cont=>obtain⟨G,H7,I7,n7⟩:=q7;exact R I7 n7
  |brk=>obtain⟨G,H7,I7,q7⟩:=q7;exact⟨G,H7,I7.O1,q7⟩
  |ret v=>obtain⟨x7,G,H7,I7,r7,q7⟩:=q7;exact⟨x7,G,H7,I7.O1,r7,q7⟩
end L2
namespace L2
open PySem PySem.Spec PyProof.Rows
abbrev R2:=V->V->Hp->VK->Prop
def Dk(X:Cx)(f:Value->Value->Sem Value)(r:R2):Prop:=
 ∀(Z:Zp)(s:Shared)(G:St)(H:Hp)(x y:V)(v u:Value)(Q:VK),Inv X Z G H s->RelV x v->RelV y u->r x y H Q ->
  wpAny (model X.prog X.w) X.A (f v u) (EP X Z G Q) X.xe s
def UnR(X:Cx)(f:Value->Sem Value)(r:V->Hp->VK->Prop):Prop:=
 ∀(Z:Zp)(s:Shared)(G:St)(H:Hp)(x:V)(v:Value)(Q:VK),Inv X Z G H s->RelV x v->r x H Q ->
  wpAny (model X.prog X.w) X.A (f v) (EP X Z G Q) X.xe s
def Bx(X:Cx)(f:Value)(r:List V->Hp->VK->Prop):Prop:=
 ∀(Z:Zp)(s:Shared)(U:St)(H:Hp)(R:List V)(G:Zl)(Q:VK),Inv X Z U H s->Vals R G->r R H Q ->
  wpAny (model X.prog X.w) X.A (call f G) (EP X Z U Q) X.xe s
def bfu(X:Cx)(r:V->Hp->(Bool->Hp->Prop)->Prop):Prop:=
 ∀(Z:Zp)(s:Shared)(G:St)(H:Hp)(x:V)(v:Value)(Q:Bool->Hp->Prop),Inv X Z G H s->RelV x v->r x H Q ->
  wpAny (model X.prog X.w) X.A (truthy v) (TP X Z G Q) X.xe s
def tOp(r:R2)(U tb:TE):TE:=λZ H Q=>U Z H λx R=>tb Z R λy G=>r x y G Q
def tUn(r:V->Hp->VK->Prop)(Z:TE):TE:=λG H Q=>Z G H λx U=>r x U Q
def rI(C:Int->Int->Prop)(g:Int->Int->V):R2:=λx y H Q=>∃i j,x=.int i/\y=.int j/\C i j/\Q (g i j) H
def rI0(g:Int->Int->V):R2:=λx y H Q=>∃i j,x=.int i/\y=.int j/\Q (g i j) H
def rU(g:Int->V):V->Hp->VK->Prop:=λx H Q=>∃i,x=.int i/\Q (g i) H
def a2n{X:Cx}{a b:Expr}{ta tb:TE}(ha:PE X a ta)(hb:PE X b tb){Z:Zp}{s:Shared}{U:St}{H:Hp}{R:V->V->Hp->Prop}(I:Inv X Z U H s)
 (h:ta U H λx H1=>tb U H1 λy G=>R x y G) {Q:Y1} {f:Value->Value->Sem Value}
 (hf:∀v u s2 x y G,Inv X Z U G s2->RelV x v->RelV y u->R x y G->wpAny (model X.prog X.w) X.A (f v u) Q X.xe s2) :
 wpAny (model X.prog X.w) X.A (eval a X.env) (λv qq=>wpAny (model X.prog X.w) X.A (eval b X.env) (λu qj=>wpAny (model X.prog X.w) X.A (f v u) Q X.xe qj) X.xe qq) X.xe s:=by
 refine Bp (ha Z s U H _ I h) λv s1 z_=>?_
 obtain⟨x,H1,I1,r1,q1⟩:=z_;refine Bp (hb Z s1 U H1 _ I1 q1) λu s2 z_=>?_
 obtain⟨y,G,I2,r2,q2⟩:=z_;exact hf v u s2 x y G I2 r1 r2 q2
def a87{X:Cx}{a b:Expr}{G R:TE}{pos:Pos}{U:Operator}{r:R2}(ho:Dk X (binaryOp U) r)(ha:PE X a G)(hb:PE X b R):PE X (.BinOp a U b pos) (tOp r G R):=by intro Z s σ H Q I h;exact wpAny_BinOp (a2n ha hb I h λv u s2 x y H2 I2 rx ry q=>ho Z s2 σ H2 x y v u Q I2 rx ry q)
def a88{X:Cx}{a:Expr}{U:TE}{pos:Pos}{R:UnaryOp}{r:V->Hp->VK->Prop}(ho:UnR X (unaryOp R) r)(ha:PE X a U):PE X (.UnaryOp R a pos) (tUn r U):=by intro Z s G H Q I h;exact UnaryOp_ (Bp (ha Z s G H _ I h) λv s1 ⟨x,H1,I1,r1,q1⟩=>ho Z s1 G H1 x v Q I1 r1 q1)
def opI{X:Cx}{f:Value->Value->Sem Value}{C:Int->Int->Prop}{g:Int->Int->Int}
 (Z:∀(i j:Int)(t u:Tok)(s:Shared)(Q:Y1)(E:Y1),C i j->Q (.int (g i j) s.toks) { s with toks:=s.toks+1 }->wpAny (model X.prog X.w) X.A (f (.int i t) (.int j u)) Q E s) :
 Dk X f (rI C λi j=>.int (g i j)):=by
 intro G s σ H x y v u Q I U ry h;obtain⟨i,j,rfl,rfl,R,q⟩:=h;obtain⟨t,rfl⟩:=U;obtain⟨t',rfl⟩:=ry;exact Z i j t t' s _ _ R ⟨.int (g i j),H,I.tok _,⟨_,rfl⟩,q⟩
def a89{X:Cx}{f:Value->Value->Sem Value}{g:Int->Int->Int}
 (Z:∀(i j:Int)(t u:Tok)(s:Shared)(Q:Y1)(E:Y1),Q (.int (g i j) s.toks) { s with toks:=s.toks+1 }->wpAny (model X.prog X.w) X.A (f (.int i t) (.int j u)) Q E s) :
 Dk X f (rI0 λi j=>.int (g i j)):=by
 intro G s σ H x y v u Q I U R h;obtain⟨i,j,rfl,rfl,q⟩:=h;obtain⟨t,rfl⟩:=U;obtain⟨t',rfl⟩:=R;exact Z i j t t' s _ _ ⟨.int (g i j),H,I.tok _,⟨_,rfl⟩,q⟩
def avz{X:Cx}{f:Value->Value->Sem Value}{g:Int->Int->Bool}
 (Z:∀(i j:Int)(t u:Tok)(s:Shared)(Q:Y1)(E:Y1),Q (.bool (g i j)) s->wpAny (model X.prog X.w) X.A (f (.int i t) (.int j u)) Q E s) :
 Dk X f (rI0 λi j=>.bl (g i j)):=by
 intro G s σ H x y v u Q I U R h;obtain⟨i,j,rfl,rfl,q⟩:=h;obtain⟨t,rfl⟩:=U;obtain⟨t',rfl⟩:=R;exact Z i j t t' s _ _ ⟨.bl (g i j),H,I,rfl,q⟩
def bfv(i j:Int):Prop:=0<j/\j<1073741824
def bfw(i j:Int):Prop:=0<=j/\j<=1000000/\i.natAbs<2^64
def a2o(i j:Int):Prop:=(-(2^64)<i/\i<2^64)\/(-(2^64)<j/\j<2^64)
def a2o.ok{i j:Int}(h:a2o i j):IntMulOk i j:=by
 rcases h with⟨Z,G⟩|⟨Z,G⟩
 .exact .of_left (intBits_le_64 Z G)
 .exact .of_right (intBits_le_64 Z G)
def a2p{X:Cx}:Dk X (binaryOp .Add) (rI0 λi j=>.int (i+j)):=a89 λ_ _ _ _ _ _ _ q=>add_int q
def a2q{X:Cx}:Dk X (binaryOp .Sub) (rI0 λi j=>.int (i-j)):=a89 λ_ _ _ _ _ _ _ q=>sub_int q
def a2r{X:Cx}:Dk X (binaryOp .Mult) (rI a2o λi j=>.int (i*j)):=opI λ_ _ _ _ _ _ _ Z q=>mul_int q Z.ok
def av0{X:Cx}:Dk X (binaryOp .FloorDiv) (rI bfv λi j=>.int (i/j)):=opI λi j _ _ _ _ _ Z q=>by
 have G:(0:Int)<j:=Z.1
 have U:j<1073741824:=Z.2
 exact floordiv_int (by lia) (by rw[Int.fdiv_eq_ediv_of_nonneg i (by lia)];exact q) (.inl (PyProof.noPylong_small (by omega)))
def a2s{X:Cx}:Dk X (binaryOp .Mod) (rI (λ_ j=>0<j) λi j=>.int (i%j)):=opI λi j _ _ _ _ _ Z q=>by
 have G:(0:Int)<j:=Z
 exact mod_int' (by lia) (by rw[Int.fmod_eq_emod_of_nonneg i (by lia)];exact q)
def a2t{X:Cx}:Dk X (binaryOp .Pow) (rI bfw λi j=>.int (i^j.toNat)):=opI λ_ _ _ _ _ _ _ Z q=>pow_int_small Z.1 Z.2.1 Z.2.2 q
def unI{X:Cx}{f:Value->Sem Value}{g:Int->Int}
 (Z:∀(i:Int)(t:Tok)(s:Shared)(Q:Y1)(E:Y1),Q (.int (g i) s.toks) { s with toks:=s.toks+1 }->wpAny (model X.prog X.w) X.A (f (.int i t)) Q E s) :
 UnR X f (rU λi=>.int (g i)):=by
 intro G s R H x v Q I U h;obtain⟨i,rfl,q⟩:=h;obtain⟨t,rfl⟩:=U;exact Z i t s _ _ ⟨.int (g i),H,I.tok _,⟨_,rfl⟩,q⟩
def a2u{X:Cx}:UnR X (unaryOp .USub) (rU λi=>.int (-i)):=unI λ_ _ _ _ _ q=>neg_int q
noncomputable def a2v:V->V->Bool
 |.non,.non=>true|.non,.int _=>true|.int _,.non=>true|.non,.bl _=>true|.bl _,.non=>true|.non,.str _=>true|.str _,.non=>true
 |.int _,.int _=>true|.bl _,.bl _=>true|.str _,.str _=>true|.byt _,.byt _=>true
 |.int _,.str _=>true|.str _,.int _=>true|.bl _,.str _=>true|.str _,.bl _=>true
 |_,_=>false
def rEq:R2:=λx y H Q=>a2v x y=true/\Q (.bl (decide (x=y))) H
def rNe:R2:=λx y H Q=>a2v x y=true/\Q (.bl (!decide (x=y))) H
def ajb{i j:Int}:decide (V.int i=V.int j)=(i==j):=by rw[Ag];simp
def apr{i j:Bool}:decide (V.bl i=V.bl j)=(i==j):=by rw[Ag];simp
def ajc{i j:Str}:decide (V.str i=V.str j)=(i==j):=by rw[Ag];simp
def ajd{i j:Array UInt8}:decide (V.byt i=V.byt j)=(i.toList==j.toList):=by rw[Ag];cases i;cases j;simp
def yp{X:Cx}{Z:Zp}{U:St}{H:Hp}{s:Shared}{Q:VK}{k G:Bool}(I:Inv X Z U H s)(q:Q (.bl k) H)(e:k=G):EP X Z U Q (.bool G) s:=by subst e;exact⟨.bl k,H,I,rfl,q⟩
def a9a{X:Cx}:Dk X (compareOp .Eq) rEq:=by
 intro qq s σ H x y v u Q I R Z h;obtain⟨U,q⟩:=h;cases x with
 |non =>
  cases R;cases y with
  |non=>cases Z;exact PySem.EqNone.eq_none_none (yp I q (by simp))|bl j=>cases Z;exact PySem.EqNone.eq_none_bool (yp I q (by simp))|int j=>obtain⟨G,rfl⟩:=Z;exact PySem.EqNone.eq_none_int (yp I q (by simp))
  |str j=>obtain⟨G,rfl⟩:=Z;exact PySem.EqNone.eq_none_str (yp I q (by simp))
  |_=>exact absurd (show false=true from U) jf
 |bl i =>
  cases R;cases y with
  |non=>cases Z;exact PySem.EqNone.eq_bool_none (yp I q (by simp))|bl j=>cases Z;exact eq_bool (yp I q apr)|str j=>obtain⟨G,rfl⟩:=Z;exact PySem.EqMixed.eq_bool_str (yp I q (by simp))
  |_=>exact absurd (show false=true from U) jf
 |int i =>
  obtain⟨t,rfl⟩:=R;cases y with
  |non=>cases Z;exact PySem.EqNone.eq_int_none (yp I q (by simp))|int j=>obtain⟨G,rfl⟩:=Z;exact eq_int (yp I q ajb)
  |str j=>obtain⟨G,rfl⟩:=Z;exact PySem.EqMixed.eq_int_str (yp I q (by simp))
  |_=>exact absurd (show false=true from U) jf
 |str i =>
  obtain⟨t,rfl⟩:=R;cases y with
  |non=>cases Z;exact PySem.EqNone.eq_str_none (yp I q (by simp))|bl j=>cases Z;exact PySem.EqMixed.eq_str_bool (yp I q (by simp))|int j=>obtain⟨G,rfl⟩:=Z;exact PySem.EqMixed.eq_str_int (yp I q (by simp))
  |str j=>obtain⟨G,rfl⟩:=Z;exact eq_str (yp I q ajc)
  |_=>exact absurd (show false=true from U) jf
 |byt i =>
  obtain⟨t,rfl⟩:=R;cases y with
  |byt j=>obtain⟨G,rfl⟩:=Z;exact PySem.W.eq_bytes (yp I q ajd)
  |_=>exact absurd (show false=true from U) jf
 |_=>cases y<;>exact absurd (show false=true from U) jf
def a9b{X:Cx}:Dk X (compareOp .NotEq) rNe:=by
 intro qq s σ H x y v u Q I R Z h;obtain⟨U,q⟩:=h;cases x with
 |non =>
  cases R;cases y with
  |non=>cases Z;exact PySem.EqNone.ne_none_none (yp I q (by simp))|bl j=>cases Z;exact PySem.EqNone.ne_none_bool (yp I q (by simp))|int j=>obtain⟨G,rfl⟩:=Z;exact PySem.EqNone.ne_none_int (yp I q (by simp))
  |str j=>obtain⟨G,rfl⟩:=Z;exact PySem.EqNone.ne_none_str (yp I q (by simp))
  |_=>exact absurd (show false=true from U) jf
 |bl i =>
  cases R;cases y with
  |non=>cases Z;exact PySem.EqNone.ne_bool_none (yp I q (by simp))|bl j=>cases Z;exact ne_bool (yp I q (mq not apr))|str j=>obtain⟨G,rfl⟩:=Z;exact PySem.EqMixed.ne_bool_str (yp I q (by simp))
  |_=>exact absurd (show false=true from U) jf
 |int i =>
  obtain⟨t,rfl⟩:=R;cases y with
  |non=>cases Z;exact PySem.EqNone.ne_int_none (yp I q (by simp))|int j=>obtain⟨G,rfl⟩:=Z;exact ne_int (yp I q (mq not ajb))
  |str j=>obtain⟨G,rfl⟩:=Z;exact PySem.EqMixed.ne_int_str (yp I q (by simp))
  |_=>exact absurd (show false=true from U) jf
 |str i =>
  obtain⟨t,rfl⟩:=R;cases y with
  |non=>cases Z;exact PySem.EqNone.ne_str_none (yp I q (by simp))|bl j=>cases Z;exact PySem.EqMixed.ne_str_bool (yp I q (by simp))|int j=>obtain⟨G,rfl⟩:=Z;exact PySem.EqMixed.ne_str_int (yp I q (by simp))
  |str j=>obtain⟨G,rfl⟩:=Z;exact ne_str (yp I q (mq not ajc))
  |_=>exact absurd (show false=true from U) jf
 |byt i =>
  obtain⟨t,rfl⟩:=R;cases y with
  |byt j=>obtain⟨G,rfl⟩:=Z;exact PySem.W.ne_bytes (yp I q (mq not ajd))
  |_=>exact absurd (show false=true from U) jf
 |_=>cases y<;>exact absurd (show false=true from U) jf
def a9c{X:Cx}:Dk X (compareOp .Lt) (rI0 λi j=>.bl (decide (i<j))):=avz λ_ _ _ _ _ _ _ q=>lt_int q
def a9d{X:Cx}:Dk X (compareOp .LtE) (rI0 λi j=>.bl (decide (i<=j))):=avz λ_ _ _ _ _ _ _ q=>le_int q
def a9e{X:Cx}:Dk X (compareOp .Gt) (rI0 λi j=>.bl (decide (j<i))):=avz λ_ _ _ _ _ _ _ q=>gt_int q
def a9f{X:Cx}:Dk X (compareOp .GtE) (rI0 λi j=>.bl (decide (j<=i))):=avz λ_ _ _ _ _ _ _ q=>ge_int q
def Dk.or{X:Cx}{f:Value->Value->Sem Value}{r R:R2}(h:Dk X f r)(h':Dk X f R):Dk X f (λx y H Q=>r x y H Q\/R x y H Q):=by
 intro Z s G H x y v u Q I U ry q;rcases q with q|q
 .exact h Z s G H x y v u Q I U ry q
 .exact h' Z s G H x y v u Q I U ry q
def av1{X:Cx}{a b:Expr}{U R:TE}{pos:Pos}{G:CmpOp}{r:R2}(ho:Dk X (compareOp G) r)(ha:PE X a U)(hb:PE X b R)(hm:behindInMarks G b=false):PE X (.Compare a [G] [b] pos) (tOp r U R):=by intro Z s σ H Q I h;exact wpAny_Compare1 (a2n ha hb I h λv u s2 x y H2 I2 rx ry q=>ho Z s2 σ H2 x y v u Q I2 rx ry q) hm
def azl(t:TE):TT:=λZ H Q=>t Z H λx G=>∃k,x=.bl k/\Q k G
def av2{X:Cx}{a b:Expr}{R tb:TE}{pos:Pos}{U:CmpOp}{r:R2}(ho:Dk X (compareOp U) r)(ha:PE X a R)(hb:PE X b tb)(hm:behindInMarks U b=false):PT X (.Compare a [U] [b] pos) (azl (tOp r R tb)):=by
 intro Z s G H Q I h;refine wpAny_isTrue_Compare1 (Bp (ha Z s G H _ I h) λv s1 ⟨x,H1,I1,r1,q1⟩=>Bp (hb Z s1 G H1 _ I1 q1) λu s2 ⟨y,H2,I2,r2,q2⟩ =>
  Bp (ho Z s2 G H2 x y v u _ I2 r1 r2 q2) λc s3 ⟨z,H3,I3,r3,k,e,q3⟩=>?_) hm
 subst e;cases r3;exact jy ⟨H3,I3,q3⟩
def ab2(r r':R2)(R tb U:TE):TE:=λZ H Q=>R Z H λx H1=>tb Z H1 λy H2=>r x y H2 λz G=>∃k,z=.bl k /\
 (if k=true then U Z G λw' H4=>r' y w' H4 Q else Q (.bl false) G)
def aps{X:Cx}{a b c:Expr}{ta tb tc:TE}{pos:Pos}{op G:CmpOp}{r r':R2}(ho:Dk X (compareOp op) r)(R:Dk X (compareOp G) r')(ha:PE X a ta)(hb:PE X b tb)(hc:PE X c tc)
 (hm:lastMarks [op,G] [b,c]=false:=by with_unfolding_all rfl):PE X (.Compare a [op,G] [b,c] pos) (ab2 r r' ta tb tc):=by
 intro Z s U H Q I h;refine Compare_chain (Bp (ha Z s U H _ I h) λv s1 ⟨x,H1,I1,r1,q1⟩=>chain_link (Bp (hb Z s1 U H1 _ I1 q1) λu s2 ⟨y,H2,I2,r2,q2⟩ =>
  Bp (ho Z s2 U H2 x y v u _ I2 r1 r2 q2) λd s3 ⟨z,H3,I3,r3,k,e,q3⟩=>?_)) hm
 subst e;cases r3;refine jy ?_;cases k with
 |false=>exact ite_ff ⟨.bl false,H3,I3,rfl,q3⟩|true=>exact ite_tt (chain_last (Bp (hc Z s3 U H3 _ I3 q3) λw' s4 ⟨z',H4,I4,r4,q4⟩=>R Z s4 U H4 y z' u w' Q I4 r2 r4 q4))
def apt{X:Cx}{a b c:Expr}{ta tb tc:TE}{pos:Pos}{op G:CmpOp}{r r':R2}(ho:Dk X (compareOp op) r)(R:Dk X (compareOp G) r')(ha:PE X a ta)(hb:PE X b tb)(hc:PE X c tc)
 (hm:lastMarks [op,G] [b,c]=false:=by with_unfolding_all rfl):PT X (.Compare a [op,G] [b,c] pos) (azl (ab2 r r' ta tb tc)):=by
 intro Z s U H Q I h;refine isTrue_chain (Bp (ha Z s U H _ I h) λv s1 ⟨x,H1,I1,r1,q1⟩=>test_link (Bp (hb Z s1 U H1 _ I1 q1) λu s2 ⟨y,H2,I2,r2,q2⟩ =>
  Bp (ho Z s2 U H2 x y v u _ I2 r1 r2 q2) λd s3 ⟨z,H3,I3,r3,k,e,q3⟩=>?_)) hm
 subst e;cases r3;refine jy ?_;cases k with
 |false =>
  obtain⟨k',e',q'⟩:=q3;cases e';exact ite_ff ⟨H3,I3,q'⟩
 |true =>
  refine ite_tt (test_last (Bp (hc Z s3 U H3 _ I3 q3) λw' s4 ⟨z',H4,I4,r4,q4⟩=>Bp (R Z s4 U H4 y z' u w' _ I4 r2 r4 q4) λd' s5 z_=>?_));obtain⟨z2,H5,I5,r5,k2,e2,q5⟩:=z_;subst e2;cases r5;exact jy ⟨H5,I5,q5⟩
def av3(K:Fg)(x:V)(H:Hp)(k:Bool):Prop:=
 match x with
 |.non=>k=false|.bl b=>k=b|.int i=>k=(i != 0)|.str y=>y.length<=sizeLine/\k=((y.length:Int) != 0)|.byt y=>y.size<=sizeLine/\k=((y.size:Int) != 0)|.ref p=>(∃Z,Hq K H p Z/\k=!Z.isEmpty)\/(∃Z,Hl K H p Z/\k=!Z.isEmpty)\/∃G,H p=some (.dK G)/\k=!G.isEmpty|_=>False
def ag2{G:Type}{Z:List (G×V)}{U:List (G×Value)}(r:KV Z U):(!U.isEmpty)=!Z.isEmpty:=by cases r<;>rfl
def Xv{Z:List V}{G:Zl}(r:Vals Z G):(!G.toArray.isEmpty)=!Z.isEmpty:=by cases r<;>simp
def Uj:(sizeLine:Nat)<2^63:=by rw[p8];decide
def apu{X:Cx}:bfu X (λx H Q=>∃k,av3 X.K x H k/\Q k H):=by
 intro qq s σ H x v Q I R h;obtain⟨k,e,q⟩:=h;have hl:=Uj;have hs:sizeLine=16777216:=p8;cases x with
 |non =>
  cases R;have Z:k=false:=e;subst Z;exact truthy_none ⟨H,I,q⟩
 |bl b =>
  cases R;have Z:k=b:=e;subst Z;exact jy ⟨H,I,q⟩
 |int i =>
  obtain⟨t,rfl⟩:=R;have Z:k=(i != 0):=e;subst Z;exact PySem.P.truthy_int ⟨H,I,q⟩
 |str y =>
  obtain⟨t,rfl⟩:=R;obtain⟨hy,Z⟩:y.length<=sizeLine/\k=((y.length:Int) != 0):=e
  subst Z;exact PySem.P.truthy_str (by lia) ⟨H,I.tok _,q⟩
 |byt y =>
  obtain⟨t,rfl⟩:=R;obtain⟨hy,Z⟩:y.size<=sizeLine/\k=((y.size:Int) != 0):=e
  subst Z;exact PySem.W.truthy_bytes (a_ hy (a_ (f_ hs) (by decide))) ⟨H,I.tok _,q⟩
 |ref p =>
  cases R;have Z:(∃U,Hq X.K H p U/\k=!U.isEmpty)\/(∃U,Hl X.K H p U/\k=!U.isEmpty)\/∃ie,H p=some (.dK ie)/\k=!ie.isEmpty:=e;rcases Z with⟨U,hx,Z⟩|⟨U,hx,Z⟩|⟨ie,hx,Z⟩
  .subst Z
   obtain⟨ye,r,pl,hz⟩:=I.list hx;have G:=r.length;exact wpAny_truthy_list pl.isList (by simp only[gq];lia) ⟨H,I.tok _,by rw[Xv r];exact q⟩
  .subst Z
   obtain⟨ye,r,pl,hz⟩:=I.tuple hx;have G:=r.length;exact truthy_tuple pl (by simp only[gq];lia) ⟨H,I.tok _,by rw[Xv r];exact q⟩
  .subst Z
   obtain⟨hz,hS,vs,r,m⟩:ie.length<=sizeLine/\(p==sysModules)=false/\∃vs,KV ie vs/\s.heap.DictOf (m6 X.prog X.w) p vs:=I.Al p _ hx
   have G:ie.length=vs.length:=Paired.length r;exact wpAny_truthy_dict hS m (by lia) ⟨H,I.tok _,by rw[ag2 r];exact q⟩
 |_=>exact(show False from e).elim
def apv{X:Cx}{a:Expr}{ta:TE}(ha:PE X a ta)(he:∀Z,isTrue a X.env Z=(do let v<-Z;standAt a.pos;holding [v] (truthy v))) :
 PT X a (λU H Q=>ta U H λx R=>∃k,av3 X.K x R k/\Q k R):=by
 intro G s U H Q I h;exact isTrue_plain (Bp (ha G s U H _ I h) λv s1 ⟨x,H1,I1,r1,q1⟩=>apu G s1 U H1 x v Q I1 r1 q1) (he _)
def vals1{x:V}{Z:Zl}(r:Vals [x] Z):∃u,Z=[u]/\RelV x u:=by
 cases r with
 |cons U G=>cases G;exact⟨_,rfl,U⟩
def vals2{x y:V}{Z:Zl}(r:Vals [x,y] Z):∃u w',Z=[u,w']/\RelV x u/\RelV y w':=by
 cases r with
 |cons r1 R =>
  cases R with
  |cons U G=>cases G;exact⟨_,_,rfl,r1,U⟩
def alx{X:Cx}(R:X.calm=true):Bx X (.builtin "max") (λU H Q=>∃i j,U=[.int i,.int j]/\Q (.int (if j > i then j else i)) H):=by
 intro G s σ H U us Q I r h;obtain⟨i,j,rfl,q⟩:=h;obtain⟨u,w',rfl,⟨t,rfl⟩,⟨t',rfl⟩⟩:=vals2 r;refine max_two_ints (I.ok.hd R) λh' tk k=>⟨_,H,I.kept k,?_,q⟩
 by_cases Z:j > i
 .rw[bx Z,bx Z];exact⟨_,rfl⟩
 .rw[bw Z,bw Z];exact⟨_,rfl⟩
def aly{X:Cx}(R:X.calm=true):Bx X (.builtin "min") (λU H Q=>∃i j,U=[.int i,.int j]/\Q (.int (if j<i then j else i)) H):=by
 intro G s σ H U us Q I r h;obtain⟨i,j,rfl,q⟩:=h;obtain⟨u,w',rfl,⟨t,rfl⟩,⟨t',rfl⟩⟩:=vals2 r;refine min_two_ints (I.ok.hd R) λh' tk k=>⟨_,H,I.kept k,?_,q⟩
 by_cases Z:j<i
 .rw[bx Z,bx Z];exact⟨_,rfl⟩
 .rw[bw Z,bw Z];exact⟨_,rfl⟩
def ab3{X:Cx}:Bx X (.type "str") (λG H Q=>∃i,G=[.int i]/\i.natAbs.log2<1920/\Q (.str (toString i)) H):=by intro Z s R H G us Q I r h;obtain⟨i,rfl,U,q⟩:=h;obtain⟨u,rfl,t,rfl⟩:=vals1 r;exact PySem.P.str_of_int U ⟨.str _,H,I.tok _,⟨_,rfl⟩,q⟩
end L2
namespace L2
open PySem PySem.Spec PyProof.Rows
structure ag3(h:Heap)(x dx C:Addr)(mA:Zs):Prop where
 obj:h.get? x=some (PySem.W.instObj C dx)
 ns:h.Ns1 dx mA
 ne:dx≠x
set_option tactic.hygienic true in
def alz{h:Heap}{U:Addr}{C:Zs}(n:h.Ns1 U C):∃G,h.get? U=some G/\∀Z,PySem.W.lookIn Z G=some (C Z):=by
 obtain⟨o,J,ep,u,S,R,_,hm⟩:=n;refine⟨o,u,λZ=>?_⟩;have e:=hm Z;unfold nsFind findBy at e;rw[<-Array.find?_toList]at e;unfold PySem.W.lookIn;rw[S];dsimp only;split
 .rename_i y q
  rw[q]at e;exact mq some e
 .rename_i q
  rw[q]at e;have a:J.toList.any (·.refKey)=false:=by rw[List.any_eq_false];intro y L;obtain⟨z,t,Y⟩:=R y (Array.mem_toList_iff.mp L);simp[DictEntry.refKey,Y]
  have a':¬J.toList.any (·.refKey)=true:=by rw[a];exact jf
  rw[bw a'];exact mq some e
def ag3.look{h:Heap}{x U C:Addr}{R:Zs}(I:ag3 h x U C R):∃G,PySem.W.InstAt h x (PySem.W.instObj C U) C (some G)/\∀Z,PySem.W.lookIn Z G=some (R Z):=
 let ⟨G,ho,hl⟩:=alz I.ns
 ⟨G,⟨I.obj,rfl,rfl,ho⟩,hl⟩
def get_map{prog:Program}{w:World}{A:Around}{E:Y1}{s:Shared}{K:Fg}{x dx C:Addr}{R:Zs}{Z:Str}{v:Value}{G:Bool}{Q:Y1}(X:K.In s.heap)(I:ag3 s.heap x dx C R)(hg:PySem.W.plainGet K C Z=true)(hh:PySem.W.hasDictIn K C=true)
 (ha:PySem.W.findIn K (.ref C) Z=some none) (hv:R Z=some v) (U:PySem.W.handedIn v=true) (h:Q v { s with toks:=s.toks+1 }) :
 wpAny (model prog w) A (getAttr (.ref x) Z G) Q E s:=by
 obtain⟨od,J,hl⟩:=I.look;exact PySem.W.get_value X J (PySem.W.plainGet_of hg).1 (PySem.W.findObj_own hh ha rfl (by rw[hl,hv])) U h
def apw{prog:Program}{w:World}{A:Around}{E:Y1}{s:Shared}{K:Fg}{x dx C f:Addr}{U:Zs}{Z:Str}{pl:Sem Bool}{Q:Value×List Value->Shared->Prop}(X:K.In s.heap)(I:ag3 s.heap x dx C U)(G:PySem.W.plainGet K C Z=true)
 (hf:PySem.W.findIn K (.ref C) Z=some (some (.ref f))) (ht:PySem.W.isFn K (.ref f)=true) (hv:U Z=none) (h:Q (.ref f,[.ref x]) s) :
 wpAny (model prog w) A (getMethod (.ref x) Z pl) Q E s:=by
 obtain⟨R,J,hl⟩:=I.look;exact PySem.W.method_fn X J (PySem.W.plainGet_of G).1 (PySem.W.plainGet_of G).2 hf (beq_iff_eq.mp ht) (by show(PySem.W.lookIn Z R).map (·.isSome)=some false;rw[hl,hv];rfl) h
def av4{prog:Program}{w:World}{A:Around}{E:Y1}{s:Shared}{K:Fg}{x G C:Addr}{mA:Zs}{Z:Str}{v:Value}{ns:Yf}{Q:Unit->Shared->Prop}(X:K.In s.heap)(I:ag3 s.heap x G C mA)
 (hs:PySem.W.findIn K (.ref C) "__setattr__"= some (some (.builtin "object.__setattr__"))) (hp:PySem.W.plainOver K C=true) (ht:PySem.W.takerIn K C Z=some none) (hh:PySem.W.hasDictIn K C=true)
 (hw:PySem.Within mA ns) (qv:ns.length<=sizeLine)
 (h:∀R,ag3 R x G C (λy=>if y=Z then some v else mA y)->Heap.SameBut G s.heap R->Q () { s with heap:=R,toks:=s.toks+2 }) :
 wpAny (model prog w) A (setAttr (.ref x) Z v) Q E s:=by
 obtain⟨od,J,hl⟩:=I.look;refine PySem.W.set_plain X J hs (PySem.W.osa_open (s:={ s with toks:=s.toks+1 }) (r:=none) X J hp ht λb=>?_);obtain⟨cd,hc,qq⟩:=PySem.W.any_some hh;have hx:s.heap.get? x=some ⟨.ref C,some G,.plain,#[]⟩:=I.obj;refine aa (aj (aa (aa (wpAny_loadPart hx (aa (PySem.W.Looks.here (s:={ s with toks:=s.toks+1 }) (PySem.W.looks_clsIn X hc) ?_))))));rw[qq];refine aj (a:=some G) (aa (aj (aa ?_)));refine wpAny_nsSet1 (s:={ s with toks:=s.toks+1 }) I.ns λR Z5 U=>?_
 obtain⟨oD,q1,q2,qj,qk,q0⟩:=Z5.count (PySem.Within.cons Z v hw);refine aa (wpAny_lookBehind qj (by rw[qk];exact pastItsLine_dict (dz q0 (by rw[gn];exact v_ qv))) ?_);exact aj (h _ ⟨(U.2 _ (j0 I.ne)).trans I.obj,Z5,I.ne⟩ U)
def apx{prog:Program}{w:World}{A:Around}{s:Shared}{K:Fg}{C f:Addr}{R:Result->Shared->Prop}{U:Zl}{G:List (Str×Value)}(X:K.In s.heap)(hm:PySem.W.makesIn K C=true)
 (hi:PySem.W.findIn K (.ref C) "__init__"= some (some (.ref f))) (hf:PySem.W.typeIn K (.ref f)=some (.type "function"))
 (h:codeAny (model prog w) (A.under (.builtin "type.__call__" ⟨.ref C::U,G⟩)) (.call (.ref f) ⟨.ref (s.heap.objs.size+1)::U,G⟩) (PySem.W.InitBack (s.heap.objs.size+1) R)
  { s with heap:=(s.heap.push PySem.W.emptyDict).push (PySem.W.instObj C s.heap.objs.size) }) :
 codeAny (model prog w) A (.call (.ref C) ⟨U,G⟩) R s:=by
 obtain⟨hh,g,d,t,os⟩:=s;exact PySem.W.make_core (PySem.W.makes_of X hm) (PySem.W.looks_findIn X hi) (λZ=>PySem.W.bind_fn X Z hf) (.inl rfl) h
noncomputable def Jj(f:Str)(v:V):List (Str×V)->List (Str×V)
 |[]=>[(f,v)]|(g,x)::r=>if g=f then(g,v)::r else(g,x)::Jj f v r
theorem Vh(f g:Str)(v:V):∀fs:List (Str×V),(Jj f v fs).lookup g=if g=f then some v else fs.lookup g
 |[]=>by
  show List.lookup g [(f,v)]=_
  by_cases h:g=f
  .have Z:(g==f)=true:=beq_iff_eq.mpr h
   simp only[List.lookup,Z,bx h]
  .have Z:(g==f)=false:=pq.mpr h
   simp only[List.lookup,Z,bw h]
 |(k,x)::r=>by
  have U:=Vh f g v r;rw[show Jj f v ((k,x)::r)=(if k=f then(k,v)::r else(k,x)::Jj f v r)from rfl]
  by_cases G:k=f
  .rw[bx G]
   by_cases h:g=k
   .have Z:(g==k)=true:=beq_iff_eq.mpr h
    simp only[List.lookup,Z,bx (h.trans G)]
   .have Z:(g==k)=false:=pq.mpr h
    simp only[List.lookup,Z,bw (λe:g=f=>h (e.trans G.symm))]
  .rw[bw G]
   by_cases h:g=k
   .have Z:(g==k)=true:=beq_iff_eq.mpr h
    simp only[List.lookup,Z,bw (λe:g=f=>G (h.symm.trans e))]
   .have Z:(g==k)=false:=pq.mpr h
    simp only[List.lookup,Z];exact U
theorem Uk(f:Str)(v:V):∀fs:List (Str×V),f∈(Jj f v fs).map (·.1)/\∀g,g∈fs.map (·.1)->g∈(Jj f v fs).map (·.1)
 |[]=>⟨by simp[Jj],λg h=>by simp at h⟩
 |(k,x)::r=>by
  obtain⟨U,G⟩:=Uk f v r;rw[show Jj f v ((k,x)::r)=(if k=f then(k,v)::r else(k,x)::Jj f v r)from rfl]
  by_cases Z:k=f
  .rw[bx Z]
   subst Z;exact⟨by simp,λg h=>by simpa using h⟩
  .rw[bw Z]
   refine⟨?_,λg h=>?_⟩
   .rw[gr]
    exact bc _ U
   .rw[gr]at h⊢
    rcases cu.mp h with e|e
    .exact cu.mpr (.inl e)
    .exact bc _ (G g e)
theorem Vi(f:Str)(v:V):∀fs:List (Str×V),(Jj f v fs).length<=fs.length+1
 |[]=>by simp[Jj]
 |(k,x)::r=>by
  have G:=Vi f v r;rw[show Jj f v ((k,x)::r)=(if k=f then(k,v)::r else(k,x)::Jj f v r)from rfl]
  by_cases Z:k=f
  .rw[bx Z,gn,gn];exact x_
  .rw[bw Z,gn,gn];exact v_ G
def Nk.some_of{v:V}{o:Option Value}(r:Nk (some v) o):∃u,o=some u/\RelV v u:=by
 cases o with
 |none=>exact(show False from r).elim
 |some u=>exact⟨u,rfl,r⟩
def Nk.none_of{o:Option Value}(r:Nk none o):o=none:=by
 cases o with
 |none=>rfl|some u=>exact(show False from r).elim
def al0{v:V}{u:Value}(r:RelV v u):PySem.W.handedIn u=true:=by
 cases v with
 |non=>cases(show u=Value.none from r);rfl
 |bl b=>cases(show u=Value.bool b from r);rfl
 |int i=>obtain⟨t,e⟩:=(show ∃t,u=Value.int i t from r);cases e;rfl
 |str x=>obtain⟨t,e⟩:=(show ∃t,u=Value.str x t from r);cases e;rfl
 |byt b=>obtain⟨t,e⟩:=(show ∃t,u=Value.bytes b t from r);cases e;rfl
 |flt b=>obtain⟨t,e⟩:=(show ∃t,u=Value.float b t from r);cases e;rfl
 |ref a=>cases(show u=Value.ref a from r);rfl
 |ty n=>cases(show u=Value.type n from r);rfl
def K6{P:Program}{w:World}{H:Hp}{h:Heap}{a C G:Addr}{fs:List (Str×V)}(R:Qv P w H h)(e:H a=some (.ins C G fs)):∃Z,ag3 h a G C Z/\(∀f,Nk (fs.lookup f) (Z f))/\PySem.Within Z (fs.map (·.1))/\fs.length<=1000/\H G=some (.own a):=by obtain⟨d,z,ne,U,Z,n,r,q⟩:=(show Be P w H h a (.ins C G fs)from R a _ e);exact⟨Z,⟨U,n,ne⟩,r,q,z,d⟩
structure Cls(K:Fg)(C:Addr):Prop where
 pg:PySem.W.plainGet K C Str.empty=true
 hd:PySem.W.hasDictIn K C=true
 po:PySem.W.plainOver K C=true
 sa:PySem.W.findIn K (.ref C) "__setattr__"= some (some (.builtin "object.__setattr__"))
def Cls.get{K:Fg}{C:Addr}(c:Cls K C)(f:Str):PySem.W.plainGet K C f=true:=c.pg
def Ka(K:Fg)(C:Addr)(f:Str):Prop:=PySem.W.findIn K (.ref C) f=some none
def Ka.taker{K:Fg}{C:Addr}{f:Str}(n:Ka K C f):PySem.W.takerIn K C f=some none:=by unfold PySem.W.takerIn;rw[show PySem.W.findIn K (.ref C) f=some none from n];rfl
structure Meth(K:Fg)(C:Addr)(m:Str)(f:Addr):Prop where
 at_:PySem.W.findIn K (.ref C) m=some (some (.ref f))
 fn:PySem.W.isFn K (.ref f)=true
 kp:PySem.W.keepIn K (.ref f)=true
def ag4{X:Cx}{Z:Zp}{R:St}{H:Hp}{s:Shared}{a C dx:Addr}{fs:List (Str×V)}{f:Str}{v:V}{A:Around}{E:Y1}{b:Bool}{Q:Y1}(I:Inv X Z R H s)(e:H a=some (.ins C dx fs))(c:Cls X.K C)(n:Ka X.K C f)(l:fs.lookup f=some v)
 (h:∀u U,Inv X Z R H U->RelV v u->Q u U):wpAny (model X.prog X.w) A (getAttr (.ref a) f b) Q E s:=by
 obtain⟨mA,O,r,_,_,_⟩:=K6 I.Al e;obtain⟨u,hu,G⟩:=Nk.some_of (v:=v) (o:=mA f) (by rw[<-l];exact r f);exact get_map I.V5 O (c.get f) c.hd n hu (al0 G) (h u _ (I.tok _) G)
def Xw{X:Cx}{Z:Zp}{G:St}{H:Hp}{s:Shared}{a C dx:Addr}{fs:List (Str×V)}{A:Around}{E:Y1}{m:Str}{g:Addr}{R:Sem Bool}{Q:Value×List Value->Shared->Prop}(I:Inv X Z G H s)(e:H a=some (.ins C dx fs))(c:Cls X.K C)(k:Meth X.K C m g)(l:fs.lookup m=none)
 (h:Q (.ref g,[.ref a]) s):wpAny (model X.prog X.w) A (getMethod (.ref a) m R) Q E s:=by
 obtain⟨mA,O,r,_,_,_⟩:=K6 I.Al e;have U:mA m=none:=Nk.none_of (by rw[<-l];exact r m);exact apw I.V5 O (c.get m) k.at_ k.fn U h
def ag5{X:Cx}{Z:Zp}{R:St}{H:Hp}{s:Shared}{a C G:Addr}{fs:List (Str×V)}{f:Str}{A:Around}{E:Y1}{y:V}{u:Value}{Q:Unit->Shared->Prop}(I:Inv X Z R H s)(e:H a=some (.ins C G fs))(c:Cls X.K C)(n:Ka X.K C f)(hl:fs.length<1000)(ry:RelV y u)
 (h:∀s',Inv X Z R (upd H a (.ins C G (Jj f y fs))) s'->Q () s'):wpAny (model X.prog X.w) A (setAttr (.ref a) f u) Q E s:=by
 obtain⟨mA,O,r,wi,_,ho⟩:=K6 I.Al e;have hz:(fs.map (·.1)).length<=sizeLine:=by rw[du,p8];exact e_ (b_ hl (by decide))
 refine av4 I.V5 O c.sa c.po n.taker c.hd wi hz λh' U sb=>h _ ?_
 have hd:∃o,h'.get? G=some o:=let ⟨o,_,_,e',_⟩:=U.ns;⟨o,e'⟩;refine I.write (x:=a) (e:=G) (by rw[e];exact True.intro) (.inr ho) (λb q hb z=>(sb.2 b hb).trans z) hd ?_;refine⟨by rw[my O.ne];exact ho,?_,O.ne,U.obj,_,U.ns,λg=>?_,λg hg=>?_⟩
 .have:=Vi f y fs;exact a_ this hl
 .show Nk ((Jj f y fs).lookup g) (if g=f then some u else mA g)
  rw[Vh]
  by_cases q:g=f
  .rw[bx q,bx q];exact ry
  .rw[bw q,bw q];exact r g
 .by_cases q:g=f
  .rw[q];exact(Uk f y fs).1
  .refine(Uk f y fs).2 g (wi g λz=>hg ?_)
   show(if g=f then some u else mA g)=none;rw[bw q];exact z
def Inv.made{X:Cx}{Z:Zp}{G:St}{H:Hp}{s:Shared}{C:Addr}(I:Inv X Z G H s):Inv X Z G (upd (upd H s.heap.objs.size (.own (s.heap.objs.size+1))) (s.heap.objs.size+1) (.ins C s.heap.objs.size []))
 { s with heap:=(s.heap.push PySem.W.emptyDict).push (PySem.W.instObj C s.heap.objs.size) }:=by
 have U:(s.heap.push PySem.W.emptyDict).get? s.heap.objs.size=some PySem.W.emptyDict:=bu s.heap rfl;have e2:((s.heap.push PySem.W.emptyDict).push (PySem.W.instObj C s.heap.objs.size)).get? (s.heap.objs.size+1)=some (PySem.W.instObj C s.heap.objs.size):=by
  have:=bu (s.heap.push PySem.W.emptyDict) (o:=PySem.W.instObj C s.heap.objs.size) rfl
  rwa [iu]at this
 have e3:(s.heap.push PySem.W.emptyDict).Ns s.heap.objs.size (λ_=>none):=⟨PySem.W.emptyDict,#[],_,U,rfl,(λe he=>absurd he (by simp)),λ_=>rfl⟩;have I1:=I.laid (a:=s.heap.objs.size) (o:=.own (s.heap.objs.size+1)) (h':=s.heap.push PySem.W.emptyDict) (t':=s.toks) (λb u q=>au _ q) (bh _) ⟨_,U⟩;refine I1.laid (a:=s.heap.objs.size+1) (o:=.ins C s.heap.objs.size []) (t':=s.toks) (λb u q=>au _ q) (Nat.le_of_eq (iu _ _)) ?_;have R:s.heap.objs.size≠s.heap.objs.size+1:=f9 (ph _);refine⟨by rw[my R,xf],jq _,R,e2,λ_=>none,(Heap.Ns1.of_empty e3).at λo q=>au _ q,λ_=>True.intro,λy hy=>absurd rfl hy⟩
def av5{A:Around}{E:Y1}{prog:Program}{w:World}{Z:Env}{e:Expr}{f:Str}{pos:Pos}{s:Shared}{Q:Y1}(U:attributeBase e f Z (eval e Z)=eval e Z)
 (h:wpAny (model prog w) A (eval e Z) (λo G=>wpAny (model prog w) A (getAttr o f true) Q E G) E s):wpAny (model prog w) A (eval (.Attribute e f pos) Z) Q E s:=
 Attribute_any_ h (by rw[arm_eval_Attribute,U])
def bfx(K:Fg)(U:TE)(f:Str):TE:=λR H Q=>U R H λx Z=>∃a C G fs v,x=.ref a/\Z a=some (.ins C G fs)/\Cls K C/\Ka K C f/\fs.lookup f=some v/\Q v Z
def bfy(K:Fg)(ta R:TE)(f:Str):TS:=λD Z H=>R Z H λy H1=>ta Z H1 λx U=>∃a C G fs,x=.ref a/\U a=some (.ins C G fs)/\Cls K C/\Ka K C f/\fs.length<1000 /\
 D.nx Z (upd U a (.ins C G (Jj f y fs)))
def a2w{X:Cx}{e:Expr}{f:Str}{pos:Pos}{G:TE}(he:PE X e G)(hb:attributeBase e f X.env (eval e X.env)=eval e X.env):PE X (.Attribute e f pos) (bfx X.K G f):=by intro Z s R H Q I h;refine av5 hb (Bp (he Z s R H _ I h) λu s1 z_=>?_);obtain⟨x,H1,I1,rx,a,C,dx,fs,v,ex,ea,c,n,l,q⟩:=z_;subst ex;obtain rfl:u=Value.ref a:=rx;exact ag4 I1 ea c n l λu' s2 I2 U=>⟨v,H1,I2,U,q⟩
def a2x{X:Cx}{o Z:Expr}{f:Str}{pos U:Pos}{ta tv:TE}(ha:PE X o ta)(hv:PE X Z tv)(hs:swapsWith Z (some (.Attribute o f U)) pos.line X.env=pure false):PS X (.Assign [.Attribute o f U] Z pos) (bfy X.K ta tv f):=by intro G s R H D I h;refine plainObj_wpAny_Assign_Attribute (Bp (hv G s R H _ I h) λu s1 ⟨y,H1,I1,ry,q⟩=>Bp (ha G s1 R H1 _ I1 q) λov s2 ⟨x,H2,I2,rx,a,C,dx,fs,ex,ea,c,n,l,q2⟩=>?_) hs;subst ex;obtain rfl:ov=Value.ref a:=rx;exact ag5 I2 ea c n l ry λs3 I3=>⟨R,_,I3,q2⟩
inductive Qc(K:Fg)(H:Hp):V->Value->Prop where
 |non:Qc K H .non (.type "NoneType")
 |bl (x:Bool):Qc K H (.bl x) (.type "bool")
 |int (i:Int):Qc K H (.int i) (.type "int")
 |str (x:Str):Qc K H (.str x) (.type "str")
 |flt (x:UInt64):Qc K H (.flt x) (.type "float")
 |lst {a:Addr} {xs:List V} (e:H a=some (.lst xs)):Qc K H (.ref a) (.type "list")
 |Ow {a:Addr} {o:Obj} {xs:List V} (e:H a=some (.Ow o (.lst xs))):Qc K H (.ref a) (.type "list")
 |tup {a:Addr} {xs:List V} (e:H a=some (.tup xs)):Qc K H (.ref a) (.type "tuple")
 |dK {a:Addr} {ie:List (Key×V)} (e:H a=some (.dK ie)):Qc K H (.ref a) (.type "dict")
 |dT {a:Addr} {ie:List (List Key×V)} (e:H a=some (.dT ie)):Qc K H (.ref a) (.type "dict")
 |ins {a C dx:Addr} {fs:List (Str×V)} (e:H a=some (.ins C dx fs)) (cl:Cls K C) (ha:PySem.W.findIn K (.ref C) "__class__"= some (some (.builtin "object.__class__")))
  (hn:PySem.W.specialIn K (.builtin "object.__class__") "__get__"= some (some (.builtin "getset_descriptor.__get__"))) (htk:PySem.W.takesIn K (.builtin "object.__class__")=some true)
  (hm:PySem.W.mroIn K C (.type "object")=some true):Qc K H (.ref a) (.ref C)
def al1{X:Cx}{R:Zp}{σ:St}{H:Hp}{s:Shared}{A:Around}{E Q:Y1}{c:Value}{b:Bool}{x:V}{u t:Value}(I:Inv X R σ H s)(Z:RelV x u)(ty:Qc X.K H x t)(e:PySem.W.kitOne X.K t c=some b)(h:∀tk,Q (.bool b) { s with toks:=tk }) :
 wpAny (model X.prog X.w) A (call (.builtin "isinstance") [u,c]) Q E s:=by
 cases ty with
 |non=>cases(show u=Value.none from Z);exact qy PySem.W.kitx_none I.V5 True.intro e (λz=>nomatch z) h
 |bl y=>cases(show u=Value.bool y from Z);exact qy PySem.W.kitx_bool I.V5 True.intro e (λz=>nomatch z) h
 |int i=>obtain⟨t,q⟩:=(show ∃t,u=Value.int i t from Z);cases q;exact qy PySem.W.kitx_int I.V5 True.intro e (λz=>nomatch z) h
 |str y=>obtain⟨t,q⟩:=(show ∃t,u=Value.str y t from Z);cases q;exact qy PySem.W.kitx_str I.V5 True.intro e (λz=>nomatch z) h
 |flt y=>obtain⟨t,q⟩:=(show ∃t,u=Value.float y t from Z);cases q;exact qy PySem.W.kitx_float I.V5 True.intro e (λz=>nomatch z) h
 |@lst a U ea =>
  cases(show u=Value.ref a from Z);obtain⟨_,_,n,_,G⟩:=(show Be X.prog X.w H s.heap a (.lst U)from I.Al a _ ea);exact qy PySem.W.kitx_list I.V5 ⟨_,G,rfl⟩ e (λz=>nomatch z) h
 |@Ow a ob U ea =>
  cases(show u=Value.ref a from Z);obtain⟨_,_,_,n,_,G⟩:=(show Be X.prog X.w H s.heap a (.Ow ob (.lst U))from I.Al a _ ea);exact qy PySem.W.kitx_list I.V5 ⟨_,G,rfl⟩ e (λz=>nomatch z) h
 |@tup a U ea =>
  cases(show u=Value.ref a from Z);obtain⟨_,_,_,p⟩:=(show Be X.prog X.w H s.heap a (.tup U)from I.Al a _ ea);obtain⟨o,G,h2,_⟩:=p;exact qy PySem.W.kitx_tuple I.V5 ⟨o,G,h2⟩ e (λz=>nomatch z) h
 |@dK a ie ea =>
  cases(show u=Value.ref a from Z);obtain⟨_,_,vs,_,p⟩:=(show Be X.prog X.w H s.heap a (.dK ie)from I.Al a _ ea);obtain⟨o,es,ep,G,h2,_⟩:=p;exact qy PySem.W.kitx_dict I.V5 ⟨o,G,h2.1⟩ e (λz=>nomatch z) h
 |@dT a ie ea =>
  cases(show u=Value.ref a from Z);obtain⟨_,_,U,_,o,es,ep,G,h2,_⟩:=(show Be X.prog X.w H s.heap a (.dT ie)from I.Al a _ ea);exact qy PySem.W.kitx_dict I.V5 ⟨o,G,h2.1⟩ e (λz=>nomatch z) h
 |@ins a C dx fs ea cl ha hn htk hm =>
  cases(show u=Value.ref a from Z);obtain⟨mA,O,_⟩:=K6 I.Al ea;obtain⟨od,J,_⟩:=O.look;exact qy (PySem.W.kitx_own (cl.get _) cl.hd ha hn htk hm) I.V5 J e (λz=>nomatch z) h
end L2
namespace L2
open PySem PySem.Spec PyProof.Rows
structure Af(k:Nat)(A:Around):Prop where
 hd:A.handled=none
 dp:A.depth+3*k+5<recursionLimit
 un:A.units+16*k+200<cLine
def Af.mono{j k:Nat}{A:Around}(r:Af k A)(h:j<=k):Af j A:=⟨r.hd,by have:=r.dp;lia,by have:=r.un;lia⟩
theorem Af.deeper{k:Nat}{A:Around}(r:Af (k+1) A)(Z:Env):Af k (A.deeper Z):=
 ⟨r.hd,by have:=r.dp;show A.depth+1+3*k+5<_;lia,by have:=r.un;show A.units+3+16*k+200<_;lia⟩
theorem Af.in1{k:Nat}{A:Around}(r:Af (k+1) A):Af k A.in1:=
 ⟨r.hd,by have:=r.dp;show A.depth+3*k+5<_;lia,by have:=r.un;show A.units+1+16*k+200<_;lia⟩
def ag6{A:Around}{C:Addr}{Z:Zl}{G:List (Str×Value)}:(A.under (.builtin "type.__call__" ⟨.ref C::Z,G⟩)).depth=A.depth+1:=by first|rfl|simp[Around.under,Code.weight,Code.isCreation,Code.isGuard,Code.isCaller,Code.frames,Code.isFrame,guardIds]
def ag7{A:Around}{C:Addr}{Z:Zl}{G:List (Str×Value)}:(A.under (.builtin "type.__call__" ⟨.ref C::Z,G⟩)).units=A.units+1:=by first|rfl|simp[Around.under,Code.cUnits,Code.frames,Code.isFrame]
def Af.make{k:Nat}{A:Around}(r:Af (k+1) A)(C:Addr)(Z:Zl)(G:List (Str×Value)):Af k (A.under (.builtin "type.__call__" ⟨.ref C::Z,G⟩)):=
 ⟨r.hd,by have:=r.dp;rw[ag6];lia,by have:=r.un;rw[ag7];lia⟩
theorem Af.depth{k:Nat}{A:Around}(r:Af k A):A.depth<recursionLimit:=by have:=r.dp;lia
theorem Af.units{k:Nat}{A:Around}(r:Af k A):A.units+64<cLine:=by have:=r.un;lia
def Af.Xx{k:Nat}{A:Around}(r:Af k A):A.units<cLine:=by have:=r.un;lia
def a9g:TA:=λ_ H Q=>Q [] H
def a9h(G:TE)(tr:TA):TA:=λZ H Q=>G Z H λx R=>tr Z R λU H2=>Q (x::U) H2
def a2y{X:Cx}:PA X [] a9g:=λ_ _ _ _ H Q I h=>w5 ⟨[],H,I,.nil,h⟩
def av6{X:Cx}{e:Expr}{G:Ya}{U:TE}{t:TA}(ha:PE X e U)(hr:PA X G t)(hs:starEach (e::G) X.env=(false,eval e X.env)::starEach G X.env:=by rfl):PA X (e::G) (a9h U t):=by intro pos Z s R H Q I h;rw[hs];show wpAny _ _ (spliced ((false,eval e X.env)::backTo pos (starEach G X.env))) _ _ s;refine uq (Bp (ha Z s R H _ I h) λu s1 z_=>?_);obtain⟨x,H1,I1,r1,q1⟩:=z_;exact Bp (hr pos Z s1 R H1 _ I1 q1) λus s2 ⟨xs,H2,I2,r2,q2⟩=>⟨x::xs,H2,I2,.cons r1 r2,q2⟩
def bfz(t:TA):TE:=λU H Q=>t U H λZ G=>Z.length<=sizeLine/\∀p,G p=none->Q (.ref p) (upd G p (.tup Z))
def bf0(t:TA):TE:=λU H Q=>t U H λZ G=>Z.length<=sizeLine/\∀p,G p=none->Q (.ref p) (upd G p (.lst Z))
def a2z{X:Cx}{U:Ya}{t:TA}{pos:Pos}{x1}(h:PA X U t):PE X (.Tuple U x1 pos) (bfz t):=by intro Z s σ H Q I R;refine wpAny_Tuple_spliced (Bp (h pos Z s σ H _ I R) λus G ⟨xs,H1,I1,r,z,q⟩=>⟨by rw[<-r.length];exact z,?_⟩);have hf:H1 G.heap.objs.size=none:=I1.Al.fresh (bh _);refine⟨.ref G.heap.objs.size,upd H1 G.heap.objs.size (.tup xs),I1.laid (t':=G.toks) (λb u e=>au _ e) (bh _) ?_,rfl,q _ hf⟩;exact⟨z,us,r,Xr.new _ _⟩
def apy{X:Cx}{U:Ya}{t:TA}{pos:Pos}(h:PA X U t):PE X (.List U pos) (bf0 t):=by intro Z s σ H Q I R;refine wpAny_List_spliced (Bp (h pos Z s σ H _ I R) λus G ⟨xs,H1,I1,r,z,q⟩=>⟨by rw[<-r.length];exact z,?_⟩);have hf:H1 G.heap.objs.size=none:=I1.Al.fresh (bh _);refine⟨.ref G.heap.objs.size,upd H1 G.heap.objs.size (.lst xs),I1.laid (t':=G.toks) (λb u e=>au _ e) (bh _) ?_,rfl,q _ hf⟩;exact⟨z,us,0,r,bu _ rfl⟩
abbrev Sp:=List V->Hp->VK->XK->Prop
abbrev CXT:=List Env->Hp->Shared->XK->Value->Shared->Prop
structure ag9(P:Program)(w:World)(K:Fg)(mg:Zs)(base:Heap)(A:Around)(outer:List Env)(s:Shared)(H:Hp):Prop where
 frames:A.frames=some outer
 mod:Mod K mg base
 bs:∀b o,base.get? b=some o->s.heap.get? b=some o/\H b=none
 bsz:base.objs.size<=s.heap.objs.size
 V4:s.heap.FunFrames base outer
 frf:∀b∈frs outer,H b=none
 Al:Qv P w H s.heap
 bare:AllBare s.gens
def CE(Z:List Env)(P:Program)(w:World)(H:Hp)(s:Shared)(Q:VK)(u:Value)(G:Shared):Prop:=
 ∃v U,G.os=s.os/\AllBare G.gens/\Un (frs Z) [] H U s.heap G.heap/\Qv P w U G.heap/\RelV v u/\Q v U
def CR(U:CXT)(Z:List Env)(P:Program)(w:World)(H:Hp)(s:Shared)(Q:VK)(E:XK)(r:Result)(G:Shared):Prop:=
 match r with
 |.ok (.ret u)=>CE Z P w H s Q u G|.ok _=>False|.error e=>U Z H s E e G
structure Gf(P:Program)(w:World)(K:Fg)(mg:Zs)(base:Heap)(CX:CXT)(k:Nat)(f:Addr)(fd:FuncData)(ps:Yf)(sp:Sp):Prop where
 len:∀vs H Q E,sp vs H Q E->vs.length=ps.length
 run:∀(A:Around)(outer:List Env)(s:Shared)(H:Hp)(args:Args)(us:Zl)(vs:List V)(Q:VK)(E:XK),Af k A->ag9 P w K mg base A outer s H->BindsTo s fd args (ps.zip us)->Vals vs us->sp vs H Q E ->
  codeAny (model P w) A (.call (.ref f) args) (CR CX outer P w H s Q E) s
def Gf.imp{P:Program}{w:World}{K:Fg}{mg:Zs}{Z:Heap}{CX:CXT}{k:Nat}{f:Addr}{fd:FuncData}{ps:Yf}{sp sp':Sp}(F:Gf P w K mg Z CX k f fd ps sp)
 (h:∀U H Q E,sp' U H Q E->sp U H Q E):Gf P w K mg Z CX k f fd ps sp':=
 ⟨λU H Q E q=>F.len U H Q E (h _ _ _ _ q),λA G s H R us U Q E hr he hb hv hs=>F.run A G s H R us U Q E hr he hb hv (h _ _ _ _ hs)⟩
def ag9.make{P:Program}{w:World}{K:Fg}{mg:Zs}{G:Heap}{A:Around}{Z:List Env}{s:Shared}{H:Hp}(e:ag9 P w K mg G A Z s H)(C:Addr)(U:Zl)(R:List (Str×Value)) :
 ag9 P w K mg G (A.under (.builtin "type.__call__" ⟨.ref C::U,R⟩)) Z s H:=⟨by first|exact e.frames|(simpa[Around.under,Code.envs,Code.isFrame,pushEnvs]using e.frames),e.mod,e.bs,e.bsz,e.V4,e.frf,e.Al,e.bare⟩
def Inv.env0{X:Cx}{Z:Zp}{G:St}{H:Hp}{s:Shared}(I:Inv X Z G H s):ag9 X.prog X.w X.K X.mg X.base X.A X.stack s H:=
 ⟨I.ok.frames,I.ok.mod,I.bs,dz I.ok.bsz I.sz,I.stack,I.ai6,I.Al,I.bare⟩
def Inv.after{X:Cx}{Z:Zp}{R:St}{H:Hp}{s s':Shared}{Q:VK}{u:Value}(I:Inv X Z R H s)(h:CE X.stack X.prog X.w H s Q u s'):EP X Z R Q u s':=by obtain⟨v,H',os,G,un,Al,r,q⟩:=h;obtain⟨hh,g,d,t,U⟩:=s';obtain rfl:U=s.os:=os;exact⟨v,H',I.call (h':=hh) (g':=g) (d':=d) (t':=t) (ch:=[]) un Al G (λb z=>absurd z (by simp)),r,q⟩
def a9i(G:Sp)(R:List V)(E:XK)(t:TA):TE:=λZ H Q=>t Z H λU H1=>G (U++R) H1 Q E
def azm(C:Addr)(m:Str)(R:Sp)(Vj:List V)(E:XK)(U:TE)(t:TA):TE:=λZ H Q=>U Z H λx G=>∃a dx fs,x=.ref a/\G a=some (.ins C dx fs)/\fs.lookup m=none /\
 t Z G λvs H2=>R (x::(vs++Vj)) H2 Q E
def a9j(C:Addr)(R:Sp)(Vj:List V)(E:XK)(t:TA):TE:=λU H Q=>t U H λvs G=>∀x Z,G x=none->G Z=none->Z≠x ->
 R (.ref x::(vs++Vj)) (upd (upd G Z (.own x)) x (.ins C Z [])) (λv H2=>v=.non/\Q (.ref x) H2) E
def Binds(K:Fg)(R:FuncData)(G:Yf)(U:Zl):Prop:=
 ∀(s:Shared)(Z:Zl),K.In s.heap->(Z++U).length=G.length->BindsTo s R ⟨Z,[]⟩ (G.zip (Z++U))
def Binds.all{K:Fg}{R:FuncData}{G:Yf}(h:∀Z:List Value,Z.length=G.length->bindArgs R ⟨Z,[]⟩=pure (G.zip Z)):Binds K R G []:=λs Z _ U=>by rw[Ah]at U⊢;exact .of_eq (h Z U)
def Passes(R:CXT)(X:Cx)(E:XK):Prop:=∀(Z:Zp)(U:St)(H:Hp)(s:Shared)(e:Value)(G:Shared),Inv X Z U H s->R X.stack H s E e G->X.xe e G
def aha{X:Cx}{CX:CXT}{k:Nat}{f:Addr}{fd:FuncData}{ps:Yf}{sp:Sp}{R:List V}{G:Zl}{E:XK}{Z:Zp}{σ:St}{H:Hp}{s:Shared}{Q:VK}{us:Zl}{vs:List V}(F:Gf X.prog X.w X.K X.mg X.base CX k f fd ps sp)(hr:Af k X.A)(hb:Binds X.K fd ps G)(hd:Vals R G)(hx:Passes CX X E)
 (I:Inv X Z σ H s) (r:Vals vs us) (h:sp (vs++R) H Q E):wpAny (model X.prog X.w) X.A (call (.ref f) us) (EP X Z σ Q) X.xe s:=by
 have r2:Vals (vs++R) (us++G):=r.append hd;have hl:(us++G).length=ps.length:=by rw[<-r2.length];exact F.len _ _ _ _ h
 refine wpAny_call (v5 (F.run X.A X.stack s H ⟨us,[]⟩ (us++G) (vs++R) Q E hr I.env0 (hb s us I.V5 hl) r2 h) λr s' U=>?_);cases r with
 |error e=>exact hx Z σ H s e s' I U
 |ok fl =>
  cases fl with
  |ret u=>exact I.after U|next=>exact False.elim U|brk=>exact False.elim U|cont=>exact False.elim U
def av7{X:Cx}{CX:CXT}{k:Nat}{f:Addr}{U:FuncData}{ps:Yf}{R:Sp}{Vj:List V}{ds:Zl}{E:XK}{x:Str}{p pos:Pos}{e:Expr}{G:Ya}{t:TA}(F:Gf X.prog X.w X.K X.mg X.base CX k f U ps R)(hr:Af k X.A)(hg:Gl X x)(hm:X.mg x=some (.ref f))(hk:PySem.W.keepIn X.K (.ref f)=true)(hb:Binds X.K U ps ds)(hd:Vals Vj ds)(hx:Passes CX X E)
 (ha:PA X (e::G) t) (Vk:(x==("__debug__": Str))=false:=by decide) (he:starEach (e::G) X.env=(false,eval e X.env)::starEach G X.env:=by rfl) (Jg:(backTo pos (starEach G X.env)).any (·.1)=false:=by rfl) :
 PE X (.Call (.Name x p) (e::G) [] pos) (a9i R Vj E t):=by
 intro Z s σ H Q I h;refine jd (ab0 I hg hm ?_ Vk);refine PySem.W.callWith_K (h₀:=X.base) I.ok.mod.kin hk (Bp (ha pos Z s σ H _ I h) λus s1 ⟨vs,H1,I1,r,q⟩=>⟨I1.V5,?_⟩) he Jg;exact aha F hr hb hd hx I1 r q
def av8{X:Cx}{CX:CXT}{k:Nat}{f C:Addr}{R:FuncData}{ps:Yf}{sp:Sp}{Vj:List V}{ds:Zl}{E:XK}{m:Str}{pos Z:Pos}{e o:Expr}{U:Ya}{ta:TE}{t:TA}{pl:Sem Bool}(he:PE X o ta)(c:Cls X.K C)(hm:Meth X.K C m f)(F:Gf X.prog X.w X.K X.mg X.base CX k f R ps sp)(hr:Af k X.A)(hb:Binds X.K R ps ds)(hd:Vals Vj ds)(hx:Passes CX X E)(ha:PA X (e::U) t)
 (Zj:starEach (e::U) X.env=(false,eval e X.env)::starEach U X.env:=by rfl) (Jg:(backTo pos (starEach U X.env)).any (·.1)=false:=by rfl)
 (ht:eval (.Call (.Attribute o m Z) (e::U) [] pos) X.env=(do
  let ov<-eval o X.env
  standAt Z.atName
  let (f,first) <-holding [ov] (getMethod ov m pl)
  callWith pos f first (backTo pos (starEach (e::U) X.env)) (backToKw pos (keywordEach [] X.env))):=by rfl) :
 PE X (.Call (.Attribute o m Z) (e::U) [] pos) (azm C m sp Vj E ta t):=by
 intro G s σ H Q I h;refine PySem.W.methodCall_KW (pl:=pl) (Bp (he G s σ H _ I h) λu s1 ⟨x,H1,I1,rx,a,dx,fs,ex,ea,l,q⟩=>?_) ht;subst ex;obtain rfl:u=Value.ref a:=rx;refine Xw I1 ea c hm l ?_;refine PySem.W.callWith_K (first:=[.ref a]) (h₀:=X.base) I.ok.mod.kin hm.kp (Bp (ha pos G s1 σ H1 _ I1 q) λus s2 ⟨vs,H2,I2,r,q2⟩=>⟨I2.V5,?_⟩) Zj Jg;exact aha (us:=.ref a::us) (vs:=.ref a::vs) F hr hb hd hx I2 (.cons rfl r) q2
def apz{X:Cx}{CX:CXT}{k:Nat}{f C:Addr}{U:FuncData}{ps:Yf}{R:Sp}{Vj:List V}{ds:Zl}{E:XK}{m:Str}{pos Z:Pos}{o:Expr}{ta:TE}{pl:Sem Bool}(he:PE X o ta)(c:Cls X.K C)(hm:Meth X.K C m f)(F:Gf X.prog X.w X.K X.mg X.base CX k f U ps R)(hr:Af k X.A)(hb:Binds X.K U ps ds)(hd:Vals Vj ds)(hx:Passes CX X E)
 (ht:eval (.Call (.Attribute o m Z) [] [] pos) X.env=(do
  let ov<-eval o X.env
  standAt Z.atName
  let (f,first) <-holding [ov] (getMethod ov m pl)
  callWith pos f first (backTo pos (starEach [] X.env)) (backToKw pos (keywordEach [] X.env))):=by rfl) :
 PE X (.Call (.Attribute o m Z) [] [] pos) (azm C m R Vj E ta a9g):=by
 intro G s σ H Q I h;refine PySem.W.methodCall_KW (pl:=pl) (Bp (he G s σ H _ I h) λu s1 ⟨x,H1,I1,rx,a,dx,fs,ex,ea,l,q⟩=>?_) ht;subst ex;obtain rfl:u=Value.ref a:=rx;refine Xw I1 ea c hm l ?_;exact PySem.W.callWith_K0 (first:=[.ref a]) I1.V5 hm.kp (aha (us:=[.ref a]) (vs:=[.ref a]) F hr hb hd hx I1 (.cons rfl .nil) q)
structure Mk(K:Fg)(C f:Addr):Prop where
 makes:PySem.W.makesIn K C=true
 init:PySem.W.findIn K (.ref C) "__init__"= some (some (.ref f))
 fn:PySem.W.isFn K (.ref f)=true
 kp:PySem.W.keepIn K (.ref C)=true
def ap0{X:Cx}{CX:CXT}{k:Nat}{f C:Addr}{fd:FuncData}{ps:Yf}{sp:Sp}{Vj:List V}{R:Zl}{E:XK}{Z:Zp}{σ:St}{H:Hp}{s:Shared}{Q:VK}{U:Zl}{vs:List V}(M:Mk X.K C f)(F:Gf X.prog X.w X.K X.mg X.base CX k f fd ps sp)(hr:Af (k+1) X.A)(hb:Binds X.K fd ps R)(hd:Vals Vj R)
 (hx:Passes CX X E) (I:Inv X Z σ H s) (r:Vals vs U)
 (h:∀x dx,H x=none->H dx=none->dx≠x->sp (.ref x::(vs++Vj)) (upd (upd H dx (.own x)) x (.ins C dx [])) (λv H2=>v=.non/\Q (.ref x) H2) E) :
 wpAny (model X.prog X.w) X.A (call (.ref C) U) (EP X Z σ Q) X.xe s:=by
 have hq:=h (s.heap.objs.size+1) s.heap.objs.size (I.Al.fresh (vm _)) (I.Al.fresh (bh _)) (f9 (ph _));have I2:=Inv.made (C:=C) I;have r2:Vals (V.ref (s.heap.objs.size+1)::(vs++Vj)) (Value.ref (s.heap.objs.size+1)::(U++R)):=.cons rfl (r.append hd);have hl:(Value.ref (s.heap.objs.size+1)::U++R).length=ps.length:=by have e:=r2.length;rw[F.len _ _ _ _ hq]at e;exact e.symm
 refine wpAny_call (apx (f:=f) I.V5 M.makes M.init (beq_iff_eq.mp M.fn) (v5 (F.run _ X.stack _ _ ⟨Value.ref (s.heap.objs.size+1)::U,[]⟩ (Value.ref (s.heap.objs.size+1)::(U++R)) _ _ E (hr.make C U [])
  (I2.env0.make C U []) (hb _ (Value.ref (s.heap.objs.size+1)::U) I2.V5 hl) r2 hq) λr s' G=>?_))
 cases r with
 |error e=>exact hx Z σ _ _ e s' I2 G
 |ok fl =>
  cases fl with
  |ret u =>
   obtain⟨v,H',I3,rv,ev,q3⟩:=I2.after G;subst ev;exact⟨rv,⟨V.ref (s.heap.objs.size+1),H',I3,rfl,q3⟩⟩
  |next=>exact False.elim G|brk=>exact False.elim G|cont=>exact False.elim G
def av9{X:Cx}{CX:CXT}{k:Nat}{f C:Addr}{U:FuncData}{ps:Yf}{R:Sp}{Vj:List V}{ds:Zl}{E:XK}{x:Str}{p pos:Pos}{e:Expr}{G:Ya}{t:TA}(M:Mk X.K C f)(F:Gf X.prog X.w X.K X.mg X.base CX k f U ps R)(hr:Af (k+1) X.A)(hg:Gl X x)(hm:X.mg x=some (.ref C))(hb:Binds X.K U ps ds)(hd:Vals Vj ds)(hx:Passes CX X E)
 (ha:PA X (e::G) t) (Vk:(x==("__debug__": Str))=false:=by decide) (he:starEach (e::G) X.env=(false,eval e X.env)::starEach G X.env:=by rfl) (Jg:(backTo pos (starEach G X.env)).any (·.1)=false:=by rfl) :
 PE X (.Call (.Name x p) (e::G) [] pos) (a9j C R Vj E t):=by
 intro Z s σ H Q I h;refine jd (ab0 I hg hm ?_ Vk);refine PySem.W.callWith_K (h₀:=X.base) I.ok.mod.kin M.kp (Bp (ha pos Z s σ H _ I h) λus s1 ⟨vs,H1,I1,r,q⟩=>⟨I1.V5,?_⟩) he Jg;exact ap0 M F hr hb hd hx I1 r q
structure Wf(N P:Yf)(sc:Scope):Prop where
 kind:sc.kind=.function
 co:sc.isCoroutine=false
 gen:sc.isGenerator=false
 nd:N.Nodup
 pre:N.take P.length=P
 par:∀x∈P,sc.names.lookup x=some .local\/sc.names.lookup x=some .cell
 a3a:∀y∈sc.names,y.2≠.free
theorem aaf{Z:Str->Option NameKind}{x:Str}:∀{binds:List (Str×Value)}{m:Zs},(∀v,(x,v)∉binds)->bindL Z binds m x=m x
 |[],_,_=>rfl
 |(n,v)::r,m,h=>by
  unfold bindL;rw[aaf λw G=>h w (bc _ G)];split
  .have:x≠n:=by rintro rfl;exact h v dh
   simp[this]
  .rfl
theorem aag{Z:Str->Option NameKind}{x:Str}:∀{binds:List (Str×Value)}{m:Zs},(∀v,(x,v)∉binds)->bindC Z binds m x=m x
 |[],_,_=>rfl
 |(n,v)::r,m,h=>by
  unfold bindC;rw[aag λw G=>h w (bc _ G)];split
  .rfl
  .have:x≠n:=by rintro rfl;exact h v dh
   simp[this]
theorem aah{Z:Str->Option NameKind}{x:Str}{v:Value}:∀{P:Yf}{G:Zl}{i:Nat}{m:Zs},P.Nodup->P[i]?=some x->G[i]?=some v->Z x=some .local ->
 bindL Z (P.zip G) m x=some v
 |[],_,_,_,_,h,_,_=>by simp at h|_::_,[],_,_,_,_,h,_=>by simp at h
 |p::P,w::G,0,m,nd,h1,h2,hk=>by
  simp at h1 h2;subst h1;subst h2;show bindL Z ((p,w)::P.zip G) m p=_;unfold bindL;rw[aaf λv U=>(qx.mp nd).1 (List.of_mem_zip U).1,bx hk];simp
 |p::P,w::G,i+1,m,nd,h1,h2,hk=>by
  show bindL Z ((p,w)::P.zip G) m x=_;unfold bindL;exact aah (i:=i) (qx.mp nd).2 (by simpa using h1) (by simpa using h2) hk
theorem aai{Z:Str->Option NameKind}{x:Str}{v:Value}:∀{P:Yf}{G:Zl}{i:Nat}{m:Zs},P.Nodup->P[i]?=some x->G[i]?=some v->Z x≠some .local ->
 bindC Z (P.zip G) m x=some v
 |[],_,_,_,_,h,_,_=>by simp at h|_::_,[],_,_,_,_,h,_=>by simp at h
 |p::P,w::G,0,m,nd,h1,h2,hk=>by
  simp at h1 h2;subst h1;subst h2;show bindC Z ((p,w)::P.zip G) m p=_;unfold bindC;rw[aag λv U=>(qx.mp nd).1 (List.of_mem_zip U).1,bw hk];simp
 |p::P,w::G,i+1,m,nd,h1,h2,hk=>by
  show bindC Z ((p,w)::P.zip G) m x=_;unfold bindC;exact aai (i:=i) (qx.mp nd).2 (by simpa using h1) (by simpa using h2) hk
noncomputable def start(N:Yf)(Z:List V):St:=Z.map some++List.replicate (N.length-Z.length) none
noncomputable def ahb(CX:CXT)(P:Program)(w:World)(K:Fg)(mg:Zs)(base:Heap)(N:Yf)(G:Str)(Z:Scope)(f:Addr)(R:Value)(A:Around)(outer:List Env)(s:Shared)(H:Hp)(E:XK):Cx where
 prog:=P
 w:=w
 K:=K
 mg:=mg
 base:=base
 A:=A.deeper (envOfC G Z s.heap.objs.size f R)
 N:=N
 s₀:=s
 H₀:=H
 env:=envOfC G Z s.heap.objs.size f R
 outer:=outer
 stack:=envOfC G Z s.heap.objs.size f R::outer
 ex:=[]
 calm:=true
 fn:=λ_=>true
 pn:=[]
 xe:=λe s'=>wpAny (model P w) (A.deeper (envOfC G Z s.heap.objs.size f R)) (leaving (envOfC G Z s.heap.objs.size f R) e) (λ_ U=>CX outer H s E e U) (λe' U=>CX outer H s E e' U) s'
def aei{Z:Scope}{n:Nat}{x:Str}(h:Z.names.lookup x=some .cell):∃c,(cellsFrom n Z.names []).lookup x=some c:=by have q:=PySem.W.cellsFrom_some Z.names n [] (.inl h);exact j6.mp q
def al2{CX:CXT}{P:Program}{w:World}{K:Fg}{mg:Zs}{qq:Heap}{N ps:Yf}{U:Str}{Z:Scope}{f:Addr}{cd:Value}{A:Around}{G:List Env}{s s1:Shared}{H:Hp}{E:XK}{us:Zl}{vs:List V}
 (S:Wf N ps Z) (hd:A.handled=none) (e0:ag9 P w K mg qq A G s H) (hl:vs.length=ps.length) (r:Vals vs us)
 (x:InCallC s s.heap.objs.size (bindL (envOfC U Z s.heap.objs.size f cd).kindOf (ps.zip us) λ_=>none) (cellsFrom (s.heap.objs.size+1) Z.names []) (bindC (envOfC U Z s.heap.objs.size f cd).kindOf (ps.zip us) λ_=>none) s1) :
 Inv (ahb CX P w K mg qq N U Z f cd A G s H E) [] (start N vs) H s1:=by
 have Jg:ps.length<=N.length:=by have:=mq List.length S.pre;rw[zg]at this;lia
 obtain⟨h1,tk,rfl,hk⟩:=x.done;have qj:∀b:Addr,b∉(ahb CX P w K mg qq N U Z f cd A G s H E).ex:=λb z=>absurd (show b∈([]:X9)from z) (by simp)
 refine⟨⟨e0.mod,S.kind,rfl,rfl,bh _,λy z c h1 R=>?_,λy hy=>?_,λy c _ h=>?_,λ_=>hd,Around.frames_deeper e0.frames,.inr ⟨rfl,rfl⟩,λb z=>absurd z (qj b),e0.bs,e0.bsz,λb _ _=>qj b,λb z=>absurd z (qj b),e0.V4,e0.frf⟩,
  rfl,e0.bare,Un.kept hk,⟨_,x.toInCall.ns,λi y v h1 R h3=>?_⟩,λy c h=>⟨_,x.cell y c h⟩,e0.Al.fresh (bh _),λy c h=>?_,λp hp=>absurd (show p∈([]:Zp)from hp) (by simp),e0.Al.kept hk,?_⟩
 .exact name_of_addr x.apart (zf h1) (zf R)
 .have hy:Z.names.lookup y=some .cell\/Z.names.lookup y=some .free:=hy
  rcases hy with hy|hy
  .exact aei hy
  .exact absurd rfl (S.a3a _ (zf hy))
 .exact zr (x.above y c (zf h))
 .have hi:i<vs.length:=by
   unfold start at R
   by_cases hi:i<vs.length
   .exact hi
   .rw[il (by simpa using hi)]at R
    rw[List.getElem?_replicate]at R;split at R<;>cases R
  have ha:vs[i]?=some v:=by
   unfold start at R;rw[dq (by simpa using hi),iz]at R;cases e:vs[i]? with
   |none=>rw[e]at R;cases R|some a=>rw[e]at R;cases R;rfl
  obtain⟨u,hu,rv⟩:=r.get ha;have hp:ps[i]?=some y:=by rw[<-S.pre,List.getElem?_take_of_lt (b_ hi (f_ hl))];exact h1
  have qk:ps.Nodup:=by rw[<-S.pre];exact S.nd.sublist (List.take_sublist _ _)
  refine⟨u,rv,?_⟩;rcases S.par y (ao hp)with k|k
  .exact .inl ⟨k,aah qk hp hu k⟩
  .obtain⟨c,e⟩:=aei (n:=s.heap.objs.size+1) k
   refine .inr ⟨.inl k,c,e,?_⟩;have q:=x.cell y c e;rw[aai qk hp hu (by show Z.names.lookup y≠_;rw[k];decide)]at q;exact q
 .exact e0.Al.fresh (zr (x.above y c (zf h)))
 .unfold start
  show _=N.length;rw[o6,du,List.length_replicate]
  lia
def a9m{CX:CXT}{P:Program}{w:World}{K:Fg}{mg:Zs}{qq:Heap}{k:Nat}{f:Addr}{q0 U:Str}{qj:Arguments}{qk:List Stmt}{Z:Scope}{dV kV q1 pm R ct oc:Value}{an od:Option Addr}
 {q3:Array (Option Value)} {N ps:Yf} {sp:Sp} (lk:K.lookup f=some ⟨oc,od,.func (PySem.W.fnOf q0 U qj qk Z dV kV q1 pm an R ct),q3⟩) (q5:PySem.W.codeIn K R U=true) (S:Wf N ps Z)
 (len:∀vs H Q E,sp vs H Q E->vs.length=ps.length)
 (q7:∀(A:Around)(G:List Env)(s:Shared)(H:Hp)(vs:List V)(Q:VK)(E:XK),Af k (A.deeper (envOfC U Z s.heap.objs.size f R))->sp vs H Q E ->
  ∃t,Sy (ahb CX P w K mg qq N U Z f R A G s H E) qk t/\t { nx:=λ_ H'=>Q .non H',rt:=Q } (start N vs) H) :
 Gf P w K mg qq CX (k+1) f (PySem.W.fnOf q0 U qj qk Z dV kV q1 pm an R ct) ps sp:=by
 refine⟨len,λA G s H q8 us vs Q E hr e0 hb r q2=>?_⟩;have hl:=len _ _ _ _ q2;have KX:K.In s.heap:=e0.mod.kin.keeps λb o e=>(e0.bs b o e).1
 have q4:s.heap.NoLimit:=e0.mod.nolimit.keeps λb o e=>(e0.bs b o e).1
 have q6:∀y∈ps.zip us,Z.names.lookup y.1=some .local\/(Z.names.lookup y.1=some .cell/\((cellsFrom (s.heap.objs.size+1) Z.names []).lookup y.1).isSome=true):=λ⟨n,v⟩ hy=>by
  rcases S.par n (List.of_mem_zip hy).1 with q|q
  .exact .inl q
  .exact .inr ⟨q,PySem.W.cellsFrom_some _ _ _ (.inl q)⟩
 refine codeAny_call_function hr.depth (KX _ _ lk) rfl S.co S.gen rfl (PySem.W.codeRec_of KX q5) (hb _ _ _ _ ?_);refine wpAny_newFunctionEnv_cells S.kind q6 λzq he s1 x=>?_
 subst he;refine⟨q4.keeps x.toInCall.keep,codeAny_func ?_⟩;obtain⟨t,ht,hq⟩:=q7 A G s H vs Q E (hr.deeper _) q2;have I:Inv (ahb CX P w K mg qq N U Z f R A G s H E) [] (start N vs) H s1:=al2 S hr.hd e0 hl r x;refine j7 (ht [] s1 (start N vs) H _ I hq) (λfl s' hs=>?_) λe s' hs=>hs
 have fin:∀{qv:St}{H':Hp}{v:V}{u:Value},Inv (ahb CX P w K mg qq N U Z f R A G s H E) [] qv H' s'->RelV v u->Q v H'->CE G P w H s Q u s':=
  fun{qv H' v u} J rv q=>⟨v,H',J.os,J.bare,J.base,J.Al,rv,q⟩
 cases fl with
 |ret u =>
  obtain⟨v,qv,H',J,rv,q⟩:=hs;exact fin J rv q
 |next =>
  obtain⟨qv,H',J,q⟩:=hs;exact fin (v:=V.non) (u:=Value.none) J rfl q
 |brk =>
  obtain⟨_,_,_,q⟩:=hs;exact False.elim q
 |cont =>
  obtain⟨_,_,_,q⟩:=hs;exact False.elim q
end L2
namespace L2
open PySem PySem.Spec PyProof.Rows
def tCB(r:List V->Hp->VK->Prop)(t:TA):TE:=λG H Q=>t G H λU Z=>r U Z Q
def ap2{X:Cx}{x:Str}{p pos:Pos}{e:Expr}{G:Ya}{t:TA}{id:String}{r:List V->Hp->VK->Prop}(hc:Bx X (.builtin id) r)(hg:Gl X x)(hm:X.mg x=none)(hv:bootBuiltins x=some (.builtin id))(ha:PA X (e::G) t)(R:x≠"__name__":= by decide)(Vk:(x==("__debug__": Str))=false:=by decide)
 (he:starEach (e::G) X.env=(false,eval e X.env)::starEach G X.env:=by rfl) (Jg:(backTo pos (starEach G X.env)).any (·.1)=false:=by rfl):PE X (.Call (.Name x p) (e::G) [] pos) (tCB r t):=by
 intro Z s U H Q I h;refine jd (Dw I hg hm hv ?_ R Vk);exact yz (Bp (ha pos Z s U H _ I h) λus s1 ⟨vs,H1,I1,r1,q1⟩=>hc Z s1 U H1 vs us Q I1 r1 q1) he Jg
def al3{X:Cx}{x:Str}{p pos:Pos}{e:Expr}{G:Ya}{t:TA}{T:String}{r:List V->Hp->VK->Prop}(hc:Bx X (.type T) r)(hg:Gl X x)(hm:X.mg x=none)(hv:bootBuiltins x=some (.type T))(ha:PA X (e::G) t)(R:x≠"__name__":= by decide)(Vk:(x==("__debug__": Str))=false:=by decide)
 (he:starEach (e::G) X.env=(false,eval e X.env)::starEach G X.env:=by rfl) (Jg:(backTo pos (starEach G X.env)).any (·.1)=false:=by rfl):PE X (.Call (.Name x p) (e::G) [] pos) (tCB r t):=by
 intro Z s U H Q I h;refine jd (Dw I hg hm hv ?_ R Vk);exact jm (Bp (ha pos Z s U H _ I h) λus s1 ⟨vs,H1,I1,r1,q1⟩=>hc Z s1 U H1 vs us Q I1 r1 q1) he Jg
section
variable{κ:Type}[DecidableEq κ]
noncomputable def Qd(Z:List (κ×V))(k:κ):Option V:=(Z.find? λG=>decide (G.1=k)).map (·.2)
noncomputable def putK(G:List (κ×V))(k:κ)(v:V):List (κ×V):=
 if(G.any λZ=>decide (Z.1=k))=true then G.map (λZ=>if Z.1=k then(Z.1,v)else Z)else G++[(k,v)]
def S8{p:κ×V}(e:p.1=k):Qd (p::r) k=some p.2:=by simp[Qd,qu,e]
def Tc{p:κ×V}(e:¬p.1=k):Qd (p::r) k=Qd r k:=by simp[Qd,qu,e]
theorem aej(k:κ):∀Z:List (κ×V),(Z.any λG=>decide (G.1=k))=(Qd Z k).isSome
 |[]=>rfl
 |p::r=>by
  rw[List.any_cons]
  by_cases e:p.1=k
  .simp only[S8 e,xx e,Bool.true_or,Option.isSome_some]
  .rw[Tc e,uh e,Bool.false_or];exact aej k r
def Vl(Z:List (κ×V))(k:κ)(v:V):(putK Z k v).length<=Z.length+1:=by
 unfold putK;split
 .rw[du];exact x_
 .rw[o6,gn,List.length_nil];exact bh _
def Nk.Ky(r:Nk o u):o.isSome=u.isSome:=by
 cases o with
 |none=>cases u with
  |none=>rfl|some _=>exact(show False from r).elim
 |some _=>cases u with
  |none=>exact(show False from r).elim
  |some _=>rfl
theorem Nk.getD(r:Nk o u)(G:RelV d Z):RelV (o.getD d) (u.getD Z):=by
 cases o with
 |none=>cases u with
  |none=>exact G|some _=>exact(show False from r).elim
 |some _=>cases u with
  |none=>exact(show False from r).elim
  |some _=>exact r
def KV.val(r:KV ie U)(k:κ):Nk (Qd ie k) (valueAt U k):=by
 unfold KV at r
 induction r with
 |nil=>exact True.intro
 |@cons p q ps qs h t ih =>
  obtain⟨G,R⟩:=h
  by_cases e:p.1=k
  .have Z:q.1=k:=G.symm.trans e
   have b:valueAt (q::qs) k=some q.2:=by simp[valueAt,qu,Z]
   rw[S8 e,b];exact R
  .have Z:¬q.1=k:=λz=>e (G.trans z)
   have b:valueAt (q::qs) k=valueAt qs k:=by simp[valueAt,qu,Z]
   rw[Tc e,b];exact ih
theorem KV.any(r:KV G U)(k:κ):(G.any λZ=>decide (Z.1=k))=U.any λZ=>decide (Z.1=k):=by
 unfold KV at r
 induction r with
 |nil=>rfl|cons h t R=>rw[List.any_cons,List.any_cons,R,h.1]
def KV.Jb(r:KV ie U)(k:κ)(ry:RelV y u) :
 KV (ie.map λZ=>if Z.1=k then(Z.1,y)else Z) (U.map λZ=>if Z.1=k then(Z.1,u)else Z):=by
 unfold KV at r⊢
 induction r with
 |nil=>exact .nil
 |@cons p q ps qs h t ih =>
  rw[gr,gr];refine .cons ?_ ih;obtain⟨G,R⟩:=h
  by_cases e:p.1=k
  .rw[bx e,bx (G.symm.trans e)];exact⟨G,ry⟩
  .rw[bw e,bw (λz=>e (G.trans z))];exact⟨G,R⟩
def KV.put(r:KV U G)(k:κ)(Z:RelV y u):KV (putK U k y) (stored G k u):=by
 unfold putK stored;rw[r.any k]
 by_cases e:(G.any λR=>decide (R.1=k))=true
 .rw[bx e,bx e];exact r.Jb k Z
 .rw[bw e,bw e];exact Paired.snoc r ⟨rfl,Z⟩
theorem KV.length{Z:List (κ×V)}{G:List (κ×Value)}(r:KV Z G):Z.length=G.length:=Paired.length r
end
def aaj(r:RelV (kV k) u):(m6 P w).is k u=true:=by
 cases k with
 |inl i=>obtain⟨t,e⟩:=(show ∃t,u=Value.int i t from r);subst e;exact aec P w i t
 |inr x=>obtain⟨t,e⟩:=(show ∃t,u=Value.str x t from r);subst e;exact aed P w x t
theorem aak{P:Program}{w:World}:∀{Z:List Key}{G:Zl},Vals (Z.map kV) G->ItemsAre (m6 P w) Z G
 |[],_,r=>by rw[List.map_nil]at r;cases r;exact .nil
 |k::Z,_,r=>by
  rw[gr]at r;cases r with
  |cons h t=>exact .cons (aaj h) (aak t)
abbrev KT(H:Hp):List (List Key×V)->List (List Key×Addr×Value)->Prop:=Paired λp q=>p.1=q.1/\H q.2.1=some (.tup (p.1.map kV))/\RelV p.2 q.2.2
def KT.val(r:KT H ie U)(k:List Key):Nk (Qd ie k) ((atKey U k).map (·.2)):=by
 induction r with
 |nil=>exact True.intro
 |@cons p q ps qs h t ih =>
  obtain⟨G,_,R⟩:=h
  by_cases e:p.1=k
  .have Z:q.1=k:=G.symm.trans e
   have b:atKey (q::qs) k=some q.2:=by simp[atKey,qu,Z]
   rw[S8 e,b];exact R
  .have Z:¬q.1=k:=λz=>e (G.trans z)
   have b:atKey (q::qs) k=atKey qs k:=by simp[atKey,qu,Z]
   rw[Tc e,b];exact ih
def KT.Jb(r:KT H ie R)(k:List Key)(ry:RelV y u) :
 KT H (ie.map λG=>if G.1=k then(G.1,y)else G) (R.map (putAt k u)):=by
 induction r with
 |nil=>exact .nil
 |@cons p q ps qs h t ih =>
  rw[gr,gr];refine .cons ?_ ih;obtain⟨Z,U,h3⟩:=h;unfold putAt
  by_cases e:p.1=k
  .rw[bx e,bx (Z.symm.trans e)];exact⟨Z,U,ry⟩
  .rw[bw e,bw (λz=>e (Z.trans z))];exact⟨Z,U,h3⟩
def KT.put(r:KT H G Z)(k:List Key)(R:H b=some (.tup (k.map kV)))(U:RelV y u) :
 KT H (putK G k y) (storedH Z k b u):=by
 have e:(G.any λkv=>decide (kv.1=k))=(atKey Z k).isSome:=by rw[aej,(r.val k).Ky,Option.isSome_map]
 unfold putK storedH;rw[e]
 by_cases q:(atKey Z k).isSome=true
 .rw[bx q,bx q];exact r.Jb k U
 .rw[bw q,bw q];exact Paired.snoc r ⟨rfl,R,U⟩
def KT.keeps(r:KT H G xs)(U:∀b Z,H b=some (.tup Z)->R b=some (.tup Z)):KT R G xs:=
 Paired.a1m r λ_ _ z=>⟨z.1,U _ _ z.2.1,z.2.2⟩
def azo(ok:Qv P w H h)(e:Rd H a u):Be P w H h a u:=e.ok ok
def Xy(ok:Qv P w H h)(e:Rd H a (.dK Z)):Z.length<=sizeLine/\(a==sysModules)=false/\∃vs,KV Z vs/\h.DictOf (m6 P w) a vs:=
 show Be P w H h a (.dK Z)from azo ok e
def a9o(ok:Qv P w H h)(e:H a=some (.dK Z)):Z.length<=sizeLine/\(a==sysModules)=false/\∃vs,KV Z vs/\h.DictOf (m6 P w) a vs:=Xy ok (.inl e)
def O2(ok:Qv P w H h)(e:H a=some (.tup (Z.map kV))):(tupleKind (m6 P w)).is h Z a:=by obtain⟨_,ye,r,o,G,U,n,R,_⟩:=(show Be P w H h a (.tup (Z.map kV))from ok a _ e);exact⟨o,ye.toArray,n,G,U,R,by simpa using aak r⟩
def aal(ok:Qv P w H h)(e:Rd H a (.dT G)):G.length<=sizeLine/\(a==sysModules)=false /\
 ∃xs,KT H G xs/\h.DictOfH (tupleKind (m6 P w)) a xs:=by
 obtain⟨z,y,xs,r,o,es,ep,U,h2,h3,h4,R⟩:=(show Be P w H h a (.dT G)from azo ok e);refine⟨z,y,xs,r,o,es,ep,U,h2,h3,h4,λx Z=>?_,R⟩;have all:∀{l:List (List Key×V)}{m:List (List Key×Addr×Value)},KT H l m->∀x∈m,(tupleKind (m6 P w)).is h x.1 x.2.1:=by
  intro l m q
  induction q with
  |nil=>intro x Z;exact nomatch Z
  |@cons p q ps qs hq t ih =>
   intro x Z;rcases cu.mp Z with e|Z
   .subst e
    exact O2 ok (by rw[<-hq.1];exact hq.2.1)
   .exact ih x Z
 exact all r x Z
def ap3(ok:Qv P w H h)(e:H a=some (.dT Z)):Z.length<=sizeLine/\(a==sysModules)=false /\
 ∃xs,KT H Z xs/\h.DictOfH (tupleKind (m6 P w)) a xs:=aal ok (.inl e)
def O3(H:Hp)(a:Addr)(y:V)(r:Option V):Prop:=
 (∃Z k,Rd H a (.dK Z)/\y=kV k/\r=Qd Z k)\/∃Z k b,Rd H a (.dT Z)/\y=.ref b/\H b=some (.tup (k.map kV))/\r=Qd Z k
def ahc(H:Hp)(a:Addr)(y v:V)(G:Hp):Prop:=
 (∃Z k,H a=some (.dK Z)/\y=kV k/\Z.length<sizeLine/\G=upd H a (.dK (putK Z k v))) \/
 ∃Z k b,H a=some (.dT Z)/\y=.ref b/\H b=some (.tup (k.map kV))/\Z.length<sizeLine/\G=upd H a (.dT (putK Z k v))
theorem O3.k{k:Key}(e:H a=some (.dK Z)):O3 H a (kV k) (Qd Z k):=.inl ⟨Z,k,.inl e,rfl,rfl⟩
def O3.t{k:List Key}(e:H a=some (.dT Z))(G:H b=some (.tup (k.map kV))):O3 H a (.ref b) (Qd Z k):=.inr ⟨Z,k,b,.inl e,rfl,G,rfl⟩
theorem ahc.k{k:Key}(e:H a=some (.dK Z))(G:Z.length<sizeLine):ahc H a (kV k) v (upd H a (.dK (putK Z k v))):=.inl ⟨Z,k,e,rfl,G,rfl⟩
def ahc.t{k:List Key}(e:H a=some (.dT Z))(U:H b=some (.tup (k.map kV)))(G:Z.length<sizeLine) :
 ahc H a (.ref b) v (upd H a (.dT (putK Z k v))):=.inr ⟨Z,k,b,e,rfl,U,G,rfl⟩
def Inv.big(I:Inv X pins σ H s):sysModules<s.heap.objs.size:=by
 have h:mainGlobals<s.heap.objs.size:=(I.mod.glob.keeps I.bk).lt
 exact Nat.lt_trans (by decide) h
def al4(hu:A.units+1<cLine)(I:Inv X pins σ H s)(g:O3 H a y (some v))(ry:RelV y u)(h:∀U s',Inv X pins σ H s'->RelV v U->Q U s') :
 wpAny (model X.prog X.w) A (getItem (.ref a) u) Q E s:=by
 rcases g with⟨ie,k,e,ey,l⟩|⟨ie,k,b,e,ey,eb,l⟩
 .subst ey
  obtain⟨z,hd,vs,G,R⟩:=Xy I.Al e;obtain⟨U,hw,Z⟩:=Nk.some_of (v:=v) (o:=valueAt vs k) (by rw[l];exact G.val k);exact wpAny_getItem_of (aaj ry) R.mapOf hw (h U _ (I.tok _) Z)
 .subst ey
  cases(show u=Value.ref b from ry);obtain⟨z,hd,xs,G,R⟩:=aal I.Al e;obtain⟨U,hw,Z⟩:=Nk.some_of (v:=v) (o:=(atKey xs k).map (·.2)) (by rw[l];exact G.val k);obtain⟨p,hp,qq⟩:=cj.mp hw;refine wpAny_getItem_heap (v8 hu) (O2 I.Al eb) R hp ?_;rw[qq];exact h U _ (I.tok _) Z
def a9p(hu:A.units+1<cLine)(I:Inv X pins σ H s)(g:O3 H a y o)(ry:RelV y u)(h:∀s',Inv X pins σ H s'->Q (.bool o.isSome) s') :
 wpAny (model X.prog X.w) A (compareOp .In u (.ref a)) Q E s:=by
 rcases g with⟨ie,k,e,R,l⟩|⟨ie,k,b,e,R,eb,l⟩
 .subst R
  obtain⟨z,U,vs,Z,G⟩:=Xy I.Al e;refine wpAny_in_of (aaj ry) U G.mapOf ?_;rw[<-(Z.val k).Ky,<-l];exact h _ (I.tok _)
 .subst R
  cases(show u=Value.ref b from ry);obtain⟨z,U,xs,Z,G⟩:=aal I.Al e;refine wpAny_in_heap (v8 hu) (O2 I.Al eb) U G ?_;have q:=(Z.val k).Ky;rw[Option.isSome_map]at q;rw[<-q,<-l];exact h _ (I.tok _)
def aje(hu:A.units+1<cLine)(I:Inv X pins σ H s)(g:O3 H a y o)(ry:RelV y u)(h:∀s',Inv X pins σ H s'->Q (.bool (!o.isSome)) s') :
 wpAny (model X.prog X.w) A (compareOp .NotIn u (.ref a)) Q E s:=by
 rcases g with⟨ie,k,e,R,l⟩|⟨ie,k,b,e,R,eb,l⟩
 .subst R
  obtain⟨z,U,vs,Z,G⟩:=Xy I.Al e;refine wpAny_notIn_of (aaj ry) U G.mapOf ?_;rw[<-(Z.val k).Ky,<-l];exact h _ (I.tok _)
 .subst R
  cases(show u=Value.ref b from ry);obtain⟨z,U,xs,Z,G⟩:=aal I.Al e;refine wpAny_notIn_heap (v8 hu) (O2 I.Al eb) U G ?_;have q:=(Z.val k).Ky;rw[Option.isSome_map]at q;rw[<-q,<-l];exact h _ (I.tok _)
def ajf(I:Inv X pins σ H s)(mu:Mut (H a))(hs:Heap.SameBut a s.heap Z)(R:∃q,Z.get? a=some q)(new:Be X.prog X.w (upd H a G) Z a G) :
 Inv X pins σ (upd H a G) { s with heap:=Z,toks:=t' }:=
 I.write (x:=a) (e:=a) mu (.inl rfl) (λb q U z=>(hs.2 b U).trans z) R new
def ap4(z:U.length<=sizeLine)(hd:(a==sysModules)=false)(Z:KV U G)(R:h'.DictOf (m6 P w) a G) :
 Be P w H' h' a (.dK U):=⟨z,hd,G,Z,R⟩
def aam(hu:A.units+1<cLine)(I:Inv X pins σ H s)(g:ahc H a y v H')(ry:RelV y u)(rv:RelV v r)(h:∀s',Inv X pins σ H' s'->Q () s') :
 wpAny (model X.prog X.w) A (setItem (.ref a) u r) Q E s:=by
 rcases g with⟨U,k,e,ey,l,eH⟩|⟨U,k,b,e,ey,eb,l,eH⟩
 .subst ey eH
  obtain⟨z,hd,vs,Z,dd⟩:=a9o I.Al e;have hz:vs.length<=sizeLine:=by rw[<-Z.length];exact z
  have hl:(putK U k v).length<=sizeLine:=by have:=Vl U k v;exact a_ this l
  refine wpAny_setItem_pairs (hsz:=hz) (aaj ry) dd λh' G hs=>h _ ?_
  have he:∃q,h'.get? a=some q:=let ⟨q,_,_,R,_⟩:=G;⟨q,R⟩;exact ajf I (by rw[e];exact True.intro) hs he (ap4 hl hd (Z.put k rv) G)
 .subst ey eH
  cases(show u=Value.ref b from ry);obtain⟨z,hd,xs,Z,dd⟩:=ap3 I.Al e;have hz:xs.length<=sizeLine:=by rw[<-Paired.length Z];exact z
  have hl:(putK U k v).length<=sizeLine:=by have:=Vl U k v;exact a_ this l
  refine wpAny_setItem_heap (hsz:=hz) (v8 hu) (O2 I.Al eb) dd λh' G hs=>h _ ?_
  obtain⟨q,es,ep,R,h2,h3,h4,_,h5⟩:=G;refine ajf I (by rw[e];exact True.intro) hs ⟨q,R⟩ ⟨hl,hd,_,(Z.put k eb rv).keeps λc ys ec=>?_,q,es,ep,R,h2,h3,h4,h5⟩;rw[my (apc ec e (λz=>nomatch z))];exact ec
def aek(I:Inv X pins σ H s)(g:O3 H a y o):s.TypeIs (.ref a) "dict":= by
 rcases g with⟨G,k,e,_,_⟩|⟨G,k,b,e,_,_,_⟩
 .obtain⟨_,_,R,_,Z⟩:=Xy I.Al e
  exact Z.typeIs
 .obtain⟨_,_,U,_,Z⟩:=aal I.Al e
  exact Z.typeIs
def ap5(h:Heap)(Z:sysModules<h.objs.size):Be P w H (h.push { cls:=.type "dict",data:=.dict #[] }) h.objs.size (.dK []):=
 ⟨jq _,pq.mpr (j0 (f9 Z)),[],.nil,Heap.DictOf.new h⟩
def ap6(h:Heap)(Z:sysModules<h.objs.size):Be P w H (h.push { cls:=.type "dict",data:=.dict #[] }) h.objs.size (.dT []):=
 ⟨jq _,pq.mpr (j0 (f9 Z)),[],.nil,_,#[],0,bu _ rfl,⟨rfl,rfl,rfl⟩,rfl,rfl,Ar⟩
def a3b:TE:=λ_ H Q=>∀p,H p=none->Q (.ref p) (upd H p (.dK []))
def a3c:TE:=λ_ H Q=>∀p,H p=none->Q (.ref p) (upd H p (.dT []))
def ap7:PE X (.Dict [] [] pos) a3b:=λZ s G H Q I h =>
 wpAny_Dict_empty ⟨.ref s.heap.objs.size,_,I.laid (a:=s.heap.objs.size) (o:=.dK []) (t':=s.toks) (λ_ _ q=>au _ q) (bh _) (ap5 s.heap I.big),rfl,h _ (I.Al.fresh (bh _))⟩
def ap8:PE X (.Dict [] [] pos) a3c:=λZ s G H Q I h =>
 wpAny_Dict_empty ⟨.ref s.heap.objs.size,_,I.laid (a:=s.heap.objs.size) (o:=.dT []) (t':=s.toks) (λ_ _ q=>au _ q) (bh _) (ap6 s.heap I.big),rfl,h _ (I.Al.fresh (bh _))⟩
def a3d(hu:A.units+1<cLine)(I:Inv X pins σ H s)(g:O3 H a y o)(ry:RelV y u)(rd:RelV d r)(h:∀w' s',Inv X pins σ H s'->RelV (o.getD d) w'->Q w' s') :
 wpAny (model X.prog X.w) A (call (.builtin "dict.get") [.ref a,u,r]) Q E s:=by
 rcases g with⟨ie,k,e,R,l⟩|⟨ie,k,b,e,R,eb,l⟩
 .subst R
  obtain⟨z,U,vs,Z,G⟩:=Xy I.Al e;refine call_meetsIn PySem.F.slot_dict_get G.typeIs PySem.F.entry_dict_get (PySem.F.args_dict_get_3 _ _ _) (meets_dict_get_default (m6 X.prog X.w) a (aaj ry) U r) ⟨_,G.mapOf,h _ _ (I.tok _) ?_⟩;rw[l];exact(Z.val k).getD rd
 .subst R
  cases(show u=Value.ref b from ry);obtain⟨z,U,xs,Z,G⟩:=aal I.Al e;refine call_meetsIn PySem.F.slot_dict_get G.typeIs PySem.F.entry_dict_get (PySem.F.args_dict_get_3 _ _ _) (meetsH_dict_get_default (tupleKind (m6 X.prog X.w)) a b U r) ⟨v8 hu,k,xs,O2 I.Al eb,G,h _ _ (I.tok _) ?_⟩;rw[l];exact(Z.val k).getD rd
def ap9(I:Inv X pins σ H s)(e:Rd H a (.dK ie))(h:∀p U,H p=none->Inv X pins σ (upd H p (.dK ie)) U->Q (.ref p) U):wpAny (model X.prog X.w) A (call (.type "dict") [.ref a]) Q E s:=by
 obtain⟨z,hd,vs,Z,dd⟩:=Xy I.Al e;refine kt_call_dict hd dd (by rw[<-Z.length];exact z) λh' G hs=>?_
 refine h _ _ (I.Al.fresh (bh _)) (I.laid (a:=s.heap.objs.size) (o:=.dK ie) (t':=s.toks) (λb q R=>?_) (bh _) (ap4 z (pq.mpr (j0 (f9 I.big))) Z G));exact(hs.2 b (f9 (az R))).trans (au _ R)
end L2
namespace HT
open PySem PyProof.Rows
def awb(ht:IsTup s.heap t U.toArray)(hb:IsTup s.heap b G.toArray)(h0:U=[]->Q (.ref b) s)(h1:G=[]->Q (.ref t) s)(h2:U≠[]->G≠[]->Q (.ref s.heap.objs.size) { s with heap:=s.heap.push { cls:=.type "tuple",data:=.seq (U++G).toArray } })(q1:U.length+G.length<=sizeLine):wpAny (model prog w) A (binaryOp .Add (.ref t) (.ref b)) Q E s:=by
 obtain⟨⟨q0,dd,qj,sl⟩,ho,hc,n,hd⟩:=id ht;obtain⟨⟨q3,qq,q2,R⟩,Z,qv,n2,qk⟩:=id hb;simp only at hc hd qv qk;subst hc hd qv qk;have e:U.toArray++G.toArray=(U++G).toArray:=by simp
 by_cases hv:U=[]
 .exact concat_meets ⟨_,ho,rfl⟩ ⟨_,Z,rfl⟩ noFill_tuple_add seq_tuple_add PySem.F.slot_tuple_add PySem.F.entry_tuple_add (PySem.F.args_tuple_add_2 _ _)
   (tuple_addW0 t b U.toArray G.toArray n n2 dd qq sl R (by simp[hv])) ⟨ho,Z,h0 hv⟩
 by_cases hw:G=[]
 .exact concat_meets ⟨_,ho,rfl⟩ ⟨_,Z,rfl⟩ noFill_tuple_add seq_tuple_add PySem.F.slot_tuple_add PySem.F.entry_tuple_add (PySem.F.args_tuple_add_2 _ _)
   (tuple_addW1 t b U.toArray G.toArray n n2 dd qq sl R (by simpa using hv) (by simp[hw])) ⟨ho,Z,h1 hw⟩
 .refine concat_meets ⟨_,ho,rfl⟩ ⟨_,Z,rfl⟩ noFill_tuple_add seq_tuple_add PySem.F.slot_tuple_add PySem.F.entry_tuple_add (PySem.F.args_tuple_add_2 _ _)
   (tuple_addW2 t b U.toArray G.toArray n n2 dd qq sl R (by simpa using hv) (by simpa using hw) (by rw[gq,gq];exact q1)) ⟨ho,Z,?_⟩
  rw[e];exact h2 hv hw
noncomputable def Gy(n d:Nat):Option Int->Nat
 |none=>d|some v=>if v<0 then(v+(n:Int)).toNat else min v.toNat n
def a3e(n d:Nat)(G:d<=n)(o:Option Int):Gy n d o<=n:=by
 cases o with
 |none=>exact G
 |some v =>
  show(if v<0 then(v+(n:Int)).toNat else min v.toNat n)<=n
  by_cases Z:v<0
  .rw[bx Z];lia
  .rw[bw Z];exact Nat.min_le_right _ _
def ajg(v:Int)(n d:Nat):(if v<0 then max (v+(n:Int)) 0 else min v (n:Int))=((Gy n d (some v):Nat):Int):=by
 show(if v<0 then max (v+(n:Int)) 0 else min v (n:Int))=(((if v<0 then(v+(n:Int)).toNat else min v.toNat n):Nat):Int)
 by_cases Z:v<0
 .simp only[bx Z];lia
 .simp only[bw Z];lia
def ahd(Z G:Option Int)(n:Nat):Builtin.Slice.sliceAdjust Z G 1 (n:Int)=(((Gy n 0 Z:Nat):Int),((Gy n n G:Nat):Int)):=by
 have U:¬((1:Int)<0):=by lia
 unfold Builtin.Slice.sliceAdjust;simp only[U,jg];refine Prod.ext ?_ ?_
 .cases Z with
  |none=>rfl|some v=>exact ajg v n 0
 .cases G with
  |none=>rfl|some v=>exact ajg v n n
def ahe(i j:Nat):Builtin.Slice.slicePlaces (i:Int) (j:Int) 1=j-i:=by unfold Builtin.Slice.slicePlaces;have Z:(1:Int) > 0:=m_ (by decide);simp only[Z,jw,Int.ediv_one];split<;>lia
def Xz(p:IsPart v o)(h:Q o s):wpAny (model prog w) A (Builtin.Slice.slicePartIndex v) Q E s:=by
 cases p with
 |none=>exact slicePart_none h|int i t=>exact slicePart_int h
def Ul{Z:Option Int}{n:Nat}(hs:s.heap.IsSliceOf sl vl vu .none)(pl:IsPart vl Z)(pu:IsPart vu R)(h:Q (((Gy n 0 Z:Nat):Int),1,Gy n n R-Gy n 0 Z) s):wpAny (model prog w) A (Builtin.Slice.sliceApplied (.ref sl) (pure (n:Int))) Q E s:=by obtain⟨os,U,qq,G⟩:=id hs;unfold Builtin.Slice.sliceApplied Builtin.Slice.sliceFields;refine aa (aa (ig U G (x:=vl) rfl (aa (ig U G (x:=vu) rfl (aa (ig U G (x:=.none) rfl (aj ?_)))))));refine aa (slicePart_none ?_);show wpAny _ _ (if((1:Int)==0)=true then _ else _) _ _ s;rw[bw (by decide)];refine aa (Xz pl (aa (Xz pu (aa (aj ?_)))));show wpAny _ _ (match Builtin.Slice.sliceAdjust Z R 1 (n:Int)with|(Z,R)=>pure (Z,(1:Int),Builtin.Slice.slicePlaces Z R 1)) _ _ s;rw[ahd Z R n];show wpAny _ _ (pure (((Gy n 0 Z:Nat):Int),(1:Int),Builtin.Slice.slicePlaces ((Gy n 0 Z:Nat):Int) ((Gy n n R:Nat):Int) 1)) _ _ s;rw[ahe];exact aj h
def aqa(Z:U1)(i k:Nat):((List.range k).filterMap λ(m:Nat)=>Z[((i:Int)+(m:Int)*1).toNat]?).toArray=((Z.toList.drop i).take k).toArray:=by
 have e:(λ(m:Nat)=>Z[((i:Int)+(m:Int)*1).toNat]?)=λm=>Z[i+m]?:=by
  funext m
  have:((i:Int)+(m:Int)*1).toNat=i+m:=by lia
  rw[this]
 rw[e];have:=pick_run Z i k;rw[List.filterMap_map]at this;have G:((λx=>Z[x]?) ∘ λx=>i+x)=λm=>Z[i+m]?:=rfl
 rw[G]at this;rw[this]
def Td{Z:Option Int}(ht:IsTup s.heap t items)(hs:s.heap.IsSliceOf sl vl vu .none)(pl:IsPart vl Z)(pu:IsPart vu G)(hw:Gy items.size 0 Z=0->Gy items.size items.size G=items.size->Q (.ref t) s)(h:Q (.ref s.heap.objs.size) { s with heap:=s.heap.push { cls:=.type "tuple",data:=.seq ((items.toList.drop (Gy items.size 0 Z)).take (Gy items.size items.size G-Gy items.size 0 Z)).toArray } })(qv:items.size<=sizeLine):wpAny (model prog w) A (getItem (.ref t) (.ref sl)) Q E s:=by
 have U:sizeOk (.seq ((items.toList.drop (Gy items.size 0 Z)).take (Gy items.size items.size G-Gy items.size 0 Z)).toArray):=by
  show((items.toList.drop (Gy items.size 0 Z)).take (Gy items.size items.size G-Gy items.size 0 Z)).toArray.size<=sizeLine
  rw[gq,zg,List.length_drop,ql];omega
 have hj:Gy items.size items.size G<=items.size:=a3e _ _ (bh _) G
 obtain⟨os,qq,qj,q0⟩:=id hs;have qk:s.TypeIs (.ref sl) "slice":= ⟨os,qq,qj⟩;unfold getItem
 try with_reducible refine ji ?_
 first|refine aa (aj ?_)|skip
 refine aa (wpAny_sequenceKey ht.typeIs (by decide) ?_);refine aa (ju (name:=Str.ofString "__getitem__") ht.typeIs ym
  (jr ym ht.typeIs entry_tuple_getitem ?_ (args_tuple_getitem _ _)))
 show wpAny _ _ (Builtin.Tuple.tupleItemsOf (.ref t)>>=_) _ _ s;refine aa (tupleItemsOf_ ht ?_);refine aa (qb qk ?_);rw[bx (by decide)];refine aa (Ul hs pl pu ?_);show wpAny _ _ (if(((Gy items.size 0 Z:Nat):Int)==0&&(1:Int)==1&&(Gy items.size items.size G-Gy items.size 0 Z)==items.size)=true then _ else _) _ _ s
 by_cases R:(((Gy items.size 0 Z:Nat):Int)==0&&(1:Int)==1&&(Gy items.size items.size G-Gy items.size 0 Z)==items.size)=true
 .rw[bx R]
  rw[aq,aq]at R;have q1:((Gy items.size 0 Z:Nat):Int)=0:=eq_of_beq R.1.1;have q2:Gy items.size items.size G-Gy items.size 0 Z=items.size:=eq_of_beq R.2;have q3:=hw (by lia) (by lia);refine aa (m:=Builtin.Tuple.tupleIsExact (.ref t)) (aa (qb ht.typeIs (aj ?_)));rw[bx (by decide)];exact aa (wpAny_rule (aj ⟨_,rfl,aj q3⟩))
 rw[bw R,aqa]
 first
  |exact aa (m:=Builtin.Tuple.tupleExact _) (jx (aj ⟨_,rfl,aj h⟩) U)
  |exact aa (m:=Builtin.Tuple.tupleExact _) (jx (aa (aj (aj ⟨_,rfl,aj h⟩))) U)
  |exact aa (aa (m:=Builtin.Tuple.tupleExact _) (jx (aj (aj ⟨_,rfl,aj h⟩)) U))
  |exact aa (aa (m:=Builtin.Tuple.tupleExact _) (jx (aj ⟨_,rfl,aj h⟩) U))
end HT
namespace L2
open PySem PySem.Spec PyProof.Rows
abbrev TO:=St->Hp->(Option Int->Hp->Prop)->Prop
def PO(X:Cx)(e:Option Expr)(t:TO):Prop:=
 ∀(Z:Zp)(s:Shared)(G:St)(H:Hp)(Q:Option Int->Hp->Prop),Inv X Z G H s->t G H Q ->
  wpAny (model X.prog X.w) X.A (evalPart e X.env) (λu R=>∃o U,Inv X Z G U R/\IsPart u o/\Q o U) X.xe s
def awc:TO:=λ_ H Q=>Q none H
def a9r(t:TE):TO:=λZ H Q=>t Z H λx G=>∃i,x=.int i/\Q (some i) G
def awd:PO X none awc:=by intro Z s G H Q I h;rw[evalPart_none];exact aj ⟨none,H,I,.none,h⟩
def awe(h:PE X e U):PO X (some e) (a9r U):=by
 intro Z s G H Q I hw;rw[evalPart_some];refine Bp (h Z s G H _ I hw) λu s1 z_=>?_
 obtain⟨x,H1,R,r1,q1⟩:=z_;obtain⟨i,rfl,q⟩:=q1;obtain⟨t,rfl⟩:=r1;exact⟨some i,H1,R,.int i t,q⟩
def SlR(X:Cx)(r:V->Option Int->Option Int->Hp->VK->Prop):Prop:=
 ∀(Z:Zp)(s:Shared)(G:St)(H:Hp)(x:V)(v R vu:Value)(lo U:Option Int)(sl:Addr)(Q:VK),Inv X Z G H s->RelV x v->s.heap.IsSliceOf sl R vu .none->IsPart R lo->IsPart vu U->r x lo U H Q ->
  ∃T id,typeLookup (.type T) "__getitem__"= pure (some (.builtin id))/\s.TypeIs v T/\wpAny (model X.prog X.w) X.A (getItem v (.ref sl)) (EP X Z G Q) X.xe s
def SlR.or(h:SlR X r)(h':SlR X r'):SlR X (λx U G H Q=>r x U G H Q\/r' x U G H Q):=by
 intro Z s R H x v vl vu U G sl Q I rx hs pl pu q;rcases q with q|q
 .exact h Z s R H x v vl vu U G sl Q I rx hs pl pu q
 .exact h' Z s R H x v vl vu U G sl Q I rx hs pl pu q
def tSl(r:V->Option Int->Option Int->Hp->VK->Prop)(G:TE)(tl U:TO):TE:=λZ H Q=>G Z H λx H1=>tl Z H1 λl H2=>U Z H2 λu R=>r x l u R Q
def aqb{lo:Option Expr}(hr:SlR X r)(he:PE X e te)(hl:PO X lo tl)(hu:PO X hi th):PE X (.Subscript e (.Slice lo hi none p2) pos) (tSl r te tl th):=by
 intro Z s U H Q I h;refine Subscript_ (Bp (he Z s U H _ I h) λv s1 z_=>?_);obtain⟨x,H1,I1,r1,q1⟩:=z_;refine wpAny_Slice (Bp (hl Z s1 U H1 _ I1 q1) λvl s2 ⟨l,H2,I2,pl,q2⟩=>Bp (hu Z s2 U H2 _ I2 q2) λR G z_=>?_);obtain⟨u,H3,I3,pu,q3⟩:=z_;rw[evalPart_none];refine aj ?_;have I4:Inv X Z U H3 { G with heap:=G.heap.push { cls:=.type "slice",data:=.fields #[vl,R,.none] } }:=I3.kept (t':=G.toks) λb ob q=>au _ q
 obtain⟨T,id,hT,ht,hg⟩:=hr Z { G with heap:=G.heap.push { cls:=.type "slice",data:=.fields #[vl,R,.none] } } U H3 x v vl R l u G.heap.objs.size Q I4 r1 (Heap.IsSliceOf.new ..) pl pu q3;show wpAny (model X.prog X.w) X.A (subscriptTail e (.Slice lo hi none p2) v (.ref G.heap.objs.size)) (EP X Z U Q) X.xe { G with heap:=G.heap.push { cls:=.type "slice",data:=.fields #[vl,R,.none] } };exact tail_any (ops:=[.ref G.heap.objs.size,v]) ht hT hg (by with_unfolding_all rfl)
def V7(Z:List V)(G U:Option Int):List V:=(Z.drop (HT.Gy Z.length 0 G)).take (HT.Gy Z.length Z.length U-HT.Gy Z.length 0 G)
def Vm(Z:List V)(G U:Option Int):(V7 Z G U).length<=Z.length:=by
 unfold V7;rw[zg,List.length_drop]
 lia
def bf2(K:Fg):V->Option Int->Option Int->Hp->VK->Prop:=λx G U H Q=>∃a Z,x=.ref a/\Hl K H a Z /\
 (HT.Gy Z.length 0 G=0->HT.Gy Z.length Z.length U=Z.length->Q (.ref a) H)/\∀p,H p=none->Q (.ref p) (upd H p (.tup (V7 Z G U)))
def a3f:SlR X (bf2 X.K):=by
 intro qq s σ H x v vl vu U R sl Q I rx hs pl pu h;obtain⟨a,G,rfl,hx,hw,q⟩:=h;cases rx;obtain⟨ye,r,ht,hz⟩:=I.tuple hx;have Z:ye.toArray.size=G.length:=by rw[gq];exact r.length.symm
 refine⟨"tuple",_,ym.lookup,ht.typeIs,?_⟩;refine HT.Td ht hs pl pu (by rw[Z];exact λz1 z2=>⟨.ref a,H,I,rfl,hw z1 z2⟩) ?_ (by rw[Z];exact hz);rw[Z];refine⟨.ref s.heap.objs.size,_,I.laid (t':=s.toks) (o:=.tup (V7 G U R)) (λb ob q=>au _ q) (bh _) ?_,rfl,q _ (I.Al.fresh (bh _))⟩;exact⟨dz (Vm G U R) hz,_,(r.drop (HT.Gy G.length 0 U)).take (HT.Gy G.length G.length R-HT.Gy G.length 0 U),Xr.new _ _⟩
def a9s(K:Fg):R2:=λx y H Q=>∃a b Z G,x=.ref a/\y=.ref b/\Hl K H a Z/\Hl K H b G/\Z.length+G.length<=sizeLine /\
 (Z=[]->Q (.ref b) H)/\(G=[]->Q (.ref a) H)/\(∀p,H p=none->Q (.ref p) (upd H p (.tup (Z++G))))
def Vals.aji(r:Vals Z G):G=[]↔Z=[]:=by
 cases r with
 |nil=>simp|cons _ _=>simp
def awf:Dk X (binaryOp .Add) (a9s X.K):=by intro U s σ H x y v u Q I rx ry h;obtain⟨a,b,xs,ys,rfl,rfl,ha,hb,R,q0,q1,q2⟩:=h;cases rx;cases ry;obtain⟨ye,G,p1,_⟩:=I.tuple ha;obtain⟨qq,Z,p2,_⟩:=I.tuple hb;refine HT.awb p1 p2 (λz=>⟨.ref b,H,I,rfl,q0 (G.aji.mp z)⟩) (λz=>⟨.ref a,H,I,rfl,q1 (Z.aji.mp z)⟩) (λ_ _=>?_) (by rw[<-G.length,<-Z.length];exact R);refine⟨.ref s.heap.objs.size,_,I.laid (t':=s.toks) (o:=.tup (xs++ys)) (λb ob q=>au _ q) (bh _) ?_,rfl,q2 _ (I.Al.fresh (bh _))⟩;exact⟨by rw[o6];exact R,_,G.append Z,Xr.new _ _⟩
end L2
namespace L2
open PySem PySem.Spec PyProof.Rows
noncomputable def ixN(n:Nat)(i:Int):Option Nat:=if 0<=i then(if i<n then some i.toNat else none)else if -(n:Int)<=i then some (i+n).toNat else none
def atI{α:Type}(Z:List α)(i:Int):Option α:=(ixN Z.length i).bind λj=>Z[j]?
def ajj(h:ixN n i=some j):seqIndex? i n=some j/\j<n/\-(n:Int)<=i/\i<n:=by
 unfold ixN at h
 by_cases G:0<=i
 .rw[bx G]at h
  by_cases Z:i<n
  .rw[bx Z]at h
   have e:i.toNat=j:=jk h;exact⟨by rw[seqIndex_of G Z,e],by lia,by lia,Z⟩
  .rw[bw Z]at h;cases h
 .rw[bw G]at h
  by_cases Z:-(n:Int)<=i
  .rw[bx Z]at h
   have e:(i+n).toNat=j:=jk h;exact⟨by rw[seqIndex_neg (by lia) Z,e],by lia,Z,by lia⟩
  .rw[bw Z]at h;cases h
def ab4(h:atI Z i=some v):∃j,seqIndex? i Z.length=some j/\Z[j]?=some v/\j<Z.length/\-(Z.length:Int)<=i/\i<Z.length:=by
 unfold atI at h;cases e:ixN Z.length i with
 |none=>rw[e]at h;cases h
 |some j =>
  rw[e]at h;obtain⟨G,U,h3,R⟩:=ajj e;exact⟨j,G,h,U,h3,R⟩
def Wg(b:Expr):Prop:=∀o i,subscripted b false o i=operate [o,i] (getItem o i)
def IxR(X:Cx)(r:R2):Prop:=
 ∀(U Z:Expr)(G:Zp)(s:Shared)(R:St)(H:Hp)(x y:V)(v u:Value)(Q:VK),Inv X G R H s->RelV x v->RelV y u->r x y H Q ->
  subscripted Z false v u=operate [v,u] (getItem v u)->wpAny (model X.prog X.w) X.A (subscriptTail U Z v u) (EP X G R Q) X.xe s
def MtR(X:Cx)(id:String)(r:V->List V->Hp->VK->Prop):Prop:=
 ∀(Z:Zp)(s:Shared)(U:St)(H:Hp)(x:V)(R:List V)(v:Value)(G:Zl)(Q:VK),Inv X Z U H s->RelV x v->Vals R G->r x R H Q ->
  wpAny (model X.prog X.w) X.A (call (.builtin id) (v::G)) (EP X Z U Q) X.xe s
def azr(hr:IxR X r)(G:PE X a ta)(R:PE X b tb)(hs:Wg b):PE X (.Subscript a b pos) (tOp r ta tb):=by intro Z s U H Q I h;exact Subscript_ (a2n G R I h λv u s2 x y H2 I2 rx ry q=>hr a b Z s2 U H2 x y v u Q I2 rx ry q (hs _ _))
def bf3(K:Fg):R2:=λx y H Q=>∃p Z i v,x=.ref p/\y=.int i/\Hq K H p Z/\atI Z i=some v/\Q v H
def bf4(K:Fg):R2:=λx y H Q=>∃p Z i v,x=.ref p/\y=.int i/\Hl K H p Z/\atI Z i=some v/\Q v H
def bf5:R2:=λx y H Q=>∃z i c,x=.str z/\y=.int i/\z.length<=sizeLine/\atI z.cps.toList i=some c/\Q (.str ⟨#[c]⟩) H
def Dg:IxR X (bf3 X.K):=by
 intro qq qj Z s σ H x y v u Q I rx ry h hs;obtain⟨p,xs,i,z,rfl,rfl,hq,he,q⟩:=h;cases rx;obtain⟨t,rfl⟩:=ry;obtain⟨ye,r,U,hz⟩:=I.list hq;obtain⟨j,G,h2,h3,h4,h5⟩:=ab4 he;obtain⟨w,ew,R⟩:=r.get h2;have hl:=r.length;have hn:=Uj;have fin:EP X Z σ Q w s:=⟨z,H,I,R,q⟩
 by_cases h0:0<=i
 .have hj:i.toNat=j:=by
   rw[seqIndex_of h0 h5]at G;exact jk G
  exact item_listR U.isList h0 (by lia) (by rw[hj];simpa using ew) fin hs
 .have hj:(i+(ye.toArray.size:Int)).toNat=j:=by
   rw[seqIndex_neg (by lia) h4]at G;rw[gq,<-hl];exact jk G
  exact subscriptTail_builtinR (x:=w) U.isList.typeIs slot_list_getitem.lookup
   (wpAny_getItem_list_neg (Q:=λr s'=>r=w/\EP X Z σ Q r s') U.isList (by lia) (by rw[gq]<;>lia) (by lia) (by rw[hj];simpa using ew) ⟨rfl,fin⟩) hs
def J2:IxR X (bf4 X.K):=by
 intro U R Z s σ H x y v u Q I rx ry h hs;obtain⟨p,xs,i,z,rfl,rfl,hq,he,q⟩:=h;cases rx;obtain⟨t,rfl⟩:=ry;obtain⟨ye,r,pl,hz⟩:=I.tuple hq;obtain⟨j,h1,h2,h3,h4,h5⟩:=ab4 he;obtain⟨w,ew,G⟩:=r.get h2;have hl:=r.length;have hn:=Uj;have fin:EP X Z σ Q w s:=⟨z,H,I,G,q⟩;exact subscriptTail_builtinR (x:=w) pl.typeIs slot_tuple_getitem.lookup
  (getItem_tuple (j:=j) (Q:=λr s'=>r=w/\EP X Z σ Q r s') pl (by lia) (by lia) (by rw[gq,<-hl];exact h1) (by simpa using ew) ⟨rfl,fin⟩) hs
def a3j:IxR X bf5:=by
 intro Z G U s σ H x y v u Q I rx ry h hs;obtain⟨z,i,c,rfl,rfl,hz,he,q⟩:=h;obtain⟨t,rfl⟩:=rx;obtain⟨t',rfl⟩:=ry;obtain⟨j,R,h2,h3,h4,h5⟩:=ab4 he;have hl:z.cps.toList.length=z.length:=by simp[Str.length]
 rw[hl]at R h4 h5;have hn:=Uj;exact tail_any (typeIs_str s z t) slot_str_getitem.lookup (getItem_str (c:=c) (by
  have e1:decide (i < -(2^63:Int))=false:=uh (by lia);have e2:decide (i >= 2^63)=false:=uh (by lia);rw[e1,e2,Bool.or_false]) (by rw[R];simpa using h2) ⟨.str ⟨#[c]⟩,H,I.tok _,⟨_,rfl⟩,q⟩) hs
def ahf(Z:Zl)(n j:Nat)(u:Value):Obj.mapSeq (·.setIfInBounds j u) { cls:=.type "list",data:=.seq Z.toArray n }={ cls:=.type "list",data:=.seq (Z.set j u).toArray n }:=by simp[Obj.mapSeq]
theorem Inv.lst{X:Cx}{Z:Zp}{R:St}{H:Hp}{s:Shared}{p:Addr}{U:List V}(I:Inv X Z R H s)(h:H p=some (.lst U)) :
 ∃(G:Zl)(n:Nat),Vals U G/\s.heap.get? p=some { cls:=.type "list",data:=.seq G.toArray n }/\U.length<=sizeLine:=by
 obtain⟨z,G,n,r,e⟩:=I.Al p _ h;exact⟨G,n,r,e,z⟩
def Inv.a3k{G:Zl}(I:Inv X pins σ H s)(h:H p=some (.lst xs))(ho:s.heap.get? p=some { cls:=.type "list",data:=.seq G.toArray n })(U:f { cls:=.type "list",data:=.seq G.toArray n }={ cls:=.type "list",data:=.seq its'.toArray R })(r:Vals Z its')(hz:Z.length<=sizeLine)(t:Nat) :
 Inv X pins σ (upd H p (.lst Z)) { s with heap:=s.heap.update p f,toks:=t }:=by
 have e:(s.heap.update p f).get? p=some { cls:=.type "list",data:=.seq its'.toArray R }:=by rw[mj f ho (by rw[U]<;>rfl),U]
 refine I.write (x:=p) (e:=p) (by rw[h];trivial) (.inl rfl) (λb u hb q=>(ur _ _ (j0 hb)).trans q) ⟨_,e⟩ ?_;exact⟨hz,its',R,r,e⟩
def a9t:V->V->V->Hp->(Hp->Prop)->Prop:=λo i v H Q=>∃p Z k j,o=.ref p/\i=.int k/\H p=some (.lst Z)/\ixN Z.length k=some j/\Q (upd H p (.lst (Z.set j v)))
def set_list:a2g X a9t:=by
 intro Z s σ H o i v ov iv u Q I ro ri rv h;obtain⟨p,xs,k,j,rfl,rfl,hp,hj,q⟩:=h;cases ro;obtain⟨t,rfl⟩:=ri;obtain⟨ye,n,r,ho,hz⟩:=I.lst hp;obtain⟨G,h2,h3,h4⟩:=ajj hj;have U:=r.length;have hn:=Uj;have I':Inv X Z σ (upd H p (.lst (xs.set j v))) { s with heap:=s.heap.update p (Obj.mapSeq (·.setIfInBounds j u)) }:=
  I.a3k hp ho (ahf ye n j u) (r.set rv j) (by rw[List.length_set];exact hz) s.toks
 by_cases h0:0<=k
 .have R:k.toNat=j:=by
   rw[seqIndex_of h0 h4]at G;exact jk G
  exact PySem.W.ki_setAt ho h0 (by lia) (by rw[gq,<-U];exact h4) (by rw[R];exact⟨_,I',q⟩)
 .have R:(k+(ye.toArray.size:Int)).toNat=j:=by
   rw[seqIndex_neg (by lia) h3]at G;rw[gq,<-U];exact jk G
  exact PySem.W.ki_setBack ho (by lia) (by rw[gq,<-U];exact h3) (by lia) (by rw[R];exact⟨_,I',q⟩)
def ab5(Z G:Option Int)(n:Nat):(sliceBounds Z G none n).1=((HT.Gy n 0 Z:Nat):Int)/\(sliceBounds Z G none n).2.1=((HT.Gy n n G:Nat):Int)/\(sliceBounds Z G none n).2.2=1:=by
 refine⟨?_,?_,rfl⟩
 .cases Z with
  |none=>simp[sliceBounds,HT.Gy]
  |some i =>
   simp only[sliceBounds,HT.Gy,Option.getD_none,show(1:Int) > 0 by decide,jw]
   by_cases h:i<0
   .simp only[h,jw]<;>lia
   .simp only[h,jg]<;>lia
 .cases G with
  |none=>simp[sliceBounds,HT.Gy]
  |some i =>
   simp only[sliceBounds,HT.Gy,Option.getD_none,show(1:Int) > 0 by decide,jw]
   by_cases h:i<0
   .simp only[h,jw]<;>lia
   .simp only[h,jg]<;>lia
def Zn(Z:Zl)(G U:Option Int):slicePick Z.toArray G U none=((Z.drop (HT.Gy Z.length 0 G)).take (HT.Gy Z.length Z.length U-HT.Gy Z.length 0 G)).toArray:=by obtain⟨R,h2,h3⟩:=ab5 G U Z.toArray.size;unfold slicePick;rw[R,h2,h3];simp only[sliceRange_one,pick_run,gq]<;>rfl
def a9u(K:Fg):V->Option Int->Option Int->Hp->VK->Prop:=λx G U H Q=>∃a Z,x=.ref a/\Hq K H a Z/\∀p,H p=none->Q (.ref p) (upd H p (.lst (V7 Z G U)))
def awg:SlR X (a9u X.K):=by intro qq s σ H x v vl vu U R sl Q I rx hs pl pu h;obtain⟨a,G,rfl,hx,q⟩:=h;cases rx;obtain⟨ye,r,ht,hz⟩:=I.list hx;have Z:=r.length;refine⟨"list",_,slot_list_getitem.lookup,ht.isList.typeIs,?_⟩;refine wpAny_getItem_list_slice ht.isList hs pl pu .none (by simp) ?_ (by rw[gq]<;>exact a_ (g_ Z) hz);rw[Zn,<-Z];refine⟨.ref s.heap.objs.size,_,I.laid (t':=s.toks) (o:=.lst (V7 G U R)) (λb ob q=>au _ q) (bh _) ?_,rfl,q _ (I.Al.fresh (bh _))⟩;exact⟨dz (Vm G U R) hz,_,0,(r.drop (HT.Gy G.length 0 U)).take (HT.Gy G.length G.length R-HT.Gy G.length 0 U),bu _ rfl⟩
def ab6:Bx X (.builtin "len") (λxs H Q=>∃p G,xs=[.ref p]/\(Hq X.K H p G\/Hl X.K H p G)/\Q (.int G.length) H):=by
 intro qq s σ H xs us Q I r h;obtain⟨p,G,rfl,U,q⟩:=h;obtain⟨u,rfl,rx⟩:=vals1 r;cases rx;have hn:=Uj;rcases U with U|U
 .obtain⟨ye,r',R,hz⟩:=I.list U
  have Z:=r'.length;exact Calls.call_len_list R.isList (by simp only[gq]<;>lia) ⟨.int G.length,H,I.tok _,⟨s.toks+1,by rw[gq,Z]⟩,q⟩
 .obtain⟨ye,r',R,hz⟩:=I.tuple U
  have Z:=r'.length;exact len_tuple R (by simp only[gq]<;>lia) ⟨.int G.length,H,I.tok _,⟨s.toks+1,by rw[gq,Z]⟩,q⟩
def Zo:Bx X (.type "tuple") (λxs H Q=>∃p G,xs=[.ref p]/\((Hq X.K H p G/\∀l,H l=none->Q (.ref l) (upd H l (.tup G)))\/(Hl X.K H p G/\Q (.ref p) H))):=by
 intro Z s σ H xs us Q I r h;obtain⟨p,G,rfl,h⟩:=h;obtain⟨u,rfl,rx⟩:=vals1 r;cases rx;rcases h with⟨hq,q⟩|⟨hq,q⟩
 .obtain⟨ye,r',pl,hz⟩:=I.list hq
  have U:=r'.length;refine call_tuple_list pl.isList (λR kp=>?_) (by simp only[gq]<;>exact a_ (g_ U) hz);have I1:Inv X Z σ H { s with heap:=R }:=I.kept (t':=s.toks) kp;have I2:Inv X Z σ (upd H R.objs.size (.tup G)) { s with heap:=R.push { cls:=.type "tuple",data:=.seq ye.toArray } }:=
   I1.laid (t':=s.toks) (λb o e=>au _ e) (bh _) (show Be X.prog X.w _ _ _ (.tup G)from⟨hz,ye,r',Xr.new _ _⟩)
  exact⟨.ref R.objs.size,_,I2,rfl,q _ (I1.Al.fresh (bh _))⟩
 .obtain⟨ye,r',pl,hz⟩:=I.tuple hq
  exact call_tuple_same pl ⟨.ref p,H,I,rfl,q⟩
def tyV(K:Fg)(T:String)(x:V)(H:Hp):Prop:=match x with
 |.str _=>T ="str"|.int _=>T ="int"
 |.ref p=>(T ="list"/\∃G,Hq K H p G)\/(T ="tuple"/\∃o,K.lookup p=some o/\o.cls=.type "tuple"/\o.dict=none) \/
  (T ="dict"/\((∃Z,H p=some (.dK Z))\/∃Z,H p=some (.dT Z)))\/(T ="set"/\∃S n,H p=some (.set S n))
 |_=>False
def a3l(I:Inv X pins σ H s)(r:RelV x v)(U:tyV X.K T x H) :
 s.TypeIs v T/\∀a,v=.ref a->∃ob,s.heap.get? a=some ob/\ob.dict=none:=by
 cases x with
 |str z =>
  obtain⟨t,rfl⟩:=r;cases(show T ="str" from U);exact⟨typeIs_str s z t,λ_ e=>nomatch e⟩
 |int i =>
  obtain⟨t,rfl⟩:=r;cases(show T ="int" from U);exact⟨typeIs_int s i t,λ_ e=>nomatch e⟩
 |ref p =>
  cases r;rcases U with⟨rfl,xs,hq⟩|⟨rfl,o,Z,hc,R⟩|⟨rfl,Z⟩|⟨rfl,S,n,Z⟩
  .obtain⟨ye,_,pl,_⟩:=I.list hq
   refine⟨pl.isList.typeIs,λa e=>?_⟩;cases e;obtain⟨o,n,e,c,R,_⟩:=pl;exact⟨o,e,R⟩
  .refine⟨⟨o,I.V5 p o Z,hc⟩,λa e=>?_⟩
   cases e;exact⟨o,I.V5 _ o Z,R⟩
  .have z:∃o,s.heap.get? p=some o/\o.ExactDict:=by
    rcases Z with⟨ie,Z⟩|⟨ie,Z⟩
    .obtain⟨_,_,_,_,o,_,_,e,G,_⟩:=I.Al p _ Z
     exact⟨o,e,G⟩
    .obtain⟨_,_,_,_,o,_,_,e,G,_⟩:=I.Al p _ Z
     exact⟨o,e,G⟩
   obtain⟨o,e,G⟩:=z;refine⟨⟨o,e,G.1⟩,λa e2=>?_⟩;cases e2;exact⟨o,e,G.2.1⟩
  .obtain⟨o,_,_,_,e,G,_⟩:=I.Al p _ Z
   refine⟨⟨o,e,G.1⟩,λa e2=>?_⟩;cases e2;exact⟨o,e,G.2.1⟩
 |_=>exact False.elim U
def tBM(K:Fg)(T:String)(r:V->List V->Hp->VK->Prop)(R:TE)(t:TA):TE:=λZ H Q=>R Z H λx G=>tyV K T x G/\t Z G λU H2=>r x U H2 Q
theorem a9v{id:String}(pa:PlainAttrs T)(R:Slot T name id)(qk:typeOf (.builtin id)=pure (.type "method_descriptor"))(hm:MtR X id r)(ho:PE X o to)(ha:PA X (e::G) t)(qq:attributeBase o name X.env (eval o X.env)=eval o X.env:=by rfl)(q0:((backTo U (starEach (e::G) X.env)).all (λx=>!x.1)&&(backToKw U (keywordEach [] X.env)).all (λx=>x.1.isSome)
&&decide ((e::G).length+([]:List Keyword).length+(if([]:List Keyword).isEmpty then 0 else 1)<30))=true:=by rfl)(qj:(apos.endLine==U.line)=true:=by rfl)(hs:starEach (e::G) X.env=(false,eval e X.env)::starEach G X.env:=by rfl)(qv:(backTo U (starEach G X.env)).any (·.1)=false:=by rfl) :
 PE X (.Call (.Attribute o name apos) (e::G) [] U) (tBM X.K T r to t):=by
 intro Z s σ H Q I h;refine wpAny_Call_method_late qq q0 qj rfl (Bp (ho Z s σ H _ I h) λv s1 z_=>?_);obtain⟨x,H1,I1,r1,ty,q1⟩:=z_;obtain⟨h1,h2⟩:=a3l I1 r1 ty;refine⟨T,id,pa,R,qk,h1,h2,?_⟩;have hA:=ha U Z s1 σ H1 _ I1 q1;rw[hs]at hA⊢;refine Calls.callWith_builtin (by show(false||(backTo U (starEach G X.env)).any (·.1))=false;rw[qv]<;>rfl) (Calls.evalArgs_plain ?_);exact Bp hA λus s2 ⟨vs,H2,I2,r2,q2⟩=>hm Z s2 σ H2 x vs v us Q I2 r1 r2 q2
end L2
namespace L2
open PySem PySem.Spec PyProof.Rows
def MtM(X:Cx)(id:String)(r:V->List V->Hp->VK->Prop):Prop:=
 ∀(Z:Zp)(s:Shared)(U:St)(H:Hp)(x:V)(R:List V)(v:Value)(G:Zl)(Q:VK),Inv X Z U H s->RelV x v->Vals R G->r x R H Q ->
  wpAny (model X.prog X.w) X.A (call (.builtin id) (v::G)) (EP X Z U Q) X.xe s
theorem Vals.one:∀{x:V}{Z:Zl},Vals [x] Z->∃u,Z=[u]/\RelV x u
 |_,_,.cons r .nil=>⟨_,rfl,r⟩
def Inv.bf6{G:Zl}(I:Inv X pins σ H s)(hH:H l=some (.lst xs))(e:s.heap.get? l=some { cls:=.type "list",data:=.seq G.toArray n })(hf:f G.toArray=its'.toArray)(hv:Vals Z its')(R:Z.length<=sizeLine) :
 Inv X pins σ (upd H l (.lst Z)) { s with heap:=s.heap.update l (Obj.mapSeq f),toks:=t' }:=by
 have q:=PySem.IsL.update e f;rw[hf]at q;refine I.write (x:=l) (e:=l) (by rw[hH];exact trivial) (.inl rfl) (λb' u U hu=>(ur s.heap (Obj.mapSeq f) (j0 U)).trans hu) ⟨_,q⟩ ?_;exact⟨R,its',_,hv,q⟩
def Inv.bf7(I:Inv X pins σ H s)(R:Vals G Z)(U:G.length<=sizeLine) :
 Inv X pins σ (upd H s.heap.objs.size (.lst G)) { s with heap:=s.heap.push { cls:=.type "list",data:=.seq Z.toArray },toks:=t' }:=
 I.laid (λ_ _ q=>au _ q) (bh _) ⟨U,Z,0,R,bu _ rfl⟩
theorem Inv.fresh(I:Inv X pins σ H s):H s.heap.objs.size=none:=I.Al.fresh (bh _)
def Inv.awh(I:Inv X pins σ H s)(U:H l=some (.lst G)):G.length<=sizeLine/\∃(Z:Zl)(n:Nat),Vals G Z/\G.length=Z.length/\s.heap.get? l=some { cls:=.type "list",data:=.seq Z.toArray n }:=by obtain⟨z,Z,n,r,e⟩:=I.Al l _ U;exact⟨z,Z,n,r,r.length,e⟩
def awi:V->List V->Hp->VK->Prop:=λx G H Q=>∃l Z y,x=.ref l/\G=[y]/\H l=some (.lst Z)/\Z.length<sizeLine/\Q .non (upd H l (.lst (Z++[y])))
def aan:MtM X "list.append" awi:=by intro Z s σ H x vs v us Q I rx rv h;obtain⟨l,xs,y,rfl,rfl,R,G,q⟩:=h;cases rx;obtain⟨u,rfl,ru⟩:=rv.one;obtain⟨z,U,n,r,hl,e⟩:=I.awh R;refine call_meets F.slot_list_append ⟨_,e,rfl⟩ F.entry_list_append (F.args_list_append_2 _ _) (PySem.list_append l U.toArray n u (by rw[gq];exact e_ (c_ (g_ hl) G))) ⟨e,?_⟩;refine⟨.non,_,I.bf6 (its':=U++[u]) R e (by simp) (r.append (.cons ru .nil)) ?_,rfl,q⟩;rw[o6,List.length_singleton];exact G
def a9w:R2:=λx y H Q=>∃l b G Z,x=.ref l/\y=.ref b/\H l=some (.lst G)/\H b=some (.lst Z)/\G.length+Z.length<=sizeLine/\∀p,H p=none->Q (.ref p) (upd H p (.lst (G++Z)))
def a3n:Dk X (binaryOp .Add) a9w:=by
 intro G s σ H x y v u Q I R ry h;obtain⟨l,b,xs,zs,rfl,rfl,hH,hB,hz,q⟩:=h;cases R;cases ry;obtain⟨z,U,n,r,hl,e⟩:=I.awh hH;obtain⟨z2,Z,n2,r2,qq,e2⟩:=I.awh hB;refine PySem.P.add_list e e2 ?_ (by rw[gq,gq];lia);have ea:U.toArray++Z.toArray=(U++Z).toArray:=by simp
 rw[ea];exact⟨.ref _,_,I.bf7 (t':=s.toks) (r.append r2) (by rw[o6];exact hz),rfl,q _ I.fresh⟩
end L2
namespace Att
open PySem PySem.W PySem.Calls PyProof.Rows
def V8:∀(ns:Xs)(Z:Zl),WellAll P h Z (ns.map WData.int)->IntsAre Z ns:=by
 intro ns
 induction ns with
 |nil =>
  intro Z w;rw[List.map_nil]at w;cases w;exact .nil
 |cons n ns G =>
  intro Z w;rw[gr]at w;cases w with
  |cons a b =>
   cases a;exact .cons _ _ (G _ b)
def al5{l:OpenLaw}(hn:l.most=some n)(U:l.row.toRowW.claim.pre args=true)(qq:WellAll P h vals args) :
 ∃a vs Z,vals=[Value.ref a]/\args=[WData.list (Z.map WData.int)]/\h.get? a=some { cls:=.type "list",data:=.seq vs.toArray }/\IntsAre vs Z/\Z.length<=n:=by
 have qj:WShape.hasAll [] args [.list .int]=true:=(pre_splitW U).1;have hc:l.pre.holds [] { args:=args }=true:=(pre_splitW U).2;obtain⟨d,r,rfl,h1,h2⟩:=hasAllW_cons qj;obtain rfl:=hasAllW_nil h2;obtain⟨xs,rfl,h3⟩:=hasW_list h1;obtain⟨Z,rfl⟩:=items_int h3;have G:Z.length<=n:=by
  unfold OpenLaw.pre at hc;have R:(WTm.not (.lt (.lit (.int (n:Int))) (.len (.arg 0)))).holds [] { args:=[.list (Z.map .int)] }=true:=by have R:=(holds_andW hc).1;rw[hn]at R;exact R
  have h5:=condW_of R (w_not (w_lt w_lit (w_len_list (w_arg rfl))));rw[du]at h5;refine Nat.le_of_not_lt λq=>?_
  have q':(n:Int)<((Z.length:Nat):Int):=m_ q
  first
   |(rw[xx q']at h5;exact absurd h5 (by decide))
   |(simp at h5;omega)
 cases qq with
 |cons w1 w2 =>
  cases w2;cases w1 with
  |list ho Eb=>exact⟨_,_,Z,rfl,rfl,ho,V8 Z _ Eb,G⟩
def al6(l:OpenLaw)(Z:List WData):l.row.toRowW.claim.post Z (.bool true) Z=true:=
 postW_of (r:=l.row.toRowW) (X:=(true==true))
  (show WShape.has [] (.bool true) .bool=true by first|rfl|decide|simp[WShape.has,WShape.arms,WShape.armsAll])
  (show(WTm.eq .res (.lit (.bool true))).value [] { args:=Z,res:=some (.bool true),after:=Z }=some (.bool (true==true))from w_eq_bool (w_res rfl) w_lit) rfl
def ael{l:OpenLaw}(hn:l.most=some n)(q3:d.params.defaults=[])(call:∀(w:World) (U Z:Shared) (mg mb:Zs) (fa:Addr) (o:Obj) (pm cd qq:Value) (a:Addr) (vs:Zl) (ns:Xs),
 Ground q loose [] XP w U mg mb Z.heap->YP w Z.heap ->
 Z.heap.get? fa=some o->o.data=.func (docDef d.name d.params d.body d.scope pm cd qq)->Z.heap.CodeRec cd d.name->mg d.name=some (.ref fa) ->
 Z.heap.get? a=some { cls:=.type "list",data:=.seq vs.toArray }->IntsAre vs ns->ns.length<=n->Z.gens=#[] ->
 codeAny (model l.prog w) callerA (.call (.ref fa) ⟨[.ref a],[]⟩) (λr s'=>r=.ok (.ret (.bool true))/\OldK Z.heap s'.heap/\s'.os=Z.os/\AllBare s'.gens) Z) :
 WalkO q loose XP YP l.row.toRowW d [] (λf vs=>PySem.call f vs):=by
 intro w U Z mg mb G Y fa o pm cd qq dV kV ho hd q0 hD q1 hg q5 q4 as qv q8 q7 qk q6;obtain rfl:dV=.none:=Dflts.none hD q3;obtain rfl:kV=.none:=Dflts.noKw hD;obtain⟨a,vs,ns,rfl,rfl,q2,R,qj⟩:=al5 hn qv qk;refine enter_call (v5 (call w U Z mg mb fa o pm cd qq a vs ns G Y ho (fd_plain hd) q0 q1 q2 R qj hg) λr s' hq=>?_);obtain⟨rfl,h2,h3,h4⟩:=hq;exact⟨.inl ⟨.bool true,.bool true,[],rfl,λ_=>rfl,.bool true,al6 l _,λ_=>⟨List.Pairwise.nil,λ_ hm=>(nomatch hm)⟩⟩,h2,h3,h4⟩
end Att
namespace L2
open PySem PySem.Spec PyProof.Rows
theorem aao:∀{G:Zl}{Z:Xs},IntsAre G Z->Vals (Z.map V.int) G
 |_,_,.nil=>.nil|_,_,.cons n t h=>.cons ⟨t,rfl⟩ (aao h)
def Only(H:Hp):Prop:=∀b,H b=none\/∃o Z,H b=some (.Ow o (.lst Z))
def aqe{K:Fg}(KX:K.In s₁.heap)(qk:s₁.heap.Ns mainGlobals mg)(Z:s₁.heap.Ns builtinsNs mb)(q1:∀x:Str,x≠"__name__"-> mb x=bootBuiltins x)(q2:s₁.heap.NoLimit)(hg:s₁.gens=#[])(ha:s₁.heap.get? a=some { cls:=.type "list",data:=.seq vs.toArray })(hi:IntsAre vs ns)(hl:ns.length<=sizeLine)(hr:Af k callerA)(F:∀U:Heap,K.In U->U.Ns mainGlobals mg->Gf P w K mg U CX k fa fd [x] sp)(q4:∀(s:Shared) (u:Value),BindsTo s fd ⟨[u],[]⟩ [(x,u)])(q5:∀H:Hp,Only H->Hq K H a (ns.map V.int)->sp [.ref a] H (λv _=>v=.bl true) λ_ _ _=>False)(q7:∀H e G,CX [] H s₁ (λ_ _ _=>False) e G->False) :
 codeAny (model P w) callerA (.call (.ref fa) ⟨[.ref a],[]⟩) (λr G=>r=.ok (.ret (.bool true))/\OldK s₁.heap G.heap/\G.os=s₁.os/\AllBare G.gens) s₁:=by
 have rv:=aao hi;have q0:=hi.length;have qq:∀H:Hp,Only H->Hq K H a (ns.map V.int)->Qv P w H s₁.heap->(∀b,H b≠none->b=a)->(H a≠none->K.lookup a=none) ->
  codeAny (model P w) callerA (.call (.ref fa) ⟨[.ref a],[]⟩) (λr G=>r=.ok (.ret (.bool true))/\OldK s₁.heap G.heap/\G.os=s₁.os/\AllBare G.gens) s₁:=by
  intro H hO hS Al hA hK;have Gn:∀{b:Addr}{o:Obj},s₁.heap.get? b=some o->H b=none->(aby s₁.heap H).get? b=some o:=λe n=>apd e n
  have q6:∀{b:Addr}{o:Obj}{es:Array DictEntry}{ep:Nat},s₁.heap.get? b=some o->o.data=.dict es ep->H b=none:=fun{b o es ep} e d=>by
   cases q:H b with
   |none=>rfl
   |some u =>
    have e':b=a:=hA b (by rw[q];simp);subst e';rw[ha]at e;cases e;have d':Data.seq vs.toArray _=Data.dict es ep:=d;cases d'
  have R:∀{b:Addr}{m:Zs},s₁.heap.Ns b m->(aby s₁.heap H).Ns b m:=fun{b m} ⟨o,es,ep,e,d,r⟩=>⟨o,es,ep,Gn e (q6 e d),d,r⟩
  have qv:K.In (aby s₁.heap H):=λb o e=>Gn (KX b o e) (by
   cases q:H b with
   |none=>rfl
   |some u =>
    have e':b=a:=hA b (by rw[q];simp);subst e';rw[hK (by rw[q];simp)]at e;cases e)
  have hM:Mod K mg (aby s₁.heap H):=⟨qv,R qk,⟨mb,R Z,q1⟩,let ⟨mc,h1,h2⟩:=q2;⟨mc,R h1,h2⟩⟩;have e0:ag9 P w K mg (aby s₁.heap H) callerA [] s₁ H:=⟨rfl,hM,λb o e=>avr e,Nat.le_of_eq (alq _ _),trivial,λb Z=>absurd (show b∈([]:X9)from Z) (by simp),Al,.of_eq hg⟩;refine v5 ((F _ qv (R qk)).run callerA [] s₁ H ⟨[.ref a],[]⟩ [.ref a] [.ref a] _ _ hr e0 (q4 s₁ (.ref a)) (.cons rfl .nil) (q5 H hO hS)) λr G h=>?_
  cases r with
  |error e=>exact(q7 H e G h).elim
  |ok fl =>
   cases fl with
   |next=>exact False.elim h|brk=>exact False.elim h|cont=>exact False.elim h
   |ret u =>
    obtain⟨v,H',os,qj,un,q3,r',q⟩:=h;have q':v=.bl true:=q;subst q';obtain rfl:u=Value.bool true:=r';refine⟨rfl,OldK.of_keep λb o e=>?_,os,qj⟩;cases q:H b with
    |none=>exact un.keep b o e q (by intro z;exact absurd (show b∈([]:X9)from z) (by simp)) (by simp)
    |some u =>
     rcases hO b with z|⟨ob,xs,z⟩
     .rw[q]at z;cases z
     .have z2:=un.abx b ob _ z
      obtain⟨e1,_⟩:=Al b _ z;obtain⟨e2,_⟩:=q3 b _ z2;rw[e]at e1;cases e1;exact e2
 cases hk:K.lookup a with
 |some o =>
  have e:=KX a o hk;rw[ha]at e;cases e;refine qq (λ_=>none) (λ_=>.inl rfl) (.inr ⟨_,vs.toArray,_,hk,rfl,rfl,rfl,by rw[gq,q0];exact hl,by simpa using rv⟩) (λb u z=>by have z':(none:Option HO)=some u:=z;cases z') (λb z=>absurd rfl z) λz=>absurd rfl z
 |none =>
  refine qq (λb=>if b=a then some (.Ow { cls:=.type "list",data:=.seq vs.toArray } (.lst (ns.map V.int)))else none) (λb=>?_) (.inl (.inr ⟨{ cls:=.type "list",data:=.seq vs.toArray },bx rfl⟩)) (λb u z=>?_) (λb z=>?_) λ_=>hk
  .by_cases Z:b=a
   .exact .inr ⟨_,_,bx Z⟩
   .exact .inl (bw Z)
  .by_cases Z:b=a
   .have z':=(bx Z).symm.trans z
    cases z';subst Z;exact⟨ha,by rw[du];exact hl,vs,_,rv,ha⟩
   .have z':=(bw Z).symm.trans z
    cases z'
  .by_cases Z:b=a
   .exact Z
   .exact absurd (bw Z) z
end L2
namespace L2
open PySem PySem.Spec PyProof.Rows
def awk{l:PySem.W.OpenLaw}{K:Params->Fg}{CX:World->CXT}{sp:World->Sp}(hn:l.most=some n)(Z5:n<=sizeLine)(q1:d.params.defaults=[])(hr:Af k callerA)(hY:∀(w:World) (h:Heap),YP w h->(K w.params).In h)(F:∀(w:World) (mg:Zs) (fa:Addr) (h:Heap),(K w.params).In h->h.Ns mainGlobals mg->mg d.name=some (.ref fa) ->
 ∃fd:FuncData,(∀(s:Shared) (u:Value),BindsTo s fd ⟨[u],[]⟩ [(x,u)]) /\
  ∀Z:Heap,(K w.params).In Z->Z.Ns mainGlobals mg->Gf l.prog w (K w.params) mg Z (CX w) k fa fd [x] (sp w))(qj:∀(w:World) (H:Hp) (a:Addr) (ns:Xs),ns.length<=n->Only H->Hq (K w.params) H a (ns.map V.int)->sp w [.ref a] H (λv _=>v=.bl true) λ_ _ _=>False)(qk:∀(w:World) (H:Hp) (s:Shared) (e:Value) (s':Shared),CX w [] H s (λ_ _ _=>False) e s'->False) :
 PySem.W.WalkO q loose XP YP l.row.toRowW d [] (λf vs=>PySem.call f vs):=by
 refine Att.ael hn q1 λw q2 qq mg mb fa o pm cd q3 a vs ns G Y ho hd q4 qv q0 R U hg=>?_
 have KX:=hY w _ Y;obtain⟨fd,hb,hF⟩:=F w mg fa _ KX G.T.g qv;exact aqe KX G.T.g G.T.b G.T.builtins G.T.nolimit hg q0 R (dz U Z5) hr hF hb (λH hO hS=>qj w H a ns U hO hS) λH e s'=>qk w H qq e s'
end L2
namespace L2
open PySem PySem.Spec PyProof.Rows
noncomputable def inClass(s:Stmt)(j:Nat):Stmt:=match s with
 |.ClassDef _ _ _ body _ _ _ _ _ _ _=>body.getD j (.Pass ⟨0,0,0,0⟩)|_=>.Pass ⟨0,0,0,0⟩
noncomputable def Hr(s:Stmt):Arguments:=match s with
 |.FunctionDef _ a _ _ _ _ _ _ _ _=>a|_=>{ posonlyargs:=[],args:=[],vararg:=none,kwonlyargs:=[],kw_defaults:=[],kwarg:=none,defaults:=[] }
noncomputable def Ew(s:Stmt):List Stmt:=match s with
 |.FunctionDef _ _ b _ _ _ _ _ _ _=>b|_=>[]
noncomputable def Bb(s:Stmt):Scope:=match s with
 |.FunctionDef _ _ _ _ _ _ sc _ _ _=>sc|_=>{ kind:=.function,names:=[],isGenerator:=false,isCoroutine:=false }
abbrev CX0:CXT:=λ_ _ _ _ _ _=>False
abbrev E0:XK:=λ_ _ _=>False
def ajk:Passes CX0 X E0:=λ_ _ _ _ _ _ _ h=>h.elim
structure Fun(K:Fg)(x qual:Str)(st:Stmt)(f:Addr)(fd:FuncData):Prop where
 ex:∃(oc:Value)(od:Option Addr)(kV doc pm:Value)(an:Option Addr)(cdv ct:Value)(osl:Array (Option Value)),
  fd=PySem.W.fnOf x qual (Hr st) (Ew st) (Bb st) .none kV doc pm an cdv ct/\K.lookup f=some ⟨oc,od,.func fd,osl⟩/\PySem.W.codeIn K cdv qual=true
 kp:PySem.W.keepIn K (.ref f)=true
def Fun.ok{K:Fg}{st:Stmt}(F:Fun K x qual st f fd)(S:Wf N ps (Bb st))(len:∀U H Q E,sp U H Q E->U.length=ps.length)(qj:∀(G:Value) (A:Around) (Z:List Env) (s:Shared) (H:Hp) (U:List V) (Q:VK) (E:XK),Af k (A.deeper (envOfC qual (Bb st) s.heap.objs.size f G))->sp U H Q E ->
 ∃t,Sy (ahb CX0 P w K mg base N qual (Bb st) f G A Z s H E).nox (Ew st) t/\t { nx:=λ_ H'=>Q .non H',rt:=Q } (start N U) H):Gf P w K mg base CX0 (k+1) f fd ps sp:=by
 obtain⟨oc,od,kV,qk,pm,an,G,ct,qv,rfl,lk,R⟩:=F.ex;refine a9m lk R S len λA Z s H U Q E hr qq=>?_
 obtain⟨t,h,q⟩:=qj G A Z s H U Q E hr qq;exact⟨t,h.nox,q⟩
def Fun.binds{K:Fg}{st:Stmt}(F:Fun K x qual st f fd)(h:∀(kV Z pm:Value) (R:Option Addr) (G U:Value) (us:Zl),us.length=ps.length->bindArgs (PySem.W.fnOf x qual (Hr st) (Ew st) (Bb st) .none kV Z pm R G U) ⟨us,[]⟩=pure (ps.zip us)):Binds K fd ps []:=by obtain⟨oc,od,kV,Z,pm,R,G,U,qj,rfl,lk,qq⟩:=F.ex;exact .all (h kV Z pm R G U)
def aqf{K:Fg}{st:Stmt}{f:Addr}{oc:Value}{od an:Option Addr}{U:Array (Option Value)}{kV G pm Z R:Value}(l:K.lookup f=some ⟨oc,od,.func (PySem.W.fnOf x qual (Hr st) (Ew st) (Bb st) .none kV G pm an Z R),U⟩)(c:PySem.W.codeIn K Z qual=true)(k:PySem.W.keepIn K (.ref f)=true):Fun K x qual st f (PySem.W.fnOf x qual (Hr st) (Ew st) (Bb st) .none kV G pm an Z R):=⟨⟨oc,od,kV,G,pm,an,Z,R,U,rfl,l,c⟩,k⟩
def X4{A:Around}{k:Nat}(Z:Af k A):A.units+1<cLine:=Ad (Nat.add_le_add_left (by decide:1<=64) _) Z.units
end L2
namespace L2
open PySem PySem.Spec PyProof.Rows
noncomputable def Dy(cells:Xt):List (Str×NameKind)->List (Str×Addr)->List (Str×Addr)
 |[],cs=>cs|(n,k)::r,cs=>Dy cells r (if k==.free then(n,(cells.lookup n).getD 0)::cs else cs)
theorem Vn{G Z:Type}{f:G->Z->Sem (ForInStep Z)}{g:G->Z->Z}:∀{l:List G}(c:Z),(∀x∈l,∀c,f x c=pure (.yield (g x c)))->forIn l c f=pure (l.foldl (λc x=>g x c) c)
 |[],c,_=>rfl
 |x::l,c,h=>by
  rw[List.forIn_cons,h x dh,pure_bind];exact Vn (g x c) λy U=>h y (bc _ U)
theorem Vo(cells:Xt):∀(l:X0)(Z:Xt),Dy cells l Z=l.foldl (λc x=>if x.2==.free then(x.1,(cells.lookup x.1).getD 0)::c else c) Z
 |[],_=>rfl|(n,k)::r,Z=>Vo cells r _
def X5(h:∀y∈scope.names,y.2=.free->∃c,env.cells.lookup y.1=some c):closureFor scope env=pure (Dy env.cells scope.names []):=by
 simp only[closureFor];rw[Vn (g:=λx c=>if x.2==.free then(x.1,(env.cells.lookup x.1).getD 0)::c else c) [] (λx R c=>by
  obtain⟨n,k⟩:=x
  by_cases G:k=.free
  .subst G
   obtain⟨c',Z⟩:=h (n,.free) R rfl;have Z:env.cells.lookup n=some c':=Z;simp[cellOf,Z]
  .have U:(k==NameKind.free)=false:=by simpa using G
   simp[U]),Vo]
 rfl
theorem aem(cells:Xt):∀(l:X0)(Z:Xt)(x:Str)(c:Addr),(∀y∈l,y.2=.free->∃c,cells.lookup y.1=some c)->(Dy cells l Z).lookup x=some c ->
 Z.lookup x=some c\/cells.lookup x=some c
 |[],Z,x,c,_,h=>.inl h
 |(n,k)::r,Z,x,c,hy,h=>by
  rcases aem cells r _ x c (λz hz=>hy z (bc _ hz)) h with q|q
  .by_cases U:k=.free
   .subst U
    simp only[zp,jw,nq]at q;cases e:x==n with
    |true =>
     rw[e]at q;obtain⟨c',G⟩:=hy (n,.free) dh rfl;have G:cells.lookup n=some c':=G;simp only[G,zj,An]at q;subst q;rw[eq_of_beq e];exact .inr G
    |false=>rw[e]at q;exact .inl q
   .have R:(k==NameKind.free)=false:=by simpa using U
    simp only[R,cz,jg]at q;exact .inl q
  .exact .inr q
theorem X6(cells:Xt):∀(l:X0)(Z:Xt)(x:Str),(∃c,Z.lookup x=some c)->∃c,(Dy cells l Z).lookup x=some c
 |[],Z,x,h=>h
 |(n,k)::r,Z,x,h=>by
  refine X6 cells r _ x ?_
  by_cases G:(k==NameKind.free)=true
  .rw[bx G,nq]
   cases e:x==n with
   |true=>exact⟨_,rfl⟩|false=>exact h
  .rw[bw G];exact h
theorem Um(cells:Xt):∀(l:X0)(Z:Xt)(x:Str),(x,NameKind.free)∈l->∃c,(Dy cells l Z).lookup x=some c
 |(n,k)::r,Z,x,h=>by
  rcases cu.mp h with q|q
  .obtain⟨rfl,rfl⟩:=Prod.mk.inj q
   refine X6 cells r _ x ⟨(cells.lookup x).getD 0,?_⟩;rw[bx (by simp),nq,zp]
  .exact Um cells r _ x q
theorem O4{Z:Env}:∀{G:X0}{x:Str},
 (G.map λ(y:Str×NameKind)=>if(y.2==NameKind.free&&Z.scope.kind==.function&&Z.kindOf y.1==some .cell)then(y.1,NameKind.cell)else(y.1,y.2)).lookup x
  = (G.lookup x).map λk=>if(k==NameKind.free&&Z.scope.kind==.function&&Z.kindOf x==some .cell)then NameKind.cell else k
 |[],_=>rfl
 |(n,k)::r,x=>by
  have R:=@O4 Z r x;rw[gr];cases hx:x==n with
  |true =>
   have e:=eq_of_beq hx;subst e;clear hx
   by_cases U:(k==NameKind.free&&Z.scope.kind==.function&&Z.kindOf x==some .cell)=true
   .simp only[U,jw,nq,zp,wz]
   .have hb:(k==NameKind.free&&Z.scope.kind==.function&&Z.kindOf x==some .cell)=false:=by simpa using U
    simp only[hb,cz,jg,nq,zp,wz]
  |false =>
   by_cases U:(k==NameKind.free&&Z.scope.kind==.function&&Z.kindOf n==some .cell)=true
   .simp only[U,jw,nq,hx];exact R
   .simp only[U,nq,hx];simpa[nq,hx]using R
theorem mem_of_lookup{Z G:Type}[BEq Z][LawfulBEq Z]:∀{l:List (Z×G)}{x:Z}{y:G},l.lookup x=some y->(x,y)∈l
 |(a,b)::r,x,y,h=>by
  rw[nq]at h;cases e:x==a with
  |true=>rw[e]at h;cases h;rw[eq_of_beq e];exact dh|false=>rw[e]at h;exact bc _ (mem_of_lookup h)
def Dz{Z:Type}{v:Z}{r:List (Str×Z)}:((k,v)::r).lookup x=if x=k then some v else r.lookup x:=by
 rw[nq]
 by_cases h:x=k
 .rw[bx h,show(x==k)=true from beq_iff_eq.mpr h]
 .rw[bw h,show(x==k)=false from pq.mpr h]
set_option tactic.hygienic true in
theorem ajl:∀(l:X0)(n:Nat)(Z:Xt)(x:Str)(c:Addr),(cellsFrom n l Z).lookup x=some c->((x,NameKind.cell)∈l/\n<=c)\/Z.lookup x=some c
 |[],_,_,_,_,h=>.inr h
 |(k,kd)::r,n,Z,x,c,h=>by
  unfold cellsFrom at h;split at h
  .rename_i e
   rcases ajl r _ _ x c h with⟨q,l⟩|q
   .exact .inl ⟨bc _ q,by omega⟩
   .rw[Dz]at q
    split at q
    .rename_i z
     cases q;exact .inl ⟨by rw[z,eq_of_beq e];exact dh,bh _⟩
    .exact .inr q
  .rcases ajl r _ _ x c h with⟨q,l⟩|q
   .exact .inl ⟨bc _ q,l⟩
   .exact .inr q
set_option tactic.hygienic true in
theorem ab8:∀(l:X0)(n:Nat)(Z:Xt)(x:Str),((x,NameKind.cell)∈l\/∃c,Z.lookup x=some c)->∃c,(cellsFrom n l Z).lookup x=some c
 |[],_,_,_,h=>by rcases h with q|q;cases q;exact q
 |(k,kd)::r,n,Z,x,h=>by
  unfold cellsFrom;split
  .refine ab8 r _ _ x ?_
   by_cases z:x=k
   .exact .inr ⟨n,by rw[Dz,bx z]⟩
   .rcases h with q|q
    .rcases cu.mp q with q|q
     .cases q;exact absurd rfl z
     .exact .inl q
    .exact .inr (by rw[Dz,bw z];exact q)
  .rename_i e
   refine ab8 r _ _ x ?_;rcases h with q|q
   .rcases cu.mp q with q|q
    .cases q;exact absurd rfl e
    .exact .inl q
   .exact .inr q
set_option tactic.hygienic true in
theorem aqg:∀(l:X0)(n:Nat)(Z:Xt)(x:Str),(x,NameKind.cell)∉l->(cellsFrom n l Z).lookup x=Z.lookup x
 |[],_,_,_,_=>rfl
 |(k,kd)::r,n,Z,x,h=>by
  have Y:(x,NameKind.cell)∉r:=λq=>h (bc _ q)
  unfold cellsFrom;split
  .rename_i e
   rw[aqg r _ _ x Y,Dz,bw];intro z;exact h (by rw[z,eq_of_beq e];exact dh)
  .exact aqg r _ _ x Y
set_option tactic.hygienic true in
theorem ahh:∀(l:X0)(n:Nat)(Z:Xt),(∀x c,Z.lookup x=some c->c<n)->(∀x y c,Z.lookup x=some c->Z.lookup y=some c->x=y)->∀x y c,(cellsFrom n l Z).lookup x=some c->(cellsFrom n l Z).lookup y=some c->x=y
 |[],_,_,_,h=>h
 |(k,kd)::r,n,Z,lt,h=>by
  unfold cellsFrom;split
  .refine ahh r _ _ (λx c q=>?_) (λx y c Y G=>?_)
   .rw[Dz]at q
    split at q
    .cases q;exact ph n
    .exact p7 (lt x c q)
   .rw[Dz]at Y G
    split at Y<;>split at G
    .rename_i a b;rw[a,b]
    .cases Y;exact absurd (lt y _ G) (j9 _)
    .cases G;exact absurd (lt x _ Y) (j9 _)
    .exact h x y c Y G
  .exact ahh r _ _ lt h
set_option tactic.hygienic true in
theorem ab9:∀(l:X0)(h:Heap)(Z:Xt),(∀x c,Z.lookup x=some c->∃v,h.IsCell c v)->∀x c,(cellsFrom h.objs.size l Z).lookup x=some c->∃v,(pushCells h l).IsCell c v
 |[],_,_,k,x,c,q=>k x c q
 |(n,kd)::r,h,Z,k,x,c,q=>by
  unfold cellsFrom at q;unfold pushCells;split at q
  .rename_i e
   rw[bx e];have sz:(h.push { cls:=.type "cell",data:=.cell none }).objs.size=h.objs.size+1:=iu _ _;rw[<-sz]at q;refine ab9 r _ _ (λx c q=>?_) x c q;rw[Dz]at q;split at q
   .cases q;exact⟨none,_,bu _ rfl,rfl⟩
   .obtain⟨v,Y⟩:=k x c q
    exact⟨v,Y.keeps λb o e=>au _ e⟩
  .rename_i e
   rw[bw e];exact ab9 r _ _ k x c q
set_option tactic.hygienic true in
theorem X7(cells:Xt):∀(l:X0)(Z:Xt)(x:Str)(c:Addr),(Dy cells l Z).lookup x=some c->(x,NameKind.free)∈l\/Z.lookup x=some c
 |[],_,_,_,h=>.inr h
 |(k,kd)::r,Z,x,c,h=>by
  unfold Dy at h;rcases X7 cells r _ x c h with q|q
  .exact .inl (bc _ q)
  .split at q
   .rename_i e
    rw[Dz]at q;split at q
    .rename_i z
     exact .inl (by rw[z,eq_of_beq e];exact dh)
    .exact .inr q
   .exact .inr q
def al7(h:Q { scope:=scope,locals:=s.heap.objs.size,globals:=globals,cells:=cellsFrom (s.heap.objs.size+1) scope.names cl,qual:=qual,func:=none,code:=around.code,frame:=around.frame,builtins:=around.builtins } { s with heap:=pushCells (s.heap.push { cls:=.type "dict",data:=.dict #[] }) scope.names }) :
 wpAny M A (newFunctionEnv scope globals cl [] qual none .none (some around)) Q E s:=by
 simp only[newFunctionEnv,Option.isSome_some,jw];refine aa (wpAny_alloc ?_);refine aa (wpAny_layCells _ (λG Z cells=>by cases hkc:Z==NameKind.cell<;>simp[hkc]) _ _ _ _ ?_);rw[show({ s with heap:=s.heap.push { cls:=.type "dict",data:=.dict #[] } }:Shared).heap.objs.size=s.heap.objs.size+1 from iu ..];exact aa (aj (aj h))
def Np(X:Cx)(N:Yf)(Z:Scope)(C:Addr)(G:X9)(s:Shared)(H:Hp):Cx where
 prog:=X.prog
 w:=X.w
 K:=X.K
 mg:=X.mg
 base:=X.base
 A:=X.A
 N:=N
 s₀:=s
 H₀:=H
 env:=compEnvC Z (cellsFrom (C+1) Z.names (Dy X.env.cells Z.names [])) C X.env
 outer:=X.stack
 stack:=X.stack
 ex:=G
 fn:=λx=>Z.names.lookup x==some .cell
 calm:=X.calm
 pn:=[]
 xe:=λ_ _=>False
structure Fi(X:Cx)(N:Yf)(scope:Scope):Prop where
 kind:scope.kind=.function
 locs:∀y∈scope.names,y.2=.local->scope.names.lookup y.1=some .local
 frees:∀y∈scope.names,y.2=.free->X.env.kindOf y.1=some .cell\/X.env.kindOf y.1=some .free
 uniq:∀x k,(x,k)∈scope.names->scope.names.lookup x=some k
 long:X.N.length<=N.length
 vis:∀i x,i<X.N.length->N[i]?=some x->Vis (relabel scope X.env) x->X.N[i]?=some x/\scope.names.lookup x=some .free
theorem Fi.cells(B:Fi X N scope)(ok:X.Ok):∀y∈scope.names,y.2=.free->∃c,X.env.cells.lookup y.1=some c:=λy Z G=>ok.has y.1 (B.frees y Z G)
def Fi.clos(B:Fi X N scope)(ok:X.Ok):closureFor scope X.env=pure (Dy X.env.cells scope.names []):=X5 (B.cells ok)
def Fi.inCells(B:Fi X N scope)(ok:X.Ok)(h:(Dy X.env.cells scope.names []).lookup x=some c):X.env.cells.lookup x=some c:=by
 rcases aem _ _ _ _ _ (B.cells ok) h with q|q
 .simp at q
 .exact q
def aen{X:Cx}(x:Str):(compEnvC scope cl C X.env).kindOf x=(scope.names.lookup x).map λk=>if(k==NameKind.free&&X.env.scope.kind==.function&&X.env.kindOf x==some .cell)then NameKind.cell else k:=by show(relabel scope X.env).names.lookup x=_;exact O4
def Fi.ahi(B:Fi X N scope)(ok:X.Ok)(h:(cellsFrom (C+1) scope.names (Dy X.env.cells scope.names [])).lookup x=some c):(scope.names.lookup x=some .cell/\C+1<=c)\/X.env.cells.lookup x=some c:=by
 rcases ajl _ _ _ _ _ h with⟨q,l⟩|q
 .exact .inl ⟨B.uniq _ _ q,l⟩
 .exact .inr (B.inCells ok q)
def al8(B:Fi X N scope)(I:Inv X pins σ H s)(hf:∀b∈fp,V6 X pins H b)(q3:∀b∈fp,∃o,s.heap.get? b=some o)(qk:Z.Ns (s.heap.objs.size+1) λ_=>none)(hk:∀b o,s.heap.get? b=some o->Z.get? b=some o)(Fl:Z.get? s.heap.objs.size=some { cls:=.type "list",data:=.seq ([]:Zl).toArray })(qv:∀x c,(cellsFrom (s.heap.objs.size+1+1) scope.names (Dy X.env.cells scope.names [])).lookup x=some c->∃v,Z.IsCell c v) :
 Inv (Np X N scope (s.heap.objs.size+1) fp s H) [] (σ++List.replicate (N.length-X.N.length) none) (upd H s.heap.objs.size (.lst [])) { s with heap:=Z,toks:=t }:=by
 have ok:=I.ok;have hD:H s.heap.objs.size=none:=I.Al.fresh (bh _);have hC:H (s.heap.objs.size+1)=none:=I.Al.fresh (vm _);have q4:s.heap.objs.size+1≠s.heap.objs.size:=Nat.succ_ne_self _;have lt:∀b∈fp,b<s.heap.objs.size:=λb hb=>by obtain⟨o,e⟩:=q3 b hb;exact az e
 have qq:∀x c,X.env.cells.lookup x=some c->c<s.heap.objs.size:=λx c e=>by obtain⟨v,o,ho,_⟩:=I.cell x c e;exact az ho
 refine⟨⟨ok.mod,B.kind,ok.glob,ok.blt,vm _,?_,?_,?_,ok.hd,ok.frames,.inl rfl,?_,λb o e=>I.bs b o e,dz ok.bsz I.sz,?_,?_,I.stack,I.ai6⟩,rfl,I.bare,?_,?_,?_,?_,?_,?_,?_,?_⟩
 .intro x y c U hy
  refine ahh scope.names (s.heap.objs.size+1+1) (Dy X.env.cells scope.names []) (λx c q=>?_) (λx y c q1 q2=>ok.inj x y c (B.inCells ok q1) (B.inCells ok q2)) x y c U hy;exact p7 (p7 (qq x c (B.inCells ok q)))
 .intro x U
  rw[show(Np X N scope (s.heap.objs.size+1) fp s H).env.kindOf x=_ from aen x]at U;cases e:scope.names.lookup x with
  |none=>rw[e]at U;rcases U with q|q<;>simp at q
  |some k =>
   have Qw:k=.free\/k=.cell:=by
    rw[e]at U;cases k with
    |free=>exact .inl rfl|cell=>exact .inr rfl|«local»=>rcases U with q|q<;>simp at q
    |globalExplicit=>rcases U with q|q<;>simp at q
    |globalImplicit=>rcases U with q|q<;>simp at q
   rcases Qw with rfl|rfl
   .exact ab8 _ _ _ _ (.inr (Um _ _ _ _ (mem_of_lookup e)))
   .exact ab8 _ _ _ _ (.inl (mem_of_lookup e))
 .intro x c h hc
  have h:scope.names.lookup x=some .cell:=eq_of_beq h;show s.heap.objs.size<=c
  rcases ajl _ _ _ _ _ hc with⟨_,l⟩|q
  .exact dz (xr _ 2) l
  .rcases X7 _ _ _ _ _ q with z|z
   .rw[B.uniq _ _ z]at h;cases h
   .cases z
 .intro b hb
  refine⟨λe=>?_,λx c hc e=>?_⟩
  .have q:=lt b hb
   have e:b=s.heap.objs.size+1:=e;rw[e]at q;exact absurd q (Nat.not_lt.mpr (vm _))
  .obtain⟨_,_,_,_,f4,_⟩:=hf b hb
   rcases B.ahi ok hc with⟨_,l⟩|hc
   .have q:=lt b hb
    rw[<-e]at q;exact absurd (gw (p7 (p7 q)) l) (j9 _)
   .exact f4 x c hc e
 .intro b o e hb
  obtain⟨_,_,_,f3,_⟩:=hf b hb;rcases f3 with q|q
  .exact ok.apf b o e q
  .exact j9 _ (gw (az e) (dz ok.bsz q))
 .intro b hb q
  obtain⟨_,f1,f2,_⟩:=hf b hb;rcases cu.mp (I.abz b q)with z|z
  .exact f1 z
  .exact f2 z
 .exact Un.laid hk (bh _) hD
 .refine⟨_,qk,λi x v hN G hv=>?_⟩
  have hi:i<X.N.length:=by
   rcases yg i σ.length with q|q
   .rw[I.len]at q;exact q
   .rw[il q]at G
    rw[List.getElem?_replicate]at G;split at G<;>simp at G
  rw[dq (by rw[I.len];exact hi)]at G;obtain⟨U,Qw⟩:=B.vis i x hi hN hv;obtain⟨m,_,hl⟩:=I.loc;have qj:=B.frees _ (mem_of_lookup Qw) rfl;have q0:Vis X.env.scope x:=by
   rcases qj with q|q
   .exact .inr (.inl q)
   .exact .inr (.inr q)
  obtain⟨u,ru,lu⟩:=hl i x v U G q0;refine⟨u,ru,.inr ⟨?_,?_⟩⟩
  .rw[show(Np X N scope (s.heap.objs.size+1) fp s H).env.kindOf x=_ from aen x,Qw]
   simp only[wz];split
   .exact .inl rfl
   .exact .inr rfl
  .rcases lu with⟨q,_⟩|⟨_,c,hc,ic⟩
   .rcases qj with z|z<;>rw[q]at z<;>cases z
   .obtain⟨c',R⟩:=Um X.env.cells scope.names [] x (mem_of_lookup Qw)
    have:=B.inCells ok R;rw[hc]at this;cases this;refine⟨c,?_,ic.keeps hk⟩;show(cellsFrom (s.heap.objs.size+1+1) scope.names (Dy X.env.cells scope.names [])).lookup x=some c;rw[aqg _ _ _ _ λz=>by rw[B.uniq _ _ z]at Qw;cases Qw];exact R
 .exact qv
 .show upd H s.heap.objs.size (.lst []) (s.heap.objs.size+1)=none
  rw[my q4];exact hC
 .intro x c hc
  rcases B.ahi ok hc with⟨_,l⟩|R
  .have l:s.heap.objs.size+1+1<=c:=l
   rw[my (vo (gw (p7 (ph _)) l))];exact I.Al.fresh (dz (xr _ 2) l)
  .rw[my (f9 (qq x c R))]
   exact I.Ox x c R
 .intro p hp;simp[Np]at hp
 .exact Qv.laid I.Al hk (bh _) ⟨jq _,[],0,.nil,Fl⟩
 .show(σ++List.replicate (N.length-X.N.length) none).length=N.length
  rw[o6,List.length_replicate,I.len];have:=B.long;omega
def O5(I:Nat->Shared->Prop)(q4:∀n s,I n s->wpAny (model prog w) A (pyNext it) (λr qq=>match r with
 |none=>R (.ok .next) qq
 | some v=>wpAny (model prog w) A (letOwnedTupleGo target it v) (λ_ Z=>wpAny (model prog w) A (assign target env v) (λ_ qv =>
  wpAny (model prog w) A (forIn ifs true λc r=>if r=true then do let ok<-isTrue c env (eval c env);pure (ForInStep.yield ok)else pure (ForInStep.yield r)) (λok G =>
   if ok=true then wpAny (model prog w) A (eval elt env) (λx q1 =>
    wpAny (model prog w) A (call (.builtin "list.append") [acc,x]) (λ_ qj=>∃m,m<n/\I m qj) (λ_ _=>False) q1) (λ_ _=>False) G
   else ∃m,m<n/\I m G) (λ_ _=>False) qv) (λ_ _=>False) Z) (λ_ _=>False) qq) (λ_ _=>False) s)(n:Nat)(h:I n s) :
 codeAny (model prog w) A (.compLoop (.ListComp elt [⟨target,iter,ifs,0⟩] scope pos) 0 it acc env) R s:=by
 have nv:∀{α:Type}{t:Sem α}{Q:α->Shared->Prop}{E:Y1}{s:Shared},wpAny (model prog w) A t Q (λ_ _=>False) s->wpAny (model prog w) A t Q E s:=λh=>j7 h (λ_ _ q=>q) λ_ _ f=>f.elim
 refine codeAny_loop rfl I (λn s hI=>?_) n h;show wpAny _ A ((compTurn (.ListComp elt [⟨target,iter,ifs,0⟩] scope pos) 0 it acc env).onRaise (λx=>do noteFrame x env;theTreesLotGoes x)) _ _ s;refine wpAny_noted ?_;rw[compTurn_list];refine aa (wpAny_standAt (aa (j7 (q4 n s hI) (λr qq qk=>?_) λ_ _ U=>U.elim)));cases r with
 |none=>exact aj qk
 |some v =>
  refine aa (j7 qk (λ_ Z q2=>?_) λ_ _ U=>U.elim);refine aa (j7 q2 (λ_ qv q6=>aa (j7 q6 (λok G q0=>?_) λ_ _ U=>U.elim)) λ_ _ U=>U.elim);cases ok with
  |false=>exact aj ⟨rfl,q0⟩
  |true =>
   exact aa (aa (j7 q0 (λx q1 q3=>aa (j7 q3 (λ_ qj q5=>aj (aj ⟨rfl,q5⟩)) λ_ _ U=>U.elim)) λ_ _ U=>U.elim))
def aeo(k:Nat)(wi:TI)(g:TG)(tc:TT)(te:TE):TE:=λU H Q=>wi U H λJ H1=>∀D,H1 D=none->∃W:Nat->Nat->Hp->Prop,(∃m,W 0 m (upd H1 D (.lst [])))/\∀i m H,W i m H ->
 (J.stop i H/\Q (.ref D) H)\/(J.go i H/\∀x H',J.yld i H x H'->g x (U++List.replicate k none) H' λZ H2=>Z.length=(U++List.replicate k none).length /\
  (∀(j:Nat) v,(U++List.replicate k none)[j]?=some (some v)->Z[j]?=some (some v))/\tc Z H2 λb H3 =>
   if b=true then te Z H3 λv H4=>∃R G,H4 D=some (.lst R)/\R.length<sizeLine/\G<m/\W (i+1) G (upd H4 D (.lst (R++[v])))else ∃G,G<m/\W (i+1) G H3)
def PTs(X:Cx)(Z:Ya)(G:TT):Prop:=(Z=[]/\G=λ_ H Q=>Q true H)\/∃c,Z=[c]/\PT X c G
def aap(I:Inv X pins σ H s)(hf:∀b∈fp,V6 X pins H b)(J:Inv (Np X N scope (s.heap.objs.size+1) fp s H) [] qq U s3):Inv X pins σ U s3/\∃m,s3.heap.Ns (s.heap.objs.size+1) m:=by
 refine⟨I.call' J.os J.base J.Al J.bare λb G=>?_,?_⟩
 .obtain⟨_,f1,_,R,f4,f5⟩:=hf b G
  exact⟨R,f1,f4,f5⟩
 .obtain⟨m,Z,_⟩:=J.loc
  exact⟨m,Z⟩
def al9(I:Inv X pins σ H s)(R:Inv X pins σ G s3)(hC:G (s.heap.objs.size+1)=none)(hs:Heap.SameBut (s.heap.objs.size+1) s3.heap U):Inv X pins σ G { s3 with heap:=U }:=by
 have big:∀b o,s.heap.get? b=some o->b≠s.heap.objs.size+1:=λb o e z=>by have:=az e;rw[z]at this;exact absurd this (Nat.not_lt.mpr (vm _))
 refine R.turned (t':=s3.toks) (λb o hb e=>hs.extBut b o hb e) hC ?_ (.inr (dz I.sz (vm _))) ?_ ?_
 .intro e
  obtain⟨m,⟨o,_,_,Z,_⟩,_⟩:=I.loc;exact big _ o Z e.symm
 .intro x c hc
  obtain⟨v,o,Z,_⟩:=I.cell x c hc;exact big c o Z
 .intro p hp
  exact big p.1 p.2 (I.pin p hp).1
def X8{RR:Value->Addr->Result->Shared->Prop}(B:Fi X N scope)(J0:X.calm=true)(I:Inv X pins σ H s)(hf:∀b∈G,V6 X pins H b)(T:Turn X.prog X.w X.K tg J G it tn)(h0:tn 0 s.heap)(hg:∀C s H,PG (Np X N scope C G s H) tg g)(hc:∀C s H,PTs (Np X N scope C G s H) ifs tc)(he:∀C s H,PE (Np X N scope C G s H) elt te){Q:VK}(W:Nat->Nat->Hp->Prop)(w0:W 0 m0 (upd H s.heap.objs.size (.lst [])))(z5:∀i m H,W i m H->(J.stop i H/\Q (.ref s.heap.objs.size) H)\/(J.go i H/\∀x H',J.yld i H x H'->g x (σ++List.replicate (N.length-X.N.length) none) H' λqv H2=>qv.length=(σ++List.replicate (N.length-X.N.length) none).length /\
 (∀(j:Nat) v,(σ++List.replicate (N.length-X.N.length) none)[j]?=some (some v)->qv[j]?=some (some v))/\tc qv H2 λb H3 =>
  if b=true then te qv H3 λv H4=>∃xs U,H4 s.heap.objs.size=some (.lst xs)/\xs.length<sizeLine/\U<m/\W (i+1) U (upd H4 s.heap.objs.size (.lst (xs++[v])))else ∃U,U<m/\W (i+1) U H3))(y2:∀zk H3 s3,Inv (Np X N scope (s.heap.objs.size+1) G s H) [] zk H3 s3->Q (.ref s.heap.objs.size) H3->RR (.ref s.heap.objs.size) (s.heap.objs.size+1) (.ok .next) s3) :
 wpAny (model X.prog X.w) X.A (newList []) (λz3 z1=>wpAny (model X.prog X.w) X.A (newFunctionEnv scope X.env.globals (Dy X.env.cells scope.names []) [] X.env.qual none .none (some X.env)) (λq2 z0 =>
  codeAny (model X.prog X.w) X.A (.compStart (.ListComp elt [⟨tg,iter,ifs,0⟩] scope pos) 0 (.ref it) z3 { q2 with scope:=relabel scope X.env }) (RR z3 q2.locals) z0) E z1) E s:=by
 refine jx (al7 ?_);have q5:(s.heap.push { cls:=.type "list",dict:=none,data:=.seq ([]:Zl).toArray }).objs.size=s.heap.objs.size+1:=iu _ _;obtain⟨Z,eh⟩:∃Z,Z=pushCells ((s.heap.push { cls:=.type "list",dict:=none,data:=.seq ([]:Zl).toArray }).push { cls:=.type "dict",data:=.dict #[] }) scope.names:=⟨_,rfl⟩;have up:∀b o,(s.heap.push { cls:=.type "list",dict:=none,data:=.seq ([]:Zl).toArray }).get? b=some o->Z.get? b=some o:=λb o e=>by rw[eh];exact pushCells_keeps _ _ b o (au _ e)
 have q4:∀b o,s.heap.get? b=some o->Z.get? b=some o:=λb o e=>up b o (au _ e)
 have Fl:Z.get? s.heap.objs.size=some { cls:=.type "list",data:=.seq ([]:Zl).toArray }:=up _ _ (bu _ rfl);have q0:Z.Ns (s.heap.objs.size+1) λ_=>none:=by rw[eh,<-q5];exact(Heap.Ns.new _ (.type "dict")).keeps (pushCells_keeps _ _)
 have yv:∀x c,(cellsFrom (s.heap.objs.size+1+1) scope.names (Dy X.env.cells scope.names [])).lookup x=some c->∃v,Z.IsCell c v:=by
  have y0:((s.heap.push { cls:=.type "list",dict:=none,data:=.seq ([]:Zl).toArray }).push { cls:=.type "dict",data:=.dict #[] }).objs.size=s.heap.objs.size+1+1:=by rw[iu,q5]
  rw[eh,<-y0];refine ab9 _ _ _ λx c q=>?_
  obtain⟨v,hv⟩:=I.cell x c (B.inCells I.ok q);exact⟨v,hv.keeps λb o e=>au _ (au _ e)⟩
 have q1:∀b∈G,∃o,s.heap.get? b=some o:=λb R=>let ⟨o,e,_⟩:=T.obj 0 _ h0 b R;⟨o,e⟩
 have I0:=al8 (t:=s.toks) B I hf q1 q0 q4 Fl yv;have zz:∀{H':Hp},(∀b∈G,H' b=none)->∀b∈G,V6 (Np X N scope (s.heap.objs.size+1) G s H) [] H' b:=λhn b R=>by
  obtain⟨f0,f1,f2,f3,f4,f5⟩:=hf b R;refine⟨hn b R,?_,?_,.inl R,?_,λp hp=>(by simp[Np]at hp)⟩
  .intro z
   obtain⟨o,e⟩:=q1 b R;have:=az e;rw[show b=s.heap.objs.size+1 from z]at this;exact absurd this (Nat.not_lt.mpr (vm _))
  .intro q
   rcases cu.mp (I.abz b q)with z|z
   .exact f1 z
   .exact f2 z
  .intro x c hc
   rcases B.ahi I.ok hc with⟨_,l⟩|hc
   .intro z
    obtain⟨o,e⟩:=q1 b R;have q:=az e;rw[<-z]at q;exact absurd (gw (p7 (p7 q)) l) (j9 _)
   .exact f4 x c hc
 have yk:∀b∈G,upd H s.heap.objs.size (.lst []) b=none:=λb R=>by obtain⟨o,e⟩:=q1 b R;rw[my (f9 (az e))];exact(hf b R).1
 have q3:∀s':Shared,s'={ s with heap:=Z }->codeAny (model X.prog X.w) X.A (.compLoop (.ListComp elt [⟨tg,iter,ifs,0⟩] scope pos) 0 (.ref it) (.ref s.heap.objs.size) (compEnvC scope (cellsFrom (s.heap.objs.size+1+1) scope.names (Dy X.env.cells scope.names [])) (s.heap.objs.size+1) X.env))
  (RR (.ref s.heap.objs.size) (s.heap.objs.size+1)) s':=by
  rintro s' rfl;refine O5 (λn s'=>∃i qj H',Inv (Np X N scope (s.heap.objs.size+1) G s H) [] qj H' s'/\(∀(j:Nat) v,(σ++List.replicate (N.length-X.N.length) none)[j]?=some (some v)->qj[j]?=some (some v))/\tn i s'.heap/\(∀b∈G,H' b=none)/\W i n H') ?_ m0
   ⟨0,_,_,I0,λ_ _ z=>z,T.keep 0 _ _ h0 (λb _ o e=>q4 b o e),yk,w0⟩
  rintro n s3 ⟨i,zk,H3,I3,k3,z2,zv,w3⟩;have zw:=I3.weak (σ':=σ++List.replicate (N.length-X.N.length) none) (by rw[I3.len];exact I0.len) k3;rcases z5 i n H3 w3 with⟨z4,qn⟩|⟨go,step⟩
  .refine Bp (T.done (Np X N scope (s.heap.objs.size+1) G s H) rfl rfl rfl J0 i [] s3 _ H3 (λ_ _=>False) zw (zz zv) z2 z4) λr s4 z_=>?_
   obtain⟨hr,I4⟩:=z_;subst hr;exact y2 _ _ _ I4 qn
  .refine Bp (T.item (Np X N scope (s.heap.objs.size+1) G s H) rfl rfl rfl J0 i [] s3 _ H3 (λ_ _=>False) zw (zz zv) z2 go) λr s4 z_=>?_
   obtain⟨u,hr,h4⟩:=z_;subst hr;refine Bp h4 λ_ s5 z_=>?_
   obtain⟨x,H5,I5,r5,y5,zq,yy⟩:=z_;have z9:=I5.pinned (zz yy) (T.obj _ _ zq);refine Bp (hg _ _ _ _ s5 _ H5 x u _ z9 r5 (step x H5 y5)) λ_ s6 z_=>?_
   obtain⟨qq,H6,I6,l6,k6,q6⟩:=z_;have qk:∀{ai7:Zp}{H7:Hp}{s7:Shared}{m:Nat},Inv (Np X N scope (s.heap.objs.size+1) G s H) ([]++Ui G s5.heap) qq H7 s7->m<n->W (i+1) m H7 ->
    ∃m,m<n/\∃i qj H',Inv (Np X N scope (s.heap.objs.size+1) G s H) [] qj H' s7/\(∀(j:Nat) v,(σ++List.replicate (N.length-X.N.length) none)[j]?=some (some v)->qj[j]?=some (some v))/\tn i s7.heap/\(∀b∈G,H' b=none)/\W i m H':=fun{_ H7 s7 m} I7 hm w7=>by
    refine⟨m,hm,i+1,qq,H7,I7.O1,k6,T.keep _ _ _ zq λb R o e=>(I7.pin (b,o) (iw _ (iw _ (Ma R e)))).1,λb R=>?_,w7⟩;obtain⟨o,e,d⟩:=T.obj _ _ zq b R;exact(I7.pin (b,o) (iw _ (iw _ (Ma R e)))).2.1
   have q8:wpAny (model X.prog X.w) X.A (forIn ifs true λc r=>if r=true then do let ok<-isTrue c (compEnvC scope (cellsFrom (s.heap.objs.size+1+1) scope.names (Dy X.env.cells scope.names [])) (s.heap.objs.size+1) X.env) (eval c (compEnvC scope (cellsFrom (s.heap.objs.size+1+1) scope.names (Dy X.env.cells scope.names [])) (s.heap.objs.size+1) X.env));pure (ForInStep.yield ok)else pure (ForInStep.yield r))
    (TP (Np X N scope (s.heap.objs.size+1) G s H) ([]++Ui G s5.heap) qq λb H3 =>
     if b=true then te qq H3 λv H4=>∃xs U,H4 s.heap.objs.size=some (.lst xs)/\xs.length<sizeLine/\U<n/\W (i+1) U (upd H4 s.heap.objs.size (.lst (xs++[v])))else ∃U,U<n/\W (i+1) U H3) (λ_ _=>False) s6:=by
    rcases hc (s.heap.objs.size+1) s H with⟨rfl,rfl⟩|⟨c,rfl,y1⟩
    .exact wpAny_tests_nil ⟨H6,I6,q6⟩
    .exact wpAny_tests_one (y1 _ s6 qq H6 _ I6 q6)
   refine Bp q8 λok s7 z_=>?_
   obtain⟨H7,I7,q7⟩:=z_;cases ok with
   |false =>
    obtain⟨U,hm,w7⟩:=(show ∃U,U<n/\W (i+1) U H7 from q7);exact qk (ai7:=[]) I7 hm w7
   |true =>
    show wpAny _ _ _ _ _ _;refine Bp (he _ _ _ _ s7 qq H7 _ I7 q7) λx s8 z_=>?_
    obtain⟨v,H8,I8,r8,xs,U,hD,hl,hm,w8⟩:=z_;refine Bp (aan _ s8 qq H8 (.ref s.heap.objs.size) [v] (.ref s.heap.objs.size) [x] (λ_ H'=>W (i+1) U H') I8 rfl (.cons r8 .nil) ⟨_,xs,v,rfl,rfl,hD,hl,w8⟩) λ_ s9 z_=>?_
    obtain⟨_,H9,I9,_,w9⟩:=z_;exact qk (ai7:=[]) I9 hm w9
 rw[<-eh,q5];exact codeAny_compStart_list (q3 _ rfl) (T.self _ 0 _ _ _ (T.keep 0 _ _ h0 (λb _ o e=>q4 b o e)) (q3 _ rfl))
def ajm(B:Fi X N scope)(J0:X.calm=true)(hi:PI X tg iter wi)(hg:∀C Z s H,PG (Np X N scope C Z s H) tg g)(hc:∀C Z s H,PTs (Np X N scope C Z s H) ifs tc)(he:∀C Z s H,PE (Np X N scope C Z s H) elt te)(hs:∀x,foldedSetIterable iter X.env x=pure x):PE X (.ListComp elt [⟨tg,iter,ifs,0⟩] scope pos) (aeo (N.length-X.N.length) wi g tc te):=by intro G s σ H Q I h;rw[eval_ListComp];refine wpAny_comprehension_free (use:=none) rfl hs (B.clos I.ok) B.kind B.locs (Bp (hi G s σ H _ I h) λv s1 h1=>Bp h1 λqv s2 h2=>?_);obtain⟨it,Z,tn,J,H2,rfl,R,T,qq,f2,q2⟩:=h2;obtain⟨W,⟨m0,w0⟩,U⟩:=q2 s2.heap.objs.size (R.Al.fresh (bh _));refine X8 (RR:=λqj C=>compPost (model X.prog X.w) X.A X.xe none (EP X G σ Q) qj C) B J0 R f2 T qq (λC s H=>hg C Z s H) (λC s H=>hc C Z s H) (λC s H=>he C Z s H) W w0 U ?_;intro qk H3 s3 I3 q3;obtain⟨J3,m,hn⟩:=aap R f2 I3;exact⟨m,hn,λh' Pj=>⟨.ref s2.heap.objs.size,H3,al9 R J3 I3.free Pj,rfl,q3⟩⟩
set_option tactic.hygienic true in
def ajn(B:Fi X N scope)(J0:X.calm=true)(hi:PI X tg iter wi)(hg:∀C G s H,PG (Np X N scope C G s H) tg g)(hc:∀C G s H,PTs (Np X N scope C G s H) ifs tc)(he:∀C G s H,PE (Np X N scope C G s H) elt te)(hs:∀x,foldedSetIterable iter X.env x=pure x)(hN:X.N.Nodup)(hy:X.N[i]?=some y)(hl:X.env.scope.names.lookup y=some .local)(q0:swapsWith (.ListComp elt [⟨tg,iter,ifs,0⟩] scope pos) (some (.Name y py)) aqh.line X.env=pure true) :
 PS X (.Assign [.Name y py] (.ListComp elt [⟨tg,iter,ifs,0⟩] scope pos) aqh) (a2j (aeo (N.length-X.N.length) wi g tc te) (ai9 i)):=by
 intro Z s σ H D I h;rw[exec_Assign_Name_used _ _ _ _ q0];refine aa (wpAny_standAt (aa ?_));show wpAny _ _ (do let _<-comprehension (.ListComp elt [⟨tg,iter,ifs,0⟩] scope pos) scope X.env _ (newList []) false (eval iter X.env) (some (assign (.Name y py) X.env))) _ _ s;refine aa (j7 (wpAny_comprehension_free (use:=some (assign (.Name y py) X.env)) (Q:=λ_ u=>SP X Z D .next u) rfl hs (B.clos I.ok) B.kind B.locs
  (Bp (hi Z s σ H _ I h) λv s1 h1=>Bp h1 λq6 Y h2=>?_)) (λ_ u hq=>aj (aj hq)) λ_ _ e=>e)
 obtain⟨it,G,tn,J,H2,rfl,U,T,qq,f2,q2⟩:=h2;obtain⟨W,⟨m0,w0⟩,S⟩:=q2 Y.heap.objs.size (U.Al.fresh (bh _));refine X8 (RR:=λqk C=>compPost (model X.prog X.w) X.A X.xe (some (assign (.Name y py) X.env)) (λ_ u=>SP X Z D .next u) qk C) (Q:=λx H1=>ai9 i x σ H1 D.nx) B J0 U f2 T qq (λC s H=>hg C G s H) (λC s H=>hc C G s H) (λC s H=>he C G s H) W w0 S ?_;intro q5 H3 s3 I3 q3;obtain⟨J3,m,hn⟩:=aap U f2 I3;have q1:=I3.free;obtain⟨oC,_,_,R,qv,_⟩:=id hn;have big:∀b o,Y.heap.get? b=some o->b≠Y.heap.objs.size+1:=λb o e z=>by have:=az e;rw[z]at this;exact absurd this (Nat.not_lt.mpr (vm _))
 have L:Y.heap.objs.size+1≠X.env.locals:=λe=>by obtain⟨m,⟨o,_,_,ho,_⟩,_⟩:=U.loc;exact big _ o ho e.symm
 have J4:Inv X (Z++[(Y.heap.objs.size+1,oC)]) σ H3 s3:=J3.Sx λp hp=>by
  rcases dw.mp hp with q|q
  .exact J3.pin p (iw _ q)
  .have e:p=(Y.heap.objs.size+1,oC):=by simpa using q
   subst e;refine⟨R,q1,L,λhb=>?_,λv z=>by rw[qv]at z;cases z⟩;exact U.a1q (vm _) hb
 show wpAny (model X.prog X.w) X.A (assign (.Name y py) X.env (.ref Y.heap.objs.size)) _ _ s3;refine Bp (ab1 (pos:=py) hN hy (.inl hl) (.inr hl) (Z++[(Y.heap.objs.size+1,oC)]) s3 σ H3 (.ref Y.heap.objs.size) (.ref Y.heap.objs.size) D.nx J4 rfl q3) λ_ s4 z_=>?_
 obtain⟨qj,H4,I4,q4⟩:=z_;have pC:=I4.pin (Y.heap.objs.size+1,oC) (iw _ (iw _ (by simp)));refine⟨m,hn.at' λo e=>by rw[R]at e;cases e;exact pC.1,λh' Pj=>⟨qj,H4,?_,q4⟩⟩;refine(I4.O1).turned (t':=s4.toks) (λb o hb e=>Pj.extBut b o hb e) pC.2.1 L (.inr (dz U.sz (vm _))) ?_ ?_
 .intro x c hc
  obtain⟨v,o,ho,_⟩:=U.cell x c hc;exact big c o ho
 .intro p hp
  exact big p.1 p.2 (U.pin p hp).1
end L2
namespace Sm
open PySem L2
open MW (Ex Df OEx Nt Ce mz Lv Tg Res di MO Jm Cp Op2 Blt Bm Kx)
abbrev Dv:=MW.D
abbrev En:=MW.Env
structure Io where
 l:List Addr
 δ:List Addr
noncomputable def Io.add(Z:Io)(p:Addr):Io:=⟨Z.l++[p],Z.δ⟩
noncomputable def Io.hide(Z:Io)(p:Addr):Io:=⟨Z.l,p::Z.δ⟩
def Io.off(Z:Io)(a:Addr):Prop:=a∉Z.l/\a∉Z.δ
def aca(K:Fg)(H:Hp)(a:Addr)(G:List V):Prop:=
 (∃o,H a=some (.Ow o (.lst G))) \/
  ∃(o:Obj)(Z:U1)(n:Nat),K.lookup a=some o/\o.cls=.type "list"/\o.dict=none/\o.data=.seq Z n/\Z.size<=sizeLine/\Vals G Z.toList
def aca.sq(h:aca K H a vs):Hq K H a vs:=by
 rcases h with⟨o,h⟩|h
 .exact .inl (.inr ⟨o,h⟩)
 .exact .inr h
mutual
inductive Rep(K:Fg)(ι:Io)(H:Hp):Dv->V->Prop
 |non:Rep K ι H .non .non
 |bl (b:Bool):Rep K ι H (.bl b) (.bl b)
 |int (i:Int):Rep K ι H (.int i) (.int i)
 |str (s:Str):Rep K ι H (.str s) (.str s)
 |tup {a:Addr} {ds:List Dv} {vs:List V} (e:H a=some (.tup vs)) (r:o4 K ι H ds vs):Rep K ι H (.tup ds) (.ref a)
 |vl {a:Addr} {ds:List Dv} {vs:List V} (e:H a=some (.lst vs)) (n:ι.off a) (r:o4 K ι H ds vs):Rep K ι H (.vl ds) (.ref a)
 |fz {a:Addr} {ds:List Dv} {vs:List V} (e:aca K H a vs) (r:o4 K ι H ds vs):Rep K ι H (.fz ds) (.ref a)
 |ref {n:Nat} {a:Addr} (e:ι.l[n]?=some a):Rep K ι H (.ref n) (.ref a)
inductive o4(K:Fg)(ι:Io)(H:Hp):List Dv->List V->Prop
 |nil:o4 K ι H [] []
 |cons {d:Dv} {v:V} {ds:List Dv} {vs:List V} (h:Rep K ι H d v) (t:o4 K ι H ds vs):o4 K ι H (d::ds) (v::vs)
end
structure Le(ι:Io)(H:Hp)(ι':Io)(H':Hp):Prop where
 ext:∃Y,ι'.l=ι.l++Y/\∀a∈Y,H a=none
 del:ι'.δ=ι.δ
 tup:∀a vs,H a=some (.tup vs)->H' a=some (.tup vs)
 Ow:∀a o u,H a=some (.Ow o u)->H' a=some (.Ow o u)
 lst:∀a vs,a∉ι.l->H a=some (.lst vs)->H' a=some (.lst vs)
 dom:∀a,H' a=none->H a=none
def Le.refl(Z:Io)(H:Hp):Le Z H Z H:=⟨⟨[],by simp,by simp⟩,rfl,λ_ _ h=>h,λ_ _ _ h=>h,λ_ _ _ h=>h,λ_ h=>h⟩
def Hs{H H':Hp}(U:∀a u,H a=some u->∃G,H' a=some G)(h:H' a=none):H a=none:=by
 cases e:H a with
 |none=>rfl|some u=>obtain⟨G,Z⟩:=U a u e;rw[h]at Z;cases Z
def Le.get(l:Le G H Z U){n:Nat}(h:G.l[n]?=some a):Z.l[n]?=some a:=by obtain⟨Y,e,_⟩:=l.ext;rw[e,dq (ak.mp h).1];exact h
def Le.a3p(l:Le R H Z H')(h:a∉R.l)(G:H a=some o):a∉Z.l:=by
 obtain⟨Y,e,U⟩:=l.ext;rw[e];intro m;rcases dw.mp m with q|q
 .exact h q
 .rw[U a q]at G;cases G
def Le.out(l:Le G H Z R)(h:G.off a)(U:H a=some o):Z.off a:=⟨l.a3p h.1 U,by rw[l.del];exact h.2⟩
theorem Le.trans(a:Le ι H U H1)(b:Le U H1 R H2):Le ι H R H2:=by
 obtain⟨Y,e1,h1⟩:=a.ext;obtain⟨Z,e2,h2⟩:=b.ext;refine⟨⟨Y++Z,by rw[e2,e1,yq],λx m=>?_⟩,b.del.trans a.del,λx G h=>b.tup x G (a.tup x G h),λx o u h=>b.Ow x o u (a.Ow x o u h),λx G n h=>b.lst x G (a.a3p n h) (a.lst x G n h),λx h=>a.dom x (b.dom x h)⟩;rcases dw.mp m with q|q
 .exact h1 x q
 .exact a.dom x (h2 x q)
structure LeX(ι:Io)(H:Hp)(ι':Io)(H':Hp):Prop where
 ext:∃Y,ι'.l=ι.l++Y/\∀a∈Y,H a=none
 del:∀a∈ι'.δ,a∈ι.δ\/H a=none
 tup:∀a vs,H a=some (.tup vs)->H' a=some (.tup vs)
 Ow:∀a o u,H a=some (.Ow o u)->H' a=some (.Ow o u)
 lst:∀a vs,a∉ι.l->H a=some (.lst vs)->H' a=some (.lst vs)
def Le.toX(l:Le G H Z H'):LeX G H Z H':=⟨l.ext,λa h=>.inl (by rw[<-l.del];exact h),l.tup,l.Ow,l.lst⟩
def LeX.get(l:LeX G H Z U){n:Nat}(h:G.l[n]?=some a):Z.l[n]?=some a:=by obtain⟨Y,e,_⟩:=l.ext;rw[e,dq (ak.mp h).1];exact h
def LeX.out(l:LeX R H G H')(h:R.off a)(Z:H a=some o):G.off a:=by
 obtain⟨Y,e,U⟩:=l.ext;refine⟨λm=>?_,λm=>?_⟩
 .rw[e]at m
  rcases dw.mp m with q|q
  .exact h.1 q
  .rw[U a q]at Z;cases Z
 .rcases l.del a m with q|q
  .exact h.2 q
  .rw[q]at Z;cases Z
structure Tr(K:Fg)(ι:Io)(H:Hp)(ι':Io)(H':Hp):Prop where
 tup:∀a vs,H a=some (.tup vs)->H' a=some (.tup vs)
 vl:∀a vs,H a=some (.lst vs)->ι.off a->H' a=some (.lst vs)/\ι'.off a
 fz:∀a vs,aca K H a vs->aca K H' a vs
 rf:∀(n:Nat) a,ι.l[n]?=some a->ι'.l[n]?=some a
mutual
theorem Rep.tr{K:Fg}{G Z:Io}{H U:Hp}(l:Tr K G H Z U):∀{d:Dv}{v:V},Rep K G H d v->Rep K Z U d v
 |_,_,.non=>.non|_,_,.bl b=>.bl b|_,_,.int i=>.int i|_,_,.str s=>.str s|_,_,.tup e r=>.tup (l.tup _ _ e) (o4.tr l r)|_,_,.vl e n r=>.vl (l.vl _ _ e n).1 (l.vl _ _ e n).2 (o4.tr l r)|_,_,.fz e r=>.fz (l.fz _ _ e) (o4.tr l r)|_,_,.ref e=>.ref (l.rf _ _ e)
theorem o4.tr{K:Fg}{ι Z:Io}{H U:Hp}(l:Tr K ι H Z U):∀{G:List Dv}{R:List V},o4 K ι H G R->o4 K Z U G R
 |_,_,.nil=>.nil|_,_,.cons h t=>.cons (Rep.tr l h) (o4.tr l t)
end
def LeX.tr(l:LeX G H Z H'):Tr K G H Z H':=⟨l.tup,λa U e n=>⟨l.lst _ _ n.1 e,l.out n e⟩,λa U e=>by
 rcases e with⟨o,e⟩|e
 .exact .inl ⟨o,l.Ow _ _ _ e⟩
 .exact .inr e,λ_ _ e=>l.get e⟩
def Rep.Nf(l:LeX G H Z U)(r:Rep K G H d v):Rep K Z U d v:=r.tr l.tr
def o4.Nf(l:LeX G H Z U)(r:o4 K G H ds vs):o4 K Z U ds vs:=r.tr l.tr
def Rep.mono(l:Le G H Z U)(r:Rep K G H d v):Rep K Z U d v:=r.Nf l.toX
def o4.mono(l:Le G H Z U)(r:o4 K G H ds vs):o4 K Z U ds vs:=r.Nf l.toX
theorem o4.length{K:Fg}{U:Io}{H:Hp}:∀{Z:List Dv}{G:List V},o4 K U H Z G->Z.length=G.length:=by intro A B h;induction A generalizing B with|nil=>cases h;rfl|cons d A ih=>cases h with|cons _ t=>rw[gn,gn,ih t]
theorem o4.get{K:Fg}{U:Io}{H:Hp}:∀{Z:List Dv}{G:List V}{i:Nat}{d:Dv},o4 K U H Z G->Z[i]?=some d->∃v,G[i]?=some v/\Rep K U H d v
 |_,_,_,_,.nil,e=>by simp at e|_,_,0,_,.cons h _,e=>by simp at e;subst e;exact⟨_,rfl,h⟩
 |_,_,i+1,d,.cons _ t,e=>by
  obtain⟨v,R,h2⟩:=o4.get (i:=i) t (by simpa using e);exact⟨v,by simpa using R,h2⟩
theorem o4.set{K:Fg}{Z:Io}{H:Hp}{d:Dv}{v:V}(r:Rep K Z H d v):∀{G:List Dv}{U:List V}(i:Nat),o4 K Z H G U->o4 K Z H (G.set i d) (U.set i v)
 |_,_,_,.nil=>.nil|_,_,0,.cons _ t=>.cons r t|_,_,i+1,.cons h t=>.cons h (o4.set r i t)
theorem o4.append{K:Fg}{Z:Io}{H:Hp}:∀{G U:List Dv}{vs R:List V},o4 K Z H G vs->o4 K Z H U R->o4 K Z H (G++U) (vs++R):=by intro A _ B _ h r;induction A generalizing B with|nil=>cases h;exact r|cons d A ih=>cases h with|cons h t=>exact .cons h (ih t)
theorem o4.drop{K:Fg}{G:Io}{H:Hp}:∀{Z:List Dv}{U:List V}(n:Nat),o4 K G H Z U->o4 K G H (Z.drop n) (U.drop n)
 |_,_,0,r=>r|_,_,_+1,.nil=>.nil|_,_,n+1,.cons _ t=>o4.drop n t
theorem o4.take{K:Fg}{G:Io}{H:Hp}:∀{Z:List Dv}{U:List V}(n:Nat),o4 K G H Z U->o4 K G H (Z.take n) (U.take n)
 |_,_,0,_=>.nil|_,_,_+1,.nil=>.nil|_,_,n+1,.cons h t=>.cons h (o4.take n t)
theorem o4.eraseIdx{K:Fg}{G:Io}{H:Hp}:∀{Z:List Dv}{U:List V}(n:Nat),o4 K G H Z U->o4 K G H (Z.eraseIdx n) (U.eraseIdx n)
 |_,_,_,.nil=>.nil|_,_,0,.cons _ t=>t|_,_,n+1,.cons h t=>.cons h (o4.eraseIdx n t)
theorem o4.ints{K:Fg}{G:Io}{H:Hp}:∀(Z:Xs),o4 K G H (Z.map MW.D.int) (Z.map V.int)
 |[]=>.nil|n::r=>.cons (.int n) (o4.ints r)
structure Nm where
 cls:Nat->Option Addr
 fld:Nat->Str
 inj:∀i j,fld i=fld j->i=j
inductive ud{κ κ':Type}(K:Fg)(ι:Io)(H:Hp)(f:κ->κ'->Prop):List (κ×Dv)->List (κ'×V)->Prop
 |nil:ud K ι H f [] []
 |cons {k:κ} {k':κ'} {d:Dv} {v:V} {l:List (κ×Dv)} {l':List (κ'×V)} (hk:f k k') (h:Rep K ι H d v) (t:ud K ι H f l l'):ud K ι H f ((k,d)::l) ((k',v)::l')
theorem ud.tr{U Z:Type}{f:U->Z->Prop}(t:Tr K ι H G R){l:List (U×Dv)}{l':List (Z×V)}(h:ud K ι H f l l'):ud K G R f l l':=by
 induction h with
 |nil=>exact .nil|cons k h _ ih=>exact .cons k (h.tr t) ih
def ud.mono(le:Le G H Z U)(h:ud K G H f l l'):ud K Z U f l l':=h.tr le.toX.tr
def Hi(U:Nm)(K:Fg)(G:Io)(H:Hp)(o:MO)(a:Addr):Prop:=
 match o with
 |.lst ds=>∃R,H a=some (.lst R)/\o4 K G H ds R|.dT ie=>∃l,H a=some (.dT l)/\ud K G H (λk Z=>k=Z) ie l
 |.dK ie=>∃l,H a=some (.dK l)/\ud K G H (λk Z=>k=Z) ie l
 |.ins c fs=>∃C dx l,U.cls c=some C/\H a=some (.ins C dx l)/\ud K G H (λk Z=>Z=U.fld k) fs l
structure km(nm:Nm)(K:Fg)(ι:Io)(H:Hp)(M:di):Prop where
 len:ι.l.length=M.length
 nd:ι.l.Nodup
 del:∀a∈ι.δ,a∉ι.l/\∃vs,H a=some (.lst vs)
 obj:∀(n:Nat)(o:MO)(a:Addr),M[n]?=some o->ι.l[n]?=some a->Hi nm K ι H o a
theorem Hi.some(h:Hi nm K ι H o a):∃u,H a=some u/\Mut (H a):=by
 cases o with
 |lst U=>obtain⟨Z,e,_⟩:=h;exact⟨_,e,by rw[e];trivial⟩
 |dT G=>obtain⟨Z,e,_⟩:=h;exact⟨_,e,by rw[e];trivial⟩
 |dK G=>obtain⟨Z,e,_⟩:=h;exact⟨_,e,by rw[e];trivial⟩
 |ins c fs=>obtain⟨C,R,l,_,e,_⟩:=h;exact⟨_,e,by rw[e];trivial⟩
def km.addr(S:km nm K Z H M){n:Nat}(h:M[n]?=some o):∃a,Z.l[n]?=some a/\Hi nm K Z H o a:=by
 have G:n < Z.l.length:=by rw[S.len];exact MW.yo h
 exact⟨Z.l[n],by simp[G],S.obj n o _ h (by simp[G])⟩
def km.mem(S:km nm K Z H M)(h:a∈Z.l):∃u,H a=some u/\Mut (H a):=by
 obtain⟨n,G,rfl⟩:=qm h;have U:n<M.length:=by rw[<-S.len];exact G
 exact(S.obj n M[n] Z.l[n] (by simp[U]) (by simp[G])).some
def km.fresh(S:km nm K Z H M)(h:H a=none):Z.off a:=by
 refine⟨λm=>?_,λm=>?_⟩
 .obtain⟨u,e,_⟩:=S.mem m
  rw[h]at e;cases e
 .obtain⟨_,G,e⟩:=S.del a m
  rw[h]at e;cases e
theorem Hi.tr(h:Hi nm K ι H o a)(t:Tr K ι H G U)(e:U a=H a):Hi nm K G U o a:=by
 cases o with
 |lst ds=>obtain⟨Z,q,r⟩:=h;exact⟨Z,e.trans q,r.tr t⟩
 |dT R=>obtain⟨Z,q,r⟩:=h;exact⟨Z,e.trans q,r.tr t⟩
 |dK R=>obtain⟨Z,q,r⟩:=h;exact⟨Z,e.trans q,r.tr t⟩
 |ins c fs=>obtain⟨C,dx,l,hc,q,r⟩:=h;exact⟨C,dx,l,hc,e.trans q,r.tr t⟩
def Hi.move(h:Hi nm K U H o a)(le:Le U H Z G)(e:G a=H a):Hi nm K Z G o a:=h.tr le.toX.tr e
def km.laid(S:km nm K Z H M)(h:H p=none)(o:HO):km nm K Z (upd H p o) M/\Le Z H Z (upd H p o):=by
 have G:∀a u,H a=some u->a≠p:=λa u e=>m5 e h
 have le:Le Z H Z (upd H p o):=⟨⟨[],by simp,by simp⟩,rfl,λa U e=>by rw[my (G a _ e)];exact e,λa _ u e=>by rw[my (G a _ e)];exact e,λa U _ e=>by rw[my (G a _ e)];exact e,
  λa h'=>Hs (λb u e=>⟨u,by rw[my (G b _ e)];exact e⟩) h'⟩
 refine⟨⟨S.len,S.nd,λa R=>?_,λn o' a hn R=>?_⟩,le⟩
 .obtain⟨h1,U,h2⟩:=S.del a R
  exact⟨h1,U,le.lst a U h1 h2⟩
 .have q:=S.obj n o' a hn R
  obtain⟨u,e,_⟩:=q.some;exact q.move le (by rw[my (G a u e)])
def Cq{Z:Type}{l:List Z}{x y:Z}(h:(l++[x])[n]?=some y):(l[n]?=some y)\/(n=l.length/\y=x):=by
 rcases yg n l.length with q|q
 .rw[dq q]at h;exact .inl h
 .rw[il q]at h
  have:n-l.length=0:=by
   rcases Nat.eq_zero_or_pos (n-l.length)with z|z
   .exact z
   .rw[kh (by simp;exact z)]at h;cases h
  rw[this]at h;simp at h;exact .inr ⟨by lia,h.symm⟩
def km.new(S:km nm K Z H M)(h:H p=none)(G:∀a u,H a=some u->H' a=some u)(ho:Le Z H (Z.add p) H'->Hi nm K (Z.add p) H' o p):km nm K (Z.add p) H' (M++[o])/\Le Z H (Z.add p) H':=by
 have le:Le Z H (Z.add p) H':=⟨⟨[p],rfl,by simpa using h⟩,rfl,λa R e=>G _ _ e,λa _ u e=>G _ _ e,λa R _ e=>G _ _ e,λa h'=>Hs (H:=H) (H':=H') (λb u e=>⟨u,G b u e⟩) h'⟩;refine⟨⟨by simp[Io.add,S.len],?_,λa U=>?_,λn o' a hn U=>?_⟩,le⟩
 .exact yu.mpr ⟨S.nd,by simp,by
   intro x hx y hy;have:y=p:=by simpa using hy
   subst this;intro e;subst e;exact(S.fresh h).1 hx⟩
 .obtain⟨h1,R,h2⟩:=S.del a U
  exact⟨le.a3p h1 h2,R,G _ _ h2⟩
 .rcases Cq hn with q|⟨q,rfl⟩
  .rcases Cq U with r|⟨r,_⟩
   .have z:=S.obj n o' a q r
    obtain⟨u,e,_⟩:=z.some;exact z.move le ((G a u e).trans e.symm)
   .exact absurd (MW.yo q) (by rw[r,S.len];exact j9 _)
  .rcases Cq U with r|⟨_,rfl⟩
   .exact absurd (ak.mp r).1 (by rw[q,S.len];exact j9 _)
   .exact ho le
def km.put(S:km nm K G H M)(hn:M[n]?=some qq)(ha:G.l[n]?=some a)(ho:Le G H G (upd H a u)->Hi nm K G (upd H a u) o a):km nm K G (upd H a u) (M.set n o)/\Le G H G (upd H a u):=by
 obtain⟨qj,qk,Z⟩:=(S.obj n qq a hn ha).some;have hm:a∈G.l:=ao ha;have le:Le G H G (upd H a u):=⟨⟨[],by simp,by simp⟩,rfl,λb vs e=>by rw[my (λz=>by subst z;rw[e]at Z;exact Z)];exact e,
  λb _ _ e=>by rw[my (λz=>by subst z;rw[e]at Z;exact Z)];exact e,λb vs nb e=>by rw[my (λz=>by subst z;exact nb hm)];exact e,λb h'=>Hs (λc w e=>by
   by_cases z:c=a
   .exact⟨u,by rw[z,xf]⟩
   .exact⟨w,by rw[my z];exact e⟩) h'⟩
 refine⟨⟨by rw[List.length_set];exact S.len,S.nd,λb R=>?_,λm o' b U R=>?_⟩,le⟩
 .obtain⟨h1,vs,h2⟩:=S.del b R
  exact⟨h1,vs,le.lst b vs h1 h2⟩
 by_cases q:m=n
 .subst q
  rw[MW.w6 hn]at U;cases U;rw[ha]at R;cases R;exact ho le
 .rw[MW.um (j0 q)]at U
  have z:=S.obj m o' b U R;have nb:b≠a:=λe=>by subst e;obtain⟨l1,e1⟩:=ak.mp R;obtain⟨l2,e2⟩:=ak.mp ha;exact q ((Ay S.nd).mp (e1.trans e2.symm))
  exact z.move le (by rw[my nb])
def awl(Z:H D=none):Tr K G H (G.hide D) (upd H D o):=
 have k:∀{a u},H a=some u->upd H D o a=some u:=λe=>by rw[my (m5 e Z)];exact e
 ⟨λ_ _ e=>k e,λa U e n=>⟨k e,n.1,λm=>by
  rcases cu.mp m with q|q
  .exact m5 e Z q
  .exact n.2 q⟩,λ_ _ e=>e.imp (λ⟨q,e⟩=>⟨q,k e⟩) id,λ_ _ e=>e⟩
def ajp(Z:H D=some (.lst R))(hm:D∈G.δ):Tr K G H G (upd H D (.lst U)):=
 have k:∀{a u},a≠D->H a=some u->upd H D (.lst U) a=some u:=λn e=>by rw[my n];exact e
 ⟨λ_ _ e=>k (apc e Z (by intro z;cases z)) e,λa R e n=>⟨k (λz=>by subst z;exact n.2 hm) e,n⟩,λ_ _ e=>e.imp (λ⟨q,e⟩=>⟨q,k (apc e Z (by intro z;cases z)) e⟩) id,λ_ _ e=>e⟩
def Io.show(Z:Io)(H:Hp)(D:Addr):Tr K (Z.hide D) H Z H:=⟨λ_ _ e=>e,λ_ _ e n=>⟨e,n.1,λm=>n.2 (bc _ m)⟩,λ_ _ e=>e,λ_ _ e=>e⟩
theorem Rep.show(r:Rep K (Z.hide D) H d v):Rep K Z H d v:=r.tr (Z.show H D)
theorem o4.show(r:o4 K (Z.hide D) H d v):o4 K Z H d v:=r.tr (Z.show H D)
theorem km.hide(S:km nm K ι H M)(Z:H D=none):km nm K (ι.hide D) (upd H D (.lst [])) M:=by
 refine⟨S.len,S.nd,λa G=>?_,λn o a hn G=>?_⟩
 .rcases cu.mp G with q|q
  .subst q;exact⟨(S.fresh Z).1,[],xf⟩
  .obtain⟨R,vs,U⟩:=S.del a q
   exact⟨R,vs,by rw[my (m5 U Z)];exact U⟩
 .have z:=S.obj n o a hn G
  obtain⟨u,e,_⟩:=z.some;exact z.tr (awl Z) (by rw[my (m5 e Z)])
def km.grow(S:km nm K R H M)(hD:H D=some (.lst vs))(U:D∈R.δ):km nm K R (upd H D (.lst ws)) M:=by
 refine⟨S.len,S.nd,λa Z=>?_,λn o a hn Z=>?_⟩
 .obtain⟨G,us,h2⟩:=S.del a Z
  by_cases z:a=D
  .subst z;exact⟨G,ws,xf⟩
  .exact⟨G,us,by rw[my z];exact h2⟩
 .have z:=S.obj n o a hn Z
  have ne:a≠D:=λe=>by subst e;exact(S.del a U).1 (ao Z)
  exact z.tr (ajp hD U) (by rw[my ne])
theorem km.show(S:km nm K (G.hide D) H M):km nm K G H M:=
 ⟨S.len,S.nd,λa Z=>S.del a (bc _ Z),λn o a U Z=>(S.obj n o a U Z).tr (G.show H D) rfl⟩
structure LeD(D:Addr)(ι:Io)(H:Hp)(ι':Io)(H':Hp):Prop where
 ext:∃Y,ι'.l=ι.l++Y/\∀a∈Y,H a=none
 del:ι'.δ=D::ι.δ
 tup:∀a vs,H a=some (.tup vs)->H' a=some (.tup vs)
 Ow:∀a o u,H a=some (.Ow o u)->H' a=some (.Ow o u)
 lst:∀a vs,a∉ι.l->H a=some (.lst vs)->H' a=some (.lst vs)
 dom:∀a,H' a=none->H a=none
def LeD.toX(l:LeD D U H Z H')(G:H D=none):LeX U H Z H':=⟨l.ext,λa h=>by
 rw[l.del]at h;rcases cu.mp h with q|q
 .exact .inr (by rw[q];exact G)
 .exact .inl q,l.tup,l.Ow,l.lst⟩
def LeD.start(Z:H D=none)(o:HO):LeD D R H (R.hide D) (upd H D o):=
 ⟨⟨[],by simp[Io.hide],by simp⟩,rfl,λa U e=>by rw[my (m5 e Z)];exact e,λa _ _ e=>by rw[my (m5 e Z)];exact e,λa U _ e=>by rw[my (m5 e Z)];exact e,
  λa G=>Hs (λb u e=>⟨u,by rw[my (m5 e Z)];exact e⟩) G⟩
def LeD.go(a:LeD D ι H U H1)(b:Le U H1 R H2):LeD D ι H R H2:=by
 obtain⟨Y,e1,h1⟩:=a.ext;obtain⟨Z,e2,h2⟩:=b.ext;have out:∀x o,x∉ι.l->H x=some o->x∉U.l:=λx o n h m=>by
  rw[e1]at m;rcases dw.mp m with q|q
  .exact n q
  .rw[h1 x q]at h;cases h
 refine⟨⟨Y++Z,by rw[e2,e1,yq],λx m=>?_⟩,b.del.trans a.del,λx G h=>b.tup x G (a.tup x G h),λx o u h=>b.Ow x o u (a.Ow x o u h),λx G n h=>b.lst x G (out x _ n h) (a.lst x G n h),λx h=>a.dom x (b.dom x h)⟩;rcases dw.mp m with q|q
 .exact h1 x q
 .exact a.dom x (h2 x q)
def LeD.grow(a:LeD D ι H G R)(U:H D=none)(hD:R D=some (.lst vs)):LeD D ι H G (upd R D (.lst ws)):=
 ⟨a.ext,a.del,λx Z h=>by rw[my (m5 h U)];exact a.tup x Z h,λx o u h=>by rw[my (m5 h U)];exact a.Ow x o u h,λx Z n h=>by rw[my (m5 h U)];exact a.lst x Z n h,
  λx h=>a.dom x (by
   by_cases z:x=D
   .rw[z,xf]at h;cases h
   .rw[my z]at h;exact h)⟩
def LeD.done(a:LeD D G H ⟨Z.l,D::Z.δ⟩ H1):Le G H Z H1:=
 ⟨a.ext,(List.cons.inj a.del).2,a.tup,a.Ow,a.lst,a.dom⟩
inductive u9(K:Fg)(ι:Io)(H:Hp):En->St->Prop
 |nil:u9 K ι H [] []
 |skp {y:Option V} {ρ:En} {σ:St} (t:u9 K ι H ρ σ):u9 K ι H (none::ρ) (y::σ)
 |has {d:Dv} {v:V} {ρ:En} {σ:St} (h:Rep K ι H d v) (t:u9 K ι H ρ σ):u9 K ι H (some d::ρ) (some v::σ)
theorem u9.Nf{K:Fg}{ι Z:Io}{H U:Hp}(le:LeX ι H Z U):∀{R:En}{G:St},u9 K ι H R G->u9 K Z U R G:=by intro _ _ h;induction h with|nil=>exact .nil|skp t ih=>exact .skp ih|has h t ih=>exact .has (h.Nf le) ih
theorem u9.mono{K:Fg}{ι Z:Io}{H U:Hp}(le:Le ι H Z U):∀{R:En}{G:St},u9 K ι H R G->u9 K Z U R G:=by intro _ _ h;induction h with|nil=>exact .nil|skp t ih=>exact .skp ih|has h t ih=>exact .has (h.mono le) ih
theorem u9.get{K:Fg}{ι:Io}{H:Hp}:∀{R:En}{U:St}{i:Nat}{d:Dv},u9 K ι H R U->R[i]?=some (some d)->∃v,U[i]?=some (some v)/\Rep K ι H d v
 |_,_,_,_,.nil,e=>by simp at e|_,_,0,_,.skp _,e=>by simp at e|_,_,0,_,.has h _,e=>by simp at e;subst e;exact⟨_,rfl,h⟩
 |_,_,i+1,d,.skp t,e=>by
  obtain⟨v,Z,G⟩:=u9.get (i:=i) t (by simpa using e);exact⟨v,by simpa using Z,G⟩
 |_,_,i+1,d,.has _ t,e=>by
  obtain⟨v,Z,G⟩:=u9.get (i:=i) t (by simpa using e);exact⟨v,by simpa using Z,G⟩
theorem u9.set{K:Fg}{Z:Io}{H:Hp}{d:Dv}{v:V}(r:Rep K Z H d v):∀{U:En}{G:St}(i:Nat),u9 K Z H U G->u9 K Z H (U.set i (some d)) (G.set i (some v))
 |_,_,_,.nil=>.nil|_,_,0,.skp t=>.has r t|_,_,0,.has _ t=>.has r t|_,_,i+1,.skp t=>.skp (u9.set r i t)|_,_,i+1,.has h t=>.has h (u9.set r i t)
theorem u9.length{K:Fg}{U:Io}{H:Hp}:∀{G:En}{Z:St},u9 K U H G Z->G.length=Z.length:=by intro _ _ h;induction h with|nil=>rfl|skp _ ih=>rw[gn,gn,ih]|has _ _ ih=>rw[gn,gn,ih]
theorem u9.append{K:Fg}{U:Io}{H:Hp}:∀{ρ Z:En}{R G:St},u9 K U H ρ R->u9 K U H Z G->u9 K U H (ρ++Z) (R++G):=by intro _ _ _ _ h r;induction h with|nil=>exact r|skp t ih=>exact .skp ih|has h t ih=>exact .has h ih
theorem u9.aqi{K:Fg}{G:Io}{H:Hp}:∀(k:Nat){Z:St},Z.length=k->u9 K G H (List.replicate k none) Z
 |0,[],_=>.nil|k+1,_::r,h=>.skp (u9.aqi k (by simpa using h))
theorem u9.aqj{K:Fg}{G:Io}{H:Hp}:∀{Z:List Dv}{U:List V},o4 K G H Z U->u9 K G H (Z.map some) (U.map some)
 |_,_,.nil=>.nil|_,_,.cons h t=>.has h (u9.aqj t)
def fc{r:Res α}(h:r.bind f=.ok b M):∃a Z,r=.ok a Z/\f a Z=.ok b M:=by
 cases r with
 |ok a Z=>exact⟨a,Z,rfl,h⟩|bad=>cases h
def vz(h:Res.ux o M=.ok a Z):o=some a/\Z=M:=by
 cases o with
 |none=>cases h|some x=>cases h;exact⟨rfl,rfl⟩
def PE.weak(h:PE X e t)(w:∀G H Q,t' G H Q->t G H Q):PE X e t':=λZ s G H Q I q=>h Z s G H Q I (w G H Q q)
def PT.weak(h:PT X e t)(w:∀G H Q,t' G H Q->t G H Q):PT X e t':=λZ s G H Q I q=>h Z s G H Q I (w G H Q q)
def PA.weak(h:PA X U t)(w:∀G H Q,t' G H Q->t G H Q):PA X U t':=λpos Z s G H Q I q=>h pos Z s G H Q I (w G H Q q)
def PS.weak(h:PS X e t)(w:∀D G H,t' D G H->t D G H):PS X e t':=λZ s G H D I q=>h Z s G H D I (w D G H q)
def Sy.weak(h:Sy X e t)(w:∀D G H,t' D G H->t D G H):Sy X e t':=λZ s G H D I q=>h Z s G H D I (w D G H q)
def Dk.weak(h:Dk X f r)(w:∀x y H Q,r' x y H Q->r x y H Q):Dk X f r':=λZ s R H x y v u Q I G U q=>h Z s R H x y v u Q I G U (w x y H Q q)
section
variable(nm:Nm)(W:Jm)(K:Fg)
def tE(e:Ex):TE:=fun σ H Q=>∃U ρ M d R,km nm K U H M/\u9 K U H ρ σ/\e.den W ρ M=.ok d R/\∀Z G v,Le U H Z G->km nm K Z G R->Rep K Z G d v->Q v G
def tQ(e:Ex):TT:=fun σ H Q=>∃U ρ M b R,km nm K U H M/\u9 K U H ρ σ/\e.den W ρ M=.ok (.bl b) R/\∀Z G,Le U H Z G->km nm K Z G R->Q b G
def Yb(es:Df):TA:=fun σ H Q=>∃U ρ M R M',km nm K U H M/\u9 K U H ρ σ/\es.den W ρ M=.ok R M'/\∀Z G vs,Le U H Z G->km nm K Z G M'->o4 K Z G R vs->Q vs G
def Yc(D:Ends)(ι:Io)(H:Hp)(R:MW.Flow)(ρ:En)(M:di):Prop:=
 ∀G U Z,Le ι H G U->km nm K G U M->u9 K G U ρ Z ->
  match R with
  |.next=>D.nx Z U|.brk=>D.bk Z U|.cont=>D.ct Z U|.ret d=>∀v,Rep K G U d v->D.rt v U
def tS(st:Ce):TS:=λD σ H=>∃G ρ M R Z U,km nm K G H M/\u9 K G H ρ σ/\st.den W ρ M=.ok (R,Z) U/\Yc nm K D G H R Z U
def tSs(st:mz):TS:=λD σ H=>∃G ρ M R Z U,km nm K G H M/\u9 K G H ρ σ/\st.den W ρ M=.ok (R,Z) U/\Yc nm K D G H R Z U
end
def PE.of(h:PE X a t)(w:∀U H Q G ρ M d M',km nm X.K G H M->u9 X.K G H ρ U->e'.den W ρ M=.ok d M'->(∀Z H' v,Le G H Z H'->km nm X.K Z H' M'->Rep X.K Z H' d v->Q v H')->t U H Q):PE X a (tE nm W X.K e'):=PE.weak h λU H Q z_=>by obtain⟨G,ρ,M,d,M',S,R,e,q⟩:=z_;exact w U H Q G ρ M d M' S R e q
def PT.of(h:PT X a t)(w:∀U H Q G ρ M b M',km nm X.K G H M->u9 X.K G H ρ U->e'.den W ρ M=.ok (.bl b) M'->(∀Z H',Le G H Z H'->km nm X.K Z H' M'->Q b H')->t U H Q):PT X a (tQ nm W X.K e'):=PT.weak h λU H Q z_=>by obtain⟨G,ρ,M,d,M',S,R,e,q⟩:=z_;exact w U H Q G ρ M d M' S R e q
def PA.of(h:PA X es t)(w:∀U H Q G ρ M ds M',km nm X.K G H M->u9 X.K G H ρ U->qq.den W ρ M=.ok ds M'->(∀Z H' vs,Le G H Z H'->km nm X.K Z H' M'->o4 X.K Z H' ds vs->Q vs H')->t U H Q):PA X es (Yb nm W X.K qq):=PA.weak h λU H Q z_=>by obtain⟨G,ρ,M,d,M',S,R,e,q⟩:=z_;exact w U H Q G ρ M d M' S R e q
def PS.of(h:PS X st t)(w:∀D U H G ρ M fl Z M',km nm X.K G H M->u9 X.K G H ρ U->s'.den W ρ M=.ok (fl,Z) M'->Yc nm X.K D G H fl Z M'->t D U H):PS X st (tS nm W X.K s'):=PS.weak h λD U H z_=>by obtain⟨G,ρ,M,fl,Z,M',S,R,e,q⟩:=z_;exact w D U H G ρ M fl Z M' S R e q
def Sy.of(h:Sy X st t)(w:∀D U H G ρ M fl Z M',km nm X.K G H M->u9 X.K G H ρ U->s'.den W ρ M=.ok (fl,Z) M'->Yc nm X.K D G H fl Z M'->t D U H):Sy X st (tSs nm W X.K s'):=Sy.weak h λD U H z_=>by obtain⟨G,ρ,M,fl,Z,M',S,R,e,q⟩:=z_;exact w D U H G ρ M fl Z M' S R e q
def one{X:Cx}{M1:di}(S:km nm X.K ι H M)(R:u9 X.K ι H ρ σ)(ha:a'.den W ρ M=.ok x M1)(h:∀Z U v,Le ι H Z U->km nm X.K Z U M1->u9 X.K Z U ρ σ->Rep X.K Z U x v->G v U):tE nm W X.K a' σ H G:=
 ⟨ι,ρ,M,x,M1,S,R,ha,λqq H' v le S' r=>h qq H' v le S' (R.mono le) r⟩
theorem two{X:Cx}{M1 M2:di}{G:V->V->Hp->Prop}(S:km nm X.K ι H M)(R:u9 X.K ι H U σ)(ha:a'.den W U M=.ok x M1)(hb:b'.den W U M1=.ok y M2)(h:∀Z H2 v u,Le ι H Z H2->km nm X.K Z H2 M2->u9 X.K Z H2 U σ->Rep X.K Z H2 x v->Rep X.K Z H2 y u->G v u H2) :
 tE nm W X.K a' σ H λv H1=>tE nm W X.K b' σ H1 λu H2=>G v u H2:=
 one S R ha λqq H1 v Wh S1 R1 r1=>one S1 R1 hb λZ H2 u Aj S2 R2 r2=>h Z H2 v u (Wh.trans Aj) S2 R2 (r1.mono Aj) r2
set_option tactic.hygienic true in
def a90(U:X.N[i]?=some n)(L:Vis X.env.scope n)(Y:(n==("__debug__": Str))=false)(Z:(n==("__classdict__": Str))=false):PE X (.Name n pos) (tE nm W X.K (.var i)):=
 PE.of (a1s U L Y Z) λy H Q C ρ M d u S R e q=>by
  rw[MW.aij]at e;split at e
  .rename_i d' Y
   cases e;obtain⟨v,G,J⟩:=R.get Y;exact⟨v,G,q C H v (Le.refl _ _) S J⟩
  .cases e
def a91:PE X (.Constant (.int i) j pos) (tE nm W X.K (.cst (.int i))):=
 PE.of a1t λU H Q Z ρ M d G S R e q=>by rw[MW.La]at e;cases e;exact q Z H _ (Le.refl _ _) S (.int i)
def bgd:PE X (.Constant (.bool i) j pos) (tE nm W X.K (.cst (.bl i))):=
 PE.of a8r λU H Q Z ρ M d G S R e q=>by rw[MW.La]at e;cases e;exact q Z H _ (Le.refl _ _) S (.bl i)
def a92:PE X (.Constant .none j pos) (tE nm W X.K (.cst .non)):=
 PE.of a1u λU H Q Z ρ M d G S R e q=>by rw[MW.La]at e;cases e;exact q Z H _ (Le.refl _ _) S .non
def a93:PE X (.Constant (.str i) j pos) (tE nm W X.K (.cst (.str i))):=
 PE.of a1v λU H Q Z ρ M d G S R e q=>by rw[MW.La]at e;cases e;exact q Z H _ (Le.refl _ _) S (.str i)
def a3q(G:Gl X n)(U:X.mg n=some (.int i t))(Z:(n==("__debug__": Str))=false):PE X (.Name n pos) (tE nm W X.K (.cst (.int i))):=
 PE.of (ai8 (v:=.int i) G U ⟨t,rfl⟩ Z) fun σ H Q ι ρ M d M' S R e q=>by rw[MW.La]at e;cases e;exact q ι H _ (Le.refl _ _) S (.int i)
def rOp(R:Nm)(K:Fg)(f:Dv->Dv->di->Res Dv):R2:=λv u H Q=>∃U M x y d M',km R K U H M/\Rep K U H x v/\Rep K U H y u/\f x y M=.ok d M' /\
 ∀Z G w,Le U H Z G->km R K Z G M'->Rep K Z G d w->Q w G
def Dk.of(h:Dk X f r)(w:∀v u H Q G M x y d M',km nm X.K G H M->Rep X.K G H x v->Rep X.K G H y u->g x y M=.ok d M'->(∀Z U w,Le G H Z U->km nm X.K Z U M'->Rep X.K Z U d w->Q w U)->r v u H Q):Dk X f (rOp nm X.K g):=
 Dk.weak h λv u H Q z_=>by obtain⟨G,M,x,y,d,M',S,rv,R,e,q⟩:=z_;exact w v u H Q G M x y d M' S rv R e q
def a94(ho:Dk X (binaryOp op) (rOp nm X.K (MW.Gp G)))(ha:PE X a (tE nm W X.K a'))(hb:PE X b (tE nm W X.K b')):PE X (.BinOp a op b pos) (tE nm W X.K (.bin G a' b')):=
 PE.of (a87 ho ha hb) fun σ H Q ι ρ M d M' S R e q=>by rw[MW.auz]at e;obtain⟨x,M1,e1,e⟩:=fc e;obtain⟨y,M2,e2,e⟩:=fc e;exact two S R e1 e2 λZ H2 v u le S2 _ rv ru=>⟨Z,M2,x,y,d,M',S2,rv,ru,e,λU H' w Zg S' r=>q U H' w (le.trans Zg) S' r⟩
def a95:Dk X (binaryOp .Sub) (rOp nm X.K (MW.Gp .sub)):=
 Dk.of a2q λv u H Q U M x y d M' S G Z e q=>by obtain⟨i,j,rfl,rfl,R⟩:=MW.agm e (by intro z;cases z);cases G;cases Z;cases R;exact⟨_,_,rfl,rfl,q U H _ (Le.refl _ _) S (.int _)⟩
def awn{g:Int->Int->Int}{P:Int->Int->Prop}[∀i j,Decidable (P i j)](h:Dk X (binaryOp op) r)(hb:∀x y M,MW.Gp G x y M=MW.ii x y (λi j=>if P i j then .ok (.int (g i j)) M else .bad) .bad)(w:∀i j H Q,P i j->Q (.int (g i j)) H->r (.int i) (.int j) H Q):Dk X (binaryOp op) (rOp nm X.K (MW.Gp G)):=
 Dk.of h λv u H Q ι M x y d M' S rv R e q=>by
  rw[hb]at e;obtain⟨i,j,rfl,rfl,Z⟩:=MW.agm e (by intro z;cases z)
  by_cases U:P i j
  .rw[bx U]at Z
   cases rv;cases R;cases Z;exact w i j H Q U (q ι H _ (Le.refl _ _) S (.int _))
  .rw[bw U]at Z;cases Z
def a96:Dk X (binaryOp .Mod) (rOp nm X.K (MW.Gp .mod)):=awn a2s (λ_ _ _=>rfl) λi j H Q h q=>⟨_,_,rfl,rfl,h,q⟩
def a3r:Dk X (binaryOp .FloorDiv) (rOp nm X.K (MW.Gp .fdiv)):=awn av0 (λ_ _ _=>rfl) λi j H Q h q=>⟨_,_,rfl,rfl,h,q⟩
def a97:Dk X (binaryOp .Pow) (rOp nm X.K (MW.Gp .pow)):=awn a2t (λ_ _ _=>rfl) λi j H Q h q=>⟨_,_,rfl,rfl,⟨h.1,by omega,h.2.2⟩,q⟩
set_option tactic.hygienic true in
def uo{X:Cx}(S:km nm X.K Z H M)(r:Rep X.K Z H d v)(h:MW.gm M d=some ds):∃p vs,v=.ref p/\H p=some (.lst vs)/\o4 X.K Z H ds vs:=by
 cases r with
 |vl e n r=>simp[MW.gm]at h;subst h;exact⟨_,_,rfl,e,r⟩
 |ref e =>
  rename_i n p;simp only[MW.gm]at h;split at h<;>simp at h;rename_i U G;subst h;obtain⟨vs,Y,J⟩:=S.obj n _ p G e;exact⟨p,vs,rfl,Y,J⟩
 |_=>simp[MW.gm]at h
def Kz{X:Cx}(S:km nm X.K R H M)(r:Rep X.K R H d v)(h:MW.Bk M d=some ds):∃p vs,v=.ref p/\(H p=some (.lst vs)\/H p=some (.tup vs))/\o4 X.K R H ds vs:=by
 cases r with
 |tup e r=>simp[MW.Bk]at h;subst h;exact⟨_,_,rfl,.inr e,r⟩
 |vl e n r =>
  obtain⟨p,vs,Z,U,G⟩:=uo S (.vl e n r) (show MW.gm M _=_ from h);exact⟨p,vs,Z,.inl U,G⟩
 |ref e =>
  obtain⟨p,vs,Z,U,G⟩:=uo S (.ref e) (show MW.gm M _=_ from h);exact⟨p,vs,Z,.inl U,G⟩
 |_=>simp[MW.Bk,MW.gm]at h
def Yd{X:Cx}(S:km nm X.K Z H M)(U:H p=none)(r:o4 X.K Z H ds G):km nm X.K Z (upd H p (.lst G)) M/\Le Z H Z (upd H p (.lst G))/\Rep X.K Z (upd H p (.lst G)) (.vl ds) (.ref p):=by obtain⟨R,le⟩:=S.laid U (.lst G);exact⟨R,le,.vl xf (S.fresh U) (r.mono le)⟩
def Mf{X:Cx}(S:km nm X.K Z H M)(R:H p=none)(r:o4 X.K Z H ds G):km nm X.K Z (upd H p (.tup G)) M/\Le Z H Z (upd H p (.tup G))/\Rep X.K Z (upd H p (.tup G)) (.tup ds) (.ref p):=by obtain⟨U,le⟩:=S.laid R (.tup G);exact⟨U,le,.tup xf (r.mono le)⟩
def ajq{X:Cx}(S:km nm X.K Z H M)(U:H p=none)(r:o4 X.K Z H ds G):km nm X.K (Z.add p) (upd H p (.lst G)) (M++[.lst ds])/\Le Z H (Z.add p) (upd H p (.lst G))/\Rep X.K (Z.add p) (upd H p (.lst G)) (.ref M.length) (.ref p):=by
 obtain⟨R,le⟩:=S.new (H':=upd H p (.lst G)) (o:=.lst ds) U (λa u e=>by rw[my (m5 e U)];exact e) λle=>⟨G,xf,r.mono le⟩
 exact⟨R,le,.ref (by show(Z.l++[p])[M.length]?=some p;rw[<-S.len];simp)⟩
def Gu:(100000:Nat)<=sizeLine:=by decide
set_option tactic.hygienic true in
def awo(h:MW.Gp .add x y M=.ok d M'):(∃i j,x=.int i/\y=.int j/\d=.int (i+j)/\M'=M) \/
 (∃Z Y,x=.tup Z/\y=.tup Y/\Z.length+Y.length<=100000/\d=.tup (Z++Y)/\M'=M) \/
 ∃Z Y,MW.gm M x=some Z/\MW.gm M y=some Y/\Z.length+Y.length<=100000/\d=.vl (Z++Y)/\M'=M:=by
 have h:MW.aih x y M=.ok d M':=h;unfold MW.aih at h;split at h<;>try cases h
 .exact .inl ⟨_,_,rfl,rfl,rfl,rfl⟩
 .split at h<;>cases h
  rename_i C;exact .inr (.inl ⟨_,_,rfl,rfl,C,rfl,rfl⟩)
 .split at h
  .split at h<;>cases h
   rename_i G J U;exact .inr (.inr ⟨_,_,G,J,U,rfl,rfl⟩)
  .cases h
def a98:Dk X (binaryOp .Mult) (rOp nm X.K (MW.Gp .mul)):=awn a2r (λ_ _ _=>rfl) λi j H Q h q=>⟨_,_,rfl,rfl,h,q⟩
def a99:Dk X (binaryOp .Add) (rOp nm X.K (MW.Gp .add)):=
 Dk.of (a2p.or (a3n.or awf)) λv u H Q ι M x y d M' S rv ru e q=>by
  have Z:∀R ys,MW.gm M x=some R->MW.gm M y=some ys->R.length+ys.length<=100000->d=.vl (R++ys)->M'=M->a9w v u H Q:=λR ys h1 h2 hl hd hm=>by
   subst hd hm;obtain⟨p,vs,rfl,e1,U⟩:=uo S rv h1;obtain⟨p2,qq,rfl,e2,G⟩:=uo S ru h2;refine⟨p,p2,vs,qq,rfl,rfl,e1,e2,?_,λp3 h3=>?_⟩
   .rw[<-U.length,<-G.length];exact dz hl Gu
   .obtain⟨a,b,c⟩:=Yd S h3 (U.append G)
    exact q ι _ _ b a c
  rcases awo e with⟨i,j,rfl,rfl,rfl,rfl⟩|⟨R,ys,rfl,rfl,hl,rfl,rfl⟩|⟨R,ys,h1,h2,hl,h3,h4⟩
  .cases rv;cases ru
   exact .inl ⟨_,_,rfl,rfl,q ι H _ (Le.refl _ _) S (.int _)⟩
  .cases rv with
   |tup e1 U =>
    cases ru with
    |tup e2 G =>
     refine .inr (.inr ⟨_,_,_,_,rfl,rfl,Hl.of e1,Hl.of e2,?_,λhn=>?_,λhn=>?_,λp hp=>?_⟩)
     .rw[<-U.length,<-G.length];exact dz hl Gu
     .have:=U.length
      rw[hn]at this;rw[u0.mp this,wy]at q;exact q ι H _ (Le.refl _ _) S (.tup e2 G)
     .have:=G.length
      rw[hn]at this;rw[u0.mp this,Ah]at q;exact q ι H _ (Le.refl _ _) S (.tup e1 U)
     .obtain⟨a,b,c⟩:=Mf S hp (U.append G)
      exact q ι _ _ b a c
  .exact .inr (.inl (Z _ _ h1 h2 hl h3 h4))
def awp{t:TE}(h:PT X a (λZ H Q=>t Z H λx H1=>∃c,x=.bl c/\Q c H1))(w:∀Z H Q,tE nm W X.K a' Z H Q->t Z H Q):PT X a (tQ nm W X.K a'):=
 PT.of h λZ H Q ι ρ M b M' S R e q=>w Z H _ ⟨ι,ρ,M,_,M',S,R,e,λG U v le S' r=>by cases r;exact⟨b,rfl,q G U le S'⟩⟩
def bab(h:PE X a (tE nm W X.K U))(G:∀Z,isTrue a X.env Z=(do let v<-Z;standAt a.pos;holding [v] (truthy v))):PT X a (tQ nm W X.K U):=
 awp (a1y h G) λ_ _ _ q=>q
def Wi(G:Nm)(K:Fg)(U:Cp):R2:=λv u H Q=>∃Z M x y b,km G K Z H M/\Rep K Z H x v/\Rep K Z H y u/\MW.Fe U x y M=some b/\Q (.bl b) H
def aep{X:Cx}:∀G H Q,tE nm W X.K (.cmp U a' b') G H Q->tOp (Wi nm X.K U) (tE nm W X.K a') (tE nm W X.K b') G H Q:=λG H Q hh=>by obtain⟨ι,ρ,M,d,M',S,R,e,q⟩:=hh;rw[MW.au1]at e;obtain⟨x,M1,e1,e⟩:=fc e;obtain⟨y,M2,e2,e⟩:=fc e;obtain⟨e,rfl⟩:=vz e;obtain⟨b,e3,rfl⟩:=cj.mp e;exact two S R e1 e2 λZ H2 v u le S2 _ rv ru=>⟨Z,M',x,y,b,S2,rv,ru,e3,q Z H2 _ le S2 (.bl b)⟩
def bac(R:Dk X (compareOp op) (Wi nm X.K Z))(ha:PE X a (tE nm W X.K a'))(G:PE X b (tE nm W X.K U))(hm:behindInMarks op b=false):PE X (.Compare a [op] [b] pos) (tE nm W X.K (.cmp Z a' U)):=
 PE.weak (av1 R ha G hm) aep
def bae(ho:Dk X (compareOp op) (Wi nm X.K Z))(ha:PE X a (tE nm W X.K U))(R:PE X b (tE nm W X.K G))(hm:behindInMarks op b=false):PT X (.Compare a [op] [b] pos) (tQ nm W X.K (.cmp Z U G)):=
 awp (t:=tOp (Wi nm X.K Z) (tE nm W X.K U) (tE nm W X.K G)) (av2 ho ha R hm) aep
def Ye{X:Cx}:∀σ H Q,tE nm W X.K (.chain op1 op2 a' b' c') σ H Q->ab2 (Wi nm X.K op1) (Wi nm X.K op2) (tE nm W X.K a') (tE nm W X.K b') (tE nm W X.K c') σ H Q:=fun σ H Q hh=>by
 obtain⟨ι,ρ,M,d,M',S,R,e,q⟩:=hh;rw[MW.alb]at e;obtain⟨x,M1,e1,e⟩:=fc e;obtain⟨y,M2,e2,e⟩:=fc e;obtain⟨k,Z,e3,e⟩:=fc e;obtain⟨e3,rfl⟩:=vz e3;refine two S R e1 e2 λqq H2 v u le S2 R2 rv ru=>⟨qq,Z,x,y,k,S2,rv,ru,e3,k,rfl,?_⟩
 cases k with
 |false =>
  have e:Res.ok (MW.D.bl false) Z=.ok d M':=e;cases e;exact q qq H2 _ le S2 (.bl false)
 |true =>
  have e:((c'.den W ρ Z).bind λz M3=>Res.ux ((MW.Fe op2 y z M3).map MW.D.bl) M3)=.ok d M':=e;obtain⟨z,M3,e4,e⟩:=fc e;obtain⟨e,rfl⟩:=vz e;obtain⟨b,e5,rfl⟩:=cj.mp e;show tE nm W X.K c' σ H2 _;exact one S2 R2 e4 λG H3 w U S3 _ rw=>⟨G,M',y,z,b,S3,ru.mono U,rw,e5,q G H3 _ (le.trans U) S3 (.bl b)⟩
def awq(U:Dk X (compareOp Z) (Wi nm X.K op1))(h2:Dk X (compareOp G) (Wi nm X.K op2))(ha:PE X a (tE nm W X.K a'))(R:PE X b (tE nm W X.K b'))(hc:PE X c (tE nm W X.K c'))(hm:lastMarks [Z,G] [b,c]=false) :
 PE X (.Compare a [Z,G] [b,c] pos) (tE nm W X.K (.chain op1 op2 a' b' c')):=PE.weak (aps U h2 ha R hc hm) Ye
def awr(h1:Dk X (compareOp Z) (Wi nm X.K op1))(h2:Dk X (compareOp G) (Wi nm X.K op2))(ha:PE X a (tE nm W X.K a'))(hb:PE X b (tE nm W X.K U))(hc:PE X c (tE nm W X.K R))(hm:lastMarks [Z,G] [b,c]=false) :
 PT X (.Compare a [Z,G] [b,c] pos) (tQ nm W X.K (.chain op1 op2 a' U R)):=awp (t:=ab2 (Wi nm X.K op1) (Wi nm X.K op2) (tE nm W X.K a') (tE nm W X.K U) (tE nm W X.K R)) (apt h1 h2 ha hb hc hm) Ye
def acb(h:Dk X (compareOp op) (rI0 λi j=>.bl (f i j)))(e:∀x y M,MW.Fe Z x y M=MW.ady f x y):Dk X (compareOp op) (Wi nm X.K Z):=
 Dk.weak h λv u H Q hh=>by obtain⟨ι,M,x,y,b,S,rv,U,G,q⟩:=hh;rw[e]at G;obtain⟨i,j,rfl,rfl,R⟩:=MW.agm G (by intro z;cases z);cases rv;cases U;cases R;exact⟨_,_,rfl,rfl,q⟩
def bgf:Dk X (compareOp .Lt) (Wi nm X.K .lt):=acb a9c λ_ _ _=>rfl
def bgg:Dk X (compareOp .LtE) (Wi nm X.K .le):=acb a9d λ_ _ _=>rfl
def bgh:Dk X (compareOp .Gt) (Wi nm X.K .gt):=acb a9e λ_ _ _=>rfl
def bgi:Dk X (compareOp .GtE) (Wi nm X.K .ge):=acb a9f λ_ _ _=>rfl
set_option tactic.hygienic true in
def azt{Z:Ya}(ha:PE X a (tE nm W X.K L))(hb:PE X (.BoolOp .And (b::Z) pos) (tE nm W X.K b')):PE X (.BoolOp .And (a::b::Z) pos) (tE nm W X.K (.and L b')):=
 PE.of (a2b ha hb) fun σ H Q ι ρ M d M' S R e q=>by
  rw[MW.aik]at e;obtain⟨x,M1,C,e⟩:=fc e;refine one S R C λG y v le J R1 r=>?_
  cases r<;>try cases e
  rename_i k;refine⟨k,rfl,?_⟩;cases k with
  |false=>cases e;exact q G y _ le J (.bl false)|true=>exact one J R1 e λY u w U S2 _ r2=>q Y u w (le.trans U) S2 r2
set_option tactic.hygienic true in
def baf{Z:Ya}(ha:PE X a (tE nm W X.K L))(hb:PE X (.BoolOp .Or (b::Z) pos) (tE nm W X.K b')):PE X (.BoolOp .Or (a::b::Z) pos) (tE nm W X.K (.or L b')):=
 PE.of (a8v ha hb) fun σ H Q ι ρ M d M' S R e q=>by
  rw[MW.aod]at e;obtain⟨x,M1,C,e⟩:=fc e;refine one S R C λG y v le J R1 r=>?_
  cases r<;>try cases e
  rename_i k;refine⟨k,rfl,?_⟩;cases k with
  |true=>cases e;exact q G y _ le J (.bl true)|false=>exact one J R1 e λY u w U S2 _ r2=>q Y u w (le.trans U) S2 r2
def bag(ha:PE X a (tE nm W X.K a')):PE X (.UnaryOp .Not a pos) (tE nm W X.K (.not a')):=
 PE.of (a2c ha) fun σ H Q ι ρ M d M' S R e q=>by
  rw[MW.ail]at e;obtain⟨x,M1,G,e⟩:=fc e;refine one S R G λZ U v le S1 R1 r=>?_
  cases r<;>try cases e
  exact⟨_,rfl,q Z U _ le S1 (.bl _)⟩
def Zq{X:Cx}{M1:di}(S:km nm X.K ι H M)(R:u9 X.K ι H ρ σ)(ha:a'.den W ρ M=.ok (.bl k) M1)(h:∀Z U,Le ι H Z U->km nm X.K Z U M1->u9 X.K Z U ρ σ->G k U):tQ nm W X.K a' σ H G:=
 ⟨ι,ρ,M,k,M1,S,R,ha,λqq H' le S'=>h qq H' le S' (R.mono le)⟩
set_option tactic.hygienic true in
def azu{rest:Ya}(L:PT X a (tQ nm W X.K a'))(hb:PW X (.BoolOp .And (b::rest) pos) (tQ nm W X.K b')):PW X (.BoolOp .And (a::b::rest) pos) (tQ nm W X.K (.and a' b')):=
 λZ Y s σ H Q I ⟨ι,ρ,M,d,M',S,R,e,q⟩=>a2a L hb Z Y s σ H Q I (by
  rw[MW.aik]at e;obtain⟨x,M1,u,e⟩:=fc e;cases x<;>try cases e
  rename_i k;refine Zq S R u λG H1 le U C=>?_
  cases k with
  | false=>cases e;exact q G H1 le U|true=>exact Zq U C e λJ H2 y S2 _=>q J H2 (le.trans y) S2)
set_option tactic.hygienic true in
def bah{rest:Ya}(L:PT X a (tQ nm W X.K a'))(hb:PW X (.BoolOp .Or (b::rest) pos) (tQ nm W X.K b')):PW X (.BoolOp .Or (a::b::rest) pos) (tQ nm W X.K (.or a' b')):=
 λZ Y s σ H Q I ⟨ι,ρ,M,d,M',S,R,e,q⟩=>a8s L hb Z Y s σ H Q I (by
  rw[MW.aod]at e;obtain⟨x,M1,u,e⟩:=fc e;cases x<;>try cases e
  rename_i k;refine Zq S R u λG H1 le U C=>?_
  cases k with
  | true=>cases e;exact q G H1 le U|false=>exact Zq U C e λJ H2 y S2 _=>q J H2 (le.trans y) S2)
def bai(ha:PT X a (tQ nm W X.K a')):PT X (.UnaryOp .Not a pos) (tQ nm W X.K (.not a')):=
 PT.of (api ha) fun σ H Q ι ρ M d M' S R e q=>by
  rw[MW.ail]at e;obtain⟨x,M1,G,e⟩:=fc e;cases x<;>try cases e
  exact Zq S R G λZ U le S1 R1=>q Z U le S1
set_option tactic.hygienic true in
def baj(u:PT X c (tQ nm W X.K c'))(ha:PE X a (tE nm W X.K a'))(hb:PE X b (tE nm W X.K b')):PE X (.IfExp c a b pos) (tE nm W X.K (.ite c' a' b')):=
 PE.of (apj u ha hb) fun σ H Q ι ρ M d M' S R e q=>by
  rw[MW.au2]at e;obtain⟨x,M1,y,e⟩:=fc e;cases x<;>try cases e
  rename_i k;refine Zq S R y λqq H1 le L C=>?_
  cases k with
  |true=>exact one L C e λZ G w Y U _ J=>q Z G w (le.trans Y) U J
  |false=>exact one L C e λZ G w Y U _ J=>q Z G w (le.trans Y) U J
def Vp:PA X [] (Yb nm W X.K .nil):=PA.of a2y λU H Q Z ρ M G M' S R e q=>by rw[MW.Rv]at e;cases e;exact q Z H _ (Le.refl _ _) S .nil
def Yg{X:Cx}{M1:di}(S:km nm X.K ι H M)(R:u9 X.K ι H ρ σ)(ha:es'.den W ρ M=.ok ds M1)(h:∀Z U vs,Le ι H Z U->km nm X.K Z U M1->u9 X.K Z U ρ σ->o4 X.K Z U ds vs->G vs U):Yb nm W X.K es' σ H G:=
 ⟨ι,ρ,M,ds,M1,S,R,ha,λqq H' v le S' r=>h qq H' v le S' (R.mono le) r⟩
def O6(ha:PE X a (tE nm W X.K a'))(hr:PA X G (Yb nm W X.K Z))(hs:starEach (a::G) X.env=(false,eval a X.env)::starEach G X.env):PA X (a::G) (Yb nm W X.K (.cons a' Z)):=
 PA.of (av6 ha hr hs) fun σ H Q ι ρ M ds M' S R e q=>by rw[MW.Kf]at e;obtain⟨x,M1,e1,e⟩:=fc e;obtain⟨xs,M2,e2,e⟩:=fc e;cases e;exact one S R e1 λqq H1 v le S1 R1 r1=>Yg S1 R1 e2 λU H2 vs Aj S2 R2 r2=>q U H2 _ (le.trans Aj) S2 (.cons (r1.mono Aj) r2)
noncomputable def Df.len:Df->Nat
 |.nil=>0|.cons _ r=>Df.len r+1
theorem Gv{W:Jm}:∀{Z:Df}{R:En}{M U:di}{G:List Dv},Z.den W R M=.ok G U->G.length=Df.len Z
 |.nil,_,_,_,_,e=>by rw[MW.Rv]at e;cases e;rfl
 |.cons _ r,_,_,_,_,e=>by
  rw[MW.Kf]at e;obtain⟨x,U,e1,e⟩:=fc e;obtain⟨xs,M2,e2,e⟩:=fc e;cases e;rw[gn,Gv e2];rfl
def bak(h:PA X es (Yb nm W X.K Z))(hl:Df.len Z<=1000):PE X (.Tuple es k pos) (tE nm W X.K (.tup Z)):=
 PE.of (a2z h) fun σ H Q ι ρ M d M' S R e q=>by
  rw[MW.au3]at e;obtain⟨ds,M1,U,e⟩:=fc e;cases e;refine Yg S R U λG H1 vs le S1 R1 r=>⟨?_,λp hp=>?_⟩
  .rw[<-r.length,Gv U];exact dz hl (by decide)
  .obtain⟨S2,Aj,r2⟩:=Mf S1 hp r
   exact q G _ _ (le.trans Aj) S2 r2
def a3t(h:PA X es (Yb nm W X.K Z))(hl:Df.len Z<=1000):PE X (.List es pos) (tE nm W X.K (.K8 Z)):=
 PE.of (apy h) fun σ H Q ι ρ M d M' S R e q=>by
  rw[MW.aoe]at e;obtain⟨ds,M1,U,e⟩:=fc e;cases e;refine Yg S R U λG H1 vs le S1 R1 r=>⟨?_,λp hp=>?_⟩
  .rw[<-r.length,Gv U];exact dz hl (by decide)
  .obtain⟨S2,Aj,r2⟩:=Yd S1 hp r
   exact q G _ _ (le.trans Aj) S2 r2
def bal(h:PA X es (Yb nm W X.K Z))(hl:Df.len Z<=1000):PE X (.List es pos) (tE nm W X.K (.lst Z)):=
 PE.of (apy h) fun σ H Q ι ρ M d M' S R e q=>by
  rw[MW.au4]at e;obtain⟨ds,M1,G,e⟩:=fc e;cases e;refine Yg S R G λqq H1 vs le S1 R1 r=>⟨?_,λp hp=>?_⟩
  .rw[<-r.length,Gv G];exact dz hl (by decide)
  .obtain⟨S2,U,r2⟩:=ajq S1 hp r
   exact q _ _ _ (le.trans U) S2 r2
def bam(ha:PE X a (tE nm W X.K a')):PE X (.UnaryOp .USub a pos) (tE nm W X.K (.neg a')):=
 PE.of (a88 a2u ha) fun σ H Q ι ρ M d M' S R e q=>by
  rw[MW.au0]at e;obtain⟨x,M1,G,e⟩:=fc e;refine one S R G λZ U v le S1 R1 r=>?_
  cases r<;>try cases e
  exact⟨_,rfl,q Z U _ le S1 (.int _)⟩
open PyProof.Rows (subscriptTail)
section
variable{κ:Type}[DecidableEq κ]{K:Fg}{ι:Io}{H:Hp}
theorem ud.length{κ Z:Type}{f:κ->Z->Prop}:∀{l:List (κ×Dv)}{G:List (Z×V)},ud K ι H f l G->l.length=G.length:=by intro _ _ h;induction h with|nil=>rfl|cons _ _ _ ih=>rw[gn,gn,ih]
theorem ud.look{k:κ}:∀{G:List (κ×Dv)}{l:List (κ×V)},ud K ι H (λk U=>k=U) G l->(∀d,MW.v7 G k=some d->∃v,Qd l k=some v/\Rep K ι H d v)/\(MW.v7 G k=none->Qd l k=none)
 |_,_,.nil=>⟨λd h=>by simp[MW.v7]at h,λ_=>rfl⟩
 |_,_,.cons (k:=q) (k':=q') hk h t=>by
  subst hk;obtain⟨a,b⟩:=ud.look (k:=k) t
  by_cases e:q=k
  .refine⟨λd Z=>?_,λZ=>?_⟩
   .simp[MW.v7,qu,e]at Z
    subst Z;exact⟨_,S8 e,h⟩
   .simp[MW.v7,qu,e]at Z
  .have z:∀(d:Dv) r,MW.v7 ((q,d)::r) k=MW.v7 r k:=λd r=>by simp[MW.v7,qu,e]
   rw[z,Tc (by exact e)];exact⟨a,b⟩
theorem ud.any{k:κ}:∀{G:List (κ×Dv)}{l:List (κ×V)},ud K ι H (λk U=>k=U) G l->(G.any λZ=>decide (Z.1=k))=(l.any λZ=>decide (Z.1=k))
 |_,_,.nil=>rfl|_,_,.cons hk h t=>by subst hk;simp only[List.any_cons,ud.any t]
theorem ud.Jb{k:κ}{d:Dv}{v:V}(r:Rep K ι H d v):∀{U:List (κ×Dv)}{l:List (κ×V)},ud K ι H (λk G=>k=G) U l ->
 ud K ι H (λk G=>k=G) (U.map λZ=>if Z.1=k then(Z.1,d)else Z) (l.map λZ=>if Z.1=k then(Z.1,v)else Z)
 |_,_,.nil=>.nil
 |_,_,.cons (k:=q) hk h t=>by
  subst hk;simp only[gr]
  by_cases e:q=k
  .simp only[e,jw];exact .cons rfl r (ud.Jb r t)
  .simp only[e,jg];exact .cons rfl h (ud.Jb r t)
theorem ud.snoc{κ Z:Type}{f:κ->Z->Prop}{k:κ}{G:Z}{d:Dv}{v:V}(R:f k G)(r:Rep K ι H d v):∀{l:List (κ×Dv)}{U:List (Z×V)},ud K ι H f l U->ud K ι H f (l++[(k,d)]) (U++[(G,v)])
 |_,_,.nil=>.cons R r .nil|_,_,.cons q h t=>.cons q h (ud.snoc R r t)
def ud.put{k:κ}(r:Rep K ι H d v)(t:ud K ι H (λk Z=>k=Z) G l):ud K ι H (λk Z=>k=Z) (MW.Cw G k d) (putK l k v):=by
 unfold MW.Cw putK;rw[t.any (k:=k)]
 by_cases e:(l.any λU=>decide (U.1=k))=true
 .rw[bx e,bx e];exact t.Jb r
 .rw[bw e,bw e];exact t.snoc rfl r
theorem ud.fld{nm:Nm}{f:Nat}:∀{fs:List (Nat×Dv)}{l:List (Str×V)},ud K ι H (λk G=>G=nm.fld k) fs l->(∀d,fs.lookup f=some d->∃v,l.lookup (nm.fld f)=some v/\Rep K ι H d v)/\(fs.lookup f=none->l.lookup (nm.fld f)=none)
 |_,_,.nil=>⟨λd h=>by simp at h,λ_=>rfl⟩
 |_,_,.cons (k:=q) (k':=q') hk h t=>by
  subst hk;obtain⟨a,b⟩:=ud.fld (nm:=nm) (f:=f) t;rw[nq,nq]
  by_cases e:f=q
  .subst e
   simp only[zp];exact⟨λd Z=>by cases Z;exact⟨_,rfl,h⟩,λZ=>by cases Z⟩
  .have U:(f==q)=false:=by simpa using e
   have R:(nm.fld f==nm.fld q)=false:=by
    cases z:nm.fld f==nm.fld q with
    |false=>rfl|true=>exact absurd (nm.inj _ _ (eq_of_beq z)) e
   rw[U,R];exact⟨a,b⟩
theorem ud.Jj{Z:Nm}{f:Nat}{d:Dv}{v:V}(r:Rep K ι H d v):∀{fs:List (Nat×Dv)}{l:List (Str×V)},ud K ι H (λk G=>G=Z.fld k) fs l->ud K ι H (λk G=>G=Z.fld k) (MW.U3 f d fs) (L2.Jj (Z.fld f) v l)
 |_,_,.nil=>.cons rfl r .nil
 |_,_,.cons (k:=q) (k':=q') hk h t=>by
  subst hk;unfold MW.U3 L2.Jj
  by_cases e:q=f
  .subst e
   simp only[jw];exact .cons rfl r t
  .have U:¬Z.fld q=Z.fld f:=λz=>e (Z.inj _ _ z)
   rw[bw e,bw U];exact .cons rfl h (ud.Jj r t)
def Yh(r:Rep K ι H d v)(h:MW.V0 d=some k):v=kV k:=by cases r<;>simp[MW.V0]at h<;>subst h<;>rfl
set_option tactic.hygienic true in
theorem aqk:∀{Y:List Dv}{G:List V}{Z:List Kx},o4 K ι H Y G->MW.abd Y=some Z->G=Z.map kV
 |_,_,_,.nil,h=>by simp[MW.abd]at h;subst h;rfl
 |_,_,_,.cons r t,h=>by
  simp only[MW.abd]at h;split at h
  .rename_i k C J U
   cases h;rw[Yh r J,aqk t U];rfl
  .cases h
def acd(r:Rep K ι H d v)(h:MW.V1 d=some Z):∃b,v=.ref b/\H b=some (.tup (Z.map kV)):=by
 cases r with
 |tup e r=>exact⟨_,rfl,by rw[<-aqk r h];exact e⟩|_=>simp[MW.V1]at h
end
def bgj(G:Nm)(K:Fg):R2:=λv u H Q=>∃Z M x y d,km G K Z H M/\Rep K Z H x v/\Rep K Z H y u/\MW.Aw x y M=some d/\∀w,Rep K Z H d w->Q w H
def aql(hu:X.A.units+1<cLine):IxR X (λx y H Q=>∃a v,x=.ref a/\O3 H a y (some v)/\Q v H):=by intro Z G U s σ H x y v u Q I R ry h hs;obtain⟨p,z,rfl,g,q⟩:=h;cases R;exact PyProof.Rows.tail_any (aek I g) PySem.F.slot_dict_getitem.lookup (al4 hu I g ry λw' s' I' r=>⟨z,H,I',r,q⟩) hs
set_option tactic.hygienic true in
def a3u(hu:X.A.units+1<cLine):IxR X (bgj nm X.K):=by
 intro Z Y G s σ H v u v' u' Q I rv ru ⟨ι,M,x,y,d,S,rx,ry,e,q⟩ hs;have C:∀(p:Addr)(U:List V)(ds:List Dv),v=.ref p->(Hq X.K H p U\/Hl X.K H p U)->o4 X.K ι H ds U->(match y with|.int i=>(MW.Zk ds.length i).bind λj=>ds[j]?|_=>none)=some d ->
  wpAny (model X.prog X.w) X.A (subscriptTail Z Y v' u') (EP X G σ Q) X.xe s:=λp U ds hv hq r e=>by
  subst hv;obtain⟨i,qj⟩:∃i,y=.int i:=by cases y<;>first|exact⟨_,rfl⟩|cases e
  subst qj;cases ry;obtain⟨j,J,e2⟩:=gf.mp e;obtain⟨z,R,L⟩:=r.get e2;have qq:atI U i=some z:=by unfold atI;rw[show ixN U.length i=some j from by rw[<-r.length];exact J];exact R
  rcases hq with hq|hq
  .exact L2.Dg Z Y G s σ H _ _ v' u' Q I rv ru ⟨p,U,i,z,rfl,rfl,hq,qq,q z L⟩ hs
  .exact L2.J2 Z Y G s σ H _ _ v' u' Q I rv ru ⟨p,U,i,z,rfl,rfl,hq,qq,q z L⟩ hs
 cases rx with
 |tup J r1=>exact C _ _ _ rfl (.inr (Hl.of J)) r1 (by cases ry<;>first|exact e|(simp[MW.Aw,MW.Bk]at e))
 |vl J n1 r1=>exact C _ _ _ rfl (.inl (Hq.of J)) r1 (by cases ry<;>first|exact e|(simp[MW.Aw,MW.Bk,MW.gm]at e))
 |fz J r1=>exact C _ _ _ rfl (.inl J.sq) r1 (by cases ry<;>first|exact e|(simp[MW.Aw]at e))
 |ref J =>
  rename_i n p;simp only[MW.Aw]at e;split at e
  .rename_i ie hn
   obtain⟨l,R,L⟩:=S.obj n _ p hn J;obtain⟨k,e2,e3⟩:=gf.mp e;obtain⟨z,h3,h4⟩:=(L.look (k:=k)).1 d e3;obtain⟨b,rfl,hb⟩:=acd ry e2;exact aql hu Z Y G s σ H _ _ v' u' Q I rv ru ⟨p,z,rfl,by rw[<-h3];exact O3.t R hb,q z h4⟩ hs
  .rename_i ie hn
   obtain⟨l,R,L⟩:=S.obj n _ p hn J;obtain⟨k,e2,e3⟩:=gf.mp e;obtain⟨z,h3,h4⟩:=(L.look (k:=k)).1 d e3;have hy:=Yh ry e2;subst hy;exact aql hu Z Y G s σ H _ _ v' u' Q I rv ru ⟨p,z,rfl,by rw[<-h3];exact O3.k R,q z h4⟩ hs
  .cases hl:MW.gm M (.ref n)with
   |none=>rw[hl]at e;cases e
   |some ds =>
    obtain⟨p',U,hp,R,L⟩:=uo S (.ref J) hl;cases hp;rw[hl]at e;exact C _ _ _ rfl (.inl (Hq.of R)) L (by cases ry<;>first|exact e|cases e)
 |_=>simp[MW.Aw,MW.Bk,MW.gm]at e
def bgk(hu:X.A.units+1<cLine)(ha:PE X a (tE nm W X.K a'))(hb:PE X b (tE nm W X.K b'))(hs:Wg b):PE X (.Subscript a b pos) (tE nm W X.K (.ix a' b')):=
 PE.of (azr (a3u (nm:=nm) hu) ha hb hs) fun σ H Q ι ρ M d M' S R e q=>by rw[MW.a0z]at e;obtain⟨x,M1,U,e⟩:=fc e;obtain⟨y,M2,e2,e⟩:=fc e;obtain⟨e,rfl⟩:=vz e;exact two S R U e2 λZ H2 v u le G _ rv ru=>⟨Z,M',x,y,d,G,rv,ru,e,λw r=>q Z H2 w le G r⟩
set_option tactic.hygienic true in
def ban(hn:n=nm.fld f)(G:∀c C,nm.cls c=some C->Cls X.K C/\Ka X.K C n)(ha:PE X a (tE nm W X.K a'))(hb:attributeBase a n X.env (eval a X.env)=eval a X.env):PE X (.Attribute a n pos) (tE nm W X.K (.fld a' f)):=
 PE.of (a2w ha hb) fun σ H Q ι ρ M d M' S R e q=>by
  rw[MW.au6]at e;obtain⟨x,M1,L,e⟩:=fc e;obtain⟨e,rfl⟩:=vz e;refine one S R L λZ H1 v le J R1 r=>?_
  obtain⟨m,Y⟩:∃m,x=.ref m:=by cases x<;>first|exact⟨_,rfl⟩|cases e
  subst Y;obtain⟨p,rfl,u⟩:∃p,v=.ref p/\Z.l[m]?=some p:=by cases r with|ref z=>exact⟨_,rfl,z⟩
  simp only[MW.Rt]at e;split at e
  .rename_i c fs hm
   obtain⟨C,dx,l,U,h2,h3⟩:=J.obj m _ p hm u;obtain⟨z,h4,h5⟩:=(h3.fld (nm:=nm) (f:=f)).1 d e;subst hn;obtain⟨g1,y⟩:=G c C U;exact⟨p,C,dx,l,z,rfl,h2,g1,y,h4,q Z H1 z le J h5⟩
  .cases e
open MW (Ex Df OEx Nt Ce mz Lv Tg Res di MO Jm Cp Op2 Blt Bm Kx Src)
noncomputable def Uo:Expr->Bool
 |.ListComp ..=>false|.SetComp ..=>false|.DictComp ..=>false|_=>true
def O7(h:Uo e=true)(t:Option Expr)(l:Nat)(Z:Env):swapsWith e t l Z=pure false:=by cases e<;>first|rfl|(cases h)
noncomputable def Hj:Expr->Bool
 |.Set ..=>false|_=>true
def Ey(h:Hj e=true)(Z:Env)(x:Value):foldedSetIterable e Z x=pure x:=by cases e<;>first|rfl|(cases h)
def Vq(h:Hj e=true)(Z:CmpOp):behindInMarks Z e=false:=by cases e<;>first|rfl|(cases h)
noncomputable def azv:Expr->Bool
 |.Tuple ..=>false|_=>true
noncomputable def noStar:Expr->Bool
 |.Starred ..=>false|_=>true
def lq(h:noStar e=true)(Z:Ya)(env:Env):starEach (e::Z) env=(false,eval e env)::starEach Z env:=by cases e<;>first|rfl|(cases h)
noncomputable def Wj:Expr->Bool
 |.Slice ..=>false|_=>true
def aeq(h:Wj e=true):Wg e:=by intro o i;cases e<;>first|rfl|(cases h)
noncomputable def Bw:Tg->List Nat
 |.name i=>[i]|.names is=>is
def tGt(nm:Nm)(K:Fg)(t:Tg):TG:=λv R H Q=>∃U ρ M d G,km nm K U H M/\u9 K U H ρ R/\Rep K U H d v/\t.put d ρ=some G/\∀Z,u9 K U H G Z->Z.length=R.length->(∀j,j∉Bw t->Z[j]?=R[j]?)->Q Z H
def PG.weak(h:PG X tg t)(w:∀v G H Q,t' v G H Q->t v G H Q):PG X tg t':=λZ s G H v u Q I r q=>h Z s G H v u Q I r (w v G H Q q)
def PG.of(h:PG X tg t)(w:∀v U H Q ι ρ M d Z,km nm X.K ι H M->u9 X.K ι H ρ U->Rep X.K ι H d v->tt.put d ρ=some Z->(∀G,u9 X.K ι H Z G->G.length=U.length->(∀j,j∉Bw tt->G[j]?=U[j]?)->Q G H)->t v U H Q):PG X tg (tGt nm X.K tt):=
 PG.weak h λv U H Q z_=>by obtain⟨ι,ρ,M,d,Z,S,R,r,e,q⟩:=z_;exact w v U H Q ι ρ M d Z S R r e q
def a3v(U:X.N.Nodup)(Z:X.N[i]?=some n)(hx:Loc X.env.scope n)(hf:X.fn n=true\/X.env.scope.names.lookup n=some .local):PG X (.Name n pos) (tGt nm X.K (.name i)):=
 PG.of (ab1 U Z hx hf) λv σ H Q ι ρ M d G S R r e q=>by cases e;exact q _ (R.set r i) (by simp) λj hj=>uz (λz=>hj (by simp[Bw,z]))
noncomputable def Mg:List Nat->List V->St->St
 |i::is,v::vs,σ=>Mg is vs (σ.set i (some v))|_,_,σ=>σ
theorem Yi{Z:Io}{H:Hp}{K:Fg}:∀{is:Y3}{G:List Dv}{vs:List V}{ρ:En}{U:St},u9 K Z H ρ U->o4 K Z H G vs->u9 K Z H (MW.J1 is G ρ) (Mg is vs U)
 |[],_,_,_,_,R,r=>by cases r<;>exact R|_::_,_,_,_,_,R,.nil=>R|i::is,_,_,_,_,R,.cons h t=>Yi (is:=is) (R.set h i) t
theorem Te:∀{is:Y3}{G:List V}{Z:St}{j:Nat},j∉is->(Mg is G Z)[j]?=Z[j]?
 |[],G,Z,j,_=>by cases G<;>rfl|i::is,[],Z,j,_=>rfl
 |i::is,v::G,Z,j,h=>by
  show(Mg is G (Z.set i (some v)))[j]?=_;rw[Te (λz=>h (bc _ z)),uz (λz=>h (by rw[z];exact dh))]
theorem Vr:∀{is:Y3}{G:List V}{Z:St},(Mg is G Z).length=Z.length
 |[],G,Z=>by cases G<;>rfl|_::_,[],Z=>rfl|i::is,v::G,Z=>by show(Mg is G (Z.set i (some v))).length=_;rw[Vr,List.length_set]
inductive Mh(X:Cx):List Expr->List Nat->Prop
 |nil:Mh X [] []
 |cons {n:Str} {p:Pos} {i:Nat} {ts:Ya} {is:Y3} (hi:X.N[i]?=some n) (hx:Loc X.env.scope n) (hf:X.fn n=true\/X.env.scope.names.lookup n=some .local) (t:Mh X ts is):Mh X (.Name n p::ts) (i::is)
theorem aer{X:Cx}(hN:X.N.Nodup):∀{ts:Ya}{is:Y3},Mh X ts is->PGs X ts (λG U H Q=>G.length=is.length/\Q (Mg is G U) H)
 |_,_,.nil=>λZ s U H G us Q I r q=>by
  obtain⟨R,h2⟩:=q;have hv:G=[]:=u0.mp R;subst hv;exact avx Z s U H [] us Q I r ⟨rfl,h2⟩
 |_,_,.cons hi hx hf t=>λZ s U H G us Q I r q=>by
  obtain⟨R,h2⟩:=q;cases G with
  |nil=>simp at R|cons v G=>exact apm (ab1 hN hi hx hf) (aer hN t) (by rfl) Z s U H (v::G) us Q I r ⟨v,G,rfl,by simpa using R,h2⟩
theorem Gg{X:Cx}{env:Env}:∀{Z:Ya}{is:Y3},Mh X Z is->(assignEach Z env).length=is.length/\(assignEach Z env).findIdx? (·.1)=none
 |_,_,.nil=>⟨rfl,rfl⟩
 |_,_,.cons hi hx hf t=>by
  obtain⟨U,G⟩:=Gg (env:=env) t;refine⟨by simp[assignEach,U],?_⟩;simp[assignEach,List.findIdx?_cons];simpa using G
set_option tactic.hygienic true in
def aws(L:X.calm=true)(U:X.N.Nodup)(h:Mh X y is):PG X (.Tuple y k pos) (tGt nm X.K (.names is)):=
 PG.of (a2h L (aer U h) (Gg h).1 (Gg h).2) λv u H Q ι ρ M d J S R r e q=>by
  cases r with
  |tup G Z =>
   simp only[Tg.put]at e;split at e<;>cases e;rename_i Y;exact⟨_,_,rfl,Hl.of G,by rw[<-Z.length];exact Y,by rw[<-Z.length];exact Y,q _ (Yi R Z) Vr λj C=>Te C⟩
  |_=>simp[Tg.put]at e
def aqm(he:PE X a (tE nm W X.K a'))(hg:PG X tg (tGt nm X.K t))(hs:swapsWithSole [tg] a pos.line X.env=pure false)(hw:swappedStores [tg] a X.env=pure none)(h1:(assignEach [tg] X.env).map (·.2)=[assign tg X.env]) :
 PS X (.Assign [tg] a pos) (tS nm W X.K (.asg (.tg t) a')):=
 PS.of (apn he hg hs hw h1) λD σ H ι ρ M fl U M' S R e q=>by rw[MW.abf]at e;obtain⟨x,M1,e1,e⟩:=fc e;obtain⟨qq,M2,e2,e⟩:=fc e;cases e;rw[MW.aoo]at e2;obtain⟨e3,e4⟩:=vz e2;subst e4;exact one S R e1 λZ H1 v le S1 R1 r=>⟨Z,ρ,_,x,U,S1,R1,r,e3,λG R' _ _=>q Z H1 G le S1 R'⟩
def a3w(he:PE X a (tE nm W X.K a'))(hs:swapsWith a none pos.line X.env=pure false):PS X (.Expr a pos) (tS nm W X.K (.expr a')):=
 PS.of (avw he hs) λD U H ι ρ M fl qq M' S R e q=>by rw[MW.au9]at e;obtain⟨x,M1,e1,e⟩:=fc e;cases e;exact one S R e1 λZ H1 v le S1 G r=>q Z H1 U le S1 G
def azw(he:PE X a (tE nm W X.K a')):PS X (.Return (some a) pos) (tS nm W X.K (.ret a')):=
 PS.of (a2e he) λD U H ι ρ M fl qq M' S R e q=>by rw[MW.aok]at e;obtain⟨x,M1,e1,e⟩:=fc e;cases e;exact one S R e1 λZ H1 v le S1 G r=>q Z H1 U le S1 G v r
def bao:PS X (.Break pos) (tS nm W X.K .brk):=
 PS.of apl λD Z H U ρ M fl G M' S R e q=>by rw[MW.a02]at e;cases e;exact q U H Z (Le.refl _ _) S R
def a3x:PS X (.Continue pos) (tS nm W X.K .cont):=
 PS.of aeh λD Z H U ρ M fl G M' S R e q=>by rw[MW.ava]at e;cases e;exact q U H Z (Le.refl _ _) S R
def Yc.mono{X:Cx}(le:Le ι H Z H')(q:Yc nm X.K D ι H fl ρ M):Yc nm X.K D Z H' fl ρ M:=λU H2 G R S2 R2=>q U H2 G (le.trans R) S2 R2
set_option tactic.hygienic true in
def bap(hc:PT X c (tQ nm W X.K c'))(ht:Sy X ts (tSs nm W X.K G))(hf:Sy X fs (tSs nm W X.K J)):PS X (.If c ts fs pos) (tS nm W X.K (.iff c' G J)):=
 PS.of (a80 hc ht hf) λD σ H ι u M C Z U S R e q=>by
  rw[MW.a01]at e;obtain⟨x,y,e1,e⟩:=fc e;cases x<;>try cases e
  rename_i k;refine Zq S R e1 λY H1 le S1 L=>?_
  cases k with
  |true=>exact⟨Y,u,y,C,Z,U,S1,L,e,q.mono le⟩|false=>exact⟨Y,u,y,C,Z,U,S1,L,e,q.mono le⟩
def aqn:Sy X [] (tSs nm W X.K .nil):=Sy.of avv λD Z H U ρ M fl G M' S R e q=>by rw[MW.avb]at e;cases e;exact q U H Z (Le.refl _ _) S R
def ajs{G:List Stmt}(h1:PS X st (tS nm W X.K qk))(h2:Sy X G (tSs nm W X.K rest')):Sy X (st::G) (tSs nm W X.K (.cons qk rest')):=
 Sy.of (apk h1 h2) λD σ H ι ρ M fl qv M' S R e q=>by
  rw[MW.aom]at e;obtain⟨⟨qj,qq⟩,M1,e1,e⟩:=fc e;refine⟨ι,ρ,M,qj,qq,M1,S,R,e1,λZ H1 U le S1 R1=>?_⟩;cases qj with
  |next=>exact⟨Z,qq,M1,fl,qv,M',S1,R1,e,q.mono le⟩|brk=>cases e;exact q Z H1 U le S1 R1|cont=>cases e;exact q Z H1 U le S1 R1|ret d=>cases e;exact q Z H1 U le S1 R1
set_option tactic.hygienic true in
def baq(hp:PassesOwn (model X.prog X.w) X.A X.env X.xe)(hc:PT X c (tQ nm W X.K c'))(hb:Sy X body (tSs nm W X.K Yj)):PS X (.While c body [] pos) (tS nm W X.K (.whl c' Yj)):=
 PS.of (apo hp hc hb) λD σ H ι ρ M fl qq M' S R e q=>by
  rw[MW.abg]at e;refine⟨λm y H1=>∃C U M1,Le ι H C H1/\km nm X.K C H1 M1/\u9 X.K C H1 U y/\MW.Gi (c'.den W) (Yj.den W) m U M1=.ok (fl,qq) M',⟨MW.agp,ι,ρ,M,Le.refl _ _,S,R,e⟩,?_⟩;rintro m y H1 ⟨C,U,M1,Wh,S1,R1,Y⟩;cases m with
  |zero=>cases Y
  |succ m =>
   simp only[MW.Gi]at Y;obtain⟨x,M2,e2,Y⟩:=fc Y;cases x<;>try cases Y
   rename_i k;refine Zq S1 R1 e2 λqj H2 Aj S2 R2=>?_
   cases k with
   |false=>cases Y;exact q qj H2 y (Wh.trans Aj) S2 R2
   |true =>
    obtain⟨⟨qv,u⟩,M3,e3,Y⟩:=fc Y;refine⟨λG L=>∃Z qk M4,Le ι H Z L/\km nm X.K Z L M4/\u9 X.K Z L qk G/\MW.Gi (c'.den W) (Yj.den W) m qk M4=.ok (fl,qq) M',λG L h4=>⟨m,ph _,h4⟩,qj,U,M2,qv,u,M3,S2,R2,e3,λZ L G J S4 R4=>?_⟩;cases qv with
    |next=>exact⟨Z,u,M3,(Wh.trans Aj).trans J,S4,R4,Y⟩|cont=>exact⟨Z,u,M3,(Wh.trans Aj).trans J,S4,R4,Y⟩|brk=>cases Y;exact q Z L G ((Wh.trans Aj).trans J) S4 R4|ret d=>cases Y;exact q Z L G ((Wh.trans Aj).trans J) S4 R4
def aqo(nm:Nm)(K:Fg)(ι:Io)(H:Hp)(s:Src)(J:It):Prop:=∀Z G U,LeX ι H Z G->km nm K Z G U ->
 (∀i d,i<s.len->s.item i U=some d->J.go i G/\∀v R,J.yld i G v R->Le Z G Z R/\km nm K Z R U/\Rep K Z R d v)/\(s.fin U=true->J.stop s.len G)
def tI(U:Nm)(W:Jm)(K:Fg)(it:Nt):TI:=fun σ H R=>∃ι ρ M s M',km U K ι H M/\u9 K ι H ρ σ/\it.den W ρ M=.ok s M'/\∀Z G J,Le ι H Z G->km U K Z G M'->aqo U K Z G s J->R J G
set_option tactic.hygienic true in
def bau(hp:PassesOwn (model X.prog X.w) X.A X.env X.xe)(hc:X.calm=true)(hi:PI X tg iter (tI nm W X.K it))(hg:PG X tg (tGt nm X.K t))(hb:Sy X body (tSs nm W X.K Yj))(hs:Hj iter=true):PS X (.For tg iter body [] pos) (tS nm W X.K (.for_ t it Yj)):=
 PS.of (a2l hp hc hi hg hb (Ey hs X.env)) λD σ H ι ρ M fl G M' S R e q=>by
  rw[MW.Ub]at e;obtain⟨s,M1,e1,e⟩:=fc e;refine⟨ι,ρ,M,s,M1,S,R,e1,λqk H1 J Wh S1 sj=>?_⟩;refine⟨λi m qj H2=>m=s.len-i/\i<=s.len/\∃Y L M2,Le qk H1 Y H2/\km nm X.K Y H2 M2/\u9 X.K Y H2 L qj/\MW.Ca s.fin s.item (λd ρ M=>match t.put d ρ with|some G=>Yj.den W G M|none=>.bad) m i L M2=.ok (fl,G) M',
   ⟨s.len,rfl,jq _,qk,ρ,M1,Le.refl _ _,S1,R.mono Wh,e⟩,?_⟩
  rintro i m qj H2 ⟨hm,q6,Y,L,M2,Aj,S2,R2,U⟩;obtain⟨go,q0⟩:=sj Y H2 M2 Aj.toX S2;cases m with
  |zero =>
   simp only[MW.Ca]at U;split at U<;>cases U;rename_i Q5;have hi:i=s.len:=by lia
   subst hi;exact .inl ⟨q0 Q5,q Y H2 qj (Wh.trans Aj) S2 R2⟩
  |succ m =>
   simp only[MW.Ca]at U;split at U
   .cases U
   .rename_i d hd
    obtain⟨⟨q2,qq⟩,M3,e3,U⟩:=fc U;obtain⟨g1,g2⟩:=go i d (by omega) hd;refine .inr ⟨g1,λC H4=>∃Z y M4,Le qk H1 Z H4/\km nm X.K Z H4 M4/\u9 X.K Z H4 y C/\MW.Ca s.fin s.item (λd ρ M=>match t.put d ρ with|some G=>Yj.den W G M|none=>.bad) m (i+1) y M4=.ok (fl,G) M',
     λC H4 ⟨Z,y,M4,h4⟩=>⟨m,ph _,by omega,by omega,Z,y,M4,h4⟩,λv H3 yv=>?_⟩
    obtain⟨qv,S3,r3⟩:=g2 v H3 yv;split at e3
    .rename_i q1 q3
     refine⟨Y,L,M2,d,q1,S3,R2.mono qv,r3,q3,λq5 R5 _ _=>⟨Y,q1,M2,q2,qq,M3,S3,R5,e3,λZ H4 C q4 S4 R4=>?_⟩⟩;have u:=(Aj.trans qv).trans q4;cases q2 with
     |next=>exact⟨Z,qq,M3,u,S4,R4,U⟩|cont=>exact⟨Z,qq,M3,u,S4,R4,U⟩|brk=>cases U;exact q Z H4 C (Wh.trans u) S4 R4|ret d=>cases U;exact q Z H4 C (Wh.trans u) S4 R4
    .cases e3
section
variable{nm:Nm}{W:Jm}{X:Cx}{a b c:Expr}{a' b' c':Ex}{pos pos':Pos}{ι:Io}{H:Hp}{σ:St}{ρ:En}{M M1 M2:di}{x y:Dv}{es:Ya}{es':Df}{tg iter elt:Expr}
def PI.weak(h:PI X tg iter G)(w:∀σ H R,wi' σ H R->G σ H R):PI X tg iter wi':=λZ s σ H R I q=>h Z s σ H R I (w σ H R q)
def PI.of(h:PI X tg iter wi)(w:∀σ H G ι ρ M s M',km nm X.K ι H M->u9 X.K ι H ρ σ->it.den W ρ M=.ok s M'->(∀Z U J,Le ι H Z U->km nm X.K Z U M'->aqo nm X.K Z U s J->G J U)->wi σ H G):PI X tg iter (tI nm W X.K it):=
 PI.weak h fun σ H G z_=>by obtain⟨ι,ρ,M,s,M',S,R,e,q⟩:=z_;exact w σ H G ι ρ M s M' S R e q
def a3y(hl:PE X l tl):PI X tg l (fun σ H R=>tl σ H λx U=>∃a,x=.ref a/\((∃xs,Hq X.K U a xs)/\R (Itl X.K a) U\/(∃xs,Hl X.K U a xs)/\R (Itt X.K a) U)):=by
 intro qq s σ H R I h;refine Bp (hl qq s σ H _ I h) λv Z z_=>?_
 obtain⟨x,U,G,r1,q1⟩:=z_;obtain⟨a,e,⟨⟨xs,hq⟩,q⟩|⟨⟨xs,hq⟩,q⟩⟩:=q1
 .subst e
  cases r1;obtain⟨ye,rv,p,hz⟩:=G.list hq;refine wpAny_pyIter_list p.isList ?_;refine⟨Z.heap.objs.size,[Z.heap.objs.size],_,_,U,rfl,G.kept (t':=Z.toks) λb o e=>au _ e,alu a _,⟨_,bu _ rfl,rfl,rfl⟩,λb hb=>?_,q⟩;have e:b=Z.heap.objs.size:=by simpa using hb
  subst e;exact G.als (bh _) (G.Al.fresh (bh _))
 .subst e
  cases r1;obtain⟨ye,rv,p,hz⟩:=G.tuple hq;refine wpAny_pyIter_tuple (show Z.heap.IsTuple a ye.toArray from p) ?_;refine⟨Z.heap.objs.size,[Z.heap.objs.size],_,_,U,rfl,G.kept (t':=Z.toks) λb o e=>au _ e,agz a _,⟨_,bu _ rfl,rfl,rfl⟩,λb hb=>?_,q⟩;have e:b=Z.heap.objs.size:=by simpa using hb
  subst e;exact G.als (bh _) (G.Al.fresh (bh _))
def aar{p:Addr}{ds:List Dv}{s:Src}(hs:∀Z U M1,LeX ι H Z U->km nm X.K Z U M1->(∀i d,s.item i M1=some d->∃G v,U p=some (.lst G)/\G[i]?=some v/\Rep X.K Z U d v)/\(s.fin M1=true->∃G,U p=some (.lst G)/\G.length<=s.len)) :
 aqo nm X.K ι H s (Itl X.K p):=λZ U M1 le S1=>by
 obtain⟨a,b⟩:=hs Z U M1 le S1;refine⟨λi d hi hd=>?_,λhf=>?_⟩
 .obtain⟨G,v,R,h2,h3⟩:=a i d hd
  refine⟨⟨G,v,Hq.of R,h2⟩,λu H2 ⟨e,y⟩=>?_⟩;subst e;have:=y G (Hq.of R);rw[h2]at this;cases this;exact⟨Le.refl _ _,S1,h3⟩
 .obtain⟨G,R,h2⟩:=b hf
  exact⟨G,Hq.of R,h2⟩
set_option tactic.hygienic true in
def bav(ha:PE X a (tE nm W X.K a')):PI X tg a (tI nm W X.K (.val a')):=
 PI.of (a3y ha) fun σ H R' ι ρ M s M' S R e q=>by
  rw[MW.Lb]at e;obtain⟨x,M1,e1,e⟩:=fc e;obtain⟨e,rfl⟩:=vz e;refine one S R e1 λC H1 v le S1 R1 r=>?_
  cases r with
  |@tup p Z J h1 r1 =>
   simp only[MW.srcOf]at e;cases e;refine⟨p,rfl,.inr ⟨⟨J,Hl.of h1⟩,q C H1 _ le S1 λqq H2 M2 G S2=>⟨λi d hi Y=>?_,λ_=>⟨J,Hl.of (G.tup _ _ h1),by rw[<-r1.length];exact bh _⟩⟩⟩⟩;have Y:Z[i]?=some d:=Y;obtain⟨v,L,g2⟩:=(r1.Nf G).get Y;refine⟨⟨J,v,Hl.of (G.tup _ _ h1),L⟩,λu H3 ⟨ee,yy⟩=>?_⟩;subst ee;have:=yy J (Hl.of (G.tup _ _ h1));rw[L]at this;cases this;exact⟨Le.refl _ _,S2,g2⟩
  |@vl p Z J h1 n1 r1 =>
   simp only[MW.srcOf]at e;cases e;refine⟨p,rfl,.inl ⟨⟨J,Hq.of h1⟩,q C H1 _ le S1 (aar (ds:=Z) λqq H2 M2 G S2=>⟨λi d Y=>?_,λ_=>⟨J,G.lst _ _ n1.1 h1,by rw[<-r1.length];exact bh _⟩⟩)⟩⟩;have Y:Z[i]?=some d:=Y;obtain⟨v,L,g2⟩:=(r1.Nf G).get Y;exact⟨J,v,G.lst _ _ n1.1 h1,L,g2⟩
  |@ref n p h1 =>
   simp only[MW.srcOf]at e;obtain⟨Z,hn,rfl⟩:∃Z,M'[n]?=some (.lst Z)/\s=.live n Z.length:=by
    split at e
    .rename_i Z hn;cases e;exact⟨Z,hn,rfl⟩
    .cases e
   obtain⟨J,L,g2⟩:=S1.obj n _ p hn h1;refine⟨p,rfl,.inl ⟨⟨J,Hq.of L⟩,q C H1 _ le S1 (aar (ds:=Z) λqq H2 M2 G S2=>⟨λi d Y=>?_,λhf=>?_⟩)⟩⟩
   .simp only[Src.item]at Y
    split at Y
    .rename_i qj Z5
     split at Y
     .obtain⟨U,k1,k2⟩:=S2.obj n _ p Z5 (G.get h1)
      obtain⟨v,k3,k4⟩:=k2.get Y;exact⟨U,v,k1,k3,k4⟩
     .cases Y
    .cases Y
   .simp only[Src.fin]at hf
    split at hf
    .rename_i qj Z5
     obtain⟨U,k1,k2⟩:=S2.obj n _ p Z5 (G.get h1);refine⟨U,k1,?_⟩;rw[<-k2.length];have:qj.length=Z.length:=by simpa using hf
     rw[this];exact bh _
    .cases hf
  |_=>simp[MW.srcOf]at e
set_option tactic.hygienic true in
def baw(C:Gl X "range")(hm:X.mg "range"= none)(ha:PE X a (tE nm W X.K a'))(J:noStar a=true):PI X tg (.Call (.Name "range" pr) [a] [] pos) (tI nm W X.K (.Mp a')):=
 PI.of (alv C hm (O6 ha Vp (lq J _ _)) (lq J _ _)) fun σ H R' ι ρ M s M' S R e q=>by
  rw[MW.Ld]at e;obtain⟨x,M1,U,e⟩:=fc e;refine Yg (es':=.cons a' .nil) (ds:=[x]) (M1:=M1) S R (by rw[MW.Kf,U];simp) λY L vs le S1 R1 r=>?_
  obtain⟨i,hx⟩:∃i,x=.int i:=by cases x<;>first|exact⟨_,rfl⟩|cases e
  subst hx;have e:(if i.natAbs<=100000 then Res.ok (Src.con ((List.range i.toNat).map λ(k:Nat)=>MW.D.int (k:Int))) M1 else .bad)=.ok s M':=e;split at e<;>cases e;rename_i hi;cases r with
  |cons r1 r2 =>
   cases r1;cases r2;refine⟨i,rfl,by lia,by omega,q Y L _ le S1 λqq H2 M2 Aj S2=>⟨λj d hj Z=>?_,λ_=>?_⟩⟩
   .have G:j<i.toNat:=by simpa[Src.len]using hj
    have Z:((List.range i.toNat).map λ(k:Nat)=>MW.D.int (k:Int))[j]?=some d:=Z;rw[iz,uc G]at Z;have Z:MW.D.int (j:Int)=d:=by simpa using Z
    subst Z;refine⟨G,λu H3 ⟨ee,yy⟩=>?_⟩;subst ee yy;exact⟨Le.refl _ _,S2,by rw[Int.zero_add];exact .int _⟩
   .show i.toNat<=_
    simp[Src.len]
def amb(R:u9 K ι H ρ σ):u9 K ι H (ρ++List.replicate k none) (σ++List.replicate k none):=R.append (u9.aqi k (by simp))
def aqp{Z:St}(U:σ.length=n)(R:∀i∈Bw t,n<=i)(h:∀j,j∉Bw t->Z[j]?=(σ++List.replicate k none)[j]?):∀(j:Nat) v,(σ++List.replicate k none)[j]?=some (some v)->Z[j]?=some (some v):=λj v e=>by
 by_cases G:j∈Bw t
 .have:=R j G
  rw[il (a_ (f_ U) this),List.getElem?_replicate]at e;split at e<;>simp at e
 .rw[h j G];exact e
noncomputable def azx(o:Option Dv):List Dv:=match o with|some x=>[x]|none=>[]
set_option tactic.hygienic true in
def aes(h:MW.Cy fin item body (k+1) i M=.ok ds Z) :
 ∃d o M1 rest,item i M=some d/\body d M=.ok o M1/\MW.Cy fin item body k (i+1) M1=.ok rest Z/\ds=azx o++rest:=by
 simp only[MW.Cy]at h;split at h
 .cases h
 .rename_i d Y
  obtain⟨o,M1,G,h⟩:=fc h;obtain⟨rest,M2,J,h⟩:=fc h;cases h;exact⟨d,o,M1,rest,Y,G,J,by cases o<;>rfl⟩
def o4.snoc(r:o4 K ι H ds Z)(h:Rep K ι H d v):o4 K ι H (ds++[d]) (Z++[v]):=r.append (.cons h .nil)
set_option tactic.hygienic true in
def Wk(e:MW.z8 s body M1=.ok ds M2):s.len<=100000/\MW.Cy s.fin s.item body s.len 0 M1=.ok ds M2:=by
 unfold MW.z8 at e;split at e
 .rename_i Z
  exact⟨Z,e⟩
 .cases e
def keptAs(v:Bool)(Z:List Dv)(M:di):Res Dv:=if v=true then .ok (.vl Z) M else MW.new (.lst Z) M
def amc(h:(Ex.comp v k t it e').den W ρ M=.ok d M'):∃s M1 Z M2,it.den W ρ M=.ok s M1/\s.len<=100000 /\
 MW.Cy s.fin s.item (λd M=>match t.put d (ρ++List.replicate k none)with|some G=>(e'.den W G M).bind λx M'=>.ok (some x) M'|none=>.bad) s.len 0 M1=.ok Z M2/\keptAs v Z M2=.ok d M':=by
 rw[MW.Nv]at h;obtain⟨s,M1,R,h⟩:=fc h;obtain⟨Z,M2,U,h⟩:=fc h;exact⟨s,M1,Z,M2,R,(Wk U).1,(Wk U).2,h⟩
def Io.adopt(ι:Io)(H:Hp)(D:Addr):Tr K (ι.hide D) H (ι.add D) H:=⟨λ_ _ e=>e,λ_ _ e n=>⟨e,λm=>(dw.mp m).elim n.1 λz=>n.2 (by rw[uv.mp z];exact dh),λm=>n.2 (bc _ m)⟩,λ_ _ e=>e,λn a e=>by
 have e:ι.l[n]?=some a:=e;show(ι.l++[D])[n]?=_;rw[dq (ak.mp e).1];exact e⟩
theorem Rep.adopt(r:Rep K (ι.hide D) H d v):Rep K (ι.add D) H d v:=r.tr (ι.adopt H D)
theorem o4.adopt(r:o4 K (ι.hide D) H d v):o4 K (ι.add D) H d v:=r.tr (ι.adopt H D)
theorem km.adopt(S:km nm K (ι.hide D) H M)(hd:H D=some (.lst U))(r:o4 K (ι.hide D) H ds U)(Z:ι.off D):km nm K (ι.add D) H (M++[.lst ds]):=by
 refine⟨by have:=S.len;simp only[Io.hide]at this;simp[Io.add,this],?_,λa G=>?_,λn o a hn G=>?_⟩
 .exact yu.mpr ⟨S.nd,by simp,by
   intro x hx y hy;have:y=D:=by simpa using hy
   subst this;intro e;subst e;exact Z.1 hx⟩
 .obtain⟨R,U,h2⟩:=S.del a (bc _ G)
  exact⟨λm=>(dw.mp m).elim R λz=>Z.2 (by rw[<-uv.mp z];exact G),U,h2⟩
 .rcases Cq hn with q|⟨q,rfl⟩
  .rcases Cq G with z|⟨z,_⟩
   .exact(S.obj n o a q z).tr (ι.adopt H D) rfl
   .exact absurd (MW.yo q) (by rw[z,<-S.len];exact j9 _)
  .rcases Cq G with z|⟨_,rfl⟩
   .exact absurd (ak.mp z).1 (by rw[q,<-S.len];exact j9 _)
   .exact⟨U,hd,r.adopt⟩
def aqq(S:km nm K (ι.hide D) H M)(hd:H D=some (.lst vs))(r:o4 K (ι.hide D) H ds vs)(G:ι.off D)(le:Le U R ι H)(h0:R D=none)(h:keptAs v ds M=.ok d M') :
 ∃Z,Le U R Z H/\km nm K Z H M'/\Rep K Z H d (.ref D):=by
 unfold keptAs at h;split at h
 .cases h
  exact⟨ι,le,S.show,.vl hd G r.show⟩
 .cases h
  refine⟨ι.add D,⟨?_,le.del,le.tup,le.Ow,le.lst,le.dom⟩,S.adopt hd r G,.ref ?_⟩
  .obtain⟨Y,e,hY⟩:=le.ext
   exact⟨Y++[D],by show ι.l++[D]=_;rw[e,yq],λa ha=>(dw.mp ha).elim (hY a) λz=>by rw[uv.mp z];exact h0⟩
  .show(ι.l++[D])[M.length]?=some D
   rw[<-S.len];simp[Io.hide]
def BodyOk(nm:Nm)(K:Fg)(G:St)(tc:TT)(te:TE)(R:En)(M:di)(o:Option Dv)(M':di):Prop:=∀ι H (G1:V->Hp->Prop) (G0:Hp->Prop),km nm K ι H M->u9 K ι H R G ->
 (∀Z U v,Le ι H Z U->km nm K Z U M'->(match o with|some x=>Rep K Z U x v->G1 v U|none=>G0 U))->tc G H λb H3=>if b=true then te G H3 λv H4=>G1 v H4 else G0 H3
set_option tactic.hygienic true in
def aas{N:Yf}(hk:N.length-X.N.length=k)(ho:∀i∈Bw t,X.N.length<=i)(zv:σ.length=X.N.length)(S:km nm X.K ι H M)(R:u9 X.K ι H ρ σ)(e1:it.den W ρ M=.ok s M1)(q6:s.len<=100000)(e2:MW.Cy s.fin s.item body s.len 0 M1=.ok ds M')(ek:keptAs v0 ds M'=.ok d0 M0)(q:∀q2 H' v,Le ι H q2 H'->km nm X.K q2 H' M0->Rep X.K q2 H' d0 v->Q v H')(hb:∀d M2 o M3,body d M2=.ok o M3->∃qj,t.put d (ρ++List.replicate k none)=some qj/\∀q3,BodyOk nm X.K q3 tc te qj M2 o M3):aeo (N.length-X.N.length) (tI nm W X.K it) (tGt nm X.K t) tc te σ H Q:=by
 refine⟨ι,ρ,M,s,M1,S,R,e1,λqq H1 J Wh S1 sj D hD=>?_⟩;rw[hk];refine⟨λi m H2=>m=s.len-i/\i<=s.len/\∃Z M2 G vs L,LeD D qq H1 (Io.hide Z D) H2/\km nm X.K (Io.hide Z D) H2 M2/\H2 D=some (.lst vs)/\o4 X.K (Io.hide Z D) H2 G vs/\G.length<=i /\
  MW.Cy s.fin s.item body m i M2=.ok L M'/\ds=G++L,?_,?_⟩
 .exact⟨s.len,rfl,jq _,qq,M1,[],[],ds,LeD.start hD _,S1.hide hD,xf,.nil,bh _,e2,rfl⟩
 .rintro i m H2 ⟨hm,z3,Z,M2,G,vs,L,Aj,S2,q8,q1,Fl,e3,qv⟩
  have q5:Le qq H1 Z H2:=LeD.done Aj;have zw:Z.δ=qq.δ:=q5.del;have z0:Z.off D:=⟨(S2.del D dh).1,λz=>by rw[zw]at z;exact(S1.fresh hD).2 z⟩;obtain⟨go,zq⟩:=sj (Io.hide Z D) H2 M2 (Aj.toX hD) S2;cases m with
  |zero =>
   simp only[MW.Cy]at e3;split at e3<;>cases e3;rename_i Q5;refine hG λ_ _k=>?_
   have hi:i=s.len:=by lia
   subst hi;rw[Ah]at qv;subst qv;obtain⟨z1,zz,S9,r9⟩:=aqq S2 q8 q1 z0 q5 hD ek;apply _k;exact .inl ⟨zq Q5,q z1 H2 _ (Wh.trans zz) S9 r9⟩
  |succ m =>
   refine hG λ_ _k=>?_
   obtain⟨d,o,M3,U,h1,h2,h3,h4⟩:=aes e3;obtain⟨g1,g2⟩:=go i d (by lia) h1;apply _k;refine .inr ⟨g1,λv H3 yv=>?_⟩;refine hG λ_ _k=>?_
   obtain⟨q0,S3,r3⟩:=g2 v H3 yv;obtain⟨qj,z4,z2⟩:=hb d M2 o M3 h2;have R3:u9 X.K (Io.hide Z D) H3 ρ σ:=((R.mono Wh).Nf (Aj.toX hD)).mono q0;apply _k;refine⟨Io.hide Z D,ρ++List.replicate k none,M2,d,qj,S3,amb R3,r3,z4,λq3 R5 l5 k5=>⟨l5,aqp zv ho k5,?_⟩⟩;have zk:=q0.lst D vs (S2.del D dh).1 q8;refine z2 q3 (Io.hide Z D) H3 _ _ S3 R5 (λY H6 u qk S6=>by
    have C:=qk.lst D vs (S2.del D dh).1 zk;have q4:LeD D qq H1 Y H6:=(Aj.go q0).go qk;have ei:Y=Io.hide ⟨Y.l,Z.δ⟩ D:=by have:=qk.del;obtain⟨l6,z5⟩:=Y;simp only[Io.hide]at this⊢;rw[this]
    rw[ei]at q4 S6;have q7:o4 X.K (Io.hide ⟨Y.l,Z.δ⟩ D) H6 G vs:=by rw[<-ei];exact(q1.mono q0).mono qk
    cases o with
    |none =>
     refine⟨m,ph _,by lia,by lia,⟨Y.l,Z.δ⟩,M3,G,vs,U,q4,S6,C,q7,a_ Fl x_,h3,?_⟩;rw[qv,h4];rfl
    |some x =>
     intro r6;rw[ei]at r6;have Jh:D∈(Io.hide ⟨Y.l,Z.δ⟩ D).δ:=dh;refine⟨vs,m,C,?_,ph _,by lia,by lia,⟨Y.l,Z.δ⟩,M3,G++[x],vs++[u],U,q4.grow hD C,S6.grow C Jh,xf,(q7.snoc r6).tr (ajp C Jh),by simp;exact Fl,h3,?_⟩
     .rw[<-q1.length]
      exact Ad (dz Fl (dz z3 q6)) (by decide)
     .rw[qv,h4];simp[azx])
set_option tactic.hygienic true in
def aat{N:Yf}(hk:N.length-X.N.length=k)(ho:∀i∈Bw t,X.N.length<=i):∀σ H Q,σ.length=X.N.length->tE nm W X.K (.comp v0 k t it e') σ H Q ->
 aeo (N.length-X.N.length) (tI nm W X.K it) (tGt nm X.K t) (λ_ H Q=>Q true H) (tE nm W X.K e') σ H Q:=fun σ H Q J hh=>by
 obtain⟨ι,ρ,M,d,M',S,R,e,q⟩:=hh;obtain⟨s,M1,ds,M2,e1,Z,e2,ek⟩:=amc e;refine aas hk ho J S R e1 Z e2 ek q λd M2 o M3 Y=>?_
 split at Y
 .rename_i L G
  obtain⟨x,M4,e5,Y⟩:=fc Y;cases Y;refine⟨L,G,λqj qq H5 G1 G0 S5 R5 g=>?_⟩;show if true=true then _ else _
  rw[bx rfl];exact one (X:=X) S5 R5 e5 λC H6 u U S6 R6 r6=>g C H6 u U S6 r6
 .cases Y
def aet(h:(Ex.Du v k t it c' e').den W ρ M=.ok d M'):∃s M1 G M2,it.den W ρ M=.ok s M1/\s.len<=100000 /\
 MW.Cy s.fin s.item (λd M=>match t.put d (ρ++List.replicate k none)with|some Z=>(c'.den W Z M).bind λb M'=>(match b with|.bl true=>(e'.den W Z M').bind λx U=>.ok (some x) U|.bl false=>.ok none M'|_=>.bad)|none=>.bad) s.len 0 M1=.ok G M2/\keptAs v G M2=.ok d M':=by
 rw[MW.W5]at h;obtain⟨s,M1,e1,h⟩:=fc h;obtain⟨G,M2,R,h⟩:=fc h;exact⟨s,M1,G,M2,e1,(Wk R).1,(Wk R).2,h⟩
set_option tactic.hygienic true in
def Vs{N:Yf}(hk:N.length-X.N.length=k)(ho:∀i∈Bw t,X.N.length<=i):∀σ H Q,σ.length=X.N.length->tE nm W X.K (.Du v0 k t it c' e') σ H Q ->
 aeo (N.length-X.N.length) (tI nm W X.K it) (tGt nm X.K t) (tQ nm W X.K c') (tE nm W X.K e') σ H Q:=fun σ H Q qq hh=>by
 obtain⟨ι,ρ,M,d,M',S,R,e,q⟩:=hh;obtain⟨s,M1,ds,M2,e1,G,e2,ek⟩:=aet e;refine aas hk ho qq S R e1 G e2 ek q λd M2 o M3 Z=>?_
 split at Z
 .rename_i qj L
  obtain⟨x,M4,e5,Z⟩:=fc Z;refine⟨qj,L,λqv qk H5 G1 G0 S5 R5 g=>?_⟩;split at Z
  .obtain⟨y,M6,e6,Z⟩:=fc Z
   cases Z;refine Zq (X:=X) S5 R5 e5 λJ H6 Y S6 R6=>?_
   rw[bx rfl];exact one (X:=X) S6 R6 e6 λU H7 u C S7 R7 r7=>g U H7 u (Y.trans C) S7 r7
  .cases Z
   refine Zq (X:=X) S5 R5 e5 λJ H6 Y S6 R6=>?_
   rw[bw (by simp)];exact g J H6 .non Y S6
  .cases Z
 .cases Z
def PE.aeu(h:PE X e t)(w:∀σ H Q,σ.length=X.N.length->t' σ H Q->t σ H Q):PE X e t':=λZ s σ H Q I q=>h Z s σ H Q I (w σ H Q I.len q)
def PS.aeu(h:PS X st t)(w:∀D σ H,σ.length=X.N.length->t' D σ H->t D σ H):PS X st t':=λZ s σ H D I q=>h Z s σ H D I (w D σ H I.len q)
def a4b(B:Fi X N scope)(J0:X.calm=true)(G:PI X tg iter (tI nm W X.K it))(hg:∀C Z s H,PG (Np X N scope C Z s H) tg (tGt nm X.K t))(he:∀C Z s H,PE (Np X N scope C Z s H) elt (tE nm W X.K e'))(R:Hj iter=true)(U:N.length-X.N.length=k)(ho:∀i∈Bw t,X.N.length<=i):PE X (.ListComp elt [⟨tg,iter,[],0⟩] scope pos) (tE nm W X.K (.comp v0 k t it e')):=
 PE.aeu (ajm B J0 G hg (λ_ _ _ _=>.inl ⟨rfl,rfl⟩) he (Ey R X.env)) (aat U ho)
def aqr(B:Fi X N scope)(J0:X.calm=true)(U:PI X tg iter (tI nm W X.K it))(hg:∀C Z s H,PG (Np X N scope C Z s H) tg (tGt nm X.K t))(hc:∀C Z s H,PT (Np X N scope C Z s H) c (tQ nm W X.K c'))(R:∀C Z s H,PE (Np X N scope C Z s H) elt (tE nm W X.K e'))(hs:Hj iter=true)(G:N.length-X.N.length=k)(ho:∀i∈Bw t,X.N.length<=i):PE X (.ListComp elt [⟨tg,iter,[c],0⟩] scope pos) (tE nm W X.K (.Du v0 k t it c' e')):=
 PE.aeu (ajm B J0 U hg (λ_ _ _ _=>.inr ⟨c,rfl,hc _ _ _ _⟩) R (Ey hs X.env)) (Vs G ho)
def aev(h:∀σ H Q,σ.length=X.N.length->tE nm W X.K e' σ H Q->tt σ H Q):∀D σ H,σ.length=X.N.length->tS nm W X.K (.asg (.tg (.name i)) e') D σ H->a2j tt (ai9 i) D σ H:=λD σ H Z hh=>by obtain⟨ι,ρ,M,fl,qq,M',S,R,e,q⟩:=hh;rw[MW.abf]at e;obtain⟨x,M1,e1,e⟩:=fc e;obtain⟨qj,M2,U,e⟩:=fc e;cases e;rw[MW.aoo]at U;obtain⟨e3,e4⟩:=vz U;subst e4;cases e3;exact h σ H _ Z (one S R e1 λG H1 v le S1 R1 r=>q G H1 _ le S1 (R1.set r i))
def amd{y:Str}(B:Fi X N scope)(J0:X.calm=true)(R:PI X tg iter (tI nm W X.K it))(hg:∀C G s H,PG (Np X N scope C G s H) tg (tGt nm X.K t))(he:∀C G s H,PE (Np X N scope C G s H) elt (tE nm W X.K e'))(hs:Hj iter=true)(hk:N.length-X.N.length=k)(ho:∀i∈Bw t,X.N.length<=i)(hN:X.N.Nodup)(U:X.N[i]?=some y)(hl:X.env.scope.names.lookup y=some .local)(Z:swapsWith (.ListComp elt [⟨tg,iter,[],0⟩] scope pos) (some (.Name y py)) aqh.line X.env=pure true):PS X (.Assign [.Name y py] (.ListComp elt [⟨tg,iter,[],0⟩] scope pos) aqh) (tS nm W X.K (.asg (.tg (.name i)) (.comp v0 k t it e'))):=
 PS.aeu (ajn B J0 R hg (λ_ _ _ _=>.inl ⟨rfl,rfl⟩) he (Ey hs X.env) hN U hl Z) (aev (aat hk ho))
def aew{y:Str}(B:Fi X N scope)(J0:X.calm=true)(hi:PI X tg iter (tI nm W X.K it))(hg:∀C Z s H,PG (Np X N scope C Z s H) tg (tGt nm X.K t))(hc:∀C Z s H,PT (Np X N scope C Z s H) c (tQ nm W X.K c'))(he:∀C Z s H,PE (Np X N scope C Z s H) elt (tE nm W X.K e'))(hs:Hj iter=true)(R:N.length-X.N.length=k)(ho:∀i∈Bw t,X.N.length<=i)(hN:X.N.Nodup)(U:X.N[i]?=some y)(hl:X.env.scope.names.lookup y=some .local)(G:swapsWith (.ListComp elt [⟨tg,iter,[c],0⟩] scope pos) (some (.Name y py)) aqh.line X.env=pure true):PS X (.Assign [.Name y py] (.ListComp elt [⟨tg,iter,[c],0⟩] scope pos) aqh) (tS nm W X.K (.asg (.tg (.name i)) (.Du v0 k t it c' e'))):=
 PS.aeu (ajn B J0 hi hg (λ_ _ _ _=>.inr ⟨c,rfl,hc _ _ _ _⟩) he (Ey hs X.env) hN U hl G) (aev (Vs R ho))
end
def spF(nm:Nm)(W:Jm)(K:Fg)(n f:Nat):Sp:=λvs H Q _=>∃R M U d M',km nm K R H M/\o4 K R H U vs/\U.length=n/\W.call f U M=.ok d M'/\∀Z G v,Le R H Z G->km nm K Z G M'->Rep K Z G d v->Q v G
def s_call(F:Gf X.prog X.w X.K X.mg X.base CX0 k fa fd ps (spF nm W X.K n f))(hr:Af k X.A)(hg:Gl X x)(hm:X.mg x=some (.ref fa))(hk:PySem.W.keepIn X.K (.ref fa)=true)(hb:Binds X.K fd ps [])(G:Df.len Z=n)(ha:PA X (a::U) (Yb nm W X.K Z))(Vk:(x==("__debug__": Str))=false)(he:starEach (a::U) X.env=(false,eval a X.env)::starEach U X.env)(Jg:(backTo pos (starEach U X.env)).any (·.1)=false) :
 PE X (.Call (.Name x p) (a::U) [] pos) (tE nm W X.K (.call f Z)):=
 PE.of (av7 (E:=E0) F hr hg hm hk hb .nil ajk ha Vk he Jg) fun σ H Q ι ρ M d M' S R e q=>by
  rw[MW.aoh]at e;obtain⟨ds,M1,e1,e⟩:=fc e;refine Yg S R e1 λqj H1 vs le S1 R1 r=>?_
  rw[Ah];exact⟨qj,M1,ds,d,M',S1,r,(Gv e1).trans G,e,λqq H' v Zg S' r'=>q qq H' v (le.trans Zg) S' r'⟩
def a4c(qk:Mk X.K C fa)(F:Gf X.prog X.w X.K X.mg X.base CX0 k fa fd ps (spF nm W X.K (n+1) f))(hr:Af (k+1) X.A)(hg:Gl X x)(hm:X.mg x=some (.ref C))(hb:Binds X.K fd ps [])(q0:W.cls[ci]?=some cl)(Zi:cl.init=f)(qj:nm.cls ci=some C)(qq:Df.len U=n)(ha:PA X (a::es) (Yb nm W X.K U))(Vk:(x==("__debug__": Str))=false)(he:starEach (a::es) X.env=(false,eval a X.env)::starEach es X.env)(Jg:(backTo pos (starEach es X.env)).any (·.1)=false) :
 PE X (.Call (.Name x p) (a::es) [] pos) (tE nm W X.K (.make ci U)):=
 PE.of (av9 (E:=E0) qk F hr hg hm hb .nil ajk ha Vk he Jg) fun σ H Q ι ρ M d M' S R e q=>by
  rw[MW.W4]at e;obtain⟨ds,Z,e1,e⟩:=fc e;rw[q0]at e;have e:((W.call cl.init (.ref Z.length::ds) (Z++[.ins ci []])).bind λr M2=>match r with|.non=>.ok (.ref Z.length) M2|_=>.bad)=.ok d M':=e;obtain⟨r0,M2,e2,e⟩:=fc e;refine Yg S R e1 λG H1 vs le S1 R1 r=>λp dx hp qv Uy=>?_
  rw[Ah];have keep:∀a u,H1 a=some u->upd (upd H1 dx (.own p)) p (.ins C dx []) a=some u:=λa u e=>by rw[my (m5 e hp),my (m5 e qv)];exact e
  obtain⟨S2,Aj⟩:=S1.new (o:=.ins ci []) hp keep λ_=>⟨C,dx,[],qj,xf,.nil⟩
  have rp:Rep X.K (G.add p) (upd (upd H1 dx (.own p)) p (.ins C dx [])) (.ref Z.length) (.ref p):=.ref (by show(G.l++[p])[Z.length]?=some p;rw[<-S1.len];simp);refine⟨G.add p,Z++[.ins ci []],.ref Z.length::ds,r0,M2,S2,.cons rp (r.mono Aj),by rw[gn,Gv e1,qq],by rw[<-Zi];exact e2,λq1 H' v Zg S' r'=>?_⟩;cases r'<;>try cases e
  exact⟨rfl,q q1 H' _ (le.trans (Aj.trans Zg)) S' (rp.mono Zg)⟩
theorem Yk{Z:Nm}{R:Io}{H:Hp}{m:Str}{K:Fg}(U:∀i,Z.fld i≠m):∀{fs:List (Nat×Dv)}{l:List (Str×V)},ud K R H (λk G=>G=Z.fld k) fs l->l.lookup m=none
 |_,_,.nil=>rfl
 |_,_,.cons (k:=kk) (k':=kk') hk h t=>by
  subst hk;rw[nq];have z:(m==Z.fld kk)=false:=by
   cases z:m==Z.fld kk with
   |false=>rfl|true=>exact absurd (eq_of_beq z).symm (U kk)
  rw[z];exact Yk U t
def a4d{nm:Nm}{W:Jm}{X:Cx}{a o:Expr}{o':Ex}{pos Z:Pos}{es:Ya}{U:Df}{k n f:Nat}{fa C:Addr}{fd:FuncData}{ps:Yf}{m:Str}{mi ci:Nat}{cl:MW.Cl}{pl:Sem Bool}(ho:PE X o (tE nm W X.K o'))(c0:Cls X.K C)(qk:Meth X.K C m fa)(F:Gf X.prog X.w X.K X.mg X.base CX0 k fa fd ps (spF nm W X.K (n+1) f))(hr:Af k X.A)(hb:Binds X.K fd ps [])
 (q0:∀c' G,W.cls[c']?=some G->∀g,G.meths.lookup mi=some g->nm.cls c'=some C/\g=f) (Z4:∀i,nm.fld i≠m)
 (qq:Df.len U=n) (ha:PA X (a::es) (Yb nm W X.K U)) (he:starEach (a::es) X.env=(false,eval a X.env)::starEach es X.env) (Jg:(backTo pos (starEach es X.env)).any (·.1)=false)
 (ht:eval (.Call (.Attribute o m Z) (a::es) [] pos) X.env=(do
  let ov<-eval o X.env
  standAt Z.atName
  let (f,first) <-holding [ov] (getMethod ov m pl)
  callWith pos f first (backTo pos (starEach (a::es) X.env)) (backToKw pos (keywordEach [] X.env)))) :
 PE X (.Call (.Attribute o m Z) (a::es) [] pos) (tE nm W X.K (.meth o' mi U)):=
 PE.of (av8 (E:=E0) ho c0 qk F hr hb .nil ajk ha he Jg ht) fun σ H Q ι ρ M d M' S R e q=>by
  rw[MW.Gq]at e;obtain⟨x,M1,e1,e⟩:=fc e;obtain⟨ds,M2,e2,e⟩:=fc e;refine one S R e1 λq2 H1 v le S1 R1 r=>?_
  obtain⟨j,hx⟩:∃j,x=.ref j:=by cases x<;>first|exact⟨_,rfl⟩|cases e
  subst hx;obtain⟨p,rfl,hp⟩:∃p,v=.ref p/\q2.l[j]?=some p:=by cases r with|ref z=>exact⟨_,rfl,z⟩
  have e:(match M1[j]? with
   | some (.ins c _)=>(match(W.cls[c]?).bind λC=>C.meths.lookup mi with
    | some f=>W.call f (.ref j::ds) M2|none=>.bad)
   | _=>.bad)=Res.ok d M':=e
  cases hM:M1[j]? with
  |none=>rw[hM]at e;cases e
  |some ob =>
   rw[hM]at e;cases ob with
   |ins ci fs =>
    have e:(match(W.cls[ci]?).bind λC=>C.meths.lookup mi with|some f=>W.call f (.ref j::ds) M2|none=>.bad)=Res.ok d M':=e;cases hL:(W.cls[ci]?).bind λC=>C.meths.lookup mi with
    |none=>rw[hL]at e;cases e
    |some g =>
     rw[hL]at e;have e:W.call g (.ref j::ds) M2=.ok d M':=e;obtain⟨G,h1,h2⟩:=gf.mp hL;obtain⟨h3,rfl⟩:=q0 ci G h1 g h2;obtain⟨C',dx,l,g1,g2,g3⟩:=S1.obj j _ p hM hp;rw[h3]at g1;cases g1;have qj:l.lookup m=none:=Yk Z4 g3;refine⟨p,dx,l,rfl,g2,qj,Yg S1 R1 e2 λqv H2 vs Aj S2 R2 r2=>?_⟩;rw[Ah];exact⟨qv,M2,.ref j::ds,d,M',S2,.cons (r.mono Aj) r2,by rw[gn,Gv e2,qq],e,λq1 H' v Zg S' r'=>q q1 H' v ((le.trans Aj).trans Zg) S' r'⟩
   |_=>cases e
def a4f:PE X (.Dict [] [] pos) (tE nm W X.K .ak8):=PE.of ap8 fun σ H Q ι ρ M d M' S R e q=>by
 rw[MW.aof]at e;cases e;intro p Z;obtain⟨U,G⟩:=S.new (o:=.dT []) (H':=upd H p (.dT [])) Z (λa u e=>by rw[my (m5 e Z)];exact e) λ_=>⟨[],xf,.nil⟩
 exact q _ _ _ G U (.ref (by show(ι.l++[p])[M.length]?=some p;rw[<-S.len];simp))
def a4g:PE X (.Dict [] [] pos) (tE nm W X.K .abb):=PE.of ap7 fun σ H Q ι ρ M d M' S R e q=>by
 rw[MW.aog]at e;cases e;intro p Z;obtain⟨U,G⟩:=S.new (o:=.dK []) (H':=upd H p (.dK [])) Z (λa u e=>by rw[my (m5 e Z)];exact e) λ_=>⟨[],xf,.nil⟩
 exact q _ _ _ G U (.ref (by show(ι.l++[p])[M.length]?=some p;rw[<-S.len];simp))
def bgq(R:Nm)(K:Fg):a2f:=λo i v H Q=>∃Z M x y d U,km R K Z H M/\Rep K Z H x o/\Rep K Z H y i/\Rep K Z H d v/\MW.setOp x y d M=some U/\∀G,Le Z H Z G->km R K Z G U->Q G
def Yl(h:n<100000):n<sizeLine:=gw h Gu
set_option tactic.hygienic true in
def awt(hu:X.A.units+1<cLine):a2g X (bgq nm X.K):=by
 intro U s σ H o i v ov iv u Q I ro ri rv hh;obtain⟨ι,M,x,y,d,M',S,rx,ry,rd,e,q⟩:=hh;obtain⟨j,hx⟩:∃j,x=.ref j:=by cases x<;>first|exact⟨_,rfl⟩|cases e
 subst hx;obtain⟨p,rfl,G⟩:∃p,o=.ref p/\ι.l[j]?=some p:=by cases rx with|ref z=>exact⟨_,rfl,z⟩
 simp only[MW.setOp]at e;split at e
 .rename_i xs Z
  split at e
  .rename_i k
   obtain⟨qq,L,e2⟩:=cj.mp e;subst e2;cases ry;obtain⟨vs,C,Y⟩:=S.obj j _ p Z G;refine set_list U s σ H _ _ v ov iv u Q I ro ri rv ⟨p,vs,k,qq,rfl,rfl,C,by rw[<-Y.length];exact L,?_⟩;obtain⟨R,J⟩:=S.put (u:=.lst (vs.set qq v)) (o:=.lst (xs.set qq d)) Z G λle=>⟨_,xf,(Y.mono le).set (rd.mono le) qq⟩
   exact q _ J R
  .cases e
 .rename_i ie Z
  obtain⟨k,L,e⟩:=gf.mp e;split at e<;>cases e;rename_i hl;obtain⟨l,C,Y⟩:=S.obj j _ p Z G;obtain⟨b,rfl,hb⟩:=acd ry L;cases ro;refine aam (H':=upd H p (.dT (putK l k v))) (y:=.ref b) (v:=v) hu I (ahc.t C hb (by rw[<-Y.length];exact Yl hl)) ri rv λs' I'=>⟨_,I',?_⟩
  obtain⟨R,J⟩:=S.put (u:=.dT (putK l k v)) (o:=.dT (MW.Cw ie k d)) Z G λle=>⟨_,xf,(Y.mono le).put (rd.mono le)⟩
  exact q _ J R
 .rename_i ie Z
  obtain⟨k,L,e⟩:=gf.mp e;split at e<;>cases e;rename_i hl;obtain⟨l,C,Y⟩:=S.obj j _ p Z G;have hy:=Yh ry L;subst hy;cases ro;refine aam (H':=upd H p (.dK (putK l k v))) (y:=kV k) (v:=v) hu I (ahc.k C (by rw[<-Y.length];exact Yl hl)) ri rv λs' I'=>⟨_,I',?_⟩
  obtain⟨R,J⟩:=S.put (u:=.dK (putK l k v)) (o:=.dK (MW.Cw ie k d)) Z G λle=>⟨_,xf,(Y.mono le).put (rd.mono le)⟩
  exact q _ J R
 .cases e
def Ym(h:Uo e=true)(t:Expr)(l:Nat)(Z:Env):swapsWithSole [t] e l Z=pure false:=by unfold swapsWithSole;exact O7 h _ _ _
def aqs(e o b:Expr)(p:Pos)(l:Nat)(Z:Env):swapsWithSole [.Subscript o b p] e l Z=pure false:=by cases e<;>rfl
def aqt(hu:X.A.units+1<cLine)(he:PE X a (tE nm W X.K a'))(ho:PE X o (tE nm W X.K o'))(hi:PE X b (tE nm W X.K b'))(ha:∀v,assign (.Subscript o b pos') X.env v=(do
 let ov<-holding [v] (eval o X.env)
 let iv<-holding [v,ov] (eval b X.env)
 standAt pos'
 holding [v,ov,iv] (setItem ov iv v)
 release [v,ov,iv] [])):PS X (.Assign [.Subscript o b pos'] a pos) (tS nm W X.K (.asg (.sub o' b') a')):=
 PS.of (apn he (a2i ho hi (awt (nm:=nm) hu) ha) (aqs _ _ _ _ _ _) (by rfl) (by rfl)) λD σ H ι ρ M fl qq M' S R e q=>by
  rw[MW.abf]at e;obtain⟨x,M1,e1,e⟩:=fc e;obtain⟨qj,M2,G,e⟩:=fc e;cases e;rw[MW.avd]at G;obtain⟨y,M3,e3,G⟩:=fc G;obtain⟨z,M4,e4,G⟩:=fc G;obtain⟨M5,M6,e5,e6⟩:=fc G;obtain⟨e7,e8⟩:=vz e5;subst e8;cases e6;refine one S R e1 λqv H1 v le S1 R1 r=>?_
  refine one S1 R1 e3 λqk H2 v2 Aj S2 R2 r2=>one S2 R2 e4 λU H3 v3 Z S3 R3 r3=>?_
  exact⟨U,_,y,z,x,_,S3,r2.mono Z,r3,(r.mono Aj).mono Z,e7,λH' Zg S'=>q U H' σ (((le.trans Aj).trans Z).trans Zg) S' (R3.mono Zg)⟩
set_option tactic.hygienic true in
def aqu(hn:n=nm.fld f)(L:∀c C,nm.cls c=some C->Cls X.K C/\Ka X.K C n)(he:PE X a (tE nm W X.K a'))(ho:PE X o (tE nm W X.K o'))(Jg:Uo a=true) :
 PS X (.Assign [.Attribute o n pos'] a pos) (tS nm W X.K (.asg (.fld o' f) a')):=
 PS.of (a2x ho he (O7 Jg _ _ _)) λD σ H ι ρ M fl qq M' S R e q=>by
  rw[MW.abf]at e;obtain⟨x,M1,e1,e⟩:=fc e;obtain⟨qj,M2,J,e⟩:=fc e;cases e;rw[MW.ave]at J;obtain⟨y,M3,e3,J⟩:=fc J;obtain⟨M5,M6,e5,e6⟩:=fc J;obtain⟨Z,e8⟩:=vz e5;subst e8;cases e6;refine one S R e1 λqk H1 v le S1 R1 r=>one S1 R1 e3 λG H2 v2 Aj S2 R2 r2=>?_
  obtain⟨j,hx⟩:∃j,y=.ref j:=by cases y<;>first|exact⟨_,rfl⟩|cases Z
  subst hx;obtain⟨p,rfl,hp⟩:∃p,v2=.ref p/\G.l[j]?=some p:=by cases r2 with|ref z=>exact⟨_,rfl,z⟩
  simp only[MW.Ru]at Z;split at Z
  .rename_i c fs hM
   have hl:fs.length<1000:=by
    by_cases z:fs.length<1000
    .exact z
    .rw[bw z]at Z;cases Z
   rw[bx hl]at Z;cases Z;obtain⟨C,U,l,h1,h2,h3⟩:=S2.obj j _ p hM hp;subst hn;obtain⟨g1,g2⟩:=L c C h1;refine⟨p,C,U,l,rfl,h2,g1,g2,by rw[<-h3.length];exact hl,?_⟩;obtain⟨S3,Y⟩:=S2.put (u:=.ins C U (Jj (nm.fld f) v l)) (o:=.ins c (MW.U3 f x fs)) hM hp λZg=>⟨C,U,_,h1,xf,(h3.mono Zg).Jj ((r.mono Aj).mono Zg)⟩
   exact q G _ σ ((le.trans Aj).trans Y) S3 (R2.mono Y)
  .cases Z
def Bx.weak(h:Bx X f r)(w:∀G H Q,r' G H Q->r G H Q):Bx X f r':=λZ s U H G R Q I rs q=>h Z s U H G R Q I rs (w G H Q q)
def rB(nm:Nm)(K:Fg)(b:Blt):List V->Hp->VK->Prop:=λvs H Q=>∃U M R d M',km nm K U H M/\o4 K U H R vs/\MW.rm b R M=.ok d M'/\∀Z G v,Le U H Z G->km nm K Z G M'->Rep K Z G d v->Q v G
def Bx.of(h:Bx X f r)(w:∀vs H Q G M U d M',km nm X.K G H M->o4 X.K G H U vs->MW.rm bb U M=.ok d M'->(∀Z R v,Le G H Z R->km nm X.K Z R M'->Rep X.K Z R d v->Q v R)->r vs H Q):Bx X f (rB nm X.K bb):=
 Bx.weak h λvs H Q z_=>by obtain⟨G,M,U,d,M',S,r,e,q⟩:=z_;exact w vs H Q G M U d M' S r e q
def aex{X:Cx}:∀G H Q,tE nm W X.K (.blt t Z) G H Q->tCB (rB nm X.K t) (Yb nm W X.K Z) G H Q:=λG H Q hh=>by obtain⟨ι,ρ,M,d,M',S,R,e,q⟩:=hh;rw[MW.abe]at e;obtain⟨ds,M1,e1,e⟩:=fc e;exact Yg S R e1 λqq H1 vs le S1 R1 r=>⟨qq,M1,ds,d,M',S1,r,e,λU H' v Zg S' r'=>q U H' v (le.trans Zg) S' r'⟩
def ajt{id:String}(hc:Bx X (.builtin id) (rB nm X.K t))(hg:Gl X x)(hm:X.mg x=none)(hv:bootBuiltins x=some (.builtin id))(ha:PA X (a::Z) (Yb nm W X.K G))(U:x≠"__name__")(Vk:(x==("__debug__": Str))=false)(R:starEach (a::Z) X.env=(false,eval a X.env)::starEach Z X.env)(Jg:(backTo pos (starEach Z X.env)).any (·.1)=false):PE X (.Call (.Name x p) (a::Z) [] pos) (tE nm W X.K (.blt t G)):=PE.weak (ap2 hc hg hm hv ha U Vk R Jg) aex
def ace(hc:Bx X (.type T) (rB nm X.K t))(hg:Gl X x)(hm:X.mg x=none)(hv:bootBuiltins x=some (.type T))(ha:PA X (a::Z) (Yb nm W X.K G))(U:x≠"__name__")(Vk:(x==("__debug__": Str))=false)(R:starEach (a::Z) X.env=(false,eval a X.env)::starEach Z X.env)(Jg:(backTo pos (starEach Z X.env)).any (·.1)=false):PE X (.Call (.Name x p) (a::Z) [] pos) (tE nm W X.K (.blt t G)):=PE.weak (al3 hc hg hm hv ha U Vk R Jg) aex
def Ez(r:o4 K Z H ds G)(h:ds=[d]):∃v,G=[v]/\Rep K Z H d v:=by subst h;cases r with|cons h t=>cases t;exact⟨_,rfl,h⟩
def awu:Bx X (.type "tuple") (rB nm X.K .tuple):=Bx.of Zo λvs H Q R M ds d M' S r e q=>by
 cases r with
 |nil=>simp[MW.rm]at e
 |@cons x v _ _ h t =>
  cases t with
  |cons h2 t2=>simp[MW.rm]at e
  |nil =>
   have e:Res.ux ((MW.Bk M x).map MW.D.tup) M=.ok d M':=e;obtain⟨e1,e2⟩:=vz e;subst e2;obtain⟨xs,e3,rfl⟩:=cj.mp e1;obtain⟨p,U,rfl,Z,G⟩:=Kz S h e3;rcases Z with Z|Z
   .refine⟨p,U,rfl,.inl ⟨Hq.of Z,λl hl=>?_⟩⟩
    obtain⟨S2,Aj,r2⟩:=Mf S hl G;exact q R _ _ Aj S2 r2
   .exact⟨p,U,rfl,.inr ⟨Hl.of Z,q R H _ (Le.refl _ _) S (.tup Z G)⟩⟩
set_option tactic.hygienic true in
def baz:Bx X (.builtin "len") (rB nm X.K .len):=Bx.of ab6 λvs H Q C M Y d M' S r e q=>by
 cases r with
 |nil=>simp[MW.rm]at e
 |@cons x v _ _ h t =>
  cases t with
  |cons h2 t2=>simp[MW.rm]at e
  |nil =>
   have fin:∀G,(MW.Bk M x=some G)->d=.int G.length->M'=M->∃p J,[v]=[V.ref p]/\(Hq X.K H p J\/Hl X.K H p J)/\Q (.int J.length) H:=λG e3 Z e2=>by subst Z e2;obtain⟨p,u,rfl,y,L⟩:=Kz S h e3;exact⟨p,u,rfl,y.imp Hq.of Hl.of,by rw[<-L.length];exact q C H _ (Le.refl _ _) S (.int _)⟩
   cases h with
   |fz Z U =>
    cases e;exact⟨_,_,rfl,.inl Z.sq,by rw[<-U.length];exact q C H _ (Le.refl _ _) S (.int _)⟩
   |@ref n p Z =>
    have e:(match M[n]? with|some (.lst Y)=>Res.ok (MW.D.int Y.length) M|_=>.bad)=Res.ok d M':=e;split at e
    .rename_i Y R
     cases e;exact fin Y (by simp[MW.Bk,MW.gm,R]) rfl rfl
    .cases e
   |tup Z U=>cases e;exact fin _ rfl rfl rfl|vl Z n1 U=>cases e;exact fin _ rfl rfl rfl|_=>cases e
open MW
noncomputable def Hm(f:Dv->Dv->Option Bool)(Z bs:List Dv)(j:Nat):Bool:=match Z[j]?,bs[j]? with
 |some a,some b=>(f a b).getD false|_,_=>false
set_option tactic.hygienic true in
theorem Jc{f:Dv->Dv->Option Bool}:∀{Z bs:List Dv}{r:Bool},MW.Rq f Z bs=some r->(∀(j:Nat) a b,Z[j]?=some a->bs[j]?=some b->∃c,f a b=some c) /\
 r=((List.range (min Z.length bs.length)).all (Hm f Z bs)&&Z.length==bs.length)
 |[],[],r,h=>by cases h;exact⟨λj a b e=>by simp at e,by simp⟩
 |[],b::bs,r,h=>by cases h;exact⟨λj a b e=>by simp at e,by simp⟩
 |a::Z,[],r,h=>by cases h;exact⟨λj a b _ e=>by simp at e,by simp⟩
 |a::Z,b::bs,r,h=>by
  simp only[MW.Rq]at h;split at h
  .rename_i x y J u
   cases h;obtain⟨S,C⟩:=Jc u;refine⟨λj a' R Y G=>?_,?_⟩
   .cases j with
    |zero=>simp at Y G;subst Y G;exact⟨x,J⟩|succ j=>exact S j a' R (by simpa using Y) (by simpa using G)
   .rw[gn,gn,Nat.succ_min_succ,List.range_succ_eq_map,List.all_cons,List.all_map]
    have z:Hm f (a::Z) (b::bs) 0=x:=by simp[Hm,J]
    have U:(Hm f (a::Z) (b::bs) ∘ Nat.succ)=Hm f Z bs:=by funext j;simp[Hm]
    rw[z,U,C];have L:(Z.length+1==bs.length+1)=(Z.length==bs.length):=by
     by_cases q:Z.length=bs.length
     .simp[q]
     .have:¬(Z.length+1=bs.length+1):=by lia
      simp[q,this]
    rw[L,Bool.and_assoc]
  .cases h
set_option tactic.hygienic true in
theorem O8{Z:Io}{H:Hp}{K:Fg}{f:Dv->Dv->Option Bool}(J:∀x y v r,Rep K Z H x v->Rep K Z H y v->f x y=some r->r=true):∀{Y bs:List Dv}{G:List V}{r:Bool},o4 K Z H Y G->o4 K Z H bs G->MW.Rq f Y bs=some r->r=true
 |_,_,_,_,.nil,.nil,h=>by cases h;rfl
 |_,_,_,_,.cons h1 t1,.cons h2 t2,h=>by
  simp only[MW.Rq]at h;split at h
  .rename_i x y U C
   cases h;rw[J _ _ _ _ h1 h2 U,O8 J t1 t2 C];rfl
  .cases h
inductive EqI(M:di)(f:Dv->Dv->Option Bool):Dv->Dv->Bool->Prop
 |bl (a b:Bool):EqI M f (.bl a) (.bl b) (a==b)
 |str (a b:Str):EqI M f (.str a) (.str b) (decide (a=b))
 |int (a b:Int):EqI M f (.int a) (.int b) (decide (a=b))
 |tup {as bs:List Dv} {r:Bool} (h:MW.Rq f as bs=some r):EqI M f (.tup as) (.tup bs) r
 |lst {x y:Dv} {as bs:List Dv} {r:Bool} (h1:MW.gm M x=some as) (h2:MW.gm M y=some bs) (h:(if as.length=bs.length then MW.Rq f as bs else some false)=some r):EqI M f x y r
set_option tactic.hygienic true in
def acf(h:MW.Nj M (k+1) x y=some r):EqI M (MW.Nj M k) x y r:=by
 unfold MW.Nj at h;split at h
 .cases h;exact .int _ _
 .cases h;exact .bl _ _
 .cases h;exact .str _ _
 .exact .tup h
 .split at h
  .rename_i Z Y;exact .lst Z Y h
  .cases h
def aey{X:Cx}(S:km nm X.K Z H M)(rx:Rep X.K Z H x v)(ry:Rep X.K Z H y v)(U:MW.gm M x=some ds)(h2:MW.gm M y=some R):∃vs,o4 X.K Z H ds vs/\o4 X.K Z H R vs:=by obtain⟨p,vs,rfl,g1,g2⟩:=uo S rx U;obtain⟨p',ws,hw,G,g4⟩:=uo S ry h2;cases hw;rw[g1]at G;cases G;exact⟨vs,g2,g4⟩
theorem acg{nm:Nm}{U:Io}{H:Hp}{M:di}{X:Cx}(S:km nm X.K U H M):∀(k:Nat)(x y:Dv)(v:V)(r:Bool),Rep X.K U H x v->Rep X.K U H y v->MW.Nj M k x y=some r->r=true
 |0,_,_,_,_,_,_,h=>by cases h
 |k+1,x,y,v,r,rx,ry,h=>by
  have R:=acg S k;cases acf h with
  |bl a b=>cases rx;cases ry;simp|str a b=>cases rx;cases ry;simp|int a b=>cases rx;cases ry;simp
  |tup h=>cases rx with
   |tup e1 G=>cases ry with
    |tup e2 Z=>rw[e1]at e2;cases e2;exact O8 R G Z h
  |lst h1 h2 h3 =>
   obtain⟨vs,G,Z⟩:=aey S rx ry h1 h2;rw[bx (G.length.trans Z.length.symm)]at h3;exact O8 R G Z h3
def Vals.aez{j:Nat}(r:Vals xs U)(G:xs[j]?=some v)(R:U[j]?=some u):RelV v u:=by obtain⟨u',Z,e2⟩:=L2.Vals.get r G;rw[R]at Z;cases Z;exact e2
theorem Rh{U:Io}{H:Hp}{K:Fg}:∀{l:List (List Kx×Dv)}{Z:List (List Key×V)},ud K U H (λk G=>k=G) l Z->Z.map (·.1)=l.map (·.1)
 |_,_,.nil=>rfl|_,_,.cons k h t=>by simp[Rh t,k]
def aju(r:KT H l G):G.map (·.1)=l.map (·.1)/\∀x∈G,H x.2.1=some (.tup (x.1.map kV)):=by
 induction r with
 |nil=>exact⟨rfl,by simp⟩
 |@cons p q ps qs hq t ih =>
  refine⟨by simp[ih.1,hq.1],λx Z=>?_⟩;rcases cu.mp Z with rfl|Z
  .rw[<-hq.1];exact hq.2.1
  .exact ih.2 x Z
set_option tactic.hygienic true in
theorem Yn{nm:Nm}{X:Cx}{ι:Io}{H:Hp}{σ:St}{M:di}{qk:Zp}{s:Shared}(I:Inv X qk σ H s)(S:km nm X.K ι H M):∀(k:Nat)(A:Around)(x y:Dv)(v u:V)(v' u':Value)(r:Bool),Af k A->Rep X.K ι H x v->Rep X.K ι H y u->RelV v v'->RelV u u'->MW.Nj M k x y=some r->SeqAt.EqAt A s v' u' r
 |0,_,_,_,_,_,_,_,_,_,_,_,_,_,h=>by cases h
 |k+1,A,x,y,v,u,v',u',r,hr,rx,ry,rv,ru,h=>by
  have ih:=Yn I S k A.in1;have q0:=hr.in1;have elems:∀(Y Z:List Dv)(vs ws:List V)(is J:Zl)(rr:Bool),o4 X.K ι H Y vs->o4 X.K ι H Z ws->Vals vs is->Vals ws J->MW.Rq (MW.Nj M k) Y Z=some rr ->
   ∀j (h1:j<is.toArray.size) (h2:j<J.toArray.size),SeqAt.EqAt A.in1 s is.toArray[j] J.toArray[j] (Hm (MW.Nj M k) Y Z j):=λY Z vs ws is J rr rd re Tf qv he j h1 h2=>by
   have l1:j<Y.length:=by rw[rd.length,Tf.length];simpa using h1
   have l2:j<Z.length:=by rw[re.length,qv.length];simpa using h2
   have C:Y[j]?=some Y[j]:=by simp[l1]
   have G:Z[j]?=some Z[j]:=by simp[l2]
   obtain⟨c,hc⟩:=(Jc he).1 j _ _ C G;obtain⟨va,a1,a2⟩:=rd.get C;obtain⟨wa,b1,b2⟩:=re.get G;have q1:is[j]?=some is.toArray[j]:=by simp
   have q2:J[j]?=some J.toArray[j]:=by simp
   have:=ih _ _ va wa _ _ c q0 a2 b2 (Vals.aez Tf a1 q1) (Vals.aez qv b1 q2) hc;have z:Hm (MW.Nj M k) Y Z j=c:=by simp[Hm,C,G,hc]
   rw[z];exact this
  have qj:∀(p p2:Addr)(Y Z:List Dv),v=.ref p->u=.ref p2->MW.gm M x=some Y->MW.gm M y=some Z->(if Y.length=Z.length then MW.Rq (MW.Nj M k) Y Z else some false)=some r->SeqAt.EqAt A s v' u' r:=λp p2 Y Z hv hu h1 h2 L=>by
   subst hv hu;cases rv;cases ru;obtain⟨_,vs,hv,C,G⟩:=uo S rx h1;cases hv;obtain⟨_,ws,hw,g3,g4⟩:=uo S ry h2;cases hw
   by_cases U:p=p2
   .subst U
    have:r=true:=by rw[C]at g3;cases g3;rw[bx (G.length.trans g4.length.symm)]at L;exact O8 (λx y v r a b c=>acg S k x y v r a b c) G g4 L
    rw[this];exact SeqAt.EqAt.same _
   .refine SeqAt.EqAt.of_refs U ?_
    obtain⟨is,r1,R,_⟩:=I.list (Hq.of C);obtain⟨J,r2,qq,_⟩:=I.list (Hq.of g3)
    by_cases hl:Y.length=Z.length
    .rw[bx hl]at L
     have q3:is.toArray.size=J.toArray.size:=by simp[<-r1.length,<-r2.length,<-G.length,<-g4.length,hl]
     have:=SeqAt.RcAt.lists (e:=Hm (MW.Nj M k) Y Z) R.isList qq.isList q3 hr.Xx (elems Y Z vs ws is J r G g4 r1 r2 L);rw[(Jc L).2];have e1:is.toArray.size=min Y.length Z.length:=by simp[<-r1.length,<-G.length,hl]
     rw[e1]at this;simpa[hl]using this
    .rw[bw hl]at L
     cases L;exact SeqAt.RcAt.lists_lengths R.isList qq.isList (by simp[<-r1.length,<-r2.length,<-G.length,<-g4.length,hl]) hr.Xx
  cases acf h with
  |bl a b=>cases rx;cases ry;cases rv;cases ru;exact SeqAt.EqAt.bool_bool _ _
  |str a b =>
   cases rx;cases ry;obtain⟨t,rfl⟩:=rv;obtain⟨t2,rfl⟩:=ru;rw[<-Bool.beq_eq_decide_eq];exact SeqAt.EqAt.str_str _ _ _ _
  |int a b =>
   cases rx;cases ry;obtain⟨t,rfl⟩:=rv;obtain⟨t2,rfl⟩:=ru;rw[<-Bool.beq_eq_decide_eq];exact SeqAt.EqAt.int_int _ _ _ _
  |@tup Y Z _ h=>cases rx with
   |@tup p _ vs e1 r1=>cases ry with
    |@tup p2 _ ws e2 r2 =>
     cases rv;cases ru
     by_cases U:p=p2
     .subst U
      have:r=true:=by rw[e1]at e2;cases e2;exact O8 (λx y v r a b c=>acg S k x y v r a b c) r1 r2 h
      rw[this];exact SeqAt.EqAt.same _
     .refine SeqAt.EqAt.of_refs U ?_
      obtain⟨is,C,R,_⟩:=I.tuple (Hl.of e1);obtain⟨J,G,qq,_⟩:=I.tuple (Hl.of e2);have:=SeqAt.RcAt.tuples (e:=Hm (MW.Nj M k) Y Z) (show s.heap.IsTuple p is.toArray from R) (show s.heap.IsTuple p2 J.toArray from qq) hr.Xx (elems Y Z vs ws is J r r1 r2 C G h);rw[(Jc h).2];have z1:is.toArray.size=Y.length:=by simp[<-C.length,<-r1.length]
      have z2:J.toArray.size=Z.length:=by simp[<-G.length,<-r2.length]
      rw[z1,z2]at this;exact this
  |lst h1 h2 L =>
   obtain⟨p,_,e1,_⟩:=uo S rx h1;obtain⟨p2,_,e2,_⟩:=uo S ry h2;exact qj p p2 _ _ e1 e2 h1 h2 L
inductive ach(A:Around)(s:Shared):Value->Value->Bool->Prop
 |Xu {p p2:Addr} {is js:U1} (e:Nat->Bool) (h1:s.heap.IsTuple p is) (h2:s.heap.IsTuple p2 js) (he:∀j (h1:j<is.size) (h2:j<js.size),SeqAt.EqAt A.in1 s is[j] js[j] (e j)):ach A s (.ref p) (.ref p2) ((List.range (min is.size js.size)).all e&&is.size==js.size)
 |ba1 {p p2:Addr} {is js:U1} (e:Nat->Bool) (h1:s.heap.IsList p is) (h2:s.heap.IsList p2 js) (hz:is.size=js.size) (he:∀j (h1:j<is.size) (h2:j<js.size),SeqAt.EqAt A.in1 s is[j] js[j] (e j)):ach A s (.ref p) (.ref p2) ((List.range is.size).all e)
 |lens {p p2:Addr} {is js:U1} (h1:s.heap.IsList p is) (h2:s.heap.IsList p2 js) (hz:(is.size != js.size)=true):ach A s (.ref p) (.ref p2) false
def aau{A:Around}(I:Inv X pins σ H s)(S:km nm X.K ι H M)(hr:Af k A.in1)(rd:o4 X.K ι H ds vs)(re:o4 X.K ι H Z ws)(Tf:Vals vs is)(G:Vals ws U)(he:MW.Rq (MW.Nj M k) ds Z=some rr) :
 ∀j (h1:j<is.toArray.size) (h2:j<U.toArray.size),SeqAt.EqAt A.in1 s is.toArray[j] U.toArray[j] (Hm (MW.Nj M k) ds Z j):=λj h1 h2=>by
 have l1:j<ds.length:=by rw[rd.length,Tf.length];simpa using h1
 have l2:j<Z.length:=by rw[re.length,G.length];simpa using h2
 have g1:ds[j]?=some ds[j]:=by simp[l1]
 have R:Z[j]?=some Z[j]:=by simp[l2]
 obtain⟨c,hc⟩:=(Jc he).1 j _ _ g1 R;obtain⟨va,a1,a2⟩:=rd.get g1;obtain⟨wa,b1,b2⟩:=re.get R;have q1:is[j]?=some is.toArray[j]:=by simp
 have q2:U[j]?=some U.toArray[j]:=by simp
 have:=Yn I S k A.in1 _ _ va wa _ _ c hr a2 b2 (Vals.aez Tf a1 q1) (Vals.aez G b1 q2) hc;have z:Hm (MW.Nj M k) ds Z j=c:=by simp[Hm,g1,R,hc]
 rw[z];exact this
def ahk(I:Inv X pins σ H s)(S:km nm X.K ι H M)(hr:Af k A.in1)(rx:Rep X.K ι H x v)(ry:Rep X.K ι H y u)(rv:RelV v v')(ru:RelV u u')(h1:MW.gm M x=some ds)(h2:MW.gm M y=some G)(R:(if ds.length=G.length then MW.Rq (MW.Nj M k) ds G else some false)=some r):ach A s v' u' r:=by
 obtain⟨p,vs,rfl,g1,g2⟩:=uo S rx h1;obtain⟨p2,ws,rfl,g3,g4⟩:=uo S ry h2;cases rv;cases ru;obtain⟨is,r1,qq,_⟩:=I.list (Hq.of g1);obtain⟨js,r2,U,_⟩:=I.list (Hq.of g3)
 by_cases Z:ds.length=G.length
 .rw[bx Z]at R
  have qj:is.toArray.size=js.toArray.size:=by simp[<-r1.length,<-r2.length,<-g2.length,<-g4.length,Z]
  have z:=ach.ba1 (A:=A) (Hm (MW.Nj M k) ds G) qq.isList U.isList qj (aau I S hr g2 g4 r1 r2 R);rw[(Jc R).2];have e1:is.toArray.size=min ds.length G.length:=by simp[<-r1.length,<-g2.length,Z]
  rw[e1]at z;simpa[Z]using z
 .rw[bw Z]at R
  cases R;exact .lens qq.isList U.isList (by simp[<-r1.length,<-r2.length,<-g2.length,<-g4.length,Z])
set_option tactic.hygienic true in
def ae0(I:Inv X pins σ H s)(S:km nm X.K ι H M)(R:Af k A.in1)(Z:Rep X.K ι H x v)(Y:Rep X.K ι H y u)(rv:RelV v v')(U:RelV u u')(h:MW.Nj M (k+1) x y=some r) :
 ach A s v' u' r\/(a2v v u=true/\r=decide (v=u)):=by
 cases acf h with
 |bl a b=>cases Z;cases Y;exact .inr ⟨rfl,by by_cases z:a=b<;>simp[z]⟩|str a b=>cases Z;cases Y;exact .inr ⟨rfl,by by_cases z:a=b<;>simp[z]⟩|int a b=>cases Z;cases Y;exact .inr ⟨rfl,by by_cases z:a=b<;>simp[z]⟩
 |@tup ds es _ h=>cases Z with
  |@tup p _ vs e1 r1=>cases Y with
   |@tup p2 _ ws e2 r2 =>
    cases rv;cases U;obtain⟨is,L,J,_⟩:=I.tuple (Hl.of e1);obtain⟨js,C,G,_⟩:=I.tuple (Hl.of e2);have z:=ach.Xu (A:=A) (Hm (MW.Nj M k) ds es) (show s.heap.IsTuple p is.toArray from J) (show s.heap.IsTuple p2 js.toArray from G) (aau I S R r1 r2 L C h);rw[(Jc h).2];have z1:is.toArray.size=ds.length:=by simp[<-L.length,<-r1.length]
    have z2:js.toArray.size=es.length:=by simp[<-C.length,<-r2.length]
    rw[z1,z2]at z;exact .inl z
 |lst h1 h2 h3=>exact .inl (ahk I S R Z Y rv U h1 h2 h3)
def ach.rc(h:ach A s v u r)(U:A.units<cLine):SeqAt.RcAt A s v u r/\SeqAt.RcNeAt A s v u (!r):=by
 cases h with
 |Xu e Z G R=>exact⟨SeqAt.RcAt.tuples Z G U R,SeqAt.RcNeAt.tuples Z G U R⟩|ba1 e Z G hz R=>exact⟨SeqAt.RcAt.lists Z G hz U R,SeqAt.RcNeAt.lists Z G hz U R⟩|lens Z G hz=>exact⟨SeqAt.RcAt.lists_lengths Z G hz U,SeqAt.RcNeAt.lists_lengths Z G hz U⟩
def bgr(U:Af 6 X.A):Dk X (compareOp .Eq) (Wi nm X.K .eq):=λZ s σ H v u v' u' Q I R G hh=>by
 obtain⟨ι,M,x,y,b,S,rx,ry,e,q⟩:=hh;have e:MW.Nj M 6 x y=some b:=e;rcases ae0 (A:=X.A) I S U.in1 rx ry R G e with h|⟨h1,h2⟩
 .exact(h.rc U.Xx).1 X.prog X.w X.xe _ ⟨.bl b,H,I,rfl,q⟩
 .subst h2
  exact a9a Z s σ H v u v' u' Q I R G ⟨h1,q⟩
def bgs(R:Af 6 X.A):Dk X (compareOp .NotEq) (Wi nm X.K .ne):=λZ s σ H v u v' u' Q I U G hh=>by
 obtain⟨ι,M,x,y,b,S,rx,ry,e,q⟩:=hh;obtain⟨b',e1,e2⟩:=cj.mp (show(MW.wj M x y).map not=some b from e);subst e2;rcases ae0 (A:=X.A) I S R.in1 rx ry U G (show MW.Nj M 6 x y=_ from e1)with h|⟨h1,h2⟩
 .exact(h.rc R.Xx).2 X.prog X.w X.xe _ ⟨.bl !b',H,I,rfl,q⟩
 .subst h2
  exact a9b Z s σ H v u v' u' Q I U G ⟨h1,q⟩
section
variable{nm:Nm}{W:Jm}{X:Cx}{a b c o:Expr}{a' b' c' o':Ex}{pos pos' apos:Pos}{ι:Io}{H:Hp}{σ:St}{ρ:En}{M M1 M2:di}{x y:Dv}{es:Ya}{es':Df}
set_option tactic.hygienic true in
theorem Pk:∀{Z:List Dv}{bs:List Bool},MW.Rr M x Z=some bs->bs.length=Z.length/\∀(j:Nat) d,Z[j]?=some d->∃b,bs[j]?=some b/\MW.wj M d x=some b
 |[],bs,h=>by cases h;exact⟨rfl,λj d e=>by simp at e⟩
 |y::ys,bs,h=>by
  simp only[MW.Rr]at h;split at h
  .rename_i a b Y U
   cases h;obtain⟨J,G⟩:=Pk U;refine⟨by simp[J],λj d e=>?_⟩;cases j with
   |zero=>simp at e;subst e;exact⟨a,rfl,Y⟩|succ j=>simpa using G j d (by simpa using e)
  .cases h
def Ht(I:Inv X pins σ H s)(e:aca X.K H p G):(∃o,H p=some (.Ow o (.lst G)))\/(H p=none/\∃(o:Obj)(Z:U1)(n:Nat),X.K.lookup p=some o/\o.data=.seq Z n/\Vals G Z.toList):=by
 rcases e with h|⟨o,Z,n,h1,_,_,h2,_,h3⟩
 .exact .inl h
 .exact .inr ⟨(I.bs p o (I.mod.kin p o h1)).2,o,Z,n,h1,h2,h3⟩
def a4h(I:Inv X pins σ H s)(e:aca X.K H p vs)(e2:aca X.K H p ws):vs=ws:=by
 rcases Ht I e with⟨o,h⟩|⟨h,o,ye,n,h1,h2,h3⟩
 .rcases Ht I e2 with⟨o',Z⟩|⟨Z,_⟩
  .rw[h]at Z;cases Z;rfl
  .rw[h]at Z;cases Z
 .rcases Ht I e2 with⟨o',Z⟩|⟨_,o',qq,n',U,G,R⟩
  .rw[h]at Z;cases Z
  .rw[h1]at U;cases U
   rw[h2]at G;cases G;exact Vals.inj h3 R
mutual
theorem ajv{R:Zp}{s:Shared}(I:Inv X R σ H s)(S:km nm X.K ι H M):∀{d d':Dv}{v:V},Rep X.K ι H d v->Rep X.K ι H d' v->d=d'
 |_,_,_,.non,r=>by cases r;rfl|_,_,_,.bl b,r=>by cases r;rfl|_,_,_,.int i,r=>by cases r;rfl|_,_,_,.str z,r=>by cases r;rfl
 |_,_,_,.tup e1 r1,r=>by
  cases r with
  |tup Z G =>
   rw[e1]at Z;cases Z;rw[Th I S r1 G]
  |vl Z n2 G=>rw[e1]at Z;cases Z
  |fz Z G =>
   rcases Ht I Z with⟨o,h⟩|⟨h,_⟩
   .rw[e1]at h;cases h
   .rw[e1]at h;cases h
  |ref Z =>
   obtain⟨u,q,U⟩:=S.mem (ao Z);rw[e1]at U;exact U.elim
 |_,_,_,.vl e1 n1 r1,r=>by
  cases r with
  |tup Z G=>rw[e1]at Z;cases Z
  |vl Z n2 G =>
   rw[e1]at Z;cases Z;rw[Th I S r1 G]
  |fz Z G =>
   rcases Ht I Z with⟨o,h⟩|⟨h,_⟩
   .rw[e1]at h;cases h
   .rw[e1]at h;cases h
  |ref Z=>exact absurd (ao Z) n1.1
 |_,_,_,.fz e1 r1,r=>by
  cases r with
  |tup Z G =>
   rcases Ht I e1 with⟨o,h⟩|⟨h,_⟩
   .rw[Z]at h;cases h
   .rw[Z]at h;cases h
  |vl Z n2 G =>
   rcases Ht I e1 with⟨o,h⟩|⟨h,_⟩
   .rw[Z]at h;cases h
   .rw[Z]at h;cases h
  |fz Z G =>
   have:=a4h I e1 Z;subst this;rw[Th I S r1 G]
  |ref Z =>
   obtain⟨u,q,U⟩:=S.mem (ao Z);rcases Ht I e1 with⟨o,h⟩|⟨h,_⟩
   .rw[h]at U;exact U.elim
   .rw[h]at q;cases q
 |_,_,_,.ref e1,r=>by
  cases r with
  |tup Z G =>
   obtain⟨u,q,U⟩:=S.mem (ao e1);rw[Z]at U;exact U.elim
  |vl Z n2 G=>exact absurd (ao e1) n2.1
  |fz Z G =>
   obtain⟨u,q,U⟩:=S.mem (ao e1);rcases Ht I Z with⟨o,h⟩|⟨h,_⟩
   .rw[h]at U;exact U.elim
   .rw[h]at q;cases q
  |ref Z =>
   obtain⟨l1,q1⟩:=ak.mp e1;obtain⟨l2,q2⟩:=ak.mp Z;rw[(Ay S.nd).mp (q1.trans q2.symm)]
theorem Th{Z:Zp}{s:Shared}(I:Inv X Z σ H s)(S:km nm X.K ι H M):∀{U G:List Dv}{R:List V},o4 X.K ι H U R->o4 X.K ι H G R->U=G
 |_,_,_,.nil,r=>by cases r;rfl
 |_,_,_,.cons h t,r=>by
  cases r with
  |cons h2 t2=>rw[ajv I S h h2,Th I S t t2]
end
def aci(I:Inv X pins σ H s)(S:km nm X.K ι H M)(hr:Af 6 A)(rd:o4 X.K ι H ds vs)(rv:Vals vs is)(rx:Rep X.K ι H x u)(ru:RelV u u')(h:MW.Rr M x ds=some bs):∃e:Value->Bool,(∀w,w∈is.toArray->SeqAt.EqAt A s w u' (e w))/\∀(j:Nat)(w:Value),is[j]?=some w->bs[j]?=some (e w):=by
 obtain⟨g1,g2⟩:=Pk h;have U:∀(j:Nat)(w:Value),is[j]?=some w->∃b,bs[j]?=some b/\SeqAt.EqAt A s w u' b:=λj w G=>by
  have lj:j<ds.length:=by rw[rd.length,rv.length];exact(ak.mp G).1
  have gd:ds[j]?=some ds[j]:=by simp[lj]
  obtain⟨b,R,e2⟩:=g2 j _ gd;obtain⟨v,a1,a2⟩:=rd.get gd;exact⟨b,R,Yn I S 6 A _ _ v u w u' b hr a2 rx (Vals.aez rv a1 G) ru e2⟩
 classical
 refine⟨λw=>if G:∃j:Nat,is[j]?=some w then(bs[G.choose]?).getD false else false,λw G=>?_,λj w G=>?_⟩
 .obtain⟨j,hj,e⟩:=qm (by simpa using G:w∈is)
  have Z:∃j:Nat,is[j]?=some w:=⟨j,by simp[hj,e]⟩;obtain⟨b,R,e2⟩:=U Z.choose w Z.choose_spec;simp only[dif_pos Z,R,zj];exact e2
 .have Z:∃j:Nat,is[j]?=some w:=⟨j,G⟩
  obtain⟨b,R,e2⟩:=U j w G;obtain⟨b',e3,e4⟩:=U Z.choose w Z.choose_spec;simp only[dif_pos Z,e3,zj];rw[R]
  congr 1
  have lj:j<ds.length:=by rw[rd.length,rv.length];exact(ak.mp G).1
  have lk:Z.choose<ds.length:=by rw[rd.length,rv.length];exact(ak.mp Z.choose_spec).1
  have gd:ds[j]?=some ds[j]:=by simp[lj]
  have gk:ds[Z.choose]?=some ds[Z.choose]:=by simp[lk]
  obtain⟨c1,q1,q2⟩:=g2 j _ gd;obtain⟨c2,q3,q4⟩:=g2 Z.choose _ gk;obtain⟨v1,p1,p2⟩:=rd.get gd;obtain⟨v2,p3,p4⟩:=rd.get gk;have hv:v1=v2:=RelV.inj (Vals.aez rv p1 G) (Vals.aez rv p3 Z.choose_spec);subst hv;rw[R]at q1;rw[e3]at q3;cases q1;cases q3;have hd:=ajv I S p2 p4;rw[hd,q4]at q2;exact(jk q2).symm
def awv{is:Zl}{bs:List Bool}(Z:bs.length=is.length)(h:∀(j:Nat) (w:Value),is[j]?=some w->bs[j]?=some (e w)):bs=is.map e:=by
 apply wu;intro j;rw[iz];cases q:is[j]? with
 |none=>rw[kh (by rw[Z];exact List.getElem?_eq_none_iff.mp q)];rfl|some w=>rw[h j w q];rfl
def azz{b:Bool}(n:Bool)(hr:Af 8 X.A)(S:km nm X.K ι H M)(I:Inv X pins σ H s)(rv:RelV v v')(ru:RelV u u')(rx:Rep X.K ι H x v)(ry:Rep X.K ι H y u)(e:MW.Pz M x y=some b)(q:Q (.bl (cond n (!b) b)) H):wpAny (model X.prog X.w) X.A (compareOp (cond n .NotIn .In) v' u') (EP X pins σ Q) X.xe s:=by
 have qq:∀ds,MW.Bk M y=some ds->MW.memD M x ds=some b->wpAny (model X.prog X.w) X.A (compareOp (cond n .NotIn .In) v' u') (EP X pins σ Q) X.xe s:=λds Z G=>by
  obtain⟨bs,U,e2⟩:=cj.mp (show(MW.Rr M x ds).map (·.any id)=some b from G);obtain⟨p,vs,rfl,hp,r⟩:=Kz S ry Z;cases ru;have fin:∀{is:Zl}{f:Value->Bool},Vals vs is->(∀(j:Nat)(w:Value),is[j]?=some w->bs[j]?=some (f w))->is.toArray.any f=b:=fun{is f} r1 g2=>by have:=awv (by rw[(Pk U).1,r.length,r1.length]) g2;rw[this]at e2;rw[<-e2];simp[List.any_map]
  rcases hp with hp|hp
  .obtain⟨is,r1,pl,_⟩:=I.list (Hq.of hp)
   obtain⟨f,g1,g2⟩:=aci (A:=X.A.in1) I S ((hr.mono (by decide:7<=8)).in1) r r1 rx rv U;have a:=fin r1 g2;subst a;cases n with
   |false=>exact SeqAt.in_listAt f pl.isList g1 ⟨.bl _,H,I,rfl,q⟩|true=>exact SeqAt.notIn_listAt f pl.isList g1 ⟨.bl _,H,I,rfl,q⟩
  .obtain⟨is,r1,pl,_⟩:=I.tuple (Hl.of hp)
   obtain⟨f,g1,g2⟩:=aci (A:=X.A.in1) I S ((hr.mono (by decide:7<=8)).in1) r r1 rx rv U;have a:=fin r1 g2;subst a;cases n with
   |false=>exact SeqAt.in_tupleAt f (show s.heap.IsTuple p is.toArray from pl) g1 ⟨.bl _,H,I,rfl,q⟩
   |true=>exact SeqAt.notIn_tupleAt f (show s.heap.IsTuple p is.toArray from pl) g1 ⟨.bl _,H,I,rfl,q⟩
 have R:(MW.Bk M y).bind (MW.memD M x)=some b->wpAny (model X.prog X.w) X.A (compareOp (cond n .NotIn .In) v' u') (EP X pins σ Q) X.xe s:=λe=>by obtain⟨ds,Z,G⟩:=gf.mp e;exact qq ds Z G
 cases y with
 |ref m =>
  cases hM:M[m]? with
  |none=>simp only[MW.Pz,hM]at e;exact R e
  |some o=>cases o with
   |dT ie =>
    simp only[MW.Pz,hM]at e;obtain⟨k,e2,e3⟩:=cj.mp e;cases ry with
    |ref U =>
     obtain⟨l,Z,G⟩:=S.obj m _ _ hM U;obtain⟨bb,rfl,hb⟩:=acd rx e2;cases ru;have a:b=(Qd l k).isSome:=by
      rw[<-e3];cases hk:MW.v7 ie k with
      |none=>rw[(G.look (k:=k)).2 hk];rfl|some d=>obtain⟨z,h3,_⟩:=(G.look (k:=k)).1 d hk;rw[h3];rfl
     subst a;cases n with
     |false=>exact a9p (X4 hr) I (O3.t Z hb) rv λs' I'=>⟨.bl _,H,I',rfl,q⟩
     |true=>exact aje (X4 hr) I (O3.t Z hb) rv λs' I'=>⟨.bl _,H,I',rfl,q⟩
   |dK ie =>
    simp only[MW.Pz,hM]at e;obtain⟨k,e2,e3⟩:=cj.mp e;cases ry with
    |ref U =>
     obtain⟨l,Z,G⟩:=S.obj m _ _ hM U;have hy:=Yh rx e2;subst hy;cases ru;have a:b=(Qd l k).isSome:=by
      rw[<-e3];cases hk:MW.v7 ie k with
      |none=>rw[(G.look (k:=k)).2 hk];rfl|some d=>obtain⟨z,h3,_⟩:=(G.look (k:=k)).1 d hk;rw[h3];rfl
     subst a;cases n with
     |false=>exact a9p (X4 hr) I (O3.k Z) rv λs' I'=>⟨.bl _,H,I',rfl,q⟩
     |true=>exact aje (X4 hr) I (O3.k Z) rv λs' I'=>⟨.bl _,H,I',rfl,q⟩
   |_=>simp only[MW.Pz,hM]at e;exact R e
 |_=>exact R e
def bgt(hr:Af 8 X.A):Dk X (compareOp .In) (Wi nm X.K .inn):=λZ s σ H v u v' u' Q I rv G R=>by obtain⟨ι,M,x,y,b,S,U,ry,e,q⟩:=R;exact azz false hr S I rv G U ry e q
def aww(hr:Af 8 X.A):Dk X (compareOp .NotIn) (Wi nm X.K .Rp):=λZ s σ H v u v' u' Q I rv G R=>by obtain⟨ι,M,x,y,c,S,U,ry,e,q⟩:=R;obtain⟨b,e',rfl⟩:=cj.mp (show(MW.Pz M x y).map not=some c from e);exact azz true hr S I rv G U ry e' q
end
open Wq (Dl T7)
def KH(H:Hp)(x:List Key×Addr):Prop:=H x.2=some (.tup (x.1.map kV))/\∀k∈x.1,∃i,k=.inl i
def ae1(P:Program)(w:World)(H:Hp):Wq.T6 (m6 P w) (KH H):=λx Z k G v n U=>by
 obtain⟨i,rfl⟩:=Z.2 k G;rcases Bd (show Xq (Sum.inl i) v=true from U)with⟨j,t,e,rfl⟩|⟨y,t,e,_⟩
 .unfold hashByValue;rfl
 .cases e
def Ug:∀ks:List Kx,MW.V1 (MW.aoc ks)=some ks:=λks=>by
 show MW.abd (ks.map MW.aob)=some ks
 induction ks with
 |nil=>rfl|cons k ks Z=>cases k<;>simp[MW.abd,MW.aob,MW.V0,Z]
theorem Yo:∀{l:List (List Kx×Dv)},MW.Eg (l.map λp=>MW.aoc p.1)=some (l.map (·.1))
 |[]=>rfl|p::l=>by simp[MW.Eg,Ug,Yo]
set_option tactic.hygienic true in
theorem ajw{S:Io}{H:Hp}{K:Fg}:∀{G:List Dv}{J:List V}{Y:List (List Kx)},o4 K S H G J->MW.Eg G=some Y->∃bs:List Addr,J=bs.map V.ref/\bs.length=Y.length/\∀x∈Y.zip bs,H x.2=some (.tup (x.1.map kV))
 |_,_,_,.nil,h=>by simp[MW.Eg]at h;subst h;exact⟨[],rfl,rfl,by simp⟩
 |_,_,_,.cons r t,h=>by
  simp only[MW.Eg]at h;split at h
  .rename_i k y U C
   cases h;obtain⟨b,rfl,e⟩:=acd r U;obtain⟨bs,rfl,L,R⟩:=ajw t C;refine⟨b::bs,rfl,by simp[L],λx Z=>?_⟩;simp only[List.zip_cons_cons,cu]at Z;rcases Z with rfl|Z
   .exact e
   .exact R x Z
  .cases h
def amg(h:MW.Eh Z=true):Z.length<=30/\∀k∈Z,∀x∈k,∃i,x=Sum.inl i:=by
 simp only[MW.Eh,aq,dm,jb]at h;refine⟨h.1,λk U x G=>?_⟩;have:=h.2 k U x G;cases x with
 |inl i=>exact⟨i,rfl⟩|inr s=>cases this
set_option tactic.hygienic true in
def aqx(hr:Af 8 X.A)(I:Inv X pins σ H s)(S:km nm X.K ι H M)(rx:Rep X.K ι H x v)(ru:RelV v u)(Y:MW.keysOf M x=some ds)(hd:MW.Eg ds=some G)(pl:MW.Eh G=true)(h:∀p o n Z,Inv X ((p,o)::pins) σ H Z->Dl (m6 X.prog X.w) (KH H) Z.heap p (λk=>k∈G) n->Z.heap.get? p=some o->Q (.ref p) Z) :
 wpAny (model X.prog X.w) X.A (call (.type "set") [u]) Q X.xe s:=by
 obtain⟨qj,U⟩:=amg pl;have hu:X.A.in1.in1.in1.units+1<cLine:=by have:=hr.un;show X.A.units+1+1+1+1<cLine;lia
 have kept:∀b o,s.heap.get? b=some o->(s.heap.push (Wq.Az X.w)).get? b=some o:=λb o e=>au _ e
 have I1:Inv X pins σ H { s with heap:=s.heap.push (Wq.Az X.w) }:=I.kept (t':=s.toks) kept;have fr:Dl (m6 X.prog X.w) (KH H) (s.heap.push (Wq.Az X.w)) s.heap.objs.size (λ_=>False) 0:=Wq.aul (bu _ rfl);have fin:∀(J:Heap)(tk n':Nat),(∀b o,b≠s.heap.objs.size->(s.heap.push (Wq.Az X.w)).get? b=some o->J.get? b=some o)->Dl (m6 X.prog X.w) (KH H) J s.heap.objs.size (λk=>k∈G) n'->Q (.ref s.heap.objs.size) { s with heap:=J,toks:=tk }:=λJ tk n' qq hS=>by
  have I2:Inv X pins σ H { s with heap:=J,toks:=tk }:=I.kept λb o e=>qq b o (f9 (az e)) (kept b o e)
  obtain⟨o,es,ep,t,hg,hc,q0,_⟩:=hS.get;refine h _ o n' _ (I2.Sx λq hq=>?_) hS hg;rcases cu.mp hq with rfl|hq
  .refine⟨hg,I.Al.fresh (bh _),vo I.lt,I.a1q (bh _),λv hv=>?_⟩
   rw[show o.data=_ from q0]at hv;cases hv
  .exact I2.pin q (iw _ hq)
 have lst:∀p y,v=.ref p->H p=some (.lst y)->o4 X.K ι H ds y->wpAny (model X.prog X.w) X.A (call (.type "set") [u]) Q X.xe s:=λp y ev hp r=>by
  subst ev;cases ru;obtain⟨is,rv,q3,_⟩:=I1.list (Hq.of hp);obtain⟨bs,rfl,qk,hz⟩:=ajw r hd;have qv:is=(G.zip bs).map λx=>Value.ref x.2:=by
   apply wu;intro j;rw[iz]
   by_cases hj:j<bs.length
   .have C:(bs.map V.ref)[j]?=some (.ref bs[j]):=by simp[hj]
    have L:j<is.length:=by have:=rv.length;simp at this;exact b_ hj (f_ this)
    have e2:is[j]?=some is[j]:=by simp[L]
    have:=Vals.aez rv C e2;rw[e2,show is[j]=Value.ref bs[j]from this];have q5:j<G.length:=b_ hj (f_ qk)
    have q4:(G.zip bs)[j]?=some (G[j],bs[j]):=by rw[bz (by simp;lia)];simp
    rw[q4];rfl
   .have L:¬j<is.length:=by have:=rv.length;simp at this;exact j_ (a_ (g_ this) (s_ hj))
    rw[kh (s_ L),kh (by simp;lia)];rfl
  refine Wq.Nr (R:=λZ=>Q (.ref s.heap.objs.size) Z) ?_ λZ h=>h
  refine Wq.an2 (ae1 _ _ H) (ks:=G.zip bs) (items:=is.toArray) (by have:=hr.hd;exact this) hu fr q3.isList (by simpa using qv) (λx hx=>O2 I1.Al (hz x hx)) (λx hx=>⟨hz x hx,λk Y=>U x.1 (List.of_mem_zip (a:=x.1) (b:=x.2) hx).1 k Y⟩) (by simp;lia) λJ tk n' qq hS=>?_
  refine fin J tk n' qq (hS.congr λk=>?_);rw[List.map_fst_zip (g_ qk)]
 unfold MW.keysOf at Y;split at Y
 .rename_i n
  split at Y
  .rename_i ie hM
   cases Y;rw[Yo]at hd;cases hd;cases rx with
   |@ref n p C =>
    obtain⟨l,h1,h2⟩:=S.obj n _ p hM C;cases ru;obtain⟨_,q2,xs,q1,dd⟩:=ap3 I1.Al h1;obtain⟨k1,k2⟩:=aju q1;have k3:xs.map (·.1)=ie.map (·.1):=k1.trans (Rh h2);have hl:xs.length=ie.length:=by have:=mq List.length k3;simpa using this
    refine Wq.Nr (R:=λZ=>Q (.ref s.heap.objs.size) Z) ?_ λZ h=>h
    refine Wq.anz (ae1 _ _ H) (by have:=hr.un;show X.A.units+1+1<cLine;lia) fr dd q2 (λx hx=>⟨k2 x hx,λk Y=>?_⟩) (by simp at qj;lia) λJ n' sb hS=>?_
    .have:x.1∈ie.map (·.1):=by rw[<-k3];exact bf.mpr ⟨x,hx,rfl⟩
     exact U x.1 this k Y
    .refine fin J s.toks n' (λb o hb e=>(sb.2 b hb).trans e) (hS.congr λk=>?_)
     rw[k3];simp
  .obtain⟨p,y,C,e2,r⟩:=uo S rx Y
   exact lst p y C e2 r
 .obtain⟨p,y,C,e2,r⟩:=uo S rx Y
  exact lst p y C e2 r
def ba2(hS:Dl (m6 P w) (KH H) h p T n)(hg:h.get? p=some o)(Z:G.get? p=some o)(le:∀a R,H a=some (.tup R)->H' a=some (.tup R))(ok:Qv P w H' G):Dl (m6 P w) (KH H') G p T n:=by obtain⟨xs,o',es,ep,t,D,r⟩:=hS;have e:o'=o:=jk (D.get.symm.trans hg);subst e;refine⟨xs,o',es,ep,t,⟨Z,D.exa,D.dat,D.tab,D.ent,λx hx=>?_,D.nod,D.led,D.pla⟩,r⟩;obtain⟨_,U,k2⟩:=D.keys x hx;exact⟨O2 ok (le _ _ U),le _ _ U,k2⟩
def ae2:MW.Jl xs ys=true↔∀k,k∈xs↔k∈ys:=by
 simp only[MW.Jl,aq,jb,Ax,dm];constructor
 .rintro⟨U,R⟩ k
  exact⟨λh=>by obtain⟨y,Z,e⟩:=U k h;rw[<-e];exact Z,λh=>by obtain⟨y,Z,e⟩:=R k h;rw[<-e];exact Z⟩
 .exact λh=>⟨λx G=>⟨x,(h x).mp G,rfl⟩,λy Z=>⟨y,(h y).mpr Z,rfl⟩⟩
set_option tactic.hygienic true in
def awx(hr:Af 8 X.A)(hg:Gl X C)(hm:X.mg C=none)(hv:bootBuiltins C=some (.type "set"))(hn:C≠"__name__")(Vk:(C==("__debug__": Str))=false)(ha:PA X [a] (Yb nm W X.K (.cons a' .nil)))(hb:PA X [b] (Yb nm W X.K (.cons b' .nil)))(he:starEach [a] X.env=(false,eval a X.env)::starEach [] X.env)(q4:starEach [b] X.env=(false,eval b X.env)::starEach [] X.env)(Jg:(backTo q1 (starEach [] X.env)).any (·.1)=false)(q0:(backTo q2 (starEach [] X.env)).any (·.1)=false) :
 PC X .NotEq (.Call (.Name C p1) [a] [] q1) (.Call (.Name C p2) [b] [] q2) (tE nm W X.K (.W2 a' b')):=by
 intro L s σ H Q I hh;obtain⟨ι,ρ,M,d,M',S,R,e,q⟩:=hh;rw[MW.Z8]at e;obtain⟨x,M1,e1,e⟩:=fc e;cases hk1:(MW.keysOf M1 x).bind MW.Eg with
 |none=>rw[hk1]at e;cases e
 |some ks =>
  rw[hk1]at e;simp only at e;split at e
  .rename_i q6
   obtain⟨y,M2,e2,e⟩:=fc e;cases hk2:(MW.keysOf M2 y).bind MW.Eg with
   |none=>rw[hk2]at e;cases e
   |some ls =>
    rw[hk2]at e;simp only at e;split at e
    .rename_i q7
     cases e;obtain⟨zz,g1,qq⟩:=gf.mp hk1;obtain⟨zq,g2,qv⟩:=gf.mp hk2;refine jd (Dw I hg hm hv ?_ hn Vk);refine jm (Bp (ha q1 L s σ H (λJ U=>∃Z v,J=[v]/\Le ι H Z U/\km nm X.K Z U M1/\Rep X.K Z U x v) I ⟨ι,ρ,M,[x],M1,S,R,by simp[e1,Res.bind],λZ U J le S1 r=>?_⟩) λus s1 ⟨J,U,I1,r1,Z,v,u,Wh,S1,rx⟩=>?_) he Jg
     .obtain⟨v,u,rv⟩:=Ez r rfl
      exact⟨Z,v,u,le,S1,rv⟩
     subst u;cases r1 with
     |cons rv rn =>
      cases rn;refine aqx hr I1 S1 rx rv g1 qq q6 λp o n s2 I2 hS q3=>?_
      refine jd (Dw I2 hg hm hv ?_ hn Vk);refine jm (Bp (hb q2 _ s2 σ U (λJ G=>∃Y v,J=[v]/\Le Z U Y G/\km nm X.K Y G M'/\Rep X.K Y G y v) I2 ⟨Z,ρ,M1,[y],M',S1,R.mono Wh,by simp[e2,Res.bind],λY G J le S2 r=>?_⟩) λus s3 ⟨J,G,I3,r2,Y,v2,ev2,Aj,S2,ry⟩=>?_) q4 q0
      .obtain⟨v,u,rv⟩:=Ez r rfl
       exact⟨Y,v,u,le,S2,rv⟩
      subst ev2;cases r2 with
      |cons q5 qk =>
       cases qk;refine aqx hr I3 S2 ry q5 g2 qv q7 λp' o' n' s4 I4 Ww q8=>?_
       have hp:s4.heap.get? p=some o:=(I4.pin (p,o) (iw _ (bc _ dh))).1;have qj:=ba2 (H':=G) hS q3 hp Aj.tup I4.Al;refine Wq.a7x (by have:=hr.un;show X.A.units+1<cLine;lia) (by have:=hr.un;lia) qj Ww λc hc=>?_
       have ec:c=!MW.Jl ks ls:=by have:=ae2 (xs:=ks) (ys:=ls);cases c<;>cases h:MW.Jl ks ls<;>simp_all
       refine⟨.bl c,G,(I4.Sx λz hz=>I4.pin z (iw _ (bc _ (bc _ hz)))),rfl,?_⟩;rw[ec];exact q Y G _ (Wh.trans Aj) S2 (.bl _)
    .cases e
  .cases e
theorem o4.dropLast:∀{Z:List Dv}{G:List V},o4 K U H Z G->o4 K U H Z.dropLast G.dropLast:=by intro A B h;induction A generalizing B with|nil=>cases h;exact .nil|cons d A ih=>cases h with|cons h t=>cases t with|nil=>exact .nil|cons g t=>exact .cons h (ih (.cons g t))
def rM(nm:Nm)(K:Fg)(m:Bm):V->List V->Hp->VK->Prop:=λv vs H Q=>∃U M x R d M',km nm K U H M/\Rep K U H x v/\o4 K U H R vs/\MW.Hw m x R M=.ok d M'/\(∀ts,x=.tup ts->m≠.index) /\
 ∀Z G w,Le U H Z G->km nm K Z G M'->Rep K Z G d w->Q w G
set_option tactic.hygienic true in
theorem aqy{id:String}(hT:∀C H M x v,km nm X.K C H M->Rep X.K C H x v->MW.P0 m x M=true->tyV X.K T v H)(pa:PlainAttrs T)(Y:Slot T name id)(qq:typeOf (.builtin id)=pure (.type "method_descriptor"))(y:MtR X id (rM nm X.K m))(ho:PE X o (tE nm W X.K o'))(ha:PA X (e::Z) (Yb nm W X.K U))(q0:attributeBase o name X.env (eval o X.env)=eval o X.env)(qk:((backTo J (starEach (e::Z) X.env)).all (λx=>!x.1)&&(backToKw J (keywordEach [] X.env)).all (λx=>x.1.isSome)
&&decide ((e::Z).length+([]:List Keyword).length+(if([]:List Keyword).isEmpty then 0 else 1)<30))=true)(L:(apos.endLine==J.line)=true)(hs:starEach (e::Z) X.env=(false,eval e X.env)::starEach Z X.env)(qj:(backTo J (starEach Z X.env)).any (·.1)=false) :
 PE X (.Call (.Attribute o name apos) (e::Z) [] J) (tE nm W X.K (.bm m o' U)):=
 PE.of (a9v pa Y qq y ho ha q0 qk L hs qj) fun σ H Q C ρ M d M' S R e q=>by
  rw[MW.a00]at e;obtain⟨x,M1,e1,e⟩:=fc e;split at e
  .rename_i ht
   obtain⟨ds,M2,e2,e⟩:=fc e;exact one S R e1 λG H1 v le S1 R1 r=>⟨hT G H1 M1 x v S1 r ht,G,ρ,M1,ds,M2,S1,R1,e2,λu H2 vs Aj S2 rs=>⟨u,M2,x,ds,d,M',S2,r.mono Aj,rs,e,(λts hx y=>by subst hx;subst y;cases ht),λqv H' w Zg S' r'=>q qv H' w ((le.trans Aj).trans Zg) S' r'⟩⟩
  .cases e
def awz(h:MW.onL o M f=.ok d M'):∃n Z,o=.ref n/\M[n]?=some (.lst Z)/\f n Z=.ok d M':=by
 cases o with
 |ref n =>
  simp only[MW.onL]at h;cases e:M[n]? with
  |none=>rw[e]at h;cases h
  |some o=>cases o with
   |lst Z=>rw[e]at h;exact⟨n,Z,rfl,e,h⟩|_=>rw[e]at h;cases h
 |_=>cases h
def aw0(h:MW.onK o M f=.ok d M'):∃n Z,o=.ref n/\M[n]?=some (.dK Z)/\f Z=.ok d M':=by
 cases o with
 |ref n =>
  simp only[MW.onK]at h;cases e:M[n]? with
  |none=>rw[e]at h;cases h
  |some o=>cases o with
   |dK Z=>rw[e]at h;exact⟨n,Z,rfl,e,h⟩|_=>rw[e]at h;cases h
 |_=>cases h
def Uq{Z:List Dv}(h:MW.K9 Z g=.ok d M'):∃x,Z=[x]/\g x=.ok d M':=by
 match Z,h with
 |[x],h=>exact⟨x,rfl,h⟩|[],h=>cases h|_::_::_,h=>cases h
def Ri{c:Prop}[Decidable c]{r:Res α}(h:(if c then r else .bad)=.ok d M'):c/\r=.ok d M':=by
 by_cases z:c
 .rw[bx z]at h;exact⟨z,h⟩
 .rw[bw z]at h;cases h
def ty_list{X:Cx}(S:km nm X.K U H M)(r:Rep X.K U H x v)(h:(MW.gm M x).isSome=true):tyV X.K "list" v H:=by obtain⟨ds,G⟩:=j6.mp h;obtain⟨p,Z,rfl,R,_⟩:=uo S r G;exact .inl ⟨rfl,Z,Hq.of R⟩
def aw1(e:MW.Hw .index x ds M=.ok d M'):∃G Z j,ds=[G]/\MW.Bk M x=some Z/\MW.adx M G Z=some j/\d=.int ((j:Nat):Int)/\M'=M:=by obtain⟨G,rfl,U⟩:=Uq e;obtain⟨e1,e2⟩:=vz U;obtain⟨j,e3,e4⟩:=cj.mp e1;obtain⟨Z,R,e7⟩:=gf.mp e3;exact⟨G,Z,j,rfl,R,e7,e4.symm,e2⟩
def aqz:MtR X "list.append" (rM nm X.K .append):=λZ s σ H v vs u us Q I ru Tf hh=>by
 obtain⟨ι,M,x,ds,d,M',S,r,rs,e,_,q⟩:=hh;obtain⟨n,xs,rfl,G,e1⟩:=awz e;obtain⟨d0,rfl,e2⟩:=Uq e1;obtain⟨hl,e3⟩:=Ri e2;cases e3;cases r with
 |ref ha =>
  obtain⟨R,h3,U⟩:=S.obj n _ _ G ha;cases rs with
  |cons hd ht =>
   cases ht;refine aan Z s σ H _ _ u us Q I ru Tf ⟨_,R,_,rfl,rfl,h3,by rw[<-U.length];exact Yl hl,?_⟩;obtain⟨S2,Aj⟩:=S.put (u:=.lst (R++[_])) (o:=.lst (xs++[_])) G ha λle=>⟨_,xf,(U.mono le).append (.cons (hd.mono le) .nil)⟩
   exact q _ _ _ Aj S2 .non
def acj:∀{bs:List Bool}{j:Nat},bs.findIdx? id=some j->bs[j]?=some true/\∀m,m<j->bs[m]?=some false:=fun{bs j} h=>by obtain⟨G,U,R⟩:=qg.mp h;refine⟨by rw[bz G];simpa using U,λm Z=>?_⟩;have:=R m Z;rw[bz (d_ Z G)];simpa using this
def aw2(hr:Af 8 X.A):MtR X "list.index" (rM nm X.K .index):=λqv s σ H v vs u us Q I ru Tf hh=>by
 obtain⟨ι,M,x,ds,d,M',S,r,rs,e,nt,q⟩:=hh;obtain⟨d0,xs,j,rfl,e1,e2,rfl,rfl⟩:=aw1 e;cases rs with
 |cons hd ht =>
  cases ht;cases Tf with
  |cons hu qq =>
   cases qq;obtain⟨bs,e3,e4⟩:=gf.mp (show(MW.Rr M' d0 xs).bind (·.findIdx? id)=some j from e2);obtain⟨p,ys,rfl,Z,rl⟩:=Kz S r e1;cases ru;rcases Z with Z|Z
   .obtain⟨z,is,n,rv,hl,hg⟩:=I.awh Z
    obtain⟨f,g1,g2⟩:=aci (A:=X.A.in1) I S ((hr.mono (by decide:7<=8)).in1) rl rv hd hu e3;obtain⟨f1,f2⟩:=acj e4;have hb:=(Pk e3).1;have U:is.length=bs.length:=by rw[hb,rl.length,hl]
    have lj:j<is.length:=by rw[U];exact(ak.mp f1).1
    have fa:∀m (G:m<is.length),bs[m]?=some (f is[m]):=λm G=>g2 m _ (bz G)
    have hT:s.TypeIs (.ref p) "list":= ⟨_,hg,rfl⟩;have qj:is.length<=sizeLine:=by rw[<-hl];exact z
    rw[p8]at qj;refine call_meetsIn F.slot_list_index hT F.entry_list_index (F.args_list_index_2 _ _) (λA R s h=>SeqAt.list_indexAt p is.toArray n none #[] _ f j (by simpa using lj) (by lia) ?_ ?_ _ _ A R s h) ⟨hg,g1,?_⟩
    .have:=fa j lj;rw[f1]at this;simpa using(jk this).symm
    .intro m G qk
     have G:m<is.length:=by simpa using G
     have:=fa m G;rw[f2 m qk]at this;simpa using(jk this).symm
    .exact⟨.int j,H,I.tok _,⟨_,rfl⟩,q ι H _ (Le.refl _ _) S (.int _)⟩
   .cases r with
    |tup e r=>exact absurd rfl (nt _ rfl)|vl e n r=>rw[Z]at e;cases e|fz e r=>simp[MW.Bk,MW.gm]at e1
    |ref e =>
     obtain⟨u',q',mu⟩:=S.mem (ao e);rw[Z]at mu;exact mu.elim
end Sm
namespace Wq
open PySem L2
def SmK(k:List Key):Prop:=∃i j:Int,-1<=i/\i<9/\-1<=j/\j<9/\k=[.inl i,.inl j]
noncomputable def ajx(i j:Int):Int:=reduceHash (Builtin.Tuple.tupleHashOf [hashInt i,hashInt j])
noncomputable def rgI:List Int:=[-1,0,1,2,3,4,5,6,7,8]
def aq0:(rgI.all λi=>rgI.all λj=>rgI.all λZ=>rgI.all λG=>(ajx i j != ajx Z G)||(i==Z&&j==G))=true:=by decide+kernel
def ack(Z:-1<=i)(G:i<9):i∈rgI:=by
 have:i=-1\/i=0\/i=1\/i=2\/i=3\/i=4\/i=5\/i=6\/i=7\/i=8:=by lia
 unfold rgI;simp only[cu,xq,or_false];exact this
def aq1{P:Program}(h:SmK k)(R:SmK k')(e:tupleKeyHash (m6 P w) k=tupleKeyHash (m6 P w) k'):k=k':=by obtain⟨i,j,G,U,a3,a4,rfl⟩:=h;obtain⟨Z,j',b1,b2,b3,b4,rfl⟩:=R;have e:ajx i j=ajx Z j':=e;have:=jb.mp (jb.mp (jb.mp (jb.mp aq0 i (ack G U)) j (ack a3 a4)) Z (ack b1 b2)) j' (ack b3 b4);rw[e]at this;simp at this;rw[this.1,this.2]
def ahm(Z:IsTupleKey (m6 prog w) s.heap G a)(h:Q false s):wpAny (model prog w) A (Builtin.Dict.quietEq (.ref a)) Q E s:=by
 unfold Builtin.Dict.quietEq;refine aa (wpAny_specialOf Z.typeIs F.slot_tuple_eq.lookup ?_);refine aj ?_;have:(some (Value.builtin "tuple.__eq__")==some (Value.builtin "object.__eq__"))=false:=by decide
 rw[this];exact h
def aq2{Z:List (List Key×Addr×Value)}(hn:(Z.map (·.1)).Nodup)(R:∀x∈Z,SmK x.1)(U:x∈Z) :
 ((Z.map (entryOfKey (tupleKind (m6 prog w)))).filter (·.hash==tupleKeyHash (m6 prog w) x.1)).length<=1:=by
 induction Z with
 |nil=>simp
 |cons y ys ih =>
  rw[gr,qx]at hn;rw[gr]
  by_cases hy:tupleKeyHash (m6 prog w) y.1=tupleKeyHash (m6 prog w) x.1
  .have e:=aq1 (R y dh) (R x U) hy
   have none:(ys.map (entryOfKey (tupleKind (m6 prog w)))).filter (·.hash==tupleKeyHash (m6 prog w) x.1)=[]:=by rw[xj];intro z hz hq;obtain⟨z',G,rfl⟩:=bf.mp hz;have hq:tupleKeyHash (m6 prog w) z'.1=tupleKeyHash (m6 prog w) x.1:=eq_of_beq (show(tupleKeyHash (m6 prog w) z'.1==tupleKeyHash (m6 prog w) x.1)=true from hq);have:=aq1 (R z' (bc _ G)) (R x U) hq;exact hn.1 (bf.mpr ⟨z',G,this.trans e.symm⟩)
   rw[List.filter_cons,none];split<;>simp
  .rw[List.filter_cons,bw (by show ¬((tupleKeyHash (m6 prog w) y.1==tupleKeyHash (m6 prog w) x.1)=true);simpa using hy)]
   rcases cu.mp U with rfl|U
   .exact absurd rfl hy
   .exact ih hn.2 (λz hz=>R z (bc _ hz)) U
def ae3{id:String}{G:List (List Key×Addr×Value)}(ho:s.heap.get? d=some o)(hd:o.data=.dict es ep)(U:es.toList=G.map (entryOfKey (tupleKind (m6 prog w))))(hk:∀x∈G,IsTupleKey (m6 prog w) s.heap x.1 x.2.1)(hn:(G.map (·.1)).Nodup)(hs:∀x∈G,SmK x.1)(h:Q es s) :
 wpAny (model prog w) A (Builtin.Dict.entriesForEmpty id d) Q E s:=by
 unfold Builtin.Dict.entriesForEmpty;refine aa (qz ho hd ?_);refine aa ?_;rw[<-Array.forIn_toList];refine qd _ (λZ _ s'=>s'=s/\∀e∈Z,∃x∈G,e=entryOfKey (tupleKind (m6 prog w)) x) _ ?_ ?_ _ _ ⟨rfl,λe hm=>?_⟩
 .rintro e Z r s' ⟨rfl,Eb⟩
  obtain⟨x,R,rfl⟩:=Eb e dh;show wpAny _ _ (Builtin.Dict.quietEq (.ref x.2.1)>>=_) _ _ _;refine aa (ahm (hk x R) ?_);simp only[za,jw];have h1:=aq2 (prog:=prog) (w:=w) hn hs R;rw[bw (by
   intro hc;have:(es.filter (·.hash==(entryOfKey (tupleKind (m6 prog w)) x).hash)).size=((G.map (entryOfKey (tupleKind (m6 prog w)))).filter (·.hash==tupleKeyHash (m6 prog w) x.1)).length:=by rw[<-U,<-ql,Array.toList_filter];rfl
   exact l_ hc (a_ (f_ this) h1))]
  exact aj ⟨rfl,λe U=>Eb e (bc _ U)⟩
 .rintro b s' ⟨rfl,_⟩
  exact aj h
 .rw[U]at hm
  obtain⟨x,R,rfl⟩:=bf.mp hm;exact⟨x,R,rfl⟩
def ba4{prog:Program}{w:World}{h G:Heap}{Z:List Key}{p a:Addr}(x:IsTupleKey (m6 prog w) h Z p)(U:∀b o,h.get? b=some o->G.get? b=some o):IsTupleKey (m6 prog w) G Z p:=
 let ⟨o,items,n,ho,r⟩:=x;⟨o,items,n,U p o ho,r⟩
set_option tactic.hygienic true in
def ba5(q4:(d==sysModules)=false)(hd:s.heap.DictOfH (tupleKind (m6 prog w)) d y)(hs:∀x∈y,SmK x.1)(q1:y.length<=sizeLine)(h:∀h',h'.DictOfH (tupleKind (m6 prog w)) s.heap.objs.size y->(∀b o,s.heap.get? b=some o->h'.get? b=some o)->Q (.ref s.heap.objs.size) { s with heap:=h' }) :
 wpAny (model prog w) A (call (.type "dict") [.ref d]) Q E s:=by
 refine callType_codes (Q₁:=λobj R=>obj=.ref s.heap.objs.size/\R={ s with heap:=s.heap.push { cls:=.type "dict",data:=.dict #[] } }) F.kt_called_dict (F.kt_typeCall_dict_1 _) F.entry_dict_init (kt_code_dict_new _ ⟨rfl,rfl⟩) ?_;rintro obj R ⟨rfl,rfl⟩;have q7:=hd.typeIs;obtain⟨od,Y,q6,S,q3,C,L,q0,qq⟩:=hd;have keep:∀b o,s.heap.get? b=some o->(s.heap.push { cls:=.type "dict",data:=.dict #[] }).get? b=some o:=λb o e=>au _ e
 have J:(s.heap.push { cls:=.type "dict",data:=.dict #[] }).get? s.heap.objs.size=some { cls:=.type "dict",data:=.dict #[] }:=bu _ rfl;have qv:Shared.TypeIs { s with heap:=s.heap.push { cls:=.type "dict",data:=.dict #[] } } (.ref s.heap.objs.size) "dict":= ⟨_,J,rfl⟩;have u:Shared.TypeIs { s with heap:=s.heap.push { cls:=.type "dict",data:=.dict #[] } } (.ref d) "dict":= ⟨od,keep _ _ S,q3.1⟩;have U:=keep _ _ S;have q2:s.heap.objs.size≠d:=λe=>absurd (az S) (by rw[e];exact j9 _)
 have G:Y.size=y.length:=size_of_entries L;refine⟨qv,F.args_dict_init_2 _ _,?_⟩;unfold Builtin.«dict.__init__»;refine aa ?_;unfold Builtin.Dict.selfAndRest;refine aa (wpAny_notOrdered_dict qv ?_);show wpAny _ _ (pure (s.heap.objs.size,[Value.ref d])) _ _ _;refine aj ?_;show wpAny _ _ (Builtin.Dict.updateFrom "dict.__init__" s.heap.objs.size (.ref d) [] .none) _ _ _;unfold Builtin.Dict.updateFrom;refine aa (qb u ?_);rw[bw (by decide)];refine aa ?_;unfold Builtin.Dict.merge;refine aa ?_;unfold Builtin.Dict.readDirectly;refine aa (o5 u isSubtype_dict_dict ?_);simp only[qt,cz,jg];refine aa (wpAny_specialOf u F.slot_dict_iter.lookup (aj ?_));simp only[zp,jw];refine aa (aj ?_);unfold Builtin.Dict.mergeDict;rw[bw (by simpa using q2)];unfold Builtin.Dict.showsAll;rw[bw (by rw[q4];exact jf)];refine aa (aj ?_);refine aa (qz U C ?_);have kk:∀{h':Heap},(∀b o,s.heap.get? b=some o->h'.get? b=some o)->∀x∈y,(tupleKind (m6 prog w)).is h' x.1 x.2.1:=λhk x hx=>ba4 (a:=d) (q0 x hx) hk
 have qj:Y=#[]->∀s',s'={ s with heap:=s.heap.push { cls:=.type "dict",data:=.dict #[] } }->wpAny (model prog w) A.in1.in1 (Builtin.Dict.addKeywords s.heap.objs.size []>>=λ_=>ret Value.none) (λfin s'=>match fin with|.done f=>wants (λr Z=>r=Value.none/\Q (.ref s.heap.objs.size) Z) E (.ok f) s'|.again c'=>c'.quiet=true/\codeAny (model prog w) A.in1 c' (wants (λr Z=>r=Value.none/\Q (.ref s.heap.objs.size) Z) E) s') (λe s'=>wants (λr Z=>r=Value.none/\Q (.ref s.heap.objs.size) Z) E (.error e) s') s':=λhe s' Pj=>by have q5:y=[]:=u0.mp (by rw[<-G,he];rfl);subst Pj;refine aa (aj (aj ⟨rfl,h _ ⟨_,#[],0,J,⟨rfl,rfl,rfl⟩,rfl,?_,kk keep,qq⟩ keep⟩));rw[q5];rfl
 dsimp only;split
 .refine aa (qz J rfl ?_)
  rw[bx (show(#[]:Array DictEntry).isEmpty=true from rfl)];refine aa (ae3 U C L (kk keep) qq hs ?_);split
  .refine aa (wpAny_updateDictKeysTo J rfl (aj ?_) (by show Y.size<=_;exact a_ (f_ G) (a_ q1 x_)))
   have qk:∀b o,s.heap.get? b=some o->((s.heap.push { cls:=.type "dict",data:=.dict #[] }).update s.heap.objs.size (Obj.mapDictKeys λ_=>Y)).get? b=some o:=λb o e=>by rw[ur _ _ (j0 (f9 (az e)))];exact keep b o e
   refine aa (aj (aj ⟨rfl,h _ ⟨_,Y,0+1,mj _ J (Obj.isFreed_of_dict (Obj.data_mapDictKeys rfl _)),⟨rfl,rfl,rfl⟩,Obj.data_mapDictKeys rfl _,L,kk qk,qq⟩ qk⟩))
  .rename_i Uy
   exact aj (qj (Array.isEmpty_iff.mp (by simpa using Uy)) _ rfl)
 .rename_i hf
  have he:Y=#[]:=by
   apply yf;intro Uy;have hx:y≠[]:=λe=>Uy (Array.eq_empty_of_size_eq_zero (by rw[G,e];rfl))
   obtain⟨x,ys,rfl⟩:=List.exists_cons_of_ne_nil hx;have Eb:(Y.all λe=>(keyPart e.key).isSome)=true:=by simp only[Am,Bool.not_eq_false,aq]at hf;exact hf.2
   rw[<-Array.all_toList,L,gr,List.all_cons,aq]at Eb;exact Bool.noConfusion (Eb.1:(keyPart (.ref x.2.1)).isSome=true)
  refine aa (wpAny_dictEpoch U C ?_);refine aa (qz U C ?_);refine aa ?_;rw[he,vq];simp only[Std.Legacy.Range.size,gq,List.length_nil,Nat.sub_zero,uy,Nat.sub_self,Nat.div_one,List.range'_zero,List.forIn_nil];exact aj (aj (qj he _ rfl))
end Wq
namespace Sm
open PySem L2
open MW (Ex Df OEx Nt Ce mz Lv Tg Res di MO Jm Cp Op2 Blt Bm Kx Src)
set_option tactic.hygienic true in
def aw3(h:MW.ago l=true):∀k∈l.map (·.1),Wq.SmK k:=λk Y=>by
 obtain⟨p,Z,rfl⟩:=bf.mp Y;simp only[MW.ago,jb]at h;have:=h p Z;split at this
 .rename_i i j e
  simp only[aq,dm]at this;exact⟨i,j,this.1.1.1,this.1.1.2,this.1.2,this.2,e⟩
 .cases this
def a4i{X:Cx}(S:km nm X.K Z H M)(G:H p=none)(r:ud X.K Z H (λk k'=>k=k') U l) :
 km nm X.K (Z.add p) (upd H p (.dT l)) (M++[.dT U])/\Le Z H (Z.add p) (upd H p (.dT l))/\Rep X.K (Z.add p) (upd H p (.dT l)) (.ref M.length) (.ref p):=by
 obtain⟨R,le⟩:=S.new (H':=upd H p (.dT l)) (o:=.dT U) G (λa u e=>by rw[my (m5 e G)];exact e) λle=>⟨l,xf,r.mono le⟩
 exact⟨R,le,.ref (by show(Z.l++[p])[M.length]?=some p;rw[<-S.len];simp)⟩
def a4j{X:Cx}(S:km nm X.K Z H M)(G:H p=none)(r:ud X.K Z H (λk k'=>k=k') U l) :
 km nm X.K (Z.add p) (upd H p (.dK l)) (M++[.dK U])/\Le Z H (Z.add p) (upd H p (.dK l))/\Rep X.K (Z.add p) (upd H p (.dK l)) (.ref M.length) (.ref p):=by
 obtain⟨R,le⟩:=S.new (H':=upd H p (.dK l)) (o:=.dK U) G (λa u e=>by rw[my (m5 e G)];exact e) λle=>⟨l,xf,r.mono le⟩
 exact⟨R,le,.ref (by show(Z.l++[p])[M.length]?=some p;rw[<-S.len];simp)⟩
set_option tactic.hygienic true in
def a4k:Bx X (.type "dict") (rB nm X.K .dict):=λqq s σ H vs us Q I Tf hh=>by
 obtain⟨ι,M,ds,d,M',S,r,e,q⟩:=hh;cases r with
 |nil=>simp[MW.rm]at e
 |@cons x v _ _ h t =>
  cases t with
  |cons Y t2=>cases x<;>simp[MW.rm]at e
  |nil =>
   cases Tf with
   |cons ru rn =>
    cases rn;cases h with
    |@ref n p hp =>
     cases ru;have e:(match M[n]? with|some (.dT Z)=>if MW.ago Z then MW.new (.dT Z) M else .bad|some (.dK Z)=>MW.new (.dK Z) M|_=>.bad)=.ok d M':=e;split at e
     .rename_i Z C
      split at e
      .rename_i hs
       cases e;obtain⟨l,U,Y⟩:=S.obj n _ p C hp;obtain⟨z,y,xs,G,dd⟩:=ap3 I.Al U;obtain⟨k1,k2⟩:=aju G;have hl:xs.length=l.length:=by have:=mq List.length k1;simpa using this
       refine Wq.ba5 y dd (λx hx=>?_) (by rw[hl];exact z) λh' L keep=>?_
       .refine aw3 hs x.1 ?_
        rw[<-Rh Y,<-k1];exact bf.mpr ⟨x,hx,rfl⟩
       .have hf:H s.heap.objs.size=none:=I.Al.fresh (bh _)
        obtain⟨S2,J,u⟩:=a4i (X:=X) S hf Y;refine⟨.ref s.heap.objs.size,upd H s.heap.objs.size (.dT l),I.laid (a:=s.heap.objs.size) (o:=.dT l) (t':=s.toks) keep (bh _) ?_,rfl,q _ _ _ J S2 u⟩;obtain⟨o,es,ep,g1,g2,g3,g4,g5,g6⟩:=L;exact⟨z,pq.mpr (j0 (f9 I.big)),xs,G.keeps (λb ys e=>by rw[my (m5 e hf)];exact e),o,es,ep,g1,g2,g3,g4,g6⟩
      .cases e
     .rename_i Z C
      cases e;obtain⟨l,U,Y⟩:=S.obj n _ p C hp;refine ap9 I (.inl U) λp' s' R I'=>?_
      obtain⟨S2,J,u⟩:=a4j (X:=X) S R Y;exact⟨.ref p',_,I',rfl,q _ _ _ J S2 u⟩
     .cases e
    |_=>cases e
set_option tactic.hygienic true in
theorem ints_rep{u:Io}{H:Hp}{K:Fg}:∀{Y:List Dv}{G:List V}{is:Zl}{U:Xs},o4 K u H Y G->Vals G is->MW.Z7 Y=some U->∃Z:Array (Int×Tok),is.toArray=intItems Z/\Z.toList.map (·.1)=U
 |_,_,_,_,.nil,.nil,h=>by cases h;exact⟨#[],by simp[intItems],rfl⟩
 |_,_,_,_,.cons r t,.cons rv tv,h=>by
  cases r<;>simp only[MW.Z7]at h<;>try cases h
  rename_i i;obtain⟨C,L,e2⟩:=cj.mp h;obtain⟨Z,S,R⟩:=ints_rep t tv L;obtain⟨y,rfl⟩:=rv;refine⟨#[(i,y)]++Z,?_,by simp[R,e2]⟩;have J:=mq Array.toList S;apply Array.toList_inj.mp;simp[intItems]at J⊢;exact J
theorem ae4:∀(l:Xs)(z m:Int),(m=z\/m∈l)->z<=m->(∀a∈l,a<=m)->l.foldl (λm x=>if m<x then x else m) z=m
 |[],z,m,h,_,_=>by rcases h with h|h;exact h.symm;cases h
 |a::l,z,m,h,hz,Eb=>by
  rw[yj];have U:=Eb a dh;refine ae4 l _ m ?_ (by split<;>lia) (λb G=>Eb b (bc _ G));rcases h with h|h
  .subst h;left;split<;>lia
  .rcases cu.mp h with h|h
   .subst h
    by_cases Z:z<m
    .left;rw[bx Z]
    .left;rw[bw Z];lia
   .exact .inr h
theorem ae5:∀(l:Xs)(z m:Int),(m=z\/m∈l)->m<=z->(∀a∈l,m<=a)->l.foldl (λm x=>if x<m then x else m) z=m
 |[],z,m,h,_,_=>by rcases h with h|h;exact h.symm;cases h
 |a::l,z,m,h,hz,Eb=>by
  rw[yj];have U:=Eb a dh;refine ae5 l _ m ?_ (by split<;>lia) (λb G=>Eb b (bc _ G));rcases h with h|h
  .subst h;left;split<;>lia
  .rcases cu.mp h with h|h
   .subst h
    by_cases Z:m<z
    .left;rw[bx Z]
    .left;rw[bw Z];lia
   .exact .inr h
def aw4(e:MW.two ds f g M=.ok d Z):Z=M/\((∃i j,ds=[.int i,.int j]/\d=.int (f i j))\/∃x m,ds=[x]/\g x=some m/\d=.int m):=by
 cases ds with
 |nil=>cases e
 |cons x r=>cases r with
  |nil =>
   obtain⟨G,e2⟩:=vz (show Res.ux ((g x).map MW.D.int) M=.ok d Z from e);obtain⟨m,U,R⟩:=cj.mp G;exact⟨e2,.inr ⟨x,m,rfl,U,R.symm⟩⟩
  |cons y r=>cases r with
   |nil =>
    cases x<;>try cases e
    cases y<;>cases e;exact⟨rfl,.inl ⟨_,_,rfl,rfl⟩⟩
   |cons _ _=>cases e
def ae6{h:List Int->Option Int}(e:MW.two ds f (λd=>((MW.gm M d).bind MW.Z7).bind h) M=.ok d M'):M'=M/\((∃i j,ds=[.int i,.int j]/\d=.int (f i j))\/∃x G n Z m,ds=[x]/\MW.gm M x=some G/\MW.Z7 G=some (n::Z)/\h (n::Z)=some m/\d=.int m\/h []=some m):=by
 obtain⟨a,b|⟨x,m,h3,h4,R⟩⟩:=aw4 e
 .exact⟨a,.inl b⟩
 .obtain⟨Z,e5,U⟩:=gf.mp h4
  obtain⟨G,e7,e8⟩:=gf.mp e5;cases Z with
  |nil=>exact⟨a,.inr ⟨x,G,0,[],m,.inr U⟩⟩|cons n Z=>exact⟨a,.inr ⟨x,G,n,Z,m,.inl ⟨h3,e7,e8,U,R⟩⟩⟩
def Yp(h:Vals [v] Z):∃u,Z=[u]/\RelV v u:=L2.Vals.one h
def aav(h:i<Z.size):(Z.toList.map (·.1))[i]?=some (numAt Z i):=by simp[numAt,h]
def best{Z:Array (Int×Tok)}{R:Int->Int->Prop}(U:Z.toList.map (·.1)=n::l)(h:b<Z.size)(b2:∀i,i<Z.size->R (numAt Z i) (numAt Z b)):(numAt Z b=n\/numAt Z b∈l)/\∀a∈n::l,R a (numAt Z b):=by
 constructor
 .have:=ao (aav h)
  rw[U]at this;exact cu.mp this
 .intro a ha
  rw[<-U]at ha;obtain⟨i,G⟩:=yd.mp ha;have li:i<Z.size:=by have:=(ak.mp G).1;simpa using this
  rw[aav li]at G;cases G;exact b2 i li
def ajz(r:o4 K ι H [.int i,.int j] R):R=[.int i,.int j]:=by
 cases r with
 |cons Z G=>cases G with
  |cons U t2=>cases t2;cases Z;cases U;rfl
def aj0(I:Inv X pins σ H s)(S:km nm X.K ι H M)(r:o4 X.K ι H [x] vs)(Tf:Vals vs us)(e1:MW.gm M x=some xs)(e2:MW.Z7 xs=some (n::ns)):∃a Z,us=[.ref a]/\s.heap.IsList a (intItems Z)/\Z.toList.map (·.1)=n::ns/\0<Z.size:=by obtain⟨v,rfl,rv⟩:=Ez r rfl;obtain⟨u,rfl,R⟩:=Yp Tf;obtain⟨p,ws,rfl,hp,rl⟩:=uo S rv e1;cases R;obtain⟨is,G,pl,_⟩:=I.list (Hq.of hp);obtain⟨Z,g1,U⟩:=ints_rep rl G e2;refine⟨_,Z,rfl,by rw[<-g1];exact pl.isList,U,?_⟩;have:=mq List.length U;simp at this;lia
def ba7(hc:X.calm=true):Bx X (.builtin "max") (rB nm X.K .max):=λZ s σ H vs us Q I U hh=>by
 obtain⟨ι,M,ds,d,M',S,r,e,q⟩:=hh;obtain⟨rfl,⟨i,j,rfl,rfl⟩|⟨x,xs,n,l,m,⟨rfl,e1,e2,G,rfl⟩|G⟩⟩:=ae6 (h:=MW.a0x) e
 .cases ajz r
  exact alx hc Z s σ H _ us Q I U ⟨i,j,rfl,q ι H _ (Le.refl _ _) S (.int _)⟩
 .obtain⟨a,xa,rfl,pl,g2,Uy⟩:=aj0 I S r U e1 e2
  refine max_intList (I.ok.hd hc) pl Uy λw h' tk hw keep=>?_
  obtain⟨t,rfl⟩:=intItems_at hw;obtain⟨b1,b2⟩:=argBest_gt (numAt xa) (xa.size-1);obtain⟨c1,c2⟩:=best (R:=(·<=·)) g2 (by omega) λi hi=>b2 i (by lia)
  cases G;rw[ae4 l n _ c1 (c2 n dh) λa h=>c2 a (bc _ h)]at q;exact⟨.int _,H,I.kept keep,⟨t,rfl⟩,q ι H _ (Le.refl _ _) S (.int _)⟩
 .cases G
def Ti(n d:Nat)(o:Option Int):HT.Gy n d o=MW.clip n d o:=by
 cases o with
 |none=>rfl
 |some i =>
  show(if i<0 then(i+(n:Int)).toNat else min i.toNat n)=(if 0<=i then min i.toNat n else(i+(n:Int)).toNat)
  by_cases h:i<0
  .rw[bx h,bw (by lia)]
  .rw[bw h,bx (by lia)]
def tO(R:Nm)(W:Jm)(K:Fg)(o:OEx):TO:=fun σ H Q=>∃U ρ M d M',km R K U H M/\u9 K U H ρ σ/\o.den W ρ M=.ok d M'/\∀Z G,Le U H Z G->km R K Z G M'->Q d G
def PO.weak(h:PO X e t)(w:∀G H Q,t' G H Q->t G H Q):PO X e t':=λZ s G H Q I q=>h Z s G H Q I (w G H Q q)
def PO.of(h:PO X e t)(w:∀U H Q G ρ M d M',km nm X.K G H M->u9 X.K G H ρ U->o'.den W ρ M=.ok d M'->(∀Z H',Le G H Z H'->km nm X.K Z H' M'->Q d H')->t U H Q):PO X e (tO nm W X.K o'):=PO.weak h λU H Q z_=>by obtain⟨G,ρ,M,d,M',S,R,e,q⟩:=z_;exact w U H Q G ρ M d M' S R e q
def aw5:PO X none (tO nm W X.K .none):=PO.of awd λU H Q Z ρ M d G S R e q=>by rw[MW.alc]at e;cases e;exact q Z H (Le.refl _ _) S
set_option tactic.hygienic true in
def aw6(U:PE X a (tE nm W X.K C)):PO X (some a) (tO nm W X.K (.some C)):=PO.of (awe U) λy H Q ι ρ M d u S R e q=>by rw[MW.ald]at e;obtain⟨x,M1,Y,e⟩:=fc e;split at e<;>cases e;rename_i i;exact one S R Y λZ G v le J L r=>by cases r;exact⟨i,rfl,q Z G le J⟩
set_option tactic.hygienic true in
def ba8(ha:PE X a (tE nm W X.K a'))(hl:PO X lo (tO nm W X.K qq))(hh:PO X hi (tO nm W X.K qj)):PE X (.Subscript a (.Slice lo hi none p2) pos) (tE nm W X.K (.cut a' qq qj)):=
 PE.of (aqb (SlR.or awg a3f) ha hl hh) fun σ H Q ι ρ M d M' S R e q=>by
  rw[MW.au5]at e;obtain⟨x,M1,e1,e⟩:=fc e;obtain⟨l,M2,e2,e⟩:=fc e;obtain⟨h,M3,e3,e⟩:=fc e;obtain⟨u,e5⟩:=vz e;subst e5;refine one S R e1 λq0 H1 v le S1 R1 r=>⟨q0,ρ,M1,l,M2,S1,R1,e2,λqk H2 Aj S2=>⟨qk,ρ,M2,h,_,S2,R1.mono Aj,e3,λU H3 C L=>?_⟩⟩
  have r3:=(r.mono Aj).mono C;have fin:=λqv H' w Zg S' r'=>q qv H' w (((le.trans Aj).trans C).trans Zg) S' r'
  have lst:∀Z,MW.gm M' x=some Z->d=.vl (MW.W3 Z l h)->a9u X.K v l h H3 Q:=λZ hd ed=>by
   obtain⟨p,vs,rfl,y,J⟩:=uo L r3 hd;refine⟨p,vs,rfl,Hq.of y,λp' Y=>?_⟩;have:o4 X.K U H3 (MW.W3 Z l h) (V7 vs l h):=by unfold MW.W3 V7;rw[Ti,Ti,<-J.length];exact(J.drop _).take _
   obtain⟨S4,G,r4⟩:=Yd (X:=X) L Y this;subst ed;exact fin _ _ _ G S4 r4
  cases x with
  |tup Z =>
   right
   simp only[MW.U0]at u;cases u;cases r3 with
   |@tup p _ vs y J =>
    have:o4 X.K U H3 (MW.W3 Z l h) (V7 vs l h):=by unfold MW.W3 V7;rw[Ti,Ti,<-J.length];exact(J.drop _).take _
    refine⟨p,vs,rfl,Hl.of y,λz1 z2=>?_,λp' Y=>?_⟩
    .have e:V7 vs l h=vs:=by
      unfold V7;rw[z1,z2];simp
     rw[e]at this;exact fin _ _ _ (Le.refl _ _) L (.tup y this)
    .obtain⟨S4,G,r4⟩:=Mf (X:=X) L Y this
     exact fin _ _ _ G S4 r4
  |_ =>
   left
   simp only[MW.U0]at u;obtain⟨Z,hd,ed⟩:=cj.mp u;exact lst Z hd ed.symm
def ae7(K:Fg)(T:String):PySem.W.kitOne K (.type T) (.type T)=some true:=by unfold PySem.W.kitOne;rw[bx (by simp)]
def ba9(hk:∀{ι H x v d M M'},Rep X.K ι H x v->MW.rm t [x] M=.ok d M'->∃Ty b,M'=M/\d=.bl b/\Qc X.K H v Ty/\PySem.W.kitOne X.K Ty (.type T)=some b)(hg:Gl X n)(hm:X.mg n=none)(hv:bootBuiltins n=some (.builtin "isinstance"))(hn:n≠"__name__")(Vk:(n==("__debug__": Str))=false)(qq:Gl X G)(qv:X.mg G=none)(q0:bootBuiltins G=some (.type T))(Z5:G≠"__name__")(qj:(G==("__debug__": Str))=false)(ha:PE X a (tE nm W X.K a'))(he:starEach [a,.Name G p'] X.env=(false,eval a X.env)::starEach [.Name G p'] X.env)(qk:starEach [.Name G p'] X.env=(false,eval (.Name G p') X.env)::starEach [] X.env)(Jg:(backTo pos (starEach [.Name G p'] X.env)).any (·.1)=false):PE X (.Call (.Name n p) [a,.Name G p'] [] pos) (tE nm W X.K (.blt t (.cons a' .nil))):=by intro U s σ H Q I hh;obtain⟨ι,ρ,M,d,M',S,R,e,q⟩:=hh;rw[MW.abe]at e;obtain⟨ds,M1,e1,e⟩:=fc e;rw[MW.Kf]at e1;obtain⟨x,M2,e2,e1⟩:=fc e1;rw[MW.Rv]at e1;cases e1;refine jd (Dw I hg hm hv ?_ hn Vk);refine yz (Q:=EP X U σ Q) ?_ he Jg;rw[he];show wpAny _ _ (spliced ((false,eval a X.env)::backTo pos (starEach [.Name G p'] X.env))) _ _ s;refine uq (Bp (ha U s σ H (λv H1=>∃Z,Le ι H Z H1/\km nm X.K Z H1 M1/\Rep X.K Z H1 x v) I ⟨ι,ρ,M,x,M1,S,R,e2,λZ H1 v le S1 r=>⟨Z,le,S1,r⟩⟩) λu s1 z_=>?_);obtain⟨v,H1,I1,r1,Z,le,S1,r⟩:=z_;rw[qk];show wpAny _ _ (spliced ((false,eval (.Name G p') X.env)::backTo pos (starEach [] X.env))) _ _ s1;refine uq (Dw I1 qq qv q0 ?_ Z5 qj);refine w5 ?_;obtain⟨Ty,b,rfl,rfl,ty,kb⟩:=hk r e;exact al1 I1 r1 ty kb λtk=>⟨.bl b,H1,I1.tok _,rfl,q Z H1 _ le S1 (.bl b)⟩
def aw7{X:Cx}{x d:Dv}(U:PySem.W.kitOne X.K (.type "int") (.type "tuple")=some false)(r:Rep X.K ι H x v)(e:MW.rm .isTuple [x] M=.ok d R):∃G b,R=M/\d=.bl b/\Qc X.K H v G/\PySem.W.kitOne X.K G (.type "tuple")=some b:=by
 obtain⟨e4,rfl⟩:=vz (show MW.isR (some true) (some false) M x=_ from e);obtain⟨b,Z,rfl⟩:=cj.mp e4;cases r with
 |tup h r=>cases Z;exact⟨_,_,rfl,rfl,.tup h,ae7 _ _⟩|int i=>cases Z;exact⟨_,_,rfl,rfl,.int i,U⟩|_=>cases Z
def aw8{X:Cx}{x d:Dv}(r:Rep X.K U H x v)(e:MW.rm .isStr [x] M=.ok d Z):∃G b,Z=M/\d=.bl b/\Qc X.K H v G/\PySem.W.kitOne X.K G (.type "str")=some b:=by
 cases r with
 |str x=>cases(show Res.ok (MW.D.bl true) M=.ok d Z from e);exact⟨_,_,rfl,rfl,.str x,ae7 _ _⟩
 |_=>cases e
def bba(hc:X.calm=true):Bx X (.builtin "min") (rB nm X.K .min):=λZ s σ H vs us Q I U hh=>by
 obtain⟨ι,M,ds,d,M',S,r,e,q⟩:=hh;obtain⟨rfl,⟨i,j,rfl,rfl⟩|⟨x,xs,n,l,m,⟨rfl,e1,e2,G,rfl⟩|G⟩⟩:=ae6 (h:=MW.a76) e
 .cases ajz r
  exact aly hc Z s σ H _ us Q I U ⟨i,j,rfl,q ι H _ (Le.refl _ _) S (.int _)⟩
 .obtain⟨a,xa,rfl,pl,g2,Uy⟩:=aj0 I S r U e1 e2
  refine min_intList (I.ok.hd hc) pl Uy λw h' tk hw keep=>?_
  obtain⟨t,rfl⟩:=intItems_at hw;obtain⟨b1,b2⟩:=argBest_lt (numAt xa) (xa.size-1);obtain⟨c1,c2⟩:=best (R:=λa b=>b<=a) g2 (by omega) λi hi=>b2 i (by lia)
  cases G;rw[ae5 l n _ c1 (c2 n dh) λa h=>c2 a (bc _ h)]at q;exact⟨.int _,H,I.kept keep,⟨t,rfl⟩,q ι H _ (Le.refl _ _) S (.int _)⟩
 .cases G
def Zr{n:Nat}(hh:A.handled=none)(hr:IsRange s.heap r a b c t u v)(Yq:Builtin.Range.small a b c=true)(hn:Builtin.Range.rangeSize a b c=n)(qj:n<=2^24)(hQ:∀(G:Heap) (U:Nat) (Z:U1),(∀b o,s.heap.get? b=some o->G.get? b=some o)->ItemsOf (λi v=>∃t,v=.int (a+i*c) t) Z n->Q Z.toList { s with heap:=G,toks:=U }):wpAny (model prog w) A (collect (.ref r)) Q E s:=by
 unfold collect;refine aa (wpAny_runValue (m9 F.entry_proto_collect ?_));rw[j8 F.plain_proto_collect _];show wpAny _ A.in1 (newList []>>=λl=>again (.builtin "list.__iadd__" ⟨[l,.ref r],[]⟩)) _ _ s;refine aa (jx ?_);refine aj ⟨plainId_quiet F.plain_list_iadd _,m9 F.entry_list_iadd ?_⟩;rw[j8 F.plain_list_iadd _];show wpAny _ A.in1 (Builtin.List.listExtendWith (.ref s.heap.objs.size) (.ref r) (.ref s.heap.objs.size)) _ _ _;have keep:∀b o,s.heap.get? b=some o->(s.heap.push { cls:=.type "list",data:=.seq ([]:Zl).toArray }).get? b=some o:=λb o e=>au _ e
 have q0:(s.heap.push { cls:=.type "list",data:=.seq ([]:Zl).toArray }).get? s.heap.objs.size=some { cls:=.type "list",data:=.seq #[] 0 }:=bu _ rfl;have qk:=wpAny_extend_range (prog:=prog) (w:=w) (A:=A) (R:=λr' s'=>∃(G:Heap)(U:Nat)(Z:U1)(c':Nat),r'=.ok (.ret (.ref s.heap.objs.size))/\s'={ s with heap:=G,toks:=U }/\(∀b o,s.heap.get? b=some o->G.get? b=some o)
 /\G.get? s.heap.objs.size=some { cls:=.type "list",dict:=none,data:=.seq Z c',slots:=#[] }/\ItemsOf (λi v=>∃t,v=.int (a+i*c) t) Z n)
  (s:={ s with heap:=s.heap.push { cls:=.type "list",data:=.seq ([]:Zl).toArray } }) hh (keep _ _ hr) Yq hn qj s.heap.objs.size (.ref s.heap.objs.size) 0 q0
  λG U Z c' hk hS Fl=>⟨G,U,Z,c',rfl,rfl,λb o e=>hk b o (f9 (az e)) (keep b o e),hS,Fl⟩
 have qq:∀{r':Result}{s':Shared},(∃(G:Heap)(U:Nat)(Z:U1)(c':Nat),r'=.ok (.ret (.ref s.heap.objs.size))/\s'={ s with heap:=G,toks:=U }/\(∀b o,s.heap.get? b=some o->G.get? b=some o)
 /\G.get? s.heap.objs.size=some { cls:=.type "list",dict:=none,data:=.seq Z c',slots:=#[] }/\ItemsOf (λi v=>∃t,v=.int (a+i*c) t) Z n)->∃(G:Heap)(U:Nat)(Z:U1)(c':Nat),r'=.ok (.ret (.ref s.heap.objs.size))/\s'={ s with heap:=G,toks:=U }/\G.get? s.heap.objs.size=some { cls:=.type "list",dict:=none,data:=.seq Z c',slots:=#[] }/\Q Z.toList s':=λ⟨G,U,Z,c',e1,e2,e3,e4,e5⟩=>⟨G,U,Z,c',e1,e2,e4,by rw[e2];exact hQ G U Z e3 e5⟩
 refine j7 qk (λfin s' hf=>?_) (λe s' he=>?_)
 .cases fin with
  |done f =>
   obtain⟨G,U,Z,c',e1,rfl,e4,e5⟩:=qq hf;cases e1;exact aa (wpAny_load e4 (aj e5))
  |again c' =>
   refine⟨hf.1,v5 hf.2 λr' q1 qv=>?_⟩;obtain⟨G,U,Z,c',e1,rfl,e4,e5⟩:=qq qv;subst e1;exact aa (wpAny_load e4 (aj e5))
 .obtain⟨_,_,_,_,e1,_⟩:=qq he
  cases e1
def Ur{n:Nat}(hh:A.handled=none)(hr:IsRange s.heap r a b c t u v)(Yq:Builtin.Range.small a b c=true)(hn:Builtin.Range.rangeSize a b c=n)(Z:n<=2^24)(h:∀(G:Heap) (tk:Nat) (acc:U1),(∀b o,s.heap.get? b=some o->G.get? b=some o)->ItemsOf (λi v=>∃t,v=.int (a+i*c) t) acc n->U (.ref G.objs.size) { s with heap:=G.push { cls:=.type "tuple",data:=.seq acc },toks:=tk }) :
 codeAny (model prog w) A (.call (.builtin "tuple.__new__") ⟨[.type "tuple",.ref r],[]⟩) (wants U E) s:=by
 refine codeAny_of_tree ?_;show wpAny _ A.in1 (do checkBuiltinCall "tuple.__new__" ⟨[.type "tuple",.ref r],[]⟩;again (.builtin "tuple.__new__" ⟨[.type "tuple",.ref r],[]⟩)) _ _ s;refine aa (wpAny_of_eq (F.newCall_tuple_1 _) (aj ⟨plainId_quiet F.plain_tuple_new _,m9 F.entry_tuple_new ?_⟩));rw[j8 F.plain_tuple_new _];have qj:=sub_tuple_self;have qq:=init_tuple_lookup;have qk:=madeHere_tuple;have R:s.TypeIs (.ref r) "range":= ⟨_,hr,rfl⟩
 wp_walk using qb R,Zr (A:=A.in1) hh hr Yq hn Z
 intro G tk acc hk Fl;show wpAny _ _ (Builtin.Tuple.tupleExact acc.toList.toArray>>=λv=>ret v) _ _ _;unfold Builtin.Tuple.tupleExact;refine aa (jx ?_ (by show acc.toList.toArray.size<=sizeLine;simp only[Array.toArray_toList];rw[Fl.1,p8];exact Z));refine aj ?_;have e:acc.toList.toArray=acc:=by simp
 rw[e];exact h G tk acc hk Fl
def Us{n:Nat}(hh:A.handled=none)(hr:IsRange s.heap r a b c t u v)(Yq:Builtin.Range.small a b c=true)(hn:Builtin.Range.rangeSize a b c=n)(qq:n<=2^24)(hQ:∀(R:Heap) (tk:Nat) (U:U1),(∀b o,s.heap.get? b=some o->R.get? b=some o)->ItemsOf (λi v=>∃t,v=.int (a+i*c) t) U n->Q (.ref R.objs.size) { s with heap:=R.push { cls:=.type "tuple",data:=.seq U },toks:=tk }) :
 wpAny (model prog w) A (call (.type "tuple") [.ref r]) Q E s:=by
 refine callType_codes (Q₁:=λobj Z=>Z.TypeIs obj "tuple"/\Q obj Z) F.called_tuple (F.typeCall_tuple_1 _) F.entry_object_init
  (Ur (A:=A.in1) hh hr Yq hn qq λR tk U hk Fl=>⟨⟨_,bu _ rfl,rfl⟩,hQ R tk U hk Fl⟩) λobj Z G=>?_
 exact⟨G.1,F.args_object_init_2 obj _,object_init_meets F.called_tuple.init.lookup F.called_tuple.made (by decide) prog w A.in1 _ Z ⟨G.1,rfl,G.2⟩⟩
def Yr(h:ItemsOf (λi v=>∃t,v=.int (0+(i:Int)*1) t) acc n):Vals ((List.range n).map λ(k:Nat)=>V.int (k:Int)) acc.toList:=by
 have go:∀(l:Zl)(k:Nat),(∀(j:Nat)(v:Value),l[j]?=some v->∃t,v=Value.int ((k+j:Nat):Int) t)->Vals ((List.range' k l.length).map λ(k:Nat)=>V.int (k:Int)) l:=by
  intro l
  induction l with
  |nil=>intro k _;exact .nil
  |cons v l U =>
   intro k G;rw[gn,List.range'_succ,gr];refine .cons ?_ (U (k+1) λj v Z=>?_)
   .exact G 0 v rfl
   .obtain⟨t,e⟩:=G (j+1) v (by simpa using Z)
    exact⟨t,by rw[e];congr 1;lia⟩
 have:=go acc.toList 0 (λj v Z=>by
  obtain⟨t,e⟩:=h.2 j v (by simpa using Z);exact⟨t,by rw[e];congr 1;lia⟩)
 rw[ql,h.1,<-List.range_eq_range']at this;exact this
def Ys(n:Nat):o4 K G H ((List.range n).map λ(k:Nat)=>MW.D.int (k:Int)) ((List.range n).map λ(k:Nat)=>V.int (k:Int)):=by
 generalize List.range n=l
 induction l with
 |nil=>exact .nil|cons k l Z=>exact .cons (.int _) Z
set_option tactic.hygienic true in
def a4n(hr:Af 8 X.A)(hg:Gl X n)(hm:X.mg n=none)(hv:bootBuiltins n=some (.type "tuple"))(hn:n≠"__name__")(Vk:(n==("__debug__": Str))=false)(qj:Gl X G)(q0:X.mg G=none)(q3:bootBuiltins G=some (.type "range"))(Z5:G≠"__name__")(qk:(G==("__debug__": Str))=false)(ha:PA X [a] (Yb nm W X.K (.cons a' .nil)))(he:starEach [.Call (.Name G p') [a] [] y] X.env=(false,eval (.Call (.Name G p') [a] [] y) X.env)::starEach [] X.env)(Jg:(backTo q1 (starEach [] X.env)).any (·.1)=false)(qv:starEach [a] X.env=(false,eval a X.env)::starEach [] X.env)(qq:(backTo y (starEach [] X.env)).any (·.1)=false) :
 PE X (.Call (.Name n p) [.Call (.Name G p') [a] [] y] [] q1) (tE nm W X.K (.agk a')):=by
 intro Z s σ H Q I hh;obtain⟨ι,ρ,M,d,M',S,R,e,q⟩:=hh;rw[MW.aoi]at e;obtain⟨x,M1,e1,e⟩:=fc e;split at e<;>try cases e
 rename_i i;split at e<;>cases e;rename_i hi;refine jd (Dw I hg hm hv ?_ hn Vk);refine jm (Q:=EP X Z σ Q) ?_ he Jg;rw[he];show wpAny _ _ (spliced ((false,eval (.Call (.Name G p') [a] [] y) X.env)::backTo q1 (starEach [] X.env))) _ _ s;refine uq ?_;refine jd (Dw I qj q0 q3 ?_ Z5 qk);refine jm (Bp (ha y Z s σ H (λvs J=>∃Y,vs=[.int i]/\Le ι H Y J/\km nm X.K Y J M') I ⟨ι,ρ,M,[.int i],M',S,R,by simp[e1,Res.bind],λY J vs le S1 r=>?_⟩) λus U ⟨vs,J,I1,r1,Y,ev,Wh,S1⟩=>?_) qv qq
 .obtain⟨v,ev,rv⟩:=Ez r rfl
  cases rv;exact⟨Y,ev,le,S1⟩
 subst ev;obtain⟨u,rfl,ru⟩:=Yp r1;obtain⟨t,rfl⟩:=ru;refine call_range_1 ?_;show wpAny _ _ (spliced []) _ _ _;refine w5 ?_;have keep:∀b o,U.heap.get? b=some o->(U.heap.push { cls:=.type "range",data:=.fields #[.int 0 U.toks,.int i t,.int 1 (U.toks+1)] }).get? b=some o:=λb o e=>au _ e
 refine Us (n:=i.toNat) hr.hd (bu _ rfl) (small_one (by lia) (by lia) (by lia) (by omega)) (by rw[rangeSize_one];split<;>lia) (by lia) λC tk L hk Fl=>?_
 have I2:Inv X Z σ J { U with heap:=C,toks:=tk }:=I1.kept λb o e=>hk b o (keep b o e)
 have hz:((List.range i.toNat).map λ(k:Nat)=>V.int (k:Int)).length<=sizeLine:=by simp[p8];omega
 have hf:J C.objs.size=none:=I2.Al.fresh (bh _);have I3:Inv X Z σ (upd J C.objs.size (.tup ((List.range i.toNat).map λ(k:Nat)=>V.int (k:Int)))) { U with heap:=C.push { cls:=.type "tuple",data:=.seq L },toks:=tk }:=
  I2.laid (a:=C.objs.size) (t':=tk) (λb o e=>au _ e) (bh _) (show Be X.prog X.w _ _ _ (.tup _)from⟨hz,L.toList,Yr Fl,by simpa using L2.Xr.new _ _⟩)
 obtain⟨S2,Aj,r2⟩:=Mf (X:=X) S1 hf (Ys i.toNat);exact⟨.ref C.objs.size,_,I3,rfl,q Y _ _ (Wh.trans Aj) S2 r2⟩
end Sm
namespace EnT
open PySem PySem.Spec
open AutoSeq1 (wpAny_loadPart')
set_option tactic.hygienic true in
def ae8(a:s.heap.IsTupleIter it t i)(b:s.heap.IsTuple t U)(e:U[i]?=some x)(q:∀G,G.IsTupleIter it t (i+1)->Heap.SameBut it s.heap G->Q x { s with heap:=G }):wpAny (model prog w) A (Builtin.SmallTypes.nextOf (.ref it)) Q E s:=by obtain⟨o,Y,J,Z⟩:=id a;obtain⟨R,L,y,S,C⟩:=b;unfold Builtin.SmallTypes.nextOf;refine aa (ju (name:=Str.ofString "__next__") a.typeIs u5 (jr u5 a.typeIs F.entry_tuple_iterator_next ?_ (F.args_tuple_iterator_next_1 _)));show wpAny _ _ (field (.ref it) 0>>=_) _ _ s;refine aa (ig Y Z (x:=.ref t) rfl ?_);show wpAny _ _ (if(Value.ref t==Value.none)=true then _ else field (.ref it) 1>>=_) _ _ s;rw[bw (show ¬((Value.ref t==Value.none)=true)by exact jf)];refine aa (ig Y Z (x:=.int i 0) rfl (aa (q9 L C ?_)));simp only[wk,e];refine aa (wpAny_setField Y Z (by simp) (aj ⟨x,rfl,aj (q _ ⟨_,mj _ Y (Obj.isFreed_of_fields (Obj.data_mapFields Z _)),(Obj.cls_mapFields ..).trans J,?_⟩ (jz ..))⟩));rw[Obj.data_mapFields Z];simp[rawInt]
set_option tactic.hygienic true in
def aj1(C:A.handled=none)(a:s.heap.IsTupleIter it t i)(b:s.heap.IsTuple t J)(e:J[i]?=none)(q:∀Z x,Heap.ExtBut it s.heap Z->(∃o,Z.get? x=some o/\o.cls=.type "StopIteration")->E (.ref x) { s with heap:=Z }):wpAny (model prog w) A (Builtin.SmallTypes.nextOf (.ref it)) Q E s:=by obtain⟨o,Y,S,G⟩:=id a;obtain⟨R,L,u,y,U⟩:=b;unfold Builtin.SmallTypes.nextOf;refine aa (ju (name:=Str.ofString "__next__") a.typeIs u5 (jr u5 a.typeIs F.entry_tuple_iterator_next ?_ (F.args_tuple_iterator_next_1 _)));show wpAny _ _ (field (.ref it) 0>>=_) _ _ s;refine aa (ig Y G (x:=.ref t) rfl ?_);show wpAny _ _ (if(Value.ref t==Value.none)=true then _ else field (.ref it) 1>>=_) _ _ s;rw[bw (show ¬((Value.ref t==Value.none)=true)by exact jf)];refine aa (ig Y G (x:=.int i 0) rfl (aa (q9 L U ?_)));simp only[wk,e];refine aa (wpAny_rule (aa (wpAny_setField Y G (by simp) ?_)));show wpAny _ _ (newExc (.type "StopIteration") []>>=raiseNew) _ _ _;exact Wq.aid C λZ x k e=>q Z x (λb o n z=>k b o ((jz ..).extBut b o n z)) e
def ItB(b:Bool)(h:Heap)(it a:Addr)(i:Nat):Prop:=cond b (h.IsTupleIter it a i) (h.IsListIter it a i)
def SqB(b:Bool)(h:Heap)(a:Addr)(Z:U1):Prop:=cond b (h.IsTuple a Z) (h.IsList a Z)
def ItB.at(x:ItB b h it a i)(k:∀o,h.get? it=some o->Z.get? it=some o):ItB b Z it a i:=by
 cases b with
 |true=>obtain⟨o,e,r⟩:=x;exact⟨o,k o e,r⟩
 |false=>obtain⟨o,e,r⟩:=x;exact⟨o,k o e,r⟩
def ItB.obj(x:ItB b h it a i):∃o,h.get? it=some o/\∀v,o.data≠.cell v:=by
 cases b with
 |true=>obtain⟨o,e,c,d⟩:=x;exact⟨o,e,λv z=>by rw[d]at z;cases z⟩
 |false=>obtain⟨o,e,c,d⟩:=x;exact⟨o,e,λv z=>by rw[d]at z;cases z⟩
def aq4(a:ItB b s.heap it t i)(c:SqB b s.heap t G)(e:G[i]?=some x)(q:∀Z,ItB b Z it t (i+1)->Heap.SameBut it s.heap Z->Q x { s with heap:=Z }):wpAny (model prog w) A (Builtin.SmallTypes.nextOf (.ref it)) Q E s:=by
 cases b with
 |true=>exact ae8 a c e q|false=>exact wpAny_nextOf_list_item a c e q
def aw9(G:A.handled=none)(a:ItB b s.heap it t i)(c:SqB b s.heap t U)(e:U[i]?=none)(q:∀Z x,Heap.ExtBut it s.heap Z->(∃o,Z.get? x=some o/\o.cls=.type "StopIteration")->E (.ref x) { s with heap:=Z }):wpAny (model prog w) A (Builtin.SmallTypes.nextOf (.ref it)) Q E s:=by
 cases b with
 |true=>exact aj1 G a c e q|false=>exact wpAny_nextOf_list_end G a c e q
def axa{i:Nat}{Q:Y1}(he:IsEnum s.heap e it i old)(a:ItB b s.heap it t i)(c:SqB b s.heap t xs)(ex:xs[i]?=some x)(ne:e≠it)(q:∀R,IsEnumOut R e it ((i:Int)+1) x s.heap.objs.size->ItB b R it t (i+1)->R.get? s.heap.objs.size=some { cls:=.type "tuple",data:=.seq #[.int i s.toks,x] }->R.objs.size=s.heap.objs.size+1 ->
 (∀y o,y≠e->y≠it->s.heap.get? y=some o->R.get? y=some o)->Q (.ref s.heap.objs.size) { s with heap:=R,toks:=s.toks+1 }) :
 wpAny (model prog w) A (Builtin.«enumerate.__next__» ⟨[.ref e],[]⟩) (λfin s'=>∃v,fin=.done (.ret v)/\Q v s') E s:=by
 obtain⟨G,g,d,tk,os⟩:=s;show wpAny _ _ (field (.ref e) 2>>=_) _ _ _;refine aa (ig he rfl (x:=.ref it) rfl (aa (aq4 a c ex λh1 a1 s1=>?_)));have s1:Heap.SameBut it G h1:=s1;have e1:IsEnum h1 e it i old:=(s1.2 e ne).trans he;refine aa (ig e1 rfl (x:=rawInt i) rfl (aa (ig e1 rfl (x:=.none) rfl (aa (wpAny_mkInt ?_)))));show wpAny _ _ (setField (.ref e) 3 (rawInt ((i:Int)+1))>>=_) _ _ ⟨h1,g,d,tk+1,os⟩;refine aa (je e1 (by simp) λh2 e2 s2=>?_);have s2:Heap.SameBut e h1 h2:=s2;have e2:IsEnum h2 e it ((i:Int)+1) old:=e2;refine aa (je e2 (by simp) λh3 e3 s3=>?_);have s3:Heap.SameBut e h2 h3:=s3;have e3:IsEnum h3 e it ((i:Int)+1) old:=e3;refine aa (wpAny_newTuple ?_);have n3:h3.objs.size=G.objs.size:=by rw[s3.1,s2.1,s1.1]
 obtain⟨Z,d4⟩:∃Z,Z=h3.push { cls:=.type "tuple",data:=.seq #[.int i tk,x] }:=⟨_,rfl⟩;have e4:IsEnum Z e it ((i:Int)+1) old:=by rw[d4];exact au _ e3
 have t4:Z.get? G.objs.size=some { cls:=.type "tuple",data:=.seq #[.int i tk,x] }:=by rw[d4,<-n3];exact bu _ rfl
 have n4:Z.objs.size=G.objs.size+1:=by rw[d4,iu,n3]
 have k3:∀y o,y≠e->h1.get? y=some o->Z.get? y=some o:=λy o U z=>by rw[d4];exact au _ (s3.extBut y o U (s2.extBut y o U z))
 have a4:ItB b Z it t (i+1):=a1.at λo z=>k3 it o (j0 ne) z
 have lt:e<G.objs.size:=az he
 show wpAny _ _ (Builtin.SmallTypes.ownedTupleIsFree (.ref e)>>=_) _ _ ⟨h3.push _,g,d,tk+1,os⟩;rw[n3,<-d4];refine aa ?_;unfold Builtin.SmallTypes.ownedTupleIsFree;refine aa (ig e4 rfl (x:=.none) rfl (aj ?_));simp only[jw];refine aa (wpAny_rule (aa (ig e4 rfl (x:=old) rfl (aa (je e4 (by simp) λh5 e5 s5=>?_)))));have s5:Heap.SameBut e Z h5:=s5;have e5:IsEnum h5 e it ((i:Int)+1) x:=e5;refine aa ?_;unfold Builtin.SmallTypes.ownedTupleHandOut;refine aa (je e5 (by simp) λh6 e6 s6=>?_);have s6:Heap.SameBut e h5 h6:=s6;have e6:IsEnumOut h6 e it ((i:Int)+1) x G.objs.size:=e6;refine je e6 (by simp) λh7 e7 s7=>?_
 have s7:Heap.SameBut e h6 h7:=s7;have k7:∀y o,y≠e->Z.get? y=some o->h7.get? y=some o:=λy o U z=>s7.extBut y o U (s6.extBut y o U (s5.extBut y o U z))
 exact aa (wpAny_letGo (aj ⟨_,rfl,q h7 e7 (a4.at λo z=>k7 it o (j0 ne) z) (k7 _ _ (vo lt) t4) (by rw[s7.1,s6.1,s5.1,n4]) λy o y1 y2 z=>k7 y o y1 (k3 y o y1 (s1.extBut y o y2 z))⟩))
set_option tactic.hygienic true in
def axb{i:Nat}(G:IsEnum s.heap e it i old)(a:ItB b s.heap it t i)(c:SqB b s.heap t U)(ex:U[i]?=some x)(u:e≠it)(q:∀Z,IsEnumOut Z e it ((i:Int)+1) x s.heap.objs.size->ItB b Z it t (i+1)->Z.get? s.heap.objs.size=some { cls:=.type "tuple",data:=.seq #[.int i s.toks,x] }->Z.objs.size=s.heap.objs.size+1 ->
 (∀y o,y≠e->y≠it->s.heap.get? y=some o->Z.get? y=some o)->Q (some (.ref s.heap.objs.size)) { s with heap:=Z,toks:=s.toks+1 }):wpAny (model prog w) A (pyNext (.ref e)) Q E s:=by
 have Y:s.TypeIs (.ref e) "enumerate":= ⟨_,G,rfl⟩;unfold pyNext;refine aa (wpAny_attempt (ju (name:=Str.ofString "__next__") Y xg (jr xg Y F.entry_enumerate_next ?_ (F.args_enumerate_next_1 _))));exact axa G a c ex u λZ C J S L R=>aj (q Z C J S L R)
set_option tactic.hygienic true in
def axc{i:Nat}(L:A.handled=none)(G:IsEnum s.heap e it i old)(a:ItB b s.heap it t i)(c:SqB b s.heap t C)(R:C[i]?=none)(q:∀Z,Heap.ExtBut it s.heap Z->Q none { s with heap:=Z }):wpAny (model prog w) A (pyNext (.ref e)) Q E s:=by have Y:s.TypeIs (.ref e) "enumerate":= ⟨_,G,rfl⟩;unfold pyNext;refine aa (wpAny_attempt (ju (name:=Str.ofString "__next__") Y xg (jr xg Y F.entry_enumerate_next ?_ (F.args_enumerate_next_1 _))));show wpAny _ _ (field (.ref e) 2>>=_) _ _ _;refine aa (ig G rfl (x:=.ref it) rfl (aa (aw9 L a c R λZ z k z_=>?_)));obtain⟨o,J,U⟩:=z_;exact aa (o5 (T :="StopIteration") (b:=true) ⟨o,J,U⟩ isSubtype_stop (aj (q _ k)))
set_option tactic.hygienic true in
def axd(t:Addr)(xs:U1)(n:Nat)(Y:Option Addr)(S:Array (Option Value)) :
 Meets (Builtin.«enumerate.__new__» ⟨[.type "enumerate",.ref t],[]⟩) (λ_ R s=>s.heap.get? t=some { cls:=.type "tuple",dict:=Y,data:=.seq xs n,slots:=S } /\
  R (.ok (.ret (.ref (s.heap.push { cls:=.type "tuple_iterator",data:=.fields #[.ref t,.int 0 0] }).objs.size)))
   { s with heap:=(s.heap.push { cls:=.type "tuple_iterator",data:=.fields #[.ref t,.int 0 0] }).push { cls:=.type "enumerate",data:=.fields #[.none,.bool false,.ref s.heap.objs.size,rawInt 0,.none,.none] } }):=
 .of_wp λprog w A R s h=>by
  obtain⟨J,g,d,C,L⟩:=s;obtain⟨Z,h⟩:=h;have U:=sub_enumerate;have G:Heap.IsTuple (Shared.heap ⟨J,g,d,C,L⟩) t xs:=⟨_,Z,rfl,n,rfl⟩
  wp_walk using wpAny_loadPart' Z
  refine wpAny_stack_any λst=>aj ?_
  split
  .rename_i c _ _ _ _ _
   cases(c==Value.type "enumerate")<;>(wp_walk using wpAny_loadPart' Z,wpAny_pyIter_tuple G)<;>exact⟨_,rfl,h⟩
  .wp_walk using wpAny_loadPart' Z,wpAny_pyIter_tuple G
   exact⟨_,rfl,h⟩
def aq5(c:s.heap.IsTuple t xs)(q:∀Z,IsEnum Z (s.heap.objs.size+1) s.heap.objs.size 0 .none->Z.IsTupleIter s.heap.objs.size t 0->Z.objs.size=s.heap.objs.size+2 ->
 (∀y o,s.heap.get? y=some o->Z.get? y=some o)->Q (.ref (s.heap.objs.size+1)) { s with heap:=Z }):wpAny (model prog w) A (call (.type "enumerate") [.ref t]) Q E s:=by
 obtain⟨⟨c0,qq,dt,sl⟩,hl,R,n,U⟩:=c;have R:c0=.type "tuple":= R;have U:dt=.seq xs n:=U;subst R U;have G:(s.heap.push { cls:=.type "tuple_iterator",data:=.fields #[.ref t,.int 0 0] }).objs.size=s.heap.objs.size+1:=iu ..;refine callType_new F.called_enumerate (by decide) (F.typeCall_enumerate_1 _) (F.newCall_enumerate_1 _) (λobj=>F.args_object_init_2 obj _) F.entry_enumerate_new (axd t xs n qq sl) ⟨hl,?_⟩;show _/\_;rw[G];have e1:IsEnum ((s.heap.push { cls:=.type "tuple_iterator",data:=.fields #[.ref t,.int 0 0] }).push { cls:=.type "enumerate",data:=.fields #[.none,.bool false,.ref s.heap.objs.size,rawInt 0,.none,.none] }) (s.heap.objs.size+1) s.heap.objs.size 0 .none:=by rw[<-G];exact bu _ rfl
 exact⟨⟨_,e1,rfl⟩,q _ e1 ⟨_,au _ (bu _ rfl),rfl,rfl⟩ (by rw[iu,G]) λy o z=>au _ (au _ z)⟩
end EnT
namespace L2
open PySem PySem.Spec EnT
def Inv.aaw{ch:X9}(I:Inv X pins σ H s)(G:∀b∈ch,V6 X pins H b)(k:∀b o,b∉ch->s.heap.get? b=some o->h'.get? b=some o)(hn:s.heap.objs.size<=n)(new:Be X.prog X.w (upd H n (.tup vs)) h' n (.tup vs)):Inv X pins σ (upd H n (.tup vs)) { s with heap:=h',toks:=t' }:=by
 have R:H n=none:=I.Al.fresh hn;have U:∀b u,H b=some u->b∉ch:=λb u e z=>by rw[(G b z).1]at e;cases e
 have qq:∀b o,s.heap.get? b=some o->b≠n:=λb o e=>f9 (gw (az e) hn)
 refine I.step (g':=s.gens) (d':=s.drawn) (ch:=ch) (λb hb=>⟨(G b hb).2.2.2.1,(G b hb).2.1,(G b hb).2.2.2.2.1,(G b hb).2.2.2.2.2⟩) (λb o _ _ Z e _=>k b o Z e) (λb o _ _ Z e _=>⟨o.slots,k b o Z e⟩) (λb o _ e n0=>by rw[my (qq b o e)];exact n0)
  (λb o Z e=>⟨o,k b o Z e⟩) (λb xs e=>by rw[my (m5 e R)];exact e) (λb o u e=>by rw[my (m5 e R)];exact e) (λb ps e=>⟨#[],by rw[my (m5 e R),e];simp⟩) (λm hm=>?_) (λb u e=>?_) I.bare
 .obtain⟨o,es,ep,ho,r⟩:=hm
  exact⟨o,es,ep,k _ o (λz=>(G _ z).2.1 rfl) ho,r⟩
 .by_cases z:b=n
  .subst z;rw[xf]at e;cases e;exact new
  .rw[my z]at e
   refine(I.Al b u e).stay (λc v Z q=>k c v ?_ q) (λc q=>by rw[my (m5 q R)];exact q) λc xs q=>by rw[my (m5 q R)];exact q
   rcases Z with y|y
   .rw[y];exact U b u e
   .exact U c _ y
def Inv.aj2{ch:X9}(I:Inv X pins σ H s)(G:∀b∈ch,V6 X pins H b)(k:∀b o,b∉ch->s.heap.get? b=some o->h'.get? b=some o):Inv X pins σ H { s with heap:=h',toks:=t' }:=by
 have U:∀b u,H b=some u->b∉ch:=λb u e z=>by rw[(G b z).1]at e;cases e
 refine I.step (g':=s.gens) (d':=s.drawn) (ch:=ch) (λb R=>⟨(G b R).2.2.2.1,(G b R).2.1,(G b R).2.2.2.2.1,(G b R).2.2.2.2.2⟩) (λb o _ _ Z e _=>k b o Z e) (λb o _ _ Z e _=>⟨o.slots,k b o Z e⟩) (λb o _ e n0=>n0)
  (λb o Z e=>⟨o,k b o Z e⟩) (λb xs e=>e) (λb o u e=>e) (λb ps e=>⟨#[],by rw[e];simp⟩) (λm hm=>?_) (λb u e=>?_) I.bare
 .obtain⟨o,es,ep,ho,r⟩:=hm
  exact⟨o,es,ep,k _ o (λz=>(G _ z).2.1 rfl) ho,r⟩
 .refine(I.Al b u e).stay (λc v Z q=>k c v ?_ q) (λ_ q=>q) λ_ _ q=>q
  rcases Z with y|y
  .rw[y];exact U b u e
  .exact U c _ y
def SqX(b:Bool)(K:Fg)(H:Hp)(a:Addr)(Z:List V):Prop:=cond b (Hl K H a Z) (Hq K H a Z)
def Inv.a4o(I:Inv X pins σ H s)(h:SqX b X.K H a R):∃Z,Vals R Z/\SqB b s.heap a Z.toArray:=by
 cases b with
 |true=>obtain⟨Z,G,p,U⟩:=I.tuple h;exact⟨Z,G,show s.heap.IsTuple a Z.toArray from p⟩
 |false=>obtain⟨Z,G,p,U⟩:=I.list h;exact⟨Z,G,p.isList⟩
def Inv.aq6(I:Inv X pins σ H s)(h:SqX b X.K H a Z)(g:SqX b X.K H a ys):Z=ys:=by
 cases b with
 |true=>exact I.Uh h g|false=>exact I.aeg h g
def Ien(b:Bool)(K:Fg)(a:Addr):It:=
 ⟨λi H=>∃Z x,SqX b K H a Z/\Z[i]?=some x,λi H v G=>∃p x,v=.ref p/\H p=none/\G=upd H p (.tup [.int (i:Nat),x])/\∀Z,SqX b K H a Z->Z[i]?=some x,λi H=>∃Z,SqX b K H a Z/\Z.length<=i⟩
set_option tactic.hygienic true in
theorem axe(a e it:Addr)(ne:e≠it):Turn P w K (.Tuple ts k0 pt) (Ien b K a) [e,it] e (λi h=>(∃Z,IsEnum h e it ((i:Nat):Int) Z)/\ItB b h it a i)where
 mem:=by simp
 obj:=λi h st c Y=>by
  obtain⟨⟨Z,G⟩,J⟩:=st;rcases cu.mp Y with z|z
  .subst z;exact⟨_,G,λv z=>by cases z⟩
  .have z:c=it:=by simpa using z
   subst z;exact J.obj
 keep:=λi h h' st k=>by obtain⟨⟨Z,G⟩,J⟩:=st;exact⟨⟨Z,k e (by simp) _ G⟩,J.at λo z=>k it (by simp) o z⟩
 item:=by
  intro X hP hw hK Y i U s σ H E I L st hg;subst hP hw hK;obtain⟨xs,x,R,S⟩:=hg;obtain⟨ye,rv,p⟩:=I.a4o R;obtain⟨u,hu,ru⟩:=rv.get S;obtain⟨⟨Z,G⟩,J⟩:=st;have lt:e<s.heap.objs.size:=az G
  refine axb G J p (x:=u) (by simpa using hu) ne λh1 o1 a1 t1 n1 k1=>⟨_,rfl,?_⟩
  refine wpAny_letOwnedTupleGo_enum o1 λh2 o2 C=>?_
  have C:Heap.SameBut e h1 h2:=C;have t2:h2.get? s.heap.objs.size=some { cls:=.type "tuple",data:=.seq #[.int i s.toks,u] }:=(C.2 _ (vo lt)).trans t1;refine⟨.ref s.heap.objs.size,upd H s.heap.objs.size (.tup [.int (i:Nat),x]),I.aaw (t':=s.toks+1) L (λc o Y z=>?_) (bh _) ⟨by show 2<=sizeLine;decide,[.int i s.toks,u],.cons ⟨s.toks,rfl⟩ (.cons ru .nil),⟨_,t2,rfl,_,rfl,rfl⟩⟩,rfl,
   ⟨_,x,rfl,I.Al.fresh (bh _),rfl,λys hy=>by rw[I.aq6 hy R];exact S⟩,⟨⟨u,?_⟩,a1.at λo z=>C.extBut it o (j0 ne) z⟩,λc Y=>?_⟩
  .have c1:c≠e:=λz=>Y (by simp[z])
   have c2:c≠it:=λz=>Y (by simp[z])
   exact C.extBut c o c1 (k1 c o c1 c2 z)
  .have q:((i+1:Nat):Int)=(i:Int)+1:=by push_cast;rfl
   rw[q];exact o2
  .have qq:c<s.heap.objs.size:=by
    rcases cu.mp Y with z|z
    .rw[z];exact lt
    .have z:c=it:=by simpa using z
     obtain⟨o,z2,_⟩:=J.obj;rw[z];exact az z2
   rw[my (f9 qq)];exact(L c Y).1
 done:=by intro X hP hw hK Y i U s σ H E I L st hg;subst hP hw hK;obtain⟨xs,R,S⟩:=hg;obtain⟨ye,rv,p⟩:=I.a4o R;obtain⟨⟨Z,G⟩,J⟩:=st;have hl:=rv.length;refine axc (I.ok.hd Y) G J p (by simp;exact a_ (g_ hl) S) λh' eb=>⟨rfl,I.aj2 (t':=s.toks) L λc o Y z=>eb c o (λy=>Y (by simp[y])) z⟩
 self:=λ_ _ _ _ _ st h=>by obtain⟨⟨Z,G⟩,J⟩:=st;exact wpAny_pyIter_enum G h
def bbc(hg:Gl X "enumerate")(hm:X.mg "enumerate"= none)(ha:PA X [a] ta)(hs:starEach [a] X.env=[(false,eval a X.env)]) :
 PI X (.Tuple ts k0 pt) (.Call (.Name "enumerate" p) [a] [] pos) (fun σ H R=>ta σ H λvs H1=>∃b q,vs=[.ref q]/\(∃xs,SqX b X.K H1 q xs)/\R (Ien b X.K q) H1):=by
 intro U s σ H R I h;refine PyProof.Rows.Call_ (Dw I hg hm (show bootBuiltins "enumerate"= some (.type "enumerate")by decide+kernel) (jm (Bp (ha pos U s σ H _ I h) λus Z ⟨vs,H1,I1,r1,q1⟩=>?_) hs rfl));obtain⟨b,q,rfl,⟨xs,hq⟩,hR⟩:=q1;cases r1 with
 |cons r rr =>
  cases rr;cases r;obtain⟨ye,rv,p⟩:=I1.a4o hq;have fin:∀G,IsEnum G (Z.heap.objs.size+1) Z.heap.objs.size 0 .none->ItB b G Z.heap.objs.size q 0->(∀y o,Z.heap.get? y=some o->G.get? y=some o) ->
   wpAny (model X.prog X.w) X.A (pyIter (.ref (Z.heap.objs.size+1))) (PIE X U σ (.Tuple ts k0 pt) R) X.xe { Z with heap:=G }:=λG e1 e2 kk=>by
   refine wpAny_pyIter_enum e1 ?_;refine⟨Z.heap.objs.size+1,[Z.heap.objs.size+1,Z.heap.objs.size],_,_,H1,rfl,I1.kept (t':=Z.toks) kk,axe (b:=b) q _ _ (Nat.succ_ne_self _),⟨⟨.none,e1⟩,e2⟩,λc hc=>?_,hR⟩;have qq:Z.heap.objs.size<=c:=by
    rcases cu.mp hc with z|z
    .rw[z];exact vm _
    .have z:c=Z.heap.objs.size:=by simpa using z
     rw[z];exact bh _
   exact I1.als qq (I1.Al.fresh qq)
  cases b with
  |true=>exact aq5 p λG e1 e2 _ kk=>fin G e1 e2 kk
  |false=>exact call_enumerate_list p λG e1 e2 _ kk=>fin G e1 e2 kk
end L2
namespace EnT
open PySem PySem.Spec
noncomputable def tpN(Z:Zl):Obj:={ cls:=.type "tuple",data:=.seq Z.toArray }
structure ZN(h0:Heap)(n:Nat)(ls:Y3)(f0:Value)(ov:Zl)(k d:Nat)(g:Heap):Prop where
 z:IsZip g (n+ls.length+2) (n+ls.length) (n+ls.length+1) f0
 o:g.get? (n+ls.length+1)=some (tpN ov)
 a:∀(j:Nat) l,ls[j]?=some l->g.IsTupleIter (n+j) l (if j<d then k+1 else k)
 low:∀c o,(c<n\/c=n+ls.length\/n+ls.length+2<c)->h0.get? c=some o->g.get? c=some o
def afa{h Z:Heap}{i l k:Nat}(x:h.IsTupleIter i l k)(e:∀o,h.get? i=some o->Z.get? i=some o):Z.IsTupleIter i l k:=let ⟨o,a,b⟩:=x;⟨o,e o a,b⟩
def aq7{h Z:Heap}{a:Nat}{xs:U1}(x:h.IsTuple a xs)(e:∀o,h.get? a=some o->Z.get? a=some o):Z.IsTuple a xs:=let ⟨o,a,b⟩:=x;⟨o,e o a,b⟩
def afb{Z:Y3}{j:Nat}(h:Z[j]?=some l):j<Z.length:=(ak.mp h).1
def ZN.sz(H:ZN h0 n ls f0 Z k d g)(e:Heap.ExtBut (n+ls.length+2) g g')(z:IsZip g' (n+ls.length+2) (n+ls.length) (n+ls.length+1) f1):ZN h0 n ls f1 Z k d g':=
 ⟨z,e _ _ (by lia) H.o,λj l h=>afa (H.a j l h) λo=>e _ o (by have:=afb h;lia),λc o G z=>e _ _ (by lia) (H.low c o G z)⟩
def ZN.so(H:ZN h0 n ls f0 G k d g)(e:Heap.ExtBut (n+ls.length+1) g g')(z:g'.get? (n+ls.length+1)=some (tpN ow)):ZN h0 n ls f0 ow k d g':=
 ⟨e _ _ (by lia) H.z,z,λj l h=>afa (H.a j l h) λo=>e _ o (by have:=afb h;lia),λc o Z z=>e _ _ (by lia) (H.low c o Z z)⟩
def ZN.sa(H:ZN h0 n ls f0 Z k d g)(U:d<ls.length)(e:Heap.ExtBut (n+d) g g')(z:∀l,ls[d]?=some l->g'.IsTupleIter (n+d) l (k+1)):ZN h0 n ls f0 Z k (d+1) g':=
 ⟨e _ _ (by lia) H.z,e _ _ (by lia) H.o,λj l h=>by
  by_cases c:j=d
  .subst c;rw[bx (by lia)];exact z l h
  .have:=H.a j l h
   have i:(if j<d+1 then k+1 else k)=if j<d then k+1 else k:=by
    by_cases q:j<d
    .rw[bx q,bx (by lia)]
    .rw[bw q,bw (by lia)]
   rw[i];exact afa this λo=>e _ o (by lia),λc o G z=>e _ _ (by lia) (H.low c o G z)⟩
def ZN.up(H:ZN h0 n ls f0 Z k d g)(e:∀c o,g.get? c=some o->g'.get? c=some o):ZN h0 n ls f0 Z k d g':=
 ⟨e _ _ H.z,e _ _ H.o,λj l h=>afa (H.a j l h) (e _),λc o G z=>e _ _ (H.low c o G z)⟩
def ZN.nx(H:ZN h0 n ls f0 Z k ls.length g):ZN h0 n ls f0 Z (k+1) 0 g:=
 ⟨H.z,H.o,λj l h=>by have:=H.a j l h;rw[bx (afb h)]at this;exact this,H.low⟩
def axf{T:Addr}{Q:Unit->Shared->Prop}(G:R.length<=3)(U:s.heap.get? T=some (tpN R))(h:∀Z,Z.get? T=some (tpN (R.set k x))->Heap.ExtBut T s.heap Z->Z.objs.size=s.heap.objs.size->Q () { s with heap:=Z }) :
 wpAny (model prog w) A (updateSeq T (·.setIfInBounds k x)) Q E s:=by
 have sb:Heap.SameBut T s.heap (s.heap.update T (Obj.mapSeq (·.setIfInBounds k x))):=jz ..;refine wpAny_updateSeq U rfl (h _ ?_ sb.extBut sb.1) (hz:=dz (by simpa using G) (show 3<=sizeLine by decide)) (_hz':=dz (by simpa using G) (show 3<=sizeLine+1 by decide));rw[mj _ U rfl];simp[Obj.mapSeq,tpN]
noncomputable def Gh(n m:Nat):List Value:=(List.range m).map λj=>.ref (n+j)
def aj3(n m:Nat):(Gh n m).zipIdx=(List.range' 0 m).map λj=>(Value.ref (n+j),j):=by
 apply wu;intro i;rw[yr]
 by_cases h:i<m
 .simp[Gh,h]
 .simp[Gh,h]
def At(h:Heap)(Z:Y3)(k:Nat)(U:Zl):Prop:=U.length=Z.length/\∀(j:Nat) l,Z[j]?=some l->∃G x,h.IsTuple l G/\G[k]?=some x/\U[j]?=some x
def axg{n k:Nat}{Q:Y1}(Uy:ls≠[])(h3:ls.length<=3)(H:ZN s.heap n ls .none Z k 0 s.heap)(ho:Z.length=ls.length)(hI:s.heap.get? (n+ls.length)=some (tpN (Gh n ls.length)))(hl:∀l∈ls,l<n)(ha:At s.heap ls k vs)
 (hq:∀h',ZN s.heap n ls (rawInt s.heap.objs.size) vs (k+1) 0 h'->h'.get? s.heap.objs.size=some (tpN vs)->Q (.ref s.heap.objs.size) { s with heap:=h' }) :
 wpAny (model prog w) A (Builtin.«zip.__next__» ⟨[.ref (n+ls.length+2)],[]⟩) (λfin s'=>∃v,fin=.done (.ret v)/\Q v s') E s:=by
 have hz:=H.z;have ne:(Gh n ls.length).toArray.isEmpty=false:=by cases ls with|nil=>exact absurd rfl Uy|cons a l=>simp[Gh]
 show wpAny _ _ (field (.ref (n+ls.length+2)) 2>>=_) _ _ _;refine aa (ig hz rfl (x:=.bool false) rfl (aa (ig hz rfl (x:=.ref (n+ls.length)) rfl (aa (q9 hI rfl ?_)))));simp only[ne,cz,jg];unfold Builtin.SmallTypes.ownedTupleIsFree;refine aa (aa (ig hz rfl (x:=.none) rfl (aj ?_)));simp only[jw];refine aa (wpAny_rule (aa (ig hz rfl (x:=.ref (n+ls.length+1)) rfl (aa (je hz (by simp) λg1 z1 s1=>?_)))));have H1:=H.sz s1.extBut (f1:=.ellipsis) z1;refine aa (qd _ (λG b s'=>b=(none,())/\∃d Z g,G=((List.range' d (ls.length-d)).map λj=>(Value.ref (n+j),j))/\d<=ls.length/\s'={ s with heap:=g }/\ZN s.heap n ls .ellipsis Z k d g/\Z.length=ls.length/\(∀i,i<d->Z[i]?=vs[i]?)/\g.objs.size=s.heap.objs.size) _ (λx G b s' hI=>?_) (λb s' hI=>?_) _ _ ⟨rfl,0,Z,g1,?_,jq _,rfl,H1,ho,λi hi=>absurd hi (uf _),s1.1⟩)
 .obtain⟨rfl,d,Z,g,e,U,rfl,R,o2,v2,n2⟩:=hI
  have U:d<ls.length:=by
   rcases yg d ls.length with h|h
   .exact h
   .rw[Nat.sub_eq_zero_of_le h]at e;cases e
  obtain⟨c,hc⟩:∃c,ls.length-d=c+1:=⟨ls.length-d-1,by lia⟩;rw[hc,List.range'_succ,gr]at e;injection e with e1 e2
  subst e1 e2;obtain⟨l,el⟩:∃l,ls[d]?=some l:=⟨ls[d],by simp[U]⟩;obtain⟨xs,x,t1,t2,t3⟩:=ha.2 d l el;have i0:=R.a d l el;rw[bw (j9 _)]at i0;have ll:=hl l (ao el);refine aa (wpAny_onRaise (aa (ae8 (s:={ s with heap:=g }) i0 (aq7 t1 λo=>R.low _ o (by lia)) t2 λg2 i2 s2=>aj ?_)));have H3:=R.sa U s2.extBut λl' h=>by rw[el]at h;cases h;exact i2
  refine aa (q9 H3.o rfl (aa (axf (by rw[o2];exact h3) H3.o λg3 o3 s3 n3=>?_)));have H4:=H3.so s3 o3;refine aa (wpAny_letGo (aj ⟨rfl,d+1,Z.set d x,g3,by rw[show ls.length-(d+1)=c by lia],U,rfl,H4,by rw[List.length_set,o2],λi hi=>?_,by rw[n3,show g2.objs.size=g.objs.size from s2.1,n2]⟩))
  by_cases z:i=d
  .subst z
   rw[z6 (by lia),t3]
  .rw[uz (j0 z)];exact v2 i (by lia)
 .obtain⟨rfl,d,Z,g,e,U,rfl,R,o2,v2,n2⟩:=hI
  have U:d=ls.length:=by
   rcases yg d ls.length with h|h
   .obtain⟨c,hc⟩:∃c,ls.length-d=c+1:=⟨ls.length-d-1,by lia⟩
    rw[hc,List.range'_succ]at e;cases e
   .exact Nat.le_antisymm U h
  subst U;obtain rfl:Z=vs:=by
   apply wu;intro i;rcases yg i ls.length with h|h
   .exact v2 i h
   .rw[kh (by lia),kh (by rw[ha.1];exact h)]
  refine aa (q9 R.o rfl (aa (wpAny_newTuple ?_)));have H8:=R.nx.up (g':=g.push (tpN Z)) λc o e=>au _ e
  refine aa ?_;unfold Builtin.SmallTypes.ownedTupleHandOut;refine aa (je H8.z (by simp) λg9 z9 s9=>?_);have H9:=H8.sz s9.extBut (f1:=rawInt g.objs.size) z9;refine je H9.z (by simp) λqj q0 qk=>?_
  have qv:=H9.sz qk.extBut (f1:=rawInt g.objs.size) q0;have zl:n+ls.length+2<g.objs.size:=az R.z
  have qq:qj.get? g.objs.size=some (tpN Z):=qk.extBut _ _ (vo zl) (s9.extBut _ _ (vo zl) (bu _ rfl));refine aj ⟨_,rfl,?_⟩;show Q (.ref g.objs.size) _;rw[n2]at qv qq⊢;exact hq qj qv qq
 .show(Gh n ls.length).zipIdx=_
  rw[aj3];rfl
def a4p{n k:Nat}{Z:Y3}(hd:A.handled=none)(h0:Z[0]?=some l)(H:ZN s.heap n Z .none ov k 0 s.heap)(hI:s.heap.get? (n+Z.length)=some (tpN (Gh n Z.length)))(hl:l<n)(c1:s.heap.IsTuple l xs)(e1:xs[k]?=none)
 (hE:∀h' e,(∀c o,(c<n\/n+Z.length+2<c)->s.heap.get? c=some o->h'.get? c=some o)->(∃o,h'.get? e=some o/\o.cls=.type "StopIteration")->E (.ref e) { s with heap:=h' }) :
 wpAny (model prog w) A (Builtin.«zip.__next__» ⟨[.ref (n+Z.length+2)],[]⟩) Q E s:=by
 have G:=H.z;obtain⟨c,hc⟩:∃c,Z.length=c+1:=⟨Z.length-1,by have:=afb h0;lia⟩;have R:(Gh n Z.length).toArray.isEmpty=false:=by rw[hc];simp[Gh]
 show wpAny _ _ (field (.ref (n+Z.length+2)) 2>>=_) _ _ _;refine aa (ig G rfl (x:=.bool false) rfl (aa (ig G rfl (x:=.ref (n+Z.length)) rfl (aa (q9 hI rfl ?_)))));simp only[R,cz,jg];unfold Builtin.SmallTypes.ownedTupleIsFree;refine aa (aa (ig G rfl (x:=.none) rfl (aj ?_)));simp only[jw];refine aa (wpAny_rule (aa (ig G rfl (x:=.ref (n+Z.length+1)) rfl (aa (je G (by simp) λg1 z1 s1=>?_)))));have H1:=H.sz s1.extBut (f1:=.ellipsis) z1;have i1:g1.IsTupleIter n l k:=H1.a 0 l h0;have er:(Gh n Z.length).zipIdx=(Value.ref n,0)::(List.range' 1 c).map λj=>(Value.ref (n+j),j):=by rw[aj3,hc];rfl
 rw[er,List.forIn_cons];refine aa (aa (aa (wpAny_onRaise (aa (aj1 (s:={ s with heap:=g1 }) hd i1 (aq7 c1 λo=>H1.low _ o (by lia)) e1 λg2 x s2 z_=>?_)))));obtain⟨o,U,o2⟩:=z_;have z2:IsZip g2 (n+Z.length+2) (n+Z.length) (n+Z.length+1) .ellipsis:=s2 _ _ (by lia) H1.z;have R:x≠n+Z.length+2:=λy=>by subst y;rw[z2]at U;cases U;simp at o2
 exact je z2 (by simp) λg3 _ s3=>hE g3 x (λc o y1 e=>s3.extBut _ _ (by lia) (s2 _ _ (by lia) (s1.extBut _ _ (by lia) e))) ⟨o,s3.extBut _ _ R U,o2⟩
noncomputable def zI(a:Addr):Obj:={ cls:=.type "tuple_iterator",data:=.fields #[.ref a,.int 0 0] }
def pI(h:Heap)(Z:Y3):Heap:=Z.foldl (λh l=>h.push (zI l)) h
theorem acn:∀(Z:Y3)(h:Heap),(pI h Z).objs.size=h.objs.size+Z.length
 |[],h=>rfl
 |l::Z,h=>by
  have:=acn Z (h.push (zI l));rw[iu]at this;rw[gn,<-Nat.add_assoc,Nat.add_right_comm];exact this
theorem aj4:∀{ls:Y3}{h:Heap},h.get? c=some o->(pI h ls).get? c=some o
 |[],_,e=>e|x::ls,h,e=>aj4 (ls:=ls) (h:=h.push (zI x)) (au _ e)
theorem aq8:∀{ls:Y3}{h:Heap}{j:Nat},ls[j]?=some l->(pI h ls).get? (h.objs.size+j)=some (zI l)
 |x::ls,h,0,e=>by cases e;exact aj4 (ls:=ls) (h:=h.push (zI l)) (bu _ rfl)
 |x::ls,h,j+1,e=>by
  have:=aq8 (h:=h.push (zI x)) (ls:=ls) (j:=j) e;rw[iu]at this;rw[<-Nat.add_assoc,Nat.add_right_comm];exact this
def axh{Q:List Value->Shared->Prop}(ht:∀l∈ls,∃xs,s.heap.IsTuple l xs)(q:Q (Gh s.heap.objs.size ls.length) { s with heap:=pI s.heap ls }):wpAny (model prog w) A (Builtin.SmallTypes.iterAll (ls.map .ref)) Q E s:=by
 unfold Builtin.SmallTypes.iterAll;refine aa (qd _ (λG ye U=>∃d,d<=ls.length/\G=(ls.drop d).map .ref/\ye=(Gh s.heap.objs.size d).toArray/\U={ s with heap:=pI s.heap (ls.take d) }) _ (λx G b U R=>?_) (λb U R=>?_) _ _ ⟨0,jq _,rfl,rfl,rfl⟩)
 .obtain⟨d,Z,e,rfl,rfl⟩:=R
  have Z:d<ls.length:=by
   rcases yg d ls.length with h|h
   .exact h
   .rw[List.drop_of_length_le h]at e;cases e
  rw[List.drop_eq_getElem_cons Z,gr]at e;injection e with e1 e2
  subst e1 e2;obtain⟨xs,hx⟩:=ht ls[d] (o7 Z);refine aa (ji (wpAny_pyIter_tuple (aq7 hx λo e=>aj4 e) (aj ⟨d+1,Z,rfl,?_,?_⟩)))
  .rw[acn,zg,Nat.min_eq_left (zr Z)]
   simp[Gh,vd]
  .have:pI s.heap (ls.take (d+1))=(pI s.heap (ls.take d)).push (zI ls[d]):=by
    rw[List.take_succ,bz Z,pI,List.foldl_append];rfl
   rw[this];rfl
 .obtain⟨d,Z,e,rfl,rfl⟩:=R
  have Z:d=ls.length:=by
   rcases yg d ls.length with h|h
   .rw[List.drop_eq_getElem_cons h]at e;cases e
   .exact Nat.le_antisymm Z h
  subst Z;rw[List.take_length];exact aj (by simpa using q)
def zB(h:Heap)(Z:Y3):Heap:=(pI h Z).push (tpN (Gh h.objs.size Z.length))
def zC(h:Heap)(Z:Y3):Heap:=(zB h Z).push (tpN ((Gh h.objs.size Z.length).map λ_=>.none))
def zD(h:Heap)(Z:Y3):Heap:=(zC h Z).push { cls:=.type "zip",data:=.fields #[.none,.bool false,.bool false,.ref (pI h Z).objs.size,.ref (zB h Z).objs.size] }
def aq9(h3:ls.length<=3) :
 Meets (Builtin.«zip.__new__» ⟨.type "zip"::ls.map .ref,[]⟩) (λ_ R s=>(∀l∈ls,∃xs,s.heap.IsTuple l xs)/\R (.ok (.ret (.ref (zC s.heap ls).objs.size))) { s with heap:=zD s.heap ls }):=
 .of_wp λprog w A R s h=>by
  obtain⟨Z,g,d,G,U⟩:=s;obtain⟨ht,h⟩:=h;have qq:=sub_zip;have f1:∀{Q:List Value->Shared->Prop}{A E},Q (Gh Z.objs.size ls.length) ⟨pI Z ls,g,d,G,U⟩->wpAny (model prog w) A (Builtin.SmallTypes.iterAll (ls.map .ref)) Q E ⟨Z,g,d,G,U⟩:=λq=>axh ht q
  have sz:∀(xs:Zl),xs.length<=3->xs.toArray.size<=sizeLine:=λxs h=>dz (by simpa using h) (show 3<=sizeLine by decide)
  have f2:∀{Q:Y1}{A E}{h:Heap},Q (.ref h.objs.size) ⟨h.push (tpN (Gh Z.objs.size ls.length)),g,d,G,U⟩->wpAny (model prog w) A (newTuple (Gh Z.objs.size ls.length)) Q E ⟨h,g,d,G,U⟩:=λq=>wpAny_newTuple q (sz _ (by simpa[Gh]using h3))
  have f3:∀{Q:Y1}{A E}{h:Heap},Q (.ref h.objs.size) ⟨h.push (tpN ((Gh Z.objs.size ls.length).map λ_=>.none)),g,d,G,U⟩->wpAny (model prog w) A (newTuple ((Gh Z.objs.size ls.length).map λ_=>.none)) Q E ⟨h,g,d,G,U⟩:=λq=>wpAny_newTuple q (sz _ (by simpa[Gh]using h3))
  wp_walk using f1,f2,f3
  exact⟨_,rfl,h⟩
def axi{n:Nat}(h3:ls.length<=3)(G:s.heap.objs.size=n)(ct:checkTypeCall "zip" ⟨ls.map .ref,[]⟩=pure ())(cb:checkBuiltinCall "zip.__new__" ⟨.type "zip"::ls.map .ref,[]⟩=pure ())(ca:∀obj,argsOk "object.__init__" ⟨obj::ls.map .ref,[]⟩)(ht:∀l∈ls,∃xs,s.heap.IsTuple l xs)
 (h:∀Z,ZN Z n ls .none ((Gh n ls.length).map λ_=>.none) 0 0 Z->Z.get? (n+ls.length)=some (tpN (Gh n ls.length))->(∀c o,s.heap.get? c=some o->Z.get? c=some o)->Q (.ref (n+ls.length+2)) { s with heap:=Z }):wpAny (model prog w) A (call (.type "zip") (ls.map .ref)) Q E s:=by
 refine callType_new F.called_zip (by decide) ct cb ca F.entry_zip_new (aq9 h3) ⟨ht,?_⟩;have U:(pI s.heap ls).objs.size=n+ls.length:=by rw[acn,G]
 have z4:(zB s.heap ls).objs.size=n+ls.length+1:=by unfold zB;rw[iu,U]
 have z5:(zC s.heap ls).objs.size=n+ls.length+2:=by unfold zC;rw[iu,z4]
 have up:∀{h:Heap}{o':Obj}{c:Addr}{o:Obj},h.get? c=some o->(h.push o').get? c=some o:=λe=>au _ e
 have R:(zD s.heap ls).get? (zC s.heap ls).objs.size=some _:=bu _ rfl;have g5:(zD s.heap ls).get? (zB s.heap ls).objs.size=some _:=up (bu _ rfl);have g4:(zD s.heap ls).get? (pI s.heap ls).objs.size=some _:=up (up (bu _ rfl));rw[U,z4,z5]at R;rw[z4,G]at g5;rw[U,G]at g4;show _/\_;rw[z5];exact⟨⟨_,R,rfl⟩,h _ ⟨R,g5,λj l e=>⟨_,up (up (up (by rw[<-G];exact aq8 e))),rfl,rfl⟩,λ_ _ _ e=>e⟩ g4 λc o e=>up (up (up (aj4 e)))⟩
def Yt(a b c:Value):checkTypeCall "zip" ⟨[a,b,c],[]⟩=pure ():=by kernel_rfl
def Zt(a b c:Value):checkBuiltinCall "zip.__new__" ⟨[.type "zip",a,b,c],[]⟩=pure ():=by kernel_rfl
def afc(a b c d:Value):argsOk "object.__init__" ⟨[a,b,c,d],[]⟩:=by unfold argsOk;rw[signature?_of (id :="object.__init__") (n :="__tini__".toList) (o :="tcejbo".toList) (by kernel_rfl) F.owner_object];kernel_rfl
theorem amh:∀Z:List Value,Z.length=2\/Z.length=3->checkTypeCall "zip" ⟨Z,[]⟩=pure ()/\checkBuiltinCall "zip.__new__" ⟨.type "zip"::Z,[]⟩=pure ()/\∀obj,argsOk "object.__init__" ⟨obj::Z,[]⟩
 |[a,b],_=>⟨F.typeCall_zip_2 _ _,F.newCall_zip_2 _ _,λobj=>F.args_object_init_3 obj _ _⟩
 |[a,b,c],_=>⟨Yt _ _ _,Zt _ _ _,λobj=>afc obj _ _ _⟩
 |[],h=>by simp at h|[_],h=>by simp at h|_::_::_::_::_,h=>by simp at h
end EnT
namespace L2
open PySem PySem.Spec EnT
def IzN(K:Fg)(U:X9):It:=
 ⟨λi H=>∃G:List V,G.length=U.length/\∀(j:Nat) a,U[j]?=some a->∃Z x,Hl K H a Z/\Z[i]?=some x/\G[j]?=some x,
  λi H v R=>∃p G,v=.ref p/\H p=none/\R=upd H p (.tup G)/\G.length=U.length/\∀(j:Nat) a Z,U[j]?=some a->Hl K H a Z->G[j]?=Z[i]?,
  λi H=>∃a Z,U[0]?=some a/\Hl K H a Z/\Z.length<=i⟩
def TN(n:Nat)(Z:X9)(i:Nat)(h:Heap):Prop:=(∃G,ZN h n Z .none G i 0 h/\G.length=Z.length)/\h.get? (n+Z.length)=some (tpN (Gh n Z.length))
noncomputable def FN(n m:Nat):List Addr:=List.range' n (m+3)
def FN.mem{n m c:Nat}:c∈FN n m↔n<=c/\c<n+m+3:=List.mem_range'_1
theorem at_of(I:Inv X pins σ H s):∀{as:X9}{vs:List V},vs.length=as.length->(∀(j:Nat) a,as[j]?=some a->∃G x,Hl X.K H a G/\G[i]?=some x/\vs[j]?=some x)->∃Z,Vals vs Z/\At s.heap as i Z
 |[],[],_,_=>⟨[],.nil,rfl,λj l h=>by simp at h⟩
 |a::as,v::vs,l,h=>by
  obtain⟨Z,r,e,q⟩:=at_of I (as:=as) (vs:=vs) (by simpa using l) (λj a e=>h (j+1) a e);obtain⟨G,x,q1,x1,hv⟩:=h 0 a rfl;cases hv;obtain⟨i1,r1,p1,_⟩:=I.tuple q1;obtain⟨U,u1,w1⟩:=r1.get x1;refine⟨U::Z,.cons w1 r,by simp[e],λj l R=>?_⟩;cases j with
  |zero=>cases R;exact⟨i1.toArray,U,p1,by simpa using u1,rfl⟩|succ j=>exact q j l R
theorem axj{n:Nat}(h3:G.length<=3)(Uy:G≠[])(hl:∀a∈G,a<n):Turn P w K (.Tuple ts k0 pt) (IzN K G) (FN n G.length) (n+G.length+2) (TN n G)where
 mem:=FN.mem.mpr (by lia)
 obj:=λi h st e U=>by
  obtain⟨⟨ov,H,_⟩,R⟩:=st;obtain⟨c1,c2⟩:=FN.mem.mp U
  by_cases z:e<n+G.length
  .have q:e-n<G.length:=by lia
   obtain⟨o,e1,d1,f1⟩:=H.a (e-n) G[e-n] (by simp[q]);rw[show n+(e-n)=e by lia]at e1;exact⟨_,e1,λv z=>by rw[f1]at z;cases z⟩
  .rcases(show e=n+G.length\/e=n+G.length+1\/e=n+G.length+2 by lia)with rfl|rfl|rfl
   .exact⟨_,R,λv z=>by cases z⟩
   .exact⟨_,H.o,λv z=>by cases z⟩
   .exact⟨_,H.z,λv z=>by cases z⟩
 keep:=λi h h' st k=>by
  obtain⟨⟨ov,H,l⟩,R⟩:=st;have kk:∀d o,n<=d->d<n+G.length+3->h.get? d=some o->h'.get? d=some o:=λd o h1 h2=>k d (FN.mem.mpr ⟨h1,h2⟩) o
  exact⟨⟨ov,⟨kk _ _ (by lia) (by lia) H.z,kk _ _ (by lia) (by lia) H.o,λj l h=>afa (H.a j l h) λo=>kk _ o (by lia) (by have:=afb h;lia),λ_ _ _ e=>e⟩,l⟩,kk _ _ (by lia) (by lia) R⟩
 item:=by
  intro X hP hw hK U i qq s σ H E I hf st hg;subst hP hw hK;obtain⟨⟨ov,Z,lo⟩,R⟩:=st;have lt:n+G.length+2<s.heap.objs.size:=az Z.z
  obtain⟨vs,lv,hg⟩:=hg;obtain⟨us,r,ha⟩:=at_of I lv hg;have ty:s.TypeIs (.ref (n+G.length+2)) "zip":= ⟨_,Z.z,rfl⟩;unfold pyNext;refine aa (wpAny_attempt (ju (name:=Str.ofString "__next__") ty F.slot_zip_next (jr F.slot_zip_next ty F.entry_zip_next ?_ (F.args_zip_next_1 _))));refine axg Uy h3 Z lo R hl ha λh1 Z1 t1=>aj ⟨_,rfl,?_⟩
  refine wpAny_letOwnedTupleGo_zip Z1.z λh2 z2 s2=>?_
  have s2:Heap.SameBut (n+G.length+2) h1 h2:=s2;have Z2:=Z1.sz s2.extBut (f1:=.none) z2;have t2:h2.get? s.heap.objs.size=some (tpN us):=s2.extBut _ _ (vo lt) t1;refine⟨.ref s.heap.objs.size,upd H s.heap.objs.size (.tup vs),I.aaw (t':=s.toks) hf (λc o U zz=>Z2.low c o (by rw[FN.mem]at U;lia) zz) (bh _) ⟨by rw[lv];exact dz h3 (show 3<=sizeLine by decide),us,r,⟨_,t2,rfl,_,rfl,rfl⟩⟩,rfl,
   ⟨_,vs,rfl,I.Al.fresh (bh _),rfl,lv,λj a ys ja hy=>?_⟩,⟨⟨us,⟨Z2.z,Z2.o,Z2.a,λ_ _ _ e=>e⟩,ha.1⟩,Z2.low _ _ (by lia) R⟩,λc U=>?_⟩
  .obtain⟨xs,x,q1,q2,q3⟩:=hg j a ja
   rw[I.Uh hy q1,q2,q3]
  .rw[FN.mem]at U
   rw[my (by lia)];exact(hf c (FN.mem.mpr U)).1
 done:=by
  intro X hP hw hK U i qq s σ H E I hf st hg;subst hP hw hK;obtain⟨⟨ov,Z,lo⟩,R⟩:=st;obtain⟨a,xs,a0,q1,x1⟩:=hg;obtain⟨i1,r1,p1,_⟩:=I.tuple q1;have qj:=r1.length;have ty:s.TypeIs (.ref (n+G.length+2)) "zip":= ⟨_,Z.z,rfl⟩;unfold pyNext;refine aa (wpAny_attempt (ju (name:=Str.ofString "__next__") ty F.slot_zip_next (jr F.slot_zip_next ty F.entry_zip_next ?_ (F.args_zip_next_1 _))));refine a4p (I.ok.hd U) a0 Z R (hl a (ao a0)) (xs:=i1.toArray) p1 (by simp;lia) λh' e k z_=>?_
  obtain⟨o,o1,o2⟩:=z_;exact aa (o5 (T :="StopIteration") (b:=true) ⟨o,o1,o2⟩ isSubtype_stop (aj ⟨rfl,I.aj2 (t':=s.toks) hf λc o U zz=>k c o (by rw[FN.mem]at U;lia) zz⟩))
 self:=λ_ _ _ _ _ st h=>by obtain⟨⟨ov,Z,_⟩,_⟩:=st;exact wpAny_pyIter_zip Z.z h
theorem aax:∀{Z:X9}{G:Zl},Vals (Z.map V.ref) G->G=Z.map Value.ref
 |[],_,h=>by cases h;rfl|_::_,_,h=>by cases h with|cons r t=>cases r;rw[aax t];rfl
def bbd(hg:Gl X "zip")(hm:X.mg "zip"= none)(ha:PA X (a::es) ta)(hs:starEach (a::es) X.env=(false,eval a X.env)::starEach es X.env)(Jg:(backTo pos (starEach es X.env)).any (·.1)=false) :
 PI X (.Tuple ts k0 pt) (.Call (.Name "zip" p) (a::es) [] pos) (fun σ H R=>ta σ H λvs H1=>∃G:List Addr,vs=G.map V.ref/\(G.length=2\/G.length=3)/\(∀q∈G,∃xs,Hl X.K H1 q xs)/\R (IzN X.K G) H1):=by
 intro U s σ H R I h;refine PyProof.Rows.Call_ (Dw I hg hm (show bootBuiltins "zip"= some (.type "zip")by decide+kernel) (jm (Bp (ha pos U s σ H _ I h) λus s1 z=>?_) hs Jg));obtain⟨vs,H1,I1,r1,G,rfl,l,ht,hR⟩:=z;cases aax r1;obtain⟨c1,c2,c3⟩:=amh (G.map Value.ref) (by simpa using l);have h3:G.length<=3:=by lia
 have tp:∀q∈G,∃xs,s1.heap.IsTuple q xs:=λq hq=>by obtain⟨xs,hx⟩:=ht q hq;obtain⟨i1,_,p1,_⟩:=I1.tuple hx;exact⟨_,p1⟩
 refine axi h3 rfl c1 c2 c3 tp λh' Z hI kk=>wpAny_pyIter_zip Z.z ?_
 refine⟨s1.heap.objs.size+G.length+2,_,_,_,H1,rfl,I1.kept (t':=s1.toks) kk,axj h3 (λz=>by subst z;simp at l) λq hq=>by obtain⟨xs,o,e,_⟩:=tp q hq;exact az e,⟨⟨_,Z,by simp[Gh]⟩,hI⟩,λc hc=>?_,hR⟩;have qq:=(FN.mem.mp hc).1;exact I1.als qq (I1.Al.fresh qq)
end L2
namespace Sm
open PySem L2
open MW (Ex Df OEx Nt Ce mz Lv Tg Res di MO Jm Cp Op2 Blt Bm Kx Src)
def ami{i:Nat}(h:(MW.Ei ds 0)[i]?=some d):∃z,ds[i]?=some z/\d=.tup [.int (i:Nat),z]:=by
 unfold MW.Ei at h;rw[iz,yr]at h;cases e:ds[i]? with
 |none=>rw[e]at h;simp at h|some z=>rw[e]at h;simp at h;exact⟨z,rfl,h.symm⟩
def aj5{X:Cx}(r:o4 X.K ι H ds U)(R:∀Z G,LeX ι H Z G->SqX bb X.K G q U):aqo nm X.K ι H (.con (MW.Ei ds 0)) (Ien bb X.K q):=λZ G M1 le S1=>by
 refine⟨λi d hi hd=>?_,λ_=>⟨U,R Z G le,?_⟩⟩
 .obtain⟨z,e1,rfl⟩:=ami (show(MW.Ei ds 0)[i]?=some d from hd)
  obtain⟨v,g1,g2⟩:=(r.Nf le).get e1;refine⟨⟨U,v,R Z G le,g1⟩,λu H2 ⟨p,x,e2,e3,e4,e5⟩=>?_⟩;have ex:x=v:=by have:=e5 U (R Z G le);rw[g1]at this;cases this;rfl
  subst ex e2 e4;obtain⟨S2,Aj,r2⟩:=Mf (X:=X) S1 e3 (.cons (.int _) (.cons g2 .nil));exact⟨Aj,S2,r2⟩
 .show U.length<=(MW.Ei ds 0).length
  rw[<-r.length];simp[MW.Ei]
def bbe(hg:Gl X "enumerate")(hm:X.mg "enumerate"= none)(ha:PE X a (tE nm W X.K a'))(Zj:noStar a=true):PI X (.Tuple ts k0 pt) (.Call (.Name "enumerate" pr) [a] [] pos) (tI nm W X.K (.enm a')):=by
 intro Z s0 σ H R' I hh;obtain⟨ι,ρ,M,s,M',S,R,e,q⟩:=hh;rw[MW.aim]at e;obtain⟨x,M1,e1,e⟩:=fc e;refine PI.weak (bbc (ts:=ts) (k0:=k0) (pt:=pt) (p:=pr) (pos:=pos) hg hm (O6 ha Vp (lq Zj _ _)) (lq Zj _ _)) (wi':=λG H0 R0=>G=σ/\H0=H/\R0=R') (λG H0 R0 ⟨z1,z2,z3⟩=>?_) Z s0 σ H R' I ⟨rfl,rfl,rfl⟩;subst z1 z2 z3;refine Yg (es':=.cons a' .nil) (ds:=[x]) (M1:=M1) S R (by rw[MW.Kf,e1];simp) λU H1 vs le S1 R1 r=>?_
 cases r with
 |cons r1 r2 =>
  cases r2;cases r1 with
  |@tup p ds us h1 rr =>
   cases e;exact⟨true,p,rfl,⟨us,Hl.of h1⟩,q U H1 _ le S1 (aj5 rr λqq H2 Aj=>Hl.of (Aj.tup _ _ h1))⟩
  |@vl p ds us h1 n1 rr =>
   cases e;exact⟨false,p,rfl,⟨us,Hq.of h1⟩,q U H1 _ le S1 (aj5 rr λqq H2 Aj=>Hq.of (Aj.lst _ _ n1.1 h1))⟩
  |_=>cases e
def axk{nm:Nm}{W:Jm}{X:Cx}{o:Expr}{o':Ex}{pos Z:Pos}{k f:Nat}{fa C:Addr}{fd:FuncData}{ps:Yf}{m:Str}{mi ci:Nat}{cl:MW.Cl}{pl:Sem Bool}(ho:PE X o (tE nm W X.K o'))(c0:Cls X.K C)(qj:Meth X.K C m fa)(F:Gf X.prog X.w X.K X.mg X.base CX0 k fa fd ps (spF nm W X.K 1 f))(hr:Af k X.A)(hb:Binds X.K fd ps [])
 (qk:∀c' G,W.cls[c']?=some G->∀g,G.meths.lookup mi=some g->nm.cls c'=some C/\g=f) (Z4:∀i,nm.fld i≠m)
 (ht:eval (.Call (.Attribute o m Z) [] [] pos) X.env=(do
  let ov<-eval o X.env
  standAt Z.atName
  let (f,first) <-holding [ov] (getMethod ov m pl)
  callWith pos f first (backTo pos (starEach [] X.env)) (backToKw pos (keywordEach [] X.env)))) :
 PE X (.Call (.Attribute o m Z) [] [] pos) (tE nm W X.K (.meth o' mi .nil)):=
 PE.of (apz (E:=E0) ho c0 qj F hr hb .nil ajk ht) fun σ H Q ι ρ M d M' S R e q=>by
  rw[MW.Gq]at e;obtain⟨x,U,e1,e⟩:=fc e;rw[MW.Rv]at e;refine one S R e1 λqq H1 v le S1 R1 r=>?_
  obtain⟨j,hx⟩:∃j,x=.ref j:=by cases x<;>first|exact⟨_,rfl⟩|cases e
  subst hx;obtain⟨p,rfl,hp⟩:∃p,v=.ref p/\qq.l[j]?=some p:=by cases r with|ref z=>exact⟨_,rfl,z⟩
  have e:(match U[j]? with
   | some (.ins c _)=>(match(W.cls[c]?).bind λC=>C.meths.lookup mi with
    | some f=>W.call f [.ref j] U|none=>.bad)
   | _=>.bad)=Res.ok d M':=e
  cases hM:U[j]? with
  |none=>rw[hM]at e;cases e
  |some ob =>
   rw[hM]at e;cases ob with
   |ins ci fs =>
    have e:(match(W.cls[ci]?).bind λC=>C.meths.lookup mi with|some f=>W.call f [.ref j] U|none=>.bad)=Res.ok d M':=e;cases hL:(W.cls[ci]?).bind λC=>C.meths.lookup mi with
    |none=>rw[hL]at e;cases e
    |some g =>
     rw[hL]at e;have e:W.call g [.ref j] U=.ok d M':=e;obtain⟨G,h1,h2⟩:=gf.mp hL;obtain⟨h3,rfl⟩:=qk ci G h1 g h2;obtain⟨C',dx,l,g1,g2,g3⟩:=S1.obj j _ p hM hp;rw[h3]at g1;cases g1;exact⟨p,dx,l,rfl,g2,Yk Z4 g3,qq,U,[.ref j],d,M',S1,.cons r .nil,rfl,e,λqv H' v Zg S' r'=>q qv H' v (le.trans Zg) S' r'⟩
   |_=>cases e
def axl:PS X st (tS nm W X.K .raise):=λZ s σ H D I U=>by obtain⟨ι,ρ,M,fl,G,M',S,R,e,q⟩:=U;rw[MW.aol]at e;cases e
def az2(h:PE X a t):PE X (.BoolOp op [a] pos) t:=λZ s G H Q I q=>PyProof.Rows.BoolOp_one (h Z s G H Q I q)
theorem afd{K:Fg}{ι:Io}{H:Hp}:∀{U:List Dv}{vs:List V}{Z:List (List Dv)},MW.Nu U=some Z->o4 K ι H U vs->∃G:List Addr,vs=G.map V.ref/\G.length=Z.length/\∀(j:Nat) l,Z[j]?=some l->∃a R,G[j]?=some a/\H a=some (.tup R)/\o4 K ι H l R
 |[],_,_,e,r=>by cases e;cases r;exact⟨[],rfl,rfl,λj l h=>by simp at h⟩
 |d::U,_,_,e,r=>by
  cases r with
  |cons r1 r2 =>
   cases d with
   |tup l =>
    obtain⟨Z,e1,rfl⟩:=cj.mp (show(MW.Nu U).map (l::·)=_ from e);obtain⟨G,rfl,h1,h2⟩:=afd e1 r2;cases r1 with
    |@tup p _ R hp ru =>
     refine⟨p::G,rfl,by simp[h1],λj l h=>?_⟩;cases j with
     |zero=>cases h;exact⟨p,R,rfl,hp,ru⟩|succ j=>exact h2 j l h
   |_=>cases e
theorem afe{K:Fg}{ι:Io}{H:Hp}:∀{dss:List (List Dv)}{as:X9},as.length=dss.length->(∀(j:Nat) l,dss[j]?=some l->i<l.length/\∃a G,as[j]?=some a/\Hl K H a G/\o4 K ι H l G)->∃Z:List V,Z.length=as.length/\o4 K ι H (dss.map λl=>l.getD i .non) Z/\∀(j:Nat) a,as[j]?=some a->∃R x,Hl K H a R/\R[i]?=some x/\Z[j]?=some x
 |[],as,l,_=>by cases as with
  |nil=>exact⟨[],rfl,.nil,λj a h=>by simp at h⟩
  |cons _ _=>cases l
 |l::dss,as,hl,h=>by cases as with
  |nil=>cases hl
  |cons a as =>
   obtain⟨Z,g1,g2,g3⟩:=afe (i:=i) (dss:=dss) (as:=as) (by simpa using hl) (λj l e=>h (j+1) l e);obtain⟨lt,_,G,e1,q,r⟩:=h 0 l rfl;cases e1;obtain⟨v,x1,x2⟩:=r.get (bz lt);refine⟨v::Z,by simp[g1],.cons (by show Rep K ι H (l.getD i .non) v;rw[dj,bz lt];exact x2) g2,λj b U=>?_⟩;cases j with
   |zero=>cases U;exact⟨G,v,q,x1,rfl⟩|succ j=>exact g3 j b U
def axm{X:Cx}{n:Nat}{l:List Dv}{r:List (List Dv)}(hn:∀(j:Nat) k,(l::r)[j]?=some k->k.length=n)(hl:G.length=(l::r).length)(h:∀(j:Nat) k,(l::r)[j]?=some k->∃a Z,G[j]?=some a/\H a=some (.tup Z)/\o4 X.K ι H k Z) :
 aqo nm X.K ι H (.con (MW.Q4 (l::r) n)) (IzN X.K G):=λqj H1 M1 le S1=>by
 refine⟨λi d hi U=>?_,λ_=>?_⟩
 .have U:(MW.Q4 (l::r) n)[i]?=some d:=U
  have hi:i<n:=by simpa[MW.Q4]using(ak.mp U).1
  have ed:d=.tup ((l::r).map λl=>l.getD i .non):=by rw[MW.Q4,iz,uc hi]at U;cases U;rfl
  subst ed;obtain⟨vs,g1,g2,g3⟩:=afe (i:=i) (K:=X.K) (ι:=qj) (H:=H1) hl λj k e=>by obtain⟨a,Z,a1,R,a3⟩:=h j k e;exact⟨by rw[hn j k e];exact hi,a,Z,a1,Hl.of (le.tup _ _ R),a3.Nf le⟩
  refine⟨⟨vs,g1,g3⟩,λu' H2 z=>?_⟩;obtain⟨p,qq,e5,e6,e7,e8,e9⟩:=z;have:qq=vs:=by
   apply wu;intro j;rcases yg j G.length with q|q
   .obtain⟨xs,x,x1,x2,x3⟩:=g3 j G[j] (by simp[q])
    rw[e9 j G[j] xs (by simp[q]) x1,x2,x3]
   .rw[kh (by rw[e8];exact q),kh (by rw[g1];exact q)]
  subst this e5 e7;obtain⟨S2,Aj,r2⟩:=Mf (X:=X) S1 e6 g2;exact⟨Aj,S2,r2⟩
 .obtain⟨a,Z,a1,R,a3⟩:=h 0 l rfl
  refine⟨a,Z,a1,Hl.of (le.tup _ _ R),?_⟩;show Z.length<=(MW.Q4 (l::r) n).length
  have:=a3.length;have:=hn 0 l rfl;simp[MW.Q4]
  lia
def bbf(hg:Gl X "zip")(hm:X.mg "zip"= none)(ha:PA X (a::es) (Yb nm W X.K Z))(hs:starEach (a::es) X.env=(false,eval a X.env)::starEach es X.env)(Jg:(backTo pos (starEach es X.env)).any (·.1)=false)(h2:Df.len Z=2\/Df.len Z=3) :
 PI X (.Tuple ts k0 pt) (.Call (.Name "zip" pr) (a::es) [] pos) (tI nm W X.K (.zip Z)):=by
 intro G s0 σ H R' I hh;obtain⟨ι,ρ,M,s,M',S,R,e,q⟩:=hh;rw[MW.au7]at e;obtain⟨ds,N1,e1,e⟩:=fc e;have hd:=Gv e1;cases et:MW.Nu ds with
 |none=>rw[et]at e;cases e
 |some qq=>cases qq with
  |nil=>rw[et]at e;cases e
  |cons l r =>
   rw[et]at e
   by_cases hc:(r.all λx=>x.length==l.length)=true
   .have e:(if(r.all λx=>x.length==l.length)=true then Res.ok (Src.con (MW.Q4 (l::r) l.length)) N1 else .bad)=.ok s M':=e
    rw[bx hc]at e;cases e;refine PI.weak (bbd (ts:=ts) (k0:=k0) (pt:=pt) (p:=pr) (pos:=pos) hg hm ha hs Jg) (wi':=λU H0 R0=>U=σ/\H0=H/\R0=R') (λU H0 R0 z=>?_) G s0 σ H R' I ⟨rfl,rfl,rfl⟩;obtain⟨rfl,rfl,rfl⟩:=z;refine Yg S R e1 λqj H1 vs le S1 R1 rr=>?_
    obtain⟨as,rfl,g1,g2⟩:=afd et rr;have gl:=rr.length;rw[du]at gl;refine⟨as,rfl,by rw[<-gl,hd];exact h2,λa ha=>?_,q qj H1 _ le S1 (axm (λj k hk=>?_) g1 g2)⟩
    .obtain⟨j,hj⟩:=List.getElem?_of_mem ha
     have lt:=(ak.mp hj).1;rw[g1]at lt;obtain⟨a',us,x1,x2,_⟩:=g2 j _ (bz lt);rw[hj]at x1;cases x1;exact⟨us,Hl.of x2⟩
    .cases j with
     |zero=>cases hk;rfl|succ j=>simpa using jb.mp hc k (ao hk)
   .have e:(if(r.all λx=>x.length==l.length)=true then Res.ok (Src.con (MW.Q4 (l::r) l.length)) N1 else .bad)=.ok s M':=e
    rw[bw hc]at e;cases e
theorem afg:∀{Z:List Dv}{b:Bool},MW.allB Z=some b->∃bs:List Bool,Z=bs.map MW.D.bl/\b=bs.all id
 |[],b,e=>by cases e;exact⟨[],rfl,rfl⟩
 |.bl k::r,b,e=>by
  obtain⟨c,G,rfl⟩:=cj.mp (show(MW.allB r).map (k&&·)=some b from e);obtain⟨bs,rfl,rfl⟩:=afg G;exact⟨k::bs,rfl,by simp⟩
theorem aay{R:Io}{H:Hp}{K:Fg}:∀{bs:List Bool}{Z:List V}{is:Zl},o4 K R H (bs.map MW.D.bl) Z->Vals Z is->is=bs.map Value.bool
 |[],_,_,r,h=>by cases r;cases h;rfl
 |k::bs,_,_,r,h=>by
  cases r with
  |cons r1 r2 =>
   cases h with
   |cons G U =>
    cases r1;cases G;rw[aay r2 U];rfl
def bbg(hc:X.calm=true):Bx X (.builtin "all") (rB nm X.K .all):=λqj s σ H vs us Q I Tf hh=>by
 obtain⟨ι,M,ds,d,M',S,r,e,q⟩:=hh;obtain⟨x,rfl,e⟩:∃x,ds=[x]/\Res.ux (((MW.gm M x).bind MW.allB).map MW.D.bl) M=.ok d M':=by
  cases ds with
  |nil=>cases e
  |cons x l=>cases l with
   |nil=>exact⟨x,rfl,e⟩|cons _ _=>cases e
 obtain⟨e1,rfl⟩:=vz e;obtain⟨b,e2,rfl⟩:=cj.mp e1;obtain⟨xs,e3,e4⟩:=gf.mp e2;obtain⟨bs,rfl,rfl⟩:=afg e4;obtain⟨v,rfl,rv⟩:=Ez r rfl;obtain⟨u,rfl,ru⟩:=Yp Tf;obtain⟨p,ws,rfl,hp,rl⟩:=uo S rv e3;cases ru;obtain⟨is,qq,pl,_⟩:=I.list (Hq.of hp);have Z:=aay rl qq;have Jk:p<s.heap.objs.size:=by obtain⟨_,e,_⟩:=pl.isList;exact az e
 refine call_all_walk (wpAny_pyIter_list pl.isList ?_);refine⟨_,_,_,_,_,_,λi=>bs.getD i true,rfl,Walks.list (A:=X.A.in1) (I.ok.hd hc) s.heap.objs.size p (f9 Jk) is.toArray,⟨⟨_,bu _ rfl,rfl,rfl⟩,pl.isList.push _⟩,λi v s Q E hP R=>?_,λh' tk G=>?_⟩
 .have hv:is[i]?=some v:=by simpa using hP
  rw[Z,iz]at hv;obtain⟨k,G,rfl⟩:=cj.mp hv;refine jy ?_;have R:Q (bs.getD i true) s:=R;rw[dj,G]at R;exact R
 .have ha:(List.range is.toArray.size).all (λi=>bs.getD i true)=bs.all id:=by
   rw[Z];simp only[gq,du];rw[Ag,jb,jb];constructor
   .intro h k G
    obtain⟨i,hi,rfl⟩:=qm G;have:=h i (ik.mpr hi);simpa[dj,hi]using this
   .intro h i hi
    have U:=ik.mp hi;have:=h bs[i] (o7 U);simpa[dj,U]using this
  rw[ha];exact⟨.bl _,H,I.kept (t':=tk) (old_kept G),rfl,q ι H _ (Le.refl _ _) S (.bl _)⟩
end Sm
namespace Sm
open PySem L2
open MW (Ex Df OEx Nt Ce mz Lv Tg Res di MO Jm Cp Op2 Blt Bm Kx Src)
def axn(e:MW.Hw .get x ds M=.ok d M'):∃n k d0,x=.ref n/\ds=[k,d0]/\M'=M/\∃G q,M[n]?=some (.dK G)/\MW.V0 k=some q/\d=(MW.v7 G q).getD d0:=by
 obtain⟨n,G,rfl,R,Z⟩:=aw0 e
 match ds,Z with
 |[k,d0],Z =>
  obtain⟨e2,e3⟩:=vz Z;obtain⟨q,U,h2⟩:=cj.mp e2;exact⟨n,k,d0,rfl,rfl,e3,G,q,R,U,h2.symm⟩
 |[],Z=>cases Z|[_],Z=>cases Z|_::_::_::_,Z=>cases Z
set_option tactic.hygienic true in
def ty_dict{X:Cx}(S:km nm X.K Y H M)(r:Rep X.K Y H x v)(h:MW.P0 .get x M=true):tyV X.K "dict" v H:=by
 cases r with
 |@ref n p hp =>
  have h:(match M[n]? with|some (.dK _)=>true|_=>false)=true:=h;split at h
  .rename_i G
   obtain⟨l,Z,_⟩:=S.obj n _ p G hp;exact .inr (.inr (.inl ⟨rfl,.inl ⟨_,Z⟩⟩))
  .cases h
 |_=>cases h
def bbh(hu:X.A.units+1<cLine):MtR X "dict.get" (rM nm X.K .get):=λqj s σ H v vs u us Q I ru Tf hh=>by
 obtain⟨ι,M,x,ds,d,M',S,r,rs,e,_,q⟩:=hh;obtain⟨n,k,d0,rfl,rfl,rfl,ie,R,hM,hk,rfl⟩:=axn e;cases rs with
 |cons rk rt =>
  cases rt with
  |cons rd rt =>
   cases rt;cases Tf with
   |cons U Z =>
    cases Z with
    |cons qq Z =>
     cases Z;cases r with
     |ref ha =>
      cases ru;obtain⟨l,h1,h2⟩:=S.obj n _ _ hM ha;have hy:=Yh rk hk;subst hy;refine a3d hu I (O3.k h1) U qq λw' s' I' G=>⟨_,H,I',G,q ι H _ (Le.refl _ _) S ?_⟩
      cases hl:MW.v7 ie R with
      |none=>rw[(h2.look (k:=R)).2 hl];exact rd|some d=>obtain⟨z,h3,h4⟩:=(h2.look (k:=R)).1 d hl;rw[h3];exact h4
set_option tactic.hygienic true in
def a4q(hr:Af 8 X.A)(hg:Gl X n)(hm:X.mg n=none)(hv:bootBuiltins n=some (.type "list"))(hn:n≠"__name__")(Vk:(n==("__debug__": Str))=false)(qj:Gl X J)(q3:X.mg J=none)(q4:bootBuiltins J=some (.type "range"))(Z5:J≠"__name__")(qv:(J==("__debug__": Str))=false)(ha:PA X [a] (Yb nm W X.K (.cons a' .nil)))(he:starEach [.Call (.Name J p') [a] [] y] X.env=(false,eval (.Call (.Name J p') [a] [] y) X.env)::starEach [] X.env)(Jg:(backTo q1 (starEach [] X.env)).any (·.1)=false)(q0:starEach [a] X.env=(false,eval a X.env)::starEach [] X.env)(qq:(backTo y (starEach [] X.env)).any (·.1)=false) :
 PE X (.Call (.Name n p) [.Call (.Name J p') [a] [] y] [] q1) (tE nm W X.K (.agl a')):=by
 intro Y s σ H Q I hh;obtain⟨ι,ρ,M,d,M',S,R,e,q⟩:=hh;rw[MW.aoj]at e;obtain⟨x,M1,e1,e⟩:=fc e;split at e<;>try cases e
 rename_i i;split at e<;>cases e;rename_i hi;refine jd (Dw I hg hm hv ?_ hn Vk);refine jm (Q:=EP X Y σ Q) ?_ he Jg;rw[he];show wpAny _ _ (spliced ((false,eval (.Call (.Name J p') [a] [] y) X.env)::backTo q1 (starEach [] X.env))) _ _ s;refine uq ?_;refine jd (Dw I qj q3 q4 ?_ Z5 qv);refine jm (Bp (ha y Y s σ H (λvs U=>∃G,vs=[.int i]/\Le ι H G U/\km nm X.K G U M1) I ⟨ι,ρ,M,[.int i],M1,S,R,by simp[e1,Res.bind],λG U vs le S1 r=>?_⟩) λus Z ⟨vs,U,I1,r1,G,ev,Wh,S1⟩=>?_) q0 qq
 .obtain⟨v,ev,rv⟩:=Ez r rfl
  cases rv;exact⟨G,ev,le,S1⟩
 subst ev;obtain⟨u,rfl,ru⟩:=Yp r1;obtain⟨t,rfl⟩:=ru;refine call_range_1 ?_;show wpAny _ _ (spliced []) _ _ _;refine w5 ?_;have keep:∀b o,Z.heap.get? b=some o->(Z.heap.push { cls:=.type "range",data:=.fields #[.int 0 Z.toks,.int i t,.int 1 (Z.toks+1)] }).get? b=some o:=λb o e=>au _ e
 refine call_list_range (n:=i.toNat) hr.hd (bu _ rfl) (small_one (by lia) (by lia) (by lia) (by omega)) (by rw[rangeSize_one];split<;>lia) (by lia) λh' tk L c' hk hS Fl=>?_
 have qk:(Z.heap.push { cls:=.type "range",data:=.fields #[.int 0 Z.toks,.int i t,.int 1 (Z.toks+1)] }).objs.size=Z.heap.objs.size+1:=iu ..;have hS:h'.get? (Z.heap.push { cls:=.type "range",data:=.fields #[.int 0 Z.toks,.int i t,.int 1 (Z.toks+1)] }).objs.size=some { cls:=.type "list",dict:=none,data:=.seq L c',slots:=#[] }:=hS;show EP X Y σ Q (.ref (Z.heap.push { cls:=.type "range",data:=.fields #[.int 0 Z.toks,.int i t,.int 1 (Z.toks+1)] }).objs.size) _;rw[qk]at hS⊢;have hz:((List.range i.toNat).map λ(k:Nat)=>V.int (k:Int)).length<=sizeLine:=by simp[p8];omega
 have C:Z.heap.objs.size<=Z.heap.objs.size+1:=vm _
 have hf:U (Z.heap.objs.size+1)=none:=I1.Al.fresh C;have I3:Inv X Y σ (upd U (Z.heap.objs.size+1) (.lst ((List.range i.toNat).map λ(k:Nat)=>V.int (k:Int)))) { Z with heap:=h',toks:=tk }:=
  I1.laid (a:=Z.heap.objs.size+1) (t':=tk) (λb o e=>hk b o (keep b o e)) C (show Be X.prog X.w _ _ _ (.lst _)from⟨hz,L.toList,c',Yr Fl,by simpa using hS⟩)
 obtain⟨S2,Aj,r2⟩:=ajq (X:=X) S1 hf (Ys i.toNat);exact⟨.ref (Z.heap.objs.size+1),_,I3,rfl,q _ _ _ (Wh.trans Aj) S2 r2⟩
end Sm
namespace Sm
open PySem L2
open MW (Ex Df OEx Nt Ce mz Lv Tg Res di MO Jm Cp Op2 Blt Bm Kx Src)
theorem afh{ι:Io}{H:Hp}{K:Fg}:∀{Z:List Dv}{G:List V}{is:Zl}{U:Xs},o4 K ι H Z G->Vals G is->MW.Z7 Z=some U->PyProof.Rows.IntsAre is U
 |_,_,_,_,.nil,.nil,h=>by cases h;exact .nil
 |_,_,_,_,.cons r t,.cons rv tv,h=>by
  cases r<;>simp only[MW.Z7]at h<;>try cases h
  obtain⟨R,e1,e2⟩:=cj.mp h;subst e2;obtain⟨tk,rfl⟩:=rv;exact .cons _ _ (afh t tv e1)
theorem afi:∀{is:Zl}{Z:Xs},PyProof.Rows.IntsAre is Z->Vals (Z.map V.int) is
 |_,_,.nil=>.nil|_,_,.cons n t h=>.cons ⟨t,rfl⟩ (afi h)
theorem aaz{G:Io}{H:Hp}{K:Fg}:∀Z:List Int,o4 K G H (Z.map MW.D.int) (Z.map V.int)
 |[]=>.nil|n::Z=>.cons (.int n) (aaz Z)
set_option tactic.hygienic true in
def afj(e:MW.rm .Ef ds M=.ok d M'):∃x Y Z,ds=[x]/\MW.gm M x=some Y/\MW.Z7 Y=some Z/\(MW.Ao Z).length<31/\d=.vl ((MW.sortI (MW.Ao Z)).map MW.D.int)/\M'=M:=by
 match ds,e with
 |[x],e =>
  have e:Res.ux (((MW.gm M x).bind MW.Z7).bind λis=>if(MW.Ao is).length<31 then some (MW.D.vl ((MW.sortI (MW.Ao is)).map MW.D.int))else none) M=.ok d M':=e;obtain⟨U,S⟩:=vz e;obtain⟨Z,C,G⟩:=gf.mp U;obtain⟨Y,R,J⟩:=gf.mp C;split at G
  .rename_i L
   exact⟨x,Y,Z,rfl,R,J,L,(jk G).symm,S⟩
  .cases G
 |[],e=>cases e|_::_::_,e=>cases e
def a4r(hr:Af 8 X.A)(I:Inv X pins σ H s)(S:km nm X.K ι H M)(rx:Rep X.K ι H x v)(R:RelV v u)(e2:MW.gm M x=some xs)(e3:MW.Z7 xs=some ns)(hl:(MW.Ao ns).length<31)(h:∀Z tk U,(∀b o,s.heap.get? b=some o->Z.get? b=some o)->Wq.Ci X.w Z s.heap.objs.size (λk=>k∈ns) U->U<=(MW.Ao ns).length->Q (.ref s.heap.objs.size) { s with heap:=Z,toks:=tk }) :
 wpAny (model X.prog X.w) X.A (call (.type "set") [u]) Q X.xe s:=by
 obtain⟨p,ws,rfl,hp,rl⟩:=uo S rx e2;cases R;obtain⟨is,G,pl,_⟩:=I.list (Hq.of hp);exact Wq.ak7 hr.hd pl.isList (by simpa using afh rl G e3) (λk hk=>(MW.Uc k ns).mpr hk) hl h
def amk(hr:Af 8 X.A)(I1:Inv X pins σ R s1)(S1:km nm X.K q1 R M')(hS:Wq.Ci X.w h' a (λk=>k∈ns) n')(ha:s1.heap.objs.size<=a)(keep:∀b o,s1.heap.get? b=some o->h'.get? b=some o)(hn:n'<31)(q:∀Z H' v,Le q1 R Z H'->km nm X.K Z H' M'->Rep X.K Z H' (.vl ((MW.sortI (MW.Ao ns)).map MW.D.int)) v->Q v H') :
 wpAny (model X.prog X.w) X.A (call (.builtin "sorted") [.ref a]) (EP X pins σ Q) X.xe { s1 with heap:=h',toks:=tk }:=by
 refine Wq.adu (s:={ s1 with heap:=h',toks:=tk }) hr.hd hS hn λh2 G p2 out ms qq qj qk so nd mem z_=>?_
 obtain⟨c,g⟩:=z_;have qv:(MW.Ao ns).length<=n':=by
  obtain⟨xs,o,es,ep,t,X,hm,rfl,_⟩:=hS;have:=Wq.agg (MW.abi ns) λk hk=>(hm k).mp ((MW.Uc k ns).mp hk)
  rw[du]at this;exact this
 obtain rfl:=MW.aiq so nd mem;obtain⟨o9,_,_,_,g9,_⟩:=hS.get;have U:s1.heap.objs.size<=p2:=dz (dz ha (zr (az g9))) qj
 have hf:R p2=none:=I1.Al.fresh U;have q0:((MW.sortI (MW.Ao ns)).map V.int).length<=sizeLine:=by rw[du,(MW.Kg _).length_eq,p8];exact e_ (c_ qv (b_ hn (by decide)))
 have I3:Inv X pins σ (upd R p2 (.lst ((MW.sortI (MW.Ao ns)).map V.int))) { s1 with heap:=h2,toks:=G }:=
  I1.laid (a:=p2) (t':=G) (λb o e=>qq b o (keep b o e)) U (show Be X.prog X.w _ _ _ (.lst _)from⟨q0,out.toList,c,afi qk,by simpa using g⟩)
 obtain⟨S2,Aj,r2⟩:=Yd (X:=X) S1 hf (aaz _);exact⟨.ref p2,_,I3,rfl,q _ _ _ Aj S2 r2⟩
def aml(hr:Af 8 X.A)(hg:Gl X n)(hm:X.mg n=none)(hv:bootBuiltins n=some (.builtin "sorted"))(hn:n≠"__name__")(Vk:(n==("__debug__": Str))=false)(qj:Gl X U)(q0:X.mg U=none)(q3:bootBuiltins U=some (.type "set"))(Z5:U≠"__name__")(qk:(U==("__debug__": Str))=false)(ha:PA X [a] (Yb nm W X.K (.cons a' .nil)))(he:starEach [.Call (.Name U p') [a] [] q2] X.env=(false,eval (.Call (.Name U p') [a] [] q2) X.env)::starEach [] X.env)(Jg:(backTo q1 (starEach [] X.env)).any (·.1)=false)(qv:starEach [a] X.env=(false,eval a X.env)::starEach [] X.env)(qq:(backTo q2 (starEach [] X.env)).any (·.1)=false) :
 PE X (.Call (.Name n p) [.Call (.Name U p') [a] [] q2] [] q1) (tE nm W X.K (.blt .Ef (.cons a' .nil))):=by
 intro G s σ H Q I hh;obtain⟨ι,ρ,M,d,M',S,R,e,q⟩:=hh;rw[MW.abe]at e;obtain⟨ds,M1,e1,e⟩:=fc e;obtain⟨x,xs,ns,rfl,e2,e3,hl,rfl,rfl⟩:=afj e;refine jd (Dw I hg hm hv ?_ hn Vk);refine yz (Q:=EP X G σ Q) ?_ he Jg;rw[he];show wpAny _ _ (spliced ((false,eval (.Call (.Name U p') [a] [] q2) X.env)::backTo q1 (starEach [] X.env))) _ _ s;refine uq ?_;refine jd (Dw I qj q0 q3 ?_ Z5 qk);refine jm (Bp (ha q2 G s σ H (λvs H1=>∃Z v,vs=[v]/\Rep X.K Z H1 x v/\Le ι H Z H1/\km nm X.K Z H1 M') I ⟨ι,ρ,M,[x],M',S,R,e1,λZ H1 vs le S1 r=>?_⟩) λus s1 ⟨vs,H1,I1,r1,Z,v,ev,rx,Wh,S1⟩=>?_) qv qq
 .obtain⟨v,ev,rv⟩:=Ez r rfl
  exact⟨Z,v,ev,rv,le,S1⟩
 subst ev;obtain⟨u,rfl,ru⟩:=Yp r1;refine a4r hr I1 S1 rx ru e2 e3 hl λh' tk n' keep hS Py=>?_
 show wpAny _ _ (spliced []) _ _ _;refine w5 ?_;exact amk hr I1 S1 hS (bh _) keep (c_ Py hl) λq4 H' v le=>q q4 H' v (Wh.trans le)
open MW (Ex Df OEx Nt Ce mz Lv Tg Res di MO Jm Cp Op2 Blt Bm Kx)
section
variable{nm:Nm}{X:Cx}
def bgz:Dk X (compareOp .Is) (Wi nm X.K .is):=λZ s σ H v u U G Q I rv R hh=>by
 obtain⟨ι,M,x,y,b,S,rx,ry,e,q⟩:=hh;simp only[MW.Fe]at e;have p:plainIs U G=true/\(U==G)=b:=by
  cases ry<;>try(cases e;done)
  cases R;cases rx<;>first|(cases e;done)|(cases rv;cases e;exact⟨rfl,rfl⟩)
 exact wpAny_is_plain p.1 (yp I q p.2.symm)
end
open PySem L2 PyProof.Rows
def aj6{X:Cx}(S:km nm X.K ι H M)(r:Rep X.K ι H x v)(e:MW.Bk M x=some ds):av3 X.K v H (!ds.isEmpty):=by
 obtain⟨p,G,rfl,Z,R⟩:=Kz S r e;have U:(!ds.isEmpty)=!G.isEmpty:=by cases R<;>rfl
 rcases Z with Z|Z
 .exact .inl ⟨G,Hq.of Z,U⟩
 .exact .inr (.inl ⟨G,Hl.of Z,U⟩)
def a4s(ha:PE X a (tE nm W X.K a')):PE X (.UnaryOp .Not a pos) (tE nm W X.K (.ntr a')):=by
 intro Z s σ H Q I hh;obtain⟨ι,ρ,M,d,M',S,R,e,q⟩:=hh;rw[MW.ain]at e;obtain⟨x,M1,e3,e4⟩:=fc e;obtain⟨e5,rfl⟩:=vz e4;obtain⟨ds,e6,rfl⟩:=cj.mp e5;refine UnaryOp_ (Bp (ha Z s σ H (λv G=>∃k,av3 X.K v G k/\Q (.bl !k) G) I ⟨ι,ρ,M,x,M',S,R,e3,λU G v le S1 r=>⟨!ds.isEmpty,aj6 S1 r e6,by rw[Bool.not_not];exact q U G _ le S1 (.bl _)⟩⟩) λv s1 z=>?_);obtain⟨y,G,I1,r1,q1⟩:=z;exact not_of (Bp (apu Z s1 σ G y v (λk G=>Q (.bl !k) G) I1 r1 q1) λk s2 z=>by
  obtain⟨H2,I2,q2⟩:=z;exact⟨.bl !k,H2,I2,rfl,q2⟩)
def a4t(ha:PE X a (tE nm W X.K a'))(he:∀Z,isTrue a X.env Z=(do let v<-Z;standAt a.pos;holding [v] (truthy v))):PT X (.UnaryOp .Not a pos) (tQ nm W X.K (.ntr a')):=
 PT.of (api (apv ha he)) fun σ H Q ι ρ M b M' S R e q=>by rw[MW.ain]at e;obtain⟨x,M1,e3,e4⟩:=fc e;obtain⟨e5,rfl⟩:=vz e4;obtain⟨U,e6,e7⟩:=cj.mp e5;cases e7;exact⟨ι,ρ,M,x,M',S,R,e3,λG H1 v le S1 r=>⟨!U.isEmpty,aj6 S1 r e6,by show Q (!!U.isEmpty) H1;rw[Bool.not_not];exact q G H1 le S1⟩⟩
section
variable{nm:Nm}{X:Cx}
def axo(G:Gl X n)(U:X.mg n=some (.str x t))(Z:(n==("__debug__": Str))=false):PE X (.Name n pos) (tE nm W X.K (.cst (.str x))):=
 PE.of (ai8 (v:=.str x) G U ⟨t,rfl⟩ Z) fun σ H Q ι ρ M d M' S R e q=>by rw[MW.La]at e;cases e;exact q ι H _ (Le.refl _ _) S (.str x)
def plain_len(h:MW.plainS x=true):(x.cps.all (· < 128))=true/\x.length<=100000:=by unfold MW.plainS at h;rw[aq,dm]at h;exact h
def bg0(ha:PE X a (tE nm W X.K a'))(hb:PE X b (tE nm W X.K (.cst (.int 0))))(hs:Wg b):PE X (.Subscript a b pos) (tE nm W X.K (.sx a')):=
 PE.of (azr a3j ha hb hs) fun σ H Q ι ρ M d M' S R e q=>by
  rw[MW.agq]at e;obtain⟨x,M1,U,e⟩:=fc e;cases x with
  |str x =>
   have e:(if MW.plainS x=true then Res.ux ((x.cps.toList[0]?).map MW.sgn) M1 else .bad)=.ok d M':=e;obtain⟨hp,e3⟩:=Ri e;obtain⟨e4,rfl⟩:=vz e3;obtain⟨c,G,rfl⟩:=cj.mp e4;refine two S R U (by rw[MW.La]) λZ H2 v u le S2 _ rv ru=>?_
   cases rv;cases ru;refine⟨x,0,c,rfl,rfl,dz (plain_len hp).2 Gu,?_,q Z H2 _ le S2 (.str _)⟩;unfold atI;have h0:((0:Int)<(x.cps.toList.length:Int)):=Int.natCast_pos.mpr (ak.mp G).1;unfold ixN;rw[bx (Int.le_refl 0),bx h0];exact G
  |_=>cases e
def bbj:Dk X (compareOp .In) (Wi nm X.K .inS):=λZ s σ H v u v' u' Q I rv G R=>by
 obtain⟨ι,M,x,y,b,S,U,ry,e,q⟩:=R;simp only[MW.Fe]at e;split at e
 .cases U;cases ry
  obtain⟨t,rfl⟩:=rv;obtain⟨t2,rfl⟩:=G;split at e
  .cases e
   exact PySem.P.in_str ⟨.bl _,H,I,rfl,q⟩
  .cases e
 .cases e
def axp:∀n:Nat,n<10->(Str.ofString (toString ((n:Nat):Int)))=(⟨#[48+n]⟩:Str):=by decide+kernel
def axq:∀n:Nat,n<10->PySem.intText? (⟨#[48+n]⟩:Str)=some ((n:Nat):Int):=by decide+kernel
def bbk:Bx X (.type "str") (rB nm X.K .str):=Bx.of ab3 λvs H Q R M ds d M' S r e q=>by
 obtain⟨x,rfl,Z⟩:=Uq e;obtain⟨v,rfl,h⟩:=Ez r rfl;cases x with
 |int i =>
  obtain⟨U,e2⟩:=Ri Z;cases e2;cases h;obtain⟨n,rfl⟩:=Int.eq_ofNat_of_zero_le U.1;have G:n<10:=by lia
  refine⟨n,rfl,?_,?_⟩
  .show((n:Int).natAbs).log2<1920
   rw[Int.natAbs_natCast];exact Ad (Nat.log2_le_self n) (by lia)
  .have:=axp n G
   show Q (.str (Str.ofString (toString (n:Int)))) H;rw[this];exact q R H _ (Le.refl _ _) S (.str _)
 |_=>cases Z
def bbl:Bx X (.type "int") (rB nm X.K .toInt):=λG s σ H vs us Q I Tf hh=>by
 obtain⟨ι,M,ds,d,M',S,r,e,q⟩:=hh;obtain⟨x,rfl,Z⟩:=Uq e;obtain⟨v,rfl,h⟩:=Ez r rfl;obtain⟨u,rfl,U⟩:=vals1 Tf;cases x with
 |str x =>
  cases h;obtain⟨t,rfl⟩:=U;have Z:(match x.cps.toList with|[c]=>if 48<=c/\c<58 then Res.ok (MW.D.int ((c-48:Nat):Int)) M else .bad|_=>.bad)=.ok d M':=Z;split at Z
  .rename_i c hc
   obtain⟨hi,e2⟩:=Ri Z;cases e2;obtain⟨n,rfl⟩:=Nat.exists_eq_add_of_le hi.1;have hx:x=⟨#[48+n]⟩:=by obtain⟨x⟩:=x;exact mq Str.mk (Array.ext' hc)
   subst hx;have R:n<10:=by lia
   refine PySem.W.KIN.call_text (axq n R) (by show 1<=640;decide) ⟨.int n,H,I.tok _,⟨_,rfl⟩,?_⟩;rw[zc]at q;exact q ι H _ (Le.refl _ _) S (.int _)
  .cases Z
 |_=>cases Z
def axr{Z:List Dv}{G:Yf}(h:MW.agn Z=some G):Z=G.map MW.D.str:=by
 induction Z generalizing G with
 |nil=>cases h;rfl
 |cons d Z R =>
  cases d with
  |str x =>
   obtain⟨r,U,rfl⟩:=cj.mp (show(MW.agn Z).map (x::·)=some G from h);rw[R U];rfl
  |_=>cases h
def amm{K:Fg}{ι:Io}{H:Hp}{xs:Yf}{G:List V}{Z:Zl}(r:o4 K ι H (xs.map MW.D.str) G)(v:Vals G Z):∃l:List (Str×Tok),Z=strValues l/\l.map (·.1)=xs:=by
 induction xs generalizing G Z with
 |nil=>cases r;cases v;exact⟨[],rfl,rfl⟩
 |cons x xs R =>
  cases r with
  |cons h t =>
   cases h;cases v with
   |cons hv U =>
    obtain⟨tk,rfl⟩:=hv;obtain⟨l,rfl,rfl⟩:=R t U;exact⟨(x,tk)::l,rfl,rfl⟩
def ara{K:Fg}{ι:Io}{H:Hp}(l:List (Str×Tok)):o4 K ι H ((l.map (·.1)).map MW.D.str) (l.map λp=>V.str p.1)/\Vals (l.map λp=>V.str p.1) (strValues l):=by
 induction l with
 |nil=>exact⟨.nil,.nil⟩|cons p l Z=>exact⟨.cons (.str _) Z.1,.cons ⟨p.2,rfl⟩ Z.2⟩
def a4u:MtR X "str.join" (rM nm X.K .join):=λR s σ H v vs u us Q I ru Tf hh=>by
 obtain⟨ι,M,x,ds,d,M',S,r,rs,e,_,q⟩:=hh;cases x with
 |str y =>
  obtain⟨d0,rfl,Z⟩:=Uq e;cases hx:(MW.gm M d0).bind MW.agn with
  |none=>rw[hx]at Z;cases Z
  |some xs =>
   rw[hx]at Z;obtain⟨hl,e3⟩:=Ri Z;cases e3;obtain⟨dl,h1,h2⟩:=gf.mp hx;have:=axr h2;subst this;obtain⟨w,rfl,h0⟩:=Ez rs rfl;obtain⟨p,ws,rfl,hp,rl⟩:=uo S h0 h1;cases r;obtain⟨t,rfl⟩:=ru;obtain⟨u',rfl,U⟩:=vals1 Tf;cases U;obtain⟨ye,rv,pl,_⟩:=I.list (Hq.of hp);obtain⟨l,rfl,G⟩:=amm rl rv;refine SC.join pl.isList G ?_ λt' k=>⟨.str _,H,I.tok k,⟨_,rfl⟩,q ι H _ (Le.refl _ _) S (.str _)⟩
   unfold JoinOk PySem.Builtin.Str.tooLong;rw[List.foldl_toArray,Am,decide_eq_false_iff_not];have:=Gu
   lia
 |_=>cases e
def ty_str{X:Cx}(r:Rep X.K Z H x v)(h:MW.P0 .join x M=true):tyV X.K "str" v H:=by
 cases r with
 |str x=>rfl|_=>cases h
def Yu(h:MW.plainS x=true):PySem.Builtin.Str.strKind x=1:=by unfold PySem.Builtin.Str.strKind;rw[bx];have:=(plain_len h).1;rw[Array.all_eq_true]at this⊢;intro i Z;have:=jh (this i Z);exact xx (by lia)
def arb{prog:Program}{w:World}{A:Around}{E:Y1}{s:Shared}{t u:Tok}{Q:Y1}{x y:Str}(R:MW.plainS x=true)(hy:MW.plainS y=true)(h0:0<y.length)(U:(MW.Fo x y).length<=100000)
 (h:∀l k,l.map (·.1)=MW.Fo x y->Q (.ref s.heap.objs.size) { s with toks:=k,heap:=s.heap.push { cls:=.type "list",data:=.seq (strValues l).toArray } }) :
 wpAny (model prog w) A (call (.builtin "str.split") [.str x t,.str y u]) Q E s:=by
 have hk:decide (PySem.Builtin.Str.strKind x<PySem.Builtin.Str.strKind y)=false:=by rw[Yu R,Yu hy];rfl
 have G:(y.length==0)=false:=by rw[pq];lia
 have sz:=dz (plain_len R).2 Gu;cases h1:decide (x.length<y.length)
 .have c:(decide (x.length<y.length)||decide (PySem.Builtin.Str.strKind x<PySem.Builtin.Str.strKind y))=false:=by rw[h1,hk];rfl
  have n1:=of_decide_eq_false h1;cases hf:(Builtin.Str.occurrences x y 0 x.length (x.length+1)).isEmpty
  .have Z:MW.Fo x y=Builtin.Str.partsBetween x (Builtin.Str.occurrences x y 0 x.length (x.length+1)) y.length:=by
    unfold MW.Fo;rw[bw];rintro(z|z)
    .exact n1 z
    .rw[hf]at z;cases z
   rw[Z]at U h;refine call_meets F.slot_str_split (typeIs_str _ _ _) F.entry_str_split (F.args_str_split_2 _ _) (meets_str_split_sep x y t u c G hf sz (dz U Gu)) ?_;show wants Q E _ _;rw[strsFrom_eq];exact h (numbered s.toks _) _ (numbered_texts _ _)
  .have Z:MW.Fo x y=[x]:=by unfold MW.Fo;rw[bx (.inr hf)]
   rw[Z]at h;exact call_meets F.slot_str_split (typeIs_str _ _ _) F.entry_str_split (F.args_str_split_2 _ _) (meets_str_split_not_found x y t u c G hf) (h [(x,t)] s.toks rfl)
 .have c:(decide (x.length<y.length)||decide (PySem.Builtin.Str.strKind x<PySem.Builtin.Str.strKind y))=true:=by rw[h1];rfl
  have Z:MW.Fo x y=[x]:=by unfold MW.Fo;rw[bx (.inl (jh h1))]
  rw[Z]at h;exact call_meets F.slot_str_split (typeIs_str _ _ _) F.entry_str_split (F.args_str_split_2 _ _) (meets_str_split_cannot_occur x y t u c) (h [(x,t)] s.toks rfl)
def m_split:MtR X "str.split" (rM nm X.K .split):=λG s σ H v vs u us Q I ru Tf hh=>by
 obtain⟨ι,M,x,ds,d,M',S,r,rs,e,_,q⟩:=hh;cases x with
 |str x =>
  obtain⟨d0,rfl,e⟩:=Uq e;cases d0 with
  |str y =>
   obtain⟨Z,e⟩:=Ri e;cases e;obtain⟨w,rfl,h0⟩:=Ez rs rfl;cases h0;cases r;obtain⟨t,rfl⟩:=ru;obtain⟨u',rfl,t2,rfl⟩:=vals1 Tf;refine arb Z.1 Z.2.1 Z.2.2.1 Z.2.2.2 λl k U=>?_
   have hf:H s.heap.objs.size=none:=I.Al.fresh (bh _);obtain⟨R,rv⟩:=ara (K:=X.K) (ι:=ι) (H:=H) l;rw[U]at R;obtain⟨S2,Aj,r2⟩:=Yd (X:=X) S hf R;refine⟨.ref s.heap.objs.size,_,I.laid (t':=k) (λb o e=>au _ e) (bh _) (show Be X.prog X.w _ _ _ (.lst (l.map λp=>V.str p.1))from⟨?_,_,0,rv,bu _ rfl⟩),rfl,q _ _ _ Aj S2 r2⟩;have:l.length=(MW.Fo x y).length:=by rw[<-U,du]
   rw[du,this];exact dz Z.2.2.2 Gu
  |_=>cases e
 |_=>cases e
noncomputable def Itg(x:Str):It:=⟨λi _=>i<x.cps.size,λi H y Z=>Z=H/\∃c,x.cps[i]?=some c/\y=.str ⟨#[c]⟩,λi _=>x.cps.size<=i⟩
theorem arc{P:Program}{w:World}{K:Fg}{tg:Expr}(x:Str)(t:Tok)(it:Addr):Turn P w K tg (Itg x) [it] it (λi h=>h.IsStrIter it "str_ascii_iterator" x t i)where
 mem:=by simp
 obj:=λi h st b G=>by
  have e:b=it:=by simpa using G
  subst e;obtain⟨o,e,c,d⟩:=st;exact⟨o,e,λv z=>by rw[d]at z;cases z⟩
 keep:=λi h h' st k=>by obtain⟨o,e,r⟩:=st;exact⟨o,k it (by simp) o e,r⟩
 item:=by
  intro X hP hw hK hc i Z s σ H E I hf st U;subst hP hw hK;obtain⟨f0,f1,f2,f3,f4,f5⟩:=hf it (by simp);have U:i<x.cps.size:=U
  refine wpAny_pyNext_ascii_item st (Array.getElem?_eq_getElem U) λh' R sb=>?_
  have I1:Inv X Z σ H { s with heap:=h',toks:=s.toks+1 }:=I.turned (t':=s.toks+1) (λb o G e=>(sb.2 b G).trans e) f0 f1 f3 f4 f5;obtain⟨o,e,c,d⟩:=id R;exact⟨_,rfl,aja (s:={ s with heap:=h',toks:=s.toks+1 }) e c d (by decide) ⟨.str _,H,I1,⟨_,rfl⟩,⟨rfl,_,Array.getElem?_eq_getElem U,rfl⟩,R,λb G=>(hf b G).1⟩⟩
 done:=by intro X hP hw hK hc i Z s σ H E I hf st U;subst hP hw hK;obtain⟨f0,f1,f2,f3,f4,f5⟩:=hf it (by simp);exact wpAny_pyNext_ascii_end (I.ok.hd hc) st (Array.getElem?_eq_none U) λh' eb=>⟨rfl,I.turned (t':=s.toks) (λb o G e=>eb b o G e) f0 f1 f3 f4 f5⟩
 self:=λ_ _ _ _ _ st h=>wpAny_pyIter_striter_ascii st h
def a4v(hl:PE X l tl):PI X tg l (λU H R=>tl U H λx H1=>∃y,x=.str y/\MW.plainS y=true/\R (Itg y) H1):=by
 intro Z s U H R I h;refine Bp (hl Z s U H _ I h) λv G z_=>?_
 obtain⟨x,H1,I1,r1,y,rfl,hp,q⟩:=z_;obtain⟨t,rfl⟩:=r1;refine wpAny_pyIter_ascii (plain_len hp).1 ?_;refine⟨G.heap.objs.size,[G.heap.objs.size],_,_,H1,rfl,I1.kept (t':=G.toks) λb o e=>au _ e,arc y t _,⟨_,bu _ rfl,rfl,rfl⟩,λb hb=>?_,q⟩;have e:b=G.heap.objs.size:=by simpa using hb
 subst e;exact I1.als (bh _) (I1.Al.fresh (bh _))
def bbn(ha:PE X a (tE nm W X.K a')):PI X tg a (tI nm W X.K (.sgn a')):=
 PI.of (a4v ha) fun σ H R' ι ρ M s M' S R e q=>by
  rw[MW.au8]at e;obtain⟨x,M1,e1,e⟩:=fc e;cases x with
  |str x =>
   obtain⟨hp,e⟩:=Ri (show(if MW.plainS x=true then Res.ok (Src.con (MW.signs x)) M1 else .bad)=.ok s M' from e);cases e;refine one S R e1 λU H1 v le S1 R1 r=>?_
   cases r;refine⟨x,rfl,hp,q U H1 _ le S1 λqq H2 M2 Aj S2=>⟨λi d hi G=>?_,λ_=>?_⟩⟩
   .have G:(x.cps.toList.map MW.sgn)[i]?=some d:=G
    obtain⟨c,Z,rfl⟩:∃c,x.cps.toList[i]?=some c/\MW.sgn c=d:=by simpa using G
    rw[m8]at Z;refine⟨(jc.mp Z).1,λu H3 ⟨ee,c',hc',eu⟩=>?_⟩;subst ee eu;rw[Z]at hc';cases hc';exact⟨Le.refl _ _,S2,.str _⟩
   .show x.cps.size<=(MW.signs x).length
    simp[MW.signs]
  |_=>cases e
def a4w(hx:X.xe=λ_ _=>False)(ha:PE X a (tE nm W X.K U)):PS X (.Try [.Return (some a) p] (h0::hs) [] [] pos) (tS nm W X.K (.ala U)):=by
 intro Z s σ H D I hh;obtain⟨ι,G,M,fl,qq,M',S,R,e,q⟩:=hh;obtain⟨x,M2,e1,e2⟩:=fc (show(U.den W G M).bind _=_ from e);cases e2;refine wpAny_Try_except (j7 (ajs (azw (pos:=p) ha) aqn Z s σ H ⟨λ_ _=>False,D.rt,λ_ _=>False,λ_ _=>False⟩ I ⟨ι,G,M,.ret x,G,_,S,R,by rw[MW.avc,MW.aok,e1];rfl,q⟩) (λf s1 z=>?_) λ_ _ z=>?_)
 .cases f with
  |ret u=>exact z|_=>obtain⟨_,_,_,z⟩:=z;exact z.elim
 .rw[hx]at z;exact z.elim
end
end Sm
namespace Ck
open PySem L2 Sm
open MW (Ex Df OEx Nt Ce mz Lv Tg Res di MO Jm Cp Op2 Blt Bm Kx Src)
structure Tab where
 fns:List (Option (Str×Nat))
 cls:List (Option (Str×Nat))
 mts:List (Str×Nat)
 Rj:List Str
 axs:List (Str×Int)
 css:List (Str×Str)
noncomputable def O9:List Str:=["len","tuple","list","dict","max","min","isinstance","range","enumerate","set","zip","all","bool","int","sum","sorted","str"]
structure ard(T:Tab)(nm:Nm)(W:Jm)(k:Nat)(P:Program)(w:World)(K:Fg)(mg:Zs)(base:Heap):Prop where
 fn:∀f x n,T.fns[f]?=some (some (x,n))->∃fa fd ps,Gf P w K mg base CX0 k fa fd ps (spF nm W K n f)/\mg x=some (.ref fa)/\PySem.W.keepIn K (.ref fa)=true/\Binds K fd ps []
 cl:∀c x n,T.cls[c]?=some (some (x,n))->∃C fa fd ps cl,Mk K C fa/\Gf P w K mg base CX0 k fa fd ps (spF nm W K (n+1) cl.init)/\mg x=some (.ref C)/\Binds K fd ps []/\W.cls[c]?=some cl/\nm.cls c=some C
 mt:∀m x n,T.mts[m]?=some (x,n)->∃C fa fd ps f,Cls K C/\Meth K C x fa/\Gf P w K mg base CX0 k fa fd ps (spF nm W K (n+1) f)/\Binds K fd ps [] /\
  (∀c' cl',W.cls[c']?=some cl'->∀g,cl'.meths.lookup m=some g->nm.cls c'=some C/\g=f)/\∀i,nm.fld i≠x
 fl:∀f x,T.Rj[f]?=some x->x=nm.fld f/\∀c C,nm.cls c=some C->Cls K C/\Ka K C x
 cs:∀x i,(x,i)∈T.axs->∃t,mg x=some (.int i t)
 ss:∀x i,(x,i)∈T.css->∃t,mg x=some (.str i t)
 bt:∀x∈O9,mg x=none
structure Ctx where
 N:List Str
 sc:List (Str×NameKind)
 fn:Bool
 own:List Str
structure Ea(T:Tab)(nm:Nm)(W:Jm)(k:Nat)(c:Ctx)(X:Cx):Prop where
 N:X.N=c.N
 nd:c.N.Nodup
 sc:X.env.scope.names=c.sc
 kd:X.env.scope.kind=.function
 calm:X.calm=true
 room:Af (k+16) X.A
 fnl:c.fn=true->(∀n,X.fn n=true)/\X.xe=λ_ _=>False
 tab:ard T nm W k X.prog X.w X.K X.mg X.base
 ow:∀n,c.own.contains n=true->X.fn n=true
def a4x{Z U:String}(K:Fg)(h:(if(Value.type Z==Value.type U)=true then some true else if PySem.W.kitMeta U=true then(fastBuiltinMro Z).map (·.contains (.type U))else none)=some b):PySem.W.kitOne K (.type Z) (.type U)=some b:=h
noncomputable def Yv(n:Str):Bool:=!(n==("__debug__": Str))&&(!(n==("__classdict__": Str))&&!(n==("__name__": Str)))
noncomputable def amn(c:Ctx)(n:Str):Bool:=match c.sc.lookup n with|some .local=>true|some .cell=>true|some .free=>true|_=>false
noncomputable def a4y(c:Ctx)(n:Str):Bool:=match c.sc.lookup n with|some .local=>true|some .cell=>c.fn||c.own.contains n|_=>false
def Yw(c:Ctx)(n:Str):Bool:=Yv n&&(match c.sc.lookup n with|some .globalImplicit=>true|_=>false)
noncomputable def aj7(c:Ctx)(i:Nat)(n:Str):Bool:=match c.N[i]? with|some m=>m==n|none=>false
def Ai:List Expr->Bool
 |[]=>true|e::r=>noStar e&&Ai r
noncomputable def Yx:Expr->Bool
 |.Name ..=>true|.Attribute ..=>true|.Subscript ..=>true|.Constant ..=>true|.Call (.Attribute ..) ..=>true|_=>false
def t8(h:Yv n=true):(n==("__debug__": Str))=false/\(n==("__classdict__": Str))=false/\n≠"__name__":= by simp only[Yv,aq,Am]at h;exact⟨h.1,h.2.1,λz=>by have:=h.2.2;rw[z]at this;simp at this⟩
set_option tactic.hygienic true in
def a4z(h:Ea T nm W k c X)(Z:amn c n=true):Vis X.env.scope n:=by unfold Vis;rw[h.sc];unfold amn at Z;split at Z<;>rename_i e<;>first|exact .inl e|exact .inr (.inl e)|exact .inr (.inr e)|cases Z
set_option tactic.hygienic true in
def a5a(h:Ea T nm W k c X)(Z:a4y c n=true):L2.Loc X.env.scope n/\(X.fn n=true\/X.env.scope.names.lookup n=some .local):=by
 unfold L2.Loc;rw[h.sc];unfold a4y at Z;split at Z
 .rename_i e;exact⟨.inl e,.inr e⟩
 .rename_i e;rcases(Bool.or_eq_true _ _).mp Z with z|z
  .exact⟨.inr e,.inl ((h.fnl z).1 n)⟩
  .exact⟨.inr e,.inl (h.ow n z)⟩
 .cases Z
set_option tactic.hygienic true in
def Gw(h:Ea T nm W k c X)(Z:Yw c n=true):Gl X n/\Yv n=true:=by
 unfold Yw at Z;rw[aq]at Z;refine⟨?_,Z.1⟩;have Z:=Z.2;unfold Gl Env.kindOf;rw[h.sc];split at Z
 .rename_i e;exact e
 .cases Z
set_option tactic.hygienic true in
def slot_of(h:Ea T nm W k c X)(Z:aj7 c i n=true):X.N[i]?=some n:=by
 rw[h.N];unfold aj7 at Z;split at Z
 .rename_i m e;rw[e,eq_of_beq Z]
 .cases Z
theorem Yy{Z:Env}:∀{G:Ya},Ai G=true->starEach G Z=G.map λe=>(false,eval e Z)
 |[],_=>rfl
 |e::r,h=>by
  simp only[Ai,aq]at h;rw[lq h.1,Yy h.2];rfl
def vg(h:Ai Z=true):(backTo pos (starEach Z env)).any (·.1)=false:=by rw[Yy h];simp[backTo]
def Yz(h:Ai Z=true):(backTo pos (starEach Z env)).all (λx=>!x.1)=true:=by rw[Yy h];simp[backTo]
set_option tactic.hygienic true in
def Gn(h:Yx o=true):attributeBase o n env (eval o env)=eval o env:=by
 cases o<;>try first|rfl|(cases h;done)
 rename_i f Y Z p;cases f<;>first|rfl|(cases h)
def aj8(h:Yx o=true)(hs:Ai Z=true)(hl:Z.length<29)(R:(apos.endLine==pos.line)=true) :
 eval (.Call (.Attribute o m apos) Z [] pos) env=(do
  let G<-eval o env
  standAt apos.atName
  let (f,first) <-holding [G] (getMethod G m (do return (<-importBound o env).getD true))
  callWith pos f first (backTo pos (starEach Z env)) (backToKw pos (keywordEach [] env))):=by
 have hf:methodCallForm (Z.length+0) (backTo pos (starEach Z env)) (backToKw pos (keywordEach [] env))=true:=by unfold methodCallForm;rw[Yz hs];simp[keywordEach,backToKw];exact b_ hl (by decide)
 show(do
  let G<-attributeBase o m env (eval o env)
  standAt apos.atName
  methodCall o m apos pos env G (Z.length+0) (backTo pos (starEach Z env)) (backToKw pos (keywordEach [] env)))=_
 rw[Gn h];unfold methodCall;rw[hf];have U:methodCallPos true o env apos pos=pure pos:=by unfold methodCallPos;rw[R];rfl
 rw[U];simp only[calleeOf,jw,pure_bind]
noncomputable def Cr{Z:Type}(o:Option Z)(f:Z->Bool):Bool:=match o with|some x=>f x|none=>false
def jn(h:Cr o f=true):∃x,o=some x/\f x=true:=by
 cases o with
 |none=>cases h|some x=>exact⟨x,rfl,h⟩
noncomputable def Qe{α:Type}(l:List α):Option α:=match l with|[x]=>some x|_=>none
def Bo(h:Qe l=some x):l=[x]:=by
 cases l with
 |nil=>cases h
 |cons y r=>cases r with
  |nil=>cases h;rfl|cons _ _=>cases h
def Y0{Z:Type}{P:Z->Prop}{o:Option {x//P x}}{q:Z}(h:o.map Subtype.val=some q):P q:=by
 cases o with
 |none=>cases h|some x=>cases h;exact x.2
noncomputable def Qx(a:Expr):Option Str:=Option.map Subtype.val (α:={q:Str//∃p,a=.Name q p}) (match a with|.Name n p=>some ⟨n,p,rfl⟩|_=>none)
noncomputable def arf(a:Expr):Option Const:=Option.map Subtype.val (α:={q:Const//∃k p,a=.Constant q k p}) (match a with|.Constant n k p=>some ⟨n,k,p,rfl⟩|_=>none)
noncomputable def bbo(a:Expr):Option (Expr×Operator×Expr):=Option.map Subtype.val (α:={q:Expr×Operator×Expr//∃p,a=.BinOp q.1 q.2.1 q.2.2 p}) (match a with|.BinOp l o r p=>some ⟨(l,o,r),p,rfl⟩|_=>none)
noncomputable def dUn(a:Expr):Option (UnaryOp×Expr):=Option.map Subtype.val (α:={q:UnaryOp×Expr//∃p,a=.UnaryOp q.1 q.2 p}) (match a with|.UnaryOp o l p=>some ⟨(o,l),p,rfl⟩|_=>none)
noncomputable def axt(a:Expr):Option (Expr×List CmpOp×List Expr):=Option.map Subtype.val (α:={q:Expr×List CmpOp×List Expr//∃p,a=.Compare q.1 q.2.1 q.2.2 p}) (match a with|.Compare l o r p=>some ⟨(l,o,r),p,rfl⟩|_=>none)
noncomputable def az3(a:Expr):Option (BoolOp×List Expr×Pos):=Option.map Subtype.val (α:={q:BoolOp×List Expr×Pos//a=.BoolOp q.1 q.2.1 q.2.2}) (match a with|.BoolOp o l p=>some ⟨(o,l,p),rfl⟩|_=>none)
noncomputable def a5b(a:Expr):Option (Expr×Expr×Expr):=Option.map Subtype.val (α:={q:Expr×Expr×Expr//∃p,a=.IfExp q.1 q.2.1 q.2.2 p}) (match a with|.IfExp t l r p=>some ⟨(t,l,r),p,rfl⟩|_=>none)
noncomputable def amo(a:Expr):Option (List Expr):=Option.map Subtype.val (α:={q:List Expr//∃k p,a=.Tuple q k p}) (match a with|.Tuple l k p=>some ⟨l,k,p,rfl⟩|_=>none)
noncomputable def a5c(a:Expr):Option (List Expr):=Option.map Subtype.val (α:={q:List Expr//∃p,a=.List q p}) (match a with|.List l p=>some ⟨l,p,rfl⟩|_=>none)
noncomputable def a5d(a:Expr):Option (List (Option Expr)×List Expr):=Option.map Subtype.val (α:={q:List (Option Expr)×List Expr//∃p,a=.Dict q.1 q.2 p}) (match a with|.Dict k v p=>some ⟨(k,v),p,rfl⟩|_=>none)
noncomputable def amq(a:Expr):Option (Expr×Expr):=Option.map Subtype.val (α:={q:Expr×Expr//∃p,a=.Subscript q.1 q.2 p}) (match a with|.Subscript l r p=>some ⟨(l,r),p,rfl⟩|_=>none)
noncomputable def dSl(a:Expr):Option (Option Expr×Option Expr×Option Expr):=Option.map Subtype.val (α:={q:Option Expr×Option Expr×Option Expr//∃p,a=.Slice q.1 q.2.1 q.2.2 p}) (match a with|.Slice l r s p=>some ⟨(l,r,s),p,rfl⟩|_=>none)
noncomputable def arh(a:Expr):Option (Expr×List Expr×List Keyword×Pos):=Option.map Subtype.val (α:={q:Expr×List Expr×List Keyword×Pos//a=.Call q.1 q.2.1 q.2.2.1 q.2.2.2}) (match a with|.Call f l k p=>some ⟨(f,l,k,p),rfl⟩|_=>none)
noncomputable def ari(a:Expr):Option (Expr×Str×Pos):=Option.map Subtype.val (α:={q:Expr×Str×Pos//a=.Attribute q.1 q.2.1 q.2.2}) (match a with|.Attribute l n p=>some ⟨(l,n,p),rfl⟩|_=>none)
noncomputable def afk(a:Expr):Option (Expr×List Comprehension×Scope):=Option.map Subtype.val (α:={q:Expr×List Comprehension×Scope//∃p,a=.ListComp q.1 q.2.1 q.2.2 p}) (match a with|.ListComp e g s p=>some ⟨(e,g,s),p,rfl⟩|_=>none)
def Gx(h:Qx a=some n):∃p,a=.Name n p:=(Y0 h :)
def Wl(h:arf a=some n):∃k p,a=.Constant n k p:=(Y0 h :)
def axu(h:bbo a=some (l,o,r)):∃p,a=.BinOp l o r p:=(Y0 h :)
def aho(h:dUn a=some (o,l)):∃p,a=.UnaryOp o l p:=(Y0 h :)
def aco(h:axt a=some (l,o,r)):∃p,a=.Compare l o r p:=(Y0 h :)
def arj(h:az3 a=some (o,r,p)):a=.BoolOp o r p:=(Y0 h :)
def axv(h:a5b a=some (t,l,r)):∃p,a=.IfExp t l r p:=(Y0 h :)
def Tj(h:amo a=some l):∃k p,a=.Tuple l k p:=(Y0 h :)
def aj9(h:a5c a=some l):∃p,a=.List l p:=(Y0 h :)
def aka(h:a5d a=some (k,l)):∃p,a=.Dict k l p:=(Y0 h :)
def Wm(h:amq a=some (l,r)):∃p,a=.Subscript l r p:=(Y0 h :)
def a5e(h:dSl a=some (l,r,s)):∃p,a=.Slice l r s p:=(Y0 h :)
def afl(h:arh a=some (f,l,k,p)):a=.Call f l k p:=(Y0 h :)
def acp(h:ari a=some (l,n,p)):a=.Attribute l n p:=(Y0 h :)
def Y4(h:afk a=some (e,g,s)):∃p,a=.ListComp e g s p:=(Y0 h :)
def dCN(a:Expr):Option (Str×List Expr):=(arh a).bind λq=>if q.2.2.1.isEmpty then(Qx q.1).map λn=>(n,q.2.1)else none
set_option tactic.hygienic true in
def Jd(h:dCN a=some (n,l)):∃p p',a=.Call (.Name n p) l [] p':=by
 obtain⟨⟨f,C,k,p⟩,G,Y⟩:=gf.mp h;split at Y
 .rename_i Z
  obtain⟨L,J,U⟩:=cj.mp Y;obtain⟨p',e⟩:=Gx J;have e:f=_:=e;have Z:k=[]:=qi.mp Z;cases U;exact⟨p',p,by rw[afl G,e,Z]⟩
 .cases Y
def dCA(a:Expr):Option (Expr×Str×Pos×List Expr×Pos):=(arh a).bind λq=>if q.2.2.1.isEmpty then(ari q.1).map λn=>(n.1,n.2.1,n.2.2,q.2.1,q.2.2.2)else none
set_option tactic.hygienic true in
def ark(h:dCA a=some (o,n,J,l,p)):a=.Call (.Attribute o n J) l [] p:=by
 obtain⟨⟨f,u,k,R⟩,G,Y⟩:=gf.mp h;split at Y
 .rename_i Z
  obtain⟨⟨S,y,L⟩,U,C⟩:=cj.mp Y;have e:f=_:=acp U;have Z:k=[]:=qi.mp Z;cases C;rw[afl G,e,Z]
 .cases Y
noncomputable def bbp(l:Ya):List Str:=l.filterMap Qx
noncomputable def Fb(e:Expr):List Str:=match amo e with|some l=>bbp l|none=>bbp [e]
noncomputable def hid(i:Nat):Str:=⟨#[0,i]⟩
def ams(Z:Yf)(p:Str×Nat):Str:=if Z.contains p.1=true then hid p.2 else p.1
noncomputable def V9(N Z:Yf):List Str:=N.zipIdx.map (ams Z)++Z
noncomputable def axw(c:Ctx)(Z:X0):List (Str×NameKind):=Z.map λy=>if(y.2==NameKind.free&&c.sc.lookup y.1==some .cell)then(y.1,NameKind.cell)else(y.1,y.2)
def afm(c:Ctx)(Z:Scope)(G:Yf):Ctx:=⟨V9 c.N G,axw c Z.names,false,(Z.names.filter λy=>y.2==NameKind.cell).map (·.1)⟩
def a5f(c:Ctx)(Z:Scope)(G:Yf):Bool:=
 decide (Z.kind=.function)&&(Z.names.all (λy=>Z.names.lookup y.1==some y.2) &&
 (Z.names.all (λy=>!(y.2==NameKind.free)||(c.sc.lookup y.1==some .cell||c.sc.lookup y.1==some .free))&&(decide ((V9 c.N G).Nodup) &&
 c.N.zipIdx.all (λp=>!(amn (afm c Z G) (ams G p))||(ams G p==p.1&&Z.names.lookup (ams G p)==some .free)))))
noncomputable def bbq:Op2->Operator
 |.add=>.Add|.sub=>.Sub|.mul=>.Mult|.fdiv=>.FloorDiv|.mod=>.Mod|.pow=>.Pow
def axx:Cp->Option CmpOp
 |.eq=>some .Eq|.ne=>some .NotEq|.lt=>some .Lt|.le=>some .LtE|.gt=>some .Gt|.ge=>some .GtE|.inn=>some .In|.Rp=>some .NotIn|.is=>some .Is|.inS=>some .In
noncomputable def a5g:Blt->Option Str
 |.len=>some "len"|.tuple=>some "tuple"|.dict=>some "dict"|.max=>some "max"|.min=>some "min"
 |.all=>some "all"|.str=>some "str"|.toInt=>some "int"
 |_=>none
noncomputable def bmN:Bm->Option Str
 |.append=>some "append"|.index=>some "index"|.get=>some "get"|.join=>some "join"|.split=>some "split"
def arl(T:Tab)(c:Ctx)(d:MW.D)(a:Expr):Bool:=
 match d with
 |.int i=>Cr (arf a) (λk=>decide (k=.int i))||Cr (Qx a) λn=>Yw c n&&T.axs.contains (n,i)
 |.bl i=>Cr (arf a) λk=>decide (k=.bool i)
 |.str i=>Cr (arf a) (λk=>decide (k=.str i))||Cr (Qx a) λn=>Yw c n&&T.css.contains (n,i)
 |.non=>Cr (arf a) λk=>decide (k=.none)
 |_=>false
def tg1(c:Ctx)(Z i:Nat)(e:Expr):Bool:=Cr (Qx e) λn=>aj7 c i n&&(a4y c n&&decide (Z<=i))
def amt(c:Ctx)(Z:Nat):List Nat->List Expr->Bool
 |[],[]=>true|i::is,e::ts=>tg1 c Z i e&&amt c Z is ts|_,_=>false
def tgB(c:Ctx)(Z:Nat)(t:Tg)(e:Expr):Bool:=
 match t with
 |.name i=>tg1 c Z i e|.names is=>Cr (amo e) λG=>amt c Z is G
def Tn(e:Expr):Bool:=(a5b e).isNone
noncomputable def fnB(l:List (Option (Str×Nat)))(f:Nat)(n:Str)(k:Nat):Bool:=decide (l[f]?=some (some (n,k)))
noncomputable def mtB(l:List (Str×Nat))(f:Nat)(n:Str)(k:Nat):Bool:=decide (l[f]?=some (n,k))
noncomputable def flB(l:Yf)(f:Nat)(n:Str):Bool:=decide (l[f]?=some n)
def akb(c:Ctx)(k:Nat)(t:Tg)(g:Comprehension)(Z:Scope):Bool:=
 a5f c Z (Fb g.target)&&((k==(Fb g.target).length)&&(tgB (afm c Z (Fb g.target)) c.N.length t g.target&&(Hj g.iter&&decide (g.is_async=0))))
def arn(o:BoolOp)(a:Expr)(x y:Expr->Bool):Bool:=
 Cr (az3 a) λq=>decide (q.1=o)&&(match q.2.1 with
  |l::r::rest=>(Tn l&&x l)&&(match rest with|[]=>Tn r&&y r|_::_=>y (.BoolOp o (r::rest) q.2.2))
  | _=>false)
def axy(c:Ctx)(G:Str)(a:Expr)(f:Expr->Bool):Bool:=Cr (dCN a) λq=>match q.2 with
 |[l,t]=>Cr (Qx t) λZ=>(decide (q.1 ="isinstance")&&decide (Z=G))&&((Yw c q.1&&Yw c Z)&&(noStar l&&f l))
 |_=>false
def axz(h:axy c ty a f=true):∃l p p1 G,a=.Call (.Name "isinstance" p) [l,.Name ty p1] [] G/\Yw c "isinstance"= true/\Yw c ty=true/\noStar l=true/\f l=true:=by
 obtain⟨⟨n,ls⟩,Z,h0⟩:=jn h;clear h;obtain⟨p,p',rfl⟩:=Jd Z
 match ls,Z,h0 with
 |[l,t],Z,h =>
  replace h:=jn (f:=λU=>(decide (n ="isinstance")&&decide (U=ty))&&((Yw c n&&Yw c U)&&(noStar l&&f l))) h;obtain⟨U,h2,h⟩:=h;obtain⟨G,rfl⟩:=Gx h2;simp only[aq,dm]at h;obtain⟨⟨rfl,rfl⟩,⟨h3,h4⟩,R,h6⟩:=h;exact⟨l,p,G,p',rfl,h3,h4,R,h6⟩
 |[],_,h=>cases h|[_],_,h=>cases h|_::_::_::_,_,h=>cases h
def aro(c:Ctx)(Z G:Str)(a:Expr)(f:Expr->Bool):Bool:=Cr (dCN a) λq=>Cr (Qe q.2) λr=>Cr (dCN r) λu=>Cr (Qe u.2) λl=>((decide (q.1=Z)&&decide (u.1=G))&&(Yw c q.1&&Yw c u.1))&&(noStar l&&f l)
def acq(h:aro c ty G a f=true):∃l p p1 Z p3,a=.Call (.Name ty p) [.Call (.Name G p1) [l] [] Z] [] p3/\Yw c ty=true/\Yw c G=true/\noStar l=true/\f l=true:=by replace h:=jn h;obtain⟨⟨n,ls⟩,U,h⟩:=h;obtain⟨p,p',rfl⟩:=Jd U;replace h:=jn h;obtain⟨r,h2,h⟩:=h;cases Bo h2;replace h:=jn h;obtain⟨⟨m,ms⟩,h3,h⟩:=h;obtain⟨Z,q2,rfl⟩:=Jd h3;replace h:=jn h;obtain⟨l,h4,h⟩:=h;cases Bo h4;simp only[aq,dm]at h;obtain⟨⟨⟨rfl,rfl⟩,R,h6⟩,h7,h8⟩:=h;exact⟨l,p,Z,q2,p',rfl,R,h6,h7,h8⟩
mutual
def zx(T:Tab):Ex->Ctx->Expr->Bool
 |.var i,c,a=>Cr (Qx a) λn=>aj7 c i n&&(amn c n&&Yv n)
 |.ntr x,c,a=>Cr (dUn a) λq=>decide (q.1=.Not)&&((Qx q.2).isSome&&zx T x c q.2)
 |.sx x,c,a=>Cr (amq a) λq=>Wj q.2&&(zx T x c q.1&&arl T c (.int 0) q.2)
 |.cst d,c,a=>arl T c d a|.bin op x y,c,a=>Cr (bbo a) λq=>decide (q.2.1=bbq op)&&(zx T x c q.1&&zx T y c q.2.2)
 |.neg x,c,a=>Cr (dUn a) λq=>decide (q.1=.USub)&&zx T x c q.2
 |.cmp op x y,c,a=>Cr (axt a) λq=>Cr (Qe q.2.1) λo=>Cr (Qe q.2.2) λr=>decide (axx op=some o)&&(Hj r&&(zx T x c q.1&&zx T y c r))
 |.chain o1 o2 x y z,c,a=>Cr (axt a) λq=>match q.2.1,q.2.2 with
  |[p1,p2],[r,s]=>(decide (axx o1=some p1)&&decide (axx o2=some p2))&&(Hj s&&(zx T x c q.1&&(zx T y c r&&zx T z c s)))|_,_=>false
 |.and x y,c,a=>arn .And a (zx T x c) (zx T y c)|.or x y,c,a=>arn .Or a (zx T x c) (zx T y c)|.not x,c,a=>Cr (dUn a) λq=>decide (q.1=.Not)&&(Tn q.2&&zx T x c q.2)
 |.ite t x y,c,a=>Cr (a5b a) λq=>Tn q.1&&(zx T t c q.1&&(zx T x c q.2.1&&zx T y c q.2.2))
 |.tup es,c,a=>Cr (amo a) λl=>decide (Df.len es<=1000)&&Je T es c l
 |.lst es,c,a=>Cr (a5c a) λl=>decide (Df.len es<=1000)&&Je T es c l
 |.K8 es,c,a=>Cr (a5c a) λl=>decide (Df.len es<=1000)&&Je T es c l
 |.ak8,_,a=>Cr (a5d a) λq=>q.1.isEmpty&&q.2.isEmpty
 |.abb,_,a=>Cr (a5d a) λq=>q.1.isEmpty&&q.2.isEmpty
 |.ix x y,c,a=>Cr (amq a) λq=>Wj q.2&&(zx T x c q.1&&zx T y c q.2)
 |.cut x lo hi,c,a=>Cr (amq a) λq=>Cr (dSl q.2) λs=>s.2.2.isNone&&(zx T x c q.1&&(a5h T lo c s.1&&a5h T hi c s.2.1))
 |.call f es,c,a=>Cr (dCN a) λq=>(fnB T.fns f q.1 (Df.len es)&&(Yw c q.1&&!q.2.isEmpty))&&Je T es c q.2
 |.make f es,c,a=>Cr (dCN a) λq=>(fnB T.cls f q.1 (Df.len es)&&(Yw c q.1&&!q.2.isEmpty))&&Je T es c q.2
 |.meth o m es,c,a=>Cr (dCA a) λq=>((mtB T.mts m q.2.1 (Df.len es)&&Yx q.1)&&(decide (q.2.2.2.1.length<29)&&(q.2.2.1.endLine==q.2.2.2.2.line)))&&(zx T o c q.1&&Je T es c q.2.2.2.1)
 |.fld o f,c,a=>Cr (ari a) λq=>(flB T.Rj f q.2.1&&Yx q.1)&&zx T o c q.1
 |.blt .Ef (.cons x .nil),c,a=>aro c "sorted" "set" a (zx T x c)|.blt .isTuple (.cons x .nil),c,a=>axy c "tuple" a (zx T x c)|.blt .isStr (.cons x .nil),c,a=>axy c "str" a (zx T x c)|.blt b es,c,a=>Cr (dCN a) λq=>(decide (a5g b=some q.1)&&(Yw c q.1&&!q.2.isEmpty))&&Je T es c q.2
 |.bm m o es,c,a=>Cr (dCA a) λq=>((decide (bmN m=some q.2.1)&&Yx q.1)&&(decide (q.2.2.2.1.length<29)&&((q.2.2.1.endLine==q.2.2.2.2.line)&&!q.2.2.2.1.isEmpty)))&&(zx T o c q.1&&Je T es c q.2.2.2.1)
 |.comp v k t it e,c,a=>Cr (afk a) λq=>Cr (Qe q.2.1) λg=>(akb c k t g q.2.2&&g.ifs.isEmpty)&&(ax0 T it c g.target g.iter&&zx T e (afm c q.2.2 (Fb g.target)) q.1)
 |.Du v k t it i e,c,a=>Cr (afk a) λq=>Cr (Qe q.2.1) λg=>Cr (Qe g.ifs) λd=>(akb c k t g q.2.2&&Tn d)&&(ax0 T it c g.target g.iter&&(zx T i (afm c q.2.2 (Fb g.target)) d&&zx T e (afm c q.2.2 (Fb g.target)) q.1))
 |.W2 x y,c,a=>Cr (axt a) λq=>Cr (Qe q.2.1) λo=>Cr (Qe q.2.2) λr=>Cr (dCN q.1) λu=>Cr (dCN r) λv=>Cr (Qe u.2) λl=>Cr (Qe v.2) λm =>
  ((decide (o=.NotEq)&&decide (u.1 ="set"))&&(decide (v.1 ="set")&&Yw c u.1))&&((noStar l&&noStar m)&&(zx T x c l&&zx T y c m))
 |.agk x,c,a=>aro c "tuple" "range" a (zx T x c)|.agl x,c,a=>aro c "list" "range" a (zx T x c)
def Je(T:Tab):Df->Ctx->List Expr->Bool
 |.nil,_,a=>a.isEmpty|.cons e es,c,a=>match a with|l::ls=>noStar l&&(zx T e c l&&Je T es c ls)|_=>false
def a5h(T:Tab):OEx->Ctx->Option Expr->Bool
 |.none,_,a=>a.isNone|.some e,c,a=>Cr a (zx T e c)
def ax0(T:Tab):Nt->Ctx->Expr->Expr->Bool
 |.val e,c,_,a=>zx T e c a|.sgn e,c,_,a=>zx T e c a|.Mp e,c,_,a=>Cr (dCN a) λq=>Cr (Qe q.2) λl=>(decide (q.1 ="range")&&Yw c q.1)&&(noStar l&&zx T e c l)
 |.enm e,c,tg,a=>Cr (dCN a) λq=>Cr (Qe q.2) λl=>((amo tg).isSome&&(decide (q.1 ="enumerate")&&Yw c q.1))&&(noStar l&&zx T e c l)
 |.zip es,c,tg,a=>Cr (dCN a) λq=>((amo tg).isSome&&(decide (q.1 ="zip")&&(Yw c q.1&&!q.2.isEmpty)))&&(decide (Df.len es=2\/Df.len es=3)&&Je T es c q.2)
end
def Qy(h:Ea T nm W k c X)(G:Scope):(relabel G X.env).names=axw c G.names:=by
 unfold relabel axw;refine qp λy _=>?_
 obtain⟨n,Z⟩:=y;show(if(Z==NameKind.free&&X.env.scope.kind==.function&&X.env.kindOf n==some .cell)=true then _ else _)=_;have e:(Z==NameKind.free&&X.env.scope.kind==.function&&X.env.kindOf n==some .cell)=(Z==NameKind.free&&c.sc.lookup n==some .cell):=by unfold Env.kindOf;rw[h.kd,h.sc];simp
 rw[e]
def a5i(h:Ea T nm W k c X)(hb:a5f c sc G=true):Fi X (V9 c.N G) sc/\∀C fp s H,Ea T nm W k (afm c sc G) (Np X (V9 c.N G) sc C fp s H):=by
 simp only[a5f,aq,dm,jb]at hb;obtain⟨h1,h3,h4,h5,h6⟩:=hb;have Z:∀x kd,(x,kd)∈sc.names->sc.names.lookup x=some kd:=λx kd m=>by have:=h3 (x,kd) m;simpa using this
 refine⟨⟨h1,λy m e=>by rw[Z y.1 y.2 m,e],λy m e=>?_,Z,?_,λi x hi U hv=>?_⟩,λC fp s H=>⟨rfl,h5,Qy h sc,h1,h.calm,h.room,(λz=>by cases z),h.tab,λn m=>?_⟩⟩
 .have:=h4 y m
  rw[e]at this;unfold Env.kindOf;rw[h.sc];simpa using this
 .rw[h.N];simp[V9]
 .rw[h.N]at hi
  have hl:i<(c.N.zipIdx.map (ams G)).length:=by simpa using hi
  unfold V9 at U;rw[dq hl,iz,yr]at U;obtain⟨n,R⟩:∃n,c.N[i]?=some n:=⟨c.N[i],by simp[hi]⟩;rw[R]at U;have U:ams G (n,i)=x:=by simpa using U
  have m:(n,i)∈c.N.zipIdx:=by rw[yd];exact⟨i,by rw[yr,R];simp⟩
  have q:=h6 (n,i) m;rw[U]at q;have v:amn (afm c sc G) x=true:=by unfold Vis at hv;rw[Qy h]at hv;unfold amn;show(match(axw c sc.names).lookup x with|some .local=>true|some .cell=>true|some .free=>true|_=>false)=true;rcases hv with e|e|e<;>rw[e]
  rw[v]at q;simp only[qt,Bool.false_or,aq]at q;rw[h.N,R];have e1:x=n:=eq_of_beq q.1;exact⟨by rw[e1],by have:=q.2;simpa using this⟩
 .obtain⟨y,hy,rfl⟩:=bf.mp (Ak.mp m)
  obtain⟨h7,h8⟩:=ue.mp hy;show(sc.names.lookup y.1==some .cell)=true;rw[Z y.1 y.2 h7,eq_of_beq h8];rfl
def bbr(h:o=bbq op):Dk X (binaryOp o) (rOp nm X.K (MW.Gp op)):=by
 subst h;cases op with
 |add=>exact a99|sub=>exact a95|mul=>exact a98|fdiv=>exact a3r|mod=>exact a96|pow=>exact a97
def arp(Z:Af 8 X.A)(h:axx op=some o):Dk X (compareOp o) (Wi nm X.K op):=by
 have G:Af 6 X.A:=Z.mono (by decide);cases op with
 |eq=>cases h;exact bgr G|ne=>cases h;exact bgs G|lt=>cases h;exact bgf|le=>cases h;exact bgg|gt=>cases h;exact bgh|ge=>cases h;exact bgi|inn=>cases h;exact bgt Z|Rp=>cases h;exact aww Z|is=>cases h;exact bgz|inS=>cases h;exact bbj
def ahp(h:Ea T nm W k c X)(U:tg1 c lo i e=true):∃n p,e=.Name n p/\X.N[i]?=some n/\L2.Loc X.env.scope n/\(X.fn n=true\/X.env.scope.names.lookup n=some .local)/\lo<=i:=by obtain⟨n,G,Z⟩:=jn U;obtain⟨p,rfl⟩:=Gx G;simp only[aq,dm]at Z;obtain⟨l1,R⟩:=a5a h Z.2.1;exact⟨n,p,rfl,slot_of h Z.1,l1,R,Z.2.2⟩
theorem arq{T:Tab}{U:Nm}{W:Jm}{k:Nat}{c:Ctx}{X:Cx}(h:Ea T U W k c X){G:Nat}:∀{is:Y3}{Z:Ya},amt c G is Z=true->Mh X Z is/\∀i∈is,G<=i
 |[],[],_=>⟨.nil,by simp⟩|[],_::_,e=>by cases e|_::_,[],e=>by cases e
 |i::is,a::Z,e=>by
  unfold amt at e;rw[aq]at e;obtain⟨n,p,rfl,R,e2,e3,e4⟩:=ahp h e.1;obtain⟨g1,g2⟩:=arq h e.2;refine⟨.cons R e2 e3 g1,λj hj=>?_⟩;rcases cu.mp hj with z|z
  .rw[z];exact e4
  .exact g2 j z
def akc(h:Ea T nm W k c X)(Z:tgB c lo t e=true):PG X e (tGt nm X.K t)/\∀i∈Bw t,lo<=i:=by
 have G:X.N.Nodup:=by rw[h.N];exact h.nd
 cases t with
 |name i =>
  obtain⟨n,p,rfl,R,e2,e3,e4⟩:=ahp h Z;exact⟨a3v G R e2 e3,λi hi=>by rw[uv.mp hi];exact e4⟩
 |names is =>
  obtain⟨ts,U,h2⟩:=jn Z;obtain⟨k0,p,rfl⟩:=Tj U;obtain⟨g1,g2⟩:=arq h h2;exact⟨aws h.calm G g1,g2⟩
structure Got(nm:Nm)(W:Jm)(X:Cx)(a:Expr)(e:Ex):Prop where
 v:PE X a (tE nm W X.K e)
 q:Tn a=true->PT X a (tQ nm W X.K e)
 w:∀op ls p,a=.BoolOp op ls p->PW X a (tQ nm W X.K e)
noncomputable def bbs:Expr->Bool
 |.BoolOp ..=>false|.UnaryOp .Not _ _=>false|.IfExp ..=>false|.Compare ..=>false|_=>true
set_option tactic.hygienic true in
def v9(h:PE X a (tE nm W X.K e))(Y:bbs a=true):Got nm W X a e:=by
 refine⟨h,λJ=>bab h λZ=>?_,λG U p z=>by subst z;cases Y⟩;cases a<;>first|rfl|(cases Y)|skip
 rename_i G x p;cases G<;>first|rfl|cases Y
def ars(h:Ea T nm W k c X)(Z:arl T c d a=true):PE X a (tE nm W X.K (.cst d))/\bbs a=true:=by
 cases d with
 |int i =>
  simp only[arl,Bool.or_eq_true]at Z;rcases Z with Z|Z
  .obtain⟨k,U,G⟩:=jn Z
   obtain⟨j,p,rfl⟩:=Wl U;rw[jh G];exact⟨a91,rfl⟩
  .obtain⟨n,U,G⟩:=jn Z
   obtain⟨p,rfl⟩:=Gx U;rw[aq]at G;obtain⟨g1,R⟩:=Gw h G.1;obtain⟨t,ht⟩:=h.tab.cs _ _ (Ak.mp G.2);exact⟨a3q g1 ht (t8 R).1,rfl⟩
 |str i =>
  simp only[arl,Bool.or_eq_true]at Z;rcases Z with Z|Z
  .obtain⟨k,U,G⟩:=jn Z
   obtain⟨j,p,rfl⟩:=Wl U;rw[jh G];exact⟨a93,rfl⟩
  .obtain⟨n,U,G⟩:=jn Z
   obtain⟨p,rfl⟩:=Gx U;rw[aq]at G;obtain⟨g1,R⟩:=Gw h G.1;obtain⟨t,ht⟩:=h.tab.ss _ _ (Ak.mp G.2);exact⟨axo g1 ht (t8 R).1,rfl⟩
 |bl i =>
  obtain⟨k,U,G⟩:=jn Z;obtain⟨j,p,rfl⟩:=Wl U;rw[jh G];exact⟨bgd,rfl⟩
 |non =>
  obtain⟨k,U,G⟩:=jn Z;obtain⟨j,p,rfl⟩:=Wl U;rw[jh G];exact⟨a92,rfl⟩
 |_=>cases Z
section
variable{T:Tab}{nm:Nm}{W:Jm}{k:Nat}
def Ea.r8(h:Ea T nm W k c X):Af 8 X.A:=h.room.mono (by lia)
def Ea.po(h:Ea T nm W k c X)(Z:c.fn=true):PassesOwn (model X.prog X.w) X.A X.env X.xe:=by rw[(h.fnl Z).2];exact PassesOwn.never
theorem Ea.mg(h:Ea T nm W k c X)(m:n∈O9):X.mg n=none:=h.tab.bt n m
def amu(h:Je T Z c []=true):Z=.nil:=by
 cases Z with
 |nil=>rfl|cons e Z=>simp[Je]at h
theorem Vt{c:Ctx}{Z:Nat}:∀{is:Y3}{U:Ya},amt c Z is U=true->∀i∈is,Z<=i
 |[],_,_=>by simp|_::_,[],e=>by cases e
 |i::is,a::U,e=>by
  unfold amt at e;rw[aq]at e;intro j R;rcases cu.mp R with z|z
  .obtain⟨n,h1,G⟩:=jn e.1
   simp only[aq,dm]at G;rw[z];exact G.2.2
  .exact Vt e.2 j z
def ahq(h:tgB c lo t e=true):∀i∈Bw t,lo<=i:=by
 cases t with
 |name j =>
  obtain⟨n,G,Z⟩:=jn h;simp only[aq,dm]at Z;intro i U;rw[uv.mp U];exact Z.2.2
 |names is =>
  obtain⟨R,G,Z⟩:=jn h;exact Vt Z
def art:(V9 N Z).length-N.length=Z.length:=by simp[V9]
def Tp(G:Ea T nm W k c X)(h:akb c j t g sc=true) :
 Hj g.iter=true/\g.is_async=0/\Fi X (V9 c.N (Fb g.target)) sc/\(∀C Z s H,Ea T nm W k (afm c sc (Fb g.target)) (Np X (V9 c.N (Fb g.target)) sc C Z s H)) /\
 (∀C Z s H,PG (Np X (V9 c.N (Fb g.target)) sc C Z s H) g.target (tGt nm X.K t))/\(V9 c.N (Fb g.target)).length-X.N.length=j/\∀i∈Bw t,X.N.length<=i:=by
 simp only[akb,aq,dm]at h;obtain⟨h2,h3,R,h5,h6⟩:=h;obtain⟨B,U⟩:=a5i G h2;exact⟨h5,h6,B,U,λC Z s H=>(akc (U C Z s H) R).1,by rw[G.N,art];exact(eq_of_beq h3).symm,λi hi=>by rw[G.N];exact ahq R i hi⟩
def akd(h:arn o a x y=true):(∃l r p,a=.BoolOp o [l,r] p/\Tn l=true/\x l=true/\Tn r=true/\y r=true) \/
 ∃l r s Z p,a=.BoolOp o (l::r::s::Z) p/\Tn l=true/\x l=true/\y (.BoolOp o (r::s::Z) p)=true:=by
 obtain⟨⟨o',U,p⟩,R,G⟩:=jn h;cases arj R;rw[aq]at G;obtain⟨h3,G⟩:=G;cases jh h3;cases U with
 |nil=>cases G
 |cons l U=>cases U with
  |nil=>cases G
  |cons r Z =>
   cases Z with
   |nil =>
    have G:((Tn l&&x l)&&(Tn r&&y r))=true:=G;simp only[aq]at G;exact .inl ⟨l,r,p,rfl,G.1.1,G.1.2,G.2.1,G.2.2⟩
   |cons s Z =>
    have G:((Tn l&&x l)&&y (.BoolOp o' (r::s::Z) p))=true:=G;simp only[aq]at G;exact .inr ⟨l,r,s,Z,p,rfl,G.1.1,G.1.2,G.2⟩
def a5j(hc:Ea T nm W k c X)(Z:a5g b=some n)(hg:Yw c n=true)(U:PA X (l::ls) (Yb nm W X.K es))(e2:Ai (l::ls)=true):PE X (.Call (.Name n p) (l::ls) [] p') (tE nm W X.K (.blt b es)):=by
 obtain⟨g1,g2⟩:=Gw hc hg;obtain⟨G,d2,d3⟩:=t8 g2;simp only[Ai,aq]at e2;have st:=lq e2.1 ls X.env;have R:=vg (env:=X.env) (pos:=p') e2.2;have mg:n∈O9->X.mg n=none:=hc.mg;cases b with
 |len=>cases Z;exact ajt (id :="len") baz g1 (mg (by decide+kernel)) (by decide+kernel) U d3 G st R|max=>cases Z;exact ajt (id :="max") (ba7 hc.calm) g1 (mg (by decide+kernel)) (by decide+kernel) U d3 G st R|all=>cases Z;exact ajt (id :="all") (bbg hc.calm) g1 (mg (by decide+kernel)) (by decide+kernel) U d3 G st R|min=>cases Z;exact ajt (id :="min") (bba hc.calm) g1 (mg (by decide+kernel)) (by decide+kernel) U d3 G st R|tuple=>cases Z;exact ace (T :="tuple") awu g1 (mg (by decide+kernel)) (by decide+kernel) U d3 G st R|str=>cases Z;exact ace (T :="str") bbk g1 (mg (by decide+kernel)) (by decide+kernel) U d3 G st R|toInt=>cases Z;exact ace (T :="int") bbl g1 (mg (by decide+kernel)) (by decide+kernel) U d3 G st R|dict=>cases Z;exact ace (T :="dict") a4k g1 (mg (by decide+kernel)) (by decide+kernel) U d3 G st R|_=>cases Z
def Y5{Z:Type}{l:List Z}(h:(!l.isEmpty)=true):∃x r,l=x::r:=by
 cases l with
 |nil=>cases h|cons x r=>exact⟨x,r,rfl⟩
set_option tactic.hygienic true in
mutual
theorem jo:∀(e:Ex){c:Ctx}{X:Cx}{a:Expr},Ea T nm W k c X->zx T e c a=true->Got nm W X a e
 |.var i,c,X,a,hc,h=>by
  replace h:=jn h;obtain⟨n,Z,h⟩:=h;obtain⟨p,rfl⟩:=Gx Z;simp only[aq]at h;exact v9 (a90 (slot_of hc h.1) (a4z hc h.2.1) (t8 h.2.2).1 (t8 h.2.2).2.1) rfl
 |.ntr x,c,X,a,hc,h=>by
  replace h:=jn h;obtain⟨⟨o,l⟩,Z,h⟩:=h;obtain⟨p,rfl⟩:=aho Z;simp only[aq,dm]at h;obtain⟨rfl,U,h3⟩:=h;obtain⟨z,U⟩:=j6.mp U;obtain⟨p',e⟩:=Gx U;have e:l=_:=e;subst e;have g:=(jo x hc h3).v;exact⟨a4s g,λ_=>a4t g λ_=>rfl,λ_ _ _ z=>by cases z⟩
 |.sx x,c,X,a,hc,h=>by
  replace h:=jn h;obtain⟨⟨l,r⟩,Z,h⟩:=h;obtain⟨p,rfl⟩:=Wm Z;simp only[aq]at h;exact v9 (bg0 (jo x hc h.2.1).v (ars hc h.2.2).1 (aeq h.1)) rfl
 |.cst d,c,X,a,hc,h=>by
  obtain⟨Z,U⟩:=ars hc h;exact v9 Z U
 |.bin op x y,c,X,a,hc,h=>by
  replace h:=jn h;obtain⟨⟨l,o,r⟩,Z,h⟩:=h;obtain⟨p,rfl⟩:=axu Z;simp only[aq,dm]at h;exact v9 (a94 (bbr h.1) (jo x hc h.2.1).v (jo y hc h.2.2).v) rfl
 |.neg x,c,X,a,hc,h=>by
  replace h:=jn h;obtain⟨⟨o,l⟩,Z,h⟩:=h;obtain⟨p,rfl⟩:=aho Z;simp only[aq,dm]at h;obtain⟨rfl,h⟩:=h;exact v9 (bam (jo x hc h).v) rfl
 |.cmp op x y,c,X,a,hc,h=>by
  replace h:=jn h;obtain⟨⟨l,o,r⟩,Z,h⟩:=h;obtain⟨p,rfl⟩:=aco Z;replace h:=jn h;obtain⟨o1,U,h⟩:=h;replace h:=jn h;obtain⟨r1,h3,h⟩:=h;cases Bo U;cases Bo h3;simp only[aq,dm]at h;have g:=arp (nm:=nm) hc.r8 h.1;have m:=Vq h.2.1 o1;exact⟨bac g (jo x hc h.2.2.1).v (jo y hc h.2.2.2).v m,λ_=>bae g (jo x hc h.2.2.1).v (jo y hc h.2.2.2).v m,λ_ _ _ z=>by cases z⟩
 |.chain o1 o2 x y z,c,X,a,hc,h=>by
  replace h:=jn h;obtain⟨⟨l,o,r⟩,Z,h⟩:=h;obtain⟨p,rfl⟩:=aco Z;dsimp only at h;split at h
  .rename_i p1 p2 r s
   simp only[aq,dm]at h;have g1:=arp (nm:=nm) hc.r8 h.1.1;have R:=arp (nm:=nm) hc.r8 h.1.2;have m:lastMarks [p1,p2] [r,s]=false:=Vq h.2.1 p2;exact⟨awq g1 R (jo x hc h.2.2.1).v (jo y hc h.2.2.2.1).v (jo z hc h.2.2.2.2).v m,λ_=>awr g1 R (jo x hc h.2.2.1).v (jo y hc h.2.2.2.1).v (jo z hc h.2.2.2.2).v m,λ_ _ _ z=>by cases z⟩
  .cases h
 |.and x y,c,X,a,hc,h=>by
  rcases akd h with⟨l,r,p,rfl,Z,U,h3,h4⟩|⟨l,r,s,qq,p,rfl,Z,U,h3⟩
  .have g1:=jo x hc U
   have R:=jo y hc h4;have w:=azu (pos:=p) (rest:=[]) (g1.q Z) (avu (R.q h3));exact⟨azt g1.v (az2 R.v),λ_=>w.pt,λ_ _ _ _=>w⟩
  .have g1:=jo x hc U
   have R:=jo y hc h3;have w:=azu (g1.q Z) (R.w _ _ _ rfl);exact⟨azt g1.v R.v,λ_=>w.pt,λ_ _ _ _=>w⟩
 |.or x y,c,X,a,hc,h=>by
  rcases akd h with⟨l,r,p,rfl,Z,U,h3,h4⟩|⟨l,r,s,qq,p,rfl,Z,U,h3⟩
  .have g1:=jo x hc U
   have R:=jo y hc h4;have w:=bah (pos:=p) (rest:=[]) (g1.q Z) (a1z (R.q h3));exact⟨baf g1.v (az2 R.v),λ_=>w.pt,λ_ _ _ _=>w⟩
  .have g1:=jo x hc U
   have R:=jo y hc h3;have w:=bah (g1.q Z) (R.w _ _ _ rfl);exact⟨baf g1.v R.v,λ_=>w.pt,λ_ _ _ _=>w⟩
 |.not x,c,X,a,hc,h=>by
  replace h:=jn h;obtain⟨⟨o,l⟩,Z,h⟩:=h;obtain⟨p,rfl⟩:=aho Z;simp only[aq,dm]at h;obtain⟨rfl,h⟩:=h;have g:=jo x hc h.2;exact⟨bag g.v,λ_=>bai (g.q h.1),λ_ _ _ z=>by cases z⟩
 |.ite t x y,c,X,a,hc,h=>by
  replace h:=jn h;obtain⟨⟨t',l,r⟩,Z,h⟩:=h;obtain⟨p,rfl⟩:=axv Z;simp only[aq]at h;exact⟨baj ((jo t hc h.2.1).q h.1) (jo x hc h.2.2.1).v (jo y hc h.2.2.2).v,(λz=>by cases z),λ_ _ _ z=>by cases z⟩
 |.tup es,c,X,a,hc,h=>by
  replace h:=jn h;obtain⟨l,Z,h⟩:=h;obtain⟨k0,p,rfl⟩:=Tj Z;simp only[aq,dm]at h;exact v9 (bak (Dm es hc h.2).1 h.1) rfl
 |.lst es,c,X,a,hc,h=>by
  replace h:=jn h;obtain⟨l,Z,h⟩:=h;obtain⟨p,rfl⟩:=aj9 Z;simp only[aq,dm]at h;exact v9 (bal (Dm es hc h.2).1 h.1) rfl
 |.K8 es,c,X,a,hc,h=>by
  replace h:=jn h;obtain⟨l,Z,h⟩:=h;obtain⟨p,rfl⟩:=aj9 Z;simp only[aq,dm]at h;exact v9 (a3t (Dm es hc h.2).1 h.1) rfl
 |.ak8,c,X,a,hc,h=>by
  replace h:=jn h;obtain⟨⟨q,l⟩,Z,h⟩:=h;obtain⟨p,rfl⟩:=aka Z;simp only[aq,qi]at h;obtain⟨rfl,rfl⟩:=h;exact v9 a4f rfl
 |.abb,c,X,a,hc,h=>by
  replace h:=jn h;obtain⟨⟨q,l⟩,Z,h⟩:=h;obtain⟨p,rfl⟩:=aka Z;simp only[aq,qi]at h;obtain⟨rfl,rfl⟩:=h;exact v9 a4g rfl
 |.ix x y,c,X,a,hc,h=>by
  replace h:=jn h;obtain⟨⟨l,r⟩,Z,h⟩:=h;obtain⟨p,rfl⟩:=Wm Z;simp only[aq]at h;exact v9 (bgk (X4 hc.room) (jo x hc h.2.1).v (jo y hc h.2.2).v (aeq h.1)) rfl
 |.cut x lo hi,c,X,a,hc,h=>by
  replace h:=jn h;obtain⟨⟨l,r⟩,Z,h⟩:=h;obtain⟨p,rfl⟩:=Wm Z;replace h:=jn h;obtain⟨⟨u,v,st⟩,U,h⟩:=h;obtain⟨p2,e⟩:=a5e U;have e:r=_:=e;subst e;simp only[aq,Option.isNone_iff_eq_none]at h;obtain⟨rfl,h⟩:=h;exact v9 (ba8 (jo x hc h.1).v (ake lo hc h.2.1) (ake hi hc h.2.2)) rfl
 |.call f es,c,X,a,hc,h=>by
  replace h:=jn h;obtain⟨⟨n,ls⟩,Z,h⟩:=h;obtain⟨p,p',rfl⟩:=Jd Z;simp only[aq]at h;obtain⟨⟨U,h3,h4⟩,h5⟩:=h;obtain⟨l,ls,rfl⟩:=Y5 h4;obtain⟨fa,fd,ps,F,m,kp,b⟩:=hc.tab.fn _ _ _ (jh U);obtain⟨g1,R⟩:=Gw hc h3;obtain⟨e1,e2⟩:=Dm es hc h5;simp only[Ai,aq]at e2;exact v9 (s_call F (hc.room.mono x_) g1 m kp b rfl e1 (t8 R).1 (lq e2.1 _ _) (vg e2.2)) rfl
 |.make f es,c,X,a,hc,h=>by
  replace h:=jn h;obtain⟨⟨n,ls⟩,Z,h⟩:=h;obtain⟨p,p',rfl⟩:=Jd Z;simp only[aq]at h;obtain⟨⟨U,h3,h4⟩,h5⟩:=h;obtain⟨l,ls,rfl⟩:=Y5 h4;obtain⟨C,fa,fd,ps,cl,M0,F,m,b,d1,d2⟩:=hc.tab.cl _ _ _ (jh U);obtain⟨g1,R⟩:=Gw hc h3;obtain⟨e1,e2⟩:=Dm es hc h5;simp only[Ai,aq]at e2;exact v9 (a4c M0 F (hc.room.mono (w_ (by decide))) g1 m b d1 rfl d2 rfl e1 (t8 R).1 (lq e2.1 _ _) (vg e2.2)) rfl
 |.meth o m es,c,X,a,hc,h=>by
  replace h:=jn h;obtain⟨⟨lo,n,ap,ls,p⟩,h0,h⟩:=h;cases ark h0;simp only[aq,dm]at h;obtain⟨⟨⟨Z,U⟩,h3,h4⟩,h5,h6⟩:=h;obtain⟨C,fa,fd,ps,f,C0,Me,F,b,u,nf⟩:=hc.tab.mt _ _ _ (jh Z);obtain⟨e1,e2⟩:=Dm es hc h6;have g:=jo o hc h5;cases ls with
  |nil =>
   have z:=amu h6;subst z;exact v9 (axk (ci:=0) (cl:=⟨0,[]⟩) g.v C0 Me F (hc.room.mono x_) b u nf (aj8 U rfl h3 h4)) rfl
  |cons l ls =>
   have e3:=e2;simp only[Ai,aq]at e3;exact v9 (a4d (ci:=0) (cl:=⟨0,[]⟩) g.v C0 Me F (hc.room.mono x_) b u nf rfl e1 (lq e3.1 _ _) (vg e3.2) (aj8 U e2 h3 h4)) rfl
 |.fld o f,c,X,a,hc,h=>by
  replace h:=jn h;obtain⟨⟨l,n,p⟩,Z,h⟩:=h;cases acp Z;simp only[aq]at h;obtain⟨t1,t2⟩:=hc.tab.fl _ _ (jh h.1.1);exact v9 (ban t1 t2 (jo o hc h.2).v (Gn h.1.2)) rfl
 |.blt b es,c,X,a,hc,h=>by
  have G:(Cr (dCN a) λq=>(decide (a5g b=some q.1)&&(Yw c q.1&&!q.2.isEmpty))&&Je T es c q.2)=true->Got nm W X a (.blt b es):=λhh=>by clear h;replace hh:=jn hh;obtain⟨⟨n,ls⟩,Z,h⟩:=hh;obtain⟨p,p',rfl⟩:=Jd Z;simp only[aq]at h;obtain⟨⟨U,h3,h4⟩,h5⟩:=h;obtain⟨l,ls,rfl⟩:=Y5 h4;obtain⟨e1,e2⟩:=Dm es hc h5;exact v9 (a5j hc (jh U) h3 e1 e2) rfl
  have qv:∀{bb:Blt}{ty:Str}{T0:String}{x:Ex},(∀{ι H x v d M M'},Rep X.K ι H x v->MW.rm bb [x] M=.ok d M'->∃Ty b,M'=M/\d=.bl b/\Qc X.K H v Ty/\PySem.W.kitOne X.K Ty (.type T0)=some b)->X.mg ty=none->bootBuiltins ty=some (.type T0)->(∀l,zx T x c l=true->PE X l (tE nm W X.K x))->axy c ty a (zx T x c)=true->Got nm W X a (.blt bb (.cons x .nil)):=λhk hm hv q8 hi=>by obtain⟨l,p,p1,p2,rfl,h3,h4,h5,h6⟩:=axz hi;obtain⟨g1,R⟩:=Gw hc h3;obtain⟨g3,g4⟩:=Gw hc h4;exact v9 (ba9 hk g1 (hc.mg (by decide+kernel)) (by decide+kernel) (t8 R).2.2 (t8 R).1 g3 hm hv (t8 g4).2.2 (t8 g4).1 (q8 l h6) (lq h5 _ _) (lq rfl _ _) (vg rfl)) rfl
  match b,es,h,G with
  |.isTuple,.cons x .nil,h,_=>exact qv (T0 :="tuple") (aw7 (a4x _ (by decide+kernel))) (hc.mg (by decide+kernel)) (by decide+kernel) (λl q=>(jo x hc q).v) h
  |.isStr,.cons x .nil,h,_=>exact qv (T0 :="str") aw8 (hc.mg (by decide+kernel)) (by decide+kernel) (λl q=>(jo x hc q).v) h
  |.isTuple,.nil,h,G=>exact G h|.isStr,.nil,h,G=>exact G h|.isTuple,.cons _ (.cons _ _),h,G=>exact G h|.isStr,.cons _ (.cons _ _),h,G=>exact G h|.len,_,h,G=>exact G h|.tuple,_,h,G=>exact G h|.str,_,h,G=>exact G h|.toInt,_,h,G=>exact G h|.max,_,h,G=>exact G h|.min,_,h,G=>exact G h|.dict,_,h,G=>exact G h|.all,_,h,G=>exact G h|.Ef,.nil,h,G=>exact G h|.Ef,.cons _ (.cons _ _),h,G=>exact G h
  |.Ef,.cons x .nil,h,_ =>
   obtain⟨l,p,p1,p2,p3,rfl,h5,h6,h7,h8⟩:=acq (show aro c "sorted" "set" a (zx T x c)=true from h);obtain⟨g1,R⟩:=Gw hc h5;obtain⟨g3,g4⟩:=Gw hc h6;exact v9 (aml hc.r8 g1 (hc.mg (by decide+kernel)) (by decide+kernel) (t8 R).2.2 (t8 R).1 g3 (hc.mg (by decide+kernel)) (by decide+kernel) (t8 g4).2.2 (t8 g4).1
    (O6 (jo x hc h8).v Vp (lq h7 _ _)) (lq rfl _ _) (vg rfl) (lq h7 _ _) (vg rfl)) rfl
 |.bm m o es,c,X,a,hc,h=>by
  replace h:=jn h;obtain⟨⟨lo,n,ap,ls,p⟩,h0,h⟩:=h;cases ark h0;simp only[aq,dm]at h;obtain⟨⟨⟨Z,U⟩,h3,h4,q7⟩,h5,h6⟩:=h;obtain⟨l,ls,rfl⟩:=Y5 q7;obtain⟨e1,e2⟩:=Dm es hc h6;have e3:=e2;simp only[Ai,aq]at e3;have qj:((backTo p (starEach (l::ls) X.env)).all (λx=>!x.1)&&(backToKw p (keywordEach [] X.env)).all (λx=>x.1.isSome)&&decide ((l::ls).length+([]:List Keyword).length+(if([]:List Keyword).isEmpty then 0 else 1)<30))=true:=by rw[Yz e2];simp[keywordEach,backToKw];simp at h3;exact b_ h3 (by decide)
  have g:=jo o hc h5;cases m with
  |append=>cases Z;exact v9 (aqy (T :="list") (id :="list.append") (fun ι H M x v S r t=>ty_list S r t) PySem.F.plainAttrs_list PySem.F.slot_list_append PySem.F.type_list_append aqz g.v e1 (Gn U) qj h4 (lq e3.1 _ _) (vg e3.2)) rfl
  |index=>cases Z;exact v9 (aqy (T :="list") (id :="list.index") (fun ι H M x v S r t=>ty_list S r t) PySem.F.plainAttrs_list PySem.F.slot_list_index PySem.F.type_list_index (aw2 hc.r8) g.v e1 (Gn U) qj h4 (lq e3.1 _ _) (vg e3.2)) rfl
  |join=>cases Z;exact v9 (aqy (T :="str") (id :="str.join") (fun ι H M x v S r t=>ty_str (M:=M) r t) PySem.F.plainAttrs_str PySem.F.slot_str_join PySem.F.type_str_join a4u g.v e1 (Gn U) qj h4 (lq e3.1 _ _) (vg e3.2)) rfl
  |split=>cases Z;exact v9 (aqy (T :="str") (id :="str.split") (fun ι H M x v S r t=>ty_str (M:=M) r t) PySem.F.plainAttrs_str PySem.F.slot_str_split PySem.F.type_str_split m_split g.v e1 (Gn U) qj h4 (lq e3.1 _ _) (vg e3.2)) rfl
  |get=>cases Z;exact v9 (aqy (T :="dict") (id :="dict.get") (fun ι H M x v S r t=>ty_dict S r t) PySem.F.plainAttrs_dict PySem.F.slot_dict_get PySem.F.type_dict_get (bbh (X4 hc.room)) g.v e1 (Gn U) qj h4 (lq e3.1 _ _) (vg e3.2)) rfl
 |.comp v j t it e,c,X,a,hc,h=>by
  replace h:=jn h;obtain⟨⟨zq,gs,sc⟩,Z,h⟩:=h;obtain⟨p,rfl⟩:=Y4 Z;replace h:=jn h;obtain⟨⟨tg,q0,q5,as⟩,U,h⟩:=h;cases Bo U;simp only[aq,qi]at h;obtain⟨⟨h3,rfl⟩,h4,h5⟩:=h;obtain⟨q1,q2,B,hB,hg,q3,q4⟩:=Tp hc h3;cases q2;exact v9 (a4b B hc.calm (Tq it hc h4) hg (λC fp s H=>(jo e (hB C fp s H) h5).v) q1 q3 q4) rfl
 |.Du v j t it i e,c,X,a,hc,h=>by
  replace h:=jn h;obtain⟨⟨zq,gs,sc⟩,Z,h⟩:=h;obtain⟨p,rfl⟩:=Y4 Z;replace h:=jn h;obtain⟨⟨tg,q0,q5,as⟩,U,h⟩:=h;cases Bo U;replace h:=jn h;obtain⟨d,h6,h⟩:=h;cases Bo h6;simp only[aq]at h;obtain⟨⟨h3,h7⟩,h4,h8,h5⟩:=h;obtain⟨q1,q2,B,hB,hg,q3,q4⟩:=Tp hc h3;cases q2;exact v9 (aqr B hc.calm (Tq it hc h4) hg (λC fp s H=>(jo i (hB C fp s H) h8).q h7) (λC fp s H=>(jo e (hB C fp s H) h5).v) q1 q3 q4) rfl
 |.W2 x y,c,X,a,hc,h=>by
  replace h:=jn h;obtain⟨⟨l0,o,r0⟩,Z,h⟩:=h;obtain⟨p,rfl⟩:=aco Z;replace h:=jn h;obtain⟨o1,U,h⟩:=h;replace h:=jn h;obtain⟨r1,h3,h⟩:=h;cases Bo U;cases Bo h3;replace h:=jn h;obtain⟨⟨n,ls⟩,h4,h⟩:=h;replace h:=jn h;obtain⟨⟨m,ms⟩,h5,h⟩:=h;replace h:=jn h;obtain⟨l,h6,h⟩:=h;replace h:=jn h;obtain⟨r,h7,h⟩:=h;cases Bo h6;cases Bo h7;obtain⟨p1,q1,e1⟩:=Jd h4;obtain⟨p2,q2,e2⟩:=Jd h5;have e1:l0=_:=e1;subst e1 e2;simp only[aq,dm]at h;obtain⟨⟨⟨rfl,rfl⟩,rfl,h8⟩,⟨h9,qk⟩,q6,zz⟩:=h;obtain⟨g1,R⟩:=Gw hc h8;have z:=awx (nm:=nm) (W:=W) (p1:=p1) (p2:=p2) (q1:=q1) (q2:=q2) hc.r8 g1 (hc.mg (by decide+kernel)) (by decide+kernel) (t8 R).2.2 (t8 R).1 (O6 (jo x hc q6).v Vp (lq h9 _ _)) (O6 (jo y hc zz).v Vp (lq qk _ _)) (lq h9 _ _) (lq qk _ _) (vg rfl) (vg rfl);exact⟨a1w z,λ_=>awp (a1x z) λ_ _ _ q=>q,λ_ _ _ z=>by cases z⟩
 |.agk x,c,X,a,hc,h=>by
  obtain⟨l,p,p1,p2,p3,rfl,h5,h6,h7,h8⟩:=acq h;obtain⟨g1,R⟩:=Gw hc h5;obtain⟨g3,g4⟩:=Gw hc h6;exact v9 (a4n hc.r8 g1 (hc.mg (by decide+kernel)) (by decide+kernel) (t8 R).2.2 (t8 R).1 g3 (hc.mg (by decide+kernel)) (by decide+kernel) (t8 g4).2.2 (t8 g4).1
   (O6 (jo x hc h8).v Vp (lq h7 _ _)) (lq rfl _ _) (vg rfl) (lq h7 _ _) (vg rfl)) rfl
 |.agl x,c,X,a,hc,h=>by
  obtain⟨l,p,p1,p2,p3,rfl,h5,h6,h7,h8⟩:=acq h;obtain⟨g1,R⟩:=Gw hc h5;obtain⟨g3,g4⟩:=Gw hc h6;exact v9 (a4q hc.r8 g1 (hc.mg (by decide+kernel)) (by decide+kernel) (t8 R).2.2 (t8 R).1 g3 (hc.mg (by decide+kernel)) (by decide+kernel) (t8 g4).2.2 (t8 g4).1
   (O6 (jo x hc h8).v Vp (lq h7 _ _)) (lq rfl _ _) (vg rfl) (lq h7 _ _) (vg rfl)) rfl
theorem Dm:∀(Z:Df){c:Ctx}{X:Cx}{a:Ya},Ea T nm W k c X->Je T Z c a=true->PA X a (Yb nm W X.K Z)/\Ai a=true
 |.nil,c,X,a,hc,h=>by
  cases qi.mp h;exact⟨Vp,rfl⟩
 |.cons e Z,c,X,a,hc,h=>by
  cases a with
  |nil=>cases h
  |cons l U =>
   replace h:(noStar l&&(zx T e c l&&Je T Z c U))=true:=h;simp only[aq]at h;obtain⟨R,G⟩:=Dm Z hc h.2.2;exact⟨O6 (jo e hc h.2.1).v R (lq h.1 _ _),by simp only[Ai,aq];exact⟨h.1,G⟩⟩
theorem ake:∀(e:OEx){c:Ctx}{X:Cx}{a:Option Expr},Ea T nm W k c X->a5h T e c a=true->PO X a (tO nm W X.K e)
 |.none,c,X,a,hc,h=>by
  cases Option.isNone_iff_eq_none.mp h;exact aw5
 |.some e,c,X,a,hc,h=>by
  replace h:=jn h;obtain⟨l,rfl,h⟩:=h;exact aw6 (jo e hc h).v
theorem Tq:∀(it:Nt){c:Ctx}{X:Cx}{Z a:Expr},Ea T nm W k c X->ax0 T it c Z a=true->PI X Z a (tI nm W X.K it)
 |.val e,c,X,Z,a,hc,h=>bav (jo e hc h).v|.sgn e,c,X,Z,a,hc,h=>bbn (jo e hc h).v
 |.Mp e,c,X,Z,a,hc,h=>by
  replace h:=jn h;obtain⟨⟨n,ls⟩,G,h⟩:=h;obtain⟨p,p',rfl⟩:=Jd G;replace h:=jn h;obtain⟨l,h2,h⟩:=h;cases Bo h2;simp only[aq,dm]at h;obtain⟨⟨rfl,R⟩,h4,U⟩:=h;exact baw (Gw hc R).1 (hc.mg (by decide+kernel)) (jo e hc U).v h4
 |.enm e,c,X,Z,a,hc,h=>by
  replace h:=jn h;obtain⟨⟨n,ls⟩,G,h⟩:=h;obtain⟨p,p',rfl⟩:=Jd G;replace h:=jn h;obtain⟨l,h2,h⟩:=h;cases Bo h2;simp only[aq,dm]at h;obtain⟨⟨h6,rfl,R⟩,h4,U⟩:=h;obtain⟨ts,h7⟩:=j6.mp h6;obtain⟨k0,pt,rfl⟩:=Tj h7;exact bbe (Gw hc R).1 (hc.mg (by decide+kernel)) (jo e hc U).v h4
 |.zip es,c,X,Z,a,hc,h=>by
  replace h:=jn h;obtain⟨⟨n,ls⟩,G,h⟩:=h;obtain⟨p,p',rfl⟩:=Jd G;simp only[aq,dm]at h;obtain⟨⟨h6,rfl,R,h4⟩,U,h7⟩:=h;obtain⟨l,ls,rfl⟩:=Y5 h4;obtain⟨e1,e2⟩:=Dm es hc h7;obtain⟨ts,h9⟩:=j6.mp h6;obtain⟨k0,pt,rfl⟩:=Tj h9;simp only[Ai,aq]at e2;obtain⟨f1,f2⟩:=e2;exact bbf (Gw hc R).1 (hc.mg (by decide+kernel)) e1 (lq f1 _ _) (vg f2) U
end
end
noncomputable def bbt(e:Ex):Option {b:Bool//(∃v j t it x,e=.comp v j t it x)\/∃v j t it i x,e=.Du v j t it i x}:=match e with|.comp ..=>some ⟨true,.inl ⟨_,_,_,_,_,rfl⟩⟩|.Du ..=>some ⟨true,.inr ⟨_,_,_,_,_,_,rfl⟩⟩|_=>none
def a5k(T:Tab)(c:Ctx)(l:Lv)(e:Ex)(Z v:Expr):Bool:=
 match l with
 |.tg t=>(tgB c 0 t Z&&((Uo v&&((Qx Z).isSome||azv v))||(match t with|.name _=>(afk v).isSome&&(bbt e).isSome|_=>false)))&&zx T e c v
 |.sub o i=>Cr (amq Z) λq=>Wj q.2&&(zx T e c v&&(zx T o c q.1&&zx T i c q.2))
 |.fld o f=>Cr (ari Z) λq=>(Uo v&&flB T.Rj f q.2.1)&&(zx T e c v&&zx T o c q.1)
noncomputable def bbu(a:Stmt):Option (List Expr×Expr):=Option.map Subtype.val (α:={q:List Expr×Expr//∃p,a=.Assign q.1 q.2 p}) (match a with|.Assign t v p=>some ⟨(t,v),p,rfl⟩|_=>none)
noncomputable def bbv(a:Stmt):Option Expr:=Option.map Subtype.val (α:={q:Expr//∃p,a=.Expr q p}) (match a with|.Expr v p=>some ⟨v,p,rfl⟩|_=>none)
noncomputable def bbw(a:Stmt):Option (Expr×List Stmt×List Stmt):=Option.map Subtype.val (α:={q:Expr×List Stmt×List Stmt//∃p,a=.If q.1 q.2.1 q.2.2 p}) (match a with|.If t l r p=>some ⟨(t,l,r),p,rfl⟩|_=>none)
noncomputable def bbx(a:Stmt):Option (Expr×List Stmt×List Stmt):=Option.map Subtype.val (α:={q:Expr×List Stmt×List Stmt//∃p,a=.While q.1 q.2.1 q.2.2 p}) (match a with|.While t l r p=>some ⟨(t,l,r),p,rfl⟩|_=>none)
noncomputable def bby(a:Stmt):Option (Expr×Expr×List Stmt×List Stmt):=Option.map Subtype.val (α:={q:Expr×Expr×List Stmt×List Stmt//∃p,a=.For q.1 q.2.1 q.2.2.1 q.2.2.2 p}) (match a with|.For t i l r p=>some ⟨(t,i,l,r),p,rfl⟩|_=>none)
noncomputable def a5l(a:Stmt):Option (Option Expr):=Option.map Subtype.val (α:={q:Option Expr//∃p,a=.Return q p}) (match a with|.Return v p=>some ⟨v,p,rfl⟩|_=>none)
noncomputable def bbz(a:Stmt):Option (List Stmt):=Option.map Subtype.val (α:={q:List Stmt//∃h Z p,a=.Try q (h::Z) [] [] p}) (match a with|.Try b (h::Z) [] [] p=>some ⟨b,h,Z,p,rfl⟩|_=>none)
noncomputable def a5m(a:Stmt):Option Nat:=Option.map Subtype.val (α:={n:Nat//(n=0/\∃p,a=.Break p)\/(n=1/\∃p,a=.Continue p)\/(n=2/\∃p,a=.Pass p)}) (match a with|.Break p=>some ⟨0,.inl ⟨rfl,p,rfl⟩⟩|.Continue p=>some ⟨1,.inr (.inl ⟨rfl,p,rfl⟩)⟩|.Pass p=>some ⟨2,.inr (.inr ⟨rfl,p,rfl⟩)⟩|_=>none)
def ax1(h:bbu a=some (t,v)):∃p,a=.Assign t v p:=(Y0 h :)
def ax2(h:bbv a=some v):∃p,a=.Expr v p:=(Y0 h :)
def ax3(h:bbw a=some (t,l,r)):∃p,a=.If t l r p:=(Y0 h :)
def ax4(h:bbx a=some (t,l,r)):∃p,a=.While t l r p:=(Y0 h :)
def ax5(h:bby a=some (t,i,l,r)):∃p,a=.For t i l r p:=(Y0 h :)
def akf(h:a5l a=some v):∃p,a=.Return v p:=(Y0 h :)
def ax6(h:bbz a=some b):∃G Z p,a=.Try b (G::Z) [] [] p:=(Y0 h :)
def akg(h:a5m a=some n):(n=0/\∃p,a=.Break p)\/(n=1/\∃p,a=.Continue p)\/(n=2/\∃p,a=.Pass p):=(Y0 h :)
mutual
def a5n(T:Tab):Ce->Ctx->Stmt->Bool
 |.asg l e,c,a=>Cr (bbu a) λq=>Cr (Qe q.1) λt=>a5k T c l e t q.2
 |.expr e,c,a=>Cr (bbv a) λv=>Uo v&&zx T e c v
 |.iff t x y,c,a=>Cr (bbw a) λq=>Tn q.1&&(zx T t c q.1&&(Vu T x c q.2.1&&Vu T y c q.2.2))
 |.whl t x,c,a=>Cr (bbx a) λq=>(Tn q.1&&q.2.2.isEmpty)&&(zx T t c q.1&&Vu T x c q.2.1)
 |.for_ t it x,c,a=>Cr (bby a) λq=>(tgB c 0 t q.1&&(Hj q.2.1&&q.2.2.2.isEmpty))&&(ax0 T it c q.1 q.2.1&&Vu T x c q.2.2.1)
 |.ret e,c,a=>Cr (a5l a) λv=>Cr v (zx T e c)
 |.brk,_,a=>decide (a5m a=some 0)|.cont,_,a=>decide (a5m a=some 1)|.raise,_,_=>true|.ala e,c,a=>Cr (bbz a) λb=>Cr (Qe b) λr=>Cr (a5l r) λv=>Cr v (zx T e c)
def Vu(T:Tab):mz->Ctx->List Stmt->Bool
 |.nil,_,a=>a.isEmpty|.cons s r,c,a=>match a with|st::rest=>a5n T s c st&&Vu T r c rest|_=>false
end
noncomputable def swB(c:Ctx)(t:Str)(pt Z:Pos)(G:Scope):Bool:=(c.sc.lookup t==some NameKind.local&&pt.line==Z.line)&&!(G.names.any λy=>y.1==t&&(y.2==.local||y.2==.cell))
def ahr(Z:Ea T nm W k c X):swapsWith (.ListComp elt gs sc vp) (some (.Name t pt)) l X.env=pure (swB c t pt vp sc):=by
 have b:X.env.blockKind=.function:=by unfold Env.blockKind;rw[Z.kd];rfl
 show(pure (X.env.blockKind==.function&&X.env.kindOf t==some .local&&pt.line==vp.line&&!(sc.names.any λ(n,k)=>n==t&&(k==.local||k==.cell))):Sem Bool)=_;rw[b];unfold Env.kindOf;rw[Z.sc];simp[swB]
def aru(Z:Ea T nm W k c X)(ht:tgB c 0 (.name i) tg=true)(hv:(afk v).isSome=true)(hw:(bbt e).isSome=true)(h:zx T e c v=true):PS X (.Assign [tg] v p) (tS nm W X.K (.asg (.tg (.name i)) e)):=by
 have nd:X.N.Nodup:=by rw[Z.N];exact Z.nd
 obtain⟨⟨R,gs,sc⟩,hq⟩:=j6.mp hv;obtain⟨y,py,rfl,hy,_⟩:=ahp (nm:=nm) (W:=W) (k:=k) (T:=T) Z ht;obtain⟨⟨_,co⟩,_⟩:=j6.mp hw;obtain⟨vp,rfl⟩:=Y4 hq;have G:=λl=>ahr (T:=T) (nm:=nm) (W:=W) (k:=k) Z (elt:=R) (gs:=gs) (sc:=sc) (vp:=vp) (pt:=py) (t:=y) (l:=l)
 cases hs:swB c y py vp sc with
 |false =>
  rw[hs]at G;exact aqm (jo e Z h).v (akc Z ht).1 (G p.line) rfl rfl
 |true =>
  rw[hs]at G;simp only[swB,aq]at hs;have hl:X.env.scope.names.lookup y=some .local:=by rw[Z.sc];have:=hs.1.1;simpa using this
  rcases co with⟨v,j,t,it,x,rfl⟩|⟨v,j,t,it,i',x,rfl⟩
  .replace h:=jn h
   obtain⟨⟨qv,q0,qk⟩,h1,h⟩:=h;cases h1;replace h:=jn h;obtain⟨⟨tg,qq,qj,as⟩,h2,h⟩:=h;cases Bo h2;simp only[aq,qi]at h;obtain⟨⟨h3,rfl⟩,h4,h5⟩:=h;obtain⟨q1,q2,B,hB,hg,q3,q4⟩:=Tp Z h3;cases q2;exact amd B Z.calm (Tq it Z h4) hg (λC U s H=>(jo x (hB C U s H) h5).v) q1 q3 q4 nd hy hl (G p.line)
  .replace h:=jn h
   obtain⟨⟨qv,q0,qk⟩,h1,h⟩:=h;cases h1;replace h:=jn h;obtain⟨⟨tg,qq,qj,as⟩,h2,h⟩:=h;cases Bo h2;replace h:=jn h;obtain⟨d,h6,h⟩:=h;cases Bo h6;simp only[aq]at h;obtain⟨⟨h3,h7⟩,h4,h8,h5⟩:=h;obtain⟨q1,q2,B,hB,hg,q3,q4⟩:=Tp Z h3;cases q2;exact aew B Z.calm (Tq it Z h4) hg (λC U s H=>(jo i' (hB C U s H) h8).q h7) (λC U s H=>(jo x (hB C U s H) h5).v) q1 q3 q4 nd hy hl (G p.line)
section
variable{T:Tab}{nm:Nm}{W:Jm}{k:Nat}
def ax7(Z:Ea T nm W k c X)(h:a5k T c l e tg v=true):PS X (.Assign [tg] v p) (tS nm W X.K (.asg l e)):=by
 cases l with
 |tg t =>
  simp only[a5k,aq,Bool.or_eq_true]at h;obtain⟨⟨h1,h2⟩,R⟩:=h;rcases h2 with⟨G,U⟩|G
  .have g:=akc (nm:=nm) Z h1
   have sh:(∃n q,tg=.Name n q)\/∃ts k0 q,tg=.Tuple ts k0 q:=by
    cases t with
    |name i =>
     obtain⟨n,z1,_⟩:=jn h1;exact .inl ⟨n,Gx z1⟩
    |names is =>
     obtain⟨ts,z1,_⟩:=jn h1;exact .inr ⟨ts,Tj z1⟩
   rcases sh with⟨n,q,rfl⟩|⟨ts,k0,q,rfl⟩
   .exact aqm (jo e Z R).v g.1 (Ym G _ _ _) rfl rfl
   .have w:azv v=true:=by
     rcases U with U|U
     .cases U
     .exact U
    have w2:swappedStores [.Tuple ts k0 q] v X.env=pure none:=by cases v<;>first|rfl|(cases w;done)
    exact aqm (jo e Z R).v g.1 (Ym G _ _ _) w2 rfl
  .cases t with
   |name i=>rw[aq]at G;exact aru Z h1 G.1 G.2 R|names _=>cases G
 |sub o i =>
  replace h:=jn (show Cr (amq tg) _=true from h);obtain⟨⟨lo,li⟩,h0,h⟩:=h;obtain⟨p',rfl⟩:=Wm h0;simp only[aq]at h;obtain⟨h2,R,G,U⟩:=h;refine aqt (X4 Z.room) (jo e Z R).v (jo o Z G).v (jo i Z U).v λv=>?_
  cases li<;>first|rfl|(cases h2;done)
 |fld o f =>
  replace h:=jn (show Cr (ari tg) _=true from h);obtain⟨⟨lo,n,p'⟩,h0,h⟩:=h;cases acp h0;simp only[aq]at h;obtain⟨⟨h1,h2⟩,R,G⟩:=h;obtain⟨t1,t2⟩:=Z.tab.fl _ _ (jh h2);exact aqu t1 t2 (jo e Z R).v (jo o Z G).v h1
mutual
theorem ax8:∀(s:Ce){c:Ctx}{X:Cx}{a:Stmt},Ea T nm W k c X->c.fn=true->a5n T s c a=true->PS X a (tS nm W X.K s)
 |.asg l e,c,X,a,hc,hf,h=>by
  replace h:=jn h;obtain⟨⟨ts,v⟩,Z,h⟩:=h;obtain⟨p,rfl⟩:=ax1 Z;replace h:=jn h;obtain⟨t,G,h⟩:=h;cases Bo G;exact ax7 hc h
 |.expr e,c,X,a,hc,hf,h=>by
  replace h:=jn h;obtain⟨v,Z,h⟩:=h;obtain⟨p,rfl⟩:=ax2 Z;simp only[aq]at h;exact a3w (jo e hc h.2).v (O7 h.1 _ _ _)
 |.iff t x y,c,X,a,hc,hf,h=>by
  replace h:=jn h;obtain⟨⟨q,l,r⟩,Z,h⟩:=h;obtain⟨p,rfl⟩:=ax3 Z;simp only[aq]at h;exact bap ((jo t hc h.2.1).q h.1) (K1 x hc hf h.2.2.1) (K1 y hc hf h.2.2.2)
 |.whl t x,c,X,a,hc,hf,h=>by
  replace h:=jn h;obtain⟨⟨q,l,r⟩,Z,h⟩:=h;obtain⟨p,rfl⟩:=ax4 Z;simp only[aq,qi]at h;obtain⟨⟨G,rfl⟩,U,R⟩:=h;exact baq (hc.po hf) ((jo t hc U).q G) (K1 x hc hf R)
 |.for_ t it x,c,X,a,hc,hf,h=>by
  replace h:=jn h;obtain⟨⟨tg,qq,l,r⟩,Z,h⟩:=h;obtain⟨p,rfl⟩:=ax5 Z;simp only[aq,qi]at h;obtain⟨⟨G,U,rfl⟩,R,h5⟩:=h;exact bau (hc.po hf) hc.calm (Tq it hc R) (akc hc G).1 (K1 x hc hf h5) U
 |.ret e,c,X,a,hc,hf,h=>by
  replace h:=jn h;obtain⟨v,Z,h⟩:=h;obtain⟨p,rfl⟩:=akf Z;replace h:=jn h;obtain⟨w,rfl,h⟩:=h;exact azw (jo e hc h).v
 |.brk,c,X,a,hc,hf,h=>by
  rcases akg (jh h)with⟨_,p,rfl⟩|⟨z,_⟩|⟨z,_⟩
  .exact bao
  .cases z
  .cases z
 |.cont,c,X,a,hc,hf,h=>by
  rcases akg (jh h)with⟨z,_⟩|⟨_,p,rfl⟩|⟨z,_⟩
  .cases z
  .exact a3x
  .cases z
 |.raise,c,X,a,hc,hf,h=>axl
 |.ala e,c,X,a,hc,hf,h=>by
  replace h:=jn h;obtain⟨b,Z,h⟩:=h;obtain⟨h0,hs,p,rfl⟩:=ax6 Z;replace h:=jn h;obtain⟨r,G,h⟩:=h;cases Bo G;replace h:=jn h;obtain⟨v,U,h⟩:=h;obtain⟨p',rfl⟩:=akf U;replace h:=jn h;obtain⟨w,rfl,h⟩:=h;exact a4w (hc.fnl hf).2 (jo e hc h).v
theorem K1:∀(s:mz){c:Ctx}{X:Cx}{a:List Stmt},Ea T nm W k c X->c.fn=true->Vu T s c a=true->Sy X a (tSs nm W X.K s)
 |.nil,c,X,a,hc,hf,h=>by
  cases qi.mp h;exact aqn
 |.cons s r,c,X,a,hc,hf,h=>by
  cases a with
  |nil=>cases h
  |cons st Z =>
   replace h:(a5n T s c st&&Vu T r c Z)=true:=h;simp only[aq]at h;exact ajs (ax8 s hc hf h.1) (K1 r hc hf h.2)
end
end
structure Def where
 x:Str
 qual:Str
 N:List Str
 ps:List Str
noncomputable def scB(N G:Yf)(Z:Scope):Bool:=
 (decide (Z.kind=.function)&&(!Z.isCoroutine&&!Z.isGenerator))&&((decide N.Nodup&&decide (N.take G.length=G)) &&
 (G.all (λx=>Z.names.lookup x==some .local||Z.names.lookup x==some .cell)&&Z.names.all (λy=>!(y.2==NameKind.free))))
def a5o(h:scB N ps sc=true):Wf N ps sc:=by simp only[scB,aq,dm,Am,jb]at h;obtain⟨⟨Z,R,h3⟩,⟨h4,G⟩,U,h7⟩:=h;exact⟨Z,R,h3,h4,G,λx m=>by have:=U x m;simpa using this,λy m=>by have:=h7 y m;simpa using this⟩
def amv(T:Tab)(d:Def)(F:MW.Fn)(st:Stmt):Bool:=
 (scB d.N d.ps (Bb st)&&(decide (F.np=d.ps.length)&&decide (F.ns=d.N.length)))&&Vu T F.body ⟨d.N,(Bb st).names,true,[]⟩ (Ew st)
set_option tactic.hygienic true in
def ax9{F:MW.Fn}(h:F.run W ds M=.ok d J):ds.length=F.np/\∃Y Z,F.body.den W (ds.map some++List.replicate (F.ns-F.np) none) M=.ok (Y,Z) J/\(Y=.ret d\/(Y=.next/\d=.non)):=by
 unfold MW.Fn.run at h;split at h
 .rename_i U
  obtain⟨⟨Y,Z⟩,C,G,e⟩:=fc h;refine⟨U,Y,Z,?_⟩;cases Y with
  |ret z=>cases e;exact⟨G,.inl rfl⟩|next=>cases e;exact⟨G,.inr ⟨rfl,rfl⟩⟩|brk=>cases e|cont=>cases e
 .cases h
def a5p{Z:MW.Prog}(U:Fun K d.x d.qual st f fd)(hF:Z.fns[i]?=some F)(h:amv T d F st=true)(hT:ard T nm ⟨Z.call n,Z.cls⟩ k P w K mg base):Gf P w K mg base CX0 (k+17) f fd d.ps (spF nm ⟨Z.call (n+1),Z.cls⟩ K F.np i):=by
 simp only[amv,aq,dm]at h;obtain⟨⟨h1,h2,h3⟩,h4⟩:=h;have S:=a5o h1;have go:∀ds M R M',MW.Jm.call ⟨Z.call (n+1),Z.cls⟩ i ds M=.ok R M'->F.run ⟨Z.call n,Z.cls⟩ ds M=.ok R M':=λds M R M' e=>by have e:Z.call (n+1) i ds M=.ok R M':=e;unfold MW.Prog.call at e;rw[hF]at e;exact e
 refine U.ok (k:=k+16) S (λvs H Q E z_=>by obtain⟨ι,M,ds,R,M',_,r,l,e,_⟩:=z_;rw[<-r.length,l,h2]) (λqk A G s H vs Q E hr z_=>?_);obtain⟨ι,M,ds,R,M',SM,r,l,e,q⟩:=z_;have hc:Ea T nm ⟨Z.call n,Z.cls⟩ k ⟨d.N,(Bb st).names,true,[]⟩ (ahb CX0 P w K mg base d.N d.qual (Bb st) f qk A G s H E).nox:=
  ⟨rfl,S.nd,rfl,S.kind,rfl,hr,λ_=>⟨λ_=>rfl,rfl⟩,hT,λn h=>by cases h⟩
 refine⟨_,K1 F.body hc rfl h4,?_⟩;obtain⟨hl,fl,qj,e1,e2⟩:=ax9 (go _ _ _ _ e);refine⟨ι,_,M,fl,qj,M',SM,?_,e1,λqq H' qv le S' R'=>?_⟩
 .unfold L2.start
  exact(u9.aqj r).append (u9.aqi _ (by rw[List.length_replicate,h3,<-r.length,l]))
 .rcases e2 with rfl|⟨rfl,rfl⟩
  .exact λv rv=>q qq H' v le S' rv
  .exact q qq H' _ le S' .non
theorem akh{nm:Nm}{P:Program}{w:World}{K:Fg}{mg:Zs}{base:Heap}{IR:MW.Prog}{T:Tab}{D:Nat->Def}{st:Nat->Stmt}{fa:Nat->Addr}{fd:Nat->FuncData}
 (U:∀i,i<IR.fns.length->Fun K (D i).x (D i).qual (st i) (fa i) (fd i)) (h:∀i F,IR.fns[i]?=some F->amv T (D i) F (st i)=true)
 (G:∀n,(∀i F,IR.fns[i]?=some F->Gf P w K mg base CX0 (17*n) (fa i) (fd i) (D i).ps (spF nm ⟨IR.call n,IR.cls⟩ K F.np i))->ard T nm ⟨IR.call n,IR.cls⟩ (17*n) P w K mg base) :
 ∀n i F,IR.fns[i]?=some F->Gf P w K mg base CX0 (17*n) (fa i) (fd i) (D i).ps (spF nm ⟨IR.call n,IR.cls⟩ K F.np i)
 |0,i,F,hF=>⟨(λvs H Q E z_=>by obtain⟨ι,M,ds,d',M',_,r,l,e,_⟩:=z_;cases e),λA Z s H R us vs Q E hr he hb hv z_=>by obtain⟨ι,M,ds,d',M',_,r,l,e,_⟩:=z_;cases e⟩
 |n+1,i,F,hF=>a5p (U i (ak.mp hF).1) hF (h i F hF) (G n (akh U h G n))
noncomputable def a5q(s:Str):Bool:=s.cps[0]?==some 0
def arv(Z:Yf):Bool:=decide Z.Nodup&&Z.all λs=>!a5q s
noncomputable def afn(Z:Yf)(i:Nat):Str:=match Z[i]? with|some s=>s|none=>⟨#[0,0,i]⟩
def arw(h:arv Rj=true)(i j:Nat)(e:afn Rj i=afn Rj j):i=j:=by
 simp only[arv,aq,dm,jb]at h;have Z:∀k,a5q ⟨#[0,0,k]⟩=true:=λk=>rfl
 unfold afn at e;cases hi:Rj[i]? with
 |some a =>
  rw[hi]at e;cases hj:Rj[j]? with
  |some b =>
   rw[hj]at e;have e:a=b:=e;subst e;obtain⟨l1,G⟩:=ak.mp hi;obtain⟨R,U⟩:=ak.mp hj;exact(Ay h.1).mp (G.trans U.symm)
  |none =>
   rw[hj]at e;have e:a=⟨#[0,0,j]⟩:=e;have:=h.2 a (ao hi);rw[e,Z]at this;cases this
 |none =>
  rw[hi]at e;cases hj:Rj[j]? with
  |some b =>
   rw[hj]at e;have e:(⟨#[0,0,i]⟩:Str)=b:=e;have:=h.2 b (ao hj);rw[<-e,Z]at this;cases this
  |none =>
   rw[hj]at e;have e:(⟨#[0,0,i]⟩:Str)=⟨#[0,0,j]⟩:=e;simpa using e
def a5r(Z:List (Option Addr))(G:Yf)(h:arv G=true):Nm:=⟨λc=>(Z[c]?).join,afn G,arw h⟩
def arx(Z:Yf)(x:Str):Bool:=!(Z.contains x)&&!a5q x
def arz(h:arx Rj x=true)(i:Nat):afn Rj i≠x:=λe=>by
 simp only[arx,aq,Am]at h;unfold afn at e;cases hi:Rj[i]? with
 |some a =>
  rw[hi]at e;have e:a=x:=e;rw[<-e]at h;have:=Ak.mpr (ao hi);rw[this]at h;cases h.1
 |none =>
  rw[hi]at e;have e:(⟨#[0,0,i]⟩:Str)=x:=e;rw[<-e]at h;cases h.2
def AllP{Z:Type}(P:Z->Prop):List Z->Prop
 |x::r=>P x/\AllP P r|[]=>True
def AllP.get(h:AllP P l)(m:x∈l):P x:=by
 induction l with
 |nil=>cases m
 |cons y r Z =>
  rcases cu.mp m with z|z
  .rw[z];exact h.1
  .exact Z h.2 z
section
variable(K:Fg)(mg:Zs)
def afo:List Def->List Stmt->List Addr->List FuncData->Prop
 |d::ds,s::ss,a::as,f::fs=>(Fun K d.x d.qual s a f/\Binds K f d.ps [])/\afo ds ss as fs|[],[],[],[]=>True|_,_,_,_=>False
def Y6:List (Option (Str×Nat))->List Addr->Prop
 |some p::r,a::as=>mg p.1=some (.ref a)/\Y6 r as|none::r,_::as=>Y6 r as|_,_=>True
noncomputable abbrev aya(C:Addr)(mts:List (Str×Nat))(Qf:X9):=AllP λ(q:Nat×Nat)=>∃p a,mts[q.1]?=some p/\Qf[q.2]?=some a/\Meth K C p.1 a
noncomputable abbrev ar0(C:Addr):=AllP λx=>Ka K C x
structure ClF(T:Tab)(Qf:X9)(x:Str)(C:Addr)(cl:MW.Cl):Prop where
 mg:mg x=some (.ref C)
 cs:Cls K C
 ini:∃f,Qf[cl.init]?=some f/\Mk K C f
 me:aya K C T.mts Qf cl.meths
 na:ar0 K C T.Rj
def Rk(T:Tab)(Z:X9):List (Option (Str×Nat))->List (Option Addr)->List MW.Cl->Prop
 |some p::r,some C::cs,cl::cls=>ClF K mg T Z p.1 C cl/\Rk T Z r cs cls|none::r,none::cs,_::cls=>Rk T Z r cs cls|[],[],[]=>True|_,_,_=>False
noncomputable abbrev ar3 :=AllP λ(p:Str×Int)=>∃t,mg p.1=some (.int p.2 t)
noncomputable abbrev ar4 :=AllP λ(p:Str×Str)=>∃t,mg p.1=some (.str p.2 t)
noncomputable abbrev AllB :=AllP λ(x:Str)=>mg x=none
end
def afo.get{Z:List Def}{i:Nat}{d:Def}(h:afo K Z U G fs)(e:Z[i]?=some d):∃s a f,U[i]?=some s/\G[i]?=some a/\fs[i]?=some f/\Fun K d.x d.qual s a f/\Binds K f d.ps []:=by
 induction Z generalizing U G fs i with
 |nil=>simp at e
 |cons d0 Z R =>
  cases U with
  |nil=>exact h.elim|cons s U =>
  cases G with
  |nil=>exact h.elim|cons a G =>
  cases fs with
  |nil=>exact h.elim|cons f fs =>
  cases i with
  |zero=>cases e;exact⟨s,a,f,rfl,rfl,rfl,h.1⟩|succ i=>exact(R h.2 e :)
def Y6.get{l:List (Option (Str×Nat))}{Z:X9}{i:Nat}{p:Str×Nat}{a:Addr}(h:Y6 mg l Z)(e:l[i]?=some (some p))(G:Z[i]?=some a):mg p.1=some (.ref a):=by
 induction l generalizing Z i with
 |nil=>simp at e
 |cons q l U =>
  cases Z with
  |nil=>simp at G|cons b Z =>
  cases i with
  |zero=>cases e;cases G;exact h.1
  |succ i =>
   cases q with
   |none=>exact U h e G|some q=>exact U h.2 e G
def Rk.get{l:List (Option (Str×Nat))}{c:Nat}{p:Str×Nat}(h:Rk K mg T G l Z cls)(e:l[c]?=some (some p)):∃C cl,Z[c]?=some (some C)/\cls[c]?=some cl/\ClF K mg T G p.1 C cl:=by
 induction l generalizing Z cls c with
 |nil=>simp at e
 |cons q l U =>
  cases Z with
  |nil=>cases q<;>exact h.elim|cons C Z =>
  cases cls with
  |nil=>cases q<;>cases C<;>exact h.elim|cons cl cls =>
  cases q with
  |none =>
   cases C with
   |some C=>exact h.elim
   |none =>
    cases c with
    |zero=>cases e
    |succ c =>
     have h:Rk K mg T G l Z cls:=h;exact(U h e :)
  |some q =>
   cases C with
   |none=>exact h.elim
   |some C =>
    cases c with
    |zero=>cases e;exact⟨C,cl,rfl,rfl,h.1⟩|succ c=>exact(U h.2 e :)
theorem Rk.at{Z:List (Option Addr)}{c:Nat}{C:Addr}(h:Rk K mg T U l Z cls)(e:Z[c]?=some (some C)):Cls K C/\ar0 K C T.Rj:=by
 induction l generalizing Z cls c with
 |nil =>
  cases Z with
  |nil=>simp at e|cons C Z=>cases cls<;>exact h.elim
 |cons q l G =>
  cases Z with
  |nil=>simp at e|cons C Z =>
  cases cls with
  |nil=>cases q<;>cases C<;>exact h.elim|cons R cls =>
  cases q with
  |none =>
   cases C with
   |some C=>exact h.elim
   |none =>
    cases c with
    |zero=>cases e
    |succ c =>
     have h:Rk K mg T U l Z cls:=h;exact(G h e :)
  |some q =>
   cases C with
   |none=>exact h.elim
   |some C =>
    cases c with
    |zero=>cases e;exact⟨h.1.cs,h.1.na⟩|succ c=>exact(G h.2 e :)
def ayb(T:Tab):List MW.Fn->List Def->List Stmt->Bool
 |F::Fs,d::ds,s::ss=>amv T d F s&&ayb T Fs ds ss|[],[],[]=>true|_,_,_=>false
noncomputable def npB(Z:List MW.Fn)(f n:Nat):Bool:=match Z[f]? with|some F=>F.np==n|none=>false
def tfB(Z:List MW.Fn)(l:List (Option (Str×Nat))):Bool:=l.zipIdx.all λq=>match q.1 with|some p=>npB Z q.2 p.2|none=>true
def tcB(Z:MW.Prog)(l:List (Option (Str×Nat))):Bool:=l.zipIdx.all λq=>match q.1 with|some p=>(match Z.cls[q.2]? with|some G=>npB Z.fns G.init (p.2+1)|none=>false)|none=>true
noncomputable def bg7(Z:List MW.Cl)(m c f:Nat):Bool:=Z.zipIdx.all λq=>match q.1.meths.lookup m with|none=>true|some g=>q.2==c&&g==f
def tmB(G:MW.Prog)(T:Tab)(mcs:List (Nat×Nat)):Bool:=T.mts.zipIdx.all λq=>match mcs[q.2]? with
 |some Z=>(bg7 G.cls q.2 Z.1 Z.2&&(npB G.fns Z.2 (q.1.2+1)&&arx T.Rj q.1.1))&&((match T.cls[Z.1]? with|some (some _)=>true|_=>false)&&(match G.cls[Z.1]? with|some U=>U.meths.lookup q.2==some Z.2|none=>false))
 |none=>false
def Mi{Z:Type}{l:List Z}{g:Z×Nat->Bool}(h:l.zipIdx.all g=true){x:Z}(e:l[i]?=some x):g (x,i)=true:=by rw[jb]at h;exact h (x,i) (by rw[yd];exact⟨i,by rw[yr,e];simp⟩)
set_option tactic.hygienic true in
def ahs(h:npB fns f n=true):∃F,fns[f]?=some F/\F.np=n:=by
 unfold npB at h;split at h
 .rename_i F e;exact⟨F,e,eq_of_beq h⟩
 .cases h
def afp{G:List MW.Fn}{i:Nat}{F:MW.Fn}(h:ayb T G Z U=true)(e:G[i]?=some F):∃d s,Z[i]?=some d/\U[i]?=some s/\amv T d F s=true:=by
 induction G generalizing Z U i with
 |nil=>simp at e
 |cons F0 G R =>
  cases Z with
  |nil=>cases h|cons d Z =>
  cases U with
  |nil=>cases h|cons s U =>
  replace h:=Bool.and_eq_true_iff.mp h;cases i with
  |zero=>cases e;exact⟨d,s,rfl,rfl,h.1⟩|succ i=>exact(R h.2 e :)
set_option tactic.hygienic true in
def a5s(u:arv T.Rj=true)(hP:ayb T IR.fns Ds ss=true)(h1:tfB IR.fns T.fns=true)(h2:tcB IR T.cls=true)(h3:tmB IR T mcs=true)(aF:afo K Ds ss L fds)(aG:Y6 mg T.fns L)(aC:Rk K mg T L T.cls cas IR.cls)(aV:ar3 mg T.axs)(aS:ar4 mg T.css)(aB:AllB mg O9)(hF:IR.fns[i]?=some F) :
 ∃d a f,Ds[i]?=some d/\L[i]?=some a/\fds[i]?=some f/\Binds K f d.ps []/\Gf P w K mg base CX0 (17*n) a f d.ps (spF (a5r cas T.Rj u) ⟨IR.call n,IR.cls⟩ K F.np i):=by
 let dd:Def:=⟨Str.empty,Str.empty,[],[]⟩
 let sd:Stmt:=.Pass ⟨0,0,0,0⟩
 obtain⟨d,s,g1,g2,g3⟩:=afp hP hF;have all:∀(i:Nat)(F:MW.Fn),IR.fns[i]?=some F->∃d s a f,Ds[i]?=some d/\ss[i]?=some s/\L[i]?=some a/\fds[i]?=some f/\Fun K d.x d.qual s a f/\Binds K f d.ps []/\amv T d F s=true:=λi F e=>by
  refine hG λ_ _k=>?_
  obtain⟨d,s,g1,g2,g3⟩:=afp hP e;obtain⟨s',a,f,Z,S,Y,R,k5⟩:=aF.get g1;rw[g2]at Z;cases Z;apply _k;exact⟨d,s,a,f,g1,g2,S,Y,R,k5,g3⟩
 have df:∀{j:Nat}{a:Addr}{f:FuncData}{d:Def},L[j]?=some a->fds[j]?=some f->Ds[j]?=some d->(L[j]?).getD 0=a/\Ds[j]?.getD dd=d:=λJ U e3=>⟨by rw[J];rfl,by rw[e3];rfl⟩
 obtain⟨qk,q6⟩:∃qk:FuncData,True:=by obtain⟨s',a,f,_⟩:=aF.get g1;exact⟨f,trivial⟩
 have qj:=akh (nm:=a5r cas T.Rj u) (P:=P) (w:=w) (K:=K) (mg:=mg) (base:=base) (IR:=IR) (T:=T) (D:=λi=>Ds[i]?.getD dd) (st:=λi=>ss[i]?.getD sd) (fa:=λi=>(L[i]?).getD 0) (fd:=λi=>(fds[i]?).getD qk)
  (λi hi=>by
   refine hG λ_ _k=>?_
   obtain⟨d,s,a,f,Z,S,Y,R,k5,k6,k7⟩:=all i IR.fns[i] (by simp[hi]);apply _k;rw[Z,S,Y,R];exact k5)
  (λi F e=>by
   refine hG λ_ _k=>?_
   obtain⟨d,s,a,f,Z,S,Y,R,k5,k6,k7⟩:=all i F e;apply _k;rw[Z,S];exact k7)
  (λn G=>?_) n i F hF
 .refine hG λ_ _k=>?_
  obtain⟨d',s',a,f,Z,S,Y,R,k5,k6,k7⟩:=all i F hF;apply _k;refine⟨d',a,f,Z,Y,R,k6,?_⟩;have:=qj;rw[Z,Y,R]at this;exact this
 ·
  have qq:∀{j:Nat}{F:MW.Fn}{a:Addr},IR.fns[j]?=some F->L[j]?=some a->∃(f:FuncData)(d:Def),Binds K f d.ps []/\Gf P w K mg base CX0 (17*n) a f d.ps (spF (a5r cas T.Rj u) ⟨IR.call n,IR.cls⟩ K F.np j)/\PySem.W.keepIn K (.ref a)=true:=fun{j F a} J U=>by
   refine hG λ_ _k=>?_
   obtain⟨d,s,a',f,Z,S,Y,R,k5,k6,k7⟩:=all j F J;rw[U]at Y;cases Y;have g:=G j F J;rw[Z,U,R]at g;apply _k;exact⟨f,d,k6,g,k5.kp⟩
  have addr:∀{j:Nat}{F:MW.Fn},IR.fns[j]?=some F->∃a,L[j]?=some a:=fun{j F} e=>by
   refine hG λ_ _k=>?_
   obtain⟨d,s,a',f,Z,S,Y,_⟩:=all j F e;apply _k;exact⟨a',Y⟩
  refine⟨λf x m e=>?_,λc x m e=>?_,λm x j e=>?_,λf x e=>?_,λx i m=>aV.get m,λx i m=>aS.get m,λx m=>aB.get m⟩
  .refine hG λ_ _k=>?_
   obtain⟨F,J,U⟩:=ahs (Mi h1 e);obtain⟨a,e3⟩:=addr J;obtain⟨fd,d,b,g,kp⟩:=qq J e3;rw[U]at g;apply _k;exact⟨a,fd,d.ps,g,aG.get e e3,kp,b⟩
  .refine hG λ_ _k=>?_
   obtain⟨C,cl,q1,q2,q3⟩:=aC.get e;have z:=Mi h2 e;simp only[q2]at z;obtain⟨F,J,U⟩:=ahs z;obtain⟨f,f1,f2⟩:=q3.ini;obtain⟨fd,d,b,g,kp⟩:=qq J f1;rw[U]at g;apply _k;exact⟨C,f,fd,d.ps,cl,f2,g,q3.mg,b,q2,by show(cas[c]?).join=some C;rw[q1];rfl⟩
  .have z:=Mi h3 e
   simp only at z;split at z
   .rename_i cf q5
    simp only[aq]at z;refine hG λ_ _k=>?_
    obtain⟨⟨z1,z2,z3⟩,z4,z5⟩:=z;obtain⟨F,J,U⟩:=ahs z2;apply _k;split at z4
    .rename_i p hp
     refine hG λ_ _k=>?_
     obtain⟨C,cl,q1,q2,q3⟩:=aC.get hp;rw[q2]at z5;simp only at z5;have mem:(m,cf.2)∈cl.meths:=mem_of_lookup (eq_of_beq z5);obtain⟨p',a,r1,r2,r3⟩:=q3.me.get mem;rw[e]at r1;cases r1;obtain⟨fd,d,b,g,kp⟩:=qq J r2;rw[U]at g;apply _k;refine⟨C,a,fd,d.ps,cf.2,q3.cs,r3,g,b,λc' q7 q0 g' qv=>?_,arz z3⟩;have y:=Mi z1 q0;simp only[qv,aq]at y;have y1:c'=cf.1:=eq_of_beq y.1;exact⟨by show(cas[c']?).join=some C;rw[y1,q1];rfl,eq_of_beq y.2⟩
    .cases z4
   .cases z
  .refine⟨by show x=afn T.Rj f;unfold afn;rw[e],λc C hC=>?_⟩
   have hC:(cas[c]?).join=some C:=hC;have q4:cas[c]?=some (some C):=by
    cases q:cas[c]? with
    |none=>rw[q]at hC;cases hC
    |some o=>rw[q]at hC;cases o with
     |none=>cases hC|some C'=>cases hC;rfl
   obtain⟨y1,y2⟩:=aC.at q4;exact⟨y1,y2.get (ao e)⟩
def fN:afo K [] [] [] []:=trivial
def gN:Y6 mg [] as:=trivial
def gS(h:mg p.1=some (.ref a))(t:Y6 mg r Z):Y6 mg (some p::r) (a::Z):=⟨h,t⟩
def gO(t:Y6 mg r Z):Y6 mg (none::r) (a::Z):=t
def mN:aya K C mts Z []:=trivial
def mC(G:mts[q.1]?=some p)(U:Z[q.2]?=some a)(m:Meth K C p.1 a)(t:aya K C mts Z r):aya K C mts Z (q::r):=⟨⟨p,a,G,U,m⟩,t⟩
def nN:ar0 K C []:=trivial
def nC(h:PySem.W.findIn K (.ref C) x=some none)(t:ar0 K C r):ar0 K C (x::r):=⟨h,t⟩
def cN:Rk K mg T Z [] [] []:=trivial
def cO(t:Rk K mg T Z r cs cls):Rk K mg T Z (none::r) (none::cs) (cl::cls):=t
def cS(h:ClF K mg T Z p.1 C cl)(t:Rk K mg T Z r cs cls):Rk K mg T Z (some p::r) (some C::cs) (cl::cls):=⟨h,t⟩
def vN:ar3 mg []:=trivial
def vC(h:mg p.1=some (.int p.2 t))(q:ar3 mg r):ar3 mg (p::r):=⟨⟨t,h⟩,q⟩
def sN:ar4 mg []:=trivial
def sC(h:mg p.1=some (.str p.2 t))(q:ar4 mg r):ar4 mg (p::r):=⟨⟨t,h⟩,q⟩
def bN:AllB mg []:=trivial
def bC(h:mg x=none)(q:AllB mg r):AllB mg (x::r):=⟨h,q⟩
abbrev Lk(K:Fg)(f:Addr)(x q:Str)(st:Stmt)(oc:Value)(od:Option Addr)(kV dc pm:Value)(an:Option Addr)(cd ct:Value)(sl:Array (Option Value)):Prop:=
 K.lookup f=some ⟨oc,od,.func (PySem.W.fnOf x q (Hr st) (Ew st) (Bb st) .none kV dc pm an cd ct),sl⟩/\PySem.W.codeIn K cd q=true/\PySem.W.keepIn K (.ref f)=true
noncomputable def a5t:Nat->(List Value->Prop)->Prop|0,P=>P []|n+1,P=>∀a,a5t n λZ=>P (a::Z)
theorem aki:∀{us:Zl}{P:List Value->Prop},a5t us.length P->P us|[],_,h=>h|a::us,_,h=>aki (us:=us) (h a)
def fE{kV:Value}(l:Lk K a d.x d.qual s oc od kV dc R U cd Z sl)(r:afo K ds ss as fs)
 (b:∀(kV G R:Value)(U:Option Addr)(qq Z:Value),a5t d.ps.length λus=>bindArgs (PySem.W.fnOf d.x d.qual (Hr s) (Ew s) (Bb s) .none kV G R U qq Z) ⟨us,[]⟩=pure (d.ps.zip us):=by(repeat intro _);rfl) :
 afo K (d::ds) (s::ss) (a::as) (PySem.W.fnOf d.x d.qual (Hr s) (Ew s) (Bb s) .none kV dc R U cd Z::fs):=⟨⟨aqf l.1 l.2.1 l.2.2,(aqf l.1 l.2.1 l.2.2).binds λ_ _ _ _ _ _ _ e=>aki (e▸b _ _ _ _ _ _)⟩,r⟩
noncomputable def akj(K:Fg):Sp:=λG H Q _=>∃(a:Addr)(Z:Xs),G=[.ref a]/\Only H/\Hq K H a (Z.map V.int)/\Z.length<=63/\∀U,Q (.bl true) U
def ayc(o:Only H)(h:Hq K H a vs):aca K H a vs:=by
 rcases h with(h|h)|h
 .rcases o a with z|⟨ob,xs,z⟩<;>rw[z]at h<;>cases h
 .exact .inl h
 .exact .inr h
def ayd(run:∀(Z:Xs),Z.length<=63->∃G,W.call i [.fz (Z.map MW.D.int)] []=.ok (.bl true) G)(h:akj K R H Q E):spF nm W K 1 i R H Q E:=by obtain⟨a,Z,rfl,o,hS,hl,k⟩:=h;obtain⟨G,e⟩:=run Z hl;refine⟨⟨[],[]⟩,[],_,_,G,⟨rfl,Ar,by simp,λn o a h=>by simp at h⟩,.cons (.fz (ayc o hS) (o4.ints Z)) .nil,rfl,e,λqq U v le S' r=>?_⟩;cases r;exact k U
def walk{l:PySem.W.OpenLaw}{K:Params->Fg}(hn:l.most=some 63)(G:d.params.defaults=[])(hY:∀(w:World) (h:Heap),YP w h->(K w.params).In h)(F:∀(w:World) (mg:Zs) (R:Addr) (h:Heap),(K w.params).In h->h.Ns mainGlobals mg->mg d.name=some (.ref R) ->
 ∃U:FuncData,(∀(s:Shared) (u:Value),BindsTo s U ⟨[u],[]⟩ [("script",u)])/\∀Z:Heap,(K w.params).In Z->Z.Ns mainGlobals mg->Gf l.prog w (K w.params) mg Z CX0 170 R U ["script"] (akj (K w.params))) :
 PySem.W.WalkO q loose XP YP l.row.toRowW d [] (λf vs=>PySem.call f vs):=
 L2.awk (n:=63) (k:=170) (x :="script") (CX:=λ_=>CX0) (sp:=λw=>akj (K w.params)) hn (by decide) G ⟨rfl,by decide,by decide⟩ hY F (λ_ _ a ns hl ho hS=>⟨a,ns,rfl,ho,hS,hl,λ_=>rfl⟩) λ_ _ _ _ _ z=>z
end Ck
namespace K81
open PySem L2
noncomputable def top(i:Nat):Stmt:=PySem.Challenge.pw_mapwright_k81_worlds_and_maps_written.main.body.getD i (.Pass ⟨0,0,0,0⟩)
def sts:List Stmt:=[inClass (top 8) 0,inClass (top 8) 1,inClass (top 8) 2,inClass (top 8) 3,inClass (top 8) 2,inClass (top 8) 2,top 9,top 10,top 11,top 12,top 13,top 14,top 39,top 40,top 41,top 42,top 43,top 44,top 45,top 46,top 47,top 16,top 17,top 18,top 19,top 20,top 22,top 23,top 24,top 29,top 30,top 31,top 32,top 33,top 34,top 35,top 36,top 37,top 48,top 49,top 50,top 51,top 52,top 53,top 54,top 55,top 56]
noncomputable def Ds:List Ck.Def:=[⟨"__init__","Pattern.__init__",["self","kinds","doings","table"],["self","kinds","doings","table"]⟩,⟨"kinds","Pattern.kinds",["self"],["self"]⟩,⟨"doings","Pattern.doings",["self"],["self"]⟩,⟨"behind","Pattern.behind",["self","one","other"],["self","one","other"]⟩,⟨"doings","Pattern.doings",["self"],["self"]⟩,⟨"doings","Pattern.doings",["self"],["self"]⟩,⟨"both_ways","both_ways",["table","one","other"],["table","one","other"]⟩,⟨"meeting_pairs","meeting_pairs",["doings","pairs","one","ends","other","more"],["doings"]⟩,⟨"is_way_between","is_way_between",["doings","way","start","goal"],["doings","way","start","goal"]⟩,⟨"check_doings","check_doings",["kinds","doings","ends"],["kinds","doings"]⟩,⟨"check_table","check_table",["doings","table","pairs","one","other"],["doings","table"]⟩,⟨"check_threes","check_threes",["doings","table","pairs","one","other","last","ahead","after"],["doings","table"]⟩,⟨"_law_cell_at","_law_cell_at",["script","k"],["script","k"]⟩,⟨"_law_state","_law_state",["script","k","cell"],["script","k"]⟩,⟨"_law_take","_law_take",["state","many","found","mixed"],["state","many"]⟩,⟨"_law_begun","_law_begun",["state","way","graph","loops","swap","known","kinds","sizes","found","k","one","other"],["state"]⟩,⟨"_law_closed","_law_closed",["begun","found","one","other","row","k","j","first","second","more"],["begun"]⟩,⟨"_law_pattern","_law_pattern",["state","begun","closed","kinds","table","j","k","more"],["state"]⟩,⟨"_law_ways","_law_ways",["pat","kind"],["pat","kind"]⟩,⟨"_law_end","_law_end",["pat","kind","way"],["pat","kind","way"]⟩,⟨"_law_behind","_law_behind",["pat","one","other"],["pat","one","other"]⟩,⟨"is_world","is_world",["pattern","world"],["pattern","world"]⟩,⟨"has_sizes","has_sizes",["pattern","world","sizes"],["pattern","world"]⟩,⟨"has_acts","has_acts",["pattern","world","sizes","acts","doings","act","ends"],["pattern","world"]⟩,⟨"keeps_table","keeps_table",["pattern","world","one","other","both","thing","between"],["pattern","world"]⟩,⟨"led","led",["world","thing","way"],["world","thing","way"]⟩,⟨"is_map","is_map",["pattern","one","other","some"],["pattern","one","other","some"]⟩,⟨"has_rows","has_rows",["one","other","some","row","size","goals"],["one","other","some"]⟩,⟨"first_lack","first_lack",["pattern","one","other","some","doing","ends","here","there","thing","goal"],["pattern","one","other","some"]⟩,⟨"world_text","world_text",["world"],["world"]⟩,⟨"map_text","map_text",["some"],["some"]⟩,⟨"rows_text","rows_text",["rows"],["rows"]⟩,⟨"row_text","row_text",["row"],["row"]⟩,⟨"world_read","world_read",["pattern","text","rows","world"],["pattern","text"]⟩,⟨"map_read","map_read",["pattern","one","other","text","some"],["pattern","one","other","text"]⟩,⟨"rows_read","rows_read",["text"],["text"]⟩,⟨"row_read","row_read",["text"],["text"]⟩,⟨"number_read","number_read",["word"],["word"]⟩,⟨"_law_merged","_law_merged",["pat","marks","acts","changed","k","one","other","first","thing","mark","end","low","high"],["pat","marks","acts"]⟩,⟨"_law_world","_law_world",["state","pat","most","rows","number","kind","some","end","way","acts","k","one","other","marks","low","high","heads","told","row"],["state","pat","most"]⟩,⟨"_law_led","_law_led",["world","thing","way"],["world","thing","way"]⟩,⟨"_law_known","_law_known",["pat","one","other","known","kind","thing","end","more","way","far","here","there"],["pat","one","other","known","kind","thing","end"]⟩,⟨"_law_some_map","_law_some_map",["state","pat","one","other","known","kind","thing","more","turn","k"],["state","pat","one","other"]⟩,⟨"_law_row_text","_law_row_text",["row"],["row"]⟩,⟨"_law_world_text","_law_world_text",["world"],["world"]⟩,⟨"_law_tuples","_law_tuples",["found"],["found"]⟩,⟨"law","law",["script","state","pat","pattern","worlds","world","due","found","some"],["script"]⟩]
noncomputable def tab:Ck.Tab:=⟨[none,none,none,none,none,none,(some ("both_ways",3):Y2),(some ("meeting_pairs",1):Y2),(some ("is_way_between",4):Y2),(some ("check_doings",2):Y2),(some ("check_table",2):Y2),(some ("check_threes",2):Y2),(some ("_law_cell_at",2):Y2),(some ("_law_state",2):Y2),(some ("_law_take",2):Y2),(some ("_law_begun",1):Y2),(some ("_law_closed",1):Y2),(some ("_law_pattern",1):Y2),(some ("_law_ways",2):Y2),(some ("_law_end",3):Y2),(some ("_law_behind",3):Y2),(some ("is_world",2):Y2),(some ("has_sizes",2):Y2),(some ("has_acts",2):Y2),(some ("keeps_table",2):Y2),(some ("led",3):Y2),(some ("is_map",4):Y2),(some ("has_rows",3):Y2),(some ("first_lack",4):Y2),(some ("world_text",1):Y2),(some ("map_text",1):Y2),(some ("rows_text",1):Y2),(some ("row_text",1):Y2),(some ("world_read",2):Y2),(some ("map_read",4):Y2),(some ("rows_read",1):Y2),(some ("row_read",1):Y2),(some ("number_read",1):Y2),(some ("_law_merged",3):Y2),(some ("_law_world",3):Y2),(some ("_law_led",3):Y2),(some ("_law_known",7):Y2),(some ("_law_some_map",4):Y2),(some ("_law_row_text",1):Y2),(some ("_law_world_text",1):Y2),(some ("_law_tuples",1):Y2),(some ("law",1):Y2)],[none,none,none,some ("Pattern",3)],[("kinds",0),("doings",0),("behind",2)],["together","doing_ends","kind_count"],[("STAYING",-1),("MOST_KINDS",3),("MOST_DOINGS",5)],[("BETWEEN_ROWS"," ; "),("EMPTY_ROW","-"),("FIGURES","0123456789")]⟩
noncomputable def mcs:List (Nat×Nat):=[(3,1),(3,2),(3,3)]
def chk:Ck.ayb tab prog.fns Ds sts=true:=by decide+kernel
def bg9:Ck.arv tab.Rj=true:=by decide+kernel
def bha:Ck.tfB prog.fns tab.fns=true:=by decide+kernel
def bhb:Ck.tcB prog tab.cls=true:=by decide+kernel
def bhc:Ck.tmB prog tab mcs=true:=by decide+kernel
open MW
noncomputable def Mj(Z:List F)(k i:Nat):Bool:=match Z[i]? with|some f=>decide (f.a=k)|none=>false
def rz(Z:List F)(k:Nat):List D:=.int (-1)::((List.range Z.length).filter (Mj Z k)).map nD
def By(h:d∈rz Z k):d=.int (-1)\/∃(i:Nat)(f:F),d=.int i/\Z[i]?=some f/\f.a=k:=by
 rcases cu.mp h with q|q
 .exact .inl q
 .obtain⟨i,hi,rfl⟩:=bf.mp q
  obtain⟨R,U⟩:=ue.mp hi;have G:=ik.mp R;have e:Z[i]?=some Z[i]:=by simp[G]
  rw[Mj,e]at U;exact .inr ⟨i,Z[i],rfl,e,by simpa using U⟩
def afq(h:d∈rz Z k):∃i:Int,d=.int i:=by rcases By h with rfl|⟨i,f,rfl,_⟩<;>exact⟨_,rfl⟩
def Y7(Z:hs.length<=5):(rz hs k).length<=6:=by have:=vy (Mj hs k) (List.range hs.length);simp at this;simp[rz];exact a_ this Z
def De(K r:Nat)(Z:List F):D:=.tup [.int K,Gr Z,.ref r]
abbrev sP(K r:Nat)(hs:List F):Option D:=some (De K r hs)
def Tt(K r:Nat)(Z:List F)(M:di):Aw (De K r Z) (.int 0) M=some (.int K):=rfl
def Qz(K r:Nat)(Z:List F)(M:di):Aw (De K r Z) (.int 1) M=some (Gr Z):=rfl
def az4(K r:Nat)(Z:List F)(M:di):Aw (De K r Z) (.int 2) M=some (.ref r):=rfl
def Made.keep(h:Made n r K G Z M)(k:Ba M M'):Made n r K G Z M':=⟨k _ _ h.1,k _ _ h.2⟩
def Made.f2(h:Made n r K G Z M):Rt (.ref n) 2 M=some (.int K):=by simp[Rt,h.1,List.lookup]
def Made.f1(h:Made n r K Z G M):Rt (.ref n) 1 M=some (Gr Z):=by simp[Rt,h.1,List.lookup]
def Made.f0(h:Made n r K G Z M):Rt (.ref n) 0 M=some (.ref r):=by simp[Rt,h.1,List.lookup]
def Ut(Z:1<=m)(h:Made n r K G U M):prog.call m 2 [.ref n] M=.ok (Gr G) M:=by rw[call_of Z rfl];simp[Fn.run,Dh,Km,h.f1]
def afr(hm:1<=m)(U:Z.length<=5){k:Nat}:prog.call m 18 [De K r Z,.int k] M=.ok (.vl (rz Z k)) M:=by
 rw[call_of hm rfl];have R:J5.den (PW (m-1)) [sP K r Z,sI k] M=.ok (.vl (((List.range Z.length).filter (Mj Z k)).map nD)) M:=by
  unfold J5;rw[Xa (n:=Z.length) (M1:=M) (q:=Mj Z k) (g:=nD) (by simp[Qz,Ov]) (a_ U (by decide)) (λi G=>by
   have e:Z[i]?=some Z[i]:=by simp[G]
   refine⟨_,rfl,?_,λ_=>?_⟩
   .simp[-eq_int,Qz,Vg e,Xn,Bu,Mj,G]
   .simp[nD])]
  simp
 have:=aaa (M:=M) [.int (-1)] (((List.range Z.length).filter (Mj Z k)).map nD) (by
  have:=vy (Mj Z k) (List.range Z.length);simp at this⊢
  lia)
 simp[Fn.run,U7,U6,R,this,rz]
def aye(Z:1<=m){k i:Nat}(U:G[i]?=some f):prog.call m 19 [De K r G,.int k,.int i] M=.ok (.int f.b) M:=by
 rw[call_of Z rfl];have R:¬((i:Int)<0):=by lia
 simp[Fn.run,Q7,Q6,R,Qz,Vg U,Xo]
def amw(Z:1<=m){k:Nat}:prog.call m 19 [De K r G,.int k,.int (-1)] M=.ok (.int k) M:=by rw[call_of Z rfl];simp[Fn.run,Q7,Q6]
def aht(hm:1<=m)(hr:M[r']?=some (.dT ie))(hx:-1<=x)(hy:-1<=y)(Z:bothW hs ie x y=some v):prog.call m 20 [De K r' hs,.int x,.int y] M=.ok v M:=by
 rw[call_of hm rfl];unfold bothW at Z
 by_cases U:x=-1
 .rw[bx U]at Z;cases Z
  subst U;have:(-1:Int)+y+1=y:=by lia
  simp[Fn.run,Gm,Gk,this]
 .rw[bw U]at Z
  have nx:¬x<0:=by lia
  by_cases G:y=-1
  .rw[bx G]at Z;cases Z
   subst G;have:x+(-1:Int)+1=x:=by lia
   simp[Fn.run,Gm,Gk,nx,this]
  .rw[bw G]at Z
   have R:¬y<0:=by lia
   simp[Fn.run,Gm,Gk,nx,R,az4,adz hr (aab x y),Z]
end K81
namespace MW
end MW
namespace K81
open MW
noncomputable def zy(Z:List F)(k:Nat):D->Nat
 |.int i=>if i=-1 then k else match Z[i.toNat]? with|some f=>f.b|none=>0
 |_=>0
def wT(Z:List F)(k g:Nat):List D:=(rz Z k).filter λd=>decide (zy Z k d=g)
def acr(h:d∈wT Z k g):d∈rz Z k/\zy Z k d=g:=by have:=ue.mp h;exact⟨this.1,by simpa using this.2⟩
def Bv{i:Nat}(h:Z[i]?=some f):zy Z k (.int i)=f.b:=by
 have:¬((i:Int)=-1):=by lia
 simp[zy,this,h]
def Uu{i:Nat}(h:Z[i]?=some f)(e:f.a=k):.int i∈rz Z k:=by refine bc _ (bf.mpr ⟨i,ue.mpr ⟨ik.mpr (ak.mp h).1,?_⟩,rfl⟩);simp[Mj,h,e]
def az5{i:Nat}(h:Z[i]?=some f)(e:f.a=k):.int i∈wT Z k f.b:=
 ue.mpr ⟨Uu h e,by simp[Bv h]⟩
def a5u(h:d∈wT Z k g):∃i:Int,d=.int i:=afq (acr h).1
def bv(G:List F)(Z:List (List Kx×D))(j:Nat):D->Int
 |.int x=>match bothW G Z x j with|some (.int v)=>v|_=>0
 |_=>0
def akk(P:Ji sz K Z G){j:Nat}(R:Z[j]?=some f)(hd:d∈wT Z k f.a) :
 ∃x:Int,d=.int x/\-1<=x/\bothW Z G x j=some (.int (bv Z G j d))/\.int (bv Z G j d)∈wT Z k f.b:=by
 obtain⟨h1,U⟩:=acr hd;have nj:¬((j:Int)=-1):=by lia
 rcases By h1 with rfl|⟨i,g,rfl,hg,e⟩
 .have e:k=f.a:=by simpa[zy]using U
  have:bothW Z G (-1) j=some (.int j):=by simp[bothW]
  refine⟨-1,rfl,by lia,by simp[bv,this],?_⟩;simp only[bv,this];exact az5 R e.symm
 .rw[Bv hg]at U
  have ni:¬((i:Int)=-1):=by lia
  have:bothW Z G i j=some (.int (ent Z g f)):=by rw[bothW,bw ni,bw nj];exact P.look hg R U
  refine⟨i,rfl,by lia,by simp[bv,this],?_⟩;simp only[bv,this];have mg:=ao hg;have mf:=ao R;rw[J9];rcases P.Dd (P.cl g mg f mf U)with⟨x1,i1⟩|⟨u,hu,x1⟩
  .rw[x1]
   refine ue.mpr ⟨by simp[rz],?_⟩;have:g.a=f.b:=i1.1;simp[zy,<-e,this]
  .rw[x1]
   exact az5 (f:=g.comp f) hu e
noncomputable def ixI(v:Int)(Z:List D):Nat:=(Z.findIdx? λd=>match d with|.int i=>decide (i=v)|_=>false).getD 0
theorem afs(M:di)(v:Int):∀Z:List D,(∀d∈Z,∃i:Int,d=.int i)->Rr M (.int v) Z=some (Z.map λd=>match d with|.int i=>decide (i=v)|_=>false)
 |[],_=>rfl
 |d::l,h=>by
  obtain⟨i,rfl⟩:=h d (by simp);simp[Rr,afs M v l (λx G=>h x (bc _ G))]
theorem aft{Z:Type}(f:Z->Bool):∀l:List Z,(l.map f).findIdx? id=l.findIdx? f
 |[]=>rfl|a::l=>by simp[List.findIdx?_cons,aft f l]
def ar5(Z:∀d∈ds,∃i:Int,d=.int i)(h:.int v∈ds):Hw .index (.vl ds) [.int v] M=.ok (.int (ixI v ds)) M:=by
 have e:adx M (.int v) ds=some (ixI v ds):=by
  rw[adx,afs M v ds Z,su,aft];unfold ixI;cases q:ds.findIdx? (λd=>match d with|.int i=>decide (i=v)|_=>false)with
  |some j=>rfl
  |none =>
   rw[vh]at q;have:=q _ h;simp at this
 simp[Hw,onL,onK,e]
end K81
namespace K81
open MW
def afu(Z:1<=m)(U:d∈rz G k):prog.call m 19 [De K r G,.int k,d] M=.ok (.int (zy G k d)) M:=by
 rcases By U with rfl|⟨i,f,rfl,hf,_⟩
 .rw[amw Z];simp[zy]
 .rw[aye Z hf,Bv hf]
def RS(p K:Nat)(Z:Nat->List D)(M:di):Prop:=∀i,i<K->M[p+i]?=some (.lst (Z i))
noncomputable def lz(p K:Nat):List D:=(List.range K).map λi=>.ref (p+i)
theorem RS.keep(h:RS p K rs M)(s:St t f M M')(Z:t<p):RS p K rs M':=λi G=>s.keep _ _ (i_ (b_ Z x_)) (h i G)
def Pn(Z:i<K):Aw (.vl (lz p K)) (.int i) M=some (.ref (p+i)):=Dg rfl q_ (by simp[lz,Z])
def ar6(R:y=ρ.length)(he:e.den W ρ M=.ok (.int K) M)(hK:K<=100000) :
 (Ex.comp true 1 (.name y) (.Mp e) (.lst .nil)).den W ρ M=.ok (.vl (lz M.length K)) (M++List.replicate K (.lst [])):=by
 subst R;obtain⟨ys,Z,g,U,h2⟩:=Rx (v:=true) (k:=1) (t:=.name ρ.length) (e:=.lst .nil) he hK (λi G Z=>G=lz M.length i/\Z=M++List.replicate i (.lst [])) ⟨rfl,by simp⟩
  (λi G Z hi hI=>by
   obtain⟨rfl,rfl⟩:=hI;refine⟨_,.ref (M.length+i),M++List.replicate i (MO.lst [])++[MO.lst []],rfl,by simp[MW.new],?_,?_⟩
   .simp[lz,vd]
   .simp[List.replicate_succ'])
 rw[g,U,h2];rfl
def rowsOf(G:List F)(Z:List (Nat×Nat))(e:Nat):List D:=Z.flatMap λp=>(wT G p.2 e).map λw=>.tup [.int p.1,.int p.2,w]
def Y8(Z:List F)(G:List (Nat×Nat))(p:Nat×Nat)(e:Nat):rowsOf Z (G++[p]) e=rowsOf Z G e++(wT Z p.2 e).map λw=>.tup [.int p.1,.int p.2,w]:=by simp[rowsOf]
def acs(P:Ji sz K Z R)(U:k<K)(G:d∈rz Z k):zy Z k d<K:=by
 rcases By G with rfl|⟨i,f,rfl,hf,_⟩
 .simpa[zy]using U
 .rw[Bv hf];exact P.V3 f (ao hf)
def ayf{k:Nat}(hm:1<=m)(R:hs.length<=5)(G:ρ[1]?=some (sP K r hs))(U:ρ[5]?=some (sI k))(Z:ρ.length=19) :
 Iv.den (PW m) ρ M=.ok (.vl ((rz hs k).map λw=>.tup [.int (zy hs k w),w])) M:=by
 unfold Iv;rw[Bc (d:=.vl (rz hs k)) (ds:=rz hs k) (M1:=M) (g:=λw=>.tup [.int (zy hs k w),w]) (by simp[G,U,afr hm R]) rfl (dz (Y7 R) (by decide)) (λx hx=>by
  refine⟨_,rfl,?_⟩;have e1:(ρ++List.replicate 1 none).set 19 (some x)=ρ++[some x]:=by rw[Bj];simp[Z]
  rw[e1];have g1:(ρ++[some x])[1]?=some (sP K r hs):=by rw[dq (b_ (by decide) (g_ Z))];exact G
  have g5:(ρ++[some x])[5]?=some (sI k):=by rw[dq (b_ (by decide) (g_ Z))];exact U
  have g9:(ρ++[some x])[19]?=some (some x):=by rw[<-Z];simp
  simp[g1,g5,g9,afu hm hx])]
 rfl
def Low(p:Nat)(M Z:di):Prop:=∀(a:Nat)(o:MO),a<p->M[a]?=some o->Z[a]?=some o
def Low.refl(p:Nat)(M:di):Low p M M:=λ_ _ _ h=>h
def Low.trans(a:Low p M Z)(b:Low p Z M2):Low p M M2:=λx o h e=>b x o h (a x o h e)
theorem Low.set(h:p<=q):Low p M (M.set q o):=λa u Z e=>by rw[um (i_ (b_ Z h))];exact e
noncomputable def trD(n k:Nat)(w:D):D:=.tup [.int n,.int k,w]
def az6(n k:Nat)(w:D):D.tup [.int n,.int k,w]=trD n k w:=rfl
def acu(Z:List F)(G:Nat->List D)(n k j:Nat)(e:Nat):List D:=G e++(((rz Z k).take j).filter λw=>decide (zy Z k w=e)).map (trD n k)
def ar7(Z:List F)(G:Nat->List D)(n k e:Nat):acu Z G n k (rz Z k).length e=G e++(wT Z k e).map (trD n k):=by unfold acu wT;rw[List.take_length]
def ar8(G:Z.length<=5)(h7:(rs e).length<=7):(acu Z rs n k j e).length<=13:=by
 have U:=vy (λw=>decide (zy Z k w=e)) ((rz Z k).take j);have R:=Y7 (k:=k) G;have h3:((rz Z k).take j).length<=(rz Z k).length:=by simp;lia
 simp only[acu,o6,du]
 lia
def aa7{n:Nat}(P:Ji sz K Z ie)(hk:k<K)(h:RS p K rs M)(h7:∀e,e<K->(rs e).length<=7)(hr:rest.length=10) :
 ∃b7 b8 G,Ol.den W ([a0,a1,a2,some (.vl (lz p K)),sI n,sI k,some (.vl ((rz Z k).map λw=>.tup [.int (zy Z k w),w])),b7',b8']++rest) M
  = .ok (.next,[a0,a1,a2,some (.vl (lz p K)),sI n,sI k,some (.vl ((rz Z k).map λw=>.tup [.int (zy Z k w),w])),b7,b8]++rest) G/\RS p K (λe=>rs e++(wT Z k e).map (trD n k)) G/\Low p M G/\G.length=M.length:=by
 have hl:=P.len;obtain⟨qq,G,e,⟨c7,c8,rfl⟩,r1,r2,r3⟩:=Hn (W:=W) (t:=.names [7,8]) (b:=Ep) (it:=.v 6) (d:=.vl ((rz Z k).map λw=>.tup [.int (zy Z k w),w])) (ds:=(rz Z k).map λw=>.tup [.int (zy Z k w),w])
  (ρ:=[a0,a1,a2,some (.vl (lz p K)),sI n,sI k,some (.vl ((rz Z k).map λw=>.tup [.int (zy Z k w),w])),b7',b8']++rest) (M:=M) (M1:=M) (by simp) rfl
  (λj ρ G=>(∃b7 b8:Option D,ρ=[a0,a1,a2,some (.vl (lz p K)),sI n,sI k,some (.vl ((rz Z k).map λw=>.tup [.int (zy Z k w),w])),b7,b8]++rest)/\RS p K (acu Z rs n k j) G/\Low p M G/\G.length=M.length)
  ⟨⟨b7',b8',rfl⟩,λi U=>by rw[h i U];simp[acu],Low.refl _ _,rfl⟩ (λ_ _ _ _=>rfl)
  (λj x ρ M1 hx hI=>by
   obtain⟨⟨c7,c8,rfl⟩,q1,q2,q3⟩:=hI;obtain⟨w,hw,rfl⟩:∃w,(rz Z k)[j]?=some w/\D.tup [.int (zy Z k w),w]=x:=by simpa using hx
   have R:=ao hw;have he:=acs P hk R;have g:=q1 _ he;have ap:=Lg (d:=trD n k w) g (by have:=ar8 (n:=n) (k:=k) (j:=j) hl (h7 _ he);exact c_ this (by decide));refine⟨_,.next,_,M1.set (p+zy Z k w) (.lst (acu Z rs n k j (zy Z k w)++[trD n k w])),Ja _ _ _ _ _,?_,.inl rfl,⟨some (.int (zy Z k w)),some w,rfl⟩,?_,q2.trans (Low.set x_),by simp[q3]⟩
   .show Ep.den W (a0::a1::a2::some (.vl (lz p K))::some (.int n)::some (.int k)::some (.vl ((rz Z k).map λw=>.tup [.int (zy Z k w),w]))::some (.int (zy Z k w))::some w::rest) M1=_
    simp[Ep,Pn he,Lf g,az6,ap]
   .intro i U
    have e1:(rz Z k).take (j+1)=(rz Z k).take j++[w]:=by rw[List.take_succ,hw];rfl
    by_cases z:i=zy Z k w
    .subst z
     rw[w6 g];simp[acu,e1,yc]
    .rw[um (by lia),q1 i U]
     simp[acu,e1,yc,j0 z])
 refine⟨c7,c8,G,e,λi U=>?_,r2,r3⟩;rw[r1 i U];simp only[du];rw[ar7]
structure Gs(t:Nat)(f:Bool)(p:Nat)(M M':di):Prop where
 has:V2 t f M'
 low:∀(a:Nat)(o:MO),a<p->a≠t->M[a]?=some o->M'[a]?=some o
 len:M.length<=M'.length
def Gs.trans(a:Gs t f p M Z)(b:Gs t f p Z M2):Gs t f p M M2:=⟨b.has,λx o h n e=>b.low x o h n (a.low x o h n e),dz a.len b.len⟩
def Gs.afv(s:St t f M M1):Gs t f p M M1:=⟨s.has,λa o _ n e=>s.keep a o n e,s.len⟩
def Low.has(h:V2 t f M)(l:Low p M M1)(Z:t<p):V2 t f M1:=by obtain⟨n,e,o⟩:=h;exact⟨n,l _ _ Z e,o⟩
def Gs.ar9(h:V2 t f M)(l:Low p M M1)(G:t<p)(Z:M.length<=M1.length):Gs t f p M M1:=⟨l.has h G,λa o x _ e=>l a o x e,Z⟩
def Gs.refl(h:V2 t f M):Gs t f p M M:=⟨h,λ_ _ _ _ e=>e,bh _⟩
def Gs.st(g:Gs t f M.length M M1):St t f M M1:=⟨g.len,g.has,λa o n e=>g.low a o (yo e) n e⟩
def Gs.app(h:V2 t f M)(Z:p<=M.length)(X:di):Gs t f p M (M++X):=⟨by obtain⟨n,e,o⟩:=h;exact⟨n,yh e,o⟩,λa o _ _ e=>yh e,by simp⟩
def ayg(G:ρ.length=y)(R:ρ[3]?=some (some (.vl (lz p K))))(h:RS p K rs M)(hK:K<=3) :
 (Ex.comp true 1 (.name y) (.val (.v 3)) (.blt .len (.o (.var y)))).den W ρ M=.ok (.vl (((List.range K).map λi=>(rs i).length).map nD)) M:=by
 subst G;rw[Bc (d:=.vl (lz p K)) (ds:=lz p K) (M1:=M) (g:=λd=>match rm .len [d] M with|.ok x _=>x|_=>.non) (by simp[R]) rfl (by simp[lz];exact a_ hK (by decide)) (λd U=>by
  refine hG λ_ _k=>?_
  obtain⟨i,Z,rfl⟩:=bf.mp U;apply _k;refine⟨_,rfl,?_⟩;simp[len_list (ou (h i (ik.mp Z)))])]
 simp only[jw,lz,o8]
 congr 2
 apply qp;intro i Z;simp[len_list (ou (h i (ik.mp Z))),nD]
structure Rw(hs:List F)(K p:Nat)(ad:List (Nat×Nat))(M:di):Prop where
 rs:RS p K (rowsOf hs ad) M
 kd:∀q∈ad,q.2<K
 le:∀e,e<K->(rowsOf hs ad e).length<=7
 nd:(ad.map (·.1)).Nodup
def ayh(hm:1<=m)(P:Ji sz K Z ie)(hh:V2 t f M)(ht:t<p)(h:Rw Z K p ad M)(hn:∀q∈ad,q.1<n)(hr:rest.length=10) :
 ∃c5 c6 c7 U qq M',Dc.den (PW m) ([sR t,sP K r Z,sI 4,some (.vl (lz p K)),sI n,b5,b6,b7,b8]++rest) M
  = .ok (.next,[sR t,sP K r Z,sI 4,some (.vl (lz p K)),sI n,c5,c6,c7,U]++rest) M'/\Rw Z K p qq M'/\(∀q∈qq,q.1<n+1)/\Gs t f p M M'/\M'.length=M.length:=by
 refine hG λ_ _k=>?_
 have hl:=P.len;have h3:=P.k3;obtain⟨k,M1,e1,l1,s1,n1⟩:=Cd (many:=K) hm hh (by have:=P.k1;exact m_ this) (m_ (c_ h3 (by decide)));have hk:k<K:=o_ l1
 have r1:=h.rs.keep s1 ht;have c9:=ayf (M:=M1) (r:=r) (K:=K) (hs:=Z) (ρ:=[sR t,sP K r Z,sI 4,some (.vl (lz p K)),sI n,sI k,b6,b7,b8]++rest) (k:=k) hm hl rfl rfl (by simp[hr]);have U:=ayg (W:=PW m) (M:=M1) (ρ:=[sR t,sP K r Z,sI 4,some (.vl (lz p K)),sI n,sI k,some (.vl ((rz Z k).map λw=>.tup [.int (zy Z k w),w])),b7,b8]++rest) (y:=19) (by simp[hr]) rfl r1 h3;obtain⟨v,e3,v1,v2⟩:=ao8 (M:=M1) (xs:=(List.range K).map λi=>(rowsOf Z ad i).length) (by have:=P.k1;intro z;have:=mq List.length z;simp at this;exact l_ (o_ l1) (a_ (f_ this) (jq _)));generalize hL:(D.vl (((List.range K).map λi=>(rowsOf Z ad i).length).map nD))=L at e3 U;have G:rm .len [.vl ((rz Z k).map λw=>D.tup [.int (zy Z k w),w])] M1=.ok (.int (rz Z k).length) M1:=by simp[rm,Hv]
 apply _k
 by_cases q:v+(rz Z k).length<8
 .refine hG λ_ _k=>?_
  have q':(v:Int)+((rz Z k).length:Int)<8:=by lia
  obtain⟨d7,d8,M2,e4,r2,lo,n2⟩:=aa7 (W:=PW m) (M:=M1) P (n:=n) hk r1 h.le (a0:=some (.ref t)) (a1:=some (De K r Z)) (a2:=some (.int 4)) (b7':=b7) (b8':=b8) (rest:=rest) hr;apply _k;refine⟨some (.int k),some (.vl ((rz Z k).map λw=>D.tup [.int (zy Z k w),w])),d7,d8,ad++[(n,k)],M2,?_,⟨λi hi=>?_,λq R=>?_,λe he=>?_,?_⟩,λq R=>?_,(Gs.afv s1).trans (Gs.ar9 s1.has lo ht (g_ n2)),n2.trans n1⟩
  .simp only[xm,wy]at c9 U e4⊢
   simp[Dc,Tt,e1,c9,Iu,U,e3,G,q',e4]
  .rw[r2 i hi,Y8];rfl
  .rcases dw.mp R with z|z
   .exact h.kd q z
   .have:q=(n,k):=by simpa using z
    rw[this];exact hk
  .rw[Y8,o6,du]
   have a1:=v1 (rowsOf Z ad e).length (bf.mpr ⟨e,ik.mpr he,rfl⟩);have a2:(wT Z k e).length<=(rz Z k).length:=vy _ _
   simp only
   lia
  .rw[qw]
   refine yu.mpr ⟨h.nd,by simp,λa ha b hb=>?_⟩;refine hG λ_ _k=>?_
   obtain⟨q,R,rfl⟩:=bf.mp ha;have:b=n:=by simpa using hb
   have:=hn q R;apply _k
   lia
  .rcases dw.mp R with z|z
   .have:=hn q z;exact A_ (e_ this)
   .have:q=(n,k):=by simpa using z
    rw[this];exact ph n
 .have q':¬(v:Int)+((rz Z k).length:Int)<8:=by lia
  refine⟨some (.int k),some (.vl ((rz Z k).map λw=>D.tup [.int (zy Z k w),w])),b7,b8,ad,M1,?_,⟨r1,h.kd,h.le,h.nd⟩,λq R=>by have:=hn q R;exact A_ (e_ this),Gs.afv s1,n1⟩;simp only[xm,wy]at c9 U⊢;simp[Dc,Tt,e1,c9,Iu,U,e3,G,q']
theorem akl{M:di}{x:D}:∀{G:List D},(∀y∈G,∃b,wj M y x=some b)->∃bs:List Bool,Rr M x G=some bs/\bs.length=G.length/\∀(i:Nat)(y:D),G[i]?=some y->(bs[i]?).map some=some (wj M y x)
 |[],_=>⟨[],rfl,rfl,λi y h=>by simp at h⟩
 |y::l,h=>by
  obtain⟨b,U⟩:=h y (by simp);obtain⟨bs,R,h2,h3⟩:=akl (λz Z=>h z (bc _ Z));refine⟨b::bs,by simp[Rr,U,R],by simp[h2],λi z Z=>?_⟩;cases i with
  |zero=>simp at Z;subst Z;simp[U]|succ i=>simpa using h3 i z (by simpa using Z)
def a5v(h:∀y∈ds,∃b,wj M y x=some b)(hx:x∈ds)(he:wj M x x=some true):∃j y,adx M x ds=some j/\ds[j]?=some y/\wj M y x=some true:=by
 obtain⟨bs,h1,U,R⟩:=akl h;obtain⟨i,hi,ei⟩:=qm hx;have h4:=R i x (by simp[hi,ei]);rw[he]at h4;obtain⟨b,e1,e2⟩:=cj.mp h4;cases e2;rw[adx,h1,su];cases q:bs.findIdx? id with
 |some j =>
  obtain⟨G,g2,_⟩:=qg.mp q;have g3:ds[j]?=some (ds[j]'(b_ G (f_ U))):=bz (b_ G (f_ U));have Z:=R j _ g3;rw[bz G]at Z;simp only[wz,An]at Z;exact⟨j,_,rfl,g3,by rw[<-Z];simpa using g2⟩
 |none =>
  rw[vh]at q;have:=q true (ao e1);simp at this
def ayi(G:M[p]?=some (.lst ds))(h:∀y∈ds,∃b,wj M y x=some b)(hx:x∈ds)(U:wj M x x=some true):∃(j:Nat)(y:D),Hw .index (.ref p) [x] M=.ok (.int j) M/\ds[j]?=some y/\wj M y x=some true:=by obtain⟨j,y,Z,R,h3⟩:=a5v h hx U;exact⟨j,y,by simp[Hw,onL,onK,W6 (ou G),Z],R,h3⟩
def ayj(Z:M[p]?=some (.lst ds)):P0 .index (.ref p) M=true:=by simp[P0,ou Z]
def asa(M:di)(n k Z G:Nat)(a U:Int):wj M (trD n k (.int a)) (trD Z G (.int U))=some (decide (n=Z)&&(decide (k=G)&&(decide (a=U)&&true))):=by show Rq (Nj M 5) [.int n,.int k,.int a] [.int Z,.int G,.int U]=_;rw[Ej (Jy M 4 n Z) (Ej (Jy M 4 k G) (Ej (aio 4 a U) (show Rq (Nj M 5) [] []=some true from rfl)))]
def Jf(h:d∈rowsOf R ad e):∃(n k:Nat)(x:Int),(n,k)∈ad/\.int x∈wT R k e/\d=trD n k (.int x):=by obtain⟨q,U,G⟩:=List.mem_flatMap.mp h;obtain⟨w,Z,rfl⟩:=bf.mp G;obtain⟨x,rfl⟩:=a5u Z;exact⟨q.1,q.2,x,U,Z,rfl⟩
def amx(h:(n,k)∈ad)(G:w∈wT Z k e):trD n k w∈rowsOf Z ad e:=
 List.mem_flatMap.mpr ⟨(n,k),h,bf.mpr ⟨w,G,rfl⟩⟩
structure Ae(hs:List F)(ie:List (List Kx×D))(ad:List (Nat×Nat))(j:Nat)(g:F)(js:Y3):Prop where
 len:js.length=(rowsOf hs ad g.a).length
 go:∀(i n k:Nat)(x:Int),(rowsOf hs ad g.a)[i]?=some (trD n k (.int x))->(rowsOf hs ad g.b)[js.getD i 0]?=some (trD n k (.int (bv hs ie j (.int x))))
def asb(h:i<l.length):(l++[x]).getD i 0=l.getD i 0:=by rw[dj,dq h,dj]
def Ae.lt(h:Ae U ie ad j g js):∀x∈js,x<(rowsOf U ad g.b).length:=λx R=>by
 obtain⟨i,G,rfl⟩:=qm R;have Z:i<(rowsOf U ad g.a).length:=by rw[<-h.len];exact G
 obtain⟨n,k,y,_,_,e⟩:=Jf (o7 Z);have:=h.go i n k y (by rw[bz Z,e]);rw[dj,bz G]at this;exact(ak.mp this).1
def a5w(hm:1<=m)(P:Ji sz K Z ie)(hr:M[r]?=some (.dT ie)){j:Nat}(h:Rw Z K p ad M)(hj:Z[j]?=some g)(qj:rest.length=6) :
 ∃js:List Nat,Ip.den (PW m) ([a0,sP K r Z,a2,some (.vl (lz p K)),a4,a5,a6,a7,a8,a9,sI j,sI g.a,sI g.b]++rest) M=.ok (.vl (js.map nD)) M /\
  Ae Z ie ad j g js:=by
 have hg:=ao hj;have ha:=P.abv g hg;have hb:=P.V3 g hg;have ga:=h.rs _ ha;have gb:=h.rs _ hb;unfold Ip;obtain⟨ys,R,e,hI⟩:=Gj (W:=PW m) (v:=true) (k:=3) (t:=.names [19,20,21]) (it:=.ix (.v 3) (.v 11)) (e:=.bm .index (.ix (.v 3) (.v 12)) (.o (.tup (.q (.v 19) (.v 20) (.call 20 (.q (.v 1) (.v 21) (.v 10)))))))
  (ρ:=[a0,sP K r Z,a2,some (.vl (lz p K)),a4,a5,a6,a7,a8,a9,sI j,sI g.a,sI g.b]++rest) (M:=M) (M1:=M) (d:=.ref (p+g.a)) (ds:=rowsOf Z ad g.a) (by simp[Pn ha]) (ou ga) (by have:=h.le _ ha;exact a_ this (by decide))
  (λi xs R=>R=M/\∃js:List Nat,xs=js.map nD/\js.length=i/\∀(U n k:Nat)(x:Int),U<i->(rowsOf Z ad g.a)[U]?=some (trD n k (.int x))->(rowsOf Z ad g.b)[js.getD U 0]?=some (trD n k (.int (bv Z ie j (.int x))))) ⟨rfl,[],rfl,rfl,by simp⟩ (λi xs R h=>by rw[h.1];exact ou ga)
  (λi y xs R hy hI=>by
   obtain⟨rfl,js,rfl,q1,q2⟩:=hI;obtain⟨n,k,x,h1,h2,rfl⟩:=Jf (ao hy);obtain⟨x',z,hx,hv,Zi⟩:=akk P hj h2;cases z;obtain⟨jj,yy,e1,e2,e3⟩:=ayi (x:=trD n k (.int (bv Z ie j (.int x)))) gb (λy hy=>by obtain⟨n',k',qk,_,_,rfl⟩:=Jf hy;exact⟨_,asa _ _ _ _ _ _ _⟩) (amx h1 Zi) (by rw[asa];simp);refine⟨_,.int jj,R,rfl,?_,rfl,js++[jj],by simp[nD],by simp[q1],λU n' k' x' qq G=>?_⟩
   .have hl:rest.length=6:=qj
    match rest,hl with
    |[r0,r1,r2,r3,r4,r5],_ =>
     show(Ex.bm .index (.ix (.v 3) (.v 12)) (.o (.tup (.q (.v 19) (.v 20) (.call 20 (.q (.v 1) (.v 21) (.v 10))))))).den _ [a0,sP K r Z,a2,D.vl (lz p K),a4,a5,a6,a7,a8,a9,sI j,sI g.a,sI g.b,r0,r1,r2,r3,r4,r5,sI n,sI k,sI x] R=_;simp[Pn hb,ayj gb,aht hm hr hx (show(-1:Int)<=j by lia) hv,az6,e1]
   .by_cases z:U<i
    .rw[asb (b_ z (g_ q1))];exact q2 U n' k' x' z G
    .have z:U=i:=u_ (z_ qq) (s_ z)
     subst z;rw[hy]at G;simp only[trD,An,D.tup.injEq,List.cons.injEq,D.int.injEq,Bf,and_true]at G;obtain⟨rfl,rfl,rfl⟩:=G;have ej:(js++[jj]).getD U 0=jj:=by rw[<-q1];simp[dj]
     rw[ej,e2];obtain⟨n3,k3,x3,_,_,rfl⟩:=Jf (ao e2);rw[asa]at e3;simp only[An,aq,dm,and_true]at e3;obtain⟨rfl,rfl,rfl⟩:=e3;rfl)
 obtain⟨rfl,js,rfl,q1,q2⟩:=hI;exact⟨js,by rw[e];rfl,q1,λi n k x h=>q2 i n k x (ak.mp h).1 h⟩
noncomputable def up(G:Nat->List Nat)(i:Nat)(Z:Y3):Nat->List Nat:=λe=>if e=i then Z else G e
noncomputable def Jb(Z G:Nat)(l:Y3):List Nat:=l.map λo=>if o=G then Z else o
theorem akm{Z G:Nat}(h:Z<G):∀l:List Nat,(Jb Z G l).sum<=l.sum
 |[]=>bh _
 |a::l=>by
  have:=akm h l;simp only[Jb,gr,List.sum_cons]at this⊢;split<;>omega
theorem akn{U Z:Nat}(h:U<Z):∀{l:Y3},Z∈l->(Jb U Z l).sum<l.sum
 |a::l,hm=>by
  have G:=akm h l;simp only[Jb,gr,List.sum_cons]at G⊢
  by_cases z:a=Z
  .rw[bx z];exact b_ (G_ h) (a_ (v_ (g_ z)) (w_ G))
  .have:=akn h (show Z∈l from by simpa[j0 z]using hm)
   simp only[Jb]at this;rw[bw z];exact H_ this
noncomputable def Zu(K:Nat)(Z:Nat->List Nat):Nat:=((List.range K).map λi=>(Z i).sum).sum
theorem asd{Z:Nat->List Nat}{b:Nat}{ns:Y3}(h:ns.sum<(Z b).sum):∀K,Zu K (up Z b ns)<=Zu K Z/\(b<K->Zu K (up Z b ns)<Zu K Z)
 |0=>⟨bh _,λz=>absurd z (uf _)⟩
 |K+1=>by
  obtain⟨G,U⟩:=asd h K;simp only[Zu,vd,qw,List.sum_append,gr,List.map_nil,List.sum_cons,List.sum_nil]at G U⊢
  by_cases z:K=b
  .subst z
   have e:up Z K ns K=ns:=by simp[up]
   rw[e];constructor
   .exact e_ (c_ (v_ G) (H_ (G_ h)))
   .intro _;exact c_ (v_ G) (H_ (G_ h))
  .have e:up Z b ns K=Z K:=by simp[up,z]
   rw[e];constructor
   .exact v_ G
   .intro q;have:=U (by lia);exact G_ this
structure Mk(t pm K:Nat)(L:Nat->Nat)(ms:Nat->List Nat)(M:di):Prop where
 ex:∃mds:List D,M[pm]?=some (.lst mds)/\mds.length=K/\∀i,i<K->∃d,mds[i]?=some d/\gm M d=some ((ms i).map nD)/\∀a,d=.ref a->t<a/\a<pm
 len:∀i,i<K->(ms i).length=L i
 lt:∀i,i<K->∀x∈ms i,x<L i
 fx:∀i,i<K->∀x∈ms i,(ms i).getD x 0=x
def Y9(h:gm M d=some ds)(k:∀a o,d=.ref a->M[a]?=some o->Z[a]?=some o):gm Z d=some ds:=by
 cases d with
 |ref a =>
  simp only[gm]at h⊢;cases e:M[a]? with
  |none=>rw[e]at h;cases h|some o=>rw[e]at h;rw[k a o rfl e];exact h
 |vl G=>exact h|_=>cases h
def Mk.frame(h:Mk t G K L ms M)(k:∀(a:Nat) (o:MO),t<a->a<=G->M[a]?=some o->M'[a]?=some o)(ht:t<G):Mk t G K L ms M':=by obtain⟨Z,R,h2,h3⟩:=h.ex;refine⟨⟨Z,k _ _ ht (bh _) R,h2,λi hi=>?_⟩,h.len,h.lt,h.fx⟩;obtain⟨d,g1,g2,U⟩:=h3 i hi;exact⟨d,g1,Y9 g2 λa o e q=>k a o (U a e).1 (zr (U a e).2) q,U⟩
def Mk.row(h:Mk t pm K L G M)(U:i<K):∃d,Aw (.ref pm) (.int i) M=some d/\gm M d=some ((G i).map nD):=by obtain⟨qq,Z,h2,h3⟩:=h.ex;obtain⟨d,g1,R,_⟩:=h3 i U;exact⟨d,Dg (ou Z) q_ (by simpa using g1),R⟩
def Rm{l:Y3}(h:gm M d=some (l.map nD))(Z:x<l.length):Aw d (.int x) M=some (.int (l.getD x 0)):=
 Dg h q_ (by simp[Z,nD])
def getD_mem'{l:Y3}(Z:x<l.length):l.getD x 0∈l:=by rw[dj,bz Z];exact o7 Z
set_option tactic.hygienic true in
theorem Mk.set(h:Mk t J K L U M)(u:i<K)(y:ns.length=L i)(h2:∀x∈ns,x<L i)(h4:∀x∈ns,ns.getD x 0=x)(ht:t<J) :
 ∃o,setOp (.ref J) (.int i) (.vl (ns.map nD)) M=some (M.set J o)/\Mk t J K L (up U i ns) (M.set J o):=by
 obtain⟨G,R,C,g3⟩:=h.ex;refine⟨.lst (G.set i (.vl (ns.map nD))),?_,⟨G.set i (.vl (ns.map nD)),w6 R,by simp[C],λe Y=>?_⟩,λe Y=>?_,λe Y x Z=>?_,λe Y x Z=>?_⟩
 .have:=abh (d:=.vl (ns.map nD)) (i:=i) R q_ (m_ (b_ u (g_ C)))
  simpa using this
 .by_cases z:e=i
  .subst z
   exact⟨.vl (ns.map nD),by simp[C,Y],by simp[up],λa q=>by cases q⟩
  .obtain⟨d,k1,k2,S⟩:=g3 e Y
   refine⟨d,by rw[uz (j0 z)];exact k1,?_,S⟩;have:up U i ns e=U e:=by simp[up,z]
   rw[this];exact Y9 k2 λa o q w=>by rw[um (by have:=(S a q).2;exact i_ this)];exact w
 .unfold up;split
  .rename_i z;rw[z];exact y
  .exact h.len e Y
 .unfold up at Z;split at Z
  .rename_i z;rw[z];exact h2 x Z
  .exact h.lt e Y x Z
 .unfold up at Z⊢;split at Z
  .rename_i z;rw[bx z];exact h4 x Z
  .rename_i z;rw[bw z];exact h.fx e Y x Z
def getD_map{α:Type}{l:Y3}{f:Nat->Nat}{x:Nat}(h:x<l.length):(l.map f).getD x 0=f (l.getD x 0):=by simp[dj,iz,bz h]
set_option tactic.hygienic true in
def ako(J:∀x∈l,l.getD x 0=x)(lt:∀x∈l,x<l.length)(Z:lo∈l):∀x∈Jb lo G l,(Jb lo G l).getD x 0=x:=λx C=>by
 obtain⟨o,U,e⟩:=bf.mp C;have Y:x∈l:=by
  split at e
  .rw[<-e];exact Z
  .rw[<-e];exact U
 unfold Jb;rw[getD_map (α:=Nat) (lt x Y),J x Y]
 by_cases z:x=G
 .rw[bx z]
  split at e
  .exact e
  .rename_i w;exact absurd (e.trans z) w
 .rw[bw z]
def Cg(G:Nat->List Nat)(g:F)(Z:Y3):Prop:=∀x y,x<Z.length->y<Z.length->(G g.a).getD x 0=(G g.a).getD y 0->(G g.b).getD (Z.getD x 0) 0=(G g.b).getD (Z.getD y 0) 0
structure Ac(q:Nat)(hs:List F)(L:Nat->Nat)(as:List (List Nat))(M:di):Prop where
 at_:M[q]?=some (.lst (as.map λjs=>.vl (js.map nD)))
 len:as.length=hs.length
 ok:∀(j:Nat)(g:F)(js:Y3),hs[j]?=some g->as[j]?=some js->js.length=L g.a/\∀x∈js,x<L g.b
def Ac.get(h:Ac q hs L Z M){j:Nat}(R:hs[j]?=some g):∃G,Z[j]?=some G/\Aw (.ref q) (.int j) M=some (.vl (G.map nD))/\G.length=L g.a/\∀x∈G,x<L g.b:=by
 have hl:=(ak.mp R).1;have U:j<Z.length:=by rw[h.len];exact hl
 have e:Z[j]?=some Z[j]:=bz U;exact⟨_,e,Dg (ou h.at_) q_ (by simp[e]),h.ok j g _ R e⟩
def asf(h:M[n]?=some (.dK Z)):Hw .get (.ref n) [.int k,d] M=.ok ((v7 Z (.inl k)).getD d) M:=by simp[Hw,onL,onK,h]
def az7(h:M[n]?=some (.dK Z)):P0 .get (.ref n) M=true:=by simp[P0,gm,h]
def ash(h:M[n]?=some (.dK Z))(G:Z.length<100000):setOp (.ref n) (.int k) d M=some (M.set n (.dK (Cw Z (.inl k) d))):=by simp[setOp,h,G]
def asi[DecidableEq U]{Z:List (U×D)}(h:v7 Z k=some v):∃p∈Z,p.2=v:=by unfold v7 at h;obtain⟨p,G,R⟩:=cj.mp h;exact⟨p,List.mem_of_find?_eq_some G,R⟩
def ayk[DecidableEq R]{G:List (R×D)}(h:p∈Cw G k v):p∈G\/p.2=v:=by
 unfold Cw at h;split at h
 .obtain⟨q,U,Z⟩:=bf.mp h
  split at Z
  .rw[<-Z];exact .inr rfl
  .rw[<-Z];exact .inl U
 .rcases dw.mp h with z|z
  .exact .inl z
  .have:p=(k,v):=by simpa using z
   rw[this];exact .inr rfl
def K3[DecidableEq Z](p:Z×D)(r:List (Z×D))(k:Z):v7 (p::r) k=if p.1=k then some p.2 else v7 r k:=by
 unfold v7
 by_cases h:p.1=k
 .simp[qu,h]
 .simp[qu,h]
theorem Za{U:Type}[DecidableEq U]{k k':U}{v:D}:∀{G:List (U×D)},(∃p∈G,p.1=k)->v7 (G.map λp=>if p.1=k then(p.1,v)else p) k'=if k'=k then some v else v7 G k'
 |p::r,h=>by
  rw[gr,K3,K3]
  by_cases a:p.1=k
  .rw[bx a]
   by_cases b:k'=k
   .simp[a,b]
   .have c:¬p.1=k':=λz=>b (z.symm.trans a)
    rw[bw c,bw b,bw c]
    by_cases d:∃p∈r,p.1=k
    .rw[Za d,bw b]
    .congr 1
     conv=>rhs;rw[<-List.map_id r]
     apply qp;intro q hq;rw[bw λz=>d ⟨q,hq,z⟩];rfl
  .rw[bw a]
   have d:∃p∈r,p.1=k:=by
    obtain⟨q,Z,R⟩:=h;rcases cu.mp Z with rfl|Z
    .exact absurd R a
    .exact⟨q,Z,R⟩
   rw[Za d]
   by_cases b:k'=k
   .have c:¬p.1=k':=λz=>a (z.trans b)
    rw[bw c];simp[b]
   .simp[b]
theorem afw{Z:Type}[DecidableEq Z]{k k':Z}{v:D}:∀{G:List (Z×D)},(∀p∈G,p.1≠k)->v7 (G++[(k,v)]) k'=if k'=k then some v else v7 G k'
 |[],_=>by
  rw[wy,K3]
  by_cases b:k'=k
  .simp[b]
  .simp[b,j0 b]
 |p::r,h=>by
  rw[xm,K3,K3,afw (λq U=>h q (bc _ U))];have a:=h p (by simp)
  by_cases b:k'=k
  .have c:¬p.1=k':=λz=>a (z.trans b)
   rw[bw c];simp[b]
  .simp[b]
def Tu[DecidableEq G](Z:List (G×D))(k k':G)(v:D):v7 (Cw Z k v) k'=if k'=k then some v else v7 Z k':=by
 unfold Cw
 by_cases h:(Z.any λp=>decide (p.1=k))=true
 .rw[bx h]
  exact Za (by simpa using h)
 .rw[bw h]
  exact afw (λp U z=>h (Ax.mpr ⟨p,U,by simpa using z⟩))
def akp[DecidableEq Z](G:List (Z×D))(k:Z)(v:D):(Cw G k v).length<=G.length+1:=by unfold Cw;split<;>simp
def acv(M:di)(a b:Nat):wj M (.int a) (.int b)=some (decide (a=b)):=Bu M a b
def Fm(G n:Nat)(M Z:di):Prop:=∀(a:Nat)(o:MO),a≠G->a<n->M[a]?=some o->Z[a]?=some o
def akq(M:di)(a b:Nat):rm .min [.int a,.int b] M=.ok (.int (min a b:Nat)) M:=by
 show Res.ok (D.int (if(b:Int)<(a:Int)then(b:Int)else(a:Int))) M=_
 by_cases h:b<a
 .rw[bx (m_ h),Nat.min_eq_right (e_ h)]
 .rw[bw (by lia),Nat.min_eq_left (s_ h)]
def acw(M:di)(a b:Nat):rm .max [.int a,.int b] M=.ok (.int (max a b:Nat)) M:=by
 show Res.ok (D.int (if(a:Int)<(b:Int)then(b:Int)else(a:Int))) M=_
 by_cases h:a<b
 .rw[bx (m_ h),Nat.max_eq_right (e_ h)]
 .rw[bw (by lia),Nat.max_eq_left (s_ h)]
def afx{lo hi:Nat}(hx:(Ex.ix (.var v) (.var x)).den W ρ M=.ok d M)(hd:gm M d=some (l.map nD))(hl:l.length<=100000)(hy:y=ρ.length)(Z:ρ[a]?=some (sI lo))(R:ρ[b]?=some (sI hi)) :
 (Ex.comp true 1 (.name y) (.val (.ix (.var v) (.var x))) (.ite (.cmp .eq (.var y) (.var b)) (.var a) (.var y))).den W ρ M=.ok (.vl ((Jb lo hi l).map nD)) M:=by
 subst hy;have ha:=(ak.mp Z).1;have hb:=(ak.mp R).1;rw[Bc (d:=d) (ds:=l.map nD) (M1:=M) (g:=λd=>match d with|.int o=>nD (if o.toNat=hi then lo else o.toNat)|_=>.non) hx hd (by simpa using hl) (λz hz=>by
  obtain⟨o,ho,rfl⟩:=bf.mp hz;refine⟨_,rfl,?_⟩;have e1:(ρ++List.replicate 1 none).set ρ.length (some (nD o))=ρ++[sI o]:=by rw[Bj];simp[nD]
  have U:(ρ++[some (D.int o)])[a]?=some (sI lo):=by rw[dq ha];exact Z
  have G:(ρ++[some (D.int o)])[b]?=some (sI hi):=by rw[dq hb];exact R
  have g3:(ρ++[some (D.int o)])[ρ.length]?=some (sI o):=by simp
  rw[e1]
  by_cases z:o=hi
  .subst z;simp[-eq_int,U,G,g3,acv,nD]
  .simp[-eq_int,U,G,g3,acv,z,nD])]
 simp[Jb,nD]
def ayl{lo hi:Nat}(hx:(Ex.ix (.v 1) (.var x)).den W ρ M=.ok d M)(hd:gm M d=some (l.map nD))(R:l.length<=100000)(G:y=ρ.length)(qq:12<y)(Z:ρ[11]?=some (sI lo))(U:ρ[12]?=some (sI hi)) :
 (Ex.comp true 1 (.name y) (.val (.ix (.v 1) (.var x))) (.ite (.cmp .eq (.var y) (.v 12)) (.v 11) (.var y))).den W ρ M=.ok (.vl ((Jb lo hi l).map nD)) M:=afx hx hd R G Z U
structure Fd(dd:Nat)(a b js:Y3)(n:Nat)(M:di):Prop where
 ex:∃kv:List (Kx×D),M[dd]?=some (.dK kv)/\kv.length<=n/\(∀p∈kv,∃e:Nat,p.2=.int e/\e∈b)/\∀i,i<n->v7 kv (.inl ((a.getD i 0:Nat):Int))=some (.int ((b.getD (js.getD i 0) 0:Nat):Int))
def asj{j:Nat}(mk:Mk t U K L G M)(ac:Ac q hs L as M)(hj:hs[j]?=some g)(ga:g.a<K)(gb:g.b<K)(hd:M[dd]?=some (.dK []))(z1:U<dd)(zw:q<dd)(z2:q≠U)(ht:t<U)(hL:∀e,e<K->L e<=7) :
 ∃qq Z,Mz.den W [sP K r hs,sR U,sR q,b3,sI j,sI g.a,sI g.b,sR dd,b8,b9,b10,Lx,Tv] M=.ok (.next,qq) Z /\
  ∃c3 c7 c8 c9 R qk qj,qq=[sP K r hs,sR U,sR q,c3,sI j,sI g.a,sI g.b,c7,c8,c9,R,qk,qj]/\Fm U dd M Z/\M.length<=Z.length /\
   ((c3=b3/\Mk t U K L G Z/\∀js,as[j]?=some js->Cg G g js)\/(c3=some (.bl true)/\∃Ng,Mk t U K L Ng Z/\Zu K Ng<Zu K G)):=by
 obtain⟨js,ej,_,lj,rj⟩:=ac.get hj;obtain⟨da,fa,la⟩:=mk.row ga;have zq:=mk.len _ ga;have q5:=hL _ ga;refine ad2 (W:=W) (t:=.name 8) (b:=Cm) (it:=.blt .len (.o (.ix (.v 1) (.v 5)))) (n:=L g.a) (M1:=M) ?_ (a_ q5 (by decide))
  (λi ρ Z=>(∃b8 b9 b10,ρ=[sP K r hs,sR U,sR q,b3,sI j,sI g.a,sI g.b,sR dd,b8,b9,b10,Lx,Tv])/\Mk t U K L G Z/\Fd dd (G g.a) (G g.b) js i Z/\Low dd M Z/\Z.length=M.length)
  (λqq Z=>∃c3 c7 c8 c9 R qk qj,qq=[sP K r hs,sR U,sR q,c3,sI j,sI g.a,sI g.b,c7,c8,c9,R,qk,qj]/\Fm U dd M Z/\M.length<=Z.length /\
   ((c3=b3/\Mk t U K L G Z/\∀js,as[j]?=some js->Cg G g js)\/(c3=some (.bl true)/\∃Ng,Mk t U K L Ng Z/\Zu K Ng<Zu K G)))
  ⟨⟨b8,b9,b10,rfl⟩,mk,⟨[],hd,bh _,by simp,by simp⟩,Low.refl _ _,rfl⟩ (fun ρ Z h=>?_) (λi ρ M1 hi hI=>?_)
 .have e:=len_list la
  simp only[du,zq]at e;simp[fa,e]
 .obtain⟨⟨c8,c9,R,rfl⟩,h1,⟨kv,_,_,_,k4⟩,h3,h4⟩:=h
  refine⟨b3,_,c8,c9,R,Lx,Tv,rfl,λa o _ x e=>h3 a o x e,g_ h4,.inl ⟨rfl,h1,λz0 e' x y hx hy zz=>?_⟩⟩;rw[ej]at e';cases e';have g1:=k4 x (b_ hx (f_ lj));have g2:=k4 y (b_ hy (f_ lj));rw[zz,g2]at g1;simp only[An,D.int.injEq]at g1;exact(Bf.mp g1).symm
 .obtain⟨⟨c8,c9,R,rfl⟩,h1,⟨kv,k1,k2,k3,k4⟩,h3,h4⟩:=hI
  obtain⟨da,fa,la⟩:=h1.row ga;obtain⟨db,fb,lb⟩:=h1.row gb;have zk:Ac q hs L as M1:=⟨h3 _ _ zw ac.at_,ac.len,ac.ok⟩;obtain⟨z0,q7,fj,_,_⟩:=zk.get hj;rw[ej]at q7;cases q7;have q0:=Rm la (show i<(G g.a).length by rw[zq];exact hi);have q1:Aw (.vl (js.map nD)) (.int i) M1=some (.int (js.getD i 0)):=Rm rfl (b_ hi (g_ lj));have hy:js.getD i 0<(G g.b).length:=by rw[h1.len _ gb];exact rj _ (getD_mem' (b_ hi (g_ lj)))
  generalize hy0:js.getD i 0=y at q1 hy;have q2:=Rm lb hy;have hz:=getD_mem' hy;generalize hx0:(G g.a).getD i 0=x at q0;generalize hz0:(G g.b).getD y 0=z at q2 hz;have gt:=asf (k:=(x:Int)) (d:=.int z) k1;have ty:=az7 k1;have qv:((v7 kv (.inl (x:Int))).getD (.int z)=.int z)->∃q6 fl qq Z,(Tg.name 8).put (.int i) [sP K r hs,sR U,sR q,b3,sI j,sI g.a,sI g.b,sR dd,c8,c9,R,Lx,Tv]=some q6/\Cm.den W q6 M1=.ok (fl,qq) Z /\
   (((fl=.next\/fl=.cont)/\(∃b8 b9 b10,qq=[sP K r hs,sR U,sR q,b3,sI j,sI g.a,sI g.b,sR dd,b8,b9,b10,Lx,Tv])/\Mk t U K L G Z/\Fd dd (G g.a) (G g.b) js (i+1) Z/\Low dd M Z/\Z.length=M.length) \/
     (fl=.brk/\∃c3 c7 c8 c9 R qk qj,qq=[sP K r hs,sR U,sR q,c3,sI j,sI g.a,sI g.b,c7,c8,c9,R,qk,qj]/\Fm U dd M Z/\M.length<=Z.length /\
      ((c3=b3/\Mk t U K L G Z/\∀js,as[j]?=some js->Cg G g js)\/(c3=some (.bl true)/\∃Ng,Mk t U K L Ng Z/\Zu K Ng<Zu K G)))):=λhg=>by
   rw[hg]at gt;have st:=ash (k:=(x:Int)) (d:=.int z) k1 (by have:=hL _ ga;exact c_ k2 (b_ hi (a_ q5 (by decide))));refine⟨_,.next,_,M1.set dd (.dK (Cw kv (.inl (x:Int)) (.int z))),rfl,?_,.inl ⟨.inl rfl,⟨some (.int i),sI x,sI z,rfl⟩,h1.frame (λa o _ ha e=>by rw[um (i_ (c_ ha z1))];exact e) ht,⟨_,w6 k1,?_,?_,λi' z3=>?_⟩,h3.trans (Low.set (bh _)),by simp[h4]⟩⟩
   .simp[-eq_int,Cm,fa,q0,fb,fj,q1,q2,ty,gt,acv,st]
   .have:=akp kv (.inl (x:Int)) (.int z);exact a_ this (v_ k2)
   .intro p hp
    rcases ayk hp with w|w
    .exact k3 p w
    .exact⟨z,w,hz⟩
   .rw[Tu]
    by_cases w:(G g.a).getD i' 0=x
    .rw[w,bx rfl]
     by_cases w2:i'=i
     .subst w2;rw[hy0,hz0]
     .have g1:=k4 i' (by lia)
      rw[w]at g1;rw[g1]at hg;simp only[zj]at hg;rw[hg]
    .have w2:i'≠i:=λq=>w (by rw[q,hx0])
     have:¬((Sum.inl (((G g.a).getD i' 0:Nat):Int):Kx)=.inl (x:Int)):=λq=>w (by injection q with q;exact Bf.mp q)
     rw[bw this];exact k4 i' (by lia)
  cases hlk:v7 kv (.inl (x:Int))with
  |none=>exact qv (by rw[hlk];rfl)
  |some v =>
   obtain⟨p,hp,rfl⟩:=asi hlk;obtain⟨e,he,q4⟩:=k3 p hp;rw[he]at hlk
   by_cases q3:e=z
   .exact qv (by rw[hlk,q3];rfl)
   .rw[hlk]at gt
    have ix:=azf (b:=.int x) k1 rfl;rw[show(Sum.inl (x:Int):Kx)=.inl (x:Int)from rfl,hlk]at ix;have lh:min e z<max e z:=by lia
    have hm:max e z∈G g.b:=by
     rcases Nat.le_total e z with w|w
     .rw[Nat.max_eq_right w];exact hz
     .rw[Nat.max_eq_left w];exact q4
    have q8:min e z∈G g.b:=by
     rcases Nat.le_total e z with w|w
     .rw[Nat.min_eq_left w];exact q4
     .rw[Nat.min_eq_right w];exact hz
    have rp:=ayl (W:=W) (M:=M1) (ρ:=[sP K r hs,sR U,sR q,b3,sI j,sI g.a,sI g.b,sR dd,sI i,sI x,sI z,sI (min e z:Nat),sI (max e z:Nat)]) (x:=6) (y:=13) (lo:=min e z) (hi:=max e z) (by simp[fb]) lb (by rw[h1.len _ gb];have:=hL _ gb;exact a_ this (by decide)) rfl (by decide) rfl rfl;obtain⟨o,so,zv⟩:=h1.set gb (ns:=Jb (min e z) (max e z) (G g.b)) (by simp[Jb,h1.len _ gb]) (λy hy=>by
     obtain⟨w,hw,rfl⟩:=bf.mp hy;split
     .exact h1.lt _ gb _ q8
     .exact h1.lt _ gb _ hw) (ako (h1.fx _ gb) (λx hx=>by rw[h1.len _ gb];exact h1.lt _ gb x hx) q8) ht
    have ne:¬((e:Nat)=z):=q3;refine⟨_,.brk,_,M1.set U o++[.dK []],rfl,?_,.inr ⟨rfl,some (.bl true),sR (M1.set U o).length,sI i,sI x,sI z,sI (min e z:Nat),sI (max e z:Nat),rfl,λa u na ha q=>?_,by simp;exact a_ (g_ h4) x_,.inr ⟨rfl,_,zv.frame (λa u _ _ q=>yh q) ht,(asd (akn lh hm) K).2 gb⟩⟩⟩
    .simp only[zj]at gt
     simp[-eq_int,Cm,fa,q0,fb,fj,q1,q2,ty,gt,acv,ne,ix,akq,acw,My,rp,so,MW.new]
    .refine yh ?_
     rw[um (j0 na)];exact h3 a u ha q
def Fm.trans(a:Fm Z n M G)(b:Fm Z n G M2):Fm Z n M M2:=λx o h l e=>b x o h l (a x o h l e)
def Fm.le(a:Fm Z n M M1)(h:G<=n):Fm Z G M M1:=λx o q l e=>a x o q (b_ l h) e
theorem ahu:∀{l:Y3}{c:Nat},(∀x∈l,x<=c)->l.sum<=l.length*c
 |[],_,_=>by simp
 |a::l,c,h=>by
  have G:=h a (by simp);have U:=ahu (λx Z=>h x (bc _ Z));simp only[List.sum_cons,gn,Nat.succ_mul]
  lia
def a5y(R:Mk t pm K L G M)(hL:∀e,e<K->L e<=7)(hK:K<=3):Zu K G<=200:=by
 have:∀x∈(List.range K).map λi=>(G i).sum,x<=49:=λx U=>by
  obtain⟨i,Z,rfl⟩:=bf.mp U;have Z:=ik.mp Z;have h1:=ahu (l:=G i) (c:=7) (λx U=>by have:=R.lt i Z x U;have:=hL i Z;lia);have h2:=R.len i Z;have h3:=hL i Z;have h4:(G i).length*7<=7*7:=Nat.mul_le_mul_right 7 (a_ (f_ h2) h3)
  lia
 have h:=ahu this;simp only[du,List.length_range]at h;have h5:K*49<=3*49:=Nat.mul_le_mul_right 49 hK
 unfold Zu
 lia
def Cgs(U:List F)(G:List (List Nat))(n:Nat)(R:Nat->List Nat):Prop:=∀(j:Nat)(g:F)(Z:Y3),j<n->U[j]?=some g->G[j]?=some Z->Cg R g Z
def asn(P:Ji sz K Z ie)(mk:Mk t G K L ms M)(ac:Ac q Z L as M)(q4:G<M.length)(q0:q<M.length)(qv:q≠G)(ht:t<G)(hL:∀e,e<K->L e<=7) :
 ∃qj M',M9.den W [sP K r Z,sR G,sR q,b3,b4,b5,b6,b7,b8,b9,b10,Lx,Tv] M=.ok (.next,qj) M' /\
  ∃c3 c4 c5 c6 c7 c8 c9 U R qq Ng,qj=[sP K r Z,sR G,sR q,c3,c4,c5,c6,c7,c8,c9,U,R,qq]/\Fm G M.length M M'/\M.length<=M'.length/\Mk t G K L Ng M'/\((c3=b3/\Ng=ms/\Cgs Z as Z.length ms)\/(c3=some (.bl true)/\Zu K Ng<Zu K ms)):=by
 have hl:=P.len;refine Bs (W:=W) (t:=.name 4) (b:=Dq) (it:=.blt .len (.o (.ix (.v 0) (.i 1)))) (n:=Z.length) (M1:=M) (by simp[Qz,Ov]) (a_ hl (by decide))
  (λn qj M'=>∃c3 c4 c5 c6 c7 c8 c9 U R qq Ng,qj=[sP K r Z,sR G,sR q,c3,c4,c5,c6,c7,c8,c9,U,R,qq]/\Fm G M.length M M'/\M.length<=M'.length/\Mk t G K L Ng M'/\((c3=b3/\Ng=ms/\Cgs Z as n ms)\/(c3=some (.bl true)/\Zu K Ng<Zu K ms)))
  ⟨b3,b4,b5,b6,b7,b8,b9,b10,Lx,Tv,ms,rfl,λ_ _ _ _ e=>e,bh _,mk,.inl ⟨rfl,rfl,λj g js h=>absurd h (uf _)⟩⟩ (λj ρ M1 hj hI=>?_)
 obtain⟨c3,c4,c5,c6,c7,c8,c9,U,R,qq,m1,rfl,f1,l1,k1,o1⟩:=hI;have qk:Z[j]?=some Z[j]:=by simp[hj]
 have hg:=ao qk;have k2:Mk t G K L m1 (M1++[.dK []]):=k1.frame (λa o _ _ e=>yh e) ht;have q1:Ac q Z L as (M1++[.dK []]):=⟨yh (f1 _ _ qv q0 ac.at_),ac.len,ac.ok⟩;obtain⟨q7,M2,e2,d3,d7,d8,d9,q6,q2,q5,rfl,f2,l2,o2⟩:=asj (W:=W) (r:=r) (dd:=M1.length) (b3:=c3) (b8:=c8) (b9:=c9) (b10:=U) (Lx:=R) (Tv:=qq) k2 q1 qk (P.abv _ hg) (P.V3 _ hg) (by simp) (b_ q4 l1) (b_ q0 l1) qv ht hL;have f3:Fm G M.length M M2:=λa o na ha e=>f2 a o na (b_ ha l1) (yh (f1 a o na ha e))
 have l3:M.length<=M2.length:=by simp at l2;lia
 have pe:∀ρ,(Tg.names [5,6]).put (eD Z[j]) ρ=some ((ρ.set 5 (some (.int Z[j].a))).set 6 (some (.int Z[j].b))):=λ_=>rfl
 have run:Dq.den W [sP K r Z,sR G,sR q,c3,sI j,c5,c6,c7,c8,c9,U,R,qq] M1=.ok (.next,[sP K r Z,sR G,sR q,d3,sI j,some (.int Z[j].a),some (.int Z[j].b),d7,d8,d9,q6,q2,q5]) M2:=by simp[Dq,Qz,Vg qk,pe,MW.new,e2]
 refine⟨_,.next,_,M2,rfl,run,.inl rfl,?_⟩;rcases o2 with⟨rfl,k3,cg⟩|⟨rfl,m2,k3,t3⟩
 .rcases o1 with⟨rfl,rfl,cs⟩|⟨rfl,t1⟩
  .refine⟨_,_,_,_,_,_,_,_,_,_,m1,rfl,f3,l3,k3,.inl ⟨rfl,rfl,λj' g' q3 h1 h2 h3=>?_⟩⟩
   by_cases z:j'=j
   .subst z
    rw[qk]at h2;cases h2;exact cg _ h3
   .exact cs j' g' q3 (by lia) h2 h3
  .exact⟨_,_,_,_,_,_,_,_,_,_,m1,rfl,f3,l3,k3,.inr ⟨rfl,t1⟩⟩
 .refine⟨_,_,_,_,_,_,_,_,_,_,m2,rfl,f3,l3,k3,.inr ⟨rfl,?_⟩⟩
  rcases o1 with⟨_,rfl,_⟩|⟨_,t1⟩<;>omega
def amy(hm:1<=m)(P:Ji sz K U ie)(mk:Mk t Z K L ms M)(ac:Ac q U L as M)(q3:Z<M.length)(q1:q<M.length)(q0:q≠Z)(ht:t<Z)(hL:∀e,e<K->L e<=7) :
 ∃R G,prog.call m 38 [De K r U,.ref Z,.ref q] M=.ok (.ref Z) G/\Mk t Z K L R G/\Cgs U as U.length R/\Fm Z M.length M G/\M.length<=G.length:=by
 rw[call_of hm rfl];obtain⟨qq,G,e,R,k1,cg,f1,l1,c,q2⟩:∃qq G,Hb.den ⟨prog.call (m-1),prog.cls⟩ [sP K r U,sR Z,sR q,D.bl true,none,none,none,none,none,none,none,none,none] M=.ok (.next,qq) G /\
  ∃R,Mk t Z K L R G/\Cgs U as U.length R/\Fm Z M.length M G/\M.length<=G.length/\∃c:Env,qq=[sP K r U,sR Z]++c:=by
  unfold Hb;rw[abg];refine Pg (λm ρ G=>∃(R:Nat->List Nat)(b:Bool)(c:Env),ρ=[sP K r U,sR Z,sR q,some (.bl b)]++c/\c.length=9/\Mk t Z K L R G/\(b=false->Cgs U as U.length R)/\Fm Z M.length M G/\M.length<=G.length/\m=(if b then Zu K R+1 else 0))
   (λqq G=>∃R,Mk t Z K L R G/\Cgs U as U.length R/\Fm Z M.length M G/\M.length<=G.length/\∃c:Env,qq=[sP K r U,sR Z]++c) (λn ρ M1 hI=>?_) agp (Zu K ms+1) _ M (by have:=a5y mk hL P.k3;show Zu K ms+1<1000000;lia)
   ⟨ms,true,[none,none,none,none,none,none,none,none,none],rfl,rfl,mk,by simp,λ_ _ _ _ e=>e,bh _,rfl⟩
  obtain⟨m1,b,c,rfl,hc,k1,cg,f1,l1,rfl⟩:=hI
  match c,hc with
  |[c4,c5,c6,c7,c8,c9,c10,c11,c12],_ =>
  cases b with
  |false=>exact .inl ⟨M1,rfl,m1,k1,cg rfl,f1,l1,_,rfl⟩
  |true =>
   right
   obtain⟨q4,M2,e2,d3,d4,d5,d6,d7,d8,d9,qv,qj,qk,m2,rfl,f2,l2,k2,o2⟩:=asn (W:=⟨prog.call (m-1),prog.cls⟩) (r:=r) (as:=as) P k1 (⟨f1 _ _ q0 q1 ac.at_,ac.len,ac.ok⟩:Ac q U L as M1) (b_ q3 l1) (b_ q1 l1) q0 ht hL (b3:=some (.bl false)) (b4:=c4) (b5:=c5) (b6:=c6) (b7:=c7) (b8:=c8) (b9:=c9) (b10:=c10) (Lx:=c11) (Tv:=c12);have f3:Fm Z M.length M M2:=f1.trans (f2.le l1);have run:Ha.den ⟨prog.call (m-1),prog.cls⟩ [sP K r U,sR Z,sR q,D.bl true,c4,c5,c6,c7,c8,c9,c10,c11,c12] M1=.ok (.next,[sP K r U,sR Z,sR q,d3,d4,d5,d6,d7,d8,d9,qv,qj,qk]) M2:=by simp[Ha,e2]
   rcases o2 with⟨rfl,rfl,cs⟩|⟨rfl,t3⟩
   .exact⟨M1,.next,_,M2,0,rfl,run,.inl rfl,by simp,m2,false,[d4,d5,d6,d7,d8,d9,qv,qj,qk],rfl,rfl,k2,λ_=>cs,f3,a_ l1 l2,rfl⟩
   .exact⟨M1,.next,_,M2,Zu K m2+1,rfl,run,.inl rfl,by simp;exact t3,m2,true,[d4,d5,d6,d7,d8,d9,qv,qj,qk],rfl,rfl,k2,by simp,f3,a_ l1 l2,rfl⟩
 subst q2;refine⟨R,G,?_,k1,cg,f1,l1⟩;simp only[xm,wy]at e;simp[Fn.run,Qq,Qp,e]
theorem aks:∀l:List Nat,Z7 (l.map nD)=some (l.map λ(x:Nat)=>(x:Int))
 |[]=>rfl|a::l=>by show(Z7 (l.map nD)).map _=_;rw[aks l];rfl
noncomputable def fil(b:Nat)(f:Nat->Bool):List Nat:=(List.range b).filter f
def ayp(b:Nat)(f:Nat->Bool):(fil b f).length<=b:=by have:=vy f (List.range b);rw[List.length_range]at this;exact this
def Wn:x∈fil b f↔x<b/\f x=true:=by rw[fil,ue,ik]
def ahv(b:Nat)(f:Nat->Bool):(fil b f).Pairwise (· < ·):=List.pairwise_lt_range.filter f
def srt{is:Xs}{f:Nat->Bool}(h:∀y,y∈is↔∃z:Nat,z<b/\f z=true/\y=z):sortI (Ao is)=(fil b f).map λ(x:Nat)=>(x:Int):=
 (aiq (yw.mpr ((ahv b f).imp λh=>by lia)) (m7.mpr (yw.mpr ((ahv b f).imp λh=>by lia))) λy=>by
  rw[h,bf];constructor
  .rintro⟨z,G,U,rfl⟩;exact⟨z,Wn.mpr ⟨G,U⟩,rfl⟩
  .rintro⟨z,Z,rfl⟩;exact⟨z,(Wn.mp Z).1,(Wn.mp Z).2,rfl⟩).symm
def ayq(l:Y3):(l.map λ(x:Nat)=>(x:Int)).map D.int=l.map nD:=by rw[o8];rfl
def mem_cast{l:Y3}{y:Int}:y∈l.map (λ(x:Nat)=>(x:Int))↔∃z:Nat,z∈l/\y=z:=by rw[bf];constructor<;>rintro⟨z,h,e⟩<;>exact⟨z,h,e.symm⟩
def ayr{M:di}{l:Y3}(h:gm M d=some (l.map nD))(R:b<=7\/l.length<31)(G:∀z,z∈l↔z<b/\f z=true):rm .Ef [d] M=.ok (.vl ((fil b f).map nD)) M/\(fil b f).length<=l.length:=by
 have e:=srt (is:=l.map λ(x:Nat)=>(x:Int)) (b:=b) (f:=f) λy=>by
  rw[mem_cast];constructor
  .rintro⟨z,Z,rfl⟩;exact⟨z,((G z).mp Z).1,((G z).mp Z).2,rfl⟩
  .rintro⟨z,Z,U,rfl⟩;exact⟨z,(G z).mpr ⟨Z,U⟩,rfl⟩
 have q:=(Kg (Ao (l.map λ(x:Nat)=>(x:Int)))).length_eq;have n:=aos (l.map λ(x:Nat)=>(x:Int));rw[e,du]at q;rw[<-q,du]at n;have le:(Ao (l.map λ(x:Nat)=>(x:Int))).length<31:=by have:=ayp b f;rw[<-q];lia
 refine⟨?_,n⟩;show Res.ux (((gm M d).bind Z7).bind λis=>if(Ao is).length<31 then some (D.vl ((sortI (Ao is)).map D.int))else none) M=_;rw[h,su,aks,su,bx le,e,ayq];rfl
theorem bnd:∀l:List Nat,∃b,∀z∈l,z<b
 |[]=>⟨0,by simp⟩
 |a::l=>by
  obtain⟨b,h⟩:=bnd l;refine⟨a+b+1,λz Z=>?_⟩;rcases cu.mp Z with rfl|Z
  .lia
  .have:=h z Z;lia
def ahw{M:di}{l:Y3}(h:gm M d=some (l.map nD))(hz:l.length<31):∃Z:List Nat,rm .Ef [d] M=.ok (.vl (Z.map nD)) M/\Z.length<=l.length/\Z.Nodup/\∀x,x∈Z↔x∈l:=by
 obtain⟨b,R⟩:=bnd l;have G:∀z,z∈l↔z<b/\decide (z∈l)=true:=λz=>by rw[dm];exact⟨λq=>⟨R z q,q⟩,λq=>q.2⟩
 obtain⟨U,e2⟩:=ayr (f:=λz=>decide (z∈l)) h (.inr hz) G;exact⟨_,U,e2,m7.mpr ((ahv b _).imp λh=>by lia),λx=>by rw[Wn];exact(G x).symm⟩
def amz(U:ρ.length=19)(h3:ρ[3]?=some (some (.vl (lz p K))))(h:RS p K rs M)(hK:K<=3)(h7:∀e,e<K->(rs e).length<=7)(ht:t<M.length) :
 ∃Z,Im.den W ρ M=.ok (.ref (M.length+K)) Z/\Mk t (M.length+K) K (λe=>(rs e).length) (λe=>List.range (rs e).length) Z/\Ba M Z/\Z.length=M.length+K+1:=by
 unfold Im;obtain⟨ys,M1,e,r1,r2,r3,R⟩:=Gj (W:=W) (v:=false) (k:=1) (t:=.name 19) (it:=.v 3) (e:=.agl (.l (.v 19))) (ρ:=ρ) (M:=M) (M1:=M) (d:=.vl (lz p K)) (ds:=lz p K) (by simp[h3]) rfl (by simp[lz];exact a_ hK (by decide))
  (λi xs Z=>xs=lz M.length i/\(∀e,e<i->Z[M.length+e]?=some (.lst ((List.range (rs e).length).map nD)))/\Ba M Z/\Z.length=M.length+i) ⟨rfl,λe he=>absurd he (uf _),Ba.refl M,rfl⟩ (λ_ _ _ _=>rfl)
  (λi y xs Z hy hI=>by
   obtain⟨rfl,q1,q2,q3⟩:=hI;have G:i<K:=by have:=(ak.mp hy).1;simpa[lz]using this
   obtain rfl:D.ref (p+i)=y:=by simpa[lz,G]using hy
   have ln:=len_list (ou (q2 _ _ (h i G)));have e1:(ρ++List.replicate 1 none).set 19 (sR (p+i))=ρ++[sR (p+i)]:=by rw[Bj];simp[U]
   have g9:(ρ++[some (D.ref (p+i))])[19]?=some (sR (p+i)):=by rw[<-U];simp
   refine⟨_,.ref Z.length,Z++[.lst ((List.range (rs i).length).map nD)],rfl,?_,?_,λe he=>?_,q2.trans (Ba.app _ _),by simp[q3];exact rfl⟩
   .have h8:=h7 i G
    have h9:(rs i).length<=100000:=a_ h8 (by decide)
    rw[e1];simp[g9,ln,h9,MW.new,nD]
   .simp[lz,vd,q3]
   .by_cases z:e=i
    .subst z;rw[<-q3];simp
    .exact yh (q1 e (by lia)))
 have qq:(lz p K).length=K:=by simp[lz]
 rw[qq]at r1 r2 R;refine⟨M1++[.lst ys],by rw[e];simp[MW.new,R],⟨⟨ys,by rw[<-R];simp,by rw[r1];simp[lz],λi G=>?_⟩,λi G=>by simp,λi G x hx=>ik.mp hx,λi G x hx=>by simp[ik.mp hx]⟩,r3.trans (Ba.app _ _),by simp[R]⟩;refine⟨.ref (M.length+i),by rw[r1];simp[lz,G],ou (yh (r2 i G)),λa q=>?_⟩;cases q;exact⟨b_ ht x_,H_ G⟩
def Mk.st(h:Mk t Z K L R M)(s:St t f M M')(U:t<Z):Mk t Z K L R M':=h.frame (λa o G _ e=>s.keep a o (i_ G) e) U
def Ac.of(h:Ac q G L Z M)(k:∀o,M[q]?=some o->M'[q]?=some o):Ac q G L Z M':=⟨k _ h.at_,h.len,h.ok⟩
def ays(hm:1<=m)(P:Ji sz K U ie)(hh:V2 t f M)(mk:Mk t pm K L ms M)(ac:Ac q U L as M)(G:t<p)(hp:p<=pm)(zk:pm<M.length)(hq:p<=q)(qj:q≠pm)(q1:q<M.length)(hL:∀e,e<K->L e<=7)(hc:Cgs U as U.length ms) :
 ∃c5 zz zv q4 q6 Ng M',Cz.den ⟨prog.call m,prog.cls⟩ [sR t,sP K r U,a2,a3,b4,b5,b6,b7,b8,sR q,b10,Lx,Tv,sR pm,b14,b15,n16,n17,n18] M =
  .ok (.next,[sR t,sP K r U,a2,a3,b4,c5,b6,b7,b8,sR q,b10,zz,zv,sR pm,q4,q6,n16,n17,n18]) M'/\Mk t pm K L Ng M'/\Cgs U as U.length Ng/\Ac q U L as M'/\Gs t f p M M':=by
 refine hG λ_ _k=>?_
 have h3:=P.k3;obtain⟨k,M1,e1,l1,s1,n1⟩:=Cd (many:=K) hm hh (by have:=P.k1;exact m_ this) (m_ (c_ h3 (by decide)));obtain⟨x,M2,e2,l2,s2,n2⟩:=Cd (many:=7) hm s1.has (by decide) (by decide);obtain⟨y,M3,e3,l3,s3,n3⟩:=Cd (many:=7) hm s2.has (by decide) (by decide);have hk:k<K:=o_ l1
 have s:=s1.trans (s2.trans s3);have Z:=mk.st s (b_ G hp);have q2:Ac q U L as M3:=ac.of λo e=>s.keep _ _ (i_ (b_ G hq)) e
 obtain⟨dk,fk,lk⟩:=Z.row hk;have qq:=Z.len _ hk;have ln:=len_list lk;simp only[du,qq]at ln;have mx:=acw M3 x y;apply _k
 by_cases c:max x y<L k
 .have c':((max x y:Nat):Int)<(L k:Int):=m_ c
  have hx:x<(ms k).length:=by lia
  have hy:y<(ms k).length:=by lia
  have ix:=Rm lk hx;have iy:=Rm lk hy;have qv:=getD_mem' hx;have q0:=getD_mem' hy;generalize hx0:(ms k).getD x 0=u at ix qv;generalize hy0:(ms k).getD y 0=w at iy q0;have qk:min u w∈ms k:=by
   rcases Nat.le_total u w with z|z
   .rw[Nat.min_eq_left z];exact qv
   .rw[Nat.min_eq_right z];exact q0
  have rp:=afx (W:=⟨prog.call m,prog.cls⟩) (M:=M3) (ρ:=[sR t,sP K r U,a2,a3,b4,sI k,b6,b7,b8,sR q,b10,sI x,sI y,sR pm,sI (min u w:Nat),sI (max u w:Nat),n16,n17,n18]) (v:=13) (x:=5) (y:=19) (a:=14) (b:=15) (lo:=min u w) (hi:=max u w) (by simp[fk]) lk (by have:=hL _ hk;exact a_ (f_ qq) (a_ this (by decide))) rfl rfl rfl;obtain⟨o,so,q7⟩:=Z.set hk (ns:=Jb (min u w) (max u w) (ms k)) (by simp[Jb,qq]) (λz hz=>by
   obtain⟨v,hv,rfl⟩:=bf.mp hz;split
   .exact Z.lt _ hk _ qk
   .exact Z.lt _ hk _ hv) (ako (Z.fx _ hk) (λx hx=>by rw[qq];exact Z.lt _ hk x hx) qk) (b_ G hp)
  have q3:Ac q U L as (M3.set pm o):=q2.of λo e=>by rw[um (j0 qj)];exact e
  have R:M3.length=M.length:=u_ (a_ (f_ n3) (a_ (f_ n2) (f_ n1))) (a_ (g_ n1) (a_ (g_ n2) (g_ n3)));obtain⟨Ng,M5,e5,zq,q5,f5,l5⟩:=amy (r:=r) (M:=M3.set pm o) hm P q7 q3 (by simp;exact b_ zk (g_ R)) (by simp;exact b_ q1 (g_ R)) qj (b_ G hp) hL;have q8:Ac q U L as M5:=q3.of λo e=>f5 _ _ qj (by simp;exact b_ q1 (g_ R)) e
  refine⟨some (.int k),sI x,sI y,sI (min u w:Nat),sI (max u w:Nat),Ng,M5,?_,zq,q5,q8,⟨?_,λa v ha na e=>?_,by simp at l5;exact a_ (g_ R) l5⟩⟩
  .simp[Cz,Tt,e1,e2,e3,mx,fk,ln,c',ix,iy,akq,acw,Oh,rp,so,e5]
  .obtain⟨n,hn,ho⟩:=s.has
   exact⟨n,f5 _ _ (h_ (b_ G hp)) (by have:=yo hn;simp;exact this) (by rw[um (i_ (b_ G hp))];exact hn),ho⟩
  .refine f5 _ _ (h_ (b_ ha hp)) (by have:=yo e;simp;exact b_ this (g_ R)) ?_
   rw[um (i_ (b_ ha hp))];exact s.keep a v na e
 .have c':¬((max x y:Nat):Int)<(L k:Int):=by lia
  refine⟨some (.int k),sI x,sI y,b14,b15,ms,M3,?_,Z,hc,q2,Gs.afv s⟩;simp[Cz,Tt,e1,e2,e3,mx,fk,ln,c']
def gh(U:Y3)(G:List (List Nat)):D:=.tup [.tup (U.map nD),.tup (G.map λZ=>.tup (Z.map nD))]
def aso(h:.int v∈ds):ixI v ds<ds.length:=by
 unfold ixI;cases q:ds.findIdx? (λd=>match d with|.int i=>decide (i=v)|_=>false)with
 |some j=>exact(qg.mp q).1
 |none =>
  rw[vh]at q;have:=q _ h;simp at this
def ayt:∀{Z:List D},(∀d∈Z,∃i:Int,d=.int i)->.int v∈Z->Z[ixI v Z]?=some (.int v):=fun{Z} hi h=>by
 unfold ixI;cases q:Z.findIdx? (λd=>match d with|.int i=>decide (i=v)|_=>false)with
 |some j =>
  obtain⟨U,R,_⟩:=qg.mp q;obtain⟨i,G⟩:=hi Z[j] (o7 U);rw[G]at R;have:i=v:=by simpa using R
  simp[U,G,this]
 |none =>
  rw[vh]at q;have:=q _ h;simp at this
def asp(l:Y3):∀d∈l.map nD,∃i:Int,d=.int i:=λd Z=>by obtain⟨x,_,rfl⟩:=bf.mp Z;exact⟨_,rfl⟩
def asq{l:Y3}(h:x∈l):.int (x:Int)∈l.map nD:=bf.mpr ⟨x,h,rfl⟩
def ixo(l:Y3)(x:Nat):Nat:=ixI (x:Int) (l.map nD)
def ahx(h:x∈l):ixo l x<l.length:=by have:=aso (asq h);simpa[ixo]using this
def akt{l:Y3}(h:x∈l):l.getD (ixo l x) 0=x:=by have Z:=ayt (asp l) (asq h);have G:=ahx h;unfold ixo at G⊢;rw[iz,bz G]at Z;simp[nD]at Z;rw[dj,bz G];simp only[zj];exact D_ Z
def Tw(U:Nat->List Nat)(g:F)(js R Z:Y3):List Nat:=R.map λG=>ixo Z ((U g.b).getD (js.getD G 0) 0)
noncomputable def Bl(Z:List (List Nat))(x:Nat)(w:Int):Nat:=if w=-1 then x else(Z.getD w.toNat []).getD x 0
structure K4(K:Nat)(hs:List F)(qj:Y3)(xu:List (List Nat)):Prop where
 ls:qj.length=K
 la:xu.length=hs.length
 sm:∀x∈qj,x<=7
 ok:∀(j:Nat)(g:F)(js:Y3),hs[j]?=some g->xu[j]?=some js->js.length=qj.getD g.a 0/\∀x∈js,x<qj.getD g.b 0
 fu:∀(j1 j2:Nat)(g1 g2:F)(a1 a2:Y3),hs[j1]?=some g1->hs[j2]?=some g2->g1.b=g2.a->xu[j1]?=some a1->xu[j2]?=some a2->∀x,x<a1.length->a2.getD (a1.getD x 0) 0=Bl xu x (ent hs g1 g2)
def Uv(l:Y3):D:=.vl (l.map nD)
def asr(U:ρ.length=19)(qj:ρ[13]?=some (sR pm))(mk:Mk t pm K L ms M)(hK:K<=3)(h7:∀i,i<K->L i<=7) :
 ∃Z:List (List Nat),Il.den W ρ M=.ok (.vl (Z.map Uv)) M/\Z.length=K/\∀e l,Z[e]?=some l->l.length<=L e/\l.Nodup/\∀x,x∈l↔x∈ms e:=by
 obtain⟨qq,h1,h2,h3⟩:=mk.ex;unfold Il;refine hG λ_ _k=>?_
 obtain⟨ys,R,e,rfl,Z,r1,r2,r3⟩:=Gj (W:=W) (v:=true) (k:=1) (t:=.name 19) (it:=.v 13) (e:=.blt .Ef (.o (.v 19))) (ρ:=ρ) (M:=M) (M1:=M) (d:=.ref pm) (ds:=qq) (by simp[qj]) (ou h1) (a_ (f_ h2) (a_ hK (by decide)))
  (λi xs R=>R=M/\∃Z:List (List Nat),xs=Z.map Uv/\Z.length=i/\∀e l,Z[e]?=some l->l.length<=L e/\l.Nodup/\∀x,x∈l↔x∈ms e) ⟨rfl,[],rfl,rfl,by simp⟩ (λi xs R h=>by rw[h.1];exact ou h1)
  (λi y xs R hy hI=>by
   obtain⟨rfl,Z,rfl,q1,q2⟩:=hI;have hi:i<K:=by have:=(ak.mp hy).1;exact b_ this (f_ h2)
   refine hG λ_ _k=>?_
   obtain⟨d,g1,g2,_⟩:=h3 i hi;rw[hy]at g1;cases g1;obtain⟨l,k1,k2,k4,k3⟩:=ahw g2 (by have:=h7 i hi;have:=mk.len i hi;lia);apply _k;have e1:(ρ++List.replicate 1 none).set 19 (some y)=ρ++[some y]:=by rw[Bj];simp[U]
   have g9:(ρ++[some y])[19]?=some (some y):=by rw[<-U];simp
   refine⟨_,Uv l,R,rfl,by rw[e1];simp[g9,k1,Uv],rfl,Z++[l],by simp,by simp[q1],λe l' G=>?_⟩
   by_cases z:e<Z.length
   .rw[dq z]at G;exact q2 e l' G
   .have ze:e=i:=by have:=(ak.mp G).1;simp at this;lia
    subst ze;rw[il (s_ z),q1]at G;simp at G;subst G;rw[<-mk.len e hi];exact⟨k2,k4,k3⟩)
 apply _k;refine⟨Z,by rw[e,r1];rfl,r2.trans h2,r3⟩
def ass{Z:List (List Nat)}{i:Nat}(h:Z[i]?=some l):Aw (.vl (Z.map Uv)) (.int i) M=some (Uv l):=Dg rfl q_ (by simp[h])
def am2{hl:List (List Nat)}(mk:Mk t pm K L R M)(ac:Ac q hs L as M){j:Nat}(hj:hs[j]?=some g)(ej:as[j]?=some G)(ga:g.a<K)(gb:g.b<K)(h1:hl[g.a]?=some la)(h2:hl[g.b]?=some lb)(q1:∀x,x∈la↔x∈R g.a)(q0:∀x,x∈lb↔x∈R g.b)(h7:la.length<=7)(hw:M[w]?=some (.lst td))(q2:td.length<100000) :
 ∃(qv:Option D)(zs:Y3),Eo.den W [a0,sP K r hs,a2,a3,b4,b5,b6,b7,b8,sR q,sI j,Lx,Tv,sR pm,b14,b15,D.vl (hl.map Uv),sR w,b18] M =
  .ok (.next,[a0,sP K r hs,a2,a3,b4,b5,b6,b7,b8,sR q,sI j,sI g.a,sI g.b,sR pm,b14,b15,some (.vl (hl.map Uv)),sR w,qv]) (M.set w (.lst (td++[.tup (zs.map nD)])))/\zs=Tw R g G la lb/\zs.length=la.length/\∀x∈zs,x<lb.length:=by
 refine hG λ_ _k=>?_
 obtain⟨q3,qj,fj,lj,rj⟩:=ac.get hj;rw[ej]at qj;cases qj;obtain⟨db,fb,qk⟩:=mk.row gb;have hz:∀Z∈la,G.getD Z 0<(R g.b).length/\Z<G.length:=λZ h=>by
  have h3:=mk.lt _ ga Z ((q1 Z).mp h);have h4:Z<G.length:=b_ h3 (g_ lj)
  exact⟨by rw[mk.len _ gb];exact rj _ (getD_mem' h4),h4⟩
 apply _k;have c3:Ik.den W [a0,sP K r hs,a2,a3,b4,b5,b6,b7,b8,sR q,sI j,sI g.a,sI g.b,sR pm,b14,b15,D.vl (hl.map Uv),sR w,b18] M=.ok (Uv (la.map λZ=>(R g.b).getD (G.getD Z 0) 0)) M:=by
  unfold Ik;rw[Bc (d:=Uv la) (ds:=la.map nD) (M1:=M) (g:=λd=>match d with|.int o=>nD ((R g.b).getD (G.getD o.toNat 0) 0)|_=>.non) (by simp[ass h1]) rfl (by simp;exact a_ h7 (by decide)) (λz U=>by
   obtain⟨Z,Zh,rfl⟩:=bf.mp U;obtain⟨k1,k2⟩:=hz Z Zh;refine⟨_,rfl,?_⟩;have i1:Aw (.vl (G.map nD)) (.int Z) M=some (.int (G.getD Z 0)):=Rm rfl k2;have i2:=Rm qk k1;show(Ex.ix (.ix (.v 13) (.v 12)) (.ix (.ix (.v 9) (.v 10)) (.v 19))).den W [a0,sP K r hs,a2,a3,b4,b5,b6,b7,b8,sR q,sI j,sI g.a,sI g.b,sR pm,b14,b15,D.vl (hl.map Uv),sR w,b18,sI Z] M=.ok (nD ((R g.b).getD (G.getD (Z:Int).toNat 0) 0)) M;rw[wk];generalize G.getD Z 0=yy at i1 i2;generalize(R g.b).getD yy 0=zz at i2;simp[fb,fj,i1,i2,nD])]
  simp[Uv,nD]
 have Zi:∀z∈la.map (λZ=>(R g.b).getD (G.getD Z 0) 0),.int (z:Int)∈lb.map nD:=λz h=>by obtain⟨Z,Zh,rfl⟩:=bf.mp h;exact bf.mpr ⟨_,(q0 _).mpr (getD_mem' (hz Z Zh).1),rfl⟩
 generalize bb4:la.map (λZ=>(R g.b).getD (G.getD Z 0) 0)=row at c3 Zi;have qq:row.length=la.length:=by rw[<-bb4];simp
 have c2:Ij.den W [a0,sP K r hs,a2,a3,b4,b5,b6,b7,b8,sR q,sI j,sI g.a,sI g.b,sR pm,b14,b15,D.vl (hl.map Uv),sR w,Uv row] M=.ok (.vl ((row.map λ(z:Nat)=>ixI (z:Int) (lb.map nD)).map nD)) M:=by
  unfold Ij;rw[Bc (d:=Uv row) (ds:=row.map nD) (M1:=M) (g:=λd=>match d with|.int o=>nD (ixI o (lb.map nD))|_=>.non) (by simp) rfl (by simp;exact a_ (f_ qq) (a_ h7 (by decide))) (λz U=>by
   obtain⟨o,ho,rfl⟩:=bf.mp U;refine⟨_,rfl,?_⟩;have i1:=ar5 (M:=M) (ds:=lb.map nD) (v:=(o:Int)) (λd hd=>by obtain⟨x,_,rfl⟩:=bf.mp hd;exact⟨_,rfl⟩) (Zi o ho);show(Ex.bm .index (.ix (.v 16) (.v 12)) (.o (.v 19))).den W [a0,sP K r hs,a2,a3,b4,b5,b6,b7,b8,sR q,sI j,sI g.a,sI g.b,sR pm,b14,b15,D.vl (hl.map Uv),sR w,Uv row,sI o] M=_;simp[ass h2,Uv,P0,i1,nD])]
  simp[nD]
 refine⟨some (Uv row),row.map λ(z:Nat)=>ixI (z:Int) (lb.map nD),?_,by rw[<-bb4,o8];rfl,by simp[qq],λx hx=>?_⟩
 .have pe:∀ρ,(Tg.names [11,12]).put (eD g) ρ=some ((ρ.set 11 (sI g.a)).set 12 (sI g.b)):=λ_=>rfl
  have ap:=Lg (d:=.tup ((row.map λ(z:Nat)=>ixI (z:Int) (lb.map nD)).map nD)) hw q2;simp only[o8]at c2 ap⊢;simp[-List.map_map,Eo,Qz,Vg hj,pe,c3,c2,Lf hw,Ot,ap]
 .obtain⟨z,U,rfl⟩:=bf.mp hx
  have:=aso (Zi z U);simpa using this
def a6c(h:nD a=nD b):a=b:=by simp only[nD,D.int.injEq,Bf]at h;exact h
def ahy(Z:List F)(k:Nat):(rz Z k).Nodup:=by
 refine qx.mpr ⟨λh=>?_,?_⟩
 .obtain⟨x,_,e⟩:=bf.mp h
  simp[nD]at e
 .rw[m7,yw]
  exact((m7.mp List.nodup_range).filter _).imp λh e=>h (a6c e)
def asu(Z:List F)(k g:Nat):(wT Z k g).Nodup:=(ahy Z k).filter _
def aku(h:trD n k w=trD G Z w'):n=G/\k=Z/\w=w':=by simp only[trD,D.tup.injEq,List.cons.injEq,D.int.injEq,Bf,and_true]at h;exact h
def Zb(Z:(ad.map (·.1)).Nodup)(e:Nat):(rowsOf U ad e).Nodup:=by
 rw[m7];unfold rowsOf;rw[List.pairwise_flatMap];refine⟨λp _=>?_,?_⟩
 .rw[yw]
  exact(m7.mp (asu U p.2 e)).imp λh q=>h (aku q).2.2
 .rw[m7,yw]at Z
  exact Z.imp λh x G y R q=>by obtain⟨u,_,rfl⟩:=bf.mp G;obtain⟨v,_,rfl⟩:=bf.mp R;exact h (aku q).1
def Kw{Z:Type}{l:List Z}(h:l.Nodup){i:Nat}{x:Z}(G:l[i]?=some x)(U:l[j]?=some x):i=j:=by have R:=(ak.mp G).1;exact(List.getElem?_inj R h).mp (G.trans U.symm)
def aa2{j:Nat}(h:bothW G Z x j=some (.int v)):bv G Z j (.int x)=v:=by simp[bv,h]
def ayu(P:Ji sz K Z U)(h1:Z[R]?=some g1)(h2:Z[j2]?=some g2)(e:g1.b=g2.a)(hx:.int x∈wT Z k g1.a) :
 (ent Z g1 g2=-1/\(g1.comp g2).Qa/\bv Z U j2 (.int (bv Z U R (.int x)))=x)\/∃j3:Nat,ent Z g1 g2=j3/\Z[j3]?=some (g1.comp g2)/\bv Z U j2 (.int (bv Z U R (.int x)))=bv Z U j3 (.int x):=by
 have n1:¬((R:Int)=-1):=by lia
 have n2:¬((j2:Int)=-1):=by lia
 have m1:=ao h1;have m2:=ao h2;have Tv:bothW Z U R j2=some (.int (ent Z g1 g2)):=by rw[bothW,bw n1,bw n2];exact P.look h1 h2 e
 obtain⟨w1,w2⟩:=acr hx;rcases By w1 with q|⟨i,f,q,hf,ef⟩
 .cases q
  have c1:bothW Z U (-1) R=some (.int R):=by simp[bothW]
  rw[aa2 c1,aa2 Tv,J9];rcases P.Dd (P.cl g1 m1 g2 m2 e)with⟨G,i1⟩|⟨u,hu,G⟩
  .exact .inl ⟨G,i1,G⟩
  .refine .inr ⟨u,G,hu,?_⟩
   rw[G,aa2 (v:=u) (by simp[bothW])]
 .cases q
  have ni:¬((i:Int)=-1):=by lia
  rw[Bv hf]at w2;have c1:bothW Z U i R=some (.int (ent Z f g1)):=by rw[bothW,bw ni,bw n1];exact P.look hf h1 w2
  obtain⟨v,v1,v2⟩:=P.apb hf h1 h2 w2 e;rw[aa2 c1,aa2 v1];rw[J9]at v2⊢;rcases P.Dd (P.cl g1 m1 g2 m2 e)with⟨G,i1⟩|⟨u,hu,G⟩
  .rw[G]at v2
   rw[bothW,bw ni,bx rfl]at v2;cases v2;exact .inl ⟨G,i1,rfl⟩
  .rw[G]at v2
   exact .inr ⟨u,G,hu,(aa2 v2).symm⟩
def am3(h:l.Nodup)(Z:x<l.length):ixo l (l.getD x 0)=x:=by
 have m:l.getD x 0∈l:=getD_mem' Z;have G:=akt m;have U:=ahx m;refine Kw h (x:=l.getD x 0) ?_ ?_
 .rw[bz U]
  rw[dj,bz U]at G;simpa using G
 .rw[bz Z,dj,bz Z];rfl
def Zc(Z:x<la.length):(Tw R g G la U).getD x 0=ixo U ((R g.b).getD (G.getD (la.getD x 0) 0) 0):=getD_map (α:=Nat) Z
def func(P:Ji sz K G ie){hd:List (List Nat)}(nd:(ad.map (·.1)).Nodup)(ml:∀e,e<K->(Z e).length=(rowsOf G ad e).length)(qq:∀e,e<K->∀x∈Z e,x<(rowsOf G ad e).length)(fx:∀e,e<K->∀x∈Z e,(Z e).getD x 0=x)(cg:Cgs G as G.length Z)(ae:∀(j:Nat) (g:F) (js:Y3),G[j]?=some g->as[j]?=some js->Ae G ie ad j g js)(hh:∀e l,hd[e]?=some l->l.Nodup/\∀x,x∈l↔x∈Z e){j1 j2:Nat}(h1:G[j1]?=some g1)(R:G[j2]?=some g2)(e:g1.b=g2.a)(q1:as[j1]?=some s1)(q2:as[j2]?=some s2)(qj:hd[g1.a]?=some la)(qk:hd[g1.b]?=some lb)(U:hd[g2.b]?=some lc)(hx:x<la.length) :
 (ent G g1 g2=-1/\(Tw Z g2 s2 lb lc).getD ((Tw Z g1 s1 la lb).getD x 0) 0=x) \/
  ∃j3:Nat,ent G g1 g2=j3/\G[j3]?=some (g1.comp g2)/\∀s3,as[j3]?=some s3->(Tw Z g2 s2 lb lc).getD ((Tw Z g1 s1 la lb).getD x 0) 0=(Tw Z (g1.comp g2) s3 la lc).getD x 0:=by
 have m1:=ao h1;have m2:=ao R;have ka:=P.abv g1 m1;have kb:=P.V3 g1 m1;have kc:=P.V3 g2 m2;obtain⟨na,ma⟩:=hh _ _ qj;obtain⟨_,mb⟩:=hh _ _ qk;have A1:=ae _ _ _ h1 q1;have A2:=ae _ _ _ R q2;have hm:=(ma _).mp (getD_mem' hx);generalize hh0:la.getD x 0=h at hm;have Jk:=qq _ ka h hm;obtain⟨n,k,w,_,hw,er⟩:=Jf (o7 Jk);have r0:(rowsOf G ad g1.a)[h]?=some (trD n k (.int w)):=by rw[bz Jk,er]
 have r1:=A1.go _ _ _ _ r0;have r2:=A2.go _ _ _ _ (by rw[<-e];exact r1);have l1:s1.getD h 0<(Z g1.b).length:=by rw[ml _ kb];exact(ak.mp r1).1
 have v1:=getD_mem' l1;have yl:=ahx ((mb _).mpr v1);rw[Zc hx,hh0,Zc yl,akt ((mb _).mpr v1)];have c1:(Z g2.b).getD (s2.getD ((Z g1.b).getD (s1.getD h 0) 0) 0) 0=(Z g2.b).getD (s2.getD (s1.getD h 0) 0) 0:=by
  have qv:=(ak.mp R).1;refine cg j2 g2 s2 qv R q2 _ _ ?_ ?_ ?_
  .rw[A2.len,<-e];exact qq _ kb _ v1
  .rw[A2.len,<-e,<-ml _ kb];exact l1
  .rw[<-e];exact fx _ kb _ v1
 rw[c1];rcases ayu P h1 R e hw with⟨e1,i1,b1⟩|⟨j3,e1,h3,b1⟩
 .left
  refine⟨e1,?_⟩;have ab:g1.a=g2.b:=i1.1;rw[b1,<-ab]at r2;rw[<-ab]at U;rw[qj]at U;cases U;rw[Kw (Zb nd _) r2 r0,<-ab,fx _ ka h hm,<-hh0,am3 na hx]
 .right
  refine⟨j3,e1,h3,λs3 q3=>?_⟩;have A3:=ae _ _ _ h3 q3;have r3:=A3.go h n k w r0;rw[Zc hx,hh0];rw[b1]at r2;have:s2.getD (s1.getD h 0) 0=s3.getD h 0:=Kw (Zb nd g2.b) r2 r3;rw[this];rfl
def afy(hm:2<=m)(P:Ji sz K Z ie)(hh:V2 t f M)(hr:M[r]?=some (.dT ie))(y4:r≠t) :
 ∃qj xu M',prog.call m 39 [.ref t,De K r Z,.int 4] M=.ok (gh qj xu) M'/\K4 K Z qj xu/\St t f M M':=by
 rw[call_of (a_ (by decide) hm) rfl];have h3:=P.k3;have hl:=P.len;have ht:t<M.length:=by obtain⟨n,h,_⟩:=hh;exact yo h
 have u4:=yo hr;have r0:=ar6 (W:=⟨prog.call (m-1),prog.cls⟩) (M:=M) (K:=K) (y:=19) (e:=.ix (.v 1) (.i 0)) (ρ:=[sR t,sP K r Z,sI 4,none,none,none,none,none,none,none,none,none,none,none,none,none,none,none,none]) rfl (by simp[Tt]) (a_ h3 (by decide));have g0:Gs t f M.length M (M++List.replicate K (.lst [])):=Gs.app hh (bh _) _;have w0:Rw Z K M.length [] (M++List.replicate K (.lst [])):=⟨λi hi=>by
  rw[il x_];simp[rowsOf,hi],by simp,by simp[rowsOf],Ar⟩
 refine hG λ_ _k=>?_
 obtain⟨v,M1,e1,l1,s1,n1⟩:=Cd (many:=5) (m:=m-1) (r_ hm) g0.has (by decide) (by decide);obtain⟨x8,M2,e2,⟨b4,b5,b6,b7,b8,rfl⟩,ad,w2,Z5,g2,n2⟩:=Bs (W:=⟨prog.call (m-1),prog.cls⟩) (t:=.name 4) (b:=Dc) (it:=.call 14 (.p (.v 0) (.bin .add (.v 2) (.i 1)))) (n:=v)
  (ρ:=[sR t,sP K r Z,sI 4,some (.vl (lz M.length K)),none,none,none,none,none]++[none,none,none,none,none,none,none,none,none,none]) (M:=M++List.replicate K (.lst [])) (M1:=M1) (by simp[e1]) (e_ (b_ (o_ l1) (by decide)))
  (λi ρ M'=>(∃b4 b5 b6 b7 b8:Option D,ρ=[sR t,sP K r Z,sI 4,some (.vl (lz M.length K)),b4,b5,b6,b7,b8]++[none,none,none,none,none,none,none,none,none,none])/\∃ad,Rw Z K M.length ad M'/\(∀q∈ad,q.1<i)/\Gs t f M.length M M'/\M'.length=M.length+K)
  ⟨⟨none,none,none,none,none,rfl⟩,[],⟨w0.rs.keep s1 ht,w0.kd,w0.le,w0.nd⟩,by simp,g0.trans (Gs.afv s1),by simp at n1;exact n1⟩
  (λi ρ M2 hi hI=>by
   refine hG λ_ _k=>?_
   obtain⟨⟨b4,b5,b6,b7,b8,rfl⟩,ad,q1,hn,q2,q3⟩:=hI;obtain⟨c5,c6,c7,c8,x5,M3,e3,k1,Py,k2,k3⟩:=ayh (m:=m-1) (r:=r) (n:=i) (r_ hm) P q2.has ht q1 hn (b5:=b5) (b6:=b6) (b7:=b7) (b8:=b8) (rest:=[none,none,none,none,none,none,none,none,none,none]) rfl;apply _k;exact⟨_,.next,_,M3,rfl,e3,.inl rfl,⟨some (.int i),c5,c6,c7,c8,rfl⟩,x5,k1,Py,q2.trans k2,k3.trans q3⟩)
 apply _k;refine hG λ_ _k=>?_
 have hM2:=n2;obtain⟨x9,M3,e3,⟨U,Lx,Tv,rfl⟩,as,a3,a4,a5,w3,g3,n3⟩:=Bs (W:=⟨prog.call (m-1),prog.cls⟩) (t:=.name 10) (b:=Ir) (it:=.blt .len (.o (.ix (.v 1) (.i 1)))) (n:=Z.length)
  (ρ:=[sR t,sP K r Z,sI 4,D.vl (lz M.length K),b4,b5,b6,b7,b8,sR M2.length,none,none,none,none,none,none,none,none,none]) (M:=M2++[.lst []]) (M1:=M2++[.lst []]) (by simp[Qz,Ov]) (a_ hl (by decide))
  (λj ρ M'=>(∃U Lx Tv:Option D,ρ=[sR t,sP K r Z,sI 4,some (.vl (lz M.length K)),b4,b5,b6,b7,b8,sR M2.length,U,Lx,Tv,none,none,none,none,none,none]) /\
   ∃as:List (List Nat),M'[M2.length]?=some (.lst (as.map λR=>.vl (R.map nD)))/\as.length=j/\(∀(j:Nat)(g:F)(R:Y3),Z[j]?=some g->as[j]?=some R->Ae Z ie ad j g R)/\Rw Z K M.length ad M'/\Gs t f M.length M M'/\M'.length=M2.length+1)
  ⟨⟨none,none,none,rfl⟩,[],by simp,rfl,by simp,⟨λi hi=>yh (w2.rs i hi),w2.kd,w2.le,w2.nd⟩,g2.trans (Gs.app g2.has (by lia) _),by simp⟩
  (λj ρ M3 hj hI=>by
   refine hG λ_ _k=>?_
   obtain⟨⟨U,Lx,Tv,rfl⟩,as,q1,q2,q3,q4,q5,q6⟩:=hI;have qq:Z[j]?=some Z[j]:=by simp[hj]
   obtain⟨R,c7,k1⟩:=a5w (m:=m-1) (M:=M3) (r:=r) (r_ hm) P (q5.low _ _ u4 y4 hr) q4 qq (a0:=some (.ref t)) (a2:=some (.int 4)) (a4:=b4) (a5:=b5) (a6:=b6) (a7:=b7) (a8:=b8) (a9:=some (.ref M2.length)) (rest:=[none,none,none,none,none,none]) rfl;have ap:=Lg (d:=.vl (R.map nD)) q1 (by simp;exact c_ (f_ q2) (b_ hj (a_ hl (by decide))));have pe:∀ρ,(Tg.names [11,12]).put (eD Z[j]) ρ=some ((ρ.set 11 (some (.int Z[j].a))).set 12 (some (.int Z[j].b))):=λ_=>rfl
   simp only[xm,wy]at c7;apply _k;refine⟨_,.next,_,M3.set M2.length (.lst ((as.map λR=>.vl (R.map nD))++[.vl (R.map nD)])),rfl,by simp[Ir,Qz,Vg qq,pe,Lf q1,c7,ap],.inl rfl,⟨some (.int j),some (.int Z[j].a),some (.int Z[j].b),rfl⟩,as++[R],by rw[w6 q1];simp,by simp[q2],λj' g q7 hg G=>?_,⟨λi hi=>?_,q4.kd,q4.le,q4.nd⟩,q5.trans (Gs.ar9 q5.has (Low.set (by lia)) ht (by simp)),by simp[q6]⟩
   .by_cases z:j'<as.length
    .rw[dq z]at G;exact q3 j' g q7 hg G
    .have ze:j'=j:=by have:=(ak.mp G).1;simp at this;lia
     subst ze;rw[il (s_ z),q2]at G;simp at G;subst G;rw[qq]at hg;cases hg;exact k1
   .rw[um (by lia)];exact q4.rs i hi)
 apply _k;refine hG λ_ _k=>?_
 obtain⟨M4,e4,xw,z4,n4⟩:=amz (W:=⟨prog.call (m-1),prog.cls⟩) (t:=t) (M:=M3) (ρ:=[sR t,sP K r Z,sI 4,D.vl (lz M.length K),b4,b5,b6,b7,b8,sR M2.length,U,Lx,Tv,none,none,none,none,none,none]) rfl rfl w3.rs h3 w3.le (by lia);have g4:Gs t f M.length M M4:=g3.trans ⟨by obtain⟨n,h,o⟩:=g3.has;exact⟨n,z4 _ _ h,o⟩,λa o _ _ e=>z4 a o e,by lia⟩;have y6:Ac M2.length Z (λe=>(rowsOf Z ad e).length) as M4:=⟨z4 _ _ a3,a4,λj g R h1 h2=>⟨(a5 j g R h1 h2).len,(a5 j g R h1 h2).lt⟩⟩;have y7:Cgs Z as Z.length (λe=>List.range (rowsOf Z ad e).length):=λj g R _ h1 h2 x y hx hy e=>by
  have hl:=(a5 j g R h1 h2).len;have ex:(List.range (rowsOf Z ad g.a).length).getD x 0=x:=by simp[<-hl,hx]
  have ey:(List.range (rowsOf Z ad g.a).length).getD y 0=y:=by simp[<-hl,hy]
  simp only[ex,ey]at e;rw[e]
 obtain⟨u,M5,e5,l5,s5,n5⟩:=Cd (many:=4) (m:=m-1) (r_ hm) g4.has (by decide) (by decide);obtain⟨x7,M6,e6,⟨d5,z5,z3,z0,zq,q0,rfl⟩,ms,qv,j4,yy,g6,n6⟩:=Bs (W:=⟨prog.call (m-1),prog.cls⟩) (t:=.name 10) (b:=Cz) (it:=.call 14 (.p (.v 0) (.i 4))) (n:=u)
  (ρ:=[sR t,sP K r Z,sI 4,D.vl (lz M.length K),b4,b5,b6,b7,b8,sR M2.length,U,Lx,Tv,sR (M3.length+K),none,none,none,none,none]) (M:=M4) (M1:=M5) (by simp[e5]) (e_ (b_ (o_ l5) (by decide)))
  (λ_ ρ M'=>(∃b5 U Lx Tv zz q8:Option D,ρ=[sR t,sP K r Z,sI 4,some (.vl (lz M.length K)),b4,b5,b6,b7,b8,sR M2.length,U,Lx,Tv,sR (M3.length+K),zz,q8,none,none,none]) /\
   ∃ms,Mk t (M3.length+K) K (λe=>(rowsOf Z ad e).length) ms M'/\Cgs Z as Z.length ms/\Ac M2.length Z (λe=>(rowsOf Z ad e).length) as M'/\Gs t f M.length M M'/\M3.length+K<M'.length)
  ⟨⟨b5,U,Lx,Tv,none,none,rfl⟩,_,xw.st s5 (by lia),y7,y6.of λo e=>s5.keep _ _ (by lia) e,g4.trans (Gs.afv s5),by lia⟩
  (λi ρ M6 hi hI=>by
   refine hG λ_ _k=>?_
   obtain⟨⟨b5,U,Lx,Tv,zz,q8,rfl⟩,ms,q1,qc,q2,q3,q4⟩:=hI;obtain⟨c5,u7,y8,xy,jj,Ng,M7,e7,k1,kc,k2,k3⟩:=ays (m:=m-1) (r:=r) (p:=M.length) (r_ hm) P q3.has q1 q2 ht (by lia) q4 (by lia) (by lia) (by lia) w3.le qc (a2:=some (.int 4)) (a3:=some (.vl (lz M.length K))) (b4:=b4) (b5:=b5) (b6:=b6) (b7:=b7) (b8:=b8) (b10:=some (.int i)) (Lx:=Lx) (Tv:=Tv) (b14:=zz) (b15:=q8) (n16:=none) (n17:=none) (n18:=none);apply _k;exact⟨_,.next,_,M7,rfl,e7,.inl rfl,⟨c5,sI i,u7,y8,xy,jj,rfl⟩,Ng,k1,kc,k2,q3.trans k3,by have:=k3.len;exact b_ q4 this⟩)
 apply _k;obtain⟨hd,e7,zv,yk⟩:=asr (W:=⟨prog.call (m-1),prog.cls⟩) (M:=M6) (ρ:=[sR t,sP K r Z,sI 4,D.vl (lz M.length K),b4,d5,b6,b7,b8,sR M2.length,z5,z3,z0,sR (M3.length+K),zq,q0,none,none,none]) rfl rfl qv h3 w3.le;have zw:∀e,e<K->∃l,hd[e]?=some l/\l.length<=7/\∀x,x∈l↔x∈ms e:=λe he=>by have z:hd[e]?=some hd[e]:=bz (b_ he (g_ zv));obtain⟨y1,_,y2⟩:=yk e _ z;have:=w3.le e he;exact⟨_,z,a_ y1 this,y2⟩
 refine hG λ_ _k=>?_
 obtain⟨ρ8,M8,e8,⟨j5,uk,uu,y9,rfl⟩,td,t1,t2,t3,t4,g8,n8⟩:=Bs (W:=⟨prog.call (m-1),prog.cls⟩) (t:=.name 10) (b:=Eo) (it:=.blt .len (.o (.ix (.v 1) (.i 1)))) (n:=Z.length)
  (ρ:=[sR t,sP K r Z,sI 4,D.vl (lz M.length K),b4,d5,b6,b7,b8,sR M2.length,z5,z3,z0,sR (M3.length+K),zq,q0,D.vl (hd.map Uv),sR M6.length,none]) (M:=M6++[.lst []]) (M1:=M6++[.lst []]) (by simp[Qz,Ov]) (a_ hl (by decide))
  (λj ρ M'=>(∃U Lx Tv zk:Option D,ρ=[sR t,sP K r Z,sI 4,some (.vl (lz M.length K)),b4,d5,b6,b7,b8,sR M2.length,U,Lx,Tv,sR (M3.length+K),zq,q0,some (.vl (hd.map Uv)),sR M6.length,zk]) /\
   ∃td:List (List Nat),M'[M6.length]?=some (.lst (td.map λR=>.tup (R.map nD)))/\td.length=j/\(∀(j:Nat)(g:F)(R:Y3),Z[j]?=some g->td[j]?=some R->R.length=(hd.map List.length).getD g.a 0/\∀x∈R,x<(hd.map List.length).getD g.b 0)/\(∀(j:Nat)(g:F)(R:Y3),Z[j]?=some g->td[j]?=some R->∃s la lb,as[j]?=some s/\hd[g.a]?=some la/\hd[g.b]?=some lb/\R=Tw ms g s la lb)/\Ba M6 M'/\M'.length=M6.length+1)
  ⟨⟨z5,z3,z0,none,rfl⟩,[],by simp,rfl,by simp,by simp,Ba.app _ _,by simp⟩
  (λj ρ M7 hj hI=>by
   refine hG λ_ _k=>?_
   obtain⟨⟨U,Lx,Tv,zk,rfl⟩,td,q1,q2,q3,qe,q4,q5⟩:=hI;have qq:Z[j]?=some Z[j]:=by simp[hj]
   obtain⟨sj,ej,_⟩:=yy.get qq;have hg:=ao qq;obtain⟨la,x1,x2,x3⟩:=zw _ (P.abv _ hg);obtain⟨lb,y1,y2,y3⟩:=zw _ (P.V3 _ hg);have y5:=qv.frame (M':=M7) (λa o _ _ e=>q4 a o e) (by lia);have jv:=yy.of (M':=M7) λo e=>q4 _ _ e
   obtain⟨xv,zs,e9,kz,k1,k2⟩:=am2 (W:=⟨prog.call (m-1),prog.cls⟩) (r:=r) y5 jv (hl:=hd) qq ej (P.abv _ hg) (P.V3 _ hg) x1 y1 x3 y3 x2 q1 (by simp;exact c_ (f_ q2) (b_ hj (a_ hl (by decide)))) (a0:=some (.ref t)) (a2:=some (.int 4)) (a3:=some (.vl (lz M.length K))) (b4:=b4) (b5:=d5) (b6:=b6) (b7:=b7) (b8:=b8) (Lx:=Lx) (Tv:=Tv) (b14:=zq) (b15:=q0) (b18:=zk);apply _k;refine⟨_,.next,_,_,rfl,e9,.inl rfl,⟨some (.int j),some (.int Z[j].a),some (.int Z[j].b),xv,rfl⟩,td++[zs],by rw[w6 q1];simp,by simp[q2],λj' g q7 qk G=>?_,λj' g q7 qk G=>?_,λa o e=>?_,by simp[q5]⟩
   .by_cases z:j'<td.length
    .rw[dq z]at G;exact q3 j' g q7 qk G
    .have ze:j'=j:=by have:=(ak.mp G).1;simp at this;lia
     subst ze;rw[il (s_ z),q2]at G;simp at G;subst G;rw[qq]at qk;cases qk;have u1:(hd.map List.length).getD Z[j'].a 0=la.length:=by simp[dj,x1]
     have u2:(hd.map List.length).getD Z[j'].b 0=lb.length:=by simp[dj,y1]
     rw[u1,u2];exact⟨k1,k2⟩
   .by_cases z:j'<td.length
    .rw[dq z]at G;exact qe j' g q7 qk G
    .have ze:j'=j:=by have:=(ak.mp G).1;simp at this;lia
     subst ze;rw[il (s_ z),q2]at G;simp at G;subst G;rw[qq]at qk;cases qk;exact⟨sj,la,lb,ej,x1,y1,kz⟩
   .rw[um (by have:=yo e;exact i_ this)];exact q4 a o e)
 have c1:Ii.den ⟨prog.call (m-1),prog.cls⟩ [sR t,sP K r Z,sI 4,D.vl (lz M.length K),b4,d5,b6,b7,b8,sR M2.length,j5,uk,uu,sR (M3.length+K),zq,q0,D.vl (hd.map Uv),sR M6.length,y9] M8=.ok (.vl ((hd.map List.length).map nD)) M8:=by
  unfold Ii;rw[Bc (d:=.vl (hd.map Uv)) (ds:=hd.map Uv) (M1:=M8) (g:=λd=>match d with|.vl l=>.int l.length|_=>.non) (by simp) rfl (by simp;exact a_ (f_ zv) (a_ h3 (by decide))) (λz hz=>by
   obtain⟨l,z9,rfl⟩:=bf.mp hz;refine⟨_,rfl,?_⟩;simp[Uv,rm,Hv])]
  simp[Uv,nD]
 apply _k;refine⟨hd.map List.length,td,M8,?_,⟨by simp[zv],t2,λx hx=>?_,t3,λj1 j2 g1 g2 z1 z2 h1 h2 eg q1 q2 x hx=>?_⟩,?_⟩
 .simp only[xm,wy]at e2
  have xk:Om.den ⟨prog.call (m-1),prog.cls⟩ _ _=_:=e2;have x6:Oj.den ⟨prog.call (m-1),prog.cls⟩ _ _=_:=e3;have yv:Oi.den ⟨prog.call (m-1),prog.cls⟩ _ _=_:=e6;have u6:Og.den ⟨prog.call (m-1),prog.cls⟩ _ _=_:=e8;have uj:Nb.den ⟨prog.call (m-1),prog.cls⟩ _ _=_:=r0;simp[-List.map_map,Fn.run,Sv,Su,uj,xk,MW.new,x6,e4,yv,e7,u6,c1,Ot,rm,W6 (ou t1),gh]
 .refine hG λ_ _k=>?_
  obtain⟨l,z9,rfl⟩:=bf.mp hx;obtain⟨i,hi,rfl⟩:=qm z9;obtain⟨l2,y1,y2,_⟩:=zw i (b_ hi (f_ zv));rw[bz hi]at y1;cases y1;apply _k;exact y2
 .refine hG λ_ _k=>?_
  obtain⟨s1,la,lb,i1,i2,i3,rfl⟩:=t4 _ _ _ h1 q1;obtain⟨s2,lb',lc,i4,i5,i6,rfl⟩:=t4 _ _ _ h2 q2;rw[<-eg,i3]at i5;cases i5;have x4:x<la.length:=by simpa[Tw]using hx
  apply _k;rcases func P w3.nd qv.len qv.lt qv.fx j4 a5 (λe l he=>(yk e l he).2) h1 h2 eg i1 i4 i2 i3 i6 x4 with⟨e1,e2⟩|⟨j3,e1,e2,e3⟩
  .rw[e2,Bl,bx e1]
  .refine hG λ_ _k=>?_
   have l3:=(ak.mp e2).1;have u3:td[j3]?=some td[j3]:=bz (b_ l3 (g_ t2));obtain⟨s3,la',lc',i7,i8,i9,y0⟩:=t4 _ _ _ e2 u3;have i8:hd[g1.a]?=some la':=i8;have i9:hd[g2.b]?=some lc':=i9;rw[i2]at i8;cases i8;rw[i6]at i9;cases i9;have nj:¬((j3:Int)=-1):=by lia
   apply _k;rw[e3 _ i7,<-y0,Bl,e1,bw nj];simp[dj,u3]
 .have:Gs t f M.length M M8:=g6.trans ⟨by obtain⟨n,h,o⟩:=g6.has;exact⟨n,g8 _ _ h,o⟩,λa o _ _ e=>g8 a o e,by lia⟩
  exact this.st
def t7(l:Y3):D:=.tup (l.map nD)
def Nh(s:Y3)(a:List (List Nat))(M:di):Aw (gh s a) (.int 0) M=some (t7 s):=rfl
def Tz(s:Y3)(a:List (List Nat))(M:di):Aw (gh s a) (.int 1) M=some (.tup (a.map t7)):=rfl
def Ni{l:Y3}(h:i<l.length):Aw (t7 l) (.int i) M=some (.int (l.getD i 0)):=J2 q_ (by simp[h,nD])
def afz{a:List (List Nat)}{j:Nat}(h:a[j]?=some Z):Aw (.tup (a.map t7)) (.int j) M=some (t7 Z):=J2 q_ (by simp[h])
def kinds_ok(Z:1<=m)(h:Made n r K U G M):prog.call m 1 [.ref n] M=.ok (.int K) M:=by rw[call_of Z rfl];simp[Fn.run,Mr,Mq,h.f2]
def T3(R:o.den W ρ M=.ok (.ref n) M)(G:es.den W ρ M=.ok ds M)(U:M[n]?=some (.ins c fs))(Z:(W.cls[c]?).bind (λC=>C.meths.lookup mm)=some fi) :
 (Ex.meth o mm es).den W ρ M=W.call fi (.ref n::ds) M:=by
 rw[Gq,R,Res.Br,G,Res.Br];simp only[U,Z]
def am4(Z:2<=m)(h:Made n r K U G M)(R:bothW U G x y=some v):prog.call m 3 [.ref n,.int x,.int y] M=.ok v M:=by rw[call_of (a_ (by decide) Z) rfl];simp[Fn.run,Kp,Ko,h.f0,abw (show 1<=m-1 by exact r_ Z) h.2 R]
def ahz(Z:List F)(k:Nat):zy Z k (.int (-1))=k:=by simp[zy]
def asv(P:Ji sz K Z ie)(U:.int x∈rz Z k)(G:.int y∈rz Z (zy Z k (.int x))) :
 ∃v:Int,bothW Z ie x y=some (.int v)/\.int v∈rz Z k/\zy Z k (.int v)=zy Z (zy Z k (.int x)) (.int y):=by
 rcases By U with q|⟨i,f,q,hf,ef⟩
 .cases q
  rw[ahz]at G⊢;exact⟨y,by simp[bothW],G,rfl⟩
 .cases q
  rw[Bv hf]at G⊢;have ni:¬((i:Int)=-1):=by lia
  rcases By G with q|⟨j,g,q,hg,eg⟩
  .cases q
   exact⟨i,by simp[bothW,ni],U,by rw[Bv hf,ahz]⟩
  .cases q
   have hw:.int (i:Int)∈wT Z k g.a:=ue.mpr ⟨U,by simp[Bv hf,eg]⟩;obtain⟨x',z,_,R,h2⟩:=akk P hg hw;cases z;obtain⟨h3,h4⟩:=acr h2;exact⟨_,R,h3,by rw[h4,Bv hg]⟩
def K4.act(w:K4 K hs qj U){i:Nat}(hg:hs[i]?=some g):∃Z,U[i]?=some Z/\(∀th,Bl U th i=Z.getD th 0)/\Z.length=qj.getD g.a 0/\∀x∈Z,x<qj.getD g.b 0:=by
 have G:=(ak.mp hg).1;have R:U[i]?=some (U[i]'(by rw[w.la];exact G)):=bz _;generalize U[i]'(by rw[w.la];exact G)=Z at R;have ni:¬((i:Int)=-1):=by lia
 exact⟨Z,R,λth=>by simp[Bl,ni,dj,R],w.ok i g Z hg R⟩
def acz(Z:List (List Nat))(th:Nat):Bl Z th (-1)=th:=by simp[Bl]
def a6d(w:K4 K U Z xu)(hx:.int x∈rz U k)(G:R<Z.getD k 0):Bl xu R x<Z.getD (zy U k (.int x)) 0:=by
 rcases By hx with q|⟨i,f,q,hf,ef⟩
 .cases q;rw[acz,ahz];exact G
 .cases q
  obtain⟨js,h1,h2,h3,h4⟩:=w.act hf;rw[h2,Bv hf];exact h4 _ (getD_mem' (by rw[h3,ef];exact G))
def ayv(P:Ji sz K Z ie)(w:K4 K Z qj xu)(hx:.int x∈rz Z k)(hy:.int y∈rz Z (zy Z k (.int x)))(G:bothW Z ie x y=some (.int v))(Zh:U<qj.getD k 0):Bl xu (Bl xu U x) y=Bl xu U v:=by
 rcases By hx with q|⟨i,f,q,hf,ef⟩
 .cases q
  have:v=y:=by simpa[bothW]using G.symm
  rw[acz,this]
 .cases q
  have ni:¬((i:Int)=-1):=by lia
  rw[Bv hf]at hy;rcases By hy with q|⟨j,g,q,hg,eg⟩
  .cases q
   have:v=i:=by simpa[bothW,ni]using G.symm
   rw[acz,this]
  .cases q
   have nj:¬((j:Int)=-1):=by lia
   rw[bothW,bw ni,bw nj]at G;have:=P.look hf hg eg.symm;have R:v=ent Z f g:=by have:=G.symm.trans this;simpa using this
   obtain⟨a1,h1,h2,h3,_⟩:=w.act hf;obtain⟨a2,g1,g2,g3,_⟩:=w.act hg;rw[h2,g2,R];exact w.fu i j f g a1 a2 hf hg eg.symm h1 g1 U (by rw[h3,ef];exact Zh)
def asw(hm:1<=m)(w:K4 K hs G R)(hx:.int x∈rz hs k)(Zh:Z<G.getD k 0):prog.call m 25 [gh G R,.int Z,.int x] M=.ok (.int (Bl R Z x)) M:=by
 rw[call_of hm rfl];rcases By hx with q|⟨i,g,q,hg,rfl⟩
 .cases q
  rw[acz];simp[Fn.run,aiv,aiu]
 .cases q
  obtain⟨js,h1,h2,h3,_⟩:=w.act hg;rw[h2];have U:=Ni (M:=M) (l:=js) (i:=Z) (b_ Zh (g_ h3));have ni:¬((i:Int)=-1):=by lia
  generalize js.getD Z 0=y at U;simp[Fn.run,aiv,aiu,ni,Tz,afz h1,U]
def Zd(G:it.den W U M=.ok (.tup ds) M1)(R:ds.length<=100000)
 (h:∀x∈ds,∃Z,t.put x (U++List.replicate k none)=some Z/\c.den W Z M1=.ok (.bl (q x)) M1/\(q x=true->e.den W Z M1=.ok (g x) M1)) :
 (Ex.Du v k t (.val it) c e).den W U M=if v then .ok (.vl ((ds.filter q).map g)) M1 else new (.lst ((ds.filter q).map g)) M1:=by
 rw[U4,Lb,G];simp only[Res.Br,srcOf,Res.Dt];rw[W9 (ds:=ds) (g:=λx=>if q x then some (g x)else none) R (λx hx=>by
  obtain⟨Z,a,b,c⟩:=h x hx;rw[a,Res.Dt,Res.Br,b,Res.Br];cases e:q x with
  | true=>simp[c e]|false=>simp)]
 have:ds.filterMap (λx=>if q x then some (g x)else none)=(ds.filter q).map g:=by
  clear h R G
  induction ds with
  |nil=>rfl|cons a l ih=>by_cases e:q a=true<;>simp[e,ih]
 rw[this];rfl
section
variable{W:Jm}{ρ:Env}{M:di}{t:Tg}{it:Nt}{ds:List D}
def Pq{g:Nat->D}(R:it.den W ρ M=.ok (.con ds) M)(hl:ds.length<=100000)(h:∀(i:Nat) d,ds[i]?=some d->∃G,t.put d (ρ++List.replicate k none)=some G/\e.den W G M=.ok (g i) M) :
 (Ex.comp true k t it e).den W ρ M=.ok (.vl ((List.range ds.length).map g)) M:=by
 rw[Hu,R];obtain⟨ys,Z,e1,e2,rfl⟩:=Hx (fin:=(Src.con ds).fin) (item:=(Src.con ds).item) (body:=λd M=>(Res.ux (t.put d (ρ++List.replicate k none)) M).bind λU M=>(e.den W U M).bind λx Z=>.ok (some x) Z) (λi xs Z=>xs=(List.range i).map g/\Z=M) (n:=ds.length) (λi xs Z hi h1=>by
  obtain⟨rfl,rfl⟩:=h1;obtain⟨G,a,b⟩:=h i ds[i] (by simp[hi]);exact⟨_,some (g i),Z,by simp[Src.item,hi];rfl,by rw[a];simp[b],by simp[vd],rfl⟩) (λ_ _ _=>rfl) ds.length 0 [] M (uy _) ⟨rfl,rfl⟩
 show(z8 (.con ds) _ Z).bind _=_;rw[z8,show(Src.con ds).len=ds.length from rfl,bx hl,e1,<-e2];rfl
def akv{e:Ex}{n:Nat}(h:e.den W ρ M=.ok (.int (n:Nat)) M)(Z:n<=100000):(Nt.Mp e).den W ρ M=.ok (.con ((List.range n).map nD)) M:=by rw[Ld,h,Res.Br];show(if(n:Int).natAbs<=100000 then _ else _)=_;rw[bx (by lia)];rfl
def Pr(U:it.den W ρ M=.ok (.con ds) M)(E:Env->Prop)(h0:E ρ)(step:∀(i:Nat) d ρ,ds[i]?=some d->E ρ->∃Z ρ',t.put d ρ=some Z/\b.den W Z M=.ok (.next,ρ') M/\E ρ') :
 ∃ρ',(Ce.for_ t it b).den W ρ M=.ok (.next,ρ') M/\E ρ':=by
 obtain⟨fl,ρ',G,e,⟨rfl,h,rfl⟩|⟨v,rfl,h⟩⟩:=Wc (s:=.con ds) (n:=ds.length) (t:=t) (b:=b) U rfl (λ_ ρ G=>E ρ/\G=M) (λ_ _=>False) ⟨h0,rfl⟩ (λ_ _ _=>rfl) (λi ρ G R hI=>by
  obtain⟨h,rfl⟩:=hI;obtain⟨Z,ρ',a,b,c⟩:=step i ds[i] ρ (by simp[R]) h;exact⟨_,Z,by simp[Src.item,R],a,.next,ρ',G,b,.inl ⟨rfl,c,rfl⟩⟩)
 .exact⟨ρ',e,h⟩
 .exact h.elim
end
structure Fits(s1 s2:Y3)(r:List (List Nat)):Prop where
 len:r.length=s1.length
 ok:∀(k:Nat)(js:Y3),r[k]?=some js->js.length=s1.getD k 0/\∀x∈js,x<s2.getD k 0
def rD(r:List (List Nat)):D:=.tup (r.map t7)
def asx{j:Nat}(h:r[j]?=some Z):Aw (rD r) (.int j) M=some (t7 Z):=J2 q_ (by simp[h])
def Pa{Z:Type}{l:List Z}{i:Nat}(h:i<l.length):∃x,l[i]?=some x:=⟨l[i],by simp[h]⟩
def Dr{Z:Type}{l:List Z}{i:Nat}{x d:Z}(h:l[i]?=some x):l.getD i d=x:=by simp[dj,h]
def asy(M:di)(l:Y3):rm .len [t7 l] M=.ok (.int l.length) M:=by simp[rm,Hv,t7]
def a6e(M:di)(r:List (List Nat)):rm .len [rD r] M=.ok (.int r.length) M:=by simp[rm,Hv,rD]
theorem all_true:∀n,allB (List.replicate n (.bl true))=some true
 |0=>rfl|n+1=>by rw[List.replicate_succ,allB,all_true n];rfl
def ac0(M:di)(n:Nat):rm .all [.vl (List.replicate n (.bl true))] M=.ok (.bl true) M:=by show Res.ux ((allB _).map D.bl) M=_;rw[all_true];rfl
def zip_get{i:Nat}(h:(Q4 ls n)[i]?=some d):i<n/\d=.tup (ls.map λl=>l.getD i .non):=by
 have Z:i<n:=by simpa[Q4]using(ak.mp h).1
 simp[Q4,Z]at h;exact⟨Z,h.symm⟩
def ac8{l:Y3}{i:Nat}(h:(l.map nD)[i]?=some d):∃y,l[i]?=some y/\d=.int y/\y∈l:=by rw[iz]at h;obtain⟨y,Z,rfl⟩:=cj.mp h;exact⟨y,Z,rfl,ao Z⟩
def Fits.get(f:Fits s1 s2 G){k:Nat}(h:k<s1.length):∃Z,G[k]?=some Z/\Z.length=s1.getD k 0/\∀x∈Z,x<s2.getD k 0:=by obtain⟨Z,e⟩:=Pa (l:=G) (i:=k) (by rw[f.len];exact h);exact⟨Z,e,f.ok k Z e⟩
def K4.get(w:K4 K G s1 a1){k:Nat}{g:F}(h:G[k]?=some g):∃Z,a1[k]?=some Z/\Z.length=s1.getD g.a 0/\∀x∈Z,x<s1.getD g.b 0:=by obtain⟨Z,e⟩:=Pa (l:=a1) (i:=k) (by rw[w.la];exact(ak.mp h).1);exact⟨Z,e,w.ok k g Z h e⟩
def K4.s7(w:K4 K Z s1 a1)(k:Nat):s1.getD k 0<=7:=by
 rw[dj];cases e:s1[k]? with
 |none=>simp|some y=>exact w.sm y (ao e)
def asz(hm:1<=m)(w1:K4 K hs s1 a1)(w2:K4 K hs s2 a2)(f:Fits s1 s2 Z):prog.call m 27 [gh s1 a1,gh s2 a2,rD Z] M=.ok (.bl true) M:=by
 rw[call_of hm rfl];have h:s2.length=s1.length:=by rw[w2.ls,w1.ls]
 obtain⟨qq,e,b3,b4,R,rfl⟩:=Pr (W:=⟨prog.call (m-1),prog.cls⟩) (t:=.names [3,4,5]) (b:=Lq) (it:=.zip (.q (.v 2) (.ix (.v 0) (.i 0)) (.ix (.v 1) (.i 0)))) (ρ:=[gh s1 a1,gh s2 a2,rD Z,none,none,none]) (M:=M)
  (ds:=Q4 [Z.map t7,s1.map nD,s2.map nD] s1.length) (by simp[Nh,rD,t7,Nu,f.len,h]) (fun ρ=>∃b3 b4 R:Option D,ρ=[some (gh s1 a1),some (gh s2 a2),some (rD Z),b3,b4,R]) ⟨none,none,none,rfl⟩
  (λi d ρ hd hE=>by
   obtain⟨b3,b4,R,rfl⟩:=hE;obtain⟨hi,rfl⟩:=zip_get hd;obtain⟨G,x1,U,x3⟩:=f.get hi;have hl:=w1.s7 i;obtain⟨A,y1⟩:=Pa hi;obtain⟨B,y2⟩:=Pa (l:=s2) (b_ hi (g_ h));rw[Dr y1]at U hl;rw[Dr y2]at x3;refine⟨[some (gh s1 a1),some (gh s2 a2),some (rD Z),some (t7 G),some (.int A),some (.int B)],_,by simp[Tg.put,J1,x1,y1,y2,nD],?_,some (t7 G),some (.int A),some (.int B),rfl⟩;have c1:Lp.den ⟨prog.call (m-1),prog.cls⟩ [gh s1 a1,gh s2 a2,rD Z,t7 G,D.int A,D.int B] M=.ok (.vl (List.replicate A (.bl true))) M:=by
    unfold Lp;rw[Pq (g:=λ_=>.bl true) (ds:=G.map nD) rfl (by rw[du,U];exact a_ hl (by decide)) (λi d hd=>by
     obtain⟨y,h1,rfl,h2⟩:=ac8 hd;have:=x3 y h2;exact⟨_,rfl,by simp[this]⟩)]
    simp[List.map_const',U]
   simp[Lq,asy,U,c1,ac0])
 have e:Rz.den ⟨prog.call (m-1),prog.cls⟩ _ _=_:=e;simp[Fn.run,Xg,Xf,a6e,asy,Nh,f.len,e]
structure af0(hs:List F)(s1 s2:Y3)(a1 a2 r:List (List Nat)):Prop where
 fit:Fits s1 s2 r
 go:∀(k:Nat)(g:F),hs[k]?=some g->∀x,x<s1.getD g.a 0->(r.getD g.b []).getD ((a1.getD k []).getD x 0) 0=(a2.getD k []).getD ((r.getD g.a []).getD x 0) 0
def bca(hm:1<=m){k Z:Nat}(h:a2[k]?=some G)(R:Z<G.length):prog.call m 25 [gh s2 a2,.int Z,.int k] M=.ok (.int (G.getD Z 0)) M:=by
 rw[call_of hm rfl];have U:=Ni (M:=M) (l:=G) (i:=Z) R;have ni:¬((k:Int)=-1):=by lia
 generalize G.getD Z 0=y at U;simp[Fn.run,aiv,aiu,ni,Tz,afz h,U]
noncomputable abbrev EF(n:Nat)(w1 w2 r:D)(b4 b5 b6 b7 b8 b9:Option D):Env:=[some (.ref n),some w1,some w2,some r,b4,b5,b6,b7,b8,b9]
def as3{i:Nat}(h:(Ei l 0)[i]?=some d):∃x,l[i]?=some x/\d=.tup [.int i,x]:=by simp[Ei]at h;obtain⟨x,Z,rfl⟩:=h;exact⟨x,Z,rfl⟩
def as4(hm:2<=m)(P:Ji sz K hs ie)(h:Made n r K hs ie M)(w1:K4 K hs s1 a1)(w2:K4 K hs s2 a2)(f:af0 hs s1 s2 a1 a2 R):prog.call m 28 [.ref n,gh s1 a1,gh s2 a2,rD R] M=.ok .non M:=by
 rw[call_of (a_ (by decide) hm) rfl];refine hG λ_ _k=>?_
 have m1:1<=m-1:=r_ hm
 have g1:=T3 (M:=M) (W:=⟨prog.call (m-1),prog.cls⟩) (n:=n) (ρ:=EF n (gh s1 a1) (gh s2 a2) (rD R) none none none none none none) (o:=.v 0) (mm:=1) (es:=.z) (ds:=[]) (fi:=2) (by simp) (by simp) h.1 rfl;obtain⟨qk,e,b4,b5,b6,b7,G,Z,rfl⟩:=Pr (W:=⟨prog.call (m-1),prog.cls⟩) (t:=.names [4,5]) (b:=Ih) (it:=.enm (.meth (.v 0) 1 .z)) (ds:=Ei (hs.map eD) 0) (ρ:=EF n (gh s1 a1) (gh s2 a2) (rD R) none none none none none none) (M:=M) (by simp[-Gq,g1,Ut m1 h,Gr])
  (λU=>∃b4 b5 b6 b7 G Z,U=EF n (gh s1 a1) (gh s2 a2) (rD R) b4 b5 b6 b7 G Z) ⟨none,none,none,none,none,none,rfl⟩
  (λk d U hd hE=>by
   refine hG λ_ _k=>?_
   obtain⟨b4,b5,b6,b7,G,Z,rfl⟩:=hE;obtain⟨x,hx,rfl⟩:=as3 hd;rw[iz]at hx;obtain⟨g,hg,rfl⟩:=cj.mp hx;have qj:=ao hg;obtain⟨j1,x1,x2,x3⟩:=w1.get hg;obtain⟨j2,y1,y2,y3⟩:=w2.get hg;obtain⟨ra,u1,u2,u3⟩:=f.fit.get (k:=g.a) (by rw[w1.ls];exact P.abv g qj);obtain⟨rb,v1,v2,v3⟩:=f.fit.get (k:=g.b) (by rw[w1.ls];exact P.V3 g qj);obtain⟨qv,e3,c8,c9,rfl⟩:=Pr (W:=⟨prog.call (m-1),prog.cls⟩) (t:=.names [8,9]) (b:=Ig) (it:=.enm (.ix (.ix (.v 1) (.i 1)) (.v 4))) (ds:=Ei (j1.map nD) 0) (ρ:=EF n (gh s1 a1) (gh s2 a2) (rD R) (some (.int k)) (some (eD g)) (some (t7 ra)) (some (t7 rb)) G Z) (M:=M) (by simp[Tz,afz x1,t7])
    (λU=>∃G Z,U=EF n (gh s1 a1) (gh s2 a2) (rD R) (some (.int k)) (some (eD g)) (some (t7 ra)) (some (t7 rb)) G Z) ⟨G,Z,rfl⟩
    (λx d U hd hE=>by
     refine hG λ_ _k=>?_
     obtain⟨G,Z,rfl⟩:=hE;obtain⟨_,hx,rfl⟩:=as3 hd;obtain⟨z,hz,rfl,zm⟩:=ac8 hx;apply _k;have qq:x<s1.getD g.a 0:=by rw[<-x2];exact(ak.mp hz).1
     have zl:=x3 z zm;have gg:=f.go k g hg x qq;rw[Dr v1,Dr x1,Dr y1,Dr u1,Dr hz]at gg;have i1:=Ni (M:=M) (l:=ra) (i:=x) (b_ qq (g_ u2));have yl:=u3 _ (getD_mem' (b_ qq (g_ u2)));have l1:=bca (M:=M) (s2:=s2) m1 y1 (b_ yl (g_ y2));have i2:=Ni (M:=M) (l:=rb) (i:=z) (b_ zl (g_ v2));rw[gg]at i2;generalize ra.getD x 0=y at i1 l1 i2;generalize j2.getD y 0=p at l1 i2;exact⟨_,_,rfl,by simp[Ig,J1,i1,l1,i2],some (.int x),some (.int z),rfl⟩)
   have e3:Od.den ⟨prog.call (m-1),prog.cls⟩ _ _=_:=e3;apply _k;exact⟨EF n (gh s1 a1) (gh s2 a2) (rD R) (some (.int k)) (some (eD g)) b6 b7 G Z,_,rfl,by simp[Ih,Xn,Xo,asx u1,asx v1,e3],some (.int k),some (eD g),some (t7 ra),some (t7 rb),c8,c9,rfl⟩)
 have e:Oe.den ⟨prog.call (m-1),prog.cls⟩ _ _=_:=e;apply _k;simp[Fn.run,R9,R8,e]
def as5(U:3<=m)(P:Ji sz K Z ie)(h:Made n r K Z ie M)(R:K4 K Z s1 a1)(w2:K4 K Z s2 a2)(f:af0 Z s1 s2 a1 a2 rr):prog.call m 26 [.ref n,gh s1 a1,gh s2 a2,rD rr] M=.ok (.bl true) M:=by rw[call_of (a_ (by decide) U) rfl];have G:Fe .is .non .non M=some true:=rfl;have e1:=asz (m:=m-1) (M:=M) (r_ (a_ (by decide) U)) R w2 f.fit;have e2:=as4 (m:=m-1) (r_ U) P h R w2 f;simp[Fn.run,ad4,ad3,e1,e2,G]
def DS(p K:Nat)(f:Nat->List (Kx×D))(M:di):Prop:=∀i,i<K->M[p+i]?=some (.dK (f i))
noncomputable def upK(f:Nat->List (Kx×D))(i:Nat)(x:List (Kx×D))(j:Nat):List (Kx×D):=if j=i then x else f j
def Ze(f:Nat->List (Kx×D))(i:Nat)(x:List (Kx×D)):upK f i x i=x:=bx rfl
def ac9(h:j≠i):upK f i x j=f j:=bw h
structure Gd(K c:Nat)(hs:List F)(s1 s2:Y3)(a1 a2:List (List Nat))(f:Nat->List (Kx×D)):Prop where
 len:∀i,i<K->(f i).length<=c
 val:∀i q d,i<K->v7 (f i) q=some d->∃x y:Nat,q=.inl (x:Int)/\d=.int y/\x<s1.getD i 0/\y<s2.getD i 0/\∀(j:Nat)(g:F),hs[j]?=some g->g.a=i->v7 (f g.b) (.inl (Bl a1 x j:Nat))=some (.int (Bl a2 y j:Nat))
section
variable{m:Nat}{M:di}{sz:Nat->Nat}{K n r p c:Nat}{hs:List F}{ie:List (List Kx×D)}{s1 s2:Y3}{a1 a2:List (List Nat)}{f:Nat->List (Kx×D)}
def Pu(a:List (List Nat))(x i:Nat):Bl a x (i:Int)=(a.getD i []).getD x 0:=by
 have:¬((i:Int)=-1):=by lia
 simp[Bl,this]
def Px(hm:1<=m)(w:K4 K hs s1 a1)(hx:.int x∈rz hs k)(G:Z<s1.getD k 0):prog.call m 40 [gh s1 a1,.int Z,.int x] M=.ok (.int (Bl a1 Z x:Nat)) M/\Bl a1 Z x<s1.getD (zy hs k (.int x)) 0:=by
 rw[call_of hm rfl];rcases By hx with q|⟨i,g,q,hg,rfl⟩
 .cases q
  exact⟨by simp[Fn.run,Rf,Rc,Bl],by simpa[Bl,zy]using G⟩
 .cases q
  obtain⟨js,U,R,h3⟩:=w.get hg;have i1:=Ni (M:=M) (l:=js) (i:=Z) (b_ G (g_ R));have ni:¬((i:Int)<0):=by lia
  rw[Pu,Dr U,Bv hg];refine⟨?_,h3 _ (getD_mem' (b_ G (g_ R)))⟩;generalize js.getD Z 0=y at i1;simp[Fn.run,Rf,Rc,ni,Tz,afz U,i1]
def ayx(P:Ji sz K hs ie)(U:.int w∈rz hs k){j:Nat}(Z:hs[j]?=some g)(e:g.a=zy hs k (.int w)) :
 ∃w':Int,.int w'∈rz hs k/\zy hs k (.int w')=g.b/\∀{s a},K4 K hs s a->∀x,x<s.getD k 0->Bl a (Bl a x w) j=Bl a x w':=by
 rcases By U with q|⟨i,g1,q,hg,rfl⟩
 .cases q
  have e:g.a=k:=by simpa[zy]using e
  exact⟨j,Uu Z e,Bv Z,λ_ x _=>by simp[Bl]⟩
 .cases q
  rw[Bv hg]at e;have G:∀{s a},K4 K hs s a->∀x,x<s.getD g1.a 0->Bl a (Bl a x i) j=Bl a x (ent hs g1 g):=fun{s a} W x U=>by obtain⟨b1,h1,h2,_⟩:=W.get hg;obtain⟨b2,h3,_⟩:=W.get Z;rw[Pu,Pu,Dr h1,Dr h3];exact W.fu i j g1 g b1 b2 hg Z e.symm h1 h3 x (b_ U (g_ h2))
  rw[J9]at G;rcases P.Dd (P.cl g1 (ao hg) g (ao Z) e.symm)with⟨R,i1⟩|⟨u,hu,R⟩
  .rw[R]at G
   have:g1.a=g.b:=i1.1;exact⟨-1,by simp[rz],by simpa[zy]using this,G⟩
  .rw[R]at G
   exact⟨u,Uu hu rfl,(Bv hu:_=(g1.comp g).b),G⟩
def ayy(Z:ρ.length=12)(h3:ρ[3]?=some (some (.vl (lz p K))))(h:DS p K f M)(hK:K<=3) :
 ∃M',Iz.den W ρ M=.ok (.vl (lz M.length K)) M'/\DS M.length K f M'/\Ba M M':=by
 unfold Iz;refine hG λ_ _k=>?_
 obtain⟨ys,M1,e,r1,r2,r3,r4⟩:=Gj (W:=W) (v:=true) (k:=1) (t:=.name 12) (it:=.v 3) (e:=.blt .dict (.o (.v 12))) (ρ:=ρ) (M:=M) (M1:=M) (d:=.vl (lz p K)) (ds:=lz p K) (by simp[h3]) rfl (by simp[lz];exact a_ hK (by decide))
  (λi xs M'=>xs=lz M.length i/\(∀e,e<i->M'[M.length+e]?=some (.dK (f e)))/\Ba M M'/\M'.length=M.length+i) ⟨rfl,λe he=>absurd he (uf _),Ba.refl M,rfl⟩ (λ_ _ _ _=>rfl)
  (λi y xs M' hy hI=>by
   obtain⟨rfl,q1,q2,R⟩:=hI;have G:i<K:=by have:=(ak.mp hy).1;simpa[lz]using this
   obtain rfl:D.ref (p+i)=y:=by simpa[lz,G]using hy
   have hp:=q2 _ _ (h i G);have e1:(ρ++List.replicate 1 none).set 12 (some (.ref (p+i)))=ρ++[some (.ref (p+i))]:=by rw[Bj];simp[Z]
   have g9:(ρ++[some (D.ref (p+i))])[12]?=some (some (.ref (p+i))):=by rw[<-Z];simp
   refine⟨_,.ref M'.length,M'++[.dK (f i)],rfl,?_,?_,λe he=>?_,q2.trans (Ba.app _ _),by simp[R];exact rfl⟩
   .rw[e1]
    simp[g9,rm,hp,MW.new]
   .simp[lz,vd,R]
   .by_cases z:e=i
    .subst z;rw[<-R];simp
    .exact yh (q1 e (by lia)))
 have U:(lz p K).length=K:=by simp[lz]
 rw[U]at r1 r2 r4;subst r1;apply _k;exact⟨M1,e,λi G=>r2 i G,r3⟩
noncomputable abbrev EK(pt w1 w2 kn:D)(kd th e:Nat)(mo:D)(b8 b9 b10 Lx:Option D):Env:=[some pt,some w1,some w2,some kn,some (.int kd),some (.int th),some (.int e),some mo,b8,b9,b10,Lx]
def Zv(K:Nat)(f Z:Nat->List (Kx×D)):Prop:=∀i q d,i<K->v7 (f i) q=some d->v7 (Z i) q=some d
def bcc(K:Nat)(hs:List F)(Z U e:Nat)(a1 a2:List (List Nat))(f G:Nat->List (Kx×D)):Prop:=∀i q d,i<K->v7 (G i) q=some d->v7 (f i) q=some d\/∃w:Int,.int w∈rz hs Z/\i=zy hs Z (.int w)/\q=.inl (Bl a1 U w:Nat)/\d=.int (Bl a2 e w:Nat)
def In1(hs:List F)(Z U e:Nat)(a1 a2:List (List Nat))(G:Nat->List (Kx×D))(n:Nat):Prop:=∀(j:Nat)(w:Int),j<n->(rz hs Z)[j]?=some (.int w)->v7 (G (zy hs Z (.int w))) (.inl (Bl a1 U w:Nat))=some (.int (Bl a2 e w:Nat))
def as6(P:Ji sz K hs ie)(w1:K4 K hs s1 a1)(w2:K4 K hs s2 a2)(g:Gd K c hs s1 s2 a1 a2 f)(hk:kd<K)(ht:R<s1.getD kd 0)(he:e<s2.getD kd 0)(hl:∀i,i<K->(f' i).length<=c')(mo:Zv K f f')(sr:bcc K hs kd R e a1 a2 f f')(ii:In1 hs kd R e a1 a2 f' (rz hs kd).length):Gd K c' hs s1 s2 a1 a2 f':=
 ⟨hl,λi q d Z h=>by
  rcases sr i q d Z h with h|⟨w,h1,rfl,rfl,rfl⟩
  .refine hG λ_ _k=>?_
   obtain⟨x,y,rfl,rfl,x1,x2,x3⟩:=g.val i q d Z h;apply _k;exact⟨x,y,rfl,rfl,x1,x2,λj o G U=>mo _ _ _ (P.V3 o (ao G)) (x3 j o G U)⟩
  .refine⟨_,_,rfl,rfl,(Px (m:=1) (M:=[]) (bh _) w1 h1 ht).2,(Px (m:=1) (M:=[]) (bh _) w2 h1 he).2,λj o G U=>?_⟩
   obtain⟨w',y1,y2,y3⟩:=ayx P h1 G U;obtain⟨i,Z⟩:=List.getElem?_of_mem y1;rw[y3 w1 _ ht,y3 w2 _ he,<-y2];exact ii i w' (ak.mp Z).1 Z⟩
def as7(hm:2<=m)(P:Ji sz K hs ie)(w1:K4 K hs s1 a1)(w2:K4 K hs s2 a2)(hd:DS p K f M)(hg:Gd K c hs s1 s2 a1 a2 f)(hc:c<=1000)(hk:kd<K)(ht:G<s1.getD kd 0)(he:e<s2.getD kd 0) :
 ∃v R,prog.call m 41 [De K r hs,gh s1 a1,gh s2 a2,.vl (lz p K),.int kd,.int G,.int e] M=.ok v R/\Ba M R /\
  ((v=.non/\¬∀i,i<K->s2.getD i 0=1)\/∃Z,v=.vl (lz M.length K)/\DS M.length K Z R/\Gd K (c+6) hs s1 s2 a1 a2 Z/\Zv K f Z/\(v7 (Z kd) (.inl (G:Int))).isSome=true):=by
 rw[call_of (a_ (by decide) hm) rfl];have qk:=P.len;have h3:=P.k3;have m1:1<=m-1:=r_ hm
 obtain⟨M0,e0,d0,k0⟩:=ayy (W:=⟨prog.call (m-1),prog.cls⟩) (ρ:=[De K r hs,gh s1 a1,gh s2 a2,D.vl (lz p K),D.int kd,D.int G,D.int e,none,none,none,none,none]) rfl rfl hd h3;have wl:=Y7 (hs:=hs) (k:=kd) qk;have qv:=Wc (W:=⟨prog.call (m-1),prog.cls⟩) (t:=.name 8) (b:=Er) (it:=.val (.call 18 (.p (.v 0) (.v 4)))) (s:=.con (rz hs kd)) (n:=(rz hs kd).length) (ρ:=EK (De K r hs) (gh s1 a1) (gh s2 a2) (.vl (lz p K)) kd G e (.vl (lz M.length K)) none none none none) (M:=M0) (M1:=M0) (by simp[afr m1 qk,srcOf]) rfl
  (λi ρ R=>(∃b8 b9 qq Lx,ρ=EK (De K r hs) (gh s1 a1) (gh s2 a2) (.vl (lz p K)) kd G e (.vl (lz M.length K)) b8 b9 qq Lx)/\Ba M R/\∃Z,DS M.length K Z R/\(∀j,j<K->(Z j).length<=c+i)/\Zv K f Z/\bcc K hs kd G e a1 a2 f Z/\In1 hs kd G e a1 a2 Z i)
  (λv R=>(v=.non/\¬∀i,i<K->s2.getD i 0=1)/\Ba M R) ⟨⟨none,none,none,none,rfl⟩,k0,f,d0,hg.len,λ_ _ _ _ h=>h,λ_ _ _ _ h=>.inl h,λ_ _ h=>absurd h (uf _)⟩ (λ_ _ _=>rfl)
  (λi ρ M1 hi hI=>by
   refine hG λ_ _k=>?_
   obtain⟨⟨b8,b9,qq,Lx,rfl⟩,k1,Z,d1,g1,mo,sr,ii⟩:=hI;obtain⟨x,hx⟩:=Pa hi;have U:=ao hx;obtain⟨xi,rfl⟩:=afq U;apply _k;refine⟨_,EK (De K r hs) (gh s1 a1) (gh s2 a2) (.vl (lz p K)) kd G e (.vl (lz M.length K)) (some (.int xi)) b9 qq Lx,hx,rfl,?_⟩;have ee:=afu (K:=K) (r:=r) (M:=M1) m1 U;have fl:=acs P hk U;obtain⟨l1,_⟩:=Px (M:=M1) m1 w1 U ht;obtain⟨l2,q1⟩:=Px (M:=M1) m1 w2 U he;have nw:∀j w,j<i+1->(rz hs kd)[j]?=some (.int w)->j<i\/w=xi:=λj w h1 h2=>by
    by_cases z:j<i
    .exact .inl z
    .have:j=i:=by lia
     subst this;rw[hx]at h2;cases h2;exact .inr rfl
   have so:∀(q:Kx)(d:D),q=.inl (Bl a1 G xi:Nat)->d=.int (Bl a2 e xi:Nat)->∃w:Int,.int w∈rz hs kd/\zy hs kd (.int xi)=zy hs kd (.int w)/\q=.inl (Bl a1 G w:Nat)/\d=.int (Bl a2 e w:Nat):=λq d h1 h2=>⟨xi,U,rfl,h1,h2⟩
   have ir:=Pn (p:=M.length) (K:=K) (M:=M1) fl;have dk:=d1 _ fl;have vl:∀d,v7 (Z (zy hs kd (.int xi))) (.inl (Bl a1 G xi:Nat))=some d->∃u:Nat,d=.int u/\u<s2.getD (zy hs kd (.int xi)) 0:=λd h=>by
    rcases sr _ _ d fl h with h|⟨w,z1,z2,_,rfl⟩
    .refine hG λ_ _k=>?_
     obtain⟨_,y,_,rfl,_,h2,_⟩:=hg.val _ _ d fl h;apply _k;exact⟨y,rfl,h2⟩
    .rw[z2];exact⟨_,rfl,(Px (M:=M1) m1 w2 z1 he).2⟩
   have one:(∀i,i<K->s2.getD i 0=1)->s2.getD (zy hs kd (.int xi)) 0=1:=λh=>h _ fl
   have pi:∀j w,j<i+1->(rz hs kd)[j]?=some (.int w)->w=xi\/v7 (Z (zy hs kd (.int w))) (.inl (Bl a1 G w:Nat))=some (.int (Bl a2 e w:Nat)):=λj w h1 h2=>by
    rcases nw j w h1 h2 with z|z
    .exact .inr (ii j w z h2)
    .exact .inl z
   have pz:∀qj,v7 (qj (zy hs kd (.int xi))) (.inl (Bl a1 G xi:Nat))=some (.int (Bl a2 e xi:Nat))->Zv K Z qj->In1 hs kd G e a1 a2 qj (i+1):=λqj h1 h2 j w h3 h4=>by
    rcases pi j w h3 h4 with rfl|z
    .exact h1
    .exact h2 _ _ _ (acs P hk (ao h4)) z
   generalize zy hs kd (.int xi)=far at *;generalize Bl a1 G xi=y1 at *;generalize Bl a2 e xi=y2 at *;have gt:=asf (k:=(y1:Int)) (d:=.int (y2:Int)) dk;have ty:=az7 dk;have st:=ash (k:=(y1:Int)) (d:=.int (y2:Int)) dk (by have:=g1 far fl;lia);obtain⟨u,hu,hn,hv⟩:∃u:Nat,(v7 (Z far) (.inl (y1:Int))).getD (.int (y2:Int))=.int u/\u<s2.getD far 0/\∀d,v7 (Z far) (.inl (y1:Int))=some d->d=.int u:=by
    cases el:v7 (Z far) (.inl (y1:Int))with
    |none=>exact⟨y2,rfl,q1,λd h=>by cases h⟩
    |some d =>
     obtain⟨u,rfl,h⟩:=vl d el;exact⟨u,rfl,h,λd h=>by cases h;rfl⟩
   rw[hu]at gt
   by_cases cq:u=y2
   .subst cq
    have m2:Zv K Z (upK Z far (Cw (Z far) (.inl (y1:Int)) (.int (u:Int)))):=λj q d hj h=>by
     by_cases z:j=far
     .subst z
      rw[Ze,Tu]
      by_cases zq:q=.inl (y1:Int)
      .subst zq;rw[bx rfl,hv d h]
      .rw[bw zq];exact h
     .rw[ac9 z];exact h
    refine⟨.next,_,M1.set (M.length+far) (.dK (Cw (Z far) (.inl (y1:Int)) (.int (u:Int)))),by simp[Er,ee,l1,l2,ir,ty,gt,st],.inl ⟨rfl,⟨some (.int xi),some (.int far),some (.int y1),some (.int u),rfl⟩,λa o h=>?_,upK Z far (Cw (Z far) (.inl (y1:Int)) (.int (u:Int))),λj hj=>?_,λj hj=>?_,λj q d hj h=>m2 j q d hj (mo j q d hj h),λj q d hj h=>?_,pz _ (by rw[Ze,Tu,bx rfl]) m2⟩⟩
    .rw[um (by have:=yo h;exact i_ (b_ this x_))];exact k1 a o h
    .by_cases z:j=far
     .subst z
      rw[Ze,w6 dk]
     .rw[ac9 z,um (by lia)];exact d1 j hj
    .by_cases z:j=far
     .subst z
      rw[Ze];have:=akp (Z j) (.inl (y1:Int)) (.int (u:Int));have:=g1 j fl
      lia
     .rw[ac9 z]
      have:=g1 j hj;exact a_ this (w_ x_)
    .by_cases z:j=far
     .subst z
      rw[Ze,Tu]at h
      by_cases zq:q=.inl (y1:Int)
      .rw[bx zq]at h;cases h
       exact .inr (so q _ zq rfl)
      .rw[bw zq]at h;exact sr j q d hj h
     .rw[ac9 z]at h;exact sr j q d hj h
   .have q0:¬((u:Int)=(y2:Int)):=by lia
    exact⟨.ret .non,_,M1,by simp[Er,ee,l1,l2,ir,ty,gt,q0];rfl,.inr ⟨_,rfl,⟨rfl,λh=>by have:=one h;lia⟩,k1⟩⟩)
 rcases qv with⟨_,q2,R,e2,⟨rfl,⟨b8,b9,qq,Lx,rfl⟩,kk,Z,d1,g1,mo,sr,ii⟩|⟨_,rfl,⟨rfl,no⟩,kk⟩⟩
 .have e2:Iw.den ⟨prog.call (m-1),prog.cls⟩ _ _=_:=e2
  refine⟨_,R,by simp[Fn.run,Lw,Ls,e0,e2],kk,.inr ⟨Z,rfl,d1,as6 P w1 w2 hg hk ht he (λi hi=>by have:=g1 i hi;exact a_ this (w_ wl)) mo sr ii,mo,?_⟩⟩;have:=ii 0 (-1) (by simp[rz]) (by simp[rz]);simp[zy,Bl]at this;rw[this];rfl
 .have e2:Iw.den ⟨prog.call (m-1),prog.cls⟩ _ _=_:=e2
  exact⟨_,R,by simp[Fn.run,Lw,Ls,e0,e2],kk,.inl ⟨rfl,no⟩⟩
end
def map_getD{l:Y3}(h:x<l.length)(g:Nat->Nat):(l.map g).getD x 0=g (l.getD x 0):=by simp[h]
noncomputable def ayz(n:Int):Int:=if 1<n then n else 1
def ay0(h:n<1073741824):0<ayz n/\ayz n<1073741824:=by unfold ayz;split<;>omega
def max_1(M:di)(n:Int):rm .max [.int 1,.int n] M=.ok (.int (ayz n)) M:=rfl
noncomputable abbrev ET(t:Nat)(pt w1 w2 kn:D)(b5 b6 b7 b8 b9:Option D):Env:=[some (.ref t),some pt,some w1,some w2,some kn,b5,b6,b7,b8,b9]
section
variable{m t:Nat}{f0:Bool}{M:di}{sz:Nat->Nat}{K r p c:Nat}{hs:List F}{ie:List (List Kx×D)}{s1 s2:Y3}{a1 a2:List (List Nat)}{f:Nat->List (Kx×D)}
def am5(qq:ρ.length=10)(R:(Ex.ix (.v 1) (.i 0)).den W ρ M=.ok (.int K) M)(hK:K<=100000) :
 Eu.den W ρ M=.ok (.vl (lz M.length K)) (M++List.replicate K (.dK [])):=by
 obtain⟨ys,Z,g,U,h2⟩:=Rx (v:=true) (k:=1) (t:=.name 10) (e:=.abb) R hK (λi G Z=>G=lz M.length i/\Z=M++List.replicate i (.dK [])) ⟨rfl,by simp⟩
  (λi G Z hi hI=>by
   obtain⟨rfl,rfl⟩:=hI;refine⟨_,.ref (M.length+i),M++List.replicate i (MO.dK [])++[MO.dK []],rfl,by simp[MW.new],?_,?_⟩
   .simp[lz,vd]
   .simp[List.replicate_succ'])
 have g:Eu.den W ρ M=_:=g;rw[g,U,h2];rfl
structure Kn(t:Nat)(f0:Bool)(M:di)(K p c:Nat)(hs:List F)(s1 s2:Y3)(a1 a2:List (List Nat))(f:Nat->List (Kx×D))(M':di):Prop where
 st:St t f0 M M'
 tp:t<p
 ds:DS p K f M'
 gd:Gd K c hs s1 s2 a1 a2 f
def Kn.keep(h:Kn t f0 M K p c hs s1 s2 a1 a2 f Z)(k:Ba Z M2):Kn t f0 M K p c hs s1 s2 a1 a2 f M2:=⟨h.st.trans (St.of h.st.has k),h.tp,λi G=>k _ _ (h.ds i G),h.gd⟩
def Kn.go(h:Kn t f0 M K p c hs s1 s2 a1 a2 f Z)(k:St t f0 Z M2):Kn t f0 M K p c hs s1 s2 a1 a2 f M2:=⟨h.st.trans k,h.tp,λi G=>k.keep _ _ (by have:=h.tp;exact i_ (b_ this x_)) (h.ds i G),h.gd⟩
def Kn.up(h:Kn t f0 M K p c hs s1 s2 a1 a2 f M1)(l:c<=Z):Kn t f0 M K p Z hs s1 s2 a1 a2 f M1:=⟨h.st,h.tp,h.ds,λi G=>a_ (h.gd.len i G) l,h.gd.val⟩
def as8(hm:3<=m)(P:Ji sz K hs ie)(w1:K4 K hs s1 a1)(w2:K4 K hs s2 a2)(h:Kn t f0 M K p c hs s1 s2 a1 a2 f M1)(hc:c<=900)(hk:kd<K)(ht:th<s1.getD kd 0) :
 Goes (λ_ ρ M'=>∃c7 c8 c9 U G,ρ=ET t (De K r hs) (gh s1 a1) (gh s2 a2) (.vl (lz U K)) (some (.int kd)) (some (.int th)) c7 c8 c9/\Kn t f0 M K U (c+6) hs s1 s2 a1 a2 G M'/\Zv K f G/\(v7 (G kd) (.inl (th:Int))).isSome=true)
  (λv M'=>(v=.non/\¬∀i,i<K->s2.getD i 0=1)/\St t f0 M M') 0 (Av.den ⟨prog.call m,prog.cls⟩ (ET t (De K r hs) (gh s1 a1) (gh s2 a2) (.vl (lz p K)) (some (.int kd)) (some (.int th)) b7 b8 b9) M1):=by
 have ir:=Pn (p:=p) (K:=K) (M:=M1) hk;have dk:=h.ds kd hk;have R:Pz M1 (.int th) (.ref (p+kd))=some (v7 (f kd) (.inl (th:Int))).isSome:=by simp[Pz,dk]
 cases c0:(v7 (f kd) (.inl (th:Int))).isSome with
 |true =>
  rw[c0]at R;exact⟨.next,_,M1,by simp[Av,ir,R],.inl ⟨rfl,b7,b8,b9,p,f,rfl,h.up x_,λ_ _ _ _ h=>h,c0⟩⟩
 |false =>
  rw[c0]at R;refine hG λ_ _k=>?_
  have j3:=Ni (l:=s2) (i:=kd) (M:=M1) (by rw[w2.ls];exact hk);have qq:=w2.s7 kd;obtain⟨q1,q2⟩:=ay0 (n:=(s2.getD kd 0:Nat)) (m_ (c_ qq (by decide)));obtain⟨v,M2,e2,l2,qk,n2⟩:=Cd (m:=m) (a_ (by decide) hm) h.st.has q1 q2;have h2:=h.go qk;have j4:=Ni (l:=s2) (i:=kd) (M:=M2) (by rw[w2.ls];exact hk);have one:(∀i,i<K->s2.getD i 0=1)->s2.getD kd 0=1:=λh=>h _ hk
  generalize hB:s2.getD kd 0=B at j3 qq q1 q2 e2 j4 one l2;obtain⟨qv,M3,e3,⟨c9,mo,rfl,h3,qj⟩⟩:=Bs (W:=⟨prog.call m,prog.cls⟩) (t:=.name 9) (b:=Cu) (it:=.ix (.ix (.v 3) (.i 0)) (.v 5)) (n:=B) (ρ:=ET t (De K r hs) (gh s1 a1) (gh s2 a2) (.vl (lz p K)) (some (.int kd)) (some (.int th)) (some .non) (some (.int v)) b9) (M:=M2) (M1:=M2) (by simp[Nh,j4]) (a_ qq (by decide))
   (λi ρ M'=>∃b9 mo,ρ=ET t (De K r hs) (gh s1 a1) (gh s2 a2) (.vl (lz p K)) (some (.int kd)) (some (.int th)) (some mo) (some (.int v)) b9/\Kn t f0 M K p c hs s1 s2 a1 a2 f M'/\((mo=.non/\(0<i->¬∀i,i<K->s2.getD i 0=1))\/∃U G,mo=.vl (lz U K)/\Kn t f0 M K U (c+6) hs s1 s2 a1 a2 G M'/\Zv K f G/\(v7 (G kd) (.inl (th:Int))).isSome=true))
   ⟨b9,.non,rfl,h2,.inl ⟨rfl,λh=>absurd h (j9 _)⟩⟩
   (λi ρ M3 hi hI=>by
    obtain⟨b9,mo,rfl,k3,qj⟩:=hI;rcases qj with⟨rfl,_⟩|⟨U,G,rfl,z1,z2,z3⟩
    .have j5:=Ni (l:=s2) (i:=kd) (M:=M3) (by rw[w2.ls];exact hk)
     rw[hB]at j5;have md:Gp .mod (.int ((i:Int)+(v:Int))) (.int (B:Int)) M3=.ok (.int (((i+v)%B:Nat):Int)) M3:=by rw[aop _ _ (by lia)];simp
     have lt:(i+v)%B<s2.getD kd 0:=by rw[hB];exact Nat.mod_lt _ (by lia)
     obtain⟨u,M4,e4,k4,h4⟩:=as7 (m:=m) (M:=M3) (r:=r) (a_ (by decide) hm) P w1 w2 k3.ds k3.gd (a_ hc (by decide)) hk ht lt;generalize(i+v)%B=x at md e4;have Z:Fe .is .non .non M3=some true:=rfl;refine⟨_,.next,_,M4,rfl,by simp[Cu,Z,Nh,j5,md,e4],.inl rfl,some (.int i),u,rfl,k3.keep k4,?_⟩;rcases h4 with⟨rfl,no⟩|⟨G,rfl,d1,g1,mo,pr⟩
     .exact .inl ⟨rfl,λ_=>no⟩
     .exact .inr ⟨M3.length,G,rfl,⟨(k3.keep k4).st,by obtain⟨_,y,_⟩:=k3.st.has;exact yo y,d1,g1⟩,mo,pr⟩
    .have Z:Fe .is (.vl (lz U K)) .non M3=some false:=rfl
     exact⟨_,.next,_,M3,rfl,by simp[Cu,Z],.inl rfl,some (.int i),_,rfl,k3,.inr ⟨U,G,rfl,z1,z2,z3⟩⟩)
  have e3:Js.den ⟨prog.call m,prog.cls⟩ _ _=_:=e3;apply _k;rcases qj with⟨rfl,no⟩|⟨U,G,rfl,z1,z2,z3⟩
  .have Z:Fe .is .non .non M3=some true:=rfl
   exact⟨.ret .non,_,M3,by simp[Av,ir,R,Nh,j3,max_1,e2,e3,Z];rfl,.inr ⟨_,rfl,⟨rfl,λh=>no (by rw[one h];decide) h⟩,h3.st⟩⟩
  .have Z:Fe .is (.vl (lz U K)) .non M3=some false:=rfl
   exact⟨.next,_,M3,by simp[Av,ir,R,Nh,j3,max_1,e2,e3,Z],.inl ⟨rfl,some (.vl (lz U K)),some (.int v),c9,U,G,rfl,z1,z2,z3⟩⟩
def af1{x n:Nat}(h:x<n):(List.range n).getD x 0=x:=by simp[h]
def vf(f:Nat->List (Kx×D))(k x:Nat):Nat:=match v7 (f k) (.inl (x:Int))with|some (.int y)=>y.toNat|_=>0
def Vv(f:Nat->List (Kx×D))(s1:Y3)(K:Nat):List (List Nat):=(List.range K).map λk=>(List.range (s1.getD k 0)).map (vf f k)
def ada(Z:k<K):(Vv f s1 K)[k]?=some ((List.range (s1.getD k 0)).map (vf f k)):=by simp[Vv,Z]
def akx{x:Nat}(g:Gd K c hs s1 s2 a1 a2 f)(U:k<K)(h:(v7 (f k) (.inl (x:Int))).isSome=true):v7 (f k) (.inl ((x:Nat):Int))=some (.int (vf f k x:Nat))/\vf f k x<s2.getD k 0:=by
 refine hG λ_ _k=>?_
 obtain⟨d,Z⟩:=j6.mp h;obtain⟨_,y,_,rfl,_,G,_⟩:=g.val k _ d U Z;have:vf f k x=y:=by simp[vf,Z]
 apply _k;rw[this];exact⟨Z,G⟩
def as9(P:Ji sz K hs ie)(w1:K4 K hs s1 a1)(g:Gd K c hs s1 s2 a1 a2 f)(ha:∀k x,k<K->x<s1.getD k 0->(v7 (f k) (.inl (x:Int))).isSome=true):af0 hs s1 s2 a1 a2 (Vv f s1 K):=
 ⟨⟨by simp[Vv,w1.ls],λk js h=>by
  have hk:k<K:=by simpa[Vv]using(ak.mp h).1
  rw[ada hk]at h;cases h;refine⟨by simp,λx Z=>?_⟩;obtain⟨y,hy,rfl⟩:=bf.mp Z;exact(akx g hk (ha k y hk (ik.mp hy))).2⟩,λk o ho x Z=>by
  refine hG λ_ _k=>?_
  have om:=ao ho;have R:=P.abv o om;have kb:=P.V3 o om;have l:=(Px (m:=1) (M:=[]) (bh _) w1 (Uu ho rfl) Z).2;rw[Bv ho]at l;have h1:=(akx g R (ha _ x R Z)).1;obtain⟨x',y',U,e2,_,_,h2⟩:=g.val _ _ _ R h1;have U:(x:Int)=x':=Sum.inl.inj U;have U:x=x':=by lia
  have e2:((vf f o.a x:Nat):Int)=y':=D.int.inj e2;have e2:vf f o.a x=y':=by lia
  have h2:=h2 k o ho rfl;subst U e2;have G:=(akx g kb (ha _ _ kb l)).1;rw[h2]at G;have G:((Bl a2 (vf f o.a x) k:Nat):Int)=(vf f o.b (Bl a1 x k):Nat):=D.int.inj (jk G);rw[Pu]at l;apply _k;rw[Dr (ada kb),Dr (ada R),map_getD (by simpa using l),map_getD (by simpa using Z),af1 l,af1 Z];rw[Pu,Pu]at G;exact(Int.ofNat.inj G).symm⟩
def ay1(P:Ji sz K hs ie)(w1:K4 K hs s1 a1)(h:Kn t f0 M K p c hs s1 s2 a1 a2 f M1)(ha:∀k x,k<K->x<s1.getD k 0->(v7 (f k) (.inl (x:Int))).isSome=true) :
 Et.den W (ET t (De K r hs) (gh s1 a1) w2 (.vl (lz p K)) b5 b6 b7 b8 b9) M1=.ok (.vl ((Vv f s1 K).map t7)) M1:=by
 have h3:=P.k3;unfold Et;rw[Pq (g:=λk=>t7 ((List.range (s1.getD k 0)).map (vf f k))) (ds:=(List.range K).map nD) (akv (by simp[Tt]) (a_ h3 (by decide))) (by simp;exact a_ h3 (by decide)) (λk d hd=>by
  obtain⟨y,Z,rfl,G⟩:=ac8 hd;have G:=ik.mp G;have:k=y:=by rw[uc (by simpa using(ak.mp Z).1)]at Z;cases Z;rfl
  subst this;have j2:=Ni (l:=s1) (i:=k) (M:=M1) (by rw[w1.ls];exact G);have U:=w1.s7 k;have R:=ha k;generalize s1.getD k 0=A at j2 U R;have ir:=Pn (p:=p) (K:=K) (M:=M1) G;have dk:=h.ds k G;have c1:Es.den W [D.ref t,De K r hs,gh s1 a1,some w2,D.vl (lz p K),b5,b6,b7,b8,b9,D.int k] M1=.ok (.vl (((List.range A).map (vf f k)).map nD)) M1:=by
   unfold Es;rw[Pq (g:=λx=>nD (vf f k x)) (ds:=(List.range A).map nD) (akv (by simp[Nh,j2]) (a_ U (by decide))) (by simp;exact a_ U (by decide)) (λx d hd=>by
    obtain⟨y,Z,rfl,hx⟩:=ac8 hd;have hx:=ik.mp hx;have:x=y:=by rw[uc (by simpa using(ak.mp Z).1)]at Z;cases Z;rfl
    subst this;have ix:=(azf (b:=.int x) dk rfl).trans (akx h.gd G (R x G hx)).1;exact⟨_,rfl,by simp[ir,ix];rfl⟩)]
   simp
  exact⟨_,rfl,by simp[c1,Ot];simp[t7]⟩)]
 simp[Vv]
def Zv.some(h:Zv K f G)(U:i<K)(k:(v7 (f i) q).isSome=true):(v7 (G i) q).isSome=true:=by obtain⟨d,Z⟩:=j6.mp k;rw[h i q d U Z];rfl
def ay2(hm:4<=m)(P:Ji sz K hs ie)(hh:V2 t f0 M)(w1:K4 K hs s1 a1)(w2:K4 K hs s2 a2) :
 ∃v Z,prog.call m 42 [.ref t,De K r hs,gh s1 a1,gh s2 a2] M=.ok v Z/\St t f0 M Z/\((v=.non/\¬∀i,i<K->s2.getD i 0=1)\/∃rr,v=rD rr/\af0 hs s1 s2 a1 a2 rr):=by
 rw[call_of (a_ (by decide) hm) rfl];have h3:=P.k3;have ht:t<M.length:=by obtain⟨_,h,_⟩:=hh;exact yo h
 have e0:=am5 (W:=⟨prog.call (m-1),prog.cls⟩) (ρ:=[D.ref t,De K r hs,gh s1 a1,gh s2 a2,none,none,none,none,none,none]) (M:=M) (K:=K) rfl (by simp[Tt]) (a_ h3 (by decide));have k0:Kn t f0 M K M.length 0 hs s1 s2 a1 a2 (λ_=>[]) (M++List.replicate K (.dK [])):=⟨St.of hh (Ba.app _ _),ht,λi hi=>by rw[il x_];simp[hi],λ_ _=>bh _,λ_ _ _ _ h=>by cases h⟩;have q0:=U5 (W:=⟨prog.call (m-1),prog.cls⟩) (t:=.name 5) (b:=Cv) (it:=.ix (.v 1) (.i 0)) (n:=K) (ρ:=ET t (De K r hs) (gh s1 a1) (gh s2 a2) (.vl (lz M.length K)) none none none none none) (M:=M++List.replicate K (.dK [])) (M1:=M++List.replicate K (.dK [])) (by simp[Tt]) (a_ h3 (by decide))
  (λU ρ Z=>∃b5 b6 b7 R G p f,ρ=ET t (De K r hs) (gh s1 a1) (gh s2 a2) (.vl (lz p K)) b5 b6 b7 R G/\Kn t f0 M K p (42*U) hs s1 s2 a1 a2 f Z/\∀k x,k<U->x<s1.getD k 0->(v7 (f k) (.inl (x:Int))).isSome=true)
  (λv Z=>(v=.non/\¬∀i,i<K->s2.getD i 0=1)/\St t f0 M Z) ⟨none,none,none,none,none,M.length,_,rfl,k0,by simp⟩
  (λU ρ M1 hk hI=>by
   refine hG λ_ _k=>?_
   obtain⟨b5,b6,b7,R,G,p,f,rfl,k1,al⟩:=hI;have j2:=Ni (l:=s1) (i:=U) (M:=M1) (by rw[w1.ls];exact hk);have q1:=w1.s7 U;apply _k;refine⟨_,rfl,?_⟩;have qv:=U5 (W:=⟨prog.call (m-1),prog.cls⟩) (t:=.name 6) (b:=Av) (it:=.ix (.ix (.v 2) (.i 0)) (.v 5)) (n:=s1.getD U 0) (ρ:=ET t (De K r hs) (gh s1 a1) (gh s2 a2) (.vl (lz p K)) (some (.int U)) b6 b7 R G) (M:=M1) (M1:=M1) (by simp[Nh,j2]) (a_ q1 (by decide))
    (λth ρ Z=>∃b6 b7 R G p f',ρ=ET t (De K r hs) (gh s1 a1) (gh s2 a2) (.vl (lz p K)) (some (.int U)) b6 b7 R G/\Kn t f0 M K p (42*U+6*th) hs s1 s2 a1 a2 f' Z/\Zv K f f'/\∀x,x<th->(v7 (f' U) (.inl (x:Int))).isSome=true)
    (λv Z=>(v=.non/\¬∀i,i<K->s2.getD i 0=1)/\St t f0 M Z) ⟨b6,b7,R,G,p,f,rfl,k1,λ_ _ _ _ h=>h,by simp⟩
    (λth ρ M2 Zh hI=>by
     refine hG λ_ _k=>?_
     obtain⟨b6,b7,R,G,p',f',rfl,k2,mo,pr⟩:=hI;apply _k;refine⟨_,rfl,?_⟩;obtain⟨fl,qq,Z,e,q⟩:=as8 (m:=m-1) (r:=r) (r_ hm) P w1 w2 k2 (by lia) hk Zh (b7:=b7) (b8:=R) (b9:=G);refine⟨fl,qq,Z,e,?_⟩;rcases q with⟨rfl,c7,c8,c9,p2,f2,rfl,k3,qj,qk⟩|q
     .refine .inl ⟨rfl,some (.int th),c7,c8,c9,p2,f2,rfl,k3,λi q d hi hq=>qj i q d hi (mo i q d hi hq),λx hx=>?_⟩
      by_cases z:x=th
      .rw[z];exact qk
      .exact qj.some hk (pr x (by lia))
     .exact .inr q)
   obtain⟨fl,qq,Z,e,q⟩:=qv;have e:Jt.den ⟨prog.call (m-1),prog.cls⟩ _ _=_:=e;rcases q with⟨rfl,c6,c7,c8,c9,p2,f2,rfl,k3,qj,qk⟩|⟨v,rfl,q⟩
   .refine⟨.next,_,Z,by simp[Cv,e],.inl ⟨rfl,some (.int U),c6,c7,c8,c9,p2,f2,rfl,k3.up (by lia),λk x q2 hx=>?_⟩⟩
    by_cases z:k=U
    .subst z;exact qk x hx
    .exact qj.some (by lia) (al k x (by lia) hx)
   .exact⟨.ret v,qq,Z,by simp[Cv,e],.inr ⟨v,rfl,q⟩⟩)
 obtain⟨fl,qq,Z,e,q⟩:=q0;have e:Ju.den ⟨prog.call (m-1),prog.cls⟩ _ _=_:=e;rcases q with⟨rfl,b5,b6,b7,R,G,p,f,rfl,k1,al⟩|⟨v,rfl,⟨rfl,no⟩,q⟩
 .have e2:=ay1 (W:=⟨prog.call (m-1),prog.cls⟩) (r:=r) P w1 k1 al (b5:=b5) (b6:=b6) (b7:=b7) (b8:=R) (b9:=G) (w2:=gh s2 a2)
  exact⟨rD (Vv f s1 K),Z,by simp[Fn.run,Hd,Hc,e0,e,e2,Ot];rfl,k1.st,.inr ⟨_,rfl,as9 P w1 k1.gd al⟩⟩
 .exact⟨.non,Z,by simp[Fn.run,Hd,Hc,e0,e],q,.inl ⟨rfl,no⟩⟩
end
def ata(Z:Y3):(Z.map nD).map (λ_=>D.bl true)=List.replicate Z.length (.bl true):=by
 induction Z with
 |nil=>rfl|cons a l G=>simp only[gr,gn,List.replicate_succ,G]
def am6(U:2<=m)(P:Ji sz K R ie)(w:K4 K R Z G)(h:Made n r K R ie M):prog.call m 22 [.ref n,gh Z G] M=.ok (.bl true) M:=by
 rw[call_of (a_ (by decide) U) rfl];have m1:1<=m-1:=r_ U
 have h3:=P.k3;have g1:=T3 (M:=M) (W:=⟨prog.call (m-1),prog.cls⟩) (n:=n) (ρ:=[D.ref n,gh Z G,t7 Z]) (o:=.v 0) (mm:=0) (es:=.z) (ds:=[]) (fi:=1) (by simp) (by simp) h.1 rfl;have c1:J6.den ⟨prog.call (m-1),prog.cls⟩ [D.ref n,gh Z G,t7 Z] M=.ok (.vl (List.replicate Z.length (.bl true))) M:=by
  unfold J6;rw[Ek (ds:=Z.map nD) (M1:=M) (g:=λ_=>.bl true) (by simp[t7]) (by simp[w.ls];exact a_ h3 (by decide)) (λx hx=>by
   obtain⟨y,_,rfl⟩:=bf.mp hx;refine⟨_,rfl,?_⟩;show(Ex.cmp .ge (.v 3) (.i 0)).den _ [D.ref n,gh Z G,t7 Z,D.int y] M=_
   simp)]
  rw[bx rfl,ata]
 have ln:rm .len [t7 Z] M=.ok (.int K) M:=by simp[rm,Hv,t7,w.ls]
 simp[-Gq,Fn.run,U9,U8,Nh,ln,g1,kinds_ok m1 h,c1,ac0]
def ay3(hm:2<=m)(P:Ji sz K U ie)(w:K4 K U Z G)(h:Made n r K U ie M):prog.call m 23 [.ref n,gh Z G] M=.ok (.bl true) M:=by
 rw[call_of (a_ (by decide) hm) rfl];have m1:1<=m-1:=r_ hm
 have hl:=P.len;have g1:=T3 (M:=M) (W:=⟨prog.call (m-1),prog.cls⟩) (n:=n) (ρ:=[D.ref n,gh Z G,t7 Z,D.tup (G.map t7),none,none,none]) (o:=.v 0) (mm:=1) (es:=.z) (ds:=[]) (fi:=2) (by simp) (by simp) h.1 rfl;obtain⟨qv,e,b5,b6,rfl⟩:=Pr (W:=⟨prog.call (m-1),prog.cls⟩) (t:=.names [5,6]) (b:=Ho) (it:=.zip (.p (.v 3) (.v 4))) (ρ:=[D.ref n,gh Z G,t7 Z,D.tup (G.map t7),Gr U,none,none]) (M:=M) (ds:=Q4 [G.map t7,U.map eD] U.length)
  (by simp[Nu,Gr,w.la]) (fun ρ=>∃b5 b6:Option D,ρ=[some (.ref n),some (gh Z G),some (t7 Z),some (.tup (G.map t7)),some (Gr U),b5,b6]) ⟨none,none,rfl⟩
  (λi d ρ hd hE=>by
   refine hG λ_ _k=>?_
   obtain⟨b5,b6,rfl⟩:=hE;obtain⟨hi,rfl⟩:=zip_get hd;obtain⟨R,hj⟩:=Pa (l:=G) (b_ hi (g_ w.la));obtain⟨g,hg⟩:=Pa hi;have qq:=ao hg;obtain⟨k1,k2⟩:=w.ok i g R hg hj;apply _k;have sa:g.a<Z.length:=by rw[w.ls];exact P.abv g qq
   have sb:g.b<Z.length:=by rw[w.ls];exact P.V3 g qq
   have ia:=Ni (M:=M) (l:=Z) (i:=g.a) sa;have ib:=Ni (M:=M) (l:=Z) (i:=g.b) sb;have h7:Z.getD g.a 0<=7:=w.sm _ (getD_mem' sa)
   rw[<-k1]at ia h7;generalize hB:Z.getD g.b 0=B at ib k2;have ln:rm .len [t7 R] M=.ok (.int R.length) M:=by simp[rm,Hv,t7]
   have c1:Ln.den ⟨prog.call (m-1),prog.cls⟩ [D.ref n,gh Z G,t7 Z,D.tup (G.map t7),Gr U,t7 R,eD g] M=.ok (.vl (List.replicate R.length (.bl true))) M:=by
    unfold Ln;rw[Ek (ds:=R.map nD) (M1:=M) (g:=λ_=>.bl true) (by simp[t7]) (by simp;exact a_ h7 (by decide)) (λx hx=>by
     obtain⟨y,hy,rfl⟩:=bf.mp hx;refine⟨_,rfl,?_⟩;have qk:(y:Int)<(B:Int):=by have:=k2 y hy;exact m_ this
     show(Ex.chain .le .lt (.i 0) (.v 7) (.ix (.v 2) (.ix (.v 6) (.i 1)))).den _ [D.ref n,gh Z G,t7 Z,D.tup (G.map t7),Gr U,t7 R,eD g,D.int y] M=_;simp[Xo,ib,qk])]
    rw[bx rfl,ata]
   refine⟨[some (.ref n),some (gh Z G),some (t7 Z),some (.tup (G.map t7)),some (Gr U),some (t7 R),some (eD g)],_,by simp[Tg.put,J1,hj,hg],?_,some (t7 R),some (eD g),rfl⟩;show Ho.den ⟨prog.call (m-1),prog.cls⟩ [D.ref n,gh Z G,t7 Z,D.tup (G.map t7),Gr U,t7 R,eD g] M=_;simp[Ho,ln,Xn,ia,c1,ac0])
 have e':Ry.den ⟨prog.call (m-1),prog.cls⟩ _ _=_:=e;have la:rm .len [.tup (G.map t7)] M=.ok (.int U.length) M:=by simp[rm,Hv,w.la]
 simp[-Gq,Fn.run,Xe,Xd,Nh,Tz,g1,Ut m1 h,la,Ov,e']
def atb(hm:3<=m)(P:Ji sz K hs ie)(w:K4 K hs G Z)(h:Made n r K hs ie M):∃M',prog.call m 24 [.ref n,gh G Z] M=.ok (.bl true) M'/\Ba M M':=by
 rw[call_of (a_ (by decide) hm) rfl];have m1:1<=m-1:=r_ (a_ (by decide) hm)
 have m2:2<=m-1:=r_ hm
 have g1:=T3 (M:=M) (W:=⟨prog.call (m-1),prog.cls⟩) (n:=n) (ρ:=[D.ref n,gh G Z,none,none,none,none,none]) (o:=.v 0) (mm:=1) (es:=.z) (ds:=[]) (fi:=2) (by simp) (by simp) h.1 rfl;obtain⟨M1,ps,e1,p1,t1,u1⟩:=Xp (M:=M) (m:=m-1) (hs:=hs) m1 P.len;have k1:Ba M M1:=λa o h=>by rw[u1.oth a (by have:=yo h;exact h_ this)];exact yh h
 refine hG λ_ _k=>?_
 have h1:=h.keep k1;obtain⟨qv,M',e,⟨b2,b3,b4,R,U,rfl⟩,rfl⟩:=Hn (W:=⟨prog.call (m-1),prog.cls⟩) (t:=.names [2,3]) (b:=Dp) (it:=.call 7 (.o (.meth (.v 0) 1 .nil))) (d:=.ref M.length) (ds:=ps.map pD) (ρ:=[D.ref n,gh G Z,none,none,none,none,none]) (M:=M) (M1:=M1) (by simp[-Gq,g1,Ut m1 h,e1]) (ou p1)
  (λj ρ M'=>(∃b2 b3 b4 R U:Option D,ρ=[some (.ref n),some (gh G Z),b2,b3,b4,R,U])/\M'=M1) ⟨⟨none,none,none,none,none,rfl⟩,rfl⟩ (λi ρ M h=>by rw[h.2];exact ou p1)
  (λi x ρ M2 hx hI=>by
   refine hG λ_ _k=>?_
   obtain⟨⟨b2,b3,b4,R,U,rfl⟩,rfl⟩:=hI;obtain⟨p,hp,rfl⟩:∃p,ps[i]?=some p/\pD p=x:=by simpa using hx
   obtain⟨⟨f,g,a,b,c⟩,d⟩:=(t1.all p).mp (ao hp);have wf:=Uu a rfl;apply _k;have wg:.int (p.2:Int)∈rz hs (zy hs f.a (.int p.1)):=by rw[Bv a];exact Uu b c.symm
   refine hG λ_ _k=>?_
   obtain⟨v,v1,v2,v3⟩:=asv P wf wg;obtain⟨js,q1,q2,q3,q4⟩:=w.act a;have g2:=T3 (M:=M2) (W:=⟨prog.call (m-1),prog.cls⟩) (n:=n) (ρ:=[D.ref n,gh G Z,D.int p.1,D.int p.2,b4,R,U]) (o:=.v 0) (mm:=2) (es:=.cons (.v 2) (.o (.v 3))) (ds:=[.int p.1,.int p.2]) (fi:=3) (by simp) (by simp) h1.1 rfl;obtain⟨q0,M3,e3,⟨c5,c6,rfl⟩,rfl⟩:=Ny (W:=⟨prog.call (m-1),prog.cls⟩) (t:=.names [5,6]) (b:=Dn) (it:=.ix (.ix (.v 1) (.i 1)) (.v 2)) (ds:=js.map nD)
    (ρ:=[D.ref n,gh G Z,D.int p.1,D.int p.2,D.int v,R,U]) (M:=M2) (M1:=M2) (by simp[Tz,afz q1,t7])
    (λ_ ρ M'=>(∃R U:Option D,ρ=[some (.ref n),some (gh G Z),some (.int p.1),some (.int p.2),some (.int v),R,U])/\M'=M2) ⟨⟨R,U,rfl⟩,rfl⟩
    (λth y ρ M3 hy hI=>by
     refine hG λ_ _k=>?_
     obtain⟨⟨R,U,rfl⟩,rfl⟩:=hI;obtain⟨z,hz,rfl⟩:∃z,js[th]?=some z/\nD z=y:=by simpa using hy
     have qk:=(ak.mp hz).1;have Zh:th<G.getD f.a 0:=b_ qk (f_ q3)
     apply _k;have ez:Bl Z th p.1=z:=by rw[q2];simp[dj,hz]
     have lt:=a6d w wf Zh;have l1:=asw (M:=M3) m1 w wg lt;rw[ayv P w wf wg v1 Zh,ez]at l1;have l2:=asw (M:=M3) m1 w v2 Zh;generalize Bl Z th v=u at l1 l2;refine⟨_,.next,_,M3,Ja _ _ _ _ _,?_,.inl rfl,⟨some (.int th),some (.int z),rfl⟩,rfl⟩;show Dn.den ⟨prog.call (m-1),prog.cls⟩ [D.ref n,gh G Z,D.int p.1,D.int p.2,D.int v,D.int th,D.int z] M3=_;simp[Dn,l1,l2])
   have qq:Mw.den ⟨prog.call (m-1),prog.cls⟩ _ _=_:=e3;apply _k;refine⟨_,.next,_,M3,Ja _ _ _ _ _,?_,.inl rfl,⟨some (.int p.1),some (.int p.2),some (.int v),c5,c6,rfl⟩,rfl⟩;show Dp.den ⟨prog.call (m-1),prog.cls⟩ [D.ref n,gh G Z,D.int p.1,D.int p.2,b4,R,U] M3=_;simp[-Gq,Dp,g2,am4 m2 h1 v1,qq])
 have e':Mx.den ⟨prog.call (m-1),prog.cls⟩ _ _=_:=e;apply _k;refine⟨M',?_,k1⟩;simp[Fn.run,Ql,Qk,e']
def ah0(Z:4<=m)(P:Ji sz K G R)(w:K4 K G U xu)(h:Made n r K G R M):∃M',prog.call m 21 [.ref n,gh U xu] M=.ok (.bl true) M'/\Ba M M':=by rw[call_of (a_ (by decide) Z) rfl];obtain⟨M',e,k⟩:=atb (m:=m-1) (r_ Z) P w h;refine⟨M',?_,k⟩;simp[Fn.run,Xc,Xb,am6 (show 2<=m-1 by exact r_ (a_ (by decide) Z)) P w h,ay3 (show 2<=m-1 by exact r_ (a_ (by decide) Z)) P w h,e]
open MW PySem.Builtin.Str
def s_d:PySem.Str.ofString "-"= ⟨#[45]⟩:=by decide
def s_b:PySem.Str.ofString " "= ⟨#[32]⟩:=by decide
def s_r:PySem.Str.ofString " ; "= ⟨#[32,59,32]⟩:=by decide
def s_0:PySem.Str.ofString "0"= ⟨#[48]⟩:=by decide
def s_e:PySem.Str.ofString ""= ⟨#[]⟩:=by decide
def s_f:PySem.Str.ofString "0123456789"= ⟨#[48,49,50,51,52,53,54,55,56,57]⟩:=by decide
noncomputable def dg(x:Nat):PySem.Str:=⟨#[48+x]⟩
def rT(l:Y3):PySem.Str:=if l=[]then⟨#[45]⟩else glued ⟨#[32]⟩ (l.map dg)
def xT(q:List (List Nat)):PySem.Str:=glued ⟨#[32,59,32]⟩ (q.map rT)
theorem atc{y:Y3}(G:∀c∈y,c<60):∀{ps:List (List Nat)},(∀p∈ps,(∀c∈p,c<60)/\p.length<=n)->(∀c∈gl y ps,c<60)/\(gl y ps).length<=ps.length*(n+y.length)
 |[],_=>by simp[gl]|[p],h=>⟨λc Z=>(h p (by simp)).1 c Z,by have:=(h p (by simp)).2;simp[gl];exact a_ this x_⟩
 |p::q::ps,h=>by
  obtain⟨R,h2⟩:=atc (ps:=q::ps) G λr hr=>h r (bc _ hr)
  have U:=h p dh;refine⟨λc Z=>?_,?_⟩
  .rw[gl]at Z
   rcases dw.mp Z with e|e
   .exact U.1 c e
   .rcases dw.mp e with e|e
    .exact G c e
    .exact R c e
  .rw[gl,o6,o6]
   have:=U.2;rw[gn,Nat.add_mul,Nat.one_mul]
   lia
def K5{x:PySem.Str}(h:∀c∈x.cps.toList,c<60)(Z:x.cps.toList.length<=100000):plainS x=true:=by unfold plainS;rw[aq,dm,Array.all_eq_true];refine⟨λi G=>?_,Z⟩;have:=h x.cps[i] (by simp);exact xx (b_ this (by decide))
def bcf{l:Y3}(h:∀x∈l,x<10):∀p∈(l.map dg).map (·.cps.toList),(∀c∈p,c<60)/\p.length<=1:=λp Z=>by simp only[o8,bf]at Z;obtain⟨x,G,rfl⟩:=Z;have:=h x G;simp[dg];lia
def atd{l:Y3}(h:∀x∈l,x<10)(U:l.length<=9):(∀c∈(rT l).cps.toList,c<60)/\(rT l).cps.toList.length<=18:=by
 unfold rT;split
 .simp
 .rw[Ed]
  obtain⟨Z,G⟩:=atc (y:=[32]) (n:=1) (by simp) (bcf h);refine⟨Z,dz G ?_⟩
  simp;lia
def bcg{q:List (List Nat)}(h:∀l∈q,(∀x∈l,x<10)/\l.length<=9)(hq:q.length<=1000):plainS (xT q)=true:=by
 unfold xT;have:∀p∈(q.map rT).map (·.cps.toList),(∀c∈p,c<60)/\p.length<=18:=λp Z=>by simp only[o8,bf]at Z;obtain⟨l,G,rfl⟩:=Z;exact atd (h l G).1 (h l G).2
 obtain⟨U,R⟩:=atc (y:=[32,59,32]) (n:=18) (by simp) this;refine K5 ?_ ?_
 .rw[Ed];exact U
 .rw[Ed];refine dz R ?_
  simp;lia
def ate(l:List PySem.Str):agn (l.map D.str)=some l:=by
 induction l with
 |nil=>rfl|cons x l Z=>simp[agn,Z]
def bch(h:x<10):rm .str [.int (x:Nat)] M=.ok (.str (dg x)) M:=by show(if(0:Int)<=(x:Int)/\(x:Int)<10 then Res.ok (sgn (48+(x:Int).toNat)) M else .bad)=_;rw[bx (⟨q_,m_ h⟩)];rfl
theorem adb{y:PySem.Str}:∀(Z:List PySem.Str)(a:Nat),(∀p∈Z,p.length<=n)->Z.foldl (λn p=>n+p.length+y.length) a<=a+Z.length*(n+y.length)
 |[],a,_=>by simp
 |x::Z,a,h=>by
  have:=adb (y:=y) Z (a+x.length+y.length) λp G=>h p (bc _ G)
  have U:=h x dh;rw[yj,gn,Nat.add_mul,Nat.one_mul];omega
def Wo{y:PySem.Str}{Z:List PySem.Str}(G:plainS y=true)(U:Z.foldl (λn p=>n+p.length+y.length) 0<=100000)(e:gm M d=some (Z.map D.str)):Hw .join (.str y) [d] M=.ok (.str (glued y Z)) M:=by simp only[Hw,K9,e,su,ate];rw[bx ⟨G,U⟩]
@[simp] def bop:P0 .join (.str y) M=true:=rfl
@[simp] def boq:P0 .split (.str y) M=true:=rfl
def p_b:plainS ⟨#[32]⟩=true:=K5 (by simp) (by simp)
def p_r:plainS ⟨#[32,59,32]⟩=true:=K5 (by simp) (by simp)
def ade{q:List (List Nat)}(h:∀l∈q,(∀x∈l,x<10)/\l.length<=9)(U:q.length<=1000):(q.map rT).foldl (λn p=>n+p.length+(⟨#[32,59,32]⟩:PySem.Str).length) 0<=100000:=by
 refine dz (adb (n:=18) _ _ λp G=>?_) ?_
 .obtain⟨l,Z,rfl⟩:=bf.mp G
  exact(atd (h l Z).1 (h l Z).2).2
 .show 0+(q.map rT).length*(18+3)<=_
  rw[du];lia
def af2{l:Y3}{Z:Env}(h:∀x∈l,x<10)(R:l.length<=9)(hv:Z[0]?=some (some (t7 l)))(G:Z.length=1) :
 (Ex.comp true 1 (.name 1) (.val (.v 0)) (.blt .str (.o (.v 1)))).den W Z M=.ok (.vl ((l.map dg).map D.str)) M:=by
 rw[Ek (ds:=l.map nD) (M1:=M) (g:=λd=>match d with|.int i=>.str (dg i.toNat)|d=>d) (by simp[hv,t7]) (by simp;exact a_ R (by decide)) (λx hx=>by
  obtain⟨y,U,rfl⟩:=bf.mp hx;obtain⟨a,rfl⟩:=List.length_eq_one_iff.mp G;exact⟨_,rfl,by simp[nD,bch (h y U)]⟩)]
 rw[bx rfl];simp[nD,Function.comp_def]
def aky(h:∀x∈l,x<10)(U:l.length<=9)(G:l≠[]):Hw .join (.str ⟨#[32]⟩) [.vl ((l.map dg).map D.str)] M=.ok (.str (rT l)) M:=by
 have e:rT l=glued ⟨#[32]⟩ (l.map dg):=by simp[rT,G]
 rw[e];refine Wo p_b (dz (adb (n:=1) _ _ λp Z=>?_) ?_) rfl
 .obtain⟨x,_,rfl⟩:=bf.mp Z
  exact bh 1
 .show 0+(l.map dg).length*(1+1)<=_
  rw[du];lia
def ah1(U:1<=m)(h:∀x∈l,x<10)(Z:l.length<=9):prog.call m 32 [t7 l] M=.ok (.str (rT l)) M:=by
 rw[call_of U rfl];have G:Sh.den ⟨prog.call (m-1),prog.cls⟩ [some (t7 l)] M=_:=af2 h Z rfl rfl
 by_cases e:l=[]
 .subst e;simp[Fn.run,Q9,Q8,t7,rT,s_d]
 .have R:(l.map nD).isEmpty=false:=by cases l with|nil=>exact absurd rfl e|cons _ _=>rfl
  have t:Bk M (t7 l)=some (l.map nD):=rfl;simp[-List.map_map,Fn.run,Q9,Q8,t,R,G,s_b,aky h Z e]
def Vw(U:1<=m)(h:∀x∈l,x<10)(Z:l.length<=9):prog.call m 43 [t7 l] M=.ok (.str (rT l)) M:=by
 rw[call_of U rfl];have G:Jv.den ⟨prog.call (m-1),prog.cls⟩ [some (t7 l)] M=_:=af2 h Z rfl rfl;have q:wj M (t7 l) (.tup [])=some (decide (l=[])):=by cases l<;>rfl
 by_cases e:l=[]
 .subst e;simp[Fn.run,Hg,Hf,q,rT,s_d]
 .simp[-List.map_map,Fn.run,Hg,Hf,q,e,G,s_b,aky h Z e]
def ah2{q:List (List Nat)}{G:Env}(hm:1<=m)(f:Nat)(R:∀l,(∀x∈l,x<10)->l.length<=9->prog.call m f [t7 l] M=.ok (.str (rT l)) M)(h:∀l∈q,(∀x∈l,x<10)/\l.length<=9)(hq:q.length<=1000){it:Ex}(U:it.den (PW m) G M=.ok (.tup (q.map t7)) M){i:Nat}(hi:G.length=i) :
 (Ex.comp true 1 (.name i) (.val it) (.call f (.o (.v i)))).den (PW m) G M=.ok (.vl ((q.map rT).map D.str)) M:=by
 rw[Ek (ds:=q.map t7) (M1:=M) (g:=λd=>match prog.call m f [d] M with|.ok x _=>x|.bad=>d) U (by simp;exact a_ hq (by decide)) (λx hx=>by
  obtain⟨l,Z,rfl⟩:=bf.mp hx;refine⟨G++[some (t7 l)],?_,?_⟩
  .subst hi;simp[Tg.put]
  .subst hi
   rw[R l (h l Z).1 (h l Z).2];simp[R l (h l Z).1 (h l Z).2])]
 rw[bx rfl,o8,o8]
 congr 2
 apply qp;intro l Z;show(match prog.call m f [t7 l] M with|.ok x _=>x|.bad=>t7 l)=_;rw[R l (h l Z).1 (h l Z).2];rfl
def Vx(Z:2<=m){q:List (List Nat)}(h:∀l∈q,(∀x∈l,x<10)/\l.length<=9)(G:q.length<=1000):prog.call m 31 [.tup (q.map t7)] M=.ok (.str (xT q)) M:=by rw[call_of (a_ (by decide) Z) rfl];have U:Qm.den (PW (m-1)) [some (.tup (q.map t7))] M=_:=ah2 (r_ Z) 32 (λl=>ah1 (r_ Z)) h G (by simp) rfl;have j:=Wo (M:=M) p_r (ade h G) (d:=.vl ((q.map rT).map D.str)) rfl;simp[-List.map_map,Fn.run,Vb,Va,U,s_r,j];rfl
def af3(e:q=s::a)(Z:q.length<=1000):aih (.tup [t7 s]) (.tup (a.map t7)) M=.ok (.tup (q.map t7)) M:=by show(if[t7 s].length+(a.map t7).length<=100000 then _ else _)=_;subst e;rw[bx (by simp at Z⊢;lia)];rfl
def adf(Z:3<=m)(e:q=s::a)(h:∀l∈q,(∀x∈l,x<10)/\l.length<=9)(G:q.length<=1000):prog.call m 29 [gh s a] M=.ok (.str (xT q)) M:=by rw[call_of (a_ (by decide) Z) rfl];simp[Fn.run,Sg,Sd,Nh,Tz,Gp,af3 e G,Vx (show 2<=m-1 from r_ Z) h G]
def Zw(Z:2<=m)(e:q=s::a)(h:∀l∈q,(∀x∈l,x<10)/\l.length<=9)(G:q.length<=1000):prog.call m 44 [gh s a] M=.ok (.str (xT q)) M:=by rw[call_of (a_ (by decide) Z) rfl];have U:Hk.den (PW (m-1)) [some (gh s a)] M=_:=ah2 (r_ Z) 43 (λl=>Vw (r_ Z)) h G (by simp[Nh,Tz,Gp,af3 e G]) rfl;have j:=Wo (M:=M) p_r (ade h G) (d:=.vl ((q.map rT).map D.str)) rfl;simp[-List.map_map,Fn.run,Jx,Jw,U,s_r,j];rfl
def ah3(Z:3<=m)(h:∀l∈q,(∀x∈l,x<10)/\l.length<=9)(G:q.length<=1000):prog.call m 30 [rD q] M=.ok (.str (xT q)) M:=by rw[call_of (a_ (by decide) Z) rfl];have r:=Vx (M:=M) (show 2<=m-1 from r_ Z) h G;simp[Fn.run,Xi,Xh,rD,r]
def af4{y:PySem.Str}{Z:List PySem.Str}(hl:Z.length<=100000)(R:plainS (glued y Z)=true)(U:plainS y=true)(h0:0<y.length)(G:Z≠[])(C:Cln y.cps.toList c o (Z.map (·.cps.toList))):Hw .split (.str (glued y Z)) [.str y] M=.ok (.vl (Z.map D.str)) M:=by simp only[Hw,K9];rw[bx ⟨R,U,h0,by rw[Uz G C];exact hl⟩,Uz G C]
def bci{l:Y3}:Cln [32] 32 0 ((l.map dg).map (·.cps.toList)):=⟨rfl,λi h=>by
 match i,h with
 |0,_=>rfl,λp Z=>by
 simp only[o8,bf]at Z;obtain⟨x,G,rfl⟩:=Z;simp[dg];exact h_ (b_ (by decide) x_)⟩
theorem az8{c:Nat}{y:Y3}(U:c∉y):∀{Z:List (List Nat)},(∀p∈Z,c∉p)->c∉gl y Z
 |[],_=>by simp[gl]|[p],h=>h p (by simp)
 |p::q::Z,h=>λG=>by
  rw[gl]at G;rcases dw.mp G with e|e
  .exact h p (by simp) e
  .rcases dw.mp e with e|e
   .exact U e
   .exact az8 U (λr R=>h r (bc _ R)) e
def bck{q:List (List Nat)}(h:∀l∈q,∀x∈l,x<10):Cln [32,59,32] 59 1 ((q.map rT).map (·.cps.toList)):=⟨rfl,λi h=>by
 match i,h with
 |1,_=>rfl|0,h=>simp at h|2,h=>simp at h,λp Z=>by
 simp only[o8,bf]at Z;obtain⟨l,G,rfl⟩:=Z;show 59∉(rT l).cps.toList;unfold rT;split
 .simp
 .rw[Ed]
  refine az8 (by simp) λp Z=>?_
  simp only[o8,bf]at Z;obtain⟨x,U,rfl⟩:=Z;have:=h l G x U;simp[dg];lia⟩
def bhw:∀x,x<10->inS (dg x) ⟨#[48,49,50,51,52,53,54,55,56,57]⟩=true:=by decide+kernel
def ah4(hm:1<=m)(h:x<10):prog.call m 37 [.str (dg x)] M=.ok (.int (x:Nat)) M:=by
 rw[call_of hm rfl];have Z:plainS (dg x)=true:=K5 (by simp[dg];lia) (by simp[dg]);have pf:plainS ⟨#[48,49,50,51,52,53,54,55,56,57]⟩=true:=K5 (by simp) (by simp);have R:wj M (.str (dg x)) (.str ⟨#[]⟩)=some false:=by show some (decide (dg x=⟨#[]⟩))=_;simp[dg]
 have G:=bhw x h;have sc:signs (dg x)=[.str (dg x)]:=rfl;have c1:G9.den ⟨prog.call (m-1),prog.cls⟩ [some (.str (dg x))] M=.ok (.vl [.bl true]) M:=by
  unfold G9;rw[Pq (ds:=[.str (dg x)]) (g:=λ_=>.bl true) (by simp[Z,sc]) (by simp) (λi d U=>by
   have:d=.str (dg x):=by
    match i,U with
    |0,U=>exact(jk U).symm
   subst this;refine⟨_,rfl,?_⟩;have q:Fe .inS (.str (dg x)) (.str ⟨#[48,49,50,51,52,53,54,55,56,57]⟩) M=some true:=by show(if plainS (dg x)=true/\plainS _=true then some (inS (dg x) _)else none)=_;rw[bx ⟨Z,pf⟩,G]
   simp[s_f,q])]
  rfl
 have e2:(Ex.sx (.v 0)).den (PW (m-1)) [some (.str (dg x))] M=.ok (.str (dg x)) M:=by rw[agq];show(if plainS (dg x)=true then Res.ux (((dg x).cps.toList[0]?).map sgn) M else .bad)=_;rw[bx Z];rfl
 obtain⟨b,e3⟩:∃b,wj M (.str (dg x)) (.str ⟨#[48]⟩)=some b:=⟨_,rfl⟩;have e4:rm .toInt [.str (dg x)] M=.ok (.int (x:Nat)) M:=by show(if 48<=48+x/\48+x<58 then Res.ok (D.int ((48+x-48:Nat):Int)) M else .bad)=_;rw[bx (by lia),zc]
 have al:rm .all [.vl [.bl true]] M=.ok (.bl true) M:=rfl;cases b<;>simp[-agq,Fn.run,Qo,Qn,s_e,s_0,R,c1,al,Z,e2,e3,e4]
def ah5(R:2<=m)(h:∀x∈l,x<10)(Z:l.length<=9):prog.call m 36 [.str (rT l)] M=.ok (t7 l) M:=by
 rw[call_of (a_ (by decide) R) rfl]
 by_cases e:l=[]
 .subst e
  have q:wj M (.str (rT [])) (.str ⟨#[45]⟩)=some true:=rfl;simp[Fn.run,Rb,Ra,s_d,q,t7]
 .have er:rT l=glued ⟨#[32]⟩ (l.map dg):=by simp[rT,e]
  have p:=atd h Z;have ne:wj M (.str (rT l)) (.str ⟨#[45]⟩)=some false:=by
   show some (decide (rT l=⟨#[45]⟩))=_
   congr 1
   refine uh λz=>?_
   have z:=mq (λs:PySem.Str=>s.cps.toList) z;rw[er,Ed]at z
   match l,e,h with
   |[x],_,h=>have:=h x (by simp);simp[gl,dg]at z;lia
   |x::y::l,_,_=>simp[gl,dg]at z
  have sp:Hw .split (.str (rT l)) [.str ⟨#[32]⟩] M=.ok (.vl ((l.map dg).map D.str)) M:=by rw[er]at p⊢;exact af4 (by simp;exact a_ Z (by decide)) (K5 p.1 (a_ p.2 (by decide))) p_b (by decide) (by simpa using e) bci
  have c1:Lr.den (PW (m-1)) [some (.str (rT l))] M=.ok (.vl (l.map nD)) M:=by
   unfold Lr;rw[Pq (ds:=(l.map dg).map D.str) (g:=λi=>nD (l.getD i 0)) (by simp[-List.map_map,s_b,sp,srcOf]) (by simp;exact a_ Z (by decide)) (λi d hd=>by
    obtain⟨x,U,rfl⟩:∃x,l[i]?=some x/\.str (dg x)=d:=by simpa using hd
    exact⟨_,rfl,by simp[ah4 (show 1<=m-1 from r_ R) (h x (ao U)),nD,U]⟩)]
   congr 2
   apply List.ext_getElem
   .simp
   .intro i h1 G
    simp at G;simp[G]
  simp[Fn.run,Rb,Ra,s_d,ne,c1,Ot];rfl
def Vy(R:3<=m)(h:∀l∈q,(∀x∈l,x<10)/\l.length<=9)(G:q.length<=1000)(hn:q≠[]):prog.call m 35 [.str (xT q)] M=.ok (rD q) M:=by
 rw[call_of (a_ (by decide) R) rfl];have sp:Hw .split (.str (xT q)) [.str ⟨#[32,59,32]⟩] M=.ok (.vl ((q.map rT).map D.str)) M:=af4 (by simp;exact a_ G (by decide)) (bcg h G) p_r (by decide) (by simpa using hn) (bck λl Z=>(h l Z).1);have c1:J7.den (PW (m-1)) [some (.str (xT q))] M=.ok (.vl (q.map t7)) M:=by
  unfold J7;rw[Pq (ds:=(q.map rT).map D.str) (g:=λi=>t7 (q.getD i [])) (by simp[-List.map_map,s_r,sp,srcOf]) (by simp;exact a_ G (by decide)) (λi d hd=>by
   obtain⟨l,hx,rfl⟩:∃l,q[i]?=some l/\.str (rT l)=d:=by simpa using hd
   have Z:=h l (ao hx);exact⟨_,rfl,by simp[ah5 (show 2<=m-1 from r_ R) Z.1 Z.2,hx]⟩)]
  congr 2
  apply List.ext_getElem
  .simp
  .intro i h1 U
   simp at U;simp[U]
 have is:rm .isStr [.str (xT q)] M=.ok (.bl true) M:=rfl;simp[Fn.run,Vd,Vc,is,c1,Ot];rfl
def atf(P:Ji sz K R ie)(w:K4 K R s a):(∀l∈s::a,(∀x∈l,x<10)/\l.length<=9)/\(s::a).length<=1000:=by
 have h3:=P.k3;have hl:=P.len;refine⟨λl G=>?_,by have:=w.la;simp;exact a_ (f_ this) (a_ hl (by decide))⟩;rcases cu.mp G with rfl|G
 .exact⟨λx Z=>by have:=w.sm x Z;exact c_ this (by decide),by have:=w.ls;exact a_ (f_ this) (a_ h3 (by decide))⟩
 .obtain⟨j,U,rfl⟩:=List.mem_iff_getElem.mp G
  obtain⟨g,hg⟩:=Pa (l:=R) (i:=j) (by rw[<-w.la];exact U);obtain⟨k1,k2⟩:=w.ok j g _ hg (bz U);have h7:=w.s7 g.a;have h8:=w.s7 g.b;exact⟨λx Z=>by have:=k2 x Z;exact b_ this (a_ h8 (by decide)),a_ (f_ k1) (a_ h7 (by decide))⟩
def atg(G:K4 K hs s1 a1)(w2:K4 K hs s2 a2)(h3:K<=3)(f:Fits s1 s2 Z):(∀l∈Z,(∀x∈l,x<10)/\l.length<=9)/\Z.length<=1000:=by refine⟨λl hm=>?_,by have:=f.len;have:=G.ls;lia⟩;obtain⟨j,hj,rfl⟩:=List.mem_iff_getElem.mp hm;obtain⟨U,k2⟩:=f.ok j _ (bz hj);have h7:=G.s7 j;have R:=w2.s7 j;exact⟨λx hx=>by have:=k2 x hx;exact b_ this (a_ R (by decide)),a_ (f_ U) (a_ h7 (by decide))⟩
def ath(Z:5<=m)(P:Ji sz K G ie)(w:K4 K G s a)(h:Made n r K G ie M):∃M',prog.call m 33 [.ref n,.str (xT (s::a))] M=.ok (gh s a) M'/\Ba M M':=by
 rw[call_of (a_ (by decide) Z) rfl];obtain⟨U,R⟩:=atf P w;have r:=Vy (M:=M) (m:=m-1) (r_ (a_ (by decide) Z)) U R (by simp);have i0:Aw (rD (s::a)) (.int 0) M=some (t7 s):=asx (j:=0) rfl;have c1:U0 (rD (s::a)) (some 1) none M=some (.tup (a.map t7)):=by
  show some (D.tup (W3 ((s::a).map t7) (some 1) none))=_
  congr 2
  unfold W3 clip;simp;exact z7 (by simp)
 obtain⟨M',e,k⟩:=ah0 (m:=m-1) (r_ Z) P w h;refine⟨M',?_,k⟩;have e:prog.call (m-1) 21 [.ref n,.tup [t7 s,.tup (a.map t7)]] M=.ok (.bl true) M':=e;generalize rD (s::a)=q at *;generalize xT (s::a)=x at *;simp[Fn.run,Ss,Sq,r,i0,c1,e];rfl
def ati(U:4<=m)(P:Ji sz K Z ie)(R:K4 K Z s1 a1)(w2:K4 K Z s2 a2)(h:Made n r K Z ie M)(f:af0 Z s1 s2 a1 a2 G)(hn:G≠[]):prog.call m 34 [.ref n,gh s1 a1,gh s2 a2,.str (xT G)] M=.ok (rD G) M:=by rw[call_of (a_ (by decide) U) rfl];obtain⟨h1,h2⟩:=atg R w2 P.k3 f.1;have r:=Vy (M:=M) (m:=m-1) (r_ U) h1 h2 hn;have e:=as5 (m:=m-1) (r_ U) P h R w2 f;simp[Fn.run,Xk,Xj,r,e]
def Uw(hm:1<=m){ds:List D}(R:∀d∈ds,∃l,d=.tup l)(U:ds.length<=100000):prog.call m 45 [.tup ds] M=.ok (.bl true) M:=by
 rw[call_of hm rfl];have c1:Hh.den ⟨prog.call (m-1),prog.cls⟩ [some (.tup ds)] M=.ok (.vl []) M:=by
  unfold Hh;rw[Zd (ds:=ds) (M1:=M) (q:=λ_=>false) (g:=λ_=>.non) rfl U (λx hx=>by
   obtain⟨l,rfl⟩:=R x hx;have t:rm .isTuple [.tup l] M=.ok (.bl true) M:=rfl;exact⟨_,rfl,by simp[t],λh=>by cases h⟩)]
  simp
 have Z:rm .isTuple [.tup ds] M=.ok (.bl true) M:=rfl;have G:wj M (.vl []) (.vl [])=some true:=rfl;simp[Fn.run,Qt,Qs,c1,Z,G]
theorem adg{f:D->D->Option Bool}:∀{l:List D},(∀x∈l,f x x=some true)->Rq f l l=some true
 |[],_=>rfl|x::l,h=>by simp[Rq,h x (by simp),adg λy Z=>h y (bc _ Z)]
def az9(M:di)(k:Nat)(l:Y3):Nj M (k+2) (t7 l) (t7 l)=some true:=adg λx Z=>by obtain⟨y,_,rfl⟩:=bf.mp Z;exact(Jy M k y y).trans (by simp)
def akz(M:di)(k:Nat)(q:List (List Nat)):Nj M (k+3) (rD q) (rD q)=some true:=adg λx Z=>by obtain⟨y,_,rfl⟩:=bf.mp Z;exact az9 M k y
def bcl(M:di)(s:Y3)(a:List (List Nat)):wj M (gh s a) (gh s a)=some true:=adg λx Z=>by
 rcases cu.mp Z with rfl|Z
 .exact az9 M 3 s
 .rw[uv.mp Z];exact akz M 2 a
abbrev EL(sc st pt:D)(n:Nat)(ws:D)(b5 b6 b7 b8:Option D):Env:=[some sc,some st,some pt,sR n,some ws,b5,b6,b7,b8]
def eq_str(M:di)(x:PySem.Str):wj M (.str x) (.str x)=some true:=by show some (decide (x=x))=_;simp
def atj(G:5<=m)(P:Ji sz K hs ie)(w:K4 K hs s a)(h:Made n r' K hs ie M) :
 ∃b6 b7 M',Wd.den (PW m) (EL sc st pt n ws (some (gh s a)) c6 c7 c8) M=.ok (.next,EL sc st pt n ws (some (gh s a)) b6 b7 c8) M'/\Ba M M':=by
 obtain⟨R,U⟩:=atf P w;have e1:=Zw (m:=m) (M:=M) (a_ (by decide) G) rfl R U;have e2:=adf (m:=m) (M:=M) (a_ (by decide) G) rfl R U;obtain⟨M',e3,k⟩:=ath G P w h;have t1:prog.call m 45 [gh s a] M'=.ok (.bl true) M':=Uw (a_ (by decide) G) (ds:=[t7 s,.tup (a.map t7)]) (λd Z=>by
  rcases cu.mp Z with rfl|Z
  .exact⟨_,rfl⟩
  .exact⟨_,uv.mp Z⟩) (by simp)
 have t2:prog.call m 45 [.tup (a.map t7)] M'=.ok (.bl true) M':=Uw (a_ (by decide) G) (λd Z=>by
  obtain⟨l,_,rfl⟩:=bf.mp Z;exact⟨_,rfl⟩) (by simp at U⊢;exact a_ U (by decide))
 have q:=bcl M' s a;generalize xT (s::a)=x at *;exact⟨some (.str x),some (gh s a),M',by simp[Wd,e1,e2,Fe,eq_str,e3,t1,Tz,t2,q],k⟩
def a6f{m:Nat}{ns:Xs}{M:di}(Z:7<=m):∃M',prog.call m 46 [.fz (ns.map D.int)] M=.ok (.bl true) M':=by
 rw[call_of (a_ (by decide) Z) rfl];obtain⟨n0,f0,s0,o0⟩:=aoy (m:=m-1) (k:=0) (ns:=ns) (M:=M) (r_ (a_ (by decide) Z));have s0:prog.call (m-1) 13 [.fz (ns.map D.int),.int 0] M=_:=s0;have q5:V2 M.length f0 (M++[.lst [.int n0,.bl f0]]):=⟨n0,by simp,o0⟩;obtain⟨K,r,sz,R,ie,M1,e0,p0,lr,P,t0⟩:=agy (m:=m-1) (r_ (a_ (by decide) Z)) q5;have e0:prog.call (m-1) 17 [.ref M.length] (M++[.lst [.int n0,.bl f0]])=.ok (De K r R) M1:=e0;have qq:r≠M.length:=by have:=lr;simp at this;lia
 have nn:(M1++[.ins 3 []])[M1.length]?=some (.ins 3 []):=by simp
 obtain⟨M2,a0,i0,md,la,lb,k0⟩:=avq (M:=M1++[.ins 3 []]) (m:=m-1) (r:=r) (n:=M1.length) (r_ (a_ (by decide) Z)) P (yh p0) nn;have qk:Ba M1 M2:=λa o h=>k0 a o (by have:=yo h;exact h_ this) (yh h)
 have mk:(Ex.make 3 (.q (.ix (.v 2) (.i 0)) (.ix (.v 2) (.i 1)) (.ix (.v 2) (.i 2)))).den (PW (m-1)) [some (.fz (ns.map D.int)),sR M.length,sP K r R,none,none,none,none,none,none] M1=.ok (.ref M1.length) M2:=by have cl:(prog.cls)[3]?=some ⟨0,[(0,1),(1,2),(2,3)]⟩:=rfl;simp[Tt,Qz,az4,cl,i0]
 have q3:M.length<M1.length:=by obtain⟨k,h,o⟩:=t0.has;exact yo h
 have nt:M1.length≠M.length:=i_ q3;have q7:V2 M.length f0 M2:=by obtain⟨k,h,o⟩:=t0.has;exact⟨k,qk _ _ h,o⟩
 have q0:a0≠M.length:=by have:=la;simp at this;lia
 have h3:=P.k3;obtain⟨s1,a1,M4,e4,w1,s4⟩:=afy (m:=m-1) (r:=r) (r_ (a_ (by decide) Z)) P q7 (qk _ _ p0) qq;obtain⟨U,G,M5,e5,w2,s5⟩:=afy (m:=m-1) (r:=r) (r_ (a_ (by decide) Z)) P s4.has (s4.keep _ _ qq (qk _ _ p0)) qq;have q2:=s4.trans s5;have qj:Made M1.length a0 K R ie M5:=⟨q2.keep _ _ nt md.1,q2.keep _ _ q0 md.2⟩;have c2:abl.den (PW (m-1)) [some (.fz (ns.map D.int)),sR M.length,sP K r R,sR M1.length,none,none,none,none,none] M2=.ok (.vl [gh s1 a1,gh U G]) M5:=by unfold abl;rw[Hu];simp[srcOf,z8,Src.len,Cy,Src.item,Src.fin,Tg.put,e4,e5,vd]
 obtain⟨q8,M6,e6,⟨b5,b6,b7,rfl⟩,k6⟩:=a08 (W:=PW (m-1)) (s:=.con [gh s1 a1,gh U G]) (n:=2) (t:=.name 5) (b:=Wd) (it:=.val (.v 4)) (ρ:=EL (.fz (ns.map D.int)) (.ref M.length) (De K r R) M1.length (.vl [gh s1 a1,gh U G]) none none none none) (M:=M5) (M1:=M5) rfl rfl
  (λ_ ρ M'=>(∃b5 b6 b7,ρ=EL (.fz (ns.map D.int)) (.ref M.length) (De K r R) M1.length (.vl [gh s1 a1,gh U G]) b5 b6 b7 none)/\Ba M5 M') ⟨⟨none,none,none,rfl⟩,λ_ _ h=>h⟩ (λ_ _ _=>rfl) (λj ρ M' hj hI=>by
   obtain⟨⟨b5,b6,b7,rfl⟩,k⟩:=hI;obtain⟨s,a,w,it⟩:∃s a,K4 K R s a/\(Src.con [gh s1 a1,gh U G]).item j M'=some (gh s a):=match j,hj with
    |0,_=>⟨s1,a1,w1,rfl⟩|1,_=>⟨U,G,w2,rfl⟩
   obtain⟨c6,c7,M7,e7,k7⟩:=atj (m:=m-1) (sc:=.fz (ns.map D.int)) (st:=.ref M.length) (pt:=De K r R) (ws:=.vl [gh s1 a1,gh U G]) (c6:=b6) (c7:=b7) (c8:=none) (r_ (a_ (by decide) Z)) P w (qj.keep k);exact⟨_,EL (.fz (ns.map D.int)) (.ref M.length) (De K r R) M1.length (.vl [gh s1 a1,gh U G]) (some (gh s a)) b6 b7 none,it,rfl,_,M7,e7,⟨_,c6,c7,rfl⟩,λa o h=>k7 a o (k a o h)⟩)
 have e6:aix.den (PW (m-1)) _ _=_:=e6;have q1:∀M,Aw (.vl [gh s1 a1,gh U G]) (.int 0) M=some (gh s1 a1):=λ_=>rfl
 have qv:∀M,Aw (.vl [gh s1 a1,gh U G]) (.int 1) M=some (gh U G):=λ_=>rfl
 have q4:V2 M.length f0 M6:=by obtain⟨k,h,o⟩:=s5.has;exact⟨k,k6 _ _ h,o⟩
 obtain⟨v,M7,e7,s7,hv⟩:=ay2 (m:=m-1) (r:=r) (r_ (a_ (by decide) Z)) P q4 w1 w2;rcases hv with⟨rfl,_⟩|⟨rr,rfl,f⟩
 .have n0:Fe .is .non .non M7=some true:=rfl
  exact⟨M7,by simp[-W4,Fn.run,aiy,aov,s0,e0,mk,c2,e6,q1,qv,e7,n0]⟩
 .have n0:Fe .is (rD rr) .non M7=some false:=rfl
  obtain⟨h1,h2⟩:=atg w1 w2 h3 f.1;have hn:rr≠[]:=λz=>by have:=f.1.len;rw[z,w1.ls]at this;have:=P.k1;simp at *;lia
  have q6:Made M1.length a0 K R ie M7:=(⟨s7.keep _ _ nt (qj.keep k6).1,s7.keep _ _ q0 (qj.keep k6).2⟩:Made M1.length a0 K R ie M7);have c1:aiw.den (PW (m-1)) (EL (.fz (ns.map D.int)) (.ref M.length) (De K r R) M1.length (.vl [gh s1 a1,gh U G]) b5 b6 b7 (some (rD rr))) M7=.ok (.vl ((rr.map rT).map D.str)) M7:=ah2 (m:=m-1) (r_ (a_ (by decide) Z)) 43 (λl=>Vw (r_ (a_ (by decide) Z))) h1 h2 rfl rfl;have j:=Wo (M:=M7) p_r (ade h1 h2) (d:=.vl ((rr.map rT).map D.str)) rfl;have j:Hw .join (.str ⟨#[32,59,32]⟩) [.vl ((rr.map rT).map D.str)] M7=.ok (.str (xT rr)) M7:=j;have e8:=ati (m:=m-1) (r_ (a_ (by decide) Z)) P w1 w2 q6 f hn;have e9:=ah3 (m:=m-1) (M:=M7) (r_ (a_ (by decide) Z)) h1 h2;have t1:prog.call (m-1) 45 [rD rr] M7=.ok (.bl true) M7:=Uw (r_ (a_ (by decide) Z)) (λd hd=>by
   obtain⟨l,_,rfl⟩:=bf.mp hd;exact⟨_,rfl⟩) (by simp;exact a_ h2 (by decide))
  have q:wj M7 (rD rr) (rD rr)=some true:=akz M7 3 rr;exact⟨M7,by simp[-W4,-List.map_map,Fn.run,aiy,aov,s0,e0,mk,c2,e6,q1,qv,e7,n0,c1,s_r,j,e8,e9,eq_str,t1,q]⟩
open PySem L2
open PySem.W
set_option maxHeartbeats 0 in
def all_mk{l:OpenLaw}{K:Frag}{fs:X9}{cs:List FuncData}{C a0 a1 G a3:Addr}{c0 c1 c2 c3:FuncData}(qq:mg "law"= some (.ref fa))
 (aC:Ck.Rk K mg tab (a0::a1::G::a3::G::G::(fs++[fa])) tab.cls [none,none,none,some C] prog.cls) (aG:Ck.Y6 mg tab.fns (a0::a1::G::a3::G::G::(fs++[fa]))) (aF:Ck.afo K Ds sts (a0::a1::G::a3::G::G::(fs++[fa])) (c0::c1::c2::c3::c2::c2::(cs++[fnOf "law" "law" (Hr (top 56)) (Ew (top 56)) (Bb (top 56)) .none kW dc pm an cd ct]))) (aV:Ck.ar3 mg tab.axs) (aS:Ck.ar4 mg tab.css) (aB:Ck.AllB mg Ck.O9) (h1:fs.length=40) (h2:cs.length=40) :
 ∃fd:FuncData,(∀(s:Shared)(v:Value),BindsTo s fd ⟨[v],[]⟩ [("script",v)])/\∀Z:Heap,K.In Z->Z.Ns mainGlobals mg->Gf l.prog w K mg Z CX0 170 fa fd ["script"] (Ck.akj K):=by
 refine⟨fnOf "law" "law" (Hr (top 56)) (Ew (top 56)) (Bb (top 56)) .none kW dc pm an cd ct,λs v=>.of_eq rfl,λZ _ _=>?_⟩;obtain⟨d,a,f,g1,U,R,g4,g5⟩:=Ck.a5s (P:=l.prog) (w:=w) (base:=Z) (n:=10) (i:=46) (F:=aiy) bg9 chk bha bhb bhc aF aG aC aV aS aB rfl;cases g1;replace U:(fs++[fa])[40]?=some a:=U;replace R:(cs++[_])[40]?=some f:=R;rw[<-h1]at U;rw[<-h2]at R;rw[il (bh _),Nat.sub_self]at U R;cases U;cases R;exact g5.imp λvs H Q E hh=>Ck.ayd (λns hl=>a6f (by decide)) hh
end K81
open PySem PySem.W PyProof.Rows
namespace PySem.W.Fast
def tw5786454701506271145:=Nat
def tw14430020026829416117:=Nat
def tw4738756866929487108:=Nat
def tw18010156478888310395:=Nat
def tw17212156014248654624:=Nat
def tw12709600350815856565:=Nat
def tw11993042593193895853:=Nat
def tw7309069271662836802:=Nat
def tw8753820817579053554:=Nat
def tw10562202162805792498:=Nat
def tw4597307126453867712:=Nat
def tw7375763543992582231:=Nat
def tw3936391723668310325:=Nat
def tw7799893450095851498:=Nat
def tw5334398152744370977:=Nat
def tw10653302751124997119:=Nat
def tw13033885698078521125:=Nat
def tw263266215712400306:=Nat
def tw16048590552973564300:=Nat
def tw7534532201151587014:=Nat
def tw14282506597821296027:=Nat
def tw9955329349491546239:=Nat
def tw17160568511815856901:=Nat
def tw2627422970358130048:=Nat
def tw3980815338705456549:=Nat
def tw9765059035634922426:=Nat
def tw3125716182804868343:=Nat
def tw2514565313084436386:=Nat
def tw18194082572776657144:=Nat
def tw2977853986892586036:=Nat
def tw3452746673330498264:=Nat
def tw13539927674721306390:=Nat
def tw6642936322084560931:=Nat
def tw11904676325030758772:=Nat
def tw359501019767578706:=Nat
def tw14487789536343266332:=Nat
def tw3922458830271475775:=Nat
def tw9734251210723076466:=Nat
def tw8166273999245146381:=Nat
def tw4812280991968209811:=Nat
def tw5596822993736998804:=Nat
def tw17081523805114675219:=Nat
def tw14067212140074526810:=Nat
def tw15157323853265575426:=Nat
def tw485167378719701094:=Nat
def tw7313312398333786514:=Nat
def tw2740222637761619583:=Nat
def tw4567608963860377408:=Nat
def tw12135203641918938443:=Nat
def tw15143042280033897312:=Nat
def tw5170527219263124821:=Nat
def tw6675031450213489206:=Nat
def tw1545179460842003225:=Nat
def tw8522622630000554300:=Nat
def tw8277685164976119526:=Nat
def tw7566602236349274477:=Nat
def tw10879382352391309465:=Nat
def tw3323065676402315514:=Nat
def tw16814733291923340483:=Nat
def tw4375532572899181370:=Nat
def tw14583730783853556959:=Nat
def tw11854223479007472679:=Nat
def tw1865115771134308053:=Nat
def tw2226511211694933062:=Nat
def tw7500654767065068541:=Nat
def tw8929937584339600655:=Nat
def tw18123874244553202925:=Nat
def tw5304993170555968121:=Nat
def tw11154746005058283648:=Nat
def tw3489320567767072670:=Nat
def tw6678508176827413031:=Nat
def tw10245989124406559224:=Nat
def tw1053144421445694070:=Nat
def tw7282188817780417752:=Nat
def tw9598458260665908365:=Nat
def tw16398831078596317061:=Nat
def tw9558723830024462633:=Nat
def tw8878802946064036917:=Nat
def tw7757266676427622111:=Nat
def tw8345620353684355821:=Nat
def tw14354671497363274091:=Nat
def tw5111373527271973242:=Nat
def tw18093047999596614806:=Nat
def tw5286568174339816675:=Nat
def tw16892138421124753046:=Nat
def tw13973968555351859204:=Nat
def tw16246306724822291770:=Nat
def tw12166264876109152697:=Nat
def tw13799330659791509797:=Nat
def tw12020634094116958856:=Nat
def tw7805049325172007761:=Nat
def tw7845714840379393952:=Nat
def tw16782438076988521844:=Nat
def tw1349044496767980111:=Nat
def tw14156027412448461237:=Nat
def tw5651298192047952599:=Nat
def tw7146722103296329660:=Nat
def tw13788201113133710580:=Nat
def tw14096134989799417397:=Nat
def tw17271843494943948700:=Nat
def tw14501737757433396450:=Nat
def tw7441965511064984173:=Nat
def tw17919173446885129900:=Nat
def tw1252463228854641654:=Nat
def tw7435319748910888354:=Nat
def tw18244238166538128859:=Nat
def tw17800268005823568655:=Nat
def tw16865965929557539996:=Nat
def tw10394407731781964158:=Nat
def tw13309484032890010286:=Nat
def tw2374743411706066797:=Nat
def tw7271056423243524050:=Nat
def tw3499755168247616119:=Nat
def tw1723510518186312320:=Nat
def tw1374185102140898562:=Nat
def tw6172955413566386533:=Nat
def tw11154018891067536662:=Nat
def tw14933138516441285450:=Nat
def tw15087993268750554620:=Nat
def tw7826476065941175863:=Nat
def tw5976397121507811797:=Nat
def tw6045902069728756113:=Nat
def tw17870776544593490779:=Nat
def tw5912775278989623050:=Nat
def tw9756161512636043645:=Nat
def tw18142959805406160890:=Nat
def tw9696535693573892631:=Nat
def tw6187893759225371526:=Nat
def tw17907375098069582661:=Nat
def tw18161011996404565008:=Nat
def tw8147744919508322168:=Nat
def tw8118597814470578237:=Nat
def tw12985877835721558708:=Nat
def tw15712323047194654564:=Nat
def tw3115166360632821930:=Nat
def tw1251349431628787517:=Nat
def tw11395476430469564768:=Nat
def tw11423985857217562816:=Nat
def tw14594204259074402284:=Nat
def tw6193930109657451801:=Nat
def tw9937115631262673291:=Nat
def tw15616391751654694964:=Nat
def tw34968583316004031:=Nat
def tw12125446452248161434:=Nat
def tw6844410457409041724:=Nat
def tw9365233328112278926:=Nat
def tw15268532347630427906:=Nat
def tw5123021222113016938:=Nat
def tw9647805061752642239:=Nat
def tw1203695203038272365:=Nat
def tw576536204228647592:=Nat
def tw3231413491851513603:=Nat
def tw10316491705762656029:=Nat
def tw11949753836442529510:=Nat
def tw17591134660818775021:=Nat
def tw10112619896785195283:=Nat
def tw5769028145104993457:=Nat
def tw150823885381898613:=Nat
def tw5640602509411543024:=Nat
def tw9951998805645935943:=Nat
def tw9362287233876170850:=Nat
def tw5965433774109605875:=Nat
def tw4258136538638651584:=Nat
def tw14181449057523925177:=Nat
def tw11209732502490155006:=Nat
def tw1031182585444693419:=Nat
def tw14468207348561162600:=Nat
def tw7660105561490360192:=Nat
def tw40698476504167518:=Nat
def tw2994446580158726912:=Nat
def tw549983934208042752:=Nat
def tw9584608010151023968:=Nat
def tw9304825676099514388:=Nat
def tw6240196015856223842:=Nat
def tw4823933319008773027:=Nat
def tw4927096042747327543:=Nat
def tw1578605060033825909:=Nat
def tw7845355376049257320:=Nat
def tw11253498588975658470:=Nat
def tw15553222195917668653:=Nat
def tw224711374991201329:=Nat
def tw6433541058814149818:=Nat
def tw13445883088874680080:=Nat
def tw13292452614073794841:=Nat
def tw8929689429543151593:=Nat
def tw8917936626401149587:=Nat
def tw12347371665225960036:=Nat
def tw10950720681193937445:=Nat
def tw16577502761301699000:=Nat
def tw6066875335581163206:=Nat
def tw5384299555606811171:=Nat
def tw14403854355807621582:=Nat
def tw233450670120745814:=Nat
def tw17954561928390226732:=Nat
def tw1677316654221594454:=Nat
def tw2099578066613622230:=Nat
def tw10507051242389095911:=Nat
def tw1781487584492541294:=Nat
def tw9520042712120573209:=Nat
end PySem.W.Fast
set_option maxRecDepth 100000 in
set_option maxHeartbeats 0 in
theorem PySem.Challenge.cw_mapwright_k81_worlds_and_maps_written_holds : PySem.Challenge.rw_mapwright_k81_worlds_and_maps_written.Holds := by
 w_on;o_law;k_head;(case hw=>w_witness2)
 k_fill
 refine Ck.walk (l:=PySem.Challenge.rw_mapwright_k81_worlds_and_maps_written) rfl rfl (λw h Y=>PySem.W.kIn_of Y) ?F
 case F =>
  intro w mg fa h KX G hmg;have hl:=mg_of KX G (n :="law") (v:=.ref _) (by k_is);cases hmg.symm.trans hl;exact K81.all_mk (fs:=[_,_,_,_,_,_,_,_,_,_,_,_,_,_,_,_,_,_,_,_,_,_,_,_,_,_,_,_,_,_,_,_,_,_,_,_,_,_,_,_]) (cs:=[_,_,_,_,_,_,_,_,_,_,_,_,_,_,_,_,_,_,_,_,_,_,_,_,_,_,_,_,_,_,_,_,_,_,_,_,_,_,_,_]) hmg
   (by
    refine Ck.cO (Ck.cO (Ck.cO (Ck.cS ⟨mg_of KX G (by k_is),⟨by k_is,by k_is,by k_is,by k_is⟩,⟨_,rfl,⟨by k_is,by k_is,by k_is,by k_is⟩⟩,?_,?_⟩ Ck.cN)))
    .repeat (first|exact Ck.mN|refine Ck.mC rfl rfl ⟨by k_is,by k_is,by k_is⟩ ?_)
    .repeat (first|exact Ck.nN|refine Ck.nC (by k_is) ?_))
   (by repeat (first|exact Ck.gN|refine Ck.gO ?_|refine Ck.gS (mg_of KX G (by k_is)) ?_))
   (by repeat (first|exact Ck.fN|refine Ck.fE ⟨by k_is,by k_is,by k_is⟩ ?_))
   (by repeat (first|exact Ck.vN|refine Ck.vC (mg_of KX G (by k_is)) ?_))
   (by repeat (first|exact Ck.sN|refine Ck.sC (mg_of KX G (by k_is)) ?_))
   (by repeat (first|exact Ck.bN|refine Ck.bC (mg_none_of KX G (by k_is)) ?_)) rfl rfl
